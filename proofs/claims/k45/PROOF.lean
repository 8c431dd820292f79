import PyProof.Rows.All
import Wide.All
import OpenK.AllK
import Wide.FinOn
import PyProof.EqAt
import PyProof.EqKinds
import PyProof.TupleCall
import Lean
import PySem.Challenge.RW_foretell_k45_two_stores
set_option Elab.async false
set_option linter.all false
set_option compiler.extract_closed false
set_option maxRecDepth 100000
set_option maxHeartbeats 4000000
namespace PySem.W.Fast
local macro_rules
 | `(#synth $k:ident $ns*)=>do return Lean.mkNullNode ((<-ns.mapM fun n=>`(theorem $(Lean.mkIdent (.mkSimple s!"tw{((`H0).str s!"{k.getId}_{n.raw.isNatLit?.get!}").hash}")) : True:=⟨⟩)).map (·.raw))
 | `(#synth $k:ident)=>`(theorem $(Lean.mkIdent (.mkSimple s!"tw{k.getId.hash}")) : True:=⟨⟩)
#synth PySem.Challenge.pw_foretell_k45_two_stores
#synth heap 1317 39 46
#synth tree 1316 1186 1272 1046 1004 953 898 840 775 746 659 612 561 516 466 423 380 343 298 250 235 220 205 190 175 160 145 130 115 100 85 70
#synth view 39
#synth o 1276 1047 1005 954 899 841 776 747 660 613 562 517 467 1316 1314 424 381 344 299 1294 645 1292 643 251 1289 1311 1287 1309 1139 236 1092 1231 1172 1181 1137 1306 1134 537 221 1170 1051 673 1229 1090 206 1304 1271 1132 535 812 671 191 1301 549 953 176 810 547 1252 1113 1299 161 951 946 454 146 1250 1111 718 944 640 131 877 298 927 1011 741 452 919 411 591 116 905 584 716 638 875 296 664 1009 1063 1202 101 925 833 561 497 990 516 917 409 903 589 939 678 86 582 856 732 559 831 1266 1127 1190 1200 1061 761 988 514 71 863 495 937 983 1284 835 676 1259 1120 314 544 307 854 768 598 730 1125 1264 49 1245 1106 490 725 893 861 780 759 826 981 321 912 1118 1257 976 312 766 305 999 1282 542 654 596 607 969 791 845 683 1243 1104 342 488 723 824 934 1153 870 404 958 754 617 319 566 974 910 1018 1099 1238 1146 328 967 556 789 681 286 272 375 335 628 429 386 472 525 805 340 1151 932 1160 690 402 752 868 1039 506 463 420 1144 1016 1236 1097 348 532 326 554 577 1041 333 284 626 270 997 483 440 711 803 1167 397 1179 366 1158 1223 1084 523 688 293 775 279 1025 1028 1037 1297 891 530 575 697 635 1077 1216 739 1209 1070 652 461 359 819 884 605 418 798 504 373 704 481 66 395 60 447 709 121 196 91 76 1221 106 1082 226 181 166 136 211 256 438 995 151 1165 241 1177 364 253 238 223 208 193 178 163 217 142 247 127 82 202 97 112 232 187 262 172 157 889 148 291 277 133 1023 118 773 103 88 1214 1075 73 128 695 67 113 1207 1068 233 633 173 702 98 83 203 158 188 737 357 263 143 459 218 650 817 603 740 882 445 248 371 502 416 796 949 1227 1088 57 731 1244 1105 923 696 825 1076 1208 1166 1069 1215 996 710 1126 1265 1152 1159 1237 689 1178 634 1098 1133 1272 855 1145 862 738 703 1112 1251 627 682 869 672 724 883 1258 1119 717 1083 576 1222 396 890 1201 1062 989 651 1138 818 968 446 439 403 677 358 597 975 876 453 986 583 982 797 410 604 365 790 590 1038 417 482 489 460 811 372 1230 1091 832 496 639 1171 503 804 644 313 760 774 306 1017 904 327 320 1024 297 555 548 1283 271 334 285 524 918 543 767 292 515 1300 531 1288 341 560 952 278 536 892 926 1310 915 753 1305 945 938 1180 1010 933 911 587 1293 63 908 942 56 124 808 594 169 580 45 667 199 979 109 79 1095 1234 1130 94 1269 1315 259 229 184 848 1054 620 214 1193 389 154 139 961 569 464 469 742 1031 432 351 783 421 475 426 244 507 383 655 1000 1182 894 1280 1042 836 376 608 764 55 998 930 873 450 834 1123 1262 829 972 1198 1059 343 757 1035 1109 1248 714
#synth sts 1276 1047 899 660 517 613 776 299 841 562 467 954 747 251 1005 381 424 344 49 116 191 101 71 161 221 176 86 146 131 206
end PySem.W.Fast
section
open PySem PySem.W PyProof.Rows
local macro_rules | `(tactic| refine $f:ident $as*)=>do
 unless f.getId==`PySem.W.holds_open do Lean.Macro.throwUnsupported
 `(tactic| (refine ($f $as*); case $(Lean.mkIdent `hc):ident=>exact $(Lean.mkIdent `hP)))
set_option maxRecDepth 100000 in
set_option maxHeartbeats 0 in
def H0:PSigma fun P:Prop=>P->PySem.Challenge.rw_foretell_k45_two_stores.Holds:=by
 refine' ⟨_,fun hP=>?_⟩
 rotate_left
 w_on; o_law; k_head
 w_witness2
end
section
open PySem PySem.Spec PyProof.Rows
theorem cH:type_of% @List.length_map:=@List.length_map
theorem cT:type_of% @wpAny_bind:=@wpAny_bind
theorem de:type_of% @Heap.get?_push_of_some:=@Heap.get?_push_of_some
theorem df:type_of% @List.getElem?_eq_getElem:=@List.getElem?_eq_getElem
theorem dh:type_of% @Nat.le_refl:=@Nat.le_refl
theorem di:type_of% @List.mem_map:=@List.mem_map
theorem dm:type_of% @List.getElem?_map:=@List.getElem?_map
theorem dn:type_of% @wpAny_pure:=@wpAny_pure
theorem du:type_of% @Heap.lt_size:=@Heap.lt_size
theorem dv:type_of% @List.length_append:=@List.length_append
theorem dw:type_of% @decide_eq_true:=@decide_eq_true
theorem dy:type_of% @List.size_toArray:=@List.size_toArray
theorem dz:type_of% @Heap.get?_push_size:=@Heap.get?_push_size
theorem dA:type_of% @List.mem_cons:=@List.mem_cons
theorem dB:type_of% @List.mem_singleton:=@List.mem_singleton
theorem dC:type_of% @List.mem_append_right:=@List.mem_append_right
theorem dD:type_of% @Option.some.inj:=@Option.some.inj
theorem dE:type_of% @Bool.false_ne_true:=@Bool.false_ne_true
theorem dF:type_of% @List.map_append:=@List.map_append
theorem dG:type_of% @decide_eq_false:=@decide_eq_false
theorem dH:type_of% @Nat.ne_of_lt:=@Nat.ne_of_lt
theorem dI:type_of% @List.mem_of_getElem?:=@List.mem_of_getElem?
theorem dJ:type_of% @Nat.zero_le:=@Nat.zero_le
theorem dL:type_of% @List.length_range:=@List.length_range
theorem dM:type_of% @List.length_take:=@List.length_take
theorem dN:type_of% @Nat.not_lt_zero:=@Nat.not_lt_zero
theorem dP:type_of% @List.getElem?_eq_none:=@List.getElem?_eq_none
theorem dQ:type_of% @Nat.lt_of_lt_of_le:=@Nat.lt_of_lt_of_le
theorem dR:type_of% @List.getD_eq_getElem?_getD:=@List.getD_eq_getElem?_getD
theorem dS:type_of% @List.mem_cons_self:=@List.mem_cons_self
theorem dU:type_of% @Bool.and_eq_true:=@Bool.and_eq_true
theorem dW:type_of% @List.length_cons:=@List.length_cons
theorem dX:type_of% @List.map_map:=@List.map_map
theorem dY:type_of% @List.mem_append:=@List.mem_append
theorem dZ:type_of% @Nat.le_trans:=@Nat.le_trans
theorem d5:type_of% @List.mem_cons_of_mem:=@List.mem_cons_of_mem
theorem d6:type_of% @List.map_cons:=@List.map_cons
theorem d7:type_of% @List.length_singleton:=@List.length_singleton
theorem d8:type_of% @List.getElem?_eq_some_iff:=@List.getElem?_eq_some_iff
theorem d9:type_of% @List.getElem?_append_left:=@List.getElem?_append_left
theorem ed:type_of% @List.take_succ_eq_append_getElem:=@List.take_succ_eq_append_getElem
theorem ee:type_of% @List.getElem?_append_right:=@List.getElem?_append_right
theorem eh:type_of% @Int.mul_le_mul_of_nonneg_right:=@Int.mul_le_mul_of_nonneg_right
theorem ei:type_of% @List.getElem_mem:=@List.getElem_mem
theorem ej:type_of% @List.take_of_length_le:=@List.take_of_length_le
theorem em:type_of% @List.append_assoc:=@List.append_assoc
theorem ew:type_of% @List.mem_range:=@List.mem_range
theorem ey:type_of% @wpAny_truthy_bool:=@wpAny_truthy_bool
theorem ez:type_of% @List.getElem?_range:=@List.getElem?_range
theorem eA:type_of% @wpAny_field:=@wpAny_field
theorem eE:type_of% @Int.mul_le_mul_of_nonneg_left:=@Int.mul_le_mul_of_nonneg_left
theorem eF:type_of% @Option.map_some:=@Option.map_some
theorem eG:type_of% @List.take_length:=@List.take_length
theorem eH:type_of% @Int.emod_lt_of_pos:=@Int.emod_lt_of_pos
theorem eI:type_of% @List.nodup_cons:=@List.nodup_cons
theorem eJ:type_of% @List.append_nil:=@List.append_nil
theorem eK:type_of% @List.mem_of_mem_take:=@List.mem_of_mem_take
theorem eL:type_of% @Nat.lt_irrefl:=@Nat.lt_irrefl
theorem eM:type_of% @List.replicate_succ:=@List.replicate_succ
theorem eP:type_of% @Array.length_toList:=@Array.length_toList
theorem eQ:type_of% @beq_eq_false_iff_ne:=@beq_eq_false_iff_ne
theorem eR:type_of% @List.getElem_map:=@List.getElem_map
theorem eS:type_of% @wpAny_mono:=@wpAny_mono
theorem eT:type_of% @Int.emod_nonneg:=@Int.emod_nonneg
theorem eU:type_of% @List.mem_append_left:=@List.mem_append_left
theorem eV:type_of% @List.length_drop:=@List.length_drop
theorem eW:type_of% @List.mem_filter:=@List.mem_filter
theorem eY:type_of% @Nat.lt_succ_self:=@Nat.lt_succ_self
theorem eZ:type_of% @List.eq_nil_of_length_eq_zero:=@List.eq_nil_of_length_eq_zero
end
namespace L2
open PySem PySem.Spec PyProof.Rows
variable {C:Addr} {op:CmpOp} {tg:Expr} {fd:FuncData} {h':Heap} {pins:List (Addr × Obj)} {kw:List (Str × Value)} {fp:List Addr} {es:List Expr} {body:List Stmt} {us:List Value} {M:Model} {i t':Nat} {P:Program} {s':Shared} {mA:Str->Option Value} {u:Value} {E Q:Value->Shared->Prop}
abbrev Key:=Sum Int Str
def yfh:Key->Value->Bool
 | .inl k,v=>Value.isInt k v
 | .inr x,v=>Value.isStrOf x v
def vbr (w:World):Key->Int
 | .inl k=>hashInt k
 | .inr x=>hashStr w x
theorem w5:∀ {k:Key} {v:Value},yfh k v=true->(∃ i t,k=Sum.inl i/\v=Value.int i t)\/(∃ x t,k=Sum.inr x/\v=Value.str x t)
 | .inl i,v,h=>by
  obtain ⟨t,e⟩:=Value.isInt_shape (k:=i) (v:=v) h;exact .inl ⟨i,t,rfl,e⟩
 | .inr x,v,h=>by
  obtain ⟨t,e⟩:=Value.isStrOf_shape (x:=x) (v:=v) h;exact .inr ⟨x,t,rfl,e⟩
theorem yf8 (i:Int) (t:Tok):yfh (.inl i) (.int i t)=true:=by simp [yfh,Value.isInt]
theorem yf7 (x:Str) (t:Tok):yfh (.inr x) (.str x t)=true:=by simp [yfh,Value.isStrOf]
theorem yt8 (a b:Int):decide ((Sum.inl a:Key)=Sum.inl b)=(a == b):=by
 by_cases e:a=b
 .subst e; simp
 .have h:¬ (Sum.inl a:Key)=Sum.inl b:=fun q=>e (Sum.inl.inj q);rw [dG h];exact (eQ.mpr e).symm
theorem yw7 (a b:Str):decide ((Sum.inr a:Key)=Sum.inr b)=decide (a=b):=by
 by_cases e:a=b
 .subst e; simp
 .have h:¬ (Sum.inr a:Key)=Sum.inr b:=fun q=>e (Sum.inr.inj q);rw [dG h,dG e]
theorem ys3 (a:Int) (b:Str):decide ((Sum.inl a:Key)=Sum.inr b)=false:=dG (fun q=>nomatch q)
theorem yun (a:Str) (b:Int):decide ((Sum.inr a:Key)=Sum.inl b)=false:=dG (fun q=>nomatch q)
def we (prog:Program) (w:World):PySem.KeyKind prog w Key where
 is:=yfh
 hash:=vbr w
 inj:=fun v a b ha hb=>by
  rcases w5 ha with ⟨i,t,rfl,rfl⟩ | ⟨x,t,rfl,rfl⟩
  .rcases w5 hb with ⟨j,u,rfl,e⟩ | ⟨y,u,rfl,e⟩
   .injection e with e1 _; rw [e1]
   .exact nomatch e
  .rcases w5 hb with ⟨j,u,rfl,e⟩ | ⟨y,u,rfl,e⟩
   .exact nomatch e
   .injection e with e1 _; rw [e1]
 byValue:=fun k v h=>by
  rcases w5 h with ⟨i,t,rfl,rfl⟩ | ⟨x,t,rfl,rfl⟩ <;> rfl
 pyHash:=fun hv h=>by
  rcases w5 hv with ⟨i,t,rfl,rfl⟩ | ⟨x,t,rfl,rfl⟩
  .exact wpAny_pyHash_int h
  .exact wpAny_pyHash_str h
 eqBool:=fun hu hv h=>by
  rcases w5 hu with ⟨i,t,rfl,rfl⟩ | ⟨x,t,rfl,rfl⟩
  .rcases w5 hv with ⟨j,u,rfl,rfl⟩ | ⟨y,u,rfl,rfl⟩
   .rw [yt8] at h; exact wpAny_eqBool_int h
   .rw [ys3] at h; exact SeqAt.EqAt.int_str i t y u _ _ _ _ h
  .rcases w5 hv with ⟨j,u,rfl,rfl⟩ | ⟨y,u,rfl,rfl⟩
   .rw [yun] at h; exact SeqAt.EqAt.str_int x t j u _ _ _ _ h
   .rw [yw7] at h; exact wpAny_eqBool_str h
 «strs»:=fun k x t v h=>by
  rcases w5 h with ⟨i,u,rfl,e⟩ | ⟨y,u,rfl,e⟩
  .exact nomatch e
  .injection e with e1 _;subst e1;cases v <;> rfl
theorem ybw (prog:Program) (w:World) (i:Int) (t:Tok):(we prog w).is (.inl i) (.int i t)=true:=yf8 i t
theorem ybh (prog:Program) (w:World) (x:Str) (t:Tok):(we prog w).is (.inr x) (.str x t)=true:=yf7 x t
inductive V where
 | non | bl (b:Bool) | int (i:Int) | str (x:Str) | byt (b:Array UInt8) | flt (b:UInt64) | ref (a:Addr) | ty (n:String)
 deriving DecidableEq
variable {vs xs:List V} {v y:V}
def xl:V->Value->Prop
 | .non,u=>u=Value.none
 | .bl b,u=>u=Value.bool b
 | .int i,u=>∃ t,u=Value.int i t
 | .str x,u=>∃ t,u=Value.str x t
 | .byt b,u=>∃ t,u=Value.bytes b t
 | .flt b,u=>∃ t,u=Value.float b t
 | .ref a,u=>u=Value.ref a
 | .ty n,u=>u=Value.type n
abbrev wt:List V->List Value->Prop:=Paired xl
theorem wt.length (r:wt xs us):xs.length=us.length:=Paired.length r
theorem wt.get:∀ {xs:List V} {us:List Value} {i:Nat} {x:V},wt xs us->xs[i]?=some x->∃ u,us[i]?=some u/\xl x u
 | _,_,_,_,.nil,e=>by simp at e
 | _,_,0,_,.cons r _,e=>by simp at e; subst e; exact ⟨_,rfl,r⟩
 | _,_,i+1,x,.cons _ t,e=>by
  obtain ⟨u,b,a⟩:=wt.get (i:=i) (x:=x) t (by simpa using e);exact ⟨u,by simpa using b,a⟩
theorem wt.set {x:V} (r:xl x u):∀ {xs:List V} {us:List Value} (i:Nat),wt xs us->wt (xs.set i x) (us.set i u)
 | _,_,_,.nil=>.nil
 | _,_,0,.cons _ t=>.cons r t
 | _,_,i+1,.cons q t=>.cons q (wt.set r i t)
theorem wt.append:∀ {xs ys:List V} {us ws:List Value},wt xs us->wt ys ws->wt (xs++ys) (us++ws)
 | _,_,_,_,.nil,s=>s
 | _,_,_,_,.cons r t,s=>.cons r (wt.append t s)
theorem wt.take:∀ {xs:List V} {us:List Value} (n:Nat),wt xs us->wt (xs.take n) (us.take n)
 | _,_,0,_=>.nil
 | _,_,_+1,.nil=>.nil
 | _,_,n+1,.cons r t=>.cons r (wt.take n t)
theorem wt.drop:∀ {xs:List V} {us:List Value} (n:Nat),wt xs us->wt (xs.drop n) (us.drop n)
 | _,_,0,r=>r
 | _,_,_+1,.nil=>.nil
 | _,_,n+1,.cons _ t=>wt.drop n t
def yba:Option V->Option Value->Prop
 | some v,some u=>xl v u
 | none,none=>True
 | _,_=>False
def KV {κ:Type}:List (κ × V)->List (κ × Value)->Prop:=Paired fun (p:κ × V) (q:κ × Value)=>p.1=q.1/\xl p.2 q.2
def kV:Key->V
 | .inl i=>.int i
 | .inr x=>.str x
inductive HO where
 | lst (xs:List V)
 | tup (xs:List V)
 | dK (kvs:List (Key × V)) | dT (kvs:List (List Key × V))
 | set (S:Int->Bool) (n:Nat)
 | ins (C dx:Addr) (fs:List (Str × V))
 | own (x:Addr)
 | xd (fs:List (Str × V))
 | met (f x:Addr)
 | rng (lo hi:Int)
 | frz (o:Obj) (u:HO)
 | tbl (ps:Array Value)
 | ext (φ:Heap->Prop)
abbrev Hp:=Addr->Option HO
variable {H H':Hp}
def upd (H:Hp) (a:Addr) (o:HO):Hp:=fun b=>if b=a then some o else H b
theorem yc {a:Addr} {o:HO}:upd H a o a=some o:=by unfold upd; rw [if_pos rfl]
theorem yn {a b:Addr} {o:HO} (h:b≠a):upd H a o b=H b:=by unfold upd; rw [if_neg h]
theorem xh {a b:Addr} {o u:HO} (h:H a=some o) (h':H b=some u) (d:o≠u):a≠b:=by
 intro e; subst e; rw [h] at h'; exact d (dD h')
theorem yd {a b:Addr} {o:HO} (h:H a=some o) (h':H b=none):a≠b:=by
 intro e; subst e; rw [h] at h'; cases h'
section
variable (P:Program) (w:World)
def xk (H:Hp) (h:Heap) (a:Addr):HO->Prop
 | .lst xs=>xs.length <= sizeLine/\∃ (its:List Value) (n:Nat),wt xs its/\h.get? a=some { cls:=.type "list",data:=.seq its.toArray n }
 | .tup xs=>xs.length <= sizeLine/\∃ its:List Value,wt xs its/\IsTup h a its.toArray
 | .dK kvs=>kvs.length <= sizeLine/\(a == sysModules)=false/\∃ vs,KV kvs vs/\h.DictOf (we P w) a vs
 | .dT kvs=>kvs.length <= sizeLine/\(a == sysModules)=false/\∃ xs:List (List Key × Addr × Value),
   Paired (fun (p:List Key × V) (q:List Key × Addr × Value)=>p.1=q.1/\H q.2.1=some (.tup (p.1.map kV))/\xl p.2 q.2.2) kvs xs /\
   ∃ o es ep,h.get? a=some o/\o.ExactDict/\o.data=.dict es ep/\es.toList=xs.map (entryOfKey (tupleKind (we P w)))/\(xs.map (·.1)).Nodup
 | .set S n=>h.SetOf (intKind P w) a S n
 | .ins C dx fs=>H dx=some (.own a)/\fs.length <= 1000/\dx≠a/\h.get? a=some (W.instObj C dx) /\
   ∃ mA,h.Ns1 dx mA/\(∀ f,yba (fs.lookup f) (mA f))/\PySem.Within mA (fs.map (·.1))
 | .own _=>∃ o,h.get? a=some o
 | .xd fs=>∃ mA,h.Ns1 a mA/\∀ f,yba (fs.lookup f) (mA f)
 | .rng lo hi=>∃ t u v,h.get? a=some { cls:=.type "range",data:=.fields #[.int lo t,.int hi u,.int 1 v] }
 | .frz o u=>h.get? a=some o/\xk H h a u
 | .tbl ps=>h.get? a=some { cls:=.none,data:=.fields ps }
 | .met f x=>h.get? a=some (W.methodObj (.ref f) (.ref x))
 | .ext φ=>φ h/\(∃ o,h.get? a=some o)/\∀ h1 h2:Heap,φ h1->(∀ o,h1.get? a=some o->h2.get? a=some o)->φ h2
def HOk (H:Hp) (h:Heap):Prop:=∀ a o,H a=some o->xk P w H h a o
end
section
variable {w:World} {h:Heap} {a:Addr} {o:HO}
theorem xk.lt (x:xk P w H h a o):a < h.objs.size:=by
 cases o with
 | lst xs=>obtain ⟨_,_,_,_,e⟩:=x; exact du e
 | tup xs=>obtain ⟨_,_,_,p⟩:=x; exact p.lt
 | dK kvs=>obtain ⟨_,_,_,_,o,_,_,e,_⟩:=x; exact du e
 | dT kvs=>obtain ⟨_,_,_,_,o,_,_,e,_⟩:=x; exact du e
 | set S n=>obtain ⟨o,_,_,_,e,_⟩:=x; exact du e
 | ins C dx fs=>obtain ⟨_,_,_,e,_⟩:=x; exact du e
 | own y=>obtain ⟨_,e⟩:=x; exact du e
 | xd fs=>obtain ⟨_,⟨_,_,_,e,_⟩,_⟩:=x; exact du e
 | rng lo hi=>obtain ⟨_,_,_,e⟩:=x; exact du e
 | frz ob u=>obtain ⟨e,_⟩:=x; exact du e
 | tbl ps=>exact du (show h.get? a=some _ from x)
 | met f y=>exact du (show h.get? a=some _ from x)
 | ext φ=>obtain ⟨_,⟨_,e⟩,_⟩:=x; exact du e
theorem Paired.mapP {α β:Type} {F G:α->β->Prop}:∀ {l₁:List α} {l₂:List β},Paired F l₁ l₂->(∀ a b,F a b->G a b)->Paired G l₁ l₂
 | _,_,.nil,_=>.nil
 | _,_,.cons r t,f=>.cons (f _ _ r) (Paired.mapP t f)
theorem xk.stay (x:xk P w H h a o) (k:∀ b u,(b=a\/H b=some (.own a))->h.get? b=some u->h'.get? b=some u)
  (ho:∀ b,H b=some (.own a)->H' b=some (.own a)) (ht:∀ b xs,H b=some (.tup xs)->H' b=some (.tup xs)):xk P w H' h' a o:=by
 induction o with
 | lst xs=>obtain ⟨z,j,n,r,e⟩:=x; exact ⟨z,j,n,r,k _ _ (.inl rfl) e⟩
 | tup xs=>obtain ⟨z,j,r,ob,e,c⟩:=x; exact ⟨z,j,r,ob,k _ _ (.inl rfl) e,c⟩
 | dK kvs=>obtain ⟨z,y,B,r,ob,i,g,e,c⟩:=x; exact ⟨z,y,B,r,ob,i,g,k _ _ (.inl rfl) e,c⟩
 | dT kvs =>
  obtain ⟨z,y,xs,r,ob,i,g,e,c⟩:=x;exact ⟨z,y,xs,Paired.mapP r fun p q z=>⟨z.1,ht _ _ z.2.1,z.2.2⟩,ob,i,g,k _ _ (.inl rfl) e,c⟩
 | set S n=>obtain ⟨ob,i,g,t,e,c⟩:=x; exact ⟨ob,i,g,t,k _ _ (.inl rfl) e,c⟩
 | ins C dx fs =>
  obtain ⟨d,z,D,e,m,⟨l,i,g,A,c⟩,r⟩:=x;exact ⟨ho _ d,z,D,k _ _ (.inl rfl) e,m,⟨l,i,g,k _ _ (.inr d) A,c⟩,r⟩
 | own y=>obtain ⟨ob,e⟩:=x; exact ⟨ob,k _ _ (.inl rfl) e⟩
 | xd fs=>obtain ⟨m,⟨l,i,g,e,c⟩,r⟩:=x; exact ⟨m,⟨l,i,g,k _ _ (.inl rfl) e,c⟩,r⟩
 | rng lo hi=>obtain ⟨t,u,v,e⟩:=x; exact ⟨t,u,v,k _ _ (.inl rfl) e⟩
 | frz ob u ih=>obtain ⟨e,q⟩:=x; exact ⟨k _ _ (.inl rfl) e,ih q⟩
 | tbl ps =>
  have e:h.get? a=some { cls:=.none,data:=.fields ps }:=x;show h'.get? a=some { cls:=.none,data:=.fields ps };exact k a _ (.inl rfl) e
 | met f y =>
  have e:h.get? a=some (W.methodObj (.ref f) (.ref y)):=x;show h'.get? a=some (W.methodObj (.ref f) (.ref y));exact k a _ (.inl rfl) e
 | ext φ=>obtain ⟨p,⟨o,e⟩,s⟩:=x; exact ⟨s _ _ p fun o q=>k _ _ (.inl rfl) q,⟨o,k _ _ (.inl rfl) e⟩,s⟩
theorem HOk.lt (x:HOk P w H h) (e:H a=some o):a < h.objs.size:=(x a o e).lt
theorem HOk.fresh (x:HOk P w H h) (e:h.objs.size <= a):H a=none:=by
 cases q:H a with
 | none=>rfl
 | some u=>exact absurd (dQ (x.lt q) e) (eL _)
theorem HOk.kept (x:HOk P w H h) (k:∀ b u,h.get? b=some u->h'.get? b=some u):HOk P w H h':=fun a o e =>
 (x a o e).stay (fun b u _ q=>k b u q) (fun _ q=>q) fun _ _ q=>q
theorem HOk.laid (x:HOk P w H h) (k:∀ b u,h.get? b=some u->h'.get? b=some u) (hp:h.objs.size <= a) (new:xk P w (upd H a o) h' a o):HOk P w (upd H a o) h':=fun b u e=>by
 have d:=x.fresh hp;by_cases hb:b=a
 .subst hb; rw [yc] at e; cases e; exact new
 .rw [yn hb] at e;exact (x b u e).stay (fun c v _ q=>k c v q) (fun c q=>by rw [yn (yd q d)]; exact q) fun c f q=>by rw [yn (yd q d)]; exact q
end
def Rd (H:Hp) (a:Addr) (u:HO):Prop:=H a=some u\/∃ o,H a=some (.frz o u)
theorem Rd.of {a:Addr} {u:HO} (h:H a=some u):Rd H a u:=.inl h
theorem Rd.ok {w:World} {h:Heap} {a:Addr} {u:HO} (r:Rd H a u) (x:HOk P w H h):xk P w H h a u:=by
 rcases r with r | ⟨o,r⟩
 .exact x a u r
 .obtain ⟨_,q⟩:=x a _ r;exact q
def Mut:Option HO->Prop
 | some (.lst _)=>True
 | some (.dK _)=>True
 | some (.dT _)=>True
 | some (.set _ _)=>True
 | some (.ins _ _ _)=>True
 | some (.ext _)=>True
 | _=>False
section
variable {w:World} {h:Heap} {x e:Addr} {o':HO}
theorem HOk.write (ok:HOk P w H h) (mu:Mut (H x)) (he:e=x\/H e=some (.own x)) (k:∀ b u,b≠e->h.get? b=some u->h'.get? b=some u) (heo:∃ u,h'.get? e=some u)
  (new:xk P w (upd H x o') h' x o'):HOk P w (upd H x o') h':=fun b u q=>by
 have a:∀ c y,H c=some (.own y)->c≠x:=fun c y r z=>by subst z; rw [r] at mu; exact mu
 have d:∀ c g,H c=some (.tup g)->c≠x:=fun c g r z=>by subst z; rw [r] at mu; exact mu
 by_cases hb:b=x
 .subst hb; rw [yc] at q; cases q; exact new
 .rw [yn hb] at q;by_cases hbe:b=e
  .have i:H b=some (.own x):=by
    rcases he with z | z
    .exact absurd (hbe.trans z) hb
    .rw [hbe]; exact z
   rw [q] at i; cases i;obtain ⟨v,j⟩:=heo;exact ⟨v,by rw [hbe]; exact j⟩
  .refine (ok b u q).stay (fun c v f r=>k c v ?_ r) (fun c r=>by rw [yn (a c b r)]; exact r) fun c g r=>by rw [yn (d c g r)]; exact r
   rcases f with rfl | f
   .exact hbe
   .rintro rfl;rcases he with z | z
    .exact a c b f z
    .rw [f] at z; cases z; exact hb rfl
end
structure Un (fs ex:List Addr) (H H':Hp) (h h':Heap):Prop where
 keep:∀ b o,h.get? b=some o->H b=none->b∉fs->b∉ex->h'.get? b=some o
 slot:∀ b o,h.get? b=some o->H b=none->b∈fs->b∉ex->∃ sl,h'.get? b=some { o with slots:=sl }
 free:∀ b o,h.get? b=some o->H b=none->b∉ex->H' b=none
 there:∀ b o,h.get? b=some o->b∉ex->∃ o',h'.get? b=some o'
 tups:∀ b xs,H b=some (.tup xs)->H' b=some (.tup xs)
 frzs:∀ b o u,H b=some (.frz o u)->H' b=some (.frz o u)
 tbls:∀ b ps,H b=some (.tbl ps)->∃ more,H' b=some (.tbl (ps++more))
section
variable {fs fs' ex ex':List Addr} {H1 H2:Hp} {h h1 h2:Heap} {a x e:Addr} {o:HO}
theorem Un.any (u:Un fs ex H H1 h h1) {b:Addr} {ob:Obj} (q:h.get? b=some ob) (n:H b=none) (hx:b∉ex):∃ sl,h1.get? b=some { ob with slots:=sl }:=by
 by_cases hb:b∈fs
 .exact u.slot b ob q n hb hx
 .exact ⟨ob.slots,u.keep b ob q n hb hx⟩
theorem Un.kept (k:∀ b u,h.get? b=some u->h'.get? b=some u):Un fs ex H H h h' :=
 ⟨fun b a q _ _ _=>k b a q,fun b a q _ _ _=>⟨a.slots,k b a q⟩,fun _ _ _ n _=>n,fun b a q _=>⟨a,k b a q⟩,fun _ _ q=>q,fun _ _ _ q=>q,fun _ c q=>⟨#[],by rw [q]; simp⟩⟩
theorem Un.refl:Un fs ex H H h h:=Un.kept fun _ _ q=>q
theorem Un.laid (k:∀ b u,h.get? b=some u->h'.get? b=some u) (hp:h.objs.size <= a) (hn:H a=none):Un fs ex H (upd H a o) h h' where
 keep:=fun b u q _ _ _=>k b u q
 slot:=fun b u q _ _ _=>⟨u.slots,k b u q⟩
 free:=fun b u q n _=>by rw [yn (dH (dQ (du q) hp))]; exact n
 there:=fun b u q _=>⟨u,k b u q⟩
 tups:=fun b c q=>by rw [yn (yd q hn)]; exact q
 frzs:=fun b u c q=>by rw [yn (yd q hn)]; exact q
 tbls:=fun b d q=>⟨#[],by rw [yn (yd q hn),q]; simp⟩
theorem Un.write (mu:Mut (H x)) (he:e=x\/H e=some (.own x)) (k:∀ b u,b≠e->h.get? b=some u->h'.get? b=some u) (heo:∃ u,h'.get? e=some u):Un fs ex H (upd H x o) h h':=by
 have c:∀ b,H b=none->b≠x:=fun b n z=>by subst z; rw [n] at mu; exact mu
 have d:∀ b,H b=none->b≠e:=fun b n z=>by
  subst z;rcases he with r | r
  .exact c b n r
  .rw [n] at r; cases r
 have a:∀ b u,H b=some u->¬ Mut (some u)->b≠x:=fun b u q f z=>by subst z; rw [q] at mu; exact f mu
 refine ⟨fun b u q n _ _=>k b u (d b n) q,fun b u q n _ _=>⟨u.slots,k b u (d b n) q⟩,fun b u q n _=>by rw [yn (c b n)]; exact n,fun b u q _=>?_,
  fun b g q=>by rw [yn (a b _ q fun z=>z)]; exact q,fun b u g q=>by rw [yn (a b _ q fun z=>z)]; exact q,fun b i q=>⟨#[],by rw [yn (a b _ q fun z=>z),q]; simp⟩⟩
 by_cases hbe:b=e
 .subst hbe; exact heo
 .exact ⟨u,k b u hbe q⟩
end
def trk (h:Heap) (H:Hp):List Addr:=(List.range h.objs.size).filter fun a=>(H a).isSome
def ykq (h:Heap) (H:Hp):Heap:=W.hideAll h (trk h H)
theorem ygr (h:Heap) (H:Hp):(ykq h H).objs.size=h.objs.size:=W.hideAll_size _ _
theorem yj9 {h:Heap} {b:Addr} {o:Obj} (e:h.get? b=some o) (n:H b=none):(ykq h H).get? b=some o :=
 W.hideAll_get _ e fun a=>by
  have q:(H b).isSome=true:=(eW.mp a).2;rw [n] at q; simp at q
theorem yoa {h:Heap} {b:Addr} {o:Obj} (e:(ykq h H).get? b=some o):h.get? b=some o/\H b=none:=by
 have a:h.get? b=some o:=W.of_hideAll (trk h H) e;refine ⟨a,?_⟩
 cases q:H b with
 | none=>rfl
 | some x =>
  have c:b∈trk h H:=eW.mpr ⟨ew.mpr (du a),by simp [q]⟩;have z:(ykq h H).get? b=none:=W.hideAll_none (trk h H) c;rw [z] at e; cases e
def yoe (g h:Heap) (L:Addr):List (Addr × Obj):=(List.range h.objs.size).filterMap fun a=>if a=L\/(g.get? a).isSome=true then none else (h.get? a).map fun o=>(a,o)
def Ü (g h:Heap) (L d:Addr):List (Addr × Obj):=(yoe g h L).filter fun p=>decide (p.1≠d)
structure Mod (K:W.Frag) (mg:Str->Option Value) (base:Heap):Prop where
 kin:K.In base
 glob:base.Ns mainGlobals mg
 blt:∃ mb,base.Ns builtinsNs mb/\∀ x:Str,x≠"__name__"->mb x=bootBuiltins x
 nolimit:base.NoLimit
structure Cx where
 prog:Program
 w:World
 K:W.Frag
 mg:Str->Option Value
 base:Heap
 A:Around
 N:List Str
 s₀:Shared
 H₀:Hp
 env:Env
 outer:List Env
 stack:List Env
 ex:List Addr
 fn:Str->Bool
 calm:Bool
 pn:List (Addr × Obj)
 xe:Value->Shared->Prop
variable {X:Cx}
def frs (l:List Env):List Addr:=l.filterMap (·.frame)
abbrev Cx.fs (X:Cx):List Addr:=frs X.outer
def Vis (sc:Scope) (x:Str):Prop:=sc.names.lookup x=some .local\/sc.names.lookup x=some .cell\/sc.names.lookup x=some .free
def Loc (sc:Scope) (x:Str):Prop:=sc.names.lookup x=some .local\/sc.names.lookup x=some .cell
def vbe (env:Env) (h:Heap) (m:Str->Option Value) (x:Str) (u:Value):Prop :=
 (env.kindOf x=some .local/\m x=some u)\/((env.kindOf x=some .cell\/env.kindOf x=some .free)/\∃ c,env.cells.lookup x=some c/\h.IsCell c (some u))
structure Cx.Ok (X:Cx):Prop where
 mod:Mod X.K X.mg X.base
 kind:X.env.scope.kind=.function
 glob:X.env.globals=mainGlobals
 blt:X.env.builtins=builtinsNs
 above:X.s₀.heap.objs.size <= X.env.locals
 inj:∀ x y c,X.env.cells.lookup x=some c->X.env.cells.lookup y=some c->x=y
 has:∀ x,(X.env.kindOf x=some .cell\/X.env.kindOf x=some .free)->∃ c,X.env.cells.lookup x=some c
 cab:∀ x c,X.fn x=true->X.env.cells.lookup x=some c->X.s₀.heap.objs.size <= c
 hd:X.calm=true->X.A.handled=none
 frames:X.A.frames=some X.stack
 stk:X.stack=X.outer\/(X.stack=X.env :: X.outer/\X.env.frame=some X.env.locals)
 exf:∀ b∈X.ex,b≠X.env.locals/\∀ x c,X.env.cells.lookup x=some c->c≠b
 bs:∀ b o,X.base.get? b=some o->X.s₀.heap.get? b=some o/\X.H₀ b=none
 bsz:X.base.objs.size <= X.s₀.heap.objs.size
 noex:∀ b o,X.base.get? b=some o->b∉X.ex
 exfs:∀ b∈X.ex,b∉X.fs
 funs:X.s₀.heap.FunFrames X.base X.outer
 frf:∀ b∈X.fs,X.H₀ b=none
structure Inv (X:Cx) (pins:List (Addr × Obj)) (σ:List (Option V)) (H:Hp) (s:Shared):Prop where
 ok:X.Ok
 os:s.os=X.s₀.os
 bare:AllBare s.gens
 base:Un X.fs X.ex X.H₀ H X.s₀.heap s.heap
 loc:∃ m,s.heap.Ns X.env.locals m/\∀ (i:Nat) (x:Str) (v:V),X.N[i]?=some x->σ[i]?=some (some v)->Vis X.env.scope x->∃ u,xl v u/\vbe X.env s.heap m x u
 cell:∀ x c,X.env.cells.lookup x=some c->∃ v,s.heap.IsCell c v
 free:H X.env.locals=none
 freeC:∀ x c,X.env.cells.lookup x=some c->H c=none
 pin:∀ p∈X.pn++pins,s.heap.get? p.1=some p.2/\H p.1=none/\p.1≠X.env.locals/\p.1∉X.fs/\∀ v,p.2.data≠.cell v
 hok:HOk X.prog X.w H s.heap
 len:σ.length=X.N.length
section
variable {σ:List (Option V)} {s:Shared}
theorem Cx.Ok.nofr (ok:X.Ok) {b:Addr} {o:Obj} (e:X.base.get? b=some o):b∉X.fs:=fun a=>by
 have:=(ok.funs.mem a).1;rw [e] at this; cases this
theorem Inv.bs (I:Inv X pins σ H s):∀ b o,X.base.get? b=some o->s.heap.get? b=some o/\H b=none:=fun b o e =>
 ⟨I.base.keep b o (I.ok.bs b o e).1 (I.ok.bs b o e).2 (I.ok.nofr e) (I.ok.noex b o e),I.base.free b o (I.ok.bs b o e).1 (I.ok.bs b o e).2 (I.ok.noex b o e)⟩
theorem Inv.bk (I:Inv X pins σ H s):∀ b o,X.base.get? b=some o->s.heap.get? b=some o:=fun b o e=>(I.bs b o e).1
theorem Inv.mod (I:Inv X pins σ H s):Mod X.K X.mg X.base:=I.ok.mod
theorem Inv.kIn (I:Inv X pins σ H s):X.K.In s.heap:=I.ok.mod.kin.keeps I.bk
theorem Inv.lt (I:Inv X pins σ H s):X.env.locals < s.heap.objs.size:=let ⟨_,hn,_⟩:=I.loc; hn.lt
theorem Inv.sz (I:Inv X pins σ H s):X.s₀.heap.objs.size <= s.heap.objs.size:=dZ I.ok.above (Nat.le_of_lt I.lt)
theorem Inv.nofs (I:Inv X pins σ H s) {a:Addr} (h:s.heap.objs.size <= a):a∉X.fs:=fun b=>by
 obtain ⟨_,o,c,_⟩:=I.ok.funs.mem b;exact absurd (dQ (du c) (dZ I.sz h)) (eL _)
theorem Inv.cne (I:Inv X pins σ H s):∀ x c,X.env.cells.lookup x=some c->c≠X.env.locals:=fun x c e z=>by
 obtain ⟨v,o,d,f⟩:=I.cell x c e;obtain ⟨m,⟨h,i,g,a,b,_⟩,_⟩:=I.loc;rw [z,a] at d; cases d; rw [b] at f; cases f
theorem Inv.funs (I:Inv X pins σ H s):s.heap.FunFrames X.base X.outer:=by
 have a:∀ (l:List Env),(∀ b∈frs l,b∈X.fs)->X.s₀.heap.FunFrames X.base l->s.heap.FunFrames X.base l:=by
  intro l
  induction l with
  | nil=>intro _ _; trivial
  | cons env r ih =>
   intro g n;obtain ⟨h,⟨L,o,c,i,j,k⟩,m⟩:=n;have f:L∈X.fs:=g L (by unfold frs; rw [List.filterMap_cons,c]; exact dS);obtain ⟨p,e⟩:=I.base.slot L o j (I.ok.frf L f) f fun z=>I.ok.exfs L z f;exact ⟨h,⟨L,_,c,i,e,k⟩,ih (fun b d=>g b (by unfold frs; rw [List.filterMap_cons,c]; exact d5 _ d)) m⟩
 exact a X.outer (fun _ d=>d) I.ok.funs
theorem Inv.stack (I:Inv X pins σ H s):s.heap.FunFrames X.base X.stack:=by
 rcases I.ok.stk with e | ⟨e,a⟩
 .rw [e]; exact I.funs
 .rw [e];obtain ⟨m,b,_⟩:=I.loc;refine .cons (by rw [I.ok.kind]; decide) a b ?_ I.funs;exact Heap.get?_none_of_le (dZ I.ok.bsz I.ok.above)
theorem Inv.stkSub (I:Inv X pins σ H s):∀ b∈frs X.stack,b∈X.env.locals :: X.fs:=fun b a=>by
 rcases I.ok.stk with e | ⟨e,c⟩
 .rw [e] at a; exact d5 _ a
 .rw [e] at a;unfold frs at a;rw [List.filterMap_cons,c] at a;exact a
theorem Inv.stkFree (I:Inv X pins σ H s):∀ b∈frs X.stack,H b=none:=fun b a=>by
 rcases dA.mp (I.stkSub b a) with e | a
 .rw [e]; exact I.free
 .obtain ⟨_,o,c,_⟩:=I.ok.funs.mem a;exact I.base.free b o c (I.ok.frf b a) fun z=>I.ok.exfs b z a
theorem Inv.step {g':Array GenState} {d':Drawn} {ch:List Addr} (I:Inv X pins σ H s)
  (hch:∀ b∈ch,(b∈X.ex\/X.s₀.heap.objs.size <= b)/\b≠X.env.locals/\(∀ x c,X.env.cells.lookup x=some c->c≠b)/\∀ p∈X.pn++pins,p.1≠b)
  (keep:∀ b o,b≠X.env.locals->b∉X.fs->b∉ch->s.heap.get? b=some o->H b=none->h'.get? b=some o)
  (slot:∀ b o,b≠X.env.locals->b∈X.fs->b∉ch->s.heap.get? b=some o->H b=none->∃ sl,h'.get? b=some { o with slots:=sl }) (free:∀ b o,b∉ch->s.heap.get? b=some o->H b=none->H' b=none)
  (there:∀ b o,b∉ch->s.heap.get? b=some o->∃ o',h'.get? b=some o')
  (tups:∀ b xs,H b=some (.tup xs)->H' b=some (.tup xs)) (frzs:∀ b o u,H b=some (.frz o u)->H' b=some (.frz o u)) (tbls:∀ b ps,H b=some (.tbl ps)->∃ more,H' b=some (.tbl (ps++more)))
  (ns:∀ m,s.heap.Ns X.env.locals m->h'.Ns X.env.locals m) (hok:HOk X.prog X.w H' h') (hg:AllBare g') :
  Inv X pins σ H' { s with heap:=h',gens:=g',drawn:=d',toks:=t' }:=by
 have B:∀ b o,X.s₀.heap.get? b=some o->b≠X.env.locals:=fun b o e=>dH (dQ (du e) I.ok.above)
 have j:∀ b o,X.s₀.heap.get? b=some o->b∉X.ex->b∉ch:=fun b o e a t=>by
  rcases (hch b t).1 with z | z
  .exact a z
  .exact absurd (dQ (du e) z) (eL _)
 have f:∀ x c,X.env.cells.lookup x=some c->∀ v,s.heap.IsCell c v->h'.IsCell c v:=fun x c e v ⟨o,y,C⟩=>by
  have g:c∉ch:=fun z=>(hch c z).2.2.1 x c e rfl;by_cases hc:c∈X.fs
  .obtain ⟨sl,q⟩:=slot c o (I.cne x c e) hc g y (I.freeC x c e);exact ⟨_,q,C⟩
  .exact ⟨o,keep c o (I.cne x c e) hc g y (I.freeC x c e),C⟩
 refine ⟨I.ok,I.os,hg,⟨fun b o e n t a=>?_,fun b o e n t a=>?_,fun b o e n a=>?_,fun b o e a=>?_,fun b xs e=>tups b xs (I.base.tups b xs e),fun b o xs e=>frzs b o xs (I.base.frzs b o xs e),fun b ps e=>?_⟩,?_,fun x c e=>?_,?_,fun x c e=>?_,fun p G=>?_,hok,I.len⟩
 .exact keep b o (B b o e) t (j b o e a) (I.base.keep b o e n t a) (I.base.free b o e n a)
 .obtain ⟨sl,h⟩:=I.base.slot b o e n t a;obtain ⟨D,A⟩:=slot b _ (B b o e) t (j b o e a) h (I.base.free b o e n a);exact ⟨D,A⟩
 .obtain ⟨o',h⟩:=I.base.there b o e a;exact free b o' (j b o e a) h (I.base.free b o e n a)
 .obtain ⟨o',h⟩:=I.base.there b o e a;exact there b o' (j b o e a) h
 .obtain ⟨M,h⟩:=I.base.tbls b ps e;obtain ⟨N,A⟩:=tbls b _ h;exact ⟨M++N,by rw [A,Array.append_assoc]⟩
 .obtain ⟨m,J,L⟩:=I.loc;refine ⟨m,ns m J,fun i x v h A K=>?_⟩;obtain ⟨u,r,l⟩:=L i x v h A K;refine ⟨u,r,?_⟩;rcases l with l | ⟨k,c,e,z⟩
  .exact .inl l
  .exact .inr ⟨k,c,e,f x c e _ z⟩
 .obtain ⟨v,z⟩:=I.cell x c e;exact ⟨v,f x c e v z⟩
 .obtain ⟨m,⟨o,_,_,y,_⟩,_⟩:=I.loc;exact free _ o (fun z=>(hch _ z).2.1 rfl) y I.free
 .obtain ⟨v,o,y,C⟩:=I.cell x c e;exact free c o (fun z=>(hch c z).2.2.1 x c e rfl) y (I.freeC x c e)
 .obtain ⟨e,n,F,E,d⟩:=I.pin p G;have g:p.1∉ch:=fun z=>(hch p.1 z).2.2.2 p G rfl;exact ⟨keep p.1 p.2 F E g e n,free p.1 p.2 g e n,F,E,d⟩
theorem Inv.un (I:Inv X pins σ H s) (u:Un X.fs [] H H' s.heap h') (hok:HOk X.prog X.w H' h'):Inv X pins σ H' { s with heap:=h',toks:=t' }:=by
 obtain ⟨m,⟨o,t,p,g,r⟩,_⟩:=id I.loc;obtain ⟨k,j⟩:=u.any g I.free (by simp)
 exact I.step (g':=s.gens) (d':=s.drawn) (ch:=[]) (fun _ z=>nomatch z) (fun b o _ f _ e n=>u.keep b o e n f (by simp)) (fun b o _ f _ e n=>u.slot b o e n f (by simp)) (fun b o _ e n=>u.free b o e n (by simp)) (fun b o _ e=>u.there b o e (by simp)) u.tups u.frzs u.tbls (fun q i=>by
  obtain ⟨l,d,c,a,h⟩:=i;rw [g] at a; cases a;exact ⟨_,d,c,j,h⟩) hok I.bare
theorem Inv.call {g':Array GenState} {d':Drawn} {ch:List Addr} (I:Inv X pins σ H s) (u:Un (frs X.stack) ch H H' s.heap h') (hok:HOk X.prog X.w H' h') (hg:AllBare g')
  (hch:∀ b∈ch,(b∈X.ex\/X.s₀.heap.objs.size <= b)/\b≠X.env.locals/\(∀ x c,X.env.cells.lookup x=some c->c≠b)/\∀ p∈X.pn++pins,p.1≠b) :
  Inv X pins σ H' { s with heap:=h',gens:=g',drawn:=d',toks:=t' }:=by
 obtain ⟨m,⟨o,A,v,i,r⟩,_⟩:=id I.loc;obtain ⟨q,h⟩:=u.any i I.free fun z=>(hch _ z).2.1 rfl
 exact I.step (ch:=ch) hch (fun b o h l a e n=>u.keep b o e n (fun z=>(dA.mp (I.stkSub b z)).elim h l) a) (fun b o _ _ a e n=>u.any e n a) (fun b o a e n=>u.free b o e n a) (fun b o a e=>u.there b o e a) u.tups u.frzs u.tbls (fun y k=>by
  obtain ⟨t,g,f,d,j⟩:=k;rw [i] at d; cases d;exact ⟨_,g,f,h,j⟩) hok hg
theorem Inv.turned {it:Addr} (I:Inv X pins σ H s) (k:∀ b o,b≠it->s.heap.get? b=some o->h'.get? b=some o) (hn:H it=none) (hL:it≠X.env.locals)
  (h1:it∈X.ex\/X.s₀.heap.objs.size <= it) (h2:∀ x c,X.env.cells.lookup x=some c->c≠it) (h3:∀ p∈X.pn++pins,p.1≠it):Inv X pins σ H { s with heap:=h',toks:=t' }:=by
 have d:∀ b u,H b=some u->b≠it:=fun b u e z=>by rw [z,hn] at e; cases e
 refine I.step (g':=s.gens) (d':=s.drawn) (ch:=[it]) (fun b j=>?_) (fun b o _ _ a e _=>k b o (fun z=>a (by simp [z])) e) (fun b o _ _ a e _=>⟨o.slots,k b o (fun z=>a (by simp [z])) e⟩) (fun _ _ _ _ n=>n)
  (fun b o a e=>⟨o,k b o (fun z=>a (by simp [z])) e⟩) (fun _ _ e=>e) (fun _ _ _ e=>e) (fun b l e=>⟨#[],by rw [e]; simp⟩) (fun m i=>?_) (fun b u e=>?_) I.bare
 .have e:b=it:=by simpa using j
  subst e;exact ⟨h1,hL,h2,h3⟩
 .obtain ⟨o,h,f,g,r⟩:=i;exact ⟨o,h,f,k _ o (Ne.symm hL) g,r⟩
 .refine (I.hok b u e).stay (fun c v a q=>k c v ?_ q) (fun _ q=>q) fun _ _ q=>q;rcases a with z | z
  .rw [z]; exact d b u e
  .exact d c _ z
theorem Inv.tok (I:Inv X pins σ H s) (t:Nat):Inv X pins σ H { s with toks:=t }:=I.un (h':=s.heap) (t':=t) Un.refl I.hok
theorem Inv.kept (I:Inv X pins σ H s) (k:∀ b u,s.heap.get? b=some u->h'.get? b=some u):Inv X pins σ H { s with heap:=h',toks:=t' }:=I.un (Un.kept k) (I.hok.kept k)
theorem Inv.laid {a:Addr} {o:HO} (I:Inv X pins σ H s) (k:∀ b u,s.heap.get? b=some u->h'.get? b=some u) (hp:s.heap.objs.size <= a) (new:xk X.prog X.w (upd H a o) h' a o) :
  Inv X pins σ (upd H a o) { s with heap:=h',toks:=t' }:=I.un (Un.laid k hp (I.hok.fresh hp)) (I.hok.laid k hp new)
theorem Inv.write {x e:Addr} {o:HO} (I:Inv X pins σ H s) (mu:Mut (H x)) (he:e=x\/H e=some (.own x)) (k:∀ b u,b≠e->s.heap.get? b=some u->h'.get? b=some u) (heo:∃ u,h'.get? e=some u)
  (new:xk X.prog X.w (upd H x o) h' x o):Inv X pins σ (upd H x o) { s with heap:=h',toks:=t' }:=I.un (Un.write mu he k heo) (I.hok.write mu he k heo new)
theorem Inv.pins_of {pins':List (Addr × Obj)} (I:Inv X pins σ H s) (h:∀ p∈pins',s.heap.get? p.1=some p.2/\H p.1=none/\p.1≠X.env.locals/\p.1∉X.fs/\∀ v,p.2.data≠.cell v):Inv X pins' σ H s :=
 ⟨I.ok,I.os,I.bare,I.base,I.loc,I.cell,I.free,I.freeC,fun p a=>(dY.mp a).elim (fun z=>I.pin p (eU _ z)) (h p),I.hok,I.len⟩
theorem ycv {N:List Str} (hN:N.Nodup) {j:Nat} {x:Str} (a:N[i]?=some x) (b:N[j]?=some x):i=j:=by
 obtain ⟨f,c⟩:=d8.mp a;obtain ⟨e,d⟩:=d8.mp b;exact (List.getElem_inj hN).mp (c.trans d.symm)
theorem j6 {A:Around} {x:Str} {Q:Unit->Shared->Prop} (I:Inv X pins σ H s) (hN:X.N.Nodup) (hi:X.N[i]?=some x) (hx:Loc X.env.scope x) (r:xl v u)
  (h:∀ s',Inv X pins (σ.set i (some v)) H s'->(∃ a,Heap.SameBut a s.heap s'.heap/\(a=X.env.locals\/X.env.cells.lookup x=some a))->Q () s') (hf:X.fn x=true\/X.env.scope.names.lookup x=some .local:=by first | exact .inl rfl | exact .inr rfl | assumption):wpAny M A (storeName X.env x u) Q E s:=by
 obtain ⟨m,hn,hl⟩:=id I.loc;have O:(X.env.scope.kind == .class || (X.env.scope.kind == .module && X.env.locals != X.env.globals))=false:=by rw [I.ok.kind]; rfl
 have hiσ:i < σ.length:=by rw [I.len]; exact (d8.mp hi).1
 have F:=I.cne
 have l:∀ {a:Addr} {K:Heap},(∃ o,s.heap.get? a=some o/\H a=none)->Heap.SameBut a s.heap K->HOk X.prog X.w H K:=fun {a K} ha f b ob e=>by
  obtain ⟨_,_,B⟩:=ha;refine (I.hok b ob e).stay (fun c U t q=>(f.2 c ?_).trans q) (fun _ q=>q) fun _ _ q=>q;rintro rfl;rcases t with rfl | t
  .rw [B] at e; cases e
  .rw [B] at t; cases t
 rcases hx with D | D
 .refine wpAny_storeName_local D hn (fun K a0 f=>?_) O;obtain ⟨oL,_,_,a1,_⟩:=id hn;refine h _ ⟨I.ok,I.os,I.bare,⟨fun b o e n J hx=>?_,fun b o e n J hx=>?_,I.base.free,fun b o e hx=>?_,I.base.tups,I.base.frzs,I.base.tbls⟩,⟨_,a0,fun j y Y g C e3=>?_⟩,fun y c e=>?_,I.free,I.freeC,fun p hp=>?_,l ⟨oL,a1,I.free⟩ f,by simpa using I.len⟩ ⟨_,f,.inl rfl⟩
  .exact (f.2 b (dH (dQ (du e) I.ok.above))).trans (I.base.keep b o e n J hx)
  .obtain ⟨sl,g⟩:=I.base.slot b o e n J hx;exact ⟨sl,(f.2 b (dH (dQ (du e) I.ok.above))).trans g⟩
  .obtain ⟨Z,g⟩:=I.base.there b o e hx;exact ⟨Z,(f.2 b (dH (dQ (du e) I.ok.above))).trans g⟩
  .by_cases hj:j=i
   .subst hj;rw [hi] at g; cases g;rw [List.getElem?_set_self hiσ] at C;cases C;exact ⟨u,r,.inl ⟨D,by simp⟩⟩
   .rw [List.getElem?_set_ne (Ne.symm hj)] at C;obtain ⟨W,r',q⟩:=hl j y Y g C e3;refine ⟨W,r',?_⟩;rcases q with ⟨k,e⟩ | ⟨k,c,e,z⟩
    .refine .inl ⟨k,?_⟩;have:y≠x:=fun e=>hj (ycv hN g (e ▸ hi));simp [this,e]
    .exact .inr ⟨k,c,e,z.sameBut f (F y c e)⟩
  .obtain ⟨U,z⟩:=I.cell y c e;exact ⟨U,z.sameBut f (F y c e)⟩
  .obtain ⟨e,n,S,nf,d⟩:=I.pin p hp;exact ⟨(f.2 p.1 S).trans e,n,S,nf,d⟩
 .have G:X.fn x=true:=by
   rcases hf with z | z
   .exact z
   .rw [z] at D; cases D
  obtain ⟨c,t⟩:=I.ok.has x (.inl D);obtain ⟨U,z⟩:=I.cell x c t;refine wpAny_storeName_cell I.ok.kind D t z (fun K L f=>?_);obtain ⟨oc,P,R⟩:=id z;refine h { s with heap:=K } ⟨I.ok,I.os,I.bare,⟨fun b o e n J hx=>?_,fun b o e n J hx=>?_,I.base.free,fun b o e hx=>?_,I.base.tups,I.base.frzs,I.base.tbls⟩,⟨m,hn.sameBut f (Ne.symm (F x c t)),fun j y Y g C e3=>?_⟩,fun y T e=>?_,I.free,I.freeC,fun p hp=>?_,l ⟨oc,P,I.freeC x c t⟩ f,by simpa using I.len⟩ ⟨c,f,.inr t⟩
  .exact (f.2 b (dH (dQ (du e) (I.ok.cab x c G t)))).trans (I.base.keep b o e n J hx)
  .obtain ⟨sl,g⟩:=I.base.slot b o e n J hx;exact ⟨sl,(f.2 b (dH (dQ (du e) (I.ok.cab x c G t)))).trans g⟩
  .obtain ⟨Z,g⟩:=I.base.there b o e hx;exact ⟨Z,(f.2 b (dH (dQ (du e) (I.ok.cab x c G t)))).trans g⟩
  .by_cases hj:j=i
   .subst hj;rw [hi] at g; cases g;rw [List.getElem?_set_self hiσ] at C;cases C;exact ⟨u,r,.inr ⟨.inl D,c,t,L⟩⟩
   .rw [List.getElem?_set_ne (Ne.symm hj)] at C;obtain ⟨W,r',q⟩:=hl j y Y g C e3;refine ⟨W,r',?_⟩;rcases q with q | ⟨k,T,e,z'⟩
    .exact .inl q
    .refine .inr ⟨k,T,e,z'.sameBut f ?_⟩;rintro rfl;exact hj (ycv hN g (I.ok.inj _ _ _ e t ▸ hi))
  .by_cases hcc:T=c
   .subst hcc; exact ⟨_,L⟩
   .obtain ⟨w2,z2⟩:=I.cell y T e;exact ⟨w2,z2.sameBut f hcc⟩
  .obtain ⟨e,n,S,nf,d⟩:=I.pin p hp;refine ⟨(f.2 p.1 ?_).trans e,n,S,nf,d⟩;intro q;rw [q,P] at e;have q':oc=p.2:=dD e;exact d U (by rw [<- q']; exact R)
theorem œ {A:Around} {x:Str} {Q:Unit->Shared->Prop} (I:Inv X pins σ H s) (hN:X.N.Nodup) (hi:X.N[i]?=some x) (hx:Loc X.env.scope x) (r:xl v u)
  (h:∀ s',Inv X pins (σ.set i (some v)) H s'->Q () s') (hf:X.fn x=true\/X.env.scope.names.lookup x=some .local:=by first | exact .inl rfl | exact .inr rfl | assumption):wpAny M A (storeName X.env x u) Q E s :=
 j6 I hN hi hx r (fun s' a _=>h s' a) hf
theorem Inv.call' {ch:List Addr} (I:Inv X pins σ H s) (ho:s'.os=s.os) (u:Un (frs X.stack) ch H H' s.heap s'.heap) (hok:HOk X.prog X.w H' s'.heap) (hg:AllBare s'.gens)
  (hch:∀ b∈ch,(b∈X.ex\/X.s₀.heap.objs.size <= b)/\b≠X.env.locals/\(∀ x c,X.env.cells.lookup x=some c->c≠b)/\∀ p∈X.pn++pins,p.1≠b):Inv X pins σ H' s':=by
 obtain ⟨d,g',d',t',a⟩:=s';have e:a=s.os:=ho;subst e;exact I.call (g':=g') (t':=t') (d':=d') u hok hg hch
end
abbrev XK:=Value->Option Addr->Hp->Prop
abbrev St:=List (Option V)
variable {σ:St}
abbrev VK:=V->Hp->Prop
abbrev TE:=St->Hp->VK->Prop
variable {ta te:TE}
abbrev TT:=St->Hp->(Bool->Hp->Prop)->Prop
abbrev TA:=St->Hp->(List V->Hp->Prop)->Prop
structure ť where
 nx:St->Hp->Prop
 rt:VK
 bk:St->Hp->Prop:=fun _ _=>False
 ct:St->Hp->Prop:=fun _ _=>False
abbrev TS:=ť->St->Hp->Prop
def EP (X:Cx) (pins:List (Addr × Obj)) (σ:St) (Q:VK) (u:Value) (s':Shared):Prop:=∃ v H',Inv X pins σ H' s'/\xl v u/\Q v H'
def TP (X:Cx) (pins:List (Addr × Obj)) (σ:St) (Q:Bool->Hp->Prop) (b:Bool) (s':Shared):Prop:=∃ H',Inv X pins σ H' s'/\Q b H'
def AP (X:Cx) (pins:List (Addr × Obj)) (σ:St) (Q:List V->Hp->Prop) (us:List Value) (s':Shared):Prop:=∃ vs H',Inv X pins σ H' s'/\wt vs us/\Q vs H'
def SP (X:Cx) (pins:List (Addr × Obj)) (D:ť) (f:Flow) (s':Shared):Prop :=
 match f with
 | .next=>∃ σ' H',Inv X pins σ' H' s'/\D.nx σ' H'
 | .brk=>∃ σ' H',Inv X pins σ' H' s'/\D.bk σ' H'
 | .cont=>∃ σ' H',Inv X pins σ' H' s'/\D.ct σ' H'
 | .ret u=>∃ v σ' H',Inv X pins σ' H' s'/\xl v u/\D.rt v H'
structure PE (X:Cx) (e:Expr) (t:TE):Prop where
 go:∀ (pins:List (Addr × Obj)) (s:Shared) (σ:St) (H:Hp) (Q:VK),Inv X pins σ H s->t σ H Q->wpAny (model X.prog X.w) X.A (eval e X.env) (EP X pins σ Q) X.xe s
instance {X:Cx} {e:Expr} {t:TE}:CoeFun (PE X e t) (fun _=>∀ (pins:List (Addr × Obj)) (s:Shared) (σ:St) (H:Hp) (Q:VK),Inv X pins σ H s->t σ H Q->wpAny (model X.prog X.w) X.A (eval e X.env) (EP X pins σ Q) X.xe s):=⟨PE.go⟩
structure PT (X:Cx) (e:Expr) (t:TT):Prop where
 go:∀ (pins:List (Addr × Obj)) (s:Shared) (σ:St) (H:Hp) (Q:Bool->Hp->Prop),Inv X pins σ H s->t σ H Q->wpAny (model X.prog X.w) X.A (isTrue e X.env (eval e X.env)) (TP X pins σ Q) X.xe s
instance {X:Cx} {e:Expr} {t:TT}:CoeFun (PT X e t) (fun _=>∀ (pins:List (Addr × Obj)) (s:Shared) (σ:St) (H:Hp) (Q:Bool->Hp->Prop),Inv X pins σ H s->t σ H Q->wpAny (model X.prog X.w) X.A (isTrue e X.env (eval e X.env)) (TP X pins σ Q) X.xe s):=⟨PT.go⟩
def PW (X:Cx) (e:Expr) (t:TT):Prop :=
 ∀ (whole:Sem Value) (pins:List (Addr × Obj)) (s:Shared) (σ:St) (H:Hp) (Q:Bool->Hp->Prop),Inv X pins σ H s->t σ H Q->wpAny (model X.prog X.w) X.A (isTrue e X.env whole) (TP X pins σ Q) X.xe s
theorem PW.pt {e:Expr} {t:TT} (h:PW X e t):PT X e t:=⟨h _⟩
structure PA (X:Cx) (es:List Expr) (t:TA):Prop where
 go:∀ (pos:Pos) (pins:List (Addr × Obj)) (s:Shared) (σ:St) (H:Hp) (Q:List V->Hp->Prop),Inv X pins σ H s->t σ H Q->wpAny (model X.prog X.w) X.A (spliced (backTo pos (starEach es X.env))) (AP X pins σ Q) X.xe s
instance {X:Cx} {es:List Expr} {t:TA}:CoeFun (PA X es t) (fun _=>∀ (pos:Pos) (pins:List (Addr × Obj)) (s:Shared) (σ:St) (H:Hp) (Q:List V->Hp->Prop),Inv X pins σ H s->t σ H Q->wpAny (model X.prog X.w) X.A (spliced (backTo pos (starEach es X.env))) (AP X pins σ Q) X.xe s):=⟨PA.go⟩
structure PS (X:Cx) (st:Stmt) (t:TS):Prop where
 go:∀ (pins:List (Addr × Obj)) (s:Shared) (σ:St) (H:Hp) (D:ť),Inv X pins σ H s->t D σ H->wpAny (model X.prog X.w) X.A (exec st X.env) (SP X pins D) X.xe s
instance {X:Cx} {st:Stmt} {t:TS}:CoeFun (PS X st t) (fun _=>∀ (pins:List (Addr × Obj)) (s:Shared) (σ:St) (H:Hp) (D:ť),Inv X pins σ H s->t D σ H->wpAny (model X.prog X.w) X.A (exec st X.env) (SP X pins D) X.xe s):=⟨PS.go⟩
structure PSs (X:Cx) (st:List Stmt) (t:TS):Prop where
 go:∀ (pins:List (Addr × Obj)) (s:Shared) (σ:St) (H:Hp) (D:ť),Inv X pins σ H s->t D σ H->wpAny (model X.prog X.w) X.A (execs st X.env) (SP X pins D) X.xe s
instance {X:Cx} {st:List Stmt} {t:TS}:CoeFun (PSs X st t) (fun _=>∀ (pins:List (Addr × Obj)) (s:Shared) (σ:St) (H:Hp) (D:ť),Inv X pins σ H s->t D σ H->wpAny (model X.prog X.w) X.A (execs st X.env) (SP X pins D) X.xe s):=⟨PSs.go⟩
theorem thn {α:Type} {t:Sem α} {Q Q':α->Shared->Prop} {A:Around} {s:Shared} (h:wpAny M A t Q E s) (hQ:∀ a s,Q a s->Q' a s):wpAny M A t Q' E s:=eS h hQ fun _ _ x=>x
section
def yyk (i:Nat):TE:=fun σ H Q=>∃ v,σ[i]?=some (some v)/\Q v H
def tC (v:V):TE:=fun _ H Q=>Q v H
theorem yv5 {x:Str} {pos:Pos} (hN:X.N[i]?=some x) (hv:Vis X.env.scope x) (hd:(x == ("__debug__":Str))=false:=by decide) (hcd:(x == ("__classdict__":Str))=false:=by decide):PE X (.Name x pos) (yyk i):=by
 refine .mk fun f s σ H Q I h=>?_;obtain ⟨v,e,h⟩:=h;obtain ⟨m,j,k⟩:=I.loc;obtain ⟨u,r,l⟩:=k i x v hN e hv;have d:EP X f σ Q u s:=⟨v,H,I,r,h⟩;rcases l with ⟨b,n⟩ | ⟨b,c,g,a⟩
 .exact wpAny_Name (wpAny_loadName_local I.ok.kind b j n d) hd
 .rcases b with b | b
  .exact wpAny_Name (wpAny_loadName_cell I.ok.kind b g a d) hd
  .exact wpAny_Name (wpAny_loadName_free I.ok.kind b g a d hcd) hd
theorem yj {i j pos}:PE X (.Constant (.int i) j pos) (tC (.int i)):=.mk fun _ _ _ H _ I h=>wpAny_Constant_int ⟨.int i,H,I.tok _,⟨_,rfl⟩,h⟩
theorem ya9 {b j pos}:PE X (.Constant (.bool b) j pos) (tC (.bl b)):=.mk fun _ _ _ H _ I h=>Constant_bool ⟨.bl b,H,I,rfl,h⟩
theorem zn {j pos}:PE X (.Constant .none j pos) (tC .non):=.mk fun _ _ _ H _ I h=>Constant_none ⟨.non,H,I,rfl,h⟩
theorem w6 {x j pos}:PE X (.Constant (.str x) j pos) (tC (.str x)):=.mk fun _ _ _ H _ I h=>Calls.Constant_str ⟨.str x,H,I.tok _,⟨_,rfl⟩,h⟩
def Gl (X:Cx) (x:Str):Prop:=X.env.kindOf x=some .globalImplicit
theorem jp {s:Shared} {x:Str} {pos:Pos} (I:Inv X pins σ H s) (hg:Gl X x) (hm:X.mg x=some u) (h:Q u s)
  (hd:(x == ("__debug__":Str))=false:=by decide):wpAny (model X.prog X.w) X.A (eval (.Name x pos) X.env) Q E s :=
 Calls.Name_function_global I.ok.kind hg (Calls.loadGlobal_global (by rw [I.ok.glob]; exact I.mod.glob.keeps I.bk) hm h) hd
theorem Ć {s:Shared} {x:Str} {pos:Pos} (I:Inv X pins σ H s) (hg:Gl X x) (hm:X.mg x=none) (hv:bootBuiltins x=some u) (h:Q u s)
  (hn:x≠"__name__":=by decide) (hd:(x == ("__debug__":Str))=false:=by decide):wpAny (model X.prog X.w) X.A (eval (.Name x pos) X.env) Q E s:=by
 obtain ⟨c,b,a⟩:=I.mod.blt;exact Calls.Name_function_global I.ok.kind hg (Calls.loadGlobal_builtin (by rw [I.ok.glob]; exact I.mod.glob.keeps I.bk) hm (by rw [I.ok.blt]; exact b.keeps I.bk) ((a x hn).trans hv) h) hd
theorem ycb {x:Str} {pos:Pos} (hg:Gl X x) (hm:X.mg x=some u) (r:xl v u) (hd:(x == ("__debug__":Str))=false:=by decide):PE X (.Name x pos) (tC v):=.mk
 fun _ _ _ H _ I h=>jp I hg hm ⟨v,H,I,r,h⟩ hd
theorem ypn {x:Str} {pos:Pos} (hg:Gl X x) (hm:X.mg x=none) (hv:bootBuiltins x=some u) (r:xl v u) (hn:x≠"__name__":=by decide) (hd:(x == ("__debug__":Str))=false:=by decide):PE X (.Name x pos) (tC v):=.mk
 fun _ _ _ H _ I h=>Ć I hg hm hv ⟨v,H,I,r,h⟩ hn hd
variable {a b:Expr} {tb:TE} {pos:Pos}
def PC (X:Cx) (op:CmpOp) (a b:Expr) (t:TE):Prop :=
 ∀ (pins:List (Addr × Obj)) (s:Shared) (σ:St) (H:Hp) (Q:VK),Inv X pins σ H s->t σ H Q ->
  wpAny (model X.prog X.w) X.A (eval a X.env) (fun v s₁=>wpAny (model X.prog X.w) X.A (eval b X.env) (fun u s₂=>wpAny (model X.prog X.w) X.A (compareOp op v u) (EP X pins σ Q) X.xe s₂) X.xe s₁) X.xe s
def tB (t:TE):TT:=fun σ H Q=>t σ H fun x H1=>∃ c,x=.bl c/\Q c H1
theorem yh3 {t:TE} (h:PC X op a b t) (h1:behindInMarks op b=false:=by first | exact nobehind _ (by decide) (by decide) | rfl):PT X (.Compare a [op] [b] pos) (tB t):=by
 refine .mk fun e s σ H Q I i=>?_;refine wpAny_isTrue_Compare1 (thn (h e s σ H _ I i) fun v m h1=>thn h1 fun u o g=>thn g fun c n h'=>?_) h1;obtain ⟨x,l,j,k,f⟩:=h';obtain ⟨d,rfl,q⟩:=f;cases k;exact ey ⟨l,j,q⟩
theorem x8 {e:Expr} {t:TE} (h:PE X e t) (he:∀ whole,isTrue e X.env whole=(do let v <- whole; standAt e.pos; holding [v] (truthy v)):=by intro _; rfl):PT X e (tB t):=by
 refine .mk fun a s σ H Q I c=>?_;refine isTrue_plain (thn (h a s σ H _ I c) fun v j h'=>?_) (he _);obtain ⟨x,i,f,g,b⟩:=h';obtain ⟨d,rfl,q⟩:=b;cases g;exact ey ⟨i,f,q⟩
variable {tA tB':TT} {Ü:List Expr}
def vau (t u:TT):TT:=fun σ H Q=>t σ H fun c H1=>if c=true then u σ H1 Q else Q false H1
def tOr (t u:TT):TT:=fun σ H Q=>t σ H fun c H1=>if c=true then Q true H1 else u σ H1 Q
def vay (t:TT):TT:=fun σ H Q=>t σ H fun c H1=>Q (!c) H1
theorem yhr (ha:PT X a tA):PW X (.BoolOp .And [a] pos) tA:=by
 intro f b s σ H Q I h;refine isTrue_and (thn (ha b s σ H Q I h) fun c d e=>?_)
 cases c with
 | true=>exact isTrue_and_nil e
 | false=>exact e
theorem Ê (ha:PT X a tA):PW X (.BoolOp .Or [a] pos) tA:=by
 intro f b s σ H Q I h;refine isTrue_or (thn (ha b s σ H Q I h) fun c d e=>?_)
 cases c with
 | false=>exact isTrue_or_nil e
 | true=>exact e
theorem ylv (ha:PT X a tA) (hb:PW X (.BoolOp .And (b :: Ü) pos) tB'):PW X (.BoolOp .And (a :: b :: Ü) pos) (vau tA tB'):=by
 intro j d s σ H Q I h;refine isTrue_and (thn (ha d s σ H _ I h) fun c i ⟨g,f,e⟩=>?_)
 cases c with
 | true=>exact hb j d i σ g Q f e
 | false=>exact ⟨g,f,e⟩
theorem ć (ha:PT X a tA) (hb:PW X (.BoolOp .Or (b :: Ü) pos) tB'):PW X (.BoolOp .Or (a :: b :: Ü) pos) (tOr tA tB'):=by
 intro j d s σ H Q I h;refine isTrue_or (thn (ha d s σ H _ I h) fun c i ⟨g,f,e⟩=>?_)
 cases c with
 | true=>exact ⟨g,f,e⟩
 | false=>exact hb j d i σ g Q f e
theorem x3 (ha:PT X a tA):PT X (.UnaryOp .Not a pos) (vay tA):=by
 refine .mk fun b s σ H Q I h=>?_;exact isTrue_not (ha b s σ H (fun c d=>Q (!c) d) I h)
def yxj (ta tb:TE):TE:=fun σ H Q=>ta σ H fun x H1=>∃ c,x=.bl c/\if c=true then tb σ H1 Q else Q (.bl false) H1
def yxg (ta:TE):TE:=fun σ H Q=>ta σ H fun x H1=>∃ c,x=.bl c/\Q (.bl (!c)) H1
theorem ν {op} {t:TE} (h:PE X a t):PE X (.BoolOp op [a] pos) t:=.mk fun b s σ H Q I c=>BoolOp_one (h b s σ H Q I c)
theorem uv (ha:PE X a ta) (hb:PE X (.BoolOp .And (b :: Ü) pos) tb):PE X (.BoolOp .And (a :: b :: Ü) pos) (yxj ta tb):=by
 refine .mk fun d s σ H Q I h=>?_;refine BoolOp_and (thn (ha d s σ H _ I h) fun v i h'=>?_);obtain ⟨x,g,f,j,e⟩:=h';obtain ⟨c,rfl,e⟩:=e;cases j;refine ey ?_
 cases c with
 | true=>exact hb d i σ g Q f e
 | false=>exact ⟨.bl false,g,f,rfl,e⟩
theorem yu5 (ha:PE X a ta):PE X (.UnaryOp .Not a pos) (yxg ta):=by
 refine .mk fun b s σ H Q I h=>?_;refine UnaryOp_ (thn (ha b s σ H _ I h) fun v i h'=>?_);obtain ⟨x,g,e,f,d⟩:=h';obtain ⟨c,rfl,d⟩:=d;cases f;exact not_of (ey ⟨.bl (!c),g,e,rfl,d⟩)
def tIf (t:TT) (ta tb:TE):TE:=fun σ H Q=>t σ H fun c H1=>if c=true then ta σ H1 Q else tb σ H1 Q
theorem ζ {c:Expr} (hc:PT X c tA) (ha:PE X a ta) (hb:PE X b tb):PE X (.IfExp c a b pos) (tIf tA ta tb):=by
 refine .mk fun e s σ H Q I h=>?_;refine wpAny_IfExp (thn (hc e s σ H _ I h) fun d g ⟨j,i,f⟩=>?_)
 cases d with
 | true=>exact ha e g σ j Q i f
 | false=>exact hb e g σ j Q i f
end
def SqL (K:W.Frag) (H:Hp) (a:Addr) (xs:List V):Prop :=
 Rd H a (.lst xs) \/
  ∃ (o:Obj) (its:Array Value) (n:Nat),K.lookup a=some o/\o.cls=.type "list"/\o.dict=none/\o.data=.seq its n/\its.size <= sizeLine/\wt xs its.toList
def SqT (K:W.Frag) (H:Hp) (a:Addr) (xs:List V):Prop :=
 Rd H a (.tup xs) \/
  ∃ (o:Obj) (its:Array Value) (n:Nat),K.lookup a=some o/\o.cls=.type "tuple"/\o.data=.seq its n/\its.size <= sizeLine/\wt xs its.toList
def vbb:Value->Option V
 | .none=>some .non
 | .bool b=>some (.bl b)
 | .int i _=>some (.int i)
 | .str x _=>some (.str x)
 | .bytes b _=>some (.byt b)
 | .float b _=>some (.flt b)
 | .ref a=>some (.ref a)
 | .type n=>some (.ty n)
 | _=>none
theorem xl.abs {x:V} (r:xl x u):vbb u=some x:=by
 cases x with
 | non=>cases r; rfl
 | bl _=>cases r; rfl
 | int _=>obtain ⟨t,rfl⟩:=r; rfl
 | str _=>obtain ⟨t,rfl⟩:=r; rfl
 | byt _=>obtain ⟨t,rfl⟩:=r; rfl
 | flt _=>obtain ⟨t,rfl⟩:=r; rfl
 | ref _=>cases r; rfl
 | ty _=>cases r; rfl
theorem xl.inj {x:V} (r:xl x u) (q:xl y u):x=y:=dD (r.abs.symm.trans q.abs)
theorem wt.inj:∀ {xs ys:List V} {us:List Value},wt xs us->wt ys us->xs=ys
 | _,_,_,.nil,.nil=>rfl
 | _,_,_,.cons r t,.cons r' t'=>by rw [r.inj r',wt.inj t t']
section
variable {s:Shared} {a:Addr} {ys:List V}
theorem SqL.of {K:W.Frag} (h:H a=some (.lst xs)):SqL K H a xs:=.inl (.inl h)
theorem SqT.of {K:W.Frag} (h:H a=some (.tup xs)):SqT K H a xs:=.inl (.inl h)
theorem Inv.list (I:Inv X pins σ H s) (h:SqL X.K H a xs):∃ its:List Value,wt xs its/\PlainL s.heap a its.toArray/\xs.length <= sizeLine:=by
 rcases h with h | ⟨o,its,n,b,d,c,f,g,r⟩
 .obtain ⟨z,its,n,r,e⟩:=h.ok I.hok;exact ⟨its,r,⟨_,n,e,rfl,rfl,rfl⟩,z⟩
 .refine ⟨its.toList,r,⟨o,n,I.kIn a o b,d,c,by simpa using f⟩,?_⟩;have e:=r.length;simp only [eP] at e;omega
theorem Inv.tuple (I:Inv X pins σ H s) (h:SqT X.K H a xs):∃ its:List Value,wt xs its/\IsTup s.heap a its.toArray/\xs.length <= sizeLine:=by
 rcases h with h | ⟨o,its,n,c,b,d,f,r⟩
 .obtain ⟨z,its,r,p⟩:=h.ok I.hok;exact ⟨its,r,p,z⟩
 .refine ⟨its.toList,r,⟨o,I.kIn a o c,b,n,by simpa using d⟩,?_⟩;have e:=r.length;simp only [eP] at e;omega
theorem Inv.list_inj (I:Inv X pins σ H s) (h:SqL X.K H a xs) (h':SqL X.K H a ys):xs=ys:=by
 obtain ⟨c,r,⟨o,n,e,_,_,d⟩,_⟩:=I.list h;obtain ⟨b,i,⟨k,j,g,_,_,f⟩,_⟩:=I.list h';rw [e] at g; cases g;rw [d] at f;injection f with d1 _;have:c=b:=by simpa using congrArg Array.toList d1
 subst this;exact r.inj i
theorem Inv.tuple_inj (I:Inv X pins σ H s) (h:SqT X.K H a xs) (h':SqT X.K H a ys):xs=ys:=by
 obtain ⟨c,r,⟨o,e,_,n,d⟩,_⟩:=I.tuple h;obtain ⟨b,i,⟨k,g,_,j,f⟩,_⟩:=I.tuple h';rw [e] at g; cases g;rw [d] at f;injection f with d1 _;have:c=b:=by simpa using congrArg Array.toList d1
 subst this;exact r.inj i
end
abbrev Cx.wish (X:Cx) (E:Value->Shared->Prop):Cx:={ X with xe:=E }
abbrev Cx.nox (X:Cx):Cx:=X.wish fun _ _=>False
theorem Cx.Ok.wish (ok:X.Ok) (E:Value->Shared->Prop):(X.wish E).Ok :=
 ⟨ok.mod,ok.kind,ok.glob,ok.blt,ok.above,ok.inj,ok.has,ok.cab,ok.hd,ok.frames,ok.stk,ok.exf,ok.bs,ok.bsz,ok.noex,ok.exfs,ok.funs,ok.frf⟩
theorem Cx.Ok.unwish (ok:(X.wish E).Ok):X.Ok :=
 ⟨ok.mod,ok.kind,ok.glob,ok.blt,ok.above,ok.inj,ok.has,ok.cab,ok.hd,ok.frames,ok.stk,ok.exf,ok.bs,ok.bsz,ok.noex,ok.exfs,ok.funs,ok.frf⟩
section
variable {s:Shared}
theorem Inv.wish (I:Inv X pins σ H s) (E:Value->Shared->Prop):Inv (X.wish E) pins σ H s:=⟨I.ok.wish E,I.os,I.bare,I.base,I.loc,I.cell,I.free,I.freeC,I.pin,I.hok,I.len⟩
theorem Inv.unwish (I:Inv (X.wish E) pins σ H s):Inv X pins σ H s:=⟨I.ok.unwish,I.os,I.bare,I.base,I.loc,I.cell,I.free,I.freeC,I.pin,I.hok,I.len⟩
theorem SP.unwish {D:ť} {f:Flow} (h:SP (X.wish E) pins D f s'):SP X pins D f s':=by
 cases f with
 | next=>obtain ⟨σ',a,I,q⟩:=h; exact ⟨σ',a,I.unwish,q⟩
 | brk=>obtain ⟨σ',a,I,q⟩:=h; exact ⟨σ',a,I.unwish,q⟩
 | cont=>obtain ⟨σ',a,I,q⟩:=h; exact ⟨σ',a,I.unwish,q⟩
 | ret u=>obtain ⟨v,σ',a,I,r,q⟩:=h; exact ⟨v,σ',a,I.unwish,r,q⟩
theorem PSs.nox {st:List Stmt} {t:TS} (h:PSs X.nox st t):PSs X st t:=.mk fun a s σ H D I b =>
 eS (h a s σ H D (I.wish _) b) (fun _ _ q=>q.unwish) fun _ _ z=>False.elim z
end
section
variable {st:Stmt} {Ü:List Stmt} {t u:TS} {e:Expr} {pos:Pos}
def yxy:TS:=fun D σ H=>D.nx σ H
def yz4 (t u:TS):TS:=fun D σ H=>t { D with nx:=u D } σ H
theorem y9:PSs X [] yxy:=.mk fun _ _ σ H _ I h=>wpAny_execs_nil ⟨σ,H,I,h⟩
theorem yh (h1:PS X st t) (h2:PSs X Ü u):PSs X (st :: Ü) (yz4 t u):=by
 refine .mk fun a s σ H D I h=>?_;refine wpAny_execs_cons (thn (h1 a s σ H { D with nx:=u D } I h) fun f c q=>?_)
 cases f with
 | next =>
  obtain ⟨σ',d,b,q⟩:=q;exact h2 a c σ' d D b q
 | ret v=>exact q
 | brk=>exact q
 | cont=>exact q
theorem yf (h1:PS X st t):PSs X [st] t:=by
 refine .mk fun a s σ H D I h=>?_;refine wpAny_execs_cons (thn (h1 a s σ H D I h) fun f b q=>?_)
 cases f with
 | next=>exact wpAny_execs_nil q
 | ret v=>exact q
 | brk=>exact q
 | cont=>exact q
theorem Inv.quiet {s:Shared} (I:Inv X pins σ H s):interactive X.env=false:=by simp [interactive,I.ok.kind]
def yxo (te:TE):TS:=fun D σ H=>te σ H fun _ H1=>D.nx σ H1
theorem yu (he:PE X e te) (hs:swapsWith e none pos.line X.env=pure false:=by rfl):PS X (.Expr e pos) (yxo te):=by
 refine .mk fun a s σ H D I h=>?_;exact wpAny_Expr_any (thn (he a s σ H _ I h) fun v f ⟨x,d,c,g,b⟩=>⟨σ,d,c,b⟩) I.quiet hs
def vaw (te:TE):TS:=fun D σ H=>te σ H D.rt
theorem yv (he:PE X e te):PS X (.Return (some e) pos) (vaw te):=by
 refine .mk fun a s σ H D I h=>?_;exact wpAny_Return_some (thn (he a s σ H _ I h) fun v g ⟨x,f,c,d,b⟩=>⟨x,σ,f,c,d,b⟩)
def yyb (c:TT) (t u:TS):TS:=fun D σ H=>c σ H fun b H1=>if b=true then t D σ H1 else u D σ H1
theorem wu {c:Expr} {a b:List Stmt} {tc:TT} (hc:PT X c tc) (ha:PSs X a t) (hb:PSs X b u):PS X (.If c a b pos) (yyb tc t u):=by
 refine .mk fun e s σ H D I h=>?_;refine wpAny_If (thn (hc e s σ H _ I h) fun d g ⟨j,i,f⟩=>?_)
 cases d with
 | true=>exact ha e g σ j D i f
 | false=>exact hb e g σ j D i f
def ywu:TS:=fun _ _ _=>False
theorem Ś:PS X st ywu:=.mk fun _ _ _ _ _ _ h=>h.elim
end
abbrev TG:=V->St->Hp->(St->Hp->Prop)->Prop
abbrev TGs:=List V->St->Hp->(St->Hp->Prop)->Prop
def PG (X:Cx) (target:Expr) (t:TG):Prop :=
 ∀ (pins:List (Addr × Obj)) (s:Shared) (σ:St) (H:Hp) (v:V) (u:Value) (Q:St->Hp->Prop),Inv X pins σ H s->xl v u->t v σ H Q ->
  wpAny (model X.prog X.w) X.A (assign target X.env u) (fun _ s'=>∃ σ' H',Inv X pins σ' H' s'/\Q σ' H') X.xe s
def PGs (X:Cx) (ts:List Expr) (t:TGs):Prop :=
 ∀ (pins:List (Addr × Obj)) (s:Shared) (σ:St) (H:Hp) (vs:List V) (us:List Value) (Q:St->Hp->Prop),Inv X pins σ H s->wt vs us->t vs σ H Q ->
  wpAny (model X.prog X.w) X.A (assignInOrder ((assignEach ts X.env).map (·.2)) us) (fun _ s'=>∃ σ' H',Inv X pins σ' H' s'/\Q σ' H') X.xe s
abbrev yyj:=V->V->V->Hp->(Hp->Prop)->Prop
def var (X:Cx) (t:yyj):Prop :=
 ∀ (pins:List (Addr × Obj)) (s:Shared) (σ:St) (H:Hp) (o i v:V) (ov iv u:Value) (Q:Hp->Prop),Inv X pins σ H s->xl o ov->xl i iv->xl v u->t o i v H Q ->
  wpAny (model X.prog X.w) X.A (setItem ov iv u) (fun _ s'=>∃ H',Inv X pins σ H' s'/\Q H') X.xe s
section
variable {pos:Pos}
def xp (i:Nat):TG:=fun v σ H Q=>Q (σ.set i (some v)) H
theorem wb {x:Str} (hN:X.N.Nodup) (hi:X.N[i]?=some x) (hx:Loc X.env.scope x) (hf:X.fn x=true\/X.env.scope.names.lookup x=some .local:=by first | exact .inl rfl | exact .inr rfl | assumption):PG X (.Name x pos) (xp i):=by
 intro a s σ H v u Q I r h;exact wpAny_assign_Name (œ I hN hi hx r (fun c b=>⟨_,H,b,h⟩) hf)
def ykp:TGs:=fun vs σ H Q=>vs=[]/\Q σ H
def z9 (t:TG) (u:TGs):TGs:=fun vs σ H Q=>∃ v r,vs=v :: r/\t v σ H fun σ' H'=>u r σ' H' Q
theorem À:PGs X [] ykp:=by
 intro a s σ H c b Q I r h;obtain ⟨e,h⟩:=h;subst e;cases r;exact assignInOrder_nil ⟨σ,H,I,h⟩
theorem w8 {e:Expr} {t:TG} {u:TGs} (h1:PG X e t) (h2:PGs X es u)
  (hs:(assignEach (e :: es) X.env).map (·.2)=assign e X.env :: (assignEach es X.env).map (·.2):=by rfl):PGs X (e :: es) (z9 t u):=by
 intro a s σ H j k Q I r h;obtain ⟨v,i,d,h⟩:=h;subst d
 cases r with
 | cons r rr =>
  rw [hs];refine assignInOrder_cons (thn (h1 a s σ H _ _ _ I r h) fun _ c ⟨σ1,g,f,b⟩=>?_);exact h2 a c σ1 g _ _ Q f rr b
def ysg (K:W.Frag) (n:Nat) (t:TGs):TG:=fun v σ H Q=>∃ a xs,v=.ref a/\SqT K H a xs/\xs.length=n/\t xs σ H Q
theorem ya4 {k:Nat} {t:TGs} {n:Nat} (hc:X.calm=true) (h:PGs X es t)
  (hn:(assignEach es X.env).length=n:=by rfl) (hst:(assignEach es X.env).findIdx? (·.1)=none:=by rfl):PG X (.Tuple es k pos) (ysg X.K n t):=by
 intro c s σ H v u Q I r d;obtain ⟨a,x,g,i,l,d⟩:=d;subst g;cases r;obtain ⟨w,f,p,y⟩:=I.tuple i;refine assign_Tuple_tuple (I.ok.hd hc) p (by simp [hn,<- l,f.length]) hst fun q j=>?_;have m:Inv X c σ H { s with heap:=q }:=I.kept (t':=s.toks) fun b o e=>j b o (dH (du e)) e;exact h c _ σ H x _ Q m (by simpa using f) d
def vax (to ti:TE) (t:yyj):TG:=fun v σ H Q=>to σ H fun o H1=>ti σ H1 fun i H2=>t o i v H2 fun H3=>Q σ H3
theorem ym7 {o i:Expr} {to ti:TE} {t:yyj} (ho:PE X o to) (hi:PE X i ti) (hs:var X t)
  (ha:∀ v,assign (.Subscript o i pos) X.env v=(do
   let ov <- holding [v] (eval o X.env)
   let iv <- holding [v,ov] (eval i X.env)
   standAt pos
   holding [v,ov,iv] (setItem ov iv v)
   release [v,ov,iv] []):=by intro _; rfl):PG X (.Subscript o i pos) (vax to ti t):=by
 intro a s σ H v u Q I r h;rw [ha];refine cT (wpAny_holding (thn (ho a s σ H _ I h) fun ov d h'=>?_));obtain ⟨x,q,m,n,b⟩:=h';refine cT (wpAny_holding (thn (hi a d σ q _ m b) fun iv f h'=>?_));obtain ⟨y,c,k,l,p⟩:=h';refine cT (wpAny_standAt (cT (wpAny_holding (thn (hs a f σ c x y v ov iv u _ k n l r p) fun _ w ⟨j,e,g⟩=>?_))));exact wpAny_release ⟨σ,j,e,g⟩
def ysd (te:TE) (g:TG):TS:=fun D σ H=>te σ H fun x H1=>g x σ H1 D.nx
theorem yhz {e:Expr} {g:TG} (he:PE X e te) (hg:PG X tg g) (hs:swapsWithSole [tg] e pos.line X.env=pure false:=by rfl) (hw:swappedStores [tg] e X.env=pure none:=by rfl)
  (h1:(assignEach [tg] X.env).map (·.2)=[assign tg X.env]:=by rfl):PS X (.Assign [tg] e pos) (ysd te g):=by
 refine .mk fun a s σ H D I h=>?_;refine wpAny_Assign_stores (thn (he a s σ H _ I h) fun v c h'=>?_) hs hw;obtain ⟨x,i,d,f,b⟩:=h';rw [h1];exact thn (hg a c σ i x v _ d f b) fun _ j q=>q
theorem y7 {x:Str} {e:Expr} {pos':Pos} (hN:X.N.Nodup) (hi:X.N[i]?=some x) (hx:Loc X.env.scope x) (he:PE X e te) (hs:swapsWith e (some (.Name x pos')) pos.line X.env=pure false:=by rfl) (hf:X.fn x=true\/X.env.scope.names.lookup x=some .local:=by first | exact .inl rfl | exact .inr rfl | assumption) :
  PS X (.Assign [.Name x pos'] e pos) (ysd te (xp i)):=by
 refine .mk fun a s σ H D I h=>?_;refine wpAny_Assign_Name (thn (he a s σ H _ I h) fun v j h'=>?_) hs;obtain ⟨y,g,d,f,b⟩:=h';exact œ d hN hi hx f (fun k c=>⟨_,g,c,b⟩) hf
end
section
variable {pos:Pos}
def ytf (c:TT) (tb:TS):TS:=fun D σ H=>∃ W:Nat->St->Hp->Prop,(∃ m,W m σ H)/\∀ m σ H,W m σ H ->
 c σ H fun b H1=>if b=true then ∃ N:St->Hp->Prop,(∀ σ' H',N σ' H'->∃ m',m' < m/\W m' σ' H')/\tb { D with nx:=N,ct:=N,bk:=D.nx } σ H1 else D.nx σ H1
theorem u4 {c:Expr} {tc:TT} {tb:TS} (hp:PassesOwn (model X.prog X.w) X.A X.env X.xe) (hc:PT X c tc) (hb:PSs X body tb):PS X (.While c body [] pos) (ytf tc tb):=by
 refine .mk fun a s σ H D I h=>?_;obtain ⟨W,⟨y,B⟩,d⟩:=h;refine wpAny_While (codeAny_whileLoop (fun n C=>∃ σ' H',Inv X a σ' H' C/\W n σ' H') ?_ y ⟨σ,H,I,B⟩);rintro n x ⟨σ1,t,z,u⟩;refine wpAny_passesOwn hp (thn (hc a x σ1 t _ z (d n σ1 t u)) fun b E ⟨p,r,i⟩=>?_)
 cases b with
 | true =>
  obtain ⟨N,q,i⟩:=i;rw [if_pos rfl];refine wpAny_passesOwn hp (thn (hb a E σ1 p _ r i) fun f F g=>?_)
  cases f with
  | next =>
   obtain ⟨σ3,e,j,m⟩:=g;obtain ⟨l,k,o⟩:=q σ3 e m;exact ⟨l,k,σ3,e,j,o⟩
  | cont =>
   obtain ⟨σ3,e,j,m⟩:=g;obtain ⟨l,k,o⟩:=q σ3 e m;exact ⟨l,k,σ3,e,j,o⟩
  | brk=>exact g
  | ret v=>exact g
 | false =>
  rw [if_neg dE];exact wpAny_execs_nil ⟨σ1,p,r,i⟩
end
structure It where
 go:Nat->Hp->Prop
 yld:Nat->Hp->V->Hp->Prop
 stop:Nat->Hp->Prop
def ycp (X:Cx) (pins:List (Addr × Obj)) (H:Hp) (b:Addr):Prop :=
 H b=none/\b≠X.env.locals/\b∉X.fs/\(b∈X.ex\/X.s₀.heap.objs.size <= b)/\(∀ x c,X.env.cells.lookup x=some c->c≠b)/\∀ p∈X.pn++pins,p.1≠b
theorem Inv.fpOk {s:Shared} {b:Addr} (I:Inv X pins σ H s) (hb:s.heap.objs.size <= b) (hn:H' b=none):ycp X pins H' b:=by
 refine ⟨hn,Nat.ne_of_gt (dQ I.lt hb),I.nofs hb,.inr (dZ I.sz hb),fun x c e z=>?_,fun p a z=>?_⟩
 .obtain ⟨v,q⟩:=I.cell x c e;exact absurd (dQ q.lt (by rw [z]; exact hb)) (eL _)
 .exact absurd (dQ (du (I.pin p a).1) (by rw [z]; exact hb)) (eL _)
structure yiw (P:Program) (w:World) (K:W.Frag) (tg:Expr) (J:It) (fp:List Addr) (it:Addr) (tn:Nat->Heap->Prop):Prop where
 mem:it∈fp
 obj:∀ i h,tn i h->∀ b∈fp,∃ o,h.get? b=some o/\∀ v,o.data≠.cell v
 keep:∀ i h h',tn i h->(∀ b∈fp,∀ o,h.get? b=some o->h'.get? b=some o)->tn i h'
 item:∀ (X:Cx),X.prog=P->X.w=w->X.K=K->X.calm=true->∀ (i:Nat) (pins:List (Addr × Obj)) (s:Shared) (σ:St) (H:Hp) (E:Value->Shared->Prop),Inv X pins σ H s->(∀ b∈fp,ycp X pins H b)->tn i s.heap->J.go i H ->
  wpAny (model P w) X.A (pyNext (.ref it)) (fun r s1=>∃ u,r=some u /\
   wpAny (model P w) X.A (letOwnedTupleGo tg (.ref it) u) (fun _ s2=>∃ x H',Inv X pins σ H' s2/\xl x u/\J.yld i H x H'/\tn (i+1) s2.heap/\∀ b∈fp,H' b=none) E s1) E s
 done:∀ (X:Cx),X.prog=P->X.w=w->X.K=K->X.calm=true->∀ (i:Nat) (pins:List (Addr × Obj)) (s:Shared) (σ:St) (H:Hp) (E:Value->Shared->Prop),Inv X pins σ H s->(∀ b∈fp,ycp X pins H b)->tn i s.heap->J.stop i H ->
  wpAny (model P w) X.A (pyNext (.ref it)) (fun r s1=>r=none/\Inv X pins σ H s1) E s
 self:∀ (A:Around) (i:Nat) (s:Shared) (Q:Value->Shared->Prop) (E:Value->Shared->Prop),tn i s.heap->Q (.ref it) s->wpAny (model P w) A (pyIter (.ref it)) Q E s
abbrev TI:=St->Hp->(It->Hp->Prop)->Prop
def PIE (X:Cx) (pins:List (Addr × Obj)) (σ:St) (tg:Expr) (R:It->Hp->Prop) (itv:Value) (s2:Shared):Prop :=
 ∃ (it:Addr) (fp:List Addr) (tn:Nat->Heap->Prop) (J:It) (H':Hp),itv=.ref it/\Inv X pins σ H' s2/\yiw X.prog X.w X.K tg J fp it tn/\tn 0 s2.heap/\(∀ b∈fp,ycp X pins H' b)/\R J H'
def PI (X:Cx) (tg iter:Expr) (wi:TI):Prop :=
 ∀ (pins:List (Addr × Obj)) (s:Shared) (σ:St) (H:Hp) (R:It->Hp->Prop),Inv X pins σ H s->wi σ H R ->
  wpAny (model X.prog X.w) X.A (eval iter X.env) (fun v s1=>wpAny (model X.prog X.w) X.A (pyIter v) (PIE X pins σ tg R) X.xe s1) X.xe s
theorem yit {A:Around} {s:Shared} {it:Addr} {o:Obj} {n:String} {vs:Array Value} {Q:Unit->Shared->Prop} (ho:s.heap.get? it=some o) (hc:o.cls=.type n) (hd:o.data=.fields vs)
  (hn:["enumerate","zip","dict_itemiterator","dict_reverseitemiterator","odict_iterator","itertools.zip_longest","itertools.pairwise"].contains n=false) (hQ:Q () s):wpAny M A (letOwnedTupleGo tg (.ref it) u) Q E s:=by
 unfold letOwnedTupleGo
 cases tg <;> first
  | exact dn hQ
  | (cases u <;> first
    | exact dn hQ
    | (refine cT (wpAny_load ho ?_)
       rw [hc,hd];show wpAny M A (if (["enumerate","zip","dict_itemiterator","dict_reverseitemiterator","odict_iterator","itertools.zip_longest","itertools.pairwise"].contains n && vs[0]? == some (rawInt _))=true then _ else _) Q E s;rw [if_neg (by intro h; rw [hn,Bool.false_and] at h; cases h)];exact dn hQ))
def Itl (K:W.Frag) (a:Addr):It :=
 ⟨fun i H=>∃ xs x,SqL K H a xs/\xs[i]?=some x,fun i H x H'=>H'=H/\∀ xs,SqL K H a xs->xs[i]?=some x,fun i H=>∃ xs,SqL K H a xs/\xs.length <= i⟩
def Itt (K:W.Frag) (a:Addr):It :=
 ⟨fun i H=>∃ xs x,SqT K H a xs/\xs[i]?=some x,fun i H x H'=>H'=H/\∀ xs,SqT K H a xs->xs[i]?=some x,fun i H=>∃ xs,SqT K H a xs/\xs.length <= i⟩
def Itr (lo:Int) (n:Nat):It:=⟨fun i _=>i < n,fun i H x H'=>H'=H/\x=.int (lo+i),fun i _=>n <= i⟩
theorem ygm {w:World} {K:W.Frag} (a it:Addr):yiw P w K tg (Itl K a) [it] it (fun i h=>h.IsListIter it a i) where
 mem:=by simp
 obj:=fun i h f b j=>by
  have e:b=it:=by simpa using j
  subst e;obtain ⟨o,e,c,d⟩:=f;exact ⟨o,e,fun v z=>by rw [d] at z; cases z⟩
 keep:=fun i h q f k=>f.at fun o e=>k it (by simp) o e
 item:=by
  intro X A F y N i g s σ H E I m f J;subst A F y;obtain ⟨xs,x,n,L⟩:=J;obtain ⟨G,t,p,S⟩:=I.list n;obtain ⟨u,Q,O⟩:=t.get L;obtain ⟨r,D,Z,M,B,C⟩:=m it (by simp);refine wpAny_pyNext_list_item f p.isList (x:=u) (by simpa using Q) fun q l U=>?_;have Y:Inv X g σ H { s with heap:=q }:=I.turned (t':=s.toks) (fun b o j e=>(U.2 b j).trans e) r D M B C;obtain ⟨o,e,c,d⟩:=id l;exact ⟨u,rfl,yit (s:={ s with heap:=q }) e c d (by decide) ⟨x,H,Y,O,⟨rfl,fun ys T=>by rw [I.list_inj T n]; exact L⟩,l,fun b j=>(m b j).1⟩⟩
 done:=by
  intro X A F y N i g s σ H E I m f J;subst A F y;obtain ⟨xs,n,L⟩:=J;obtain ⟨G,t,p,S⟩:=I.list n;obtain ⟨r,D,Z,M,B,C⟩:=m it (by simp);have hl:=t.length;exact wpAny_pyNext_list_end (I.ok.hd N) f p.isList (by simp; omega) fun q R=>⟨rfl,I.turned (t':=s.toks) (fun b o j e=>R b o j e) r D M B C⟩
 self:=fun _ _ _ _ _ f h=>wpAny_pyIter_listiter f h
theorem yet {w:World} {K:W.Frag} (a it:Addr):yiw P w K tg (Itt K a) [it] it (fun i h=>h.IsTupleIter it a i) where
 mem:=by simp
 obj:=fun i h f b l=>by
  have e:b=it:=by simpa using l
  subst e;obtain ⟨o,e,c,d⟩:=f;exact ⟨o,e,fun v z=>by rw [d] at z; cases z⟩
 keep:=fun i h r f k=>f.at fun o e=>k it (by simp) o e
 item:=by
  intro X B G A N i g s σ H E I n f J;subst B G A;obtain ⟨xs,x,q,L⟩:=J;obtain ⟨j,y,p,S⟩:=I.tuple q;obtain ⟨u,Q,O⟩:=y.get L;obtain ⟨t,F,Z,M,C,D⟩:=n it (by simp);refine wpAny_pyNext_tuple_item f (show s.heap.IsTuple a j.toArray from p) (x:=u) (by simpa using Q) fun r m U=>?_;have Y:Inv X g σ H { s with heap:=r }:=I.turned (t':=s.toks) (fun b o l e=>(U.2 b l).trans e) t F M C D;obtain ⟨o,e,c,d⟩:=id m;exact ⟨u,rfl,yit (s:={ s with heap:=r }) e c d (by decide) ⟨x,H,Y,O,⟨rfl,fun ys T=>by rw [I.tuple_inj T q]; exact L⟩,m,fun b l=>(n b l).1⟩⟩
 done:=by
  intro X B G A N i g s σ H E I n f J;subst B G A;obtain ⟨xs,q,L⟩:=J;obtain ⟨j,y,p,S⟩:=I.tuple q;obtain ⟨t,F,Z,M,C,D⟩:=n it (by simp);have hl:=y.length;exact wpAny_pyNext_tuple_end (I.ok.hd N) f (show s.heap.IsTuple a j.toArray from p) (by simp; omega) fun r R=>⟨rfl,I.turned (t':=s.toks) (fun b o l e=>R b o l e) t F M C D⟩
 self:=fun _ _ _ _ _ f h=>wpAny_pyIter_tupleiter f h
theorem yez {w:World} {K:W.Frag} (it:Addr) (lo:Int) (n:Nat):yiw P w K tg (Itr lo n) [it] it (fun i h=>IsRangeIter h it (lo+(i:Nat) * 1) ((n:Int) - (i:Nat)) 1) where
 mem:=by simp
 obj:=fun i h a b d=>by
  have e:b=it:=by simpa using d
  subst e
  exact ⟨_,a,fun v z=>by
   have G:Data.fields _=Data.cell v:=z;cases G⟩
 keep:=fun i h j a k=>k it (by simp) _ a
 item:=by
  intro X p x m y i c s σ H E I g a A;subst p x m;obtain ⟨l,u,L,B,q,r⟩:=g it (by simp);have W:=Walks.range (prog:=X.prog) (w:=X.w) (I.ok.hd y) it lo 1 n;refine W.item i s _ _ A a fun v j C M f J=>?_;obtain ⟨t,rfl⟩:=M;have F:Inv X c σ H { s with heap:=j,toks:=C }:=I.turned (fun b o d e=>J b o (by simpa using d) e) l u B q r;refine ⟨_,rfl,yit (s:={ s with heap:=j,toks:=C }) (n:="range_iterator") f rfl rfl (by decide) ⟨.int (lo+i),H,F,⟨t,?_⟩,⟨rfl,rfl⟩,f,fun b d=>(g b d).1⟩⟩;rw [Int.mul_one]
 done:=by
  intro X p x m y i c s σ H E I g a A;subst p x m;obtain ⟨l,u,L,B,q,r⟩:=g it (by simp);exact wpAny_pyNext_range_end (I.ok.hd y) a (by have:n <= i:=A; omega) fun j D=>⟨rfl,I.turned (t':=s.toks) (fun b o d e=>D b o d e) l u B q r⟩
 self:=fun _ _ _ _ _ a h=>wpAny_pyIter_rangeiter a h
def yxl (K:W.Frag) (tl:TE):TI:=fun σ H R=>tl σ H fun x H1=>∃ a,x=.ref a/\(∃ xs,SqL K H1 a xs)/\R (Itl K a) H1
def vap (K:W.Frag) (tl:TE):TI:=fun σ H R=>tl σ H fun x H1=>∃ a,x=.ref a/\(∃ xs,SqT K H1 a xs)/\R (Itt K a) H1
theorem wd {l:Expr} {tl:TE} (hl:PE X l tl):PI X tg l (yxl X.K tl):=by
 intro c s σ H R I h;refine thn (hl c s σ H _ I h) fun v d h'=>?_;obtain ⟨x,n,f,k,g⟩:=h';obtain ⟨a,e,⟨u,i⟩,q⟩:=g;subst e;cases k;obtain ⟨m,r,p,t⟩:=f.list i;refine wpAny_pyIter_list p.isList ?_;refine ⟨d.heap.objs.size,[d.heap.objs.size],_,_,n,rfl,f.kept (t':=d.toks) fun b o e=>de _ e,ygm a _,⟨_,dz _ rfl,rfl,rfl⟩,fun b j=>?_,q⟩;have e:b=d.heap.objs.size:=by simpa using j
 subst e;exact f.fpOk (dh _) (f.hok.fresh (dh _))
theorem yd7 {l:Expr} {tl:TE} (hl:PE X l tl):PI X tg l (vap X.K tl):=by
 intro c s σ H R I h;refine thn (hl c s σ H _ I h) fun v d h'=>?_;obtain ⟨x,n,f,m,i⟩:=h';obtain ⟨a,e,⟨u,j⟩,q⟩:=i;subst e;cases m;obtain ⟨g,r,p,t⟩:=f.tuple j;refine wpAny_pyIter_tuple (show d.heap.IsTuple a g.toArray from p) ?_;refine ⟨d.heap.objs.size,[d.heap.objs.size],_,_,n,rfl,f.kept (t':=d.toks) fun b o e=>de _ e,yet a _,⟨_,dz _ rfl,rfl,rfl⟩,fun b k=>?_,q⟩;have e:b=d.heap.objs.size:=by simpa using k
 subst e;exact f.fpOk (dh _) (f.hok.fresh (dh _))
theorem ydc {s:Shared} {R:It->Hp->Prop} {lo hi:Int} {t u v:Tok} {tk:Nat} (I:Inv X pins σ H s) (h1:-(2 ^ 62) <= lo) (h2:lo < 2 ^ 62) (h3:-(2 ^ 62) <= hi) (h4:hi < 2 ^ 62)
  (q:R (Itr lo (hi - lo).toNat) H):wpAny (model X.prog X.w) X.A (pyIter (.ref s.heap.objs.size)) (PIE X pins σ tg R) E { s with heap:=s.heap.push { cls:=.type "range",data:=.fields #[.int lo t,.int hi u,.int 1 v] },toks:=tk }:=by
 refine wpAny_pyIter_range (IsRange.new ..) (small_one h1 h2 h3 h4) ?_;have a:Inv X pins σ H { s with heap:=s.heap.push { cls:=.type "range",data:=.fields #[.int lo t,.int hi u,.int 1 v] },toks:=tk }:=I.kept fun b o e=>de _ e
 refine ⟨(s.heap.push { cls:=.type "range",data:=.fields #[.int lo t,.int hi u,.int 1 v] }).objs.size,[(s.heap.push { cls:=.type "range",data:=.fields #[.int lo t,.int hi u,.int 1 v] }).objs.size],_,_,H,rfl,
  a.kept (t':=tk) fun b o e=>de _ e,yez _ lo (hi - lo).toNat,?_,fun b c=>?_,q⟩
 .have d:lo+((0:Nat):Int) * 1=lo:=by simp
  have f:(((hi - lo).toNat:Nat):Int) - ((0:Nat):Int)=Builtin.Range.rangeSize lo hi 1:=by rw [rangeSize_one]; split <;> omega
  show IsRangeIter _ _ (lo+((0:Nat):Int) * 1) ((((hi - lo).toNat:Nat):Int) - ((0:Nat):Int)) 1;rw [d,f];exact dz _ rfl
 .have e:b=(s.heap.push { cls:=.type "range",data:=.fields #[.int lo t,.int hi u,.int 1 v] }).objs.size:=by simpa using c
  subst e;exact a.fpOk (dh _) (a.hok.fresh (dh _))
def yxp (ta:TA):TI:=fun σ H R=>ta σ H fun vs H1=>∃ j:Int,vs=[.int j]/\-(2 ^ 62) <= j/\j < 2 ^ 62/\R (Itr 0 j.toNat) H1
def yxm (ta:TA):TI:=fun σ H R=>ta σ H fun vs H1=>∃ i j:Int,vs=[.int i,.int j]/\(-(2 ^ 62) <= i/\i < 2 ^ 62/\-(2 ^ 62) <= j/\j < 2 ^ 62)/\R (Itr i (j - i).toNat) H1
theorem yab {a:Expr} {ta:TA} {p pos:Pos} (hg:Gl X "range") (hm:X.mg "range"=none) (ha:PA X [a] ta) (hs:starEach [a] X.env=[(false,eval a X.env)]:=by rfl):PI X tg (.Call (.Name "range" p) [a] [] pos) (yxp ta):=by
 intro b s σ H R I h;refine Call_ (Ć I hg hm boot_range (PyProof.Rows.callWith_type1 (thn (ha pos b s σ H _ I h) fun l i h'=>?_) hs rfl));obtain ⟨k,m,d,f,c⟩:=h';obtain ⟨j,e,c,g,q⟩:=c;subst e
 cases f with
 | cons r rr =>
  cases rr;obtain ⟨t,rfl⟩:=r;exact call_range_1 (ydc d (by omega) (by omega) c g (by simpa using q))
theorem yfx {a b:Expr} {ta:TA} {p pos:Pos} (hg:Gl X "range") (hm:X.mg "range"=none) (ha:PA X [a,b] ta) (hs:starEach [a,b] X.env=[(false,eval a X.env),(false,eval b X.env)]:=by rfl) (hs2:starEach [b] X.env=[(false,eval b X.env)]:=by rfl) :
  PI X tg (.Call (.Name "range" p) [a,b] [] pos) (yxm ta):=by
 intro c s σ H R I h;refine Call_ (Ć I hg hm boot_range (PyProof.Rows.callWith_type1 (thn (ha pos c s σ H _ I h) fun v n h'=>?_) (by rw [hs,hs2]) (by rw [hs2]; rfl)));obtain ⟨u,w,k,l,d⟩:=h';obtain ⟨i,j,e,⟨d,m,g,f⟩,q⟩:=d;subst e
 cases l with
 | cons r rr =>
  cases rr with
  | cons r' rr =>
   cases rr;obtain ⟨t,rfl⟩:=r;obtain ⟨o,rfl⟩:=r';exact call_range_2 (ydc k d m g f q)
def va9 (wi:TI) (g:TG) (tb:TS):TS:=fun D σ H=>wi σ H fun J H1=>∃ W:Nat->Nat->St->Hp->Prop,(∃ m,W 0 m σ H1)/\∀ i m σ H,W i m σ H ->
 (J.stop i H/\D.nx σ H)\/(J.go i H/\∃ N:St->Hp->Prop,(∀ σ' H',N σ' H'->∃ m',m' < m/\W (i+1) m' σ' H')/\∀ x H',J.yld i H x H'->g x σ H' fun σ2 H2=>tb { D with nx:=N,ct:=N,bk:=D.nx } σ2 H2)
def yef (fp:List Addr) (h:Heap):List (Addr × Obj):=fp.filterMap fun b=>(h.get? b).map fun o=>(b,o)
theorem xv {h:Heap} {b:Addr} {o:Obj} (hb:b∈fp) (e:h.get? b=some o):(b,o)∈yef fp h:=List.mem_filterMap.mpr ⟨b,hb,by rw [e]; rfl⟩
theorem yf1 {h:Heap} {p:Addr × Obj} (hp:p∈yef fp h):p.1∈fp/\h.get? p.1=some p.2:=by
 obtain ⟨b,a,e⟩:=List.mem_filterMap.mp hp
 cases q:h.get? b with
 | none=>rw [q] at e; cases e
 | some o =>
  rw [q] at e;have c:(b,o)=p:=dD e;subst c;exact ⟨a,q⟩
theorem Inv.pinned {s:Shared} (I:Inv X pins σ H s) (hf:∀ b∈fp,ycp X pins H b) (ho:∀ b∈fp,∃ o,s.heap.get? b=some o/\∀ v,o.data≠.cell v):Inv X (pins++yef fp s.heap) σ H s :=
 I.pins_of fun p h=>(dY.mp h).elim (fun z=>I.pin p (dC _ z)) fun z=>by
  obtain ⟨a,e⟩:=yf1 z;obtain ⟨f,g,i,_⟩:=hf p.1 a;obtain ⟨o,c,d⟩:=ho p.1 a;rw [e] at c; cases c;exact ⟨e,f,g,i,d⟩
theorem Inv.unpinned {pl:List (Addr × Obj)} {s:Shared} (I:Inv X (pins++pl) σ H s):Inv X pins σ H s:=I.pins_of fun p a=>I.pin p (dC _ (eU _ a))
theorem za {iter:Expr} {wi:TI} {g:TG} {tb:TS} {pos:Pos} (hp:PassesOwn (model X.prog X.w) X.A X.env X.xe) (hc:X.calm=true) (hi:PI X tg iter wi) (hg:PG X tg g) (hb:PSs X body tb)
  (hs:∀ x,foldedSetIterable iter X.env x=pure x:=by intro _; rfl):PS X (.For tg iter body [] pos) (va9 wi g tb):=by
 refine .mk fun a s σ H D I h=>?_;refine wpAny_For (thn (hi a s σ H _ I h) fun v s1 h1=>thn h1 fun a0 s2 h2=>?_) hs;obtain ⟨it,B,U,J,H2,e,I2,T,K,Z,W,⟨m0,w0⟩,E⟩:=h2;subst e;have k:∀ {H':Hp},(∀ b∈B,H' b=none)->∀ b∈B,ycp X a H' b:=fun hn b hb=>⟨hn b hb,(Z b hb).2⟩;refine codeAny_forLoop_any (fun n Y=>∃ i σ' H',Inv X a σ' H' Y/\U i Y.heap/\(∀ b∈B,H' b=none)/\W i n σ' H') ?_ m0 ⟨0,σ,H2,I2,K,fun b hb=>(Z b hb).1,w0⟩;rintro n S ⟨i,σ3,G,Q,C,z,w3⟩;rcases E i n σ3 G w3 with ⟨y,qn⟩ | ⟨go,N,hN,t⟩
 .refine wpAny_passesOwn hp (thn (T.done X rfl rfl rfl hc i a S σ3 G X.xe Q (k z) C y) fun r s4 ⟨O,I4⟩=>?_);subst O;exact wpAny_execs_nil ⟨σ3,G,I4,qn⟩
 .refine wpAny_passesOwn hp (thn (T.item X rfl rfl rfl hc i a S σ3 G X.xe Q (k z) C go) fun r s4 ⟨u,O,h4⟩=>?_);subst O;refine wpAny_passesOwn hp (thn h4 fun _ R h'=>?_);obtain ⟨x,H5,I5,r5,y5,q,P⟩:=h';have M:=I5.pinned (k P) (T.obj _ _ q);refine wpAny_passesOwn hp (thn (hg _ R σ3 H5 x u _ M r5 (t x H5 y5)) fun _ s6 ⟨σ6,H6,I6,q6⟩=>?_);refine wpAny_passesOwn hp (thn (hb _ s6 σ6 H6 _ I6 q6) fun f L p=>?_)
  have c:∀ {σ7:St} {l:Hp},Inv X (a++yef B R.heap) σ7 l L->N σ7 l->∃ m,m < n/\∃ i σ' H',Inv X a σ' H' L/\U i L.heap/\(∀ b∈B,H' b=none)/\W i m σ' H':=fun {σ7 l} j F=>by
   obtain ⟨m',hm,w7⟩:=hN σ7 l F;refine ⟨m',hm,i+1,σ7,l,j.unpinned,T.keep _ _ _ q fun b hb o e=>(j.pin (b,o) (dC _ (dC _ (xv hb e)))).1,fun b hb=>?_,w7⟩;obtain ⟨o,e,d⟩:=T.obj _ _ q b hb;exact (j.pin (b,o) (dC _ (dC _ (xv hb e)))).2.1
  cases f with
  | next=>obtain ⟨σ7,l,j,F⟩:=p; exact c j F
  | cont=>obtain ⟨σ7,l,j,F⟩:=p; exact c j F
  | brk=>obtain ⟨σ7,l,j,p⟩:=p; exact ⟨σ7,l,j.unpinned,p⟩
  | ret v=>obtain ⟨x7,σ7,l,j,r7,p⟩:=p; exact ⟨x7,σ7,l,j.unpinned,r7,p⟩
theorem x5 {K:W.Frag} {a:Addr} {g:TG} {tb:TS} {D:ť} (Pv:Nat->St->Hp->Prop) (h0:Pv 0 σ H) (hl:∀ i σ H,i <= xs.length->Pv i σ H->SqL K H a xs)
  (hs:∀ i x σ H,xs[i]?=some x->Pv i σ H->g x σ H fun σ2 H2=>tb { D with nx:=Pv (i+1),ct:=Pv (i+1),bk:=D.nx } σ2 H2) (hd:∀ σ H,Pv xs.length σ H->D.nx σ H) :
  ∃ W:Nat->Nat->St->Hp->Prop,(∃ m,W 0 m σ H)/\∀ i m σ H,W i m σ H ->
   ((Itl K a).stop i H/\D.nx σ H)\/((Itl K a).go i H/\∃ N:St->Hp->Prop,(∀ σ' H',N σ' H'->∃ m',m' < m/\W (i+1) m' σ' H')/\∀ x H',(Itl K a).yld i H x H'->g x σ H' fun σ2 H2=>tb { D with nx:=N,ct:=N,bk:=D.nx } σ2 H2):=by
 refine ⟨fun i m σ H=>m=xs.length - i/\i <= xs.length/\Pv i σ H,⟨xs.length,by simp,dJ _,h0⟩,?_⟩;rintro i m σ H ⟨rfl,c,p⟩;have q:=hl i σ H c p;by_cases hlt:i < xs.length
 .refine .inr ⟨⟨xs,xs[i],q,by simp [hlt]⟩,Pv (i+1),fun σ' H' b=>⟨xs.length - (i+1),by omega,rfl,hlt,b⟩,fun x H' y=>?_⟩;obtain ⟨e,y⟩:=y;subst e;exact hs i x σ _ (y xs q) p
 .have e:i=xs.length:=by omega
  subst e;exact .inl ⟨⟨xs,q,dh _⟩,hd σ H p⟩
theorem ž {lo:Int} {n:Nat} {g:TG} {tb:TS} {D:ť} (Pv:Nat->St->Hp->Prop) (h0:Pv 0 σ H)
  (hs:∀ i σ H,i < n->Pv i σ H->g (.int (lo+i)) σ H fun σ2 H2=>tb { D with nx:=Pv (i+1),ct:=Pv (i+1),bk:=D.nx } σ2 H2) (hd:∀ σ H,Pv n σ H->D.nx σ H) :
  ∃ W:Nat->Nat->St->Hp->Prop,(∃ m,W 0 m σ H)/\∀ i m σ H,W i m σ H ->
   ((Itr lo n).stop i H/\D.nx σ H)\/((Itr lo n).go i H/\∃ N:St->Hp->Prop,(∀ σ' H',N σ' H'->∃ m',m' < m/\W (i+1) m' σ' H')/\∀ x H',(Itr lo n).yld i H x H'->g x σ H' fun σ2 H2=>tb { D with nx:=N,ct:=N,bk:=D.nx } σ2 H2):=by
 refine ⟨fun i m σ H=>m=n - i/\i <= n/\Pv i σ H,⟨n,by simp,dJ _,h0⟩,?_⟩;rintro i m σ H ⟨rfl,b,p⟩;by_cases hlt:i < n
 .refine .inr ⟨hlt,Pv (i+1),fun σ' H' a=>⟨n - (i+1),by omega,rfl,hlt,a⟩,fun x H' y=>?_⟩;obtain ⟨e,y⟩:=y;subst e y;exact hs i σ _ hlt p
 .have e:i=n:=by omega
  subst e;exact .inl ⟨dh _,hd σ H p⟩
abbrev R2:=V->V->Hp->VK->Prop
def OpR (X:Cx) (f:Value->Value->Sem Value) (r:R2):Prop :=
 ∀ (pins:List (Addr × Obj)) (s:Shared) (σ:St) (H:Hp) (x y:V) (v u:Value) (Q:VK),Inv X pins σ H s->xl x v->xl y u->r x y H Q ->
  wpAny (model X.prog X.w) X.A (f v u) (EP X pins σ Q) X.xe s
def UnR (X:Cx) (f:Value->Sem Value) (r:V->Hp->VK->Prop):Prop :=
 ∀ (pins:List (Addr × Obj)) (s:Shared) (σ:St) (H:Hp) (x:V) (v:Value) (Q:VK),Inv X pins σ H s->xl x v->r x H Q ->
  wpAny (model X.prog X.w) X.A (f v) (EP X pins σ Q) X.xe s
def jw (X:Cx) (f:Value) (r:List V->Hp->VK->Prop):Prop :=
 ∀ (pins:List (Addr × Obj)) (s:Shared) (σ:St) (H:Hp) (xs:List V) (us:List Value) (Q:VK),Inv X pins σ H s->wt xs us->r xs H Q ->
  wpAny (model X.prog X.w) X.A (call f us) (EP X pins σ Q) X.xe s
def tOp (r:R2) (ta tb:TE):TE:=fun σ H Q=>ta σ H fun x H1=>tb σ H1 fun y H2=>r x y H2 Q
def tUn (r:V->Hp->VK->Prop) (ta:TE):TE:=fun σ H Q=>ta σ H fun x H1=>r x H1 Q
def rI (C:Int->Int->Prop) (g:Int->Int->V):R2:=fun x y H Q=>∃ i j,x=.int i/\y=.int j/\C i j/\Q (g i j) H
def rI0 (g:Int->Int->V):R2:=fun x y H Q=>∃ i j,x=.int i/\y=.int j/\Q (g i j) H
def rU (g:Int->V):V->Hp->VK->Prop:=fun x H Q=>∃ i,x=.int i/\Q (g i) H
section
variable {a b c:Expr} {tb tc:TE} {pos:Pos}
theorem vaf (ha:PE X a ta) (hb:PE X b tb) {s:Shared} {R:V->V->Hp->Prop} (I:Inv X pins σ H s)
  (h:ta σ H fun x H1=>tb σ H1 fun y H2=>R x y H2) {Q:Value->Shared->Prop} {f:Value->Value->Sem Value}
  (hf:∀ v u s2 x y H2,Inv X pins σ H2 s2->xl x v->xl y u->R x y H2->wpAny (model X.prog X.w) X.A (f v u) Q X.xe s2) :
  wpAny (model X.prog X.w) X.A (eval a X.env) (fun v s₁=>wpAny (model X.prog X.w) X.A (eval b X.env) (fun u s₂=>wpAny (model X.prog X.w) X.A (f v u) Q X.xe s₂) X.xe s₁) X.xe s:=by
 refine thn (ha pins s σ H _ I h) fun v d h'=>?_;obtain ⟨x,H1,i,j,c⟩:=h';refine thn (hb pins d σ H1 _ i c) fun u s2 h'=>?_;obtain ⟨y,H2,e,g,k⟩:=h';exact hf v u s2 x y H2 e j g k
theorem yr {op:Operator} {r:R2} (ho:OpR X (binaryOp op) r) (ha:PE X a ta) (hb:PE X b tb):PE X (.BinOp a op b pos) (tOp r ta tb):=by
 refine .mk fun c s σ H Q I h=>?_;exact wpAny_BinOp (vaf ha hb I h fun v u f x y d g i e q=>ho c f σ d x y v u Q g i e q)
theorem yrh {op:UnaryOp} {r:V->Hp->VK->Prop} (ho:UnR X (unaryOp op) r) (ha:PE X a ta):PE X (.UnaryOp op a pos) (tUn r ta):=by
 refine .mk fun b s σ H Q I h=>?_;exact UnaryOp_ (thn (ha b s σ H _ I h) fun v d ⟨x,g,e,f,c⟩=>ho b d σ g x v Q e f c)
theorem opI {f:Value->Value->Sem Value} {C:Int->Int->Prop} {g:Int->Int->Int}
  (rule:∀ (i j:Int) (t u:Tok) (s:Shared) (Q:Value->Shared->Prop) (E:Value->Shared->Prop),C i j->Q (.int (g i j) s.toks) { s with toks:=s.toks+1 }->wpAny (model X.prog X.w) X.A (f (.int i t) (.int j u)) Q E s) :
  OpR X f (rI C fun i j=>.int (g i j)):=by
 intro a s σ H x y v u Q I e c h;obtain ⟨i,j,rfl,rfl,d,q⟩:=h;obtain ⟨t,rfl⟩:=e;obtain ⟨b,rfl⟩:=c;exact rule i j t b s _ _ d ⟨.int (g i j),H,I.tok _,⟨_,rfl⟩,q⟩
theorem vac {f:Value->Value->Sem Value} {g:Int->Int->Int}
  (rule:∀ (i j:Int) (t u:Tok) (s:Shared) (Q:Value->Shared->Prop) (E:Value->Shared->Prop),Q (.int (g i j) s.toks) { s with toks:=s.toks+1 }->wpAny (model X.prog X.w) X.A (f (.int i t) (.int j u)) Q E s) :
  OpR X f (rI0 fun i j=>.int (g i j)):=by
 intro a s σ H x y v u Q I c d h;obtain ⟨i,j,rfl,rfl,q⟩:=h;obtain ⟨t,rfl⟩:=c;obtain ⟨b,rfl⟩:=d;exact rule i j t b s _ _ ⟨.int (g i j),H,I.tok _,⟨_,rfl⟩,q⟩
theorem yye {f:Value->Value->Sem Value} {g:Int->Int->Bool}
  (rule:∀ (i j:Int) (t u:Tok) (s:Shared) (Q:Value->Shared->Prop) (E:Value->Shared->Prop),Q (.bool (g i j)) s->wpAny (model X.prog X.w) X.A (f (.int i t) (.int j u)) Q E s) :
  OpR X f (rI0 fun i j=>.bl (g i j)):=by
 intro a s σ H x y v u Q I c d h;obtain ⟨i,j,rfl,rfl,q⟩:=h;obtain ⟨t,rfl⟩:=c;obtain ⟨b,rfl⟩:=d;exact rule i j t b s _ _ ⟨.bl (g i j),H,I,rfl,q⟩
def vaa (i j:Int):Prop:=(-(2 ^ 64) < i/\i < 2 ^ 64)\/(-(2 ^ 64) < j/\j < 2 ^ 64)
theorem vaa.ok {i j:Int} (h:vaa i j):IntMulOk i j:=by
 rcases h with ⟨b,a⟩ | ⟨b,a⟩
 .exact .of_left (intBits_le_64 b a)
 .exact .of_right (intBits_le_64 b a)
theorem yfa (k:Nat):(0:Int) <= 2 ^ k:=by
 rw [two_pow_cast];exact Int.natCast_nonneg _
theorem wx:OpR X (binaryOp .Add) (rI0 fun i j=>.int (i+j)):=vac fun _ _ _ _ _ _ _ q=>add_int q
theorem uu:OpR X (binaryOp .Sub) (rI0 fun i j=>.int (i - j)):=vac fun _ _ _ _ _ _ _ q=>sub_int q
theorem xa:OpR X (binaryOp .Mult) (rI vaa fun i j=>.int (i * j)):=opI fun _ _ _ _ _ _ _ a q=>mul_int q a.ok
theorem xq:OpR X (binaryOp .Mod) (rI (fun _ j=>0 < j) fun i j=>.int (i % j)):=opI fun i j _ _ _ _ _ a q=>by
 have b:(0:Int) < j:=a;exact mod_int' (by omega) (by rw [Int.fmod_eq_emod_of_nonneg i (by omega)]; exact q)
theorem ylx:OpR X (binaryOp .RShift) (rI (fun _ j=>0 <= j) fun i j=>.int (i / 2 ^ j.toNat)):=opI fun i j _ _ _ _ _ a q =>
 rshift_int a (by rw [Int.fdiv_eq_ediv_of_nonneg i (yfa _)]; exact q)
theorem ymi:OpR X (binaryOp .BitAnd) (rI0 fun i j=>.int (Builtin.bitAnd i j)):=vac fun _ _ _ _ _ _ _ q=>and_int q
theorem unI {f:Value->Sem Value} {g:Int->Int}
  (rule:∀ (i:Int) (t:Tok) (s:Shared) (Q:Value->Shared->Prop) (E:Value->Shared->Prop),Q (.int (g i) s.toks) { s with toks:=s.toks+1 }->wpAny (model X.prog X.w) X.A (f (.int i t)) Q E s) :
  UnR X f (rU fun i=>.int (g i)):=by
 intro a s σ H x v Q I b h;obtain ⟨i,rfl,q⟩:=h;obtain ⟨t,rfl⟩:=b;exact rule i t s _ _ ⟨.int (g i),H,I.tok _,⟨_,rfl⟩,q⟩
theorem yhv:UnR X (unaryOp .USub) (rU fun i=>.int (-i)):=unI fun _ _ _ _ _ q=>neg_int q
end
def yyh:V->V->Bool
 | .non,.non=>true | .non,.int _=>true | .int _,.non=>true | .non,.bl _=>true | .bl _,.non=>true | .non,.str _=>true | .str _,.non=>true
 | .int _,.int _=>true | .bl _,.bl _=>true | .str _,.str _=>true | .byt _,.byt _=>true
 | .int _,.str _=>true | .str _,.int _=>true | .bl _,.str _=>true | .str _,.bl _=>true
 | _,_=>false
def rEq:R2:=fun x y H Q=>yyh x y=true/\Q (.bl (decide (x=y))) H
def rNe:R2:=fun x y H Q=>yyh x y=true/\Q (.bl (!decide (x=y))) H
theorem yg5 {i j:Int}:decide (V.int i=V.int j)=(i == j):=by
 rw [Bool.eq_iff_iff];simp
theorem ymt {i j:Bool}:decide (V.bl i=V.bl j)=(i == j):=by
 rw [Bool.eq_iff_iff];simp
theorem yg8 {i j:Str}:decide (V.str i=V.str j)=(i == j):=by
 rw [Bool.eq_iff_iff];simp
theorem yg1 {i j:Array UInt8}:decide (V.byt i=V.byt j)=(i.toList == j.toList):=by
 rw [Bool.eq_iff_iff];cases i;cases j;simp
section
variable {a b c:Expr} {tb tc:TE} {pos:Pos}
theorem wn {s:Shared} {Q:VK} {k k':Bool} (I:Inv X pins σ H s) (q:Q (.bl k) H) (e:k=k'):EP X pins σ Q (.bool k') s:=by
 subst e;exact ⟨.bl k,H,I,rfl,q⟩
theorem uk:OpR X (compareOp .Eq) rEq:=by
 intro e s σ H x y v u Q I d a h;obtain ⟨c,q⟩:=h
 cases x with
 | non =>
  cases d
  cases y with
  | non=>cases a; exact PySem.EqNone.eq_none_none (wn I q (by simp))
  | bl j=>cases a; exact PySem.EqNone.eq_none_bool (wn I q (by simp))
  | int j=>obtain ⟨b,rfl⟩:=a; exact PySem.EqNone.eq_none_int (wn I q (by simp))
  | str j=>obtain ⟨b,rfl⟩:=a; exact PySem.EqNone.eq_none_str (wn I q (by simp))
  | _=>exact absurd (show false=true from c) dE
 | bl i =>
  cases d
  cases y with
  | non=>cases a; exact PySem.EqNone.eq_bool_none (wn I q (by simp))
  | bl j=>cases a; exact eq_bool (wn I q ymt)
  | str j=>obtain ⟨b,rfl⟩:=a; exact PySem.EqMixed.eq_bool_str (wn I q (by simp))
  | _=>exact absurd (show false=true from c) dE
 | int i =>
  obtain ⟨t,rfl⟩:=d
  cases y with
  | non=>cases a; exact PySem.EqNone.eq_int_none (wn I q (by simp))
  | int j=>obtain ⟨b,rfl⟩:=a; exact eq_int (wn I q yg5)
  | str j=>obtain ⟨b,rfl⟩:=a; exact PySem.EqMixed.eq_int_str (wn I q (by simp))
  | _=>exact absurd (show false=true from c) dE
 | str i =>
  obtain ⟨t,rfl⟩:=d
  cases y with
  | non=>cases a; exact PySem.EqNone.eq_str_none (wn I q (by simp))
  | bl j=>cases a; exact PySem.EqMixed.eq_str_bool (wn I q (by simp))
  | int j=>obtain ⟨b,rfl⟩:=a; exact PySem.EqMixed.eq_str_int (wn I q (by simp))
  | str j=>obtain ⟨b,rfl⟩:=a; exact eq_str (wn I q yg8)
  | _=>exact absurd (show false=true from c) dE
 | byt i =>
  obtain ⟨t,rfl⟩:=d
  cases y with
  | byt j=>obtain ⟨b,rfl⟩:=a; exact W.eq_bytes (wn I q yg1)
  | _=>exact absurd (show false=true from c) dE
 | _=>cases y <;> exact absurd (show false=true from c) dE
theorem yzu:OpR X (compareOp .NotEq) rNe:=by
 intro e s σ H x y v u Q I d a h;obtain ⟨c,q⟩:=h
 cases x with
 | non =>
  cases d
  cases y with
  | non=>cases a; exact PySem.EqNone.ne_none_none (wn I q (by simp))
  | bl j=>cases a; exact PySem.EqNone.ne_none_bool (wn I q (by simp))
  | int j=>obtain ⟨b,rfl⟩:=a; exact PySem.EqNone.ne_none_int (wn I q (by simp))
  | str j=>obtain ⟨b,rfl⟩:=a; exact PySem.EqNone.ne_none_str (wn I q (by simp))
  | _=>exact absurd (show false=true from c) dE
 | bl i =>
  cases d
  cases y with
  | non=>cases a; exact PySem.EqNone.ne_bool_none (wn I q (by simp))
  | bl j=>cases a; exact ne_bool (wn I q (congrArg not ymt))
  | str j=>obtain ⟨b,rfl⟩:=a; exact PySem.EqMixed.ne_bool_str (wn I q (by simp))
  | _=>exact absurd (show false=true from c) dE
 | int i =>
  obtain ⟨t,rfl⟩:=d
  cases y with
  | non=>cases a; exact PySem.EqNone.ne_int_none (wn I q (by simp))
  | int j=>obtain ⟨b,rfl⟩:=a; exact ne_int (wn I q (congrArg not yg5))
  | str j=>obtain ⟨b,rfl⟩:=a; exact PySem.EqMixed.ne_int_str (wn I q (by simp))
  | _=>exact absurd (show false=true from c) dE
 | str i =>
  obtain ⟨t,rfl⟩:=d
  cases y with
  | non=>cases a; exact PySem.EqNone.ne_str_none (wn I q (by simp))
  | bl j=>cases a; exact PySem.EqMixed.ne_str_bool (wn I q (by simp))
  | int j=>obtain ⟨b,rfl⟩:=a; exact PySem.EqMixed.ne_str_int (wn I q (by simp))
  | str j=>obtain ⟨b,rfl⟩:=a; exact ne_str (wn I q (congrArg not yg8))
  | _=>exact absurd (show false=true from c) dE
 | byt i =>
  obtain ⟨t,rfl⟩:=d
  cases y with
  | byt j=>obtain ⟨b,rfl⟩:=a; exact W.ne_bytes (wn I q (congrArg not yg1))
  | _=>exact absurd (show false=true from c) dE
 | _=>cases y <;> exact absurd (show false=true from c) dE
theorem ych:OpR X (compareOp .Lt) (rI0 fun i j=>.bl (decide (i < j))):=yye fun _ _ _ _ _ _ _ q=>lt_int q
theorem u6:OpR X (compareOp .LtE) (rI0 fun i j=>.bl (decide (i <= j))):=yye fun _ _ _ _ _ _ _ q=>le_int q
theorem yco:OpR X (compareOp .Gt) (rI0 fun i j=>.bl (decide (j < i))):=yye fun _ _ _ _ _ _ _ q=>gt_int q
theorem yzn:OpR X (compareOp .GtE) (rI0 fun i j=>.bl (decide (j <= i))):=yye fun _ _ _ _ _ _ _ q=>ge_int q
theorem ygg:OpR X (compareOp .In) (fun x y H Q=>∃ i j,x=.str i/\y=.str j/\Q (.bl (!(Builtin.Str.occurrences j i 0 j.length 1).isEmpty)) H):=by
 intro a s σ H x y v u Q I b c h;obtain ⟨i,j,rfl,rfl,q⟩:=h;obtain ⟨t,rfl⟩:=b;obtain ⟨d,rfl⟩:=c;exact in_str (wn I q rfl)
theorem ymm:OpR X (compareOp .Is) (fun x y H Q=>y=.non/\Q (.bl (decide (x=.non))) H):=by
 intro a s σ H x y v u Q I b c h;obtain ⟨rfl,q⟩:=h;cases c;refine is_none_gen (wn I q ?_)
 cases x <;> first
  | (cases b; rfl)
  | (obtain ⟨t,rfl⟩:=b; rfl)
theorem Ş:OpR X (compareOp .IsNot) (fun x y H Q=>y=.non/\Q (.bl (!decide (x=.non))) H):=by
 intro a s σ H x y v u Q I b c h;obtain ⟨rfl,q⟩:=h;cases c;refine isnot_none_gen (wn I q ?_)
 cases x <;> first
  | (cases b; rfl)
  | (obtain ⟨t,rfl⟩:=b; rfl)
theorem vg (b:Expr) (h:op≠.In:=by decide) (h2:op≠.NotIn:=by decide):behindInMarks op b=false:=by
 have a:(op == CmpOp.In)=false:=by cases op <;> first | rfl | exact absurd rfl h
 have c:(op == CmpOp.NotIn)=false:=by cases op <;> first | rfl | exact absurd rfl h2
 cases b <;> simp [behindInMarks,a,c]
theorem jq {r:R2} (ho:OpR X (compareOp op) r) (ha:PE X a ta) (hb:PE X b tb) (hm:behindInMarks op b=false):PE X (.Compare a [op] [b] pos) (tOp r ta tb):=by
 refine .mk fun c s σ H Q I h=>?_;exact wpAny_Compare1 (vaf ha hb I h fun v u f x y d g i e q=>ho c f σ d x y v u Q g i e q) hm
def yqz (t:TE):TT:=fun σ H Q=>t σ H fun x H'=>∃ k,x=.bl k/\Q k H'
theorem yy {r:R2} (ho:OpR X (compareOp op) r) (ha:PE X a ta) (hb:PE X b tb) (hm:behindInMarks op b=false):PT X (.Compare a [op] [b] pos) (yqz (tOp r ta tb)):=by
 refine .mk fun d s σ H Q I h=>?_
 refine wpAny_isTrue_Compare1 (thn (ha d s σ H _ I h) fun v i ⟨x,B,t,w,f⟩=>thn (hb d i σ B _ t f) fun u l ⟨y,g,p,q,A⟩ =>
  thn (ho d l σ g x y v u _ p w q A) fun c C ⟨z,n,j,o,k,e,m⟩=>?_) hm
 subst e;cases o;exact ey ⟨n,j,m⟩
def yid (r r':R2) (ta tb tc:TE):TE:=fun σ H Q=>ta σ H fun x H1=>tb σ H1 fun y H2=>r x y H2 fun z H3=>∃ k,z=.bl k /\
 (if k=true then tc σ H3 fun w' H4=>r' y w' H4 Q else Q (.bl false) H3)
theorem η {op':CmpOp} {r r':R2} (ho:OpR X (compareOp op) r) (ho':OpR X (compareOp op') r') (ha:PE X a ta) (hb:PE X b tb) (hc:PE X c tc)
  (hm:lastMarks [op,op'] [b,c]=false:=by with_unfolding_all rfl):PE X (.Compare a [op,op'] [b,c] pos) (yid r r' ta tb tc):=by
 refine .mk fun f s σ H Q I h=>?_
 refine Compare_chain (thn (ha f s σ H _ I h) fun v A ⟨x,M,B,t,m⟩=>chain_link (thn (hb f A σ M _ B m) fun u D ⟨y,n,F,i,K⟩ =>
  thn (ho f D σ n x y v u _ F t i K) fun d q ⟨z,l,g,E,k,e,j⟩=>?_)) hm
 subst e;cases E;refine ey ?_
 cases k with
 | false=>exact ite_ff ⟨.bl false,l,g,rfl,j⟩
 | true=>exact ite_tt (chain_last (thn (hc f q σ l _ g j) fun G o ⟨C,L,J,p,w⟩=>ho' f o σ L y C u G Q J i p w))
theorem Ő {op':CmpOp} {r r':R2} (ho:OpR X (compareOp op) r) (ho':OpR X (compareOp op') r') (ha:PE X a ta) (hb:PE X b tb) (hc:PE X c tc)
  (hm:lastMarks [op,op'] [b,c]=false:=by with_unfolding_all rfl):PT X (.Compare a [op,op'] [b,c] pos) (yqz (yid r r' ta tb tc)):=by
 refine .mk fun f s σ H Q I h=>?_
 refine isTrue_chain (thn (ha f s σ H _ I h) fun v E ⟨x,U,J,B,m⟩=>test_link (thn (hb f E σ U _ J m) fun u L ⟨y,n,N,i,S⟩ =>
  thn (ho f L σ n x y v u _ N B i S) fun d w ⟨z,l,g,M,k,e,j⟩=>?_)) hm
 subst e;cases M;refine ey ?_
 cases k with
 | false =>
  obtain ⟨k',C,A⟩:=j;cases C;exact ite_ff ⟨l,g,A⟩
 | true =>
  refine ite_tt (test_last (thn (hc f w σ l _ g j) fun O p ⟨K,T,R,t,D⟩=>thn (ho' f p σ T y K u O _ R i t D) fun d' W h'=>?_));obtain ⟨Y,P,G,q,Z,F,o⟩:=h';subst F;cases q;exact ey ⟨P,G,o⟩
theorem yay:(sizeLine:Nat) < 2 ^ 63:=by rw [sizeLine_eq]; decide
theorem ė {x:V} (r:wt [x] us):∃ u,us=[u]/\xl x u:=by
 cases r with
 | cons r1 r2=>cases r2; exact ⟨_,rfl,r1⟩
theorem ykl {x:V} (r:wt [x,y] us):∃ u w',us=[u,w']/\xl x u/\xl y w':=by
 cases r with
 | cons r1 r2 =>
  cases r2 with
  | cons r3 r4=>cases r4; exact ⟨_,_,rfl,r1,r3⟩
theorem ø (hc:X.calm=true):jw X (.builtin "max") (fun xs H Q=>∃ i j,xs=[.int i,.int j]/\Q (.int (if j > i then j else i)) H):=by
 intro a s σ H xs c Q I r h;obtain ⟨i,j,rfl,q⟩:=h;obtain ⟨u,e,rfl,⟨t,rfl⟩,⟨b,rfl⟩⟩:=ykl r;refine max_two_ints (I.ok.hd hc) fun f d k=>⟨_,H,I.kept k,?_,q⟩;by_cases hj:j > i
 .rw [if_pos hj,if_pos hj]; exact ⟨_,rfl⟩
 .rw [if_neg hj,if_neg hj]; exact ⟨_,rfl⟩
theorem û (hc:X.calm=true):jw X (.builtin "min") (fun xs H Q=>∃ i j,xs=[.int i,.int j]/\Q (.int (if j < i then j else i)) H):=by
 intro a s σ H xs c Q I r h;obtain ⟨i,j,rfl,q⟩:=h;obtain ⟨u,e,rfl,⟨t,rfl⟩,⟨b,rfl⟩⟩:=ykl r;refine min_two_ints (I.ok.hd hc) fun f d k=>⟨_,H,I.kept k,?_,q⟩;by_cases hj:j < i
 .rw [if_pos hj,if_pos hj]; exact ⟨_,rfl⟩
 .rw [if_neg hj,if_neg hj]; exact ⟨_,rfl⟩
end
structure yr9 (h:Heap) (x dx C:Addr) (mA:Str->Option Value):Prop where
 obj:h.get? x=some (W.instObj C dx)
 ns:h.Ns1 dx mA
 ne:dx≠x
theorem ygc {h:Heap} {dx:Addr} (n:h.Ns1 dx mA):∃ od,h.get? dx=some od/\∀ name,W.lookIn name od=some (mA name):=by
 obtain ⟨o,c,l,f,g,d,_,j⟩:=n;refine ⟨o,f,fun name=>?_⟩;have e:=j name;unfold nsFind findBy at e;rw [<- Array.find?_toList] at e;unfold W.lookIn;rw [g];dsimp only
 split
 .rename_i y q
  rw [q] at e;exact congrArg some e
 .rename_i q
  rw [q] at e
  have a:c.toList.any (·.refKey)=false:=by
   rw [List.any_eq_false];intro y k;obtain ⟨z,t,b⟩:=d y (Array.mem_toList_iff.mp k);simp [DictEntry.refKey,b]
  have i:¬ c.toList.any (·.refKey)=true:=by rw [a]; exact dE
  rw [if_neg i];exact congrArg some e
theorem yr9.look {h:Heap} {x dx:Addr} (I:yr9 h x dx C mA):∃ od,W.InstAt h x (W.instObj C dx) C (some od)/\∀ name,W.lookIn name od=some (mA name) :=
 let ⟨od,ho,hl⟩:=ygc I.ns
 ⟨od,⟨I.obj,rfl,rfl,ho⟩,hl⟩
section
variable {prog:Program} {w:World} {A:Around} {s:Shared} {K:W.Frag} {x dx f:Addr} {name:Str} {v:Value}
theorem ynf {expr:Bool} (X:K.In s.heap) (I:yr9 s.heap x dx C mA) (hg:W.plainGet K C name=true) (hh:W.hasDictIn K C=true)
  (ha:W.findIn K (.ref C) name=some none) (hv:mA name=some v) (hv':W.handedIn v=true) (h:Q v { s with toks:=s.toks+1 }) :
  wpAny (model prog w) A (getAttr (.ref x) name expr) Q E s:=by
 obtain ⟨b,J,a⟩:=I.look;exact W.get_value X J (W.plainGet_of hg).1 (W.findObj_own hh ha rfl (by rw [a,hv])) hv' h
theorem ykb {pl:Sem Bool} {Q:Value × List Value->Shared->Prop} (X:K.In s.heap) (I:yr9 s.heap x dx C mA) (hg:W.plainGet K C name=true)
  (hf:W.findIn K (.ref C) name=some (some (.ref f))) (ht:W.isFn K (.ref f)=true) (hv:mA name=none) (h:Q (.ref f,[.ref x]) s) :
  wpAny (model prog w) A (getMethod (.ref x) name pl) Q E s:=by
 obtain ⟨b,J,a⟩:=I.look;exact W.method_fn X J (W.plainGet_of hg).1 (W.plainGet_of hg).2 hf (beq_iff_eq.mp ht) (by show (W.lookIn name b).map (·.isSome)=some false; rw [a,hv]; rfl) h
theorem ynj {ns:List Str} {Q:Unit->Shared->Prop} (X:K.In s.heap) (I:yr9 s.heap x dx C mA)
  (hs:W.findIn K (.ref C) "__setattr__"=some (some (.builtin "object.__setattr__"))) (hp:W.plainOver K C=true) (ht:W.takerIn K C name=some none) (hh:W.hasDictIn K C=true)
  (hw:PySem.Within mA ns) (hsz:ns.length <= sizeLine)
  (h:∀ h',yr9 h' x dx C (fun y=>if y=name then some v else mA y)->Heap.SameBut dx s.heap h'->Q () { s with heap:=h',toks:=s.toks+2 }) :
  wpAny (model prog w) A (setAttr (.ref x) name v) Q E s:=by
 obtain ⟨o,J,q⟩:=I.look;refine W.set_plain X J hs (W.osa_open (s:={ s with toks:=s.toks+1 }) (r:=none) X J hp ht fun b=>?_);obtain ⟨n,k,f⟩:=W.any_some hh;have l:s.heap.get? x=some ⟨.ref C,some dx,.plain,#[]⟩:=I.obj;refine cT (dn (cT (cT (wpAny_loadPart l (cT (W.Looks.here (s:={ s with toks:=s.toks+1 }) (W.looks_clsIn X k) ?_))))));rw [f];refine dn (a:=some dx) (cT (dn (cT ?_)));refine wpAny_nsSet1 (s:={ s with toks:=s.toks+1 }) I.ns fun h' c d=>?_;obtain ⟨p,m,j,g,i,e⟩:=c.count (PySem.Within.cons name v hw);refine cT (wpAny_lookBehind g (by rw [i]; exact pastItsLine_dict (dZ e (by rw [dW]; omega))) ?_);exact dn (h _ ⟨(d.2 _ (Ne.symm I.ne)).trans I.obj,c,I.ne⟩ d)
theorem ydn {R:Result->Shared->Prop} {vs:List Value} (X:K.In s.heap) (hm:W.makesIn K C=true)
  (hi:W.findIn K (.ref C) "__init__"=some (some (.ref f))) (hf:W.typeIn K (.ref f)=some (.type "function"))
  (h:codeAny (model prog w) (A.under (.builtin "type.__call__" ⟨.ref C :: vs,kw⟩)) (.call (.ref f) ⟨.ref (s.heap.objs.size+1) :: vs,kw⟩) (W.InitBack (s.heap.objs.size+1) R)
   { s with heap:=(s.heap.push W.emptyDict).push (W.instObj C s.heap.objs.size) }) :
  codeAny (model prog w) A (.call (.ref C) ⟨vs,kw⟩) R s:=by
 obtain ⟨c,g,d,t,b⟩:=s;exact W.make_core (W.makes_of X hm) (W.looks_findIn X hi) (fun a=>W.bind_fn X a hf) (.inl rfl) h
end
def z6 (f:Str) (v:V):List (Str × V)->List (Str × V)
 | []=>[(f,v)]
 | (g,x) :: r=>if g=f then (g,v) :: r else (g,x) :: z6 f v r
theorem ï (f g:Str) (v:V):∀ fs:List (Str × V),(z6 f v fs).lookup g=if g=f then some v else fs.lookup g
 | []=>by
  show List.lookup g [(f,v)]=_;by_cases h:g=f
  .have a:(g == f)=true:=beq_iff_eq.mpr h;simp only [List.lookup,a,if_pos h]
  .have a:(g == f)=false:=eQ.mpr h;simp only [List.lookup,a,if_neg h]
 | (k,x) :: r=>by
  have b:=ï f g v r;rw [show z6 f v ((k,x) :: r)=(if k=f then (k,v) :: r else (k,x) :: z6 f v r) from rfl];by_cases hk:k=f
  .rw [if_pos hk];by_cases h:g=k
   .have a:(g == k)=true:=beq_iff_eq.mpr h;simp only [List.lookup,a,if_pos (h.trans hk)]
   .have a:(g == k)=false:=eQ.mpr h;simp only [List.lookup,a,if_neg (fun e:g=f=>h (e.trans hk.symm))]
  .rw [if_neg hk];by_cases h:g=k
   .have a:(g == k)=true:=beq_iff_eq.mpr h;simp only [List.lookup,a,if_neg (fun e:g=f=>hk (h.symm.trans e))]
   .have a:(g == k)=false:=eQ.mpr h;simp only [List.lookup,a];exact b
theorem ù (f:Str) (v:V):∀ fs:List (Str × V),f∈(z6 f v fs).map (·.1)/\∀ g,g∈fs.map (·.1)->g∈(z6 f v fs).map (·.1)
 | []=>⟨by simp [z6],fun g h=>by simp at h⟩
 | (k,x) :: r=>by
  obtain ⟨b,a⟩:=ù f v r;rw [show z6 f v ((k,x) :: r)=(if k=f then (k,v) :: r else (k,x) :: z6 f v r) from rfl];by_cases hk:k=f
  .rw [if_pos hk];subst hk;exact ⟨by simp,fun g h=>by simpa using h⟩
  .rw [if_neg hk];refine ⟨?_,fun g h=>?_⟩
   .rw [d6];exact d5 _ b
   .rw [d6] at h ⊢;rcases dA.mp h with e | e
    .exact dA.mpr (.inl e)
    .exact d5 _ (a g e)
theorem ð (f:Str) (v:V):∀ fs:List (Str × V),(z6 f v fs).length <= fs.length+1
 | []=>by simp [z6]
 | (k,x) :: r=>by
  have a:=ð f v r;rw [show z6 f v ((k,x) :: r)=(if k=f then (k,v) :: r else (k,x) :: z6 f v r) from rfl];by_cases hk:k=f
  .rw [if_pos hk,dW,dW]; omega
  .rw [if_neg hk,dW,dW]; omega
theorem yba.some_of {o:Option Value} (r:yba (some v) o):∃ u,o=some u/\xl v u:=by
 cases o with
 | none=>exact (show False from r).elim
 | some u=>exact ⟨u,rfl,r⟩
theorem yba.none_of {o:Option Value} (r:yba none o):o=none:=by
 cases o with
 | none=>rfl
 | some u=>exact (show False from r).elim
theorem ygs (r:xl v u):W.handedIn u=true:=by
 cases v with
 | non=>cases (show u=Value.none from r); rfl
 | bl b=>cases (show u=Value.bool b from r); rfl
 | int i=>obtain ⟨t,e⟩:=(show ∃ t,u=Value.int i t from r); cases e; rfl
 | str x=>obtain ⟨t,e⟩:=(show ∃ t,u=Value.str x t from r); cases e; rfl
 | byt b=>obtain ⟨t,e⟩:=(show ∃ t,u=Value.bytes b t from r); cases e; rfl
 | flt b=>obtain ⟨t,e⟩:=(show ∃ t,u=Value.float b t from r); cases e; rfl
 | ref a=>cases (show u=Value.ref a from r); rfl
 | ty n=>cases (show u=Value.type n from r); rfl
section
variable {w:World} {h:Heap} {a dx:Addr} {fs fs':List (Str × V)}
theorem ś (hok:HOk P w H h) (e:H a=some (.ins C dx fs)):∃ mA,yr9 h a dx C mA/\(∀ f,yba (fs.lookup f) (mA f))/\PySem.Within mA (fs.map (·.1))/\fs.length <= 1000/\H dx=some (.own a):=by
 obtain ⟨d,z,c,b,mA,n,r,q⟩:=(show xk P w H h a (.ins C dx fs) from hok a _ e);exact ⟨mA,⟨b,n,c⟩,r,q,z,d⟩
end
structure Cls (K:W.Frag) (C:Addr):Prop where
 pg:W.plainGet K C Str.empty=true
 hd:W.hasDictIn K C=true
 po:W.plainOver K C=true
 sa:W.findIn K (.ref C) "__setattr__"=some (some (.builtin "object.__setattr__"))
theorem Cls.get {K:W.Frag} (c:Cls K C) (f:Str):W.plainGet K C f=true:=c.pg
def vk (K:W.Frag) (C:Addr) (f:Str):Prop:=W.findIn K (.ref C) f=some none
theorem vk.taker {K:W.Frag} {f:Str} (n:vk K C f):W.takerIn K C f=some none:=by
 unfold W.takerIn;rw [show W.findIn K (.ref C) f=some none from n];rfl
structure Con (K:W.Frag) (C:Addr) (f:Str) (v:V) (u:Value):Prop where
 at_:W.findIn K (.ref C) f=some (some u)
 rel:xl v u
 get:W.specialIn K u "__get__"=some none
 cp:W.copiedNames.contains f=false
structure yr7 (K:W.Frag) (C:Addr) (m:Str) (f:Addr):Prop where
 at_:W.findIn K (.ref C) m=some (some (.ref f))
 fn:W.isFn K (.ref f)=true
 kp:W.keepIn K (.ref f)=true
section
variable {s:Shared} {a dx:Addr} {fs:List (Str × V)} {f:Str} {A:Around}
theorem yfb {b:Bool} (I:Inv X pins σ H s) (e:H a=some (.ins C dx fs)) (c:Cls X.K C) (n:vk X.K C f) (l:fs.lookup f=some v)
  (h:∀ u s',Inv X pins σ H s'->xl v u->Q u s'):wpAny (model X.prog X.w) A (getAttr (.ref a) f b) Q E s:=by
 obtain ⟨g,O,r,_,_,_⟩:=ś I.hok e;obtain ⟨u,i,d⟩:=yba.some_of (v:=v) (o:=g f) (by rw [<- l]; exact r f);exact ynf I.kIn O (c.get f) c.hd n i (ygs d) (h u _ (I.tok _) d)
theorem υ {m:Str} {g:Addr} {pl:Sem Bool} {Q:Value × List Value->Shared->Prop} (I:Inv X pins σ H s) (e:H a=some (.ins C dx fs)) (c:Cls X.K C) (k:yr7 X.K C m g) (l:fs.lookup m=none)
  (h:Q (.ref g,[.ref a]) s):wpAny (model X.prog X.w) A (getMethod (.ref a) m pl) Q E s:=by
 obtain ⟨b,O,r,_,_,_⟩:=ś I.hok e;have d:b m=none:=yba.none_of (by rw [<- l]; exact r m);exact ykb I.kIn O (c.get m) k.at_ k.fn d h
theorem yew {Q:Unit->Shared->Prop} (I:Inv X pins σ H s) (e:H a=some (.ins C dx fs)) (c:Cls X.K C) (n:vk X.K C f) (hl:fs.length < 1000) (ry:xl y u)
  (h:∀ s',Inv X pins σ (upd H a (.ins C dx (z6 f y fs))) s'->Q () s'):wpAny (model X.prog X.w) A (setAttr (.ref a) f u) Q E s:=by
 obtain ⟨j,O,r,k,_,i⟩:=ś I.hok e;have t:(fs.map (·.1)).length <= sizeLine:=by rw [cH,sizeLine_eq]; omega
 refine ynj I.kIn O c.sa c.po n.taker c.hd k t fun B d l=>h _ ?_;have m:∃ o,B.get? dx=some o:=let ⟨o,_,_,e',_⟩:=d.ns; ⟨o,e'⟩;refine I.write (x:=a) (e:=dx) (by rw [e]; exact True.intro) (.inr i) (fun b q v z=>(l.2 b v).trans z) m ?_;refine ⟨by rw [yn O.ne]; exact i,?_,O.ne,d.obj,_,d.ns,fun g=>?_,fun g p=>?_⟩
 .have:=ð f y fs; omega
 .show yba ((z6 f y fs).lookup g) (if g=f then some u else j g);rw [ï];by_cases q:g=f
  .rw [if_pos q,if_pos q]; exact ry
  .rw [if_neg q,if_neg q]; exact r g
 .by_cases q:g=f
  .rw [q]; exact (ù f y fs).1
  .refine (ù f y fs).2 g (k g fun z=>p ?_);show (if g=f then some u else j g)=none;rw [if_neg q]; exact z
theorem Inv.made (I:Inv X pins σ H s):Inv X pins σ (upd (upd H s.heap.objs.size (.own (s.heap.objs.size+1))) (s.heap.objs.size+1) (.ins C s.heap.objs.size []))
  { s with heap:=(s.heap.push W.emptyDict).push (W.instObj C s.heap.objs.size) }:=by
 have c:(s.heap.push W.emptyDict).get? s.heap.objs.size=some W.emptyDict:=dz s.heap rfl
 have f:((s.heap.push W.emptyDict).push (W.instObj C s.heap.objs.size)).get? (s.heap.objs.size+1)=some (W.instObj C s.heap.objs.size):=by
  have:=dz (s.heap.push W.emptyDict) (o:=W.instObj C s.heap.objs.size) rfl
  rwa [Heap.size_push] at this
 have j:(s.heap.push W.emptyDict).Ns s.heap.objs.size (fun _=>none):=⟨W.emptyDict,#[],_,c,rfl,(fun e g=>absurd g (by simp)),fun _=>rfl⟩;have h:=I.laid (a:=s.heap.objs.size) (o:=.own (s.heap.objs.size+1)) (h':=s.heap.push W.emptyDict) (t':=s.toks) (fun b u q=>de _ q) (dh _) ⟨_,c⟩;refine h.laid (a:=s.heap.objs.size+1) (o:=.ins C s.heap.objs.size []) (t':=s.toks) (fun b u q=>de _ q) (Nat.le_of_eq (Heap.size_push _ _)) ?_;have d:s.heap.objs.size≠s.heap.objs.size+1:=dH (eY _);refine ⟨by rw [yn d,yc],dJ _,d,f,fun _=>none,(Heap.Ns1.of_empty j).at fun o q=>de _ q,fun _=>True.intro,fun y i=>absurd rfl i⟩
theorem ynl {prog:Program} {w:World} {env:Env} {e:Expr} {pos:Pos} (hb:attributeBase e f env (eval e env)=eval e env)
  (h:wpAny (model prog w) A (eval e env) (fun o s₁=>wpAny (model prog w) A (getAttr o f true) Q E s₁) E s):wpAny (model prog w) A (eval (.Attribute e f pos) env) Q E s :=
 Attribute_any_ h (by rw [arm_eval_Attribute,hb])
end
def vag (K:W.Frag) (ta:TE) (f:Str):TE:=fun σ H Q=>ta σ H fun x H1=>∃ a C dx fs v,x=.ref a/\H1 a=some (.ins C dx fs)/\Cls K C/\vk K C f/\fs.lookup f=some v/\Q v H1
def vat (K:W.Frag) (ta tv:TE) (f:Str):TS:=fun D σ H=>tv σ H fun y H1=>ta σ H1 fun x H2=>∃ a C dx fs,x=.ref a/\H2 a=some (.ins C dx fs)/\Cls K C/\vk K C f/\fs.length < 1000 /\
 D.nx σ (upd H2 a (.ins C dx (z6 f y fs)))
section
variable {o e value:Expr} {f:Str} {pos pos' tpos:Pos} {tv:TE}
theorem yp (he:PE X e ta) (hb:attributeBase e f X.env (eval e X.env)=eval e X.env):PE X (.Attribute e f pos) (vag X.K ta f):=by
 refine .mk fun b s σ H Q I h=>?_;refine ynl hb (thn (he b s σ H _ I h) fun u t h'=>?_);obtain ⟨x,o,k,m,a,C,y,r,v,j,g,c,n,l,q⟩:=h';subst j;obtain rfl:u=Value.ref a:=m;exact yfb k g c n l fun p w i d=>⟨v,o,i,d,q⟩
theorem ve (ha:PE X o ta) (hv:PE X value tv) (hs:swapsWith value (some (.Attribute o f pos')) pos.line X.env=pure false):PS X (.Assign [.Attribute o f pos'] value pos) (vat X.K ta tv f):=by
 refine .mk fun b s σ H D I h=>?_;refine plainObj_wpAny_Assign_Attribute (thn (hv b s σ H _ I h) fun u d ⟨y,v,p,g,q⟩=>thn (ha b d σ v _ p q) fun i B h'=>?_) hs;obtain ⟨x,z,k,r,a,C,E,w,m,j,c,n,l,t⟩:=h';subst m;obtain rfl:i=Value.ref a:=r;exact yew k j c n l g fun A e=>⟨σ,_,e,t⟩
end
section
variable {s:Shared} {A:Around} {c:Value} {b:Bool}
inductive xx (K:W.Frag) (H:Hp):V->Value->Prop where
 | non:xx K H .non (.type "NoneType")
 | bl (x:Bool):xx K H (.bl x) (.type "bool")
 | int (i:Int):xx K H (.int i) (.type "int")
 | str (x:Str):xx K H (.str x) (.type "str")
 | flt (x:UInt64):xx K H (.flt x) (.type "float")
 | lst {a:Addr} {xs:List V} (e:H a=some (.lst xs)):xx K H (.ref a) (.type "list")
 | frz {a:Addr} {o:Obj} {xs:List V} (e:H a=some (.frz o (.lst xs))):xx K H (.ref a) (.type "list")
 | tup {a:Addr} {xs:List V} (e:H a=some (.tup xs)):xx K H (.ref a) (.type "tuple")
 | dK {a:Addr} {kvs:List (Key × V)} (e:H a=some (.dK kvs)):xx K H (.ref a) (.type "dict")
 | dT {a:Addr} {kvs:List (List Key × V)} (e:H a=some (.dT kvs)):xx K H (.ref a) (.type "dict")
 | ins {a C dx:Addr} {fs:List (Str × V)} (e:H a=some (.ins C dx fs)) (cl:Cls K C) (ha:W.findIn K (.ref C) "__class__"=some (some (.builtin "object.__class__")))
   (hn:W.specialIn K (.builtin "object.__class__") "__get__"=some (some (.builtin "getset_descriptor.__get__"))) (htk:W.takesIn K (.builtin "object.__class__")=some true)
   (hm:W.mroIn K C (.type "object")=some true):xx K H (.ref a) (.ref C)
theorem yf3 {x:V} {t:Value} (I:Inv X pins σ H s) (rx:xl x u) (ty:xx X.K H x t) (e:W.kitOne X.K t c=some b) (h:∀ tk,Q (.bool b) { s with toks:=tk }) :
  wpAny (model X.prog X.w) A (call (.builtin "isinstance") [u,c]) Q E s:=by
 cases ty with
 | non=>cases (show u=Value.none from rx); exact W.kia_one W.kitx_none I.kIn True.intro e (fun z=>nomatch z) h
 | bl y=>cases (show u=Value.bool y from rx); exact W.kia_one W.kitx_bool I.kIn True.intro e (fun z=>nomatch z) h
 | int i=>obtain ⟨t,q⟩:=(show ∃ t,u=Value.int i t from rx); cases q; exact W.kia_one W.kitx_int I.kIn True.intro e (fun z=>nomatch z) h
 | str y=>obtain ⟨t,q⟩:=(show ∃ t,u=Value.str y t from rx); cases q; exact W.kia_one W.kitx_str I.kIn True.intro e (fun z=>nomatch z) h
 | flt y=>obtain ⟨t,q⟩:=(show ∃ t,u=Value.float y t from rx); cases q; exact W.kia_one W.kitx_float I.kIn True.intro e (fun z=>nomatch z) h
 | @lst a xs ea =>
  cases (show u=Value.ref a from rx);obtain ⟨_,_,n,_,d⟩:=(show xk X.prog X.w H s.heap a (.lst xs) from I.hok a _ ea)
  exact W.kia_one W.kitx_list I.kIn ⟨_,d,rfl⟩ e (fun z=>nomatch z) h
 | @frz a ob xs ea =>
  cases (show u=Value.ref a from rx);obtain ⟨_,_,_,n,_,d⟩:=(show xk X.prog X.w H s.heap a (.frz ob (.lst xs)) from I.hok a _ ea)
  exact W.kia_one W.kitx_list I.kIn ⟨_,d,rfl⟩ e (fun z=>nomatch z) h
 | @tup a xs ea =>
  cases (show u=Value.ref a from rx);obtain ⟨_,_,_,p⟩:=(show xk X.prog X.w H s.heap a (.tup xs) from I.hok a _ ea);obtain ⟨o,d,f,_⟩:=p
  exact W.kia_one W.kitx_tuple I.kIn ⟨o,d,f⟩ e (fun z=>nomatch z) h
 | @dK a kvs ea =>
  cases (show u=Value.ref a from rx);obtain ⟨_,_,k,_,p⟩:=(show xk X.prog X.w H s.heap a (.dK kvs) from I.hok a _ ea);obtain ⟨o,j,g,d,f,_⟩:=p
  exact W.kia_one W.kitx_dict I.kIn ⟨o,d,f.1⟩ e (fun z=>nomatch z) h
 | @dT a kvs ea =>
  cases (show u=Value.ref a from rx);obtain ⟨_,_,xs,_,o,j,g,d,f,_⟩:=(show xk X.prog X.w H s.heap a (.dT kvs) from I.hok a _ ea)
  exact W.kia_one W.kitx_dict I.kIn ⟨o,d,f.1⟩ e (fun z=>nomatch z) h
 | @ins a C dx fs ea cl ha hn htk hm =>
  cases (show u=Value.ref a from rx);obtain ⟨m,O,_⟩:=ś I.hok ea;obtain ⟨l,J,_⟩:=O.look
  exact W.kia_one (W.kitx_own (cl.get _) cl.hd ha hn htk hm) I.kIn J e (fun z=>nomatch z) h
end
structure z7 (k:Nat) (A:Around):Prop where
 hd:A.handled=none
 dp:A.depth+3 * k+5 < recursionLimit
 un:A.units+16 * k+200 < cLine
theorem z7.mono {j k:Nat} {A:Around} (r:z7 k A) (h:j <= k):z7 j A:=⟨r.hd,by have:=r.dp; omega,by have:=r.un; omega⟩
theorem z7.deeper {k:Nat} {A:Around} (r:z7 (k+1) A) (env:Env):z7 k (A.deeper env) :=
 ⟨r.hd,by have:=r.dp; show A.depth+1+3 * k+5 < _; omega,by have:=r.un; show A.units+3+16 * k+200 < _; omega⟩
theorem ye8 {A:Around} :(A.under (.builtin "type.__call__" ⟨.ref C :: us,kw⟩)).depth=A.depth+1:=by
 first | rfl | simp [Around.under,Code.weight,Code.isCreation,Code.isGuard,Code.isCaller,Code.frames,Code.isFrame,guardIds]
theorem ye9 {A:Around} :(A.under (.builtin "type.__call__" ⟨.ref C :: us,kw⟩)).units=A.units+1:=by
 first | rfl | simp [Around.under,Code.cUnits,Code.frames,Code.isFrame]
theorem z7.make {k:Nat} {A:Around} (r:z7 (k+1) A) (C:Addr) (us:List Value) (kw:List (Str × Value)):z7 k (A.under (.builtin "type.__call__" ⟨.ref C :: us,kw⟩)) :=
 ⟨r.hd,by have:=r.dp; rw [ye8]; omega,by have:=r.un; rw [ye9]; omega⟩
theorem z7.depth {k:Nat} {A:Around} (r:z7 k A):A.depth < recursionLimit:=by have:=r.dp; omega
theorem z7.units {k:Nat} {A:Around} (r:z7 k A):A.units+64 < cLine:=by have:=r.un; omega
def ysa:TA:=fun _ H Q=>Q [] H
def yx2 (ta:TE) (tr:TA):TA:=fun σ H Q=>ta σ H fun x H1=>tr σ H1 fun xs H2=>Q (x :: xs) H2
section
variable {e:Expr} {t:TA} {pos:Pos}
theorem ye:PA X [] ysa:=.mk fun _ _ _ _ H Q I h=>Calls.spliced_nil ⟨[],H,I,.nil,h⟩
theorem ya (ha:PE X e te) (hr:PA X es t) (hs:starEach (e :: es) X.env=(false,eval e X.env) :: starEach es X.env:=by rfl):PA X (e :: es) (yx2 te t):=by
 refine .mk fun b a s σ H Q I h=>?_;rw [hs];show wpAny _ _ (spliced ((false,eval e X.env) :: backTo b (starEach es X.env))) _ _ s;refine Calls.spliced_cons (thn (ha a s σ H _ I h) fun u f h'=>?_);obtain ⟨x,j,k,l,c⟩:=h';exact thn (hr b a f σ j _ k c) fun p o ⟨n,d,g,i,m⟩=>⟨x :: n,d,g,.cons l i,m⟩
def vas (t:TA):TE:=fun σ H Q=>t σ H fun xs H1=>xs.length <= sizeLine/\∀ p,H1 p=none->Q (.ref p) (upd H1 p (.tup xs))
def vav (t:TA):TE:=fun σ H Q=>t σ H fun xs H1=>xs.length <= sizeLine/\∀ p,H1 p=none->Q (.ref p) (upd H1 p (.lst xs))
theorem yej {x1} (h:PA X es t):PE X (.Tuple es x1 pos) (vas t):=by
 refine .mk fun a s σ H Q I i=>?_;refine wpAny_Tuple_spliced (thn (h pos a s σ H _ I i) fun j c ⟨k,f,d,r,z,q⟩=>⟨by rw [<- r.length]; exact z,?_⟩);have g:f c.heap.objs.size=none:=d.hok.fresh (dh _);refine ⟨.ref c.heap.objs.size,upd f c.heap.objs.size (.tup k),d.laid (t':=c.toks) (fun b u e=>de _ e) (dh _) ?_,rfl,q _ g⟩;exact ⟨z,j,r,⟨_,dz _ rfl,rfl,_,rfl⟩⟩
theorem wq (h:PA X es t):PE X (.List es pos) (vav t):=by
 refine .mk fun a s σ H Q I i=>?_;refine wpAny_List_spliced (thn (h pos a s σ H _ I i) fun j c ⟨k,f,d,r,z,q⟩=>⟨by rw [<- r.length]; exact z,?_⟩);have g:f c.heap.objs.size=none:=d.hok.fresh (dh _);refine ⟨.ref c.heap.objs.size,upd f c.heap.objs.size (.lst k),d.laid (t':=c.toks) (fun b u e=>de _ e) (dh _) ?_,rfl,q _ g⟩;exact ⟨z,j,0,r,dz _ rfl⟩
end
abbrev Sp:=List V->Hp->VK->XK->Prop
abbrev CXT:=List Env->Hp->Shared->XK->Value->Shared->Prop
variable {CX:CXT}
structure yr6 (P:Program) (w:World) (K:W.Frag) (mg:Str->Option Value) (base:Heap) (A:Around) (outer:List Env) (s:Shared) (H:Hp):Prop where
 frames:A.frames=some outer
 mod:Mod K mg base
 bs:∀ b o,base.get? b=some o->s.heap.get? b=some o/\H b=none
 bsz:base.objs.size <= s.heap.objs.size
 funs:s.heap.FunFrames base outer
 frf:∀ b∈frs outer,H b=none
 hok:HOk P w H s.heap
 bare:AllBare s.gens
def CE (outer:List Env) (P:Program) (w:World) (H:Hp) (s:Shared) (Q:VK) (u:Value) (s':Shared):Prop :=
 ∃ v H',s'.os=s.os/\AllBare s'.gens/\Un (frs outer) [] H H' s.heap s'.heap/\HOk P w H' s'.heap/\xl v u/\Q v H'
def CR (CX:CXT) (outer:List Env) (P:Program) (w:World) (H:Hp) (s:Shared) (Q:VK) (E:XK) (r:Result) (s':Shared):Prop :=
 match r with
 | .ok (.ret u)=>CE outer P w H s Q u s'
 | .ok _=>False
 | .error e=>CX outer H s E e s'
structure wc (P:Program) (w:World) (K:W.Frag) (mg:Str->Option Value) (base:Heap) (CX:CXT) (k:Nat) (f:Addr) (fd:FuncData) (ps:List Str) (sp:Sp):Prop where
 len:∀ vs H Q E,sp vs H Q E->vs.length=ps.length
 run:∀ (A:Around) (outer:List Env) (s:Shared) (H:Hp) (args:Args) (us:List Value) (vs:List V) (Q:VK) (E:XK),z7 k A->yr6 P w K mg base A outer s H->BindsTo s fd args (ps.zip us)->wt vs us->sp vs H Q E ->
  codeAny (model P w) A (.call (.ref f) args) (CR CX outer P w H s Q E) s
theorem yr6.make {w:World} {K:W.Frag} {mg:Str->Option Value} {base:Heap} {A:Around} {outer:List Env} {s:Shared} (e:yr6 P w K mg base A outer s H) (C:Addr) (us:List Value) (kw:List (Str × Value)) :
  yr6 P w K mg base (A.under (.builtin "type.__call__" ⟨.ref C :: us,kw⟩)) outer s H:=⟨by first | exact e.frames | (simpa [Around.under,Code.envs,Code.isFrame,pushEnvs] using e.frames),e.mod,e.bs,e.bsz,e.funs,e.frf,e.hok,e.bare⟩
section
variable {s:Shared}
theorem Inv.env0 (I:Inv X pins σ H s):yr6 X.prog X.w X.K X.mg X.base X.A X.stack s H :=
 ⟨I.ok.frames,I.ok.mod,I.bs,dZ I.ok.bsz I.sz,I.stack,I.stkFree,I.hok,I.bare⟩
theorem Inv.after {Q:VK} (I:Inv X pins σ H s) (h:CE X.stack X.prog X.w H s Q u s'):EP X pins σ Q u s':=by
 obtain ⟨v,f,j,a,k,c,r,q⟩:=h;obtain ⟨i,g,d,t,e⟩:=s';obtain rfl:e=s.os:=j;exact ⟨v,f,I.call (h':=i) (g':=g) (d':=d) (t':=t) (ch:=[]) k c a (fun b z=>absurd z (by simp)),r,q⟩
end
def yxd (sp:Sp) (dvs:List V) (E:XK) (t:TA):TE:=fun σ H Q=>t σ H fun vs H1=>sp (vs++dvs) H1 Q E
def yck (C:Addr) (m:Str) (sp:Sp) (dvs:List V) (E:XK) (ta:TE) (t:TA):TE:=fun σ H Q=>ta σ H fun x H1=>∃ a dx fs,x=.ref a/\H1 a=some (.ins C dx fs)/\fs.lookup m=none /\
 t σ H1 fun vs H2=>sp (x :: (vs++dvs)) H2 Q E
def yrg (C:Addr) (sp:Sp) (dvs:List V) (E:XK) (t:TA):TE:=fun σ H Q=>t σ H fun vs H1=>∀ x dx,H1 x=none->H1 dx=none->dx≠x ->
 sp (.ref x :: (vs++dvs)) (upd (upd H1 dx (.own x)) x (.ins C dx [])) (fun v H2=>v=.non/\Q (.ref x) H2) E
def ud (K:W.Frag) (fd:FuncData) (ps:List Str) (ds:List Value):Prop :=
 ∀ (s:Shared) (us:List Value),K.In s.heap->(us++ds).length=ps.length->BindsTo s fd ⟨us,[]⟩ (ps.zip (us++ds))
theorem ud.all {K:W.Frag} {ps:List Str} (h:∀ us:List Value,us.length=ps.length->bindArgs fd ⟨us,[]⟩=pure (ps.zip us)):ud K fd ps []:=fun s us _ a=>by
 rw [eJ] at a ⊢;exact .of_eq (h us a)
def É (CX:CXT) (X:Cx) (E:XK):Prop:=∀ (pins:List (Addr × Obj)) (σ:St) (H:Hp) (s:Shared) (e:Value) (s':Shared),Inv X pins σ H s->CX X.stack H s E e s'->X.xe e s'
section
variable {k:Nat} {f:Addr} {ps:List Str} {sp:Sp} {dvs:List V} {ds:List Value} {E:XK} {x m:Str} {p pos apos:Pos} {e o:Expr} {t:TA}
theorem yiq {s:Shared} {Q:VK} (F:wc X.prog X.w X.K X.mg X.base CX k f fd ps sp) (hr:z7 k X.A) (hb:ud X.K fd ps ds) (hd:wt dvs ds) (hx:É CX X E)
  (I:Inv X pins σ H s) (r:wt vs us) (h:sp (vs++dvs) H Q E):wpAny (model X.prog X.w) X.A (call (.ref f) us) (EP X pins σ Q) X.xe s:=by
 have b:wt (vs++dvs) (us++ds):=r.append hd;have c:(us++ds).length=ps.length:=by rw [<- b.length]; exact F.len _ _ _ _ h
 refine wpAny_call (codeAny_mono (F.run X.A X.stack s H ⟨us,[]⟩ (us++ds) (vs++dvs) Q E hr I.env0 (hb s us I.kIn c) b h) fun r d a=>?_)
 cases r with
 | error e=>exact hx pins σ H s e d I a
 | ok fl =>
  cases fl with
  | ret u=>exact I.after a
  | next=>exact False.elim a
  | brk=>exact False.elim a
  | cont=>exact False.elim a
theorem vd (F:wc X.prog X.w X.K X.mg X.base CX k f fd ps sp) (hr:z7 k X.A) (hg:Gl X x) (hm:X.mg x=some (.ref f)) (hk:W.keepIn X.K (.ref f)=true) (hb:ud X.K fd ps ds) (hd:wt dvs ds) (hx:É CX X E)
  (ha:PA X (e :: es) t) (hdb:(x == ("__debug__":Str))=false:=by decide) (he:starEach (e :: es) X.env=(false,eval e X.env) :: starEach es X.env:=by rfl) (hpl:(backTo pos (starEach es X.env)).any (·.1)=false:=by rfl) :
  PE X (.Call (.Name x p) (e :: es) [] pos) (yxd sp dvs E t):=by
 refine .mk fun a s σ H Q I h=>?_;refine wpAny_Call_Name_kw (jp I hg hm ?_ hdb);refine W.callWith_K (h₀:=X.base) I.ok.mod.kin hk (thn (ha pos a s σ H _ I h) fun g c ⟨d,i,b,r,q⟩=>⟨b.kIn,?_⟩) he hpl;exact yiq F hr hb hd hx b r q
theorem xr {pl:Sem Bool} (he:PE X o ta) (c:Cls X.K C) (hm:yr7 X.K C m f) (F:wc X.prog X.w X.K X.mg X.base CX k f fd ps sp) (hr:z7 k X.A) (hb:ud X.K fd ps ds) (hd:wt dvs ds) (hx:É CX X E) (ha:PA X (e :: es) t)
  (hst:starEach (e :: es) X.env=(false,eval e X.env) :: starEach es X.env:=by rfl) (hpl:(backTo pos (starEach es X.env)).any (·.1)=false:=by rfl)
  (ht:eval (.Call (.Attribute o m apos) (e :: es) [] pos) X.env=(do
   let ov <- eval o X.env
   standAt apos.atName
   let (f,first) <- holding [ov] (getMethod ov m pl)
   callWith pos f first (backTo pos (starEach (e :: es) X.env)) (backToKw pos (keywordEach [] X.env))):=by rfl) :
  PE X (.Call (.Attribute o m apos) (e :: es) [] pos) (yck C m sp dvs E ta t):=by
 refine .mk fun b s σ H Q I h=>?_;refine W.methodCall_KW (pl:=pl) (thn (he b s σ H _ I h) fun u i h'=>?_) ht;obtain ⟨x,y,g,p,a,G,z,n,j,l,q⟩:=h';subst n;obtain rfl:u=Value.ref a:=p;refine υ g j c hm l ?_
 refine W.callWith_K (first:=[.ref a]) (h₀:=X.base) I.ok.mod.kin hm.kp (thn (ha pos b i σ y _ g q) fun us D ⟨vs,B,d,r,v⟩=>⟨d.kIn,?_⟩) hst hpl
 exact yiq (us:=.ref a :: us) (vs:=.ref a :: vs) F hr hb hd hx d (.cons rfl r) v
theorem wy {pl:Sem Bool} (he:PE X o ta) (c:Cls X.K C) (hm:yr7 X.K C m f) (F:wc X.prog X.w X.K X.mg X.base CX k f fd ps sp) (hr:z7 k X.A) (hb:ud X.K fd ps ds) (hd:wt dvs ds) (hx:É CX X E)
  (ht:eval (.Call (.Attribute o m apos) [] [] pos) X.env=(do
   let ov <- eval o X.env
   standAt apos.atName
   let (f,first) <- holding [ov] (getMethod ov m pl)
   callWith pos f first (backTo pos (starEach [] X.env)) (backToKw pos (keywordEach [] X.env))):=by rfl) :
  PE X (.Call (.Attribute o m apos) [] [] pos) (yck C m sp dvs E ta ysa):=by
 refine .mk fun b s σ H Q I h=>?_;refine W.methodCall_KW (pl:=pl) (thn (he b s σ H _ I h) fun u n h'=>?_) ht;obtain ⟨x,r,d,i,a,p,j,g,e,l,q⟩:=h';subst g;obtain rfl:u=Value.ref a:=i;refine υ d e c hm l ?_
 exact W.callWith_K0 (first:=[.ref a]) d.kIn hm.kp (yiq (us:=[.ref a]) (vs:=[.ref a]) F hr hb hd hx d (.cons rfl .nil) q)
structure Mk (K:W.Frag) (C f:Addr):Prop where
 makes:W.makesIn K C=true
 init:W.findIn K (.ref C) "__init__"=some (some (.ref f))
 fn:W.isFn K (.ref f)=true
 kp:W.keepIn K (.ref C)=true
theorem ydl {s:Shared} {Q:VK} (M:Mk X.K C f) (F:wc X.prog X.w X.K X.mg X.base CX k f fd ps sp) (hr:z7 (k+1) X.A) (hb:ud X.K fd ps ds) (hd:wt dvs ds)
  (hx:É CX X E) (I:Inv X pins σ H s) (r:wt vs us)
  (h:∀ x dx,H x=none->H dx=none->dx≠x->sp (.ref x :: (vs++dvs)) (upd (upd H dx (.own x)) x (.ins C dx [])) (fun v H2=>v=.non/\Q (.ref x) H2) E) :
  wpAny (model X.prog X.w) X.A (call (.ref C) us) (EP X pins σ Q) X.xe s:=by
 have c:=h (s.heap.objs.size+1) s.heap.objs.size (I.hok.fresh (Nat.le_succ _)) (I.hok.fresh (dh _)) (dH (eY _));have b:=Inv.made (C:=C) I;have d:wt (V.ref (s.heap.objs.size+1) :: (vs++dvs)) (Value.ref (s.heap.objs.size+1) :: (us++ds)):=.cons rfl (r.append hd)
 have o:(Value.ref (s.heap.objs.size+1) :: us++ds).length=ps.length:=by
  have e:=d.length;rw [F.len _ _ _ _ c] at e;exact e.symm
 refine wpAny_call (ydn (f:=f) I.kIn M.makes M.init (beq_iff_eq.mp M.fn) (codeAny_mono (F.run _ X.stack _ _ ⟨Value.ref (s.heap.objs.size+1) :: us,[]⟩ (Value.ref (s.heap.objs.size+1) :: (us++ds)) _ _ E (hr.make C us [])
  (b.env0.make C us []) (hb _ (Value.ref (s.heap.objs.size+1) :: us) b.kIn o) d c) fun r i a=>?_))
 cases r with
 | error e=>exact hx pins σ _ _ e i b a
 | ok fl =>
  cases fl with
  | ret u =>
   obtain ⟨v,m,j,l,g,n⟩:=b.after a;subst g;exact ⟨l,⟨V.ref (s.heap.objs.size+1),m,j,rfl,n⟩⟩
  | next=>exact False.elim a
  | brk=>exact False.elim a
  | cont=>exact False.elim a
theorem yb4 (M:Mk X.K C f) (F:wc X.prog X.w X.K X.mg X.base CX k f fd ps sp) (hr:z7 (k+1) X.A) (hg:Gl X x) (hm:X.mg x=some (.ref C)) (hb:ud X.K fd ps ds) (hd:wt dvs ds) (hx:É CX X E)
  (ha:PA X (e :: es) t) (hdb:(x == ("__debug__":Str))=false:=by decide) (he:starEach (e :: es) X.env=(false,eval e X.env) :: starEach es X.env:=by rfl) (hpl:(backTo pos (starEach es X.env)).any (·.1)=false:=by rfl) :
  PE X (.Call (.Name x p) (e :: es) [] pos) (yrg C sp dvs E t):=by
 refine .mk fun a s σ H Q I h=>?_;refine wpAny_Call_Name_kw (jp I hg hm ?_ hdb);refine W.callWith_K (h₀:=X.base) I.ok.mod.kin M.kp (thn (ha pos a s σ H _ I h) fun g c ⟨d,i,b,r,q⟩=>⟨b.kIn,?_⟩) he hpl;exact ydl M F hr hb hd hx b r q
theorem γ (M:Mk X.K C f) (F:wc X.prog X.w X.K X.mg X.base CX k f fd ps sp) (hr:z7 (k+1) X.A) (hg:Gl X x) (hm:X.mg x=some (.ref C)) (hb:ud X.K fd ps ds) (hd:wt dvs ds) (hx:É CX X E)
  (hdb:(x == ("__debug__":Str))=false:=by decide):PE X (.Call (.Name x p) [] [] pos) (yrg C sp dvs E ysa):=by
 refine .mk fun a s σ H Q I h=>?_;refine wpAny_Call_Name_kw (jp I hg hm ?_ hdb);exact W.callWith_K0 I.kIn M.kp (ydl (us:=[]) M F hr hb hd hx I .nil h)
end
section
variable {k:Nat} {f:Addr} {ps ks:List Str} {sp:Sp} {E:XK} {x m:Str} {p pos apos kpos:Pos} {e o:Expr} {kws:List Keyword} {t tk:TA} {nm:Option Str}
structure vao (K:W.Frag) (fd:FuncData) (ps ks:List Str) (g:List Value->List Value->List Value) (gV:List V->List V->List V):Prop where
 to:∀ (s:Shared) (us ws:List Value),K.In s.heap->(g us ws).length=ps.length->BindsTo s fd ⟨us,ks.zip ws⟩ (ps.zip (g us ws))
 rel:∀ {vs:List V} {us:List Value} {zs:List V} {ws:List Value},wt vs us->wt zs ws->wt (gV vs zs) (g us ws)
variable {g:List Value->List Value->List Value} {gV:List V->List V->List V}
end
structure yk (N P:List Str) (sc:Scope):Prop where
 kind:sc.kind=.function
 co:sc.isCoroutine=false
 gen:sc.isGenerator=false
 nd:N.Nodup
 pre:N.take P.length=P
 par:∀ x∈P,sc.names.lookup x=some .local\/sc.names.lookup x=some .cell
 nofree:∀ y∈sc.names,y.2≠.free
theorem yak {kindOf:Str->Option NameKind} {x:Str}:∀ {binds:List (Str × Value)} {m:Str->Option Value},(∀ v,(x,v)∉binds)->bindL kindOf binds m x=m x
 | [],_,_=>rfl
 | (n,v) :: r,m,h=>by
  unfold bindL;rw [yak fun w a=>h w (d5 _ a)]
  split
  .have:x≠n:=by rintro rfl; exact h v dS
   simp [this]
  .rfl
theorem Ÿ {kindOf:Str->Option NameKind} {x:Str}:∀ {binds:List (Str × Value)} {m:Str->Option Value},(∀ v,(x,v)∉binds)->bindC kindOf binds m x=m x
 | [],_,_=>rfl
 | (n,v) :: r,m,h=>by
  unfold bindC;rw [Ÿ fun w a=>h w (d5 _ a)]
  split
  .rfl
  .have:x≠n:=by rintro rfl; exact h v dS
   simp [this]
theorem yat {kindOf:Str->Option NameKind} {x:Str} {v:Value}:∀ {P:List Str} {vs:List Value} {i:Nat} {m:Str->Option Value},P.Nodup->P[i]?=some x->vs[i]?=some v->kindOf x=some .local ->
  bindL kindOf (P.zip vs) m x=some v
 | [],_,_,_,_,h,_,_=>by simp at h
 | _ :: _,[],_,_,_,_,h,_=>by simp at h
 | p :: P,w :: vs,0,m,nd,h1,h2,hk=>by
  simp at h1 h2; subst h1; subst h2;show bindL kindOf ((p,w) :: P.zip vs) m p=_;unfold bindL;rw [yak fun v a=>(eI.mp nd).1 (List.of_mem_zip a).1,if_pos hk];simp
 | p :: P,w :: vs,i+1,m,nd,h1,h2,hk=>by
  show bindL kindOf ((p,w) :: P.zip vs) m x=_;unfold bindL;exact yat (i:=i) (eI.mp nd).2 (by simpa using h1) (by simpa using h2) hk
theorem Ų {kindOf:Str->Option NameKind} {x:Str} {v:Value}:∀ {P:List Str} {vs:List Value} {i:Nat} {m:Str->Option Value},P.Nodup->P[i]?=some x->vs[i]?=some v->kindOf x≠some .local ->
  bindC kindOf (P.zip vs) m x=some v
 | [],_,_,_,_,h,_,_=>by simp at h
 | _ :: _,[],_,_,_,_,h,_=>by simp at h
 | p :: P,w :: vs,0,m,nd,h1,h2,hk=>by
  simp at h1 h2; subst h1; subst h2;show bindC kindOf ((p,w) :: P.zip vs) m p=_;unfold bindC;rw [Ÿ fun v a=>(eI.mp nd).1 (List.of_mem_zip a).1,if_neg hk];simp
 | p :: P,w :: vs,i+1,m,nd,h1,h2,hk=>by
  show bindC kindOf ((p,w) :: P.zip vs) m x=_;unfold bindC;exact Ų (i:=i) (eI.mp nd).2 (by simpa using h1) (by simpa using h2) hk
def Æ (N:List Str) (vs:List V):St:=vs.map some++List.replicate (N.length - vs.length) none
def wa (CX:CXT) (P:Program) (w:World) (K:W.Frag) (mg:Str->Option Value) (base:Heap) (N:List Str) (qual:Str) (scope:Scope) (f:Addr) (cd:Value) (A:Around) (outer:List Env) (s:Shared) (H:Hp) (E:XK):Cx where
 prog:=P
 w:=w
 K:=K
 mg:=mg
 base:=base
 A:=A.deeper (envOfC qual scope s.heap.objs.size f cd)
 N:=N
 s₀:=s
 H₀:=H
 env:=envOfC qual scope s.heap.objs.size f cd
 outer:=outer
 stack:=envOfC qual scope s.heap.objs.size f cd :: outer
 ex:=[]
 calm:=true
 fn:=fun _=>true
 pn:=[]
 xe:=fun e s'=>wpAny (model P w) (A.deeper (envOfC qual scope s.heap.objs.size f cd)) (leaving (envOfC qual scope s.heap.objs.size f cd) e) (fun _ s''=>CX outer H s E e s'') (fun e' s''=>CX outer H s E e' s'') s'
theorem ydx {sc:Scope} {n:Nat} {x:Str} (h:sc.names.lookup x=some .cell):∃ c,(cellsFrom n sc.names []).lookup x=some c:=by
 have q:=W.cellsFrom_some sc.names n [] (.inl h);exact Option.isSome_iff_exists.mp q
theorem yf0 {w:World} {K:W.Frag} {mg:Str->Option Value} {base:Heap} {N ps:List Str} {qual:Str} {scope:Scope} {f:Addr} {cd:Value} {A:Around} {outer:List Env} {s s1:Shared} {E:XK} 
  (S:yk N ps scope) (hd:A.handled=none) (e0:yr6 P w K mg base A outer s H) (hl:vs.length=ps.length) (r:wt vs us)
  (x:InCallC s s.heap.objs.size (bindL (envOfC qual scope s.heap.objs.size f cd).kindOf (ps.zip us) fun _=>none) (cellsFrom (s.heap.objs.size+1) scope.names []) (bindC (envOfC qual scope s.heap.objs.size f cd).kindOf (ps.zip us) fun _=>none) s1) :
  Inv (wa CX P w K mg base N qual scope f cd A outer s H E) [] (Æ N vs) H s1:=by
 have D:ps.length <= N.length:=by have:=congrArg List.length S.pre; rw [dM] at this; omega
 obtain ⟨t,I,rfl,B⟩:=x.done;have g:∀ b:Addr,b∉(wa CX P w K mg base N qual scope f cd A outer s H E).ex:=fun b z=>absurd (show b∈([]:List Addr) from z) (by simp)
 refine ⟨⟨e0.mod,S.kind,rfl,rfl,dh _,fun y z c t d=>?_,fun y j=>?_,fun y c _ h=>?_,fun _=>hd,Around.frames_deeper e0.frames,.inr ⟨rfl,rfl⟩,fun b z=>absurd z (g b),e0.bs,e0.bsz,fun b _ _=>g b,fun b z=>absurd z (g b),e0.funs,e0.frf⟩,
  rfl,e0.bare,Un.kept B,⟨_,x.toInCall.ns,fun i y v t d J=>?_⟩,fun y c h=>⟨_,x.cell y c h⟩,e0.hok.fresh (dh _),fun y c h=>?_,fun p l=>absurd (show p∈([]:List (Addr × Obj)) from l) (by simp),e0.hok.kept B,?_⟩
 .exact name_of_addr x.apart (PySem.mem_of_lookup t) (PySem.mem_of_lookup d)
 .have j:scope.names.lookup y=some .cell\/scope.names.lookup y=some .free:=j;rcases j with j | j
  .exact ydx j
  .exact absurd rfl (S.nofree _ (PySem.mem_of_lookup j))
 .exact Nat.le_of_lt (x.above y c (PySem.mem_of_lookup h))
 .have o:i < vs.length:=by
   unfold Æ at d;by_cases o:i < vs.length
   .exact o
   .rw [ee (by simpa using o)] at d;rw [List.getElem?_replicate] at d
    split at d <;> cases d
  have G:vs[i]?=some v:=by
   unfold Æ at d;rw [d9 (by simpa using o),dm] at d
   cases e:vs[i]? with
   | none=>rw [e] at d; cases d
   | some a=>rw [e] at d; cases d; rfl
  obtain ⟨u,C,F⟩:=r.get G
  have l:ps[i]?=some y:=by
   rw [<- S.pre,List.getElem?_take_of_lt (by omega)]; exact t
  have m:ps.Nodup:=by rw [<- S.pre]; exact S.nd.sublist (List.take_sublist _ _)
  refine ⟨u,F,?_⟩;rcases S.par y (dI l) with k | k
  .exact .inl ⟨k,yat m l C k⟩
  .obtain ⟨c,e⟩:=ydx (n:=s.heap.objs.size+1) k;refine .inr ⟨.inl k,c,e,?_⟩;have q:=x.cell y c e;rw [Ų m l C (by show scope.names.lookup y≠_; rw [k]; decide)] at q;exact q
 .exact e0.hok.fresh (Nat.le_of_lt (x.above y c (PySem.mem_of_lookup h)))
 .unfold Æ;show _=N.length;rw [dv,cH,List.length_replicate];omega
theorem ykk {w:World} {K:W.Frag} {mg:Str->Option Value} {base:Heap} {k:Nat} {f:Addr} {name qual:Str} {params:Arguments} {scope:Scope} {dV kV doc pm cdv ct oc:Value} {an od:Option Addr}
  {osl:Array (Option Value)} {N ps:List Str} {sp:Sp} (lk:K.lookup f=some ⟨oc,od,.func (W.fnOf name qual params body scope dV kV doc pm an cdv ct),osl⟩) (hcd:W.codeIn K cdv qual=true) (S:yk N ps scope)
  (len:∀ vs H Q E,sp vs H Q E->vs.length=ps.length)
  (hbody:∀ (A:Around) (outer:List Env) (s:Shared) (H:Hp) (vs:List V) (Q:VK) (E:XK),z7 k (A.deeper (envOfC qual scope s.heap.objs.size f cdv))->sp vs H Q E ->
   ∃ t,PSs (wa CX P w K mg base N qual scope f cdv A outer s H E) body t/\t { nx:=fun _ H'=>Q .non H',rt:=Q } (Æ N vs) H) :
  wc P w K mg base CX (k+1) f (W.fnOf name qual params body scope dV kV doc pm an cdv ct) ps sp:=by
 refine ⟨len,fun A outer s H p C vs Q E l h T r g=>?_⟩;have M:=len _ _ _ _ g;have B:K.In s.heap:=h.mod.kin.keeps fun b o e=>(h.bs b o e).1;have m:s.heap.NoLimit:=h.mod.nolimit.keeps fun b o e=>(h.bs b o e).1
 have a:∀ y∈ps.zip C,scope.names.lookup y.1=some .local\/(scope.names.lookup y.1=some .cell/\((cellsFrom (s.heap.objs.size+1) scope.names []).lookup y.1).isSome=true):=fun ⟨n,v⟩ F=>by
  rcases S.par n (List.of_mem_zip F).1 with q | q
  .exact .inl q
  .exact .inr ⟨q,W.cellsFrom_some _ _ _ (.inl q)⟩
 refine codeAny_call_function l.depth (B _ _ lk) rfl S.co S.gen rfl (W.codeRec_of B hcd) (T _ _ _ _ ?_);refine wpAny_newFunctionEnv_cells S.kind a fun O L z x=>?_;subst L;refine ⟨m.keeps x.toInCall.keep,codeAny_func ?_⟩;obtain ⟨t,R,G⟩:=hbody A outer s H vs Q E (l.deeper _) g;have I:Inv (wa CX P w K mg base N qual scope f cdv A outer s H E) [] (Æ N vs) H z:=yf0 S l.hd h M r x;refine eS (R [] z (Æ N vs) H _ I G) (fun D j c=>?_) fun e j c=>c
 have d:∀ {σ':St} {H':Hp} {v:V} {u:Value},Inv (wa CX P w K mg base N qual scope f cdv A outer s H E) [] σ' H' j->xl v u->Q v H'->CE outer P w H s Q u j :=
  fun {σ' H' v u} J i q=>⟨v,H',J.os,J.bare,J.base,J.hok,i,q⟩
 cases D with
 | ret u =>
  obtain ⟨v,σ',H',J,i,q⟩:=c;exact d J i q
 | next =>
  obtain ⟨σ',H',J,q⟩:=c;exact d (v:=V.non) (u:=Value.none) J rfl q
 | brk =>
  obtain ⟨_,_,_,q⟩:=c;exact False.elim q
 | cont =>
  obtain ⟨_,_,_,q⟩:=c;exact False.elim q
section
variable {x:Str} {p pos:Pos} {e:Expr} {t:TA} {id T:String} {r:List V->Hp->VK->Prop}
def tCB (r:List V->Hp->VK->Prop) (t:TA):TE:=fun σ H Q=>t σ H fun vs H1=>r vs H1 Q
theorem yq (hc:jw X (.builtin id) r) (hg:Gl X x) (hm:X.mg x=none) (hv:bootBuiltins x=some (.builtin id)) (ha:PA X (e :: es) t) (hn:x≠"__name__":=by decide) (hdb:(x == ("__debug__":Str))=false:=by decide)
  (he:starEach (e :: es) X.env=(false,eval e X.env) :: starEach es X.env:=by rfl) (hpl:(backTo pos (starEach es X.env)).any (·.1)=false:=by rfl):PE X (.Call (.Name x p) (e :: es) [] pos) (tCB r t):=by
 refine .mk fun a s σ H Q I h=>?_;refine wpAny_Call_Name_kw (Ć I hg hm hv ?_ hn hdb);exact PyProof.Rows.callWith_builtin1 (thn (ha pos a s σ H _ I h) fun f c ⟨d,j,g,i,b⟩=>hc a c σ j d f Q g i b) he hpl
theorem xn (hc:jw X (.type T) r) (hg:Gl X x) (hm:X.mg x=none) (hv:bootBuiltins x=some (.type T)) (ha:PA X (e :: es) t) (hn:x≠"__name__":=by decide) (hdb:(x == ("__debug__":Str))=false:=by decide)
  (he:starEach (e :: es) X.env=(false,eval e X.env) :: starEach es X.env:=by rfl) (hpl:(backTo pos (starEach es X.env)).any (·.1)=false:=by rfl):PE X (.Call (.Name x p) (e :: es) [] pos) (tCB r t):=by
 refine .mk fun a s σ H Q I h=>?_;refine wpAny_Call_Name_kw (Ć I hg hm hv ?_ hn hdb);exact PyProof.Rows.callWith_type1 (thn (ha pos a s σ H _ I h) fun f c ⟨d,j,g,i,b⟩=>hc a c σ j d f Q g i b) he hpl
end
end L2
namespace HT
open PySem PyProof.Rows
section
open PySem.SeqAt
open PySem.AutoSeq1 (wpAny_loadPart')
open PySem.MeetsSeq PySem.MeetsSeq2 PySem.MeetsSeq3
end
section
variable {prog:Program} {w:World} {A:Around} {E:Value->Shared->Prop} {s:Shared}
def sIx (n d:Nat):Option Int->Nat
 | none=>d
 | some v=>if v < 0 then (v+(n:Int)).toNat else min v.toNat n
theorem sIx_none (n d:Nat):sIx n d none=d:=rfl
theorem sIx_nat (n d k:Nat):sIx n d (some (k:Int))=min k n:=by
 show (if (k:Int) < 0 then ((k:Int)+(n:Int)).toNat else min (k:Int).toNat n)=min k n;rw [if_neg (by omega),Int.toNat_natCast]
theorem yt1 (n d:Nat) (hd:d <= n) (o:Option Int):sIx n d o <= n:=by
 cases o with
 | none=>exact hd
 | some v =>
  show (if v < 0 then (v+(n:Int)).toNat else min v.toNat n) <= n;by_cases hv:v < 0
  .rw [if_pos hv]; omega
  .rw [if_neg hv]; exact Nat.min_le_right _ _
theorem yhi (v:Int) (n d:Nat):(if v < 0 then max (v+(n:Int)) 0 else min v (n:Int))=((sIx n d (some v):Nat):Int):=by
 show (if v < 0 then max (v+(n:Int)) 0 else min v (n:Int))=(((if v < 0 then (v+(n:Int)).toNat else min v.toNat n):Nat):Int);by_cases hv:v < 0
 .simp only [if_pos hv]; omega
 .simp only [if_neg hv]; omega
theorem yeu (lo hi:Option Int) (n:Nat):Builtin.Slice.sliceAdjust lo hi 1 (n:Int)=(((sIx n 0 lo:Nat):Int),((sIx n n hi:Nat):Int)):=by
 have a:¬ ((1:Int) < 0):=by omega
 unfold Builtin.Slice.sliceAdjust;simp only [a,if_false];refine Prod.ext ?_ ?_
 .cases lo with
  | none=>rfl
  | some v=>exact yhi v n 0
 .cases hi with
  | none=>rfl
  | some v=>exact yhi v n n
theorem yer (i j:Nat):Builtin.Slice.slicePlaces (i:Int) (j:Int) 1=j - i:=by
 unfold Builtin.Slice.slicePlaces;have a:(1:Int) > 0:=by omega
 simp only [a,if_true,Int.ediv_one]
 split <;> omega
theorem ĭ {v:Value} {o:Option Int} {Q:Option Int->Shared->Prop} (p:IsPart v o) (h:Q o s):wpAny (model prog w) A (Builtin.Slice.slicePartIndex v) Q E s:=by
 cases p with
 | none=>exact slicePart_none h
 | int i t=>exact slicePart_int h
theorem u7 {sl:Addr} {vl vu:Value} {lo hi:Option Int} {n:Nat} {Q:Int × Int × Nat->Shared->Prop} (hs:s.heap.IsSliceOf sl vl vu .none) (pl:IsPart vl lo) (pu:IsPart vu hi)
  (h:Q (((sIx n 0 lo:Nat):Int),1,sIx n n hi - sIx n 0 lo) s):wpAny (model prog w) A (Builtin.Slice.sliceApplied (.ref sl) (pure (n:Int))) Q E s:=by
 obtain ⟨d,a,c,b⟩:=id hs;unfold Builtin.Slice.sliceApplied Builtin.Slice.sliceFields;refine cT (cT (eA a b (x:=vl) rfl (cT (eA a b (x:=vu) rfl (cT (eA a b (x:=.none) rfl (dn ?_)))))));refine cT (slicePart_none ?_);show wpAny _ _ (if ((1:Int) == 0)=true then _ else _) _ _ s;rw [if_neg (by decide)];refine cT (ĭ pl (cT (ĭ pu (cT (dn ?_)))))
 show wpAny _ _ (match Builtin.Slice.sliceAdjust lo hi 1 (n:Int) with | (lo,hi)=>pure (lo,(1:Int),Builtin.Slice.slicePlaces lo hi 1)) _ _ s
 rw [yeu lo hi n];show wpAny _ _ (pure (((sIx n 0 lo:Nat):Int),(1:Int),Builtin.Slice.slicePlaces ((sIx n 0 lo:Nat):Int) ((sIx n n hi:Nat):Int) 1)) _ _ s;rw [yer];exact dn h
theorem yjz (xs:Array Value) (i k:Nat):((List.range k).filterMap fun (m:Nat)=>xs[((i:Int)+(m:Int) * 1).toNat]?).toArray=((xs.toList.drop i).take k).toArray:=by
 have e:(fun (m:Nat)=>xs[((i:Int)+(m:Int) * 1).toNat]?)=fun m=>xs[i+m]?:=by
  funext m
  have:((i:Int)+(m:Int) * 1).toNat=i+m:=by omega
  rw [this]
 rw [e];have:=pick_run xs i k;rw [List.filterMap_map] at this;have a:((fun x=>xs[x]?) ∘ fun x=>i+x)=fun m=>xs[i+m]?:=rfl;rw [a] at this;rw [this]
theorem getItem_tuple_cut {t sl:Addr} {items:Array Value} {vl vu:Value} {lo hi:Option Int} {Q:Value->Shared->Prop} (ht:IsTup s.heap t items) (hs:s.heap.IsSliceOf sl vl vu .none) (pl:IsPart vl lo) (pu:IsPart vu hi)
  (hw:¬ (sIx items.size 0 lo=0/\sIx items.size items.size hi=items.size))
  (h:Q (.ref s.heap.objs.size) { s with heap:=s.heap.push { cls:=.type "tuple",data:=.seq ((items.toList.drop (sIx items.size 0 lo)).take (sIx items.size items.size hi - sIx items.size 0 lo)).toArray } })
  (hsz:items.size <= sizeLine):wpAny (model prog w) A (getItem (.ref t) (.ref sl)) Q E s:=by
 have a:sizeOk (.seq ((items.toList.drop (sIx items.size 0 lo)).take (sIx items.size items.size hi - sIx items.size 0 lo)).toArray):=by
  show ((items.toList.drop (sIx items.size 0 lo)).take (sIx items.size items.size hi - sIx items.size 0 lo)).toArray.size <= sizeLine;rw [dy,dM,eV,eP];omega
 have j:sIx items.size items.size hi <= items.size:=yt1 _ _ (dh _) hi;obtain ⟨g,b,c,f⟩:=id hs;have d:s.TypeIs (.ref sl) "slice":=⟨g,b,c⟩;unfold getItem
 try with_reducible refine wpAny_holding ?_
 first | refine cT (dn ?_) | skip
 refine cT (wpAny_sequenceKey ht.typeIs (by decide) ?_);refine cT (wpAny_callSpecial?_slot (name:=Str.ofString "__getitem__") ht.typeIs PyProof.Rows.slot_tuple_getitem
  (wpAny_call_entry PyProof.Rows.slot_tuple_getitem ht.typeIs entry_tuple_getitem ?_ (args_tuple_getitem _ _)))
 show wpAny _ _ (Builtin.Tuple.tupleItemsOf (.ref t) >>= _) _ _ s;refine cT (tupleItemsOf_ ht ?_);refine cT (wpAny_typeOf d ?_);rw [if_pos (by decide)];refine cT (u7 hs pl pu ?_)
 have e:¬ ((((sIx items.size 0 lo:Nat):Int) == 0 && (1:Int) == 1 && (sIx items.size items.size hi - sIx items.size 0 lo) == items.size)=true):=by
  intro q;rw [dU,dU] at q;have i:((sIx items.size 0 lo:Nat):Int)=0:=eq_of_beq q.1.1;have k:sIx items.size items.size hi - sIx items.size 0 lo=items.size:=eq_of_beq q.2;exact hw ⟨by omega,by omega⟩
 show wpAny _ _ (if (((sIx items.size 0 lo:Nat):Int) == 0 && (1:Int) == 1 && (sIx items.size items.size hi - sIx items.size 0 lo) == items.size)=true then _ else _) _ _ s;rw [if_neg e,yjz]
 first
  | exact cT (m:=Builtin.Tuple.tupleExact _) (wpAny_newObj_type (dn ⟨_,rfl,dn h⟩) a)
  | exact cT (m:=Builtin.Tuple.tupleExact _) (wpAny_newObj_type (cT (dn (dn ⟨_,rfl,dn h⟩))) a)
  | exact cT (cT (m:=Builtin.Tuple.tupleExact _) (wpAny_newObj_type (dn (dn ⟨_,rfl,dn h⟩)) a))
  | exact cT (cT (m:=Builtin.Tuple.tupleExact _) (wpAny_newObj_type (dn ⟨_,rfl,dn h⟩) a))
end
end HT
namespace L2
open PySem PySem.Spec PyProof.Rows
variable {pins:List (Addr × Obj)} {its us:List Value} {v:Value}
abbrev TO:=St->Hp->(Option Int->Hp->Prop)->Prop
def PO (X:Cx) (e:Option Expr) (t:TO):Prop :=
 ∀ (pins:List (Addr × Obj)) (s:Shared) (σ:St) (H:Hp) (Q:Option Int->Hp->Prop),Inv X pins σ H s->t σ H Q ->
  wpAny (model X.prog X.w) X.A (evalPart e X.env) (fun u s'=>∃ o H',Inv X pins σ H' s'/\IsPart u o/\Q o H') X.xe s
def yhl:TO:=fun _ H Q=>Q none H
def yx3 (t:TE):TO:=fun σ H Q=>t σ H fun x H1=>∃ i,x=.int i/\Q (some i) H1
section
variable {X:Cx} {e:Expr} {te:TE} {lo hi:Option Expr} {tl th:TO} {pos p2:Pos}
theorem zg:PO X none yhl:=by
 intro a s σ H Q I h;rw [evalPart_none];exact dn ⟨none,H,I,.none,h⟩
theorem zi (h:PE X e te):PO X (some e) (yx3 te):=by
 intro a s σ H Q I c;rw [evalPart_some];refine thn (h a s σ H _ I c) fun u j h'=>?_;obtain ⟨x,g,d,f,b⟩:=h';obtain ⟨i,rfl,q⟩:=b;obtain ⟨t,rfl⟩:=f;exact ⟨some i,g,d,.int i t,q⟩
def SlR (X:Cx) (r:V->Option Int->Option Int->Hp->VK->Prop):Prop :=
 ∀ (pins:List (Addr × Obj)) (s:Shared) (σ:St) (H:Hp) (x:V) (v vl vu:Value) (lo hi:Option Int) (sl:Addr) (Q:VK),Inv X pins σ H s->xl x v->s.heap.IsSliceOf sl vl vu .none->IsPart vl lo->IsPart vu hi->r x lo hi H Q ->
  ∃ T id,typeLookup (.type T) "__getitem__"=pure (some (.builtin id))/\s.TypeIs v T/\wpAny (model X.prog X.w) X.A (getItem v (.ref sl)) (EP X pins σ Q) X.xe s
theorem SlR.or {r r':V->Option Int->Option Int->Hp->VK->Prop} (h:SlR X r) (h':SlR X r'):SlR X (fun x lo hi H Q=>r x lo hi H Q\/r' x lo hi H Q):=by
 intro a s σ H x v b g lo hi i Q I f c d e q;rcases q with q | q
 .exact h a s σ H x v b g lo hi i Q I f c d e q
 .exact h' a s σ H x v b g lo hi i Q I f c d e q
def tSl (r:V->Option Int->Option Int->Hp->VK->Prop) (te:TE) (tl th:TO):TE:=fun σ H Q=>te σ H fun x H1=>tl σ H1 fun l H2=>th σ H2 fun u H3=>r x l u H3 Q
theorem ue {r:V->Option Int->Option Int->Hp->VK->Prop} (hr:SlR X r) (he:PE X e te) (hl:PO X lo tl) (hu:PO X hi th):PE X (.Subscript e (.Slice lo hi none p2) pos) (tSl r te tl th):=by
 refine .mk fun a s σ H Q I h=>?_;refine Subscript_ (thn (he a s σ H _ I h) fun v p h'=>?_);obtain ⟨x,J,y,o,i⟩:=h';refine wpAny_Slice (thn (hl a p σ J _ y i) fun f B ⟨l,j,E,m,G⟩=>thn (hu a B σ j _ E G) fun d c h'=>?_);obtain ⟨u,g,k,n,C⟩:=h';rw [evalPart_none];refine dn ?_;have z:Inv X a σ g { c with heap:=c.heap.push { cls:=.type "slice",data:=.fields #[f,d,.none] } }:=k.kept (t':=c.toks) fun b K q=>de _ q;obtain ⟨T,id,t,F,D⟩:=hr a { c with heap:=c.heap.push { cls:=.type "slice",data:=.fields #[f,d,.none] } } σ g x v f d l u c.heap.objs.size Q z o (Heap.IsSliceOf.new ..) m n C;show wpAny (model X.prog X.w) X.A (subscriptTail e (.Slice lo hi none p2) v (.ref c.heap.objs.size)) (EP X a σ Q) X.xe { c with heap:=c.heap.push { cls:=.type "slice",data:=.fields #[f,d,.none] } };exact tail_any (ops:=[.ref c.heap.objs.size,v]) F t D (by with_unfolding_all rfl)
def ycq (xs:List V) (lo hi:Option Int):List V:=(xs.drop (HT.sIx xs.length 0 lo)).take (HT.sIx xs.length xs.length hi - HT.sIx xs.length 0 lo)
theorem è (xs:List V) (lo hi:Option Int):(ycq xs lo hi).length <= xs.length:=by
 unfold ycq;rw [dM,eV];omega
def vbf (K:W.Frag):V->Option Int->Option Int->Hp->VK->Prop:=fun x lo hi H Q=>∃ a xs,x=.ref a/\SqT K H a xs /\
 ¬ (HT.sIx xs.length 0 lo=0/\HT.sIx xs.length xs.length hi=xs.length)/\∀ p,H p=none->Q (.ref p) (upd H p (.tup (ycq xs lo hi)))
theorem yu2:SlR X (vbf X.K):=by
 intro g s σ H x v u y lo e z Q I t k n p h;obtain ⟨a,d,rfl,l,m,q⟩:=h;cases t;obtain ⟨f,r,j,i⟩:=I.tuple l;have c:f.toArray.size=d.length:=by rw [dy]; exact r.length.symm
 refine ⟨"tuple",_,PyProof.Rows.slot_tuple_getitem.lookup,j.typeIs,?_⟩;refine HT.getItem_tuple_cut j k n p (by rw [c]; exact m) ?_ (by rw [c]; exact i);rw [c];refine ⟨.ref s.heap.objs.size,_,I.laid (t':=s.toks) (o:=.tup (ycq d lo e)) (fun b w q=>de _ q) (dh _) ?_,rfl,q _ (I.hok.fresh (dh _))⟩;exact ⟨dZ (è d lo e) i,_,(r.drop (HT.sIx d.length 0 lo)).take (HT.sIx d.length d.length e - HT.sIx d.length 0 lo),IsTup.new _ _⟩
end
def ixN (n:Nat) (i:Int):Option Nat:=if 0 <= i then (if i < n then some i.toNat else none) else if -(n:Int) <= i then some (i+n).toNat else none
def atI {α:Type} (xs:List α) (i:Int):Option α:=(ixN xs.length i).bind fun j=>xs[j]?
theorem yhs {n:Nat} {i:Int} {j:Nat} (h:ixN n i=some j):seqIndex? i n=some j/\j < n/\-(n:Int) <= i/\i < n:=by
 unfold ixN at h;by_cases h0:0 <= i
 .rw [if_pos h0] at h;by_cases h1:i < n
  .rw [if_pos h1] at h;have e:i.toNat=j:=dD h;exact ⟨by rw [seqIndex_of h0 h1,e],by omega,by omega,h1⟩
  .rw [if_neg h1] at h; cases h
 .rw [if_neg h0] at h;by_cases h1:-(n:Int) <= i
  .rw [if_pos h1] at h;have e:(i+n).toNat=j:=dD h;exact ⟨by rw [seqIndex_neg (by omega) h1,e],by omega,h1,by omega⟩
  .rw [if_neg h1] at h; cases h
theorem yhq {α:Type} {xs:List α} {i:Int} {v:α} (h:atI xs i=some v):∃ j,seqIndex? i xs.length=some j/\xs[j]?=some v/\j < xs.length/\-(xs.length:Int) <= i/\i < xs.length:=by
 unfold atI at h
 cases e:ixN xs.length i with
 | none=>rw [e] at h; cases h
 | some j =>
  rw [e] at h;obtain ⟨d,b,a,c⟩:=yhs e;exact ⟨j,d,h,b,a,c⟩
theorem vw {α:Type} {xs:List α} {j:Nat} {v:α} (h:xs[j]?=some v):atI xs (j:Int)=some v:=by
 have a:j < xs.length:=(d8.mp h).1
 have e:ixN xs.length (j:Int)=some j:=by
  unfold ixN;rw [if_pos (by omega),if_pos (by omega)]; simp
 unfold atI; rw [e]; exact h
theorem ydu {α:Type} (xs:List α) (v:α):atI (xs++[v]) (-1)=some v:=by
 have a:(xs++[v]).length=xs.length+1:=by simp
 have e:ixN (xs++[v]).length (-1)=some xs.length:=by
  unfold ixN;rw [a,if_neg (by decide),if_pos (by omega)]
  congr 1
  omega
 unfold atI;rw [e];show (xs++[v])[xs.length]?=some v;simp
def ynp (b:Expr):Prop:=∀ o i,subscripted b false o i=operate [o,i] (getItem o i)
def IxR (X:Cx) (r:R2):Prop :=
 ∀ (value slice:Expr) (pins:List (Addr × Obj)) (s:Shared) (σ:St) (H:Hp) (x y:V) (v u:Value) (Q:VK),Inv X pins σ H s->xl x v->xl y u->r x y H Q ->
  subscripted slice false v u=operate [v,u] (getItem v u)->wpAny (model X.prog X.w) X.A (subscriptTail value slice v u) (EP X pins σ Q) X.xe s
def MtR (X:Cx) (id:String) (r:V->List V->Hp->VK->Prop):Prop :=
 ∀ (pins:List (Addr × Obj)) (s:Shared) (σ:St) (H:Hp) (x:V) (xs:List V) (v:Value) (us:List Value) (Q:VK),Inv X pins σ H s->xl x v->wt xs us->r x xs H Q ->
  wpAny (model X.prog X.w) X.A (call (.builtin id) (v :: us)) (EP X pins σ Q) X.xe s
section
variable {X:Cx} {a b:Expr} {ta tb:TE} {pos:Pos}
theorem xf {r:R2} (hr:IxR X r) (ha:PE X a ta) (hb:PE X b tb) (hs:ynp b):PE X (.Subscript a b pos) (tOp r ta tb):=by
 refine .mk fun c s σ H Q I h=>?_;exact Subscript_ (vaf ha hb I h fun v u f x y d g i e q=>hr a b c f σ d x y v u Q g i e q (hs _ _))
def va5 (K:W.Frag):R2:=fun x y H Q=>∃ p xs i v,x=.ref p/\y=.int i/\SqL K H p xs/\atI xs i=some v/\Q v H
def yr4 (K:W.Frag):R2:=fun x y H Q=>∃ p xs i v,x=.ref p/\y=.int i/\SqT K H p xs/\atI xs i=some v/\Q v H
theorem wj:IxR X (va5 X.K):=by
 intro k l a s σ H x y v u Q I B o h m;obtain ⟨p,L,i,z,rfl,rfl,E,F,q⟩:=h;cases B;obtain ⟨t,rfl⟩:=o;obtain ⟨f,r,d,N⟩:=I.list E;obtain ⟨j,c,A,O,C,D⟩:=yhq F;obtain ⟨w,n,g⟩:=r.get A;have G:=r.length;have M:=yay;have b:EP X a σ Q w s:=⟨z,H,I,g,q⟩;by_cases h0:0 <= i
 .have e:i.toNat=j:=by
   rw [seqIndex_of h0 D] at c;exact dD c
  exact item_listR d.isList h0 (by omega) (by rw [e]; simpa using n) b m
 .have e:(i+(f.toArray.size:Int)).toNat=j:=by
   rw [seqIndex_neg (by omega) C] at c;rw [dy,<- G];exact dD c
  exact subscriptTail_builtinR (x:=w) d.isList.typeIs slot_list_getitem.lookup
   (wpAny_getItem_list_neg (Q:=fun r J=>r=w/\EP X a σ Q r J) d.isList (by omega) (by rw [dy] <;> omega) (by omega) (by rw [e]; simpa using n) ⟨rfl,b⟩) m
theorem ug:IxR X (yr4 X.K):=by
 intro d e a s σ H x y v u Q I m g h k;obtain ⟨p,F,i,z,rfl,rfl,o,A,q⟩:=h;cases m;obtain ⟨t,rfl⟩:=g;obtain ⟨C,r,f,J⟩:=I.tuple o;obtain ⟨j,n,l,L,M,N⟩:=yhq A;obtain ⟨w,E,c⟩:=r.get l;have B:=r.length;have G:=yay;have b:EP X a σ Q w s:=⟨z,H,I,c,q⟩;exact subscriptTail_builtinR (x:=w) f.typeIs slot_tuple_getitem.lookup
  (getItem_tuple (j:=j) (Q:=fun r D=>r=w/\EP X a σ Q r D) f (by omega) (by omega) (by rw [dy,<- B]; exact n) (by simpa using E) ⟨rfl,b⟩) k
theorem ye7 (its:List Value) (n j:Nat) (u:Value):Obj.mapSeq (·.setIfInBounds j u) { cls:=.type "list",data:=.seq its.toArray n }={ cls:=.type "list",data:=.seq (its.set j u).toArray n }:=by
 simp [Obj.mapSeq]
theorem Inv.lst {σ:St} {H:Hp} {s:Shared} {p:Addr} {xs:List V} (I:Inv X pins σ H s) (h:H p=some (.lst xs)) :
  ∃ (its:List Value) (n:Nat),wt xs its/\s.heap.get? p=some { cls:=.type "list",data:=.seq its.toArray n }/\xs.length <= sizeLine:=by
 obtain ⟨z,its,n,r,e⟩:=I.hok p _ h;exact ⟨its,n,r,e,z⟩
theorem Inv.lstUpd {σ:St} {H:Hp} {s:Shared} {p:Addr} {xs ys:List V} {its':List Value} {n n':Nat} {f:Obj->Obj} (I:Inv X pins σ H s) (h:H p=some (.lst xs))
  (ho:s.heap.get? p=some { cls:=.type "list",data:=.seq its.toArray n }) (hf:f { cls:=.type "list",data:=.seq its.toArray n }={ cls:=.type "list",data:=.seq its'.toArray n' }) (r:wt ys its') (hz:ys.length <= sizeLine) (t:Nat) :
  Inv X pins σ (upd H p (.lst ys)) { s with heap:=s.heap.update p f,toks:=t }:=by
 have e:(s.heap.update p f).get? p=some { cls:=.type "list",data:=.seq its'.toArray n' }:=by
  rw [Heap.get?_update_self f ho (by rw [hf] <;> rfl),hf]
 refine I.write (x:=p) (e:=p) (by rw [h]; trivial) (.inl rfl) (fun b u a q=>(Heap.get?_update_other _ _ (Ne.symm a)).trans q) ⟨_,e⟩ ?_;exact ⟨hz,its',n',r,e⟩
def yy2:V->V->V->Hp->(Hp->Prop)->Prop:=fun o i v H Q=>∃ p xs k j,o=.ref p/\i=.int k/\H p=some (.lst xs)/\ixN xs.length k=some j/\Q (upd H p (.lst (xs.set j v)))
theorem ycr:var X yy2:=by
 intro a s σ H o i v D G u Q I y B x h;obtain ⟨p,C,k,j,rfl,rfl,w,z,q⟩:=h;cases y;obtain ⟨t,rfl⟩:=B;obtain ⟨b,n,r,d,A⟩:=I.lst w;obtain ⟨c,F,g,l⟩:=yhs z;have e:=r.length;have E:=yay
 have m:Inv X a σ (upd H p (.lst (C.set j v))) { s with heap:=s.heap.update p (Obj.mapSeq (·.setIfInBounds j u)) } :=
  I.lstUpd w d (ye7 b n j u) (r.set x j) (by rw [List.length_set]; exact A) s.toks
 by_cases h0:0 <= k
 .have f:k.toNat=j:=by
   rw [seqIndex_of h0 l] at c;exact dD c
  exact W.ki_setAt d h0 (by omega) (by rw [dy,<- e]; exact l) (by rw [f]; exact ⟨_,m,q⟩)
 .have f:(k+(b.toArray.size:Int)).toNat=j:=by
   rw [seqIndex_neg (by omega) g] at c;rw [dy,<- e];exact dD c
  exact W.ki_setBack d (by omega) (by rw [dy,<- e]; exact g) (by omega) (by rw [f]; exact ⟨_,m,q⟩)
theorem Ű (lo hi:Option Int) (n:Nat):(sliceBounds lo hi none n).1=((HT.sIx n 0 lo:Nat):Int)/\(sliceBounds lo hi none n).2.1=((HT.sIx n n hi:Nat):Int)/\(sliceBounds lo hi none n).2.2=1:=by
 refine ⟨?_,?_,rfl⟩
 .cases lo with
  | none=>simp [sliceBounds,HT.sIx]
  | some i =>
   simp only [sliceBounds,HT.sIx,Option.getD_none,show (1:Int) > 0 by decide,if_true];by_cases h:i < 0
   .simp only [h,if_true] <;> omega
   .simp only [h,if_false] <;> omega
 .cases hi with
  | none=>simp [sliceBounds,HT.sIx]
  | some i =>
   simp only [sliceBounds,HT.sIx,Option.getD_none,show (1:Int) > 0 by decide,if_true];by_cases h:i < 0
   .simp only [h,if_true] <;> omega
   .simp only [h,if_false] <;> omega
theorem ļ (its:List Value) (lo hi:Option Int):slicePick its.toArray lo hi none=((its.drop (HT.sIx its.length 0 lo)).take (HT.sIx its.length its.length hi - HT.sIx its.length 0 lo)).toArray:=by
 obtain ⟨c,b,a⟩:=Ű lo hi its.toArray.size;unfold slicePick;rw [c,b,a];simp only [sliceRange_one,pick_run,dy] <;> rfl
def va8 (K:W.Frag):V->Option Int->Option Int->Hp->VK->Prop:=fun x lo hi H Q=>∃ a xs,x=.ref a/\SqL K H a xs/\∀ p,H p=none->Q (.ref p) (upd H p (.lst (ycq xs lo hi)))
theorem ju:SlR X (va8 X.K):=by
 intro f s σ H x v t w lo e y Q I p i k m h;obtain ⟨a,c,rfl,j,q⟩:=h;cases p;obtain ⟨n,r,g,l⟩:=I.list j;have d:=r.length;refine ⟨"list",_,slot_list_getitem.lookup,g.isList.typeIs,?_⟩;refine wpAny_getItem_list_slice g.isList i k m .none (by simp) ?_ (by rw [dy] <;> omega);rw [ļ,<- d];refine ⟨.ref s.heap.objs.size,_,I.laid (t':=s.toks) (o:=.lst (ycq c lo e)) (fun b u q=>de _ q) (dh _) ?_,rfl,q _ (I.hok.fresh (dh _))⟩;exact ⟨dZ (è c lo e) l,_,0,(r.drop (HT.sIx c.length 0 lo)).take (HT.sIx c.length c.length e - HT.sIx c.length 0 lo),dz _ rfl⟩
def ţ:V->Bool
 | .non=>true
 | .bl _=>true
 | .int _=>true
 | .str _=>true
 | _=>false
def eqV:V->V->Bool
 | .non,.non=>true
 | .bl a,.bl b=>a == b
 | .bl a,.int b=>(if a then 1 else 0) == b
 | .int a,.bl b=>a == (if b then 1 else 0)
 | .int a,.int b=>a == b
 | .str a,.str b=>a == b
 | _,_=>false
theorem yvq {A:Around} {s:Shared} {y x:V} {u:Value} (ry:xl y u) (rx:xl x v) (fy:ţ y=true) (fx:ţ x=true):SeqAt.EqAt A s u v (eqV y x):=by
 cases y with
 | non =>
  cases ry
  cases x with
  | non=>cases rx; exact SeqAt.EqAt.same _
  | bl b=>cases rx; exact SeqAt.EqAt.none_bool b
  | int b=>obtain ⟨t,rfl⟩:=rx; exact SeqAt.EqAt.none_int b t
  | str b=>obtain ⟨t,rfl⟩:=rx; exact SeqAt.EqAt.none_str b t
  | _=>exact absurd (show false=true from fx) dE
 | bl a =>
  cases ry
  cases x with
  | non=>cases rx; exact SeqAt.EqAt.bool_none a
  | bl b=>cases rx; exact SeqAt.EqAt.bool_bool a b
  | int b=>obtain ⟨t,rfl⟩:=rx; exact SeqAt.EqAt.bool_int a b t
  | str b=>obtain ⟨t,rfl⟩:=rx; exact SeqAt.EqAt.bool_str a b t
  | _=>exact absurd (show false=true from fx) dE
 | int a =>
  obtain ⟨c,rfl⟩:=ry
  cases x with
  | non=>cases rx; exact SeqAt.EqAt.int_none a c
  | bl b=>cases rx; exact SeqAt.EqAt.int_bool a c b
  | int b=>obtain ⟨t,rfl⟩:=rx; exact SeqAt.EqAt.int_int a c b t
  | str b=>obtain ⟨t,rfl⟩:=rx; exact SeqAt.EqAt.int_str a c b t
  | _=>exact absurd (show false=true from fx) dE
 | str a =>
  obtain ⟨c,rfl⟩:=ry
  cases x with
  | non=>cases rx; exact SeqAt.EqAt.str_none a c
  | bl b=>cases rx; exact SeqAt.EqAt.str_bool a c b
  | int b=>obtain ⟨t,rfl⟩:=rx; exact SeqAt.EqAt.str_int a c b t
  | str b=>obtain ⟨t,rfl⟩:=rx; exact SeqAt.EqAt.str_str a c b t
  | _=>exact absurd (show false=true from fx) dE
 | _=>exact absurd (show false=true from fy) dE
def eqU (x:V) (u:Value):Bool:=match u with
 | .none=>eqV .non x
 | .bool b=>eqV (.bl b) x
 | .int i _=>eqV (.int i) x
 | .str z _=>eqV (.str z) x
 | _=>false
theorem ylr {x y:V} {u:Value} (r:xl y u) (f:ţ y=true):eqU x u=eqV y x:=by
 cases y with
 | non=>cases r; rfl
 | bl b=>cases r; rfl
 | int i=>obtain ⟨t,rfl⟩:=r; rfl
 | str z=>obtain ⟨t,rfl⟩:=r; rfl
 | _=>exact absurd (show false=true from f) dE
theorem Ā {x:V}:∀ {xs:List V} {us:List Value},wt xs us->xs.all ţ=true->us.any (eqU x)=xs.any fun y=>eqV y x
 | _,_,.nil,_=>rfl
 | y :: xs,u :: us,.cons r t,f=>by
  rw [List.all_cons,dU] at f;rw [List.any_cons,List.any_cons,ylr r f.1,Ā t f.2]
theorem δ {A:Around} {s:Shared} {x:V} (rx:xl x v) (fx:ţ x=true):∀ {xs:List V} {us:List Value},wt xs us->xs.all ţ=true->∀ u∈us,SeqAt.EqAt A s u v (eqU x u)
 | _,_,.nil,_=>fun u a=>by cases a
 | y :: xs,u :: us,.cons r t,f=>fun b a=>by
  rw [List.all_cons,dU] at f;rcases dA.mp a with rfl | a
  .rw [ylr r f.1]; exact yvq r rx f.1 fx
  .exact δ rx fx t f.2 b a
def inV (x:V) (xs:List V):Bool:=xs.any fun y=>eqV y x
def rIn (K:W.Frag) (neg:Bool):R2:=fun x y H Q=>∃ p xs,y=.ref p/\(SqL K H p xs\/SqT K H p xs)/\ţ x=true/\xs.all ţ=true/\Q (.bl (if neg then !inV x xs else inV x xs)) H
theorem yf9:OpR X (compareOp .In) (rIn X.K false):=by
 intro f s σ H x y v u Q I g j h;obtain ⟨p,l,rfl,b,i,c,q⟩:=h;cases j;rcases b with b | b
 .obtain ⟨a,r,e,k⟩:=I.list b;refine SeqAt.in_listAt (eqU x) e.isList (fun w d=>δ g i r c w (by simpa using d)) ⟨.bl _,H,I,rfl,?_⟩;rw [show a.toArray.any (eqU x)=a.any (eqU x) by simp,Ā r c];exact q
 .obtain ⟨a,r,e,k⟩:=I.tuple b;refine SeqAt.in_tupleAt (eqU x) e (fun w d=>δ g i r c w (by simpa using d)) ⟨.bl _,H,I,rfl,?_⟩;rw [show a.toArray.any (eqU x)=a.any (eqU x) by simp,Ā r c];exact q
theorem ũ:OpR X (compareOp .NotIn) (rIn X.K true):=by
 intro f s σ H x y v u Q I g j h;obtain ⟨p,l,rfl,b,i,c,q⟩:=h;cases j;rcases b with b | b
 .obtain ⟨a,r,e,k⟩:=I.list b;refine SeqAt.notIn_listAt (eqU x) e.isList (fun w d=>δ g i r c w (by simpa using d)) ⟨.bl _,H,I,rfl,?_⟩;rw [show a.toArray.any (eqU x)=a.any (eqU x) by simp,Ā r c];exact q
 .obtain ⟨a,r,e,k⟩:=I.tuple b;refine SeqAt.notIn_tupleAt (eqU x) e (fun w d=>δ g i r c w (by simpa using d)) ⟨.bl _,H,I,rfl,?_⟩;rw [show a.toArray.any (eqU x)=a.any (eqU x) by simp,Ā r c];exact q
theorem yt:jw X (.builtin "len") (fun xs H Q=>∃ p ys,xs=[.ref p]/\(SqL X.K H p ys\/SqT X.K H p ys)/\Q (.int ys.length) H):=by
 intro f s σ H xs k Q I r h;obtain ⟨p,ys,rfl,b,q⟩:=h;obtain ⟨u,rfl,i⟩:=ė r;cases i;have j:=yay;rcases b with b | b
 .obtain ⟨e,c,d,g⟩:=I.list b;have a:=c.length;exact Calls.call_len_list d.isList (by simp only [dy] <;> omega) ⟨.int ys.length,H,I.tok _,⟨s.toks+1,by rw [dy,a]⟩,q⟩
 .obtain ⟨e,c,d,g⟩:=I.tuple b;have a:=c.length;exact len_tuple d (by simp only [dy] <;> omega) ⟨.int ys.length,H,I.tok _,⟨s.toks+1,by rw [dy,a]⟩,q⟩
theorem ű:jw X (.builtin "len") (fun xs H Q=>∃ z,xs=[.str z]/\z.length <= sizeLine/\Q (.int z.length) H):=by
 intro a s σ H xs b Q I r h;obtain ⟨z,rfl,c,q⟩:=h;obtain ⟨u,rfl,t,rfl⟩:=ė r;have d:=yay;exact len_str (by omega) ⟨.int z.length,H,I.tok _,⟨_,rfl⟩,q⟩
theorem xm:jw X (.type "list") (fun xs H Q=>∃ p ys,xs=[.ref p]/\(SqL X.K H p ys\/SqT X.K H p ys)/\∀ l,H l=none->Q (.ref l) (upd H l (.lst ys))):=by
 intro g s σ H xs B Q I r h;obtain ⟨p,ys,rfl,j,q⟩:=h;obtain ⟨u,rfl,A⟩:=ė r;cases A;have i:∀ (a:List Value),wt ys a->ys.length <= sizeLine->∀ (c:Heap) (f:Nat),(∀ b o',s.heap.get? b=some o'->c.get? b=some o') ->
   c.get? s.heap.objs.size=some { cls:=.type "list",dict:=none,data:=.seq a.toArray f,slots:=#[] }->EP X g σ Q (.ref s.heap.objs.size) { s with heap:=c }:=fun a d k c f t e =>
  ⟨.ref s.heap.objs.size,_,I.laid (t':=s.toks) t (dh _) (show xk X.prog X.w _ c _ (.lst ys) from ⟨k,a,f,d,e⟩),rfl,q _ (I.hok.fresh (dh _))⟩
 rcases j with j | j
 .obtain ⟨a,d,z,k⟩:=I.list j;have m:=d.length;obtain ⟨o,v,y,n,x⟩:=z.isList;exact call_list_seq p (.inl rfl) v y x (fun c f t e=>i a d k c f t e) (by simp only [dy] <;> omega)
 .obtain ⟨a,d,z,k⟩:=I.tuple j;have m:=d.length;obtain ⟨o,v,y,n,x⟩:=z;exact call_list_seq p (.inr rfl) v y x (fun c f t e=>i a d k c f t e) (by simp only [dy] <;> omega)
theorem j4:jw X (.type "tuple") (fun xs H Q=>∃ p ys,xs=[.ref p]/\((SqL X.K H p ys/\∀ l,H l=none->Q (.ref l) (upd H l (.tup ys)))\/(SqT X.K H p ys/\Q (.ref p) H))):=by
 intro a s σ H xs x Q I r h;obtain ⟨p,ys,rfl,h⟩:=h;obtain ⟨u,rfl,t⟩:=ė r;cases t;rcases h with ⟨f,q⟩ | ⟨f,q⟩
 .obtain ⟨c,g,i,j⟩:=I.list f;have k:=g.length;refine call_tuple_list i.isList (fun d v=>?_) (by simp only [dy] <;> omega);have m:Inv X a σ H { s with heap:=d }:=I.kept (t':=s.toks) v
  have n:Inv X a σ (upd H d.objs.size (.tup ys)) { s with heap:=d.push { cls:=.type "tuple",data:=.seq c.toArray } } :=
   m.laid (t':=s.toks) (fun b o e=>de _ e) (dh _) (show xk X.prog X.w _ _ _ (.tup ys) from ⟨j,c,g,IsTup.new _ _⟩)
  exact ⟨.ref d.objs.size,_,n,rfl,q _ (m.hok.fresh (dh _))⟩
 .obtain ⟨c,g,i,j⟩:=I.tuple f;exact call_tuple_same i ⟨.ref p,H,I,rfl,q⟩
def tyV (K:W.Frag) (T:String) (x:V) (H:Hp):Prop:=match x with
 | .str _=>T="str"
 | .int _=>T="int"
 | .ref p=>(T="list"/\∃ xs,SqL K H p xs)\/(T="tuple"/\∃ o,K.lookup p=some o/\o.cls=.type "tuple"/\o.dict=none) \/
   (T="dict"/\((∃ kvs,H p=some (.dK kvs))\/∃ kvs,H p=some (.dT kvs)))\/(T="set"/\∃ S n,H p=some (.set S n))
 | _=>False
theorem ym0 {σ:St} {H:Hp} {s:Shared} {T:String} {x:V} (I:Inv X pins σ H s) (r:xl x v) (ty:tyV X.K T x H) :
  s.TypeIs v T/\∀ a,v=.ref a->∃ ob,s.heap.get? a=some ob/\ob.dict=none:=by
 cases x with
 | str z =>
  obtain ⟨t,rfl⟩:=r;cases (show T="str" from ty)
  exact ⟨typeIs_str s z t,fun _ e=>nomatch e⟩
 | int i =>
  obtain ⟨t,rfl⟩:=r;cases (show T="int" from ty)
  exact ⟨typeIs_int s i t,fun _ e=>nomatch e⟩
 | ref p =>
  cases r;rcases ty with ⟨rfl,q,l⟩ | ⟨rfl,o,b,k,g⟩ | ⟨rfl,b⟩ | ⟨rfl,S,n,b⟩
  .obtain ⟨m,_,j,_⟩:=I.list l;refine ⟨j.isList.typeIs,fun a e=>?_⟩;cases e;obtain ⟨o,n,e,c,g,_⟩:=j;exact ⟨o,e,g⟩
  .refine ⟨⟨o,I.kIn p o b,k⟩,fun a e=>?_⟩;cases e;exact ⟨o,I.kIn _ o b,g⟩
  .have z:∃ o,s.heap.get? p=some o/\o.ExactDict:=by
    rcases b with ⟨h,b⟩ | ⟨h,b⟩
    .obtain ⟨_,_,_,_,o,_,_,e,d,_⟩:=I.hok p _ b;exact ⟨o,e,d⟩
    .obtain ⟨_,_,_,_,o,_,_,e,d,_⟩:=I.hok p _ b;exact ⟨o,e,d⟩
   obtain ⟨o,e,d⟩:=z;refine ⟨⟨o,e,d.1⟩,fun a f=>?_⟩;cases f;exact ⟨o,e,d.2.1⟩
  .obtain ⟨o,_,_,_,e,d,_⟩:=I.hok p _ b;refine ⟨⟨o,e,d.1⟩,fun a f=>?_⟩;cases f;exact ⟨o,e,d.2.1⟩
 | _=>exact False.elim ty
def va4 (K:W.Frag) (T:String) (r:V->List V->Hp->VK->Prop) (to:TE):TE:=fun σ H Q=>to σ H fun x H1=>tyV K T x H1/\r x [] H1 Q
def tBM (K:W.Frag) (T:String) (r:V->List V->Hp->VK->Prop) (to:TE) (t:TA):TE:=fun σ H Q=>to σ H fun x H1=>tyV K T x H1/\t σ H1 fun xs H2=>r x xs H2 Q
variable {o e:Expr} {es:List Expr} {to:TE} {t:TA} {name:Str} {apos cpos:Pos} {T id:String} {r:V->List V->Hp->VK->Prop}
theorem yd2 (pa:PlainAttrs T) (slot:Slot T name id) (hty:typeOf (.builtin id)=pure (.type "method_descriptor")) (hm:MtR X id r) (ho:PE X o to)
  (hbase:attributeBase o name X.env (eval o X.env)=eval o X.env:=by rfl) (hline:(apos.endLine == cpos.line)=true:=by rfl):PE X (.Call (.Attribute o name apos) [] [] cpos) (va4 X.K T r to):=by
 refine .mk fun a s σ H Q I h=>?_;refine wpAny_Call_method0_late hbase hline (thn (ho a s σ H _ I h) fun v e h'=>?_);obtain ⟨x,j,b,c,g,d⟩:=h';obtain ⟨i,f⟩:=ym0 b c g;exact ⟨T,id,pa,slot,hty,i,f,Calls.callWith_builtin rfl (PySem.evalArgs_none (hm a e σ j x [] v [] Q b c .nil d))⟩
theorem Ä (pa:PlainAttrs T) (slot:Slot T name id) (hty:typeOf (.builtin id)=pure (.type "method_descriptor")) (hm:MtR X id r) (ho:PE X o to) (ha:PA X (e :: es) t)
  (hbase:attributeBase o name X.env (eval o X.env)=eval o X.env:=by rfl)
  (hfew:((backTo cpos (starEach (e :: es) X.env)).all (fun x=>!x.1) && (backToKw cpos (keywordEach [] X.env)).all (fun x=>x.1.isSome)
   && decide ((e :: es).length+([]:List Keyword).length+(if ([]:List Keyword).isEmpty then 0 else 1) < 30))=true:=by rfl)
  (hline:(apos.endLine == cpos.line)=true:=by rfl) (hs:starEach (e :: es) X.env=(false,eval e X.env) :: starEach es X.env:=by rfl) (hplain:(backTo cpos (starEach es X.env)).any (·.1)=false:=by rfl) :
  PE X (.Call (.Attribute o name apos) (e :: es) [] cpos) (tBM X.K T r to t):=by
 refine .mk fun a s σ H Q I h=>?_;refine wpAny_Call_method_late hbase hfew hline rfl (thn (ho a s σ H _ I h) fun v i h'=>?_);obtain ⟨x,y,c,d,q,f⟩:=h';obtain ⟨w,p⟩:=ym0 c d q;refine ⟨T,id,pa,slot,hty,w,p,?_⟩;have b:=ha cpos a i σ y _ c f;rw [hs] at b ⊢;refine Calls.callWith_builtin (by show (false || (backTo cpos (starEach es X.env)).any (·.1))=false; rw [hplain] <;> rfl) (Calls.evalArgs_plain ?_);exact thn b fun m j ⟨k,g,l,n,u⟩=>hm a j σ g x k v m Q l d n u
end
def MtM (X:Cx) (id:String) (r:V->List V->Hp->VK->Prop):Prop :=
 ∀ (pins:List (Addr × Obj)) (s:Shared) (σ:St) (H:Hp) (x:V) (xs:List V) (v:Value) (us:List Value) (Q:VK),Inv X pins σ H s->xl x v->wt xs us->r x xs H Q ->
  wpAny (model X.prog X.w) X.A (call (.builtin id) (v :: us)) (EP X pins σ Q) X.xe s
theorem wt.one:∀ {x:V} {us:List Value},wt [x] us->∃ u,us=[u]/\xl x u
 | _,_,.cons r .nil=>⟨_,rfl,r⟩
theorem wt.zero:∀ {us:List Value},wt [] us->us=[]
 | _,.nil=>rfl
theorem wt.dropLast {xs:List V} (h:wt xs us):wt xs.dropLast us.dropLast:=by
 induction h with
 | nil=>exact .nil
 | cons r t ih =>
  cases t with
  | nil=>exact .nil
  | cons q t'=>exact .cons r ih
theorem wt.reverse {xs:List V} (h:wt xs us):wt xs.reverse us.reverse:=by
 induction h with
 | nil=>exact .nil
 | cons r t ih=>rw [List.reverse_cons,List.reverse_cons]; exact wt.append ih (.cons r .nil)
theorem wt.rep {xs:List V} (h:wt xs us):∀ k:Nat,wt (List.replicate k xs).flatten (List.replicate k us).flatten
 | 0=>.nil
 | k+1=>by
  rw [eM,eM,List.flatten_cons,List.flatten_cons];exact wt.append h (wt.rep h k)
theorem ye2 {α:Type} (l:List α):l.eraseIdx (l.length - 1)=l.dropLast:=by
 induction l with
 | nil=>rfl
 | cons a r ih =>
  cases r with
  | nil=>rfl
  | cons b r =>
   have e:(a :: b :: r).length - 1=((b :: r).length - 1)+1:=by
    have d:(a :: b :: r).length=r.length+2:=rfl;have c:(b :: r).length=r.length+1:=rfl;omega
   rw [e,List.eraseIdx_cons_succ,ih]
   all_goals rfl
theorem Ž (its:List Value):∀ (k:Nat) (acc:List Value),
  List.foldl (fun x1 x2=>x1++x2) acc.toArray (List.replicate k its.toArray)=(acc++(List.replicate k its).flatten).toArray
 | 0,acc=>by simp
 | k+1,acc=>by
  have e:acc.toArray++its.toArray=(acc++its).toArray:=by simp
  have a:(acc++its)++(List.replicate k its).flatten=acc++(List.replicate (k+1) its).flatten:=by
   rw [eM,List.flatten_cons,em]
  rw [<- a,<- Ž its k (acc++its),<- e,eM,List.foldl_cons]
section
variable {X:Cx} {σ:St} {H:Hp} {s:Shared} {l b:Addr} {xs ys zs:List V}
theorem Inv.lset {its':List Value} {n:Nat} {f:Array Value->Array Value} {t':Nat} (I:Inv X pins σ H s) (hH:H l=some (.lst xs))
  (e:s.heap.get? l=some { cls:=.type "list",data:=.seq its.toArray n }) (hf:f its.toArray=its'.toArray) (hv:wt ys its') (hz:ys.length <= sizeLine) :
  Inv X pins σ (upd H l (.lst ys)) { s with heap:=s.heap.update l (Obj.mapSeq f),toks:=t' }:=by
 have q:=PySem.IsL.update e f;rw [hf] at q;refine I.write (x:=l) (e:=l) (by rw [hH]; exact trivial) (.inl rfl) (fun c u a b=>(Heap.get?_update_other s.heap (Obj.mapSeq f) (Ne.symm a)).trans b) ⟨_,q⟩ ?_;exact ⟨hz,its',_,hv,q⟩
theorem Inv.lnew {t':Nat} (I:Inv X pins σ H s) (hv:wt ys its) (hz:ys.length <= sizeLine) :
  Inv X pins σ (upd H s.heap.objs.size (.lst ys)) { s with heap:=s.heap.push { cls:=.type "list",data:=.seq its.toArray },toks:=t' } :=
 I.laid (fun _ _ q=>de _ q) (dh _) ⟨hz,its,0,hv,dz _ rfl⟩
theorem Inv.fresh (I:Inv X pins σ H s):H s.heap.objs.size=none:=I.hok.fresh (dh _)
theorem Inv.lstM (I:Inv X pins σ H s) (hH:H l=some (.lst xs)):xs.length <= sizeLine/\∃ (its:List Value) (n:Nat),wt xs its/\xs.length=its.length/\s.heap.get? l=some { cls:=.type "list",data:=.seq its.toArray n }:=by
 obtain ⟨z,its,n,r,e⟩:=I.hok l _ hH;exact ⟨z,its,n,r,r.length,e⟩
theorem ycu {n:Nat} (h:n <= sizeLine):Builtin.List.listTooLong n=false:=by
 unfold Builtin.List.listTooLong;exact dG (by omega)
end
section
variable {X:Cx}
def yhj:V->List V->Hp->VK->Prop:=fun x vs H Q=>∃ l xs y,x=.ref l/\vs=[y]/\H l=some (.lst xs)/\xs.length < sizeLine/\Q .non (upd H l (.lst (xs++[y])))
theorem w9:MtM X "list.append" yhj:=by
 intro b s σ H x i v j Q I g f h;obtain ⟨l,o,y,rfl,rfl,c,m,q⟩:=h;cases g;obtain ⟨u,rfl,d⟩:=f.one;obtain ⟨z,a,n,r,k,e⟩:=I.lstM c;refine call_meets F.slot_list_append ⟨_,e,rfl⟩ F.entry_list_append (F.args_list_append_2 _ _) (PySem.list_append l a.toArray n u (by rw [dy]; omega)) ⟨e,?_⟩;refine ⟨.non,_,I.lset (its':=a++[u]) c e (by simp) (r.append (.cons d .nil)) ?_,rfl,q⟩;rw [dv,d7];omega
def ynu:V->List V->Hp->VK->Prop:=fun x vs H Q=>∃ l b xs zs,x=.ref l/\vs=[.ref b]/\H l=some (.lst xs)/\H b=some (.lst zs)/\xs.length+zs.length <= sizeLine/\Q .non (upd H l (.lst (xs++zs)))
theorem yf4:MtM X "list.extend" ynu:=by
 intro i s σ H x E v B Q I o m h;obtain ⟨l,b,J,A,rfl,rfl,g,y,D,q⟩:=h;cases o;obtain ⟨u,rfl,k⟩:=m.one;cases k;obtain ⟨z,c,n,r,G,e⟩:=I.lstM g;obtain ⟨C,a,w,t,j,p⟩:=I.lstM y;have f:c.toArray.size+a.toArray.size <= sizeLine:=by rw [dy,dy]; omega
 have d:¬ (!c.toArray.isEmpty && Builtin.List.listTooLong (c.toArray.size+a.toArray.size))=true:=by
  rw [ycu f,Bool.and_false];exact dE
 refine call_meets F.slot_list_extend ⟨_,e,rfl⟩ F.entry_list_extend (F.args_list_extend_2 _ _)
  (AutoSeq1.list_extend_list_list_0 l c.toArray n b a.toArray w d (by rw [dy]; omega) (by omega)) ⟨e,p,?_⟩
 refine ⟨.non,_,I.lset (its':=c++a) g e (by simp) (r.append t) ?_,rfl,q⟩;rw [dv];omega
def vbu:V->List V->Hp->VK->Prop:=fun x vs H Q=>∃ l xs y,x=.ref l/\vs=[]/\H l=some (.lst xs)/\xs[xs.length - 1]?=some y/\Q y (upd H l (.lst xs.dropLast))
theorem yvx:MtM X "list.pop" vbu:=by
 intro d s σ H x p v t Q I m i h;obtain ⟨l,w,y,rfl,rfl,f,o,q⟩:=h;cases m;have c:=i.zero;subst c;obtain ⟨z,a,n,r,j,e⟩:=I.lstM f;obtain ⟨u,k,g⟩:=r.get o
 have b:a.toArray[a.toArray.size - 1]?=some u:=by
  show a.toArray[a.length - 1]?=some u;rw [<- Array.getElem?_toList,<- j];exact k
 refine call_meets F.slot_list_pop ⟨_,e,rfl⟩ F.entry_list_pop (F.args_list_pop_1 _) (MeetsSeq.list_pop_last l a.toArray n u b (by rw [dy]; omega)) ⟨e,?_⟩;refine ⟨y,_,I.lset (its':=a.dropLast) f e ?_ r.dropLast ?_,g,q⟩
 .show a.toArray.eraseIdxIfInBounds (a.toArray.size - 1)=a.dropLast.toArray;rw [dy,List.eraseIdxIfInBounds_toArray,ye2]
 .rw [List.length_dropLast];omega
def ydj:V->List V->Hp->VK->Prop:=fun x vs H Q=>∃ l xs,x=.ref l/\vs=[]/\H l=some (.lst xs)/\Q .non (upd H l (.lst xs.reverse))
theorem Į:MtM X "list.reverse" ydj:=by
 intro c s σ H x i v j Q I g f h;obtain ⟨l,m,rfl,rfl,d,q⟩:=h;cases g;have b:=f.zero;subst b;obtain ⟨z,a,n,r,k,e⟩:=I.lstM d;refine call_meets F.slot_list_reverse ⟨_,e,rfl⟩ F.entry_list_reverse (F.args_list_reverse_1 _) (AutoSeq1.list_reverse_list_0 l a.toArray n (by rw [dy]; omega)) ⟨e,?_⟩;refine ⟨.non,_,I.lset (its':=a.reverse) d e (by simp) r.reverse ?_,rfl,q⟩;rw [List.length_reverse];omega
def vbh:R2:=fun x y H Q=>∃ l b xs zs,x=.ref l/\y=.ref b/\H l=some (.lst xs)/\H b=some (.lst zs)/\xs.length+zs.length <= sizeLine/\∀ p,H p=none->Q (.ref p) (upd H p (.lst (xs++zs)))
theorem ys0:OpR X (binaryOp .Add) vbh:=by
 intro d s σ H x y v u Q I o i h;obtain ⟨l,b,D,t,rfl,rfl,g,p,B,q⟩:=h;cases o;cases i;obtain ⟨z,c,n,r,A,e⟩:=I.lstM g;obtain ⟨w,a,C,m,f,j⟩:=I.lstM p;refine PySem.P.add_list e j ?_ (by rw [dy,dy]; omega);have k:c.toArray++a.toArray=(c++a).toArray:=by simp
 rw [k];exact ⟨.ref _,_,I.lnew (t':=s.toks) (r.append m) (by rw [dv]; omega),rfl,q _ I.fresh⟩
def vbp:R2:=fun x y H Q=>∃ l k xs,x=.ref l/\y=.int k/\H l=some (.lst xs)/\-(2 ^ 63) <= k/\k < 2 ^ 63/\xs.length * k.toNat <= sizeLine /\
 ∀ p,H p=none->Q (.ref p) (upd H p (.lst (List.replicate k.toNat xs).flatten))
theorem yog {α:Type} (xs:List α) (k:Nat):(List.replicate k xs).flatten.length=k * xs.length:=by
 induction k with
 | zero=>simp
 | succ k ih=>rw [eM,List.flatten_cons,dv,ih,Nat.succ_mul,Nat.add_comm]
theorem yky:OpR X (binaryOp .Mult) vbp:=by
 intro w s σ H x y v u Q I E C h;obtain ⟨l,k,L,rfl,rfl,B,G,D,p,q⟩:=h;cases E;obtain ⟨t,rfl⟩:=C;obtain ⟨z,b,n,r,J,e⟩:=I.lstM B;have i:b.toArray.size * k.toNat <= sizeLine:=by rw [dy,<- J]; exact p
 have f:¬ b.toArray.size * k.toNat > (2 ^ 63 - 1) / 8:=by
  have:(sizeLine:Nat) <= (2 ^ 63 - 1) / 8:=by decide
  omega
 have d:¬ (!Builtin.List.listFitsIndex k)=true:=by
  rw [fitsIndex_both G D];exact dE
 have c:¬ Builtin.List.listTooLong (b.toArray.size * k.toNat)=true:=by
  rw [ycu i];exact dE
 have g:List.foldl (fun j o=>j++o) #[] (List.replicate (if b.toArray.isEmpty=true then 0 else k.toNat) b.toArray)=(List.replicate k.toNat b).flatten.toArray:=by
  have A:∀ m:Nat,List.foldl (fun j o=>j++o) #[] (List.replicate m b.toArray)=(List.replicate m b).flatten.toArray:=fun m=>by
   have:=Ž b m [];rw [List.nil_append] at this;exact this
  rw [A]
  cases b with
  | nil=>simp
  | cons a r'=>rw [if_neg (by simp)]
 refine wpAny_binaryOp_repeat_ref (T:="list") (U:="int") (by decide) ⟨_,e,rfl⟩ (fun K=>typeIs_int K k t) noFill_list_mul F.fills_int_mul F.slot_int_rmul repeat_list F.slot_int_index.lookup
  (call_meets F.slot_int_rmul (typeIs_int s k t) F.entry_int_rmul (F.args_int_rmul_2 _ _) (int___rmul___int_list k t l b.toArray n)
   ⟨e,rfl,⟨_,e,rfl⟩,call_meets F.slot_list_mul ⟨_,e,rfl⟩ F.entry_list_mul (F.args_list_mul_2 _ _) (AutoListH.list___mul___list_int_3 l b.toArray n k t d f c) ⟨e,?_⟩⟩)
 rw [g];exact ⟨.ref _,_,I.lnew (t':=s.toks) (r.rep k.toNat) (by rw [yog,Nat.mul_comm]; exact p),rfl,q _ I.fresh⟩
end
end L2
namespace Att
open PySem PySem.W PySem.Calls PyProof.Rows
theorem ã {P:Params} {h:Heap}:∀ (ns:List Int) (vs:List Value),WellAll P h vs (ns.map WData.int)->IntsAre vs ns:=by
 intro ns
 induction ns with
 | nil =>
  intro vs w;rw [List.map_nil] at w;cases w;exact .nil
 | cons n ns ih =>
  intro vs w;rw [d6] at w
  cases w with
  | cons a b =>
   cases a;exact .cons _ _ (ih _ b)
theorem ygj {l:OpenLaw} {n:Nat} (hn:l.most=some n) {P:Params} {h:Heap} {args:List WData} {vals:List Value}
  (hpre:l.row.toRowW.claim.pre args=true) (hwl:WellAll P h vals args) :
  ∃ a vs ns,vals=[Value.ref a]/\args=[WData.list (ns.map WData.int)]/\h.get? a=some { cls:=.type "list",data:=.seq vs.toArray }/\IntsAre vs ns/\ns.length <= n:=by
 have f:WShape.hasAll [] args [.list .int]=true:=(pre_splitW hpre).1;have g:l.pre.holds [] { args:=args }=true:=(pre_splitW hpre).2;obtain ⟨d,r,rfl,m,j⟩:=hasAllW_cons f;obtain rfl:=hasAllW_nil j;obtain ⟨o,rfl,k⟩:=hasW_list m;obtain ⟨ns,rfl⟩:=items_int k
 have b:ns.length <= n:=by
  unfold OpenLaw.pre at g
  have e:(WTm.not (.lt (.lit (.int (n:Int))) (.len (.arg 0)))).holds [] { args:=[.list (ns.map .int)] }=true:=by
   have e:=(holds_andW g).1;rw [hn] at e;exact e
  have c:=condW_of e (w_not (w_lt w_lit (w_len_list (w_arg rfl))));rw [cH] at c;refine Nat.le_of_not_lt fun q=>?_;have i:(n:Int) < ((ns.length:Nat):Int):=by omega
  first
   | (rw [dw i] at c; exact absurd c (by decide))
   | (simp at c; omega)
 cases hwl with
 | cons w1 w2 =>
  cases w2
  cases w1 with
  | list ho hall=>exact ⟨_,_,ns,rfl,rfl,ho,ã ns _ hall,b⟩
theorem yfo (l:OpenLaw) (args:List WData):l.row.toRowW.claim.post args (.bool true) args=true :=
 postW_of (r:=l.row.toRowW) (X:=(true == true))
  (show WShape.has [] (.bool true) .bool=true by first | rfl | decide | simp [WShape.has,WShape.arms,WShape.armsAll])
  (show (WTm.eq .res (.lit (.bool true))).value [] { args:=args,res:=some (.bool true),after:=args }=some (.bool (true == true)) from w_eq_bool (w_res rfl) w_lit) rfl
theorem attach_call {l:OpenLaw} {n:Nat} {q:Program} {loose:List Str} {XP:(Str->Option Value)->Heap->Prop} {YP:World->Heap->Prop} {d:DefRec}
  (hn:l.most=some n) (hdf:d.params.defaults=[])
  (call:∀ (w:World) (s₀ s₁:Shared) (mg mb:Str->Option Value) (fa:Addr) (o:Obj) (pm cd doc:Value) (a:Addr) (vs:List Value) (ns:List Int),
   Ground q loose [] XP w s₀ mg mb s₁.heap->YP w s₁.heap ->
   s₁.heap.get? fa=some o->o.data=.func (docDef d.name d.params d.body d.scope pm cd doc)->s₁.heap.CodeRec cd d.name->mg d.name=some (.ref fa) ->
   s₁.heap.get? a=some { cls:=.type "list",data:=.seq vs.toArray }->IntsAre vs ns->ns.length <= n->s₁.gens=#[] ->
   codeAny (model l.prog w) callerA (.call (.ref fa) ⟨[.ref a],[]⟩) (fun r s'=>r=.ok (.ret (.bool true))/\OldK s₁.heap s'.heap/\s'.os=s₁.os/\AllBare s'.gens) s₁) :
  WalkO q loose XP YP l.row.toRowW d [] (fun f vs=>PySem.call f vs):=by
 intro w s₀ s₁ mg mb G Y fa o pm cd doc E kV z A h t i F p k H g m C j D;obtain rfl:E=.none:=Dflts.none t hdf;obtain rfl:kV=.none:=Dflts.noKw t;obtain ⟨a,vs,ns,rfl,rfl,e,b,c⟩:=ygj hn g j;refine enter_call (codeAny_mono (call w s₀ s₁ mg mb fa o pm cd doc a vs ns G Y z (fd_plain A) h i e b c F) fun r s' B=>?_);obtain ⟨rfl,v,x,y⟩:=B
 exact ⟨.inl ⟨.bool true,.bool true,[],rfl,fun _=>rfl,.bool true,yfo l _,fun _=>⟨List.Pairwise.nil,fun _ u=>(nomatch u)⟩⟩,v,x,y⟩
section
variable {prog:Program} {w:World} {A:Around} {E:Value->Shared->Prop} {s:Shared} {K:Frag}
def van (h:Heap) (L d:Addr):List (Addr × Obj):=(List.range h.objs.size).filterMap fun a=>if a=L\/a=d then none else (h.get? a).map fun o=>(a,o)
end
end Att
namespace L2
open PySem PySem.Spec PyProof.Rows
variable {C:Addr} {fd:FuncData} {st:Stmt} {qual:Str} {T:String}
theorem yag:∀ {vs:List Value} {ns:List Int},IntsAre vs ns->wt (ns.map V.int) vs
 | _,_,.nil=>.nil
 | _,_,.cons n t h=>.cons ⟨t,rfl⟩ (yag h)
def yz5 (H:Hp):Prop:=∀ b,H b=none\/∃ o xs,H b=some (.frz o (.lst xs))
theorem yi3 {P:Program} {w:World} {K:W.Frag} {mg mb:Str->Option Value} {CX:CXT} {k:Nat} {fa a:Addr} {x:Str} {sp:Sp} {s₁:Shared} {vs:List Value} {ns:List Int}
  (KX:K.In s₁.heap) (hns:s₁.heap.Ns mainGlobals mg) (hb:s₁.heap.Ns builtinsNs mb) (hbb:∀ x:Str,x≠"__name__"->mb x=bootBuiltins x) (hlim:s₁.heap.NoLimit) (hg:s₁.gens=#[])
  (ha:s₁.heap.get? a=some { cls:=.type "list",data:=.seq vs.toArray }) (hi:IntsAre vs ns) (hl:ns.length <= sizeLine) (hr:z7 k callerA)
  (F:∀ base:Heap,K.In base->base.Ns mainGlobals mg->wc P w K mg base CX k fa fd [x] sp) (hbind:∀ (s:Shared) (u:Value),BindsTo s fd ⟨[u],[]⟩ [(x,u)])
  (hsp:∀ H:Hp,yz5 H->SqL K H a (ns.map V.int)->sp [.ref a] H (fun v _=>v=.bl true) fun _ _ _=>False)
  (hCX:∀ H e s',CX [] H s₁ (fun _ _ _=>False) e s'->False) :
  codeAny (model P w) callerA (.call (.ref fa) ⟨[.ref a],[]⟩) (fun r s'=>r=.ok (.ret (.bool true))/\OldK s₁.heap s'.heap/\s'.os=s₁.os/\AllBare s'.gens) s₁:=by
 have E:=yag hi;have g:=hi.length;have f:∀ H:Hp,yz5 H->SqL K H a (ns.map V.int)->HOk P w H s₁.heap->(∀ b,H b≠none->b=a)->(H a≠none->K.lookup a=none) ->
   codeAny (model P w) callerA (.call (.ref fa) ⟨[.ref a],[]⟩) (fun r s'=>r=.ok (.ret (.bool true))/\OldK s₁.heap s'.heap/\s'.os=s₁.os/\AllBare s'.gens) s₁:=by
  intro H D M p I N;have base_of:∀ {b:Addr} {o:Obj},s₁.heap.get? b=some o->H b=none->(ykq s₁.heap H).get? b=some o:=fun e n=>yj9 e n
  have C:∀ {b:Addr} {o:Obj} {l:Array DictEntry} {t:Nat},s₁.heap.get? b=some o->o.data=.dict l t->H b=none:=fun {b o l t} e d=>by
   cases q:H b with
   | none=>rfl
   | some u =>
    have B:b=a:=I b (by rw [q]; simp);subst B;rw [ha] at e; cases e;have R:Data.seq vs.toArray _=Data.dict l t:=d;cases R
  have c:∀ {b:Addr} {m:Str->Option Value},s₁.heap.Ns b m->(ykq s₁.heap H).Ns b m:=fun {b m} ⟨o,l,t,e,d,r⟩=>⟨o,l,t,base_of e (C e d),d,r⟩
  have i:K.In (ykq s₁.heap H):=fun b o e=>base_of (KX b o e) (by
   cases q:H b with
   | none=>rfl
   | some u =>
    have B:b=a:=I b (by rw [q]; simp);subst B;rw [N (by rw [q]; simp)] at e; cases e)
  have T:Mod K mg (ykq s₁.heap H):=⟨i,c hns,⟨mb,c hb,hbb⟩,let ⟨mc,h1,h2⟩:=hlim; ⟨mc,c h1,h2⟩⟩;have U:yr6 P w K mg (ykq s₁.heap H) callerA [] s₁ H:=⟨rfl,T,fun b o e=>yoa e,Nat.le_of_eq (ygr _ _),trivial,fun b hb=>absurd (show b∈([]:List Addr) from hb) (by simp),p,.of_eq hg⟩;refine codeAny_mono ((F _ i (c hns)).run callerA [] s₁ H ⟨[.ref a],[]⟩ [.ref a] [.ref a] _ _ hr U (hbind s₁ (.ref a)) (.cons rfl .nil) (hsp H D M)) fun r s' h=>?_
  cases r with
  | error e=>exact (hCX H e s' h).elim
  | ok fl =>
   cases fl with
   | next=>exact False.elim h
   | brk=>exact False.elim h
   | cont=>exact False.elim h
   | ret u =>
    obtain ⟨v,Y,os,A,G,j,Q,q⟩:=h;have O:v=.bl true:=q;subst O;obtain rfl:u=Value.bool true:=Q;refine ⟨rfl,OldK.of_keep fun b o e=>?_,os,A⟩
    cases q:H b with
    | none=>exact G.keep b o e q (by intro z; exact absurd (show b∈([]:List Addr) from z) (by simp)) (by simp)
    | some u =>
     rcases D b with z | ⟨X,Z,z⟩
     .rw [q] at z; cases z
     .have L:=G.frzs b X _ z;obtain ⟨J,_⟩:=p b _ z;obtain ⟨S,_⟩:=j b _ L;rw [e] at J; cases J;exact S
 cases hk:K.lookup a with
 | some o =>
  have e:=KX a o hk;rw [ha] at e;cases e;refine f (fun _=>none) (fun _=>.inl rfl) (.inr ⟨_,vs.toArray,_,hk,rfl,rfl,rfl,by rw [dy,g]; exact hl,by simpa using E⟩) (fun b u z=>by have y:(none:Option HO)=some u:=z; cases y) (fun b z=>absurd rfl z) fun z=>absurd rfl z
 | none =>
  refine f (fun b=>if b=a then some (.frz { cls:=.type "list",data:=.seq vs.toArray } (.lst (ns.map V.int))) else none) (fun b=>?_) (.inl (.inr ⟨{ cls:=.type "list",data:=.seq vs.toArray },if_pos rfl⟩)) (fun b u z=>?_) (fun b z=>?_) fun _=>hk
  .by_cases hb:b=a
   .exact .inr ⟨_,_,if_pos hb⟩
   .exact .inl (if_neg hb)
  .by_cases hb:b=a
   .have y:=(if_pos hb).symm.trans z;cases y;subst hb;exact ⟨ha,by rw [cH]; exact hl,vs,_,E,ha⟩
   .have y:=(if_neg hb).symm.trans z;cases y
  .by_cases hb:b=a
   .exact hb
   .exact absurd (if_neg hb) z
theorem walk_of {l:W.OpenLaw} {n k:Nat} {q:Program} {loose:List Str} {XP:(Str->Option Value)->Heap->Prop} {YP:World->Heap->Prop} {d:DefRec} {K:Params->W.Frag} {CX:World->CXT} {sp:World->Sp} {x:Str}
  (hn:l.most=some n) (hn2:n <= sizeLine) (hdf:d.params.defaults=[]) (hr:z7 k callerA)
  (hY:∀ (w:World) (h:Heap),YP w h->(K w.params).In h)
  (F:∀ (w:World) (mg:Str->Option Value) (fa:Addr) (h:Heap),(K w.params).In h->h.Ns mainGlobals mg->mg d.name=some (.ref fa) ->
   ∃ fd:FuncData,(∀ (s:Shared) (u:Value),BindsTo s fd ⟨[u],[]⟩ [(x,u)]) /\
    ∀ base:Heap,(K w.params).In base->base.Ns mainGlobals mg->wc l.prog w (K w.params) mg base (CX w) k fa fd [x] (sp w))
  (hsp:∀ (w:World) (H:Hp) (a:Addr) (ns:List Int),ns.length <= n->yz5 H->SqL (K w.params) H a (ns.map V.int)->sp w [.ref a] H (fun v _=>v=.bl true) fun _ _ _=>False)
  (hCX:∀ (w:World) (H:Hp) (s:Shared) (e:Value) (s':Shared),CX w [] H s (fun _ _ _=>False) e s'->False) :
  W.WalkO q loose XP YP l.row.toRowW d [] (fun f vs=>PySem.call f vs):=by
 refine Att.attach_call hn hdf fun w s₀ s₁ mg J fa o L D C a vs ns G Y E I r m j i c z=>?_;have p:=hY w _ Y;obtain ⟨fd,A,y⟩:=F w mg fa _ p G.T.g m;exact yi3 p G.T.g G.T.b G.T.builtins G.T.nolimit z j i (dZ c hn2) hr y A (fun H t B=>hsp w H a ns c t B) fun H e s'=>hCX w H s₁ e s'
def y0 (s:Stmt) (j:Nat):Stmt:=match s with
 | .ClassDef _ _ _ body _ _ _ _ _ _ _=>body.getD j (.Pass ⟨0,0,0,0⟩)
 | _=>.Pass ⟨0,0,0,0⟩
def xc (s:Stmt):Arguments:=match s with
 | .FunctionDef _ a _ _ _ _ _ _ _ _=>a
 | _=>{ posonlyargs:=[],args:=[],vararg:=none,kwonlyargs:=[],kw_defaults:=[],kwarg:=none,defaults:=[] }
def ww (s:Stmt):List Stmt:=match s with
 | .FunctionDef _ _ b _ _ _ _ _ _ _=>b
 | _=>[]
def yg (s:Stmt):Scope:=match s with
 | .FunctionDef _ _ _ _ _ _ sc _ _ _=>sc
 | _=>{ kind:=.function,names:=[],isGenerator:=false,isCoroutine:=false }
abbrev CX0:CXT:=fun _ _ _ _ _ _=>False
abbrev E0:XK:=fun _ _ _=>False
theorem vh {X:Cx}:É CX0 X E0:=fun _ _ _ _ _ _ _ h=>h.elim
structure Fun (K:W.Frag) (x qual:Str) (st:Stmt) (f:Addr) (fd:FuncData):Prop where
 ex:∃ (oc:Value) (od:Option Addr) (kV doc pm:Value) (an:Option Addr) (cdv ct:Value) (osl:Array (Option Value)),
  fd=W.fnOf x qual (xc st) (ww st) (yg st) .none kV doc pm an cdv ct/\K.lookup f=some ⟨oc,od,.func fd,osl⟩/\W.codeIn K cdv qual=true
 kp:W.keepIn K (.ref f)=true
section
variable {P:Program} {w:World} {K:W.Frag} {mg:Str->Option Value} {base:Heap}
theorem Fun.ok {x:Str} {f:Addr} {N ps:List Str} {k:Nat} {sp:Sp} (F:Fun K x qual st f fd) (S:yk N ps (yg st)) (len:∀ vs H Q E,sp vs H Q E->vs.length=ps.length)
  (hbody:∀ (cdv:Value) (A:Around) (outer:List Env) (s:Shared) (H:Hp) (vs:List V) (Q:VK) (E:XK),z7 k (A.deeper (envOfC qual (yg st) s.heap.objs.size f cdv))->sp vs H Q E ->
   ∃ t,PSs (wa CX0 P w K mg base N qual (yg st) f cdv A outer s H E).nox (ww st) t/\t { nx:=fun _ H'=>Q .non H',rt:=Q } (Æ N vs) H):wc P w K mg base CX0 (k+1) f fd ps sp:=by
 obtain ⟨m,j,kV,e,n,i,cdv,l,g,rfl,c,a⟩:=F.ex;refine ykk c a S len fun A outer s H vs Q E d b=>?_;obtain ⟨t,h,q⟩:=hbody cdv A outer s H vs Q E d b;exact ⟨t,h.nox,q⟩
theorem Fun.binds {x:Str} {f:Addr} {ps:List Str} (F:Fun K x qual st f fd)
  (h:∀ (kV doc pm:Value) (an:Option Addr) (cdv ct:Value) (us:List Value),us.length=ps.length->bindArgs (W.fnOf x qual (xc st) (ww st) (yg st) .none kV doc pm an cdv ct) ⟨us,[]⟩=pure (ps.zip us)):ud K fd ps []:=by
 obtain ⟨d,c,kV,doc,pm,an,cdv,ct,b,rfl,e,a⟩:=F.ex;exact .all (h kV doc pm an cdv ct)
theorem yl1 {x:Str} {f:Addr} {oc:Value} {od an:Option Addr} {osl:Array (Option Value)} {kV doc pm cdv ct:Value} (l:K.lookup f=some ⟨oc,od,.func (W.fnOf x qual (xc st) (ww st) (yg st) .none kV doc pm an cdv ct),osl⟩)
  (c:W.codeIn K cdv qual=true) (k:W.keepIn K (.ref f)=true):Fun K x qual st f (W.fnOf x qual (xc st) (ww st) (yg st) .none kV doc pm an cdv ct):=⟨⟨oc,od,kV,doc,pm,an,cdv,ct,osl,rfl,l,c⟩,k⟩
end
theorem Å {A:Around} {k:Nat} (hr:z7 k A):A.units+1 < cLine:=Nat.lt_of_le_of_lt (Nat.add_le_add_left (by decide:1 <= 64) _) hr.units
section
variable {X:Cx}
theorem pv (i:Nat) {x:Str} {pos:Pos} (hN:X.N[i]?=some x:=by rfl) (hv:Vis X.env.scope x:=by first | exact Or.inl rfl | exact Or.inr (Or.inl rfl) | exact Or.inr (Or.inr rfl)) (hd:(x == ("__debug__":Str))=false:=by decide)
  (hcd:(x == ("__classdict__":Str))=false:=by decide):PE X (.Name x pos) (yyk i):=yv5 hN hv hd hcd
end
theorem Ę {A B:Prop} (h:B):if false=true then A else B:=by
 rw [if_neg dE];exact h
theorem ĵ {A B:Prop} (h:A):if true=true then A else B:=by
 rw [if_pos rfl];exact h
def yw (H H':Hp):Prop:=∀ b o,H b=some o->H' b=some o
theorem yw.refl (H:Hp):yw H H:=fun _ _ h=>h
theorem yw.trans {H H1 H2:Hp} (a:yw H H1) (b:yw H1 H2):yw H H2:=fun c o h=>b c o (a c o h)
theorem yw.free {H H':Hp} (e:yw H H') {l:Addr} (h:H' l=Option.none):H l=Option.none:=by
 cases q:H l with
 | none=>rfl
 | some o =>
  rw [e l o q] at h;cases h
theorem yw.seq {K:W.Frag} {H H':Hp} {a:Addr} {xs:List V} (e:yw H H') (h:SqL K H a xs):SqL K H' a xs:=by
 rcases h with (h | ⟨o,h⟩) | h
 .exact .inl (.inl (e _ _ h))
 .exact .inl (.inr ⟨o,e _ _ h⟩)
 .exact .inr h
section
variable {X:Cx}
theorem wv:jw X (.builtin "isinstance") (fun xs H Q=>∃ x cv t c k,xs=[x,cv]/\xl cv c/\(∀ u,xl cv u->u=c)/\xx X.K H x t/\W.kitOne X.K t c=some k/\Q (.bl k) H):=by
 intro a s σ H xs l Q I r h;obtain ⟨x,cv,t,c,k,rfl,_,d,g,e,q⟩:=h;obtain ⟨u,b,rfl,i,j⟩:=ykl r;obtain rfl:=d b j;exact yf3 I i g e fun f=>⟨.bl k,H,I.tok f,rfl,q⟩
theorem zq {x:Str} {pos:Pos} (hg:Gl X x) (hm:X.mg x=none) (hv:bootBuiltins x=some (.type T)) (hn:x≠"__name__":=by decide) (hd:(x == ("__debug__":Str))=false:=by decide):PE X (.Name x pos) (tC (.ty T)):=ypn hg hm hv rfl hn hd
theorem vq {x:Str} {i:Int} {t:Tok} {pos:Pos} (hg:Gl X x) (hm:X.mg x=some (.int i t)) (hd:(x == ("__debug__":Str))=false:=by decide):PE X (.Name x pos) (tC (.int i)):=ycb hg hm ⟨t,rfl⟩ hd
theorem yb9 {x:Str} {pos:Pos} (hg:Gl X x) (hm:X.mg x=some (.ref C)) (hd:(x == ("__debug__":Str))=false:=by decide):PE X (.Name x pos) (tC (.ref C)):=ycb hg hm rfl hd
mutual
inductive RdV (K:W.Frag) (H:Hp):V->PyData->Prop
 | non:RdV K H .non .none
 | bl (b:_):RdV K H (.bl b) (.bool b)
 | int (i:_):RdV K H (.int i) (.int i)
 | str (x:_):RdV K H (.str x) (.str x)
 | lst {a xs ds:_}:SqL K H a xs->yfk K H xs ds->RdV K H (.ref a) (.list ds)
 | tup {a xs ds:_}:SqT K H a xs->yfk K H xs ds->RdV K H (.ref a) (.tuple ds)
inductive yfk (K:W.Frag) (H:Hp):List V->List PyData->Prop
 | nil:yfk K H [] []
 | cons {x xs d ds:_}:RdV K H x d->yfk K H xs ds->yfk K H (x :: xs) (d :: ds)
end
mutual
theorem RdV.reads {pins:List (Addr × Obj)} {σ:St} {H:Hp} {s:Shared} (I:Inv X pins σ H s):∀ {x:V} {d:PyData} {u:Value},RdV X.K H x d->xl x u->∃ as,Reads s.heap u d as
 | _,_,_,.non,r=>by cases r; exact ⟨_,.none⟩
 | _,_,_,.bl _,r=>by cases r; exact ⟨_,.bool _⟩
 | _,_,_,.int _,r=>by obtain ⟨t,rfl⟩:=r; exact ⟨_,.int _ _⟩
 | _,_,_,.str _,r=>by obtain ⟨t,rfl⟩:=r; exact ⟨_,.str _ _⟩
 | _,_,_,.lst hq hs,r=>by
  cases r;obtain ⟨b,a,⟨o,n,g,c,i,f⟩,h⟩:=I.list hq;obtain ⟨as,e⟩:=yfk.reads I hs a;exact ⟨_,.list g c f (by simpa using e)⟩
 | _,_,_,.tup hq hs,r=>by
  cases r;obtain ⟨b,a,⟨o,g,c,n,f⟩,h⟩:=I.tuple hq;obtain ⟨as,e⟩:=yfk.reads I hs a;exact ⟨_,.tuple g c f (by simpa using e)⟩
theorem yfk.reads {pins:List (Addr × Obj)} {σ:St} {H:Hp} {s:Shared} (I:Inv X pins σ H s):∀ {xs:List V} {ds:List PyData} {us:List Value},yfk X.K H xs ds->wt xs us->∃ as,ReadsAll s.heap us ds as
 | _,_,_,.nil,.nil=>⟨_,.nil⟩
 | _,_,_,.cons h hs,.cons r rs=>by
  obtain ⟨as,b⟩:=RdV.reads I h r;obtain ⟨c,a⟩:=yfk.reads I hs rs;exact ⟨_,.cons b a⟩
end
def yyg (K:W.Frag) (g:Bool->Bool):R2:=fun x y H Q=>∃ d e,RdV K H x d/\RdV K H y e/\SeqAt.shaped d=true/\SeqAt.shaped e=true/\Q (.bl (g (PyData.eqv d e))) H
theorem ι (hu:X.A.units+64 < cLine):OpR X (compareOp .NotEq) (yyg X.K fun b=>!b):=by
 intro a s σ H x y v u Q I l f h;obtain ⟨d,e,m,i,c,g,q⟩:=h;obtain ⟨n,k⟩:=m.reads I l;obtain ⟨o,j⟩:=i.reads I f;exact ne_dataH k j c g hu ⟨.bl _,H,I,rfl,q⟩
theorem j8 {K:W.Frag} {H:Hp}:∀ ns:List Int,yfk K H (ns.map V.int) (ns.map PyData.int)
 | []=>.nil
 | n :: r=>.cons (.int n) (j8 r)
theorem jl:∀ ns:List Int,PyData.canLayAll0 (ns.map PyData.int)=true
 | []=>rfl
 | _ :: r=>by simp [PyData.canLayAll0,PyData.canLay0,jl r]
theorem π:∀ ns:List Int,PyData.depthAll (ns.map PyData.int)=0
 | []=>rfl
 | _ :: r=>by simp [PyData.depthAll,PyData.depth,π r]
theorem ě (ns:List Int):SeqAt.shaped (.list (ns.map PyData.int))=true:=by
 simp [SeqAt.shaped,PyData.canLay0,PyData.depth,jl,π]
theorem jn:∀ ns ms:List Int,PyData.eqvAll (ns.map PyData.int) (ms.map PyData.int)=decide (ns=ms)
 | [],[]=>by simp [PyData.eqvAll]
 | [],_ :: _=>by simp [PyData.eqvAll]
 | _ :: _,[]=>by simp [PyData.eqvAll]
 | a :: r,b :: t=>by
  simp only [d6,PyData.eqvAll,PyData.eqv,jn r t];by_cases h:a=b <;> by_cases h':r=t <;> simp [h,h']
theorem yy7 {K:W.Frag} {g:Bool->Bool} {H:Hp} {Q:VK} {a b:Addr} (ns ms:List Int) (ha:SqL K H a (ns.map V.int)) (hb:SqL K H b (ms.map V.int)) (h:Q (.bl (g (decide (ns=ms)))) H):yyg K g (.ref a) (.ref b) H Q :=
 ⟨_,_,.lst ha (j8 ns),.lst hb (j8 ms),ě ns,ě ms,by rw [PyData.eqv,jn]; exact h⟩
def yyo (_ j:Int):Prop:=0 < j/\j < 2 ^ 200
theorem vy:OpR X (binaryOp .FloorDiv) (rI yyo fun i j=>.int (i / j)):=opI fun i j _ _ _ _ _ a q=>by
 obtain ⟨d,c⟩:=a;refine floordiv_int (by omega) ?_ (.inl (PyProof.noPylong_of_log2 ?_))
 .rw [Int.fdiv_eq_ediv_of_nonneg _ (by omega)]; exact q
 .have e:j.natAbs < 2 ^ 200:=by omega
  have b:j.natAbs≠0:=by omega
  have:=(Nat.log2_lt b).mpr e;omega
def va3 (t:TS):TS:=fun D σ H=>∃ M:St->Hp->Prop,t { D with nx:=M } σ H/\∀ σ' H',M σ' H'->D.nx σ' H'
theorem jc {t:TS} (h:PS X st t):PS X st (va3 t):=by
 refine .mk fun a s σ H D I ⟨M,e,d⟩=>?_;refine thn (h a s σ H { D with nx:=M } I e) fun f g q=>?_
 cases f with
 | next =>
  obtain ⟨σ',b,c,q⟩:=q;exact ⟨σ',b,c,d σ' b q⟩
 | ret v=>exact q
 | brk=>exact q
 | cont=>exact q
end
def wo (nx:St->Hp->Prop) (σ:St) (H:Hp):Prop:=nx σ H
section
variable {K:W.Frag} {σ:St} {H:Hp} {Q:VK} {QB:Bool->Hp->Prop} {QL:List V->Hp->Prop} {v x y:V} {i j:Int} {b:Bool} {ta tb tc te:TE} {t u:TS} {tA tB':TT} {tr:TA} {D:ť}
 {nx bk ct:St->Hp->Prop} {rt:VK} {A B:Prop}
theorem ym {N:List Str} {vs:List V} {σ':St} (e:Æ N vs=σ') (h:t D σ' H):t D (Æ N vs) H:=by rw [e]; exact h
theorem yx4 {k:Nat} (e:σ[k]?=some (some v)) (h:Q v H):yyk k σ H Q:=⟨v,e,h⟩
theorem i_c (h:Q v H):tC v σ H Q:=h
theorem vbm {r:R2} (h:ta σ H fun x H1=>tb σ H1 fun y H2=>r x y H2 Q):tOp r ta tb σ H Q:=h
theorem vbw {r:V->Hp->VK->Prop} (h:ta σ H fun x H1=>r x H1 Q):tUn r ta σ H Q:=h
theorem vbs {g:Int->Int->V} (h:Q (g i j) H):rI0 g (.int i) (.int j) H Q:=⟨i,j,rfl,rfl,h⟩
theorem i_I {C:Int->Int->Prop} {g:Int->Int->V} (hc:C i j) (h:Q (g i j) H):rI C g (.int i) (.int j) H Q:=⟨i,j,rfl,rfl,hc,h⟩
theorem i_U {g:Int->V} (h:Q (g i) H):rU g (.int i) H Q:=⟨i,rfl,h⟩
theorem yzk (h:Q (.bl (decide (i=j))) H):rEq (.int i) (.int j) H Q:=⟨rfl,by
 have e:decide (V.int i=V.int j)=decide (i=j):=by simp
 rw [e]; exact h⟩
theorem ysl (h:ta σ H fun x H'=>∃ k,x=.bl k/\QB k H'):yqz ta σ H QB:=h
theorem vbi (h:ta σ H fun x H'=>∃ k,x=.bl k/\QB k H'):tB ta σ H QB:=h
theorem vbo {P:Bool->Prop} (h:P b):∃ k,V.bl b=V.bl k/\P k:=⟨b,rfl,h⟩
theorem ypd {r r':R2} (h:ta σ H fun x H1=>tb σ H1 fun y H2=>r x y H2 fun z H3=>∃ k,z=.bl k/\(if k=true then tc σ H3 fun w' H4=>r' y w' H4 Q else Q (.bl false) H3)):yid r r' ta tb tc σ H Q:=h
theorem yue (h:ta σ H fun x H1=>∃ c,x=.bl c/\if c=true then tb σ H1 Q else Q (.bl false) H1):yxj ta tb σ H Q:=h
theorem yt9 (h:ta σ H fun x H1=>∃ c,x=.bl c/\Q (.bl (!c)) H1):yxg ta σ H Q:=h
theorem yzf {t1 t2:TT} (h:t1 σ H fun c H1=>if c=true then t2 σ H1 QB else QB false H1):vau t1 t2 σ H QB:=h
theorem vbt {t1 t2:TT} (h:t1 σ H fun c H1=>if c=true then QB true H1 else t2 σ H1 QB):tOr t1 t2 σ H QB:=h
theorem yzx {t1:TT} (h:t1 σ H fun c H1=>QB (!c) H1):vay t1 σ H QB:=h
theorem yy9 (h:tA σ H fun c H1=>if c=true then ta σ H1 Q else tb σ H1 Q):tIf tA ta tb σ H Q:=h
theorem yy3 (h:t ⟨u D,D.rt,D.bk,D.ct⟩ σ H):yz4 t u D σ H:=h
theorem yuc (h:nx σ H):yxy ⟨nx,rt,bk,ct⟩ σ H:=h
theorem yzp (h:te σ H rt):vaw te ⟨nx,rt,bk,ct⟩ σ H:=h
theorem yte (h:te σ H fun _ H1=>nx σ H1):yxo te ⟨nx,rt,bk,ct⟩ σ H:=h
theorem vbl (h:tA σ H fun c H1=>if c=true then t D σ H1 else u D σ H1):yyb tA t u D σ H:=h
theorem yir (M:St->Hp->Prop) (h1:t ⟨M,rt,bk,ct⟩ σ H) (h2:∀ σ' H',M σ' H'->nx σ' H'):va3 t ⟨nx,rt,bk,ct⟩ σ H:=⟨M,h1,h2⟩
theorem yy4 {g:TG} (h:te σ H fun x H1=>g x σ H1 nx):ysd te g ⟨nx,rt,bk,ct⟩ σ H:=h
theorem yu6 {sp:Sp} {dvs:List V} {E:XK} (h:tr σ H fun vs H1=>sp (vs++dvs) H1 Q E):yxd sp dvs E tr σ H Q:=h
theorem ysk (h:ta σ H fun x H1=>tr σ H1 fun xs H2=>QL (x :: xs) H2):yx2 ta tr σ H QL:=h
theorem yzs (h:QL [] H):ysa σ H QL:=h
theorem vba {r:List V->Hp->VK->Prop} (h:tr σ H fun vs H1=>r vs H1 Q):tCB r tr σ H Q:=h
theorem yyx (h:tr σ H fun xs H1=>xs.length <= sizeLine/\∀ p,H1 p=none->Q (.ref p) (upd H1 p (.tup xs))):vas tr σ H Q:=h
theorem yy6 (h:tr σ H fun xs H1=>xs.length <= sizeLine/\∀ p,H1 p=none->Q (.ref p) (upd H1 p (.lst xs))):vav tr σ H Q:=h
theorem yec {m:Str} {sp:Sp} {dvs:List V} {E:XK} (h:ta σ H fun x H1=>∃ a dx fs,x=.ref a/\H1 a=some (.ins C dx fs)/\fs.lookup m=none/\tr σ H1 fun vs H2=>sp (x :: (vs++dvs)) H2 Q E):yck C m sp dvs E ta tr σ H Q:=h
theorem yzq {f:Str} (h:ta σ H fun x H1=>∃ a C dx fs v,x=.ref a/\H1 a=some (.ins C dx fs)/\Cls K C/\vk K C f/\fs.lookup f=some v/\Q v H1):vag K ta f σ H Q:=h
theorem ysx {f:Str} (h:tb σ H fun y H1=>ta σ H1 fun x H2=>∃ a C dx fs,x=.ref a/\H2 a=some (.ins C dx fs)/\Cls K C/\vk K C f/\fs.length < 1000/\wo nx σ (upd H2 a (.ins C dx (z6 f y fs)))):vat K ta tb f ⟨nx,rt,bk,ct⟩ σ H:=h
theorem vby {r:V->Option Int->Option Int->Hp->VK->Prop} {tl th:TO} (h:te σ H fun x H1=>tl σ H1 fun l H2=>th σ H2 fun u H3=>r x l u H3 Q):tSl r te tl th σ H Q:=h
theorem yjk {QO:Option Int->Hp->Prop} (h:QO none H):yhl σ H QO:=h
theorem ysn {QO:Option Int->Hp->Prop} (h:ta σ H fun x H1=>∃ i,x=.int i/\QO (some i) H1):yx3 ta σ H QO:=h
theorem yys {P:Int->Prop} (h:P i):∃ k,V.int i=V.int k/\P k:=⟨i,rfl,h⟩
theorem ytp (h:A):V.non=V.non/\A:=⟨rfl,h⟩
theorem g0 {a0:Option V} {r:St} {N:St->Hp->Prop} (h:N (some v :: r) H):xp 0 v (a0 :: r) H N:=h
theorem g1 {a0 a1:Option V} {r:St} {N:St->Hp->Prop} (h:N (a0 :: some v :: r) H):xp 1 v (a0 :: a1 :: r) H N:=h
theorem g2 {a0 a1 a2:Option V} {r:St} {N:St->Hp->Prop} (h:N (a0 :: a1 :: some v :: r) H):xp 2 v (a0 :: a1 :: a2 :: r) H N:=h
theorem g3 {a0 a1 a2 a3:Option V} {r:St} {N:St->Hp->Prop} (h:N (a0 :: a1 :: a2 :: some v :: r) H):xp 3 v (a0 :: a1 :: a2 :: a3 :: r) H N:=h
theorem g4 {a0 a1 a2 a3 a4:Option V} {r:St} {N:St->Hp->Prop} (h:N (a0 :: a1 :: a2 :: a3 :: some v :: r) H):xp 4 v (a0 :: a1 :: a2 :: a3 :: a4 :: r) H N:=h
theorem g5 {a0 a1 a2 a3 a4 a5:Option V} {r:St} {N:St->Hp->Prop} (h:N (a0 :: a1 :: a2 :: a3 :: a4 :: some v :: r) H):xp 5 v (a0 :: a1 :: a2 :: a3 :: a4 :: a5 :: r) H N:=h
theorem g6 {a0 a1 a2 a3 a4 a5 a6:Option V} {r:St} {N:St->Hp->Prop} (h:N (a0 :: a1 :: a2 :: a3 :: a4 :: a5 :: some v :: r) H):xp 6 v (a0 :: a1 :: a2 :: a3 :: a4 :: a5 :: a6 :: r) H N:=h
theorem g7 {a0 a1 a2 a3 a4 a5 a6 a7:Option V} {r:St} {N:St->Hp->Prop} (h:N (a0 :: a1 :: a2 :: a3 :: a4 :: a5 :: a6 :: some v :: r) H):xp 7 v (a0 :: a1 :: a2 :: a3 :: a4 :: a5 :: a6 :: a7 :: r) H N:=h
theorem g8 {a0 a1 a2 a3 a4 a5 a6 a7 a8:Option V} {r:St} {N:St->Hp->Prop} (h:N (a0 :: a1 :: a2 :: a3 :: a4 :: a5 :: a6 :: a7 :: some v :: r) H):xp 8 v (a0 :: a1 :: a2 :: a3 :: a4 :: a5 :: a6 :: a7 :: a8 :: r) H N:=h
theorem g9 {a0 a1 a2 a3 a4 a5 a6 a7 a8 a9:Option V} {r:St} {N:St->Hp->Prop} (h:N (a0 :: a1 :: a2 :: a3 :: a4 :: a5 :: a6 :: a7 :: a8 :: some v :: r) H):xp 9 v (a0 :: a1 :: a2 :: a3 :: a4 :: a5 :: a6 :: a7 :: a8 :: a9 :: r) H N:=h
theorem g10 {a0 a1 a2 a3 a4 a5 a6 a7 a8 a9 a10:Option V} {r:St} {N:St->Hp->Prop} (h:N (a0 :: a1 :: a2 :: a3 :: a4 :: a5 :: a6 :: a7 :: a8 :: a9 :: some v :: r) H):xp 10 v (a0 :: a1 :: a2 :: a3 :: a4 :: a5 :: a6 :: a7 :: a8 :: a9 :: a10 :: r) H N:=h
theorem ya0 {n:Nat} {tg:TGs} {a:Addr} {xs:List V} {N:St->Hp->Prop} (hq:SqT K H a xs) (hl:xs.length=n) (h:tg xs σ H N):ysg K n tg (.ref a) σ H N:=⟨a,xs,rfl,hq,hl,h⟩
theorem yom {tg:TG} {us:TGs} {r:List V} {N:St->Hp->Prop} (h:tg v σ H fun σ' H'=>us r σ' H' N):z9 tg us (v :: r) σ H N:=⟨v,r,rfl,h⟩
theorem yuq {N:St->Hp->Prop} (h:N σ H):ykp [] σ H N:=⟨rfl,h⟩
theorem zd {p:Prop} [Decidable p] (h1:p->A) (h2:¬ p->B):if decide p=true then A else B:=by
 by_cases h:p
 .rw [if_pos (dw h)]; exact h1 h
 .rw [if_neg (by simp [h])]; exact h2 h
theorem Ţ {p:Prop} [Decidable p] (hp:p) (h:A):if decide p=true then A else B:=by rw [if_pos (dw hp)]; exact h
theorem ycm {p:Prop} [Decidable p] (hp:¬ p) (h:B):if decide p=true then A else B:=by rw [if_neg (by simp [hp])]; exact h
theorem yp3 {p:Prop} [Decidable p] (hp:p) (h:B):if (!decide p)=true then A else B:=by rw [if_neg (by simp [hp])]; exact h
theorem yri {p:Prop} [Decidable p] (hp:¬ p) (h:A):if (!decide p)=true then A else B:=by rw [if_pos (by simp [hp])]; exact h
theorem ynb {p:Prop} [Decidable p] (h1:p->B) (h2:¬ p->A):if (!decide p)=true then A else B:=by
 by_cases h:p
 .exact yp3 h (h1 h)
 .exact yri h (h2 h)
theorem yyv (h:B):if (!true)=true then A else B:=Ę h
theorem yzl (h:A):if (!false)=true then A else B:=ĵ h
theorem yza {α:Type} {z:α} [Decidable (z=z)] (h:A):if decide (z=z)=true then A else B:=Ţ rfl h
theorem x0 {f:Str} {r:List (Str × V)}:List.lookup f ((f,v) :: r)=some v:=by simp [List.lookup]
theorem wk {f g:Str} {r:List (Str × V)} {o:Option V} (h:¬ f=g) (e:List.lookup f r=o):List.lookup f ((g,v) :: r)=o:=by
 have a:(f == g)=false:=by simp [h]
 simp [List.lookup,a,e]
theorem ą {f:Str}:List.lookup f ([]:List (Str × V))=none:=rfl
theorem jx {f:Str} {r:List (Str × V)}:z6 f v ((f,x) :: r)=(f,v) :: r:=by simp [z6]
theorem vx {f g:Str} {r r':List (Str × V)} (h:¬ g=f) (e:z6 f v r=r'):z6 f v ((g,x) :: r)=(g,x) :: r':=by simp [z6,h,e]
theorem wz {f:Str}:z6 f v []=[(f,v)]:=rfl
theorem zh {a c:Addr} {o o':HO} (hn:H a=none) (h:H c=some o):upd H a o' c=some o:=by rw [yn (yd h hn)]; exact h
theorem yi {a c:Addr} {o o':HO} (hn:c≠a) (h:H c=some o):upd H a o' c=some o:=by rw [yn hn]; exact h
theorem y8 {a:Addr} {o:HO} (hn:H a=none):yw H (upd H a o):=fun _ _ h=>zh hn h
theorem yw.tup {H':Hp} {a:Addr} {xs:List V} (e:yw H H') (h:SqT K H a xs):SqT K H' a xs:=by
 rcases h with (h | ⟨o,h⟩) | h
 .exact .inl (.inl (e _ _ h))
 .exact .inl (.inr ⟨o,e _ _ h⟩)
 .exact .inr h
theorem ya2 {tb:TS} {W:Nat->St->Hp->Prop} {m:Nat} (h:tb ⟨fun σ' H'=>∃ m',m' < m/\W m' σ' H',rt,nx,fun σ' H'=>∃ m',m' < m/\W m' σ' H'⟩ σ H) :
  ∃ N:St->Hp->Prop,(∀ σ' H',N σ' H'->∃ m',m' < m/\W m' σ' H')/\tb ⟨N,rt,nx,N⟩ σ H:=⟨_,fun _ _ q=>q,h⟩
theorem ywl {sp:Sp} {dvs:List V} {E:XK} (h:tr σ H fun vs H1=>∀ x dx,H1 x=none->H1 dx=none->dx≠x->sp (.ref x :: (vs++dvs)) (upd (upd H1 dx (.own x)) x (.ins C dx [])) (fun v H2=>v=.non/\Q (.ref x) H2) E):yrg C sp dvs E tr σ H Q:=h
theorem vbx {r:V->List V->Hp->VK->Prop} (h:ta σ H fun x H1=>tyV K T x H1/\tr σ H1 fun xs H2=>r x xs H2 Q):tBM K T r ta tr σ H Q:=h
theorem yzj {r:V->List V->Hp->VK->Prop} (h:ta σ H fun x H1=>tyV K T x H1/\r x [] H1 Q):va4 K T r ta σ H Q:=h
theorem z8 {p:Addr} {xs:List V} (h:H p=some (.lst xs)) (k:A):tyV K "list" (.ref p) H/\A:=⟨.inl ⟨rfl,_,SqL.of h⟩,k⟩
theorem ub {l:Addr} {xs:List V} (h:H l=some (.lst xs)) (hz:xs.length < sizeLine) (k:Q .non (upd H l (.lst (xs++[y])))):yhj (.ref l) [y] H Q:=⟨l,xs,y,rfl,rfl,h,hz,k⟩
theorem Ŷ {l:Addr} {xs:List V} (h:H l=some (.lst xs)) (k:Q .non (upd H l (.lst xs.reverse))):ydj (.ref l) [] H Q:=⟨l,xs,rfl,rfl,h,k⟩
theorem zr {p:Addr} {ys:List V} {P:List V->Prop} (h:SqL K H p ys) (k:P ys):∃ p' ys',[V.ref p]=[V.ref p']/\(SqL K H p' ys'\/SqT K H p' ys')/\P ys':=⟨p,ys,rfl,.inl h,k⟩
theorem yk7 {p:Addr} {ys:List V} {P:List V->Prop} (h:SqT K H p ys) (k:P ys):∃ p' ys',[V.ref p]=[V.ref p']/\(SqL K H p' ys'\/SqT K H p' ys')/\P ys':=⟨p,ys,rfl,.inr h,k⟩
theorem yj2 {p:Addr} {ys:List V} {P:List V->Prop} (h:SqL K H p ys) (k:P ys):∃ p' ys',[V.ref p]=[V.ref p']/\(SqL K H p' ys'\/SqT K H p' ys')/\P ys':=⟨p,ys,rfl,.inl h,k⟩
theorem ua {p:Addr} {xs:List V} (h:SqL K H p xs) (e:atI xs i=some v) (k:Q v H):va5 K (.ref p) (.int i) H Q:=⟨p,xs,i,v,rfl,rfl,h,e,k⟩
theorem Ė {p:Addr} {xs:List V} (h:SqT K H p xs) (e:atI xs i=some v) (k:Q v H):yr4 K (.ref p) (.int i) H Q:=⟨p,xs,i,v,rfl,rfl,h,e,k⟩
theorem ycn {p:Addr} {xs:List V} {lo hi:Option Int} (h:SqL K H p xs) (k:∀ q,H q=none->Q (.ref q) (upd H q (.lst (ycq xs lo hi)))):va8 K (.ref p) lo hi H Q:=⟨p,xs,rfl,h,k⟩
theorem zw {xs:List V} (n:Nat):ycq xs none (some (n:Int))=xs.take n:=by
 unfold ycq;rw [HT.sIx_none,HT.sIx_nat,List.drop_zero,Nat.sub_zero];rcases Nat.le_total n xs.length with h | h
 .rw [Nat.min_eq_left h]
 .rw [Nat.min_eq_right h,ej (dh _),ej h]
theorem yyq {wi:TI} {g:TG} {tb:TS} (h:wi σ H fun J H1=>∃ W:Nat->Nat->St->Hp->Prop,(∃ m,W 0 m σ H1)/\∀ i m σ H,W i m σ H ->
  (J.stop i H/\D.nx σ H)\/(J.go i H/\∃ N:St->Hp->Prop,(∀ σ' H',N σ' H'->∃ m',m' < m/\W (i+1) m' σ' H')/\∀ x H',J.yld i H x H'->g x σ H' fun σ2 H2=>tb { D with nx:=N,ct:=N,bk:=D.nx } σ2 H2)):va9 wi g tb D σ H:=h
theorem yoz {R:It->Hp->Prop} (h:ta σ H fun x H1=>∃ a,x=.ref a/\(∃ xs,SqL K H1 a xs)/\R (Itl K a) H1):yxl K ta σ H R:=h
theorem ytg {R:It->Hp->Prop} (h:ta σ H fun x H1=>∃ a,x=.ref a/\(∃ xs,SqT K H1 a xs)/\R (Itt K a) H1):vap K ta σ H R:=h
theorem yo9 {R:It->Hp->Prop} (h:tr σ H fun vs H1=>∃ j:Int,vs=[.int j]/\-(2 ^ 62) <= j/\j < 2 ^ 62/\R (Itr 0 j.toNat) H1):yxp tr σ H R:=h
theorem Ð {n m:String} {k:Bool} {P:Bool->Prop} (ty:xx K H x (.type n)) (e:W.kitOne K (.type n) (.type m)=some k) (h:P k) :
  ∃ x' cv t c k',[x,V.ty m]=[x',cv]/\xl cv c/\(∀ u,xl cv u->u=c)/\xx K H x' t/\W.kitOne K t c=some k'/\P k':=⟨x,.ty m,.type n,.type m,k,rfl,rfl,fun _ r=>r,ty,e,h⟩
theorem yn0 (h:nx σ H):wo nx σ H:=h
end
def yms:V->Bool
 | .int _=>true
 | .bl _=>true
 | _=>false
def yhh:V->Bool
 | .bl _=>true
 | _=>false
def jg:V->Bool
 | .int _=>true
 | _=>false
theorem yjy (K:W.Frag) (n:String):W.kitOne K (.type n) (.type n)=some true:=by
 unfold W.kitOne;rw [if_pos (by simp)]
theorem yo7 {K:W.Frag} {H:Hp} {x:V} {n:String} (ty:xx K H x (.type n)):W.kitOne K (.type n) (.type "int")=some (yms x):=by
 cases ty <;> rfl
theorem yjc {K:W.Frag} {H:Hp} {x:V} {n:String} (ty:xx K H x (.type n)):W.kitOne K (.type n) (.type "bool")=some (yhh x):=by
 cases ty <;> rfl
end L2
namespace SpanMath
def Ch (c:Int):Prop:=32768 <= c/\c <= 16744448
def ren (l w s:Int):Int × Int × Int :=
 if w < 4294967296 then (if w * 256 < 4294967296 then (l * 65536,w * 65536,s+2) else (l * 256,w * 256,s+1)) else (l,w,s)
def cut (w c:Int):Int:=w * c / 16777216
def nar (x:Int × Int × Int) (c b:Int):Int × Int × Int :=
 if b=1 then ren x.1 (cut x.2.1 c) x.2.2 else ren (x.1+cut x.2.1 c) (x.2.1 - cut x.2.1 c) x.2.2
def s0:Int × Int × Int:=(0,1099511627776,5)
theorem yjj {l w s:Int} (h:w < 4294967296) (h2:8388608 <= w):ren (l * 256) (w * 256) (s+1)=ren l w s:=by
 unfold ren;rw [if_pos h];by_cases h3:w * 256 < 4294967296
 .rw [if_pos h3,if_pos h3,if_neg (by omega)];refine Prod.ext ?_ (Prod.ext ?_ ?_)
  .show l * 256 * 256=l * 65536; omega
  .show w * 256 * 256=w * 65536; omega
  .show s+1+1=s+2; omega
 .rw [if_neg h3,if_neg h3]
theorem yoq {l w s:Int} (h:¬ w < 4294967296):ren l w s=(l,w,s):=by
 unfold ren; rw [if_neg h]
theorem ya3 {w c:Int} (hw:4294967296 <= w) (hw2:w <= 1099511627776) (hc:Ch c):8388608 <= cut w c/\8388608 <= w - cut w c/\cut w c < 1099511627776:=by
 obtain ⟨e,b⟩:=hc;have a:w * 32768 <= w * c:=eE e (by omega);have d:w * c <= w * 16744448:=eE b (by omega);unfold cut;generalize w * c=p at a d ⊢;omega
structure Ok (x:Int × Int × Int):Prop where
 l0:0 <= x.1
 w0:4294967296 <= x.2.1
 w1:x.2.1 <= 1099511627776
 z:5 <= x.2.2
theorem ok0:Ok s0:=⟨by decide,by decide,by decide,by decide⟩
theorem ykz {l w s:Int} (h0:0 <= l) (h1:8388608 <= w) (h2:w <= 1099511627776) (h3:5 <= s):Ok (ren l w s):=by
 unfold ren
 split
 .split
  .exact ⟨by show 0 <= l * 65536; omega,by show _ <= w * 65536; omega,by show w * 65536 <= _; omega,by show 5 <= s+2; omega⟩
  .exact ⟨by show 0 <= l * 256; omega,by show _ <= w * 256; omega,by show w * 256 <= _; omega,by show 5 <= s+1; omega⟩
 .exact ⟨h0,by show _ <= w; omega,h2,h3⟩
theorem yvb {x:Int × Int × Int} {c b:Int} (h:Ok x) (hc:Ch c):Ok (nar x c b):=by
 obtain ⟨d,e,a⟩:=ya3 h.w0 h.w1 hc;have:=h.l0; have:=h.w0; have:=h.w1; have:=h.z;unfold nar
 split
 .exact ykz (by omega) (by omega) (by omega) (by omega)
 .exact ykz (by omega) (by omega) (by omega) (by omega)
end SpanMath
namespace SpanMath
def pw:Nat->Int
 | 0=>1
 | k+1=>pw k * 256
theorem uh:∀ k,0 < pw k
 | 0=>by decide
 | k+1=>by have:=uh k; show 0 < pw k * 256; omega
theorem yek (a:Nat):∀ b,pw (a+b)=pw a * pw b
 | 0=>by simp [pw]
 | b+1=>by
  show pw (a+b) * 256=pw a * (pw b * 256);rw [yek a b,Int.mul_assoc]
theorem yg3 {a b:Nat} (h:a <= b):pw a <= pw b:=by
 obtain ⟨c,rfl⟩:=Nat.exists_eq_add_of_le h;rw [yek];have e:=uh a;have d:=uh c
 calc pw a=pw a * 1:=by omega
  _ <= pw a * pw c:=eE (by omega) (by omega)
theorem yxw {a b:Nat} (h:pw a < pw b):a < b:=by
 apply Nat.lt_of_not_le;intro q;have:=yg3 q;omega
def lo:Nat->Int->List Int
 | 0,_=>[]
 | k+1,n=>n % 256 :: lo k (n / 256)
def wr (k:Nat) (n:Int):List Int:=(lo k n).reverse
theorem yl6:∀ k n,(lo k n).length=k
 | 0,_=>rfl
 | k+1,n=>by simp [lo,yl6 k]
theorem yvf (k:Nat) (n:Int):(wr k n).length=k:=by simp [wr,yl6]
theorem yg2:∀ k n,∀ x∈lo k n,0 <= x/\x <= 255
 | 0,_,x,h=>by simp [lo] at h
 | k+1,n,x,h=>by
  simp only [lo,dA] at h;rcases h with rfl | h
  .omega
  .exact yg2 k _ x h
theorem yon (k:Nat) (n:Int):∀ x∈wr k n,0 <= x/\x <= 255:=fun x h=>yg2 k n x (by simpa [wr] using h)
theorem yn3 (k:Nat) (n:Int):wr (k+1) n=wr k (n / 256)++[n % 256]:=by simp [wr,lo]
def val (xs:List Int):Int:=xs.foldl (fun a b=>a * 256+b) 0
theorem ydh (xs:List Int) (b:Int):val (xs++[b])=val xs * 256+b:=by simp [val,List.foldl_append]
theorem ylg:∀ (k:Nat) (n:Int),0 <= n->n < pw k->val (wr k n)=n
 | 0,n,h0,h1=>by
  have:n < 1:=h1;have:n=0:=by omega
  subst this; rfl
 | k+1,n,h0,h1=>by
  have a:n < pw k * 256:=h1;rw [yn3,ydh,ylg k (n / 256) (by omega) (by omega)];omega
def vbc:Nat->Int->Int->Nat
 | 0,_,_=>0
 | n+1,a,b=>if a=b then 0 else vbc n (a / 256) (b / 256)+1
end SpanMath
namespace SpanMath
abbrev Sn:=Int × Int × Int
def sz (x:Sn):Nat:=x.2.2.toNat
structure OkS (x:Sn):Prop where
 ok:Ok x
 top:x.1+x.2.1 <= pw (sz x)
theorem OkS.sz {x:Sn} (h:OkS x):((sz x:Nat):Int)=x.2.2:=by
 have:=h.ok.z;unfold SpanMath.sz;omega
theorem OkS.sz5 {x:Sn} (h:OkS x):5 <= SpanMath.sz x:=by
 have:=h.ok.z;unfold SpanMath.sz;omega
theorem yz6:OkS s0:=⟨ok0,by decide⟩
structure Sub (x y:Sn) (r:Nat):Prop where
 z:sz y=sz x+r
 l:x.1 * pw r <= y.1
 h:y.1+y.2.1 <= (x.1+x.2.1) * pw r
theorem yha {l w s:Int} (hs:0 <= s):∃ r,Sub (l,w,s) (ren l w s) r/\(ren l w s).2.1=w * pw r/\(ren l w s).1=l * pw r:=by
 unfold ren
 split
 .split
  .refine ⟨2,⟨?_,?_,?_⟩,?_,?_⟩
   .show (s+2).toNat=s.toNat+2; omega
   .show l * (1 * 256 * 256) <= l * 65536; omega
   .show l * 65536+w * 65536 <= (l+w) * (1 * 256 * 256); omega
   .show w * 65536=w * (1 * 256 * 256); omega
   .show l * 65536=l * (1 * 256 * 256); omega
  .refine ⟨1,⟨?_,?_,?_⟩,?_,?_⟩
   .show (s+1).toNat=s.toNat+1; omega
   .show l * (1 * 256) <= l * 256; omega
   .show l * 256+w * 256 <= (l+w) * (1 * 256); omega
   .show w * 256=w * (1 * 256); omega
   .show l * 256=l * (1 * 256); omega
 .refine ⟨0,⟨?_,?_,?_⟩,?_,?_⟩
  .rfl
  .show l * 1 <= l; omega
  .show l+w <= (l+w) * 1; omega
  .show w=w * 1; omega
  .show l=l * 1; omega
theorem yot {x:Sn} {c b:Int} (h:Ok x) (hc:Ch c):∃ r,Sub x (nar x c b) r:=by
 obtain ⟨k,i,j⟩:=ya3 h.w0 h.w1 hc;have f:=h.l0; have g:=h.z;unfold nar
 split
 .obtain ⟨r,⟨a,e,d⟩,_⟩:=yha (l:=x.1) (w:=cut x.2.1 c) (s:=x.2.2) (by omega);refine ⟨r,a,e,Int.le_trans d (eh ?_ (Int.le_of_lt (uh r)))⟩;show x.1+cut x.2.1 c <= x.1+x.2.1;omega
 .obtain ⟨r,⟨a,e,d⟩,_⟩:=yha (l:=x.1+cut x.2.1 c) (w:=x.2.1 - cut x.2.1 c) (s:=x.2.2) (by omega);refine ⟨r,a,Int.le_trans (eh ?_ (Int.le_of_lt (uh r))) e,Int.le_trans d (eh ?_ (Int.le_of_lt (uh r)))⟩
  .show x.1 <= x.1+cut x.2.1 c; omega
  .show x.1+cut x.2.1 c+(x.2.1 - cut x.2.1 c) <= x.1+x.2.1; omega
theorem ycf {x:Sn} {c b:Int} (h:OkS x) (hc:Ch c):OkS (nar x c b):=by
 refine ⟨yvb h.ok hc,?_⟩;obtain ⟨r,q⟩:=yot (b:=b) h.ok hc;rw [q.z,yek];exact Int.le_trans q.h (eh h.top (Int.le_of_lt (uh r)))
def blk (l e:Int):Int:=(l+e - 1) / e
def yfl (l w:Int) (k:Nat):Prop:=(blk l (pw k)+1) * pw k <= l+w
instance (l w:Int) (k:Nat):Decidable (yfl l w k):=inferInstanceAs (Decidable ((blk l (pw k)+1) * pw k <= l+w))
theorem yl2 (l:Int) {e:Int} (h:0 < e):l <= blk l e * e/\blk l e * e < l+e:=by
 unfold blk;have a:=Int.emod_add_mul_ediv (l+e - 1) e;have c:=eT (l+e - 1) (show e≠0 by omega);have b:=eH (l+e - 1) h;rw [Int.mul_comm] at a;generalize (l+e - 1) / e * e=q at a ⊢;omega
theorem ygy {l w:Int} {k:Nat} (h:yfl l w k):pw k <= w:=by
 have a:=yl2 l (uh k);unfold yfl at h;rw [Int.add_mul] at h;omega
def tel (l w:Int):Nat->Nat->Nat
 | 0,k=>k
 | f+1,k=>if yfl l w (k+1) then tel l w f (k+1) else k
theorem ykg {l w:Int} {f k:Nat} (h:yfl l w (k+1)):tel l w f (k+1)=tel l w (f+1) k:=by
 rw [tel,if_pos h]
theorem ynz {l w:Int} {f k:Nat} (h:¬ yfl l w (k+1)):tel l w f k=k:=by
 cases f with
 | zero=>rfl
 | succ f=>rw [tel,if_neg h]
theorem yc2 {l w:Int}:∀ {f k:Nat},yfl l w k->yfl l w (tel l w f k)
 | 0,_,h=>h
 | f+1,k,h=>by
  unfold tel
  split
  .rename_i q; exact yc2 q
  .exact h
theorem pw5:pw 5=1099511627776:=by decide
theorem ymx {l w:Int} {k:Nat} (hw:w <= 1099511627776) (h:yfl l w k):k <= 5:=by
 have b:=ygy h;rw [<- pw5] at hw;have a:pw k < pw 6:=Int.lt_of_le_of_lt (Int.le_trans b hw) (by decide);have:=yxw a;omega
def tK (x:Sn):Nat:=tel x.1 x.2.1 5 0
def tCn (x:Sn):Int:=blk x.1 (pw (tK x))
def tL (x:Sn):List Int:=wr (sz x - tK x) (tCn x)
theorem yzc {x:Sn} (h:Ok x):yfl x.1 x.2.1 0:=by
 have:=h.w0;show ((x.1+1 - 1) / 1+1) * 1 <= x.1+x.2.1;omega
theorem ŝ {x:Sn} (h:Ok x):yfl x.1 x.2.1 (tK x):=yc2 (yzc h)
theorem yrt {x:Sn} (h:OkS x):tK x <= 5/\tK x <= sz x:=by
 have b:=ymx h.ok.w1 (ŝ h.ok);have a:=h.sz5;omega
theorem yhy (x:Sn):(tL x).length=sz x - tK x:=yvf _ _
theorem ys6 {x:Sn} (h:Ok x):0 <= tCn x:=by
 have:=h.l0;have:=uh (tK x);exact Int.ediv_nonneg (by omega) (by omega)
theorem ywk {x:Sn} (h:OkS x):tCn x < pw (sz x - tK x):=by
 have b:(tCn x+1) * pw (tK x) <= x.1+x.2.1:=ŝ h.ok;have a:=h.top;have e:sz x - tK x+tK x=sz x:=Nat.sub_add_cancel (yrt h).2;rw [<- e,yek] at a;have c:=Int.le_of_mul_le_mul_right (Int.le_trans b a) (uh (tK x));omega
theorem yv1 {x:Sn} (h:OkS x):val (tL x)=tCn x:=ylg _ _ (ys6 h.ok) (ywk h)
end SpanMath
namespace L2
open PySem PySem.Spec PyProof.Rows
def yed (J:It) (te:TE) (D:Addr) (R:Hp->Prop) (H1:Hp):Prop:=∃ W:Nat->Nat->Hp->Prop,(∃ m,W 0 m (upd H1 D (.lst []))) /\
 ∀ i m H2,W i m H2->(J.stop i H2/\R H2)\/(J.go i H2/\∀ x H3,J.yld i H2 x H3->te [some x] H3 fun y H4=>∃ ys,H4 D=some (.lst ys)/\ys.length < sizeLine/\∃ m',m' < m/\W (i+1) m' (upd H4 D (.lst (ys++[y]))))
section
variable {X:Cx} {iter elt:Expr} {x:Str} {px pos:Pos} {scope:Scope} {te:TE} {wi:TI} {pins:List (Addr × Obj)} {σ:St}
theorem yse {α:Type} {t:Sem α} {Q Q':α->Shared->Prop} {M:Model} {A:Around} {E:Value->Shared->Prop} {s:Shared} (h:wpAny M A t Q (fun _ _=>False) s) (hQ:∀ a s,Q a s->Q' a s):wpAny M A t Q' E s:=eS h hQ fun _ _ z=>z.elim
def cW (n:Nat) (Pv:Nat->Hp->Prop) (i m:Nat) (H:Hp):Prop:=m=n - i/\i <= n/\Pv i H
theorem ur {K:W.Frag} {a D:Addr} {xs:List V} {R:Hp->Prop} {H1:Hp} (Pv:Nat->Hp->Prop) (h0:Pv 0 (upd H1 D (.lst []))) (hl:∀ i H,i <= xs.length->Pv i H->SqL K H a xs)
  (hs:∀ i x H,xs[i]?=some x->i < xs.length->Pv i H->te [some x] H fun y H4=>∃ ys,H4 D=some (.lst ys)/\ys.length < sizeLine/\∃ m',m' < xs.length - i/\cW xs.length Pv (i+1) m' (upd H4 D (.lst (ys++[y]))))
  (hd:∀ H,Pv xs.length H->R H):yed (Itl K a) te D R H1:=by
 refine ⟨cW xs.length Pv,⟨xs.length,by simp,dJ _,h0⟩,?_⟩;rintro i m H ⟨rfl,b,p⟩;have q:=hl i H b p;by_cases hlt:i < xs.length
 .refine .inr ⟨⟨xs,xs[i],q,by simp [hlt]⟩,fun x c y=>?_⟩;obtain ⟨e,y⟩:=y;subst e;exact hs i x _ (y xs q) hlt p
 .have e:i=xs.length:=by omega
  subst e;exact .inl ⟨⟨xs,q,dh _⟩,hd H p⟩
theorem xu {n i:Nat} {Pv:Nat->Hp->Prop} {D:Addr} {ys:List V} {y:V} {H4:Hp} (hD:H4 D=some (.lst ys)) (hl:ys.length < sizeLine) (hi:i < n) (p:Pv (i+1) (upd H4 D (.lst (ys++[y])))) :
  ∃ ys,H4 D=some (.lst ys)/\ys.length < sizeLine/\∃ m',m' < n - i/\cW n Pv (i+1) m' (upd H4 D (.lst (ys++[y]))):=⟨ys,hD,hl,n - (i+1),by omega,rfl,hi,p⟩
end
end L2
namespace L2
open PySem
def yn2:Expr->Bool
 | .Starred _ _=>false
 | _=>true
theorem yb {e:Expr} {es:List Expr} {env:Env} (h:yn2 e=true):starEach (e :: es) env=(false,eval e env) :: starEach es env:=by
 cases e <;> first | rfl | cases h
end L2
namespace L2
open PySem PySem.Spec PyProof.Rows
variable {C:Addr} {h':Heap} {pins:List (Addr × Obj)} {P:Program} {scope:Scope} {st:Stmt} {qual:Str} {cd u:Value} {E Q:Value->Shared->Prop}
structure XCls (K:W.Frag) (C:Addr):Prop where
 hd:W.hasDictIn K C=true
 ga:W.findIn K (.ref C) "__getattribute__"=some (some (.builtin "BaseException.__getattribute__"))
 gt:W.findIn K (.ref C) "__getattr__"=some none
 ca:W.findIn K (.ref C) "__class__"=some (some (.builtin "object.__class__"))
 gg:W.specialIn K (.builtin "object.__class__") "__get__"=some (some (.builtin "getset_descriptor.__get__"))
 tk:W.takesIn K (.builtin "object.__class__")=some true
 mo:W.mroIn K C (.type "object")=some true
 mb:W.mroIn K C (.type "BaseException")=some true
section
variable {X:Cx}
theorem yap:∀ {Cs:List Addr} {us:List Value},wt (Cs.map V.ref) us->us=Cs.map Value.ref
 | [],_,.nil=>rfl
 | C :: r,_,.cons a t=>by rw [show _=Value.ref C from a,yap t]; rfl
end
theorem xk.there {w:World} {H:Hp} {h:Heap} {a:Addr} {o:HO} (x:xk P w H h a o):∃ ob,h.get? a=some ob:=by
 cases o with
 | lst xs=>obtain ⟨_,_,_,_,e⟩:=x; exact ⟨_,e⟩
 | tup xs=>obtain ⟨_,_,_,ob,e,_⟩:=x; exact ⟨_,e⟩
 | dK kvs=>obtain ⟨_,_,_,_,ob,_,_,e,_⟩:=x; exact ⟨_,e⟩
 | dT kvs=>obtain ⟨_,_,_,_,ob,_,_,e,_⟩:=x; exact ⟨_,e⟩
 | set S n=>obtain ⟨ob,_,_,_,e,_⟩:=x; exact ⟨_,e⟩
 | ins C dx fs=>obtain ⟨_,_,_,e,_⟩:=x; exact ⟨_,e⟩
 | own y=>exact x
 | xd fs=>obtain ⟨_,⟨_,_,_,e,_⟩,_⟩:=x; exact ⟨_,e⟩
 | rng lo hi=>obtain ⟨_,_,_,e⟩:=x; exact ⟨_,e⟩
 | frz ob u=>obtain ⟨e,_⟩:=x; exact ⟨_,e⟩
 | tbl ps=>exact ⟨_,(show h.get? a=some _ from x)⟩
 | met f y=>exact ⟨_,(show h.get? a=some _ from x)⟩
 | ext φ=>obtain ⟨_,e,_⟩:=x; exact e
theorem HOk.none_of {w:World} {H:Hp} {h:Heap} {a:Addr} (x:HOk P w H h) (e:h.get? a=none):H a=none:=by
 cases q:H a with
 | none=>rfl
 | some u =>
  obtain ⟨b,z⟩:=(x a u q).there;rw [e] at z;cases z
def Fy (X:Cx) (pins:List (Addr × Obj)) (H:Hp) (b:Addr):Prop :=
 H b=none/\b≠X.env.locals/\b∉X.fs/\(b∈X.ex\/X.s₀.heap.get? b=none)/\(∀ y c,X.env.cells.lookup y=some c->c≠b)/\∀ p∈X.pn++pins,p.1≠b
section
variable {X:Cx} {σ:St} {H H':Hp} {s:Shared} {b x T:Addr}
theorem yd8 (I:Inv X pins σ H s) (hb:s.heap.get? b=none) (hn:H' b=none):Fy X pins H' b:=by
 refine ⟨hn,?_,?_,?_,?_,?_⟩
 .rintro rfl;obtain ⟨_,⟨_,_,_,e,_⟩,_⟩:=I.loc;rw [hb] at e; cases e
 .intro z;obtain ⟨_,o,e,_⟩:=I.funs.mem z;rw [hb] at e; cases e
 .by_cases hx:b∈X.ex
  .exact .inl hx
  .refine .inr ?_
   cases q:X.s₀.heap.get? b with
   | none=>rfl
   | some o =>
    obtain ⟨_,e⟩:=I.base.there b o q hx;rw [hb] at e; cases e
 .rintro y c e rfl;obtain ⟨_,_,q,_⟩:=I.cell y c e;rw [hb] at q; cases q
 .intro p a z;have q:=(I.pin p a).1;rw [z,hb] at q; cases q
theorem Inv.fly (I:Inv X pins σ H s) (hx:Fy X pins H x) (hT:Fy X pins H T)
  (keep:∀ b o,b≠x->b≠T->b∉frs X.stack->s.heap.get? b=some o->h'.get? b=some o)
  (slot:∀ b o,b∈frs X.stack->s.heap.get? b=some o->∃ sl,h'.get? b=some { o with slots:=sl }):Inv X pins σ H { s with heap:=h' }:=by
 have f:∀ {y b o},Fy X pins H y->X.s₀.heap.get? b=some o->b∉X.ex->b≠y:=fun {y b o} O e a z=>by
  subst z;rcases O.2.2.2.1 with q | q
  .exact a q
  .rw [e] at q; cases q
 have h:∀ b o,b≠x->b≠T->s.heap.get? b=some o->∃ sl,h'.get? b=some { o with slots:=sl }:=fun b o Q N e=>by
  by_cases z:b∈frs X.stack
  .exact slot b o z e
  .exact ⟨o.slots,keep b o Q N z e⟩
 have g:∀ y c,X.env.cells.lookup y=some c->∀ v,s.heap.IsCell c v->h'.IsCell c v:=fun y c e v ⟨o,B,S⟩=>by
  obtain ⟨sl,q⟩:=h c o (hx.2.2.2.2.1 y c e) (hT.2.2.2.2.1 y c e) B;exact ⟨_,q,S⟩
 refine ⟨I.ok,I.os,I.bare,⟨fun b o e n A a=>?_,fun b o e n A a=>?_,I.base.free,fun b o e a=>?_,I.base.tups,I.base.frzs,I.base.tbls⟩,?_,fun y c e=>?_,I.free,I.freeC,fun p C=>?_,fun b u e=>?_,I.len⟩
 .refine keep b o (f hx e a) (f hT e a) (fun z=>?_) (I.base.keep b o e n A a);rcases dA.mp (I.stkSub b z) with q | q
  .exact absurd q (dH (dQ (du e) I.ok.above))
  .exact A q
 .obtain ⟨sl,t⟩:=I.base.slot b o e n A a;obtain ⟨w,j⟩:=h b _ (f hx e a) (f hT e a) t;exact ⟨w,j⟩
 .obtain ⟨Y,t⟩:=I.base.there b o e a;obtain ⟨w,j⟩:=h b _ (f hx e a) (f hT e a) t;exact ⟨_,j⟩
 .obtain ⟨m,K,W⟩:=I.loc;refine ⟨m,?_,fun i y v t j P=>?_⟩
  .obtain ⟨o,M,R,B,r⟩:=K;obtain ⟨sl,q⟩:=h _ o (Ne.symm hx.2.1) (Ne.symm hT.2.1) B;exact ⟨_,M,R,q,r⟩
  .obtain ⟨u,r,l⟩:=W i y v t j P;refine ⟨u,r,?_⟩;rcases l with l | ⟨k,c,e,z⟩
   .exact .inl l
   .exact .inr ⟨k,c,e,g y c e _ z⟩
 .obtain ⟨v,z⟩:=I.cell y c e;exact ⟨v,g y c e v z⟩
 .obtain ⟨e,n,F,E,d⟩:=I.pin p C;refine ⟨keep p.1 p.2 (hx.2.2.2.2.2 p C) (hT.2.2.2.2.2 p C) (fun z=>?_) e,n,F,E,d⟩;rcases dA.mp (I.stkSub _ z) with q | q
  .exact F q
  .exact E q
 .have G:∀ c v,H c=some v->c≠x/\c≠T/\c∉frs X.stack:=fun c v q =>
   ⟨fun z=>(by rw [z,hx.1] at q; cases q),fun z=>(by rw [z,hT.1] at q; cases q),fun z=>(by rw [I.stkFree c z] at q; cases q)⟩
  refine (I.hok b u e).stay (fun c v D q=>?_) (fun _ q=>q) fun _ _ q=>q
  obtain ⟨U,J,L⟩:c≠x/\c≠T/\c∉frs X.stack:=by
   rcases D with rfl | D
   .exact G _ _ e
   .exact G _ _ D
  exact keep c v U J L q
def Trd (h:Heap) (x T:Addr) (C fl:Value):Prop :=
 ∃ oe vs oT ts a0,h.get? x=some oe/\(oe.cls=C/\vs[0]?=some a0)/\oe.data=.fields vs/\vs[1]?=some (.ref T)/\T≠x/\h.get? T=some oT/\oT.data=.fields ts/\ts[3]?=some fl
def hid (s:Shared) (X:Cx) (x T:Addr):Heap:=W.hideAll s.heap (x :: T :: frs X.stack)
theorem yk9:(hid s X x T).StaysIn s.heap:=fun _ _ e=>W.of_hideAll _ e
theorem yxb:(hid s X x T).get? x=none:=W.hideAll_none _ (.head _)
theorem yzi:(hid s X x T).get? T=none:=W.hideAll_none _ (.tail _ (.head _))
theorem ylw (I:Inv X pins σ H s):s.heap.FunFrames (hid s X x T) X.stack :=
 W.funFrames_hide I.stack fun b c a d=>.tail _ (.tail _ (List.mem_filterMap.mpr ⟨b,c,d⟩))
theorem yuo {C fl:Value} (t:Trd s.heap x T C fl):∃ a0,s.heap.TracedAtW (hid s X x T) x C a0 fl:=by
 obtain ⟨b,c,d,h,a0,l,g,j,k,a,f,e,i⟩:=t;exact ⟨a0,b,c,T,d,h,l,g,j,k,yzi,a,f,e,i⟩
theorem ź {C a0 fl:Value} (I:Inv X pins σ H s) (hx:Fy X pins H x) (hT:Fy X pins H T) (k1:(hid s X x T).StaysIn h') (k2:h'.FunFrames (hid s X x T) X.stack) (k3:h'.TracedAtW (hid s X x T) x C a0 fl)
  (k4:∀ b o,s.heap.get? b=some o->(∀ vs,o.data≠.fields vs)->∃ sl,h'.get? b=some { o with slots:=sl }) :
  Inv X pins σ H { s with heap:=h' }/\∃ T',Fy X pins H T'/\Trd h' x T' C fl:=by
 refine ⟨I.fly hx hT (fun b o v w p e=>k1 b o (W.hideAll_get _ e fun z=>?_)) fun b o A e=>?_,?_⟩
 .rcases dA.mp z with z | z
  .exact v z
  .rcases dA.mp z with z | z
   .exact w z
   .exact p z
 .obtain ⟨_,h,a,c⟩:=I.stack.mem A;rw [e] at a; cases a;exact k4 b o e c
 .obtain ⟨i,vs,T',j,l,t,k,n,r,u,g,f,d,y⟩:=k3;refine ⟨T',?_,i,vs,j,l,a0,t,k,n,r,g,f,d,y⟩;by_cases q:T'=T
  .rw [q]; exact hT
  .cases e:s.heap.get? T' with
   | none=>exact yd8 I e (I.hok.none_of e)
   | some o =>
    have z:T'∈frs X.stack:=Classical.byContradiction fun z=>by
     have:=W.hideAll_get (x :: T :: frs X.stack) e (fun m=>by
      rcases dA.mp m with m | m
      .exact g m
      .rcases dA.mp m with m | m
       .exact q m
       .exact z m)
     rw [show (W.hideAll s.heap (x :: T :: frs X.stack)).get? T'=none from u] at this;cases this
    obtain ⟨_,h,a,c⟩:=k2.mem z;rw [f] at a; cases a;exact absurd d (c _)
end
def CXe (P:Program) (w:World):CXT:=fun outer H s E e s'=>∃ x T C H',e=.ref x/\s'.os=s.os/\AllBare s'.gens/\Un (frs outer) [] H H' s.heap s'.heap/\HOk P w H' s'.heap /\
 (H' x=none/\s.heap.get? x=none)/\(H' T=none/\s.heap.get? T=none)/\Trd s'.heap x T C .none/\E C none H'
def ya8 (X:Cx) (Ex:St->XK):Prop:=∀ (pins:List (Addr × Obj)) (σ:St) (H:Hp) (s':Shared) (x T:Addr) (C:Value),Inv X pins σ H s'->Fy X pins H x->Fy X pins H T->Trd s'.heap x T C .none->Ex σ C none H->X.xe (.ref x) s'
theorem yz {w:World} {K:W.Frag} {mg:Str->Option Value} {base:Heap} {N:List Str} {f:Addr} {A:Around} {outer:List Env} {s:Shared} {H:Hp} {E:XK} :
  ya8 (wa (CXe P w) P w K mg base N qual scope f cd A outer s H E) (fun _=>E):=by
 intro a σ g o x T C I h m u q;show wpAny _ _ (leaving _ _) _ _ _;obtain ⟨v,p⟩:=yuo (X:=wa (CXe P w) P w K mg base N qual scope f cd A outer s H E) u;refine wpAny_leaving_nextW (base:=hid o (wa (CXe P w) P w K mg base N qual scope f cd A outer s H E) x T) (L:=s.heap.objs.size) I.ok.frames (ylw I) rfl p yk9 yxb fun y ⟨r,l,j,t⟩=>?_;obtain ⟨d,k,e,n⟩:=ź I h m r l j t;have c:∀ {b},Fy (wa (CXe P w) P w K mg base N qual scope f cd A outer s H E) a g b->g b=none/\s.heap.get? b=none:=fun i=>⟨i.1,i.2.2.2.1.resolve_left (by intro z; cases z)⟩;exact ⟨x,k,C,g,rfl,d.os,d.bare,d.base,d.hok,c h,c e,n,q⟩
theorem yjw {w:World} {K:W.Frag} {mg:Str->Option Value} {base:Heap} {N:List Str} {f:Addr} {A:Around} {outer:List Env} {s:Shared} {H:Hp} {E:XK}
  {pins:List (Addr × Obj)} {σ:St} {H1:Hp} {s1:Shared} {h':Heap} {x:Addr} {C:Value} {vs:List Value} (I:Inv (wa (CXe P w) P w K mg base N qual scope f cd A outer s H E) pins σ H1 s1) (m:Heap.MadeExcOf s1.heap h' x C vs) (q:E C none H1) :
  (wa (CXe P w) P w K mg base N qual scope f cd A outer s H E).xe (.ref x) { s1 with heap:=h' }:=by
 obtain ⟨t,k,_,_⟩:=m.there;have e:Fy (wa (CXe P w) P w K mg base N qual scope f cd A outer s H E) pins H1 x:=yd8 I m.new (I.hok.none_of m.new);have g:Inv (wa (CXe P w) P w K mg base N qual scope f cd A outer s H E) pins σ H1 { s1 with heap:=h' }:=I.kept (t':=s1.toks) m.keeps;show wpAny _ _ (leaving _ _) _ _ _
 refine wpAny_leaving_firstW (base:=hid { s1 with heap:=h' } (wa (CXe P w) P w K mg base N qual scope f cd A outer s H E) x x) (L:=s.heap.objs.size) (a0:=.ref t) g.ok.frames (ylw g) rfl k yk9 yxb rfl rfl rfl fun j ⟨n,p,i,o⟩=>?_
 obtain ⟨c,l,d,t'⟩:=ź g e e n p i o;have a:∀ {b},Fy (wa (CXe P w) P w K mg base N qual scope f cd A outer s H E) pins H1 b->H1 b=none/\s.heap.get? b=none:=fun h=>⟨h.1,h.2.2.2.1.resolve_left (by intro z; cases z)⟩;exact ⟨x,l,C,H1,rfl,c.os,c.bare,c.base,c.hok,a e,a d,t',q⟩
def yma (sp:Sp) (dvs:List V) (Ex:St->XK) (t:TA):TE:=fun σ H Q=>t σ H fun vs H1=>sp (vs++dvs) H1 Q (Ex σ)
def yaw (C:Addr) (m:Str) (sp:Sp) (dvs:List V) (Ex:St->XK) (ta:TE) (t:TA):TE:=fun σ H Q=>ta σ H fun x H1=>∃ a dx fs,x=.ref a/\H1 a=some (.ins C dx fs)/\fs.lookup m=none /\
 t σ H1 fun vs H2=>sp (x :: (vs++dvs)) H2 Q (Ex σ)
def ymb (C:Addr) (sp:Sp) (dvs:List V) (Ex:St->XK) (t:TA):TE:=fun σ H Q=>t σ H fun vs H1=>∀ x dx,H1 x=none->H1 dx=none->dx≠x ->
 sp (.ref x :: (vs++dvs)) (upd (upd H1 dx (.own x)) x (.ins C dx [])) (fun v H2=>v=.non/\Q (.ref x) H2) (Ex σ)
section
variable {X:Cx} {k:Nat} {f:Addr} {fd:FuncData} {ps:List Str} {sp:Sp} {dvs:List V} {ds:List Value} {Ex:St->XK} {x m:Str} {p pos apos:Pos} {e o:Expr} {es:List Expr} {ta:TE} {t:TA}
theorem Inv.came {σ:St} {H:Hp} {s s':Shared} {v:Value} (I:Inv X pins σ H s) (hc:ya8 X Ex) (h:CXe X.prog X.w X.stack H s (Ex σ) v s'):X.xe v s':=by
 obtain ⟨y,T,D,f,rfl,g,a,j,c,e,d,i,q⟩:=h;exact hc pins σ f s' y T D (I.call' g j c a fun b z=>absurd z (by simp)) (yd8 I e.2 e.1) (yd8 I d.2 d.1) i q
theorem ygw {σ:St} {H:Hp} {s:Shared} {Q:VK} {us:List Value} {vs:List V} (F:wc X.prog X.w X.K X.mg X.base (CXe X.prog X.w) k f fd ps sp) (hr:z7 k X.A) (hb:ud X.K fd ps ds) (hd:wt dvs ds) (hc:ya8 X Ex)
  (I:Inv X pins σ H s) (r:wt vs us) (h:sp (vs++dvs) H Q (Ex σ)):wpAny (model X.prog X.w) X.A (call (.ref f) us) (EP X pins σ Q) X.xe s:=by
 have b:wt (vs++dvs) (us++ds):=r.append hd;have c:(us++ds).length=ps.length:=by rw [<- b.length]; exact F.len _ _ _ _ h
 refine wpAny_call (codeAny_mono (F.run X.A X.stack s H ⟨us,[]⟩ (us++ds) (vs++dvs) Q (Ex σ) hr I.env0 (hb s us I.kIn c) b h) fun r d a=>?_)
 cases r with
 | error e=>exact I.came hc a
 | ok fl =>
  cases fl with
  | ret u=>exact I.after a
  | next=>exact False.elim a
  | brk=>exact False.elim a
  | cont=>exact False.elim a
theorem vj (F:wc X.prog X.w X.K X.mg X.base (CXe X.prog X.w) k f fd ps sp) (hr:z7 k X.A) (hg:Gl X x) (hm:X.mg x=some (.ref f)) (hk:W.keepIn X.K (.ref f)=true) (hb:ud X.K fd ps ds) (hd:wt dvs ds) (hc:ya8 X Ex)
  (ha:PA X (e :: es) t) (hdb:(x == ("__debug__":Str))=false:=by decide) (he:starEach (e :: es) X.env=(false,eval e X.env) :: starEach es X.env:=by rfl) (hpl:(backTo pos (starEach es X.env)).any (·.1)=false:=by rfl) :
  PE X (.Call (.Name x p) (e :: es) [] pos) (yma sp dvs Ex t):=by
 refine .mk fun a s σ H Q I h=>?_;refine wpAny_Call_Name_kw (jp I hg hm ?_ hdb);refine W.callWith_K (h₀:=X.base) I.ok.mod.kin hk (thn (ha pos a s σ H _ I h) fun g c ⟨d,i,b,r,q⟩=>⟨b.kIn,?_⟩) he hpl;exact ygw F hr hb hd hc b r q
theorem vn {pl:Sem Bool} (he:PE X o ta) (c:Cls X.K C) (hm:yr7 X.K C m f) (F:wc X.prog X.w X.K X.mg X.base (CXe X.prog X.w) k f fd ps sp) (hr:z7 k X.A) (hb:ud X.K fd ps ds) (hd:wt dvs ds) (hc:ya8 X Ex) (ha:PA X (e :: es) t)
  (hst:starEach (e :: es) X.env=(false,eval e X.env) :: starEach es X.env:=by rfl) (hpl:(backTo pos (starEach es X.env)).any (·.1)=false:=by rfl)
  (ht:eval (.Call (.Attribute o m apos) (e :: es) [] pos) X.env=(do
   let ov <- eval o X.env
   standAt apos.atName
   let (f,first) <- holding [ov] (getMethod ov m pl)
   callWith pos f first (backTo pos (starEach (e :: es) X.env)) (backToKw pos (keywordEach [] X.env))):=by rfl) :
  PE X (.Call (.Attribute o m apos) (e :: es) [] pos) (yaw C m sp dvs Ex ta t):=by
 refine .mk fun b s σ H Q I h=>?_;refine W.methodCall_KW (pl:=pl) (thn (he b s σ H _ I h) fun u i h'=>?_) ht;obtain ⟨x,y,g,p,a,E,z,n,j,l,q⟩:=h';subst n;obtain rfl:u=Value.ref a:=p;refine υ g j c hm l ?_
 refine W.callWith_K (first:=[.ref a]) (h₀:=X.base) I.ok.mod.kin hm.kp (thn (ha pos b i σ y _ g q) fun us D ⟨vs,B,d,r,v⟩=>⟨d.kIn,?_⟩) hst hpl
 exact ygw (us:=.ref a :: us) (vs:=.ref a :: vs) F hr hb hd hc d (.cons rfl r) v
theorem ygi {σ:St} {H:Hp} {s:Shared} {Q:VK} {us:List Value} {vs:List V} (M:Mk X.K C f) (F:wc X.prog X.w X.K X.mg X.base (CXe X.prog X.w) k f fd ps sp) (hr:z7 (k+1) X.A) (hb:ud X.K fd ps ds) (hd:wt dvs ds)
  (hc:ya8 X Ex) (I:Inv X pins σ H s) (r:wt vs us)
  (h:∀ x dx,H x=none->H dx=none->dx≠x->sp (.ref x :: (vs++dvs)) (upd (upd H dx (.own x)) x (.ins C dx [])) (fun v H2=>v=.non/\Q (.ref x) H2) (Ex σ)) :
  wpAny (model X.prog X.w) X.A (call (.ref C) us) (EP X pins σ Q) X.xe s:=by
 have c:=h (s.heap.objs.size+1) s.heap.objs.size (I.hok.fresh (Nat.le_succ _)) (I.hok.fresh (dh _)) (dH (eY _));have b:=Inv.made (C:=C) I;have d:wt (V.ref (s.heap.objs.size+1) :: (vs++dvs)) (Value.ref (s.heap.objs.size+1) :: (us++ds)):=.cons rfl (r.append hd)
 have n:(Value.ref (s.heap.objs.size+1) :: us++ds).length=ps.length:=by
  have e:=d.length;rw [F.len _ _ _ _ c] at e;exact e.symm
 refine wpAny_call (ydn (f:=f) I.kIn M.makes M.init (beq_iff_eq.mp M.fn) (codeAny_mono (F.run _ X.stack _ _ ⟨Value.ref (s.heap.objs.size+1) :: us,[]⟩ (Value.ref (s.heap.objs.size+1) :: (us++ds)) _ _ (Ex σ) (hr.make C us [])
  (b.env0.make C us []) (hb _ (Value.ref (s.heap.objs.size+1) :: us) b.kIn n) d c) fun r o a=>?_))
 cases r with
 | error e=>exact b.came hc a
 | ok fl =>
  cases fl with
  | ret u =>
   obtain ⟨v,l,i,j,g,m⟩:=b.after a;subst g;exact ⟨j,⟨V.ref (s.heap.objs.size+1),l,i,rfl,m⟩⟩
  | next=>exact False.elim a
  | brk=>exact False.elim a
  | cont=>exact False.elim a
theorem x6 (M:Mk X.K C f) (F:wc X.prog X.w X.K X.mg X.base (CXe X.prog X.w) k f fd ps sp) (hr:z7 (k+1) X.A) (hg:Gl X x) (hm:X.mg x=some (.ref C)) (hb:ud X.K fd ps ds) (hd:wt dvs ds) (hc:ya8 X Ex)
  (ha:PA X (e :: es) t) (hdb:(x == ("__debug__":Str))=false:=by decide) (he:starEach (e :: es) X.env=(false,eval e X.env) :: starEach es X.env:=by rfl) (hpl:(backTo pos (starEach es X.env)).any (·.1)=false:=by rfl) :
  PE X (.Call (.Name x p) (e :: es) [] pos) (ymb C sp dvs Ex t):=by
 refine .mk fun a s σ H Q I h=>?_;refine wpAny_Call_Name_kw (jp I hg hm ?_ hdb);refine W.callWith_K (h₀:=X.base) I.ok.mod.kin M.kp (thn (ha pos a s σ H _ I h) fun g c ⟨d,i,b,r,q⟩=>⟨b.kIn,?_⟩) he hpl;exact ygi M F hr hb hd hc b r q
end
theorem PS.nox {X:Cx} {t:TS} (h:PS X.nox st t):PS X st t:=.mk fun a s σ H D I b =>
 eS (h a s σ H D (I.wish _) b) (fun _ _ q=>q.unwish) fun _ _ z=>False.elim z
section
variable {w:World} {K:W.Frag} {mg:Str->Option Value} {base:Heap}
theorem vt {X:Cx}:ya8 X (fun _ _ _ _=>False):=fun _ _ _ _ _ _ _ _ _ _ _ q=>q.elim
theorem Fun.okE {x:Str} {f:Addr} {fd:FuncData} {N ps:List Str} {k:Nat} {sp:Sp} (F:Fun K x qual st f fd) (S:yk N ps (yg st)) (len:∀ vs H Q E,sp vs H Q E->vs.length=ps.length)
  (hbody:∀ (cdv:Value) (A:Around) (outer:List Env) (s:Shared) (H:Hp) (vs:List V) (Q:VK) (E:XK),z7 k (A.deeper (envOfC qual (yg st) s.heap.objs.size f cdv))->sp vs H Q E ->
   ∃ t,PSs (wa (CXe P w) P w K mg base N qual (yg st) f cdv A outer s H E) (ww st) t/\t { nx:=fun _ H'=>Q .non H',rt:=Q } (Æ N vs) H):wc P w K mg base (CXe P w) (k+1) f fd ps sp:=by
 obtain ⟨l,i,kV,e,m,h,cdv,j,g,rfl,c,a⟩:=F.ex;exact ykk c a S len fun A outer s H vs Q E d b=>hbody cdv A outer s H vs Q E d b
end
abbrev bmV:List Value:=[.type "ValueError",.type "Exception",.type "BaseException",.type "object"]
abbrev XMk (K:W.Frag) (C:Addr):Prop:=W.excIn K C bmV "ValueError.__new__"=true
theorem ypa {K:W.Frag} {h:Heap} {bmB:List Value} {newId:String} (X:K.In h) (q:W.excIn K C bmB newId=true) :
  ∃ bm N nm qn bs hdct sn sub ab col dd k0 k1 k2 k3 k5 mN,h.get? C=some (excClassObj nm qn C N bs bm hdct sn sub ab col dd k0 k1 k2 k3 k5 newId)/\h.Ns N mN/\mN "__init__"=none/\OwnTail h bmB bm:=by
 unfold W.excIn at q
 split at q
 .rename_i dd cd sl ho
  split at q
  .rename_i C' bm k0 k1 k2 k3 n k5 hm d
   simp only [dU,beq_iff_eq,Bool.not_eq_true'] at q;obtain ⟨⟨⟨⟨⟨rfl,rfl⟩,a⟩,g⟩,b⟩,c⟩:=q;obtain ⟨nm,bs,j,i,qn,e,sn,sub,ab,col,f⟩:=cd;dsimp only at hm a b c;subst hm a;obtain ⟨l⟩:=sl;have d:l=[k0,k1,k2,k3,some (.builtin n),k5]:=d;subst d;exact ⟨bm,i,nm,qn,bs,e,sn,sub,ab,col,dd,k0,k1,k2,k3,k5,_,X _ _ ho,.of_isNs (W.isNs_of_in X b),W.nsMap_none_of_in X b c,W.tail_of_in X g⟩
  .cases q
 .cases q
def yly (E:XK) (C:Addr) (t:TA):TS:=fun _ σ H=>t σ H fun vs H1=>vs.length <= sizeLine/\E (.ref C) none H1
theorem xb {w:World} {K:W.Frag} {mg:Str->Option Value} {base:Heap} {N:List Str} {f:Addr} {A:Around} {outer:List Env} {s:Shared} {H:Hp} {E:XK}
  {C:Addr} {x:Str} {np cpos pos:Pos} {e₀:Expr} {Ü:List Expr} {t:TA} (hg:Gl (wa (CXe P w) P w K mg base N qual scope f cd A outer s H E) x) (hm:mg x=some (.ref C)) (hC:XMk K C)
  (ha:PA (wa (CXe P w) P w K mg base N qual scope f cd A outer s H E) (e₀ :: Ü) t)
  (he:starEach (e₀ :: Ü) (envOfC qual scope s.heap.objs.size f cd)=(false,eval e₀ (envOfC qual scope s.heap.objs.size f cd)) :: starEach Ü (envOfC qual scope s.heap.objs.size f cd):=by rfl)
  (hplain:(backTo cpos (starEach Ü (envOfC qual scope s.heap.objs.size f cd))).any (·.1)=false:=by rfl) (hdb:(x == ("__debug__":Str))=false:=by decide) :
  PS (wa (CXe P w) P w K mg base N qual scope f cd A outer s H E) (.Raise (some (.Call (.Name x np) (e₀ :: Ü) [] cpos)) none pos) (yly E C t):=by
 refine .mk fun a j σ l D I h=>?_;obtain ⟨p,n,nm,q,bs,hdct,sn,sub,ab,col,dd,k0,k1,k2,k3,k5,mN,c,k,g,T⟩:=ypa I.mod.kin hC;refine wpAny_Raise_call_subT (C:=C) (nm:=nm) (q:=q) (N:=n) (bs:=bs) (bm:=p) (hdct:=hdct) (sn:=sn) (sub:=sub) (ab:=ab) (col:=col) (dd:=dd) (k0:=k0) (k1:=k1) (k2:=k2) (k3:=k3) (k5:=k5)
  F.excBase_ValueError (mN:=mN) (T.hasType F.excBase_ValueError.hasBase) (I.ok.hd rfl) (by
   show (backTo cpos (starEach (e₀ :: Ü) (envOfC qual scope s.heap.objs.size f cd))).any (·.1)=false;rw [he]; show (false || (backTo cpos (starEach Ü (envOfC qual scope s.heap.objs.size f cd))).any (·.1))=false; rw [hplain]; rfl) g (jp I hg hm ⟨rfl,?_⟩ hdb)
 have i:=ha cpos a j σ l _ I h;have d:starEach (e₀ :: Ü) (wa (CXe P w) P w K mg base N qual scope f cd A outer s H E).env=(false,eval e₀ (wa (CXe P w) P w K mg base N qual scope f cd A outer s H E).env) :: starEach Ü (wa (CXe P w) P w K mg base N qual scope f cd A outer s H E).env:=he;rw [d] at i ⊢;refine Calls.evalArgs_plain (eS i (by rintro z s₂ ⟨G,v,b,r,o,u⟩; exact ⟨rfl,by rw [<- r.length]; exact o,b.bk _ _ c,k.keeps b.bk,T.keeps b.bk,fun B y m=>yjw b m u⟩) fun _ _ y=>y)
section
variable {X:Cx} {σ:St} {H:Hp} {s:Shared} {x T:Addr}
abbrev Cx.pnd (X:Cx) (pn:List (Addr × Obj)):Cx:={ X with pn:=pn }
def XT (Y:Cx) (Ex:St->XK) (e:Value) (s':Shared):Prop:=∃ pins σ H x T C,e=.ref x/\Inv Y pins σ H s'/\Fy Y pins H x/\Fy Y pins H T/\Trd s'.heap x T C .none/\Ex σ C none H
abbrev Cx.tr (X:Cx) (pn:List (Addr × Obj)) (Ex:St->XK):Cx:=(X.pnd pn).wish (XT (X.pnd pn) Ex)
end
variable {X:Cx}
def ť.un (D:ť) (i:Nat):ť:=⟨fun σ H=>D.nx (σ.set i none) H,D.rt,fun σ H=>D.bk (σ.set i none) H,fun σ H=>D.ct (σ.set i none) H⟩
section
variable {σ:St} {H:Hp} {Q:VK} {tr:TA} {ta:TE} {nx:St->Hp->Prop} {rt:VK} {bk ct:St->Hp->Prop} {ts:TS}
theorem ynm {sp:Sp} {dvs:List V} {Ex:St->XK} (h:tr σ H fun vs H1=>sp (vs++dvs) H1 Q (Ex σ)):yma sp dvs Ex tr σ H Q:=h
theorem ş {m:Str} {sp:Sp} {dvs:List V} {Ex:St->XK} (h:ta σ H fun x H1=>∃ a dx fs,x=.ref a/\H1 a=some (.ins C dx fs)/\fs.lookup m=none/\tr σ H1 fun vs H2=>sp (x :: (vs++dvs)) H2 Q (Ex σ)):yaw C m sp dvs Ex ta tr σ H Q:=h
theorem ypc {sp:Sp} {dvs:List V} {Ex:St->XK} (h:tr σ H fun vs H1=>∀ x dx,H1 x=none->H1 dx=none->dx≠x->sp (.ref x :: (vs++dvs)) (upd (upd H1 dx (.own x)) x (.ins C dx [])) (fun v H2=>v=.non/\Q (.ref x) H2) (Ex σ)):ymb C sp dvs Ex tr σ H Q:=h
theorem yow {E:XK} {D:ť} (h:tr σ H fun vs H1=>vs.length <= sizeLine/\E (.ref C) none H1):yly E C tr D σ H:=h
end
section
variable {κ:Type} [DecidableEq κ]
def uw (kvs:List (κ × V)) (k:κ):Option V:=(kvs.find? fun kv=>decide (kv.1=k)).map (·.2)
def Ý (kvs:List (κ × V)) (k:κ) (v:V):List (κ × V) :=
 if (kvs.any fun kv=>decide (kv.1=k))=true then kvs.map (fun kv=>if kv.1=k then (kv.1,v) else kv) else kvs++[(k,v)]
def Ñ (kvs:List (κ × V)) (k:κ):List (κ × V):=kvs.filter fun kv=>decide (kv.1≠k)
theorem xy {p:κ × V} {r:List (κ × V)} {k:κ} (e:p.1=k):uw (p :: r) k=some p.2:=by simp [uw,List.find?_cons,e]
theorem xz {p:κ × V} {r:List (κ × V)} {k:κ} (e:¬ p.1=k):uw (p :: r) k=uw r k:=by simp [uw,List.find?_cons,e]
theorem z0 (k:κ):∀ kvs:List (κ × V),(kvs.any fun kv=>decide (kv.1=k))=(uw kvs k).isSome
 | []=>rfl
 | p :: r=>by
  rw [List.any_cons];by_cases e:p.1=k
  .simp only [xy e,dw e,Bool.true_or,Option.isSome_some]
  .rw [xz e,dG e,Bool.false_or]; exact z0 k r
theorem yds (k j:κ) (y:V):∀ kvs:List (κ × V),uw (kvs.map fun kv=>if kv.1=k then (kv.1,y) else kv) j=(uw kvs j).map fun x=>if j=k then y else x
 | []=>rfl
 | p :: r=>by
  have a:=yds k j y r;rw [d6];by_cases h:p.1=k
  .rw [if_pos h];by_cases e:p.1=j
   .rw [xy (p:=(p.1,y)) e,xy e,eF,if_pos (e.symm.trans h)]
   .rw [xz (p:=(p.1,y)) e,xz e,a]
  .rw [if_neg h];by_cases e:p.1=j
   .rw [xy (p:=p) e,xy e,eF,if_neg (fun z=>h (e.trans z))]
   .rw [xz (p:=p) e,xz e,a]
theorem yae (k j:κ) (y:V):∀ kvs:List (κ × V),uw kvs k=none->uw (kvs++[(k,y)]) j=if j=k then some y else uw kvs j
 | [],_=>by
  by_cases e:k=j
  .rw [if_pos e.symm]; exact xy (p:=(k,y)) e
  .rw [if_neg (fun z=>e z.symm)]; exact xz (p:=(k,y)) e
 | p :: r,hn=>by
  rw [List.cons_append];have a:¬ p.1=k:=fun z=>by rw [xy z] at hn; cases hn
  rw [xz a] at hn;have b:=yae k j y r hn;by_cases e:p.1=j
  .rw [xy e,xy e,if_neg (fun z=>a (e.trans z))]
  .rw [xz e,xz e,b]
theorem ő (kvs:List (κ × V)) (k j:κ) (y:V):uw (Ý kvs k y) j=if j=k then some y else uw kvs j:=by
 unfold Ý;by_cases a:(kvs.any fun c=>decide (c.1=k))=true
 .rw [if_pos a,yds];rw [z0] at a;by_cases e:j=k
  .obtain ⟨x,b⟩:=Option.isSome_iff_exists.mp a;rw [if_pos e,e,b,eF,if_pos rfl]
  .rw [if_neg e]
   cases uw kvs j with
   | none=>rfl
   | some x=>rw [eF,if_neg e]
 .rw [if_neg a];refine yae k j y kvs ?_;rw [z0] at a
  cases q:uw kvs k with
  | none=>rfl
  | some x=>rw [q] at a; exact (a rfl).elim
theorem jm (kvs:List (κ × V)) (k:κ) (v:V):(Ý kvs k v).length <= kvs.length+1:=by
 unfold Ý
 split
 .rw [cH]; omega
 .rw [dv,dW,List.length_nil]; omega
theorem Û {kvs:List (κ × V)} {k:κ} (v:V) (h:uw kvs k=none):Ý kvs k v=kvs++[(k,v)]:=by
 unfold Ý;rw [z0,h];exact if_neg (by decide)
theorem yba.isSome_eq {o:Option V} {u:Option Value} (r:yba o u):o.isSome=u.isSome:=by
 cases o with
 | none=>cases u with
  | none=>rfl
  | some _=>exact (show False from r).elim
 | some _=>cases u with
  | none=>exact (show False from r).elim
  | some _=>rfl
theorem KV.val {kvs:List (κ × V)} {vs:List (κ × Value)} (r:KV kvs vs) (k:κ):yba (uw kvs k) (valueAt vs k):=by
 unfold KV at r
 induction r with
 | nil=>exact True.intro
 | @cons p q ps qs h t ih =>
  obtain ⟨c,d⟩:=h;by_cases e:p.1=k
  .have a:q.1=k:=c.symm.trans e;have b:valueAt (q :: qs) k=some q.2:=by simp [valueAt,List.find?_cons,a]
   rw [xy e,b]; exact d
  .have a:¬ q.1=k:=fun z=>e (c.trans z);have b:valueAt (q :: qs) k=valueAt qs k:=by simp [valueAt,List.find?_cons,a]
   rw [xz e,b]; exact ih
theorem KV.any {kvs:List (κ × V)} {vs:List (κ × Value)} (r:KV kvs vs) (k:κ):(kvs.any fun kv=>decide (kv.1=k))=vs.any fun kv=>decide (kv.1=k):=by
 unfold KV at r
 induction r with
 | nil=>rfl
 | cons h t ih=>rw [List.any_cons,List.any_cons,ih,h.1]
theorem KV.repl {kvs:List (κ × V)} {vs:List (κ × Value)} (r:KV kvs vs) (k:κ) {y:V} (ry:xl y u) :
  KV (kvs.map fun kv=>if kv.1=k then (kv.1,y) else kv) (vs.map fun kv=>if kv.1=k then (kv.1,u) else kv):=by
 unfold KV at r ⊢
 induction r with
 | nil=>exact .nil
 | @cons p q ps qs h t ih =>
  rw [d6,d6];refine .cons ?_ ih;obtain ⟨a,b⟩:=h;by_cases e:p.1=k
  .rw [if_pos e,if_pos (a.symm.trans e)]; exact ⟨a,ry⟩
  .rw [if_neg e,if_neg (fun z=>e (a.trans z))]; exact ⟨a,b⟩
theorem KV.put {kvs:List (κ × V)} {vs:List (κ × Value)} (r:KV kvs vs) (k:κ) {y:V} (ry:xl y u):KV (Ý kvs k y) (stored vs k u):=by
 unfold Ý stored;rw [r.any k];by_cases e:(vs.any fun a=>decide (a.1=k))=true
 .rw [if_pos e,if_pos e]; exact r.repl k ry
 .rw [if_neg e,if_neg e]; exact Paired.snoc r ⟨rfl,ry⟩
theorem KV.drop {kvs:List (κ × V)} {vs:List (κ × Value)} (r:KV kvs vs) (k:κ):KV (Ñ kvs k) (without vs k):=by
 unfold KV at r ⊢;unfold Ñ without
 induction r with
 | nil=>exact .nil
 | @cons p q ps qs h t ih =>
  obtain ⟨c,d⟩:=h;rw [List.filter_cons,List.filter_cons];by_cases e:p.1=k
  .have a:¬ decide (p.1≠k)=true:=by simp [e]
   have b:¬ decide (q.1≠k)=true:=by simp [c.symm.trans e]
   rw [if_neg a,if_neg b]; exact ih
  .have f:¬ q.1=k:=fun z=>e (c.trans z);have a:decide (p.1≠k)=true:=by simp [e]
   have b:decide (q.1≠k)=true:=by simp [f]
   rw [if_pos a,if_pos b]; exact .cons ⟨c,d⟩ ih
theorem KV.length {kvs:List (κ × V)} {vs:List (κ × Value)} (r:KV kvs vs):kvs.length=vs.length:=Paired.length r
theorem yji (kvs:List (κ × V)) (k:κ):(Ñ kvs k).length <= kvs.length:=List.length_filter_le _ _
end
theorem yci {w:World} {k:Key} (r:xl (kV k) u):(we P w).is k u=true:=by
 cases k with
 | inl i=>obtain ⟨t,e⟩:=(show ∃ t,u=Value.int i t from r); subst e; exact ybw P w i t
 | inr x=>obtain ⟨t,e⟩:=(show ∃ t,u=Value.str x t from r); subst e; exact ybh P w x t
theorem yaq {w:World}:∀ {ks:List Key} {us:List Value},wt (ks.map kV) us->ItemsAre (we P w) ks us
 | [],_,r=>by rw [List.map_nil] at r; cases r; exact .nil
 | k :: ks,_,r=>by
  rw [d6] at r
  cases r with
  | cons h t=>exact .cons (yci h) (yaq t)
abbrev KT (H:Hp):List (List Key × V)->List (List Key × Addr × Value)->Prop:=Paired fun p q=>p.1=q.1/\H q.2.1=some (.tup (p.1.map kV))/\xl p.2 q.2.2
theorem KT.val {H:Hp} {kvs:List (List Key × V)} {xs:List (List Key × Addr × Value)} (r:KT H kvs xs) (k:List Key):yba (uw kvs k) ((atKey xs k).map (·.2)):=by
 induction r with
 | nil=>exact True.intro
 | @cons p q ps qs h t ih =>
  obtain ⟨c,_,d⟩:=h;by_cases e:p.1=k
  .have a:q.1=k:=c.symm.trans e;have b:atKey (q :: qs) k=some q.2:=by simp [atKey,List.find?_cons,a]
   rw [xy e,b]; exact d
  .have a:¬ q.1=k:=fun z=>e (c.trans z);have b:atKey (q :: qs) k=atKey qs k:=by simp [atKey,List.find?_cons,a]
   rw [xz e,b]; exact ih
theorem KT.repl {H:Hp} {kvs:List (List Key × V)} {xs:List (List Key × Addr × Value)} (r:KT H kvs xs) (k:List Key) {y:V} (ry:xl y u) :
  KT H (kvs.map fun kv=>if kv.1=k then (kv.1,y) else kv) (xs.map (putAt k u)):=by
 induction r with
 | nil=>exact .nil
 | @cons p q ps qs h t ih =>
  rw [d6,d6];refine .cons ?_ ih;obtain ⟨a,b,c⟩:=h;unfold putAt;by_cases e:p.1=k
  .rw [if_pos e,if_pos (a.symm.trans e)]; exact ⟨a,b,ry⟩
  .rw [if_neg e,if_neg (fun z=>e (a.trans z))]; exact ⟨a,b,c⟩
theorem KT.put {H:Hp} {kvs:List (List Key × V)} {xs:List (List Key × Addr × Value)} (r:KT H kvs xs) (k:List Key) {b:Addr} {y:V} (hb:H b=some (.tup (k.map kV))) (ry:xl y u) :
  KT H (Ý kvs k y) (storedH xs k b u):=by
 have e:(kvs.any fun a=>decide (a.1=k))=(atKey xs k).isSome:=by
  rw [z0,(r.val k).isSome_eq,Option.isSome_map]
 unfold Ý storedH;rw [e];by_cases q:(atKey xs k).isSome=true
 .rw [if_pos q,if_pos q]; exact r.repl k ry
 .rw [if_neg q,if_neg q]; exact Paired.snoc r ⟨rfl,hb,ry⟩
theorem KT.keeps {H H':Hp} {kvs:List (List Key × V)} {xs:List (List Key × Addr × Value)} (r:KT H kvs xs) (ht:∀ b ys,H b=some (.tup ys)->H' b=some (.tup ys)):KT H' kvs xs :=
 Paired.mapP r fun _ _ z=>⟨z.1,ht _ _ z.2.1,z.2.2⟩
section
variable {w:World} {H:Hp} {h:Heap} {a:Addr}
theorem yxu {u:HO} (ok:HOk P w H h) (e:Rd H a u):xk P w H h a u:=e.ok ok
theorem ycl {kvs:List (Key × V)} (ok:HOk P w H h) (e:Rd H a (.dK kvs)):kvs.length <= sizeLine/\(a == sysModules)=false/\∃ vs,KV kvs vs/\h.DictOf (we P w) a vs :=
 show xk P w H h a (.dK kvs) from yxu ok e
theorem yxk {kvs:List (Key × V)} (ok:HOk P w H h) (e:H a=some (.dK kvs)):kvs.length <= sizeLine/\(a == sysModules)=false/\∃ vs,KV kvs vs/\h.DictOf (we P w) a vs:=ycl ok (.inl e)
theorem ya7 {ks:List Key} (ok:HOk P w H h) (e:H a=some (.tup (ks.map kV))):(tupleKind (we P w)).is h ks a:=by
 obtain ⟨_,b,r,o,f,d,n,c⟩:=(show xk P w H h a (.tup (ks.map kV)) from ok a _ e);exact ⟨o,b.toArray,n,f,d,c,by simpa using yaq r⟩
theorem yfi {kvs:List (List Key × V)} (ok:HOk P w H h) (e:Rd H a (.dT kvs)):kvs.length <= sizeLine/\(a == sysModules)=false /\
  ∃ xs,KT H kvs xs/\h.DictOfH (tupleKind (we P w)) a xs:=by
 obtain ⟨z,y,xs,r,o,g,d,n,i,j,k,f⟩:=(show xk P w H h a (.dT kvs) from yxu ok e);refine ⟨z,y,xs,r,o,g,d,n,i,j,k,fun x b=>?_,f⟩
 have c:∀ {l:List (List Key × V)} {m:List (List Key × Addr × Value)},KT H l m->∀ x∈m,(tupleKind (we P w)).is h x.1 x.2.1:=by
  intro l m q
  induction q with
  | nil=>intro x b; exact nomatch b
  | @cons p q ps qs hq t ih =>
   intro x b;rcases dA.mp b with e | b
   .subst e;exact ya7 ok (by rw [<- hq.1]; exact hq.2.1)
   .exact ih x b
 exact c r x b
theorem yzh {kvs:List (List Key × V)} (ok:HOk P w H h) (e:H a=some (.dT kvs)):kvs.length <= sizeLine/\(a == sysModules)=false /\
  ∃ xs,KT H kvs xs/\h.DictOfH (tupleKind (we P w)) a xs:=yfi ok (.inl e)
end
def ĉ (H:Hp) (a:Addr) (y:V) (r:Option V):Prop :=
 (∃ kvs k,Rd H a (.dK kvs)/\y=kV k/\r=uw kvs k)\/∃ kvs k b,Rd H a (.dT kvs)/\y=.ref b/\H b=some (.tup (k.map kV))/\r=uw kvs k
def yku (H:Hp) (a:Addr) (y v:V) (H':Hp):Prop :=
 (∃ kvs k,H a=some (.dK kvs)/\y=kV k/\kvs.length < sizeLine/\H'=upd H a (.dK (Ý kvs k v))) \/
 ∃ kvs k b,H a=some (.dT kvs)/\y=.ref b/\H b=some (.tup (k.map kV))/\kvs.length < sizeLine/\H'=upd H a (.dT (Ý kvs k v))
theorem ĉ.k {H:Hp} {a:Addr} {kvs:List (Key × V)} {k:Key} (e:H a=some (.dK kvs)):ĉ H a (kV k) (uw kvs k):=.inl ⟨kvs,k,.inl e,rfl,rfl⟩
theorem ĉ.t {H:Hp} {a b:Addr} {kvs:List (List Key × V)} {k:List Key} (e:H a=some (.dT kvs)) (eb:H b=some (.tup (k.map kV))):ĉ H a (.ref b) (uw kvs k):=.inr ⟨kvs,k,b,.inl e,rfl,eb,rfl⟩
theorem yku.k {H:Hp} {a:Addr} {kvs:List (Key × V)} {k:Key} {v:V} (e:H a=some (.dK kvs)) (hl:kvs.length < sizeLine):yku H a (kV k) v (upd H a (.dK (Ý kvs k v))):=.inl ⟨kvs,k,e,rfl,hl,rfl⟩
theorem yku.t {H:Hp} {a b:Addr} {kvs:List (List Key × V)} {k:List Key} {v:V} (e:H a=some (.dT kvs)) (eb:H b=some (.tup (k.map kV))) (hl:kvs.length < sizeLine) :
  yku H a (.ref b) v (upd H a (.dT (Ý kvs k v))):=.inr ⟨kvs,k,b,e,rfl,eb,hl,rfl⟩
section
variable {σ:St} {H:Hp} {s:Shared} {a:Addr} {y v:V} {r:Value} {o:Option V} {A:Around}
theorem Inv.big (I:Inv X pins σ H s):sysModules < s.heap.objs.size:=by
 have h:mainGlobals < s.heap.objs.size:=(I.mod.glob.keeps I.bk).lt;exact Nat.lt_trans (by decide) h
theorem yfq (hu:A.units+1 < cLine) (I:Inv X pins σ H s) (g:ĉ H a y (some v)) (ry:xl y u) (h:∀ w' s',Inv X pins σ H s'->xl v w'->Q w' s') :
  wpAny (model X.prog X.w) A (getItem (.ref a) u) Q E s:=by
 rcases g with ⟨n,k,e,i,l⟩ | ⟨n,k,b,e,i,B,l⟩
 .subst i;obtain ⟨z,q,r,d,f⟩:=ycl I.hok e;obtain ⟨w',m,c⟩:=yba.some_of (v:=v) (o:=valueAt r k) (by rw [l]; exact d.val k);exact wpAny_getItem_of (yci ry) f.mapOf m (h w' _ (I.tok _) c)
 .subst i;cases (show u=Value.ref b from ry);obtain ⟨z,q,x,d,f⟩:=yfi I.hok e;obtain ⟨w',m,c⟩:=yba.some_of (v:=v) (o:=(atKey x k).map (·.2)) (by rw [l]; exact d.val k);obtain ⟨p,t,j⟩:=Option.map_eq_some_iff.mp m;refine wpAny_getItem_heap (tupleKind_room_in1 hu) (ya7 I.hok B) f t ?_;rw [j];exact h w' _ (I.tok _) c
theorem vbj (hu:A.units+1 < cLine) (I:Inv X pins σ H s) (g:ĉ H a y o) (ry:xl y u) (h:∀ s',Inv X pins σ H s'->Q (.bool o.isSome) s') :
  wpAny (model X.prog X.w) A (compareOp .In u (.ref a)) Q E s:=by
 rcases g with ⟨j,k,e,i,l⟩ | ⟨j,k,b,e,i,m,l⟩
 .subst i;obtain ⟨z,f,n,c,d⟩:=ycl I.hok e;refine wpAny_in_of (yci ry) f d.mapOf ?_;rw [<- (c.val k).isSome_eq,<- l];exact h _ (I.tok _)
 .subst i;cases (show u=Value.ref b from ry);obtain ⟨z,f,p,c,d⟩:=yfi I.hok e;refine wpAny_in_heap (tupleKind_room_in1 hu) (ya7 I.hok m) f d ?_;have q:=(c.val k).isSome_eq;rw [Option.isSome_map] at q;rw [<- q,<- l];exact h _ (I.tok _)
theorem yo1 (hu:A.units+1 < cLine) (I:Inv X pins σ H s) (g:ĉ H a y o) (ry:xl y u) (h:∀ s',Inv X pins σ H s'->Q (.bool (!o.isSome)) s') :
  wpAny (model X.prog X.w) A (compareOp .NotIn u (.ref a)) Q E s:=by
 rcases g with ⟨j,k,e,i,l⟩ | ⟨j,k,b,e,i,m,l⟩
 .subst i;obtain ⟨z,f,n,c,d⟩:=ycl I.hok e;refine wpAny_notIn_of (yci ry) f d.mapOf ?_;rw [<- (c.val k).isSome_eq,<- l];exact h _ (I.tok _)
 .subst i;cases (show u=Value.ref b from ry);obtain ⟨z,f,p,c,d⟩:=yfi I.hok e;refine wpAny_notIn_heap (tupleKind_room_in1 hu) (ya7 I.hok m) f d ?_;have q:=(c.val k).isSome_eq;rw [Option.isSome_map] at q;rw [<- q,<- l];exact h _ (I.tok _)
theorem yca {t':Nat} {ob:HO} (I:Inv X pins σ H s) (mu:Mut (H a)) (hs:Heap.SameBut a s.heap h') (he:∃ q,h'.get? a=some q) (new:xk X.prog X.w (upd H a ob) h' a ob) :
  Inv X pins σ (upd H a ob) { s with heap:=h',toks:=t' } :=
 I.write (x:=a) (e:=a) mu (.inl rfl) (fun b q c z=>(hs.2 b c).trans z) he new
theorem yie {w:World} {H':Hp} {kvs:List (Key × V)} {vs:List (Key × Value)} (z:kvs.length <= sizeLine) (hd:(a == sysModules)=false) (rel:KV kvs vs) (dd:h'.DictOf (we P w) a vs) :
  xk P w H' h' a (.dK kvs):=⟨z,hd,vs,rel,dd⟩
theorem yfv {H':Hp} {Q:Unit->Shared->Prop} (hu:A.units+1 < cLine) (I:Inv X pins σ H s) (g:yku H a y v H') (ry:xl y u) (rv:xl v r) (h:∀ s',Inv X pins σ H' s'->Q () s') :
  wpAny (model X.prog X.w) A (setItem (.ref a) u r) Q E s:=by
 rcases g with ⟨d,k,e,m,l,B⟩ | ⟨d,k,b,e,m,C,l,B⟩
 .subst m B;obtain ⟨z,t,O,f,p⟩:=yxk I.hok e;have o:O.length <= sizeLine:=by rw [<- f.length]; exact z
  have x:(Ý d k v).length <= sizeLine:=by have:=jm d k v; omega
  refine wpAny_setItem_pairs (hsz:=o) (yci ry) p fun F i n=>h _ ?_;have P:∃ q,F.get? a=some q:=let ⟨q,_,_,j,_⟩:=i; ⟨q,j⟩;exact yca I (by rw [e]; exact True.intro) n P (yie x t (f.put k rv) i)
 .subst m B;cases (show u=Value.ref b from ry);obtain ⟨z,t,R,f,p⟩:=yzh I.hok e;have o:R.length <= sizeLine:=by rw [<- Paired.length f]; exact z
  have x:(Ý d k v).length <= sizeLine:=by have:=jm d k v; omega
  refine wpAny_setItem_heap (hsz:=o) (tupleKind_room_in1 hu) (ya7 I.hok C) p fun F i n=>h _ ?_;obtain ⟨q,G,M,j,J,K,L,_,N⟩:=i;refine yca I (by rw [e]; exact True.intro) n ⟨q,j⟩ ⟨x,t,_,(f.put k C rv).keeps fun c S D=>?_,q,G,M,j,J,K,L,N⟩
  rw [yn (xh D e (fun z=>nomatch z))]
  exact D
end
section
variable {σ:St} {H:Hp} {s:Shared} {a:Addr} {kvs:List (Key × V)} {k:Key} {A:Around}
theorem yy1 {v:V} {more:List Value} (I:Inv X pins σ H s) (e:H a=some (.dK kvs)) (ry:xl (kV k) u) (l:uw kvs k=some v) (hm:more=[]\/∃ x,more=[x])
  (h:∀ w' s',Inv X pins σ (upd H a (.dK (Ñ kvs k))) s'->xl v w'->Q w' s'):wpAny (model X.prog X.w) A (call (.builtin "dict.pop") (.ref a :: u :: more)) Q E s:=by
 obtain ⟨z,j,g,b,f⟩:=yxk I.hok e;obtain ⟨w',r,d⟩:=yba.some_of (v:=v) (o:=valueAt g k) (by rw [<- l]; exact b.val k)
 have m:(keyPart u).isSome=true:=by
  cases k with
  | inl i=>obtain ⟨t,q⟩:=(show ∃ t,u=Value.int i t from ry); subst q; rfl
  | inr x=>obtain ⟨t,q⟩:=(show ∃ t,u=Value.str x t from ry); subst q; rfl
 have y:argsOk "dict.pop" ⟨.ref a :: u :: more,[]⟩:=by
  rcases hm with q | ⟨x,q⟩
  .subst q; exact PySem.F.args_dict_pop_2 _ _
  .subst q; exact PySem.F.args_dict_pop_3 _ _ _
 refine call_meetsIn PySem.F.slot_dict_pop f.typeIs PySem.F.entry_dict_pop y (meets_dict_pop_there (we X.prog X.w) a (yci ry) more hm m)
  ⟨g,w',f,by rw [<- b.length]; exact z,r,fun B c n=>h w' _ ?_ d⟩
 have p:∃ q,B.get? a=some q:=let ⟨q,_,_,hq,_⟩:=c; ⟨q,hq⟩;exact yca I (by rw [e]; exact True.intro) n p (yie (dZ (yji kvs k) z) j (b.drop k) c)
theorem yyn (I:Inv X pins σ H s) (e:Rd H a (.dK kvs)) (h:∀ t s',Inv X pins σ H s'->Q (.int kvs.length t) s'):wpAny (model X.prog X.w) A (call (.builtin "len") [.ref a]) Q E s:=by
 obtain ⟨z,d,f,b,c⟩:=ycl I.hok e;refine call_len_dict d c (by rw [<- b.length]; rw [sizeLine_eq] at z; omega) ?_;rw [<- b.length];exact h _ _ (I.tok _)
end
def vaq (i:Expr):Prop:=∀ ov iv,subscripted i false ov iv=operate [ov,iv] (getItem ov iv)
theorem yph {prog:Program} {w:World} {A:Around} {s:Shared} {env:Env} {value slice:Expr} {pos:Pos} {T id:String} 
  (hl:typeLookup (.type T) "__getitem__"=pure (some (.builtin id))) (hs:vaq slice)
  (h:wpAny (model prog w) A (eval value env) (fun o s₁=>wpAny (model prog w) A (eval slice env) (fun i s₂=>s₂.TypeIs o T/\wpAny (model prog w) A (getItem o i) Q E s₂) E s₁) E s) :
  wpAny (model prog w) A (eval (.Subscript value slice pos) env) Q E s:=by
 refine Subscript_ (eS h (fun o s₁ h₁=>eS h₁ (fun i s₂ h₂=>?_) fun _ _ x=>x) fun _ _ x=>x);obtain ⟨b,h₂⟩:=h₂;unfold subscriptTail;refine cT ?_;rw [getitemInPython_of_ne b.not_modules];refine cT (wpAny_specialOf b hl ?_)
 have a:wpAny (model prog w) A (subscripted slice false o i) (fun r s₃=>wpAny (model prog w) A (letTemporaryGo value o r >>= fun _=>pure r) Q E s₃) E s₂:=by
  rw [hs o i];exact wpAny_operating (eS h₂ (fun r s₃ h₃=>cT (wpAny_letTemporaryGo (dn h₃))) fun _ _ x=>x)
 first
  | exact dn (cT a)
  | exact cT (dn (cT a))
  | exact cT a
theorem yby {σ:St} {H:Hp} {s:Shared} {a:Addr} {y:V} {o:Option V} (I:Inv X pins σ H s) (g:ĉ H a y o):s.TypeIs (.ref a) "dict":=by
 rcases g with ⟨d,k,e,_,_⟩ | ⟨d,k,b,e,_,_,_⟩
 .obtain ⟨_,_,f,_,c⟩:=ycl I.hok e;exact c.typeIs
 .obtain ⟨_,_,h,_,c⟩:=yfi I.hok e;exact c.typeIs
def yxq (td ty:TE):TE:=fun σ H Q=>td σ H fun x H1=>ty σ H1 fun y H2=>∃ a v,x=.ref a/\ĉ H2 a y (some v)/\Q v H2
def va1 (ty td:TE):TE:=fun σ H Q=>ty σ H fun y H1=>td σ H1 fun x H2=>∃ a o,x=.ref a/\ĉ H2 a y o/\Q (.bl o.isSome) H2
def ygx (ty td:TE):TE:=fun σ H Q=>ty σ H fun y H1=>td σ H1 fun x H2=>∃ a o,x=.ref a/\ĉ H2 a y o/\Q (.bl (!o.isSome)) H2
def yxn (td ty tv:TE):TS:=fun D σ H=>tv σ H fun v H1=>td σ H1 fun x H2=>ty σ H2 fun y H3=>∃ a H4,x=.ref a/\yku H3 a y v H4/\D.nx σ H4
section
variable {o i e value:Expr} {pos pos' tpos:Pos} {td ty tv:TE}
theorem zj (hu:X.A.units+1 < cLine) (ho:PE X o td) (hi:PE X i ty) (hs:vaq i):PE X (.Subscript o i pos) (yxq td ty):=by
 refine .mk fun b s σ H Q I h=>?_;refine yph PySem.F.slot_dict_getitem.lookup hs (thn (ho b s σ H _ I h) fun u j ⟨x,r,n,p,e⟩=>thn (hi b j σ r _ n e) fun w z h'=>?_);obtain ⟨y,f,d,l,a,v,m,g,q⟩:=h';subst m;obtain rfl:u=Value.ref a:=p;exact ⟨yby d g,yfq hu d g l fun B t k c=>⟨v,f,k,c,q⟩⟩
theorem ywm (hu:X.A.units+1 < cLine) (hi:PE X i ty) (ho:PE X o td):PC X .In i o (va1 ty td):=by
 intro b s σ H Q I h;refine thn (hi b s σ H _ I h) fun v e ⟨y,r,n,j,c⟩=>thn (ho b e σ r _ n c) fun u w h'=>?_;obtain ⟨x,d,l,p,a,k,m,g,q⟩:=h';subst m;obtain rfl:u=Value.ref a:=p;exact vbj hu l g j fun t f=>⟨.bl k.isSome,d,f,rfl,q⟩
theorem yac (hu:X.A.units+1 < cLine) (hi:PE X i ty) (ho:PE X o td):PC X .NotIn i o (ygx ty td):=by
 intro b s σ H Q I h;refine thn (hi b s σ H _ I h) fun v e ⟨y,r,n,j,c⟩=>thn (ho b e σ r _ n c) fun u w h'=>?_;obtain ⟨x,d,l,p,a,k,m,g,q⟩:=h';subst m;obtain rfl:u=Value.ref a:=p;exact yo1 hu l g j fun t f=>⟨.bl (!k.isSome),d,f,rfl,q⟩
theorem yg4 (hu:X.A.units+1 < cLine) (ho:PE X o td) (hi:PE X i ty) (hv:PE X value tv) (hs:swapsWith value (some (.Subscript o i pos')) pos.line X.env=pure false) :
  PS X (.Assign [.Subscript o i pos'] value pos) (yxn td ty tv):=by
 refine .mk fun b s σ H D I h=>?_;refine wpAny_Assign_Subscript (thn (hv b s σ H _ I h) fun r l ⟨v,C,n,j,c⟩=>thn (ho b l σ C _ n c) fun u p ⟨x,d,t,k,z⟩=>thn (hi b p σ d _ t z) fun G F h'=>?_) hs;obtain ⟨y,J,e,f,a,B,m,g,q⟩:=h';subst m;obtain rfl:u=Value.ref a:=k;exact yfv hu e g f j fun E w=>⟨σ,B,w,q⟩
end
theorem yjv {w:World} {H:Hp} (h:Heap) (hb:sysModules < h.objs.size):xk P w H (h.push { cls:=.type "dict",data:=.dict #[] }) h.objs.size (.dK []) :=
 ⟨dJ _,eQ.mpr (Ne.symm (dH hb)),[],.nil,Heap.DictOf.new h⟩
theorem yj4 {w:World} {H:Hp} (h:Heap) (hb:sysModules < h.objs.size):xk P w H (h.push { cls:=.type "dict",data:=.dict #[] }) h.objs.size (.dT []) :=
 ⟨dJ _,eQ.mpr (Ne.symm (dH hb)),[],.nil,_,#[],0,dz _ rfl,⟨rfl,rfl,rfl⟩,rfl,rfl,List.nodup_nil⟩
def ymo:TE:=fun _ H Q=>∀ p,H p=none->Q (.ref p) (upd H p (.dK []))
def yl4:TE:=fun _ H Q=>∀ p,H p=none->Q (.ref p) (upd H p (.dT []))
section
variable {pos:Pos}
theorem ykj:PE X (.Dict [] [] pos) ymo:=.mk fun b s σ H Q I h =>
 wpAny_Dict_empty ⟨.ref s.heap.objs.size,_,I.laid (a:=s.heap.objs.size) (o:=.dK []) (t':=s.toks) (fun _ _ q=>de _ q) (dh _) (yjv s.heap I.big),rfl,h _ (I.hok.fresh (dh _))⟩
theorem yka:PE X (.Dict [] [] pos) yl4:=.mk fun b s σ H Q I h =>
 wpAny_Dict_empty ⟨.ref s.heap.objs.size,_,I.laid (a:=s.heap.objs.size) (o:=.dT []) (t':=s.toks) (fun _ _ q=>de _ q) (dh _) (yj4 s.heap I.big),rfl,h _ (I.hok.fresh (dh _))⟩
end
def Í (kvs more:List (Key × V)):List (Key × V):=more.foldl (fun acc kv=>Ý acc kv.1 kv.2) kvs
theorem KV.merge:∀ {more:List (Key × V)} {rs:List (Key × Value)} {kvs:List (Key × V)} {vs:List (Key × Value)},KV more rs->KV kvs vs->KV (Í kvs more) (merged vs rs):=by
 intro more rs kvs vs r;unfold KV at r
 induction r generalizing kvs vs with
 | nil=>intro q; exact q
 | @cons p q ps qs h t ih =>
  intro a
  have e:KV (Ý kvs p.1 p.2) (stored vs q.1 q.2):=by
   have:=a.put p.1 h.2;rw [<- h.1]; exact this
  exact ih e
theorem j5:∀ (more kvs:List (Key × V)),(Í kvs more).length <= kvs.length+more.length
 | [],kvs=>by show kvs.length <= kvs.length+0; omega
 | p :: r,kvs=>by
  have b:=j5 r (Ý kvs p.1 p.2);have a:=jm kvs p.1 p.2;show (Í (Ý kvs p.1 p.2) r).length <= _;rw [dW]; omega
structure M1 (X:Cx) (o:Expr) (m:Str) (apos:Pos) (e:Expr) (cpos:Pos):Prop where
 base:attributeBase o m X.env (eval o X.env)=eval o X.env
 few:((backTo cpos (starEach [e] X.env)).all (fun x=>!x.1) && (backToKw cpos (keywordEach [] X.env)).all (fun x=>x.1.isSome)
  && decide (([e]:List Expr).length+([]:List Keyword).length+(if ([]:List Keyword).isEmpty then 0 else 1) < 30))=true
 line:(apos.endLine == cpos.line)=true
 trees:backTo cpos (starEach [e] X.env)=[(false,eval e X.env)]
structure M2 (X:Cx) (o:Expr) (m:Str) (apos:Pos) (e f:Expr) (cpos:Pos):Prop where
 base:attributeBase o m X.env (eval o X.env)=eval o X.env
 few:((backTo cpos (starEach [e,f] X.env)).all (fun x=>!x.1) && (backToKw cpos (keywordEach [] X.env)).all (fun x=>x.1.isSome)
  && decide (([e,f]:List Expr).length+([]:List Keyword).length+(if ([]:List Keyword).isEmpty then 0 else 1) < 30))=true
 line:(apos.endLine == cpos.line)=true
 trees:backTo cpos (starEach [e,f] X.env)=[(false,eval e X.env),(false,eval f X.env)]
def IsD (H:Hp) (a:Addr):Prop:=(∃ kvs,Rd H a (.dK kvs))\/∃ kvs,Rd H a (.dT kvs)
theorem yww {σ:St} {H:Hp} {s:Shared} {a:Addr} (I:Inv X pins σ H s) (d:IsD H a) :
  s.TypeIs (.ref a) "dict"/\(∀ b,Value.ref a=.ref b->∃ ob,s.heap.get? b=some ob/\ob.dict=none)/\(a == sysModules)=false:=by
 rcases d with ⟨h,e⟩ | ⟨h,e⟩
 .obtain ⟨_,f,j,_,c⟩:=ycl I.hok e;refine ⟨c.typeIs,fun b q=>?_,f⟩;cases q;obtain ⟨ob,_,_,i,g,_⟩:=c;exact ⟨ob,i,g.2.1⟩
 .obtain ⟨_,f,k,_,c⟩:=yfi I.hok e;refine ⟨c.typeIs,fun b q=>?_,f⟩;cases q;obtain ⟨ob,_,_,i,g,_⟩:=c;exact ⟨ob,i,g.2.1⟩
def ymv (td ty:TE):TE:=fun σ H Q=>td σ H fun x H1=>∃ a,x=.ref a/\IsD H1 a/\ty σ H1 fun y H2=>∃ kvs k v,H2 a=some (.dK kvs)/\y=kV k/\uw kvs k=some v/\Q v (upd H2 a (.dK (Ñ kvs k)))
section
variable {o e f:Expr} {apos cpos:Pos} {td ty tx:TE}
theorem yjm (ho:PE X o td) (he:PE X e ty) (m:M1 X o "pop" apos e cpos):PE X (.Call (.Attribute o "pop" apos) [e] [] cpos) (ymv td ty):=by
 refine .mk fun b s σ H Q I h=>?_;refine wpAny_Call_method m.base m.few m.line PySem.F.plainAttrs_dict PySem.F.slot_dict_pop PySem.F.type_dict_pop (thn (ho b s σ H _ I h) fun u w h'=>?_);obtain ⟨x,D,f,r,a,z,d,g⟩:=h';subst z;obtain rfl:u=Value.ref a:=r;obtain ⟨p,q,_⟩:=yww f d;refine ⟨p,q,?_⟩;rw [m.trees];refine Calls.callWith_builtin rfl (Calls.evalArgs_plain (Calls.spliced_cons (thn (he b w σ D _ f g) fun J K ⟨y,E,B,j,t,k,v,A,n,l,C⟩=>Calls.spliced_nil ?_)));subst n;exact yy1 B A j l (.inl rfl) fun L G i c=>⟨v,_,i,c,C⟩
end
@[irreducible] def QE (X:Cx) (e:Expr) (t:TE):Prop:=PE X e t
@[irreducible] def QSs (X:Cx) (st:List Stmt) (t:TS):Prop:=PSs X st t
@[irreducible] def QS (X:Cx) (st:Stmt) (t:TS):Prop:=PS X st t
section
variable {e:Expr} {te:TE} {pos:Pos} {ts us:TS} {Ü:List Stmt}
theorem yo {R:TS->Prop} (h1:PS X st ts) (h2:∃ us,PSs X Ü us/\R (yz4 ts us)):∃ t,PSs X (st :: Ü) t/\R t:=let ⟨_,a,b⟩:=h2; ⟨_,yh h1 a,b⟩
end
theorem ŗ:∀ {bs:List Bool} {us:List Value},wt (bs.map V.bl) us->us=bs.map Value.bool
 | [],_,.nil=>rfl
 | b :: r,_,.cons a t=>by rw [show _=Value.bool b from a,ŗ t]; rfl
theorem ygp (bs:List Bool):((List.range bs.length).all fun i=>(bs[i]?).getD true)=bs.all id:=by
 rw [Bool.eq_iff_iff,List.all_eq_true,List.all_eq_true]
 constructor
 .intro h b c;obtain ⟨i,a,rfl⟩:=List.getElem_of_mem c;have:=h i (ew.mpr a);rw [df a] at this;exact this
 .intro h i a;have a:=ew.mp a;rw [df a];exact h _ (ei a)
theorem z5 (hc:X.calm=true):jw X (.builtin "all") (fun xs H Q=>∃ p bs,xs=[.ref p]/\SqL X.K H p (List.map V.bl bs)/\Q (.bl (bs.all id)) H):=by
 intro g s σ H xs z Q I r h;obtain ⟨p,bs,rfl,n,q⟩:=h;obtain ⟨u,rfl,m⟩:=ė r;cases m;obtain ⟨t,l,j,B⟩:=I.list n;obtain rfl:=ŗ l;have f:=j.isList;have d:p < s.heap.objs.size:=by obtain ⟨_,e,_⟩:=f; exact du e
 refine call_all_walk (wpAny_pyIter_list f ?_)
 refine ⟨s.heap.objs.size,[s.heap.objs.size,p],[s.heap.objs.size],(bs.map Value.bool).toArray.size,_,_,fun i=>(bs[i]?).getD true,rfl,Walks.list (A:=X.A.in1) (show X.A.handled=none from I.ok.hd hc) _ p (dH d) (bs.map Value.bool).toArray,
  ⟨⟨_,dz _ rfl,rfl,rfl⟩,f.push _⟩,fun i v C y D a c=>?_,fun E o w=>?_⟩
 .have a:(bs.map Value.bool)[i]?=some v:=by simpa using a
  rw [dm] at a
  cases e:bs[i]? with
  | none=>rw [e] at a; cases a
  | some b =>
   dsimp only at c;rw [e] at a c;cases a;exact ey c
 .have e:((List.range (bs.map Value.bool).toArray.size).all fun i=>(bs[i]?).getD true)=bs.all id:=by
   rw [dy,cH];exact ygp bs
  rw [e];refine ⟨.bl (bs.all id),H,I.kept (t':=o) fun b x e=>w b x (fun k=>?_) (de _ e),rfl,q⟩;rw [dB.mp k] at e;exact eL _ (du e)
theorem xt {env:Env}:∀ {names:List (Str × NameKind)} {x:Str} {k:NameKind},
  (names.map fun (n,k)=>if (k == NameKind.free && env.scope.kind == .function && env.kindOf n == some .cell) then (n,NameKind.cell) else (n,k)).lookup x=some k->∃ k0,(x,k0)∈names/\(k=k0\/k0=.free)
 | [],_,_,h=>by simp at h
 | (n,k1) :: r,x,k,h=>by
  rw [d6] at h;by_cases hx:x=n
  .subst hx;refine ⟨k1,.head _,?_⟩;dsimp only at h
   split at h
   .rename_i hc
    simp only [dU,beq_iff_eq] at hc;exact .inr hc.1.1
   .simp [List.lookup] at h;exact .inl h.symm
  .have:(x == n)=false:=by simpa using hx
   have a:(r.map fun (n,k)=>if (k == NameKind.free && env.scope.kind == .function && env.kindOf n == some .cell) then (n,NameKind.cell) else (n,k)).lookup x=some k:=by
    dsimp only at h
    split at h <;> simpa [List.lookup,this] using h
   obtain ⟨k0,m,q⟩:=xt a;exact ⟨k0,.tail _ m,q⟩
def jy (ys:List Str) (env:Env):List (Str × Addr):=ys.map fun y=>(y,(env.cells.lookup y).getD 0)
theorem Ŕ {env:Env}:∀ {ys:List Str} {y:Str} {c:Addr},(jy ys env).lookup y=some c->y∈ys/\c=(env.cells.lookup y).getD 0
 | [],_,_,h=>by simp [jy] at h
 | z :: r,y,c,h=>by
  by_cases hy:y=z
  .subst hy;simp [jy,List.lookup] at h;exact ⟨.head _,h.symm⟩
  .have a:(y == z)=false:=by simpa using hy
   have b:(jy r env).lookup y=some c:=by simpa [jy,List.lookup,a] using h
   obtain ⟨m,e⟩:=Ŕ b;exact ⟨.tail _ m,e⟩
theorem j9 {env:Env}:∀ {ys:List Str} {y:Str},y∈ys->(jy ys env).lookup y=some ((env.cells.lookup y).getD 0)
 | z :: r,y,h=>by
  by_cases hy:y=z
  .subst hy;simp [jy,List.lookup]
  .have a:(y == z)=false:=by simpa using hy
   have b:y∈r:=by
    rcases dA.mp h with q | q
    .exact absurd q hy
    .exact q
   have:=j9 (env:=env) b;simpa [jy,List.lookup,a] using this
abbrev Cx.compF (X:Cx) (scope:Scope) (ys:List Str) (C:Addr) (x:Str) (s2:Shared) (H2:Hp) (fp:List Addr):Cx :=
 { X with N:=x :: ys,s₀:=s2,H₀:=H2,env:=compEnvC scope (jy ys X.env) C X.env,outer:=X.stack,ex:=fp,fn:=fun _=>false,pn:=[],xe:=fun _ _=>False }
def uj (J:It) (te:TE) (fr:St) (D:Addr) (R:Hp->Prop) (H1:Hp):Prop:=∃ W:Nat->Nat->Hp->Prop,(∃ m,W 0 m (upd H1 D (.lst []))) /\
 ∀ i m H2,W i m H2->(J.stop i H2/\R H2)\/(J.go i H2/\∀ x H3,J.yld i H2 x H3->te (some x :: fr) H3 fun y H4=>∃ ys,H4 D=some (.lst ys)/\ys.length < sizeLine/\∃ m',m' < m/\W (i+1) m' (upd H4 D (.lst (ys++[y]))))
def xg (js:List Nat) (σ:St):St:=js.map fun j=>(σ[j]?).getD none
def yih (wi:TI) (te:TE) (js:List Nat):TE:=fun σ H Q=>wi σ H fun J H1=>∀ D,H1 D=none->uj J te (xg js σ) D (fun H2=>Q (.ref D) H2) H1
section
variable {iter elt:Expr} {x:Str} {px pos:Pos} {te:TE} {wi:TI} {σ:St} {ys:List Str} {js:List Nat}
theorem ype {H:Hp} {Q:VK} (h:wi σ H fun J H1=>∀ D,H1 D=none->uj J te (xg js σ) D (fun H2=>Q (.ref D) H2) H1):yih wi te js σ H Q:=h
theorem zu {K:W.Frag} {a D:Addr} {xs:List V} {fr:St} {R:Hp->Prop} {H1:Hp} (Pv:Nat->Hp->Prop) (h0:Pv 0 (upd H1 D (.lst []))) (hl:∀ i H,i <= xs.length->Pv i H->SqL K H a xs)
  (hs:∀ i x H,xs[i]?=some x->i < xs.length->Pv i H->te (some x :: fr) H fun y H4=>∃ ys,H4 D=some (.lst ys)/\ys.length < sizeLine/\∃ m',m' < xs.length - i/\cW xs.length Pv (i+1) m' (upd H4 D (.lst (ys++[y]))))
  (hd:∀ H,Pv xs.length H->R H):uj (Itl K a) te fr D R H1:=by
 refine ⟨cW xs.length Pv,⟨xs.length,by simp,dJ _,h0⟩,?_⟩;rintro i m H ⟨rfl,b,p⟩;have q:=hl i H b p;by_cases hlt:i < xs.length
 .refine .inr ⟨⟨xs,xs[i],q,by simp [hlt]⟩,fun x c y=>?_⟩;obtain ⟨e,y⟩:=y;subst e;exact hs i x _ (y xs q) hlt p
 .have e:i=xs.length:=by omega
  subst e;exact .inl ⟨⟨xs,q,dh _⟩,hd H p⟩
end
end L2
namespace L2
theorem yx {α:Type} {P:α->Prop}:∀ y∈([]:List α),P y:=fun _ h=>nomatch h
theorem all_cons {α:Type} {P:α->Prop} {y:α} {r:List α} (h:P y) (t:∀ z∈r,P z):∀ z∈y :: r,P z:=fun z a=>by
 rcases dA.mp a with e | a
 .exact e ▸ h
 .exact t z a
end L2
namespace L2
open PySem PySem.Spec PyProof.Rows
section
variable {X:Cx}
theorem ydi:∀ {ns:List Int} {us:List Value},wt (ns.map V.int) us->∃ xs:Array (Int × Tok),us.toArray=intItems xs/\xs.toList.map (·.1)=ns
 | [],_,.nil=>⟨#[],by simp [intItems],rfl⟩
 | n :: r,_,.cons (l₂:=us) a t=>by
  obtain ⟨b,rfl⟩:=a;obtain ⟨xs,c,d⟩:=ydi t;refine ⟨((n,b) :: xs.toList).toArray,?_,by simp [d]⟩;have:us=(intItems xs).toList:=by rw [<- c]
  rw [this];simp [intItems]
theorem ε (hc:X.calm=true):jw X (.builtin "sum") (fun vs H Q=>∃ p ns,vs=[.ref p]/\SqL X.K H p (List.map V.int ns)/\Q (.int ns.sum) H):=by
 intro a s σ H v n Q I r h;obtain ⟨p,ns,rfl,f,q⟩:=h;obtain ⟨u,rfl,l⟩:=ė r;cases l;obtain ⟨m,g,j,o⟩:=I.list f;obtain ⟨c,e,d⟩:=ydi g;have k:s.heap.IsList p (intItems c):=e ▸ j.isList;refine sum_intListG (I.ok.hd hc) k fun t i t' b=>?_;rw [preSum_eq,ej (by simp),d];exact ⟨.int ns.sum,H,I.kept (t':=i) b,⟨_,rfl⟩,q⟩
end
variable {i:Nat}
section
variable {X:Cx} {e:Expr} {t1 t2:TE}
def yr3 (t1 t2:TE):TE:=fun σ H Q=>t1 σ H Q\/t2 σ H Q
theorem yd9 (h1:PE X e t1) (h2:PE X e t2):PE X e (yr3 t1 t2):=by
 refine .mk fun a s σ H Q I h=>?_;rcases h with h | h
 .exact h1 a s σ H Q I h
 .exact h2 a s σ H Q I h
theorem yd4 {σ:St} {H:Hp} {Q:VK} (h:t1 σ H Q):yr3 t1 t2 σ H Q:=.inl h
theorem ĳ {σ:St} {H:Hp} {Q:VK} (h:t2 σ H Q):yr3 t1 t2 σ H Q:=.inr h
end
theorem vi {H:Hp} {p:Addr} {o:HO} {A:Hp->Prop} (hp:H p=none) (h:∀ H',yw H H'->H' p=some o->A H'):A (upd H p o):=h _ (y8 hp) yc
theorem y6 {α:Type} {H:Hp} {p:Addr} {o:HO} {A:Hp->α->Prop} {Q:α} (hp:H p=none) (h:∀ H',yw H H'->H' p=some o->A H' Q):A (upd H p o) Q:=h _ (y8 hp) yc
section
variable {K:W.Frag} {a D:Addr} {xs:List V} {te:TE} {fr:St} {R:Hp->Prop} {H1:Hp}
theorem yan (Pv:Nat->Hp->Prop) (h0:Pv 0 (upd H1 D (.lst []))) (hl:∀ i H,i <= xs.length->Pv i H->SqT K H a xs)
  (hs:∀ i x H,xs[i]?=some x->i < xs.length->Pv i H->te (some x :: fr) H fun y H4=>∃ ys,H4 D=some (.lst ys)/\ys.length < sizeLine/\∃ m',m' < xs.length - i/\cW xs.length Pv (i+1) m' (upd H4 D (.lst (ys++[y]))))
  (hd:∀ H,Pv xs.length H->R H):uj (Itt K a) te fr D R H1:=by
 refine ⟨cW xs.length Pv,⟨xs.length,by simp,dJ _,h0⟩,?_⟩;rintro i m H ⟨rfl,b,p⟩;have q:=hl i H b p;by_cases hlt:i < xs.length
 .refine .inr ⟨⟨xs,xs[i],q,by simp [hlt]⟩,fun x c y=>?_⟩;obtain ⟨e,y⟩:=y;subst e;exact hs i x _ (y xs q) hlt p
 .have e:i=xs.length:=by omega
  subst e;exact .inl ⟨⟨xs,q,dh _⟩,hd H p⟩
theorem ykf (Pv:Nat->Hp->Prop) (h0:Pv 0 (upd H1 D (.lst []))) (hl:∀ i H,i <= xs.length->Pv i H->SqT K H a xs)
  (hs:∀ i x H,xs[i]?=some x->i < xs.length->Pv i H->te [some x] H fun y H4=>∃ ys,H4 D=some (.lst ys)/\ys.length < sizeLine/\∃ m',m' < xs.length - i/\cW xs.length Pv (i+1) m' (upd H4 D (.lst (ys++[y]))))
  (hd:∀ H,Pv xs.length H->R H):yed (Itt K a) te D R H1:=by
 refine ⟨cW xs.length Pv,⟨xs.length,by simp,dJ _,h0⟩,?_⟩;rintro i m H ⟨rfl,b,p⟩;have q:=hl i H b p;by_cases hlt:i < xs.length
 .refine .inr ⟨⟨xs,xs[i],q,by simp [hlt]⟩,fun x c y=>?_⟩;obtain ⟨e,y⟩:=y;subst e;exact hs i x _ (y xs q) hlt p
 .have e:i=xs.length:=by omega
  subst e;exact .inl ⟨⟨xs,q,dh _⟩,hd H p⟩
def Mp (H1:Hp) (D:Addr) (f:Nat->V) (i:Nat) (H:Hp):Prop:=yw H1 H/\H D=some (.lst ((List.range i).map f))
theorem Mp.zero {f:Nat->V} (hD:H1 D=none):Mp H1 D f 0 (upd H1 D (.lst [])):=⟨y8 hD,yc⟩
theorem Mp.step {f:Nat->V} {n:Nat} {H4:Hp} {y:V} (hD:H1 D=none) (hn:n < sizeLine) (hi:i < n) (S:yw H1 H4) (h4:H4 D=some (.lst ((List.range i).map f))) (e:y=f i) :
  ∃ ys,H4 D=some (.lst ys)/\ys.length < sizeLine/\∃ m',m' < n - i/\cW n (Mp H1 D f) (i+1) m' (upd H4 D (.lst (ys++[y]))):=by
 refine xu (n:=n) h4 (by rw [cH,dL]; omega) hi ⟨?_,?_⟩
 .intro b o a;rw [yn (yd a hD)];exact S b o a
 .rw [yc,List.range_succ,dF,e];rfl
theorem ú {f:Nat->V} {g:V->V} (h:∀ i x,xs[i]?=some x->f i=g x):(List.range xs.length).map f=xs.map g:=by
 refine List.ext_getElem? fun i=>?_;rw [dm,dm];by_cases hi:i < xs.length
 .rw [ez hi,df hi];show some (f i)=some (g xs[i]);rw [h i _ (df hi)]
 .rw [dP (by rw [dL]; omega),dP (by omega)];rfl
def ofG (g:V->V) (xs:List V) (i:Nat):V:=((xs[i]?).map g).getD .non
theorem yem {g:V->V} {x:V} (h:xs[i]?=some x):ofG g xs i=g x:=by
 unfold ofG;rw [h];rfl
def MpK (H1:Hp) (D:Addr) (f:Nat->V) (n i:Nat):VK:=fun y H4=>∃ ys,H4 D=some (.lst ys)/\ys.length < sizeLine/\∃ m',m' < n - i/\cW n (Mp H1 D f) (i+1) m' (upd H4 D (.lst (ys++[y])))
theorem Mp.done {g:V->V} {x y:V} {H4:Hp} (hD:H1 D=none) (hn:xs.length < sizeLine) (hx:xs[i]?=some x) (S:yw H1 H4) (h4:H4 D=some (.lst ((List.range i).map (ofG g xs)))) (e:y=g x):MpK H1 D (ofG g xs) xs.length i y H4:=by
 have a:i < xs.length:=by
  rcases Nat.lt_or_ge i xs.length with q | q
  .exact q
  .rw [dP q] at hx; cases hx
 exact Mp.step hD hn a S h4 (e.trans (yem hx).symm)
theorem Mp.doneR {f:Nat->V} {n:Nat} {y:V} {H4:Hp} (hD:H1 D=none) (hn:n < sizeLine) (hi:i < n) (S:yw H1 H4) (h4:H4 D=some (.lst ((List.range i).map f))) (e:y=f i):MpK H1 D f n i y H4:=Mp.step hD hn hi S h4 e
theorem ê (g:V->V) (hq:SqL K H1 a xs) (hD:H1 D=none)
  (hs:∀ i x H,xs[i]?=some x->yw H1 H->H D=some (.lst ((List.range i).map (ofG g xs)))->te (some x :: fr) H (MpK H1 D (ofG g xs) xs.length i))
  (hd:∀ H,yw H1 H->H D=some (.lst (xs.map g))->R H):uj (Itl K a) te fr D R H1 :=
 zu (Mp H1 D (ofG g xs)) (Mp.zero hD) (fun _ _ _ p=>p.1.seq hq) (fun i x H b c p=>hs i x H b p.1 p.2)
  fun H p=>hd H p.1 (by rw [<- ú (f:=ofG g xs) fun i x=>yem]; exact p.2)
theorem ę (g:V->V) (hq:SqT K H1 a xs) (hD:H1 D=none)
  (hs:∀ i x H,xs[i]?=some x->yw H1 H->H D=some (.lst ((List.range i).map (ofG g xs)))->te (some x :: fr) H (MpK H1 D (ofG g xs) xs.length i))
  (hd:∀ H,yw H1 H->H D=some (.lst (xs.map g))->R H):uj (Itt K a) te fr D R H1 :=
 yan (Mp H1 D (ofG g xs)) (Mp.zero hD) (fun _ _ _ p=>p.1.tup hq) (fun i x H b c p=>hs i x H b p.1 p.2)
  fun H p=>hd H p.1 (by rw [<- ú (f:=ofG g xs) fun i x=>yem]; exact p.2)
theorem ygn (g:V->V) (hq:SqT K H1 a xs) (hD:H1 D=none)
  (hs:∀ i x H,xs[i]?=some x->yw H1 H->H D=some (.lst ((List.range i).map (ofG g xs)))->te [some x] H (MpK H1 D (ofG g xs) xs.length i))
  (hd:∀ H,yw H1 H->H D=some (.lst (xs.map g))->R H):yed (Itt K a) te D R H1 :=
 ykf (Mp H1 D (ofG g xs)) (Mp.zero hD) (fun _ _ _ p=>p.1.tup hq) (fun i x H b c p=>hs i x H b p.1 p.2)
  fun H p=>hd H p.1 (by rw [<- ú (f:=ofG g xs) fun i x=>yem]; exact p.2)
theorem ynv {tr:TA} {σ:St} {H:Hp} {R:It->Hp->Prop} (h:tr σ H fun vs H1=>∃ i j:Int,vs=[.int i,.int j]/\(-(2 ^ 62) <= i/\i < 2 ^ 62/\-(2 ^ 62) <= j/\j < 2 ^ 62)/\R (Itr i (j - i).toNat) H1):yxm tr σ H R:=h
end
structure Mk0 (K:W.Frag) (C:Addr):Prop where
 makes:W.makesIn K C=true
 init:W.findIn K (.ref C) "__init__"=some (some (.builtin "object.__init__"))
 kp:W.keepIn K (.ref C)=true
abbrev Cx.compT (X:Cx) (scope:Scope) (ys:List Str) (C:Addr) (xs:List Str) (s2:Shared) (H2:Hp) (fp:List Addr):Cx :=
 { X with N:=xs++ys,s₀:=s2,H₀:=H2,env:=compEnvC scope (jy ys X.env) C X.env,outer:=X.stack,ex:=fp,fn:=fun _=>false,pn:=[],xe:=fun _ _=>False }
variable {X:Cx}
def jv (J:It) (g:TG) (te:TE) (n:Nat) (fr:St) (D:Addr) (R:Hp->Prop) (H1:Hp):Prop:=∃ W:Nat->Nat->Hp->Prop,(∃ m,W 0 m (upd H1 D (.lst []))) /\
 ∀ i m H2,W i m H2->(J.stop i H2/\R H2)\/(J.go i H2/\∀ x H3 pre,J.yld i H2 x H3->List.length pre=n->g x (pre++fr) H3 fun σ' H'=>(∃ pre',List.length pre'=n/\σ'=pre'++fr)/\te σ' H' fun y H4=>∃ ys,H4 D=some (.lst ys)/\ys.length < sizeLine/\∃ m',m' < m/\W (i+1) m' (upd H4 D (.lst (ys++[y]))))
def yil (wi:TI) (g:TG) (te:TE) (n:Nat) (js:List Nat):TE:=fun σ H Q=>wi σ H fun J H1=>∀ D,H1 D=none->jv J g te n (xg js σ) D (fun H2=>Q (.ref D) H2) H1
section
variable {iter elt tg:Expr} {xs:List Str} {g:TG} {pos:Pos} {scope:Scope} {te:TE} {wi:TI} {pins:List (Addr × Obj)} {σ:St} {ys:List Str} {js:List Nat}
theorem ω {s2:Shared} {H2:Hp} {it:Addr} {fp:List Addr} {tn:Nat->Heap->Prop} {J:It} (hc:X.calm=true)
  (he:∀ (C:Addr) (s2:Shared) (H2:Hp) (fp:List Addr),PE (X.compT scope ys C xs s2 H2 fp) elt te)
  (hgt:∀ (C:Addr) (s2:Shared) (H2:Hp) (fp:List Addr),PG (X.compT scope ys C xs s2 H2 fp) tg g)
  (hcell:∀ y∈scope.names,y.2≠.cell) (hkind:scope.kind=.function)
  (hfr:∀ y∈scope.names,y.2=.free->y.1∈ys) (hyc:∀ y∈ys,X.env.kindOf y=some .cell) (hrel:∀ y∈ys,(relabel scope X.env).names.lookup y=some .cell) (hjs:js.map (fun j=>X.N[j]?)=ys.map some)
  (I2:Inv X pins σ H2 s2) (T:yiw X.prog X.w X.K tg J fp it tn) (st2:tn 0 s2.heap) (f2:∀ b∈fp,ycp X pins H2 b)
  {R:Addr->Hp->Prop} (h:∀ D,H2 D=none->jv J g te xs.length (xg js σ) D (R D) H2) {RR:Value->Addr->Result->Shared->Prop} {E:Value->Shared->Prop}
  (hR:∀ (D C:Addr) (H':Hp) (s':Shared) (m:Str->Option Value),ycp X pins H' C->s'.heap.Ns C m->Inv X pins σ H' s'->R D H'->RR (.ref D) C (.ok .next) s') :
  wpAny (model X.prog X.w) X.A (newList []) (fun acc s₃=>wpAny (model X.prog X.w) X.A (newFunctionEnv scope X.env.globals (jy ys X.env) [] X.env.qual none .none (some X.env)) (fun cenv s₄ =>
   codeAny (model X.prog X.w) X.A (.compStart (.ListComp elt [⟨tg,iter,[],0⟩] scope pos) 0 (.ref it) acc { cenv with scope:=relabel scope X.env }) (RR acc cenv.locals) s₄) E s₃) E s2:=by
 have k:∀ y c,(jy ys X.env).lookup y=some c->X.env.cells.lookup y=some c:=fun y c e=>by
  obtain ⟨m,rfl⟩:=Ŕ e;obtain ⟨c',q⟩:=I2.ok.has y (.inl (hyc y m));rw [q];rfl
 refine wpAny_newObj_type (wpAny_newFunctionEnv hcell (by intro y Z; simp at Z) (fun h₁ hns₁ hsb₁=>?_) hkind);dsimp only at hns₁ hsb₁ ⊢;generalize Q:s2.heap.push { cls:=.type "list",dict:=none,data:=.seq ([]:List Value).toArray }=G at hns₁ hsb₁ ⊢;have hC:G.objs.size=s2.heap.objs.size+1:=by rw [<- Q,Heap.size_push]
 have a2:s2.heap.objs.size≠G.objs.size:=by rw [hC]; exact dH (eY _)
 have H:s2.heap.objs.size <= G.objs.size:=by rw [hC]; exact Nat.le_succ _
 have f:∀ b,b < s2.heap.objs.size->b≠G.objs.size/\b≠s2.heap.objs.size:=fun b a=>⟨by rw [hC]; exact dH (Nat.lt_succ_of_lt a),dH a⟩;have B:∀ b o,s2.heap.get? b=some o->h₁.get? b=some o:=fun b o e=>hsb₁.extBut b o (f b (du e)).1 (de _ (Q ▸ de _ e));have a5:h₁.get? s2.heap.objs.size=some { cls:=.type "list",data:=.seq ([]:List Value).toArray }:=hsb₁.extBut _ _ a2 (de _ (Q ▸ dz _ rfl));have Y:∀ b∈fp,b < s2.heap.objs.size:=fun b a=>let ⟨_,e,_⟩:=T.obj 0 _ st2 b a; du e;have a6:∀ b∈fp,b∉frs X.stack:=fun b a z=>(dA.mp (I2.stkSub b z)).elim (f2 b a).2.1 (f2 b a).2.2.1;have nC:H2 G.objs.size=none:=I2.hok.fresh H;have nD:H2 s2.heap.objs.size=none:=I2.hok.fresh (dh _)
 have t:∀ y c,(jy ys X.env).lookup y=some c->∃ v o,s2.heap.get? c=some o/\o.data=.cell v:=fun y c e=>by
  obtain ⟨v,o,q1,q2⟩:=I2.cell y c (k y c e);exact ⟨v,o,q1,q2⟩
 have ac:(X.compT scope ys G.objs.size xs s2 H2 fp).Ok:=by
  refine ⟨I2.ok.mod,hkind,I2.ok.glob,I2.ok.blt,H,fun y z c e P=>I2.ok.inj y z c (k y c e) (k z c P),fun y e=>?_,fun y c z e=>(by cases z),I2.ok.hd,I2.ok.frames,.inl rfl,fun b a=>⟨(f b (Y b a)).1,fun y c e=>(f2 b a).2.2.2.2.1 y c (k y c e)⟩,I2.bs,?_,fun b o e a=>?_,fun b a=>a6 b a,I2.stack,I2.stkFree⟩
  .have P:(relabel scope X.env).names.lookup y=some .cell\/(relabel scope X.env).names.lookup y=some .free:=e
   have a8:y∈ys:=by
    rcases P with P | P
    .obtain ⟨k0,m,q⟩:=xt P;rcases q with q | q
     .exact absurd q.symm (hcell _ m)
     .exact hfr _ m q
    .obtain ⟨k0,m,q⟩:=xt P;rcases q with q | q
     .exact hfr _ m q.symm
     .exact hfr _ m q
   exact ⟨_,j9 a8⟩
  .exact dZ I2.ok.bsz I2.sz
  .rcases (f2 b a).2.2.2.1 with z | z
   .exact I2.ok.noex b o e z
   .exact absurd (dQ (du (I2.ok.bs b o e).1) z) (eL _)
 have a7:(xg js σ).length=ys.length:=by
  have:=congrArg List.length hjs;simpa [xg] using this
 have I3:∀ tk,Inv (X.compT scope ys G.objs.size xs s2 H2 fp) [] (List.replicate xs.length none++xg js σ) (upd H2 s2.heap.objs.size (.lst [])) { s2 with heap:=h₁,toks:=tk }:=fun tk =>
  ⟨ac,rfl,I2.bare,Un.laid B (dh _) nD,⟨_,hns₁,fun i y v e1 M e3=>by
    by_cases hi0:i < xs.length
    .rw [d9 (by simpa using hi0),List.getElem?_replicate,if_pos hi0] at M;cases M
    .obtain ⟨i,rfl⟩:∃ i',i=xs.length+i':=⟨i - xs.length,by omega⟩;have e1:ys[i]?=some y:=by rw [ee (by omega)] at e1; simpa using e1
     have M:(xg js σ)[i]?=some (some v):=by rw [ee (by simp)] at M; simpa using M
     have Z:y∈ys:=dI e1;have S:=congrArg (fun l=>l[i]?) hjs;simp only [dm,e1,eF] at S
     cases q:js[i]? with
     | none=>rw [q] at S; cases S
     | some j =>
      rw [q] at S;have S:X.N[j]?=some y:=by simpa using S
      have es:σ[j]?=some (some v):=by
       simp only [xg,dm,q,eF,Option.some.injEq] at M
       cases r:σ[j]? with
       | none=>rw [r] at M; cases M
       | some w'=>rw [r] at M; rw [show w'=some v from M]
      obtain ⟨m0,_,a9⟩:=I2.loc;obtain ⟨u,ru,lk⟩:=a9 j y v S es (.inr (.inl (hyc y Z)));refine ⟨u,ru,.inr ⟨.inl (hrel y Z),?_⟩⟩;rcases lk with ⟨k1,_⟩ | ⟨_,c,ec,o,ho,hd⟩
      .rw [hyc y Z] at k1; cases k1
      .refine ⟨c,?_,o,B c o ho,hd⟩;show (jy ys X.env).lookup y=some c;rw [j9 Z,ec]
       rfl⟩,fun y c e=>(by
    obtain ⟨v,o,q1,q2⟩:=t y c e
    exact ⟨v,o,B c o q1,q2⟩),(by show upd H2 s2.heap.objs.size _ G.objs.size=none; rw [yn a2.symm]; exact nC),fun y c e=>(by
    obtain ⟨v,o,q1,q2⟩:=t y c e;show upd H2 s2.heap.objs.size _ c=none;rw [yn (f c (du q1)).2]
    exact I2.freeC y c (k y c e)),fun p hp=>(by simp at hp),
   I2.hok.laid B (dh _) ⟨dJ _,[],_,.nil,a5⟩,by show (List.replicate xs.length none++xg js σ).length=(xs++ys).length; simp [a7]⟩
 have L:∀ {H':Hp},(∀ b∈fp,H' b=none)->∀ b∈fp,ycp (X.compT scope ys G.objs.size xs s2 H2 fp) [] H' b:=fun hn b a=>⟨hn b a,(f b (Y b a)).1,a6 b a,.inl a,fun y c e=>(f2 b a).2.2.2.2.1 y c (k y c e),fun p hp=>(by simp at hp)⟩
 have O:∀ tk,codeAny (model X.prog X.w) X.A (.compLoop (.ListComp elt [⟨tg,iter,[],0⟩] scope pos) 0 (.ref it) (.ref s2.heap.objs.size) (compEnvC scope (jy ys X.env) G.objs.size X.env)) (RR (.ref s2.heap.objs.size) G.objs.size) { s2 with heap:=h₁,toks:=tk }:=by
  intro tk;obtain ⟨W,⟨m0,w0⟩,a1⟩:=h s2.heap.objs.size nD;refine codeAny_loop rfl (fun n s'=>∃ i v H',List.length v=xs.length/\Inv (X.compT scope ys G.objs.size xs s2 H2 fp) [] (v++xg js σ) H' s'/\tn i s'.heap/\(∀ b∈fp,H' b=none)/\W i n H') (fun n s' hI=>?_) m0
   ⟨0,List.replicate xs.length none,_,by simp,I3 tk,T.keep 0 _ _ st2 (fun b a o e=>B b o e),fun b a=>(by rw [yn (f b (Y b a)).2]; exact (f2 b a).1),w0⟩
  obtain ⟨i,v,H',hv,I,st,fr,w⟩:=hI;show wpAny _ _ ((compTurn (.ListComp elt [⟨tg,iter,[],0⟩] scope pos) 0 (.ref it) (.ref s2.heap.objs.size) (compEnvC scope (jy ys X.env) G.objs.size X.env)).onRaise (fun x=>do noteFrame x (compEnvC scope (jy ys X.env) G.objs.size X.env); theTreesLotGoes x)) _ _ s';refine wpAny_noted ?_;rw [compTurn_list1];refine cT (wpAny_standAt (cT ?_));rcases a1 i n H' w with ⟨a4,q⟩ | ⟨go,a3⟩
  .refine thn (T.done (X.compT scope ys G.objs.size xs s2 H2 fp) rfl rfl rfl hc i [] s' (v++xg js σ) H' _ I (L fr) st a4) fun r s4 ⟨hr,I4⟩=>?_;subst hr;refine dn ?_;obtain ⟨m,hn,_⟩:=I4.loc;exact hR _ _ H' s4 m (I2.fpOk H I4.free) hn (I2.call' (ch:=fp) I4.os I4.base I4.hok I4.bare fun b a=>⟨(f2 b a).2.2.2.1,(f2 b a).2.1,(f2 b a).2.2.2.2.1,(f2 b a).2.2.2.2.2⟩) q
  .refine thn (T.item (X.compT scope ys G.objs.size xs s2 H2 fp) rfl rfl rfl hc i [] s' (v++xg js σ) H' _ I (L fr) st go) fun r s4 ⟨u,hr,h4⟩=>?_;subst hr;refine cT (thn h4 fun _ s5 ⟨y,H5,I5,r5,y5,U,aa⟩=>cT ?_);have ad:=I5.pinned (L aa) (T.obj _ _ U);refine yse (hgt _ _ _ _ _ s5 (v++xg js σ) H5 y u _ ad r5 (a3 y H5 v y5 hv)) fun _ s6 ⟨σ',H6,I6,⟨F,ab,ep⟩,q6⟩=>?_;subst ep;refine cT (cT (yse (he _ _ _ _ _ s6 (F++xg js σ) H6 _ I6 q6) fun u2 s7 ⟨y2,H7,I7,r7,zs,hD,hl,m',hm,w'⟩=>cT ?_));refine yse (w9 _ s7 (F++xg js σ) H7 (.ref s2.heap.objs.size) [y2] (.ref s2.heap.objs.size) [u2] (fun _ H8=>H8=upd H7 s2.heap.objs.size (.lst (zs++[y2]))) I7 rfl (.cons r7 .nil) ⟨_,zs,y2,rfl,rfl,hD,hl,rfl⟩) fun _ s8 h'=>?_;obtain ⟨_,H8,I8,_,e8⟩:=h';subst e8
   have a0:∀ b∈fp,∀ o,s5.heap.get? b=some o->s8.heap.get? b=some o/\upd H7 s2.heap.objs.size (HO.lst (zs++[y2])) b=none:=fun b a o e =>
    ⟨(I8.pin (b,o) (dC _ (dC _ (xv a e)))).1,(I8.pin (b,o) (dC _ (dC _ (xv a e)))).2.1⟩
   refine dn (dn ⟨rfl,m',hm,i+1,F,_,ab,I8.unpinned,T.keep _ _ _ U fun b a o e=>(a0 b a o e).1,fun b a=>?_,w'⟩);obtain ⟨o,e,d⟩:=T.obj _ _ U b a;exact (a0 b a o e).2
 exact codeAny_compStart_list (O _) (T.self X.A 0 _ _ _ (T.keep 0 _ _ st2 (fun b a o e=>B b o e)) (O _))
theorem yc9 (hc:X.calm=true) (hi:PI X tg iter wi) (he:∀ (C:Addr) (s2:Shared) (H2:Hp) (fp:List Addr),PE (X.compT scope ys C xs s2 H2 fp) elt te) (hjs:js.map (fun j=>X.N[j]?)=ys.map some)
  (hgt:∀ (C:Addr) (s2:Shared) (H2:Hp) (fp:List Addr),PG (X.compT scope ys C xs s2 H2 fp) tg g)
  (hclos:closureFor scope X.env=pure (jy ys X.env)) (hyc:∀ y∈ys,X.env.kindOf y=some .cell) (hrel:∀ y∈ys,(relabel scope X.env).names.lookup y=some .cell)
  (hfr:∀ y∈scope.names,y.2=.free->y.1∈ys:=by decide +kernel) (hcell:∀ y∈scope.names,y.2≠.cell:=by decide +kernel) (hkind:scope.kind=.function:=by rfl)
  (hnames:∀ y∈scope.names,y.2=.local->scope.names.lookup y.1=some .local:=by decide +kernel) (hs:∀ x,foldedSetIterable iter X.env x=pure x:=by intro _; rfl) :
  PE X (.ListComp elt [⟨tg,iter,[],0⟩] scope pos) (yil wi g te xs.length js):=by
 refine .mk fun a s σ H Q I h=>?_;rw [eval_ListComp];refine wpAny_comprehension_free (use:=none) rfl hs hclos hkind hnames (thn (hi a s σ H _ I h) fun v F B=>thn B fun p s2 u=>?_);obtain ⟨E,fp,G,J,H2,e,r,T,d,t,h⟩:=u;subst e;refine ω (R:=fun D c=>Q (.ref D) c) (RR:=compPost (model X.prog X.w) X.A X.xe none (EP X a σ Q)) hc he hgt hcell hkind hfr hyc hrel hjs r T d t h ?_;intro D C c k m f l n q;refine ⟨m,l,fun K i=>⟨.ref D,c,?_,rfl,q⟩⟩;exact n.turned (t':=k.toks) (fun b o z e=>i.extBut b o z e) f.1 f.2.1 f.2.2.2.1 f.2.2.2.2.1 f.2.2.2.2.2
theorem yoc {H:Hp} {Q:VK} {n:Nat} (h:wi σ H fun J H1=>∀ D,H1 D=none->jv J g te n (xg js σ) D (fun H2=>Q (.ref D) H2) H1):yil wi g te n js σ H Q:=h
end
section
variable {iter elt:Expr} {x:Str} {px pos:Pos} {scope:Scope} {te:TE} {wi:TI} {pins:List (Addr × Obj)} {σ:St} {ys:List Str} {js:List Nat}
theorem ywj {J:It} {fr:St} {D:Addr} {R:Hp->Prop} {H1:Hp} (h:uj J te fr D R H1):jv J (xp 0) te 1 fr D R H1:=by
 obtain ⟨W,b,e⟩:=h;refine ⟨W,b,fun i m c w=>(e i m c w).imp id fun ⟨d,y⟩=>⟨d,fun x f a j g=>?_⟩⟩
 match a,g with
 | [z],_=>exact ⟨⟨[some x],rfl,rfl⟩,y x f j⟩
theorem Ĭ {s2:Shared} {H2:Hp} {it:Addr} {fp:List Addr} {tn:Nat->Heap->Prop} {J:It} (hc:X.calm=true)
  (he:∀ (C:Addr) (s2:Shared) (H2:Hp) (fp:List Addr),PE (X.compF scope ys C x s2 H2 fp) elt te)
  (hcell:∀ y∈scope.names,y.2≠.cell) (hkind:scope.kind=.function) (hx:scope.names.lookup x=some .local) (hnd:(x :: ys).Nodup)
  (hfr:∀ y∈scope.names,y.2=.free->y.1∈ys) (hyc:∀ y∈ys,X.env.kindOf y=some .cell) (hrel:∀ y∈ys,(relabel scope X.env).names.lookup y=some .cell) (hjs:js.map (fun j=>X.N[j]?)=ys.map some)
  (I2:Inv X pins σ H2 s2) (T:yiw X.prog X.w X.K (.Name x px) J fp it tn) (st2:tn 0 s2.heap) (f2:∀ b∈fp,ycp X pins H2 b)
  {R:Addr->Hp->Prop} (h:∀ D,H2 D=none->uj J te (xg js σ) D (R D) H2) {RR:Value->Addr->Result->Shared->Prop} {E:Value->Shared->Prop}
  (hR:∀ (D C:Addr) (H':Hp) (s':Shared) (m:Str->Option Value),ycp X pins H' C->s'.heap.Ns C m->Inv X pins σ H' s'->R D H'->RR (.ref D) C (.ok .next) s') :
  wpAny (model X.prog X.w) X.A (newList []) (fun acc s₃=>wpAny (model X.prog X.w) X.A (newFunctionEnv scope X.env.globals (jy ys X.env) [] X.env.qual none .none (some X.env)) (fun cenv s₄ =>
   codeAny (model X.prog X.w) X.A (.compStart (.ListComp elt [⟨.Name x px,iter,[],0⟩] scope pos) 0 (.ref it) acc { cenv with scope:=relabel scope X.env }) (RR acc cenv.locals) s₄) E s₃) E s2 :=
 ω (tg:=.Name x px) (xs:=[x]) (g:=xp 0) hc he (fun C s2 H2 fp=>wb (i:=0) hnd rfl (Or.inl (lookup_relabel_local hx)) (Or.inr (lookup_relabel_local hx))) hcell hkind hfr hyc hrel hjs I2 T st2 f2 (fun D a=>ywj (h D a)) hR
theorem wg (hc:X.calm=true) (hi:PI X (.Name x px) iter wi) (he:∀ (C:Addr) (s2:Shared) (H2:Hp) (fp:List Addr),PE (X.compF scope ys C x s2 H2 fp) elt te) (hjs:js.map (fun j=>X.N[j]?)=ys.map some)
  (hclos:closureFor scope X.env=pure (jy ys X.env)) (hnd:(x :: ys).Nodup:=by decide) (hyc:∀ y∈ys,X.env.kindOf y=some .cell) (hrel:∀ y∈ys,(relabel scope X.env).names.lookup y=some .cell)
  (hfr:∀ y∈scope.names,y.2=.free->y.1∈ys:=by decide +kernel) (hcell:∀ y∈scope.names,y.2≠.cell:=by decide +kernel) (hkind:scope.kind=.function:=by rfl)
  (hnames:∀ y∈scope.names,y.2=.local->scope.names.lookup y.1=some .local:=by decide +kernel) (hx:scope.names.lookup x=some .local:=by rfl) (hs:∀ x,foldedSetIterable iter X.env x=pure x:=by intro _; rfl) :
  PE X (.ListComp elt [⟨.Name x px,iter,[],0⟩] scope pos) (yih wi te js):=by
 refine .mk fun a s σ H Q I h=>?_;rw [eval_ListComp];refine wpAny_comprehension_free (use:=none) rfl hs hclos hkind hnames (thn (hi a s σ H _ I h) fun v E z=>thn z fun n s2 t=>?_);obtain ⟨B,fp,F,J,H2,e,p,T,d,r,h⟩:=t;subst e;refine Ĭ (R:=fun D c=>Q (.ref D) c) (RR:=compPost (model X.prog X.w) X.A X.xe none (EP X a σ Q)) hc he hcell hkind hx hnd hfr hyc hrel hjs p T d r h ?_;intro D C c i m f k l q;refine ⟨m,k,fun G g=>⟨.ref D,c,?_,rfl,q⟩⟩;exact l.turned (t':=i.toks) (fun b o u e=>g.extBut b o u e) f.1 f.2.1 f.2.2.2.1 f.2.2.2.2.1 f.2.2.2.2.2
theorem yjl {y:Str} {py spos:Pos} (hN:X.N.Nodup) (hy:X.N[i]?=some y) (hl:X.env.scope.names.lookup y=some .local) (hc:X.calm=true) (hi:PI X (.Name x px) iter wi)
  (he:∀ (C:Addr) (s2:Shared) (H2:Hp) (fp:List Addr),PE (X.compF scope ys C x s2 H2 fp) elt te) (hjs:js.map (fun j=>X.N[j]?)=ys.map some)
  (hclos:closureFor scope X.env=pure (jy ys X.env)) (hyc:∀ y∈ys,X.env.kindOf y=some .cell) (hrel:∀ y∈ys,(relabel scope X.env).names.lookup y=some .cell)
  (hsw:swapsWith (.ListComp elt [⟨.Name x px,iter,[],0⟩] scope pos) (some (.Name y py)) spos.line X.env=pure true:=by rfl) (hnd:(x :: ys).Nodup:=by decide)
  (hfr:∀ y∈scope.names,y.2=.free->y.1∈ys:=by decide +kernel) (hcell:∀ y∈scope.names,y.2≠.cell:=by decide +kernel) (hkind:scope.kind=.function:=by rfl)
  (hnames:∀ y∈scope.names,y.2=.local->scope.names.lookup y.1=some .local:=by decide +kernel) (hx:scope.names.lookup x=some .local:=by rfl) (hs:∀ x,foldedSetIterable iter X.env x=pure x:=by intro _; rfl) :
  PS X (.Assign [.Name y py] (.ListComp elt [⟨.Name x px,iter,[],0⟩] scope pos) spos) (ysd (yih wi te js) (xp i)):=by
 refine .mk fun a s σ H t I h=>?_;rw [exec_Assign_Name_used _ _ _ _ hsw];refine cT (wpAny_standAt (cT ?_));show wpAny _ X.A (do let _ <- comprehension (.ListComp elt [⟨.Name x px,iter,[],0⟩] scope pos) scope X.env _ (newList []) false (eval iter X.env) (some (assign (.Name y py) X.env))) _ _ s;refine cT (eS (wpAny_comprehension_free (use:=some (assign (.Name y py) X.env)) (Q:=fun _ d=>SP X a t .next d) rfl hs hclos hkind hnames (thn (hi a s σ H _ I h) fun v S E=>thn E fun K s2 B=>?_)) (fun _ d G=>dn (dn G)) fun _ _ e=>e);obtain ⟨P,fp,O,J,H2,e,L,T,n,M,h⟩:=B;subst e;refine Ĭ (R:=fun D r=>xp i (.ref D) σ r t.nx) (RR:=compPost (model X.prog X.w) X.A X.xe (some (assign (.Name y py) X.env)) (fun _ d=>SP X a t .next d)) hc he hcell hkind hx hnd hfr hyc hrel hjs L T n M h ?_;intro D C r d m f u F q;refine wpAny_assign_Name (j6 (v:=V.ref D) F hN hy (Or.inl hl) rfl (fun k g p=>?_) (Or.inr hl));refine ⟨m,?_,fun U l=>⟨_,r,?_,q⟩⟩
 .obtain ⟨b,l,c⟩:=p;refine u.sameBut l fun z=>?_;rcases c with c | c
  .exact f.2.1 (z.trans c)
  .exact f.2.2.2.2.1 y b c z.symm
 .exact g.turned (t':=k.toks) (fun b o c e=>l.extBut b o c e) f.1 f.2.1 f.2.2.2.1 f.2.2.2.2.1 f.2.2.2.2.2
end
end L2
namespace L2
open PySem PySem.Spec PyProof.Rows
section
variable {prog:Program} {w:World} {A:Around} {E:Value->Shared->Prop} {s:Shared}
theorem jk {it l:Addr} {i:Nat} {items} {x:Value} {Q:Value->Shared->Prop} (hit:s.heap.IsTupleIter it l i) (hl:s.heap.IsTuple l items) (hx:items[i]?=some x)
  (hQ:∀ h',h'.IsTupleIter it l (i+1)->Heap.SameBut it s.heap h'->Q x { s with heap:=h' }):wpAny (model prog w) A (Builtin.SmallTypes.nextOf (.ref it)) Q E s:=by
 obtain ⟨g,b,d,a⟩:=id hit;obtain ⟨h,c,_,f,e⟩:=hl;unfold Builtin.SmallTypes.nextOf;refine cT (wpAny_callSpecial?_slot (name:=Str.ofString "__next__") hit.typeIs slot_tupleiter_next (wpAny_call_entry slot_tupleiter_next hit.typeIs entry_tupleiter_next ?_ (args_tupleiter_next _)));show wpAny _ _ (field (.ref it) 0 >>= _) _ _ s;refine cT (eA b a (x:=.ref l) rfl ?_);show wpAny _ _ (if (Value.ref l == Value.none)=true then _ else _) _ _ s;rw [if_neg (show ¬ ((Value.ref l == Value.none)=true) from dE)];show wpAny _ _ (field (.ref it) 1 >>= _) _ _ s;refine cT (eA b a (x:=.int i 0) rfl ?_);show wpAny _ _ (seqItems? (.ref l) >>= _) _ _ s;refine cT (wpAny_seqItems c e ?_);simp only [Int.toNat_natCast,hx];refine cT (wpAny_setField b a (by simp) (dn ⟨x,rfl,dn (hQ _ ⟨_,Heap.get?_update_self _ b (Obj.isFreed_of_fields (Obj.data_mapFields a _)),(Obj.cls_mapFields ..).trans d,?_⟩ (Heap.SameBut.update ..))⟩));rw [Obj.data_mapFields a];simp [rawInt]
theorem ñ {it l:Addr} {i:Nat} {items} {Q:Value->Shared->Prop} (hh:A.handled=none) (hit:s.heap.IsTupleIter it l i) (hl:s.heap.IsTuple l items) (hx:items[i]?=none)
  (hE:∀ h' e,Heap.ExtBut it s.heap h'->(∃ o,h'.get? e=some o/\o.cls=.type "StopIteration")->E (.ref e) { s with heap:=h' }):wpAny (model prog w) A (Builtin.SmallTypes.nextOf (.ref it)) Q E s:=by
 obtain ⟨j,b,g,c⟩:=id hit;obtain ⟨k,d,_,h,f⟩:=hl;unfold Builtin.SmallTypes.nextOf;refine cT (wpAny_callSpecial?_slot (name:=Str.ofString "__next__") hit.typeIs slot_tupleiter_next (wpAny_call_entry slot_tupleiter_next hit.typeIs entry_tupleiter_next ?_ (args_tupleiter_next _)))
 (show wpAny _ _ (field (.ref it) 0 >>= _) _ _ s); refine cT (eA b c (x:=.ref l) rfl ?_)
 (show wpAny _ _ (if (Value.ref l == Value.none)=true then _ else _) _ _ s); rw [if_neg (show ¬ ((Value.ref l == Value.none)=true) from dE)]
 (show wpAny _ _ (field (.ref it) 1 >>= _) _ _ s); refine cT (eA b c (x:=.int i 0) rfl ?_)
 (show wpAny _ _ (seqItems? (.ref l) >>= _) _ _ s); refine cT (wpAny_seqItems d f ?_)
 simp only [Int.toNat_natCast,hx]; refine cT (wpAny_rule (cT (wpAny_setField b c (by simp) ?_)))
 (show wpAny _ _ (newExc (.type "StopIteration") [] >>= _) _ _ _); refine cT ?_
 simp only [newExc,newTuple]; refine cT (wpAny_newObj_type ?_ (by size_fits))
 refine cT (m:=firstArgMember _ _) (wpAny_of_eq (a:=Value.none) (by first | rfl | (simp only [firstArgMember]; rfl)) (wpAny_newObj_type ?_ (by size_fits)))
 simp only [raiseNew]; refine cT (wpAny_handled ?_)
 (first | rw [show A.in1.handled=none from hh] | rw [hh]); refine cT (dn (wpAny_throw ?_))
 exact hE _ _ (((Heap.SameBut.update _ ..).extBut.push _).push _) ⟨_,dz _ rfl,rfl⟩
end
section
open AutoSeq1 (wpAny_loadPart')
set_option maxRecDepth 100000
end
end L2
namespace L2
open PySem PySem.Spec PyProof.Rows
end L2
namespace L2
section
variable {σ:St} {H:Hp} {Q:VK} {td ty tx tv:TE}
theorem yv4 (h:td σ H fun x H1=>ty σ H1 fun y H2=>∃ a v,x=.ref a/\ĉ H2 a y (some v)/\Q v H2):yxq td ty σ H Q:=h
theorem yzz (h:ty σ H fun y H1=>td σ H1 fun x H2=>∃ a o,x=.ref a/\ĉ H2 a y o/\Q (.bl o.isSome) H2):va1 ty td σ H Q:=h
theorem yi1 (h:ty σ H fun y H1=>td σ H1 fun x H2=>∃ a o,x=.ref a/\ĉ H2 a y o/\Q (.bl (!o.isSome)) H2):ygx ty td σ H Q:=h
theorem ywa {nx bk ct:St->Hp->Prop} {rt:VK} (h:tv σ H fun v H1=>td σ H1 fun x H2=>ty σ H2 fun y H3=>∃ a H4,x=.ref a/\yku H3 a y v H4/\nx σ H4):yxn td ty tv ⟨nx,rt,bk,ct⟩ σ H:=h
theorem yo2 (h:∀ p,H p=none->Q (.ref p) (upd H p (.dT []))):yl4 σ H Q:=h
end
end L2
namespace L2
open PySem PySem.Spec PyProof.Rows
variable {i1 i2 l1 l2:Addr} {xs ys:Array Value} {elts:List Expr} {i k1 k2:Nat} {tpos:Pos}
def Itz (K:W.Frag) (a b:Addr):It :=
 ⟨fun i H=>∃ xs ys x y,SqL K H a xs/\SqL K H b ys/\xs[i]?=some x/\ys[i]?=some y,
  fun i H v H'=>∃ t x y,v=.ref t/\H t=none/\H'=upd H t (.tup [x,y])/\(∀ xs,SqL K H a xs->xs[i]?=some x)/\(∀ ys,SqL K H b ys->ys[i]?=some y),
  fun i H=>∃ xs ys,SqL K H a xs/\SqL K H b ys/\(xs.length <= i\/ys.length <= i)⟩
structure Zap (z TI TO i1 i2:Addr):Prop where
 a1:TI≠z
 a2:TO≠z
 a3:i1≠z
 a4:i2≠z
 a5:TI≠TO
 a6:TI≠i1
 a7:TI≠i2
 a8:TO≠i1
 a9:TO≠i2
 b1:i1≠i2
def Zst (z TI TO i1 i2 l1 l2:Addr) (i:Nat) (h:Heap):Prop:=IsZip h z TI TO .none/\IsPair h TI (.ref i1) (.ref i2)/\(∃ a b,IsPair h TO a b)/\h.IsListIter i1 l1 i/\h.IsListIter i2 l2 i
theorem uf {h:Heap} {a b:Addr} {o o':Obj} (e:h.get? a=some o) (e':h.get? b=some o') (n:o.cls≠o'.cls):a≠b:=by
 rintro rfl;rw [e] at e';cases e';exact n rfl
theorem yme (z:Nat):Zap (z+4) (z+2) (z+3) z (z+1):=by
 constructor <;> (show (_:Nat)≠(_:Nat); omega)
theorem nT {a b:String} (h:Value.type a≠Value.type b):Value.type a≠Value.type b:=h
theorem Zap.apart {X:Cx} {pins:List (Addr × Obj)} {σ:St} {H:Hp} {s:Shared} {z TI TO:Addr} {xs ys:List Value} (d:Zap z TI TO i1 i2) (st:Zst z TI TO i1 i2 l1 l2 i s.heap) (p:PlainL s.heap l1 xs.toArray) (q:PlainL s.heap l2 ys.toArray) (_:Inv X pins σ H s):ZipApart z TI TO i1 i2 l1 l2:=by
 obtain ⟨m,o,⟨a,b,c⟩,⟨r,k,l,_⟩,⟨t,j,n,_⟩⟩:=st;obtain ⟨v,h,f,_⟩:=p.isList;obtain ⟨u,e,g,_⟩:=q.isList
 exact ⟨d.a1,d.a2,d.a3,d.a4,d.a5,d.a6,d.a7,d.a8,d.a9,d.b1,
  uf h m (by rw [f]; exact nT (by decide)),uf h c (by rw [f]; exact nT (by decide)),uf h k (by rw [f,l]; decide),uf h j (by rw [f,n]; decide),
  uf e m (by rw [g]; exact nT (by decide)),uf e c (by rw [g]; exact nT (by decide)),uf e k (by rw [g,l]; decide),uf e j (by rw [g,n]; decide)⟩
theorem yi6 {P:Program} {w:World} {K:W.Frag} {x1} (l1 l2 z TI TO i1 i2:Addr) (d:Zap z TI TO i1 i2) :
  yiw P w K (.Tuple elts x1 tpos) (Itz K l1 l2) [z,TI,TO,i1,i2] z (Zst z TI TO i1 i2 l1 l2) where
 mem:=by simp
 obj:=fun i h G b g=>by
  obtain ⟨N,j,⟨_,_,m⟩,⟨o1,e1,_,d1⟩,⟨o2,e2,_,d2⟩⟩:=G;simp only [dA,List.not_mem_nil,or_false] at g;rcases g with rfl | rfl | rfl | rfl | rfl
  .exact ⟨_,N,fun v z=>by cases z⟩
  .exact ⟨_,j,fun v z=>by cases z⟩
  .exact ⟨_,m,fun v z=>by cases z⟩
  .exact ⟨o1,e1,fun v z=>by rw [d1] at z; cases z⟩
  .exact ⟨o2,e2,fun v z=>by rw [d2] at z; cases z⟩
 keep:=fun i h Y G k=>by
  obtain ⟨N,j,⟨a,b,m⟩,h1,h2⟩:=G;exact ⟨k z (by simp) _ N,k TI (by simp) _ j,⟨a,b,k TO (by simp) _ m⟩,h1.at fun o e=>k i1 (by simp) o e,h2.at fun o e=>k i2 (by simp) o e⟩
 item:=by
  intro X hP hw hK hc i O s σ H E I F G hg;subst hP hw hK;obtain ⟨xs,Z,x,y,T,L,B,hy⟩:=hg;obtain ⟨ac,rv,p,ad⟩:=I.list T;obtain ⟨a7,R,p',a0⟩:=I.list L;obtain ⟨u,hu,ru⟩:=rv.get B;obtain ⟨u',aa,ab⟩:=R.get hy;have D:=d.apart G p p' I;obtain ⟨N,j,⟨va,vb,m⟩,M,J⟩:=G;refine wpAny_pyNext_zip_item D N j m M J p.isList p'.isList (x:=u) (y:=u') (by simpa using hu) (by simpa using aa) fun Y a1 a2 a3 a4 a5 a6 hk=>?_;refine ⟨_,rfl,wpAny_letOwnedTupleGo_zip a1 fun t a8 l=>?_⟩;have C:H s.heap.objs.size=none:=I.hok.fresh (dh _);have lz:z < s.heap.objs.size:=du N;have lo:TO < s.heap.objs.size:=du m;have lI:TI < s.heap.objs.size:=du j;have af:i1 < s.heap.objs.size:=by obtain ⟨o,e,_⟩:=id M; exact du e
  have ae:i2 < s.heap.objs.size:=by obtain ⟨o,e,_⟩:=id J; exact du e
  have keep:∀ b o,b≠z->b≠TO->b≠i1->b≠i2->s.heap.get? b=some o->t.get? b=some o:=fun b o U n2 n3 n4 e=>(l.2 b U).trans (hk b o U n2 n3 n4 e);have a9:t.get? s.heap.objs.size=some { cls:=.type "tuple",data:=.seq #[u,u'] }:=(l.2 _ (Nat.ne_of_gt lz)).trans a5;have nt:∀ {b v},H b=some v->b≠z/\b≠TO/\b≠i1/\b≠i2:=fun {b v} e=>⟨yd e (F z (by simp)).1,yd e (F TO (by simp)).1,yd e (F i1 (by simp)).1,yd e (F i2 (by simp)).1⟩
  have Q:HOk X.prog X.w (upd H s.heap.objs.size (.tup [x,y])) t:=fun b o e=>by
   by_cases g:b=s.heap.objs.size
   .subst g;rw [yc] at e;cases e;exact ⟨by show 2 <= sizeLine; decide,[u,u'],.cons ru (.cons ab .nil),⟨_,a9,rfl,_,rfl⟩⟩
   .rw [yn g] at e;refine (I.hok b o e).stay (fun c v r q=>?_) (fun c q=>by rw [yn (yd q C)]; exact q) fun c Z q=>by rw [yn (yd q C)]; exact q
    obtain ⟨U,n2,n3,n4⟩:c≠z/\c≠TO/\c≠i1/\c≠i2:=by
     rcases r with rfl | r
     .exact nt e
     .exact nt r
    exact keep c v U n2 n3 n4 q
  have un:Un (frs X.stack) [z,TI,TO,i1,i2] H (upd H s.heap.objs.size (.tup [x,y])) s.heap t:=by
   have S:∀ {b o},b∉[z,TI,TO,i1,i2]->s.heap.get? b=some o->t.get? b=some o:=fun {b o} g e=>keep b o (fun q=>g (by simp [q])) (fun q=>g (by simp [q])) (fun q=>g (by simp [q])) (fun q=>g (by simp [q])) e
   refine ⟨fun b o e n _ B=>S B e,fun b o e n _ B=>⟨o.slots,S B e⟩,fun b o e n _=>by rw [yn (dH (du e))]; exact n,fun b o e B=>⟨o,S B e⟩,
    fun b Z e=>by rw [yn (yd e C)]; exact e,fun b o v e=>by rw [yn (yd e C)]; exact e,fun b ps e=>⟨#[],by rw [yn (yd e C),e]; simp⟩⟩
  have I1:Inv X O σ (upd H s.heap.objs.size (.tup [x,y])) { s with heap:=t }:=I.call' (s':={ s with heap:=t }) rfl un Q I.bare fun b g=>by
   have f:=F b g;exact ⟨f.2.2.2.1,f.2.1,f.2.2.2.2.1,f.2.2.2.2.2⟩
  refine ⟨.ref s.heap.objs.size,_,I1,rfl,⟨_,x,y,rfl,C,rfl,fun zs h=>by rw [I.list_inj h T]; exact B,fun zs h=>by rw [I.list_inj h L]; exact hy⟩,?_,fun b g=>?_⟩
  .exact ⟨a8,keep _ _ D.TIz D.TITO D.TIi1 D.TIi2 j,⟨u,u',(l.2 _ D.TOz).trans a2⟩,a3.at fun o e=>(l.2 _ D.i1z).trans e,a4.at fun o e=>(l.2 _ D.i2z).trans e⟩
  .rw [yn (fun q=>?_)]
   .exact (F b g).1
   .have T:b < s.heap.objs.size:=by
     simp only [dA,List.not_mem_nil,or_false] at g;rcases g with rfl | rfl | rfl | rfl | rfl <;> assumption
    exact absurd q (dH T)
 done:=by
  intro X hP hw hK hc i O s σ H E I F G hg;subst hP hw hK;obtain ⟨xs,Z,T,L,B⟩:=hg;obtain ⟨ac,rv,p,ad⟩:=I.list T;obtain ⟨a7,R,p',a0⟩:=I.list L;have D:=d.apart G p p' I;obtain ⟨N,j,⟨va,vb,m⟩,M,J⟩:=G;have hl:=rv.length;have ag:=R.length;refine wpAny_pyNext_zip_end (show X.A.handled=none from I.ok.hd hc) D N j m M J p.isList p'.isList (by simp; omega) fun Y hk=>⟨rfl,?_⟩;have nt:∀ {b v},H b=some v->b≠z/\b≠TO/\b≠i1/\b≠i2:=fun {b v} e=>⟨yd e (F z (by simp)).1,yd e (F TO (by simp)).1,yd e (F i1 (by simp)).1,yd e (F i2 (by simp)).1⟩
  have Q:HOk X.prog X.w H Y:=fun b o e=>by
   refine (I.hok b o e).stay (fun c v r q=>?_) (fun c q=>q) fun c Z q=>q
   obtain ⟨U,n2,n3,n4⟩:c≠z/\c≠TO/\c≠i1/\c≠i2:=by
    rcases r with rfl | r
    .exact nt e
    .exact nt r
   exact hk c v U n2 n3 n4 q
  have un:Un (frs X.stack) [z,TI,TO,i1,i2] H H s.heap Y:=by
   have S:∀ {b o},b∉[z,TI,TO,i1,i2]->s.heap.get? b=some o->Y.get? b=some o:=fun {b o} g e=>hk b o (fun q=>g (by simp [q])) (fun q=>g (by simp [q])) (fun q=>g (by simp [q])) (fun q=>g (by simp [q])) e;exact ⟨fun b o e n _ B=>S B e,fun b o e n _ B=>⟨o.slots,S B e⟩,fun b o e n _=>n,fun b o e B=>⟨o,S B e⟩,fun b Z e=>e,fun b o v e=>e,fun b ps e=>⟨#[],by rw [e]; simp⟩⟩
  exact I.call' (s':={ s with heap:=Y }) rfl un Q I.bare fun b g=>by
   have f:=F b g;exact ⟨f.2.2.2.1,f.2.1,f.2.2.2.2.1,f.2.2.2.2.2⟩
 self:=fun _ _ _ _ _ G h=>wpAny_pyIter_zip G.1 h
section
variable {X:Cx}
def va7 (K:W.Frag) (ta:TA):TI:=fun σ H R=>ta σ H fun vs H1=>∃ a b,vs=[.ref a,.ref b]/\(∃ xs ys,SqL K H1 a xs/\SqL K H1 b ys)/\R (Itz K a b) H1
theorem ymd {x1} {l m:Expr} {ta:TA} {p pos:Pos} (hg:Gl X "zip") (hm:X.mg "zip"=none) (ha:PA X [l,m] ta) (hs:starEach [l,m] X.env=[(false,eval l X.env),(false,eval m X.env)]:=by rfl) (hs2:starEach [m] X.env=[(false,eval m X.env)]:=by rfl) :
  PI X (.Tuple elts x1 tpos) (.Call (.Name "zip" p) [l,m] [] pos) (va7 X.K ta):=by
 intro d s σ H R I h;refine Call_ (Ć I hg hm (show bootBuiltins "zip"=some (.type "zip") by decide +kernel) (PyProof.Rows.callWith_type1 (thn (ha pos d s σ H _ I h) fun M c h'=>?_) (by rw [hs,hs2]) (by rw [hs2]; rfl)));obtain ⟨N,G,f,A,v⟩:=h';obtain ⟨a,b,e,⟨P,J,D,j⟩,q⟩:=v;subst e
 cases A with
 | cons r rr =>
  cases rr with
  | cons r' rr =>
   cases rr;cases r;cases r';obtain ⟨E,L,y,k⟩:=f.list D;obtain ⟨u,C,i,x⟩:=f.list j;refine call_zip_2 y.isList i.isList fun O k n o B z w F=>?_;refine wpAny_pyIter_zip k ?_;have t:Zap (c.heap.objs.size+4) (c.heap.objs.size+2) (c.heap.objs.size+3) c.heap.objs.size (c.heap.objs.size+1):=yme _;refine ⟨c.heap.objs.size+4,[c.heap.objs.size+4,c.heap.objs.size+2,c.heap.objs.size+3,c.heap.objs.size,c.heap.objs.size+1],_,_,G,rfl,f.kept (t':=c.toks) F,yi6 a b _ _ _ _ _ t,⟨k,n,⟨_,_,o⟩,B,z⟩,fun b g=>?_,q⟩
   have g:c.heap.objs.size <= b:=by
    simp only [dA,List.not_mem_nil,or_false] at g;rcases g with rfl | rfl | rfl | rfl | rfl <;> omega
   exact f.fpOk g (f.hok.fresh g)
theorem yvk {K:W.Frag} {ta:TA} {σ:St} {H:Hp} {R:It->Hp->Prop} (h:ta σ H fun vs H1=>∃ a b,vs=[.ref a,.ref b]/\(∃ xs ys,SqL K H1 a xs/\SqL K H1 b ys)/\R (Itz K a b) H1):va7 K ta σ H R:=h
end
theorem ĥ {K:W.Frag} {a b D:Addr} {xs ys:List V} {g:TG} {te:TE} {n:Nat} {fr:St} {R:Hp->Prop} {H1:Hp} (f:Nat->V) (hq:SqL K H1 a xs) (hq':SqL K H1 b ys) (hl:ys.length=xs.length) (hD:H1 D=none)
  (hs:∀ i x y H t pre,xs[i]?=some x->ys[i]?=some y->yw H1 H->H D=some (.lst ((List.range i).map f))->H t=none->List.length pre=n->g (.ref t) (pre++fr) (upd H t (.tup [x,y])) fun σ' H'=>(∃ pre',List.length pre'=n/\σ'=pre'++fr)/\te σ' H' (MpK H1 D f xs.length i))
  (hd:∀ H,yw H1 H->H D=some (.lst ((List.range xs.length).map f))->R H):jv (Itz K a b) g te n fr D R H1:=by
 refine ⟨cW xs.length (Mp H1 D f),⟨xs.length,by simp,dJ _,Mp.zero hD⟩,?_⟩;rintro i m H ⟨rfl,o,p⟩;have q:=p.1.seq hq;have c:=p.1.seq hq';by_cases hlt:i < xs.length
 .refine .inr ⟨⟨xs,ys,xs[i],ys[i]'(by omega),q,c,by simp [hlt],by simp [hl,hlt]⟩,fun y H' pre k d=>?_⟩;obtain ⟨t,x,y,rfl,j,rfl,h,l⟩:=k;exact hs i x y H t pre (h xs q) (l ys c) p.1 p.2 j d
 .have e:i=xs.length:=by omega
  subst e;exact .inl ⟨⟨xs,ys,q,c,.inl (dh _)⟩,hd H p.1 p.2⟩
section
variable {X:Cx} {iter elt tg:Expr} {xs:List Str} {g:TG} {pos:Pos} {scope:Scope} {te:TE} {wi:TI} {ys:List Str} {js:List Nat}
theorem yj1 {y:Str} {py spos:Pos} (hN:X.N.Nodup) (hy:X.N[i]?=some y) (hl:X.env.scope.names.lookup y=some .local) (hc:X.calm=true) (hi:PI X tg iter wi)
  (he:∀ (C:Addr) (s2:Shared) (H2:Hp) (fp:List Addr),PE (X.compT scope ys C xs s2 H2 fp) elt te) (hjs:js.map (fun j=>X.N[j]?)=ys.map some)
  (hgt:∀ (C:Addr) (s2:Shared) (H2:Hp) (fp:List Addr),PG (X.compT scope ys C xs s2 H2 fp) tg g)
  (hclos:closureFor scope X.env=pure (jy ys X.env)) (hyc:∀ y∈ys,X.env.kindOf y=some .cell) (hrel:∀ y∈ys,(relabel scope X.env).names.lookup y=some .cell)
  (hsw:swapsWith (.ListComp elt [⟨tg,iter,[],0⟩] scope pos) (some (.Name y py)) spos.line X.env=pure true:=by rfl)
  (hfr:∀ y∈scope.names,y.2=.free->y.1∈ys:=by decide +kernel) (hcell:∀ y∈scope.names,y.2≠.cell:=by decide +kernel) (hkind:scope.kind=.function:=by rfl)
  (hnames:∀ y∈scope.names,y.2=.local->scope.names.lookup y.1=some .local:=by decide +kernel) (hs:∀ x,foldedSetIterable iter X.env x=pure x:=by intro _; rfl) :
  PS X (.Assign [.Name y py] (.ListComp elt [⟨tg,iter,[],0⟩] scope pos) spos) (ysd (yil wi g te xs.length js) (xp i)):=by
 refine .mk fun a s σ H u I h=>?_;rw [exec_Assign_Name_used _ _ _ _ hsw];refine cT (wpAny_standAt (cT ?_));show wpAny _ X.A (do let _ <- comprehension (.ListComp elt [⟨tg,iter,[],0⟩] scope pos) scope X.env _ (newList []) false (eval iter X.env) (some (assign (.Name y py) X.env))) _ _ s;refine cT (eS (wpAny_comprehension_free (use:=some (assign (.Name y py) X.env)) (Q:=fun _ d=>SP X a u .next d) rfl hs hclos hkind hnames (thn (hi a s σ H _ I h) fun v U F=>thn F fun L s2 E=>?_)) (fun _ d K=>dn (dn K)) fun _ _ e=>e);obtain ⟨S,fp,P,J,H2,e,M,T,p,O,h⟩:=E;subst e;refine ω (R:=fun D t=>xp i (.ref D) σ t u.nx) (RR:=compPost (model X.prog X.w) X.A X.xe (some (assign (.Name y py) X.env)) (fun _ d=>SP X a u .next d)) hc he hgt hcell hkind hfr hyc hrel hjs M T p O h ?_;intro D C t d m f B G q;refine wpAny_assign_Name (j6 (v:=V.ref D) G hN hy (Or.inl hl) rfl (fun l k r=>?_) (Or.inr hl));refine ⟨m,?_,fun W n=>⟨_,t,?_,q⟩⟩
 .obtain ⟨b,n,c⟩:=r;refine B.sameBut n fun z=>?_;rcases c with c | c
  .exact f.2.1 (z.trans c)
  .exact f.2.2.2.2.1 y b c z.symm
 .exact k.turned (t':=l.toks) (fun b o c e=>n.extBut b o c e) f.1 f.2.1 f.2.2.2.1 f.2.2.2.2.1 f.2.2.2.2.2
end
section
variable {X:Cx}
def onI (f:Int->Int):V->V
 | .int i=>.int (f i)
 | v=>v
theorem yg9 (f:Int->Int) (ns:List Int):(ns.map V.int).map (onI f)=(ns.map f).map V.int:=by
 rw [dX,dX];rfl
theorem yig {pre:List (Option V)} (h:List.length pre=2):∃ v1 v2,pre=[v1,v2]:=by
 match pre,h with
 | [v1,v2],_=>exact ⟨v1,v2,rfl⟩
end
theorem yum {to ti:TE} {t:yyj} {v:V} {σ:St} {H:Hp} {Q:St->Hp->Prop} (h:to σ H fun o H1=>ti σ H1 fun i H2=>t o i v H2 fun H3=>Q σ H3):vax to ti t v σ H Q:=h
section
variable {X:Cx}
def yxz:V->List V->Hp->VK->Prop:=fun x vs H Q=>∃ i:Int,x=.int i/\vs=[]/\Q (.int (Builtin.Int.intBits i:Nat)) H
theorem yng:MtR X "int.bit_length" yxz:=by
 intro b s σ H x e v f Q I d c h;obtain ⟨i,rfl,rfl,q⟩:=h;obtain ⟨t,rfl⟩:=d;have a:=c.zero;subst a;exact PyProof.Rows.call_int_bit_length ⟨.int _,H,I.tok _,⟨_,rfl⟩,q⟩
theorem ys2 {K:W.Frag} {i:Int} {H:Hp} {Q:VK} (h:Q (.int (Builtin.Int.intBits i:Nat)) H):tyV K "int" (.int i) H/\yxz (.int i) [] H Q:=⟨rfl,i,rfl,rfl,h⟩
end
section
variable {prog:Program} {w:World} {A:Around} {E:Value->Shared->Prop} {s:Shared}
theorem yi9 {z TI TO:Addr} {x y a b:Value} {Q:Value->Shared->Prop} (D:ZipApart z TI TO i1 i2 l1 l2) (hz:IsZip s.heap z TI TO .none) (hTI:IsPair s.heap TI (.ref i1) (.ref i2)) (hTO:IsPair s.heap TO a b)
  (h1:s.heap.IsTupleIter i1 l1 k1) (h2:s.heap.IsTupleIter i2 l2 k2) (hl1:s.heap.IsTuple l1 xs) (hl2:s.heap.IsTuple l2 ys) (hx:xs[k1]?=some x) (hy:ys[k2]?=some y)
  (hQ:∀ h',IsZip h' z TI TO (rawInt s.heap.objs.size)->IsPair h' TO x y->h'.IsTupleIter i1 l1 (k1+1)->h'.IsTupleIter i2 l2 (k2+1)->IsPair h' s.heap.objs.size x y->h'.objs.size=s.heap.objs.size+1->(∀ c o,c≠z->c≠TO->c≠i1->c≠i2->s.heap.get? c=some o->h'.get? c=some o)->Q (.ref s.heap.objs.size) { s with heap:=h' }) :
  wpAny (model prog w) A (Builtin.«zip.__next__» ⟨[.ref z],[]⟩) (fun fin s'=>∃ v,fin=.done (.ret v)/\Q v s') E s:=by
 (show wpAny _ _ (field (.ref z) 2 >>= _) _ _ _); refine cT (eA hz rfl (x:=.bool false) rfl ?_)
 (show wpAny _ _ (field (.ref z) 3 >>= _) _ _ _); refine cT (eA hz rfl (x:=.ref TI) rfl ?_); refine cT (wpAny_seqItems hTI rfl ?_)
 (show wpAny _ _ (Builtin.SmallTypes.ownedTupleIsFree (.ref z) >>= _) _ _ _); refine cT ?_; unfold Builtin.SmallTypes.ownedTupleIsFree
 refine cT (eA hz rfl (x:=.none) rfl (dn ?_)); simp only [if_true]; refine cT (wpAny_rule ?_);refine cT (eA hz rfl (x:=.ref TO) rfl ?_); refine cT (wpAny_setField_rec hz (by simp) fun h₁ hz₁ hs₁=>?_)
 replace hz₁:IsZip h₁ z TI TO .ellipsis:=hz₁; refine cT ?_; simp only [List.zipIdx_cons,List.zipIdx_nil,List.forIn_cons,List.forIn_nil]
 refine cT (cT (wpAny_onRaise ?_)); (show wpAny _ _ (Builtin.SmallTypes.nextOf (.ref i1) >>= _) _ _ _);refine cT (jk (h1.at fun o e=>hs₁.extBut _ _ D.i1z e) (hl1.extBut hs₁.extBut D.l1z) hx fun h₂ h1₂ hs₂=>dn ?_);have hTO₂:IsPair h₂ TO a b:=hs₂.extBut _ _ D.TOi1 (hs₁.extBut _ _ D.TOz hTO); refine cT (wpAny_seqItems hTO₂ rfl ?_);refine cT (wpAny_updateSeq_pair hTO₂ fun h₃ hTO₃ hs₃=>?_); replace hTO₃:IsPair h₃ TO x b:=hTO₃; refine cT (wpAny_letGo (dn ?_));refine cT (cT (wpAny_onRaise ?_)); (show wpAny _ _ (Builtin.SmallTypes.nextOf (.ref i2) >>= _) _ _ _);refine cT (jk (h2.at fun o e=>hs₃.extBut _ _ D.TOi2.symm (hs₂.extBut _ _ D.i12.symm (hs₁.extBut _ _ D.i2z e))) (((hl2.extBut hs₁.extBut D.l2z).extBut hs₂.extBut D.l2i1).extBut hs₃.extBut D.l2TO) hy fun h₄ h2₄ hs₄=>dn ?_);have hTO₄:IsPair h₄ TO x b:=hs₄.extBut _ _ D.TOi2 hTO₃; refine cT (wpAny_seqItems hTO₄ rfl ?_);refine cT (wpAny_updateSeq_pair hTO₄ fun h₅ hTO₅ hs₅=>?_); replace hTO₅:IsPair h₅ TO x y:=hTO₅; refine cT (wpAny_letGo (dn (dn ?_)));refine cT (wpAny_seqItems hTO₅ rfl ?_); refine cT (wpAny_newTuple ?_);have g:h₅.objs.size=s.heap.objs.size:=by (rw [hs₅.1,hs₄.1,hs₃.1,hs₂.1,hs₁.1])
 have hz₅:IsZip h₅ z TI TO .ellipsis:=(hs₅.extBut _ _ D.TOz.symm (hs₄.extBut _ _ D.i2z.symm (hs₃.extBut _ _ D.TOz.symm (hs₂.extBut _ _ D.i1z.symm hz₁))));have hk₅:∀ c o,c≠z->c≠TO->c≠i1->c≠i2->s.heap.get? c=some o->h₅.get? c=some o:=fun c o f j m l e=>hs₅.extBut _ _ j (hs₄.extBut _ _ l (hs₃.extBut _ _ j (hs₂.extBut _ _ m (hs₁.extBut _ _ f e))));have h1₅:h₅.IsTupleIter i1 l1 (k1+1):=h1₂.at fun o e=>hs₅.extBut _ _ D.TOi1.symm (hs₄.extBut _ _ D.i12 (hs₃.extBut _ _ D.TOi1.symm e));have h2₅:h₅.IsTupleIter i2 l2 (k2+1):=h2₄.at fun o e=>hs₅.extBut _ _ D.TOi2.symm e;have d:z < h₅.objs.size:=(du hz₅)
 (show wpAny _ _ (Builtin.SmallTypes.ownedTupleHandOut (.ref z) (.ref h₅.objs.size) >>= _) _ _ _); refine cT ?_; unfold Builtin.SmallTypes.ownedTupleHandOut
 have hz₆:IsZip (h₅.push { cls:=.type "tuple",data:=.seq #[x,y] }) z TI TO .ellipsis:=(de _ hz₅);refine cT (wpAny_setField_rec hz₆ (by simp) fun h₇ hz₇ hs₇=>?_); replace hz₇:IsZip h₇ z TI TO (rawInt h₅.objs.size):=hz₇;refine wpAny_setField_rec hz₇ (by simp) fun h₈ hz₈ hs₈=>?_; replace hz₈:IsZip h₈ z TI TO (rawInt h₅.objs.size):=hz₈;have k:∀ c o,c≠z->h₅.get? c=some o->h₈.get? c=some o:=(fun c o f e=>hs₈.extBut _ _ f (hs₇.extBut _ _ f (de _ e)));have hT₈:IsPair h₈ h₅.objs.size x y:=(hs₈.extBut _ _ (Nat.ne_of_gt d) (hs₇.extBut _ _ (Nat.ne_of_gt d) (dz _ rfl)));have i:h₈.objs.size=h₅.objs.size+1:=by (rw [hs₈.1,hs₇.1,Heap.size_push])
 (rw [g] at hz₈ hT₈ i); refine dn ⟨_,rfl,?_⟩; show Q (.ref h₅.objs.size) _; rw [g]
 exact hQ h₈ hz₈ (k _ _ D.TOz hTO₅) (h1₅.at fun o e=>k _ o D.i1z e) (h2₅.at fun o e=>k _ o D.i2z e) hT₈ i (fun c o f j m l e=>k c o f (hk₅ c o f j m l e))
theorem ynk {z TI TO:Addr} {a b:Value} {Q:Fin->Shared->Prop} (hh:A.handled=none) (D:ZipApart z TI TO i1 i2 l1 l2) (hz:IsZip s.heap z TI TO .none) (hTI:IsPair s.heap TI (.ref i1) (.ref i2)) (hTO:IsPair s.heap TO a b)
  (h1:s.heap.IsTupleIter i1 l1 k1) (h2:s.heap.IsTupleIter i2 l2 k2) (hl1:s.heap.IsTuple l1 xs) (hl2:s.heap.IsTuple l2 ys) (hend:xs[k1]?=none\/ys[k2]?=none)
  (hE:∀ h' e,(∀ c o,c≠z->c≠TO->c≠i1->c≠i2->s.heap.get? c=some o->h'.get? c=some o)->(∃ o,h'.get? e=some o/\o.cls=.type "StopIteration")->E (.ref e) { s with heap:=h' }):wpAny (model prog w) A (Builtin.«zip.__next__» ⟨[.ref z],[]⟩) Q E s:=by
 (show wpAny _ _ (field (.ref z) 2 >>= _) _ _ _); refine cT (eA hz rfl (x:=.bool false) rfl ?_)
 (show wpAny _ _ (field (.ref z) 3 >>= _) _ _ _); refine cT (eA hz rfl (x:=.ref TI) rfl ?_); refine cT (wpAny_seqItems hTI rfl ?_)
 (show wpAny _ _ (Builtin.SmallTypes.ownedTupleIsFree (.ref z) >>= _) _ _ _); refine cT ?_; unfold Builtin.SmallTypes.ownedTupleIsFree
 refine cT (eA hz rfl (x:=.none) rfl (dn ?_)); simp only [if_true]; refine cT (wpAny_rule ?_);refine cT (eA hz rfl (x:=.ref TO) rfl ?_); refine cT (wpAny_setField_rec hz (by simp) fun h₁ hz₁ hs₁=>?_)
 replace hz₁:IsZip h₁ z TI TO .ellipsis:=hz₁; refine cT ?_; simp only [List.zipIdx_cons,List.zipIdx_nil,List.forIn_cons,List.forIn_nil]
 refine cT (cT (wpAny_onRaise ?_)); (show wpAny _ _ (Builtin.SmallTypes.nextOf (.ref i1) >>= _) _ _ _)
 cases hx:xs[k1]? with
 | none =>
  refine cT (ñ hh (h1.at fun o e=>hs₁.extBut _ _ D.i1z e) (hl1.extBut hs₁.extBut D.l1z) hx fun h₂ e hs₂ l=>?_);obtain ⟨k,d,f⟩:=l; have hz₂:IsZip h₂ z TI TO .ellipsis:=hs₂ _ _ D.i1z.symm hz₁;have g:e≠z:=(fun x=>by (subst x; rw [hz₂] at d; cases d; simp at f));exact wpAny_setField_rec hz₂ (by simp) fun h₃ _ hs₃=>hE h₃ e (fun c o i _ j _ x=>hs₃.extBut _ _ i (hs₂ _ _ j (hs₁.extBut _ _ i x))) ⟨k,hs₃.extBut _ _ g d,f⟩
 | some x =>
  have p:ys[k2]?=none:=by (rcases hend with h | h; (rw [hx] at h; cases h); exact h)
  refine cT (jk (h1.at fun o e=>hs₁.extBut _ _ D.i1z e) (hl1.extBut hs₁.extBut D.l1z) hx fun h₂ h1₂ hs₂=>dn ?_);have hTO₂:IsPair h₂ TO a b:=(hs₂.extBut _ _ D.TOi1 (hs₁.extBut _ _ D.TOz hTO)); refine cT (wpAny_seqItems hTO₂ rfl ?_);refine cT (wpAny_updateSeq_pair hTO₂ fun h₃ hTO₃ hs₃=>?_); refine cT (wpAny_letGo (dn ?_));refine cT (cT (wpAny_onRaise ?_)); (show wpAny _ _ (Builtin.SmallTypes.nextOf (.ref i2) >>= _) _ _ _);refine cT (ñ hh (h2.at fun o e=>hs₃.extBut _ _ D.TOi2.symm (hs₂.extBut _ _ D.i12.symm (hs₁.extBut _ _ D.i2z e))) (((hl2.extBut hs₁.extBut D.l2z).extBut hs₂.extBut D.l2i1).extBut hs₃.extBut D.l2TO) p fun h₄ e hs₄ l=>?_);obtain ⟨k,d,f⟩:=l; have hz₄:IsZip h₄ z TI TO .ellipsis:=hs₄ _ _ D.i2z.symm (hs₃.extBut _ _ D.TOz.symm (hs₂.extBut _ _ D.i1z.symm hz₁));have g:e≠z:=(fun x=>by (subst x; rw [hz₄] at d; cases d; simp at f));exact wpAny_setField_rec hz₄ (by simp) fun h₅ _ hs₅=>hE h₅ e (fun c o i n j m x=>hs₅.extBut _ _ i (hs₄ _ _ m (hs₃.extBut _ _ n (hs₂.extBut _ _ j (hs₁.extBut _ _ i x))))) ⟨k,hs₅.extBut _ _ g d,f⟩
theorem yjs {z TI TO:Addr} {x y a b:Value} {Q:Option Value->Shared->Prop} (D:ZipApart z TI TO i1 i2 l1 l2) (hz:IsZip s.heap z TI TO .none) (hTI:IsPair s.heap TI (.ref i1) (.ref i2)) (hTO:IsPair s.heap TO a b)
  (h1:s.heap.IsTupleIter i1 l1 k1) (h2:s.heap.IsTupleIter i2 l2 k2) (hl1:s.heap.IsTuple l1 xs) (hl2:s.heap.IsTuple l2 ys) (hx:xs[k1]?=some x) (hy:ys[k2]?=some y)
  (hQ:∀ h',IsZip h' z TI TO (rawInt s.heap.objs.size)->IsPair h' TO x y->h'.IsTupleIter i1 l1 (k1+1)->h'.IsTupleIter i2 l2 (k2+1)->IsPair h' s.heap.objs.size x y->h'.objs.size=s.heap.objs.size+1->(∀ c o,c≠z->c≠TO->c≠i1->c≠i2->s.heap.get? c=some o->h'.get? c=some o)->Q (some (.ref s.heap.objs.size)) { s with heap:=h' }) :
  wpAny (model prog w) A (pyNext (.ref z)) Q E s:=by
 have d:s.TypeIs (.ref z) "zip":=(⟨_,hz,rfl⟩); unfold pyNext;exact cT (wpAny_attempt (wpAny_callSpecial?_slot (name:=Str.ofString "__next__") d F.slot_zip_next (wpAny_call_entry F.slot_zip_next d F.entry_zip_next
   (yi9 D hz hTI hTO h1 h2 hl1 hl2 hx hy fun h' k i j g h f e=>dn (hQ h' k i j g h f e)) (F.args_zip_next_1 _))))
theorem yj3 {z TI TO:Addr} {a b:Value} {Q:Option Value->Shared->Prop} (hh:A.handled=none) (D:ZipApart z TI TO i1 i2 l1 l2) (hz:IsZip s.heap z TI TO .none) (hTI:IsPair s.heap TI (.ref i1) (.ref i2)) (hTO:IsPair s.heap TO a b)
  (h1:s.heap.IsTupleIter i1 l1 k1) (h2:s.heap.IsTupleIter i2 l2 k2) (hl1:s.heap.IsTuple l1 xs) (hl2:s.heap.IsTuple l2 ys) (hend:xs[k1]?=none\/ys[k2]?=none)
  (hQ:∀ h',(∀ c o,c≠z->c≠TO->c≠i1->c≠i2->s.heap.get? c=some o->h'.get? c=some o)->Q none { s with heap:=h' }):wpAny (model prog w) A (pyNext (.ref z)) Q E s:=by
 have d:s.TypeIs (.ref z) "zip":=(⟨_,hz,rfl⟩); unfold pyNext;refine cT (wpAny_attempt (wpAny_callSpecial?_slot (name:=Str.ofString "__next__") d F.slot_zip_next (wpAny_call_entry F.slot_zip_next d F.entry_zip_next
  (ynk hh D hz hTI hTO h1 h2 hl1 hl2 hend fun h' e f i=>?_) (F.args_zip_next_1 _))))
 obtain ⟨o,g,h⟩:=i; refine cT (wpAny_isInstance (T:="StopIteration") (b:=true) ⟨o,g,h⟩ isSubtype_stop ?_);exact dn (hQ _ f)
end
abbrev zT1 (h:Heap) (l1:Addr):Heap:=h.push { cls:=.type "tuple_iterator",data:=.fields #[.ref l1,.int 0 0] }
abbrev zT2 (h:Heap) (l1 l2:Addr):Heap:=(zT1 h l1).push { cls:=.type "tuple_iterator",data:=.fields #[.ref l2,.int 0 0] }
abbrev zT3 (h:Heap) (l1 l2:Addr):Heap:=(zT2 h l1 l2).push { cls:=.type "tuple",data:=.seq #[.ref h.objs.size,.ref (zT1 h l1).objs.size] }
abbrev zT4 (h:Heap) (l1 l2:Addr):Heap:=(zT3 h l1 l2).push { cls:=.type "tuple",data:=.seq #[.none,.none] }
abbrev zT5 (h:Heap) (l1 l2:Addr):Heap:=(zT4 h l1 l2).push { cls:=.type "zip",data:=.fields #[.none,.bool false,.bool false,.ref (zT2 h l1 l2).objs.size,.ref (zT3 h l1 l2).objs.size] }
theorem yof (l1 l2:Addr) (xs ys:Array Value):Meets (Builtin.«zip.__new__» ⟨[.type "zip",.ref l1,.ref l2],[]⟩) (fun _ R s=>s.heap.IsTuple l1 xs/\s.heap.IsTuple l2 ys/\R (.ok (.ret (.ref (zT4 s.heap l1 l2).objs.size))) { s with heap:=zT5 s.heap l1 l2 }) :=
 .of_wp fun l w A R s h=>by
  obtain ⟨i,g,d,j,k⟩:=s;obtain ⟨e,a,h⟩:=h;have f:=sub_zip;have c:Heap.IsTuple (Shared.heap ⟨i,g,d,j,k⟩) l1 xs:=e;have b:Heap.IsTuple (Shared.heap ⟨i.push { cls:=.type "tuple_iterator",data:=.fields #[.ref l1,.int 0 0] },g,d,j,k⟩) l2 ys:=Heap.IsTuple.push a _
  wp_walk using wpAny_pyIter_tuple c,wpAny_pyIter_tuple b
  exact ⟨_,rfl,h⟩
section
variable {prog:Program} {w:World} {A:Around} {E:Value->Shared->Prop} {s:Shared}
theorem yj6 {Q:Value->Shared->Prop} (hl1:s.heap.IsTuple l1 xs) (hl2:s.heap.IsTuple l2 ys)
  (h:∀ h',IsZip h' (s.heap.objs.size+4) (s.heap.objs.size+2) (s.heap.objs.size+3) .none->IsPair h' (s.heap.objs.size+2) (.ref s.heap.objs.size) (.ref (s.heap.objs.size+1))->IsPair h' (s.heap.objs.size+3) .none .none->h'.IsTupleIter s.heap.objs.size l1 0->h'.IsTupleIter (s.heap.objs.size+1) l2 0 ->
   (∀ c o,s.heap.get? c=some o->h'.get? c=some o)->Q (.ref (s.heap.objs.size+4)) { s with heap:=h' }):wpAny (model prog w) A (call (.type "zip") [.ref l1,.ref l2]) Q E s:=by
 refine callType_new F.called_zip (by decide) (F.typeCall_zip_2 _ _) (F.newCall_zip_2 _ _) (fun e=>F.args_object_init_3 e _ _) F.entry_zip_new (yof l1 l2 xs ys) ⟨hl1,hl2,?_⟩;have b:(zT1 s.heap l1).objs.size=s.heap.objs.size+1:=Heap.size_push ..;have d:(zT2 s.heap l1 l2).objs.size=s.heap.objs.size+2:=by rw [Heap.size_push,b]
 have a:(zT3 s.heap l1 l2).objs.size=s.heap.objs.size+3:=by rw [Heap.size_push,d]
 have f:(zT4 s.heap l1 l2).objs.size=s.heap.objs.size+4:=by rw [Heap.size_push,a]
 have g5:(zT5 s.heap l1 l2).get? (zT4 s.heap l1 l2).objs.size=some _:=dz _ rfl;have g4:(zT5 s.heap l1 l2).get? (zT3 s.heap l1 l2).objs.size=some _:=de _ (dz _ rfl);have g3:(zT5 s.heap l1 l2).get? (zT2 s.heap l1 l2).objs.size=some _:=de _ (de _ (dz _ rfl));have g2:(zT5 s.heap l1 l2).get? (zT1 s.heap l1).objs.size=some _:=de _ (de _ (de _ (dz _ rfl)));have g1:(zT5 s.heap l1 l2).get? s.heap.objs.size=some _:=(de _ (de _ (de _ (de _ (dz _ rfl)))));show _/\_;rw [d,a,f] at g5;rw [b,d] at g3;rw [a] at g4;rw [b] at g2;rw [f];exact ⟨⟨_,g5,rfl⟩,h _ g5 g3 g4 ⟨_,g1,rfl,rfl⟩ ⟨_,g2,rfl,rfl⟩ fun c o x=>(de _ (de _ (de _ (de _ (de _ x)))))⟩
end
def yx6 (K:W.Frag) (a b:Addr):It :=
 ⟨fun i H=>∃ xs ys x y,SqT K H a xs/\SqT K H b ys/\xs[i]?=some x/\ys[i]?=some y,
  fun i H v H'=>∃ t x y,v=.ref t/\H t=none/\H'=upd H t (.tup [x,y])/\(∀ xs,SqT K H a xs->xs[i]?=some x)/\(∀ ys,SqT K H b ys->ys[i]?=some y),
  fun i H=>∃ xs ys,SqT K H a xs/\SqT K H b ys/\(xs.length <= i\/ys.length <= i)⟩
def va0 (z TI TO i1 i2 l1 l2:Addr) (i:Nat) (h:Heap):Prop:=IsZip h z TI TO .none/\IsPair h TI (.ref i1) (.ref i2)/\(∃ a b,IsPair h TO a b)/\h.IsTupleIter i1 l1 i/\h.IsTupleIter i2 l2 i
theorem Zap.apartT {X:Cx} {H:Hp} {s:Shared} {z TI TO:Addr} {xs ys:List Value} {us vs:List V} (d:Zap z TI TO i1 i2) (st:va0 z TI TO i1 i2 l1 l2 i s.heap) (p:s.heap.IsTuple l1 xs.toArray) (q:s.heap.IsTuple l2 ys.toArray) (hn:H TO=none) (hK:X.K.lookup TO=none)
  (hq:SqT X.K H l1 us) (hq':SqT X.K H l2 vs):ZipApart z TI TO i1 i2 l1 l2:=by
 obtain ⟨r,v,⟨a,b,w⟩,⟨x,m,n,_⟩,⟨A,k,t,_⟩⟩:=st;obtain ⟨B,j,f,_⟩:=p;obtain ⟨y,e,g,_⟩:=q
 have c:∀ {l:Addr} {u:List V},SqT X.K H l u->l≠TO:=fun {l u} h=>by
  rintro rfl;rcases h with (h | ⟨o,h⟩) | ⟨_,_,_,h,_⟩
  .rw [hn] at h; cases h
  .rw [hn] at h; cases h
  .rw [hK] at h; cases h
 exact ⟨d.a1,d.a2,d.a3,d.a4,d.a5,d.a6,d.a7,d.a8,d.a9,d.b1,
  uf j r (by rw [f]; exact nT (by decide)),c hq,uf j m (by rw [f,n]; decide),uf j k (by rw [f,t]; decide),
  uf e r (by rw [g]; exact nT (by decide)),c hq',uf e m (by rw [g,n]; decide),uf e k (by rw [g,t]; decide)⟩
theorem ygh {P:Program} {w:World} {K:W.Frag} {x1} (l1 l2 z TI TO i1 i2:Addr) (d:Zap z TI TO i1 i2) (hKT:K.lookup TO=none) :
  yiw P w K (.Tuple elts x1 tpos) (yx6 K l1 l2) [z,TI,TO,i1,i2] z (va0 z TI TO i1 i2 l1 l2) where
 mem:=by simp
 obj:=fun i h L b g=>by
  obtain ⟨O,j,⟨_,_,m⟩,⟨o1,e1,_,d1⟩,⟨o2,e2,_,d2⟩⟩:=L;simp only [dA,List.not_mem_nil,or_false] at g;rcases g with rfl | rfl | rfl | rfl | rfl
  .exact ⟨_,O,fun v z=>by cases z⟩
  .exact ⟨_,j,fun v z=>by cases z⟩
  .exact ⟨_,m,fun v z=>by cases z⟩
  .exact ⟨o1,e1,fun v z=>by rw [d1] at z; cases z⟩
  .exact ⟨o2,e2,fun v z=>by rw [d2] at z; cases z⟩
 keep:=fun i h h' L k=>by
  obtain ⟨O,j,⟨a,b,m⟩,h1,h2⟩:=L;exact ⟨k z (by simp) _ O,k TI (by simp) _ j,⟨a,b,k TO (by simp) _ m⟩,h1.at fun o e=>k i1 (by simp) o e,h2.at fun o e=>k i2 (by simp) o e⟩
 item:=by
  intro X hP hw hK hc i Q s σ H E I C L hg;subst hP hw hK;obtain ⟨xs,ys,x,y,R,F,B,hy⟩:=hg;obtain ⟨Y,rv,p0,ab⟩:=I.tuple R;obtain ⟨J,U,S,a0⟩:=I.tuple F;have p:s.heap.IsTuple l1 Y.toArray:=p0;have p':s.heap.IsTuple l2 J.toArray:=S;obtain ⟨u,hu,ru⟩:=rv.get B;obtain ⟨u',a9,aa⟩:=U.get hy;have D:=d.apartT L p p' (C TO (by simp)).1 hKT R F;obtain ⟨O,j,⟨va,vb,m⟩,N,M⟩:=L;refine yjs D O j m N M p p' (x:=u) (y:=u') (by simpa using hu) (by simpa using a9) fun h' a1 a2 a3 a4 a5 a6 hk=>?_;refine ⟨_,rfl,wpAny_letOwnedTupleGo_zip a1 fun t a7 l=>?_⟩;have G:H s.heap.objs.size=none:=I.hok.fresh (dh _);have lz:z < s.heap.objs.size:=du O;have lo:TO < s.heap.objs.size:=du m;have lI:TI < s.heap.objs.size:=du j;have ad:i1 < s.heap.objs.size:=by obtain ⟨o,e,_⟩:=id N; exact du e
  have ac:i2 < s.heap.objs.size:=by obtain ⟨o,e,_⟩:=id M; exact du e
  have keep:∀ b o,b≠z->b≠TO->b≠i1->b≠i2->s.heap.get? b=some o->t.get? b=some o:=fun b o n1 n2 n3 n4 e=>(l.2 b n1).trans (hk b o n1 n2 n3 n4 e);have a8:t.get? s.heap.objs.size=some { cls:=.type "tuple",data:=.seq #[u,u'] }:=(l.2 _ (Nat.ne_of_gt lz)).trans a5;have nt:∀ {b v},H b=some v->b≠z/\b≠TO/\b≠i1/\b≠i2:=fun {b v} e=>⟨yd e (C z (by simp)).1,yd e (C TO (by simp)).1,yd e (C i1 (by simp)).1,yd e (C i2 (by simp)).1⟩
  have T:HOk X.prog X.w (upd H s.heap.objs.size (.tup [x,y])) t:=fun b o e=>by
   by_cases g:b=s.heap.objs.size
   .subst g;rw [yc] at e;cases e;exact ⟨by show 2 <= sizeLine; decide,[u,u'],.cons ru (.cons aa .nil),⟨_,a8,rfl,_,rfl⟩⟩
   .rw [yn g] at e;refine (I.hok b o e).stay (fun c v r q=>?_) (fun c q=>by rw [yn (yd q G)]; exact q) fun c ys q=>by rw [yn (yd q G)]; exact q
    obtain ⟨n1,n2,n3,n4⟩:c≠z/\c≠TO/\c≠i1/\c≠i2:=by
     rcases r with rfl | r
     .exact nt e
     .exact nt r
    exact keep c v n1 n2 n3 n4 q
  have un:Un (frs X.stack) [z,TI,TO,i1,i2] H (upd H s.heap.objs.size (.tup [x,y])) s.heap t:=by
   have Z:∀ {b o},b∉[z,TI,TO,i1,i2]->s.heap.get? b=some o->t.get? b=some o:=fun {b o} g e=>keep b o (fun q=>g (by simp [q])) (fun q=>g (by simp [q])) (fun q=>g (by simp [q])) (fun q=>g (by simp [q])) e
   refine ⟨fun b o e n _ B=>Z B e,fun b o e n _ B=>⟨o.slots,Z B e⟩,fun b o e n _=>by rw [yn (dH (du e))]; exact n,fun b o e B=>⟨o,Z B e⟩,
    fun b ys e=>by rw [yn (yd e G)]; exact e,fun b o v e=>by rw [yn (yd e G)]; exact e,fun b ps e=>⟨#[],by rw [yn (yd e G),e]; simp⟩⟩
  have I1:Inv X Q σ (upd H s.heap.objs.size (.tup [x,y])) { s with heap:=t }:=I.call' (s':={ s with heap:=t }) rfl un T I.bare fun b g=>by
   have f:=C b g;exact ⟨f.2.2.2.1,f.2.1,f.2.2.2.2.1,f.2.2.2.2.2⟩
  refine ⟨.ref s.heap.objs.size,_,I1,rfl,⟨_,x,y,rfl,G,rfl,fun zs h=>by rw [I.tuple_inj h R]; exact B,fun zs h=>by rw [I.tuple_inj h F]; exact hy⟩,?_,fun b g=>?_⟩
  .exact ⟨a7,keep _ _ D.TIz D.TITO D.TIi1 D.TIi2 j,⟨u,u',(l.2 _ D.TOz).trans a2⟩,a3.at fun o e=>(l.2 _ D.i1z).trans e,a4.at fun o e=>(l.2 _ D.i2z).trans e⟩
  .rw [yn (fun q=>?_)]
   .exact (C b g).1
   .have R:b < s.heap.objs.size:=by
     simp only [dA,List.not_mem_nil,or_false] at g;rcases g with rfl | rfl | rfl | rfl | rfl <;> assumption
    exact absurd q (dH R)
 done:=by
  intro X hP hw hK hc i Q s σ H E I C L hg;subst hP hw hK;obtain ⟨xs,ys,R,F,B⟩:=hg;obtain ⟨Y,rv,p0,ab⟩:=I.tuple R;obtain ⟨J,U,S,a0⟩:=I.tuple F;have p:s.heap.IsTuple l1 Y.toArray:=p0;have p':s.heap.IsTuple l2 J.toArray:=S;have D:=d.apartT L p p' (C TO (by simp)).1 hKT R F;obtain ⟨O,j,⟨va,vb,m⟩,N,M⟩:=L;have hl:=rv.length;have ae:=U.length;refine yj3 (show X.A.handled=none from I.ok.hd hc) D O j m N M p p' (by simp; omega) fun h' hk=>⟨rfl,?_⟩;have nt:∀ {b v},H b=some v->b≠z/\b≠TO/\b≠i1/\b≠i2:=fun {b v} e=>⟨yd e (C z (by simp)).1,yd e (C TO (by simp)).1,yd e (C i1 (by simp)).1,yd e (C i2 (by simp)).1⟩
  have T:HOk X.prog X.w H h':=fun b o e=>by
   refine (I.hok b o e).stay (fun c v r q=>?_) (fun c q=>q) fun c ys q=>q
   obtain ⟨n1,n2,n3,n4⟩:c≠z/\c≠TO/\c≠i1/\c≠i2:=by
    rcases r with rfl | r
    .exact nt e
    .exact nt r
   exact hk c v n1 n2 n3 n4 q
  have un:Un (frs X.stack) [z,TI,TO,i1,i2] H H s.heap h':=by
   have Z:∀ {b o},b∉[z,TI,TO,i1,i2]->s.heap.get? b=some o->h'.get? b=some o:=fun {b o} g e=>hk b o (fun q=>g (by simp [q])) (fun q=>g (by simp [q])) (fun q=>g (by simp [q])) (fun q=>g (by simp [q])) e;exact ⟨fun b o e n _ B=>Z B e,fun b o e n _ B=>⟨o.slots,Z B e⟩,fun b o e n _=>n,fun b o e B=>⟨o,Z B e⟩,fun b ys e=>e,fun b o v e=>e,fun b ps e=>⟨#[],by rw [e]; simp⟩⟩
  exact I.call' (s':={ s with heap:=h' }) rfl un T I.bare fun b g=>by
   have f:=C b g;exact ⟨f.2.2.2.1,f.2.1,f.2.2.2.2.1,f.2.2.2.2.2⟩
 self:=fun _ _ _ _ _ L h=>wpAny_pyIter_zip L.1 h
section
variable {X:Cx}
def yx0 (K:W.Frag) (ta:TA):TI:=fun σ H R=>ta σ H fun vs H1=>∃ a b,vs=[.ref a,.ref b]/\(∃ xs ys,SqT K H1 a xs/\SqT K H1 b ys)/\R (yx6 K a b) H1
theorem yns {x1} {l m:Expr} {ta:TA} {p pos:Pos} (hg:Gl X "zip") (hm:X.mg "zip"=none) (ha:PA X [l,m] ta) (hs:starEach [l,m] X.env=[(false,eval l X.env),(false,eval m X.env)]:=by rfl) (hs2:starEach [m] X.env=[(false,eval m X.env)]:=by rfl) :
  PI X (.Tuple elts x1 tpos) (.Call (.Name "zip" p) [l,m] [] pos) (yx0 X.K ta):=by
 intro g s σ H R I h;refine Call_ (Ć I hg hm (show bootBuiltins "zip"=some (.type "zip") by decide +kernel) (PyProof.Rows.callWith_type1 (thn (ha pos g s σ H _ I h) fun N c h'=>?_) (by rw [hs,hs2]) (by rw [hs2]; rfl)));obtain ⟨O,J,d,C,y⟩:=h';obtain ⟨a,b,e,⟨Q,L,F,n⟩,q⟩:=y;subst e
 cases C with
 | cons r rr =>
  cases rr with
  | cons r' rr =>
   cases rr;cases r;cases r';obtain ⟨x,M,A,t⟩:=d.tuple F;obtain ⟨f,E,j,z⟩:=d.tuple n;refine yj6 (show c.heap.IsTuple a x.toArray from A) (show c.heap.IsTuple b f.toArray from j) fun P t u v D B G=>?_;refine wpAny_pyIter_zip t ?_
   have k:X.K.lookup (c.heap.objs.size+3)=none:=by
    cases hl:X.K.lookup (c.heap.objs.size+3) with
    | none=>rfl
    | some o=>exact absurd (du (d.kIn _ o hl)) (Nat.not_lt.mpr (Nat.le_add_right _ _))
   have w:Zap (c.heap.objs.size+4) (c.heap.objs.size+2) (c.heap.objs.size+3) c.heap.objs.size (c.heap.objs.size+1):=yme _;refine ⟨c.heap.objs.size+4,[c.heap.objs.size+4,c.heap.objs.size+2,c.heap.objs.size+3,c.heap.objs.size,c.heap.objs.size+1],_,_,J,rfl,d.kept (t':=c.toks) G,ygh a b _ _ _ _ _ w k,⟨t,u,⟨_,_,v⟩,D,B⟩,fun b i=>?_,q⟩
   have i:c.heap.objs.size <= b:=by
    simp only [dA,List.not_mem_nil,or_false] at i;rcases i with rfl | rfl | rfl | rfl | rfl <;> omega
   exact d.fpOk i (d.hok.fresh i)
theorem yn8 {K:W.Frag} {ta:TA} {σ:St} {H:Hp} {R:It->Hp->Prop} (h:ta σ H fun vs H1=>∃ a b,vs=[.ref a,.ref b]/\(∃ xs ys,SqT K H1 a xs/\SqT K H1 b ys)/\R (yx6 K a b) H1):yx0 K ta σ H R:=h
end
theorem ybp {K:W.Frag} {a b D:Addr} {xs ys:List V} {g:TG} {te:TE} {n m:Nat} {fr:St} {R:Hp->Prop} {H1:Hp} (f:Nat->V) (hq:SqT K H1 a xs) (hq':SqT K H1 b ys) (h1:m <= xs.length) (h2:m <= ys.length) (h3:xs.length <= m\/ys.length <= m) (hD:H1 D=none)
  (hs:∀ i x y H t pre,i < m->xs[i]?=some x->ys[i]?=some y->yw H1 H->H D=some (.lst ((List.range i).map f))->H t=none->List.length pre=n->g (.ref t) (pre++fr) (upd H t (.tup [x,y])) fun σ' H'=>(∃ pre',List.length pre'=n/\σ'=pre'++fr)/\te σ' H' (MpK H1 D f m i))
  (hd:∀ H,yw H1 H->H D=some (.lst ((List.range m).map f))->R H):jv (yx6 K a b) g te n fr D R H1:=by
 refine ⟨cW m (Mp H1 D f),⟨m,by simp,dJ _,Mp.zero hD⟩,?_⟩;rintro i j H ⟨rfl,r,p⟩;have q:=p.1.tup hq;have c:=p.1.tup hq';by_cases hlt:i < m
 .refine .inr ⟨⟨xs,ys,xs[i]'(by omega),ys[i]'(by omega),q,c,df _,df _⟩,fun y H' pre l d=>?_⟩;obtain ⟨t,x,y,rfl,k,rfl,h,o⟩:=l;exact hs i x y H t pre hlt (h xs q) (o ys c) p.1 p.2 k d
 .have e:i=m:=by omega
  subst e;exact .inl ⟨⟨xs,ys,q,c,h3⟩,hd H p.1 p.2⟩
end L2
namespace L2
open PySem PySem.Spec PyProof.Rows HT
section
variable {prog:Program} {w:World} {A:Around} {E:Value->Shared->Prop} {s:Shared}
theorem ybk {t sl:Addr} {items:Array Value} {vl vu:Value} {lo hi:Option Int} {Q:Value->Shared->Prop} (ht:IsTup s.heap t items) (hs:s.heap.IsSliceOf sl vl vu .none) (pl:IsPart vl lo) (pu:IsPart vu hi)
  (hw:sIx items.size 0 lo=0/\sIx items.size items.size hi=items.size) (h:Q (.ref t) s):wpAny (model prog w) A (getItem (.ref t) (.ref sl)) Q E s:=by
 obtain ⟨f,b,c,e⟩:=id hs;have d:s.TypeIs (.ref sl) "slice":=⟨f,b,c⟩;unfold getItem
 try with_reducible refine wpAny_holding ?_
 first | refine cT (dn ?_) | skip
 refine cT (wpAny_sequenceKey ht.typeIs (by decide) ?_);refine cT (wpAny_callSpecial?_slot (name:=Str.ofString "__getitem__") ht.typeIs PyProof.Rows.slot_tuple_getitem
  (wpAny_call_entry PyProof.Rows.slot_tuple_getitem ht.typeIs entry_tuple_getitem ?_ (args_tuple_getitem _ _)))
 show wpAny _ _ (Builtin.Tuple.tupleItemsOf (.ref t) >>= _) _ _ s;refine cT (tupleItemsOf_ ht ?_);refine cT (wpAny_typeOf d ?_);rw [if_pos (by decide)];refine cT (u7 hs pl pu ?_)
 have a:(((sIx items.size 0 lo:Nat):Int) == 0 && (1:Int) == 1 && (sIx items.size items.size hi - sIx items.size 0 lo) == items.size)=true:=by
  rw [hw.1,hw.2];simp
 show wpAny _ _ (if (((sIx items.size 0 lo:Nat):Int) == 0 && (1:Int) == 1 && (sIx items.size items.size hi - sIx items.size 0 lo) == items.size)=true then _ else _) _ _ s;rw [if_pos a];refine cT (m:=Builtin.Tuple.tupleIsExact _) ?_;unfold Builtin.Tuple.tupleIsExact;refine cT (wpAny_typeOf ht.typeIs (dn ?_));show wpAny _ _ (if (Value.type "tuple" == Value.type "tuple")=true then _ else _) _ _ s;rw [if_pos (by decide)]
 first
  | exact cT (wpAny_rule (dn ⟨_,rfl,dn h⟩))
  | exact cT (wpAny_rule (cT (dn (dn ⟨_,rfl,dn h⟩))))
  | exact cT (cT (wpAny_rule (dn (dn ⟨_,rfl,dn h⟩))))
end
section
variable {X:Cx}
def yze (K:W.Frag):V->Option Int->Option Int->Hp->VK->Prop:=fun x lo hi H Q=>∃ a xs,x=.ref a/\SqT K H a xs/\(HT.sIx xs.length 0 lo=0/\HT.sIx xs.length xs.length hi=xs.length)/\Q (.ref a) H
theorem ypk:SlR X (yze X.K):=by
 intro d s σ H x v o t lo n u Q I l f j k h;obtain ⟨a,m,rfl,g,i,q⟩:=h;cases l;obtain ⟨c,r,e,p⟩:=I.tuple g;have b:c.toArray.size=m.length:=by rw [dy]; exact r.length.symm
 exact ⟨"tuple",_,PyProof.Rows.slot_tuple_getitem.lookup,e.typeIs,ybk e f j k (by rw [b]; exact i) ⟨.ref a,H,I,rfl,q⟩⟩
end
end L2
namespace L2
open PySem PySem.Spec PyProof.Rows PySem.SeqAt
open AutoSeq1 (wpAny_loadPart')
end L2
namespace L2
open PySem PySem.Spec PyProof.Rows
variable {C D it:Addr} {items:Array Value} {tg:Expr} {fd:FuncData} {pins:List (Addr × Obj)} {i:Nat} {P:Program} {st:Stmt} {p0 p1 qual:Str} {E:Value->Shared->Prop}
theorem yb5 {X:Cx} {K:W.Frag} {e:Expr} {f:Str} {pos:Pos} {ta:TE} (hK:X.K=K) (he:PE X e ta) (hb:attributeBase e f X.env (eval e X.env)=eval e X.env):PE X (.Attribute e f pos) (vag K ta f):=hK ▸ yp he hb
def ā (J:It) (tc:TT) (te:TE) (fr:St) (D:Addr) (R:Hp->Prop) (H1:Hp):Prop:=∃ W:Nat->Nat->Hp->Prop,(∃ m,W 0 m (upd H1 D (.lst []))) /\
 ∀ i m H2,W i m H2->(J.stop i H2/\R H2)\/(J.go i H2/\∀ x H3,J.yld i H2 x H3->tc (some x :: fr) H3 fun b H4=>if b=true then te (some x :: fr) H4 (fun y H5=>∃ ys,H5 D=some (.lst ys)/\ys.length < sizeLine/\∃ m',m' < m/\W (i+1) m' (upd H5 D (.lst (ys++[y])))) else ∃ m',m' < m/\W (i+1) m' H4)
def yk5 (wi:TI) (tc:TT) (te:TE) (js:List Nat):TE:=fun σ H Q=>wi σ H fun J H1=>∀ D,H1 D=none->ā J tc te (xg js σ) D (fun H2=>Q (.ref D) H2) H1
section
variable {X:Cx} {iter elt cnd:Expr} {tc:TT} {x:Str} {px pos:Pos} {scope:Scope} {te:TE} {wi:TI} {σ:St} {ys:List Str} {js:List Nat}
theorem yfd {s2:Shared} {H2:Hp} {fp:List Addr} {tn:Nat->Heap->Prop} {J:It} (hc:X.calm=true)
  (ht:∀ (C:Addr) (s2:Shared) (H2:Hp) (fp:List Addr),PT (X.compF scope ys C x s2 H2 fp) cnd tc) (he:∀ (C:Addr) (s2:Shared) (H2:Hp) (fp:List Addr),PE (X.compF scope ys C x s2 H2 fp) elt te)
  (hcell:∀ y∈scope.names,y.2≠.cell) (hkind:scope.kind=.function) (hx:scope.names.lookup x=some .local) (hnd:(x :: ys).Nodup)
  (hfr:∀ y∈scope.names,y.2=.free->y.1∈ys) (hyc:∀ y∈ys,X.env.kindOf y=some .cell) (hrel:∀ y∈ys,(relabel scope X.env).names.lookup y=some .cell) (hjs:js.map (fun j=>X.N[j]?)=ys.map some)
  (I2:Inv X pins σ H2 s2) (T:yiw X.prog X.w X.K (.Name x px) J fp it tn) (st2:tn 0 s2.heap) (f2:∀ b∈fp,ycp X pins H2 b)
  {R:Addr->Hp->Prop} (h:∀ D,H2 D=none->ā J tc te (xg js σ) D (R D) H2) {RR:Value->Addr->Result->Shared->Prop} {E:Value->Shared->Prop}
  (hR:∀ (D C:Addr) (H':Hp) (s':Shared) (m:Str->Option Value),ycp X pins H' C->s'.heap.Ns C m->Inv X pins σ H' s'->R D H'->RR (.ref D) C (.ok .next) s') :
  wpAny (model X.prog X.w) X.A (newList []) (fun acc s₃=>wpAny (model X.prog X.w) X.A (newFunctionEnv scope X.env.globals (jy ys X.env) [] X.env.qual none .none (some X.env)) (fun cenv s₄ =>
   codeAny (model X.prog X.w) X.A (.compStart (.ListComp elt [⟨.Name x px,iter,[cnd],0⟩] scope pos) 0 (.ref it) acc { cenv with scope:=relabel scope X.env }) (RR acc cenv.locals) s₄) E s₃) E s2:=by
 have g:∀ y c,(jy ys X.env).lookup y=some c->X.env.cells.lookup y=some c:=fun y c e=>by
  obtain ⟨m,rfl⟩:=Ŕ e;obtain ⟨c',q⟩:=I2.ok.has y (.inl (hyc y m));rw [q];rfl
 refine wpAny_newObj_type (wpAny_newFunctionEnv hcell (by intro y Y; simp at Y) (fun h₁ hns₁ hsb₁=>?_) hkind);dsimp only at hns₁ hsb₁ ⊢;generalize Q:s2.heap.push { cls:=.type "list",dict:=none,data:=.seq ([]:List Value).toArray }=G at hns₁ hsb₁ ⊢;have hC:G.objs.size=s2.heap.objs.size+1:=by rw [<- Q,Heap.size_push]
 have a1:s2.heap.objs.size≠G.objs.size:=by rw [hC]; exact dH (eY _)
 have F:s2.heap.objs.size <= G.objs.size:=by rw [hC]; exact Nat.le_succ _
 have f:∀ b,b < s2.heap.objs.size->b≠G.objs.size/\b≠s2.heap.objs.size:=fun b a=>⟨by rw [hC]; exact dH (Nat.lt_succ_of_lt a),dH a⟩;have t:∀ b o,s2.heap.get? b=some o->h₁.get? b=some o:=fun b o e=>hsb₁.extBut b o (f b (du e)).1 (de _ (Q ▸ de _ e));have a4:h₁.get? s2.heap.objs.size=some { cls:=.type "list",data:=.seq ([]:List Value).toArray }:=hsb₁.extBut _ _ a1 (de _ (Q ▸ dz _ rfl));have U:∀ b∈fp,b < s2.heap.objs.size:=fun b a=>let ⟨_,e,_⟩:=T.obj 0 _ st2 b a; du e;have a5:∀ b∈fp,b∉frs X.stack:=fun b a z=>(dA.mp (I2.stkSub b z)).elim (f2 b a).2.1 (f2 b a).2.2.1;have nC:H2 G.objs.size=none:=I2.hok.fresh F;have nD:H2 s2.heap.objs.size=none:=I2.hok.fresh (dh _)
 have k:∀ y c,(jy ys X.env).lookup y=some c->∃ v o,s2.heap.get? c=some o/\o.data=.cell v:=fun y c e=>by
  obtain ⟨v,o,q1,q2⟩:=I2.cell y c (g y c e);exact ⟨v,o,q1,q2⟩
 have aa:(X.compF scope ys G.objs.size x s2 H2 fp).Ok:=by
  refine ⟨I2.ok.mod,hkind,I2.ok.glob,I2.ok.blt,F,fun y z c e P=>I2.ok.inj y z c (g y c e) (g z c P),fun y e=>?_,fun y c z e=>(by cases z),I2.ok.hd,I2.ok.frames,.inl rfl,fun b a=>⟨(f b (U b a)).1,fun y c e=>(f2 b a).2.2.2.2.1 y c (g y c e)⟩,I2.bs,?_,fun b o e a=>?_,fun b a=>a5 b a,I2.stack,I2.stkFree⟩
  .have P:(relabel scope X.env).names.lookup y=some .cell\/(relabel scope X.env).names.lookup y=some .free:=e
   have a7:y∈ys:=by
    rcases P with P | P
    .obtain ⟨k0,m,q⟩:=xt P;rcases q with q | q
     .exact absurd q.symm (hcell _ m)
     .exact hfr _ m q
    .obtain ⟨k0,m,q⟩:=xt P;rcases q with q | q
     .exact hfr _ m q.symm
     .exact hfr _ m q
   exact ⟨_,j9 a7⟩
  .exact dZ I2.ok.bsz I2.sz
  .rcases (f2 b a).2.2.2.1 with z | z
   .exact I2.ok.noex b o e z
   .exact absurd (dQ (du (I2.ok.bs b o e).1) z) (eL _)
 have a6:(xg js σ).length=ys.length:=by
  have:=congrArg List.length hjs;simpa [xg] using this
 have I3:∀ tk,Inv (X.compF scope ys G.objs.size x s2 H2 fp) [] (none :: xg js σ) (upd H2 s2.heap.objs.size (.lst [])) { s2 with heap:=h₁,toks:=tk }:=fun tk =>
  ⟨aa,rfl,I2.bare,Un.laid t (dh _) nD,⟨_,hns₁,fun i y v e1 O e3=>by
    cases i with
    | zero=>cases O
    | succ i =>
     have e1:ys[i]?=some y:=by simpa using e1
     have O:(xg js σ)[i]?=some (some v):=by simpa using O
     have Y:y∈ys:=dI e1;have S:=congrArg (fun l=>l[i]?) hjs;simp only [dm,e1,eF] at S
     cases q:js[i]? with
     | none=>rw [q] at S; cases S
     | some j =>
      rw [q] at S;have S:X.N[j]?=some y:=by simpa using S
      have es:σ[j]?=some (some v):=by
       simp only [xg,dm,q,eF,Option.some.injEq] at O
       cases r:σ[j]? with
       | none=>rw [r] at O; cases O
       | some w'=>rw [r] at O; rw [show w'=some v from O]
      obtain ⟨m0,_,a8⟩:=I2.loc;obtain ⟨u,ru,lk⟩:=a8 j y v S es (.inr (.inl (hyc y Y)));refine ⟨u,ru,.inr ⟨.inl (hrel y Y),?_⟩⟩;rcases lk with ⟨k1,_⟩ | ⟨_,c,ec,o,ho,hd⟩
      .rw [hyc y Y] at k1; cases k1
      .refine ⟨c,?_,o,t c o ho,hd⟩;show (jy ys X.env).lookup y=some c;rw [j9 Y,ec]
       rfl⟩,fun y c e=>(by
    obtain ⟨v,o,q1,q2⟩:=k y c e
    exact ⟨v,o,t c o q1,q2⟩),(by show upd H2 s2.heap.objs.size _ G.objs.size=none; rw [yn a1.symm]; exact nC),fun y c e=>(by
    obtain ⟨v,o,q1,q2⟩:=k y c e;show upd H2 s2.heap.objs.size _ c=none;rw [yn (f c (du q1)).2]
    exact I2.freeC y c (g y c e)),fun p hp=>(by simp at hp),
   I2.hok.laid t (dh _) ⟨dJ _,[],_,.nil,a4⟩,by show (none :: xg js σ).length=(x :: ys).length; simp [a6]⟩
 have L:∀ {H':Hp},(∀ b∈fp,H' b=none)->∀ b∈fp,ycp (X.compF scope ys G.objs.size x s2 H2 fp) [] H' b:=fun hn b a=>⟨hn b a,(f b (U b a)).1,a5 b a,.inl a,fun y c e=>(f2 b a).2.2.2.2.1 y c (g y c e),fun p hp=>(by simp at hp)⟩
 have M:∀ tk,codeAny (model X.prog X.w) X.A (.compLoop (.ListComp elt [⟨.Name x px,iter,[cnd],0⟩] scope pos) 0 (.ref it) (.ref s2.heap.objs.size) (compEnvC scope (jy ys X.env) G.objs.size X.env)) (RR (.ref s2.heap.objs.size) G.objs.size) { s2 with heap:=h₁,toks:=tk }:=by
  intro tk;obtain ⟨W,⟨m0,w0⟩,a0⟩:=h s2.heap.objs.size nD;refine codeAny_loop rfl (fun n s'=>∃ i v H',Inv (X.compF scope ys G.objs.size x s2 H2 fp) [] (v :: xg js σ) H' s'/\tn i s'.heap/\(∀ b∈fp,H' b=none)/\W i n H') (fun n s' hI=>?_) m0
   ⟨0,none,_,I3 tk,T.keep 0 _ _ st2 (fun b a o e=>t b o e),fun b a=>(by rw [yn (f b (U b a)).2]; exact (f2 b a).1),w0⟩
  obtain ⟨i,v,H',I,st,fr,w⟩:=hI;show wpAny _ _ ((compTurn (.ListComp elt [⟨.Name x px,iter,[cnd],0⟩] scope pos) 0 (.ref it) (.ref s2.heap.objs.size) (compEnvC scope (jy ys X.env) G.objs.size X.env)).onRaise (fun x=>do noteFrame x (compEnvC scope (jy ys X.env) G.objs.size X.env); theTreesLotGoes x)) _ _ s';refine wpAny_noted ?_;rw [compTurn_list];refine cT (wpAny_standAt (cT ?_));rcases a0 i n H' w with ⟨a3,q⟩ | ⟨go,a2⟩
  .refine thn (T.done (X.compF scope ys G.objs.size x s2 H2 fp) rfl rfl rfl hc i [] s' (v :: xg js σ) H' _ I (L fr) st a3) fun r s4 ⟨hr,Z⟩=>?_;subst hr;refine dn ?_;obtain ⟨m,hn,_⟩:=Z.loc;exact hR _ _ H' s4 m (I2.fpOk F Z.free) hn (I2.call' (ch:=fp) Z.os Z.base Z.hok Z.bare fun b a=>⟨(f2 b a).2.2.2.1,(f2 b a).2.1,(f2 b a).2.2.2.2.1,(f2 b a).2.2.2.2.2⟩) q
  .refine thn (T.item (X.compF scope ys G.objs.size x s2 H2 fp) rfl rfl rfl hc i [] s' (v :: xg js σ) H' _ I (L fr) st go) fun r s4 ⟨u,hr,h4⟩=>?_;subst hr;refine cT (thn h4 fun _ s5 ⟨y,H5,I5,r5,y5,H,a9⟩=>cT ?_);have ab:=I5.pinned (L a9) (T.obj _ _ H);refine wpAny_assign_Name (œ (i:=0) ab hnd rfl (Or.inl (lookup_relabel_local hx)) r5 (fun s6 I6=>?_) (Or.inr (lookup_relabel_local hx)));refine cT (wpAny_tests_one (yse (ht _ _ _ _ _ s6 (some y :: xg js σ) H5 _ I6 (a2 y H5 y5)) fun b s7 ⟨H6,I7,q7⟩=>?_))
   cases b with
   | false =>
    obtain ⟨m',hm,w'⟩:=q7
    have B:∀ b∈fp,∀ o,s5.heap.get? b=some o->s7.heap.get? b=some o/\H6 b=none:=fun b a o e =>
     ⟨(I7.pin (b,o) (dC _ (dC _ (xv a e)))).1,(I7.pin (b,o) (dC _ (dC _ (xv a e)))).2.1⟩
    refine dn ⟨rfl,m',hm,i+1,some y,_,I7.unpinned,T.keep _ _ _ H fun b a o e=>(B b a o e).1,fun b a=>?_,w'⟩;obtain ⟨o,e,d⟩:=T.obj _ _ H b a;exact (B b a o e).2
   | true =>
    refine cT (cT (yse (he _ _ _ _ _ s7 (some y :: xg js σ) H6 _ I7 q7) fun u2 s7 ⟨y2,H7,I7,r7,zs,hD,hl,m',hm,w'⟩=>cT ?_));refine yse (w9 _ s7 (some y :: xg js σ) H7 (.ref s2.heap.objs.size) [y2] (.ref s2.heap.objs.size) [u2] (fun _ H8=>H8=upd H7 s2.heap.objs.size (.lst (zs++[y2]))) I7 rfl (.cons r7 .nil) ⟨_,zs,y2,rfl,rfl,hD,hl,rfl⟩) fun _ s8 h'=>?_;obtain ⟨_,H8,I8,_,e8⟩:=h';subst e8
    have B:∀ b∈fp,∀ o,s5.heap.get? b=some o->s8.heap.get? b=some o/\upd H7 s2.heap.objs.size (HO.lst (zs++[y2])) b=none:=fun b a o e =>
     ⟨(I8.pin (b,o) (dC _ (dC _ (xv a e)))).1,(I8.pin (b,o) (dC _ (dC _ (xv a e)))).2.1⟩
    refine dn (dn ⟨rfl,m',hm,i+1,some y,_,I8.unpinned,T.keep _ _ _ H fun b a o e=>(B b a o e).1,fun b a=>?_,w'⟩);obtain ⟨o,e,d⟩:=T.obj _ _ H b a;exact (B b a o e).2
 exact codeAny_compStart_list (M _) (T.self X.A 0 _ _ _ (T.keep 0 _ _ st2 (fun b a o e=>t b o e)) (M _))
theorem ycz {y:Str} {py spos:Pos} (hN:X.N.Nodup) (hy:X.N[i]?=some y) (hl:X.env.scope.names.lookup y=some .local) (hc:X.calm=true) (hi:PI X (.Name x px) iter wi)
  (ht:∀ (C:Addr) (s2:Shared) (H2:Hp) (fp:List Addr),PT (X.compF scope ys C x s2 H2 fp) cnd tc) (he:∀ (C:Addr) (s2:Shared) (H2:Hp) (fp:List Addr),PE (X.compF scope ys C x s2 H2 fp) elt te) (hjs:js.map (fun j=>X.N[j]?)=ys.map some)
  (hclos:closureFor scope X.env=pure (jy ys X.env)) (hyc:∀ y∈ys,X.env.kindOf y=some .cell) (hrel:∀ y∈ys,(relabel scope X.env).names.lookup y=some .cell)
  (hsw:swapsWith (.ListComp elt [⟨.Name x px,iter,[cnd],0⟩] scope pos) (some (.Name y py)) spos.line X.env=pure true:=by rfl) (hnd:(x :: ys).Nodup:=by decide)
  (hfr:∀ y∈scope.names,y.2=.free->y.1∈ys:=by decide +kernel) (hcell:∀ y∈scope.names,y.2≠.cell:=by decide +kernel) (hkind:scope.kind=.function:=by rfl)
  (hnames:∀ y∈scope.names,y.2=.local->scope.names.lookup y.1=some .local:=by decide +kernel) (hx:scope.names.lookup x=some .local:=by rfl) (hs:∀ x,foldedSetIterable iter X.env x=pure x:=by intro _; rfl) :
  PS X (.Assign [.Name y py] (.ListComp elt [⟨.Name x px,iter,[cnd],0⟩] scope pos) spos) (ysd (yk5 wi tc te js) (xp i)):=by
 refine .mk fun a s σ H t I h=>?_;rw [exec_Assign_Name_used _ _ _ _ hsw];refine cT (wpAny_standAt (cT ?_));show wpAny _ X.A (do let _ <- comprehension (.ListComp elt [⟨.Name x px,iter,[cnd],0⟩] scope pos) scope X.env _ (newList []) false (eval iter X.env) (some (assign (.Name y py) X.env))) _ _ s;refine cT (eS (wpAny_comprehension_free (use:=some (assign (.Name y py) X.env)) (Q:=fun _ d=>SP X a t .next d) rfl hs hclos hkind hnames (thn (hi a s σ H _ I h) fun v S E=>thn E fun K s2 B=>?_)) (fun _ d G=>dn (dn G)) fun _ _ e=>e);obtain ⟨P,fp,O,J,H2,e,L,T,n,M,h⟩:=B;subst e;refine yfd (R:=fun D r=>xp i (.ref D) σ r t.nx) (RR:=compPost (model X.prog X.w) X.A X.xe (some (assign (.Name y py) X.env)) (fun _ d=>SP X a t .next d)) hc ht he hcell hkind hx hnd hfr hyc hrel hjs L T n M h ?_;intro D C r d m f u F q;refine wpAny_assign_Name (j6 (v:=V.ref D) F hN hy (Or.inl hl) rfl (fun k g p=>?_) (Or.inr hl));refine ⟨m,?_,fun U l=>⟨_,r,?_,q⟩⟩
 .obtain ⟨b,l,c⟩:=p;refine u.sameBut l fun z=>?_;rcases c with c | c
  .exact f.2.1 (z.trans c)
  .exact f.2.2.2.2.1 y b c z.symm
 .exact g.turned (t':=k.toks) (fun b o c e=>l.extBut b o c e) f.1 f.2.1 f.2.2.2.1 f.2.2.2.2.1 f.2.2.2.2.2
theorem ypf {H:Hp} {Q:VK} (h:wi σ H fun J H1=>∀ D,H1 D=none->ā J tc te (xg js σ) D (fun H2=>Q (.ref D) H2) H1):yk5 wi tc te js σ H Q:=h
theorem yb1 {lo:Int} {n:Nat} {fr:St} {R:Hp->Prop} {H1:Hp} (Pv:Nat->Hp->Prop) (h0:Pv 0 (upd H1 D (.lst [])))
  (hs:∀ i H,i < n->Pv i H->tc (some (.int (lo+i)) :: fr) H fun b H4=>if b=true then te (some (.int (lo+i)) :: fr) H4 (fun y H5=>∃ ys,H5 D=some (.lst ys)/\ys.length < sizeLine/\∃ m',m' < n - i/\cW n Pv (i+1) m' (upd H5 D (.lst (ys++[y])))) else ∃ m',m' < n - i/\cW n Pv (i+1) m' H4)
  (hd:∀ H,Pv n H->R H):ā (Itr lo n) tc te fr D R H1:=by
 refine ⟨cW n Pv,⟨n,by simp,dJ _,h0⟩,?_⟩;rintro i m H ⟨rfl,c,p⟩;by_cases hlt:i < n
 .refine .inr ⟨hlt,fun x a y=>?_⟩;obtain ⟨e,y⟩:=y;subst e y;exact hs i _ hlt p
 .have e:i=n:=by omega
  subst e;exact .inl ⟨dh _,hd H p⟩
theorem Ź {n:Nat} {Pv:Nat->Hp->Prop} {H4:Hp} (hi:i < n) (p:Pv (i+1) H4):∃ m',m' < n - i/\cW n Pv (i+1) m' H4:=⟨n - (i+1),by omega,rfl,hi,p⟩
end
structure ybd (K:W.Frag) (x qual:Str) (st:Stmt) (D:Addr) (f:Addr) (fd:FuncData):Prop where
 ex:∃ (oc:Value) (od:Option Addr) (kV doc pm:Value) (an:Option Addr) (cdv ct:Value) (osl:Array (Option Value)),
  fd=W.fnOf x qual (xc st) (ww st) (yg st) (.ref D) kV doc pm an cdv ct/\K.lookup f=some ⟨oc,od,.func fd,osl⟩/\W.codeIn K cdv qual=true
 kp:W.keepIn K (.ref f)=true
section
variable {w:World} {K:W.Frag} {mg:Str->Option Value} {base:Heap}
theorem ybd.ok {x:Str} {f:Addr} {N ps:List Str} {k:Nat} {sp:Sp} (F:ybd K x qual st D f fd) (S:yk N ps (yg st)) (len:∀ vs H Q E,sp vs H Q E->vs.length=ps.length)
  (hbody:∀ (cdv:Value) (A:Around) (outer:List Env) (s:Shared) (H:Hp) (vs:List V) (Q:VK) (E:XK),z7 k (A.deeper (envOfC qual (yg st) s.heap.objs.size f cdv))->sp vs H Q E ->
   ∃ t,PSs (wa CX0 P w K mg base N qual (yg st) f cdv A outer s H E).nox (ww st) t/\t { nx:=fun _ H'=>Q .non H',rt:=Q } (Æ N vs) H):wc P w K mg base CX0 (k+1) f fd ps sp:=by
 obtain ⟨m,j,kV,e,n,i,cdv,l,g,rfl,c,a⟩:=F.ex;refine ykk c a S len fun A outer s H vs Q E d b=>?_;obtain ⟨t,h,q⟩:=hbody cdv A outer s H vs Q E d b;exact ⟨t,h.nox,q⟩
theorem ybd.okE {x:Str} {f:Addr} {N ps:List Str} {k:Nat} {sp:Sp} (F:ybd K x qual st D f fd) (S:yk N ps (yg st)) (len:∀ vs H Q E,sp vs H Q E->vs.length=ps.length)
  (hbody:∀ (cdv:Value) (A:Around) (outer:List Env) (s:Shared) (H:Hp) (vs:List V) (Q:VK) (E:XK),z7 k (A.deeper (envOfC qual (yg st) s.heap.objs.size f cdv))->sp vs H Q E ->
   ∃ t,PSs (wa (CXe P w) P w K mg base N qual (yg st) f cdv A outer s H E) (ww st) t/\t { nx:=fun _ H'=>Q .non H',rt:=Q } (Æ N vs) H):wc P w K mg base (CXe P w) (k+1) f fd ps sp:=by
 obtain ⟨l,i,kV,e,m,h,cdv,j,g,rfl,c,a⟩:=F.ex;exact ykk c a S len fun A outer s H vs Q E d b=>hbody cdv A outer s H vs Q E d b
theorem ybd.binds {x:Str} {f:Addr} {ps:List Str} {ds:List Value} {o:Obj} {its:Array Value} {n j:Nat} (hj:j+ds.length=ps.length) (F:ybd K x qual st D f fd) (hD:K.lookup D=some o) (ho:o.data=.seq its n)
  (h:∀ (kV doc pm:Value) (an:Option Addr) (cdv ct:Value) (us:List Value),us.length=j ->
   ∃ k:Option (Array Value)->Sem (List (Str × Value)),bindArgs (W.fnOf x qual (xc st) (ww st) (yg st) (.ref D) kV doc pm an cdv ct) ⟨us,[]⟩=(seqItems? (.ref D) >>= k)/\k (some its)=pure (ps.zip (us++ds))):ud K fd ps ds:=by
 obtain ⟨m,l,kV,doc,pm,an,cdv,ct,g,rfl,i,c⟩:=F.ex;intro s us a e;obtain ⟨k,b,d⟩:=h kV doc pm an cdv ct us (by rw [dv] at e; omega);exact BindsTo.of_defaults rfl (a _ _ hD) ho b d
theorem yb8 {x:Str} {f:Addr} {oc:Value} {od an:Option Addr} {osl:Array (Option Value)} {kV doc pm cdv ct:Value} (l:K.lookup f=some ⟨oc,od,.func (W.fnOf x qual (xc st) (ww st) (yg st) (.ref D) kV doc pm an cdv ct),osl⟩)
  (c:W.codeIn K cdv qual=true) (k:W.keepIn K (.ref f)=true):ybd K x qual st D f (W.fnOf x qual (xc st) (ww st) (yg st) (.ref D) kV doc pm an cdv ct):=⟨⟨oc,od,kV,doc,pm,an,cdv,ct,osl,rfl,l,c⟩,k⟩
end
def ynt (K:W.Frag):List V->Hp->VK->Prop:=fun xs H Q=>∃ p ys,xs=[.ref p]/\(SqL K H p ys\/SqT K H p ys)/\∀ l,H l=none->Q (.ref l) (upd H l (.lst ys))
section
variable {X:Cx} {body suite:List Stmt} {b₀:Stmt} {tx n:Str} {np hpos pos:Pos} {tb:(St->XK)->TS} {ts:TS}
abbrev THs:=ť->St->Addr->Addr->Hp->Prop
end
structure Dg (K:W.Frag) (x q:Str) (st:Stmt) (f:Addr) (fd:FuncData) (M:Prop):Prop where
 F:Fun K x q st f fd
 m:M
structure Df (K:W.Frag) (x q:Str) (st:Stmt) (ps:List Str) (f:Addr) (fd:FuncData) (M:Prop):Prop where
 F:Fun K x q st f fd
 B:ud K fd ps []
 m:M
theorem yiz {α:Type} {n:Nat} {a:List α} (h:a.length=n+1):∃ x r,a=x :: r/\r.length=n:=by
 cases a with
 | nil=>cases h
 | cons x r=>exact ⟨x,r,rfl,Nat.succ.inj h⟩
abbrev Dgf (K:W.Frag) (mg:Str->Option Value) (x:Str) (st:Stmt) (f:Addr) (fd:FuncData):Prop:=Dg K x x st f fd (mg x=some (.ref f))
abbrev Dgm (K:W.Frag) (C:Addr) (x q:Str) (st:Stmt) (f:Addr) (fd:FuncData):Prop:=Dg K x q st f fd (yr7 K C x f)
abbrev Dff (K:W.Frag) (mg:Str->Option Value) (x:Str) (st:Stmt) (ps:List Str) (f:Addr) (fd:FuncData):Prop:=Df K x x st ps f fd (mg x=some (.ref f))
abbrev Dfm (K:W.Frag) (C:Addr) (x q:Str) (st:Stmt) (ps:List Str) (f:Addr) (fd:FuncData):Prop:=Df K x q st ps f fd (yr7 K C x f)
section
variable {K:W.Frag} {mg:Str->Option Value} {h:Heap} {x q:Str} {f:Addr} {M:Prop} {oc kV doc pm cdv ct:Value} {od an:Option Addr} {osl:Array (Option Value)}
theorem dgf_mk (X:K.In h) (G:h.Ns mainGlobals mg) (a:W.nsIn K mainGlobals x=some (some (.ref f))) (l:K.lookup f=some ⟨oc,od,.func (W.fnOf x x (xc st) (ww st) (yg st) .none kV doc pm an cdv ct),osl⟩)
  (c:W.codeIn K cdv x=true) (k:W.keepIn K (.ref f)=true):Dgf K mg x st f (W.fnOf x x (xc st) (ww st) (yg st) .none kV doc pm an cdv ct):=⟨yl1 l c k,W.mg_of X G a⟩
theorem dgm_mk (a:W.findIn K (.ref C) x=some (some (.ref f))) (i:W.isFn K (.ref f)=true) (l:K.lookup f=some ⟨oc,od,.func (W.fnOf x q (xc st) (ww st) (yg st) .none kV doc pm an cdv ct),osl⟩)
  (c:W.codeIn K cdv q=true) (k:W.keepIn K (.ref f)=true):Dgm K C x q st f (W.fnOf x q (xc st) (ww st) (yg st) .none kV doc pm an cdv ct):=⟨yl1 l c k,a,i,k⟩
theorem Dg.d1 (D:Dg K x q st f fd M) (h:∀ (kV doc pm:Value) (an:Option Addr) (cdv ct:Value) (u0:Value),bindArgs (W.fnOf x q (xc st) (ww st) (yg st) .none kV doc pm an cdv ct) ⟨[u0],[]⟩=pure [(p0,u0)]):Df K x q st [p0] f fd M :=
 ⟨D.F,D.F.binds fun kV doc pm an cdv ct c a=>(by
  obtain ⟨u0,d,rfl,b⟩:=yiz a;obtain rfl:=eZ b;exact h kV doc pm an cdv ct u0),D.m⟩
theorem Dg.d2 (D:Dg K x q st f fd M) (h:∀ (kV doc pm:Value) (an:Option Addr) (cdv ct:Value) (u0 u1:Value),bindArgs (W.fnOf x q (xc st) (ww st) (yg st) .none kV doc pm an cdv ct) ⟨[u0,u1],[]⟩=pure [(p0,u0),(p1,u1)]):Df K x q st [p0,p1] f fd M :=
 ⟨D.F,D.F.binds fun kV doc pm an cdv ct d b=>(by
  obtain ⟨u0,g,rfl,a⟩:=yiz b; obtain ⟨u1,e,rfl,c⟩:=yiz a;obtain rfl:=eZ c;exact h kV doc pm an cdv ct u0 u1),D.m⟩
theorem Dg.d3 {p2:Str} (D:Dg K x q st f fd M) (h:∀ (kV doc pm:Value) (an:Option Addr) (cdv ct:Value) (u0 u1 u2:Value),bindArgs (W.fnOf x q (xc st) (ww st) (yg st) .none kV doc pm an cdv ct) ⟨[u0,u1,u2],[]⟩=pure [(p0,u0),(p1,u1),(p2,u2)]):Df K x q st [p0,p1,p2] f fd M :=
 ⟨D.F,D.F.binds fun kV doc pm an cdv ct g b=>(by
  obtain ⟨u0,e,rfl,a⟩:=yiz b; obtain ⟨u1,j,rfl,c⟩:=yiz a; obtain ⟨u2,i,rfl,d⟩:=yiz c;obtain rfl:=eZ d;exact h kV doc pm an cdv ct u0 u1 u2),D.m⟩
theorem Dg.d4 {p2 p3:Str} (D:Dg K x q st f fd M) (h:∀ (kV doc pm:Value) (an:Option Addr) (cdv ct:Value) (u0 u1 u2 u3:Value),bindArgs (W.fnOf x q (xc st) (ww st) (yg st) .none kV doc pm an cdv ct) ⟨[u0,u1,u2,u3],[]⟩=pure [(p0,u0),(p1,u1),(p2,u2),(p3,u3)]):Df K x q st [p0,p1,p2,p3] f fd M :=
 ⟨D.F,D.F.binds fun kV doc pm an cdv ct i d=>(by
  obtain ⟨u0,l,rfl,c⟩:=yiz d; obtain ⟨u1,k,rfl,b⟩:=yiz c; obtain ⟨u2,j,rfl,e⟩:=yiz b; obtain ⟨u3,g,rfl,a⟩:=yiz e;obtain rfl:=eZ a;exact h kV doc pm an cdv ct u0 u1 u2 u3),D.m⟩
end
structure KC (K:W.Frag) (C:Addr):Prop where
 pg:W.plainGet K C Str.empty=true
 hd:W.hasDictIn K C=true
 po:W.plainOver K C=true
 sa:W.findIn K (.ref C) "__setattr__"=some (some (.builtin "object.__setattr__"))
 mk':W.makesIn K C=true
 kc:W.keepIn K (.ref C)=true
theorem KC.cls {K:W.Frag} (h:KC K C):Cls K C:=⟨h.pg,h.hd,h.po,h.sa⟩
abbrev GV (K:W.Frag) (x:Str) (v:Value):Prop:=W.nsIn K mainGlobals x=some (some v)
abbrev GZ (K:W.Frag) (x:Str):Prop:=W.nsIn K mainGlobals x=some none
abbrev FN (K:W.Frag) (C:Addr) (x:Str):Prop:=W.findIn K (.ref C) x=some none
section
variable {K:W.Frag} {H:Hp} {p dx:Addr} {fs fs':List (Str × V)} {v:V} {nm:Str} {P:V->Prop} {nx:St->Hp->Prop} {σ:St}
abbrev RdX (K:W.Frag) (H:Hp) (p:Addr) (nm:Str) (P:V->Prop):Prop:=∃ a' C dx fs v,V.ref p=.ref a'/\H a'=some (.ins C dx fs)/\Cls K C/\vk K C nm/\fs.lookup nm=some v/\P v
abbrev StX (K:W.Frag) (H:Hp) (p:Addr) (nm:Str) (v:V) (nx:St->Hp->Prop) (σ:St):Prop:=∃ a' C dx fs,V.ref p=.ref a'/\H a'=some (.ins C dx fs)/\Cls K C/\vk K C nm/\fs.length < 1000/\wo nx σ (upd H a' (.ins C dx (z6 nm v fs)))
abbrev MtX (H:Hp) (p C:Addr) (nm:Str) (R:Prop):Prop:=∃ a dx fs,V.ref p=.ref a/\H a=some (.ins C dx fs)/\fs.lookup nm=none/\R
theorem rdX (hp:H p=some (.ins C dx fs)) (c:Cls K C) (n:vk K C nm) (l:fs.lookup nm=some v) (h:P v):RdX K H p nm P:=⟨p,C,dx,fs,v,rfl,hp,c,n,l,h⟩
theorem stX (hp:H p=some (.ins C dx fs)) (c:Cls K C) (n:vk K C nm) (l:fs.length < 1000) (e:z6 nm v fs=fs') (h:wo nx σ (upd H p (.ins C dx fs'))):StX K H p nm v nx σ:=⟨p,C,dx,fs,rfl,hp,c,n,l,by rw [e]; exact h⟩
theorem lt0:([]:List (Str × V)).length < 1000:=by show 0 < 1000; decide
theorem lt1 {a:Str × V}:[a].length < 1000:=by show 1 < 1000; decide
theorem lt2 {a b:Str × V}:[a,b].length < 1000:=by show 2 < 1000; decide
theorem lt3 {a b c:Str × V}:[a,b,c].length < 1000:=by show 3 < 1000; decide
theorem lt4 {a b c d:Str × V}:[a,b,c,d].length < 1000:=by show 4 < 1000; decide
theorem lt5 {a b c d e:Str × V}:[a,b,c,d,e].length < 1000:=by show 5 < 1000; decide
theorem lt6 {a b c d e f:Str × V}:[a,b,c,d,e,f].length < 1000:=by show 6 < 1000; decide
theorem yxi:∀ {fs:List (Str × V)},nm∉fs.map (·.1)->fs.lookup nm=none
 | [],_=>rfl
 | (g,v) :: r,h=>wk (fun e=>h (by rw [e]; exact dS)) (yxi fun m=>h (d5 _ m))
theorem mtX {R:Prop} {N:List Str} (hp:H p=some (.ins C dx fs)) (k:fs.map (·.1)=N) (n:nm∉N) (h:R):MtX H p C nm R:=⟨p,dx,fs,rfl,hp,yxi (by rw [k]; exact n),h⟩
theorem w4 {N P:List Str} {sc:Scope} (h:(sc.kind=.function/\sc.isCoroutine=false/\sc.isGenerator=false)/\N.Nodup/\N.take P.length=P/\(∀ x∈P,sc.names.lookup x=some .local\/sc.names.lookup x=some .cell)/\∀ y∈sc.names,y.2≠.free):yk N P sc:=⟨h.1.1,h.1.2.1,h.1.2.2,h.2.1,h.2.2.1,h.2.2.2.1,h.2.2.2.2⟩
end
theorem Inv.freeze {X:Cx} {σ:St} {H:Hp} {s:Shared} {d:Addr} {u:HO} {o:Obj} (I:Inv X pins σ H s) (hd:H d=some u) (mu:Mut (some u)) (ho:s.heap.get? d=some o):Inv X pins σ (upd H d (.frz o u)) s:=by
 have h:∀ {b},H b=none->b≠d:=fun n z=>by rw [z,hd] at n; cases n
 have a:∀ {b v},H b=some v->¬ Mut (some v)->b≠d:=fun e n z=>by rw [z,hd] at e; cases e; exact n mu
 refine ⟨I.ok,I.os,I.bare,⟨I.base.keep,I.base.slot,fun b i e n r=>?_,I.base.there,fun b A e=>?_,fun b i v e=>?_,fun b l e=>?_⟩,I.loc,I.cell,?_,fun x c e=>?_,fun p k=>?_,fun b v e=>?_,I.len⟩
 .have z:=I.base.free b i e n r; rw [yn (h z)]; exact z
 .have z:=I.base.tups b A e; rw [yn (a z id)]; exact z
 .have z:=I.base.frzs b i v e; rw [yn (a z id)]; exact z
 .obtain ⟨m,z⟩:=I.base.tbls b l e; exact ⟨m,by rw [yn (a z id)]; exact z⟩
 .rw [yn (h I.free)]; exact I.free
 .rw [yn (h (I.freeC x c e))]; exact I.freeC x c e
 .obtain ⟨w,j,t⟩:=I.pin p k; exact ⟨w,by rw [yn (h j)]; exact j,t⟩
 .have g:∀ {c y},H c=some (.own y)->upd H d (.frz o u) c=some (.own y):=fun q=>by rw [yn (a q id)]; exact q
  have f:∀ {c y},H c=some (.tup y)->upd H d (.frz o u) c=some (.tup y):=fun q=>by rw [yn (a q id)]; exact q
  by_cases hb:b=d
  .subst hb; rw [yc] at e; cases e; exact ⟨ho,(I.hok b _ hd).stay (fun _ _ _ q=>q) (fun _ q=>g q) fun _ _ q=>f q⟩
  .rw [yn hb] at e; exact (I.hok b v e).stay (fun _ _ _ q=>q) (fun _ q=>g q) fun _ _ q=>f q
theorem Inv.thaw {X:Cx} {σ:St} {H:Hp} {s:Shared} {d:Addr} {u:HO} {o:Obj} (I:Inv X pins σ H s) (h0:∀ o u,X.H₀ d≠some (.frz o u)) (hd:H d=some (.frz o u)):Inv X pins σ (upd H d u) s:=by
 have h:∀ {b},H b=none->b≠d:=fun n z=>by rw [z,hd] at n; cases n
 refine ⟨I.ok,I.os,I.bare,⟨I.base.keep,I.base.slot,fun b g e n l=>?_,I.base.there,fun b A e=>?_,fun b g u e=>?_,fun b k e=>?_⟩,I.loc,I.cell,?_,fun x c e=>?_,fun p j=>?_,fun b v e=>?_,I.len⟩
 .have z:=I.base.free b g e n l; rw [yn (h z)]; exact z
 .have z:=I.base.tups b A e; rw [yn (xh z hd (by intro w; cases w))]; exact z
 .rw [yn (fun z=>h0 g u (by rw [<- z]; exact e))]; exact I.base.frzs b g u e
 .obtain ⟨m,z⟩:=I.base.tbls b k e; exact ⟨m,by rw [yn (xh z hd (by intro w; cases w))]; exact z⟩
 .rw [yn (h I.free)]; exact I.free
 .rw [yn (h (I.freeC x c e))]; exact I.freeC x c e
 .obtain ⟨t,i,r⟩:=I.pin p j; exact ⟨t,by rw [yn (h i)]; exact i,r⟩
 .have f:∀ {c y},H c=some (.own y)->upd H d u c=some (.own y):=fun q=>by rw [yn (xh q hd (by intro w; cases w))]; exact q
  have a:∀ {c y},H c=some (.tup y)->upd H d u c=some (.tup y):=fun q=>by rw [yn (xh q hd (by intro w; cases w))]; exact q
  by_cases hb:b=d
  .subst hb; rw [yc] at e; cases e; exact (I.hok b _ hd).2.stay (fun _ _ _ q=>q) (fun _ q=>f q) fun _ _ q=>a q
  .rw [yn hb] at e; exact (I.hok b v e).stay (fun _ _ _ q=>q) (fun _ q=>f q) fun _ _ q=>a q
theorem ygd {α β:Type} {F:α->β->Prop} {l₁:List α} {l₂:List β} (h:Paired F l₁ l₂):∀ {i:Nat} {y:β},l₂[i]?=some y->∃ x,l₁[i]?=some x/\F x y:=by
 induction h with
 | nil=>intro i y e; cases e
 | cons r t ih =>
  intro i y e
  cases i with
  | zero=>cases e; exact ⟨_,rfl,r⟩
  | succ j=>exact ih e
def Its (x:Str):It:=⟨fun i _=>i < x.cps.size,fun i H v H'=>H'=H/\∃ c,x.cps[i]?=some c/\v=.str ⟨#[c]⟩,fun i _=>i=x.cps.size⟩
theorem ydm {w:World} {K:W.Frag} {ty:String} (x:Str) (t:Tok) (it:Addr) (hn:["enumerate","zip","dict_itemiterator","dict_reverseitemiterator","odict_iterator","itertools.zip_longest","itertools.pairwise"].contains ty=false)
  (W:∀ A:Around,A.handled=none->Walks P w A it [it] [it] x.cps.size (SignAt x) (fun i h=>h.IsStrIter it ty x t i)) (hs:∀ (A:Around) (i:Nat) (s:Shared) (Q E:Value->Shared->Prop),s.heap.IsStrIter it ty x t i->Q (.ref it) s->wpAny (model P w) A (pyIter (.ref it)) Q E s):yiw P w K tg (Its x) [it] it (fun i h=>h.IsStrIter it ty x t i) where
 mem:=by simp
 obj:=fun i h a b g=>by
  have e:b=it:=by simpa using g
  subst e;obtain ⟨o,e,_,d⟩:=a;exact ⟨o,e,fun v z=>by rw [d] at z; cases z⟩
 keep:=fun i h n a k=>let ⟨o,e,r⟩:=a; ⟨o,k it (by simp) o e,r⟩
 item:=by
  intro X y F q L i f s σ H E I m a l;subst y F q;obtain ⟨p,D,R,M,B,C⟩:=m it (by simp);refine (W X.A (I.ok.hd L)).item i s _ _ l a fun v n G T j J=>?_;obtain ⟨c,u,S,rfl⟩:=T;have O:Inv X f σ H { s with heap:=n,toks:=G }:=I.turned (fun b o g e=>J b o (by simpa using g) e) p D M B C;obtain ⟨o,e,U,N⟩:=id j;exact ⟨_,rfl,yit (s:={ s with heap:=n,toks:=G }) e U N hn ⟨.str ⟨#[c]⟩,H,O,⟨u,rfl⟩,⟨rfl,c,S,rfl⟩,j,fun b g=>(m b g).1⟩⟩
 done:=by
  intro X y F q L i f s σ H E I m a l;subst y F q;have l:i=x.cps.size:=l;subst l;obtain ⟨p,D,R,M,B,C⟩:=m it (by simp);exact (W X.A (I.ok.hd L)).done s _ _ a fun n G J=>⟨rfl,I.turned (fun b o g e=>J b o (by simpa using g) e) p D M B C⟩
 self:=fun A i s Q E a h=>hs A i s Q E a h
section
variable {X:Cx}
def va6 (tl:TE):TI:=fun σ H R=>tl σ H fun v H1=>∃ x,v=.str x/\R (Its x) H1
theorem ytj {l:Expr} {tl:TE} (hl:PE X l tl):PI X tg l (va6 tl):=by
 intro a s σ H R I h;refine thn (hl a s σ H _ I h) fun v c h'=>?_;obtain ⟨y,j,f,m,x,e,q⟩:=h';subst e;obtain ⟨t,rfl⟩:=m
 have d:∀ {ob:Obj},∀ b∈[c.heap.objs.size],ycp X a j b:=fun {_} b k=>by
  have e:b=c.heap.objs.size:=by simpa using k
  subst e;exact f.fpOk (dh _) (f.hok.fresh (dh _))
 cases ha:x.cps.all (· < 128)
 .refine wpAny_pyIter_wide ha ?_;exact ⟨c.heap.objs.size,[c.heap.objs.size],_,_,j,rfl,f.kept (t':=c.toks) fun b o e=>de _ e,ydm x t _ (by decide) (fun A g=>Walks.strWide g _ x t) (fun _ _ _ _ _ i h=>wpAny_pyIter_striter_wide i h),⟨_,dz _ rfl,rfl,rfl⟩,d (ob:=default),q⟩
 .refine wpAny_pyIter_ascii ha ?_;exact ⟨c.heap.objs.size,[c.heap.objs.size],_,_,j,rfl,f.kept (t':=c.toks) fun b o e=>de _ e,ydm x t _ (by decide) (fun A g=>Walks.strAscii g _ x t) (fun _ _ _ _ _ i h=>wpAny_pyIter_striter_ascii i h),⟨_,dz _ rfl,rfl,rfl⟩,d (ob:=default),q⟩
theorem ywe {tl:TE} {σ:St} {H:Hp} {R:It->Hp->Prop} (h:tl σ H fun v H1=>∃ x,v=.str x/\R (Its x) H1):va6 tl σ H R:=h
theorem ynw {x:Str} {k:Str} {t:Tok} {pos:Pos} (hg:Gl X x) (hm:X.mg x=some (.str k t)) (hd:(x == ("__debug__":Str))=false:=by decide):PE X (.Name x pos) (tC (.str k)):=ycb hg hm ⟨t,rfl⟩ hd
end
theorem yfw {x:Str} {te:TE} {R:Hp->Prop} {H1:Hp} (f:Nat->V) (hD:H1 D=none)
  (hs:∀ i c H,x.cps[i]?=some c->i < x.cps.size->yw H1 H->H D=some (.lst ((List.range i).map f))->te [some (.str ⟨#[c]⟩)] H (MpK H1 D f x.cps.size i)) (hd:∀ H,yw H1 H->H D=some (.lst ((List.range x.cps.size).map f))->R H):yed (Its x) te D R H1:=by
 refine ⟨cW x.cps.size (Mp H1 D f),⟨x.cps.size,by simp,dJ _,Mp.zero hD⟩,?_⟩;rintro i m H ⟨rfl,d,p⟩;by_cases hlt:i < x.cps.size
 .refine .inr ⟨hlt,fun v b y=>?_⟩;obtain ⟨rfl,c,a,rfl⟩:=y;exact hs i c _ a hlt p.1 p.2
 .have e:i=x.cps.size:=by omega
  subst e;exact .inl ⟨rfl,hd H p.1 p.2⟩
def Itv (o:Obj) (d:Addr) (kvs:List (Key × V)):It :=
 ⟨fun i H=>H d=some (.frz o (.dK kvs))/\i < kvs.length,fun i H x H'=>H'=H/\∃ k,kvs[i]?=some (k,x),fun i H=>H d=some (.frz o (.dK kvs))/\kvs.length <= i⟩
theorem yyl {w:World} {k:Key} {u:Value} (r:(we P w).is k u=true):xl (kV k) u:=by
 rcases w5 r with ⟨i,t,rfl,rfl⟩ | ⟨x,t,rfl,rfl⟩ <;> exact ⟨t,rfl⟩
theorem KV.get {kvs:List (Key × V)} {vs:List (Key × Value)} (r:KV kvs vs) {k:Key} {u:Value} (h:vs[i]?=some (k,u)):∃ v,kvs[i]?=some (k,v)/\xl v u:=by
 obtain ⟨⟨b,v⟩,e,a,c⟩:=ygd r h;have a:b=k:=a;exact ⟨v,by rw [e,a],c⟩
theorem yhf:∀ {xs:List V} {us:List Value},xs.length=us.length->(∀ (i:Nat) u,us[i]?=some u->∃ x,xs[i]?=some x/\xl x u)->wt xs us
 | [],[],_,_=>.nil
 | x :: xs,u :: us,hl,h=>by
  obtain ⟨y,e,r⟩:=h 0 u rfl;cases e;exact .cons r (yhf (Nat.succ.inj hl) fun i u a=>h (i+1) u a)
theorem yl0 {X:Cx} {σ:St} {H:Hp} {s:Shared} {d:Addr} {kvs:List (Key × V)} {o:Obj} {es:Array DictEntry} {ep:Nat} (I:Inv X pins σ H s) (hd:H d=some (.frz o (.dK kvs))) (ho:o.data=.dict es ep):∃ vs,KV kvs vs/\s.heap.DictAt (we X.prog X.w) d vs ep:=by
 obtain ⟨b,_,_,vs,r,i,g,e,a,f,c,h⟩:=(show xk X.prog X.w H s.heap d (.frz o (.dK kvs)) from I.hok d _ hd);rw [b] at a;cases a;rw [ho] at c;cases c;exact ⟨vs,r,o,es,b,f,ho,h⟩
theorem ygu {w:World} {K:W.Frag} {o:Obj} {es:Array DictEntry} {ep:Nat} {kvs:List (Key × V)} (d it:Addr) (hne:d≠it) (ho:o.data=.dict es ep):yiw P w K tg (Itv o d kvs) [it] it (fun i h=>h.IsValIter it d i kvs.length ep) where
 mem:=by simp
 obj:=fun i h a b f=>by
  have e:b=it:=by simpa using f
  subst e;obtain ⟨o,e,_,d⟩:=a;exact ⟨o,e,fun v z=>by rw [d] at z; cases z⟩
 keep:=fun i h m a k=>a.at fun o e=>k it (by simp) o e
 item:=by
  intro X q C p D i c s σ H E I j a ⟨x,T⟩;subst q C p;obtain ⟨n,B,f2,F,t,u⟩:=j it (by simp);obtain ⟨J,r,G⟩:=yl0 I x ho;have l:=r.length;have W:=Walks.dictValues (knd:=we X.prog X.w) (prog:=X.prog) (w:=X.w) (A:=X.A) (I.ok.hd D) it d hne J ep;refine W.item i s _ _ (by omega) ⟨by rw [<- l]; exact a,G⟩ fun v m L hv g Z=>?_;obtain ⟨k,hx⟩:=hv;obtain ⟨y,R,M⟩:=r.get hx;have U:Inv X c σ H { s with heap:=m,toks:=L }:=I.turned (fun b o f e=>Z b o (by simpa using f) e) n B F t u;obtain ⟨o',S,Q,O⟩:=id g.1;exact ⟨_,rfl,yit (s:={ s with heap:=m,toks:=L }) S Q O (by decide) ⟨y,H,U,M,⟨rfl,k,R⟩,by rw [l]; exact g.1,fun b f=>(j b f).1⟩⟩
 done:=by
  intro X q C p D i c s σ H E I j a ⟨x,Y⟩;subst q C p;obtain ⟨n,B,f2,F,t,u⟩:=j it (by simp);obtain ⟨J,r,G⟩:=yl0 I x ho;have l:=r.length;exact wpAny_pyNext_values_end (I.ok.hd D) (by rw [<- l]; exact a) G (by rw [List.getElem?_eq_none_iff]; omega) fun m N=>⟨rfl,I.turned (t':=s.toks) (fun b o f e=>N b o f e) n B F t u⟩
 self:=fun _ _ _ _ _ a h=>wpAny_pyIter_valiter a h
section
variable {X:Cx}
def yxe (to:TE):TI:=fun σ H R=>to σ H fun x H1=>∃ d kvs,x=.ref d/\H1 d=some (.dK kvs)/\∀ o,R (Itv o d kvs) (upd H1 d (.frz o (.dK kvs)))
theorem yo3 {l:Expr} {to:TE} {apos cpos:Pos} (hl:PE X l to) (hbase:attributeBase l "values" X.env (eval l X.env)=eval l X.env:=by rfl) (hline:(apos.endLine == cpos.line)=true:=by rfl):PI X tg (.Call (.Attribute l "values" apos) [] [] cpos) (yxe to):=by
 intro g s σ H R I h;refine wpAny_Call_method0_late hbase hline (thn (hl g s σ H _ I h) fun v c h'=>?_);obtain ⟨x,K,B,D,d,kvs,e,z,q⟩:=h';subst e;cases D;obtain ⟨_,y,p,r,k,C,ep,j,n,A,E⟩:=(show xk X.prog X.w K c.heap d (.dK kvs) from B.hok d _ z);have u:c.heap.DictAt (we X.prog X.w) d p ep:=⟨k,C,j,n,A,E⟩;refine ⟨"dict","dict.values",F.plainAttrs_dict,F.slot_dict_values,F.type_dict_values,⟨k,j,n.1⟩,fun a G=>by cases G; exact ⟨k,j,n.2.1⟩,Calls.callWith_builtin rfl (PySem.evalArgs_none (call_meetsIn F.slot_dict_values u.dictOf.typeIs F.entry_dict_values (F.args_dict_values_1 _) (meets_dict_values (we X.prog X.w) d y) ⟨⟨p,u.dictOf⟩,?_⟩))⟩;refine wpAny_pyIter_values (knd:=we X.prog X.w) (d:=d) (kvs:=p) (ep:=ep) ⟨_,dz _ rfl,rfl,rfl⟩ (u.push _) ?_;have t:=B.freeze z trivial j;have f:(c.heap.push { cls:=.type "dict_values",data:=.fields #[.ref d] }).objs.size=c.heap.objs.size+1:=Heap.size_push ..;have m:d < c.heap.objs.size:=du j;refine ⟨_,[_],_,_,_,rfl,t.kept (t':=c.toks) fun b o e=>de _ (de _ e),ygu d _ (show d≠(c.heap.push _).objs.size by rw [f]; exact dH (Nat.lt_succ_of_lt m)) A,⟨_,dz _ rfl,rfl,by rw [r.length]; rfl⟩,fun b J=>?_,q k⟩;have e:b=(c.heap.push { cls:=.type "dict_values",data:=.fields #[.ref d] }).objs.size:=by simpa using J
 have i:c.heap.objs.size <= b:=by rw [e,f]; omega
 exact t.fpOk i (t.hok.fresh i)
theorem yn7 {to:TE} {σ:St} {H:Hp} {R:It->Hp->Prop} (h:to σ H fun x H1=>∃ d kvs,x=.ref d/\H1 d=some (.dK kvs)/\∀ o,R (Itv o d kvs) (upd H1 d (.frz o (.dK kvs)))):yxe to σ H R:=h
def yk0 (t:TE):TE:=fun σ H Q=>t σ H fun v H'=>∃ d o u,(∀ o u,H d≠some (.frz o u))/\H' d=some (.frz o u)/\Q v (upd H' d u)
theorem yno {e:Expr} {t:TE} (h:PE X e t):PE X e (yk0 t):=.mk fun a s σ H Q I q=>thn (h a s σ H _ I q) fun v f ⟨x,g,J,r,d,o,u,c,b,k⟩=>⟨x,_,J.thaw (fun o u e=>c o u (I.base.frzs d o u e)) b,r,k⟩
theorem yn5 {t:TE} {σ:St} {H:Hp} {Q:VK} (h:t σ H fun v H'=>∃ d o u,(∀ o u,H d≠some (.frz o u))/\H' d=some (.frz o u)/\Q v (upd H' d u)):yk0 t σ H Q:=h
def yt3:List V->Hp->VK->Prop:=fun xs H Q=>∃ d kvs,xs=[.ref d]/\H d=some (.dK kvs)/\∀ l,H l=none->Q (.ref l) (upd H l (.lst (kvs.map fun p=>kV p.1)))
theorem ye1 (hc:X.calm=true):jw X (.type "list") yt3:=by
 intro g s σ H T O Q I r h;obtain ⟨d,kvs,rfl,z,q⟩:=h;obtain ⟨u,rfl,n⟩:=ė r;cases n;obtain ⟨f,c,j,r,C,l,ep,J,B,A,t⟩:=(show xk X.prog X.w H s.heap d (.dK kvs) from I.hok d _ z);have L:s.heap.DictAt (we X.prog X.w) d j ep:=⟨C,l,J,B,A,t⟩;refine W.kdl_call (W.kdl_dict (knd:=we X.prog X.w) (kvs:=j) (ep:=ep) c) (I.ok.hd hc) L (by rw [<- r.length]; exact f) fun N D a m E e b=>?_
 have M:wt (kvs.map fun p=>kV p.1) a.toList:=yhf (by have S:=b.1; have P:=r.length; have R:a.toList.length=a.size:=eP; rw [cH]; omega) fun i v G=>by
  obtain ⟨k,x,K,F⟩:=b.2 i v (by rw [<- Array.getElem?_toList]; exact G);obtain ⟨y,o,_⟩:=r.get K;exact ⟨kV k,by rw [dm,o]; rfl,yyl F⟩
 exact ⟨.ref s.heap.objs.size,_,I.laid (t':=D) E (dh _) (show xk X.prog X.w _ N _ (.lst _) from ⟨by rw [cH]; exact f,a.toList,m,M,by rw [Array.toArray_toList]; exact e⟩),rfl,q _ (I.hok.fresh (dh _))⟩
end
theorem ye5 {o:Obj} {d:Addr} {kvs:List (Key × V)} {te:TE} {fr:St} {R:Hp->Prop} {H1:Hp} (Pv:Nat->Hp->Prop) (h0:Pv 0 (upd H1 D (.lst []))) (hl:∀ i H,i <= kvs.length->Pv i H->H d=some (.frz o (.dK kvs)))
  (hs:∀ i k v H,kvs[i]?=some (k,v)->i < kvs.length->Pv i H->te (some v :: fr) H fun y H4=>∃ ys,H4 D=some (.lst ys)/\ys.length < sizeLine/\∃ m',m' < kvs.length - i/\cW kvs.length Pv (i+1) m' (upd H4 D (.lst (ys++[y])))) (hd:∀ H,Pv kvs.length H->R H):uj (Itv o d kvs) te fr D R H1:=by
 refine ⟨cW kvs.length Pv,⟨kvs.length,by simp,dJ _,h0⟩,?_⟩;rintro i m H ⟨rfl,b,p⟩;have q:=hl i H b p;by_cases hlt:i < kvs.length
 .refine .inr ⟨⟨q,hlt⟩,fun x c y=>?_⟩;obtain ⟨rfl,k,a⟩:=y;exact hs i k x _ a hlt p
 .have e:i=kvs.length:=by omega
  subst e;exact .inl ⟨⟨q,dh _⟩,hd H p⟩
def isN:V->Bool
 | .non=>true
 | _=>false
def yya:Value->Bool
 | .none=>true
 | _=>false
def vbv (K:W.Frag):R2:=fun x y H Q=>∃ p xs,x=.non/\y=.ref p/\SqL K H p xs/\(∀ z∈xs,z=.non\/∃ q ys,z=.ref q/\SqL K H q ys)/\Q (.bl (xs.any isN)) H
theorem yhm:∀ {xs:List V} {us:List Value},wt xs us->(∀ z∈xs,z=.non\/∃ q,z=.ref q)->us.any yya=xs.any isN
 | _,_,.nil,_=>rfl
 | y :: xs,u :: us,.cons r t,f=>by
  rw [List.any_cons,List.any_cons,yhm t fun z a=>f z (d5 _ a)]
  congr 1
  rcases f y dS with rfl | ⟨q,rfl⟩
  .cases r; rfl
  .cases r; rfl
theorem yuy {X:Cx} (hu:X.A.units+64 < cLine):OpR X (compareOp .In) (vbv X.K):=by
 intro o s σ H x y v u Q I F C h;obtain ⟨p,d,rfl,rfl,G,c,q⟩:=h;cases F;cases C;obtain ⟨b,r,D,B⟩:=I.list G
 have l:∀ {d:List V} {g:List Value},wt d g->(∀ z∈d,z=.non\/∃ q m,z=.ref q/\SqL X.K H q m)->∀ w∈g,SeqAt.EqAt X.A.in1 s w .none (yya w):=by
  intro d g E
  induction E with
  | nil=>intro _ w a; cases a
  | cons r1 t ih =>
   intro f w a;rcases dA.mp a with rfl | a
   .rcases f _ dS with rfl | ⟨J,m,rfl,k⟩
    .cases r1; exact SeqAt.EqAt.same _
    .cases r1;obtain ⟨n,_,i,_⟩:=I.list k;exact SeqAt.EqAt.list_none i.isList (by show X.A.units+1 < cLine; omega)
   .exact ih (fun z c=>f z (d5 _ c)) w a
 refine SeqAt.in_listAt yya D.isList (fun w a=>l r c w (by simpa using a)) ⟨.bl _,H,I,rfl,?_⟩;rw [show b.toArray.any yya=b.any yya by simp,yhm r fun z j=>(c z j).imp id fun ⟨q,_,e,_⟩=>⟨q,e⟩];exact q
theorem ygl {X:Cx}:jw X (.builtin "len") (fun xs H Q=>∃ a kvs,xs=[V.ref a]/\H a=some (.dK kvs)/\Q (.int kvs.length) H):=by
 intro b s σ H xs g Q I r h;obtain ⟨a,kvs,rfl,e,q⟩:=h;obtain ⟨u,rfl,d⟩:=ė r;cases d;exact yyn I (.of e) fun t f c=>⟨.int kvs.length,H,c,⟨t,rfl⟩,q⟩
theorem yoi {σ:St} {H:Hp} {Q:VK} (h:∀ p,H p=none->Q (.ref p) (upd H p (.dK []))):ymo σ H Q:=h
theorem yoy {td ty:TE} {σ:St} {H:Hp} {Q:VK} (h:td σ H fun x H1=>∃ a,x=.ref a/\IsD H1 a/\ty σ H1 fun y H2=>∃ kvs k v,H2 a=some (.dK kvs)/\y=kV k/\uw kvs k=some v/\Q v (upd H2 a (.dK (Ñ kvs k)))):ymv td ty σ H Q:=h
theorem yfs (bs:List Bool):((List.range bs.length).any fun i=>(bs[i]?).getD false)=bs.any id:=by
 rw [Bool.eq_iff_iff,List.any_eq_true,List.any_eq_true]
 constructor
 .rintro ⟨i,a,h⟩;have a:=ew.mp a;rw [df a] at h;exact ⟨_,ei a,h⟩
 .rintro ⟨b,c,h⟩;obtain ⟨i,a,rfl⟩:=List.getElem_of_mem c;exact ⟨i,ew.mpr a,by rw [df a]; exact h⟩
theorem yi5 {X:Cx} (hc:X.calm=true):jw X (.builtin "any") (fun xs H Q=>∃ p bs,xs=[.ref p]/\SqL X.K H p (List.map V.bl bs)/\Q (.bl (bs.any id)) H):=by
 intro g s σ H xs z Q I r h;obtain ⟨p,bs,rfl,n,q⟩:=h;obtain ⟨u,rfl,m⟩:=ė r;cases m;obtain ⟨t,l,j,B⟩:=I.list n;obtain rfl:=ŗ l;have f:=j.isList;have d:p < s.heap.objs.size:=by obtain ⟨_,e,_⟩:=f; exact du e
 refine call_any_walk (wpAny_pyIter_list f ?_)
 refine ⟨s.heap.objs.size,[s.heap.objs.size,p],[s.heap.objs.size],(bs.map Value.bool).toArray.size,_,_,fun i=>(bs[i]?).getD false,rfl,Walks.list (A:=X.A.in1) (show X.A.handled=none from I.ok.hd hc) _ p (dH d) (bs.map Value.bool).toArray,
  ⟨⟨_,dz _ rfl,rfl,rfl⟩,f.push _⟩,fun i v C y D a c=>?_,fun E o w=>?_⟩
 .have a:(bs.map Value.bool)[i]?=some v:=by simpa using a
  rw [dm] at a
  cases e:bs[i]? with
  | none=>rw [e] at a; cases a
  | some b =>
   dsimp only at c;rw [e] at a c;cases a;exact ey c
 .have e:((List.range (bs.map Value.bool).toArray.size).any fun i=>(bs[i]?).getD false)=bs.any id:=by rw [dy,cH]; exact yfs bs
  rw [e];refine ⟨.bl (bs.any id),H,I.kept (t':=o) fun b x e=>w b x (fun k=>?_) (de _ e),rfl,q⟩;rw [dB.mp k] at e;exact eL _ (du e)
section
variable {prog:Program} {w:World}
def yzm (k:Int × List Int):Int:=reduceHash (Builtin.Tuple.tupleHashOf [hashInt k.1,reduceHash (Builtin.Tuple.tupleHashOf (k.2.map hashInt))])
variable {A:Around} {s:Shared}
end
abbrev NX:=(Int × List Int) × Addr × Addr
def vbd (x:NX):DictEntry:=⟨yzm x.1,.ref x.2.1,.ref x.2.2⟩
def ND (a:Addr) (xs:List NX):HO:=.ext fun h=>(a == sysModules)=false/\∃ o es ep,h.get? a=some o/\o.ExactDict/\o.data=.dict es ep/\es.toList=xs.map vbd
def NKy (H:Hp) (p:Addr) (k:Int × List Int):Prop:=∃ b,H p=some (.tup [.int k.1,.ref b])/\H b=some (.tup (k.2.map V.int))
structure NDt (H:Hp) (a:Addr) (xs:List NX):Prop where
 o:H a=some (ND a xs)
 k:∀ x∈xs,NKy H x.2.1 x.1
 n:(xs.map (·.1)).Nodup
 l:xs.length < sizeLine
def you:V->List V->Hp->VK->Prop:=fun x vs H Q=>∃ l xs y,∃ i:Nat,x=.ref l/\vs=[.int i,y]/\H l=some (.lst xs)/\i <= xs.length/\xs.length < 1000000/\Q .non (upd H l (.lst (xs.take i++y :: xs.drop i)))
theorem ygt {X:Cx}:MtM X "list.insert" you:=by
 intro c s σ H x w v A Q I p m h;obtain ⟨l,C,y,i,rfl,rfl,f,u,B,q⟩:=h;cases p
 cases m with
 | cons r1 rr =>
  cases rr with
  | cons r2 rn =>
   cases rn;obtain ⟨t,rfl⟩:=r1
   rename_i u2
   obtain ⟨z,a,n,r,o,e⟩:=I.lstM f;have g:(-(2 ^ 63):Int) <= (i:Int):=Int.le_trans (by decide) (Int.natCast_nonneg i);have j:(i:Int) < 2 ^ 63:=Int.lt_of_lt_of_le (show (i:Int) < 1000001 by omega) (by decide)
   have d:(if (i:Int) < 0 then ((i:Int)+(a.toArray.size:Int)).toNat else min (i:Int).toNat a.toArray.size)=i:=by
    rw [if_neg (by omega),dy,<- o];omega
   generalize (i:Int)=x at g j d ⊢;have k:=fitsIndex_both g j;have b:a.toArray.size <= sizeLine:=by rw [dy]; omega
   refine call_meets PySem.F.slot_list_insert ⟨_,e,rfl⟩ PySem.F.entry_list_insert (PySem.F.args_list_insert_3 _ _ _) (PySem.AutoSeq1.list_insert_list_int_val_1 l a.toArray n x t u2 (by rw [k]; exact fun z=>nomatch z) b) ⟨e,?_⟩
   refine ⟨.non,_,I.lset (its':=a.take i++u2 :: a.drop i) f e ?_ ((r.take i).append (.cons r2 (r.drop i))) ?_,rfl,q⟩
   .show (a.toArray.extract 0 (if x < 0 then (x+(a.toArray.size:Int)).toNat else min x.toNat a.toArray.size)).push u2++a.toArray.extract (if x < 0 then (x+(a.toArray.size:Int)).toNat else min x.toNat a.toArray.size)=_;rw [d];apply Array.ext';rw [Array.toList_append,Array.toList_push,Array.toList_extract,Array.toList_extract];show (List.take (i - 0) (List.drop 0 a))++[u2]++List.take (a.toArray.size - i) (List.drop i a)=_;rw [Nat.sub_zero,List.drop_zero,dy,ej (l:=List.drop i a) (by rw [eV]; exact dh _),em];rfl
   .rw [dv,dM,dW,eV,sizeLine_eq];omega
theorem ye3 {K:W.Frag} {a:Addr} {xs:List V} {tc:TT} {te:TE} {fr:St} {R:Hp->Prop} {H1:Hp} (Pv:Nat->Hp->Prop) (h0:Pv 0 (upd H1 D (.lst []))) (hl:∀ i H,i <= xs.length->Pv i H->SqL K H a xs)
  (hs:∀ i x H,xs[i]?=some x->i < xs.length->Pv i H->tc (some x :: fr) H fun b H4=>if b=true then te (some x :: fr) H4 (fun y H5=>∃ ys,H5 D=some (.lst ys)/\ys.length < sizeLine/\∃ m',m' < xs.length - i/\cW xs.length Pv (i+1) m' (upd H5 D (.lst (ys++[y])))) else ∃ m',m' < xs.length - i/\cW xs.length Pv (i+1) m' H4)
  (hd:∀ H,Pv xs.length H->R H):ā (Itl K a) tc te fr D R H1:=by
 refine ⟨cW xs.length Pv,⟨xs.length,by simp,dJ _,h0⟩,?_⟩;rintro i m H ⟨rfl,c,p⟩;have q:=hl i H c p;by_cases hlt:i < xs.length
 .refine .inr ⟨⟨xs,xs[i],q,by simp [hlt]⟩,fun x d y=>?_⟩;obtain ⟨e,y⟩:=y;subst e;exact hs i x _ (y xs q) hlt p
 .have e:i=xs.length:=by omega
  subst e;exact .inl ⟨⟨xs,q,dh _⟩,hd H p⟩
theorem yke (b:Str) (ns:List Str):inV (.str b) (ns.map V.str)=decide (b∈ns):=by
 unfold inV;rw [Bool.eq_iff_iff,List.any_eq_true,decide_eq_true_iff]
 constructor
 .rintro ⟨v,d,e⟩;obtain ⟨x,a,rfl⟩:=di.mp d;have c:x=b:=by simpa [eqV] using e
  rw [<- c];exact a
 .intro h;exact ⟨_,di.mpr ⟨b,h,rfl⟩,by simp [eqV]⟩
theorem yfu (ns:List Str):(ns.map V.str).all ţ=true:=by
 rw [List.all_eq_true];intro v a;obtain ⟨x,_,rfl⟩:=di.mp a;rfl
theorem yga:typeLookup (.type "list") "keys"=pure none:=by rw [typeLookup_type,builtinLookup_eq_fast]; kernel_rfl
theorem ygo {prog:Program} {w:World} {A:Around} {s:Shared} {a:Addr} {xs:Array Value} {Q:Option Value->Shared->Prop} (hl:s.heap.IsList a xs) (hn:∀ o,s.heap.get? a=some o->o.dict=none) (hA:A.handled=none)
  (h:∀ h' tk,(∀ b o,s.heap.get? b=some o->h'.get? b=some o)->Q none { s with heap:=h',toks:=tk }):wpAny (model prog w) A (getAttr? (.ref a) "keys") Q E s:=by
 obtain ⟨o,hx,j,k,f⟩:=hl;have i:=hn o hx;obtain ⟨c,m,l,sl⟩:=o;simp only at j f i;subst j f i;obtain ⟨n,g,d,tk,p⟩:=s;have hT:∀ tk',(⟨n,g,d,tk',p⟩:Shared).TypeIs (.ref a) "list":=fun _=>⟨_,hx,rfl⟩;have t:=sub_AttributeError;have y:=F.slot_list_getattribute.lookup;have u:=F.slot_list_getattribute.bind (.ref a);have v:=am_list_getattr_none;unfold getAttr? getAttrBy? getAttrBy
 repeat (any_goals (first | assumption | exact hT _ | ((with_reducible show wpAny _ _ (call (Value.builtin "list.__getattribute__") _ _) _ _ _); refine call_meets F.slot_list_getattribute (hT _) am_entry_list_getattribute (F.args_list_getattribute_2 _ _) (meets_getattribute_miss_list a xs k sl "keys" _ yga (by decide +kernel) (by decide +kernel)) ⟨hx,hA,fun h' tk' e hx'=>?_⟩) | wp_step))
 obtain ⟨r,q,x⟩:=hx'.there;show wpAny _ _ (getattributeRaised _ _ _ _ _ _ _) _ _ _;unfold getattributeRaised
 repeat (any_goals (first | assumption | wp_step))
 exact h h' tk' hx'.keeps
theorem ux:plainId "dict.update.loop"=true:=by decide +kernel
theorem ç:entryFor table "dict.update.loop"=some Builtin.«dict.update.loop»:=entryFor_of_fast (by kernel_rfl)
theorem ygq {prog:Program} {w:World} {K:Type} [DecidableEq K] {knd:KeyKind prog w K} {A:Around} {R:Result->Shared->Prop} {d l:Addr} {res:Value} {rs:List (K × Value)} (hA:A.handled=none) (hdi:d≠it) (hli:l≠it) (hld:l≠d) (hrl:rs.length=items.size) (hsz:items.size <= 1000) :
  ∀ (k i:Nat) (s:Shared),items.size - i=k->i <= items.size->s.heap.IsListIter it l i->s.heap.IsList l items->s.heap.DictOf knd d (merged [] (rs.take i)) ->
  (∀ j,j < items.size->∃ t kv vv,items[j]?=some (.ref t)/\t≠d/\t≠it/\IsTup s.heap t #[kv,vv]/\∃ k,knd.is k kv=true/\rs[j]?=some (k,vv)) ->
  (∀ h' tk,h'.DictOf knd d (merged [] rs)->(∀ b o,b≠d->b≠it->s.heap.get? b=some o->h'.get? b=some o)->R (.ok (.ret res)) { s with heap:=h',toks:=tk }) ->
  codeAny (model prog w) A (.builtin "dict.update.loop" ⟨[.ref d,.ref it,rawInt i,res],[]⟩) R s:=by
 intro k
 induction k with
 | zero =>
  intro i s hk hi h C B M E;obtain rfl:i=items.size:=by omega
  refine codeAny_builtin ç ?_;rw [Around.under_plainId ux _];show wpAny _ A.in1 (pyNext (.ref it) >>= _) _ _ s;refine cT (wpAny_pyNext_list_end (show A.in1.handled=none from hA) h C (by simp) fun h' P=>?_);rw [<- hrl,eG] at B;show wpAny _ A.in1 (Builtin.Dict.addKeywords d [] >>= _) _ _ _;exact cT (dn (dn (E h' s.toks (B.extBut P hdi) fun b o _ hb e=>P b o hb e)))
 | succ k ih =>
  intro i s hk hi h C B M E;have v:i < items.size:=by omega
  obtain ⟨t,kv,vv,J,Q,I,W,kk,O,L⟩:=M i v;refine codeAny_builtin ç ?_;rw [Around.under_plainId ux _];show wpAny _ A.in1 (pyNext (.ref it) >>= _) _ _ s;refine cT (wpAny_pyNext_list_item h C J fun U p c=>?_);have z:IsTup U t #[kv,vv]:=W.extBut c.extBut I;have N:=B.sameBut c hdi;have G:=C.extBut c.extBut hli;refine cT (wpAny_holding (cT ?_));refine wpAny_tryCatch ?_;unfold Builtin.Dict.pairItems;refine cT (wpAny_typeOf z.typeIs ?_);rw [if_pos (by decide)];obtain ⟨o,X,hc,n,x⟩:=id z;refine cT (wpAny_seqItems X x (dn ?_));show wpAny _ _ (holding [kv,vv] (dictSet d kv vv)) _ _ _;refine wpAny_holding ?_
  have Y:(merged [] (rs.take i)).length <= i:=by
   have:=merged_length_le [] (rs.take i);rw [dM] at this;simp only [List.length_nil] at this;omega
  refine wpAny_dictSet_pairs O N (fun S u m=>?_) (by rw [sizeLine_eq]; omega);rw [<- merged_take_succ [] rs i (kk,vv) L] at u;have g:∀ b o,b≠d->b≠it->s.heap.get? b=some o->S.get? b=some o:=fun b o f a e=>(m.2 b f).trans (c.extBut b o a e);refine dn ⟨plainId_quiet ux _,ih (i+1) _ (by omega) v ?_ ?_ u (fun j T=>?_) fun h' tk F Z=>E h' tk F fun b o f a e=>Z b o f a (g b o f a e)⟩
  .obtain ⟨o,e,r⟩:=p;exact ⟨o,(m.2 it hdi.symm).trans e,r⟩
  .obtain ⟨o,e,r⟩:=G;exact ⟨o,(m.2 l hld).trans e,r⟩
  .obtain ⟨t,kv,vv,H,y,q,⟨o,e,r⟩,D⟩:=M j T;exact ⟨t,kv,vv,H,y,q,⟨o,g t o y q e,r⟩,D⟩
def yts:List V->Hp->VK->Prop:=fun xs H Q=>∃ l,∃ ts:List (Addr × Key × V),xs=[.ref l]/\H l=some (.lst (ts.map fun t=>V.ref t.1))/\(∀ t∈ts,H t.1=some (.tup [kV t.2.1,t.2.2]))/\ts.length <= 1000/\∀ q,H q=none->Q (.ref q) (upd H q (.dK (Í [] (ts.map (·.2)))))
theorem yde {w:World} {H:Hp} {h:Heap} (ok:HOk P w H h):∀ ts:List (Addr × Key × V),(∀ t∈ts,H t.1=some (.tup [kV t.2.1,t.2.2]))->∃ rs:List (Key × Value),KV (ts.map (·.2)) rs/\∀ j,j < ts.length->∃ t kv vv,(ts.map fun t=>Value.ref t.1)[j]?=some (.ref t)/\IsTup h t #[kv,vv]/\∃ k,(we P w).is k kv=true/\rs[j]?=some (k,vv)
 | [],_=>⟨[],.nil,fun j h=>absurd h (dN j)⟩
 | t :: ts,ht=>by
  obtain ⟨rs,a,b⟩:=yde ok ts fun x e=>ht x (.tail _ e);obtain ⟨_,i,r,c⟩:=(show xk P w H h t.1 (.tup _) from ok t.1 _ (ht t (.head _)));obtain ⟨u,x,rfl,g,d⟩:=ykl r;refine ⟨(t.2.1,x) :: rs,.cons ⟨rfl,d⟩ a,fun j f=>?_⟩
  cases j with
  | zero=>exact ⟨t.1,u,x,rfl,c,t.2.1,yci g,rfl⟩
  | succ j=>exact b j (Nat.lt_of_succ_lt_succ f)
theorem yfe {X:Cx} (hc:X.calm=true):jw X (.type "dict") yts:=by
 intro J s σ H xs us Q I r h;obtain ⟨l,f,rfl,hl,B,S,q⟩:=h;obtain ⟨u,rfl,Y⟩:=ė r;cases Y;have K:=I.ok.hd hc;obtain ⟨_,m,n,hv,N⟩:=(show xk X.prog X.w H s.heap l (.lst _) from I.hok l _ hl);refine callType_codes (Q₁:=fun k s₁=>k=.ref s.heap.objs.size/\s₁={ s with heap:=s.heap.push { cls:=.type "dict",data:=.dict #[] } }) F.kt_called_dict (F.kt_typeCall_dict_1 _) F.entry_dict_init (kt_code_dict_new _ ⟨rfl,rfl⟩) ?_;rintro k s₁ ⟨rfl,rfl⟩;have c:(s.heap.push { cls:=.type "dict",data:=.dict #[] }).DictOf (we X.prog X.w) s.heap.objs.size []:=Heap.DictOf.new s.heap;have d:=de { cls:=.type "dict",data:=.dict #[] } N;have D:(s.heap.push { cls:=.type "dict",data:=.dict #[] }).IsList l m.toArray:=⟨_,d,rfl,n,rfl⟩;refine ⟨c.typeIs,F.args_dict_init_2 _ _,?_⟩;unfold Builtin.«dict.__init__»;refine cT ?_;unfold Builtin.Dict.selfAndRest;refine cT (wpAny_notOrdered_dict c.typeIs ?_);show wpAny _ _ (pure (s.heap.objs.size,[Value.ref l])) _ _ _;refine dn ?_;show wpAny _ _ (Builtin.Dict.updateFrom "dict.__init__" s.heap.objs.size (.ref l) [] .none) _ _ _;unfold Builtin.Dict.updateFrom;refine cT (wpAny_typeOf (T:="list") ⟨_,d,rfl⟩ ?_);rw [if_pos (by decide)];refine cT (ygo (s:={ s with heap:=s.heap.push { cls:=.type "dict",data:=.dict #[] } }) D (fun o e=>by rw [d] at e; cases e; rfl) K fun g tk p=>?_);obtain ⟨rs,M,hp⟩:=yde (P:=X.prog) (w:=X.w) I.hok f B
 obtain rfl:m=f.map fun t=>Value.ref t.1:=by
  have:=yap (Cs:=f.map (·.1)) (by rw [dX]; exact hv);rw [this,dX]; rfl
 rw [if_pos (show (none:Option Value).isNone=true from rfl)];refine cT (wpAny_rule ?_);have y:g.IsList l (f.map fun t=>Value.ref t.1).toArray:=⟨_,p _ _ d,rfl,n,rfl⟩
 have i:g.DictOf (we X.prog X.w) s.heap.objs.size []:=by
  obtain ⟨o,v,x,e,r⟩:=c;exact ⟨o,v,x,p _ _ e,r⟩
 have lt2:s.heap.objs.size < g.objs.size:=by obtain ⟨o,v,x,e,r⟩:=i; exact du e
 have G:l < s.heap.objs.size:=du N;refine cT (wpAny_pyIter_list y (dn ⟨plainId_quiet ux _,?_⟩));have a:∀ b o,g.get? b=some o->(g.push { cls:=.type "list_iterator",data:=.fields #[.ref l,.int 0 0] }).get? b=some o:=fun _ _ e=>de _ e;refine ygq (A:=X.A.in1) (knd:=we X.prog X.w) (items:=(f.map fun t=>Value.ref t.1).toArray) (rs:=rs) (l:=l) K (dH lt2) (dH (Nat.lt_trans G lt2)) (dH G) ?_ ?_ _ 0 { s with heap:=g.push { cls:=.type "list_iterator",data:=.fields #[.ref l,.int 0 0] },toks:=tk } rfl (dJ _) ?_ ?_ ?_ (fun j U=>?_) fun h' E C z=>?_
 .rw [<- Paired.length M]; simp
 .simpa using S
 .exact ⟨_,dz _ rfl,rfl,rfl⟩
 .exact ⟨_,a _ _ (p _ _ d),rfl,n,rfl⟩
 .obtain ⟨o,v,x,e,r⟩:=i;exact ⟨o,v,x,a _ _ e,r⟩
 .obtain ⟨t,W,Z,e1,L,e3⟩:=hp j (by simpa using U);have O:=L.lt;refine ⟨t,W,Z,by simpa using e1,dH O,dH (Nat.lt_trans O lt2),?_,e3⟩;exact (L.keeps fun b o e=>a _ _ (p _ _ (de _ e)))
 .have R:(Í [] (f.map (·.2))).length <= sizeLine:=by
   have:=j5 (f.map (·.2)) [];rw [List.length_nil,cH] at this;rw [sizeLine_eq]; omega
  exact ⟨rfl,.ref s.heap.objs.size,_,I.laid (t':=E) (fun b o e=>z b o (dH (du e)) (dH (Nat.lt_trans (du e) lt2)) (a _ _ (p _ _ (de _ e)))) (dh _) (yie R (eQ.mpr (Nat.ne_of_gt I.big)) (M.merge .nil) C),rfl,q _ (I.hok.fresh (dh _))⟩
section
variable {prog:Program} {w:World} {A:Around} {s:Shared}
theorem yaj {t:Addr} (hne:t≠it):∀ (n i:Nat) (s:Shared) (Q:List Value->Shared->Prop),s.heap.IsListIter it t i->s.heap.IsList t items->i+n <= items.size ->
  (∀ h',Heap.IsListIter h' it t (i+n)->Heap.SameBut it s.heap h'->Q ((items.toList.drop i).take n) { s with heap:=h' })->wpAny (model prog w) A (draw (.ref it) n) Q E s
 | 0,i,s,Q,hit,_,_,hQ=>by
  show wpAny _ _ (pure []) Q E s;exact dn (by simpa using hQ s.heap hit (Heap.SameBut.refl ..))
 | n+1,i,s,Q,hit,ht,hle,hQ=>by
  have a:i < items.size:=by omega
  show wpAny _ _ (pyNext (.ref it) >>= _) Q E s;refine cT (wpAny_pyNext_list_item hit ht (x:=items[i]) (by simp [a]) fun h₁ hit₁ hs₁=>?_);refine cT (wpAny_holding (yaj hne n (i+1) _ _ hit₁ (ht.extBut hs₁.extBut hne) (by omega) fun h₂ hit₂ hs₂=>dn ?_));have b:items.toList.drop i=items[i] :: items.toList.drop (i+1):=by simp [List.drop_eq_getElem_cons,a]
  have:=hQ h₂ (by rw [show i+(n+1)=i+1+n by omega]; exact hit₂) (hs₁.trans hs₂);rw [b,List.take_succ_cons] at this;exact this
theorem ybo {t:Addr} {targets:List (Bool × (Value->Sem Unit))} {Q:Unit->Shared->Prop} (hh:A.handled=none) (ht:s.heap.IsList t items)
  (hn:targets.length=items.size) (hstar:targets.findIdx? (·.1)=none)
  (h:∀ h',Heap.ExtBut s.heap.objs.size s.heap h'->wpAny (model prog w) A (assignInOrder (targets.map (·.2)) items.toList) Q E { s with heap:=h' }) :
  wpAny (model prog w) A (unpack (.ref t) targets) Q E s:=by
 have a:t≠s.heap.objs.size:=by obtain ⟨o,f,_⟩:=ht; exact dH (du f)
 unfold unpack;rw [hn,hstar];refine cT (wpAny_holding ?_);unfold unpackItems;refine cT ?_
 .unfold notIterableAtAll;refine cT (wpAny_specialOf ht.typeIs F.slot_list_iter.lookup ?_);refine dn ?_;simp only [Bool.false_eq_true,if_false];refine cT (wpAny_holding (wpAny_pyIter_list ht ?_))
  have d:(s.heap.push { cls:=.type "list_iterator",data:=.fields #[.ref t,.int 0 0] }).IsList t items:=by
   obtain ⟨o,f,r⟩:=id ht;exact ⟨o,de _ f,r⟩
  refine cT (wpAny_holding (yaj a items.size 0 _ _ ⟨_,dz _ rfl,rfl,rfl⟩ d (by omega) fun h₁ hit₁ hs₁=>?_))
  have c:List.take items.size (List.drop 0 items.toList)=items.toList:=by
   rw [List.drop_zero]; exact ej (by simp)
  rw [c];rw [if_neg (by simp)];have ht₁:h₁.IsList t items:=d.extBut hs₁.extBut a;refine cT (wpAny_holding (wpAny_pyNext_list_end hh hit₁ ht₁ (by simp) fun h₂ he₂=>?_));simp only [Option.isSome_none,Bool.false_eq_true,if_false];refine dn (h h₂ fun b o g e=>he₂ b o g (hs₁.extBut b o g (de _ e)))
end
section
variable {X:Cx} {pos:Pos}
def yxx (K:W.Frag) (n:Nat) (t:TGs):TG:=fun v σ H Q=>∃ a xs,v=.ref a/\SqL K H a xs/\xs.length=n/\t xs σ H Q
theorem yua {es:List Expr} {k:Nat} {t:TGs} {n:Nat} (hc:X.calm=true) (h:PGs X es t)
  (hn:(assignEach es X.env).length=n:=by rfl) (hst:(assignEach es X.env).findIdx? (·.1)=none:=by rfl):PG X (.Tuple es k pos) (yxx X.K n t):=by
 intro c s σ H v u Q I r g;obtain ⟨a,z,l,p,w,g⟩:=g;subst l;cases r;obtain ⟨B,i,⟨o,m,j,f,y,d⟩,C⟩:=I.list p;rw [assign_Tuple];refine cT (wpAny_standAt (ybo (I.ok.hd hc) ⟨o,j,f,m,d⟩ (by simp [hn,<- w,i.length]) hst fun A q=>?_));have x:Inv X c σ H { s with heap:=A }:=I.kept (t':=s.toks) fun b o e=>q b o (dH (du e)) e;exact h c _ σ H z _ Q x (by simpa using i) g
end
theorem ylo {K:W.Frag} {n:Nat} {t:TGs} {H:Hp} {σ:St} {Q:St->Hp->Prop} {a:Addr} {xs:List V} (h:SqL K H a xs) (hl:xs.length=n) (q:t xs σ H Q):yxx K n t (.ref a) σ H Q:=⟨a,xs,rfl,h,hl,q⟩
end L2
namespace MixI
def giv (c b:Int):Int:=if b=1 then c else 16777216 - c
def ykm (x:Int):Nat:=if x == 0 then 0 else x.natAbs.log2+1
def shL (ws cs:List Int) (b:Int):List Int:=List.zipWith (fun w c=>w * giv c b) ws cs
def grL (sh:List Int):List Int:=sh.map fun s=>31 * (sh.length:Int) * s+sh.sum
def tOf (s:Int):Nat:=ykm s - 48
def lrn (ws cs:List Int) (b:Int):List Int:=(grL (shL ws cs b)).map fun v=>v / 2 ^ tOf (grL (shL ws cs b)).sum
def va2 (ws cs:List Int):Int:=(List.zipWith (fun w c=>w * c) ws cs).sum
def yne (ws cs:List Int):Int:=va2 ws cs / ws.sum
structure WOk (k:Nat) (ws:List Int):Prop where
 len:ws.length=k
 one:∀ w∈ws,1 <= w
 top:∀ w∈ws,w < 281474976710656
structure COk (k:Nat) (cs:List Int):Prop where
 len:cs.length=k
 lo:∀ c∈cs,32768 <= c
 hi:∀ c∈cs,c <= 16744448
theorem yu7 {c b:Int} (h1:32768 <= c) (h2:c <= 16744448):32768 <= giv c b:=by unfold giv; split <;> omega
theorem yb3 {ws cs:List Int} {b:Int} (h:ws.length=cs.length):(shL ws cs b).length=ws.length:=by
 unfold shL; rw [List.length_zipWith,<- h]; omega
theorem yhb {sh:List Int}:(grL sh).length=sh.length:=by unfold grL; rw [cH]
theorem yod {k:Nat} {ws cs:List Int} {b:Int} (hw:WOk k ws) (hc:COk k cs):(lrn ws cs b).length=k:=by
 unfold lrn; rw [cH,yhb,yb3 (by rw [hw.len,hc.len]),hw.len]
theorem ī (m d:Int):∀ sh:List Int,(sh.map fun s=>m * s+d).sum=m * sh.sum+sh.length * d
 | []=>by simp
 | s :: r=>by
  simp only [d6,List.sum_cons,ī m d r,dW,Int.natCast_add,Int.natCast_one,Int.mul_add,Int.add_mul];omega
theorem yo0 (sh:List Int):(grL sh).sum=32 * (sh.length:Int) * sh.sum:=by
 unfold grL;rw [ī,Int.mul_assoc,Int.mul_assoc];generalize (sh.length:Int) * sh.sum=x;omega
theorem yhw:∀ {l:List Int},(∀ x∈l,0 <= x)->0 <= l.sum
 | [],_=>by simp
 | a :: r,h=>by
  have d:=h a (by simp);have c:=yhw (l:=r) fun x b=>h x (by simp [b]);rw [List.sum_cons]; omega
theorem ym4:∀ {l:List Int} {y:Int},(∀ x∈l,0 <= x)->y∈l->y <= l.sum
 | a :: r,y,h,hy=>by
  have f:=h a (by simp);have b:∀ x∈r,0 <= x:=fun x c=>h x (by simp [c]);have d:=yhw b;rw [List.sum_cons];rcases dA.mp hy with e | hy
  .omega
  .have:=ym4 b hy; omega
theorem yh2 {c:Int}:∀ {l:List Int},(∀ x∈l,c <= x)->c * l.length <= l.sum
 | [],_=>by simp
 | a :: r,h=>by
  have e:=h a (by simp);have d:=yh2 (l:=r) fun x b=>h x (by simp [b]);rw [List.sum_cons,dW,Int.natCast_add,Int.natCast_one,Int.mul_add]; omega
theorem ykw {c:Int}:∀ {l:List Int},(∀ x∈l,x <= c)->l.sum <= c * l.length
 | [],_=>by simp
 | a :: r,h=>by
  have e:=h a (by simp);have d:=ykw (l:=r) fun x b=>h x (by simp [b]);rw [List.sum_cons,dW,Int.natCast_add,Int.natCast_one,Int.mul_add]; omega
theorem yk1 {f:Int->Int} {m:Int}:∀ {ws cs:List Int},ws.length=cs.length->(∀ w∈ws,0 <= w)->(∀ c∈cs,m <= f c)->m * ws.sum <= (List.zipWith (fun w c=>w * f c) ws cs).sum
 | [],[],_,_,_=>by simp
 | w :: r,c :: t,h,h1,h2=>by
  have i:=yk1 (f:=f) (m:=m) (ws:=r) (cs:=t) (by simpa using h) (fun x b=>h1 x (by simp [b])) fun x b=>h2 x (by simp [b]);have a:=eE (h2 c (by simp)) (h1 w (by simp));rw [List.zipWith_cons_cons,List.sum_cons,List.sum_cons,Int.mul_add,Int.mul_comm m w]; omega
theorem yle {f:Int->Int} {m:Int}:∀ {ws cs:List Int},ws.length=cs.length->(∀ w∈ws,0 <= w)->(∀ c∈cs,f c <= m)->(List.zipWith (fun w c=>w * f c) ws cs).sum <= m * ws.sum
 | [],[],_,_,_=>by simp
 | w :: r,c :: t,h,h1,h2=>by
  have i:=yle (f:=f) (m:=m) (ws:=r) (cs:=t) (by simpa using h) (fun x b=>h1 x (by simp [b])) fun x b=>h2 x (by simp [b]);have a:=eE (h2 c (by simp)) (h1 w (by simp));rw [List.zipWith_cons_cons,List.sum_cons,List.sum_cons,Int.mul_add,Int.mul_comm m w]; omega
theorem WOk.pos {k:Nat} {ws:List Int} (h:WOk k ws) (hk:1 <= k):1 <= ws.sum:=by
 have:=yh2 (c:=1) h.one;rw [h.len] at this; omega
theorem WOk.small {k:Nat} {ws:List Int} (h:WOk k ws) (hk:k <= 6):ws.sum <= 1688849860263936:=by
 have:=ykw (c:=281474976710656) fun x a=>Int.le_of_lt (h.top x a);rw [h.len] at this; omega
theorem yhu {k:Nat} {ws cs:List Int} (hk:1 <= k) (hw:WOk k ws) (hc:COk k cs):32768 <= yne ws cs/\yne ws cs <= 16744448:=by
 have e:ws.length=cs.length:=by rw [hw.len,hc.len]
 have d:∀ w∈ws,0 <= w:=fun w h=>by have:=hw.one w h; omega
 have p:=hw.pos hk;have a:=yk1 (f:=fun c=>c) e d hc.lo;have b:=yle (f:=fun c=>c) e d hc.hi;unfold yne va2;exact ⟨(Int.le_ediv_iff_mul_le (by omega)).mpr a,Int.le_of_lt_add_one ((Int.ediv_lt_iff_lt_mul (by omega)).mpr (by rw [Int.add_mul]; omega))⟩
theorem yc0 (t:Nat):(2:Int) ^ t=((2 ^ t:Nat):Int):=by rw [Int.natCast_pow]; rfl
theorem yoh (t:Nat):(0:Int) < 2 ^ t:=by rw [yc0]; exact Int.natCast_pos.mpr (Nat.pow_pos (by decide))
theorem ytb {s:Int} (h:1 <= s):s < 281474976710656 * 2 ^ tOf s/\(tOf s=0\/140737488355328 * 2 ^ tOf s <= s):=by
 have f:s.natAbs≠0:=by omega
 have e:(s.natAbs:Int)=s:=by omega
 have a:=Nat.log2_self_le f;have b:=@Nat.lt_log2_self s.natAbs;unfold tOf ykm;rw [if_neg (by simp; omega)];generalize s.natAbs.log2=L at a b ⊢;rcases Nat.lt_or_ge L 48 with q | q
 .have z:L+1 - 48=0:=by omega
  rw [z];refine ⟨?_,.inl rfl⟩;have:2 ^ (L+1) <= 2 ^ 48:=Nat.pow_le_pow_right (by decide) (by omega);have c:(2:Nat) ^ 48=281474976710656:=by decide
  rw [c] at this;rw [<- e,Int.pow_zero,Int.mul_one];omega
 .obtain ⟨t,rfl⟩:∃ t,L=47+t:=⟨L - 47,by omega⟩;have z:47+t+1 - 48=t:=by omega
  rw [z,yc0];have d:(2:Nat) ^ (47+t)=140737488355328 * 2 ^ t:=by rw [Nat.pow_add]
  have c:(2:Nat) ^ (47+t+1)=281474976710656 * 2 ^ t:=by rw [show 47+t+1=48+t by omega,Nat.pow_add]
  rw [d] at a;rw [c] at b;generalize 2 ^ t=T at a b ⊢;exact ⟨by omega,.inr (by omega)⟩
section
variable {k:Nat} {ws cs:List Int} {b:Int}
theorem ynn (hw:WOk k ws) (hc:COk k cs):∀ s∈shL ws cs b,1 <= s:=by
 intro s a;unfold shL at a;rw [List.mem_iff_getElem] at a;obtain ⟨i,e,rfl⟩:=a;rw [List.length_zipWith] at e;rw [List.getElem_zipWith];have d:=hw.one ws[i] (ei _);have c:=yu7 (b:=b) (hc.lo cs[i] (ei _)) (hc.hi cs[i] (ei _));have:=Int.mul_le_mul d c (by decide) (by omega);omega
theorem ytd {sh:List Int} (h:∀ s∈sh,1 <= s):∀ v∈grL sh,sh.sum <= v/\v <= (grL sh).sum/\0 <= v:=by
 have e:=yhw (l:=sh) fun x b=>by have:=h x b; omega
 have a:∀ v∈grL sh,sh.sum <= v:=fun v a=>by
  unfold grL at a;obtain ⟨s,c,rfl⟩:=di.mp a;have:=h s c;have:0 <= 31 * (sh.length:Int) * s:=Int.mul_nonneg (Int.mul_nonneg (by decide) (Int.natCast_nonneg _)) (by omega);omega
 exact fun v d=>⟨a v d,ym4 (fun x b=>by have:=a x b; omega) d,by have:=a v d; omega⟩
theorem yk8 (hk:1 <= k) (hk6:k <= 6) (hw:WOk k ws) (hc:COk k cs):WOk k (lrn ws cs b):=by
 have i:(shL ws cs b).length=k:=by rw [yb3 (by rw [hw.len,hc.len]),hw.len]
 have g:=ynn (b:=b) hw hc
 have o:1 <= (shL ws cs b).sum:=by
  have:=yh2 (c:=1) g;rw [i] at this; omega
 have f:=ytd g;have d:=yo0 (shL ws cs b);rw [i] at d
 have q:1 <= (grL (shL ws cs b)).sum:=by
  rw [d];have:32 * (k:Int) * 1 <= 32 * (k:Int) * (shL ws cs b).sum:=eE o (by omega);omega
 have n:(grL (shL ws cs b)).sum <= 192 * (shL ws cs b).sum:=by
  rw [d]; exact eh (by omega) (by omega)
 obtain ⟨r,a⟩:=ytb q;have j:=yoh (tOf (grL (shL ws cs b)).sum);refine ⟨yod hw hc,fun w h=>?_,fun w h=>?_⟩
 .obtain ⟨v,e,rfl⟩:=di.mp h;obtain ⟨p,m,l⟩:=f v e;refine (Int.le_ediv_iff_mul_le j).mpr ?_;rcases a with a | a
  .rw [a,Int.pow_zero]; omega
  .generalize (2:Int) ^ tOf (grL (shL ws cs b)).sum=T at *;omega
 .obtain ⟨v,e,rfl⟩:=di.mp h;obtain ⟨p,m,l⟩:=f v e;exact (Int.ediv_lt_iff_lt_mul j).mpr (by omega)
theorem yge {g:Int->Int->Int} {ws cs:List Int} (h:cs.length=ws.length):(List.range ws.length).map (fun i=>g ((ws[i]?).getD 0) ((cs[i]?).getD 0))=List.zipWith g ws cs:=by
 apply List.ext_getElem
 .rw [cH,dL,List.length_zipWith]; omega
 .intro i a b;rw [cH,dL] at a;rw [eR,List.getElem_range,List.getElem_zipWith,df a,df (by omega)];rfl
end
end MixI
namespace SpanMath
def rn (d:List Int):Nat->Int
 | 0=>0
 | k+1=>rn d k * 256+(d[k]?).getD 0
def Byt (d:List Int):Prop:=∀ x∈d,0 <= x/\x <= 255
theorem yss {d:List Int} (h:Byt d) (k:Nat):0 <= (d[k]?).getD 0/\(d[k]?).getD 0 <= 255:=by
 cases e:d[k]? with
 | none=>exact ⟨by decide,by decide⟩
 | some x=>exact h x (dI e)
theorem yh7 {d:List Int} (h:Byt d) (k:Nat):∀ r,∃ q,rn d (k+r)=rn d k * pw r+q/\0 <= q/\q < pw r
 | 0=>⟨0,by show rn d k=rn d k * 1+0; omega,by decide,by decide⟩
 | r+1=>by
  obtain ⟨q,e,f,b⟩:=yh7 h k r;obtain ⟨a,c⟩:=yss h (k+r);refine ⟨q * 256+(d[k+r]?).getD 0,?_,by omega,?_⟩
  .show rn d (k+r) * 256+(d[k+r]?).getD 0=rn d k * (pw r * 256)+_;rw [e,<- Int.mul_assoc,Int.add_mul,Int.add_assoc]
  .show _ < pw r * 256;omega
theorem yjr {d:List Int} (h:Byt d) (k r:Nat) (l w':Int):(l * pw r <= rn d (k+r)/\rn d (k+r) < l * pw r+w' * pw r) ↔ (l <= rn d k/\rn d k < l+w'):=by
 obtain ⟨q,e,i,f⟩:=yh7 h k r;have c:=uh r;rw [e,<- Int.add_mul];generalize rn d k=v;generalize pw r=p at c i f ⊢
 constructor
 .rintro ⟨a,b⟩
  constructor
  .refine Int.le_of_lt_add_one (Int.lt_of_mul_lt_mul_right (a:=p) ?_ (Int.le_of_lt c));rw [Int.add_mul,Int.one_mul];omega
  .refine Int.lt_of_mul_lt_mul_right (a:=p) ?_ (Int.le_of_lt c);omega
 .rintro ⟨a,b⟩;have j:=eh a (Int.le_of_lt c);have g:=eh (show v+1 <= l+w' by omega) (Int.le_of_lt c);rw [Int.add_mul v 1 p,Int.one_mul] at g;omega
structure InS (d:List Int) (x:Sn):Prop where
 lo:x.1 <= rn d (sz x)
 hi:rn d (sz x) < x.1+x.2.1
theorem yx1 (l w' s':Int):∃ r:Nat,ren l w' s'=(l * pw r,w' * pw r,s'+r):=by
 unfold ren
 split
 .split
  .exact ⟨2,rfl⟩
  .exact ⟨1,rfl⟩
 .refine ⟨0,?_⟩;show (l,w',s')=(l * 1,w' * 1,s'+0);rw [Int.mul_one,Int.mul_one,Int.add_zero]
theorem yli {d:List Int} (h:Byt d) {l w' s':Int} (hs:0 <= s'):InS d (ren l w' s') ↔ (l <= rn d s'.toNat/\rn d s'.toNat < l+w'):=by
 obtain ⟨r,e⟩:=yx1 l w' s';rw [e]
 have c:sz (l * pw r,w' * pw r,s'+r)=s'.toNat+r:=by
  show (s'+(r:Int)).toNat=s'.toNat+r;omega
 rw [<- yjr h s'.toNat r l w']
 constructor
 .rintro ⟨a,b⟩;rw [c] at a b;exact ⟨a,b⟩
 .rintro ⟨a,b⟩;exact ⟨by rw [c]; exact a,by rw [c]; exact b⟩
def Ô (d:List Int) (x:Sn) (c:Int):Int:=if rn d (sz x) < x.1+cut x.2.1 c then 1 else 0
theorem Ŏ (d:List Int) (x:Sn) (c:Int):Ô d x c=0\/Ô d x c=1:=by
 unfold Ô
 split
 .exact .inr rfl
 .exact .inl rfl
theorem yor {d:List Int} (hd:Byt d) {x:Sn} {c b:Int} (h:OkS x) (hc:Ch c) (hb:b=0\/b=1) (i:InS d (nar x c b)):InS d x/\b=Ô d x c:=by
 have f:=h.ok.z;obtain ⟨k,g,j⟩:=ya3 h.ok.w0 h.ok.w1 hc;unfold nar at i;rcases hb with rfl | rfl
 .rw [if_neg (by decide)] at i;obtain ⟨e,a⟩:=(yli hd (by omega)).mp i;have e:x.1+cut x.2.1 c <= rn d (sz x):=e;have a:rn d (sz x) < x.1+cut x.2.1 c+(x.2.1 - cut x.2.1 c):=a;refine ⟨⟨by omega,by omega⟩,?_⟩;unfold Ô;rw [if_neg (by omega)]
 .rw [if_pos rfl] at i;obtain ⟨e,a⟩:=(yli hd (by omega)).mp i;have e:x.1 <= rn d (sz x):=e;have a:rn d (sz x) < x.1+cut x.2.1 c:=a;refine ⟨⟨by omega,by omega⟩,?_⟩;unfold Ô;rw [if_pos a]
theorem ymr:∀ (k:Nat) (d:List Int),k <= d.length->rn d k=val (d.take k)
 | 0,_,_=>rfl
 | k+1,d,h=>by
  have a:k < d.length:=by omega
  have e:d.take (k+1)=d.take k++[d[k]]:=by rw [List.take_succ,df a]; rfl
  rw [e,ydh,<- ymr k d (by omega)];show rn d k * 256+_=_;rw [df a];rfl
theorem ygz {d:List Int} (hd:Byt d) {x:Sn} (h:OkS x) (hl:(tL x).length <= d.length) (hp:d.take (tL x).length=tL x):InS d x:=by
 have g:=yrt h
 have e:rn d (sz x - tK x)=tCn x:=by
  rw [<- yhy x,ymr _ _ hl,hp,yv1 h]
 obtain ⟨q,b,j,i⟩:=yh7 hd (sz x - tK x) (tK x);have f:sz x - tK x+tK x=sz x:=by omega
 rw [f,e] at b;have a:=ŝ h.ok;have c:=(yl2 x.1 (uh (tK x))).1;unfold yfl at a;have a:(tCn x+1) * pw (tK x) <= x.1+x.2.1:=a;have c:x.1 <= tCn x * pw (tK x):=c;rw [Int.add_mul,Int.one_mul] at a;exact ⟨by rw [b]; omega,by rw [b]; omega⟩
end SpanMath
namespace Law
local macro_rules | `(tactic| rfl')=>`(tactic| walk_at "rd")
local macro_rules | `(tactic| right)=>`(tactic| decide +kernel)
open PySem L2
local macro_rules | `(tactic| exists $n:num,$s:str)=>do
 let ts<-((s.getString.splitOn " ").map fun x=>Lean.mkIdent (((if n.getNat<4 then `_root_.Law else `_root_.L2) ++ x.toName:Lean.Name))).toArray.mapM fun x=>match n.getNat%4 with
  | 0=>`(Lean.Parser.Tactic.tacticSeq| refine $x ?_)
  | 1=>`(Lean.Parser.Tactic.tacticSeq| (with_reducible refine' $x (by assumption) ?q ?_; (case q=>first | assumption | exact yc)))
  | 2=>`(Lean.Parser.Tactic.tacticSeq| (with_reducible refine' $x ?q ?_; (case q=>first | assumption | exact yc)))
  | _=>`(Lean.Parser.Tactic.tacticSeq| (with_reducible refine' $x ?q ?n ?_; (case q=>first | assumption | exact yc); (case n=>with_unfolding_all decide +kernel)))
 `(tactic| first $[| $ts:tacticSeq]*)
local macro_rules | `(tactic| exists $n:num,$m:num)=>do
 let xs:=Array.replicate n.getNat (<-`(some _))++Array.replicate m.getNat (<-`(none))
 `(tactic| (try dsimp only [wa]; refine ym (σ':=[$xs,*]) rfl ?_))
local macro_rules | `(tactic| left)=>let h:=Lean.mkIdent `h; `(tactic| first | (cases $h:ident; subst_vars; rfl) | repeat first | (obtain ⟨e,_⟩:=$h:ident; subst e; rfl) | obtain ⟨_,$h:ident⟩:=$h:ident)
local macro_rules | `(tactic| exists $a:ident,$b:ident,$c:ident)=>let h:=Lean.mkIdent `h; let s:=Lean.mkIdent `s; let H:=Lean.mkIdent `H; let Q:=Lean.mkIdent `Q; let E:=Lean.mkIdent `E; let A:=Lean.mkIdent `A; `(tactic| (refine $a $b (fun _ $H $Q $E $h=>?_) (fun _ $A _ $s $H _ $Q $E $c $h=>?_); left))
local macro_rules | `(tactic| walk_at "side")=>`(tactic| first | exact ⟨by decide,by decide⟩ | (show (0:Int) < _; first | decide | omega) | exact Or.inl ⟨by omega,by omega⟩ | exact Or.inr ⟨by omega,by omega⟩ | exact ⟨by omega,by omega⟩ | exact ⟨by decide,by decide,by decide⟩)
local macro_rules | `(tactic| walk_at "len")=>`(tactic| first | decide | (simp only [dW,List.length_nil]; decide))
local macro_rules | `(tactic| walk_at "rd1")=>`(tactic| with_reducible first
 | exists 4,"yy3"
 | (refine' yx4 ?rdv ?_; (case rdv=>with_unfolding_all rfl))
 | exists 4,"i_c vbm vbs ysl vbi vbo vbl yy4 yzp yuc yte yu6 ynm ş ypc yow ysk yzs vba yzk ypd yue yt9 yzf vbt yzx yy9 yyx yy6 yec ywl vbx yzj yzq ysx vby yjk ysn yys vbw i_U g0 g1 g2 g3 g4 g5 g6 g7 g8 g9 g10 yom yuq ĵ Ę yyv yzl yyq yoz ytg ype yo9 ynv yvk yn8 yum yn5 ywe yn7 yoi yoy ys2 yoc ypf yv4 yzz yi1 ywa yo2 yn0"
 | (refine' i_shlC ?rdp ?rdq ?_; (case rdp=>with_unfolding_all exact ⟨by decide,by decide,by decide⟩); (case rdq=>with_unfolding_all decide))
 | (refine' i_powC ?rdp ?rdq ?_; (case rdp=>with_unfolding_all exact ⟨by decide,by decide,by decide⟩); (case rdq=>with_unfolding_all decide))
 | exists 4,"ytp"
 | (refine i_I ?rdc ?_; (case rdc=>with_unfolding_all walk_at "side")))
local macro_rules | `(tactic| walk_at "rd")=>`(tactic| repeat walk_at "rd1")
variable {D c' cl cl' ct' dc dq ds ml2 q st st2 tl y:Addr} {G U U' W':Addr->Prop} {L M:List (Str × List Int)} {ts xs:List Int} {i j m':Nat} {tp:Nat->Addr} {O O' O2:Nat->Addr->Prop} {bt:Nat->Int} {R:Prop} {tu:Str->Addr}
def top (i:Nat):Stmt:=PySem.Challenge.pw_foretell_k45_two_stores.main.body.getD i (.Pass ⟨0,0,0,0⟩)
abbrev vam:Stmt:=top 21
abbrev vah:Stmt:=top 22
abbrev yz8:Stmt:=top 23
abbrev vai:Stmt:=top 24
abbrev vak:Stmt:=top 25
abbrev vad:Stmt:=top 26
abbrev yz9:Stmt:=top 27
abbrev yz7:Stmt:=top 28
abbrev yz3:Stmt:=top 29
abbrev ypv:Stmt:=top 30
abbrev yrq:Stmt:=top 31
abbrev ypz:Stmt:=y0 (top 36) 0
abbrev yq7:Stmt:=y0 (top 36) 1
abbrev yp1:Stmt:=y0 (top 36) 2
abbrev yqn:Stmt:=y0 (top 37) 0
abbrev yqy:Stmt:=y0 (top 37) 1
abbrev yp9:Stmt:=y0 (top 37) 2
abbrev yr2:Stmt:=y0 (top 38) 0
abbrev yry:Stmt:=y0 (top 38) 1
abbrev yrk:Stmt:=y0 (top 38) 2
abbrev yro:Stmt:=top 39
abbrev yqp:Stmt:=top 45
abbrev yqt:Stmt:=top 46
abbrev ypt:Stmt:=top 47
abbrev yql:Stmt:=top 48
abbrev ypw:Stmt:=top 49
abbrev yq2:Stmt:=top 50
abbrev yqe:Stmt:=top 51
abbrev yqi:Stmt:=y0 (top 52) 0
abbrev yq9:Stmt:=y0 (top 52) 2
abbrev yps:Stmt:=y0 (top 57) 0
abbrev yqw:Stmt:=y0 (top 57) 2
abbrev yqs:Stmt:=y0 (top 57) 3
abbrev yp8:Stmt:=y0 (top 60) 0
abbrev yrr:Stmt:=y0 (top 60) 1
abbrev ypp:Stmt:=y0 (top 60) 2
abbrev yqv:Stmt:=y0 (top 60) 3
abbrev yp6:Stmt:=y0 (top 60) 7
abbrev yqr:Stmt:=y0 (top 60) 8
abbrev yrv:Stmt:=y0 (top 60) 9
abbrev yqu:Stmt:=top 63
abbrev yrs:Stmt:=top 64
abbrev yrd:Stmt:=top 69
abbrev yqm:Stmt:=top 70
abbrev yq6:Stmt:=y0 (top 71) 0
abbrev yrb:Stmt:=y0 (top 71) 2
abbrev yqh:Stmt:=y0 (top 71) 3
abbrev yrm:Stmt:=y0 (top 71) 5
abbrev yrj:Stmt:=y0 (top 71) 6
abbrev yqo:Stmt:=y0 (top 73) 0
abbrev yqb:Stmt:=y0 (top 73) 1
abbrev yqj:Stmt:=y0 (top 73) 2
abbrev yqa:Stmt:=y0 (top 73) 3
abbrev yrc:Stmt:=y0 (top 73) 5
abbrev yqd:Stmt:=top 75
abbrev yqk:Stmt:=top 76
abbrev yrw:Stmt:=top 78
abbrev yfj:Stmt:=top 79
abbrev yq4:Stmt:=top 80
abbrev ypr:Stmt:=top 81
abbrev yqx:Stmt:=top 82
abbrev ypu:Stmt:=top 83
abbrev yqf:Stmt:=y0 (top 85) 0
abbrev yp7:Stmt:=y0 (top 85) 1
abbrev yra:Stmt:=y0 (top 85) 2
abbrev yr1:Stmt:=y0 (top 85) 3
abbrev ypy:Stmt:=top 90
abbrev yqg:Stmt:=top 91
abbrev yp4:Stmt:=top 92
abbrev yrf:Stmt:=y0 (top 93) 0
abbrev yff:Stmt:=y0 (top 94) 0
abbrev yru:Stmt:=y0 (top 94) 3
abbrev yfg:Stmt:=y0 (top 94) 4
abbrev yp5:Stmt:=y0 (top 94) 6
abbrev yrp:Stmt:=y0 (top 94) 7
abbrev ypq:Stmt:=y0 (top 94) 8
abbrev yq8:Stmt:=y0 (top 94) 9
abbrev yqc:Stmt:=y0 (top 94) 10
abbrev yp2:Stmt:=y0 (top 94) 11
abbrev yq0:Stmt:=y0 (top 94) 12
abbrev yrn:Stmt:=y0 (top 94) 13
abbrev yqq:Stmt:=y0 (top 94) 14
abbrev yq1:Stmt:=y0 (top 94) 16
abbrev yrl:Stmt:=top 96
abbrev yq3:Stmt:=top 97
abbrev ypx:Stmt:=top 98
abbrev yp0:Stmt:=top 99
abbrev yrz:Stmt:=top 100
abbrev yr0:Stmt:=top 101
abbrev yre:Stmt:=top 102
set_option genInjectivity false in
set_option genSizeOfSpec false in
structure Ads where
 Og:Addr
 Oh:FuncData
 Oi:Addr
 Oj:FuncData
 Ol:Addr
 Om:FuncData
 Oo:Addr
 Op:FuncData
 Oq:Addr
 Os:FuncData
 Ot:Addr
 Ou:FuncData
 Ov:Addr
 Ow:FuncData
 Ox:Addr
 Oy:FuncData
 Oz:Addr
 P0:FuncData
 Ig:Addr
 Ih:FuncData
 Ii:Addr
 Ij:FuncData
 Gi:Addr
 Ik:FuncData
 Il:Addr
 Im:FuncData
 Io:Addr
 Ip:FuncData
 Gj:Addr
 Iq:FuncData
 Ir:Addr
 Is:FuncData
 Iu:Addr
 Iv:FuncData
 Gk:Addr
 Iw:FuncData
 Ix:Addr
 Iy:FuncData
 Iz:Addr
 J0:FuncData
 J1:Addr
 J2:FuncData
 J3:Addr
 J4:FuncData
 J5:Addr
 J6:FuncData
 J7:Addr
 J8:FuncData
 J9:Addr
 Ja:FuncData
 Jb:Addr
 Jc:FuncData
 Jd:Addr
 Je:FuncData
 Jf:Addr
 Jg:FuncData
 Gm:Addr
 Jh:FuncData
 Ji:Addr
 Jj:FuncData
 Gn:Addr
 Jk:FuncData
 Jl:Addr
 Jm:FuncData
 Jn:Addr
 Jo:FuncData
 Gp:Addr
 Jp:FuncData
 Jq:Addr
 Jr:FuncData
 Js:Addr
 Jt:FuncData
 Ju:Addr
 Jv:FuncData
 Jw:Addr
 Jx:FuncData
 Jy:Addr
 Jz:FuncData
 K1:Addr
 K2:FuncData
 K3:Addr
 K4:FuncData
 K5:Addr
 K6:FuncData
 K7:Addr
 K8:FuncData
 K9:Addr
 Ka:FuncData
 Gq:Addr
 Kb:FuncData
 Kc:Addr
 Kd:FuncData
 Ke:Addr
 Kg:FuncData
 Kh:Addr
 Ki:FuncData
 Kj:Addr
 Kk:FuncData
 Gr:Addr
 Kl:FuncData
 Km:Addr
 Kn:FuncData
 Ko:Addr
 Kp:FuncData
 Kr:Addr
 Ks:FuncData
 Kt:Addr
 Ku:FuncData
 Kv:Addr
 Kw:FuncData
 Kx:Addr
 Ky:FuncData
 Kz:Addr
 L1:FuncData
 Do:Addr
 L6:FuncData
 L7:Addr
 L8:Addr
 L9:FuncData
 La:Addr
 Lb:FuncData
 Lc:Addr
 Ld:FuncData
 Le:Addr
 Lf:FuncData
 Gs:Addr
 Lg:FuncData
 Lh:Addr
 Li:FuncData
 Lj:Addr
 Lk:FuncData
 Ll:Addr
 Lm:FuncData
 Ln:Addr
 Lo:FuncData
 Lp:Addr
 Lq:FuncData
 Lr:Addr
 Ls:FuncData
 Gt:Addr
 Lt:FuncData
 De:Addr
 Lu:FuncData
 Lv:Addr
 Cp:Tok
 Lx:Addr
 Ly:FuncData
 Dh:Addr
 Lz:FuncData
 M0:Addr
 M5:Addr
 M6:FuncData
 M7:Addr
 M8:FuncData
 M9:Addr
 Ma:FuncData
 Mb:Addr
 Mc:FuncData
 Md:Addr
 Me:FuncData
 Mf:Addr
 Mg:FuncData
 Mh:Addr
 Mi:FuncData
 Mj:Addr
 Mm:FuncData
 Mn:Addr
 Mo:FuncData
 Mq:Addr
 Mr:FuncData
 Ms:Addr
 Mt:FuncData
 Mu:Addr
 Mv:FuncData
 Mw:Addr
 Mx:FuncData
 My:Addr
 Mz:FuncData
 N0:Addr
 N2:FuncData
 N3:Addr
 N4:FuncData
 Nq:Addr
 Gu:FuncData
 A9:Addr
 A8:Addr
 Ac:Addr
 Br:Addr
 Aa:Addr
 A4:Addr
 A3:Addr
 Ab:Addr
 A1:Addr
 A7:Addr
 A0:Addr
 Gv:Addr
 Fq:Addr
 Az:Addr
 Dp:Addr
 Bx:Addr
 Fr:Addr
 Fs:Addr
 Ad:Addr
 Ai:Addr
 Aw:Addr
 Ca:Addr
 A5:Addr
 B9:Addr
 Ft:Tok
 Nr:Tok
 C0:Tok
 C1:Tok
 Be:Tok
 Co:Tok
 Bt:Tok
 C3:Tok
 D9:Tok
 Bf:Tok
 Cc:Tok
 Bg:Tok
 Cd:Tok
 Bu:Tok
 C4:Tok
 Bv:Tok
 Bh:Tok
 Da:Tok
 Bw:Tok
 Ck:Addr
 Bi:Addr
structure Txt (K:W.Frag) (mg:Str->Option Value) (a:Ads):Prop where
 C8:Dff K mg "is_whole" vam ["thing"] a.Og a.Oh
 N8:Dff K mg "is_bit" vah ["thing"] a.Oi a.Oj
 N9:Dff K mg "is_chance" yz8 ["thing"] a.Ol a.Om
 Na:Dff K mg "is_sign" vai ["thing"] a.Oo a.Op
 Fu:Dff K mg "is_list_of_signs" vak ["thing","most"] a.Oq a.Os
 C9:Dff K mg "checked_text" vad ["thing"] a.Ot a.Ou
 Nd:Dff K mg "checked_bytes" yz9 ["thing"] a.Ov a.Ow
 Nf:Dff K mg "check_most" yz7 ["thing"] a.Ox a.Oy
 Dk:Dff K mg "check_chance" yz3 ["thing"] a.Oz a.P0
 Aj:Dff K mg "check_bit" ypv ["thing"] a.Ig a.Ih
 Ep:Dff K mg "gives" yrq ["chance","bit"] a.Ii a.Ij
 Er:Dfm K a.A9 "__init__" "Even.__init__" ypz ["self"] a.Gi a.Ik
 Gw:Dfm K a.A9 "chance" "Even.chance" yq7 ["self"] a.Il a.Im
 Gy:Dfm K a.A9 "seen" "Even.seen" yp1 ["self","bit"] a.Io a.Ip
 Es:Dfm K a.A8 "__init__" "Quick.__init__" yqn ["self"] a.Gj a.Iq
 Gz:Dfm K a.A8 "chance" "Quick.chance" yqy ["self"] a.Ir a.Is
 Ha:Dfm K a.A8 "seen" "Quick.seen" yp9 ["self","bit"] a.Iu a.Iv
 Et:Dfm K a.Ac "__init__" "Run.__init__" yr2 ["self"] a.Gk a.Iw
 Hb:Dfm K a.Ac "chance" "Run.chance" yry ["self"] a.Ix a.Iy
 Hc:Dfm K a.Ac "seen" "Run.seen" yrk ["self","bit"] a.Iz a.J0
 Eu:Dff K mg "slot_of" yro ["kind"] a.J1 a.J2
 Ev:Dff K mg "is_kind" yqp ["thing"] a.J3 a.J4
 Ew:Dff K mg "is_place" yqt ["thing"] a.J5 a.J6
 Ex:Dff K mg "are_places" ypt ["thing"] a.J7 a.J8
 Cq:Dff K mg "is_look" yql ["thing"] a.J9 a.Ja
 Cr:Dff K mg "checked_looks" ypw ["thing"] a.Jb a.Jc
 Ey:Dff K mg "sign_back" yq2 ["signs","place"] a.Jd a.Je
 Ez:Dff K mg "context_of" yqe ["look","signs","node"] a.Jf a.Jg
 F0:Dfm K a.Aa "__init__" "Book.__init__" yqi ["self","look"] a.Gm a.Jh
 Hd:Dfm K a.Aa "slot_at" "Book.slot_at" yq9 ["self","signs","node"] a.Ji a.Jj
 F7:Dfm K a.Br "__init__" "Mixer.__init__" yps ["self","many"] a.Gn a.Jk
 He:Dfm K a.Br "mixed" "Mixer.mixed" yqw ["self","chances"] a.Jl a.Jm
 Hf:Dfm K a.Br "learn" "Mixer.learn" yqs ["self","chances","bit"] a.Jn a.Jo
 Dq:Dfm K a.A3 "__init__" "Foreteller.__init__" yp8 ["self","looks"] a.Gp a.Jp
 Dr:Dfm K a.A3 "arrive" "Foreteller.arrive" yrr ["self"] a.Jq a.Jr
 Ds:Dfm K a.A3 "chances" "Foreteller.chances" ypp ["self"] a.Js a.Jt
 Dt:Dfm K a.A3 "chance" "Foreteller.chance" yqv ["self"] a.Ju a.Jv
 Cs:Dfm K a.A3 "see" "Foreteller.see" yp6 ["self","bit"] a.Jw a.Jx
 Hg:Dfm K a.A3 "step" "Foreteller.step" yqr ["self","bit"] a.Jy a.Jz
 Hh:Dfm K a.A3 "step_in_sign" "Foreteller.step_in_sign" yrv ["self","bit"] a.K1 a.K2
 F8:Dff K mg "bits_of" yqu ["sign"] a.K3 a.K4
 Ct:Dff K mg "decisions_of" yrs ["text"] a.K5 a.K6
 F9:Dff K mg "written" yrd ["number","size"] a.K7 a.K8
 Cu:Dff K mg "first_block" yqm ["low","unit"] a.K9 a.Ka
 Du:Dfm K a.A4 "__init__" "Span.__init__" yq6 ["self"] a.Gq a.Kb
 Dv:Dfm K a.A4 "cut" "Span.cut" yrb ["self","chance"] a.Kc a.Kd
 Dw:Dfm K a.A4 "narrow" "Span.narrow" yqh ["self","chance","bit"] a.Ke a.Kg
 Hi:Dfm K a.A4 "holds_block" "Span.holds_block" yrm ["self","unit"] a.Kh a.Ki
 Dx:Dfm K a.A4 "told" "Span.told" yrj ["self"] a.Kj a.Kk
 Fb:Dfm K a.Ab "__init__" "Seeker.__init__" yqo ["self","data"] a.Gr a.Kl
 Dy:Dfm K a.Ab "follow" "Seeker.follow" yqb ["self"] a.Km a.Kn
 Hj:Dfm K a.Ab "byte_at" "Seeker.byte_at" yqj ["self","place"] a.Ko a.Kp
 Hk:Dfm K a.Ab "bit" "Seeker.bit" yqa ["self","chance"] a.Kr a.Ks
 Hl:Dfm K a.Ab "told" "Seeker.told" yrc ["self"] a.Kt a.Ku
 Fc:Dff K mg "checked_learned" yqd ["thing"] a.Kv a.Kw
 Fd:Dff K mg "teach" yqk ["foreteller","texts"] a.Kx a.Ky
 Cv:Dff K mg "press_by" yrw ["foreteller","text"] a.Kz a.L1
 Po:ybd K "pressed" "pressed" yfj a.L7 a.Do a.L6
 Ra:ud K a.L6 ["looks","text","learned"] [.none]
 Q5:ud K a.L6 ["looks","text","learned"] []
 Q6:mg "pressed"=some (.ref a.Do)
 Cw:Dff K mg "bit_by" yq4 ["foreteller","seeker"] a.L8 a.L9
 Fe:Dff K mg "sign_by" ypr ["foreteller","seeker"] a.La a.Lb
 Ff:Dff K mg "text_by" yqx ["foreteller","seeker","most"] a.Lc a.Ld
 Fg:Dff K mg "read_by" ypu ["foreteller","data","most"] a.Le a.Lf
 Cy:Dfm K a.A1 "__init__" "Chain.__init__" yqf ["self","looks"] a.Gs a.Lg
 Dz:Dfm K a.A1 "grow" "Chain.grow" yp7 ["self","name","text"] a.Lh a.Li
 Hm:Dfm K a.A1 "press" "Chain.press" yra ["self","name","text"] a.Lj a.Lk
 Hn:Dfm K a.A1 "read" "Chain.read" yr1 ["self","name","data","most"] a.Ll a.Lm
 Fh:Dff K mg "is_name" ypy ["thing"] a.Ln a.Lo
 C7:Dff K mg "checked_name" yqg ["thing"] a.Lp a.Lq
 Fi:Dff K mg "check_base" yp4 ["thing"] a.Lr a.Ls
 Fj:Dfm K a.A7 "__init__" "Piece.__init__" yrf ["self","base","data"] a.Gt a.Lt
 Q7:ybd K "__init__" "Store.__init__" yff a.Lv a.De a.Lu
 Rb:ud K a.Lu ["self","looks","most"] [.int 1000 a.Cp]
 Nt:ud K a.Lu ["self","looks","most"] []
 Ce:Dfm K a.A0 "names" "Store.names" yru ["self"] a.Lx a.Ly
 Q8:ybd K "put" "Store.put" yfg a.M0 a.Dh a.Lz
 Rc:ud K a.Lz ["self","name","text","base"] [.none]
 Pp:ud K a.Lz ["self","name","text","base"] []
 Pq:yr7 K a.A0 "put" a.Dh
 Ho:Dfm K a.A0 "check_length" "Store.check_length" yp5 ["self","text"] a.M5 a.M6
 Hq:Dfm K a.A0 "check_room" "Store.check_room" yrp ["self","name","base"] a.M7 a.M8
 By:Dfm K a.A0 "piece_at" "Store.piece_at" ypq ["self","name"] a.M9 a.Ma
 E4:Dfm K a.A0 "links_to" "Store.links_to" yq8 ["self","name"] a.Mb a.Mc
 E5:Dfm K a.A0 "chain_to" "Store.chain_to" yqc ["self","name"] a.Md a.Me
 Hr:Dfm K a.A0 "texts_to" "Store.texts_to" yp2 ["self","name"] a.Mf a.Mg
 Hs:Dfm K a.A0 "text_of" "Store.text_of" yq0 ["self","name"] a.Mh a.Mi
 Cz:Dfm K a.A0 "bytes_of" "Store.bytes_of" yrn ["self","name"] a.Mj a.Mm
 Ht:Dfm K a.A0 "base_of" "Store.base_of" yqq ["self","name"] a.Mn a.Mo
 E6:Dfm K a.A0 "drop" "Store.drop" yq1 ["self","name"] a.Mq a.Mr
 Av:Dff K mg "_law_mixed" yrl ["_law_script","_law_k"] a.Ms a.Mt
 D0:Dff K mg "_law_looks" yq3 ["_law_cell","_law_most"] a.Mu a.Mv
 Fk:Dff K mg "_law_deed" ypx ["_law_store","_law_model","_law_cell"] a.Mw a.Mx
 Fl:Dff K mg "_law_again" yp0 ["_law_looks_here","_law_most","_law_deeds"] a.My a.Mz
 Fm:Dff K mg "_law_bytes" yrz ["_law_looks_here","_law_model","_law_name"] a.N0 a.N2
 Fn:Dff K mg "_law_like" yr0 ["_law_looks_here","_law_store","_law_model","_law_other"] a.N3 a.N4
 Hu:Dff K mg "law" yre ["_law_script"] a.Nq a.Gu
 Bp:Cls K a.A9
 Ps:mg "Even"=some (.ref a.A9)
 Pt:Mk K a.A9 a.Gi
 Ak:vk K a.A9 "noughts"
 B0:vk K a.A9 "ones"
 Cg:Cls K a.A8
 P1:mg "Quick"=some (.ref a.A8)
 P3:Mk K a.A8 a.Gj
 Ap:vk K a.A8 "held"
 Ci:Cls K a.Ac
 Q9:mg "Run"=some (.ref a.Ac)
 Qa:Mk K a.Ac a.Gk
 Bj:vk K a.Ac "last"
 Aq:vk K a.Ac "length"
 Hv:Cls K a.Br
 Re:mg "Mixer"=some (.ref a.Br)
 Rf:Mk K a.Br a.Gn
 Bz:vk K a.Br "kept"
 D1:Cls K a.Aa
 Pu:mg "Book"=some (.ref a.Aa)
 Pv:Mk K a.Aa a.Gm
 Bq:vk K a.Aa "look"
 Ba:vk K a.Aa "slots"
 Af:Cls K a.A4
 Nu:mg "Span"=some (.ref a.A4)
 Nv:Mk K a.A4 a.Gq
 Bk:vk K a.A4 "low"
 Ar:vk K a.A4 "width"
 B6:vk K a.A4 "size"
 Ag:Cls K a.A3
 Qc:mg "Foreteller"=some (.ref a.A3)
 Qd:Mk K a.A3 a.Gp
 Bl:vk K a.A3 "looks"
 C5:vk K a.A3 "books"
 C6:vk K a.A3 "mixer"
 Bm:vk K a.A3 "ended"
 Bn:vk K a.A3 "place"
 As:vk K a.A3 "present"
 Bo:Cls K a.Ab
 Rg:mg "Seeker"=some (.ref a.Ab)
 Rh:Mk K a.Ab a.Gr
 Cl:vk K a.Ab "data"
 Cm:vk K a.Ab "span"
 B8:vk K a.Ab "number"
 At:vk K a.Ab "reached"
 Al:Cls K a.A1
 Dl:mg "Chain"=some (.ref a.A1)
 Dm:Mk K a.A1 a.Gs
 Ah:vk K a.A1 "foreteller"
 Ax:vk K a.A1 "links"
 Ay:vk K a.A1 "texts"
 D3:Cls K a.A7
 P6:mg "Piece"=some (.ref a.A7)
 P7:Mk K a.A7 a.Gt
 Bb:vk K a.A7 "base"
 Bc:vk K a.A7 "data"
 A2:Cls K a.A0
 Fv:mg "Store"=some (.ref a.A0)
 Fw:Mk K a.A0 a.De
 Am:vk K a.A0 "looks"
 Bd:vk K a.A0 "most"
 Au:vk K a.A0 "pieces"
 An:vk K a.A0 "chain"
 Ri:mg "NoText"=some (.ref a.Gv)
 Rj:mg "NoBytes"=some (.ref a.Fq)
 Nw:mg "NoMost"=some (.ref a.Az)
 Rk:mg "NoChance"=some (.ref a.Dp)
 Rl:mg "NoBit"=some (.ref a.Bx)
 Qe:mg "NoLooks"=some (.ref a.Fr)
 Qf:mg "NoPress"=some (.ref a.Fs)
 Nx:mg "NoName"=some (.ref a.Ad)
 Ng:mg "TooLong"=some (.ref a.Ai)
 P8:mg "Taken"=some (.ref a.Aw)
 Pw:mg "Full"=some (.ref a.Ca)
 Nh:mg "NoPiece"=some (.ref a.A5)
 P9:mg "InUse"=some (.ref a.B9)
 Qg:XCls K a.Gv
 Px:XMk K a.Gv
 Qh:XCls K a.Fq
 Py:XMk K a.Fq
 Hw:XCls K a.Az
 E7:XMk K a.Az
 Qi:XCls K a.Dp
 Pz:XMk K a.Dp
 Qj:XCls K a.Bx
 Q0:XMk K a.Bx
 Qk:XCls K a.Fr
 Pe:XMk K a.Fr
 Ql:XCls K a.Fs
 Pf:XMk K a.Fs
 Hx:XCls K a.Ad
 E8:XMk K a.Ad
 Fo:XCls K a.Ai
 Db:XMk K a.Ai
 N5:XCls K a.Aw
 Fx:XMk K a.Aw
 Ny:XCls K a.Ca
 I5:XMk K a.Ca
 Fp:XCls K a.A5
 Dc:XMk K a.A5
 N6:XCls K a.B9
 Fz:XMk K a.B9
 A6:mg "isinstance"=none
 Nz:mg "int"=none
 I6:mg "bool"=none
 Ao:mg "list"=none
 Di:mg "all"=none
 Ae:mg "len"=none
 Hy:mg "min"=none
 Hz:mg "max"=none
 N7:mg "str"=none
 Cn:mg "tuple"=none
 I0:mg "zip"=none
 E9:mg "sum"=none
 O0:mg "any"=none
 D4:mg "range"=none
 I7:mg "dict"=none
 Dn:mg "LEAST"=some (.int 32768 a.Ft)
 D5:mg "ONE"=some (.int 16777216 a.Nr)
 D6:mg "MOST_SIGNS"=some (.int 1000 a.C0)
 G8:mg "MOST_BYTES"=some (.int 12000 a.C1)
 Cj:mg "MOST_COUNTED"=some (.int 255 a.Be)
 I8:mg "FARTHEST"=some (.int 8 a.Co)
 Eh:mg "MOST_PLACES"=some (.int 4 a.Bt)
 D7:mg "MOST_LOOKS"=some (.int 6 a.C3)
 Ni:mg "NO_SIGN"=some (.int 256 a.D9)
 Ea:mg "FIRST_WEIGHT"=some (.int 1099511627776 a.Bf)
 I1:mg "OWN_PARTS"=some (.int 31 a.Cc)
 Eb:mg "MOST_FIGURES"=some (.int 48 a.Bg)
 Dj:mg "NODES_END"=some (.int 256 a.Cd)
 Ei:mg "FIRST_WIDTH"=some (.int 1099511627776 a.Bu)
 G9:mg "FIRST_SIZE"=some (.int 5 a.C4)
 Ej:mg "LEAST_WIDTH"=some (.int 4294967296 a.Bv)
 Ec:mg "MOST_LETTERS"=some (.int 8 a.Bh)
 Nj:mg "LETTERS"=some (.str "abcdefghijklmnopqrstuvwxyz" a.Da)
 Ek:mg "MOST_PIECES"=some (.int 60 a.Bw)
 Pg:mg "KINDS"=some (.ref a.Ck)
 Ph:∀ H,SqT K H a.Ck [V.str "even",V.str "quick",V.str "run"]
 I2:mg "WORTHS"=some (.ref a.Bi)
 D8:∀ H,SqT K H a.Bi [V.int 128,V.int 64,V.int 32,V.int 16,V.int 8,V.int 4,V.int 2,V.int 1]
section
variable {P:Program} {w:World} {K:W.Frag} {mg:Str->Option Value} {base:Heap} {a:Ads}
def jd (v0 v1:V):List (Str × V):=[("noughts",v0),("ones",v1)]
section
variable {H:Hp} {p dx:Addr} {v0 v1 v:V} {P:V->Prop} {nx:St->Hp->Prop} {σ:St}
section
variable (T:Txt K mg a) (hp:H p=some (.ins a.A9 dx (jd v0 v1)))
include T hp
theorem ä (h:P v0):RdX K H p "noughts" P:=rdX hp T.Bp T.Ak x0 h
theorem å (h:wo nx σ (upd H p (.ins a.A9 dx (jd v v1)))):StX K H p "noughts" v nx σ:=stX hp T.Bp T.Ak lt2 jx h
theorem ū (h:P v1):RdX K H p "ones" P:=rdX hp T.Bp T.B0 (wk (by right) x0) h
theorem Ŧ (h:wo nx σ (upd H p (.ins a.A9 dx (jd v0 v)))):StX K H p "ones" v nx σ:=stX hp T.Bp T.B0 lt2 (vx (by right) jx) h
end
theorem â (T:Txt K mg a) (hp:H p=some (.ins a.A9 dx [])) (h:wo nx σ (upd H p (.ins a.A9 dx [("noughts",v)]))):StX K H p "noughts" v nx σ:=stX hp T.Bp T.Ak lt0 wz h
theorem ů (T:Txt K mg a) (hp:H p=some (.ins a.A9 dx [("noughts",v0)])) (h:wo nx σ (upd H p (.ins a.A9 dx (jd v0 v)))):StX K H p "ones" v nx σ:=stX hp T.Bp T.B0 lt1 (vx (by right) wz) h
theorem ē:(jd v0 v1).lookup ("chance":Str)=none:=(wk (by right) (wk (by right) ą))
theorem Ů:(jd v0 v1).lookup ("seen":Str)=none:=(wk (by right) (wk (by right) ą))
end
local macro_rules | `(tactic| walk_at "rd1")=>`(tactic| first
 | exists 1,"ä å â ū Ŧ ů")
def u5 (v0:V):List (Str × V):=[("held",v0)]
section
variable {H:Hp} {p dx:Addr} {v0 v:V} {P:V->Prop} {nx:St->Hp->Prop} {σ:St}
section
variable (T:Txt K mg a) (hp:H p=some (.ins a.A8 dx (u5 v0)))
include T hp
theorem Ō (h:P v0):RdX K H p "held" P:=rdX hp T.Cg T.Ap x0 h
theorem Ĺ (h:wo nx σ (upd H p (.ins a.A8 dx (u5 v)))):StX K H p "held" v nx σ:=stX hp T.Cg T.Ap lt1 jx h
end
theorem Ľ (T:Txt K mg a) (hp:H p=some (.ins a.A8 dx [])) (h:wo nx σ (upd H p (.ins a.A8 dx (u5 v)))):StX K H p "held" v nx σ:=stX hp T.Cg T.Ap lt0 wz h
theorem à:(u5 v0).lookup ("chance":Str)=none:=(wk (by right) ą)
theorem ł:(u5 v0).lookup ("seen":Str)=none:=(wk (by right) ą)
end
local macro_rules | `(tactic| walk_at "rd1")=>`(tactic| first
 | exists 1,"Ō Ĺ Ľ")
def ĕ (v0 v1:V):List (Str × V):=[("last",v0),("length",v1)]
section
variable {H:Hp} {p dx:Addr} {v0 v1 v:V} {P:V->Prop} {nx:St->Hp->Prop} {σ:St}
section
variable (T:Txt K mg a) (hp:H p=some (.ins a.Ac dx (ĕ v0 v1)))
include T hp
theorem ybl (h:P v0):RdX K H p "last" P:=rdX hp T.Ci T.Bj x0 h
theorem ybv (h:wo nx σ (upd H p (.ins a.Ac dx (ĕ v v1)))):StX K H p "last" v nx σ:=stX hp T.Ci T.Bj lt2 jx h
theorem Ŀ (h:P v1):RdX K H p "length" P:=rdX hp T.Ci T.Aq (wk (by right) x0) h
theorem ŉ (h:wo nx σ (upd H p (.ins a.Ac dx (ĕ v0 v)))):StX K H p "length" v nx σ:=stX hp T.Ci T.Aq lt2 (vx (by right) jx) h
end
theorem ybg (T:Txt K mg a) (hp:H p=some (.ins a.Ac dx [])) (h:wo nx σ (upd H p (.ins a.Ac dx [("last",v)]))):StX K H p "last" v nx σ:=stX hp T.Ci T.Bj lt0 wz h
theorem ń (T:Txt K mg a) (hp:H p=some (.ins a.Ac dx [("last",v0)])) (h:wo nx σ (upd H p (.ins a.Ac dx (ĕ v0 v)))):StX K H p "length" v nx σ:=stX hp T.Ci T.Aq lt1 (vx (by right) wz) h
theorem ņ:(ĕ v0 v1).lookup ("chance":Str)=none:=(wk (by right) (wk (by right) ą))
theorem ybq:(ĕ v0 v1).lookup ("seen":Str)=none:=(wk (by right) (wk (by right) ą))
end
local macro_rules | `(tactic| walk_at "rd1")=>`(tactic| first
 | exists 1,"ybl ybv ybg Ŀ ŉ ń")
def yx5 (v0:V):List (Str × V):=[("kept",v0)]
section
variable {H:Hp} {p dx:Addr} {v0 v:V} {P:V->Prop} {nx:St->Hp->Prop} {σ:St}
section
variable (T:Txt K mg a) (hp:H p=some (.ins a.Br dx (yx5 v0)))
include T hp
theorem ye6 (h:P v0):RdX K H p "kept" P:=rdX hp T.Hv T.Bz x0 h
theorem yex (h:wo nx σ (upd H p (.ins a.Br dx (yx5 v)))):StX K H p "kept" v nx σ:=stX hp T.Hv T.Bz lt1 jx h
end
theorem ye4 (T:Txt K mg a) (hp:H p=some (.ins a.Br dx [])) (h:wo nx σ (upd H p (.ins a.Br dx (yx5 v)))):StX K H p "kept" v nx σ:=stX hp T.Hv T.Bz lt0 wz h
theorem yzt {C:Addr} {nm:Str} (hp:H p=some (.ins C dx (yx5 v0))) (n:nm∉(["kept"]:List Str)) (h:R):MtX H p C nm R:=mtX hp rfl n h
end
local macro_rules | `(tactic| walk_at "rd1")=>`(tactic| first
 | exists 1,"ye6 yex ye4"
 | exists 3,"yzt")
def yeb (v0 v1:V):List (Str × V):=[("look",v0),("slots",v1)]
section
variable {H:Hp} {p dx:Addr} {v0 v1 v:V} {P:V->Prop} {nx:St->Hp->Prop} {σ:St}
section
variable (T:Txt K mg a) (hp:H p=some (.ins a.Aa dx (yeb v0 v1)))
include T hp
theorem ŭ (h:P v0):RdX K H p "look" P:=rdX hp T.D1 T.Bq x0 h
theorem ŋ (h:P v1):RdX K H p "slots" P:=rdX hp T.D1 T.Ba (wk (by right) x0) h
end
theorem Ŭ (T:Txt K mg a) (hp:H p=some (.ins a.Aa dx [])) (h:wo nx σ (upd H p (.ins a.Aa dx [("look",v)]))):StX K H p "look" v nx σ:=stX hp T.D1 T.Bq lt0 wz h
theorem ľ (T:Txt K mg a) (hp:H p=some (.ins a.Aa dx [("look",v0)])) (h:wo nx σ (upd H p (.ins a.Aa dx (yeb v0 v)))):StX K H p "slots" v nx σ:=stX hp T.D1 T.Ba lt1 (vx (by right) wz) h
theorem yo5 {C:Addr} {nm:Str} (hp:H p=some (.ins C dx (yeb v0 v1))) (n:nm∉(["look","slots"]:List Str)) (h:R):MtX H p C nm R:=mtX hp rfl n h
end
local macro_rules | `(tactic| walk_at "rd1")=>`(tactic| first
 | exists 1,"ŭ Ŭ ŋ ľ"
 | exists 3,"yo5")
def Ĉ (v0 v1 v2 v3 v4 v5:V):List (Str × V):=[("looks",v0),("books",v1),("mixer",v2),("ended",v3),("place",v4),("present",v5)]
section
variable {H:Hp} {p dx:Addr} {v0 v1 v2 v3 v4 v5 v:V} {P:V->Prop} {nx:St->Hp->Prop} {σ:St}
section
variable (T:Txt K mg a) (hp:H p=some (.ins a.A3 dx (Ĉ v0 v1 v2 v3 v4 v5)))
include T hp
theorem ybm (h:P v1):RdX K H p "books" P:=rdX hp T.Ag T.C5 (wk (by right) x0) h
theorem ybi (h:P v2):RdX K H p "mixer" P:=rdX hp T.Ag T.C6 (wk (by right) (wk (by right) x0)) h
theorem ybj (h:P v3):RdX K H p "ended" P:=rdX hp T.Ag T.Bm (wk (by right) (wk (by right) (wk (by right) x0))) h
theorem ybx (h:wo nx σ (upd H p (.ins a.A3 dx (Ĉ v0 v1 v2 v v4 v5)))):StX K H p "ended" v nx σ:=stX hp T.Ag T.Bm lt6 (vx (by right) (vx (by right) (vx (by right) jx))) h
theorem ybn (h:P v4):RdX K H p "place" P:=rdX hp T.Ag T.Bn (wk (by right) (wk (by right) (wk (by right) (wk (by right) x0)))) h
theorem ybu (h:wo nx σ (upd H p (.ins a.A3 dx (Ĉ v0 v1 v2 v3 v v5)))):StX K H p "place" v nx σ:=stX hp T.Ag T.Bn lt6 (vx (by right) (vx (by right) (vx (by right) (vx (by right) jx)))) h
theorem ĸ (h:P v5):RdX K H p "present" P:=rdX hp T.Ag T.As (wk (by right) (wk (by right) (wk (by right) (wk (by right) (wk (by right) x0))))) h
theorem ŀ (h:wo nx σ (upd H p (.ins a.A3 dx (Ĉ v0 v1 v2 v3 v4 v)))):StX K H p "present" v nx σ:=stX hp T.Ag T.As lt6 (vx (by right) (vx (by right) (vx (by right) (vx (by right) (vx (by right) jx))))) h
end
theorem ybr (T:Txt K mg a) (hp:H p=some (.ins a.A3 dx [])) (h:wo nx σ (upd H p (.ins a.A3 dx [("looks",v)]))):StX K H p "looks" v nx σ:=stX hp T.Ag T.Bl lt0 wz h
theorem ybs (T:Txt K mg a) (hp:H p=some (.ins a.A3 dx [("looks",v0)])) (h:wo nx σ (upd H p (.ins a.A3 dx [("looks",v0),("books",v)]))):StX K H p "books" v nx σ:=stX hp T.Ag T.C5 lt1 (vx (by right) wz) h
theorem ybz (T:Txt K mg a) (hp:H p=some (.ins a.A3 dx [("looks",v0),("books",v1)])) (h:wo nx σ (upd H p (.ins a.A3 dx [("looks",v0),("books",v1),("mixer",v)]))):StX K H p "mixer" v nx σ:=stX hp T.Ag T.C6 lt2 (vx (by right) (vx (by right) wz)) h
theorem ybt (T:Txt K mg a) (hp:H p=some (.ins a.A3 dx [("looks",v0),("books",v1),("mixer",v2)])) (h:wo nx σ (upd H p (.ins a.A3 dx [("looks",v0),("books",v1),("mixer",v2),("ended",v)]))):StX K H p "ended" v nx σ:=stX hp T.Ag T.Bm lt3 (vx (by right) (vx (by right) (vx (by right) wz))) h
theorem yb0 (T:Txt K mg a) (hp:H p=some (.ins a.A3 dx [("looks",v0),("books",v1),("mixer",v2),("ended",v3)])) (h:wo nx σ (upd H p (.ins a.A3 dx [("looks",v0),("books",v1),("mixer",v2),("ended",v3),("place",v)]))):StX K H p "place" v nx σ:=stX hp T.Ag T.Bn lt4 (vx (by right) (vx (by right) (vx (by right) (vx (by right) wz)))) h
theorem Ļ (T:Txt K mg a) (hp:H p=some (.ins a.A3 dx [("looks",v0),("books",v1),("mixer",v2),("ended",v3),("place",v4)])) (h:wo nx σ (upd H p (.ins a.A3 dx (Ĉ v0 v1 v2 v3 v4 v)))):StX K H p "present" v nx σ:=stX hp T.Ag T.As lt5 (vx (by right) (vx (by right) (vx (by right) (vx (by right) (vx (by right) wz))))) h
theorem yzy {C:Addr} {nm:Str} (hp:H p=some (.ins C dx (Ĉ v0 v1 v2 v3 v4 v5))) (n:nm∉(["looks","books","mixer","ended","place","present"]:List Str)) (h:R):MtX H p C nm R:=mtX hp rfl n h
end
local macro_rules | `(tactic| walk_at "rd1")=>`(tactic| first
 | exists 1,"ybr ybm ybs ybi ybz ybj ybx ybt ybn ybu yb0 ĸ ŀ Ļ"
 | exists 3,"yzy")
def yix (v0 v1 v2 v3:V):List (Str × V):=[("data",v0),("span",v1),("number",v2),("reached",v3)]
section
variable {H:Hp} {p dx:Addr} {v0 v1 v2 v3 v:V} {P:V->Prop} {nx:St->Hp->Prop} {σ:St}
section
variable (T:Txt K mg a) (hp:H p=some (.ins a.Ab dx (yix v0 v1 v2 v3)))
include T hp
theorem yfc (h:P v0):RdX K H p "data" P:=rdX hp T.Bo T.Cl x0 h
theorem ye0 (h:P v1):RdX K H p "span" P:=rdX hp T.Bo T.Cm (wk (by right) x0) h
theorem Ū (h:P v2):RdX K H p "number" P:=rdX hp T.Bo T.B8 (wk (by right) (wk (by right) x0)) h
theorem Ũ (h:wo nx σ (upd H p (.ins a.Ab dx (yix v0 v1 v v3)))):StX K H p "number" v nx σ:=stX hp T.Bo T.B8 lt4 (vx (by right) (vx (by right) jx)) h
theorem Ń (h:P v3):RdX K H p "reached" P:=rdX hp T.Bo T.At (wk (by right) (wk (by right) (wk (by right) x0))) h
theorem ķ (h:wo nx σ (upd H p (.ins a.Ab dx (yix v0 v1 v2 v)))):StX K H p "reached" v nx σ:=stX hp T.Bo T.At lt4 (vx (by right) (vx (by right) (vx (by right) jx))) h
end
theorem yey (T:Txt K mg a) (hp:H p=some (.ins a.Ab dx [])) (h:wo nx σ (upd H p (.ins a.Ab dx [("data",v)]))):StX K H p "data" v nx σ:=stX hp T.Bo T.Cl lt0 wz h
theorem yes (T:Txt K mg a) (hp:H p=some (.ins a.Ab dx [("data",v0)])) (h:wo nx σ (upd H p (.ins a.Ab dx [("data",v0),("span",v)]))):StX K H p "span" v nx σ:=stX hp T.Bo T.Cm lt1 (vx (by right) wz) h
theorem ŧ (T:Txt K mg a) (hp:H p=some (.ins a.Ab dx [("data",v0),("span",v1)])) (h:wo nx σ (upd H p (.ins a.Ab dx [("data",v0),("span",v1),("number",v)]))):StX K H p "number" v nx σ:=stX hp T.Bo T.B8 lt2 (vx (by right) (vx (by right) wz)) h
theorem ō (T:Txt K mg a) (hp:H p=some (.ins a.Ab dx [("data",v0),("span",v1),("number",v2)])) (h:wo nx σ (upd H p (.ins a.Ab dx (yix v0 v1 v2 v)))):StX K H p "reached" v nx σ:=stX hp T.Bo T.At lt3 (vx (by right) (vx (by right) (vx (by right) wz))) h
theorem yzg {C:Addr} {nm:Str} (hp:H p=some (.ins C dx (yix v0 v1 v2 v3))) (n:nm∉(["data","span","number","reached"]:List Str)) (h:R):MtX H p C nm R:=mtX hp rfl n h
end
local macro_rules | `(tactic| walk_at "rd1")=>`(tactic| first
 | exists 1,"yfc yey ye0 yes Ū Ũ ŧ Ń ķ ō"
 | exists 3,"yzg")
def zl (v0 v1 v2:V):List (Str × V):=[("foreteller",v0),("links",v1),("texts",v2)]
section
variable {H:Hp} {p dx:Addr} {v0 v1 v2 v:V} {P:V->Prop} {nx:St->Hp->Prop} {σ:St}
section
variable (T:Txt K mg a) (hp:H p=some (.ins a.A1 dx (zl v0 v1 v2)))
include T hp
theorem jh (h:P v0):RdX K H p "foreteller" P:=rdX hp T.Al T.Ah x0 h
theorem Ď (h:P v1):RdX K H p "links" P:=rdX hp T.Al T.Ax (wk (by right) x0) h
theorem ċ (h:P v2):RdX K H p "texts" P:=rdX hp T.Al T.Ay (wk (by right) (wk (by right) x0)) h
end
theorem ji (T:Txt K mg a) (hp:H p=some (.ins a.A1 dx [])) (h:wo nx σ (upd H p (.ins a.A1 dx [("foreteller",v)]))):StX K H p "foreteller" v nx σ:=stX hp T.Al T.Ah lt0 wz h
theorem Ē (T:Txt K mg a) (hp:H p=some (.ins a.A1 dx [("foreteller",v0)])) (h:wo nx σ (upd H p (.ins a.A1 dx [("foreteller",v0),("links",v)]))):StX K H p "links" v nx σ:=stX hp T.Al T.Ax lt1 (vx (by right) wz) h
theorem đ (T:Txt K mg a) (hp:H p=some (.ins a.A1 dx [("foreteller",v0),("links",v1)])) (h:wo nx σ (upd H p (.ins a.A1 dx (zl v0 v1 v)))):StX K H p "texts" v nx σ:=stX hp T.Al T.Ay lt2 (vx (by right) (vx (by right) wz)) h
theorem yj7 {C:Addr} {nm:Str} (hp:H p=some (.ins C dx (zl v0 v1 v2))) (n:nm∉(["foreteller","links","texts"]:List Str)) (h:R):MtX H p C nm R:=mtX hp rfl n h
end
local macro_rules | `(tactic| walk_at "rd1")=>`(tactic| first
 | exists 1,"jh ji Ď Ē ċ đ"
 | exists 3,"yj7")
def ă (v0 v1:V):List (Str × V):=[("base",v0),("data",v1)]
section
variable {H:Hp} {p dx:Addr} {v0 v1 v:V} {P:V->Prop} {nx:St->Hp->Prop} {σ:St}
section
variable (T:Txt K mg a) (hp:H p=some (.ins a.A7 dx (ă v0 v1)))
include T hp
theorem Ň (h:P v0):RdX K H p "base" P:=rdX hp T.D3 T.Bb x0 h
theorem ĺ (h:P v1):RdX K H p "data" P:=rdX hp T.D3 T.Bc (wk (by right) x0) h
end
theorem Ł (T:Txt K mg a) (hp:H p=some (.ins a.A7 dx [])) (h:wo nx σ (upd H p (.ins a.A7 dx [("base",v)]))):StX K H p "base" v nx σ:=stX hp T.D3 T.Bb lt0 wz h
theorem Ņ (T:Txt K mg a) (hp:H p=some (.ins a.A7 dx [("base",v0)])) (h:wo nx σ (upd H p (.ins a.A7 dx (ă v0 v)))):StX K H p "data" v nx σ:=stX hp T.D3 T.Bc lt1 (vx (by right) wz) h
end
local macro_rules | `(tactic| walk_at "rd1")=>`(tactic| first
 | exists 1,"Ň Ł ĺ Ņ")
def xi (v0 v1 v2 v3:V):List (Str × V):=[("looks",v0),("most",v1),("pieces",v2),("chain",v3)]
section
variable {H:Hp} {p dx:Addr} {v0 v1 v2 v3 v:V} {P:V->Prop} {nx:St->Hp->Prop} {σ:St}
section
variable (T:Txt K mg a) (hp:H p=some (.ins a.A0 dx (xi v0 v1 v2 v3)))
include T hp
theorem č (h:P v0):RdX K H p "looks" P:=rdX hp T.A2 T.Am x0 h
theorem ň (h:P v1):RdX K H p "most" P:=rdX hp T.A2 T.Bd (wk (by right) x0) h
theorem á (h:P v2):RdX K H p "pieces" P:=rdX hp T.A2 T.Au (wk (by right) (wk (by right) x0)) h
theorem ď (h:P v3):RdX K H p "chain" P:=rdX hp T.A2 T.An (wk (by right) (wk (by right) (wk (by right) x0))) h
theorem Č (h:wo nx σ (upd H p (.ins a.A0 dx (xi v0 v1 v2 v)))):StX K H p "chain" v nx σ:=stX hp T.A2 T.An lt4 (vx (by right) (vx (by right) (vx (by right) jx))) h
end
theorem Ĕ (T:Txt K mg a) (hp:H p=some (.ins a.A0 dx [])) (h:wo nx σ (upd H p (.ins a.A0 dx [("looks",v)]))):StX K H p "looks" v nx σ:=stX hp T.A2 T.Am lt0 wz h
theorem Ŋ (T:Txt K mg a) (hp:H p=some (.ins a.A0 dx [("looks",v0)])) (h:wo nx σ (upd H p (.ins a.A0 dx [("looks",v0),("most",v)]))):StX K H p "most" v nx σ:=stX hp T.A2 T.Bd lt1 (vx (by right) wz) h
theorem ß (T:Txt K mg a) (hp:H p=some (.ins a.A0 dx [("looks",v0),("most",v1)])) (h:wo nx σ (upd H p (.ins a.A0 dx [("looks",v0),("most",v1),("pieces",v)]))):StX K H p "pieces" v nx σ:=stX hp T.A2 T.Au lt2 (vx (by right) (vx (by right) wz)) h
theorem Đ (T:Txt K mg a) (hp:H p=some (.ins a.A0 dx [("looks",v0),("most",v1),("pieces",v2)])) (h:wo nx σ (upd H p (.ins a.A0 dx (xi v0 v1 v2 v)))):StX K H p "chain" v nx σ:=stX hp T.A2 T.An lt3 (vx (by right) (vx (by right) (vx (by right) wz))) h
theorem yj8 {C:Addr} {nm:Str} (hp:H p=some (.ins C dx (xi v0 v1 v2 v3))) (n:nm∉(["looks","most","pieces","chain"]:List Str)) (h:R):MtX H p C nm R:=mtX hp rfl n h
end
local macro_rules | `(tactic| walk_at "rd1")=>`(tactic| first
 | exists 1,"č Ĕ ň Ŋ á ß ď Č Đ"
 | exists 3,"yj8")
open SpanMath
def But (p:Addr) (H H':Hp):Prop:=∀ b o,H b=some o->b≠p->H' b=some o
theorem But.refl {p:Addr} {H:Hp}:But p H H:=fun _ _ h _=>h
theorem But.of {p:Addr} {H H':Hp} (s:yw H H'):But p H H':=fun b o h _=>s b o h
theorem But.trans {p:Addr} {H H1 H2:Hp} (x:But p H H1) (y:But p H1 H2):But p H H2:=fun b o h n=>y b o (x b o h n) n
theorem But.upd {p:Addr} {H:Hp} {o:HO}:But p H (L2.upd H p o):=fun b u h n=>by rw [yn n]; exact h
theorem But.lst {p l C dx:Addr} {fs:List (Str × V)} {H H':Hp} {xs:List V} (e:But p H H') (hp:H p=some (.ins C dx fs)) (h:H l=some (.lst xs)):H' l=some (.lst xs):=e _ _ h (xh h hp (by intro z; cases z))
theorem uo {x:V} (h:jg x=true):∃ i,x=.int i:=by
 cases x with
 | int i=>exact ⟨i,rfl⟩
 | _=>cases h
def Ò:V->Bool
 | .int i=>decide (0 <= i) && decide (i <= 1)
 | _=>false
def chV:V->Bool
 | .int i=>decide (32768 <= i) && decide (i <= 16744448)
 | _=>false
inductive yf6 (K:W.Frag) (vs:List V) (H:Hp) (Q:VK) (E':XK):Prop
 | mk (x n:_):(vs=[x])->(xx K H x (.type n))->(Q (.bl (jg x)) H)->yf6 K vs H Q E'
def zt (x:Sn):List (Str × V):=[("low",.int x.1),("width",.int x.2.1),("size",.int x.2.2)]
theorem nWL:¬ (("width":Str)="low"):=by right
theorem nLW:¬ (("low":Str)="width"):=by right
theorem nSL:¬ (("size":Str)="low"):=by right
theorem nLS:¬ (("low":Str)="size"):=by right
theorem nSW:¬ (("size":Str)="width"):=by right
theorem nWS:¬ (("width":Str)="size"):=by right
theorem lkL (x:Sn):(zt x).lookup ("low":Str)=some (.int x.1):=x0
theorem lkW (x:Sn):(zt x).lookup ("width":Str)=some (.int x.2.1):=wk nWL x0
theorem lkS (x:Sn):(zt x).lookup ("size":Str)=some (.int x.2.2):=wk nSL (wk nSW x0)
theorem lkN (x:Sn) {m:Str} (h1:¬ m="low") (h2:¬ m="width") (h3:¬ m="size"):(zt x).lookup m=none:=wk h1 (wk h2 (wk h3 ą))
theorem pfL (x:Sn) (v:Int):z6 "low" (.int v) (zt x)=zt (v,x.2.1,x.2.2):=jx
theorem pfW (x:Sn) (v:Int):z6 "width" (.int v) (zt x)=zt (x.1,v,x.2.2):=vx nLW jx
theorem pfS (x:Sn) (v:Int):z6 "size" (.int v) (zt x)=zt (x.1,x.2.1,v):=vx nLS (vx nWS jx)
section
variable {H:Hp} {p dx:Addr} {x:Sn} {P:V->Prop} {nx:St->Hp->Prop} {σ:St} {v:Int}
theorem rdL (T:Txt K mg a) (hp:H p=some (.ins a.A4 dx (zt x))) (h:P (.int x.1)) :
  ∃ a' C dx fs v,V.ref p=.ref a'/\H a'=some (.ins C dx fs)/\Cls K C/\vk K C "low"/\fs.lookup ("low":Str)=some v/\P v:=⟨p,_,dx,_,_,rfl,hp,T.Af,T.Bk,lkL x,h⟩
theorem rdW (T:Txt K mg a) (hp:H p=some (.ins a.A4 dx (zt x))) (h:P (.int x.2.1)) :
  ∃ a' C dx fs v,V.ref p=.ref a'/\H a'=some (.ins C dx fs)/\Cls K C/\vk K C "width"/\fs.lookup ("width":Str)=some v/\P v:=⟨p,_,dx,_,_,rfl,hp,T.Af,T.Ar,lkW x,h⟩
theorem rdS (T:Txt K mg a) (hp:H p=some (.ins a.A4 dx (zt x))) (h:P (.int x.2.2)) :
  ∃ a' C dx fs v,V.ref p=.ref a'/\H a'=some (.ins C dx fs)/\Cls K C/\vk K C "size"/\fs.lookup ("size":Str)=some v/\P v:=⟨p,_,dx,_,_,rfl,hp,T.Af,T.B6,lkS x,h⟩
theorem vb1 (T:Txt K mg a) (hp:H p=some (.ins a.A4 dx (zt x))) (h:wo nx σ (upd H p (.ins a.A4 dx (zt (v,x.2.1,x.2.2))))) :
  ∃ a' C dx fs,V.ref p=.ref a'/\H a'=some (.ins C dx fs)/\Cls K C/\vk K C "low"/\fs.length < 1000/\wo nx σ (upd H a' (.ins C dx (z6 "low" (.int v) fs))):=⟨p,_,dx,zt x,rfl,hp,T.Af,T.Bk,by show 3 < 1000; decide,by rw [pfL]; exact h⟩
theorem vbq (T:Txt K mg a) (hp:H p=some (.ins a.A4 dx (zt x))) (h:wo nx σ (upd H p (.ins a.A4 dx (zt (x.1,v,x.2.2))))) :
  ∃ a' C dx fs,V.ref p=.ref a'/\H a'=some (.ins C dx fs)/\Cls K C/\vk K C "width"/\fs.length < 1000/\wo nx σ (upd H a' (.ins C dx (z6 "width" (.int v) fs))):=⟨p,_,dx,zt x,rfl,hp,T.Af,T.Ar,by show 3 < 1000; decide,by rw [pfW]; exact h⟩
theorem vbg (T:Txt K mg a) (hp:H p=some (.ins a.A4 dx (zt x))) (h:wo nx σ (upd H p (.ins a.A4 dx (zt (x.1,x.2.1,v))))) :
  ∃ a' C dx fs,V.ref p=.ref a'/\H a'=some (.ins C dx fs)/\Cls K C/\vk K C "size"/\fs.length < 1000/\wo nx σ (upd H a' (.ins C dx (z6 "size" (.int v) fs))):=⟨p,_,dx,zt x,rfl,hp,T.Af,T.B6,by show 3 < 1000; decide,by rw [pfS]; exact h⟩
end
local macro_rules | `(tactic| walk_at "rd1")=>`(tactic| first
 | exists 1,"rdL rdW rdS vb1 vbq"
 | (with_reducible refine' vbg (by assumption) ?rdh ?_; (case rdh=>first | assumption | exact yc)))
inductive Slt where
 | ev (n o:Int)
 | qk (h:Int)
 | rn (l n:Int)
def Slt.ok:Slt->Prop
 | .ev n o=>0 <= n/\0 <= o/\n+o <= 255
 | .qk h=>32768 <= h/\h <= 16744448
 | .rn l n=>0 <= l/\l <= 1/\0 <= n/\n <= 255
def Ë (n:Int):Int:=(2 * n+1) * 16777216 / (2 * n+2)
def Slt.due:Slt->Int
 | .ev n o=>(2 * o+1) * 16777216 / (2 * (n+o)+2)
 | .qk h=>h
 | .rn l n=>if l=1 then Ë n else 16777216 - Ë n
def ycj (n o:Int):Slt:=if 255 < n+o then .ev ((n+1) / 2) ((o+1) / 2) else .ev n o
def ydz (m:Int):Int:=if 16744448 < (if 32768 > m then 32768 else m) then 16744448 else (if 32768 > m then 32768 else m)
def Slt.see:Slt->Int->Slt
 | .ev n o,b=>if b=1 then ycj n (o+1) else ycj (n+1) o
 | .qk h,b=>.qk (ydz (if b=1 then h+(16777216 - h) / 16 else h - h / 16))
 | .rn l n,b=>if b=l then .rn l (if 255 < n+1 then 255 else n+1) else .rn b 1
def oS (a:Ads) (dx:Addr):Slt->HO
 | .ev n o=>.ins a.A9 dx (jd (.int n) (.int o))
 | .qk h=>.ins a.A8 dx (u5 (.int h))
 | .rn l n=>.ins a.Ac dx (ĕ (.int l) (.int n))
theorem ycw {n o:Int} (h1:0 <= n) (h2:0 <= o) (h3:n+o <= 256):(ycj n o).ok:=by
 unfold ycj
 split
 .exact ⟨by omega,by omega,by omega⟩
 .exact ⟨h1,h2,by omega⟩
theorem ygv (m:Int):32768 <= ydz m/\ydz m <= 16744448:=by
 unfold ydz
 split <;> split <;> omega
theorem Slt.see_ok {s:Slt} {b:Int} (h:s.ok) (b0:0 <= b) (b1:b <= 1):(s.see b).ok:=by
 cases s with
 | ev n o =>
  obtain ⟨c,a,d⟩:=h;unfold Slt.see;dsimp only
  split
  .exact ycw c (by omega) (by omega)
  .exact ycw (by omega) a (by omega)
 | qk h0=>exact ygv _
 | rn l n =>
  obtain ⟨c,a,d,e⟩:=h;unfold Slt.see;dsimp only
  split
  .refine ⟨c,a,?_,?_⟩ <;> split <;> omega
  .exact ⟨b0,b1,by decide,by decide⟩
def kdS:Fin 3->Str
 | 0=>"even"
 | 1=>"quick"
 | 2=>"run"
def kd0:Fin 3->Slt
 | 0=>.ev 0 0
 | 1=>.qk 8388608
 | 2=>.rn 1 0
theorem ymk (k:Fin 3):(kd0 k).ok:=by
 match k with
 | 0=>exact ⟨by decide,by decide,by decide⟩
 | 1=>exact ⟨by decide,by decide⟩
 | 2=>exact ⟨by decide,by decide,by decide,by decide⟩
theorem yt5 {b:Int} (b0:0 <= b) (b1:b <= 1):Ò (.int b)=true:=by
 simp only [Ò,dU,decide_eq_true_eq];omega
theorem yd6 {x:V} (h:Ò x=true):∃ b:Int,x=.int b/\0 <= b/\b <= 1:=by
 cases x with
 | int i =>
  simp only [Ò,dU,decide_eq_true_eq] at h;exact ⟨i,rfl,h.1,h.2⟩
 | _=>cases h
inductive Ø (C:Addr) (F:List (Str × V)) (vs:List V) (H:Hp) (Q:VK) (E':XK):Prop
 | mk (p dx:Addr):(vs=[.ref p])->(H p=some (.ins C dx []))->(∀ H',H' p=some (.ins C dx F)->But p H H'->Q .non H')->Ø C F vs H Q E'
inductive x4 (o:Addr->Slt->HO) (g:Slt->Prop) (vs:List V) (H:Hp) (Q:VK) (E':XK):Prop
 | mk (p dx:Addr) (s:Slt):(vs=[.ref p])->(g s)->(s.ok)->(H p=some (o dx s))->(Q (.int s.due) H)->x4 o g vs H Q E'
inductive uy (K:W.Frag) (o:Addr->Slt->HO) (g:Slt->Prop) (C:Addr) (vs:List V) (H:Hp) (Q:VK) (E:XK):Prop
 | mk (p dx:Addr) (s:Slt) (x:V) (n:String):(vs=[.ref p,x])->(g s)->(s.ok)->(H p=some (o dx s))->(xx K H x (.type n))->((∀ b:Int,x=.int b->0 <= b->b <= 1->∀ H',H' p=some (o dx (s.see b))->But p H H'->Q .non H'))->((Ò x=false->E (.ref C) none H))->uy K o g C vs H Q E
def yyc:Slt->Prop
 | .ev _ _=>True
 | _=>False
def yyi:Slt->Prop
 | .qk _=>True
 | _=>False
def yyf:Slt->Prop
 | .rn _ _=>True
 | _=>False
def ybe (bs:List Int):Prop:=∀ b∈bs,0 <= b/\b <= 1
theorem yb7 {n:Nat} (h:n <= 16000000):n <= sizeLine:=dZ h (by decide)
theorem vo {n:Nat} (h:n <= 16000000):n < sizeLine:=Nat.lt_of_le_of_lt h (by decide)
theorem jf {ns:List Int} {x:V} (h:(ns.map V.int)[i]?=some x):∃ n,x=.int n/\n∈ns/\ns[i]?=some n/\i < ns.length:=by
 rw [dm] at h
 cases e:ns[i]? with
 | none=>rw [e] at h; cases h
 | some n =>
  rw [e] at h
  have a:i < ns.length:=by
   rcases Nat.lt_or_ge i ns.length with q | q
   .exact q
   .rw [dP q] at e; cases e
  exact ⟨n,(dD h).symm,dI e,rfl,a⟩
theorem ρ {l:List Int} {q:Int} (h:l[i]?=some q):l.take (i+1)=l.take i++[q]:=by
 rw [List.take_add_one,h];rfl
theorem yjh {ys:List Int} (h1:ybe xs) (h2:ybe ys):ybe (xs++ys):=fun b a=>by
 rcases dY.mp a with h | h
 .exact h1 b h
 .exact h2 b h
theorem yf2 (c:Int) (n:Nat):(List.replicate n [V.int c]).flatten=(List.replicate n c).map V.int:=by
 induction n with
 | zero=>rfl
 | succ n ih=>rw [eM,List.flatten_cons,ih,eM]; rfl
def ync (sg:List Int) (p:Int):Int:=if p <= sg.length then (atI sg (-p)).getD 256 else 256
theorem yop {α β:Type} (f:α->β) (xs:List α) (i:Int):atI (xs.map f) i=(atI xs i).map f:=by
 unfold atI;rw [cH]
 cases ixN xs.length i with
 | none=>rfl
 | some j =>
  show (xs.map f)[j]?=(xs[j]?).map f;rw [dm]
theorem yje {sg:List Int} {p:Int} (h1:1 <= p) (h2:p <= sg.length):∃ c,atI sg (-p)=some c/\c∈sg:=by
 unfold atI ixN;rw [if_neg (by omega)];by_cases h:-(sg.length:Int) <= -p
 .rw [if_pos (by omega)];have a:((-p+(sg.length:Int)).toNat) < sg.length:=by omega
  exact ⟨_,df a,ei a⟩
 .omega
def Slt.kind:Slt->Fin 3
 | .ev _ _=>0
 | .qk _=>1
 | .rn _ _=>2
theorem yjq (s:Slt) (b:Int):(s.see b).kind=s.kind:=by
 cases s with
 | ev n o =>
  unfold Slt.see ycj;dsimp only
  split <;> split <;> rfl
 | qk h=>rfl
 | rn l n =>
  unfold Slt.see;dsimp only
  split <;> rfl
theorem yjf (k:Fin 3):(kd0 k).kind=k:=by
 match k with
 | 0=>rfl
 | 1=>rfl
 | 2=>rfl
theorem Ĵ (a:Ads) (dx:Addr) (s:Slt):∃ C fs,oS a dx s=.ins C dx fs:=by
 cases s <;> exact ⟨_,_,rfl⟩
theorem yee {s:Slt} (h:s.ok):32768 <= s.due/\s.due <= 16744448:=by
 cases s with
 | ev n o =>
  obtain ⟨d,b,c⟩:=h;unfold Slt.due;dsimp only;have a:(0:Int) < 2 * (n+o)+2:=by omega
  constructor
  .rw [Int.le_ediv_iff_mul_le a];omega
  .have:(2 * o+1) * 16777216 / (2 * (n+o)+2) < 16744449:=by
    rw [Int.ediv_lt_iff_lt_mul a];omega
   omega
 | qk h0=>exact h
 | rn l n =>
  obtain ⟨d,b,c,e⟩:=h;have a:(0:Int) < 2 * n+2:=by omega
  have g1:8388608 <= Ë n:=by
   unfold Ë;rw [Int.le_ediv_iff_mul_le a];omega
  have g2:Ë n < 16744449:=by
   unfold Ë;rw [Int.ediv_lt_iff_lt_mul a];omega
  unfold Slt.due;dsimp only
  split <;> omega
theorem yf5 {p dx:Addr} {s:Slt} {ta:TE} {σ:St} {H:Hp} {Q:VK} {E1 E2 E3:XK} (hta:∀ Q':VK,Q' (.ref p) H->ta σ H Q') (hp:H p=some (oS a dx s)) (ok:s.ok) (h:Q (.int s.due) H) :
  yr3 (yck a.A9 "chance" (x4 (oS a) yyc) [] E1 ta ysa) (yr3 (yck a.A8 "chance" (x4 (oS a) yyi) [] E2 ta ysa) (yck a.Ac "chance" (x4 (oS a) yyf) [] E3 ta ysa)) σ H Q:=by
 cases s with
 | ev n o=>exact yd4 (yec (hta _ ⟨p,dx,_,rfl,hp,ē,p,dx,.ev n o,rfl,trivial,ok,hp,h⟩))
 | qk h0=>exact ĳ (yd4 (yec (hta _ ⟨p,dx,_,rfl,hp,à,p,dx,.qk h0,rfl,trivial,ok,hp,h⟩)))
 | rn l n=>exact ĳ (ĳ (yec (hta _ ⟨p,dx,_,rfl,hp,ņ,p,dx,.rn l n,rfl,trivial,ok,hp,h⟩)))
theorem ypi {p dx:Addr} {s:Slt} {ta:TE} {t:TA} {σ:St} {H:Hp} {Q:VK} {E1 E2 E3:St->XK} {x:V} {n:String} (hta:∀ Q':VK,Q' (.ref p) H->ta σ H Q') (ht:∀ Q':List V->Hp->Prop,Q' [x] H->t σ H Q') (hp:H p=some (oS a dx s)) (ok:s.ok) (ty:xx K H x (.type n))
  (h:∀ b:Int,x=.int b->0 <= b->b <= 1->∀ H',H' p=some (oS a dx (s.see b))->But p H H'->Q .non H') (h1:Ò x=false->E1 σ (.ref a.Bx) none H) (h2:Ò x=false->E2 σ (.ref a.Bx) none H) (h3:Ò x=false->E3 σ (.ref a.Bx) none H) :
  yr3 (yaw a.A9 "seen" (uy K (oS a) yyc a.Bx) [] E1 ta t) (yr3 (yaw a.A8 "seen" (uy K (oS a) yyi a.Bx) [] E2 ta t) (yaw a.Ac "seen" (uy K (oS a) yyf a.Bx) [] E3 ta t)) σ H Q:=by
 cases s with
 | ev n o=>exact yd4 (ş (hta _ ⟨p,dx,_,rfl,hp,Ů,ht _ ⟨p,dx,.ev n o,x,_,rfl,trivial,ok,hp,ty,h,h1⟩⟩))
 | qk h0=>exact ĳ (yd4 (ş (hta _ ⟨p,dx,_,rfl,hp,ł,ht _ ⟨p,dx,.qk h0,x,_,rfl,trivial,ok,hp,ty,h,h2⟩⟩)))
 | rn l n=>exact ĳ (ĳ (ş (hta _ ⟨p,dx,_,rfl,hp,ybq,ht _ ⟨p,dx,.rn l n,x,_,rfl,trivial,ok,hp,ty,h,h3⟩⟩)))
theorem ytz {x:Sn} {c b:Int} (h:Ok x):(nar x c b).2.2 <= x.2.2+2:=by
 unfold nar ren;have:=h.z
 (repeat' split) <;> (dsimp only; omega)
abbrev tMx:Nat:=100000
theorem ycy {k:Nat} (h:k <= 6):pw k <= 281474976710656:=Int.le_trans (yg3 h) (by decide)
theorem yjt (xs:List Int) (y:Int):xs.map V.int++[V.int y]=(xs++[y]).map V.int:=by simp
theorem yn1 (xs:List Int):(xs.map V.int).reverse=xs.reverse.map V.int:=by simp
def gvv (c b:Int):Int:=if b=1 then c else 16777216 - c
theorem ycc {x:V} (h:chV x=true):∃ c,x=.int c/\32768 <= c/\c <= 16744448:=by
 cases x with
 | int i =>
  simp only [chV,dU,decide_eq_true_eq] at h;exact ⟨i,rfl,h.1,h.2⟩
 | _=>cases h
theorem yc3 {x:V} (h:Ò x=true):∃ b,x=.int b/\0 <= b/\b <= 1:=by
 cases x with
 | int i =>
  simp only [Ò,dU,decide_eq_true_eq] at h;exact ⟨i,rfl,h.1,h.2⟩
 | _=>cases h
theorem yd1 {c:Int} (h:Ch c):chV (.int c)=true:=by
 obtain ⟨b,a⟩:=h;simp only [chV,dU,decide_eq_true_eq];omega
theorem ycg {b:Int} (h1:0 <= b) (h2:b <= 1):Ò (.int b)=true:=by
 simp only [Ò,dU,decide_eq_true_eq];omega
theorem ı {H H':Hp} {v:V} {n:String} (S:yw H H') (t:xx K H v (.type n)):xx K H' v (.type n):=by
 cases t with
 | non=>exact .non
 | bl b=>exact .bl b
 | int i=>exact .int i
 | str x=>exact .str x
 | flt x=>exact .flt x
 | lst e=>exact .lst (S _ _ e)
 | frz e=>exact .frz (S _ _ e)
 | tup e=>exact .tup (S _ _ e)
 | dK e=>exact .dK (S _ _ e)
 | dT e=>exact .dT (S _ _ e)
def sgV:V->Bool
 | .int i=>decide (0 <= i) && decide (i <= 255)
 | _=>false
def ykn (K:W.Frag) (H:Hp) (xs:List V):Prop:=∀ y∈xs,∃ k:String,xx K H y (.type k)
theorem Ě {H:Hp} (ns:List Int):ykn K H (ns.map V.int):=fun y a=>by
 obtain ⟨i,_,rfl⟩:=di.mp a;exact ⟨_,.int i⟩
def Bad (K:W.Frag) (H:Hp) (x:V) (n:String) (m:Int):Prop:=n≠"list"\/∃ p xs,x=.ref p/\H p=some (.lst xs)/\ykn K H xs/\xs.length <= 100000/\(decide ((xs.length:Int) <= m) && xs.all sgV)=false
def yx7 (K:W.Frag) (H:Hp) (x:V) (xs:List V) (m:Int):Prop:=∃ p,x=.ref p/\H p=some (.lst xs)/\ykn K H xs/\xs.length <= 100000/\(decide ((xs.length:Int) <= m) && xs.all sgV)=true
theorem yo4 {H:Hp} {x:V} {n:String} (ty:xx K H x (.type n)):W.kitOne K (.type n) (.type "list")=some (decide (n="list")):=by
 cases ty <;> rfl
theorem yjo {n:Nat} (h:n <= 100000):n < sizeLine:=Nat.lt_of_le_of_lt h (by decide)
theorem yi7 {xs:List V} (n:Nat):ycq xs (some (n:Int)) none=xs.drop n:=by
 unfold ycq;rw [HT.sIx_nat,HT.sIx_none];by_cases h:n <= xs.length
 .rw [Nat.min_eq_left h,ej (by rw [eV]; exact dh _)]
 .rw [Nat.min_eq_right (by omega),Nat.sub_self,List.take_zero,List.drop_of_length_le (by omega)]
theorem yht {ns:List Int} (h:∀ i∈ns,0 <= i/\i <= 255):(ns.map V.int).all sgV=true:=by
 rw [List.all_map,List.all_eq_true];intro i c;obtain ⟨b,a⟩:=h i c;simp [sgV,b,a]
inductive χ (K:W.Frag) (C:Addr) (m:Int) (vs:List V) (H:Hp) (Q:VK) (E:XK):Prop
 | mk (x n:_):(vs=[x])->(xx K H x (.type n))->(((Bad K H x n m/\∀ H',yw H H'->E (.ref C) none H')\/∃ xs,yx7 K H x xs m/\∀ r H',H r=none->H' r=some (.lst xs)->yw H H'->Q (.ref r) H'))->χ K C m vs H Q E
def yiy (p q:Addr) (H H':Hp):Prop:=∀ b o,H b=some o->b≠p->b≠q->H' b=some o
theorem But.two {p:Addr} {H H':Hp} (h:But p H H'):yiy p q H H':=fun b o e n _=>h b o e n
theorem But.two' {p:Addr} {H H':Hp} (h:But q H H'):yiy p q H H':=fun b o e _ n=>h b o e n
theorem yiy.trans {p:Addr} {H H1 H2:Hp} (x:yiy p q H H1) (y:yiy p q H1 H2):yiy p q H H2:=fun b o h n m=>y b o (x b o h n m) n m
structure yfm (a:Ads) (H:Hp) (p dx pd ps ds:Addr) (d:List Int) (x:Sn):Prop where
 me:H p=some (.ins a.Ab dx (yix (.ref pd) (.ref ps) (.int (rn d (sz x))) (.int x.2.2)))
 dt:H pd=some (.lst (d.map V.int))
 sp:H ps=some (.ins a.A4 ds (zt x))
 ne:p≠ps
theorem yfm.same {H H':Hp} {p dx pd ps:Addr} {d:List Int} {x:Sn} (h:yfm a H p dx pd ps ds d x) (S:yw H H'):yfm a H' p dx pd ps ds d x:=⟨S _ _ h.me,S _ _ h.dt,S _ _ h.sp,h.ne⟩
section
variable {H H':Hp} {p dx pd ps:Addr} {d:List Int} {x:Sn}
theorem yfm.lst (h:yfm a H p dx pd ps ds d x) (B:yiy p ps H H') {l:Addr} {xs:List V} (e:H l=some (.lst xs)):H' l=some (.lst xs):=B _ _ e (xh e h.me (by intro z; cases z)) (xh e h.sp (by intro z; cases z))
theorem yfm.tup (h:yfm a H p dx pd ps ds d x) (B:yiy p ps H H') {l:Addr} {xs:List V} (e:H l=some (.tup xs)):H' l=some (.tup xs):=B _ _ e (xh e h.me (by intro z; cases z)) (xh e h.sp (by intro z; cases z))
end
theorem yjd {H:Hp} {p:Addr} {d:List Int} (h:H p=some (.lst (d.map V.int))) (hb:Byt d) (hz:d.length <= 12000):yx7 K H (.ref p) (d.map V.int) 12000 :=
 ⟨p,rfl,h,Ě d,by rw [cH]; omega,by rw [yht hb,cH,dw (by omega)]; rfl⟩
def Sgs (ns:List Int):Prop:=∀ i∈ns,0 <= i/\i <= 255
def wth:List Int:=[128,64,32,16,8,4,2,1]
def b8 (s:Int):List Int:=wth.map (fun w=>s / w % 2)
def dec:List Int->List Int
 | []=>[0]
 | s :: r=>(1 :: b8 s)++dec r
def nds:Int->List Int->List Int
 | _,[]=>[]
 | n,b :: r=>n :: nds (2 * n+b) r
def ybf:List Int->List Int
 | []=>[]
 | s :: r=>(1 :: b8 s)++ybf r
theorem yko:∀ ns,dec ns=ybf ns++[0]
 | []=>rfl
 | s :: r=>by simp [dec,ybf,yko r]
theorem yau (s:Int):∀ ns,ybf (ns++[s])=ybf ns++(1 :: b8 s)
 | []=>by simp [ybf]
 | t :: r=>by simp [ybf,yau s r]
theorem ymq (s:Int):(b8 s).length=8:=rfl
theorem zv:∀ ns:List Int,(ybf ns).length=9 * ns.length
 | []=>rfl
 | s :: r=>by
  show ((1 :: b8 s)++ybf r).length=9 * (r.length+1);rw [dv,zv r];show 9+_=_;omega
theorem ypl (s:Int):ybe (b8 s):=fun b a=>by
 obtain ⟨w,_,rfl⟩:=di.mp a;have c:0 <= s / w % 2:=eT _ (by decide);have d:s / w % 2 < 2:=eH _ (by decide);exact ⟨c,by omega⟩
theorem zx:∀ ns,ybe (dec ns)
 | []=>fun b a=>by rw [dB.mp a]; decide
 | s :: r=>by
  refine yjh (fun b a=>?_) (zx r);rcases dA.mp a with rfl | a
  .decide
  .exact ypl s b a
theorem yy5 {s:Int} (h0:0 <= s) (h1:s <= 255):128 * (s / 128 % 2)+(64 * (s / 64 % 2)+(32 * (s / 32 % 2)+(16 * (s / 16 % 2)+(8 * (s / 8 % 2)+(4 * (s / 4 % 2)+(2 * (s / 2 % 2)+(1 * (s / 1 % 2)+0)))))))=s:=by
 have h:∀ n:Nat,n < 256->128 * ((n:Int) / 128 % 2)+(64 * ((n:Int) / 64 % 2)+(32 * ((n:Int) / 32 % 2)+(16 * ((n:Int) / 16 % 2)+(8 * ((n:Int) / 8 % 2)+(4 * ((n:Int) / 4 % 2)+(2 * ((n:Int) / 2 % 2)+(1 * ((n:Int) / 1 % 2)+0)))))))=(n:Int):=by right
 obtain ⟨n,rfl⟩:=Int.eq_ofNat_of_zero_le h0;exact h n (by omega)
def wV (s:Int):V->V
 | .int w=>.int (s / w % 2)
 | _=>.non
theorem Õ {H:Hp} {p:Addr} {d:List Int} (h:H p=some (.lst (d.map V.int))) (hb:Sgs d) (hz:d.length <= 1000):yx7 K H (.ref p) (d.map V.int) 1000 :=
 ⟨p,rfl,h,Ě d,by rw [cH]; omega,by rw [yht hb,cH,dw (by omega)]; rfl⟩
theorem yjb (xs ys:List Int):xs.map V.int++ys.map V.int=(xs++ys).map V.int:=by simp
theorem x9 (ns:List Int):(dec ns).length=9 * ns.length+1:=by rw [yko,dv,zv]; rfl
def Ť (f:List Int->Option Slt) (k:List Int) (s:Slt):List Int->Option Slt:=fun j=>if j=k then some s else f j
def yx8:HO->Bool
 | .ins _ _ _=>true
 | .dT _=>true
 | _=>false
def kI (k:List Int):List Key:=k.map Sum.inl
theorem yv3 (k:List Int):(kI k).map kV=k.map V.int:=by
 unfold kI;rw [dX];rfl
theorem ymn {j k:List Int} (h:kI j=kI k):j=k:=by
 unfold kI at h
 induction j generalizing k with
 | nil =>
  cases k with
  | nil=>rfl
  | cons _ _=>cases h
 | cons x r ih =>
  cases k with
  | nil=>cases h
  | cons y s =>
   injection h with h1 h2;injection h1 with h1;rw [h1,ih h2]
def yr8 (H:Hp) (d:Addr):Prop:=∀ kvs,H d=some (.dT kvs)->(kvs.map (·.1)).Nodup/\∀ q∈kvs,∃ k,q.1=kI k
theorem yr8.mv {H H':Hp} {d:Addr} {kvs:List (List Key × V)} (h:yr8 H d) (h1:H d=some (.dT kvs)) (h2:H' d=some (.dT kvs)):yr8 H' d:=fun a e=>by
 rw [h2] at e;cases e;exact h kvs h1
theorem yju {kvs:List (List Key × V)} {k:List Key} (h:uw kvs k=none):k∉kvs.map (·.1):=fun m=>by
 obtain ⟨p,b,e⟩:=di.mp m;have a:=z0 k kvs;rw [h] at a;exact List.any_eq_false.mp a p b (dw e)
theorem yr8.snoc {H':Hp} {d:Addr} {kvs:List (List Key × V)} {k:List Int} {v:V} (h:(kvs.map (·.1)).Nodup/\∀ q∈kvs,∃ k,q.1=kI k) (hn:uw kvs (kI k)=none) (h2:H' d=some (.dT (Ý kvs (kI k) v))):yr8 H' d:=fun b e=>by
 rw [h2,Û _ hn] at e;cases e;rw [dF];refine ⟨List.nodup_append.mpr ⟨h.1,eI.mpr ⟨List.not_mem_nil,List.nodup_nil⟩,fun x a y c z=>?_⟩,fun q f=>?_⟩
 .rw [z,dB.mp c] at a;exact yju hn a
 .rcases dY.mp f with w | w
  .exact h.2 q w
  .rw [dB.mp w];exact ⟨k,rfl⟩
structure Ó (a:Ads) (H:Hp) (p dx lk d:Addr) (kd:Fin 3) (f:List Int->Option Slt) (O:Addr->Prop) (m:Nat):Prop where
 me:H p=some (.ins a.Aa dx (yeb (.ref lk) (.ref d)))
 own:∀ b,O b->∃ o,H b=some o/\yx8 o=true
 np:¬ O p
 dO:O d
 ky:yr8 H d
 tb:∃ (kvs:List (List Key × V)) (loc:List Int->Addr × Addr),H d=some (.dT kvs)/\kvs.length <= m/\(∀ k,f k=none->uw kvs (kI k)=none) /\
  (∀ k s,f k=some s->uw kvs (kI k)=some (.ref (loc k).1)/\H (loc k).1=some (oS a (loc k).2 s)/\s.ok/\s.kind=kd/\O (loc k).1)/\(∀ k j s t,f k=some s->f j=some t->(loc k).1=(loc j).1->k=j)
def ykr (O:Addr->Prop) (H H':Hp):Prop:=∀ b o,H b=some o->¬ O b->H' b=some o
section
variable {H H':Hp} {p dx lk d:Addr} {kd:Fin 3} {f:List Int->Option Slt} {O:Addr->Prop} {m:Nat}
theorem Ó.frame (h:Ó a H p dx lk d kd f O m) {O2:Addr->Prop} (B:ykr O2 H H') (dj:∀ b,O b->¬ O2 b) (hp:¬ O2 p):Ó a H' p dx lk d kd f O m:=by
 obtain ⟨e,c,g,x,y,z,r⟩:=h.tb;refine ⟨B _ _ h.me hp,fun b j=>?_,h.np,h.dO,h.ky.mv g (B _ _ g (dj _ h.dO)),e,c,B _ _ g (dj _ h.dO),x,y,fun k s q=>?_,r⟩
 .obtain ⟨o,t,u⟩:=h.own b j;exact ⟨o,B _ _ t (dj b j),u⟩
 .obtain ⟨n,v,w,l,i⟩:=z k s q;exact ⟨n,B _ _ v (dj _ i),w,l,i⟩
theorem Ó.same (h:Ó a H p dx lk d kd f O m) (S:yw H H'):Ó a H' p dx lk d kd f O m:=h.frame (O2:=fun _=>False) (fun b o e _=>S b o e) (fun _ _ z=>z) (fun z=>z)
end
open MixI
structure yi0 (a:Ads) (p dx l:Addr) (ws:List Int) (H:Hp):Prop where
 o:H p=some (.ins a.Br dx (yx5 (.ref l)))
 l:H l=some (.lst (ws.map V.int))
theorem yi0.same {p dx l:Addr} {ws:List Int} {H H':Hp} (m:yi0 a p dx l ws H) (S:yw H H'):yi0 a p dx l ws H':=⟨S _ _ m.o,S _ _ m.l⟩
theorem ywc {k:Nat} {cs:List Int} (h:COk k cs) {c:Int} (hm:c∈cs):Ch c:=⟨h.lo c hm,h.hi c hm⟩
theorem yml {g:Int->Int->Int} {ws cs:List Int} (h:cs.length=ws.length):(List.range (ws.map V.int).length).map (fun i=>V.int (g ((ws[i]?).getD 0) ((cs[i]?).getD 0)))=(List.zipWith g ws cs).map V.int:=by
 rw [cH,<- yge h,dX];rfl
theorem yc4 {H:Hp} {xs ys:List V} (h:H D=some (.lst xs)) (e:xs=ys):H D=some (.lst ys):=e ▸ h
inductive yaa (K:W.Frag) (a:Ads) (vs:List V) (H:Hp) (Q:VK) (E':XK):Prop
 | mk (p dx l c:Addr) (ws cs:List Int) (k:Nat):(vs=[.ref p,.ref c])->(1 <= k)->(k <= 6)->(WOk k ws)->(COk k cs)->(yi0 a p dx l ws H)->(SqL K H c (cs.map V.int))->(∀ H',yw H H'->Q (.int (yne ws cs)) H')->yaa K a vs H Q E'
inductive ų (K:W.Frag) (a:Ads) (C:Addr) (vs:List V) (H:Hp) (Q:VK) (E:XK):Prop
 | mk (p dx l c:Addr) (ws cs:List Int) (k:Nat) (x:V) (n:String):(vs=[.ref p,.ref c,x])->(1 <= k)->(k <= 6)->(WOk k ws)->(COk k cs)->(yi0 a p dx l ws H)->(SqL K H c (cs.map V.int))->(xx K H x (.type n))->((∀ b:Int,x=.int b->0 <= b->b <= 1->∀ l' H',H l'=none->yi0 a p dx l' (lrn ws cs b) H'->But p H H'->Q .non H'))->((Ò x=false->E (.ref C) none H))->ų K a C vs H Q E
inductive yb2 (a:Ads) (vs:List V) (H:Hp) (Q:VK) (E':XK):Prop
 | mk (p dx l:Addr) (ws:List Int):(vs=[.ref p])->(yi0 a p dx l ws H)->(∀ r H',H r=none->H' r=some (.lst (ws.map V.int))->yw H H'->Q (.ref r) H')->yb2 a vs H Q E'
inductive ydp (a:Ads) (vs:List V) (H:Hp) (Q:VK) (E':XK):Prop
 | mk (p dx:Addr) (k:Nat):(vs=[.ref p,.int k])->(1 <= k)->(k <= 6)->(H p=some (.ins a.Br dx []))->(∀ l H',H l=none->yi0 a p dx l (List.replicate k 1099511627776) H'->But p H H'->Q .non H')->ydp a vs H Q E'
def yiu:V->Bool
 | .str s=>inV (.str s) [V.str "even",V.str "quick",V.str "run"]
 | _=>false
def plV:V->Bool
 | .int i=>decide (1 <= i) && decide (i <= 8)
 | _=>false
def ltV:V->V->Bool
 | .int i,.int j=>decide (i < j)
 | _,_=>false
def vab (xs:List V):Bool:=(List.zipWith ltV xs xs.tail).all id
def zk (xs:List V):Bool:=decide (xs.length <= 4) && xs.all plV && vab xs
def PlB (K:W.Frag) (H:Hp) (x:V) (b:Bool):Prop:=(∃ n,xx K H x (.type n)/\n≠"tuple"/\b=false)\/∃ t xs,x=.ref t/\H t=some (.tup xs)/\xs.length <= 1000/\(∀ y∈xs,∃ n:String,xx K H y (.type n))/\b=zk xs
def LkB (K:W.Frag) (H:Hp) (x:V) (b:Bool):Prop:=(∃ n,xx K H x (.type n)/\n≠"tuple"/\b=false) \/
 ∃ t xs,x=.ref t/\H t=some (.tup xs)/\((xs.length≠2/\b=false)\/∃ y z n,xs=[y,z]/\xx K H y (.type n)/\((yiu y=false/\b=false)\/(yiu y=true/\PlB K H z b)))
theorem PlB.same {H H':Hp} {x:V} {b:Bool} (h:PlB K H x b) (S:yw H H'):PlB K H' x b:=by
 rcases h with ⟨n,t,a,e⟩ | ⟨t,j,e,d,c,i,g⟩
 .exact .inl ⟨n,ı S t,a,e⟩
 .exact .inr ⟨t,j,e,S _ _ d,c,fun y f=>let ⟨n,z⟩:=i y f; ⟨n,ı S z⟩,g⟩
theorem LkB.same {H H':Hp} {x:V} {b:Bool} (h:LkB K H x b) (S:yw H H'):LkB K H' x b:=by
 rcases h with ⟨n,t,a,e⟩ | ⟨t,i,e,g,h⟩
 .exact .inl ⟨n,ı S t,a,e⟩
 .refine .inr ⟨t,i,e,S _ _ g,?_⟩;rcases h with h | ⟨y,z,n,c,f,h⟩
  .exact .inl h
  .refine .inr ⟨y,z,n,c,ı S f,?_⟩;rcases h with h | ⟨j,d⟩
   .exact .inl h
   .exact .inr ⟨j,d.same S⟩
theorem Ö {H:Hp} {x:V} {n:String} (ty:xx K H x (.type n)):W.kitOne K (.type n) (.type "tuple")=some (decide (n="tuple")):=by cases ty <;> rfl
theorem yc7 {H:Hp} {x:V} {n:String} (ty:xx K H x (.type n)):W.kitOne K (.type n) (.type "str")=some (decide (n="str")):=by cases ty <;> rfl
theorem ycs {H:Hp} {x:V} {n:String} (ty:xx K H x (.type n)):W.kitOne K (.type n) (.type "list")=some (decide (n="list")):=by cases ty <;> rfl
theorem ypb {xs:List V} {y:V} (h:xs.tail[i]?=some y):xs[i+1]?=some y:=by
 cases xs with
 | nil=>simp at h
 | cons x r=>simpa using h
theorem ygf (xs:List V):(List.range xs.tail.length).map (fun i=>V.bl (ltV ((xs[i]?).getD .non) ((xs.tail[i]?).getD .non)))=(List.zipWith ltV xs xs.tail).map V.bl:=by
 apply List.ext_getElem
 .rw [cH,dL,cH,List.length_zipWith,List.length_tail]; omega
 .intro i a c;rw [cH,dL] at a;have b:i < xs.length:=by rw [List.length_tail] at a; omega
  rw [eR,List.getElem_range,eR,List.getElem_zipWith,df a,df b];rfl
theorem yhe {t u:Addr} {xs:List V} {te:TE} {fr:St} {R:Hp->Prop} {H1:Hp} (hint:∀ y∈xs,∃ i:Int,y=.int i) (hl:xs.length <= 1000) (ht:SqT K H1 t xs) (hu:SqT K H1 u xs.tail) (hD:H1 D=none)
  (hte:∀ (i j:Int) (σ':St) (H':Hp) (Q':VK),Q' (.bl (decide (i < j))) H'->te (some (.int i) :: some (.int j) :: σ') H' Q') (hR:∀ H,yw H1 H->H D=some (.lst ((List.zipWith ltV xs xs.tail).map V.bl))->R H) :
  jv (yx6 K t u) (ysg K 2 (z9 (xp 0) (z9 (xp 1) ykp))) te 2 fr D R H1:=by
 refine ybp (m:=xs.tail.length) (fun i=>V.bl (ltV ((xs[i]?).getD .non) ((xs.tail[i]?).getD .non))) ht hu (by rw [List.length_tail]; omega) (dh _) (.inr (dh _)) hD (fun i x y h k w v p q l a e f=>?_) (fun h l a=>?_)
 .obtain ⟨z,s,rfl⟩:=yig f;obtain ⟨c,rfl⟩:=hint x (dI p);obtain ⟨d,rfl⟩:=hint y (dI (ypb q));have r:=l.trans (y8 (o:=HO.tup [V.int c,V.int d]) e);have b:=zh (o':=HO.tup [V.int c,V.int d]) e a;have g:upd h k (HO.tup [V.int c,V.int d]) k=some (.tup [V.int c,V.int d]):=yc;generalize upd h k (HO.tup [V.int c,V.int d])=n at r b g;refine ya0 (SqT.of g) rfl ?_;show z9 (xp 0) (z9 (xp 1) ykp) [V.int c,V.int d] (z :: s :: fr) n _;rfl';refine ⟨⟨[some (.int c),some (.int d)],rfl,rfl⟩,?_⟩;refine hte c d fr n _ ?_;refine Mp.doneR hD (vo (by rw [List.length_tail]; omega)) v r b ?_;rw [p,q];rfl
 .exact hR h l (by rw [<- ygf]; exact a)
theorem yol (xs:List V):ycq xs (some 1) none=xs.tail:=by
 unfold ycq
 have e:HT.sIx xs.length 0 (some 1)=min 1 xs.length:=by
  have:=HT.sIx_nat xs.length 0 1;simpa using this
 rw [HT.sIx_none,e]
 cases xs with
 | nil=>rfl
 | cons x r=>simp
theorem yja {n:Nat} (bs:List Bool) (h:n=bs.length):(List.range n).map (fun i=>V.bl ((bs[i]?).getD false))=bs.map V.bl:=by
 subst h;apply List.ext_getElem
 .rw [cH,dL,cH]
 .intro i a b;rw [cH,dL] at a;rw [eR,List.getElem_range,eR,df a];rfl
def vae (K:W.Frag) (H:Hp) (xs:List V) (bs:List Bool):Prop:=xs.length=bs.length/\∀ (i:Nat) (y:V) (b:Bool),xs[i]?=some y->bs[i]?=some b->LkB K H y b
def LkG (H:Hp) (v:V) (kd:Fin 3) (tp:Addr) (ps:List Int):Prop:=∃ lk,v=.ref lk/\H lk=some (.tup [.str (kdS kd),.ref tp])/\H tp=some (.tup (ps.map V.int))/\zk (ps.map V.int)=true
theorem LkG.same {H H':Hp} {v:V} {kd:Fin 3} {tp:Addr} {ps:List Int} (h:LkG H v kd tp ps) (S:yw H H'):LkG H' v kd tp ps:=by
 obtain ⟨d,e,c,b,a⟩:=h;exact ⟨d,e,S _ _ c,S _ _ b,a⟩
theorem ypo (kd:Fin 3):yiu (.str (kdS kd))=true:=by
 match kd with
 | 0=>rfl
 | 1=>rfl
 | 2=>rfl
theorem yev {xs:List V} (h:zk xs=true):xs.length <= 4:=by
 unfold zk at h;rw [dU,dU] at h;exact of_decide_eq_true h.1.1
theorem LkG.tells {H:Hp} {v:V} {kd:Fin 3} {tp:Addr} {ps:List Int} (h:LkG H v kd tp ps):LkB K H v true:=by
 obtain ⟨b,e,f,c,a⟩:=h;have:=yev a;refine .inr ⟨b,_,e,f,.inr ⟨_,_,"str",rfl,.str _,.inr ⟨ypo kd,.inr ⟨tp,_,rfl,c,by omega,fun y d=>?_,a.symm⟩⟩⟩⟩;obtain ⟨i,_,rfl⟩:=di.mp d;exact ⟨_,.int i⟩
theorem ylz:∀ {ps:List Int},ps.Pairwise (· < ·)->vab (ps.map V.int)=true
 | [],_=>rfl
 | [_],_=>rfl
 | p :: q :: r,h=>by
  have b:p < q:=(List.pairwise_cons.mp h).1 q (by simp);have a:=ylz (List.pairwise_cons.mp h).2;unfold vab at a ⊢;simp only [d6,List.tail_cons,List.zipWith_cons_cons,List.all_cons] at a ⊢;rw [show ltV (V.int p) (V.int q)=true from dw b];simpa using a
theorem yfz {ps:List Int} (h1:ps.length <= 4) (h2:∀ p∈ps,1 <= p/\p <= 8) (h3:ps.Pairwise (· < ·)):zk (ps.map V.int)=true:=by
 unfold zk;rw [cH,dw h1,ylz h3,Bool.true_and,Bool.and_true,List.all_eq_true];intro y a;obtain ⟨i,b,rfl⟩:=di.mp a;have:=h2 i b;show (decide (1 <= i) && decide (i <= 8))=true;rw [dw this.1,dw this.2];rfl
def Lks (H:Hp) (xs:List V):Prop:=∀ y∈xs,∃ kd tp ps,LkG H y kd tp ps
theorem Lks.bs {H:Hp} {xs:List V} (h:Lks H xs):vae K H xs (List.replicate xs.length true):=by
 refine ⟨by rw [List.length_replicate],fun i y b d a=>?_⟩;have c:b=true:=List.eq_of_mem_replicate (dI a);obtain ⟨g,f,e,z⟩:=h y (dI d);rw [c];exact z.tells
theorem yhp (n:Nat):(List.replicate n true).all id=true:=by simp
def vb0 (K:W.Frag) (H:Hp) (x:V):Prop:=(∃ n,xx K H x (.type n)/\n≠"list")\/∃ l xs bs,x=.ref l/\H l=some (.lst xs)/\xs.length <= 1000/\vae K H xs bs/\¬ (1 <= xs.length/\xs.length <= 6/\bs.all id=true)
theorem LkG.upd {H:Hp} {v:V} {kd:Fin 3} {tp l:Addr} {ps:List Int} {xs ys:List V} (h:LkG H v kd tp ps) (hl:H l=some (.lst xs)):LkG (L2.upd H l (.lst ys)) v kd tp ps:=by
 obtain ⟨d,e,b,a,c⟩:=h;exact ⟨d,e,yi (xh b hl (by intro z; cases z)) b,yi (xh a hl (by intro z; cases z)) a,c⟩
def upN {α:Type} (g:Nat->α) (n:Nat) (x:α):Nat->α:=fun j=>if j=n then x else g j
theorem xo {α:Type} {g:Nat->α} {n:Nat} {x:α}:upN g n x n=x:=if_pos rfl
theorem xj {α:Type} {g:Nat->α} {n:Nat} {x:α} (h:j < n):upN g n x j=g j:=if_neg (by omega)
theorem yn4 (c:Int):∃ kk:Fin 3,atI [V.str "even",V.str "quick",V.str "run"] (c % 3)=some (V.str (kdS kk)):=by
 have a:0 <= c % 3:=eT _ (by decide);have b:c % 3 < 3:=eH _ (by decide);generalize c % 3=z at a b;obtain rfl | rfl | rfl:z=0\/z=1\/z=2:=by omega
 .exact ⟨0,rfl⟩
 .exact ⟨1,rfl⟩
 .exact ⟨2,rfl⟩
def xw (H:Hp) (n:Nat) (lk:Nat->Addr) (kd:Nat->Fin 3) (tp:Nat->Addr) (ps:Nat->List Int):Prop:=∀ i,i < n->LkG H (.ref (lk i)) (kd i) (tp i) (ps i)
theorem xw.same {H H':Hp} {n:Nat} {lk:Nat->Addr} {kd:Nat->Fin 3} {ps:Nat->List Int} (h:xw H n lk kd tp ps) (S:yw H H'):xw H' n lk kd tp ps:=fun i a=>(h i a).same S
structure Sd (K:W.Frag) (H:Hp) (v:V) (d:PyData) (k:Nat):Prop where
 rd:RdV K H v d
 lay:d.canLay0=true
 dep:d.depth <= k
 eq:PyData.eqv d d=true
structure Sds (K:W.Frag) (H:Hp) (xs:List V) (ds:List PyData) (k:Nat):Prop where
 rd:yfk K H xs ds
 lay:PyData.canLayAll0 ds=true
 dep:PyData.depthAll ds <= k
 eq:PyData.eqvAll ds ds=true
theorem Sds.ints {H:Hp} (ns:List Int) {k:Nat}:Sds K H (ns.map V.int) (ns.map PyData.int) k:=⟨j8 ns,jl ns,by rw [π]; exact dJ _,by rw [jn,dw rfl]⟩
theorem Sd.lst {H:Hp} {p:Addr} {xs:List V} {ds:List PyData} {k:Nat} (h:SqL K H p xs) (r:Sds K H xs ds k):Sd K H (.ref p) (.list ds) (k+1):=by
 refine ⟨.lst h r.rd,by simp [PyData.canLay0,r.lay],?_,by simp [PyData.eqv,r.eq]⟩;have a:=r.dep;simp only [PyData.depth];omega
theorem yq5 {g:Bool->Bool} {H:Hp} {Q:VK} {x y:V} {d:PyData} {k:Nat} (h1:Sd K H x d k) (h2:Sd K H y d k) (hk:k <= 60) (h:Q (.bl (g true)) H):yyg K g x y H Q:=by
 have a:SeqAt.shaped d=true:=by
  unfold SeqAt.shaped;rw [dU];exact ⟨h1.lay,dw (by have:=h1.dep; omega)⟩
 exact ⟨d,d,h1.rd,h2.rd,a,a,by rw [h1.eq]; exact h⟩
theorem yym:yk ["thing"] ["thing"] (yg vam):=w4 (by right)
inductive æ (K:W.Frag) (vs:List V) (H:Hp) (Q:VK) (E':XK):Prop
 | mk (x n:_):(vs=[x])->(xx K H x (.type n))->(Q (.bl (jg x)) H)->æ K vs H Q E'
theorem yis (T:Txt K mg a):wc P w K mg base CX0 1 a.Og a.Oh ["thing"] (æ K):=by
 exists T.C8.F.ok,yym,g;obtain ⟨x,n,rfl,b,k⟩:=h;refine ⟨_,(yf (yv (uv (yq wv rfl T.A6 (by right) (ya (pv 0) (ya (zq (T:="int") rfl T.Nz (by right)) ye (yb rfl)) (yb rfl))) (ν (yu5 (yq wv rfl T.A6 (by right) (ya (pv 0) (ya (zq (T:="bool") rfl T.I6 (by right)) ye (yb rfl)) (yb rfl)))))))),?_⟩;exists 1,0;rfl';refine Ð b (yo7 b) ?_;rfl'
 cases hx:yms x with
 | false =>
  have e:jg x=false:=by
   cases x <;> first | rfl | cases hx
  rw [e] at k;exact Ę k
 | true =>
  have e:jg x=!yhh x:=by
   cases x <;> first | rfl | cases hx
  rw [e] at k;refine ĵ ?_;rfl';refine Ð b (yjc b) ?_;rfl';exact k
theorem yzb:yk ["thing"] ["thing"] (yg vah):=w4 (by right)
inductive ŷ (K:W.Frag) (vs:List V) (H:Hp) (Q:VK) (E':XK):Prop
 | mk (x n:_):(vs=[x])->(xx K H x (.type n))->(Q (.bl (Ò x)) H)->ŷ K vs H Q E'
theorem yz0 (T:Txt K mg a):wc P w K mg base CX0 2 a.Oi a.Oj ["thing"] (ŷ K):=by
 exists T.N8.F.ok,yzb,g;obtain ⟨x,n,rfl,j,k⟩:=h;refine ⟨_,(yf (yv (uv (vd (yis T) (g.mono (by decide)) rfl T.C8.m T.C8.F.kp T.C8.B .nil vh (ya (pv 0) ye (yb rfl))) (ν (η u6 u6 yj (pv 0) yj))))),?_⟩;exists 1,0;rfl';refine ⟨x,n,rfl,j,?_⟩;rfl'
 cases hx:jg x with
 | false =>
  have e:Ò x=false:=by
   cases x <;> first | rfl | cases hx
  rw [e] at k;exact Ę k
 | true =>
  obtain ⟨i,rfl⟩:=uo hx;refine ĵ ?_;rfl';refine zd (fun c=>?_) (fun c=>?_)
  .rfl';have e:Ò (.int i)=decide (i <= 1):=by simp [Ò,c]
   rw [e] at k;exact k
  .have e:Ò (.int i)=false:=by simp [Ò,c]
   rw [e] at k;exact k
theorem yyz:yk ["thing"] ["thing"] (yg yz8):=w4 (by right)
inductive È (K:W.Frag) (vs:List V) (H:Hp) (Q:VK) (E':XK):Prop
 | mk (x n:_):(vs=[x])->(xx K H x (.type n))->(Q (.bl (chV x)) H)->È K vs H Q E'
theorem yzd (T:Txt K mg a):wc P w K mg base CX0 2 a.Ol a.Om ["thing"] (È K):=by
 exists T.N9.F.ok,yyz,g;obtain ⟨x,n,rfl,j,k⟩:=h;refine ⟨_,(yf (yv (uv (vd (yis T) (g.mono (by decide)) rfl T.C8.m T.C8.F.kp T.C8.B .nil vh (ya (pv 0) ye (yb rfl))) (ν (η u6 u6 (vq rfl T.Dn) (pv 0) (yr uu (vq rfl T.D5) (vq rfl T.Dn))))))),?_⟩;exists 1,0;rfl';refine ⟨x,n,rfl,j,?_⟩;rfl'
 cases hx:jg x with
 | false =>
  have e:chV x=false:=by
   cases x <;> first | rfl | cases hx
  rw [e] at k;exact Ę k
 | true =>
  obtain ⟨i,rfl⟩:=uo hx;refine ĵ ?_;rfl';refine zd (fun c=>?_) (fun c=>?_)
  .rfl';have e:chV (.int i)=decide (i <= 16777216 - 32768):=by simp [chV,c]
   rw [e] at k;exact k
  .have e:chV (.int i)=false:=by simp [chV,c]
   rw [e] at k;exact k
theorem yzv:yk ["thing"] ["thing"] (yg vai):=w4 (by right)
inductive Ģ (K:W.Frag) (vs:List V) (H:Hp) (Q:VK) (E':XK):Prop
 | mk (x n:_):(vs=[x])->(xx K H x (.type n))->(Q (.bl (sgV x)) H)->Ģ K vs H Q E'
theorem yzw (T:Txt K mg a):wc P w K mg base CX0 2 a.Oo a.Op ["thing"] (Ģ K):=by
 exists T.Na.F.ok,yzv,g;obtain ⟨x,n,rfl,j,k⟩:=h;refine ⟨_,(yf (yv (uv (vd (yis T) (g.mono (by decide)) rfl T.C8.m T.C8.F.kp T.C8.B .nil vh (ya (pv 0) ye (yb rfl))) (ν (η u6 u6 yj (pv 0) yj))))),?_⟩;exists 1,0;rfl';refine ⟨x,n,rfl,j,?_⟩;rfl'
 cases hx:jg x with
 | false =>
  have e:sgV x=false:=by
   cases x <;> first | rfl | cases hx
  rw [e] at k;exact Ę k
 | true =>
  obtain ⟨i,rfl⟩:=uo hx;refine ĵ ?_;rfl';refine zd (fun c=>?_) (fun c=>?_)
  .rfl';have e:sgV (.int i)=decide (i <= 255):=by simp [sgV,c]
   rw [e] at k;exact k
  .have e:sgV (.int i)=false:=by simp [sgV,c]
   rw [e] at k;exact k
theorem yzo:yk ["thing","most"] ["thing","most"] (yg vak):=w4 (by right)
inductive yln (K:W.Frag) (vs:List V) (H:Hp) (Q:VK) (E':XK):Prop
 | mk (x n m:_):(vs=[x,.int m])->(xx K H x (.type n))->(((Bad K H x n m/\∀ H',yw H H'->Q (.bl false) H')\/∃ xs,yx7 K H x xs m/\∀ H',yw H H'->Q (.bl true) H'))->yln K vs H Q E'
theorem yxr (T:Txt K mg a):wc P w K mg base CX0 3 a.Oq a.Os ["thing","most"] (yln K):=by
 exists T.Fu.F.ok,yzo,X;obtain ⟨x,n,m,rfl,u,h⟩:=h
 have L:(n≠"list"/\∀ d,yw H d->Q (.bl false) d)\/∃ p xs,x=.ref p/\H p=some (.lst xs)/\ykn K H xs/\xs.length <= 100000/\∀ d,yw H d->Q (.bl (decide ((xs.length:Int) <= m) && xs.all sgV)) d:=by
  rcases h with ⟨h | ⟨p,xs,e,c,t,j,N⟩,k⟩ | ⟨xs,⟨p,e,c,t,j,N⟩,k⟩
  .exact .inl ⟨h,k⟩
  .exact .inr ⟨p,xs,e,c,t,j,fun d S=>by rw [N]; exact k d S⟩
  .exact .inr ⟨p,xs,e,c,t,j,fun d S=>by rw [N]; exact k d S⟩
 refine ⟨_,(yf (yv (uv (yq wv rfl T.A6 (by right) (ya (pv 0) (ya (zq (T:="list") rfl T.Ao (by right)) ye (yb rfl)) (yb rfl))) (uv (jq u6 (yq yt rfl T.Ae (by right) (ya (pv 0) ye (yb rfl))) (pv 1) (vg _)) (ν (yq (z5 rfl) rfl T.Di (by right) (ya (wg (js:=[]) (ys:=[]) rfl (wd (pv 0)) (fun C s2 Z fp=>(vd (yzw T) (X.mono (by decide)) rfl T.Na.m T.Na.F.kp T.Na.B .nil vh (ya (pv 0) ye (yb rfl)))) rfl rfl (hyc:=yx) (hrel:=yx)) ye (yb rfl)))))))),?_⟩;exists 2,0;rfl';refine Ð u (yo4 u) ?_;rfl';rcases L with ⟨G,k⟩ | ⟨p,xs,rfl,c,R,j,k⟩
 .refine ycm G ?_;rfl';exact k _ (yw.refl _)
 .have G:n="list":=by
   cases u with
   | lst e=>rfl
   | frz e=>rfl
   | tup e=>rw [c] at e; cases e
   | dK e=>rw [c] at e; cases e
   | dT e=>rw [c] at e; cases e
  refine Ţ G ?_;rfl';refine zr (SqL.of c) ?_;rfl';refine zd (fun v=>?_) (fun v=>?_)
  .rw [dw v,Bool.true_and] at k;rfl';refine ⟨p,rfl,⟨_,SqL.of c⟩,fun D M=>?_⟩;have nD:p≠D:=yd c M;refine ur (K:=K) (a:=p) (xs:=xs) (fun i g=>g D=some (.lst (((xs.take i).map sgV).map V.bl))/\yw H g)
    ⟨yc,y8 M⟩ (fun i g _ q=>SqL.of (q.2 _ _ c)) ?_ ?_
   .rintro i y g O J ⟨f,l⟩;rfl';obtain ⟨Y,r⟩:=R y (dI O);refine ⟨y,Y,rfl,ı l r,?_⟩;refine xu f (by rw [cH,cH,dM]; exact yjo (by omega)) J ⟨yc.trans ?_,fun b o e=>yi (fun z=>?_) (l _ _ e)⟩
    .rw [List.take_succ,O];simp
    .subst z;rw [M] at e;cases e
   .rintro g ⟨f,l⟩;rfl';refine ⟨D,_,rfl,SqL.of f,?_⟩;rw [ej (dh _),List.all_map];exact k _ l
  .rw [dG v,Bool.false_and] at k;rfl';exact k _ (yw.refl _)
theorem yy8:yk ["thing"] ["thing"] (yg vad):=w4 (by right)
theorem yiv (T:Txt K mg a):wc P w K mg base (CXe P w) 4 a.Ot a.Ou ["thing"] (χ K a.Gv 1000):=by
 exists T.C9.F.okE,yy8,j;obtain ⟨x,n,rfl,o,h⟩:=h;refine ⟨_,(yh (wu (x3 (x8 (vd (yxr T) (j.mono (by decide)) rfl T.Fu.m T.Fu.F.kp T.Fu.B .nil vh (ya (pv 0) (ya (vq rfl T.D6) ye (yb rfl)) (yb rfl))))) (yf (xb rfl T.Ri T.Px (ya w6 ye (yb rfl)))) y9) (yf (yv (xn xm rfl T.Ao (by right) (ya (pv 0) ye (yb rfl)))))),?_⟩;exists 1,0;rfl';refine ⟨x,n,_,rfl,o,?_⟩;rcases h with ⟨q,k⟩ | ⟨f,e,k⟩
 .refine .inl ⟨q,fun t c=>?_⟩;rfl';exact ⟨by walk_at "len",k _ c⟩
 .refine .inr ⟨f,e,fun t c=>?_⟩;obtain ⟨p,rfl,l,_⟩:=e;rfl';refine ⟨p,f,rfl,.inl (SqL.of (c _ _ l)),fun r b=>?_⟩;exact k r _ (c.free b) yc (c.trans (y8 b))
theorem yyw:yk ["thing"] ["thing"] (yg yz9):=w4 (by right)
theorem yz1 (T:Txt K mg a):wc P w K mg base (CXe P w) 4 a.Ov a.Ow ["thing"] (χ K a.Fq 12000):=by
 exists T.Nd.F.okE,yyw,j;obtain ⟨x,n,rfl,o,h⟩:=h;refine ⟨_,(yh (wu (x3 (x8 (vd (yxr T) (j.mono (by decide)) rfl T.Fu.m T.Fu.F.kp T.Fu.B .nil vh (ya (pv 0) (ya (vq rfl T.G8) ye (yb rfl)) (yb rfl))))) (yf (xb rfl T.Rj T.Py (ya w6 ye (yb rfl)))) y9) (yf (yv (xn xm rfl T.Ao (by right) (ya (pv 0) ye (yb rfl)))))),?_⟩;exists 1,0;rfl';refine ⟨x,n,_,rfl,o,?_⟩;rcases h with ⟨q,k⟩ | ⟨f,e,k⟩
 .refine .inl ⟨q,fun t c=>?_⟩;rfl';exact ⟨by walk_at "len",k _ c⟩
 .refine .inr ⟨f,e,fun t c=>?_⟩;obtain ⟨p,rfl,l,_⟩:=e;rfl';refine ⟨p,f,rfl,.inl (SqL.of (c _ _ l)),fun r b=>?_⟩;exact k r _ (c.free b) yc (c.trans (y8 b))
theorem yzr:yk ["thing"] ["thing"] (yg yz7):=w4 (by right)
def yr5:V->Bool
 | .int i=>decide (0 <= i) && decide (i <= 1000)
 | _=>false
theorem yux {m:Nat} (h:m <= 1000):yr5 (.int m)=true:=by
 show (decide ((0:Int) <= m) && decide ((m:Int) <= 1000))=true;rw [dw (by omega),dw (by omega)];rfl
inductive ydk (K:W.Frag) (C:Addr) (vs:List V) (H:Hp) (Q:VK) (E:XK):Prop
 | mk (x n:_):(vs=[x])->(xx K H x (.type n))->((yr5 x=true->Q .non H))->((yr5 x=false->E (.ref C) none H))->ydk K C vs H Q E
theorem yyp (T:Txt K mg a):wc P w K mg base (CXe P w) 2 a.Ox a.Oy ["thing"] (ydk K a.Az):=by
 exists T.Nf.F.okE,yzr,l;obtain ⟨x,n,rfl,o,g,d⟩:=h;refine ⟨_,(yf (wu (PW.pt (ć (x3 (x8 (vd (yis T) (l.mono (by decide)) rfl T.C8.m T.C8.F.kp T.C8.B .nil vh (ya (pv 0) ye (yb rfl))))) (Ê (x3 (Ő u6 u6 yj (pv 0) (vq rfl T.D6)))))) (yf (xb rfl T.Nw T.E7 (ya w6 ye (yb rfl)))) y9)),?_⟩;exists 1,0;rfl';refine ⟨x,n,rfl,o,?_⟩;rfl'
 cases hx:jg x with
 | false =>
  have e:yr5 x=false:=by
   cases x <;> first | rfl | cases hx
  rfl';exact ⟨by walk_at "len",d e⟩
 | true =>
  obtain ⟨i,rfl⟩:=uo hx;rfl';refine zd (fun c=>?_) (fun c=>?_)
  .rfl';refine ynb (fun f=>?_) (fun f=>?_)
   .rfl';exact g (by simp [yr5,c,f])
   .rfl';exact ⟨by walk_at "len",d (by simp [yr5,f])⟩
  .rfl';exact ⟨by walk_at "len",d (by simp [yr5,c])⟩
theorem yz2:yk ["thing"] ["thing"] (yg yz3):=w4 (by right)
inductive zf (K:W.Frag) (C:Addr) (vs:List V) (H:Hp) (Q:VK) (E:XK):Prop
 | mk (x n:_):(vs=[x])->(xx K H x (.type n))->((chV x=true->Q .non H))->((chV x=false->E (.ref C) none H))->zf K C vs H Q E
theorem yrx (T:Txt K mg a):wc P w K mg base (CXe P w) 3 a.Oz a.P0 ["thing"] (zf K a.Dp):=by
 exists T.Dk.F.okE,yz2,e;obtain ⟨x,n,rfl,f,g,i⟩:=h;refine ⟨_,(yf (wu (x3 (x8 (vd (yzd T) (e.mono (by decide)) rfl T.N9.m T.N9.F.kp T.N9.B .nil vh (ya (pv 0) ye (yb rfl))))) (yf (xb rfl T.Rk T.Pz (ya w6 ye (yb rfl)))) y9)),?_⟩;exists 1,0;rfl';refine ⟨x,n,rfl,f,?_⟩;rfl'
 cases hx:chV x with
 | false =>
  rfl';exact ⟨by walk_at "len",i hx⟩
 | true =>
  rfl';exact g hx
theorem yti:yk ["thing"] ["thing"] (yg ypv):=w4 (by right)
inductive Ç (K:W.Frag) (C:Addr) (vs:List V) (H:Hp) (Q:VK) (E:XK):Prop
 | mk (x n:_):(vs=[x])->(xx K H x (.type n))->((Ò x=true->Q .non H))->((Ò x=false->E (.ref C) none H))->Ç K C vs H Q E
theorem Ą (T:Txt K mg a):wc P w K mg base (CXe P w) 3 a.Ig a.Ih ["thing"] (Ç K a.Bx):=by
 exists T.Aj.F.okE,yti,e;obtain ⟨x,n,rfl,f,g,i⟩:=h;refine ⟨_,(yf (wu (x3 (x8 (vd (yz0 T) (e.mono (by decide)) rfl T.N8.m T.N8.F.kp T.N8.B .nil vh (ya (pv 0) ye (yb rfl))))) (yf (xb rfl T.Rl T.Q0 (ya w6 ye (yb rfl)))) y9)),?_⟩;exists 1,0;rfl';refine ⟨x,n,rfl,f,?_⟩;rfl'
 cases hx:Ò x with
 | false =>
  rfl';exact ⟨by walk_at "len",i hx⟩
 | true =>
  rfl';exact g hx
theorem yw2:yk ["chance","bit"] ["chance","bit"] (yg yrq):=w4 (by right)
inductive yct (K:W.Frag) (C D:Addr) (vs:List V) (H:Hp) (Q:VK) (E:XK):Prop
 | mk (x n y m:_):(vs=[x,y])->(xx K H x (.type n))->(xx K H y (.type m))->((chV x=false->E (.ref C) none H))->((chV x=true->Ò y=false->E (.ref D) none H))->((∀ c b,x=.int c->y=.int b->chV x=true->Ò y=true->Q (.int (gvv c b)) H))->yct K C D vs H Q E
theorem yty (T:Txt K mg a):wc P w K mg base (CXe P w) 4 a.Ii a.Ij ["chance","bit"] (yct K a.Dp a.Bx):=by
 exists T.Ep.F.okE,yw2,g;obtain ⟨x,n,y,m,rfl,p,q,r,t,j⟩:=h;refine ⟨_,(yh (yu (vj (yrx T) (g.mono (by decide)) rfl T.Dk.m T.Dk.F.kp T.Dk.B .nil yz (ya (pv 0) ye (yb rfl)))) (yh (yu (vj (Ą T) (g.mono (by decide)) rfl T.Aj.m T.Aj.F.kp T.Aj.B .nil yz (ya (pv 1) ye (yb rfl)))) (yf (yv (ζ (yy uk (pv 1) yj (vg _)) (pv 0) (yr uu (vq rfl T.D5) (pv 0))))))),?_⟩;exists 2,0;rfl';refine ⟨x,n,rfl,p,fun e=>?_,r⟩;rfl';refine ⟨y,m,rfl,q,fun i=>?_,t e⟩;obtain ⟨c,rfl,C,z⟩:=ycc e;obtain ⟨b,rfl,u,v⟩:=yc3 i;rfl';have k:=j c b rfl rfl e i;unfold gvv at k;refine zd (fun f=>?_) (fun f=>?_)
 .rw [if_pos f] at k;rfl';exact k
 .rw [if_neg f] at k;rfl';exact k
theorem yuv:yk ["self"] ["self"] (yg ypz):=w4 (by right)
theorem ysy (T:Txt K mg a):wc P w K mg base CX0 1 a.Gi a.Ik ["self"] (Ø a.A9 (jd (.int 0) (.int 0))):=by
 exists T.Er.F.ok,yuv,f;obtain ⟨p,e,rfl,g,k⟩:=h;refine ⟨_,(yh (ve (pv 0) yj rfl) (yf (ve (pv 0) yj rfl))),?_⟩;exists 1,0;rfl';exact k _ yc (But.upd.trans But.upd)
theorem yui:yk ["self"] ["self"] (yg yq7):=w4 (by right)
theorem ytq (T:Txt K mg a):wc P w K mg base CX0 1 a.Il a.Im ["self"] (x4 (oS a) yyc):=by
 exists T.Gw.F.ok,yui,l;obtain ⟨p,e,f,rfl,d,j,c,k⟩:=h
 cases f with
 | ev n o =>
  obtain ⟨r,m,q⟩:=j;have c:H p=some (.ins a.A9 e (jd (.int n) (.int o))):=c;refine ⟨_,(yf (yv (yr vy (yr xa (yr wx (yr xa yj (yp (pv 0) rfl)) yj) (vq rfl T.D5)) (yr wx (yr xa yj (yr wx (yp (pv 0) rfl) (yp (pv 0) rfl))) yj)))),?_⟩;exists 1,0;rfl';exact k
 | qk _=>exact d.elim
 | rn _ _=>exact d.elim
theorem yu1:yk ["self","bit"] ["self","bit"] (yg yp1):=w4 (by right)
theorem ytw (T:Txt K mg a):wc P w K mg base (CXe P w) 4 a.Io a.Ip ["self","bit"] (uy K (oS a) yyc a.Bx):=by
 exists T.Gy.F.okE,yu1,z;obtain ⟨p,i,y,x,D,rfl,g,t,f,q,l,r⟩:=h
 cases y with
 | ev n o =>
  obtain ⟨L,I,J⟩:=t;have f:H p=some (.ins a.A9 i (jd (.int n) (.int o))):=f;refine ⟨_,(yh (yu (vj (Ą T) (z.mono (by decide)) rfl T.Aj.m T.Aj.F.kp T.Aj.B .nil yz (ya (pv 1) ye (yb rfl)))) (yh (wu (yy uk (pv 1) yj (vg _)) (yf (ve (pv 0) (yr wx (yp (pv 0) rfl) yj) rfl)) (yf (ve (pv 0) (yr wx (yp (pv 0) rfl) yj) rfl))) (yf (wu (yy yco (yr wx (yp (pv 0) rfl) (yp (pv 0) rfl)) (vq rfl T.Cj) (vg _)) (yh (ve (pv 0) (yr vy (yr wx (yp (pv 0) rfl) yj) yj) rfl) (yf (ve (pv 0) (yr vy (yr wx (yp (pv 0) rfl) yj) yj) rfl))) y9)))),?_⟩;exists 2,0;rfl';refine ⟨x,D,rfl,q,fun C=>?_,r⟩;obtain ⟨b,rfl,G,j⟩:=yd6 C;have k:=l b rfl G j;unfold Slt.see at k;dsimp only at k;rfl';refine zd (fun e=>?_) (fun e=>?_)
  .rw [if_pos e] at k;unfold ycj at k;rfl';refine zd (fun c=>?_) (fun c=>?_)
   .rw [if_pos c] at k;rfl';exact k _ yc ((But.upd.trans But.upd).trans But.upd)
   .rw [if_neg c] at k;rfl';exact k _ yc But.upd
  .rw [if_neg e] at k;unfold ycj at k;rfl';refine zd (fun c=>?_) (fun c=>?_)
   .rw [if_pos c] at k;rfl';exact k _ yc ((But.upd.trans But.upd).trans But.upd)
   .rw [if_neg c] at k;rfl';exact k _ yc But.upd
 | qk _=>exact g.elim
 | rn _ _=>exact g.elim
theorem ysq:yk ["self"] ["self"] (yg yqn):=w4 (by right)
theorem yuh (T:Txt K mg a):wc P w K mg base CX0 1 a.Gj a.Iq ["self"] (Ø a.A8 (u5 (.int 8388608))):=by
 exists T.Es.F.ok,ysq,f;obtain ⟨p,e,rfl,g,k⟩:=h;refine ⟨_,(yf (ve (pv 0) (yr vy (vq rfl T.D5) yj) rfl)),?_⟩;exists 1,0;rfl';exact k _ yc But.upd
theorem ysi:yk ["self"] ["self"] (yg yqy):=w4 (by right)
theorem ywo (T:Txt K mg a):wc P w K mg base CX0 1 a.Ir a.Is ["self"] (x4 (oS a) yyi):=by
 exists T.Gz.F.ok,ysi,j;obtain ⟨p,e,f,rfl,d,l,c,k⟩:=h
 cases f with
 | qk h0 =>
  have c:H p=some (.ins a.A8 e (u5 (.int h0))):=c;refine ⟨_,(yf (yv (yp (pv 0) rfl))),?_⟩;exists 1,0;rfl';exact k
 | ev _ _=>exact d.elim
 | rn _ _=>exact d.elim
theorem yhx:yk ["self","bit","moved"] ["self","bit"] (yg yp9):=w4 (by right)
theorem ytx (T:Txt K mg a):wc P w K mg base (CXe P w) 4 a.Iu a.Iv ["self","bit"] (uy K (oS a) yyi a.Bx):=by
 exists T.Ha.F.okE,yhx,y;obtain ⟨p,g,v,x,C,rfl,f,r,e,o,l,q⟩:=h
 cases v with
 | qk h0 =>
  obtain ⟨I,G⟩:=r;have e:H p=some (.ins a.A8 g (u5 (.int h0))):=e;refine ⟨_,(yh (yu (vj (Ą T) (y.mono (by decide)) rfl T.Aj.m T.Aj.F.kp T.Aj.B .nil yz (ya (pv 1) ye (yb rfl)))) (yh (wu (yy uk (pv 1) yj (vg _)) (yf (y7 (i:=2) yhx.nd rfl (Or.inl rfl) (yr wx (yp (pv 0) rfl) (yr vy (yr uu (vq rfl T.D5) (yp (pv 0) rfl)) yj)))) (yf (y7 (i:=2) yhx.nd rfl (Or.inl rfl) (yr uu (yp (pv 0) rfl) (yr vy (yp (pv 0) rfl) yj))))) (yf (ve (pv 0) (yq (û rfl) rfl T.Hy (by right) (ya (yq (ø rfl) rfl T.Hz (by right) (ya (pv 2) (ya (vq rfl T.Dn) ye (yb rfl)) (yb rfl))) (ya (yr uu (vq rfl T.D5) (vq rfl T.Dn)) ye (yb rfl)) (yb rfl))) rfl)))),?_⟩;exists 2,1;rfl';refine ⟨x,C,rfl,o,fun z=>?_,q⟩;obtain ⟨b,rfl,D,j⟩:=yd6 z;have k:=l b rfl D j;unfold Slt.see at k;dsimp only at k;rfl';refine zd (fun d=>?_) (fun d=>?_)
  .rw [if_pos d] at k;rfl';refine ⟨_,_,rfl,?_⟩;rfl';refine ⟨_,_,rfl,?_⟩;rfl';exact k _ yc But.upd
  .rw [if_neg d] at k;rfl';refine ⟨_,_,rfl,?_⟩;rfl';refine ⟨_,_,rfl,?_⟩;rfl';exact k _ yc But.upd
 | ev _ _=>exact f.elim
 | rn _ _=>exact f.elim
theorem ywh:yk ["self"] ["self"] (yg yr2):=w4 (by right)
theorem yva (T:Txt K mg a):wc P w K mg base CX0 1 a.Gk a.Iw ["self"] (Ø a.Ac (ĕ (.int 1) (.int 0))):=by
 exists T.Et.F.ok,ywh,f;obtain ⟨p,e,rfl,g,k⟩:=h;refine ⟨_,(yh (ve (pv 0) yj rfl) (yf (ve (pv 0) yj rfl))),?_⟩;exists 1,0;rfl';exact k _ yc (But.upd.trans But.upd)
theorem ymp:yk ["self","given"] ["self"] (yg yry):=w4 (by right)
theorem ywp (T:Txt K mg a):wc P w K mg base CX0 1 a.Ix a.Iy ["self"] (x4 (oS a) yyf):=by
 exists T.Hb.F.ok,ymp,q;obtain ⟨p,f,g,rfl,e,o,d,k⟩:=h
 cases g with
 | rn l n =>
  obtain ⟨v,r,t,u⟩:=o;have d:H p=some (.ins a.Ac f (ĕ (.int l) (.int n))):=d;refine ⟨_,(yh (y7 (i:=1) ymp.nd rfl (Or.inl rfl) (yr vy (yr xa (yr wx (yr xa yj (yp (pv 0) rfl)) yj) (vq rfl T.D5)) (yr wx (yr xa yj (yp (pv 0) rfl)) yj))) (yf (yv (ζ (yy uk (yp (pv 0) rfl) yj (vg _)) (pv 1) (yr uu (vq rfl T.D5) (pv 1)))))),?_⟩;exists 1,1;rfl';have k:Q (.int (if l=1 then Ë n else 16777216 - Ë n)) H:=k;refine zd (fun c=>?_) (fun c=>?_)
  .rw [if_pos c] at k;rfl';exact k
  .rw [if_neg c] at k;rfl';exact k
 | ev _ _=>exact e.elim
 | qk _=>exact e.elim
theorem yvj:yk ["self","bit"] ["self","bit"] (yg yrk):=w4 (by right)
theorem ytt (T:Txt K mg a):wc P w K mg base (CXe P w) 4 a.Iz a.J0 ["self","bit"] (uy K (oS a) yyf a.Bx):=by
 exists T.Hc.F.okE,yvj,y;obtain ⟨p,g,v,x,C,rfl,f,r,e,o,j,q⟩:=h
 cases v with
 | rn l n =>
  obtain ⟨L,G,I,J⟩:=r;have e:H p=some (.ins a.Ac g (ĕ (.int l) (.int n))):=e;refine ⟨_,(yh (yu (vj (Ą T) (y.mono (by decide)) rfl T.Aj.m T.Aj.F.kp T.Aj.B .nil yz (ya (pv 1) ye (yb rfl)))) (yf (wu (yy uk (pv 1) (yp (pv 0) rfl) (vg _)) (yf (ve (pv 0) (yq (û rfl) rfl T.Hy (by right) (ya (yr wx (yp (pv 0) rfl) yj) (ya (vq rfl T.Cj) ye (yb rfl)) (yb rfl))) rfl)) (yh (ve (pv 0) (pv 1) rfl) (yf (ve (pv 0) yj rfl)))))),?_⟩;exists 2,0;rfl';refine ⟨x,C,rfl,o,fun z=>?_,q⟩;obtain ⟨b,rfl,D,i⟩:=yd6 z;have k:=j b rfl D i;unfold Slt.see at k;dsimp only at k;rfl';refine zd (fun d=>?_) (fun d=>?_)
  .rw [if_pos d] at k;rfl';refine ⟨_,_,rfl,?_⟩;rfl';exact k _ yc But.upd
  .rw [if_neg d] at k;rfl';exact k _ yc (But.upd.trans But.upd)
 | ev _ _=>exact f.elim
 | qk _=>exact f.elim
theorem ytm:yk ["kind"] ["kind"] (yg yro):=w4 (by right)
inductive Ħ (a:Ads) (vs:List V) (H:Hp) (Q:VK) (E':XK):Prop
 | mk (k:Fin 3):(vs=[.str (kdS k)])->(∀ p dx H',H p=none->H' p=some (oS a dx (kd0 k))->yw H H'->Q (.ref p) H')->Ħ a vs H Q E'
theorem yv9 (T:Txt K mg a):wc P w K mg base CX0 3 a.J1 a.J2 ["kind"] (Ħ a):=by
 exists T.Eu.F.ok,ytm,m;obtain ⟨t,rfl,k⟩:=h;refine ⟨_,(yh (wu (yy uk (pv 0) w6 (vg _)) (yf (yv (γ T.Pt (ysy T) (m.mono (by decide)) rfl T.Ps T.Er.B .nil vh))) y9) (yh (wu (yy uk (pv 0) w6 (vg _)) (yf (yv (γ T.P3 (yuh T) (m.mono (by decide)) rfl T.P1 T.Es.B .nil vh))) y9) (yh (wu (yy uk (pv 0) w6 (vg _)) (yf (yv (γ T.Qa (yva T) (m.mono (by decide)) rfl T.Q9 T.Et.B .nil vh))) y9) (yf Ś)))),?_⟩;exists 1,0;rfl';refine ⟨rfl,?_⟩
 match t with
 | 0 =>
  refine ⟨_,rfl,Ţ rfl ?_⟩;rfl';intro p g d c n;refine ⟨p,g,rfl,yc,fun j f i=>⟨rfl,?_⟩⟩;exact k p g j d f fun b o e=>i b o (by rw [yn (yd e d),yn (yd e c)]; exact e) (yd e d)
 | 1 =>
  refine ⟨_,rfl,ycm (by intro z; injection z with z; revert z; decide +kernel) ?_⟩;rfl';refine ⟨rfl,?_⟩;refine ⟨_,rfl,Ţ rfl ?_⟩;rfl';intro p g d c n;refine ⟨p,g,rfl,yc,fun j f i=>⟨rfl,?_⟩⟩;exact k p g j d f fun b o e=>i b o (by rw [yn (yd e d),yn (yd e c)]; exact e) (yd e d)
 | 2 =>
  refine ⟨_,rfl,ycm (by intro z; injection z with z; revert z; decide +kernel) ?_⟩;rfl';refine ⟨rfl,?_⟩;refine ⟨_,rfl,ycm (by intro z; injection z with z; revert z; decide +kernel) ?_⟩;rfl';refine ⟨rfl,?_⟩;refine ⟨_,rfl,Ţ rfl ?_⟩;rfl';intro p g d c n;refine ⟨p,g,rfl,yc,fun j f i=>⟨rfl,?_⟩⟩;exact k p g j d f fun b o e=>i b o (by rw [yn (yd e d),yn (yd e c)]; exact e) (yd e d)
theorem ysv:yk ["thing"] ["thing"] (yg yqp):=w4 (by right)
inductive Ī (K:W.Frag) (vs:List V) (H:Hp) (Q:VK) (E':XK):Prop
 | mk (x n:_):(vs=[x])->(xx K H x (.type n))->(Q (.bl (yiu x)) H)->Ī K vs H Q E'
theorem ys8 (T:Txt K mg a):wc P w K mg base CX0 1 a.J3 a.J4 ["thing"] (Ī K):=by
 exists T.Ev.F.ok,ysv,g;obtain ⟨x,n,rfl,b,k⟩:=h;refine ⟨_,(yf (yv (uv (yq wv rfl T.A6 (by right) (ya (pv 0) (ya (zq (T:="str") rfl T.N7 (by right)) ye (yb rfl)) (yb rfl))) (ν (jq yf9 (pv 0) (yb9 rfl T.Pg) (by with_unfolding_all rfl)))))),?_⟩;exists 1,0;rfl';refine Ð b (yc7 b) ?_;rfl';by_cases hn:n="str"
 .obtain ⟨s',rfl⟩:∃ s',x=.str s':=by
   cases b with
   | str s'=>exact ⟨s',rfl⟩
   | _=>exact absurd hn (by decide)
  rw [dw hn];refine ĵ ?_;rfl';exact ⟨a.Ck,_,rfl,.inr (T.Ph H),rfl,rfl,k⟩
 .have e:yiu x=false:=by
   cases b with
   | str s'=>exact absurd rfl hn
   | _=>rfl
  rw [dG hn];rw [e] at k;exact Ę k
theorem yvv:yk ["thing"] ["thing"] (yg yqt):=w4 (by right)
inductive ë (K:W.Frag) (vs:List V) (H:Hp) (Q:VK) (E':XK):Prop
 | mk (x n:_):(vs=[x])->(xx K H x (.type n))->(Q (.bl (plV x)) H)->ë K vs H Q E'
theorem yvl (T:Txt K mg a):wc P w K mg base CX0 2 a.J5 a.J6 ["thing"] (ë K):=by
 exists T.Ew.F.ok,yvv,g;obtain ⟨x,n,rfl,j,k⟩:=h;refine ⟨_,(yf (yv (uv (vd (yis T) (g.mono (by decide)) rfl T.C8.m T.C8.F.kp T.C8.B .nil vh (ya (pv 0) ye (yb rfl))) (ν (η u6 u6 yj (pv 0) (vq rfl T.I8)))))),?_⟩;exists 1,0;rfl';refine ⟨x,n,rfl,j,?_⟩;rfl'
 cases hx:jg x with
 | false =>
  have e:plV x=false:=by
   cases x <;> first | rfl | cases hx
  rw [e] at k;exact Ę k
 | true =>
  obtain ⟨i,rfl⟩:=uo hx;refine ĵ ?_;rfl';refine zd (fun c=>?_) (fun c=>?_)
  .rfl';have e:plV (.int i)=decide (i <= 8):=by simp [plV,c]
   rw [e] at k;exact k
  .have e:plV (.int i)=false:=by simp [plV,c]
   rw [e] at k;exact k
theorem ytk:yk ["thing"] ["thing"] (yg ypt):=w4 (by right)
inductive j3 (K:W.Frag) (vs:List V) (H:Hp) (Q:VK) (E':XK):Prop
 | mk (x b:_):(vs=[x])->(PlB K H x b)->(∀ H',yw H H'->Q (.bl b) H')->j3 K vs H Q E'
theorem yv7 (T:Txt K mg a):wc P w K mg base CX0 3 a.J7 a.J8 ["thing"] (j3 K):=by
 exists T.Ex.F.ok,ytk,hr;obtain ⟨x,b,rfl,hb,k⟩:=h;refine ⟨_,(yh (wu (PW.pt (ć (x3 (x8 (yq wv rfl T.A6 (by right) (ya (pv 0) (ya (zq (T:="tuple") rfl T.Cn (by right)) ye (yb rfl)) (yb rfl))))) (ć (yy yco (yq yt rfl T.Ae (by right) (ya (pv 0) ye (yb rfl))) (vq rfl T.Eh) (vg _)) (Ê (x3 (x8 (yq (z5 rfl) rfl T.Di (by right) (ya (wg (js:=[]) (ys:=[]) rfl (yd7 (pv 0)) (fun C X I W=>(vd (yvl T) (hr.mono (by decide)) rfl T.Ew.m T.Ew.F.kp T.Ew.B .nil vh (ya (pv 0) ye (yb rfl)))) rfl rfl (hyc:=yx) (hrel:=yx)) ye (yb rfl))))))))) (yf (yv ya9)) y9) (yf (yv (yq (z5 rfl) rfl T.Di (by right) (ya (yc9 (js:=[]) (ys:=[]) (xs:=["near","far"]) (g:=ysg K 2 (z9 (xp 0) (z9 (xp 1) ykp))) rfl (yns rfl T.I0 (ya (pv 0) (ya (ue (yu2.or ypk) (pv 0) (zi yj) zg) ye (yb rfl)) (yb rfl))) (fun C X I W=>(jq ych (pv 0) (pv 1) (vg _))) rfl (fun C X I W=>ya4 rfl (w8 (wb (i:=0) (show List.Nodup ((["near","far"]:List Str)++([]:List Str)) by right) rfl (Or.inl rfl)) (w8 (wb (i:=1) (show List.Nodup ((["near","far"]:List Str)++([]:List Str)) by right) rfl (Or.inl rfl)) À))) rfl (hyc:=yx) (hrel:=yx)) ye (yb rfl)))))),?_⟩;exists 1,0;rcases hb with ⟨n,U,hn,rfl⟩ | ⟨t,xs,rfl,J,hl,hy,rfl⟩
 .rfl';refine Ð U (Ö U) ?_;rfl';refine yri hn ?_;rfl';exact k _ (yw.refl _)
 .rfl';refine Ð (.tup J) (Ö (.tup J)) ?_;rfl';refine yp3 rfl ?_;rfl';refine yk7 (SqT.of J) ?_;rfl';unfold zk at k;refine zd (fun h4=>?_) (fun h4=>?_)
  .rw [dG (by omega),Bool.false_and,Bool.false_and] at k;rfl';exact k _ (yw.refl _)
  .rw [dw (by omega),Bool.true_and] at k;rfl';refine ⟨t,rfl,⟨_,SqT.of J⟩,fun D Y=>?_⟩;refine ygn (xs:=xs) (fun v=>.bl (plV v)) (SqT.of J) Y (fun i y I L p f=>?_) (fun I p f=>?_)
   .obtain ⟨n,R⟩:=hy y (dI L);rfl';refine ⟨y,n,rfl,ı p R,?_⟩;exact Mp.done Y (vo (by omega)) L p f rfl
   have e:xs.map (fun v=>V.bl (plV v))=(xs.map plV).map V.bl:=by rw [dX]; rfl
   rw [e] at f;rfl';refine ⟨D,_,rfl,SqL.of f,?_⟩;rw [List.all_map];have ea:xs.all (id ∘ plV)=xs.all plV:=rfl;rw [ea];have c:=p _ _ J
   cases hp:xs.all plV with
   | false =>
    rw [hp,Bool.false_and] at k;rfl';exact k _ p
   | true =>
    rw [hp,Bool.true_and] at k
    have l:∀ y∈xs,∃ i:Int,y=.int i:=fun y hm=>by
     have:=List.all_eq_true.mp hp y hm
     cases y with
     | int i=>exact ⟨i,rfl⟩
     | _=>cases this
    rfl';by_cases hx0:xs=[]
    .refine .inr ⟨t,xs,rfl,SqT.of c,?_,?_⟩
     .subst hx0;exact ⟨rfl,rfl⟩
     .refine ⟨t,t,rfl,⟨_,_,SqT.of c,SqT.of c⟩,fun N d=>?_⟩;refine yhe (xs:=xs) l (by omega) (SqT.of c) (by subst hx0; exact SqT.of c) d (fun i j σ' H' Z h=>?_) (fun H4 S G=>?_)
      .rfl';exact h
      .rfl';exact ⟨N,_,rfl,SqL.of G,k _ (p.trans S)⟩
    .refine .inl ⟨t,xs,rfl,SqT.of c,?_,fun u hu=>?_⟩
     .rintro ⟨z,_⟩
      have e1:HT.sIx xs.length 0 (some 1)=min 1 xs.length:=by
       have:=HT.sIx_nat xs.length 0 1;simpa using this
      rw [e1] at z
      cases xs with
      | nil=>exact hx0 rfl
      | cons x r=>simp at z
     .rw [yol];have M:=y8 (o:=(HO.tup xs.tail)) hu;have q:upd I u (HO.tup xs.tail) u=some (HO.tup xs.tail):=yc;generalize upd I u (HO.tup xs.tail)=H3 at M q ⊢;refine ⟨t,u,rfl,⟨_,_,SqT.of (M _ _ c),SqT.of q⟩,fun N d=>?_⟩;refine yhe (xs:=xs) l (by omega) (SqT.of (M _ _ c)) (SqT.of q) d (fun i j σ' H' Z h=>?_) (fun H4 S G=>?_)
      .rfl';exact h
      .rfl';exact ⟨N,_,rfl,SqL.of G,k _ (p.trans (M.trans S))⟩
theorem yur:yk ["thing"] ["thing"] (yg yql):=w4 (by right)
inductive Ğ (K:W.Frag) (vs:List V) (H:Hp) (Q:VK) (E':XK):Prop
 | mk (x b:_):(vs=[x])->(LkB K H x b)->(∀ H',yw H H'->Q (.bl b) H')->Ğ K vs H Q E'
theorem yk3 (T:Txt K mg a):wc P w K mg base CX0 4 a.J9 a.Ja ["thing"] (Ğ K):=by
 exists T.Cq.F.ok,yur,i;obtain ⟨x,b,rfl,d,k⟩:=h;refine ⟨_,(yf (yv (uv (yq wv rfl T.A6 (by right) (ya (pv 0) (ya (zq (T:="tuple") rfl T.Cn (by right)) ye (yb rfl)) (yb rfl))) (uv (jq uk (yq yt rfl T.Ae (by right) (ya (pv 0) ye (yb rfl))) yj (vg _)) (uv (vd (ys8 T) (i.mono (by decide)) rfl T.Ev.m T.Ev.F.kp T.Ev.B .nil vh (ya (xf ug (pv 0) yj (fun _ _=>rfl)) ye (yb rfl))) (ν (vd (yv7 T) (i.mono (by decide)) rfl T.Ex.m T.Ex.F.kp T.Ex.B .nil vh (ya (xf ug (pv 0) yj (fun _ _=>rfl)) ye (yb rfl))))))))),?_⟩;exists 1,0;rcases d with ⟨n,e,l,rfl⟩ | ⟨t,r,rfl,c,d⟩
 .rfl';refine Ð e (Ö e) ?_;rfl';rw [dG l];exact Ę (k _ (yw.refl _))
 .rfl';refine Ð (.tup c) (Ö (.tup c)) ?_;rfl';refine Ţ rfl ?_;rfl';refine yk7 (SqT.of c) ?_;rfl';rcases d with ⟨u,rfl⟩ | ⟨y,z,n,rfl,e,d⟩
  .rw [dG (show ¬ ((r.length:Int)=2) by omega)];exact Ę (k _ (yw.refl _))
  .refine Ţ rfl ?_;rfl';refine Ė (SqT.of c) (vw (j:=0) rfl) ?_;rfl';refine ⟨y,n,rfl,e,?_⟩;rcases d with ⟨g,rfl⟩ | ⟨g,q⟩
   .rw [g];rfl';exact k _ (yw.refl _)
   .rw [g];rfl';refine Ė (SqT.of c) (vw (j:=1) rfl) ?_;rfl';exact ⟨z,b,rfl,q,k⟩
theorem yvi:yk ["thing"] ["thing"] (yg ypw):=w4 (by right)
def yfy (K:W.Frag) (C:Addr):Sp:=fun vs H Q E=>(∃ x n,vs=[x]/\xx K H x (.type n)/\n≠"list"/\E (.ref C) none H) \/
 ∃ (l:Addr) (xs:List V) (bs:List Bool),vs=[.ref l]/\H l=some (.lst xs)/\xs.length <= 1000/\vae K H xs bs /\
  ((1 <= xs.length/\xs.length <= 6/\bs.all id=true)->∀ r H',H r=none->H' r=some (.lst xs)->yw H H'->Q (.ref r) H') /\
  (¬ (1 <= xs.length/\xs.length <= 6/\bs.all id=true)->∀ H',yw H H'->E (.ref C) none H')
theorem ymh (T:Txt K mg a):wc P w K mg base (CXe P w) 5 a.Jb a.Jc ["thing"] (yfy K a.Fr):=by
 refine T.Cr.F.okE yvi (fun U H Q E h=>?_) (fun S A G s H U Q E M h=>?_)
 .rcases h with ⟨x,n,rfl,_⟩ | ⟨l,xs,f,rfl,_⟩
  .rfl
  .rfl
 .rcases h with ⟨x,n,rfl,I,O,k⟩ | ⟨l,xs,e,rfl,d,hz,v,Z,t⟩
  .refine ⟨_,(yh (wu (PW.pt (ć (x3 (x8 (yq wv rfl T.A6 (by right) (ya (pv 0) (ya (zq (T:="list") rfl T.Ao (by right)) ye (yb rfl)) (yb rfl))))) (ć (x3 (Ő u6 u6 yj (yq yt rfl T.Ae (by right) (ya (pv 0) ye (yb rfl))) (vq rfl T.D7))) (Ê (x3 (x8 (yq (z5 rfl) rfl T.Di (by right) (ya (wg (js:=[]) (ys:=[]) rfl (wd (pv 0)) (fun C X q W=>(vd (yk3 T) (M.mono (by decide)) rfl T.Cq.m T.Cq.F.kp T.Cq.B .nil vh (ya (pv 0) ye (yb rfl)))) rfl rfl (hyc:=yx) (hrel:=yx)) ye (yb rfl))))))))) (yf (xb rfl T.Qe T.Pe (ya w6 ye (yb rfl)))) y9) (yf (yv (xn xm rfl T.Ao (by right) (ya (pv 0) ye (yb rfl)))))),?_⟩;refine ym (σ':=[some _]) rfl ?_;rfl';refine Ð I (ycs I) ?_;rfl';refine yri O ?_;rfl';exact ⟨by walk_at "len",k⟩
  .refine ⟨_,(yh (wu (PW.pt (ć (x3 (x8 (yq wv rfl T.A6 (by right) (ya (pv 0) (ya (zq (T:="list") rfl T.Ao (by right)) ye (yb rfl)) (yb rfl))))) (ć (x3 (Ő u6 u6 yj (yq yt rfl T.Ae (by right) (ya (pv 0) ye (yb rfl))) (vq rfl T.D7))) (Ê (x3 (x8 (yq (z5 rfl) rfl T.Di (by right) (ya (wg (js:=[]) (ys:=[]) rfl (wd (pv 0)) (fun C X q W=>(vd (yk3 T) (M.mono (by decide)) rfl T.Cq.m T.Cq.F.kp T.Cq.B .nil vh (ya (pv 0) ye (yb rfl)))) rfl rfl (hyc:=yx) (hrel:=yx)) ye (yb rfl))))))))) (yf (xb rfl T.Qe T.Pe (ya w6 ye (yb rfl)))) y9) (yf (yv (xn xm rfl T.Ao (by right) (ya (pv 0) ye (yb rfl)))))),?_⟩;refine ym (σ':=[some _]) rfl ?_;rfl';refine Ð (.lst d) (ycs (.lst d)) ?_;rfl';refine yp3 rfl ?_;rfl';refine zr (SqL.of d) ?_;rfl';refine zd (fun R=>?_) (fun R=>?_)
   .rfl';refine ynb (fun Y=>?_) (fun Y=>?_)
    .rfl';refine ⟨l,rfl,⟨_,SqL.of d⟩,fun D N=>?_⟩;refine ur (K:=K) (xs:=xs) (Mp H D (fun i=>V.bl ((e[i]?).getD false))) (Mp.zero N) (fun _ _ _ p=>p.1.seq (SqL.of d)) (fun i y q u L p=>?_) (fun q p=>?_)
     .obtain ⟨c,b⟩:=p;have g:i < e.length:=by rw [<- v.1]; exact L
      rfl';refine ⟨y,e[i],rfl,(v.2 i y _ u (df g)).same c,fun H3 J=>?_⟩;refine Mp.doneR N (vo (by omega)) L (c.trans J) (J _ _ b) ?_;rw [df g];rfl
     obtain ⟨c,b⟩:=p;rw [yja e v.1] at b;rfl';refine ⟨D,_,rfl,SqL.of b,?_⟩;have o:=c _ _ d
     cases hp:e.all id with
     | false =>
      rfl';exact ⟨by walk_at "len",t (by rw [hp]; rintro ⟨_,_,z⟩; cases z) _ c⟩
     | true =>
      rfl';refine yj2 (SqL.of o) fun r j=>?_;exact Z ⟨by omega,by omega,hp⟩ r _ (c.free j) yc (c.trans (y8 j))
    .rfl';exact ⟨by walk_at "len",t (by omega) _ (yw.refl _)⟩
   .rfl';exact ⟨by walk_at "len",t (by omega) _ (yw.refl _)⟩
theorem yst:yk ["signs","place"] ["signs","place"] (yg yq2):=w4 (by right)
inductive yc8 (K:W.Frag) (vs:List V) (H:Hp) (Q:VK) (E':XK):Prop
 | mk (l:Addr) (sg:List Int) (p:Int):(vs=[.ref l,.int p])->(SqL K H l (sg.map V.int))->(1 <= p)->(Q (.int (ync sg p)) H)->yc8 K vs H Q E'
theorem yt7 (T:Txt K mg a):wc P w K mg base CX0 1 a.Jd a.Je ["signs","place"] (yc8 K):=by
 exists T.Ey.F.ok,yst,n;obtain ⟨l,m,p,rfl,f,j,k⟩:=h;refine ⟨_,(yf (yv (ζ (yy u6 (pv 1) (yq yt rfl T.Ae (by right) (ya (pv 0) ye (yb rfl))) (vg _)) (xf wj (pv 0) (yrh yhv (pv 1)) (fun _ _=>rfl)) (vq rfl T.Ni)))),?_⟩;exists 2,0;rfl';refine zr f ?_;rw [cH];rfl';unfold ync at k;refine zd (fun b=>?_) (fun b=>?_)
 .rw [if_pos b] at k;obtain ⟨c,e,_⟩:=yje j b;rw [e] at k;rfl';exact ua f (by rw [yop,e]; rfl) k
 .rw [if_neg b] at k;rfl';exact k
theorem yuu:yk ["look","signs","node"] ["look","signs","node"] (yg yqe):=w4 (by right)
def u8 (K:W.Frag) (H:Hp) (k:Addr) (x:V) (ps:List Int):Prop:=∃ t,SqT K H k [x,.ref t]/\SqT K H t (ps.map V.int)/\(∀ p∈ps,1 <= p/\p <= 8)/\ps.length <= 4
theorem u8.same {H H':Hp} {k:Addr} {x:V} {ps:List Int} (S:yw H H') (h:u8 K H k x ps):u8 K H' k x ps:=by
 obtain ⟨t,d,b,a,c⟩:=h;exact ⟨t,S.tup d,S.tup b,a,c⟩
def ctx (ps sg:List Int) (nd:Int):List Int:=ps.map (ync sg)++[nd]
def bkV (sg:List Int):V->V
 | .int p=>.int (ync sg p)
 | _=>.non
theorem yni (sg ps:List Int):(ps.map V.int).map (bkV sg)=(ps.map (ync sg)).map V.int:=by
 rw [dX,dX];rfl
inductive ĩ (K:W.Frag) (vs:List V) (H:Hp) (Q:VK) (E':XK):Prop
 | mk (k l:Addr) (x:V) (ps sg:List Int) (nd:Int):(vs=[.ref k,.ref l,.int nd])->(u8 K H k x ps)->(SqL K H l (sg.map V.int))->(∀ r H',H r=none->H' r=some (.tup ((ctx ps sg nd).map V.int))->yw H H'->Q (.ref r) H')->ĩ K vs H Q E'
theorem yt0 (T:Txt K mg a):wc P w K mg base CX0 2 a.Jf a.Jg ["look","signs","node"] (ĩ K):=by
 exists T.Ez.F.ok,yuu,U;obtain ⟨X,l,x,f,q,L,rfl,⟨t,R,J,v,W⟩,O,k⟩:=h;refine ⟨_,(yf (yv (xn j4 rfl T.Cn (by right) (ya (yr ys0 (wg (js:=[1]) (ys:=["signs"]) rfl (yd7 (xf ug (pv 0) yj (fun _ _=>rfl))) (fun C Z z Y=>(vd (yt7 T) (U.mono (by decide)) rfl T.Ey.m T.Ey.F.kp T.Ey.B .nil vh (ya (pv 1) (ya (pv 0) ye (yb rfl)) (yb rfl)))) rfl rfl (hyc:=(all_cons rfl yx)) (hrel:=(all_cons rfl yx))) (wq (ya (pv 2) ye (yb rfl)))) ye (yb rfl))))),?_⟩;exists 3,0;rfl';refine Ė R (vw (j:=1) rfl) ?_;refine ⟨t,rfl,⟨_,J⟩,fun D I=>?_⟩;have g:(f.map V.int).length < sizeLine:=vo (by rw [cH]; omega);refine ę (xs:=f.map V.int) (bkV q) J I (fun i y z G e b=>?_) (fun z e b=>?_)
 .obtain ⟨p,rfl,u,_,_⟩:=jf G;rfl';refine ⟨l,q,p,rfl,e.seq O,(v p u).1,?_⟩;exact Mp.done I g G e b rfl
 .rw [yni] at b;rfl';refine ⟨by walk_at "len",fun n hn=>?_⟩
  with_reducible first | refine y6 hn fun H3 S3 hn3=>?_ | refine vi hn fun H3 S3 hn3=>?_
  refine ⟨D,n,_,_,rfl,rfl,S3 _ _ b,hn3,yb7 (by rw [cH,cH]; show _+1 <= _; omega),fun c hc=>?_⟩
  with_reducible first | refine y6 hc fun H4 S4 hc4=>?_ | refine vi hc fun H4 S4 hc4=>?_
  refine ⟨c,_,rfl,.inl ⟨SqL.of hc4,fun r d=>?_⟩⟩;have S:=e.trans (S3.trans S4);refine k r _ (S.free d) (yc.trans ?_) (S.trans (y8 d));unfold ctx;rw [dF];rfl
theorem ysj:yk ["self","look"] ["self","look"] (yg yqi):=w4 (by right)
inductive ſ (a:Ads) (vs:List V) (H:Hp) (Q:VK) (E':XK):Prop
 | mk (p dx lk:Addr) (kd:Fin 3):(vs=[.ref p,.ref lk])->(H p=some (.ins a.Aa dx []))->(∀ d H',H d=none->Ó a H' p dx lk d kd (fun _=>none) (fun b=>b=d) 0->But p H H'->Q .non H')->ſ a vs H Q E'
theorem ysu (T:Txt K mg a):wc P w K mg base CX0 1 a.Gm a.Jh ["self","look"] (ſ a):=by
 exists T.F0.F.ok,ysj,D;obtain ⟨p,i,j,t,rfl,x,k⟩:=h;refine ⟨_,(yh (ve (pv 0) (pv 1) rfl) (yf (ve (pv 0) yka rfl))),?_⟩;exists 2,0;rfl';intro d l
 have f:H d=none:=by
  cases e:H d with
  | none=>rfl
  | some o =>
   by_cases z:d=p
   .rw [z,yc] at l; cases l
   .rw [yn z,e] at l; cases l
 have c:d≠p:=fun z=>by rw [z,x] at f; cases f
 have q:=zh (o':=HO.dT []) l (show upd H p (HO.ins a.Aa i ([("look",V.ref j)]:List (Str × V))) p=some (HO.ins a.Aa i ([("look",V.ref j)]:List (Str × V))) from yc);have g:upd (upd H p (HO.ins a.Aa i ([("look",V.ref j)]:List (Str × V)))) d (.dT []) d=some (.dT []):=yc;have r:But p H (upd (upd H p (HO.ins a.Aa i ([("look",V.ref j)]:List (Str × V)))) d (.dT [])):=fun b o e n=>by rw [yn (yd e f),yn n]; exact e
 generalize upd (upd H p (HO.ins a.Aa i ([("look",V.ref j)]:List (Str × V)))) d (.dT [])=C at q g r ⊢;rfl'
 refine k d _ f ⟨yc,fun b y=>⟨HO.dT [],by cases y; exact yi c g,rfl⟩,fun z=>c z.symm,rfl,fun B e=>(by cases (yi c g).symm.trans e; exact ⟨List.nodup_nil,fun _ z=>(nomatch z)⟩),[],fun _=>(0,0),yi c g,dh _,fun _ _=>rfl,fun _ _ z=>(nomatch z),fun _ _ _ _ z=>(nomatch z)⟩ (r.trans But.upd)
theorem ylq:yk ["self","signs","node","context"] ["self","signs","node"] (yg yq9):=w4 (by right)
inductive yal (K:W.Frag) (a:Ads) (vs:List V) (H:Hp) (Q:VK) (E':XK):Prop
 | mk (p dx lk d sl:Addr) (kd:Fin 3) (f:List Int->Option Slt) (O:Addr->Prop) (m:Nat) (ps sg:List Int) (nd:Int):(vs=[.ref p,.ref sl,.int nd])->(Ó a H p dx lk d kd f O m)->(m < 1000000)->(u8 K H lk (.str (kdS kd)) ps)->(SqL K H sl (sg.map V.int))->(∀ (q:Addr) (O':Addr->Prop) (H':Hp),Ó a H' p dx lk d kd (Ť f (ctx ps sg nd) ((f (ctx ps sg nd)).getD (kd0 kd))) O' (m+1)->(∀ kvs,H' d=some (.dT kvs)->uw kvs (kI (ctx ps sg nd))=some (.ref q))->(∀ c,O' c->O c\/H c=none)->(∀ c,O c->O' c)->ykr O H H'->Q (.ref q) H')->yal K a vs H Q E'
theorem ys7 (T:Txt K mg a):wc P w K mg base CX0 4 a.Ji a.Jj ["self","signs","node"] (yal K a):=by
 exists T.Hd.F.ok,ylq,hr;obtain ⟨p,dx,lk,d,sl,I,f,O,m,ps,sg,Z,rfl,hb,hm,hl,hs,k⟩:=h;have ae:=hb.me;refine ⟨_,(yh (y7 (i:=3) ylq.nd rfl (Or.inl rfl) (vd (yt0 T) (hr.mono (by decide)) rfl T.Ez.m T.Ez.F.kp T.Ez.B .nil vh (ya (yp (pv 0) rfl) (ya (pv 1) (ya (pv 2) ye (yb rfl)) (yb rfl)) (yb rfl)))) (yh (jc (wu (yh3 (yac (Å hr) (pv 3) (yp (pv 0) rfl))) (yf (yg4 (Å hr) (yp (pv 0) rfl) (pv 3) (vd (yv9 T) (hr.mono (by decide)) rfl T.Eu.m T.Eu.F.kp T.Eu.B .nil vh (ya (xf ug (yp (pv 0) rfl) yj (fun _ _=>rfl)) ye (yb rfl))) rfl)) y9)) (yf (yv (zj (Å hr) (yp (pv 0) rfl) (pv 3) (fun _ _=>rfl)))))),?_⟩;exists 3,1;rfl';refine ⟨lk,sl,_,ps,sg,Z,rfl,hl,hs,fun r H1 ac a7 S1=>?_⟩;have l:H1 r=some (.tup ((kI (ctx ps sg Z)).map kV)):=by rw [yv3]; exact a7
 generalize ctx ps sg Z=b at l k;have g:=hb.same S1;have D:=g.me;rfl';refine yir (fun σ' H'=>σ'=[some (.ref p),some (.ref sl),some (.int Z),some (.ref r)]/\∃ Y,Ó a H' p dx lk d I (Ť f b ((f b).getD (kd0 I))) Y (m+1)/\(∀ c,Y c->O c\/H c=none)/\(∀ c,O c->Y c)/\ykr O H H'/\H' r=some (.tup ((kI b).map kV))) ?_ ?_
 .obtain ⟨M,n,G,h2,W,R,h5⟩:=g.tb;rfl';refine ⟨d,_,rfl,ĉ.t G l,?_⟩
  cases hf:f b with
  | none =>
   rw [W b hf];rfl';refine ĵ ?_;rfl';obtain ⟨t,a4,ab,_,_⟩:=hl;refine Ė (S1.tup a4) (vw (j:=0) rfl) ?_;rfl';refine ⟨I,rfl,fun q dq H2 u a0 J=>?_⟩;rfl';have N:=J _ _ D;rfl';refine ⟨d,_,rfl,yku.t (J _ _ G) (J _ _ l) (vo (by omega)),?_⟩;have a8:=S1.trans J;have a1:q≠d:=fun z=>by rw [z,G] at u; cases u
   have a6:p≠d:=fun z=>g.np (z ▸ g.dO);rfl';refine ⟨rfl,fun c=>O c\/c=q,⟨yi a6 N,fun c v=>?_,fun z=>?_,.inl g.dO,yr8.snoc (g.ky M G) (W b hf) yc,Ý M (kI b) (.ref q),fun j=>if j=b then (q,dq) else n j,yc,?_,fun j L=>?_,fun j s' L=>?_,fun j1 X s1 s2 e1 e2 y=>?_⟩,fun c v=>?_,fun c v=>.inl v,fun c o e no=>?_,yi (xh (J _ _ l) (J _ _ G) (by intro z; cases z)) (J _ _ l)⟩
   .rcases v with v | rfl
    .obtain ⟨o,ho,hi⟩:=g.own c v;by_cases z:c=d
     .rw [z];exact ⟨_,yc,rfl⟩
     .exact ⟨o,yi z (J _ _ ho),hi⟩
    .obtain ⟨C,fs,eo⟩:=Ĵ a dq (kd0 I);exact ⟨_,yi a1 a0,by rw [eo]; rfl⟩
   .rcases z with z | z
    .exact g.np z
    .rw [z] at D;rw [D] at u;cases u
   .rw [Û _ (W b hf),dv];show _+1 <= m+1;omega
   .unfold Ť at L
    split at L
    .cases L
    .rename_i hne
     rw [ő,if_neg fun z=>hne (ymn z)];exact W j L
   .unfold Ť at L
    split at L
    .rename_i he
     subst he;cases L;dsimp only;rw [if_pos rfl,ő,if_pos rfl];exact ⟨rfl,yi a1 a0,ymk I,yjf I,.inr rfl⟩
    .rename_i hne
     obtain ⟨U,x,q3,q4,q5⟩:=R j s' L;dsimp only;rw [if_neg hne,ő,if_neg fun z=>hne (ymn z)]
     have a3:(n j).1≠d:=by
      obtain ⟨C,fs,eo⟩:=Ĵ a (n j).2 s';rw [eo] at x;exact xh x G (by intro z; cases z)
     exact ⟨U,yi a3 (J _ _ x),q3,q4,.inl q5⟩
   .unfold Ť at e1 e2;dsimp only at y;by_cases z1:j1=b
    .by_cases z2:X=b
     .rw [z1,z2]
     .rw [if_neg z2] at e2;rw [if_pos z1,if_neg z2] at y;obtain ⟨_,x,_⟩:=R X s2 e2;have y:q=(n X).1:=y;rw [<- y,u] at x;cases x
    .rw [if_neg z1] at e1;by_cases z2:X=b
     .rw [if_neg z1,if_pos z2] at y;obtain ⟨_,x,_⟩:=R j1 s1 e1;have y:(n j1).1=q:=y;rw [y,u] at x;cases x
     .rw [if_neg z2] at e2;rw [if_neg z1,if_neg z2] at y;exact h5 j1 X s1 s2 e1 e2 y
   .rcases v with v | rfl
    .exact .inl v
    .exact .inr (S1.free u)
   .exact yi (fun z=>no (z ▸ g.dO)) (a8 _ _ e)
  | some s' =>
   obtain ⟨U,x,q3,q4,q5⟩:=R b s' hf;rw [U];rfl';refine ⟨rfl,O,?_,fun c v=>.inl v,fun c v=>v,fun c o e _=>S1 _ _ e,l⟩
   have ef:Ť f b ((some s').getD (kd0 I))=f:=by
    funext j
    unfold Ť
    split
    .rename_i z
     rw [z,hf];rfl
    .rfl
   rw [ef];exact ⟨g.me,g.own,g.np,g.dO,g.ky,M,n,G,Nat.le_succ_of_le h2,W,R,h5⟩
 .rintro σ' H2 ⟨rfl,Y,S,hO,hM,B2,a2⟩;have N:=S.me;obtain ⟨M,n,G,h2,W,R,h5⟩:=id S.tb;have a9:Ť f b ((f b).getD (kd0 I)) b=some ((f b).getD (kd0 I)):=by unfold Ť; rw [if_pos rfl]
  obtain ⟨U,x,q3,q4,q5⟩:=R b _ a9;rfl';refine ⟨d,_,rfl,by rw [<- U]; exact ĉ.t G a2,?_⟩;exact k (n b).1 Y H2 S (fun aa e=>by rw [G] at e; cases e; exact U) hO hM B2
theorem yw5:yk ["self","many"] ["self","many"] (yg yps):=w4 (by right)
theorem ywg (T:Txt K mg a):wc P w K mg base CX0 1 a.Gn a.Jk ["self","many"] (ydp a):=by
 exists T.F7.F.ok,yw5,m;obtain ⟨p,j,n,rfl,o,q,e,k⟩:=h;refine ⟨_,(yf (ve (pv 0) (yr yky (wq (ya (vq rfl T.Ea) ye (yb rfl))) (pv 1)) rfl)),?_⟩;exists 2,0;rfl';refine ⟨by walk_at "len",fun r hr0=>?_⟩
 with_reducible first | refine y6 hr0 fun H1 S1 e1=>?_ | refine vi hr0 fun H1 S1 e1=>?_
 rfl';refine ⟨r,n,_,rfl,rfl,e1,by omega,by omega,yb7 (by show 1 * (n:Int).toNat <= 16000000; omega),fun l hl=>?_⟩;rw [yf2]
 with_reducible first | refine y6 hl fun H2 S2 e2=>?_ | refine vi hl fun H2 S2 e2=>?_
 have b:=S1.trans S2;have i:=b _ _ e;rfl';have d:l≠p:=fun z=>by rw [z,S1 _ _ e] at hl; cases hl
 exact k l _ (S1.free hl) ⟨yc,yi d e2⟩ ((But.of b).trans But.upd)
theorem ysp:yk ["self","chances"] ["self","chances"] (yg yqw):=w4 (by right)
theorem yup (T:Txt K mg a):wc P w K mg base CX0 1 a.Jl a.Jm ["self","chances"] (yaa K a):=by
 exists T.He.F.ok,ysp,hr;obtain ⟨p,dx,l,c,z,J,n,rfl,n1,S,e,hc,⟨hp,I⟩,N,k⟩:=h;refine ⟨_,(yf (yv (yr vy (yq (ε rfl) rfl T.E9 (by right) (ya (yc9 (js:=[]) (ys:=[]) (xs:=["weight","chance"]) (g:=ysg K 2 (z9 (xp 0) (z9 (xp 1) ykp))) rfl (ymd rfl T.I0 (ya (yp (pv 0) rfl) (ya (pv 1) ye (yb rfl)) (yb rfl))) (fun C s2 f fp=>(yr xa (pv 0) (pv 1))) rfl (fun C s2 f fp=>ya4 rfl (w8 (wb (i:=0) (show List.Nodup ((["weight","chance"]:List Str)++([]:List Str)) by right) rfl (Or.inl rfl)) (w8 (wb (i:=1) (show List.Nodup ((["weight","chance"]:List Str)++([]:List Str)) by right) rfl (Or.inl rfl)) À))) rfl (hyc:=yx) (hrel:=yx)) ye (yb rfl))) (yq (ε rfl) rfl T.E9 (by right) (ya (yp (pv 0) rfl) ye (yb rfl)))))),?_⟩;exists 2,0;have d:J.length=z.length:=by rw [e.len,hc.len]
 rfl';refine ⟨l,c,rfl,⟨_,_,SqL.of I,N⟩,fun D O=>?_⟩;refine ĥ (fun i=>V.int ((z[i]?).getD 0 * (J[i]?).getD 0)) (SqL.of I) N (by rw [cH,cH,d]) O (fun i x y f G W hx Z j b q r=>?_) (fun f j b=>?_)
 .obtain ⟨Y,R,rfl⟩:=yig r;obtain ⟨w,rfl,L,wi,il⟩:=jf hx;obtain ⟨u,rfl,um,U,_⟩:=jf Z;have w1:=e.one w L;have w2:=e.top w L;have M:=j.trans (y8 (o:=HO.tup [V.int w,V.int u]) q);have t:=zh (o':=HO.tup [V.int w,V.int u]) q b;have m:upd f G (HO.tup [V.int w,V.int u]) G=some (.tup [V.int w,V.int u]):=yc;generalize upd f G (HO.tup [V.int w,V.int u])=H3 at M t m;refine ya0 (SqT.of m) rfl ?_;show z9 (xp 0) (z9 (xp 1) ykp) [V.int w,V.int u] (Y :: R :: xg [] [some (V.ref p),some (V.ref c)]) H3 _;rfl';refine ⟨⟨[some (.int w),some (.int u)],rfl,rfl⟩,?_⟩;rfl';refine Mp.doneR O (vo (by rw [cH,e.len]; omega)) (by rw [cH]; exact il) M t ?_;rw [wi,U];rfl
 .have b:=yc4 b (yml (g:=fun w c=>w * c) d);have X:=j _ _ hp;have v:=j _ _ I;have p1:=e.pos n1;have p2:=e.small S;rfl';refine ⟨D,_,rfl,SqL.of b,?_⟩;rfl';refine ⟨l,_,rfl,SqL.of v,?_⟩;rfl';exact k _ j
theorem İ:yk ["self","chances","bit","shares","whole","own","grown","dropped"] ["self","chances","bit"] (yg yqs):=w4 (by right)
theorem yvt (T:Txt K mg a):wc P w K mg base (CXe P w) 5 a.Jn a.Jo ["self","chances","bit"] (ų K a a.Bx):=by
 exists T.Hf.F.okE,İ,hr;obtain ⟨p,dx,l,c,r,J,n,x,m,rfl,n1,n6,Y,hc,⟨hp,hl⟩,hq,ty,k1,k2⟩:=h;refine yo (yu (vj (Ą T) (hr.mono (by decide)) rfl T.Aj.m T.Aj.F.kp T.Aj.B .nil yz (ya (pv 2) ye (yb rfl)))) ?_;refine yo (yj1 (i:=3) (js:=[2]) (ys:=["bit"]) (xs:=["weight","chance"]) (g:=ysg K 2 (z9 (xp 0) (z9 (xp 1) ykp))) İ.nd rfl rfl rfl (ymd rfl T.I0 (ya (yp (pv 0) rfl) (ya (pv 1) ye (yb rfl)) (yb rfl))) (fun C s2 L fp=>(yr xa (pv 0) (vj (yty T) (hr.mono (by decide)) rfl T.Ep.m T.Ep.F.kp T.Ep.B .nil vt (ya (pv 1) (ya (pv 2) ye (yb rfl)) (yb rfl))))) rfl (fun C s2 L fp=>ya4 rfl (w8 (wb (i:=0) (show List.Nodup ((["weight","chance"]:List Str)++(["bit"]:List Str)) by right) rfl (Or.inl rfl)) (w8 (wb (i:=1) (show List.Nodup ((["weight","chance"]:List Str)++(["bit"]:List Str)) by right) rfl (Or.inl rfl)) À))) rfl (hyc:=(all_cons rfl yx)) (hrel:=(all_cons rfl yx))) ?_;refine yo (y7 (i:=4) İ.nd rfl (Or.inr rfl) (yq (ε rfl) rfl T.E9 (by right) (ya (pv 3) ye (yb rfl)))) ?_;refine yo (y7 (i:=5) İ.nd rfl (Or.inr rfl) (yr xa (vq rfl T.I1) (yq yt rfl T.Ae (by right) (ya (pv 3) ye (yb rfl))))) ?_;refine yo (yjl (i:=6) (js:=[4,5]) (ys:=["whole","own"]) İ.nd rfl rfl rfl (wd (pv 3)) (fun C s2 L fp=>(yr wx (yr xa (pv 2) (pv 0)) (pv 1))) rfl rfl (hyc:=(all_cons rfl (all_cons rfl yx))) (hrel:=(all_cons rfl (all_cons rfl yx)))) ?_;refine yo (y7 (i:=7) İ.nd rfl (Or.inr rfl) (yq (ø rfl) rfl T.Hz (by right) (ya (yr uu (yd2 PySem.F.plainAttrs_int PySem.F.slot_int_bit_length PySem.F.type_int_bit_length yng (yq (ε rfl) rfl T.E9 (by right) (ya (pv 6) ye (yb rfl)))) (vq rfl T.Eb)) (ya yj ye (yb rfl)) (yb rfl)))) ?_;refine ⟨_,(yf (ve (pv 0) (wg (js:=[7]) (ys:=["dropped"]) rfl (wd (pv 6)) (fun C s2 L fp=>(yr ylx (pv 0) (pv 1))) rfl rfl (hyc:=(all_cons rfl yx)) (hrel:=(all_cons rfl yx))) rfl)),?_⟩;exists 3,5;have j:J.length=r.length:=by rw [Y.len,hc.len]
 rfl';refine ⟨x,m,rfl,ty,fun hx=>?_,k2⟩;obtain ⟨b,rfl,b0,b1⟩:=yd6 hx;have k:=k1 b rfl b0 b1;rfl';refine ⟨l,c,rfl,⟨_,_,SqL.of hl,hq⟩,fun D hD=>?_⟩;refine ĥ (fun i=>V.int ((r[i]?).getD 0 * giv ((J[i]?).getD 0) b)) (SqL.of hl) hq (by rw [cH,cH,j]) hD (fun i x y L tt a9 hx R S d a0 a2=>?_) (fun L S d=>?_)
 .obtain ⟨v1,v2,rfl⟩:=yig a2;obtain ⟨w,rfl,wm,wi,il⟩:=jf hx;obtain ⟨u,rfl,um,ui,_⟩:=jf R;have w1:=Y.one w wm;have w2:=Y.top w wm;have a5:=yd1 (ywc hc um);have a4:=ycg b0 b1;have M:=S.trans (y8 (o:=HO.tup [V.int w,V.int u]) a0);have a3:=zh (o':=HO.tup [V.int w,V.int u]) a0 d;have X:upd L tt (HO.tup [V.int w,V.int u]) tt=some (.tup [V.int w,V.int u]):=yc;generalize upd L tt (HO.tup [V.int w,V.int u])=H3 at M a3 X;refine ya0 (SqT.of X) rfl ?_;show z9 (xp 0) (z9 (xp 1) ykp) [V.int w,V.int u] (v1 :: v2 :: xg [2] [some (V.ref p),some (V.ref c),some (V.int b),none,none,none,none,none]) H3 _;rfl';refine ⟨⟨[some (.int w),some (.int u)],rfl,rfl⟩,?_⟩;rfl';refine ⟨.int u,_,.int b,_,rfl,.int u,.int b,fun z=>(by rw [a5] at z; cases z),fun _ z=>(by rw [a4] at z; cases z),fun c' b' ec eb _ _=>?_⟩;cases ec;cases eb;rfl';refine Mp.doneR hD (vo (by rw [cH,Y.len]; omega)) (by rw [cH]; exact il) M a3 ?_;rw [wi,ui];rfl
 .have d:L D=some (.lst ((shL r J b).map V.int)):=yc4 d (yml (g:=fun w c=>w * giv c b) j);have q:(shL r J b).length=n:=by rw [yb3 j.symm,Y.len]
  have a7:=S _ _ hp;have ek:lrn r J b=(grL (shL r J b)).map fun v=>v / 2 ^ tOf (grL (shL r J b)).sum:=rfl;rw [ek] at k;generalize shL r J b=N at d q k;have eg:grL N=N.map fun s=>31 * (n:Int) * s+N.sum:=by rw [<- q]; rfl
  rfl';refine ⟨D,_,rfl,SqL.of d,?_⟩;rfl';refine zr (SqL.of d) ?_;rw [cH,q];rfl';refine ⟨D,rfl,⟨_,SqL.of d⟩,fun G hG=>?_⟩;refine ê (onI fun s=>31 * (n:Int) * s+N.sum) (SqL.of d) hG (fun i y H3 R M f=>?_) (fun H3 M f=>?_)
  .obtain ⟨s',rfl,_,_,il⟩:=jf R;show tOp _ _ _ (some (V.int s') :: xg [4,5] [some (V.ref p),some (V.ref c),some (V.int b),some (V.ref D),some (V.int N.sum),some (V.int (31 * (n:Int))),none,none]) H3 _;rfl';exact Mp.done hG (vo (by rw [cH,q]; omega)) R M f rfl
  .rw [yg9,<- eg] at f;have a1:(grL N).length=n:=by rw [yhb,q]
   generalize grL N=O at f k a1;have W:=M _ _ a7;rfl';refine ⟨G,_,rfl,SqL.of f,?_⟩;rfl';refine ⟨_,_,rfl,?_⟩
   have et:(if (0:Int) > ((Builtin.Int.intBits O.sum:Nat):Int) - 48 then (0:Int) else ((Builtin.Int.intBits O.sum:Nat):Int) - 48)=((tOf O.sum:Nat):Int):=by
    show _=(((ykm O.sum) - 48:Nat):Int);have e:Builtin.Int.intBits O.sum=ykm O.sum:=rfl;rw [e]
    split <;> omega
   rw [et];generalize tOf O.sum=t at k;rfl';refine ⟨G,rfl,⟨_,SqL.of f⟩,fun Z U=>?_⟩;refine ê (onI fun v=>v / 2 ^ t) (SqL.of f) U (fun i y H4 R S4 I=>?_) (fun H4 S4 I=>?_)
   .obtain ⟨s',rfl,_,_,il⟩:=jf R;show tOp _ _ _ (some (V.int s') :: xg [7] [some (V.ref p),some (V.ref c),some (V.int b),some (V.ref D),some (V.int N.sum),some (V.int (31 * (n:Int))),some (V.ref G),some (V.int (t:Int))]) H4 _;rfl';refine i_I (Int.natCast_nonneg t) ?_;exact Mp.done U (vo (by rw [cH,a1]; omega)) R S4 I rfl
   .rw [yg9] at I;have ab:=S4 _ _ W;rfl';have nz:Z≠p:=fun z=>by rw [z,W] at U; cases U
    have a6:=S.trans (M.trans S4);exact k Z _ ((S.trans M).free U) ⟨yc,yi nz I⟩ ((But.of a6).trans But.upd)
theorem yso:yk ["self"] ["self"] (yg yrr):=w4 (by right)
theorem Ó.sqt {H H':Hp} {p dx lk d:Addr} {kd:Fin 3} {f:List Int->Option Slt} {O:Addr->Prop} {m:Nat} (h:Ó a H p dx lk d kd f O m) (B:ykr O H H') {t:Addr} {xs:List V} (e:SqT K H t xs):SqT K H' t xs:=by
 have i:∀ o:HO,H t=some o->yx8 o=false->H' t=some o:=fun o g j=>B _ _ g fun z=>by
  obtain ⟨k,b,c⟩:=h.own t z;rw [g] at b;cases b;rw [j] at c;cases c
 rcases e with (e | ⟨o,e⟩) | e
 .exact .inl (.inl (i _ e rfl))
 .exact .inl (.inr ⟨o,i _ e rfl⟩)
 .exact .inr e
theorem Ó.up {H:Hp} {p dx lk d:Addr} {kd:Fin 3} {f:List Int->Option Slt} {O:Addr->Prop} {m:Nat} (h:Ó a H p dx lk d kd f O m) (hm:m <= m'):Ó a H p dx lk d kd f O m':=by
 obtain ⟨c,b,i,e,g⟩:=h.tb;exact ⟨h.me,h.own,h.np,h.dO,h.ky,c,b,i,dZ e hm,g⟩
theorem u8.mvT {H H':Hp} {k:Addr} {x:V} {ps:List Int} (h:u8 K H k x ps) (h1:∀ t xs,SqT K H t xs->SqT K H' t xs):u8 K H' k x ps:=by
 obtain ⟨t,b,d,c,a⟩:=h;exact ⟨t,h1 _ _ b,h1 _ _ d,c,a⟩
def refs (g:Nat->Addr) (n:Nat):List V:=(List.range n).map fun i=>V.ref (g i)
theorem vz (g:Nat->Addr) (n:Nat):(refs g n).length=n:=by unfold refs; rw [cH,dL]
theorem uz {g:Nat->Addr} {n:Nat} {x:V} (h:(refs g n)[i]?=some x):x=.ref (g i)/\i < n:=by
 have a:i < n:=by
  have:=(d8.mp h).1;rw [vz] at this;exact this
 unfold refs at h;rw [dm,ez a] at h;exact ⟨(dD h).symm,a⟩
theorem ut (g:Nat->Addr) (n:Nat):refs g (n+1)=refs g n++[.ref (g n)]:=by
 unfold refs;rw [List.range_succ,dF];rfl
theorem uq {g h:Nat->Addr} {n:Nat} (e:∀ i,i < n->g i=h i):refs g n=refs h n:=by
 unfold refs;exact List.map_congr_left fun i a=>by rw [e i (ew.mp a)]
structure Bks (K:W.Frag) (a:Ads) (H:Hp) (n:Nat) (bk dx lk dd:Nat->Addr) (kd:Nat->Fin 3) (ps:Nat->List Int) (f:Nat->List Int->Option Slt) (O:Nat->Addr->Prop) (m:Nat):Prop where
 look:∀ i,i < n->u8 K H (lk i) (.str (kdS (kd i))) (ps i)
 b:∀ i,i < n->Ó a H (bk i) (dx i) (lk i) (dd i) (kd i) (f i) (O i) m
 dj:∀ i j c,i < n->j < n->i≠j->O i c->¬ O j c
 nb:∀ i j,i < n->j < n->¬ O i (bk j)
def AtS (H:Hp) (d:Addr) (k:List Int) (q:Addr):Prop:=∀ kvs,H d=some (.dT kvs)->uw kvs (kI k)=some (.ref q)
theorem Ó.slot {H:Hp} {p dx lk d:Addr} {kd:Fin 3} {f:List Int->Option Slt} {O:Addr->Prop} {m:Nat} {k:List Int} {s:Slt} (h:Ó a H p dx lk d kd f O m) (hf:f k=some s) (hq:AtS H d k q):∃ dq,H q=some (oS a dq s)/\s.ok/\s.kind=kd/\O q:=by
 obtain ⟨b,l,r,u,v,n,t⟩:=h.tb;obtain ⟨g,o,j,c,i⟩:=n k s hf;have e:=hq b r;rw [g] at e;injection e with e;injection e with e;subst e;exact ⟨_,o,j,c,i⟩
theorem Ó.told {H H':Hp} {p dx lk d:Addr} {kd:Fin 3} {f:List Int->Option Slt} {O:Addr->Prop} {m:Nat} {k:List Int} {s:Slt} {b:Int} (h:Ó a H p dx lk d kd f O m) (hf:f k=some s) (hq:AtS H d k q) (b0:0 <= b) (b1:b <= 1)
  (h3:H' q=some (oS a dq (s.see b))) (B:But q H H'):Ó a H' p dx lk d kd (Ť f k (s.see b)) O m:=by
 have D:=h.me;obtain ⟨r,l,u,T,x,J,K⟩:=id h.tb;obtain ⟨G,L,q3,U,I⟩:=J k s hf;have e:=hq r u;rw [G] at e;injection e with e;injection e with e;have E:p≠q:=fun z=>h.np (by rw [z,<- e]; exact I)
 have v:d≠q:=fun z=>by
  obtain ⟨C,R,F⟩:=Ĵ a (l k).2 s;rw [e,<- z,u,F] at L;cases L
 refine ⟨B _ _ D E,fun c hc=>?_,h.np,h.dO,h.ky.mv u (B _ _ u v),r,fun j=>if j=k then (q,dq) else l j,B _ _ u v,T,fun j i=>?_,fun j n i=>?_,fun A y W s2 e1 Y Q=>?_⟩
 .obtain ⟨o,X,hi⟩:=h.own c hc;by_cases z:c=q
  .rw [z];obtain ⟨C,R,F⟩:=Ĵ a dq (s.see b);exact ⟨_,h3,by rw [F]; rfl⟩
  .exact ⟨o,B _ _ X z,hi⟩
 .refine x j ?_;unfold Ť at i
  split at i
  .cases i
  .exact i
 .unfold Ť at i;by_cases z:j=k
  .rw [if_pos z] at i;cases i;subst z;dsimp only;rw [if_pos rfl];exact ⟨by rw [G,e],h3,Slt.see_ok q3 b0 b1,(yjq s b).trans U,e ▸ I⟩
  .rw [if_neg z] at i;obtain ⟨N,p2,p3,M,p5⟩:=J j n i;dsimp only;rw [if_neg z];exact ⟨N,B _ _ p2 (fun w=>z (K j k n s i hf (w.trans e.symm))),p3,M,p5⟩
 .have g:∀ j n,Ť f k (s.see b) j=some n->∃ t,f j=some t:=fun j n h=>by
   unfold Ť at h;by_cases z:j=k
   .exact ⟨s,by rw [z]; exact hf⟩
   .rw [if_neg z] at h;exact ⟨n,h⟩
  obtain ⟨P,Z⟩:=g A W e1;obtain ⟨S,f2⟩:=g y s2 Y;refine K A y P S Z f2 ?_
  have ync:∀ j,(if j=k then ((q,dq):Addr × Addr) else l j).1=(l j).1:=fun j=>by
   by_cases z:j=k
   .rw [if_pos z,z];exact e.symm
   .rw [if_neg z]
  rw [<- ync A,<- ync y];exact Q
theorem AtS.told {H H':Hp} {p dx lk d:Addr} {kd:Fin 3} {f:List Int->Option Slt} {O:Addr->Prop} {m:Nat} {k:List Int} (h:Ó a H p dx lk d kd f O m) {r:Addr} (hd:d≠r) (B:But r H H') (hq:AtS H d k q):AtS H' d k q:=fun g e=>by
 obtain ⟨b,i,c,_⟩:=h.tb;rw [B _ _ c hd] at e;cases e;exact hq _ c
section
variable {H H':Hp} {n m:Nat} {bk dx lk dd:Nat->Addr} {kd:Nat->Fin 3} {ps:Nat->List Int} {f:Nat->List Int->Option Slt}
theorem Bks.frame (h:Bks K a H n bk dx lk dd kd ps f O m) {O2:Addr->Prop} (B:ykr O2 H H') (dj:∀ i b,i < n->O i b->¬ O2 b) (hp:∀ i,i < n->¬ O2 (bk i)) (ht:∀ t xs,SqT K H t xs->SqT K H' t xs):Bks K a H' n bk dx lk dd kd ps f O m :=
 ⟨fun i c=>(h.look i c).mvT ht,fun i c=>(h.b i c).frame B (fun b d=>dj i b c d) (hp i c),h.dj,h.nb⟩
theorem Bks.same (h:Bks K a H n bk dx lk dd kd ps f O m) (S:yw H H'):Bks K a H' n bk dx lk dd kd ps f O m :=
 h.frame (O2:=fun _=>False) (fun b o e _=>S b o e) (fun _ _ _ _ z=>z) (fun _ _ z=>z) fun _ _ e=>S.tup e
theorem Bks.move (h:Bks K a H n bk dx lk dd kd ps f O m) (hj:j < n) {f':List Int->Option Slt} {O':Addr->Prop} (hm:m <= m') (hb:Ó a H' (bk j) (dx j) (lk j) (dd j) (kd j) f' O' m') (hO:∀ c,O' c->O j c\/H c=none) (B:ykr (O j) H H') :
  Bks K a H' n bk dx lk dd kd ps (fun i=>if i=j then f' else f i) (fun i=>if i=j then O' else O i) m':=by
 have A:=h.b j hj
 have g:∀ q c,q < n->q≠j->O q c->¬ O' c:=fun q c D x w E=>by
  rcases hO c E with v | v
  .exact h.dj q j c D hj x w v
  .obtain ⟨o,C,_⟩:=(h.b q D).own c w;rw [v] at C;cases C
 refine ⟨fun i d=>(h.look i d).mvT fun t F e=>A.sqt B e,fun i d=>?_,fun i l c d r s p k=>?_,fun i l d r e=>?_⟩
 .try dsimp only
  by_cases z:i=j
  .subst z;rw [if_pos rfl,if_pos rfl];exact hb
  .rw [if_neg z,if_neg z];exact ((h.b i d).frame B (fun b y=>h.dj i j b d hj z y) (h.nb j i hj d)).up hm
 .try dsimp only at p k
  by_cases z1:i=j
  .rw [if_pos z1] at p;have u:l≠j:=fun w=>s (z1.trans w.symm);rw [if_neg u] at k;exact g l c r u k p
  .rw [if_neg z1] at p;by_cases u:l=j
   .rw [if_pos u] at k;exact g i c d z1 p k
   .rw [if_neg u] at k;exact h.dj i l c d r s p k
 .try dsimp only at e
  by_cases z:i=j
  .rw [if_pos z] at e;rcases hO _ e with v | v
   .exact h.nb j l hj r v
   .rw [(h.b l r).me] at v;cases v
  .rw [if_neg z] at e;exact h.nb i l d r e
theorem AtS.move (h:Bks K a H n bk dx lk dd kd ps f O m) (hi:i < n) (hj:j < n) (hij:i≠j) (B:ykr (O j) H H') {k:List Int} (hq:AtS H (dd i) k q):AtS H' (dd i) k q:=fun g e=>by
 obtain ⟨c,l,d,_⟩:=(h.b i hi).tb;rw [B _ _ d (h.dj i j _ hi hj hij (h.b i hi).dO)] at e;cases e;exact hq _ d
theorem Bks.nlst (h:Bks K a H n bk dx lk dd kd ps f O m) {l:Addr} {xs:List V} (hl:H l=some (.lst xs)):∀ i,i < n->¬ O i l:=fun i e z=>by
 obtain ⟨o,d,c⟩:=(h.b i e).own l z;rw [hl] at d;cases d;cases c
end
def ykt (n:Nat) (kd:Nat->Fin 3) (f:Nat->List Int->Option Slt) (g:Nat->List Int->Slt):Prop:=∀ i,i < n->∀ k,(f i k).getD (kd0 (kd i))=g i k
theorem ykt.put {n:Nat} {kd:Nat->Fin 3} {f:Nat->List Int->Option Slt} {g:Nat->List Int->Slt} (h:ykt n kd f g) (j:Nat) (hj:j < n) (k:List Int):ykt n kd (fun i=>if i=j then Ť (f j) k ((f j k).getD (kd0 (kd j))) else f i) g:=fun i b a=>by
 dsimp only;by_cases z:i=j
 .subst z;rw [if_pos rfl];unfold Ť;by_cases w:a=k
  .rw [if_pos w,w];exact h i b k
  .rw [if_neg w];exact h i b a
 .rw [if_neg z];exact h i b a
inductive Ĩ (K:W.Frag) (a:Ads) (vs:List V) (H:Hp) (Q:VK) (E':XK):Prop
 | mk (p dp ll bl mp el pl0:Addr) (nd:Int) (sg:List Int) (n m:Nat) (bk dx lk dd:Nat->Addr) (kd:Nat->Fin 3) (ps:Nat->List Int) (f:Nat->List Int->Option Slt) (O:Nat->Addr->Prop) (g:Nat->List Int->Slt):(vs=[.ref p])->(H p=some (.ins a.A3 dp (Ĉ (.ref ll) (.ref bl) (.ref mp) (.ref el) (.int nd) (.ref pl0))))->(H bl=some (.lst (refs bk n)))->(H el=some (.lst (sg.map V.int)))->(Bks K a H n bk dx lk dd kd ps f O m)->(ykt n kd f g)->(n <= 6)->(m+10 < 1000000)->((∀ i,i < n->¬ O i p))->(∀ (pl:Addr) (sl:Nat->Addr) (f':Nat->List Int->Option Slt) (O':Nat->Addr->Prop) (H':Hp),H' p=some (.ins a.A3 dp (Ĉ (.ref ll) (.ref bl) (.ref mp) (.ref el) (.int nd) (.ref pl)))->H' pl=some (.lst (refs sl n))->H pl=none ->
  Bks K a H' n bk dx lk dd kd ps f' O' (m+n)->ykt n kd f' g->(∀ j,j < n->(∃ s,f' j (ctx (ps j) sg nd)=some s)/\AtS H' (dd j) (ctx (ps j) sg nd) (sl j))->(∀ j c,j < n->O' j c->O j c\/H c=none) ->
  (∀ c o,H c=some o->c≠p->(∀ j,j < n->¬ O j c)->H' c=some o)->(∀ c o,H c=some o->∃ o',H' c=some o')->Q .non H')->Ĩ K a vs H Q E'
theorem ylb (T:Txt K mg a):wc P w K mg base CX0 5 a.Jq a.Jr ["self"] (Ĩ K a):=by
 exists T.Dr.F.ok,yso,hr;obtain ⟨p,dp,ll,bl,mp,el,ad,L,X,n,m,bk,dx,lk,Y,kd,R,f,O,g,rfl,hp,U,a0,hB,hA,n6,hm,np,k⟩:=h;refine ⟨_,(yf (ve (pv 0) (wg (js:=[0]) (ys:=["self"]) rfl (wd (yp (pv 0) rfl)) (fun C s2 H2 fp=>(xr (pv 0) T.D1 T.Hd.m (ys7 T) (hr.mono (by decide)) T.Hd.B .nil vh (ya (yb5 (K:=K) rfl (pv 1) rfl) (ya (yb5 (K:=K) rfl (pv 1) rfl) ye (yb rfl)) (yb rfl)))) rfl rfl (hyc:=(all_cons rfl yx)) (hrel:=(all_cons rfl yx))) rfl)),?_⟩;exists 1,0;rfl';refine ⟨bl,rfl,⟨_,SqL.of U⟩,fun D N=>?_⟩;have a8:=hB.nlst U;have af:=hB.nlst a0;refine zu (K:=K) (xs:=refs bk n) (fun i G=>∃ (y:Nat->Addr) (M:Nat->List Int->Option Slt) (J:Nat->Addr->Prop),G D=some (.lst (refs y i))/\Bks K a G n bk dx lk Y kd R M J (m+i)/\ykt n kd M g/\(∀ j,j < i->(∃ s,M j (ctx (R j) X L)=some s)/\AtS G (Y j) (ctx (R j) X L) (y j)) /\
  (∀ j c,j < n->J j c->O j c\/H c=none)/\(∀ c o,H c=some o->(∀ j,j < n->¬ O j c)->G c=some o)/\(∀ c o,H c=some o->∃ o',G c=some o'))
  ⟨fun _=>0,f,O,yc,hB.same (y8 N),hA,fun j d=>absurd d (dN j),fun j c _ z=>.inl z,fun c o e _=>zh N e,fun c o e=>⟨o,zh N e⟩⟩ (fun i G _ z=>?_) (fun i x G hx hi z=>?_) (fun G z=>?_)
 .obtain ⟨_,_,_,_,_,_,_,_,w,_⟩:=z;exact SqL.of (w _ _ U a8)
 .obtain ⟨y,M,J,gD,r,gA,gS,gO,gF,gL⟩:=z;obtain ⟨rfl,l⟩:=uz hx;have I:=gF _ _ hp np;have a5:=gF _ _ a0 af;have ai:=(r.b i l).me;show yck _ _ _ _ _ _ _ (some (V.ref (bk i)) :: xg [0] [some (V.ref p)]) G _;rfl';refine ⟨bk i,dx i,lk i,Y i,el,kd i,M i,J i,m+i,R i,X,L,rfl,r.b i l,by omega,r.look i l,SqL.of a5,fun q O2 G2 a6 hv a3 a9 B2=>?_⟩;have nD:=r.nlst gD;have u:G2 D=some (.lst (refs y i)):=B2 _ _ gD (nD i l);refine xu (n:=(refs bk n).length) u (vo (by rw [vz]; omega)) hi ?_;have M2:=r.move l (Nat.le_succ (m+i)) a6 a3 B2;have a2:=M2.nlst u;have W:∀ c o,G2 c=some o->c≠D->upd G2 D (.lst (refs y i++[V.ref q])) c=some o:=fun c o e S=>yi S e
  have M3:=M2.frame (O2:=fun c=>c=D) (fun c o e S=>W c o e S) (fun j c d w z=>a2 j d (z ▸ w)) (fun j d z=>by
   have:=(M2.b j d).me;rw [z,u] at this
   cases this) (fun t xs e=>by
   rcases e with (e | ⟨o,e⟩) | e
   .exact .inl (.inl (W _ _ e (fun z=>by rw [z,u] at e; cases e)))
   .exact .inl (.inr ⟨o,W _ _ e (fun z=>by rw [z,u] at e; cases e)⟩)
   .exact .inr e)
  have up:∀ j,j < n->AtS G2 (Y j) (ctx (R j) X L) (if j=i then q else y j)->AtS (upd G2 D (.lst (refs y i++[V.ref q]))) (Y j) (ctx (R j) X L) (if j=i then q else y j):=fun j d h =>
   h.told (M2.b j d) (fun z=>a2 j d (by rw [<- z]; exact (M2.b j d).dO)) (fun c o e S=>W c o e S)
  refine ⟨fun j=>if j=i then q else y j,_,_,?_,M3,gA.put i l _,fun j d=>?_,fun j c d w=>?_,fun c o e no=>?_,fun c o e=>?_⟩
  .rw [yc,ut,if_pos rfl]
   congr 3
   exact uq fun j d=>(if_neg (by omega)).symm
  .by_cases z:j=i
   .subst z;refine ⟨⟨(M j (ctx (R j) X L)).getD (kd0 (kd j)),?_⟩,up j l ?_⟩
    .try dsimp only
     rw [if_pos rfl];unfold Ť;rw [if_pos rfl]
    .rw [if_pos rfl];exact hv
   .have a4:j < n:=by omega
    obtain ⟨⟨s',ab⟩,ae⟩:=gS j (by omega);refine ⟨⟨s',?_⟩,up j a4 ?_⟩
    .try dsimp only
     rw [if_neg z];exact ab
    .rw [if_neg z];exact ae.move r a4 l z B2
  .try dsimp only at w
   by_cases z:j=i
   .subst z;rw [if_pos rfl] at w;rcases a3 c w with v | v
    .exact gO j c d v
    .refine .inr ?_
     cases e:H c with
     | none=>rfl
     | some o =>
      obtain ⟨o',w'⟩:=gL c o e;rw [w'] at v;cases v
   .rw [if_neg z] at w;exact gO j c d w
  .have hG:=gF c o e no
   have nc:¬ J i c:=fun w=>by
    rcases gO i c l w with v | v
    .exact no i l v
    .rw [e] at v;cases v
   refine W _ _ (B2 _ _ hG nc) (fun z=>?_);rw [z,N] at e;cases e
  .obtain ⟨o1,w1⟩:=gL c o e;have a1:c≠D:=fun z=>by rw [z,N] at e; cases e
   by_cases w2:J i c
   .obtain ⟨o2,aa,_⟩:=a6.own c (a9 c w2);exact ⟨o2,W _ _ aa a1⟩
   .exact ⟨o1,W _ _ (B2 _ _ w1 w2) a1⟩
 .obtain ⟨y,M,J,gD,r,gA,gS,gO,gF,gL⟩:=z;rw [vz] at gD r gS;have I:=gF _ _ hp np;rfl';have ac:D≠p:=fun z=>by rw [z,hp] at N; cases N
  have Z:But p G (upd G p (.ins a.A3 dp (Ĉ (.ref ll) (.ref bl) (.ref mp) (.ref el) (.int L) (.ref D)))):=But.upd
  have a7:∀ i,i < n->¬ J i p:=fun i hi w=>by
   rcases gO i p hi w with v | v
   .exact np i hi v
   .rw [hp] at v; cases v
  have M3:=r.frame (O2:=fun c=>c=p) (fun c o e S=>Z c o e S) (fun j c d w z=>a7 j d (z ▸ w)) (fun j d z=>by
   have:=(r.b j d).me;rw [z,I] at this;injection this with this;injection this with _ _ e
   exact absurd (congrArg List.length e) (show ¬ (6=2) by decide)) (fun t xs e=>by
   rcases e with (e | ⟨o,e⟩) | e
   .exact .inl (.inl (Z _ _ e (fun z=>by rw [z,I] at e; cases e)))
   .exact .inl (.inr ⟨o,Z _ _ e (fun z=>by rw [z,I] at e; cases e)⟩)
   .exact .inr e)
  refine k D y M J _ yc (yi ac gD) N M3 gA (fun j d=>⟨(gS j d).1,(gS j d).2.told (r.b j d) (fun z=>a7 j d (by rw [<- z]; exact (r.b j d).dO)) Z⟩) gO (fun c o e nc no=>Z _ _ (gF c o e no) nc) fun c o e=>?_;by_cases zc:c=p
  .rw [zc];exact ⟨_,yc⟩
  .obtain ⟨o1,w1⟩:=gL c o e;exact ⟨o1,Z _ _ w1 zc⟩
structure FA where
 dp:Addr
 ll:Addr
 bl:Addr
 mp:Addr
 mx:Addr
 ml:Addr
 el:Addr
 pl:Addr
 n:Nat
 bk:Nat->Addr
 dx:Nat->Addr
 lk:Nat->Addr
 dd:Nat->Addr
 sl:Nat->Addr
 kd:Nat->Fin 3
 ps:Nat->List Int
structure FX where
 g:Nat->List Int->Slt
 ws:List Int
 sg:List Int
 nd:Int
def FX.key (X:FX) (A:FA) (i:Nat):List Int:=ctx (A.ps i) X.sg X.nd
def FX.cs (X:FX) (A:FA):List Int:=(List.range A.n).map fun i=>(X.g i (X.key A i)).due
def ndN (nd b:Int):Int:=if 0 < nd then (if 256 <= 2 * nd+b then 0 else 2 * nd+b) else if b=1 then 1 else nd
def sgN (sg:List Int) (nd b:Int):List Int:=if 0 < nd then (if 256 <= 2 * nd+b then sg++[2 * nd+b - 256] else sg) else if b=1 then sg else []
def FX.see (X:FX) (A:FA) (b:Int):FX:={ g:=fun i k=>if k=X.key A i then (X.g i k).see b else X.g i k,ws:=lrn X.ws (X.cs A) b,sg:=sgN X.sg X.nd b,nd:=ndN X.nd b }
structure ul (K:W.Frag) (a:Ads) (H:Hp) (p:Addr) (A:FA) (X:FX) (f:Nat->List Int->Option Slt) (O:Nat->Addr->Prop) (m:Nat):Prop where
 me:H p=some (.ins a.A3 A.dp (Ĉ (.ref A.ll) (.ref A.bl) (.ref A.mp) (.ref A.el) (.int X.nd) (.ref A.pl)))
 bl:H A.bl=some (.lst (refs A.bk A.n))
 el:H A.el=some (.lst (X.sg.map V.int))
 mx:yi0 a A.mp A.mx A.ml X.ws H
 wok:WOk A.n X.ws
 pl:H A.pl=some (.lst (refs A.sl A.n))
 B:Bks K a H A.n A.bk A.dx A.lk A.dd A.kd A.ps f O m
 ag:ykt A.n A.kd f X.g
 at':∀ j,j < A.n->(∃ s,f j (X.key A j)=some s)/\AtS H (A.dd j) (X.key A j) (A.sl j)
 np:∀ i,i < A.n->¬ O i p
 nm:∀ i,i < A.n->¬ O i A.mp
 n1:1 <= A.n
 n6:A.n <= 6
theorem ul.same {H H':Hp} {p:Addr} {A:FA} {X:FX} {f:Nat->List Int->Option Slt} {m:Nat} (h:ul K a H p A X f O m) (S:yw H H'):ul K a H' p A X f O m :=
 ⟨S _ _ h.me,S _ _ h.bl,S _ _ h.el,h.mx.same S,h.wok,S _ _ h.pl,h.B.same S,h.ag,fun j c=>⟨(h.at' j c).1,fun k e=>by
  obtain ⟨d,i,g,_⟩:=(h.B.b j c).tb;rw [S _ _ g] at e;cases e;exact (h.at' j c).2 _ g⟩,h.np,h.nm,h.n1,h.n6⟩
theorem ul.slot {H:Hp} {p:Addr} {A:FA} {X:FX} {f:Nat->List Int->Option Slt} {m:Nat} (h:ul K a H p A X f O m) (hj:j < A.n) :
  f j (X.key A j)=some (X.g j (X.key A j))/\(∃ dq,H (A.sl j)=some (oS a dq (X.g j (X.key A j))))/\(X.g j (X.key A j)).ok/\O j (A.sl j):=by
 obtain ⟨⟨s,c⟩,d⟩:=h.at' j hj;have e:=h.ag j hj (X.key A j);rw [c] at e;have e:s=X.g j (X.key A j):=e;rw [<- e];obtain ⟨dq,l,i,o,k⟩:=(h.B.b j hj).slot c d;exact ⟨c,⟨dq,l⟩,i,k⟩
theorem ul.cok {H:Hp} {p:Addr} {A:FA} {X:FX} {f:Nat->List Int->Option Slt} {m:Nat} (h:ul K a H p A X f O m):COk A.n (X.cs A):=by
 refine ⟨by unfold FX.cs; rw [cH,dL],fun c b=>?_,fun c b=>?_⟩
 .obtain ⟨j,d,rfl⟩:=di.mp b;exact (yee (h.slot (ew.mp d)).2.2.1).1
 .obtain ⟨j,d,rfl⟩:=di.mp b;exact (yee (h.slot (ew.mp d)).2.2.1).2
theorem LkG.at' {H:Hp} {lk tp:Addr} {kd:Fin 3} {ps:List Int} (h:LkG H (.ref lk) kd tp ps):u8 K H lk (.str (kdS kd)) ps:=by
 obtain ⟨d,e,f,c,a⟩:=h;cases e;have a:=a;unfold zk at a;rw [dU,dU,List.all_eq_true] at a;refine ⟨tp,SqT.of f,SqT.of c,fun p b=>?_,by have:=of_decide_eq_true a.1.1; rw [cH] at this; exact this⟩;have w:=a.1.2 (.int p) (di.mpr ⟨p,b,rfl⟩);have w:(decide (1 <= p) && decide (p <= 8))=true:=w;rw [dU] at w;exact ⟨of_decide_eq_true w.1,of_decide_eq_true w.2⟩
theorem Bks.snoc {H:Hp} {n m:Nat} {bk dx lk dd:Nat->Addr} {kd:Nat->Fin 3} {ps:Nat->List Int} {f:Nat->List Int->Option Slt} (h:Bks K a H n bk dx lk dd kd ps f O m)
  (hl:u8 K H (lk n) (.str (kdS (kd n))) (ps n)) {q dq d:Addr} {f':List Int->Option Slt} {O':Addr->Prop} (hb:Ó a H q dq (lk n) d (kd n) f' O' m) (dj:∀ j c,j < n->O j c->¬ O' c) (n1:∀ j,j < n->¬ O j q) (n2:∀ j,j < n->¬ O' (bk j)) :
  Bks K a H (n+1) (upN bk n q) (upN dx n dq) lk (upN dd n d) kd ps (upN f n f') (upN O n O') m:=by
 refine ⟨fun i p=>?_,fun i p=>?_,fun i j c p s r o l=>?_,fun i j p s e=>?_⟩
 .by_cases z:i=n
  .rw [z];exact hl
  .exact h.look i (by omega)
 .by_cases z:i=n
  .subst z;rw [xo,xo,xo,xo,xo];exact hb
  .have g:i < n:=by omega
   rw [xj g,xj g,xj g,xj g,xj g];exact h.b i g
 .by_cases z:i=n
  .subst z;have k:j < i:=by omega
   rw [xo] at o;rw [xj k] at l;exact dj j c k l o
  .have g:i < n:=by omega
   rw [xj g] at o;by_cases w:j=n
   .subst w;rw [xo] at l;exact dj i c g o l
   .have k:j < n:=by omega
    rw [xj k] at l;exact h.dj i j c g k r o l
 .by_cases z:i=n
  .subst z;rw [xo] at e;by_cases w:j=i
   .subst w;rw [xo] at e;exact hb.np e
   .have k:j < i:=by omega
    rw [xj k] at e;exact n2 j k e
  .have g:i < n:=by omega
   rw [xj g] at e;by_cases w:j=n
   .subst w;rw [xo] at e;exact n1 i g e
   .have k:j < n:=by omega
    rw [xj k] at e;exact h.nb i j g k e
def yks (K:W.Frag) (a:Ads) (H G:Hp) (n:Nat) (bk dx lk dd:Nat->Addr) (kd:Nat->Fin 3) (ps:Nat->List Int) (f:Nat->List Int->Option Slt) (O:Nat->Addr->Prop):Prop :=
 Bks K a G n bk dx lk dd kd ps f O 0/\(∀ j k,j < n->f j k=none)/\(∀ j c,j < n->O j c->H c=none)/\(∀ j,j < n->H (bk j)=none)
theorem yks.zero {H G:Hp} {bk dx lk dd:Nat->Addr} {kd:Nat->Fin 3} {ps:Nat->List Int} {f:Nat->List Int->Option Slt} :yks K a H G 0 bk dx lk dd kd ps f O :=
 ⟨⟨fun i b=>absurd b (dN i),fun i b=>absurd b (dN i),fun i _ _ b=>absurd b (dN i),fun i _ b=>absurd b (dN i)⟩,fun i _ b=>absurd b (dN i),fun i _ b=>absurd b (dN i),fun i b=>absurd b (dN i)⟩
theorem yks.next {H G G2:Hp} {n:Nat} {bk dx lk dd:Nat->Addr} {kd:Nat->Fin 3} {ps:Nat->List Int} {f:Nat->List Int->Option Slt} (h:yks K a H G n bk dx lk dd kd ps f O) (hl:u8 K G (lk n) (.str (kdS (kd n))) (ps n))
  (S:yw H G) {q dq d D:Addr} {xs ys:List V} (hq:G q=none) (hd:G d=none) (S2:yw G G2) (hb:Ó a G2 q dq (lk n) d (kd n) (fun _=>none) (fun b=>b=d) 0) (hD:G D=some (.lst xs)) :
  yks K a H (upd G2 D (.lst ys)) (n+1) (upN bk n q) (upN dx n dq) lk (upN dd n d) kd ps (upN f n fun _=>none) (upN O n fun b=>b=d):=by
 obtain ⟨s,y,u,v⟩:=h;have l:∀ j c,j < n->O j c->∃ o,G c=some o:=fun j c g w=>let ⟨o,m,_⟩:=(s.b j g).own c w; ⟨o,m⟩
 have M:=(s.same S2).snoc (hl.same S2) hb (fun j c g w z=>by
  obtain ⟨o,m⟩:=l j c g w;rw [show c=d from z,hd] at m
  cases m) (fun j g w=>by
  obtain ⟨o,m⟩:=l j q g w;rw [hq] at m
  cases m) (fun j g z=>by
  have e:=(s.b j g).me;rw [show bk j=d from z,hd] at e;cases e)
 have i:=S2 _ _ hD;have x:=M.nlst i;have p:∀ c o,G2 c=some o->c≠D->upd G2 D (.lst ys) c=some o:=fun c o e r=>yi r e;refine ⟨M.frame (O2:=fun c=>c=D) (fun c o e r=>p c o e r) (fun j c g w z=>x j g (z ▸ w)) (fun j g z=>?_) (fun t xs e=>?_),fun j k g=>?_,fun j c g w=>?_,fun j g=>?_⟩
 .have e:=(M.b j g).me;rw [z,i] at e;cases e
 .rcases e with (e | ⟨o,e⟩) | e
  .exact .inl (.inl (p _ _ e (fun z=>by rw [z,i] at e; cases e)))
  .exact .inl (.inr ⟨o,p _ _ e (fun z=>by rw [z,i] at e; cases e)⟩)
  .exact .inr e
 .by_cases z:j=n
  .rw [z,xo]
  .rw [xj (by omega)];exact y j k (by omega)
 .by_cases z:j=n
  .rw [z,xo] at w;rw [show c=d from w];exact S.free hd
  .rw [xj (by omega)] at w;exact u j c (by omega) w
 .by_cases z:j=n
  .rw [z,xo];exact S.free hq
  .rw [xj (by omega)];exact v j (by omega)
theorem yks.ag {H G:Hp} {n:Nat} {bk dx lk dd:Nat->Addr} {kd:Nat->Fin 3} {ps:Nat->List Int} {f:Nat->List Int->Option Slt} (h:yks K a H G n bk dx lk dd kd ps f O):ykt n kd f (fun i _=>kd0 (kd i)):=fun i b k=>by
 rw [h.2.1 i k b];rfl
def FX0 (n:Nat) (kd:Nat->Fin 3):FX:={ g:=fun i _=>kd0 (kd i),ws:=List.replicate n 1099511627776,sg:=[],nd:=0 }
theorem ykc {g:Nat->Addr} {n:Nat} {x:V} (h:x∈refs g n):∃ i,i < n/\x=.ref (g i):=by
 unfold refs at h;obtain ⟨i,a,e⟩:=di.mp h;exact ⟨i,ew.mp a,e.symm⟩
theorem xw.lks {H:Hp} {n:Nat} {lk:Nat->Addr} {kd:Nat->Fin 3} {ps:Nat->List Int} (h:xw H n lk kd tp ps):Lks H (refs lk n):=fun y a=>by
 obtain ⟨i,b,rfl⟩:=ykc a;exact ⟨_,_,_,h i b⟩
theorem ul.frame {H H':Hp} {p:Addr} {A:FA} {X:FX} {f:Nat->List Int->Option Slt} {m:Nat} (h:ul K a H p A X f O m) {O2:Addr->Prop} (B:ykr O2 H H') (hp:¬ O2 p) (hm:¬ O2 A.mp) (hb:∀ i,i < A.n->¬ O2 (A.bk i))
  (dj:∀ i c,i < A.n->O i c->¬ O2 c) (hl:∀ l xs,(l=A.bl\/l=A.el\/l=A.ml\/l=A.pl)->H l=some (.lst xs)->H' l=some (.lst xs)) (ht:∀ t xs,SqT K H t xs->SqT K H' t xs):ul K a H' p A X f O m :=
 ⟨B _ _ h.me hp,hl _ _ (.inl rfl) h.bl,hl _ _ (.inr (.inl rfl)) h.el,⟨B _ _ h.mx.o hm,hl _ _ (.inr (.inr (.inl rfl))) h.mx.l⟩,h.wok,hl _ _ (.inr (.inr (.inr rfl))) h.pl,h.B.frame B (fun i c q w=>dj i c q w) hb ht,h.ag,fun j d=>⟨(h.at' j d).1,fun s e=>by
  obtain ⟨g,r,k,_⟩:=(h.B.b j d).tb;rw [B _ _ k (dj j _ d (h.B.b j d).dO)] at e;cases e;exact (h.at' j d).2 _ k⟩,h.np,h.nm,h.n1,h.n6⟩
theorem yox {G:Hp} {t c:Addr} {xs ys zs:List V} (hc:G c=some (.lst ys)) (e:SqT K G t xs):SqT K (upd G c (.lst zs)) t xs:=by
 rcases e with (e | ⟨o,e⟩) | e
 .exact .inl (.inl (yi (xh e hc (by intro z; cases z)) e))
 .exact .inl (.inr ⟨o,yi (xh e hc (by intro z; cases z)) e⟩)
 .exact .inr e
theorem ul.app {H:Hp} {p R:Addr} {A:FA} {X:FX} {f:Nat->List Int->Option Slt} {m:Nat} {xs ys:List V} (h:ul K a H p A X f O m) (hR:H R=some (.lst xs)) (hq:∀ q,(q=A.bl\/q=A.el\/q=A.ml\/q=A.pl)->q≠R):ul K a (upd H R (.lst ys)) p A X f O m:=by
 refine h.frame (O2:=fun c=>c=R) (fun c o e g=>yi g e) (fun z=>?_) (fun z=>?_) (fun i d z=>?_) (fun i c d w z=>h.B.nlst hR i d (z ▸ w)) (fun l xs w e=>yi (hq l w) e) (fun t xs e=>yox hR e)
 .have e:=h.me;rw [z,hR] at e;cases e
 .have e:=h.mx.o;rw [z,hR] at e;cases e
 .have e:=(h.B.b i d).me;rw [z,hR] at e;cases e
theorem yxt (n:Nat) (n1:1 <= n) (n6:n <= 6):WOk n (List.replicate n 1099511627776):=by
 refine ⟨List.length_replicate,fun w h=>?_,fun w h=>?_⟩ <;> (rw [List.eq_of_mem_replicate h]; decide)
theorem yuw:yk ["self","looks"] ["self","looks"] (yg yp8):=w4 (by right)
structure vbz (K:W.Frag) (a:Ads) (H H':Hp) (p:Addr) (n:Nat) (lk:Nat->Addr) (kd:Nat->Fin 3) (ps:Nat->List Int) (A:FA) (f:Nat->List Int->Option Slt) (O:Nat->Addr->Prop):Prop where
 ft:ul K a H' p A (FX0 n kd) f O 6
 en:A.n=n
 elk:A.lk=lk
 ekd:A.kd=kd
 eps:A.ps=ps
 oO:∀ j c,j < n->O j c->H c=none
 oB:∀ j,j < n->H (A.bk j)=none
 oM:H A.mp=none
 oL:∀ l,(l=A.bl\/l=A.el\/l=A.ml\/l=A.pl)->H l=none
 lo:H' A.ll=some (.lst (refs lk n))/\A.ll≠A.el/\H A.ll=none
inductive ŕ (K:W.Frag) (a:Ads) (vs:List V) (H:Hp) (Q:VK) (E:XK):Prop
 | mk (p dp:Addr) (x:V):(vs=[.ref p,x])->(H p=some (.ins a.A3 dp []))->(((vb0 K H x/\∀ H',yw H H'->E (.ref a.Fr) none H')\/∃ (l:Addr) (n:Nat) (lk:Nat->Addr) (kd:Nat->Fin 3) (tp:Nat->Addr) (ps:Nat->List Int),x=.ref l/\H l=some (.lst (refs lk n))/\1 <= n/\n <= 6/\xw H n lk kd tp ps /\
  ∀ A f O H',vbz K a H H' p n lk kd ps A f O->But p H H'->Q .non H'))->ŕ K a vs H Q E
theorem ylf (T:Txt K mg a):wc P w K mg base (CXe P w) 6 a.Gp a.Jp ["self","looks"] (ŕ K a):=by
 exists T.Dq.F.okE,yuw,hr;obtain ⟨p,f,x,rfl,hp,h⟩:=h;refine yo (ve (pv 0) (vj (ymh T) (hr.mono (by decide)) rfl T.Cr.m T.Cr.F.kp T.Cr.B .nil yz (ya (pv 1) ye (yb rfl))) rfl) ?_;refine yo (ve (pv 0) (wg (js:=[]) (ys:=[]) rfl (wd (yp (pv 0) rfl)) (fun C s2 H2 fp=>(yb4 T.Pv (ysu T) (hr.mono (by decide)) rfl T.Pu T.F0.B .nil vh (ya (pv 0) ye (yb rfl)))) rfl rfl (hyc:=yx) (hrel:=yx)) rfl) ?_;refine yo (ve (pv 0) (yb4 T.Rf (ywg T) (hr.mono (by decide)) rfl T.Re T.F7.B .nil vh (ya (yq yt rfl T.Ae (by right) (ya (yp (pv 0) rfl) ye (yb rfl))) ye (yb rfl))) rfl) ?_;refine yo (ve (pv 0) (wq ye) rfl) ?_;refine yo (ve (pv 0) yj rfl) ?_;refine yo (ve (pv 0) (wq ye) rfl) ?_;refine ⟨_,(yf (yu (wy (pv 0) T.Ag T.Dr.m (ylb T) (hr.mono (by decide)) T.Dr.B .nil vh))),?_⟩;exists 2,0;rfl';rcases h with ⟨hb,k⟩ | ⟨l,n,lk,kd,tp,ps,rfl,hl,n1,n6,aq,k⟩
 .rcases hb with ⟨nm,ty,hn⟩ | ⟨l,xs,bs,rfl,hl,hz,aS,no⟩
  .exact .inl ⟨x,nm,rfl,ty,hn,k _ (yw.refl _)⟩
  .exact .inr ⟨l,xs,bs,rfl,hl,hz,aS,fun z=>absurd z no,fun _ H' S=>k _ S⟩
 .refine .inr ⟨l,refs lk n,List.replicate (refs lk n).length true,rfl,hl,by rw [vz]; omega,aq.lks.bs,fun _ g H1 al aB S1=>?_,fun no=>absurd ⟨by rw [vz]; exact n1,by rw [vz]; exact n6,yhp _⟩ no⟩;have aY:=S1 _ _ hp;have aW:=aq.same S1;rfl';have U:upd H1 p (HO.ins a.A3 f ([("looks",V.ref g)]:List (Str × V))) p=some (HO.ins a.A3 f ([("looks",V.ref g)]:List (Str × V))):=yc;have BA:But p H1 (upd H1 p (HO.ins a.A3 f ([("looks",V.ref g)]:List (Str × V)))):=But.upd;have a3:g≠p:=(yd hp al).symm;have I:upd H1 p (HO.ins a.A3 f ([("looks",V.ref g)]:List (Str × V))) g=some (.lst (refs lk n)):=yi a3 aB;generalize upd H1 p (HO.ins a.A3 f ([("looks",V.ref g)]:List (Str × V)))=HA at U BA I ⊢;have ab:But p H HA:=(But.of S1).trans BA
  have aT:xw HA n lk kd tp ps:=fun i hi=>by
   obtain ⟨q,e,h1,h2,h3⟩:=aq i hi;exact ⟨q,e,ab _ _ h1 (xh h1 hp (by intro z; cases z)),ab _ _ h2 (xh h2 hp (by intro z; cases z)),h3⟩
  refine ⟨p,_,f,_,_,rfl,U,T.Ag,T.Bl,rfl,?_⟩;refine ⟨g,rfl,⟨_,SqL.of I⟩,fun u Y=>?_⟩;refine ur (K:=K) (xs:=refs lk n) (fun i G=>∃ (bk dx dd:Nat->Addr) (f2:Nat->List Int->Option Slt) (O2:Nat->Addr->Prop),G u=some (.lst (refs bk i))/\yks K a HA G i bk dx lk dd kd ps f2 O2/\yw HA G)
   ⟨fun _=>0,fun _=>0,fun _=>0,fun _ _=>none,fun _ _=>False,yc,yks.zero,y8 Y⟩ (fun i G _ z=>?_) (fun i y G hy hi z=>?_) (fun G z=>?_)
  .obtain ⟨_,_,_,_,_,_,_,SG⟩:=z;exact SqL.of (SG _ _ I)
  .obtain ⟨bk,dx,dd,f2,O2,a4,gN,SG⟩:=z;obtain ⟨rfl,aH⟩:=uz hy;rfl';intro q dq nq aL aZ;have SQ:yw G (upd (upd G dq (.own q)) q (.ins a.Aa dq [])):=fun b o e=>by rw [yn (yd e nq),yn (yd e aL)]; exact e
   refine ⟨q,dq,lk i,kd i,rfl,yc,fun d G2 aN aR B2=>⟨rfl,?_⟩⟩;have as:yw G G2:=fun b o e=>B2 b o (SQ b o e) (yd e nq);refine xu (n:=(refs lk n).length) (as _ _ a4) (vo (by rw [vz]; omega)) hi ?_;refine ⟨_,_,_,_,_,?_,gN.next ((aT i aH).same SG).at' SG nq (SQ.free aN) as aR a4,fun b o e=>yi (yd e Y) (as _ _ (SG b o e))⟩;rw [yc,ut,xo]
   congr 3
   exact uq fun j r=>(xj r).symm
  obtain ⟨bk,dx,dd,f2,O2,a4,gN,SG⟩:=z;rw [vz] at a4 gN;have aC:=SG _ _ U;rfl';have ay:∀ c o,HA c=some o->c≠p->upd G p (HO.ins a.A3 f ([("looks",V.ref g),("books",V.ref u)]:List (Str × V))) c=some o:=fun c o e J=>yi J (SG _ _ e);have a6:upd G p (HO.ins a.A3 f ([("looks",V.ref g),("books",V.ref u)]:List (Str × V))) p=some (HO.ins a.A3 f ([("looks",V.ref g),("books",V.ref u)]:List (Str × V))):=yc;have af:u≠p:=(yd U Y).symm;have aj:upd G p (HO.ins a.A3 f ([("looks",V.ref g),("books",V.ref u)]:List (Str × V))) u=some (.lst (refs bk n)):=yi af a4;have BP:∀ {fs:List (Str × V)},But p G (upd G p (HO.ins a.A3 f fs)):=But.upd
  have ac:∀ j,j < n->¬ O2 j p:=fun j r w=>by
   have e:=gN.2.2.1 j p r w;rw [U] at e;cases e
  have ax:∀ {G':Hp},But p G G'->Bks K a G' n bk dx lk dd kd ps f2 O2 0:=fun {G'} B=>gN.1.frame (O2:=fun c=>c=p) (fun c o e J=>B c o e J) (fun j c r w z=>ac j r (z ▸ w)) (fun j r z=>by
   have e:=gN.2.2.2 j r;rw [z,U] at e
   cases e) (fun t xs e=>by
   rcases e with (e | ⟨o,e⟩) | e
   .exact .inl (.inl (B _ _ e (fun z=>by rw [z,aC] at e; cases e)))
   .exact .inl (.inr ⟨o,B _ _ e (fun z=>by rw [z,aC] at e; cases e)⟩)
   .exact .inr e)
  have BB:But p G (upd G p (HO.ins a.A3 f ([("looks",V.ref g),("books",V.ref u)]:List (Str × V)))):=But.upd;generalize upd G p (HO.ins a.A3 f ([("looks",V.ref g),("books",V.ref u)]:List (Str × V)))=HB at ay a6 aj BB ⊢;refine ⟨p,_,f,_,_,rfl,a6,T.Ag,T.Bl,rfl,?_⟩;refine zr (SqL.of (ay _ _ I a3)) ?_;rw [vz];rfl';intro D mx a7 aI b1;have SM:yw HB (upd (upd HB mx (.own D)) D (.ins a.Br mx [])):=fun b o e=>by rw [yn (yd e a7),yn (yd e aI)]; exact e
  refine ⟨D,mx,n,rfl,n1,n6,yc,fun ml HC aA MC BC=>⟨rfl,?_⟩⟩;have SC:yw HB HC:=fun b o e=>BC b o (SM b o e) (yd e a7);have b0:=SC _ _ a6;have aF:=SC _ _ aj;have aa:HB ml=none:=SM.free aA;have O:D≠p:=(yd a6 a7).symm;have Z:ml≠p:=(yd a6 aa).symm;rfl';refine ⟨by walk_at "len",fun M a1=>?_⟩;have W:M≠p:=fun z=>by rw [z,yc] at a1; cases a1
  have X:HC M=none:=by rw [yn W] at a1; exact a1
  have aM:upd (upd HC p (HO.ins a.A3 f ([("looks",V.ref g),("books",V.ref u),("mixer",V.ref D)]:List (Str × V)))) M (.lst []) p=some (HO.ins a.A3 f ([("looks",V.ref g),("books",V.ref u),("mixer",V.ref D)]:List (Str × V))):=yi W.symm yc;have ai:upd (upd HC p (HO.ins a.A3 f ([("looks",V.ref g),("books",V.ref u),("mixer",V.ref D)]:List (Str × V)))) M (.lst []) M=some (.lst []):=yc;have BD:But p HC (upd (upd HC p (HO.ins a.A3 f ([("looks",V.ref g),("books",V.ref u),("mixer",V.ref D)]:List (Str × V)))) M (.lst [])):=fun b o e J=>yi (yd e X) (yi J e);generalize upd (upd HC p (HO.ins a.A3 f ([("looks",V.ref g),("books",V.ref u),("mixer",V.ref D)]:List (Str × V)))) M (.lst [])=HD at aM ai BD ⊢;rfl';refine ⟨by walk_at "len",fun L a0=>?_⟩;have an:L≠p:=fun z=>by rw [z,yc] at a0; cases a0
  have am:HD L=none:=by rw [yn an,yn an] at a0; exact a0
  have aP:upd (upd (upd HD p (HO.ins a.A3 f ([("looks",V.ref g),("books",V.ref u),("mixer",V.ref D),("ended",V.ref M)]:List (Str × V)))) p (HO.ins a.A3 f ([("looks",V.ref g),("books",V.ref u),("mixer",V.ref D),("ended",V.ref M),("place",V.int 0)]:List (Str × V)))) L (.lst []) p=some (HO.ins a.A3 f ([("looks",V.ref g),("books",V.ref u),("mixer",V.ref D),("ended",V.ref M),("place",V.int 0)]:List (Str × V))):=yi an.symm yc;have BE:But p HD (upd (upd (upd HD p (HO.ins a.A3 f ([("looks",V.ref g),("books",V.ref u),("mixer",V.ref D),("ended",V.ref M)]:List (Str × V)))) p (HO.ins a.A3 f ([("looks",V.ref g),("books",V.ref u),("mixer",V.ref D),("ended",V.ref M),("place",V.int 0)]:List (Str × V)))) L (.lst [])):=fun b o e J=>yi (yd e am) (yi J (yi J e));generalize upd (upd (upd HD p (HO.ins a.A3 f ([("looks",V.ref g),("books",V.ref u),("mixer",V.ref D),("ended",V.ref M)]:List (Str × V)))) p (HO.ins a.A3 f ([("looks",V.ref g),("books",V.ref u),("mixer",V.ref D),("ended",V.ref M),("place",V.int 0)]:List (Str × V)))) L (.lst [])=HE at aP BE ⊢;rfl';have BF:But p HE (upd HE p (.ins a.A3 f (Ĉ (.ref g) (.ref u) (.ref D) (.ref M) (.int 0) (.ref L)))):=But.upd;have a8:upd HE p (.ins a.A3 f (Ĉ (.ref g) (.ref u) (.ref D) (.ref M) (.int 0) (.ref L))) p=some (.ins a.A3 f (Ĉ (.ref g) (.ref u) (.ref D) (.ref M) (.int 0) (.ref L))):=yc;generalize upd HE p (.ins a.A3 f (Ĉ (.ref g) (.ref u) (.ref D) (.ref M) (.int 0) (.ref L)))=HF at a8 BF ⊢;have ad:But p HC HF:=(BD.trans BE).trans BF;have a2:But p G HF:=fun b o e J=>ad b o (SC _ _ (BB b o e J)) J;have aw:=ad _ _ MC.o O;have az:=ad _ _ MC.l Z;have au:=ad _ _ aF af;have ar:=BF _ _ (BE _ _ ai W) W;refine ⟨p,f,g,u,D,M,L,0,[],n,0,bk,dx,lk,dd,kd,ps,f2,O2,fun i _=>kd0 (kd i),rfl,a8,au,ar,ax a2,gN.ag,n6,by omega,ac,fun pl sl f' O' H' aK aJ ah B' aU aV ae F' L'=>?_⟩
  have a5:∀ {c:Addr},c≠p->HF c=none->G c=none:=fun {c} J h=>by
   cases e:G c with
   | none=>rfl
   | some o=>rw [a2 _ _ e J] at h; cases h
  have ao:∀ j c,j < n->O2 j c->∃ o,G c=some o:=fun j c r w=>let ⟨o,ho,_⟩:=(gN.1.b j r).own c w; ⟨o,ho⟩
  have nO:∀ {c:Addr} {o:HO},HF c=some o->yx8 o=false->∀ j,j < n->¬ O2 j c:=fun {c o} e hi j r w=>by
   obtain ⟨o',aD,av⟩:=((ax a2).b j r).own c w;rw [e] at aD;cases aD;rw [hi] at av;cases av
  have aG:∀ j,j < n->¬ O2 j D:=fun j r w=>by
   obtain ⟨o,ho⟩:=ao j D r w;have e:=BB _ _ ho O;rw [a7] at e;cases e
  have R:∀ {c:Addr},c≠p->HA c=none->H c=none:=fun {c} J h=>by
   cases e:H c with
   | none=>rfl
   | some o=>rw [ab _ _ e J] at h; cases h
  have N:∀ {c:Addr},G c=none->HA c=none:=fun {c} h=>SG.free h
  have a9:∀ {c:Addr},c≠p->HB c=none->G c=none:=fun {c} J h=>by
   cases e:G c with
   | none=>rfl
   | some o=>rw [BB _ _ e J] at h; cases h
  have aE:∀ {c:Addr},HC c=none->HB c=none:=fun {c} h=>SC.free h;refine k ⟨f,g,u,D,mx,ml,M,pl,n,bk,dx,lk,dd,sl,kd,ps⟩ f' O' H' ⟨⟨aK,F' _ _ au af (nO au rfl),F' _ _ ar W (nO ar rfl),⟨F' _ _ aw O aG,F' _ _ az Z (nO az rfl)⟩,?_,aJ,⟨B'.look,fun i hi=>(B'.b i hi).up (by omega),B'.dj,B'.nb⟩,aU,aV,fun j r w=>?_,fun j r w=>?_,n1,n6⟩,rfl,rfl,rfl,rfl,fun j c r w=>?_,fun j r=>?_,?_,fun c hc=>?_,F' _ _ (a2 _ _ (SG _ _ I) a3) a3 (nO (a2 _ _ (SG _ _ I) a3) rfl),yd (SC _ _ (BB _ _ (SG _ _ I) a3)) X,al⟩ ?_
  .exact yxt n n1 n6
  .rcases ae j p r w with v | v
   .exact ac j r v
   .rw [a8] at v; cases v
  .rcases ae j D r w with v | v
   .exact aG j r v
   .rw [aw] at v; cases v
  .have ap:c≠p:=fun z=>by
    rw [z] at w;rcases ae j p r w with v | v
    .exact ac j r v
    .rw [a8] at v; cases v
   rcases ae j c r w with v | v
   .exact R ap (gN.2.2.1 j c r v)
   .exact R ap (N (a5 ap v))
  .have aO:bk j≠p:=fun z=>by
    have e:=gN.2.2.2 j r;rw [z,U] at e;cases e
   exact R aO (gN.2.2.2 j r)
  .exact R O (N (a9 O a7))
  .rcases hc with z | z | z | z
   .rw [z];exact R af Y
   .rw [z];exact R W (N (a9 W (aE X)))
   .rw [z];exact R Z (N (a9 Z aa))
   .rw [z];have ak:pl≠p:=(yd a8 ah).symm;exact R ak (N (a5 ak ah))
  .intro c o e J;refine F' c o (a2 _ _ (SG _ _ (ab c o e J)) J) J fun j r w=>?_;have e2:=gN.2.2.1 j c r w;rw [ab c o e J] at e2;cases e2
theorem yce:∀ (ts:List Int) (q j:Nat) (s:Int),ts[q]?=some s->j <= 8->(dec ts)[9 * q+j]?=(1 :: b8 s)[j]?
 | [],_,_,_,h,_=>by simp at h
 | t :: r,0,j,s,h,hj=>by
  have e:t=s:=by simpa using h
  subst e;show ((1 :: b8 t)++dec r)[9 * 0+j]?=_;rw [Nat.mul_zero,Nat.zero_add,d9 (by rw [dW,ymq]; omega)]
 | t :: r,q+1,j,s,h,hj=>by
  have b:r[q]?=some s:=by simpa using h
  show ((1 :: b8 t)++dec r)[9 * (q+1)+j]?=_;have a:(1 :: b8 t).length=9:=rfl;rw [ee (by rw [a]; omega),a,show 9 * (q+1)+j - 9=9 * q+j by omega];exact yce r q j s b hj
theorem ynx (ts:List Int):(dec ts)[9 * ts.length]?=some 0:=by
 rw [yko,ee (by rw [zv]; exact dh _),zv,Nat.sub_self];rfl
def ybb (ts:List Int) (k:Nat) (sg:List Int) (nd:Int):Prop:=∃ q j:Nat,k=9 * q+j/\j <= 8/\sg=ts.take q/\((j=0/\nd=0/\q <= ts.length)\/(1 <= j/\∃ s,ts[q]?=some s/\nd=(256+s) / 2 ^ (9 - j)))
theorem yyr {s P c:Int} (h:0 <= s/\s <= 255) (hP:2 <= P) (hc:P * (2 * c)=256) (c1:1 <= c/\c <= 64):0 < (256+s) / (2 * P)/\2 * ((256+s) / (2 * P))+s / P % 2 < 256/\2 * ((256+s) / (2 * P))+s / P % 2=(256+s) / P:=by
 have a:(256+s) / P=s / P+2 * c:=by rw [<- hc,Int.add_comm,Int.add_mul_ediv_left _ _ (by omega)]
 have b:(256+s) / (2 * P)=(s / P+2 * c) / 2:=by rw [<- a,Int.ediv_ediv_of_nonneg (show 0 <= P by omega),Int.mul_comm]
 have d:=Int.ediv_nonneg h.1 (show 0 <= P by omega);have e:=Int.ediv_lt_of_lt_mul (show 0 < P by omega) (show s < 128 * P by omega);rw [a,b];generalize s / P=y at d e;clear hc a b hP h;omega
theorem nd9 {s:Int} (h:0 <= s/\s <= 255) (h1:1 <= j) (hj:j <= 8):0 < (256+s) / 2 ^ (9 - j)/\(256+s) / 2 ^ (9 - j) < 256:=by
 have a:∀ j,j < 9->1 <= j->(2:Int) <= 2 ^ (9 - j)/\(2:Int) ^ (9 - j) <= 256:=by decide
 obtain ⟨b,c⟩:=a j (Nat.lt_succ_of_le hj) h1;generalize (2:Int) ^ (9 - j)=K at b c;exact ⟨Int.le_ediv_of_mul_le (by omega) (by omega),Int.ediv_lt_of_lt_mul (by omega) (by omega)⟩
theorem ybb.zero (ts:List Int):ybb ts 0 [] 0:=⟨0,0,rfl,by omega,by simp,.inl ⟨rfl,rfl,dJ _⟩⟩
theorem ybb.nd {k:Nat} {sg:List Int} {nd:Int} (h:ybb ts k sg nd) (hs:Sgs ts):0 <= nd/\nd < 256:=by
 obtain ⟨q,j,_,d,_,h⟩:=h;rcases h with ⟨_,h,_⟩ | ⟨e,s,c,h⟩
 .omega
 .obtain ⟨a,b⟩:=nd9 (hs s (dI c)) e d;rw [h];exact ⟨Int.le_of_lt a,b⟩
theorem ybb.len {k:Nat} {sg:List Int} {nd:Int} (h:ybb ts k sg nd):sg.length <= ts.length:=by
 obtain ⟨q,j,_,_,a,_⟩:=h;rw [a,dM];omega
theorem ybb.next {k:Nat} {sg:List Int} {nd b:Int} (h:ybb ts k sg nd) (hs:Sgs ts) (hb:(dec ts)[k]?=some b) :
  (k < 9 * ts.length/\ybb ts (k+1) (sgN sg nd b) (ndN nd b))\/(k=9 * ts.length/\sgN sg nd b=[]/\ndN nd b=0):=by
 obtain ⟨q,j,p,w,g,h⟩:=h;rcases h with ⟨u,d,B⟩ | ⟨D,s,a,d⟩
 .subst u;rcases Nat.lt_or_ge q ts.length with m | m
  .refine .inl ⟨by omega,?_⟩;have e:=yce ts q 0 ts[q] (df m) (by omega);rw [<- p,hb] at e;have e:b=1:=by simpa using e
   have:=hs ts[q] (ei m);unfold sgN ndN;rw [if_neg (by omega),if_pos e,if_neg (by omega),if_pos e];refine ⟨q,1,by omega,by omega,g,.inr ⟨by omega,ts[q],df m,?_⟩⟩;simp only [Nat.reduceSub,Int.reducePow];omega
  .have r:q=ts.length:=by omega
   have e:=ynx ts;rw [<- r,show 9 * q=k by omega,hb] at e;have e:b=0:=by simpa using e
   refine .inr ⟨by omega,?_,?_⟩
   .unfold sgN;rw [if_neg (by omega),if_neg (by omega)]
   .unfold ndN;rw [if_neg (by omega),if_neg (by omega)];exact d
 .have n:=hs s (dI a);have m:q < ts.length:=(d8.mp a).1;have e:=yce ts q j s a w;rw [<- p,hb] at e
  have l:some b=(b8 s)[j - 1]?:=by
   obtain ⟨i,rfl⟩:∃ i,j=i+1:=⟨j - 1,by omega⟩;simpa using e
  refine .inl ⟨by omega,?_⟩;by_cases h8:j=8
  .subst h8;have l:b=s / 1 % 2:=dD l;simp only [Nat.reduceSub,Int.reducePow] at d;have A:2 * nd+b=256+s:=by omega
   unfold sgN ndN;rw [if_pos (by omega),if_pos (by omega),if_pos (by omega),if_pos (by omega)];refine ⟨q+1,0,by omega,by omega,?_,.inl ⟨rfl,rfl,by omega⟩⟩;rw [g,show 2 * nd+b - 256=s by omega,ρ a]
  .have o:0 < nd/\2 * nd+b < 256/\2 * nd+b=(256+s) / 2 ^ (9 - (j+1)):=by
    have k:∀ P c:Int,2 <= P->P * (2 * c)=256->1 <= c/\c <= 64->nd=(256+s) / (2 * P)->b=s / P % 2->0 < nd/\2 * nd+b < 256/\2 * nd+b=(256+s) / P:=fun P c x y z e f=>by
     rw [e,f];exact yyr n x y z
    clear p hb e g m hs;obtain rfl | rfl | rfl | rfl | rfl | rfl | rfl:j=1\/j=2\/j=3\/j=4\/j=5\/j=6\/j=7:=by omega
    .exact k 128 1 (by decide) rfl (by decide) d (dD l)
    .exact k 64 2 (by decide) rfl (by decide) d (dD l)
    .exact k 32 4 (by decide) rfl (by decide) d (dD l)
    .exact k 16 8 (by decide) rfl (by decide) d (dD l)
    .exact k 8 16 (by decide) rfl (by decide) d (dD l)
    .exact k 4 32 (by decide) rfl (by decide) d (dD l)
    .exact k 2 64 (by decide) rfl (by decide) d (dD l)
   obtain ⟨t,C,v⟩:=o;unfold sgN ndN;rw [if_pos t,if_neg (by omega),if_pos t,if_neg (by omega)];exact ⟨q,j+1,by omega,by omega,g,.inr ⟨by omega,s,a,v⟩⟩
theorem ul.up {H:Hp} {p:Addr} {A:FA} {X:FX} {f:Nat->List Int->Option Slt} {m:Nat} (h:ul K a H p A X f O m) (hm:m <= m'):ul K a H p A X f O m' :=
 ⟨h.me,h.bl,h.el,h.mx,h.wok,h.pl,⟨h.B.look,fun i c=>(h.B.b i c).up hm,h.B.dj,h.B.nb⟩,h.ag,h.at',h.np,h.nm,h.n1,h.n6⟩
structure Lw (K:W.Frag) (a:Ads) (H:Hp) (p:Addr) (A:FA) (X:FX) (f:Nat->List Int->Option Slt) (O:Nat->Addr->Prop) (m:Nat) (bk dx dd:Nat->Addr) (f2:Nat->List Int->Option Slt) (O2:Nat->Addr->Prop) (mp mx ml:Addr) (ws:List Int):Prop where
 ft:ul K a H p A X f O m
 bs:Bks K a H A.n bk dx A.lk dd A.kd A.ps f2 O2 m
 mx:yi0 a mp mx ml ws H
 dj:∀ i j c,i < A.n->j < A.n->O i c->¬ O2 j c
 n1:∀ i j,i < A.n->j < A.n->¬ O i (bk j)
 n2:∀ i j,i < A.n->j < A.n->¬ O2 i (A.bk j)
 n3:∀ i,i < A.n->¬ O2 i p/\¬ O2 i A.mp/\¬ O2 i mp/\¬ O i mp
 n4:mp≠A.mp
 n5:ml≠A.el
section
variable {H H':Hp} {p:Addr} {A:FA} {X:FX} {f:Nat->List Int->Option Slt} {m:Nat} {bk dx dd:Nat->Addr} {f2:Nat->List Int->Option Slt} {mp mx ml:Addr} {ws:List Int}
theorem uc {C d e:Addr} {fs gs:List (Str × V)} (hp:H p=some (.ins C d fs)) (hq:H q=some (.ins D e gs)) (hl:fs.length≠gs.length):p≠q:=fun z=>by
 rw [z,hq] at hp;injection hp with hp;injection hp with _ _ e;exact hl (congrArg List.length e).symm
end
def KpA (B G:Hp) (e0 e:Addr):Prop:=∀ c o,B c=some o->yx8 o=false->c≠e0->c≠e/\G c=some o
theorem KpA.lst {B G:Hp} {e0 e c:Addr} {xs:List V} (h:KpA B G e0 e) (hc:B c=some (.lst xs)) (ne:c≠e0):G c=some (.lst xs):=(h c _ hc rfl ne).2
def TxE (ts:List Int) (k:Nat) (sg:List Int) (nd:Int):Prop:=(k <= 9 * ts.length/\ybb ts k sg nd)\/(k=9 * ts.length+1/\sg=[]/\nd=0)
theorem TxE.next {k:Nat} {sg:List Int} {nd b:Int} (h:TxE ts k sg nd) (hs:Sgs ts) (hb:(dec ts)[k]?=some b):ybb ts k sg nd/\TxE ts (k+1) (sgN sg nd b) (ndN nd b):=by
 rcases h with ⟨c,h⟩ | ⟨c,_⟩
 .refine ⟨h,?_⟩;rcases h.next hs hb with ⟨e,a⟩ | ⟨e,a,d⟩
  .exact .inl ⟨by omega,a⟩
  .exact .inr ⟨by omega,a,d⟩
 .rw [c,dP (by rw [x9]; exact dh _)] at hb;cases hb
theorem yv2:yk ["self"] ["self"] (yg ypp):=w4 (by right)
inductive î (K:W.Frag) (a:Ads) (vs:List V) (H:Hp) (Q:VK) (E':XK):Prop
 | mk (p:Addr) (A:FA) (X:FX) (f:Nat->List Int->Option Slt) (O:Nat->Addr->Prop) (m:Nat):(vs=[.ref p])->(ul K a H p A X f O m)->(∀ r H',H r=none->H' r=some (.lst ((X.cs A).map V.int))->yw H H'->Q (.ref r) H')->î K a vs H Q E'
theorem yk6 (T:Txt K mg a):wc P w K mg base CX0 2 a.Js a.Jt ["self"] (î K a):=by
 exists T.Ds.F.ok,yv2,l;obtain ⟨p,c,X,f,O,m,rfl,h,k⟩:=h;have M:=h.me;have L:=h.n6;refine ⟨_,(yf (yv (wg (js:=[]) (ys:=[]) rfl (wd (yp (pv 0) rfl)) (fun C R r N=>(yd9 (wy (pv 0) T.Bp T.Gw.m (ytq T) (l.mono (by decide)) T.Gw.B .nil vh) (yd9 (wy (pv 0) T.Cg T.Gz.m (ywo T) (l.mono (by decide)) T.Gz.B .nil vh) (wy (pv 0) T.Ci T.Hb.m (ywp T) (l.mono (by decide)) T.Hb.B .nil vh)))) rfl rfl (hyc:=yx) (hrel:=yx)))),?_⟩;exists 1,0;rfl';refine ⟨c.pl,rfl,⟨_,SqL.of h.pl⟩,fun D o=>?_⟩;refine ur (K:=K) (xs:=refs c.sl c.n) (Mp H D (fun i=>V.int (X.g i (X.key c i)).due)) (Mp.zero o) (fun _ _ _ q=>q.1.seq (SqL.of h.pl)) (fun i y r u G q=>?_) (fun r q=>?_)
 .obtain ⟨d,b⟩:=q;obtain ⟨rfl,e⟩:=uz u;obtain ⟨_,⟨J,t⟩,z,_⟩:=h.slot e;refine yf5 (fun I h=>yx4 rfl h) (d _ _ t) z ?_;exact Mp.doneR o (vo (by rw [vz]; omega)) G d b rfl
 .obtain ⟨d,b⟩:=q;rw [vz] at b;refine k D _ o ?_ d;rw [b];unfold FX.cs;rw [dX];rfl
theorem yvm:yk ["self"] ["self"] (yg yqv):=w4 (by right)
inductive Ĝ (K:W.Frag) (a:Ads) (vs:List V) (H:Hp) (Q:VK) (E':XK):Prop
 | mk (p:Addr) (A:FA) (X:FX) (f:Nat->List Int->Option Slt) (O:Nat->Addr->Prop) (m:Nat):(vs=[.ref p])->(ul K a H p A X f O m)->(∀ H',yw H H'->Q (.int (yne X.ws (X.cs A))) H')->Ĝ K a vs H Q E'
theorem yl5 (T:Txt K mg a):wc P w K mg base CX0 3 a.Ju a.Jv ["self"] (Ĝ K a):=by
 exists T.Dt.F.ok,yvm,e;obtain ⟨p,b,X,f,O,m,rfl,h,k⟩:=h;have v:=h.me;have t:=h.mx.o;refine ⟨_,(yf (yv (xr (yp (pv 0) rfl) T.Hv T.He.m (yup T) (e.mono (by decide)) T.He.B .nil vh (ya (wy (pv 0) T.Ag T.Ds.m (yk6 T) (e.mono (by decide)) T.Ds.B .nil vh) ye (yb rfl))))),?_⟩;exists 1,0;rfl';refine ⟨p,b,X,f,O,m,rfl,h,fun r x i d g=>?_⟩;rfl';exact ⟨b.mp,b.mx,b.ml,r,X.ws,X.cs b,b.n,rfl,h.n1,h.n6,h.wok,h.cok,h.mx.same g,SqL.of d,fun u q=>k _ (g.trans q)⟩
theorem ywt:yk ["self","bit"] ["self","bit"] (yg yrv):=w4 (by right)
inductive yhk (a:Ads) (vs:List V) (H:Hp) (Q:VK) (E':XK):Prop
 | mk (p dp ll bl mp el pl:Addr) (nd b:Int) (sg:List Int):(vs=[.ref p,.int b])->(H p=some (.ins a.A3 dp (Ĉ (.ref ll) (.ref bl) (.ref mp) (.ref el) (.int nd) (.ref pl))))->(H el=some (.lst (sg.map V.int)))->(sg.length <= 100000)->(0 < nd)->(∀ H',H' p=some (.ins a.A3 dp (Ĉ (.ref ll) (.ref bl) (.ref mp) (.ref el) (.int (ndN nd b)) (.ref pl)))->H' el=some (.lst ((sgN sg nd b).map V.int))->(∀ c o,H c=some o->c≠p->c≠el->H' c=some o)->Q .non H')->yhk a vs H Q E'
theorem yvs (T:Txt K mg a):wc P w K mg base CX0 1 a.K1 a.K2 ["self","bit"] (yhk a):=by
 exists T.Hh.F.ok,ywt,N;obtain ⟨p,l,m,r,q,g,n,f,b,C,rfl,L,B,M,y,k⟩:=h;refine ⟨_,(yh (ve (pv 0) (yr wx (yr xa yj (yp (pv 0) rfl)) (pv 1)) rfl) (yf (wu (yy yzn (yp (pv 0) rfl) (vq rfl T.Dj) (vg _)) (yh (yu (Ä PySem.F.plainAttrs_list PySem.F.slot_list_append PySem.F.type_list_append w9 (yp (pv 0) rfl) (ya (yr uu (yp (pv 0) rfl) (vq rfl T.Dj)) ye (yb rfl)))) (yf (ve (pv 0) yj rfl))) y9))),?_⟩;exists 2,0;unfold ndN sgN at k;rw [if_pos y,if_pos y] at k;have j:g≠p:=xh B L (by intro z; cases z);rfl';have i:upd H p (.ins a.A3 l (Ĉ (.ref m) (.ref r) (.ref q) (.ref g) (.int (2 * f+b)) (.ref n))) p=some (.ins a.A3 l (Ĉ (.ref m) (.ref r) (.ref q) (.ref g) (.int (2 * f+b)) (.ref n))):=yc;have d:=yi (o':=HO.ins a.A3 l (Ĉ (.ref m) (.ref r) (.ref q) (.ref g) (.int (2 * f+b)) (.ref n))) j B;have v:But p H (upd H p (.ins a.A3 l (Ĉ (.ref m) (.ref r) (.ref q) (.ref g) (.int (2 * f+b)) (.ref n)))):=But.upd;generalize upd H p (.ins a.A3 l (Ĉ (.ref m) (.ref r) (.ref q) (.ref g) (.int (2 * f+b)) (.ref n)))=O at i d v ⊢;rfl';refine zd (fun t=>?_) (fun t=>?_)
 .rw [if_pos t,if_pos t] at k;rfl';refine z8 d ?_;rfl';refine ub d (vo (by rw [cH]; omega)) ?_;have G:=yi (o':=HO.lst (List.map V.int C++[V.int (2 * f+b - 256)])) (Ne.symm j) i;rfl';refine k _ yc ?_ fun c o e u D=>yi u (yi D (v _ _ e u));rw [yn j,yc,dF];rfl
 .rw [if_neg t,if_neg t] at k;rfl';exact k _ i d fun c o e u D=>v _ _ e u
theorem yu4:yk ["self","bit"] ["self","bit"] (yg yqr):=w4 (by right)
inductive ydt (a:Ads) (vs:List V) (H:Hp) (Q:VK) (E':XK):Prop
 | mk (p dp ll bl mp el pl:Addr) (nd b:Int) (sg:List Int):(vs=[.ref p,.int b])->(H p=some (.ins a.A3 dp (Ĉ (.ref ll) (.ref bl) (.ref mp) (.ref el) (.int nd) (.ref pl))))->(H el=some (.lst (sg.map V.int)))->(sg.length <= 100000)->(0 <= nd)->(∀ (el':Addr) H',(el'=el\/H el'=none)->H' p=some (.ins a.A3 dp (Ĉ (.ref ll) (.ref bl) (.ref mp) (.ref el') (.int (ndN nd b)) (.ref pl)))->H' el'=some (.lst ((sgN sg nd b).map V.int))->(∀ c o,H c=some o->c≠p->c≠el->H' c=some o)->(∃ o,H' el=some o)->Q .non H')->ydt a vs H Q E'
theorem ywf (T:Txt K mg a):wc P w K mg base CX0 2 a.Jy a.Jz ["self","bit"] (ydt a):=by
 exists T.Hg.F.ok,yu4,S;obtain ⟨p,u,v,I,y,f,x,C,b,G,rfl,l,g,J,W,k⟩:=h;refine ⟨_,(yf (wu (yy yco (yp (pv 0) rfl) yj (vg _)) (yf (yu (xr (pv 0) T.Ag T.Hh.m (yvs T) (S.mono (by decide)) T.Hh.B .nil vh (ya (pv 1) ye (yb rfl))))) (yf (wu (yy uk (pv 1) yj (vg _)) (yf (ve (pv 0) yj rfl)) (yf (ve (pv 0) (wq ye) rfl)))))),?_⟩;exists 2,0;have d:f≠p:=xh g l (by intro z; cases z);rfl';refine zd (fun j=>?_) (fun j=>?_)
 .rfl';exact ⟨p,u,v,I,y,f,x,C,b,G,rfl,l,g,J,j,fun U M D L=>k f U (.inl rfl) M D L ⟨_,D⟩⟩
 .unfold ndN sgN at k;rw [if_neg j,if_neg j] at k;rfl';refine zd (fun i=>?_) (fun i=>?_)
  .rw [if_pos i,if_pos i] at k;rfl';exact k f _ (.inl rfl) yc (yi d g) (fun c o e q _=>yi q e) ⟨_,yi d g⟩
  .rw [if_neg i,if_neg i] at k;rfl';refine ⟨by walk_at "len",fun r hr0=>?_⟩
   with_reducible first | refine y6 hr0 fun H1 S1 e1=>?_ | refine vi hr0 fun H1 S1 e1=>?_
   have R:=S1 _ _ l;rfl';have t:r≠p:=fun z=>by rw [z,l] at hr0; cases hr0
   exact k r _ (.inr hr0) yc (yi t e1) (fun c o e q _=>yi q (S1 _ _ e)) ⟨_,yi d (S1 _ _ g)⟩
abbrev FA.re (A:FA) (ml el pl:Addr) (sl:Nat->Addr):FA:={ A with ml:=ml,el:=el,pl:=pl,sl:=sl }
def FX.run (A:FA) (X:FX):List Int->FX
 | []=>X
 | b :: r=>FX.run A (X.see A b) r
theorem jr (A:FA):∀ (bs cs:List Int) (X:FX),X.run A (bs++cs)=(X.run A bs).run A cs
 | [],_,_=>rfl
 | b :: r,cs,X=>jr A r cs (X.see A b)
theorem yj0 (A:FA) (bs:List Int) (b:Int) (X:FX):X.run A (bs++[b])=(X.run A bs).see A b:=jr A bs [b] X
def fa0 (n:Nat) (ps:Nat->List Int):FA:={ dp:=0,ll:=0,bl:=0,mp:=0,mx:=0,ml:=0,el:=0,pl:=0,n:=n,bk:=fun _=>0,dx:=fun _=>0,lk:=fun _=>0,dd:=fun _=>0,sl:=fun _=>0,kd:=fun _=>0,ps:=ps }
theorem Ă (A:FA):∀ (bs:List Int) (X:FX),X.run A bs=X.run (fa0 A.n A.ps) bs
 | [],_=>rfl
 | b :: r,X=>Ă A r (X.see A b)
def yx9 (H:Hp) (A:FA):Prop:=H A.ll=some (.lst (refs A.lk A.n))/\A.ll≠A.el/\∃ tp,xw H A.n A.lk A.kd tp A.ps
theorem yx9.same {H H':Hp} {A:FA} (h:yx9 H A) (S:yw H H'):yx9 H' A:=⟨S _ _ h.1,h.2.1,let ⟨tp,r⟩:=h.2.2; ⟨tp,r.same S⟩⟩
structure Go (W:Addr->Prop) (H H':Hp) (W':Addr->Prop):Prop where
 fr:∀ c o,H c=some o->¬ W c->H' c=some o
 nw:∀ c,W' c->W c\/H c=none
 lv:∀ c o,H c=some o->∃ o',H' c=some o'
theorem Go.free {W:Addr->Prop} {H H':Hp} (h:Go W H H' W') {c:Addr} (e:H' c=none):H c=none:=by
 cases z:H c with
 | none=>rfl
 | some o =>
  obtain ⟨a,w⟩:=h.lv c o z;rw [e] at w;cases w
theorem Go.refl {W:Addr->Prop} {H:Hp}:Go W H H W:=⟨fun _ _ e _=>e,fun _ w=>.inl w,fun _ o e=>⟨o,e⟩⟩
theorem Go.trans {W W1 W2:Addr->Prop} {H H1 H2:Hp} (h:Go W H H1 W1) (k:Go W1 H1 H2 W2):Go W H H2 W2:=by
 refine ⟨fun c o e a=>k.fr c o (h.fr c o e a) fun w=>?_,fun c w=>?_,fun c o e=>?_⟩
 .rcases h.nw c w with v | v
  .exact a v
  .rw [e] at v;cases v
 .rcases k.nw c w with v | v
  .exact h.nw c v
  .exact .inr (h.free v)
 .obtain ⟨b,d⟩:=h.lv c o e;exact k.lv c b d
theorem Go.same {W:Addr->Prop} {H H1 H2:Hp} (h:Go W H H1 W') (S:yw H1 H2):Go W H H2 W':=⟨fun c o e a=>S _ _ (h.fr c o e a),h.nw,fun c o e=>let ⟨o',w⟩:=h.lv c o e; ⟨o',S _ _ w⟩⟩
theorem Go.ahead {W:Addr->Prop} {H H1 H2:Hp} (S:yw H H1) (h:Go W H1 H2 W'):Go W H H2 W':=⟨fun c o e=>h.fr c o (S _ _ e),fun c w=>(h.nw c w).imp id S.free,fun c o e=>h.lv c o (S _ _ e)⟩
theorem Go.apart {W:Addr->Prop} {H H':Hp} (h:Go W H H' W') (hU:∀ c,U c->∃ o,H c=some o) (dj:∀ c,U c->¬ W c):∀ c,U c->¬ W' c:=fun c u w=>by
 rcases h.nw c w with v | v
 .exact dj c u v
 .obtain ⟨o,e⟩:=hU c u;rw [v] at e;cases e
section
variable {H H':Hp} {p:Addr} {n:Nat} {kd:Nat->Fin 3} {ps:Nat->List Int} {X:FX} {M:Nat} {W:Addr->Prop}
theorem yos {g:Nat->Addr} (h:1 <= n):(refs g n)[0]?=some (.ref (g 0)):=by
 unfold refs;rw [dm,ez h];rfl
end
theorem ylm:yk ["self","bit","slot"] ["self","bit"] (yg yp6):=w4 (by right)
inductive yhd (K:W.Frag) (a:Ads) (vs:List V) (H:Hp) (Q:VK) (E':XK):Prop
 | mk (p:Addr) (A:FA) (X:FX) (f:Nat->List Int->Option Slt) (O:Nat->Addr->Prop) (m:Nat) (b:Int):(vs=[.ref p,.int b])->(ul K a H p A X f O m)->(0 <= b)->(b <= 1)->(m+20 < 1000000)->(0 <= X.nd)->(X.sg.length <= 100000)->(∀ (ml el pl:Addr) (sl:Nat->Addr) (f':Nat->List Int->Option Slt) (O':Nat->Addr->Prop) (H':Hp),(el=A.el\/H el=none)->ul K a H' p { A with ml:=ml,el:=el,pl:=pl,sl:=sl } (X.see A b) f' O' (m+A.n)->(∀ j c,j < A.n->O' j c->O j c\/H c=none) ->
  (∀ c o,H c=some o->c≠p->c≠A.mp->c≠A.el->(∀ j,j < A.n->¬ O j c)->H' c=some o)->(∀ c o,H c=some o->∃ o',H' c=some o')->H ml=none->Q .non H')->yhd K a vs H Q E'
theorem yif (T:Txt K mg a):wc P w K mg base CX0 6 a.Jw a.Jx ["self","bit"] (yhd K a):=by
 exists T.Cs.F.ok,ylm,hr;obtain ⟨p,d,X,f,O,m,b,rfl,h,b0,b1,hm,as,az,k⟩:=h;have hp:=h.me;have ab:=h.mx.o;have n6:=h.n6;have I:=yt5 b0 b1;refine yo (yu (vj (Ą T) (hr.mono (by decide)) rfl T.Aj.m T.Aj.F.kp T.Aj.B .nil vt (ya (pv 1) ye (yb rfl)))) ?_;refine yo (yu (vn (yp (pv 0) rfl) T.Hv T.Hf.m (yvt T) (hr.mono (by decide)) T.Hf.B .nil vt (ya (wy (pv 0) T.Ag T.Ds.m (yk6 T) (hr.mono (by decide)) T.Ds.B .nil vh) (ya (pv 1) ye (yb rfl)) (yb rfl)))) ?_;refine yo (za PassesOwn.never rfl (wd (yp (pv 0) rfl)) (wb (i:=2) ylm.nd rfl (Or.inl rfl)) (yf (yu (yd9 (vn (pv 2) T.Bp T.Gy.m (ytw T) (hr.mono (by decide)) T.Gy.B .nil vt (ya (pv 1) ye (yb rfl))) (yd9 (vn (pv 2) T.Cg T.Ha.m (ytx T) (hr.mono (by decide)) T.Ha.B .nil vt (ya (pv 1) ye (yb rfl))) (vn (pv 2) T.Ci T.Hc.m (ytt T) (hr.mono (by decide)) T.Hc.B .nil vt (ya (pv 1) ye (yb rfl)))))))) ?_;refine yo (yu (xr (pv 0) T.Ag T.Hg.m (ywf T) (hr.mono (by decide)) T.Hg.B .nil vh (ya (pv 1) ye (yb rfl)))) ?_;refine ⟨_,(yf (yu (wy (pv 0) T.Ag T.Dr.m (ylb T) (hr.mono (by decide)) T.Dr.B .nil vh))),?_⟩;exists 2,1;rfl';refine ⟨.int b,_,rfl,.int b,fun _=>?_,fun z=>(by rw [I] at z; cases z)⟩;rfl';refine ⟨p,d,X,f,O,m,rfl,h,fun r H1 aG aq S1=>?_⟩;have M:=S1 _ _ ab;rfl';refine ⟨d.mp,d.mx,d.ml,r,X.ws,X.cs d,d.n,.int b,_,rfl,h.n1,n6,h.wok,h.cok,h.mx.same S1,SqL.of aq,.int b,fun b' e _ _ ml H2 a5 M2 U=>?_,fun z=>(by rw [I] at z; cases z)⟩;cases e;have N:=h.same S1
 have aa:p≠d.mp:=fun z=>by
  have:=h.me;rw [z,ab] at this;injection this with this;injection this with _ _ e;exact absurd (congrArg List.length e) (show ¬ (1=6) by decide)
 have au:=U _ _ N.me aa;have a8:∀ {l:Addr} {xs:List V},H1 l=some (.lst xs)->l≠d.mp:=fun {l xs} e z=>by rw [z,M] at e; cases e
 have a7:=U _ _ N.bl (a8 N.bl);have a6:=U _ _ N.el (a8 N.el);have Z:=U _ _ N.pl (a8 N.pl)
 have a1:=N.B.frame (O2:=fun c=>c=d.mp) (fun c o e ne=>U c o e ne) (fun j c q w z=>h.nm j q (z ▸ w)) (fun j q z=>by
  have:=(N.B.b j q).me;rw [z,M] at this;injection this with this;injection this with _ _ e
  exact absurd (congrArg List.length e) (show ¬ (1=2) by decide)) (fun t xs e=>by
  rcases e with (e | ⟨o,e⟩) | e
  .exact .inl (.inl (U _ _ e (fun z=>by rw [z,M] at e; cases e)))
  .exact .inl (.inr ⟨o,U _ _ e (fun z=>by rw [z,M] at e; cases e)⟩)
  .exact .inr e)
 have ao:∀ j,j < d.n->(∃ s,f j (X.key d j)=some s)/\AtS H2 (d.dd j) (X.key d j) (d.sl j):=fun j q=>⟨(N.at' j q).1,(N.at' j q).2.told (N.B.b j q) (fun z=>h.nm j q (by rw [<- z]; exact (N.B.b j q).dO)) U⟩;rfl';refine ⟨d.pl,rfl,⟨_,SqL.of Z⟩,x5 (K:=K) (a:=d.pl) (xs:=refs d.sl d.n) (fun i σ2 G=>∃ (v:Option V) (f':Nat->List Int->Option Slt),σ2=[some (.ref p),some (.int b),v]/\Bks K a G d.n d.bk d.dx d.lk d.dd d.kd d.ps f' O m /\
   (∀ j,j < d.n->∀ k,(f' j k).getD (kd0 (d.kd j))=if j < i/\k=X.key d j then (X.g j k).see b else X.g j k)/\(∀ j,j < d.n->(∃ s,f' j (X.key d j)=some s)/\AtS G (d.dd j) (X.key d j) (d.sl j))/\(∀ c o,H2 c=some o->(∀ j,j < d.n->¬ O j c)->G c=some o))
  ⟨_,f,rfl,a1,fun j q L=>by rw [if_neg (fun z=>absurd z.1 (dN j))]; exact h.ag j q L,ao,fun c o e _=>e⟩ (by rintro i σ2 G _ ⟨_,_,_,_,_,_,w⟩; exact SqL.of (w _ _ Z (a1.nlst Z))) ?_ ?_⟩
 .rintro i y σ2 G hy ⟨v,f',rfl,S,gA,gS,gF⟩;obtain ⟨rfl,D⟩:=uz hy;obtain ⟨⟨s',a9⟩,ac⟩:=gS i D
  have es:s'=X.g i (X.key d i):=by
   have:=gA i D (X.key d i);rw [a9,if_neg (fun z=>absurd z.1 (eL i))] at this;exact this
  obtain ⟨dq,hq,ok,aJ,ap⟩:=(S.b i D).slot a9 ac;rfl';refine ypi (x:=.int b) (fun Q' h=>?_) (fun Q' h=>?_) hq ok (.int b) (fun b' e _ _ G3 h3 B3=>?_) (fun z=>by rw [I] at z; cases z) (fun z=>by rw [I] at z; cases z) (fun z=>by rw [I] at z; cases z)
  .rfl';exact h
  .rfl';exact h
  cases e;have ay:=(S.b i D).told a9 ac b0 b1 h3 B3;have BO:ykr (O i) G G3:=fun c o e no=>B3 _ _ e fun z=>no (by rw [z]; exact ap);have M3:=S.move D (dh m) ay (fun c w=>.inl w) BO
  have eO:(fun j=>if j=i then O i else O j)=O:=by
   funext j
   by_cases z:j=i
   .rw [if_pos z,z]
   .rw [if_neg z]
  rw [eO] at M3
  have av:d.dd i≠d.sl i:=fun z=>by
   obtain ⟨aH,aK,w1,_⟩:=(S.b i D).tb;obtain ⟨C,fs,eo⟩:=Ĵ a dq s';rw [z,hq,eo] at w1;cases w1
  rfl';refine ⟨_,_,rfl,M3,fun j q L=>?_,fun j q=>?_,fun c o e no=>?_⟩
  .try dsimp only
   by_cases z:j=i
   .subst z;rw [if_pos rfl];unfold Ť;by_cases w:L=X.key d j
    .rw [if_pos w,if_pos ⟨eY j,w⟩,w,<- es];rfl
    .rw [if_neg w,if_neg (fun z=>w z.2)];have:=gA j q L;rw [if_neg (fun z=>w z.2)] at this;exact this
   .rw [if_neg z,gA j q L];have:(j < i/\L=X.key d j) ↔ (j < i+1/\L=X.key d j):=by constructor <;> (rintro ⟨u,v⟩; exact ⟨by omega,v⟩)
    by_cases w:j < i/\L=X.key d j
    .rw [if_pos w,if_pos (this.mp w)]
    .rw [if_neg w,if_neg (fun z=>w (this.mpr z))]
  .try dsimp only
   by_cases z:j=i
   .subst z;rw [if_pos rfl];refine ⟨⟨s'.see b,?_⟩,ac.told (S.b j D) av B3⟩;unfold Ť;rw [if_pos rfl]
   .rw [if_neg z];exact ⟨(gS j q).1,(gS j q).2.move S q D z BO⟩
  .exact BO _ _ (gF c o e no) (no i D)
 .rintro σ2 G ⟨v,f',rfl,S,gA,gS,gF⟩;rw [vz] at gA;have gp:=gF _ _ au h.np;have R:=gF _ _ a6 (a1.nlst a6);have ah:=gF _ _ a7 (a1.nlst a7);have Y:=gF _ _ M2.o h.nm;have af:=gF _ _ M2.l (a1.nlst M2.l);rfl';refine ⟨p,d.dp,d.ll,d.bl,d.mp,d.el,d.pl,X.nd,b,X.sg,rfl,gp,R,az,as,fun el H4 aj ae a3 F4 L4=>?_⟩;have ai:∀ {l:Addr} {xs:List V},G l=some (.lst xs)->l≠p:=fun {l xs} e z=>by rw [z,gp] at e; cases e
  have ax:∀ j,j < d.n->¬ O j p:=h.np;have ak:=S.nlst R
  have a4:=S.frame (O2:=fun c=>c=p\/c=d.el) (fun c o e ne=>F4 c o e (fun z=>ne (.inl z)) (fun z=>ne (.inr z))) (fun j c q w z=>by
   rcases z with z | z
   .exact ax j q (z ▸ w)
   .exact ak j q (z ▸ w)) (fun j q z=>by
   have:=(S.b j q).me;rcases z with z | z
   .rw [z,gp] at this;injection this with this;injection this with _ _ e;exact absurd (congrArg List.length e) (show ¬ (6=2) by decide)
   .rw [z,R] at this
    cases this) (fun t xs e=>by
   rcases e with (e | ⟨o,e⟩) | e
   .exact .inl (.inl (F4 _ _ e (fun z=>by rw [z,gp] at e; cases e) (fun z=>by rw [z,R] at e; cases e)))
   .exact .inl (.inr ⟨o,F4 _ _ e (fun z=>by rw [z,gp] at e; cases e) (fun z=>by rw [z,R] at e; cases e)⟩)
   .exact .inr e)
  have al:d.bl≠d.el:=fun z=>by
   have e:=h.bl;rw [z,h.el] at e;injection e with e;injection e with e;have e0:=congrArg (fun l:List V=>l[0]?) e
   have r0:(refs d.bk d.n)[0]?=some (.ref (d.bk 0)):=by
    unfold refs;rw [dm,ez h.n1];rfl
   try dsimp only at e0
   rw [r0,dm] at e0
   cases hs:X.sg[0]? with
   | none=>rw [hs] at e0; cases e0
   | some c=>rw [hs] at e0; cases e0
  have aA:ml≠d.el:=(yd N.el a5).symm;have a2:=F4 _ _ ah (ai ah) al;have aE:=F4 _ _ Y (Ne.symm aa) (fun z=>by rw [z,R] at Y; cases Y);have ad:=F4 _ _ af (ai af) aA
  have a0:∀ c o,H c=some o->∃ o',H4 c=some o':=fun c o e=>by
   by_cases zp:c=p
   .exact ⟨_,zp ▸ ae⟩
   by_cases ze:c=d.el
   .rw [ze];exact L4
   have gc:∃ o',G c=some o':=by
    by_cases zm:c=d.mp
    .exact ⟨_,zm ▸ Y⟩
    by_cases zo:∀ j,j < d.n->¬ O j c
    .exact ⟨o,gF _ _ (U _ _ (S1 _ _ e) zm) zo⟩
    .have:∃ j,j < d.n/\O j c:=Classical.byContradiction fun w=>zo fun j q w'=>w ⟨j,q,w'⟩;obtain ⟨j,q,w⟩:=this;obtain ⟨o',J,_⟩:=(S.b j q).own c w;exact ⟨o',J⟩
   obtain ⟨o',J⟩:=gc;exact ⟨o',F4 _ _ J zp ze⟩
  have aC:ykt d.n d.kd f' (X.see d b).g:=fun j q L=>by
   rw [gA j q L];show _=if L=X.key d j then (X.g j L).see b else X.g j L;by_cases w:L=X.key d j
   .rw [if_pos ⟨q,w⟩,if_pos w]
   .rw [if_neg (fun z=>w z.2),if_neg w]
  rfl';refine ⟨p,d.dp,d.ll,d.bl,d.mp,el,d.pl,ndN X.nd b,sgN X.sg X.nd b,d.n,m,d.bk,d.dx,d.lk,d.dd,d.kd,d.ps,f',O,(X.see d b).g,rfl,ae,a2,a3,a4,aC,n6,by omega,h.np,fun pl sl f2 O2 H5 aw ar aF B5 an am aB F5 L5=>?_⟩;have W:∀ {l:Addr} {xs:List V},H4 l=some (.lst xs)->l≠p:=fun {l xs} e z=>by rw [z,ae] at e; cases e
  have n2:∀ j c,j < d.n->O2 j c->O j c\/H c=none:=fun j c q w=>by
   rcases aB j c q w with v | v
   .exact .inl v
   .refine .inr ?_
    cases e:H c with
    | none=>rfl
    | some o =>
     obtain ⟨o',J⟩:=a0 c o e;rw [J] at v;cases v
  refine k ml el pl sl f2 O2 H5 ?_ ⟨aw,F5 _ _ a2 (W a2) (a4.nlst a2),F5 _ _ a3 (W a3) (a4.nlst a3),⟨F5 _ _ aE (Ne.symm aa) h.nm,F5 _ _ ad (W ad) (a4.nlst ad)⟩,yk8 h.n1 n6 h.wok h.cok,ar,B5,an,am,fun j q w=>?_,fun j q w=>?_,h.n1,n6⟩ n2 (fun c o e c1 c2 c3 no=>F5 _ _ (F4 _ _ (gF _ _ (U _ _ (S1 _ _ e) c2) no) c1 c3) c1 no) (fun c o e=>let ⟨o',w⟩:=a0 c o e; L5 c o' w) (S1.free a5)
  .rcases aj with z | z
   .exact .inl z
   .refine .inr ?_
    cases e:H el with
    | none=>rfl
    | some o =>
     exfalso;by_cases zp:el=p
     .rw [zp,gp] at z; cases z
     by_cases zm:el=d.mp
     .rw [zm,Y] at z; cases z
     by_cases zo:∀ j,j < d.n->¬ O j el
     .rw [gF _ _ (U _ _ (S1 _ _ e) zm) zo] at z; cases z
     .have:∃ j,j < d.n/\O j el:=Classical.byContradiction fun w=>zo fun j q w'=>w ⟨j,q,w'⟩;obtain ⟨j,q,w⟩:=this;obtain ⟨o',J,_⟩:=(S.b j q).own el w;rw [J] at z;cases z
  .rcases n2 j p q w with v | v
   .exact h.np j q v
   .rw [hp] at v; cases v
  .rcases n2 j d.mp q w with v | v
   .exact h.nm j q v
   .rw [ab] at v; cases v
theorem zy {A:FA} {X:FX} {bs:List Int} {k:Nat} {b:Int} (h:bs[k]?=some b):X.run A (bs.take (k+1))=(X.run A (bs.take k)).see A b:=by
 rw [ρ h,yj0]
structure FGo (p:Addr) (A:FA) (O:Nat->Addr->Prop) (H H':Hp) (el:Addr) (O':Nat->Addr->Prop):Prop where
 he:el=A.el\/H el=none
 hO:∀ j c,j < A.n->O' j c->O j c\/H c=none
 fr:∀ c o,H c=some o->c≠p->c≠A.mp->c≠A.el->(∀ j,j < A.n->¬ O j c)->H' c=some o
 live:∀ c o,H c=some o->∃ o',H' c=some o'
theorem FGo.free {p:Addr} {A:FA} {H H':Hp} {el c:Addr} (h:FGo p A O H H' el O') (hc:H' c=none):H c=none:=by
 cases e:H c with
 | none=>rfl
 | some o =>
  obtain ⟨a,w⟩:=h.live c o e;rw [hc] at w;cases w
theorem FGo.refl {p:Addr} {A:FA} {H:Hp}:FGo p A O H H A.el O:=⟨.inl rfl,fun _ _ _ w=>.inl w,fun _ _ e _ _ _ _=>e,fun _ o e=>⟨o,e⟩⟩
theorem FGo.trans {p:Addr} {A:FA} {O1:Nat->Addr->Prop} {H H1 H2:Hp} {ml el pl el2:Addr} {sl:Nat->Addr} (h:FGo p A O H H1 el O1) (k:FGo p (A.re ml el pl sl) O1 H1 H2 el2 O2):FGo p A O H H2 el2 O2:=by
 refine ⟨?_,fun j c a w=>?_,fun c o e g d f b=>?_,fun c o e=>?_⟩
 .rcases k.he with z | z
  .rcases h.he with y | y
   .exact .inl (z.trans y)
   .exact .inr (by rw [show el2=el from z]; exact y)
  .exact .inr (h.free z)
 .rcases k.hO j c a w with v | v
  .exact h.hO j c a v
  .exact .inr (h.free v)
 .refine k.fr c o (h.fr c o e g d f b) g d (fun z=>?_) (fun j a w=>?_)
  .rcases h.he with y | y
   .exact f (z.trans y)
   .rw [show c=el from z,y] at e;cases e
  .rcases h.hO j c a w with v | v
   .exact b j a v
   .rw [e] at v;cases v
 .obtain ⟨i,l⟩:=h.live c o e;exact k.live c i l
theorem FGo.same {p:Addr} {A:FA} {H H1 H2:Hp} {el:Addr} (h:FGo p A O H H1 el O') (S:yw H1 H2):FGo p A O H H2 el O' :=
 ⟨h.he,h.hO,fun c o e d f b a=>S _ _ (h.fr c o e d f b a),fun c o e=>let ⟨o',w⟩:=h.live c o e; ⟨o',S _ _ w⟩⟩
theorem FGo.ahead {p:Addr} {A:FA} {H H1 H2:Hp} {el:Addr} (S:yw H H1) (h:FGo p A O H1 H2 el O'):FGo p A O H H2 el O' :=
 ⟨h.he.imp id S.free,fun j c a w=>(h.hO j c a w).imp id S.free,fun c o e=>h.fr c o (S _ _ e),fun c o e=>h.live c o (S _ _ e)⟩
theorem FGo.kpa {p:Addr} {A:FA} {X:FX} {f:Nat->List Int->Option Slt} {m:Nat} {H H':Hp} {el:Addr} (hf:ul K a H p A X f O m) (h:FGo p A O H H' el O'):KpA H H' A.el el:=fun c o e i k=>by
 refine ⟨?_,h.fr c o e (fun z=>by rw [z,hf.me] at e; cases e; cases i) (fun z=>by rw [z,hf.mx.o] at e; cases e; cases i) k fun j l w=>?_⟩
 .rcases h.he with z | z
  .rw [z];exact k
  .exact yd e z
 .obtain ⟨n,d,g⟩:=(hf.B.b j l).own c w;rw [e] at d;cases d;rw [i] at g;cases g
theorem yve {g:Nat->Addr} {n:Nat} (h:1 <= n):(refs g n)[0]?=some (.ref (g 0)):=by
 unfold refs;rw [dm,ez h];rfl
structure Ã (H:Hp) (t:Addr) (ts:List Int) (w:Nat):Prop where
 l:H t=some (.lst (ts.map V.int))
 s:Sgs ts
 z:ts.length <= w
theorem Ã.same {H H':Hp} {t:Addr} {w:Nat} (h:Ã H t ts w) (S:yw H H'):Ã H' t ts w:=⟨S _ _ h.l,h.s,h.z⟩
def Ċ (tt:Nat->List Int):Nat->List Int
 | 0=>[]
 | i+1=>Ċ tt i++dec (tt i)
def fX (n:Nat) (kd:Nat->Fin 3) (ps:Nat->List Int) (pre:List Int) (ts:List Int) (k:Nat):FX:=((FX0 n kd).run (fa0 n ps) pre).run (fa0 n ps) ((dec ts).take k)
def ja (n:Nat) (kd:Nat->Fin 3) (ps:Nat->List Int) (pre:List Int) (ts:List Int) (k:Nat):Int:=yne (fX n kd ps pre ts k).ws ((fX n kd ps pre ts k).cs (fa0 n ps))
def wl (ts:List Int) (k:Nat):Int:=((dec ts)[k]?).getD 0
theorem yi2 (ts:List Int) (k:Nat) (h:k < (dec ts).length):0 <= wl ts k/\wl ts k <= 1:=by
 unfold wl;rw [df h];exact zx ts _ (ei h)
def ysc (H:Hp) (lx:V) (N w:Nat) (lt:Nat->Addr) (tt:Nat->List Int):Prop:=((lx=.non/\N=0)\/∃ ll,lx=.ref ll/\H ll=some (.lst (refs lt N)))/\∀ i,i < N->Ã H (lt i) (tt i) w
theorem ysc.same {H H':Hp} {lx:V} {N w:Nat} {lt:Nat->Addr} {tt:Nat->List Int} (h:ysc H lx N w lt tt) (S:yw H H'):ysc H' lx N w lt tt :=
 ⟨h.1.imp id fun ⟨a,e,z⟩=>⟨a,e,S _ _ z⟩,fun i b=>(h.2 i b).same S⟩
structure vaz (H:Hp) (L tx:Addr) (lx:V) (n:Nat) (lk:Nat->Addr) (kd:Nat->Fin 3) (tp:Nat->Addr) (ps:Nat->List Int) (ts:List Int) (N w:Nat) (lt:Nat->Addr) (tt:Nat->List Int):Prop where
 l:H L=some (.lst (refs lk n))
 n1:1 <= n
 n6:n <= 6
 r:xw H n lk kd tp ps
 t:Ã H tx ts 1000
 lr:ysc H lx N w lt tt
 w1:w <= 1000
 N1:N <= 1000
 b:6+6 * (N * (9 * w+1))+6 * (9 * ts.length+1)+20 < 1000000
structure XOk (n:Nat) (X:FX):Prop where
 w:WOk n X.ws
 s:∀ i k,(X.g i k).ok
theorem XOk.cs {n:Nat} {X:FX} (h:XOk n X) (ps:Nat->List Int):COk n (X.cs (fa0 n ps)):=by
 refine ⟨by unfold FX.cs; rw [cH,dL]; rfl,fun c a=>?_,fun c a=>?_⟩
 .obtain ⟨j,_,rfl⟩:=di.mp a;exact (yee (h.s _ _)).1
 .obtain ⟨j,_,rfl⟩:=di.mp a;exact (yee (h.s _ _)).2
theorem XOk.see {n:Nat} {X:FX} (h:XOk n X) (n1:1 <= n) (n6:n <= 6) (ps:Nat->List Int) {b:Int} (b0:0 <= b) (b1:b <= 1):XOk n (X.see (fa0 n ps) b):=by
 refine ⟨yk8 n1 n6 h.w (h.cs ps),fun i k=>?_⟩;show (if k=X.key (fa0 n ps) i then (X.g i k).see b else X.g i k).ok
 split
 .exact Slt.see_ok (h.s i k) b0 b1
 .exact h.s i k
theorem XOk.run {n:Nat} (n1:1 <= n) (n6:n <= 6) (ps:Nat->List Int):∀ (bs:List Int) {X:FX},XOk n X->ybe bs->XOk n (X.run (fa0 n ps) bs)
 | [],_,h,_=>h
 | b :: r,_,h,hb=>XOk.run n1 n6 ps r (h.see n1 n6 ps (hb b (by simp)).1 (hb b (by simp)).2) fun c a=>hb c (by simp [a])
theorem XOk.zero {n:Nat} (n1:1 <= n) (n6:n <= 6) (kd:Nat->Fin 3):XOk n (FX0 n kd):=⟨yxt n n1 n6,fun i _=>ymk (kd i)⟩
theorem yfp {bs:List Int} (h:ybe bs) (k:Nat):ybe (bs.take k):=fun b a=>h b (eK a)
theorem yxf {n:Nat} (n1:1 <= n) (n6:n <= 6) {kd:Nat->Fin 3} {ps:Nat->List Int} {pre:List Int} (hp:ybe pre) (k:Nat):XOk n (fX n kd ps pre ts k):=by
 unfold fX;exact ((XOk.zero n1 n6 kd).run n1 n6 ps pre hp).run n1 n6 ps _ (yfp (zx ts) k)
theorem š {n:Nat} (n1:1 <= n) (n6:n <= 6) {kd:Nat->Fin 3} {ps:Nat->List Int} {pre:List Int} (hp:ybe pre) (k:Nat):Ch (ja n kd ps pre ts k):=yhu n1 (yxf (kd:=kd) (ps:=ps) (ts:=ts) n1 n6 hp k).w ((yxf (kd:=kd) (ps:=ps) (ts:=ts) n1 n6 hp k).cs ps)
theorem ywb:yk ["sign"] ["sign"] (yg yqu):=w4 (by right)
inductive ğ (K:W.Frag) (vs:List V) (H:Hp) (Q:VK) (E':XK):Prop
 | mk (s:Int):(vs=[.int s])->(∀ r H',H r=none->H' r=some (.lst ((b8 s).map V.int))->yw H H'->Q (.ref r) H')->ğ K vs H Q E'
theorem ywy (T:Txt K mg a):wc P w K mg base CX0 1 a.K3 a.K4 ["sign"] (ğ K):=by
 exists T.F8.F.ok,ywb,t;obtain ⟨m,rfl,k⟩:=h;refine ⟨_,(yf (yv (wg (js:=[0]) (ys:=["sign"]) rfl (yd7 (yb9 rfl T.I2)) (fun C r e u=>(yr xq (yr vy (pv 1) (pv 0)) yj)) rfl rfl (hyc:=(all_cons rfl yx)) (hrel:=(all_cons rfl yx))))),?_⟩;exists 1,0;rfl';refine ⟨a.Bi,rfl,⟨_,T.D8 H⟩,fun D g=>?_⟩;refine ę (wV m) (T.D8 H) g (fun i y e l f b=>?_) (fun e f b=>?_)
 .obtain ⟨c,o,rfl,q⟩:∃ c,0 < c/\y=V.int c/\c <= 128:=by
   have j:=dI l;simp only [dA,List.not_mem_nil,or_false] at j;rcases j with rfl | rfl | rfl | rfl | rfl | rfl | rfl | rfl <;> exact ⟨_,by decide,rfl,by decide⟩
  rfl';exact Mp.done g (by show 8 < sizeLine; decide) l f b rfl
 .exact k D e g b f
theorem yic:yk ["text","bits","sign"] ["text"] (yg yrs):=w4 (by right)
inductive ym2 (K:W.Frag) (vs:List V) (H:Hp) (Q:VK) (E':XK):Prop
 | mk (t:Addr) (ns:List Int):(vs=[.ref t])->(H t=some (.lst (ns.map V.int)))->(Sgs ns)->(ns.length <= 1000)->(∀ r H',H r=none->H' r=some (.lst ((dec ns).map V.int))->yw H H'->Q (.ref r) H')->ym2 K vs H Q E'
theorem yl3 (T:Txt K mg a):wc P w K mg base CX0 5 a.K5 a.K6 ["text"] (ym2 K):=by
 exists T.Ct.F.ok,yic,S;obtain ⟨t,f,rfl,U,X,Y,k⟩:=h;refine ⟨_,(yh (y7 (i:=1) yic.nd rfl (Or.inl rfl) (wq ye)) (yh (za PassesOwn.never rfl (wd (vj (yiv T) (S.mono (by decide)) rfl T.C9.m T.C9.F.kp T.C9.B .nil vt (ya (pv 0) ye (yb rfl)))) (wb (i:=2) yic.nd rfl (Or.inl rfl)) (yh (yu (Ä PySem.F.plainAttrs_list PySem.F.slot_list_append PySem.F.type_list_append w9 (pv 1) (ya yj ye (yb rfl)))) (yf (yu (Ä PySem.F.plainAttrs_list PySem.F.slot_list_extend PySem.F.type_list_extend yf4 (pv 1) (ya (vd (ywy T) (S.mono (by decide)) rfl T.F8.m T.F8.F.kp T.F8.B .nil vh (ya (pv 2) ye (yb rfl))) ye (yb rfl))))))) (yh (yu (Ä PySem.F.plainAttrs_list PySem.F.slot_list_append PySem.F.type_list_append w9 (pv 1) (ya yj ye (yb rfl)))) (yf (yv (pv 1)))))),?_⟩;exists 1,2;rfl';refine ⟨by walk_at "len",fun r hr0=>?_⟩
 with_reducible first | refine y6 hr0 fun H1 S1 hr1=>?_ | refine vi hr0 fun H1 S1 hr1=>?_
 rfl';refine ⟨.ref t,_,rfl,.lst (S1 _ _ U),.inr ⟨f.map V.int,Õ (S1 _ _ U) X Y,fun c H2 x C R=>?_⟩⟩;have N:=S1.trans R;refine ⟨c,rfl,⟨_,SqL.of C⟩,x5 (K:=K) (a:=c) (xs:=f.map V.int) (fun i σ2 G=>∃ v,σ2=[some (.ref t),some (.ref r),v]/\G r=some (.lst ((ybf (f.take i)).map V.int))/\G c=some (.lst (f.map V.int))/\yw H G)
  ⟨_,rfl,R _ _ hr1,C,N⟩ (by rintro i σ2 G _ ⟨_,_,_,z,_⟩; exact SqL.of z) ?_ ?_⟩
 .rintro i y σ2 G hi ⟨v,rfl,d,l,I⟩;obtain ⟨z,rfl,W,M,a0⟩:=jf hi;have j:c≠r:=fun e=>by rw [e,hr1] at x; cases x
  have n:(List.map V.int (ybf (f.take i))).length <= 9000:=by rw [cH,zv,dM]; omega
  rfl';refine z8 d ?_;rfl';refine ub d (vo (by omega)) ?_;have u:yw H (upd G r (.lst (List.map V.int (ybf (f.take i))++[V.int 1]))):=fun b o e=>yi (yd e hr0) (I b o e);have p:upd G r (.lst (List.map V.int (ybf (f.take i))++[V.int 1])) c=some (.lst (f.map V.int)):=yi j l;have g:upd G r (.lst (List.map V.int (ybf (f.take i))++[V.int 1])) r=some (.lst (List.map V.int (ybf (f.take i)++[1]))):=by rw [yc,dF]; rfl
  generalize upd G r (.lst (List.map V.int (ybf (f.take i))++[V.int 1]))=G1 at u p g ⊢;rfl';refine z8 g ?_;rfl';refine ⟨z,rfl,fun q G2 a1 J O=>?_⟩;rfl';have D:=O _ _ g;refine ⟨r,q,_,_,rfl,rfl,D,J,yb7 (by rw [cH,cH,dv,ymq]; rw [cH] at n; show _+1+8 <= _; omega),?_⟩;rfl';refine ⟨_,rfl,?_,?_,fun b o e=>yi (yd e hr0) (O _ _ (u b o e))⟩
  .rw [yc,ρ M,yau,yjb,em];rfl
  .exact yi j (O _ _ p)
 .rintro σ2 G ⟨v,rfl,d,l,I⟩;rw [cH,eG] at d;rfl';refine z8 d ?_;rfl';refine ub d (vo (by rw [cH,zv]; omega)) ?_;rfl';refine k r _ hr0 ?_ fun b o e=>yi (yd e hr0) (I b o e);rw [yc,yko,dF];rfl
theorem yik:yk ["number","size","places"] ["number","size"] (yg yrd):=w4 (by right)
inductive Ĥ  (vs:List V) (H:Hp) (Q:VK) (E':XK):Prop
 | mk (n:Int) (k:Nat):(vs=[.int n,.int k])->(k <= 100000)->(∀ t H',H t=none->H' t=some (.lst ((wr k n).map V.int))->yw H H'->Q (.ref t) H')->Ĥ vs H Q E'
theorem yu9 (T:Txt K mg a):wc P w K mg base CX0 1 a.K7 a.K8 ["number","size"] Ĥ:=by
 exists T.F9.F.ok,yik,D;obtain ⟨n,d,rfl,B,k⟩:=h;refine ⟨_,(yh (y7 (i:=2) yik.nd rfl (Or.inl rfl) (wq ye)) (yh (u4 PassesOwn.never (yy ych (yq yt rfl T.Ae (by right) (ya (pv 2) ye (yb rfl))) (pv 1) (vg _)) (yh (yu (Ä PySem.F.plainAttrs_list PySem.F.slot_list_append PySem.F.type_list_append w9 (pv 2) (ya (yr xq (pv 0) yj) ye (yb rfl)))) (yf (y7 (i:=0) yik.nd rfl (Or.inl rfl) (yr vy (pv 0) yj))))) (yh (yu (yd2 PySem.F.plainAttrs_list PySem.F.slot_list_reverse PySem.F.type_list_reverse Į (pv 2))) (yf (yv (pv 2)))))),?_⟩;exists 2,1;rfl';refine ⟨by walk_at "len",fun t l=>?_⟩;rfl';refine ⟨fun m σ' u=>∃ (f:Int) (c:List Int),σ'=[some (.int f),some (.int d),some (.ref t)]/\u t=some (.lst (c.map V.int))/\yw H u/\c++lo (d - c.length) f=lo d n/\c.length <= d/\m=d - c.length,⟨_,n,[],rfl,yc,y8 l,rfl,dJ _,rfl⟩,?_⟩;rintro m σ2 C ⟨f,c,rfl,g,r,j,G,rfl⟩;rfl';refine zr (SqL.of g) ?_;rw [cH];rfl';refine zd (fun z=>?_) (fun z=>?_)
 .refine ya2 ?_;rfl';refine z8 g ?_;rfl';refine ub g (by rw [cH]; exact vo (by omega)) ?_;rfl';refine ⟨_,?_,f / 256,c++[f % 256],rfl,(yc.trans (by rw [yjt])),fun b o e=>?_,?_,?_,rfl⟩
  .rw [dv];show d - (c.length+1) < d - c.length;omega
  .rw [yn (yd e l)];exact r b o e
  .have q:d - c.length=d - (c++[f % 256]).length+1:=by
    rw [dv];show d - c.length=d - (c.length+1)+1;omega
   rw [q] at j;rw [<- j,em];rfl
  .rw [dv];show c.length+1 <= d;omega
 .rfl';have q:d - c.length=0:=by omega
  rw [q] at j;have y:c=lo d n:=by rw [<- j]; simp [lo]
  refine z8 g ?_;refine Ŷ g ?_;rfl';refine k t _ l ?_ fun b o e=>?_
  .rw [yc,yn1,y];rfl
  .rw [yn (yd e l)];exact r b o e
theorem yto:yk ["low","unit"] ["low","unit"] (yg yqm):=w4 (by right)
inductive jb  (vs:List V) (H:Hp) (Q:VK) (E':XK):Prop
 | mk (l e:Int):(vs=[.int l,.int e])->(0 < e)->(e < 2 ^ 63)->(Q (.int (blk l e)) H)->jb vs H Q E'
theorem ylt (T:Txt K mg a):wc P w K mg base CX0 1 a.K9 a.Ka ["low","unit"] jb:=by
 exists T.Cu.F.ok,yto,f;obtain ⟨l,e,rfl,i,g,k⟩:=h;refine ⟨_,(yf (yv (yr vy (yr uu (yr wx (pv 0) (pv 1)) yj) (pv 1)))),?_⟩;exists 2,0;rfl';exact k
theorem yuf:yk ["self"] ["self"] (yg yq6):=w4 (by right)
inductive yhg (C:Addr) (vs:List V) (H:Hp) (Q:VK) (E':XK):Prop
 | mk (p dx:Addr):(vs=[.ref p])->(H p=some (.ins C dx []))->(∀ H',H' p=some (.ins C dx (zt s0))->But p H H'->Q .non H')->yhg C vs H Q E'
theorem ymy (T:Txt K mg a):wc P w K mg base CX0 1 a.Gq a.Kb ["self"] (yhg a.A4):=by
 exists T.Du.F.ok,yuf,j;obtain ⟨p,c,rfl,i,k⟩:=h;refine ⟨_,(yh (ve (pv 0) yj rfl) (yh (ve (pv 0) (vq rfl T.Ei) rfl) (yf (ve (pv 0) (vq rfl T.G9) rfl)))),?_⟩;exists 1,0;rfl';refine ⟨p,_,c,_,rfl,i,T.Af,T.Bk,by show 0 < 1000; decide,?_⟩;rfl';refine ⟨p,_,c,_,rfl,yc,T.Af,T.Ar,by show 1 < 1000; decide,?_⟩;rfl';refine ⟨p,_,c,_,rfl,yc,T.Af,T.B6,by show 2 < 1000; decide,?_⟩
 have e:z6 "size" (.int 5) (z6 "width" (.int 1099511627776) (z6 "low" (.int 0) []))=zt s0:=by
  rw [wz,vx nLW wz,vx nLS (vx nWS wz)];rfl
 refine k _ (yc.trans (congrArg (fun l=>some (HO.ins a.A4 c l)) e)) fun b o h n=>?_;rw [yn n,yn n,yn n];exact h
theorem ysr:yk ["self","chance"] ["self","chance"] (yg yrb):=w4 (by right)
inductive ymz (C:Addr) (vs:List V) (H:Hp) (Q:VK) (E':XK):Prop
 | mk (p dx:Addr) (x:Sn) (c:Int):(vs=[.ref p,.int c])->(H p=some (.ins C dx (zt x)))->(Ch c)->(Q (.int (cut x.2.1 c)) H)->ymz C vs H Q E'
theorem ymu (T:Txt K mg a):wc P w K mg base CX0 1 a.Kc a.Kd ["self","chance"] (ymz a.A4):=by
 exists T.Dv.F.ok,ysr,g;obtain ⟨p,f,x,c,rfl,i,⟨l,j⟩,k⟩:=h;refine ⟨_,(yf (yv (yr vy (yr xa (yp (pv 0) rfl) (pv 1)) (vq rfl T.D5)))),?_⟩;exists 2,0;rfl';exact k
theorem ykv:yk ["self","chance","bit","cut"] ["self","chance","bit"] (yg yqh):=w4 (by right)
inductive yai (K:W.Frag) (C Nc Nb:Addr) (vs:List V) (H:Hp) (Q:VK) (E:XK):Prop
 | mk (p dx:Addr) (x:Sn) (vc vb:V) (n m:String):(vs=[.ref p,vc,vb])->(H p=some (.ins C dx (zt x)))->(Ok x)->(xx K H vc (.type n))->(xx K H vb (.type m))->((chV vc=false->E (.ref Nc) none H))->((chV vc=true->Ò vb=false->E (.ref Nb) none H))->(∀ c b:Int,vc=.int c->vb=.int b->Ch c->0 <= b->b <= 1->∀ H',H' p=some (.ins C dx (zt (nar x c b)))->But p H H'->Q .non H')->yai K C Nc Nb vs H Q E
theorem ylh (T:Txt K mg a):wc P w K mg base (CXe P w) 4 a.Ke a.Kg ["self","chance","bit"] (yai K a.A4 a.Dp a.Bx):=by
 exists T.Dw.F.okE,ykv,u;obtain ⟨p,g,x,G,C,n,m,rfl,D,I,R,N,M,S,k⟩:=h;refine ⟨_,(yh (yu (vj (yrx T) (u.mono (by decide)) rfl T.Dk.m T.Dk.F.kp T.Dk.B .nil yz (ya (pv 1) ye (yb rfl)))) (yh (yu (vj (Ą T) (u.mono (by decide)) rfl T.Aj.m T.Aj.F.kp T.Aj.B .nil yz (ya (pv 2) ye (yb rfl)))) (yh (y7 (i:=3) ykv.nd rfl (Or.inl rfl) (xr (pv 0) T.Af T.Dv.m (ymu T) (u.mono (by decide)) T.Dv.B .nil vh (ya (pv 1) ye (yb rfl)))) (yh (jc (wu (yy uk (pv 2) yj (vg _)) (yf (ve (pv 0) (pv 3) rfl)) (yh (ve (pv 0) (yr wx (yp (pv 0) rfl) (pv 3)) rfl) (yf (ve (pv 0) (yr uu (yp (pv 0) rfl) (pv 3)) rfl))))) (yf (PS.nox (u4 PassesOwn.never (yy ych (yp (pv 0) rfl) (vq rfl T.Ej) (vg _)) (yh (ve (pv 0) (yr xa (yp (pv 0) rfl) yj) rfl) (yh (ve (pv 0) (yr xa (yp (pv 0) rfl) yj) rfl) (yf (ve (pv 0) (yr wx (yp (pv 0) rfl) yj) rfl))))))))))),?_⟩;exists 3,1;have l:=I.w0;have o:=I.w1;rfl';refine ⟨G,n,rfl,R,fun f=>?_,M⟩;rfl';refine ⟨C,m,rfl,N,fun v=>?_,S f⟩;obtain ⟨c,rfl,c1,U⟩:=ycc f;obtain ⟨b,rfl,b0,L⟩:=yc3 v;have t:Ch c:=⟨c1,U⟩;have k:=k c b rfl rfl t b0 L;rfl';refine ⟨p,g,_,rfl,D,lkN _ (by right) (by right) (by right),?_⟩;rfl';refine ⟨p,g,x,c,rfl,D,t,?_⟩;rfl';obtain ⟨X,O,a3⟩:=ya3 l o t;refine yir (fun σ' e=>∃ y:Sn,σ'=[some (.ref p),some (.int c),some (.int b),some (.int (cut x.2.1 c))]/\e p=some (.ins a.A4 g (zt y))/\8388608 <= y.2.1/\y.2.1 <= 1099511627776/\ren y.1 y.2.1 y.2.2=nar x c b/\But p H e) ?_ ?_
 .rfl';refine zd (fun d=>?_) (fun d=>?_)
  .rfl';refine ⟨_,rfl,yc,X,Int.le_of_lt a3,?_,But.upd⟩;unfold nar
   (rw [if_pos d]) <;> rfl
  .rfl';refine ⟨_,rfl,yc,O,?_,?_,But.upd.trans But.upd⟩
   .show x.2.1 - cut x.2.1 c <= _;omega
   .unfold nar
    (rw [if_neg d]) <;> rfl
 .rintro σ' e ⟨y,rfl,r,Y,y2,y3,y4⟩;refine ⟨fun m σ' e=>∃ y:Sn,σ'=[some (.ref p),some (.int c),some (.int b),some (.int (cut x.2.1 c))]/\e p=some (.ins a.A4 g (zt y))/\8388608 <= y.2.1/\y.2.1 <= 1099511627776/\ren y.1 y.2.1 y.2.2=nar x c b/\But p H e/\m=(4294967296 - y.2.1).toNat,⟨_,y,rfl,r,Y,y2,y3,y4,rfl⟩,?_⟩;rintro m σ2 H2 ⟨z,rfl,W,z1,z2,j,J,rfl⟩;rfl';refine zd (fun d=>?_) (fun d=>?_)
  .refine ya2 ?_;rfl';refine ⟨_,?_,(z.1 * 256,z.2.1 * 256,z.2.2+1),rfl,yc,?_,?_,(yjj d z1).trans j,((J.trans But.upd).trans But.upd).trans But.upd,rfl⟩
   .show (4294967296 - z.2.1 * 256).toNat < (4294967296 - z.2.1).toNat;omega
   .show 8388608 <= z.2.1 * 256;omega
   .show z.2.1 * 256 <= 1099511627776;omega
  .rw [yoq d] at j;refine k _ ?_ J;rw [<- j];exact W
theorem yxa:yk ["self","unit"] ["self","unit"] (yg yrm):=w4 (by right)
inductive ydr (C:Addr) (vs:List V) (H:Hp) (Q:VK) (E':XK):Prop
 | mk (p dx:Addr) (x:Sn) (j:Nat):(vs=[.ref p,.int (pw j)])->(H p=some (.ins C dx (zt x)))->(j <= 6)->(Q (.bl (decide (yfl x.1 x.2.1 j))) H)->ydr C vs H Q E'
theorem ysz (T:Txt K mg a):wc P w K mg base CX0 2 a.Kh a.Ki ["self","unit"] (ydr a.A4):=by
 exists T.Hi.F.ok,yxa,e;obtain ⟨p,f,x,j,rfl,n,g,k⟩:=h;refine ⟨_,(yf (yv (jq u6 (yr xa (yr wx (vd (ylt T) (e.mono (by decide)) rfl T.Cu.m T.Cu.F.kp T.Cu.B .nil vh (ya (yp (pv 0) rfl) (ya (pv 1) ye (yb rfl)) (yb rfl))) yj) (pv 1)) (yr wx (yp (pv 0) rfl) (yp (pv 0) rfl)) (vg _)))),?_⟩;exists 2,0;have l:=ycy g;have i:=uh j;rfl';refine ⟨_,_,rfl,i,by omega,?_⟩;rfl';exact k
theorem ya1:yk ["self","unit","size"] ["self"] (yg yrj):=w4 (by right)
inductive yg6 (C:Addr) (vs:List V) (H:Hp) (Q:VK) (E':XK):Prop
 | mk (p dx:Addr) (x:Sn):(vs=[.ref p])->(H p=some (.ins C dx (zt x)))->(OkS x)->(sz x <= 100000)->(∀ t H',H t=none->H' t=some (.lst ((tL x).map V.int))->yw H H'->Q (.ref t) H')->yg6 C vs H Q E'
theorem ylk (T:Txt K mg a):wc P w K mg base CX0 3 a.Kj a.Kk ["self"] (yg6 a.A4):=by
 exists T.Dx.F.ok,ya1,f;obtain ⟨p,g,x,rfl,n,l,G,k⟩:=h;refine ⟨_,(yh (y7 (i:=1) ya1.nd rfl (Or.inl rfl) yj) (yh (y7 (i:=2) ya1.nd rfl (Or.inl rfl) (yp (pv 0) rfl)) (yh (u4 PassesOwn.never (x8 (xr (pv 0) T.Af T.Hi.m (ysz T) (f.mono (by decide)) T.Hi.B .nil vh (ya (yr xa (pv 1) yj) ye (yb rfl)))) (yh (y7 (i:=1) ya1.nd rfl (Or.inl rfl) (yr xa (pv 1) yj)) (yf (y7 (i:=2) ya1.nd rfl (Or.inl rfl) (yr uu (pv 2) yj))))) (yf (yv (vd (yu9 T) (f.mono (by decide)) rfl T.F9.m T.F9.F.kp T.F9.B .nil vh (ya (vd (ylt T) (f.mono (by decide)) rfl T.Cu.m T.Cu.F.kp T.Cu.B .nil vh (ya (yp (pv 0) rfl) (ya (pv 1) ye (yb rfl)) (yb rfl))) (ya (pv 2) ye (yb rfl)) (yb rfl)))))))),?_⟩;exists 1,2;rfl';refine ⟨fun m σ' v=>v=H/\∃ j:Nat,σ'=[some (.ref p),some (.int (pw j)),some (.int (x.2.2 - j))]/\j <= 5/\tel x.1 x.2.1 (5 - j) j=tK x/\m=6 - j,⟨_,rfl,0,by simp [pw],by decide,rfl,rfl⟩,?_⟩;rintro m σ2 z ⟨rfl,j,rfl,D,o,rfl⟩;have y:=ycy (show j <= 6 by omega);have u:=uh j;rfl';refine ⟨p,g,_,rfl,n,lkN _ (by right) (by right) (by right),?_⟩;rfl';refine ⟨p,g,x,j+1,rfl,n,by omega,?_⟩;rfl';refine zd (fun b=>?_) (fun b=>?_)
 .refine ya2 ?_;rfl';have q:=ymx l.ok.w1 b;refine ⟨_,?_,rfl,j+1,?_,q,?_,rfl⟩
  .show 6 - (j+1) < 6 - j;omega
  .have d:x.2.2 - (j:Int) - 1=x.2.2 - ((j+1:Nat):Int):=by omega
   rw [d];rfl
  .rw [ykg b,<- o]
   congr 1
   omega
 .have e:j=tK x:=by rw [<- o,ynz b]
  subst e;rfl';refine ⟨_,_,rfl,u,by omega,?_⟩;rfl';have C:=l.sz;have I:=(yrt l).2;have d:x.2.2 - (tK x:Int)=((sz x - tK x:Nat):Int):=by omega
  rw [d];exact ⟨_,_,rfl,by omega,k⟩
theorem yw1:yk ["self","place"] ["self","place"] (yg yqj):=w4 (by right)
inductive ģ (C:Addr) (vs:List V) (H:Hp) (Q:VK) (E':XK):Prop
 | mk (p dx pd:Addr) (v1 v2 v3:V) (d:List Int) (k:Nat):(vs=[.ref p,.int k])->(H p=some (.ins C dx (yix (.ref pd) v1 v2 v3)))->(H pd=some (.lst (d.map V.int)))->(Q (.int ((d[k]?).getD 0)) H)->ģ C vs H Q E'
theorem yvr (T:Txt K mg a):wc P w K mg base CX0 1 a.Ko a.Kp ["self","place"] (ģ a.Ab):=by
 exists T.Hj.F.ok,yw1,r;obtain ⟨p,n,g,q,i,f,d,j,rfl,t,e,k⟩:=h;refine ⟨_,(yf (yv (ζ (yy ych (pv 1) (yq yt rfl T.Ae (by right) (ya (yp (pv 0) rfl) ye (yb rfl))) (vg _)) (xf wj (yp (pv 0) rfl) (pv 1) (fun _ _=>rfl)) yj))),?_⟩;exists 2,0;rfl';refine zr (SqL.of e) ?_;rw [cH];rfl';refine zd (fun o=>?_) (fun o=>?_)
 .have c:j < d.length:=by omega
  rw [df c] at k;rfl';exact ua (SqL.of e) (vw (by rw [dm,df c]; rfl)) k
 .rw [dP (by omega)] at k;rfl';exact k
theorem ywq:yk ["self"] ["self"] (yg yqb):=w4 (by right)
inductive yao (C D:Addr) (vs:List V) (H:Hp) (Q:VK) (E':XK):Prop
 | mk (p dx pd ps ds:Addr) (d:List Int) (x:Sn) (r:Nat):(vs=[.ref p])->(H p=some (.ins C dx (yix (.ref pd) (.ref ps) (.int (rn d r)) (.int r))))->(H pd=some (.lst (d.map V.int)))->(H ps=some (.ins D ds (zt x)))->(p≠ps)->(OkS x)->(r <= sz x)->(∀ H',H' p=some (.ins C dx (yix (.ref pd) (.ref ps) (.int (rn d (sz x))) (.int x.2.2)))->But p H H'->Q .non H')->yao C D vs H Q E'
theorem ylj (T:Txt K mg a):wc P w K mg base CX0 2 a.Km a.Kn ["self"] (yao a.Ab a.A4):=by
 exists T.Dy.F.ok,ywq,L;obtain ⟨p,n,i,f,q,d,x,r,rfl,o,C,y,l,M,j,k⟩:=h;refine ⟨_,(yf (u4 PassesOwn.never (yy ych (yp (pv 0) rfl) (yp (yp (pv 0) rfl) rfl) (vg _)) (yh (ve (pv 0) (yr wx (yr xa (yp (pv 0) rfl) yj) (xr (pv 0) T.Bo T.Hj.m (yvr T) (L.mono (by decide)) T.Hj.B .nil vh (ya (yp (pv 0) rfl) ye (yb rfl)))) rfl) (yf (ve (pv 0) (yr wx (yp (pv 0) rfl) yj) rfl))))),?_⟩;exists 1,0;have z:=M.sz;refine ⟨fun m σ' t=>∃ r:Nat,σ'=[some (.ref p)]/\t p=some (.ins a.Ab n (yix (.ref i) (.ref f) (.int (rn d r)) (.int r)))/\r <= sz x/\But p H t/\m=sz x - r,⟨_,r,rfl,o,j,But.refl,rfl⟩,?_⟩;rintro m σ2 u ⟨r,rfl,b,v,c,rfl⟩;have I:u f=some (.ins a.A4 q (zt x)):=c _ _ y l.symm;have e:=c.lst o C;rfl';refine zd (fun N=>?_) (fun N=>?_)
 .refine ya2 ?_;rfl';refine ⟨p,n,i,_,_,_,d,r,rfl,b,e,?_⟩;rfl';refine ⟨_,?_,r+1,rfl,?_,by omega,(c.trans But.upd).trans But.upd,rfl⟩
  .omega
  .rw [yc];rfl
 .have J:r=sz x:=by omega
  subst J;rfl';refine k _ ?_ c;rw [<- z];exact b
theorem yta:yk ["self","data"] ["self","data"] (yg yqo):=w4 (by right)
inductive yad (K:W.Frag) (a:Ads) (vs:List V) (H:Hp) (Q:VK) (E:XK):Prop
 | mk (p dx:Addr) (v:V) (n:String):(vs=[.ref p,v])->(H p=some (.ins a.Ab dx []))->(xx K H v (.type n))->(((Bad K H v n 12000/\∀ H',yw H H'->E (.ref a.Fq) none H')\/∃ d:List Int,yx7 K H v (d.map V.int) 12000/\∀ pd ps ds H',H pd=none->H ps=none->yfm a H' p dx pd ps ds d s0->But p H H'->Q .non H'))->yad K a vs H Q E
theorem yw3 (T:Txt K mg a):wc P w K mg base (CXe P w) 5 a.Gr a.Kl ["self","data"] (yad K a):=by
 exists T.Fb.F.okE,yta,N;obtain ⟨p,r,v,n,rfl,R,Y,h⟩:=h;refine ⟨_,(yh (ve (pv 0) (vj (yz1 T) (N.mono (by decide)) rfl T.Nd.m T.Nd.F.kp T.Nd.B .nil yz (ya (pv 1) ye (yb rfl))) rfl) (yh (ve (pv 0) (γ T.Nv (ymy T) (N.mono (by decide)) rfl T.Nu T.Du.B .nil vh) rfl) (yh (ve (pv 0) yj rfl) (yh (ve (pv 0) yj rfl) (yf (yu (wy (pv 0) T.Bo T.Dy.m (ylj T) (N.mono (by decide)) T.Dy.B .nil vh))))))),?_⟩;exists 2,0;rfl';refine ⟨v,n,rfl,Y,?_⟩;rcases h with ⟨hb,k⟩ | ⟨d,hg,k⟩
 .exact .inl ⟨hb,k⟩
 .refine .inr ⟨d.map V.int,hg,fun g C j O U=>?_⟩;have a1:=U _ _ R;have f:g≠p:=fun z=>by rw [z,R] at j; cases j
  rfl';have G:But p H (upd C p (.ins a.Ab r ([("data",V.ref g)]:List (Str × V)))):=(But.of U).trans But.upd;have l:upd C p (.ins a.Ab r ([("data",V.ref g)]:List (Str × V))) p=some (.ins a.Ab r ([("data",V.ref g)]:List (Str × V))):=yc;have u:upd C p (.ins a.Ab r ([("data",V.ref g)]:List (Str × V))) g=some (.lst (d.map V.int)):=yi f O;generalize upd C p (.ins a.Ab r ([("data",V.ref g)]:List (Str × V)))=X at G l u ⊢;intro t M i nds ne;refine ⟨t,M,rfl,yc,fun S y B3=>⟨rfl,?_⟩⟩;have D:yw X S:=fun b o e=>B3 b o (by rw [yn (yd e i),yn (yd e nds)]; exact e) (yd e i);have Z:=D _ _ l;have x:=D _ _ u;have c:p≠t:=yd l i
  have J:H t=none:=by
   cases e:H t with
   | none=>rfl
   | some o=>exact absurd (G _ _ e c.symm) (by rw [i]; exact fun z=>nomatch z)
  rfl';refine ⟨p,r,g,t,M,d,s0,0,rfl,yc,?_,?_,c,yz6,dJ _,fun W L B4=>?_⟩
  .exact yi f (yi f (yi f x))
  .exact yi c.symm (yi c.symm (yi c.symm y))
  .rfl';have q:But p S W:=((But.upd.trans But.upd).trans But.upd).trans B4;exact k g t M W j J ⟨L,q _ _ x f,q _ _ y c.symm,c⟩ ((G.trans (But.of D)).trans q)
theorem yls:yk ["self","chance","bit"] ["self","chance"] (yg yqa):=w4 (by right)
inductive ydy (K:W.Frag) (a:Ads) (vs:List V) (H:Hp) (Q:VK) (E:XK):Prop
 | mk (p dx pd ps ds:Addr) (d:List Int) (x:Sn) (v:V) (n:String):(vs=[.ref p,v])->(yfm a H p dx pd ps ds d x)->(OkS x)->(xx K H v (.type n))->((chV v=false->E (.ref a.Dp) none H))->(∀ c:Int,v=.int c->Ch c->∀ H',yfm a H' p dx pd ps ds d (nar x c (Ô d x c))->yiy p ps H H'->Q (.int (Ô d x c)) H')->ydy K a vs H Q E
theorem ywn {x:Sn} {c b:Int} (h:Ok x) (hc:Ch c):sz x <= sz (nar x c b):=by
 obtain ⟨r,e⟩:=yx1 (if b=1 then x.1 else x.1+cut x.2.1 c) (if b=1 then cut x.2.1 c else x.2.1 - cut x.2.1 c) x.2.2
 have a:nar x c b=ren (if b=1 then x.1 else x.1+cut x.2.1 c) (if b=1 then cut x.2.1 c else x.2.1 - cut x.2.1 c) x.2.2:=by
  unfold nar
  split <;> rfl
 rw [a,e];unfold sz;dsimp only;omega
theorem ysm (T:Txt K mg a):wc P w K mg base (CXe P w) 5 a.Kr a.Ks ["self","chance"] (ydy K a):=by
 exists T.Hk.F.okE,yls,u;obtain ⟨p,O,L,j,q,d,x,v,n,rfl,l,y,W,U,k⟩:=h;refine ⟨_,(yh (yu (vj (yrx T) (u.mono (by decide)) rfl T.Dk.m T.Dk.F.kp T.Dk.B .nil yz (ya (pv 1) ye (yb rfl)))) (yh (jc (y7 (i:=2) yls.nd rfl (Or.inl rfl) (ζ (yy ych (yp (pv 0) rfl) (yr wx (yp (yp (pv 0) rfl) rfl) (xr (yp (pv 0) rfl) T.Af T.Dv.m (ymu T) (u.mono (by decide)) T.Dv.B .nil vh (ya (pv 1) ye (yb rfl)))) (vg _)) yj yj))) (yh (yu (vn (yp (pv 0) rfl) T.Af T.Dw.m (ylh T) (u.mono (by decide)) T.Dw.B .nil yz (ya (pv 1) (ya (pv 2) ye (yb rfl)) (yb rfl)))) (yh (yu (wy (pv 0) T.Bo T.Dy.m (ylj T) (u.mono (by decide)) T.Dy.B .nil vh)) (yf (yv (pv 2))))))),?_⟩;exists 2,1;rfl';refine ⟨v,n,rfl,W,fun hv=>?_,U⟩;obtain ⟨c,rfl,c1,Y⟩:=ycc hv;have t:Ch c:=⟨c1,Y⟩;have k:=k c rfl t;have M:=l.me;have e:=l.sp;rfl';refine yir (fun σ' R=>σ'=[some (.ref p),some (.int c),some (.int (Ô d x c))]/\H=R) ?_ ?_
 .rfl';refine ⟨j,q,_,rfl,e,lkN _ (by right) (by right) (by right),?_⟩;rfl';refine ⟨j,q,x,c,rfl,e,t,?_⟩;rfl';unfold Ô;refine zd (fun C=>?_) (fun C=>?_)
  .rw [if_pos C];rfl';exact ⟨rfl,rfl⟩
  .rw [if_neg C];rfl';exact ⟨rfl,rfl⟩
 .rintro σ' R ⟨rfl,rfl⟩;have N:=Ŏ d x c;generalize C:Ô d x c=b at N k ⊢;rfl';refine ⟨j,q,_,rfl,e,lkN _ (by right) (by right) (by right),?_⟩;rfl';refine ⟨j,q,x,.int c,.int b,_,_,rfl,e,y.ok,.int c,.int b,(fun z=>by rw [yd1 t] at z; cases z),(fun _ z=>by rw [ycg (by omega) (by omega)] at z; cases z),fun Z b' ec X _ _ _ H1 r D=>?_⟩;obtain rfl:c=Z:=V.int.inj ec;obtain rfl:b=b':=V.int.inj X;have f:=D _ _ M l.ne;have g:=D.lst e l.dt;rfl';have o:H1 p=some (.ins a.Ab O (yix (.ref L) (.ref j) (.int (rn d (sz x))) (.int ((sz x:Nat):Int)))):=by rw [y.sz]; exact f
  refine ⟨p,O,L,j,q,d,nar x c b,sz x,rfl,o,g,r,l.ne,ycf y t,ywn y.ok t,fun S I G=>?_⟩;rfl';exact k S ⟨I,G.lst f g,G _ _ r l.ne.symm,l.ne⟩ (D.two'.trans G.two)
theorem yvz:yk ["self"] ["self"] (yg yrc):=w4 (by right)
inductive Ŵ (a:Ads) (vs:List V) (H:Hp) (Q:VK) (E':XK):Prop
 | mk (p dx pd ps ds:Addr) (d:List Int) (x:Sn):(vs=[.ref p])->(yfm a H p dx pd ps ds d x)->(OkS x)->(sz x <= tMx)->(∀ t H',H t=none->H' t=some (.lst ((tL x).map V.int))->yw H H'->Q (.ref t) H')->Ŵ a vs H Q E'
theorem yud (T:Txt K mg a):wc P w K mg base CX0 4 a.Kt a.Ku ["self"] (Ŵ a):=by
 exists T.Hl.F.ok,yvz,o;obtain ⟨p,q,i,e,f,d,x,rfl,g,r,t,k⟩:=h;have l:=g.me;have b:=g.sp;refine ⟨_,(yf (yv (wy (yp (pv 0) rfl) T.Af T.Dx.m (ylk T) (o.mono (by decide)) T.Dx.B .nil vh))),?_⟩;exists 1,0;rfl';refine ⟨e,f,_,rfl,b,lkN _ (by right) (by right) (by right),?_⟩;rfl';exact ⟨e,f,x,rfl,b,r,t,k⟩
theorem yw6:yk ["thing"] ["thing"] (yg yqd):=w4 (by right)
def ŵ (K:W.Frag):Sp:=fun vs H Q _=>(vs=[.non]/\∀ r H',H r=none->H' r=some (.lst [])->yw H H'->Q (.ref r) H')\/∃ (l:Addr) (n:Nat) (tx:Nat->Addr) (tt:Nat->List Int),vs=[.ref l]/\H l=some (.lst (refs tx n))/\n <= 1000/\(∀ i,i < n->Ã H (tx i) (tt i) 1000) /\
 ∀ r (cx:Nat->Addr) H',H r=none->H' r=some (.lst (refs cx n))->(∀ i,i < n->H (cx i)=none/\H' (cx i)=some (.lst ((tt i).map V.int)))->yw H H'->Q (.ref r) H'
theorem yu0 (T:Txt K mg a):wc P w K mg base CX0 5 a.Kv a.Kw ["thing"] (ŵ K):=by
 refine T.Fc.F.ok yw6 (fun vs H Q E h=>?_) (fun a0 A M s H vs Q E W h=>?_)
 .rcases h with ⟨rfl,_⟩ | ⟨l,n,v,N,rfl,_⟩ <;> rfl
 .rcases h with ⟨rfl,k⟩ | ⟨l,n,v,N,rfl,O,hn,ht,k⟩
  .refine ⟨_,(yh (wu (yy ymm (pv 0) zn (vg _)) (yf (yv (wq ye))) y9) (yh (wu (x3 (x8 (yq wv rfl T.A6 (by right) (ya (pv 0) (ya (zq (T:="list") rfl T.Ao (by right)) ye (yb rfl)) (yb rfl))))) (yf Ś) y9) (yf (yv (wg (js:=[]) (ys:=[]) rfl (wd (pv 0)) (fun C s2 Y fp=>(vj (yiv T) (W.mono (by decide)) rfl T.C9.m T.C9.F.kp T.C9.B .nil vt (ya (pv 0) ye (yb rfl)))) rfl rfl (hyc:=yx) (hrel:=yx)))))),?_⟩;refine ym (σ':=[some _]) rfl ?_;rfl';refine yza ?_;rfl';refine ⟨by walk_at "len",fun r q=>?_⟩;exact k r _ q yc (y8 q)
  .refine ⟨_,(yh (wu (yy ymm (pv 0) zn (vg _)) (yf (yv (wq ye))) y9) (yh (wu (x3 (x8 (yq wv rfl T.A6 (by right) (ya (pv 0) (ya (zq (T:="list") rfl T.Ao (by right)) ye (yb rfl)) (yb rfl))))) (yf Ś) y9) (yf (yv (wg (js:=[]) (ys:=[]) rfl (wd (pv 0)) (fun C s2 Y fp=>(vj (yiv T) (W.mono (by decide)) rfl T.C9.m T.C9.F.kp T.C9.B .nil vt (ya (pv 0) ye (yb rfl)))) rfl rfl (hyc:=yx) (hrel:=yx)))))),?_⟩;refine ym (σ':=[some _]) rfl ?_;rfl'
   refine ycm (fun z=>nomatch z) ?_
   rfl';refine Ð (.lst O) (yjy _ _) ?_;rfl';refine ⟨l,rfl,⟨_,SqL.of O⟩,fun D R=>?_⟩;refine ur (K:=K) (xs:=refs v n) (fun i G=>∃ f:Nat->Addr,G D=some (.lst (refs f i))/\(∀ j,j < i->H (f j)=none/\G (f j)=some (.lst ((N j).map V.int))/\f j≠D)/\yw H G)
    ⟨fun _=>0,yc,fun j x=>absurd x (dN j),y8 R⟩ (fun i G _ ⟨_,_,_,S⟩=>SqL.of (S _ _ O)) (fun i y G Z I z=>?_) (fun G z=>?_)
   .obtain ⟨f,u,g,S⟩:=z;obtain ⟨rfl,L⟩:=uz Z;have d:=(ht i L).same S;rfl';refine ⟨.ref (v i),_,rfl,.lst d.l,.inr ⟨(N i).map V.int,Õ d.l d.s d.z,fun c G2 t U J=>?_⟩⟩;have X:c≠D:=(yd u t).symm;refine xu (n:=(refs v n).length) (J _ _ u) (vo (by rw [vz]; omega)) I ?_;refine ⟨upN f i c,?_,fun j x=>?_,fun b o e=>yi (yd e R) (J _ _ (S b o e))⟩
    .rw [yc,ut,xo]
     congr 3
     exact uq fun j x=>(xj x).symm
    .by_cases z:j=i
     .rw [z,xo];exact ⟨S.free t,yi X U,X⟩
     .have p:j < i:=by omega
      rw [xj p];obtain ⟨g1,g2,g3⟩:=g j p;exact ⟨g1,yi g3 (J _ _ g2),g3⟩
   .obtain ⟨f,u,g,S⟩:=z;rw [vz] at u g;exact k D f G R u (fun i I=>⟨(g i I).1,(g i I).2.1⟩) S
theorem ygk {H:Hp} {lx:V} {N w:Nat} {lt:Nat->Addr} {tt:Nat->List Int} {Q:VK} {E:XK} (h:ysc H lx N w lt tt) (hw:w <= 1000) (hN:N <= 1000)
  (k:∀ r (cx:Nat->Addr) H',H r=none->H' r=some (.lst (refs cx N))->(∀ i,i < N->H (cx i)=none/\H' (cx i)=some (.lst ((tt i).map V.int)))->yw H H'->Q (.ref r) H'):ŵ K [lx] H Q E:=by
 obtain ⟨⟨rfl,rfl⟩ | ⟨d,rfl,e⟩,b⟩:=h
 .exact .inl ⟨rfl,fun r H' c f S=>k r (fun _=>0) H' c f (fun i a=>absurd a (dN i)) S⟩
 .exact .inr ⟨d,N,lt,tt,rfl,e,hN,fun i a=>⟨(b i a).l,(b i a).s,dZ (b i a).z hw⟩,k⟩
structure vb4 (H H':Hp) (r:Addr) (m:Nat) (tu cl:Nat->Addr) (mx:Nat->Int) (cs:Nat->List Int) (bt:Nat->Int):Prop where
 r0:H r=none
 r:H' r=some (.lst (refs tu m))
 t:∀ j,j < m->H' (tu j)=some (.tup [.int (mx j),.ref (cl j),.int (bt j)])
 c:∀ j,j < m->H (cl j)=none/\H' (cl j)=some (.lst ((cs j).map V.int))
theorem yh1:yk ["foreteller","texts","text","bit"] ["foreteller","texts"] (yg yqk):=w4 (by right)
inductive ydf (K:W.Frag) (a:Ads) (vs:List V) (H:Hp) (Q:VK) (E':XK):Prop
 | mk (p:Addr) (A:FA) (X:FX) (f:Nat->List Int->Option Slt) (O:Nat->Addr->Prop) (m:Nat) (tl:Addr) (n w:Nat) (tx:Nat->Addr) (tt:Nat->List Int):(vs=[.ref p,.ref tl])->(ul K a H p A X f O m)->(X.sg=[])->(X.nd=0)->(H tl=some (.lst (refs tx n)))->(tl≠A.el)->((∀ i,i < n->Ã H (tx i) (tt i) w/\tx i≠A.el))->(w <= 1000)->(m+6 * (n * (9 * w+1))+20 < 1000000)->(∀ (ml el pl:Addr) (sl:Nat->Addr) (f':Nat->List Int->Option Slt) (O':Nat->Addr->Prop) (m':Nat) (H':Hp),ul K a H' p (A.re ml el pl sl) (X.run A (Ċ tt n)) f' O' m'->m' <= m+6 * (n * (9 * w+1))->FGo p A O H H' el O'->(X.run A (Ċ tt n)).sg=[]->(X.run A (Ċ tt n)).nd=0->Q .non H')->ydf K a vs H Q E'
theorem yul (T:Txt K mg a):wc P w K mg base CX0 7 a.Kx a.Ky ["foreteller","texts"] (ydf K a):=by
 exists T.Fd.F.ok,yh1,hr;obtain ⟨p,c,X,f,O,m,tl,n,w,tx,d,rfl,hF,ag,ad,a4,ao,an,hw,hm,k⟩:=h;refine ⟨_,(yf (za PassesOwn.never rfl (wd (pv 1)) (wb (i:=2) yh1.nd rfl (Or.inl rfl)) (yf (za PassesOwn.never rfl (wd (vd (yl3 T) (hr.mono (by decide)) rfl T.Ct.m T.Ct.F.kp T.Ct.B .nil vh (ya (pv 2) ye (yb rfl)))) (wb (i:=3) yh1.nd rfl (Or.inl rfl)) (yf (yu (xr (pv 0) T.Ag T.Cs.m (yif T) (hr.mono (by decide)) T.Cs.B .nil vh (ya (pv 3) ye (yb rfl))))))))),?_⟩;exists 2,2;rfl';refine ⟨tl,rfl,⟨_,SqL.of a4⟩,x5 (K:=K) (a:=tl) (xs:=refs tx n) (fun i σ2 G=>∃ (v1 C:Option V) (U v W:Addr) (Y:Nat->Addr) (f':Nat->List Int->Option Slt) (O':Nat->Addr->Prop) (m':Nat),σ2=[some (.ref p),some (.ref tl),v1,C]/\ul K a G p (c.re U v W Y) (X.run c (Ċ d i)) f' O' m'/\m' <= m+6 * (i * (9 * w+1))/\FGo p c O H G v O'/\(X.run c (Ċ d i)).sg=[]/\(X.run c (Ċ d i)).nd=0)
  ⟨_,_,c.ml,c.el,c.pl,c.sl,f,O,m,rfl,hF,Nat.le_add_right _ _,FGo.refl,ag,ad⟩ (by rintro i σ2 G _ ⟨_,_,_,_,_,_,_,_,_,_,_,_,go,_,_⟩; exact SqL.of ((go.kpa hF).lst a4 ao)) ?_ ?_⟩
 .rintro i y σ2 G hy ⟨v1,C,U,v,W,Y,f1,O1,m1,rfl,q,N,r,g,o⟩;obtain ⟨rfl,a0⟩:=uz hy;obtain ⟨S,aa⟩:=an i a0;have a2:=(r.kpa hF).lst S.l aa;have L:=S.s;have hz:=S.z
  have a5:i * (9 * w+1)+(9 * w+1) <= n * (9 * w+1):=by
   have:(i+1) * (9 * w+1) <= n * (9 * w+1):=Nat.mul_le_mul_right _ a0;rw [Nat.add_mul,Nat.one_mul] at this;exact this
  have au:=x9 (d i);rfl';refine ⟨tx i,d i,rfl,a2,L,by omega,fun bt G1 a1 x S1=>?_⟩;have u:=q.same S1;have ab:bt≠v:=(yd q.el a1).symm;refine ⟨bt,rfl,⟨_,SqL.of x⟩,x5 (K:=K) (a:=bt) (xs:=(dec (d i)).map V.int) (fun j σ2 G'=>∃ (C:Option V) (ml' el' pl':Addr) (sl':Nat->Addr) (f':Nat->List Int->Option Slt) (O':Nat->Addr->Prop),σ2=[some (.ref p),some (.ref tl),some (.ref (tx i)),C]/\ul K a G' p (c.re ml' el' pl' sl') ((X.run c (Ċ d i)).run c ((dec (d i)).take j)) f' O' (m1+6 * j)/\FGo p (c.re U v W Y) O1 G1 G' el' O'/\TxE (d i) j ((X.run c (Ċ d i)).run c ((dec (d i)).take j)).sg ((X.run c (Ċ d i)).run c ((dec (d i)).take j)).nd)
   ⟨_,U,v,W,Y,f1,O1,rfl,u,FGo.refl,.inl ⟨dJ _,by show ybb _ _ (X.run c (Ċ d i)).sg (X.run c (Ċ d i)).nd; rw [g,o]; exact ybb.zero _⟩⟩ (by rintro j σ2 G' _ ⟨_,_,_,_,_,_,_,_,_,go,_⟩; exact SqL.of ((go.kpa u).lst x ab)) ?_ ?_⟩
  .rintro j y σ3 G' hy ⟨C,D,M,J,I,f2,O2,rfl,e,R,Z⟩;obtain ⟨b,rfl,ak,hb,hj⟩:=jf hy;obtain ⟨b0,b1⟩:=zx _ b ak;obtain ⟨a3,ah⟩:=Z.next L hb;obtain ⟨ae,as⟩:=a3.nd L;have aq:=a3.len;have ar:=e.me;rfl';refine ⟨p,c.re D M J I,_,f2,O2,m1+6 * j,b,rfl,e,b0,b1,by omega,ae,by omega,fun a7 ac a9 a6 f3 O3 G3 af aj a8 al ai _=>?_⟩;rfl';have n6:=e.n6;refine ⟨_,a7,ac,a9,a6,f3,O3,rfl,?_,R.trans ⟨af,a8,al,ai⟩,?_⟩
   .rw [zy hb];exact aj.up (by show m1+6 * j+c.n <= _; have:c.n <= 6:=n6; omega)
   .rw [zy hb];exact ah
  .rintro σ3 G' ⟨C,D,M,J,I,f2,O2,rfl,e,R,Z⟩;rw [cH] at e Z;rw [eG] at e Z;have er:X.run c (Ċ d (i+1))=(X.run c (Ċ d i)).run c (dec (d i)):=jr c _ _ X;rw [<- er] at e Z
   have t:(X.run c (Ċ d (i+1))).sg=[]/\(X.run c (Ċ d (i+1))).nd=0:=by
    rcases Z with ⟨h,_⟩ | ⟨_,h⟩
    .omega
    .exact h
   rfl';exact ⟨_,_,D,M,J,I,f2,O2,_,rfl,e,by rw [Nat.add_mul,Nat.one_mul]; omega,r.trans (FGo.ahead S1 R),t.1,t.2⟩
 .rintro σ2 G ⟨v1,C,U,v,W,Y,f1,O1,m1,rfl,q,N,r,g,o⟩;rw [vz] at q N g o;rfl';exact k U v W Y f1 O1 m1 G q N r g o
def snK (mx bt:Nat->Int):Nat->Sn
 | 0=>s0
 | k+1=>nar (snK mx bt k) (mx k) (bt k)
theorem μ {mx:Nat->Int}:∀ m,(∀ j,j < m->Ch (mx j))->OkS (snK mx bt m)/\(snK mx bt m).2.2 <= 5+2 * (m:Int)
 | 0,_=>⟨yz6,by show (5:Int) <= 5+2 * ((0:Nat):Int); decide⟩
 | m+1,h=>by
  obtain ⟨a,d⟩:=μ m fun j e=>h j (by omega);refine ⟨ycf a (h m (by omega)),?_⟩;have:=ytz (c:=mx m) (b:=bt m) a.ok;show (nar (snK mx bt m) (mx m) (bt m)).2.2 <= _;omega
theorem ý {mx my bu:Nat->Int}:∀ m,(∀ j,j < m->mx j=my j/\bt j=bu j)->snK mx bt m=snK my bu m
 | 0,_=>rfl
 | m+1,h=>by
  show nar (snK mx bt m) (mx m) (bt m)=nar (snK my bu m) (my m) (bu m);rw [ý m fun j a=>h j (by omega),(h m (by omega)).1,(h m (by omega)).2]
theorem FGo.but {p:Addr} {A:FA} {H H1 H2:Hp} {el:Addr} {o':HO} (h:FGo p A O H H1 el O') (hq:H q=none) (B:But q H1 H2) (hq2:H2 q=some o'):FGo p A O H H2 el O' :=
 ⟨h.he,h.hO,fun c o e d f b a=>B _ _ (h.fr c o e d f b a) (yd e hq),fun c o e=>let ⟨o1,w⟩:=h.live c o e; ⟨o1,B _ _ w (yd e hq)⟩⟩
theorem ul.but {H H':Hp} {p C:Addr} {A:FA} {X:FX} {f:Nat->List Int->Option Slt} {m:Nat} {fs:List (Str × V)} (h:ul K a H p A X f O m) (hq:H q=some (.ins C dq fs)) (hl:fs.length=3) (nO:∀ i,i < A.n->¬ O i q) (B:But q H H'):ul K a H' p A X f O m:=by
 refine h.frame (O2:=fun c=>c=q) (fun c o e g=>B c o e g) (fun z=>uc h.me hq (by rw [hl]; show ¬ (6=3); decide) z) (fun z=>uc h.mx.o hq (by rw [hl]; show ¬ (1=3); decide) z) (fun i d z=>uc (h.B.b i d).me hq (by rw [hl]; show ¬ (2=3); decide) z) (fun i c d w z=>nO i d (z ▸ w)) (fun l j _ e=>B.lst hq e) (fun t j e=>?_);rcases e with (e | ⟨o,e⟩) | e
 .exact .inl (.inl (B _ _ e (fun z=>by rw [z,hq] at e; cases e)))
 .exact .inl (.inr ⟨o,B _ _ e (fun z=>by rw [z,hq] at e; cases e)⟩)
 .exact .inr e
theorem ym9 (A:FA) (ml el pl:Addr) (sl:Nat->Addr):∀ (bs:List Int) (X:FX),X.run (A.re ml el pl sl) bs=X.run A bs
 | [],_=>rfl
 | b :: r,X=>ym9 A ml el pl sl r (X.see A b)
def yep (A:FA) (X:FX) (ts:List Int) (k:Nat):Int:=yne (X.run A ((dec ts).take k)).ws ((X.run A ((dec ts).take k)).cs A)
theorem yin:yk ["foreteller","text","span","bit"] ["foreteller","text"] (yg yrw):=w4 (by right)
inductive Ř (K:W.Frag) (a:Ads) (vs:List V) (H:Hp) (Q:VK) (E':XK):Prop
 | mk (p:Addr) (A:FA) (X:FX) (f:Nat->List Int->Option Slt) (O:Nat->Addr->Prop) (m:Nat) (tx:Addr) (ts:List Int):(vs=[.ref p,.ref tx])->(ul K a H p A X f O m)->(X.sg=[])->(X.nd=0)->(Ã H tx ts 1000)->(tx≠A.el)->(m+6 * (dec ts).length+20 < 1000000)->(∀ (r ml el pl:Addr) (sl:Nat->Addr) (f':Nat->List Int->Option Slt) (O':Nat->Addr->Prop) (m':Nat) (H':Hp),H r=none->H' r=some (.lst ((tL (snK (yep A X ts) (wl ts) (dec ts).length)).map V.int))->ul K a H' p (A.re ml el pl sl) (X.run A (dec ts)) f' O' m'->m' <= m+6 * (dec ts).length->FGo p A O H H' el O'->Q (.ref r) H')->Ř K a vs H Q E'
theorem ylu (T:Txt K mg a):wc P w K mg base CX0 7 a.Kz a.L1 ["foreteller","text"] (Ř K a):=by
 exists T.Cv.F.ok,yin,hr;obtain ⟨p,d,X,f,O,m,tx,c,rfl,hF,aq,al,a0,aH,hm,k⟩:=h;have aG:=x9 c;have hz:=a0.z;have Z:=a0.s;refine yo (y7 (i:=2) yin.nd rfl (Or.inl rfl) (γ T.Nv (ymy T) (hr.mono (by decide)) rfl T.Nu T.Du.B .nil vh)) ?_;refine yo (za PassesOwn.never rfl (wd (vd (yl3 T) (hr.mono (by decide)) rfl T.Ct.m T.Ct.F.kp T.Ct.B .nil vh (ya (pv 1) ye (yb rfl)))) (wb (i:=3) yin.nd rfl (Or.inl rfl)) (yh (yu (vn (pv 2) T.Af T.Dw.m (ylh T) (hr.mono (by decide)) T.Dw.B .nil vt (ya (wy (pv 0) T.Ag T.Dt.m (yl5 T) (hr.mono (by decide)) T.Dt.B .nil vh) (ya (pv 3) ye (yb rfl)) (yb rfl)))) (yf (yu (xr (pv 0) T.Ag T.Cs.m (yif T) (hr.mono (by decide)) T.Cs.B .nil vh (ya (pv 3) ye (yb rfl))))))) ?_;refine ⟨_,(yf (yv (wy (pv 2) T.Af T.Dx.m (ylk T) (hr.mono (by decide)) T.Dx.B .nil vh))),?_⟩;exists 2,2;rfl';intro q W nq am aC;have SQ:yw H (upd (upd H W (.own q)) q (.ins a.A4 W [])):=fun b o e=>by rw [yn (yd e nq),yn (yd e am)]; exact e
 refine ⟨q,W,rfl,yc,fun H1 ak B1=>⟨rfl,?_⟩⟩;have S1:yw H H1:=fun b o e=>B1 b o (SQ b o e) (yd e nq);rfl';refine ⟨tx,c,rfl,S1 _ _ a0.l,Z,by omega,fun bt H2 a7 S S2=>?_⟩;have a3:=S1.trans S2;have ao:=hF.same a3;have aj:bt≠d.el:=(yd (hF.same S1).el a7).symm
 have ay:∀ i,i < d.n->¬ O i q:=fun i hi w=>by
  obtain ⟨o,ho,_⟩:=(hF.B.b i hi).own q w;rw [nq] at ho;cases ho
 refine ⟨bt,rfl,⟨_,SqL.of S⟩,x5 (K:=K) (a:=bt) (xs:=(dec c).map V.int) (fun j σ2 G=>∃ (v:Option V) (ml el pl:Addr) (sl:Nat->Addr) (f':Nat->List Int->Option Slt) (O':Nat->Addr->Prop),σ2=[some (.ref p),some (.ref tx),some (.ref q),v]/\ul K a G p (d.re ml el pl sl) (X.run d ((dec c).take j)) f' O' (m+6 * j)/\FGo p d O H G el O'/\TxE c j (X.run d ((dec c).take j)).sg (X.run d ((dec c).take j)).nd/\G q=some (.ins a.A4 W (zt (snK (yep d X c) (wl c) j)))/\(∀ i,i < d.n->¬ O' i q)/\(G bt=some (.lst ((dec c).map V.int))/\bt≠el)/\(∀ i,i < j->Ch (yep d X c i)))
  ⟨_,d.ml,d.el,d.pl,d.sl,f,O,rfl,ao,FGo.refl.same a3,.inl ⟨dJ _,by show ybb _ _ X.sg X.nd; rw [aq,al]; exact ybb.zero _⟩,S2 _ _ ak,ay,⟨S,aj⟩,fun i hi=>absurd hi (dN i)⟩ (by rintro j σ2 G _ ⟨_,_,_,_,_,_,_,_,_,_,_,_,_,z,_⟩; exact SqL.of z.1) ?_ ?_⟩
 .rintro j y σ2 G hy ⟨v,I,x,L,J,f1,O1,rfl,g,go,hT,u,R,⟨a8,U⟩,D⟩;obtain ⟨b,rfl,ax,hb,hj⟩:=jf hy;obtain ⟨b0,b1⟩:=zx _ b ax;obtain ⟨a9,ar⟩:=hT.next Z hb;obtain ⟨an,aF⟩:=a9.nd Z;have aB:=a9.len;have a1:wl c j=b:=by unfold wl; rw [hb]; rfl
  have aE:=g.me;have a4:Ch (yep d X c j):=yhu g.n1 g.wok g.cok;have af:=yd1 a4;have av:=ycg b0 b1;obtain ⟨Y,ag⟩:=μ (mx:=yep d X c) (bt:=wl c) j D;rfl';refine ⟨q,W,_,rfl,u,lkN _ (by right) (by right) (by right),?_⟩;rfl';refine ⟨p,d.re I x L J,_,f1,O1,_,rfl,g,fun G1 N=>?_⟩;rfl';refine ⟨q,W,_,.int (yep d X c j),.int b,_,_,rfl,N _ _ u,Y.ok,.int _,.int _,fun z=>(by rw [af] at z; cases z),fun _ z=>(by rw [av] at z; cases z),fun c' b' ec eb _ _ _ G2 C B2=>?_⟩;cases ec;cases eb;have t:=(g.same N).but (N _ _ u) rfl R B2;have au:FGo p d O H G2 x O1:=(go.same N).but nq B2 C;have M:G2 bt=some (.lst ((dec c).map V.int)):=B2.lst (N _ _ u) (N _ _ a8);have aD:=t.me;have n6:=g.n6;rfl';refine ⟨p,d.re I x L J,_,f1,O1,m+6 * j,b,rfl,t,b0,b1,by omega,an,by omega,fun ad a6 ah ac f3 O3 G3 ap aw a2 aa as _=>?_⟩;have a5:FGo p (d.re I x L J) O1 G2 G3 a6 O3:=⟨ap,a2,aa,as⟩;have ab:=a5.kpa t;rfl';refine ⟨_,ad,a6,ah,ac,f3,O3,rfl,?_,au.trans a5,?_,?_,fun i hi w=>?_,⟨(ab _ _ M rfl U).2,(ab _ _ M rfl U).1⟩,fun i hi=>?_⟩
  .rw [zy hb];exact aw.up (by show m+6 * j+d.n <= _; have:d.n <= 6:=n6; omega)
  .rw [zy hb];exact ar
  .have e:snK (yep d X c) (wl c) (j+1)=nar (snK (yep d X c) (wl c) j) (yep d X c j) b:=by show nar _ _ (wl c j)=_; rw [a1]
   rw [e];exact aa _ _ C (uc C t.me (show ¬ (3=6) by decide)) (uc C t.mx.o (show ¬ (3=1) by decide)) (fun z=>by have e:=t.el; rw [<- z,C] at e; cases e) R
  .rcases a2 i q hi w with v | v
   .exact R i hi v
   .rw [C] at v;cases v
  .by_cases z:i=j
   .rw [z];exact a4
   .exact D i (by omega)
 .rintro σ2 G ⟨v,I,x,L,J,f1,O1,rfl,g,go,hT,u,R,_,D⟩;rw [cH] at g u D;rw [eG] at g;obtain ⟨Y,ag⟩:=μ (mx:=yep d X c) (bt:=wl c) (dec c).length D;rfl';refine ⟨q,W,_,rfl,u,lkN _ (by right) (by right) (by right),?_⟩;rfl';refine ⟨q,W,_,rfl,u,Y,by show Int.toNat _ <= 100000; omega,fun r G1 ae ai N=>?_⟩;exact k r I x L J f1 O1 _ G1 (go.free ae) ai (g.same N) (dh _) (go.same N)
theorem yh9:yk ["looks","text","learned","foreteller","signs"] ["looks","text","learned"] (yg yfj):=w4 (by right)
inductive į (K:W.Frag) (vs:List V) (H:Hp) (Q:VK) (E':XK):Prop
 | mk (L tx:Addr) (lx:V) (n:Nat) (lk:Nat->Addr) (kd:Nat->Fin 3) (tp:Nat->Addr) (ps:Nat->List Int) (ts:List Int) (N w:Nat) (lt:Nat->Addr) (tt:Nat->List Int):(vs=[.ref L,.ref tx,lx])->(vaz H L tx lx n lk kd tp ps ts N w lt tt)->(ts.length <= 1000)->(∀ r H',H r=none->H' r=some (.lst ((tL (snK (ja n kd ps (Ċ tt N) ts) (wl ts) (dec ts).length)).map V.int))->yw H H'->Q (.ref r) H')->į K vs H Q E'
theorem yt6 (T:Txt K mg a):wc P w K mg base CX0 8 a.Do a.L6 ["looks","text","learned"] (į K):=by
 exists T.Po.ok,yh9,W;obtain ⟨L,tx,lx,n,lk,kd,tp,ps,y,N,w,lt,Z,rfl,d,J,k⟩:=h;have ab:=d.b;have n1:=d.n1;have n6:=d.n6;have ah:=x9 y;refine yo (y7 (i:=3) yh9.nd rfl (Or.inl rfl) (x6 T.Qd (ylf T) (W.mono (by decide)) rfl T.Qc T.Dq.B .nil vt (ya (pv 0) ye (yb rfl)))) ?_;refine yo (y7 (i:=4) yh9.nd rfl (Or.inl rfl) (vj (yiv T) (W.mono (by decide)) rfl T.C9.m T.C9.F.kp T.C9.B .nil vt (ya (pv 1) ye (yb rfl)))) ?_;refine yo (yu (vd (yul T) (W.mono (by decide)) rfl T.Fd.m T.Fd.F.kp T.Fd.B .nil vh (ya (pv 3) (ya (vd (yu0 T) (W.mono (by decide)) rfl T.Fc.m T.Fc.F.kp T.Fc.B .nil vh (ya (pv 2) ye (yb rfl))) ye (yb rfl)) (yb rfl)))) ?_;refine ⟨_,(yf (yv (vd (ylu T) (W.mono (by decide)) rfl T.Cv.m T.Cv.F.kp T.Cv.B .nil vh (ya (pv 3) (ya (pv 4) ye (yb rfl)) (yb rfl))))),?_⟩;exists 3,2;rfl';intro p I np a4 ag;have S0:yw H (upd (upd H I (.own p)) p (.ins a.A3 I [])):=fun b o e=>by rw [yn (yd e np),yn (yd e a4)]; exact e
 refine ⟨p,I,.ref L,rfl,yc,.inr ⟨L,n,lk,kd,tp,ps,rfl,S0 _ _ d.l,n1,n6,d.r.same S0,fun A f O H1 N1 B1=>⟨rfl,?_⟩⟩⟩;obtain ⟨Y,rfl,rfl,rfl,rfl,oO,oB,oM,oL⟩:=N1;have S1:yw H H1:=fun b o e=>B1 b o (S0 b o e) (yd e np);have g:∀ {c:Addr},upd (upd H I (.own p)) p (.ins a.A3 I []) c=none->H c=none:=fun h=>S0.free h;have X:H A.el=none:=g (oL A.el (.inr (.inl rfl)));rfl';refine ⟨.ref tx,_,rfl,.lst (S1 _ _ d.t.l),.inr ⟨y.map V.int,Õ (S1 _ _ d.t.l) d.t.s d.t.z,fun sg H2 R G S2=>?_⟩⟩;have x:=S1.trans S2;have q:=Y.same S2;have a3:sg≠A.el:=(yd Y.el R).symm;rfl';refine ygk (d.lr.same x) d.w1 d.N1 fun a0 cx H3 h0 h3 hx S3=>?_;rfl';refine ⟨p,A,FX0 A.n A.kd,f,O,6,a0,N,w,cx,Z,rfl,q.same S3,rfl,rfl,h3,(yd q.el h0).symm,fun i C=>⟨⟨(hx i C).2,(d.lr.2 i C).s,(d.lr.2 i C).z⟩,(yd q.el (hx i C).1).symm⟩,d.w1,by omega,fun ml el pl sl f1 O1 m1 H4 M a8 u U S=>?_⟩;have u:=FGo.ahead S3 u;have a2:=u.kpa q;have v:=a2 _ _ G rfl a3
 have eX:∀ i,yep (A.re ml el pl sl) ((FX0 A.n A.kd).run A (Ċ Z N)) y i=ja A.n A.kd A.ps (Ċ Z N) y i:=fun i=>by
  unfold ja yep fX;rw [ym9,<- Ă A,<- Ă A];rfl
 generalize hX:(FX0 A.n A.kd).run A (Ċ Z N)=XX at M U S eX;rfl';refine ⟨p,A.re ml el pl sl,XX,f1,O1,m1,sg,y,rfl,M,U,S,⟨v.2,d.t.s,J⟩,v.1,by omega,fun r a7 af ad aa f2 O2 m2 H5 a1 D ac ae a5=>?_⟩;have go:=u.trans a5;rw [ý _ fun j _=>⟨eX j,rfl⟩] at D;refine k r H5 (x.free (u.free a1)) D fun c o e=>go.fr c o (x _ _ e) (fun z=>?_) (fun z=>?_) (fun z=>?_) (fun i C w'=>?_)
 .rw [z,np] at e;cases e
 .rw [z,g oM] at e;cases e
 .rw [z,X] at e;cases e
 .rw [g (oO i c C w')] at e;cases e
structure RGo (p q s:Addr) (A:FA) (O:Nat->Addr->Prop) (H H':Hp) (ml el:Addr) (O':Nat->Addr->Prop):Prop where
 hm:ml=A.ml\/H ml=none
 he:el=A.el\/H el=none
 hO:∀ j c,j < A.n->O' j c->O j c\/H c=none
 fr:∀ c o,H c=some o->c≠p->c≠A.mp->c≠A.el->c≠q->c≠s->(∀ j,j < A.n->¬ O j c)->H' c=some o
 live:∀ c o,H c=some o->∃ o',H' c=some o'
theorem RGo.free {p s:Addr} {A:FA} {H H':Hp} {ml el c:Addr} (h:RGo p q s A O H H' ml el O') (hc:H' c=none):H c=none:=by
 cases e:H c with
 | none=>rfl
 | some o =>
  obtain ⟨a,w⟩:=h.live c o e;rw [hc] at w;cases w
theorem RGo.refl {p s:Addr} {A:FA} {H:Hp}:RGo p q s A O H H A.ml A.el O:=⟨.inl rfl,.inl rfl,fun _ _ _ w=>.inl w,fun _ _ e _ _ _ _ _ _=>e,fun _ o e=>⟨o,e⟩⟩
theorem RGo.trans {p s:Addr} {A:FA} {O1:Nat->Addr->Prop} {H H1 H2:Hp} {ml el pl el2:Addr} {sl:Nat->Addr} (h:RGo p q s A O H H1 ml el O1) (k:RGo p q s (A.re ml el pl sl) O1 H1 H2 ml2 el2 O2):RGo p q s A O H H2 ml2 el2 O2:=by
 refine ⟨?_,?_,fun j c a w=>?_,fun c o e l g i b f d=>?_,fun c o e=>?_⟩
 .rcases k.hm with z | z
  .rcases h.hm with y | y
   .exact .inl (z.trans y)
   .exact .inr (by rw [show ml2=ml from z]; exact y)
  .exact .inr (h.free z)
 .rcases k.he with z | z
  .rcases h.he with y | y
   .exact .inl (z.trans y)
   .exact .inr (by rw [show el2=el from z]; exact y)
  .exact .inr (h.free z)
 .rcases k.hO j c a w with v | v
  .exact h.hO j c a v
  .exact .inr (h.free v)
 .refine k.fr c o (h.fr c o e l g i b f d) l g (fun z=>?_) b f (fun j a w=>?_)
  .rcases h.he with y | y
   .exact i (z.trans y)
   .rw [show c=el from z,y] at e;cases e
  .rcases h.hO j c a w with v | v
   .exact d j a v
   .rw [e] at v;cases v
 .obtain ⟨m,n⟩:=h.live c o e;exact k.live c m n
theorem RGo.same {p s:Addr} {A:FA} {H H1 H2:Hp} {ml el:Addr} (h:RGo p q s A O H H1 ml el O') (S:yw H1 H2):RGo p q s A O H H2 ml el O' :=
 ⟨h.hm,h.he,h.hO,fun c o e i f g a d b=>S _ _ (h.fr c o e i f g a d b),fun c o e=>let ⟨o',w⟩:=h.live c o e; ⟨o',S _ _ w⟩⟩
structure jz (K:W.Frag) (a:Ads) (H:Hp) (p:Addr) (A:FA) (X:FX) (f:Nat->List Int->Option Slt) (O:Nat->Addr->Prop) (m:Nat) (q dx pd s ds:Addr) (d:List Int) (x:Sn):Prop where
 ft:ul K a H p A X f O m
 sk:yfm a H q dx pd s ds d x
 ok:OkS x
 nO:∀ i,i < A.n->¬ O i q/\¬ O i s
 nd:pd≠A.el
theorem jz.same {H H':Hp} {p:Addr} {A:FA} {X:FX} {f:Nat->List Int->Option Slt} {m:Nat} {dx pd s:Addr} {d:List Int} {x:Sn} (h:jz K a H p A X f O m q dx pd s ds d x) (S:yw H H'):jz K a H' p A X f O m q dx pd s ds d x:=⟨h.ft.same S,h.sk.same S,h.ok,h.nO,h.nd⟩
def chX (A:FA) (X:FX):Int:=yne X.ws (X.cs A)
theorem ul.but2 {H H':Hp} {p:Addr} {A:FA} {X:FX} {f:Nat->List Int->Option Slt} {m:Nat} {dx pd s:Addr} {d:List Int} {x:Sn} (h:jz K a H p A X f O m q dx pd s ds d x) (B:yiy q s H H'):ul K a H' p A X f O m:=by
 have j:=h.sk.me;have k:=h.sk.sp;refine h.ft.frame (O2:=fun c=>c=q\/c=s) (fun c o e n=>B c o e (fun z=>n (.inl z)) (fun z=>n (.inr z))) (fun z=>?_) (fun z=>?_) (fun i g z=>?_) (fun i c g w z=>?_) (fun l r _ e=>h.sk.lst B e) (fun t r e=>?_)
 .rcases z with z | z
  .exact uc h.ft.me j (show ¬ (6=4) by decide) z
  .exact uc h.ft.me k (show ¬ (6=3) by decide) z
 .rcases z with z | z
  .exact uc h.ft.mx.o j (show ¬ (1=4) by decide) z
  .exact uc h.ft.mx.o k (show ¬ (1=3) by decide) z
 .rcases z with z | z
  .exact uc (h.ft.B.b i g).me j (show ¬ (2=4) by decide) z
  .exact uc (h.ft.B.b i g).me k (show ¬ (2=3) by decide) z
 .rcases z with z | z
  .exact (h.nO i g).1 (z ▸ w)
  .exact (h.nO i g).2 (z ▸ w)
 .rcases e with (e | ⟨o,e⟩) | e
  .exact .inl (.inl (h.sk.tup B e))
  .exact .inl (.inr ⟨o,B _ _ e (xh e j (by intro z; cases z)) (xh e k (by intro z; cases z))⟩)
  .exact .inr e
theorem ymc:yk ["foreteller","seeker","bit"] ["foreteller","seeker"] (yg yq4):=w4 (by right)
inductive ř (K:W.Frag) (a:Ads) (vs:List V) (H:Hp) (Q:VK) (E':XK):Prop
 | mk (p:Addr) (A:FA) (X:FX) (f:Nat->List Int->Option Slt) (O:Nat->Addr->Prop) (m:Nat) (q dx pd s ds:Addr) (d:List Int) (x:Sn):(vs=[.ref p,.ref q])->(jz K a H p A X f O m q dx pd s ds d x)->(m+20 < 1000000)->(0 <= X.nd)->(X.sg.length <= 100000)->(∀ (ml el pl:Addr) (sl:Nat->Addr) (f':Nat->List Int->Option Slt) (O':Nat->Addr->Prop) (H':Hp),jz K a H' p (A.re ml el pl sl) (X.see A (Ô d x (chX A X))) f' O' (m+A.n) q dx pd s ds d (nar x (chX A X) (Ô d x (chX A X)))->RGo p q s A O H H' ml el O'->Q (.int (Ô d x (chX A X))) H')->ř K a vs H Q E'
theorem ykx (T:Txt K mg a):wc P w K mg base CX0 7 a.L8 a.L9 ["foreteller","seeker"] (ř K a):=by
 exists T.Cw.F.ok,ymc,hr;obtain ⟨p,r,X,f,O,m,q,dx,pd,u,ds,d,x,rfl,n,hm,a4,a6,k⟩:=h;have hp:=n.ft.me;have hq:=n.sk.me;have R:Ch (chX r X):=yhu n.ft.n1 n.ft.wok n.ft.cok;have a1:=yd1 R;refine ⟨_,(yh (y7 (i:=2) ymc.nd rfl (Or.inl rfl) (vn (pv 1) T.Bo T.Hk.m (ysm T) (hr.mono (by decide)) T.Hk.B .nil vt (ya (wy (pv 0) T.Ag T.Dt.m (yl5 T) (hr.mono (by decide)) T.Dt.B .nil vh) ye (yb rfl)))) (yh (yu (xr (pv 0) T.Ag T.Cs.m (yif T) (hr.mono (by decide)) T.Cs.B .nil vh (ya (pv 2) ye (yb rfl)))) (yf (yv (pv 2))))),?_⟩;exists 2,1;rfl';refine ⟨p,r,X,f,O,m,rfl,n.ft,fun H1 G=>?_⟩;have J:=n.same G;rfl';refine ⟨q,dx,pd,u,ds,d,x,.int (chX r X),_,rfl,J.sk,n.ok,.int _,fun z=>(by rw [a1] at z; cases z),fun c' ec _ H2 g D=>?_⟩;cases ec;have l:=ul.but2 J D;have a8:=l.me
 obtain ⟨b0,b1⟩:0 <= Ô d x (chX r X)/\Ô d x (chX r X) <= 1:=by
  rcases Ŏ d x (chX r X) with e | e <;> (rw [e]; decide)
 generalize hb:Ô d x (chX r X)=b at b0 b1 g k;rfl';refine ⟨p,r,X,f,O,m,b,rfl,l,b0,b1,hm,a4,a6,fun I M pl sl f' O' H3 he Z W U lv t=>?_⟩;have a2:q≠p:=uc g.me l.me (show ¬ (4=6) by decide);have a5:q≠r.mp:=uc g.me l.mx.o (show ¬ (4=1) by decide);have a0:u≠p:=uc g.sp l.me (show ¬ (3=6) by decide);have a7:u≠r.mp:=uc g.sp l.mx.o (show ¬ (3=1) by decide)
 have N:∀ {c C dc:Addr} {fs:List (Str × V)},H2 c=some (.ins C dc fs)->c≠r.el:=fun e z=>by
  have e2:=l.el;rw [<- z,e] at e2;cases e2
 have L:=U _ _ g.me a2 a5 (N g.me) fun i y=>(n.nO i y).1;have S:=U _ _ g.sp a0 a7 (N g.sp) fun i y=>(n.nO i y).2;have Y:H3 pd=some (.lst (d.map V.int)):=U _ _ g.dt (fun z=>by have e:=g.dt; rw [z,l.me] at e; cases e) (fun z=>by have e:=g.dt; rw [z,l.mx.o] at e; cases e) n.nd (l.B.nlst g.dt);rfl';refine k I M pl sl f' O' H3 ⟨Z,⟨L,Y,S,g.ne⟩,ycf n.ok R,fun i y=>⟨fun w=>?_,fun w=>?_⟩,?_⟩ ⟨.inr ?_,?_,fun j c hj w=>?_,fun c o e c1 c2 c3 c4 c5 no=>?_,fun c o e=>?_⟩
 .rcases W i q y w with v | v
  .exact (n.nO i y).1 v
  .rw [g.me] at v;cases v
 .rcases W i u y w with v | v
  .exact (n.nO i y).2 v
  .rw [g.sp] at v;cases v
 .rcases he with z | z
  .rw [show (r.re I M pl sl).el=r.el from z];exact n.nd
  .exact yd g.dt z
 .cases e:H I with
  | none=>rfl
  | some o =>
   by_cases z1:I=q
   .rw [z1,g.me] at t;cases t
   by_cases z2:I=u
   .rw [z2,g.sp] at t;cases t
   rw [D _ _ (G _ _ e) z1 z2] at t;cases t
 .rcases he with z | z
  .exact .inl z
  .refine .inr ?_
   cases e:H M with
   | none=>rfl
   | some o =>
    by_cases z1:M=q
    .rw [z1,g.me] at z;cases z
    by_cases z2:M=u
    .rw [z2,g.sp] at z;cases z
    rw [D _ _ (G _ _ e) z1 z2] at z;cases z
 .rcases W j c hj w with v | v
  .exact .inl v
  .refine .inr ?_
   cases e:H c with
   | none=>rfl
   | some o =>
    by_cases z1:c=q
    .rw [z1,g.me] at v;cases v
    by_cases z2:c=u
    .rw [z2,g.sp] at v;cases v
    rw [D _ _ (G _ _ e) z1 z2] at v;cases v
 .exact U c o (D _ _ (G _ _ e) c4 c5) c1 c2 c3 no
 .by_cases z1:c=q
  .exact ⟨_,z1 ▸ L⟩
  by_cases z2:c=u
  .exact ⟨_,z2 ▸ S⟩
  exact lv c o (D _ _ (G _ _ e) z1 z2)
def rnx (A:FA) (d:List Int) (S:FX × Sn):FX × Sn:=(S.1.see A (Ô d S.2 (chX A S.1)),nar S.2 (chX A S.1) (Ô d S.2 (chX A S.1)))
def rst (A:FA) (d:List Int) (S:FX × Sn):Nat->FX × Sn
 | 0=>S
 | n+1=>rnx A d (rst A d S n)
def ξ (A:FA) (d:List Int) (S:FX × Sn) (n:Nat):Int:=Ô d (rst A d S n).2 (chX A (rst A d S n).1)
theorem ymg (A:FA) (d:List Int) (S:FX × Sn) (n:Nat):ξ A d S n=0\/ξ A d S n=1:=Ŏ _ _ _
theorem ycd (A:FA) (d:List Int) (S:FX × Sn) (k:Nat):∀ n,rst A d (rst A d S k) n=rst A d S (k+n)
 | 0=>rfl
 | n+1=>congrArg (rnx A d) (ycd A d S k n)
theorem yim (A:FA) (d:List Int) (S:FX × Sn) (ml el pl:Addr) (sl:Nat->Addr):∀ n,rst (A.re ml el pl sl) d S n=rst A d S n
 | 0=>rfl
 | n+1=>by
  show rnx (A.re ml el pl sl) d (rst (A.re ml el pl sl) d S n)=_;rw [yim A d S ml el pl sl n];rfl
theorem ys1 (A:FA) (X:FX) (b:Int) (h:0 <= X.nd) (hb:0 <= b):0 <= (X.see A b).nd:=by
 show 0 <= ndN X.nd b;unfold ndN
 split
 .split <;> omega
 .split <;> omega
theorem ywx (A:FA) (X:FX) (b:Int):(X.see A b).sg.length <= X.sg.length+1:=by
 show (sgN X.sg X.nd b).length <= _;unfold sgN
 split
 .split
  .rw [dv]; exact dh _
  .omega
 .split
  .omega
  .exact dJ _
theorem yea (A:FA) (d:List Int) (S:FX × Sn) (h:0 <= S.1.nd):∀ n,0 <= (rst A d S n).1.nd
 | 0=>h
 | n+1=>ys1 A _ _ (yea A d S h n) (by rcases ymg A d S n with e | e <;> (unfold ξ at e; rw [e]; decide))
theorem yeo (A:FA) (d:List Int) (S:FX × Sn):∀ n,(rst A d S n).1.sg.length <= S.1.sg.length+n
 | 0=>dh _
 | n+1=>dZ (ywx A _ _) (Nat.succ_le_succ (yeo A d S n))
theorem jz.app {H:Hp} {p R:Addr} {A:FA} {X:FX} {f:Nat->List Int->Option Slt} {m:Nat} {dx pd s:Addr} {d:List Int} {x:Sn} {xs ys:List V} (h:jz K a H p A X f O m q dx pd s ds d x) (hR:H R=some (.lst xs)) (hq:∀ q,(q=A.bl\/q=A.el\/q=A.ml\/q=A.pl)->q≠R) (np:pd≠R):jz K a (upd H R (.lst ys)) p A X f O m q dx pd s ds d x:=by
 refine ⟨h.ft.app hR hq,⟨yi (fun z=>?_) h.sk.me,yi np h.sk.dt,yi (fun z=>?_) h.sk.sp,h.sk.ne⟩,h.ok,h.nO,h.nd⟩
 .have e:=h.sk.me;rw [z,hR] at e;cases e
 .have e:=h.sk.sp;rw [z,hR] at e;cases e
theorem jz.notN {H:Hp} {p R:Addr} {A:FA} {X:FX} {f:Nat->List Int->Option Slt} {m:Nat} {dx pd s:Addr} {d:List Int} {x:Sn} (h:jz K a H p A X f O m q dx pd s ds d x) (hR:H R=some (.lst (xs.map V.int))) (nm:R≠A.ml) (ne:R≠A.el):∀ q,(q=A.bl\/q=A.el\/q=A.ml\/q=A.pl)->q≠R:=fun q j z=>by
 have i:=h.ft.n1
 have b:∀ (g:Nat->Addr),xs.map V.int=refs g A.n->False:=fun g e=>by
  have c:(refs g A.n)[0]?=some (V.ref (g 0)):=yve i;rw [<- e,dm] at c
  cases w:xs[0]? with
  | none=>rw [w] at c; cases c
  | some y=>rw [w] at c; cases c
 rcases j with y | y | y | y
 .have e:=h.ft.bl;rw [<- y,z,hR] at e;exact b _ (HO.lst.inj (dD e))
 .exact ne (z.symm.trans y)
 .exact nm (z.symm.trans y)
 .have e:=h.ft.pl;rw [<- y,z,hR] at e;exact b _ (HO.lst.inj (dD e))
theorem RGo.app {p s R:Addr} {A:FA} {H H1:Hp} {ml el:Addr} {o':HO} (h:RGo p q s A O H H1 ml el O') (hR:H R=none):RGo p q s A O H (upd H1 R o') ml el O' :=
 ⟨h.hm,h.he,h.hO,fun c o e i f g a d b=>yi (yd e hR) (h.fr c o e i f g a d b),fun c o e=>let ⟨o1,w⟩:=h.live c o e; ⟨o1,yi (yd e hR) w⟩⟩
def wB (i:Nat):Int:=([128,64,32,16,8,4,2,1]:List Int)[i]?.getD 0
theorem yyt (i:Nat):0 <= wB i/\wB i <= 128:=by
 rcases i with _ | _ | _ | _ | _ | _ | _ | _ | i
 .exact ⟨by decide,by decide⟩
 .exact ⟨by decide,by decide⟩
 .exact ⟨by decide,by decide⟩
 .exact ⟨by decide,by decide⟩
 .exact ⟨by decide,by decide⟩
 .exact ⟨by decide,by decide⟩
 .exact ⟨by decide,by decide⟩
 .exact ⟨by decide,by decide⟩
 .exact ⟨by show (0:Int) <= 0; decide,by show (0:Int) <= 128; decide⟩
def sgB (A:FA) (d:List Int) (S:FX × Sn) (i:Nat):List Int:=(List.range i).map fun j=>wB j * ξ A d S j
theorem yjn (A:FA) (d:List Int) (S:FX × Sn) (i:Nat):sgB A d S (i+1)=sgB A d S i++[wB i * ξ A d S i]:=by
 unfold sgB;rw [List.range_succ,dF];rfl
theorem yub:yk ["foreteller","seeker"] ["foreteller","seeker"] (yg ypr):=w4 (by right)
inductive þ (K:W.Frag) (a:Ads) (vs:List V) (H:Hp) (Q:VK) (E':XK):Prop
 | mk (p:Addr) (A:FA) (S:FX × Sn) (f:Nat->List Int->Option Slt) (O:Nat->Addr->Prop) (m:Nat) (q dx pd s ds:Addr) (d:List Int):(vs=[.ref p,.ref q])->(jz K a H p A S.1 f O m q dx pd s ds d S.2)->(m+80 < 1000000)->(0 <= S.1.nd)->(S.1.sg.length <= 90000)->(∀ (ml el pl:Addr) (sl:Nat->Addr) (f':Nat->List Int->Option Slt) (O':Nat->Addr->Prop) (H':Hp),jz K a H' p (A.re ml el pl sl) (rst A d S 8).1 f' O' (m+8 * A.n) q dx pd s ds d (rst A d S 8).2->RGo p q s A O H H' ml el O'->Q (.int (sgB A d S 8).sum) H')->þ K a vs H Q E'
theorem ywz (T:Txt K mg a):wc P w K mg base CX0 8 a.La a.Lb ["foreteller","seeker"] (þ K a):=by
 exists T.Fe.F.ok,yub,hr;obtain ⟨p,b,S,f,O,m,q,dx,pd,Z,ds,d,rfl,L,hm,a3,aa,k⟩:=h;have n6:=L.ft.n6;refine ⟨_,(yf (yv (yq (ε rfl) rfl T.E9 (by right) (ya (wg (js:=[1,0]) (ys:=["seeker","foreteller"]) rfl (yd7 (yb9 rfl T.I2)) (fun C s2 H2 fp=>(yr xa (pv 0) (vd (ykx T) (hr.mono (by decide)) rfl T.Cw.m T.Cw.F.kp T.Cw.B .nil vh (ya (pv 2) (ya (pv 1) ye (yb rfl)) (yb rfl))))) rfl rfl (hyc:=(all_cons rfl (all_cons rfl yx))) (hrel:=(all_cons rfl (all_cons rfl yx)))) ye (yb rfl))))),?_⟩;exists 2,0;rfl';refine ⟨a.Bi,rfl,⟨_,T.D8 H⟩,fun D W=>?_⟩;refine yan (xs:=[.int 128,.int 64,.int 32,.int 16,.int 8,.int 4,.int 2,.int 1]) (fun i G=>∃ (r t I:Addr) (Y:Nat->Addr) (f':Nat->List Int->Option Slt) (O':Nat->Addr->Prop),jz K a G p (b.re r t I Y) (rst b d S i).1 f' O' (m+i * b.n) q dx pd Z ds d (rst b d S i).2/\RGo p q Z b O H G r t O'/\G D=some (.lst ((sgB b d S i).map V.int))/\D≠r/\D≠t) ?_ (fun i G _ _=>T.D8 G) ?_ ?_
 .have S1:yw H (upd H D (.lst [])):=y8 W;refine ⟨b.ml,b.el,b.pl,b.sl,f,O,?_,RGo.refl.same S1,yc,(yd L.ft.mx.l W).symm,(yd L.ft.el W).symm⟩;rw [Nat.zero_mul];exact L.same S1
 .rintro i y G j a1 ⟨r,t,I,Y,f1,O1,e,v,c,N,u⟩;have hi:i < 8:=a1
  obtain rfl:y=V.int (wB i):=by
   rcases i with _ | _ | _ | _ | _ | _ | _ | _ | i
   .exact (dD j).symm
   .exact (dD j).symm
   .exact (dD j).symm
   .exact (dD j).symm
   .exact (dD j).symm
   .exact (dD j).symm
   .exact (dD j).symm
   .exact (dD j).symm
   .omega
  have a6:i * b.n <= 8 * b.n:=Nat.mul_le_mul_right _ (by omega);obtain ⟨a8,a7⟩:=yyt i;have a4:=yea b d S a3 i;have ab:=yeo b d S i;rfl';refine ⟨p,b.re r t I Y,(rst b d S i).1,f1,O1,m+i * b.n,q,dx,pd,Z,ds,d,(rst b d S i).2,rfl,e,by omega,a4,by omega,fun J M a0 a5 f2 O2 G2 R g=>?_⟩;have x:G2 D=some (.lst ((sgB b d S i).map V.int)):=g.fr _ _ c (xh c e.ft.me (by intro z; cases z)) (xh c e.ft.mx.o (by intro z; cases z)) u (xh c e.sk.me (by intro z; cases z)) (xh c e.sk.sp (by intro z; cases z)) (e.ft.B.nlst c)
  have U:D≠J:=by
   rcases g.hm with z | z
   .rw [z]; exact N
   .exact yd c z
  have X:D≠M:=by
   rcases g.he with z | z
   .rw [z]; exact u
   .exact yd c z
  refine ⟨wB i,_,rfl,rfl,.inl ⟨by omega,by omega⟩,?_⟩;refine ⟨_,x,?_,8 - (i+1),by show 8 - (i+1) < 8 - i; omega,rfl,hi,J,M,a0,a5,f2,O2,?_,?_,?_,U,X⟩
  .unfold sgB;rw [cH,cH,dL];exact Nat.lt_trans hi (by decide)
  .rw [show m+(i+1) * b.n=m+i * b.n+b.n by rw [Nat.succ_mul,Nat.add_assoc]];exact jz.app R x (R.notN x U X) (yd L.sk.dt W)
  .exact (v.trans g).app W
  .rw [yjn,dF];exact yc
 .rintro G ⟨r,t,I,Y,f1,O1,e,v,c,N,u⟩;rfl';refine ⟨D,sgB b d S 8,rfl,SqL.of c,?_⟩;rfl';exact k r t I Y f1 O1 G e v
theorem jz.up {H:Hp} {p:Addr} {A:FA} {X:FX} {f:Nat->List Int->Option Slt} {m:Nat} {dx pd s:Addr} {d:List Int} {x:Sn} (h:jz K a H p A X f O m q dx pd s ds d x) (hm:m <= m'):jz K a H p A X f O m' q dx pd s ds d x:=⟨h.ft.up hm,h.sk,h.ok,h.nO,h.nd⟩
theorem yok (A:FA) (d:List Int) (S:FX × Sn) (ml el pl:Addr) (sl:Nat->Addr) (n:Nat):ξ (A.re ml el pl sl) d S n=ξ A d S n:=by
 unfold ξ;rw [yim];rfl
theorem ys5 (A:FA) (d:List Int) (S:FX × Sn) (ml el pl:Addr) (sl:Nat->Addr) (n:Nat):sgB (A.re ml el pl sl) d S n=sgB A d S n:=by
 unfold sgB;exact List.map_congr_left fun j _=>by rw [yok]
def rsg (A:FA) (d:List Int) (S:FX × Sn) (k:Nat):Int:=(sgB A d (rst A d S (9 * k+1)) 8).sum
def rtx (A:FA) (d:List Int) (S:FX × Sn) (k:Nat):List Int:=(List.range k).map (rsg A d S)
theorem yj5 (A:FA) (d:List Int) (S:FX × Sn) (k:Nat):rtx A d S (k+1)=rtx A d S k++[rsg A d S k]:=by
 unfold rtx;rw [List.range_succ,dF];rfl
theorem yhn (A:FA) (d:List Int) (S:FX × Sn) (k:Nat):(rtx A d S k).length=k:=by
 unfold rtx;rw [cH,dL]
section
variable {G:Hp} {p:Addr} {A:FA} {S:FX × Sn} {f:Nat->List Int->Option Slt} {m n:Nat} {dx pd s ml el pl:Addr} {sl:Nat->Addr} {d:List Int} {Q:VK} {E:XK}
theorem yvw (hR:jz K a G p (A.re ml el pl sl) (rst A d S n).1 f O m q dx pd s ds d (rst A d S n).2) (hm:m+20 < 1000000) (nd0:0 <= S.1.nd) (hsg:S.1.sg.length+n <= 100000)
  (k:∀ (ml2 el2 pl2:Addr) (sl2:Nat->Addr) (f':Nat->List Int->Option Slt) (O':Nat->Addr->Prop) (H':Hp),jz K a H' p (A.re ml2 el2 pl2 sl2) (rst A d S (n+1)).1 f' O' (m+6) q dx pd s ds d (rst A d S (n+1)).2->RGo p q s (A.re ml el pl sl) O G H' ml2 el2 O'->Q (.int (ξ A d S n)) H'):ř K a [.ref p,.ref q] G Q E :=
 ⟨p,A.re ml el pl sl,(rst A d S n).1,f,O,m,q,dx,pd,s,ds,d,(rst A d S n).2,rfl,hR,hm,yea A d S nd0 n,dZ (yeo A d S n) hsg,fun ml2 el2 pl2 sl2 f' O' H' c b=>k ml2 el2 pl2 sl2 f' O' H' (jz.up c (Nat.add_le_add_left hR.ft.n6 m)) b⟩
theorem yob (hR:jz K a G p (A.re ml el pl sl) (rst A d S n).1 f O m q dx pd s ds d (rst A d S n).2) (hm:m+80 < 1000000) (nd0:0 <= S.1.nd) (hsg:S.1.sg.length+n <= 90000)
  (k:∀ (ml2 el2 pl2:Addr) (sl2:Nat->Addr) (f':Nat->List Int->Option Slt) (O':Nat->Addr->Prop) (H':Hp),jz K a H' p (A.re ml2 el2 pl2 sl2) (rst A d S (n+8)).1 f' O' (m+48) q dx pd s ds d (rst A d S (n+8)).2->RGo p q s (A.re ml el pl sl) O G H' ml2 el2 O'->Q (.int (sgB A d (rst A d S n) 8).sum) H'):þ K a [.ref p,.ref q] G Q E:=by
 refine ⟨p,A.re ml el pl sl,rst A d S n,f,O,m,q,dx,pd,s,ds,d,rfl,hR,hm,yea A d S nd0 n,dZ (yeo A d S n) hsg,fun ml2 el2 pl2 sl2 f' O' H' b c=>?_⟩;have e:A.n <= 6:=hR.ft.n6;have b:=jz.up b (show m+8 * A.n <= m+48 by omega);rw [yim,ycd] at b;rw [ys5];exact k ml2 el2 pl2 sl2 f' O' H' b c
end
theorem ymw:yk ["foreteller","seeker","most","text"] ["foreteller","seeker","most"] (yg yqx):=w4 (by right)
inductive yas (K:W.Frag) (a:Ads) (vs:List V) (H:Hp) (Q:VK) (E:XK):Prop
 | mk (p:Addr) (A:FA) (S:FX × Sn) (f:Nat->List Int->Option Slt) (O:Nat->Addr->Prop) (m:Nat) (q dx pd s ds:Addr) (d:List Int) (mo:Nat):(vs=[.ref p,.ref q,.int mo])->(jz K a H p A S.1 f O m q dx pd s ds d S.2)->(mo <= 1000)->(m+54 * mo+200 < 1000000)->(0 <= S.1.nd)->(S.1.sg.length <= 10000)->((∀ (N:Nat) (r ml el pl:Addr) (sl:Nat->Addr) (f':Nat->List Int->Option Slt) (O':Nat->Addr->Prop) (H':Hp),N <= mo->(∀ j,j < N->ξ A d S (9 * j)=1)->ξ A d S (9 * N)=0->H r=none->H' r=some (.lst ((rtx A d S N).map V.int))->r≠el->jz K a H' p (A.re ml el pl sl) (rst A d S (9 * N+1)).1 f' O' (m+54 * N+6) q dx pd s ds d (rst A d S (9 * N+1)).2->RGo p q s A O H H' ml el O'->Q (.ref r) H'))->(((∀ j,j <= mo->ξ A d S (9 * j)=1)->∀ (ml el:Addr) (O':Nat->Addr->Prop) (H':Hp),RGo p q s A O H H' ml el O'->E (.ref a.Fs) none H'))->yas K a vs H Q E
theorem yvu (T:Txt K mg a):wc P w K mg base (CXe P w) 9 a.Lc a.Ld ["foreteller","seeker","most"] (yas K a):=by
 exists T.Ff.F.okE,ymw,hr;obtain ⟨p,g,S,f,O,m,q,dx,pd,s',ds,d,U,rfl,hR,al,hm,a0,an,kQ,kE⟩:=h;refine ⟨_,(yh (y7 (i:=3) ymw.nd rfl (Or.inl rfl) (wq ye)) (yh (u4 PassesOwn.leaving (yy uk (vd (ykx T) (hr.mono (by decide)) rfl T.Cw.m T.Cw.F.kp T.Cw.B .nil vh (ya (pv 0) (ya (pv 1) ye (yb rfl)) (yb rfl))) yj (vg _)) (yh (wu (yy uk (yq yt rfl T.Ae (by right) (ya (pv 3) ye (yb rfl))) (pv 2) (vg _)) (yf (xb rfl T.Qf T.Pf (ya w6 ye (yb rfl)))) y9) (yf (yu (Ä PySem.F.plainAttrs_list PySem.F.slot_list_append PySem.F.type_list_append w9 (pv 3) (ya (vd (ywz T) (hr.mono (by decide)) rfl T.Fe.m T.Fe.F.kp T.Fe.B .nil vh (ya (pv 0) (ya (pv 1) ye (yb rfl)) (yb rfl))) ye (yb rfl))))))) (yf (yv (pv 3))))),?_⟩;exists 3,1;rfl';refine ⟨by walk_at "len",fun r hr0=>?_⟩
 with_reducible first | refine y6 hr0 fun H1 S1 hr1=>?_ | refine vi hr0 fun H1 S1 hr1=>?_
 have ad:pd≠r:=yd hR.sk.dt hr0;rfl'
 refine ⟨fun w σ' G=>∃ (N:Nat) (D I W:Addr) (Z:Nat->Addr) (f':Nat->List Int->Option Slt) (O':Nat->Addr->Prop),σ'=[some (.ref p),some (.ref q),some (.int U),some (.ref r)]/\N <= U/\(∀ j,j < N->ξ g d S (9 * j)=1)/\jz K a G p (g.re D I W Z) (rst g d S (9 * N)).1 f' O' (m+54 * N) q dx pd s' ds d (rst g d S (9 * N)).2/\RGo p q s' g O H G D I O'/\G r=some (.lst ((rtx g d S N).map V.int))/\r≠D/\r≠I/\w=U - N,
  ⟨_,0,g.ml,g.el,g.pl,g.sl,f,O,rfl,dJ _,fun j hj=>absurd hj (dN j),hR.same S1,RGo.refl.same S1,hr1,(yd hR.ft.mx.l hr0).symm,(yd hR.ft.el hr0).symm,rfl⟩,?_⟩
 rintro w σ2 G ⟨N,D,I,W,Z,f1,O1,rfl,hN,a4,c,ah,ab,L,C,rfl⟩;rfl';refine yvw c (by omega) a0 (by omega) fun n t a8 aj f2 O2 G2 M k=>?_
 have u:∀ {G G2:Hp} {D I W n t:Addr} {Z:Nat->Addr} {X:FX} {f1:Nat->List Int->Option Slt} {O1 O2:Nat->Addr->Prop} {m x} {xs:List V},jz K a G p (g.re D I W Z) X f1 O1 m q dx pd s' ds d x->RGo p q s' (g.re D I W Z) O1 G G2 n t O2->G r=some (.lst xs)->r≠D->r≠I->G2 r=some (.lst xs)/\r≠n/\r≠t:=fun c k e L C=>by
  refine ⟨k.fr _ _ e (xh e c.ft.me (by intro z; cases z)) (xh e c.ft.mx.o (by intro z; cases z)) C (xh e c.sk.me (by intro z; cases z)) (xh e c.sk.sp (by intro z; cases z)) (c.ft.B.nlst e),?_,?_⟩
  .rcases k.hm with z | z
   .rw [z]; exact L
   .exact yd e z
  .rcases k.he with z | z
   .rw [z]; exact C
   .exact yd e z
 obtain ⟨y,ai,a5⟩:=u c k ab L C;have v:=ah.trans k;have a2:=ymg g d S (9 * N);generalize ac:ξ g d S (9 * N)=b at a2;rfl';refine zd (fun hb=>?_) (fun hb=>?_)
 .subst hb
  have a1:∀ j,j < N+1->ξ g d S (9 * j)=1:=fun j hj=>by
   by_cases z:j=N
   .rw [z]; exact ac
   .exact a4 j (by omega)
  refine ya2 ?_;rfl';refine zr (SqL.of y) ?_;rw [cH,yhn];rfl';refine zd (fun hc=>?_) (fun hc=>?_)
  .have ao:N=U:=by omega
   rfl';exact ⟨by walk_at "len",kE (fun j hj=>a1 j (by omega)) n t O2 G2 v⟩
  .rfl';refine z8 y ?_;rfl';refine yob M (by omega) a0 (by omega) fun aa ak ae a9 f3 O3 G3 a3 a6=>?_;obtain ⟨J,R,a7⟩:=u M a6 y ai a5;have Y:=v.trans a6;rfl';refine ub J (vo (by rw [cH,yhn]; omega)) ?_;rfl';refine ⟨_,?_,N+1,aa,ak,ae,a9,f3,O3,rfl,by omega,a1,?_,Y.app hr0,?_,R,a7,rfl⟩
   .omega
   .exact jz.app a3 J (a3.notN J R a7) ad
   .rw [yc,yj5,dF];rfl
 .have af:ξ g d S (9 * N)=0:=by omega
  rfl';exact kQ N r n t a8 aj f2 O2 G2 hN a4 af hr0 y a5 M v
theorem yov (x:Sn) (c b:Int):(nar x c b).2.2 <= x.2.2+2:=by
 unfold nar ren
 (repeat' split) <;> (dsimp only; omega)
theorem ym3 (A:FA) (d:List Int) (S:FX × Sn):∀ n:Nat,(rst A d S n).2.2.2 <= S.2.2.2+2 * (n:Int)
 | 0=>by show S.2.2.2 <= S.2.2.2+2 * ((0:Nat):Int); omega
 | n+1=>by
  have b:=ym3 A d S n;have a:=yov (rst A d S n).2 (chX A (rst A d S n).1) (Ô d (rst A d S n).2 (chX A (rst A d S n).1));show (nar (rst A d S n).2 (chX A (rst A d S n).1) (Ô d (rst A d S n).2 (chX A (rst A d S n).1))).2.2 <= _;omega
structure ROk (A:FA) (d:List Int) (S:FX × Sn) (N:Nat):Prop where
 b1:∀ j,j < N->ξ A d S (9 * j)=1
 b0:ξ A d S (9 * N)=0
 tk:d.take (tL (rst A d S (9 * N+1)).2).length=tL (rst A d S (9 * N+1)).2
theorem ROk.uniq {A:FA} {d:List Int} {S:FX × Sn} {N M:Nat} (h:ROk A d S N) (b1:∀ j,j < M->ξ A d S (9 * j)=1) (b0:ξ A d S (9 * M)=0):M=N:=by
 rcases Nat.lt_trichotomy M N with z | z | z
 .have e:=h.b1 M z;rw [b0] at e;cases e
 .exact z
 .have e:=b1 N z;rw [h.b0] at e;cases e
def rTL (A:FA) (d:List Int) (S:FX × Sn) (N:Nat):Nat:=(tL (rst A d S (9 * N+1)).2).length
theorem RGo.fgo {p s:Addr} {A:FA} {H0 H H':Hp} {ml el:Addr} (S:yw H0 H) (hq:H0 q=none) (hs:H0 s=none) (h:RGo p q s A O H H' ml el O'):FGo p A O H0 H' el O' :=
 ⟨h.he.imp id S.free,fun j c b w=>(h.hO j c b w).imp id S.free,fun c o e g d f a=>h.fr c o (S _ _ e) g d f (yd e hq) (yd e hs) a,fun c o e=>h.live c o (S _ _ e)⟩
theorem yd5:yk ["foreteller","data","most","seeker","text","own"] ["foreteller","data","most"] (yg ypu):=w4 (by right)
inductive õ (K:W.Frag) (a:Ads) (vs:List V) (H:Hp) (Q:VK) (E:XK):Prop
 | mk (p:Addr) (A:FA) (X:FX) (f:Nat->List Int->Option Slt) (O:Nat->Addr->Prop) (m:Nat) (dt:Addr) (d:List Int) (mo:Nat):(vs=[.ref p,.ref dt,.int mo])->(ul K a H p A X f O m)->(H dt=some (.lst (d.map V.int)))->(dt≠A.el)->(Byt d)->(d.length <= 12000)->(mo <= 1000)->(m+54 * mo+200 < 1000000)->(0 <= X.nd)->(X.sg.length <= 10000)->((∀ (N:Nat) (t r el:Addr) (O':Nat->Addr->Prop) (H':Hp),N <= mo->ROk A d (X,s0) N->H t=none->H r=none->H' t=some (.tup [.ref r,.int (rTL A d (X,s0) N)])->H' r=some (.lst ((rtx A d (X,s0) N).map V.int))->FGo p A O H H' el O'->(r≠el/\∃ ml pl sl f',ul K a H' p (A.re ml el pl sl) (rst A d (X,s0) (9 * N+1)).1 f' O' (m+54 * N+6))->Q (.ref t) H'))->(((∀ N,N <= mo->¬ ROk A d (X,s0) N)->∀ (el:Addr) (O':Nat->Addr->Prop) (H':Hp),FGo p A O H H' el O'->E (.ref a.Fs) none H'))->õ K a vs H Q E
theorem ywi (T:Txt K mg a):wc P w K mg base (CXe P w) 10 a.Le a.Lf ["foreteller","data","most"] (õ K a):=by
 exists T.Fg.F.okE,yd5,hr;obtain ⟨p,l,X,f,O,m,dt,d,mo,rfl,hF,x,a8,a2,ae,a5,hm,a9,ab,kQ,kE⟩:=h;refine yo (y7 (i:=3) yd5.nd rfl (Or.inl rfl) (x6 T.Rh (yw3 T) (hr.mono (by decide)) rfl T.Rg T.Fb.B .nil yz (ya (pv 1) ye (yb rfl)))) ?_;refine yo (y7 (i:=4) yd5.nd rfl (Or.inl rfl) (vj (yvu T) (hr.mono (by decide)) rfl T.Ff.m T.Ff.F.kp T.Ff.B .nil yz (ya (pv 0) (ya (pv 3) (ya (pv 2) ye (yb rfl)) (yb rfl)) (yb rfl)))) ?_;refine yo (y7 (i:=5) yd5.nd rfl (Or.inl rfl) (wy (pv 3) T.Bo T.Hl.m (yud T) (hr.mono (by decide)) T.Hl.B .nil vh)) ?_;refine yo (wu (yy (ι hr.units) (ue ju (pv 1) zg (zi (yq yt rfl T.Ae (by right) (ya (pv 5) ye (yb rfl))))) (pv 5) (vg _)) (yf (xb rfl T.Qf T.Pf (ya w6 ye (yb rfl)))) y9) ?_;refine ⟨_,(yf (yv (yej (ya (pv 4) (ya (yq yt rfl T.Ae (by right) (ya (pv 5) ye (yb rfl))) ye (yb rfl)) (yb rfl))))),?_⟩;exists 3,3;rfl';intro q D Y a4 ai;have U:yw H (upd (upd H D (.own q)) q (.ins a.Ab D [])):=fun b o e=>by rw [yn (yd e Y),yn (yd e a4)]; exact e
 refine ⟨q,D,.ref dt,_,rfl,yc,.lst (U _ _ x),.inr ⟨d,yjd (U _ _ x) a2 ae,fun pd ps ds H1 R S a7 B1=>⟨rfl,?_⟩⟩⟩;have S1:yw H H1:=fun b o e=>B1 b o (U b o e) (yd e Y);have z:H ps=none:=U.free S;have aa:H pd=none:=U.free R
 have nO:∀ {c:Addr},H c=none->∀ i,i < l.n->¬ O i c:=fun G i hi w=>by
  obtain ⟨o,ho,_⟩:=(hF.B.b i hi).own _ w;rw [G] at ho;cases ho
 have hR:jz K a H1 p l X f O m q D pd ps ds d s0:=⟨hF.same S1,a7,yz6,fun i hi=>⟨nO Y i hi,nO z i hi⟩,(yd hF.el aa).symm⟩;rfl';refine ⟨p,l,(X,s0),f,O,m,q,D,pd,ps,ds,d,mo,rfl,hR,a5,hm,a9,ab,fun N r ml el pl sl f2 O2 H2 hN W J a3 a0 ad k v=>?_,fun L ml el O2 H2 v=>?_⟩
 .have a1:=ym3 l d (X,s0) (9 * N+1);have ac:((X,s0):FX × Sn).2.2.2=5:=rfl;rw [ac] at a1;have go:=v.fgo S1 Y z;have af:=k.sk.me;have I:H2 dt=some (.lst (d.map V.int)):=(go.kpa hF).lst x a8;rfl';refine ⟨q,D,pd,ps,ds,d,_,rfl,k.sk,k.ok,by show Int.toNat _ <= 100000; omega,fun w H3 ag y Z=>?_⟩;rfl';refine zr (SqL.of y) ?_;rw [cH];rfl';refine ycn (SqL.of (Z _ _ I)) fun u hu=>?_;have ec:ycq (d.map V.int) none (some (((tL (rst l d (X,s0) (9 * N+1)).2).length:Nat):Int))=(d.take (tL (rst l d (X,s0) (9 * N+1)).2).length).map V.int:=by rw [List.map_take]; exact zw _
  rw [ec]
  with_reducible first | refine y6 hu fun H4 S4 hu4=>?_ | refine vi hu fun H4 S4 hu4=>?_
  have C:=go.same (Z.trans S4);rfl';refine yy7 _ _ (SqL.of hu4) (SqL.of (S4 _ _ y)) ?_;by_cases G:d.take (tL (rst l d (X,s0) (9 * N+1)).2).length=tL (rst l d (X,s0) (9 * N+1)).2
  .rw [dw G];rfl';refine zr (SqL.of (S4 _ _ y)) ?_;rw [cH];rfl';refine ⟨by walk_at "len",fun t j=>?_⟩;refine kQ N t r el O2 _ hN ⟨W,J,G⟩ (C.free j) (S1.free a3) yc (zh j ((Z.trans S4) _ _ a0)) (C.same (y8 j)) ⟨ad,ml,pl,sl,f2,((k.ft.same (Z.trans S4)).same (y8 j))⟩
  .rw [dG G];rfl';exact ⟨by walk_at "len",kE (fun M hM g=>G (by rw [g.uniq W J]; exact g.tk)) el O2 _ C⟩
 .exact kE (fun M hM g=>by have e:=L M hM; rw [g.b0] at e; cases e) el O2 H2 (v.fgo S1 Y z)
structure vb3 (H:Hp) (L dt:Addr) (lx:V) (n:Nat) (lk:Nat->Addr) (kd:Nat->Fin 3) (tp:Nat->Addr) (ps:Nat->List Int) (d:List Int) (mo N w:Nat) (lt:Nat->Addr) (tt:Nat->List Int):Prop where
 l:H L=some (.lst (refs lk n))
 n1:1 <= n
 n6:n <= 6
 r:xw H n lk kd tp ps
 dat:H dt=some (.lst (d.map V.int))
 by':Byt d
 dl:d.length <= 12000
 mo1:mo <= 1000
 lr:ysc H lx N w lt tt
 w1:w <= 1000
 N1:N <= 1000
 b:6+6 * (N * (9 * w+1))+54 * mo+200 < 1000000
def rS (n:Nat) (kd:Nat->Fin 3) (ps:Nat->List Int) (pre:List Int):FX × Sn:=((FX0 n kd).run (fa0 n ps) pre,s0)
theorem jt (A:FA) (d:List Int) (S:FX × Sn):∀ k,rst A d S k=rst (fa0 A.n A.ps) d S k
 | 0=>rfl
 | k+1=>by
  show rnx A d (rst A d S k)=rnx (fa0 A.n A.ps) d (rst (fa0 A.n A.ps) d S k);rw [jt A d S k];rfl
theorem θ (A:FA) (d:List Int) (S:FX × Sn) (k:Nat):ξ A d S k=ξ (fa0 A.n A.ps) d S k:=by
 unfold ξ;rw [jt];rfl
theorem ypg (A:FA) (d:List Int) (S:FX × Sn) (k:Nat):rsg A d S k=rsg (fa0 A.n A.ps) d S k:=by
 unfold rsg sgB;rw [jt];exact congrArg List.sum (List.map_congr_left fun j _=>by rw [θ])
theorem yn9 (A:FA) (d:List Int) (S:FX × Sn) (k:Nat):rtx A d S k=rtx (fa0 A.n A.ps) d S k:=by
 unfold rtx;exact List.map_congr_left fun j _=>ypg A d S j
theorem yn6 (A:FA) (d:List Int) (S:FX × Sn) (k:Nat):rTL A d S k=rTL (fa0 A.n A.ps) d S k:=by
 unfold rTL;rw [jt]
theorem ROk.fa0 {A:FA} {d:List Int} {S:FX × Sn} {N:Nat}:ROk A d S N ↔ ROk (fa0 A.n A.ps) d S N:=by
 constructor
 .intro h;exact ⟨fun j a=>by rw [<- θ]; exact h.b1 j a,by rw [<- θ]; exact h.b0,by rw [<- jt]; exact h.tk⟩
 .intro h;exact ⟨fun j a=>by rw [θ]; exact h.b1 j a,by rw [θ]; exact h.b0,by rw [jt]; exact h.tk⟩
theorem ym8 {mx:Nat->Int} {d:List Int} (hd:Byt d) {m:Nat} (hc:∀ j,j < m->Ch (mx j)) (hb:∀ j,j < m->bt j=0\/bt j=1) (i:InS d (snK mx bt m)):∀ k,k < m->bt k=Ô d (snK mx bt k) (mx k)/\InS d (snK mx bt k):=by
 induction m with
 | zero=>exact fun k a=>absurd a (dN k)
 | succ m ih =>
  have e:=(μ (mx:=mx) (bt:=bt) m fun j c=>hc j (by omega)).1;obtain ⟨b,f⟩:=yor hd e (hc m (by omega)) (hb m (by omega)) i;intro k a;by_cases z:k=m
  .rw [z];exact ⟨f,b⟩
  .exact ih (fun j c=>hc j (by omega)) (fun j c=>hb j (by omega)) b k (by omega)
theorem yxv {k:Nat} (h:k < (dec ts).length):wl ts k=0\/wl ts k=1:=by
 obtain ⟨a,b⟩:=yi2 ts k h;omega
theorem yii (x:Sn):Byt (tL x):=fun b a=>yon _ _ b a
theorem Ù {n:Nat} {kd:Nat->Fin 3} {ps:Nat->List Int} {pre d:List Int} (hd:Byt d) (hc:∀ j,j < (dec ts).length->Ch (ja n kd ps pre ts j)) (hi:InS d (snK (ja n kd ps pre ts) (wl ts) (dec ts).length)):∀ k,k <= (dec ts).length->rst (fa0 n ps) d (rS n kd ps pre) k=(fX n kd ps pre ts k,snK (ja n kd ps pre ts) (wl ts) k)
 | 0,_=>rfl
 | k+1,hk=>by
  have e:=(ym8 hd hc (fun j b=>yxv b) hi k (by omega)).1;have a:(dec ts)[k]?=some (wl ts k):=by unfold wl; rw [df (by omega)]; rfl
  show rnx (fa0 n ps) d (rst (fa0 n ps) d (rS n kd ps pre) k)=_;rw [Ù hd hc hi k (by omega)];show ((fX n kd ps pre ts k).see (fa0 n ps) (Ô d (snK (ja n kd ps pre ts) (wl ts) k) (ja n kd ps pre ts k)),nar (snK (ja n kd ps pre ts) (wl ts) k) (ja n kd ps pre ts k) (Ô d (snK (ja n kd ps pre ts) (wl ts) k) (ja n kd ps pre ts k)))=(fX n kd ps pre ts (k+1),nar (snK (ja n kd ps pre ts) (wl ts) k) (ja n kd ps pre ts k) (wl ts k));rw [<- e]
  have c:fX n kd ps pre ts (k+1)=(fX n kd ps pre ts k).see (fa0 n ps) (wl ts k):=by
   unfold fX;rw [zy a]
  rw [c]
theorem yfn {n:Nat} {kd:Nat->Fin 3} {ps:Nat->List Int} {pre d:List Int} (hd:Byt d) (hc:∀ j,j < (dec ts).length->Ch (ja n kd ps pre ts j)) (hi:InS d (snK (ja n kd ps pre ts) (wl ts) (dec ts).length)) (k:Nat) (hk:k < (dec ts).length):ξ (fa0 n ps) d (rS n kd ps pre) k=wl ts k:=by
 have b:=(ym8 hd hc (fun j a=>yxv a) hi k hk).1;unfold ξ;rw [Ù hd hc hi k (by omega)];exact b.symm
theorem ψ (t:Int) (r:List Int) (k:Nat):wl (t :: r) (k+9)=wl r k:=rfl
theorem yeq (t:Int) (r:List Int):∀ i,i < 8->wl (t :: r) (1+i)=t / wB i % 2:=fun i a=>by
 rcases i with _ | _ | _ | _ | _ | _ | _ | _ | i
 .rfl
 .rfl
 .rfl
 .rfl
 .rfl
 .rfl
 .rfl
 .rfl
 .omega
theorem ö:∀ (ts:List Int) (j:Nat) (hj:j < ts.length),wl ts (9 * j)=1/\∀ i,i < 8->wl ts (9 * j+1+i)=ts[j] / wB i % 2
 | [],j,hj=>absurd hj (dN j)
 | t :: r,0,_=>⟨rfl,fun i a=>by rw [show 9 * 0+1+i=1+i by omega]; exact yeq t r i a⟩
 | t :: r,j+1,hj=>by
  obtain ⟨c,b⟩:=ö r j (by simpa using hj);refine ⟨?_,fun i a=>?_⟩
  .rw [show 9 * (j+1)=9 * j+9 by omega,ψ];exact c
  .rw [show 9 * (j+1)+1+i=9 * j+1+i+9 by omega,ψ];exact b i a
theorem yc5:∀ ts:List Int,wl ts (9 * ts.length)=0
 | []=>rfl
 | t :: r=>by
  rw [show 9 * (t :: r).length=9 * r.length+9 by rw [dW]; omega,ψ];exact yc5 r
theorem yjx (A:FA) (d:List Int) (S:FX × Sn) (c i:Nat):ξ A d (rst A d S c) i=ξ A d S (c+i):=by
 unfold ξ;rw [ycd]
theorem ygb {n:Nat} {kd:Nat->Fin 3} {ps:Nat->List Int} {pre d:List Int} (hts:Sgs ts) (hd:Byt d) (hc:∀ j,j < (dec ts).length->Ch (ja n kd ps pre ts j)) (hl:(tL (snK (ja n kd ps pre ts) (wl ts) (dec ts).length)).length <= d.length) (h:d.take (tL (snK (ja n kd ps pre ts) (wl ts) (dec ts).length)).length=tL (snK (ja n kd ps pre ts) (wl ts) (dec ts).length)) :
  ROk (fa0 n ps) d (rS n kd ps pre) ts.length/\rtx (fa0 n ps) d (rS n kd ps pre) ts.length=ts/\rTL (fa0 n ps) d (rS n kd ps pre) ts.length=(tL (snK (ja n kd ps pre ts) (wl ts) (dec ts).length)).length:=by
 have l:=(μ (bt:=wl ts) _ hc).1;have a:=ygz hd l hl h;have c:=x9 ts
 have f:rst (fa0 n ps) d (rS n kd ps pre) (9 * ts.length+1)=(fX n kd ps pre ts (dec ts).length,snK (ja n kd ps pre ts) (wl ts) (dec ts).length):=by
  rw [<- c];exact Ù hd hc a _ (dh _)
 have b:=yfn hd hc a;refine ⟨⟨fun j o=>?_,?_,?_⟩,?_,?_⟩
 .rw [b _ (by omega)];exact (ö ts j o).1
 .rw [b _ (by omega)];exact yc5 ts
 .rw [f];exact h
 .show (List.range ts.length).map (rsg (fa0 n ps) d (rS n kd ps pre))=ts;refine List.ext_getElem (by rw [cH,dL]) fun j q k=>?_;rw [eR,List.getElem_range];have g:=hts ts[j] (ei k);have p:=(ö ts j k).2
  have e:∀ i,i < 8->wB i * ξ (fa0 n ps) d (rst (fa0 n ps) d (rS n kd ps pre) (9 * j+1)) i=wB i * (ts[j] / wB i % 2):=fun i a=>by
   rw [yjx,b _ (by omega),p i a]
  have m:sgB (fa0 n ps) d (rst (fa0 n ps) d (rS n kd ps pre) (9 * j+1)) 8=(List.range 8).map fun i=>wB i * (ts[j] / wB i % 2):=by
   unfold sgB;exact List.map_congr_left fun i a=>e i (ew.mp a)
  unfold rsg;rw [m];exact yy5 g.1 g.2
 .unfold rTL;rw [f]
theorem Ŗ {ys:List Int} (h1:Byt xs) (h2:Byt ys):Byt (xs++ys):=fun b a=>by
 rcases dY.mp a with h | h
 .exact h1 b h
 .exact h2 b h
def Ï (n:Nat) (kd:Nat->Fin 3) (ps:Nat->List Int) (pre ts:List Int):List Int:=tL (snK (ja n kd ps pre ts) (wl ts) (dec ts).length)
theorem ykh {n:Nat} {kd:Nat->Fin 3} {ps:Nat->List Int} {pre:List Int} (n1:1 <= n) (n6:n <= 6) (hp:ybe pre) (hz:ts.length <= 300):(Ï n kd ps pre ts).length <= 5500:=by
 have a:=x9 ts;obtain ⟨c,b⟩:=μ (mx:=ja n kd ps pre ts) (bt:=wl ts) (dec ts).length fun j _=>š n1 n6 hp j;unfold Ï;rw [yhy];have:sz (snK (ja n kd ps pre ts) (wl ts) (dec ts).length) <= 5500:=by show Int.toNat _ <= 5500; omega
 omega
theorem yi4 {n:Nat} {kd:Nat->Fin 3} {ps:Nat->List Int} {pre bs:List Int} (n1:1 <= n) (n6:n <= 6) (hp:ybe pre) (hts:Sgs ts) (hb:Byt bs) :
  ROk (fa0 n ps) (Ï n kd ps pre ts++bs) (rS n kd ps pre) ts.length/\rtx (fa0 n ps) (Ï n kd ps pre ts++bs) (rS n kd ps pre) ts.length=ts/\rTL (fa0 n ps) (Ï n kd ps pre ts++bs) (rS n kd ps pre) ts.length=(Ï n kd ps pre ts).length :=
 ygb hts (Ŗ (yii _) hb) (fun j _=>š n1 n6 hp j) (by rw [dv]; exact Nat.le_add_right _ _) List.take_left
theorem ynr {n:Nat} {kd:Nat->Fin 3} {ps:Nat->List Int} {pre bs:List Int} (n1:1 <= n) (n6:n <= 6) (hp:ybe pre) (hb:Byt bs):(rst (fa0 n ps) (Ï n kd ps pre ts++bs) (rS n kd ps pre) (9 * ts.length+1)).1=((FX0 n kd).run (fa0 n ps) pre).run (fa0 n ps) (dec ts):=by
 have a:∀ j,j < (dec ts).length->Ch (ja n kd ps pre ts j):=fun j _=>š n1 n6 hp j;have b:Byt (Ï n kd ps pre ts++bs):=Ŗ (yii _) hb;have c:=ygz b (μ (bt:=wl ts) _ a).1 (by rw [dv]; exact Nat.le_add_right _ _) List.take_left;rw [<- x9 ts,Ù b a c _ (dh _)];unfold fX;rw [eG]
theorem yyu {x:Sn} {c b:Int} (h:Ok x) (hc:Ch c):(nar x c b).2.1 < 1099511627776:=by
 obtain ⟨d,e,a⟩:=ya3 h.w0 h.w1 hc;have f:=h.w1;unfold nar ren
 (repeat' split) <;> (dsimp only at *; omega)
theorem ykd {n:Nat} {kd:Nat->Fin 3} {ps:Nat->List Int} {pre:List Int} (n1:1 <= n) (n6:n <= 6) (hp:ybe pre):1 <= (Ï n kd ps pre ts).length:=by
 have f:=x9 ts;obtain ⟨m,e⟩:∃ m,(dec ts).length=m+1:=⟨9 * ts.length,by omega⟩;unfold Ï;rw [yhy,e];have a:∀ j,j < m+1->Ch (ja n kd ps pre ts j):=fun j _=>š n1 n6 hp j;have d:=(μ (bt:=wl ts) m fun j l=>a j (by omega)).1;have c:=(μ (bt:=wl ts) (m+1) a).1;have k:(snK (ja n kd ps pre ts) (wl ts) (m+1)).2.1 < 1099511627776:=yyu (x:=snK (ja n kd ps pre ts) (wl ts) m) (b:=wl ts m) d.ok (a m (by omega));have h:=ygy (ŝ c.ok);have i:=c.sz5;have g:pw (tK (snK (ja n kd ps pre ts) (wl ts) (m+1))) < pw 5:=by rw [pw5]; omega
 have:=yxw g;omega
def Þ (L:List (List Int)):List Int:=(L.map dec).flatten
theorem ÿ (L:List (List Int)) (t:List Int):Þ (L++[t])=Þ L++dec t:=by
 unfold Þ;rw [dF,List.flatten_append];simp
theorem ò (L:List (List Int)):ybe (Þ L):=fun b a=>by
 unfold Þ at a;obtain ⟨l,c,a⟩:=List.mem_flatten.mp a;obtain ⟨t,_,rfl⟩:=di.mp c;exact zx t b a
theorem yi8 {A:FA} {X:FX} (hts:Sgs ts) (h1:X.sg=[]) (h2:X.nd=0):(X.run A (dec ts)).sg=[]/\(X.run A (dec ts)).nd=0:=by
 have a:∀ k,k <= (dec ts).length->TxE ts k (X.run A ((dec ts).take k)).sg (X.run A ((dec ts).take k)).nd:=by
  intro k
  induction k with
  | zero =>
   intro _;exact .inl ⟨dJ _,by show ybb _ _ X.sg X.nd; rw [h1,h2]; exact ybb.zero _⟩
  | succ k ih =>
   intro d;have b:(dec ts)[k]?=some ((dec ts)[k]'(by omega)):=df _;rw [zy b];exact ((ih (by omega)).next hts b).2
 have e:=a _ (dh _);rw [eG] at e;have c:=x9 ts;rcases e with ⟨h,_⟩ | ⟨_,h⟩
 .omega
 .exact h
def ysb (p:Addr) (A:FA) (O:Nat->Addr->Prop):Addr->Prop:=fun c=>c=p\/c=A.mp\/(∃ j,j < A.n/\c=A.bk j)\/(∃ j,j < A.n/\O j c)\/c=A.el
def FZ (K:W.Frag) (a:Ads) (H:Hp) (p:Addr) (n:Nat) (kd:Nat->Fin 3) (ps:Nat->List Int) (pre:List Int) (M:Nat) (W:Addr->Prop):Prop :=
 ∃ A f O m,ul K a H p A ((FX0 n kd).run (fa0 n ps) pre) f O m/\m <= M/\yx9 H A/\A.n=n/\A.kd=kd/\A.ps=ps/\((FX0 n kd).run (fa0 n ps) pre).sg=[]/\((FX0 n kd).run (fa0 n ps) pre).nd=0/\∀ c,W c ↔ ysb p A O c
def vaj:HO->Bool
 | .ins _ _ _=>true
 | .dT _=>true
 | .dK _=>true
 | .frz _ (.dK _)=>true
 | _=>false
def ysf (o:Option HO):Prop:=(∃ ys,o=some (.lst ys))\/∃ ys,o=some (.tup ys)/\ys.length≠2
def WSh (H:Hp) (W:Addr->Prop):Prop:=∀ c,W c->∃ o,H c=some o/\(vaj o=true\/∃ xs,o=.lst xs/\∀ x∈xs,(∃ s,x=V.str s)\/x=V.non\/∃ q,x=V.ref q/\ysf (H q))
theorem yo6 {o:HO} (h:yx8 o=true):vaj o=true:=by
 cases o <;> first | rfl | cases h
section
variable {H H':Hp} {p:Addr} {n:Nat} {kd:Nat->Fin 3} {ps:Nat->List Int} {pre:List Int} {M:Nat} {W:Addr->Prop}
theorem FZ.sh (h:FZ K a H p n kd ps pre M W):WSh H W:=fun c w=>by
 obtain ⟨A,f,O,m,d,_,_,_,_,_,r,_,e⟩:=h;rcases (e c).mp w with z | z | ⟨j,g,z⟩ | ⟨j,g,z⟩ | z
 .exact ⟨_,by rw [z]; exact d.me,.inl rfl⟩
 .exact ⟨_,by rw [z]; exact d.mx.o,.inl rfl⟩
 .exact ⟨_,by rw [z]; exact (d.B.b j g).me,.inl rfl⟩
 .obtain ⟨o,k,l⟩:=(d.B.b j g).own c z;exact ⟨o,k,.inl (yo6 l)⟩
 .have i:=d.el;rw [r] at i;exact ⟨_,by rw [z]; exact i,.inr ⟨_,rfl,fun x q=>by cases q⟩⟩
theorem FZ.live (h:FZ K a H p n kd ps pre M W):∀ c,W c->∃ o,H c=some o:=fun c w=>let ⟨o,e,_⟩:=h.sh c w; ⟨o,e⟩
theorem FZ.same (h:FZ K a H p n kd ps pre M W) (S:yw H H'):FZ K a H' p n kd ps pre M W:=by
 obtain ⟨A,f,O,m,c,d,b,r⟩:=h;exact ⟨A,f,O,m,c.same S,d,b.same S,r⟩
theorem FZ.up (h:FZ K a H p n kd ps pre M W) {M':Nat} (hM:M <= M'):FZ K a H p n kd ps pre M' W:=by
 obtain ⟨A,f,O,m,b,c,r⟩:=h;exact ⟨A,f,O,m,b,dZ c hM,r⟩
theorem WSh.tup (h:WSh H W) {c:Addr} {xs:List V} (e:H c=some (.tup xs)):¬ W c:=fun w=>by
 obtain ⟨o,a,z | ⟨b,z,_⟩⟩:=h c w
 .rw [e] at a; cases a; cases z
 .rw [e,z] at a; cases a
theorem WSh.ints (h:WSh H W) {c:Addr} {ns:List Int} (e:H c=some (.lst (ns.map V.int))) (hn:1 <= ns.length):¬ W c:=fun w=>by
 obtain ⟨o,a,z | ⟨b,z,q⟩⟩:=h c w
 .rw [e] at a; cases a; cases z
 .rw [e,z] at a;cases a
  cases ns with
  | nil=>cases hn
  | cons x r=>rcases q (.int x) dS with ⟨_,z⟩ | z | ⟨_,z,_⟩ <;> cases z
theorem WSh.refs (h:WSh H W) {c:Addr} {g:Nat->Addr} {k:Nat} (e:H c=some (.lst (Law.refs g k))) (hk:1 <= k) (hg:¬ ysf (H (g 0))):¬ W c:=fun w=>by
 obtain ⟨o,a,z | ⟨f,z,q⟩⟩:=h c w
 .rw [e] at a; cases a; cases z
 .rw [e,z] at a;cases a;rcases q (.ref (g 0)) (dI (yos hk)) with ⟨_,z⟩ | z | ⟨d,z,b⟩
  .cases z
  .cases z
  .cases z; exact hg b
theorem FZ.frame {W2:Addr->Prop} (h:FZ K a H p n kd ps pre M W) (sh:WSh H W2) (dj:∀ c,W c->¬ W2 c) (fr:∀ c o,H c=some o->¬ W2 c->H' c=some o):FZ K a H' p n kd ps pre M W:=by
 obtain ⟨A,f,O,m,j,N,v,U,T,R,Y,S,q⟩:=h;have k:=j.n1;obtain ⟨X,d⟩:=v.2.2
 have D:¬ W2 A.ll:=sh.refs v.1 k fun z=>by
  obtain ⟨I,e,s,_⟩:=d 0 k;cases e;rw [s] at z;rcases z with ⟨_,z⟩ | ⟨_,z,L⟩
  .cases z
  .cases z; exact L rfl
 have y:¬ W2 A.bl:=sh.refs j.bl k fun z=>by rw [(j.B.b 0 k).me] at z; rcases z with ⟨_,z⟩ | ⟨_,z,_⟩ <;> cases z
 have F:¬ W2 A.pl:=sh.refs j.pl k fun z=>by
  obtain ⟨_,⟨J,P⟩,_,_⟩:=j.slot k;obtain ⟨C,fs,Z⟩:=Ĵ a J (((FX0 n kd).run (fa0 n ps) pre).g 0 (((FX0 n kd).run (fa0 n ps) pre).key A 0));rw [P,Z] at z;rcases z with ⟨_,z⟩ | ⟨_,z,_⟩ <;> cases z
 have x:¬ W2 A.ml:=sh.ints j.mx.l (by rw [j.wok.len]; exact k);refine ⟨A,f,O,m,j.frame (O2:=W2) (fun c o e no=>fr c o e no) (dj _ ((q _).mpr (.inl rfl))) (dj _ ((q _).mpr (.inr (.inl rfl)))) (fun i r=>dj _ ((q _).mpr (.inr (.inr (.inl ⟨i,r,rfl⟩))))) (fun i c r w=>dj _ ((q _).mpr (.inr (.inr (.inr (.inl ⟨i,r,w⟩)))))) (fun l xs E e=>fr _ _ e ?_) (fun t xs e=>?_),N,⟨fr _ _ v.1 D,v.2.1,X,fun i r=>?_⟩,U,T,R,Y,S,q⟩
 .rcases E with z | z | z | z
  .rw [z]; exact y
  .rw [z]; exact dj _ ((q _).mpr (.inr (.inr (.inr (.inr rfl)))))
  .rw [z]; exact x
  .rw [z]; exact F
 .rcases e with (e | ⟨o,e⟩) | e
  .exact .inl (.inl (fr _ _ e (sh.tup e)))
  .refine .inl (.inr ⟨o,fr _ _ e fun w=>?_⟩);obtain ⟨o',u,z | ⟨ys,z,_⟩⟩:=sh t w
   .rw [e] at u; cases u; cases z
   .rw [e,z] at u; cases u
  .exact .inr e
 .obtain ⟨I,z,s,G,Q⟩:=d i r;exact ⟨I,z,fr _ _ s (sh.tup s),fr _ _ G (sh.tup G),Q⟩
theorem FZ.went {A:FA} {f f':Nat->List Int->Option Slt} {m:Nat} {X:FX} {ml el pl:Addr} {sl:Nat->Addr} (hF:ul K a H p A ((FX0 A.n A.kd).run (fa0 A.n A.ps) pre) f O m) (hl:yx9 H A) (hX:X=(FX0 A.n A.kd).run (fa0 A.n A.ps) (pre++dec ts)) (hts:Sgs ts) (h4:((FX0 A.n A.kd).run (fa0 A.n A.ps) pre).sg=[]) (h5:((FX0 A.n A.kd).run (fa0 A.n A.ps) pre).nd=0)
  (hF':ul K a H' p (A.re ml el pl sl) X f' O' m') (go:FGo p A O H H' el O') (e6:∀ c,W c ↔ ysb p A O c):FZ K a H' p A.n A.kd A.ps (pre++dec ts) m' (ysb p (A.re ml el pl sl) O')/\Go W H H' (ysb p (A.re ml el pl sl) O'):=by
 subst hX;have h:=go.kpa hF;have d:=yi8 (A:=fa0 A.n A.ps) hts h4 h5;refine ⟨⟨_,f',O',m',hF',dh _,⟨(h _ _ hl.1 rfl hl.2.1).2,(h _ _ hl.1 rfl hl.2.1).1,?_⟩,rfl,rfl,rfl,by rw [jr]; exact d.1,by rw [jr]; exact d.2,fun c=>Iff.rfl⟩,⟨fun c o e u=>?_,fun c w=>?_,go.live⟩⟩
 .obtain ⟨x,r⟩:=hl.2.2;refine ⟨x,fun i t=>?_⟩;obtain ⟨s,z,q,k,B⟩:=r i t;have l:∀ {c:Addr} {xs:List V},H c=some (.tup xs)->c≠A.el:=fun e z=>by rw [z,hF.el] at e; cases e
  exact ⟨s,z,(h _ _ q rfl (l q)).2,(h _ _ k rfl (l k)).2,B⟩
 .have b:¬ ysb p A O c:=fun w=>u ((e6 c).mpr w);exact go.fr c o e (fun z=>b (.inl z)) (fun z=>b (.inr (.inl z))) (fun z=>b (.inr (.inr (.inr (.inr z))))) fun j g w=>b (.inr (.inr (.inr (.inl ⟨j,g,w⟩))))
 .rcases w with z | z | ⟨j,g,z⟩ | ⟨j,g,z⟩ | z
  .exact .inl ((e6 c).mpr (.inl z))
  .exact .inl ((e6 c).mpr (.inr (.inl z)))
  .exact .inl ((e6 c).mpr (.inr (.inr (.inl ⟨j,g,z⟩))))
  .rcases go.hO j c g z with v | v
   .exact .inl ((e6 c).mpr (.inr (.inr (.inr (.inl ⟨j,g,v⟩)))))
   .exact .inr v
  .rcases go.he with y | y
   .exact .inl ((e6 c).mpr (.inr (.inr (.inr (.inr (show c=A.el from Eq.trans z y))))))
   .exact .inr (by rw [show c=el from z]; exact y)
theorem FZ.read {Q:VK} {E:XK} {dt:Addr} {bs:List Int} {mo:Nat} (h:FZ K a H p n kd ps pre M W) (hb:ybe pre) (hts:Sgs ts) (hdt:H dt=some (.lst ((Ï n kd ps pre ts++bs).map V.int))) (ndt:¬ W dt) (hbs:Byt bs) (hdl:(Ï n kd ps pre ts++bs).length <= 12000) (hz:ts.length <= mo) (hmo:mo <= 1000) (hM:M+54 * mo+200 < 1000000)
  (k:∀ t r W' H',H t=none->H r=none->H' t=some (.tup [.ref r,.int ((Ï n kd ps pre ts).length:Nat)])->H' r=some (.lst (ts.map V.int))->FZ K a H' p n kd ps (pre++dec ts) (M+6 * (dec ts).length) W'->Go W H H' W'->¬ W' r->Q (.ref t) H'):õ K a [.ref p,.ref dt,.int mo] H Q E:=by
 obtain ⟨A,f,O,m,l,hm,hl,rfl,rfl,rfl,X,T,S⟩:=h;obtain ⟨q,v,G⟩:=yi4 (kd:=A.kd) (ps:=A.ps) (pre:=pre) (bs:=bs) l.n1 l.n6 hb hts hbs;have x:Byt (Ï A.n A.kd A.ps pre ts++bs):=Ŗ (yii _) hbs;refine ⟨p,A,_,f,O,m,dt,_,mo,rfl,l,hdt,fun z=>ndt ((S _).mpr (.inr (.inr (.inr (.inr z))))),x,hdl,hmo,by omega,by rw [T]; decide,by rw [X]; exact dJ _,fun N t r y O' H' hN i F C s d L c=>?_,fun u y O' H' L=>?_⟩
 .rw [ROk.fa0] at i;obtain rfl:N=ts.length:=q.uniq i.b1 i.b0;rw [yn6] at s;rw [yn9] at d;have s:H' t=some (.tup [.ref r,.int (rTL (fa0 A.n A.ps) (Ï A.n A.kd A.ps pre ts++bs) (rS A.n A.kd A.ps pre) ts.length)]):=s;have d:H' r=some (.lst ((rtx (fa0 A.n A.ps) (Ï A.n A.kd A.ps pre ts++bs) (rS A.n A.kd A.ps pre) ts.length).map V.int)):=d;rw [G] at s;rw [v] at d;obtain ⟨I,P,R,Y,f',c⟩:=c;have J:=x9 ts
  have Z:(rst A (Ï A.n A.kd A.ps pre ts++bs) ((FX0 A.n A.kd).run (fa0 A.n A.ps) pre,s0) (9 * ts.length+1)).1=(FX0 A.n A.kd).run (fa0 A.n A.ps) (pre++dec ts):=by
   rw [jt,jr];exact ynr l.n1 l.n6 hb hbs
  obtain ⟨z,g⟩:=FZ.went l hl Z hts X T c L S;refine k t r _ H' F C s d (z.up (by omega)) g fun w=>?_;rcases w with w | w | ⟨j,D,w⟩ | ⟨j,D,w⟩ | w
  .have e:=c.me;rw [<- w,d] at e;cases e
  .have e:=c.mx.o;rw [show r=(A.re P y R Y).mp from w] at d;rw [d] at e;cases e
  .have e:=(c.B.b j D).me;rw [show r=(A.re P y R Y).bk j from w] at d;rw [d] at e;cases e
  .obtain ⟨o,U,hi⟩:=(c.B.b j D).own _ w;rw [d] at U;cases U;cases hi
  .exact I w
 .exact (u ts.length hz (by rw [ROk.fa0]; exact q)).elim
theorem FZ.press {Q:VK} {E:XK} {tx:Addr} (h:FZ K a H p n kd ps pre M W) (htx:Ã H tx ts 1000) (ntx:¬ W tx) (hM:M+6 * (dec ts).length+20 < 1000000)
  (k:∀ r W' H',H r=none->H' r=some (.lst ((Ï n kd ps pre ts).map V.int))->FZ K a H' p n kd ps (pre++dec ts) (M+6 * (dec ts).length) W'->Go W H H' W'->Q (.ref r) H'):Ř K a [.ref p,.ref tx] H Q E:=by
 obtain ⟨A,f,O,m,o,B,v,rfl,rfl,rfl,l,i,d⟩:=h;refine ⟨p,A,_,f,O,m,tx,ts,rfl,o,l,i,htx,fun z=>ntx ((d _).mpr (.inr (.inr (.inr (.inr z))))),by omega,fun r x D y I G C F H' b w c u q=>?_⟩;have t:((FX0 A.n A.kd).run (fa0 A.n A.ps) pre).run A (dec ts)=(FX0 A.n A.kd).run (fa0 A.n A.ps) (pre++dec ts):=by rw [jr]; exact Ă A _ _
 obtain ⟨z,g⟩:=FZ.went o v t htx.s l i c q d;refine k r _ H' b ?_ (z.up (by omega)) g;rw [w];have e:snK (yep A ((FX0 A.n A.kd).run (fa0 A.n A.ps) pre) ts) (wl ts) (dec ts).length=snK (ja A.n A.kd A.ps pre ts) (wl ts) (dec ts).length:=ý _ fun j _=>⟨by unfold ja yep fX; rw [Ă A]; rfl,rfl⟩;rw [e];rfl
end
def nmL (L:List (Str × List Int)):List V:=L.map fun x=>V.str x.1
def ybc (H:Hp) (U:Addr->Prop):List (Str × List Int)->List V->Prop
 | [],ks=>ks=[]
 | x :: r,ks=>∃ k ks',ks=k :: ks'/\(k=.non\/∃ q,k=.ref q/\H q=some (.lst (x.2.map V.int))/\¬ U q)/\ybc H U r ks'
theorem ybc.len {H:Hp} :∀ {L:List (Str × List Int)} {ks:List V},ybc H U L ks->ks.length=L.length
 | [],_,h=>by rw [show _=_ from h]; rfl
 | _ :: r,_,⟨_,_,e,_,h⟩=>by rw [e,dW,dW,h.len]
theorem ybc.mono {H H':Hp} (f:∀ q xs,H q=some (.lst xs)->¬ U q->H' q=some (.lst xs)/\¬ U' q):∀ {L:List (Str × List Int)} {ks:List V},ybc H U L ks->ybc H' U' L ks
 | [],_,h=>h
 | _ :: _,_,⟨k,ks',e,z,h⟩=>⟨k,ks',e,z.imp id fun ⟨q,e,a,b⟩=>⟨q,e,f q _ a b⟩,h.mono f⟩
theorem ybc.snoc {H:Hp} {nm:Str} {t:List Int} {k:V} (hk:k=.non\/∃ q,k=.ref q/\H q=some (.lst (t.map V.int))/\¬ U q):∀ {L:List (Str × List Int)} {ks:List V},ybc H U L ks->ybc H U (L++[(nm,t)]) (ks++[k])
 | [],_,h=>by rw [show _=_ from h]; exact ⟨k,[],rfl,hk,rfl⟩
 | _ :: _,_,⟨k',ks',e,z,h⟩=>⟨k',ks'++[k],by rw [e]; rfl,z,h.snoc hk⟩
theorem ybc.mem {H:Hp} :∀ {L:List (Str × List Int)} {ks:List V},ybc H U L ks->∀ x∈ks,x=.non\/∃ q ys,x=.ref q/\H q=some (.lst ys)/\¬ U q
 | [],_,h,x,hx=>by rw [show _=_ from h] at hx; cases hx
 | _ :: _,_,⟨k,ks',e,z,h⟩,x,hx=>by
  rw [e] at hx;rcases dA.mp hx with y | y
  .rw [y];exact z.imp id fun ⟨q,e,a,b⟩=>⟨q,_,e,a,b⟩
  .exact h.mem x y
def ChW (ll tl:Addr) (W:Addr->Prop):Addr->Prop:=fun c=>c=ll\/c=tl\/W c
structure ο (K:W.Frag) (a:Ads) (H:Hp) (c dc p ll tl:Addr) (n:Nat) (kd:Nat->Fin 3) (ps:Nat->List Int) (L:List (Str × List Int)) (ks:List V) (M:Nat) (W:Addr->Prop):Prop where
 me:H c=some (.ins a.A1 dc (zl (.ref p) (.ref ll) (.ref tl)))
 fz:FZ K a H p n kd ps (Þ (L.map (·.2))) M W
 hl:H ll=some (.lst (nmL L))
 ht:H tl=some (.lst ks)
 tx:ybc H (ChW ll tl W) L ks
 nc:¬ W c
 nll:¬ W ll
 ntl:¬ W tl
 ne:ll≠tl
theorem FZ.new {H:Hp} {p dp l:Addr} {n:Nat} {lk:Nat->Addr} {kd:Nat->Fin 3} {ps:Nat->List Int} {Q:VK} {E:XK} (np:H p=none) (ndp:H dp=none) (hl:H l=some (.lst (refs lk n))) (n1:1 <= n) (n6:n <= 6) (r:xw H n lk kd tp ps)
  (k:∀ W H',FZ K a H' p n kd ps [] 6 W->(∀ c,W c->H c=none)->yw H H'->(∀ y xs H'',H y=some (.lst xs)->But y H' H''->FZ K a H'' p n kd ps [] 6 W)->Q .non H'):ŕ K a [.ref p,.ref l] (upd (upd H dp (.own p)) p (.ins a.A3 dp [])) Q E:=by
 have d:yw H (upd (upd H dp (.own p)) p (.ins a.A3 dp [])):=fun b o e=>by rw [yn (yd e np),yn (yd e ndp)]; exact e
 refine ⟨p,dp,.ref l,rfl,yc,.inr ⟨l,n,lk,kd,tp,ps,rfl,d _ _ hl,n1,n6,r.same d,fun A f O J Y U=>?_⟩⟩;have B:yw H J:=fun b o e=>U b o (d b o e) (yd e np);obtain ⟨h,rfl,rfl,rfl,rfl,L,R,T,M,q,u,F⟩:=Y;refine k (ysb p A O) J ⟨A,f,O,6,h,dh _,⟨q,u,tp,r.same B⟩,rfl,rfl,rfl,rfl,rfl,fun c=>Iff.rfl⟩ (fun c w=>?_) B (fun y xs H2 P b=>?_)
 .rcases w with z | z | ⟨j,D,z⟩ | ⟨j,D,z⟩ | z
  .rw [z]; exact np
  .rw [z]; exact d.free T
  .rw [z]; exact d.free (R j D)
  .exact d.free (L j c D z)
  .exact d.free (M c (.inr (.inl z)))
 .have g:∀ {x:Addr},H x=none->x≠y:=fun {x} e z=>by rw [z,P] at e; cases e
  have m:=B _ _ P;have C:∀ {x:Addr} {v:List V},J x=some (.tup v)->x≠y:=fun {x v} e z=>by rw [z,m] at e; cases e
  refine ⟨A,f,O,6,h.frame (O2:=fun c=>c=y) (fun c o e Z=>b c o e Z) (g np) (g (d.free T)) (fun i s=>g (d.free (R i s))) (fun i c s w=>g (d.free (L i c s w))) (fun l v I e=>b _ _ e (g (d.free (M l I)))) (fun t v e=>?_),dh _,⟨b _ _ q (g (d.free F)),u,tp,fun i s=>?_⟩,rfl,rfl,rfl,rfl,rfl,fun c=>Iff.rfl⟩
  .rcases e with (e | ⟨o,e⟩) | e
   .exact .inl (.inl (b _ _ e (C e)))
   .exact .inl (.inr ⟨o,b _ _ e (fun z=>by rw [z,m] at e; cases e)⟩)
   .exact .inr e
  .obtain ⟨G,e,S,N,X⟩:=r.same B i s;exact ⟨G,e,b _ _ S (C S),b _ _ N (C N),X⟩
@[irreducible] def ynd (c:Nat):Bool:=!(Builtin.Str.occurrences "abcdefghijklmnopqrstuvwxyz" ⟨#[c]⟩ 0 (Str.length "abcdefghijklmnopqrstuvwxyz") 1).isEmpty
def nmS (x:Str):Bool:=decide (1 <= (x.length:Int)) && (decide ((x.length:Int) <= 8) && x.cps.toList.all ynd)
def nmV:V->Bool
 | .str x=>nmS x
 | _=>false
theorem yoj (x:Str):(List.range x.cps.size).map (fun i=>V.bl (ynd (x.cps.toList.getD i 0)))=(x.cps.toList.map ynd).map V.bl:=by
 rw [dX];refine List.ext_getElem? fun i=>?_;rw [dm,dm];by_cases hi:i < x.cps.size
 .rw [ez hi,df (by rw [eP]; exact hi),eF,eF,dR,df (by rw [eP]; exact hi),Option.getD_some,Function.comp_apply]
 .rw [dP (by rw [dL]; omega),dP (by rw [eP]; omega),Option.map_none,Option.map_none]
theorem yvn {x:Str} (h1:(1:Int) <= (x.length:Int)) (h8:(x.length:Int) <= 8):nmV (.str x)=(x.cps.toList.map ynd).all id:=by
 have e:nmV (.str x)=nmS x:=by unfold nmV; rfl
 rw [e];unfold nmS;rw [dw h1,dw h8,List.all_map,Function.id_comp,Bool.true_and,Bool.true_and]
theorem ysh {x:Str} (h8:¬ (x.length:Int) <= 8):nmV (.str x)=false:=by
 have e:nmV (.str x)=nmS x:=by unfold nmV; rfl
 rw [e];unfold nmS;rw [dG h8,Bool.false_and,Bool.and_false]
theorem yth {x:Str} (h1:¬ (1:Int) <= (x.length:Int)):nmV (.str x)=false:=by
 have e:nmV (.str x)=nmS x:=by unfold nmV; rfl
 rw [e];unfold nmS;rw [dG h1,Bool.false_and]
theorem yvh {x:V} (h:nmV x=true):∃ b,x=.str b/\nmS b=true:=by
 cases x with
 | str b=>exact ⟨b,rfl,h⟩
 | _=>cases h
theorem Â {x:Str} (h:nmS x=true):x.length <= 8:=by
 unfold nmS at h;simp only [dU,decide_eq_true_eq] at h;have:=h.2.1;omega
theorem yuz:∀ i,i < 26->ynd (97+i)=true:=by right
def vbk (l:List Nat):Prop:=∀ c,c∈l->97 <= c/\c < 123
theorem yy0 {x:Str} (h:vbk x.cps.toList) (h1:1 <= x.cps.toList.length) (h8:x.cps.toList.length <= 8):nmS x=true/\PyData.strOk x=true:=by
 have e:x.length=x.cps.toList.length:=by simp [Str.length]
 refine ⟨?_,?_⟩
 .unfold nmS;rw [dw (by omega),dw (by omega),Bool.true_and,Bool.true_and,List.all_eq_true];intro c a;obtain ⟨b,d⟩:=h c a;have:=yuz (c - 97) (by omega)
  rwa [show 97+(c - 97)=c by omega] at this
 .unfold PyData.strOk;rw [<- Array.all_toList,List.all_eq_true];intro c a;obtain ⟨b,d⟩:=h c a;exact dw (by omega)
theorem ô {H:Hp}:∀ ns:List Str,yfk K H (ns.map V.str) (ns.map PyData.str)
 | []=>.nil
 | n :: r=>.cons (.str n) (ô r)
theorem é:∀ ns:List Str,(∀ x,x∈ns->PyData.strOk x=true)->PyData.canLayAll0 (ns.map PyData.str)=true
 | [],_=>rfl
 | x :: r,h=>by simp [PyData.canLayAll0,PyData.canLay0,h x dS,é r fun y a=>h y (d5 _ a)]
theorem ĝ:∀ ns:List Str,PyData.depthAll (ns.map PyData.str)=0
 | []=>rfl
 | _ :: r=>by simp [PyData.depthAll,PyData.depth,ĝ r]
theorem í (ns:List Str) (h:∀ x,x∈ns->PyData.strOk x=true):SeqAt.shaped (.list (ns.map PyData.str))=true:=by
 simp [SeqAt.shaped,PyData.canLay0,PyData.depth,é ns h,ĝ]
theorem ì:∀ ns ms:List Str,PyData.eqvAll (ns.map PyData.str) (ms.map PyData.str)=decide (ns=ms)
 | [],[]=>by simp [PyData.eqvAll]
 | [],_ :: _=>by simp [PyData.eqvAll]
 | _ :: _,[]=>by simp [PyData.eqvAll]
 | a :: r,b :: t=>by
  simp only [d6,PyData.eqvAll,PyData.eqv,ì r t];by_cases h:a=b <;> by_cases h':r=t <;> simp [h,h']
theorem yaz {g:Bool->Bool} {H:Hp} {Q:VK} {a b:Addr} (ns ms:List Str) (hn:∀ x,x∈ns->PyData.strOk x=true) (hm:∀ x,x∈ms->PyData.strOk x=true) (ha:SqL K H a (ns.map V.str)) (hb:SqL K H b (ms.map V.str)) (h:Q (.bl (g (decide (ns=ms)))) H):yyg K g (.ref a) (.ref b) H Q :=
 ⟨_,_,.lst ha (ô ns),.lst hb (ô ms),í ns hn,í ms hm,by rw [PyData.eqv,ì]; exact h⟩
structure Pc where
 nm:Str
 bs:Option Str
 path:List (Str × List Int)
 tx:List Int
 ob:Addr
 od:Addr
 dl:Addr
def baV:Option Str->V
 | none=>.non
 | some b=>.str b
def Pc.by (n:Nat) (kd:Nat->Fin 3) (ps:Nat->List Int) (q:Pc):List Int:=Ï n kd ps (Þ (q.path.map (·.2))) q.tx
def pcs (P:List Pc):List (Key × V):=P.map fun q=>(.inr q.nm,.ref q.ob)
def To (P:List Pc):Option Str->List (Str × List Int)->Prop
 | none,L=>L=[]
 | some b,L=>∃ r,r∈P/\r.nm=b/\L=r.path++[(b,r.tx)]
structure Ķ (a:Ads) (H:Hp) (d:Addr) (n:Nat) (kd:Nat->Fin 3) (ps:Nat->List Int) (w:Nat) (P:List Pc):Prop where
 dk:H d=some (.dK (pcs P))
 ob:∀ q,q∈P->H q.ob=some (.ins a.A7 q.od (ă (baV q.bs) (.ref q.dl)))/\H q.dl=some (.lst ((q.by n kd ps).map V.int))
 nd:(P.map (·.nm)).Nodup
 wf:∀ q,q∈P->To P q.bs q.path
 sz:∀ q,q∈P->Sgs q.tx/\q.tx.length <= w/\q.path.length <= 60/\(∀ x,x∈q.path->Sgs x.2/\x.2.length <= w)
 z:P.length <= 60
 nm:∀ q,q∈P->nmS q.nm=true/\PyData.strOk q.nm=true
theorem yh5:∀ {P:List Pc} {r:Pc},(P.map (·.nm)).Nodup->r∈P->uw (pcs P) (.inr r.nm)=some (.ref r.ob)
 | q :: P,r,hn,hr=>by
  have a:=eI.mp hn;by_cases e:q.nm=r.nm
  .rcases dA.mp hr with z | z
   .subst z;unfold uw pcs;rw [d6,List.find?_cons_of_pos (by simp)];rfl
   .exact absurd (di.mpr ⟨r,z,e.symm⟩) a.1
  .rcases dA.mp hr with z | z
   .exact absurd (by rw [z]) e
   .unfold uw pcs;rw [d6,List.find?_cons_of_neg (by simpa using e)];exact yh5 a.2 z
theorem ylc {P:List Pc} {x:Str} (h:∀ q,q∈P->q.nm≠x):uw (pcs P) (.inr x)=none:=by
 unfold uw pcs;rw [List.find?_eq_none.mpr fun y a=>?_]
 .rfl
 .obtain ⟨q,b,e⟩:=di.mp a;rw [<- e];simpa using h q b
theorem Ķ.same {H H':Hp} {d:Addr} {n:Nat} {kd:Nat->Fin 3} {ps:Nat->List Int} {w:Nat} {P:List Pc} (h:Ķ a H d n kd ps w P) (S:yw H H'):Ķ a H' d n kd ps w P :=
 ⟨S _ _ h.dk,fun q b=>⟨S _ _ (h.ob q b).1,S _ _ (h.ob q b).2⟩,h.nd,h.wf,h.sz,h.z,h.nm⟩
theorem yo8 (x:Str) (t:List Int) (S:List (Str × List Int)):(nmL ((x,t) :: S)).reverse=(nmL S).reverse++[.str x]:=by
 unfold nmL;rw [d6,List.reverse_cons]
theorem To.len {H:Hp} {d:Addr} {n:Nat} {kd:Nat->Fin 3} {ps:Nat->List Int} {w:Nat} {P:List Pc} {x:Option Str} (h:Ķ a H d n kd ps w P) (t:To P x L):L.length <= 61:=by
 cases x with
 | none=>rw [show L=[] from t]; exact dJ _
 | some b =>
  obtain ⟨r,c,_,e⟩:=t;have:=(h.sz r c).2.2.1;rw [e,dv,d7];omega
theorem Ķ.get {H:Hp} {d:Addr} {n:Nat} {kd:Nat->Fin 3} {ps:Nat->List Int} {w:Nat} {P:List Pc} {r:Pc} (h:Ķ a H d n kd ps w P) (hr:r∈P):ĉ H d (.str r.nm) (some (.ref r.ob)):=by
 rw [<- yh5 h.nd hr];exact ĉ.k (k:=.inr r.nm) h.dk
theorem yxs:∀ {P:List Pc} {q r:Pc},(P.map (·.nm)).Nodup->q∈P->r∈P->q.nm=r.nm->q=r
 | x :: P,q,r,hn,hq,hr,e=>by
  have a:=eI.mp hn;rcases dA.mp hq with z | z <;> rcases dA.mp hr with y | y
  .rw [z,y]
  .exact absurd (di.mpr ⟨r,y,by rw [<- e,z]⟩) a.1
  .exact absurd (di.mpr ⟨q,z,by rw [e,y]⟩) a.1
  .exact yxs a.2 z y e
theorem To.uniq {P:List Pc} {x:Option Str} (hn:(P.map (·.nm)).Nodup) (h:To P x L) (g:To P x M):L=M:=by
 cases x with
 | none=>rw [show L=[] from h,show M=[] from g]
 | some b =>
  obtain ⟨r,e,d,c⟩:=h;obtain ⟨q,f,i,a⟩:=g;obtain rfl:=yxs hn e f (d.trans i.symm);rw [c,a]
theorem To.pre {P:List Pc} (wf:∀ q,q∈P->To P q.bs q.path) {b:Str} {t:List Int} {A:List (Str × List Int)}:∀ (m:Nat) {x:Option Str} {B:List (Str × List Int)},B.length <= m->To P x (A++[(b,t)]++B)->To P (some b) (A++[(b,t)])
 | m,none,B,_,h=>by
  have e:=congrArg List.length (show A++[(b,t)]++B=[] from h);rw [dv,dv] at e;simp at e
 | m,some c,B,hm,⟨r,hr,e1,e2⟩=>by
  rcases List.eq_nil_or_concat B with z | ⟨i,y,z⟩
  .subst z;rw [eJ] at e2;have a:=List.append_inj' e2 rfl;obtain ⟨g,f⟩:=a;cases f;exact ⟨r,hr,e1,by rw [g]⟩
  .subst z;rw [List.concat_eq_append] at e2 hm;rw [<- em] at e2;have a:=(List.append_inj' e2 rfl).1
   cases m with
   | zero=>rw [dv] at hm; simp at hm
   | succ m =>
    have d:=wf r hr;rw [<- a] at d;exact To.pre wf m (by rw [dv,d7] at hm; omega) d
theorem To.ahead {P:List Pc} (hn:(P.map (·.nm)).Nodup) (wf:∀ q,q∈P->To P q.bs q.path) {x y:Option Str} (h:To P x L) (g:To P y M) (e:nmL L=(nmL M).take L.length):L=M.take L.length:=by
 cases x with
 | none=>rw [show L=[] from h]; rfl
 | some b =>
  obtain ⟨r,n,m,c⟩:=id h;have o:L.length=r.path.length+1:=by rw [c,dv,d7]
  have f:=congrArg List.length e;unfold nmL at f;rw [dM,cH,cH] at f;have a:r.path.length < M.length:=by omega
  have j:M=M.take r.path.length++[M[r.path.length]]++M.drop (r.path.length+1):=by
   rw [em,List.singleton_append,<- List.drop_eq_getElem_cons a,List.take_append_drop]
  have k:(M[r.path.length]).1=b:=by
   have z:=congrArg (fun l=>l[r.path.length]?) e;unfold nmL at z;simp only [dm,List.getElem?_take] at z;rw [if_pos (by omega),c,ee (dh _),Nat.sub_self,df a] at z;simp at z;exact z.symm
  have g2:=g;rw [j] at g2;have d:M[r.path.length]=(b,(M[r.path.length]).2):=by rw [<- k]
  rw [d] at g2;have g3:=To.pre wf _ (dh _) g2;have i:=To.uniq hn h g3;rw [i,<- d,<- ed a]
  congr 1
  rw [dM];omega
theorem Ķ.getNo {H:Hp} {d:Addr} {n:Nat} {kd:Nat->Fin 3} {ps:Nat->List Int} {w:Nat} {P:List Pc} {x:Str} (h:Ķ a H d n kd ps w P) (hx:∀ q,q∈P->q.nm≠x):ĉ H d (.str x) none:=by
 rw [<- ylc hx];exact ĉ.k (k:=.inr x) h.dk
theorem yxh (P:List Pc) (b:Str):(∃ r,r∈P/\r.nm=b)\/∀ q,q∈P->q.nm≠b:=by
 by_cases h:∃ r,r∈P/\r.nm=b
 .exact .inl h
 .exact .inr fun q a e=>h ⟨q,a,e⟩
theorem To.sz {H:Hp} {d:Addr} {n:Nat} {kd:Nat->Fin 3} {ps:Nat->List Int} {w:Nat} {P:List Pc} {x:Option Str} (h:Ķ a H d n kd ps w P) (t:To P x L):∀ y,y∈L->Sgs y.2/\y.2.length <= w:=by
 cases x with
 | none=>intro y c; rw [show L=[] from t] at c; cases c
 | some b =>
  obtain ⟨r,f,_,e⟩:=t;obtain ⟨j,g,_,i⟩:=h.sz r f;intro y c;rw [e] at c;rcases dY.mp c with z | z
  .exact i y z
  .rw [dB.mp z];exact ⟨j,g⟩
theorem To.at' {P:List Pc} (wf:∀ q,q∈P->To P q.bs q.path) {x:Option Str} (t:To P x L) (hj:j < L.length):∃ r,r∈P/\L[j]=(r.nm,r.tx)/\r.path=L.take j/\To P (some r.nm) (L.take (j+1)):=by
 have h:L=L.take j++[(L[j].1,L[j].2)]++L.drop (j+1):=by
  rw [em,List.singleton_append,<- List.drop_eq_getElem_cons hj,List.take_append_drop]
 rw [h] at t;have a:=To.pre wf _ (dh _) t;obtain ⟨r,g,b,f⟩:=id a;obtain ⟨d,c⟩:=List.append_inj' f rfl
 cases r with | mk nm bs path tx ob od dl =>
 simp only at b d c;subst b;have e:L[j].2=tx:=by cases c; rfl
 refine ⟨_,g,?_,d.symm,?_⟩
 .show L[j]=(L[j].1,tx); rw [<- e]
 .rw [ed hj]; exact a
theorem To.nms {P:List Pc} (wf:∀ q,q∈P->To P q.bs q.path) {x:Option Str} (t:To P x L) {y:Str × List Int} (hy:y∈L):∃ r,r∈P/\r.nm=y.1:=by
 obtain ⟨j,b,e⟩:=List.mem_iff_getElem.mp hy;obtain ⟨r,a,c,_⟩:=t.at' wf b;exact ⟨r,a,by rw [<- e,c]⟩
theorem To.ok {H:Hp} {d:Addr} {n:Nat} {kd:Nat->Fin 3} {ps:Nat->List Int} {w:Nat} {P:List Pc} {x:Option Str} (h:Ķ a H d n kd ps w P) (t:To P x L):∀ y,y∈L.map (·.1)->PyData.strOk y=true:=fun y b=>by
 obtain ⟨u,f,rfl⟩:=di.mp b;obtain ⟨r,c,e⟩:=t.nms h.wf f;rw [<- e];exact (h.nm r c).2
theorem Á (L:List (Str × List Int)):nmL L=(L.map (·.1)).map V.str:=by
 unfold nmL;rw [dX];rfl
theorem Ú (L:List (Str × List Int)) (k:Nat):(nmL L).take k=nmL (L.take k):=by
 unfold nmL;rw [List.map_take]
theorem jo (L:List (Str × List Int)):(nmL L).length=L.length:=cH _
theorem yl9 (h:L.map (·.1)=M.map (·.1)):nmL L=nmL M:=by rw [Á,Á,h]
theorem yc1 {w:Nat}:∀ L:List (List Int),(∀ x,x∈L->x.length <= w)->(Þ L).length <= L.length * (9 * w+1)
 | [],_=>dJ _
 | t :: L,h=>by
  have e:Þ (t :: L)=dec t++Þ L:=rfl;have d:=h t dS;have b:=yc1 L fun x a=>h x (d5 _ a);have c:=x9 t;rw [e,dv,dW,Nat.succ_mul];omega
def txi (L:List (Str × List Int)) (i:Nat):List Int:=(L.map (·.2)).getD i []
def mOf (L:List (Str × List Int)):Nat:=6+6 * (Þ (L.map (·.2))).length
def NK (H:Hp) (ks ks':List V):Prop:=∀ q,V.ref q∈ks'->V.ref q∈ks\/H q=none
theorem NK.refl {H:Hp} {ks:List V}:NK H ks ks:=fun _ h=>.inl h
theorem NK.nil {H:Hp} {ks:List V}:NK H ks []:=fun _ h=>nomatch h
theorem NK.trans {H H1:Hp} {k1 k2 k3:List V} (h:NK H k1 k2) (g:NK H1 k2 k3) (f:∀ q,H1 q=none->H q=none):NK H k1 k3:=fun q a=>(g q a).elim (h q) fun z=>.inr (f q z)
theorem NK.app {H:Hp} {ks ks':List V} {v:V} (h:NK H ks ks') (g:∀ q,v=.ref q->H q=none):NK H ks (ks'++[v]):=fun q a=>(dY.mp a).elim (h q) fun z=>.inr (g q (dB.mp z).symm)
def StW (c cl ct:Addr) (U:Addr->Prop):Addr->Prop:=fun x=>x=c\/ChW cl ct U x
structure zb (K:W.Frag) (a:Ads) (H:Hp) (st ds ll d c dc p cl ct:Addr) (lk tp:Nat->Addr) (n:Nat) (kd:Nat->Fin 3) (ps:Nat->List Int) (mo w:Nat) (P:List Pc) (L:List (Str × List Int)) (ks:List V) (U:Addr->Prop):Prop where
 me:H st=some (.ins a.A0 ds (xi (.ref ll) (.int mo) (.ref d) (.ref c)))
 n1:1 <= n
 n6:n <= 6
 lo:H ll=some (.lst (refs lk n))
 row:xw H n lk kd tp ps
 pz:Ķ a H d n kd ps w P
 ch:ο K a H c dc p cl ct n kd ps L ks (mOf L) U
 nw:∀ x,(x=st\/x=ll\/x=d\/∃ q,q∈P/\(x=q.ob\/x=q.dl))->¬ StW c cl ct U x
 mo1:mo <= 1000
 wm:w <= mo/\w <= 200
 way:∃ x,To P x L
theorem ο.but {H H':Hp} {c p ll:Addr} {n:Nat} {kd:Nat->Fin 3} {ps:Nat->List Int} {ks:List V} {M:Nat} {W:Addr->Prop} (h:ο K a H c dc p ll tl n kd ps L ks M W) {C:Addr} {fs:List (Str × V)} (hq:H q=some (.ins C dq fs)) (nq:¬ StW c ll tl W q) (B:But q H H'):ο K a H' c dc p ll tl n kd ps L ks M W:=by
 have d:∀ {x:Addr} {b:List V},H x=some (.lst b)->x≠q:=fun {x b} e z=>by rw [z,hq] at e; cases e
 exact ⟨B _ _ h.me fun z=>nq (.inl z.symm),h.fz.frame (W2:=fun x=>x=q) (fun x z=>⟨.ins C dq fs,by rw [show x=q from z]; exact hq,.inl rfl⟩) (fun x w z=>nq (.inr (.inr (.inr (by rw [<- show x=q from z]; exact w))))) (fun x o e g=>B x o e g),B _ _ h.hl (d h.hl),B _ _ h.ht (d h.ht),h.tx.mono fun x b e f=>⟨B _ _ e (d e),f⟩,h.nc,h.nll,h.ntl,h.ne⟩
theorem ydo (L:List (Str × List Int)) (x:Str) (t:List Int):mOf (L++[(x,t)])=mOf L+6 * (dec t).length:=by
 unfold mOf;rw [dF,show List.map (fun x:Str × List Int=>x.2) [(x,t)]=[t] from rfl,ÿ,dv];omega
theorem yna {w:Nat} (h:∀ y,y∈L->y.2.length <= w) (hw:w <= 200) (hl:L.length <= 61):mOf L <= 660000:=by
 have c:=yc1 (w:=w) (L.map (·.2)) fun x b=>by
  obtain ⟨y,a,rfl⟩:=di.mp b;exact h y a
 rw [cH] at c;have d:L.length * (9 * w+1) <= 61 * 1801:=Nat.mul_le_mul hl (by omega);unfold mOf;omega
def StO (st c cl ct:Addr) (U:Addr->Prop):Addr->Prop:=fun y=>y=st\/StW c cl ct U y
theorem Go.or {W Y:Addr->Prop} {H H':Hp} (g:Go W H H' W'):Go (fun x=>Y x\/W x) H H' (fun x=>Y x\/W' x) :=
 ⟨fun c o e a=>g.fr c o e fun w=>a (.inr w),fun c w=>w.elim (fun y=>.inl (.inl y)) fun w=>(g.nw c w).imp .inr id,g.lv⟩
theorem ο.noTup {H:Hp} {c p ll:Addr} {n:Nat} {kd:Nat->Fin 3} {ps:Nat->List Int} {ks:List V} {M:Nat} {W:Addr->Prop} (h:ο K a H c dc p ll tl n kd ps L ks M W) {x:Addr} {xs:List V} (e:H x=some (.tup xs)):¬ StW c ll tl W x:=fun w=>by
 rcases w with z | z | z | z
 .rw [z,h.me] at e; cases e
 .rw [z,h.hl] at e; cases e
 .rw [z,h.ht] at e; cases e
 .exact h.fz.sh.tup e z
theorem ο.same {H H':Hp} {c p ll:Addr} {n:Nat} {kd:Nat->Fin 3} {ps:Nat->List Int} {ks:List V} {M:Nat} {W:Addr->Prop} (h:ο K a H c dc p ll tl n kd ps L ks M W) (S:yw H H'):ο K a H' c dc p ll tl n kd ps L ks M W :=
 ⟨S _ _ h.me,h.fz.same S,S _ _ h.hl,S _ _ h.ht,h.tx.mono fun _ _ e b=>⟨S _ _ e,b⟩,h.nc,h.nll,h.ntl,h.ne⟩
theorem Ķ.fr {H H':Hp} {d:Addr} {n:Nat} {kd:Nat->Fin 3} {ps:Nat->List Int} {w:Nat} {P:List Pc} (h:Ķ a H d n kd ps w P) (f:∀ x o,H x=some o->(x=d\/∃ q,q∈P/\(x=q.ob\/x=q.dl))->H' x=some o):Ķ a H' d n kd ps w P :=
 ⟨f _ _ h.dk (.inl rfl),fun q b=>⟨f _ _ (h.ob q b).1 (.inr ⟨q,b,.inl rfl⟩),f _ _ (h.ob q b).2 (.inr ⟨q,b,.inr rfl⟩)⟩,h.nd,h.wf,h.sz,h.z,h.nm⟩
theorem xw.fr {H H':Hp} {n:Nat} {lk:Nat->Addr} {kd:Nat->Fin 3} {ps:Nat->List Int} (h:xw H n lk kd tp ps) (f:∀ x xs,H x=some (.tup xs)->H' x=some (.tup xs)):xw H' n lk kd tp ps:=fun i d=>by
 obtain ⟨q,e,c,b,a⟩:=h i d;exact ⟨q,e,f _ _ c,f _ _ b,a⟩
section
variable {H H':Hp} {ll d c p ct:Addr} {lk:Nat->Addr} {n:Nat} {kd:Nat->Fin 3} {ps:Nat->List Int} {mo w:Nat} {P:List Pc} {ks:List V}
theorem zb.same (h:zb K a H st ds ll d c dc p cl ct lk tp n kd ps mo w P L ks U) (S:yw H H'):zb K a H' st ds ll d c dc p cl ct lk tp n kd ps mo w P L ks U :=
 ⟨S _ _ h.me,h.n1,h.n6,S _ _ h.lo,h.row.same S,h.pz.same S,h.ch.same S,h.nw,h.mo1,h.wm,h.way⟩
theorem zb.lv (h:zb K a H st ds ll d c dc p cl ct lk tp n kd ps mo w P L ks U):∀ x,(x=st\/x=ll\/x=d\/∃ q,q∈P/\(x=q.ob\/x=q.dl))->∃ o,H x=some o:=fun x e=>by
 rcases e with z | z | z | ⟨q,b,z | z⟩
 .exact ⟨_,by rw [z]; exact h.me⟩
 .exact ⟨_,by rw [z]; exact h.lo⟩
 .exact ⟨_,by rw [z]; exact h.pz.dk⟩
 .exact ⟨_,by rw [z]; exact (h.pz.ob q b).1⟩
 .exact ⟨_,by rw [z]; exact (h.pz.ob q b).2⟩
theorem zb.lvO (h:zb K a H st ds ll d c dc p cl ct lk tp n kd ps mo w P L ks U):∀ x,StO st c cl ct U x->∃ o,H x=some o:=fun x b=>by
 rcases b with z | z | z | z | z
 .exact ⟨_,by rw [z]; exact h.me⟩
 .exact ⟨_,by rw [z]; exact h.ch.me⟩
 .exact ⟨_,by rw [z]; exact h.ch.hl⟩
 .exact ⟨_,by rw [z]; exact h.ch.ht⟩
 .exact h.ch.fz.live x z
theorem zb.go (h:zb K a H st ds ll d c dc p cl ct lk tp n kd ps mo w P L ks U) {ks':List V} (hc:ο K a H' c dc p cl ct n kd ps M ks' (mOf M) U') (g:Go (ChW cl ct U) H H' (ChW cl ct U')) (way:∃ x,To P x M):zb K a H' st ds ll d c dc p cl ct lk tp n kd ps mo w P M ks' U'/\Go (StO st c cl ct U) H H' (StO st c cl ct U'):=by
 have g1:Go (StW c cl ct U) H H' (StW c cl ct U'):=g.or (Y:=fun x=>x=c);have f:∀ x o,H x=some o->(x=st\/x=ll\/x=d\/∃ q,q∈P/\(x=q.ob\/x=q.dl))->H' x=some o:=fun x o e b=>g1.fr x o e (h.nw x b);exact ⟨⟨f _ _ h.me (.inl rfl),h.n1,h.n6,f _ _ h.lo (.inr (.inl rfl)),h.row.fr fun x i e=>g1.fr _ _ e (h.ch.noTup e),h.pz.fr fun x o e z=>f x o e (.inr (.inr z)),hc,g1.apart (fun x b=>h.lv x b) h.nw,h.mo1,h.wm,way⟩,g1.or (Y:=fun x=>x=st)⟩
structure StB (a:Ads) (H:Hp) (st ds ll d:Addr) (vc:V) (lk tp:Nat->Addr) (n:Nat) (kd:Nat->Fin 3) (ps:Nat->List Int) (mo w:Nat) (P:List Pc):Prop where
 me:H st=some (.ins a.A0 ds (xi (.ref ll) (.int mo) (.ref d) vc))
 n1:1 <= n
 n6:n <= 6
 lo:H ll=some (.lst (refs lk n))
 row:xw H n lk kd tp ps
 pz:Ķ a H d n kd ps w P
 mo1:mo <= 1000
 wm:w <= mo/\w <= 200
theorem zb.b (h:zb K a H st ds ll d c dc p cl ct lk tp n kd ps mo w P L ks U):StB a H st ds ll d (.ref c) lk tp n kd ps mo w P:=⟨h.me,h.n1,h.n6,h.lo,h.row,h.pz,h.mo1,h.wm⟩
theorem StB.lv {vc:V} (h:StB a H st ds ll d vc lk tp n kd ps mo w P):∀ x,(x=st\/x=ll\/x=d\/∃ q,q∈P/\(x=q.ob\/x=q.dl))->∃ o,H x=some o:=fun x c=>by
 rcases c with z | z | z | ⟨q,b,z | z⟩
 .exact ⟨_,by rw [z]; exact h.me⟩
 .exact ⟨_,by rw [z]; exact h.lo⟩
 .exact ⟨_,by rw [z]; exact h.pz.dk⟩
 .exact ⟨_,by rw [z]; exact (h.pz.ob q b).1⟩
 .exact ⟨_,by rw [z]; exact (h.pz.ob q b).2⟩
theorem Go.wide {W W2:Addr->Prop} (g:Go W H H' W') (f:∀ x,W x->W2 x):Go W2 H H' W':=⟨fun c o e a=>g.fr c o e fun w=>a (f c w),fun c w=>(g.nw c w).imp (f c) id,g.lv⟩
theorem StB.re {vc:V} (h:StB a H st ds ll d vc lk tp n kd ps mo w P) {dc' p':Addr} {HE:Hp} (nc:H c'=none) (ndc:H dc'=none) (hch:ο K a HE c' dc' p' cl' ct' n kd ps [] [] 6 U') (hnew:∀ x,ChW cl' ct' U' x->(upd (upd H dc' (.own c')) c' (.ins a.A1 dc' [])) x=none) (BE:But c' (upd (upd H dc' (.own c')) c' (.ins a.A1 dc' [])) HE) :
  zb K a (upd HE st (.ins a.A0 ds (xi (.ref ll) (.int mo) (.ref d) (.ref c')))) st ds ll d c' dc' p' cl' ct' lk tp n kd ps mo w P [] [] U'/\Go (fun y=>y=st) H (upd HE st (.ins a.A0 ds (xi (.ref ll) (.int mo) (.ref d) (.ref c')))) (StO st c' cl' ct' U')/\yw H HE/\∀ x,StW c' cl' ct' U' x->H x=none:=by
 have l:yw H (upd (upd H dc' (.own c')) c' (.ins a.A1 dc' [])):=fun b o e=>by rw [yn (yd e nc),yn (yd e ndc)]; exact e
 have f:yw H HE:=fun b o e=>BE _ _ (l _ _ e) (yd e nc)
 have j:∀ x,StW c' cl' ct' U' x->H x=none:=fun x w=>by
  rcases w with z | z
  .rw [z]; exact nc
  .exact l.free (hnew x z)
 have g:∀ {x:Addr} {o:HO},H x=some o->¬ StW c' cl' ct' U' x:=fun {x o} e w=>by rw [j x w] at e; cases e
 have c:=h.me;have m:∀ {x:Addr} {k:List V},H x=some (.lst k)->x≠st:=fun {x k} e z=>by rw [z,c] at e; cases e
 refine ⟨⟨yc,h.n1,h.n6,yi (m h.lo) (f _ _ h.lo),h.row.fr fun x k e=>yi (fun z=>by rw [z,c] at e; cases e) (f _ _ e),⟨yi (fun z=>?_) (f _ _ h.pz.dk),fun q i=>⟨yi (fun z=>?_) (f _ _ (h.pz.ob q i).1),yi (m (h.pz.ob q i).2) (f _ _ (h.pz.ob q i).2)⟩,h.pz.nd,h.pz.wf,h.pz.sz,h.pz.z,h.pz.nm⟩,hch.but (f _ _ c) (g c) But.upd,fun x s=>?_,h.mo1,h.wm,⟨none,rfl⟩⟩,⟨fun x o e r=>yi r (f _ _ e),fun x w=>?_,fun x o e=>?_⟩,f,j⟩
 .have e:=h.pz.dk; rw [z,c] at e; cases e
 .have e:=(h.pz.ob q i).1;rw [z,c] at e;injection e with e;injection e with _ _ e;have p:=congrArg List.length e;exact absurd (show (4:Nat)=2 from p) (by decide)
 .obtain ⟨o,e⟩:=h.lv x s;exact g e
 .rcases w with z | z
  .exact .inl z
  .exact .inr (j x z)
 .by_cases z:x=st
  .exact ⟨_,by rw [z]; exact yc⟩
  .exact ⟨o,yi z (f _ _ e)⟩
theorem zb.re (h:zb K a H st ds ll d c dc p cl ct lk tp n kd ps mo w P L ks U) {dc' p':Addr} {HE:Hp} (nc:H c'=none) (ndc:H dc'=none) (hch:ο K a HE c' dc' p' cl' ct' n kd ps [] [] 6 U') (hnew:∀ x,ChW cl' ct' U' x->(upd (upd H dc' (.own c')) c' (.ins a.A1 dc' [])) x=none) (BE:But c' (upd (upd H dc' (.own c')) c' (.ins a.A1 dc' [])) HE) :
  zb K a (upd HE st (.ins a.A0 ds (xi (.ref ll) (.int mo) (.ref d) (.ref c')))) st ds ll d c' dc' p' cl' ct' lk tp n kd ps mo w P [] [] U'/\Go (StO st c cl ct U) H (upd HE st (.ins a.A0 ds (xi (.ref ll) (.int mo) (.ref d) (.ref c')))) (StO st c' cl' ct' U')/\yw H HE/\∀ x,StW c' cl' ct' U' x->H x=none:=by
 obtain ⟨g,f,e⟩:=h.b.re nc ndc hch hnew BE;exact ⟨g,f.wide fun _ z=>.inl z,e⟩
theorem To.less {b:Str} {x:Option Str} (h:To P x M) (hx:x≠some b):To (P.filter fun q=>decide (q.nm≠b)) x M:=by
 cases x with
 | none=>exact h
 | some y =>
  obtain ⟨r,c,a,d⟩:=h;refine ⟨r,eW.mpr ⟨c,dw fun z=>hx ?_⟩,a,d⟩;rw [<- a,z]
theorem yjp (b:Str):∀ P:List Pc,Ñ (pcs P) (.inr b)=pcs (P.filter fun q=>decide (q.nm≠b)):=fun P=>by
 unfold Ñ pcs;rw [List.filter_map]
 congr 1
 refine List.filter_congr fun q _=>?_;by_cases e:q.nm=b
 .simp [e]
 .simp [e]
theorem StB.drop {vc:V} (h:StB a H st ds ll d vc lk tp n kd ps mo w P) {b:Str} (hb:∀ q,q∈P->q.bs≠some b):StB a (upd H d (.dK (Ñ (pcs P) (.inr b)))) st ds ll d vc lk tp n kd ps mo w (P.filter fun q=>decide (q.nm≠b)):=by
 have i:=h.pz.dk;have f:∀ {x:Addr} {o:HO},H x=some o->o≠.dK (pcs P)->(upd H d (.dK (Ñ (pcs P) (.inr b)))) x=some o:=fun {x o} e j=>yi (fun z=>by rw [z,i] at e; cases e; exact j rfl) e;have g:∀ {q:Pc},q∈(P.filter fun q=>decide (q.nm≠b))->q∈P:=fun c=>(eW.mp c).1
 refine ⟨f h.me (fun z=>nomatch z),h.n1,h.n6,f h.lo (fun z=>nomatch z),h.row.fr fun x k e=>f e (fun z=>nomatch z),⟨by rw [<- yjp]; exact yc,fun q c=>⟨f (h.pz.ob q (g c)).1 (fun z=>nomatch z),f (h.pz.ob q (g c)).2 (fun z=>nomatch z)⟩,h.pz.nd.sublist (List.filter_sublist.map _),fun q c=>(h.pz.wf q (g c)).less (hb q (g c)),fun q c=>h.pz.sz q (g c),dZ (List.length_filter_le _ _) h.pz.z,fun q c=>h.pz.nm q (g c)⟩,h.mo1,h.wm⟩
end
theorem ifI {tc:TT} {ts te:TS} {D:ť} {σ:St} {H:Hp} (C:Prop) (h:∀ Qb:Bool->Hp->Prop,(C->Qb true H)->Qb false H->tc σ H Qb) (hT:C->ts D σ H) (hF:te D σ H):yyb tc ts te D σ H :=
 h _ (fun c=>by show (if true=true then _ else _); rw [if_pos rfl]; exact hT c) (by show (if false=true then _ else _); rw [if_neg (by decide)]; exact hF)
theorem vbn {tc:TT} {ts te:TS} {D:ť} {σ:St} {H:Hp} (C C':Prop) (h:∀ Qb:Bool->Hp->Prop,(C->Qb true H)->(C'->Qb false H)->tc σ H Qb) (hT:C->ts D σ H) (hF:C'->te D σ H):yyb tc ts te D σ H :=
 h _ (fun c=>by show (if true=true then _ else _); rw [if_pos rfl]; exact hT c) (fun c=>by show (if false=true then _ else _); rw [if_neg (by decide)]; exact hF c)
structure Pd where
 nm:Str
 bs:Option Str
 path:List (Str × List Int)
 tx:List Int
def Pc.pd (q:Pc):Pd:=⟨q.nm,q.bs,q.path,q.tx⟩
structure Cf where
 n:Nat
 kd:Nat->Fin 3
 ps:Nat->List Int
 mo:Nat
 w:Nat
def Pd.by (C:Cf) (q:Pd):List Int:=Ï C.n C.kd C.ps (Þ (q.path.map (·.2))) q.tx
def ToD (P:List Pd):Option Str->List (Str × List Int)->Prop
 | none,L=>L=[]
 | some b,L=>∃ r,r∈P/\r.nm=b/\L=r.path++[(b,r.tx)]
theorem Ŝ {Q:List Pc} {x:Option Str} :ToD (Q.map Pc.pd) x L ↔ To Q x L:=by
 cases x with
 | none=>exact Iff.rfl
 | some b =>
  refine ⟨fun ⟨r,a,e⟩=>?_,fun ⟨r,a,e⟩=>⟨_,di.mpr ⟨r,a,rfl⟩,e⟩⟩;obtain ⟨q,c,rfl⟩:=di.mp a;exact ⟨q,c,e⟩
def okN (x:Str):Prop:=nmS x=true/\PyData.strOk x=true
def WD (d st c cl ct:Addr) (U:Addr->Prop):Addr->Prop:=fun y=>y=d\/StO st c cl ct U y
structure Sx where
 w:Addr->Prop
 f:Addr->Prop
def yyd (d st c cl ct:Addr) (U:Addr->Prop) (ll:Addr) (Q:List Pc) (ks:List V):Sx :=
 ⟨WD d st c cl ct U,fun y=>WD d st c cl ct U y\/y=ll\/(∃ q,q∈Q/\(y=q.ob\/y=q.dl))\/V.ref y∈ks⟩
inductive Sto (K:W.Frag) (a:Ads) (H:Hp) (st:Addr) (C:Cf) (P:List Pd) (X:Sx):Prop
 | mk (ds ll d c dc p cl ct:Addr) (lk tp:Nat->Addr) (Q:List Pc) (L:List (Str × List Int)) (ks:List V) (U:Addr->Prop) (s:zb K a H st ds ll d c dc p cl ct lk tp C.n C.kd C.ps C.mo C.w Q L ks U) (e:Q.map Pc.pd=P) (x:X=yyd d st c cl ct U ll Q ks)
structure Gx (X:Sx) (H H':Hp) (Y:Sx):Prop where
 g:Go X.w H H' Y.w
 f:∀ y,Y.f y->X.f y\/H y=none
theorem Gx.same {X Y:Sx} {H H1 H2:Hp} (h:Gx X H H1 Y) (S:yw H1 H2):Gx X H H2 Y:=⟨h.g.same S,h.f⟩
theorem Gx.refl {X:Sx} {H:Hp}:Gx X H H X:=⟨.refl,fun _ w=>.inl w⟩
theorem Gx.trans {X Y Z:Sx} {H H1 H2:Hp} (h:Gx X H H1 Y) (k:Gx Y H1 H2 Z):Gx X H H2 Z:=⟨h.g.trans k.g,fun y w=>(k.f y w).elim (h.f y) fun e=>.inr (h.g.free e)⟩
def Kf (H:Hp) (X:Sx) (x:Addr) (o:HO):Prop:=H x=some o/\¬ X.f x
section
variable {B H H':Hp} {C:Cf} {P:List Pd} {X Y:Sx}
theorem Sto.same (h:Sto K a H st C P X) (S:yw H H'):Sto K a H' st C P X:=by
 obtain ⟨i,g,d,c,k,p,b,j,m,l,Q,L,f,U,s,e,x⟩:=h;exact ⟨i,g,d,c,k,p,b,j,m,l,Q,L,f,U,s.same S,e,x⟩
theorem Sto.live (h:Sto K a H st C P X):∀ y,X.f y->∃ o,H y=some o:=fun y g=>by
 obtain ⟨m,l,d,c,r,p,j,n,u,t,Q,L,k,U,s,rfl,rfl⟩:=h;rcases g with (z | z) | z | ⟨q,b,z⟩ | z
 .exact ⟨_,by rw [z]; exact s.pz.dk⟩
 .exact s.lvO y z
 .exact ⟨_,by rw [z]; exact s.lo⟩
 .exact s.lv y (.inr (.inr (.inr ⟨q,b,z⟩)))
 .rcases s.ch.tx.mem _ z with e | ⟨q,i,e,b,_⟩
  .cases e
  .cases e; exact ⟨_,b⟩
theorem Sto.wf (h:Sto K a H st C P X):∀ y,X.w y->X.f y:=fun y b=>by
 obtain ⟨j,i,d,c,l,p,e,k,n,m,Q,L,g,U,s,rfl,rfl⟩:=h;exact .inl b
theorem Sto.ins (h:Sto K a H st C P X):∃ ds vl vm vp vc,H st=some (.ins a.A0 ds (xi vl vm vp vc)):=by
 obtain ⟨ds,f,d,c,j,p,b,g,k,i,Q,L,e,U,s,rfl,rfl⟩:=h;exact ⟨_,_,_,_,_,s.me⟩
theorem yyy (Q:List Pc):(Q.map Pc.pd).map (·.nm)=Q.map (·.nm):=by rw [dX]; rfl
theorem Sto.nd (h:Sto K a H st C P X):(P.map (·.nm)).Nodup:=by
 obtain ⟨g,f,d,c,j,p,b,i,l,k,Q,L,e,U,s,rfl,rfl⟩:=h;rw [yyy];exact s.pz.nd
theorem Sto.nm (h:Sto K a H st C P X):∀ q,q∈P->okN q.nm:=fun q b=>by
 obtain ⟨j,i,d,c,l,p,f,k,n,m,Q,L,g,U,s,rfl,rfl⟩:=h;obtain ⟨r,e,rfl⟩:=di.mp b;exact s.pz.nm r e
theorem Sto.to (h:Sto K a H st C P X):∀ q,q∈P->ToD P q.bs q.path:=fun q b=>by
 obtain ⟨j,i,d,c,l,p,f,k,n,m,Q,L,g,U,s,rfl,rfl⟩:=h;obtain ⟨r,e,rfl⟩:=di.mp b;exact Ŝ.mpr (s.pz.wf r e)
theorem Sto.sz (h:Sto K a H st C P X):∀ q,q∈P->Sgs q.tx/\q.tx.length <= C.w/\q.path.length <= 60/\(∀ x,x∈q.path->Sgs x.2/\x.2.length <= C.w):=fun q b=>by
 obtain ⟨j,i,d,c,l,p,f,k,n,m,Q,L,g,U,s,rfl,rfl⟩:=h;obtain ⟨r,e,rfl⟩:=di.mp b;exact s.pz.sz r e
theorem Sto.cf (h:Sto K a H st C P X):1 <= C.n/\C.n <= 6/\C.mo <= 1000/\C.w <= C.mo/\C.w <= 200:=by
 obtain ⟨g,f,d,c,j,p,b,i,l,k,Q,L,e,U,s,rfl,rfl⟩:=h;exact ⟨s.n1,s.n6,s.mo1,s.wm.1,s.wm.2⟩
theorem Sto.sh (h:Sto K a H st C P X):WSh H X.w:=fun y i=>by
 obtain ⟨m,l,d,c,o,p,j,n,t,r,Q,L,k,U,s,rfl,rfl⟩:=h;rcases i with z | z | z | z | z | z
 .exact ⟨_,by rw [z]; exact s.pz.dk,.inl rfl⟩
 .exact ⟨_,by rw [z]; exact s.me,.inl rfl⟩
 .exact ⟨_,by rw [z]; exact s.ch.me,.inl rfl⟩
 .refine ⟨_,by rw [z]; exact s.ch.hl,.inr ⟨_,rfl,fun v b=>?_⟩⟩;obtain ⟨u,_,e⟩:=di.mp b;exact .inl ⟨u.1,e.symm⟩
 .refine ⟨_,by rw [z]; exact s.ch.ht,.inr ⟨_,rfl,fun v b=>.inr ?_⟩⟩;exact (s.ch.tx.mem v b).imp id fun ⟨q,f,e,g,_⟩=>⟨q,e,.inl ⟨f,g⟩⟩
 .exact s.ch.fz.sh y z
theorem Sto.frame {W2:Addr->Prop} (h:Sto K a H st C P X) (sh:WSh H W2) (dj:∀ y,X.f y->¬ W2 y) (fr:∀ y o,H y=some o->¬ W2 y->H' y=some o):Sto K a H' st C P X:=by
 obtain ⟨A,n,d,c,B,p,g,i,t,D,Q,L,j,U,s,rfl,rfl⟩:=h;have f:∀ {y:Addr} {o:HO},H y=some o->(yyd d st c g i U n Q j).f y->H' y=some o:=fun {y o} e w=>fr y o e (dj y w);refine ⟨A,n,d,c,B,p,g,i,t,D,Q,L,j,U,⟨f s.me (.inl (.inr (.inl rfl))),s.n1,s.n6,f s.lo (.inr (.inl rfl)),s.row.fr fun y G e=>fr _ _ e (sh.tup e),s.pz.fr fun y o e z=>f e (z.elim (fun z=>.inl (.inl z)) fun z=>.inr (.inr (.inl z))),⟨f s.ch.me (.inl (.inr (.inr (.inl rfl)))),s.ch.fz.frame sh (fun y w=>dj y (.inl (.inr (.inr (.inr (.inr (.inr w))))))) fr,f s.ch.hl (.inl (.inr (.inr (.inr (.inl rfl))))),f s.ch.ht (.inl (.inr (.inr (.inr (.inr (.inl rfl)))))),?_,s.ch.nc,s.ch.nll,s.ch.ntl,s.ch.ne⟩,s.nw,s.mo1,s.wm,s.way⟩,rfl,rfl⟩
 have l:∀ {L:List (Str × List Int)} {b:List V},(∀ v,v∈b->v∈j)->ybc H (ChW g i U) L b->ybc H' (ChW g i U) L b:=by
  intro L
  induction L with
  | nil=>intro b _ h; exact h
  | cons y r ih =>
   rintro b m ⟨k,F,rfl,z,h⟩;refine ⟨k,F,rfl,z.imp id fun ⟨q,e,u,x⟩=>⟨q,e,f u (.inr (.inr (.inr ?_))),x⟩,ih (fun v E=>m v (d5 _ E)) h⟩;rw [<- e];exact m _ dS
 exact l (fun _ h=>h) s.ch.tx
theorem Sto.but (h:Sto K a H st C P X) (sh:WSh H fun z=>z=y) (ny:¬ X.f y) (b:But y H H'):Sto K a H' st C P X :=
 h.frame sh (fun z w e=>ny (by rw [<- e]; exact w)) fun z o e c=>b z o e c
theorem WSh.ls {xs:List V} (e:H y=some (.lst xs)) (hx:∀ x∈xs,(∃ s,x=V.str s)\/x=V.non\/∃ q,x=V.ref q/\ysf (H q)):WSh H fun z=>z=y:=fun z w=>⟨_,by rw [w]; exact e,.inr ⟨xs,rfl,hx⟩⟩
theorem Kf.go {x:Addr} {o:HO} (h:Kf H X x o) (s:Sto K a H st C P X) (g:Gx X H H' Y):Kf H' Y x o :=
 ⟨g.g.fr _ _ h.1 fun w=>h.2 (s.wf _ w),fun w=>(g.f x w).elim h.2 fun e=>by rw [h.1] at e; cases e⟩
theorem Kf.same {x:Addr} {o:HO} (h:Kf H X x o) (S:yw H H'):Kf H' X x o:=⟨S _ _ h.1,h.2⟩
theorem Kf.new {x:Addr} {o:HO} (s:Sto K a H st C P X) (hx:H x=none) (e:H' x=some o):Kf H' X x o:=⟨e,fun w=>by
 obtain ⟨c,b⟩:=s.live x w;rw [hx] at b;cases b⟩
theorem Gx.bs (s:Sto K a H st C P X) (g:Gx X H H' Y) (S:yw B H) (nb:∀ y,X.f y->B y=none):yw B H'/\∀ y,Y.f y->B y=none :=
 ⟨fun y o e=>g.g.fr _ _ (S _ _ e) (fun w=>by rw [nb y (s.wf y w)] at e; cases e),fun y w=>(g.f y w).elim (nb y) S.free⟩
def Sep (X Y:Sx):Prop:=∀ y,X.f y->¬ Y.f y
theorem Sep.symm (h:Sep X Y):Sep Y X:=fun y w v=>h y v w
theorem Sto.oth {C2:Cf} {P2:List Pd} {X2 Y2:Sx} (h:Sto K a H st C P X) (h2:Sto K a H st2 C2 P2 X2) (sp:Sep X X2) (g:Gx X2 H H' Y2):Sto K a H' st C P X/\Sep X Y2 :=
 ⟨h.frame h2.sh (fun y w v=>sp y w (h2.wf y v)) g.g.fr,fun y w v=>(g.f y v).elim (sp y w) fun e=>by
  obtain ⟨o,b⟩:=h.live y w;rw [e] at b;cases b⟩
theorem Gx.of {d c ct ll:Addr} {Q Q':List Pc} {ks ks':List V} (g:Go (WD d st c cl ct U) H H' (WD d st c' cl' ct' U')) (nk:NK H ks ks') (hq:∀ q,q∈Q'->q∈Q\/(H q.ob=none/\H q.dl=none)):Gx (yyd d st c cl ct U ll Q ks) H H' (yyd d st c' cl' ct' U' ll Q' ks'):=by
 refine ⟨g,fun y w=>?_⟩;rcases w with z | z | ⟨q,h,z⟩ | z
 .exact (g.nw y z).imp .inl id
 .exact .inl (.inr (.inl z))
 .rcases hq q h with a | ⟨e,b⟩
  .exact .inl (.inr (.inr (.inl ⟨q,a,z⟩)))
  .rcases z with z | z
   .rw [z]; exact .inr e
   .rw [z]; exact .inr b
 .exact (nk y z).imp (fun z=>.inr (.inr (.inr z))) id
end
theorem Î:∀ {P:List Pd} {q r:Pd},(P.map (·.nm)).Nodup->q∈P->r∈P->q.nm=r.nm->q=r
 | x :: P,q,r,hn,hq,hr,e=>by
  have a:=eI.mp hn;rcases dA.mp hq with z | z <;> rcases dA.mp hr with y | y
  .rw [z,y]
  .exact absurd (di.mpr ⟨r,y,by rw [<- e,z]⟩) a.1
  .exact absurd (di.mpr ⟨q,z,by rw [e,y]⟩) a.1
  .exact Î a.2 z y e
theorem ToD.uniq {P:List Pd} {x:Option Str} (hn:(P.map (·.nm)).Nodup) (h:ToD P x L) (g:ToD P x M):L=M:=by
 cases x with
 | none=>rw [show L=[] from h,show M=[] from g]
 | some b =>
  obtain ⟨r,e,d,c⟩:=h;obtain ⟨q,f,i,a⟩:=g;obtain rfl:=Î hn e f (d.trans i.symm);rw [c,a]
theorem Š {α:Type} [DecidableEq α]:∀ {l m:List α},l.Nodup->(∀ x,x∈l->x∈m)->l.length <= m.length
 | [],_,_,_=>dJ _
 | x :: l,m,hn,h=>by
  have a:=eI.mp hn;have b:=h x dS;have d:l.length <= (m.erase x).length:=Š a.2 fun y c=>(List.mem_erase_of_ne (fun e=>a.1 (by rw [<- e]; exact c))).mpr (h y (d5 _ c));rw [List.length_erase_of_mem b] at d;have:=List.length_pos_of_mem b;rw [dW];omega
def Pd.pc (q:Pd):Pc:=⟨q.nm,q.bs,q.path,q.tx,0,0,0⟩
theorem yxc (P:List Pd):(P.map Pd.pc).map Pc.pd=P:=by
 rw [dX];exact List.map_id _
structure PdW (P:List Pd):Prop where
 nd:(P.map (·.nm)).Nodup
 wf:∀ q,q∈P->ToD P q.bs q.path
theorem ToD.pc {P:List Pd} {x:Option Str} (h:ToD P x L):To (P.map Pd.pc) x L:=Ŝ.mp (by rw [yxc]; exact h)
theorem ToD.at {P:List Pd} (w:PdW P) {x:Option Str} (t:ToD P x L) (hj:j < L.length):∃ r,r∈P/\L[j]=(r.nm,r.tx)/\r.path=L.take j/\ToD P (some r.nm) (L.take (j+1)):=by
 obtain ⟨r,b,f,d,e⟩:=To.at' (fun q c=>by
  obtain ⟨u,a,rfl⟩:=di.mp c;exact (w.wf u a).pc) t.pc hj
 obtain ⟨u,a,rfl⟩:=di.mp b;refine ⟨u,a,f,d,?_⟩;have:=Ŝ.mpr e;rw [yxc] at this;exact this
theorem ToD.len {P:List Pd} (w:PdW P) {x:Option Str} (t:ToD P x L):L.length <= P.length:=by
 have h:=Š (l:=L.map (·.1)) (m:=P.map (·.nm)) ?_ ?_
 .rw [cH,cH] at h;exact h
 .refine List.pairwise_iff_getElem.mpr fun i j d a p e=>?_;rw [cH] at d a;rw [eR,eR] at e;obtain ⟨r,b,c,f,_⟩:=t.at w d;obtain ⟨u,n,g1,g2,_⟩:=t.at w a;rw [c,g1] at e;have:=Î w.nd b n e;rw [this,g2] at f;have g:=congrArg List.length f;rw [dM,dM] at g;omega
 .intro y o;obtain ⟨z,k,rfl⟩:=di.mp o;obtain ⟨j,a,rfl⟩:=List.mem_iff_getElem.mp k;obtain ⟨r,b,c,_⟩:=t.at w a;rw [c];exact di.mpr ⟨r,b,rfl⟩
theorem Sto.pw {H:Hp} {C:Cf} {P:List Pd} {X:Sx} (h:Sto K a H st C P X):PdW P:=⟨h.nd,h.to⟩
structure Bs (B H:Hp) (X:Sx):Prop where
 s:yw B H
 n:∀ y,X.f y->B y=none
theorem Bs.same {B H H':Hp} {X:Sx} (h:Bs B H X) (S:yw H H'):Bs B H' X:=⟨h.s.trans S,h.n⟩
theorem Bs.go {B H H':Hp} {C:Cf} {P:List Pd} {X Y:Sx} (h:Bs B H X) (s:Sto K a H st C P X) (g:Gx X H H' Y):Bs B H' Y:=⟨(g.bs s h.s h.n).1,(g.bs s h.s h.n).2⟩
theorem yws {c k:Int} (k2:k=0\/k=1):∃ ts:List Int,(List.replicate k.toNat [V.int (c % 256)]).flatten=ts.map V.int/\Sgs ts/\ts.length <= 1:=by
 rcases k2 with rfl | rfl
 .exact ⟨[],rfl,(fun x a=>by cases a),dJ _⟩
 .exact ⟨[c % 256],rfl,(fun x a=>by rw [dB.mp a]; omega),dh _⟩
def mdK (tu:Str->Addr) (P:List Pd):List (Key × V):=P.map fun q=>(.inr q.nm,.ref (tu q.nm))
theorem yib (tu:Str->Addr):∀ {P:List Pd} {q:Pd},q∈P->uw (mdK tu P) (.inr q.nm)=some (.ref (tu q.nm))
 | r :: P,q,hq=>by
  unfold uw mdK;rw [d6];by_cases e:r.nm=q.nm
  .rw [List.find?_cons_of_pos (by simp [e]),<- e];rfl
  .rw [List.find?_cons_of_neg (by simpa using e)];rcases dA.mp hq with z | z
   .exact absurd (by rw [z]) e
   .exact yib tu z
theorem yus (tu:Str->Addr) {P:List Pd} {b:Str} (h:∀ q,q∈P->q.nm≠b):uw (mdK tu P) (.inr b)=none:=by
 unfold uw mdK;rw [List.find?_eq_none.mpr fun y a=>?_]
 .rfl
 .obtain ⟨q,c,e⟩:=di.mp a;rw [<- e];simpa using h q c
def DkF (H:Hp) (md:Addr) (kvs:List (Key × V)):Prop:=H md=some (.dK kvs)\/∃ o,H md=some (.frz o (.dK kvs))
theorem DkF.get {H:Hp} {md:Addr} {kvs:List (Key × V)} (h:DkF H md kvs) (b:Str):ĉ H md (.str b) (uw kvs (.inr b)):=.inl ⟨kvs,.inr b,h,rfl,rfl⟩
structure Mdl (H:Hp) (X:Sx) (md:Addr) (P:List Pd) (tu tx:Str->Addr):Prop where
 d:DkF H md (mdK tu P)
 n:¬ X.f md
 t:∀ q,q∈P->Kf H X (tu q.nm) (.tup [.ref (tx q.nm),baV q.bs])
 x:∀ q,q∈P->Kf H X (tx q.nm) (.lst (q.tx.map V.int))
def upS (g:Str->Addr) (b:Str) (x:Addr):Str->Addr:=fun s=>if s=b then x else g s
theorem yen {g:Str->Addr} {b:Str} {x:Addr}:upS g b x b=x:=if_pos rfl
theorem yd0 {g:Str->Addr} {b s:Str} {x:Addr} (h:s≠b):upS g b x s=g s:=if_neg h
theorem Ż (tu:Str->Addr):∀ {A B:List Pd},((A++B).map (·.nm)).Nodup->Í (mdK tu A) (mdK tu B)=mdK tu (A++B)
 | A,[],_=>by rw [eJ]; rfl
 | A,q :: B,h=>by
  have b:∀ r,r∈A->r.nm≠q.nm:=fun r a e=>by
   rw [dF,List.nodup_append] at h;exact h.2.2 _ (di.mpr ⟨r,a,rfl⟩) _ dS e
  have e:Ý (mdK tu A) (.inr q.nm) (.ref (tu q.nm))=mdK tu (A++[q]):=by
   rw [Û _ (yus tu b)];unfold mdK;rw [dF,List.map_singleton]
  have:=Ż tu (A:=A++[q]) (B:=B) (by rw [em]; exact h);rw [em] at this;show Í (Ý (mdK tu A) (.inr q.nm) (.ref (tu q.nm))) (mdK tu B)=_;rw [e];exact this
def lnV (tx:Str->Addr) (L:List (Str × List Int)):List V:=L.map fun y=>V.ref (tx y.1)
def lnA (tx:Str->Addr) (L:List (Str × List Int)) (i:Nat):Addr:=tx (L.getD i (⟨#[]⟩,[])).1
theorem yjg (tx:Str->Addr) (L:List (Str × List Int)):lnV tx L=refs (lnA tx L) L.length:=by
 refine List.ext_getElem? fun i=>?_;unfold lnV refs;rw [dm,dm];rcases Nat.lt_or_ge i L.length with h | h
 .rw [df h,ez h];unfold lnA;simp [dR,df h]
 .rw [dP h,dP (by rw [dL]; exact h)];rfl
theorem yda (L:List (Str × List Int)):∀ i,i <= L.length->Ċ (txi L) i=Þ ((L.map (·.2)).take i)
 | 0,_=>rfl
 | i+1,h=>by
  have a:i < (L.map (·.2)).length:=by rw [cH]; omega
  rw [ed a,ÿ,<- yda L i (by omega)];show _++dec (txi L i)=_;unfold txi;rw [dR,df a];rfl
theorem yfr (L:List (Str × List Int)):Ċ (txi L) L.length=Þ (L.map (·.2)):=by
 rw [yda L _ (dh _),ej (by rw [cH]; exact dh _)]
theorem yvy:yk ["self","looks"] ["self","looks"] (yg yqf):=w4 (by right)
inductive yaf (K:W.Frag) (a:Ads) (vs:List V) (H:Hp) (Q:VK) (E':XK):Prop
 | mk (c dc l:Addr) (n:Nat) (lk tp:Nat->Addr) (kd:Nat->Fin 3) (ps:Nat->List Int):(vs=[.ref c,.ref l])->(H c=some (.ins a.A1 dc []))->(H l=some (.lst (refs lk n)))->(1 <= n)->(n <= 6)->(xw H n lk kd tp ps)->(∀ (p ll tl:Addr) (W:Addr->Prop) (H':Hp),ο K a H' c dc p ll tl n kd ps [] [] 6 W->(∀ x,ChW ll tl W x->H x=none)->But c H H'->(∀ y xs H'',H y=some (.lst xs)->But y H' H''->ο K a H'' c dc p ll tl n kd ps [] [] 6 W)->Q .non H')->yaf K a vs H Q E'
theorem yeh (T:Txt K mg a):wc P w K mg base (CXe P w) 8 a.Gs a.Lg ["self","looks"] (yaf K a):=by
 exists T.Cy.F.okE,yvy,hr;obtain ⟨c,f,l,n,lk,tp,kd,ps,rfl,hc,hl,n1,n6,a1,k⟩:=h;refine yo (ve (pv 0) (x6 T.Qd (ylf T) (hr.mono (by decide)) rfl T.Qc T.Dq.B .nil yz (ya (pv 1) ye (yb rfl))) rfl) ?_;refine yo (ve (pv 0) (wq ye) rfl) ?_;refine ⟨_,(yf (ve (pv 0) (wq ye) rfl)),?_⟩;exists 2,0;rfl';intro p dp np Y a4;refine FZ.new np Y hl n1 n6 a1 fun W C S nW S1 X=>⟨rfl,?_⟩;have J:=S1 _ _ hc;rfl';have q:upd C c (HO.ins a.A1 f ([("foreteller",V.ref p)]:List (Str × V))) c=some (HO.ins a.A1 f ([("foreteller",V.ref p)]:List (Str × V))):=yc;have N:But c C (upd C c (HO.ins a.A1 f ([("foreteller",V.ref p)]:List (Str × V)))):=But.upd;generalize upd C c (HO.ins a.A1 f ([("foreteller",V.ref p)]:List (Str × V)))=HA at q N ⊢;refine ⟨by walk_at "len",fun i hll=>?_⟩
 with_reducible first | refine y6 hll fun HB SB eB=>?_ | refine vi hll fun HB SB eB=>?_
 have a5:=SB _ _ q;rfl';have u:upd HB c (HO.ins a.A1 f ([("foreteller",V.ref p),("links",V.ref i)]:List (Str × V))) c=some (HO.ins a.A1 f ([("foreteller",V.ref p),("links",V.ref i)]:List (Str × V))):=yc;have L:But c HB (upd HB c (HO.ins a.A1 f ([("foreteller",V.ref p),("links",V.ref i)]:List (Str × V)))):=But.upd;generalize upd HB c (HO.ins a.A1 f ([("foreteller",V.ref p),("links",V.ref i)]:List (Str × V)))=HC at u L ⊢;refine ⟨by walk_at "len",fun v htl=>?_⟩
 with_reducible first | refine y6 htl fun HD SD eD=>?_ | refine vi htl fun HD SD eD=>?_
 have a3:=SD _ _ u;rfl';have j:i≠c:=(yd q hll).symm;have g:v≠c:=(yd u htl).symm;have R:HC i=some (.lst []):=L _ _ eB j
 have D:∀ {x:Addr},x≠c->HA x=none->H x=none:=fun {x} d e=>by
  cases z:H x with
  | none=>rfl
  | some o=>rw [N _ _ (S1 _ _ z) d] at e; cases e
 have a0:∀ {x:Addr},x≠c->HC x=none->HA x=none:=fun {x} d e=>by
  cases z:HA x with
  | none=>rfl
  | some o=>rw [L _ _ (SB _ _ z) d] at e; cases e
 have t:But c C (upd HD c (HO.ins a.A1 f (zl (.ref p) (.ref i) (.ref v)))):=fun x o e d=>yi d (SD _ _ (L _ _ (SB _ _ (N _ _ e d)) d))
 have m:∀ x,W x->x≠c:=fun x w z=>by
  have e:=nW x w;rw [z,hc] at e;cases e
 have O:H i=none:=D j hll;have I:H v=none:=D g (a0 g htl)
 have G:¬ W i:=fun w=>by
  obtain ⟨o,e⟩:=S.live _ w;rw [N _ _ e j] at hll;cases hll
 have M:¬ W v:=fun w=>by
  obtain ⟨o,e⟩:=S.live _ w;rw [L _ _ (SB _ _ (N _ _ e g)) g] at htl;cases htl
 refine k p i v W (upd HD c (HO.ins a.A1 f (zl (.ref p) (.ref i) (.ref v)))) ⟨yc,?_,?_,?_,rfl,fun w=>m c w rfl,G,M,yd R htl⟩ (fun x w=>?_) (fun x o e d=>t x o (S1 _ _ e) d) (fun y xs H2 r b=>?_)
 .exact S.frame (W2:=fun x=>x=c) (fun x z=>⟨.ins a.A1 f [],by rw [show x=c from z]; exact J,.inl rfl⟩) (fun x w z=>m x w z) (fun x o e d=>t x o e d)
 .exact yi j (SD _ _ R)
 .exact yi g eD
 .rcases w with z | z | z
  .rw [z]; exact O
  .rw [z]; exact I
  .exact nW x z
 .have Z:c≠y:=fun z=>by rw [<- z,hc] at r; cases r
  have bG:But y C (upd H2 c (.ins a.A1 f [])):=fun x o e d=>by
   by_cases z:x=c
   .rw [z,yc]; rw [z,J] at e; exact e
   .exact yi z (b _ _ (t x o e z) d)
  refine ⟨b _ _ yc Z,(X y xs _ r bG).frame (W2:=fun x=>x=c) (fun x z=>⟨.ins a.A1 f [],by rw [show x=c from z]; exact yc,.inl rfl⟩) (fun x w z=>m x w z) (fun x o e d=>by rw [yn d] at e; exact e),b _ _ (yi j (SD _ _ R)) (fun z=>by rw [<- z,O] at r; cases r),b _ _ (yi g eD) (fun z=>by rw [<- z,I] at r; cases r),rfl,fun w=>m c w rfl,G,M,yd R htl⟩
theorem yw0:yk ["self","name","text"] ["self","name","text"] (yg yp7):=w4 (by right)
inductive ycx (a:Ads) (vs:List V) (H:Hp) (Q:VK) (E':XK):Prop
 | mk (c dc:Addr) (vf:V) (ll tl:Addr) (x y:V) (xs ys:List V):(vs=[.ref c,x,y])->(H c=some (.ins a.A1 dc (zl vf (.ref ll) (.ref tl))))->(H ll=some (.lst xs))->(H tl=some (.lst ys))->(ll≠tl)->(xs.length <= 10000)->(ys.length <= 10000)->(Q .non (upd (upd H ll (.lst (xs++[x]))) tl (.lst (ys++[y]))))->ycx a vs H Q E'
theorem yk4 (T:Txt K mg a):wc P w K mg base CX0 1 a.Lh a.Li ["self","name","text"] (ycx a):=by
 exists T.Dz.F.ok,yw0,u;obtain ⟨c,n,m,d,i,x,y,j,l,rfl,f,g,r,q,v,B,k⟩:=h;refine ⟨_,(yh (yu (Ä PySem.F.plainAttrs_list PySem.F.slot_list_append PySem.F.type_list_append w9 (yp (pv 0) rfl) (ya (pv 1) ye (yb rfl)))) (yf (yu (Ä PySem.F.plainAttrs_list PySem.F.slot_list_append PySem.F.type_list_append w9 (yp (pv 0) rfl) (ya (pv 2) ye (yb rfl)))))),?_⟩;exists 3,0;rfl';refine z8 g ?_;rfl';refine ub g (vo (by omega)) ?_;have t:(upd H d (.lst (j++[x]))) c=some (.ins a.A1 n (zl m (.ref d) (.ref i))):=by rw [yn (fun z=>by rw [z,g] at f; cases f)]; exact f
 rfl';have b:(upd H d (.lst (j++[x]))) i=some (.lst l):=by rw [yn q.symm]; exact r
 refine z8 b ?_;rfl';refine ub b (vo (by omega)) ?_;rfl';exact k
theorem ο.grow {H H1:Hp} {c p ll:Addr} {n:Nat} {kd:Nat->Fin 3} {ps:Nat->List Int} {ks:List V} {M M':Nat} {W:Addr->Prop} (h:ο K a H c dc p ll tl n kd ps L ks M W) {nm:Str} {t:List Int} {k:V} (hf:FZ K a H1 p n kd ps (Þ (L.map (·.2))++dec t) M' W') (g:Go W H H1 W') (hk:k=.non\/∃ q,k=.ref q/\H1 q=some (.lst (t.map V.int))/\¬ ChW ll tl W' q) :
  ο K a (upd (upd H1 ll (.lst (nmL L++[V.str nm]))) tl (.lst (ks++[k]))) c dc p ll tl n kd ps (L++[(nm,t)]) (ks++[k]) M' W'/\Go (ChW ll tl W) H (upd (upd H1 ll (.lst (nmL L++[V.str nm]))) tl (.lst (ks++[k]))) (ChW ll tl W'):=by
 have v:=g.fr _ _ h.hl h.nll;have r:=g.fr _ _ h.ht h.ntl;have A:=g.fr _ _ h.me h.nc;have i:∀ {x:Addr} {o:HO},H x=some o->¬ W x->¬ W' x:=fun {x o} e d w=>(g.nw x w).elim d fun z=>by rw [e] at z; cases z
 have C:=i h.hl h.nll;have D:=i h.ht h.ntl
 have f:∀ x o,H1 x=some o->¬ (x=ll\/x=tl)->(upd (upd H1 ll (.lst (nmL L++[V.str nm]))) tl (.lst (ks++[k]))) x=some o:=fun x o e d=>by
  rw [yn (fun z=>d (.inr z)),yn (fun z=>d (.inl z))]; exact e
 have j:c≠ll:=fun z=>by have e:=h.me; rw [z,h.hl] at e; cases e
 have m:c≠tl:=fun z=>by have e:=h.me; rw [z,h.ht] at e; cases e
 refine ⟨⟨f _ _ A fun z=>z.elim j m,?_,?_,yc,?_,i h.me h.nc,C,D,h.ne⟩,⟨fun x o e d=>?_,fun x w=>?_,fun x o e=>?_⟩⟩
 .have G:Þ ((L++[(nm,t)]).map (·.2))=Þ (L.map (·.2))++dec t:=by rw [dF]; exact ÿ _ _
  rw [G];refine hf.frame (W2:=fun x=>x=ll\/x=tl) (fun x w=>?_) (fun x w z=>?_) fun x o e d=>f x o e d
  .rcases w with z | z
   .refine ⟨_,by rw [show x=ll from z]; exact v,.inr ⟨_,rfl,fun y s=>?_⟩⟩;obtain ⟨u,_,e⟩:=di.mp s;exact .inl ⟨u.1,e.symm⟩
   .refine ⟨_,by rw [show x=tl from z]; exact r,.inr ⟨_,rfl,fun y s=>.inr ?_⟩⟩;exact (h.tx.mem y s).imp id fun ⟨q,E,e,l,b⟩=>⟨q,e,.inl ⟨E,g.fr q _ l fun w=>b (.inr (.inr w))⟩⟩
  .rcases z with z | z
   .rw [z] at w; exact C w
   .rw [z] at w; exact D w
 .rw [yn h.ne,yc];unfold nmL;rw [dF];rfl
 .refine ybc.snoc ?_ (h.tx.mono fun q I e b=>⟨f q _ (g.fr q _ e fun w=>b (.inr (.inr w))) fun z=>b (z.imp id .inl),fun w=>?_⟩)
  .refine hk.imp id fun ⟨q,e,l,b⟩=>⟨q,e,f q _ l fun z=>b (z.imp id .inl),b⟩
  .rcases w with w | w | w
   .exact b (.inl w)
   .exact b (.inr (.inl w))
   .exact i e (fun w=>b (.inr (.inr w))) w
 .exact f x o (g.fr x o e fun w=>d (.inr (.inr w))) fun z=>d (z.imp id .inl)
 .rcases w with w | w | w
  .exact .inl (.inl w)
  .exact .inl (.inr (.inl w))
  .exact (g.nw x w).imp (fun w=>.inr (.inr w)) id
 .obtain ⟨B,F⟩:=g.lv x o e;by_cases z2:x=tl
  .exact ⟨_,by rw [z2]; exact yc⟩
  .by_cases z1:x=ll
   .exact ⟨_,by rw [z1,yn h.ne]; exact yc⟩
   .exact ⟨B,f x B F fun z=>z.elim z1 z2⟩
theorem yll:yk ["self","name","text","data"] ["self","name","text"] (yg yra):=w4 (by right)
inductive ħ (K:W.Frag) (a:Ads) (vs:List V) (H:Hp) (Q:VK) (E':XK):Prop
 | mk (c dc p ll tl:Addr) (n:Nat) (kd:Nat->Fin 3) (ps:Nat->List Int) (L:List (Str × List Int)) (ks:List V) (M:Nat) (W:Addr->Prop) (tx:Addr) (nm:Str) (ts:List Int):(vs=[.ref c,.str nm,.ref tx])->(ο K a H c dc p ll tl n kd ps L ks M W)->(L.length <= 1000)->(Ã H tx ts 1000)->(¬ W tx)->(M+6 * (dec ts).length+20 < 1000000)->(∀ (r:Addr) (W':Addr->Prop) (H':Hp),H r=none->H' r=some (.lst ((Ï n kd ps (Þ (L.map (·.2))) ts).map V.int))->ο K a H' c dc p ll tl n kd ps (L++[(nm,ts)]) (ks++[.non]) (M+6 * (dec ts).length) W'->Go (ChW ll tl W) H H' (ChW ll tl W')->Q (.ref r) H')->ħ K a vs H Q E'
theorem ytr (T:Txt K mg a):wc P w K mg base CX0 8 a.Lj a.Lk ["self","name","text"] (ħ K a):=by
 exists T.Hm.F.ok,yll,x;obtain ⟨c,v,p,u,y,n,X,I,L,G,M,W,J,nm,N,rfl,b,Z,o,t,Y,k⟩:=h;have S:=b.me;have O:=b.tx.len;refine ⟨_,(yh (y7 (i:=3) yll.nd rfl (Or.inl rfl) (vd (ylu T) (x.mono (by decide)) rfl T.Cv.m T.Cv.F.kp T.Cv.B .nil vh (ya (yp (pv 0) rfl) (ya (pv 2) ye (yb rfl)) (yb rfl)))) (yh (yu (xr (pv 0) T.Al T.Dz.m (yk4 T) (x.mono (by decide)) T.Dz.B .nil vh (ya (pv 1) (ya zn ye (yb rfl)) (yb rfl)))) (yf (yv (pv 3))))),?_⟩;exists 3,1;rfl';refine b.fz.press o t Y fun r D H1 d l C g=>?_;have f:=g.fr _ _ b.hl b.nll;have e:=g.fr _ _ b.ht b.ntl;have q:=g.fr _ _ b.me b.nc;rfl';refine ⟨c,v,_,u,y,_,_,_,_,rfl,q,f,e,b.ne,by unfold nmL; rw [cH]; omega,by omega,?_⟩;obtain ⟨z,g2⟩:=b.grow (nm:=nm) C g (.inl rfl);rfl';refine k r D _ d ?_ z g2;rw [yn (yd b.ht d).symm,yn (yd b.hl d).symm];exact l
theorem ym1:yk ["self","name","data","most","first"] ["self","name","data","most"] (yg yr1):=w4 (by right)
inductive yar (K:W.Frag) (a:Ads) (vs:List V) (H:Hp) (Q:VK) (E':XK):Prop
 | mk (c dc p ll tl:Addr) (n:Nat) (kd:Nat->Fin 3) (ps:Nat->List Int) (L:List (Str × List Int)) (ks:List V) (M:Nat) (W:Addr->Prop) (dt:Addr) (nm:Str) (ts bs:List Int) (mo:Nat):(vs=[.ref c,.str nm,.ref dt,.int mo])->(ο K a H c dc p ll tl n kd ps L ks M W)->(L.length <= 1000)->(Sgs ts)->(H dt=some (.lst ((Ï n kd ps (Þ (L.map (·.2))) ts++bs).map V.int)))->(¬ W dt)->(Byt bs)->((Ï n kd ps (Þ (L.map (·.2))) ts++bs).length <= 12000)->(ts.length <= mo)->(mo <= 1000)->(M+54 * mo+200 < 1000000)->(∀ (q:Addr) (W':Addr->Prop) (H':Hp),H q=none->ο K a H' c dc p ll tl n kd ps (L++[(nm,ts)]) (ks++[.ref q]) (M+6 * (dec ts).length) W'->Go (ChW ll tl W) H H' (ChW ll tl W')->Q (.int ((Ï n kd ps (Þ (L.map (·.2))) ts).length:Nat)) H')->yar K a vs H Q E'
theorem yuj (T:Txt K mg a):wc P w K mg base (CXe P w) 11 a.Ll a.Lm ["self","name","data","most"] (yar K a):=by
 exists T.Hn.F.okE,ym1,Z;obtain ⟨c,X,p,f,j,n,Y,S,L,R,M,W,dt,nm,U,bs,mo,rfl,b,hz,u,l,C,D,J,G,N,hM,k⟩:=h;have a2:=b.me;have a0:=b.tx.len;refine ⟨_,(yh (y7 (i:=4) ym1.nd rfl (Or.inl rfl) (vj (ywi T) (Z.mono (by decide)) rfl T.Fg.m T.Fg.F.kp T.Fg.B .nil yz (ya (yp (pv 0) rfl) (ya (pv 2) (ya (pv 3) ye (yb rfl)) (yb rfl)) (yb rfl)))) (yh (yu (xr (pv 0) T.Al T.Dz.m (yk4 T) (Z.mono (by decide)) T.Dz.B .nil vh (ya (pv 1) (ya (xf ug (pv 4) yj (fun _ _=>rfl)) ye (yb rfl)) (yb rfl)))) (yf (yv (xf ug (pv 4) yj (fun _ _=>rfl)))))),?_⟩;exists 4,1;rfl';refine b.fz.read (ò _) u l C D J G N hM fun t q O H1 e d ht hq hf g nq=>?_;have x:=g.fr _ _ b.hl b.nll;have v:=g.fr _ _ b.ht b.ntl;have I:=g.fr _ _ b.me b.nc;rfl';refine ⟨t,_,0,_,rfl,rfl,SqT.of ht,rfl,?_⟩;rfl';refine ⟨c,X,_,f,j,_,_,_,_,rfl,I,x,v,b.ne,by unfold nmL; rw [cH]; omega,by omega,?_⟩
 have o:¬ ChW f j O q:=fun w=>by
  rcases w with w | w | w
  .exact yd b.hl d w.symm
  .exact yd b.ht d w.symm
  .exact nq w
 obtain ⟨z,g2⟩:=b.grow (nm:=nm) hf g (.inr ⟨q,rfl,hq,o⟩)
 have r:(upd (upd H1 f (.lst (nmL L++[V.str nm]))) j (.lst (R++[V.ref q]))) t=some (.tup [.ref q,.int ((Ï n Y S (Þ (L.map (·.2))) U).length:Nat)]):=by
  rw [yn (yd b.ht e).symm,yn (yd b.hl e).symm];exact ht
 rfl';refine ⟨t,_,1,_,rfl,rfl,SqT.of r,rfl,?_⟩;exact k q O _ d z g2
theorem ywr:yk ["thing"] ["thing"] (yg ypy):=w4 (by right)
inductive yah (K:W.Frag) (vs:List V) (H:Hp) (Q:VK) (E':XK):Prop
 | mk (x n:_):(vs=[x])->(xx K H x (.type n))->((∀ s,x=.str s->s.length <= 100000))->(∀ H',yw H H'->Q (.bl (nmV x)) H')->yah K vs H Q E'
theorem yut (T:Txt K mg a):wc P w K mg base CX0 1 a.Ln a.Lo ["thing"] (yah K):=by
 exists T.Fh.F.ok,ywr,u;obtain ⟨x,n,rfl,b,d,k⟩:=h;refine ⟨_,(yf (yv (uv (yq wv rfl T.A6 (by right) (ya (pv 0) (ya (zq (T:="str") rfl T.N7 (by right)) ye (yb rfl)) (yb rfl))) (uv (η u6 u6 yj (yq ű rfl T.Ae (by right) (ya (pv 0) ye (yb rfl))) (vq rfl T.Ec)) (ν (yq (z5 rfl) rfl T.Di (by right) (ya (wg (js:=[]) (ys:=[]) rfl (ytj (pv 0)) (fun C t r v=>(jq ygg (pv 0) (ynw rfl T.Nj) (by with_unfolding_all rfl))) rfl rfl (hyc:=yx) (hrel:=yx)) ye (yb rfl)))))))),?_⟩;exists 1,0;rfl';refine Ð b (yc7 b) ?_;rfl';by_cases hn:n="str"
 .obtain ⟨s',rfl⟩:∃ s',x=.str s':=by
   cases b with
   | str s'=>exact ⟨s',rfl⟩
   | _=>exact absurd hn (by decide)
  have d:=d s' rfl;rw [dw hn];refine ĵ ?_;rfl';refine ⟨s',rfl,dZ d (by decide),?_⟩;refine ⟨1,(s'.length:Int),rfl,rfl,_,rfl,?_⟩;by_cases h1:(1:Int) <= (s'.length:Int)
  .refine Ţ h1 ?_;refine ⟨(s'.length:Int),8,rfl,rfl,_,rfl,?_⟩;by_cases h8:(s'.length:Int) <= 8
   .refine Ţ h8 ?_;rfl';refine ⟨s',rfl,fun D j=>?_⟩;refine yfw (fun i=>.bl (ynd (s'.cps.toList.getD i 0))) j (fun i c G o l S g=>?_) (fun G S g=>?_)
    .rfl';refine ⟨_,_,rfl,rfl,?_⟩;refine Mp.doneR j (Nat.lt_of_le_of_lt (show s'.cps.size <= 100000 from d) (by decide)) l S g ?_
     have q:s'.cps.toList.getD i 0=c:=by
      rw [dR,Array.getElem?_toList,o]; rfl
     rw [q];unfold ynd;rfl
    .rfl';refine ⟨D,s'.cps.toList.map ynd,rfl,?_,?_⟩
     .refine SqL.of (g.trans ?_);rw [yoj]
     .have e:=yvn h1 h8;rw [<- e];exact k _ S
   .have e:=ysh h8;rw [e] at k;exact ycm h8 (k _ (yw.refl _))
  .have e:=yth h1;rw [e] at k;refine ycm h1 ?_;exact ⟨_,rfl,Ę (k _ (yw.refl _))⟩
 .have e:nmV x=false:=by
   cases b with
   | str s'=>exact absurd rfl hn
   | _=>rfl
  rw [dG hn];rw [e] at k;exact Ę (k _ (yw.refl _))
theorem ywv:yk ["thing"] ["thing"] (yg yqg):=w4 (by right)
inductive yc6 (K:W.Frag) (C:Addr) (vs:List V) (H:Hp) (Q:VK) (E:XK):Prop
 | mk (x n:_):(vs=[x])->(xx K H x (.type n))->((∀ s,x=.str s->s.length <= 100000))->((nmV x=true->∀ H',yw H H'->Q x H'))->((nmV x=false->∀ H',yw H H'->E (.ref C) none H'))->yc6 K C vs H Q E
theorem yh4 (T:Txt K mg a):wc P w K mg base (CXe P w) 2 a.Lp a.Lq ["thing"] (yc6 K a.Ad):=by
 exists T.C7.F.okE,ywv,f;obtain ⟨x,n,rfl,g,i,j,k⟩:=h;refine ⟨_,(yh (wu (x3 (x8 (vd (yut T) (f.mono (by decide)) rfl T.Fh.m T.Fh.F.kp T.Fh.B .nil vh (ya (pv 0) ye (yb rfl))))) (yf (xb rfl T.Nx T.E8 (ya w6 ye (yb rfl)))) y9) (yf (yv (pv 0)))),?_⟩;exists 1,0;rfl';refine ⟨x,n,rfl,g,i,fun l c=>?_⟩;rfl'
 cases hx:nmV x with
 | false =>
  rfl';exact ⟨by walk_at "len",k hx _ c⟩
 | true =>
  rfl';exact j hx _ c
theorem ywd:yk ["thing"] ["thing"] (yg yp4):=w4 (by right)
inductive ydw (K:W.Frag) (C:Addr) (vs:List V) (H:Hp) (Q:VK) (E:XK):Prop
 | mk (x n:_):(vs=[x])->(xx K H x (.type n))->((∀ s,x=.str s->s.length <= 100000))->(((x=.non\/nmV x=true)->∀ H',yw H H'->Q .non H'))->((x≠.non->nmV x=false->∀ H',yw H H'->E (.ref C) none H'))->ydw K C vs H Q E
theorem yv6 (T:Txt K mg a):wc P w K mg base (CXe P w) 3 a.Lr a.Ls ["thing"] (ydw K a.Ad):=by
 exists T.Fi.F.okE,ywd,j;obtain ⟨x,n,rfl,k,l,e,o⟩:=h;refine ⟨_,(yf (wu (yy Ş (pv 0) zn (vg _)) (yf (yu (vj (yh4 T) (j.mono (by decide)) rfl T.C7.m T.C7.F.kp T.C7.B .nil yz (ya (pv 0) ye (yb rfl))))) y9)),?_⟩;exists 1,0;rfl';by_cases hx:x=.non
 .subst hx;rfl';exact e (.inl rfl) _ (yw.refl _)
 .rfl';rw [dG hx];refine ĵ ?_;rfl';refine ⟨x,n,rfl,k,l,fun d f c=>?_,fun d f c=>o hx d f c⟩;rfl';exact e (.inr d) _ c
theorem ytc:yk ["self","base","data"] ["self","base","data"] (yg yrf):=w4 (by right)
inductive ydd (a:Ads) (vs:List V) (H:Hp) (Q:VK) (E':XK):Prop
 | mk (p dp:Addr) (x y:V):(vs=[.ref p,x,y])->(H p=some (.ins a.A7 dp []))->(∀ H',H' p=some (.ins a.A7 dp (ă x y))->But p H H'->Q .non H')->ydd a vs H Q E'
theorem yu8 (T:Txt K mg a):wc P w K mg base CX0 1 a.Gt a.Lt ["self","base","data"] (ydd a):=by
 exists T.Fj.F.ok,ytc,i;obtain ⟨p,b,x,y,rfl,j,k⟩:=h;refine ⟨_,(yh (ve (pv 0) (pv 1) rfl) (yf (ve (pv 0) (pv 2) rfl))),?_⟩;exists 3,0;rfl';have d:upd H p (HO.ins a.A7 b ([("base",x)]:List (Str × V))) p=some (HO.ins a.A7 b ([("base",x)]:List (Str × V))):=yc;have e:But p H (upd H p (HO.ins a.A7 b ([("base",x)]:List (Str × V)))):=But.upd;generalize upd H p (HO.ins a.A7 b ([("base",x)]:List (Str × V)))=l at d e ⊢;rfl';exact k _ yc (e.trans But.upd)
theorem yv0:yk ["self","looks","most"] ["self","looks","most"] (yg yff):=w4 (by right)
inductive ó (K:W.Frag) (a:Ads) (vs:List V) (H:Hp) (Q:VK) (E':XK):Prop
 | mk (p ds l:Addr) (mo w:Nat) (n:Nat) (lk tp:Nat->Addr) (kd:Nat->Fin 3) (ps:Nat->List Int):(vs=[.ref p,.ref l,.int mo])->(H p=some (.ins a.A0 ds []))->(H l=some (.lst (refs lk n)))->(1 <= n)->(n <= 6)->(xw H n lk kd tp ps)->(mo <= 1000)->(w <= mo)->(w <= 200)->(∀ (ll d c dc q cl ct:Addr) (U:Addr->Prop) (H':Hp),zb K a H' p ds ll d c dc q cl ct lk tp n kd ps mo w [] [] [] U->(∀ x,StW c cl ct U x->H x=none)->H ll=none->H d=none->But p H H'->(∀ y xs H'',H y=some (.lst xs)->But y H' H''->zb K a H'' p ds ll d c dc q cl ct lk tp n kd ps mo w [] [] [] U)->Q .non H')->ó K a vs H Q E'
theorem yh8 (T:Txt K mg a):wc P w K mg base (CXe P w) 10 a.De a.Lu ["self","looks","most"] (ó K a):=by
 exists T.Q7.okE,yv0,hr;obtain ⟨p,j,l,v,w,n,lk,tp,kd,ps,rfl,S,hl,M,n6,W,a1,a6,a8,k⟩:=h;refine yo (ve (pv 0) (vj (ymh T) (hr.mono (by decide)) rfl T.Cr.m T.Cr.F.kp T.Cr.B .nil yz (ya (pv 1) ye (yb rfl))) rfl) ?_;refine yo (yu (vj (yyp T) (hr.mono (by decide)) rfl T.Nf.m T.Nf.F.kp T.Nf.B .nil yz (ya (pv 2) ye (yb rfl)))) ?_;refine yo (ve (pv 0) (pv 2) rfl) ?_;refine yo (ve (pv 0) ykj rfl) ?_;refine ⟨_,(yf (ve (pv 0) (x6 T.Dm (yeh T) (hr.mono (by decide)) rfl T.Dl T.Cy.B .nil yz (ya (yp (pv 0) rfl) ye (yb rfl))) rfl)),?_⟩;exists 3,0;rfl';refine .inr ⟨l,refs lk n,List.replicate (refs lk n).length true,rfl,hl,by rw [vz]; omega,W.lks.bs,fun _ g H1 C a9 u=>?_,fun no=>absurd ⟨by rw [vz]; exact M,by rw [vz]; exact n6,yhp _⟩ no⟩;have am:=u _ _ S;rfl';have ae:upd H1 p (HO.ins a.A0 j ([("looks",V.ref g)]:List (Str × V))) p=some (HO.ins a.A0 j ([("looks",V.ref g)]:List (Str × V))):=yc;have BA:But p H1 (upd H1 p (HO.ins a.A0 j ([("looks",V.ref g)]:List (Str × V)))):=But.upd;generalize upd H1 p (HO.ins a.A0 j ([("looks",V.ref g)]:List (Str × V)))=HA at ae BA ⊢;refine ⟨.int v,"int",rfl,.int _,fun _=>?_,fun z=>by rw [yux a1] at z; cases z⟩;rfl';have Z:upd HA p (HO.ins a.A0 j ([("looks",V.ref g),("most",V.int v)]:List (Str × V))) p=some (HO.ins a.A0 j ([("looks",V.ref g),("most",V.int v)]:List (Str × V))):=yc;have BB:But p HA (upd HA p (HO.ins a.A0 j ([("looks",V.ref g),("most",V.int v)]:List (Str × V)))):=But.upd;generalize upd HA p (HO.ins a.A0 j ([("looks",V.ref g),("most",V.int v)]:List (Str × V)))=HB at Z BB ⊢;intro d hd0
 with_reducible first | refine y6 hd0 fun HC SC eC=>?_ | refine vi hd0 fun HC SC eC=>?_
 have aj:=SC _ _ Z;rfl';have r:upd HC p (HO.ins a.A0 j ([("looks",V.ref g),("most",V.int v),("pieces",V.ref d)]:List (Str × V))) p=some (HO.ins a.A0 j ([("looks",V.ref g),("most",V.int v),("pieces",V.ref d)]:List (Str × V))):=yc;have BD:But p HC (upd HC p (HO.ins a.A0 j ([("looks",V.ref g),("most",V.int v),("pieces",V.ref d)]:List (Str × V)))):=But.upd;generalize upd HC p (HO.ins a.A0 j ([("looks",V.ref g),("most",V.int v),("pieces",V.ref d)]:List (Str × V)))=Y at r BD ⊢;have L:∀ x o,H1 x=some o->x≠p->Y x=some o:=fun x o e t=>BD _ _ (SC _ _ (BB _ _ (BA _ _ e t) t)) t
 have K0:∀ x,x≠p->Y x=none->H x=none:=fun x t e=>by
  cases z:H x with
  | none=>rfl
  | some o=>rw [L _ _ (u _ _ z) t] at e; cases e
 have a2:g≠p:=(yd S C).symm;have G:d≠p:=(yd Z hd0).symm;have D:=L _ _ a9 a2;have X:Y d=some (.dK []):=BD _ _ eC G
 have ah:xw Y n lk kd tp ps:=fun i hi=>by
  obtain ⟨q,e,R,O,h3⟩:=W i hi;exact ⟨q,e,L _ _ (u _ _ R) (xh R S (by intro z; cases z)),L _ _ (u _ _ O) (xh O S (by intro z; cases z)),h3⟩
 refine ⟨p,_,j,_,_,rfl,r,T.A2,T.Am,rfl,?_⟩;rfl';intro c dc nc ad ak;have SQ:yw Y (upd (upd Y dc (.own c)) c (.ins a.A1 dc [])):=fun b o e=>by rw [yn (yd e nc),yn (yd e ad)]; exact e
 refine ⟨c,dc,g,n,lk,tp,kd,ps,rfl,yc,SQ _ _ D,M,n6,ah.same SQ,fun q cl ct U HE aa a5 BE ac=>⟨rfl,?_⟩⟩;have I:yw Y HE:=fun b o e=>BE _ _ (SQ _ _ e) (yd e nc);have a3:=I _ _ r
 have N:∀ x,StW c cl ct U x->Y x=none:=fun x w=>by
  rcases w with z | z
  .rw [z]; exact nc
  .exact SQ.free (a5 x z)
 have a0:¬ StW c cl ct U p:=fun w=>by have e:=N _ w; rw [r] at e; cases e
 have a7:H d=none:=by
  cases z:H d with
  | none=>rfl
  | some o=>rw [BB _ _ (BA _ _ (u _ _ z) G) G] at hd0; cases hd0
 rfl';refine k g d c dc q cl ct U _ ⟨yc,M,n6,yi a2 (I _ _ D),fun i hi=>?_,⟨yi G (I _ _ X),fun q f=>(by cases f),List.nodup_nil,fun q f=>(by cases f),fun q f=>(by cases f),dJ _,fun q f=>(by cases f)⟩,aa.but a3 a0 But.upd,fun x hx w=>?_,a1,⟨a6,a8⟩,⟨none,rfl⟩⟩ (fun x w=>?_) C ?_ (fun x o e t=>yi t (I _ _ (L _ _ (u _ _ e) t))) (fun y xs H2 J b=>?_)
 .obtain ⟨q,e,R,O,h3⟩:=W i hi;have M:=xh R S (by intro z; cases z);have n2:=xh O S (by intro z; cases z);exact ⟨q,e,yi M (I _ _ (L _ _ (u _ _ R) M)),yi n2 (I _ _ (L _ _ (u _ _ O) n2)),h3⟩
 .have e:=N _ w;rcases hx with z | z | z | ⟨q,f,_⟩
  .rw [z,r] at e; cases e
  .rw [z,D] at e; cases e
  .rw [z,X] at e; cases e
  .cases f
 .exact K0 x (fun z=>a0 (z ▸ w)) (N x w)
 .exact a7
 .have a4:p≠y:=fun z=>by rw [<- z,S] at J; cases J
  have ag:=SQ _ _ (L _ _ (u _ _ J) a4.symm)
  have bG:But y HE (upd H2 p (HO.ins a.A0 j ([("looks",V.ref g),("most",V.int v),("pieces",V.ref d)]:List (Str × V)))):=fun x o e t=>by
   by_cases z:x=p
   .rw [z,yc]; rw [z,a3] at e; exact e
   .exact yi z (b _ _ (yi z e) t)
  have af:=ac y xs _ ag bG;have ai:=u _ _ J;refine ⟨b _ _ yc a4,M,n6,b _ _ (yi a2 (I _ _ D)) (fun z=>by rw [<- z,C] at J; cases J),fun i hi=>?_,⟨b _ _ (yi G (I _ _ X)) (fun z=>by rw [<- z,a7] at J; cases J),fun q f=>(by cases f),List.nodup_nil,fun q f=>(by cases f),fun q f=>(by cases f),dJ _,fun q f=>(by cases f)⟩,af.but yc a0 (fun x o e t=>by rw [yn t] at e; exact e),fun x hx w=>?_,a1,⟨a6,a8⟩,⟨none,rfl⟩⟩
  .obtain ⟨q,e,R,O,h3⟩:=W i hi;have M:=xh R S (by intro z; cases z);have n2:=xh O S (by intro z; cases z);exact ⟨q,e,b _ _ (yi M (I _ _ (L _ _ (u _ _ R) M))) (xh R J (by intro z; cases z)),b _ _ (yi n2 (I _ _ (L _ _ (u _ _ O) n2))) (xh O J (by intro z; cases z)),h3⟩
  .have e:=N _ w;rcases hx with z | z | z | ⟨q,f,_⟩
   .rw [z,r] at e; cases e
   .rw [z,D] at e; cases e
   .rw [z,X] at e; cases e
   .cases f
theorem Sto.new {H:Hp} {l:Addr} {mo w n:Nat} {lk:Nat->Addr} {kd:Nat->Fin 3} {ps:Nat->List Int} {Q:VK} {E:XK} (hst0:H st=none) (hds0:H ds=none) (hlo:H l=some (.lst (refs lk n))) (n1:1 <= n) (n6:n <= 6) (hR:xw H n lk kd tp ps) (m1:mo <= 1000) (wm:w <= mo) (w2:w <= 200)
  (k:∀ X H',Sto K a H' st ⟨n,kd,ps,mo,w⟩ [] X->yw H H'->(∀ y,X.f y->H y=none)->(∀ y xs H'',H y=some (.lst xs)->But y H' H''->Sto K a H'' st ⟨n,kd,ps,mo,w⟩ [] X)->Q .non H'):ó K a [.ref st,.ref l,.int mo] (upd (upd H ds (.own st)) st (.ins a.A0 ds [])) Q E:=by
 have g:yw H (upd (upd H ds (.own st)) st (.ins a.A0 ds [])):=fun b o e=>by rw [yn (yd e hst0),yn (yd e hds0)]; exact e
 refine ⟨st,ds,l,mo,w,n,lk,tp,kd,ps,rfl,yc,g _ _ hlo,n1,n6,hR.same g,m1,wm,w2,fun u d c x p t v U C i m h r B j=>k _ C ⟨ds,u,d,c,x,p,t,v,lk,tp,[],[],[],U,i,rfl,rfl⟩ (fun y o e=>B _ _ (g _ _ e) (yd e hst0)) (fun y s=>?_) fun y xs A s b=>⟨ds,u,d,c,x,p,t,v,lk,tp,[],[],[],U,j y xs A (g _ _ s) b,rfl,rfl⟩⟩;rcases s with (z | z | z) | z | ⟨q,hq,_⟩ | z
 .rw [z]; exact g.free r
 .rw [z]; exact hst0
 .exact g.free (m y z)
 .rw [z]; exact g.free h
 .cases hq
 .cases z
theorem yvp:yk ["self"] ["self"] (yg yru):=w4 (by right)
inductive Œ (a:Ads) (vs:List V) (H:Hp) (Q:VK) (E':XK):Prop
 | mk (st ds d:Addr) (vl vm vc:V) (P:List Pc):(vs=[.ref st])->(H st=some (.ins a.A0 ds (xi vl vm (.ref d) vc)))->(H d=some (.dK (pcs P)))->(P.length <= 60)->(∀ l H',H l=none->H' l=some (.lst (P.map fun q=>V.str q.nm))->yw H H'->Q (.ref l) H')->Œ a vs H Q E'
theorem yei (T:Txt K mg a):wc P w K mg base CX0 1 a.Lx a.Ly ["self"] (Œ a):=by
 exists T.Ce.F.ok,yvp,u;obtain ⟨i,r,d,m,o,t,P,rfl,f,g,v,k⟩:=h;refine ⟨_,(yf (yv (xn (ye1 rfl) rfl T.Ao (by right) (ya (yp (pv 0) rfl) ye (yb rfl))))),?_⟩;exists 1,0;rfl';refine ⟨d,_,rfl,g,fun l b=>?_⟩;have e:(pcs P).map (fun p=>kV p.1)=P.map fun q=>V.str q.nm:=by unfold pcs; rw [dX]; rfl
 rw [e];exact k l _ b yc (y8 b)
theorem Sto.names {H:Hp} {C:Cf} {P:List Pd} {X:Sx} {Q:VK} {E:XK} (h:Sto K a H st C P X) (k:∀ l H',H l=none->H' l=some (.lst (P.map fun q=>V.str q.nm))->yw H H'->Q (.ref l) H'):Œ a [.ref st] H Q E:=by
 obtain ⟨f,n,d,c,r,p,j,o,i,t,e,L,m,U,s,rfl,rfl⟩:=h;refine ⟨st,f,d,_,_,_,e,rfl,s.me,s.pz.dk,s.pz.z,fun l H' b g S=>k l H' b ?_ S⟩;rw [dX];exact g
theorem yw8:yk ["self","text"] ["self","text"] (yg yp5):=w4 (by right)
inductive yhc (a:Ads) (vs:List V) (H:Hp) (Q:VK) (E:XK):Prop
 | mk (st ds tx:Addr) (vl vp vc:V) (mo:Int) (xs:List V):(vs=[.ref st,.ref tx])->(H st=some (.ins a.A0 ds (xi vl (.int mo) vp vc)))->(H tx=some (.lst xs))->(((xs.length:Int) <= mo->Q .non H))->((¬ (xs.length:Int) <= mo->E (.ref a.Ai) none H))->yhc a vs H Q E
theorem ytl (T:Txt K mg a):wc P w K mg base (CXe P w) 1 a.M5 a.M6 ["self","text"] (yhc a):=by
 exists T.Ho.F.okE,yw8,t;obtain ⟨g,o,n,l,e,m,f,q,rfl,d,c,p,r⟩:=h;refine ⟨_,(yf (wu (yy yco (yq yt rfl T.Ae (by right) (ya (pv 1) ye (yb rfl))) (yp (pv 0) rfl) (vg _)) (yf (xb rfl T.Ng T.Db (ya w6 ye (yb rfl)))) y9)),?_⟩;exists 2,0;rfl';refine zr (SqL.of c) ?_;rfl';refine zd (fun j=>?_) (fun j=>?_)
 .rfl';exact ⟨by walk_at "len",r (by omega)⟩
 .exact p (by omega)
theorem yw4:yk ["self","name"] ["self","name"] (yg ypq):=w4 (by right)
inductive yl8 (K:W.Frag) (a:Ads) (vs:List V) (H:Hp) (Q:VK) (E:XK):Prop
 | mk (st ds d:Addr) (vl vm vc:V) (n:Nat) (kd:Nat->Fin 3) (ps:Nat->List Int) (w:Nat) (P:List Pc) (x:V) (nt:String):(vs=[.ref st,x])->(H st=some (.ins a.A0 ds (xi vl vm (.ref d) vc)))->(Ķ a H d n kd ps w P)->(xx K H x (.type nt))->((∀ s,x=.str s->s.length <= 100000))->((nmV x=false->∀ H',yw H H'->E (.ref a.Ad) none H'))->((∀ b,x=.str b->nmS b=true->(∀ q,q∈P->q.nm≠b)->∀ H',yw H H'->E (.ref a.A5) none H'))->((∀ r,r∈P->x=.str r.nm->nmS r.nm=true->∀ H',yw H H'->Q (.ref r.ob) H'))->yl8 K a vs H Q E
theorem ya5 (T:Txt K mg a):wc P w K mg base (CXe P w) 3 a.M9 a.Ma ["self","name"] (yl8 K a):=by
 exists T.By.F.okE,yw4,k;obtain ⟨G,L,d,N,R,O,n,M,C,w,P,x,l,rfl,i,z,v,D,S,y,u⟩:=h;refine ⟨_,(yh (wu (yh3 (yac (Å k) (vj (yh4 T) (k.mono (by decide)) rfl T.C7.m T.C7.F.kp T.C7.B .nil yz (ya (pv 1) ye (yb rfl))) (yp (pv 0) rfl))) (yf (xb rfl T.Nh T.Dc (ya w6 ye (yb rfl)))) y9) (yf (yv (zj (Å k) (yp (pv 0) rfl) (pv 1) (fun _ _=>rfl))))),?_⟩;exists 2,0;rfl';refine ⟨x,l,rfl,v,D,fun g t f=>?_,fun g t f=>S g t f⟩;obtain ⟨b,rfl,q⟩:=yvh g;have o:=f _ _ i;have c:=z.same f;rfl';rcases yxh P b with ⟨r,e,rfl⟩ | p
 .refine ⟨d,_,rfl,c.get e,?_⟩;refine ⟨false,rfl,Ę ?_⟩;rfl';refine ⟨d,_,rfl,c.get e,?_⟩;exact u r e rfl q _ f
 .refine ⟨d,_,rfl,c.getNo p,?_⟩;refine ⟨true,rfl,ĵ ?_⟩;rfl';exact ⟨by walk_at "len",y b rfl q p _ f⟩
theorem ys9:yk ["self","name","base"] ["self","name","base"] (yg yrp):=w4 (by right)
inductive yg0 (K:W.Frag) (a:Ads) (vs:List V) (H:Hp) (Q:VK) (E:XK):Prop
 | mk (st ds d:Addr) (vl vm vc:V) (n:Nat) (kd:Nat->Fin 3) (ps:Nat->List Int) (w:Nat) (P:List Pc) (b:Str) (x:Option Str):(vs=[.ref st,.str b,baV x])->(H st=some (.ins a.A0 ds (xi vl vm (.ref d) vc)))->(Ķ a H d n kd ps w P)->((∀ y,x=some y->nmS y=true/\y.length <= 100000))->(((∃ r,r∈P/\r.nm=b)->E (.ref a.Aw) none H))->(((∀ q,q∈P->q.nm≠b)->(∀ y,x=some y->(∀ q,q∈P->q.nm≠y)->∀ H',yw H H'->E (.ref a.A5) none H')/\(∀ L,To P x L->(P.length=60->∀ H',yw H H'->E (.ref a.Ca) none H')/\(P.length≠60->∀ H',yw H H'->Q .non H'))))->yg0 K a vs H Q E
theorem ytu (T:Txt K mg a):wc P w K mg base (CXe P w) 4 a.M7 a.M8 ["self","name","base"] (yg0 K a):=by
 exists T.Hq.F.okE,ys9,J;obtain ⟨C,D,d,I,N,L,n,G,u,w,P,b,x,rfl,g,f,hx,U,W⟩:=h;refine ⟨_,(yh (wu (yh3 (ywm (Å J) (pv 1) (yp (pv 0) rfl))) (yf (xb rfl T.P8 T.Fx (ya w6 ye (yb rfl)))) y9) (yh (wu (yy Ş (pv 2) zn (vg _)) (yf (yu (vn (pv 0) T.A2 T.By.m (ya5 T) (J.mono (by decide)) T.By.B .nil yz (ya (pv 2) ye (yb rfl))))) y9) (yf (wu (yy uk (yq ygl rfl T.Ae (by right) (ya (yp (pv 0) rfl) ye (yb rfl))) (vq rfl T.Ek) (vg _)) (yf (xb rfl T.Pw T.I5 (ya w6 ye (yb rfl)))) y9)))),?_⟩;exists 3,0;rfl';rcases yxh P b with ⟨r,c,rfl⟩ | M
 .refine ⟨d,_,rfl,f.get c,?_⟩;refine ⟨true,rfl,ĵ ?_⟩;rfl';exact ⟨by walk_at "len",U ⟨r,c,rfl⟩⟩
 .refine ⟨d,_,rfl,f.getNo M,?_⟩;refine ⟨false,rfl,Ę ?_⟩;obtain ⟨R,O⟩:=W M;have a0:(pcs P).length=P.length:=cH _;rfl'
  cases x with
  | none =>
   refine ynb (fun _=>?_) (fun z=>absurd rfl z);obtain ⟨k,p⟩:=O [] rfl;rfl';refine ⟨d,_,rfl,f.dk,?_⟩;rfl';refine zd (fun t=>?_) (fun t=>?_)
   .rfl';exact ⟨by walk_at "len",k (by omega) _ (yw.refl _)⟩
   .rfl';exact p (by omega) _ (yw.refl _)
  | some y =>
   refine ynb (fun z=>nomatch z) (fun _=>?_)
   obtain ⟨j,o⟩:=hx y rfl;rfl';refine ⟨C,D,d,I,N,L,n,G,u,w,P,.str y,"str",rfl,g,f,.str y,(fun s e=>by cases e; exact o),(fun z=>by rw [show nmV (.str y)=nmS y from rfl,j] at z; cases z),(fun b e _ l Z S=>by cases e; exact R y rfl l Z S),fun r c e _ H1 i=>?_⟩;obtain rfl:y=r.nm:=by cases e; rfl
   obtain ⟨k,p⟩:=O _ ⟨r,c,rfl,rfl⟩;have v:=i _ _ g;rfl';refine ⟨d,_,rfl,i _ _ f.dk,?_⟩;rfl';refine zd (fun t=>?_) (fun t=>?_)
   .rfl';exact ⟨by walk_at "len",k (by omega) _ i⟩
   .rfl';exact p (by omega) _ i
theorem yh6:yk ["self","name","links"] ["self","name"] (yg yq8):=w4 (by right)
inductive ydq (a:Ads) (vs:List V) (H:Hp) (Q:VK) (E':XK):Prop
 | mk (st ds d:Addr) (vl vm vc:V) (n:Nat) (kd:Nat->Fin 3) (ps:Nat->List Int) (w:Nat) (P:List Pc) (x:Option Str) (L:List (Str × List Int)):(vs=[.ref st,baV x])->(H st=some (.ins a.A0 ds (xi vl vm (.ref d) vc)))->(Ķ a H d n kd ps w P)->(To P x L)->(∀ (l:Addr) (H':Hp),H l=none->H' l=some (.lst (nmL L))->yw H H'->Q (.ref l) H')->ydq a vs H Q E'
theorem yl7 (T:Txt K mg a):wc P w K mg base CX0 1 a.Mb a.Mc ["self","name"] (ydq a):=by
 exists T.E4.F.ok,yh6,hr;obtain ⟨N,ds,d,vl,vm,vc,n,kd,W,w,P,x,L,rfl,q,C,U,k⟩:=h;refine ⟨_,(yh (y7 (i:=2) yh6.nd rfl (Or.inl rfl) (wq ye)) (yh (u4 PassesOwn.never (yy Ş (pv 1) zn (vg _)) (yh (yu (Ä PySem.F.plainAttrs_list PySem.F.slot_list_append PySem.F.type_list_append w9 (pv 2) (ya (pv 1) ye (yb rfl)))) (yf (y7 (i:=1) yh6.nd rfl (Or.inl rfl) (yp (zj (Å hr) (yp (pv 0) rfl) (pv 1) (fun _ _=>rfl)) rfl))))) (yh (yu (yd2 PySem.F.plainAttrs_list PySem.F.slot_list_reverse PySem.F.type_list_reverse Į (pv 2))) (yf (yv (pv 2)))))),?_⟩;exists 2,1;rfl';refine ⟨by walk_at "len",fun l j=>?_⟩;rfl'
 refine ⟨fun m σ' G=>∃ (y:Option Str) (R S:List (Str × List Int)),σ'=[some (.ref N),some (baV y),some (.ref l)]/\To P y R/\R++S=L/\G l=some (.lst (nmL S).reverse)/\yw H G/\m=R.length,
  ⟨_,x,L,[],rfl,U,eJ L,yc,y8 j,rfl⟩,?_⟩
 rintro m σ2 G ⟨y,R,S,rfl,M,g,f,B,rfl⟩;have J:=B _ _ q;have Y:=C.same B;have I:=To.len C U;have a0:S.length <= 61:=by rw [<- g,dv] at I; omega
 rfl'
 cases y with
 | none =>
  refine ynb (fun _=>?_) (fun z=>absurd rfl z);have e:S=L:=by rw [show R=[] from M] at g; exact g
  rfl';refine z8 f ?_;rfl';refine Ŷ f ?_;rw [List.reverse_reverse,e];rfl';exact k l _ j yc fun b o z=>yi (yd z j) (B _ _ z)
 | some b =>
  refine ynb (fun z=>nomatch z) (fun _=>?_)
  obtain ⟨r,p,rfl,t⟩:=M;refine ⟨_,fun σ' H' z=>z,?_⟩;rfl';refine z8 f ?_;rfl';refine ub f (vo (by unfold nmL; rw [List.length_reverse,cH]; omega)) ?_;have c:yw H (upd G l (HO.lst ((nmL S).reverse++[baV (some r.nm)]))):=fun b o e=>yi (yd e j) (B _ _ e);have u:upd G l (HO.lst ((nmL S).reverse++[baV (some r.nm)])) l=some (HO.lst ((nmL S).reverse++[baV (some r.nm)])):=yc;generalize upd G l (HO.lst ((nmL S).reverse++[baV (some r.nm)]))=G' at c u ⊢;have O:=c _ _ q;have v:=C.same c;have X:=(v.ob r p).1;rfl';refine ⟨d,_,rfl,v.get p,?_⟩;rfl';refine ⟨r.path.length,?_,r.bs,r.path,(r.nm,r.tx) :: S,rfl,C.wf r p,?_,?_,c,rfl⟩
  .rw [t,dv,d7];omega
  .rw [<- g,t,em];rfl
  .rw [yo8];exact u
theorem yia:yk ["self","name","links","link"] ["self","name"] (yg yqc):=w4 (by right)
inductive ġ (K:W.Frag) (a:Ads) (vs:List V) (H:Hp) (Q:VK) (E':XK):Prop
 | mk (st ds ll d c dc p cl ct:Addr) (lk tp:Nat->Addr) (n:Nat) (kd:Nat->Fin 3) (ps:Nat->List Int) (mo w:Nat) (P:List Pc) (L:List (Str × List Int)) (ks:List V) (U:Addr->Prop) (x:Option Str) (L':List (Str × List Int)):(vs=[.ref st,baV x])->(zb K a H st ds ll d c dc p cl ct lk tp n kd ps mo w P L ks U)->(To P x L')->(∀ (c' dc' p' cl' ct':Addr) (ks':List V) (U':Addr->Prop) (H':Hp),zb K a H' st ds ll d c' dc' p' cl' ct' lk tp n kd ps mo w P L' ks' U'->Go (StO st c cl ct U) H H' (StO st c' cl' ct' U')->NK H ks ks'->(V.non∈ks'->V.non∈ks.take L'.length)->Q (.ref c') H')->ġ K a vs H Q E'
theorem yk2 (T:Txt K mg a):wc P w K mg base (CXe P w) 12 a.Md a.Me ["self","name"] (ġ K a):=by
 exists T.E5.F.okE,yia,hr;obtain ⟨O,ds,ll,d,c,dc,p,cl,ct,lk,tp,n,kd,ps,mo,w,P,L,ks,U,x,t,rfl,N,hL,k⟩:=h;have ac:=N.me;refine yo (y7 (i:=2) yia.nd rfl (Or.inl rfl) (xr (pv 0) T.A2 T.E4.m (yl7 T) (hr.mono (by decide)) T.E4.B .nil vh (ya (pv 1) ye (yb rfl)))) ?_;refine yo (jc (wu (yy (ι hr.units) (yp (yp (pv 0) rfl) rfl) (ue ju (pv 2) zg (zi (yq yt rfl T.Ae (by right) (ya (yp (yp (pv 0) rfl) rfl) ye (yb rfl))))) (vg _)) (yf (ve (pv 0) (x6 T.Dm (yeh T) (hr.mono (by decide)) rfl T.Dl T.Cy.B .nil yz (ya (yp (pv 0) rfl) ye (yb rfl))) rfl)) y9)) ?_;refine yo (PS.nox (za PassesOwn.never rfl (wd (ue ju (pv 2) (zi (yq yt rfl T.Ae (by right) (ya (yp (yp (pv 0) rfl) rfl) ye (yb rfl)))) zg)) (wb (i:=3) yia.nd rfl (Or.inl rfl)) (yf (yu (vn (yp (pv 0) rfl) T.Al T.Hn.m (yuj T) (hr.mono (by decide)) T.Hn.B .nil vt (ya (pv 3) (ya (yp (zj (Å hr) (yp (pv 0) rfl) (pv 3) (fun _ _=>rfl)) rfl) (ya (yp (pv 0) rfl) ye (yb rfl)) (yb rfl)) (yb rfl))))))) ?_;refine ⟨_,(yf (yv (yp (pv 0) rfl))),?_⟩;exists 2,2;rfl';refine ⟨O,ds,d,_,_,_,n,kd,ps,w,P,x,t,rfl,ac,N.pz,hL,fun l H1 aC a7 S1=>?_⟩;have ax:=S1 _ _ ac;have ab:=N.same S1;have aA:=ab.ch.me;have a8:=ab.ch.hl;obtain ⟨y,hy⟩:=N.way;have au:=To.len N.pz hL;have aw:=To.len N.pz hy;refine ⟨fun σ2 G=>∃ (S R p2 f j:Addr) (J:List V) (U2:Addr->Prop) (C:List (Str × List Int)),σ2=[some (.ref O),some (baV x),some (.ref l),none]/\zb K a G O ds ll d S R p2 f j lk tp n kd ps mo w P C J U2/\Go (StO O c cl ct U) H G (StO O S f j U2)/\C=t.take C.length/\C.length <= t.length/\G l=some (.lst (nmL t))/\NK H ks J/\(V.non∈J->V.non∈ks.take t.length),?_,?_⟩
 .rfl';refine zr (SqL.of a8) ?_;rfl';refine ycn (SqL.of a7) fun q hq0=>?_;rw [jo,zw,Ú]
  with_reducible first | refine y6 hq0 fun H2 S2 e2=>?_ | refine vi hq0 fun H2 S2 e2=>?_
  have a5:=S1.trans S2;have D:=N.same a5;have a4:=D.me;have Y:=S2 _ _ a7;rw [Á] at e2;have a3:=D.ch.hl;rw [Á] at a3;refine yaz _ _ (hy.ok N.pz) (fun z hz=>hL.ok N.pz z (by obtain ⟨u,hu,rfl⟩:=di.mp hz; exact di.mpr ⟨u,eK hu,rfl⟩)) (SqL.of a3) (SqL.of e2) ?_;by_cases he:L.map (·.1)=(t.take L.length).map (·.1)
  .rw [dw he];refine ⟨false,rfl,Ę ?_⟩;have e3:=To.ahead N.pz.nd N.pz.wf hy hL (by rw [Ú]; exact yl9 he);have e4:=congrArg List.length e3;rw [dM] at e4;exact ⟨c,dc,p,cl,ct,ks,U,L,rfl,D,Go.refl.same a5,e3,by omega,Y,.refl,fun z=>by rw [ej (by rw [N.ch.tx.len]; omega)]; exact z⟩
  .rw [dG he];refine ⟨true,rfl,ĵ ?_⟩;rfl';intro c' a2 nc a9 aD;have SQ:yw H2 (upd (upd H2 a2 (.own c')) c' (.ins a.A1 a2 [])):=fun b o e=>by rw [yn (yd e nc),yn (yd e a9)]; exact e
   refine ⟨c',a2,ll,n,lk,tp,kd,ps,rfl,yc,SQ _ _ D.lo,D.n1,D.n6,D.row.same SQ,fun p' ap am U' HE a1 a6 BE _=>⟨rfl,?_⟩⟩;obtain ⟨hR,gR,SE,hN⟩:=D.re nc a9 a1 a6 BE;have ar:=SE _ _ a4;rfl'
   exact ⟨c',a2,p',ap,am,[],U',[],rfl,hR,gR.ahead a5,rfl,dJ _,yi (fun z=>by rw [z,a4] at Y; cases Y) (SE _ _ Y),.nil,fun z=>nomatch z⟩
 .rintro σ2 G ⟨S,R,p2,f,j,J,U2,C,rfl,hG,go,aj,ah,ag,af,ai⟩;have as:=hG.me;have aE:=hG.ch.me;have ad:=hG.ch.hl;rfl';refine zr (SqL.of ad) ?_;rfl';refine ycn (SqL.of ag) fun q hq0=>?_;rw [jo,yi7];have S1:=y8 (o:=(HO.lst ((nmL t).drop C.length))) hq0;have e1:upd G q (HO.lst ((nmL t).drop C.length)) q=some (HO.lst ((nmL t).drop C.length)):=yc;generalize upd G q (HO.lst ((nmL t).drop C.length))=G1 at S1 e1 ⊢
  have al:∀ W F,Go (StO O S f j U2) G1 F (StO O S f j W)->zb K a G O ds ll d S R p2 f j lk tp n kd ps mo w P C J U2->F q=some (HO.lst ((nmL t).drop C.length)):=fun W F g hG=>g.fr _ _ e1 fun w=>by
   obtain ⟨o,e⟩:=hG.lvO q w;rw [hq0] at e;cases e
  refine ⟨q,rfl,⟨_,SqL.of e1⟩,x5 (K:=K) (a:=q) (xs:=(nmL t).drop C.length) (fun i σ2 F=>∃ (v:Option V) (M:List V) (W:Addr->Prop),σ2=[some (.ref O),some (baV x),some (.ref l),v]/\zb K a F O ds ll d S R p2 f j lk tp n kd ps mo w P (t.take (C.length+i)) M W/\Go (StO O S f j U2) G1 F (StO O S f j W)/\NK G1 J M/\(V.non∈M->V.non∈J)) ?_ ?_ ?_ ?_⟩
  .rw [Nat.add_zero,<- aj];exact ⟨none,J,U2,rfl,hG.same S1,Go.refl,.refl,id⟩
  .rintro i σ2 F _ ⟨v,M,W,rfl,I,g,Z,a0⟩;exact SqL.of (al W F g hG)
  .rintro i z σ2 F hz ⟨v,M,W,rfl,I,g,Z,a0⟩
   have hj:C.length+i < t.length:=by
    rcases Nat.lt_or_ge (C.length+i) t.length with z | z
    .exact z
    .rw [dP (by rw [eV,jo]; omega)] at hz;cases hz
   obtain ⟨r,X,e3,e4,e5⟩:=hL.at' N.pz.wf hj
   obtain rfl:z=.str r.nm:=by
    rw [List.getElem?_drop,Á,dX,dm,df hj,e3] at hz;cases hz;rfl
   have ae:=I.me;have ay:=I.ch.me;obtain ⟨av,aa⟩:=I.pz.ob r X;rfl';refine ⟨d,_,rfl,I.pz.get X,?_⟩;rfl';have aq:=I.pz.sz r X;have hb:=I.wm;have hm:=yna (L:=t.take (C.length+i)) (w:=w) (fun y hy=>(hL.sz N.pz y (eK hy)).2) hb.2 (by rw [dM]; omega);have ak:=I.mo1;have aB:=ykh (n:=n) (kd:=kd) (ps:=ps) (pre:=Þ ((t.take (C.length+i)).map (·.2))) (ts:=r.tx) I.n1 I.n6 (ò _) (by omega);refine ⟨S,R,p2,f,j,n,kd,ps,t.take (C.length+i),M,mOf (t.take (C.length+i)),W,r.dl,r.nm,r.tx,[],mo,rfl,I.ch,by rw [dM]; omega,aq.1,?_,fun w=>I.nw r.dl (.inr (.inr (.inr ⟨r,X,.inr rfl⟩))) (.inr (.inr (.inr w))),(fun b hb=>by cases hb),by rw [eJ]; omega,by omega,ak,by omega,fun q3 U4 F2 an a1 g2=>?_⟩
   .rw [eJ,<- e4];exact aa
   rw [<- ydo,<- e3,<- ed hj] at a1;obtain ⟨h4,g4⟩:=I.go a1 g2 ⟨_,e5⟩;rfl';exact ⟨_,_,U4,rfl,h4,g.trans g4,Z.app (fun q e=>by cases e; exact g.free an),fun z=>a0 ((dY.mp z).elim id fun y=>by cases dB.mp y)⟩
  .rintro σ2 F ⟨v,M,W,rfl,I,g,Z,a0⟩;rw [eV,jo,Nat.add_sub_cancel' ah,eG] at I;have ae:=I.me;rfl';exact k S R p2 f j M W F I (go.trans (g.ahead S1)) (af.trans Z fun q e=>go.free (S1.free e)) fun z=>ai (a0 z)
theorem ο.lvW {H:Hp} {c p ll:Addr} {n:Nat} {kd:Nat->Fin 3} {ps:Nat->List Int} {ks:List V} {M:Nat} {W:Addr->Prop} (h:ο K a H c dc p ll tl n kd ps L ks M W):∀ x,StW c ll tl W x->∃ o,H x=some o:=fun x b=>by
 rcases b with z | z | z | z
 .exact ⟨_,by rw [z]; exact h.me⟩
 .exact ⟨_,by rw [z]; exact h.hl⟩
 .exact ⟨_,by rw [z]; exact h.ht⟩
 .exact h.fz.live x z
theorem ο.butM {H H':Hp} {c p ll:Addr} {n:Nat} {kd:Nat->Fin 3} {ps:Nat->List Int} {ks:List V} {M:Nat} {W:Addr->Prop} (h:ο K a H c dc p ll tl n kd ps L ks M W) {o:HO} (hq:H q=some o) (ho:vaj o=true) (nq:¬ StW c ll tl W q) (B:But q H H'):ο K a H' c dc p ll tl n kd ps L ks M W:=by
 have d:∀ {x:Addr} {b:List V},H x=some (.lst b)->x≠q:=fun {x b} e z=>by rw [z,hq] at e; cases e; cases ho
 exact ⟨B _ _ h.me fun z=>nq (.inl z.symm),h.fz.frame (W2:=fun x=>x=q) (fun x z=>⟨o,by rw [show x=q from z]; exact hq,.inl ho⟩) (fun x w z=>nq (.inr (.inr (.inr (by rw [<- show x=q from z]; exact w))))) (fun x o e g=>B x o e g),B _ _ h.hl (d h.hl),B _ _ h.ht (d h.ht),h.tx.mono fun x b e f=>⟨B _ _ e (d e),f⟩,h.nc,h.nll,h.ntl,h.ne⟩
theorem To.more {P:List Pc} {q:Pc} {x:Option Str} (h:To P x L):To (P++[q]) x L:=by
 cases x with
 | none=>exact h
 | some b =>
  obtain ⟨r,a,e⟩:=h;exact ⟨r,eU _ a,e⟩
section
variable {H H1 H2 H3:Hp} {ll d c p ct:Addr} {lk:Nat->Addr} {n:Nat} {kd:Nat->Fin 3} {ps:Nat->List Int} {mo w:Nat} {P:List Pc} {ks ks':List V}
theorem zb.put (h:zb K a H st ds ll d c dc p cl ct lk tp n kd ps mo w P L ks U) {b:Str} {x:Option Str} {r ob od:Addr} (hc:ο K a H1 c dc p cl ct n kd ps (L++[(b,ts)]) ks' (mOf L+6 * (dec ts).length) U') (g:Go (ChW cl ct U) H H1 (ChW cl ct U')) (hr0:H r=none) (hr:H1 r=some (.lst ((Ï n kd ps (Þ (L.map (·.2))) ts).map V.int))) (hob0:H1 ob=none) (S:yw H1 H2) (hob:H2 ob=some (.ins a.A7 od (ă (baV x) (.ref r))))
  (hL:To P x L) (hL6:L.length <= 60) (hts:Sgs ts) (htz:ts.length <= w) (hb1:nmS b=true) (hb2:PyData.strOk b=true) (hno:∀ q,q∈P->q.nm≠b) (hP:P.length < 60) :
  zb K a (upd H2 d (.dK (pcs (P++[⟨b,x,L,ts,ob,od,r⟩])))) st ds ll d c dc p cl ct lk tp n kd ps mo w (P++[⟨b,x,L,ts,ob,od,r⟩]) (L++[(b,ts)]) ks' U'/\Go (fun y=>y=d\/StO st c cl ct U y) H (upd H2 d (.dK (pcs (P++[⟨b,x,L,ts,ob,od,r⟩])))) (fun y=>y=d\/StO st c cl ct U' y):=by
 have g1:Go (StW c cl ct U) H H1 (StW c cl ct U'):=g.or (Y:=fun x=>x=c);have f:∀ x o,H x=some o->(x=st\/x=ll\/x=d\/∃ q,q∈P/\(x=q.ob\/x=q.dl))->H2 x=some o:=fun x o e D=>S _ _ (g1.fr x o e (h.nw x D));have k:=f _ _ h.me (.inl rfl);have m:=f _ _ h.lo (.inr (.inl rfl));have j:=f _ _ h.pz.dk (.inr (.inr (.inl rfl)));have s:=g1.apart (fun x D=>h.lv x D) h.nw;have u:xw H2 n lk kd tp ps:=h.row.fr fun x M e=>S _ _ (g1.fr _ _ e (h.ch.noTup e));have C:ο K a H2 c dc p cl ct n kd ps (L++[(b,ts)]) ks' (mOf (L++[(b,ts)])) U':=by rw [ydo]; exact hc.same S
 have v:¬ StW c cl ct U' ob:=fun z=>by
  obtain ⟨o,e⟩:=hc.lvW ob z;rw [hob0] at e;cases e
 have J:¬ StW c cl ct U' r:=fun z=>by
  rcases z with z | z | z | z
  .rw [z,h.ch.me] at hr0; cases hr0
  .rw [z,h.ch.hl] at hr0; cases hr0
  .rw [z,h.ch.ht] at hr0; cases hr0
  .exact hc.fz.sh.ints hr (ykd h.n1 h.n6 (ò _)) z
 refine ⟨⟨yi (fun z=>by rw [z,j] at k; cases k) k,h.n1,h.n6,yi (fun z=>by rw [z,j] at m; cases m) m,u.fr fun x M e=>yi (fun z=>by rw [z,j] at e; cases e) e,⟨yc,fun q i=>?_,?_,fun q i=>?_,fun q i=>?_,?_,fun q i=>?_⟩,C.butM j rfl (s d (.inr (.inr (.inl rfl)))) But.upd,fun y t=>?_,h.mo1,h.wm,⟨some b,_,dC _ (dB.mpr rfl),rfl,rfl⟩⟩,⟨fun y o e F=>?_,fun y z=>?_,fun y o e=>?_⟩⟩
 .rcases dY.mp i with z | z
  .have A:=f _ _ (h.pz.ob q z).1 (.inr (.inr (.inr ⟨q,z,.inl rfl⟩)));have l:=f _ _ (h.pz.ob q z).2 (.inr (.inr (.inr ⟨q,z,.inr rfl⟩)));exact ⟨yi (fun z=>by rw [z,j] at A; cases A) A,yi (fun z=>by rw [z,j] at l; cases l) l⟩
  .obtain rfl:=dB.mp z;have l:=S _ _ hr;exact ⟨yi (fun z=>by rw [show ob=d from z,j] at hob; cases hob) hob,yi (fun z=>by rw [show r=d from z,j] at l; cases l) l⟩
 .rw [dF];refine List.nodup_append.mpr ⟨h.pz.nd,(by simp),fun y t z E e=>?_⟩;obtain ⟨q,i,rfl⟩:=di.mp t;rw [List.map_singleton,dB] at E;exact hno q i (e.trans E)
 .rcases dY.mp i with z | z
  .exact (h.pz.wf q z).more
  .obtain rfl:=dB.mp z;exact hL.more
 .rcases dY.mp i with z | z
  .exact h.pz.sz q z
  .obtain rfl:=dB.mp z;exact ⟨hts,htz,hL6,fun y t=>hL.sz h.pz y t⟩
 .rw [dv,d7]; omega
 .rcases dY.mp i with z | z
  .exact h.pz.nm q z
  .obtain rfl:=dB.mp z;exact ⟨hb1,hb2⟩
 .rcases t with z | z | z | ⟨q,i,z⟩
  .exact s y (.inl z)
  .exact s y (.inr (.inl z))
  .exact s y (.inr (.inr (.inl z)))
  .rcases dY.mp i with B | B
   .exact s y (.inr (.inr (.inr ⟨q,B,z⟩)))
   .obtain rfl:=dB.mp B;rcases z with z | z
    .rw [z]; exact v
    .rw [z]; exact J
 .exact yi (fun z=>F (.inl z)) (S _ _ (g1.fr y o e fun z=>F (.inr (.inr z))))
 .rcases z with z | z | z
  .exact .inl (.inl z)
  .exact .inl (.inr (.inl z))
  .exact (g1.nw y z).imp (fun z=>.inr (.inr z)) id
 .obtain ⟨G,I⟩:=g1.lv y o e;by_cases z:y=d
  .exact ⟨_,by rw [z]; exact yc⟩
  .exact ⟨G,yi z (S _ _ I)⟩
end
theorem yip:yk ["self","name","text","base","signs","data"] ["self","name","text","base"] (yg yfg):=w4 (by right)
inductive yel (K:W.Frag) (a:Ads) (vs:List V) (H:Hp) (Q:VK) (E:XK):Prop
 | mk (st ds ll d c dc p cl ct:Addr) (lk tp:Nat->Addr) (n:Nat) (kd:Nat->Fin 3) (ps:Nat->List Int) (mo w:Nat) (P:List Pc) (L:List (Str × List Int)) (ks:List V) (U:Addr->Prop) (b:Str) (x:Option Str) (tx:Addr) (ts:List Int):(vs=[.ref st,.str b,.ref tx,baV x])->(zb K a H st ds ll d c dc p cl ct lk tp n kd ps mo w P L ks U)->(nmS b=true)->(PyData.strOk b=true)->(Ã H tx ts 1000)->((∀ y,x=some y->nmS y=true))->(P.length < 60)->((mo < ts.length->∀ H',yw H H'->E (.ref a.Ai) none H'))->((ts.length <= mo->(∃ r,r∈P/\r.nm=b)->∀ H',yw H H'->E (.ref a.Aw) none H'))->((ts.length <= mo->(∀ q,q∈P->q.nm≠b)->∀ y,x=some y->(∀ q,q∈P->q.nm≠y)->∀ H',yw H H'->E (.ref a.A5) none H'))->((ts.length <= mo->(∀ q,q∈P->q.nm≠b)->∀ L',To P x L'->ts.length <= w/\L'.length <= 60 /\
 ∀ (ob od dl c' dc' p' cl' ct':Addr) (ks':List V) (U':Addr->Prop) (H':Hp),zb K a H' st ds ll d c' dc' p' cl' ct' lk tp n kd ps mo w (P++[⟨b,x,L',ts,ob,od,dl⟩]) (L'++[(b,ts)]) ks' U'->H ob=none->H dl=none->Go (fun y=>y=d\/StO st c cl ct U y) H H' (fun y=>y=d\/StO st c' cl' ct' U' y)->NK H ks ks'->Q .non H'))->yel K a vs H Q E
theorem ylp (T:Txt K mg a):wc P w K mg base (CXe P w) 13 a.Dh a.Lz ["self","name","text","base"] (yel K a):=by
 exists T.Q8.okE,yip,C;obtain ⟨X,ds,ll,d,c,dc,p,cl,ct,lk,tp,n,kd,ps,mo,w,P,L,ks,U,b,x,tx,ts,rfl,W,S,aq,G,M,ae,kL,kT,kN,k⟩:=h;have aA:=W.me;refine yo (yu (vj (yh4 T) (C.mono (by decide)) rfl T.C7.m T.C7.F.kp T.C7.B .nil yz (ya (pv 1) ye (yb rfl)))) ?_;refine yo (y7 (i:=4) yip.nd rfl (Or.inl rfl) (vj (yiv T) (C.mono (by decide)) rfl T.C9.m T.C9.F.kp T.C9.B .nil yz (ya (pv 2) ye (yb rfl)))) ?_;refine yo (yu (vj (yv6 T) (C.mono (by decide)) rfl T.Fi.m T.Fi.F.kp T.Fi.B .nil yz (ya (pv 3) ye (yb rfl)))) ?_;refine yo (yu (vn (pv 0) T.A2 T.Ho.m (ytl T) (C.mono (by decide)) T.Ho.B .nil yz (ya (pv 4) ye (yb rfl)))) ?_;refine yo (yu (vn (pv 0) T.A2 T.Hq.m (ytu T) (C.mono (by decide)) T.Hq.B .nil yz (ya (pv 1) (ya (pv 3) ye (yb rfl)) (yb rfl)))) ?_;refine yo (y7 (i:=5) yip.nd rfl (Or.inl rfl) (xr (vn (pv 0) T.A2 T.E5.m (yk2 T) (C.mono (by decide)) T.E5.B .nil yz (ya (pv 3) ye (yb rfl))) T.Al T.Hm.m (ytr T) (C.mono (by decide)) T.Hm.B .nil vh (ya (pv 1) (ya (pv 4) ye (yb rfl)) (yb rfl)))) ?_;refine ⟨_,(yf (yg4 (Å C) (yp (pv 0) rfl) (pv 1) (yb4 T.P7 (yu8 T) (C.mono (by decide)) rfl T.P6 T.Fj.B .nil vh (ya (pv 3) (ya (pv 5) ye (yb rfl)) (yb rfl))) rfl)),?_⟩;exists 4,2;have av:=Â S;have D:∀ y,x=some y->nmS y=true/\y.length <= 8:=fun y e=>⟨M y e,Â (M y e)⟩;have an:=W.wm;have au:=W.mo1;rfl';refine ⟨.str b,"str",rfl,.str b,(fun s e=>by cases e; omega),fun _ H1 S1=>?_,fun z=>by rw [show nmV (.str b)=nmS b from rfl,S] at z; cases z⟩;have g:=G.same S1;rfl';refine ⟨.ref tx,_,rfl,.lst g.l,.inr ⟨ts.map V.int,Õ g.l g.s (by have:=g.z; omega),fun sg H2 a7 a1 S2=>?_⟩⟩;rfl'
 have O:∃ nt,xx K H2 (baV x) (.type nt):=by
  cases x with
  | none=>exact ⟨_,.non⟩
  | some y=>exact ⟨_,.str y⟩
 obtain ⟨nt,O⟩:=O
 have ao:baV x=.non\/nmV (baV x)=true:=by
  cases x with
  | none=>exact .inl rfl
  | some y=>exact .inr (D y rfl).1
 refine ⟨baV x,nt,rfl,O,(fun s e=>?_),fun _ H3 S3=>?_,fun z1 z2=>absurd ao fun z=>z.elim z1 fun z=>by rw [z2] at z; cases z⟩
 .cases x with
  | none=>cases e
  | some y=>cases e; have:=(D _ rfl).2; omega
 have u:=S1.trans (S2.trans S3);have a6:=W.same u;have N:=a6.me;have I:=S3 _ _ a1;rfl';refine ⟨X,ds,sg,_,_,_,mo,_,rfl,N,I,fun t=>?_,fun z=>kL (by rw [cH] at z; omega) _ u⟩;have t:ts.length <= mo:=by rw [cH] at t; omega
 rfl';refine ⟨X,ds,d,_,_,_,n,kd,ps,w,P,b,x,rfl,N,a6.pz,(fun y e=>⟨(D y e).1,by have:=(D y e).2; omega⟩),(fun hx=>kT t hx _ u),fun v=>⟨fun y e ag H4 S4=>kN t v y e ag _ (u.trans S4),fun L' hL=>⟨fun z=>absurd z (by omega),fun _ H4 S4=>?_⟩⟩⟩;obtain ⟨ac,ah,k⟩:=k t v L' hL;have j:=u.trans S4;have a8:=W.same j;have ar:=a8.me;have J:=S4 _ _ I;rfl';refine ⟨X,ds,ll,d,c,dc,p,cl,ct,lk,tp,n,kd,ps,mo,w,P,L,ks,U,x,L',rfl,a8,hL,fun c' aa p' a0 Z af U' H5 R g5 ad _=>?_⟩;have az:=R.ch.me
 have a4:¬ StO X c cl ct U sg:=fun z=>by
  obtain ⟨o,e⟩:=W.lvO sg z;rw [S1.free a7] at e;cases e
 have a3:=g5.fr _ _ J a4;have a9:¬ StO X c' a0 Z U' sg:=fun z=>(g5.nw sg z).elim a4 fun e=>by rw [J] at e; cases e
 have hm:=yna (L:=L') (w:=w) (fun y hy=>(hL.sz W.pz y hy).2) an.2 (by omega);have ay:=x9 ts;have aB:=G.z;rfl';refine ⟨c',aa,p',a0,Z,n,kd,ps,L',af,mOf L',U',sg,b,ts,rfl,R.ch,by omega,⟨a3,G.s,by omega⟩,fun z=>a9 (.inr (.inr (.inr (.inr z)))),by omega,fun r U6 H6 a2 al ak g6=>?_⟩;have ai:=g6.fr _ _ R.me fun z=>R.nw X (.inl rfl) (.inr z);have am:=g6.fr _ _ R.pz.dk fun z=>R.nw d (.inr (.inr (.inl rfl))) (.inr z);rfl';intro ob od f ab ax;have SQ:yw H6 (upd (upd H6 od (.own ob)) ob (.ins a.A7 od [])):=fun b o e=>by rw [yn (yd e f),yn (yd e ab)]; exact e
 refine ⟨ob,od,baV x,.ref r,rfl,yc,fun H7 a5 B7=>⟨rfl,?_⟩⟩;have S7:yw H6 H7:=fun y o e=>B7 _ _ (SQ _ _ e) (yd e f);have as:=S7 _ _ ai;rfl';refine ⟨d,_,rfl,yku.k (k:=.inr b) (S7 _ _ am) (vo (by unfold pcs; rw [cH]; omega)),?_⟩;rw [Û _ (ylc v)];obtain ⟨z1,z2⟩:=R.put (x:=x) ak g6 a2 al f S7 a5 hL ah G.s ac S aq v ae;have e8:pcs (P++[⟨b,x,L',ts,ob,od,r⟩])=pcs P++[(.inr b,.ref ob)]:=by unfold pcs; rw [dF]; rfl
 rw [e8] at z1 z2;have aj:∀ {y:Addr},H6 y=none->H y=none:=fun {y} e=>j.free (g5.free (g6.free e))
 exact k ob od r c' aa p' a0 Z _ U6 _ z1 (aj f) (j.free (g5.free a2)) (((g5.ahead j).or (Y:=fun y=>y=d)).trans z2) ((NK.refl.trans ad fun _ e=>j.free e).app fun q e=>nomatch e)
theorem Sto.putE {H:Hp} {C:Cf} {P:List Pd} {X:Sx} {Q:VK} {E:XK} (h:Sto K a H st C P X) {b:Str} {x:Option Str} {tx:Addr} (hb:okN b) (htx:Ã H tx ts 1000) (hx:∀ y,x=some y->nmS y=true) (hP:P.length < 60)
  (kL:C.mo < ts.length->∀ H',yw H H'->E (.ref a.Ai) none H') (kT:ts.length <= C.mo->(∃ r,r∈P/\r.nm=b)->∀ H',yw H H'->E (.ref a.Aw) none H') (kN:ts.length <= C.mo->(∀ q,q∈P->q.nm≠b)->∀ y,x=some y->(∀ q,q∈P->q.nm≠y)->∀ H',yw H H'->E (.ref a.A5) none H')
  (k:ts.length <= C.mo->(∀ q,q∈P->q.nm≠b)->∀ L,ToD P x L->ts.length <= C.w/\L.length <= 60/\∀ Y H',Sto K a H' st C (P++[⟨b,x,L,ts⟩]) Y->Gx X H H' Y->Q .non H'):yel K a [.ref st,.str b,.ref tx,baV x] H Q E:=by
 obtain ⟨G,F,d,c,dc,p,M,ct,J,I,i,L0,S,U,s,rfl,rfl⟩:=h;rw [cH] at hP
 have m:∀ {z:Str},(∀ q,q∈i->q.nm≠z)->∀ q,q∈i.map Pc.pd->q.nm≠z:=fun {z} T q v=>by
  obtain ⟨u,N,rfl⟩:=di.mp v;exact T u N
 refine ⟨st,G,F,d,c,dc,p,M,ct,J,I,C.n,C.kd,C.ps,C.mo,C.w,i,L0,S,U,b,x,tx,ts,rfl,s,hb.1,hb.2,htx,hx,hP,kL,(fun f ⟨r,hr,e⟩=>kT f ⟨r.pd,di.mpr ⟨r,hr,rfl⟩,e⟩),(fun f t y e h3=>kN f (m t) y e (m h3)),fun f t L hL=>?_⟩;obtain ⟨k1,O,k⟩:=k f (m t) L (Ŝ.mpr hL);refine ⟨k1,O,fun ob od dl Z j p' A l B U' H' s' o D g R=>k _ H' ⟨G,F,d,Z,j,p',A,l,J,I,_,_,B,U',s',by rw [dF]; rfl,rfl⟩ (Gx.of g R fun q v=>?_)⟩;rcases dY.mp v with z | z
 .exact .inl z
 .rw [dB.mp z];exact .inr ⟨o,D⟩
theorem Sto.put {H:Hp} {C:Cf} {P:List Pd} {X:Sx} {Q:VK} {E:XK} (h:Sto K a H st C P X) {b:Str} {x:Option Str} {tx:Addr} (hb:okN b) (htx:Ã H tx ts C.w) (hL:ToD P x L) (hno:∀ q,q∈P->q.nm≠b) (hP:P.length < 60)
  (k:∀ Y H',Sto K a H' st C (P++[⟨b,x,L,ts⟩]) Y->Gx X H H' Y->Q .non H'):yel K a [.ref st,.str b,.ref tx,baV x] H Q E:=by
 have j:=h.cf;have i:=htx.z
 have d:∀ y,x=some y->∃ r,r∈P/\r.nm=y:=fun y e=>by
  subst e;obtain ⟨r,c,e,_⟩:=hL;exact ⟨r,c,e⟩
 refine h.putE hb ⟨htx.l,htx.s,by omega⟩ (fun y e=>?_) hP (fun z=>absurd z (by omega)) (fun _ ⟨r,c,e⟩=>absurd e (hno r c)) (fun _ _ y e g=>?_) fun _ _ m f=>⟨i,?_,?_⟩
 .obtain ⟨r,c,e⟩:=d y e;rw [<- e];exact (h.nm r c).1
 .obtain ⟨r,c,e⟩:=d y e;exact absurd e (g r c)
 .have:=f.len h.pw;omega
 .rw [ToD.uniq h.nd f hL];exact k
theorem ybc.get {H:Hp} :∀ {L:List (Str × List Int)} {ks:List V},ybc H U L ks->∀ {j:Nat} (hj:j < L.length),∃ k,ks[j]?=some k/\(k=.non\/∃ q,k=.ref q/\H q=some (.lst (L[j].2.map V.int))/\¬ U q)
 | [],_,_,j,hj=>absurd hj (dN j)
 | x :: r,_,⟨k,ks',e,z,h⟩,0,hj=>⟨k,by rw [e]; rfl,z⟩
 | x :: r,_,⟨k,ks',e,z,h⟩,j+1,hj=>by
  obtain ⟨c,a,b⟩:=h.get (Nat.lt_of_succ_lt_succ hj);exact ⟨c,by rw [e,List.getElem?_cons_succ]; exact a,b⟩
theorem ymf:yk ["self","name","links"] ["self","name"] (yg yp2):=w4 (by right)
inductive Ġ (K:W.Frag) (a:Ads) (vs:List V) (H:Hp) (Q:VK) (E':XK):Prop
 | mk (st ds ll d c dc p cl ct:Addr) (lk tp:Nat->Addr) (n:Nat) (kd:Nat->Fin 3) (ps:Nat->List Int) (mo w:Nat) (P:List Pc) (L:List (Str × List Int)) (ks:List V) (U:Addr->Prop) (x:Option Str) (L':List (Str × List Int)):(vs=[.ref st,baV x])->(zb K a H st ds ll d c dc p cl ct lk tp n kd ps mo w P L ks U)->(To P x L')->(∀ (c' dc' p' cl' ct':Addr) (L2:List (Str × List Int)) (ks':List V) (U':Addr->Prop) (r:Addr) (cx:Nat->Addr) (H1 H':Hp),zb K a H1 st ds ll d c' dc' p' cl' ct' lk tp n kd ps mo w P L2 ks' U'->Go (StO st c cl ct U) H H1 (StO st c' cl' ct' U')->NK H ks ks'->yw H1 H'->H1 r=none->H' r=some (.lst (refs cx L'.length))->(∀ i,i < L'.length->H1 (cx i)=none/\cx i≠r/\H' (cx i)=some (.lst ((txi L' i).map V.int)))->Q (.ref r) H')->Ġ K a vs H Q E'
theorem ytv (T:Txt K mg a):wc P w K mg base (CXe P w) 13 a.Mf a.Mg ["self","name"] (Ġ K a):=by
 exists T.Hr.F.okE,ymf,hr;obtain ⟨M,ds,ll,d,c,dc,p,cl,ct,lk,tp,n,kd,ps,mo,w,P,L,ks,U,x,g,rfl,R,hL,k⟩:=h;have am:=R.me;refine yo (y7 (i:=2) ymf.nd rfl (Or.inl rfl) (xr (pv 0) T.A2 T.E4.m (yl7 T) (hr.mono (by decide)) T.E4.B .nil vh (ya (pv 1) ye (yb rfl)))) ?_;refine yo (jc (wu (yy (yuy hr.units) zn (ue ju (yp (yp (pv 0) rfl) rfl) zg (zi (yq yt rfl T.Ae (by right) (ya (pv 2) ye (yb rfl))))) (by with_unfolding_all rfl)) (yf (ve (pv 0) (x6 T.Dm (yeh T) (hr.mono (by decide)) rfl T.Dl T.Cy.B .nil yz (ya (yp (pv 0) rfl) ye (yb rfl))) rfl)) y9)) ?_;refine yo (jc (wu (yy (ι hr.units) (ue ju (yp (yp (pv 0) rfl) rfl) zg (zi (yq yt rfl T.Ae (by right) (ya (pv 2) ye (yb rfl))))) (pv 2) (vg _)) (yf (yu (vn (pv 0) T.A2 T.E5.m (yk2 T) (hr.mono (by decide)) T.E5.B .nil yz (ya (pv 1) ye (yb rfl))))) y9)) ?_;refine ⟨_,(yf (yv (wg (js:=[]) (ys:=[]) rfl (wd (ue ju (yp (yp (pv 0) rfl) rfl) zg (zi (yq yt rfl T.Ae (by right) (ya (pv 2) ye (yb rfl)))))) (fun C s2 H2 fp=>(xn (r:=ynt K) xm rfl T.Ao (by right) (ya (pv 0) ye (yb rfl)))) rfl rfl (hyc:=yx) (hrel:=yx)))),?_⟩;exists 2,1;rfl';refine ⟨M,ds,d,_,_,_,n,kd,ps,w,P,x,g,rfl,am,R.pz,hL,fun l H1 aq af S1=>?_⟩;have aD:=S1 _ _ am;have a6:=R.same S1;have aH:=a6.ch.me;have aC:=a6.ch.hl;have ae:=a6.ch.ht;have aB:=To.len R.pz hL;refine ⟨fun σ2 G=>∃ (c2 Z p2 J N:Addr) (I:List V) (U2:Addr->Prop) (L2:List (Str × List Int)),σ2=[some (.ref M),some (baV x),some (.ref l)]/\zb K a G M ds ll d c2 Z p2 J N lk tp n kd ps mo w P L2 I U2/\Go (StO M c cl ct U) H G (StO M c2 J N U2)/\NK H ks I/\V.non∉I.take g.length/\G l=some (.lst (nmL g))/\¬ StO M c2 J N U2 l,?_,?_⟩
 .rfl';refine zr (SqL.of af) ?_;rfl';refine ycn (SqL.of ae) fun q hq0=>?_;rw [jo,zw]
  with_reducible first | refine y6 hq0 fun H2 S2 e2=>?_ | refine vi hq0 fun H2 S2 e2=>?_
  have a1:=S1.trans S2;have v:=R.same a1;have W:=v.me;have t:=S2 _ _ af;refine ⟨q,_,rfl,rfl,SqL.of e2,fun z hz=>(R.ch.tx.mem z (eK hz)).imp id fun ⟨q,ys,e,hq,_⟩=>⟨q,ys,e,SqL.of (a1 _ _ hq)⟩,?_⟩;by_cases he:(ks.take g.length).any isN=true
  .rw [he];refine ⟨true,rfl,ĵ ?_⟩;rfl';intro c' O nc al aJ;have SQ:yw H2 (upd (upd H2 O (.own c')) c' (.ins a.A1 O [])):=fun b o e=>by rw [yn (yd e nc),yn (yd e al)]; exact e
   refine ⟨c',O,ll,n,lk,tp,kd,ps,rfl,yc,SQ _ _ v.lo,v.n1,v.n6,v.row.same SQ,fun p' a8 a5 U' HE aw ad BE _=>⟨rfl,?_⟩⟩;obtain ⟨hR,gR,SE,hN⟩:=v.re nc al aw ad BE;have az:=SE _ _ W;have ak:l≠M:=fun z=>by rw [z,W] at t; cases t
   rfl';refine ⟨c',O,p',a8,a5,[],U',[],rfl,hR,gR.ahead a1,.nil,by simp,yi ak (SE _ _ t),fun z=>?_⟩;rcases z with z | z
   .exact ak z
   .rw [hN l z] at t; cases t
  .rw [Bool.eq_false_iff.mpr he];refine ⟨false,rfl,Ę ?_⟩;refine ⟨c,dc,p,cl,ct,ks,U,L,rfl,v,Go.refl.same a1,.refl,fun z=>he (List.any_eq_true.mpr ⟨_,z,rfl⟩),t,fun z=>?_⟩;obtain ⟨o,e⟩:=R.lvO l z;rw [aq] at e;cases e
 .rintro σ2 G ⟨c2,Z,p2,J,N,I,U2,L2,rfl,hG,go,ab,ah,ac,ax⟩;have aA:=hG.me;have aL:=hG.ch.me;have an:=hG.ch.hl;refine ⟨fun σ2 F=>∃ (c3 a4 p3 a0 X:Addr) (f:List V) (U3:Addr->Prop) (L3:List (Str × List Int)),σ2=[some (.ref M),some (baV x),some (.ref l)]/\zb K a F M ds ll d c3 a4 p3 a0 X lk tp n kd ps mo w P L3 f U3/\Go (StO M c cl ct U) H F (StO M c3 a0 X U3)/\NK H ks f/\V.non∉f.take g.length/\g=L3.take g.length/\F l=some (.lst (nmL g)),?_,?_⟩
  .rfl';refine zr (SqL.of ac) ?_;rfl';refine ycn (SqL.of an) fun q hq0=>?_;rw [jo,zw,Ú]
   with_reducible first | refine y6 hq0 fun G2 S2 e2=>?_ | refine vi hq0 fun G2 S2 e2=>?_
   have a7:=hG.same S2;have W:=a7.me;have t:=S2 _ _ ac;obtain ⟨y,hy⟩:=hG.way;have a2:=t;rw [Á] at e2 a2;rfl';refine yaz _ _ (fun z hz=>hy.ok R.pz z (by obtain ⟨u,hu,rfl⟩:=di.mp hz; exact di.mpr ⟨u,eK hu,rfl⟩)) (hL.ok R.pz) (SqL.of e2) (SqL.of a2) ?_;by_cases he:(L2.take g.length).map (·.1)=g.map (·.1)
   .rw [dw he];refine ⟨false,rfl,Ę ?_⟩;exact ⟨c2,Z,p2,J,N,I,U2,L2,rfl,a7,go.same S2,ab,ah,To.ahead R.pz.nd R.pz.wf hL hy (by rw [Ú]; exact (yl9 he).symm),t⟩
   .rw [dG he];refine ⟨true,rfl,ĵ ?_⟩;rfl';refine ⟨M,ds,ll,d,c2,Z,p2,J,N,lk,tp,n,kd,ps,mo,w,P,L2,I,U2,x,g,rfl,a7,hL,fun c' O p' a8 a5 ap U' F hC Y as hn=>?_⟩;rfl';exact ⟨c',O,p',a8,a5,ap,U',g,rfl,hC,(go.same S2).trans Y,ab.trans as (fun q e=>go.free (S2.free e)),fun z=>ah (hn (eK z)),(eG).symm,Y.fr _ _ t ax⟩
  .rintro σ2 F ⟨c3,a4,p3,a0,X,f,U3,L3,rfl,hF,ar,au,ag,aj,av⟩;have aE:=hF.me;have aF:=hF.ch.me;have ao:=hF.ch.ht
   have aK:g.length <= L3.length:=by
    have e:=congrArg List.length aj;rw [dM] at e;omega
   rfl';refine zr (SqL.of av) ?_;rfl';refine ycn (SqL.of ao) fun q hq0=>?_;rw [jo,zw];have S1:=y8 (o:=(HO.lst (f.take g.length))) hq0;have e1:upd F q (HO.lst (f.take g.length)) q=some (HO.lst (f.take g.length)):=yc;generalize upd F q (HO.lst (f.take g.length))=F1 at S1 e1 ⊢;have aI:=hF.ch.tx.len;have a3:(f.take g.length).length=g.length:=by rw [dM]; omega
   have aa:=hF.same S1;refine ⟨q,rfl,⟨_,SqL.of e1⟩,fun D hD=>?_⟩;refine ur (K:=K) (xs:=f.take g.length) (fun i G=>∃ cx:Nat->Addr,G D=some (.lst (refs cx i))/\(∀ j,j < i->F1 (cx j)=none/\G (cx j)=some (.lst ((txi g j).map V.int))/\cx j≠D)/\yw F1 G)
    ⟨fun _=>0,yc,fun j hj=>absurd hj (dN j),y8 hD⟩ (fun i G _ ⟨_,_,_,S⟩=>SqL.of (S _ _ e1)) (fun i y G hy hi z=>?_) (fun G z=>?_)
   .obtain ⟨cx,gD,Y,S⟩:=z;rw [a3] at hi;obtain ⟨k',ek,hk⟩:=aa.ch.tx.get (j:=i) (by omega);rw [List.getElem?_take,if_pos hi,ek] at hy;obtain rfl:k'=y:=by cases hy; rfl
    rcases hk with z | ⟨q2,rfl,ai,_⟩
    .refine absurd ?_ ag;rw [<- z];exact dI (i:=i) (by rw [List.getElem?_take,if_pos hi]; exact ek)
    have et:L3[i].2=txi g i:=by
     have e:=congrArg (fun l=>l[i]?) aj;simp only [List.getElem?_take] at e;rw [if_pos hi] at e;unfold txi;rw [dR,dm,e,df (by omega)];rfl
    rw [et] at ai;rfl';refine ⟨q2,_,rfl,.inl (SqL.of (S _ _ ai)),fun c hc0=>?_⟩;have nc:c≠D:=(yd gD hc0).symm
    with_reducible first | refine y6 hc0 fun G2 S2 hc2=>?_ | refine vi hc0 fun G2 S2 hc2=>?_
    refine xu (n:=(f.take g.length).length) (S2 _ _ gD) (vo (by rw [vz]; omega)) (by omega) ?_;refine ⟨upN cx i c,?_,fun j hj=>?_,fun b o e=>yi (yd e hD) (S2 _ _ (S b o e))⟩
    .rw [yc,ut,xo]
     congr 3
     exact uq fun j hj=>(xj hj).symm
    .by_cases z:j=i
     .rw [z,xo];exact ⟨S.free hc0,yi nc hc2,nc⟩
     .have a9:j < i:=by omega
      rw [xj a9];obtain ⟨g1,g2,g3⟩:=Y j a9;exact ⟨g1,yi g3 (S2 _ _ g2),g3⟩
   .obtain ⟨cx,gD,Y,S⟩:=z;rw [a3] at gD Y;exact k c3 a4 p3 a0 X L3 f U3 D cx F1 G aa (ar.same S1) au S hD gD fun i hi=>⟨(Y i hi).1,(Y i hi).2.2,(Y i hi).2.1⟩
theorem yv8:yk ["self","name"] ["self","name"] (yg yq0):=w4 (by right)
inductive j7 (K:W.Frag) (a:Ads) (vs:List V) (H:Hp) (Q:VK) (E:XK):Prop
 | mk (st ds ll d c dc p cl ct:Addr) (lk tp:Nat->Addr) (n:Nat) (kd:Nat->Fin 3) (ps:Nat->List Int) (mo w:Nat) (P:List Pc) (L:List (Str × List Int)) (ks:List V) (U:Addr->Prop) (x:V) (nt:String):(vs=[.ref st,x])->(zb K a H st ds ll d c dc p cl ct lk tp n kd ps mo w P L ks U)->(xx K H x (.type nt))->((∀ s,x=.str s->s.length <= 100000))->((nmV x=false->∀ H',yw H H'->E (.ref a.Ad) none H'))->((∀ b,x=.str b->nmS b=true->(∀ q,q∈P->q.nm≠b)->∀ H',yw H H'->E (.ref a.A5) none H'))->((∀ r,r∈P->x=.str r.nm ->
 ∀ (c' dc' p' cl' ct':Addr) (L2:List (Str × List Int)) (ks':List V) (U':Addr->Prop) (q:Addr) (H1 H':Hp),zb K a H1 st ds ll d c' dc' p' cl' ct' lk tp n kd ps mo w P L2 ks' U'->Go (StO st c cl ct U) H H1 (StO st c' cl' ct' U')->NK H ks ks'->yw H1 H'->H1 q=none->H' q=some (.lst (r.tx.map V.int))->Q (.ref q) H'))->j7 K a vs H Q E
theorem ys4 (T:Txt K mg a):wc P w K mg base (CXe P w) 14 a.Mh a.Mi ["self","name"] (j7 K a):=by
 exists T.Hs.F.okE,yv8,Z;obtain ⟨u,C,N,d,c,X,p,M,W,lk,Y,n,G,o,J,w,P,L,R,U,x,O,rfl,k,ty,hz,k1,k2,k3⟩:=h;have q:=k.me;refine ⟨_,(yh (yu (vn (pv 0) T.A2 T.By.m (ya5 T) (Z.mono (by decide)) T.By.B .nil yz (ya (pv 1) ye (yb rfl)))) (yf (yv (xf wj (vn (pv 0) T.A2 T.Hr.m (ytv T) (Z.mono (by decide)) T.Hr.B .nil yz (ya (pv 1) ye (yb rfl))) (yrh yhv yj) (fun _ _=>rfl))))),?_⟩;exists 2,0;rfl';refine ⟨u,C,d,_,_,_,n,G,o,w,P,x,O,rfl,q,k.pz,ty,hz,k1,k2,fun r f e hb H1 I=>?_⟩;subst e;have b:=k.same I;have S:=b.me;rfl';refine ⟨u,C,N,d,c,X,p,M,W,lk,Y,n,G,o,J,w,P,L,R,U,some r.nm,r.path++[(r.nm,r.tx)],rfl,b,⟨r,f,rfl,rfl⟩,fun c' i p' y j L2 D U' l cx HB H2 h2 g2 nk SB a1 g z=>?_⟩;rfl';obtain ⟨f1,f2,f3⟩:=z r.path.length (by rw [dv,d7]; omega);refine ua (v:=.ref (cx r.path.length)) (SqL.of g) ?_ ?_
 .rw [dv,d7,ut];exact ydu _ _
 .rfl';refine k3 r f rfl c' i p' y j L2 D U' _ HB H2 h2 (g2.ahead I) (NK.refl.trans nk fun _ e=>I.free e) SB f1 ?_;rw [f3];unfold txi;simp
theorem Sto.textof1 {H:Hp} {C:Cf} {P:List Pd} {X:Sx} {Q:VK} {E:XK} (h:Sto K a H st C P X) {b:Str} (hb:nmS b=true) (k1:(∀ q,q∈P->q.nm≠b)->∀ H',yw H H'->E (.ref a.A5) none H')
  (k2:∀ r,r∈P->r.nm=b->∀ Y q H1 H',Sto K a H1 st C P Y->Gx X H H1 Y->yw H1 H'->H1 q=none->H' q=some (.lst (r.tx.map V.int))->Q (.ref q) H'):j7 K a [.ref st,.str b] H Q E:=by
 obtain ⟨v,t,d,c,T,p,F,R,B,A,D,O,L,U,s,rfl,rfl⟩:=h;have J:=Â hb;refine ⟨st,v,t,d,c,T,p,F,R,B,A,C.n,C.kd,C.ps,C.mo,C.w,D,O,L,U,.str b,"str",rfl,s,.str _,(fun x e=>by cases e; omega),(fun z=>by rw [show nmV (.str b)=nmS b from rfl,hb] at z; cases z),(fun b' e _ k=>?_),fun r hr e M i N l j L2 o U' q H1 H' Z g I S m f=>?_⟩
 .cases e;refine k1 fun q f=>?_;obtain ⟨u,G,rfl⟩:=di.mp f;exact k u G
 .cases e;exact k2 r.pd (di.mpr ⟨r,hr,rfl⟩) rfl _ q H1 H' ⟨v,t,d,M,i,N,l,j,B,A,_,_,o,U',Z,rfl,rfl⟩ (Gx.of (g.or (Y:=fun y=>y=d)) I fun q f=>.inl f) S m f
theorem Sto.textof {H:Hp} {C:Cf} {P:List Pd} {X:Sx} {Q:VK} {E:XK} (h:Sto K a H st C P X) {b:Str} (hb:nmS b=true) (k1:(∀ q,q∈P->q.nm≠b)->∀ H',yw H H'->E (.ref a.A5) none H')
  (k2:∀ r,r∈P->r.nm=b->∀ Y q H',Sto K a H' st C P Y->Gx X H H' Y->H q=none->Kf H' Y q (.lst (r.tx.map V.int))->Q (.ref q) H'):j7 K a [.ref st,.str b] H Q E :=
 h.textof1 hb k1 fun r f e Y q j H' d g1 S c i=>k2 r f e Y q H' (d.same S) (g1.same S) (g1.g.free c) (Kf.new d c i)
theorem yt2:yk ["self","name"] ["self","name"] (yg yrn):=w4 (by right)
inductive τ (K:W.Frag) (a:Ads) (vs:List V) (H:Hp) (Q:VK) (E:XK):Prop
 | mk (st ds d:Addr) (vl vm vc:V) (n:Nat) (kd:Nat->Fin 3) (ps:Nat->List Int) (w:Nat) (P:List Pc) (x:V) (nt:String):(vs=[.ref st,x])->(H st=some (.ins a.A0 ds (xi vl vm (.ref d) vc)))->(Ķ a H d n kd ps w P)->(xx K H x (.type nt))->((∀ s,x=.str s->s.length <= 100000))->((nmV x=false->∀ H',yw H H'->E (.ref a.Ad) none H'))->((∀ b,x=.str b->nmS b=true->(∀ q,q∈P->q.nm≠b)->∀ H',yw H H'->E (.ref a.A5) none H'))->((∀ r,r∈P->x=.str r.nm->nmS r.nm=true->∀ l H',H l=none->H' l=some (.lst ((r.by n kd ps).map V.int))->yw H H'->Q (.ref l) H'))->τ K a vs H Q E
theorem yio (T:Txt K mg a):wc P w K mg base (CXe P w) 4 a.Mj a.Mm ["self","name"] (τ K a):=by
 exists T.Cz.F.okE,yt2,N;obtain ⟨q,t,d,v,z,y,n,u,p,w,P,x,k,rfl,g,o,D,J,O,G,C⟩:=h;refine ⟨_,(yf (yv (xn xm rfl T.Ao (by right) (ya (yp (vn (pv 0) T.A2 T.By.m (ya5 T) (N.mono (by decide)) T.By.B .nil yz (ya (pv 1) ye (yb rfl))) rfl) ye (yb rfl))))),?_⟩;exists 2,0;rfl';refine ⟨q,t,d,v,z,y,n,u,p,w,P,x,k,rfl,g,o,D,J,O,G,fun r c e R S j=>?_⟩;obtain ⟨I,f⟩:=(o.same j).ob r c;rfl';refine ⟨r.dl,_,rfl,.inl (SqL.of f),fun l b=>?_⟩;exact C r c e R l _ (j.free b) yc (j.trans (y8 b))
theorem Sto.bytesof {H:Hp} {C:Cf} {P:List Pd} {X:Sx} {Q:VK} {E:XK} (h:Sto K a H st C P X) {b:Str} (hb:nmS b=true) (k1:(∀ q,q∈P->q.nm≠b)->∀ H',yw H H'->E (.ref a.A5) none H')
  (k2:∀ r,r∈P->r.nm=b->∀ l H',H l=none->H' l=some (.lst ((r.by C).map V.int))->yw H H'->Q (.ref l) H'):τ K a [.ref st,.str b] H Q E:=by
 obtain ⟨o,F,d,c,I,p,A,G,y,J,i,D,B,U,s,rfl,rfl⟩:=h;have j:=Â hb;refine ⟨st,o,d,_,_,_,C.n,C.kd,C.ps,C.w,i,.str b,"str",rfl,s.me,s.pz,.str _,(fun x e=>by cases e; omega),(fun z=>by rw [show nmV (.str b)=nmS b from rfl,hb] at z; cases z),(fun L e _ f=>?_),fun r m e _ l H' g v S=>?_⟩
 .cases e;refine k1 fun q k=>?_;obtain ⟨u,t,rfl⟩:=di.mp k;exact f u t
 .cases e;exact k2 r.pd (di.mpr ⟨r,m,rfl⟩) rfl l H' g v S
theorem yvd:yk ["self","name"] ["self","name"] (yg yqq):=w4 (by right)
inductive ü (K:W.Frag) (a:Ads) (vs:List V) (H:Hp) (Q:VK) (E:XK):Prop
 | mk (st ds d:Addr) (vl vm vc:V) (n:Nat) (kd:Nat->Fin 3) (ps:Nat->List Int) (w:Nat) (P:List Pc) (x:V) (nt:String):(vs=[.ref st,x])->(H st=some (.ins a.A0 ds (xi vl vm (.ref d) vc)))->(Ķ a H d n kd ps w P)->(xx K H x (.type nt))->((∀ s,x=.str s->s.length <= 100000))->((nmV x=false->∀ H',yw H H'->E (.ref a.Ad) none H'))->((∀ b,x=.str b->nmS b=true->(∀ q,q∈P->q.nm≠b)->∀ H',yw H H'->E (.ref a.A5) none H'))->((∀ r,r∈P->x=.str r.nm->nmS r.nm=true->∀ H',yw H H'->Q (baV r.bs) H'))->ü K a vs H Q E
theorem yug (T:Txt K mg a):wc P w K mg base (CXe P w) 4 a.Mn a.Mo ["self","name"] (ü K a):=by
 exists T.Ht.F.okE,yvd,J;obtain ⟨k,l,d,p,t,q,n,o,j,w,P,x,g,rfl,c,i,y,D,L,z,v⟩:=h;refine ⟨_,(yf (yv (yp (vn (pv 0) T.A2 T.By.m (ya5 T) (J.mono (by decide)) T.By.B .nil yz (ya (pv 1) ye (yb rfl))) rfl))),?_⟩;exists 2,0;rfl';refine ⟨k,l,d,p,t,q,n,o,j,w,P,x,g,rfl,c,i,y,D,L,z,fun r b e M N u=>?_⟩;have C:=((i.same u).ob r b).1;rfl';exact v r b e M _ u
theorem Sto.baseof {H:Hp} {C:Cf} {P:List Pd} {X:Sx} {Q:VK} {E:XK} (h:Sto K a H st C P X) {b:Str} (hb:nmS b=true) (k1:(∀ q,q∈P->q.nm≠b)->∀ H',yw H H'->E (.ref a.A5) none H')
  (k2:∀ r,r∈P->r.nm=b->∀ H',yw H H'->Q (baV r.bs) H'):ü K a [.ref st,.str b] H Q E:=by
 obtain ⟨l,y,d,c,B,p,o,A,G,D,g,v,t,U,s,rfl,rfl⟩:=h;have i:=Â hb;refine ⟨st,l,d,_,_,_,C.n,C.kd,C.ps,C.w,g,.str b,"str",rfl,s.me,s.pz,.str _,(fun x e=>by cases e; omega),(fun z=>by rw [show nmV (.str b)=nmS b from rfl,hb] at z; cases z),(fun F e _ f=>?_),fun r k e _ H' S=>?_⟩
 .cases e;refine k1 fun q j=>?_;obtain ⟨u,m,rfl⟩:=di.mp j;exact f u m
 .cases e;exact k2 r.pd (di.mpr ⟨r,k,rfl⟩) rfl H' S
theorem yu3 (x:Option Str) (b:Str):yyh (baV x) (.str b)=true/\decide (baV x=.str b)=decide (x=some b):=by
 cases x with
 | none=>exact ⟨rfl,by rw [dG (fun z=>nomatch z),dG (fun z=>nomatch z)]⟩
 | some y =>
  refine ⟨rfl,?_⟩;by_cases e:y=b
  .rw [dw (by rw [e]; rfl),dw (by rw [e])]
  .rw [dG (fun z=>e (by cases z; rfl)),dG (fun z=>e (by cases z; rfl))]
theorem yw9:yk ["self","name"] ["self","name"] (yg yq1):=w4 (by right)
inductive yb6 (K:W.Frag) (a:Ads) (vs:List V) (H:Hp) (Q:VK) (E:XK):Prop
 | mk (st ds ll d c dc p cl ct:Addr) (lk tp:Nat->Addr) (n:Nat) (kd:Nat->Fin 3) (ps:Nat->List Int) (mo w:Nat) (P:List Pc) (L:List (Str × List Int)) (ks:List V) (U:Addr->Prop) (x:V) (nt:String):(vs=[.ref st,x])->(zb K a H st ds ll d c dc p cl ct lk tp n kd ps mo w P L ks U)->(xx K H x (.type nt))->((∀ s,x=.str s->s.length <= 100000))->((nmV x=false->∀ H',yw H H'->E (.ref a.Ad) none H'))->((∀ b,x=.str b->nmS b=true->(∀ q,q∈P->q.nm≠b)->∀ H',yw H H'->E (.ref a.A5) none H'))->((∀ r,r∈P->x=.str r.nm->(∃ q,q∈P/\q.bs=some r.nm)->∀ H',yw H H'->E (.ref a.B9) none H'))->((∀ r,r∈P->x=.str r.nm->(∀ q,q∈P->q.bs≠some r.nm) ->
 ∀ (c' dc' p' cl' ct':Addr) (U':Addr->Prop) (H':Hp),zb K a H' st ds ll d c' dc' p' cl' ct' lk tp n kd ps mo w (P.filter fun q=>decide (q.nm≠r.nm)) [] [] U'->Go (fun y=>y=d\/StO st c cl ct U y) H H' (fun y=>y=d\/StO st c' cl' ct' U' y)->Q .non H'))->yb6 K a vs H Q E
theorem ymj (T:Txt K mg a):wc P w K mg base (CXe P w) 10 a.Mq a.Mr ["self","name"] (yb6 K a):=by
 exists T.E6.F.okE,yw9,hr;obtain ⟨st,ds,ll,d,c,dc,p,cl,ct,lk,tp,n,kd,ps,mo,w,P,L,ks,U,x,nt,rfl,hS,ty,hz,k1,k2,k3,k4⟩:=h;have a3:=hS.me;refine ⟨_,(yh (yu (vn (pv 0) T.A2 T.By.m (ya5 T) (hr.mono (by decide)) T.By.B .nil yz (ya (pv 1) ye (yb rfl)))) (yh (wu (x8 (yq (yi5 rfl) rfl T.O0 (by right) (ya (yno (wg (js:=[1]) (ys:=["name"]) rfl (yo3 (yp (pv 0) rfl)) (fun C s2 H2 fp=>(jq uk (yb5 (K:=K) rfl (pv 0) rfl) (pv 1) (vg _))) rfl rfl (hyc:=(all_cons rfl yx)) (hrel:=(all_cons rfl yx)))) ye (yb rfl)))) (yf (xb rfl T.P9 T.Fz (ya w6 ye (yb rfl)))) y9) (yh (yu (yjm (yp (pv 0) rfl) (pv 1) ⟨rfl,rfl,rfl,rfl⟩)) (yf (ve (pv 0) (x6 T.Dm (yeh T) (hr.mono (by decide)) rfl T.Dl T.Cy.B .nil yz (ya (yp (pv 0) rfl) ye (yb rfl))) rfl))))),?_⟩;exists 2,0;rfl';refine ⟨st,ds,d,_,_,_,n,kd,ps,w,P,x,nt,rfl,a3,hS.pz,ty,hz,k1,k2,fun r J e hb H1 S1=>?_⟩;subst e;have g:=hS.same S1;have a9:=g.me;rfl';have j:=g.pz.dk;refine ⟨d,pcs P,rfl,j,fun o D hD=>?_⟩;have Z:(pcs P).length=P.length:=cH _;have ac:=g.pz.z;have a1:D≠d:=fun z=>by rw [z,yc] at hD; cases hD
 refine ye5 (fun i G=>G D=some (.lst ((P.take i).map fun q=>V.bl (decide (q.bs=some r.nm))))/\yw (upd H1 d (.frz o (.dK (pcs P)))) G) ⟨yc,y8 hD⟩ (fun i G _ z=>z.2 _ _ yc) (fun i kk v G l hi z=>?_) (fun G z=>?_)
 .obtain ⟨gD,S⟩:=z;rw [Z] at hi;have N:P[i]?=some P[i]:=df hi;unfold pcs at l;rw [dm,N] at l;obtain rfl:v=.ref (P[i]).ob:=by cases l; rfl
  have M:=(g.pz.ob _ (ei hi)).1;have a8:=S _ _ (yi (fun z=>by rw [z,j] at M; cases M) M);rfl';obtain ⟨b1,b2⟩:=yu3 (P[i]).bs r.nm;refine ⟨b1,?_⟩;rw [b2];refine xu (n:=(pcs P).length) gD (vo (by rw [cH,dM]; omega)) (by omega) ⟨?_,fun y o e=>yi (yd e hD) (S _ _ e)⟩;rw [yc,ed hi,dF];rfl
 .obtain ⟨gD,S⟩:=z;rw [Z,eG] at gD;refine ⟨d,o,.dK (pcs P),(fun o u e=>by rw [j] at e; cases e),S _ _ yc,?_⟩
  have S3:yw H1 (upd G d (.dK (pcs P))):=fun y o' e=>by
   by_cases z:y=d
   .rw [z,yc]; rw [z,j] at e; exact e
   .exact yi z (S _ _ (yi z e))
  have X:(upd G d (.dK (pcs P))) D=some (.lst ((P.map fun q=>decide (q.bs=some r.nm)).map V.bl)):=yi a1 (by rw [gD,dX]; rfl);generalize upd G d (.dK (pcs P))=H3 at S3 X ⊢;have f:=g.same S3;have a7:=f.me;rfl';refine ⟨D,_,rfl,SqL.of X,?_⟩;by_cases hu:∃ q,q∈P/\q.bs=some r.nm
  .have e:(P.map fun q=>decide (q.bs=some r.nm)).any id=true:=by
    obtain ⟨q,N,e⟩:=hu;exact List.any_eq_true.mpr ⟨true,di.mpr ⟨q,N,dw e⟩,rfl⟩
   rw [e];refine ⟨true,rfl,ĵ ?_⟩;rfl';exact ⟨by walk_at "len",k3 r J rfl hu _ (S1.trans S3)⟩
  .have I:∀ q,q∈P->q.bs≠some r.nm:=fun q N e=>hu ⟨q,N,e⟩
   have e:(P.map fun q=>decide (q.bs=some r.nm)).any id=false:=by
    rw [List.any_map,List.any_eq_false];intro q N;simpa using I q N
   rw [e];refine ⟨false,rfl,Ę ?_⟩;rfl';refine ⟨d,rfl,.inl ⟨_,.of f.pz.dk⟩,?_⟩;rfl';refine ⟨pcs P,.inr r.nm,_,f.pz.dk,rfl,yh5 f.pz.nd J,?_⟩;have t:=f.b.drop I
   have gA:Go (fun y=>y=d\/StO st c cl ct U y) H3 (upd H3 d (.dK (Ñ (pcs P) (.inr r.nm)))) (fun y=>y=d\/StO st c cl ct U y):=⟨fun y o e no=>yi (fun z=>no (.inl z)) e,fun y z=>.inl z,fun y o e=>by
    by_cases z:y=d
    .exact ⟨_,by rw [z]; exact yc⟩
    .exact ⟨o,yi z e⟩⟩
   generalize upd H3 d (.dK (Ñ (pcs P) (.inr r.nm)))=H4 at t gA ⊢;have R:=t.me;rfl';intro c' k nc W ab;have SQ:yw H4 (upd (upd H4 k (.own c')) c' (.ins a.A1 k [])):=fun b o e=>by rw [yn (yd e nc),yn (yd e W)]; exact e
   refine ⟨c',k,ll,n,lk,tp,kd,ps,rfl,yc,SQ _ _ t.lo,t.n1,t.n6,t.row.same SQ,fun p' a5 a2 U' HE a0 O BE _=>⟨rfl,?_⟩⟩;obtain ⟨hR,gR,SE,hN⟩:=t.re nc W a0 O BE;have a6:=SE _ _ R;rfl';exact k4 r J rfl I c' k p' a5 a2 U' _ hR ((gA.ahead (S1.trans S3)).trans ((gR.or (Y:=fun y=>y=d)).wide fun y z=>z.imp id .inl))
theorem yft (Q:List Pc) (b:Str):(Q.filter fun q=>decide (q.nm≠b)).map Pc.pd=(Q.map Pc.pd).filter fun q=>decide (q.nm≠b):=by
 rw [List.filter_map];rfl
theorem Sto.drop {H:Hp} {C:Cf} {P:List Pd} {X:Sx} {Q:VK} {E:XK} (h:Sto K a H st C P X) {b:Str} (hb:nmS b=true) (k1:(∀ q,q∈P->q.nm≠b)->∀ H',yw H H'->E (.ref a.A5) none H') (k2:∀ r,r∈P->r.nm=b->(∃ q,q∈P/\q.bs=some b)->∀ H',yw H H'->E (.ref a.B9) none H')
  (k3:∀ r,r∈P->r.nm=b->(∀ q,q∈P->q.bs≠some b)->∀ Y H',Sto K a H' st C (P.filter fun q=>decide (q.nm≠b)) Y->Gx X H H' Y->Q .non H'):yb6 K a [.ref st,.str b] H Q E:=by
 obtain ⟨y,v,d,c,O,p,F,N,B,A,D,M,I,U,s,rfl,rfl⟩:=h;have G:=Â hb;refine ⟨st,y,v,d,c,O,p,F,N,B,A,C.n,C.kd,C.ps,C.mo,C.w,D,M,I,U,.str b,"str",rfl,s,.str _,(fun x e=>by cases e; omega),(fun z=>by rw [show nmV (.str b)=nmS b from rfl,hb] at z; cases z),(fun T e _ l=>?_),(fun r t e i=>?_),fun r t e i J j L o k S H' R g=>?_⟩
 .cases e;refine k1 fun q f=>?_;obtain ⟨u,i,rfl⟩:=di.mp f;exact l u i
 .cases e;obtain ⟨q,f,e⟩:=i;exact k2 r.pd (di.mpr ⟨r,t,rfl⟩) rfl ⟨q.pd,di.mpr ⟨q,f,rfl⟩,e⟩
 .cases e;refine k3 r.pd (di.mpr ⟨r,t,rfl⟩) rfl (fun q f=>?_) _ H' ⟨y,v,d,J,j,L,o,k,B,A,_,_,[],S,R,yft _ _,rfl⟩ (Gx.of g NK.nil fun q f=>.inl (eW.mp f).1);obtain ⟨u,m,rfl⟩:=di.mp f;exact i u m
theorem yij:yk ["_law_script","_law_k","_law_cell"] ["_law_script","_law_k"] (yg yrl):=w4 (by right)
inductive ym5 (K:W.Frag) (vs:List V) (H:Hp) (Q:VK) (E':XK):Prop
 | mk (l:Addr) (ns:List Int) (j:Nat):(vs=[.ref l,.int j])->(SqL K H l (ns.map V.int))->(j <= 1000)->(∀ n:Int,0 <= n->n < 2147483647->Q (.int n) H)->ym5 K vs H Q E'
theorem yav (T:Txt K mg a):wc P w K mg base CX0 1 a.Ms a.Mt ["_law_script","_law_k"] (ym5 K):=by
 exists T.Av.F.ok,yij,o;obtain ⟨l,d,j,rfl,f,q,k⟩:=h;refine ⟨_,(yh (y7 (i:=2) yij.nd rfl (Or.inl rfl) yj) (yh (jc (wu (yy ych (pv 1) (yq yt rfl T.Ae (by right) (ya (pv 0) ye (yb rfl))) (vg _)) (yf (y7 (i:=2) yij.nd rfl (Or.inl rfl) (yr xq (xf wj (pv 0) (pv 1) (fun _ _=>rfl)) yj))) y9)) (yf (yv (yr xq (yr xa (yr wx (yr wx (yr wx (yr xa (pv 2) (pv 2)) (yr xa yj (pv 2))) (yr xa (yr xa yj (pv 1)) (pv 1))) yj) yj) yj))))),?_⟩;exists 2,1;rfl';refine yir (fun σ' G=>H=G/\∃ c:Int,σ'=[some (.ref l),some (.int j),some (.int c)]/\0 <= c/\c < 2147483629) ?_ ?_
 .rfl';refine zr f ?_;rw [cH];rfl';refine zd (fun n=>?_) (fun n=>?_)
  .have e:j < d.length:=by omega
   rfl';refine ua (v:=V.int d[j]) f (vw (by rw [dm,df e]; rfl)) ?_;rfl';exact ⟨rfl,_,rfl,eT _ (by decide),eH _ (by decide)⟩
  .rfl';exact ⟨rfl,0,rfl,by decide,by decide⟩
 .rintro σ' G ⟨rfl,c,rfl,p,u⟩;have t:(0:Int) <= (j:Int)/\(j:Int) <= 1000:=by omega
  have r:(0:Int) <= 5 * (j:Int)/\5 * (j:Int) <= 5000:=by omega
  rfl';exact k _ (eT _ (by decide)) (eH _ (by decide))
theorem Ì:yk ["_law_cell","_law_most","_law_many","_law_looks_here","_law_k","_law_marks","_law_places"] ["_law_cell","_law_most"] (yg yq3):=w4 (by right)
inductive ydg  (vs:List V) (H:Hp) (Q:VK) (E':XK):Prop
 | mk (c:Int) (m:Nat):(vs=[.int c,.int m])->(0 <= c)->(c < 2147483647)->(1 <= m)->(m <= 6)->(∀ r (n:Nat) (lk:Nat->Addr) (kd:Nat->Fin 3) (tp:Nat->Addr) (ps:Nat->List Int) H',H r=none->H' r=some (.lst (refs lk n))->1 <= n->n <= 6->xw H' n lk kd tp ps->yw H H'->Q (.ref r) H')->ydg vs H Q E'
theorem yla (T:Txt K mg a):wc P w K mg base CX0 1 a.Mu a.Mv ["_law_cell","_law_most"] ydg:=by
 exists T.D0.F.ok,Ì,hr;obtain ⟨c,m,rfl,X,Y,m1,m6,k⟩:=h;have mp:(0:Int) < (m:Int):=by omega
 refine ⟨_,(yh (y7 (i:=2) Ì.nd rfl (Or.inl rfl) (yr wx yj (yr xq (pv 0) (pv 1)))) (yh (y7 (i:=3) Ì.nd rfl (Or.inl rfl) (wq ye)) (yh (za PassesOwn.never rfl (yab rfl T.D4 (ya (pv 2) ye (yb rfl))) (wb (i:=4) Ì.nd rfl (Or.inl rfl)) (yh (y7 (i:=0) Ì.nd rfl (Or.inl rfl) (yr xq (yr wx (yr wx (yr xa (pv 0) yj) (yr xa yj (pv 4))) yj) yj)) (yh (y7 (i:=5) Ì.nd rfl (Or.inr rfl) (yr ymi (yr xq (yr vy (pv 0) yj) yj) (yr xq (yr vy (pv 0) yj) yj))) (yh (jc (wu (yy uk (yr xq (yr vy (pv 0) yj) yj) yj (vg _)) (yf (y7 (i:=5) Ì.nd rfl (Or.inr rfl) (yr xq (yr vy (pv 0) yj) yj))) y9)) (yh (ycz (i:=6) (js:=[5]) (ys:=["_law_marks"]) Ì.nd rfl rfl rfl (yfx rfl T.D4 (ya yj (ya yj ye (yb rfl)) (yb rfl))) (fun C s2 H2 fp=>(yy uk (yr ymi (yr ylx (pv 1) (yr uu (pv 0) yj)) yj) yj (vg _))) (fun C s2 H2 fp=>(pv 0)) rfl rfl (hyc:=(all_cons rfl yx)) (hrel:=(all_cons rfl yx))) (yf (yu (Ä PySem.F.plainAttrs_list PySem.F.slot_list_append PySem.F.type_list_append w9 (pv 3) (ya (yej (ya (xf wj (wq (ya w6 (ya w6 (ya w6 ye (yb rfl)) (yb rfl)) (yb rfl))) (yr xq (pv 0) yj) (fun _ _=>rfl)) (ya (xn j4 rfl T.Cn (by right) (ya (ue ju (pv 6) zg (zi yj)) ye (yb rfl))) ye (yb rfl)) (yb rfl))) ye (yb rfl)))))))))) (yf (yv (pv 3)))))),?_⟩;exists 2,5;rfl'
 obtain ⟨n,hn,n1,n6⟩:∃ n:Nat,1+c % (m:Int)=(n:Int)/\1 <= n/\n <= 6:=by
  have h0:=eT c (show (m:Int)≠0 by omega);have h1:=eH c mp;exact ⟨(1+c % (m:Int)).toNat,by omega,by omega,by omega⟩
 rw [hn];refine ⟨by walk_at "len",fun L hL0=>?_⟩
 with_reducible first | refine y6 hL0 fun H1 S1 hL1=>?_ | refine vi hL0 fun H1 S1 hL1=>?_
 rfl';refine ⟨_,rfl,by omega,by omega,ž (n:=n) (fun i σ2 G=>∃ (c:Int) (v1 Z W:Option V) (v:Nat->Addr) (R:Nat->Fin 3) (O:Nat->Addr) (I:Nat->List Int),σ2=[some (.int c),some (.int m),some (.int n),some (.ref L),v1,Z,W]/\0 <= c/\c < 2147483647/\G L=some (.lst (refs v i))/\xw G i v R O I/\yw H G)
  ⟨c,_,_,_,fun _=>0,fun _=>0,fun _=>0,fun _=>[],rfl,X,Y,hL1,fun j q=>absurd q (dN j),S1⟩ ?_ ?_⟩
 .clear hn X Y c;rintro i σ2 G hi ⟨c,v1,Z,W,v,R,O,I,rfl,X,Y,gL,gR,SG⟩;rfl';have d0:0 <= (c * 48271+11 * (0+(i:Int))+7) % 2147483647:=eT _ (by decide);have d1:(c * 48271+11 * (0+(i:Int))+7) % 2147483647 < 2147483647:=eH _ (by decide);generalize (c * 48271+11 * (0+(i:Int))+7) % 2147483647=d at d0 d1 ⊢;refine yir (fun σ' r=>G=r/\∃ mk:Int,σ'=[some (.int d),some (.int m),some (.int n),some (.ref L),some (.int (0+(i:Int))),some (.int mk),W]) ?_ ?_
  .rfl';refine zd (fun hb=>?_) (fun hb=>?_)
   .rfl';exact ⟨rfl,_,rfl⟩
   .rfl';exact ⟨rfl,_,rfl⟩
  rintro σ' r ⟨rfl,mk,rfl⟩;rfl';refine ⟨1,9,rfl,⟨by decide,by decide,by decide,by decide⟩,fun D hD=>?_⟩
  refine yb1 (lo:=1) (n:=8) (fun j r=>∃ f:List Int,r D=some (.lst (f.map V.int))/\(∀ p∈f,1 <= p/\p <= (j:Int))/\f.Pairwise (· < ·)/\f.length <= j/\yw G r) ⟨[],yc,fun _ z=>(nomatch z),List.Pairwise.nil,dh _,y8 hD⟩ (fun j r q z=>?_) (fun G3 z=>?_)
  .obtain ⟨f,h1,h2,h3,h4,S⟩:=z;rfl';refine i_I (by omega) ?_;rfl';refine zd (fun hb=>?_) (fun hb=>?_)
   .rfl';refine xu (n:=8) h1 (vo (by rw [cH]; omega)) q ?_;refine ⟨f++[1+(j:Int)],by rw [yc,dF]; rfl,fun p N=>?_,?_,by rw [dv]; show _+1 <= _; omega,fun b o e=>yi (yd e hD) (S b o e)⟩
    .rcases dY.mp N with h | h
     .have:=h2 p h;omega
     .rw [dB.mp h];omega
    .refine List.pairwise_append.mpr ⟨h3,List.pairwise_singleton _ _,fun x hx y hy=>?_⟩;rw [dB.mp hy];have:=h2 x hx;omega
   .exact Ź (n:=8) q ⟨f,h1,fun p N=>by have:=h2 p N; omega,h3,by omega,S⟩
  obtain ⟨f,a0,N,hw,_,S3⟩:=z;have M:=S3 _ _ gL;rfl';refine z8 M ?_;rfl';refine ⟨by walk_at "len",fun q2 hq2=>?_⟩
  with_reducible first | refine y6 hq2 fun G4 T4 hq4=>?_ | refine vi hq2 fun G4 T4 hq4=>?_
  rfl';obtain ⟨kk,hk⟩:=yn4 d;refine ua (SqL.of hq4) hk ?_;rfl';refine ycn (SqL.of (T4 _ _ a0)) fun u hu=>?_;have ec:ycq (f.map V.int) none (some 4)=(f.take 4).map V.int:=by rw [List.map_take]; exact zw 4
  rw [ec]
  with_reducible first | refine y6 hu fun G5 T5 hu5=>?_ | refine vi hu fun G5 T5 hu5=>?_
  refine ⟨u,_,rfl,.inl ⟨SqL.of hu5,fun U htp=>?_⟩⟩
  with_reducible first | refine y6 htp fun G6 T6 htp6=>?_ | refine vi htp fun G6 T6 htp6=>?_
  rfl';refine ⟨by walk_at "len",fun t ht=>?_⟩
  with_reducible first | refine y6 ht fun G7 T7 ht7=>?_ | refine vi ht fun G7 T7 ht7=>?_
  have J:=T4.trans (T5.trans (T6.trans T7));have l:=J _ _ M;have B:=S3.trans J;rfl';refine ub l (vo (by rw [vz]; omega)) ?_;have g7:LkG G7 (.ref t) kk U (f.take 4):=⟨t,rfl,ht7,T7 _ _ htp6,yfz (by rw [dM]; omega) (fun p h=>N p (eK h)) hw.take⟩;rfl';refine ⟨d,_,_,_,upN v i t,upN R i kk,upN O i U,upN I i (f.take 4),rfl,d0,d1,?_,fun j q=>?_,fun b o e=>yi (yd e hL0) (B _ _ (SG b o e))⟩
  .rw [yc,ut,xo]
   congr 3
   exact uq fun j q=>(xj q).symm
  .by_cases z:j=i
   .subst z;rw [xo,xo,xo,xo];exact g7.upd l
   .have g:j < i:=by omega
    rw [xj g,xj g,xj g,xj g];exact ((gR j g).same B).upd l
 .rintro σ2 G ⟨c,v1,Z,W,v,R,O,I,rfl,X,Y,gL,gR,SG⟩;rfl';exact k L n v R O I G hL0 gL n1 n6 gR SG
def FF (X X2:Sx) (M:Addr->Prop):Addr->Prop:=fun y=>X.f y\/X2.f y\/M y
def Kq (H:Hp) (F:Addr->Prop) (x:Addr) (o:HO):Prop:=H x=some o/\¬ F x
theorem Kq.go {H H':Hp} {F:Addr->Prop} {x:Addr} {o:HO} (h:Kq H F x o) (g:Go F H H' G):Kq H' G x o:=⟨g.fr _ _ h.1 h.2,fun w=>(g.nw x w).elim h.2 fun e=>by rw [h.1] at e; cases e⟩
structure W2 (K:W.Frag) (a:Ads) (H:Hp) (M:Addr->Prop) (st:Addr) (C:Cf) (P:List Pd) (X:Sx) (st2:Addr) (C2:Cf) (P2:List Pd) (X2:Sx):Prop where
 s:Sto K a H st C P X
 o:Sto K a H st2 C2 P2 X2
 p:Sep X X2
 m:∀ y,M y->¬ X.f y/\¬ X2.f y/\∃ xs,H y=some (.lst xs)
section
variable {H H':Hp} {M:Addr->Prop} {C:Cf} {P P':List Pd} {X Y:Sx} {C2:Cf} {P2:List Pd} {X2:Sx}
theorem W2.same (h:W2 K a H M st C P X st2 C2 P2 X2) (S:yw H H'):W2 K a H' M st C P X st2 C2 P2 X2:=⟨h.s.same S,h.o.same S,h.p,fun y w=>⟨(h.m y w).1,(h.m y w).2.1,let ⟨xs,e⟩:=(h.m y w).2.2; ⟨xs,S _ _ e⟩⟩⟩
theorem W2.swap (h:W2 K a H M st C P X st2 C2 P2 X2):W2 K a H M st2 C2 P2 X2 st C P X:=⟨h.o,h.s,h.p.symm,fun y w=>⟨(h.m y w).2.1,(h.m y w).1,(h.m y w).2.2⟩⟩
theorem W2.lv (h:W2 K a H M st C P X st2 C2 P2 X2) (w:FF X X2 M y):∃ o,H y=some o:=by
 rcases w with w | w | w
 .exact h.s.live y w
 .exact h.o.live y w
 .obtain ⟨b,e⟩:=(h.m y w).2.2;exact ⟨_,e⟩
theorem W2.new (h:W2 K a H M st C P X st2 C2 P2 X2) {x:Addr} {o:HO} (hx:H x=none) (e:H' x=some o):Kq H' (FF X X2 M) x o:=⟨e,fun w=>by
 obtain ⟨c,b⟩:=h.lv w;rw [hx] at b;cases b⟩
theorem Go.sm {F:Addr->Prop} (S:yw H H'):Go F H H' F:=⟨fun c o e _=>S _ _ e,fun _ w=>.inl w,fun c o e=>⟨o,S _ _ e⟩⟩
theorem W2.go (h:W2 K a H M st C P X st2 C2 P2 X2) (s:Sto K a H' st C P' Y) (g:Gx X H H' Y):W2 K a H' M st C P' Y st2 C2 P2 X2/\Go (FF X X2 M) H H' (FF Y X2 M)/\∀ y o,M y->H y=some o->H' y=some o:=by
 obtain ⟨j,k⟩:=h.o.oth h.s h.p.symm g;have d:∀ y o,M y->H y=some o->H' y=some o:=fun y o w e=>g.g.fr _ _ e fun z=>(h.m y w).1 (h.s.wf y z);refine ⟨⟨s,j,k.symm,fun y w=>⟨fun z=>(g.f y z).elim (h.m y w).1 fun e=>?_,(h.m y w).2.1,?_⟩⟩,⟨fun c o e n=>g.g.fr _ _ e fun z=>n (.inl (h.s.wf c z)),fun c w=>?_,g.g.lv⟩,d⟩
 .obtain ⟨i,b⟩:=(h.m y w).2.2;rw [e] at b;cases b
 .obtain ⟨i,b⟩:=(h.m y w).2.2;exact ⟨i,d _ _ w b⟩
 .rcases w with w | w
  .exact (g.f c w).imp .inl id
  .exact .inl (.inr w)
theorem W2.but (h:W2 K a H M st C P X st2 C2 P2 X2) {xs ys:List V} (w:M y) (e:H y=some (.lst xs)) (hx:∀ x∈xs,∃ q,x=V.ref q/\ysf (H q)):W2 K a (upd H y (.lst ys)) M st C P X st2 C2 P2 X2/\Go (FF X X2 M) H (upd H y (.lst ys)) (FF X X2 M)/\∀ z o,z≠y->H z=some o->upd H y (.lst ys) z=some o:=by
 have b:WSh H fun z=>z=y:=WSh.ls e fun x q=>.inr (.inr (hx x q));refine ⟨⟨h.s.but b (h.m y w).1 But.upd,h.o.but b (h.m y w).2.1 But.upd,h.p,fun z v=>⟨(h.m z v).1,(h.m z v).2.1,?_⟩⟩,⟨fun c o e n=>yi (fun z=>n (.inr (.inr (by rw [z]; exact w)))) e,fun _ w=>.inl w,fun c o e=>?_⟩,fun z o n e=>yi n e⟩
 .by_cases q:z=y
  .rw [q]; exact ⟨_,yc⟩
  .obtain ⟨d,f⟩:=(h.m z v).2.2;exact ⟨d,yi q f⟩
 .by_cases q:c=y
  .rw [q]; exact ⟨_,yc⟩
  .exact ⟨o,yi q e⟩
end
def mlV (tu:Str->Addr) (P:List Pd):List V:=P.map fun q=>V.ref (tu q.nm)
structure Ml (H:Hp) (F:Addr->Prop) (P:List Pd) (tu tx:Str->Addr):Prop where
 t:∀ q,q∈P->Kq H F (tu q.nm) (.tup [.str q.nm,.ref (tx q.nm),baV q.bs])
 x:∀ q,q∈P->Kq H F (tx q.nm) (.lst (q.tx.map V.int))
theorem Ml.go {H H':Hp} {F:Addr->Prop} {P:List Pd} {tx:Str->Addr} (h:Ml H F P tu tx) (g:Go F H H' G):Ml H' G P tu tx:=⟨fun q a=>(h.t q a).go g,fun q a=>(h.x q a).go g⟩
theorem Ml.no {H:Hp} {F:Addr->Prop} {P:List Pd} {tx:Str->Addr} (h:Ml H F P tu tx):∀ x∈mlV tu P,∃ q,x=V.ref q/\ysf (H q):=fun x a=>by
 obtain ⟨q,b,rfl⟩:=di.mp a;exact ⟨_,rfl,.inr ⟨_,(h.t q b).1,by simp⟩⟩
theorem yh0 {P:List Pd} {x:V} (h:(mlV tu P)[i]?=some x):∃ q,q∈P/\P[i]?=some q/\x=V.ref (tu q.nm):=by
 unfold mlV at h;rw [dm] at h
 cases e:P[i]? with
 | none=>rw [e] at h; cases h
 | some q =>
  rw [e] at h;exact ⟨q,dI e,rfl,(dD h).symm⟩
def nmF (P:List Pd) (i:Nat):V:=.str ((P.map (·.nm)).getD i ⟨#[]⟩)
theorem ym6 {P:List Pd} {q:Pd} (h:P[i]?=some q):nmF P i=.str q.nm:=by
 unfold nmF;rw [dR,dm,h];rfl
theorem ynq (P:List Pd):(List.range P.length).map (nmF P)=(P.map (·.nm)).map V.str:=by
 refine List.ext_getElem? fun i=>?_;rw [dm,dm,dm];rcases Nat.lt_or_ge i P.length with h | h
 .rw [ez h,df h];exact congrArg some (ym6 (df h))
 .rw [dP (by rw [dL]; exact h),dP h];rfl
theorem ŏ {H:Hp} {ml:Addr} {P:List Pd} {fr:St} {R:Hp->Prop} (hml:H ml=some (.lst (mlV tu P))) (ht:∀ q,q∈P->∃ xs,H (tu q.nm)=some (.tup (.str q.nm :: xs))) (hz:P.length < sizeLine) (hD:H D=none)
  (hd:∀ G,yw H G->G D=some (.lst ((P.map (·.nm)).map V.str))->R G):uj (Itl K ml) (tOp (yr4 K) (yyk 0) (tC (.int 0))) fr D R H:=by
 have f:(mlV tu P).length=P.length:=cH _;refine zu (Mp H D (nmF P)) (Mp.zero hD) (fun _ _ _ p=>p.1.seq (SqL.of hml)) (fun i x G d b p=>?_) fun G p=>hd G p.1 (by rw [<- ynq,<- f]; exact p.2);obtain ⟨q,c,a,rfl⟩:=yh0 d;obtain ⟨xs,e⟩:=ht q c;rfl';refine Ė (SqT.of (p.1 _ _ e)) (vw (j:=0) rfl) ?_;exact Mp.doneR hD (by omega) b p.1 p.2 (ym6 a).symm
theorem yoo {P:List Pd} {q:Pd} {t:Addr} (hno:∀ r,r∈P->r.nm≠q.nm):mlV (upS tu q.nm t) (P++[q])=mlV tu P++[V.ref t]:=by
 unfold mlV;rw [dF,List.map_singleton,yen]
 congr 1
 exact List.map_congr_left fun r a=>by rw [yd0 (hno r a)]
theorem Ml.put {H:Hp} {F:Addr->Prop} {P:List Pd} {tx:Str->Addr} {q:Pd} {t:Addr} (h:Ml H F P tu tx) (hno:∀ r,r∈P->r.nm≠q.nm) (ht:Kq H F t (.tup [.str q.nm,.ref y,baV q.bs])) (hy:Kq H F y (.lst (q.tx.map V.int))):Ml H F (P++[q]) (upS tu q.nm t) (upS tx q.nm y):=by
 refine ⟨fun r a=>?_,fun r a=>?_⟩
 .rcases dY.mp a with z | z
  .rw [yd0 (hno r z),yd0 (hno r z)];exact h.t r z
  .obtain rfl:=dB.mp z;rw [yen,yen];exact ht
 .rcases dY.mp a with z | z
  .rw [yd0 (hno r z)];exact h.x r z
  .obtain rfl:=dB.mp z;rw [yen];exact hy
def Stk (P:List Pd):Prop:=∀ (i:Nat) (r:Pd) (b:Str),P[i]?=some r->r.bs=some b->∃ j s,j < i/\P[j]?=some s/\s.nm=b
def nm4:List Str:=[Str.ofString "a",Str.ofString "b",Str.ofString "ab",Str.ofString "aab"]
theorem yt4:nm4.Nodup:=by decide
theorem yeg {z:Str} (h:z∈nm4):okN z:=by
 have a:∀ {l:List Nat},(∀ c∈l,c=97\/c=98)->1 <= l.length->l.length <= 8->okN ⟨l.toArray⟩:=fun {l} f d e=>yy0 (fun c b=>by
  have:=f c (by simpa using b);omega) (by simpa using d) (by simpa using e)
 rcases dA.mp h with rfl | h
 .exact a (l:=[97]) (by decide) (by decide) (by decide)
 rcases dA.mp h with rfl | h
 .exact a (l:=[98]) (by decide) (by decide) (by decide)
 rcases dA.mp h with rfl | h
 .exact a (l:=[97,98]) (by decide) (by decide) (by decide)
 rw [dB.mp h];exact a (l:=[97,97,98]) (by decide) (by decide) (by decide)
structure Mk4 (P:List Pd):Prop where
 k:Stk P
 m:∀ q,q∈P->q.nm∈nm4
 nd:(P.map (·.nm)).Nodup
theorem Mk4.z {P:List Pd} (h:Mk4 P):P.length <= 4:=by
 have:=Š h.nd (m:=nm4) fun x a=>by
  obtain ⟨q,b,rfl⟩:=di.mp a;exact h.m q b
 rw [cH] at this;exact this
theorem Mk4.init {P:List Pd} {q:Pd} (h:Mk4 (P++[q])):Mk4 P/\(∀ r,r∈P->r.nm≠q.nm)/\∀ r,r∈P++[q]->r.bs≠some q.nm:=by
 have f:=h.nd;rw [dF,List.nodup_append] at f;have n:∀ r,r∈P->r.nm≠q.nm:=fun r c=>f.2.2 _ (di.mpr ⟨r,c,rfl⟩) _ dS;refine ⟨⟨fun i r b a p=>?_,fun r c=>h.m r (eU _ c),f.1⟩,n,fun r c e=>?_⟩
 .have l:i < P.length:=(d8.mp a).1;obtain ⟨j,s,o,d,g⟩:=h.k i r b (by rw [d9 l]; exact a) p;exact ⟨j,s,o,by rw [d9 (by omega)] at d; exact d,g⟩
 .obtain ⟨i,a⟩:=List.mem_iff_getElem?.mp c;have l:=(d8.mp a).1;rw [dv,d7] at l;obtain ⟨j,s,o,d,g⟩:=h.k i r _ a e;rw [d9 (by omega)] at d;exact n s (dI d) g
theorem Mk4.snoc {P:List Pd} {q:Pd} (h:Mk4 P) (hm:q.nm∈nm4) (no:∀ r,r∈P->r.nm≠q.nm) (hb:∀ b,q.bs=some b->∃ r,r∈P/\r.nm=b):Mk4 (P++[q]):=by
 refine ⟨fun i r b a e=>?_,fun r f=>?_,?_⟩
 .rcases Nat.lt_or_ge i P.length with l | l
  .rw [d9 l] at a;obtain ⟨j,s,c,t,g⟩:=h.k i r b a e;exact ⟨j,s,c,by rw [d9 (by omega)]; exact t,g⟩
  .rw [ee l] at a
   obtain rfl:q=r:=by
    have:=dI a;exact (dB.mp this).symm
   obtain ⟨s,o,g⟩:=hb b e;obtain ⟨j,c⟩:=List.mem_iff_getElem?.mp o;have d:=(d8.mp c).1;exact ⟨j,s,by omega,by rw [d9 d]; exact c,g⟩
 .rcases dY.mp f with z | z
  .exact h.m r z
  .rw [dB.mp z]; exact hm
 .rw [dF,List.nodup_append];refine ⟨h.nd,by simp,fun x p y n e=>?_⟩;obtain ⟨r,f,rfl⟩:=di.mp p;rw [List.map_singleton,dB] at n;exact no r f (e.trans n)
theorem yho {α:Type} (P:List α):P=[]\/∃ A q,P=A++[q]:=by
 rcases List.eq_nil_or_concat P with h | ⟨A,q,h⟩
 .exact .inl h
 .exact .inr ⟨A,q,by rw [h,List.concat_eq_append]⟩
inductive Dd (H:Hp) (F:Addr->Prop) (r:Addr):List Pd->List Pd->Prop
 | drop (P:List Pd) (q:Pd) (k:Mk4 (P++[q])) (e:Kq H F r (.lst [.str "drop",.str q.nm,.non,.non])):Dd H F r (P++[q]) P
 | put (P:List Pd) (q:Pd) (t:Addr) (k:Mk4 (P++[q])) (l:ToD P q.bs q.path) (s:Sgs q.tx/\q.tx.length <= 1) (e:Kq H F r (.lst [.str "put",.str q.nm,.ref t,baV q.bs])) (x:Kq H F t (.lst (q.tx.map V.int))):Dd H F r P (P++[q])
theorem Dd.go {H H':Hp} {F:Addr->Prop} {r:Addr} {P P':List Pd} (h:Dd H F r P P') (g:Go F H H' G):Dd H' G r P P':=by
 cases h with
 | drop P q k e=>exact .drop _ _ k (e.go g)
 | put P q t k l s e x=>exact .put _ _ t k l s (e.go g) (x.go g)
theorem Dd.any {H:Hp} {F:Addr->Prop} {r:Addr} {P P':List Pd} (h:Dd H F r P P'):Dd H (fun _=>False) r P P':=by
 cases h with
 | drop P q k e=>exact .drop _ _ k ⟨e.1,id⟩
 | put P q t k l s e x=>exact .put _ _ t k l s ⟨e.1,id⟩ ⟨x.1,id⟩
theorem Dd.or {H:Hp} {F:Addr->Prop} {r:Addr} {P P':List Pd} (h:Dd H F r P P'):(∃ q,P=P'++[q]/\Mk4 P/\Kq H F r (.lst [.str "drop",.str q.nm,.non,.non]))\/∃ q t,P'=P++[q]/\Mk4 P'/\ToD P q.bs q.path/\Sgs q.tx/\q.tx.length <= 1/\Kq H F r (.lst [.str "put",.str q.nm,.ref t,baV q.bs])/\Kq H F t (.lst (q.tx.map V.int)):=by
 cases h with
 | drop P q k e=>exact .inl ⟨q,rfl,k,e⟩
 | put P q t k l s e x=>exact .inr ⟨q,t,rfl,k,l,s.1,s.2,e,x⟩
theorem je:yk ["_law_store","_law_model","_law_cell","_law_name","_law_text","_law_base","_law_known","_law_free"] ["_law_store","_law_model","_law_cell"] (yg ypx):=w4 (by right)
inductive ydv (K:W.Frag) (a:Ads) (vs:List V) (H:Hp) (Q:VK) (E':XK):Prop
 | mk (M:Addr->Prop) (st:Addr) (C:Cf) (P:List Pd) (X:Sx) (st2:Addr) (C2:Cf) (P2:List Pd) (X2:Sx) (ml:Addr) (tu tx:Str->Addr) (ce:Int):(vs=[.ref st,.ref ml,.int ce])->(W2 K a H M st C P X st2 C2 P2 X2)->(M ml)->(H ml=some (.lst (mlV tu P)))->(Ml H (FF X X2 M) P tu tx)->(Mk4 P)->(C.w=1)->(0 <= ce)->(ce < 2147483647)->(∀ P' Y tu' tx' r H',W2 K a H' M st C P' Y st2 C2 P2 X2->Go (FF X X2 M) H H' (FF Y X2 M)->(∀ y o,M y->y≠ml->H y=some o->H' y=some o)->H' ml=some (.lst (mlV tu' P'))->Ml H' (FF Y X2 M) P' tu' tx'->Mk4 P'->Dd H' (FF Y X2 M) r P P'->Q (.ref r) H')->ydv K a vs H Q E'
theorem yvo (T:Txt K mg a):wc P w K mg base (CXe P w) 14 a.Mw a.Mx ["_law_store","_law_model","_law_cell"] (ydv K a):=by
 exists T.Fk.F.okE,je,hr;obtain ⟨M,st,C,P,X,aq,C2,P2,X2,n,f,tx,O,rfl,hW,hM,d,R,hk,aH,aG,aF,k⟩:=h;have hz:=hk.z;refine yo (wu (PW.pt (ylv (yy yco (yq yt rfl T.Ae (by right) (ya (pv 1) ye (yb rfl))) yj (vg _)) (yhr (PW.pt (ć (yy uk (yr xq (pv 2) yj) yj (vg _)) (Ê (yy uk (yq yt rfl T.Ae (by right) (ya (pv 1) ye (yb rfl))) yj (vg _)))))))) (yh (yhz (yd2 PySem.F.plainAttrs_list PySem.F.slot_list_pop PySem.F.type_list_pop yvx (pv 1)) (ya4 rfl (w8 (wb (i:=3) je.nd rfl (Or.inl rfl)) (w8 (wb (i:=4) je.nd rfl (Or.inl rfl)) (w8 (wb (i:=5) je.nd rfl (Or.inl rfl)) À))))) (yh (yu (vn (pv 0) T.A2 T.E6.m (ymj T) (hr.mono (by decide)) T.E6.B .nil yz (ya (pv 3) ye (yb rfl)))) (yf (yv (wq (ya w6 (ya (pv 3) (ya zn (ya zn ye (yb rfl)) (yb rfl)) (yb rfl)) (yb rfl))))))) y9) ?_;refine yo (y7 (i:=6) je.nd rfl (Or.inr rfl) (wg (js:=[]) (ys:=[]) rfl (wd (pv 1)) (fun C s2 H2 fp=>(xf (r:=yr4 K) ug (pv 0) yj (fun _ _=>rfl))) rfl rfl (hyc:=yx) (hrel:=yx))) ?_;refine yo (ycz (i:=7) (js:=[6]) (ys:=["_law_known"]) je.nd rfl rfl rfl (wd (wq (ya w6 (ya w6 (ya w6 (ya w6 ye (yb rfl)) (yb rfl)) (yb rfl)) (yb rfl)))) (fun C s2 H2 fp=>(yy (r:=rIn K true) ũ (pv 0) (pv 1) (by with_unfolding_all rfl))) (fun C s2 H2 fp=>(pv 0)) rfl rfl (hyc:=(all_cons rfl yx)) (hrel:=(all_cons rfl yx))) ?_;refine yo (y7 (i:=3) je.nd rfl (Or.inl rfl) (xf wj (pv 7) (yr xq (yr vy (pv 2) yj) (yq yt rfl T.Ae (by right) (ya (pv 7) ye (yb rfl)))) (fun _ _=>rfl))) ?_;refine yo (y7 (i:=4) je.nd rfl (Or.inl rfl) (yr yky (wq (ya (yr xq (yr vy (pv 2) yj) yj) ye (yb rfl))) (yr xq (yr vy (pv 2) yj) yj))) ?_;refine yo (y7 (i:=5) je.nd rfl (Or.inl rfl) zn) ?_;refine yo (jc (wu (PW.pt (ylv (yy yco (yq yt rfl T.Ae (by right) (ya (pv 1) ye (yb rfl))) yj (vg _)) (yhr (yy yco (yr xq (yr vy (pv 2) yj) yj) yj (vg _))))) (yf (y7 (i:=5) je.nd rfl (Or.inl rfl) (xf wj (pv 6) (yrh yhv yj) (fun _ _=>rfl)))) y9)) ?_;refine yo (yu (vn (pv 0) T.A2 T.Pq (ylp T) (hr.mono (by decide)) T.Pp .nil yz (ya (pv 3) (ya (pv 4) (ya (pv 5) ye (yb rfl)) (yb rfl)) (yb rfl)))) ?_;refine yo (yu (Ä PySem.F.plainAttrs_list PySem.F.slot_list_append PySem.F.type_list_append w9 (pv 1) (ya (yej (ya (pv 3) (ya (pv 4) (ya (pv 5) ye (yb rfl)) (yb rfl)) (yb rfl))) ye (yb rfl)))) ?_;refine ⟨_,(yf (yv (wq (ya w6 (ya (pv 3) (ya (pv 4) (ya (pv 5) ye (yb rfl)) (yb rfl)) (yb rfl)) (yb rfl))))),?_⟩;exists 3,5;refine vbn (P≠[]) (P.length < 4) (fun Qb qT qF=>?_) (fun J=>?_) (fun aE=>?_)
 .rfl';refine ⟨n,_,rfl,.inl (SqL.of d),?_⟩;rfl';rw [show (mlV f P).length=P.length from cH _];refine zd (fun h0=>?_) (fun h0=>qF (by omega));have J:P≠[]:=fun e=>by rw [e] at h0; exact absurd h0 (by decide)
  rfl';by_cases h4:O % 4=0
  .rw [dw h4];exact ĵ (qT J)
  rw [dG h4];refine Ę ?_;rfl';refine ⟨n,_,rfl,.inl (SqL.of d),?_⟩;rfl';rw [show (mlV f P).length=P.length from cH _];by_cases h5:(P.length:Int)=4
  .rw [dw h5];exact qT J
  .rw [dG h5];exact qF (by omega)
 .obtain ⟨I,q,rfl⟩:=(yho P).resolve_left J;obtain ⟨as,au,ao⟩:=hk.init;have hq:q∈I++[q]:=dC _ dS;rfl';refine z8 d ?_;refine ⟨n,mlV f (I++[q]),.ref (f q.nm),rfl,rfl,d,?_,?_⟩
  .unfold mlV;rw [dF,dv,List.map_singleton,d7,Nat.add_sub_cancel,ee (dh _),Nat.sub_self];rfl
  rw [show (mlV f (I++[q])).dropLast=mlV f I by unfold mlV; rw [dF,List.map_singleton,List.dropLast_concat]];obtain ⟨S,g1,f1⟩:=hW.but (ys:=mlV f I) hM d R.no;have a1:upd H n (.lst (mlV f I)) n=some (.lst (mlV f I)):=yc;have p:=R.go g1;generalize upd H n (.lst (mlV f I))=H1 at S g1 f1 a1 p ⊢;refine ya0 (SqT.of (p.t q hq).1) rfl ?_;obtain ⟨ds,vl,vm,vp,vc,aI⟩:=S.s.ins;rfl';refine S.s.drop (yeg (hk.m q hq)).1 (fun no=>absurd rfl (no q hq)) (fun r hr e ⟨u,hu,eu⟩=>absurd eu (ao u hu)) fun r hr e _ Y H2 a9 an=>?_
  rw [show (I++[q]).filter (fun r=>decide (r.nm≠q.nm))=I by
   rw [List.filter_append,List.filter_eq_self.mpr fun r hr=>dw (au r hr),List.filter_cons_of_neg (by simp)];exact eJ _] at a9
  obtain ⟨af,g2,f2⟩:=S.go a9 an;rfl';refine ⟨by walk_at "len",fun r1 hr1=>?_⟩
  with_reducible first | refine y6 hr1 fun H3 S3 e3=>?_ | refine vi hr1 fun H3 S3 e3=>?_
  have g3:Go (FF Y X2 M) H2 H3 (FF Y X2 M):=Go.sm S3;refine k I Y f tx r1 H3 (af.same S3) ((g1.trans g2).trans g3) (fun y o w ne e=>S3 _ _ (f2 y o w (f1 y o ne e))) (S3 _ _ (f2 _ _ hM a1)) ⟨fun u hu=>?_,fun u hu=>?_⟩ as (.drop I q hk (af.new hr1 e3))
  .exact ((p.t u (eU _ hu)).go g2).go g3
  .exact ((p.x u (eU _ hu)).go g2).go g3
 .rfl';refine ⟨n,rfl,⟨_,SqL.of d⟩,fun D hD=>?_⟩;refine ŏ d (fun q hq=>⟨_,(R.t q hq).1⟩) (vo (by omega)) hD fun H1 S1 av=>?_;rfl';refine ⟨by walk_at "len",fun l4 ap=>?_⟩;have S2:=y8 (o:=(.lst [V.str (Str.ofString "a"),V.str (Str.ofString "b"),V.str (Str.ofString "ab"),V.str (Str.ofString "aab")])) ap;have e4:upd H1 l4 (.lst [V.str (Str.ofString "a"),V.str (Str.ofString "b"),V.str (Str.ofString "ab"),V.str (Str.ofString "aab")]) l4=some (.lst [V.str (Str.ofString "a"),V.str (Str.ofString "b"),V.str (Str.ofString "ab"),V.str (Str.ofString "aab")]):=yc;generalize upd H1 l4 (.lst [V.str (Str.ofString "a"),V.str (Str.ofString "b"),V.str (Str.ofString "ab"),V.str (Str.ofString "aab")])=H2 at S2 e4 ⊢;have e4:H2 l4=some (.lst (nm4.map V.str)):=e4;have ak:=S1.trans S2;have a4:=S2 _ _ av;refine ⟨l4,rfl,⟨_,SqL.of e4⟩,fun D2 ab=>?_⟩;refine ye3 (xs:=nm4.map V.str) (fun i G=>G D2=some (.lst (((nm4.take i).filter fun z=>decide (z∉P.map (·.nm))).map V.str))/\yw H2 G) ⟨yc,y8 ab⟩ (fun i G _ z=>SqL.of (z.2 _ _ e4)) (fun i x G hx hi z=>?_) (fun G z=>?_)
  .obtain ⟨gD,SG⟩:=z;rw [dm] at hx;have a7:i < nm4.length:=by rw [cH] at hi; exact hi
   rw [df a7] at hx;obtain rfl:=dD hx
   have aC:((nm4.take i).filter fun z=>decide (z∉P.map (·.nm))).length <= 4:=by
    refine dZ (List.length_filter_le _ _) ?_;rw [dM];have:nm4.length=4:=rfl;omega
   rfl';refine ⟨D,_,rfl,.inl (SqL.of (SG _ _ a4)),rfl,yfu _,?_⟩;rw [yke];rfl';by_cases hin:nm4[i]∈P.map (·.nm)
   .rw [dw hin];refine Ę ?_;refine Ź hi ⟨?_,SG⟩;rw [gD,ed a7,List.filter_append,List.filter_cons_of_neg (by simpa using hin)];simp
   .rw [dG hin];refine ĵ ?_;rfl';refine xu gD (vo (by rw [cH]; omega)) hi ⟨?_,fun y o e=>yi (yd e ab) (SG _ _ e)⟩;rw [yc,ed a7,List.filter_append,List.filter_cons_of_pos (by simpa using hin),dF];rfl
  .obtain ⟨gD,SG⟩:=z;rw [show nm4.take (nm4.map V.str).length=nm4 from rfl] at gD
   have hZ:0 < (nm4.filter fun z=>decide (z∉P.map (·.nm))).length:=by
    cases e:nm4.filter fun z=>decide (z∉P.map (·.nm)) with
    | cons z zs=>exact Nat.succ_pos _
    | nil =>
     have h4:=Š (l:=nm4) (m:=P.map (·.nm)) yt4 fun y hy=>by
      have:=List.filter_eq_nil_iff.mp e y hy;simpa using this
     rw [cH] at h4;exact absurd (show (4:Nat) <= P.length from h4) (by omega)
   have ah:∀ z,z∈(nm4.filter fun z=>decide (z∉P.map (·.nm)))->z∈nm4/\z∉P.map (·.nm):=fun z hz=>⟨(eW.mp hz).1,of_decide_eq_true (eW.mp hz).2⟩;generalize (nm4.filter fun z=>decide (z∉P.map (·.nm)))=Z at gD hZ ah;rfl';refine ⟨D2,_,rfl,.inl (SqL.of gD),?_⟩;rw [show (Z.map V.str).length=Z.length from cH _];rfl'
   obtain ⟨j,hj,ac⟩:∃ j:Nat,O / 4 % (Z.length:Int)=(j:Int)/\j < Z.length:=by
    have h0:=eT (O / 4) (show (Z.length:Int)≠0 by omega);have h1:=eH (O / 4) (show 0 < (Z.length:Int) by omega);exact ⟨(O / 4 % (Z.length:Int)).toNat,by omega,by omega⟩
   rw [hj];refine ua (v:=.str Z[j]) (SqL.of gD) (vw (by rw [dm,df ac]; rfl)) ?_;obtain ⟨U,aj⟩:=ah Z[j] (ei ac);generalize Z[j]=b at U aj ⊢;have g:∀ q,q∈P->q.nm≠b:=fun q hq e=>aj (di.mpr ⟨q,hq,e⟩);rfl';refine ⟨by walk_at "len",fun r1 hr1=>?_⟩
   with_reducible first | refine y6 hr1 fun G1 T1 er1=>?_ | refine vi hr1 fun G1 T1 er1=>?_
   rfl';obtain ⟨ts,al,ag,aA⟩:=yws (c:=O / 16) (k:=O / 4096 % 2) (by omega);refine ⟨r1,_,_,rfl,rfl,er1,by omega,by omega,by rw [sizeLine_eq]; show 1 * _ <= _; omega,fun y hy0=>?_⟩;rw [al]
   with_reducible first | refine y6 hy0 fun G2 T2 hy2=>?_ | refine vi hy0 fun G2 T2 hy2=>?_
   have N:=((ak.trans SG).trans T1).trans T2;have ad:=T2 _ _ (T1 _ _ (SG _ _ a4));have ar:=((hW.same ((ak.trans SG).trans T1)).new hy0 hy2);rfl';refine ⟨fun σ2 F=>G2=F/\∃ x:Option Str,σ2=[some (.ref st),some (.ref n),some (.int O),some (.str b),some (.ref y),some (baV x),some (.ref D),some (.ref D2)]/\∀ b,x=some b->∃ r,r∈P/\r.nm=b,?_,?_⟩
   .refine ifI (P≠[]) (fun Qb qT qF=>?_) (fun J=>?_) ?_
    .rfl';refine ⟨n,_,rfl,.inl (SqL.of (N _ _ d)),?_⟩;rfl';rw [show (mlV f P).length=P.length from cH _];refine zd (fun h0=>?_) (fun h0=>qF);rfl';by_cases h3:0 < O / 8192 % 3
     .rw [dw h3];exact qT fun e=>by rw [e] at h0; exact absurd h0 (by decide)
     .rw [dG h3];exact qF
    .obtain ⟨I,q,rfl⟩:=(yho P).resolve_left J;rfl';refine ua (v:=.str q.nm) (SqL.of ad) (by rw [dF,dF]; exact ydu _ _) ?_;rfl';exact ⟨rfl,some q.nm,rfl,fun b e=>by cases e; exact ⟨q,dC _ dS,rfl⟩⟩
    .exact ⟨rfl,none,rfl,fun b e=>by cases e⟩
   rintro σ2 F ⟨rfl,x,rfl,hx⟩
   obtain ⟨L,hL⟩:∃ L,ToD P x L:=by
    cases x with
    | none=>exact ⟨[],rfl⟩
    | some b =>
     obtain ⟨r,hr,e⟩:=hx b rfl;exact ⟨_,r,hr,e,rfl⟩
   have a8:=hW.same N;obtain ⟨ds,vl,vm,vp,vc,aB⟩:=a8.s.ins;rfl';refine a8.s.put (yeg U) ⟨hy2,ag,by omega⟩ hL g (by omega) fun Y H4 ax aw=>?_;obtain ⟨ae,g4,f4⟩:=a8.go ax aw;have a0:=f4 _ _ hM (N _ _ d);rfl';refine z8 a0 ?_;rfl';refine ⟨by walk_at "len",fun t ht0=>?_⟩
   with_reducible first | refine y6 ht0 fun H5 S5 ht5=>?_ | refine vi ht0 fun H5 S5 ht5=>?_
   have am:=ae.same S5;have g5:Go (FF Y X2 M) H4 H5 (FF Y X2 M):=Go.sm S5;have az:=ae.new ht0 ht5;have a5:=S5 _ _ a0;have ai:=((Go.sm (F:=FF X X2 M) N).trans g4).trans g5;have a3:=R.go ai;have W:=(ar.go g4).go g5;rfl';refine ⟨n,_,_,rfl,rfl,a5,vo (by rw [show (mlV f P).length=P.length from cH _]; omega),?_⟩;obtain ⟨a6,g6,f6⟩:=am.but (ys:=mlV f P++[.ref t]) hM a5 a3.no;have a2:upd H5 n (.lst (mlV f P++[.ref t])) n=some (.lst (mlV f P++[.ref t])):=yc;generalize upd H5 n (.lst (mlV f P++[.ref t]))=H6 at a6 g6 f6 a2 ⊢;rfl';refine ⟨by walk_at "len",fun r2 hr2=>?_⟩
   with_reducible first | refine y6 hr2 fun H7 S7 e7=>?_ | refine vi hr2 fun H7 S7 e7=>?_
   have g7:Go (FF Y X2 M) H6 H7 (FF Y X2 M):=Go.sm S7;have aa:=((a3.put (q:=⟨b,x,L,ts⟩) g (az) W).go g6).go g7;exact k (P++[⟨b,x,L,ts⟩]) Y _ _ r2 H7 (a6.same S7) ((ai.trans g6).trans g7) (fun y o w ne e=>S7 _ _ (f6 y o ne (S5 _ _ (f4 y o w (N _ _ e))))) (by rw [yoo (q:=⟨b,x,L,ts⟩) g]; exact S7 _ _ a2) aa (hk.snoc U g hx) (.put P ⟨b,x,L,ts⟩ y (hk.snoc U g hx) hL ⟨ag,aA⟩ (a6.new hr2 e7) ((W.go g6).go g7))
theorem Ĳ:yk ["_law_looks_here","_law_most","_law_deeds","_law_store","_law_word","_law_name","_law_text","_law_base"] ["_law_looks_here","_law_most","_law_deeds"] (yg yp0):=w4 (by right)
inductive ż (K:W.Frag) (a:Ads) (vs:List V) (H:Hp) (Q:VK) (E':XK):Prop
 | mk (l dl:Addr) (C:Cf) (lk tp:Nat->Addr) (m:Nat) (dr:Nat->Addr) (Rn:Nat->List Pd):(vs=[.ref l,.int C.mo,.ref dl])->(H l=some (.lst (refs lk C.n)))->(1 <= C.n)->(C.n <= 6)->(xw H C.n lk C.kd tp C.ps)->(1 <= C.mo)->(C.mo <= 1000)->(C.w=1)->(H dl=some (.lst (refs dr m)))->(m <= 5)->(Rn 0=[])->((∀ i,i < m->Dd H (fun _=>False) (dr i) (Rn i) (Rn (i+1))))->(∀ st X H',Sto K a H' st C (Rn m) X->Bs H H' X->Q (.ref st) H')->ż K a vs H Q E'
theorem ytn (T:Txt K mg a):wc P w K mg base (CXe P w) 14 a.My a.Mz ["_law_looks_here","_law_most","_law_deeds"] (ż K a):=by
 exists T.Fl.F.okE,Ĳ,g;obtain ⟨l,W,C,lk,tp,m,dr,v,rfl,hl,n1,n6,hR,m1,m2,hw,p,a8,a4,Z,k⟩:=h;refine yo (y7 (i:=3) Ĳ.nd rfl (Or.inl rfl) (x6 T.Fw (yh8 T) (g.mono (by decide)) rfl T.Fv T.Nt .nil yz (ya (pv 0) (ya (pv 1) ye (yb rfl)) (yb rfl)))) ?_;refine yo (PS.nox (za PassesOwn.never rfl (wd (pv 2)) (yua rfl (w8 (wb (i:=4) Ĳ.nd rfl (Or.inl rfl)) (w8 (wb (i:=5) Ĳ.nd rfl (Or.inl rfl)) (w8 (wb (i:=6) Ĳ.nd rfl (Or.inl rfl)) (w8 (wb (i:=7) Ĳ.nd rfl (Or.inl rfl)) À))))) (yf (wu (yy uk (pv 4) w6 (vg _)) (yf (yu (vn (pv 3) T.A2 T.E6.m (ymj T) (g.mono (by decide)) T.E6.B .nil vt (ya (pv 5) ye (yb rfl))))) (yf (yu (vn (pv 3) T.A2 T.Pq (ylp T) (g.mono (by decide)) T.Pp .nil vt (ya (pv 5) (ya (xn xm rfl T.Ao (by right) (ya (pv 6) ye (yb rfl))) (ya (pv 7) ye (yb rfl)) (yb rfl)) (yb rfl))))))))) ?_;refine ⟨_,(yf (yv (pv 3))),?_⟩;exists 3,5;rfl';intro S ds o D a9;refine Sto.new (mo:=C.mo) (w:=1) o D hl n1 n6 hR m2 m1 (by decide) fun X H1 c S1 a7 _=>⟨rfl,?_⟩;rw [<- hw] at c;have c:Sto K a H1 S C [] X:=c;have a6:Bs H H1 X:=⟨S1,a7⟩;rfl';refine ⟨W,rfl,⟨_,SqL.of (S1 _ _ p)⟩,x5 (K:=K) (a:=W) (xs:=refs dr m) (fun i σ2 G=>∃ (X:Sx) (R N O U:Option V),σ2=[some (.ref l),some (.int C.mo),some (.ref W),some (.ref S),R,N,O,U]/\Sto K a G S C (v i) X/\Bs H G X)
  ⟨X,_,_,_,_,rfl,by rw [a4]; exact c,a6⟩ (fun i σ2 G _ z=>?_) ?_ ?_⟩
 .obtain ⟨X,R,N,O,U,rfl,b,d⟩:=z;exact SqL.of (d.s _ _ p)
 .rintro i x σ2 G hx ⟨X,R,N,O,U,rfl,b,d⟩;obtain ⟨rfl,hi⟩:=uz hx;obtain ⟨ds,vl,vm,vp,vc,aa⟩:=b.ins;rcases (Z i hi).or with ⟨q,L,j,e⟩ | ⟨q,t,L,j,hL,a3,hz,e,hx⟩
  .refine ylo (SqL.of (d.s _ _ e.1)) rfl ?_;rfl';refine ⟨rfl,_,rfl,?_⟩;rw [dw rfl];refine ĵ ?_;rw [L] at b j;obtain ⟨M,f,a2⟩:=j.init;have hq:q∈v (i+1)++[q]:=dC _ dS;rfl';refine b.drop (yeg (j.m q hq)).1 (fun no=>absurd rfl (no q hq)) (fun r g e ⟨u,hu,eu⟩=>absurd eu (a2 u hu)) fun r g e _ Y H2 I a1=>?_
   rw [show (v (i+1)++[q]).filter (fun r=>decide (r.nm≠q.nm))=v (i+1) by
    rw [List.filter_append,List.filter_eq_self.mpr fun r g=>dw (f r g),List.filter_cons_of_neg (by simp)];exact eJ _] at I
   rfl';exact ⟨Y,_,_,_,_,rfl,I,d.go b a1⟩
  .refine ylo (SqL.of (d.s _ _ e.1)) rfl ?_;rfl';refine ⟨rfl,_,rfl,?_⟩;rw [dG (by decide)];refine Ę ?_;have J:=j;rw [L] at J;obtain ⟨M,f,_⟩:=J.init;have ac:=M.z;rfl';refine ⟨t,_,rfl,.inl (SqL.of (d.s _ _ hx.1)),fun y hy0=>?_⟩
   with_reducible first | refine y6 hy0 fun G1 S1 hy1=>?_ | refine vi hy0 fun G1 S1 hy1=>?_
   rfl';refine (b.same S1).put (yeg (j.m q (by rw [L]; exact dC _ dS))) ⟨hy1,a3,by omega⟩ hL f (by omega) fun Y H4 n a5=>?_;rw [<- L] at n;rfl';exact ⟨Y,_,_,_,_,rfl,n,(d.same S1).go (b.same S1) a5⟩
 .rintro σ2 G ⟨X,R,N,O,U,rfl,b,d⟩;rfl';rw [vz] at b;exact k S X G b d
def prV (tu:Str->Addr) (tt:Nat->Addr) (P:List Pd):List (Addr × Key × V):=(List.range P.length).map fun i=>(tt i,(mdK tu P).getD i (.inl 0,.non))
theorem yny (tu:Str->Addr) (tt:Nat->Addr) (P:List Pd):((prV tu tt P).map fun t=>V.ref t.1)=refs tt P.length:=by
 unfold prV refs;rw [dX];rfl
theorem ynh (tu:Str->Addr) (tt:Nat->Addr) (P:List Pd):(prV tu tt P).map (·.2)=mdK tu P:=by
 unfold prV;rw [dX];refine List.ext_getElem? fun i=>?_;have a:(mdK tu P).length=P.length:=cH _;rcases Nat.lt_or_ge i P.length with h | h
 .rw [dm,ez h,df (by rw [a]; exact h)];show some ((mdK tu P).getD i (.inl 0,.non))=_;rw [dR,df (by rw [a]; exact h)];rfl
 .rw [dm,dP (by rw [dL]; exact h),dP (by rw [a]; exact h)];rfl
theorem yvc {P:List Pd} {q:Pd} (h:P[i]?=some q):(mdK tu P).getD i (.inl 0,.non)=(.inr q.nm,.ref (tu q.nm)):=by
 unfold mdK;rw [dR,dm,h];rfl
theorem yg7 (tt:Nat->Addr) (i:Nat) (t:Addr):refs (fun j=>if j=i then t else tt j) (i+1)=refs tt i++[V.ref t]:=by
 unfold refs;rw [List.range_succ,dF,List.map_singleton]
 congr 1
 .refine List.map_congr_left fun j a=>?_;have:=ew.mp a;show V.ref (if j=i then t else tt j)=_;rw [if_neg (by omega)]
 .show [V.ref (if i=i then t else tt i)]=_;rw [if_pos rfl]
structure vb2 (G0 G:Hp) (D:Addr) (N:Nat) (cx:Nat->Addr) (tt:Nat->List Int):Prop where
 d:G D=some (.lst (refs cx N))
 c:∀ j,j < N->G (cx j)=some (.lst ((tt j).map V.int))/\cx j≠D
 s:yw G0 G
theorem yax:yk ["_law_looks_here","_law_model","_law_name","_law_pieces","_law_learned","_law_base"] ["_law_looks_here","_law_model","_law_name"] (yg yrz):=w4 (by right)
inductive yam (K:W.Frag) (vs:List V) (H:Hp) (Q:VK) (E':XK):Prop
 | mk (l ml:Addr) (C:Cf) (lk tp:Nat->Addr) (F:Addr->Prop) (P:List Pd) (tu tx:Str->Addr) (q:Pd):(vs=[.ref l,.ref ml,.str q.nm])->(H l=some (.lst (refs lk C.n)))->(1 <= C.n)->(C.n <= 6)->(xw H C.n lk C.kd tp C.ps)->(C.w=1)->(H ml=some (.lst (mlV tu P)))->(Ml H F P tu tx)->(PdW P)->(P.length <= 4)->(q∈P)->((∀ q,q∈P->Sgs q.tx/\q.tx.length <= C.w/\q.path.length <= 60/\(∀ x,x∈q.path->Sgs x.2/\x.2.length <= C.w)))->(∀ r H',H r=none->H' r=some (.lst ((q.by C).map V.int))->yw H H'->Q (.ref r) H')->yam K vs H Q E'
theorem ysw (T:Txt K mg a):wc P w K mg base CX0 9 a.N0 a.N2 ["_law_looks_here","_law_model","_law_name"] (yam K):=by
 exists T.Fm.F.ok,yax,I;obtain ⟨l,ml,C,lk,tp,F,P,v,c,q,rfl,hl,n1,n6,hR,a3,a5,hM,hw,hz,X,a8,k⟩:=h;refine ⟨_,(yh (y7 (i:=3) yax.nd rfl (Or.inl rfl) (xn (yfe rfl) rfl T.I7 (by right) (ya (wg (js:=[]) (ys:=[]) rfl (wd (pv 1)) (fun C s2 H2 fp=>(yej (ya (xf (r:=yr4 K) ug (pv 0) yj (fun _ _=>rfl)) (ya (pv 0) ye (yb rfl)) (yb rfl)))) rfl rfl (hyc:=yx) (hrel:=yx)) ye (yb rfl)))) (yh (y7 (i:=4) yax.nd rfl (Or.inl rfl) (wq ye)) (yh (y7 (i:=5) yax.nd rfl (Or.inl rfl) (xf ug (zj (Å I) (pv 3) (pv 2) (fun _ _=>rfl)) yj (fun _ _=>rfl))) (yh (u4 PassesOwn.never (yy Ş (pv 5) zn (vg _)) (yh (yu (Ä PySem.F.plainAttrs_list PySem.F.slot_list_insert PySem.F.type_list_insert ygt (pv 4) (ya yj (ya (xf ug (zj (Å I) (pv 3) (pv 5) (fun _ _=>rfl)) yj (fun _ _=>rfl)) ye (yb rfl)) (yb rfl)))) (yf (y7 (i:=5) yax.nd rfl (Or.inl rfl) (xf ug (zj (Å I) (pv 3) (pv 5) (fun _ _=>rfl)) yj (fun _ _=>rfl)))))) (yf (yv (vd (yt6 T) (I.mono (by decide)) rfl T.Q6 T.Po.kp T.Q5 .nil vh (ya (pv 0) (ya (xf ug (zj (Å I) (pv 3) (pv 2) (fun _ _=>rfl)) yj (fun _ _=>rfl)) (ya (pv 4) ye (yb rfl)) (yb rfl)) (yb rfl))))))))),?_⟩;exists 3,3;rfl';refine ⟨ml,rfl,⟨_,SqL.of a5⟩,fun D hD=>?_⟩;have a2:(mlV v P).length=P.length:=cH _;refine zu (xs:=mlV v P) (fun i G=>yw H G/\∃ Y:Nat->Addr,G D=some (.lst (refs Y i))/\∀ j,j < i->G (Y j)=some (.tup [kV ((mdK v P).getD j (.inl 0,.non)).1,((mdK v P).getD j (.inl 0,.non)).2])) ⟨y8 hD,fun _=>0,yc,fun j hj=>absurd hj (dN j)⟩ (fun _ _ _ p=>p.1.seq (SqL.of a5)) (fun i x G hx L p=>?_) (fun G p=>?_)
 .obtain ⟨U,Y,gD,gt⟩:=p;obtain ⟨r,g,ab,rfl⟩:=yh0 hx;rfl';refine Ė (SqT.of (U _ _ (hM.t r g).1)) (vw (j:=0) rfl) ?_;rfl';refine ⟨by walk_at "len",fun t ht=>?_⟩;refine xu (yi (yd gD ht) gD) (vo (by rw [vz]; omega)) L ⟨fun y o e=>yi (yd e hD) (yi (yd (U _ _ e) ht) (U _ _ e)),fun j=>if j=i then t else Y j,by rw [yg7,yc],fun j hj=>?_⟩;by_cases e:j=i
  .subst e;show upd _ D _ (if j=j then t else Y j)=_;rw [if_pos rfl,yvc ab];exact yi (yd gD ht).symm yc
  .show upd _ D _ (if j=i then t else Y j)=_;rw [if_neg e];have h1:=gt j (by omega);exact yi (fun z=>by rw [z,gD] at h1; cases h1) (yi (yd h1 ht) h1)
 obtain ⟨S1,Y,gD,gt⟩:=p;rw [a2] at gD gt;rfl';refine ⟨D,prV v Y P,rfl,by rw [yny]; exact gD,fun t ht=>?_,by unfold prV; rw [cH,dL]; omega,fun d hd0=>?_⟩
 .obtain ⟨i,L,rfl⟩:=di.mp ht;exact gt i (ew.mp L)
 rw [ynh,show Í [] (mdK v P)=mdK v P from Ż v (A:=[]) hw.nd]
 with_reducible first | refine y6 hd0 fun H2 S2 hd2=>?_ | refine vi hd0 fun H2 S2 hd2=>?_
 have B:=S1.trans S2;clear gD gt S1 S2 hd0;rfl';refine ⟨by walk_at "len",fun J hln0=>?_⟩
 with_reducible first | refine y6 hln0 fun H3 S3 hln3=>?_ | refine vi hln0 fun H3 S3 hln3=>?_
 have ac:=B.trans S3;have a9:=S3 _ _ hd2;have aa:=B.free hln0;rfl'
 have dg:∀ {G:Hp} {r:Pd},yw H3 G->r∈P->ĉ G d (.str r.nm) (some (.ref (v r.nm))):=fun {G r} S I=>by
  rw [<- yib v I];exact DkF.get (.inl (S _ _ a9)) r.nm
 have M:∀ {G:Hp} {r:Pd},yw H G->r∈P->SqT K G (v r.nm) [.str r.nm,.ref (c r.nm),baV r.bs]:=fun {G r} S I=>SqT.of (S _ _ (hM.t r I).1);refine ⟨d,_,rfl,dg (fun _ _ e=>e) X,?_⟩;rfl';refine Ė (M ac X) (vw (j:=2) rfl) ?_;rfl';have af:=(hw.wf q X).len hw
 refine ⟨fun m σ' G=>∃ (y:Option Str) (R S:List (Str × List Int)),σ'=[some (.ref l),some (.ref ml),some (.str q.nm),some (.ref d),some (.ref J),some (baV y)]/\ToD P y R/\R++S=q.path/\G J=some (.lst (lnV c S))/\yw H2 G/\m=R.length,
  ⟨_,q.bs,q.path,[],rfl,hw.wf q X,eJ _,hln3,S3,rfl⟩,?_⟩
 rintro m σ2 G ⟨y,R,S,rfl,a6,W,O,U,rfl⟩;have ag:S.length <= 4:=by rw [<- W,dv] at af; omega
 have a0:∀ {G:Hp} {r:Pd},yw H2 G->r∈P->ĉ G d (.str r.nm) (some (.ref (v r.nm))):=fun {G r} S I=>by
  rw [<- yib v I];exact DkF.get (.inl (S _ _ hd2)) r.nm
 rfl'
 cases y with
 | none =>
  refine ynb (fun _=>?_) (fun z=>absurd rfl z);have e:S=q.path:=by rw [show R=[] from a6] at W; exact W
  rw [e] at O;have f:=B.trans U;rfl';refine ⟨d,_,rfl,a0 U X,?_⟩;rfl';refine Ė (M f X) (vw (j:=1) rfl) ?_;rfl';obtain ⟨z1,z2,z3,z4⟩:=a8 q X;rw [a3] at z2
  have tl:vaz G l (c q.nm) (.ref J) C.n lk C.kd tp C.ps q.tx q.path.length 1 (lnA c q.path) (txi q.path):=by
   refine ⟨f _ _ hl,n1,n6,hR.same f,⟨f _ _ (hM.x q X).1,z1,by omega⟩,⟨.inr ⟨J,rfl,by rw [<- yjg]; exact O⟩,fun i L=>?_⟩,by decide,by omega,by omega⟩;obtain ⟨u,hu,ae,_⟩:=(hw.wf q X).at hw L;have hx:=z4 _ (ei L);rw [a3] at hx;refine ⟨?_,?_,?_⟩
   .unfold lnA txi;rw [dR,df L,dR,dm,df L,ae];exact f _ _ (hM.x u hu).1
   .unfold txi;rw [dR,dm,df L];exact hx.1
   .unfold txi;rw [dR,dm,df L];exact hx.2
  refine ⟨l,c q.nm,.ref J,C.n,lk,C.kd,tp,C.ps,q.tx,q.path.length,1,_,_,rfl,tl,by omega,fun rr G2 a4 a1 T2=>?_⟩;rw [yfr] at a1;exact k rr G2 (f.free a4) a1 (f.trans T2)
 | some b =>
  refine ynb (fun z=>nomatch z) (fun _=>?_)
  obtain ⟨r,g,rfl,Z⟩:=a6;refine ⟨_,fun σ' H' z=>z,?_⟩;rfl';refine z8 O ?_;rfl';refine ⟨d,_,rfl,a0 U g,?_⟩;rfl';refine Ė (M (B.trans U) g) (vw (j:=1) rfl) ?_;rfl';refine ⟨J,_,_,0,rfl,rfl,O,dJ _,by unfold lnV; rw [cH]; omega,?_⟩;have N:yw H2 (upd G J (.lst ((lnV c S).take 0++V.ref (c r.nm) :: (lnV c S).drop 0))):=fun b o e=>yi (yd e hln0) (U _ _ e);have a7:upd G J (.lst ((lnV c S).take 0++V.ref (c r.nm) :: (lnV c S).drop 0)) J=some (.lst (lnV c ((r.nm,r.tx) :: S))):=yc;generalize upd G J (.lst ((lnV c S).take 0++V.ref (c r.nm) :: (lnV c S).drop 0))=G' at N a7 ⊢;rfl';refine ⟨d,_,rfl,a0 N g,?_⟩;rfl';refine Ė (M (B.trans N) g) (vw (j:=2) rfl) ?_;rfl';refine ⟨r.path.length,?_,r.bs,r.path,(r.nm,r.tx) :: S,rfl,hw.wf r g,?_,a7,N,rfl⟩
  .rw [Z,dv,d7];omega
  .rw [<- W,Z,em];rfl
theorem Gx.go {H H':Hp} {C:Cf} {P:List Pd} {X Y:Sx} (g:Gx X H H' Y) (s:Sto K a H st C P X):Go X.f H H' Y.f:=⟨fun c o e n=>g.g.fr _ _ e fun w=>n (s.wf c w),g.f,g.g.lv⟩
theorem Ml.sub {H:Hp} {F:Addr->Prop} {P:List Pd} {tx:Str->Addr} (h:Ml H F P tu tx) (hs:∀ y,G y->F y):Ml H G P tu tx:=⟨fun q a=>⟨(h.t q a).1,fun w=>(h.t q a).2 (hs _ w)⟩,fun q a=>⟨(h.x q a).1,fun w=>(h.x q a).2 (hs _ w)⟩⟩
theorem yki (x y:Option Str):yyh (baV x) (baV y)=true:=by cases x <;> cases y <;> rfl
theorem yd3:yk ["_law_looks_here","_law_store","_law_model","_law_other","_law_name","_law_text","_law_base"] ["_law_looks_here","_law_store","_law_model","_law_other"] (yg yr0):=w4 (by right)
inductive ydb (K:W.Frag) (a:Ads) (vs:List V) (H:Hp) (Q:VK) (E':XK):Prop
 | mk (l st ml ot:Addr) (C:Cf) (lk tp:Nat->Addr) (F:Addr->Prop) (P:List Pd) (tu tx:Str->Addr) (X X3:Sx):(vs=[.ref l,.ref st,.ref ml,.ref ot])->(Kf H X l (.lst (refs lk C.n)))->(xw H C.n lk C.kd tp C.ps)->(C.w=1)->(Kf H X ml (.lst (mlV tu P)))->(Ml H F P tu tx)->((∀ y,X.f y->F y))->(Mk4 P)->(Sto K a H st C P X)->(Sto K a H ot C P X3)->(Sep X X3)->(∀ Y H',Sto K a H' st C P Y->Gx X H H' Y->Q (.bl true) H')->ydb K a vs H Q E'
theorem yuk (T:Txt K mg a):wc P w K mg base (CXe P w) 15 a.N3 a.N4 ["_law_looks_here","_law_store","_law_model","_law_other"] (ydb K a):=by
 exists T.Fn.F.okE,yd3,j;obtain ⟨l,st,ml,ot,C,lk,tp,F,P,tu,tx,X,X3,rfl,hl,hR,ay,o,R,hF,hk,b,hO,v,k⟩:=h;obtain ⟨ds,vl,vm,vp,vc,a9⟩:=b.ins;obtain ⟨av,aC,aq,aA,au,ag⟩:=hO.ins;have hz:=hk.z;refine yo (wu (PW.pt (ć (yy (ι j.units) (wy (pv 1) T.A2 T.Ce.m (yei T) (j.mono (by decide)) T.Ce.B .nil vh) (wg (js:=[]) (ys:=[]) rfl (wd (pv 2)) (fun C s2 H2 fp=>(xf (r:=yr4 K) ug (pv 0) yj (fun _ _=>rfl))) rfl rfl (hyc:=yx) (hrel:=yx)) (vg _)) (Ê (yy (ι j.units) (wy (pv 3) T.A2 T.Ce.m (yei T) (j.mono (by decide)) T.Ce.B .nil vh) (wy (pv 1) T.A2 T.Ce.m (yei T) (j.mono (by decide)) T.Ce.B .nil vh) (vg _))))) (yf (yv ya9)) y9) ?_;refine yo (PS.nox (za PassesOwn.never rfl (wd (pv 2)) (ya4 rfl (w8 (wb (i:=4) yd3.nd rfl (Or.inl rfl)) (w8 (wb (i:=5) yd3.nd rfl (Or.inl rfl)) (w8 (wb (i:=6) yd3.nd rfl (Or.inl rfl)) À)))) (yh (wu (PW.pt (ć (yy (ι j.units) (vn (pv 1) T.A2 T.Hs.m (ys4 T) (j.mono (by decide)) T.Hs.B .nil vt (ya (pv 4) ye (yb rfl))) (pv 5) (vg _)) (Ê (yy yzu (vn (pv 1) T.A2 T.Ht.m (yug T) (j.mono (by decide)) T.Ht.B .nil vt (ya (pv 4) ye (yb rfl))) (pv 6) (vg _))))) (yf (yv ya9)) y9) (yf (wu (PW.pt (ć (yy (ι j.units) (vn (pv 1) T.A2 T.Cz.m (yio T) (j.mono (by decide)) T.Cz.B .nil vt (ya (pv 4) ye (yb rfl))) (vn (pv 3) T.A2 T.Cz.m (yio T) (j.mono (by decide)) T.Cz.B .nil vt (ya (pv 4) ye (yb rfl))) (vg _)) (Ê (yy (ι j.units) (vn (pv 1) T.A2 T.Cz.m (yio T) (j.mono (by decide)) T.Cz.B .nil vt (ya (pv 4) ye (yb rfl))) (vd (ysw T) (j.mono (by decide)) rfl T.Fm.m T.Fm.F.kp T.Fm.B .nil vh (ya (pv 0) (ya (pv 2) (ya (pv 4) ye (yb rfl)) (yb rfl)) (yb rfl))) (vg _))))) (yf (yv ya9)) y9))))) ?_;refine ⟨_,(yf (yv ya9)),?_⟩;exists 4,3;have R:=R.sub hF
 have u:∀ x,x∈P.map (·.nm)->PyData.strOk x=true:=fun x hx=>by
  obtain ⟨q,hq,rfl⟩:=di.mp hx;exact (b.nm q hq).2
 have ae:=b.cf;have hw:=b.pw;have ax:=b.sz;have ai:=b.nm;rfl';refine b.names fun n1 H1 aD N S1=>?_;have N:H1 n1=some (.lst ((P.map (·.nm)).map V.str)):=by rw [N,dX]; rfl
 rfl';refine ⟨ml,rfl,⟨_,SqL.of (S1 _ _ o.1)⟩,fun D hD=>?_⟩;refine ŏ (S1 _ _ o.1) (fun q hq=>⟨_,S1 _ _ (R.t q hq).1⟩) (vo (by omega)) hD fun H2 S2 as=>?_;refine yaz _ _ u u (SqL.of (S2 _ _ N)) (SqL.of as) ?_;rw [dw rfl];have W:=S1.trans S2;have af:=W _ _ ag;rfl';refine (hO.same W).names fun n3 H3 aH I S3=>?_;have I:H3 n3=some (.lst ((P.map (·.nm)).map V.str)):=by rw [I,dX]; rfl
 have U:=W.trans S3;have aj:=U _ _ a9;rfl';refine (b.same U).names fun n4 H4 aI J S4=>?_;have J:H4 n4=some (.lst ((P.map (·.nm)).map V.str)):=by rw [J,dX]; rfl
 refine yaz _ _ u u (SqL.of (S4 _ _ I)) (SqL.of J) ?_;rw [dw rfl];have c:=U.trans S4;rfl';refine ⟨ml,rfl,⟨_,SqL.of (c _ _ o.1)⟩,x5 (K:=K) (a:=ml) (xs:=mlV tu P) (fun i σ2 G=>∃ (Y:Sx) (v4 v5 v6:Option V),σ2=[some (.ref l),some (.ref st),some (.ref ml),some (.ref ot),v4,v5,v6]/\Sto K a G st C P Y/\Gx X H G Y/\Sto K a G ot C P X3/\Sep X3 Y/\Ml G Y.f P tu tx/\Kf G Y ml (.lst (mlV tu P))/\Kf G Y l (.lst (refs lk C.n))/\xw G C.n lk C.kd tp C.ps)
  ⟨X,_,_,_,rfl,b.same c,Gx.refl.same c,hO.same c,v.symm,R.go (Go.sm c),o.same c,hl.same c,hR.same c⟩ (fun i σ2 G _ z=>?_) ?_ ?_⟩
 .obtain ⟨Y,v4,v5,v6,rfl,_,_,_,_,_,z,_⟩:=z;exact SqL.of z.1
 .clear b hO v R o hl hR S1 S2 S3 S4 W U c a9 ag af aj;rintro i x σ2 G hx ⟨Y,v4,v5,v6,rfl,b,hG,hO,v,R,o,hl,hR⟩;obtain ⟨q,hq,_,rfl⟩:=yh0 hx;have M:=ai q hq;obtain ⟨ds,vl,vm,vp,vc,a9⟩:=b.ins;refine ya0 (SqT.of (R.t q hq).1) rfl ?_;rfl';refine b.textof M.1 (fun S=>absurd rfl (S q hq)) fun r j er Z t F1 O g1 aT ao=>?_;obtain rfl:=Î hw.nd j hq er;have a8:=R.go (g1.go b);obtain ⟨a4,ak⟩:=hO.oth b v g1;have a0:=o.go b g1;have ac:=hl.go b g1;have aB:=hG.trans g1;have ad:xw F1 C.n lk C.kd tp C.ps:=hR.fr fun y xs e=>g1.g.fr _ _ e (b.sh.tup e);obtain ⟨aS,aR,aP,aQ,aO,a1⟩:=O.ins;rfl';refine yq5 (d:=.list (r.tx.map PyData.int)) (k:=1) (Sd.lst (SqL.of ao.1) (Sds.ints _)) (Sd.lst (SqL.of (a8.x r j).1) (Sds.ints _)) (by decide) ?_;rfl';refine O.baseof M.1 (fun S=>absurd rfl (S r j)) fun r2 a2 ap F2 S2=>?_;obtain rfl:=Î hw.nd a2 j ap;rfl';refine ⟨yki _ _,?_⟩;rw [dw rfl];have aL:=S2 _ _ a1;rfl';refine (O.same S2).bytesof M.1 (fun S=>absurd rfl (S r2 a2)) fun r3 a7 an b1 F3 aM al S3=>?_;obtain rfl:=Î hw.nd a7 a2 an;have a6:=S2.trans S3;obtain ⟨av,aC,aq,aA,au,aE⟩:=(a4.same a6).ins;rfl';refine (a4.same a6).bytesof M.1 (fun S=>absurd rfl (S r3 a7)) fun r4 a5 ar b2 F4 aJ ah S4=>?_;obtain rfl:=Î hw.nd a5 a7 ar;refine yq5 (d:=.list ((r4.by C).map PyData.int)) (k:=1) (Sd.lst (SqL.of (S4 _ _ al)) (Sds.ints _)) (Sd.lst (SqL.of ah) (Sds.ints _)) (by decide) ?_;have a3:=a6.trans S4;have aF:=a3 _ _ a1;rfl';refine (O.same a3).bytesof M.1 (fun S=>absurd rfl (S r4 a5)) fun r5 aa am b3 F5 aK ab S5=>?_;obtain rfl:=Î hw.nd aa a5 am;have L:=a3.trans S5;rfl';refine ⟨l,ml,C,lk,tp,Z.f,P,tu,tx,r5,rfl,L _ _ ac.1,ae.1,ae.2.1,ad.same L,ay,L _ _ a0.1,a8.go (Go.sm L),hw,hz,aa,ax,fun rr F6 aG aw S6=>?_⟩;refine yq5 (d:=.list ((r5.by C).map PyData.int)) (k:=1) (Sd.lst (SqL.of (S6 _ _ ab)) (Sds.ints _)) (Sd.lst (SqL.of aw) (Sds.ints _)) (by decide) ?_;have p:=L.trans S6;rfl';exact ⟨Z,_,_,_,rfl,O.same p,aB.same p,a4.same p,ak,a8.go (Go.sm p),a0.same p,ac.same p,ad.same p⟩
 .rintro σ2 G ⟨Y,v4,v5,v6,rfl,b,hG,hO,v,R,o,hl,hR⟩;rfl';exact k Y G b hG
theorem Go.sw {X Y:Sx} {M:Addr->Prop} {H:Hp}:Go (FF X Y M) H H (FF Y X M):=⟨fun _ _ e _=>e,fun c w=>.inl (w.elim (fun z=>.inr (.inl z)) fun z=>z.elim .inl fun z=>.inr (.inr z)),fun c o e=>⟨o,e⟩⟩
inductive On (H:Hp) (F:Addr->Prop) (ml dl:Addr) (P:List Pd) (m:Nat):Prop
 | mk (tu tx:Str->Addr) (dr:Nat->Addr) (Rn:Nat->List Pd) (d:H ml=some (.lst (mlV tu P))) (l:Ml H F P tu tx) (k:Mk4 P) (e:H dl=some (.lst (refs dr m))) (r0:Rn 0=[]) (rm:Rn m=P) (r:∀ i,i < m->Dd H F (dr i) (Rn i) (Rn (i+1)))
theorem On.go {H H':Hp} {F:Addr->Prop} {ml dl:Addr} {P:List Pd} {m:Nat} (h:On H F ml dl P m) (g:Go F H H' G) (hm:∀ o,H ml=some o->H' ml=some o) (hd:∀ o,H dl=some o->H' dl=some o):On H' G ml dl P m:=by
 obtain ⟨b,f,j,c,d,l,k,e,p,n,r⟩:=h;exact ⟨b,f,j,c,hm _ d,l.go g,k,hd _ e,p,n,fun i a=>(r i a).go g⟩
structure Iv2 (K:W.Frag) (a:Ads) (B H:Hp) (M:Addr->Prop) (st:Addr) (C:Cf) (ml dl:Addr) (P:List Pd) (X:Sx) (m:Nat) (st2:Addr) (C2:Cf) (ml2 dl2:Addr) (P2:List Pd) (X2:Sx) (m2:Nat):Prop where
 w:W2 K a H M st C P X st2 C2 P2 X2
 n:On H (FF X X2 M) ml dl P m
 n2:On H (FF X X2 M) ml2 dl2 P2 m2
 b:∀ x o,B x=some o->Kq H (FF X X2 M) x o
theorem Iv2.swap {B H:Hp} {M:Addr->Prop} {ml dl dl2:Addr} {C C2:Cf} {P P2:List Pd} {X X2:Sx} {m m2:Nat} (h:Iv2 K a B H M st C ml dl P X m st2 C2 ml2 dl2 P2 X2 m2):Iv2 K a B H M st2 C2 ml2 dl2 P2 X2 m2 st C ml dl P X m :=
 ⟨h.w.swap,h.n2.go Go.sw (fun _ e=>e) (fun _ e=>e),h.n.go Go.sw (fun _ e=>e) (fun _ e=>e),fun x o e=>(h.b x o e).go Go.sw⟩
theorem Iv2.same {B H H':Hp} {M:Addr->Prop} {ml dl dl2:Addr} {C C2:Cf} {P P2:List Pd} {X X2:Sx} {m m2:Nat} (h:Iv2 K a B H M st C ml dl P X m st2 C2 ml2 dl2 P2 X2 m2) (S:yw H H'):Iv2 K a B H' M st C ml dl P X m st2 C2 ml2 dl2 P2 X2 m2 :=
 ⟨h.w.same S,h.n.go (Go.sm S) (fun _ e=>S _ _ e) (fun _ e=>S _ _ e),h.n2.go (Go.sm S) (fun _ e=>S _ _ e) (fun _ e=>S _ _ e),fun x o e=>(h.b x o e).go (Go.sm S)⟩
def M4 (ml dl ml2 dl2:Addr):Addr->Prop:=fun y=>y=ml\/y=dl\/y=ml2\/y=dl2
structure Ne4 (ml dl ml2 dl2:Addr):Prop where
 a:ml≠dl
 b:ml≠ml2
 c:ml≠dl2
 d:dl≠ml2
 e:dl≠dl2
 f:ml2≠dl2
theorem base_of (H:Hp) (F:Addr->Prop):∃ B:Hp,(∀ x o,B x=some o->Kq H F x o)/\∀ x o,Kq H F x o->B x=some o:=by
 classical
 refine ⟨fun x=>if F x then none else H x,fun x o e=>?_,fun x o e=>?_⟩
 .have e:(if F x then none else H x)=some o:=e;by_cases z:F x
  .rw [if_pos z] at e; cases e
  .rw [if_neg z] at e; exact ⟨e,z⟩
 .show (if F x then none else H x)=some o;rw [if_neg e.2];exact e.1
theorem Dd.ls {H:Hp} {F:Addr->Prop} {r:Addr} {P P':List Pd} (h:Dd H F r P P'):∃ ys,H r=some (.lst ys):=by
 cases h with
 | drop P q k e=>exact ⟨_,e.1⟩
 | put P q t k l s e x=>exact ⟨_,e.1⟩
theorem ypm {H:Hp} {F:Addr->Prop} {dr:Nat->Addr} {Rn:Nat->List Pd} {m:Nat} (r:∀ i,i < m->Dd H F (dr i) (Rn i) (Rn (i+1))):∀ x∈refs dr m,∃ q,x=V.ref q/\ysf (H q):=fun x a=>by
 obtain ⟨i,b,rfl⟩:=di.mp a;obtain ⟨c,e⟩:=(r i (ew.mp b)).ls;exact ⟨_,rfl,.inl ⟨c,e⟩⟩
theorem ypj {H:Hp} {F:Addr->Prop} {dr:Nat->Addr} {Rn:Nat->List Pd} {m:Nat} {P P':List Pd} {r':Addr} (r0:Rn 0=[]) (rm:Rn m=P) (r:∀ i,i < m->Dd H F (dr i) (Rn i) (Rn (i+1))) (hd:Dd H F r' P P') :
  ∃ Rn':Nat->List Pd,Rn' 0=[]/\Rn' (m+1)=P'/\∀ i,i < m+1->Dd H F ((fun j=>if j=m then r' else dr j) i) (Rn' i) (Rn' (i+1)):=by
 refine ⟨fun j=>if j <= m then Rn j else P',?_,?_,fun i a=>?_⟩
 .show (if 0 <= m then Rn 0 else P')=[];rw [if_pos (dJ _)];exact r0
 .show (if m+1 <= m then Rn (m+1) else P')=P';rw [if_neg (by omega)]
 .show Dd H F (if i=m then r' else dr i) (if i <= m then Rn i else P') (if i+1 <= m then Rn (i+1) else P');rw [if_pos (show i <= m by omega)];by_cases e:i=m
  .rw [if_pos e,if_neg (show ¬ i+1 <= m by omega),e,rm];exact hd
  .rw [if_neg e,if_pos (show i+1 <= m by omega)];exact r i (by omega)
theorem Mk4.nil:Mk4 []:=⟨(fun i r b h=>by simp at h),(fun q a=>nomatch a),List.nodup_nil⟩
theorem On.new {H:Hp} {F:Addr->Prop} {ml dl:Addr} (hm:H ml=some (.lst [])) (hd:H dl=some (.lst [])):On H F ml dl [] 0:=⟨fun _=>0,fun _=>0,fun _=>0,fun _=>[],hm,⟨(fun q a=>nomatch a),(fun q a=>nomatch a)⟩,.nil,hd,rfl,rfl,fun i b=>absurd b (dN i)⟩
theorem u9:yk ["_law_script","_law_way","_law_looks_here","_law_mosts","_law_stores","_law_models","_law_deeds","_law_k","_law_cell","_law_at","_law_j"] ["_law_script"] (yg yre):=w4 (by right)
inductive ya6 (K:W.Frag) (vs:List V) (H:Hp) (Q:VK) (E':XK):Prop
 | mk (l:Addr) (ns:List Int):(vs=[.ref l])->(SqL K H l (ns.map V.int))->(ns.length <= 63)->(∀ H',Q (.bl true) H')->ya6 K vs H Q E'
theorem yvg (T:Txt K mg a):wc P w K mg base CX0 16 a.Nq a.Gu ["_law_script"] (ya6 K):=by
 exists T.Hu.F.ok,u9,hr;obtain ⟨l,zs,rfl,hS,cQ,k⟩:=h;refine yo (y7 (i:=1) u9.nd rfl (Or.inl rfl) (vd (yav T) (hr.mono (by decide)) rfl T.Av.m T.Av.F.kp T.Av.B .nil vh (ya (pv 0) (ya yj ye (yb rfl)) (yb rfl)))) ?_;refine yo (y7 (i:=2) u9.nd rfl (Or.inl rfl) (wq (ya (vd (yla T) (hr.mono (by decide)) rfl T.D0.m T.D0.F.kp T.D0.B .nil vh (ya (vd (yav T) (hr.mono (by decide)) rfl T.Av.m T.Av.F.kp T.Av.B .nil vh (ya (pv 0) (ya yj ye (yb rfl)) (yb rfl))) (ya yj ye (yb rfl)) (yb rfl))) (ya (vd (yla T) (hr.mono (by decide)) rfl T.D0.m T.D0.F.kp T.D0.B .nil vh (ya (vd (yav T) (hr.mono (by decide)) rfl T.Av.m T.Av.F.kp T.Av.B .nil vh (ya (pv 0) (ya yj ye (yb rfl)) (yb rfl))) (ya yj ye (yb rfl)) (yb rfl))) ye (yb rfl)) (yb rfl)))) ?_;refine yo (y7 (i:=3) u9.nd rfl (Or.inl rfl) (wq (ya (yr wx yj (yr xq (pv 1) yj)) (ya (yr wx yj (yr xq (vd (yav T) (hr.mono (by decide)) rfl T.Av.m T.Av.F.kp T.Av.B .nil vh (ya (pv 0) (ya yj ye (yb rfl)) (yb rfl))) yj)) ye (yb rfl)) (yb rfl)))) ?_;refine yo (jc (wu (yy uk (yr xq (yr vy (pv 1) yj) yj) yj (vg _)) (yh (yhz (xf wj (pv 2) yj (fun _ _=>rfl)) (ym7 (pv 2) yj ycr)) (yf (yhz (xf wj (pv 3) yj (fun _ _=>rfl)) (ym7 (pv 3) yj ycr)))) y9)) ?_;refine yo (y7 (i:=4) u9.nd rfl (Or.inl rfl) (wq (ya (x6 T.Fw (yh8 T) (hr.mono (by decide)) rfl T.Fv T.Nt .nil vt (ya (xf wj (pv 2) yj (fun _ _=>rfl)) (ya (xf wj (pv 3) yj (fun _ _=>rfl)) ye (yb rfl)) (yb rfl))) (ya (x6 T.Fw (yh8 T) (hr.mono (by decide)) rfl T.Fv T.Nt .nil vt (ya (xf wj (pv 2) yj (fun _ _=>rfl)) (ya (xf wj (pv 3) yj (fun _ _=>rfl)) ye (yb rfl)) (yb rfl))) ye (yb rfl)) (yb rfl)))) ?_;refine yo (y7 (i:=5) u9.nd rfl (Or.inl rfl) (wq (ya (wq ye) (ya (wq ye) ye (yb rfl)) (yb rfl)))) ?_;refine yo (y7 (i:=6) u9.nd rfl (Or.inl rfl) (wq (ya (wq ye) (ya (wq ye) ye (yb rfl)) (yb rfl)))) ?_;refine yo (za PassesOwn.never rfl (yab rfl T.D4 (ya (yq (û rfl) rfl T.Hy (by right) (ya yj (ya (yq (ø rfl) rfl T.Hz (by right) (ya yj (ya (yr uu (yq yt rfl T.Ae (by right) (ya (pv 0) ye (yb rfl))) yj) ye (yb rfl)) (yb rfl))) ye (yb rfl)) (yb rfl))) ye (yb rfl))) (wb (i:=7) u9.nd rfl (Or.inl rfl)) (yh (y7 (i:=8) u9.nd rfl (Or.inl rfl) (vd (yav T) (hr.mono (by decide)) rfl T.Av.m T.Av.F.kp T.Av.B .nil vh (ya (pv 0) (ya (yr wx yj (pv 7)) ye (yb rfl)) (yb rfl)))) (yh (y7 (i:=9) u9.nd rfl (Or.inl rfl) (xf wj (wq (ya (yr xq (pv 7) yj) (ya (yr xq (yr vy (pv 8) yj) yj) ye (yb rfl)) (yb rfl))) (yr xq (yr vy (pv 1) yj) yj) (fun _ _=>rfl))) (yh (yu (Ä PySem.F.plainAttrs_list PySem.F.slot_list_append PySem.F.type_list_append w9 (xf wj (pv 6) (pv 9) (fun _ _=>rfl)) (ya (vj (yvo T) (hr.mono (by decide)) rfl T.Fk.m T.Fk.F.kp T.Fk.B .nil vt (ya (xf wj (pv 4) (pv 9) (fun _ _=>rfl)) (ya (xf wj (pv 5) (pv 9) (fun _ _=>rfl)) (ya (pv 8) ye (yb rfl)) (yb rfl)) (yb rfl))) ye (yb rfl)))) (yf (za PassesOwn.never rfl (wd (wq (ya yj (ya yj ye (yb rfl)) (yb rfl)))) (wb (i:=10) u9.nd rfl (Or.inl rfl)) (yf (wu (yy (ι hr.units) (wy (xf wj (pv 4) (pv 10) (fun _ _=>rfl)) T.A2 T.Ce.m (yei T) (hr.mono (by decide)) T.Ce.B .nil vh) (wg (js:=[]) (ys:=[]) rfl (wd (xf wj (pv 5) (pv 10) (fun _ _=>rfl))) (fun C s2 H2 fp=>(xf (r:=yr4 K) ug (pv 0) yj (fun _ _=>rfl))) rfl rfl (hyc:=yx) (hrel:=yx)) (vg _)) (yf (yv ya9)) y9)))))))) ?_;refine yo (za PassesOwn.never rfl (wd (wq (ya yj (ya yj ye (yb rfl)) (yb rfl)))) (wb (i:=9) u9.nd rfl (Or.inl rfl)) (yf (wu (x3 (x8 (vj (yuk T) (hr.mono (by decide)) rfl T.Fn.m T.Fn.F.kp T.Fn.B .nil vt (ya (xf wj (pv 2) (pv 9) (fun _ _=>rfl)) (ya (xf wj (pv 4) (pv 9) (fun _ _=>rfl)) (ya (xf wj (pv 5) (pv 9) (fun _ _=>rfl)) (ya (vj (ytn T) (hr.mono (by decide)) rfl T.Fl.m T.Fl.F.kp T.Fl.B .nil vt (ya (xf wj (pv 2) (pv 9) (fun _ _=>rfl)) (ya (xf wj (pv 3) (pv 9) (fun _ _=>rfl)) (ya (xf wj (pv 6) (pv 9) (fun _ _=>rfl)) ye (yb rfl)) (yb rfl)) (yb rfl))) ye (yb rfl)) (yb rfl)) (yb rfl)) (yb rfl))))) (yf (yv ya9)) y9))) ?_;refine ⟨_,(yf (yv ya9)),?_⟩;exists 1,10;rfl';refine ⟨l,zs,0,rfl,hS,by decide,fun Z w0 w1=>?_⟩;rfl';refine ⟨l,zs,1,rfl,hS,by decide,fun c1 cm ct=>?_⟩;rfl'
 refine ⟨c1,1,rfl,cm,ct,by decide,by decide,fun lo n lk kd tp ps H1 cP a8 n1 n6 bs S1=>?_⟩;rfl';refine ⟨l,zs,2,rfl,S1.seq hS,by decide,fun c2 cK bX=>?_⟩;rfl';refine ⟨c2,1,rfl,cK,bX,by decide,by decide,fun bG n2 cn cD c7 ch H2 bW b4 c0 cI cM S2=>?_⟩;rfl';refine ⟨by walk_at "len",fun lh hlh0=>?_⟩
 with_reducible first | refine y6 hlh0 fun H3 S3 hlh3=>?_ | refine vi hlh0 fun H3 S3 hlh3=>?_
 rfl';have cG:=(S1.trans S2).trans S3;refine ⟨l,zs,3,rfl,cG.seq hS,by decide,fun c3 cV cU=>?_⟩;rfl';refine ⟨by walk_at "len",fun mo hmo0=>?_⟩
 with_reducible first | refine y6 hmo0 fun H4 S4 hmo4=>?_ | refine vi hmo0 fun H4 S4 hmo4=>?_
 have ar:=S4 _ _ hlh3;have bR:=S3.free hmo0;have bk:=S3.trans S4;obtain ⟨m0,cc,bc,bN⟩:∃ m:Nat,1+Z % 1000=(m:Int)/\1 <= m/\m <= 1000:=⟨(1+Z % 1000).toNat,by omega,by omega,by omega⟩;obtain ⟨m1,cb,cA,c5⟩:∃ m:Nat,1+c3 % 3=(m:Int)/\1 <= m/\m <= 1000:=⟨(1+c3 % 3).toNat,by omega,by omega,by omega⟩;rw [cc,cb] at hmo4;rfl';refine ⟨fun σ2 G=>σ2=[some (.ref l),some (.int Z),some (.ref lh),some (.ref mo),none,none,none,none,none,none,none]/\∃ (aj n':Nat) (aD bd:Nat->Addr) (a6:Nat->Fin 3) (a5:Nat->List Int) (m':Nat),G lh=some (.lst [.ref lo,.ref aj])/\G mo=some (.lst [.int m0,.int m'])/\1 <= m'/\m' <= 1000/\H2 aj=some (.lst (refs aD n'))/\1 <= n'/\n' <= 6/\xw H2 n' aD a6 bd a5/\yw H2 G,?_,?_⟩
 .refine ifI True (fun Qb qT qF=>?_) (fun _=>?_) ?_
  .rfl';by_cases h:Z / 1000 % 3=0
   .rw [dw h]; exact qT trivial
   .rw [dG h]; exact qF
  .rfl';refine ua (v:=.ref lo) (SqL.of ar) (vw (j:=0) rfl) ?_;rfl';refine ⟨lh,_,_,1,rfl,rfl,ar,rfl,?_⟩;have e1:lh≠mo:=yd hlh3 hmo0;have h1:upd H4 lh (.lst ([V.ref lo,V.ref bG].set 1 (.ref lo))) mo=some (.lst [.int m0,.int m1]):=yi e1.symm hmo4;rfl';refine ua (v:=.int m0) (SqL.of h1) (vw (j:=0) rfl) ?_;rfl';refine ⟨mo,_,_,1,rfl,rfl,h1,rfl,?_⟩;exact ⟨rfl,lo,n,lk,tp,kd,ps,m0,yi e1 yc,yc,bc,bN,S2 _ _ a8,n1,n6,bs.same S2,fun y o e=>yi (yd e bR) (yi (yd e hlh0) (bk _ _ e))⟩
  .exact ⟨rfl,bG,n2,cn,c7,cD,ch,m1,ar,hmo4,cA,c5,b4,c0,cI,cM,bk⟩
 rintro σ2 G ⟨rfl,aj,n',aD,bd,a6,a5,m',ae,af,bI,cz,bw,cp,co,cj,SG⟩;have ba:=SG.seq ((S1.trans S2).seq hS);have b7:=cj.same SG;have ak:=(bs.same S2).same SG;have an:=SG _ _ bw;have ac:=SG _ _ (S2 _ _ a8);rfl';refine ua (v:=.ref lo) (SqL.of ae) (vw (j:=0) rfl) ?_;rfl';refine ua (v:=.int m0) (SqL.of af) (vw (j:=0) rfl) ?_;rfl';intro st ds br bM cS;refine Sto.new (mo:=m0) (w:=1) br bM ac n1 n6 ak bN bc (by decide) fun X H5 ax S5 bq _=>⟨rfl,?_⟩;rfl';refine ua (v:=.ref aj) (SqL.of (S5 _ _ ae)) (vw (j:=1) rfl) ?_;rfl';refine ua (v:=.int m') (SqL.of (S5 _ _ af)) (vw (j:=1) rfl) ?_;rfl';intro J cX bi b6 cN;refine Sto.new (mo:=m') (w:=1) bi b6 (S5 _ _ an) cp co (b7.same S5) cz bI (by decide) fun O H6 aB S6 bg _=>⟨rfl,?_⟩;rfl';refine ⟨by walk_at "len",fun sl hsl0=>?_⟩
 with_reducible first | refine y6 hsl0 fun H7 S7 hsl7=>?_ | refine vi hsl0 fun H7 S7 hsl7=>?_
 rfl';refine ⟨by walk_at "len",fun u hml0=>?_⟩
 with_reducible first | refine y6 hml0 fun H8 S8 hml8=>?_ | refine vi hml0 fun H8 S8 hml8=>?_
 rfl';refine ⟨by walk_at "len",fun g hml20=>?_⟩
 with_reducible first | refine y6 hml20 fun H9 S9 hml29=>?_ | refine vi hml20 fun H9 S9 hml29=>?_
 rfl';refine ⟨by walk_at "len",fun mm hmm0=>?_⟩
 with_reducible first | refine y6 hmm0 fun H10 S10 hmm10=>?_ | refine vi hmm0 fun H10 S10 hmm10=>?_
 rfl';refine ⟨by walk_at "len",fun I hdl0=>?_⟩
 with_reducible first | refine y6 hdl0 fun H11 S11 hdl11=>?_ | refine vi hdl0 fun H11 S11 hdl11=>?_
 rfl';refine ⟨by walk_at "len",fun p hdl20=>?_⟩
 with_reducible first | refine y6 hdl20 fun H12 S12 hdl212=>?_ | refine vi hdl20 fun H12 S12 hdl212=>?_
 rfl';refine ⟨by walk_at "len",fun dd hdd0=>?_⟩
 with_reducible first | refine y6 hdd0 fun H13 S13 hdd13=>?_ | refine vi hdd0 fun H13 S13 hdd13=>?_
 rfl';have cw:u≠g:=yd hml8 hml20;have L:=S10.trans S11;have S:=S9 _ _ hml8;have R:=(L.trans S12).trans S13;have n4:Ne4 u I g p:=⟨yd (S10 _ _ S) hdl0,cw,yd (L _ _ S) hdl20,(yd (S10 _ _ hml29) hdl0).symm,yd hdl11 hdl20,yd (L _ _ hml29) hdl20⟩;have aa:=((S7.trans S8).trans S9).trans R;have aX:∀ {y:Addr} {o:HO},H6 y=some o->∀ {z:Addr},H6 z=none->y≠z:=fun e _ h=>yd e h;have bz:H6 u=none:=S7.free hml0;have aO:H6 g=none:=(S7.trans S8).free hml20;have bF:H6 I=none:=(((S7.trans S8).trans S9).trans S10).free hdl0;have aM:H6 p=none:=(((S7.trans S8).trans S9).trans L).free hdl20
 have hW:W2 K a H13 (M4 u I g p) st ⟨n,kd,ps,m0,1⟩ [] X J ⟨n',a6,a5,m',1⟩ [] O:=by
  refine ⟨(ax.same S6).same aa,aB.same aa,fun y w v=>?_,fun y w=>?_⟩
  .obtain ⟨o,e⟩:=ax.live y w;rw [bg y v] at e;cases e
  .have f:H6 y=none/\∃ xs,H13 y=some (.lst xs):=by
    rcases w with rfl | rfl | rfl | rfl
    .exact ⟨bz,_,R _ _ S⟩
    .exact ⟨bF,_,S13 _ _ (S12 _ _ hdl11)⟩
    .exact ⟨aO,_,R _ _ hml29⟩
    .exact ⟨aM,_,S13 _ _ hdl212⟩
   refine ⟨fun z=>?_,fun z=>?_,f.2⟩
   .obtain ⟨o,e⟩:=(ax.same S6).live y z;rw [f.1] at e;cases e
   .obtain ⟨o,e⟩:=aB.live y z;rw [f.1] at e;cases e
 obtain ⟨B,bE,bf⟩:=base_of H13 (FF X O (M4 u I g p));have hI:Iv2 K a B H13 (M4 u I g p) st ⟨n,kd,ps,m0,1⟩ u I [] X 0 J ⟨n',a6,a5,m',1⟩ g p [] O 0:=⟨hW,On.new (R _ _ S) (S13 _ _ (S12 _ _ hdl11)),On.new (R _ _ hml29) (S13 _ _ hdl212),bE⟩;have aG:=S5.trans S6;have aN:=aa.seq (aG.seq ba);refine ⟨l,_,rfl,.inl aN,?_⟩;rfl';refine ⟨_,_,rfl,?_⟩;rfl';refine ⟨_,_,rfl,?_⟩;rfl'
 obtain ⟨N,eN,cY⟩:∃ N:Nat,(if (if ((zs.map V.int).length:Int) - 4 > 1 then ((zs.map V.int).length:Int) - 4 else 1) < 5 then if ((zs.map V.int).length:Int) - 4 > 1 then ((zs.map V.int).length:Int) - 4 else 1 else 5)=(N:Int)/\N <= 5:=by
  refine ⟨(if (if ((zs.map V.int).length:Int) - 4 > 1 then ((zs.map V.int).length:Int) - 4 else 1) < 5 then if ((zs.map V.int).length:Int) - 4 > 1 then ((zs.map V.int).length:Int) - 4 else 1 else 5).toNat,?_,?_⟩
  .repeat' split
   all_goals omega
  .repeat' split
   all_goals omega
 rw [eN]
 have nF:∀ {y:Addr} {o:HO},H13 y=some o->(∀ z,z=st\/z=y->True)->H6 y=none->y≠u->y≠I->y≠g->y≠p->B y=some o:=fun {y o} e _ f a1 a2 a3 a4=>bf y o ⟨e,fun w=>by
  rcases w with w | w | w | w | w | w
  .obtain ⟨o,e'⟩:=(ax.same S6).live y w;rw [f] at e'; cases e'
  .obtain ⟨o,e'⟩:=aB.live y w;rw [f] at e'; cases e'
  .exact a1 w
  .exact a2 w
  .exact a3 w
  .exact a4 w⟩
 have a7:yw G B:=fun y o e=>bf y o ⟨aa _ _ (aG _ _ e),fun w=>by
  have e6:=aG _ _ e;rcases w with w | w | w | w | w | w
  .rw [bq y w] at e; cases e
  .have:=bg y w;rw [S5 _ _ e] at this; cases this
  .rw [w,bz] at e6; cases e6
  .rw [w,bF] at e6; cases e6
  .rw [w,aO] at e6; cases e6
  .rw [w,aM] at e6; cases e6⟩
 have cy:=a7.seq ba;have am:B sl=some (.lst [.ref st,.ref J]):=nF ((((S8.trans S9).trans R)) _ _ hsl7) (fun _ _=>trivial) hsl0 (yd hsl7 hml0) (yd ((S8.trans S9).trans S10 _ _ hsl7) hdl0) (yd (S8 _ _ hsl7) hml20) (yd ((S8.trans S9).trans L _ _ hsl7) hdl20);have ay:B mm=some (.lst [.ref u,.ref g]):=nF (((S11.trans S12).trans S13) _ _ hmm10) (fun _ _=>trivial) (((S7.trans S8).trans S9).free hmm0) (yd S hmm0).symm (yd hmm10 hdl0) (yd hml29 hmm0).symm (yd (S11 _ _ hmm10) hdl20);have aS:B dd=some (.lst [.ref I,.ref p]):=nF hdd13 (fun _ _=>trivial) ((((S7.trans S8).trans S9).trans (L.trans S12)).free hdd0) (yd ((L.trans S12) _ _ S) hdd0).symm (yd (S12 _ _ hdl11) hdd0).symm (yd ((L.trans S12) _ _ hml29) hdd0).symm (yd hdl212 hdd0).symm;have aV:=a7 _ _ ae;have bA:=a7 _ _ af;have bP:=a7 _ _ ac;have b5:=a7 _ _ an;have c8:=ak.same a7;have bC:=b7.same a7;clear aN bE bf nF a7 ae af ac an ak b7 ba hW aa R L S hdd13 hdl212 hdl11 hmm10 hml29 hml8 hsl7 aX aG;refine ⟨_,rfl,by omega,by omega,ž (n:=N) (fun i σ2 G=>∃ (P P2:List Pd) (X O:Sx) (m m2:Nat) (v7 v8 v9 M:Option V),σ2=[some (.ref l),some (.int Z),some (.ref lh),some (.ref mo),some (.ref sl),some (.ref mm),some (.ref dd),v7,v8,v9,M]/\Iv2 K a B G (M4 u I g p) st ⟨n,kd,ps,m0,1⟩ u I P X m J ⟨n',a6,a5,m',1⟩ g p P2 O m2/\m <= i/\m2 <= i)
  ⟨[],[],X,O,0,0,_,_,_,_,rfl,hI,dh _,dh _⟩ ?_ ?_⟩
 .clear hI ax aB bq bg S5 S6 S7 S8 S9 S10 S11 S12 S13;rintro i σ2 G hi ⟨P,P2,X,O,m,m2,v7,v8,v9,M,rfl,hI,bB,aR⟩;have SB:yw B G:=fun x o e=>(hI.b x o e).1;rfl';refine ⟨l,zs,4+i,by rw [show ((4+i:Nat):Int)=4+(0+(i:Int)) by omega]; rfl,SB.seq cy,by omega,fun ce cB cx=>?_⟩;rfl';refine ⟨by walk_at "len",fun tl htl0=>?_⟩
  with_reducible first | refine y6 htl0 fun G1 T1 htl1=>?_ | refine vi htl0 fun G1 T1 htl1=>?_
  have av:=hI.same T1;have b1:=SB.trans T1
  obtain ⟨aK,cr,bp⟩:∃ j:Nat,atI [V.int ((0+(i:Int)) % 2),V.int (ce / 70000 % 2)] (Z / 3000 % 2)=some (.int (j:Int))/\(j=0\/j=1):=by
   have cJ:Z / 3000 % 2=0\/Z / 3000 % 2=1:=by omega
   rcases cJ with h | h
   .refine ⟨((0+(i:Int)) % 2).toNat,?_,by omega⟩;rw [h,show (((0+(i:Int)) % 2).toNat:Int)=(0+(i:Int)) % 2 by omega];exact vw (j:=0) rfl
   .refine ⟨(ce / 70000 % 2).toNat,?_,by omega⟩;rw [h,show ((ce / 70000 % 2).toNat:Int)=ce / 70000 % 2 by omega];exact vw (j:=1) rfl
  rfl';refine ua (SqL.of htl1) cr ?_;rfl';obtain ⟨s1,s2,U,Cb,W,da,mb,db,Pa,Pb,Xa,Xb,na,nb,al,aA,b2,a0,aC,aE,bb,b0,bo,c6,cl,bS,ca,aJ,bD,ab⟩:∃ (s1 s2:Addr) (U Cb:Cf) (W da mb db:Addr) (Pa Pb:List Pd) (Xa Xb:Sx) (na nb:Nat),[V.ref st,V.ref J][aK]?=some (V.ref s1)/\[V.ref u,V.ref g][aK]?=some (V.ref W)/\[V.ref I,V.ref p][aK]?=some (V.ref da)/\Iv2 K a B G1 (M4 u I g p) s1 U W da Pa Xa na s2 Cb mb db Pb Xb nb/\M4 u I g p W/\M4 u I g p da/\M4 u I g p mb/\M4 u I g p db/\da≠W/\mb≠W/\db≠W/\mb≠da/\db≠da/\U.w=1/\na <= i /\
    ∀ (G':Hp) (P':List Pd) (Y:Sx),Iv2 K a B G' (M4 u I g p) s1 U W da P' Y (na+1) s2 Cb mb db Pb Xb nb->∃ (P P2:List Pd) (X O:Sx) (m m2:Nat),Iv2 K a B G' (M4 u I g p) st ⟨n,kd,ps,m0,1⟩ u I P X m J ⟨n',a6,a5,m',1⟩ g p P2 O m2/\m <= i+1/\m2 <= i+1:=by
   rcases bp with rfl | rfl
   .exact ⟨st,J,_,_,u,I,g,p,P,P2,X,O,m,m2,rfl,rfl,rfl,av,.inl rfl,.inr (.inl rfl),.inr (.inr (.inl rfl)),.inr (.inr (.inr rfl)),n4.a.symm,n4.b.symm,n4.c.symm,n4.d.symm,n4.e.symm,rfl,bB,fun G' P' Y h=>⟨_,_,_,_,_,_,h,by omega,by omega⟩⟩
   .exact ⟨J,st,_,_,g,p,u,I,P2,P,O,X,m2,m,rfl,rfl,rfl,av.swap,.inr (.inr (.inl rfl)),.inr (.inr (.inr rfl)),.inl rfl,.inr (.inl rfl),n4.f.symm,n4.b,n4.d,n4.c,n4.e,rfl,aR,fun G' P' Y h=>⟨_,_,_,_,_,_,h.swap,by omega,by omega⟩⟩
  refine ua (SqL.of (b1 _ _ aS)) (vw b2) ?_;obtain ⟨tu,tx,dr,Rn,hd,hl,ad,aF,aY,bj,be⟩:=a0.n;refine z8 aF ?_;rfl';refine ua (SqL.of (b1 _ _ am)) (vw al) ?_;rfl';refine ua (SqL.of (b1 _ _ ay)) (vw aA) ?_;rfl';refine ⟨_,s1,U,Pa,Xa,s2,Cb,Pb,Xb,W,tu,tx,ce,rfl,a0.w,aC,hd,hl,ad,aJ,cB,cx,fun P' Y ck cC r' G2 bh g' b9 bK bm cv ci=>?_⟩;rfl';have aP:=b9 _ _ aE bo aF;have aL:∀ i,i < na->Dd G2 (FF Y Xb (M4 u I g p)) (dr i) (Rn i) (Rn (i+1)):=fun i hi=>(be i hi).go g';refine ⟨da,_,_,rfl,rfl,aP,vo (by rw [vz]; omega),?_⟩;obtain ⟨bQ,g3,f3⟩:=bh.but (ys:=refs dr na++[.ref r']) aE aP (ypm aL);have aT:upd G2 da (.lst (refs dr na++[.ref r'])) da=some (.lst (refs (fun j=>if j=na then r' else dr j) (na+1))):=by rw [yg7]; exact yc
  generalize upd G2 da (.lst (refs dr na++[.ref r']))=G3 at bQ g3 f3 aT ⊢;obtain ⟨bZ,cu,bY,cF⟩:=ypj aY bj (fun i hi=>(aL i hi).go g3) (ci.go g3);have bU:Iv2 K a B G3 (M4 u I g p) s1 U W da P' Y (na+1) s2 Cb mb db Pb Xb nb:=⟨bQ,⟨ck,cC,_,bZ,f3 _ _ bo.symm bK,bm.go g3,cv,aT,cu,bY,cF⟩,a0.n2.go (g'.trans g3) (fun o e=>f3 _ _ bS (b9 _ _ bb c6 e)) (fun o e=>f3 _ _ ca (b9 _ _ b0 cl e)),fun x o e=>((a0.b x o e).go g').go g3⟩;obtain ⟨Pn,c4,Xn,bV,mn,cq,cd,bT,bL⟩:=ab G3 P' Y bU;rfl';refine ⟨by walk_at "len",fun il a9=>?_⟩;have T4:=y8 (o:=(.lst [V.int 1,V.int 0])) a9;have ao:upd G3 il (.lst [V.int 1,V.int 0]) il=some (.lst [V.int 1,V.int 0]):=yc;generalize upd G3 il (.lst [V.int 1,V.int 0])=G4 at T4 ao ⊢;have aZ:=cd.same T4;have cs:yw B G4:=fun x o e=>(aZ.b x o e).1;refine ⟨il,rfl,⟨_,SqL.of ao⟩,x5 (K:=K) (a:=il) (xs:=[V.int 1,V.int 0]) (fun j σ2 F=>∃ M:Option V,σ2=[some (.ref l),some (.int Z),some (.ref lh),some (.ref mo),some (.ref sl),some (.ref mm),some (.ref dd),some (.int (0+(i:Int))),some (.int ce),some (.int (aK:Int)),M]/\yw G4 F)
   ⟨_,rfl,fun _ _ e=>e⟩ (fun j σ2 F _ z=>?_) ?_ ?_⟩
  .obtain ⟨M,rfl,SF⟩:=z;exact SqL.of (SF _ _ ao)
  .rintro j x σ2 F hx ⟨M,rfl,SF⟩
   obtain ⟨jj,rfl,aq⟩:∃ jj:Nat,x=.int (jj:Int)/\(jj=0\/jj=1):=by
    have hm:=dI hx;rcases dA.mp hm with z | z
    .exact ⟨1,z,.inr rfl⟩
    .exact ⟨0,dB.mp z,.inl rfl⟩
   have aH:=aZ.same SF
   obtain ⟨s1,U,W,Pa,Xa,tu,tx,Fa,al,aA,aW,bl,cL,cg⟩:∃ (s1:Addr) (U:Cf) (W:Addr) (Pa:List Pd) (Xa:Sx) (tu tx:Str->Addr) (Fa:Addr->Prop),[V.ref st,V.ref J][jj]?=some (V.ref s1)/\[V.ref u,V.ref g][jj]?=some (V.ref W)/\Sto K a F s1 U Pa Xa/\F W=some (.lst (mlV tu Pa))/\Ml F Fa Pa tu tx/\Mk4 Pa:=by
    rcases aq with rfl | rfl
    .obtain ⟨tu,tx,dr,Rn,hd,hl,ad,_⟩:=aH.n;exact ⟨st,_,u,_,_,tu,tx,_,rfl,rfl,aH.w.s,hd,hl,ad⟩
    .obtain ⟨tu,tx,dr,Rn,hd,hl,ad,_⟩:=aH.n2;exact ⟨J,_,g,_,_,tu,tx,_,rfl,rfl,aH.w.o,hd,hl,ad⟩
   have hz:=cg.z
   have aU:∀ x,x∈Pa.map (·.nm)->PyData.strOk x=true:=fun x hx=>by
    obtain ⟨q,hq,rfl⟩:=di.mp hx;exact (aW.nm q hq).2
   obtain ⟨d3,d2,d0,d1,cZ,cR⟩:=aW.ins;have bn:=cs.trans SF;rfl';refine ua (SqL.of (bn _ _ am)) (vw al) ?_;rfl';refine aW.names fun n1 F1 cO au U1=>?_;have au:F1 n1=some (.lst ((Pa.map (·.nm)).map V.str)):=by rw [au,dX]; rfl
   rfl';refine ua (SqL.of ((bn.trans U1) _ _ ay)) (vw aA) ?_;rfl';refine ⟨W,rfl,⟨_,SqL.of (U1 _ _ bl)⟩,fun D hD=>?_⟩;refine ŏ (U1 _ _ bl) (fun q hq=>⟨_,U1 _ _ (cL.t q hq).1⟩) (vo (by omega)) hD fun F2 U2 c9=>?_;refine yaz _ _ aU aU (SqL.of (U2 _ _ au)) (SqL.of c9) ?_;rw [dw rfl];rfl';exact ⟨_,rfl,(SF.trans U1).trans U2⟩
  .rintro σ2 F ⟨M,rfl,SF⟩;exact ⟨Pn,c4,Xn,bV,mn,cq,_,_,_,_,rfl,aZ.same SF,bT,bL⟩
 .rintro σ2 G ⟨P,P2,X,O,m,m2,v7,v8,v9,M,rfl,hI,bB,aR⟩;rfl';refine ⟨by walk_at "len",fun il a9=>?_⟩;have T1:=y8 (o:=(.lst [V.int 0,V.int 1])) a9;have ag:upd G il (.lst [V.int 0,V.int 1]) il=some (.lst [V.int 0,V.int 1]):=yc;generalize upd G il (.lst [V.int 0,V.int 1])=G1 at T1 ag ⊢;have av:=hI.same T1;have az:Kq G1 (FF X O (M4 u I g p)) il (.lst [V.int 0,V.int 1]):=hI.w.new a9 ag;refine ⟨il,rfl,⟨_,SqL.of ag⟩,x5 (K:=K) (a:=il) (xs:=[V.int 0,V.int 1]) (fun j σ2 F=>∃ (P P2:List Pd) (X O:Sx) (v7 v8 v9 M:Option V),σ2=[some (.ref l),some (.int Z),some (.ref lh),some (.ref mo),some (.ref sl),some (.ref mm),some (.ref dd),v7,v8,v9,M]/\Iv2 K a B F (M4 u I g p) st ⟨n,kd,ps,m0,1⟩ u I P X m J ⟨n',a6,a5,m',1⟩ g p P2 O m2/\Kq F (FF X O (M4 u I g p)) il (.lst [V.int 0,V.int 1]))
   ⟨P,P2,X,O,_,_,_,_,rfl,av,az⟩ (fun j σ2 F _ z=>?_) ?_ ?_⟩
  .obtain ⟨P,P2,X,O,v7,v8,v9,M,rfl,_,z⟩:=z;exact SqL.of z.1
  .clear hI av ag az T1 a9;rintro j x σ2 F hx ⟨P,P2,X,O,v7,v8,v9,M,rfl,hI,bu⟩
   obtain ⟨jj,rfl,aq⟩:∃ jj:Nat,x=.int (jj:Int)/\(jj=0\/jj=1):=by
    have hm:=dI hx;rcases dA.mp hm with z | z
    .exact ⟨0,z,.inl rfl⟩
    .exact ⟨1,dB.mp z,.inr rfl⟩
   have SB:yw B F:=fun x o e=>(hI.b x o e).1;obtain ⟨s1,s2,U,Cb,W,da,mb,db,Pa,Pb,Xa,Xb,na,nb,ap,aw,aI,al,aA,b2,a8,bJ,a0,bH,aC,aE,bb,b0,aJ,bD,as,aQ,bv,ab⟩:∃ (s1 s2:Addr) (U Cb:Cf) (W da mb db:Addr) (Pa Pb:List Pd) (Xa Xb:Sx) (na nb:Nat) (ap:Addr) (aw aI:Nat->Addr),[V.ref st,V.ref J][jj]?=some (V.ref s1)/\[V.ref u,V.ref g][jj]?=some (V.ref W)/\[V.ref I,V.ref p][jj]?=some (V.ref da)/\[V.ref lo,V.ref aj][jj]?=some (V.ref ap)/\[V.int m0,V.int m'][jj]?=some (V.int U.mo)/\Iv2 K a B F (M4 u I g p) s1 U W da Pa Xa na s2 Cb mb db Pb Xb nb/\Kq F (FF Xa Xb (M4 u I g p)) il (.lst [V.int 0,V.int 1])/\M4 u I g p W/\M4 u I g p da/\M4 u I g p mb/\M4 u I g p db/\U.w=1/\na <= 5/\B ap=some (.lst (refs aw U.n))/\xw B U.n aw U.kd aI U.ps/\1 <= U.mo /\
     ∀ (G':Hp) (Y:Sx),Iv2 K a B G' (M4 u I g p) s1 U W da Pa Y na s2 Cb mb db Pb Xb nb->Kq G' (FF Y Xb (M4 u I g p)) il (.lst [V.int 0,V.int 1])->∃ (P P2:List Pd) (X O:Sx),Iv2 K a B G' (M4 u I g p) st ⟨n,kd,ps,m0,1⟩ u I P X m J ⟨n',a6,a5,m',1⟩ g p P2 O m2/\Kq G' (FF X O (M4 u I g p)) il (.lst [V.int 0,V.int 1]):=by
    rcases aq with rfl | rfl
    .exact ⟨st,J,⟨n,kd,ps,m0,1⟩,_,u,I,g,p,P,P2,X,O,m,m2,lo,lk,tp,rfl,rfl,rfl,rfl,rfl,hI,bu,.inl rfl,.inr (.inl rfl),.inr (.inr (.inl rfl)),.inr (.inr (.inr rfl)),rfl,by omega,bP,c8,bc,fun G' Y h z=>⟨_,_,_,_,h,z⟩⟩
    .exact ⟨J,st,⟨n',a6,a5,m',1⟩,_,g,p,u,I,P2,P,O,X,m2,m,aj,aD,bd,rfl,rfl,rfl,rfl,rfl,hI.swap,bu.go Go.sw,.inr (.inr (.inl rfl)),.inr (.inr (.inr rfl)),.inl rfl,.inr (.inl rfl),rfl,by omega,b5,bC,bI,fun G' Y h z=>⟨_,_,_,_,h.swap,z.go Go.sw⟩⟩
   obtain ⟨tu,tx,dr,Rn,hd,hl,ad,aF,aY,bj,be⟩:=id a0.n;have b3:=a0.w.s.cf;rfl';refine ua (SqL.of (SB _ _ aV)) (vw a8) ?_;rfl';refine ua (SqL.of (SB _ _ am)) (vw al) ?_;rfl';refine ua (SqL.of (SB _ _ ay)) (vw aA) ?_;rfl';refine ua (SqL.of (SB _ _ aV)) (vw a8) ?_;rfl';refine ua (SqL.of (SB _ _ bA)) (vw bJ) ?_;rfl';refine ua (SqL.of (SB _ _ aS)) (vw b2) ?_;rfl';refine ⟨ap,da,U,aw,aI,na,dr,Rn,rfl,SB _ _ as,b3.1,b3.2.1,aQ.same SB,bv,b3.2.2.1,aJ,aF,bD,aY,fun i hi=>(be i hi).any,fun s3 X3 F1 bt ah=>?_⟩;rw [bj] at bt;have ai:=a0.same ah.s;rfl'
   have bO:Sep Xa X3:=fun y w v=>by
    obtain ⟨o,e⟩:=a0.w.s.live y w;rw [ah.n y v] at e;cases e
   have bx:=ai.b _ _ as;refine ⟨ap,s1,W,s3,U,aw,aI,FF Xa Xb (M4 u I g p),Pa,tu,tx,Xa,X3,rfl,⟨bx.1,fun w=>bx.2 (.inl w)⟩,(aQ.same SB).same ah.s,aJ,⟨ah.s _ _ hd,(a0.w.m _ aC).1⟩,hl.go (Go.sm ah.s),(fun y w=>.inl w),ad,ai.w.s,bt,bO,fun Y F2 cE g'=>?_⟩;obtain ⟨bh,gg,ff⟩:=ai.w.go cE g';obtain ⟨P4,P5,X4,X5,h4,h5⟩:=ab F2 Y ⟨bh,ai.n.go gg (ff _ · aC) (ff _ · aE),ai.n2.go gg (ff _ · bb) (ff _ · b0),fun x o e=>(ai.b x o e).go gg⟩ ((bH.go (Go.sm ah.s)).go gg);rfl';exact ⟨P4,P5,X4,X5,_,_,_,_,rfl,h4,h5⟩
  .rintro σ2 F ⟨P,P2,X,O,v7,v8,v9,M,rfl,_,_⟩;rfl';exact k _
end
variable {C C2:Cf} {P P' P2:List Pd} {X X2 Y:Sx}
theorem all_mk {l:W.OpenLaw} {w:World} {K:W.Frag} {h:Heap} {mg:Str->Option Value} (X:K.In h) (G:h.Ns mainGlobals mg) (hfa:mg "law"=some (.ref fa))
  (Pi:GV K "Even" (.ref A9))
  (O4:GV K "Quick" (.ref A8))
  (Q1:GV K "Run" (.ref Ac))
  (Qm:GV K "Mixer" (.ref Br))
  (Pj:GV K "Book" (.ref Aa))
  (Pk:GV K "Span" (.ref A4))
  (Qn:GV K "Foreteller" (.ref A3))
  (Qo:GV K "Seeker" (.ref Ab))
  (O5:GV K "Chain" (.ref A1))
  (O6:GV K "Piece" (.ref A7))
  (O7:GV K "Store" (.ref A0))
  (Qp:GV K "NoText" (.ref Gv))
  (Qq:GV K "NoBytes" (.ref Fq))
  (Nk:GV K "NoMost" (.ref Az))
  (Qr:GV K "NoChance" (.ref Dp))
  (Qs:GV K "NoBit" (.ref Bx))
  (Qt:GV K "NoLooks" (.ref Fr))
  (Qu:GV K "NoPress" (.ref Fs))
  (Nl:GV K "NoName" (.ref Ad))
  (I9:GV K "TooLong" (.ref Ai))
  (O8:GV K "Taken" (.ref Aw))
  (Pl:GV K "Full" (.ref Ca))
  (Ia:GV K "NoPiece" (.ref A5))
  (O9:GV K "InUse" (.ref B9))
  (C8:Dgf K mg "is_whole" vam Og Oh)
  (N8:Dgf K mg "is_bit" vah Oi Oj)
  (N9:Dgf K mg "is_chance" yz8 Ol Om)
  (Na:Dgf K mg "is_sign" vai Oo Op)
  (Fu:Dgf K mg "is_list_of_signs" vak Oq Os)
  (C9:Dgf K mg "checked_text" vad Ot Ou)
  (Nd:Dgf K mg "checked_bytes" yz9 Ov Ow)
  (Nf:Dgf K mg "check_most" yz7 Ox Oy)
  (Dk:Dgf K mg "check_chance" yz3 Oz P0)
  (Aj:Dgf K mg "check_bit" ypv Ig Ih)
  (Ep:Dgf K mg "gives" yrq Ii Ij)
  (Er:Dgm K A9 "__init__" "Even.__init__" ypz Gi Ik)
  (Gw:Dgm K A9 "chance" "Even.chance" yq7 Il Im)
  (Gy:Dgm K A9 "seen" "Even.seen" yp1 Io Ip)
  (Es:Dgm K A8 "__init__" "Quick.__init__" yqn Gj Iq)
  (Gz:Dgm K A8 "chance" "Quick.chance" yqy Ir Is)
  (Ha:Dgm K A8 "seen" "Quick.seen" yp9 Iu Iv)
  (Et:Dgm K Ac "__init__" "Run.__init__" yr2 Gk Iw)
  (Hb:Dgm K Ac "chance" "Run.chance" yry Ix Iy)
  (Hc:Dgm K Ac "seen" "Run.seen" yrk Iz J0)
  (Eu:Dgf K mg "slot_of" yro J1 J2)
  (Ev:Dgf K mg "is_kind" yqp J3 J4)
  (Ew:Dgf K mg "is_place" yqt J5 J6)
  (Ex:Dgf K mg "are_places" ypt J7 J8)
  (Cq:Dgf K mg "is_look" yql J9 Ja)
  (Cr:Dgf K mg "checked_looks" ypw Jb Jc)
  (Ey:Dgf K mg "sign_back" yq2 Jd Je)
  (Ez:Dgf K mg "context_of" yqe Jf Jg)
  (F0:Dgm K Aa "__init__" "Book.__init__" yqi Gm Jh)
  (Hd:Dgm K Aa "slot_at" "Book.slot_at" yq9 Ji Jj)
  (F7:Dgm K Br "__init__" "Mixer.__init__" yps Gn Jk)
  (He:Dgm K Br "mixed" "Mixer.mixed" yqw Jl Jm)
  (Hf:Dgm K Br "learn" "Mixer.learn" yqs Jn Jo)
  (Dq:Dgm K A3 "__init__" "Foreteller.__init__" yp8 Gp Jp)
  (Dr:Dgm K A3 "arrive" "Foreteller.arrive" yrr Jq Jr)
  (Ds:Dgm K A3 "chances" "Foreteller.chances" ypp Js Jt)
  (Dt:Dgm K A3 "chance" "Foreteller.chance" yqv Ju Jv)
  (Cs:Dgm K A3 "see" "Foreteller.see" yp6 Jw Jx)
  (Hg:Dgm K A3 "step" "Foreteller.step" yqr Jy Jz)
  (Hh:Dgm K A3 "step_in_sign" "Foreteller.step_in_sign" yrv K1 K2)
  (F8:Dgf K mg "bits_of" yqu K3 K4)
  (Ct:Dgf K mg "decisions_of" yrs K5 K6)
  (F9:Dgf K mg "written" yrd K7 K8)
  (Cu:Dgf K mg "first_block" yqm K9 Ka)
  (Du:Dgm K A4 "__init__" "Span.__init__" yq6 Gq Kb)
  (Dv:Dgm K A4 "cut" "Span.cut" yrb Kc Kd)
  (Dw:Dgm K A4 "narrow" "Span.narrow" yqh Ke Kg)
  (Hi:Dgm K A4 "holds_block" "Span.holds_block" yrm Kh Ki)
  (Dx:Dgm K A4 "told" "Span.told" yrj Kj Kk)
  (Fb:Dgm K Ab "__init__" "Seeker.__init__" yqo Gr Kl)
  (Dy:Dgm K Ab "follow" "Seeker.follow" yqb Km Kn)
  (Hj:Dgm K Ab "byte_at" "Seeker.byte_at" yqj Ko Kp)
  (Hk:Dgm K Ab "bit" "Seeker.bit" yqa Kr Ks)
  (Hl:Dgm K Ab "told" "Seeker.told" yrc Kt Ku)
  (Fc:Dgf K mg "checked_learned" yqd Kv Kw)
  (Fd:Dgf K mg "teach" yqk Kx Ky)
  (Cv:Dgf K mg "press_by" yrw Kz L1)
  (Qv:W.nsIn K mainGlobals "pressed"=some (some (.ref Do)))
  (Qw:K.lookup Do=some ⟨oc_q58,od_q58,.func (W.fnOf "pressed" "pressed" (xc yfj) (ww yfj) (yg yfj) (.ref L7) kV_q58 dc_q58 pm_q58 an_q58 cd_q58 ct_q58),sl_q58⟩)
  (Oa:K.lookup L7=some ⟨.type "tuple",Do_q58,.seq #[.none] Dn_q58,Ds_q58⟩)
  (Qx:W.codeIn K cd_q58 "pressed"=true)
  (Qy:W.keepIn K (.ref Do)=true)
  (Cw:Dgf K mg "bit_by" yq4 L8 L9)
  (Fe:Dgf K mg "sign_by" ypr La Lb)
  (Ff:Dgf K mg "text_by" yqx Lc Ld)
  (Fg:Dgf K mg "read_by" ypu Le Lf)
  (Cy:Dgm K A1 "__init__" "Chain.__init__" yqf Gs Lg)
  (Dz:Dgm K A1 "grow" "Chain.grow" yp7 Lh Li)
  (Hm:Dgm K A1 "press" "Chain.press" yra Lj Lk)
  (Hn:Dgm K A1 "read" "Chain.read" yr1 Ll Lm)
  (Fh:Dgf K mg "is_name" ypy Ln Lo)
  (C7:Dgf K mg "checked_name" yqg Lp Lq)
  (Fi:Dgf K mg "check_base" yp4 Lr Ls)
  (Fj:Dgm K A7 "__init__" "Piece.__init__" yrf Gt Lt)
  (Qz:W.findIn K (.ref A0) "__init__"=some (some (.ref De)))
  (R0:W.isFn K (.ref De)=true)
  (R1:K.lookup De=some ⟨oc_q71,od_q71,.func (W.fnOf "__init__" "Store.__init__" (xc yff) (ww yff) (yg yff) (.ref Lv) kV_q71 dc_q71 pm_q71 an_q71 cd_q71 ct_q71),sl_q71⟩)
  (Ob:K.lookup Lv=some ⟨.type "tuple",Do_q71,.seq #[.int 1000 Cp] Dn_q71,Ds_q71⟩)
  (R3:W.codeIn K cd_q71 "Store.__init__"=true)
  (R4:W.keepIn K (.ref De)=true)
  (Ce:Dgm K A0 "names" "Store.names" yru Lx Ly)
  (R5:W.findIn K (.ref A0) "put"=some (some (.ref Dh)))
  (R6:W.isFn K (.ref Dh)=true)
  (R7:K.lookup Dh=some ⟨oc_q73,od_q73,.func (W.fnOf "put" "Store.put" (xc yfg) (ww yfg) (yg yfg) (.ref M0) kV_q73 dc_q73 pm_q73 an_q73 cd_q73 ct_q73),sl_q73⟩)
  (Oc:K.lookup M0=some ⟨.type "tuple",Do_q73,.seq #[.none] Dn_q73,Ds_q73⟩)
  (R8:W.codeIn K cd_q73 "Store.put"=true)
  (Pr:W.keepIn K (.ref Dh)=true)
  (Ho:Dgm K A0 "check_length" "Store.check_length" yp5 M5 M6)
  (Hq:Dgm K A0 "check_room" "Store.check_room" yrp M7 M8)
  (By:Dgm K A0 "piece_at" "Store.piece_at" ypq M9 Ma)
  (E4:Dgm K A0 "links_to" "Store.links_to" yq8 Mb Mc)
  (E5:Dgm K A0 "chain_to" "Store.chain_to" yqc Md Me)
  (Hr:Dgm K A0 "texts_to" "Store.texts_to" yp2 Mf Mg)
  (Hs:Dgm K A0 "text_of" "Store.text_of" yq0 Mh Mi)
  (Cz:Dgm K A0 "bytes_of" "Store.bytes_of" yrn Mj Mm)
  (Ht:Dgm K A0 "base_of" "Store.base_of" yqq Mn Mo)
  (E6:Dgm K A0 "drop" "Store.drop" yq1 Mq Mr)
  (Av:Dgf K mg "_law_mixed" yrl Ms Mt)
  (D0:Dgf K mg "_law_looks" yq3 Mu Mv)
  (Fk:Dgf K mg "_law_deed" ypx Mw Mx)
  (Fl:Dgf K mg "_law_again" yp0 My Mz)
  (Fm:Dgf K mg "_law_bytes" yrz N0 N2)
  (Fn:Dgf K mg "_law_like" yr0 N3 N4)
  (Hu:Dgf K mg "law" yre Nq Gu)
  (Ib:KC K A9)
  (Ak:FN K A9 "noughts")
  (B0:FN K A9 "ones")
  (Ga:KC K A8)
  (Ap:FN K A8 "held")
  (Od:KC K Ac)
  (Bj:FN K Ac "last")
  (Aq:FN K Ac "length")
  (Q2:KC K Br)
  (Bz:FN K Br "kept")
  (Ic:KC K Aa)
  (Bq:FN K Aa "look")
  (Ba:FN K Aa "slots")
  (Ie:KC K A4)
  (Bk:FN K A4 "low")
  (Ar:FN K A4 "width")
  (B6:FN K A4 "size")
  (Q3:KC K A3)
  (Bl:FN K A3 "looks")
  (C5:FN K A3 "books")
  (C6:FN K A3 "mixer")
  (Bm:FN K A3 "ended")
  (Bn:FN K A3 "place")
  (As:FN K A3 "present")
  (Q4:KC K Ab)
  (Cl:FN K Ab "data")
  (Cm:FN K Ab "span")
  (B8:FN K Ab "number")
  (At:FN K Ab "reached")
  (Gb:KC K A1)
  (Ah:FN K A1 "foreteller")
  (Ax:FN K A1 "links")
  (Ay:FN K A1 "texts")
  (Gc:KC K A7)
  (Bb:FN K A7 "base")
  (Bc:FN K A7 "data")
  (Gd:KC K A0)
  (Am:FN K A0 "looks")
  (Bd:FN K A0 "most")
  (Au:FN K A0 "pieces")
  (An:FN K A0 "chain")
  (Qg:XCls K Gv)
  (Px:XMk K Gv)
  (Qh:XCls K Fq)
  (Py:XMk K Fq)
  (Hw:XCls K Az)
  (E7:XMk K Az)
  (Qi:XCls K Dp)
  (Pz:XMk K Dp)
  (Qj:XCls K Bx)
  (Q0:XMk K Bx)
  (Qk:XCls K Fr)
  (Pe:XMk K Fr)
  (Ql:XCls K Fs)
  (Pf:XMk K Fs)
  (Hx:XCls K Ad)
  (E8:XMk K Ad)
  (Fo:XCls K Ai)
  (Db:XMk K Ai)
  (N5:XCls K Aw)
  (Fx:XMk K Aw)
  (Ny:XCls K Ca)
  (I5:XMk K Ca)
  (Fp:XCls K A5)
  (Dc:XMk K A5)
  (N6:XCls K B9)
  (Fz:XMk K B9)
  (A6:GZ K "isinstance")
  (Nz:GZ K "int")
  (I6:GZ K "bool")
  (Ao:GZ K "list")
  (Di:GZ K "all")
  (Ae:GZ K "len")
  (Hy:GZ K "min")
  (Hz:GZ K "max")
  (N7:GZ K "str")
  (Cn:GZ K "tuple")
  (I0:GZ K "zip")
  (E9:GZ K "sum")
  (O0:GZ K "any")
  (D4:GZ K "range")
  (I7:GZ K "dict")
  (Pm:GV K "LEAST" (.int 32768 Ft))
  (R9:GV K "ONE" (.int 16777216 Nr))
  (Ge:GV K "MOST_SIGNS" (.int 1000 C0))
  (Gf:GV K "MOST_BYTES" (.int 12000 C1))
  (Ed:GV K "MOST_COUNTED" (.int 255 Be))
  (If:GV K "FARTHEST" (.int 8 Co))
  (El:GV K "MOST_PLACES" (.int 4 Bt))
  (Gg:GV K "MOST_LOOKS" (.int 6 C3))
  (Nm:GV K "NO_SIGN" (.int 256 D9))
  (Ee:GV K "FIRST_WEIGHT" (.int 1099511627776 Bf))
  (I3:GV K "OWN_PARTS" (.int 31 Cc))
  (Ef:GV K "MOST_FIGURES" (.int 48 Bg))
  (I4:GV K "NODES_END" (.int 256 Cd))
  (Em:GV K "FIRST_WIDTH" (.int 1099511627776 Bu))
  (Gh:GV K "FIRST_SIZE" (.int 5 C4))
  (En:GV K "LEAST_WIDTH" (.int 4294967296 Bv))
  (Eg:GV K "MOST_LETTERS" (.int 8 Bh))
  (Nn:GV K "LETTERS" (.str "abcdefghijklmnopqrstuvwxyz" Da))
  (Eo:GV K "MOST_PIECES" (.int 60 Bw))
  (Oe:GV K "KINDS" (.ref Ck))
  (Of:K.lookup Ck=some ⟨.type "tuple",wd_KINDS,.seq #[.str "even" wt_KINDS_0,.str "quick" wt_KINDS_1,.str "run" wt_KINDS_2] wn_KINDS,ws_KINDS⟩)
  (No:GV K "WORTHS" (.ref Bi))
  (Np:K.lookup Bi=some ⟨.type "tuple",wd_WORTHS,.seq #[.int 128 wt_WORTHS_0,.int 64 wt_WORTHS_1,.int 32 wt_WORTHS_2,.int 16 wt_WORTHS_3,.int 8 wt_WORTHS_4,.int 4 wt_WORTHS_5,.int 2 wt_WORTHS_6,.int 1 wt_WORTHS_7] wn_WORTHS,ws_WORTHS⟩)
 :∃ fd:FuncData,(∀ (s:Shared) (v:Value),BindsTo s fd ⟨[v],[]⟩ [("_law_script",v)])/\∀ base:Heap,K.In base->base.Ns mainGlobals mg->wc l.prog w K mg base CX0 16 fa fd ["_law_script"] (ya6 K):=by
 have e:=hfa.symm.trans Hu.m;cases e;have c:=yb8 (st:=yfj) Qw Qx Qy;have b:=yb8 (st:=yff) R1 R3 R4;have a:=yb8 (st:=yfg) R7 R8 Pr;have T:Txt K mg ⟨Og,Oh,Oi,Oj,Ol,Om,Oo,Op,Oq,Os,Ot,Ou,Ov,Ow,Ox,Oy,Oz,P0,Ig,Ih,Ii,Ij,Gi,Ik,Il,Im,Io,Ip,Gj,Iq,Ir,Is,Iu,Iv,Gk,Iw,Ix,Iy,Iz,J0,J1,J2,J3,J4,J5,J6,J7,J8,J9,Ja,Jb,Jc,Jd,Je,Jf,Jg,Gm,Jh,Ji,Jj,Gn,Jk,Jl,Jm,Jn,Jo,Gp,Jp,Jq,Jr,Js,Jt,Ju,Jv,Jw,Jx,Jy,Jz,K1,K2,K3,K4,K5,K6,K7,K8,K9,Ka,Gq,Kb,Kc,Kd,Ke,Kg,Kh,Ki,Kj,Kk,Gr,Kl,Km,Kn,Ko,Kp,Kr,Ks,Kt,Ku,Kv,Kw,Kx,Ky,Kz,L1,Do,_,L7,L8,L9,La,Lb,Lc,Ld,Le,Lf,Gs,Lg,Lh,Li,Lj,Lk,Ll,Lm,Ln,Lo,Lp,Lq,Lr,Ls,Gt,Lt,De,_,Lv,Cp,Lx,Ly,Dh,_,M0,M5,M6,M7,M8,M9,Ma,Mb,Mc,Md,Me,Mf,Mg,Mh,Mi,Mj,Mm,Mn,Mo,Mq,Mr,Ms,Mt,Mu,Mv,Mw,Mx,My,Mz,N0,N2,N3,N4,fa,Gu,A9,A8,Ac,Br,Aa,A4,A3,Ab,A1,A7,A0,Gv,Fq,Az,Dp,Bx,Fr,Fs,Ad,Ai,Aw,Ca,A5,B9,Ft,Nr,C0,C1,Be,Co,Bt,C3,D9,Bf,Cc,Bg,Cd,Bu,C4,Bv,Bh,Da,Bw,Ck,Bi⟩:=⟨
  C8.d1 fun _ _ _ _ _ _ _=>rfl,
  N8.d1 fun _ _ _ _ _ _ _=>rfl,
  N9.d1 fun _ _ _ _ _ _ _=>rfl,
  Na.d1 fun _ _ _ _ _ _ _=>rfl,
  Fu.d2 fun _ _ _ _ _ _ _ _=>rfl,
  C9.d1 fun _ _ _ _ _ _ _=>rfl,
  Nd.d1 fun _ _ _ _ _ _ _=>rfl,
  Nf.d1 fun _ _ _ _ _ _ _=>rfl,
  Dk.d1 fun _ _ _ _ _ _ _=>rfl,
  Aj.d1 fun _ _ _ _ _ _ _=>rfl,
  Ep.d2 fun _ _ _ _ _ _ _ _=>rfl,
  Er.d1 fun _ _ _ _ _ _ _=>rfl,
  Gw.d1 fun _ _ _ _ _ _ _=>rfl,
  Gy.d2 fun _ _ _ _ _ _ _ _=>rfl,
  Es.d1 fun _ _ _ _ _ _ _=>rfl,
  Gz.d1 fun _ _ _ _ _ _ _=>rfl,
  Ha.d2 fun _ _ _ _ _ _ _ _=>rfl,
  Et.d1 fun _ _ _ _ _ _ _=>rfl,
  Hb.d1 fun _ _ _ _ _ _ _=>rfl,
  Hc.d2 fun _ _ _ _ _ _ _ _=>rfl,
  Eu.d1 fun _ _ _ _ _ _ _=>rfl,
  Ev.d1 fun _ _ _ _ _ _ _=>rfl,
  Ew.d1 fun _ _ _ _ _ _ _=>rfl,
  Ex.d1 fun _ _ _ _ _ _ _=>rfl,
  Cq.d1 fun _ _ _ _ _ _ _=>rfl,
  Cr.d1 fun _ _ _ _ _ _ _=>rfl,
  Ey.d2 fun _ _ _ _ _ _ _ _=>rfl,
  Ez.d3 fun _ _ _ _ _ _ _ _ _=>rfl,
  F0.d2 fun _ _ _ _ _ _ _ _=>rfl,
  Hd.d3 fun _ _ _ _ _ _ _ _ _=>rfl,
  F7.d2 fun _ _ _ _ _ _ _ _=>rfl,
  He.d2 fun _ _ _ _ _ _ _ _=>rfl,
  Hf.d3 fun _ _ _ _ _ _ _ _ _=>rfl,
  Dq.d2 fun _ _ _ _ _ _ _ _=>rfl,
  Dr.d1 fun _ _ _ _ _ _ _=>rfl,
  Ds.d1 fun _ _ _ _ _ _ _=>rfl,
  Dt.d1 fun _ _ _ _ _ _ _=>rfl,
  Cs.d2 fun _ _ _ _ _ _ _ _=>rfl,
  Hg.d2 fun _ _ _ _ _ _ _ _=>rfl,
  Hh.d2 fun _ _ _ _ _ _ _ _=>rfl,
  F8.d1 fun _ _ _ _ _ _ _=>rfl,
  Ct.d1 fun _ _ _ _ _ _ _=>rfl,
  F9.d2 fun _ _ _ _ _ _ _ _=>rfl,
  Cu.d2 fun _ _ _ _ _ _ _ _=>rfl,
  Du.d1 fun _ _ _ _ _ _ _=>rfl,
  Dv.d2 fun _ _ _ _ _ _ _ _=>rfl,
  Dw.d3 fun _ _ _ _ _ _ _ _ _=>rfl,
  Hi.d2 fun _ _ _ _ _ _ _ _=>rfl,
  Dx.d1 fun _ _ _ _ _ _ _=>rfl,
  Fb.d2 fun _ _ _ _ _ _ _ _=>rfl,
  Dy.d1 fun _ _ _ _ _ _ _=>rfl,
  Hj.d2 fun _ _ _ _ _ _ _ _=>rfl,
  Hk.d2 fun _ _ _ _ _ _ _ _=>rfl,
  Hl.d1 fun _ _ _ _ _ _ _=>rfl,
  Fc.d1 fun _ _ _ _ _ _ _=>rfl,
  Fd.d2 fun _ _ _ _ _ _ _ _=>rfl,
  Cv.d2 fun _ _ _ _ _ _ _ _=>rfl,
  c,
  ybd.binds (ps:=["looks","text","learned"]) (ds:=[.none]) (j:=2) rfl c Oa rfl fun _ _ _ _ _ _ d f=>match d,f with | [_,_],_=>⟨_,rfl,rfl⟩,
  ybd.binds (ps:=["looks","text","learned"]) (ds:=[]) (j:=3) rfl c Oa rfl fun _ _ _ _ _ _ d f=>match d,f with | [_,_,_],_=>⟨_,rfl,rfl⟩,
  W.mg_of X G Qv,
  Cw.d2 fun _ _ _ _ _ _ _ _=>rfl,
  Fe.d2 fun _ _ _ _ _ _ _ _=>rfl,
  Ff.d3 fun _ _ _ _ _ _ _ _ _=>rfl,
  Fg.d3 fun _ _ _ _ _ _ _ _ _=>rfl,
  Cy.d2 fun _ _ _ _ _ _ _ _=>rfl,
  Dz.d3 fun _ _ _ _ _ _ _ _ _=>rfl,
  Hm.d3 fun _ _ _ _ _ _ _ _ _=>rfl,
  Hn.d4 fun _ _ _ _ _ _ _ _ _ _=>rfl,
  Fh.d1 fun _ _ _ _ _ _ _=>rfl,
  C7.d1 fun _ _ _ _ _ _ _=>rfl,
  Fi.d1 fun _ _ _ _ _ _ _=>rfl,
  Fj.d3 fun _ _ _ _ _ _ _ _ _=>rfl,
  b,
  ybd.binds (ps:=["self","looks","most"]) (ds:=[.int 1000 Cp]) (j:=2) rfl b Ob rfl fun _ _ _ _ _ _ d f=>match d,f with | [_,_],_=>⟨_,rfl,rfl⟩,
  ybd.binds (ps:=["self","looks","most"]) (ds:=[]) (j:=3) rfl b Ob rfl fun _ _ _ _ _ _ d f=>match d,f with | [_,_,_],_=>⟨_,rfl,rfl⟩,
  Ce.d1 fun _ _ _ _ _ _ _=>rfl,
  a,
  ybd.binds (ps:=["self","name","text","base"]) (ds:=[.none]) (j:=3) rfl a Oc rfl fun _ _ _ _ _ _ d f=>match d,f with | [_,_,_],_=>⟨_,rfl,rfl⟩,
  ybd.binds (ps:=["self","name","text","base"]) (ds:=[]) (j:=4) rfl a Oc rfl fun _ _ _ _ _ _ d f=>match d,f with | [_,_,_,_],_=>⟨_,rfl,rfl⟩,
  ⟨R5,R6,Pr⟩,
  Ho.d2 fun _ _ _ _ _ _ _ _=>rfl,
  Hq.d3 fun _ _ _ _ _ _ _ _ _=>rfl,
  By.d2 fun _ _ _ _ _ _ _ _=>rfl,
  E4.d2 fun _ _ _ _ _ _ _ _=>rfl,
  E5.d2 fun _ _ _ _ _ _ _ _=>rfl,
  Hr.d2 fun _ _ _ _ _ _ _ _=>rfl,
  Hs.d2 fun _ _ _ _ _ _ _ _=>rfl,
  Cz.d2 fun _ _ _ _ _ _ _ _=>rfl,
  Ht.d2 fun _ _ _ _ _ _ _ _=>rfl,
  E6.d2 fun _ _ _ _ _ _ _ _=>rfl,
  Av.d2 fun _ _ _ _ _ _ _ _=>rfl,
  D0.d2 fun _ _ _ _ _ _ _ _=>rfl,
  Fk.d3 fun _ _ _ _ _ _ _ _ _=>rfl,
  Fl.d3 fun _ _ _ _ _ _ _ _ _=>rfl,
  Fm.d3 fun _ _ _ _ _ _ _ _ _=>rfl,
  Fn.d4 fun _ _ _ _ _ _ _ _ _ _=>rfl,
  Hu.d1 fun _ _ _ _ _ _ _=>rfl,
  Ib.cls,
  W.mg_of X G Pi,
  ⟨Ib.mk',Er.m.1,Er.m.2,Ib.kc⟩,
  Ak,
  B0,
  Ga.cls,
  W.mg_of X G O4,
  ⟨Ga.mk',Es.m.1,Es.m.2,Ga.kc⟩,
  Ap,
  Od.cls,
  W.mg_of X G Q1,
  ⟨Od.mk',Et.m.1,Et.m.2,Od.kc⟩,
  Bj,
  Aq,
  Q2.cls,
  W.mg_of X G Qm,
  ⟨Q2.mk',F7.m.1,F7.m.2,Q2.kc⟩,
  Bz,
  Ic.cls,
  W.mg_of X G Pj,
  ⟨Ic.mk',F0.m.1,F0.m.2,Ic.kc⟩,
  Bq,
  Ba,
  Ie.cls,
  W.mg_of X G Pk,
  ⟨Ie.mk',Du.m.1,Du.m.2,Ie.kc⟩,
  Bk,
  Ar,
  B6,
  Q3.cls,
  W.mg_of X G Qn,
  ⟨Q3.mk',Dq.m.1,Dq.m.2,Q3.kc⟩,
  Bl,
  C5,
  C6,
  Bm,
  Bn,
  As,
  Q4.cls,
  W.mg_of X G Qo,
  ⟨Q4.mk',Fb.m.1,Fb.m.2,Q4.kc⟩,
  Cl,
  Cm,
  B8,
  At,
  Gb.cls,
  W.mg_of X G O5,
  ⟨Gb.mk',Cy.m.1,Cy.m.2,Gb.kc⟩,
  Ah,
  Ax,
  Ay,
  Gc.cls,
  W.mg_of X G O6,
  ⟨Gc.mk',Fj.m.1,Fj.m.2,Gc.kc⟩,
  Bb,
  Bc,
  Gd.cls,
  W.mg_of X G O7,
  ⟨Gd.mk',Qz,R0,Gd.kc⟩,
  Am,
  Bd,
  Au,
  An,
  W.mg_of X G Qp,
  W.mg_of X G Qq,
  W.mg_of X G Nk,
  W.mg_of X G Qr,
  W.mg_of X G Qs,
  W.mg_of X G Qt,
  W.mg_of X G Qu,
  W.mg_of X G Nl,
  W.mg_of X G I9,
  W.mg_of X G O8,
  W.mg_of X G Pl,
  W.mg_of X G Ia,
  W.mg_of X G O9,
  Qg,
  Px,
  Qh,
  Py,
  Hw,
  E7,
  Qi,
  Pz,
  Qj,
  Q0,
  Qk,
  Pe,
  Ql,
  Pf,
  Hx,
  E8,
  Fo,
  Db,
  N5,
  Fx,
  Ny,
  I5,
  Fp,
  Dc,
  N6,
  Fz,
  W.mg_none_of X G A6,
  W.mg_none_of X G Nz,
  W.mg_none_of X G I6,
  W.mg_none_of X G Ao,
  W.mg_none_of X G Di,
  W.mg_none_of X G Ae,
  W.mg_none_of X G Hy,
  W.mg_none_of X G Hz,
  W.mg_none_of X G N7,
  W.mg_none_of X G Cn,
  W.mg_none_of X G I0,
  W.mg_none_of X G E9,
  W.mg_none_of X G O0,
  W.mg_none_of X G D4,
  W.mg_none_of X G I7,
  W.mg_of X G Pm,
  W.mg_of X G R9,
  W.mg_of X G Ge,
  W.mg_of X G Gf,
  W.mg_of X G Ed,
  W.mg_of X G If,
  W.mg_of X G El,
  W.mg_of X G Gg,
  W.mg_of X G Nm,
  W.mg_of X G Ee,
  W.mg_of X G I3,
  W.mg_of X G Ef,
  W.mg_of X G I4,
  W.mg_of X G Em,
  W.mg_of X G Gh,
  W.mg_of X G En,
  W.mg_of X G Eg,
  W.mg_of X G Nn,
  W.mg_of X G Eo,
  W.mg_of X G Oe,
  fun H=>.inr ⟨_,_,_,Of,rfl,rfl,(by show 3 <= sizeLine; decide),(.cons ⟨_,rfl⟩ (.cons ⟨_,rfl⟩ (.cons ⟨_,rfl⟩ .nil)))⟩,
  W.mg_of X G No,
  fun H=>.inr ⟨_,_,_,Np,rfl,rfl,(by show 8 <= sizeLine; decide),(.cons ⟨_,rfl⟩ (.cons ⟨_,rfl⟩ (.cons ⟨_,rfl⟩ (.cons ⟨_,rfl⟩ (.cons ⟨_,rfl⟩ (.cons ⟨_,rfl⟩ (.cons ⟨_,rfl⟩ (.cons ⟨_,rfl⟩ .nil))))))))⟩⟩
 refine ⟨Gu,fun s v=>?_,fun base _ _=>yvg T⟩;obtain ⟨_,_,_,_,_,_,_,_,_,rfl,_,_⟩:=Hu.F.ex;exact .of_eq rfl
theorem walk {l:W.OpenLaw} {q:Program} {loose:List Str} {XP:(Str->Option Value)->Heap->Prop} {YP:World->Heap->Prop} {d:DefRec} {K:Params->W.Frag} (hn:l.most=some 63) (hdf:d.params.defaults=[])
  (hY:∀ (w:World) (h:Heap),YP w h->(K w.params).In h)
  (F:∀ (w:World) (mg:Str->Option Value) (fa:Addr) (h:Heap),(K w.params).In h->h.Ns mainGlobals mg->mg d.name=some (.ref fa) ->
   ∃ fd:FuncData,(∀ (s:Shared) (u:Value),BindsTo s fd ⟨[u],[]⟩ [("_law_script",u)])/\∀ base:Heap,(K w.params).In base->base.Ns mainGlobals mg->wc l.prog w (K w.params) mg base CX0 16 fa fd ["_law_script"] (ya6 (K w.params))) :
  W.WalkO q loose XP YP l.row.toRowW d [] (fun f vs=>PySem.call f vs) :=
 L2.walk_of (n:=63) (k:=16) (x:="_law_script") (CX:=fun _=>CX0) (sp:=fun w=>ya6 (K w.params)) hn (by decide) hdf ⟨rfl,by decide,by decide⟩ hY F (fun _ _ a e c _ b=>⟨a,e,rfl,b,c,fun _=>rfl⟩) fun _ _ _ _ _ z=>z
end Law
open PySem PySem.W PyProof.Rows
set_option maxRecDepth 100000 in
set_option maxHeartbeats 0 in
theorem PySem.Challenge.cw_foretell_k45_two_stores_holds : PySem.Challenge.rw_foretell_k45_two_stores.Holds := by
 refine H0.2 ?_
 unfold H0
 dsimp only []
 k_fill
 refine Law.walk (l := PySem.Challenge.rw_foretell_k45_two_stores) rfl rfl (fun w h Y => PySem.W.kIn_of Y) ?F
 case F =>
  intro w mg fa h KX G hmg
  refine' Law.all_mk KX G hmg ?_ ?_ ?_ ?_ ?_ ?_ ?_ ?_ ?_ ?_ ?_ ?_ ?_ ?_ ?_ ?_ ?_ ?_ ?_ ?_ ?_ ?_ ?_ ?_ ?_ ?_ ?_ ?_ ?_ ?_ ?_ ?_ ?_ ?_ ?_ ?_ ?_ ?_ ?_ ?_ ?_ ?_ ?_ ?_ ?_ ?_ ?_ ?_ ?_ ?_ ?_ ?_ ?_ ?_ ?_ ?_ ?_ ?_ ?_ ?_ ?_ ?_ ?_ ?_ ?_ ?_ ?_ ?_ ?_ ?_ ?_ ?_ ?_ ?_ ?_ ?_ ?_ ?_ ?_ ?_ ?_ ?_ ?_ ?_ ?_ ?_ ?_ ?_ ?_ ?_ ?_ ?_ ?_ ?_ ?_ ?_ ?_ ?_ ?_ ?_ ?_ ?_ ?_ ?_ ?_ ?_ ?_ ?_ ?_ ?_ ?_ ?_ ?_ ?_ ?_ ?_ ?_ ?_ ?_ ?_ ?_ ?_ ?_ ?_ ?_ ?_ ?_ ?_ ?_ ?_ ?_ ?_ ?_ ?_ ?_ ?_ ?_ ?_ ?_ ?_ ?_ ?_ ?_ ?_ ?_ ?_ ?_ ?_ ?_ ?_ ?_ ?_ ?_ ?_ ?_ ?_ ?_ ?_ ?_ ?_ ?_ ?_ ?_ ?_ ?_ ?_ ?_ ?_ ?_ ?_ ?_ ?_ ?_ ?_ ?_ ?_ ?_ ?_ ?_ ?_ ?_ ?_ ?_ ?_ ?_ ?_ ?_ ?_ ?_ ?_ ?_ ?_ ?_ ?_ ?_ ?_ ?_ ?_ ?_ ?_ ?_ ?_ ?_ ?_ ?_ ?_ ?_ ?_ ?_ ?_ ?_ ?_ ?_ ?_ ?_ ?_ ?_ ?_ ?_ ?_ ?_ ?_ ?_ ?_ ?_ ?_ ?_ ?_ ?_ ?_ ?_ ?_ ?_
  any_goals first | (refine' L2.dgf_mk KX G ?_ ?_ ?_ ?_; any_goals k_is; done) | (refine' L2.dgm_mk ?_ ?_ ?_ ?_ ?_; any_goals k_is; done) | (refine' L2.XCls.mk ?_ ?_ ?_ ?_ ?_ ?_ ?_ ?_ <;> k_is) | (refine' L2.KC.mk ?_ ?_ ?_ ?_ ?_ ?_ <;> k_is) | k_is | kit_is | k_exc | (with_reducible show _ = _; first | k_is | k_exc)
#print axioms PySem.Challenge.cw_foretell_k45_two_stores_holds
