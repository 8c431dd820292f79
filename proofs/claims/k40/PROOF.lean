import PyProof.Rows.All
import Wide.All
import OpenK.AllK
import Wide.FinOn
import PyProof.EqAt
import PyProof.EqKinds
import PyProof.TupleCall
import Lean
import PySem.Challenge.RW_foretell_k40_put_and_told
set_option Elab.async false
set_option linter.all false
set_option compiler.extract_closed false
set_option maxRecDepth 100000
set_option maxHeartbeats 4000000
namespace PySem.W.Fast
local macro_rules
 | `(#synth $k:ident $ns*)=>do return Lean.mkNullNode ((<-ns.mapM fun n=>`(theorem $(Lean.mkIdent (.mkSimple s!"tw{((`H0).str s!"{k.getId}_{n.raw.isNatLit?.get!}").hash}")) : True:=⟨⟩)).map (·.raw))
 | `(#synth $k:ident)=>`(theorem $(Lean.mkIdent (.mkSimple s!"tw{k.getId.hash}")) : True:=⟨⟩)
#synth PySem.Challenge.pw_foretell_k40_put_and_told
#synth heap 1305 39 46
#synth tree 1304 1153 1239 1011 969 918 883 825 760 731 644 597 546 501 451 408 365 328 283 235 220 205 190 175 160 145 130 115 100 85 70
#synth view 39
#synth sts 1243 1012 645 502 598 884 761 284 826 547 452 919 732 236 970 366 409 329 49 116 191 101 161 221 71 86 176 146 131 206
#synth o 1243 1012 970 919 884 826 761 732 645 598 547 1304 1302 502 452 1290 1288 409 366 329 284 630 1266 628 1264 236 1297 1256 1295 1254 1261 1104 1259 1285 1057 1198 1148 1102 1099 522 221 1283 1016 658 1055 1196 206 1238 1097 520 797 656 191 534 918 176 795 532 1219 1078 161 916 911 439 146 1217 1076 703 909 625 131 862 283 976 726 437 892 396 576 116 569 701 623 860 281 649 974 1278 1028 1169 101 818 546 482 955 501 394 890 574 904 1300 663 86 567 841 717 544 816 1276 1233 1157 1092 1026 1167 746 953 499 71 848 480 902 1251 948 820 661 1085 1226 299 529 292 839 753 583 715 1231 1090 49 1071 1212 475 710 878 846 765 744 811 1273 946 306 1224 1083 941 297 751 964 1249 290 527 639 581 592 934 776 830 668 1210 1069 327 473 708 809 899 1118 855 389 923 739 304 602 551 1271 939 983 1205 1064 1111 313 932 541 774 666 271 257 360 320 613 414 371 457 510 790 325 1116 897 1125 675 387 737 853 1004 405 448 491 1109 981 1062 1203 333 517 311 539 562 1006 318 255 611 962 468 269 1293 425 696 788 1132 382 351 1146 1123 1190 1049 1139 508 1176 1035 673 278 760 264 990 993 1002 876 515 560 682 620 724 637 446 344 804 869 590 403 783 489 358 689 466 66 380 60 1042 1183 432 121 694 196 91 76 1047 1188 106 226 181 166 136 1281 211 423 960 151 1130 1033 1174 241 1144 349 1137 238 223 208 193 178 163 187 82 142 112 97 217 127 232 202 247 276 172 157 262 874 148 133 988 118 758 103 88 73 128 680 67 113 233 618 173 98 687 83 1040 203 1181 188 158 722 342 444 143 218 802 635 588 725 867 430 401 356 248 487 781 914 1194 1053 57 716 1211 1070 681 810 1175 1034 1131 1182 1041 961 1117 1091 1232 695 1145 1063 1124 619 1204 674 1098 1239 847 1110 723 840 688 1218 1077 667 612 854 709 657 868 702 1084 1225 1189 561 1048 875 381 1027 1168 803 424 933 636 954 431 1103 582 343 662 388 940 1138 861 438 568 951 947 589 395 775 350 782 575 1003 402 474 445 467 796 357 1197 1056 817 481 624 488 789 629 1272 298 745 759 982 291 989 282 312 305 540 533 1284 1250 256 270 319 891 509 1296 752 528 500 277 516 1255 1265 326 545 917 877 521 263 1277 738 888 910 903 1147 975 898 572 1260 63 907 1289 56 1303 793 124 579 169 652 45 565 944 199 79 109 1060 94 1201 1095 1236 229 184 833 1160 1019 605 214 374 154 139 926 454 449 554 727 417 996 336 768 460 406 411 1269 244 492 368 1149 965 640 1247 879 1007 821 361 593 749 55 963 895 858 435 819 1088 1229 937 814 328 1024 1165 1000 742 1215 1074 699
end PySem.W.Fast
section
open PySem PySem.W PyProof.Rows
local macro_rules | `(tactic| refine $f:ident $as*)=>do
 unless f.getId==`PySem.W.holds_open do Lean.Macro.throwUnsupported
 `(tactic| (refine ($f $as*); case $(Lean.mkIdent `hc):ident=>exact $(Lean.mkIdent `hP)))
set_option maxRecDepth 100000 in
set_option maxHeartbeats 0 in
def H0:PSigma fun P:Prop=>P->PySem.Challenge.rw_foretell_k40_put_and_told.Holds:=by
 refine' ⟨_,fun hP=>?_⟩
 rotate_left
 w_on; o_law; k_head
 w_witness2
end
section
open PySem PySem.Spec PyProof.Rows
theorem bv:type_of% @List.length_map:=@List.length_map
theorem bw:type_of% @wpAny_bind:=@wpAny_bind
theorem bx:type_of% @List.getElem?_eq_getElem:=@List.getElem?_eq_getElem
theorem bz:type_of% @Heap.get?_push_of_some:=@Heap.get?_push_of_some
theorem bA:type_of% @Nat.le_refl:=@Nat.le_refl
theorem bB:type_of% @List.getElem?_map:=@List.getElem?_map
theorem bC:type_of% @List.length_append:=@List.length_append
theorem bD:type_of% @List.mem_map:=@List.mem_map
theorem bE:type_of% @wpAny_pure:=@wpAny_pure
theorem bF:type_of% @Heap.lt_size:=@Heap.lt_size
theorem bH:type_of% @List.size_toArray:=@List.size_toArray
theorem bI:type_of% @List.mem_cons:=@List.mem_cons
theorem bJ:type_of% @decide_eq_true:=@decide_eq_true
theorem bK:type_of% @Bool.false_ne_true:=@Bool.false_ne_true
theorem bL:type_of% @Option.some.inj:=@Option.some.inj
theorem bM:type_of% @List.mem_of_getElem?:=@List.mem_of_getElem?
theorem bN:type_of% @Heap.get?_push_size:=@Heap.get?_push_size
theorem bO:type_of% @decide_eq_false:=@decide_eq_false
theorem bP:type_of% @List.mem_append_right:=@List.mem_append_right
theorem bQ:type_of% @List.mem_singleton:=@List.mem_singleton
theorem bR:type_of% @Nat.zero_le:=@Nat.zero_le
theorem bS:type_of% @List.map_append:=@List.map_append
theorem bT:type_of% @List.length_take:=@List.length_take
theorem bU:type_of% @Nat.ne_of_lt:=@Nat.ne_of_lt
theorem bV:type_of% @Nat.lt_of_lt_of_le:=@Nat.lt_of_lt_of_le
theorem bW:type_of% @List.length_range:=@List.length_range
theorem bX:type_of% @Bool.and_eq_true:=@Bool.and_eq_true
theorem bY:type_of% @List.mem_append:=@List.mem_append
theorem bZ:type_of% @List.getElem_mem:=@List.getElem_mem
theorem cb:type_of% @List.mem_cons_of_mem:=@List.mem_cons_of_mem
theorem cc:type_of% @Nat.le_trans:=@Nat.le_trans
theorem ce:type_of% @List.length_cons:=@List.length_cons
theorem cg:type_of% @List.map_map:=@List.map_map
theorem ci:type_of% @Nat.not_lt_zero:=@Nat.not_lt_zero
theorem cj:type_of% @Int.emod_lt_of_pos:=@Int.emod_lt_of_pos
theorem ck:type_of% @List.mem_cons_self:=@List.mem_cons_self
theorem cm:type_of% @List.map_cons:=@List.map_cons
theorem cn:type_of% @List.getElem?_eq_none:=@List.getElem?_eq_none
theorem cq:type_of% @List.getD_eq_getElem?_getD:=@List.getD_eq_getElem?_getD
theorem cr:type_of% @Int.mul_le_mul_of_nonneg_right:=@Int.mul_le_mul_of_nonneg_right
theorem cu:type_of% @Int.emod_nonneg:=@Int.emod_nonneg
theorem cw:type_of% @List.replicate_succ:=@List.replicate_succ
theorem cy:type_of% @List.length_singleton:=@List.length_singleton
theorem cz:type_of% @List.append_assoc:=@List.append_assoc
theorem cA:type_of% @List.take_of_length_le:=@List.take_of_length_le
theorem cB:type_of% @Array.length_toList:=@Array.length_toList
theorem cC:type_of% @Int.mul_le_mul_of_nonneg_left:=@Int.mul_le_mul_of_nonneg_left
theorem cD:type_of% @List.mem_range:=@List.mem_range
theorem cE:type_of% @wpAny_field:=@wpAny_field
theorem cF:type_of% @List.getElem?_eq_some_iff:=@List.getElem?_eq_some_iff
theorem cG:type_of% @List.eq_of_mem_replicate:=@List.eq_of_mem_replicate
theorem cH:type_of% @List.mem_of_mem_take:=@List.mem_of_mem_take
theorem cI:type_of% @List.eq_nil_of_length_eq_zero:=@List.eq_nil_of_length_eq_zero
theorem cJ:type_of% @wpAny_truthy_bool:=@wpAny_truthy_bool
theorem cK:type_of% @Option.map_some:=@Option.map_some
theorem cL:type_of% @List.getElem?_range:=@List.getElem?_range
theorem cM:type_of% @List.length_drop:=@List.length_drop
theorem cN:type_of% @List.getElem?_append_right:=@List.getElem?_append_right
theorem cO:type_of% @List.nodup_cons:=@List.nodup_cons
theorem cP:type_of% @List.take_length:=@List.take_length
theorem cQ:type_of% @List.getElem_map:=@List.getElem_map
theorem cR:type_of% @wpAny_mono:=@wpAny_mono
theorem cS:type_of% @Nat.lt_irrefl:=@Nat.lt_irrefl
theorem cT:type_of% @List.length_replicate:=@List.length_replicate
theorem cU:type_of% @beq_eq_false_iff_ne:=@beq_eq_false_iff_ne
theorem cV:type_of% @List.take_succ_eq_append_getElem:=@List.take_succ_eq_append_getElem
theorem cX:type_of% @Nat.lt_succ_self:=@Nat.lt_succ_self
theorem cY:type_of% @List.append_nil:=@List.append_nil
end
namespace L2
open PySem PySem.Spec PyProof.Rows
variable {C a:Addr} {op:CmpOp} {c e tg:Expr} {fd:FuncData} {h':Heap} {pins:List (Addr × Obj)} {kw:List (Str × Value)} {fp:List Addr} {es:List Expr} {body:List Stmt} {us:List Value} {M:Model} {i t':Nat} {p:Pos} {P:Program} {s':Shared} {mA:Str->Option Value} {u:Value} {E Q:Value->Shared->Prop}
abbrev Key:=Sum Int Str
def yfe:Key->Value->Bool
 | .inl k,v=>Value.isInt k v
 | .inr x,v=>Value.isStrOf x v
def vby (w:World):Key->Int
 | .inl k=>hashInt k
 | .inr x=>hashStr w x
theorem w4:∀ {k:Key} {v:Value},yfe k v=true->(∃ i t,k=Sum.inl i/\v=Value.int i t)\/(∃ x t,k=Sum.inr x/\v=Value.str x t)
 | .inl i,v,h=>by
  obtain ⟨t,e⟩:=Value.isInt_shape (k:=i) (v:=v) h;exact .inl ⟨i,t,rfl,e⟩
 | .inr x,v,h=>by
  obtain ⟨t,e⟩:=Value.isStrOf_shape (x:=x) (v:=v) h;exact .inr ⟨x,t,rfl,e⟩
theorem ygl (i:Int) (t:Tok):yfe (.inl i) (.int i t)=true:=by simp [yfe,Value.isInt]
theorem yfr (x:Str) (t:Tok):yfe (.inr x) (.str x t)=true:=by simp [yfe,Value.isStrOf]
theorem yus (a b:Int):decide ((Sum.inl a:Key)=Sum.inl b)=(a == b):=by
 by_cases e:a=b
 .subst e; simp
 .have h:¬ (Sum.inl a:Key)=Sum.inl b:=fun q=>e (Sum.inl.inj q);rw [bO h];exact (cU.mpr e).symm
theorem yu7 (a b:Str):decide ((Sum.inr a:Key)=Sum.inr b)=decide (a=b):=by
 by_cases e:a=b
 .subst e; simp
 .have h:¬ (Sum.inr a:Key)=Sum.inr b:=fun q=>e (Sum.inr.inj q);rw [bO h,bO e]
theorem yvp (a:Int) (b:Str):decide ((Sum.inl a:Key)=Sum.inr b)=false:=bO (fun q=>nomatch q)
theorem yty (a:Str) (b:Int):decide ((Sum.inr a:Key)=Sum.inl b)=false:=bO (fun q=>nomatch q)
def xo (prog:Program) (w:World):PySem.KeyKind prog w Key where
 is:=yfe
 hash:=vby w
 inj:=fun v a b ha hb=>by
  rcases w4 ha with ⟨i,t,rfl,rfl⟩ | ⟨x,t,rfl,rfl⟩
  .rcases w4 hb with ⟨j,u,rfl,e⟩ | ⟨y,u,rfl,e⟩
   .injection e with e1 _; rw [e1]
   .exact nomatch e
  .rcases w4 hb with ⟨j,u,rfl,e⟩ | ⟨y,u,rfl,e⟩
   .exact nomatch e
   .injection e with e1 _; rw [e1]
 byValue:=fun k v h=>by
  rcases w4 h with ⟨i,t,rfl,rfl⟩ | ⟨x,t,rfl,rfl⟩ <;> rfl
 pyHash:=fun hv h=>by
  rcases w4 hv with ⟨i,t,rfl,rfl⟩ | ⟨x,t,rfl,rfl⟩
  .exact wpAny_pyHash_int h
  .exact wpAny_pyHash_str h
 eqBool:=fun hu hv h=>by
  rcases w4 hu with ⟨i,t,rfl,rfl⟩ | ⟨x,t,rfl,rfl⟩
  .rcases w4 hv with ⟨j,u,rfl,rfl⟩ | ⟨y,u,rfl,rfl⟩
   .rw [yus] at h; exact wpAny_eqBool_int h
   .rw [yvp] at h; exact SeqAt.EqAt.int_str i t y u _ _ _ _ h
  .rcases w4 hv with ⟨j,u,rfl,rfl⟩ | ⟨y,u,rfl,rfl⟩
   .rw [yty] at h; exact SeqAt.EqAt.str_int x t j u _ _ _ _ h
   .rw [yu7] at h; exact wpAny_eqBool_str h
 «strs»:=fun k x t v h=>by
  rcases w4 h with ⟨i,u,rfl,e⟩ | ⟨y,u,rfl,e⟩
  .exact nomatch e
  .injection e with e1 _;subst e1;cases v <;> rfl
theorem ybr (prog:Program) (w:World) (i:Int) (t:Tok):(xo prog w).is (.inl i) (.int i t)=true:=ygl i t
theorem yby (prog:Program) (w:World) (x:Str) (t:Tok):(xo prog w).is (.inr x) (.str x t)=true:=yfr x t
inductive V where
 | non | bl (b:Bool) | int (i:Int) | str (x:Str) | byt (b:Array UInt8) | flt (b:UInt64) | ref (a:Addr) | ty (n:String)
 deriving DecidableEq
variable {vs xs:List V} {v y:V}
def xk:V->Value->Prop
 | .non,u=>u=Value.none
 | .bl b,u=>u=Value.bool b
 | .int i,u=>∃ t,u=Value.int i t
 | .str x,u=>∃ t,u=Value.str x t
 | .byt b,u=>∃ t,u=Value.bytes b t
 | .flt b,u=>∃ t,u=Value.float b t
 | .ref a,u=>u=Value.ref a
 | .ty n,u=>u=Value.type n
abbrev wn:List V->List Value->Prop:=Paired xk
theorem wn.length (r:wn xs us):xs.length=us.length:=Paired.length r
theorem wn.get:∀ {xs:List V} {us:List Value} {i:Nat} {x:V},wn xs us->xs[i]?=some x->∃ u,us[i]?=some u/\xk x u
 | _,_,_,_,.nil,e=>by simp at e
 | _,_,0,_,.cons r _,e=>by simp at e; subst e; exact ⟨_,rfl,r⟩
 | _,_,i+1,x,.cons _ t,e=>by
  obtain ⟨u,b,a⟩:=wn.get (i:=i) (x:=x) t (by simpa using e);exact ⟨u,by simpa using b,a⟩
theorem wn.set {x:V} (r:xk x u):∀ {xs:List V} {us:List Value} (i:Nat),wn xs us->wn (xs.set i x) (us.set i u)
 | _,_,_,.nil=>.nil
 | _,_,0,.cons _ t=>.cons r t
 | _,_,i+1,.cons q t=>.cons q (wn.set r i t)
theorem wn.append:∀ {xs ys:List V} {us ws:List Value},wn xs us->wn ys ws->wn (xs++ys) (us++ws)
 | _,_,_,_,.nil,s=>s
 | _,_,_,_,.cons r t,s=>.cons r (wn.append t s)
theorem wn.take:∀ {xs:List V} {us:List Value} (n:Nat),wn xs us->wn (xs.take n) (us.take n)
 | _,_,0,_=>.nil
 | _,_,_+1,.nil=>.nil
 | _,_,n+1,.cons r t=>.cons r (wn.take n t)
theorem wn.drop:∀ {xs:List V} {us:List Value} (n:Nat),wn xs us->wn (xs.drop n) (us.drop n)
 | _,_,0,r=>r
 | _,_,_+1,.nil=>.nil
 | _,_,n+1,.cons _ t=>wn.drop n t
def ybm:Option V->Option Value->Prop
 | some v,some u=>xk v u
 | none,none=>True
 | _,_=>False
def KV {κ:Type}:List (κ × V)->List (κ × Value)->Prop:=Paired fun (p:κ × V) (q:κ × Value)=>p.1=q.1/\xk p.2 q.2
def kV:Key->V
 | .inl i=>.int i
 | .inr x=>.str x
inductive HO where
 | lst (xs:List V)
 | tup (xs:List V)
 | dK (kvs:List (Key × V)) | dT (kvs:List (List Key × V))
 | set (S:Int->Bool) (n:Nat)
 | ins (C dx:Addr) (fs:List (Str × V))
 | own (x:Addr)
 | xd (fs:List (Str × V))
 | met (f x:Addr)
 | rng (lo hi:Int)
 | frz (o:Obj) (u:HO)
 | tbl (ps:Array Value)
 | ext (φ:Heap->Prop)
abbrev Hp:=Addr->Option HO
variable {H H':Hp}
def upd (H:Hp) (a:Addr) (o:HO):Hp:=fun b=>if b=a then some o else H b
theorem yc {o:HO}:upd H a o a=some o:=by unfold upd; rw [if_pos rfl]
theorem yq {b:Addr} {o:HO} (h:b≠a):upd H a o b=H b:=by unfold upd; rw [if_neg h]
theorem xa {b:Addr} {o u:HO} (h:H a=some o) (h':H b=some u) (d:o≠u):a≠b:=by
 intro e; subst e; rw [h] at h'; exact d (bL h')
theorem yd {b:Addr} {o:HO} (h:H a=some o) (h':H b=none):a≠b:=by
 intro e; subst e; rw [h] at h'; cases h'
section
variable (P:Program) (w:World)
def xf (H:Hp) (h:Heap) (a:Addr):HO->Prop
 | .lst xs=>xs.length <= sizeLine/\∃ (its:List Value) (n:Nat),wn xs its/\h.get? a=some { cls:=.type "list",data:=.seq its.toArray n }
 | .tup xs=>xs.length <= sizeLine/\∃ its:List Value,wn xs its/\IsTup h a its.toArray
 | .dK kvs=>kvs.length <= sizeLine/\(a == sysModules)=false/\∃ vs,KV kvs vs/\h.DictOf (xo P w) a vs
 | .dT kvs=>kvs.length <= sizeLine/\(a == sysModules)=false/\∃ xs:List (List Key × Addr × Value),
   Paired (fun (p:List Key × V) (q:List Key × Addr × Value)=>p.1=q.1/\H q.2.1=some (.tup (p.1.map kV))/\xk p.2 q.2.2) kvs xs /\
   ∃ o es ep,h.get? a=some o/\o.ExactDict/\o.data=.dict es ep/\es.toList=xs.map (entryOfKey (tupleKind (xo P w)))/\(xs.map (·.1)).Nodup
 | .set S n=>h.SetOf (intKind P w) a S n
 | .ins C dx fs=>H dx=some (.own a)/\fs.length <= 1000/\dx≠a/\h.get? a=some (W.instObj C dx) /\
   ∃ mA,h.Ns1 dx mA/\(∀ f,ybm (fs.lookup f) (mA f))/\PySem.Within mA (fs.map (·.1))
 | .own _=>∃ o,h.get? a=some o
 | .xd fs=>∃ mA,h.Ns1 a mA/\∀ f,ybm (fs.lookup f) (mA f)
 | .rng lo hi=>∃ t u v,h.get? a=some { cls:=.type "range",data:=.fields #[.int lo t,.int hi u,.int 1 v] }
 | .frz o u=>h.get? a=some o/\xf H h a u
 | .tbl ps=>h.get? a=some { cls:=.none,data:=.fields ps }
 | .met f x=>h.get? a=some (W.methodObj (.ref f) (.ref x))
 | .ext φ=>φ h/\(∃ o,h.get? a=some o)/\∀ h1 h2:Heap,φ h1->(∀ o,h1.get? a=some o->h2.get? a=some o)->φ h2
def HOk (H:Hp) (h:Heap):Prop:=∀ a o,H a=some o->xf P w H h a o
end
section
variable {w:World} {h:Heap} {o:HO}
theorem xf.lt (x:xf P w H h a o):a < h.objs.size:=by
 cases o with
 | lst xs=>obtain ⟨_,_,_,_,e⟩:=x; exact bF e
 | tup xs=>obtain ⟨_,_,_,p⟩:=x; exact p.lt
 | dK kvs=>obtain ⟨_,_,_,_,o,_,_,e,_⟩:=x; exact bF e
 | dT kvs=>obtain ⟨_,_,_,_,o,_,_,e,_⟩:=x; exact bF e
 | set S n=>obtain ⟨o,_,_,_,e,_⟩:=x; exact bF e
 | ins C dx fs=>obtain ⟨_,_,_,e,_⟩:=x; exact bF e
 | own y=>obtain ⟨_,e⟩:=x; exact bF e
 | xd fs=>obtain ⟨_,⟨_,_,_,e,_⟩,_⟩:=x; exact bF e
 | rng lo hi=>obtain ⟨_,_,_,e⟩:=x; exact bF e
 | frz ob u=>obtain ⟨e,_⟩:=x; exact bF e
 | tbl ps=>exact bF (show h.get? a=some _ from x)
 | met f y=>exact bF (show h.get? a=some _ from x)
 | ext φ=>obtain ⟨_,⟨_,e⟩,_⟩:=x; exact bF e
theorem Paired.mapP {α β:Type} {F G:α->β->Prop}:∀ {l₁:List α} {l₂:List β},Paired F l₁ l₂->(∀ a b,F a b->G a b)->Paired G l₁ l₂
 | _,_,.nil,_=>.nil
 | _,_,.cons r t,f=>.cons (f _ _ r) (Paired.mapP t f)
theorem xf.stay (x:xf P w H h a o) (k:∀ b u,(b=a\/H b=some (.own a))->h.get? b=some u->h'.get? b=some u)
  (ho:∀ b,H b=some (.own a)->H' b=some (.own a)) (ht:∀ b xs,H b=some (.tup xs)->H' b=some (.tup xs)):xf P w H' h' a o:=by
 induction o with
 | lst xs=>obtain ⟨z,j,n,r,e⟩:=x; exact ⟨z,j,n,r,k _ _ (.inl rfl) e⟩
 | tup xs=>obtain ⟨z,j,r,ob,e,c⟩:=x; exact ⟨z,j,r,ob,k _ _ (.inl rfl) e,c⟩
 | dK kvs=>obtain ⟨z,y,A,r,ob,i,g,e,c⟩:=x; exact ⟨z,y,A,r,ob,i,g,k _ _ (.inl rfl) e,c⟩
 | dT kvs =>
  obtain ⟨z,y,xs,r,ob,i,g,e,c⟩:=x;exact ⟨z,y,xs,Paired.mapP r fun p q z=>⟨z.1,ht _ _ z.2.1,z.2.2⟩,ob,i,g,k _ _ (.inl rfl) e,c⟩
 | set S n=>obtain ⟨ob,i,g,t,e,c⟩:=x; exact ⟨ob,i,g,t,k _ _ (.inl rfl) e,c⟩
 | ins C dx fs =>
  obtain ⟨d,z,D,e,m,⟨l,i,g,B,c⟩,r⟩:=x;exact ⟨ho _ d,z,D,k _ _ (.inl rfl) e,m,⟨l,i,g,k _ _ (.inr d) B,c⟩,r⟩
 | own y=>obtain ⟨ob,e⟩:=x; exact ⟨ob,k _ _ (.inl rfl) e⟩
 | xd fs=>obtain ⟨m,⟨l,i,g,e,c⟩,r⟩:=x; exact ⟨m,⟨l,i,g,k _ _ (.inl rfl) e,c⟩,r⟩
 | rng lo hi=>obtain ⟨t,u,v,e⟩:=x; exact ⟨t,u,v,k _ _ (.inl rfl) e⟩
 | frz ob u ih=>obtain ⟨e,q⟩:=x; exact ⟨k _ _ (.inl rfl) e,ih q⟩
 | tbl ps =>
  have e:h.get? a=some { cls:=.none,data:=.fields ps }:=x;show h'.get? a=some { cls:=.none,data:=.fields ps };exact k a _ (.inl rfl) e
 | met f y =>
  have e:h.get? a=some (W.methodObj (.ref f) (.ref y)):=x;show h'.get? a=some (W.methodObj (.ref f) (.ref y));exact k a _ (.inl rfl) e
 | ext φ=>obtain ⟨p,⟨o,e⟩,s⟩:=x; exact ⟨s _ _ p fun o q=>k _ _ (.inl rfl) q,⟨o,k _ _ (.inl rfl) e⟩,s⟩
theorem HOk.lt (x:HOk P w H h) (e:H a=some o):a < h.objs.size:=(x a o e).lt
theorem HOk.fresh (x:HOk P w H h) (e:h.objs.size <= a):H a=none:=by
 cases q:H a with
 | none=>rfl
 | some u=>exact absurd (bV (x.lt q) e) (cS _)
theorem HOk.kept (x:HOk P w H h) (k:∀ b u,h.get? b=some u->h'.get? b=some u):HOk P w H h':=fun a o e =>
 (x a o e).stay (fun b u _ q=>k b u q) (fun _ q=>q) fun _ _ q=>q
theorem HOk.laid (x:HOk P w H h) (k:∀ b u,h.get? b=some u->h'.get? b=some u) (hp:h.objs.size <= a) (new:xf P w (upd H a o) h' a o):HOk P w (upd H a o) h':=fun b u e=>by
 have d:=x.fresh hp;by_cases hb:b=a
 .subst hb; rw [yc] at e; cases e; exact new
 .rw [yq hb] at e;exact (x b u e).stay (fun c v _ q=>k c v q) (fun c q=>by rw [yq (yd q d)]; exact q) fun c f q=>by rw [yq (yd q d)]; exact q
end
def Rd (H:Hp) (a:Addr) (u:HO):Prop:=H a=some u\/∃ o,H a=some (.frz o u)
theorem Rd.of {u:HO} (h:H a=some u):Rd H a u:=.inl h
theorem Rd.ok {w:World} {h:Heap} {u:HO} (r:Rd H a u) (x:HOk P w H h):xf P w H h a u:=by
 rcases r with r | ⟨o,r⟩
 .exact x a u r
 .obtain ⟨_,q⟩:=x a _ r;exact q
def Mut:Option HO->Prop
 | some (.lst _)=>True
 | some (.dK _)=>True
 | some (.dT _)=>True
 | some (.set _ _)=>True
 | some (.ins _ _ _)=>True
 | some (.ext _)=>True
 | _=>False
section
variable {w:World} {h:Heap} {x e:Addr} {o':HO}
theorem HOk.write (ok:HOk P w H h) (mu:Mut (H x)) (he:e=x\/H e=some (.own x)) (k:∀ b u,b≠e->h.get? b=some u->h'.get? b=some u) (heo:∃ u,h'.get? e=some u)
  (new:xf P w (upd H x o') h' x o'):HOk P w (upd H x o') h':=fun b u q=>by
 have a:∀ c y,H c=some (.own y)->c≠x:=fun c y r z=>by subst z; rw [r] at mu; exact mu
 have d:∀ c f,H c=some (.tup f)->c≠x:=fun c f r z=>by subst z; rw [r] at mu; exact mu
 by_cases hb:b=x
 .subst hb; rw [yc] at q; cases q; exact new
 .rw [yq hb] at q;by_cases hbe:b=e
  .have i:H b=some (.own x):=by
    rcases he with z | z
    .exact absurd (hbe.trans z) hb
    .rw [hbe]; exact z
   rw [q] at i; cases i;obtain ⟨v,j⟩:=heo;exact ⟨v,by rw [hbe]; exact j⟩
  .refine (ok b u q).stay (fun c v g r=>k c v ?_ r) (fun c r=>by rw [yq (a c b r)]; exact r) fun c f r=>by rw [yq (d c f r)]; exact r
   rcases g with rfl | g
   .exact hbe
   .rintro rfl;rcases he with z | z
    .exact a c b g z
    .rw [g] at z; cases z; exact hb rfl
end
structure Un (fs ex:List Addr) (H H':Hp) (h h':Heap):Prop where
 keep:∀ b o,h.get? b=some o->H b=none->b∉fs->b∉ex->h'.get? b=some o
 slot:∀ b o,h.get? b=some o->H b=none->b∈fs->b∉ex->∃ sl,h'.get? b=some { o with slots:=sl }
 free:∀ b o,h.get? b=some o->H b=none->b∉ex->H' b=none
 there:∀ b o,h.get? b=some o->b∉ex->∃ o',h'.get? b=some o'
 tups:∀ b xs,H b=some (.tup xs)->H' b=some (.tup xs)
 frzs:∀ b o u,H b=some (.frz o u)->H' b=some (.frz o u)
 tbls:∀ b ps,H b=some (.tbl ps)->∃ more,H' b=some (.tbl (ps++more))
section
variable {fs fs' ex ex':List Addr} {H1 H2:Hp} {h h1 h2:Heap} {x e:Addr} {o:HO}
theorem Un.any (u:Un fs ex H H1 h h1) {b:Addr} {ob:Obj} (q:h.get? b=some ob) (n:H b=none) (hx:b∉ex):∃ sl,h1.get? b=some { ob with slots:=sl }:=by
 by_cases hb:b∈fs
 .exact u.slot b ob q n hb hx
 .exact ⟨ob.slots,u.keep b ob q n hb hx⟩
theorem Un.kept (k:∀ b u,h.get? b=some u->h'.get? b=some u):Un fs ex H H h h' :=
 ⟨fun b a q _ _ _=>k b a q,fun b a q _ _ _=>⟨a.slots,k b a q⟩,fun _ _ _ n _=>n,fun b a q _=>⟨a,k b a q⟩,fun _ _ q=>q,fun _ _ _ q=>q,fun _ c q=>⟨#[],by rw [q]; simp⟩⟩
theorem Un.refl:Un fs ex H H h h:=Un.kept fun _ _ q=>q
theorem Un.laid (k:∀ b u,h.get? b=some u->h'.get? b=some u) (hp:h.objs.size <= a) (hn:H a=none):Un fs ex H (upd H a o) h h' where
 keep:=fun b u q _ _ _=>k b u q
 slot:=fun b u q _ _ _=>⟨u.slots,k b u q⟩
 free:=fun b u q n _=>by rw [yq (bU (bV (bF q) hp))]; exact n
 there:=fun b u q _=>⟨u,k b u q⟩
 tups:=fun b c q=>by rw [yq (yd q hn)]; exact q
 frzs:=fun b u c q=>by rw [yq (yd q hn)]; exact q
 tbls:=fun b d q=>⟨#[],by rw [yq (yd q hn),q]; simp⟩
theorem Un.write (mu:Mut (H x)) (he:e=x\/H e=some (.own x)) (k:∀ b u,b≠e->h.get? b=some u->h'.get? b=some u) (heo:∃ u,h'.get? e=some u):Un fs ex H (upd H x o) h h':=by
 have c:∀ b,H b=none->b≠x:=fun b n z=>by subst z; rw [n] at mu; exact mu
 have d:∀ b,H b=none->b≠e:=fun b n z=>by
  subst z;rcases he with r | r
  .exact c b n r
  .rw [n] at r; cases r
 have a:∀ b u,H b=some u->¬ Mut (some u)->b≠x:=fun b u q f z=>by subst z; rw [q] at mu; exact f mu
 refine ⟨fun b u q n _ _=>k b u (d b n) q,fun b u q n _ _=>⟨u.slots,k b u (d b n) q⟩,fun b u q n _=>by rw [yq (c b n)]; exact n,fun b u q _=>?_,
  fun b g q=>by rw [yq (a b _ q fun z=>z)]; exact q,fun b u g q=>by rw [yq (a b _ q fun z=>z)]; exact q,fun b i q=>⟨#[],by rw [yq (a b _ q fun z=>z),q]; simp⟩⟩
 by_cases hbe:b=e
 .subst hbe; exact heo
 .exact ⟨u,k b u hbe q⟩
end
def trk (h:Heap) (H:Hp):List Addr:=(List.range h.objs.size).filter fun a=>(H a).isSome
def ykv (h:Heap) (H:Hp):Heap:=W.hideAll h (trk h H)
theorem yf7 (h:Heap) (H:Hp):(ykv h H).objs.size=h.objs.size:=W.hideAll_size _ _
theorem yjy {h:Heap} {b:Addr} {o:Obj} (e:h.get? b=some o) (n:H b=none):(ykv h H).get? b=some o :=
 W.hideAll_get _ e fun a=>by
  have q:(H b).isSome=true:=(List.mem_filter.mp a).2;rw [n] at q; simp at q
theorem yn3 {h:Heap} {b:Addr} {o:Obj} (e:(ykv h H).get? b=some o):h.get? b=some o/\H b=none:=by
 have a:h.get? b=some o:=W.of_hideAll (trk h H) e;refine ⟨a,?_⟩
 cases q:H b with
 | none=>rfl
 | some x =>
  have c:b∈trk h H:=List.mem_filter.mpr ⟨cD.mpr (bF a),by simp [q]⟩;have z:(ykv h H).get? b=none:=W.hideAll_none (trk h H) c;rw [z] at e; cases e
def yon (g h:Heap) (L:Addr):List (Addr × Obj):=(List.range h.objs.size).filterMap fun a=>if a=L\/(g.get? a).isSome=true then none else (h.get? a).map fun o=>(a,o)
def â (g h:Heap) (L d:Addr):List (Addr × Obj):=(yon g h L).filter fun p=>decide (p.1≠d)
structure Mod (K:W.Frag) (mg:Str->Option Value) (base:Heap):Prop where
 kin:K.In base
 glob:base.Ns mainGlobals mg
 blt:∃ mb,base.Ns builtinsNs mb/\∀ x:Str,x≠"__name__"->mb x=bootBuiltins x
 nolimit:base.NoLimit
structure Cx where
 prog:Program
 w:World
 K:W.Frag
 mg:Str->Option Value
 base:Heap
 A:Around
 N:List Str
 s₀:Shared
 H₀:Hp
 env:Env
 outer:List Env
 stack:List Env
 ex:List Addr
 fn:Str->Bool
 calm:Bool
 pn:List (Addr × Obj)
 xe:Value->Shared->Prop
variable {X:Cx}
def frs (l:List Env):List Addr:=l.filterMap (·.frame)
abbrev Cx.fs (X:Cx):List Addr:=frs X.outer
def Vis (sc:Scope) (x:Str):Prop:=sc.names.lookup x=some .local\/sc.names.lookup x=some .cell\/sc.names.lookup x=some .free
def Loc (sc:Scope) (x:Str):Prop:=sc.names.lookup x=some .local\/sc.names.lookup x=some .cell
def vbc (env:Env) (h:Heap) (m:Str->Option Value) (x:Str) (u:Value):Prop :=
 (env.kindOf x=some .local/\m x=some u)\/((env.kindOf x=some .cell\/env.kindOf x=some .free)/\∃ c,env.cells.lookup x=some c/\h.IsCell c (some u))
structure Cx.Ok (X:Cx):Prop where
 mod:Mod X.K X.mg X.base
 kind:X.env.scope.kind=.function
 glob:X.env.globals=mainGlobals
 blt:X.env.builtins=builtinsNs
 above:X.s₀.heap.objs.size <= X.env.locals
 inj:∀ x y c,X.env.cells.lookup x=some c->X.env.cells.lookup y=some c->x=y
 has:∀ x,(X.env.kindOf x=some .cell\/X.env.kindOf x=some .free)->∃ c,X.env.cells.lookup x=some c
 cab:∀ x c,X.fn x=true->X.env.cells.lookup x=some c->X.s₀.heap.objs.size <= c
 hd:X.calm=true->X.A.handled=none
 frames:X.A.frames=some X.stack
 stk:X.stack=X.outer\/(X.stack=X.env :: X.outer/\X.env.frame=some X.env.locals)
 exf:∀ b∈X.ex,b≠X.env.locals/\∀ x c,X.env.cells.lookup x=some c->c≠b
 bs:∀ b o,X.base.get? b=some o->X.s₀.heap.get? b=some o/\X.H₀ b=none
 bsz:X.base.objs.size <= X.s₀.heap.objs.size
 noex:∀ b o,X.base.get? b=some o->b∉X.ex
 exfs:∀ b∈X.ex,b∉X.fs
 funs:X.s₀.heap.FunFrames X.base X.outer
 frf:∀ b∈X.fs,X.H₀ b=none
structure Inv (X:Cx) (pins:List (Addr × Obj)) (σ:List (Option V)) (H:Hp) (s:Shared):Prop where
 ok:X.Ok
 os:s.os=X.s₀.os
 bare:AllBare s.gens
 base:Un X.fs X.ex X.H₀ H X.s₀.heap s.heap
 loc:∃ m,s.heap.Ns X.env.locals m/\∀ (i:Nat) (x:Str) (v:V),X.N[i]?=some x->σ[i]?=some (some v)->Vis X.env.scope x->∃ u,xk v u/\vbc X.env s.heap m x u
 cell:∀ x c,X.env.cells.lookup x=some c->∃ v,s.heap.IsCell c v
 free:H X.env.locals=none
 freeC:∀ x c,X.env.cells.lookup x=some c->H c=none
 pin:∀ p∈X.pn++pins,s.heap.get? p.1=some p.2/\H p.1=none/\p.1≠X.env.locals/\p.1∉X.fs/\∀ v,p.2.data≠.cell v
 hok:HOk X.prog X.w H s.heap
 len:σ.length=X.N.length
section
variable {σ:List (Option V)} {s:Shared}
theorem Cx.Ok.nofr (ok:X.Ok) {b:Addr} {o:Obj} (e:X.base.get? b=some o):b∉X.fs:=fun a=>by
 have:=(ok.funs.mem a).1;rw [e] at this; cases this
theorem Inv.bs (I:Inv X pins σ H s):∀ b o,X.base.get? b=some o->s.heap.get? b=some o/\H b=none:=fun b o e =>
 ⟨I.base.keep b o (I.ok.bs b o e).1 (I.ok.bs b o e).2 (I.ok.nofr e) (I.ok.noex b o e),I.base.free b o (I.ok.bs b o e).1 (I.ok.bs b o e).2 (I.ok.noex b o e)⟩
theorem Inv.bk (I:Inv X pins σ H s):∀ b o,X.base.get? b=some o->s.heap.get? b=some o:=fun b o e=>(I.bs b o e).1
theorem Inv.mod (I:Inv X pins σ H s):Mod X.K X.mg X.base:=I.ok.mod
theorem Inv.kIn (I:Inv X pins σ H s):X.K.In s.heap:=I.ok.mod.kin.keeps I.bk
theorem Inv.lt (I:Inv X pins σ H s):X.env.locals < s.heap.objs.size:=let ⟨_,hn,_⟩:=I.loc; hn.lt
theorem Inv.sz (I:Inv X pins σ H s):X.s₀.heap.objs.size <= s.heap.objs.size:=cc I.ok.above (Nat.le_of_lt I.lt)
theorem Inv.nofs (I:Inv X pins σ H s) (h:s.heap.objs.size <= a):a∉X.fs:=fun b=>by
 obtain ⟨_,o,c,_⟩:=I.ok.funs.mem b;exact absurd (bV (bF c) (cc I.sz h)) (cS _)
theorem Inv.cne (I:Inv X pins σ H s):∀ x c,X.env.cells.lookup x=some c->c≠X.env.locals:=fun x c e z=>by
 obtain ⟨v,o,f,d⟩:=I.cell x c e;obtain ⟨m,⟨g,i,h,a,b,_⟩,_⟩:=I.loc;rw [z,a] at f; cases f; rw [b] at d; cases d
theorem Inv.funs (I:Inv X pins σ H s):s.heap.FunFrames X.base X.outer:=by
 have d:∀ (l:List Env),(∀ b∈frs l,b∈X.fs)->X.s₀.heap.FunFrames X.base l->s.heap.FunFrames X.base l:=by
  intro l
  induction l with
  | nil=>intro _ _; trivial
  | cons env r ih =>
   intro g n;obtain ⟨h,⟨L,o,a,k,j,i⟩,m⟩:=n;have c:L∈X.fs:=g L (by unfold frs; rw [List.filterMap_cons,a]; exact ck);obtain ⟨p,e⟩:=I.base.slot L o j (I.ok.frf L c) c fun z=>I.ok.exfs L z c;exact ⟨h,⟨L,_,a,k,e,i⟩,ih (fun b f=>g b (by unfold frs; rw [List.filterMap_cons,a]; exact cb _ f)) m⟩
 exact d X.outer (fun _ f=>f) I.ok.funs
theorem Inv.stack (I:Inv X pins σ H s):s.heap.FunFrames X.base X.stack:=by
 rcases I.ok.stk with e | ⟨e,b⟩
 .rw [e]; exact I.funs
 .rw [e];obtain ⟨m,a,_⟩:=I.loc;refine .cons (by rw [I.ok.kind]; decide) b a ?_ I.funs;exact Heap.get?_none_of_le (cc I.ok.bsz I.ok.above)
theorem Inv.stkSub (I:Inv X pins σ H s):∀ b∈frs X.stack,b∈X.env.locals :: X.fs:=fun b a=>by
 rcases I.ok.stk with e | ⟨e,c⟩
 .rw [e] at a; exact cb _ a
 .rw [e] at a;unfold frs at a;rw [List.filterMap_cons,c] at a;exact a
theorem Inv.stkFree (I:Inv X pins σ H s):∀ b∈frs X.stack,H b=none:=fun b a=>by
 rcases bI.mp (I.stkSub b a) with e | a
 .rw [e]; exact I.free
 .obtain ⟨_,o,c,_⟩:=I.ok.funs.mem a;exact I.base.free b o c (I.ok.frf b a) fun z=>I.ok.exfs b z a
theorem Inv.step {g':Array GenState} {d':Drawn} {ch:List Addr} (I:Inv X pins σ H s)
  (hch:∀ b∈ch,(b∈X.ex\/X.s₀.heap.objs.size <= b)/\b≠X.env.locals/\(∀ x c,X.env.cells.lookup x=some c->c≠b)/\∀ p∈X.pn++pins,p.1≠b)
  (keep:∀ b o,b≠X.env.locals->b∉X.fs->b∉ch->s.heap.get? b=some o->H b=none->h'.get? b=some o)
  (slot:∀ b o,b≠X.env.locals->b∈X.fs->b∉ch->s.heap.get? b=some o->H b=none->∃ sl,h'.get? b=some { o with slots:=sl }) (free:∀ b o,b∉ch->s.heap.get? b=some o->H b=none->H' b=none)
  (there:∀ b o,b∉ch->s.heap.get? b=some o->∃ o',h'.get? b=some o')
  (tups:∀ b xs,H b=some (.tup xs)->H' b=some (.tup xs)) (frzs:∀ b o u,H b=some (.frz o u)->H' b=some (.frz o u)) (tbls:∀ b ps,H b=some (.tbl ps)->∃ more,H' b=some (.tbl (ps++more)))
  (ns:∀ m,s.heap.Ns X.env.locals m->h'.Ns X.env.locals m) (hok:HOk X.prog X.w H' h') (hg:AllBare g') :
  Inv X pins σ H' { s with heap:=h',gens:=g',drawn:=d',toks:=t' }:=by
 have B:∀ b o,X.s₀.heap.get? b=some o->b≠X.env.locals:=fun b o e=>bU (bV (bF e) I.ok.above)
 have h:∀ b o,X.s₀.heap.get? b=some o->b∉X.ex->b∉ch:=fun b o e a t=>by
  rcases (hch b t).1 with z | z
  .exact a z
  .exact absurd (bV (bF e) z) (cS _)
 have g:∀ x c,X.env.cells.lookup x=some c->∀ v,s.heap.IsCell c v->h'.IsCell c v:=fun x c e v ⟨o,y,C⟩=>by
  have f:c∉ch:=fun z=>(hch c z).2.2.1 x c e rfl;by_cases hc:c∈X.fs
  .obtain ⟨sl,q⟩:=slot c o (I.cne x c e) hc f y (I.freeC x c e);exact ⟨_,q,C⟩
  .exact ⟨o,keep c o (I.cne x c e) hc f y (I.freeC x c e),C⟩
 refine ⟨I.ok,I.os,hg,⟨fun b o e n t a=>?_,fun b o e n t a=>?_,fun b o e n a=>?_,fun b o e a=>?_,fun b xs e=>tups b xs (I.base.tups b xs e),fun b o xs e=>frzs b o xs (I.base.frzs b o xs e),fun b ps e=>?_⟩,?_,fun x c e=>?_,?_,fun x c e=>?_,fun p G=>?_,hok,I.len⟩
 .exact keep b o (B b o e) t (h b o e a) (I.base.keep b o e n t a) (I.base.free b o e n a)
 .obtain ⟨sl,j⟩:=I.base.slot b o e n t a;obtain ⟨D,A⟩:=slot b _ (B b o e) t (h b o e a) j (I.base.free b o e n a);exact ⟨D,A⟩
 .obtain ⟨o',j⟩:=I.base.there b o e a;exact free b o' (h b o e a) j (I.base.free b o e n a)
 .obtain ⟨o',j⟩:=I.base.there b o e a;exact there b o' (h b o e a) j
 .obtain ⟨J,j⟩:=I.base.tbls b ps e;obtain ⟨K,A⟩:=tbls b _ j;exact ⟨J++K,by rw [A,Array.append_assoc]⟩
 .obtain ⟨m,M,N⟩:=I.loc;refine ⟨m,ns m M,fun i x v j A L=>?_⟩;obtain ⟨u,r,l⟩:=N i x v j A L;refine ⟨u,r,?_⟩;rcases l with l | ⟨k,c,e,z⟩
  .exact .inl l
  .exact .inr ⟨k,c,e,g x c e _ z⟩
 .obtain ⟨v,z⟩:=I.cell x c e;exact ⟨v,g x c e v z⟩
 .obtain ⟨m,⟨o,_,_,y,_⟩,_⟩:=I.loc;exact free _ o (fun z=>(hch _ z).2.1 rfl) y I.free
 .obtain ⟨v,o,y,C⟩:=I.cell x c e;exact free c o (fun z=>(hch c z).2.2.1 x c e rfl) y (I.freeC x c e)
 .obtain ⟨e,n,E,F,d⟩:=I.pin p G;have f:p.1∉ch:=fun z=>(hch p.1 z).2.2.2 p G rfl;exact ⟨keep p.1 p.2 E F f e n,free p.1 p.2 f e n,E,F,d⟩
theorem Inv.un (I:Inv X pins σ H s) (u:Un X.fs [] H H' s.heap h') (hok:HOk X.prog X.w H' h'):Inv X pins σ H' { s with heap:=h',toks:=t' }:=by
 obtain ⟨m,⟨o,q,p,g,r⟩,_⟩:=id I.loc;obtain ⟨t,h⟩:=u.any g I.free (by simp)
 exact I.step (g':=s.gens) (d':=s.drawn) (ch:=[]) (fun _ z=>nomatch z) (fun b o _ f _ e n=>u.keep b o e n f (by simp)) (fun b o _ f _ e n=>u.slot b o e n f (by simp)) (fun b o _ e n=>u.free b o e n (by simp)) (fun b o _ e=>u.there b o e (by simp)) u.tups u.frzs u.tbls (fun k j=>by
  obtain ⟨l,d,c,a,i⟩:=j;rw [g] at a; cases a;exact ⟨_,d,c,h,i⟩) hok I.bare
theorem Inv.call {g':Array GenState} {d':Drawn} {ch:List Addr} (I:Inv X pins σ H s) (u:Un (frs X.stack) ch H H' s.heap h') (hok:HOk X.prog X.w H' h') (hg:AllBare g')
  (hch:∀ b∈ch,(b∈X.ex\/X.s₀.heap.objs.size <= b)/\b≠X.env.locals/\(∀ x c,X.env.cells.lookup x=some c->c≠b)/\∀ p∈X.pn++pins,p.1≠b) :
  Inv X pins σ H' { s with heap:=h',gens:=g',drawn:=d',toks:=t' }:=by
 obtain ⟨m,⟨o,y,v,i,r⟩,_⟩:=id I.loc;obtain ⟨A,f⟩:=u.any i I.free fun z=>(hch _ z).2.1 rfl
 exact I.step (ch:=ch) hch (fun b o f l a e n=>u.keep b o e n (fun z=>(bI.mp (I.stkSub b z)).elim f l) a) (fun b o _ _ a e n=>u.any e n a) (fun b o a e n=>u.free b o e n a) (fun b o a e=>u.there b o e a) u.tups u.frzs u.tbls (fun q k=>by
  obtain ⟨t,h,g,d,j⟩:=k;rw [i] at d; cases d;exact ⟨_,h,g,f,j⟩) hok hg
theorem Inv.turned {it:Addr} (I:Inv X pins σ H s) (k:∀ b o,b≠it->s.heap.get? b=some o->h'.get? b=some o) (hn:H it=none) (hL:it≠X.env.locals)
  (h1:it∈X.ex\/X.s₀.heap.objs.size <= it) (h2:∀ x c,X.env.cells.lookup x=some c->c≠it) (h3:∀ p∈X.pn++pins,p.1≠it):Inv X pins σ H { s with heap:=h',toks:=t' }:=by
 have d:∀ b u,H b=some u->b≠it:=fun b u e z=>by rw [z,hn] at e; cases e
 refine I.step (g':=s.gens) (d':=s.drawn) (ch:=[it]) (fun b j=>?_) (fun b o _ _ a e _=>k b o (fun z=>a (by simp [z])) e) (fun b o _ _ a e _=>⟨o.slots,k b o (fun z=>a (by simp [z])) e⟩) (fun _ _ _ _ n=>n)
  (fun b o a e=>⟨o,k b o (fun z=>a (by simp [z])) e⟩) (fun _ _ e=>e) (fun _ _ _ e=>e) (fun b l e=>⟨#[],by rw [e]; simp⟩) (fun m i=>?_) (fun b u e=>?_) I.bare
 .have e:b=it:=by simpa using j
  subst e;exact ⟨h1,hL,h2,h3⟩
 .obtain ⟨o,g,f,h,r⟩:=i;exact ⟨o,g,f,k _ o (Ne.symm hL) h,r⟩
 .refine (I.hok b u e).stay (fun c v a q=>k c v ?_ q) (fun _ q=>q) fun _ _ q=>q;rcases a with z | z
  .rw [z]; exact d b u e
  .exact d c _ z
theorem Inv.tok (I:Inv X pins σ H s) (t:Nat):Inv X pins σ H { s with toks:=t }:=I.un (h':=s.heap) (t':=t) Un.refl I.hok
theorem Inv.kept (I:Inv X pins σ H s) (k:∀ b u,s.heap.get? b=some u->h'.get? b=some u):Inv X pins σ H { s with heap:=h',toks:=t' }:=I.un (Un.kept k) (I.hok.kept k)
theorem Inv.laid {o:HO} (I:Inv X pins σ H s) (k:∀ b u,s.heap.get? b=some u->h'.get? b=some u) (hp:s.heap.objs.size <= a) (new:xf X.prog X.w (upd H a o) h' a o) :
  Inv X pins σ (upd H a o) { s with heap:=h',toks:=t' }:=I.un (Un.laid k hp (I.hok.fresh hp)) (I.hok.laid k hp new)
theorem Inv.write {x e:Addr} {o:HO} (I:Inv X pins σ H s) (mu:Mut (H x)) (he:e=x\/H e=some (.own x)) (k:∀ b u,b≠e->s.heap.get? b=some u->h'.get? b=some u) (heo:∃ u,h'.get? e=some u)
  (new:xf X.prog X.w (upd H x o) h' x o):Inv X pins σ (upd H x o) { s with heap:=h',toks:=t' }:=I.un (Un.write mu he k heo) (I.hok.write mu he k heo new)
theorem Inv.pins_of {pins':List (Addr × Obj)} (I:Inv X pins σ H s) (h:∀ p∈pins',s.heap.get? p.1=some p.2/\H p.1=none/\p.1≠X.env.locals/\p.1∉X.fs/\∀ v,p.2.data≠.cell v):Inv X pins' σ H s :=
 ⟨I.ok,I.os,I.bare,I.base,I.loc,I.cell,I.free,I.freeC,fun p a=>(bY.mp a).elim (fun z=>I.pin p (List.mem_append_left _ z)) (h p),I.hok,I.len⟩
theorem ydy {N:List Str} (hN:N.Nodup) {j:Nat} {x:Str} (a:N[i]?=some x) (b:N[j]?=some x):i=j:=by
 obtain ⟨f,d⟩:=cF.mp a;obtain ⟨e,c⟩:=cF.mp b;exact (List.getElem_inj hN).mp (d.trans c.symm)
theorem θ {A:Around} {x:Str} {Q:Unit->Shared->Prop} (I:Inv X pins σ H s) (hN:X.N.Nodup) (hi:X.N[i]?=some x) (hx:Loc X.env.scope x) (r:xk v u)
  (h:∀ s',Inv X pins (σ.set i (some v)) H s'->(∃ a,Heap.SameBut a s.heap s'.heap/\(a=X.env.locals\/X.env.cells.lookup x=some a))->Q () s') (hf:X.fn x=true\/X.env.scope.names.lookup x=some .local:=by first | exact .inl rfl | exact .inr rfl | assumption):wpAny M A (storeName X.env x u) Q E s:=by
 obtain ⟨m,hn,hl⟩:=id I.loc;have P:(X.env.scope.kind == .class || (X.env.scope.kind == .module && X.env.locals != X.env.globals))=false:=by rw [I.ok.kind]; rfl
 have hiσ:i < σ.length:=by rw [I.len]; exact (cF.mp hi).1
 have G:=I.cne
 have g:∀ {a:Addr} {K:Heap},(∃ o,s.heap.get? a=some o/\H a=none)->Heap.SameBut a s.heap K->HOk X.prog X.w H K:=fun {a K} ha f b ob e=>by
  obtain ⟨_,_,B⟩:=ha;refine (I.hok b ob e).stay (fun c T t q=>(f.2 c ?_).trans q) (fun _ q=>q) fun _ _ q=>q;rintro rfl;rcases t with rfl | t
  .rw [B] at e; cases e
  .rw [B] at t; cases t
 rcases hx with D | D
 .refine wpAny_storeName_local D hn (fun K a0 f=>?_) P;obtain ⟨oL,_,_,Z,_⟩:=id hn;refine h _ ⟨I.ok,I.os,I.bare,⟨fun b o e n J hx=>?_,fun b o e n J hx=>?_,I.base.free,fun b o e hx=>?_,I.base.tups,I.base.frzs,I.base.tbls⟩,⟨_,a0,fun j y v' l C e3=>?_⟩,fun y c e=>?_,I.free,I.freeC,fun p hp=>?_,g ⟨oL,Z,I.free⟩ f,by simpa using I.len⟩ ⟨_,f,.inl rfl⟩
  .exact (f.2 b (bU (bV (bF e) I.ok.above))).trans (I.base.keep b o e n J hx)
  .obtain ⟨sl,l⟩:=I.base.slot b o e n J hx;exact ⟨sl,(f.2 b (bU (bV (bF e) I.ok.above))).trans l⟩
  .obtain ⟨W,l⟩:=I.base.there b o e hx;exact ⟨W,(f.2 b (bU (bV (bF e) I.ok.above))).trans l⟩
  .by_cases hj:j=i
   .subst hj;rw [hi] at l; cases l;rw [List.getElem?_set_self hiσ] at C;cases C;exact ⟨u,r,.inl ⟨D,by simp⟩⟩
   .rw [List.getElem?_set_ne (Ne.symm hj)] at C;obtain ⟨Y,r',q⟩:=hl j y v' l C e3;refine ⟨Y,r',?_⟩;rcases q with ⟨k,e⟩ | ⟨k,c,e,z⟩
    .refine .inl ⟨k,?_⟩;have:y≠x:=fun e=>hj (ydy hN l (e ▸ hi));simp [this,e]
    .exact .inr ⟨k,c,e,z.sameBut f (G y c e)⟩
  .obtain ⟨T,z⟩:=I.cell y c e;exact ⟨T,z.sameBut f (G y c e)⟩
  .obtain ⟨e,n,S,nf,d⟩:=I.pin p hp;exact ⟨(f.2 p.1 S).trans e,n,S,nf,d⟩
 .have F:X.fn x=true:=by
   rcases hf with z | z
   .exact z
   .rw [z] at D; cases D
  obtain ⟨c,t⟩:=I.ok.has x (.inl D);obtain ⟨T,z⟩:=I.cell x c t;refine wpAny_storeName_cell I.ok.kind D t z (fun K O f=>?_);obtain ⟨oc,R,L⟩:=id z;refine h { s with heap:=K } ⟨I.ok,I.os,I.bare,⟨fun b o e n J hx=>?_,fun b o e n J hx=>?_,I.base.free,fun b o e hx=>?_,I.base.tups,I.base.frzs,I.base.tbls⟩,⟨m,hn.sameBut f (Ne.symm (G x c t)),fun j y v' l C e3=>?_⟩,fun y U e=>?_,I.free,I.freeC,fun p hp=>?_,g ⟨oc,R,I.freeC x c t⟩ f,by simpa using I.len⟩ ⟨c,f,.inr t⟩
  .exact (f.2 b (bU (bV (bF e) (I.ok.cab x c F t)))).trans (I.base.keep b o e n J hx)
  .obtain ⟨sl,l⟩:=I.base.slot b o e n J hx;exact ⟨sl,(f.2 b (bU (bV (bF e) (I.ok.cab x c F t)))).trans l⟩
  .obtain ⟨W,l⟩:=I.base.there b o e hx;exact ⟨W,(f.2 b (bU (bV (bF e) (I.ok.cab x c F t)))).trans l⟩
  .by_cases hj:j=i
   .subst hj;rw [hi] at l; cases l;rw [List.getElem?_set_self hiσ] at C;cases C;exact ⟨u,r,.inr ⟨.inl D,c,t,O⟩⟩
   .rw [List.getElem?_set_ne (Ne.symm hj)] at C;obtain ⟨Y,r',q⟩:=hl j y v' l C e3;refine ⟨Y,r',?_⟩;rcases q with q | ⟨k,U,e,z'⟩
    .exact .inl q
    .refine .inr ⟨k,U,e,z'.sameBut f ?_⟩;rintro rfl;exact hj (ydy hN l (I.ok.inj _ _ _ e t ▸ hi))
  .by_cases hcc:U=c
   .subst hcc; exact ⟨_,O⟩
   .obtain ⟨w2,z2⟩:=I.cell y U e;exact ⟨w2,z2.sameBut f hcc⟩
  .obtain ⟨e,n,S,nf,d⟩:=I.pin p hp;refine ⟨(f.2 p.1 ?_).trans e,n,S,nf,d⟩;intro q;rw [q,R] at e;have q':oc=p.2:=bL e;exact d T (by rw [<- q']; exact L)
theorem ť {A:Around} {x:Str} {Q:Unit->Shared->Prop} (I:Inv X pins σ H s) (hN:X.N.Nodup) (hi:X.N[i]?=some x) (hx:Loc X.env.scope x) (r:xk v u)
  (h:∀ s',Inv X pins (σ.set i (some v)) H s'->Q () s') (hf:X.fn x=true\/X.env.scope.names.lookup x=some .local:=by first | exact .inl rfl | exact .inr rfl | assumption):wpAny M A (storeName X.env x u) Q E s :=
 θ I hN hi hx r (fun s' a _=>h s' a) hf
theorem Inv.call' {ch:List Addr} (I:Inv X pins σ H s) (ho:s'.os=s.os) (u:Un (frs X.stack) ch H H' s.heap s'.heap) (hok:HOk X.prog X.w H' s'.heap) (hg:AllBare s'.gens)
  (hch:∀ b∈ch,(b∈X.ex\/X.s₀.heap.objs.size <= b)/\b≠X.env.locals/\(∀ x c,X.env.cells.lookup x=some c->c≠b)/\∀ p∈X.pn++pins,p.1≠b):Inv X pins σ H' s':=by
 obtain ⟨d,g',d',t',a⟩:=s';have e:a=s.os:=ho;subst e;exact I.call (g':=g') (t':=t') (d':=d') u hok hg hch
end
abbrev XK:=Value->Option Addr->Hp->Prop
abbrev St:=List (Option V)
variable {σ:St}
abbrev VK:=V->Hp->Prop
abbrev TE:=St->Hp->VK->Prop
variable {ta te:TE}
abbrev TT:=St->Hp->(Bool->Hp->Prop)->Prop
abbrev TA:=St->Hp->(List V->Hp->Prop)->Prop
structure ŵ where
 nx:St->Hp->Prop
 rt:VK
 bk:St->Hp->Prop:=fun _ _=>False
 ct:St->Hp->Prop:=fun _ _=>False
abbrev TS:=ŵ->St->Hp->Prop
def EP (X:Cx) (pins:List (Addr × Obj)) (σ:St) (Q:VK) (u:Value) (s':Shared):Prop:=∃ v H',Inv X pins σ H' s'/\xk v u/\Q v H'
def TP (X:Cx) (pins:List (Addr × Obj)) (σ:St) (Q:Bool->Hp->Prop) (b:Bool) (s':Shared):Prop:=∃ H',Inv X pins σ H' s'/\Q b H'
def AP (X:Cx) (pins:List (Addr × Obj)) (σ:St) (Q:List V->Hp->Prop) (us:List Value) (s':Shared):Prop:=∃ vs H',Inv X pins σ H' s'/\wn vs us/\Q vs H'
def SP (X:Cx) (pins:List (Addr × Obj)) (D:ŵ) (f:Flow) (s':Shared):Prop :=
 match f with
 | .next=>∃ σ' H',Inv X pins σ' H' s'/\D.nx σ' H'
 | .brk=>∃ σ' H',Inv X pins σ' H' s'/\D.bk σ' H'
 | .cont=>∃ σ' H',Inv X pins σ' H' s'/\D.ct σ' H'
 | .ret u=>∃ v σ' H',Inv X pins σ' H' s'/\xk v u/\D.rt v H'
structure PE (X:Cx) (e:Expr) (t:TE):Prop where
 go:∀ (pins:List (Addr × Obj)) (s:Shared) (σ:St) (H:Hp) (Q:VK),Inv X pins σ H s->t σ H Q->wpAny (model X.prog X.w) X.A (eval e X.env) (EP X pins σ Q) X.xe s
instance {X:Cx} {e:Expr} {t:TE}:CoeFun (PE X e t) (fun _=>∀ (pins:List (Addr × Obj)) (s:Shared) (σ:St) (H:Hp) (Q:VK),Inv X pins σ H s->t σ H Q->wpAny (model X.prog X.w) X.A (eval e X.env) (EP X pins σ Q) X.xe s):=⟨PE.go⟩
structure PT (X:Cx) (e:Expr) (t:TT):Prop where
 go:∀ (pins:List (Addr × Obj)) (s:Shared) (σ:St) (H:Hp) (Q:Bool->Hp->Prop),Inv X pins σ H s->t σ H Q->wpAny (model X.prog X.w) X.A (isTrue e X.env (eval e X.env)) (TP X pins σ Q) X.xe s
instance {X:Cx} {e:Expr} {t:TT}:CoeFun (PT X e t) (fun _=>∀ (pins:List (Addr × Obj)) (s:Shared) (σ:St) (H:Hp) (Q:Bool->Hp->Prop),Inv X pins σ H s->t σ H Q->wpAny (model X.prog X.w) X.A (isTrue e X.env (eval e X.env)) (TP X pins σ Q) X.xe s):=⟨PT.go⟩
def PW (X:Cx) (e:Expr) (t:TT):Prop :=
 ∀ (whole:Sem Value) (pins:List (Addr × Obj)) (s:Shared) (σ:St) (H:Hp) (Q:Bool->Hp->Prop),Inv X pins σ H s->t σ H Q->wpAny (model X.prog X.w) X.A (isTrue e X.env whole) (TP X pins σ Q) X.xe s
theorem PW.pt {t:TT} (h:PW X e t):PT X e t:=⟨h _⟩
structure PA (X:Cx) (es:List Expr) (t:TA):Prop where
 go:∀ (pos:Pos) (pins:List (Addr × Obj)) (s:Shared) (σ:St) (H:Hp) (Q:List V->Hp->Prop),Inv X pins σ H s->t σ H Q->wpAny (model X.prog X.w) X.A (spliced (backTo pos (starEach es X.env))) (AP X pins σ Q) X.xe s
instance {X:Cx} {es:List Expr} {t:TA}:CoeFun (PA X es t) (fun _=>∀ (pos:Pos) (pins:List (Addr × Obj)) (s:Shared) (σ:St) (H:Hp) (Q:List V->Hp->Prop),Inv X pins σ H s->t σ H Q->wpAny (model X.prog X.w) X.A (spliced (backTo pos (starEach es X.env))) (AP X pins σ Q) X.xe s):=⟨PA.go⟩
structure PS (X:Cx) (st:Stmt) (t:TS):Prop where
 go:∀ (pins:List (Addr × Obj)) (s:Shared) (σ:St) (H:Hp) (D:ŵ),Inv X pins σ H s->t D σ H->wpAny (model X.prog X.w) X.A (exec st X.env) (SP X pins D) X.xe s
instance {X:Cx} {st:Stmt} {t:TS}:CoeFun (PS X st t) (fun _=>∀ (pins:List (Addr × Obj)) (s:Shared) (σ:St) (H:Hp) (D:ŵ),Inv X pins σ H s->t D σ H->wpAny (model X.prog X.w) X.A (exec st X.env) (SP X pins D) X.xe s):=⟨PS.go⟩
structure PSs (X:Cx) (st:List Stmt) (t:TS):Prop where
 go:∀ (pins:List (Addr × Obj)) (s:Shared) (σ:St) (H:Hp) (D:ŵ),Inv X pins σ H s->t D σ H->wpAny (model X.prog X.w) X.A (execs st X.env) (SP X pins D) X.xe s
instance {X:Cx} {st:List Stmt} {t:TS}:CoeFun (PSs X st t) (fun _=>∀ (pins:List (Addr × Obj)) (s:Shared) (σ:St) (H:Hp) (D:ŵ),Inv X pins σ H s->t D σ H->wpAny (model X.prog X.w) X.A (execs st X.env) (SP X pins D) X.xe s):=⟨PSs.go⟩
theorem thn {α:Type} {t:Sem α} {Q Q':α->Shared->Prop} {A:Around} {s:Shared} (h:wpAny M A t Q E s) (hQ:∀ a s,Q a s->Q' a s):wpAny M A t Q' E s:=cR h hQ fun _ _ x=>x
section
def vah (i:Nat):TE:=fun σ H Q=>∃ v,σ[i]?=some (some v)/\Q v H
def tC (v:V):TE:=fun _ H Q=>Q v H
theorem ytp {x:Str} {pos:Pos} (hN:X.N[i]?=some x) (hv:Vis X.env.scope x) (hd:(x == ("__debug__":Str))=false:=by decide) (hcd:(x == ("__classdict__":Str))=false:=by decide):PE X (.Name x pos) (vah i):=by
 refine .mk fun f s σ H Q I h=>?_;obtain ⟨v,e,h⟩:=h;obtain ⟨m,k,n⟩:=I.loc;obtain ⟨u,r,l⟩:=n i x v hN e hv;have d:EP X f σ Q u s:=⟨v,H,I,r,h⟩;rcases l with ⟨b,j⟩ | ⟨b,c,g,a⟩
 .exact wpAny_Name (wpAny_loadName_local I.ok.kind b k j d) hd
 .rcases b with b | b
  .exact wpAny_Name (wpAny_loadName_cell I.ok.kind b g a d) hd
  .exact wpAny_Name (wpAny_loadName_free I.ok.kind b g a d hcd) hd
theorem yg {i j pos}:PE X (.Constant (.int i) j pos) (tC (.int i)):=.mk fun _ _ _ H _ I h=>wpAny_Constant_int ⟨.int i,H,I.tok _,⟨_,rfl⟩,h⟩
theorem ycl {b j pos}:PE X (.Constant (.bool b) j pos) (tC (.bl b)):=.mk fun _ _ _ H _ I h=>Constant_bool ⟨.bl b,H,I,rfl,h⟩
theorem jd {j pos}:PE X (.Constant .none j pos) (tC .non):=.mk fun _ _ _ H _ I h=>Constant_none ⟨.non,H,I,rfl,h⟩
theorem xm {x j pos}:PE X (.Constant (.str x) j pos) (tC (.str x)):=.mk fun _ _ _ H _ I h=>Calls.Constant_str ⟨.str x,H,I.tok _,⟨_,rfl⟩,h⟩
def Gl (X:Cx) (x:Str):Prop:=X.env.kindOf x=some .globalImplicit
theorem j9 {s:Shared} {x:Str} {pos:Pos} (I:Inv X pins σ H s) (hg:Gl X x) (hm:X.mg x=some u) (h:Q u s)
  (hd:(x == ("__debug__":Str))=false:=by decide):wpAny (model X.prog X.w) X.A (eval (.Name x pos) X.env) Q E s :=
 Calls.Name_function_global I.ok.kind hg (Calls.loadGlobal_global (by rw [I.ok.glob]; exact I.mod.glob.keeps I.bk) hm h) hd
theorem ē {s:Shared} {x:Str} {pos:Pos} (I:Inv X pins σ H s) (hg:Gl X x) (hm:X.mg x=none) (hv:bootBuiltins x=some u) (h:Q u s)
  (hn:x≠"__name__":=by decide) (hd:(x == ("__debug__":Str))=false:=by decide):wpAny (model X.prog X.w) X.A (eval (.Name x pos) X.env) Q E s:=by
 obtain ⟨c,b,a⟩:=I.mod.blt;exact Calls.Name_function_global I.ok.kind hg (Calls.loadGlobal_builtin (by rw [I.ok.glob]; exact I.mod.glob.keeps I.bk) hm (by rw [I.ok.blt]; exact b.keeps I.bk) ((a x hn).trans hv) h) hd
theorem yci {x:Str} {pos:Pos} (hg:Gl X x) (hm:X.mg x=some u) (r:xk v u) (hd:(x == ("__debug__":Str))=false:=by decide):PE X (.Name x pos) (tC v):=.mk
 fun _ _ _ H _ I h=>j9 I hg hm ⟨v,H,I,r,h⟩ hd
theorem yns {x:Str} {pos:Pos} (hg:Gl X x) (hm:X.mg x=none) (hv:bootBuiltins x=some u) (r:xk v u) (hn:x≠"__name__":=by decide) (hd:(x == ("__debug__":Str))=false:=by decide):PE X (.Name x pos) (tC v):=.mk
 fun _ _ _ H _ I h=>ē I hg hm hv ⟨v,H,I,r,h⟩ hn hd
variable {a b:Expr} {tb:TE} {pos:Pos}
def PC (X:Cx) (op:CmpOp) (a b:Expr) (t:TE):Prop :=
 ∀ (pins:List (Addr × Obj)) (s:Shared) (σ:St) (H:Hp) (Q:VK),Inv X pins σ H s->t σ H Q ->
  wpAny (model X.prog X.w) X.A (eval a X.env) (fun v s₁=>wpAny (model X.prog X.w) X.A (eval b X.env) (fun u s₂=>wpAny (model X.prog X.w) X.A (compareOp op v u) (EP X pins σ Q) X.xe s₂) X.xe s₁) X.xe s
def tB (t:TE):TT:=fun σ H Q=>t σ H fun x H1=>∃ c,x=.bl c/\Q c H1
theorem yh9 {t:TE} (h:PC X op a b t) (h1:behindInMarks op b=false:=by first | exact nobehind _ (by decide) (by decide) | rfl):PT X (.Compare a [op] [b] pos) (tB t):=by
 refine .mk fun e s σ H Q I i=>?_;refine wpAny_isTrue_Compare1 (thn (h e s σ H _ I i) fun v m h1=>thn h1 fun u n l=>thn l fun c o h'=>?_) h1;obtain ⟨x,g,j,k,f⟩:=h';obtain ⟨d,rfl,q⟩:=f;cases k;exact cJ ⟨g,j,q⟩
theorem xj {t:TE} (h:PE X e t) (he:∀ whole,isTrue e X.env whole=(do let v <- whole; standAt e.pos; holding [v] (truthy v)):=by intro _; rfl):PT X e (tB t):=by
 refine .mk fun a s σ H Q I f=>?_;refine isTrue_plain (thn (h a s σ H _ I f) fun v j h'=>?_) (he _);obtain ⟨x,c,g,i,b⟩:=h';obtain ⟨d,rfl,q⟩:=b;cases i;exact cJ ⟨c,g,q⟩
variable {tA tB':TT} {â:List Expr}
def vax (t u:TT):TT:=fun σ H Q=>t σ H fun c H1=>if c=true then u σ H1 Q else Q false H1
def tOr (t u:TT):TT:=fun σ H Q=>t σ H fun c H1=>if c=true then Q true H1 else u σ H1 Q
def vaz (t:TT):TT:=fun σ H Q=>t σ H fun c H1=>Q (!c) H1
theorem yck (ha:PT X a tA):PW X (.BoolOp .And [a] pos) tA:=by
 intro f b s σ H Q I h;refine isTrue_and (thn (ha b s σ H Q I h) fun c d e=>?_)
 cases c with
 | true=>exact isTrue_and_nil e
 | false=>exact e
theorem χ (ha:PT X a tA):PW X (.BoolOp .Or [a] pos) tA:=by
 intro f b s σ H Q I h;refine isTrue_or (thn (ha b s σ H Q I h) fun c d e=>?_)
 cases c with
 | false=>exact isTrue_or_nil e
 | true=>exact e
theorem yib (ha:PT X a tA) (hb:PW X (.BoolOp .And (b :: â) pos) tB'):PW X (.BoolOp .And (a :: b :: â) pos) (vax tA tB'):=by
 intro j d s σ H Q I h;refine isTrue_and (thn (ha d s σ H _ I h) fun c i ⟨f,g,e⟩=>?_)
 cases c with
 | true=>exact hb j d i σ f Q g e
 | false=>exact ⟨f,g,e⟩
theorem À (ha:PT X a tA) (hb:PW X (.BoolOp .Or (b :: â) pos) tB'):PW X (.BoolOp .Or (a :: b :: â) pos) (tOr tA tB'):=by
 intro j d s σ H Q I h;refine isTrue_or (thn (ha d s σ H _ I h) fun c i ⟨f,g,e⟩=>?_)
 cases c with
 | true=>exact ⟨f,g,e⟩
 | false=>exact hb j d i σ f Q g e
theorem xr (ha:PT X a tA):PT X (.UnaryOp .Not a pos) (vaz tA):=by
 refine .mk fun b s σ H Q I h=>?_;exact isTrue_not (ha b s σ H (fun c d=>Q (!c) d) I h)
def yxo (ta tb:TE):TE:=fun σ H Q=>ta σ H fun x H1=>∃ c,x=.bl c/\if c=true then tb σ H1 Q else Q (.bl false) H1
def yxv (ta:TE):TE:=fun σ H Q=>ta σ H fun x H1=>∃ c,x=.bl c/\Q (.bl (!c)) H1
theorem zt {op} {t:TE} (h:PE X a t):PE X (.BoolOp op [a] pos) t:=.mk fun b s σ H Q I c=>BoolOp_one (h b s σ H Q I c)
theorem ue (ha:PE X a ta) (hb:PE X (.BoolOp .And (b :: â) pos) tb):PE X (.BoolOp .And (a :: b :: â) pos) (yxo ta tb):=by
 refine .mk fun d s σ H Q I h=>?_;refine BoolOp_and (thn (ha d s σ H _ I h) fun v i h'=>?_);obtain ⟨x,f,g,j,e⟩:=h';obtain ⟨c,rfl,e⟩:=e;cases j;refine cJ ?_
 cases c with
 | true=>exact hb d i σ f Q g e
 | false=>exact ⟨.bl false,f,g,rfl,e⟩
theorem ymo (ha:PE X a ta):PE X (.UnaryOp .Not a pos) (yxv ta):=by
 refine .mk fun b s σ H Q I h=>?_;refine UnaryOp_ (thn (ha b s σ H _ I h) fun v i h'=>?_);obtain ⟨x,e,f,g,d⟩:=h';obtain ⟨c,rfl,d⟩:=d;cases g;exact not_of (cJ ⟨.bl (!c),e,f,rfl,d⟩)
def tIf (t:TT) (ta tb:TE):TE:=fun σ H Q=>t σ H fun c H1=>if c=true then ta σ H1 Q else tb σ H1 Q
theorem μ (hc:PT X c tA) (ha:PE X a ta) (hb:PE X b tb):PE X (.IfExp c a b pos) (tIf tA ta tb):=by
 refine .mk fun e s σ H Q I h=>?_;refine wpAny_IfExp (thn (hc e s σ H _ I h) fun d f ⟨i,j,g⟩=>?_)
 cases d with
 | true=>exact ha e f σ i Q j g
 | false=>exact hb e f σ i Q j g
end
def SqL (K:W.Frag) (H:Hp) (a:Addr) (xs:List V):Prop :=
 Rd H a (.lst xs) \/
  ∃ (o:Obj) (its:Array Value) (n:Nat),K.lookup a=some o/\o.cls=.type "list"/\o.dict=none/\o.data=.seq its n/\its.size <= sizeLine/\wn xs its.toList
def SqT (K:W.Frag) (H:Hp) (a:Addr) (xs:List V):Prop :=
 Rd H a (.tup xs) \/
  ∃ (o:Obj) (its:Array Value) (n:Nat),K.lookup a=some o/\o.cls=.type "tuple"/\o.data=.seq its n/\its.size <= sizeLine/\wn xs its.toList
def vbr:Value->Option V
 | .none=>some .non
 | .bool b=>some (.bl b)
 | .int i _=>some (.int i)
 | .str x _=>some (.str x)
 | .bytes b _=>some (.byt b)
 | .float b _=>some (.flt b)
 | .ref a=>some (.ref a)
 | .type n=>some (.ty n)
 | _=>none
theorem xk.abs {x:V} (r:xk x u):vbr u=some x:=by
 cases x with
 | non=>cases r; rfl
 | bl _=>cases r; rfl
 | int _=>obtain ⟨t,rfl⟩:=r; rfl
 | str _=>obtain ⟨t,rfl⟩:=r; rfl
 | byt _=>obtain ⟨t,rfl⟩:=r; rfl
 | flt _=>obtain ⟨t,rfl⟩:=r; rfl
 | ref _=>cases r; rfl
 | ty _=>cases r; rfl
theorem xk.inj {x:V} (r:xk x u) (q:xk y u):x=y:=bL (r.abs.symm.trans q.abs)
theorem wn.inj:∀ {xs ys:List V} {us:List Value},wn xs us->wn ys us->xs=ys
 | _,_,_,.nil,.nil=>rfl
 | _,_,_,.cons r t,.cons r' t'=>by rw [r.inj r',wn.inj t t']
section
variable {s:Shared} {ys:List V}
theorem SqL.of {K:W.Frag} (h:H a=some (.lst xs)):SqL K H a xs:=.inl (.inl h)
theorem SqT.of {K:W.Frag} (h:H a=some (.tup xs)):SqT K H a xs:=.inl (.inl h)
theorem Inv.list (I:Inv X pins σ H s) (h:SqL X.K H a xs):∃ its:List Value,wn xs its/\PlainL s.heap a its.toArray/\xs.length <= sizeLine:=by
 rcases h with h | ⟨o,its,n,b,f,c,d,g,r⟩
 .obtain ⟨z,its,n,r,e⟩:=h.ok I.hok;exact ⟨its,r,⟨_,n,e,rfl,rfl,rfl⟩,z⟩
 .refine ⟨its.toList,r,⟨o,n,I.kIn a o b,f,c,by simpa using d⟩,?_⟩;have e:=r.length;simp only [cB] at e;omega
theorem Inv.tuple (I:Inv X pins σ H s) (h:SqT X.K H a xs):∃ its:List Value,wn xs its/\IsTup s.heap a its.toArray/\xs.length <= sizeLine:=by
 rcases h with h | ⟨o,its,n,b,c,d,f,r⟩
 .obtain ⟨z,its,r,p⟩:=h.ok I.hok;exact ⟨its,r,p,z⟩
 .refine ⟨its.toList,r,⟨o,I.kIn a o b,c,n,by simpa using d⟩,?_⟩;have e:=r.length;simp only [cB] at e;omega
theorem Inv.list_inj (I:Inv X pins σ H s) (h:SqL X.K H a xs) (h':SqL X.K H a ys):xs=ys:=by
 obtain ⟨c,r,⟨o,n,e,_,_,d⟩,_⟩:=I.list h;obtain ⟨b,i,⟨j,k,g,_,_,f⟩,_⟩:=I.list h';rw [e] at g; cases g;rw [d] at f;injection f with d1 _;have:c=b:=by simpa using congrArg Array.toList d1
 subst this;exact r.inj i
theorem Inv.tuple_inj (I:Inv X pins σ H s) (h:SqT X.K H a xs) (h':SqT X.K H a ys):xs=ys:=by
 obtain ⟨c,r,⟨o,e,_,n,d⟩,_⟩:=I.tuple h;obtain ⟨b,i,⟨j,g,_,k,f⟩,_⟩:=I.tuple h';rw [e] at g; cases g;rw [d] at f;injection f with d1 _;have:c=b:=by simpa using congrArg Array.toList d1
 subst this;exact r.inj i
end
abbrev Cx.wish (X:Cx) (E:Value->Shared->Prop):Cx:={ X with xe:=E }
abbrev Cx.nox (X:Cx):Cx:=X.wish fun _ _=>False
theorem Cx.Ok.wish (ok:X.Ok) (E:Value->Shared->Prop):(X.wish E).Ok :=
 ⟨ok.mod,ok.kind,ok.glob,ok.blt,ok.above,ok.inj,ok.has,ok.cab,ok.hd,ok.frames,ok.stk,ok.exf,ok.bs,ok.bsz,ok.noex,ok.exfs,ok.funs,ok.frf⟩
theorem Cx.Ok.unwish (ok:(X.wish E).Ok):X.Ok :=
 ⟨ok.mod,ok.kind,ok.glob,ok.blt,ok.above,ok.inj,ok.has,ok.cab,ok.hd,ok.frames,ok.stk,ok.exf,ok.bs,ok.bsz,ok.noex,ok.exfs,ok.funs,ok.frf⟩
section
variable {s:Shared}
theorem Inv.wish (I:Inv X pins σ H s) (E:Value->Shared->Prop):Inv (X.wish E) pins σ H s:=⟨I.ok.wish E,I.os,I.bare,I.base,I.loc,I.cell,I.free,I.freeC,I.pin,I.hok,I.len⟩
theorem Inv.unwish (I:Inv (X.wish E) pins σ H s):Inv X pins σ H s:=⟨I.ok.unwish,I.os,I.bare,I.base,I.loc,I.cell,I.free,I.freeC,I.pin,I.hok,I.len⟩
theorem SP.unwish {D:ŵ} {f:Flow} (h:SP (X.wish E) pins D f s'):SP X pins D f s':=by
 cases f with
 | next=>obtain ⟨σ',a,I,q⟩:=h; exact ⟨σ',a,I.unwish,q⟩
 | brk=>obtain ⟨σ',a,I,q⟩:=h; exact ⟨σ',a,I.unwish,q⟩
 | cont=>obtain ⟨σ',a,I,q⟩:=h; exact ⟨σ',a,I.unwish,q⟩
 | ret u=>obtain ⟨v,σ',a,I,r,q⟩:=h; exact ⟨v,σ',a,I.unwish,r,q⟩
theorem PSs.nox {st:List Stmt} {t:TS} (h:PSs X.nox st t):PSs X st t:=.mk fun a s σ H D I b =>
 cR (h a s σ H D (I.wish _) b) (fun _ _ q=>q.unwish) fun _ _ z=>False.elim z
end
section
variable {st:Stmt} {â:List Stmt} {t u:TS} {pos:Pos}
def yxz:TS:=fun D σ H=>D.nx σ H
def vaj (t u:TS):TS:=fun D σ H=>t { D with nx:=u D } σ H
theorem y9:PSs X [] yxz:=.mk fun _ _ σ H _ I h=>wpAny_execs_nil ⟨σ,H,I,h⟩
theorem yi (h1:PS X st t) (h2:PSs X â u):PSs X (st :: â) (vaj t u):=by
 refine .mk fun a s σ H D I h=>?_;refine wpAny_execs_cons (thn (h1 a s σ H { D with nx:=u D } I h) fun f b q=>?_)
 cases f with
 | next =>
  obtain ⟨σ',d,c,q⟩:=q;exact h2 a b σ' d D c q
 | ret v=>exact q
 | brk=>exact q
 | cont=>exact q
theorem yf (h1:PS X st t):PSs X [st] t:=by
 refine .mk fun a s σ H D I h=>?_;refine wpAny_execs_cons (thn (h1 a s σ H D I h) fun f b q=>?_)
 cases f with
 | next=>exact wpAny_execs_nil q
 | ret v=>exact q
 | brk=>exact q
 | cont=>exact q
theorem Inv.quiet {s:Shared} (I:Inv X pins σ H s):interactive X.env=false:=by simp [interactive,I.ok.kind]
def yxc (te:TE):TS:=fun D σ H=>te σ H fun _ H1=>D.nx σ H1
theorem yw (he:PE X e te) (hs:swapsWith e none pos.line X.env=pure false:=by rfl):PS X (.Expr e pos) (yxc te):=by
 refine .mk fun a s σ H D I h=>?_;exact wpAny_Expr_any (thn (he a s σ H _ I h) fun v f ⟨x,c,d,g,b⟩=>⟨σ,c,d,b⟩) I.quiet hs
def vay (te:TE):TS:=fun D σ H=>te σ H D.rt
theorem yu (he:PE X e te):PS X (.Return (some e) pos) (vay te):=by
 refine .mk fun a s σ H D I h=>?_;exact wpAny_Return_some (thn (he a s σ H _ I h) fun v g ⟨x,c,d,f,b⟩=>⟨x,σ,c,d,f,b⟩)
def yx4 (c:TT) (t u:TS):TS:=fun D σ H=>c σ H fun b H1=>if b=true then t D σ H1 else u D σ H1
theorem wb {a b:List Stmt} {tc:TT} (hc:PT X c tc) (ha:PSs X a t) (hb:PSs X b u):PS X (.If c a b pos) (yx4 tc t u):=by
 refine .mk fun e s σ H D I h=>?_;refine wpAny_If (thn (hc e s σ H _ I h) fun d f ⟨i,j,g⟩=>?_)
 cases d with
 | true=>exact ha e f σ i D j g
 | false=>exact hb e f σ i D j g
def yth:TS:=fun _ _ _=>False
theorem yjc:PS X st yth:=.mk fun _ _ _ _ _ _ h=>h.elim
end
abbrev TG:=V->St->Hp->(St->Hp->Prop)->Prop
abbrev TGs:=List V->St->Hp->(St->Hp->Prop)->Prop
def PG (X:Cx) (target:Expr) (t:TG):Prop :=
 ∀ (pins:List (Addr × Obj)) (s:Shared) (σ:St) (H:Hp) (v:V) (u:Value) (Q:St->Hp->Prop),Inv X pins σ H s->xk v u->t v σ H Q ->
  wpAny (model X.prog X.w) X.A (assign target X.env u) (fun _ s'=>∃ σ' H',Inv X pins σ' H' s'/\Q σ' H') X.xe s
def PGs (X:Cx) (ts:List Expr) (t:TGs):Prop :=
 ∀ (pins:List (Addr × Obj)) (s:Shared) (σ:St) (H:Hp) (vs:List V) (us:List Value) (Q:St->Hp->Prop),Inv X pins σ H s->wn vs us->t vs σ H Q ->
  wpAny (model X.prog X.w) X.A (assignInOrder ((assignEach ts X.env).map (·.2)) us) (fun _ s'=>∃ σ' H',Inv X pins σ' H' s'/\Q σ' H') X.xe s
abbrev yyh:=V->V->V->Hp->(Hp->Prop)->Prop
def va3 (X:Cx) (t:yyh):Prop :=
 ∀ (pins:List (Addr × Obj)) (s:Shared) (σ:St) (H:Hp) (o i v:V) (ov iv u:Value) (Q:Hp->Prop),Inv X pins σ H s->xk o ov->xk i iv->xk v u->t o i v H Q ->
  wpAny (model X.prog X.w) X.A (setItem ov iv u) (fun _ s'=>∃ H',Inv X pins σ H' s'/\Q H') X.xe s
section
variable {pos:Pos}
def w6 (i:Nat):TG:=fun v σ H Q=>Q (σ.set i (some v)) H
theorem wo {x:Str} (hN:X.N.Nodup) (hi:X.N[i]?=some x) (hx:Loc X.env.scope x) (hf:X.fn x=true\/X.env.scope.names.lookup x=some .local:=by first | exact .inl rfl | exact .inr rfl | assumption):PG X (.Name x pos) (w6 i):=by
 intro a s σ H v u Q I r h;exact wpAny_assign_Name (ť I hN hi hx r (fun c b=>⟨_,H,b,h⟩) hf)
def ykz:TGs:=fun vs σ H Q=>vs=[]/\Q σ H
def jp (t:TG) (u:TGs):TGs:=fun vs σ H Q=>∃ v r,vs=v :: r/\t v σ H fun σ' H'=>u r σ' H' Q
theorem ũ:PGs X [] ykz:=by
 intro a s σ H c b Q I r h;obtain ⟨e,h⟩:=h;subst e;cases r;exact assignInOrder_nil ⟨σ,H,I,h⟩
theorem uq {t:TG} {u:TGs} (h1:PG X e t) (h2:PGs X es u)
  (hs:(assignEach (e :: es) X.env).map (·.2)=assign e X.env :: (assignEach es X.env).map (·.2):=by rfl):PGs X (e :: es) (jp t u):=by
 intro a s σ H j i Q I r h;obtain ⟨v,k,d,h⟩:=h;subst d
 cases r with
 | cons r rr =>
  rw [hs];refine assignInOrder_cons (thn (h1 a s σ H _ _ _ I r h) fun _ b ⟨σ1,f,g,c⟩=>?_);exact h2 a b σ1 f _ _ Q g rr c
def ysa (K:W.Frag) (n:Nat) (t:TGs):TG:=fun v σ H Q=>∃ a xs,v=.ref a/\SqT K H a xs/\xs.length=n/\t xs σ H Q
theorem yei {k:Nat} {t:TGs} {n:Nat} (hc:X.calm=true) (h:PGs X es t)
  (hn:(assignEach es X.env).length=n:=by rfl) (hst:(assignEach es X.env).findIdx? (·.1)=none:=by rfl):PG X (.Tuple es k pos) (ysa X.K n t):=by
 intro c s σ H v u Q I r d;obtain ⟨a,q,j,x,l,d⟩:=d;subst j;cases r;obtain ⟨g,f,i,y⟩:=I.tuple x;refine assign_Tuple_tuple (I.ok.hd hc) i (by simp [hn,<- l,f.length]) hst fun w p=>?_;have m:Inv X c σ H { s with heap:=w }:=I.kept (t':=s.toks) fun b o e=>p b o (bU (bF e)) e;exact h c _ σ H q _ Q m (by simpa using f) d
def vas (to ti:TE) (t:yyh):TG:=fun v σ H Q=>to σ H fun o H1=>ti σ H1 fun i H2=>t o i v H2 fun H3=>Q σ H3
theorem yvw {o i:Expr} {to ti:TE} {t:yyh} (ho:PE X o to) (hi:PE X i ti) (hs:va3 X t)
  (ha:∀ v,assign (.Subscript o i pos) X.env v=(do
   let ov <- holding [v] (eval o X.env)
   let iv <- holding [v,ov] (eval i X.env)
   standAt pos
   holding [v,ov,iv] (setItem ov iv v)
   release [v,ov,iv] []):=by intro _; rfl):PG X (.Subscript o i pos) (vas to ti t):=by
 intro a s σ H v u Q I r h;rw [ha];refine bw (wpAny_holding (thn (ho a s σ H _ I h) fun ov c h'=>?_));obtain ⟨x,k,m,n,e⟩:=h';refine bw (wpAny_holding (thn (hi a c σ k _ m e) fun iv f h'=>?_));obtain ⟨y,l,d,g,j⟩:=h';refine bw (wpAny_standAt (bw (wpAny_holding (thn (hs a f σ l x y v ov iv u _ d n g r j) fun _ w ⟨p,q,b⟩=>?_))));exact wpAny_release ⟨σ,p,q,b⟩
def ysc (te:TE) (g:TG):TS:=fun D σ H=>te σ H fun x H1=>g x σ H1 D.nx
theorem yln {g:TG} (he:PE X e te) (hg:PG X tg g) (hs:swapsWithSole [tg] e pos.line X.env=pure false:=by rfl) (hw:swappedStores [tg] e X.env=pure none:=by rfl)
  (h1:(assignEach [tg] X.env).map (·.2)=[assign tg X.env]:=by rfl):PS X (.Assign [tg] e pos) (ysc te g):=by
 refine .mk fun a s σ H D I h=>?_;refine wpAny_Assign_stores (thn (he a s σ H _ I h) fun v b h'=>?_) hs hw;obtain ⟨x,d,f,i,c⟩:=h';rw [h1];exact thn (hg a b σ d x v _ f i c) fun _ j q=>q
theorem yt {x:Str} {pos':Pos} (hN:X.N.Nodup) (hi:X.N[i]?=some x) (hx:Loc X.env.scope x) (he:PE X e te) (hs:swapsWith e (some (.Name x pos')) pos.line X.env=pure false:=by rfl) (hf:X.fn x=true\/X.env.scope.names.lookup x=some .local:=by first | exact .inl rfl | exact .inr rfl | assumption) :
  PS X (.Assign [.Name x pos'] e pos) (ysc te (w6 i)):=by
 refine .mk fun a s σ H D I h=>?_;refine wpAny_Assign_Name (thn (he a s σ H _ I h) fun v j h'=>?_) hs;obtain ⟨y,d,f,g,b⟩:=h';exact ť f hN hi hx g (fun k c=>⟨_,d,c,b⟩) hf
end
section
variable {pos:Pos}
def yvm (c:TT) (tb:TS):TS:=fun D σ H=>∃ W:Nat->St->Hp->Prop,(∃ m,W m σ H)/\∀ m σ H,W m σ H ->
 c σ H fun b H1=>if b=true then ∃ N:St->Hp->Prop,(∀ σ' H',N σ' H'->∃ m',m' < m/\W m' σ' H')/\tb { D with nx:=N,ct:=N,bk:=D.nx } σ H1 else D.nx σ H1
theorem zk {tc:TT} {tb:TS} (hp:PassesOwn (model X.prog X.w) X.A X.env X.xe) (hc:PT X c tc) (hb:PSs X body tb):PS X (.While c body [] pos) (yvm tc tb):=by
 refine .mk fun a s σ H D I h=>?_;obtain ⟨W,⟨z,B⟩,e⟩:=h;refine wpAny_While (codeAny_whileLoop (fun n x=>∃ σ' H',Inv X a σ' H' x/\W n σ' H') ?_ z ⟨σ,H,I,B⟩);rintro n u ⟨σ1,t,E,y⟩;refine wpAny_passesOwn hp (thn (hc a u σ1 t _ E (e n σ1 t y)) fun b C ⟨r,p,g⟩=>?_)
 cases b with
 | true =>
  obtain ⟨N,q,g⟩:=g;rw [if_pos rfl];refine wpAny_passesOwn hp (thn (hb a C σ1 r _ p g) fun f F i=>?_)
  cases f with
  | next =>
   obtain ⟨σ3,d,l,k⟩:=i;obtain ⟨j,o,m⟩:=q σ3 d k;exact ⟨j,o,σ3,d,l,m⟩
  | cont =>
   obtain ⟨σ3,d,l,k⟩:=i;obtain ⟨j,o,m⟩:=q σ3 d k;exact ⟨j,o,σ3,d,l,m⟩
  | brk=>exact i
  | ret v=>exact i
 | false =>
  rw [if_neg bK];exact wpAny_execs_nil ⟨σ1,r,p,g⟩
end
structure It where
 go:Nat->Hp->Prop
 yld:Nat->Hp->V->Hp->Prop
 stop:Nat->Hp->Prop
def ycp (X:Cx) (pins:List (Addr × Obj)) (H:Hp) (b:Addr):Prop :=
 H b=none/\b≠X.env.locals/\b∉X.fs/\(b∈X.ex\/X.s₀.heap.objs.size <= b)/\(∀ x c,X.env.cells.lookup x=some c->c≠b)/\∀ p∈X.pn++pins,p.1≠b
theorem Inv.fpOk {s:Shared} {b:Addr} (I:Inv X pins σ H s) (hb:s.heap.objs.size <= b) (hn:H' b=none):ycp X pins H' b:=by
 refine ⟨hn,Nat.ne_of_gt (bV I.lt hb),I.nofs hb,.inr (cc I.sz hb),fun x c e z=>?_,fun p a z=>?_⟩
 .obtain ⟨v,q⟩:=I.cell x c e;exact absurd (bV q.lt (by rw [z]; exact hb)) (cS _)
 .exact absurd (bV (bF (I.pin p a).1) (by rw [z]; exact hb)) (cS _)
structure yi6 (P:Program) (w:World) (K:W.Frag) (tg:Expr) (J:It) (fp:List Addr) (it:Addr) (tn:Nat->Heap->Prop):Prop where
 mem:it∈fp
 obj:∀ i h,tn i h->∀ b∈fp,∃ o,h.get? b=some o/\∀ v,o.data≠.cell v
 keep:∀ i h h',tn i h->(∀ b∈fp,∀ o,h.get? b=some o->h'.get? b=some o)->tn i h'
 item:∀ (X:Cx),X.prog=P->X.w=w->X.K=K->X.calm=true->∀ (i:Nat) (pins:List (Addr × Obj)) (s:Shared) (σ:St) (H:Hp) (E:Value->Shared->Prop),Inv X pins σ H s->(∀ b∈fp,ycp X pins H b)->tn i s.heap->J.go i H ->
  wpAny (model P w) X.A (pyNext (.ref it)) (fun r s1=>∃ u,r=some u /\
   wpAny (model P w) X.A (letOwnedTupleGo tg (.ref it) u) (fun _ s2=>∃ x H',Inv X pins σ H' s2/\xk x u/\J.yld i H x H'/\tn (i+1) s2.heap/\∀ b∈fp,H' b=none) E s1) E s
 done:∀ (X:Cx),X.prog=P->X.w=w->X.K=K->X.calm=true->∀ (i:Nat) (pins:List (Addr × Obj)) (s:Shared) (σ:St) (H:Hp) (E:Value->Shared->Prop),Inv X pins σ H s->(∀ b∈fp,ycp X pins H b)->tn i s.heap->J.stop i H ->
  wpAny (model P w) X.A (pyNext (.ref it)) (fun r s1=>r=none/\Inv X pins σ H s1) E s
 self:∀ (A:Around) (i:Nat) (s:Shared) (Q:Value->Shared->Prop) (E:Value->Shared->Prop),tn i s.heap->Q (.ref it) s->wpAny (model P w) A (pyIter (.ref it)) Q E s
abbrev TI:=St->Hp->(It->Hp->Prop)->Prop
def PIE (X:Cx) (pins:List (Addr × Obj)) (σ:St) (tg:Expr) (R:It->Hp->Prop) (itv:Value) (s2:Shared):Prop :=
 ∃ (it:Addr) (fp:List Addr) (tn:Nat->Heap->Prop) (J:It) (H':Hp),itv=.ref it/\Inv X pins σ H' s2/\yi6 X.prog X.w X.K tg J fp it tn/\tn 0 s2.heap/\(∀ b∈fp,ycp X pins H' b)/\R J H'
def PI (X:Cx) (tg iter:Expr) (wi:TI):Prop :=
 ∀ (pins:List (Addr × Obj)) (s:Shared) (σ:St) (H:Hp) (R:It->Hp->Prop),Inv X pins σ H s->wi σ H R ->
  wpAny (model X.prog X.w) X.A (eval iter X.env) (fun v s1=>wpAny (model X.prog X.w) X.A (pyIter v) (PIE X pins σ tg R) X.xe s1) X.xe s
theorem yku {A:Around} {s:Shared} {it:Addr} {o:Obj} {n:String} {vs:Array Value} {Q:Unit->Shared->Prop} (ho:s.heap.get? it=some o) (hc:o.cls=.type n) (hd:o.data=.fields vs)
  (hn:["enumerate","zip","dict_itemiterator","dict_reverseitemiterator","odict_iterator","itertools.zip_longest","itertools.pairwise"].contains n=false) (hQ:Q () s):wpAny M A (letOwnedTupleGo tg (.ref it) u) Q E s:=by
 unfold letOwnedTupleGo
 cases tg <;> first
  | exact bE hQ
  | (cases u <;> first
    | exact bE hQ
    | (refine bw (wpAny_load ho ?_)
       rw [hc,hd];show wpAny M A (if (["enumerate","zip","dict_itemiterator","dict_reverseitemiterator","odict_iterator","itertools.zip_longest","itertools.pairwise"].contains n && vs[0]? == some (rawInt _))=true then _ else _) Q E s;rw [if_neg (by intro h; rw [hn,Bool.false_and] at h; cases h)];exact bE hQ))
def Itl (K:W.Frag) (a:Addr):It :=
 ⟨fun i H=>∃ xs x,SqL K H a xs/\xs[i]?=some x,fun i H x H'=>H'=H/\∀ xs,SqL K H a xs->xs[i]?=some x,fun i H=>∃ xs,SqL K H a xs/\xs.length <= i⟩
def Itt (K:W.Frag) (a:Addr):It :=
 ⟨fun i H=>∃ xs x,SqT K H a xs/\xs[i]?=some x,fun i H x H'=>H'=H/\∀ xs,SqT K H a xs->xs[i]?=some x,fun i H=>∃ xs,SqT K H a xs/\xs.length <= i⟩
def Itr (lo:Int) (n:Nat):It:=⟨fun i _=>i < n,fun i H x H'=>H'=H/\x=.int (lo+i),fun i _=>n <= i⟩
theorem yge {w:World} {K:W.Frag} (a it:Addr):yi6 P w K tg (Itl K a) [it] it (fun i h=>h.IsListIter it a i) where
 mem:=by simp
 obj:=fun i h f b j=>by
  have e:b=it:=by simpa using j
  subst e;obtain ⟨o,e,c,d⟩:=f;exact ⟨o,e,fun v z=>by rw [d] at z; cases z⟩
 keep:=fun i h n f k=>f.at fun o e=>k it (by simp) o e
 item:=by
  intro X L r y N i g s σ H E I m f D;subst L r y;obtain ⟨xs,x,q,B⟩:=D;obtain ⟨J,M,p,T⟩:=I.list q;obtain ⟨u,O,Z⟩:=M.get B;obtain ⟨t,F,U,G,C,A⟩:=m it (by simp);refine wpAny_pyNext_list_item f p.isList (x:=u) (by simpa using O) fun n l Q=>?_;have Y:Inv X g σ H { s with heap:=n }:=I.turned (t':=s.toks) (fun b o j e=>(Q.2 b j).trans e) t F G C A;obtain ⟨o,e,c,d⟩:=id l;exact ⟨u,rfl,yku (s:={ s with heap:=n }) e c d (by decide) ⟨x,H,Y,Z,⟨rfl,fun ys S=>by rw [I.list_inj S q]; exact B⟩,l,fun b j=>(m b j).1⟩⟩
 done:=by
  intro X L r y N i g s σ H E I m f D;subst L r y;obtain ⟨xs,q,B⟩:=D;obtain ⟨J,M,p,T⟩:=I.list q;obtain ⟨t,F,U,G,C,A⟩:=m it (by simp);have hl:=M.length;exact wpAny_pyNext_list_end (I.ok.hd N) f p.isList (by simp; omega) fun n R=>⟨rfl,I.turned (t':=s.toks) (fun b o j e=>R b o j e) t F G C A⟩
 self:=fun _ _ _ _ _ f h=>wpAny_pyIter_listiter f h
theorem ye1 {w:World} {K:W.Frag} (a it:Addr):yi6 P w K tg (Itt K a) [it] it (fun i h=>h.IsTupleIter it a i) where
 mem:=by simp
 obj:=fun i h f b j=>by
  have e:b=it:=by simpa using j
  subst e;obtain ⟨o,e,c,d⟩:=f;exact ⟨o,e,fun v z=>by rw [d] at z; cases z⟩
 keep:=fun i h q f k=>f.at fun o e=>k it (by simp) o e
 item:=by
  intro X L t A N i g s σ H E I n f F;subst L t A;obtain ⟨xs,x,r,C⟩:=F;obtain ⟨l,M,p,T⟩:=I.tuple r;obtain ⟨u,O,Z⟩:=M.get C;obtain ⟨y,G,U,J,D,B⟩:=n it (by simp);refine wpAny_pyNext_tuple_item f (show s.heap.IsTuple a l.toArray from p) (x:=u) (by simpa using O) fun q m Q=>?_;have Y:Inv X g σ H { s with heap:=q }:=I.turned (t':=s.toks) (fun b o j e=>(Q.2 b j).trans e) y G J D B;obtain ⟨o,e,c,d⟩:=id m;exact ⟨u,rfl,yku (s:={ s with heap:=q }) e c d (by decide) ⟨x,H,Y,Z,⟨rfl,fun ys S=>by rw [I.tuple_inj S r]; exact C⟩,m,fun b j=>(n b j).1⟩⟩
 done:=by
  intro X L t A N i g s σ H E I n f F;subst L t A;obtain ⟨xs,r,C⟩:=F;obtain ⟨l,M,p,T⟩:=I.tuple r;obtain ⟨y,G,U,J,D,B⟩:=n it (by simp);have hl:=M.length;exact wpAny_pyNext_tuple_end (I.ok.hd N) f (show s.heap.IsTuple a l.toArray from p) (by simp; omega) fun q R=>⟨rfl,I.turned (t':=s.toks) (fun b o j e=>R b o j e) y G J D B⟩
 self:=fun _ _ _ _ _ f h=>wpAny_pyIter_tupleiter f h
theorem ye4 {w:World} {K:W.Frag} (it:Addr) (lo:Int) (n:Nat):yi6 P w K tg (Itr lo n) [it] it (fun i h=>IsRangeIter h it (lo+(i:Nat) * 1) ((n:Int) - (i:Nat)) 1) where
 mem:=by simp
 obj:=fun i h a b d=>by
  have e:b=it:=by simpa using d
  subst e
  exact ⟨_,a,fun v z=>by
   have G:Data.fields _=Data.cell v:=z;cases G⟩
 keep:=fun i h j a k=>k it (by simp) _ a
 item:=by
  intro X A l p B i c s σ H E I g a u;subst A l p;obtain ⟨m,x,L,y,r,q⟩:=g it (by simp);have W:=Walks.range (prog:=X.prog) (w:=X.w) (I.ok.hd B) it lo 1 n;refine W.item i s _ _ u a fun v j C J f D=>?_;obtain ⟨t,rfl⟩:=J;have M:Inv X c σ H { s with heap:=j,toks:=C }:=I.turned (fun b o d e=>D b o (by simpa using d) e) m x y r q;refine ⟨_,rfl,yku (s:={ s with heap:=j,toks:=C }) (n:="range_iterator") f rfl rfl (by decide) ⟨.int (lo+i),H,M,⟨t,?_⟩,⟨rfl,rfl⟩,f,fun b d=>(g b d).1⟩⟩;rw [Int.mul_one]
 done:=by
  intro X A l p B i c s σ H E I g a u;subst A l p;obtain ⟨m,x,L,y,r,q⟩:=g it (by simp);exact wpAny_pyNext_range_end (I.ok.hd B) a (by have:n <= i:=u; omega) fun j F=>⟨rfl,I.turned (t':=s.toks) (fun b o d e=>F b o d e) m x y r q⟩
 self:=fun _ _ _ _ _ a h=>wpAny_pyIter_rangeiter a h
def yxp (K:W.Frag) (tl:TE):TI:=fun σ H R=>tl σ H fun x H1=>∃ a,x=.ref a/\(∃ xs,SqL K H1 a xs)/\R (Itl K a) H1
def vaq (K:W.Frag) (tl:TE):TI:=fun σ H R=>tl σ H fun x H1=>∃ a,x=.ref a/\(∃ xs,SqT K H1 a xs)/\R (Itt K a) H1
theorem wu {l:Expr} {tl:TE} (hl:PE X l tl):PI X tg l (yxp X.K tl):=by
 intro c s σ H R I h;refine thn (hl c s σ H _ I h) fun v d h'=>?_;obtain ⟨x,j,f,k,i⟩:=h';obtain ⟨a,e,⟨u,n⟩,q⟩:=i;subst e;cases k;obtain ⟨g,t,p,r⟩:=f.list n;refine wpAny_pyIter_list p.isList ?_;refine ⟨d.heap.objs.size,[d.heap.objs.size],_,_,j,rfl,f.kept (t':=d.toks) fun b o e=>bz _ e,yge a _,⟨_,bN _ rfl,rfl,rfl⟩,fun b m=>?_,q⟩;have e:b=d.heap.objs.size:=by simpa using m
 subst e;exact f.fpOk (bA _) (f.hok.fresh (bA _))
theorem yel {l:Expr} {tl:TE} (hl:PE X l tl):PI X tg l (vaq X.K tl):=by
 intro d s σ H R I h;refine thn (hl d s σ H _ I h) fun v c h'=>?_;obtain ⟨x,j,f,k,i⟩:=h';obtain ⟨a,e,⟨u,n⟩,q⟩:=i;subst e;cases k;obtain ⟨g,t,p,r⟩:=f.tuple n;refine wpAny_pyIter_tuple (show c.heap.IsTuple a g.toArray from p) ?_;refine ⟨c.heap.objs.size,[c.heap.objs.size],_,_,j,rfl,f.kept (t':=c.toks) fun b o e=>bz _ e,ye1 a _,⟨_,bN _ rfl,rfl,rfl⟩,fun b m=>?_,q⟩;have e:b=c.heap.objs.size:=by simpa using m
 subst e;exact f.fpOk (bA _) (f.hok.fresh (bA _))
theorem ydf {s:Shared} {R:It->Hp->Prop} {lo hi:Int} {t u v:Tok} {tk:Nat} (I:Inv X pins σ H s) (h1:-(2 ^ 62) <= lo) (h2:lo < 2 ^ 62) (h3:-(2 ^ 62) <= hi) (h4:hi < 2 ^ 62)
  (q:R (Itr lo (hi - lo).toNat) H):wpAny (model X.prog X.w) X.A (pyIter (.ref s.heap.objs.size)) (PIE X pins σ tg R) E { s with heap:=s.heap.push { cls:=.type "range",data:=.fields #[.int lo t,.int hi u,.int 1 v] },toks:=tk }:=by
 refine wpAny_pyIter_range (IsRange.new ..) (small_one h1 h2 h3 h4) ?_;have a:Inv X pins σ H { s with heap:=s.heap.push { cls:=.type "range",data:=.fields #[.int lo t,.int hi u,.int 1 v] },toks:=tk }:=I.kept fun b o e=>bz _ e
 refine ⟨(s.heap.push { cls:=.type "range",data:=.fields #[.int lo t,.int hi u,.int 1 v] }).objs.size,[(s.heap.push { cls:=.type "range",data:=.fields #[.int lo t,.int hi u,.int 1 v] }).objs.size],_,_,H,rfl,
  a.kept (t':=tk) fun b o e=>bz _ e,ye4 _ lo (hi - lo).toNat,?_,fun b d=>?_,q⟩
 .have f:lo+((0:Nat):Int) * 1=lo:=by simp
  have c:(((hi - lo).toNat:Nat):Int) - ((0:Nat):Int)=Builtin.Range.rangeSize lo hi 1:=by rw [rangeSize_one]; split <;> omega
  show IsRangeIter _ _ (lo+((0:Nat):Int) * 1) ((((hi - lo).toNat:Nat):Int) - ((0:Nat):Int)) 1;rw [f,c];exact bN _ rfl
 .have e:b=(s.heap.push { cls:=.type "range",data:=.fields #[.int lo t,.int hi u,.int 1 v] }).objs.size:=by simpa using d
  subst e;exact a.fpOk (bA _) (a.hok.fresh (bA _))
def yxi (ta:TA):TI:=fun σ H R=>ta σ H fun vs H1=>∃ j:Int,vs=[.int j]/\-(2 ^ 62) <= j/\j < 2 ^ 62/\R (Itr 0 j.toNat) H1
def yxu (ta:TA):TI:=fun σ H R=>ta σ H fun vs H1=>∃ i j:Int,vs=[.int i,.int j]/\(-(2 ^ 62) <= i/\i < 2 ^ 62/\-(2 ^ 62) <= j/\j < 2 ^ 62)/\R (Itr i (j - i).toNat) H1
theorem x8 {a:Expr} {ta:TA} {pos:Pos} (hg:Gl X "range") (hm:X.mg "range"=none) (ha:PA X [a] ta) (hs:starEach [a] X.env=[(false,eval a X.env)]:=by rfl):PI X tg (.Call (.Name "range" p) [a] [] pos) (yxi ta):=by
 intro b s σ H R I h;refine Call_ (ē I hg hm boot_range (PyProof.Rows.callWith_type1 (thn (ha pos b s σ H _ I h) fun k i h'=>?_) hs rfl));obtain ⟨l,m,f,g,c⟩:=h';obtain ⟨j,e,c,d,q⟩:=c;subst e
 cases g with
 | cons r rr =>
  cases rr;obtain ⟨t,rfl⟩:=r;exact call_range_1 (ydf f (by omega) (by omega) c d (by simpa using q))
theorem ygq {a b:Expr} {ta:TA} {pos:Pos} (hg:Gl X "range") (hm:X.mg "range"=none) (ha:PA X [a,b] ta) (hs:starEach [a,b] X.env=[(false,eval a X.env),(false,eval b X.env)]:=by rfl) (hs2:starEach [b] X.env=[(false,eval b X.env)]:=by rfl) :
  PI X tg (.Call (.Name "range" p) [a,b] [] pos) (yxu ta):=by
 intro c s σ H R I h;refine Call_ (ē I hg hm boot_range (PyProof.Rows.callWith_type1 (thn (ha pos c s σ H _ I h) fun o n h'=>?_) (by rw [hs,hs2]) (by rw [hs2]; rfl)));obtain ⟨u,w,k,m,d⟩:=h';obtain ⟨i,j,e,⟨d,g,f,l⟩,q⟩:=d;subst e
 cases m with
 | cons r rr =>
  cases rr with
  | cons r' rr =>
   cases rr;obtain ⟨t,rfl⟩:=r;obtain ⟨v,rfl⟩:=r';exact call_range_2 (ydf k d g f l q)
def vaw (wi:TI) (g:TG) (tb:TS):TS:=fun D σ H=>wi σ H fun J H1=>∃ W:Nat->Nat->St->Hp->Prop,(∃ m,W 0 m σ H1)/\∀ i m σ H,W i m σ H ->
 (J.stop i H/\D.nx σ H)\/(J.go i H/\∃ N:St->Hp->Prop,(∀ σ' H',N σ' H'->∃ m',m' < m/\W (i+1) m' σ' H')/\∀ x H',J.yld i H x H'->g x σ H' fun σ2 H2=>tb { D with nx:=N,ct:=N,bk:=D.nx } σ2 H2)
def yeh (fp:List Addr) (h:Heap):List (Addr × Obj):=fp.filterMap fun b=>(h.get? b).map fun o=>(b,o)
theorem xv {h:Heap} {b:Addr} {o:Obj} (hb:b∈fp) (e:h.get? b=some o):(b,o)∈yeh fp h:=List.mem_filterMap.mpr ⟨b,hb,by rw [e]; rfl⟩
theorem ygj {h:Heap} {p:Addr × Obj} (hp:p∈yeh fp h):p.1∈fp/\h.get? p.1=some p.2:=by
 obtain ⟨b,c,e⟩:=List.mem_filterMap.mp hp
 cases q:h.get? b with
 | none=>rw [q] at e; cases e
 | some o =>
  rw [q] at e;have a:(b,o)=p:=bL e;subst a;exact ⟨c,q⟩
theorem Inv.pinned {s:Shared} (I:Inv X pins σ H s) (hf:∀ b∈fp,ycp X pins H b) (ho:∀ b∈fp,∃ o,s.heap.get? b=some o/\∀ v,o.data≠.cell v):Inv X (pins++yeh fp s.heap) σ H s :=
 I.pins_of fun p h=>(bY.mp h).elim (fun z=>I.pin p (bP _ z)) fun z=>by
  obtain ⟨c,e⟩:=ygj z;obtain ⟨i,f,g,_⟩:=hf p.1 c;obtain ⟨o,a,d⟩:=ho p.1 c;rw [e] at a; cases a;exact ⟨e,i,f,g,d⟩
theorem Inv.unpinned {pl:List (Addr × Obj)} {s:Shared} (I:Inv X (pins++pl) σ H s):Inv X pins σ H s:=I.pins_of fun p a=>I.pin p (bP _ (List.mem_append_left _ a))
theorem uw {iter:Expr} {wi:TI} {g:TG} {tb:TS} {pos:Pos} (hp:PassesOwn (model X.prog X.w) X.A X.env X.xe) (hc:X.calm=true) (hi:PI X tg iter wi) (hg:PG X tg g) (hb:PSs X body tb)
  (hs:∀ x,foldedSetIterable iter X.env x=pure x:=by intro _; rfl):PS X (.For tg iter body [] pos) (vaw wi g tb):=by
 refine .mk fun a s σ H D I h=>?_;refine wpAny_For (thn (hi a s σ H _ I h) fun v s1 h1=>thn h1 fun a0 s2 h2=>?_) hs;obtain ⟨it,B,S,J,H2,e,I2,T,O,f2,W,⟨m0,w0⟩,z⟩:=h2;subst e;have l:∀ {H':Hp},(∀ b∈B,H' b=none)->∀ b∈B,ycp X a H' b:=fun hn b hb=>⟨hn b hb,(f2 b hb).2⟩;refine codeAny_forLoop_any (fun n U=>∃ i σ' H',Inv X a σ' H' U/\S i U.heap/\(∀ b∈B,H' b=none)/\W i n σ' H') ?_ m0 ⟨0,σ,H2,I2,O,fun b hb=>(f2 b hb).1,w0⟩;rintro n R ⟨i,σ3,G,Y,y,F,w3⟩;rcases z i n σ3 G w3 with ⟨C,qn⟩ | ⟨go,N,hN,E⟩
 .refine wpAny_passesOwn hp (thn (T.done X rfl rfl rfl hc i a R σ3 G X.xe Y (l F) y C) fun r s4 ⟨M,I4⟩=>?_);subst M;exact wpAny_execs_nil ⟨σ3,G,I4,qn⟩
 .refine wpAny_passesOwn hp (thn (T.item X rfl rfl rfl hc i a R σ3 G X.xe Y (l F) y go) fun r s4 ⟨u,M,h4⟩=>?_);subst M;refine wpAny_passesOwn hp (thn h4 fun _ Z h'=>?_);obtain ⟨x,Q,I5,r5,y5,q,L⟩:=h';have P:=I5.pinned (l L) (T.obj _ _ q);refine wpAny_passesOwn hp (thn (hg _ Z σ3 Q x u _ P r5 (E x Q y5)) fun _ s6 ⟨σ6,H6,I6,q6⟩=>?_);refine wpAny_passesOwn hp (thn (hb _ s6 σ6 H6 _ I6 q6) fun f K p=>?_)
  have j:∀ {σ7:St} {k:Hp},Inv X (a++yeh B Z.heap) σ7 k K->N σ7 k->∃ m,m < n/\∃ i σ' H',Inv X a σ' H' K/\S i K.heap/\(∀ b∈B,H' b=none)/\W i m σ' H':=fun {σ7 k} c t=>by
   obtain ⟨m',hm,w7⟩:=hN σ7 k t;refine ⟨m',hm,i+1,σ7,k,c.unpinned,T.keep _ _ _ q fun b hb o e=>(c.pin (b,o) (bP _ (bP _ (xv hb e)))).1,fun b hb=>?_,w7⟩;obtain ⟨o,e,d⟩:=T.obj _ _ q b hb;exact (c.pin (b,o) (bP _ (bP _ (xv hb e)))).2.1
  cases f with
  | next=>obtain ⟨σ7,k,c,t⟩:=p; exact j c t
  | cont=>obtain ⟨σ7,k,c,t⟩:=p; exact j c t
  | brk=>obtain ⟨σ7,k,c,p⟩:=p; exact ⟨σ7,k,c.unpinned,p⟩
  | ret v=>obtain ⟨x7,σ7,k,c,r7,p⟩:=p; exact ⟨x7,σ7,k,c.unpinned,r7,p⟩
theorem uf {K:W.Frag} {g:TG} {tb:TS} {D:ŵ} (Pv:Nat->St->Hp->Prop) (h0:Pv 0 σ H) (hl:∀ i σ H,i <= xs.length->Pv i σ H->SqL K H a xs)
  (hs:∀ i x σ H,xs[i]?=some x->Pv i σ H->g x σ H fun σ2 H2=>tb { D with nx:=Pv (i+1),ct:=Pv (i+1),bk:=D.nx } σ2 H2) (hd:∀ σ H,Pv xs.length σ H->D.nx σ H) :
  ∃ W:Nat->Nat->St->Hp->Prop,(∃ m,W 0 m σ H)/\∀ i m σ H,W i m σ H ->
   ((Itl K a).stop i H/\D.nx σ H)\/((Itl K a).go i H/\∃ N:St->Hp->Prop,(∀ σ' H',N σ' H'->∃ m',m' < m/\W (i+1) m' σ' H')/\∀ x H',(Itl K a).yld i H x H'->g x σ H' fun σ2 H2=>tb { D with nx:=N,ct:=N,bk:=D.nx } σ2 H2):=by
 refine ⟨fun i m σ H=>m=xs.length - i/\i <= xs.length/\Pv i σ H,⟨xs.length,by simp,bR _,h0⟩,?_⟩;rintro i m σ H ⟨rfl,b,p⟩;have q:=hl i σ H b p;by_cases hlt:i < xs.length
 .refine .inr ⟨⟨xs,xs[i],q,by simp [hlt]⟩,Pv (i+1),fun σ' H' c=>⟨xs.length - (i+1),by omega,rfl,hlt,c⟩,fun x H' y=>?_⟩;obtain ⟨e,y⟩:=y;subst e;exact hs i x σ _ (y xs q) p
 .have e:i=xs.length:=by omega
  subst e;exact .inl ⟨⟨xs,q,bA _⟩,hd σ H p⟩
theorem z5 {lo:Int} {n:Nat} {g:TG} {tb:TS} {D:ŵ} (Pv:Nat->St->Hp->Prop) (h0:Pv 0 σ H)
  (hs:∀ i σ H,i < n->Pv i σ H->g (.int (lo+i)) σ H fun σ2 H2=>tb { D with nx:=Pv (i+1),ct:=Pv (i+1),bk:=D.nx } σ2 H2) (hd:∀ σ H,Pv n σ H->D.nx σ H) :
  ∃ W:Nat->Nat->St->Hp->Prop,(∃ m,W 0 m σ H)/\∀ i m σ H,W i m σ H ->
   ((Itr lo n).stop i H/\D.nx σ H)\/((Itr lo n).go i H/\∃ N:St->Hp->Prop,(∀ σ' H',N σ' H'->∃ m',m' < m/\W (i+1) m' σ' H')/\∀ x H',(Itr lo n).yld i H x H'->g x σ H' fun σ2 H2=>tb { D with nx:=N,ct:=N,bk:=D.nx } σ2 H2):=by
 refine ⟨fun i m σ H=>m=n - i/\i <= n/\Pv i σ H,⟨n,by simp,bR _,h0⟩,?_⟩;rintro i m σ H ⟨rfl,b,p⟩;by_cases hlt:i < n
 .refine .inr ⟨hlt,Pv (i+1),fun σ' H' a=>⟨n - (i+1),by omega,rfl,hlt,a⟩,fun x H' y=>?_⟩;obtain ⟨e,y⟩:=y;subst e y;exact hs i σ _ hlt p
 .have e:i=n:=by omega
  subst e;exact .inl ⟨bA _,hd σ H p⟩
abbrev R2:=V->V->Hp->VK->Prop
def OpR (X:Cx) (f:Value->Value->Sem Value) (r:R2):Prop :=
 ∀ (pins:List (Addr × Obj)) (s:Shared) (σ:St) (H:Hp) (x y:V) (v u:Value) (Q:VK),Inv X pins σ H s->xk x v->xk y u->r x y H Q ->
  wpAny (model X.prog X.w) X.A (f v u) (EP X pins σ Q) X.xe s
def UnR (X:Cx) (f:Value->Sem Value) (r:V->Hp->VK->Prop):Prop :=
 ∀ (pins:List (Addr × Obj)) (s:Shared) (σ:St) (H:Hp) (x:V) (v:Value) (Q:VK),Inv X pins σ H s->xk x v->r x H Q ->
  wpAny (model X.prog X.w) X.A (f v) (EP X pins σ Q) X.xe s
def zx (X:Cx) (f:Value) (r:List V->Hp->VK->Prop):Prop :=
 ∀ (pins:List (Addr × Obj)) (s:Shared) (σ:St) (H:Hp) (xs:List V) (us:List Value) (Q:VK),Inv X pins σ H s->wn xs us->r xs H Q ->
  wpAny (model X.prog X.w) X.A (call f us) (EP X pins σ Q) X.xe s
def tOp (r:R2) (ta tb:TE):TE:=fun σ H Q=>ta σ H fun x H1=>tb σ H1 fun y H2=>r x y H2 Q
def tUn (r:V->Hp->VK->Prop) (ta:TE):TE:=fun σ H Q=>ta σ H fun x H1=>r x H1 Q
def rI (C:Int->Int->Prop) (g:Int->Int->V):R2:=fun x y H Q=>∃ i j,x=.int i/\y=.int j/\C i j/\Q (g i j) H
def rI0 (g:Int->Int->V):R2:=fun x y H Q=>∃ i j,x=.int i/\y=.int j/\Q (g i j) H
def rU (g:Int->V):V->Hp->VK->Prop:=fun x H Q=>∃ i,x=.int i/\Q (g i) H
section
variable {a b:Expr} {tb tc:TE} {pos:Pos}
theorem yye (ha:PE X a ta) (hb:PE X b tb) {s:Shared} {R:V->V->Hp->Prop} (I:Inv X pins σ H s)
  (h:ta σ H fun x H1=>tb σ H1 fun y H2=>R x y H2) {Q:Value->Shared->Prop} {f:Value->Value->Sem Value}
  (hf:∀ v u s2 x y H2,Inv X pins σ H2 s2->xk x v->xk y u->R x y H2->wpAny (model X.prog X.w) X.A (f v u) Q X.xe s2) :
  wpAny (model X.prog X.w) X.A (eval a X.env) (fun v s₁=>wpAny (model X.prog X.w) X.A (eval b X.env) (fun u s₂=>wpAny (model X.prog X.w) X.A (f v u) Q X.xe s₂) X.xe s₁) X.xe s:=by
 refine thn (ha pins s σ H _ I h) fun v c h'=>?_;obtain ⟨x,H1,j,k,d⟩:=h';refine thn (hb pins c σ H1 _ j d) fun u s2 h'=>?_;obtain ⟨y,H2,e,g,i⟩:=h';exact hf v u s2 x y H2 e k g i
theorem yn {op:Operator} {r:R2} (ho:OpR X (binaryOp op) r) (ha:PE X a ta) (hb:PE X b tb):PE X (.BinOp a op b pos) (tOp r ta tb):=by
 refine .mk fun c s σ H Q I h=>?_;exact wpAny_BinOp (yye ha hb I h fun v u e x y g d f i q=>ho c e σ g x y v u Q d f i q)
theorem yw8 {op:UnaryOp} {r:V->Hp->VK->Prop} (ho:UnR X (unaryOp op) r) (ha:PE X a ta):PE X (.UnaryOp op a pos) (tUn r ta):=by
 refine .mk fun b s σ H Q I h=>?_;exact UnaryOp_ (thn (ha b s σ H _ I h) fun v c ⟨x,e,f,g,d⟩=>ho b c σ e x v Q f g d)
theorem opI {f:Value->Value->Sem Value} {C:Int->Int->Prop} {g:Int->Int->Int}
  (rule:∀ (i j:Int) (t u:Tok) (s:Shared) (Q:Value->Shared->Prop) (E:Value->Shared->Prop),C i j->Q (.int (g i j) s.toks) { s with toks:=s.toks+1 }->wpAny (model X.prog X.w) X.A (f (.int i t) (.int j u)) Q E s) :
  OpR X f (rI C fun i j=>.int (g i j)):=by
 intro a s σ H x y v u Q I b d h;obtain ⟨i,j,rfl,rfl,e,q⟩:=h;obtain ⟨t,rfl⟩:=b;obtain ⟨c,rfl⟩:=d;exact rule i j t c s _ _ e ⟨.int (g i j),H,I.tok _,⟨_,rfl⟩,q⟩
theorem vac {f:Value->Value->Sem Value} {g:Int->Int->Int}
  (rule:∀ (i j:Int) (t u:Tok) (s:Shared) (Q:Value->Shared->Prop) (E:Value->Shared->Prop),Q (.int (g i j) s.toks) { s with toks:=s.toks+1 }->wpAny (model X.prog X.w) X.A (f (.int i t) (.int j u)) Q E s) :
  OpR X f (rI0 fun i j=>.int (g i j)):=by
 intro a s σ H x y v u Q I c b h;obtain ⟨i,j,rfl,rfl,q⟩:=h;obtain ⟨t,rfl⟩:=c;obtain ⟨d,rfl⟩:=b;exact rule i j t d s _ _ ⟨.int (g i j),H,I.tok _,⟨_,rfl⟩,q⟩
theorem yyb {f:Value->Value->Sem Value} {g:Int->Int->Bool}
  (rule:∀ (i j:Int) (t u:Tok) (s:Shared) (Q:Value->Shared->Prop) (E:Value->Shared->Prop),Q (.bool (g i j)) s->wpAny (model X.prog X.w) X.A (f (.int i t) (.int j u)) Q E s) :
  OpR X f (rI0 fun i j=>.bl (g i j)):=by
 intro a s σ H x y v u Q I c b h;obtain ⟨i,j,rfl,rfl,q⟩:=h;obtain ⟨t,rfl⟩:=c;obtain ⟨d,rfl⟩:=b;exact rule i j t d s _ _ ⟨.bl (g i j),H,I,rfl,q⟩
def yz6 (i j:Int):Prop:=(-(2 ^ 64) < i/\i < 2 ^ 64)\/(-(2 ^ 64) < j/\j < 2 ^ 64)
theorem yz6.ok {i j:Int} (h:yz6 i j):IntMulOk i j:=by
 rcases h with ⟨b,a⟩ | ⟨b,a⟩
 .exact .of_left (intBits_le_64 b a)
 .exact .of_right (intBits_le_64 b a)
theorem ye9 (k:Nat):(0:Int) <= 2 ^ k:=by
 rw [two_pow_cast];exact Int.natCast_nonneg _
theorem vv:OpR X (binaryOp .Add) (rI0 fun i j=>.int (i+j)):=vac fun _ _ _ _ _ _ _ q=>add_int q
theorem uc:OpR X (binaryOp .Sub) (rI0 fun i j=>.int (i - j)):=vac fun _ _ _ _ _ _ _ q=>sub_int q
theorem wl:OpR X (binaryOp .Mult) (rI yz6 fun i j=>.int (i * j)):=opI fun _ _ _ _ _ _ _ a q=>mul_int q a.ok
theorem vw:OpR X (binaryOp .Mod) (rI (fun _ j=>0 < j) fun i j=>.int (i % j)):=opI fun i j _ _ _ _ _ a q=>by
 have b:(0:Int) < j:=a;exact mod_int' (by omega) (by rw [Int.fmod_eq_emod_of_nonneg i (by omega)]; exact q)
theorem yik:OpR X (binaryOp .RShift) (rI (fun _ j=>0 <= j) fun i j=>.int (i / 2 ^ j.toNat)):=opI fun i j _ _ _ _ _ a q =>
 rshift_int a (by rw [Int.fdiv_eq_ediv_of_nonneg i (ye9 _)]; exact q)
theorem yh3:OpR X (binaryOp .BitAnd) (rI0 fun i j=>.int (Builtin.bitAnd i j)):=vac fun _ _ _ _ _ _ _ q=>and_int q
theorem unI {f:Value->Sem Value} {g:Int->Int}
  (rule:∀ (i:Int) (t:Tok) (s:Shared) (Q:Value->Shared->Prop) (E:Value->Shared->Prop),Q (.int (g i) s.toks) { s with toks:=s.toks+1 }->wpAny (model X.prog X.w) X.A (f (.int i t)) Q E s) :
  UnR X f (rU fun i=>.int (g i)):=by
 intro a s σ H x v Q I b h;obtain ⟨i,rfl,q⟩:=h;obtain ⟨t,rfl⟩:=b;exact rule i t s _ _ ⟨.int (g i),H,I.tok _,⟨_,rfl⟩,q⟩
theorem ymg:UnR X (unaryOp .USub) (rU fun i=>.int (-i)):=unI fun _ _ _ _ _ q=>neg_int q
end
def var:V->V->Bool
 | .non,.non=>true | .non,.int _=>true | .int _,.non=>true | .non,.bl _=>true | .bl _,.non=>true | .non,.str _=>true | .str _,.non=>true
 | .int _,.int _=>true | .bl _,.bl _=>true | .str _,.str _=>true | .byt _,.byt _=>true
 | .int _,.str _=>true | .str _,.int _=>true | .bl _,.str _=>true | .str _,.bl _=>true
 | _,_=>false
def rEq:R2:=fun x y H Q=>var x y=true/\Q (.bl (decide (x=y))) H
def rNe:R2:=fun x y H Q=>var x y=true/\Q (.bl (!decide (x=y))) H
theorem yha {i j:Int}:decide (V.int i=V.int j)=(i == j):=by
 rw [Bool.eq_iff_iff];simp
theorem yl1 {i j:Bool}:decide (V.bl i=V.bl j)=(i == j):=by
 rw [Bool.eq_iff_iff];simp
theorem yhr {i j:Str}:decide (V.str i=V.str j)=(i == j):=by
 rw [Bool.eq_iff_iff];simp
theorem yg3 {i j:Array UInt8}:decide (V.byt i=V.byt j)=(i.toList == j.toList):=by
 rw [Bool.eq_iff_iff];cases i;cases j;simp
section
variable {a b:Expr} {tb tc:TE} {pos:Pos}
theorem wg {s:Shared} {Q:VK} {k k':Bool} (I:Inv X pins σ H s) (q:Q (.bl k) H) (e:k=k'):EP X pins σ Q (.bool k') s:=by
 subst e;exact ⟨.bl k,H,I,rfl,q⟩
theorem x3:OpR X (compareOp .Eq) rEq:=by
 intro e s σ H x y v u Q I d a h;obtain ⟨c,q⟩:=h
 cases x with
 | non =>
  cases d
  cases y with
  | non=>cases a; exact PySem.EqNone.eq_none_none (wg I q (by simp))
  | bl j=>cases a; exact PySem.EqNone.eq_none_bool (wg I q (by simp))
  | int j=>obtain ⟨b,rfl⟩:=a; exact PySem.EqNone.eq_none_int (wg I q (by simp))
  | str j=>obtain ⟨b,rfl⟩:=a; exact PySem.EqNone.eq_none_str (wg I q (by simp))
  | _=>exact absurd (show false=true from c) bK
 | bl i =>
  cases d
  cases y with
  | non=>cases a; exact PySem.EqNone.eq_bool_none (wg I q (by simp))
  | bl j=>cases a; exact eq_bool (wg I q yl1)
  | str j=>obtain ⟨b,rfl⟩:=a; exact PySem.EqMixed.eq_bool_str (wg I q (by simp))
  | _=>exact absurd (show false=true from c) bK
 | int i =>
  obtain ⟨t,rfl⟩:=d
  cases y with
  | non=>cases a; exact PySem.EqNone.eq_int_none (wg I q (by simp))
  | int j=>obtain ⟨b,rfl⟩:=a; exact eq_int (wg I q yha)
  | str j=>obtain ⟨b,rfl⟩:=a; exact PySem.EqMixed.eq_int_str (wg I q (by simp))
  | _=>exact absurd (show false=true from c) bK
 | str i =>
  obtain ⟨t,rfl⟩:=d
  cases y with
  | non=>cases a; exact PySem.EqNone.eq_str_none (wg I q (by simp))
  | bl j=>cases a; exact PySem.EqMixed.eq_str_bool (wg I q (by simp))
  | int j=>obtain ⟨b,rfl⟩:=a; exact PySem.EqMixed.eq_str_int (wg I q (by simp))
  | str j=>obtain ⟨b,rfl⟩:=a; exact eq_str (wg I q yhr)
  | _=>exact absurd (show false=true from c) bK
 | byt i =>
  obtain ⟨t,rfl⟩:=d
  cases y with
  | byt j=>obtain ⟨b,rfl⟩:=a; exact W.eq_bytes (wg I q yg3)
  | _=>exact absurd (show false=true from c) bK
 | _=>cases y <;> exact absurd (show false=true from c) bK
theorem yzt:OpR X (compareOp .NotEq) rNe:=by
 intro e s σ H x y v u Q I d a h;obtain ⟨c,q⟩:=h
 cases x with
 | non =>
  cases d
  cases y with
  | non=>cases a; exact PySem.EqNone.ne_none_none (wg I q (by simp))
  | bl j=>cases a; exact PySem.EqNone.ne_none_bool (wg I q (by simp))
  | int j=>obtain ⟨b,rfl⟩:=a; exact PySem.EqNone.ne_none_int (wg I q (by simp))
  | str j=>obtain ⟨b,rfl⟩:=a; exact PySem.EqNone.ne_none_str (wg I q (by simp))
  | _=>exact absurd (show false=true from c) bK
 | bl i =>
  cases d
  cases y with
  | non=>cases a; exact PySem.EqNone.ne_bool_none (wg I q (by simp))
  | bl j=>cases a; exact ne_bool (wg I q (congrArg not yl1))
  | str j=>obtain ⟨b,rfl⟩:=a; exact PySem.EqMixed.ne_bool_str (wg I q (by simp))
  | _=>exact absurd (show false=true from c) bK
 | int i =>
  obtain ⟨t,rfl⟩:=d
  cases y with
  | non=>cases a; exact PySem.EqNone.ne_int_none (wg I q (by simp))
  | int j=>obtain ⟨b,rfl⟩:=a; exact ne_int (wg I q (congrArg not yha))
  | str j=>obtain ⟨b,rfl⟩:=a; exact PySem.EqMixed.ne_int_str (wg I q (by simp))
  | _=>exact absurd (show false=true from c) bK
 | str i =>
  obtain ⟨t,rfl⟩:=d
  cases y with
  | non=>cases a; exact PySem.EqNone.ne_str_none (wg I q (by simp))
  | bl j=>cases a; exact PySem.EqMixed.ne_str_bool (wg I q (by simp))
  | int j=>obtain ⟨b,rfl⟩:=a; exact PySem.EqMixed.ne_str_int (wg I q (by simp))
  | str j=>obtain ⟨b,rfl⟩:=a; exact ne_str (wg I q (congrArg not yhr))
  | _=>exact absurd (show false=true from c) bK
 | byt i =>
  obtain ⟨t,rfl⟩:=d
  cases y with
  | byt j=>obtain ⟨b,rfl⟩:=a; exact W.ne_bytes (wg I q (congrArg not yg3))
  | _=>exact absurd (show false=true from c) bK
 | _=>cases y <;> exact absurd (show false=true from c) bK
theorem ybf:OpR X (compareOp .Lt) (rI0 fun i j=>.bl (decide (i < j))):=yyb fun _ _ _ _ _ _ _ q=>lt_int q
theorem zq:OpR X (compareOp .LtE) (rI0 fun i j=>.bl (decide (i <= j))):=yyb fun _ _ _ _ _ _ _ q=>le_int q
theorem yfj:OpR X (compareOp .Gt) (rI0 fun i j=>.bl (decide (j < i))):=yyb fun _ _ _ _ _ _ _ q=>gt_int q
theorem yzg:OpR X (compareOp .GtE) (rI0 fun i j=>.bl (decide (j <= i))):=yyb fun _ _ _ _ _ _ _ q=>ge_int q
theorem yft:OpR X (compareOp .In) (fun x y H Q=>∃ i j,x=.str i/\y=.str j/\Q (.bl (!(Builtin.Str.occurrences j i 0 j.length 1).isEmpty)) H):=by
 intro a s σ H x y v u Q I c b h;obtain ⟨i,j,rfl,rfl,q⟩:=h;obtain ⟨t,rfl⟩:=c;obtain ⟨d,rfl⟩:=b;exact in_str (wg I q rfl)
theorem yd7:OpR X (compareOp .Is) (fun x y H Q=>y=.non/\Q (.bl (decide (x=.non))) H):=by
 intro a s σ H x y v u Q I b c h;obtain ⟨rfl,q⟩:=h;cases c;refine is_none_gen (wg I q ?_)
 cases x <;> first
  | (cases b; rfl)
  | (obtain ⟨t,rfl⟩:=b; rfl)
theorem Ŭ:OpR X (compareOp .IsNot) (fun x y H Q=>y=.non/\Q (.bl (!decide (x=.non))) H):=by
 intro a s σ H x y v u Q I b c h;obtain ⟨rfl,q⟩:=h;cases c;refine isnot_none_gen (wg I q ?_)
 cases x <;> first
  | (cases b; rfl)
  | (obtain ⟨t,rfl⟩:=b; rfl)
theorem y8 (b:Expr) (h:op≠.In:=by decide) (h2:op≠.NotIn:=by decide):behindInMarks op b=false:=by
 have c:(op == CmpOp.In)=false:=by cases op <;> first | rfl | exact absurd rfl h
 have a:(op == CmpOp.NotIn)=false:=by cases op <;> first | rfl | exact absurd rfl h2
 cases b <;> simp [behindInMarks,c,a]
theorem x6 {r:R2} (ho:OpR X (compareOp op) r) (ha:PE X a ta) (hb:PE X b tb) (hm:behindInMarks op b=false):PE X (.Compare a [op] [b] pos) (tOp r ta tb):=by
 refine .mk fun c s σ H Q I h=>?_;exact wpAny_Compare1 (yye ha hb I h fun v u e x y g d f i q=>ho c e σ g x y v u Q d f i q) hm
def ypq (t:TE):TT:=fun σ H Q=>t σ H fun x H'=>∃ k,x=.bl k/\Q k H'
theorem yx {r:R2} (ho:OpR X (compareOp op) r) (ha:PE X a ta) (hb:PE X b tb) (hm:behindInMarks op b=false):PT X (.Compare a [op] [b] pos) (ypq (tOp r ta tb)):=by
 refine .mk fun d s σ H Q I h=>?_
 refine wpAny_isTrue_Compare1 (thn (ha d s σ H _ I h) fun v g ⟨x,o,q,t,j⟩=>thn (hb d g σ o _ q j) fun u l ⟨y,p,i,m,n⟩ =>
  thn (ho d l σ p x y v u _ i t m n) fun c C ⟨z,w,A,B,k,e,f⟩=>?_) hm
 subst e;cases B;exact cJ ⟨w,A,f⟩
def yh1 (r r':R2) (ta tb tc:TE):TE:=fun σ H Q=>ta σ H fun x H1=>tb σ H1 fun y H2=>r x y H2 fun z H3=>∃ k,z=.bl k /\
 (if k=true then tc σ H3 fun w' H4=>r' y w' H4 Q else Q (.bl false) H3)
theorem τ {op':CmpOp} {r r':R2} (ho:OpR X (compareOp op) r) (ho':OpR X (compareOp op') r') (ha:PE X a ta) (hb:PE X b tb) (hc:PE X c tc)
  (hm:lastMarks [op,op'] [b,c]=false:=by with_unfolding_all rfl):PE X (.Compare a [op,op'] [b,c] pos) (yh1 r r' ta tb tc):=by
 refine .mk fun f s σ H Q I h=>?_
 refine Compare_chain (thn (ha f s σ H _ I h) fun v m ⟨x,K,L,C,F⟩=>chain_link (thn (hb f m σ K _ L F) fun u G ⟨y,B,o,i,w⟩ =>
  thn (ho f G σ B x y v u _ o C i w) fun d p ⟨z,g,l,M,k,e,j⟩=>?_)) hm
 subst e;cases M;refine cJ ?_
 cases k with
 | false=>exact ite_ff ⟨.bl false,g,l,rfl,j⟩
 | true=>exact ite_tt (chain_last (thn (hc f p σ g _ l j) fun J E ⟨D,q,n,t,A⟩=>ho' f E σ q y D u J Q n i t A))
theorem Ť {op':CmpOp} {r r':R2} (ho:OpR X (compareOp op) r) (ho':OpR X (compareOp op') r') (ha:PE X a ta) (hb:PE X b tb) (hc:PE X c tc)
  (hm:lastMarks [op,op'] [b,c]=false:=by with_unfolding_all rfl):PT X (.Compare a [op,op'] [b,c] pos) (ypq (yh1 r r' ta tb tc)):=by
 refine .mk fun f s σ H Q I h=>?_
 refine isTrue_chain (thn (ha f s σ H _ I h) fun v n ⟨x,S,T,L,O⟩=>test_link (thn (hb f n σ S _ T O) fun u P ⟨y,K,p,i,D⟩ =>
  thn (ho f P σ K x y v u _ p L i D) fun d t ⟨z,g,l,U,k,e,j⟩=>?_)) hm
 subst e;cases U;refine cJ ?_
 cases k with
 | false =>
  obtain ⟨Y,w,q⟩:=j;cases w;exact ite_ff ⟨g,l,q⟩
 | true =>
  refine ite_tt (test_last (thn (hc f t σ g _ l j) fun R N ⟨M,A,o,C,F⟩=>thn (ho' f N σ A y M u R _ o i C F) fun W s5 h'=>?_));obtain ⟨Z,m,G,B,k2,E,J⟩:=h';subst E;cases B;exact cJ ⟨m,G,J⟩
theorem ybc:(sizeLine:Nat) < 2 ^ 63:=by rw [sizeLine_eq]; decide
theorem Ä:OpR X (binaryOp .Add) (fun x y H Q=>∃ i j,x=.str i/\y=.str j/\i.length+j.length <= sizeLine/\Q (.str (i++j)) H):=by
 intro a s σ H x y v u Q I c e h;obtain ⟨i,j,rfl,rfl,b,q⟩:=h;obtain ⟨t,rfl⟩:=c;obtain ⟨d,rfl⟩:=e;exact add_str (fun d f=>⟨.str (i++j),H,I.tok _,⟨_,rfl⟩,q⟩) b
def yj9 (b:Expr):Prop:=∀ o i,subscripted b false o i=operate [o,i] (getItem o i)
theorem j3 (ha:PE X a ta) (hb:PE X b tb) (hs:yj9 b) :
  PE X (.Subscript a b pos) (tOp (fun x y H Q=>∃ z i c,x=.str z/\y=.int i/\0 <= i/\i < 2 ^ 63/\i < z.length/\z.cps[i.toNat]?=some c/\Q (.str ⟨#[c]⟩) H) ta tb):=by
 refine .mk fun d s σ H Q I h=>?_;refine Subscript_ (yye ha hb I h fun v u j x y n f g o q=>?_);obtain ⟨z,i,c,rfl,rfl,r,m,p,w,q⟩:=q;obtain ⟨t,rfl⟩:=g;obtain ⟨A,rfl⟩:=o;have e:seqIndex? i z.length=some i.toNat:=PySem.StrLaws.seqIndex_nonneg r p
 exact tail_any (typeIs_str j z t) slot_str_getitem.lookup (getItem_str (c:=c) (by
  have k:decide (i < -(2 ^ 63:Int))=false:=bO (by omega);have l:decide (i ≥ 2 ^ 63)=false:=bO (by omega);rw [k,l] <;> rfl) (by rw [e]; exact w) ⟨.str ⟨#[c]⟩,n,f.tok _,⟨_,rfl⟩,q⟩) (hs _ _)
theorem ω {x:V} (r:wn [x] us):∃ u,us=[u]/\xk x u:=by
 cases r with
 | cons r1 r2=>cases r2; exact ⟨_,rfl,r1⟩
theorem yp6 {x:V} (r:wn [x,y] us):∃ u w',us=[u,w']/\xk x u/\xk y w':=by
 cases r with
 | cons r1 r2 =>
  cases r2 with
  | cons r3 r4=>cases r4; exact ⟨_,_,rfl,r1,r3⟩
theorem ι (hc:X.calm=true):zx X (.builtin "max") (fun xs H Q=>∃ i j,xs=[.int i,.int j]/\Q (.int (if j > i then j else i)) H):=by
 intro a s σ H xs c Q I r h;obtain ⟨i,j,rfl,q⟩:=h;obtain ⟨u,e,rfl,⟨t,rfl⟩,⟨d,rfl⟩⟩:=yp6 r;refine max_two_ints (I.ok.hd hc) fun f b k=>⟨_,H,I.kept k,?_,q⟩;by_cases hj:j > i
 .rw [if_pos hj,if_pos hj]; exact ⟨_,rfl⟩
 .rw [if_neg hj,if_neg hj]; exact ⟨_,rfl⟩
theorem Ă (hc:X.calm=true):zx X (.builtin "min") (fun xs H Q=>∃ i j,xs=[.int i,.int j]/\Q (.int (if j < i then j else i)) H):=by
 intro a s σ H xs c Q I r h;obtain ⟨i,j,rfl,q⟩:=h;obtain ⟨u,e,rfl,⟨t,rfl⟩,⟨d,rfl⟩⟩:=yp6 r;refine min_two_ints (I.ok.hd hc) fun f b k=>⟨_,H,I.kept k,?_,q⟩;by_cases hj:j < i
 .rw [if_pos hj,if_pos hj]; exact ⟨_,rfl⟩
 .rw [if_neg hj,if_neg hj]; exact ⟨_,rfl⟩
theorem ą:zx X (.type "int") (fun xs H Q=>(∃ i,xs=[.int i]/\Q (.int i) H)\/∃ k,xs=[.bl k]/\Q (.int (if k then 1 else 0)) H):=by
 intro a s σ H xs c Q I r h;rcases h with ⟨i,rfl,q⟩ | ⟨k,rfl,q⟩
 .obtain ⟨u,rfl,t,rfl⟩:=ω r;exact call_int_int ⟨.int i,H,I,⟨_,rfl⟩,q⟩
 .obtain ⟨u,rfl,b⟩:=ω r;cases b;exact call_int_bool ⟨.int (if k then 1 else 0),H,I.tok _,⟨_,rfl⟩,q⟩
end
structure yr1 (h:Heap) (x dx C:Addr) (mA:Str->Option Value):Prop where
 obj:h.get? x=some (W.instObj C dx)
 ns:h.Ns1 dx mA
 ne:dx≠x
theorem ygd {h:Heap} {dx:Addr} (n:h.Ns1 dx mA):∃ od,h.get? dx=some od/\∀ name,W.lookIn name od=some (mA name):=by
 obtain ⟨o,c,l,g,f,d,_,i⟩:=n;refine ⟨o,g,fun name=>?_⟩;have e:=i name;unfold nsFind findBy at e;rw [<- Array.find?_toList] at e;unfold W.lookIn;rw [f];dsimp only
 split
 .rename_i y q
  rw [q] at e;exact congrArg some e
 .rename_i q
  rw [q] at e
  have a:c.toList.any (·.refKey)=false:=by
   rw [List.any_eq_false];intro y k;obtain ⟨z,t,b⟩:=d y (Array.mem_toList_iff.mp k);simp [DictEntry.refKey,b]
  have j:¬ c.toList.any (·.refKey)=true:=by rw [a]; exact bK
  rw [if_neg j];exact congrArg some e
theorem yr1.look {h:Heap} {x dx:Addr} (I:yr1 h x dx C mA):∃ od,W.InstAt h x (W.instObj C dx) C (some od)/\∀ name,W.lookIn name od=some (mA name) :=
 let ⟨od,ho,hl⟩:=ygd I.ns
 ⟨od,⟨I.obj,rfl,rfl,ho⟩,hl⟩
section
variable {prog:Program} {w:World} {A:Around} {s:Shared} {K:W.Frag} {x dx f:Addr} {name:Str} {v:Value}
theorem ypd {expr:Bool} (X:K.In s.heap) (I:yr1 s.heap x dx C mA) (hg:W.plainGet K C name=true) (hh:W.hasDictIn K C=true)
  (ha:W.findIn K (.ref C) name=some none) (hv:mA name=some v) (hv':W.handedIn v=true) (h:Q v { s with toks:=s.toks+1 }) :
  wpAny (model prog w) A (getAttr (.ref x) name expr) Q E s:=by
 obtain ⟨b,J,a⟩:=I.look;exact W.get_value X J (W.plainGet_of hg).1 (W.findObj_own hh ha rfl (by rw [a,hv])) hv' h
theorem ykn {pl:Sem Bool} {Q:Value × List Value->Shared->Prop} (X:K.In s.heap) (I:yr1 s.heap x dx C mA) (hg:W.plainGet K C name=true)
  (hf:W.findIn K (.ref C) name=some (some (.ref f))) (ht:W.isFn K (.ref f)=true) (hv:mA name=none) (h:Q (.ref f,[.ref x]) s) :
  wpAny (model prog w) A (getMethod (.ref x) name pl) Q E s:=by
 obtain ⟨a,J,b⟩:=I.look;exact W.method_fn X J (W.plainGet_of hg).1 (W.plainGet_of hg).2 hf (beq_iff_eq.mp ht) (by show (W.lookIn name a).map (·.isSome)=some false; rw [b,hv]; rfl) h
theorem yov {ns:List Str} {Q:Unit->Shared->Prop} (X:K.In s.heap) (I:yr1 s.heap x dx C mA)
  (hs:W.findIn K (.ref C) "__setattr__"=some (some (.builtin "object.__setattr__"))) (hp:W.plainOver K C=true) (ht:W.takerIn K C name=some none) (hh:W.hasDictIn K C=true)
  (hw:PySem.Within mA ns) (hsz:ns.length <= sizeLine)
  (h:∀ h',yr1 h' x dx C (fun y=>if y=name then some v else mA y)->Heap.SameBut dx s.heap h'->Q () { s with heap:=h',toks:=s.toks+2 }) :
  wpAny (model prog w) A (setAttr (.ref x) name v) Q E s:=by
 obtain ⟨n,J,q⟩:=I.look;refine W.set_plain X J hs (W.osa_open (s:={ s with toks:=s.toks+1 }) (r:=none) X J hp ht fun b=>?_);obtain ⟨o,l,e⟩:=W.any_some hh;have k:s.heap.get? x=some ⟨.ref C,some dx,.plain,#[]⟩:=I.obj;refine bw (bE (bw (bw (wpAny_loadPart k (bw (W.Looks.here (s:={ s with toks:=s.toks+1 }) (W.looks_clsIn X l) ?_))))));rw [e];refine bE (a:=some dx) (bw (bE (bw ?_)));refine wpAny_nsSet1 (s:={ s with toks:=s.toks+1 }) I.ns fun h' c d=>?_;obtain ⟨p,m,j,i,g,f⟩:=c.count (PySem.Within.cons name v hw);refine bw (wpAny_lookBehind i (by rw [g]; exact pastItsLine_dict (cc f (by rw [ce]; omega))) ?_);exact bE (h _ ⟨(d.2 _ (Ne.symm I.ne)).trans I.obj,c,I.ne⟩ d)
theorem ydd {R:Result->Shared->Prop} {vs:List Value} (X:K.In s.heap) (hm:W.makesIn K C=true)
  (hi:W.findIn K (.ref C) "__init__"=some (some (.ref f))) (hf:W.typeIn K (.ref f)=some (.type "function"))
  (h:codeAny (model prog w) (A.under (.builtin "type.__call__" ⟨.ref C :: vs,kw⟩)) (.call (.ref f) ⟨.ref (s.heap.objs.size+1) :: vs,kw⟩) (W.InitBack (s.heap.objs.size+1) R)
   { s with heap:=(s.heap.push W.emptyDict).push (W.instObj C s.heap.objs.size) }) :
  codeAny (model prog w) A (.call (.ref C) ⟨vs,kw⟩) R s:=by
 obtain ⟨b,g,d,t,c⟩:=s;exact W.make_core (W.makes_of X hm) (W.looks_findIn X hi) (fun a=>W.bind_fn X a hf) (.inl rfl) h
end
def jn (f:Str) (v:V):List (Str × V)->List (Str × V)
 | []=>[(f,v)]
 | (g,x) :: r=>if g=f then (g,v) :: r else (g,x) :: jn f v r
theorem ñ (f g:Str) (v:V):∀ fs:List (Str × V),(jn f v fs).lookup g=if g=f then some v else fs.lookup g
 | []=>by
  show List.lookup g [(f,v)]=_;by_cases h:g=f
  .have a:(g == f)=true:=beq_iff_eq.mpr h;simp only [List.lookup,a,if_pos h]
  .have a:(g == f)=false:=cU.mpr h;simp only [List.lookup,a,if_neg h]
 | (k,x) :: r=>by
  have b:=ñ f g v r;rw [show jn f v ((k,x) :: r)=(if k=f then (k,v) :: r else (k,x) :: jn f v r) from rfl];by_cases hk:k=f
  .rw [if_pos hk];by_cases h:g=k
   .have a:(g == k)=true:=beq_iff_eq.mpr h;simp only [List.lookup,a,if_pos (h.trans hk)]
   .have a:(g == k)=false:=cU.mpr h;simp only [List.lookup,a,if_neg (fun e:g=f=>h (e.trans hk.symm))]
  .rw [if_neg hk];by_cases h:g=k
   .have a:(g == k)=true:=beq_iff_eq.mpr h;simp only [List.lookup,a,if_neg (fun e:g=f=>hk (h.symm.trans e))]
   .have a:(g == k)=false:=cU.mpr h;simp only [List.lookup,a];exact b
theorem ý (f:Str) (v:V):∀ fs:List (Str × V),f∈(jn f v fs).map (·.1)/\∀ g,g∈fs.map (·.1)->g∈(jn f v fs).map (·.1)
 | []=>⟨by simp [jn],fun g h=>by simp at h⟩
 | (k,x) :: r=>by
  obtain ⟨a,b⟩:=ý f v r;rw [show jn f v ((k,x) :: r)=(if k=f then (k,v) :: r else (k,x) :: jn f v r) from rfl];by_cases hk:k=f
  .rw [if_pos hk];subst hk;exact ⟨by simp,fun g h=>by simpa using h⟩
  .rw [if_neg hk];refine ⟨?_,fun g h=>?_⟩
   .rw [cm];exact cb _ a
   .rw [cm] at h ⊢;rcases bI.mp h with e | e
    .exact bI.mpr (.inl e)
    .exact cb _ (b g e)
theorem ó (f:Str) (v:V):∀ fs:List (Str × V),(jn f v fs).length <= fs.length+1
 | []=>by simp [jn]
 | (k,x) :: r=>by
  have a:=ó f v r;rw [show jn f v ((k,x) :: r)=(if k=f then (k,v) :: r else (k,x) :: jn f v r) from rfl];by_cases hk:k=f
  .rw [if_pos hk,ce,ce]; omega
  .rw [if_neg hk,ce,ce]; omega
theorem ybm.some_of {o:Option Value} (r:ybm (some v) o):∃ u,o=some u/\xk v u:=by
 cases o with
 | none=>exact (show False from r).elim
 | some u=>exact ⟨u,rfl,r⟩
theorem ybm.none_of {o:Option Value} (r:ybm none o):o=none:=by
 cases o with
 | none=>rfl
 | some u=>exact (show False from r).elim
theorem yga (r:xk v u):W.handedIn u=true:=by
 cases v with
 | non=>cases (show u=Value.none from r); rfl
 | bl b=>cases (show u=Value.bool b from r); rfl
 | int i=>obtain ⟨t,e⟩:=(show ∃ t,u=Value.int i t from r); cases e; rfl
 | str x=>obtain ⟨t,e⟩:=(show ∃ t,u=Value.str x t from r); cases e; rfl
 | byt b=>obtain ⟨t,e⟩:=(show ∃ t,u=Value.bytes b t from r); cases e; rfl
 | flt b=>obtain ⟨t,e⟩:=(show ∃ t,u=Value.float b t from r); cases e; rfl
 | ref a=>cases (show u=Value.ref a from r); rfl
 | ty n=>cases (show u=Value.type n from r); rfl
section
variable {w:World} {h:Heap} {dx:Addr} {fs fs':List (Str × V)}
theorem Ů (hok:HOk P w H h) (e:H a=some (.ins C dx fs)):∃ mA,yr1 h a dx C mA/\(∀ f,ybm (fs.lookup f) (mA f))/\PySem.Within mA (fs.map (·.1))/\fs.length <= 1000/\H dx=some (.own a):=by
 obtain ⟨d,z,c,b,mA,n,r,q⟩:=(show xf P w H h a (.ins C dx fs) from hok a _ e);exact ⟨mA,⟨b,n,c⟩,r,q,z,d⟩
end
structure Cls (K:W.Frag) (C:Addr):Prop where
 pg:W.plainGet K C Str.empty=true
 hd:W.hasDictIn K C=true
 po:W.plainOver K C=true
 sa:W.findIn K (.ref C) "__setattr__"=some (some (.builtin "object.__setattr__"))
theorem Cls.get {K:W.Frag} (c:Cls K C) (f:Str):W.plainGet K C f=true:=c.pg
def vo (K:W.Frag) (C:Addr) (f:Str):Prop:=W.findIn K (.ref C) f=some none
theorem vo.taker {K:W.Frag} {f:Str} (n:vo K C f):W.takerIn K C f=some none:=by
 unfold W.takerIn;rw [show W.findIn K (.ref C) f=some none from n];rfl
structure Con (K:W.Frag) (C:Addr) (f:Str) (v:V) (u:Value):Prop where
 at_:W.findIn K (.ref C) f=some (some u)
 rel:xk v u
 get:W.specialIn K u "__get__"=some none
 cp:W.copiedNames.contains f=false
structure yr2 (K:W.Frag) (C:Addr) (m:Str) (f:Addr):Prop where
 at_:W.findIn K (.ref C) m=some (some (.ref f))
 fn:W.isFn K (.ref f)=true
 kp:W.keepIn K (.ref f)=true
section
variable {s:Shared} {dx:Addr} {fs:List (Str × V)} {f:Str} {A:Around}
theorem ye7 {b:Bool} (I:Inv X pins σ H s) (e:H a=some (.ins C dx fs)) (c:Cls X.K C) (n:vo X.K C f) (l:fs.lookup f=some v)
  (h:∀ u s',Inv X pins σ H s'->xk v u->Q u s'):wpAny (model X.prog X.w) A (getAttr (.ref a) f b) Q E s:=by
 obtain ⟨i,O,r,_,_,_⟩:=Ů I.hok e;obtain ⟨u,g,d⟩:=ybm.some_of (v:=v) (o:=i f) (by rw [<- l]; exact r f);exact ypd I.kIn O (c.get f) c.hd n g (yga d) (h u _ (I.tok _) d)
theorem Å {m:Str} {g:Addr} {pl:Sem Bool} {Q:Value × List Value->Shared->Prop} (I:Inv X pins σ H s) (e:H a=some (.ins C dx fs)) (c:Cls X.K C) (k:yr2 X.K C m g) (l:fs.lookup m=none)
  (h:Q (.ref g,[.ref a]) s):wpAny (model X.prog X.w) A (getMethod (.ref a) m pl) Q E s:=by
 obtain ⟨d,O,r,_,_,_⟩:=Ů I.hok e;have b:d m=none:=ybm.none_of (by rw [<- l]; exact r m);exact ykn I.kIn O (c.get m) k.at_ k.fn b h
theorem yey {Q:Unit->Shared->Prop} (I:Inv X pins σ H s) (e:H a=some (.ins C dx fs)) (c:Cls X.K C) (n:vo X.K C f) (hl:fs.length < 1000) (ry:xk y u)
  (h:∀ s',Inv X pins σ (upd H a (.ins C dx (jn f y fs))) s'->Q () s'):wpAny (model X.prog X.w) A (setAttr (.ref a) f u) Q E s:=by
 obtain ⟨k,O,r,j,_,i⟩:=Ů I.hok e;have l:(fs.map (·.1)).length <= sizeLine:=by rw [bv,sizeLine_eq]; omega
 refine yov I.kIn O c.sa c.po n.taker c.hd j l fun B d t=>h _ ?_;have m:∃ o,B.get? dx=some o:=let ⟨o,_,_,e',_⟩:=d.ns; ⟨o,e'⟩;refine I.write (x:=a) (e:=dx) (by rw [e]; exact True.intro) (.inr i) (fun b q v z=>(t.2 b v).trans z) m ?_;refine ⟨by rw [yq O.ne]; exact i,?_,O.ne,d.obj,_,d.ns,fun g=>?_,fun g p=>?_⟩
 .have:=ó f y fs; omega
 .show ybm ((jn f y fs).lookup g) (if g=f then some u else k g);rw [ñ];by_cases q:g=f
  .rw [if_pos q,if_pos q]; exact ry
  .rw [if_neg q,if_neg q]; exact r g
 .by_cases q:g=f
  .rw [q]; exact (ý f y fs).1
  .refine (ý f y fs).2 g (j g fun z=>p ?_);show (if g=f then some u else k g)=none;rw [if_neg q]; exact z
theorem Inv.made (I:Inv X pins σ H s):Inv X pins σ (upd (upd H s.heap.objs.size (.own (s.heap.objs.size+1))) (s.heap.objs.size+1) (.ins C s.heap.objs.size []))
  { s with heap:=(s.heap.push W.emptyDict).push (W.instObj C s.heap.objs.size) }:=by
 have c:(s.heap.push W.emptyDict).get? s.heap.objs.size=some W.emptyDict:=bN s.heap rfl
 have f:((s.heap.push W.emptyDict).push (W.instObj C s.heap.objs.size)).get? (s.heap.objs.size+1)=some (W.instObj C s.heap.objs.size):=by
  have:=bN (s.heap.push W.emptyDict) (o:=W.instObj C s.heap.objs.size) rfl
  rwa [Heap.size_push] at this
 have j:(s.heap.push W.emptyDict).Ns s.heap.objs.size (fun _=>none):=⟨W.emptyDict,#[],_,c,rfl,(fun e g=>absurd g (by simp)),fun _=>rfl⟩;have h:=I.laid (a:=s.heap.objs.size) (o:=.own (s.heap.objs.size+1)) (h':=s.heap.push W.emptyDict) (t':=s.toks) (fun b u q=>bz _ q) (bA _) ⟨_,c⟩;refine h.laid (a:=s.heap.objs.size+1) (o:=.ins C s.heap.objs.size []) (t':=s.toks) (fun b u q=>bz _ q) (Nat.le_of_eq (Heap.size_push _ _)) ?_;have d:s.heap.objs.size≠s.heap.objs.size+1:=bU (cX _);refine ⟨by rw [yq d,yc],bR _,d,f,fun _=>none,(Heap.Ns1.of_empty j).at fun o q=>bz _ q,fun _=>True.intro,fun y i=>absurd rfl i⟩
theorem ynz {prog:Program} {w:World} {env:Env} {pos:Pos} (hb:attributeBase e f env (eval e env)=eval e env)
  (h:wpAny (model prog w) A (eval e env) (fun o s₁=>wpAny (model prog w) A (getAttr o f true) Q E s₁) E s):wpAny (model prog w) A (eval (.Attribute e f pos) env) Q E s :=
 Attribute_any_ h (by rw [arm_eval_Attribute,hb])
end
def yz4 (K:W.Frag) (ta:TE) (f:Str):TE:=fun σ H Q=>ta σ H fun x H1=>∃ a C dx fs v,x=.ref a/\H1 a=some (.ins C dx fs)/\Cls K C/\vo K C f/\fs.lookup f=some v/\Q v H1
def va9 (K:W.Frag) (ta tv:TE) (f:Str):TS:=fun D σ H=>tv σ H fun y H1=>ta σ H1 fun x H2=>∃ a C dx fs,x=.ref a/\H2 a=some (.ins C dx fs)/\Cls K C/\vo K C f/\fs.length < 1000 /\
 D.nx σ (upd H2 a (.ins C dx (jn f y fs)))
section
variable {o value:Expr} {f:Str} {pos pos' tpos:Pos} {tv:TE}
theorem yp (he:PE X e ta) (hb:attributeBase e f X.env (eval e X.env)=eval e X.env):PE X (.Attribute e f pos) (yz4 X.K ta f):=by
 refine .mk fun b s σ H Q I h=>?_;refine ynz hb (thn (he b s σ H _ I h) fun u p h'=>?_);obtain ⟨x,k,m,j,a,C,w,y,v,d,i,c,n,l,q⟩:=h';subst d;obtain rfl:u=Value.ref a:=j;exact ye7 m i c n l fun t r g o=>⟨v,k,g,o,q⟩
theorem vk (ha:PE X o ta) (hv:PE X value tv) (hs:swapsWith value (some (.Attribute o f pos')) pos.line X.env=pure false):PS X (.Assign [.Attribute o f pos'] value pos) (va9 X.K ta tv f):=by
 refine .mk fun b s σ H D I h=>?_;refine plainObj_wpAny_Assign_Attribute (thn (hv b s σ H _ I h) fun u d ⟨y,r,t,v,q⟩=>thn (ha b d σ r _ t q) fun i w h'=>?_) hs;obtain ⟨x,B,g,j,a,C,z,E,e,k,c,n,l,m⟩:=h';subst e;obtain rfl:i=Value.ref a:=j;exact yey g k c n l v fun A p=>⟨σ,_,p,m⟩
end
section
variable {s:Shared} {A:Around} {c:Value} {b:Bool}
inductive x4 (K:W.Frag) (H:Hp):V->Value->Prop where
 | non:x4 K H .non (.type "NoneType")
 | bl (x:Bool):x4 K H (.bl x) (.type "bool")
 | int (i:Int):x4 K H (.int i) (.type "int")
 | str (x:Str):x4 K H (.str x) (.type "str")
 | flt (x:UInt64):x4 K H (.flt x) (.type "float")
 | lst {a:Addr} {xs:List V} (e:H a=some (.lst xs)):x4 K H (.ref a) (.type "list")
 | frz {a:Addr} {o:Obj} {xs:List V} (e:H a=some (.frz o (.lst xs))):x4 K H (.ref a) (.type "list")
 | tup {a:Addr} {xs:List V} (e:H a=some (.tup xs)):x4 K H (.ref a) (.type "tuple")
 | dK {a:Addr} {kvs:List (Key × V)} (e:H a=some (.dK kvs)):x4 K H (.ref a) (.type "dict")
 | dT {a:Addr} {kvs:List (List Key × V)} (e:H a=some (.dT kvs)):x4 K H (.ref a) (.type "dict")
 | ins {a C dx:Addr} {fs:List (Str × V)} (e:H a=some (.ins C dx fs)) (cl:Cls K C) (ha:W.findIn K (.ref C) "__class__"=some (some (.builtin "object.__class__")))
   (hn:W.specialIn K (.builtin "object.__class__") "__get__"=some (some (.builtin "getset_descriptor.__get__"))) (htk:W.takesIn K (.builtin "object.__class__")=some true)
   (hm:W.mroIn K C (.type "object")=some true):x4 K H (.ref a) (.ref C)
theorem yfs {x:V} {t:Value} (I:Inv X pins σ H s) (rx:xk x u) (ty:x4 X.K H x t) (e:W.kitOne X.K t c=some b) (h:∀ tk,Q (.bool b) { s with toks:=tk }) :
  wpAny (model X.prog X.w) A (call (.builtin "isinstance") [u,c]) Q E s:=by
 cases ty with
 | non=>cases (show u=Value.none from rx); exact W.kia_one W.kitx_none I.kIn True.intro e (fun z=>nomatch z) h
 | bl y=>cases (show u=Value.bool y from rx); exact W.kia_one W.kitx_bool I.kIn True.intro e (fun z=>nomatch z) h
 | int i=>obtain ⟨t,q⟩:=(show ∃ t,u=Value.int i t from rx); cases q; exact W.kia_one W.kitx_int I.kIn True.intro e (fun z=>nomatch z) h
 | str y=>obtain ⟨t,q⟩:=(show ∃ t,u=Value.str y t from rx); cases q; exact W.kia_one W.kitx_str I.kIn True.intro e (fun z=>nomatch z) h
 | flt y=>obtain ⟨t,q⟩:=(show ∃ t,u=Value.float y t from rx); cases q; exact W.kia_one W.kitx_float I.kIn True.intro e (fun z=>nomatch z) h
 | @lst a xs ea =>
  cases (show u=Value.ref a from rx);obtain ⟨_,_,n,_,d⟩:=(show xf X.prog X.w H s.heap a (.lst xs) from I.hok a _ ea)
  exact W.kia_one W.kitx_list I.kIn ⟨_,d,rfl⟩ e (fun z=>nomatch z) h
 | @frz a ob xs ea =>
  cases (show u=Value.ref a from rx);obtain ⟨_,_,_,n,_,d⟩:=(show xf X.prog X.w H s.heap a (.frz ob (.lst xs)) from I.hok a _ ea)
  exact W.kia_one W.kitx_list I.kIn ⟨_,d,rfl⟩ e (fun z=>nomatch z) h
 | @tup a xs ea =>
  cases (show u=Value.ref a from rx);obtain ⟨_,_,_,p⟩:=(show xf X.prog X.w H s.heap a (.tup xs) from I.hok a _ ea);obtain ⟨o,d,f,_⟩:=p
  exact W.kia_one W.kitx_tuple I.kIn ⟨o,d,f⟩ e (fun z=>nomatch z) h
 | @dK a kvs ea =>
  cases (show u=Value.ref a from rx);obtain ⟨_,_,k,_,p⟩:=(show xf X.prog X.w H s.heap a (.dK kvs) from I.hok a _ ea);obtain ⟨o,j,g,d,f,_⟩:=p
  exact W.kia_one W.kitx_dict I.kIn ⟨o,d,f.1⟩ e (fun z=>nomatch z) h
 | @dT a kvs ea =>
  cases (show u=Value.ref a from rx);obtain ⟨_,_,xs,_,o,j,g,d,f,_⟩:=(show xf X.prog X.w H s.heap a (.dT kvs) from I.hok a _ ea)
  exact W.kia_one W.kitx_dict I.kIn ⟨o,d,f.1⟩ e (fun z=>nomatch z) h
 | @ins a C dx fs ea cl ha hn htk hm =>
  cases (show u=Value.ref a from rx);obtain ⟨m,O,_⟩:=Ů I.hok ea;obtain ⟨l,J,_⟩:=O.look
  exact W.kia_one (W.kitx_own (cl.get _) cl.hd ha hn htk hm) I.kIn J e (fun z=>nomatch z) h
end
structure jq (k:Nat) (A:Around):Prop where
 hd:A.handled=none
 dp:A.depth+3 * k+5 < recursionLimit
 un:A.units+16 * k+200 < cLine
theorem jq.mono {j k:Nat} {A:Around} (r:jq k A) (h:j <= k):jq j A:=⟨r.hd,by have:=r.dp; omega,by have:=r.un; omega⟩
theorem jq.deeper {k:Nat} {A:Around} (r:jq (k+1) A) (env:Env):jq k (A.deeper env) :=
 ⟨r.hd,by have:=r.dp; show A.depth+1+3 * k+5 < _; omega,by have:=r.un; show A.units+3+16 * k+200 < _; omega⟩
theorem yew {A:Around} :(A.under (.builtin "type.__call__" ⟨.ref C :: us,kw⟩)).depth=A.depth+1:=by
 first | rfl | simp [Around.under,Code.weight,Code.isCreation,Code.isGuard,Code.isCaller,Code.frames,Code.isFrame,guardIds]
theorem ye3 {A:Around} :(A.under (.builtin "type.__call__" ⟨.ref C :: us,kw⟩)).units=A.units+1:=by
 first | rfl | simp [Around.under,Code.cUnits,Code.frames,Code.isFrame]
theorem jq.make {k:Nat} {A:Around} (r:jq (k+1) A) (C:Addr) (us:List Value) (kw:List (Str × Value)):jq k (A.under (.builtin "type.__call__" ⟨.ref C :: us,kw⟩)) :=
 ⟨r.hd,by have:=r.dp; rw [yew]; omega,by have:=r.un; rw [ye3]; omega⟩
theorem jq.depth {k:Nat} {A:Around} (r:jq k A):A.depth < recursionLimit:=by have:=r.dp; omega
theorem jq.units {k:Nat} {A:Around} (r:jq k A):A.units+64 < cLine:=by have:=r.un; omega
def yr4:TA:=fun _ H Q=>Q [] H
def yxl (ta:TE) (tr:TA):TA:=fun σ H Q=>ta σ H fun x H1=>tr σ H1 fun xs H2=>Q (x :: xs) H2
section
variable {t:TA} {pos:Pos}
theorem ye:PA X [] yr4:=.mk fun _ _ _ _ H Q I h=>Calls.spliced_nil ⟨[],H,I,.nil,h⟩
theorem yb (ha:PE X e te) (hr:PA X es t) (hs:starEach (e :: es) X.env=(false,eval e X.env) :: starEach es X.env:=by rfl):PA X (e :: es) (yxl te t):=by
 refine .mk fun b a s σ H Q I h=>?_;rw [hs];show wpAny _ _ (spliced ((false,eval e X.env) :: backTo b (starEach es X.env))) _ _ s;refine Calls.spliced_cons (thn (ha a s σ H _ I h) fun u c h'=>?_);obtain ⟨x,j,l,m,f⟩:=h';exact thn (hr b a c σ j _ l f) fun o p ⟨n,k,d,g,i⟩=>⟨x :: n,k,d,.cons m g,i⟩
def va6 (t:TA):TE:=fun σ H Q=>t σ H fun xs H1=>xs.length <= sizeLine/\∀ p,H1 p=none->Q (.ref p) (upd H1 p (.tup xs))
def va1 (t:TA):TE:=fun σ H Q=>t σ H fun xs H1=>xs.length <= sizeLine/\∀ p,H1 p=none->Q (.ref p) (upd H1 p (.lst xs))
theorem yiq {x1} (h:PA X es t):PE X (.Tuple es x1 pos) (va6 t):=by
 refine .mk fun a s σ H Q I k=>?_;refine wpAny_Tuple_spliced (thn (h pos a s σ H _ I k) fun g c ⟨j,d,f,r,z,q⟩=>⟨by rw [<- r.length]; exact z,?_⟩);have i:d c.heap.objs.size=none:=f.hok.fresh (bA _);refine ⟨.ref c.heap.objs.size,upd d c.heap.objs.size (.tup j),f.laid (t':=c.toks) (fun b u e=>bz _ e) (bA _) ?_,rfl,q _ i⟩;exact ⟨z,g,r,⟨_,bN _ rfl,rfl,_,rfl⟩⟩
theorem xi (h:PA X es t):PE X (.List es pos) (va1 t):=by
 refine .mk fun a s σ H Q I k=>?_;refine wpAny_List_spliced (thn (h pos a s σ H _ I k) fun g c ⟨j,d,f,r,z,q⟩=>⟨by rw [<- r.length]; exact z,?_⟩);have i:d c.heap.objs.size=none:=f.hok.fresh (bA _);refine ⟨.ref c.heap.objs.size,upd d c.heap.objs.size (.lst j),f.laid (t':=c.toks) (fun b u e=>bz _ e) (bA _) ?_,rfl,q _ i⟩;exact ⟨z,g,0,r,bN _ rfl⟩
end
abbrev Sp:=List V->Hp->VK->XK->Prop
abbrev CXT:=List Env->Hp->Shared->XK->Value->Shared->Prop
variable {CX:CXT}
structure yr7 (P:Program) (w:World) (K:W.Frag) (mg:Str->Option Value) (base:Heap) (A:Around) (outer:List Env) (s:Shared) (H:Hp):Prop where
 frames:A.frames=some outer
 mod:Mod K mg base
 bs:∀ b o,base.get? b=some o->s.heap.get? b=some o/\H b=none
 bsz:base.objs.size <= s.heap.objs.size
 funs:s.heap.FunFrames base outer
 frf:∀ b∈frs outer,H b=none
 hok:HOk P w H s.heap
 bare:AllBare s.gens
def CE (outer:List Env) (P:Program) (w:World) (H:Hp) (s:Shared) (Q:VK) (u:Value) (s':Shared):Prop :=
 ∃ v H',s'.os=s.os/\AllBare s'.gens/\Un (frs outer) [] H H' s.heap s'.heap/\HOk P w H' s'.heap/\xk v u/\Q v H'
def CR (CX:CXT) (outer:List Env) (P:Program) (w:World) (H:Hp) (s:Shared) (Q:VK) (E:XK) (r:Result) (s':Shared):Prop :=
 match r with
 | .ok (.ret u)=>CE outer P w H s Q u s'
 | .ok _=>False
 | .error e=>CX outer H s E e s'
structure wa (P:Program) (w:World) (K:W.Frag) (mg:Str->Option Value) (base:Heap) (CX:CXT) (k:Nat) (f:Addr) (fd:FuncData) (ps:List Str) (sp:Sp):Prop where
 len:∀ vs H Q E,sp vs H Q E->vs.length=ps.length
 run:∀ (A:Around) (outer:List Env) (s:Shared) (H:Hp) (args:Args) (us:List Value) (vs:List V) (Q:VK) (E:XK),jq k A->yr7 P w K mg base A outer s H->BindsTo s fd args (ps.zip us)->wn vs us->sp vs H Q E ->
  codeAny (model P w) A (.call (.ref f) args) (CR CX outer P w H s Q E) s
theorem yr7.make {w:World} {K:W.Frag} {mg:Str->Option Value} {base:Heap} {A:Around} {outer:List Env} {s:Shared} (e:yr7 P w K mg base A outer s H) (C:Addr) (us:List Value) (kw:List (Str × Value)) :
  yr7 P w K mg base (A.under (.builtin "type.__call__" ⟨.ref C :: us,kw⟩)) outer s H:=⟨by first | exact e.frames | (simpa [Around.under,Code.envs,Code.isFrame,pushEnvs] using e.frames),e.mod,e.bs,e.bsz,e.funs,e.frf,e.hok,e.bare⟩
section
variable {s:Shared}
theorem Inv.env0 (I:Inv X pins σ H s):yr7 X.prog X.w X.K X.mg X.base X.A X.stack s H :=
 ⟨I.ok.frames,I.ok.mod,I.bs,cc I.ok.bsz I.sz,I.stack,I.stkFree,I.hok,I.bare⟩
theorem Inv.after {Q:VK} (I:Inv X pins σ H s) (h:CE X.stack X.prog X.w H s Q u s'):EP X pins σ Q u s':=by
 obtain ⟨v,i,k,a,f,c,r,q⟩:=h;obtain ⟨j,g,d,t,e⟩:=s';obtain rfl:e=s.os:=k;exact ⟨v,i,I.call (h':=j) (g':=g) (d':=d) (t':=t) (ch:=[]) f c a (fun b z=>absurd z (by simp)),r,q⟩
end
def yxf (sp:Sp) (dvs:List V) (E:XK) (t:TA):TE:=fun σ H Q=>t σ H fun vs H1=>sp (vs++dvs) H1 Q E
def ycm (C:Addr) (m:Str) (sp:Sp) (dvs:List V) (E:XK) (ta:TE) (t:TA):TE:=fun σ H Q=>ta σ H fun x H1=>∃ a dx fs,x=.ref a/\H1 a=some (.ins C dx fs)/\fs.lookup m=none /\
 t σ H1 fun vs H2=>sp (x :: (vs++dvs)) H2 Q E
def yq4 (C:Addr) (sp:Sp) (dvs:List V) (E:XK) (t:TA):TE:=fun σ H Q=>t σ H fun vs H1=>∀ x dx,H1 x=none->H1 dx=none->dx≠x ->
 sp (.ref x :: (vs++dvs)) (upd (upd H1 dx (.own x)) x (.ins C dx [])) (fun v H2=>v=.non/\Q (.ref x) H2) E
def uy (K:W.Frag) (fd:FuncData) (ps:List Str) (ds:List Value):Prop :=
 ∀ (s:Shared) (us:List Value),K.In s.heap->(us++ds).length=ps.length->BindsTo s fd ⟨us,[]⟩ (ps.zip (us++ds))
theorem uy.all {K:W.Frag} {ps:List Str} (h:∀ us:List Value,us.length=ps.length->bindArgs fd ⟨us,[]⟩=pure (ps.zip us)):uy K fd ps []:=fun s us _ a=>by
 rw [cY] at a ⊢;exact .of_eq (h us a)
def Ò (CX:CXT) (X:Cx) (E:XK):Prop:=∀ (pins:List (Addr × Obj)) (σ:St) (H:Hp) (s:Shared) (e:Value) (s':Shared),Inv X pins σ H s->CX X.stack H s E e s'->X.xe e s'
section
variable {k:Nat} {f:Addr} {ps:List Str} {sp:Sp} {dvs:List V} {ds:List Value} {E:XK} {x m:Str} {pos apos:Pos} {o:Expr} {t:TA}
theorem yh6 {s:Shared} {Q:VK} (F:wa X.prog X.w X.K X.mg X.base CX k f fd ps sp) (hr:jq k X.A) (hb:uy X.K fd ps ds) (hd:wn dvs ds) (hx:Ò CX X E)
  (I:Inv X pins σ H s) (r:wn vs us) (h:sp (vs++dvs) H Q E):wpAny (model X.prog X.w) X.A (call (.ref f) us) (EP X pins σ Q) X.xe s:=by
 have b:wn (vs++dvs) (us++ds):=r.append hd;have d:(us++ds).length=ps.length:=by rw [<- b.length]; exact F.len _ _ _ _ h
 refine wpAny_call (codeAny_mono (F.run X.A X.stack s H ⟨us,[]⟩ (us++ds) (vs++dvs) Q E hr I.env0 (hb s us I.kIn d) b h) fun r c a=>?_)
 cases r with
 | error e=>exact hx pins σ H s e c I a
 | ok fl =>
  cases fl with
  | ret u=>exact I.after a
  | next=>exact False.elim a
  | brk=>exact False.elim a
  | cont=>exact False.elim a
theorem vi (F:wa X.prog X.w X.K X.mg X.base CX k f fd ps sp) (hr:jq k X.A) (hg:Gl X x) (hm:X.mg x=some (.ref f)) (hk:W.keepIn X.K (.ref f)=true) (hb:uy X.K fd ps ds) (hd:wn dvs ds) (hx:Ò CX X E)
  (ha:PA X (e :: es) t) (hdb:(x == ("__debug__":Str))=false:=by decide) (he:starEach (e :: es) X.env=(false,eval e X.env) :: starEach es X.env:=by rfl) (hpl:(backTo pos (starEach es X.env)).any (·.1)=false:=by rfl) :
  PE X (.Call (.Name x p) (e :: es) [] pos) (yxf sp dvs E t):=by
 refine .mk fun a s σ H Q I h=>?_;refine wpAny_Call_Name_kw (j9 I hg hm ?_ hdb);refine W.callWith_K (h₀:=X.base) I.ok.mod.kin hk (thn (ha pos a s σ H _ I h) fun d c ⟨g,i,b,r,q⟩=>⟨b.kIn,?_⟩) he hpl;exact yh6 F hr hb hd hx b r q
theorem xh {pl:Sem Bool} (he:PE X o ta) (c:Cls X.K C) (hm:yr2 X.K C m f) (F:wa X.prog X.w X.K X.mg X.base CX k f fd ps sp) (hr:jq k X.A) (hb:uy X.K fd ps ds) (hd:wn dvs ds) (hx:Ò CX X E) (ha:PA X (e :: es) t)
  (hst:starEach (e :: es) X.env=(false,eval e X.env) :: starEach es X.env:=by rfl) (hpl:(backTo pos (starEach es X.env)).any (·.1)=false:=by rfl)
  (ht:eval (.Call (.Attribute o m apos) (e :: es) [] pos) X.env=(do
   let ov <- eval o X.env
   standAt apos.atName
   let (f,first) <- holding [ov] (getMethod ov m pl)
   callWith pos f first (backTo pos (starEach (e :: es) X.env)) (backToKw pos (keywordEach [] X.env))):=by rfl) :
  PE X (.Call (.Attribute o m apos) (e :: es) [] pos) (ycm C m sp dvs E ta t):=by
 refine .mk fun b s σ H Q I h=>?_;refine W.methodCall_KW (pl:=pl) (thn (he b s σ H _ I h) fun u i h'=>?_) ht;obtain ⟨x,y,g,p,a,B,G,j,n,l,q⟩:=h';subst j;obtain rfl:u=Value.ref a:=p;refine Å g n c hm l ?_
 refine W.callWith_K (first:=[.ref a]) (h₀:=X.base) I.ok.mod.kin hm.kp (thn (ha pos b i σ y _ g q) fun us z ⟨vs,D,d,r,v⟩=>⟨d.kIn,?_⟩) hst hpl
 exact yh6 (us:=.ref a :: us) (vs:=.ref a :: vs) F hr hb hd hx d (.cons rfl r) v
theorem wc {pl:Sem Bool} (he:PE X o ta) (c:Cls X.K C) (hm:yr2 X.K C m f) (F:wa X.prog X.w X.K X.mg X.base CX k f fd ps sp) (hr:jq k X.A) (hb:uy X.K fd ps ds) (hd:wn dvs ds) (hx:Ò CX X E)
  (ht:eval (.Call (.Attribute o m apos) [] [] pos) X.env=(do
   let ov <- eval o X.env
   standAt apos.atName
   let (f,first) <- holding [ov] (getMethod ov m pl)
   callWith pos f first (backTo pos (starEach [] X.env)) (backToKw pos (keywordEach [] X.env))):=by rfl) :
  PE X (.Call (.Attribute o m apos) [] [] pos) (ycm C m sp dvs E ta yr4):=by
 refine .mk fun b s σ H Q I h=>?_;refine W.methodCall_KW (pl:=pl) (thn (he b s σ H _ I h) fun u j h'=>?_) ht;obtain ⟨x,n,d,i,a,p,r,e,g,l,q⟩:=h';subst e;obtain rfl:u=Value.ref a:=i;refine Å d g c hm l ?_
 exact W.callWith_K0 (first:=[.ref a]) d.kIn hm.kp (yh6 (us:=[.ref a]) (vs:=[.ref a]) F hr hb hd hx d (.cons rfl .nil) q)
structure Mk (K:W.Frag) (C f:Addr):Prop where
 makes:W.makesIn K C=true
 init:W.findIn K (.ref C) "__init__"=some (some (.ref f))
 fn:W.isFn K (.ref f)=true
 kp:W.keepIn K (.ref C)=true
theorem ydt {s:Shared} {Q:VK} (M:Mk X.K C f) (F:wa X.prog X.w X.K X.mg X.base CX k f fd ps sp) (hr:jq (k+1) X.A) (hb:uy X.K fd ps ds) (hd:wn dvs ds)
  (hx:Ò CX X E) (I:Inv X pins σ H s) (r:wn vs us)
  (h:∀ x dx,H x=none->H dx=none->dx≠x->sp (.ref x :: (vs++dvs)) (upd (upd H dx (.own x)) x (.ins C dx [])) (fun v H2=>v=.non/\Q (.ref x) H2) E) :
  wpAny (model X.prog X.w) X.A (call (.ref C) us) (EP X pins σ Q) X.xe s:=by
 have d:=h (s.heap.objs.size+1) s.heap.objs.size (I.hok.fresh (Nat.le_succ _)) (I.hok.fresh (bA _)) (bU (cX _));have b:=Inv.made (C:=C) I;have c:wn (V.ref (s.heap.objs.size+1) :: (vs++dvs)) (Value.ref (s.heap.objs.size+1) :: (us++ds)):=.cons rfl (r.append hd)
 have j:(Value.ref (s.heap.objs.size+1) :: us++ds).length=ps.length:=by
  have e:=c.length;rw [F.len _ _ _ _ d] at e;exact e.symm
 refine wpAny_call (ydd (f:=f) I.kIn M.makes M.init (beq_iff_eq.mp M.fn) (codeAny_mono (F.run _ X.stack _ _ ⟨Value.ref (s.heap.objs.size+1) :: us,[]⟩ (Value.ref (s.heap.objs.size+1) :: (us++ds)) _ _ E (hr.make C us [])
  (b.env0.make C us []) (hb _ (Value.ref (s.heap.objs.size+1) :: us) b.kIn j) c d) fun r m a=>?_))
 cases r with
 | error e=>exact hx pins σ _ _ e m b a
 | ok fl =>
  cases fl with
  | ret u =>
   obtain ⟨v,i,o,n,l,g⟩:=b.after a;subst l;exact ⟨n,⟨V.ref (s.heap.objs.size+1),i,o,rfl,g⟩⟩
  | next=>exact False.elim a
  | brk=>exact False.elim a
  | cont=>exact False.elim a
theorem yce (M:Mk X.K C f) (F:wa X.prog X.w X.K X.mg X.base CX k f fd ps sp) (hr:jq (k+1) X.A) (hg:Gl X x) (hm:X.mg x=some (.ref C)) (hb:uy X.K fd ps ds) (hd:wn dvs ds) (hx:Ò CX X E)
  (ha:PA X (e :: es) t) (hdb:(x == ("__debug__":Str))=false:=by decide) (he:starEach (e :: es) X.env=(false,eval e X.env) :: starEach es X.env:=by rfl) (hpl:(backTo pos (starEach es X.env)).any (·.1)=false:=by rfl) :
  PE X (.Call (.Name x p) (e :: es) [] pos) (yq4 C sp dvs E t):=by
 refine .mk fun a s σ H Q I h=>?_;refine wpAny_Call_Name_kw (j9 I hg hm ?_ hdb);refine W.callWith_K (h₀:=X.base) I.ok.mod.kin M.kp (thn (ha pos a s σ H _ I h) fun d c ⟨g,i,b,r,q⟩=>⟨b.kIn,?_⟩) he hpl;exact ydt M F hr hb hd hx b r q
theorem jm (M:Mk X.K C f) (F:wa X.prog X.w X.K X.mg X.base CX k f fd ps sp) (hr:jq (k+1) X.A) (hg:Gl X x) (hm:X.mg x=some (.ref C)) (hb:uy X.K fd ps ds) (hd:wn dvs ds) (hx:Ò CX X E)
  (hdb:(x == ("__debug__":Str))=false:=by decide):PE X (.Call (.Name x p) [] [] pos) (yq4 C sp dvs E yr4):=by
 refine .mk fun a s σ H Q I h=>?_;refine wpAny_Call_Name_kw (j9 I hg hm ?_ hdb);exact W.callWith_K0 I.kIn M.kp (ydt (us:=[]) M F hr hb hd hx I .nil h)
end
section
variable {k:Nat} {f:Addr} {ps ks:List Str} {sp:Sp} {E:XK} {x m:Str} {pos apos kpos:Pos} {o:Expr} {kws:List Keyword} {t tk:TA} {nm:Option Str}
structure vam (K:W.Frag) (fd:FuncData) (ps ks:List Str) (g:List Value->List Value->List Value) (gV:List V->List V->List V):Prop where
 to:∀ (s:Shared) (us ws:List Value),K.In s.heap->(g us ws).length=ps.length->BindsTo s fd ⟨us,ks.zip ws⟩ (ps.zip (g us ws))
 rel:∀ {vs:List V} {us:List Value} {zs:List V} {ws:List Value},wn vs us->wn zs ws->wn (gV vs zs) (g us ws)
variable {g:List Value->List Value->List Value} {gV:List V->List V->List V}
end
structure ym (N P:List Str) (sc:Scope):Prop where
 kind:sc.kind=.function
 co:sc.isCoroutine=false
 gen:sc.isGenerator=false
 nd:N.Nodup
 pre:N.take P.length=P
 par:∀ x∈P,sc.names.lookup x=some .local\/sc.names.lookup x=some .cell
 nofree:∀ y∈sc.names,y.2≠.free
theorem yas {kindOf:Str->Option NameKind} {x:Str}:∀ {binds:List (Str × Value)} {m:Str->Option Value},(∀ v,(x,v)∉binds)->bindL kindOf binds m x=m x
 | [],_,_=>rfl
 | (n,v) :: r,m,h=>by
  unfold bindL;rw [yas fun w a=>h w (cb _ a)]
  split
  .have:x≠n:=by rintro rfl; exact h v ck
   simp [this]
  .rfl
theorem yap {kindOf:Str->Option NameKind} {x:Str}:∀ {binds:List (Str × Value)} {m:Str->Option Value},(∀ v,(x,v)∉binds)->bindC kindOf binds m x=m x
 | [],_,_=>rfl
 | (n,v) :: r,m,h=>by
  unfold bindC;rw [yap fun w a=>h w (cb _ a)]
  split
  .rfl
  .have:x≠n:=by rintro rfl; exact h v ck
   simp [this]
theorem ya1 {kindOf:Str->Option NameKind} {x:Str} {v:Value}:∀ {P:List Str} {vs:List Value} {i:Nat} {m:Str->Option Value},P.Nodup->P[i]?=some x->vs[i]?=some v->kindOf x=some .local ->
  bindL kindOf (P.zip vs) m x=some v
 | [],_,_,_,_,h,_,_=>by simp at h
 | _ :: _,[],_,_,_,_,h,_=>by simp at h
 | p :: P,w :: vs,0,m,nd,h1,h2,hk=>by
  simp at h1 h2; subst h1; subst h2;show bindL kindOf ((p,w) :: P.zip vs) m p=_;unfold bindL;rw [yas fun v a=>(cO.mp nd).1 (List.of_mem_zip a).1,if_pos hk];simp
 | p :: P,w :: vs,i+1,m,nd,h1,h2,hk=>by
  show bindL kindOf ((p,w) :: P.zip vs) m x=_;unfold bindL;exact ya1 (i:=i) (cO.mp nd).2 (by simpa using h1) (by simpa using h2) hk
theorem yaq {kindOf:Str->Option NameKind} {x:Str} {v:Value}:∀ {P:List Str} {vs:List Value} {i:Nat} {m:Str->Option Value},P.Nodup->P[i]?=some x->vs[i]?=some v->kindOf x≠some .local ->
  bindC kindOf (P.zip vs) m x=some v
 | [],_,_,_,_,h,_,_=>by simp at h
 | _ :: _,[],_,_,_,_,h,_=>by simp at h
 | p :: P,w :: vs,0,m,nd,h1,h2,hk=>by
  simp at h1 h2; subst h1; subst h2;show bindC kindOf ((p,w) :: P.zip vs) m p=_;unfold bindC;rw [yap fun v a=>(cO.mp nd).1 (List.of_mem_zip a).1,if_neg hk];simp
 | p :: P,w :: vs,i+1,m,nd,h1,h2,hk=>by
  show bindC kindOf ((p,w) :: P.zip vs) m x=_;unfold bindC;exact yaq (i:=i) (cO.mp nd).2 (by simpa using h1) (by simpa using h2) hk
def Ö (N:List Str) (vs:List V):St:=vs.map some++List.replicate (N.length - vs.length) none
def v9 (CX:CXT) (P:Program) (w:World) (K:W.Frag) (mg:Str->Option Value) (base:Heap) (N:List Str) (qual:Str) (scope:Scope) (f:Addr) (cd:Value) (A:Around) (outer:List Env) (s:Shared) (H:Hp) (E:XK):Cx where
 prog:=P
 w:=w
 K:=K
 mg:=mg
 base:=base
 A:=A.deeper (envOfC qual scope s.heap.objs.size f cd)
 N:=N
 s₀:=s
 H₀:=H
 env:=envOfC qual scope s.heap.objs.size f cd
 outer:=outer
 stack:=envOfC qual scope s.heap.objs.size f cd :: outer
 ex:=[]
 calm:=true
 fn:=fun _=>true
 pn:=[]
 xe:=fun e s'=>wpAny (model P w) (A.deeper (envOfC qual scope s.heap.objs.size f cd)) (leaving (envOfC qual scope s.heap.objs.size f cd) e) (fun _ s''=>CX outer H s E e s'') (fun e' s''=>CX outer H s E e' s'') s'
theorem ycu {sc:Scope} {n:Nat} {x:Str} (h:sc.names.lookup x=some .cell):∃ c,(cellsFrom n sc.names []).lookup x=some c:=by
 have q:=W.cellsFrom_some sc.names n [] (.inl h);exact Option.isSome_iff_exists.mp q
theorem yf9 {w:World} {K:W.Frag} {mg:Str->Option Value} {base:Heap} {N ps:List Str} {qual:Str} {scope:Scope} {f:Addr} {cd:Value} {A:Around} {outer:List Env} {s s1:Shared} {E:XK} 
  (S:ym N ps scope) (hd:A.handled=none) (e0:yr7 P w K mg base A outer s H) (hl:vs.length=ps.length) (r:wn vs us)
  (x:InCallC s s.heap.objs.size (bindL (envOfC qual scope s.heap.objs.size f cd).kindOf (ps.zip us) fun _=>none) (cellsFrom (s.heap.objs.size+1) scope.names []) (bindC (envOfC qual scope s.heap.objs.size f cd).kindOf (ps.zip us) fun _=>none) s1) :
  Inv (v9 CX P w K mg base N qual scope f cd A outer s H E) [] (Ö N vs) H s1:=by
 have F:ps.length <= N.length:=by have:=congrArg List.length S.pre; rw [bT] at this; omega
 obtain ⟨t,I,rfl,B⟩:=x.done;have g:∀ b:Addr,b∉(v9 CX P w K mg base N qual scope f cd A outer s H E).ex:=fun b z=>absurd (show b∈([]:List Addr) from z) (by simp)
 refine ⟨⟨e0.mod,S.kind,rfl,rfl,bA _,fun y z c t d=>?_,fun y j=>?_,fun y c _ h=>?_,fun _=>hd,Around.frames_deeper e0.frames,.inr ⟨rfl,rfl⟩,fun b z=>absurd z (g b),e0.bs,e0.bsz,fun b _ _=>g b,fun b z=>absurd z (g b),e0.funs,e0.frf⟩,
  rfl,e0.bare,Un.kept B,⟨_,x.toInCall.ns,fun i y v t d J=>?_⟩,fun y c h=>⟨_,x.cell y c h⟩,e0.hok.fresh (bA _),fun y c h=>?_,fun p l=>absurd (show p∈([]:List (Addr × Obj)) from l) (by simp),e0.hok.kept B,?_⟩
 .exact name_of_addr x.apart (PySem.mem_of_lookup t) (PySem.mem_of_lookup d)
 .have j:scope.names.lookup y=some .cell\/scope.names.lookup y=some .free:=j;rcases j with j | j
  .exact ycu j
  .exact absurd rfl (S.nofree _ (PySem.mem_of_lookup j))
 .exact Nat.le_of_lt (x.above y c (PySem.mem_of_lookup h))
 .have o:i < vs.length:=by
   unfold Ö at d;by_cases o:i < vs.length
   .exact o
   .rw [cN (by simpa using o)] at d;rw [List.getElem?_replicate] at d
    split at d <;> cases d
  have D:vs[i]?=some v:=by
   unfold Ö at d;rw [List.getElem?_append_left (by simpa using o),bB] at d
   cases e:vs[i]? with
   | none=>rw [e] at d; cases d
   | some a=>rw [e] at d; cases d; rfl
  obtain ⟨u,C,G⟩:=r.get D
  have l:ps[i]?=some y:=by
   rw [<- S.pre,List.getElem?_take_of_lt (by omega)]; exact t
  have m:ps.Nodup:=by rw [<- S.pre]; exact S.nd.sublist (List.take_sublist _ _)
  refine ⟨u,G,?_⟩;rcases S.par y (bM l) with k | k
  .exact .inl ⟨k,ya1 m l C k⟩
  .obtain ⟨c,e⟩:=ycu (n:=s.heap.objs.size+1) k;refine .inr ⟨.inl k,c,e,?_⟩;have q:=x.cell y c e;rw [yaq m l C (by show scope.names.lookup y≠_; rw [k]; decide)] at q;exact q
 .exact e0.hok.fresh (Nat.le_of_lt (x.above y c (PySem.mem_of_lookup h)))
 .unfold Ö;show _=N.length;rw [bC,bv,cT];omega
theorem yrd {w:World} {K:W.Frag} {mg:Str->Option Value} {base:Heap} {k:Nat} {f:Addr} {name qual:Str} {params:Arguments} {scope:Scope} {dV kV doc pm cdv ct oc:Value} {an od:Option Addr}
  {osl:Array (Option Value)} {N ps:List Str} {sp:Sp} (lk:K.lookup f=some ⟨oc,od,.func (W.fnOf name qual params body scope dV kV doc pm an cdv ct),osl⟩) (hcd:W.codeIn K cdv qual=true) (S:ym N ps scope)
  (len:∀ vs H Q E,sp vs H Q E->vs.length=ps.length)
  (hbody:∀ (A:Around) (outer:List Env) (s:Shared) (H:Hp) (vs:List V) (Q:VK) (E:XK),jq k (A.deeper (envOfC qual scope s.heap.objs.size f cdv))->sp vs H Q E ->
   ∃ t,PSs (v9 CX P w K mg base N qual scope f cdv A outer s H E) body t/\t { nx:=fun _ H'=>Q .non H',rt:=Q } (Ö N vs) H) :
  wa P w K mg base CX (k+1) f (W.fnOf name qual params body scope dV kV doc pm an cdv ct) ps sp:=by
 refine ⟨len,fun A outer s H B D vs Q E l d L r h=>?_⟩;have T:=len _ _ _ _ h;have z:K.In s.heap:=d.mod.kin.keeps fun b o e=>(d.bs b o e).1;have j:s.heap.NoLimit:=d.mod.nolimit.keeps fun b o e=>(d.bs b o e).1
 have a:∀ y∈ps.zip D,scope.names.lookup y.1=some .local\/(scope.names.lookup y.1=some .cell/\((cellsFrom (s.heap.objs.size+1) scope.names []).lookup y.1).isSome=true):=fun ⟨n,v⟩ O=>by
  rcases S.par n (List.of_mem_zip O).1 with q | q
  .exact .inl q
  .exact .inr ⟨q,W.cellsFrom_some _ _ _ (.inl q)⟩
 refine codeAny_call_function l.depth (z _ _ lk) rfl S.co S.gen rfl (W.codeRec_of z hcd) (L _ _ _ _ ?_);refine wpAny_newFunctionEnv_cells S.kind a fun R C p x=>?_;subst C;refine ⟨j.keeps x.toInCall.keep,codeAny_func ?_⟩;obtain ⟨t,F,M⟩:=hbody A outer s H vs Q E (l.deeper _) h;have I:Inv (v9 CX P w K mg base N qual scope f cdv A outer s H E) [] (Ö N vs) H p:=yf9 S l.hd d T r x;refine cR (F [] p (Ö N vs) H _ I M) (fun G i c=>?_) fun e i c=>c
 have g:∀ {σ':St} {H':Hp} {v:V} {u:Value},Inv (v9 CX P w K mg base N qual scope f cdv A outer s H E) [] σ' H' i->xk v u->Q v H'->CE outer P w H s Q u i :=
  fun {σ' H' v u} J m q=>⟨v,H',J.os,J.bare,J.base,J.hok,m,q⟩
 cases G with
 | ret u =>
  obtain ⟨v,σ',H',J,m,q⟩:=c;exact g J m q
 | next =>
  obtain ⟨σ',H',J,q⟩:=c;exact g (v:=V.non) (u:=Value.none) J rfl q
 | brk =>
  obtain ⟨_,_,_,q⟩:=c;exact False.elim q
 | cont =>
  obtain ⟨_,_,_,q⟩:=c;exact False.elim q
section
variable {x:Str} {pos:Pos} {t:TA} {id T:String} {r:List V->Hp->VK->Prop}
def tCB (r:List V->Hp->VK->Prop) (t:TA):TE:=fun σ H Q=>t σ H fun vs H1=>r vs H1 Q
theorem yr (hc:zx X (.builtin id) r) (hg:Gl X x) (hm:X.mg x=none) (hv:bootBuiltins x=some (.builtin id)) (ha:PA X (e :: es) t) (hn:x≠"__name__":=by decide) (hdb:(x == ("__debug__":Str))=false:=by decide)
  (he:starEach (e :: es) X.env=(false,eval e X.env) :: starEach es X.env:=by rfl) (hpl:(backTo pos (starEach es X.env)).any (·.1)=false:=by rfl):PE X (.Call (.Name x p) (e :: es) [] pos) (tCB r t):=by
 refine .mk fun a s σ H Q I h=>?_;refine wpAny_Call_Name_kw (ē I hg hm hv ?_ hn hdb);exact PyProof.Rows.callWith_builtin1 (thn (ha pos a s σ H _ I h) fun d b ⟨f,g,i,j,c⟩=>hc a b σ g f d Q i j c) he hpl
theorem vn (hc:zx X (.type T) r) (hg:Gl X x) (hm:X.mg x=none) (hv:bootBuiltins x=some (.type T)) (ha:PA X (e :: es) t) (hn:x≠"__name__":=by decide) (hdb:(x == ("__debug__":Str))=false:=by decide)
  (he:starEach (e :: es) X.env=(false,eval e X.env) :: starEach es X.env:=by rfl) (hpl:(backTo pos (starEach es X.env)).any (·.1)=false:=by rfl):PE X (.Call (.Name x p) (e :: es) [] pos) (tCB r t):=by
 refine .mk fun a s σ H Q I h=>?_;refine wpAny_Call_Name_kw (ē I hg hm hv ?_ hn hdb);exact PyProof.Rows.callWith_type1 (thn (ha pos a s σ H _ I h) fun d b ⟨f,g,i,j,c⟩=>hc a b σ g f d Q i j c) he hpl
end
end L2
namespace HT
open PySem PyProof.Rows
section
open PySem.SeqAt
open PySem.AutoSeq1 (wpAny_loadPart')
open PySem.MeetsSeq PySem.MeetsSeq2 PySem.MeetsSeq3
end
section
variable {prog:Program} {w:World} {A:Around} {E:Value->Shared->Prop} {s:Shared}
def sIx (n d:Nat):Option Int->Nat
 | none=>d
 | some v=>if v < 0 then (v+(n:Int)).toNat else min v.toNat n
theorem sIx_none (n d:Nat):sIx n d none=d:=rfl
theorem sIx_nat (n d k:Nat):sIx n d (some (k:Int))=min k n:=by
 show (if (k:Int) < 0 then ((k:Int)+(n:Int)).toNat else min (k:Int).toNat n)=min k n;rw [if_neg (by omega),Int.toNat_natCast]
theorem ywl (n d:Nat) (hd:d <= n) (o:Option Int):sIx n d o <= n:=by
 cases o with
 | none=>exact hd
 | some v =>
  show (if v < 0 then (v+(n:Int)).toNat else min v.toNat n) <= n;by_cases hv:v < 0
  .rw [if_pos hv]; omega
  .rw [if_neg hv]; exact Nat.min_le_right _ _
theorem yg5 (v:Int) (n d:Nat):(if v < 0 then max (v+(n:Int)) 0 else min v (n:Int))=((sIx n d (some v):Nat):Int):=by
 show (if v < 0 then max (v+(n:Int)) 0 else min v (n:Int))=(((if v < 0 then (v+(n:Int)).toNat else min v.toNat n):Nat):Int);by_cases hv:v < 0
 .simp only [if_pos hv]; omega
 .simp only [if_neg hv]; omega
theorem yfb (lo hi:Option Int) (n:Nat):Builtin.Slice.sliceAdjust lo hi 1 (n:Int)=(((sIx n 0 lo:Nat):Int),((sIx n n hi:Nat):Int)):=by
 have a:¬ ((1:Int) < 0):=by omega
 unfold Builtin.Slice.sliceAdjust;simp only [a,if_false];refine Prod.ext ?_ ?_
 .cases lo with
  | none=>rfl
  | some v=>exact yg5 v n 0
 .cases hi with
  | none=>rfl
  | some v=>exact yg5 v n n
theorem ye0 (i j:Nat):Builtin.Slice.slicePlaces (i:Int) (j:Int) 1=j - i:=by
 unfold Builtin.Slice.slicePlaces;have a:(1:Int) > 0:=by omega
 simp only [a,if_true,Int.ediv_one]
 split <;> omega
theorem Ķ {v:Value} {o:Option Int} {Q:Option Int->Shared->Prop} (p:IsPart v o) (h:Q o s):wpAny (model prog w) A (Builtin.Slice.slicePartIndex v) Q E s:=by
 cases p with
 | none=>exact slicePart_none h
 | int i t=>exact slicePart_int h
theorem zr {sl:Addr} {vl vu:Value} {lo hi:Option Int} {n:Nat} {Q:Int × Int × Nat->Shared->Prop} (hs:s.heap.IsSliceOf sl vl vu .none) (pl:IsPart vl lo) (pu:IsPart vu hi)
  (h:Q (((sIx n 0 lo:Nat):Int),1,sIx n n hi - sIx n 0 lo) s):wpAny (model prog w) A (Builtin.Slice.sliceApplied (.ref sl) (pure (n:Int))) Q E s:=by
 obtain ⟨d,b,c,a⟩:=id hs;unfold Builtin.Slice.sliceApplied Builtin.Slice.sliceFields;refine bw (bw (cE b a (x:=vl) rfl (bw (cE b a (x:=vu) rfl (bw (cE b a (x:=.none) rfl (bE ?_)))))));refine bw (slicePart_none ?_);show wpAny _ _ (if ((1:Int) == 0)=true then _ else _) _ _ s;rw [if_neg (by decide)];refine bw (Ķ pl (bw (Ķ pu (bw (bE ?_)))))
 show wpAny _ _ (match Builtin.Slice.sliceAdjust lo hi 1 (n:Int) with | (lo,hi)=>pure (lo,(1:Int),Builtin.Slice.slicePlaces lo hi 1)) _ _ s
 rw [yfb lo hi n];show wpAny _ _ (pure (((sIx n 0 lo:Nat):Int),(1:Int),Builtin.Slice.slicePlaces ((sIx n 0 lo:Nat):Int) ((sIx n n hi:Nat):Int) 1)) _ _ s;rw [ye0];exact bE h
theorem yje (xs:Array Value) (i k:Nat):((List.range k).filterMap fun (m:Nat)=>xs[((i:Int)+(m:Int) * 1).toNat]?).toArray=((xs.toList.drop i).take k).toArray:=by
 have e:(fun (m:Nat)=>xs[((i:Int)+(m:Int) * 1).toNat]?)=fun m=>xs[i+m]?:=by
  funext m
  have:((i:Int)+(m:Int) * 1).toNat=i+m:=by omega
  rw [this]
 rw [e];have:=pick_run xs i k;rw [List.filterMap_map] at this;have a:((fun x=>xs[x]?) ∘ fun x=>i+x)=fun m=>xs[i+m]?:=rfl;rw [a] at this;rw [this]
theorem getItem_tuple_cut {t sl:Addr} {items:Array Value} {vl vu:Value} {lo hi:Option Int} {Q:Value->Shared->Prop} (ht:IsTup s.heap t items) (hs:s.heap.IsSliceOf sl vl vu .none) (pl:IsPart vl lo) (pu:IsPart vu hi)
  (hw:¬ (sIx items.size 0 lo=0/\sIx items.size items.size hi=items.size))
  (h:Q (.ref s.heap.objs.size) { s with heap:=s.heap.push { cls:=.type "tuple",data:=.seq ((items.toList.drop (sIx items.size 0 lo)).take (sIx items.size items.size hi - sIx items.size 0 lo)).toArray } })
  (hsz:items.size <= sizeLine):wpAny (model prog w) A (getItem (.ref t) (.ref sl)) Q E s:=by
 have a:sizeOk (.seq ((items.toList.drop (sIx items.size 0 lo)).take (sIx items.size items.size hi - sIx items.size 0 lo)).toArray):=by
  show ((items.toList.drop (sIx items.size 0 lo)).take (sIx items.size items.size hi - sIx items.size 0 lo)).toArray.size <= sizeLine;rw [bH,bT,cM,cB];omega
 have k:sIx items.size items.size hi <= items.size:=ywl _ _ (bA _) hi;obtain ⟨g,e,b,f⟩:=id hs;have d:s.TypeIs (.ref sl) "slice":=⟨g,e,b⟩;unfold getItem
 try with_reducible refine wpAny_holding ?_
 first | refine bw (bE ?_) | skip
 refine bw (wpAny_sequenceKey ht.typeIs (by decide) ?_);refine bw (wpAny_callSpecial?_slot (name:=Str.ofString "__getitem__") ht.typeIs PyProof.Rows.slot_tuple_getitem
  (wpAny_call_entry PyProof.Rows.slot_tuple_getitem ht.typeIs entry_tuple_getitem ?_ (args_tuple_getitem _ _)))
 show wpAny _ _ (Builtin.Tuple.tupleItemsOf (.ref t) >>= _) _ _ s;refine bw (tupleItemsOf_ ht ?_);refine bw (wpAny_typeOf d ?_);rw [if_pos (by decide)];refine bw (zr hs pl pu ?_)
 have c:¬ ((((sIx items.size 0 lo:Nat):Int) == 0 && (1:Int) == 1 && (sIx items.size items.size hi - sIx items.size 0 lo) == items.size)=true):=by
  intro q;rw [bX,bX] at q;have i:((sIx items.size 0 lo:Nat):Int)=0:=eq_of_beq q.1.1;have j:sIx items.size items.size hi - sIx items.size 0 lo=items.size:=eq_of_beq q.2;exact hw ⟨by omega,by omega⟩
 show wpAny _ _ (if (((sIx items.size 0 lo:Nat):Int) == 0 && (1:Int) == 1 && (sIx items.size items.size hi - sIx items.size 0 lo) == items.size)=true then _ else _) _ _ s;rw [if_neg c,yje]
 first
  | exact bw (m:=Builtin.Tuple.tupleExact _) (wpAny_newObj_type (bE ⟨_,rfl,bE h⟩) a)
  | exact bw (m:=Builtin.Tuple.tupleExact _) (wpAny_newObj_type (bw (bE (bE ⟨_,rfl,bE h⟩))) a)
  | exact bw (bw (m:=Builtin.Tuple.tupleExact _) (wpAny_newObj_type (bE (bE ⟨_,rfl,bE h⟩)) a))
  | exact bw (bw (m:=Builtin.Tuple.tupleExact _) (wpAny_newObj_type (bE ⟨_,rfl,bE h⟩) a))
end
end HT
namespace L2
open PySem PySem.Spec PyProof.Rows
variable {pins:List (Addr × Obj)} {its:List Value} {v:Value}
abbrev TO:=St->Hp->(Option Int->Hp->Prop)->Prop
def PO (X:Cx) (e:Option Expr) (t:TO):Prop :=
 ∀ (pins:List (Addr × Obj)) (s:Shared) (σ:St) (H:Hp) (Q:Option Int->Hp->Prop),Inv X pins σ H s->t σ H Q ->
  wpAny (model X.prog X.w) X.A (evalPart e X.env) (fun u s'=>∃ o H',Inv X pins σ H' s'/\IsPart u o/\Q o H') X.xe s
def yhd:TO:=fun _ H Q=>Q none H
def yxh (t:TE):TO:=fun σ H Q=>t σ H fun x H1=>∃ i,x=.int i/\Q (some i) H1
theorem ye2 {ns:List Int}:∀ {us:List Value},wn (ns.map V.int) us->IntsAre us ns:=by
 induction ns with
 | nil=>intro us r; rw [List.map_nil] at r; cases r; exact .nil
 | cons n ns ih =>
  intro us r;rw [cm] at r
  cases r with
  | cons r1 r2 =>
   obtain ⟨t,e⟩:=r1;subst e;exact .cons n t (ih r2)
section
variable {X:Cx} {e:Expr} {te:TE} {lo hi:Option Expr} {tl th:TO} {pos p2:Pos}
theorem uh:PO X none yhd:=by
 intro a s σ H Q I h;rw [evalPart_none];exact bE ⟨none,H,I,.none,h⟩
theorem uk (h:PE X e te):PO X (some e) (yxh te):=by
 intro a s σ H Q I d;rw [evalPart_some];refine thn (h a s σ H _ I d) fun u j h'=>?_;obtain ⟨x,c,f,g,b⟩:=h';obtain ⟨i,rfl,q⟩:=b;obtain ⟨t,rfl⟩:=g;exact ⟨some i,c,f,.int i t,q⟩
def SlR (X:Cx) (r:V->Option Int->Option Int->Hp->VK->Prop):Prop :=
 ∀ (pins:List (Addr × Obj)) (s:Shared) (σ:St) (H:Hp) (x:V) (v vl vu:Value) (lo hi:Option Int) (sl:Addr) (Q:VK),Inv X pins σ H s->xk x v->s.heap.IsSliceOf sl vl vu .none->IsPart vl lo->IsPart vu hi->r x lo hi H Q ->
  ∃ T id,typeLookup (.type T) "__getitem__"=pure (some (.builtin id))/\s.TypeIs v T/\wpAny (model X.prog X.w) X.A (getItem v (.ref sl)) (EP X pins σ Q) X.xe s
theorem SlR.or {r r':V->Option Int->Option Int->Hp->VK->Prop} (h:SlR X r) (h':SlR X r'):SlR X (fun x lo hi H Q=>r x lo hi H Q\/r' x lo hi H Q):=by
 intro a s σ H x v i b lo hi f Q I d e c g q;rcases q with q | q
 .exact h a s σ H x v i b lo hi f Q I d e c g q
 .exact h' a s σ H x v i b lo hi f Q I d e c g q
def tSl (r:V->Option Int->Option Int->Hp->VK->Prop) (te:TE) (tl th:TO):TE:=fun σ H Q=>te σ H fun x H1=>tl σ H1 fun l H2=>th σ H2 fun u H3=>r x l u H3 Q
theorem xx {r:V->Option Int->Option Int->Hp->VK->Prop} (hr:SlR X r) (he:PE X e te) (hl:PO X lo tl) (hu:PO X hi th):PE X (.Subscript e (.Slice lo hi none p2) pos) (tSl r te tl th):=by
 refine .mk fun a s σ H Q I h=>?_;refine Subscript_ (thn (he a s σ H _ I h) fun v i h'=>?_);obtain ⟨x,G,J,C,E⟩:=h';refine wpAny_Slice (thn (hl a i σ G _ J E) fun d F ⟨l,z,k,m,o⟩=>thn (hu a F σ z _ k o) fun f c h'=>?_);obtain ⟨u,g,D,B,p⟩:=h';rw [evalPart_none];refine bE ?_;have j:Inv X a σ g { c with heap:=c.heap.push { cls:=.type "slice",data:=.fields #[d,f,.none] } }:=D.kept (t':=c.toks) fun b K q=>bz _ q;obtain ⟨T,id,t,n,y⟩:=hr a { c with heap:=c.heap.push { cls:=.type "slice",data:=.fields #[d,f,.none] } } σ g x v d f l u c.heap.objs.size Q j C (Heap.IsSliceOf.new ..) m B p;show wpAny (model X.prog X.w) X.A (subscriptTail e (.Slice lo hi none p2) v (.ref c.heap.objs.size)) (EP X a σ Q) X.xe { c with heap:=c.heap.push { cls:=.type "slice",data:=.fields #[d,f,.none] } };exact tail_any (ops:=[.ref c.heap.objs.size,v]) n t y (by with_unfolding_all rfl)
def ybl (xs:List V) (lo hi:Option Int):List V:=(xs.drop (HT.sIx xs.length 0 lo)).take (HT.sIx xs.length xs.length hi - HT.sIx xs.length 0 lo)
theorem ê (xs:List V) (lo hi:Option Int):(ybl xs lo hi).length <= xs.length:=by
 unfold ybl;rw [bT,cM];omega
def vbd (K:W.Frag):V->Option Int->Option Int->Hp->VK->Prop:=fun x lo hi H Q=>∃ a xs,x=.ref a/\SqT K H a xs /\
 ¬ (HT.sIx xs.length 0 lo=0/\HT.sIx xs.length xs.length hi=xs.length)/\∀ p,H p=none->Q (.ref p) (upd H p (.tup (ybl xs lo hi)))
theorem yw4:SlR X (vbd X.K):=by
 intro j s σ H x v z u lo f y Q I l n k p h;obtain ⟨a,d,rfl,t,m,q⟩:=h;cases l;obtain ⟨e,r,i,g⟩:=I.tuple t;have c:e.toArray.size=d.length:=by rw [bH]; exact r.length.symm
 refine ⟨"tuple",_,PyProof.Rows.slot_tuple_getitem.lookup,i.typeIs,?_⟩;refine HT.getItem_tuple_cut i n k p (by rw [c]; exact m) ?_ (by rw [c]; exact g);rw [c];refine ⟨.ref s.heap.objs.size,_,I.laid (t':=s.toks) (o:=.tup (ybl d lo f)) (fun b w q=>bz _ q) (bA _) ?_,rfl,q _ (I.hok.fresh (bA _))⟩;exact ⟨cc (ê d lo f) g,_,(r.drop (HT.sIx d.length 0 lo)).take (HT.sIx d.length d.length f - HT.sIx d.length 0 lo),IsTup.new _ _⟩
end
def ixN (n:Nat) (i:Int):Option Nat:=if 0 <= i then (if i < n then some i.toNat else none) else if -(n:Int) <= i then some (i+n).toNat else none
def atI {α:Type} (xs:List α) (i:Int):Option α:=(ixN xs.length i).bind fun j=>xs[j]?
theorem yhv {n:Nat} {i:Int} {j:Nat} (h:ixN n i=some j):seqIndex? i n=some j/\j < n/\-(n:Int) <= i/\i < n:=by
 unfold ixN at h;by_cases h0:0 <= i
 .rw [if_pos h0] at h;by_cases h1:i < n
  .rw [if_pos h1] at h;have e:i.toNat=j:=bL h;exact ⟨by rw [seqIndex_of h0 h1,e],by omega,by omega,h1⟩
  .rw [if_neg h1] at h; cases h
 .rw [if_neg h0] at h;by_cases h1:-(n:Int) <= i
  .rw [if_pos h1] at h;have e:(i+n).toNat=j:=bL h;exact ⟨by rw [seqIndex_neg (by omega) h1,e],by omega,h1,by omega⟩
  .rw [if_neg h1] at h; cases h
theorem yg7 {α:Type} {xs:List α} {i:Int} {v:α} (h:atI xs i=some v):∃ j,seqIndex? i xs.length=some j/\xs[j]?=some v/\j < xs.length/\-(xs.length:Int) <= i/\i < xs.length:=by
 unfold atI at h
 cases e:ixN xs.length i with
 | none=>rw [e] at h; cases h
 | some j =>
  rw [e] at h;obtain ⟨b,a,c,d⟩:=yhv e;exact ⟨j,b,h,a,c,d⟩
theorem xb {α:Type} {xs:List α} {j:Nat} {v:α} (h:xs[j]?=some v):atI xs (j:Int)=some v:=by
 have a:j < xs.length:=(cF.mp h).1
 have e:ixN xs.length (j:Int)=some j:=by
  unfold ixN;rw [if_pos (by omega),if_pos (by omega)]; simp
 unfold atI; rw [e]; exact h
theorem yji {α:Type} (xs:List α) (v:α):atI (xs++[v]) (-1)=some v:=by
 have a:(xs++[v]).length=xs.length+1:=by simp
 have e:ixN (xs++[v]).length (-1)=some xs.length:=by
  unfold ixN;rw [a,if_neg (by decide),if_pos (by omega)]
  congr 1
  omega
 unfold atI;rw [e];show (xs++[v])[xs.length]?=some v;simp
def yoz (b:Expr):Prop:=∀ o i,subscripted b false o i=operate [o,i] (getItem o i)
def IxR (X:Cx) (r:R2):Prop :=
 ∀ (value slice:Expr) (pins:List (Addr × Obj)) (s:Shared) (σ:St) (H:Hp) (x y:V) (v u:Value) (Q:VK),Inv X pins σ H s->xk x v->xk y u->r x y H Q ->
  subscripted slice false v u=operate [v,u] (getItem v u)->wpAny (model X.prog X.w) X.A (subscriptTail value slice v u) (EP X pins σ Q) X.xe s
def MtR (X:Cx) (id:String) (r:V->List V->Hp->VK->Prop):Prop :=
 ∀ (pins:List (Addr × Obj)) (s:Shared) (σ:St) (H:Hp) (x:V) (xs:List V) (v:Value) (us:List Value) (Q:VK),Inv X pins σ H s->xk x v->wn xs us->r x xs H Q ->
  wpAny (model X.prog X.w) X.A (call (.builtin id) (v :: us)) (EP X pins σ Q) X.xe s
section
variable {X:Cx} {a b:Expr} {ta tb:TE} {pos:Pos}
theorem ua {r:R2} (hr:IxR X r) (ha:PE X a ta) (hb:PE X b tb) (hs:yoz b):PE X (.Subscript a b pos) (tOp r ta tb):=by
 refine .mk fun c s σ H Q I h=>?_;exact Subscript_ (yye ha hb I h fun v u e x y g d f i q=>hr a b c e σ g x y v u Q d f i q (hs _ _))
def yx5 (K:W.Frag):R2:=fun x y H Q=>∃ p xs i v,x=.ref p/\y=.int i/\SqL K H p xs/\atI xs i=some v/\Q v H
def va7 (K:W.Frag):R2:=fun x y H Q=>∃ p xs i v,x=.ref p/\y=.int i/\SqT K H p xs/\atI xs i=some v/\Q v H
theorem xc:IxR X (yx5 X.K):=by
 intro l k a s σ H x y v u Q I o B h m;obtain ⟨p,M,i,z,rfl,rfl,E,D,q⟩:=h;cases o;obtain ⟨t,rfl⟩:=B;obtain ⟨g,r,d,N⟩:=I.list E;obtain ⟨j,c,G,L,C,F⟩:=yg7 D;obtain ⟨w,n,e⟩:=r.get G;have J:=r.length;have O:=ybc;have b:EP X a σ Q w s:=⟨z,H,I,e,q⟩;by_cases h0:0 <= i
 .have f:i.toNat=j:=by
   rw [seqIndex_of h0 F] at c;exact bL c
  exact item_listR d.isList h0 (by omega) (by rw [f]; simpa using n) b m
 .have f:(i+(g.toArray.size:Int)).toNat=j:=by
   rw [seqIndex_neg (by omega) C] at c;rw [bH,<- J];exact bL c
  exact subscriptTail_builtinR (x:=w) d.isList.typeIs slot_list_getitem.lookup
   (wpAny_getItem_list_neg (Q:=fun r A=>r=w/\EP X a σ Q r A) d.isList (by omega) (by rw [bH] <;> omega) (by omega) (by rw [f]; simpa using n) ⟨rfl,b⟩) m
theorem Ô:IxR X (va7 X.K):=by
 intro e d a s σ H x y v u Q I g m h k;obtain ⟨p,L,i,z,rfl,rfl,o,n,q⟩:=h;cases g;obtain ⟨t,rfl⟩:=m;obtain ⟨C,r,f,M⟩:=I.tuple o;obtain ⟨j,B,D,F,G,J⟩:=yg7 n;obtain ⟨w,A,c⟩:=r.get D;have E:=r.length;have N:=ybc;have b:EP X a σ Q w s:=⟨z,H,I,c,q⟩;exact subscriptTail_builtinR (x:=w) f.typeIs slot_tuple_getitem.lookup
  (getItem_tuple (j:=j) (Q:=fun r l=>r=w/\EP X a σ Q r l) f (by omega) (by omega) (by rw [bH,<- E]; exact B) (by simpa using A) ⟨rfl,b⟩) k
theorem yeq (its:List Value) (n j:Nat) (u:Value):Obj.mapSeq (·.setIfInBounds j u) { cls:=.type "list",data:=.seq its.toArray n }={ cls:=.type "list",data:=.seq (its.set j u).toArray n }:=by
 simp [Obj.mapSeq]
theorem Inv.lst {σ:St} {H:Hp} {s:Shared} {p:Addr} {xs:List V} (I:Inv X pins σ H s) (h:H p=some (.lst xs)) :
  ∃ (its:List Value) (n:Nat),wn xs its/\s.heap.get? p=some { cls:=.type "list",data:=.seq its.toArray n }/\xs.length <= sizeLine:=by
 obtain ⟨z,its,n,r,e⟩:=I.hok p _ h;exact ⟨its,n,r,e,z⟩
theorem Inv.lstUpd {σ:St} {H:Hp} {s:Shared} {p:Addr} {xs ys:List V} {its':List Value} {n n':Nat} {f:Obj->Obj} (I:Inv X pins σ H s) (h:H p=some (.lst xs))
  (ho:s.heap.get? p=some { cls:=.type "list",data:=.seq its.toArray n }) (hf:f { cls:=.type "list",data:=.seq its.toArray n }={ cls:=.type "list",data:=.seq its'.toArray n' }) (r:wn ys its') (hz:ys.length <= sizeLine) (t:Nat) :
  Inv X pins σ (upd H p (.lst ys)) { s with heap:=s.heap.update p f,toks:=t }:=by
 have e:(s.heap.update p f).get? p=some { cls:=.type "list",data:=.seq its'.toArray n' }:=by
  rw [Heap.get?_update_self f ho (by rw [hf] <;> rfl),hf]
 refine I.write (x:=p) (e:=p) (by rw [h]; trivial) (.inl rfl) (fun b u a q=>(Heap.get?_update_other _ _ (Ne.symm a)).trans q) ⟨_,e⟩ ?_;exact ⟨hz,its',n',r,e⟩
def yzs:V->V->V->Hp->(Hp->Prop)->Prop:=fun o i v H Q=>∃ p xs k j,o=.ref p/\i=.int k/\H p=some (.lst xs)/\ixN xs.length k=some j/\Q (upd H p (.lst (xs.set j v)))
theorem ykj:va3 X yzs:=by
 intro a s σ H o i v D E u Q I x y C h;obtain ⟨p,A,k,j,rfl,rfl,w,z,q⟩:=h;cases x;obtain ⟨t,rfl⟩:=y;obtain ⟨b,n,r,e,B⟩:=I.lst w;obtain ⟨c,F,g,l⟩:=yhv z;have f:=r.length;have G:=ybc
 have m:Inv X a σ (upd H p (.lst (A.set j v))) { s with heap:=s.heap.update p (Obj.mapSeq (·.setIfInBounds j u)) } :=
  I.lstUpd w e (yeq b n j u) (r.set C j) (by rw [List.length_set]; exact B) s.toks
 by_cases h0:0 <= k
 .have d:k.toNat=j:=by
   rw [seqIndex_of h0 l] at c;exact bL c
  exact W.ki_setAt e h0 (by omega) (by rw [bH,<- f]; exact l) (by rw [d]; exact ⟨_,m,q⟩)
 .have d:(k+(b.toArray.size:Int)).toNat=j:=by
   rw [seqIndex_neg (by omega) g] at c;rw [bH,<- f];exact bL c
  exact W.ki_setBack e (by omega) (by rw [bH,<- f]; exact g) (by omega) (by rw [d]; exact ⟨_,m,q⟩)
theorem Ž (lo hi:Option Int) (n:Nat):(sliceBounds lo hi none n).1=((HT.sIx n 0 lo:Nat):Int)/\(sliceBounds lo hi none n).2.1=((HT.sIx n n hi:Nat):Int)/\(sliceBounds lo hi none n).2.2=1:=by
 refine ⟨?_,?_,rfl⟩
 .cases lo with
  | none=>simp [sliceBounds,HT.sIx]
  | some i =>
   simp only [sliceBounds,HT.sIx,Option.getD_none,show (1:Int) > 0 by decide,if_true];by_cases h:i < 0
   .simp only [h,if_true] <;> omega
   .simp only [h,if_false] <;> omega
 .cases hi with
  | none=>simp [sliceBounds,HT.sIx]
  | some i =>
   simp only [sliceBounds,HT.sIx,Option.getD_none,show (1:Int) > 0 by decide,if_true];by_cases h:i < 0
   .simp only [h,if_true] <;> omega
   .simp only [h,if_false] <;> omega
theorem ń (its:List Value) (lo hi:Option Int):slicePick its.toArray lo hi none=((its.drop (HT.sIx its.length 0 lo)).take (HT.sIx its.length its.length hi - HT.sIx its.length 0 lo)).toArray:=by
 obtain ⟨b,a,c⟩:=Ž lo hi its.toArray.size;unfold slicePick;rw [b,a,c];simp only [sliceRange_one,pick_run,bH] <;> rfl
def vba (K:W.Frag):V->Option Int->Option Int->Hp->VK->Prop:=fun x lo hi H Q=>∃ a xs,x=.ref a/\SqL K H a xs/\∀ p,H p=none->Q (.ref p) (upd H p (.lst (ybl xs lo hi)))
theorem jb:SlR X (vba X.K):=by
 intro g s σ H x v y t lo e w Q I l m k n h;obtain ⟨a,c,rfl,p,q⟩:=h;cases l;obtain ⟨i,r,f,j⟩:=I.list p;have d:=r.length;refine ⟨"list",_,slot_list_getitem.lookup,f.isList.typeIs,?_⟩;refine wpAny_getItem_list_slice f.isList m k n .none (by simp) ?_ (by rw [bH] <;> omega);rw [ń,<- d];refine ⟨.ref s.heap.objs.size,_,I.laid (t':=s.toks) (o:=.lst (ybl c lo e)) (fun b u q=>bz _ q) (bA _) ?_,rfl,q _ (I.hok.fresh (bA _))⟩;exact ⟨cc (ê c lo e) j,_,0,(r.drop (HT.sIx c.length 0 lo)).take (HT.sIx c.length c.length e - HT.sIx c.length 0 lo),bN _ rfl⟩
def ybj:V->Bool
 | .non=>true
 | .bl _=>true
 | .int _=>true
 | .str _=>true
 | _=>false
def eqV:V->V->Bool
 | .non,.non=>true
 | .bl a,.bl b=>a == b
 | .bl a,.int b=>(if a then 1 else 0) == b
 | .int a,.bl b=>a == (if b then 1 else 0)
 | .int a,.int b=>a == b
 | .str a,.str b=>a == b
 | _,_=>false
theorem ys4 {A:Around} {s:Shared} {y x:V} {u:Value} (ry:xk y u) (rx:xk x v) (fy:ybj y=true) (fx:ybj x=true):SeqAt.EqAt A s u v (eqV y x):=by
 cases y with
 | non =>
  cases ry
  cases x with
  | non=>cases rx; exact SeqAt.EqAt.same _
  | bl b=>cases rx; exact SeqAt.EqAt.none_bool b
  | int b=>obtain ⟨t,rfl⟩:=rx; exact SeqAt.EqAt.none_int b t
  | str b=>obtain ⟨t,rfl⟩:=rx; exact SeqAt.EqAt.none_str b t
  | _=>exact absurd (show false=true from fx) bK
 | bl a =>
  cases ry
  cases x with
  | non=>cases rx; exact SeqAt.EqAt.bool_none a
  | bl b=>cases rx; exact SeqAt.EqAt.bool_bool a b
  | int b=>obtain ⟨t,rfl⟩:=rx; exact SeqAt.EqAt.bool_int a b t
  | str b=>obtain ⟨t,rfl⟩:=rx; exact SeqAt.EqAt.bool_str a b t
  | _=>exact absurd (show false=true from fx) bK
 | int a =>
  obtain ⟨c,rfl⟩:=ry
  cases x with
  | non=>cases rx; exact SeqAt.EqAt.int_none a c
  | bl b=>cases rx; exact SeqAt.EqAt.int_bool a c b
  | int b=>obtain ⟨t,rfl⟩:=rx; exact SeqAt.EqAt.int_int a c b t
  | str b=>obtain ⟨t,rfl⟩:=rx; exact SeqAt.EqAt.int_str a c b t
  | _=>exact absurd (show false=true from fx) bK
 | str a =>
  obtain ⟨c,rfl⟩:=ry
  cases x with
  | non=>cases rx; exact SeqAt.EqAt.str_none a c
  | bl b=>cases rx; exact SeqAt.EqAt.str_bool a c b
  | int b=>obtain ⟨t,rfl⟩:=rx; exact SeqAt.EqAt.str_int a c b t
  | str b=>obtain ⟨t,rfl⟩:=rx; exact SeqAt.EqAt.str_str a c b t
  | _=>exact absurd (show false=true from fx) bK
 | _=>exact absurd (show false=true from fy) bK
def eqU (x:V) (u:Value):Bool:=match u with
 | .none=>eqV .non x
 | .bool b=>eqV (.bl b) x
 | .int i _=>eqV (.int i) x
 | .str z _=>eqV (.str z) x
 | _=>false
theorem ylg {x y:V} {u:Value} (r:xk y u) (f:ybj y=true):eqU x u=eqV y x:=by
 cases y with
 | non=>cases r; rfl
 | bl b=>cases r; rfl
 | int i=>obtain ⟨t,rfl⟩:=r; rfl
 | str z=>obtain ⟨t,rfl⟩:=r; rfl
 | _=>exact absurd (show false=true from f) bK
theorem ycb {x:V}:∀ {xs:List V} {us:List Value},wn xs us->xs.all ybj=true->us.any (eqU x)=xs.any fun y=>eqV y x
 | _,_,.nil,_=>rfl
 | y :: xs,u :: us,.cons r t,f=>by
  rw [List.all_cons,bX] at f;rw [List.any_cons,List.any_cons,ylg r f.1,ycb t f.2]
theorem ř {A:Around} {s:Shared} {x:V} (rx:xk x v) (fx:ybj x=true):∀ {xs:List V} {us:List Value},wn xs us->xs.all ybj=true->∀ u∈us,SeqAt.EqAt A s u v (eqU x u)
 | _,_,.nil,_=>fun u a=>by cases a
 | y :: xs,u :: us,.cons r t,f=>fun b a=>by
  rw [List.all_cons,bX] at f;rcases bI.mp a with rfl | a
  .rw [ylg r f.1]; exact ys4 r rx f.1 fx
  .exact ř rx fx t f.2 b a
def inV (x:V) (xs:List V):Bool:=xs.any fun y=>eqV y x
def rIn (K:W.Frag) (neg:Bool):R2:=fun x y H Q=>∃ p xs,y=.ref p/\(SqL K H p xs\/SqT K H p xs)/\ybj x=true/\xs.all ybj=true/\Q (.bl (if neg then !inV x xs else inV x xs)) H
theorem ygf:OpR X (compareOp .In) (rIn X.K false):=by
 intro g s σ H x y v u Q I f k h;obtain ⟨p,l,rfl,b,i,c,q⟩:=h;cases k;rcases b with b | b
 .obtain ⟨a,r,d,j⟩:=I.list b;refine SeqAt.in_listAt (eqU x) d.isList (fun w e=>ř f i r c w (by simpa using e)) ⟨.bl _,H,I,rfl,?_⟩;rw [show a.toArray.any (eqU x)=a.any (eqU x) by simp,ycb r c];exact q
 .obtain ⟨a,r,d,j⟩:=I.tuple b;refine SeqAt.in_tupleAt (eqU x) d (fun w e=>ř f i r c w (by simpa using e)) ⟨.bl _,H,I,rfl,?_⟩;rw [show a.toArray.any (eqU x)=a.any (eqU x) by simp,ycb r c];exact q
theorem yz:zx X (.builtin "len") (fun xs H Q=>∃ p ys,xs=[.ref p]/\(SqL X.K H p ys\/SqT X.K H p ys)/\Q (.int ys.length) H):=by
 intro f s σ H xs j Q I r h;obtain ⟨p,ys,rfl,b,q⟩:=h;obtain ⟨u,rfl,i⟩:=ω r;cases i;have k:=ybc;rcases b with b | b
 .obtain ⟨c,e,d,g⟩:=I.list b;have a:=e.length;exact Calls.call_len_list d.isList (by simp only [bH] <;> omega) ⟨.int ys.length,H,I.tok _,⟨s.toks+1,by rw [bH,a]⟩,q⟩
 .obtain ⟨c,e,d,g⟩:=I.tuple b;have a:=e.length;exact len_tuple d (by simp only [bH] <;> omega) ⟨.int ys.length,H,I.tok _,⟨s.toks+1,by rw [bH,a]⟩,q⟩
theorem Ñ:zx X (.builtin "len") (fun xs H Q=>∃ z,xs=[.str z]/\z.length <= sizeLine/\Q (.int z.length) H):=by
 intro a s σ H xs c Q I r h;obtain ⟨z,rfl,b,q⟩:=h;obtain ⟨u,rfl,t,rfl⟩:=ω r;have d:=ybc;exact len_str (by omega) ⟨.int z.length,H,I.tok _,⟨_,rfl⟩,q⟩
theorem v8:zx X (.type "list") (fun xs H Q=>∃ p ys,xs=[.ref p]/\(SqL X.K H p ys\/SqT X.K H p ys)/\∀ l,H l=none->Q (.ref l) (upd H l (.lst ys))):=by
 intro m s σ H xs B Q I r h;obtain ⟨p,ys,rfl,t,q⟩:=h;obtain ⟨u,rfl,A⟩:=ω r;cases A;have g:∀ (a:List Value),wn ys a->ys.length <= sizeLine->∀ (c:Heap) (d:Nat),(∀ b o',s.heap.get? b=some o'->c.get? b=some o') ->
   c.get? s.heap.objs.size=some { cls:=.type "list",dict:=none,data:=.seq a.toArray d,slots:=#[] }->EP X m σ Q (.ref s.heap.objs.size) { s with heap:=c }:=fun a f i c d j e =>
  ⟨.ref s.heap.objs.size,_,I.laid (t':=s.toks) j (bA _) (show xf X.prog X.w _ c _ (.lst ys) from ⟨i,a,d,f,e⟩),rfl,q _ (I.hok.fresh (bA _))⟩
 rcases t with t | t
 .obtain ⟨a,f,x,i⟩:=I.list t;have k:=f.length;obtain ⟨o,y,z,n,v⟩:=x.isList;exact call_list_seq p (.inl rfl) y z v (fun c d j e=>g a f i c d j e) (by simp only [bH] <;> omega)
 .obtain ⟨a,f,x,i⟩:=I.tuple t;have k:=f.length;obtain ⟨o,y,z,n,v⟩:=x;exact call_list_seq p (.inr rfl) y z v (fun c d j e=>g a f i c d j e) (by simp only [bH] <;> omega)
theorem ζ:zx X (.type "tuple") (fun xs H Q=>∃ p ys,xs=[.ref p]/\((SqL X.K H p ys/\∀ l,H l=none->Q (.ref l) (upd H l (.tup ys)))\/(SqT X.K H p ys/\Q (.ref p) H))):=by
 intro a s σ H xs x Q I r h;obtain ⟨p,ys,rfl,h⟩:=h;obtain ⟨u,rfl,t⟩:=ω r;cases t;rcases h with ⟨i,q⟩ | ⟨i,q⟩
 .obtain ⟨c,g,f,j⟩:=I.list i;have m:=g.length;refine call_tuple_list f.isList (fun d v=>?_) (by simp only [bH] <;> omega);have k:Inv X a σ H { s with heap:=d }:=I.kept (t':=s.toks) v
  have n:Inv X a σ (upd H d.objs.size (.tup ys)) { s with heap:=d.push { cls:=.type "tuple",data:=.seq c.toArray } } :=
   k.laid (t':=s.toks) (fun b o e=>bz _ e) (bA _) (show xf X.prog X.w _ _ _ (.tup ys) from ⟨j,c,g,IsTup.new _ _⟩)
  exact ⟨.ref d.objs.size,_,n,rfl,q _ (k.hok.fresh (bA _))⟩
 .obtain ⟨c,g,f,j⟩:=I.tuple i;exact call_tuple_same f ⟨.ref p,H,I,rfl,q⟩
def tyV (K:W.Frag) (T:String) (x:V) (H:Hp):Prop:=match x with
 | .str _=>T="str"
 | .int _=>T="int"
 | .ref p=>(T="list"/\∃ xs,SqL K H p xs)\/(T="tuple"/\∃ o,K.lookup p=some o/\o.cls=.type "tuple"/\o.dict=none) \/
   (T="dict"/\((∃ kvs,H p=some (.dK kvs))\/∃ kvs,H p=some (.dT kvs)))\/(T="set"/\∃ S n,H p=some (.set S n))
 | _=>False
theorem ymy {σ:St} {H:Hp} {s:Shared} {T:String} {x:V} (I:Inv X pins σ H s) (r:xk x v) (ty:tyV X.K T x H) :
  s.TypeIs v T/\∀ a,v=.ref a->∃ ob,s.heap.get? a=some ob/\ob.dict=none:=by
 cases x with
 | str z =>
  obtain ⟨t,rfl⟩:=r;cases (show T="str" from ty)
  exact ⟨typeIs_str s z t,fun _ e=>nomatch e⟩
 | int i =>
  obtain ⟨t,rfl⟩:=r;cases (show T="int" from ty)
  exact ⟨typeIs_int s i t,fun _ e=>nomatch e⟩
 | ref p =>
  cases r;rcases ty with ⟨rfl,q,m⟩ | ⟨rfl,o,b,l,f⟩ | ⟨rfl,b⟩ | ⟨rfl,S,n,b⟩
  .obtain ⟨k,_,j,_⟩:=I.list m;refine ⟨j.isList.typeIs,fun a e=>?_⟩;cases e;obtain ⟨o,n,e,c,f,_⟩:=j;exact ⟨o,e,f⟩
  .refine ⟨⟨o,I.kIn p o b,l⟩,fun a e=>?_⟩;cases e;exact ⟨o,I.kIn _ o b,f⟩
  .have z:∃ o,s.heap.get? p=some o/\o.ExactDict:=by
    rcases b with ⟨h,b⟩ | ⟨h,b⟩
    .obtain ⟨_,_,_,_,o,_,_,e,d,_⟩:=I.hok p _ b;exact ⟨o,e,d⟩
    .obtain ⟨_,_,_,_,o,_,_,e,d,_⟩:=I.hok p _ b;exact ⟨o,e,d⟩
   obtain ⟨o,e,d⟩:=z;refine ⟨⟨o,e,d.1⟩,fun a g=>?_⟩;cases g;exact ⟨o,e,d.2.1⟩
  .obtain ⟨o,_,_,_,e,d,_⟩:=I.hok p _ b;refine ⟨⟨o,e,d.1⟩,fun a g=>?_⟩;cases g;exact ⟨o,e,d.2.1⟩
 | _=>exact False.elim ty
def va2 (K:W.Frag) (T:String) (r:V->List V->Hp->VK->Prop) (to:TE):TE:=fun σ H Q=>to σ H fun x H1=>tyV K T x H1/\r x [] H1 Q
def tBM (K:W.Frag) (T:String) (r:V->List V->Hp->VK->Prop) (to:TE) (t:TA):TE:=fun σ H Q=>to σ H fun x H1=>tyV K T x H1/\t σ H1 fun xs H2=>r x xs H2 Q
variable {o e:Expr} {es:List Expr} {to:TE} {t:TA} {name:Str} {apos cpos:Pos} {T id:String} {r:V->List V->Hp->VK->Prop}
theorem đ (pa:PlainAttrs T) (slot:Slot T name id) (hty:typeOf (.builtin id)=pure (.type "method_descriptor")) (hm:MtR X id r) (ho:PE X o to)
  (hbase:attributeBase o name X.env (eval o X.env)=eval o X.env:=by rfl) (hline:(apos.endLine == cpos.line)=true:=by rfl):PE X (.Call (.Attribute o name apos) [] [] cpos) (va2 X.K T r to):=by
 refine .mk fun a s σ H Q I h=>?_;refine wpAny_Call_method0_late hbase hline (thn (ho a s σ H _ I h) fun v d h'=>?_);obtain ⟨x,f,b,c,g,e⟩:=h';obtain ⟨i,j⟩:=ymy b c g;exact ⟨T,id,pa,slot,hty,i,j,Calls.callWith_builtin rfl (PySem.evalArgs_none (hm a d σ f x [] v [] Q b c .nil e))⟩
theorem ψ (pa:PlainAttrs T) (slot:Slot T name id) (hty:typeOf (.builtin id)=pure (.type "method_descriptor")) (hm:MtR X id r) (ho:PE X o to) (ha:PA X (e :: es) t)
  (hbase:attributeBase o name X.env (eval o X.env)=eval o X.env:=by rfl)
  (hfew:((backTo cpos (starEach (e :: es) X.env)).all (fun x=>!x.1) && (backToKw cpos (keywordEach [] X.env)).all (fun x=>x.1.isSome)
   && decide ((e :: es).length+([]:List Keyword).length+(if ([]:List Keyword).isEmpty then 0 else 1) < 30))=true:=by rfl)
  (hline:(apos.endLine == cpos.line)=true:=by rfl) (hs:starEach (e :: es) X.env=(false,eval e X.env) :: starEach es X.env:=by rfl) (hplain:(backTo cpos (starEach es X.env)).any (·.1)=false:=by rfl) :
  PE X (.Call (.Attribute o name apos) (e :: es) [] cpos) (tBM X.K T r to t):=by
 refine .mk fun a s σ H Q I h=>?_;refine wpAny_Call_method_late hbase hfew hline rfl (thn (ho a s σ H _ I h) fun v f h'=>?_);obtain ⟨x,p,b,c,u,k⟩:=h';obtain ⟨w,y⟩:=ymy b c u;refine ⟨T,id,pa,slot,hty,w,y,?_⟩;have d:=ha cpos a f σ p _ b k;rw [hs] at d ⊢;refine Calls.callWith_builtin (by show (false || (backTo cpos (starEach es X.env)).any (·.1))=false; rw [hplain] <;> rfl) (Calls.evalArgs_plain ?_);exact thn d fun j l ⟨i,q,g,m,n⟩=>hm a l σ q x i v j Q g c m n
end
def MtM (X:Cx) (id:String) (r:V->List V->Hp->VK->Prop):Prop :=
 ∀ (pins:List (Addr × Obj)) (s:Shared) (σ:St) (H:Hp) (x:V) (xs:List V) (v:Value) (us:List Value) (Q:VK),Inv X pins σ H s->xk x v->wn xs us->r x xs H Q ->
  wpAny (model X.prog X.w) X.A (call (.builtin id) (v :: us)) (EP X pins σ Q) X.xe s
theorem wn.one:∀ {x:V} {us:List Value},wn [x] us->∃ u,us=[u]/\xk x u
 | _,_,.cons r .nil=>⟨_,rfl,r⟩
theorem wn.zero:∀ {us:List Value},wn [] us->us=[]
 | _,.nil=>rfl
theorem wn.reverse {xs:List V} {us:List Value} (h:wn xs us):wn xs.reverse us.reverse:=by
 induction h with
 | nil=>exact .nil
 | cons r t ih=>rw [List.reverse_cons,List.reverse_cons]; exact wn.append ih (.cons r .nil)
theorem wn.rep {xs:List V} {us:List Value} (h:wn xs us):∀ k:Nat,wn (List.replicate k xs).flatten (List.replicate k us).flatten
 | 0=>.nil
 | k+1=>by
  rw [cw,cw,List.flatten_cons,List.flatten_cons];exact wn.append h (wn.rep h k)
theorem ya2 (its:List Value):∀ (k:Nat) (acc:List Value),
  List.foldl (fun x1 x2=>x1++x2) acc.toArray (List.replicate k its.toArray)=(acc++(List.replicate k its).flatten).toArray
 | 0,acc=>by simp
 | k+1,acc=>by
  have e:acc.toArray++its.toArray=(acc++its).toArray:=by simp
  have a:(acc++its)++(List.replicate k its).flatten=acc++(List.replicate (k+1) its).flatten:=by
   rw [cw,List.flatten_cons,cz]
  rw [<- a,<- ya2 its k (acc++its),<- e,cw,List.foldl_cons]
section
variable {X:Cx} {σ:St} {H:Hp} {s:Shared} {l b:Addr} {xs ys zs:List V}
theorem Inv.lset {its':List Value} {n:Nat} {f:Array Value->Array Value} {t':Nat} (I:Inv X pins σ H s) (hH:H l=some (.lst xs))
  (e:s.heap.get? l=some { cls:=.type "list",data:=.seq its.toArray n }) (hf:f its.toArray=its'.toArray) (hv:wn ys its') (hz:ys.length <= sizeLine) :
  Inv X pins σ (upd H l (.lst ys)) { s with heap:=s.heap.update l (Obj.mapSeq f),toks:=t' }:=by
 have q:=PySem.IsL.update e f;rw [hf] at q;refine I.write (x:=l) (e:=l) (by rw [hH]; exact trivial) (.inl rfl) (fun c u b a=>(Heap.get?_update_other s.heap (Obj.mapSeq f) (Ne.symm b)).trans a) ⟨_,q⟩ ?_;exact ⟨hz,its',_,hv,q⟩
theorem Inv.lnew {t':Nat} (I:Inv X pins σ H s) (hv:wn ys its) (hz:ys.length <= sizeLine) :
  Inv X pins σ (upd H s.heap.objs.size (.lst ys)) { s with heap:=s.heap.push { cls:=.type "list",data:=.seq its.toArray },toks:=t' } :=
 I.laid (fun _ _ q=>bz _ q) (bA _) ⟨hz,its,0,hv,bN _ rfl⟩
theorem Inv.fresh (I:Inv X pins σ H s):H s.heap.objs.size=none:=I.hok.fresh (bA _)
theorem Inv.lstM (I:Inv X pins σ H s) (hH:H l=some (.lst xs)):xs.length <= sizeLine/\∃ (its:List Value) (n:Nat),wn xs its/\xs.length=its.length/\s.heap.get? l=some { cls:=.type "list",data:=.seq its.toArray n }:=by
 obtain ⟨z,its,n,r,e⟩:=I.hok l _ hH;exact ⟨z,its,n,r,r.length,e⟩
theorem ycx {n:Nat} (h:n <= sizeLine):Builtin.List.listTooLong n=false:=by
 unfold Builtin.List.listTooLong;exact bO (by omega)
end
section
variable {X:Cx}
def ygs:V->List V->Hp->VK->Prop:=fun x vs H Q=>∃ l xs y,x=.ref l/\vs=[y]/\H l=some (.lst xs)/\xs.length < sizeLine/\Q .non (upd H l (.lst (xs++[y])))
theorem wz:MtM X "list.append" ygs:=by
 intro c s σ H x k v j Q I d g h;obtain ⟨l,m,y,rfl,rfl,b,i,q⟩:=h;cases d;obtain ⟨u,rfl,f⟩:=g.one;obtain ⟨z,a,n,r,o,e⟩:=I.lstM b;refine call_meets F.slot_list_append ⟨_,e,rfl⟩ F.entry_list_append (F.args_list_append_2 _ _) (PySem.list_append l a.toArray n u (by rw [bH]; omega)) ⟨e,?_⟩;refine ⟨.non,_,I.lset (its':=a++[u]) b e (by simp) (r.append (.cons f .nil)) ?_,rfl,q⟩;rw [bC,cy];omega
def yox:V->List V->Hp->VK->Prop:=fun x vs H Q=>∃ l b xs zs,x=.ref l/\vs=[.ref b]/\H l=some (.lst xs)/\H b=some (.lst zs)/\xs.length+zs.length <= sizeLine/\Q .non (upd H l (.lst (xs++zs)))
theorem ygi:MtM X "list.extend" yox:=by
 intro i s σ H x A v B Q I j y h;obtain ⟨l,b,G,C,rfl,rfl,g,m,E,q⟩:=h;cases j;obtain ⟨u,rfl,w⟩:=y.one;cases w;obtain ⟨z,c,n,r,J,e⟩:=I.lstM g;obtain ⟨D,a,t,o,k,p⟩:=I.lstM m;have f:c.toArray.size+a.toArray.size <= sizeLine:=by rw [bH,bH]; omega
 have d:¬ (!c.toArray.isEmpty && Builtin.List.listTooLong (c.toArray.size+a.toArray.size))=true:=by
  rw [ycx f,Bool.and_false];exact bK
 refine call_meets F.slot_list_extend ⟨_,e,rfl⟩ F.entry_list_extend (F.args_list_extend_2 _ _)
  (AutoSeq1.list_extend_list_list_0 l c.toArray n b a.toArray t d (by rw [bH]; omega) (by omega)) ⟨e,p,?_⟩
 refine ⟨.non,_,I.lset (its':=c++a) g e (by simp) (r.append o) ?_,rfl,q⟩;rw [bC];omega
def ydk:V->List V->Hp->VK->Prop:=fun x vs H Q=>∃ l xs,x=.ref l/\vs=[]/\H l=some (.lst xs)/\Q .non (upd H l (.lst xs.reverse))
theorem Ê:MtM X "list.reverse" ydk:=by
 intro d s σ H x j v i Q I f g h;obtain ⟨l,k,rfl,rfl,c,q⟩:=h;cases f;have b:=g.zero;subst b;obtain ⟨z,a,n,r,m,e⟩:=I.lstM c;refine call_meets F.slot_list_reverse ⟨_,e,rfl⟩ F.entry_list_reverse (F.args_list_reverse_1 _) (AutoSeq1.list_reverse_list_0 l a.toArray n (by rw [bH]; omega)) ⟨e,?_⟩;refine ⟨.non,_,I.lset (its':=a.reverse) c e (by simp) r.reverse ?_,rfl,q⟩;rw [List.length_reverse];omega
def yv2:V->List V->Hp->VK->Prop:=fun x vs H Q=>∃ l xs,x=.ref l/\vs=[]/\H l=some (.lst xs)/\Q .non (upd H l (.lst []))
theorem Ş:MtM X "list.clear" yv2:=by
 intro d s σ H x j v i Q I f g h;obtain ⟨l,k,rfl,rfl,c,q⟩:=h;cases f;have b:=g.zero;subst b;obtain ⟨z,a,n,r,m,e⟩:=I.lstM c;refine call_meets F.slot_list_clear ⟨_,e,rfl⟩ F.entry_list_clear (F.args_list_clear_1 _) (AutoSeq1.list_clear_list_0 l a.toArray n (by rw [bH]; omega)) ⟨e,?_⟩;exact ⟨.non,_,I.lset (its':=[]) (ys:=[]) c e rfl .nil (bR _),rfl,q⟩
def vb0:R2:=fun x y H Q=>∃ l b xs zs,x=.ref l/\y=.ref b/\H l=some (.lst xs)/\H b=some (.lst zs)/\xs.length+zs.length <= sizeLine/\∀ p,H p=none->Q (.ref p) (upd H p (.lst (xs++zs)))
theorem yed:OpR X (binaryOp .Add) vb0:=by
 intro d s σ H x y v u Q I i p h;obtain ⟨l,b,C,w,rfl,rfl,o,g,t,q⟩:=h;cases i;cases p;obtain ⟨z,c,n,r,D,e⟩:=I.lstM o;obtain ⟨A,a,B,j,m,k⟩:=I.lstM g;refine PySem.P.add_list e k ?_ (by rw [bH,bH]; omega);have f:c.toArray++a.toArray=(c++a).toArray:=by simp
 rw [f];exact ⟨.ref _,_,I.lnew (t':=s.toks) (r.append j) (by rw [bC]; omega),rfl,q _ I.fresh⟩
def vbl:R2:=fun x y H Q=>∃ l k xs,x=.ref l/\y=.int k/\H l=some (.lst xs)/\-(2 ^ 63) <= k/\k < 2 ^ 63/\xs.length * k.toNat <= sizeLine /\
 ∀ p,H p=none->Q (.ref p) (upd H p (.lst (List.replicate k.toNat xs).flatten))
theorem ynu {α:Type} (xs:List α) (k:Nat):(List.replicate k xs).flatten.length=k * xs.length:=by
 induction k with
 | zero=>simp
 | succ k ih=>rw [cw,List.flatten_cons,bC,ih,Nat.succ_mul,Nat.add_comm]
theorem yiw:OpR X (binaryOp .Mult) vbl:=by
 intro p s σ H x y v u Q I A C h;obtain ⟨l,k,L,rfl,rfl,E,G,J,w,q⟩:=h;cases A;obtain ⟨t,rfl⟩:=C;obtain ⟨z,b,n,r,K,e⟩:=I.lstM E;have i:b.toArray.size * k.toNat <= sizeLine:=by rw [bH,<- K]; exact w
 have g:¬ b.toArray.size * k.toNat > (2 ^ 63 - 1) / 8:=by
  have:(sizeLine:Nat) <= (2 ^ 63 - 1) / 8:=by decide
  omega
 have f:¬ (!Builtin.List.listFitsIndex k)=true:=by
  rw [fitsIndex_both G J];exact bK
 have c:¬ Builtin.List.listTooLong (b.toArray.size * k.toNat)=true:=by
  rw [ycx i];exact bK
 have d:List.foldl (fun j o=>j++o) #[] (List.replicate (if b.toArray.isEmpty=true then 0 else k.toNat) b.toArray)=(List.replicate k.toNat b).flatten.toArray:=by
  have D:∀ m:Nat,List.foldl (fun j o=>j++o) #[] (List.replicate m b.toArray)=(List.replicate m b).flatten.toArray:=fun m=>by
   have:=ya2 b m [];rw [List.nil_append] at this;exact this
  rw [D]
  cases b with
  | nil=>simp
  | cons a r'=>rw [if_neg (by simp)]
 refine wpAny_binaryOp_repeat_ref (T:="list") (U:="int") (by decide) ⟨_,e,rfl⟩ (fun B=>typeIs_int B k t) noFill_list_mul F.fills_int_mul F.slot_int_rmul repeat_list F.slot_int_index.lookup
  (call_meets F.slot_int_rmul (typeIs_int s k t) F.entry_int_rmul (F.args_int_rmul_2 _ _) (int___rmul___int_list k t l b.toArray n)
   ⟨e,rfl,⟨_,e,rfl⟩,call_meets F.slot_list_mul ⟨_,e,rfl⟩ F.entry_list_mul (F.args_list_mul_2 _ _) (AutoListH.list___mul___list_int_3 l b.toArray n k t f g c) ⟨e,?_⟩⟩)
 rw [d];exact ⟨.ref _,_,I.lnew (t':=s.toks) (r.rep k.toNat) (by rw [ynu,Nat.mul_comm]; exact w),rfl,q _ I.fresh⟩
end
end L2
namespace Att
open PySem PySem.W PySem.Calls PyProof.Rows
theorem é {P:Params} {h:Heap}:∀ (ns:List Int) (vs:List Value),WellAll P h vs (ns.map WData.int)->IntsAre vs ns:=by
 intro ns
 induction ns with
 | nil =>
  intro vs w;rw [List.map_nil] at w;cases w;exact .nil
 | cons n ns ih =>
  intro vs w;rw [cm] at w
  cases w with
  | cons a b =>
   cases a;exact .cons _ _ (ih _ b)
theorem yfy {l:OpenLaw} {n:Nat} (hn:l.most=some n) {P:Params} {h:Heap} {args:List WData} {vals:List Value}
  (hpre:l.row.toRowW.claim.pre args=true) (hwl:WellAll P h vals args) :
  ∃ a vs ns,vals=[Value.ref a]/\args=[WData.list (ns.map WData.int)]/\h.get? a=some { cls:=.type "list",data:=.seq vs.toArray }/\IntsAre vs ns/\ns.length <= n:=by
 have f:WShape.hasAll [] args [.list .int]=true:=(pre_splitW hpre).1;have g:l.pre.holds [] { args:=args }=true:=(pre_splitW hpre).2;obtain ⟨d,r,rfl,m,k⟩:=hasAllW_cons f;obtain rfl:=hasAllW_nil k;obtain ⟨o,rfl,i⟩:=hasW_list m;obtain ⟨ns,rfl⟩:=items_int i
 have b:ns.length <= n:=by
  unfold OpenLaw.pre at g
  have e:(WTm.not (.lt (.lit (.int (n:Int))) (.len (.arg 0)))).holds [] { args:=[.list (ns.map .int)] }=true:=by
   have e:=(holds_andW g).1;rw [hn] at e;exact e
  have c:=condW_of e (w_not (w_lt w_lit (w_len_list (w_arg rfl))));rw [bv] at c;refine Nat.le_of_not_lt fun q=>?_;have j:(n:Int) < ((ns.length:Nat):Int):=by omega
  first
   | (rw [bJ j] at c; exact absurd c (by decide))
   | (simp at c; omega)
 cases hwl with
 | cons w1 w2 =>
  cases w2
  cases w1 with
  | list ho hall=>exact ⟨_,_,ns,rfl,rfl,ho,é ns _ hall,b⟩
theorem ygp (l:OpenLaw) (args:List WData):l.row.toRowW.claim.post args (.bool true) args=true :=
 postW_of (r:=l.row.toRowW) (X:=(true == true))
  (show WShape.has [] (.bool true) .bool=true by first | rfl | decide | simp [WShape.has,WShape.arms,WShape.armsAll])
  (show (WTm.eq .res (.lit (.bool true))).value [] { args:=args,res:=some (.bool true),after:=args }=some (.bool (true == true)) from w_eq_bool (w_res rfl) w_lit) rfl
theorem attach_call {l:OpenLaw} {n:Nat} {q:Program} {loose:List Str} {XP:(Str->Option Value)->Heap->Prop} {YP:World->Heap->Prop} {d:DefRec}
  (hn:l.most=some n) (hdf:d.params.defaults=[])
  (call:∀ (w:World) (s₀ s₁:Shared) (mg mb:Str->Option Value) (fa:Addr) (o:Obj) (pm cd doc:Value) (a:Addr) (vs:List Value) (ns:List Int),
   Ground q loose [] XP w s₀ mg mb s₁.heap->YP w s₁.heap ->
   s₁.heap.get? fa=some o->o.data=.func (docDef d.name d.params d.body d.scope pm cd doc)->s₁.heap.CodeRec cd d.name->mg d.name=some (.ref fa) ->
   s₁.heap.get? a=some { cls:=.type "list",data:=.seq vs.toArray }->IntsAre vs ns->ns.length <= n->s₁.gens=#[] ->
   codeAny (model l.prog w) callerA (.call (.ref fa) ⟨[.ref a],[]⟩) (fun r s'=>r=.ok (.ret (.bool true))/\OldK s₁.heap s'.heap/\s'.os=s₁.os/\AllBare s'.gens) s₁) :
  WalkO q loose XP YP l.row.toRowW d [] (fun f vs=>PySem.call f vs):=by
 intro w s₀ s₁ mg mb G Y fa o pm cd doc z kV x u j p i B t k H c m D h C;obtain rfl:z=.none:=Dflts.none p hdf;obtain rfl:kV=.none:=Dflts.noKw p;obtain ⟨a,vs,ns,rfl,rfl,e,b,g⟩:=yfy hn c h;refine enter_call (codeAny_mono (call w s₀ s₁ mg mb fa o pm cd doc a vs ns G Y x (fd_plain u) j i e b g B) fun r s' A=>?_);obtain ⟨rfl,F,v,y⟩:=A
 exact ⟨.inl ⟨.bool true,.bool true,[],rfl,fun _=>rfl,.bool true,ygp l _,fun _=>⟨List.Pairwise.nil,fun _ E=>(nomatch E)⟩⟩,F,v,y⟩
section
variable {prog:Program} {w:World} {A:Around} {E:Value->Shared->Prop} {s:Shared} {K:Frag}
def van (h:Heap) (L d:Addr):List (Addr × Obj):=(List.range h.objs.size).filterMap fun a=>if a=L\/a=d then none else (h.get? a).map fun o=>(a,o)
end
end Att
namespace L2
open PySem PySem.Spec PyProof.Rows
variable {C a p:Addr} {fd:FuncData} {qual:Str} {T:String}
theorem yak:∀ {vs:List Value} {ns:List Int},IntsAre vs ns->wn (ns.map V.int) vs
 | _,_,.nil=>.nil
 | _,_,.cons n t h=>.cons ⟨t,rfl⟩ (yak h)
def yz5 (H:Hp):Prop:=∀ b,H b=none\/∃ o xs,H b=some (.frz o (.lst xs))
theorem yjq {P:Program} {w:World} {K:W.Frag} {mg mb:Str->Option Value} {CX:CXT} {k:Nat} {fa:Addr} {x:Str} {sp:Sp} {s₁:Shared} {vs:List Value} {ns:List Int}
  (KX:K.In s₁.heap) (hns:s₁.heap.Ns mainGlobals mg) (hb:s₁.heap.Ns builtinsNs mb) (hbb:∀ x:Str,x≠"__name__"->mb x=bootBuiltins x) (hlim:s₁.heap.NoLimit) (hg:s₁.gens=#[])
  (ha:s₁.heap.get? a=some { cls:=.type "list",data:=.seq vs.toArray }) (hi:IntsAre vs ns) (hl:ns.length <= sizeLine) (hr:jq k callerA)
  (F:∀ base:Heap,K.In base->base.Ns mainGlobals mg->wa P w K mg base CX k fa fd [x] sp) (hbind:∀ (s:Shared) (u:Value),BindsTo s fd ⟨[u],[]⟩ [(x,u)])
  (hsp:∀ H:Hp,yz5 H->SqL K H a (ns.map V.int)->sp [.ref a] H (fun v _=>v=.bl true) fun _ _ _=>False)
  (hCX:∀ H e s',CX [] H s₁ (fun _ _ _=>False) e s'->False) :
  codeAny (model P w) callerA (.call (.ref fa) ⟨[.ref a],[]⟩) (fun r s'=>r=.ok (.ret (.bool true))/\OldK s₁.heap s'.heap/\s'.os=s₁.os/\AllBare s'.gens) s₁:=by
 have J:=yak hi;have j:=hi.length;have g:∀ H:Hp,yz5 H->SqL K H a (ns.map V.int)->HOk P w H s₁.heap->(∀ b,H b≠none->b=a)->(H a≠none->K.lookup a=none) ->
   codeAny (model P w) callerA (.call (.ref fa) ⟨[.ref a],[]⟩) (fun r s'=>r=.ok (.ret (.bool true))/\OldK s₁.heap s'.heap/\s'.os=s₁.os/\AllBare s'.gens) s₁:=by
  intro H E M i L R;have c:∀ {b:Addr} {o:Obj},s₁.heap.get? b=some o->H b=none->(ykv s₁.heap H).get? b=some o:=fun e n=>yjy e n
  have C:∀ {b:Addr} {o:Obj} {B:Array DictEntry} {p:Nat},s₁.heap.get? b=some o->o.data=.dict B p->H b=none:=fun {b o B p} e d=>by
   cases q:H b with
   | none=>rfl
   | some u =>
    have D:b=a:=L b (by rw [q]; simp);subst D;rw [ha] at e; cases e;have Q:Data.seq vs.toArray _=Data.dict B p:=d;cases Q
  have f:∀ {b:Addr} {m:Str->Option Value},s₁.heap.Ns b m->(ykv s₁.heap H).Ns b m:=fun {b m} ⟨o,B,p,e,d,r⟩=>⟨o,B,p,c e (C e d),d,r⟩
  have l:K.In (ykv s₁.heap H):=fun b o e=>c (KX b o e) (by
   cases q:H b with
   | none=>rfl
   | some u =>
    have D:b=a:=L b (by rw [q]; simp);subst D;rw [R (by rw [q]; simp)] at e; cases e)
  have T:Mod K mg (ykv s₁.heap H):=⟨l,f hns,⟨mb,f hb,hbb⟩,let ⟨mc,h1,h2⟩:=hlim; ⟨mc,f h1,h2⟩⟩;have O:yr7 P w K mg (ykv s₁.heap H) callerA [] s₁ H:=⟨rfl,T,fun b o e=>yn3 e,Nat.le_of_eq (yf7 _ _),trivial,fun b hb=>absurd (show b∈([]:List Addr) from hb) (by simp),i,.of_eq hg⟩;refine codeAny_mono ((F _ l (f hns)).run callerA [] s₁ H ⟨[.ref a],[]⟩ [.ref a] [.ref a] _ _ hr O (hbind s₁ (.ref a)) (.cons rfl .nil) (hsp H E M)) fun r s' h=>?_
  cases r with
  | error e=>exact (hCX H e s' h).elim
  | ok fl =>
   cases fl with
   | next=>exact False.elim h
   | brk=>exact False.elim h
   | cont=>exact False.elim h
   | ret u =>
    obtain ⟨v,Z,os,t,G,y,X,q⟩:=h;have N:v=.bl true:=q;subst N;obtain rfl:u=Value.bool true:=X;refine ⟨rfl,OldK.of_keep fun b o e=>?_,os,t⟩
    cases q:H b with
    | none=>exact G.keep b o e q (by intro z; exact absurd (show b∈([]:List Addr) from z) (by simp)) (by simp)
    | some u =>
     rcases E b with z | ⟨Y,xs,z⟩
     .rw [q] at z; cases z
     .have U:=G.frzs b Y _ z;obtain ⟨I,_⟩:=i b _ z;obtain ⟨S,_⟩:=y b _ U;rw [e] at I; cases I;exact S
 cases hk:K.lookup a with
 | some o =>
  have e:=KX a o hk;rw [ha] at e;cases e;refine g (fun _=>none) (fun _=>.inl rfl) (.inr ⟨_,vs.toArray,_,hk,rfl,rfl,rfl,by rw [bH,j]; exact hl,by simpa using J⟩) (fun b u z=>by have A:(none:Option HO)=some u:=z; cases A) (fun b z=>absurd rfl z) fun z=>absurd rfl z
 | none =>
  refine g (fun b=>if b=a then some (.frz { cls:=.type "list",data:=.seq vs.toArray } (.lst (ns.map V.int))) else none) (fun b=>?_) (.inl (.inr ⟨{ cls:=.type "list",data:=.seq vs.toArray },if_pos rfl⟩)) (fun b u z=>?_) (fun b z=>?_) fun _=>hk
  .by_cases hb:b=a
   .exact .inr ⟨_,_,if_pos hb⟩
   .exact .inl (if_neg hb)
  .by_cases hb:b=a
   .have A:=(if_pos hb).symm.trans z;cases A;subst hb;exact ⟨ha,by rw [bv]; exact hl,vs,_,J,ha⟩
   .have A:=(if_neg hb).symm.trans z;cases A
  .by_cases hb:b=a
   .exact hb
   .exact absurd (if_neg hb) z
theorem walk_of {l:W.OpenLaw} {n k:Nat} {q:Program} {loose:List Str} {XP:(Str->Option Value)->Heap->Prop} {YP:World->Heap->Prop} {d:DefRec} {K:Params->W.Frag} {CX:World->CXT} {sp:World->Sp} {x:Str}
  (hn:l.most=some n) (hn2:n <= sizeLine) (hdf:d.params.defaults=[]) (hr:jq k callerA)
  (hY:∀ (w:World) (h:Heap),YP w h->(K w.params).In h)
  (F:∀ (w:World) (mg:Str->Option Value) (fa:Addr) (h:Heap),(K w.params).In h->h.Ns mainGlobals mg->mg d.name=some (.ref fa) ->
   ∃ fd:FuncData,(∀ (s:Shared) (u:Value),BindsTo s fd ⟨[u],[]⟩ [(x,u)]) /\
    ∀ base:Heap,(K w.params).In base->base.Ns mainGlobals mg->wa l.prog w (K w.params) mg base (CX w) k fa fd [x] (sp w))
  (hsp:∀ (w:World) (H:Hp) (a:Addr) (ns:List Int),ns.length <= n->yz5 H->SqL (K w.params) H a (ns.map V.int)->sp w [.ref a] H (fun v _=>v=.bl true) fun _ _ _=>False)
  (hCX:∀ (w:World) (H:Hp) (s:Shared) (e:Value) (s':Shared),CX w [] H s (fun _ _ _=>False) e s'->False) :
  W.WalkO q loose XP YP l.row.toRowW d [] (fun f vs=>PySem.call f vs):=by
 refine Att.attach_call hn hdf fun w s₀ s₁ mg L fa o D I B a vs ns G Y J E z m j i c t=>?_;have p:=hY w _ Y;obtain ⟨fd,C,A⟩:=F w mg fa _ p G.T.g m;exact yjq p G.T.g G.T.b G.T.builtins G.T.nolimit t j i (cc c hn2) hr A C (fun H r y=>hsp w H a ns c r y) fun H e s'=>hCX w H s₁ e s'
def y6 (s:Stmt) (j:Nat):Stmt:=match s with
 | .ClassDef _ _ _ body _ _ _ _ _ _ _=>body.getD j (.Pass ⟨0,0,0,0⟩)
 | _=>.Pass ⟨0,0,0,0⟩
def w8 (s:Stmt):Arguments:=match s with
 | .FunctionDef _ a _ _ _ _ _ _ _ _=>a
 | _=>{ posonlyargs:=[],args:=[],vararg:=none,kwonlyargs:=[],kw_defaults:=[],kwarg:=none,defaults:=[] }
def wv (s:Stmt):List Stmt:=match s with
 | .FunctionDef _ _ b _ _ _ _ _ _ _=>b
 | _=>[]
def yh (s:Stmt):Scope:=match s with
 | .FunctionDef _ _ _ _ _ _ sc _ _ _=>sc
 | _=>{ kind:=.function,names:=[],isGenerator:=false,isCoroutine:=false }
abbrev CX0:CXT:=fun _ _ _ _ _ _=>False
abbrev E0:XK:=fun _ _ _=>False
theorem vh {X:Cx}:Ò CX0 X E0:=fun _ _ _ _ _ _ _ h=>h.elim
structure Fun (K:W.Frag) (x qual:Str) (st:Stmt) (f:Addr) (fd:FuncData):Prop where
 ex:∃ (oc:Value) (od:Option Addr) (kV doc pm:Value) (an:Option Addr) (cdv ct:Value) (osl:Array (Option Value)),
  fd=W.fnOf x qual (w8 st) (wv st) (yh st) .none kV doc pm an cdv ct/\K.lookup f=some ⟨oc,od,.func fd,osl⟩/\W.codeIn K cdv qual=true
 kp:W.keepIn K (.ref f)=true
section
variable {P:Program} {w:World} {K:W.Frag} {mg:Str->Option Value} {base:Heap}
theorem Fun.ok {x:Str} {st:Stmt} {f:Addr} {N ps:List Str} {k:Nat} {sp:Sp} (F:Fun K x qual st f fd) (S:ym N ps (yh st)) (len:∀ vs H Q E,sp vs H Q E->vs.length=ps.length)
  (hbody:∀ (cdv:Value) (A:Around) (outer:List Env) (s:Shared) (H:Hp) (vs:List V) (Q:VK) (E:XK),jq k (A.deeper (envOfC qual (yh st) s.heap.objs.size f cdv))->sp vs H Q E ->
   ∃ t,PSs (v9 CX0 P w K mg base N qual (yh st) f cdv A outer s H E).nox (wv st) t/\t { nx:=fun _ H'=>Q .non H',rt:=Q } (Ö N vs) H):wa P w K mg base CX0 (k+1) f fd ps sp:=by
 obtain ⟨m,j,kV,e,n,l,cdv,i,d,rfl,c,a⟩:=F.ex;refine yrd c a S len fun A outer s H vs Q E g b=>?_;obtain ⟨t,h,q⟩:=hbody cdv A outer s H vs Q E g b;exact ⟨t,h.nox,q⟩
theorem Fun.binds {x:Str} {st:Stmt} {f:Addr} {ps:List Str} (F:Fun K x qual st f fd)
  (h:∀ (kV doc pm:Value) (an:Option Addr) (cdv ct:Value) (us:List Value),us.length=ps.length->bindArgs (W.fnOf x qual (w8 st) (wv st) (yh st) .none kV doc pm an cdv ct) ⟨us,[]⟩=pure (ps.zip us)):uy K fd ps []:=by
 obtain ⟨e,c,kV,doc,pm,an,cdv,ct,b,rfl,d,a⟩:=F.ex;exact .all (h kV doc pm an cdv ct)
theorem ymq {x:Str} {st:Stmt} {f:Addr} {oc:Value} {od an:Option Addr} {osl:Array (Option Value)} {kV doc pm cdv ct:Value} (l:K.lookup f=some ⟨oc,od,.func (W.fnOf x qual (w8 st) (wv st) (yh st) .none kV doc pm an cdv ct),osl⟩)
  (c:W.codeIn K cdv qual=true) (k:W.keepIn K (.ref f)=true):Fun K x qual st f (W.fnOf x qual (w8 st) (wv st) (yh st) .none kV doc pm an cdv ct):=⟨⟨oc,od,kV,doc,pm,an,cdv,ct,osl,rfl,l,c⟩,k⟩
end
theorem Ì {A:Around} {k:Nat} (hr:jq k A):A.units+1 < cLine:=Nat.lt_of_le_of_lt (Nat.add_le_add_left (by decide:1 <= 64) _) hr.units
section
variable {X:Cx}
theorem pv (i:Nat) {x:Str} {pos:Pos} (hN:X.N[i]?=some x:=by rfl) (hv:Vis X.env.scope x:=by first | exact Or.inl rfl | exact Or.inr (Or.inl rfl) | exact Or.inr (Or.inr rfl)) (hd:(x == ("__debug__":Str))=false:=by decide)
  (hcd:(x == ("__classdict__":Str))=false:=by decide):PE X (.Name x pos) (vah i):=ytp hN hv hd hcd
end
theorem ė {A B:Prop} (h:B):if false=true then A else B:=by
 rw [if_neg bK];exact h
theorem Ĥ {A B:Prop} (h:A):if true=true then A else B:=by
 rw [if_pos rfl];exact h
def yy (H H':Hp):Prop:=∀ b o,H b=some o->H' b=some o
theorem yy.refl (H:Hp):yy H H:=fun _ _ h=>h
theorem yy.trans {H H1 H2:Hp} (a:yy H H1) (b:yy H1 H2):yy H H2:=fun c o h=>b c o (a c o h)
theorem yy.free {H H':Hp} (e:yy H H') {l:Addr} (h:H' l=Option.none):H l=Option.none:=by
 cases q:H l with
 | none=>rfl
 | some o =>
  rw [e l o q] at h;cases h
theorem yy.seq {K:W.Frag} {H H':Hp} {xs:List V} (e:yy H H') (h:SqL K H a xs):SqL K H' a xs:=by
 rcases h with (h | ⟨o,h⟩) | h
 .exact .inl (.inl (e _ _ h))
 .exact .inl (.inr ⟨o,e _ _ h⟩)
 .exact .inr h
section
variable {X:Cx}
theorem vy:zx X (.builtin "isinstance") (fun xs H Q=>∃ x cv t c k,xs=[x,cv]/\xk cv c/\(∀ u,xk cv u->u=c)/\x4 X.K H x t/\W.kitOne X.K t c=some k/\Q (.bl k) H):=by
 intro a s σ H xs l Q I r h;obtain ⟨x,cv,t,c,k,rfl,_,j,i,e,q⟩:=h;obtain ⟨u,g,rfl,d,f⟩:=yp6 r;obtain rfl:=j g f;exact yfs I d i e fun b=>⟨.bl k,H,I.tok b,rfl,q⟩
theorem ut {x:Str} {pos:Pos} (hg:Gl X x) (hm:X.mg x=none) (hv:bootBuiltins x=some (.type T)) (hn:x≠"__name__":=by decide) (hd:(x == ("__debug__":Str))=false:=by decide):PE X (.Name x pos) (tC (.ty T)):=yns hg hm hv rfl hn hd
theorem vt {x:Str} {i:Int} {t:Tok} {pos:Pos} (hg:Gl X x) (hm:X.mg x=some (.int i t)) (hd:(x == ("__debug__":Str))=false:=by decide):PE X (.Name x pos) (tC (.int i)):=yci hg hm ⟨t,rfl⟩ hd
theorem ych {x:Str} {pos:Pos} (hg:Gl X x) (hm:X.mg x=some (.ref C)) (hd:(x == ("__debug__":Str))=false:=by decide):PE X (.Name x pos) (tC (.ref C)):=yci hg hm rfl hd
mutual
inductive RdV (K:W.Frag) (H:Hp):V->PyData->Prop
 | non:RdV K H .non .none
 | bl (b:_):RdV K H (.bl b) (.bool b)
 | int (i:_):RdV K H (.int i) (.int i)
 | str (x:_):RdV K H (.str x) (.str x)
 | lst {a xs ds:_}:SqL K H a xs->yfl K H xs ds->RdV K H (.ref a) (.list ds)
 | tup {a xs ds:_}:SqT K H a xs->yfl K H xs ds->RdV K H (.ref a) (.tuple ds)
inductive yfl (K:W.Frag) (H:Hp):List V->List PyData->Prop
 | nil:yfl K H [] []
 | cons {x xs d ds:_}:RdV K H x d->yfl K H xs ds->yfl K H (x :: xs) (d :: ds)
end
mutual
theorem RdV.reads {pins:List (Addr × Obj)} {σ:St} {H:Hp} {s:Shared} (I:Inv X pins σ H s):∀ {x:V} {d:PyData} {u:Value},RdV X.K H x d->xk x u->∃ as,Reads s.heap u d as
 | _,_,_,.non,r=>by cases r; exact ⟨_,.none⟩
 | _,_,_,.bl _,r=>by cases r; exact ⟨_,.bool _⟩
 | _,_,_,.int _,r=>by obtain ⟨t,rfl⟩:=r; exact ⟨_,.int _ _⟩
 | _,_,_,.str _,r=>by obtain ⟨t,rfl⟩:=r; exact ⟨_,.str _ _⟩
 | _,_,_,.lst hq hs,r=>by
  cases r;obtain ⟨a,c,⟨o,n,e,g,i,f⟩,h⟩:=I.list hq;obtain ⟨as,b⟩:=yfl.reads I hs c;exact ⟨_,.list e g f (by simpa using b)⟩
 | _,_,_,.tup hq hs,r=>by
  cases r;obtain ⟨a,c,⟨o,e,g,n,f⟩,h⟩:=I.tuple hq;obtain ⟨as,b⟩:=yfl.reads I hs c;exact ⟨_,.tuple e g f (by simpa using b)⟩
theorem yfl.reads {pins:List (Addr × Obj)} {σ:St} {H:Hp} {s:Shared} (I:Inv X pins σ H s):∀ {xs:List V} {ds:List PyData} {us:List Value},yfl X.K H xs ds->wn xs us->∃ as,ReadsAll s.heap us ds as
 | _,_,_,.nil,.nil=>⟨_,.nil⟩
 | _,_,_,.cons h hs,.cons r rs=>by
  obtain ⟨as,a⟩:=RdV.reads I h r;obtain ⟨c,b⟩:=yfl.reads I hs rs;exact ⟨_,.cons a b⟩
end
def yx8 (K:W.Frag) (g:Bool->Bool):R2:=fun x y H Q=>∃ d e,RdV K H x d/\RdV K H y e/\SeqAt.shaped d=true/\SeqAt.shaped e=true/\Q (.bl (g (PyData.eqv d e))) H
theorem ymc (hu:X.A.units+64 < cLine):OpR X (compareOp .Eq) (yx8 X.K fun b=>b):=by
 intro a s σ H x y v u Q I g l h;obtain ⟨d,e,m,k,c,i,q⟩:=h;obtain ⟨o,j⟩:=m.reads I g;obtain ⟨n,f⟩:=k.reads I l;exact eq_dataH j f c i hu ⟨.bl _,H,I,rfl,q⟩
theorem Ē (hu:X.A.units+64 < cLine):OpR X (compareOp .NotEq) (yx8 X.K fun b=>!b):=by
 intro a s σ H x y v u Q I g l h;obtain ⟨d,e,m,k,c,i,q⟩:=h;obtain ⟨o,j⟩:=m.reads I g;obtain ⟨n,f⟩:=k.reads I l;exact ne_dataH j f c i hu ⟨.bl _,H,I,rfl,q⟩
theorem z7 {K:W.Frag} {H:Hp}:∀ ns:List Int,yfl K H (ns.map V.int) (ns.map PyData.int)
 | []=>.nil
 | n :: r=>.cons (.int n) (z7 r)
theorem zd:∀ ns:List Int,PyData.canLayAll0 (ns.map PyData.int)=true
 | []=>rfl
 | _ :: r=>by simp [PyData.canLayAll0,PyData.canLay0,zd r]
theorem ji:∀ ns:List Int,PyData.depthAll (ns.map PyData.int)=0
 | []=>rfl
 | _ :: r=>by simp [PyData.depthAll,PyData.depth,ji r]
theorem ĺ (ns:List Int):SeqAt.shaped (.list (ns.map PyData.int))=true:=by
 simp [SeqAt.shaped,PyData.canLay0,PyData.depth,zd,ji]
theorem zg:∀ ns ms:List Int,PyData.eqvAll (ns.map PyData.int) (ms.map PyData.int)=decide (ns=ms)
 | [],[]=>by simp [PyData.eqvAll]
 | [],_ :: _=>by simp [PyData.eqvAll]
 | _ :: _,[]=>by simp [PyData.eqvAll]
 | a :: r,b :: t=>by
  simp only [cm,PyData.eqvAll,PyData.eqv,zg r t];by_cases h:a=b <;> by_cases h':r=t <;> simp [h,h']
theorem yy7 {K:W.Frag} {g:Bool->Bool} {H:Hp} {Q:VK} {b:Addr} (ns ms:List Int) (ha:SqL K H a (ns.map V.int)) (hb:SqL K H b (ms.map V.int)) (h:Q (.bl (g (decide (ns=ms)))) H):yx8 K g (.ref a) (.ref b) H Q :=
 ⟨_,_,.lst ha (z7 ns),.lst hb (z7 ms),ĺ ns,ĺ ms,by rw [PyData.eqv,zg]; exact h⟩
def yyn (_ j:Int):Prop:=0 < j/\j < 2 ^ 200
theorem vd:OpR X (binaryOp .FloorDiv) (rI yyn fun i j=>.int (i / j)):=opI fun i j _ _ _ _ _ b q=>by
 obtain ⟨d,c⟩:=b;refine floordiv_int (by omega) ?_ (.inl (PyProof.noPylong_of_log2 ?_))
 .rw [Int.fdiv_eq_ediv_of_nonneg _ (by omega)]; exact q
 .have e:j.natAbs < 2 ^ 200:=by omega
  have a:j.natAbs≠0:=by omega
  have:=(Nat.log2_lt a).mpr e;omega
def va4 (t:TS):TS:=fun D σ H=>∃ M:St->Hp->Prop,t { D with nx:=M } σ H/\∀ σ' H',M σ' H'->D.nx σ' H'
theorem ud {st:Stmt} {t:TS} (h:PS X st t):PS X st (va4 t):=by
 refine .mk fun a s σ H D I ⟨M,d,e⟩=>?_;refine thn (h a s σ H { D with nx:=M } I d) fun f g q=>?_
 cases f with
 | next =>
  obtain ⟨σ',b,c,q⟩:=q;exact ⟨σ',b,c,e σ' b q⟩
 | ret v=>exact q
 | brk=>exact q
 | cont=>exact q
end
def wk (nx:St->Hp->Prop) (σ:St) (H:Hp):Prop:=nx σ H
section
variable {K:W.Frag} {σ:St} {H:Hp} {Q:VK} {QB:Bool->Hp->Prop} {QL:List V->Hp->Prop} {v x y:V} {i j:Int} {b:Bool} {ta tb tc te:TE} {t u:TS} {tA tB':TT} {tr:TA} {D:ŵ}
 {nx bk ct:St->Hp->Prop} {rt:VK} {A B:Prop}
theorem yo {N:List Str} {vs:List V} {σ':St} (e:Ö N vs=σ') (h:t D σ' H):t D (Ö N vs) H:=by rw [e]; exact h
theorem yxs {k:Nat} (e:σ[k]?=some (some v)) (h:Q v H):vah k σ H Q:=⟨v,e,h⟩
theorem i_c (h:Q v H):tC v σ H Q:=h
theorem vbp {r:R2} (h:ta σ H fun x H1=>tb σ H1 fun y H2=>r x y H2 Q):tOp r ta tb σ H Q:=h
theorem vbn {r:V->Hp->VK->Prop} (h:ta σ H fun x H1=>r x H1 Q):tUn r ta σ H Q:=h
theorem vbq {g:Int->Int->V} (h:Q (g i j) H):rI0 g (.int i) (.int j) H Q:=⟨i,j,rfl,rfl,h⟩
theorem i_I {C:Int->Int->Prop} {g:Int->Int->V} (hc:C i j) (h:Q (g i j) H):rI C g (.int i) (.int j) H Q:=⟨i,j,rfl,rfl,hc,h⟩
theorem i_U {g:Int->V} (h:Q (g i) H):rU g (.int i) H Q:=⟨i,rfl,h⟩
theorem yzu (h:Q (.bl (decide (i=j))) H):rEq (.int i) (.int j) H Q:=⟨rfl,by
 have e:decide (V.int i=V.int j)=decide (i=j):=by simp
 rw [e]; exact h⟩
theorem yzw (h:Q (.bl (!decide (i=j))) H):rNe (.int i) (.int j) H Q:=⟨rfl,by
 have e:decide (V.int i=V.int j)=decide (i=j):=by simp
 rw [e]; exact h⟩
theorem yvk (h:ta σ H fun x H'=>∃ k,x=.bl k/\QB k H'):ypq ta σ H QB:=h
theorem vbs (h:ta σ H fun x H'=>∃ k,x=.bl k/\QB k H'):tB ta σ H QB:=h
theorem vb1 {P:Bool->Prop} (h:P b):∃ k,V.bl b=V.bl k/\P k:=⟨b,rfl,h⟩
theorem ynj {r r':R2} (h:ta σ H fun x H1=>tb σ H1 fun y H2=>r x y H2 fun z H3=>∃ k,z=.bl k/\(if k=true then tc σ H3 fun w' H4=>r' y w' H4 Q else Q (.bl false) H3)):yh1 r r' ta tb tc σ H Q:=h
theorem yw2 (h:ta σ H fun x H1=>∃ c,x=.bl c/\if c=true then tb σ H1 Q else Q (.bl false) H1):yxo ta tb σ H Q:=h
theorem ywt (h:ta σ H fun x H1=>∃ c,x=.bl c/\Q (.bl (!c)) H1):yxv ta σ H Q:=h
theorem yzv {t1 t2:TT} (h:t1 σ H fun c H1=>if c=true then t2 σ H1 QB else QB false H1):vax t1 t2 σ H QB:=h
theorem vbu {t1 t2:TT} (h:t1 σ H fun c H1=>if c=true then QB true H1 else t2 σ H1 QB):tOr t1 t2 σ H QB:=h
theorem yyz {t1:TT} (h:t1 σ H fun c H1=>QB (!c) H1):vaz t1 σ H QB:=h
theorem yy5 (h:tA σ H fun c H1=>if c=true then ta σ H1 Q else tb σ H1 Q):tIf tA ta tb σ H Q:=h
theorem yy8 (h:t ⟨u D,D.rt,D.bk,D.ct⟩ σ H):vaj t u D σ H:=h
theorem yvs (h:nx σ H):yxz ⟨nx,rt,bk,ct⟩ σ H:=h
theorem yyi (h:te σ H rt):vay te ⟨nx,rt,bk,ct⟩ σ H:=h
theorem ysn (h:te σ H fun _ H1=>nx σ H1):yxc te ⟨nx,rt,bk,ct⟩ σ H:=h
theorem vbg (h:tA σ H fun c H1=>if c=true then t D σ H1 else u D σ H1):yx4 tA t u D σ H:=h
theorem yi1 (M:St->Hp->Prop) (h1:t ⟨M,rt,bk,ct⟩ σ H) (h2:∀ σ' H',M σ' H'->nx σ' H'):va4 t ⟨nx,rt,bk,ct⟩ σ H:=⟨M,h1,h2⟩
theorem yys {g:TG} (h:te σ H fun x H1=>g x σ H1 nx):ysc te g ⟨nx,rt,bk,ct⟩ σ H:=h
theorem yuv {sp:Sp} {dvs:List V} {E:XK} (h:tr σ H fun vs H1=>sp (vs++dvs) H1 Q E):yxf sp dvs E tr σ H Q:=h
theorem yua (h:ta σ H fun x H1=>tr σ H1 fun xs H2=>QL (x :: xs) H2):yxl ta tr σ H QL:=h
theorem yzb (h:QL [] H):yr4 σ H QL:=h
theorem vbh {r:List V->Hp->VK->Prop} (h:tr σ H fun vs H1=>r vs H1 Q):tCB r tr σ H Q:=h
theorem yyy (h:tr σ H fun xs H1=>xs.length <= sizeLine/\∀ p,H1 p=none->Q (.ref p) (upd H1 p (.tup xs))):va6 tr σ H Q:=h
theorem yzl (h:tr σ H fun xs H1=>xs.length <= sizeLine/\∀ p,H1 p=none->Q (.ref p) (upd H1 p (.lst xs))):va1 tr σ H Q:=h
theorem yeg {m:Str} {sp:Sp} {dvs:List V} {E:XK} (h:ta σ H fun x H1=>∃ a dx fs,x=.ref a/\H1 a=some (.ins C dx fs)/\fs.lookup m=none/\tr σ H1 fun vs H2=>sp (x :: (vs++dvs)) H2 Q E):ycm C m sp dvs E ta tr σ H Q:=h
theorem yyr {f:Str} (h:ta σ H fun x H1=>∃ a C dx fs v,x=.ref a/\H1 a=some (.ins C dx fs)/\Cls K C/\vo K C f/\fs.lookup f=some v/\Q v H1):yz4 K ta f σ H Q:=h
theorem yv6 {f:Str} (h:tb σ H fun y H1=>ta σ H1 fun x H2=>∃ a C dx fs,x=.ref a/\H2 a=some (.ins C dx fs)/\Cls K C/\vo K C f/\fs.length < 1000/\wk nx σ (upd H2 a (.ins C dx (jn f y fs)))):va9 K ta tb f ⟨nx,rt,bk,ct⟩ σ H:=h
theorem vbk {r:V->Option Int->Option Int->Hp->VK->Prop} {tl th:TO} (h:te σ H fun x H1=>tl σ H1 fun l H2=>th σ H2 fun u H3=>r x l u H3 Q):tSl r te tl th σ H Q:=h
theorem yjt {QO:Option Int->Hp->Prop} (h:QO none H):yhd σ H QO:=h
theorem yu8 {QO:Option Int->Hp->Prop} (h:ta σ H fun x H1=>∃ i,x=.int i/\QO (some i) H1):yxh ta σ H QO:=h
theorem yza {P:Int->Prop} (h:P i):∃ k,V.int i=V.int k/\P k:=⟨i,rfl,h⟩
theorem ysi (h:A):V.non=V.non/\A:=⟨rfl,h⟩
theorem g0 {a0:Option V} {r:St} {N:St->Hp->Prop} (h:N (some v :: r) H):w6 0 v (a0 :: r) H N:=h
theorem g1 {a0 a1:Option V} {r:St} {N:St->Hp->Prop} (h:N (a0 :: some v :: r) H):w6 1 v (a0 :: a1 :: r) H N:=h
theorem g2 {a0 a1 a2:Option V} {r:St} {N:St->Hp->Prop} (h:N (a0 :: a1 :: some v :: r) H):w6 2 v (a0 :: a1 :: a2 :: r) H N:=h
theorem g3 {a0 a1 a2 a3:Option V} {r:St} {N:St->Hp->Prop} (h:N (a0 :: a1 :: a2 :: some v :: r) H):w6 3 v (a0 :: a1 :: a2 :: a3 :: r) H N:=h
theorem g4 {a0 a1 a2 a3 a4:Option V} {r:St} {N:St->Hp->Prop} (h:N (a0 :: a1 :: a2 :: a3 :: some v :: r) H):w6 4 v (a0 :: a1 :: a2 :: a3 :: a4 :: r) H N:=h
theorem g5 {a0 a1 a2 a3 a4 a5:Option V} {r:St} {N:St->Hp->Prop} (h:N (a0 :: a1 :: a2 :: a3 :: a4 :: some v :: r) H):w6 5 v (a0 :: a1 :: a2 :: a3 :: a4 :: a5 :: r) H N:=h
theorem g6 {a0 a1 a2 a3 a4 a5 a6:Option V} {r:St} {N:St->Hp->Prop} (h:N (a0 :: a1 :: a2 :: a3 :: a4 :: a5 :: some v :: r) H):w6 6 v (a0 :: a1 :: a2 :: a3 :: a4 :: a5 :: a6 :: r) H N:=h
theorem g7 {a0 a1 a2 a3 a4 a5 a6 a7:Option V} {r:St} {N:St->Hp->Prop} (h:N (a0 :: a1 :: a2 :: a3 :: a4 :: a5 :: a6 :: some v :: r) H):w6 7 v (a0 :: a1 :: a2 :: a3 :: a4 :: a5 :: a6 :: a7 :: r) H N:=h
theorem g8 {a0 a1 a2 a3 a4 a5 a6 a7 a8:Option V} {r:St} {N:St->Hp->Prop} (h:N (a0 :: a1 :: a2 :: a3 :: a4 :: a5 :: a6 :: a7 :: some v :: r) H):w6 8 v (a0 :: a1 :: a2 :: a3 :: a4 :: a5 :: a6 :: a7 :: a8 :: r) H N:=h
theorem g9 {a0 a1 a2 a3 a4 a5 a6 a7 a8 a9:Option V} {r:St} {N:St->Hp->Prop} (h:N (a0 :: a1 :: a2 :: a3 :: a4 :: a5 :: a6 :: a7 :: a8 :: some v :: r) H):w6 9 v (a0 :: a1 :: a2 :: a3 :: a4 :: a5 :: a6 :: a7 :: a8 :: a9 :: r) H N:=h
theorem g10 {a0 a1 a2 a3 a4 a5 a6 a7 a8 a9 a10:Option V} {r:St} {N:St->Hp->Prop} (h:N (a0 :: a1 :: a2 :: a3 :: a4 :: a5 :: a6 :: a7 :: a8 :: a9 :: some v :: r) H):w6 10 v (a0 :: a1 :: a2 :: a3 :: a4 :: a5 :: a6 :: a7 :: a8 :: a9 :: a10 :: r) H N:=h
theorem g11 {a0 a1 a2 a3 a4 a5 a6 a7 a8 a9 a10 a11:Option V} {r:St} {N:St->Hp->Prop} (h:N (a0 :: a1 :: a2 :: a3 :: a4 :: a5 :: a6 :: a7 :: a8 :: a9 :: a10 :: some v :: r) H):w6 11 v (a0 :: a1 :: a2 :: a3 :: a4 :: a5 :: a6 :: a7 :: a8 :: a9 :: a10 :: a11 :: r) H N:=h
theorem g12 {a0 a1 a2 a3 a4 a5 a6 a7 a8 a9 a10 a11 a12:Option V} {r:St} {N:St->Hp->Prop} (h:N (a0 :: a1 :: a2 :: a3 :: a4 :: a5 :: a6 :: a7 :: a8 :: a9 :: a10 :: a11 :: some v :: r) H):w6 12 v (a0 :: a1 :: a2 :: a3 :: a4 :: a5 :: a6 :: a7 :: a8 :: a9 :: a10 :: a11 :: a12 :: r) H N:=h
theorem g13 {a0 a1 a2 a3 a4 a5 a6 a7 a8 a9 a10 a11 a12 a13:Option V} {r:St} {N:St->Hp->Prop} (h:N (a0 :: a1 :: a2 :: a3 :: a4 :: a5 :: a6 :: a7 :: a8 :: a9 :: a10 :: a11 :: a12 :: some v :: r) H):w6 13 v (a0 :: a1 :: a2 :: a3 :: a4 :: a5 :: a6 :: a7 :: a8 :: a9 :: a10 :: a11 :: a12 :: a13 :: r) H N:=h
theorem g14 {a0 a1 a2 a3 a4 a5 a6 a7 a8 a9 a10 a11 a12 a13 a14:Option V} {r:St} {N:St->Hp->Prop} (h:N (a0 :: a1 :: a2 :: a3 :: a4 :: a5 :: a6 :: a7 :: a8 :: a9 :: a10 :: a11 :: a12 :: a13 :: some v :: r) H):w6 14 v (a0 :: a1 :: a2 :: a3 :: a4 :: a5 :: a6 :: a7 :: a8 :: a9 :: a10 :: a11 :: a12 :: a13 :: a14 :: r) H N:=h
theorem g15 {a0 a1 a2 a3 a4 a5 a6 a7 a8 a9 a10 a11 a12 a13 a14 a15:Option V} {r:St} {N:St->Hp->Prop} (h:N (a0 :: a1 :: a2 :: a3 :: a4 :: a5 :: a6 :: a7 :: a8 :: a9 :: a10 :: a11 :: a12 :: a13 :: a14 :: some v :: r) H):w6 15 v (a0 :: a1 :: a2 :: a3 :: a4 :: a5 :: a6 :: a7 :: a8 :: a9 :: a10 :: a11 :: a12 :: a13 :: a14 :: a15 :: r) H N:=h
theorem g16 {a0 a1 a2 a3 a4 a5 a6 a7 a8 a9 a10 a11 a12 a13 a14 a15 a16:Option V} {r:St} {N:St->Hp->Prop} (h:N (a0 :: a1 :: a2 :: a3 :: a4 :: a5 :: a6 :: a7 :: a8 :: a9 :: a10 :: a11 :: a12 :: a13 :: a14 :: a15 :: some v :: r) H):w6 16 v (a0 :: a1 :: a2 :: a3 :: a4 :: a5 :: a6 :: a7 :: a8 :: a9 :: a10 :: a11 :: a12 :: a13 :: a14 :: a15 :: a16 :: r) H N:=h
theorem yh8 {n:Nat} {tg:TGs} {xs:List V} {N:St->Hp->Prop} (hq:SqT K H a xs) (hl:xs.length=n) (h:tg xs σ H N):ysa K n tg (.ref a) σ H N:=⟨a,xs,rfl,hq,hl,h⟩
theorem ypb {tg:TG} {us:TGs} {r:List V} {N:St->Hp->Prop} (h:tg v σ H fun σ' H'=>us r σ' H' N):jp tg us (v :: r) σ H N:=⟨v,r,rfl,h⟩
theorem yvy {N:St->Hp->Prop} (h:N σ H):ykz [] σ H N:=⟨rfl,h⟩
theorem uz {p:Prop} [Decidable p] (h1:p->A) (h2:¬ p->B):if decide p=true then A else B:=by
 by_cases h:p
 .rw [if_pos (bJ h)]; exact h1 h
 .rw [if_neg (by simp [h])]; exact h2 h
theorem ű {p:Prop} [Decidable p] (hp:p) (h:A):if decide p=true then A else B:=by rw [if_pos (bJ hp)]; exact h
theorem ybh {p:Prop} [Decidable p] (hp:¬ p) (h:B):if decide p=true then A else B:=by rw [if_neg (by simp [hp])]; exact h
theorem yq5 {p:Prop} [Decidable p] (hp:p) (h:B):if (!decide p)=true then A else B:=by rw [if_neg (by simp [hp])]; exact h
theorem ypz {p:Prop} [Decidable p] (hp:¬ p) (h:A):if (!decide p)=true then A else B:=by rw [if_pos (by simp [hp])]; exact h
theorem yk0 {p:Prop} [Decidable p] (h1:p->B) (h2:¬ p->A):if (!decide p)=true then A else B:=by
 by_cases h:p
 .exact yq5 h (h1 h)
 .exact ypz h (h2 h)
theorem yzn (h:B):if (!true)=true then A else B:=ė h
theorem yyl (h:A):if (!false)=true then A else B:=Ĥ h
theorem yrz {α:Type} {z:α} [Decidable (z=z)] (h:A):if decide (z=z)=true then A else B:=ű rfl h
theorem x0 {f:Str} {r:List (Str × V)}:List.lookup f ((f,v) :: r)=some v:=by simp [List.lookup]
theorem we {f g:Str} {r:List (Str × V)} {o:Option V} (h:¬ f=g) (e:List.lookup f r=o):List.lookup f ((g,v) :: r)=o:=by
 have a:(f == g)=false:=by simp [h]
 simp [List.lookup,a,e]
theorem Đ {f:Str}:List.lookup f ([]:List (Str × V))=none:=rfl
theorem γ {f:Str} {r:List (Str × V)}:jn f v ((f,x) :: r)=(f,v) :: r:=by simp [jn]
theorem vx {f g:Str} {r r':List (Str × V)} (h:¬ g=f) (e:jn f v r=r'):jn f v ((g,x) :: r)=(g,x) :: r':=by simp [jn,h,e]
theorem wt {f:Str}:jn f v []=[(f,v)]:=rfl
theorem z9 {c:Addr} {o o':HO} (hn:H a=none) (h:H c=some o):upd H a o' c=some o:=by rw [yq (yd h hn)]; exact h
theorem yk {c:Addr} {o o':HO} (hn:c≠a) (h:H c=some o):upd H a o' c=some o:=by rw [yq hn]; exact h
theorem vj {o:HO} (hn:H a=none):yy H (upd H a o):=fun _ _ h=>z9 hn h
theorem yy.tup {H':Hp} {xs:List V} (e:yy H H') (h:SqT K H a xs):SqT K H' a xs:=by
 rcases h with (h | ⟨o,h⟩) | h
 .exact .inl (.inl (e _ _ h))
 .exact .inl (.inr ⟨o,e _ _ h⟩)
 .exact .inr h
theorem ya9 {tb:TS} {W:Nat->St->Hp->Prop} {m:Nat} (h:tb ⟨fun σ' H'=>∃ m',m' < m/\W m' σ' H',rt,nx,fun σ' H'=>∃ m',m' < m/\W m' σ' H'⟩ σ H) :
  ∃ N:St->Hp->Prop,(∀ σ' H',N σ' H'->∃ m',m' < m/\W m' σ' H')/\tb ⟨N,rt,nx,N⟩ σ H:=⟨_,fun _ _ q=>q,h⟩
theorem ysp {sp:Sp} {dvs:List V} {E:XK} (h:tr σ H fun vs H1=>∀ x dx,H1 x=none->H1 dx=none->dx≠x->sp (.ref x :: (vs++dvs)) (upd (upd H1 dx (.own x)) x (.ins C dx [])) (fun v H2=>v=.non/\Q (.ref x) H2) E):yq4 C sp dvs E tr σ H Q:=h
theorem vbv {r:V->List V->Hp->VK->Prop} (h:ta σ H fun x H1=>tyV K T x H1/\tr σ H1 fun xs H2=>r x xs H2 Q):tBM K T r ta tr σ H Q:=h
theorem yz0 {r:V->List V->Hp->VK->Prop} (h:ta σ H fun x H1=>tyV K T x H1/\r x [] H1 Q):va2 K T r ta σ H Q:=h
theorem za {xs:List V} (h:H p=some (.lst xs)) (k:A):tyV K "list" (.ref p) H/\A:=⟨.inl ⟨rfl,_,SqL.of h⟩,k⟩
theorem xt {l:Addr} {xs:List V} (h:H l=some (.lst xs)) (hz:xs.length < sizeLine) (k:Q .non (upd H l (.lst (xs++[y])))):ygs (.ref l) [y] H Q:=⟨l,xs,y,rfl,rfl,h,hz,k⟩
theorem ć {l:Addr} {xs:List V} (h:H l=some (.lst xs)) (k:Q .non (upd H l (.lst xs.reverse))):ydk (.ref l) [] H Q:=⟨l,xs,rfl,rfl,h,k⟩
theorem zn {ys:List V} {P:List V->Prop} (h:SqL K H p ys) (k:P ys):∃ p' ys',[V.ref p]=[V.ref p']/\(SqL K H p' ys'\/SqT K H p' ys')/\P ys':=⟨p,ys,rfl,.inl h,k⟩
theorem ylq {ys:List V} {P:List V->Prop} (h:SqT K H p ys) (k:P ys):∃ p' ys',[V.ref p]=[V.ref p']/\(SqL K H p' ys'\/SqT K H p' ys')/\P ys':=⟨p,ys,rfl,.inr h,k⟩
theorem π {ys:List V} {P:List V->Prop} (h:SqL K H p ys) (k:P ys):∃ p' ys',[V.ref p]=[V.ref p']/\(SqL K H p' ys'\/SqT K H p' ys')/\P ys':=⟨p,ys,rfl,.inl h,k⟩
theorem zw {xs:List V} (h:SqL K H p xs) (e:atI xs i=some v) (k:Q v H):yx5 K (.ref p) (.int i) H Q:=⟨p,xs,i,v,rfl,rfl,h,e,k⟩
theorem yff {xs:List V} (h:SqT K H p xs) (e:atI xs i=some v) (k:Q v H):va7 K (.ref p) (.int i) H Q:=⟨p,xs,i,v,rfl,rfl,h,e,k⟩
theorem ybe {xs:List V} {lo hi:Option Int} (h:SqL K H p xs) (k:∀ q,H q=none->Q (.ref q) (upd H q (.lst (ybl xs lo hi)))):vba K (.ref p) lo hi H Q:=⟨p,xs,rfl,h,k⟩
theorem zh {xs:List V} (n:Nat):ybl xs none (some (n:Int))=xs.take n:=by
 unfold ybl;rw [HT.sIx_none,HT.sIx_nat,List.drop_zero,Nat.sub_zero];rcases Nat.le_total n xs.length with h | h
 .rw [Nat.min_eq_left h]
 .rw [Nat.min_eq_right h,cA (bA _),cA h]
theorem yyx {wi:TI} {g:TG} {tb:TS} (h:wi σ H fun J H1=>∃ W:Nat->Nat->St->Hp->Prop,(∃ m,W 0 m σ H1)/\∀ i m σ H,W i m σ H ->
  (J.stop i H/\D.nx σ H)\/(J.go i H/\∃ N:St->Hp->Prop,(∀ σ' H',N σ' H'->∃ m',m' < m/\W (i+1) m' σ' H')/\∀ x H',J.yld i H x H'->g x σ H' fun σ2 H2=>tb { D with nx:=N,ct:=N,bk:=D.nx } σ2 H2)):vaw wi g tb D σ H:=h
theorem yn7 {R:It->Hp->Prop} (h:ta σ H fun x H1=>∃ a,x=.ref a/\(∃ xs,SqL K H1 a xs)/\R (Itl K a) H1):yxp K ta σ H R:=h
theorem ytf {R:It->Hp->Prop} (h:ta σ H fun x H1=>∃ a,x=.ref a/\(∃ xs,SqT K H1 a xs)/\R (Itt K a) H1):vaq K ta σ H R:=h
theorem yo7 {R:It->Hp->Prop} (h:tr σ H fun vs H1=>∃ j:Int,vs=[.int j]/\-(2 ^ 62) <= j/\j < 2 ^ 62/\R (Itr 0 j.toNat) H1):yxi tr σ H R:=h
theorem jo {n m:String} {k:Bool} {P:Bool->Prop} (ty:x4 K H x (.type n)) (e:W.kitOne K (.type n) (.type m)=some k) (h:P k) :
  ∃ x' cv t c k',[x,V.ty m]=[x',cv]/\xk cv c/\(∀ u,xk cv u->u=c)/\x4 K H x' t/\W.kitOne K t c=some k'/\P k':=⟨x,.ty m,.type n,.type m,k,rfl,rfl,fun _ r=>r,ty,e,h⟩
theorem yog (h:nx σ H):wk nx σ H:=h
end
def ymh:V->Bool
 | .int _=>true
 | .bl _=>true
 | _=>false
def yg8:V->Bool
 | .bl _=>true
 | _=>false
def jt:V->Bool
 | .int _=>true
 | _=>false
theorem ν (K:W.Frag) (n:String):W.kitOne K (.type n) (.type n)=some true:=by
 unfold W.kitOne;rw [if_pos (by simp)]
theorem yo8 {K:W.Frag} {H:Hp} {x:V} {n:String} (ty:x4 K H x (.type n)):W.kitOne K (.type n) (.type "int")=some (ymh x):=by
 cases ty <;> rfl
theorem yko {K:W.Frag} {H:Hp} {x:V} {n:String} (ty:x4 K H x (.type n)):W.kitOne K (.type n) (.type "bool")=some (yg8 x):=by
 cases ty <;> rfl
end L2
namespace SpanMath
def Ch (c:Int):Prop:=32768 <= c/\c <= 16744448
def ren (l w s:Int):Int × Int × Int :=
 if w < 4294967296 then (if w * 256 < 4294967296 then (l * 65536,w * 65536,s+2) else (l * 256,w * 256,s+1)) else (l,w,s)
def cut (w c:Int):Int:=w * c / 16777216
def nar (x:Int × Int × Int) (c b:Int):Int × Int × Int :=
 if b=1 then ren x.1 (cut x.2.1 c) x.2.2 else ren (x.1+cut x.2.1 c) (x.2.1 - cut x.2.1 c) x.2.2
def s0:Int × Int × Int:=(0,1099511627776,5)
theorem yjj {l w s:Int} (h:w < 4294967296) (h2:8388608 <= w):ren (l * 256) (w * 256) (s+1)=ren l w s:=by
 unfold ren;rw [if_pos h];by_cases h3:w * 256 < 4294967296
 .rw [if_pos h3,if_pos h3,if_neg (by omega)];refine Prod.ext ?_ (Prod.ext ?_ ?_)
  .show l * 256 * 256=l * 65536; omega
  .show w * 256 * 256=w * 65536; omega
  .show s+1+1=s+2; omega
 .rw [if_neg h3,if_neg h3]
theorem yo6 {l w s:Int} (h:¬ w < 4294967296):ren l w s=(l,w,s):=by
 unfold ren; rw [if_neg h]
theorem ya8 {w c:Int} (hw:4294967296 <= w) (hw2:w <= 1099511627776) (hc:Ch c):8388608 <= cut w c/\8388608 <= w - cut w c/\cut w c < 1099511627776:=by
 obtain ⟨d,b⟩:=hc;have a:w * 32768 <= w * c:=cC d (by omega);have e:w * c <= w * 16744448:=cC b (by omega);unfold cut;generalize w * c=p at a e ⊢;omega
structure Ok (x:Int × Int × Int):Prop where
 l0:0 <= x.1
 w0:4294967296 <= x.2.1
 w1:x.2.1 <= 1099511627776
 z:5 <= x.2.2
theorem ok0:Ok s0:=⟨by decide,by decide,by decide,by decide⟩
theorem ym8 {l w s:Int} (h0:0 <= l) (h1:8388608 <= w) (h2:w <= 1099511627776) (h3:5 <= s):Ok (ren l w s):=by
 unfold ren
 split
 .split
  .exact ⟨by show 0 <= l * 65536; omega,by show _ <= w * 65536; omega,by show w * 65536 <= _; omega,by show 5 <= s+2; omega⟩
  .exact ⟨by show 0 <= l * 256; omega,by show _ <= w * 256; omega,by show w * 256 <= _; omega,by show 5 <= s+1; omega⟩
 .exact ⟨h0,by show _ <= w; omega,h2,h3⟩
theorem yu2 {x:Int × Int × Int} {c b:Int} (h:Ok x) (hc:Ch c):Ok (nar x c b):=by
 obtain ⟨a,e,d⟩:=ya8 h.w0 h.w1 hc;have:=h.l0; have:=h.w0; have:=h.w1; have:=h.z;unfold nar
 split
 .exact ym8 (by omega) (by omega) (by omega) (by omega)
 .exact ym8 (by omega) (by omega) (by omega) (by omega)
end SpanMath
namespace SpanMath
def pw:Nat->Int
 | 0=>1
 | k+1=>pw k * 256
theorem uv:∀ k,0 < pw k
 | 0=>by decide
 | k+1=>by have:=uv k; show 0 < pw k * 256; omega
theorem yd3 (a:Nat):∀ b,pw (a+b)=pw a * pw b
 | 0=>by simp [pw]
 | b+1=>by
  show pw (a+b) * 256=pw a * (pw b * 256);rw [yd3 a b,Int.mul_assoc]
theorem yhn {a b:Nat} (h:a <= b):pw a <= pw b:=by
 obtain ⟨c,rfl⟩:=Nat.exists_eq_add_of_le h;rw [yd3];have e:=uv a;have d:=uv c
 calc pw a=pw a * 1:=by omega
  _ <= pw a * pw c:=cC (by omega) (by omega)
theorem yxq {a b:Nat} (h:pw a < pw b):a < b:=by
 apply Nat.lt_of_not_le;intro q;have:=yhn q;omega
def lo:Nat->Int->List Int
 | 0,_=>[]
 | k+1,n=>n % 256 :: lo k (n / 256)
def wr (k:Nat) (n:Int):List Int:=(lo k n).reverse
theorem yme:∀ k n,(lo k n).length=k
 | 0,_=>rfl
 | k+1,n=>by simp [lo,yme k]
theorem ysu (k:Nat) (n:Int):(wr k n).length=k:=by simp [wr,yme]
theorem yg9:∀ k n,∀ x∈lo k n,0 <= x/\x <= 255
 | 0,_,x,h=>by simp [lo] at h
 | k+1,n,x,h=>by
  simp only [lo,bI] at h;rcases h with rfl | h
  .omega
  .exact yg9 k _ x h
theorem yoy (k:Nat) (n:Int):∀ x∈wr k n,0 <= x/\x <= 255:=fun x h=>yg9 k n x (by simpa [wr] using h)
theorem yo1 (k:Nat) (n:Int):wr (k+1) n=wr k (n / 256)++[n % 256]:=by simp [wr,lo]
def val (xs:List Int):Int:=xs.foldl (fun a b=>a * 256+b) 0
theorem ydr (xs:List Int) (b:Int):val (xs++[b])=val xs * 256+b:=by simp [val,List.foldl_append]
theorem yls:∀ (k:Nat) (n:Int),0 <= n->n < pw k->val (wr k n)=n
 | 0,n,h0,h1=>by
  have:n < 1:=h1;have:n=0:=by omega
  subst this; rfl
 | k+1,n,h0,h1=>by
  have a:n < pw k * 256:=h1;rw [yo1,ydr,yls k (n / 256) (by omega) (by omega)];omega
def vbe:Nat->Int->Int->Nat
 | 0,_,_=>0
 | n+1,a,b=>if a=b then 0 else vbe n (a / 256) (b / 256)+1
end SpanMath
namespace SpanMath
abbrev Sn:=Int × Int × Int
def sz (x:Sn):Nat:=x.2.2.toNat
structure OkS (x:Sn):Prop where
 ok:Ok x
 top:x.1+x.2.1 <= pw (sz x)
theorem OkS.sz {x:Sn} (h:OkS x):((sz x:Nat):Int)=x.2.2:=by
 have:=h.ok.z;unfold SpanMath.sz;omega
theorem OkS.sz5 {x:Sn} (h:OkS x):5 <= SpanMath.sz x:=by
 have:=h.ok.z;unfold SpanMath.sz;omega
theorem vak:OkS s0:=⟨ok0,by decide⟩
structure Sub (x y:Sn) (r:Nat):Prop where
 z:sz y=sz x+r
 l:x.1 * pw r <= y.1
 h:y.1+y.2.1 <= (x.1+x.2.1) * pw r
theorem ygv {l w s:Int} (hs:0 <= s):∃ r,Sub (l,w,s) (ren l w s) r/\(ren l w s).2.1=w * pw r/\(ren l w s).1=l * pw r:=by
 unfold ren
 split
 .split
  .refine ⟨2,⟨?_,?_,?_⟩,?_,?_⟩
   .show (s+2).toNat=s.toNat+2; omega
   .show l * (1 * 256 * 256) <= l * 65536; omega
   .show l * 65536+w * 65536 <= (l+w) * (1 * 256 * 256); omega
   .show w * 65536=w * (1 * 256 * 256); omega
   .show l * 65536=l * (1 * 256 * 256); omega
  .refine ⟨1,⟨?_,?_,?_⟩,?_,?_⟩
   .show (s+1).toNat=s.toNat+1; omega
   .show l * (1 * 256) <= l * 256; omega
   .show l * 256+w * 256 <= (l+w) * (1 * 256); omega
   .show w * 256=w * (1 * 256); omega
   .show l * 256=l * (1 * 256); omega
 .refine ⟨0,⟨?_,?_,?_⟩,?_,?_⟩
  .rfl
  .show l * 1 <= l; omega
  .show l+w <= (l+w) * 1; omega
  .show w=w * 1; omega
  .show l=l * 1; omega
theorem yn8 {x:Sn} {c b:Int} (h:Ok x) (hc:Ch c):∃ r,Sub x (nar x c b) r:=by
 obtain ⟨j,i,g⟩:=ya8 h.w0 h.w1 hc;have k:=h.l0; have f:=h.z;unfold nar
 split
 .obtain ⟨r,⟨d,e,a⟩,_⟩:=ygv (l:=x.1) (w:=cut x.2.1 c) (s:=x.2.2) (by omega);refine ⟨r,d,e,Int.le_trans a (cr ?_ (Int.le_of_lt (uv r)))⟩;show x.1+cut x.2.1 c <= x.1+x.2.1;omega
 .obtain ⟨r,⟨d,e,a⟩,_⟩:=ygv (l:=x.1+cut x.2.1 c) (w:=x.2.1 - cut x.2.1 c) (s:=x.2.2) (by omega);refine ⟨r,d,Int.le_trans (cr ?_ (Int.le_of_lt (uv r))) e,Int.le_trans a (cr ?_ (Int.le_of_lt (uv r)))⟩
  .show x.1 <= x.1+cut x.2.1 c; omega
  .show x.1+cut x.2.1 c+(x.2.1 - cut x.2.1 c) <= x.1+x.2.1; omega
theorem ycd {x:Sn} {c b:Int} (h:OkS x) (hc:Ch c):OkS (nar x c b):=by
 refine ⟨yu2 h.ok hc,?_⟩;obtain ⟨r,q⟩:=yn8 (b:=b) h.ok hc;rw [q.z,yd3];exact Int.le_trans q.h (cr h.top (Int.le_of_lt (uv r)))
def blk (l e:Int):Int:=(l+e - 1) / e
def yfk (l w:Int) (k:Nat):Prop:=(blk l (pw k)+1) * pw k <= l+w
instance (l w:Int) (k:Nat):Decidable (yfk l w k):=inferInstanceAs (Decidable ((blk l (pw k)+1) * pw k <= l+w))
theorem yl3 (l:Int) {e:Int} (h:0 < e):l <= blk l e * e/\blk l e * e < l+e:=by
 unfold blk;have a:=Int.emod_add_mul_ediv (l+e - 1) e;have b:=cu (l+e - 1) (show e≠0 by omega);have c:=cj (l+e - 1) h;rw [Int.mul_comm] at a;generalize (l+e - 1) / e * e=q at a ⊢;omega
theorem yhk {l w:Int} {k:Nat} (h:yfk l w k):pw k <= w:=by
 have a:=yl3 l (uv k);unfold yfk at h;rw [Int.add_mul] at h;omega
def tel (l w:Int):Nat->Nat->Nat
 | 0,k=>k
 | f+1,k=>if yfk l w (k+1) then tel l w f (k+1) else k
theorem ykg {l w:Int} {f k:Nat} (h:yfk l w (k+1)):tel l w f (k+1)=tel l w (f+1) k:=by
 rw [tel,if_pos h]
theorem ynq {l w:Int} {f k:Nat} (h:¬ yfk l w (k+1)):tel l w f k=k:=by
 cases f with
 | zero=>rfl
 | succ f=>rw [tel,if_neg h]
theorem ycz {l w:Int}:∀ {f k:Nat},yfk l w k->yfk l w (tel l w f k)
 | 0,_,h=>h
 | f+1,k,h=>by
  unfold tel
  split
  .rename_i q; exact ycz q
  .exact h
theorem pw5:pw 5=1099511627776:=by decide
theorem ylf {l w:Int} {k:Nat} (hw:w <= 1099511627776) (h:yfk l w k):k <= 5:=by
 have b:=yhk h;rw [<- pw5] at hw;have a:pw k < pw 6:=Int.lt_of_le_of_lt (Int.le_trans b hw) (by decide);have:=yxq a;omega
def tK (x:Sn):Nat:=tel x.1 x.2.1 5 0
def tCn (x:Sn):Int:=blk x.1 (pw (tK x))
def tL (x:Sn):List Int:=wr (sz x - tK x) (tCn x)
theorem yyv {x:Sn} (h:Ok x):yfk x.1 x.2.1 0:=by
 have:=h.w0;show ((x.1+1 - 1) / 1+1) * 1 <= x.1+x.2.1;omega
theorem Ũ {x:Sn} (h:Ok x):yfk x.1 x.2.1 (tK x):=ycz (yyv h)
theorem yp0 {x:Sn} (h:OkS x):tK x <= 5/\tK x <= sz x:=by
 have b:=ylf h.ok.w1 (Ũ h.ok);have a:=h.sz5;omega
theorem yia (x:Sn):(tL x).length=sz x - tK x:=ysu _ _
theorem yvx {x:Sn} (h:Ok x):0 <= tCn x:=by
 have:=h.l0;have:=uv (tK x);exact Int.ediv_nonneg (by omega) (by omega)
theorem ys1 {x:Sn} (h:OkS x):tCn x < pw (sz x - tK x):=by
 have b:(tCn x+1) * pw (tK x) <= x.1+x.2.1:=Ũ h.ok;have a:=h.top;have e:sz x - tK x+tK x=sz x:=Nat.sub_add_cancel (yp0 h).2;rw [<- e,yd3] at a;have c:=Int.le_of_mul_le_mul_right (Int.le_trans b a) (uv (tK x));omega
theorem yu9 {x:Sn} (h:OkS x):val (tL x)=tCn x:=yls _ _ (yvx h.ok) (ys1 h)
end SpanMath
namespace L2
open PySem PySem.Spec PyProof.Rows
def yee (J:It) (te:TE) (D:Addr) (R:Hp->Prop) (H1:Hp):Prop:=∃ W:Nat->Nat->Hp->Prop,(∃ m,W 0 m (upd H1 D (.lst []))) /\
 ∀ i m H2,W i m H2->(J.stop i H2/\R H2)\/(J.go i H2/\∀ x H3,J.yld i H2 x H3->te [some x] H3 fun y H4=>∃ ys,H4 D=some (.lst ys)/\ys.length < sizeLine/\∃ m',m' < m/\W (i+1) m' (upd H4 D (.lst (ys++[y]))))
section
variable {X:Cx} {iter elt:Expr} {x:Str} {px pos:Pos} {scope:Scope} {te:TE} {wi:TI} {pins:List (Addr × Obj)} {σ:St}
theorem ysb {α:Type} {t:Sem α} {Q Q':α->Shared->Prop} {M:Model} {A:Around} {E:Value->Shared->Prop} {s:Shared} (h:wpAny M A t Q (fun _ _=>False) s) (hQ:∀ a s,Q a s->Q' a s):wpAny M A t Q' E s:=cR h hQ fun _ _ z=>z.elim
def cW (n:Nat) (Pv:Nat->Hp->Prop) (i m:Nat) (H:Hp):Prop:=m=n - i/\i <= n/\Pv i H
theorem u8 {K:W.Frag} {a D:Addr} {xs:List V} {R:Hp->Prop} {H1:Hp} (Pv:Nat->Hp->Prop) (h0:Pv 0 (upd H1 D (.lst []))) (hl:∀ i H,i <= xs.length->Pv i H->SqL K H a xs)
  (hs:∀ i x H,xs[i]?=some x->i < xs.length->Pv i H->te [some x] H fun y H4=>∃ ys,H4 D=some (.lst ys)/\ys.length < sizeLine/\∃ m',m' < xs.length - i/\cW xs.length Pv (i+1) m' (upd H4 D (.lst (ys++[y]))))
  (hd:∀ H,Pv xs.length H->R H):yee (Itl K a) te D R H1:=by
 refine ⟨cW xs.length Pv,⟨xs.length,by simp,bR _,h0⟩,?_⟩;rintro i m H ⟨rfl,b,p⟩;have q:=hl i H b p;by_cases hlt:i < xs.length
 .refine .inr ⟨⟨xs,xs[i],q,by simp [hlt]⟩,fun x c y=>?_⟩;obtain ⟨e,y⟩:=y;subst e;exact hs i x _ (y xs q) hlt p
 .have e:i=xs.length:=by omega
  subst e;exact .inl ⟨⟨xs,q,bA _⟩,hd H p⟩
theorem xw {n i:Nat} {Pv:Nat->Hp->Prop} {D:Addr} {ys:List V} {y:V} {H4:Hp} (hD:H4 D=some (.lst ys)) (hl:ys.length < sizeLine) (hi:i < n) (p:Pv (i+1) (upd H4 D (.lst (ys++[y])))) :
  ∃ ys,H4 D=some (.lst ys)/\ys.length < sizeLine/\∃ m',m' < n - i/\cW n Pv (i+1) m' (upd H4 D (.lst (ys++[y]))):=⟨ys,hD,hl,n - (i+1),by omega,rfl,hi,p⟩
end
end L2
namespace L2
open PySem
def yoj:Expr->Bool
 | .Starred _ _=>false
 | _=>true
theorem ya {e:Expr} {es:List Expr} {env:Env} (h:yoj e=true):starEach (e :: es) env=(false,eval e env) :: starEach es env:=by
 cases e <;> first | rfl | cases h
end L2
namespace L2
open PySem PySem.Spec PyProof.Rows
variable {C a:Addr} {e:Expr} {h':Heap} {pins:List (Addr × Obj)} {P:Program} {scope:Scope} {qual:Str} {cd u:Value} {E Q:Value->Shared->Prop}
structure XCls (K:W.Frag) (C:Addr):Prop where
 hd:W.hasDictIn K C=true
 ga:W.findIn K (.ref C) "__getattribute__"=some (some (.builtin "BaseException.__getattribute__"))
 gt:W.findIn K (.ref C) "__getattr__"=some none
 ca:W.findIn K (.ref C) "__class__"=some (some (.builtin "object.__class__"))
 gg:W.specialIn K (.builtin "object.__class__") "__get__"=some (some (.builtin "getset_descriptor.__get__"))
 tk:W.takesIn K (.builtin "object.__class__")=some true
 mo:W.mroIn K C (.type "object")=some true
 mb:W.mroIn K C (.type "BaseException")=some true
theorem xf.there {w:World} {H:Hp} {h:Heap} {o:HO} (x:xf P w H h a o):∃ ob,h.get? a=some ob:=by
 cases o with
 | lst xs=>obtain ⟨_,_,_,_,e⟩:=x; exact ⟨_,e⟩
 | tup xs=>obtain ⟨_,_,_,ob,e,_⟩:=x; exact ⟨_,e⟩
 | dK kvs=>obtain ⟨_,_,_,_,ob,_,_,e,_⟩:=x; exact ⟨_,e⟩
 | dT kvs=>obtain ⟨_,_,_,_,ob,_,_,e,_⟩:=x; exact ⟨_,e⟩
 | set S n=>obtain ⟨ob,_,_,_,e,_⟩:=x; exact ⟨_,e⟩
 | ins C dx fs=>obtain ⟨_,_,_,e,_⟩:=x; exact ⟨_,e⟩
 | own y=>exact x
 | xd fs=>obtain ⟨_,⟨_,_,_,e,_⟩,_⟩:=x; exact ⟨_,e⟩
 | rng lo hi=>obtain ⟨_,_,_,e⟩:=x; exact ⟨_,e⟩
 | frz ob u=>obtain ⟨e,_⟩:=x; exact ⟨_,e⟩
 | tbl ps=>exact ⟨_,(show h.get? a=some _ from x)⟩
 | met f y=>exact ⟨_,(show h.get? a=some _ from x)⟩
 | ext φ=>obtain ⟨_,e,_⟩:=x; exact e
theorem HOk.none_of {w:World} {H:Hp} {h:Heap} (x:HOk P w H h) (e:h.get? a=none):H a=none:=by
 cases q:H a with
 | none=>rfl
 | some u =>
  obtain ⟨b,z⟩:=(x a u q).there;rw [e] at z;cases z
def Fy (X:Cx) (pins:List (Addr × Obj)) (H:Hp) (b:Addr):Prop :=
 H b=none/\b≠X.env.locals/\b∉X.fs/\(b∈X.ex\/X.s₀.heap.get? b=none)/\(∀ y c,X.env.cells.lookup y=some c->c≠b)/\∀ p∈X.pn++pins,p.1≠b
section
variable {X:Cx} {σ:St} {H H':Hp} {s:Shared} {b x T:Addr}
theorem yej (I:Inv X pins σ H s) (hb:s.heap.get? b=none) (hn:H' b=none):Fy X pins H' b:=by
 refine ⟨hn,?_,?_,?_,?_,?_⟩
 .rintro rfl;obtain ⟨_,⟨_,_,_,e,_⟩,_⟩:=I.loc;rw [hb] at e; cases e
 .intro z;obtain ⟨_,o,e,_⟩:=I.funs.mem z;rw [hb] at e; cases e
 .by_cases hx:b∈X.ex
  .exact .inl hx
  .refine .inr ?_
   cases q:X.s₀.heap.get? b with
   | none=>rfl
   | some o =>
    obtain ⟨_,e⟩:=I.base.there b o q hx;rw [hb] at e; cases e
 .rintro y c e rfl;obtain ⟨_,_,q,_⟩:=I.cell y c e;rw [hb] at q; cases q
 .intro p a z;have q:=(I.pin p a).1;rw [z,hb] at q; cases q
theorem Inv.fly (I:Inv X pins σ H s) (hx:Fy X pins H x) (hT:Fy X pins H T)
  (keep:∀ b o,b≠x->b≠T->b∉frs X.stack->s.heap.get? b=some o->h'.get? b=some o)
  (slot:∀ b o,b∈frs X.stack->s.heap.get? b=some o->∃ sl,h'.get? b=some { o with slots:=sl }):Inv X pins σ H { s with heap:=h' }:=by
 have a:∀ {y b o},Fy X pins H y->X.s₀.heap.get? b=some o->b∉X.ex->b≠y:=fun {y b o} R e f z=>by
  subst z;rcases R.2.2.2.1 with q | q
  .exact f q
  .rw [e] at q; cases q
 have h:∀ b o,b≠x->b≠T->s.heap.get? b=some o->∃ sl,h'.get? b=some { o with slots:=sl }:=fun b o Q U e=>by
  by_cases z:b∈frs X.stack
  .exact slot b o z e
  .exact ⟨o.slots,keep b o Q U z e⟩
 have g:∀ y c,X.env.cells.lookup y=some c->∀ v,s.heap.IsCell c v->h'.IsCell c v:=fun y c e v ⟨o,B,J⟩=>by
  obtain ⟨sl,q⟩:=h c o (hx.2.2.2.2.1 y c e) (hT.2.2.2.2.1 y c e) B;exact ⟨_,q,J⟩
 refine ⟨I.ok,I.os,I.bare,⟨fun b o e n A f=>?_,fun b o e n A f=>?_,I.base.free,fun b o e f=>?_,I.base.tups,I.base.frzs,I.base.tbls⟩,?_,fun y c e=>?_,I.free,I.freeC,fun p C=>?_,fun b u e=>?_,I.len⟩
 .refine keep b o (a hx e f) (a hT e f) (fun z=>?_) (I.base.keep b o e n A f);rcases bI.mp (I.stkSub b z) with q | q
  .exact absurd q (bU (bV (bF e) I.ok.above))
  .exact A q
 .obtain ⟨sl,t⟩:=I.base.slot b o e n A f;obtain ⟨w,j⟩:=h b _ (a hx e f) (a hT e f) t;exact ⟨w,j⟩
 .obtain ⟨Y,t⟩:=I.base.there b o e f;obtain ⟨w,j⟩:=h b _ (a hx e f) (a hT e f) t;exact ⟨_,j⟩
 .obtain ⟨m,P,W⟩:=I.loc;refine ⟨m,?_,fun i y v t j L=>?_⟩
  .obtain ⟨o,S,M,B,r⟩:=P;obtain ⟨sl,q⟩:=h _ o (Ne.symm hx.2.1) (Ne.symm hT.2.1) B;exact ⟨_,S,M,q,r⟩
  .obtain ⟨u,r,l⟩:=W i y v t j L;refine ⟨u,r,?_⟩;rcases l with l | ⟨k,c,e,z⟩
   .exact .inl l
   .exact .inr ⟨k,c,e,g y c e _ z⟩
 .obtain ⟨v,z⟩:=I.cell y c e;exact ⟨v,g y c e v z⟩
 .obtain ⟨e,n,E,G,d⟩:=I.pin p C;refine ⟨keep p.1 p.2 (hx.2.2.2.2.2 p C) (hT.2.2.2.2.2 p C) (fun z=>?_) e,n,E,G,d⟩;rcases bI.mp (I.stkSub _ z) with q | q
  .exact E q
  .exact G q
 .have F:∀ c v,H c=some v->c≠x/\c≠T/\c∉frs X.stack:=fun c v q =>
   ⟨fun z=>(by rw [z,hx.1] at q; cases q),fun z=>(by rw [z,hT.1] at q; cases q),fun z=>(by rw [I.stkFree c z] at q; cases q)⟩
  refine (I.hok b u e).stay (fun c v D q=>?_) (fun _ q=>q) fun _ _ q=>q
  obtain ⟨K,N,O⟩:c≠x/\c≠T/\c∉frs X.stack:=by
   rcases D with rfl | D
   .exact F _ _ e
   .exact F _ _ D
  exact keep c v K N O q
def Trd (h:Heap) (x T:Addr) (C fl:Value):Prop :=
 ∃ oe vs oT ts a0,h.get? x=some oe/\(oe.cls=C/\vs[0]?=some a0)/\oe.data=.fields vs/\vs[1]?=some (.ref T)/\T≠x/\h.get? T=some oT/\oT.data=.fields ts/\ts[3]?=some fl
def hid (s:Shared) (X:Cx) (x T:Addr):Heap:=W.hideAll s.heap (x :: T :: frs X.stack)
theorem ylp:(hid s X x T).StaysIn s.heap:=fun _ _ e=>W.of_hideAll _ e
theorem yxn:(hid s X x T).get? x=none:=W.hideAll_none _ (.head _)
theorem yzc:(hid s X x T).get? T=none:=W.hideAll_none _ (.tail _ (.head _))
theorem yl2 (I:Inv X pins σ H s):s.heap.FunFrames (hid s X x T) X.stack :=
 W.funFrames_hide I.stack fun b c a d=>.tail _ (.tail _ (List.mem_filterMap.mpr ⟨b,c,d⟩))
theorem ytd {C fl:Value} (t:Trd s.heap x T C fl):∃ a0,s.heap.TracedAtW (hid s X x T) x C a0 fl:=by
 obtain ⟨a,d,h,g,a0,i,k,f,j,b,l,e,c⟩:=t;exact ⟨a0,a,d,T,h,g,i,k,f,j,yzc,b,l,e,c⟩
theorem ya0 {C a0 fl:Value} (I:Inv X pins σ H s) (hx:Fy X pins H x) (hT:Fy X pins H T) (k1:(hid s X x T).StaysIn h') (k2:h'.FunFrames (hid s X x T) X.stack) (k3:h'.TracedAtW (hid s X x T) x C a0 fl)
  (k4:∀ b o,s.heap.get? b=some o->(∀ vs,o.data≠.fields vs)->∃ sl,h'.get? b=some { o with slots:=sl }) :
  Inv X pins σ H { s with heap:=h' }/\∃ T',Fy X pins H T'/\Trd h' x T' C fl:=by
 refine ⟨I.fly hx hT (fun b o y w u e=>k1 b o (W.hideAll_get _ e fun z=>?_)) fun b o r e=>?_,?_⟩
 .rcases bI.mp z with z | z
  .exact y z
  .rcases bI.mp z with z | z
   .exact w z
   .exact u z
 .obtain ⟨_,i,a,c⟩:=I.stack.mem r;rw [e] at a; cases a;exact k4 b o e c
 .obtain ⟨h,vs,T',p,l,v,A,j,n,t,f,g,d,k⟩:=k3;refine ⟨T',?_,h,vs,p,l,a0,v,A,j,n,f,g,d,k⟩;by_cases q:T'=T
  .rw [q]; exact hT
  .cases e:s.heap.get? T' with
   | none=>exact yej I e (I.hok.none_of e)
   | some o =>
    have z:T'∈frs X.stack:=Classical.byContradiction fun z=>by
     have:=W.hideAll_get (x :: T :: frs X.stack) e (fun m=>by
      rcases bI.mp m with m | m
      .exact f m
      .rcases bI.mp m with m | m
       .exact q m
       .exact z m)
     rw [show (W.hideAll s.heap (x :: T :: frs X.stack)).get? T'=none from t] at this;cases this
    obtain ⟨_,i,a,c⟩:=k2.mem z;rw [g] at a; cases a;exact absurd d (c _)
end
def CXe (P:Program) (w:World):CXT:=fun outer H s E e s'=>∃ x T C H',e=.ref x/\s'.os=s.os/\AllBare s'.gens/\Un (frs outer) [] H H' s.heap s'.heap/\HOk P w H' s'.heap /\
 (H' x=none/\s.heap.get? x=none)/\(H' T=none/\s.heap.get? T=none)/\Trd s'.heap x T C .none/\E C none H'
def ybg (X:Cx) (Ex:St->XK):Prop:=∀ (pins:List (Addr × Obj)) (σ:St) (H:Hp) (s':Shared) (x T:Addr) (C:Value),Inv X pins σ H s'->Fy X pins H x->Fy X pins H T->Trd s'.heap x T C .none->Ex σ C none H->X.xe (.ref x) s'
theorem vg {w:World} {K:W.Frag} {mg:Str->Option Value} {base:Heap} {N:List Str} {f:Addr} {A:Around} {outer:List Env} {s:Shared} {H:Hp} {E:XK} :
  ybg (v9 (CXe P w) P w K mg base N qual scope f cd A outer s H E) (fun _=>E):=by
 intro c σ g l x T C I h p m q;show wpAny _ _ (leaving _ _) _ _ _;obtain ⟨v,j⟩:=ytd (X:=v9 (CXe P w) P w K mg base N qual scope f cd A outer s H E) m;refine wpAny_leaving_nextW (base:=hid l (v9 (CXe P w) P w K mg base N qual scope f cd A outer s H E) x T) (L:=s.heap.objs.size) I.ok.frames (yl2 I) rfl j ylp yxn fun y ⟨t,u,k,o⟩=>?_;obtain ⟨d,n,e,r⟩:=ya0 I h p t u k o;have a:∀ {b},Fy (v9 (CXe P w) P w K mg base N qual scope f cd A outer s H E) c g b->g b=none/\s.heap.get? b=none:=fun i=>⟨i.1,i.2.2.2.1.resolve_left (by intro z; cases z)⟩;exact ⟨x,n,C,g,rfl,d.os,d.bare,d.base,d.hok,a h,a e,r,q⟩
theorem yju {w:World} {K:W.Frag} {mg:Str->Option Value} {base:Heap} {N:List Str} {f:Addr} {A:Around} {outer:List Env} {s:Shared} {H:Hp} {E:XK}
  {pins:List (Addr × Obj)} {σ:St} {H1:Hp} {s1:Shared} {h':Heap} {x:Addr} {C:Value} {vs:List Value} (I:Inv (v9 (CXe P w) P w K mg base N qual scope f cd A outer s H E) pins σ H1 s1) (m:Heap.MadeExcOf s1.heap h' x C vs) (q:E C none H1) :
  (v9 (CXe P w) P w K mg base N qual scope f cd A outer s H E).xe (.ref x) { s1 with heap:=h' }:=by
 obtain ⟨t,k,_,_⟩:=m.there;have g:Fy (v9 (CXe P w) P w K mg base N qual scope f cd A outer s H E) pins H1 x:=yej I m.new (I.hok.none_of m.new);have d:Inv (v9 (CXe P w) P w K mg base N qual scope f cd A outer s H E) pins σ H1 { s1 with heap:=h' }:=I.kept (t':=s1.toks) m.keeps;show wpAny _ _ (leaving _ _) _ _ _
 refine wpAny_leaving_firstW (base:=hid { s1 with heap:=h' } (v9 (CXe P w) P w K mg base N qual scope f cd A outer s H E) x x) (L:=s.heap.objs.size) (a0:=.ref t) d.ok.frames (yl2 d) rfl k ylp yxn rfl rfl rfl fun j ⟨l,o,i,p⟩=>?_
 obtain ⟨c,n,e,t'⟩:=ya0 d g g l o i p;have a:∀ {b},Fy (v9 (CXe P w) P w K mg base N qual scope f cd A outer s H E) pins H1 b->H1 b=none/\s.heap.get? b=none:=fun h=>⟨h.1,h.2.2.2.1.resolve_left (by intro z; cases z)⟩;exact ⟨x,n,C,H1,rfl,c.os,c.bare,c.base,c.hok,a g,a e,t',q⟩
def yms (sp:Sp) (dvs:List V) (Ex:St->XK) (t:TA):TE:=fun σ H Q=>t σ H fun vs H1=>sp (vs++dvs) H1 Q (Ex σ)
def yba (C:Addr) (m:Str) (sp:Sp) (dvs:List V) (Ex:St->XK) (ta:TE) (t:TA):TE:=fun σ H Q=>ta σ H fun x H1=>∃ a dx fs,x=.ref a/\H1 a=some (.ins C dx fs)/\fs.lookup m=none /\
 t σ H1 fun vs H2=>sp (x :: (vs++dvs)) H2 Q (Ex σ)
def yl7 (C:Addr) (sp:Sp) (dvs:List V) (Ex:St->XK) (t:TA):TE:=fun σ H Q=>t σ H fun vs H1=>∀ x dx,H1 x=none->H1 dx=none->dx≠x ->
 sp (.ref x :: (vs++dvs)) (upd (upd H1 dx (.own x)) x (.ins C dx [])) (fun v H2=>v=.non/\Q (.ref x) H2) (Ex σ)
section
variable {X:Cx} {k:Nat} {f:Addr} {fd:FuncData} {ps:List Str} {sp:Sp} {dvs:List V} {ds:List Value} {Ex:St->XK} {x m:Str} {p pos apos:Pos} {o:Expr} {es:List Expr} {ta:TE} {t:TA}
theorem Inv.came {σ:St} {H:Hp} {s s':Shared} {v:Value} (I:Inv X pins σ H s) (hc:ybg X Ex) (h:CXe X.prog X.w X.stack H s (Ex σ) v s'):X.xe v s':=by
 obtain ⟨y,T,D,g,rfl,j,a,f,c,e,d,i,q⟩:=h;exact hc pins σ g s' y T D (I.call' j f c a fun b z=>absurd z (by simp)) (yej I e.2 e.1) (yej I d.2 d.1) i q
theorem yg2 {σ:St} {H:Hp} {s:Shared} {Q:VK} {us:List Value} {vs:List V} (F:wa X.prog X.w X.K X.mg X.base (CXe X.prog X.w) k f fd ps sp) (hr:jq k X.A) (hb:uy X.K fd ps ds) (hd:wn dvs ds) (hc:ybg X Ex)
  (I:Inv X pins σ H s) (r:wn vs us) (h:sp (vs++dvs) H Q (Ex σ)):wpAny (model X.prog X.w) X.A (call (.ref f) us) (EP X pins σ Q) X.xe s:=by
 have b:wn (vs++dvs) (us++ds):=r.append hd;have c:(us++ds).length=ps.length:=by rw [<- b.length]; exact F.len _ _ _ _ h
 refine wpAny_call (codeAny_mono (F.run X.A X.stack s H ⟨us,[]⟩ (us++ds) (vs++dvs) Q (Ex σ) hr I.env0 (hb s us I.kIn c) b h) fun r d a=>?_)
 cases r with
 | error e=>exact I.came hc a
 | ok fl =>
  cases fl with
  | ret u=>exact I.after a
  | next=>exact False.elim a
  | brk=>exact False.elim a
  | cont=>exact False.elim a
theorem v6 (F:wa X.prog X.w X.K X.mg X.base (CXe X.prog X.w) k f fd ps sp) (hr:jq k X.A) (hg:Gl X x) (hm:X.mg x=some (.ref f)) (hk:W.keepIn X.K (.ref f)=true) (hb:uy X.K fd ps ds) (hd:wn dvs ds) (hc:ybg X Ex)
  (ha:PA X (e :: es) t) (hdb:(x == ("__debug__":Str))=false:=by decide) (he:starEach (e :: es) X.env=(false,eval e X.env) :: starEach es X.env:=by rfl) (hpl:(backTo pos (starEach es X.env)).any (·.1)=false:=by rfl) :
  PE X (.Call (.Name x p) (e :: es) [] pos) (yms sp dvs Ex t):=by
 refine .mk fun a s σ H Q I h=>?_;refine wpAny_Call_Name_kw (j9 I hg hm ?_ hdb);refine W.callWith_K (h₀:=X.base) I.ok.mod.kin hk (thn (ha pos a s σ H _ I h) fun d c ⟨g,i,b,r,q⟩=>⟨b.kIn,?_⟩) he hpl;exact yg2 F hr hb hd hc b r q
theorem vz {pl:Sem Bool} (he:PE X o ta) (c:Cls X.K C) (hm:yr2 X.K C m f) (F:wa X.prog X.w X.K X.mg X.base (CXe X.prog X.w) k f fd ps sp) (hr:jq k X.A) (hb:uy X.K fd ps ds) (hd:wn dvs ds) (hc:ybg X Ex) (ha:PA X (e :: es) t)
  (hst:starEach (e :: es) X.env=(false,eval e X.env) :: starEach es X.env:=by rfl) (hpl:(backTo pos (starEach es X.env)).any (·.1)=false:=by rfl)
  (ht:eval (.Call (.Attribute o m apos) (e :: es) [] pos) X.env=(do
   let ov <- eval o X.env
   standAt apos.atName
   let (f,first) <- holding [ov] (getMethod ov m pl)
   callWith pos f first (backTo pos (starEach (e :: es) X.env)) (backToKw pos (keywordEach [] X.env))):=by rfl) :
  PE X (.Call (.Attribute o m apos) (e :: es) [] pos) (yba C m sp dvs Ex ta t):=by
 refine .mk fun b s σ H Q I h=>?_;refine W.methodCall_KW (pl:=pl) (thn (he b s σ H _ I h) fun u i h'=>?_) ht;obtain ⟨x,y,g,p,a,B,E,j,n,l,q⟩:=h';subst j;obtain rfl:u=Value.ref a:=p;refine Å g n c hm l ?_
 refine W.callWith_K (first:=[.ref a]) (h₀:=X.base) I.ok.mod.kin hm.kp (thn (ha pos b i σ y _ g q) fun us z ⟨vs,D,d,r,v⟩=>⟨d.kIn,?_⟩) hst hpl
 exact yg2 (us:=.ref a :: us) (vs:=.ref a :: vs) F hr hb hd hc d (.cons rfl r) v
theorem yf8 {σ:St} {H:Hp} {s:Shared} {Q:VK} {us:List Value} {vs:List V} (M:Mk X.K C f) (F:wa X.prog X.w X.K X.mg X.base (CXe X.prog X.w) k f fd ps sp) (hr:jq (k+1) X.A) (hb:uy X.K fd ps ds) (hd:wn dvs ds)
  (hc:ybg X Ex) (I:Inv X pins σ H s) (r:wn vs us)
  (h:∀ x dx,H x=none->H dx=none->dx≠x->sp (.ref x :: (vs++dvs)) (upd (upd H dx (.own x)) x (.ins C dx [])) (fun v H2=>v=.non/\Q (.ref x) H2) (Ex σ)) :
  wpAny (model X.prog X.w) X.A (call (.ref C) us) (EP X pins σ Q) X.xe s:=by
 have d:=h (s.heap.objs.size+1) s.heap.objs.size (I.hok.fresh (Nat.le_succ _)) (I.hok.fresh (bA _)) (bU (cX _));have b:=Inv.made (C:=C) I;have c:wn (V.ref (s.heap.objs.size+1) :: (vs++dvs)) (Value.ref (s.heap.objs.size+1) :: (us++ds)):=.cons rfl (r.append hd)
 have j:(Value.ref (s.heap.objs.size+1) :: us++ds).length=ps.length:=by
  have e:=c.length;rw [F.len _ _ _ _ d] at e;exact e.symm
 refine wpAny_call (ydd (f:=f) I.kIn M.makes M.init (beq_iff_eq.mp M.fn) (codeAny_mono (F.run _ X.stack _ _ ⟨Value.ref (s.heap.objs.size+1) :: us,[]⟩ (Value.ref (s.heap.objs.size+1) :: (us++ds)) _ _ (Ex σ) (hr.make C us [])
  (b.env0.make C us []) (hb _ (Value.ref (s.heap.objs.size+1) :: us) b.kIn j) c d) fun r o a=>?_))
 cases r with
 | error e=>exact b.came hc a
 | ok fl =>
  cases fl with
  | ret u =>
   obtain ⟨v,i,n,m,l,g⟩:=b.after a;subst l;exact ⟨m,⟨V.ref (s.heap.objs.size+1),i,n,rfl,g⟩⟩
  | next=>exact False.elim a
  | brk=>exact False.elim a
  | cont=>exact False.elim a
theorem ug (M:Mk X.K C f) (F:wa X.prog X.w X.K X.mg X.base (CXe X.prog X.w) k f fd ps sp) (hr:jq (k+1) X.A) (hg:Gl X x) (hm:X.mg x=some (.ref C)) (hb:uy X.K fd ps ds) (hd:wn dvs ds) (hc:ybg X Ex)
  (ha:PA X (e :: es) t) (hdb:(x == ("__debug__":Str))=false:=by decide) (he:starEach (e :: es) X.env=(false,eval e X.env) :: starEach es X.env:=by rfl) (hpl:(backTo pos (starEach es X.env)).any (·.1)=false:=by rfl) :
  PE X (.Call (.Name x p) (e :: es) [] pos) (yl7 C sp dvs Ex t):=by
 refine .mk fun a s σ H Q I h=>?_;refine wpAny_Call_Name_kw (j9 I hg hm ?_ hdb);refine W.callWith_K (h₀:=X.base) I.ok.mod.kin M.kp (thn (ha pos a s σ H _ I h) fun d c ⟨g,i,b,r,q⟩=>⟨b.kIn,?_⟩) he hpl;exact yf8 M F hr hb hd hc b r q
end
theorem PS.nox {X:Cx} {st:Stmt} {t:TS} (h:PS X.nox st t):PS X st t:=.mk fun a s σ H D I b =>
 cR (h a s σ H D (I.wish _) b) (fun _ _ q=>q.unwish) fun _ _ z=>False.elim z
section
variable {w:World} {K:W.Frag} {mg:Str->Option Value} {base:Heap}
theorem wd {X:Cx}:ybg X (fun _ _ _ _=>False):=fun _ _ _ _ _ _ _ _ _ _ _ q=>q.elim
theorem Fun.okE {x:Str} {st:Stmt} {f:Addr} {fd:FuncData} {N ps:List Str} {k:Nat} {sp:Sp} (F:Fun K x qual st f fd) (S:ym N ps (yh st)) (len:∀ vs H Q E,sp vs H Q E->vs.length=ps.length)
  (hbody:∀ (cdv:Value) (A:Around) (outer:List Env) (s:Shared) (H:Hp) (vs:List V) (Q:VK) (E:XK),jq k (A.deeper (envOfC qual (yh st) s.heap.objs.size f cdv))->sp vs H Q E ->
   ∃ t,PSs (v9 (CXe P w) P w K mg base N qual (yh st) f cdv A outer s H E) (wv st) t/\t { nx:=fun _ H'=>Q .non H',rt:=Q } (Ö N vs) H):wa P w K mg base (CXe P w) (k+1) f fd ps sp:=by
 obtain ⟨l,i,kV,e,m,j,cdv,h,d,rfl,c,a⟩:=F.ex;exact yrd c a S len fun A outer s H vs Q E g b=>hbody cdv A outer s H vs Q E g b
end
abbrev bmV:List Value:=[.type "ValueError",.type "Exception",.type "BaseException",.type "object"]
abbrev XMk (K:W.Frag) (C:Addr):Prop:=W.excIn K C bmV "ValueError.__new__"=true
theorem ynn {K:W.Frag} {h:Heap} {bmB:List Value} {newId:String} (X:K.In h) (q:W.excIn K C bmB newId=true) :
  ∃ bm N nm qn bs hdct sn sub ab col dd k0 k1 k2 k3 k5 mN,h.get? C=some (excClassObj nm qn C N bs bm hdct sn sub ab col dd k0 k1 k2 k3 k5 newId)/\h.Ns N mN/\mN "__init__"=none/\OwnTail h bmB bm:=by
 unfold W.excIn at q
 split at q
 .rename_i dd cd sl ho
  split at q
  .rename_i C' bm k0 k1 k2 k3 n k5 hm d
   simp only [bX,beq_iff_eq,Bool.not_eq_true'] at q;obtain ⟨⟨⟨⟨⟨rfl,rfl⟩,a⟩,f⟩,b⟩,c⟩:=q;obtain ⟨nm,bs,g,j,qn,e,sn,sub,ab,col,i⟩:=cd;dsimp only at hm a b c;subst hm a;obtain ⟨l⟩:=sl;have d:l=[k0,k1,k2,k3,some (.builtin n),k5]:=d;subst d;exact ⟨bm,j,nm,qn,bs,e,sn,sub,ab,col,dd,k0,k1,k2,k3,k5,_,X _ _ ho,.of_isNs (W.isNs_of_in X b),W.nsMap_none_of_in X b c,W.tail_of_in X f⟩
  .cases q
 .cases q
def ymj (E:XK) (C:Addr) (t:TA):TS:=fun _ σ H=>t σ H fun vs H1=>vs.length <= sizeLine/\E (.ref C) none H1
theorem xg {w:World} {K:W.Frag} {mg:Str->Option Value} {base:Heap} {N:List Str} {f:Addr} {A:Around} {outer:List Env} {s:Shared} {H:Hp} {E:XK}
  {C:Addr} {x:Str} {np cpos pos:Pos} {e₀:Expr} {â:List Expr} {t:TA} (hg:Gl (v9 (CXe P w) P w K mg base N qual scope f cd A outer s H E) x) (hm:mg x=some (.ref C)) (hC:XMk K C)
  (ha:PA (v9 (CXe P w) P w K mg base N qual scope f cd A outer s H E) (e₀ :: â) t)
  (he:starEach (e₀ :: â) (envOfC qual scope s.heap.objs.size f cd)=(false,eval e₀ (envOfC qual scope s.heap.objs.size f cd)) :: starEach â (envOfC qual scope s.heap.objs.size f cd):=by rfl)
  (hplain:(backTo cpos (starEach â (envOfC qual scope s.heap.objs.size f cd))).any (·.1)=false:=by rfl) (hdb:(x == ("__debug__":Str))=false:=by decide) :
  PS (v9 (CXe P w) P w K mg base N qual scope f cd A outer s H E) (.Raise (some (.Call (.Name x np) (e₀ :: â) [] cpos)) none pos) (ymj E C t):=by
 refine .mk fun a j σ o D I h=>?_;obtain ⟨k,p,nm,q,bs,hdct,sn,sub,ab,col,dd,k0,k1,k2,k3,k5,mN,g,l,c,T⟩:=ynn I.mod.kin hC;refine wpAny_Raise_call_subT (C:=C) (nm:=nm) (q:=q) (N:=p) (bs:=bs) (bm:=k) (hdct:=hdct) (sn:=sn) (sub:=sub) (ab:=ab) (col:=col) (dd:=dd) (k0:=k0) (k1:=k1) (k2:=k2) (k3:=k3) (k5:=k5)
  F.excBase_ValueError (mN:=mN) (T.hasType F.excBase_ValueError.hasBase) (I.ok.hd rfl) (by
   show (backTo cpos (starEach (e₀ :: â) (envOfC qual scope s.heap.objs.size f cd))).any (·.1)=false;rw [he]; show (false || (backTo cpos (starEach â (envOfC qual scope s.heap.objs.size f cd))).any (·.1))=false; rw [hplain]; rfl) c (j9 I hg hm ⟨rfl,?_⟩ hdb)
 have i:=ha cpos a j σ o _ I h;have d:starEach (e₀ :: â) (v9 (CXe P w) P w K mg base N qual scope f cd A outer s H E).env=(false,eval e₀ (v9 (CXe P w) P w K mg base N qual scope f cd A outer s H E).env) :: starEach â (v9 (CXe P w) P w K mg base N qual scope f cd A outer s H E).env:=he;rw [d] at i ⊢;refine Calls.evalArgs_plain (cR i (by rintro v s₂ ⟨B,z,b,r,u,n⟩; exact ⟨rfl,by rw [<- r.length]; exact u,b.bk _ _ g,l.keeps b.bk,T.keeps b.bk,fun G y m=>yju b m n⟩) fun _ _ y=>y)
section
variable {X:Cx} {σ:St} {H:Hp} {s:Shared} {x T:Addr}
abbrev Cx.pnd (X:Cx) (pn:List (Addr × Obj)):Cx:={ X with pn:=pn }
def XT (Y:Cx) (Ex:St->XK) (e:Value) (s':Shared):Prop:=∃ pins σ H x T C,e=.ref x/\Inv Y pins σ H s'/\Fy Y pins H x/\Fy Y pins H T/\Trd s'.heap x T C .none/\Ex σ C none H
abbrev Cx.tr (X:Cx) (pn:List (Addr × Obj)) (Ex:St->XK):Cx:=(X.pnd pn).wish (XT (X.pnd pn) Ex)
end
variable {X:Cx}
def ŵ.un (D:ŵ) (i:Nat):ŵ:=⟨fun σ H=>D.nx (σ.set i none) H,D.rt,fun σ H=>D.bk (σ.set i none) H,fun σ H=>D.ct (σ.set i none) H⟩
section
variable {σ:St} {H:Hp} {Q:VK} {tr:TA} {ta:TE} {nx:St->Hp->Prop} {rt:VK} {bk ct:St->Hp->Prop} {ts:TS}
theorem yo5 {sp:Sp} {dvs:List V} {Ex:St->XK} (h:tr σ H fun vs H1=>sp (vs++dvs) H1 Q (Ex σ)):yms sp dvs Ex tr σ H Q:=h
theorem ŭ {m:Str} {sp:Sp} {dvs:List V} {Ex:St->XK} (h:ta σ H fun x H1=>∃ a dx fs,x=.ref a/\H1 a=some (.ins C dx fs)/\fs.lookup m=none/\tr σ H1 fun vs H2=>sp (x :: (vs++dvs)) H2 Q (Ex σ)):yba C m sp dvs Ex ta tr σ H Q:=h
theorem yn5 {sp:Sp} {dvs:List V} {Ex:St->XK} (h:tr σ H fun vs H1=>∀ x dx,H1 x=none->H1 dx=none->dx≠x->sp (.ref x :: (vs++dvs)) (upd (upd H1 dx (.own x)) x (.ins C dx [])) (fun v H2=>v=.non/\Q (.ref x) H2) (Ex σ)):yl7 C sp dvs Ex tr σ H Q:=h
theorem yo3 {E:XK} {D:ŵ} (h:tr σ H fun vs H1=>vs.length <= sizeLine/\E (.ref C) none H1):ymj E C tr D σ H:=h
end
section
variable {κ:Type} [DecidableEq κ]
def zv (kvs:List (κ × V)) (k:κ):Option V:=(kvs.find? fun kv=>decide (kv.1=k)).map (·.2)
def Ŷ (kvs:List (κ × V)) (k:κ) (v:V):List (κ × V) :=
 if (kvs.any fun kv=>decide (kv.1=k))=true then kvs.map (fun kv=>if kv.1=k then (kv.1,v) else kv) else kvs++[(k,v)]
theorem xz {p:κ × V} {r:List (κ × V)} {k:κ} (e:p.1=k):zv (p :: r) k=some p.2:=by simp [zv,List.find?_cons,e]
theorem xy {p:κ × V} {r:List (κ × V)} {k:κ} (e:¬ p.1=k):zv (p :: r) k=zv r k:=by simp [zv,List.find?_cons,e]
theorem jl (k:κ):∀ kvs:List (κ × V),(kvs.any fun kv=>decide (kv.1=k))=(zv kvs k).isSome
 | []=>rfl
 | p :: r=>by
  rw [List.any_cons];by_cases e:p.1=k
  .simp only [xz e,bJ e,Bool.true_or,Option.isSome_some]
  .rw [xy e,bO e,Bool.false_or]; exact jl k r
theorem ycy (k j:κ) (y:V):∀ kvs:List (κ × V),zv (kvs.map fun kv=>if kv.1=k then (kv.1,y) else kv) j=(zv kvs j).map fun x=>if j=k then y else x
 | []=>rfl
 | p :: r=>by
  have a:=ycy k j y r;rw [cm];by_cases h:p.1=k
  .rw [if_pos h];by_cases e:p.1=j
   .rw [xz (p:=(p.1,y)) e,xz e,cK,if_pos (e.symm.trans h)]
   .rw [xy (p:=(p.1,y)) e,xy e,a]
  .rw [if_neg h];by_cases e:p.1=j
   .rw [xz (p:=p) e,xz e,cK,if_neg (fun z=>h (e.trans z))]
   .rw [xy (p:=p) e,xy e,a]
theorem ya3 (k j:κ) (y:V):∀ kvs:List (κ × V),zv kvs k=none->zv (kvs++[(k,y)]) j=if j=k then some y else zv kvs j
 | [],_=>by
  by_cases e:k=j
  .rw [if_pos e.symm]; exact xz (p:=(k,y)) e
  .rw [if_neg (fun z=>e z.symm)]; exact xy (p:=(k,y)) e
 | p :: r,hn=>by
  rw [List.cons_append];have a:¬ p.1=k:=fun z=>by rw [xz z] at hn; cases hn
  rw [xy a] at hn;have b:=ya3 k j y r hn;by_cases e:p.1=j
  .rw [xz e,xz e,if_neg (fun z=>a (e.trans z))]
  .rw [xy e,xy e,b]
theorem ţ (kvs:List (κ × V)) (k j:κ) (y:V):zv (Ŷ kvs k y) j=if j=k then some y else zv kvs j:=by
 unfold Ŷ;by_cases a:(kvs.any fun c=>decide (c.1=k))=true
 .rw [if_pos a,ycy];rw [jl] at a;by_cases e:j=k
  .obtain ⟨x,b⟩:=Option.isSome_iff_exists.mp a;rw [if_pos e,e,b,cK,if_pos rfl]
  .rw [if_neg e]
   cases zv kvs j with
   | none=>rfl
   | some x=>rw [cK,if_neg e]
 .rw [if_neg a];refine ya3 k j y kvs ?_;rw [jl] at a
  cases q:zv kvs k with
  | none=>rfl
  | some x=>rw [q] at a; exact (a rfl).elim
theorem ò (kvs:List (κ × V)) (k:κ) (v:V):(Ŷ kvs k v).length <= kvs.length+1:=by
 unfold Ŷ
 split
 .rw [bv]; omega
 .rw [bC,ce,List.length_nil]; omega
theorem ß {kvs:List (κ × V)} {k:κ} (v:V) (h:zv kvs k=none):Ŷ kvs k v=kvs++[(k,v)]:=by
 unfold Ŷ;rw [jl,h];exact if_neg (by decide)
theorem ybm.isSome_eq {o:Option V} {u:Option Value} (r:ybm o u):o.isSome=u.isSome:=by
 cases o with
 | none=>cases u with
  | none=>rfl
  | some _=>exact (show False from r).elim
 | some _=>cases u with
  | none=>exact (show False from r).elim
  | some _=>rfl
theorem KV.val {kvs:List (κ × V)} {vs:List (κ × Value)} (r:KV kvs vs) (k:κ):ybm (zv kvs k) (valueAt vs k):=by
 unfold KV at r
 induction r with
 | nil=>exact True.intro
 | @cons p q ps qs h t ih =>
  obtain ⟨c,d⟩:=h;by_cases e:p.1=k
  .have a:q.1=k:=c.symm.trans e;have b:valueAt (q :: qs) k=some q.2:=by simp [valueAt,List.find?_cons,a]
   rw [xz e,b]; exact d
  .have a:¬ q.1=k:=fun z=>e (c.trans z);have b:valueAt (q :: qs) k=valueAt qs k:=by simp [valueAt,List.find?_cons,a]
   rw [xy e,b]; exact ih
theorem KV.any {kvs:List (κ × V)} {vs:List (κ × Value)} (r:KV kvs vs) (k:κ):(kvs.any fun kv=>decide (kv.1=k))=vs.any fun kv=>decide (kv.1=k):=by
 unfold KV at r
 induction r with
 | nil=>rfl
 | cons h t ih=>rw [List.any_cons,List.any_cons,ih,h.1]
theorem KV.repl {kvs:List (κ × V)} {vs:List (κ × Value)} (r:KV kvs vs) (k:κ) {y:V} (ry:xk y u) :
  KV (kvs.map fun kv=>if kv.1=k then (kv.1,y) else kv) (vs.map fun kv=>if kv.1=k then (kv.1,u) else kv):=by
 unfold KV at r ⊢
 induction r with
 | nil=>exact .nil
 | @cons p q ps qs h t ih =>
  rw [cm,cm];refine .cons ?_ ih;obtain ⟨a,b⟩:=h;by_cases e:p.1=k
  .rw [if_pos e,if_pos (a.symm.trans e)]; exact ⟨a,ry⟩
  .rw [if_neg e,if_neg (fun z=>e (a.trans z))]; exact ⟨a,b⟩
theorem KV.put {kvs:List (κ × V)} {vs:List (κ × Value)} (r:KV kvs vs) (k:κ) {y:V} (ry:xk y u):KV (Ŷ kvs k y) (stored vs k u):=by
 unfold Ŷ stored;rw [r.any k];by_cases e:(vs.any fun a=>decide (a.1=k))=true
 .rw [if_pos e,if_pos e]; exact r.repl k ry
 .rw [if_neg e,if_neg e]; exact Paired.snoc r ⟨rfl,ry⟩
theorem KV.length {kvs:List (κ × V)} {vs:List (κ × Value)} (r:KV kvs vs):kvs.length=vs.length:=Paired.length r
end
theorem yix {w:World} {k:Key} (r:xk (kV k) u):(xo P w).is k u=true:=by
 cases k with
 | inl i=>obtain ⟨t,e⟩:=(show ∃ t,u=Value.int i t from r); subst e; exact ybr P w i t
 | inr x=>obtain ⟨t,e⟩:=(show ∃ t,u=Value.str x t from r); subst e; exact yby P w x t
theorem yar {w:World}:∀ {ks:List Key} {us:List Value},wn (ks.map kV) us->ItemsAre (xo P w) ks us
 | [],_,r=>by rw [List.map_nil] at r; cases r; exact .nil
 | k :: ks,_,r=>by
  rw [cm] at r
  cases r with
  | cons h t=>exact .cons (yix h) (yar t)
abbrev KT (H:Hp):List (List Key × V)->List (List Key × Addr × Value)->Prop:=Paired fun p q=>p.1=q.1/\H q.2.1=some (.tup (p.1.map kV))/\xk p.2 q.2.2
theorem KT.val {H:Hp} {kvs:List (List Key × V)} {xs:List (List Key × Addr × Value)} (r:KT H kvs xs) (k:List Key):ybm (zv kvs k) ((atKey xs k).map (·.2)):=by
 induction r with
 | nil=>exact True.intro
 | @cons p q ps qs h t ih =>
  obtain ⟨c,_,d⟩:=h;by_cases e:p.1=k
  .have a:q.1=k:=c.symm.trans e;have b:atKey (q :: qs) k=some q.2:=by simp [atKey,List.find?_cons,a]
   rw [xz e,b]; exact d
  .have a:¬ q.1=k:=fun z=>e (c.trans z);have b:atKey (q :: qs) k=atKey qs k:=by simp [atKey,List.find?_cons,a]
   rw [xy e,b]; exact ih
theorem KT.repl {H:Hp} {kvs:List (List Key × V)} {xs:List (List Key × Addr × Value)} (r:KT H kvs xs) (k:List Key) {y:V} (ry:xk y u) :
  KT H (kvs.map fun kv=>if kv.1=k then (kv.1,y) else kv) (xs.map (putAt k u)):=by
 induction r with
 | nil=>exact .nil
 | @cons p q ps qs h t ih =>
  rw [cm,cm];refine .cons ?_ ih;obtain ⟨a,b,c⟩:=h;unfold putAt;by_cases e:p.1=k
  .rw [if_pos e,if_pos (a.symm.trans e)]; exact ⟨a,b,ry⟩
  .rw [if_neg e,if_neg (fun z=>e (a.trans z))]; exact ⟨a,b,c⟩
theorem KT.put {H:Hp} {kvs:List (List Key × V)} {xs:List (List Key × Addr × Value)} (r:KT H kvs xs) (k:List Key) {b:Addr} {y:V} (hb:H b=some (.tup (k.map kV))) (ry:xk y u) :
  KT H (Ŷ kvs k y) (storedH xs k b u):=by
 have e:(kvs.any fun a=>decide (a.1=k))=(atKey xs k).isSome:=by
  rw [jl,(r.val k).isSome_eq,Option.isSome_map]
 unfold Ŷ storedH;rw [e];by_cases q:(atKey xs k).isSome=true
 .rw [if_pos q,if_pos q]; exact r.repl k ry
 .rw [if_neg q,if_neg q]; exact Paired.snoc r ⟨rfl,hb,ry⟩
theorem KT.keeps {H H':Hp} {kvs:List (List Key × V)} {xs:List (List Key × Addr × Value)} (r:KT H kvs xs) (ht:∀ b ys,H b=some (.tup ys)->H' b=some (.tup ys)):KT H' kvs xs :=
 Paired.mapP r fun _ _ z=>⟨z.1,ht _ _ z.2.1,z.2.2⟩
section
variable {w:World} {H:Hp} {h:Heap}
theorem yw7 {u:HO} (ok:HOk P w H h) (e:Rd H a u):xf P w H h a u:=e.ok ok
theorem yfg {kvs:List (Key × V)} (ok:HOk P w H h) (e:Rd H a (.dK kvs)):kvs.length <= sizeLine/\(a == sysModules)=false/\∃ vs,KV kvs vs/\h.DictOf (xo P w) a vs :=
 show xf P w H h a (.dK kvs) from yw7 ok e
theorem yyw {kvs:List (Key × V)} (ok:HOk P w H h) (e:H a=some (.dK kvs)):kvs.length <= sizeLine/\(a == sysModules)=false/\∃ vs,KV kvs vs/\h.DictOf (xo P w) a vs:=yfg ok (.inl e)
theorem ybd {ks:List Key} (ok:HOk P w H h) (e:H a=some (.tup (ks.map kV))):(tupleKind (xo P w)).is h ks a:=by
 obtain ⟨_,b,r,o,f,d,n,c⟩:=(show xf P w H h a (.tup (ks.map kV)) from ok a _ e);exact ⟨o,b.toArray,n,f,d,c,by simpa using yar r⟩
theorem yi0 {kvs:List (List Key × V)} (ok:HOk P w H h) (e:Rd H a (.dT kvs)):kvs.length <= sizeLine/\(a == sysModules)=false /\
  ∃ xs,KT H kvs xs/\h.DictOfH (tupleKind (xo P w)) a xs:=by
 obtain ⟨z,y,xs,r,o,i,f,k,n,g,j,d⟩:=(show xf P w H h a (.dT kvs) from yw7 ok e);refine ⟨z,y,xs,r,o,i,f,k,n,g,j,fun x b=>?_,d⟩
 have c:∀ {l:List (List Key × V)} {m:List (List Key × Addr × Value)},KT H l m->∀ x∈m,(tupleKind (xo P w)).is h x.1 x.2.1:=by
  intro l m q
  induction q with
  | nil=>intro x b; exact nomatch b
  | @cons p q ps qs hq t ih =>
   intro x b;rcases bI.mp b with e | b
   .subst e;exact ybd ok (by rw [<- hq.1]; exact hq.2.1)
   .exact ih x b
 exact c r x b
theorem yzr {kvs:List (List Key × V)} (ok:HOk P w H h) (e:H a=some (.dT kvs)):kvs.length <= sizeLine/\(a == sysModules)=false /\
  ∃ xs,KT H kvs xs/\h.DictOfH (tupleKind (xo P w)) a xs:=yi0 ok (.inl e)
end
def Ę (H:Hp) (a:Addr) (y:V) (r:Option V):Prop :=
 (∃ kvs k,Rd H a (.dK kvs)/\y=kV k/\r=zv kvs k)\/∃ kvs k b,Rd H a (.dT kvs)/\y=.ref b/\H b=some (.tup (k.map kV))/\r=zv kvs k
def yi8 (H:Hp) (a:Addr) (y v:V) (H':Hp):Prop :=
 (∃ kvs k,H a=some (.dK kvs)/\y=kV k/\kvs.length < sizeLine/\H'=upd H a (.dK (Ŷ kvs k v))) \/
 ∃ kvs k b,H a=some (.dT kvs)/\y=.ref b/\H b=some (.tup (k.map kV))/\kvs.length < sizeLine/\H'=upd H a (.dT (Ŷ kvs k v))
theorem Ę.k {H:Hp} {kvs:List (Key × V)} {k:Key} (e:H a=some (.dK kvs)):Ę H a (kV k) (zv kvs k):=.inl ⟨kvs,k,.inl e,rfl,rfl⟩
theorem Ę.t {H:Hp} {b:Addr} {kvs:List (List Key × V)} {k:List Key} (e:H a=some (.dT kvs)) (eb:H b=some (.tup (k.map kV))):Ę H a (.ref b) (zv kvs k):=.inr ⟨kvs,k,b,.inl e,rfl,eb,rfl⟩
theorem yi8.k {H:Hp} {kvs:List (Key × V)} {k:Key} {v:V} (e:H a=some (.dK kvs)) (hl:kvs.length < sizeLine):yi8 H a (kV k) v (upd H a (.dK (Ŷ kvs k v))):=.inl ⟨kvs,k,e,rfl,hl,rfl⟩
theorem yi8.t {H:Hp} {b:Addr} {kvs:List (List Key × V)} {k:List Key} {v:V} (e:H a=some (.dT kvs)) (eb:H b=some (.tup (k.map kV))) (hl:kvs.length < sizeLine) :
  yi8 H a (.ref b) v (upd H a (.dT (Ŷ kvs k v))):=.inr ⟨kvs,k,b,e,rfl,eb,hl,rfl⟩
section
variable {σ:St} {H:Hp} {s:Shared} {y v:V} {r:Value} {o:Option V} {A:Around}
theorem Inv.big (I:Inv X pins σ H s):sysModules < s.heap.objs.size:=by
 have h:mainGlobals < s.heap.objs.size:=(I.mod.glob.keeps I.bk).lt;exact Nat.lt_trans (by decide) h
theorem yf6 (hu:A.units+1 < cLine) (I:Inv X pins σ H s) (g:Ę H a y (some v)) (ry:xk y u) (h:∀ w' s',Inv X pins σ H s'->xk v w'->Q w' s') :
  wpAny (model X.prog X.w) A (getItem (.ref a) u) Q E s:=by
 rcases g with ⟨m,k,e,i,l⟩ | ⟨m,k,b,e,i,B,l⟩
 .subst i;obtain ⟨z,q,r,c,f⟩:=yfg I.hok e;obtain ⟨w',j,d⟩:=ybm.some_of (v:=v) (o:=valueAt r k) (by rw [l]; exact c.val k);exact wpAny_getItem_of (yix ry) f.mapOf j (h w' _ (I.tok _) d)
 .subst i;cases (show u=Value.ref b from ry);obtain ⟨z,q,x,c,f⟩:=yi0 I.hok e;obtain ⟨w',j,d⟩:=ybm.some_of (v:=v) (o:=(atKey x k).map (·.2)) (by rw [l]; exact c.val k);obtain ⟨p,t,n⟩:=Option.map_eq_some_iff.mp j;refine wpAny_getItem_heap (tupleKind_room_in1 hu) (ybd I.hok B) f t ?_;rw [n];exact h w' _ (I.tok _) d
theorem vbi (hu:A.units+1 < cLine) (I:Inv X pins σ H s) (g:Ę H a y o) (ry:xk y u) (h:∀ s',Inv X pins σ H s'->Q (.bool o.isSome) s') :
  wpAny (model X.prog X.w) A (compareOp .In u (.ref a)) Q E s:=by
 rcases g with ⟨j,k,e,i,l⟩ | ⟨j,k,b,e,i,m,l⟩
 .subst i;obtain ⟨z,d,n,c,f⟩:=yfg I.hok e;refine wpAny_in_of (yix ry) d f.mapOf ?_;rw [<- (c.val k).isSome_eq,<- l];exact h _ (I.tok _)
 .subst i;cases (show u=Value.ref b from ry);obtain ⟨z,d,p,c,f⟩:=yi0 I.hok e;refine wpAny_in_heap (tupleKind_room_in1 hu) (ybd I.hok m) d f ?_;have q:=(c.val k).isSome_eq;rw [Option.isSome_map] at q;rw [<- q,<- l];exact h _ (I.tok _)
theorem yoc (hu:A.units+1 < cLine) (I:Inv X pins σ H s) (g:Ę H a y o) (ry:xk y u) (h:∀ s',Inv X pins σ H s'->Q (.bool (!o.isSome)) s') :
  wpAny (model X.prog X.w) A (compareOp .NotIn u (.ref a)) Q E s:=by
 rcases g with ⟨j,k,e,i,l⟩ | ⟨j,k,b,e,i,m,l⟩
 .subst i;obtain ⟨z,d,n,c,f⟩:=yfg I.hok e;refine wpAny_notIn_of (yix ry) d f.mapOf ?_;rw [<- (c.val k).isSome_eq,<- l];exact h _ (I.tok _)
 .subst i;cases (show u=Value.ref b from ry);obtain ⟨z,d,p,c,f⟩:=yi0 I.hok e;refine wpAny_notIn_heap (tupleKind_room_in1 hu) (ybd I.hok m) d f ?_;have q:=(c.val k).isSome_eq;rw [Option.isSome_map] at q;rw [<- q,<- l];exact h _ (I.tok _)
theorem ygz {t':Nat} {ob:HO} (I:Inv X pins σ H s) (mu:Mut (H a)) (hs:Heap.SameBut a s.heap h') (he:∃ q,h'.get? a=some q) (new:xf X.prog X.w (upd H a ob) h' a ob) :
  Inv X pins σ (upd H a ob) { s with heap:=h',toks:=t' } :=
 I.write (x:=a) (e:=a) mu (.inl rfl) (fun b q c z=>(hs.2 b c).trans z) he new
theorem yub {w:World} {H':Hp} {kvs:List (Key × V)} {vs:List (Key × Value)} (z:kvs.length <= sizeLine) (hd:(a == sysModules)=false) (rel:KV kvs vs) (dd:h'.DictOf (xo P w) a vs) :
  xf P w H' h' a (.dK kvs):=⟨z,hd,vs,rel,dd⟩
theorem yf3 {H':Hp} {Q:Unit->Shared->Prop} (hu:A.units+1 < cLine) (I:Inv X pins σ H s) (g:yi8 H a y v H') (ry:xk y u) (rv:xk v r) (h:∀ s',Inv X pins σ H' s'->Q () s') :
  wpAny (model X.prog X.w) A (setItem (.ref a) u r) Q E s:=by
 rcases g with ⟨f,k,e,t,l,p⟩ | ⟨f,k,b,e,t,F,l,p⟩
 .subst t p;obtain ⟨z,m,G,d,n⟩:=yyw I.hok e;have x:G.length <= sizeLine:=by rw [<- d.length]; exact z
  have B:(Ŷ f k v).length <= sizeLine:=by have:=ò f k v; omega
  refine wpAny_setItem_pairs (hsz:=x) (yix ry) n fun D i o=>h _ ?_;have L:∃ q,D.get? a=some q:=let ⟨q,_,_,j,_⟩:=i; ⟨q,j⟩;exact ygz I (by rw [e]; exact True.intro) o L (yub B m (d.put k rv) i)
 .subst t p;cases (show u=Value.ref b from ry);obtain ⟨z,m,O,d,n⟩:=yzr I.hok e;have x:O.length <= sizeLine:=by rw [<- Paired.length d]; exact z
  have B:(Ŷ f k v).length <= sizeLine:=by have:=ò f k v; omega
  refine wpAny_setItem_heap (hsz:=x) (tupleKind_room_in1 hu) (ybd I.hok F) n fun D i o=>h _ ?_;obtain ⟨q,P,N,j,R,J,K,_,M⟩:=i;refine ygz I (by rw [e]; exact True.intro) o ⟨q,j⟩ ⟨B,m,_,(d.put k F rv).keeps fun c S C=>?_,q,P,N,j,R,J,K,M⟩
  rw [yq (xa C e (fun z=>nomatch z))]
  exact C
end
section
variable {σ:St} {H:Hp} {s:Shared} {kvs:List (Key × V)} {k:Key} {A:Around}
theorem yyk (I:Inv X pins σ H s) (e:Rd H a (.dK kvs)) (h:∀ t s',Inv X pins σ H s'->Q (.int kvs.length t) s'):wpAny (model X.prog X.w) A (call (.builtin "len") [.ref a]) Q E s:=by
 obtain ⟨z,c,f,b,d⟩:=yfg I.hok e;refine call_len_dict c d (by rw [<- b.length]; rw [sizeLine_eq] at z; omega) ?_;rw [<- b.length];exact h _ _ (I.tok _)
end
def va0 (i:Expr):Prop:=∀ ov iv,subscripted i false ov iv=operate [ov,iv] (getItem ov iv)
theorem yoo {prog:Program} {w:World} {A:Around} {s:Shared} {env:Env} {value slice:Expr} {pos:Pos} {T id:String} 
  (hl:typeLookup (.type T) "__getitem__"=pure (some (.builtin id))) (hs:va0 slice)
  (h:wpAny (model prog w) A (eval value env) (fun o s₁=>wpAny (model prog w) A (eval slice env) (fun i s₂=>s₂.TypeIs o T/\wpAny (model prog w) A (getItem o i) Q E s₂) E s₁) E s) :
  wpAny (model prog w) A (eval (.Subscript value slice pos) env) Q E s:=by
 refine Subscript_ (cR h (fun o s₁ h₁=>cR h₁ (fun i s₂ h₂=>?_) fun _ _ x=>x) fun _ _ x=>x);obtain ⟨b,h₂⟩:=h₂;unfold subscriptTail;refine bw ?_;rw [getitemInPython_of_ne b.not_modules];refine bw (wpAny_specialOf b hl ?_)
 have a:wpAny (model prog w) A (subscripted slice false o i) (fun r s₃=>wpAny (model prog w) A (letTemporaryGo value o r >>= fun _=>pure r) Q E s₃) E s₂:=by
  rw [hs o i];exact wpAny_operating (cR h₂ (fun r s₃ h₃=>bw (wpAny_letTemporaryGo (bE h₃))) fun _ _ x=>x)
 first
  | exact bE (bw a)
  | exact bw (bE (bw a))
  | exact bw a
theorem ybw {σ:St} {H:Hp} {s:Shared} {y:V} {o:Option V} (I:Inv X pins σ H s) (g:Ę H a y o):s.TypeIs (.ref a) "dict":=by
 rcases g with ⟨c,k,e,_,_⟩ | ⟨c,k,b,e,_,_,_⟩
 .obtain ⟨_,_,h,_,d⟩:=yfg I.hok e;exact d.typeIs
 .obtain ⟨_,_,f,_,d⟩:=yi0 I.hok e;exact d.typeIs
def yxg (td ty:TE):TE:=fun σ H Q=>td σ H fun x H1=>ty σ H1 fun y H2=>∃ a v,x=.ref a/\Ę H2 a y (some v)/\Q v H2
def vao (ty td:TE):TE:=fun σ H Q=>ty σ H fun y H1=>td σ H1 fun x H2=>∃ a o,x=.ref a/\Ę H2 a y o/\Q (.bl o.isSome) H2
def yhf (ty td:TE):TE:=fun σ H Q=>ty σ H fun y H1=>td σ H1 fun x H2=>∃ a o,x=.ref a/\Ę H2 a y o/\Q (.bl (!o.isSome)) H2
def yxb (td ty tv:TE):TS:=fun D σ H=>tv σ H fun v H1=>td σ H1 fun x H2=>ty σ H2 fun y H3=>∃ a H4,x=.ref a/\yi8 H3 a y v H4/\D.nx σ H4
section
variable {o i value:Expr} {pos pos' tpos:Pos} {td ty tv:TE}
theorem j5 (hu:X.A.units+1 < cLine) (ho:PE X o td) (hi:PE X i ty) (hs:va0 i):PE X (.Subscript o i pos) (yxg td ty):=by
 refine .mk fun b s σ H Q I h=>?_;refine yoo PySem.F.slot_dict_getitem.lookup hs (thn (ho b s σ H _ I h) fun u e ⟨x,m,p,k,j⟩=>thn (hi b e σ m _ p j) fun w t h'=>?_);obtain ⟨y,n,d,q,a,v,f,g,l⟩:=h';subst f;obtain rfl:u=Value.ref a:=k;exact ⟨ybw d g,yf6 hu d g q fun z B r c=>⟨v,n,r,c,l⟩⟩
theorem ysh (hu:X.A.units+1 < cLine) (hi:PE X i ty) (ho:PE X o td):PC X .In i o (vao ty td):=by
 intro b s σ H Q I h;refine thn (hi b s σ H _ I h) fun t c ⟨y,m,p,q,k⟩=>thn (ho b c σ m _ p k) fun u v h'=>?_;obtain ⟨x,n,e,j,a,f,d,g,l⟩:=h';subst d;obtain rfl:u=Value.ref a:=j;exact vbi hu e g q fun w r=>⟨.bl f.isSome,n,r,rfl,l⟩
theorem yao (hu:X.A.units+1 < cLine) (hi:PE X i ty) (ho:PE X o td):PC X .NotIn i o (yhf ty td):=by
 intro b s σ H Q I h;refine thn (hi b s σ H _ I h) fun t c ⟨y,m,p,q,k⟩=>thn (ho b c σ m _ p k) fun u v h'=>?_;obtain ⟨x,n,e,j,a,f,d,g,l⟩:=h';subst d;obtain rfl:u=Value.ref a:=j;exact yoc hu e g q fun w r=>⟨.bl (!f.isSome),n,r,rfl,l⟩
theorem ycj (hu:X.A.units+1 < cLine) (ho:PE X o td) (hi:PE X i ty) (hv:PE X value tv) (hs:swapsWith value (some (.Subscript o i pos')) pos.line X.env=pure false) :
  PS X (.Assign [.Subscript o i pos'] value pos) (yxb td ty tv):=by
 refine .mk fun b s σ H D I h=>?_;refine wpAny_Assign_Subscript (thn (hv b s σ H _ I h) fun r c ⟨v,z,B,C,t⟩=>thn (ho b c σ z _ B t) fun u w ⟨x,p,e,f,m⟩=>thn (hi b w σ p _ e m) fun G E h'=>?_) hs;obtain ⟨y,F,q,j,a,k,l,g,n⟩:=h';subst l;obtain rfl:u=Value.ref a:=f;exact yf3 hu q g j C fun J d=>⟨σ,k,d,n⟩
end
theorem yjd {w:World} {H:Hp} (h:Heap) (hb:sysModules < h.objs.size):xf P w H (h.push { cls:=.type "dict",data:=.dict #[] }) h.objs.size (.dK []) :=
 ⟨bR _,cU.mpr (Ne.symm (bU hb)),[],.nil,Heap.DictOf.new h⟩
theorem ykc {w:World} {H:Hp} (h:Heap) (hb:sysModules < h.objs.size):xf P w H (h.push { cls:=.type "dict",data:=.dict #[] }) h.objs.size (.dT []) :=
 ⟨bR _,cU.mpr (Ne.symm (bU hb)),[],.nil,_,#[],0,bN _ rfl,⟨rfl,rfl,rfl⟩,rfl,rfl,List.nodup_nil⟩
def ymt:TE:=fun _ H Q=>∀ p,H p=none->Q (.ref p) (upd H p (.dK []))
def ylc:TE:=fun _ H Q=>∀ p,H p=none->Q (.ref p) (upd H p (.dT []))
section
variable {pos:Pos}
theorem ydm:PE X (.Dict [] [] pos) ymt:=.mk fun b s σ H Q I h =>
 wpAny_Dict_empty ⟨.ref s.heap.objs.size,_,I.laid (a:=s.heap.objs.size) (o:=.dK []) (t':=s.toks) (fun _ _ q=>bz _ q) (bA _) (yjd s.heap I.big),rfl,h _ (I.hok.fresh (bA _))⟩
theorem yjz:PE X (.Dict [] [] pos) ylc:=.mk fun b s σ H Q I h =>
 wpAny_Dict_empty ⟨.ref s.heap.objs.size,_,I.laid (a:=s.heap.objs.size) (o:=.dT []) (t':=s.toks) (fun _ _ q=>bz _ q) (bA _) (ykc s.heap I.big),rfl,h _ (I.hok.fresh (bA _))⟩
end
structure M1 (X:Cx) (o:Expr) (m:Str) (apos:Pos) (e:Expr) (cpos:Pos):Prop where
 base:attributeBase o m X.env (eval o X.env)=eval o X.env
 few:((backTo cpos (starEach [e] X.env)).all (fun x=>!x.1) && (backToKw cpos (keywordEach [] X.env)).all (fun x=>x.1.isSome)
  && decide (([e]:List Expr).length+([]:List Keyword).length+(if ([]:List Keyword).isEmpty then 0 else 1) < 30))=true
 line:(apos.endLine == cpos.line)=true
 trees:backTo cpos (starEach [e] X.env)=[(false,eval e X.env)]
structure M2 (X:Cx) (o:Expr) (m:Str) (apos:Pos) (e f:Expr) (cpos:Pos):Prop where
 base:attributeBase o m X.env (eval o X.env)=eval o X.env
 few:((backTo cpos (starEach [e,f] X.env)).all (fun x=>!x.1) && (backToKw cpos (keywordEach [] X.env)).all (fun x=>x.1.isSome)
  && decide (([e,f]:List Expr).length+([]:List Keyword).length+(if ([]:List Keyword).isEmpty then 0 else 1) < 30))=true
 line:(apos.endLine == cpos.line)=true
 trees:backTo cpos (starEach [e,f] X.env)=[(false,eval e X.env),(false,eval f X.env)]
@[irreducible] def QE (X:Cx) (e:Expr) (t:TE):Prop:=PE X e t
@[irreducible] def QSs (X:Cx) (st:List Stmt) (t:TS):Prop:=PSs X st t
@[irreducible] def QS (X:Cx) (st:Stmt) (t:TS):Prop:=PS X st t
section
variable {te:TE} {pos:Pos} {ts us:TS} {st:Stmt} {â:List Stmt}
theorem yj {R:TS->Prop} (h1:PS X st ts) (h2:∃ us,PSs X â us/\R (vaj ts us)):∃ t,PSs X (st :: â) t/\R t:=let ⟨_,a,b⟩:=h2; ⟨_,yi h1 a,b⟩
end
theorem ydo:∀ {bs:List Bool} {us:List Value},wn (bs.map V.bl) us->us=bs.map Value.bool
 | [],_,.nil=>rfl
 | b :: r,_,.cons a t=>by rw [show _=Value.bool b from a,ydo t]; rfl
theorem yfu (bs:List Bool):((List.range bs.length).all fun i=>(bs[i]?).getD true)=bs.all id:=by
 rw [Bool.eq_iff_iff,List.all_eq_true,List.all_eq_true]
 constructor
 .intro h b c;obtain ⟨i,a,rfl⟩:=List.getElem_of_mem c;have:=h i (cD.mpr a);rw [bx a] at this;exact this
 .intro h i a;have a:=cD.mp a;rw [bx a];exact h _ (bZ a)
theorem jk (hc:X.calm=true):zx X (.builtin "all") (fun xs H Q=>∃ p bs,xs=[.ref p]/\SqL X.K H p (List.map V.bl bs)/\Q (.bl (bs.all id)) H):=by
 intro g s σ H xs z Q I r h;obtain ⟨p,bs,rfl,m,q⟩:=h;obtain ⟨u,rfl,l⟩:=ω r;cases l;obtain ⟨t,o,k,E⟩:=I.list m;obtain rfl:=ydo o;have f:=k.isList;have c:p < s.heap.objs.size:=by obtain ⟨_,e,_⟩:=f; exact bF e
 refine call_all_walk (wpAny_pyIter_list f ?_)
 refine ⟨s.heap.objs.size,[s.heap.objs.size,p],[s.heap.objs.size],(bs.map Value.bool).toArray.size,_,_,fun i=>(bs[i]?).getD true,rfl,Walks.list (A:=X.A.in1) (show X.A.handled=none from I.ok.hd hc) _ p (bU c) (bs.map Value.bool).toArray,
  ⟨⟨_,bN _ rfl,rfl,rfl⟩,f.push _⟩,fun i v y C D a d=>?_,fun B n j=>?_⟩
 .have a:(bs.map Value.bool)[i]?=some v:=by simpa using a
  rw [bB] at a
  cases e:bs[i]? with
  | none=>rw [e] at a; cases a
  | some b =>
   dsimp only at d;rw [e] at a d;cases a;exact cJ d
 .have e:((List.range (bs.map Value.bool).toArray.size).all fun i=>(bs[i]?).getD true)=bs.all id:=by
   rw [bH,bv];exact yfu bs
  rw [e];refine ⟨.bl (bs.all id),H,I.kept (t':=n) fun b x e=>j b x (fun w=>?_) (bz _ e),rfl,q⟩;rw [bQ.mp w] at e;exact cS _ (bF e)
theorem xp {env:Env}:∀ {names:List (Str × NameKind)} {x:Str} {k:NameKind},
  (names.map fun (n,k)=>if (k == NameKind.free && env.scope.kind == .function && env.kindOf n == some .cell) then (n,NameKind.cell) else (n,k)).lookup x=some k->∃ k0,(x,k0)∈names/\(k=k0\/k0=.free)
 | [],_,_,h=>by simp at h
 | (n,k1) :: r,x,k,h=>by
  rw [cm] at h;by_cases hx:x=n
  .subst hx;refine ⟨k1,.head _,?_⟩;dsimp only at h
   split at h
   .rename_i hc
    simp only [bX,beq_iff_eq] at hc;exact .inr hc.1.1
   .simp [List.lookup] at h;exact .inl h.symm
  .have:(x == n)=false:=by simpa using hx
   have a:(r.map fun (n,k)=>if (k == NameKind.free && env.scope.kind == .function && env.kindOf n == some .cell) then (n,NameKind.cell) else (n,k)).lookup x=some k:=by
    dsimp only at h
    split at h <;> simpa [List.lookup,this] using h
   obtain ⟨k0,m,q⟩:=xp a;exact ⟨k0,.tail _ m,q⟩
def δ (ys:List Str) (env:Env):List (Str × Addr):=ys.map fun y=>(y,(env.cells.lookup y).getD 0)
theorem Ţ {env:Env}:∀ {ys:List Str} {y:Str} {c:Addr},(δ ys env).lookup y=some c->y∈ys/\c=(env.cells.lookup y).getD 0
 | [],_,_,h=>by simp [δ] at h
 | z :: r,y,c,h=>by
  by_cases hy:y=z
  .subst hy;simp [δ,List.lookup] at h;exact ⟨.head _,h.symm⟩
  .have a:(y == z)=false:=by simpa using hy
   have b:(δ r env).lookup y=some c:=by simpa [δ,List.lookup,a] using h
   obtain ⟨m,e⟩:=Ţ b;exact ⟨.tail _ m,e⟩
theorem υ {env:Env}:∀ {ys:List Str} {y:Str},y∈ys->(δ ys env).lookup y=some ((env.cells.lookup y).getD 0)
 | z :: r,y,h=>by
  by_cases hy:y=z
  .subst hy;simp [δ,List.lookup]
  .have a:(y == z)=false:=by simpa using hy
   have b:y∈r:=by
    rcases bI.mp h with q | q
    .exact absurd q hy
    .exact q
   have:=υ (env:=env) b;simpa [δ,List.lookup,a] using this
abbrev Cx.compF (X:Cx) (scope:Scope) (ys:List Str) (C:Addr) (x:Str) (s2:Shared) (H2:Hp) (fp:List Addr):Cx :=
 { X with N:=x :: ys,s₀:=s2,H₀:=H2,env:=compEnvC scope (δ ys X.env) C X.env,outer:=X.stack,ex:=fp,fn:=fun _=>false,pn:=[],xe:=fun _ _=>False }
def ux (J:It) (te:TE) (fr:St) (D:Addr) (R:Hp->Prop) (H1:Hp):Prop:=∃ W:Nat->Nat->Hp->Prop,(∃ m,W 0 m (upd H1 D (.lst []))) /\
 ∀ i m H2,W i m H2->(J.stop i H2/\R H2)\/(J.go i H2/\∀ x H3,J.yld i H2 x H3->te (some x :: fr) H3 fun y H4=>∃ ys,H4 D=some (.lst ys)/\ys.length < sizeLine/\∃ m',m' < m/\W (i+1) m' (upd H4 D (.lst (ys++[y]))))
def w9 (js:List Nat) (σ:St):St:=js.map fun j=>(σ[j]?).getD none
def yhz (wi:TI) (te:TE) (js:List Nat):TE:=fun σ H Q=>wi σ H fun J H1=>∀ D,H1 D=none->ux J te (w9 js σ) D (fun H2=>Q (.ref D) H2) H1
section
variable {iter elt:Expr} {x:Str} {px pos:Pos} {te:TE} {wi:TI} {σ:St} {ys:List Str} {js:List Nat}
theorem yo4 {H:Hp} {Q:VK} (h:wi σ H fun J H1=>∀ D,H1 D=none->ux J te (w9 js σ) D (fun H2=>Q (.ref D) H2) H1):yhz wi te js σ H Q:=h
theorem Ç {K:W.Frag} {D:Addr} {xs:List V} {fr:St} {R:Hp->Prop} {H1:Hp} (Pv:Nat->Hp->Prop) (h0:Pv 0 (upd H1 D (.lst []))) (hl:∀ i H,i <= xs.length->Pv i H->SqL K H a xs)
  (hs:∀ i x H,xs[i]?=some x->i < xs.length->Pv i H->te (some x :: fr) H fun y H4=>∃ ys,H4 D=some (.lst ys)/\ys.length < sizeLine/\∃ m',m' < xs.length - i/\cW xs.length Pv (i+1) m' (upd H4 D (.lst (ys++[y]))))
  (hd:∀ H,Pv xs.length H->R H):ux (Itl K a) te fr D R H1:=by
 refine ⟨cW xs.length Pv,⟨xs.length,by simp,bR _,h0⟩,?_⟩;rintro i m H ⟨rfl,b,p⟩;have q:=hl i H b p;by_cases hlt:i < xs.length
 .refine .inr ⟨⟨xs,xs[i],q,by simp [hlt]⟩,fun x c y=>?_⟩;obtain ⟨e,y⟩:=y;subst e;exact hs i x _ (y xs q) hlt p
 .have e:i=xs.length:=by omega
  subst e;exact .inl ⟨⟨xs,q,bA _⟩,hd H p⟩
theorem ì {lo:Int} {n:Nat} {D:Addr} {fr:St} {R:Hp->Prop} {H1:Hp} (Pv:Nat->Hp->Prop) (h0:Pv 0 (upd H1 D (.lst [])))
  (hs:∀ i H,i < n->Pv i H->te (some (.int (lo+i)) :: fr) H fun y H4=>∃ ys,H4 D=some (.lst ys)/\ys.length < sizeLine/\∃ m',m' < n - i/\cW n Pv (i+1) m' (upd H4 D (.lst (ys++[y]))))
  (hd:∀ H,Pv n H->R H):ux (Itr lo n) te fr D R H1:=by
 refine ⟨cW n Pv,⟨n,by simp,bR _,h0⟩,?_⟩;rintro i m H ⟨rfl,b,p⟩;by_cases hlt:i < n
 .refine .inr ⟨hlt,fun x a y=>?_⟩;obtain ⟨e,y⟩:=y;subst e y;exact hs i _ hlt p
 .have e:i=n:=by omega
  subst e;exact .inl ⟨bA _,hd H p⟩
end
end L2
namespace L2
theorem y7 {α:Type} {P:α->Prop}:∀ y∈([]:List α),P y:=fun _ h=>nomatch h
theorem all_cons {α:Type} {P:α->Prop} {y:α} {r:List α} (h:P y) (t:∀ z∈r,P z):∀ z∈y :: r,P z:=fun z a=>by
 rcases bI.mp a with e | a
 .exact e ▸ h
 .exact t z a
end L2
namespace L2
open PySem PySem.Spec PyProof.Rows
section
variable {X:Cx}
theorem ydp:∀ {ns:List Int} {us:List Value},wn (ns.map V.int) us->∃ xs:Array (Int × Tok),us.toArray=intItems xs/\xs.toList.map (·.1)=ns
 | [],_,.nil=>⟨#[],by simp [intItems],rfl⟩
 | n :: r,_,.cons (l₂:=us) a t=>by
  obtain ⟨c,rfl⟩:=a;obtain ⟨xs,d,b⟩:=ydp t;refine ⟨((n,c) :: xs.toList).toArray,?_,by simp [b]⟩;have:us=(intItems xs).toList:=by rw [<- d]
  rw [this];simp [intItems]
theorem ρ (hc:X.calm=true):zx X (.builtin "sum") (fun vs H Q=>∃ p ns,vs=[.ref p]/\SqL X.K H p (List.map V.int ns)/\Q (.int ns.sum) H):=by
 intro a s σ H t n Q I r h;obtain ⟨p,ns,rfl,m,q⟩:=h;obtain ⟨u,rfl,f⟩:=ω r;cases f;obtain ⟨b,l,e,o⟩:=I.list m;obtain ⟨k,g,i⟩:=ydp l;have j:s.heap.IsList p (intItems k):=g ▸ e.isList;refine sum_intListG (I.ok.hd hc) j fun v d t' c=>?_;rw [preSum_eq,cA (by simp),i];exact ⟨.int ns.sum,H,I.kept (t':=d) c,⟨_,rfl⟩,q⟩
end
variable {i:Nat}
section
variable {X:Cx} {e:Expr} {t1 t2:TE}
def yr3 (t1 t2:TE):TE:=fun σ H Q=>t1 σ H Q\/t2 σ H Q
theorem yeb (h1:PE X e t1) (h2:PE X e t2):PE X e (yr3 t1 t2):=by
 refine .mk fun a s σ H Q I h=>?_;rcases h with h | h
 .exact h1 a s σ H Q I h
 .exact h2 a s σ H Q I h
theorem yd9 {σ:St} {H:Hp} {Q:VK} (h:t1 σ H Q):yr3 t1 t2 σ H Q:=.inl h
theorem Ļ {σ:St} {H:Hp} {Q:VK} (h:t2 σ H Q):yr3 t1 t2 σ H Q:=.inr h
end
theorem ve {H:Hp} {p:Addr} {o:HO} {A:Hp->Prop} (hp:H p=none) (h:∀ H',yy H H'->H' p=some o->A H'):A (upd H p o):=h _ (vj hp) yc
theorem yv {α:Type} {H:Hp} {p:Addr} {o:HO} {A:Hp->α->Prop} {Q:α} (hp:H p=none) (h:∀ H',yy H H'->H' p=some o->A H' Q):A (upd H p o) Q:=h _ (vj hp) yc
section
variable {K:W.Frag} {a D:Addr} {xs:List V} {te:TE} {fr:St} {R:Hp->Prop} {H1:Hp}
theorem yax (Pv:Nat->Hp->Prop) (h0:Pv 0 (upd H1 D (.lst []))) (hl:∀ i H,i <= xs.length->Pv i H->SqT K H a xs)
  (hs:∀ i x H,xs[i]?=some x->i < xs.length->Pv i H->te (some x :: fr) H fun y H4=>∃ ys,H4 D=some (.lst ys)/\ys.length < sizeLine/\∃ m',m' < xs.length - i/\cW xs.length Pv (i+1) m' (upd H4 D (.lst (ys++[y]))))
  (hd:∀ H,Pv xs.length H->R H):ux (Itt K a) te fr D R H1:=by
 refine ⟨cW xs.length Pv,⟨xs.length,by simp,bR _,h0⟩,?_⟩;rintro i m H ⟨rfl,b,p⟩;have q:=hl i H b p;by_cases hlt:i < xs.length
 .refine .inr ⟨⟨xs,xs[i],q,by simp [hlt]⟩,fun x c y=>?_⟩;obtain ⟨e,y⟩:=y;subst e;exact hs i x _ (y xs q) hlt p
 .have e:i=xs.length:=by omega
  subst e;exact .inl ⟨⟨xs,q,bA _⟩,hd H p⟩
theorem yj4 (Pv:Nat->Hp->Prop) (h0:Pv 0 (upd H1 D (.lst []))) (hl:∀ i H,i <= xs.length->Pv i H->SqT K H a xs)
  (hs:∀ i x H,xs[i]?=some x->i < xs.length->Pv i H->te [some x] H fun y H4=>∃ ys,H4 D=some (.lst ys)/\ys.length < sizeLine/\∃ m',m' < xs.length - i/\cW xs.length Pv (i+1) m' (upd H4 D (.lst (ys++[y]))))
  (hd:∀ H,Pv xs.length H->R H):yee (Itt K a) te D R H1:=by
 refine ⟨cW xs.length Pv,⟨xs.length,by simp,bR _,h0⟩,?_⟩;rintro i m H ⟨rfl,b,p⟩;have q:=hl i H b p;by_cases hlt:i < xs.length
 .refine .inr ⟨⟨xs,xs[i],q,by simp [hlt]⟩,fun x c y=>?_⟩;obtain ⟨e,y⟩:=y;subst e;exact hs i x _ (y xs q) hlt p
 .have e:i=xs.length:=by omega
  subst e;exact .inl ⟨⟨xs,q,bA _⟩,hd H p⟩
def Mp (H1:Hp) (D:Addr) (f:Nat->V) (i:Nat) (H:Hp):Prop:=yy H1 H/\H D=some (.lst ((List.range i).map f))
theorem Mp.zero {f:Nat->V} (hD:H1 D=none):Mp H1 D f 0 (upd H1 D (.lst [])):=⟨vj hD,yc⟩
theorem Mp.step {f:Nat->V} {n:Nat} {H4:Hp} {y:V} (hD:H1 D=none) (hn:n < sizeLine) (hi:i < n) (S:yy H1 H4) (h4:H4 D=some (.lst ((List.range i).map f))) (e:y=f i) :
  ∃ ys,H4 D=some (.lst ys)/\ys.length < sizeLine/\∃ m',m' < n - i/\cW n (Mp H1 D f) (i+1) m' (upd H4 D (.lst (ys++[y]))):=by
 refine xw (n:=n) h4 (by rw [bv,bW]; omega) hi ⟨?_,?_⟩
 .intro b o a;rw [yq (yd a hD)];exact S b o a
 .rw [yc,List.range_succ,bS,e];rfl
theorem Ā {f:Nat->V} {g:V->V} (h:∀ i x,xs[i]?=some x->f i=g x):(List.range xs.length).map f=xs.map g:=by
 refine List.ext_getElem? fun i=>?_;rw [bB,bB];by_cases hi:i < xs.length
 .rw [cL hi,bx hi];show some (f i)=some (g xs[i]);rw [h i _ (bx hi)]
 .rw [cn (by rw [bW]; omega),cn (by omega)];rfl
def ofG (g:V->V) (xs:List V) (i:Nat):V:=((xs[i]?).map g).getD .non
theorem yen {g:V->V} {x:V} (h:xs[i]?=some x):ofG g xs i=g x:=by
 unfold ofG;rw [h];rfl
def MpK (H1:Hp) (D:Addr) (f:Nat->V) (n i:Nat):VK:=fun y H4=>∃ ys,H4 D=some (.lst ys)/\ys.length < sizeLine/\∃ m',m' < n - i/\cW n (Mp H1 D f) (i+1) m' (upd H4 D (.lst (ys++[y])))
theorem Mp.done {g:V->V} {x y:V} {H4:Hp} (hD:H1 D=none) (hn:xs.length < sizeLine) (hx:xs[i]?=some x) (S:yy H1 H4) (h4:H4 D=some (.lst ((List.range i).map (ofG g xs)))) (e:y=g x):MpK H1 D (ofG g xs) xs.length i y H4:=by
 have a:i < xs.length:=by
  rcases Nat.lt_or_ge i xs.length with q | q
  .exact q
  .rw [cn q] at hx; cases hx
 exact Mp.step hD hn a S h4 (e.trans (yen hx).symm)
theorem Mp.doneR {f:Nat->V} {n:Nat} {y:V} {H4:Hp} (hD:H1 D=none) (hn:n < sizeLine) (hi:i < n) (S:yy H1 H4) (h4:H4 D=some (.lst ((List.range i).map f))) (e:y=f i):MpK H1 D f n i y H4:=Mp.step hD hn hi S h4 e
theorem zf (g:V->V) (hq:SqL K H1 a xs) (hD:H1 D=none)
  (hs:∀ i x H,xs[i]?=some x->yy H1 H->H D=some (.lst ((List.range i).map (ofG g xs)))->te (some x :: fr) H (MpK H1 D (ofG g xs) xs.length i))
  (hd:∀ H,yy H1 H->H D=some (.lst (xs.map g))->R H):ux (Itl K a) te fr D R H1 :=
 Ç (Mp H1 D (ofG g xs)) (Mp.zero hD) (fun _ _ _ p=>p.1.seq hq) (fun i x H b c p=>hs i x H b p.1 p.2)
  fun H p=>hd H p.1 (by rw [<- Ā (f:=ofG g xs) fun i x=>yen]; exact p.2)
theorem ĩ (g:V->V) (hq:SqT K H1 a xs) (hD:H1 D=none)
  (hs:∀ i x H,xs[i]?=some x->yy H1 H->H D=some (.lst ((List.range i).map (ofG g xs)))->te (some x :: fr) H (MpK H1 D (ofG g xs) xs.length i))
  (hd:∀ H,yy H1 H->H D=some (.lst (xs.map g))->R H):ux (Itt K a) te fr D R H1 :=
 yax (Mp H1 D (ofG g xs)) (Mp.zero hD) (fun _ _ _ p=>p.1.tup hq) (fun i x H b c p=>hs i x H b p.1 p.2)
  fun H p=>hd H p.1 (by rw [<- Ā (f:=ofG g xs) fun i x=>yen]; exact p.2)
theorem yfo (g:V->V) (hq:SqT K H1 a xs) (hD:H1 D=none)
  (hs:∀ i x H,xs[i]?=some x->yy H1 H->H D=some (.lst ((List.range i).map (ofG g xs)))->te [some x] H (MpK H1 D (ofG g xs) xs.length i))
  (hd:∀ H,yy H1 H->H D=some (.lst (xs.map g))->R H):yee (Itt K a) te D R H1 :=
 yj4 (Mp H1 D (ofG g xs)) (Mp.zero hD) (fun _ _ _ p=>p.1.tup hq) (fun i x H b c p=>hs i x H b p.1 p.2)
  fun H p=>hd H p.1 (by rw [<- Ā (f:=ofG g xs) fun i x=>yen]; exact p.2)
theorem Ð {lo:Int} {n:Nat} (f:Nat->V) (hD:H1 D=none)
  (hs:∀ i H,i < n->yy H1 H->H D=some (.lst ((List.range i).map f))->te (some (.int (lo+i)) :: fr) H (MpK H1 D f n i))
  (hd:∀ H,yy H1 H->H D=some (.lst ((List.range n).map f))->R H):ux (Itr lo n) te fr D R H1 :=
 ì (Mp H1 D f) (Mp.zero hD) (fun i H a p=>hs i H a p.1 p.2) fun H p=>hd H p.1 p.2
theorem you {tr:TA} {σ:St} {H:Hp} {R:It->Hp->Prop} (h:tr σ H fun vs H1=>∃ i j:Int,vs=[.int i,.int j]/\(-(2 ^ 62) <= i/\i < 2 ^ 62/\-(2 ^ 62) <= j/\j < 2 ^ 62)/\R (Itr i (j - i).toNat) H1):yxu tr σ H R:=h
end
structure Mk0 (K:W.Frag) (C:Addr):Prop where
 makes:W.makesIn K C=true
 init:W.findIn K (.ref C) "__init__"=some (some (.builtin "object.__init__"))
 kp:W.keepIn K (.ref C)=true
abbrev Cx.compT (X:Cx) (scope:Scope) (ys:List Str) (C:Addr) (xs:List Str) (s2:Shared) (H2:Hp) (fp:List Addr):Cx :=
 { X with N:=xs++ys,s₀:=s2,H₀:=H2,env:=compEnvC scope (δ ys X.env) C X.env,outer:=X.stack,ex:=fp,fn:=fun _=>false,pn:=[],xe:=fun _ _=>False }
variable {X:Cx}
def j8 (J:It) (g:TG) (te:TE) (n:Nat) (fr:St) (D:Addr) (R:Hp->Prop) (H1:Hp):Prop:=∃ W:Nat->Nat->Hp->Prop,(∃ m,W 0 m (upd H1 D (.lst []))) /\
 ∀ i m H2,W i m H2->(J.stop i H2/\R H2)\/(J.go i H2/\∀ x H3 pre,J.yld i H2 x H3->List.length pre=n->g x (pre++fr) H3 fun σ' H'=>(∃ pre',List.length pre'=n/\σ'=pre'++fr)/\te σ' H' fun y H4=>∃ ys,H4 D=some (.lst ys)/\ys.length < sizeLine/\∃ m',m' < m/\W (i+1) m' (upd H4 D (.lst (ys++[y]))))
def yid (wi:TI) (g:TG) (te:TE) (n:Nat) (js:List Nat):TE:=fun σ H Q=>wi σ H fun J H1=>∀ D,H1 D=none->j8 J g te n (w9 js σ) D (fun H2=>Q (.ref D) H2) H1
section
variable {iter elt tg:Expr} {xs:List Str} {g:TG} {pos:Pos} {scope:Scope} {te:TE} {wi:TI} {pins:List (Addr × Obj)} {σ:St} {ys:List Str} {js:List Nat}
theorem É {s2:Shared} {H2:Hp} {it:Addr} {fp:List Addr} {tn:Nat->Heap->Prop} {J:It} (hc:X.calm=true)
  (he:∀ (C:Addr) (s2:Shared) (H2:Hp) (fp:List Addr),PE (X.compT scope ys C xs s2 H2 fp) elt te)
  (hgt:∀ (C:Addr) (s2:Shared) (H2:Hp) (fp:List Addr),PG (X.compT scope ys C xs s2 H2 fp) tg g)
  (hcell:∀ y∈scope.names,y.2≠.cell) (hkind:scope.kind=.function)
  (hfr:∀ y∈scope.names,y.2=.free->y.1∈ys) (hyc:∀ y∈ys,X.env.kindOf y=some .cell) (hrel:∀ y∈ys,(relabel scope X.env).names.lookup y=some .cell) (hjs:js.map (fun j=>X.N[j]?)=ys.map some)
  (I2:Inv X pins σ H2 s2) (T:yi6 X.prog X.w X.K tg J fp it tn) (st2:tn 0 s2.heap) (f2:∀ b∈fp,ycp X pins H2 b)
  {R:Addr->Hp->Prop} (h:∀ D,H2 D=none->j8 J g te xs.length (w9 js σ) D (R D) H2) {RR:Value->Addr->Result->Shared->Prop} {E:Value->Shared->Prop}
  (hR:∀ (D C:Addr) (H':Hp) (s':Shared) (m:Str->Option Value),ycp X pins H' C->s'.heap.Ns C m->Inv X pins σ H' s'->R D H'->RR (.ref D) C (.ok .next) s') :
  wpAny (model X.prog X.w) X.A (newList []) (fun acc s₃=>wpAny (model X.prog X.w) X.A (newFunctionEnv scope X.env.globals (δ ys X.env) [] X.env.qual none .none (some X.env)) (fun cenv s₄ =>
   codeAny (model X.prog X.w) X.A (.compStart (.ListComp elt [⟨tg,iter,[],0⟩] scope pos) 0 (.ref it) acc { cenv with scope:=relabel scope X.env }) (RR acc cenv.locals) s₄) E s₃) E s2:=by
 have k:∀ y c,(δ ys X.env).lookup y=some c->X.env.cells.lookup y=some c:=fun y c e=>by
  obtain ⟨m,rfl⟩:=Ţ e;obtain ⟨c',q⟩:=I2.ok.has y (.inl (hyc y m));rw [q];rfl
 refine wpAny_newObj_type (wpAny_newFunctionEnv hcell (by intro y hy; simp at hy) (fun h₁ hns₁ hsb₁=>?_) hkind);dsimp only at hns₁ hsb₁ ⊢;generalize P:s2.heap.push { cls:=.type "list",dict:=none,data:=.seq ([]:List Value).toArray }=G at hns₁ hsb₁ ⊢;have hC:G.objs.size=s2.heap.objs.size+1:=by rw [<- P,Heap.size_push]
 have a0:s2.heap.objs.size≠G.objs.size:=by rw [hC]; exact bU (cX _)
 have F:s2.heap.objs.size <= G.objs.size:=by rw [hC]; exact Nat.le_succ _
 have f:∀ b,b < s2.heap.objs.size->b≠G.objs.size/\b≠s2.heap.objs.size:=fun b a=>⟨by rw [hC]; exact bU (Nat.lt_succ_of_lt a),bU a⟩;have B:∀ b o,s2.heap.get? b=some o->h₁.get? b=some o:=fun b o e=>hsb₁.extBut b o (f b (bF e)).1 (bz _ (P ▸ bz _ e));have a6:h₁.get? s2.heap.objs.size=some { cls:=.type "list",data:=.seq ([]:List Value).toArray }:=hsb₁.extBut _ _ a0 (bz _ (P ▸ bN _ rfl));have S:∀ b∈fp,b < s2.heap.objs.size:=fun b a=>let ⟨_,e,_⟩:=T.obj 0 _ st2 b a; bF e;have a3:∀ b∈fp,b∉frs X.stack:=fun b a z=>(bI.mp (I2.stkSub b z)).elim (f2 b a).2.1 (f2 b a).2.2.1;have nC:H2 G.objs.size=none:=I2.hok.fresh F;have nD:H2 s2.heap.objs.size=none:=I2.hok.fresh (bA _)
 have t:∀ y c,(δ ys X.env).lookup y=some c->∃ v o,s2.heap.get? c=some o/\o.data=.cell v:=fun y c e=>by
  obtain ⟨v,o,q1,q2⟩:=I2.cell y c (k y c e);exact ⟨v,o,q1,q2⟩
 have aa:(X.compT scope ys G.objs.size xs s2 H2 fp).Ok:=by
  refine ⟨I2.ok.mod,hkind,I2.ok.glob,I2.ok.blt,F,fun y z c e U=>I2.ok.inj y z c (k y c e) (k z c U),fun y e=>?_,fun y c z e=>(by cases z),I2.ok.hd,I2.ok.frames,.inl rfl,fun b a=>⟨(f b (S b a)).1,fun y c e=>(f2 b a).2.2.2.2.1 y c (k y c e)⟩,I2.bs,?_,fun b o e a=>?_,fun b a=>a3 b a,I2.stack,I2.stkFree⟩
  .have U:(relabel scope X.env).names.lookup y=some .cell\/(relabel scope X.env).names.lookup y=some .free:=e
   have a9:y∈ys:=by
    rcases U with U | U
    .obtain ⟨k0,m,q⟩:=xp U;rcases q with q | q
     .exact absurd q.symm (hcell _ m)
     .exact hfr _ m q
    .obtain ⟨k0,m,q⟩:=xp U;rcases q with q | q
     .exact hfr _ m q.symm
     .exact hfr _ m q
   exact ⟨_,υ a9⟩
  .exact cc I2.ok.bsz I2.sz
  .rcases (f2 b a).2.2.2.1 with z | z
   .exact I2.ok.noex b o e z
   .exact absurd (bV (bF (I2.ok.bs b o e).1) z) (cS _)
 have a7:(w9 js σ).length=ys.length:=by
  have:=congrArg List.length hjs;simpa [w9] using this
 have I3:∀ tk,Inv (X.compT scope ys G.objs.size xs s2 H2 fp) [] (List.replicate xs.length none++w9 js σ) (upd H2 s2.heap.objs.size (.lst [])) { s2 with heap:=h₁,toks:=tk }:=fun tk =>
  ⟨aa,rfl,I2.bare,Un.laid B (bA _) nD,⟨_,hns₁,fun i y v e1 M e3=>by
    by_cases hi0:i < xs.length
    .rw [List.getElem?_append_left (by simpa using hi0),List.getElem?_replicate,if_pos hi0] at M;cases M
    .obtain ⟨i,rfl⟩:∃ i',i=xs.length+i':=⟨i - xs.length,by omega⟩;have e1:ys[i]?=some y:=by rw [cN (by omega)] at e1; simpa using e1
     have M:(w9 js σ)[i]?=some (some v):=by rw [cN (by simp)] at M; simpa using M
     have hy:y∈ys:=bM e1;have Q:=congrArg (fun l=>l[i]?) hjs;simp only [bB,e1,cK] at Q
     cases q:js[i]? with
     | none=>rw [q] at Q; cases Q
     | some j =>
      rw [q] at Q;have Q:X.N[j]?=some y:=by simpa using Q
      have es:σ[j]?=some (some v):=by
       simp only [w9,bB,q,cK,Option.some.injEq] at M
       cases r:σ[j]? with
       | none=>rw [r] at M; cases M
       | some w'=>rw [r] at M; rw [show w'=some v from M]
      obtain ⟨m0,_,ac⟩:=I2.loc;obtain ⟨u,ru,lk⟩:=ac j y v Q es (.inr (.inl (hyc y hy)));refine ⟨u,ru,.inr ⟨.inl (hrel y hy),?_⟩⟩;rcases lk with ⟨k1,_⟩ | ⟨_,c,ec,o,ho,hd⟩
      .rw [hyc y hy] at k1; cases k1
      .refine ⟨c,?_,o,B c o ho,hd⟩;show (δ ys X.env).lookup y=some c;rw [υ hy,ec]
       rfl⟩,fun y c e=>(by
    obtain ⟨v,o,q1,q2⟩:=t y c e
    exact ⟨v,o,B c o q1,q2⟩),(by show upd H2 s2.heap.objs.size _ G.objs.size=none; rw [yq a0.symm]; exact nC),fun y c e=>(by
    obtain ⟨v,o,q1,q2⟩:=t y c e;show upd H2 s2.heap.objs.size _ c=none;rw [yq (f c (bF q1)).2]
    exact I2.freeC y c (k y c e)),fun p hp=>(by simp at hp),
   I2.hok.laid B (bA _) ⟨bR _,[],_,.nil,a6⟩,by show (List.replicate xs.length none++w9 js σ).length=(xs++ys).length; simp [a7]⟩
 have L:∀ {H':Hp},(∀ b∈fp,H' b=none)->∀ b∈fp,ycp (X.compT scope ys G.objs.size xs s2 H2 fp) [] H' b:=fun hn b a=>⟨hn b a,(f b (S b a)).1,a3 b a,.inl a,fun y c e=>(f2 b a).2.2.2.2.1 y c (k y c e),fun p hp=>(by simp at hp)⟩
 have O:∀ tk,codeAny (model X.prog X.w) X.A (.compLoop (.ListComp elt [⟨tg,iter,[],0⟩] scope pos) 0 (.ref it) (.ref s2.heap.objs.size) (compEnvC scope (δ ys X.env) G.objs.size X.env)) (RR (.ref s2.heap.objs.size) G.objs.size) { s2 with heap:=h₁,toks:=tk }:=by
  intro tk;obtain ⟨W,⟨m0,w0⟩,a1⟩:=h s2.heap.objs.size nD;refine codeAny_loop rfl (fun n s'=>∃ i v H',List.length v=xs.length/\Inv (X.compT scope ys G.objs.size xs s2 H2 fp) [] (v++w9 js σ) H' s'/\tn i s'.heap/\(∀ b∈fp,H' b=none)/\W i n H') (fun n s' hI=>?_) m0
   ⟨0,List.replicate xs.length none,_,by simp,I3 tk,T.keep 0 _ _ st2 (fun b a o e=>B b o e),fun b a=>(by rw [yq (f b (S b a)).2]; exact (f2 b a).1),w0⟩
  obtain ⟨i,v,H',hv,I,st,fr,w⟩:=hI;show wpAny _ _ ((compTurn (.ListComp elt [⟨tg,iter,[],0⟩] scope pos) 0 (.ref it) (.ref s2.heap.objs.size) (compEnvC scope (δ ys X.env) G.objs.size X.env)).onRaise (fun x=>do noteFrame x (compEnvC scope (δ ys X.env) G.objs.size X.env); theTreesLotGoes x)) _ _ s';refine wpAny_noted ?_;rw [compTurn_list1];refine bw (wpAny_standAt (bw ?_));rcases a1 i n H' w with ⟨a2,q⟩ | ⟨go,a4⟩
  .refine thn (T.done (X.compT scope ys G.objs.size xs s2 H2 fp) rfl rfl rfl hc i [] s' (v++w9 js σ) H' _ I (L fr) st a2) fun r s4 ⟨hr,Z⟩=>?_;subst hr;refine bE ?_;obtain ⟨m,hn,_⟩:=Z.loc;exact hR _ _ H' s4 m (I2.fpOk F Z.free) hn (I2.call' (ch:=fp) Z.os Z.base Z.hok Z.bare fun b a=>⟨(f2 b a).2.2.2.1,(f2 b a).2.1,(f2 b a).2.2.2.2.1,(f2 b a).2.2.2.2.2⟩) q
  .refine thn (T.item (X.compT scope ys G.objs.size xs s2 H2 fp) rfl rfl rfl hc i [] s' (v++w9 js σ) H' _ I (L fr) st go) fun r s4 ⟨u,hr,h4⟩=>?_;subst hr;refine bw (thn h4 fun _ s5 ⟨y,H5,I5,r5,y5,Y,a8⟩=>bw ?_);have ab:=I5.pinned (L a8) (T.obj _ _ Y);refine ysb (hgt _ _ _ _ _ s5 (v++w9 js σ) H5 y u _ ab r5 (a4 y H5 v y5 hv)) fun _ s6 ⟨σ',H6,I6,⟨H,ad,ep⟩,q6⟩=>?_;subst ep;refine bw (bw (ysb (he _ _ _ _ _ s6 (H++w9 js σ) H6 _ I6 q6) fun u2 s7 ⟨y2,H7,I7,r7,zs,hD,hl,m',hm,w'⟩=>bw ?_));refine ysb (wz _ s7 (H++w9 js σ) H7 (.ref s2.heap.objs.size) [y2] (.ref s2.heap.objs.size) [u2] (fun _ H8=>H8=upd H7 s2.heap.objs.size (.lst (zs++[y2]))) I7 rfl (.cons r7 .nil) ⟨_,zs,y2,rfl,rfl,hD,hl,rfl⟩) fun _ s8 h'=>?_;obtain ⟨_,H8,I8,_,e8⟩:=h';subst e8
   have a5:∀ b∈fp,∀ o,s5.heap.get? b=some o->s8.heap.get? b=some o/\upd H7 s2.heap.objs.size (HO.lst (zs++[y2])) b=none:=fun b a o e =>
    ⟨(I8.pin (b,o) (bP _ (bP _ (xv a e)))).1,(I8.pin (b,o) (bP _ (bP _ (xv a e)))).2.1⟩
   refine bE (bE ⟨rfl,m',hm,i+1,H,_,ad,I8.unpinned,T.keep _ _ _ Y fun b a o e=>(a5 b a o e).1,fun b a=>?_,w'⟩);obtain ⟨o,e,d⟩:=T.obj _ _ Y b a;exact (a5 b a o e).2
 exact codeAny_compStart_list (O _) (T.self X.A 0 _ _ _ (T.keep 0 _ _ st2 (fun b a o e=>B b o e)) (O _))
theorem ydi (hc:X.calm=true) (hi:PI X tg iter wi) (he:∀ (C:Addr) (s2:Shared) (H2:Hp) (fp:List Addr),PE (X.compT scope ys C xs s2 H2 fp) elt te) (hjs:js.map (fun j=>X.N[j]?)=ys.map some)
  (hgt:∀ (C:Addr) (s2:Shared) (H2:Hp) (fp:List Addr),PG (X.compT scope ys C xs s2 H2 fp) tg g)
  (hclos:closureFor scope X.env=pure (δ ys X.env)) (hyc:∀ y∈ys,X.env.kindOf y=some .cell) (hrel:∀ y∈ys,(relabel scope X.env).names.lookup y=some .cell)
  (hfr:∀ y∈scope.names,y.2=.free->y.1∈ys:=by decide +kernel) (hcell:∀ y∈scope.names,y.2≠.cell:=by decide +kernel) (hkind:scope.kind=.function:=by rfl)
  (hnames:∀ y∈scope.names,y.2=.local->scope.names.lookup y.1=some .local:=by decide +kernel) (hs:∀ x,foldedSetIterable iter X.env x=pure x:=by intro _; rfl) :
  PE X (.ListComp elt [⟨tg,iter,[],0⟩] scope pos) (yid wi g te xs.length js):=by
 refine .mk fun a s σ H Q I h=>?_;rw [eval_ListComp];refine wpAny_comprehension_free (use:=none) rfl hs hclos hkind hnames (thn (hi a s σ H _ I h) fun v E t=>thn t fun l s2 z=>?_);obtain ⟨G,fp,F,J,H2,e,k,T,d,n,h⟩:=z;subst e;refine É (R:=fun D c=>Q (.ref D) c) (RR:=compPost (model X.prog X.w) X.A X.xe none (EP X a σ Q)) hc he hgt hcell hkind hfr hyc hrel hjs k T d n h ?_;intro D C c r m f p i q;refine ⟨m,p,fun K u=>⟨.ref D,c,?_,rfl,q⟩⟩;exact i.turned (t':=r.toks) (fun b o B e=>u.extBut b o B e) f.1 f.2.1 f.2.2.2.1 f.2.2.2.2.1 f.2.2.2.2.2
theorem ypa {H:Hp} {Q:VK} {n:Nat} (h:wi σ H fun J H1=>∀ D,H1 D=none->j8 J g te n (w9 js σ) D (fun H2=>Q (.ref D) H2) H1):yid wi g te n js σ H Q:=h
end
section
variable {iter elt:Expr} {x:Str} {px pos:Pos} {scope:Scope} {te:TE} {wi:TI} {pins:List (Addr × Obj)} {σ:St} {ys:List Str} {js:List Nat}
theorem yto {J:It} {fr:St} {D:Addr} {R:Hp->Prop} {H1:Hp} (h:ux J te fr D R H1):j8 J (w6 0) te 1 fr D R H1:=by
 obtain ⟨W,d,j⟩:=h;refine ⟨W,d,fun i m c w=>(j i m c w).imp id fun ⟨b,y⟩=>⟨b,fun x f a g e=>?_⟩⟩
 match a,e with
 | [z],_=>exact ⟨⟨[some x],rfl,rfl⟩,y x f g⟩
theorem ī {s2:Shared} {H2:Hp} {it:Addr} {fp:List Addr} {tn:Nat->Heap->Prop} {J:It} (hc:X.calm=true)
  (he:∀ (C:Addr) (s2:Shared) (H2:Hp) (fp:List Addr),PE (X.compF scope ys C x s2 H2 fp) elt te)
  (hcell:∀ y∈scope.names,y.2≠.cell) (hkind:scope.kind=.function) (hx:scope.names.lookup x=some .local) (hnd:(x :: ys).Nodup)
  (hfr:∀ y∈scope.names,y.2=.free->y.1∈ys) (hyc:∀ y∈ys,X.env.kindOf y=some .cell) (hrel:∀ y∈ys,(relabel scope X.env).names.lookup y=some .cell) (hjs:js.map (fun j=>X.N[j]?)=ys.map some)
  (I2:Inv X pins σ H2 s2) (T:yi6 X.prog X.w X.K (.Name x px) J fp it tn) (st2:tn 0 s2.heap) (f2:∀ b∈fp,ycp X pins H2 b)
  {R:Addr->Hp->Prop} (h:∀ D,H2 D=none->ux J te (w9 js σ) D (R D) H2) {RR:Value->Addr->Result->Shared->Prop} {E:Value->Shared->Prop}
  (hR:∀ (D C:Addr) (H':Hp) (s':Shared) (m:Str->Option Value),ycp X pins H' C->s'.heap.Ns C m->Inv X pins σ H' s'->R D H'->RR (.ref D) C (.ok .next) s') :
  wpAny (model X.prog X.w) X.A (newList []) (fun acc s₃=>wpAny (model X.prog X.w) X.A (newFunctionEnv scope X.env.globals (δ ys X.env) [] X.env.qual none .none (some X.env)) (fun cenv s₄ =>
   codeAny (model X.prog X.w) X.A (.compStart (.ListComp elt [⟨.Name x px,iter,[],0⟩] scope pos) 0 (.ref it) acc { cenv with scope:=relabel scope X.env }) (RR acc cenv.locals) s₄) E s₃) E s2 :=
 É (tg:=.Name x px) (xs:=[x]) (g:=w6 0) hc he (fun C s2 H2 fp=>wo (i:=0) hnd rfl (Or.inl (lookup_relabel_local hx)) (Or.inr (lookup_relabel_local hx))) hcell hkind hfr hyc hrel hjs I2 T st2 f2 (fun D a=>yto (h D a)) hR
theorem wj (hc:X.calm=true) (hi:PI X (.Name x px) iter wi) (he:∀ (C:Addr) (s2:Shared) (H2:Hp) (fp:List Addr),PE (X.compF scope ys C x s2 H2 fp) elt te) (hjs:js.map (fun j=>X.N[j]?)=ys.map some)
  (hclos:closureFor scope X.env=pure (δ ys X.env)) (hnd:(x :: ys).Nodup:=by decide) (hyc:∀ y∈ys,X.env.kindOf y=some .cell) (hrel:∀ y∈ys,(relabel scope X.env).names.lookup y=some .cell)
  (hfr:∀ y∈scope.names,y.2=.free->y.1∈ys:=by decide +kernel) (hcell:∀ y∈scope.names,y.2≠.cell:=by decide +kernel) (hkind:scope.kind=.function:=by rfl)
  (hnames:∀ y∈scope.names,y.2=.local->scope.names.lookup y.1=some .local:=by decide +kernel) (hx:scope.names.lookup x=some .local:=by rfl) (hs:∀ x,foldedSetIterable iter X.env x=pure x:=by intro _; rfl) :
  PE X (.ListComp elt [⟨.Name x px,iter,[],0⟩] scope pos) (yhz wi te js):=by
 refine .mk fun a s σ H Q I h=>?_;rw [eval_ListComp];refine wpAny_comprehension_free (use:=none) rfl hs hclos hkind hnames (thn (hi a s σ H _ I h) fun v B r=>thn r fun k s2 u=>?_);obtain ⟨F,fp,E,J,H2,e,i,T,d,l,h⟩:=u;subst e;refine ī (R:=fun D c=>Q (.ref D) c) (RR:=compPost (model X.prog X.w) X.A X.xe none (EP X a σ Q)) hc he hcell hkind hx hnd hfr hyc hrel hjs i T d l h ?_;intro D C c p m f n g q;refine ⟨m,n,fun G t=>⟨.ref D,c,?_,rfl,q⟩⟩;exact g.turned (t':=p.toks) (fun b o z e=>t.extBut b o z e) f.1 f.2.1 f.2.2.2.1 f.2.2.2.2.1 f.2.2.2.2.2
theorem ydg {y:Str} {py spos:Pos} (hN:X.N.Nodup) (hy:X.N[i]?=some y) (hl:X.env.scope.names.lookup y=some .local) (hc:X.calm=true) (hi:PI X (.Name x px) iter wi)
  (he:∀ (C:Addr) (s2:Shared) (H2:Hp) (fp:List Addr),PE (X.compF scope ys C x s2 H2 fp) elt te) (hjs:js.map (fun j=>X.N[j]?)=ys.map some)
  (hclos:closureFor scope X.env=pure (δ ys X.env)) (hyc:∀ y∈ys,X.env.kindOf y=some .cell) (hrel:∀ y∈ys,(relabel scope X.env).names.lookup y=some .cell)
  (hsw:swapsWith (.ListComp elt [⟨.Name x px,iter,[],0⟩] scope pos) (some (.Name y py)) spos.line X.env=pure true:=by rfl) (hnd:(x :: ys).Nodup:=by decide)
  (hfr:∀ y∈scope.names,y.2=.free->y.1∈ys:=by decide +kernel) (hcell:∀ y∈scope.names,y.2≠.cell:=by decide +kernel) (hkind:scope.kind=.function:=by rfl)
  (hnames:∀ y∈scope.names,y.2=.local->scope.names.lookup y.1=some .local:=by decide +kernel) (hx:scope.names.lookup x=some .local:=by rfl) (hs:∀ x,foldedSetIterable iter X.env x=pure x:=by intro _; rfl) :
  PS X (.Assign [.Name y py] (.ListComp elt [⟨.Name x px,iter,[],0⟩] scope pos) spos) (ysc (yhz wi te js) (w6 i)):=by
 refine .mk fun a s σ H g I h=>?_;rw [exec_Assign_Name_used _ _ _ _ hsw];refine bw (wpAny_standAt (bw ?_));show wpAny _ X.A (do let _ <- comprehension (.ListComp elt [⟨.Name x px,iter,[],0⟩] scope pos) scope X.env _ (newList []) false (eval iter X.env) (some (assign (.Name y py) X.env))) _ _ s;refine bw (cR (wpAny_comprehension_free (use:=some (assign (.Name y py) X.env)) (Q:=fun _ d=>SP X a g .next d) rfl hs hclos hkind hnames (thn (hi a s σ H _ I h) fun v O F=>thn F fun E s2 L=>?_)) (fun _ d B=>bE (bE B)) fun _ _ e=>e);obtain ⟨U,fp,P,J,H2,e,u,T,t,K,h⟩:=L;subst e;refine ī (R:=fun D l=>w6 i (.ref D) σ l g.nx) (RR:=compPost (model X.prog X.w) X.A X.xe (some (assign (.Name y py) X.env)) (fun _ d=>SP X a g .next d)) hc he hcell hkind hx hnd hfr hyc hrel hjs u T t K h ?_;intro D C l d m f M G q;refine wpAny_assign_Name (θ (v:=V.ref D) G hN hy (Or.inl hl) rfl (fun r p k=>?_) (Or.inr hl));refine ⟨m,?_,fun S n=>⟨_,l,?_,q⟩⟩
 .obtain ⟨b,n,c⟩:=k;refine M.sameBut n fun z=>?_;rcases c with c | c
  .exact f.2.1 (z.trans c)
  .exact f.2.2.2.2.1 y b c z.symm
 .exact p.turned (t':=r.toks) (fun b o c e=>n.extBut b o c e) f.1 f.2.1 f.2.2.2.1 f.2.2.2.2.1 f.2.2.2.2.2
end
end L2
namespace L2
open PySem PySem.Spec PyProof.Rows
section
variable {prog:Program} {w:World} {A:Around} {E:Value->Shared->Prop} {s:Shared}
theorem jz {it l:Addr} {i:Nat} {items} {x:Value} {Q:Value->Shared->Prop} (hit:s.heap.IsTupleIter it l i) (hl:s.heap.IsTuple l items) (hx:items[i]?=some x)
  (hQ:∀ h',h'.IsTupleIter it l (i+1)->Heap.SameBut it s.heap h'->Q x { s with heap:=h' }):wpAny (model prog w) A (Builtin.SmallTypes.nextOf (.ref it)) Q E s:=by
 obtain ⟨g,b,e,a⟩:=id hit;obtain ⟨f,d,_,h,c⟩:=hl;unfold Builtin.SmallTypes.nextOf;refine bw (wpAny_callSpecial?_slot (name:=Str.ofString "__next__") hit.typeIs slot_tupleiter_next (wpAny_call_entry slot_tupleiter_next hit.typeIs entry_tupleiter_next ?_ (args_tupleiter_next _)));show wpAny _ _ (field (.ref it) 0 >>= _) _ _ s;refine bw (cE b a (x:=.ref l) rfl ?_);show wpAny _ _ (if (Value.ref l == Value.none)=true then _ else _) _ _ s;rw [if_neg (show ¬ ((Value.ref l == Value.none)=true) from bK)];show wpAny _ _ (field (.ref it) 1 >>= _) _ _ s;refine bw (cE b a (x:=.int i 0) rfl ?_);show wpAny _ _ (seqItems? (.ref l) >>= _) _ _ s;refine bw (wpAny_seqItems d c ?_);simp only [Int.toNat_natCast,hx];refine bw (wpAny_setField b a (by simp) (bE ⟨x,rfl,bE (hQ _ ⟨_,Heap.get?_update_self _ b (Obj.isFreed_of_fields (Obj.data_mapFields a _)),(Obj.cls_mapFields ..).trans e,?_⟩ (Heap.SameBut.update ..))⟩));rw [Obj.data_mapFields a];simp [rawInt]
theorem ô {it l:Addr} {i:Nat} {items} {Q:Value->Shared->Prop} (hh:A.handled=none) (hit:s.heap.IsTupleIter it l i) (hl:s.heap.IsTuple l items) (hx:items[i]?=none)
  (hE:∀ h' e,Heap.ExtBut it s.heap h'->(∃ o,h'.get? e=some o/\o.cls=.type "StopIteration")->E (.ref e) { s with heap:=h' }):wpAny (model prog w) A (Builtin.SmallTypes.nextOf (.ref it)) Q E s:=by
 obtain ⟨j,c,g,b⟩:=id hit;obtain ⟨h,f,_,k,d⟩:=hl;unfold Builtin.SmallTypes.nextOf;refine bw (wpAny_callSpecial?_slot (name:=Str.ofString "__next__") hit.typeIs slot_tupleiter_next (wpAny_call_entry slot_tupleiter_next hit.typeIs entry_tupleiter_next ?_ (args_tupleiter_next _)))
 (show wpAny _ _ (field (.ref it) 0 >>= _) _ _ s); refine bw (cE c b (x:=.ref l) rfl ?_)
 (show wpAny _ _ (if (Value.ref l == Value.none)=true then _ else _) _ _ s); rw [if_neg (show ¬ ((Value.ref l == Value.none)=true) from bK)]
 (show wpAny _ _ (field (.ref it) 1 >>= _) _ _ s); refine bw (cE c b (x:=.int i 0) rfl ?_)
 (show wpAny _ _ (seqItems? (.ref l) >>= _) _ _ s); refine bw (wpAny_seqItems f d ?_)
 simp only [Int.toNat_natCast,hx]; refine bw (wpAny_rule (bw (wpAny_setField c b (by simp) ?_)))
 (show wpAny _ _ (newExc (.type "StopIteration") [] >>= _) _ _ _); refine bw ?_
 simp only [newExc,newTuple]; refine bw (wpAny_newObj_type ?_ (by size_fits))
 refine bw (m:=firstArgMember _ _) (wpAny_of_eq (a:=Value.none) (by first | rfl | (simp only [firstArgMember]; rfl)) (wpAny_newObj_type ?_ (by size_fits)))
 simp only [raiseNew]; refine bw (wpAny_handled ?_)
 (first | rw [show A.in1.handled=none from hh] | rw [hh]); refine bw (bE (wpAny_throw ?_))
 exact hE _ _ (((Heap.SameBut.update _ ..).extBut.push _).push _) ⟨_,bN _ rfl,rfl⟩
end
section
open AutoSeq1 (wpAny_loadPart')
set_option maxRecDepth 100000
end
end L2
namespace L2
open PySem PySem.Spec PyProof.Rows
end L2
namespace L2
section
variable {σ:St} {H:Hp} {Q:VK} {td ty tx tv:TE}
theorem ys9 (h:td σ H fun x H1=>ty σ H1 fun y H2=>∃ a v,x=.ref a/\Ę H2 a y (some v)/\Q v H2):yxg td ty σ H Q:=h
theorem yze (h:ty σ H fun y H1=>td σ H1 fun x H2=>∃ a o,x=.ref a/\Ę H2 a y o/\Q (.bl o.isSome) H2):vao ty td σ H Q:=h
theorem yki (h:ty σ H fun y H1=>td σ H1 fun x H2=>∃ a o,x=.ref a/\Ę H2 a y o/\Q (.bl (!o.isSome)) H2):yhf ty td σ H Q:=h
theorem ysj {nx bk ct:St->Hp->Prop} {rt:VK} (h:tv σ H fun v H1=>td σ H1 fun x H2=>ty σ H2 fun y H3=>∃ a H4,x=.ref a/\yi8 H3 a y v H4/\nx σ H4):yxb td ty tv ⟨nx,rt,bk,ct⟩ σ H:=h
theorem yn4 (h:∀ p,H p=none->Q (.ref p) (upd H p (.dT []))):ylc σ H Q:=h
end
end L2
namespace L2
open PySem PySem.Spec PyProof.Rows
variable {i1 i2 l1 l2:Addr} {xs ys:Array Value} {elts:List Expr} {i k1 k2:Nat} {tpos:Pos} {a:Value}
def Itz (K:W.Frag) (a b:Addr):It :=
 ⟨fun i H=>∃ xs ys x y,SqL K H a xs/\SqL K H b ys/\xs[i]?=some x/\ys[i]?=some y,
  fun i H v H'=>∃ t x y,v=.ref t/\H t=none/\H'=upd H t (.tup [x,y])/\(∀ xs,SqL K H a xs->xs[i]?=some x)/\(∀ ys,SqL K H b ys->ys[i]?=some y),
  fun i H=>∃ xs ys,SqL K H a xs/\SqL K H b ys/\(xs.length <= i\/ys.length <= i)⟩
structure Zap (z TI TO i1 i2:Addr):Prop where
 a1:TI≠z
 a2:TO≠z
 a3:i1≠z
 a4:i2≠z
 a5:TI≠TO
 a6:TI≠i1
 a7:TI≠i2
 a8:TO≠i1
 a9:TO≠i2
 b1:i1≠i2
def Zst (z TI TO i1 i2 l1 l2:Addr) (i:Nat) (h:Heap):Prop:=IsZip h z TI TO .none/\IsPair h TI (.ref i1) (.ref i2)/\(∃ a b,IsPair h TO a b)/\h.IsListIter i1 l1 i/\h.IsListIter i2 l2 i
theorem uu {h:Heap} {a b:Addr} {o o':Obj} (e:h.get? a=some o) (e':h.get? b=some o') (n:o.cls≠o'.cls):a≠b:=by
 rintro rfl;rw [e] at e';cases e';exact n rfl
theorem ymk (z:Nat):Zap (z+4) (z+2) (z+3) z (z+1):=by
 constructor <;> (show (_:Nat)≠(_:Nat); omega)
theorem nT {a b:String} (h:Value.type a≠Value.type b):Value.type a≠Value.type b:=h
theorem Zap.apart {X:Cx} {pins:List (Addr × Obj)} {σ:St} {H:Hp} {s:Shared} {z TI TO:Addr} {xs ys:List Value} (d:Zap z TI TO i1 i2) (st:Zst z TI TO i1 i2 l1 l2 i s.heap) (p:PlainL s.heap l1 xs.toArray) (q:PlainL s.heap l2 ys.toArray) (_:Inv X pins σ H s):ZipApart z TI TO i1 i2 l1 l2:=by
 obtain ⟨j,o,⟨a,b,c⟩,⟨v,k,m,_⟩,⟨r,l,n,_⟩⟩:=st;obtain ⟨t,e,f,_⟩:=p.isList;obtain ⟨u,h,g,_⟩:=q.isList
 exact ⟨d.a1,d.a2,d.a3,d.a4,d.a5,d.a6,d.a7,d.a8,d.a9,d.b1,
  uu e j (by rw [f]; exact nT (by decide)),uu e c (by rw [f]; exact nT (by decide)),uu e k (by rw [f,m]; decide),uu e l (by rw [f,n]; decide),
  uu h j (by rw [g]; exact nT (by decide)),uu h c (by rw [g]; exact nT (by decide)),uu h k (by rw [g,m]; decide),uu h l (by rw [g,n]; decide)⟩
theorem yjv {P:Program} {w:World} {K:W.Frag} {x1} (l1 l2 z TI TO i1 i2:Addr) (d:Zap z TI TO i1 i2) :
  yi6 P w K (.Tuple elts x1 tpos) (Itz K l1 l2) [z,TI,TO,i1,i2] z (Zst z TI TO i1 i2 l1 l2) where
 mem:=by simp
 obj:=fun i h G b g=>by
  obtain ⟨O,j,⟨_,_,l⟩,⟨o1,e1,_,d1⟩,⟨o2,e2,_,d2⟩⟩:=G;simp only [bI,List.not_mem_nil,or_false] at g;rcases g with rfl | rfl | rfl | rfl | rfl
  .exact ⟨_,O,fun v z=>by cases z⟩
  .exact ⟨_,j,fun v z=>by cases z⟩
  .exact ⟨_,l,fun v z=>by cases z⟩
  .exact ⟨o1,e1,fun v z=>by rw [d1] at z; cases z⟩
  .exact ⟨o2,e2,fun v z=>by rw [d2] at z; cases z⟩
 keep:=fun i h T G k=>by
  obtain ⟨O,j,⟨a,b,l⟩,h1,h2⟩:=G;exact ⟨k z (by simp) _ O,k TI (by simp) _ j,⟨a,b,k TO (by simp) _ l⟩,h1.at fun o e=>k i1 (by simp) o e,h2.at fun o e=>k i2 (by simp) o e⟩
 item:=by
  intro X hP hw hK hc i N s σ H E I F G hg;subst hP hw hK;obtain ⟨xs,Z,x,y,U,M,t,hy⟩:=hg;obtain ⟨ad,rv,p,ac⟩:=I.list U;obtain ⟨a7,Q,p',a0⟩:=I.list M;obtain ⟨u,hu,ru⟩:=rv.get t;obtain ⟨u',aa,ab⟩:=Q.get hy;have D:=d.apart G p p' I;obtain ⟨O,j,⟨va,vb,l⟩,J,L⟩:=G;refine wpAny_pyNext_zip_item D O j l J L p.isList p'.isList (x:=u) (y:=u') (by simpa using hu) (by simpa using aa) fun T a1 a2 a3 a4 a5 a6 hk=>?_;refine ⟨_,rfl,wpAny_letOwnedTupleGo_zip a1 fun r a9 m=>?_⟩;have C:H s.heap.objs.size=none:=I.hok.fresh (bA _);have lz:z < s.heap.objs.size:=bF O;have lo:TO < s.heap.objs.size:=bF l;have lI:TI < s.heap.objs.size:=bF j;have ag:i1 < s.heap.objs.size:=by obtain ⟨o,e,_⟩:=id J; exact bF e
  have af:i2 < s.heap.objs.size:=by obtain ⟨o,e,_⟩:=id L; exact bF e
  have keep:∀ b o,b≠z->b≠TO->b≠i1->b≠i2->s.heap.get? b=some o->r.get? b=some o:=fun b o Y n2 n3 n4 e=>(m.2 b Y).trans (hk b o Y n2 n3 n4 e);have a8:r.get? s.heap.objs.size=some { cls:=.type "tuple",data:=.seq #[u,u'] }:=(m.2 _ (Nat.ne_of_gt lz)).trans a5;have nt:∀ {b v},H b=some v->b≠z/\b≠TO/\b≠i1/\b≠i2:=fun {b v} e=>⟨yd e (F z (by simp)).1,yd e (F TO (by simp)).1,yd e (F i1 (by simp)).1,yd e (F i2 (by simp)).1⟩
  have R:HOk X.prog X.w (upd H s.heap.objs.size (.tup [x,y])) r:=fun b o e=>by
   by_cases g:b=s.heap.objs.size
   .subst g;rw [yc] at e;cases e;exact ⟨by show 2 <= sizeLine; decide,[u,u'],.cons ru (.cons ab .nil),⟨_,a8,rfl,_,rfl⟩⟩
   .rw [yq g] at e;refine (I.hok b o e).stay (fun c v B q=>?_) (fun c q=>by rw [yq (yd q C)]; exact q) fun c Z q=>by rw [yq (yd q C)]; exact q
    obtain ⟨Y,n2,n3,n4⟩:c≠z/\c≠TO/\c≠i1/\c≠i2:=by
     rcases B with rfl | B
     .exact nt e
     .exact nt B
    exact keep c v Y n2 n3 n4 q
  have un:Un (frs X.stack) [z,TI,TO,i1,i2] H (upd H s.heap.objs.size (.tup [x,y])) s.heap r:=by
   have S:∀ {b o},b∉[z,TI,TO,i1,i2]->s.heap.get? b=some o->r.get? b=some o:=fun {b o} g e=>keep b o (fun q=>g (by simp [q])) (fun q=>g (by simp [q])) (fun q=>g (by simp [q])) (fun q=>g (by simp [q])) e
   refine ⟨fun b o e n _ t=>S t e,fun b o e n _ t=>⟨o.slots,S t e⟩,fun b o e n _=>by rw [yq (bU (bF e))]; exact n,fun b o e t=>⟨o,S t e⟩,
    fun b Z e=>by rw [yq (yd e C)]; exact e,fun b o v e=>by rw [yq (yd e C)]; exact e,fun b ps e=>⟨#[],by rw [yq (yd e C),e]; simp⟩⟩
  have I1:Inv X N σ (upd H s.heap.objs.size (.tup [x,y])) { s with heap:=r }:=I.call' (s':={ s with heap:=r }) rfl un R I.bare fun b g=>by
   have f:=F b g;exact ⟨f.2.2.2.1,f.2.1,f.2.2.2.2.1,f.2.2.2.2.2⟩
  refine ⟨.ref s.heap.objs.size,_,I1,rfl,⟨_,x,y,rfl,C,rfl,fun zs h=>by rw [I.list_inj h U]; exact t,fun zs h=>by rw [I.list_inj h M]; exact hy⟩,?_,fun b g=>?_⟩
  .exact ⟨a9,keep _ _ D.TIz D.TITO D.TIi1 D.TIi2 j,⟨u,u',(m.2 _ D.TOz).trans a2⟩,a3.at fun o e=>(m.2 _ D.i1z).trans e,a4.at fun o e=>(m.2 _ D.i2z).trans e⟩
  .rw [yq (fun q=>?_)]
   .exact (F b g).1
   .have U:b < s.heap.objs.size:=by
     simp only [bI,List.not_mem_nil,or_false] at g;rcases g with rfl | rfl | rfl | rfl | rfl <;> assumption
    exact absurd q (bU U)
 done:=by
  intro X hP hw hK hc i N s σ H E I F G hg;subst hP hw hK;obtain ⟨xs,Z,U,M,t⟩:=hg;obtain ⟨ad,rv,p,ac⟩:=I.list U;obtain ⟨a7,Q,p',a0⟩:=I.list M;have D:=d.apart G p p' I;obtain ⟨O,j,⟨va,vb,l⟩,J,L⟩:=G;have hl:=rv.length;have ae:=Q.length;refine wpAny_pyNext_zip_end (show X.A.handled=none from I.ok.hd hc) D O j l J L p.isList p'.isList (by simp; omega) fun T hk=>⟨rfl,?_⟩;have nt:∀ {b v},H b=some v->b≠z/\b≠TO/\b≠i1/\b≠i2:=fun {b v} e=>⟨yd e (F z (by simp)).1,yd e (F TO (by simp)).1,yd e (F i1 (by simp)).1,yd e (F i2 (by simp)).1⟩
  have R:HOk X.prog X.w H T:=fun b o e=>by
   refine (I.hok b o e).stay (fun c v B q=>?_) (fun c q=>q) fun c Z q=>q
   obtain ⟨Y,n2,n3,n4⟩:c≠z/\c≠TO/\c≠i1/\c≠i2:=by
    rcases B with rfl | B
    .exact nt e
    .exact nt B
   exact hk c v Y n2 n3 n4 q
  have un:Un (frs X.stack) [z,TI,TO,i1,i2] H H s.heap T:=by
   have S:∀ {b o},b∉[z,TI,TO,i1,i2]->s.heap.get? b=some o->T.get? b=some o:=fun {b o} g e=>hk b o (fun q=>g (by simp [q])) (fun q=>g (by simp [q])) (fun q=>g (by simp [q])) (fun q=>g (by simp [q])) e;exact ⟨fun b o e n _ t=>S t e,fun b o e n _ t=>⟨o.slots,S t e⟩,fun b o e n _=>n,fun b o e t=>⟨o,S t e⟩,fun b Z e=>e,fun b o v e=>e,fun b ps e=>⟨#[],by rw [e]; simp⟩⟩
  exact I.call' (s':={ s with heap:=T }) rfl un R I.bare fun b g=>by
   have f:=F b g;exact ⟨f.2.2.2.1,f.2.1,f.2.2.2.2.1,f.2.2.2.2.2⟩
 self:=fun _ _ _ _ _ G h=>wpAny_pyIter_zip G.1 h
section
variable {X:Cx}
def vav (K:W.Frag) (ta:TA):TI:=fun σ H R=>ta σ H fun vs H1=>∃ a b,vs=[.ref a,.ref b]/\(∃ xs ys,SqL K H1 a xs/\SqL K H1 b ys)/\R (Itz K a b) H1
theorem yk4 {x1} {l m:Expr} {ta:TA} {p pos:Pos} (hg:Gl X "zip") (hm:X.mg "zip"=none) (ha:PA X [l,m] ta) (hs:starEach [l,m] X.env=[(false,eval l X.env),(false,eval m X.env)]:=by rfl) (hs2:starEach [m] X.env=[(false,eval m X.env)]:=by rfl) :
  PI X (.Tuple elts x1 tpos) (.Call (.Name "zip" p) [l,m] [] pos) (vav X.K ta):=by
 intro f s σ H R I h;refine Call_ (ē I hg hm (show bootBuiltins "zip"=some (.type "zip") by decide +kernel) (PyProof.Rows.callWith_type1 (thn (ha pos f s σ H _ I h) fun M c h'=>?_) (by rw [hs,hs2]) (by rw [hs2]; rfl)));obtain ⟨J,F,g,A,E⟩:=h';obtain ⟨a,b,e,⟨O,L,y,k⟩,q⟩:=E;subst e
 cases A with
 | cons r rr =>
  cases rr with
  | cons r' rr =>
   cases rr;cases r;cases r';obtain ⟨D,P,w,t⟩:=g.list y;obtain ⟨u,v,i,C⟩:=g.list k;refine call_zip_2 w.isList i.isList fun N t n j B G z x=>?_;refine wpAny_pyIter_zip t ?_;have o:Zap (c.heap.objs.size+4) (c.heap.objs.size+2) (c.heap.objs.size+3) c.heap.objs.size (c.heap.objs.size+1):=ymk _;refine ⟨c.heap.objs.size+4,[c.heap.objs.size+4,c.heap.objs.size+2,c.heap.objs.size+3,c.heap.objs.size,c.heap.objs.size+1],_,_,F,rfl,g.kept (t':=c.toks) x,yjv a b _ _ _ _ _ o,⟨t,n,⟨_,_,j⟩,B,G⟩,fun b d=>?_,q⟩
   have d:c.heap.objs.size <= b:=by
    simp only [bI,List.not_mem_nil,or_false] at d;rcases d with rfl | rfl | rfl | rfl | rfl <;> omega
   exact g.fpOk d (g.hok.fresh d)
theorem ywr {K:W.Frag} {ta:TA} {σ:St} {H:Hp} {R:It->Hp->Prop} (h:ta σ H fun vs H1=>∃ a b,vs=[.ref a,.ref b]/\(∃ xs ys,SqL K H1 a xs/\SqL K H1 b ys)/\R (Itz K a b) H1):vav K ta σ H R:=h
end
theorem ı {K:W.Frag} {a b D:Addr} {xs ys:List V} {g:TG} {te:TE} {n:Nat} {fr:St} {R:Hp->Prop} {H1:Hp} (f:Nat->V) (hq:SqL K H1 a xs) (hq':SqL K H1 b ys) (hl:ys.length=xs.length) (hD:H1 D=none)
  (hs:∀ i x y H t pre,xs[i]?=some x->ys[i]?=some y->yy H1 H->H D=some (.lst ((List.range i).map f))->H t=none->List.length pre=n->g (.ref t) (pre++fr) (upd H t (.tup [x,y])) fun σ' H'=>(∃ pre',List.length pre'=n/\σ'=pre'++fr)/\te σ' H' (MpK H1 D f xs.length i))
  (hd:∀ H,yy H1 H->H D=some (.lst ((List.range xs.length).map f))->R H):j8 (Itz K a b) g te n fr D R H1:=by
 refine ⟨cW xs.length (Mp H1 D f),⟨xs.length,by simp,bR _,Mp.zero hD⟩,?_⟩;rintro i m H ⟨rfl,o,p⟩;have q:=p.1.seq hq;have c:=p.1.seq hq';by_cases hlt:i < xs.length
 .refine .inr ⟨⟨xs,ys,xs[i],ys[i]'(by omega),q,c,by simp [hlt],by simp [hl,hlt]⟩,fun y H' pre h j=>?_⟩;obtain ⟨t,x,y,rfl,d,rfl,k,l⟩:=h;exact hs i x y H t pre (k xs q) (l ys c) p.1 p.2 d j
 .have e:i=xs.length:=by omega
  subst e;exact .inl ⟨⟨xs,ys,q,c,.inl (bA _)⟩,hd H p.1 p.2⟩
section
variable {X:Cx} {iter elt tg:Expr} {xs:List Str} {g:TG} {pos:Pos} {scope:Scope} {te:TE} {wi:TI} {ys:List Str} {js:List Nat}
theorem ykd {y:Str} {py spos:Pos} (hN:X.N.Nodup) (hy:X.N[i]?=some y) (hl:X.env.scope.names.lookup y=some .local) (hc:X.calm=true) (hi:PI X tg iter wi)
  (he:∀ (C:Addr) (s2:Shared) (H2:Hp) (fp:List Addr),PE (X.compT scope ys C xs s2 H2 fp) elt te) (hjs:js.map (fun j=>X.N[j]?)=ys.map some)
  (hgt:∀ (C:Addr) (s2:Shared) (H2:Hp) (fp:List Addr),PG (X.compT scope ys C xs s2 H2 fp) tg g)
  (hclos:closureFor scope X.env=pure (δ ys X.env)) (hyc:∀ y∈ys,X.env.kindOf y=some .cell) (hrel:∀ y∈ys,(relabel scope X.env).names.lookup y=some .cell)
  (hsw:swapsWith (.ListComp elt [⟨tg,iter,[],0⟩] scope pos) (some (.Name y py)) spos.line X.env=pure true:=by rfl)
  (hfr:∀ y∈scope.names,y.2=.free->y.1∈ys:=by decide +kernel) (hcell:∀ y∈scope.names,y.2≠.cell:=by decide +kernel) (hkind:scope.kind=.function:=by rfl)
  (hnames:∀ y∈scope.names,y.2=.local->scope.names.lookup y.1=some .local:=by decide +kernel) (hs:∀ x,foldedSetIterable iter X.env x=pure x:=by intro _; rfl) :
  PS X (.Assign [.Name y py] (.ListComp elt [⟨tg,iter,[],0⟩] scope pos) spos) (ysc (yid wi g te xs.length js) (w6 i)):=by
 refine .mk fun a s σ H k I h=>?_;rw [exec_Assign_Name_used _ _ _ _ hsw];refine bw (wpAny_standAt (bw ?_));show wpAny _ X.A (do let _ <- comprehension (.ListComp elt [⟨tg,iter,[],0⟩] scope pos) scope X.env _ (newList []) false (eval iter X.env) (some (assign (.Name y py) X.env))) _ _ s;refine bw (cR (wpAny_comprehension_free (use:=some (assign (.Name y py) X.env)) (Q:=fun _ d=>SP X a k .next d) rfl hs hclos hkind hnames (thn (hi a s σ H _ I h) fun v P G=>thn G fun F s2 M=>?_)) (fun _ d E=>bE (bE E)) fun _ _ e=>e);obtain ⟨W,fp,S,J,H2,e,B,T,u,L,h⟩:=M;subst e;refine É (R:=fun D n=>w6 i (.ref D) σ n k.nx) (RR:=compPost (model X.prog X.w) X.A X.xe (some (assign (.Name y py) X.env)) (fun _ d=>SP X a k .next d)) hc he hgt hcell hkind hfr hyc hrel hjs B T u L h ?_;intro D C n d m f O K q;refine wpAny_assign_Name (θ (v:=V.ref D) K hN hy (Or.inl hl) rfl (fun t r l=>?_) (Or.inr hl));refine ⟨m,?_,fun U p=>⟨_,n,?_,q⟩⟩
 .obtain ⟨b,p,c⟩:=l;refine O.sameBut p fun z=>?_;rcases c with c | c
  .exact f.2.1 (z.trans c)
  .exact f.2.2.2.2.1 y b c z.symm
 .exact r.turned (t':=t.toks) (fun b o c e=>p.extBut b o c e) f.1 f.2.1 f.2.2.2.1 f.2.2.2.2.1 f.2.2.2.2.2
end
section
variable {X:Cx}
def onI (f:Int->Int):V->V
 | .int i=>.int (f i)
 | v=>v
theorem ygu (f:Int->Int) (ns:List Int):(ns.map V.int).map (onI f)=(ns.map f).map V.int:=by
 rw [cg,cg];rfl
theorem yij {pre:List (Option V)} (h:List.length pre=2):∃ v1 v2,pre=[v1,v2]:=by
 match pre,h with
 | [v1,v2],_=>exact ⟨v1,v2,rfl⟩
end
theorem yt4 {to ti:TE} {t:yyh} {v:V} {σ:St} {H:Hp} {Q:St->Hp->Prop} (h:to σ H fun o H1=>ti σ H1 fun i H2=>t o i v H2 fun H3=>Q σ H3):vas to ti t v σ H Q:=h
section
variable {X:Cx}
def yxy:V->List V->Hp->VK->Prop:=fun x vs H Q=>∃ i:Int,x=.int i/\vs=[]/\Q (.int (Builtin.Int.intBits i:Nat)) H
theorem yn2:MtR X "int.bit_length" yxy:=by
 intro b s σ H x f v e Q I c d h;obtain ⟨i,rfl,rfl,q⟩:=h;obtain ⟨t,rfl⟩:=c;have a:=d.zero;subst a;exact PyProof.Rows.call_int_bit_length ⟨.int _,H,I.tok _,⟨_,rfl⟩,q⟩
theorem yv3 {K:W.Frag} {i:Int} {H:Hp} {Q:VK} (h:Q (.int (Builtin.Int.intBits i:Nat)) H):tyV K "int" (.int i) H/\yxy (.int i) [] H Q:=⟨rfl,i,rfl,rfl,h⟩
end
section
variable {prog:Program} {w:World} {A:Around} {E:Value->Shared->Prop} {s:Shared}
theorem yjh {z TI TO:Addr} {x y b:Value} {Q:Value->Shared->Prop} (D:ZipApart z TI TO i1 i2 l1 l2) (hz:IsZip s.heap z TI TO .none) (hTI:IsPair s.heap TI (.ref i1) (.ref i2)) (hTO:IsPair s.heap TO a b)
  (h1:s.heap.IsTupleIter i1 l1 k1) (h2:s.heap.IsTupleIter i2 l2 k2) (hl1:s.heap.IsTuple l1 xs) (hl2:s.heap.IsTuple l2 ys) (hx:xs[k1]?=some x) (hy:ys[k2]?=some y)
  (hQ:∀ h',IsZip h' z TI TO (rawInt s.heap.objs.size)->IsPair h' TO x y->h'.IsTupleIter i1 l1 (k1+1)->h'.IsTupleIter i2 l2 (k2+1)->IsPair h' s.heap.objs.size x y->h'.objs.size=s.heap.objs.size+1->(∀ c o,c≠z->c≠TO->c≠i1->c≠i2->s.heap.get? c=some o->h'.get? c=some o)->Q (.ref s.heap.objs.size) { s with heap:=h' }) :
  wpAny (model prog w) A (Builtin.«zip.__next__» ⟨[.ref z],[]⟩) (fun fin s'=>∃ v,fin=.done (.ret v)/\Q v s') E s:=by
 (show wpAny _ _ (field (.ref z) 2 >>= _) _ _ _); refine bw (cE hz rfl (x:=.bool false) rfl ?_)
 (show wpAny _ _ (field (.ref z) 3 >>= _) _ _ _); refine bw (cE hz rfl (x:=.ref TI) rfl ?_); refine bw (wpAny_seqItems hTI rfl ?_)
 (show wpAny _ _ (Builtin.SmallTypes.ownedTupleIsFree (.ref z) >>= _) _ _ _); refine bw ?_; unfold Builtin.SmallTypes.ownedTupleIsFree
 refine bw (cE hz rfl (x:=.none) rfl (bE ?_)); simp only [if_true]; refine bw (wpAny_rule ?_);refine bw (cE hz rfl (x:=.ref TO) rfl ?_); refine bw (wpAny_setField_rec hz (by simp) fun h₁ hz₁ hs₁=>?_)
 replace hz₁:IsZip h₁ z TI TO .ellipsis:=hz₁; refine bw ?_; simp only [List.zipIdx_cons,List.zipIdx_nil,List.forIn_cons,List.forIn_nil]
 refine bw (bw (wpAny_onRaise ?_)); (show wpAny _ _ (Builtin.SmallTypes.nextOf (.ref i1) >>= _) _ _ _);refine bw (jz (h1.at fun o e=>hs₁.extBut _ _ D.i1z e) (hl1.extBut hs₁.extBut D.l1z) hx fun h₂ h1₂ hs₂=>bE ?_);have hTO₂:IsPair h₂ TO a b:=hs₂.extBut _ _ D.TOi1 (hs₁.extBut _ _ D.TOz hTO); refine bw (wpAny_seqItems hTO₂ rfl ?_);refine bw (wpAny_updateSeq_pair hTO₂ fun h₃ hTO₃ hs₃=>?_); replace hTO₃:IsPair h₃ TO x b:=hTO₃; refine bw (wpAny_letGo (bE ?_));refine bw (bw (wpAny_onRaise ?_)); (show wpAny _ _ (Builtin.SmallTypes.nextOf (.ref i2) >>= _) _ _ _);refine bw (jz (h2.at fun o e=>hs₃.extBut _ _ D.TOi2.symm (hs₂.extBut _ _ D.i12.symm (hs₁.extBut _ _ D.i2z e))) (((hl2.extBut hs₁.extBut D.l2z).extBut hs₂.extBut D.l2i1).extBut hs₃.extBut D.l2TO) hy fun h₄ h2₄ hs₄=>bE ?_);have hTO₄:IsPair h₄ TO x b:=hs₄.extBut _ _ D.TOi2 hTO₃; refine bw (wpAny_seqItems hTO₄ rfl ?_);refine bw (wpAny_updateSeq_pair hTO₄ fun h₅ hTO₅ hs₅=>?_); replace hTO₅:IsPair h₅ TO x y:=hTO₅; refine bw (wpAny_letGo (bE (bE ?_)));refine bw (wpAny_seqItems hTO₅ rfl ?_); refine bw (wpAny_newTuple ?_);have i:h₅.objs.size=s.heap.objs.size:=by (rw [hs₅.1,hs₄.1,hs₃.1,hs₂.1,hs₁.1])
 have hz₅:IsZip h₅ z TI TO .ellipsis:=(hs₅.extBut _ _ D.TOz.symm (hs₄.extBut _ _ D.i2z.symm (hs₃.extBut _ _ D.TOz.symm (hs₂.extBut _ _ D.i1z.symm hz₁))));have hk₅:∀ c o,c≠z->c≠TO->c≠i1->c≠i2->s.heap.get? c=some o->h₅.get? c=some o:=fun c o f k m l e=>hs₅.extBut _ _ k (hs₄.extBut _ _ l (hs₃.extBut _ _ k (hs₂.extBut _ _ m (hs₁.extBut _ _ f e))));have h1₅:h₅.IsTupleIter i1 l1 (k1+1):=h1₂.at fun o e=>hs₅.extBut _ _ D.TOi1.symm (hs₄.extBut _ _ D.i12 (hs₃.extBut _ _ D.TOi1.symm e));have h2₅:h₅.IsTupleIter i2 l2 (k2+1):=h2₄.at fun o e=>hs₅.extBut _ _ D.TOi2.symm e;have d:z < h₅.objs.size:=(bF hz₅)
 (show wpAny _ _ (Builtin.SmallTypes.ownedTupleHandOut (.ref z) (.ref h₅.objs.size) >>= _) _ _ _); refine bw ?_; unfold Builtin.SmallTypes.ownedTupleHandOut
 have hz₆:IsZip (h₅.push { cls:=.type "tuple",data:=.seq #[x,y] }) z TI TO .ellipsis:=(bz _ hz₅);refine bw (wpAny_setField_rec hz₆ (by simp) fun h₇ hz₇ hs₇=>?_); replace hz₇:IsZip h₇ z TI TO (rawInt h₅.objs.size):=hz₇;refine wpAny_setField_rec hz₇ (by simp) fun h₈ hz₈ hs₈=>?_; replace hz₈:IsZip h₈ z TI TO (rawInt h₅.objs.size):=hz₈;have j:∀ c o,c≠z->h₅.get? c=some o->h₈.get? c=some o:=(fun c o f e=>hs₈.extBut _ _ f (hs₇.extBut _ _ f (bz _ e)));have hT₈:IsPair h₈ h₅.objs.size x y:=(hs₈.extBut _ _ (Nat.ne_of_gt d) (hs₇.extBut _ _ (Nat.ne_of_gt d) (bN _ rfl)));have g:h₈.objs.size=h₅.objs.size+1:=by (rw [hs₈.1,hs₇.1,Heap.size_push])
 (rw [i] at hz₈ hT₈ g); refine bE ⟨_,rfl,?_⟩; show Q (.ref h₅.objs.size) _; rw [i]
 exact hQ h₈ hz₈ (j _ _ D.TOz hTO₅) (h1₅.at fun o e=>j _ o D.i1z e) (h2₅.at fun o e=>j _ o D.i2z e) hT₈ g (fun c o f k m l e=>j c o f (hk₅ c o f k m l e))
theorem yng {z TI TO:Addr} {b:Value} {Q:Fin->Shared->Prop} (hh:A.handled=none) (D:ZipApart z TI TO i1 i2 l1 l2) (hz:IsZip s.heap z TI TO .none) (hTI:IsPair s.heap TI (.ref i1) (.ref i2)) (hTO:IsPair s.heap TO a b)
  (h1:s.heap.IsTupleIter i1 l1 k1) (h2:s.heap.IsTupleIter i2 l2 k2) (hl1:s.heap.IsTuple l1 xs) (hl2:s.heap.IsTuple l2 ys) (hend:xs[k1]?=none\/ys[k2]?=none)
  (hE:∀ h' e,(∀ c o,c≠z->c≠TO->c≠i1->c≠i2->s.heap.get? c=some o->h'.get? c=some o)->(∃ o,h'.get? e=some o/\o.cls=.type "StopIteration")->E (.ref e) { s with heap:=h' }):wpAny (model prog w) A (Builtin.«zip.__next__» ⟨[.ref z],[]⟩) Q E s:=by
 (show wpAny _ _ (field (.ref z) 2 >>= _) _ _ _); refine bw (cE hz rfl (x:=.bool false) rfl ?_)
 (show wpAny _ _ (field (.ref z) 3 >>= _) _ _ _); refine bw (cE hz rfl (x:=.ref TI) rfl ?_); refine bw (wpAny_seqItems hTI rfl ?_)
 (show wpAny _ _ (Builtin.SmallTypes.ownedTupleIsFree (.ref z) >>= _) _ _ _); refine bw ?_; unfold Builtin.SmallTypes.ownedTupleIsFree
 refine bw (cE hz rfl (x:=.none) rfl (bE ?_)); simp only [if_true]; refine bw (wpAny_rule ?_);refine bw (cE hz rfl (x:=.ref TO) rfl ?_); refine bw (wpAny_setField_rec hz (by simp) fun h₁ hz₁ hs₁=>?_)
 replace hz₁:IsZip h₁ z TI TO .ellipsis:=hz₁; refine bw ?_; simp only [List.zipIdx_cons,List.zipIdx_nil,List.forIn_cons,List.forIn_nil]
 refine bw (bw (wpAny_onRaise ?_)); (show wpAny _ _ (Builtin.SmallTypes.nextOf (.ref i1) >>= _) _ _ _)
 cases hx:xs[k1]? with
 | none =>
  refine bw (ô hh (h1.at fun o e=>hs₁.extBut _ _ D.i1z e) (hl1.extBut hs₁.extBut D.l1z) hx fun h₂ e hs₂ l=>?_);obtain ⟨j,d,f⟩:=l; have hz₂:IsZip h₂ z TI TO .ellipsis:=hs₂ _ _ D.i1z.symm hz₁;have g:e≠z:=(fun x=>by (subst x; rw [hz₂] at d; cases d; simp at f));exact wpAny_setField_rec hz₂ (by simp) fun h₃ _ hs₃=>hE h₃ e (fun c o i _ k _ x=>hs₃.extBut _ _ i (hs₂ _ _ k (hs₁.extBut _ _ i x))) ⟨j,hs₃.extBut _ _ g d,f⟩
 | some x =>
  have n:ys[k2]?=none:=by (rcases hend with h | h; (rw [hx] at h; cases h); exact h)
  refine bw (jz (h1.at fun o e=>hs₁.extBut _ _ D.i1z e) (hl1.extBut hs₁.extBut D.l1z) hx fun h₂ h1₂ hs₂=>bE ?_);have hTO₂:IsPair h₂ TO a b:=(hs₂.extBut _ _ D.TOi1 (hs₁.extBut _ _ D.TOz hTO)); refine bw (wpAny_seqItems hTO₂ rfl ?_);refine bw (wpAny_updateSeq_pair hTO₂ fun h₃ hTO₃ hs₃=>?_); refine bw (wpAny_letGo (bE ?_));refine bw (bw (wpAny_onRaise ?_)); (show wpAny _ _ (Builtin.SmallTypes.nextOf (.ref i2) >>= _) _ _ _);refine bw (ô hh (h2.at fun o e=>hs₃.extBut _ _ D.TOi2.symm (hs₂.extBut _ _ D.i12.symm (hs₁.extBut _ _ D.i2z e))) (((hl2.extBut hs₁.extBut D.l2z).extBut hs₂.extBut D.l2i1).extBut hs₃.extBut D.l2TO) n fun h₄ e hs₄ l=>?_);obtain ⟨j,d,f⟩:=l; have hz₄:IsZip h₄ z TI TO .ellipsis:=hs₄ _ _ D.i2z.symm (hs₃.extBut _ _ D.TOz.symm (hs₂.extBut _ _ D.i1z.symm hz₁));have g:e≠z:=(fun x=>by (subst x; rw [hz₄] at d; cases d; simp at f));exact wpAny_setField_rec hz₄ (by simp) fun h₅ _ hs₅=>hE h₅ e (fun c o i p k m x=>hs₅.extBut _ _ i (hs₄ _ _ m (hs₃.extBut _ _ p (hs₂.extBut _ _ k (hs₁.extBut _ _ i x))))) ⟨j,hs₅.extBut _ _ g d,f⟩
theorem yjb {z TI TO:Addr} {x y b:Value} {Q:Option Value->Shared->Prop} (D:ZipApart z TI TO i1 i2 l1 l2) (hz:IsZip s.heap z TI TO .none) (hTI:IsPair s.heap TI (.ref i1) (.ref i2)) (hTO:IsPair s.heap TO a b)
  (h1:s.heap.IsTupleIter i1 l1 k1) (h2:s.heap.IsTupleIter i2 l2 k2) (hl1:s.heap.IsTuple l1 xs) (hl2:s.heap.IsTuple l2 ys) (hx:xs[k1]?=some x) (hy:ys[k2]?=some y)
  (hQ:∀ h',IsZip h' z TI TO (rawInt s.heap.objs.size)->IsPair h' TO x y->h'.IsTupleIter i1 l1 (k1+1)->h'.IsTupleIter i2 l2 (k2+1)->IsPair h' s.heap.objs.size x y->h'.objs.size=s.heap.objs.size+1->(∀ c o,c≠z->c≠TO->c≠i1->c≠i2->s.heap.get? c=some o->h'.get? c=some o)->Q (some (.ref s.heap.objs.size)) { s with heap:=h' }) :
  wpAny (model prog w) A (pyNext (.ref z)) Q E s:=by
 have d:s.TypeIs (.ref z) "zip":=(⟨_,hz,rfl⟩); unfold pyNext;exact bw (wpAny_attempt (wpAny_callSpecial?_slot (name:=Str.ofString "__next__") d F.slot_zip_next (wpAny_call_entry F.slot_zip_next d F.entry_zip_next
   (yjh D hz hTI hTO h1 h2 hl1 hl2 hx hy fun h' k j i g e h f=>bE (hQ h' k j i g e h f)) (F.args_zip_next_1 _))))
theorem yjm {z TI TO:Addr} {b:Value} {Q:Option Value->Shared->Prop} (hh:A.handled=none) (D:ZipApart z TI TO i1 i2 l1 l2) (hz:IsZip s.heap z TI TO .none) (hTI:IsPair s.heap TI (.ref i1) (.ref i2)) (hTO:IsPair s.heap TO a b)
  (h1:s.heap.IsTupleIter i1 l1 k1) (h2:s.heap.IsTupleIter i2 l2 k2) (hl1:s.heap.IsTuple l1 xs) (hl2:s.heap.IsTuple l2 ys) (hend:xs[k1]?=none\/ys[k2]?=none)
  (hQ:∀ h',(∀ c o,c≠z->c≠TO->c≠i1->c≠i2->s.heap.get? c=some o->h'.get? c=some o)->Q none { s with heap:=h' }):wpAny (model prog w) A (pyNext (.ref z)) Q E s:=by
 have d:s.TypeIs (.ref z) "zip":=(⟨_,hz,rfl⟩); unfold pyNext;refine bw (wpAny_attempt (wpAny_callSpecial?_slot (name:=Str.ofString "__next__") d F.slot_zip_next (wpAny_call_entry F.slot_zip_next d F.entry_zip_next
  (yng hh D hz hTI hTO h1 h2 hl1 hl2 hend fun h' e f h=>?_) (F.args_zip_next_1 _))))
 obtain ⟨o,g,i⟩:=h; refine bw (wpAny_isInstance (T:="StopIteration") (b:=true) ⟨o,g,i⟩ isSubtype_stop ?_);exact bE (hQ _ f)
end
abbrev zT1 (h:Heap) (l1:Addr):Heap:=h.push { cls:=.type "tuple_iterator",data:=.fields #[.ref l1,.int 0 0] }
abbrev zT2 (h:Heap) (l1 l2:Addr):Heap:=(zT1 h l1).push { cls:=.type "tuple_iterator",data:=.fields #[.ref l2,.int 0 0] }
abbrev zT3 (h:Heap) (l1 l2:Addr):Heap:=(zT2 h l1 l2).push { cls:=.type "tuple",data:=.seq #[.ref h.objs.size,.ref (zT1 h l1).objs.size] }
abbrev zT4 (h:Heap) (l1 l2:Addr):Heap:=(zT3 h l1 l2).push { cls:=.type "tuple",data:=.seq #[.none,.none] }
abbrev zT5 (h:Heap) (l1 l2:Addr):Heap:=(zT4 h l1 l2).push { cls:=.type "zip",data:=.fields #[.none,.bool false,.bool false,.ref (zT2 h l1 l2).objs.size,.ref (zT3 h l1 l2).objs.size] }
theorem ypc (l1 l2:Addr) (xs ys:Array Value):Meets (Builtin.«zip.__new__» ⟨[.type "zip",.ref l1,.ref l2],[]⟩) (fun _ R s=>s.heap.IsTuple l1 xs/\s.heap.IsTuple l2 ys/\R (.ok (.ret (.ref (zT4 s.heap l1 l2).objs.size))) { s with heap:=zT5 s.heap l1 l2 }) :=
 .of_wp fun f w A R s h=>by
  obtain ⟨j,g,d,i,k⟩:=s;obtain ⟨a,b,h⟩:=h;have l:=sub_zip;have e:Heap.IsTuple (Shared.heap ⟨j,g,d,i,k⟩) l1 xs:=a;have c:Heap.IsTuple (Shared.heap ⟨j.push { cls:=.type "tuple_iterator",data:=.fields #[.ref l1,.int 0 0] },g,d,i,k⟩) l2 ys:=Heap.IsTuple.push b _
  wp_walk using wpAny_pyIter_tuple e,wpAny_pyIter_tuple c
  exact ⟨_,rfl,h⟩
section
variable {prog:Program} {w:World} {A:Around} {E:Value->Shared->Prop} {s:Shared}
theorem yjp {Q:Value->Shared->Prop} (hl1:s.heap.IsTuple l1 xs) (hl2:s.heap.IsTuple l2 ys)
  (h:∀ h',IsZip h' (s.heap.objs.size+4) (s.heap.objs.size+2) (s.heap.objs.size+3) .none->IsPair h' (s.heap.objs.size+2) (.ref s.heap.objs.size) (.ref (s.heap.objs.size+1))->IsPair h' (s.heap.objs.size+3) .none .none->h'.IsTupleIter s.heap.objs.size l1 0->h'.IsTupleIter (s.heap.objs.size+1) l2 0 ->
   (∀ c o,s.heap.get? c=some o->h'.get? c=some o)->Q (.ref (s.heap.objs.size+4)) { s with heap:=h' }):wpAny (model prog w) A (call (.type "zip") [.ref l1,.ref l2]) Q E s:=by
 refine callType_new F.called_zip (by decide) (F.typeCall_zip_2 _ _) (F.newCall_zip_2 _ _) (fun e=>F.args_object_init_3 e _ _) F.entry_zip_new (ypc l1 l2 xs ys) ⟨hl1,hl2,?_⟩;have d:(zT1 s.heap l1).objs.size=s.heap.objs.size+1:=Heap.size_push ..;have a:(zT2 s.heap l1 l2).objs.size=s.heap.objs.size+2:=by rw [Heap.size_push,d]
 have b:(zT3 s.heap l1 l2).objs.size=s.heap.objs.size+3:=by rw [Heap.size_push,a]
 have f:(zT4 s.heap l1 l2).objs.size=s.heap.objs.size+4:=by rw [Heap.size_push,b]
 have g5:(zT5 s.heap l1 l2).get? (zT4 s.heap l1 l2).objs.size=some _:=bN _ rfl;have g4:(zT5 s.heap l1 l2).get? (zT3 s.heap l1 l2).objs.size=some _:=bz _ (bN _ rfl);have g3:(zT5 s.heap l1 l2).get? (zT2 s.heap l1 l2).objs.size=some _:=bz _ (bz _ (bN _ rfl));have g2:(zT5 s.heap l1 l2).get? (zT1 s.heap l1).objs.size=some _:=bz _ (bz _ (bz _ (bN _ rfl)));have g1:(zT5 s.heap l1 l2).get? s.heap.objs.size=some _:=(bz _ (bz _ (bz _ (bz _ (bN _ rfl)))));show _/\_;rw [a,b,f] at g5;rw [d,a] at g3;rw [b] at g4;rw [d] at g2;rw [f];exact ⟨⟨_,g5,rfl⟩,h _ g5 g3 g4 ⟨_,g1,rfl,rfl⟩ ⟨_,g2,rfl,rfl⟩ fun c o x=>(bz _ (bz _ (bz _ (bz _ (bz _ x)))))⟩
end
def yx6 (K:W.Frag) (a b:Addr):It :=
 ⟨fun i H=>∃ xs ys x y,SqT K H a xs/\SqT K H b ys/\xs[i]?=some x/\ys[i]?=some y,
  fun i H v H'=>∃ t x y,v=.ref t/\H t=none/\H'=upd H t (.tup [x,y])/\(∀ xs,SqT K H a xs->xs[i]?=some x)/\(∀ ys,SqT K H b ys->ys[i]?=some y),
  fun i H=>∃ xs ys,SqT K H a xs/\SqT K H b ys/\(xs.length <= i\/ys.length <= i)⟩
def vau (z TI TO i1 i2 l1 l2:Addr) (i:Nat) (h:Heap):Prop:=IsZip h z TI TO .none/\IsPair h TI (.ref i1) (.ref i2)/\(∃ a b,IsPair h TO a b)/\h.IsTupleIter i1 l1 i/\h.IsTupleIter i2 l2 i
theorem Zap.apartT {X:Cx} {H:Hp} {s:Shared} {z TI TO:Addr} {xs ys:List Value} {us vs:List V} (d:Zap z TI TO i1 i2) (st:vau z TI TO i1 i2 l1 l2 i s.heap) (p:s.heap.IsTuple l1 xs.toArray) (q:s.heap.IsTuple l2 ys.toArray) (hn:H TO=none) (hK:X.K.lookup TO=none)
  (hq:SqT X.K H l1 us) (hq':SqT X.K H l2 vs):ZipApart z TI TO i1 i2 l1 l2:=by
 obtain ⟨k,w,⟨a,b,v⟩,⟨B,n,t,_⟩,⟨y,r,u,_⟩⟩:=st;obtain ⟨x,e,g,_⟩:=p;obtain ⟨A,j,f,_⟩:=q
 have c:∀ {l:Addr} {m:List V},SqT X.K H l m->l≠TO:=fun {l m} h=>by
  rintro rfl;rcases h with (h | ⟨o,h⟩) | ⟨_,_,_,h,_⟩
  .rw [hn] at h; cases h
  .rw [hn] at h; cases h
  .rw [hK] at h; cases h
 exact ⟨d.a1,d.a2,d.a3,d.a4,d.a5,d.a6,d.a7,d.a8,d.a9,d.b1,
  uu e k (by rw [g]; exact nT (by decide)),c hq,uu e n (by rw [g,t]; decide),uu e r (by rw [g,u]; decide),
  uu j k (by rw [f]; exact nT (by decide)),c hq',uu j n (by rw [f,t]; decide),uu j r (by rw [f,u]; decide)⟩
theorem ygm {P:Program} {w:World} {K:W.Frag} {x1} (l1 l2 z TI TO i1 i2:Addr) (d:Zap z TI TO i1 i2) (hKT:K.lookup TO=none) :
  yi6 P w K (.Tuple elts x1 tpos) (yx6 K l1 l2) [z,TI,TO,i1,i2] z (vau z TI TO i1 i2 l1 l2) where
 mem:=by simp
 obj:=fun i h J b g=>by
  obtain ⟨R,j,⟨_,_,l⟩,⟨o1,e1,_,d1⟩,⟨o2,e2,_,d2⟩⟩:=J;simp only [bI,List.not_mem_nil,or_false] at g;rcases g with rfl | rfl | rfl | rfl | rfl
  .exact ⟨_,R,fun v z=>by cases z⟩
  .exact ⟨_,j,fun v z=>by cases z⟩
  .exact ⟨_,l,fun v z=>by cases z⟩
  .exact ⟨o1,e1,fun v z=>by rw [d1] at z; cases z⟩
  .exact ⟨o2,e2,fun v z=>by rw [d2] at z; cases z⟩
 keep:=fun i h h' J k=>by
  obtain ⟨R,j,⟨a,b,l⟩,h1,h2⟩:=J;exact ⟨k z (by simp) _ R,k TI (by simp) _ j,⟨a,b,k TO (by simp) _ l⟩,h1.at fun o e=>k i1 (by simp) o e,h2.at fun o e=>k i2 (by simp) o e⟩
 item:=by
  intro X hP hw hK hc i Q s σ H E I C J hg;subst hP hw hK;obtain ⟨xs,ys,x,y,O,G,t,hy⟩:=hg;obtain ⟨Y,rv,p0,ab⟩:=I.tuple O;obtain ⟨L,S,U,a0⟩:=I.tuple G;have p:s.heap.IsTuple l1 Y.toArray:=p0;have p':s.heap.IsTuple l2 L.toArray:=U;obtain ⟨u,hu,ru⟩:=rv.get t;obtain ⟨u',a9,aa⟩:=S.get hy;have D:=d.apartT J p p' (C TO (by simp)).1 hKT O G;obtain ⟨R,j,⟨va,vb,l⟩,M,N⟩:=J;refine yjb D R j l M N p p' (x:=u) (y:=u') (by simpa using hu) (by simpa using a9) fun h' a1 a2 a3 a4 a5 a6 hk=>?_;refine ⟨_,rfl,wpAny_letOwnedTupleGo_zip a1 fun r a8 m=>?_⟩;have F:H s.heap.objs.size=none:=I.hok.fresh (bA _);have lz:z < s.heap.objs.size:=bF R;have lo:TO < s.heap.objs.size:=bF l;have lI:TI < s.heap.objs.size:=bF j;have ae:i1 < s.heap.objs.size:=by obtain ⟨o,e,_⟩:=id M; exact bF e
  have ad:i2 < s.heap.objs.size:=by obtain ⟨o,e,_⟩:=id N; exact bF e
  have keep:∀ b o,b≠z->b≠TO->b≠i1->b≠i2->s.heap.get? b=some o->r.get? b=some o:=fun b o n1 n2 n3 n4 e=>(m.2 b n1).trans (hk b o n1 n2 n3 n4 e);have a7:r.get? s.heap.objs.size=some { cls:=.type "tuple",data:=.seq #[u,u'] }:=(m.2 _ (Nat.ne_of_gt lz)).trans a5;have nt:∀ {b v},H b=some v->b≠z/\b≠TO/\b≠i1/\b≠i2:=fun {b v} e=>⟨yd e (C z (by simp)).1,yd e (C TO (by simp)).1,yd e (C i1 (by simp)).1,yd e (C i2 (by simp)).1⟩
  have T:HOk X.prog X.w (upd H s.heap.objs.size (.tup [x,y])) r:=fun b o e=>by
   by_cases g:b=s.heap.objs.size
   .subst g;rw [yc] at e;cases e;exact ⟨by show 2 <= sizeLine; decide,[u,u'],.cons ru (.cons aa .nil),⟨_,a7,rfl,_,rfl⟩⟩
   .rw [yq g] at e;refine (I.hok b o e).stay (fun c v B q=>?_) (fun c q=>by rw [yq (yd q F)]; exact q) fun c ys q=>by rw [yq (yd q F)]; exact q
    obtain ⟨n1,n2,n3,n4⟩:c≠z/\c≠TO/\c≠i1/\c≠i2:=by
     rcases B with rfl | B
     .exact nt e
     .exact nt B
    exact keep c v n1 n2 n3 n4 q
  have un:Un (frs X.stack) [z,TI,TO,i1,i2] H (upd H s.heap.objs.size (.tup [x,y])) s.heap r:=by
   have Z:∀ {b o},b∉[z,TI,TO,i1,i2]->s.heap.get? b=some o->r.get? b=some o:=fun {b o} g e=>keep b o (fun q=>g (by simp [q])) (fun q=>g (by simp [q])) (fun q=>g (by simp [q])) (fun q=>g (by simp [q])) e
   refine ⟨fun b o e n _ t=>Z t e,fun b o e n _ t=>⟨o.slots,Z t e⟩,fun b o e n _=>by rw [yq (bU (bF e))]; exact n,fun b o e t=>⟨o,Z t e⟩,
    fun b ys e=>by rw [yq (yd e F)]; exact e,fun b o v e=>by rw [yq (yd e F)]; exact e,fun b ps e=>⟨#[],by rw [yq (yd e F),e]; simp⟩⟩
  have I1:Inv X Q σ (upd H s.heap.objs.size (.tup [x,y])) { s with heap:=r }:=I.call' (s':={ s with heap:=r }) rfl un T I.bare fun b g=>by
   have f:=C b g;exact ⟨f.2.2.2.1,f.2.1,f.2.2.2.2.1,f.2.2.2.2.2⟩
  refine ⟨.ref s.heap.objs.size,_,I1,rfl,⟨_,x,y,rfl,F,rfl,fun zs h=>by rw [I.tuple_inj h O]; exact t,fun zs h=>by rw [I.tuple_inj h G]; exact hy⟩,?_,fun b g=>?_⟩
  .exact ⟨a8,keep _ _ D.TIz D.TITO D.TIi1 D.TIi2 j,⟨u,u',(m.2 _ D.TOz).trans a2⟩,a3.at fun o e=>(m.2 _ D.i1z).trans e,a4.at fun o e=>(m.2 _ D.i2z).trans e⟩
  .rw [yq (fun q=>?_)]
   .exact (C b g).1
   .have O:b < s.heap.objs.size:=by
     simp only [bI,List.not_mem_nil,or_false] at g;rcases g with rfl | rfl | rfl | rfl | rfl <;> assumption
    exact absurd q (bU O)
 done:=by
  intro X hP hw hK hc i Q s σ H E I C J hg;subst hP hw hK;obtain ⟨xs,ys,O,G,t⟩:=hg;obtain ⟨Y,rv,p0,ab⟩:=I.tuple O;obtain ⟨L,S,U,a0⟩:=I.tuple G;have p:s.heap.IsTuple l1 Y.toArray:=p0;have p':s.heap.IsTuple l2 L.toArray:=U;have D:=d.apartT J p p' (C TO (by simp)).1 hKT O G;obtain ⟨R,j,⟨va,vb,l⟩,M,N⟩:=J;have hl:=rv.length;have ac:=S.length;refine yjm (show X.A.handled=none from I.ok.hd hc) D R j l M N p p' (by simp; omega) fun h' hk=>⟨rfl,?_⟩;have nt:∀ {b v},H b=some v->b≠z/\b≠TO/\b≠i1/\b≠i2:=fun {b v} e=>⟨yd e (C z (by simp)).1,yd e (C TO (by simp)).1,yd e (C i1 (by simp)).1,yd e (C i2 (by simp)).1⟩
  have T:HOk X.prog X.w H h':=fun b o e=>by
   refine (I.hok b o e).stay (fun c v B q=>?_) (fun c q=>q) fun c ys q=>q
   obtain ⟨n1,n2,n3,n4⟩:c≠z/\c≠TO/\c≠i1/\c≠i2:=by
    rcases B with rfl | B
    .exact nt e
    .exact nt B
   exact hk c v n1 n2 n3 n4 q
  have un:Un (frs X.stack) [z,TI,TO,i1,i2] H H s.heap h':=by
   have Z:∀ {b o},b∉[z,TI,TO,i1,i2]->s.heap.get? b=some o->h'.get? b=some o:=fun {b o} g e=>hk b o (fun q=>g (by simp [q])) (fun q=>g (by simp [q])) (fun q=>g (by simp [q])) (fun q=>g (by simp [q])) e;exact ⟨fun b o e n _ t=>Z t e,fun b o e n _ t=>⟨o.slots,Z t e⟩,fun b o e n _=>n,fun b o e t=>⟨o,Z t e⟩,fun b ys e=>e,fun b o v e=>e,fun b ps e=>⟨#[],by rw [e]; simp⟩⟩
  exact I.call' (s':={ s with heap:=h' }) rfl un T I.bare fun b g=>by
   have f:=C b g;exact ⟨f.2.2.2.1,f.2.1,f.2.2.2.2.1,f.2.2.2.2.2⟩
 self:=fun _ _ _ _ _ J h=>wpAny_pyIter_zip J.1 h
section
variable {X:Cx}
def yxw (K:W.Frag) (ta:TA):TI:=fun σ H R=>ta σ H fun vs H1=>∃ a b,vs=[.ref a,.ref b]/\(∃ xs ys,SqT K H1 a xs/\SqT K H1 b ys)/\R (yx6 K a b) H1
theorem yoi {x1} {l m:Expr} {ta:TA} {p pos:Pos} (hg:Gl X "zip") (hm:X.mg "zip"=none) (ha:PA X [l,m] ta) (hs:starEach [l,m] X.env=[(false,eval l X.env),(false,eval m X.env)]:=by rfl) (hs2:starEach [m] X.env=[(false,eval m X.env)]:=by rfl) :
  PI X (.Tuple elts x1 tpos) (.Call (.Name "zip" p) [l,m] [] pos) (yxw X.K ta):=by
 intro i s σ H R I h;refine Call_ (ē I hg hm (show bootBuiltins "zip"=some (.type "zip") by decide +kernel) (PyProof.Rows.callWith_type1 (thn (ha pos i s σ H _ I h) fun N c h'=>?_) (by rw [hs,hs2]) (by rw [hs2]; rfl)));obtain ⟨L,G,d,C,F⟩:=h';obtain ⟨a,b,e,⟨P,M,B,n⟩,q⟩:=F;subst e
 cases C with
 | cons r rr =>
  cases rr with
  | cons r' rr =>
   cases rr;cases r;cases r';obtain ⟨w,Q,z,x⟩:=d.tuple B;obtain ⟨g,y,j,E⟩:=d.tuple n;refine yjp (show c.heap.IsTuple a w.toArray from z) (show c.heap.IsTuple b g.toArray from j) fun O x t k D J A=>?_;refine wpAny_pyIter_zip x ?_
   have u:X.K.lookup (c.heap.objs.size+3)=none:=by
    cases hl:X.K.lookup (c.heap.objs.size+3) with
    | none=>rfl
    | some o=>exact absurd (bF (d.kIn _ o hl)) (Nat.not_lt.mpr (Nat.le_add_right _ _))
   have v:Zap (c.heap.objs.size+4) (c.heap.objs.size+2) (c.heap.objs.size+3) c.heap.objs.size (c.heap.objs.size+1):=ymk _;refine ⟨c.heap.objs.size+4,[c.heap.objs.size+4,c.heap.objs.size+2,c.heap.objs.size+3,c.heap.objs.size,c.heap.objs.size+1],_,_,G,rfl,d.kept (t':=c.toks) A,ygm a b _ _ _ _ _ v u,⟨x,t,⟨_,_,k⟩,D,J⟩,fun b f=>?_,q⟩
   have f:c.heap.objs.size <= b:=by
    simp only [bI,List.not_mem_nil,or_false] at f;rcases f with rfl | rfl | rfl | rfl | rfl <;> omega
   exact d.fpOk f (d.hok.fresh f)
theorem yn6 {K:W.Frag} {ta:TA} {σ:St} {H:Hp} {R:It->Hp->Prop} (h:ta σ H fun vs H1=>∃ a b,vs=[.ref a,.ref b]/\(∃ xs ys,SqT K H1 a xs/\SqT K H1 b ys)/\R (yx6 K a b) H1):yxw K ta σ H R:=h
end
theorem ybq {K:W.Frag} {a b D:Addr} {xs ys:List V} {g:TG} {te:TE} {n m:Nat} {fr:St} {R:Hp->Prop} {H1:Hp} (f:Nat->V) (hq:SqT K H1 a xs) (hq':SqT K H1 b ys) (h1:m <= xs.length) (h2:m <= ys.length) (h3:xs.length <= m\/ys.length <= m) (hD:H1 D=none)
  (hs:∀ i x y H t pre,i < m->xs[i]?=some x->ys[i]?=some y->yy H1 H->H D=some (.lst ((List.range i).map f))->H t=none->List.length pre=n->g (.ref t) (pre++fr) (upd H t (.tup [x,y])) fun σ' H'=>(∃ pre',List.length pre'=n/\σ'=pre'++fr)/\te σ' H' (MpK H1 D f m i))
  (hd:∀ H,yy H1 H->H D=some (.lst ((List.range m).map f))->R H):j8 (yx6 K a b) g te n fr D R H1:=by
 refine ⟨cW m (Mp H1 D f),⟨m,by simp,bR _,Mp.zero hD⟩,?_⟩;rintro i j H ⟨rfl,r,p⟩;have q:=p.1.tup hq;have c:=p.1.tup hq';by_cases hlt:i < m
 .refine .inr ⟨⟨xs,ys,xs[i]'(by omega),ys[i]'(by omega),q,c,bx _,bx _⟩,fun y H' pre h k=>?_⟩;obtain ⟨t,x,y,rfl,d,rfl,l,o⟩:=h;exact hs i x y H t pre hlt (l xs q) (o ys c) p.1 p.2 d k
 .have e:i=m:=by omega
  subst e;exact .inl ⟨⟨xs,ys,q,c,h3⟩,hd H p.1 p.2⟩
end L2
namespace L2
open PySem PySem.Spec PyProof.Rows HT
section
variable {prog:Program} {w:World} {A:Around} {E:Value->Shared->Prop} {s:Shared}
theorem yb9 {t sl:Addr} {items:Array Value} {vl vu:Value} {lo hi:Option Int} {Q:Value->Shared->Prop} (ht:IsTup s.heap t items) (hs:s.heap.IsSliceOf sl vl vu .none) (pl:IsPart vl lo) (pu:IsPart vu hi)
  (hw:sIx items.size 0 lo=0/\sIx items.size items.size hi=items.size) (h:Q (.ref t) s):wpAny (model prog w) A (getItem (.ref t) (.ref sl)) Q E s:=by
 obtain ⟨f,d,b,e⟩:=id hs;have c:s.TypeIs (.ref sl) "slice":=⟨f,d,b⟩;unfold getItem
 try with_reducible refine wpAny_holding ?_
 first | refine bw (bE ?_) | skip
 refine bw (wpAny_sequenceKey ht.typeIs (by decide) ?_);refine bw (wpAny_callSpecial?_slot (name:=Str.ofString "__getitem__") ht.typeIs PyProof.Rows.slot_tuple_getitem
  (wpAny_call_entry PyProof.Rows.slot_tuple_getitem ht.typeIs entry_tuple_getitem ?_ (args_tuple_getitem _ _)))
 show wpAny _ _ (Builtin.Tuple.tupleItemsOf (.ref t) >>= _) _ _ s;refine bw (tupleItemsOf_ ht ?_);refine bw (wpAny_typeOf c ?_);rw [if_pos (by decide)];refine bw (zr hs pl pu ?_)
 have a:(((sIx items.size 0 lo:Nat):Int) == 0 && (1:Int) == 1 && (sIx items.size items.size hi - sIx items.size 0 lo) == items.size)=true:=by
  rw [hw.1,hw.2];simp
 show wpAny _ _ (if (((sIx items.size 0 lo:Nat):Int) == 0 && (1:Int) == 1 && (sIx items.size items.size hi - sIx items.size 0 lo) == items.size)=true then _ else _) _ _ s;rw [if_pos a];refine bw (m:=Builtin.Tuple.tupleIsExact _) ?_;unfold Builtin.Tuple.tupleIsExact;refine bw (wpAny_typeOf ht.typeIs (bE ?_));show wpAny _ _ (if (Value.type "tuple" == Value.type "tuple")=true then _ else _) _ _ s;rw [if_pos (by decide)]
 first
  | exact bw (wpAny_rule (bE ⟨_,rfl,bE h⟩))
  | exact bw (wpAny_rule (bw (bE (bE ⟨_,rfl,bE h⟩))))
  | exact bw (bw (wpAny_rule (bE (bE ⟨_,rfl,bE h⟩))))
end
section
variable {X:Cx}
def yyj (K:W.Frag):V->Option Int->Option Int->Hp->VK->Prop:=fun x lo hi H Q=>∃ a xs,x=.ref a/\SqT K H a xs/\(HT.sIx xs.length 0 lo=0/\HT.sIx xs.length xs.length hi=xs.length)/\Q (.ref a) H
theorem yos:SlR X (yyj X.K):=by
 intro e s σ H x v u n lo t p Q I g j f k h;obtain ⟨a,m,rfl,l,i,q⟩:=h;cases g;obtain ⟨c,r,d,o⟩:=I.tuple l;have b:c.toArray.size=m.length:=by rw [bH]; exact r.length.symm
 exact ⟨"tuple",_,PyProof.Rows.slot_tuple_getitem.lookup,d.typeIs,yb9 d j f k (by rw [b]; exact i) ⟨.ref a,H,I,rfl,q⟩⟩
end
end L2
namespace L2
open PySem PySem.Spec PyProof.Rows PySem.SeqAt
open AutoSeq1 (wpAny_loadPart')
end L2
namespace L2
open PySem PySem.Spec PyProof.Rows
variable {C D:Addr} {tg:Expr} {fd:FuncData} {i j:Nat} {P:Program} {p0 p1 p2 qual:Str}
theorem yhc {X:Cx} {K:W.Frag} {e:Expr} {f:Str} {pos:Pos} {ta:TE} (hK:X.K=K) (he:PE X e ta) (hb:attributeBase e f X.env (eval e X.env)=eval e X.env):PE X (.Attribute e f pos) (yz4 K ta f):=hK ▸ yp he hb
def ŧ (J:It) (tc:TT) (te:TE) (fr:St) (D:Addr) (R:Hp->Prop) (H1:Hp):Prop:=∃ W:Nat->Nat->Hp->Prop,(∃ m,W 0 m (upd H1 D (.lst []))) /\
 ∀ i m H2,W i m H2->(J.stop i H2/\R H2)\/(J.go i H2/\∀ x H3,J.yld i H2 x H3->tc (some x :: fr) H3 fun b H4=>if b=true then te (some x :: fr) H4 (fun y H5=>∃ ys,H5 D=some (.lst ys)/\ys.length < sizeLine/\∃ m',m' < m/\W (i+1) m' (upd H5 D (.lst (ys++[y])))) else ∃ m',m' < m/\W (i+1) m' H4)
def ymz (wi:TI) (tc:TT) (te:TE) (js:List Nat):TE:=fun σ H Q=>wi σ H fun J H1=>∀ D,H1 D=none->ŧ J tc te (w9 js σ) D (fun H2=>Q (.ref D) H2) H1
section
variable {X:Cx} {iter elt cnd:Expr} {tc:TT} {x:Str} {px pos:Pos} {scope:Scope} {te:TE} {wi:TI} {pins:List (Addr × Obj)} {σ:St} {ys:List Str} {js:List Nat}
theorem yfd {s2:Shared} {H2:Hp} {it:Addr} {fp:List Addr} {tn:Nat->Heap->Prop} {J:It} (hc:X.calm=true)
  (ht:∀ (C:Addr) (s2:Shared) (H2:Hp) (fp:List Addr),PT (X.compF scope ys C x s2 H2 fp) cnd tc) (he:∀ (C:Addr) (s2:Shared) (H2:Hp) (fp:List Addr),PE (X.compF scope ys C x s2 H2 fp) elt te)
  (hcell:∀ y∈scope.names,y.2≠.cell) (hkind:scope.kind=.function) (hx:scope.names.lookup x=some .local) (hnd:(x :: ys).Nodup)
  (hfr:∀ y∈scope.names,y.2=.free->y.1∈ys) (hyc:∀ y∈ys,X.env.kindOf y=some .cell) (hrel:∀ y∈ys,(relabel scope X.env).names.lookup y=some .cell) (hjs:js.map (fun j=>X.N[j]?)=ys.map some)
  (I2:Inv X pins σ H2 s2) (T:yi6 X.prog X.w X.K (.Name x px) J fp it tn) (st2:tn 0 s2.heap) (f2:∀ b∈fp,ycp X pins H2 b)
  {R:Addr->Hp->Prop} (h:∀ D,H2 D=none->ŧ J tc te (w9 js σ) D (R D) H2) {RR:Value->Addr->Result->Shared->Prop} {E:Value->Shared->Prop}
  (hR:∀ (D C:Addr) (H':Hp) (s':Shared) (m:Str->Option Value),ycp X pins H' C->s'.heap.Ns C m->Inv X pins σ H' s'->R D H'->RR (.ref D) C (.ok .next) s') :
  wpAny (model X.prog X.w) X.A (newList []) (fun acc s₃=>wpAny (model X.prog X.w) X.A (newFunctionEnv scope X.env.globals (δ ys X.env) [] X.env.qual none .none (some X.env)) (fun cenv s₄ =>
   codeAny (model X.prog X.w) X.A (.compStart (.ListComp elt [⟨.Name x px,iter,[cnd],0⟩] scope pos) 0 (.ref it) acc { cenv with scope:=relabel scope X.env }) (RR acc cenv.locals) s₄) E s₃) E s2:=by
 have g:∀ y c,(δ ys X.env).lookup y=some c->X.env.cells.lookup y=some c:=fun y c e=>by
  obtain ⟨m,rfl⟩:=Ţ e;obtain ⟨c',q⟩:=I2.ok.has y (.inl (hyc y m));rw [q];rfl
 refine wpAny_newObj_type (wpAny_newFunctionEnv hcell (by intro y hy; simp at hy) (fun h₁ hns₁ hsb₁=>?_) hkind);dsimp only at hns₁ hsb₁ ⊢;generalize P:s2.heap.push { cls:=.type "list",dict:=none,data:=.seq ([]:List Value).toArray }=G at hns₁ hsb₁ ⊢;have hC:G.objs.size=s2.heap.objs.size+1:=by rw [<- P,Heap.size_push]
 have a0:s2.heap.objs.size≠G.objs.size:=by rw [hC]; exact bU (cX _)
 have B:s2.heap.objs.size <= G.objs.size:=by rw [hC]; exact Nat.le_succ _
 have f:∀ b,b < s2.heap.objs.size->b≠G.objs.size/\b≠s2.heap.objs.size:=fun b a=>⟨by rw [hC]; exact bU (Nat.lt_succ_of_lt a),bU a⟩;have t:∀ b o,s2.heap.get? b=some o->h₁.get? b=some o:=fun b o e=>hsb₁.extBut b o (f b (bF e)).1 (bz _ (P ▸ bz _ e));have a5:h₁.get? s2.heap.objs.size=some { cls:=.type "list",data:=.seq ([]:List Value).toArray }:=hsb₁.extBut _ _ a0 (bz _ (P ▸ bN _ rfl));have S:∀ b∈fp,b < s2.heap.objs.size:=fun b a=>let ⟨_,e,_⟩:=T.obj 0 _ st2 b a; bF e;have a3:∀ b∈fp,b∉frs X.stack:=fun b a z=>(bI.mp (I2.stkSub b z)).elim (f2 b a).2.1 (f2 b a).2.2.1;have nC:H2 G.objs.size=none:=I2.hok.fresh B;have nD:H2 s2.heap.objs.size=none:=I2.hok.fresh (bA _)
 have k:∀ y c,(δ ys X.env).lookup y=some c->∃ v o,s2.heap.get? c=some o/\o.data=.cell v:=fun y c e=>by
  obtain ⟨v,o,q1,q2⟩:=I2.cell y c (g y c e);exact ⟨v,o,q1,q2⟩
 have a9:(X.compF scope ys G.objs.size x s2 H2 fp).Ok:=by
  refine ⟨I2.ok.mod,hkind,I2.ok.glob,I2.ok.blt,B,fun y z c e U=>I2.ok.inj y z c (g y c e) (g z c U),fun y e=>?_,fun y c z e=>(by cases z),I2.ok.hd,I2.ok.frames,.inl rfl,fun b a=>⟨(f b (S b a)).1,fun y c e=>(f2 b a).2.2.2.2.1 y c (g y c e)⟩,I2.bs,?_,fun b o e a=>?_,fun b a=>a3 b a,I2.stack,I2.stkFree⟩
  .have U:(relabel scope X.env).names.lookup y=some .cell\/(relabel scope X.env).names.lookup y=some .free:=e
   have a8:y∈ys:=by
    rcases U with U | U
    .obtain ⟨k0,m,q⟩:=xp U;rcases q with q | q
     .exact absurd q.symm (hcell _ m)
     .exact hfr _ m q
    .obtain ⟨k0,m,q⟩:=xp U;rcases q with q | q
     .exact hfr _ m q.symm
     .exact hfr _ m q
   exact ⟨_,υ a8⟩
  .exact cc I2.ok.bsz I2.sz
  .rcases (f2 b a).2.2.2.1 with z | z
   .exact I2.ok.noex b o e z
   .exact absurd (bV (bF (I2.ok.bs b o e).1) z) (cS _)
 have a6:(w9 js σ).length=ys.length:=by
  have:=congrArg List.length hjs;simpa [w9] using this
 have I3:∀ Z,Inv (X.compF scope ys G.objs.size x s2 H2 fp) [] (none :: w9 js σ) (upd H2 s2.heap.objs.size (.lst [])) { s2 with heap:=h₁,toks:=Z }:=fun Z =>
  ⟨a9,rfl,I2.bare,Un.laid t (bA _) nD,⟨_,hns₁,fun i y v e1 O e3=>by
    cases i with
    | zero=>cases O
    | succ i =>
     have e1:ys[i]?=some y:=by simpa using e1
     have O:(w9 js σ)[i]?=some (some v):=by simpa using O
     have hy:y∈ys:=bM e1;have Q:=congrArg (fun l=>l[i]?) hjs;simp only [bB,e1,cK] at Q
     cases q:js[i]? with
     | none=>rw [q] at Q; cases Q
     | some j =>
      rw [q] at Q;have Q:X.N[j]?=some y:=by simpa using Q
      have es:σ[j]?=some (some v):=by
       simp only [w9,bB,q,cK,Option.some.injEq] at O
       cases r:σ[j]? with
       | none=>rw [r] at O; cases O
       | some w'=>rw [r] at O; rw [show w'=some v from O]
      obtain ⟨m0,_,ab⟩:=I2.loc;obtain ⟨u,ru,lk⟩:=ab j y v Q es (.inr (.inl (hyc y hy)));refine ⟨u,ru,.inr ⟨.inl (hrel y hy),?_⟩⟩;rcases lk with ⟨k1,_⟩ | ⟨_,c,ec,o,ho,hd⟩
      .rw [hyc y hy] at k1; cases k1
      .refine ⟨c,?_,o,t c o ho,hd⟩;show (δ ys X.env).lookup y=some c;rw [υ hy,ec]
       rfl⟩,fun y c e=>(by
    obtain ⟨v,o,q1,q2⟩:=k y c e
    exact ⟨v,o,t c o q1,q2⟩),(by show upd H2 s2.heap.objs.size _ G.objs.size=none; rw [yq a0.symm]; exact nC),fun y c e=>(by
    obtain ⟨v,o,q1,q2⟩:=k y c e;show upd H2 s2.heap.objs.size _ c=none;rw [yq (f c (bF q1)).2]
    exact I2.freeC y c (g y c e)),fun p hp=>(by simp at hp),
   I2.hok.laid t (bA _) ⟨bR _,[],_,.nil,a5⟩,by show (none :: w9 js σ).length=(x :: ys).length; simp [a6]⟩
 have L:∀ {H':Hp},(∀ b∈fp,H' b=none)->∀ b∈fp,ycp (X.compF scope ys G.objs.size x s2 H2 fp) [] H' b:=fun hn b a=>⟨hn b a,(f b (S b a)).1,a3 b a,.inl a,fun y c e=>(f2 b a).2.2.2.2.1 y c (g y c e),fun p hp=>(by simp at hp)⟩
 have M:∀ Z,codeAny (model X.prog X.w) X.A (.compLoop (.ListComp elt [⟨.Name x px,iter,[cnd],0⟩] scope pos) 0 (.ref it) (.ref s2.heap.objs.size) (compEnvC scope (δ ys X.env) G.objs.size X.env)) (RR (.ref s2.heap.objs.size) G.objs.size) { s2 with heap:=h₁,toks:=Z }:=by
  intro Z;obtain ⟨W,⟨m0,w0⟩,a1⟩:=h s2.heap.objs.size nD;refine codeAny_loop rfl (fun n s'=>∃ i v H',Inv (X.compF scope ys G.objs.size x s2 H2 fp) [] (v :: w9 js σ) H' s'/\tn i s'.heap/\(∀ b∈fp,H' b=none)/\W i n H') (fun n s' hI=>?_) m0
   ⟨0,none,_,I3 Z,T.keep 0 _ _ st2 (fun b a o e=>t b o e),fun b a=>(by rw [yq (f b (S b a)).2]; exact (f2 b a).1),w0⟩
  obtain ⟨i,v,H',I,st,fr,w⟩:=hI;show wpAny _ _ ((compTurn (.ListComp elt [⟨.Name x px,iter,[cnd],0⟩] scope pos) 0 (.ref it) (.ref s2.heap.objs.size) (compEnvC scope (δ ys X.env) G.objs.size X.env)).onRaise (fun x=>do noteFrame x (compEnvC scope (δ ys X.env) G.objs.size X.env); theTreesLotGoes x)) _ _ s';refine wpAny_noted ?_;rw [compTurn_list];refine bw (wpAny_standAt (bw ?_));rcases a1 i n H' w with ⟨a2,q⟩ | ⟨go,a4⟩
  .refine thn (T.done (X.compF scope ys G.objs.size x s2 H2 fp) rfl rfl rfl hc i [] s' (v :: w9 js σ) H' _ I (L fr) st a2) fun r s4 ⟨hr,Y⟩=>?_;subst hr;refine bE ?_;obtain ⟨m,hn,_⟩:=Y.loc;exact hR _ _ H' s4 m (I2.fpOk B Y.free) hn (I2.call' (ch:=fp) Y.os Y.base Y.hok Y.bare fun b a=>⟨(f2 b a).2.2.2.1,(f2 b a).2.1,(f2 b a).2.2.2.2.1,(f2 b a).2.2.2.2.2⟩) q
  .refine thn (T.item (X.compF scope ys G.objs.size x s2 H2 fp) rfl rfl rfl hc i [] s' (v :: w9 js σ) H' _ I (L fr) st go) fun r s4 ⟨u,hr,h4⟩=>?_;subst hr;refine bw (thn h4 fun _ s5 ⟨y,H5,I5,r5,y5,H,a7⟩=>bw ?_);have aa:=I5.pinned (L a7) (T.obj _ _ H);refine wpAny_assign_Name (ť (i:=0) aa hnd rfl (Or.inl (lookup_relabel_local hx)) r5 (fun s6 I6=>?_) (Or.inr (lookup_relabel_local hx)));refine bw (wpAny_tests_one (ysb (ht _ _ _ _ _ s6 (some y :: w9 js σ) H5 _ I6 (a4 y H5 y5)) fun b s7 ⟨H6,I7,q7⟩=>?_))
   cases b with
   | false =>
    obtain ⟨m',hm,w'⟩:=q7
    have F:∀ b∈fp,∀ o,s5.heap.get? b=some o->s7.heap.get? b=some o/\H6 b=none:=fun b a o e =>
     ⟨(I7.pin (b,o) (bP _ (bP _ (xv a e)))).1,(I7.pin (b,o) (bP _ (bP _ (xv a e)))).2.1⟩
    refine bE ⟨rfl,m',hm,i+1,some y,_,I7.unpinned,T.keep _ _ _ H fun b a o e=>(F b a o e).1,fun b a=>?_,w'⟩;obtain ⟨o,e,d⟩:=T.obj _ _ H b a;exact (F b a o e).2
   | true =>
    refine bw (bw (ysb (he _ _ _ _ _ s7 (some y :: w9 js σ) H6 _ I7 q7) fun u2 s7 ⟨y2,H7,I7,r7,zs,hD,hl,m',hm,w'⟩=>bw ?_));refine ysb (wz _ s7 (some y :: w9 js σ) H7 (.ref s2.heap.objs.size) [y2] (.ref s2.heap.objs.size) [u2] (fun _ H8=>H8=upd H7 s2.heap.objs.size (.lst (zs++[y2]))) I7 rfl (.cons r7 .nil) ⟨_,zs,y2,rfl,rfl,hD,hl,rfl⟩) fun _ s8 h'=>?_;obtain ⟨_,H8,I8,_,e8⟩:=h';subst e8
    have F:∀ b∈fp,∀ o,s5.heap.get? b=some o->s8.heap.get? b=some o/\upd H7 s2.heap.objs.size (HO.lst (zs++[y2])) b=none:=fun b a o e =>
     ⟨(I8.pin (b,o) (bP _ (bP _ (xv a e)))).1,(I8.pin (b,o) (bP _ (bP _ (xv a e)))).2.1⟩
    refine bE (bE ⟨rfl,m',hm,i+1,some y,_,I8.unpinned,T.keep _ _ _ H fun b a o e=>(F b a o e).1,fun b a=>?_,w'⟩);obtain ⟨o,e,d⟩:=T.obj _ _ H b a;exact (F b a o e).2
 exact codeAny_compStart_list (M _) (T.self X.A 0 _ _ _ (T.keep 0 _ _ st2 (fun b a o e=>t b o e)) (M _))
theorem yjl {y:Str} {py spos:Pos} (hN:X.N.Nodup) (hy:X.N[i]?=some y) (hl:X.env.scope.names.lookup y=some .local) (hc:X.calm=true) (hi:PI X (.Name x px) iter wi)
  (ht:∀ (C:Addr) (s2:Shared) (H2:Hp) (fp:List Addr),PT (X.compF scope ys C x s2 H2 fp) cnd tc) (he:∀ (C:Addr) (s2:Shared) (H2:Hp) (fp:List Addr),PE (X.compF scope ys C x s2 H2 fp) elt te) (hjs:js.map (fun j=>X.N[j]?)=ys.map some)
  (hclos:closureFor scope X.env=pure (δ ys X.env)) (hyc:∀ y∈ys,X.env.kindOf y=some .cell) (hrel:∀ y∈ys,(relabel scope X.env).names.lookup y=some .cell)
  (hsw:swapsWith (.ListComp elt [⟨.Name x px,iter,[cnd],0⟩] scope pos) (some (.Name y py)) spos.line X.env=pure true:=by rfl) (hnd:(x :: ys).Nodup:=by decide)
  (hfr:∀ y∈scope.names,y.2=.free->y.1∈ys:=by decide +kernel) (hcell:∀ y∈scope.names,y.2≠.cell:=by decide +kernel) (hkind:scope.kind=.function:=by rfl)
  (hnames:∀ y∈scope.names,y.2=.local->scope.names.lookup y.1=some .local:=by decide +kernel) (hx:scope.names.lookup x=some .local:=by rfl) (hs:∀ x,foldedSetIterable iter X.env x=pure x:=by intro _; rfl) :
  PS X (.Assign [.Name y py] (.ListComp elt [⟨.Name x px,iter,[cnd],0⟩] scope pos) spos) (ysc (ymz wi tc te js) (w6 i)):=by
 refine .mk fun a s σ H g I h=>?_;rw [exec_Assign_Name_used _ _ _ _ hsw];refine bw (wpAny_standAt (bw ?_));show wpAny _ X.A (do let _ <- comprehension (.ListComp elt [⟨.Name x px,iter,[cnd],0⟩] scope pos) scope X.env _ (newList []) false (eval iter X.env) (some (assign (.Name y py) X.env))) _ _ s;refine bw (cR (wpAny_comprehension_free (use:=some (assign (.Name y py) X.env)) (Q:=fun _ d=>SP X a g .next d) rfl hs hclos hkind hnames (thn (hi a s σ H _ I h) fun v O F=>thn F fun E s2 L=>?_)) (fun _ d B=>bE (bE B)) fun _ _ e=>e);obtain ⟨U,fp,P,J,H2,e,u,T,t,K,h⟩:=L;subst e;refine yfd (R:=fun D l=>w6 i (.ref D) σ l g.nx) (RR:=compPost (model X.prog X.w) X.A X.xe (some (assign (.Name y py) X.env)) (fun _ d=>SP X a g .next d)) hc ht he hcell hkind hx hnd hfr hyc hrel hjs u T t K h ?_;intro D C l d m f M G q;refine wpAny_assign_Name (θ (v:=V.ref D) G hN hy (Or.inl hl) rfl (fun r p k=>?_) (Or.inr hl));refine ⟨m,?_,fun S n=>⟨_,l,?_,q⟩⟩
 .obtain ⟨b,n,c⟩:=k;refine M.sameBut n fun z=>?_;rcases c with c | c
  .exact f.2.1 (z.trans c)
  .exact f.2.2.2.2.1 y b c z.symm
 .exact p.turned (t':=r.toks) (fun b o c e=>n.extBut b o c e) f.1 f.2.1 f.2.2.2.1 f.2.2.2.2.1 f.2.2.2.2.2
theorem yob {H:Hp} {Q:VK} (h:wi σ H fun J H1=>∀ D,H1 D=none->ŧ J tc te (w9 js σ) D (fun H2=>Q (.ref D) H2) H1):ymz wi tc te js σ H Q:=h
theorem yb3 {lo:Int} {n:Nat} {fr:St} {R:Hp->Prop} {H1:Hp} (Pv:Nat->Hp->Prop) (h0:Pv 0 (upd H1 D (.lst [])))
  (hs:∀ i H,i < n->Pv i H->tc (some (.int (lo+i)) :: fr) H fun b H4=>if b=true then te (some (.int (lo+i)) :: fr) H4 (fun y H5=>∃ ys,H5 D=some (.lst ys)/\ys.length < sizeLine/\∃ m',m' < n - i/\cW n Pv (i+1) m' (upd H5 D (.lst (ys++[y])))) else ∃ m',m' < n - i/\cW n Pv (i+1) m' H4)
  (hd:∀ H,Pv n H->R H):ŧ (Itr lo n) tc te fr D R H1:=by
 refine ⟨cW n Pv,⟨n,by simp,bR _,h0⟩,?_⟩;rintro i m H ⟨rfl,c,p⟩;by_cases hlt:i < n
 .refine .inr ⟨hlt,fun x a y=>?_⟩;obtain ⟨e,y⟩:=y;subst e y;exact hs i _ hlt p
 .have e:i=n:=by omega
  subst e;exact .inl ⟨bA _,hd H p⟩
theorem ygk {n:Nat} {Pv:Nat->Hp->Prop} {H4:Hp} (hi:i < n) (p:Pv (i+1) H4):∃ m',m' < n - i/\cW n Pv (i+1) m' H4:=⟨n - (i+1),by omega,rfl,hi,p⟩
end
structure yi5 (K:W.Frag) (x qual:Str) (st:Stmt) (D:Addr) (f:Addr) (fd:FuncData):Prop where
 ex:∃ (oc:Value) (od:Option Addr) (kV doc pm:Value) (an:Option Addr) (cdv ct:Value) (osl:Array (Option Value)),
  fd=W.fnOf x qual (w8 st) (wv st) (yh st) (.ref D) kV doc pm an cdv ct/\K.lookup f=some ⟨oc,od,.func fd,osl⟩/\W.codeIn K cdv qual=true
 kp:W.keepIn K (.ref f)=true
section
variable {w:World} {K:W.Frag} {mg:Str->Option Value} {base:Heap}
theorem yi5.okE {x:Str} {st:Stmt} {f:Addr} {N ps:List Str} {k:Nat} {sp:Sp} (F:yi5 K x qual st D f fd) (S:ym N ps (yh st)) (len:∀ vs H Q E,sp vs H Q E->vs.length=ps.length)
  (hbody:∀ (cdv:Value) (A:Around) (outer:List Env) (s:Shared) (H:Hp) (vs:List V) (Q:VK) (E:XK),jq k (A.deeper (envOfC qual (yh st) s.heap.objs.size f cdv))->sp vs H Q E ->
   ∃ t,PSs (v9 (CXe P w) P w K mg base N qual (yh st) f cdv A outer s H E) (wv st) t/\t { nx:=fun _ H'=>Q .non H',rt:=Q } (Ö N vs) H):wa P w K mg base (CXe P w) (k+1) f fd ps sp:=by
 obtain ⟨l,i,kV,e,m,j,cdv,h,d,rfl,c,a⟩:=F.ex;exact yrd c a S len fun A outer s H vs Q E g b=>hbody cdv A outer s H vs Q E g b
theorem yi5.binds {x:Str} {st:Stmt} {f:Addr} {ps:List Str} {ds:List Value} {o:Obj} {its:Array Value} {n:Nat} (hj:j+ds.length=ps.length) (F:yi5 K x qual st D f fd) (hD:K.lookup D=some o) (ho:o.data=.seq its n)
  (h:∀ (kV doc pm:Value) (an:Option Addr) (cdv ct:Value) (us:List Value),us.length=j ->
   ∃ k:Option (Array Value)->Sem (List (Str × Value)),bindArgs (W.fnOf x qual (w8 st) (wv st) (yh st) (.ref D) kV doc pm an cdv ct) ⟨us,[]⟩=(seqItems? (.ref D) >>= k)/\k (some its)=pure (ps.zip (us++ds))):uy K fd ps ds:=by
 obtain ⟨m,i,kV,doc,pm,an,cdv,ct,c,rfl,l,b⟩:=F.ex;intro s us a g;obtain ⟨k,d,e⟩:=h kV doc pm an cdv ct us (by rw [bC] at g; omega);exact BindsTo.of_defaults rfl (a _ _ hD) ho d e
theorem yhg {x:Str} {st:Stmt} {f:Addr} {oc:Value} {od an:Option Addr} {osl:Array (Option Value)} {kV doc pm cdv ct:Value} (l:K.lookup f=some ⟨oc,od,.func (W.fnOf x qual (w8 st) (wv st) (yh st) (.ref D) kV doc pm an cdv ct),osl⟩)
  (c:W.codeIn K cdv qual=true) (k:W.keepIn K (.ref f)=true):yi5 K x qual st D f (W.fnOf x qual (w8 st) (wv st) (yh st) (.ref D) kV doc pm an cdv ct):=⟨⟨oc,od,kV,doc,pm,an,cdv,ct,osl,rfl,l,c⟩,k⟩
end
def yoq (K:W.Frag):List V->Hp->VK->Prop:=fun xs H Q=>∃ p ys,xs=[.ref p]/\(SqL K H p ys\/SqT K H p ys)/\∀ l,H l=none->Q (.ref l) (upd H l (.lst ys))
section
variable {X:Cx} {body suite:List Stmt} {b₀:Stmt} {tx n:Str} {np hpos pos:Pos} {tb:(St->XK)->TS} {ts:TS}
abbrev THs:=ŵ->St->Addr->Addr->Hp->Prop
end
structure Dg (K:W.Frag) (x q:Str) (st:Stmt) (f:Addr) (fd:FuncData) (M:Prop):Prop where
 F:Fun K x q st f fd
 m:M
structure Df (K:W.Frag) (x q:Str) (st:Stmt) (ps:List Str) (f:Addr) (fd:FuncData) (M:Prop):Prop where
 F:Fun K x q st f fd
 B:uy K fd ps []
 m:M
theorem ybk {α:Type} {n:Nat} {a:List α} (h:a.length=n+1):∃ x r,a=x :: r/\r.length=n:=by
 cases a with
 | nil=>cases h
 | cons x r=>exact ⟨x,r,rfl,Nat.succ.inj h⟩
abbrev Dgf (K:W.Frag) (mg:Str->Option Value) (x:Str) (st:Stmt) (f:Addr) (fd:FuncData):Prop:=Dg K x x st f fd (mg x=some (.ref f))
abbrev Dgm (K:W.Frag) (C:Addr) (x q:Str) (st:Stmt) (f:Addr) (fd:FuncData):Prop:=Dg K x q st f fd (yr2 K C x f)
abbrev Dff (K:W.Frag) (mg:Str->Option Value) (x:Str) (st:Stmt) (ps:List Str) (f:Addr) (fd:FuncData):Prop:=Df K x x st ps f fd (mg x=some (.ref f))
abbrev Dfm (K:W.Frag) (C:Addr) (x q:Str) (st:Stmt) (ps:List Str) (f:Addr) (fd:FuncData):Prop:=Df K x q st ps f fd (yr2 K C x f)
section
variable {K:W.Frag} {mg:Str->Option Value} {h:Heap} {x q:Str} {st:Stmt} {f:Addr} {M:Prop} {oc kV doc pm cdv ct:Value} {od an:Option Addr} {osl:Array (Option Value)}
theorem dgf_mk (X:K.In h) (G:h.Ns mainGlobals mg) (a:W.nsIn K mainGlobals x=some (some (.ref f))) (l:K.lookup f=some ⟨oc,od,.func (W.fnOf x x (w8 st) (wv st) (yh st) .none kV doc pm an cdv ct),osl⟩)
  (c:W.codeIn K cdv x=true) (k:W.keepIn K (.ref f)=true):Dgf K mg x st f (W.fnOf x x (w8 st) (wv st) (yh st) .none kV doc pm an cdv ct):=⟨ymq l c k,W.mg_of X G a⟩
theorem dgm_mk (a:W.findIn K (.ref C) x=some (some (.ref f))) (i:W.isFn K (.ref f)=true) (l:K.lookup f=some ⟨oc,od,.func (W.fnOf x q (w8 st) (wv st) (yh st) .none kV doc pm an cdv ct),osl⟩)
  (c:W.codeIn K cdv q=true) (k:W.keepIn K (.ref f)=true):Dgm K C x q st f (W.fnOf x q (w8 st) (wv st) (yh st) .none kV doc pm an cdv ct):=⟨ymq l c k,a,i,k⟩
theorem Dg.d1 (D:Dg K x q st f fd M) (h:∀ (kV doc pm:Value) (an:Option Addr) (cdv ct:Value) (u0:Value),bindArgs (W.fnOf x q (w8 st) (wv st) (yh st) .none kV doc pm an cdv ct) ⟨[u0],[]⟩=pure [(p0,u0)]):Df K x q st [p0] f fd M :=
 ⟨D.F,D.F.binds fun kV doc pm an cdv ct c b=>(by
  obtain ⟨u0,d,rfl,a⟩:=ybk b;obtain rfl:=cI a;exact h kV doc pm an cdv ct u0),D.m⟩
theorem Dg.d2 (D:Dg K x q st f fd M) (h:∀ (kV doc pm:Value) (an:Option Addr) (cdv ct:Value) (u0 u1:Value),bindArgs (W.fnOf x q (w8 st) (wv st) (yh st) .none kV doc pm an cdv ct) ⟨[u0,u1],[]⟩=pure [(p0,u0),(p1,u1)]):Df K x q st [p0,p1] f fd M :=
 ⟨D.F,D.F.binds fun kV doc pm an cdv ct d c=>(by
  obtain ⟨u0,g,rfl,b⟩:=ybk c; obtain ⟨u1,e,rfl,a⟩:=ybk b;obtain rfl:=cI a;exact h kV doc pm an cdv ct u0 u1),D.m⟩
theorem Dg.d3 (D:Dg K x q st f fd M) (h:∀ (kV doc pm:Value) (an:Option Addr) (cdv ct:Value) (u0 u1 u2:Value),bindArgs (W.fnOf x q (w8 st) (wv st) (yh st) .none kV doc pm an cdv ct) ⟨[u0,u1,u2],[]⟩=pure [(p0,u0),(p1,u1),(p2,u2)]):Df K x q st [p0,p1,p2] f fd M :=
 ⟨D.F,D.F.binds fun kV doc pm an cdv ct e d=>(by
  obtain ⟨u0,j,rfl,b⟩:=ybk d; obtain ⟨u1,i,rfl,a⟩:=ybk b; obtain ⟨u2,g,rfl,c⟩:=ybk a;obtain rfl:=cI c;exact h kV doc pm an cdv ct u0 u1 u2),D.m⟩
theorem Dg.d4 {p3:Str} (D:Dg K x q st f fd M) (h:∀ (kV doc pm:Value) (an:Option Addr) (cdv ct:Value) (u0 u1 u2 u3:Value),bindArgs (W.fnOf x q (w8 st) (wv st) (yh st) .none kV doc pm an cdv ct) ⟨[u0,u1,u2,u3],[]⟩=pure [(p0,u0),(p1,u1),(p2,u2),(p3,u3)]):Df K x q st [p0,p1,p2,p3] f fd M :=
 ⟨D.F,D.F.binds fun kV doc pm an cdv ct g e=>(by
  obtain ⟨u0,j,rfl,c⟩:=ybk e; obtain ⟨u1,k,rfl,b⟩:=ybk c; obtain ⟨u2,i,rfl,d⟩:=ybk b; obtain ⟨u3,l,rfl,a⟩:=ybk d;obtain rfl:=cI a;exact h kV doc pm an cdv ct u0 u1 u2 u3),D.m⟩
theorem Dg.d7 {p3 p4 p5 p6:Str} (D:Dg K x q st f fd M) (h:∀ (kV doc pm:Value) (an:Option Addr) (cdv ct:Value) (u0 u1 u2 u3 u4 u5 u6:Value),bindArgs (W.fnOf x q (w8 st) (wv st) (yh st) .none kV doc pm an cdv ct) ⟨[u0,u1,u2,u3,u4,u5,u6],[]⟩=pure [(p0,u0),(p1,u1),(p2,u2),(p3,u3),(p4,u4),(p5,u5),(p6,u6)]):Df K x q st [p0,p1,p2,p3,p4,p5,p6] f fd M :=
 ⟨D.F,D.F.binds fun kV doc pm an cdv ct k j=>(by
  obtain ⟨u0,p,rfl,e⟩:=ybk j; obtain ⟨u1,s,rfl,d⟩:=ybk e; obtain ⟨u2,o,rfl,g⟩:=ybk d; obtain ⟨u3,t,rfl,b⟩:=ybk g; obtain ⟨u4,n,rfl,i⟩:=ybk b; obtain ⟨u5,l,rfl,c⟩:=ybk i; obtain ⟨u6,r,rfl,a⟩:=ybk c;obtain rfl:=cI a;exact h kV doc pm an cdv ct u0 u1 u2 u3 u4 u5 u6),D.m⟩
end
structure KC (K:W.Frag) (C:Addr):Prop where
 pg:W.plainGet K C Str.empty=true
 hd:W.hasDictIn K C=true
 po:W.plainOver K C=true
 sa:W.findIn K (.ref C) "__setattr__"=some (some (.builtin "object.__setattr__"))
 mk':W.makesIn K C=true
 kc:W.keepIn K (.ref C)=true
theorem KC.cls {K:W.Frag} (h:KC K C):Cls K C:=⟨h.pg,h.hd,h.po,h.sa⟩
abbrev GV (K:W.Frag) (x:Str) (v:Value):Prop:=W.nsIn K mainGlobals x=some (some v)
abbrev GZ (K:W.Frag) (x:Str):Prop:=W.nsIn K mainGlobals x=some none
abbrev FN (K:W.Frag) (C:Addr) (x:Str):Prop:=W.findIn K (.ref C) x=some none
section
variable {K:W.Frag} {H:Hp} {p dx:Addr} {fs fs':List (Str × V)} {v:V} {nm:Str} {P:V->Prop} {nx:St->Hp->Prop} {σ:St}
abbrev RdX (K:W.Frag) (H:Hp) (p:Addr) (nm:Str) (P:V->Prop):Prop:=∃ a' C dx fs v,V.ref p=.ref a'/\H a'=some (.ins C dx fs)/\Cls K C/\vo K C nm/\fs.lookup nm=some v/\P v
abbrev StX (K:W.Frag) (H:Hp) (p:Addr) (nm:Str) (v:V) (nx:St->Hp->Prop) (σ:St):Prop:=∃ a' C dx fs,V.ref p=.ref a'/\H a'=some (.ins C dx fs)/\Cls K C/\vo K C nm/\fs.length < 1000/\wk nx σ (upd H a' (.ins C dx (jn nm v fs)))
abbrev MtX (H:Hp) (p C:Addr) (nm:Str) (R:Prop):Prop:=∃ a dx fs,V.ref p=.ref a/\H a=some (.ins C dx fs)/\fs.lookup nm=none/\R
theorem rdX (hp:H p=some (.ins C dx fs)) (c:Cls K C) (n:vo K C nm) (l:fs.lookup nm=some v) (h:P v):RdX K H p nm P:=⟨p,C,dx,fs,v,rfl,hp,c,n,l,h⟩
theorem stX (hp:H p=some (.ins C dx fs)) (c:Cls K C) (n:vo K C nm) (l:fs.length < 1000) (e:jn nm v fs=fs') (h:wk nx σ (upd H p (.ins C dx fs'))):StX K H p nm v nx σ:=⟨p,C,dx,fs,rfl,hp,c,n,l,by rw [e]; exact h⟩
theorem lt0:([]:List (Str × V)).length < 1000:=by show 0 < 1000; decide
theorem lt1 {a:Str × V}:[a].length < 1000:=by show 1 < 1000; decide
theorem lt2 {a b:Str × V}:[a,b].length < 1000:=by show 2 < 1000; decide
theorem lt3 {a b c:Str × V}:[a,b,c].length < 1000:=by show 3 < 1000; decide
theorem lt4 {a b c d:Str × V}:[a,b,c,d].length < 1000:=by show 4 < 1000; decide
theorem lt5 {a b c d e:Str × V}:[a,b,c,d,e].length < 1000:=by show 5 < 1000; decide
theorem lt6 {a b c d e f:Str × V}:[a,b,c,d,e,f].length < 1000:=by show 6 < 1000; decide
theorem yxt:∀ {fs:List (Str × V)},nm∉fs.map (·.1)->fs.lookup nm=none
 | [],_=>rfl
 | (g,v) :: r,h=>we (fun e=>h (by rw [e]; exact ck)) (yxt fun m=>h (cb _ m))
theorem mtX {R:Prop} {N:List Str} (hp:H p=some (.ins C dx fs)) (k:fs.map (·.1)=N) (n:nm∉N) (h:R):MtX H p C nm R:=⟨p,dx,fs,rfl,hp,yxt (by rw [k]; exact n),h⟩
theorem wx {N P:List Str} {sc:Scope} (h:(sc.kind=.function/\sc.isCoroutine=false/\sc.isGenerator=false)/\N.Nodup/\N.take P.length=P/\(∀ x∈P,sc.names.lookup x=some .local\/sc.names.lookup x=some .cell)/\∀ y∈sc.names,y.2≠.free):ym N P sc:=⟨h.1.1,h.1.2.1,h.1.2.2,h.2.1,h.2.2.1,h.2.2.2.1,h.2.2.2.2⟩
end
theorem yfn {α β:Type} {F:α->β->Prop} {l₁:List α} {l₂:List β} (h:Paired F l₁ l₂):∀ {i:Nat} {y:β},l₂[i]?=some y->∃ x,l₁[i]?=some x/\F x y:=by
 induction h with
 | nil=>intro i y e; cases e
 | cons r t ih =>
  intro i y e
  cases i with
  | zero=>cases e; exact ⟨_,rfl,r⟩
  | succ j=>exact ih e
def Its (x:Str):It:=⟨fun i _=>i < x.cps.size,fun i H v H'=>H'=H/\∃ c,x.cps[i]?=some c/\v=.str ⟨#[c]⟩,fun i _=>i=x.cps.size⟩
theorem yda {w:World} {K:W.Frag} {ty:String} (x:Str) (t:Tok) (it:Addr) (hn:["enumerate","zip","dict_itemiterator","dict_reverseitemiterator","odict_iterator","itertools.zip_longest","itertools.pairwise"].contains ty=false)
  (W:∀ A:Around,A.handled=none->Walks P w A it [it] [it] x.cps.size (SignAt x) (fun i h=>h.IsStrIter it ty x t i)) (hs:∀ (A:Around) (i:Nat) (s:Shared) (Q E:Value->Shared->Prop),s.heap.IsStrIter it ty x t i->Q (.ref it) s->wpAny (model P w) A (pyIter (.ref it)) Q E s):yi6 P w K tg (Its x) [it] it (fun i h=>h.IsStrIter it ty x t i) where
 mem:=by simp
 obj:=fun i h a b g=>by
  have e:b=it:=by simpa using g
  subst e;obtain ⟨o,e,_,d⟩:=a;exact ⟨o,e,fun v z=>by rw [d] at z; cases z⟩
 keep:=fun i h n a k=>let ⟨o,e,r⟩:=a; ⟨o,k it (by simp) o e,r⟩
 item:=by
  intro X L q B M i f s σ H E I m a l;subst L q B;obtain ⟨y,G,S,J,F,C⟩:=m it (by simp);refine (W X.A (I.ok.hd M)).item i s _ _ l a fun v n D R j p=>?_;obtain ⟨c,u,N,rfl⟩:=R;have U:Inv X f σ H { s with heap:=n,toks:=D }:=I.turned (fun b o g e=>p b o (by simpa using g) e) y G J F C;obtain ⟨o,e,O,T⟩:=id j;exact ⟨_,rfl,yku (s:={ s with heap:=n,toks:=D }) e O T hn ⟨.str ⟨#[c]⟩,H,U,⟨u,rfl⟩,⟨rfl,c,N,rfl⟩,j,fun b g=>(m b g).1⟩⟩
 done:=by
  intro X L q B M i f s σ H E I m a l;subst L q B;have l:i=x.cps.size:=l;subst l;obtain ⟨y,G,S,J,F,C⟩:=m it (by simp);exact (W X.A (I.ok.hd M)).done s _ _ a fun n D p=>⟨rfl,I.turned (fun b o g e=>p b o (by simpa using g) e) y G J F C⟩
 self:=fun A i s Q E a h=>hs A i s Q E a h
section
variable {X:Cx}
def va5 (tl:TE):TI:=fun σ H R=>tl σ H fun v H1=>∃ x,v=.str x/\R (Its x) H1
theorem yu5 {l:Expr} {tl:TE} (hl:PE X l tl):PI X tg l (va5 tl):=by
 intro c s σ H R I h;refine thn (hl c s σ H _ I h) fun v a h'=>?_;obtain ⟨y,i,f,k,x,e,q⟩:=h';subst e;obtain ⟨t,rfl⟩:=k
 have d:∀ {ob:Obj},∀ b∈[a.heap.objs.size],ycp X c i b:=fun {_} b m=>by
  have e:b=a.heap.objs.size:=by simpa using m
  subst e;exact f.fpOk (bA _) (f.hok.fresh (bA _))
 cases ha:x.cps.all (· < 128)
 .refine wpAny_pyIter_wide ha ?_;exact ⟨a.heap.objs.size,[a.heap.objs.size],_,_,i,rfl,f.kept (t':=a.toks) fun b o e=>bz _ e,yda x t _ (by decide) (fun A g=>Walks.strWide g _ x t) (fun _ _ _ _ _ j h=>wpAny_pyIter_striter_wide j h),⟨_,bN _ rfl,rfl,rfl⟩,d (ob:=default),q⟩
 .refine wpAny_pyIter_ascii ha ?_;exact ⟨a.heap.objs.size,[a.heap.objs.size],_,_,i,rfl,f.kept (t':=a.toks) fun b o e=>bz _ e,yda x t _ (by decide) (fun A g=>Walks.strAscii g _ x t) (fun _ _ _ _ _ j h=>wpAny_pyIter_striter_ascii j h),⟨_,bN _ rfl,rfl,rfl⟩,d (ob:=default),q⟩
theorem yw0 {tl:TE} {σ:St} {H:Hp} {R:It->Hp->Prop} (h:tl σ H fun v H1=>∃ x,v=.str x/\R (Its x) H1):va5 tl σ H R:=h
theorem yow {x:Str} {k:Str} {t:Tok} {pos:Pos} (hg:Gl X x) (hm:X.mg x=some (.str k t)) (hd:(x == ("__debug__":Str))=false:=by decide):PE X (.Name x pos) (tC (.str k)):=yci hg hm ⟨t,rfl⟩ hd
end
theorem yfp {x:Str} {te:TE} {R:Hp->Prop} {H1:Hp} (f:Nat->V) (hD:H1 D=none)
  (hs:∀ i c H,x.cps[i]?=some c->i < x.cps.size->yy H1 H->H D=some (.lst ((List.range i).map f))->te [some (.str ⟨#[c]⟩)] H (MpK H1 D f x.cps.size i)) (hd:∀ H,yy H1 H->H D=some (.lst ((List.range x.cps.size).map f))->R H):yee (Its x) te D R H1:=by
 refine ⟨cW x.cps.size (Mp H1 D f),⟨x.cps.size,by simp,bR _,Mp.zero hD⟩,?_⟩;rintro i m H ⟨rfl,d,p⟩;by_cases hlt:i < x.cps.size
 .refine .inr ⟨hlt,fun v b y=>?_⟩;obtain ⟨rfl,c,a,rfl⟩:=y;exact hs i c _ a hlt p.1 p.2
 .have e:i=x.cps.size:=by omega
  subst e;exact .inl ⟨rfl,hd H p.1 p.2⟩
theorem yyp {w:World} {k:Key} {u:Value} (r:(xo P w).is k u=true):xk (kV k) u:=by
 rcases w4 r with ⟨i,t,rfl,rfl⟩ | ⟨x,t,rfl,rfl⟩ <;> exact ⟨t,rfl⟩
theorem KV.get {kvs:List (Key × V)} {vs:List (Key × Value)} (r:KV kvs vs) {k:Key} {u:Value} (h:vs[i]?=some (k,u)):∃ v,kvs[i]?=some (k,v)/\xk v u:=by
 obtain ⟨⟨c,v⟩,e,a,b⟩:=yfn r h;have a:c=k:=a;exact ⟨v,by rw [e,a],b⟩
theorem ycg:∀ {xs:List V} {us:List Value},xs.length=us.length->(∀ (i:Nat) u,us[i]?=some u->∃ x,xs[i]?=some x/\xk x u)->wn xs us
 | [],[],_,_=>.nil
 | x :: xs,u :: us,hl,h=>by
  obtain ⟨y,e,r⟩:=h 0 u rfl;cases e;exact .cons r (ycg (Nat.succ.inj hl) fun i u a=>h (i+1) u a)
section
variable {X:Cx}
def ys8:List V->Hp->VK->Prop:=fun xs H Q=>∃ d kvs,xs=[.ref d]/\H d=some (.dK kvs)/\∀ l,H l=none->Q (.ref l) (upd H l (.lst (kvs.map fun p=>kV p.1)))
theorem jg (hc:X.calm=true):zx X (.type "list") ys8:=by
 intro g s σ H S P Q I r h;obtain ⟨d,kvs,rfl,m,q⟩:=h;obtain ⟨u,rfl,n⟩:=ω r;cases n;obtain ⟨j,c,f,r,o,N,ep,t,E,z,B⟩:=(show xf X.prog X.w H s.heap d (.dK kvs) from I.hok d _ m);have F:s.heap.DictAt (xo X.prog X.w) d f ep:=⟨o,N,t,E,z,B⟩;refine W.kdl_call (W.kdl_dict (knd:=xo X.prog X.w) (kvs:=f) (ep:=ep) c) (I.ok.hd hc) F (by rw [<- r.length]; exact j) fun C D a L M e b=>?_
 have K:wn (kvs.map fun p=>kV p.1) a.toList:=ycg (by have R:=b.1; have T:=r.length; have O:a.toList.length=a.size:=cB; rw [bv]; omega) fun i v G=>by
  obtain ⟨k,x,A,l⟩:=b.2 i v (by rw [<- Array.getElem?_toList]; exact G);obtain ⟨y,J,_⟩:=r.get A;exact ⟨kV k,by rw [bB,J]; rfl,yyp l⟩
 exact ⟨.ref s.heap.objs.size,_,I.laid (t':=D) M (bA _) (show xf X.prog X.w _ C _ (.lst _) from ⟨by rw [bv]; exact j,a.toList,L,K,by rw [Array.toArray_toList]; exact e⟩),rfl,q _ (I.hok.fresh (bA _))⟩
end
def isN:V->Bool
 | .non=>true
 | _=>false
def yx1:Value->Bool
 | .none=>true
 | _=>false
def vbm (K:W.Frag):R2:=fun x y H Q=>∃ p xs,x=.non/\y=.ref p/\SqL K H p xs/\(∀ z∈xs,z=.non\/∃ q ys,z=.ref q/\SqL K H q ys)/\Q (.bl (xs.any isN)) H
theorem yho:∀ {xs:List V} {us:List Value},wn xs us->(∀ z∈xs,z=.non\/∃ q,z=.ref q)->us.any yx1=xs.any isN
 | _,_,.nil,_=>rfl
 | y :: xs,u :: us,.cons r t,f=>by
  rw [List.any_cons,List.any_cons,yho t fun z a=>f z (cb _ a)]
  congr 1
  rcases f y ck with rfl | ⟨q,rfl⟩
  .cases r; rfl
  .cases r; rfl
theorem yt0 {X:Cx} (hu:X.A.units+64 < cLine):OpR X (compareOp .In) (vbm X.K):=by
 intro o s σ H x y v u Q I C D h;obtain ⟨p,d,rfl,rfl,F,c,q⟩:=h;cases C;cases D;obtain ⟨b,r,B,G⟩:=I.list F
 have l:∀ {d:List V} {j:List Value},wn d j->(∀ z∈d,z=.non\/∃ q m,z=.ref q/\SqL X.K H q m)->∀ w∈j,SeqAt.EqAt X.A.in1 s w .none (yx1 w):=by
  intro d j E
  induction E with
  | nil=>intro _ w a; cases a
  | cons r1 t ih =>
   intro f w a;rcases bI.mp a with rfl | a
   .rcases f _ ck with rfl | ⟨J,m,rfl,i⟩
    .cases r1; exact SeqAt.EqAt.same _
    .cases r1;obtain ⟨n,_,g,_⟩:=I.list i;exact SeqAt.EqAt.list_none g.isList (by show X.A.units+1 < cLine; omega)
   .exact ih (fun z c=>f z (cb _ c)) w a
 refine SeqAt.in_listAt yx1 B.isList (fun w a=>l r c w (by simpa using a)) ⟨.bl _,H,I,rfl,?_⟩;rw [show b.toArray.any yx1=b.any yx1 by simp,yho r fun z k=>(c z k).imp id fun ⟨q,_,e,_⟩=>⟨q,e⟩];exact q
theorem Ą {X:Cx}:zx X (.builtin "len") (fun xs H Q=>∃ a kvs,xs=[V.ref a]/\H a=some (.dK kvs)/\Q (.int kvs.length) H):=by
 intro b s σ H xs f Q I r h;obtain ⟨a,kvs,rfl,e,q⟩:=h;obtain ⟨u,rfl,d⟩:=ω r;cases d;exact yyk I (.of e) fun t g c=>⟨.int kvs.length,H,c,⟨t,rfl⟩,q⟩
theorem yoe {σ:St} {H:Hp} {Q:VK} (h:∀ p,H p=none->Q (.ref p) (upd H p (.dK []))):ymt σ H Q:=h
section
variable {X:Cx}
def vae:V->Option Int->Option Int->Hp->VK->Prop:=fun x lo hi H Q=>∃ z:Str,x=.str z/\z.length <= sizeLine/\Q (.str (Txt.slice z lo hi)) H
theorem ymu:SlR X vae:=by
 intro e s σ H x v p m lo o n Q I g b f d h;obtain ⟨z,rfl,a,q⟩:=h;obtain ⟨t,rfl⟩:=g;refine ⟨"str",_,F.slot_str_getitem.lookup,typeIs_str _ _ _,?_⟩
 cases f with
 | none =>
  cases d with
  | none=>exact wpAny_getItem_str_slice (l:=none) (u:=none) (st:=none) b rfl (post_val_or_str ⟨cc (Txt.slice_le z _ _) a,fun c k=>⟨.str _,H,I.tok _,⟨_,rfl⟩,q⟩⟩)
  | int j uj=>exact wpAny_getItem_str_slice (l:=none) (u:=some (j,uj)) (st:=none) b rfl (post_val_or_str ⟨cc (Txt.slice_le z _ _) a,fun c k=>⟨.str _,H,I.tok _,⟨_,rfl⟩,q⟩⟩)
 | int i ui =>
  cases d with
  | none=>exact wpAny_getItem_str_slice (l:=some (i,ui)) (u:=none) (st:=none) b rfl (post_val_or_str ⟨cc (Txt.slice_le z _ _) a,fun c k=>⟨.str _,H,I.tok _,⟨_,rfl⟩,q⟩⟩)
  | int j uj=>exact wpAny_getItem_str_slice (l:=some (i,ui)) (u:=some (j,uj)) (st:=none) b rfl (post_val_or_str ⟨cc (Txt.slice_le z _ _) a,fun c k=>⟨.str _,H,I.tok _,⟨_,rfl⟩,q⟩⟩)
theorem yja {x:Str} (h:j <= x.length):(Txt.slice x none (some (j:Int))).cps.toList=x.cps.toList.take j:=by
 have e:=slice_closes_toL (x:=x) (j:=(j:Int)) (by omega) (by omega);rw [beq_iff_eq.mp e];simp
theorem ye5 {x:Str} (h:j <= x.length):(Txt.slice x (some (j:Int)) none).cps.toList=x.cps.toList.drop j:=by
 rw [slice_from_eq (b:=(x.length:Int)) (by omega) (by omega) rfl];have e:x.length=x.cps.toList.length:=by simp [Str.length]
 simp;rw [cA (by rw [cM,e]; omega)]
end
section
variable {X:Cx}
def ybi (p:Addr) (n:Nat) (h:Heap):Prop:=∃ o es ep t,h.get? p=some o/\o.ExactSet/\o.data=.set es ep t/\t.fits es.size=true/\es.size < scanBound/\es.size=n
theorem ybi.st {p:Addr} {n:Nat} {h1 h2:Heap} (s:ybi p n h1) (k:∀ o,h1.get? p=some o->h2.get? p=some o):ybi p n h2:=by
 obtain ⟨o,a,b,t,e,r⟩:=s;exact ⟨o,a,b,t,k _ e,r⟩
def yzy (K:W.Frag):List V->Hp->VK->Prop:=fun xs H Q=>∃ p ns,xs=[.ref p]/\SqL K H p (List.map V.int ns)/\ns.length <= 1000/\∀ q,H q=none->Q (.ref q) (upd H q (.ext (ybi q (firstMet (fun i=>ns.getD i 0) ns.length).length)))
theorem yf0 (hc:X.calm=true):zx X (.type "set") (yzy X.K):=by
 intro l s σ H O N Q I r h;obtain ⟨p,d,rfl,B,G,q⟩:=h;obtain ⟨u,rfl,x⟩:=ω r;cases x;obtain ⟨c,m,v,_⟩:=I.list B;have F:IntsAre c.toArray.toList d:=ye2 m
 have n:c.toArray.size=d.length:=by
  have e:=m.length;rw [bv] at e;rw [bH];exact e.symm
 refine call_set_list (I.ok.hd hc) v.isList F (by rw [n]; exact Nat.lt_of_le_of_lt (Nat.succ_le_succ G) (by decide)) fun j C g L=>?_;rw [n] at g;obtain ⟨o,M,D,t,e,E,z,_,_,A,J,y⟩:=g
 have f:ybi s.heap.objs.size (firstMet (fun i=>d.getD i 0) d.length).length j:=⟨o,M,D,t,e,E,z,J,A,y⟩
 exact ⟨.ref s.heap.objs.size,_,I.laid (t':=C) (fun b o e=>L b o (bF e) e) (bA _) (show xf X.prog X.w _ j _ (.ext (ybi s.heap.objs.size _)) from ⟨f,⟨o,e⟩,fun _ _ a k=>a.st k⟩),rfl,q _ (I.hok.fresh (bA _))⟩
theorem ybo:zx X (.builtin "len") (fun xs H Q=>∃ q n,xs=[.ref q]/\H q=some (.ext (ybi q n))/\Q (.int (n:Nat)) H):=by
 intro a s σ H xs j Q I r h;obtain ⟨p,n,rfl,e,q⟩:=h;obtain ⟨u,rfl,c⟩:=ω r;cases c;obtain ⟨o,v,l,t,g,d,f,i,k,b⟩:=(show xf X.prog X.w H s.heap p (.ext (ybi p n)) from I.hok p _ e).1;have m:scanBound=4096:=rfl;refine call_len_set g d f i (by omega) ?_;rw [b];exact ⟨.int (n:Nat),H,I.tok _,⟨_,rfl⟩,q⟩
def yy9:R2:=fun x y H Q=>∃ (z:Str) (k:Int),x=.str z/\y=.int k/\1 <= k/\k <= 1000/\z.length <= 1000/\∀ z':Str,z'.cps.toList=(List.replicate k.toNat z.cps.toList).flatten->Q (.str z') H
theorem yhs (a:Array Nat):∀ (k:Nat) (b:Array Nat),((List.replicate k a).foldl (·++·) b).toList=b.toList++(List.replicate k a.toList).flatten
 | 0,b=>by simp
 | k+1,b=>by
  rw [cw,List.foldl_cons,yhs a k,Array.toList_append,cw,List.flatten_cons,cz]
theorem ye8:OpR X (binaryOp .Mult) yy9:=by
 intro a s σ H x y v u Q I f j h;obtain ⟨z,k,rfl,rfl,m,o,c,q⟩:=h;obtain ⟨t,rfl⟩:=f;obtain ⟨l,rfl⟩:=j;have n:z.length * k.toNat <= 1000 * 1000:=Nat.mul_le_mul c (by omega);refine P.mul_str (by rw [bO (by omega),bO (by omega)]; rfl) (fun _ _=>?_) (fun _ _=>?_) ?_
 .have d:(z.length:Int) * k=((z.length * k.toNat:Nat):Int):=by rw [Int.natCast_mul,Int.toNat_of_nonneg (by omega)]
  have i:(z.length:Int) * k <= (2 ^ 63 - 1:Int):=by rw [d]; omega
  exact Int.not_lt.mpr (Int.le_ediv_of_mul_le (by omega) i)
 .have:=sizeLine_eq;unfold Builtin.Str.tooLong;exact bO (by omega)
 .rw [if_neg (by omega)];by_cases h1:(k == 1 || z.length == 0)=true
  .rw [if_pos h1];refine ⟨.str z,H,I,⟨_,rfl⟩,q z ?_⟩;rcases Bool.or_eq_true_iff.mp h1 with e | e
   .rw [beq_iff_eq.mp e]; simp
   .have g:z.cps.toList=[]:=cI (by have:=beq_iff_eq.mp e; simpa [Str.length] using this);rw [g]; simp
  .rw [if_neg h1];have b:=yhs z.cps k.toNat #[];refine ⟨?_,⟨.str _,H,I.tok _,⟨_,rfl⟩,q _ b⟩⟩
   have e:Str.length ⟨(List.replicate k.toNat z.cps).foldl (·++·) #[]⟩=k.toNat * z.cps.toList.length:=by
    show ((List.replicate k.toNat z.cps).foldl (·++·) #[]).size=_;rw [<- cB,b];simp [List.sum_replicate_nat]
   rw [e,sizeLine_eq,Nat.mul_comm];have:z.cps.toList.length=z.length:=by simp [Str.length]
   rw [this];omega
def ykt (p:Addr) (n:Nat) (h:Heap):Prop:=∃ t u v,IsRange h p 0 (n:Int) 1 t u v
def vbx:List V->Hp->VK->Prop:=fun xs H Q=>∃ n:Nat,xs=[.int n]/\n <= 1000/\∀ q,H q=none->Q (.ref q) (upd H q (.ext (ykt q n)))
theorem yjx:zx X (.type "range") vbx:=by
 intro d s σ H i g Q I r h;obtain ⟨n,rfl,j,q⟩:=h;obtain ⟨u,rfl,f⟩:=ω r;obtain ⟨t,rfl⟩:=f;refine call_range_1 ?_;have c:=IsRange.new s.heap 0 (n:Int) 1 s.toks t (s.toks+1);exact ⟨.ref s.heap.objs.size,_,I.laid (t':=s.toks+1+1) (fun b o e=>bz _ e) (bA _) (show xf X.prog X.w _ _ _ (.ext (ykt s.heap.objs.size n)) from ⟨⟨_,_,_,c⟩,⟨_,c⟩,fun _ _ ⟨t,u,v,a⟩ k=>⟨t,u,v,k _ a⟩⟩),rfl,q _ (I.hok.fresh (bA _))⟩
def yw1:List V->Hp->VK->Prop:=fun xs H Q=>∃ q n,xs=[.ref q]/\H q=some (.ext (ykt q n))/\n <= 1000/\∀ l,H l=none->Q (.ref l) (upd H l (.lst ((List.range n).map fun i=>V.int (i:Nat))))
theorem yes (hc:X.calm=true):zx X (.type "list") yw1:=by
 intro g s σ H E D Q I r h;obtain ⟨p,n,rfl,e,F,q⟩:=h;obtain ⟨u,rfl,j⟩:=ω r;cases j;obtain ⟨t,u,v,x⟩:=(show xf X.prog X.w H s.heap p (.ext (ykt p n)) from I.hok p _ e).1;have c:Builtin.Range.rangeSize 0 (n:Int) 1=(n:Int):=by rw [rangeSize_one]; split <;> omega
 refine call_list_range (n:=n) (I.ok.hd hc) x (small_one (by omega) (by omega) (by omega) (by omega)) (by rw [c]) (by omega) fun m o b A B k a=>?_
 have z:wn ((List.range n).map fun i=>V.int (i:Nat)) b.toList:=ycg (by have y:=a.1; have C:b.toList.length=b.size:=cB; rw [bv,bW]; omega) fun i v f=>by
  obtain ⟨t,rfl⟩:=a.2 i v (by rw [<- Array.getElem?_toList]; exact f)
  have d:i < n:=by
   have y:=a.1;have l:=(cF.mp f).1;rw [cB] at l;omega
  exact ⟨.int (i:Nat),by rw [bB,cL d]; rfl,⟨t,by rw [show (0+(i:Int) * 1)=(i:Int) by omega]⟩⟩
 have G:=sizeLine_eq;exact ⟨.ref s.heap.objs.size,_,I.laid (t':=o) B (bA _) (show xf X.prog X.w _ m _ (.lst _) from ⟨by rw [bv,bW]; omega,b.toList,A,z,by rw [Array.toArray_toList]; exact k⟩),rfl,q _ (I.hok.fresh (bA _))⟩
end
section
variable {prog:Program} {w:World}
def yz1 (k:Int × List Int):Int:=reduceHash (Builtin.Tuple.tupleHashOf [hashInt k.1,reduceHash (Builtin.Tuple.tupleHashOf (k.2.map hashInt))])
variable {A:Around} {E:Value->Shared->Prop} {s:Shared}
end
abbrev NX:=(Int × List Int) × Addr × Addr
def vbj (x:NX):DictEntry:=⟨yz1 x.1,.ref x.2.1,.ref x.2.2⟩
def ND (a:Addr) (xs:List NX):HO:=.ext fun h=>(a == sysModules)=false/\∃ o es ep,h.get? a=some o/\o.ExactDict/\o.data=.dict es ep/\es.toList=xs.map vbj
def NKy (H:Hp) (p:Addr) (k:Int × List Int):Prop:=∃ b,H p=some (.tup [.int k.1,.ref b])/\H b=some (.tup (k.2.map V.int))
structure NDt (H:Hp) (a:Addr) (xs:List NX):Prop where
 o:H a=some (ND a xs)
 k:∀ x∈xs,NKy H x.2.1 x.1
 n:(xs.map (·.1)).Nodup
 l:xs.length < sizeLine
def yok:V->List V->Hp->VK->Prop:=fun x vs H Q=>∃ l xs y,∃ i:Nat,x=.ref l/\vs=[.int i,y]/\H l=some (.lst xs)/\i <= xs.length/\xs.length < 1000000/\Q .non (upd H l (.lst (xs.take i++y :: xs.drop i)))
theorem ygg {X:Cx}:MtM X "list.insert" yok:=by
 intro j s σ H x w v u Q I m o h;obtain ⟨l,C,y,i,rfl,rfl,c,A,B,q⟩:=h;cases m
 cases o with
 | cons r1 rr =>
  cases rr with
  | cons r2 rn =>
   cases rn;obtain ⟨t,rfl⟩:=r1
   rename_i u2
   obtain ⟨z,a,n,r,p,e⟩:=I.lstM c;have d:(-(2 ^ 63):Int) <= (i:Int):=Int.le_trans (by decide) (Int.natCast_nonneg i);have f:(i:Int) < 2 ^ 63:=Int.lt_of_lt_of_le (show (i:Int) < 1000001 by omega) (by decide)
   have g:(if (i:Int) < 0 then ((i:Int)+(a.toArray.size:Int)).toNat else min (i:Int).toNat a.toArray.size)=i:=by
    rw [if_neg (by omega),bH,<- p];omega
   generalize (i:Int)=x at d f g ⊢;have k:=fitsIndex_both d f;have b:a.toArray.size <= sizeLine:=by rw [bH]; omega
   refine call_meets PySem.F.slot_list_insert ⟨_,e,rfl⟩ PySem.F.entry_list_insert (PySem.F.args_list_insert_3 _ _ _) (PySem.AutoSeq1.list_insert_list_int_val_1 l a.toArray n x t u2 (by rw [k]; exact fun z=>nomatch z) b) ⟨e,?_⟩
   refine ⟨.non,_,I.lset (its':=a.take i++u2 :: a.drop i) c e ?_ ((r.take i).append (.cons r2 (r.drop i))) ?_,rfl,q⟩
   .show (a.toArray.extract 0 (if x < 0 then (x+(a.toArray.size:Int)).toNat else min x.toNat a.toArray.size)).push u2++a.toArray.extract (if x < 0 then (x+(a.toArray.size:Int)).toNat else min x.toNat a.toArray.size)=_;rw [g];apply Array.ext';rw [Array.toList_append,Array.toList_push,Array.toList_extract,Array.toList_extract];show (List.take (i - 0) (List.drop 0 a))++[u2]++List.take (a.toArray.size - i) (List.drop i a)=_;rw [Nat.sub_zero,List.drop_zero,bH,cA (l:=List.drop i a) (by rw [cM]; exact bA _),cz];rfl
   .rw [bC,bT,ce,cM,sizeLine_eq];omega
end L2
namespace MixI
def giv (c b:Int):Int:=if b=1 then c else 16777216 - c
def yks (x:Int):Nat:=if x == 0 then 0 else x.natAbs.log2+1
def shL (ws cs:List Int) (b:Int):List Int:=List.zipWith (fun w c=>w * giv c b) ws cs
def grL (sh:List Int):List Int:=sh.map fun s=>31 * (sh.length:Int) * s+sh.sum
def tOf (s:Int):Nat:=yks s - 48
def lrn (ws cs:List Int) (b:Int):List Int:=(grL (shL ws cs b)).map fun v=>v / 2 ^ tOf (grL (shL ws cs b)).sum
def vap (ws cs:List Int):Int:=(List.zipWith (fun w c=>w * c) ws cs).sum
def ynd (ws cs:List Int):Int:=vap ws cs / ws.sum
structure WOk (k:Nat) (ws:List Int):Prop where
 len:ws.length=k
 one:∀ w∈ws,1 <= w
 top:∀ w∈ws,w < 281474976710656
structure COk (k:Nat) (cs:List Int):Prop where
 len:cs.length=k
 lo:∀ c∈cs,32768 <= c
 hi:∀ c∈cs,c <= 16744448
theorem ym4 {c b:Int} (h1:32768 <= c) (h2:c <= 16744448):32768 <= giv c b:=by unfold giv; split <;> omega
theorem ů {ws cs:List Int} {b:Int} (h:ws.length=cs.length):(shL ws cs b).length=ws.length:=by
 unfold shL; rw [List.length_zipWith,<- h]; omega
theorem ygy {sh:List Int}:(grL sh).length=sh.length:=by unfold grL; rw [bv]
theorem ynv {k:Nat} {ws cs:List Int} {b:Int} (hw:WOk k ws) (hc:COk k cs):(lrn ws cs b).length=k:=by
 unfold lrn; rw [bv,ygy,ů (by rw [hw.len,hc.len]),hw.len]
theorem Ĳ (m d:Int):∀ sh:List Int,(sh.map fun s=>m * s+d).sum=m * sh.sum+sh.length * d
 | []=>by simp
 | s :: r=>by
  simp only [cm,List.sum_cons,Ĳ m d r,ce,Int.natCast_add,Int.natCast_one,Int.mul_add,Int.add_mul];omega
theorem yhl (sh:List Int):(grL sh).sum=32 * (sh.length:Int) * sh.sum:=by
 unfold grL;rw [Ĳ,Int.mul_assoc,Int.mul_assoc];generalize (sh.length:Int) * sh.sum=x;omega
theorem yis:∀ {l:List Int},(∀ x∈l,0 <= x)->0 <= l.sum
 | [],_=>by simp
 | a :: r,h=>by
  have d:=h a (by simp);have c:=yis (l:=r) fun x b=>h x (by simp [b]);rw [List.sum_cons]; omega
theorem yk7:∀ {l:List Int} {y:Int},(∀ x∈l,0 <= x)->y∈l->y <= l.sum
 | a :: r,y,h,hy=>by
  have f:=h a (by simp);have b:∀ x∈r,0 <= x:=fun x c=>h x (by simp [c]);have d:=yis b;rw [List.sum_cons];rcases bI.mp hy with e | hy
  .omega
  .have:=yk7 b hy; omega
theorem yd4 {c:Int}:∀ {l:List Int},(∀ x∈l,c <= x)->c * l.length <= l.sum
 | [],_=>by simp
 | a :: r,h=>by
  have e:=h a (by simp);have d:=yd4 (l:=r) fun x b=>h x (by simp [b]);rw [List.sum_cons,ce,Int.natCast_add,Int.natCast_one,Int.mul_add]; omega
theorem yll {c:Int}:∀ {l:List Int},(∀ x∈l,x <= c)->l.sum <= c * l.length
 | [],_=>by simp
 | a :: r,h=>by
  have e:=h a (by simp);have d:=yll (l:=r) fun x b=>h x (by simp [b]);rw [List.sum_cons,ce,Int.natCast_add,Int.natCast_one,Int.mul_add]; omega
theorem ym0 {f:Int->Int} {m:Int}:∀ {ws cs:List Int},ws.length=cs.length->(∀ w∈ws,0 <= w)->(∀ c∈cs,m <= f c)->m * ws.sum <= (List.zipWith (fun w c=>w * f c) ws cs).sum
 | [],[],_,_,_=>by simp
 | w :: r,c :: t,h,h1,h2=>by
  have i:=ym0 (f:=f) (m:=m) (ws:=r) (cs:=t) (by simpa using h) (fun x b=>h1 x (by simp [b])) fun x b=>h2 x (by simp [b]);have a:=cC (h2 c (by simp)) (h1 w (by simp));rw [List.zipWith_cons_cons,List.sum_cons,List.sum_cons,Int.mul_add,Int.mul_comm m w]; omega
theorem ylb {f:Int->Int} {m:Int}:∀ {ws cs:List Int},ws.length=cs.length->(∀ w∈ws,0 <= w)->(∀ c∈cs,f c <= m)->(List.zipWith (fun w c=>w * f c) ws cs).sum <= m * ws.sum
 | [],[],_,_,_=>by simp
 | w :: r,c :: t,h,h1,h2=>by
  have i:=ylb (f:=f) (m:=m) (ws:=r) (cs:=t) (by simpa using h) (fun x b=>h1 x (by simp [b])) fun x b=>h2 x (by simp [b]);have a:=cC (h2 c (by simp)) (h1 w (by simp));rw [List.zipWith_cons_cons,List.sum_cons,List.sum_cons,Int.mul_add,Int.mul_comm m w]; omega
theorem WOk.pos {k:Nat} {ws:List Int} (h:WOk k ws) (hk:1 <= k):1 <= ws.sum:=by
 have:=yd4 (c:=1) h.one;rw [h.len] at this; omega
theorem WOk.small {k:Nat} {ws:List Int} (h:WOk k ws) (hk:k <= 6):ws.sum <= 1688849860263936:=by
 have:=yll (c:=281474976710656) fun x a=>Int.le_of_lt (h.top x a);rw [h.len] at this; omega
theorem yec {k:Nat} {ws cs:List Int} (hk:1 <= k) (hw:WOk k ws) (hc:COk k cs):32768 <= ynd ws cs/\ynd ws cs <= 16744448:=by
 have e:ws.length=cs.length:=by rw [hw.len,hc.len]
 have d:∀ w∈ws,0 <= w:=fun w h=>by have:=hw.one w h; omega
 have p:=hw.pos hk;have a:=ym0 (f:=fun c=>c) e d hc.lo;have b:=ylb (f:=fun c=>c) e d hc.hi;unfold ynd vap;exact ⟨(Int.le_ediv_iff_mul_le (by omega)).mpr a,Int.le_of_lt_add_one ((Int.ediv_lt_iff_lt_mul (by omega)).mpr (by rw [Int.add_mul]; omega))⟩
theorem yde (t:Nat):(2:Int) ^ t=((2 ^ t:Nat):Int):=by rw [Int.natCast_pow]; rfl
theorem yht (t:Nat):(0:Int) < 2 ^ t:=by rw [yde]; exact Int.natCast_pos.mpr (Nat.pow_pos (by decide))
theorem yl8 {s:Int} (h:1 <= s):s < 281474976710656 * 2 ^ tOf s/\(tOf s=0\/140737488355328 * 2 ^ tOf s <= s):=by
 have f:s.natAbs≠0:=by omega
 have e:(s.natAbs:Int)=s:=by omega
 have a:=Nat.log2_self_le f;have b:=@Nat.lt_log2_self s.natAbs;unfold tOf yks;rw [if_neg (by simp; omega)];generalize s.natAbs.log2=L at a b ⊢;rcases Nat.lt_or_ge L 48 with q | q
 .have z:L+1 - 48=0:=by omega
  rw [z];refine ⟨?_,.inl rfl⟩;have:2 ^ (L+1) <= 2 ^ 48:=Nat.pow_le_pow_right (by decide) (by omega);have c:(2:Nat) ^ 48=281474976710656:=by decide
  rw [c] at this;rw [<- e,Int.pow_zero,Int.mul_one];omega
 .obtain ⟨t,rfl⟩:∃ t,L=47+t:=⟨L - 47,by omega⟩;have z:47+t+1 - 48=t:=by omega
  rw [z,yde];have d:(2:Nat) ^ (47+t)=140737488355328 * 2 ^ t:=by rw [Nat.pow_add]
  have c:(2:Nat) ^ (47+t+1)=281474976710656 * 2 ^ t:=by rw [show 47+t+1=48+t by omega,Nat.pow_add]
  rw [d] at a;rw [c] at b;generalize 2 ^ t=T at a b ⊢;exact ⟨by omega,.inr (by omega)⟩
section
variable {k:Nat} {ws cs:List Int} {b:Int}
theorem yhh (hw:WOk k ws) (hc:COk k cs):∀ s∈shL ws cs b,1 <= s:=by
 intro s a;unfold shL at a;rw [List.mem_iff_getElem] at a;obtain ⟨i,d,rfl⟩:=a;rw [List.length_zipWith] at d;rw [List.getElem_zipWith];have e:=hw.one ws[i] (bZ _);have c:=ym4 (b:=b) (hc.lo cs[i] (bZ _)) (hc.hi cs[i] (bZ _));have:=Int.mul_le_mul e c (by decide) (by omega);omega
theorem yk3 {sh:List Int} (h:∀ s∈sh,1 <= s):∀ v∈grL sh,sh.sum <= v/\v <= (grL sh).sum/\0 <= v:=by
 have e:=yis (l:=sh) fun x d=>by have:=h x d; omega
 have a:∀ v∈grL sh,sh.sum <= v:=fun v a=>by
  unfold grL at a;obtain ⟨s,b,rfl⟩:=bD.mp a;have:=h s b;have:0 <= 31 * (sh.length:Int) * s:=Int.mul_nonneg (Int.mul_nonneg (by decide) (Int.natCast_nonneg _)) (by omega);omega
 exact fun v c=>⟨a v c,yk7 (fun x d=>by have:=a x d; omega) c,by have:=a v c; omega⟩
theorem ymp (hk:1 <= k) (hk6:k <= 6) (hw:WOk k ws) (hc:COk k cs):WOk k (lrn ws cs b):=by
 have j:(shL ws cs b).length=k:=by rw [ů (by rw [hw.len,hc.len]),hw.len]
 have g:=yhh (b:=b) hw hc
 have o:1 <= (shL ws cs b).sum:=by
  have:=yd4 (c:=1) g;rw [j] at this; omega
 have f:=yk3 g;have d:=yhl (shL ws cs b);rw [j] at d
 have p:1 <= (grL (shL ws cs b)).sum:=by
  rw [d];have:32 * (k:Int) * 1 <= 32 * (k:Int) * (shL ws cs b).sum:=cC o (by omega);omega
 have n:(grL (shL ws cs b)).sum <= 192 * (shL ws cs b).sum:=by
  rw [d]; exact cr (by omega) (by omega)
 obtain ⟨r,a⟩:=yl8 p;have i:=yht (tOf (grL (shL ws cs b)).sum);refine ⟨ynv hw hc,fun w h=>?_,fun w h=>?_⟩
 .obtain ⟨v,e,rfl⟩:=bD.mp h;obtain ⟨l,q,m⟩:=f v e;refine (Int.le_ediv_iff_mul_le i).mpr ?_;rcases a with a | a
  .rw [a,Int.pow_zero]; omega
  .generalize (2:Int) ^ tOf (grL (shL ws cs b)).sum=T at *;omega
 .obtain ⟨v,e,rfl⟩:=bD.mp h;obtain ⟨l,q,m⟩:=f v e;exact (Int.ediv_lt_iff_lt_mul i).mpr (by omega)
theorem yf5 {g:Int->Int->Int} {ws cs:List Int} (h:cs.length=ws.length):(List.range ws.length).map (fun i=>g ((ws[i]?).getD 0) ((cs[i]?).getD 0))=List.zipWith g ws cs:=by
 apply List.ext_getElem
 .rw [bv,bW,List.length_zipWith]; omega
 .intro i a b;rw [bv,bW] at a;rw [cQ,List.getElem_range,List.getElem_zipWith,bx a,bx (by omega)];rfl
end
end MixI
namespace SpanMath
def rn (d:List Int):Nat->Int
 | 0=>0
 | k+1=>rn d k * 256+(d[k]?).getD 0
def Byt (d:List Int):Prop:=∀ x∈d,0 <= x/\x <= 255
theorem ytl {d:List Int} (h:Byt d) (k:Nat):0 <= (d[k]?).getD 0/\(d[k]?).getD 0 <= 255:=by
 cases e:d[k]? with
 | none=>exact ⟨by decide,by decide⟩
 | some x=>exact h x (bM e)
theorem yim {d:List Int} (h:Byt d) (k:Nat):∀ r,∃ q,rn d (k+r)=rn d k * pw r+q/\0 <= q/\q < pw r
 | 0=>⟨0,by show rn d k=rn d k * 1+0; omega,by decide,by decide⟩
 | r+1=>by
  obtain ⟨q,e,f,c⟩:=yim h k r;obtain ⟨a,b⟩:=ytl h (k+r);refine ⟨q * 256+(d[k+r]?).getD 0,?_,by omega,?_⟩
  .show rn d (k+r) * 256+(d[k+r]?).getD 0=rn d k * (pw r * 256)+_;rw [e,<- Int.mul_assoc,Int.add_mul,Int.add_assoc]
  .show _ < pw r * 256;omega
theorem ykh {d:List Int} (h:Byt d) (k r:Nat) (l w':Int):(l * pw r <= rn d (k+r)/\rn d (k+r) < l * pw r+w' * pw r) ↔ (l <= rn d k/\rn d k < l+w'):=by
 obtain ⟨q,e,g,i⟩:=yim h k r;have c:=uv r;rw [e,<- Int.add_mul];generalize rn d k=v;generalize pw r=p at c g i ⊢
 constructor
 .rintro ⟨a,b⟩
  constructor
  .refine Int.le_of_lt_add_one (Int.lt_of_mul_lt_mul_right (a:=p) ?_ (Int.le_of_lt c));rw [Int.add_mul,Int.one_mul];omega
  .refine Int.lt_of_mul_lt_mul_right (a:=p) ?_ (Int.le_of_lt c);omega
 .rintro ⟨a,b⟩;have j:=cr a (Int.le_of_lt c);have f:=cr (show v+1 <= l+w' by omega) (Int.le_of_lt c);rw [Int.add_mul v 1 p,Int.one_mul] at f;omega
structure InS (d:List Int) (x:Sn):Prop where
 lo:x.1 <= rn d (sz x)
 hi:rn d (sz x) < x.1+x.2.1
theorem yxr (l w' s':Int):∃ r:Nat,ren l w' s'=(l * pw r,w' * pw r,s'+r):=by
 unfold ren
 split
 .split
  .exact ⟨2,rfl⟩
  .exact ⟨1,rfl⟩
 .refine ⟨0,?_⟩;show (l,w',s')=(l * 1,w' * 1,s'+0);rw [Int.mul_one,Int.mul_one,Int.add_zero]
theorem ylu {d:List Int} (h:Byt d) {l w' s':Int} (hs:0 <= s'):InS d (ren l w' s') ↔ (l <= rn d s'.toNat/\rn d s'.toNat < l+w'):=by
 obtain ⟨r,e⟩:=yxr l w' s';rw [e]
 have c:sz (l * pw r,w' * pw r,s'+r)=s'.toNat+r:=by
  show (s'+(r:Int)).toNat=s'.toNat+r;omega
 rw [<- ykh h s'.toNat r l w']
 constructor
 .rintro ⟨a,b⟩;rw [c] at a b;exact ⟨a,b⟩
 .rintro ⟨a,b⟩;exact ⟨by rw [c]; exact a,by rw [c]; exact b⟩
def Û (d:List Int) (x:Sn) (c:Int):Int:=if rn d (sz x) < x.1+cut x.2.1 c then 1 else 0
theorem Ŝ (d:List Int) (x:Sn) (c:Int):Û d x c=0\/Û d x c=1:=by
 unfold Û
 split
 .exact .inr rfl
 .exact .inl rfl
theorem yol {d:List Int} (hd:Byt d) {x:Sn} {c b:Int} (h:OkS x) (hc:Ch c) (hb:b=0\/b=1) (i:InS d (nar x c b)):InS d x/\b=Û d x c:=by
 have f:=h.ok.z;obtain ⟨k,j,g⟩:=ya8 h.ok.w0 h.ok.w1 hc;unfold nar at i;rcases hb with rfl | rfl
 .rw [if_neg (by decide)] at i;obtain ⟨e,a⟩:=(ylu hd (by omega)).mp i;have e:x.1+cut x.2.1 c <= rn d (sz x):=e;have a:rn d (sz x) < x.1+cut x.2.1 c+(x.2.1 - cut x.2.1 c):=a;refine ⟨⟨by omega,by omega⟩,?_⟩;unfold Û;rw [if_neg (by omega)]
 .rw [if_pos rfl] at i;obtain ⟨e,a⟩:=(ylu hd (by omega)).mp i;have e:x.1 <= rn d (sz x):=e;have a:rn d (sz x) < x.1+cut x.2.1 c:=a;refine ⟨⟨by omega,by omega⟩,?_⟩;unfold Û;rw [if_pos a]
theorem yk5:∀ (k:Nat) (d:List Int),k <= d.length->rn d k=val (d.take k)
 | 0,_,_=>rfl
 | k+1,d,h=>by
  have a:k < d.length:=by omega
  have e:d.take (k+1)=d.take k++[d[k]]:=by rw [List.take_succ,bx a]; rfl
  rw [e,ydr,<- yk5 k d (by omega)];show rn d k * 256+_=_;rw [bx a];rfl
theorem yhu {d:List Int} (hd:Byt d) {x:Sn} (h:OkS x) (hl:(tL x).length <= d.length) (hp:d.take (tL x).length=tL x):InS d x:=by
 have g:=yp0 h
 have e:rn d (sz x - tK x)=tCn x:=by
  rw [<- yia x,yk5 _ _ hl,hp,yu9 h]
 obtain ⟨q,b,j,i⟩:=yim hd (sz x - tK x) (tK x);have f:sz x - tK x+tK x=sz x:=by omega
 rw [f,e] at b;have a:=Ũ h.ok;have c:=(yl3 x.1 (uv (tK x))).1;unfold yfk at a;have a:(tCn x+1) * pw (tK x) <= x.1+x.2.1:=a;have c:x.1 <= tCn x * pw (tK x):=c;rw [Int.add_mul,Int.one_mul] at a;exact ⟨by rw [b]; omega,by rw [b]; omega⟩
end SpanMath
namespace Law
local macro_rules | `(tactic| rfl')=>`(tactic| walk_at "rd")
local macro_rules | `(tactic| right)=>`(tactic| decide +kernel)
open PySem L2
local macro_rules | `(tactic| exists $n:num,$s:str)=>do
 let ts<-((s.getString.splitOn " ").map fun x=>Lean.mkIdent (((if n.getNat<4 then `_root_.Law else `_root_.L2) ++ x.toName:Lean.Name))).toArray.mapM fun x=>match n.getNat%4 with
  | 0=>`(Lean.Parser.Tactic.tacticSeq| refine $x ?_)
  | 1=>`(Lean.Parser.Tactic.tacticSeq| (with_reducible refine' $x (by assumption) ?q ?_; (case q=>first | assumption | exact yc)))
  | 2=>`(Lean.Parser.Tactic.tacticSeq| (with_reducible refine' $x ?q ?_; (case q=>first | assumption | exact yc)))
  | _=>`(Lean.Parser.Tactic.tacticSeq| (with_reducible refine' $x ?q ?n ?_; (case q=>first | assumption | exact yc); (case n=>with_unfolding_all decide +kernel)))
 `(tactic| first $[| $ts:tacticSeq]*)
local macro_rules | `(tactic| exists $n:num,$m:num)=>do
 let xs:=Array.replicate n.getNat (<-`(some _))++Array.replicate m.getNat (<-`(none))
 `(tactic| (try dsimp only [v9]; refine yo (σ':=[$xs,*]) rfl ?_))
local macro_rules | `(tactic| left)=>let h:=Lean.mkIdent `h; `(tactic| first | (cases $h:ident; subst_vars; rfl) | repeat first | (obtain ⟨e,_⟩:=$h:ident; subst e; rfl) | obtain ⟨_,$h:ident⟩:=$h:ident)
local macro_rules | `(tactic| exists $a:ident,$b:ident,$c:ident)=>let h:=Lean.mkIdent `h; let s:=Lean.mkIdent `s; let H:=Lean.mkIdent `H; let Q:=Lean.mkIdent `Q; let E:=Lean.mkIdent `E; let A:=Lean.mkIdent `A; `(tactic| (refine $a $b (fun _ $H $Q $E $h=>?_) (fun _ $A _ $s $H _ $Q $E $c $h=>?_); left))
local macro_rules | `(tactic| walk_at "side")=>`(tactic| first | exact ⟨by decide,by decide⟩ | (show (0:Int) < _; first | decide | omega) | exact Or.inl ⟨by omega,by omega⟩ | exact Or.inr ⟨by omega,by omega⟩ | exact ⟨by omega,by omega⟩ | exact ⟨by decide,by decide,by decide⟩)
local macro_rules | `(tactic| walk_at "len")=>`(tactic| first | decide | (simp only [ce,List.length_nil]; decide))
local macro_rules | `(tactic| walk_at "rd1")=>`(tactic| with_reducible first
 | exists 4,"yy8"
 | (refine' yxs ?rdv ?_; (case rdv=>with_unfolding_all rfl))
 | exists 4,"i_c vbp vbq yvk vbs vb1 vbg yys yyi yvs ysn yuv yo5 ŭ yn5 yo3 yua yzb vbh yzu yzw ynj yw2 ywt yzv vbu yyz yy5 yyy yzl yeg ysp vbv yz0 yyr yv6 vbk yjt yu8 yza vbn i_U g0 g1 g2 g3 g4 g5 g6 g7 g8 g9 g10 g11 g12 g13 g14 g15 g16 ypb yvy Ĥ ė yzn yyl yyx yn7 ytf yo4 yo7 you ywr yn6 yt4 yw0 yoe yv3 ypa yob ys9 yze yki ysj yn4 yog"
 | (refine' i_shlC ?rdp ?rdq ?_; (case rdp=>with_unfolding_all exact ⟨by decide,by decide,by decide⟩); (case rdq=>with_unfolding_all decide))
 | (refine' i_powC ?rdp ?rdq ?_; (case rdp=>with_unfolding_all exact ⟨by decide,by decide,by decide⟩); (case rdq=>with_unfolding_all decide))
 | exists 4,"ysi"
 | (refine i_I ?rdc ?_; (case rdc=>with_unfolding_all walk_at "side")))
local macro_rules | `(tactic| walk_at "rd")=>`(tactic| repeat walk_at "rd1")
variable {D c c' cl cl' ct' dc dq ds md p q tl y:Addr} {U U' W' W2:Addr->Prop} {L M:List (Str × List Int)} {ts xs:List Int} {i j m':Nat} {tp:Nat->Addr} {O O' O2:Nat->Addr->Prop} {bt:Nat->Int} {R:Prop} {tu:Str->Addr}
def top (i:Nat):Stmt:=PySem.Challenge.pw_foretell_k40_put_and_told.main.body.getD i (.Pass ⟨0,0,0,0⟩)
abbrev vaa:Stmt:=top 20
abbrev yz3:Stmt:=top 21
abbrev yz9:Stmt:=top 22
abbrev vab:Stmt:=top 23
abbrev vaf:Stmt:=top 24
abbrev vag:Stmt:=top 25
abbrev vai:Stmt:=top 26
abbrev yz2:Stmt:=top 27
abbrev yz8:Stmt:=top 28
abbrev ypn:Stmt:=top 29
abbrev yqa:Stmt:=top 30
abbrev ypx:Stmt:=y6 (top 35) 0
abbrev yp9:Stmt:=y6 (top 35) 1
abbrev ypj:Stmt:=y6 (top 35) 2
abbrev yrl:Stmt:=y6 (top 36) 0
abbrev yq0:Stmt:=y6 (top 36) 1
abbrev yq1:Stmt:=y6 (top 36) 2
abbrev yql:Stmt:=y6 (top 37) 0
abbrev yp5:Stmt:=y6 (top 37) 1
abbrev ypr:Stmt:=y6 (top 37) 2
abbrev yrf:Stmt:=top 38
abbrev yqk:Stmt:=top 44
abbrev yrv:Stmt:=top 45
abbrev ypk:Stmt:=top 46
abbrev ypi:Stmt:=top 47
abbrev yp3:Stmt:=top 48
abbrev yrg:Stmt:=top 49
abbrev yri:Stmt:=top 50
abbrev yrp:Stmt:=y6 (top 51) 0
abbrev ypl:Stmt:=y6 (top 51) 2
abbrev yp7:Stmt:=y6 (top 56) 0
abbrev yq3:Stmt:=y6 (top 56) 2
abbrev yqi:Stmt:=y6 (top 56) 3
abbrev yrq:Stmt:=y6 (top 59) 0
abbrev yq7:Stmt:=y6 (top 59) 1
abbrev yqx:Stmt:=y6 (top 59) 2
abbrev yps:Stmt:=y6 (top 59) 3
abbrev yru:Stmt:=y6 (top 59) 7
abbrev yrw:Stmt:=y6 (top 59) 8
abbrev yp4:Stmt:=y6 (top 59) 9
abbrev ypu:Stmt:=top 62
abbrev ypt:Stmt:=top 63
abbrev yqd:Stmt:=top 68
abbrev yq2:Stmt:=top 69
abbrev yq9:Stmt:=y6 (top 70) 0
abbrev yqr:Stmt:=y6 (top 70) 2
abbrev yrm:Stmt:=y6 (top 70) 3
abbrev ypm:Stmt:=y6 (top 70) 5
abbrev yp1:Stmt:=y6 (top 70) 6
abbrev yp2:Stmt:=y6 (top 72) 0
abbrev yrb:Stmt:=y6 (top 72) 1
abbrev yqq:Stmt:=y6 (top 72) 2
abbrev yro:Stmt:=y6 (top 72) 3
abbrev yra:Stmt:=y6 (top 72) 5
abbrev yrn:Stmt:=top 74
abbrev yq8:Stmt:=top 75
abbrev yqu:Stmt:=top 76
abbrev yrx:Stmt:=top 77
abbrev yqw:Stmt:=top 78
abbrev ypo:Stmt:=y6 (top 80) 0
abbrev yqn:Stmt:=y6 (top 80) 1
abbrev ypy:Stmt:=y6 (top 80) 2
abbrev yq6:Stmt:=y6 (top 80) 3
abbrev yqz:Stmt:=top 85
abbrev yqt:Stmt:=top 86
abbrev yqp:Stmt:=top 87
abbrev ypv:Stmt:=y6 (top 88) 0
abbrev yfi:Stmt:=y6 (top 89) 0
abbrev ypp:Stmt:=y6 (top 89) 1
abbrev yrt:Stmt:=y6 (top 89) 2
abbrev yqs:Stmt:=y6 (top 89) 3
abbrev yfh:Stmt:=y6 (top 89) 4
abbrev yqv:Stmt:=y6 (top 89) 6
abbrev yqb:Stmt:=y6 (top 89) 7
abbrev yqy:Stmt:=y6 (top 89) 8
abbrev yrs:Stmt:=y6 (top 89) 9
abbrev yph:Stmt:=y6 (top 89) 10
abbrev yqf:Stmt:=y6 (top 89) 11
abbrev yqh:Stmt:=y6 (top 89) 12
abbrev ypw:Stmt:=y6 (top 89) 13
abbrev yry:Stmt:=y6 (top 89) 14
abbrev yp8:Stmt:=top 91
abbrev yqc:Stmt:=top 92
abbrev yrj:Stmt:=top 93
abbrev yqe:Stmt:=top 94
abbrev yrh:Stmt:=top 95
abbrev yqj:Stmt:=top 96
abbrev yrr:Stmt:=top 97
abbrev yrk:Stmt:=top 98
abbrev yqg:Stmt:=top 99
abbrev yqm:Stmt:=top 100
set_option genInjectivity false in
set_option genSizeOfSpec false in
structure Ads where
 O5:Addr
 O6:FuncData
 O7:Addr
 O8:FuncData
 O9:Addr
 Oa:FuncData
 Ob:Addr
 Oc:FuncData
 Od:Addr
 Oe:FuncData
 Of:Addr
 Og:FuncData
 Oh:Addr
 Oi:FuncData
 Oj:Addr
 Ol:FuncData
 Om:Addr
 On:FuncData
 Ic:Addr
 Ie:FuncData
 If:Addr
 Ig:FuncData
 Ga:Addr
 Ih:FuncData
 Ii:Addr
 Ij:FuncData
 Ik:Addr
 Il:FuncData
 Gb:Addr
 Im:FuncData
 Io:Addr
 Ip:FuncData
 Iq:Addr
 Ir:FuncData
 Gc:Addr
 Is:FuncData
 Iu:Addr
 Iv:FuncData
 Ix:Addr
 Iy:FuncData
 Iz:Addr
 J0:FuncData
 J1:Addr
 J2:FuncData
 J3:Addr
 J4:FuncData
 J5:Addr
 J6:FuncData
 J7:Addr
 J8:FuncData
 J9:Addr
 Ja:FuncData
 Jb:Addr
 Jc:FuncData
 Jd:Addr
 Je:FuncData
 Gd:Addr
 Jf:FuncData
 Jg:Addr
 Jh:FuncData
 Ge:Addr
 Ji:FuncData
 Jj:Addr
 Jk:FuncData
 Jl:Addr
 Jm:FuncData
 Gf:Addr
 Jn:FuncData
 Jo:Addr
 Jp:FuncData
 Jq:Addr
 Jr:FuncData
 Js:Addr
 Jt:FuncData
 Ju:Addr
 Jv:FuncData
 Jw:Addr
 Jx:FuncData
 Jy:Addr
 Jz:FuncData
 K1:Addr
 K2:FuncData
 K3:Addr
 K4:FuncData
 K5:Addr
 K6:FuncData
 K7:Addr
 K8:FuncData
 Gg:Addr
 K9:FuncData
 Ka:Addr
 Kb:FuncData
 Kc:Addr
 Kd:FuncData
 Ke:Addr
 Kg:FuncData
 Kh:Addr
 Ki:FuncData
 Gh:Addr
 Kj:FuncData
 Kk:Addr
 Kl:FuncData
 Km:Addr
 Kn:FuncData
 Ko:Addr
 Kp:FuncData
 Kq:Addr
 Kr:FuncData
 Ks:Addr
 Kt:FuncData
 Ku:Addr
 Kv:FuncData
 Kw:Addr
 Kx:FuncData
 Ky:Addr
 Kz:FuncData
 L1:Addr
 L6:FuncData
 Gi:Addr
 L7:FuncData
 L8:Addr
 L9:FuncData
 La:Addr
 Lb:FuncData
 Lc:Addr
 Ld:FuncData
 Le:Addr
 Lf:FuncData
 Lg:Addr
 Lh:FuncData
 Li:Addr
 Lj:FuncData
 Gj:Addr
 Lk:FuncData
 D6:Addr
 Ll:FuncData
 Lm:Addr
 Cm:Tok
 Ln:Addr
 Lo:FuncData
 Lp:Addr
 Lq:FuncData
 Lr:Addr
 Ls:FuncData
 D7:Addr
 Lt:FuncData
 Lu:Addr
 Lv:Addr
 Lx:FuncData
 Ly:Addr
 Lz:FuncData
 M0:Addr
 M4:FuncData
 M5:Addr
 M6:FuncData
 M7:Addr
 M8:FuncData
 M9:Addr
 Ma:FuncData
 Mb:Addr
 Mc:FuncData
 Md:Addr
 Me:FuncData
 Mf:Addr
 Mg:FuncData
 Mh:Addr
 Mi:FuncData
 Mj:Addr
 Ml:FuncData
 Mm:Addr
 Mn:FuncData
 Mo:Addr
 Mq:FuncData
 Mr:Addr
 Ms:FuncData
 Mt:Addr
 Mu:FuncData
 Mv:Addr
 Mw:FuncData
 Mx:Addr
 My:FuncData
 Mz:Addr
 N0:FuncData
 Nl:Addr
 Gk:FuncData
 A9:Addr
 A8:Addr
 Af:Addr
 Br:Addr
 Aa:Addr
 A3:Addr
 Ac:Addr
 A2:Addr
 A1:Addr
 A6:Addr
 A0:Addr
 Gm:Addr
 Fh:Addr
 B0:Addr
 De:Addr
 Bx:Addr
 Fi:Addr
 Fj:Addr
 Ah:Addr
 Aj:Addr
 Ax:Addr
 C7:Addr
 A7:Addr
 Fk:Tok
 Nm:Tok
 Bz:Tok
 C0:Tok
 Be:Tok
 Cl:Tok
 Bt:Tok
 C1:Tok
 D2:Tok
 Bf:Tok
 C8:Tok
 Bg:Tok
 C9:Tok
 Bu:Tok
 C2:Tok
 Bv:Tok
 Bh:Tok
 D3:Tok
 Bw:Tok
 Cg:Addr
 Bi:Addr
variable {a:Ads}
structure Txt (K:W.Frag) (mg:Str->Option Value) (a:Ads):Prop where
 C6:Dff K mg "is_whole" vaa ["thing"] a.O5 a.O6
 N3:Dff K mg "is_bit" yz3 ["thing"] a.O7 a.O8
 N4:Dff K mg "is_chance" yz9 ["thing"] a.O9 a.Oa
 N5:Dff K mg "is_sign" vab ["thing"] a.Ob a.Oc
 Fl:Dff K mg "is_list_of_signs" vaf ["thing","most"] a.Od a.Oe
 Fm:Dff K mg "checked_text" vag ["thing"] a.Of a.Og
 N6:Dff K mg "checked_bytes" vai ["thing"] a.Oh a.Oi
 N7:Dff K mg "check_most" yz2 ["thing"] a.Oj a.Ol
 Dc:Dff K mg "check_chance" yz8 ["thing"] a.Om a.On
 Ak:Dff K mg "check_bit" ypn ["thing"] a.Ic a.Ie
 Ec:Dff K mg "gives" yqa ["chance","bit"] a.If a.Ig
 Ed:Dfm K a.A9 "__init__" "Even.__init__" ypx ["self"] a.Ga a.Ih
 Gn:Dfm K a.A9 "chance" "Even.chance" yp9 ["self"] a.Ii a.Ij
 Gp:Dfm K a.A9 "seen" "Even.seen" ypj ["self","bit"] a.Ik a.Il
 Ee:Dfm K a.A8 "__init__" "Quick.__init__" yrl ["self"] a.Gb a.Im
 Gq:Dfm K a.A8 "chance" "Quick.chance" yq0 ["self"] a.Io a.Ip
 Gr:Dfm K a.A8 "seen" "Quick.seen" yq1 ["self","bit"] a.Iq a.Ir
 Ef:Dfm K a.Af "__init__" "Run.__init__" yql ["self"] a.Gc a.Is
 Gs:Dfm K a.Af "chance" "Run.chance" yp5 ["self"] a.Iu a.Iv
 Gt:Dfm K a.Af "seen" "Run.seen" ypr ["self","bit"] a.Ix a.Iy
 Eg:Dff K mg "slot_of" yrf ["kind"] a.Iz a.J0
 Eh:Dff K mg "is_kind" yqk ["thing"] a.J1 a.J2
 Ei:Dff K mg "is_place" yrv ["thing"] a.J3 a.J4
 Ej:Dff K mg "are_places" ypk ["thing"] a.J5 a.J6
 Cn:Dff K mg "is_look" ypi ["thing"] a.J7 a.J8
 Co:Dff K mg "checked_looks" yp3 ["thing"] a.J9 a.Ja
 Ek:Dff K mg "sign_back" yrg ["signs","place"] a.Jb a.Jc
 El:Dff K mg "context_of" yri ["look","signs","node"] a.Jd a.Je
 Em:Dfm K a.Aa "__init__" "Book.__init__" yrp ["self","look"] a.Gd a.Jf
 Gu:Dfm K a.Aa "slot_at" "Book.slot_at" ypl ["self","signs","node"] a.Jg a.Jh
 En:Dfm K a.Br "__init__" "Mixer.__init__" yp7 ["self","many"] a.Ge a.Ji
 Gv:Dfm K a.Br "mixed" "Mixer.mixed" yq3 ["self","chances"] a.Jj a.Jk
 Gw:Dfm K a.Br "learn" "Mixer.learn" yqi ["self","chances","bit"] a.Jl a.Jm
 Dh:Dfm K a.A2 "__init__" "Foreteller.__init__" yrq ["self","looks"] a.Gf a.Jn
 Di:Dfm K a.A2 "arrive" "Foreteller.arrive" yq7 ["self"] a.Jo a.Jp
 Dj:Dfm K a.A2 "chances" "Foreteller.chances" yqx ["self"] a.Jq a.Jr
 Cp:Dfm K a.A2 "chance" "Foreteller.chance" yps ["self"] a.Js a.Jt
 Ca:Dfm K a.A2 "see" "Foreteller.see" yru ["self","bit"] a.Ju a.Jv
 Gy:Dfm K a.A2 "step" "Foreteller.step" yrw ["self","bit"] a.Jw a.Jx
 Gz:Dfm K a.A2 "step_in_sign" "Foreteller.step_in_sign" yp4 ["self","bit"] a.Jy a.Jz
 Eo:Dff K mg "bits_of" ypu ["sign"] a.K1 a.K2
 Ep:Dff K mg "decisions_of" ypt ["text"] a.K3 a.K4
 Er:Dff K mg "written" yqd ["number","size"] a.K5 a.K6
 Cq:Dff K mg "first_block" yq2 ["low","unit"] a.K7 a.K8
 D8:Dfm K a.A3 "__init__" "Span.__init__" yq9 ["self"] a.Gg a.K9
 Dk:Dfm K a.A3 "cut" "Span.cut" yqr ["self","chance"] a.Ka a.Kb
 Cr:Dfm K a.A3 "narrow" "Span.narrow" yrm ["self","chance","bit"] a.Kc a.Kd
 Hb:Dfm K a.A3 "holds_block" "Span.holds_block" ypm ["self","unit"] a.Ke a.Kg
 Cs:Dfm K a.A3 "told" "Span.told" yp1 ["self"] a.Kh a.Ki
 Es:Dfm K a.Ac "__init__" "Seeker.__init__" yp2 ["self","data"] a.Gh a.Kj
 Dl:Dfm K a.Ac "follow" "Seeker.follow" yrb ["self"] a.Kk a.Kl
 Hc:Dfm K a.Ac "byte_at" "Seeker.byte_at" yqq ["self","place"] a.Km a.Kn
 Hd:Dfm K a.Ac "bit" "Seeker.bit" yro ["self","chance"] a.Ko a.Kp
 He:Dfm K a.Ac "told" "Seeker.told" yra ["self"] a.Kq a.Kr
 Et:Dff K mg "press_by" yrn ["foreteller","text"] a.Ks a.Kt
 Ct:Dff K mg "bit_by" yq8 ["foreteller","seeker"] a.Ku a.Kv
 Eu:Dff K mg "sign_by" yqu ["foreteller","seeker"] a.Kw a.Kx
 Ev:Dff K mg "text_by" yrx ["foreteller","seeker","most"] a.Ky a.Kz
 Ew:Dff K mg "read_by" yqw ["foreteller","data","most"] a.L1 a.L6
 D9:Dfm K a.A1 "__init__" "Chain.__init__" ypo ["self","looks"] a.Gi a.L7
 Dm:Dfm K a.A1 "grow" "Chain.grow" yqn ["self","name","text"] a.L8 a.L9
 Hf:Dfm K a.A1 "press" "Chain.press" ypy ["self","name","text"] a.La a.Lb
 Hg:Dfm K a.A1 "read" "Chain.read" yq6 ["self","name","data","most"] a.Lc a.Ld
 Ex:Dff K mg "is_name" yqz ["thing"] a.Le a.Lf
 C5:Dff K mg "checked_name" yqt ["thing"] a.Lg a.Lh
 Ey:Dff K mg "check_base" yqp ["thing"] a.Li a.Lj
 Ez:Dfm K a.A6 "__init__" "Piece.__init__" ypv ["self","base","data"] a.Gj a.Lk
 Po:yi5 K "__init__" "Store.__init__" yfi a.Lm a.D6 a.Ll
 P7:uy K a.Ll ["self","looks","most"] [.int 1000 a.Cm]
 P4:uy K a.Ll ["self","looks","most"] []
 Dn:Dfm K a.A0 "told_looks" "Store.told_looks" ypp ["self"] a.Ln a.Lo
 Hh:Dfm K a.A0 "most_signs" "Store.most_signs" yrt ["self"] a.Lp a.Lq
 Hi:Dfm K a.A0 "names" "Store.names" yqs ["self"] a.Lr a.Ls
 Pp:yi5 K "put" "Store.put" yfh a.Lu a.D7 a.Lt
 P8:uy K a.Lt ["self","name","text","base"] [.none]
 Pq:uy K a.Lt ["self","name","text","base"] []
 P5:yr2 K a.A0 "put" a.D7
 Hj:Dfm K a.A0 "check_length" "Store.check_length" yqv ["self","text"] a.Lv a.Lx
 Hk:Dfm K a.A0 "check_room" "Store.check_room" yqb ["self","name","base"] a.Ly a.Lz
 Cb:Dfm K a.A0 "piece_at" "Store.piece_at" yqy ["self","name"] a.M0 a.M4
 Do:Dfm K a.A0 "links_to" "Store.links_to" yrs ["self","name"] a.M5 a.M6
 Dp:Dfm K a.A0 "chain_to" "Store.chain_to" yph ["self","name"] a.M7 a.M8
 Hl:Dfm K a.A0 "texts_to" "Store.texts_to" yqf ["self","name"] a.M9 a.Ma
 Hm:Dfm K a.A0 "text_of" "Store.text_of" yqh ["self","name"] a.Mb a.Mc
 Hn:Dfm K a.A0 "bytes_of" "Store.bytes_of" ypw ["self","name"] a.Md a.Me
 Ho:Dfm K a.A0 "base_of" "Store.base_of" yry ["self","name"] a.Mf a.Mg
 Aw:Dff K mg "_law_mixed" yp8 ["_law_script","_law_k"] a.Mh a.Mi
 F0:Dff K mg "_law_looks" yqc ["_law_cell","_law_most"] a.Mj a.Ml
 F7:Dff K mg "_law_text" yrj ["_law_cells","_law_size","_law_way"] a.Mm a.Mn
 F8:Dff K mg "_law_names" yqe ["_law_cell"] a.Mo a.Mq
 F9:Dff K mg "_law_learned_of" yrh ["_law_model","_law_base"] a.Mr a.Ms
 Cu:Dff K mg "_law_bits" yqj ["_law_text_here"] a.Mt a.Mu
 Fa:Dff K mg "_law_pressed" yrr ["_law_looks_here","_law_text_here","_law_learned"] a.Mv a.Mw
 Fb:Dff K mg "_law_put" yrk ["_law_store","_law_model","_law_script","_law_k","_law_names_here","_law_tower","_law_far"] a.Mx a.My
 Fc:Dff K mg "_law_told" yqg ["_law_store","_law_looks_here","_law_model","_law_name"] a.Mz a.N0
 Hq:Dff K mg "law" yqm ["_law_script"] a.Nl a.Gk
 Bp:Cls K a.A9
 P9:mg "Even"=some (.ref a.A9)
 Pa:Mk K a.A9 a.Ga
 Al:vo K a.A9 "noughts"
 B6:vo K a.A9 "ones"
 Cc:Cls K a.A8
 Oo:mg "Quick"=some (.ref a.A8)
 Op:Mk K a.A8 a.Gb
 Aq:vo K a.A8 "held"
 Cd:Cls K a.Af
 Pr:mg "Run"=some (.ref a.Af)
 Ps:Mk K a.Af a.Gc
 Bj:vo K a.Af "last"
 Ar:vo K a.Af "length"
 Hr:Cls K a.Br
 Qn:mg "Mixer"=some (.ref a.Br)
 Qo:Mk K a.Br a.Ge
 By:vo K a.Br "kept"
 Cv:Cls K a.Aa
 Pb:mg "Book"=some (.ref a.Aa)
 Pe:Mk K a.Aa a.Gd
 Bq:vo K a.Aa "look"
 Ba:vo K a.Aa "slots"
 Ad:Cls K a.A3
 I1:mg "Span"=some (.ref a.A3)
 I2:Mk K a.A3 a.Gg
 Bk:vo K a.A3 "low"
 As:vo K a.A3 "width"
 B8:vo K a.A3 "size"
 Bl:Cls K a.Ac
 Qp:mg "Seeker"=some (.ref a.Ac)
 Qq:Mk K a.Ac a.Gh
 Ci:vo K a.Ac "data"
 Cj:vo K a.Ac "span"
 B9:vo K a.Ac "number"
 At:vo K a.Ac "reached"
 Ag:Cls K a.A2
 Pt:mg "Foreteller"=some (.ref a.A2)
 Pu:Mk K a.A2 a.Gf
 Bm:vo K a.A2 "looks"
 C3:vo K a.A2 "books"
 C4:vo K a.A2 "mixer"
 Bn:vo K a.A2 "ended"
 Bo:vo K a.A2 "place"
 Au:vo K a.A2 "present"
 Am:Cls K a.A1
 Fn:mg "Chain"=some (.ref a.A1)
 Fo:Mk K a.A1 a.Gi
 Ai:vo K a.A1 "foreteller"
 Ay:vo K a.A1 "links"
 Az:vo K a.A1 "texts"
 Cw:Cls K a.A6
 Oq:mg "Piece"=some (.ref a.A6)
 Os:Mk K a.A6 a.Gj
 Bb:vo K a.A6 "base"
 Bc:vo K a.A6 "data"
 A4:Cls K a.A0
 Fp:mg "Store"=some (.ref a.A0)
 Fq:Mk K a.A0 a.D6
 An:vo K a.A0 "looks"
 Bd:vo K a.A0 "most"
 Av:vo K a.A0 "pieces"
 Ao:vo K a.A0 "chain"
 Qr:mg "NoText"=some (.ref a.Gm)
 Qs:mg "NoBytes"=some (.ref a.Fh)
 Nn:mg "NoMost"=some (.ref a.B0)
 Qt:mg "NoChance"=some (.ref a.De)
 Qu:mg "NoBit"=some (.ref a.Bx)
 Pv:mg "NoLooks"=some (.ref a.Fi)
 Pw:mg "NoPress"=some (.ref a.Fj)
 No:mg "NoName"=some (.ref a.Ah)
 N8:mg "TooLong"=some (.ref a.Aj)
 Ot:mg "Taken"=some (.ref a.Ax)
 Pf:mg "Full"=some (.ref a.C7)
 N9:mg "NoPiece"=some (.ref a.A7)
 Px:XCls K a.Gm
 Pg:XMk K a.Gm
 Py:XCls K a.Fh
 Ph:XMk K a.Fh
 Hs:XCls K a.B0
 Dq:XMk K a.B0
 Pz:XCls K a.De
 Pi:XMk K a.De
 Q0:XCls K a.Bx
 Pj:XMk K a.Bx
 Q1:XCls K a.Fi
 Ou:XMk K a.Fi
 Q2:XCls K a.Fj
 Ov:XMk K a.Fj
 Ht:XCls K a.Ah
 Dr:XMk K a.Ah
 Fd:XCls K a.Aj
 D4:XMk K a.Aj
 N2:XCls K a.Ax
 Fr:XMk K a.Ax
 Np:XCls K a.C7
 I3:XMk K a.C7
 Fe:XCls K a.A7
 D5:XMk K a.A7
 A5:mg "isinstance"=none
 Ff:mg "int"=none
 I4:mg "bool"=none
 Ab:mg "list"=none
 Da:mg "all"=none
 Ae:mg "len"=none
 Hu:mg "min"=none
 Fg:mg "max"=none
 Hv:mg "str"=none
 Ck:mg "tuple"=none
 Hw:mg "zip"=none
 Ds:mg "sum"=none
 Ap:mg "range"=none
 Nq:mg "set"=none
 Dd:mg "LEAST"=some (.int 32768 a.Fk)
 Cy:mg "ONE"=some (.int 16777216 a.Nm)
 Cz:mg "MOST_SIGNS"=some (.int 1000 a.Bz)
 Fs:mg "MOST_BYTES"=some (.int 12000 a.C0)
 Ce:mg "MOST_COUNTED"=some (.int 255 a.Be)
 I5:mg "FARTHEST"=some (.int 8 a.Cl)
 E4:mg "MOST_PLACES"=some (.int 4 a.Bt)
 D0:mg "MOST_LOOKS"=some (.int 6 a.C1)
 Na:mg "NO_SIGN"=some (.int 256 a.D2)
 Dt:mg "FIRST_WEIGHT"=some (.int 1099511627776 a.Bf)
 Hx:mg "OWN_PARTS"=some (.int 31 a.C8)
 Du:mg "MOST_FIGURES"=some (.int 48 a.Bg)
 Db:mg "NODES_END"=some (.int 256 a.C9)
 E5:mg "FIRST_WIDTH"=some (.int 1099511627776 a.Bu)
 Ft:mg "FIRST_SIZE"=some (.int 5 a.C2)
 E6:mg "LEAST_WIDTH"=some (.int 4294967296 a.Bv)
 Dv:mg "MOST_LETTERS"=some (.int 8 a.Bh)
 Nd:mg "LETTERS"=some (.str "abcdefghijklmnopqrstuvwxyz" a.D3)
 E7:mg "MOST_PIECES"=some (.int 60 a.Bw)
 Ow:mg "KINDS"=some (.ref a.Cg)
 Ox:∀ H,SqT K H a.Cg [V.str "even",V.str "quick",V.str "run"]
 Hy:mg "WORTHS"=some (.ref a.Bi)
 D1:∀ H,SqT K H a.Bi [V.int 128,V.int 64,V.int 32,V.int 16,V.int 8,V.int 4,V.int 2,V.int 1]
section
variable {P:Program} {w:World} {K:W.Frag} {mg:Str->Option Value} {base:Heap}
def ju (v0 v1:V):List (Str × V):=[("noughts",v0),("ones",v1)]
section
variable {H:Hp} {dx:Addr} {v0 v1 v:V} {P:V->Prop} {nx:St->Hp->Prop} {σ:St}
section
variable (T:Txt K mg a) (hp:H p=some (.ins a.A9 dx (ju v0 v1)))
include T hp
theorem è (h:P v0):RdX K H p "noughts" P:=rdX hp T.Bp T.Al x0 h
theorem æ (h:wk nx σ (upd H p (.ins a.A9 dx (ju v v1)))):StX K H p "noughts" v nx σ:=stX hp T.Bp T.Al lt2 γ h
theorem yaa (h:P v1):RdX K H p "ones" P:=rdX hp T.Bp T.B6 (we (by right) x0) h
theorem Ż (h:wk nx σ (upd H p (.ins a.A9 dx (ju v0 v)))):StX K H p "ones" v nx σ:=stX hp T.Bp T.B6 lt2 (vx (by right) γ) h
end
theorem å (T:Txt K mg a) (hp:H p=some (.ins a.A9 dx [])) (h:wk nx σ (upd H p (.ins a.A9 dx [("noughts",v)]))):StX K H p "noughts" v nx σ:=stX hp T.Bp T.Al lt0 wt h
theorem ž (T:Txt K mg a) (hp:H p=some (.ins a.A9 dx [("noughts",v0)])) (h:wk nx σ (upd H p (.ins a.A9 dx (ju v0 v)))):StX K H p "ones" v nx σ:=stX hp T.Bp T.B6 lt1 (vx (by right) wt) h
theorem Ġ:(ju v0 v1).lookup ("chance":Str)=none:=(we (by right) (we (by right) Đ))
theorem yab:(ju v0 v1).lookup ("seen":Str)=none:=(we (by right) (we (by right) Đ))
end
local macro_rules | `(tactic| walk_at "rd1")=>`(tactic| first
 | exists 1,"è æ å yaa Ż ž")
def zl (v0:V):List (Str × V):=[("held",v0)]
section
variable {H:Hp} {dx:Addr} {v0 v:V} {P:V->Prop} {nx:St->Hp->Prop} {σ:St}
section
variable (T:Txt K mg a) (hp:H p=some (.ins a.A8 dx (zl v0)))
include T hp
theorem Ŗ (h:P v0):RdX K H p "held" P:=rdX hp T.Cc T.Aq x0 h
theorem Ŕ (h:wk nx σ (upd H p (.ins a.A8 dx (zl v)))):StX K H p "held" v nx σ:=stX hp T.Cc T.Aq lt1 γ h
end
theorem Œ (T:Txt K mg a) (hp:H p=some (.ins a.A8 dx [])) (h:wk nx σ (upd H p (.ins a.A8 dx (zl v)))):StX K H p "held" v nx σ:=stX hp T.Cc T.Aq lt0 wt h
theorem ä:(zl v0).lookup ("chance":Str)=none:=(we (by right) Đ)
theorem ŗ:(zl v0).lookup ("seen":Str)=none:=(we (by right) Đ)
end
local macro_rules | `(tactic| walk_at "rd1")=>`(tactic| first
 | exists 1,"Ŗ Ŕ Œ")
def ģ (v0 v1:V):List (Str × V):=[("last",v0),("length",v1)]
section
variable {H:Hp} {dx:Addr} {v0 v1 v:V} {P:V->Prop} {nx:St->Hp->Prop} {σ:St}
section
variable (T:Txt K mg a) (hp:H p=some (.ins a.Af dx (ģ v0 v1)))
include T hp
theorem ybt (h:P v0):RdX K H p "last" P:=rdX hp T.Cd T.Bj x0 h
theorem yb0 (h:wk nx σ (upd H p (.ins a.Af dx (ģ v v1)))):StX K H p "last" v nx σ:=stX hp T.Cd T.Bj lt2 γ h
theorem ņ (h:P v1):RdX K H p "length" P:=rdX hp T.Cd T.Ar (we (by right) x0) h
theorem Ř (h:wk nx σ (upd H p (.ins a.Af dx (ģ v0 v)))):StX K H p "length" v nx σ:=stX hp T.Cd T.Ar lt2 (vx (by right) γ) h
end
theorem yb8 (T:Txt K mg a) (hp:H p=some (.ins a.Af dx [])) (h:wk nx σ (upd H p (.ins a.Af dx [("last",v)]))):StX K H p "last" v nx σ:=stX hp T.Cd T.Bj lt0 wt h
theorem Ő (T:Txt K mg a) (hp:H p=some (.ins a.Af dx [("last",v0)])) (h:wk nx σ (upd H p (.ins a.Af dx (ģ v0 v)))):StX K H p "length" v nx σ:=stX hp T.Cd T.Ar lt1 (vx (by right) wt) h
theorem ň:(ģ v0 v1).lookup ("chance":Str)=none:=(we (by right) (we (by right) Đ))
theorem yb2:(ģ v0 v1).lookup ("seen":Str)=none:=(we (by right) (we (by right) Đ))
end
local macro_rules | `(tactic| walk_at "rd1")=>`(tactic| first
 | exists 1,"ybt yb0 yb8 ņ Ř Ő")
def yx3 (v0:V):List (Str × V):=[("kept",v0)]
section
variable {H:Hp} {dx:Addr} {v0 v:V} {P:V->Prop} {nx:St->Hp->Prop} {σ:St}
section
variable (T:Txt K mg a) (hp:H p=some (.ins a.Br dx (yx3 v0)))
include T hp
theorem yeu (h:P v0):RdX K H p "kept" P:=rdX hp T.Hr T.By x0 h
theorem yet (h:wk nx σ (upd H p (.ins a.Br dx (yx3 v)))):StX K H p "kept" v nx σ:=stX hp T.Hr T.By lt1 γ h
end
theorem ye6 (T:Txt K mg a) (hp:H p=some (.ins a.Br dx [])) (h:wk nx σ (upd H p (.ins a.Br dx (yx3 v)))):StX K H p "kept" v nx σ:=stX hp T.Hr T.By lt0 wt h
theorem yyu {C:Addr} {nm:Str} (hp:H p=some (.ins C dx (yx3 v0))) (n:nm∉(["kept"]:List Str)) (h:R):MtX H p C nm R:=mtX hp rfl n h
end
local macro_rules | `(tactic| walk_at "rd1")=>`(tactic| first
 | exists 1,"yeu yet ye6"
 | exists 3,"yyu")
def yd1 (v0 v1:V):List (Str × V):=[("look",v0),("slots",v1)]
section
variable {H:Hp} {dx:Addr} {v0 v1 v:V} {P:V->Prop} {nx:St->Hp->Prop} {σ:St}
section
variable (T:Txt K mg a) (hp:H p=some (.ins a.Aa dx (yd1 v0 v1)))
include T hp
theorem yac (h:P v0):RdX K H p "look" P:=rdX hp T.Cv T.Bq x0 h
theorem ō (h:P v1):RdX K H p "slots" P:=rdX hp T.Cv T.Ba (we (by right) x0) h
end
theorem ſ (T:Txt K mg a) (hp:H p=some (.ins a.Aa dx [])) (h:wk nx σ (upd H p (.ins a.Aa dx [("look",v)]))):StX K H p "look" v nx σ:=stX hp T.Cv T.Bq lt0 wt h
theorem œ (T:Txt K mg a) (hp:H p=some (.ins a.Aa dx [("look",v0)])) (h:wk nx σ (upd H p (.ins a.Aa dx (yd1 v0 v)))):StX K H p "slots" v nx σ:=stX hp T.Cv T.Ba lt1 (vx (by right) wt) h
theorem yof {C:Addr} {nm:Str} (hp:H p=some (.ins C dx (yd1 v0 v1))) (n:nm∉(["look","slots"]:List Str)) (h:R):MtX H p C nm R:=mtX hp rfl n h
end
local macro_rules | `(tactic| walk_at "rd1")=>`(tactic| first
 | exists 1,"yac ſ ō œ"
 | exists 3,"yof")
def yi4 (v0 v1 v2 v3:V):List (Str × V):=[("data",v0),("span",v1),("number",v2),("reached",v3)]
section
variable {H:Hp} {dx:Addr} {v0 v1 v2 v3 v:V} {P:V->Prop} {nx:St->Hp->Prop} {σ:St}
section
variable (T:Txt K mg a) (hp:H p=some (.ins a.Ac dx (yi4 v0 v1 v2 v3)))
include T hp
theorem yer (h:P v0):RdX K H p "data" P:=rdX hp T.Bl T.Ci x0 h
theorem yev (h:P v1):RdX K H p "span" P:=rdX hp T.Bl T.Cj (we (by right) x0) h
theorem ź (h:P v2):RdX K H p "number" P:=rdX hp T.Bl T.B9 (we (by right) (we (by right) x0)) h
theorem yad (h:wk nx σ (upd H p (.ins a.Ac dx (yi4 v0 v1 v v3)))):StX K H p "number" v nx σ:=stX hp T.Bl T.B9 lt4 (vx (by right) (vx (by right) γ)) h
theorem Ň (h:P v3):RdX K H p "reached" P:=rdX hp T.Bl T.At (we (by right) (we (by right) (we (by right) x0))) h
theorem ł (h:wk nx σ (upd H p (.ins a.Ac dx (yi4 v0 v1 v2 v)))):StX K H p "reached" v nx σ:=stX hp T.Bl T.At lt4 (vx (by right) (vx (by right) (vx (by right) γ))) h
end
theorem yfa (T:Txt K mg a) (hp:H p=some (.ins a.Ac dx [])) (h:wk nx σ (upd H p (.ins a.Ac dx [("data",v)]))):StX K H p "data" v nx σ:=stX hp T.Bl T.Ci lt0 wt h
theorem yez (T:Txt K mg a) (hp:H p=some (.ins a.Ac dx [("data",v0)])) (h:wk nx σ (upd H p (.ins a.Ac dx [("data",v0),("span",v)]))):StX K H p "span" v nx σ:=stX hp T.Bl T.Cj lt1 (vx (by right) wt) h
theorem ż (T:Txt K mg a) (hp:H p=some (.ins a.Ac dx [("data",v0),("span",v1)])) (h:wk nx σ (upd H p (.ins a.Ac dx [("data",v0),("span",v1),("number",v)]))):StX K H p "number" v nx σ:=stX hp T.Bl T.B9 lt2 (vx (by right) (vx (by right) wt)) h
theorem ŏ (T:Txt K mg a) (hp:H p=some (.ins a.Ac dx [("data",v0),("span",v1),("number",v2)])) (h:wk nx σ (upd H p (.ins a.Ac dx (yi4 v0 v1 v2 v)))):StX K H p "reached" v nx σ:=stX hp T.Bl T.At lt3 (vx (by right) (vx (by right) (vx (by right) wt))) h
theorem yym {C:Addr} {nm:Str} (hp:H p=some (.ins C dx (yi4 v0 v1 v2 v3))) (n:nm∉(["data","span","number","reached"]:List Str)) (h:R):MtX H p C nm R:=mtX hp rfl n h
end
local macro_rules | `(tactic| walk_at "rd1")=>`(tactic| first
 | exists 1,"yer yfa yev yez ź yad ż Ň ł ŏ"
 | exists 3,"yym")
def Ė (v0 v1 v2 v3 v4 v5:V):List (Str × V):=[("looks",v0),("books",v1),("mixer",v2),("ended",v3),("place",v4),("present",v5)]
section
variable {H:Hp} {dx:Addr} {v0 v1 v2 v3 v4 v5 v:V} {P:V->Prop} {nx:St->Hp->Prop} {σ:St}
section
variable (T:Txt K mg a) (hp:H p=some (.ins a.A2 dx (Ė v0 v1 v2 v3 v4 v5)))
include T hp
theorem yb6 (h:P v1):RdX K H p "books" P:=rdX hp T.Ag T.C3 (we (by right) x0) h
theorem ybz (h:P v2):RdX K H p "mixer" P:=rdX hp T.Ag T.C4 (we (by right) (we (by right) x0)) h
theorem ybn (h:P v3):RdX K H p "ended" P:=rdX hp T.Ag T.Bn (we (by right) (we (by right) (we (by right) x0))) h
theorem ybs (h:wk nx σ (upd H p (.ins a.A2 dx (Ė v0 v1 v2 v v4 v5)))):StX K H p "ended" v nx σ:=stX hp T.Ag T.Bn lt6 (vx (by right) (vx (by right) (vx (by right) γ))) h
theorem yb7 (h:P v4):RdX K H p "place" P:=rdX hp T.Ag T.Bo (we (by right) (we (by right) (we (by right) (we (by right) x0)))) h
theorem yb1 (h:wk nx σ (upd H p (.ins a.A2 dx (Ė v0 v1 v2 v3 v v5)))):StX K H p "place" v nx σ:=stX hp T.Ag T.Bo lt6 (vx (by right) (vx (by right) (vx (by right) (vx (by right) γ)))) h
theorem ŋ (h:P v5):RdX K H p "present" P:=rdX hp T.Ag T.Au (we (by right) (we (by right) (we (by right) (we (by right) (we (by right) x0))))) h
theorem ŕ (h:wk nx σ (upd H p (.ins a.A2 dx (Ė v0 v1 v2 v3 v4 v)))):StX K H p "present" v nx σ:=stX hp T.Ag T.Au lt6 (vx (by right) (vx (by right) (vx (by right) (vx (by right) (vx (by right) γ))))) h
end
theorem yb4 (T:Txt K mg a) (hp:H p=some (.ins a.A2 dx [])) (h:wk nx σ (upd H p (.ins a.A2 dx [("looks",v)]))):StX K H p "looks" v nx σ:=stX hp T.Ag T.Bm lt0 wt h
theorem ybu (T:Txt K mg a) (hp:H p=some (.ins a.A2 dx [("looks",v0)])) (h:wk nx σ (upd H p (.ins a.A2 dx [("looks",v0),("books",v)]))):StX K H p "books" v nx σ:=stX hp T.Ag T.C3 lt1 (vx (by right) wt) h
theorem ybp (T:Txt K mg a) (hp:H p=some (.ins a.A2 dx [("looks",v0),("books",v1)])) (h:wk nx σ (upd H p (.ins a.A2 dx [("looks",v0),("books",v1),("mixer",v)]))):StX K H p "mixer" v nx σ:=stX hp T.Ag T.C4 lt2 (vx (by right) (vx (by right) wt)) h
theorem yb5 (T:Txt K mg a) (hp:H p=some (.ins a.A2 dx [("looks",v0),("books",v1),("mixer",v2)])) (h:wk nx σ (upd H p (.ins a.A2 dx [("looks",v0),("books",v1),("mixer",v2),("ended",v)]))):StX K H p "ended" v nx σ:=stX hp T.Ag T.Bn lt3 (vx (by right) (vx (by right) (vx (by right) wt))) h
theorem ybv (T:Txt K mg a) (hp:H p=some (.ins a.A2 dx [("looks",v0),("books",v1),("mixer",v2),("ended",v3)])) (h:wk nx σ (upd H p (.ins a.A2 dx [("looks",v0),("books",v1),("mixer",v2),("ended",v3),("place",v)]))):StX K H p "place" v nx σ:=stX hp T.Ag T.Bo lt4 (vx (by right) (vx (by right) (vx (by right) (vx (by right) wt)))) h
theorem ő (T:Txt K mg a) (hp:H p=some (.ins a.A2 dx [("looks",v0),("books",v1),("mixer",v2),("ended",v3),("place",v4)])) (h:wk nx σ (upd H p (.ins a.A2 dx (Ė v0 v1 v2 v3 v4 v)))):StX K H p "present" v nx σ:=stX hp T.Ag T.Au lt5 (vx (by right) (vx (by right) (vx (by right) (vx (by right) (vx (by right) wt))))) h
theorem yzd {C:Addr} {nm:Str} (hp:H p=some (.ins C dx (Ė v0 v1 v2 v3 v4 v5))) (n:nm∉(["looks","books","mixer","ended","place","present"]:List Str)) (h:R):MtX H p C nm R:=mtX hp rfl n h
end
local macro_rules | `(tactic| walk_at "rd1")=>`(tactic| first
 | exists 1,"yb4 yb6 ybu ybz ybp ybn ybs yb5 yb7 yb1 ybv ŋ ŕ ő"
 | exists 3,"yzd")
def ja (v0 v1 v2:V):List (Str × V):=[("foreteller",v0),("links",v1),("texts",v2)]
section
variable {H:Hp} {dx:Addr} {v0 v1 v2 v:V} {P:V->Prop} {nx:St->Hp->Prop} {σ:St}
section
variable (T:Txt K mg a) (hp:H p=some (.ins a.A1 dx (ja v0 v1 v2)))
include T hp
theorem jx (h:P v0):RdX K H p "foreteller" P:=rdX hp T.Am T.Ai x0 h
theorem ę (h:P v1):RdX K H p "links" P:=rdX hp T.Am T.Ay (we (by right) x0) h
theorem ğ (h:P v2):RdX K H p "texts" P:=rdX hp T.Am T.Az (we (by right) (we (by right) x0)) h
end
theorem jy (T:Txt K mg a) (hp:H p=some (.ins a.A1 dx [])) (h:wk nx σ (upd H p (.ins a.A1 dx [("foreteller",v)]))):StX K H p "foreteller" v nx σ:=stX hp T.Am T.Ai lt0 wt h
theorem Ĝ (T:Txt K mg a) (hp:H p=some (.ins a.A1 dx [("foreteller",v0)])) (h:wk nx σ (upd H p (.ins a.A1 dx [("foreteller",v0),("links",v)]))):StX K H p "links" v nx σ:=stX hp T.Am T.Ay lt1 (vx (by right) wt) h
theorem ġ (T:Txt K mg a) (hp:H p=some (.ins a.A1 dx [("foreteller",v0),("links",v1)])) (h:wk nx σ (upd H p (.ins a.A1 dx (ja v0 v1 v)))):StX K H p "texts" v nx σ:=stX hp T.Am T.Az lt2 (vx (by right) (vx (by right) wt)) h
theorem yjk {C:Addr} {nm:Str} (hp:H p=some (.ins C dx (ja v0 v1 v2))) (n:nm∉(["foreteller","links","texts"]:List Str)) (h:R):MtX H p C nm R:=mtX hp rfl n h
end
local macro_rules | `(tactic| walk_at "rd1")=>`(tactic| first
 | exists 1,"jx jy ę Ĝ ğ ġ"
 | exists 3,"yjk")
def Č (v0 v1:V):List (Str × V):=[("base",v0),("data",v1)]
section
variable {H:Hp} {dx:Addr} {v0 v1 v:V} {P:V->Prop} {nx:St->Hp->Prop} {σ:St}
section
variable (T:Txt K mg a) (hp:H p=some (.ins a.A6 dx (Č v0 v1)))
include T hp
theorem ŉ (h:P v0):RdX K H p "base" P:=rdX hp T.Cw T.Bb x0 h
theorem Ŏ (h:P v1):RdX K H p "data" P:=rdX hp T.Cw T.Bc (we (by right) x0) h
end
theorem Ń (T:Txt K mg a) (hp:H p=some (.ins a.A6 dx [])) (h:wk nx σ (upd H p (.ins a.A6 dx [("base",v)]))):StX K H p "base" v nx σ:=stX hp T.Cw T.Bb lt0 wt h
theorem Ŋ (T:Txt K mg a) (hp:H p=some (.ins a.A6 dx [("base",v0)])) (h:wk nx σ (upd H p (.ins a.A6 dx (Č v0 v)))):StX K H p "data" v nx σ:=stX hp T.Cw T.Bc lt1 (vx (by right) wt) h
end
local macro_rules | `(tactic| walk_at "rd1")=>`(tactic| first
 | exists 1,"ŉ Ń Ŏ Ŋ")
def w5 (v0 v1 v2 v3:V):List (Str × V):=[("looks",v0),("most",v1),("pieces",v2),("chain",v3)]
section
variable {H:Hp} {dx:Addr} {v0 v1 v2 v3 v:V} {P:V->Prop} {nx:St->Hp->Prop} {σ:St}
section
variable (T:Txt K mg a) (hp:H p=some (.ins a.A0 dx (w5 v0 v1 v2 v3)))
include T hp
theorem ĝ (h:P v0):RdX K H p "looks" P:=rdX hp T.A4 T.An x0 h
theorem Ņ (h:P v1):RdX K H p "most" P:=rdX hp T.A4 T.Bd (we (by right) x0) h
theorem ç (h:P v2):RdX K H p "pieces" P:=rdX hp T.A4 T.Av (we (by right) (we (by right) x0)) h
theorem ě (h:P v3):RdX K H p "chain" P:=rdX hp T.A4 T.Ao (we (by right) (we (by right) (we (by right) x0))) h
theorem Ğ (h:wk nx σ (upd H p (.ins a.A0 dx (w5 v0 v1 v2 v)))):StX K H p "chain" v nx σ:=stX hp T.A4 T.Ao lt4 (vx (by right) (vx (by right) (vx (by right) γ))) h
end
theorem Ě (T:Txt K mg a) (hp:H p=some (.ins a.A0 dx [])) (h:wk nx σ (upd H p (.ins a.A0 dx [("looks",v)]))):StX K H p "looks" v nx σ:=stX hp T.A4 T.An lt0 wt h
theorem Ō (T:Txt K mg a) (hp:H p=some (.ins a.A0 dx [("looks",v0)])) (h:wk nx σ (upd H p (.ins a.A0 dx [("looks",v0),("most",v)]))):StX K H p "most" v nx σ:=stX hp T.A4 T.Bd lt1 (vx (by right) wt) h
theorem ã (T:Txt K mg a) (hp:H p=some (.ins a.A0 dx [("looks",v0),("most",v1)])) (h:wk nx σ (upd H p (.ins a.A0 dx [("looks",v0),("most",v1),("pieces",v)]))):StX K H p "pieces" v nx σ:=stX hp T.A4 T.Av lt2 (vx (by right) (vx (by right) wt)) h
theorem Ģ (T:Txt K mg a) (hp:H p=some (.ins a.A0 dx [("looks",v0),("most",v1),("pieces",v2)])) (h:wk nx σ (upd H p (.ins a.A0 dx (w5 v0 v1 v2 v)))):StX K H p "chain" v nx σ:=stX hp T.A4 T.Ao lt3 (vx (by right) (vx (by right) (vx (by right) wt))) h
theorem yke {C:Addr} {nm:Str} (hp:H p=some (.ins C dx (w5 v0 v1 v2 v3))) (n:nm∉(["looks","most","pieces","chain"]:List Str)) (h:R):MtX H p C nm R:=mtX hp rfl n h
end
local macro_rules | `(tactic| walk_at "rd1")=>`(tactic| first
 | exists 1,"ĝ Ě Ņ Ō ç ã ě Ğ Ģ"
 | exists 3,"yke")
open SpanMath
def But (p:Addr) (H H':Hp):Prop:=∀ b o,H b=some o->b≠p->H' b=some o
theorem But.refl {H:Hp}:But p H H:=fun _ _ h _=>h
theorem But.of {H H':Hp} (s:yy H H'):But p H H':=fun b o h _=>s b o h
theorem But.trans {H H1 H2:Hp} (x:But p H H1) (y:But p H1 H2):But p H H2:=fun b o h n=>y b o (x b o h n) n
theorem But.upd {H:Hp} {o:HO}:But p H (L2.upd H p o):=fun b u h n=>by rw [yq n]; exact h
theorem But.lst {l C dx:Addr} {fs:List (Str × V)} {H H':Hp} {xs:List V} (e:But p H H') (hp:H p=some (.ins C dx fs)) (h:H l=some (.lst xs)):H' l=some (.lst xs):=e _ _ h (xa h hp (by intro z; cases z))
theorem u7 {x:V} (h:jt x=true):∃ i,x=.int i:=by
 cases x with
 | int i=>exact ⟨i,rfl⟩
 | _=>cases h
def Ù:V->Bool
 | .int i=>decide (0 <= i) && decide (i <= 1)
 | _=>false
def chV:V->Bool
 | .int i=>decide (32768 <= i) && decide (i <= 16744448)
 | _=>false
inductive yfv (K:W.Frag) (vs:List V) (H:Hp) (Q:VK) (E':XK):Prop
 | mk (x n:_):(vs=[x])->(x4 K H x (.type n))->(Q (.bl (jt x)) H)->yfv K vs H Q E'
def zy (x:Sn):List (Str × V):=[("low",.int x.1),("width",.int x.2.1),("size",.int x.2.2)]
theorem nWL:¬ (("width":Str)="low"):=by right
theorem nLW:¬ (("low":Str)="width"):=by right
theorem nSL:¬ (("size":Str)="low"):=by right
theorem nLS:¬ (("low":Str)="size"):=by right
theorem nSW:¬ (("size":Str)="width"):=by right
theorem nWS:¬ (("width":Str)="size"):=by right
theorem lkL (x:Sn):(zy x).lookup ("low":Str)=some (.int x.1):=x0
theorem lkW (x:Sn):(zy x).lookup ("width":Str)=some (.int x.2.1):=we nWL x0
theorem lkS (x:Sn):(zy x).lookup ("size":Str)=some (.int x.2.2):=we nSL (we nSW x0)
theorem lkN (x:Sn) {m:Str} (h1:¬ m="low") (h2:¬ m="width") (h3:¬ m="size"):(zy x).lookup m=none:=we h1 (we h2 (we h3 Đ))
theorem pfL (x:Sn) (v:Int):jn "low" (.int v) (zy x)=zy (v,x.2.1,x.2.2):=γ
theorem pfW (x:Sn) (v:Int):jn "width" (.int v) (zy x)=zy (x.1,v,x.2.2):=vx nLW γ
theorem pfS (x:Sn) (v:Int):jn "size" (.int v) (zy x)=zy (x.1,x.2.1,v):=vx nLS (vx nWS γ)
section
variable {H:Hp} {dx:Addr} {x:Sn} {P:V->Prop} {nx:St->Hp->Prop} {σ:St} {v:Int}
theorem rdL (T:Txt K mg a) (hp:H p=some (.ins a.A3 dx (zy x))) (h:P (.int x.1)) :
  ∃ a' C dx fs v,V.ref p=.ref a'/\H a'=some (.ins C dx fs)/\Cls K C/\vo K C "low"/\fs.lookup ("low":Str)=some v/\P v:=⟨p,_,dx,_,_,rfl,hp,T.Ad,T.Bk,lkL x,h⟩
theorem rdW (T:Txt K mg a) (hp:H p=some (.ins a.A3 dx (zy x))) (h:P (.int x.2.1)) :
  ∃ a' C dx fs v,V.ref p=.ref a'/\H a'=some (.ins C dx fs)/\Cls K C/\vo K C "width"/\fs.lookup ("width":Str)=some v/\P v:=⟨p,_,dx,_,_,rfl,hp,T.Ad,T.As,lkW x,h⟩
theorem rdS (T:Txt K mg a) (hp:H p=some (.ins a.A3 dx (zy x))) (h:P (.int x.2.2)) :
  ∃ a' C dx fs v,V.ref p=.ref a'/\H a'=some (.ins C dx fs)/\Cls K C/\vo K C "size"/\fs.lookup ("size":Str)=some v/\P v:=⟨p,_,dx,_,_,rfl,hp,T.Ad,T.B8,lkS x,h⟩
theorem vbz (T:Txt K mg a) (hp:H p=some (.ins a.A3 dx (zy x))) (h:wk nx σ (upd H p (.ins a.A3 dx (zy (v,x.2.1,x.2.2))))) :
  ∃ a' C dx fs,V.ref p=.ref a'/\H a'=some (.ins C dx fs)/\Cls K C/\vo K C "low"/\fs.length < 1000/\wk nx σ (upd H a' (.ins C dx (jn "low" (.int v) fs))):=⟨p,_,dx,zy x,rfl,hp,T.Ad,T.Bk,by show 3 < 1000; decide,by rw [pfL]; exact h⟩
theorem vb2 (T:Txt K mg a) (hp:H p=some (.ins a.A3 dx (zy x))) (h:wk nx σ (upd H p (.ins a.A3 dx (zy (x.1,v,x.2.2))))) :
  ∃ a' C dx fs,V.ref p=.ref a'/\H a'=some (.ins C dx fs)/\Cls K C/\vo K C "width"/\fs.length < 1000/\wk nx σ (upd H a' (.ins C dx (jn "width" (.int v) fs))):=⟨p,_,dx,zy x,rfl,hp,T.Ad,T.As,by show 3 < 1000; decide,by rw [pfW]; exact h⟩
theorem vbo (T:Txt K mg a) (hp:H p=some (.ins a.A3 dx (zy x))) (h:wk nx σ (upd H p (.ins a.A3 dx (zy (x.1,x.2.1,v))))) :
  ∃ a' C dx fs,V.ref p=.ref a'/\H a'=some (.ins C dx fs)/\Cls K C/\vo K C "size"/\fs.length < 1000/\wk nx σ (upd H a' (.ins C dx (jn "size" (.int v) fs))):=⟨p,_,dx,zy x,rfl,hp,T.Ad,T.B8,by show 3 < 1000; decide,by rw [pfS]; exact h⟩
end
local macro_rules | `(tactic| walk_at "rd1")=>`(tactic| first
 | exists 1,"rdL rdW rdS vbz vb2"
 | (with_reducible refine' vbo (by assumption) ?rdh ?_; (case rdh=>first | assumption | exact yc)))
inductive Slt where
 | ev (n o:Int)
 | qk (h:Int)
 | rn (l n:Int)
def Slt.ok:Slt->Prop
 | .ev n o=>0 <= n/\0 <= o/\n+o <= 255
 | .qk h=>32768 <= h/\h <= 16744448
 | .rn l n=>0 <= l/\l <= 1/\0 <= n/\n <= 255
def Õ (n:Int):Int:=(2 * n+1) * 16777216 / (2 * n+2)
def Slt.due:Slt->Int
 | .ev n o=>(2 * o+1) * 16777216 / (2 * (n+o)+2)
 | .qk h=>h
 | .rn l n=>if l=1 then Õ n else 16777216 - Õ n
def ycn (n o:Int):Slt:=if 255 < n+o then .ev ((n+1) / 2) ((o+1) / 2) else .ev n o
def yd8 (m:Int):Int:=if 16744448 < (if 32768 > m then 32768 else m) then 16744448 else (if 32768 > m then 32768 else m)
def Slt.see:Slt->Int->Slt
 | .ev n o,b=>if b=1 then ycn n (o+1) else ycn (n+1) o
 | .qk h,b=>.qk (yd8 (if b=1 then h+(16777216 - h) / 16 else h - h / 16))
 | .rn l n,b=>if b=l then .rn l (if 255 < n+1 then 255 else n+1) else .rn b 1
def oS (a:Ads) (dx:Addr):Slt->HO
 | .ev n o=>.ins a.A9 dx (ju (.int n) (.int o))
 | .qk h=>.ins a.A8 dx (zl (.int h))
 | .rn l n=>.ins a.Af dx (ģ (.int l) (.int n))
theorem ycs {n o:Int} (h1:0 <= n) (h2:0 <= o) (h3:n+o <= 256):(ycn n o).ok:=by
 unfold ycn
 split
 .exact ⟨by omega,by omega,by omega⟩
 .exact ⟨h1,h2,by omega⟩
theorem yfx (m:Int):32768 <= yd8 m/\yd8 m <= 16744448:=by
 unfold yd8
 split <;> split <;> omega
theorem Slt.see_ok {s:Slt} {b:Int} (h:s.ok) (b0:0 <= b) (b1:b <= 1):(s.see b).ok:=by
 cases s with
 | ev n o =>
  obtain ⟨c,a,d⟩:=h;unfold Slt.see;dsimp only
  split
  .exact ycs c (by omega) (by omega)
  .exact ycs (by omega) a (by omega)
 | qk h0=>exact yfx _
 | rn l n =>
  obtain ⟨c,a,d,e⟩:=h;unfold Slt.see;dsimp only
  split
  .refine ⟨c,a,?_,?_⟩ <;> split <;> omega
  .exact ⟨b0,b1,by decide,by decide⟩
def kdS:Fin 3->Str
 | 0=>"even"
 | 1=>"quick"
 | 2=>"run"
def kd0:Fin 3->Slt
 | 0=>.ev 0 0
 | 1=>.qk 8388608
 | 2=>.rn 1 0
theorem ylk (k:Fin 3):(kd0 k).ok:=by
 match k with
 | 0=>exact ⟨by decide,by decide,by decide⟩
 | 1=>exact ⟨by decide,by decide⟩
 | 2=>exact ⟨by decide,by decide,by decide,by decide⟩
theorem yva {b:Int} (b0:0 <= b) (b1:b <= 1):Ù (.int b)=true:=by
 simp only [Ù,bX,decide_eq_true_eq];omega
theorem yd0 {x:V} (h:Ù x=true):∃ b:Int,x=.int b/\0 <= b/\b <= 1:=by
 cases x with
 | int i =>
  simp only [Ù,bX,decide_eq_true_eq] at h;exact ⟨i,rfl,h.1,h.2⟩
 | _=>cases h
inductive á (C:Addr) (F:List (Str × V)) (vs:List V) (H:Hp) (Q:VK) (E':XK):Prop
 | mk (p dx:Addr):(vs=[.ref p])->(H p=some (.ins C dx []))->(∀ H',H' p=some (.ins C dx F)->But p H H'->Q .non H')->á C F vs H Q E'
inductive x5 (o:Addr->Slt->HO) (g:Slt->Prop) (vs:List V) (H:Hp) (Q:VK) (E':XK):Prop
 | mk (p dx:Addr) (s:Slt):(vs=[.ref p])->(g s)->(s.ok)->(H p=some (o dx s))->(Q (.int s.due) H)->x5 o g vs H Q E'
inductive zj (K:W.Frag) (o:Addr->Slt->HO) (g:Slt->Prop) (C:Addr) (vs:List V) (H:Hp) (Q:VK) (E:XK):Prop
 | mk (p dx:Addr) (s:Slt) (x:V) (n:String):(vs=[.ref p,x])->(g s)->(s.ok)->(H p=some (o dx s))->(x4 K H x (.type n))->((∀ b:Int,x=.int b->0 <= b->b <= 1->∀ H',H' p=some (o dx (s.see b))->But p H H'->Q .non H'))->((Ù x=false->E (.ref C) none H))->zj K o g C vs H Q E
def yyf:Slt->Prop
 | .ev _ _=>True
 | _=>False
def yyg:Slt->Prop
 | .qk _=>True
 | _=>False
def yyd:Slt->Prop
 | .rn _ _=>True
 | _=>False
def Ÿ (bs:List Int):Prop:=∀ b∈bs,0 <= b/\b <= 1
theorem z8 {n:Nat} (h:n <= 16000000):n <= sizeLine:=cc h (by decide)
theorem vq {n:Nat} (h:n <= 16000000):n < sizeLine:=Nat.lt_of_le_of_lt h (by decide)
theorem ur {ns:List Int} {x:V} (h:(ns.map V.int)[i]?=some x):∃ n,x=.int n/\n∈ns/\ns[i]?=some n/\i < ns.length:=by
 rw [bB] at h
 cases e:ns[i]? with
 | none=>rw [e] at h; cases h
 | some n =>
  rw [e] at h
  have a:i < ns.length:=by
   rcases Nat.lt_or_ge i ns.length with q | q
   .exact q
   .rw [cn q] at e; cases e
  exact ⟨n,(bL h).symm,bM e,rfl,a⟩
theorem jh {l:List Int} {q:Int} (h:l[i]?=some q):l.take (i+1)=l.take i++[q]:=by
 rw [List.take_add_one,h];rfl
theorem yj3 {ys:List Int} (h1:Ÿ xs) (h2:Ÿ ys):Ÿ (xs++ys):=fun b a=>by
 rcases bY.mp a with h | h
 .exact h1 b h
 .exact h2 b h
theorem ú (c:Int) (n:Nat):(List.replicate n [V.int c]).flatten=(List.replicate n c).map V.int:=by
 induction n with
 | zero=>rfl
 | succ n ih=>rw [cw,List.flatten_cons,ih,cw]; rfl
def ync (sg:List Int) (p:Int):Int:=if p <= sg.length then (atI sg (-p)).getD 256 else 256
theorem yo0 {α β:Type} (f:α->β) (xs:List α) (i:Int):atI (xs.map f) i=(atI xs i).map f:=by
 unfold atI;rw [bv]
 cases ixN xs.length i with
 | none=>rfl
 | some j =>
  show (xs.map f)[j]?=(xs[j]?).map f;rw [bB]
theorem yka {sg:List Int} {p:Int} (h1:1 <= p) (h2:p <= sg.length):∃ c,atI sg (-p)=some c/\c∈sg:=by
 unfold atI ixN;rw [if_neg (by omega)];by_cases h:-(sg.length:Int) <= -p
 .rw [if_pos (by omega)];have a:((-p+(sg.length:Int)).toNat) < sg.length:=by omega
  exact ⟨_,bx a,bZ a⟩
 .omega
def Slt.kind:Slt->Fin 3
 | .ev _ _=>0
 | .qk _=>1
 | .rn _ _=>2
theorem ykb (s:Slt) (b:Int):(s.see b).kind=s.kind:=by
 cases s with
 | ev n o =>
  unfold Slt.see ycn;dsimp only
  split <;> split <;> rfl
 | qk h=>rfl
 | rn l n =>
  unfold Slt.see;dsimp only
  split <;> rfl
theorem yjo (k:Fin 3):(kd0 k).kind=k:=by
 match k with
 | 0=>rfl
 | 1=>rfl
 | 2=>rfl
theorem ď (a:Ads) (dx:Addr) (s:Slt):∃ C fs,oS a dx s=.ins C dx fs:=by
 cases s <;> exact ⟨_,_,rfl⟩
theorem yem {s:Slt} (h:s.ok):32768 <= s.due/\s.due <= 16744448:=by
 cases s with
 | ev n o =>
  obtain ⟨c,d,b⟩:=h;unfold Slt.due;dsimp only;have a:(0:Int) < 2 * (n+o)+2:=by omega
  constructor
  .rw [Int.le_ediv_iff_mul_le a];omega
  .have:(2 * o+1) * 16777216 / (2 * (n+o)+2) < 16744449:=by
    rw [Int.ediv_lt_iff_lt_mul a];omega
   omega
 | qk h0=>exact h
 | rn l n =>
  obtain ⟨c,d,b,e⟩:=h;have a:(0:Int) < 2 * n+2:=by omega
  have g1:8388608 <= Õ n:=by
   unfold Õ;rw [Int.le_ediv_iff_mul_le a];omega
  have g2:Õ n < 16744449:=by
   unfold Õ;rw [Int.ediv_lt_iff_lt_mul a];omega
  unfold Slt.due;dsimp only
  split <;> omega
theorem yf4 {dx:Addr} {s:Slt} {ta:TE} {σ:St} {H:Hp} {Q:VK} {E1 E2 E3:XK} (hta:∀ Q':VK,Q' (.ref p) H->ta σ H Q') (hp:H p=some (oS a dx s)) (ok:s.ok) (h:Q (.int s.due) H) :
  yr3 (ycm a.A9 "chance" (x5 (oS a) yyf) [] E1 ta yr4) (yr3 (ycm a.A8 "chance" (x5 (oS a) yyg) [] E2 ta yr4) (ycm a.Af "chance" (x5 (oS a) yyd) [] E3 ta yr4)) σ H Q:=by
 cases s with
 | ev n o=>exact yd9 (yeg (hta _ ⟨p,dx,_,rfl,hp,Ġ,p,dx,.ev n o,rfl,trivial,ok,hp,h⟩))
 | qk h0=>exact Ļ (yd9 (yeg (hta _ ⟨p,dx,_,rfl,hp,ä,p,dx,.qk h0,rfl,trivial,ok,hp,h⟩)))
 | rn l n=>exact Ļ (Ļ (yeg (hta _ ⟨p,dx,_,rfl,hp,ň,p,dx,.rn l n,rfl,trivial,ok,hp,h⟩)))
theorem yop {dx:Addr} {s:Slt} {ta:TE} {t:TA} {σ:St} {H:Hp} {Q:VK} {E1 E2 E3:St->XK} {x:V} {n:String} (hta:∀ Q':VK,Q' (.ref p) H->ta σ H Q') (ht:∀ Q':List V->Hp->Prop,Q' [x] H->t σ H Q') (hp:H p=some (oS a dx s)) (ok:s.ok) (ty:x4 K H x (.type n))
  (h:∀ b:Int,x=.int b->0 <= b->b <= 1->∀ H',H' p=some (oS a dx (s.see b))->But p H H'->Q .non H') (h1:Ù x=false->E1 σ (.ref a.Bx) none H) (h2:Ù x=false->E2 σ (.ref a.Bx) none H) (h3:Ù x=false->E3 σ (.ref a.Bx) none H) :
  yr3 (yba a.A9 "seen" (zj K (oS a) yyf a.Bx) [] E1 ta t) (yr3 (yba a.A8 "seen" (zj K (oS a) yyg a.Bx) [] E2 ta t) (yba a.Af "seen" (zj K (oS a) yyd a.Bx) [] E3 ta t)) σ H Q:=by
 cases s with
 | ev n o=>exact yd9 (ŭ (hta _ ⟨p,dx,_,rfl,hp,yab,ht _ ⟨p,dx,.ev n o,x,_,rfl,trivial,ok,hp,ty,h,h1⟩⟩))
 | qk h0=>exact Ļ (yd9 (ŭ (hta _ ⟨p,dx,_,rfl,hp,ŗ,ht _ ⟨p,dx,.qk h0,x,_,rfl,trivial,ok,hp,ty,h,h2⟩⟩)))
 | rn l n=>exact Ļ (Ļ (ŭ (hta _ ⟨p,dx,_,rfl,hp,yb2,ht _ ⟨p,dx,.rn l n,x,_,rfl,trivial,ok,hp,ty,h,h3⟩⟩)))
theorem yw5 {x:Sn} {c b:Int} (h:Ok x):(nar x c b).2.2 <= x.2.2+2:=by
 unfold nar ren;have:=h.z
 (repeat' split) <;> (dsimp only; omega)
abbrev tMx:Nat:=100000
theorem yc9 {k:Nat} (h:k <= 6):pw k <= 281474976710656:=Int.le_trans (yhn h) (by decide)
theorem yjf (xs:List Int) (y:Int):xs.map V.int++[V.int y]=(xs++[y]).map V.int:=by simp
theorem yn0 (xs:List Int):(xs.map V.int).reverse=xs.reverse.map V.int:=by simp
def gvv (c b:Int):Int:=if b=1 then c else 16777216 - c
theorem ycc {x:V} (h:chV x=true):∃ c,x=.int c/\32768 <= c/\c <= 16744448:=by
 cases x with
 | int i =>
  simp only [chV,bX,decide_eq_true_eq] at h;exact ⟨i,rfl,h.1,h.2⟩
 | _=>cases h
theorem ydw {x:V} (h:Ù x=true):∃ b,x=.int b/\0 <= b/\b <= 1:=by
 cases x with
 | int i =>
  simp only [Ù,bX,decide_eq_true_eq] at h;exact ⟨i,rfl,h.1,h.2⟩
 | _=>cases h
theorem ya6 {c:Int} (h:Ch c):chV (.int c)=true:=by
 obtain ⟨b,a⟩:=h;simp only [chV,bX,decide_eq_true_eq];omega
theorem Ű {b:Int} (h1:0 <= b) (h2:b <= 1):Ù (.int b)=true:=by
 simp only [Ù,bX,decide_eq_true_eq];omega
theorem yhb {xs:List V} {i:Int} (h0:0 <= i) (h1:i < xs.length):∃ v,v∈xs/\atI xs i=some v:=by
 obtain ⟨j,rfl⟩:∃ j:Nat,i=(j:Int):=⟨i.toNat,by omega⟩;have a:j < xs.length:=by omega
 exact ⟨xs[j],bZ a,xb (bx a)⟩
theorem Ľ {H H':Hp} {v:V} {n:String} (S:yy H H') (t:x4 K H v (.type n)):x4 K H' v (.type n):=by
 cases t with
 | non=>exact .non
 | bl b=>exact .bl b
 | int i=>exact .int i
 | str x=>exact .str x
 | flt x=>exact .flt x
 | lst e=>exact .lst (S _ _ e)
 | frz e=>exact .frz (S _ _ e)
 | tup e=>exact .tup (S _ _ e)
 | dK e=>exact .dK (S _ _ e)
 | dT e=>exact .dT (S _ _ e)
def sgV:V->Bool
 | .int i=>decide (0 <= i) && decide (i <= 255)
 | _=>false
def ykr (K:W.Frag) (H:Hp) (xs:List V):Prop:=∀ y∈xs,∃ k:String,x4 K H y (.type k)
theorem Ħ {H:Hp} (ns:List Int):ykr K H (ns.map V.int):=fun y a=>by
 obtain ⟨i,_,rfl⟩:=bD.mp a;exact ⟨_,.int i⟩
def Bad (K:W.Frag) (H:Hp) (x:V) (n:String) (m:Int):Prop:=n≠"list"\/∃ p xs,x=.ref p/\H p=some (.lst xs)/\ykr K H xs/\xs.length <= 100000/\(decide ((xs.length:Int) <= m) && xs.all sgV)=false
def yx9 (K:W.Frag) (H:Hp) (x:V) (xs:List V) (m:Int):Prop:=∃ p,x=.ref p/\H p=some (.lst xs)/\ykr K H xs/\xs.length <= 100000/\(decide ((xs.length:Int) <= m) && xs.all sgV)=true
theorem ypg {H:Hp} {x:V} {n:String} (ty:x4 K H x (.type n)):W.kitOne K (.type n) (.type "list")=some (decide (n="list")):=by
 cases ty <;> rfl
theorem yjg {n:Nat} (h:n <= 100000):n < sizeLine:=Nat.lt_of_le_of_lt h (by decide)
theorem ykq {xs:List V} (n:Nat):ybl xs (some (n:Int)) none=xs.drop n:=by
 unfold ybl;rw [HT.sIx_nat,HT.sIx_none];by_cases h:n <= xs.length
 .rw [Nat.min_eq_left h,cA (by rw [cM]; exact bA _)]
 .rw [Nat.min_eq_right (by omega),Nat.sub_self,List.take_zero,List.drop_of_length_le (by omega)]
theorem yg4 {ns:List Int} (h:∀ i∈ns,0 <= i/\i <= 255):(ns.map V.int).all sgV=true:=by
 rw [List.all_map,List.all_eq_true];intro i b;obtain ⟨c,a⟩:=h i b;simp [sgV,c,a]
inductive È (K:W.Frag) (C:Addr) (m:Int) (vs:List V) (H:Hp) (Q:VK) (E:XK):Prop
 | mk (x n:_):(vs=[x])->(x4 K H x (.type n))->(((Bad K H x n m/\∀ H',yy H H'->E (.ref C) none H')\/∃ xs,yx9 K H x xs m/\∀ r H',H r=none->H' r=some (.lst xs)->yy H H'->Q (.ref r) H'))->È K C m vs H Q E
def yi7 (p q:Addr) (H H':Hp):Prop:=∀ b o,H b=some o->b≠p->b≠q->H' b=some o
theorem But.two {H H':Hp} (h:But p H H'):yi7 p q H H':=fun b o e n _=>h b o e n
theorem But.two' {H H':Hp} (h:But q H H'):yi7 p q H H':=fun b o e _ n=>h b o e n
theorem yi7.trans {H H1 H2:Hp} (x:yi7 p q H H1) (y:yi7 p q H1 H2):yi7 p q H H2:=fun b o h n m=>y b o (x b o h n m) n m
structure yfm (a:Ads) (H:Hp) (p dx pd ps ds:Addr) (d:List Int) (x:Sn):Prop where
 me:H p=some (.ins a.Ac dx (yi4 (.ref pd) (.ref ps) (.int (rn d (sz x))) (.int x.2.2)))
 dt:H pd=some (.lst (d.map V.int))
 sp:H ps=some (.ins a.A3 ds (zy x))
 ne:p≠ps
theorem yfm.same {H H':Hp} {dx pd ps:Addr} {d:List Int} {x:Sn} (h:yfm a H p dx pd ps ds d x) (S:yy H H'):yfm a H' p dx pd ps ds d x:=⟨S _ _ h.me,S _ _ h.dt,S _ _ h.sp,h.ne⟩
section
variable {H H':Hp} {dx pd ps:Addr} {d:List Int} {x:Sn}
theorem yfm.lst (h:yfm a H p dx pd ps ds d x) (B:yi7 p ps H H') {l:Addr} {xs:List V} (e:H l=some (.lst xs)):H' l=some (.lst xs):=B _ _ e (xa e h.me (by intro z; cases z)) (xa e h.sp (by intro z; cases z))
theorem yfm.tup (h:yfm a H p dx pd ps ds d x) (B:yi7 p ps H H') {l:Addr} {xs:List V} (e:H l=some (.tup xs)):H' l=some (.tup xs):=B _ _ e (xa e h.me (by intro z; cases z)) (xa e h.sp (by intro z; cases z))
end
theorem yj2 {H:Hp} {d:List Int} (h:H p=some (.lst (d.map V.int))) (hb:Byt d) (hz:d.length <= 12000):yx9 K H (.ref p) (d.map V.int) 12000 :=
 ⟨p,rfl,h,Ħ d,by rw [bv]; omega,by rw [yg4 hb,bv,bJ (by omega)]; rfl⟩
def Sgs (ns:List Int):Prop:=∀ i∈ns,0 <= i/\i <= 255
def wth:List Int:=[128,64,32,16,8,4,2,1]
def b8 (s:Int):List Int:=wth.map (fun w=>s / w % 2)
def dec:List Int->List Int
 | []=>[0]
 | s :: r=>(1 :: b8 s)++dec r
def nds:Int->List Int->List Int
 | _,[]=>[]
 | n,b :: r=>n :: nds (2 * n+b) r
def nod:List Int->List Int
 | []=>[0]
 | s :: r=>(0 :: nds 1 (b8 s))++nod r
def Ź:List Int->List Int
 | []=>[]
 | s :: r=>(1 :: b8 s)++Ź r
theorem yi3:∀ ns,dec ns=Ź ns++[0]
 | []=>rfl
 | s :: r=>by simp [dec,Ź,yi3 r]
theorem þ (s:Int):∀ ns,Ź (ns++[s])=Ź ns++(1 :: b8 s)
 | []=>by simp [Ź]
 | t :: r=>by simp [Ź,þ s r]
theorem yii (s:Int):(b8 s).length=8:=rfl
theorem ul:∀ ns:List Int,(Ź ns).length=9 * ns.length
 | []=>rfl
 | s :: r=>by
  show ((1 :: b8 s)++Ź r).length=9 * (r.length+1);rw [bC,ul r];show 9+_=_;omega
theorem ynl (s:Int):Ÿ (b8 s):=fun b a=>by
 obtain ⟨w,_,rfl⟩:=bD.mp a;have c:0 <= s / w % 2:=cu _ (by decide);have d:s / w % 2 < 2:=cj _ (by decide);exact ⟨c,by omega⟩
theorem zi:∀ ns,Ÿ (dec ns)
 | []=>fun b a=>by rw [bQ.mp a]; decide
 | s :: r=>by
  refine yj3 (fun b a=>?_) (zi r);rcases bI.mp a with rfl | a
  .decide
  .exact ynl s b a
theorem yyo {s:Int} (h0:0 <= s) (h1:s <= 255):128 * (s / 128 % 2)+(64 * (s / 64 % 2)+(32 * (s / 32 % 2)+(16 * (s / 16 % 2)+(8 * (s / 8 % 2)+(4 * (s / 4 % 2)+(2 * (s / 2 % 2)+(1 * (s / 1 % 2)+0)))))))=s:=by
 have h:∀ n:Nat,n < 256->128 * ((n:Int) / 128 % 2)+(64 * ((n:Int) / 64 % 2)+(32 * ((n:Int) / 32 % 2)+(16 * ((n:Int) / 16 % 2)+(8 * ((n:Int) / 8 % 2)+(4 * ((n:Int) / 4 % 2)+(2 * ((n:Int) / 2 % 2)+(1 * ((n:Int) / 1 % 2)+0)))))))=(n:Int):=by right
 obtain ⟨n,rfl⟩:=Int.eq_ofNat_of_zero_le h0;exact h n (by omega)
def wV (s:Int):V->V
 | .int w=>.int (s / w % 2)
 | _=>.non
theorem ydj {H:Hp} {d:List Int} (h:H p=some (.lst (d.map V.int))) (hb:Sgs d) (hz:d.length <= 1000):yx9 K H (.ref p) (d.map V.int) 1000 :=
 ⟨p,rfl,h,Ħ d,by rw [bv]; omega,by rw [yg4 hb,bv,bJ (by omega)]; rfl⟩
theorem yjr (xs ys:List Int):xs.map V.int++ys.map V.int=(xs++ys).map V.int:=by simp
theorem ub (ns:List Int):(dec ns).length=9 * ns.length+1:=by rw [yi3,bC,ul]; rfl
def ų (f:List Int->Option Slt) (k:List Int) (s:Slt):List Int->Option Slt:=fun j=>if j=k then some s else f j
def yya:HO->Bool
 | .ins _ _ _=>true
 | .dT _=>true
 | _=>false
def kI (k:List Int):List Key:=k.map Sum.inl
theorem ytq (k:List Int):(kI k).map kV=k.map V.int:=by
 unfold kI;rw [cg];rfl
theorem yla {j k:List Int} (h:kI j=kI k):j=k:=by
 unfold kI at h
 induction j generalizing k with
 | nil =>
  cases k with
  | nil=>rfl
  | cons _ _=>cases h
 | cons x r ih =>
  cases k with
  | nil=>cases h
  | cons y s =>
   injection h with h1 h2;injection h1 with h1;rw [h1,ih h2]
def yr6 (H:Hp) (d:Addr):Prop:=∀ kvs,H d=some (.dT kvs)->(kvs.map (·.1)).Nodup/\∀ q∈kvs,∃ k,q.1=kI k
theorem yr6.mv {H H':Hp} {d:Addr} {kvs:List (List Key × V)} (h:yr6 H d) (h1:H d=some (.dT kvs)) (h2:H' d=some (.dT kvs)):yr6 H' d:=fun a e=>by
 rw [h2] at e;cases e;exact h kvs h1
theorem yj6 {kvs:List (List Key × V)} {k:List Key} (h:zv kvs k=none):k∉kvs.map (·.1):=fun m=>by
 obtain ⟨p,b,e⟩:=bD.mp m;have a:=jl k kvs;rw [h] at a;exact List.any_eq_false.mp a p b (bJ e)
theorem yr6.snoc {H':Hp} {d:Addr} {kvs:List (List Key × V)} {k:List Int} {v:V} (h:(kvs.map (·.1)).Nodup/\∀ q∈kvs,∃ k,q.1=kI k) (hn:zv kvs (kI k)=none) (h2:H' d=some (.dT (Ŷ kvs (kI k) v))):yr6 H' d:=fun b e=>by
 rw [h2,ß _ hn] at e;cases e;rw [bS];refine ⟨List.nodup_append.mpr ⟨h.1,cO.mpr ⟨List.not_mem_nil,List.nodup_nil⟩,fun x a y c z=>?_⟩,fun q f=>?_⟩
 .rw [z,bQ.mp c] at a;exact yj6 hn a
 .rcases bY.mp f with w | w
  .exact h.2 q w
  .rw [bQ.mp w];exact ⟨k,rfl⟩
structure Ø (a:Ads) (H:Hp) (p dx lk d:Addr) (kd:Fin 3) (f:List Int->Option Slt) (O:Addr->Prop) (m:Nat):Prop where
 me:H p=some (.ins a.Aa dx (yd1 (.ref lk) (.ref d)))
 own:∀ b,O b->∃ o,H b=some o/\yya o=true
 np:¬ O p
 dO:O d
 ky:yr6 H d
 tb:∃ (kvs:List (List Key × V)) (loc:List Int->Addr × Addr),H d=some (.dT kvs)/\kvs.length <= m/\(∀ k,f k=none->zv kvs (kI k)=none) /\
  (∀ k s,f k=some s->zv kvs (kI k)=some (.ref (loc k).1)/\H (loc k).1=some (oS a (loc k).2 s)/\s.ok/\s.kind=kd/\O (loc k).1)/\(∀ k j s t,f k=some s->f j=some t->(loc k).1=(loc j).1->k=j)
def ykw (O:Addr->Prop) (H H':Hp):Prop:=∀ b o,H b=some o->¬ O b->H' b=some o
section
variable {H H':Hp} {dx lk d:Addr} {kd:Fin 3} {f:List Int->Option Slt} {O:Addr->Prop} {m:Nat}
theorem Ø.frame (h:Ø a H p dx lk d kd f O m) {O2:Addr->Prop} (B:ykw O2 H H') (dj:∀ b,O b->¬ O2 b) (hp:¬ O2 p):Ø a H' p dx lk d kd f O m:=by
 obtain ⟨e,c,g,z,u,y,q⟩:=h.tb;refine ⟨B _ _ h.me hp,fun b j=>?_,h.np,h.dO,h.ky.mv g (B _ _ g (dj _ h.dO)),e,c,B _ _ g (dj _ h.dO),z,u,fun k s n=>?_,q⟩
 .obtain ⟨o,v,w⟩:=h.own b j;exact ⟨o,B _ _ v (dj b j),w⟩
 .obtain ⟨r,t,l,x,i⟩:=y k s n;exact ⟨r,B _ _ t (dj _ i),l,x,i⟩
theorem Ø.same (h:Ø a H p dx lk d kd f O m) (S:yy H H'):Ø a H' p dx lk d kd f O m:=h.frame (O2:=fun _=>False) (fun b o e _=>S b o e) (fun _ _ z=>z) (fun z=>z)
end
open MixI
structure yi9 (a:Ads) (p dx l:Addr) (ws:List Int) (H:Hp):Prop where
 o:H p=some (.ins a.Br dx (yx3 (.ref l)))
 l:H l=some (.lst (ws.map V.int))
theorem yi9.same {dx l:Addr} {ws:List Int} {H H':Hp} (m:yi9 a p dx l ws H) (S:yy H H'):yi9 a p dx l ws H':=⟨S _ _ m.o,S _ _ m.l⟩
theorem yuk {k:Nat} {cs:List Int} (h:COk k cs) {c:Int} (hm:c∈cs):Ch c:=⟨h.lo c hm,h.hi c hm⟩
theorem yl4 {g:Int->Int->Int} {ws cs:List Int} (h:cs.length=ws.length):(List.range (ws.map V.int).length).map (fun i=>V.int (g ((ws[i]?).getD 0) ((cs[i]?).getD 0)))=(List.zipWith g ws cs).map V.int:=by
 rw [bv,<- yf5 h,cg];rfl
theorem ydx {H:Hp} {xs ys:List V} (h:H D=some (.lst xs)) (e:xs=ys):H D=some (.lst ys):=e ▸ h
inductive yai (K:W.Frag) (a:Ads) (vs:List V) (H:Hp) (Q:VK) (E':XK):Prop
 | mk (p dx l c:Addr) (ws cs:List Int) (k:Nat):(vs=[.ref p,.ref c])->(1 <= k)->(k <= 6)->(WOk k ws)->(COk k cs)->(yi9 a p dx l ws H)->(SqL K H c (cs.map V.int))->(∀ H',yy H H'->Q (.int (ynd ws cs)) H')->yai K a vs H Q E'
inductive yae (K:W.Frag) (a:Ads) (C:Addr) (vs:List V) (H:Hp) (Q:VK) (E:XK):Prop
 | mk (p dx l c:Addr) (ws cs:List Int) (k:Nat) (x:V) (n:String):(vs=[.ref p,.ref c,x])->(1 <= k)->(k <= 6)->(WOk k ws)->(COk k cs)->(yi9 a p dx l ws H)->(SqL K H c (cs.map V.int))->(x4 K H x (.type n))->((∀ b:Int,x=.int b->0 <= b->b <= 1->∀ l' H',H l'=none->yi9 a p dx l' (lrn ws cs b) H'->But p H H'->Q .non H'))->((Ù x=false->E (.ref C) none H))->yae K a C vs H Q E
inductive ybx (a:Ads) (vs:List V) (H:Hp) (Q:VK) (E':XK):Prop
 | mk (p dx l:Addr) (ws:List Int):(vs=[.ref p])->(yi9 a p dx l ws H)->(∀ r H',H r=none->H' r=some (.lst (ws.map V.int))->yy H H'->Q (.ref r) H')->ybx a vs H Q E'
inductive yct (a:Ads) (vs:List V) (H:Hp) (Q:VK) (E':XK):Prop
 | mk (p dx:Addr) (k:Nat):(vs=[.ref p,.int k])->(1 <= k)->(k <= 6)->(H p=some (.ins a.Br dx []))->(∀ l H',H l=none->yi9 a p dx l (List.replicate k 1099511627776) H'->But p H H'->Q .non H')->yct a vs H Q E'
def yi2:V->Bool
 | .str s=>inV (.str s) [V.str "even",V.str "quick",V.str "run"]
 | _=>false
def plV:V->Bool
 | .int i=>decide (1 <= i) && decide (i <= 8)
 | _=>false
def ltV:V->V->Bool
 | .int i,.int j=>decide (i < j)
 | _,_=>false
def vad (xs:List V):Bool:=(List.zipWith ltV xs xs.tail).all id
def jc (xs:List V):Bool:=decide (xs.length <= 4) && xs.all plV && vad xs
def PlB (K:W.Frag) (H:Hp) (x:V) (b:Bool):Prop:=(∃ n,x4 K H x (.type n)/\n≠"tuple"/\b=false)\/∃ t xs,x=.ref t/\H t=some (.tup xs)/\xs.length <= 1000/\(∀ y∈xs,∃ n:String,x4 K H y (.type n))/\b=jc xs
def LkB (K:W.Frag) (H:Hp) (x:V) (b:Bool):Prop:=(∃ n,x4 K H x (.type n)/\n≠"tuple"/\b=false) \/
 ∃ t xs,x=.ref t/\H t=some (.tup xs)/\((xs.length≠2/\b=false)\/∃ y z n,xs=[y,z]/\x4 K H y (.type n)/\((yi2 y=false/\b=false)\/(yi2 y=true/\PlB K H z b)))
theorem PlB.same {H H':Hp} {x:V} {b:Bool} (h:PlB K H x b) (S:yy H H'):PlB K H' x b:=by
 rcases h with ⟨n,t,c,e⟩ | ⟨t,f,e,a,j,g,i⟩
 .exact .inl ⟨n,Ľ S t,c,e⟩
 .exact .inr ⟨t,f,e,S _ _ a,j,fun y d=>let ⟨n,z⟩:=g y d; ⟨n,Ľ S z⟩,i⟩
theorem LkB.same {H H':Hp} {x:V} {b:Bool} (h:LkB K H x b) (S:yy H H'):LkB K H' x b:=by
 rcases h with ⟨n,t,i,e⟩ | ⟨t,j,e,a,h⟩
 .exact .inl ⟨n,Ľ S t,i,e⟩
 .refine .inr ⟨t,j,e,S _ _ a,?_⟩;rcases h with h | ⟨y,z,n,c,d,h⟩
  .exact .inl h
  .refine .inr ⟨y,z,n,c,Ľ S d,?_⟩;rcases h with h | ⟨f,g⟩
   .exact .inl h
   .exact .inr ⟨f,g.same S⟩
theorem Þ {H:Hp} {x:V} {n:String} (ty:x4 K H x (.type n)):W.kitOne K (.type n) (.type "tuple")=some (decide (n="tuple")):=by cases ty <;> rfl
theorem ydq {H:Hp} {x:V} {n:String} (ty:x4 K H x (.type n)):W.kitOne K (.type n) (.type "str")=some (decide (n="str")):=by cases ty <;> rfl
theorem ydv {H:Hp} {x:V} {n:String} (ty:x4 K H x (.type n)):W.kitOne K (.type n) (.type "list")=some (decide (n="list")):=by cases ty <;> rfl
theorem ynp {xs:List V} {y:V} (h:xs.tail[i]?=some y):xs[i+1]?=some y:=by
 cases xs with
 | nil=>simp at h
 | cons x r=>simpa using h
theorem yf2 (xs:List V):(List.range xs.tail.length).map (fun i=>V.bl (ltV ((xs[i]?).getD .non) ((xs.tail[i]?).getD .non)))=(List.zipWith ltV xs xs.tail).map V.bl:=by
 apply List.ext_getElem
 .rw [bv,bW,bv,List.length_zipWith,List.length_tail]; omega
 .intro i a c;rw [bv,bW] at a;have b:i < xs.length:=by rw [List.length_tail] at a; omega
  rw [cQ,List.getElem_range,cQ,List.getElem_zipWith,bx a,bx b];rfl
theorem ygw {t u:Addr} {xs:List V} {te:TE} {fr:St} {R:Hp->Prop} {H1:Hp} (hint:∀ y∈xs,∃ i:Int,y=.int i) (hl:xs.length <= 1000) (ht:SqT K H1 t xs) (hu:SqT K H1 u xs.tail) (hD:H1 D=none)
  (hte:∀ (i j:Int) (σ':St) (H':Hp) (Q':VK),Q' (.bl (decide (i < j))) H'->te (some (.int i) :: some (.int j) :: σ') H' Q') (hR:∀ H,yy H1 H->H D=some (.lst ((List.zipWith ltV xs xs.tail).map V.bl))->R H) :
  j8 (yx6 K t u) (ysa K 2 (jp (w6 0) (jp (w6 1) ykz))) te 2 fr D R H1:=by
 refine ybq (m:=xs.tail.length) (fun i=>V.bl (ltV ((xs[i]?).getD .non) ((xs.tail[i]?).getD .non))) ht hu (by rw [List.length_tail]; omega) (bA _) (.inr (bA _)) hD (fun i x y h l v w q r k a b e=>?_) (fun h k a=>?_)
 .obtain ⟨s,z,rfl⟩:=yij e;obtain ⟨c,rfl⟩:=hint x (bM q);obtain ⟨d,rfl⟩:=hint y (bM (ynp r));have n:=k.trans (vj (o:=HO.tup [V.int c,V.int d]) b);have f:=z9 (o':=HO.tup [V.int c,V.int d]) b a;have g:upd h l (HO.tup [V.int c,V.int d]) l=some (.tup [V.int c,V.int d]):=yc;generalize upd h l (HO.tup [V.int c,V.int d])=p at n f g;refine yh8 (SqT.of g) rfl ?_;show jp (w6 0) (jp (w6 1) ykz) [V.int c,V.int d] (s :: z :: fr) p _;rfl';refine ⟨⟨[some (.int c),some (.int d)],rfl,rfl⟩,?_⟩;refine hte c d fr p _ ?_;refine Mp.doneR hD (vq (by rw [List.length_tail]; omega)) w n f ?_;rw [q,r];rfl
 .exact hR h k (by rw [<- yf2]; exact a)
theorem ypf (xs:List V):ybl xs (some 1) none=xs.tail:=by
 unfold ybl
 have e:HT.sIx xs.length 0 (some 1)=min 1 xs.length:=by
  have:=HT.sIx_nat xs.length 0 1;simpa using this
 rw [HT.sIx_none,e]
 cases xs with
 | nil=>rfl
 | cons x r=>simp
theorem yjn {n:Nat} (bs:List Bool) (h:n=bs.length):(List.range n).map (fun i=>V.bl ((bs[i]?).getD false))=bs.map V.bl:=by
 subst h;apply List.ext_getElem
 .rw [bv,bW,bv]
 .intro i a b;rw [bv,bW] at a;rw [cQ,List.getElem_range,cQ,bx a];rfl
def yz7 (K:W.Frag) (H:Hp) (xs:List V) (bs:List Bool):Prop:=xs.length=bs.length/\∀ (i:Nat) (y:V) (b:Bool),xs[i]?=some y->bs[i]?=some b->LkB K H y b
def LkG (H:Hp) (v:V) (kd:Fin 3) (tp:Addr) (ps:List Int):Prop:=∃ lk,v=.ref lk/\H lk=some (.tup [.str (kdS kd),.ref tp])/\H tp=some (.tup (ps.map V.int))/\jc (ps.map V.int)=true
theorem LkG.same {H H':Hp} {v:V} {kd:Fin 3} {tp:Addr} {ps:List Int} (h:LkG H v kd tp ps) (S:yy H H'):LkG H' v kd tp ps:=by
 obtain ⟨d,e,c,b,a⟩:=h;exact ⟨d,e,S _ _ c,S _ _ b,a⟩
theorem yoa (kd:Fin 3):yi2 (.str (kdS kd))=true:=by
 match kd with
 | 0=>rfl
 | 1=>rfl
 | 2=>rfl
theorem yfc {xs:List V} (h:jc xs=true):xs.length <= 4:=by
 unfold jc at h;rw [bX,bX] at h;exact of_decide_eq_true h.1.1
theorem LkG.tells {H:Hp} {v:V} {kd:Fin 3} {tp:Addr} {ps:List Int} (h:LkG H v kd tp ps):LkB K H v true:=by
 obtain ⟨b,e,c,d,a⟩:=h;have:=yfc a;refine .inr ⟨b,_,e,c,.inr ⟨_,_,"str",rfl,.str _,.inr ⟨yoa kd,.inr ⟨tp,_,rfl,d,by omega,fun y f=>?_,a.symm⟩⟩⟩⟩;obtain ⟨i,_,rfl⟩:=bD.mp f;exact ⟨_,.int i⟩
theorem yl9:∀ {ps:List Int},ps.Pairwise (· < ·)->vad (ps.map V.int)=true
 | [],_=>rfl
 | [_],_=>rfl
 | p :: q :: r,h=>by
  have b:p < q:=(List.pairwise_cons.mp h).1 q (by simp);have a:=yl9 (List.pairwise_cons.mp h).2;unfold vad at a ⊢;simp only [cm,List.tail_cons,List.zipWith_cons_cons,List.all_cons] at a ⊢;rw [show ltV (V.int p) (V.int q)=true from bJ b];simpa using a
theorem yfq {ps:List Int} (h1:ps.length <= 4) (h2:∀ p∈ps,1 <= p/\p <= 8) (h3:ps.Pairwise (· < ·)):jc (ps.map V.int)=true:=by
 unfold jc;rw [bv,bJ h1,yl9 h3,Bool.true_and,Bool.and_true,List.all_eq_true];intro y a;obtain ⟨i,b,rfl⟩:=bD.mp a;have:=h2 i b;show (decide (1 <= i) && decide (i <= 8))=true;rw [bJ this.1,bJ this.2];rfl
def Lks (H:Hp) (xs:List V):Prop:=∀ y∈xs,∃ kd tp ps,LkG H y kd tp ps
def dLk (kd:Fin 3) (ps:List Int):PyData:=.tuple [.str (kdS kd),.tuple (ps.map PyData.int)]
theorem LkG.rd {H:Hp} {v:V} {kd:Fin 3} {tp:Addr} {ps:List Int} (h:LkG H v kd tp ps):RdV K H v (dLk kd ps):=by
 obtain ⟨c,rfl,b,a,_⟩:=h;exact .tup (SqT.of b) (.cons (.str _) (.cons (.tup (SqT.of a) (z7 ps)) .nil))
theorem ynf (kd:Fin 3) (ps:List Int):(dLk kd ps).canLay0=true:=by
 have e:PyData.strOk (kdS kd)=true:=by
  match kd with
  | 0=>decide +kernel
  | 1=>decide +kernel
  | 2=>decide +kernel
 simp [dLk,PyData.canLay0,PyData.canLayAll0,zd,e]
theorem yfw (kd:Fin 3) (ps:List Int):(dLk kd ps).depth <= 2:=by
 simp [dLk,PyData.depth,PyData.depthAll,ji]
theorem yn1 (kd:Fin 3) (ps:List Int):PyData.eqv (dLk kd ps) (dLk kd ps)=true:=by
 simp [dLk,PyData.eqv,PyData.eqvAll,zg]
theorem Lks.bs {H:Hp} {xs:List V} (h:Lks H xs):yz7 K H xs (List.replicate xs.length true):=by
 refine ⟨by rw [cT],fun i y b c d=>?_⟩;have a:b=true:=cG (bM d);obtain ⟨e,g,f,z⟩:=h y (bM c);rw [a];exact z.tells
theorem yhq (n:Nat):(List.replicate n true).all id=true:=by simp
def vbf (K:W.Frag) (H:Hp) (x:V):Prop:=(∃ n,x4 K H x (.type n)/\n≠"list")\/∃ l xs bs,x=.ref l/\H l=some (.lst xs)/\xs.length <= 1000/\yz7 K H xs bs/\¬ (1 <= xs.length/\xs.length <= 6/\bs.all id=true)
theorem LkG.upd {H:Hp} {v:V} {kd:Fin 3} {tp l:Addr} {ps:List Int} {xs ys:List V} (h:LkG H v kd tp ps) (hl:H l=some (.lst xs)):LkG (L2.upd H l (.lst ys)) v kd tp ps:=by
 obtain ⟨d,e,b,a,c⟩:=h;exact ⟨d,e,yk (xa b hl (by intro z; cases z)) b,yk (xa a hl (by intro z; cases z)) a,c⟩
def upN {α:Type} (g:Nat->α) (n:Nat) (x:α):Nat->α:=fun j=>if j=n then x else g j
theorem xq {α:Type} {g:Nat->α} {n:Nat} {x:α}:upN g n x n=x:=if_pos rfl
theorem xl {α:Type} {g:Nat->α} {n:Nat} {x:α} (h:j < n):upN g n x j=g j:=if_neg (by omega)
theorem ynx (c:Int):∃ kk:Fin 3,atI [V.str "even",V.str "quick",V.str "run"] (c % 3)=some (V.str (kdS kk)):=by
 have b:0 <= c % 3:=cu _ (by decide);have a:c % 3 < 3:=cj _ (by decide);generalize c % 3=z at b a;obtain rfl | rfl | rfl:z=0\/z=1\/z=2:=by omega
 .exact ⟨0,rfl⟩
 .exact ⟨1,rfl⟩
 .exact ⟨2,rfl⟩
def xu (H:Hp) (n:Nat) (lk:Nat->Addr) (kd:Nat->Fin 3) (tp:Nat->Addr) (ps:Nat->List Int):Prop:=∀ i,i < n->LkG H (.ref (lk i)) (kd i) (tp i) (ps i)
theorem xu.same {H H':Hp} {n:Nat} {lk:Nat->Addr} {kd:Nat->Fin 3} {ps:Nat->List Int} (h:xu H n lk kd tp ps) (S:yy H H'):xu H' n lk kd tp ps:=fun i a=>(h i a).same S
structure Sd (K:W.Frag) (H:Hp) (v:V) (d:PyData) (k:Nat):Prop where
 rd:RdV K H v d
 lay:d.canLay0=true
 dep:d.depth <= k
 eq:PyData.eqv d d=true
structure Sds (K:W.Frag) (H:Hp) (xs:List V) (ds:List PyData) (k:Nat):Prop where
 rd:yfl K H xs ds
 lay:PyData.canLayAll0 ds=true
 dep:PyData.depthAll ds <= k
 eq:PyData.eqvAll ds ds=true
theorem Sds.nil {H:Hp} {k:Nat}:Sds K H [] [] k:=⟨.nil,rfl,bR _,by simp [PyData.eqvAll]⟩
theorem Sds.cons {H:Hp} {v:V} {d:PyData} {xs:List V} {ds:List PyData} {k:Nat} (h:Sd K H v d k) (r:Sds K H xs ds k):Sds K H (v :: xs) (d :: ds) k:=by
 refine ⟨.cons h.rd r.rd,by simp [PyData.canLayAll0,h.lay,r.lay],?_,by simp [PyData.eqvAll,h.eq,r.eq]⟩;have b:=h.dep;have a:=r.dep;simp only [PyData.depthAll];omega
theorem Sds.ints {H:Hp} (ns:List Int) {k:Nat}:Sds K H (ns.map V.int) (ns.map PyData.int) k:=⟨z7 ns,zd ns,by rw [ji]; exact bR _,by rw [zg,bJ rfl]⟩
theorem Sd.lst {H:Hp} {xs:List V} {ds:List PyData} {k:Nat} (h:SqL K H p xs) (r:Sds K H xs ds k):Sd K H (.ref p) (.list ds) (k+1):=by
 refine ⟨.lst h r.rd,by simp [PyData.canLay0,r.lay],?_,by simp [PyData.eqv,r.eq]⟩;have a:=r.dep;simp only [PyData.depth];omega
theorem yiz {g:Bool->Bool} {H:Hp} {Q:VK} {x y:V} {d:PyData} {k:Nat} (h1:Sd K H x d k) (h2:Sd K H y d k) (hk:k <= 60) (h:Q (.bl (g true)) H):yx8 K g x y H Q:=by
 have a:SeqAt.shaped d=true:=by
  unfold SeqAt.shaped;rw [bX];exact ⟨h1.lay,bJ (by have:=h1.dep; omega)⟩
 exact ⟨d,d,h1.rd,h2.rd,a,a,by rw [h1.eq]; exact h⟩
theorem yzq:ym ["thing"] ["thing"] (yh vaa):=wx (by right)
inductive î (K:W.Frag) (vs:List V) (H:Hp) (Q:VK) (E':XK):Prop
 | mk (x n:_):(vs=[x])->(x4 K H x (.type n))->(Q (.bl (jt x)) H)->î K vs H Q E'
theorem yiy (T:Txt K mg a):wa P w K mg base CX0 1 a.O5 a.O6 ["thing"] (î K):=by
 exists T.C6.F.ok,yzq,g;obtain ⟨x,n,rfl,b,k⟩:=h;refine ⟨_,(yf (yu (ue (yr vy rfl T.A5 (by right) (yb (pv 0) (yb (ut (T:="int") rfl T.Ff (by right)) ye (ya rfl)) (ya rfl))) (zt (ymo (yr vy rfl T.A5 (by right) (yb (pv 0) (yb (ut (T:="bool") rfl T.I4 (by right)) ye (ya rfl)) (ya rfl)))))))),?_⟩;exists 1,0;rfl';refine jo b (yo8 b) ?_;rfl'
 cases hx:ymh x with
 | false =>
  have e:jt x=false:=by
   cases x <;> first | rfl | cases hx
  rw [e] at k;exact ė k
 | true =>
  have e:jt x=!yg8 x:=by
   cases x <;> first | rfl | cases hx
  rw [e] at k;refine Ĥ ?_;rfl';refine jo b (yko b) ?_;rfl';exact k
theorem yzi:ym ["thing"] ["thing"] (yh yz3):=wx (by right)
inductive yah (K:W.Frag) (vs:List V) (H:Hp) (Q:VK) (E':XK):Prop
 | mk (x n:_):(vs=[x])->(x4 K H x (.type n))->(Q (.bl (Ù x)) H)->yah K vs H Q E'
theorem yzp (T:Txt K mg a):wa P w K mg base CX0 2 a.O7 a.O8 ["thing"] (yah K):=by
 exists T.N3.F.ok,yzi,j;obtain ⟨x,n,rfl,g,k⟩:=h;refine ⟨_,(yf (yu (ue (vi (yiy T) (j.mono (by decide)) rfl T.C6.m T.C6.F.kp T.C6.B .nil vh (yb (pv 0) ye (ya rfl))) (zt (τ zq zq yg (pv 0) yg))))),?_⟩;exists 1,0;rfl';refine ⟨x,n,rfl,g,?_⟩;rfl'
 cases hx:jt x with
 | false =>
  have e:Ù x=false:=by
   cases x <;> first | rfl | cases hx
  rw [e] at k;exact ė k
 | true =>
  obtain ⟨i,rfl⟩:=u7 hx;refine Ĥ ?_;rfl';refine uz (fun c=>?_) (fun c=>?_)
  .rfl';have e:Ù (.int i)=decide (i <= 1):=by simp [Ù,c]
   rw [e] at k;exact k
  .have e:Ù (.int i)=false:=by simp [Ù,c]
   rw [e] at k;exact k
theorem yy2:ym ["thing"] ["thing"] (yh yz9):=wx (by right)
inductive Ï (K:W.Frag) (vs:List V) (H:Hp) (Q:VK) (E':XK):Prop
 | mk (x n:_):(vs=[x])->(x4 K H x (.type n))->(Q (.bl (chV x)) H)->Ï K vs H Q E'
theorem yzo (T:Txt K mg a):wa P w K mg base CX0 2 a.O9 a.Oa ["thing"] (Ï K):=by
 exists T.N4.F.ok,yy2,j;obtain ⟨x,n,rfl,g,k⟩:=h;refine ⟨_,(yf (yu (ue (vi (yiy T) (j.mono (by decide)) rfl T.C6.m T.C6.F.kp T.C6.B .nil vh (yb (pv 0) ye (ya rfl))) (zt (τ zq zq (vt rfl T.Dd) (pv 0) (yn uc (vt rfl T.Cy) (vt rfl T.Dd))))))),?_⟩;exists 1,0;rfl';refine ⟨x,n,rfl,g,?_⟩;rfl'
 cases hx:jt x with
 | false =>
  have e:chV x=false:=by
   cases x <;> first | rfl | cases hx
  rw [e] at k;exact ė k
 | true =>
  obtain ⟨i,rfl⟩:=u7 hx;refine Ĥ ?_;rfl';refine uz (fun c=>?_) (fun c=>?_)
  .rfl';have e:chV (.int i)=decide (i <= 16777216 - 32768):=by simp [chV,c]
   rw [e] at k;exact k
  .have e:chV (.int i)=false:=by simp [chV,c]
   rw [e] at k;exact k
theorem yyt:ym ["thing"] ["thing"] (yh vab):=wx (by right)
inductive ĥ (K:W.Frag) (vs:List V) (H:Hp) (Q:VK) (E':XK):Prop
 | mk (x n:_):(vs=[x])->(x4 K H x (.type n))->(Q (.bl (sgV x)) H)->ĥ K vs H Q E'
theorem yy1 (T:Txt K mg a):wa P w K mg base CX0 2 a.Ob a.Oc ["thing"] (ĥ K):=by
 exists T.N5.F.ok,yyt,j;obtain ⟨x,n,rfl,g,k⟩:=h;refine ⟨_,(yf (yu (ue (vi (yiy T) (j.mono (by decide)) rfl T.C6.m T.C6.F.kp T.C6.B .nil vh (yb (pv 0) ye (ya rfl))) (zt (τ zq zq yg (pv 0) yg))))),?_⟩;exists 1,0;rfl';refine ⟨x,n,rfl,g,?_⟩;rfl'
 cases hx:jt x with
 | false =>
  have e:sgV x=false:=by
   cases x <;> first | rfl | cases hx
  rw [e] at k;exact ė k
 | true =>
  obtain ⟨i,rfl⟩:=u7 hx;refine Ĥ ?_;rfl';refine uz (fun c=>?_) (fun c=>?_)
  .rfl';have e:sgV (.int i)=decide (i <= 255):=by simp [sgV,c]
   rw [e] at k;exact k
  .have e:sgV (.int i)=false:=by simp [sgV,c]
   rw [e] at k;exact k
theorem yy4:ym ["thing","most"] ["thing","most"] (yh vaf):=wx (by right)
inductive yk9 (K:W.Frag) (vs:List V) (H:Hp) (Q:VK) (E':XK):Prop
 | mk (x n m:_):(vs=[x,.int m])->(x4 K H x (.type n))->(((Bad K H x n m/\∀ H',yy H H'->Q (.bl false) H')\/∃ xs,yx9 K H x xs m/\∀ H',yy H H'->Q (.bl true) H'))->yk9 K vs H Q E'
theorem yxx (T:Txt K mg a):wa P w K mg base CX0 3 a.Od a.Oe ["thing","most"] (yk9 K):=by
 exists T.Fl.F.ok,yy4,Y;obtain ⟨x,n,m,rfl,I,h⟩:=h
 have v:(n≠"list"/\∀ d,yy H d->Q (.bl false) d)\/∃ p xs,x=.ref p/\H p=some (.lst xs)/\ykr K H xs/\xs.length <= 100000/\∀ d,yy H d->Q (.bl (decide ((xs.length:Int) <= m) && xs.all sgV)) d:=by
  rcases h with ⟨h | ⟨p,xs,e,c,t,l,G⟩,k⟩ | ⟨xs,⟨p,e,c,t,l,G⟩,k⟩
  .exact .inl ⟨h,k⟩
  .exact .inr ⟨p,xs,e,c,t,l,fun d S=>by rw [G]; exact k d S⟩
  .exact .inr ⟨p,xs,e,c,t,l,fun d S=>by rw [G]; exact k d S⟩
 refine ⟨_,(yf (yu (ue (yr vy rfl T.A5 (by right) (yb (pv 0) (yb (ut (T:="list") rfl T.Ab (by right)) ye (ya rfl)) (ya rfl))) (ue (x6 zq (yr yz rfl T.Ae (by right) (yb (pv 0) ye (ya rfl))) (pv 1) (y8 _)) (zt (yr (jk rfl) rfl T.Da (by right) (yb (wj (js:=[]) (ys:=[]) rfl (wu (pv 0)) (fun C s2 H2 Z=>(vi (yy1 T) (Y.mono (by decide)) rfl T.N5.m T.N5.F.kp T.N5.B .nil vh (yb (pv 0) ye (ya rfl)))) rfl rfl (hyc:=y7) (hrel:=y7)) ye (ya rfl)))))))),?_⟩;exists 2,0;rfl';refine jo I (ypg I) ?_;rfl';rcases v with ⟨N,k⟩ | ⟨p,xs,rfl,c,X,l,k⟩
 .refine ybh N ?_;rfl';exact k _ (yy.refl _)
 .have N:n="list":=by
   cases I with
   | lst e=>rfl
   | frz e=>rfl
   | tup e=>rw [c] at e; cases e
   | dK e=>rw [c] at e; cases e
   | dT e=>rw [c] at e; cases e
  refine ű N ?_;rfl';refine zn (SqL.of c) ?_;rfl';refine uz (fun M=>?_) (fun M=>?_)
  .rw [bJ M,Bool.true_and] at k;rfl';refine ⟨p,rfl,⟨_,SqL.of c⟩,fun D L=>?_⟩;have nD:p≠D:=yd c L;refine u8 (K:=K) (a:=p) (xs:=xs) (fun i g=>g D=some (.lst (((xs.take i).map sgV).map V.bl))/\yy H g)
    ⟨yc,vj L⟩ (fun i g _ q=>SqL.of (q.2 _ _ c)) ?_ ?_
   .rintro i y g O r ⟨f,j⟩;rfl';obtain ⟨W,J⟩:=X y (bM O);refine ⟨y,W,rfl,Ľ j J,?_⟩;refine xw f (by rw [bv,bv,bT]; exact yjg (by omega)) r ⟨yc.trans ?_,fun b o e=>yk (fun z=>?_) (j _ _ e)⟩
    .rw [List.take_succ,O];simp
    .subst z;rw [L] at e;cases e
   .rintro g ⟨f,j⟩;rfl';refine ⟨D,_,rfl,SqL.of f,?_⟩;rw [cA (bA _),List.all_map];exact k _ j
  .rw [bO M,Bool.false_and] at k;rfl';exact k _ (yy.refl _)
theorem yzh:ym ["thing"] ["thing"] (yh vag):=wx (by right)
theorem yw9 (T:Txt K mg a):wa P w K mg base (CXe P w) 4 a.Of a.Og ["thing"] (È K a.Gm 1000):=by
 exists T.Fm.F.okE,yzh,o;obtain ⟨x,n,rfl,l,h⟩:=h;refine ⟨_,(yi (wb (xr (xj (vi (yxx T) (o.mono (by decide)) rfl T.Fl.m T.Fl.F.kp T.Fl.B .nil vh (yb (pv 0) (yb (vt rfl T.Cz) ye (ya rfl)) (ya rfl))))) (yf (xg rfl T.Qr T.Pg (yb xm ye (ya rfl)))) y9) (yf (yu (vn v8 rfl T.Ab (by right) (yb (pv 0) ye (ya rfl)))))),?_⟩;exists 1,0;rfl';refine ⟨x,n,_,rfl,l,?_⟩;rcases h with ⟨t,k⟩ | ⟨f,e,k⟩
 .refine .inl ⟨t,fun i b=>?_⟩;rfl';exact ⟨by walk_at "len",k _ b⟩
 .refine .inr ⟨f,e,fun i b=>?_⟩;obtain ⟨p,rfl,q,_⟩:=e;rfl';refine ⟨p,f,rfl,.inl (SqL.of (b _ _ q)),fun r c=>?_⟩;exact k r _ (b.free c) yc (b.trans (vj c))
theorem yy6:ym ["thing"] ["thing"] (yh vai):=wx (by right)
theorem yzf (T:Txt K mg a):wa P w K mg base (CXe P w) 4 a.Oh a.Oi ["thing"] (È K a.Fh 12000):=by
 exists T.N6.F.okE,yy6,o;obtain ⟨x,n,rfl,l,h⟩:=h;refine ⟨_,(yi (wb (xr (xj (vi (yxx T) (o.mono (by decide)) rfl T.Fl.m T.Fl.F.kp T.Fl.B .nil vh (yb (pv 0) (yb (vt rfl T.Fs) ye (ya rfl)) (ya rfl))))) (yf (xg rfl T.Qs T.Ph (yb xm ye (ya rfl)))) y9) (yf (yu (vn v8 rfl T.Ab (by right) (yb (pv 0) ye (ya rfl)))))),?_⟩;exists 1,0;rfl';refine ⟨x,n,_,rfl,l,?_⟩;rcases h with ⟨t,k⟩ | ⟨f,e,k⟩
 .refine .inl ⟨t,fun i b=>?_⟩;rfl';exact ⟨by walk_at "len",k _ b⟩
 .refine .inr ⟨f,e,fun i b=>?_⟩;obtain ⟨p,rfl,q,_⟩:=e;rfl';refine ⟨p,f,rfl,.inl (SqL.of (b _ _ q)),fun r c=>?_⟩;exact k r _ (b.free c) yc (b.trans (vj c))
theorem yzk:ym ["thing"] ["thing"] (yh yz2):=wx (by right)
def yr0:V->Bool
 | .int i=>decide (0 <= i) && decide (i <= 1000)
 | _=>false
theorem ytv {m:Nat} (h:m <= 1000):yr0 (.int m)=true:=by
 show (decide ((0:Int) <= m) && decide ((m:Int) <= 1000))=true;rw [bJ (by omega),bJ (by omega)];rfl
inductive ydh (K:W.Frag) (C:Addr) (vs:List V) (H:Hp) (Q:VK) (E:XK):Prop
 | mk (x n:_):(vs=[x])->(x4 K H x (.type n))->((yr0 x=true->Q .non H))->((yr0 x=false->E (.ref C) none H))->ydh K C vs H Q E
theorem yzz (T:Txt K mg a):wa P w K mg base (CXe P w) 2 a.Oj a.Ol ["thing"] (ydh K a.B0):=by
 exists T.N7.F.okE,yzk,l;obtain ⟨x,n,rfl,k,o,f⟩:=h;refine ⟨_,(yf (wb (PW.pt (À (xr (xj (vi (yiy T) (l.mono (by decide)) rfl T.C6.m T.C6.F.kp T.C6.B .nil vh (yb (pv 0) ye (ya rfl))))) (χ (xr (Ť zq zq yg (pv 0) (vt rfl T.Cz)))))) (yf (xg rfl T.Nn T.Dq (yb xm ye (ya rfl)))) y9)),?_⟩;exists 1,0;rfl';refine ⟨x,n,rfl,k,?_⟩;rfl'
 cases hx:jt x with
 | false =>
  have e:yr0 x=false:=by
   cases x <;> first | rfl | cases hx
  rfl';exact ⟨by walk_at "len",f e⟩
 | true =>
  obtain ⟨i,rfl⟩:=u7 hx;rfl';refine uz (fun b=>?_) (fun b=>?_)
  .rfl';refine yk0 (fun d=>?_) (fun d=>?_)
   .rfl';exact o (by simp [yr0,b,d])
   .rfl';exact ⟨by walk_at "len",f (by simp [yr0,d])⟩
  .rfl';exact ⟨by walk_at "len",f (by simp [yr0,b])⟩
theorem yzm:ym ["thing"] ["thing"] (yh yz8):=wx (by right)
inductive zz (K:W.Frag) (C:Addr) (vs:List V) (H:Hp) (Q:VK) (E:XK):Prop
 | mk (x n:_):(vs=[x])->(x4 K H x (.type n))->((chV x=true->Q .non H))->((chV x=false->E (.ref C) none H))->zz K C vs H Q E
theorem yre (T:Txt K mg a):wa P w K mg base (CXe P w) 3 a.Om a.On ["thing"] (zz K a.De):=by
 exists T.Dc.F.okE,yzm,f;obtain ⟨x,n,rfl,e,g,i⟩:=h;refine ⟨_,(yf (wb (xr (xj (vi (yzo T) (f.mono (by decide)) rfl T.N4.m T.N4.F.kp T.N4.B .nil vh (yb (pv 0) ye (ya rfl))))) (yf (xg rfl T.Qt T.Pi (yb xm ye (ya rfl)))) y9)),?_⟩;exists 1,0;rfl';refine ⟨x,n,rfl,e,?_⟩;rfl'
 cases hx:chV x with
 | false =>
  rfl';exact ⟨by walk_at "len",i hx⟩
 | true =>
  rfl';exact g hx
theorem ytx:ym ["thing"] ["thing"] (yh ypn):=wx (by right)
inductive Î (K:W.Frag) (C:Addr) (vs:List V) (H:Hp) (Q:VK) (E:XK):Prop
 | mk (x n:_):(vs=[x])->(x4 K H x (.type n))->((Ù x=true->Q .non H))->((Ù x=false->E (.ref C) none H))->Î K C vs H Q E
theorem Ď (T:Txt K mg a):wa P w K mg base (CXe P w) 3 a.Ic a.Ie ["thing"] (Î K a.Bx):=by
 exists T.Ak.F.okE,ytx,f;obtain ⟨x,n,rfl,e,g,i⟩:=h;refine ⟨_,(yf (wb (xr (xj (vi (yzp T) (f.mono (by decide)) rfl T.N3.m T.N3.F.kp T.N3.B .nil vh (yb (pv 0) ye (ya rfl))))) (yf (xg rfl T.Qu T.Pj (yb xm ye (ya rfl)))) y9)),?_⟩;exists 1,0;rfl';refine ⟨x,n,rfl,e,?_⟩;rfl'
 cases hx:Ù x with
 | false =>
  rfl';exact ⟨by walk_at "len",i hx⟩
 | true =>
  rfl';exact g hx
theorem yt7:ym ["chance","bit"] ["chance","bit"] (yh yqa):=wx (by right)
inductive yc0 (K:W.Frag) (C D:Addr) (vs:List V) (H:Hp) (Q:VK) (E:XK):Prop
 | mk (x n y m:_):(vs=[x,y])->(x4 K H x (.type n))->(x4 K H y (.type m))->((chV x=false->E (.ref C) none H))->((chV x=true->Ù y=false->E (.ref D) none H))->((∀ c b,x=.int c->y=.int b->chV x=true->Ù y=true->Q (.int (gvv c b)) H))->yc0 K C D vs H Q E
theorem ytg (T:Txt K mg a):wa P w K mg base (CXe P w) 4 a.If a.Ig ["chance","bit"] (yc0 K a.De a.Bx):=by
 exists T.Ec.F.okE,yt7,g;obtain ⟨x,n,y,m,rfl,t,p,q,r,l⟩:=h;refine ⟨_,(yi (yw (v6 (yre T) (g.mono (by decide)) rfl T.Dc.m T.Dc.F.kp T.Dc.B .nil vg (yb (pv 0) ye (ya rfl)))) (yi (yw (v6 (Ď T) (g.mono (by decide)) rfl T.Ak.m T.Ak.F.kp T.Ak.B .nil vg (yb (pv 1) ye (ya rfl)))) (yf (yu (μ (yx x3 (pv 1) yg (y8 _)) (pv 0) (yn uc (vt rfl T.Cy) (pv 0))))))),?_⟩;exists 2,0;rfl';refine ⟨x,n,rfl,t,fun f=>?_,q⟩;rfl';refine ⟨y,m,rfl,p,fun i=>?_,r f⟩;obtain ⟨c,rfl,v,z⟩:=ycc f;obtain ⟨b,rfl,C,u⟩:=ydw i;rfl';have k:=l c b rfl rfl f i;unfold gvv at k;refine uz (fun d=>?_) (fun d=>?_)
 .rw [if_pos d] at k;rfl';exact k
 .rw [if_neg d] at k;rfl';exact k
theorem yu1:ym ["self"] ["self"] (yh ypx):=wx (by right)
theorem ysz (T:Txt K mg a):wa P w K mg base CX0 1 a.Ga a.Ih ["self"] (á a.A9 (ju (.int 0) (.int 0))):=by
 exists T.Ed.F.ok,yu1,f;obtain ⟨p,d,rfl,g,k⟩:=h;refine ⟨_,(yi (vk (pv 0) yg rfl) (yf (vk (pv 0) yg rfl))),?_⟩;exists 1,0;rfl';exact k _ yc (But.upd.trans But.upd)
theorem ytt:ym ["self"] ["self"] (yh yp9):=wx (by right)
theorem yw3 (T:Txt K mg a):wa P w K mg base CX0 1 a.Ii a.Ij ["self"] (x5 (oS a) yyf):=by
 exists T.Gn.F.ok,ytt,m;obtain ⟨p,d,i,rfl,c,j,e,k⟩:=h
 cases i with
 | ev n o =>
  obtain ⟨q,r,l⟩:=j;have e:H p=some (.ins a.A9 d (ju (.int n) (.int o))):=e;refine ⟨_,(yf (yu (yn vd (yn wl (yn vv (yn wl yg (yp (pv 0) rfl)) yg) (vt rfl T.Cy)) (yn vv (yn wl yg (yn vv (yp (pv 0) rfl) (yp (pv 0) rfl))) yg)))),?_⟩;exists 1,0;rfl';exact k
 | qk _=>exact c.elim
 | rn _ _=>exact c.elim
theorem ysf:ym ["self","bit"] ["self","bit"] (yh ypj):=wx (by right)
theorem yvt (T:Txt K mg a):wa P w K mg base (CXe P w) 4 a.Ik a.Il ["self","bit"] (zj K (oS a) yyf a.Bx):=by
 exists T.Gp.F.okE,ysf,z;obtain ⟨p,g,q,x,D,rfl,f,r,i,y,C,G⟩:=h
 cases q with
 | ev n o =>
  obtain ⟨J,L,I⟩:=r;have i:H p=some (.ins a.A9 g (ju (.int n) (.int o))):=i;refine ⟨_,(yi (yw (v6 (Ď T) (z.mono (by decide)) rfl T.Ak.m T.Ak.F.kp T.Ak.B .nil vg (yb (pv 1) ye (ya rfl)))) (yi (wb (yx x3 (pv 1) yg (y8 _)) (yf (vk (pv 0) (yn vv (yp (pv 0) rfl) yg) rfl)) (yf (vk (pv 0) (yn vv (yp (pv 0) rfl) yg) rfl))) (yf (wb (yx yfj (yn vv (yp (pv 0) rfl) (yp (pv 0) rfl)) (vt rfl T.Ce) (y8 _)) (yi (vk (pv 0) (yn vd (yn vv (yp (pv 0) rfl) yg) yg) rfl) (yf (vk (pv 0) (yn vd (yn vv (yp (pv 0) rfl) yg) yg) rfl))) y9)))),?_⟩;exists 2,0;rfl';refine ⟨x,D,rfl,y,fun v=>?_,G⟩;obtain ⟨b,rfl,u,t⟩:=yd0 v;have k:=C b rfl u t;unfold Slt.see at k;dsimp only at k;rfl';refine uz (fun e=>?_) (fun e=>?_)
  .rw [if_pos e] at k;unfold ycn at k;rfl';refine uz (fun c=>?_) (fun c=>?_)
   .rw [if_pos c] at k;rfl';exact k _ yc ((But.upd.trans But.upd).trans But.upd)
   .rw [if_neg c] at k;rfl';exact k _ yc But.upd
  .rw [if_neg e] at k;unfold ycn at k;rfl';refine uz (fun c=>?_) (fun c=>?_)
   .rw [if_pos c] at k;rfl';exact k _ yc ((But.upd.trans But.upd).trans But.upd)
   .rw [if_neg c] at k;rfl';exact k _ yc But.upd
 | qk _=>exact f.elim
 | rn _ _=>exact f.elim
theorem yvi:ym ["self"] ["self"] (yh yrl):=wx (by right)
theorem yws (T:Txt K mg a):wa P w K mg base CX0 1 a.Gb a.Im ["self"] (á a.A8 (zl (.int 8388608))):=by
 exists T.Ee.F.ok,yvi,f;obtain ⟨p,d,rfl,g,k⟩:=h;refine ⟨_,(yf (vk (pv 0) (yn vd (vt rfl T.Cy) yg) rfl)),?_⟩;exists 1,0;rfl';exact k _ yc But.upd
theorem yti:ym ["self"] ["self"] (yh yq0):=wx (by right)
theorem ywj (T:Txt K mg a):wa P w K mg base CX0 1 a.Io a.Ip ["self"] (x5 (oS a) yyg):=by
 exists T.Gq.F.ok,yti,l;obtain ⟨p,d,i,rfl,c,j,e,k⟩:=h
 cases i with
 | qk h0 =>
  have e:H p=some (.ins a.A8 d (zl (.int h0))):=e;refine ⟨_,(yf (yu (yp (pv 0) rfl))),?_⟩;exists 1,0;rfl';exact k
 | ev _ _=>exact c.elim
 | rn _ _=>exact c.elim
theorem yig:ym ["self","bit","moved"] ["self","bit"] (yh yq1):=wx (by right)
theorem yv8 (T:Txt K mg a):wa P w K mg base (CXe P w) 4 a.Iq a.Ir ["self","bit"] (zj K (oS a) yyg a.Bx):=by
 exists T.Gr.F.okE,yig,y;obtain ⟨p,f,o,x,C,rfl,e,q,g,v,z,D⟩:=h
 cases o with
 | qk h0 =>
  obtain ⟨G,I⟩:=q;have g:H p=some (.ins a.A8 f (zl (.int h0))):=g;refine ⟨_,(yi (yw (v6 (Ď T) (y.mono (by decide)) rfl T.Ak.m T.Ak.F.kp T.Ak.B .nil vg (yb (pv 1) ye (ya rfl)))) (yi (wb (yx x3 (pv 1) yg (y8 _)) (yf (yt (i:=2) yig.nd rfl (Or.inl rfl) (yn vv (yp (pv 0) rfl) (yn vd (yn uc (vt rfl T.Cy) (yp (pv 0) rfl)) yg)))) (yf (yt (i:=2) yig.nd rfl (Or.inl rfl) (yn uc (yp (pv 0) rfl) (yn vd (yp (pv 0) rfl) yg))))) (yf (vk (pv 0) (yr (Ă rfl) rfl T.Hu (by right) (yb (yr (ι rfl) rfl T.Fg (by right) (yb (pv 2) (yb (vt rfl T.Dd) ye (ya rfl)) (ya rfl))) (yb (yn uc (vt rfl T.Cy) (vt rfl T.Dd)) ye (ya rfl)) (ya rfl))) rfl)))),?_⟩;exists 2,1;rfl';refine ⟨x,C,rfl,v,fun u=>?_,D⟩;obtain ⟨b,rfl,t,r⟩:=yd0 u;have k:=z b rfl t r;unfold Slt.see at k;dsimp only at k;rfl';refine uz (fun d=>?_) (fun d=>?_)
  .rw [if_pos d] at k;rfl';refine ⟨_,_,rfl,?_⟩;rfl';refine ⟨_,_,rfl,?_⟩;rfl';exact k _ yc But.upd
  .rw [if_neg d] at k;rfl';refine ⟨_,_,rfl,?_⟩;rfl';refine ⟨_,_,rfl,?_⟩;rfl';exact k _ yc But.upd
 | ev _ _=>exact e.elim
 | rn _ _=>exact e.elim
theorem yts:ym ["self"] ["self"] (yh yql):=wx (by right)
theorem yux (T:Txt K mg a):wa P w K mg base CX0 1 a.Gc a.Is ["self"] (á a.Af (ģ (.int 1) (.int 0))):=by
 exists T.Ef.F.ok,yts,f;obtain ⟨p,d,rfl,g,k⟩:=h;refine ⟨_,(yi (vk (pv 0) yg rfl) (yf (vk (pv 0) yg rfl))),?_⟩;exists 1,0;rfl';exact k _ yc (But.upd.trans But.upd)
theorem ym7:ym ["self","given"] ["self"] (yh yp5):=wx (by right)
theorem yuc (T:Txt K mg a):wa P w K mg base CX0 1 a.Iu a.Iv ["self"] (x5 (oS a) yyd):=by
 exists T.Gs.F.ok,ym7,r;obtain ⟨p,e,m,rfl,d,o,f,k⟩:=h
 cases m with
 | rn l n =>
  obtain ⟨u,v,q,t⟩:=o;have f:H p=some (.ins a.Af e (ģ (.int l) (.int n))):=f;refine ⟨_,(yi (yt (i:=1) ym7.nd rfl (Or.inl rfl) (yn vd (yn wl (yn vv (yn wl yg (yp (pv 0) rfl)) yg) (vt rfl T.Cy)) (yn vv (yn wl yg (yp (pv 0) rfl)) yg))) (yf (yu (μ (yx x3 (yp (pv 0) rfl) yg (y8 _)) (pv 1) (yn uc (vt rfl T.Cy) (pv 1)))))),?_⟩;exists 1,1;rfl';have k:Q (.int (if l=1 then Õ n else 16777216 - Õ n)) H:=k;refine uz (fun c=>?_) (fun c=>?_)
  .rw [if_pos c] at k;rfl';exact k
  .rw [if_neg c] at k;rfl';exact k
 | ev _ _=>exact d.elim
 | qk _=>exact d.elim
theorem ywi:ym ["self","bit"] ["self","bit"] (yh ypr):=wx (by right)
theorem ysr (T:Txt K mg a):wa P w K mg base (CXe P w) 4 a.Ix a.Iy ["self","bit"] (zj K (oS a) yyd a.Bx):=by
 exists T.Gt.F.okE,ywi,y;obtain ⟨p,f,o,x,C,rfl,e,q,g,v,z,D⟩:=h
 cases o with
 | rn l n =>
  obtain ⟨J,L,G,I⟩:=q;have g:H p=some (.ins a.Af f (ģ (.int l) (.int n))):=g;refine ⟨_,(yi (yw (v6 (Ď T) (y.mono (by decide)) rfl T.Ak.m T.Ak.F.kp T.Ak.B .nil vg (yb (pv 1) ye (ya rfl)))) (yf (wb (yx x3 (pv 1) (yp (pv 0) rfl) (y8 _)) (yf (vk (pv 0) (yr (Ă rfl) rfl T.Hu (by right) (yb (yn vv (yp (pv 0) rfl) yg) (yb (vt rfl T.Ce) ye (ya rfl)) (ya rfl))) rfl)) (yi (vk (pv 0) (pv 1) rfl) (yf (vk (pv 0) yg rfl)))))),?_⟩;exists 2,0;rfl';refine ⟨x,C,rfl,v,fun u=>?_,D⟩;obtain ⟨b,rfl,t,r⟩:=yd0 u;have k:=z b rfl t r;unfold Slt.see at k;dsimp only at k;rfl';refine uz (fun d=>?_) (fun d=>?_)
  .rw [if_pos d] at k;rfl';refine ⟨_,_,rfl,?_⟩;rfl';exact k _ yc But.upd
  .rw [if_neg d] at k;rfl';exact k _ yc (But.upd.trans But.upd)
 | ev _ _=>exact e.elim
 | qk _=>exact e.elim
theorem yss:ym ["kind"] ["kind"] (yh yrf):=wx (by right)
inductive į (a:Ads) (vs:List V) (H:Hp) (Q:VK) (E':XK):Prop
 | mk (k:Fin 3):(vs=[.str (kdS k)])->(∀ p dx H',H p=none->H' p=some (oS a dx (kd0 k))->yy H H'->Q (.ref p) H')->į a vs H Q E'
theorem yul (T:Txt K mg a):wa P w K mg base CX0 3 a.Iz a.J0 ["kind"] (į a):=by
 exists T.Eg.F.ok,yss,m;obtain ⟨q,rfl,k⟩:=h;refine ⟨_,(yi (wb (yx x3 (pv 0) xm (y8 _)) (yf (yu (jm T.Pa (ysz T) (m.mono (by decide)) rfl T.P9 T.Ed.B .nil vh))) y9) (yi (wb (yx x3 (pv 0) xm (y8 _)) (yf (yu (jm T.Op (yws T) (m.mono (by decide)) rfl T.Oo T.Ee.B .nil vh))) y9) (yi (wb (yx x3 (pv 0) xm (y8 _)) (yf (yu (jm T.Ps (yux T) (m.mono (by decide)) rfl T.Pr T.Ef.B .nil vh))) y9) (yf yjc)))),?_⟩;exists 1,0;rfl';refine ⟨rfl,?_⟩
 match q with
 | 0 =>
  refine ⟨_,rfl,ű rfl ?_⟩;rfl';intro p g f d n;refine ⟨p,g,rfl,yc,fun j c i=>⟨rfl,?_⟩⟩;exact k p g j f c fun b o e=>i b o (by rw [yq (yd e f),yq (yd e d)]; exact e) (yd e f)
 | 1 =>
  refine ⟨_,rfl,ybh (by intro z; injection z with z; revert z; decide +kernel) ?_⟩;rfl';refine ⟨rfl,?_⟩;refine ⟨_,rfl,ű rfl ?_⟩;rfl';intro p g f d n;refine ⟨p,g,rfl,yc,fun j c i=>⟨rfl,?_⟩⟩;exact k p g j f c fun b o e=>i b o (by rw [yq (yd e f),yq (yd e d)]; exact e) (yd e f)
 | 2 =>
  refine ⟨_,rfl,ybh (by intro z; injection z with z; revert z; decide +kernel) ?_⟩;rfl';refine ⟨rfl,?_⟩;refine ⟨_,rfl,ybh (by intro z; injection z with z; revert z; decide +kernel) ?_⟩;rfl';refine ⟨rfl,?_⟩;refine ⟨_,rfl,ű rfl ?_⟩;rfl';intro p g f d n;refine ⟨p,g,rfl,yc,fun j c i=>⟨rfl,?_⟩⟩;exact k p g j f c fun b o e=>i b o (by rw [yq (yd e f),yq (yd e d)]; exact e) (yd e f)
theorem yvo:ym ["thing"] ["thing"] (yh yqk):=wx (by right)
inductive ĳ (K:W.Frag) (vs:List V) (H:Hp) (Q:VK) (E':XK):Prop
 | mk (x n:_):(vs=[x])->(x4 K H x (.type n))->(Q (.bl (yi2 x)) H)->ĳ K vs H Q E'
theorem yvv (T:Txt K mg a):wa P w K mg base CX0 1 a.J1 a.J2 ["thing"] (ĳ K):=by
 exists T.Eh.F.ok,yvo,g;obtain ⟨x,n,rfl,b,k⟩:=h;refine ⟨_,(yf (yu (ue (yr vy rfl T.A5 (by right) (yb (pv 0) (yb (ut (T:="str") rfl T.Hv (by right)) ye (ya rfl)) (ya rfl))) (zt (x6 ygf (pv 0) (ych rfl T.Ow) (by with_unfolding_all rfl)))))),?_⟩;exists 1,0;rfl';refine jo b (ydq b) ?_;rfl';by_cases hn:n="str"
 .obtain ⟨s',rfl⟩:∃ s',x=.str s':=by
   cases b with
   | str s'=>exact ⟨s',rfl⟩
   | _=>exact absurd hn (by decide)
  rw [bJ hn];refine Ĥ ?_;rfl';exact ⟨a.Cg,_,rfl,.inr (T.Ox H),rfl,rfl,k⟩
 .have e:yi2 x=false:=by
   cases b with
   | str s'=>exact absurd rfl hn
   | _=>rfl
  rw [bO hn];rw [e] at k;exact ė k
theorem ytn:ym ["thing"] ["thing"] (yh yrv):=wx (by right)
inductive õ (K:W.Frag) (vs:List V) (H:Hp) (Q:VK) (E':XK):Prop
 | mk (x n:_):(vs=[x])->(x4 K H x (.type n))->(Q (.bl (plV x)) H)->õ K vs H Q E'
theorem yv4 (T:Txt K mg a):wa P w K mg base CX0 2 a.J3 a.J4 ["thing"] (õ K):=by
 exists T.Ei.F.ok,ytn,j;obtain ⟨x,n,rfl,g,k⟩:=h;refine ⟨_,(yf (yu (ue (vi (yiy T) (j.mono (by decide)) rfl T.C6.m T.C6.F.kp T.C6.B .nil vh (yb (pv 0) ye (ya rfl))) (zt (τ zq zq yg (pv 0) (vt rfl T.I5)))))),?_⟩;exists 1,0;rfl';refine ⟨x,n,rfl,g,?_⟩;rfl'
 cases hx:jt x with
 | false =>
  have e:plV x=false:=by
   cases x <;> first | rfl | cases hx
  rw [e] at k;exact ė k
 | true =>
  obtain ⟨i,rfl⟩:=u7 hx;refine Ĥ ?_;rfl';refine uz (fun c=>?_) (fun c=>?_)
  .rfl';have e:plV (.int i)=decide (i <= 8):=by simp [plV,c]
   rw [e] at k;exact k
  .have e:plV (.int i)=false:=by simp [plV,c]
   rw [e] at k;exact k
theorem ys0:ym ["thing"] ["thing"] (yh ypk):=wx (by right)
inductive η (K:W.Frag) (vs:List V) (H:Hp) (Q:VK) (E':XK):Prop
 | mk (x b:_):(vs=[x])->(PlB K H x b)->(∀ H',yy H H'->Q (.bl b) H')->η K vs H Q E'
theorem yv1 (T:Txt K mg a):wa P w K mg base CX0 3 a.J5 a.J6 ["thing"] (η K):=by
 exists T.Ej.F.ok,ys0,hr;obtain ⟨x,b,rfl,hb,k⟩:=h;refine ⟨_,(yi (wb (PW.pt (À (xr (xj (yr vy rfl T.A5 (by right) (yb (pv 0) (yb (ut (T:="tuple") rfl T.Ck (by right)) ye (ya rfl)) (ya rfl))))) (À (yx yfj (yr yz rfl T.Ae (by right) (yb (pv 0) ye (ya rfl))) (vt rfl T.E4) (y8 _)) (χ (xr (xj (yr (jk rfl) rfl T.Da (by right) (yb (wj (js:=[]) (ys:=[]) rfl (yel (pv 0)) (fun C Y J U=>(vi (yv4 T) (hr.mono (by decide)) rfl T.Ei.m T.Ei.F.kp T.Ei.B .nil vh (yb (pv 0) ye (ya rfl)))) rfl rfl (hyc:=y7) (hrel:=y7)) ye (ya rfl))))))))) (yf (yu ycl)) y9) (yf (yu (yr (jk rfl) rfl T.Da (by right) (yb (ydi (js:=[]) (ys:=[]) (xs:=["near","far"]) (g:=ysa K 2 (jp (w6 0) (jp (w6 1) ykz))) rfl (yoi rfl T.Hw (yb (pv 0) (yb (xx (yw4.or yos) (pv 0) (uk yg) uh) ye (ya rfl)) (ya rfl))) (fun C Y J U=>(x6 ybf (pv 0) (pv 1) (y8 _))) rfl (fun C Y J U=>yei rfl (uq (wo (i:=0) (show List.Nodup ((["near","far"]:List Str)++([]:List Str)) by right) rfl (Or.inl rfl)) (uq (wo (i:=1) (show List.Nodup ((["near","far"]:List Str)++([]:List Str)) by right) rfl (Or.inl rfl)) ũ))) rfl (hyc:=y7) (hrel:=y7)) ye (ya rfl)))))),?_⟩;exists 1,0;rcases hb with ⟨n,W,hn,rfl⟩ | ⟨t,xs,rfl,I,hl,hy,rfl⟩
 .rfl';refine jo W (Þ W) ?_;rfl';refine ypz hn ?_;rfl';exact k _ (yy.refl _)
 .rfl';refine jo (.tup I) (Þ (.tup I)) ?_;rfl';refine yq5 rfl ?_;rfl';refine ylq (SqT.of I) ?_;rfl';unfold jc at k;refine uz (fun h4=>?_) (fun h4=>?_)
  .rw [bO (by omega),Bool.false_and,Bool.false_and] at k;rfl';exact k _ (yy.refl _)
  .rw [bJ (by omega),Bool.true_and] at k;rfl';refine ⟨t,rfl,⟨_,SqT.of I⟩,fun D X=>?_⟩;refine yfo (xs:=xs) (fun v=>.bl (plV v)) (SqT.of I) X (fun i y J L q f=>?_) (fun J q f=>?_)
   .obtain ⟨n,R⟩:=hy y (bM L);rfl';refine ⟨y,n,rfl,Ľ q R,?_⟩;exact Mp.done X (vq (by omega)) L q f rfl
   have e:xs.map (fun v=>V.bl (plV v))=(xs.map plV).map V.bl:=by rw [cg]; rfl
   rw [e] at f;rfl';refine ⟨D,_,rfl,SqL.of f,?_⟩;rw [List.all_map];have ea:xs.all (id ∘ plV)=xs.all plV:=rfl;rw [ea];have c:=q _ _ I
   cases hp:xs.all plV with
   | false =>
    rw [hp,Bool.false_and] at k;rfl';exact k _ q
   | true =>
    rw [hp,Bool.true_and] at k
    have l:∀ y∈xs,∃ i:Int,y=.int i:=fun y hm=>by
     have:=List.all_eq_true.mp hp y hm
     cases y with
     | int i=>exact ⟨i,rfl⟩
     | _=>cases this
    rfl';by_cases hx0:xs=[]
    .refine .inr ⟨t,xs,rfl,SqT.of c,?_,?_⟩
     .subst hx0;exact ⟨rfl,rfl⟩
     .refine ⟨t,t,rfl,⟨_,_,SqT.of c,SqT.of c⟩,fun S d=>?_⟩;refine ygw (xs:=xs) l (by omega) (SqT.of c) (by subst hx0; exact SqT.of c) d (fun i j σ' H' Q' h=>?_) (fun H4 O G=>?_)
      .rfl';exact h
      .rfl';exact ⟨S,_,rfl,SqL.of G,k _ (q.trans O)⟩
    .refine .inl ⟨t,xs,rfl,SqT.of c,?_,fun u hu=>?_⟩
     .rintro ⟨z,_⟩
      have e1:HT.sIx xs.length 0 (some 1)=min 1 xs.length:=by
       have:=HT.sIx_nat xs.length 0 1;simpa using this
      rw [e1] at z
      cases xs with
      | nil=>exact hx0 rfl
      | cons x r=>simp at z
     .rw [ypf];have M:=vj (o:=(HO.tup xs.tail)) hu;have p:upd J u (HO.tup xs.tail) u=some (HO.tup xs.tail):=yc;generalize upd J u (HO.tup xs.tail)=H3 at M p ⊢;refine ⟨t,u,rfl,⟨_,_,SqT.of (M _ _ c),SqT.of p⟩,fun S d=>?_⟩;refine ygw (xs:=xs) l (by omega) (SqT.of (M _ _ c)) (SqT.of p) d (fun i j σ' H' Q' h=>?_) (fun H4 O G=>?_)
      .rfl';exact h
      .rfl';exact ⟨S,_,rfl,SqL.of G,k _ (q.trans (M.trans O))⟩
theorem yuq:ym ["thing"] ["thing"] (yh ypi):=wx (by right)
inductive ĭ (K:W.Frag) (vs:List V) (H:Hp) (Q:VK) (E':XK):Prop
 | mk (x b:_):(vs=[x])->(LkB K H x b)->(∀ H',yy H H'->Q (.bl b) H')->ĭ K vs H Q E'
theorem ylm (T:Txt K mg a):wa P w K mg base CX0 4 a.J7 a.J8 ["thing"] (ĭ K):=by
 exists T.Cn.F.ok,yuq,i;obtain ⟨x,b,rfl,d,k⟩:=h;refine ⟨_,(yf (yu (ue (yr vy rfl T.A5 (by right) (yb (pv 0) (yb (ut (T:="tuple") rfl T.Ck (by right)) ye (ya rfl)) (ya rfl))) (ue (x6 x3 (yr yz rfl T.Ae (by right) (yb (pv 0) ye (ya rfl))) yg (y8 _)) (ue (vi (yvv T) (i.mono (by decide)) rfl T.Eh.m T.Eh.F.kp T.Eh.B .nil vh (yb (ua Ô (pv 0) yg (fun _ _=>rfl)) ye (ya rfl))) (zt (vi (yv1 T) (i.mono (by decide)) rfl T.Ej.m T.Ej.F.kp T.Ej.B .nil vh (yb (ua Ô (pv 0) yg (fun _ _=>rfl)) ye (ya rfl))))))))),?_⟩;exists 1,0;rcases d with ⟨n,e,p,rfl⟩ | ⟨t,r,rfl,c,d⟩
 .rfl';refine jo e (Þ e) ?_;rfl';rw [bO p];exact ė (k _ (yy.refl _))
 .rfl';refine jo (.tup c) (Þ (.tup c)) ?_;rfl';refine ű rfl ?_;rfl';refine ylq (SqT.of c) ?_;rfl';rcases d with ⟨u,rfl⟩ | ⟨y,z,n,rfl,e,d⟩
  .rw [bO (show ¬ ((r.length:Int)=2) by omega)];exact ė (k _ (yy.refl _))
  .refine ű rfl ?_;rfl';refine yff (SqT.of c) (xb (j:=0) rfl) ?_;rfl';refine ⟨y,n,rfl,e,?_⟩;rcases d with ⟨f,rfl⟩ | ⟨f,q⟩
   .rw [f];rfl';exact k _ (yy.refl _)
   .rw [f];rfl';refine yff (SqT.of c) (xb (j:=1) rfl) ?_;rfl';exact ⟨z,b,rfl,q,k⟩
theorem yu4:ym ["thing"] ["thing"] (yh yp3):=wx (by right)
def ygc (K:W.Frag) (C:Addr):Sp:=fun vs H Q E=>(∃ x n,vs=[x]/\x4 K H x (.type n)/\n≠"list"/\E (.ref C) none H) \/
 ∃ (l:Addr) (xs:List V) (bs:List Bool),vs=[.ref l]/\H l=some (.lst xs)/\xs.length <= 1000/\yz7 K H xs bs /\
  ((1 <= xs.length/\xs.length <= 6/\bs.all id=true)->∀ r H',H r=none->H' r=some (.lst xs)->yy H H'->Q (.ref r) H') /\
  (¬ (1 <= xs.length/\xs.length <= 6/\bs.all id=true)->∀ H',yy H H'->E (.ref C) none H')
theorem ym2 (T:Txt K mg a):wa P w K mg base (CXe P w) 5 a.J9 a.Ja ["thing"] (ygc K a.Fi):=by
 refine T.Co.F.okE yu4 (fun O H Q E h=>?_) (fun R A q s H O Q E J h=>?_)
 .rcases h with ⟨x,n,rfl,_⟩ | ⟨l,xs,f,rfl,_⟩
  .rfl
  .rfl
 .rcases h with ⟨x,n,rfl,I,Z,k⟩ | ⟨l,xs,g,rfl,d,hz,u,Y,G⟩
  .refine ⟨_,(yi (wb (PW.pt (À (xr (xj (yr vy rfl T.A5 (by right) (yb (pv 0) (yb (ut (T:="list") rfl T.Ab (by right)) ye (ya rfl)) (ya rfl))))) (À (xr (Ť zq zq yg (yr yz rfl T.Ae (by right) (yb (pv 0) ye (ya rfl))) (vt rfl T.D0))) (χ (xr (xj (yr (jk rfl) rfl T.Da (by right) (yb (wj (js:=[]) (ys:=[]) rfl (wu (pv 0)) (fun C X t S=>(vi (ylm T) (J.mono (by decide)) rfl T.Cn.m T.Cn.F.kp T.Cn.B .nil vh (yb (pv 0) ye (ya rfl)))) rfl rfl (hyc:=y7) (hrel:=y7)) ye (ya rfl))))))))) (yf (xg rfl T.Pv T.Ou (yb xm ye (ya rfl)))) y9) (yf (yu (vn v8 rfl T.Ab (by right) (yb (pv 0) ye (ya rfl)))))),?_⟩;refine yo (σ':=[some _]) rfl ?_;rfl';refine jo I (ydv I) ?_;rfl';refine ypz Z ?_;rfl';exact ⟨by walk_at "len",k⟩
  .refine ⟨_,(yi (wb (PW.pt (À (xr (xj (yr vy rfl T.A5 (by right) (yb (pv 0) (yb (ut (T:="list") rfl T.Ab (by right)) ye (ya rfl)) (ya rfl))))) (À (xr (Ť zq zq yg (yr yz rfl T.Ae (by right) (yb (pv 0) ye (ya rfl))) (vt rfl T.D0))) (χ (xr (xj (yr (jk rfl) rfl T.Da (by right) (yb (wj (js:=[]) (ys:=[]) rfl (wu (pv 0)) (fun C X t S=>(vi (ylm T) (J.mono (by decide)) rfl T.Cn.m T.Cn.F.kp T.Cn.B .nil vh (yb (pv 0) ye (ya rfl)))) rfl rfl (hyc:=y7) (hrel:=y7)) ye (ya rfl))))))))) (yf (xg rfl T.Pv T.Ou (yb xm ye (ya rfl)))) y9) (yf (yu (vn v8 rfl T.Ab (by right) (yb (pv 0) ye (ya rfl)))))),?_⟩;refine yo (σ':=[some _]) rfl ?_;rfl';refine jo (.lst d) (ydv (.lst d)) ?_;rfl';refine yq5 rfl ?_;rfl';refine zn (SqL.of d) ?_;rfl';refine uz (fun W=>?_) (fun W=>?_)
   .rfl';refine yk0 (fun U=>?_) (fun U=>?_)
    .rfl';refine ⟨l,rfl,⟨_,SqL.of d⟩,fun D M=>?_⟩;refine u8 (K:=K) (xs:=xs) (Mp H D (fun i=>V.bl ((g[i]?).getD false))) (Mp.zero M) (fun _ _ _ p=>p.1.seq (SqL.of d)) (fun i y t v L p=>?_) (fun t p=>?_)
     .obtain ⟨c,b⟩:=p;have e:i < g.length:=by rw [<- u.1]; exact L
      rfl';refine ⟨y,g[i],rfl,(u.2 i y _ v (bx e)).same c,fun H3 N=>?_⟩;refine Mp.doneR M (vq (by omega)) L (c.trans N) (N _ _ b) ?_;rw [bx e];rfl
     obtain ⟨c,b⟩:=p;rw [yjn g u.1] at b;rfl';refine ⟨D,_,rfl,SqL.of b,?_⟩;have o:=c _ _ d
     cases hp:g.all id with
     | false =>
      rfl';exact ⟨by walk_at "len",G (by rw [hp]; rintro ⟨_,_,z⟩; cases z) _ c⟩
     | true =>
      rfl';refine π (SqL.of o) fun r j=>?_;exact Y ⟨by omega,by omega,hp⟩ r _ (c.free j) yc (c.trans (vj j))
    .rfl';exact ⟨by walk_at "len",G (by omega) _ (yy.refl _)⟩
   .rfl';exact ⟨by walk_at "len",G (by omega) _ (yy.refl _)⟩
theorem yvf:ym ["signs","place"] ["signs","place"] (yh yrg):=wx (by right)
inductive ydu (K:W.Frag) (vs:List V) (H:Hp) (Q:VK) (E':XK):Prop
 | mk (l:Addr) (sg:List Int) (p:Int):(vs=[.ref l,.int p])->(SqL K H l (sg.map V.int))->(1 <= p)->(Q (.int (ync sg p)) H)->ydu K vs H Q E'
theorem yuz (T:Txt K mg a):wa P w K mg base CX0 1 a.Jb a.Jc ["signs","place"] (ydu K):=by
 exists T.Ek.F.ok,yvf,n;obtain ⟨l,j,p,rfl,f,m,k⟩:=h;refine ⟨_,(yf (yu (μ (yx zq (pv 1) (yr yz rfl T.Ae (by right) (yb (pv 0) ye (ya rfl))) (y8 _)) (ua xc (pv 0) (yw8 ymg (pv 1)) (fun _ _=>rfl)) (vt rfl T.Na)))),?_⟩;exists 2,0;rfl';refine zn f ?_;rw [bv];rfl';unfold ync at k;refine uz (fun b=>?_) (fun b=>?_)
 .rw [if_pos b] at k;obtain ⟨c,e,_⟩:=yka m b;rw [e] at k;rfl';exact zw f (by rw [yo0,e]; rfl) k
 .rw [if_neg b] at k;rfl';exact k
theorem ywe:ym ["look","signs","node"] ["look","signs","node"] (yh yri):=wx (by right)
def zu (K:W.Frag) (H:Hp) (k:Addr) (x:V) (ps:List Int):Prop:=∃ t,SqT K H k [x,.ref t]/\SqT K H t (ps.map V.int)/\(∀ p∈ps,1 <= p/\p <= 8)/\ps.length <= 4
theorem zu.same {H H':Hp} {k:Addr} {x:V} {ps:List Int} (S:yy H H') (h:zu K H k x ps):zu K H' k x ps:=by
 obtain ⟨t,b,c,a,d⟩:=h;exact ⟨t,S.tup b,S.tup c,a,d⟩
def ctx (ps sg:List Int) (nd:Int):List Int:=ps.map (ync sg)++[nd]
def bkV (sg:List Int):V->V
 | .int p=>.int (ync sg p)
 | _=>.non
theorem ynr (sg ps:List Int):(ps.map V.int).map (bkV sg)=(ps.map (ync sg)).map V.int:=by
 rw [cg,cg];rfl
inductive Ĺ (K:W.Frag) (vs:List V) (H:Hp) (Q:VK) (E':XK):Prop
 | mk (k l:Addr) (x:V) (ps sg:List Int) (nd:Int):(vs=[.ref k,.ref l,.int nd])->(zu K H k x ps)->(SqL K H l (sg.map V.int))->(∀ r H',H r=none->H' r=some (.tup ((ctx ps sg nd).map V.int))->yy H H'->Q (.ref r) H')->Ĺ K vs H Q E'
theorem yu3 (T:Txt K mg a):wa P w K mg base CX0 2 a.Jd a.Je ["look","signs","node"] (Ĺ K):=by
 exists T.El.F.ok,ywe,O;obtain ⟨X,l,x,v,g,U,rfl,⟨t,L,z,o,R⟩,W,k⟩:=h;refine ⟨_,(yf (yu (vn ζ rfl T.Ck (by right) (yb (yn yed (wj (js:=[1]) (ys:=["signs"]) rfl (yel (ua Ô (pv 0) yg (fun _ _=>rfl))) (fun C Z G Y=>(vi (yuz T) (O.mono (by decide)) rfl T.Ek.m T.Ek.F.kp T.Ek.B .nil vh (yb (pv 1) (yb (pv 0) ye (ya rfl)) (ya rfl)))) rfl rfl (hyc:=(all_cons rfl y7)) (hrel:=(all_cons rfl y7))) (xi (yb (pv 2) ye (ya rfl)))) ye (ya rfl))))),?_⟩;exists 3,0;rfl';refine yff L (xb (j:=1) rfl) ?_;refine ⟨t,rfl,⟨_,z⟩,fun D J=>?_⟩;have f:(v.map V.int).length < sizeLine:=vq (by rw [bv]; omega);refine ĩ (xs:=v.map V.int) (bkV g) z J (fun i y G I e b=>?_) (fun G e b=>?_)
 .obtain ⟨p,rfl,u,_,_⟩:=ur I;rfl';refine ⟨l,g,p,rfl,e.seq W,(o p u).1,?_⟩;exact Mp.done J f I e b rfl
 .rw [ynr] at b;rfl';refine ⟨by walk_at "len",fun n hn=>?_⟩
  with_reducible first | refine yv hn fun H3 S3 hn3=>?_ | refine ve hn fun H3 S3 hn3=>?_
  refine ⟨D,n,_,_,rfl,rfl,S3 _ _ b,hn3,z8 (by rw [bv,bv]; show _+1 <= _; omega),fun c hc=>?_⟩
  with_reducible first | refine yv hc fun H4 S4 hc4=>?_ | refine ve hc fun H4 S4 hc4=>?_
  refine ⟨c,_,rfl,.inl ⟨SqL.of hc4,fun r d=>?_⟩⟩;have S:=e.trans (S3.trans S4);refine k r _ (S.free d) (yc.trans ?_) (S.trans (vj d));unfold ctx;rw [bS];rfl
theorem ys7:ym ["self","look"] ["self","look"] (yh yrp):=wx (by right)
inductive yam (a:Ads) (vs:List V) (H:Hp) (Q:VK) (E':XK):Prop
 | mk (p dx lk:Addr) (kd:Fin 3):(vs=[.ref p,.ref lk])->(H p=some (.ins a.Aa dx []))->(∀ d H',H d=none->Ø a H' p dx lk d kd (fun _=>none) (fun b=>b=d) 0->But p H H'->Q .non H')->yam a vs H Q E'
theorem yt5 (T:Txt K mg a):wa P w K mg base CX0 1 a.Gd a.Jf ["self","look"] (yam a):=by
 exists T.Em.F.ok,ys7,D;obtain ⟨p,i,j,t,rfl,B,k⟩:=h;refine ⟨_,(yi (vk (pv 0) (pv 1) rfl) (yf (vk (pv 0) yjz rfl))),?_⟩;exists 2,0;rfl';intro d l
 have g:H d=none:=by
  cases e:H d with
  | none=>rfl
  | some o =>
   by_cases z:d=p
   .rw [z,yc] at l; cases l
   .rw [yq z,e] at l; cases l
 have c:d≠p:=fun z=>by rw [z,B] at g; cases g
 have q:=z9 (o':=HO.dT []) l (show upd H p (HO.ins a.Aa i ([("look",V.ref j)]:List (Str × V))) p=some (HO.ins a.Aa i ([("look",V.ref j)]:List (Str × V))) from yc);have f:upd (upd H p (HO.ins a.Aa i ([("look",V.ref j)]:List (Str × V)))) d (.dT []) d=some (.dT []):=yc;have r:But p H (upd (upd H p (HO.ins a.Aa i ([("look",V.ref j)]:List (Str × V)))) d (.dT [])):=fun b o e n=>by rw [yq (yd e g),yq n]; exact e
 generalize upd (upd H p (HO.ins a.Aa i ([("look",V.ref j)]:List (Str × V)))) d (.dT [])=C at q f r ⊢;rfl'
 refine k d _ g ⟨yc,fun b v=>⟨HO.dT [],by cases v; exact yk c f,rfl⟩,fun z=>c z.symm,rfl,fun y e=>(by cases (yk c f).symm.trans e; exact ⟨List.nodup_nil,fun _ z=>(nomatch z)⟩),[],fun _=>(0,0),yk c f,bA _,fun _ _=>rfl,fun _ _ z=>(nomatch z),fun _ _ _ _ z=>(nomatch z)⟩ (r.trans But.upd)
theorem yly:ym ["self","signs","node","context"] ["self","signs","node"] (yh ypl):=wx (by right)
inductive yat (K:W.Frag) (a:Ads) (vs:List V) (H:Hp) (Q:VK) (E':XK):Prop
 | mk (p dx lk d sl:Addr) (kd:Fin 3) (f:List Int->Option Slt) (O:Addr->Prop) (m:Nat) (ps sg:List Int) (nd:Int):(vs=[.ref p,.ref sl,.int nd])->(Ø a H p dx lk d kd f O m)->(m < 1000000)->(zu K H lk (.str (kdS kd)) ps)->(SqL K H sl (sg.map V.int))->(∀ (q:Addr) (O':Addr->Prop) (H':Hp),Ø a H' p dx lk d kd (ų f (ctx ps sg nd) ((f (ctx ps sg nd)).getD (kd0 kd))) O' (m+1)->(∀ kvs,H' d=some (.dT kvs)->zv kvs (kI (ctx ps sg nd))=some (.ref q))->(∀ c,O' c->O c\/H c=none)->(∀ c,O c->O' c)->ykw O H H'->Q (.ref q) H')->yat K a vs H Q E'
theorem ytw (T:Txt K mg a):wa P w K mg base CX0 4 a.Jg a.Jh ["self","signs","node"] (yat K a):=by
 exists T.Gu.F.ok,yly,hr;obtain ⟨p,dx,lk,d,sl,G,f,O,m,ps,sg,nd,rfl,hb,hm,hl,hs,k⟩:=h;have ac:=hb.me;refine ⟨_,(yi (yt (i:=3) yly.nd rfl (Or.inl rfl) (vi (yu3 T) (hr.mono (by decide)) rfl T.El.m T.El.F.kp T.El.B .nil vh (yb (yp (pv 0) rfl) (yb (pv 1) (yb (pv 2) ye (ya rfl)) (ya rfl)) (ya rfl)))) (yi (ud (wb (yh9 (yao (Ì hr) (pv 3) (yp (pv 0) rfl))) (yf (ycj (Ì hr) (yp (pv 0) rfl) (pv 3) (vi (yul T) (hr.mono (by decide)) rfl T.Eg.m T.Eg.F.kp T.Eg.B .nil vh (yb (ua Ô (yp (pv 0) rfl) yg (fun _ _=>rfl)) ye (ya rfl))) rfl)) y9)) (yf (yu (j5 (Ì hr) (yp (pv 0) rfl) (pv 3) (fun _ _=>rfl)))))),?_⟩;exists 3,1;rfl';refine ⟨lk,sl,_,ps,sg,nd,rfl,hl,hs,fun r H1 ad a5 X=>?_⟩;have l:H1 r=some (.tup ((kI (ctx ps sg nd)).map kV)):=by rw [ytq]; exact a5
 generalize ctx ps sg nd=b at l k;have g:=hb.same X;have y:=g.me;rfl';refine yi1 (fun σ' H'=>σ'=[some (.ref p),some (.ref sl),some (.int nd),some (.ref r)]/\∃ Z,Ø a H' p dx lk d G (ų f b ((f b).getD (kd0 G))) Z (m+1)/\(∀ c,Z c->O c\/H c=none)/\(∀ c,O c->Z c)/\ykw O H H'/\H' r=some (.tup ((kI b).map kV))) ?_ ?_
 .obtain ⟨M,n,I,h2,U,S,h5⟩:=g.tb;rfl';refine ⟨d,_,rfl,Ę.t I l,?_⟩
  cases hf:f b with
  | none =>
   rw [U b hf];rfl';refine Ĥ ?_;rfl';obtain ⟨t,a7,ae,_,_⟩:=hl;refine yff (X.tup a7) (xb (j:=0) rfl) ?_;rfl';refine ⟨G,rfl,fun q dq H2 u a0 J=>?_⟩;rfl';have N:=J _ _ y;rfl';refine ⟨d,_,rfl,yi8.t (J _ _ I) (J _ _ l) (vq (by omega)),?_⟩;have a3:=X.trans J;have a1:q≠d:=fun z=>by rw [z,I] at u; cases u
   have a8:p≠d:=fun z=>g.np (z ▸ g.dO);rfl';refine ⟨rfl,fun c=>O c\/c=q,⟨yk a8 N,fun c v=>?_,fun z=>?_,.inl g.dO,yr6.snoc (g.ky M I) (U b hf) yc,Ŷ M (kI b) (.ref q),fun j=>if j=b then (q,dq) else n j,yc,?_,fun j L=>?_,fun j s' L=>?_,fun j1 j2 s1 s2 e1 Y D=>?_⟩,fun c v=>?_,fun c v=>.inl v,fun c o e no=>?_,yk (xa (J _ _ l) (J _ _ I) (by intro z; cases z)) (J _ _ l)⟩
   .rcases v with v | rfl
    .obtain ⟨o,ho,hi⟩:=g.own c v;by_cases z:c=d
     .rw [z];exact ⟨_,yc,rfl⟩
     .exact ⟨o,yk z (J _ _ ho),hi⟩
    .obtain ⟨C,fs,eo⟩:=ď a dq (kd0 G);exact ⟨_,yk a1 a0,by rw [eo]; rfl⟩
   .rcases z with z | z
    .exact g.np z
    .rw [z] at y;rw [y] at u;cases u
   .rw [ß _ (U b hf),bC];show _+1 <= m+1;omega
   .unfold ų at L
    split at L
    .cases L
    .rename_i hne
     rw [ţ,if_neg fun z=>hne (yla z)];exact U j L
   .unfold ų at L
    split at L
    .rename_i he
     subst he;cases L;dsimp only;rw [if_pos rfl,ţ,if_pos rfl];exact ⟨rfl,yk a1 a0,ylk G,yjo G,.inr rfl⟩
    .rename_i hne
     obtain ⟨W,x,q3,q4,q5⟩:=S j s' L;dsimp only;rw [if_neg hne,ţ,if_neg fun z=>hne (yla z)]
     have a2:(n j).1≠d:=by
      obtain ⟨C,fs,eo⟩:=ď a (n j).2 s';rw [eo] at x;exact xa x I (by intro z; cases z)
     exact ⟨W,yk a2 (J _ _ x),q3,q4,.inl q5⟩
   .unfold ų at e1 Y;dsimp only at D;by_cases z1:j1=b
    .by_cases z2:j2=b
     .rw [z1,z2]
     .rw [if_neg z2] at Y;rw [if_pos z1,if_neg z2] at D;obtain ⟨_,x,_⟩:=S j2 s2 Y;have D:q=(n j2).1:=D;rw [<- D,u] at x;cases x
    .rw [if_neg z1] at e1;by_cases z2:j2=b
     .rw [if_neg z1,if_pos z2] at D;obtain ⟨_,x,_⟩:=S j1 s1 e1;have D:(n j1).1=q:=D;rw [D,u] at x;cases x
     .rw [if_neg z2] at Y;rw [if_neg z1,if_neg z2] at D;exact h5 j1 j2 s1 s2 e1 Y D
   .rcases v with v | rfl
    .exact .inl v
    .exact .inr (X.free u)
   .exact yk (fun z=>no (z ▸ g.dO)) (a3 _ _ e)
  | some s' =>
   obtain ⟨W,x,q3,q4,q5⟩:=S b s' hf;rw [W];rfl';refine ⟨rfl,O,?_,fun c v=>.inl v,fun c v=>v,fun c o e _=>X _ _ e,l⟩
   have ef:ų f b ((some s').getD (kd0 G))=f:=by
    funext j
    unfold ų
    split
    .rename_i z
     rw [z,hf];rfl
    .rfl
   rw [ef];exact ⟨g.me,g.own,g.np,g.dO,g.ky,M,n,I,Nat.le_succ_of_le h2,U,S,h5⟩
 .rintro σ' H2 ⟨rfl,Z,R,hO,hM,B2,a9⟩;have N:=R.me;obtain ⟨M,n,I,h2,U,S,h5⟩:=id R.tb;have a6:ų f b ((f b).getD (kd0 G)) b=some ((f b).getD (kd0 G)):=by unfold ų; rw [if_pos rfl]
  obtain ⟨W,x,q3,q4,q5⟩:=S b _ a6;rfl';refine ⟨d,_,rfl,by rw [<- W]; exact Ę.t I a9,?_⟩;exact k (n b).1 Z H2 R (fun aa e=>by rw [I] at e; cases e; exact W) hO hM B2
theorem ytz:ym ["self","many"] ["self","many"] (yh yp7):=wx (by right)
theorem yt2 (T:Txt K mg a):wa P w K mg base CX0 1 a.Ge a.Ji ["self","many"] (yct a):=by
 exists T.En.F.ok,ytz,o;obtain ⟨p,g,n,rfl,q,m,e,k⟩:=h;refine ⟨_,(yf (vk (pv 0) (yn yiw (xi (yb (vt rfl T.Dt) ye (ya rfl))) (pv 1)) rfl)),?_⟩;exists 2,0;rfl';refine ⟨by walk_at "len",fun r hr0=>?_⟩
 with_reducible first | refine yv hr0 fun H1 S1 e1=>?_ | refine ve hr0 fun H1 S1 e1=>?_
 rfl';refine ⟨r,n,_,rfl,rfl,e1,by omega,by omega,z8 (by show 1 * (n:Int).toNat <= 16000000; omega),fun l hl=>?_⟩;rw [ú]
 with_reducible first | refine yv hl fun H2 S2 e2=>?_ | refine ve hl fun H2 S2 e2=>?_
 have b:=S1.trans S2;have j:=b _ _ e;rfl';have c:l≠p:=fun z=>by rw [z,S1 _ _ e] at hl; cases hl
 exact k l _ (S1.free hl) ⟨yc,yk c e2⟩ ((But.of b).trans But.upd)
theorem yuj:ym ["self","chances"] ["self","chances"] (yh yq3):=wx (by right)
theorem yu0 (T:Txt K mg a):wa P w K mg base CX0 1 a.Jj a.Jk ["self","chances"] (yai K a):=by
 exists T.Gv.F.ok,yuj,hr;obtain ⟨p,dx,l,c,I,z,n,rfl,n1,S,e,hc,⟨hp,J⟩,L,k⟩:=h;refine ⟨_,(yf (yu (yn vd (yr (ρ rfl) rfl T.Ds (by right) (yb (ydi (js:=[]) (ys:=[]) (xs:=["weight","chance"]) (g:=ysa K 2 (jp (w6 0) (jp (w6 1) ykz))) rfl (yk4 rfl T.Hw (yb (yp (pv 0) rfl) (yb (pv 1) ye (ya rfl)) (ya rfl))) (fun C s2 r fp=>(yn wl (pv 0) (pv 1))) rfl (fun C s2 r fp=>yei rfl (uq (wo (i:=0) (show List.Nodup ((["weight","chance"]:List Str)++([]:List Str)) by right) rfl (Or.inl rfl)) (uq (wo (i:=1) (show List.Nodup ((["weight","chance"]:List Str)++([]:List Str)) by right) rfl (Or.inl rfl)) ũ))) rfl (hyc:=y7) (hrel:=y7)) ye (ya rfl))) (yr (ρ rfl) rfl T.Ds (by right) (yb (yp (pv 0) rfl) ye (ya rfl)))))),?_⟩;exists 2,0;have d:z.length=I.length:=by rw [e.len,hc.len]
 rfl';refine ⟨l,c,rfl,⟨_,_,SqL.of J,L⟩,fun D M=>?_⟩;refine ı (fun i=>V.int ((I[i]?).getD 0 * (z[i]?).getD 0)) (SqL.of J) L (by rw [bv,bv,d]) M (fun i x y r G a0 hx hy j b f m=>?_) (fun r j b=>?_)
 .obtain ⟨v1,v2,rfl⟩:=yij m;obtain ⟨w,rfl,N,Y,il⟩:=ur hx;obtain ⟨u,rfl,um,W,_⟩:=ur hy;have w1:=e.one w N;have w2:=e.top w N;have O:=j.trans (vj (o:=HO.tup [V.int w,V.int u]) f);have q:=z9 (o':=HO.tup [V.int w,V.int u]) f b;have t:upd r G (HO.tup [V.int w,V.int u]) G=some (.tup [V.int w,V.int u]):=yc;generalize upd r G (HO.tup [V.int w,V.int u])=X at O q t;refine yh8 (SqT.of t) rfl ?_;show jp (w6 0) (jp (w6 1) ykz) [V.int w,V.int u] (v1 :: v2 :: w9 [] [some (V.ref p),some (V.ref c)]) X _;rfl';refine ⟨⟨[some (.int w),some (.int u)],rfl,rfl⟩,?_⟩;rfl';refine Mp.doneR M (vq (by rw [bv,e.len]; omega)) (by rw [bv]; exact il) O q ?_;rw [Y,W];rfl
 .have b:=ydx b (yl4 (g:=fun w c=>w * c) d);have Z:=j _ _ hp;have v:=j _ _ J;have p1:=e.pos n1;have p2:=e.small S;rfl';refine ⟨D,_,rfl,SqL.of b,?_⟩;rfl';refine ⟨l,_,rfl,SqL.of v,?_⟩;rfl';exact k _ j
theorem Ŀ:ym ["self","chances","bit","shares","whole","own","grown","dropped"] ["self","chances","bit"] (yh yqi):=wx (by right)
theorem yur (T:Txt K mg a):wa P w K mg base (CXe P w) 5 a.Jl a.Jm ["self","chances","bit"] (yae K a a.Bx):=by
 exists T.Gw.F.okE,Ŀ,hr;obtain ⟨p,dx,l,c,I,r,n,x,m,rfl,n1,n6,U,hc,⟨hp,hl⟩,hq,ty,k1,k2⟩:=h;refine yj (yw (v6 (Ď T) (hr.mono (by decide)) rfl T.Ak.m T.Ak.F.kp T.Ak.B .nil vg (yb (pv 2) ye (ya rfl)))) ?_;refine yj (ykd (i:=3) (js:=[2]) (ys:=["bit"]) (xs:=["weight","chance"]) (g:=ysa K 2 (jp (w6 0) (jp (w6 1) ykz))) Ŀ.nd rfl rfl rfl (yk4 rfl T.Hw (yb (yp (pv 0) rfl) (yb (pv 1) ye (ya rfl)) (ya rfl))) (fun C s2 L fp=>(yn wl (pv 0) (v6 (ytg T) (hr.mono (by decide)) rfl T.Ec.m T.Ec.F.kp T.Ec.B .nil wd (yb (pv 1) (yb (pv 2) ye (ya rfl)) (ya rfl))))) rfl (fun C s2 L fp=>yei rfl (uq (wo (i:=0) (show List.Nodup ((["weight","chance"]:List Str)++(["bit"]:List Str)) by right) rfl (Or.inl rfl)) (uq (wo (i:=1) (show List.Nodup ((["weight","chance"]:List Str)++(["bit"]:List Str)) by right) rfl (Or.inl rfl)) ũ))) rfl (hyc:=(all_cons rfl y7)) (hrel:=(all_cons rfl y7))) ?_;refine yj (yt (i:=4) Ŀ.nd rfl (Or.inr rfl) (yr (ρ rfl) rfl T.Ds (by right) (yb (pv 3) ye (ya rfl)))) ?_;refine yj (yt (i:=5) Ŀ.nd rfl (Or.inr rfl) (yn wl (vt rfl T.Hx) (yr yz rfl T.Ae (by right) (yb (pv 3) ye (ya rfl))))) ?_;refine yj (ydg (i:=6) (js:=[4,5]) (ys:=["whole","own"]) Ŀ.nd rfl rfl rfl (wu (pv 3)) (fun C s2 L fp=>(yn vv (yn wl (pv 2) (pv 0)) (pv 1))) rfl rfl (hyc:=(all_cons rfl (all_cons rfl y7))) (hrel:=(all_cons rfl (all_cons rfl y7)))) ?_;refine yj (yt (i:=7) Ŀ.nd rfl (Or.inr rfl) (yr (ι rfl) rfl T.Fg (by right) (yb (yn uc (đ PySem.F.plainAttrs_int PySem.F.slot_int_bit_length PySem.F.type_int_bit_length yn2 (yr (ρ rfl) rfl T.Ds (by right) (yb (pv 6) ye (ya rfl)))) (vt rfl T.Du)) (yb yg ye (ya rfl)) (ya rfl)))) ?_;refine ⟨_,(yf (vk (pv 0) (wj (js:=[7]) (ys:=["dropped"]) rfl (wu (pv 6)) (fun C s2 L fp=>(yn yik (pv 0) (pv 1))) rfl rfl (hyc:=(all_cons rfl y7)) (hrel:=(all_cons rfl y7))) rfl)),?_⟩;exists 3,5;have q:r.length=I.length:=by rw [U.len,hc.len]
 rfl';refine ⟨x,m,rfl,ty,fun hx=>?_,k2⟩;obtain ⟨b,rfl,b0,b1⟩:=yd0 hx;have k:=k1 b rfl b0 b1;rfl';refine ⟨l,c,rfl,⟨_,_,SqL.of hl,hq⟩,fun D hD=>?_⟩;refine ı (fun i=>V.int ((I[i]?).getD 0 * giv ((r[i]?).getD 0) b)) (SqL.of hl) hq (by rw [bv,bv,q]) hD (fun i x y L tt aa hx O W d S Y=>?_) (fun L W d=>?_)
 .obtain ⟨v1,v2,rfl⟩:=yij Y;obtain ⟨w,rfl,wm,wi,il⟩:=ur hx;obtain ⟨u,rfl,um,ui,_⟩:=ur O;have w1:=U.one w wm;have w2:=U.top w wm;have a5:=ya6 (yuk hc um);have a7:=Ű b0 b1;have N:=W.trans (vj (o:=HO.tup [V.int w,V.int u]) S);have a0:=z9 (o':=HO.tup [V.int w,V.int u]) S d;have a2:upd L tt (HO.tup [V.int w,V.int u]) tt=some (.tup [V.int w,V.int u]):=yc;generalize upd L tt (HO.tup [V.int w,V.int u])=H3 at N a0 a2;refine yh8 (SqT.of a2) rfl ?_;show jp (w6 0) (jp (w6 1) ykz) [V.int w,V.int u] (v1 :: v2 :: w9 [2] [some (V.ref p),some (V.ref c),some (V.int b),none,none,none,none,none]) H3 _;rfl';refine ⟨⟨[some (.int w),some (.int u)],rfl,rfl⟩,?_⟩;rfl';refine ⟨.int u,_,.int b,_,rfl,.int u,.int b,fun z=>(by rw [a5] at z; cases z),fun _ z=>(by rw [a7] at z; cases z),fun c' b' ec eb _ _=>?_⟩;cases ec;cases eb;rfl';refine Mp.doneR hD (vq (by rw [bv,U.len]; omega)) (by rw [bv]; exact il) N a0 ?_;rw [wi,ui];rfl
 .have d:L D=some (.lst ((shL I r b).map V.int)):=ydx d (yl4 (g:=fun w c=>w * giv c b) q);have j:(shL I r b).length=n:=by rw [ů q.symm,U.len]
  have a3:=W _ _ hp;have ek:lrn I r b=(grL (shL I r b)).map fun v=>v / 2 ^ tOf (grL (shL I r b)).sum:=rfl;rw [ek] at k;generalize shL I r b=M at d j k;have eg:grL M=M.map fun s=>31 * (n:Int) * s+M.sum:=by rw [<- j]; rfl
  rfl';refine ⟨D,_,rfl,SqL.of d,?_⟩;rfl';refine zn (SqL.of d) ?_;rw [bv,j];rfl';refine ⟨D,rfl,⟨_,SqL.of d⟩,fun G hG=>?_⟩;refine zf (onI fun s=>31 * (n:Int) * s+M.sum) (SqL.of d) hG (fun i y H3 O N f=>?_) (fun H3 N f=>?_)
  .obtain ⟨s',rfl,_,_,il⟩:=ur O;show tOp _ _ _ (some (V.int s') :: w9 [4,5] [some (V.ref p),some (V.ref c),some (V.int b),some (V.ref D),some (V.int M.sum),some (V.int (31 * (n:Int))),none,none]) H3 _;rfl';exact Mp.done hG (vq (by rw [bv,j]; omega)) O N f rfl
  .rw [ygu,<- eg] at f;have a1:(grL M).length=n:=by rw [ygy,j]
   generalize grL M=R at f k a1;have X:=N _ _ a3;rfl';refine ⟨G,_,rfl,SqL.of f,?_⟩;rfl';refine ⟨_,_,rfl,?_⟩
   have et:(if (0:Int) > ((Builtin.Int.intBits R.sum:Nat):Int) - 48 then (0:Int) else ((Builtin.Int.intBits R.sum:Nat):Int) - 48)=((tOf R.sum:Nat):Int):=by
    show _=(((yks R.sum) - 48:Nat):Int);have e:Builtin.Int.intBits R.sum=yks R.sum:=rfl;rw [e]
    split <;> omega
   rw [et];generalize tOf R.sum=t at k;rfl';refine ⟨G,rfl,⟨_,SqL.of f⟩,fun Z hZ=>?_⟩;refine zf (onI fun v=>v / 2 ^ t) (SqL.of f) hZ (fun i y H4 O S4 J=>?_) (fun H4 S4 J=>?_)
   .obtain ⟨s',rfl,_,_,il⟩:=ur O;show tOp _ _ _ (some (V.int s') :: w9 [7] [some (V.ref p),some (V.ref c),some (V.int b),some (V.ref D),some (V.int M.sum),some (V.int (31 * (n:Int))),some (V.ref G),some (V.int (t:Int))]) H4 _;rfl';refine i_I (Int.natCast_nonneg t) ?_;exact Mp.done hZ (vq (by rw [bv,a1]; omega)) O S4 J rfl
   .rw [ygu] at J;have a9:=S4 _ _ X;rfl';have nz:Z≠p:=fun z=>by rw [z,X] at hZ; cases hZ
    have a6:=W.trans (N.trans S4);exact k Z _ ((W.trans N).free hZ) ⟨yc,yk nz J⟩ ((But.of a6).trans But.upd)
theorem yvq:ym ["self"] ["self"] (yh yq7):=wx (by right)
theorem Ø.sqt {H H':Hp} {dx lk d:Addr} {kd:Fin 3} {f:List Int->Option Slt} {O:Addr->Prop} {m:Nat} (h:Ø a H p dx lk d kd f O m) (B:ykw O H H') {t:Addr} {xs:List V} (e:SqT K H t xs):SqT K H' t xs:=by
 have i:∀ o:HO,H t=some o->yya o=false->H' t=some o:=fun o g j=>B _ _ g fun z=>by
  obtain ⟨k,b,c⟩:=h.own t z;rw [g] at b;cases b;rw [j] at c;cases c
 rcases e with (e | ⟨o,e⟩) | e
 .exact .inl (.inl (i _ e rfl))
 .exact .inl (.inr ⟨o,i _ e rfl⟩)
 .exact .inr e
theorem Ø.up {H:Hp} {dx lk d:Addr} {kd:Fin 3} {f:List Int->Option Slt} {O:Addr->Prop} {m:Nat} (h:Ø a H p dx lk d kd f O m) (hm:m <= m'):Ø a H p dx lk d kd f O m':=by
 obtain ⟨c,b,g,i,e⟩:=h.tb;exact ⟨h.me,h.own,h.np,h.dO,h.ky,c,b,g,cc i hm,e⟩
theorem zu.mvT {H H':Hp} {k:Addr} {x:V} {ps:List Int} (h:zu K H k x ps) (h1:∀ t xs,SqT K H t xs->SqT K H' t xs):zu K H' k x ps:=by
 obtain ⟨t,c,b,a,d⟩:=h;exact ⟨t,h1 _ _ c,h1 _ _ b,a,d⟩
def refs (g:Nat->Addr) (n:Nat):List V:=(List.range n).map fun i=>V.ref (g i)
theorem wq (g:Nat->Addr) (n:Nat):(refs g n).length=n:=by unfold refs; rw [bv,bW]
theorem ξ {g:Nat->Addr} {n:Nat} {x:V} (h:(refs g n)[i]?=some x):x=.ref (g i)/\i < n:=by
 have a:i < n:=by
  have:=(cF.mp h).1;rw [wq] at this;exact this
 unfold refs at h;rw [bB,cL a] at h;exact ⟨(bL h).symm,a⟩
theorem z0 (g:Nat->Addr) (n:Nat):refs g (n+1)=refs g n++[.ref (g n)]:=by
 unfold refs;rw [List.range_succ,bS];rfl
theorem jj {g h:Nat->Addr} {n:Nat} (e:∀ i,i < n->g i=h i):refs g n=refs h n:=by
 unfold refs;exact List.map_congr_left fun i a=>by rw [e i (cD.mp a)]
structure Bks (K:W.Frag) (a:Ads) (H:Hp) (n:Nat) (bk dx lk dd:Nat->Addr) (kd:Nat->Fin 3) (ps:Nat->List Int) (f:Nat->List Int->Option Slt) (O:Nat->Addr->Prop) (m:Nat):Prop where
 look:∀ i,i < n->zu K H (lk i) (.str (kdS (kd i))) (ps i)
 b:∀ i,i < n->Ø a H (bk i) (dx i) (lk i) (dd i) (kd i) (f i) (O i) m
 dj:∀ i j c,i < n->j < n->i≠j->O i c->¬ O j c
 nb:∀ i j,i < n->j < n->¬ O i (bk j)
def AtS (H:Hp) (d:Addr) (k:List Int) (q:Addr):Prop:=∀ kvs,H d=some (.dT kvs)->zv kvs (kI k)=some (.ref q)
theorem Ø.slot {H:Hp} {dx lk d:Addr} {kd:Fin 3} {f:List Int->Option Slt} {O:Addr->Prop} {m:Nat} {k:List Int} {s:Slt} (h:Ø a H p dx lk d kd f O m) (hf:f k=some s) (hq:AtS H d k q):∃ dq,H q=some (oS a dq s)/\s.ok/\s.kind=kd/\O q:=by
 obtain ⟨b,g,o,v,u,r,t⟩:=h.tb;obtain ⟨i,j,c,n,l⟩:=r k s hf;have e:=hq b o;rw [i] at e;injection e with e;injection e with e;subst e;exact ⟨_,j,c,n,l⟩
theorem Ø.told {H H':Hp} {dx lk d:Addr} {kd:Fin 3} {f:List Int->Option Slt} {O:Addr->Prop} {m:Nat} {k:List Int} {s:Slt} {b:Int} (h:Ø a H p dx lk d kd f O m) (hf:f k=some s) (hq:AtS H d k q) (b0:0 <= b) (b1:b <= 1)
  (h3:H' q=some (oS a dq (s.see b))) (B:But q H H'):Ø a H' p dx lk d kd (ų f k (s.see b)) O m:=by
 have A:=h.me;obtain ⟨v,l,u,h2,x,G,J⟩:=id h.tb;obtain ⟨L,I,X,U,K⟩:=G k s hf;have e:=hq v u;rw [L] at e;injection e with e;injection e with e;have F:p≠q:=fun z=>h.np (by rw [z,<- e]; exact K)
 have r:d≠q:=fun z=>by
  obtain ⟨C,R,y⟩:=ď a (l k).2 s;rw [e,<- z,u,y] at I;cases I
 refine ⟨B _ _ A F,fun c hc=>?_,h.np,h.dO,h.ky.mv u (B _ _ u r),v,fun j=>if j=k then (q,dq) else l j,B _ _ u r,h2,fun j i=>?_,fun j n i=>?_,fun D E N s2 Y S Z=>?_⟩
 .obtain ⟨o,P,hi⟩:=h.own c hc;by_cases z:c=q
  .rw [z];obtain ⟨C,R,y⟩:=ď a dq (s.see b);exact ⟨_,h3,by rw [y]; rfl⟩
  .exact ⟨o,B _ _ P z,hi⟩
 .refine x j ?_;unfold ų at i
  split at i
  .cases i
  .exact i
 .unfold ų at i;by_cases z:j=k
  .rw [if_pos z] at i;cases i;subst z;dsimp only;rw [if_pos rfl];exact ⟨by rw [L,e],h3,Slt.see_ok X b0 b1,(ykb s b).trans U,e ▸ K⟩
  .rw [if_neg z] at i;obtain ⟨p1,p2,p3,W,T⟩:=G j n i;dsimp only;rw [if_neg z];exact ⟨p1,B _ _ p2 (fun w=>z (J j k n s i hf (w.trans e.symm))),p3,W,T⟩
 .have g:∀ j n,ų f k (s.see b) j=some n->∃ t,f j=some t:=fun j n h=>by
   unfold ų at h;by_cases z:j=k
   .exact ⟨s,by rw [z]; exact hf⟩
   .rw [if_neg z] at h;exact ⟨n,h⟩
  obtain ⟨M,f1⟩:=g D N Y;obtain ⟨Q,f2⟩:=g E s2 S;refine J D E M Q f1 f2 ?_
  have ync:∀ j,(if j=k then ((q,dq):Addr × Addr) else l j).1=(l j).1:=fun j=>by
   by_cases z:j=k
   .rw [if_pos z,z];exact e.symm
   .rw [if_neg z]
  rw [<- ync D,<- ync E];exact Z
theorem AtS.told {H H':Hp} {dx lk d:Addr} {kd:Fin 3} {f:List Int->Option Slt} {O:Addr->Prop} {m:Nat} {k:List Int} (h:Ø a H p dx lk d kd f O m) {r:Addr} (hd:d≠r) (B:But r H H') (hq:AtS H d k q):AtS H' d k q:=fun i e=>by
 obtain ⟨b,g,c,_⟩:=h.tb;rw [B _ _ c hd] at e;cases e;exact hq _ c
section
variable {H H':Hp} {n m:Nat} {bk dx lk dd:Nat->Addr} {kd:Nat->Fin 3} {ps:Nat->List Int} {f:Nat->List Int->Option Slt}
theorem Bks.frame (h:Bks K a H n bk dx lk dd kd ps f O m) {O2:Addr->Prop} (B:ykw O2 H H') (dj:∀ i b,i < n->O i b->¬ O2 b) (hp:∀ i,i < n->¬ O2 (bk i)) (ht:∀ t xs,SqT K H t xs->SqT K H' t xs):Bks K a H' n bk dx lk dd kd ps f O m :=
 ⟨fun i c=>(h.look i c).mvT ht,fun i c=>(h.b i c).frame B (fun b d=>dj i b c d) (hp i c),h.dj,h.nb⟩
theorem Bks.same (h:Bks K a H n bk dx lk dd kd ps f O m) (S:yy H H'):Bks K a H' n bk dx lk dd kd ps f O m :=
 h.frame (O2:=fun _=>False) (fun b o e _=>S b o e) (fun _ _ _ _ z=>z) (fun _ _ z=>z) fun _ _ e=>S.tup e
theorem Bks.move (h:Bks K a H n bk dx lk dd kd ps f O m) (hj:j < n) {f':List Int->Option Slt} {O':Addr->Prop} (hm:m <= m') (hb:Ø a H' (bk j) (dx j) (lk j) (dd j) (kd j) f' O' m') (hO:∀ c,O' c->O j c\/H c=none) (B:ykw (O j) H H') :
  Bks K a H' n bk dx lk dd kd ps (fun i=>if i=j then f' else f i) (fun i=>if i=j then O' else O i) m':=by
 have A:=h.b j hj
 have g:∀ q c,q < n->q≠j->O q c->¬ O' c:=fun q c D y w E=>by
  rcases hO c E with v | v
  .exact h.dj q j c D hj y w v
  .obtain ⟨o,C,_⟩:=(h.b q D).own c w;rw [v] at C;cases C
 refine ⟨fun i d=>(h.look i d).mvT fun t F e=>A.sqt B e,fun i d=>?_,fun i l c d r u p k=>?_,fun i l d r e=>?_⟩
 .try dsimp only
  by_cases z:i=j
  .subst z;rw [if_pos rfl,if_pos rfl];exact hb
  .rw [if_neg z,if_neg z];exact ((h.b i d).frame B (fun b x=>h.dj i j b d hj z x) (h.nb j i hj d)).up hm
 .try dsimp only at p k
  by_cases z1:i=j
  .rw [if_pos z1] at p;have s:l≠j:=fun w=>u (z1.trans w.symm);rw [if_neg s] at k;exact g l c r s k p
  .rw [if_neg z1] at p;by_cases s:l=j
   .rw [if_pos s] at k;exact g i c d z1 p k
   .rw [if_neg s] at k;exact h.dj i l c d r u p k
 .try dsimp only at e
  by_cases z:i=j
  .rw [if_pos z] at e;rcases hO _ e with v | v
   .exact h.nb j l hj r v
   .rw [(h.b l r).me] at v;cases v
  .rw [if_neg z] at e;exact h.nb i l d r e
theorem AtS.move (h:Bks K a H n bk dx lk dd kd ps f O m) (hi:i < n) (hj:j < n) (hij:i≠j) (B:ykw (O j) H H') {k:List Int} (hq:AtS H (dd i) k q):AtS H' (dd i) k q:=fun l e=>by
 obtain ⟨c,g,d,_⟩:=(h.b i hi).tb;rw [B _ _ d (h.dj i j _ hi hj hij (h.b i hi).dO)] at e;cases e;exact hq _ d
theorem Bks.nlst (h:Bks K a H n bk dx lk dd kd ps f O m) {l:Addr} {xs:List V} (hl:H l=some (.lst xs)):∀ i,i < n->¬ O i l:=fun i e z=>by
 obtain ⟨o,d,c⟩:=(h.b i e).own l z;rw [hl] at d;cases d;cases c
end
def ykx (n:Nat) (kd:Nat->Fin 3) (f:Nat->List Int->Option Slt) (g:Nat->List Int->Slt):Prop:=∀ i,i < n->∀ k,(f i k).getD (kd0 (kd i))=g i k
theorem ykx.put {n:Nat} {kd:Nat->Fin 3} {f:Nat->List Int->Option Slt} {g:Nat->List Int->Slt} (h:ykx n kd f g) (j:Nat) (hj:j < n) (k:List Int):ykx n kd (fun i=>if i=j then ų (f j) k ((f j k).getD (kd0 (kd j))) else f i) g:=fun i b a=>by
 dsimp only;by_cases z:i=j
 .subst z;rw [if_pos rfl];unfold ų;by_cases w:a=k
  .rw [if_pos w,w];exact h i b k
  .rw [if_neg w];exact h i b a
 .rw [if_neg z];exact h i b a
inductive Ĭ (K:W.Frag) (a:Ads) (vs:List V) (H:Hp) (Q:VK) (E':XK):Prop
 | mk (p dp ll bl mp el pl0:Addr) (nd:Int) (sg:List Int) (n m:Nat) (bk dx lk dd:Nat->Addr) (kd:Nat->Fin 3) (ps:Nat->List Int) (f:Nat->List Int->Option Slt) (O:Nat->Addr->Prop) (g:Nat->List Int->Slt):(vs=[.ref p])->(H p=some (.ins a.A2 dp (Ė (.ref ll) (.ref bl) (.ref mp) (.ref el) (.int nd) (.ref pl0))))->(H bl=some (.lst (refs bk n)))->(H el=some (.lst (sg.map V.int)))->(Bks K a H n bk dx lk dd kd ps f O m)->(ykx n kd f g)->(n <= 6)->(m+10 < 1000000)->((∀ i,i < n->¬ O i p))->(∀ (pl:Addr) (sl:Nat->Addr) (f':Nat->List Int->Option Slt) (O':Nat->Addr->Prop) (H':Hp),H' p=some (.ins a.A2 dp (Ė (.ref ll) (.ref bl) (.ref mp) (.ref el) (.int nd) (.ref pl)))->H' pl=some (.lst (refs sl n))->H pl=none ->
  Bks K a H' n bk dx lk dd kd ps f' O' (m+n)->ykx n kd f' g->(∀ j,j < n->(∃ s,f' j (ctx (ps j) sg nd)=some s)/\AtS H' (dd j) (ctx (ps j) sg nd) (sl j))->(∀ j c,j < n->O' j c->O j c\/H c=none) ->
  (∀ c o,H c=some o->c≠p->(∀ j,j < n->¬ O j c)->H' c=some o)->(∀ c o,H c=some o->∃ o',H' c=some o')->Q .non H')->Ĭ K a vs H Q E'
theorem ylh (T:Txt K mg a):wa P w K mg base CX0 5 a.Jo a.Jp ["self"] (Ĭ K a):=by
 exists T.Di.F.ok,yvq,hr;obtain ⟨p,dp,ll,bl,mp,el,af,N,W,n,m,Z,dx,lk,dd,kd,L,f,O,g,rfl,hp,U,a4,hB,hA,n6,hm,np,k⟩:=h;refine ⟨_,(yf (vk (pv 0) (wj (js:=[0]) (ys:=["self"]) rfl (wu (yp (pv 0) rfl)) (fun C s2 H2 fp=>(xh (pv 0) T.Cv T.Gu.m (ytw T) (hr.mono (by decide)) T.Gu.B .nil vh (yb (yhc (K:=K) rfl (pv 1) rfl) (yb (yhc (K:=K) rfl (pv 1) rfl) ye (ya rfl)) (ya rfl)))) rfl rfl (hyc:=(all_cons rfl y7)) (hrel:=(all_cons rfl y7))) rfl)),?_⟩;exists 1,0;rfl';refine ⟨bl,rfl,⟨_,SqL.of U⟩,fun D R=>?_⟩;have aa:=hB.nlst U;have ae:=hB.nlst a4;refine Ç (K:=K) (xs:=refs Z n) (fun i G=>∃ (y:Nat->Addr) (M:Nat->List Int->Option Slt) (J:Nat->Addr->Prop),G D=some (.lst (refs y i))/\Bks K a G n Z dx lk dd kd L M J (m+i)/\ykx n kd M g/\(∀ j,j < i->(∃ s,M j (ctx (L j) W N)=some s)/\AtS G (dd j) (ctx (L j) W N) (y j)) /\
  (∀ j c,j < n->J j c->O j c\/H c=none)/\(∀ c o,H c=some o->(∀ j,j < n->¬ O j c)->G c=some o)/\(∀ c o,H c=some o->∃ o',G c=some o'))
  ⟨fun _=>0,f,O,yc,hB.same (vj R),hA,fun j d=>absurd d (ci j),fun j c _ z=>.inl z,fun c o e _=>z9 R e,fun c o e=>⟨o,z9 R e⟩⟩ (fun i G _ z=>?_) (fun i x G hx hi z=>?_) (fun G z=>?_)
 .obtain ⟨_,_,_,_,_,_,_,_,w,_⟩:=z;exact SqL.of (w _ _ U aa)
 .obtain ⟨y,M,J,gD,r,gA,gS,gO,Y,gL⟩:=z;obtain ⟨rfl,l⟩:=ξ hx;have I:=Y _ _ hp np;have a6:=Y _ _ a4 ae;have ah:=(r.b i l).me;show ycm _ _ _ _ _ _ _ (some (V.ref (Z i)) :: w9 [0] [some (V.ref p)]) G _;rfl';refine ⟨Z i,dx i,lk i,dd i,el,kd i,M i,J i,m+i,L i,W,N,rfl,r.b i l,by omega,r.look i l,SqL.of a6,fun q O2 G2 a3 hv a0 ag B2=>?_⟩;have nD:=r.nlst gD;have u:G2 D=some (.lst (refs y i)):=B2 _ _ gD (nD i l);refine xw (n:=(refs Z n).length) u (vq (by rw [wq]; omega)) hi ?_;have M2:=r.move l (Nat.le_succ (m+i)) a3 a0 B2;have a5:=M2.nlst u;have S:∀ c o,G2 c=some o->c≠D->upd G2 D (.lst (refs y i++[V.ref q])) c=some o:=fun c o e X=>yk X e
  have M3:=M2.frame (O2:=fun c=>c=D) (fun c o e X=>S c o e X) (fun j c d w z=>a5 j d (z ▸ w)) (fun j d z=>by
   have:=(M2.b j d).me;rw [z,u] at this
   cases this) (fun t xs e=>by
   rcases e with (e | ⟨o,e⟩) | e
   .exact .inl (.inl (S _ _ e (fun z=>by rw [z,u] at e; cases e)))
   .exact .inl (.inr ⟨o,S _ _ e (fun z=>by rw [z,u] at e; cases e)⟩)
   .exact .inr e)
  have up:∀ j,j < n->AtS G2 (dd j) (ctx (L j) W N) (if j=i then q else y j)->AtS (upd G2 D (.lst (refs y i++[V.ref q]))) (dd j) (ctx (L j) W N) (if j=i then q else y j):=fun j d h =>
   h.told (M2.b j d) (fun z=>a5 j d (by rw [<- z]; exact (M2.b j d).dO)) (fun c o e X=>S c o e X)
  refine ⟨fun j=>if j=i then q else y j,_,_,?_,M3,gA.put i l _,fun j d=>?_,fun j c d w=>?_,fun c o e no=>?_,fun c o e=>?_⟩
  .rw [yc,z0,if_pos rfl]
   congr 3
   exact jj fun j d=>(if_neg (by omega)).symm
  .by_cases z:j=i
   .subst z;refine ⟨⟨(M j (ctx (L j) W N)).getD (kd0 (kd j)),?_⟩,up j l ?_⟩
    .try dsimp only
     rw [if_pos rfl];unfold ų;rw [if_pos rfl]
    .rw [if_pos rfl];exact hv
   .have a1:j < n:=by omega
    obtain ⟨⟨s',ab⟩,a9⟩:=gS j (by omega);refine ⟨⟨s',?_⟩,up j a1 ?_⟩
    .try dsimp only
     rw [if_neg z];exact ab
    .rw [if_neg z];exact a9.move r a1 l z B2
  .try dsimp only at w
   by_cases z:j=i
   .subst z;rw [if_pos rfl] at w;rcases a0 c w with v | v
    .exact gO j c d v
    .refine .inr ?_
     cases e:H c with
     | none=>rfl
     | some o =>
      obtain ⟨o',w'⟩:=gL c o e;rw [w'] at v;cases v
   .rw [if_neg z] at w;exact gO j c d w
  .have hG:=Y c o e no
   have nc:¬ J i c:=fun w=>by
    rcases gO i c l w with v | v
    .exact no i l v
    .rw [e] at v;cases v
   refine S _ _ (B2 _ _ hG nc) (fun z=>?_);rw [z,R] at e;cases e
  .obtain ⟨o1,w1⟩:=gL c o e;have a2:c≠D:=fun z=>by rw [z,R] at e; cases e
   by_cases w2:J i c
   .obtain ⟨o2,ac,_⟩:=a3.own c (ag c w2);exact ⟨o2,S _ _ ac a2⟩
   .exact ⟨o1,S _ _ (B2 _ _ w1 w2) a2⟩
 .obtain ⟨y,M,J,gD,r,gA,gS,gO,Y,gL⟩:=z;rw [wq] at gD r gS;have I:=Y _ _ hp np;rfl';have a8:D≠p:=fun z=>by rw [z,hp] at R; cases R
  have BP:But p G (upd G p (.ins a.A2 dp (Ė (.ref ll) (.ref bl) (.ref mp) (.ref el) (.int N) (.ref D)))):=But.upd
  have a7:∀ i,i < n->¬ J i p:=fun i hi w=>by
   rcases gO i p hi w with v | v
   .exact np i hi v
   .rw [hp] at v; cases v
  have M3:=r.frame (O2:=fun c=>c=p) (fun c o e X=>BP c o e X) (fun j c d w z=>a7 j d (z ▸ w)) (fun j d z=>by
   have:=(r.b j d).me;rw [z,I] at this;injection this with this;injection this with _ _ e
   exact absurd (congrArg List.length e) (show ¬ (6=2) by decide)) (fun t xs e=>by
   rcases e with (e | ⟨o,e⟩) | e
   .exact .inl (.inl (BP _ _ e (fun z=>by rw [z,I] at e; cases e)))
   .exact .inl (.inr ⟨o,BP _ _ e (fun z=>by rw [z,I] at e; cases e)⟩)
   .exact .inr e)
  refine k D y M J _ yc (yk a8 gD) R M3 gA (fun j d=>⟨(gS j d).1,(gS j d).2.told (r.b j d) (fun z=>a7 j d (by rw [<- z]; exact (r.b j d).dO)) BP⟩) gO (fun c o e nc no=>BP _ _ (Y c o e no) nc) fun c o e=>?_;by_cases zc:c=p
  .rw [zc];exact ⟨_,yc⟩
  .obtain ⟨o1,w1⟩:=gL c o e;exact ⟨o1,BP _ _ w1 zc⟩
structure FA where
 dp:Addr
 ll:Addr
 bl:Addr
 mp:Addr
 mx:Addr
 ml:Addr
 el:Addr
 pl:Addr
 n:Nat
 bk:Nat->Addr
 dx:Nat->Addr
 lk:Nat->Addr
 dd:Nat->Addr
 sl:Nat->Addr
 kd:Nat->Fin 3
 ps:Nat->List Int
structure FX where
 g:Nat->List Int->Slt
 ws:List Int
 sg:List Int
 nd:Int
def FX.key (X:FX) (A:FA) (i:Nat):List Int:=ctx (A.ps i) X.sg X.nd
def FX.cs (X:FX) (A:FA):List Int:=(List.range A.n).map fun i=>(X.g i (X.key A i)).due
def ndN (nd b:Int):Int:=if 0 < nd then (if 256 <= 2 * nd+b then 0 else 2 * nd+b) else if b=1 then 1 else nd
def sgN (sg:List Int) (nd b:Int):List Int:=if 0 < nd then (if 256 <= 2 * nd+b then sg++[2 * nd+b - 256] else sg) else if b=1 then sg else []
def FX.see (X:FX) (A:FA) (b:Int):FX:={ g:=fun i k=>if k=X.key A i then (X.g i k).see b else X.g i k,ws:=lrn X.ws (X.cs A) b,sg:=sgN X.sg X.nd b,nd:=ndN X.nd b }
structure zb (K:W.Frag) (a:Ads) (H:Hp) (p:Addr) (A:FA) (X:FX) (f:Nat->List Int->Option Slt) (O:Nat->Addr->Prop) (m:Nat):Prop where
 me:H p=some (.ins a.A2 A.dp (Ė (.ref A.ll) (.ref A.bl) (.ref A.mp) (.ref A.el) (.int X.nd) (.ref A.pl)))
 bl:H A.bl=some (.lst (refs A.bk A.n))
 el:H A.el=some (.lst (X.sg.map V.int))
 mx:yi9 a A.mp A.mx A.ml X.ws H
 wok:WOk A.n X.ws
 pl:H A.pl=some (.lst (refs A.sl A.n))
 B:Bks K a H A.n A.bk A.dx A.lk A.dd A.kd A.ps f O m
 ag:ykx A.n A.kd f X.g
 at':∀ j,j < A.n->(∃ s,f j (X.key A j)=some s)/\AtS H (A.dd j) (X.key A j) (A.sl j)
 np:∀ i,i < A.n->¬ O i p
 nm:∀ i,i < A.n->¬ O i A.mp
 n1:1 <= A.n
 n6:A.n <= 6
theorem zb.same {H H':Hp} {A:FA} {X:FX} {f:Nat->List Int->Option Slt} {m:Nat} (h:zb K a H p A X f O m) (S:yy H H'):zb K a H' p A X f O m :=
 ⟨S _ _ h.me,S _ _ h.bl,S _ _ h.el,h.mx.same S,h.wok,S _ _ h.pl,h.B.same S,h.ag,fun j c=>⟨(h.at' j c).1,fun k e=>by
  obtain ⟨d,i,g,_⟩:=(h.B.b j c).tb;rw [S _ _ g] at e;cases e;exact (h.at' j c).2 _ g⟩,h.np,h.nm,h.n1,h.n6⟩
theorem zb.slot {H:Hp} {A:FA} {X:FX} {f:Nat->List Int->Option Slt} {m:Nat} (h:zb K a H p A X f O m) (hj:j < A.n) :
  f j (X.key A j)=some (X.g j (X.key A j))/\(∃ dq,H (A.sl j)=some (oS a dq (X.g j (X.key A j))))/\(X.g j (X.key A j)).ok/\O j (A.sl j):=by
 obtain ⟨⟨s,c⟩,d⟩:=h.at' j hj;have e:=h.ag j hj (X.key A j);rw [c] at e;have e:s=X.g j (X.key A j):=e;rw [<- e];obtain ⟨dq,k,l,o,i⟩:=(h.B.b j hj).slot c d;exact ⟨c,⟨dq,k⟩,l,i⟩
theorem zb.cok {H:Hp} {A:FA} {X:FX} {f:Nat->List Int->Option Slt} {m:Nat} (h:zb K a H p A X f O m):COk A.n (X.cs A):=by
 refine ⟨by unfold FX.cs; rw [bv,bW],fun c d=>?_,fun c d=>?_⟩
 .obtain ⟨j,b,rfl⟩:=bD.mp d;exact (yem (h.slot (cD.mp b)).2.2.1).1
 .obtain ⟨j,b,rfl⟩:=bD.mp d;exact (yem (h.slot (cD.mp b)).2.2.1).2
theorem LkG.at' {H:Hp} {lk tp:Addr} {kd:Fin 3} {ps:List Int} (h:LkG H (.ref lk) kd tp ps):zu K H lk (.str (kdS kd)) ps:=by
 obtain ⟨b,e,d,f,a⟩:=h;cases e;have a:=a;unfold jc at a;rw [bX,bX,List.all_eq_true] at a;refine ⟨tp,SqT.of d,SqT.of f,fun p c=>?_,by have:=of_decide_eq_true a.1.1; rw [bv] at this; exact this⟩;have w:=a.1.2 (.int p) (bD.mpr ⟨p,c,rfl⟩);have w:(decide (1 <= p) && decide (p <= 8))=true:=w;rw [bX] at w;exact ⟨of_decide_eq_true w.1,of_decide_eq_true w.2⟩
theorem Bks.snoc {H:Hp} {n m:Nat} {bk dx lk dd:Nat->Addr} {kd:Nat->Fin 3} {ps:Nat->List Int} {f:Nat->List Int->Option Slt} (h:Bks K a H n bk dx lk dd kd ps f O m)
  (hl:zu K H (lk n) (.str (kdS (kd n))) (ps n)) {q dq d:Addr} {f':List Int->Option Slt} {O':Addr->Prop} (hb:Ø a H q dq (lk n) d (kd n) f' O' m) (dj:∀ j c,j < n->O j c->¬ O' c) (n1:∀ j,j < n->¬ O j q) (n2:∀ j,j < n->¬ O' (bk j)) :
  Bks K a H (n+1) (upN bk n q) (upN dx n dq) lk (upN dd n d) kd ps (upN f n f') (upN O n O') m:=by
 refine ⟨fun i r=>?_,fun i r=>?_,fun i j c r s p o l=>?_,fun i j r s e=>?_⟩
 .by_cases z:i=n
  .rw [z];exact hl
  .exact h.look i (by omega)
 .by_cases z:i=n
  .subst z;rw [xq,xq,xq,xq,xq];exact hb
  .have g:i < n:=by omega
   rw [xl g,xl g,xl g,xl g,xl g];exact h.b i g
 .by_cases z:i=n
  .subst z;have k:j < i:=by omega
   rw [xq] at o;rw [xl k] at l;exact dj j c k l o
  .have g:i < n:=by omega
   rw [xl g] at o;by_cases w:j=n
   .subst w;rw [xq] at l;exact dj i c g o l
   .have k:j < n:=by omega
    rw [xl k] at l;exact h.dj i j c g k p o l
 .by_cases z:i=n
  .subst z;rw [xq] at e;by_cases w:j=i
   .subst w;rw [xq] at e;exact hb.np e
   .have k:j < i:=by omega
    rw [xl k] at e;exact n2 j k e
  .have g:i < n:=by omega
   rw [xl g] at e;by_cases w:j=n
   .subst w;rw [xq] at e;exact n1 i g e
   .have k:j < n:=by omega
    rw [xl k] at e;exact h.nb i j g k e
def yky (K:W.Frag) (a:Ads) (H G:Hp) (n:Nat) (bk dx lk dd:Nat->Addr) (kd:Nat->Fin 3) (ps:Nat->List Int) (f:Nat->List Int->Option Slt) (O:Nat->Addr->Prop):Prop :=
 Bks K a G n bk dx lk dd kd ps f O 0/\(∀ j k,j < n->f j k=none)/\(∀ j c,j < n->O j c->H c=none)/\(∀ j,j < n->H (bk j)=none)
theorem yky.zero {H G:Hp} {bk dx lk dd:Nat->Addr} {kd:Nat->Fin 3} {ps:Nat->List Int} {f:Nat->List Int->Option Slt} :yky K a H G 0 bk dx lk dd kd ps f O :=
 ⟨⟨fun i b=>absurd b (ci i),fun i b=>absurd b (ci i),fun i _ _ b=>absurd b (ci i),fun i _ b=>absurd b (ci i)⟩,fun i _ b=>absurd b (ci i),fun i _ b=>absurd b (ci i),fun i b=>absurd b (ci i)⟩
theorem yky.next {H G G2:Hp} {n:Nat} {bk dx lk dd:Nat->Addr} {kd:Nat->Fin 3} {ps:Nat->List Int} {f:Nat->List Int->Option Slt} (h:yky K a H G n bk dx lk dd kd ps f O) (hl:zu K G (lk n) (.str (kdS (kd n))) (ps n))
  (S:yy H G) {q dq d D:Addr} {xs ys:List V} (hq:G q=none) (hd:G d=none) (S2:yy G G2) (hb:Ø a G2 q dq (lk n) d (kd n) (fun _=>none) (fun b=>b=d) 0) (hD:G D=some (.lst xs)) :
  yky K a H (upd G2 D (.lst ys)) (n+1) (upN bk n q) (upN dx n dq) lk (upN dd n d) kd ps (upN f n fun _=>none) (upN O n fun b=>b=d):=by
 obtain ⟨p,x,y,u⟩:=h;have l:∀ j c,j < n->O j c->∃ o,G c=some o:=fun j c g w=>let ⟨o,m,_⟩:=(p.b j g).own c w; ⟨o,m⟩
 have M:=(p.same S2).snoc (hl.same S2) hb (fun j c g w z=>by
  obtain ⟨o,m⟩:=l j c g w;rw [show c=d from z,hd] at m
  cases m) (fun j g w=>by
  obtain ⟨o,m⟩:=l j q g w;rw [hq] at m
  cases m) (fun j g z=>by
  have e:=(p.b j g).me;rw [show bk j=d from z,hd] at e;cases e)
 have i:=S2 _ _ hD;have v:=M.nlst i;have s:∀ c o,G2 c=some o->c≠D->upd G2 D (.lst ys) c=some o:=fun c o e r=>yk r e;refine ⟨M.frame (O2:=fun c=>c=D) (fun c o e r=>s c o e r) (fun j c g w z=>v j g (z ▸ w)) (fun j g z=>?_) (fun t xs e=>?_),fun j k g=>?_,fun j c g w=>?_,fun j g=>?_⟩
 .have e:=(M.b j g).me;rw [z,i] at e;cases e
 .rcases e with (e | ⟨o,e⟩) | e
  .exact .inl (.inl (s _ _ e (fun z=>by rw [z,i] at e; cases e)))
  .exact .inl (.inr ⟨o,s _ _ e (fun z=>by rw [z,i] at e; cases e)⟩)
  .exact .inr e
 .by_cases z:j=n
  .rw [z,xq]
  .rw [xl (by omega)];exact x j k (by omega)
 .by_cases z:j=n
  .rw [z,xq] at w;rw [show c=d from w];exact S.free hd
  .rw [xl (by omega)] at w;exact y j c (by omega) w
 .by_cases z:j=n
  .rw [z,xq];exact S.free hq
  .rw [xl (by omega)];exact u j (by omega)
theorem yky.ag {H G:Hp} {n:Nat} {bk dx lk dd:Nat->Addr} {kd:Nat->Fin 3} {ps:Nat->List Int} {f:Nat->List Int->Option Slt} (h:yky K a H G n bk dx lk dd kd ps f O):ykx n kd f (fun i _=>kd0 (kd i)):=fun i b k=>by
 rw [h.2.1 i k b];rfl
def FX0 (n:Nat) (kd:Nat->Fin 3):FX:={ g:=fun i _=>kd0 (kd i),ws:=List.replicate n 1099511627776,sg:=[],nd:=0 }
theorem ykm {g:Nat->Addr} {n:Nat} {x:V} (h:x∈refs g n):∃ i,i < n/\x=.ref (g i):=by
 unfold refs at h;obtain ⟨i,a,e⟩:=bD.mp h;exact ⟨i,cD.mp a,e.symm⟩
theorem xu.lks {H:Hp} {n:Nat} {lk:Nat->Addr} {kd:Nat->Fin 3} {ps:Nat->List Int} (h:xu H n lk kd tp ps):Lks H (refs lk n):=fun y a=>by
 obtain ⟨i,b,rfl⟩:=ykm a;exact ⟨_,_,_,h i b⟩
theorem zb.frame {H H':Hp} {A:FA} {X:FX} {f:Nat->List Int->Option Slt} {m:Nat} (h:zb K a H p A X f O m) {O2:Addr->Prop} (B:ykw O2 H H') (hp:¬ O2 p) (hm:¬ O2 A.mp) (hb:∀ i,i < A.n->¬ O2 (A.bk i))
  (dj:∀ i c,i < A.n->O i c->¬ O2 c) (hl:∀ l xs,(l=A.bl\/l=A.el\/l=A.ml\/l=A.pl)->H l=some (.lst xs)->H' l=some (.lst xs)) (ht:∀ t xs,SqT K H t xs->SqT K H' t xs):zb K a H' p A X f O m :=
 ⟨B _ _ h.me hp,hl _ _ (.inl rfl) h.bl,hl _ _ (.inr (.inl rfl)) h.el,⟨B _ _ h.mx.o hm,hl _ _ (.inr (.inr (.inl rfl))) h.mx.l⟩,h.wok,hl _ _ (.inr (.inr (.inr rfl))) h.pl,h.B.frame B (fun i c s w=>dj i c s w) hb ht,h.ag,fun j d=>⟨(h.at' j d).1,fun r e=>by
  obtain ⟨g,q,k,_⟩:=(h.B.b j d).tb;rw [B _ _ k (dj j _ d (h.B.b j d).dO)] at e;cases e;exact (h.at' j d).2 _ k⟩,h.np,h.nm,h.n1,h.n6⟩
theorem ynh {G:Hp} {t:Addr} {xs ys zs:List V} (hc:G c=some (.lst ys)) (e:SqT K G t xs):SqT K (upd G c (.lst zs)) t xs:=by
 rcases e with (e | ⟨o,e⟩) | e
 .exact .inl (.inl (yk (xa e hc (by intro z; cases z)) e))
 .exact .inl (.inr ⟨o,yk (xa e hc (by intro z; cases z)) e⟩)
 .exact .inr e
theorem zb.app {H:Hp} {R:Addr} {A:FA} {X:FX} {f:Nat->List Int->Option Slt} {m:Nat} {xs ys:List V} (h:zb K a H p A X f O m) (hR:H R=some (.lst xs)) (hq:∀ q,(q=A.bl\/q=A.el\/q=A.ml\/q=A.pl)->q≠R):zb K a (upd H R (.lst ys)) p A X f O m:=by
 refine h.frame (O2:=fun c=>c=R) (fun c o e g=>yk g e) (fun z=>?_) (fun z=>?_) (fun i d z=>?_) (fun i c d w z=>h.B.nlst hR i d (z ▸ w)) (fun l xs w e=>yk (hq l w) e) (fun t xs e=>ynh hR e)
 .have e:=h.me;rw [z,hR] at e;cases e
 .have e:=h.mx.o;rw [z,hR] at e;cases e
 .have e:=(h.B.b i d).me;rw [z,hR] at e;cases e
theorem yxa (n:Nat) (n1:1 <= n) (n6:n <= 6):WOk n (List.replicate n 1099511627776):=by
 refine ⟨cT,fun w h=>?_,fun w h=>?_⟩ <;> (rw [cG h]; decide)
theorem ytb:ym ["self","looks"] ["self","looks"] (yh yrq):=wx (by right)
structure vbw (K:W.Frag) (a:Ads) (H H':Hp) (p:Addr) (n:Nat) (lk:Nat->Addr) (kd:Nat->Fin 3) (ps:Nat->List Int) (A:FA) (f:Nat->List Int->Option Slt) (O:Nat->Addr->Prop):Prop where
 ft:zb K a H' p A (FX0 n kd) f O 6
 en:A.n=n
 elk:A.lk=lk
 ekd:A.kd=kd
 eps:A.ps=ps
 oO:∀ j c,j < n->O j c->H c=none
 oB:∀ j,j < n->H (A.bk j)=none
 oM:H A.mp=none
 oL:∀ l,(l=A.bl\/l=A.el\/l=A.ml\/l=A.pl)->H l=none
 lo:H' A.ll=some (.lst (refs lk n))/\A.ll≠A.el/\H A.ll=none
inductive ś (K:W.Frag) (a:Ads) (vs:List V) (H:Hp) (Q:VK) (E:XK):Prop
 | mk (p dp:Addr) (x:V):(vs=[.ref p,x])->(H p=some (.ins a.A2 dp []))->(((vbf K H x/\∀ H',yy H H'->E (.ref a.Fi) none H')\/∃ (l:Addr) (n:Nat) (lk:Nat->Addr) (kd:Nat->Fin 3) (tp:Nat->Addr) (ps:Nat->List Int),x=.ref l/\H l=some (.lst (refs lk n))/\1 <= n/\n <= 6/\xu H n lk kd tp ps /\
  ∀ A f O H',vbw K a H H' p n lk kd ps A f O->But p H H'->Q .non H'))->ś K a vs H Q E
theorem ylx (T:Txt K mg a):wa P w K mg base (CXe P w) 6 a.Gf a.Jn ["self","looks"] (ś K a):=by
 exists T.Dh.F.okE,ytb,hr;obtain ⟨p,f,x,rfl,hp,h⟩:=h;refine yj (vk (pv 0) (v6 (ym2 T) (hr.mono (by decide)) rfl T.Co.m T.Co.F.kp T.Co.B .nil vg (yb (pv 1) ye (ya rfl))) rfl) ?_;refine yj (vk (pv 0) (wj (js:=[]) (ys:=[]) rfl (wu (yp (pv 0) rfl)) (fun C s2 H2 fp=>(yce T.Pe (yt5 T) (hr.mono (by decide)) rfl T.Pb T.Em.B .nil vh (yb (pv 0) ye (ya rfl)))) rfl rfl (hyc:=y7) (hrel:=y7)) rfl) ?_;refine yj (vk (pv 0) (yce T.Qo (yt2 T) (hr.mono (by decide)) rfl T.Qn T.En.B .nil vh (yb (yr yz rfl T.Ae (by right) (yb (yp (pv 0) rfl) ye (ya rfl))) ye (ya rfl))) rfl) ?_;refine yj (vk (pv 0) (xi ye) rfl) ?_;refine yj (vk (pv 0) yg rfl) ?_;refine yj (vk (pv 0) (xi ye) rfl) ?_;refine ⟨_,(yf (yw (wc (pv 0) T.Ag T.Di.m (ylh T) (hr.mono (by decide)) T.Di.B .nil vh))),?_⟩;exists 2,0;rfl';rcases h with ⟨hb,k⟩ | ⟨l,n,lk,kd,tp,ps,rfl,hl,n1,n6,an,k⟩
 .rcases hb with ⟨nm,ty,hn⟩ | ⟨l,xs,bs,rfl,hl,hz,aI,no⟩
  .exact .inl ⟨x,nm,rfl,ty,hn,k _ (yy.refl _)⟩
  .exact .inr ⟨l,xs,bs,rfl,hl,hz,aI,fun z=>absurd z no,fun _ H' S=>k _ S⟩
 .refine .inr ⟨l,refs lk n,List.replicate (refs lk n).length true,rfl,hl,by rw [wq]; omega,an.lks.bs,fun _ g H1 ah aE S1=>?_,fun no=>absurd ⟨by rw [wq]; exact n1,by rw [wq]; exact n6,yhq _⟩ no⟩;have b0:=S1 _ _ hp;have aW:=an.same S1;rfl';have U:upd H1 p (HO.ins a.A2 f ([("looks",V.ref g)]:List (Str × V))) p=some (HO.ins a.A2 f ([("looks",V.ref g)]:List (Str × V))):=yc;have BA:But p H1 (upd H1 p (HO.ins a.A2 f ([("looks",V.ref g)]:List (Str × V)))):=But.upd;have a2:g≠p:=(yd hp ah).symm;have I:upd H1 p (HO.ins a.A2 f ([("looks",V.ref g)]:List (Str × V))) g=some (.lst (refs lk n)):=yk a2 aE;generalize upd H1 p (HO.ins a.A2 f ([("looks",V.ref g)]:List (Str × V)))=HA at U BA I ⊢;have a7:But p H HA:=(But.of S1).trans BA
  have aR:xu HA n lk kd tp ps:=fun i hi=>by
   obtain ⟨q,e,h1,h2,h3⟩:=an i hi;exact ⟨q,e,a7 _ _ h1 (xa h1 hp (by intro z; cases z)),a7 _ _ h2 (xa h2 hp (by intro z; cases z)),h3⟩
  refine ⟨p,_,f,_,_,rfl,U,T.Ag,T.Bm,rfl,?_⟩;refine ⟨g,rfl,⟨_,SqL.of I⟩,fun u Y=>?_⟩;refine u8 (K:=K) (xs:=refs lk n) (fun i G=>∃ (bk dx dd:Nat->Addr) (f2:Nat->List Int->Option Slt) (O2:Nat->Addr->Prop),G u=some (.lst (refs bk i))/\yky K a HA G i bk dx lk dd kd ps f2 O2/\yy HA G)
   ⟨fun _=>0,fun _=>0,fun _=>0,fun _ _=>none,fun _ _=>False,yc,yky.zero,vj Y⟩ (fun i G _ z=>?_) (fun i y G hy hi z=>?_) (fun G z=>?_)
  .obtain ⟨_,_,_,_,_,_,_,SG⟩:=z;exact SqL.of (SG _ _ I)
  .obtain ⟨bk,dx,dd,f2,O2,aa,gN,SG⟩:=z;obtain ⟨rfl,aJ⟩:=ξ hy;rfl';intro q dq nq aM aY;have SQ:yy G (upd (upd G dq (.own q)) q (.ins a.Aa dq [])):=fun b o e=>by rw [yq (yd e nq),yq (yd e aM)]; exact e
   refine ⟨q,dq,lk i,kd i,rfl,yc,fun d G2 aK aL B2=>⟨rfl,?_⟩⟩;have au:yy G G2:=fun b o e=>B2 b o (SQ b o e) (yd e nq);refine xw (n:=(refs lk n).length) (au _ _ aa) (vq (by rw [wq]; omega)) hi ?_;refine ⟨_,_,_,_,_,?_,gN.next ((aR i aJ).same SG).at' SG nq (SQ.free aK) au aL aa,fun b o e=>yk (yd e Y) (au _ _ (SG b o e))⟩;rw [yc,z0,xq]
   congr 3
   exact jj fun j r=>(xl r).symm
  obtain ⟨bk,dx,dd,f2,O2,aa,gN,SG⟩:=z;rw [wq] at aa gN;have ax:=SG _ _ U;rfl';have ay:∀ c o,HA c=some o->c≠p->upd G p (HO.ins a.A2 f ([("looks",V.ref g),("books",V.ref u)]:List (Str × V))) c=some o:=fun c o e J=>yk J (SG _ _ e);have a5:upd G p (HO.ins a.A2 f ([("looks",V.ref g),("books",V.ref u)]:List (Str × V))) p=some (HO.ins a.A2 f ([("looks",V.ref g),("books",V.ref u)]:List (Str × V))):=yc;have af:u≠p:=(yd U Y).symm;have ai:upd G p (HO.ins a.A2 f ([("looks",V.ref g),("books",V.ref u)]:List (Str × V))) u=some (.lst (refs bk n)):=yk af aa;have BP:∀ {fs:List (Str × V)},But p G (upd G p (HO.ins a.A2 f fs)):=But.upd
  have ae:∀ j,j < n->¬ O2 j p:=fun j r w=>by
   have e:=gN.2.2.1 j p r w;rw [U] at e;cases e
  have aC:∀ {G':Hp},But p G G'->Bks K a G' n bk dx lk dd kd ps f2 O2 0:=fun {G'} B=>gN.1.frame (O2:=fun c=>c=p) (fun c o e J=>B c o e J) (fun j c r w z=>ae j r (z ▸ w)) (fun j r z=>by
   have e:=gN.2.2.2 j r;rw [z,U] at e
   cases e) (fun t xs e=>by
   rcases e with (e | ⟨o,e⟩) | e
   .exact .inl (.inl (B _ _ e (fun z=>by rw [z,ax] at e; cases e)))
   .exact .inl (.inr ⟨o,B _ _ e (fun z=>by rw [z,ax] at e; cases e)⟩)
   .exact .inr e)
  have BB:But p G (upd G p (HO.ins a.A2 f ([("looks",V.ref g),("books",V.ref u)]:List (Str × V)))):=But.upd;generalize upd G p (HO.ins a.A2 f ([("looks",V.ref g),("books",V.ref u)]:List (Str × V)))=HB at ay a5 ai BB ⊢;refine ⟨p,_,f,_,_,rfl,a5,T.Ag,T.Bm,rfl,?_⟩;refine zn (SqL.of (ay _ _ I a2)) ?_;rw [wq];rfl';intro D mx ab aN aX;have SM:yy HB (upd (upd HB mx (.own D)) D (.ins a.Br mx [])):=fun b o e=>by rw [yq (yd e ab),yq (yd e aN)]; exact e
  refine ⟨D,mx,n,rfl,n1,n6,yc,fun ml HC aA MC BC=>⟨rfl,?_⟩⟩;have SC:yy HB HC:=fun b o e=>BC b o (SM b o e) (yd e ab);have b1:=SC _ _ a5;have az:=SC _ _ ai;have a9:HB ml=none:=SM.free aA;have R:D≠p:=(yd a5 ab).symm;have a1:ml≠p:=(yd a5 a9).symm;rfl';refine ⟨by walk_at "len",fun M Z=>?_⟩;have X:M≠p:=fun z=>by rw [z,yc] at Z; cases Z
  have W:HC M=none:=by rw [yq X] at Z; exact Z
  have aV:upd (upd HC p (HO.ins a.A2 f ([("looks",V.ref g),("books",V.ref u),("mixer",V.ref D)]:List (Str × V)))) M (.lst []) p=some (HO.ins a.A2 f ([("looks",V.ref g),("books",V.ref u),("mixer",V.ref D)]:List (Str × V))):=yk X.symm yc;have ak:upd (upd HC p (HO.ins a.A2 f ([("looks",V.ref g),("books",V.ref u),("mixer",V.ref D)]:List (Str × V)))) M (.lst []) M=some (.lst []):=yc;have BD:But p HC (upd (upd HC p (HO.ins a.A2 f ([("looks",V.ref g),("books",V.ref u),("mixer",V.ref D)]:List (Str × V)))) M (.lst [])):=fun b o e J=>yk (yd e W) (yk J e);generalize upd (upd HC p (HO.ins a.A2 f ([("looks",V.ref g),("books",V.ref u),("mixer",V.ref D)]:List (Str × V)))) M (.lst [])=HD at aV ak BD ⊢;rfl';refine ⟨by walk_at "len",fun L a0=>?_⟩;have as:L≠p:=fun z=>by rw [z,yc] at a0; cases a0
  have aq:HD L=none:=by rw [yq as,yq as] at a0; exact a0
  have aS:upd (upd (upd HD p (HO.ins a.A2 f ([("looks",V.ref g),("books",V.ref u),("mixer",V.ref D),("ended",V.ref M)]:List (Str × V)))) p (HO.ins a.A2 f ([("looks",V.ref g),("books",V.ref u),("mixer",V.ref D),("ended",V.ref M),("place",V.int 0)]:List (Str × V)))) L (.lst []) p=some (HO.ins a.A2 f ([("looks",V.ref g),("books",V.ref u),("mixer",V.ref D),("ended",V.ref M),("place",V.int 0)]:List (Str × V))):=yk as.symm yc;have BE:But p HD (upd (upd (upd HD p (HO.ins a.A2 f ([("looks",V.ref g),("books",V.ref u),("mixer",V.ref D),("ended",V.ref M)]:List (Str × V)))) p (HO.ins a.A2 f ([("looks",V.ref g),("books",V.ref u),("mixer",V.ref D),("ended",V.ref M),("place",V.int 0)]:List (Str × V)))) L (.lst [])):=fun b o e J=>yk (yd e aq) (yk J (yk J e));generalize upd (upd (upd HD p (HO.ins a.A2 f ([("looks",V.ref g),("books",V.ref u),("mixer",V.ref D),("ended",V.ref M)]:List (Str × V)))) p (HO.ins a.A2 f ([("looks",V.ref g),("books",V.ref u),("mixer",V.ref D),("ended",V.ref M),("place",V.int 0)]:List (Str × V)))) L (.lst [])=HE at aS BE ⊢;rfl';have BF:But p HE (upd HE p (.ins a.A2 f (Ė (.ref g) (.ref u) (.ref D) (.ref M) (.int 0) (.ref L)))):=But.upd;have a6:upd HE p (.ins a.A2 f (Ė (.ref g) (.ref u) (.ref D) (.ref M) (.int 0) (.ref L))) p=some (.ins a.A2 f (Ė (.ref g) (.ref u) (.ref D) (.ref M) (.int 0) (.ref L))):=yc;generalize upd HE p (.ins a.A2 f (Ė (.ref g) (.ref u) (.ref D) (.ref M) (.int 0) (.ref L)))=HF at a6 BF ⊢;have ac:But p HC HF:=(BD.trans BE).trans BF;have a3:But p G HF:=fun b o e J=>ac b o (SC _ _ (BB b o e J)) J;have aF:=ac _ _ MC.o R;have av:=ac _ _ MC.l a1;have ao:=ac _ _ az af;have ar:=BF _ _ (BE _ _ ak X) X;refine ⟨p,f,g,u,D,M,L,0,[],n,0,bk,dx,lk,dd,kd,ps,f2,O2,fun i _=>kd0 (kd i),rfl,a6,ao,ar,aC a3,gN.ag,n6,by omega,ae,fun pl sl f' O' H' aT aQ aj B' aP aH ad F' L'=>?_⟩
  have a4:∀ {c:Addr},c≠p->HF c=none->G c=none:=fun {c} J h=>by
   cases e:G c with
   | none=>rfl
   | some o=>rw [a3 _ _ e J] at h; cases h
  have am:∀ j c,j < n->O2 j c->∃ o,G c=some o:=fun j c r w=>let ⟨o,ho,_⟩:=(gN.1.b j r).own c w; ⟨o,ho⟩
  have nO:∀ {c:Addr} {o:HO},HF c=some o->yya o=false->∀ j,j < n->¬ O2 j c:=fun {c o} e hi j r w=>by
   obtain ⟨o',aG,aD⟩:=((aC a3).b j r).own c w;rw [e] at aG;cases aG;rw [hi] at aD;cases aD
  have aw:∀ j,j < n->¬ O2 j D:=fun j r w=>by
   obtain ⟨o,ho⟩:=am j D r w;have e:=BB _ _ ho R;rw [ab] at e;cases e
  have O:∀ {c:Addr},c≠p->HA c=none->H c=none:=fun {c} J h=>by
   cases e:H c with
   | none=>rfl
   | some o=>rw [a7 _ _ e J] at h; cases h
  have N:∀ {c:Addr},G c=none->HA c=none:=fun {c} h=>SG.free h
  have a8:∀ {c:Addr},c≠p->HB c=none->G c=none:=fun {c} J h=>by
   cases e:G c with
   | none=>rfl
   | some o=>rw [BB _ _ e J] at h; cases h
  have aB:∀ {c:Addr},HC c=none->HB c=none:=fun {c} h=>SC.free h;refine k ⟨f,g,u,D,mx,ml,M,pl,n,bk,dx,lk,dd,sl,kd,ps⟩ f' O' H' ⟨⟨aT,F' _ _ ao af (nO ao rfl),F' _ _ ar X (nO ar rfl),⟨F' _ _ aF R aw,F' _ _ av a1 (nO av rfl)⟩,?_,aQ,⟨B'.look,fun i hi=>(B'.b i hi).up (by omega),B'.dj,B'.nb⟩,aP,aH,fun j r w=>?_,fun j r w=>?_,n1,n6⟩,rfl,rfl,rfl,rfl,fun j c r w=>?_,fun j r=>?_,?_,fun c hc=>?_,F' _ _ (a3 _ _ (SG _ _ I) a2) a2 (nO (a3 _ _ (SG _ _ I) a2) rfl),yd (SC _ _ (BB _ _ (SG _ _ I) a2)) W,ah⟩ ?_
  .exact yxa n n1 n6
  .rcases ad j p r w with v | v
   .exact ae j r v
   .rw [a6] at v; cases v
  .rcases ad j D r w with v | v
   .exact aw j r v
   .rw [aF] at v; cases v
  .have ap:c≠p:=fun z=>by
    rw [z] at w;rcases ad j p r w with v | v
    .exact ae j r v
    .rw [a6] at v; cases v
   rcases ad j c r w with v | v
   .exact O ap (gN.2.2.1 j c r v)
   .exact O ap (N (a4 ap v))
  .have aU:bk j≠p:=fun z=>by
    have e:=gN.2.2.2 j r;rw [z,U] at e;cases e
   exact O aU (gN.2.2.2 j r)
  .exact O R (N (a8 R ab))
  .rcases hc with z | z | z | z
   .rw [z];exact O af Y
   .rw [z];exact O X (N (a8 X (aB W)))
   .rw [z];exact O a1 (N (a8 a1 a9))
   .rw [z];have al:pl≠p:=(yd a6 aj).symm;exact O al (N (a4 al aj))
  .intro c o e J;refine F' c o (a3 _ _ (SG _ _ (a7 c o e J)) J) J fun j r w=>?_;have e2:=gN.2.2.1 j c r w;rw [a7 c o e J] at e2;cases e2
theorem yca:∀ (ts:List Int) (q j:Nat) (s:Int),ts[q]?=some s->j <= 8->(dec ts)[9 * q+j]?=(1 :: b8 s)[j]?
 | [],_,_,_,h,_=>by simp at h
 | t :: r,0,j,s,h,hj=>by
  have e:t=s:=by simpa using h
  subst e;show ((1 :: b8 t)++dec r)[9 * 0+j]?=_;rw [Nat.mul_zero,Nat.zero_add,List.getElem?_append_left (by rw [ce,yii]; omega)]
 | t :: r,q+1,j,s,h,hj=>by
  have b:r[q]?=some s:=by simpa using h
  show ((1 :: b8 t)++dec r)[9 * (q+1)+j]?=_;have a:(1 :: b8 t).length=9:=rfl;rw [cN (by rw [a]; omega),a,show 9 * (q+1)+j - 9=9 * q+j by omega];exact yca r q j s b hj
theorem yo9 (ts:List Int):(dec ts)[9 * ts.length]?=some 0:=by
 rw [yi3,cN (by rw [ul]; exact bA _),ul,Nat.sub_self];rfl
def Ų (ts:List Int) (k:Nat) (sg:List Int) (nd:Int):Prop:=∃ q j:Nat,k=9 * q+j/\j <= 8/\sg=ts.take q/\((j=0/\nd=0/\q <= ts.length)\/(1 <= j/\∃ s,ts[q]?=some s/\nd=(256+s) / 2 ^ (9 - j)))
theorem yyq {s P c:Int} (h:0 <= s/\s <= 255) (hP:2 <= P) (hc:P * (2 * c)=256) (c1:1 <= c/\c <= 64):0 < (256+s) / (2 * P)/\2 * ((256+s) / (2 * P))+s / P % 2 < 256/\2 * ((256+s) / (2 * P))+s / P % 2=(256+s) / P:=by
 have a:(256+s) / P=s / P+2 * c:=by rw [<- hc,Int.add_comm,Int.add_mul_ediv_left _ _ (by omega)]
 have b:(256+s) / (2 * P)=(s / P+2 * c) / 2:=by rw [<- a,Int.ediv_ediv_of_nonneg (show 0 <= P by omega),Int.mul_comm]
 have d:=Int.ediv_nonneg h.1 (show 0 <= P by omega);have e:=Int.ediv_lt_of_lt_mul (show 0 < P by omega) (show s < 128 * P by omega);rw [a,b];generalize s / P=y at d e;clear hc a b hP h;omega
theorem nd9 {s:Int} (h:0 <= s/\s <= 255) (h1:1 <= j) (hj:j <= 8):0 < (256+s) / 2 ^ (9 - j)/\(256+s) / 2 ^ (9 - j) < 256:=by
 have a:∀ j,j < 9->1 <= j->(2:Int) <= 2 ^ (9 - j)/\(2:Int) ^ (9 - j) <= 256:=by decide
 obtain ⟨b,c⟩:=a j (Nat.lt_succ_of_le hj) h1;generalize (2:Int) ^ (9 - j)=K at b c;exact ⟨Int.le_ediv_of_mul_le (by omega) (by omega),Int.ediv_lt_of_lt_mul (by omega) (by omega)⟩
theorem Ų.zero (ts:List Int):Ų ts 0 [] 0:=⟨0,0,rfl,by omega,by simp,.inl ⟨rfl,rfl,bR _⟩⟩
theorem Ų.nd {k:Nat} {sg:List Int} {nd:Int} (h:Ų ts k sg nd) (hs:Sgs ts):0 <= nd/\nd < 256:=by
 obtain ⟨q,j,_,d,_,h⟩:=h;rcases h with ⟨_,h,_⟩ | ⟨e,s,c,h⟩
 .omega
 .obtain ⟨a,b⟩:=nd9 (hs s (bM c)) e d;rw [h];exact ⟨Int.le_of_lt a,b⟩
theorem Ų.len {k:Nat} {sg:List Int} {nd:Int} (h:Ų ts k sg nd):sg.length <= ts.length:=by
 obtain ⟨q,j,_,_,a,_⟩:=h;rw [a,bT];omega
theorem Ų.next {k:Nat} {sg:List Int} {nd b:Int} (h:Ų ts k sg nd) (hs:Sgs ts) (hb:(dec ts)[k]?=some b) :
  (k < 9 * ts.length/\Ų ts (k+1) (sgN sg nd b) (ndN nd b))\/(k=9 * ts.length/\sgN sg nd b=[]/\ndN nd b=0):=by
 obtain ⟨q,j,p,w,g,h⟩:=h;rcases h with ⟨v,d,B⟩ | ⟨D,s,a,d⟩
 .subst v;rcases Nat.lt_or_ge q ts.length with m | m
  .refine .inl ⟨by omega,?_⟩;have e:=yca ts q 0 ts[q] (bx m) (by omega);rw [<- p,hb] at e;have e:b=1:=by simpa using e
   have:=hs ts[q] (bZ m);unfold sgN ndN;rw [if_neg (by omega),if_pos e,if_neg (by omega),if_pos e];refine ⟨q,1,by omega,by omega,g,.inr ⟨by omega,ts[q],bx m,?_⟩⟩;simp only [Nat.reduceSub,Int.reducePow];omega
  .have r:q=ts.length:=by omega
   have e:=yo9 ts;rw [<- r,show 9 * q=k by omega,hb] at e;have e:b=0:=by simpa using e
   refine .inr ⟨by omega,?_,?_⟩
   .unfold sgN;rw [if_neg (by omega),if_neg (by omega)]
   .unfold ndN;rw [if_neg (by omega),if_neg (by omega)];exact d
 .have o:=hs s (bM a);have m:q < ts.length:=(cF.mp a).1;have e:=yca ts q j s a w;rw [<- p,hb] at e
  have l:some b=(b8 s)[j - 1]?:=by
   obtain ⟨i,rfl⟩:∃ i,j=i+1:=⟨j - 1,by omega⟩;simpa using e
  refine .inl ⟨by omega,?_⟩;by_cases h8:j=8
  .subst h8;have l:b=s / 1 % 2:=bL l;simp only [Nat.reduceSub,Int.reducePow] at d;have A:2 * nd+b=256+s:=by omega
   unfold sgN ndN;rw [if_pos (by omega),if_pos (by omega),if_pos (by omega),if_pos (by omega)];refine ⟨q+1,0,by omega,by omega,?_,.inl ⟨rfl,rfl,by omega⟩⟩;rw [g,show 2 * nd+b - 256=s by omega,jh a]
  .have n:0 < nd/\2 * nd+b < 256/\2 * nd+b=(256+s) / 2 ^ (9 - (j+1)):=by
    have k:∀ P c:Int,2 <= P->P * (2 * c)=256->1 <= c/\c <= 64->nd=(256+s) / (2 * P)->b=s / P % 2->0 < nd/\2 * nd+b < 256/\2 * nd+b=(256+s) / P:=fun P c x y z e f=>by
     rw [e,f];exact yyq o x y z
    clear p hb e g m hs;obtain rfl | rfl | rfl | rfl | rfl | rfl | rfl:j=1\/j=2\/j=3\/j=4\/j=5\/j=6\/j=7:=by omega
    .exact k 128 1 (by decide) rfl (by decide) d (bL l)
    .exact k 64 2 (by decide) rfl (by decide) d (bL l)
    .exact k 32 4 (by decide) rfl (by decide) d (bL l)
    .exact k 16 8 (by decide) rfl (by decide) d (bL l)
    .exact k 8 16 (by decide) rfl (by decide) d (bL l)
    .exact k 4 32 (by decide) rfl (by decide) d (bL l)
    .exact k 2 64 (by decide) rfl (by decide) d (bL l)
   obtain ⟨t,C,u⟩:=n;unfold sgN ndN;rw [if_pos t,if_neg (by omega),if_pos t,if_neg (by omega)];exact ⟨q,j+1,by omega,by omega,g,.inr ⟨by omega,s,a,u⟩⟩
theorem zb.up {H:Hp} {A:FA} {X:FX} {f:Nat->List Int->Option Slt} {m:Nat} (h:zb K a H p A X f O m) (hm:m <= m'):zb K a H p A X f O m' :=
 ⟨h.me,h.bl,h.el,h.mx,h.wok,h.pl,⟨h.B.look,fun i c=>(h.B.b i c).up hm,h.B.dj,h.B.nb⟩,h.ag,h.at',h.np,h.nm,h.n1,h.n6⟩
structure Lw (K:W.Frag) (a:Ads) (H:Hp) (p:Addr) (A:FA) (X:FX) (f:Nat->List Int->Option Slt) (O:Nat->Addr->Prop) (m:Nat) (bk dx dd:Nat->Addr) (f2:Nat->List Int->Option Slt) (O2:Nat->Addr->Prop) (mp mx ml:Addr) (ws:List Int):Prop where
 ft:zb K a H p A X f O m
 bs:Bks K a H A.n bk dx A.lk dd A.kd A.ps f2 O2 m
 mx:yi9 a mp mx ml ws H
 dj:∀ i j c,i < A.n->j < A.n->O i c->¬ O2 j c
 n1:∀ i j,i < A.n->j < A.n->¬ O i (bk j)
 n2:∀ i j,i < A.n->j < A.n->¬ O2 i (A.bk j)
 n3:∀ i,i < A.n->¬ O2 i p/\¬ O2 i A.mp/\¬ O2 i mp/\¬ O i mp
 n4:mp≠A.mp
 n5:ml≠A.el
section
variable {H H':Hp} {A:FA} {X:FX} {f:Nat->List Int->Option Slt} {m:Nat} {bk dx dd:Nat->Addr} {f2:Nat->List Int->Option Slt} {mp mx ml:Addr} {ws:List Int}
theorem x9 {C d e:Addr} {fs gs:List (Str × V)} (hp:H p=some (.ins C d fs)) (hq:H q=some (.ins D e gs)) (hl:fs.length≠gs.length):p≠q:=fun z=>by
 rw [z,hq] at hp;injection hp with hp;injection hp with _ _ e;exact hl (congrArg List.length e).symm
end
def KpA (B G:Hp) (e0 e:Addr):Prop:=∀ c o,B c=some o->yya o=false->c≠e0->c≠e/\G c=some o
theorem KpA.lst {B G:Hp} {e0 e:Addr} {xs:List V} (h:KpA B G e0 e) (hc:B c=some (.lst xs)) (ne:c≠e0):G c=some (.lst xs):=(h c _ hc rfl ne).2
def TxE (ts:List Int) (k:Nat) (sg:List Int) (nd:Int):Prop:=(k <= 9 * ts.length/\Ų ts k sg nd)\/(k=9 * ts.length+1/\sg=[]/\nd=0)
theorem TxE.next {k:Nat} {sg:List Int} {nd b:Int} (h:TxE ts k sg nd) (hs:Sgs ts) (hb:(dec ts)[k]?=some b):Ų ts k sg nd/\TxE ts (k+1) (sgN sg nd b) (ndN nd b):=by
 rcases h with ⟨c,h⟩ | ⟨c,_⟩
 .refine ⟨h,?_⟩;rcases h.next hs hb with ⟨d,a⟩ | ⟨d,a,e⟩
  .exact .inl ⟨by omega,a⟩
  .exact .inr ⟨by omega,a,e⟩
 .rw [c,cn (by rw [ub]; exact bA _)] at hb;cases hb
theorem yta:ym ["self"] ["self"] (yh yqx):=wx (by right)
inductive ï (K:W.Frag) (a:Ads) (vs:List V) (H:Hp) (Q:VK) (E':XK):Prop
 | mk (p:Addr) (A:FA) (X:FX) (f:Nat->List Int->Option Slt) (O:Nat->Addr->Prop) (m:Nat):(vs=[.ref p])->(zb K a H p A X f O m)->(∀ r H',H r=none->H' r=some (.lst ((X.cs A).map V.int))->yy H H'->Q (.ref r) H')->ï K a vs H Q E'
theorem ym6 (T:Txt K mg a):wa P w K mg base CX0 2 a.Jq a.Jr ["self"] (ï K a):=by
 exists T.Dj.F.ok,yta,j;obtain ⟨p,d,X,f,O,m,rfl,h,k⟩:=h;have R:=h.me;have I:=h.n6;refine ⟨_,(yf (yu (wj (js:=[]) (ys:=[]) rfl (wu (yp (pv 0) rfl)) (fun C N r J=>(yeb (wc (pv 0) T.Bp T.Gn.m (yw3 T) (j.mono (by decide)) T.Gn.B .nil vh) (yeb (wc (pv 0) T.Cc T.Gq.m (ywj T) (j.mono (by decide)) T.Gq.B .nil vh) (wc (pv 0) T.Cd T.Gs.m (yuc T) (j.mono (by decide)) T.Gs.B .nil vh)))) rfl rfl (hyc:=y7) (hrel:=y7)))),?_⟩;exists 1,0;rfl';refine ⟨d.pl,rfl,⟨_,SqL.of h.pl⟩,fun D o=>?_⟩;refine u8 (K:=K) (xs:=refs d.sl d.n) (Mp H D (fun i=>V.int (X.g i (X.key d i)).due)) (Mp.zero o) (fun _ _ _ q=>q.1.seq (SqL.of h.pl)) (fun i y r G z q=>?_) (fun r q=>?_)
 .obtain ⟨c,b⟩:=q;obtain ⟨rfl,l⟩:=ξ G;obtain ⟨_,⟨L,v⟩,x,_⟩:=h.slot l;refine yf4 (fun M h=>yxs rfl h) (c _ _ v) x ?_;exact Mp.doneR o (vq (by rw [wq]; omega)) z c b rfl
 .obtain ⟨c,b⟩:=q;rw [wq] at b;refine k D _ o ?_ c;rw [b];unfold FX.cs;rw [cg];rfl
theorem yvz:ym ["self"] ["self"] (yh yps):=wx (by right)
inductive Ĩ (K:W.Frag) (a:Ads) (vs:List V) (H:Hp) (Q:VK) (E':XK):Prop
 | mk (p:Addr) (A:FA) (X:FX) (f:Nat->List Int->Option Slt) (O:Nat->Addr->Prop) (m:Nat):(vs=[.ref p])->(zb K a H p A X f O m)->(∀ H',yy H H'->Q (.int (ynd X.ws (X.cs A))) H')->Ĩ K a vs H Q E'
theorem yh4 (T:Txt K mg a):wa P w K mg base CX0 3 a.Js a.Jt ["self"] (Ĩ K a):=by
 exists T.Cp.F.ok,yvz,g;obtain ⟨p,b,X,f,O,m,rfl,h,k⟩:=h;have x:=h.me;have l:=h.mx.o;refine ⟨_,(yf (yu (xh (yp (pv 0) rfl) T.Hr T.Gv.m (yu0 T) (g.mono (by decide)) T.Gv.B .nil vh (yb (wc (pv 0) T.Ag T.Dj.m (ym6 T) (g.mono (by decide)) T.Dj.B .nil vh) ye (ya rfl))))),?_⟩;exists 1,0;rfl';refine ⟨p,b,X,f,O,m,rfl,h,fun r u t d e=>?_⟩;rfl';exact ⟨b.mp,b.mx,b.ml,r,X.ws,X.cs b,b.n,rfl,h.n1,h.n6,h.wok,h.cok,h.mx.same e,SqL.of d,fun v j=>k _ (e.trans j)⟩
theorem yvc:ym ["self","bit"] ["self","bit"] (yh yp4):=wx (by right)
inductive yhe (a:Ads) (vs:List V) (H:Hp) (Q:VK) (E':XK):Prop
 | mk (p dp ll bl mp el pl:Addr) (nd b:Int) (sg:List Int):(vs=[.ref p,.int b])->(H p=some (.ins a.A2 dp (Ė (.ref ll) (.ref bl) (.ref mp) (.ref el) (.int nd) (.ref pl))))->(H el=some (.lst (sg.map V.int)))->(sg.length <= 100000)->(0 < nd)->(∀ H',H' p=some (.ins a.A2 dp (Ė (.ref ll) (.ref bl) (.ref mp) (.ref el) (.int (ndN nd b)) (.ref pl)))->H' el=some (.lst ((sgN sg nd b).map V.int))->(∀ c o,H c=some o->c≠p->c≠el->H' c=some o)->Q .non H')->yhe a vs H Q E'
theorem ysv (T:Txt K mg a):wa P w K mg base CX0 1 a.Jy a.Jz ["self","bit"] (yhe a):=by
 exists T.Gz.F.ok,yvc,M;obtain ⟨p,q,m,r,n,g,l,j,b,y,rfl,L,B,N,D,k⟩:=h;refine ⟨_,(yi (vk (pv 0) (yn vv (yn wl yg (yp (pv 0) rfl)) (pv 1)) rfl) (yf (wb (yx yzg (yp (pv 0) rfl) (vt rfl T.Db) (y8 _)) (yi (yw (ψ PySem.F.plainAttrs_list PySem.F.slot_list_append PySem.F.type_list_append wz (yp (pv 0) rfl) (yb (yn uc (yp (pv 0) rfl) (vt rfl T.Db)) ye (ya rfl)))) (yf (vk (pv 0) yg rfl))) y9))),?_⟩;exists 2,0;unfold ndN sgN at k;rw [if_pos D,if_pos D] at k;have f:g≠p:=xa B L (by intro z; cases z);rfl';have i:upd H p (.ins a.A2 q (Ė (.ref m) (.ref r) (.ref n) (.ref g) (.int (2 * j+b)) (.ref l))) p=some (.ins a.A2 q (Ė (.ref m) (.ref r) (.ref n) (.ref g) (.int (2 * j+b)) (.ref l))):=yc;have d:=yk (o':=HO.ins a.A2 q (Ė (.ref m) (.ref r) (.ref n) (.ref g) (.int (2 * j+b)) (.ref l))) f B;have v:But p H (upd H p (.ins a.A2 q (Ė (.ref m) (.ref r) (.ref n) (.ref g) (.int (2 * j+b)) (.ref l)))):=But.upd;generalize upd H p (.ins a.A2 q (Ė (.ref m) (.ref r) (.ref n) (.ref g) (.int (2 * j+b)) (.ref l)))=O at i d v ⊢;rfl';refine uz (fun t=>?_) (fun t=>?_)
 .rw [if_pos t,if_pos t] at k;rfl';refine za d ?_;rfl';refine xt d (vq (by rw [bv]; omega)) ?_;have J:=yk (o':=HO.lst (List.map V.int y++[V.int (2 * j+b - 256)])) (Ne.symm f) i;rfl';refine k _ yc ?_ fun c o e u C=>yk u (yk C (v _ _ e u));rw [yq f,yc,bS];rfl
 .rw [if_neg t,if_neg t] at k;rfl';exact k _ i d fun c o e u C=>v _ _ e u
theorem yvr:ym ["self","bit"] ["self","bit"] (yh yrw):=wx (by right)
inductive ydl (a:Ads) (vs:List V) (H:Hp) (Q:VK) (E':XK):Prop
 | mk (p dp ll bl mp el pl:Addr) (nd b:Int) (sg:List Int):(vs=[.ref p,.int b])->(H p=some (.ins a.A2 dp (Ė (.ref ll) (.ref bl) (.ref mp) (.ref el) (.int nd) (.ref pl))))->(H el=some (.lst (sg.map V.int)))->(sg.length <= 100000)->(0 <= nd)->(∀ (el':Addr) H',(el'=el\/H el'=none)->H' p=some (.ins a.A2 dp (Ė (.ref ll) (.ref bl) (.ref mp) (.ref el') (.int (ndN nd b)) (.ref pl)))->H' el'=some (.lst ((sgN sg nd b).map V.int))->(∀ c o,H c=some o->c≠p->c≠el->H' c=some o)->(∃ o,H' el=some o)->Q .non H')->ydl a vs H Q E'
theorem yw6 (T:Txt K mg a):wa P w K mg base CX0 2 a.Jw a.Jx ["self","bit"] (ydl a):=by
 exists T.Gy.F.ok,yvr,R;obtain ⟨p,C,x,D,y,i,u,G,b,v,rfl,j,f,U,W,k⟩:=h;refine ⟨_,(yf (wb (yx yfj (yp (pv 0) rfl) yg (y8 _)) (yf (yw (xh (pv 0) T.Ag T.Gz.m (ysv T) (R.mono (by decide)) T.Gz.B .nil vh (yb (pv 1) ye (ya rfl))))) (yf (wb (yx x3 (pv 1) yg (y8 _)) (yf (vk (pv 0) yg rfl)) (yf (vk (pv 0) (xi ye) rfl)))))),?_⟩;exists 2,0;have d:i≠p:=xa f j (by intro z; cases z);rfl';refine uz (fun l=>?_) (fun l=>?_)
 .rfl';exact ⟨p,C,x,D,y,i,u,G,b,v,rfl,j,f,U,l,fun L S I M=>k i L (.inl rfl) S I M ⟨_,I⟩⟩
 .unfold ndN sgN at k;rw [if_neg l,if_neg l] at k;rfl';refine uz (fun g=>?_) (fun g=>?_)
  .rw [if_pos g,if_pos g] at k;rfl';exact k i _ (.inl rfl) yc (yk d f) (fun c o e t _=>yk t e) ⟨_,yk d f⟩
  .rw [if_neg g,if_neg g] at k;rfl';refine ⟨by walk_at "len",fun r hr0=>?_⟩
   with_reducible first | refine yv hr0 fun H1 S1 e1=>?_ | refine ve hr0 fun H1 S1 e1=>?_
   have O:=S1 _ _ j;rfl';have n:r≠p:=fun z=>by rw [z,j] at hr0; cases hr0
   exact k r _ (.inr hr0) yc (yk n e1) (fun c o e t _=>yk t (S1 _ _ e)) ⟨_,yk d (S1 _ _ f)⟩
abbrev FA.re (A:FA) (ml el pl:Addr) (sl:Nat->Addr):FA:={ A with ml:=ml,el:=el,pl:=pl,sl:=sl }
def FX.run (A:FA) (X:FX):List Int->FX
 | []=>X
 | b :: r=>FX.run A (X.see A b) r
theorem j7 (A:FA):∀ (bs cs:List Int) (X:FX),X.run A (bs++cs)=(X.run A bs).run A cs
 | [],_,_=>rfl
 | b :: r,cs,X=>j7 A r cs (X.see A b)
theorem yj8 (A:FA) (bs:List Int) (b:Int) (X:FX):X.run A (bs++[b])=(X.run A bs).see A b:=j7 A bs [b] X
def fa0 (n:Nat) (ps:Nat->List Int):FA:={ dp:=0,ll:=0,bl:=0,mp:=0,mx:=0,ml:=0,el:=0,pl:=0,n:=n,bk:=fun _=>0,dx:=fun _=>0,lk:=fun _=>0,dd:=fun _=>0,sl:=fun _=>0,kd:=fun _=>0,ps:=ps }
theorem Ċ (A:FA):∀ (bs:List Int) (X:FX),X.run A bs=X.run (fa0 A.n A.ps) bs
 | [],_=>rfl
 | b :: r,X=>Ċ A r (X.see A b)
def yx7 (H:Hp) (A:FA):Prop:=H A.ll=some (.lst (refs A.lk A.n))/\A.ll≠A.el/\∃ tp,xu H A.n A.lk A.kd tp A.ps
theorem yx7.same {H H':Hp} {A:FA} (h:yx7 H A) (S:yy H H'):yx7 H' A:=⟨S _ _ h.1,h.2.1,let ⟨tp,r⟩:=h.2.2; ⟨tp,r.same S⟩⟩
structure Go (W:Addr->Prop) (H H':Hp) (W':Addr->Prop):Prop where
 fr:∀ c o,H c=some o->¬ W c->H' c=some o
 nw:∀ c,W' c->W c\/H c=none
 lv:∀ c o,H c=some o->∃ o',H' c=some o'
theorem Go.free {W:Addr->Prop} {H H':Hp} (h:Go W H H' W') (e:H' c=none):H c=none:=by
 cases z:H c with
 | none=>rfl
 | some o =>
  obtain ⟨a,w⟩:=h.lv c o z;rw [e] at w;cases w
theorem Go.refl {W:Addr->Prop} {H:Hp}:Go W H H W:=⟨fun _ _ e _=>e,fun _ w=>.inl w,fun _ o e=>⟨o,e⟩⟩
theorem Go.trans {W W1:Addr->Prop} {H H1 H2:Hp} (h:Go W H H1 W1) (k:Go W1 H1 H2 W2):Go W H H2 W2:=by
 refine ⟨fun c o e a=>k.fr c o (h.fr c o e a) fun w=>?_,fun c w=>?_,fun c o e=>?_⟩
 .rcases h.nw c w with v | v
  .exact a v
  .rw [e] at v;cases v
 .rcases k.nw c w with v | v
  .exact h.nw c v
  .exact .inr (h.free v)
 .obtain ⟨b,d⟩:=h.lv c o e;exact k.lv c b d
theorem Go.same {W:Addr->Prop} {H H1 H2:Hp} (h:Go W H H1 W') (S:yy H1 H2):Go W H H2 W':=⟨fun c o e a=>S _ _ (h.fr c o e a),h.nw,fun c o e=>let ⟨o',w⟩:=h.lv c o e; ⟨o',S _ _ w⟩⟩
theorem Go.ahead {W:Addr->Prop} {H H1 H2:Hp} (S:yy H H1) (h:Go W H1 H2 W'):Go W H H2 W':=⟨fun c o e=>h.fr c o (S _ _ e),fun c w=>(h.nw c w).imp id S.free,fun c o e=>h.lv c o (S _ _ e)⟩
theorem Go.apart {W:Addr->Prop} {H H':Hp} (h:Go W H H' W') (hU:∀ c,U c->∃ o,H c=some o) (dj:∀ c,U c->¬ W c):∀ c,U c->¬ W' c:=fun c u w=>by
 rcases h.nw c w with v | v
 .exact dj c u v
 .obtain ⟨o,e⟩:=hU c u;rw [v] at e;cases e
section
variable {H H':Hp} {n:Nat} {kd:Nat->Fin 3} {ps:Nat->List Int} {X:FX} {M:Nat} {W:Addr->Prop}
theorem yg1 {g:Nat->Addr} (h:1 <= n):(refs g n)[0]?=some (.ref (g 0)):=by
 unfold refs;rw [bB,cL h];rfl
end
theorem ymr:ym ["self","bit","slot"] ["self","bit"] (yh yru):=wx (by right)
inductive ygx (K:W.Frag) (a:Ads) (vs:List V) (H:Hp) (Q:VK) (E':XK):Prop
 | mk (p:Addr) (A:FA) (X:FX) (f:Nat->List Int->Option Slt) (O:Nat->Addr->Prop) (m:Nat) (b:Int):(vs=[.ref p,.int b])->(zb K a H p A X f O m)->(0 <= b)->(b <= 1)->(m+20 < 1000000)->(0 <= X.nd)->(X.sg.length <= 100000)->(∀ (ml el pl:Addr) (sl:Nat->Addr) (f':Nat->List Int->Option Slt) (O':Nat->Addr->Prop) (H':Hp),(el=A.el\/H el=none)->zb K a H' p { A with ml:=ml,el:=el,pl:=pl,sl:=sl } (X.see A b) f' O' (m+A.n)->(∀ j c,j < A.n->O' j c->O j c\/H c=none) ->
  (∀ c o,H c=some o->c≠p->c≠A.mp->c≠A.el->(∀ j,j < A.n->¬ O j c)->H' c=some o)->(∀ c o,H c=some o->∃ o',H' c=some o')->H ml=none->Q .non H')->ygx K a vs H Q E'
theorem yd6 (T:Txt K mg a):wa P w K mg base CX0 6 a.Ju a.Jv ["self","bit"] (ygx K a):=by
 exists T.Ca.F.ok,ymr,hr;obtain ⟨p,d,X,f,O,m,b,rfl,h,b0,b1,hm,as,aF,k⟩:=h;have hp:=h.me;have af:=h.mx.o;have n6:=h.n6;have I:=yva b0 b1;refine yj (yw (v6 (Ď T) (hr.mono (by decide)) rfl T.Ak.m T.Ak.F.kp T.Ak.B .nil wd (yb (pv 1) ye (ya rfl)))) ?_;refine yj (yw (vz (yp (pv 0) rfl) T.Hr T.Gw.m (yur T) (hr.mono (by decide)) T.Gw.B .nil wd (yb (wc (pv 0) T.Ag T.Dj.m (ym6 T) (hr.mono (by decide)) T.Dj.B .nil vh) (yb (pv 1) ye (ya rfl)) (ya rfl)))) ?_;refine yj (uw PassesOwn.never rfl (wu (yp (pv 0) rfl)) (wo (i:=2) ymr.nd rfl (Or.inl rfl)) (yf (yw (yeb (vz (pv 2) T.Bp T.Gp.m (yvt T) (hr.mono (by decide)) T.Gp.B .nil wd (yb (pv 1) ye (ya rfl))) (yeb (vz (pv 2) T.Cc T.Gr.m (yv8 T) (hr.mono (by decide)) T.Gr.B .nil wd (yb (pv 1) ye (ya rfl))) (vz (pv 2) T.Cd T.Gt.m (ysr T) (hr.mono (by decide)) T.Gt.B .nil wd (yb (pv 1) ye (ya rfl)))))))) ?_;refine yj (yw (xh (pv 0) T.Ag T.Gy.m (yw6 T) (hr.mono (by decide)) T.Gy.B .nil vh (yb (pv 1) ye (ya rfl)))) ?_;refine ⟨_,(yf (yw (wc (pv 0) T.Ag T.Di.m (ylh T) (hr.mono (by decide)) T.Di.B .nil vh))),?_⟩;exists 2,1;rfl';refine ⟨.int b,_,rfl,.int b,fun _=>?_,fun z=>(by rw [I] at z; cases z)⟩;rfl';refine ⟨p,d,X,f,O,m,rfl,h,fun r H1 aJ an S1=>?_⟩;have N:=S1 _ _ af;rfl';refine ⟨d.mp,d.mx,d.ml,r,X.ws,X.cs d,d.n,.int b,_,rfl,h.n1,n6,h.wok,h.cok,h.mx.same S1,SqL.of an,.int b,fun b' e _ _ ml H2 a6 M2 W=>?_,fun z=>(by rw [I] at z; cases z)⟩;cases e;have M:=h.same S1
 have ad:p≠d.mp:=fun z=>by
  have:=h.me;rw [z,af] at this;injection this with this;injection this with _ _ e;exact absurd (congrArg List.length e) (show ¬ (1=6) by decide)
 have aq:=W _ _ M.me ad;have ab:∀ {l:Addr} {xs:List V},H1 l=some (.lst xs)->l≠d.mp:=fun {l xs} e z=>by rw [z,N] at e; cases e
 have a8:=W _ _ M.bl (ab M.bl);have a7:=W _ _ M.el (ab M.el);have Y:=W _ _ M.pl (ab M.pl)
 have a1:=M.B.frame (O2:=fun c=>c=d.mp) (fun c o e ne=>W c o e ne) (fun j c q w z=>h.nm j q (z ▸ w)) (fun j q z=>by
  have:=(M.B.b j q).me;rw [z,N] at this;injection this with this;injection this with _ _ e
  exact absurd (congrArg List.length e) (show ¬ (1=2) by decide)) (fun t xs e=>by
  rcases e with (e | ⟨o,e⟩) | e
  .exact .inl (.inl (W _ _ e (fun z=>by rw [z,N] at e; cases e)))
  .exact .inl (.inr ⟨o,W _ _ e (fun z=>by rw [z,N] at e; cases e)⟩)
  .exact .inr e)
 have aD:∀ j,j < d.n->(∃ s,f j (X.key d j)=some s)/\AtS H2 (d.dd j) (X.key d j) (d.sl j):=fun j q=>⟨(M.at' j q).1,(M.at' j q).2.told (M.B.b j q) (fun z=>h.nm j q (by rw [<- z]; exact (M.B.b j q).dO)) W⟩;rfl';refine ⟨d.pl,rfl,⟨_,SqL.of Y⟩,uf (K:=K) (a:=d.pl) (xs:=refs d.sl d.n) (fun i σ2 G=>∃ (v:Option V) (f':Nat->List Int->Option Slt),σ2=[some (.ref p),some (.int b),v]/\Bks K a G d.n d.bk d.dx d.lk d.dd d.kd d.ps f' O m /\
   (∀ j,j < d.n->∀ k,(f' j k).getD (kd0 (d.kd j))=if j < i/\k=X.key d j then (X.g j k).see b else X.g j k)/\(∀ j,j < d.n->(∃ s,f' j (X.key d j)=some s)/\AtS G (d.dd j) (X.key d j) (d.sl j))/\(∀ c o,H2 c=some o->(∀ j,j < d.n->¬ O j c)->G c=some o))
  ⟨_,f,rfl,a1,fun j q L=>by rw [if_neg (fun z=>absurd z.1 (ci j))]; exact h.ag j q L,aD,fun c o e _=>e⟩ (by rintro i σ2 G _ ⟨_,_,_,_,_,_,w⟩; exact SqL.of (w _ _ Y (a1.nlst Y))) ?_ ?_⟩
 .rintro i y σ2 G hy ⟨v,f',rfl,S,gA,gS,gF⟩;obtain ⟨rfl,D⟩:=ξ hy;obtain ⟨⟨s',ac⟩,a9⟩:=gS i D
  have es:s'=X.g i (X.key d i):=by
   have:=gA i D (X.key d i);rw [ac,if_neg (fun z=>absurd z.1 (cS i))] at this;exact this
  obtain ⟨dq,hq,ok,aH,aw⟩:=(S.b i D).slot ac a9;rfl';refine yop (x:=.int b) (fun Q' h=>?_) (fun Q' h=>?_) hq ok (.int b) (fun b' e _ _ G3 h3 B3=>?_) (fun z=>by rw [I] at z; cases z) (fun z=>by rw [I] at z; cases z) (fun z=>by rw [I] at z; cases z)
  .rfl';exact h
  .rfl';exact h
  cases e;have ar:=(S.b i D).told ac a9 b0 b1 h3 B3;have BO:ykw (O i) G G3:=fun c o e no=>B3 _ _ e fun z=>no (by rw [z]; exact aw);have M3:=S.move D (bA m) ar (fun c w=>.inl w) BO
  have eO:(fun j=>if j=i then O i else O j)=O:=by
   funext j
   by_cases z:j=i
   .rw [if_pos z,z]
   .rw [if_neg z]
  rw [eO] at M3
  have au:d.dd i≠d.sl i:=fun z=>by
   obtain ⟨aI,aK,w1,_⟩:=(S.b i D).tb;obtain ⟨C,fs,eo⟩:=ď a dq s';rw [z,hq,eo] at w1;cases w1
  rfl';refine ⟨_,_,rfl,M3,fun j q L=>?_,fun j q=>?_,fun c o e no=>?_⟩
  .try dsimp only
   by_cases z:j=i
   .subst z;rw [if_pos rfl];unfold ų;by_cases w:L=X.key d j
    .rw [if_pos w,if_pos ⟨cX j,w⟩,w,<- es];rfl
    .rw [if_neg w,if_neg (fun z=>w z.2)];have:=gA j q L;rw [if_neg (fun z=>w z.2)] at this;exact this
   .rw [if_neg z,gA j q L];have:(j < i/\L=X.key d j) ↔ (j < i+1/\L=X.key d j):=by constructor <;> (rintro ⟨u,v⟩; exact ⟨by omega,v⟩)
    by_cases w:j < i/\L=X.key d j
    .rw [if_pos w,if_pos (this.mp w)]
    .rw [if_neg w,if_neg (fun z=>w (this.mpr z))]
  .try dsimp only
   by_cases z:j=i
   .subst z;rw [if_pos rfl];refine ⟨⟨s'.see b,?_⟩,a9.told (S.b j D) au B3⟩;unfold ų;rw [if_pos rfl]
   .rw [if_neg z];exact ⟨(gS j q).1,(gS j q).2.move S q D z BO⟩
  .exact BO _ _ (gF c o e no) (no i D)
 .rintro σ2 G ⟨v,f',rfl,S,gA,gS,gF⟩;rw [wq] at gA;have gp:=gF _ _ aq h.np;have R:=gF _ _ a7 (a1.nlst a7);have al:=gF _ _ a8 (a1.nlst a8);have a2:=gF _ _ M2.o h.nm;have ai:=gF _ _ M2.l (a1.nlst M2.l);rfl';refine ⟨p,d.dp,d.ll,d.bl,d.mp,d.el,d.pl,X.nd,b,X.sg,rfl,gp,R,aF,as,fun el H4 aj aa a4 F4 L4=>?_⟩;have ak:∀ {l:Addr} {xs:List V},G l=some (.lst xs)->l≠p:=fun {l xs} e z=>by rw [z,gp] at e; cases e
  have aC:∀ j,j < d.n->¬ O j p:=h.np;have ah:=S.nlst R
  have a3:=S.frame (O2:=fun c=>c=p\/c=d.el) (fun c o e ne=>F4 c o e (fun z=>ne (.inl z)) (fun z=>ne (.inr z))) (fun j c q w z=>by
   rcases z with z | z
   .exact aC j q (z ▸ w)
   .exact ah j q (z ▸ w)) (fun j q z=>by
   have:=(S.b j q).me;rcases z with z | z
   .rw [z,gp] at this;injection this with this;injection this with _ _ e;exact absurd (congrArg List.length e) (show ¬ (6=2) by decide)
   .rw [z,R] at this
    cases this) (fun t xs e=>by
   rcases e with (e | ⟨o,e⟩) | e
   .exact .inl (.inl (F4 _ _ e (fun z=>by rw [z,gp] at e; cases e) (fun z=>by rw [z,R] at e; cases e)))
   .exact .inl (.inr ⟨o,F4 _ _ e (fun z=>by rw [z,gp] at e; cases e) (fun z=>by rw [z,R] at e; cases e)⟩)
   .exact .inr e)
  have am:d.bl≠d.el:=fun z=>by
   have e:=h.bl;rw [z,h.el] at e;injection e with e;injection e with e;have e0:=congrArg (fun l:List V=>l[0]?) e
   have r0:(refs d.bk d.n)[0]?=some (.ref (d.bk 0)):=by
    unfold refs;rw [bB,cL h.n1];rfl
   try dsimp only at e0
   rw [r0,bB] at e0
   cases hs:X.sg[0]? with
   | none=>rw [hs] at e0; cases e0
   | some c=>rw [hs] at e0; cases e0
  have ax:ml≠d.el:=(yd M.el a6).symm;have a5:=F4 _ _ al (ak al) am;have ay:=F4 _ _ a2 (Ne.symm ad) (fun z=>by rw [z,R] at a2; cases a2);have ae:=F4 _ _ ai (ak ai) ax
  have U:∀ c o,H c=some o->∃ Z,H4 c=some Z:=fun c o e=>by
   by_cases zp:c=p
   .exact ⟨_,zp ▸ aa⟩
   by_cases ze:c=d.el
   .rw [ze];exact L4
   have gc:∃ Z,G c=some Z:=by
    by_cases zm:c=d.mp
    .exact ⟨_,zm ▸ a2⟩
    by_cases zo:∀ j,j < d.n->¬ O j c
    .exact ⟨o,gF _ _ (W _ _ (S1 _ _ e) zm) zo⟩
    .have:∃ j,j < d.n/\O j c:=Classical.byContradiction fun w=>zo fun j q w'=>w ⟨j,q,w'⟩;obtain ⟨j,q,w⟩:=this;obtain ⟨Z,J,_⟩:=(S.b j q).own c w;exact ⟨Z,J⟩
   obtain ⟨Z,J⟩:=gc;exact ⟨Z,F4 _ _ J zp ze⟩
  have aE:ykx d.n d.kd f' (X.see d b).g:=fun j q L=>by
   rw [gA j q L];show _=if L=X.key d j then (X.g j L).see b else X.g j L;by_cases w:L=X.key d j
   .rw [if_pos ⟨q,w⟩,if_pos w]
   .rw [if_neg (fun z=>w z.2),if_neg w]
  rfl';refine ⟨p,d.dp,d.ll,d.bl,d.mp,el,d.pl,ndN X.nd b,sgN X.sg X.nd b,d.n,m,d.bk,d.dx,d.lk,d.dd,d.kd,d.ps,f',O,(X.see d b).g,rfl,aa,a5,a4,a3,aE,n6,by omega,h.np,fun pl sl f2 O2 H5 ap aA aG B5 aB ao az F5 L5=>?_⟩;have a0:∀ {l:Addr} {xs:List V},H4 l=some (.lst xs)->l≠p:=fun {l xs} e z=>by rw [z,aa] at e; cases e
  have n2:∀ j c,j < d.n->O2 j c->O j c\/H c=none:=fun j c q w=>by
   rcases az j c q w with v | v
   .exact .inl v
   .refine .inr ?_
    cases e:H c with
    | none=>rfl
    | some o =>
     obtain ⟨Z,J⟩:=U c o e;rw [J] at v;cases v
  refine k ml el pl sl f2 O2 H5 ?_ ⟨ap,F5 _ _ a5 (a0 a5) (a3.nlst a5),F5 _ _ a4 (a0 a4) (a3.nlst a4),⟨F5 _ _ ay (Ne.symm ad) h.nm,F5 _ _ ae (a0 ae) (a3.nlst ae)⟩,ymp h.n1 n6 h.wok h.cok,aA,B5,aB,ao,fun j q w=>?_,fun j q w=>?_,h.n1,n6⟩ n2 (fun c o e c1 c2 c3 no=>F5 _ _ (F4 _ _ (gF _ _ (W _ _ (S1 _ _ e) c2) no) c1 c3) c1 no) (fun c o e=>let ⟨Z,w⟩:=U c o e; L5 c Z w) (S1.free a6)
  .rcases aj with z | z
   .exact .inl z
   .refine .inr ?_
    cases e:H el with
    | none=>rfl
    | some o =>
     exfalso;by_cases zp:el=p
     .rw [zp,gp] at z; cases z
     by_cases zm:el=d.mp
     .rw [zm,a2] at z; cases z
     by_cases zo:∀ j,j < d.n->¬ O j el
     .rw [gF _ _ (W _ _ (S1 _ _ e) zm) zo] at z; cases z
     .have:∃ j,j < d.n/\O j el:=Classical.byContradiction fun w=>zo fun j q w'=>w ⟨j,q,w'⟩;obtain ⟨j,q,w⟩:=this;obtain ⟨Z,J,_⟩:=(S.b j q).own el w;rw [J] at z;cases z
  .rcases n2 j p q w with v | v
   .exact h.np j q v
   .rw [hp] at v; cases v
  .rcases n2 j d.mp q w with v | v
   .exact h.nm j q v
   .rw [af] at v; cases v
theorem uo {A:FA} {X:FX} {bs:List Int} {k:Nat} {b:Int} (h:bs[k]?=some b):X.run A (bs.take (k+1))=(X.run A (bs.take k)).see A b:=by
 rw [jh h,yj8]
structure FGo (p:Addr) (A:FA) (O:Nat->Addr->Prop) (H H':Hp) (el:Addr) (O':Nat->Addr->Prop):Prop where
 he:el=A.el\/H el=none
 hO:∀ j c,j < A.n->O' j c->O j c\/H c=none
 fr:∀ c o,H c=some o->c≠p->c≠A.mp->c≠A.el->(∀ j,j < A.n->¬ O j c)->H' c=some o
 live:∀ c o,H c=some o->∃ o',H' c=some o'
theorem FGo.free {A:FA} {H H':Hp} {el:Addr} (h:FGo p A O H H' el O') (hc:H' c=none):H c=none:=by
 cases e:H c with
 | none=>rfl
 | some o =>
  obtain ⟨a,w⟩:=h.live c o e;rw [hc] at w;cases w
theorem FGo.refl {A:FA} {H:Hp}:FGo p A O H H A.el O:=⟨.inl rfl,fun _ _ _ w=>.inl w,fun _ _ e _ _ _ _=>e,fun _ o e=>⟨o,e⟩⟩
theorem FGo.trans {A:FA} {O1:Nat->Addr->Prop} {H H1 H2:Hp} {ml el pl el2:Addr} {sl:Nat->Addr} (h:FGo p A O H H1 el O1) (k:FGo p (A.re ml el pl sl) O1 H1 H2 el2 O2):FGo p A O H H2 el2 O2:=by
 refine ⟨?_,fun j c a w=>?_,fun c o e d g b f=>?_,fun c o e=>?_⟩
 .rcases k.he with z | z
  .rcases h.he with y | y
   .exact .inl (z.trans y)
   .exact .inr (by rw [show el2=el from z]; exact y)
  .exact .inr (h.free z)
 .rcases k.hO j c a w with v | v
  .exact h.hO j c a v
  .exact .inr (h.free v)
 .refine k.fr c o (h.fr c o e d g b f) d g (fun z=>?_) (fun j a w=>?_)
  .rcases h.he with y | y
   .exact b (z.trans y)
   .rw [show c=el from z,y] at e;cases e
  .rcases h.hO j c a w with v | v
   .exact f j a v
   .rw [e] at v;cases v
 .obtain ⟨l,i⟩:=h.live c o e;exact k.live c l i
theorem FGo.same {A:FA} {H H1 H2:Hp} {el:Addr} (h:FGo p A O H H1 el O') (S:yy H1 H2):FGo p A O H H2 el O' :=
 ⟨h.he,h.hO,fun c o e f b a d=>S _ _ (h.fr c o e f b a d),fun c o e=>let ⟨o',w⟩:=h.live c o e; ⟨o',S _ _ w⟩⟩
theorem FGo.ahead {A:FA} {H H1 H2:Hp} {el:Addr} (S:yy H H1) (h:FGo p A O H1 H2 el O'):FGo p A O H H2 el O' :=
 ⟨h.he.imp id S.free,fun j c a w=>(h.hO j c a w).imp id S.free,fun c o e=>h.fr c o (S _ _ e),fun c o e=>h.live c o (S _ _ e)⟩
theorem FGo.kpa {A:FA} {X:FX} {f:Nat->List Int->Option Slt} {m:Nat} {H H':Hp} {el:Addr} (hf:zb K a H p A X f O m) (h:FGo p A O H H' el O'):KpA H H' A.el el:=fun c o e i k=>by
 refine ⟨?_,h.fr c o e (fun z=>by rw [z,hf.me] at e; cases e; cases i) (fun z=>by rw [z,hf.mx.o] at e; cases e; cases i) k fun j l w=>?_⟩
 .rcases h.he with z | z
  .rw [z];exact k
  .exact yd e z
 .obtain ⟨n,d,g⟩:=(hf.B.b j l).own c w;rw [e] at d;cases d;rw [i] at g;cases g
theorem yt9 {g:Nat->Addr} {n:Nat} (h:1 <= n):(refs g n)[0]?=some (.ref (g 0)):=by
 unfold refs;rw [bB,cL h];rfl
structure Ĕ (H:Hp) (t:Addr) (ts:List Int) (w:Nat):Prop where
 l:H t=some (.lst (ts.map V.int))
 s:Sgs ts
 z:ts.length <= w
theorem Ĕ.same {H H':Hp} {t:Addr} {w:Nat} (h:Ĕ H t ts w) (S:yy H H'):Ĕ H' t ts w:=⟨S _ _ h.l,h.s,h.z⟩
def ŷ (tt:Nat->List Int):Nat->List Int
 | 0=>[]
 | i+1=>ŷ tt i++dec (tt i)
def fX (n:Nat) (kd:Nat->Fin 3) (ps:Nat->List Int) (pre:List Int) (ts:List Int) (k:Nat):FX:=((FX0 n kd).run (fa0 n ps) pre).run (fa0 n ps) ((dec ts).take k)
def jw (n:Nat) (kd:Nat->Fin 3) (ps:Nat->List Int) (pre:List Int) (ts:List Int) (k:Nat):Int:=ynd (fX n kd ps pre ts k).ws ((fX n kd ps pre ts k).cs (fa0 n ps))
def v7 (ts:List Int) (k:Nat):Int:=((dec ts)[k]?).getD 0
theorem yj0 (ts:List Int) (k:Nat) (h:k < (dec ts).length):0 <= v7 ts k/\v7 ts k <= 1:=by
 unfold v7;rw [bx h];exact zi ts _ (bZ h)
def vat (H:Hp) (lx:V) (N w:Nat) (lt:Nat->Addr) (tt:Nat->List Int):Prop:=((lx=.non/\N=0)\/∃ ll,lx=.ref ll/\H ll=some (.lst (refs lt N)))/\∀ i,i < N->Ĕ H (lt i) (tt i) w
structure va8 (H:Hp) (L tx:Addr) (lx:V) (n:Nat) (lk:Nat->Addr) (kd:Nat->Fin 3) (tp:Nat->Addr) (ps:Nat->List Int) (ts:List Int) (N w:Nat) (lt:Nat->Addr) (tt:Nat->List Int):Prop where
 l:H L=some (.lst (refs lk n))
 n1:1 <= n
 n6:n <= 6
 r:xu H n lk kd tp ps
 t:Ĕ H tx ts 1000
 lr:vat H lx N w lt tt
 w1:w <= 1000
 N1:N <= 1000
 b:6+6 * (N * (9 * w+1))+6 * (9 * ts.length+1)+20 < 1000000
theorem LkG.sd {H:Hp} {v:V} {kd:Fin 3} {tp:Addr} {ps:List Int} (h:LkG H v kd tp ps):Sd K H v (dLk kd ps) 2:=⟨h.rd,ynf kd ps,yfw kd ps,yn1 kd ps⟩
theorem Sds.refs {H:Hp} {k:Nat} {g:Nat->Addr} {d:Nat->PyData}:∀ (n:Nat),(∀ i,i < n->Sd K H (.ref (g i)) (d i) k)->Sds K H (refs g n) ((List.range n).map d) k:=fun n h=>by
 unfold Law.refs
 have a:∀ l:List Nat,(∀ i∈l,i < n)->Sds K H (l.map fun i=>V.ref (g i)) (l.map d) k:=by
  intro l
  induction l with
  | nil=>exact fun _=>.nil
  | cons i r ih=>exact fun b=>.cons (h i (b i (by simp))) (ih fun j c=>b j (by simp [c]))
 exact a (List.range n) fun i e=>cD.mp e
theorem xu.sds {H:Hp} {n:Nat} {lk:Nat->Addr} {kd:Nat->Fin 3} {ps:Nat->List Int} (h:xu H n lk kd tp ps):Sds K H (refs lk n) ((List.range n).map fun i=>dLk (kd i) (ps i)) 2:=Sds.refs n fun i a=>(h i a).sd
structure XOk (n:Nat) (X:FX):Prop where
 w:WOk n X.ws
 s:∀ i k,(X.g i k).ok
theorem XOk.cs {n:Nat} {X:FX} (h:XOk n X) (ps:Nat->List Int):COk n (X.cs (fa0 n ps)):=by
 refine ⟨by unfold FX.cs; rw [bv,bW]; rfl,fun c a=>?_,fun c a=>?_⟩
 .obtain ⟨j,_,rfl⟩:=bD.mp a;exact (yem (h.s _ _)).1
 .obtain ⟨j,_,rfl⟩:=bD.mp a;exact (yem (h.s _ _)).2
theorem XOk.see {n:Nat} {X:FX} (h:XOk n X) (n1:1 <= n) (n6:n <= 6) (ps:Nat->List Int) {b:Int} (b0:0 <= b) (b1:b <= 1):XOk n (X.see (fa0 n ps) b):=by
 refine ⟨ymp n1 n6 h.w (h.cs ps),fun i k=>?_⟩;show (if k=X.key (fa0 n ps) i then (X.g i k).see b else X.g i k).ok
 split
 .exact Slt.see_ok (h.s i k) b0 b1
 .exact h.s i k
theorem XOk.run {n:Nat} (n1:1 <= n) (n6:n <= 6) (ps:Nat->List Int):∀ (bs:List Int) {X:FX},XOk n X->Ÿ bs->XOk n (X.run (fa0 n ps) bs)
 | [],_,h,_=>h
 | b :: r,_,h,hb=>XOk.run n1 n6 ps r (h.see n1 n6 ps (hb b (by simp)).1 (hb b (by simp)).2) fun c a=>hb c (by simp [a])
theorem XOk.zero {n:Nat} (n1:1 <= n) (n6:n <= 6) (kd:Nat->Fin 3):XOk n (FX0 n kd):=⟨yxa n n1 n6,fun i _=>ylk (kd i)⟩
theorem ygb {bs:List Int} (h:Ÿ bs) (k:Nat):Ÿ (bs.take k):=fun b a=>h b (cH a)
theorem yx0 {n:Nat} (n1:1 <= n) (n6:n <= 6) {kd:Nat->Fin 3} {ps:Nat->List Int} {pre:List Int} (hp:Ÿ pre) (k:Nat):XOk n (fX n kd ps pre ts k):=by
 unfold fX;exact ((XOk.zero n1 n6 kd).run n1 n6 ps pre hp).run n1 n6 ps _ (ygb (zi ts) k)
theorem Ū {n:Nat} (n1:1 <= n) (n6:n <= 6) {kd:Nat->Fin 3} {ps:Nat->List Int} {pre:List Int} (hp:Ÿ pre) (k:Nat):Ch (jw n kd ps pre ts k):=yec n1 (yx0 (kd:=kd) (ps:=ps) (ts:=ts) n1 n6 hp k).w ((yx0 (kd:=kd) (ps:=ps) (ts:=ts) n1 n6 hp k).cs ps)
theorem yum:ym ["sign"] ["sign"] (yh ypu):=wx (by right)
inductive ĸ (K:W.Frag) (vs:List V) (H:Hp) (Q:VK) (E':XK):Prop
 | mk (s:Int):(vs=[.int s])->(∀ r H',H r=none->H' r=some (.lst ((b8 s).map V.int))->yy H H'->Q (.ref r) H')->ĸ K vs H Q E'
theorem ysg (T:Txt K mg a):wa P w K mg base CX0 1 a.K1 a.K2 ["sign"] (ĸ K):=by
 exists T.Eo.F.ok,yum,u;obtain ⟨q,rfl,k⟩:=h;refine ⟨_,(yf (yu (wj (js:=[0]) (ys:=["sign"]) rfl (yel (ych rfl T.Hy)) (fun C r g t=>(yn vw (yn vd (pv 1) (pv 0)) yg)) rfl rfl (hyc:=(all_cons rfl y7)) (hrel:=(all_cons rfl y7))))),?_⟩;exists 1,0;rfl';refine ⟨a.Bi,rfl,⟨_,T.D1 H⟩,fun D d=>?_⟩;refine ĩ (wV q) (T.D1 H) d (fun i y g l e b=>?_) (fun g e b=>?_)
 .obtain ⟨c,o,rfl,n⟩:∃ c,0 < c/\y=V.int c/\c <= 128:=by
   have j:=bM l;simp only [bI,List.not_mem_nil,or_false] at j;rcases j with rfl | rfl | rfl | rfl | rfl | rfl | rfl | rfl <;> exact ⟨_,by decide,rfl,by decide⟩
  rfl';exact Mp.done d (by show 8 < sizeLine; decide) l e b rfl
 .exact k D g d b e
theorem yio:ym ["text","bits","sign"] ["text"] (yh ypt):=wx (by right)
inductive yl0 (K:W.Frag) (vs:List V) (H:Hp) (Q:VK) (E':XK):Prop
 | mk (t:Addr) (ns:List Int):(vs=[.ref t])->(H t=some (.lst (ns.map V.int)))->(Sgs ns)->(ns.length <= 1000)->(∀ r H',H r=none->H' r=some (.lst ((dec ns).map V.int))->yy H H'->Q (.ref r) H')->yl0 K vs H Q E'
theorem ywq (T:Txt K mg a):wa P w K mg base CX0 5 a.K3 a.K4 ["text"] (yl0 K):=by
 exists T.Ep.F.ok,yio,U;obtain ⟨t,f,rfl,R,Z,hz,k⟩:=h;refine ⟨_,(yi (yt (i:=1) yio.nd rfl (Or.inl rfl) (xi ye)) (yi (uw PassesOwn.never rfl (wu (v6 (yw9 T) (U.mono (by decide)) rfl T.Fm.m T.Fm.F.kp T.Fm.B .nil wd (yb (pv 0) ye (ya rfl)))) (wo (i:=2) yio.nd rfl (Or.inl rfl)) (yi (yw (ψ PySem.F.plainAttrs_list PySem.F.slot_list_append PySem.F.type_list_append wz (pv 1) (yb yg ye (ya rfl)))) (yf (yw (ψ PySem.F.plainAttrs_list PySem.F.slot_list_extend PySem.F.type_list_extend ygi (pv 1) (yb (vi (ysg T) (U.mono (by decide)) rfl T.Eo.m T.Eo.F.kp T.Eo.B .nil vh (yb (pv 2) ye (ya rfl))) ye (ya rfl))))))) (yi (yw (ψ PySem.F.plainAttrs_list PySem.F.slot_list_append PySem.F.type_list_append wz (pv 1) (yb yg ye (ya rfl)))) (yf (yu (pv 1)))))),?_⟩;exists 1,2;rfl';refine ⟨by walk_at "len",fun r hr0=>?_⟩
 with_reducible first | refine yv hr0 fun H1 S1 hr1=>?_ | refine ve hr0 fun H1 S1 hr1=>?_
 rfl';refine ⟨.ref t,_,rfl,.lst (S1 _ _ R),.inr ⟨f.map V.int,ydj (S1 _ _ R) Z hz,fun c H2 n l S=>?_⟩⟩;have D:=S1.trans S;refine ⟨c,rfl,⟨_,SqL.of l⟩,uf (K:=K) (a:=c) (xs:=f.map V.int) (fun i σ2 G=>∃ v,σ2=[some (.ref t),some (.ref r),v]/\G r=some (.lst ((Ź (f.take i)).map V.int))/\G c=some (.lst (f.map V.int))/\yy H G)
  ⟨_,rfl,S _ _ hr1,l,D⟩ (by rintro i σ2 G _ ⟨_,_,_,z,_⟩; exact SqL.of z) ?_ ?_⟩
 .rintro i y σ2 G hi ⟨v,rfl,d,p,L⟩;obtain ⟨z,rfl,a0,N,X⟩:=ur hi;have u:c≠r:=fun e=>by rw [e,hr1] at n; cases n
  have C:(List.map V.int (Ź (f.take i))).length <= 9000:=by rw [bv,ul,bT]; omega
  rfl';refine za d ?_;rfl';refine xt d (vq (by omega)) ?_;have j:yy H (upd G r (.lst (List.map V.int (Ź (f.take i))++[V.int 1]))):=fun b o e=>yk (yd e hr0) (L b o e);have x:upd G r (.lst (List.map V.int (Ź (f.take i))++[V.int 1])) c=some (.lst (f.map V.int)):=yk u p;have g:upd G r (.lst (List.map V.int (Ź (f.take i))++[V.int 1])) r=some (.lst (List.map V.int (Ź (f.take i)++[1]))):=by rw [yc,bS]; rfl
  generalize upd G r (.lst (List.map V.int (Ź (f.take i))++[V.int 1]))=G1 at j x g ⊢;rfl';refine za g ?_;rfl';refine ⟨z,rfl,fun q G2 a1 J M=>?_⟩;rfl';have O:=M _ _ g;refine ⟨r,q,_,_,rfl,rfl,O,J,z8 (by rw [bv,bv,bC,yii]; rw [bv] at C; show _+1+8 <= _; omega),?_⟩;rfl';refine ⟨_,rfl,?_,?_,fun b o e=>yk (yd e hr0) (M _ _ (j b o e))⟩
  .rw [yc,jh N,þ,yjr,cz];rfl
  .exact yk u (M _ _ x)
 .rintro σ2 G ⟨v,rfl,d,p,L⟩;rw [bv,cP] at d;rfl';refine za d ?_;rfl';refine xt d (vq (by rw [bv,ul]; omega)) ?_;rfl';refine k r _ hr0 ?_ fun b o e=>yk (yd e hr0) (L b o e);rw [yc,yi3,bS];rfl
theorem yie:ym ["number","size","places"] ["number","size"] (yh yqd):=wx (by right)
inductive Ĵ  (vs:List V) (H:Hp) (Q:VK) (E':XK):Prop
 | mk (n:Int) (k:Nat):(vs=[.int n,.int k])->(k <= 100000)->(∀ t H',H t=none->H' t=some (.lst ((wr k n).map V.int))->yy H H'->Q (.ref t) H')->Ĵ vs H Q E'
theorem ywu (T:Txt K mg a):wa P w K mg base CX0 1 a.K5 a.K6 ["number","size"] Ĵ:=by
 exists T.Er.F.ok,yie,G;obtain ⟨n,d,rfl,B,k⟩:=h;refine ⟨_,(yi (yt (i:=2) yie.nd rfl (Or.inl rfl) (xi ye)) (yi (zk PassesOwn.never (yx ybf (yr yz rfl T.Ae (by right) (yb (pv 2) ye (ya rfl))) (pv 1) (y8 _)) (yi (yw (ψ PySem.F.plainAttrs_list PySem.F.slot_list_append PySem.F.type_list_append wz (pv 2) (yb (yn vw (pv 0) yg) ye (ya rfl)))) (yf (yt (i:=0) yie.nd rfl (Or.inl rfl) (yn vd (pv 0) yg))))) (yi (yw (đ PySem.F.plainAttrs_list PySem.F.slot_list_reverse PySem.F.type_list_reverse Ê (pv 2))) (yf (yu (pv 2)))))),?_⟩;exists 2,1;rfl';refine ⟨by walk_at "len",fun t j=>?_⟩;rfl';refine ⟨fun m σ' u=>∃ (f:Int) (c:List Int),σ'=[some (.int f),some (.int d),some (.ref t)]/\u t=some (.lst (c.map V.int))/\yy H u/\c++lo (d - c.length) f=lo d n/\c.length <= d/\m=d - c.length,⟨_,n,[],rfl,yc,vj j,rfl,bR _,rfl⟩,?_⟩;rintro m σ2 D ⟨f,c,rfl,g,r,l,C,rfl⟩;rfl';refine zn (SqL.of g) ?_;rw [bv];rfl';refine uz (fun z=>?_) (fun z=>?_)
 .refine ya9 ?_;rfl';refine za g ?_;rfl';refine xt g (by rw [bv]; exact vq (by omega)) ?_;rfl';refine ⟨_,?_,f / 256,c++[f % 256],rfl,(yc.trans (by rw [yjf])),fun b o e=>?_,?_,?_,rfl⟩
  .rw [bC];show d - (c.length+1) < d - c.length;omega
  .rw [yq (yd e j)];exact r b o e
  .have p:d - c.length=d - (c++[f % 256]).length+1:=by
    rw [bC];show d - c.length=d - (c.length+1)+1;omega
   rw [p] at l;rw [<- l,cz];rfl
  .rw [bC];show c.length+1 <= d;omega
 .rfl';have p:d - c.length=0:=by omega
  rw [p] at l;have x:c=lo d n:=by rw [<- l]; simp [lo]
  refine za g ?_;refine ć g ?_;rfl';refine k t _ j ?_ fun b o e=>?_
  .rw [yc,yn0,x];rfl
  .rw [yq (yd e j)];exact r b o e
theorem ywf:ym ["low","unit"] ["low","unit"] (yh yq2):=wx (by right)
inductive jr  (vs:List V) (H:Hp) (Q:VK) (E':XK):Prop
 | mk (l e:Int):(vs=[.int l,.int e])->(0 < e)->(e < 2 ^ 63)->(Q (.int (blk l e)) H)->jr vs H Q E'
theorem ylt (T:Txt K mg a):wa P w K mg base CX0 1 a.K7 a.K8 ["low","unit"] jr:=by
 exists T.Cq.F.ok,ywf,f;obtain ⟨l,e,rfl,g,i,k⟩:=h;refine ⟨_,(yf (yu (yn vd (yn uc (yn vv (pv 0) (pv 1)) yg) (pv 1)))),?_⟩;exists 2,0;rfl';exact k
theorem yso:ym ["self"] ["self"] (yh yq9):=wx (by right)
inductive yhp (C:Addr) (vs:List V) (H:Hp) (Q:VK) (E':XK):Prop
 | mk (p dx:Addr):(vs=[.ref p])->(H p=some (.ins C dx []))->(∀ H',H' p=some (.ins C dx (zy s0))->But p H H'->Q .non H')->yhp C vs H Q E'
theorem yil (T:Txt K mg a):wa P w K mg base CX0 1 a.Gg a.K9 ["self"] (yhp a.A3):=by
 exists T.D8.F.ok,yso,j;obtain ⟨p,c,rfl,i,k⟩:=h;refine ⟨_,(yi (vk (pv 0) yg rfl) (yi (vk (pv 0) (vt rfl T.E5) rfl) (yf (vk (pv 0) (vt rfl T.Ft) rfl)))),?_⟩;exists 1,0;rfl';refine ⟨p,_,c,_,rfl,i,T.Ad,T.Bk,by show 0 < 1000; decide,?_⟩;rfl';refine ⟨p,_,c,_,rfl,yc,T.Ad,T.As,by show 1 < 1000; decide,?_⟩;rfl';refine ⟨p,_,c,_,rfl,yc,T.Ad,T.B8,by show 2 < 1000; decide,?_⟩
 have e:jn "size" (.int 5) (jn "width" (.int 1099511627776) (jn "low" (.int 0) []))=zy s0:=by
  rw [wt,vx nLW wt,vx nLS (vx nWS wt)];rfl
 refine k _ (yc.trans (congrArg (fun l=>some (HO.ins a.A3 c l)) e)) fun b o h n=>?_;rw [yq n,yq n,yq n];exact h
theorem yv7:ym ["self","chance"] ["self","chance"] (yh yqr):=wx (by right)
inductive yk2 (C:Addr) (vs:List V) (H:Hp) (Q:VK) (E':XK):Prop
 | mk (p dx:Addr) (x:Sn) (c:Int):(vs=[.ref p,.int c])->(H p=some (.ins C dx (zy x)))->(Ch c)->(Q (.int (cut x.2.1 c)) H)->yk2 C vs H Q E'
theorem yli (T:Txt K mg a):wa P w K mg base CX0 1 a.Ka a.Kb ["self","chance"] (yk2 a.A3):=by
 exists T.Dk.F.ok,yv7,i;obtain ⟨p,e,x,c,rfl,j,⟨g,l⟩,k⟩:=h;refine ⟨_,(yf (yu (yn vd (yn wl (yp (pv 0) rfl) (pv 1)) (vt rfl T.Cy)))),?_⟩;exists 2,0;rfl';exact k
theorem yl6:ym ["self","chance","bit","cut"] ["self","chance","bit"] (yh yrm):=wx (by right)
inductive yay (K:W.Frag) (C Nc Nb:Addr) (vs:List V) (H:Hp) (Q:VK) (E:XK):Prop
 | mk (p dx:Addr) (x:Sn) (vc vb:V) (n m:String):(vs=[.ref p,vc,vb])->(H p=some (.ins C dx (zy x)))->(Ok x)->(x4 K H vc (.type n))->(x4 K H vb (.type m))->((chV vc=false->E (.ref Nc) none H))->((chV vc=true->Ù vb=false->E (.ref Nb) none H))->(∀ c b:Int,vc=.int c->vb=.int b->Ch c->0 <= b->b <= 1->∀ H',H' p=some (.ins C dx (zy (nar x c b)))->But p H H'->Q .non H')->yay K C Nc Nb vs H Q E
theorem yic (T:Txt K mg a):wa P w K mg base (CXe P w) 4 a.Kc a.Kd ["self","chance","bit"] (yay K a.A3 a.De a.Bx):=by
 exists T.Cr.F.okE,yl6,t;obtain ⟨p,g,x,C,I,n,m,rfl,J,G,tc,X,k1,k2,k⟩:=h;refine ⟨_,(yi (yw (v6 (yre T) (t.mono (by decide)) rfl T.Dc.m T.Dc.F.kp T.Dc.B .nil vg (yb (pv 1) ye (ya rfl)))) (yi (yw (v6 (Ď T) (t.mono (by decide)) rfl T.Ak.m T.Ak.F.kp T.Ak.B .nil vg (yb (pv 2) ye (ya rfl)))) (yi (yt (i:=3) yl6.nd rfl (Or.inl rfl) (xh (pv 0) T.Ad T.Dk.m (yli T) (t.mono (by decide)) T.Dk.B .nil vh (yb (pv 1) ye (ya rfl)))) (yi (ud (wb (yx x3 (pv 2) yg (y8 _)) (yf (vk (pv 0) (pv 3) rfl)) (yi (vk (pv 0) (yn vv (yp (pv 0) rfl) (pv 3)) rfl) (yf (vk (pv 0) (yn uc (yp (pv 0) rfl) (pv 3)) rfl))))) (yf (PS.nox (zk PassesOwn.never (yx ybf (yp (pv 0) rfl) (vt rfl T.E6) (y8 _)) (yi (vk (pv 0) (yn wl (yp (pv 0) rfl) yg) rfl) (yi (vk (pv 0) (yn wl (yp (pv 0) rfl) yg) rfl) (yf (vk (pv 0) (yn vv (yp (pv 0) rfl) yg) rfl))))))))))),?_⟩;exists 3,1;have q:=G.w0;have j:=G.w1;rfl';refine ⟨C,n,rfl,tc,fun f=>?_,k1⟩;rfl';refine ⟨I,m,rfl,X,fun o=>?_,k2 f⟩;obtain ⟨c,rfl,c1,c2⟩:=ycc f;obtain ⟨b,rfl,U,R⟩:=ydw o;have v:Ch c:=⟨c1,c2⟩;have k:=k c b rfl rfl v U R;rfl';refine ⟨p,g,_,rfl,J,lkN _ (by right) (by right) (by right),?_⟩;rfl';refine ⟨p,g,x,c,rfl,J,v,?_⟩;rfl';obtain ⟨Y,W,M⟩:=ya8 q j v;refine yi1 (fun σ' e=>∃ y:Sn,σ'=[some (.ref p),some (.int c),some (.int b),some (.int (cut x.2.1 c))]/\e p=some (.ins a.A3 g (zy y))/\8388608 <= y.2.1/\y.2.1 <= 1099511627776/\ren y.1 y.2.1 y.2.2=nar x c b/\But p H e) ?_ ?_
 .rfl';refine uz (fun d=>?_) (fun d=>?_)
  .rfl';refine ⟨_,rfl,yc,Y,Int.le_of_lt M,?_,But.upd⟩;unfold nar
   (rw [if_pos d]) <;> rfl
  .rfl';refine ⟨_,rfl,yc,W,?_,?_,But.upd.trans But.upd⟩
   .show x.2.1 - cut x.2.1 c <= _;omega
   .unfold nar
    (rw [if_neg d]) <;> rfl
 .rintro σ' e ⟨y,rfl,u,S,Z,y3,y4⟩;refine ⟨fun m σ' e=>∃ y:Sn,σ'=[some (.ref p),some (.int c),some (.int b),some (.int (cut x.2.1 c))]/\e p=some (.ins a.A3 g (zy y))/\8388608 <= y.2.1/\y.2.1 <= 1099511627776/\ren y.1 y.2.1 y.2.2=nar x c b/\But p H e/\m=(4294967296 - y.2.1).toNat,⟨_,y,rfl,u,S,Z,y3,y4,rfl⟩,?_⟩;rintro m σ2 H2 ⟨z,rfl,hz,O,z2,r,D,rfl⟩;rfl';refine uz (fun d=>?_) (fun d=>?_)
  .refine ya9 ?_;rfl';refine ⟨_,?_,(z.1 * 256,z.2.1 * 256,z.2.2+1),rfl,yc,?_,?_,(yjj d O).trans r,((D.trans But.upd).trans But.upd).trans But.upd,rfl⟩
   .show (4294967296 - z.2.1 * 256).toNat < (4294967296 - z.2.1).toNat;omega
   .show 8388608 <= z.2.1 * 256;omega
   .show z.2.1 * 256 <= 1099511627776;omega
  .rw [yo6 d] at r;refine k _ ?_ D;rw [<- r];exact hz
theorem ywb:ym ["self","unit"] ["self","unit"] (yh ypm):=wx (by right)
inductive yds (C:Addr) (vs:List V) (H:Hp) (Q:VK) (E':XK):Prop
 | mk (p dx:Addr) (x:Sn) (j:Nat):(vs=[.ref p,.int (pw j)])->(H p=some (.ins C dx (zy x)))->(j <= 6)->(Q (.bl (decide (yfk x.1 x.2.1 j))) H)->yds C vs H Q E'
theorem yst (T:Txt K mg a):wa P w K mg base CX0 2 a.Ke a.Kg ["self","unit"] (yds a.A3):=by
 exists T.Hb.F.ok,ywb,i;obtain ⟨p,e,x,j,rfl,n,g,k⟩:=h;refine ⟨_,(yf (yu (x6 zq (yn wl (yn vv (vi (ylt T) (i.mono (by decide)) rfl T.Cq.m T.Cq.F.kp T.Cq.B .nil vh (yb (yp (pv 0) rfl) (yb (pv 1) ye (ya rfl)) (ya rfl))) yg) (pv 1)) (yn vv (yp (pv 0) rfl) (yp (pv 0) rfl)) (y8 _)))),?_⟩;exists 2,0;have l:=yc9 g;have d:=uv j;rfl';refine ⟨_,_,rfl,d,by omega,?_⟩;rfl';exact k
theorem ya5:ym ["self","unit","size"] ["self"] (yh yp1):=wx (by right)
inductive yhm (C:Addr) (vs:List V) (H:Hp) (Q:VK) (E':XK):Prop
 | mk (p dx:Addr) (x:Sn):(vs=[.ref p])->(H p=some (.ins C dx (zy x)))->(OkS x)->(sz x <= 100000)->(∀ t H',H t=none->H' t=some (.lst ((tL x).map V.int))->yy H H'->Q (.ref t) H')->yhm C vs H Q E'
theorem yih (T:Txt K mg a):wa P w K mg base CX0 3 a.Kh a.Ki ["self"] (yhm a.A3):=by
 exists T.Cs.F.ok,ya5,f;obtain ⟨p,l,x,rfl,n,d,G,k⟩:=h;refine ⟨_,(yi (yt (i:=1) ya5.nd rfl (Or.inl rfl) yg) (yi (yt (i:=2) ya5.nd rfl (Or.inl rfl) (yp (pv 0) rfl)) (yi (zk PassesOwn.never (xj (xh (pv 0) T.Ad T.Hb.m (yst T) (f.mono (by decide)) T.Hb.B .nil vh (yb (yn wl (pv 1) yg) ye (ya rfl)))) (yi (yt (i:=1) ya5.nd rfl (Or.inl rfl) (yn wl (pv 1) yg)) (yf (yt (i:=2) ya5.nd rfl (Or.inl rfl) (yn uc (pv 2) yg))))) (yf (yu (vi (ywu T) (f.mono (by decide)) rfl T.Er.m T.Er.F.kp T.Er.B .nil vh (yb (vi (ylt T) (f.mono (by decide)) rfl T.Cq.m T.Cq.F.kp T.Cq.B .nil vh (yb (yp (pv 0) rfl) (yb (pv 1) ye (ya rfl)) (ya rfl))) (yb (pv 2) ye (ya rfl)) (ya rfl)))))))),?_⟩;exists 1,2;rfl';refine ⟨fun m σ' v=>v=H/\∃ j:Nat,σ'=[some (.ref p),some (.int (pw j)),some (.int (x.2.2 - j))]/\j <= 5/\tel x.1 x.2.1 (5 - j) j=tK x/\m=6 - j,⟨_,rfl,0,by simp [pw],by decide,rfl,rfl⟩,?_⟩;rintro m σ2 C ⟨rfl,j,rfl,D,o,rfl⟩;have I:=yc9 (show j <= 6 by omega);have t:=uv j;rfl';refine ⟨p,l,_,rfl,n,lkN _ (by right) (by right) (by right),?_⟩;rfl';refine ⟨p,l,x,j+1,rfl,n,by omega,?_⟩;rfl';refine uz (fun b=>?_) (fun b=>?_)
 .refine ya9 ?_;rfl';have u:=ylf d.ok.w1 b;refine ⟨_,?_,rfl,j+1,?_,u,?_,rfl⟩
  .show 6 - (j+1) < 6 - j;omega
  .have e:x.2.2 - (j:Int) - 1=x.2.2 - ((j+1:Nat):Int):=by omega
   rw [e];rfl
  .rw [ykg b,<- o]
   congr 1
   omega
 .have g:j=tK x:=by rw [<- o,ynq b]
  subst g;rfl';refine ⟨_,_,rfl,t,by omega,?_⟩;rfl';have y:=d.sz;have z:=(yp0 d).2;have e:x.2.2 - (tK x:Int)=((sz x - tK x:Nat):Int):=by omega
  rw [e];exact ⟨_,_,rfl,by omega,k⟩
theorem ysd:ym ["self","place"] ["self","place"] (yh yqq):=wx (by right)
inductive ķ (C:Addr) (vs:List V) (H:Hp) (Q:VK) (E':XK):Prop
 | mk (p dx pd:Addr) (v1 v2 v3:V) (d:List Int) (k:Nat):(vs=[.ref p,.int k])->(H p=some (.ins C dx (yi4 (.ref pd) v1 v2 v3)))->(H pd=some (.lst (d.map V.int)))->(Q (.int ((d[k]?).getD 0)) H)->ķ C vs H Q E'
theorem yvj (T:Txt K mg a):wa P w K mg base CX0 1 a.Km a.Kn ["self","place"] (ķ a.Ac):=by
 exists T.Hc.F.ok,ysd,r;obtain ⟨p,m,l,i,q,j,d,f,rfl,t,e,k⟩:=h;refine ⟨_,(yf (yu (μ (yx ybf (pv 1) (yr yz rfl T.Ae (by right) (yb (yp (pv 0) rfl) ye (ya rfl))) (y8 _)) (ua xc (yp (pv 0) rfl) (pv 1) (fun _ _=>rfl)) yg))),?_⟩;exists 2,0;rfl';refine zn (SqL.of e) ?_;rw [bv];rfl';refine uz (fun o=>?_) (fun o=>?_)
 .have c:f < d.length:=by omega
  rw [bx c] at k;rfl';exact zw (SqL.of e) (xb (by rw [bB,bx c]; rfl)) k
 .rw [cn (by omega)] at k;rfl';exact k
theorem yvb:ym ["self"] ["self"] (yh yrb):=wx (by right)
inductive yaw (C D:Addr) (vs:List V) (H:Hp) (Q:VK) (E':XK):Prop
 | mk (p dx pd ps ds:Addr) (d:List Int) (x:Sn) (r:Nat):(vs=[.ref p])->(H p=some (.ins C dx (yi4 (.ref pd) (.ref ps) (.int (rn d r)) (.int r))))->(H pd=some (.lst (d.map V.int)))->(H ps=some (.ins D ds (zy x)))->(p≠ps)->(OkS x)->(r <= sz x)->(∀ H',H' p=some (.ins C dx (yi4 (.ref pd) (.ref ps) (.int (rn d (sz x))) (.int x.2.2)))->But p H H'->Q .non H')->yaw C D vs H Q E'
theorem yle (T:Txt K mg a):wa P w K mg base CX0 2 a.Kk a.Kl ["self"] (yaw a.Ac a.A3):=by
 exists T.Dl.F.ok,yvb,J;obtain ⟨p,n,f,j,o,d,x,r,rfl,t,u,z,i,D,e,k⟩:=h;refine ⟨_,(yf (zk PassesOwn.never (yx ybf (yp (pv 0) rfl) (yp (yp (pv 0) rfl) rfl) (y8 _)) (yi (vk (pv 0) (yn vv (yn wl (yp (pv 0) rfl) yg) (xh (pv 0) T.Bl T.Hc.m (yvj T) (J.mono (by decide)) T.Hc.B .nil vh (yb (yp (pv 0) rfl) ye (ya rfl)))) rfl) (yf (vk (pv 0) (yn vv (yp (pv 0) rfl) yg) rfl))))),?_⟩;exists 1,0;have L:=D.sz;refine ⟨fun m σ' q=>∃ r:Nat,σ'=[some (.ref p)]/\q p=some (.ins a.Ac n (yi4 (.ref f) (.ref j) (.int (rn d r)) (.int r)))/\r <= sz x/\But p H q/\m=sz x - r,⟨_,r,rfl,t,e,But.refl,rfl⟩,?_⟩;rintro m σ2 I ⟨r,rfl,b,N,c,rfl⟩;have C:I j=some (.ins a.A3 o (zy x)):=c _ _ z i.symm;have l:=c.lst t u;rfl';refine uz (fun G=>?_) (fun G=>?_)
 .refine ya9 ?_;rfl';refine ⟨p,n,f,_,_,_,d,r,rfl,b,l,?_⟩;rfl';refine ⟨_,?_,r+1,rfl,?_,by omega,(c.trans But.upd).trans But.upd,rfl⟩
  .omega
  .rw [yc];rfl
 .have M:r=sz x:=by omega
  subst M;rfl';refine k _ ?_ c;rw [<- L];exact b
theorem yug:ym ["self","data"] ["self","data"] (yh yp2):=wx (by right)
inductive ya4 (K:W.Frag) (a:Ads) (vs:List V) (H:Hp) (Q:VK) (E:XK):Prop
 | mk (p dx:Addr) (v:V) (n:String):(vs=[.ref p,v])->(H p=some (.ins a.Ac dx []))->(x4 K H v (.type n))->(((Bad K H v n 12000/\∀ H',yy H H'->E (.ref a.Fh) none H')\/∃ d:List Int,yx9 K H v (d.map V.int) 12000/\∀ pd ps ds H',H pd=none->H ps=none->yfm a H' p dx pd ps ds d s0->But p H H'->Q .non H'))->ya4 K a vs H Q E
theorem yve (T:Txt K mg a):wa P w K mg base (CXe P w) 5 a.Gh a.Kj ["self","data"] (ya4 K a):=by
 exists T.Es.F.okE,yug,M;obtain ⟨p,r,v,n,rfl,W,ty,h⟩:=h;refine ⟨_,(yi (vk (pv 0) (v6 (yzf T) (M.mono (by decide)) rfl T.N6.m T.N6.F.kp T.N6.B .nil vg (yb (pv 1) ye (ya rfl))) rfl) (yi (vk (pv 0) (jm T.I2 (yil T) (M.mono (by decide)) rfl T.I1 T.D8.B .nil vh) rfl) (yi (vk (pv 0) yg rfl) (yi (vk (pv 0) yg rfl) (yf (yw (wc (pv 0) T.Bl T.Dl.m (yle T) (M.mono (by decide)) T.Dl.B .nil vh))))))),?_⟩;exists 2,0;rfl';refine ⟨v,n,rfl,ty,?_⟩;rcases h with ⟨hb,k⟩ | ⟨d,hg,k⟩
 .exact .inl ⟨hb,k⟩
 .refine .inr ⟨d.map V.int,hg,fun g C l O U=>?_⟩;have a0:=U _ _ W;have f:g≠p:=fun z=>by rw [z,W] at l; cases l
  rfl';have L:But p H (upd C p (.ins a.Ac r ([("data",V.ref g)]:List (Str × V)))):=(But.of U).trans But.upd;have j:upd C p (.ins a.Ac r ([("data",V.ref g)]:List (Str × V))) p=some (.ins a.Ac r ([("data",V.ref g)]:List (Str × V))):=yc;have x:upd C p (.ins a.Ac r ([("data",V.ref g)]:List (Str × V))) g=some (.lst (d.map V.int)):=yk f O;generalize upd C p (.ins a.Ac r ([("data",V.ref g)]:List (Str × V)))=H2 at L j x ⊢;intro t G i nds ne;refine ⟨t,G,rfl,yc,fun R y B3=>⟨rfl,?_⟩⟩;have N:yy H2 R:=fun b o e=>B3 b o (by rw [yq (yd e i),yq (yd e nds)]; exact e) (yd e i);have Z:=N _ _ j;have u:=N _ _ x;have c:p≠t:=yd j i
  have D:H t=none:=by
   cases e:H t with
   | none=>rfl
   | some o=>exact absurd (L _ _ e c.symm) (by rw [i]; exact fun z=>nomatch z)
  rfl';refine ⟨p,r,g,t,G,d,s0,0,rfl,yc,?_,?_,c,vak,bR _,fun S I B4=>?_⟩
  .exact yk f (yk f (yk f u))
  .exact yk c.symm (yk c.symm (yk c.symm y))
  .rfl';have q:But p R S:=((But.upd.trans But.upd).trans But.upd).trans B4;exact k g t G S l D ⟨I,q _ _ u f,q _ _ y c.symm,c⟩ ((L.trans (But.of N)).trans q)
theorem ymx:ym ["self","chance","bit"] ["self","chance"] (yh yro):=wx (by right)
inductive yc3 (K:W.Frag) (a:Ads) (vs:List V) (H:Hp) (Q:VK) (E:XK):Prop
 | mk (p dx pd ps ds:Addr) (d:List Int) (x:Sn) (v:V) (n:String):(vs=[.ref p,v])->(yfm a H p dx pd ps ds d x)->(OkS x)->(x4 K H v (.type n))->((chV v=false->E (.ref a.De) none H))->(∀ c:Int,v=.int c->Ch c->∀ H',yfm a H' p dx pd ps ds d (nar x c (Û d x c))->yi7 p ps H H'->Q (.int (Û d x c)) H')->yc3 K a vs H Q E
theorem yte {x:Sn} {c b:Int} (h:Ok x) (hc:Ch c):sz x <= sz (nar x c b):=by
 obtain ⟨r,e⟩:=yxr (if b=1 then x.1 else x.1+cut x.2.1 c) (if b=1 then cut x.2.1 c else x.2.1 - cut x.2.1 c) x.2.2
 have a:nar x c b=ren (if b=1 then x.1 else x.1+cut x.2.1 c) (if b=1 then cut x.2.1 c else x.2.1 - cut x.2.1 c) x.2.2:=by
  unfold nar
  split <;> rfl
 rw [a,e];unfold sz;dsimp only;omega
theorem ywo (T:Txt K mg a):wa P w K mg base (CXe P w) 5 a.Ko a.Kp ["self","chance"] (yc3 K a):=by
 exists T.Hd.F.okE,ymx,C;obtain ⟨p,O,J,l,q,d,x,v,n,rfl,j,u,ty,k1,k⟩:=h;refine ⟨_,(yi (yw (v6 (yre T) (C.mono (by decide)) rfl T.Dc.m T.Dc.F.kp T.Dc.B .nil vg (yb (pv 1) ye (ya rfl)))) (yi (ud (yt (i:=2) ymx.nd rfl (Or.inl rfl) (μ (yx ybf (yp (pv 0) rfl) (yn vv (yp (yp (pv 0) rfl) rfl) (xh (yp (pv 0) rfl) T.Ad T.Dk.m (yli T) (C.mono (by decide)) T.Dk.B .nil vh (yb (pv 1) ye (ya rfl)))) (y8 _)) yg yg))) (yi (yw (vz (yp (pv 0) rfl) T.Ad T.Cr.m (yic T) (C.mono (by decide)) T.Cr.B .nil vg (yb (pv 1) (yb (pv 2) ye (ya rfl)) (ya rfl)))) (yi (yw (wc (pv 0) T.Bl T.Dl.m (yle T) (C.mono (by decide)) T.Dl.B .nil vh)) (yf (yu (pv 2))))))),?_⟩;exists 2,1;rfl';refine ⟨v,n,rfl,ty,fun hv=>?_,k1⟩;obtain ⟨c,rfl,Y,c2⟩:=ycc hv;have t:Ch c:=⟨Y,c2⟩;have k:=k c rfl t;have L:=j.me;have e:=j.sp;rfl';refine yi1 (fun σ' R=>σ'=[some (.ref p),some (.int c),some (.int (Û d x c))]/\H=R) ?_ ?_
 .rfl';refine ⟨l,q,_,rfl,e,lkN _ (by right) (by right) (by right),?_⟩;rfl';refine ⟨l,q,x,c,rfl,e,t,?_⟩;rfl';unfold Û;refine uz (fun y=>?_) (fun y=>?_)
  .rw [if_pos y];rfl';exact ⟨rfl,rfl⟩
  .rw [if_neg y];rfl';exact ⟨rfl,rfl⟩
 .rintro σ' R ⟨rfl,rfl⟩;have G:=Ŝ d x c;generalize y:Û d x c=b at G k ⊢;rfl';refine ⟨l,q,_,rfl,e,lkN _ (by right) (by right) (by right),?_⟩;rfl';refine ⟨l,q,x,.int c,.int b,_,_,rfl,e,u.ok,.int c,.int b,(fun z=>by rw [ya6 t] at z; cases z),(fun _ z=>by rw [Ű (by omega) (by omega)] at z; cases z),fun c' b' U X _ _ _ H1 r D=>?_⟩;obtain rfl:c=c':=V.int.inj U;obtain rfl:b=b':=V.int.inj X;have g:=D _ _ L j.ne;have f:=D.lst e j.dt;rfl';have o:H1 p=some (.ins a.Ac O (yi4 (.ref J) (.ref l) (.int (rn d (sz x))) (.int ((sz x:Nat):Int)))):=by rw [u.sz]; exact g
  refine ⟨p,O,J,l,q,d,nar x c b,sz x,rfl,o,f,r,j.ne,ycd u t,yte u.ok t,fun Z I N=>?_⟩;rfl';exact k Z ⟨I,N.lst g f,N _ _ r j.ne.symm,j.ne⟩ (D.two'.trans N.two)
theorem ytc:ym ["self"] ["self"] (yh yra):=wx (by right)
inductive yag (a:Ads) (vs:List V) (H:Hp) (Q:VK) (E':XK):Prop
 | mk (p dx pd ps ds:Addr) (d:List Int) (x:Sn):(vs=[.ref p])->(yfm a H p dx pd ps ds d x)->(OkS x)->(sz x <= tMx)->(∀ t H',H t=none->H' t=some (.lst ((tL x).map V.int))->yy H H'->Q (.ref t) H')->yag a vs H Q E'
theorem ywy (T:Txt K mg a):wa P w K mg base CX0 4 a.Kq a.Kr ["self"] (yag a):=by
 exists T.He.F.ok,ytc,r;obtain ⟨p,n,l,f,c,d,x,rfl,g,t,i,k⟩:=h;have o:=g.me;have b:=g.sp;refine ⟨_,(yf (yu (wc (yp (pv 0) rfl) T.Ad T.Cs.m (yih T) (r.mono (by decide)) T.Cs.B .nil vh))),?_⟩;exists 1,0;rfl';refine ⟨f,c,_,rfl,b,lkN _ (by right) (by right) (by right),?_⟩;rfl';exact ⟨f,c,x,rfl,b,t,i,k⟩
def snK (mx bt:Nat->Int):Nat->Sn
 | 0=>s0
 | k+1=>nar (snK mx bt k) (mx k) (bt k)
theorem je {mx:Nat->Int}:∀ m,(∀ j,j < m->Ch (mx j))->OkS (snK mx bt m)/\(snK mx bt m).2.2 <= 5+2 * (m:Int)
 | 0,_=>⟨vak,by show (5:Int) <= 5+2 * ((0:Nat):Int); decide⟩
 | m+1,h=>by
  obtain ⟨a,d⟩:=je m fun j e=>h j (by omega);refine ⟨ycd a (h m (by omega)),?_⟩;have:=yw5 (c:=mx m) (b:=bt m) a.ok;show (nar (snK mx bt m) (mx m) (bt m)).2.2 <= _;omega
theorem ü {mx my bu:Nat->Int}:∀ m,(∀ j,j < m->mx j=my j/\bt j=bu j)->snK mx bt m=snK my bu m
 | 0,_=>rfl
 | m+1,h=>by
  show nar (snK mx bt m) (mx m) (bt m)=nar (snK my bu m) (my m) (bu m);rw [ü m fun j a=>h j (by omega),(h m (by omega)).1,(h m (by omega)).2]
theorem FGo.but {A:FA} {H H1 H2:Hp} {el:Addr} {o':HO} (h:FGo p A O H H1 el O') (hq:H q=none) (B:But q H1 H2) (hq2:H2 q=some o'):FGo p A O H H2 el O' :=
 ⟨h.he,h.hO,fun c o e f b a d=>B _ _ (h.fr c o e f b a d) (yd e hq),fun c o e=>let ⟨o1,w⟩:=h.live c o e; ⟨o1,B _ _ w (yd e hq)⟩⟩
theorem zb.but {H H':Hp} {C:Addr} {A:FA} {X:FX} {f:Nat->List Int->Option Slt} {m:Nat} {fs:List (Str × V)} (h:zb K a H p A X f O m) (hq:H q=some (.ins C dq fs)) (hl:fs.length=3) (nO:∀ i,i < A.n->¬ O i q) (B:But q H H'):zb K a H' p A X f O m:=by
 refine h.frame (O2:=fun c=>c=q) (fun c o e j=>B c o e j) (fun z=>x9 h.me hq (by rw [hl]; show ¬ (6=3); decide) z) (fun z=>x9 h.mx.o hq (by rw [hl]; show ¬ (1=3); decide) z) (fun i d z=>x9 (h.B.b i d).me hq (by rw [hl]; show ¬ (2=3); decide) z) (fun i c d w z=>nO i d (z ▸ w)) (fun l g _ e=>B.lst hq e) (fun t g e=>?_);rcases e with (e | ⟨o,e⟩) | e
 .exact .inl (.inl (B _ _ e (fun z=>by rw [z,hq] at e; cases e)))
 .exact .inl (.inr ⟨o,B _ _ e (fun z=>by rw [z,hq] at e; cases e)⟩)
 .exact .inr e
theorem yk8 (A:FA) (ml el pl:Addr) (sl:Nat->Addr):∀ (bs:List Int) (X:FX),X.run (A.re ml el pl sl) bs=X.run A bs
 | [],_=>rfl
 | b :: r,X=>yk8 A ml el pl sl r (X.see A b)
def ĕ (A:FA) (X:FX) (ts:List Int) (k:Nat):Int:=ynd (X.run A ((dec ts).take k)).ws ((X.run A ((dec ts).take k)).cs A)
theorem yh5:ym ["foreteller","text","span","bit"] ["foreteller","text"] (yh yrn):=wx (by right)
inductive ş (K:W.Frag) (a:Ads) (vs:List V) (H:Hp) (Q:VK) (E':XK):Prop
 | mk (p:Addr) (A:FA) (X:FX) (f:Nat->List Int->Option Slt) (O:Nat->Addr->Prop) (m:Nat) (tx:Addr) (ts:List Int):(vs=[.ref p,.ref tx])->(zb K a H p A X f O m)->(X.sg=[])->(X.nd=0)->(Ĕ H tx ts 1000)->(tx≠A.el)->(m+6 * (dec ts).length+20 < 1000000)->(∀ (r ml el pl:Addr) (sl:Nat->Addr) (f':Nat->List Int->Option Slt) (O':Nat->Addr->Prop) (m':Nat) (H':Hp),H r=none->H' r=some (.lst ((tL (snK (ĕ A X ts) (v7 ts) (dec ts).length)).map V.int))->zb K a H' p (A.re ml el pl sl) (X.run A (dec ts)) f' O' m'->m' <= m+6 * (dec ts).length->FGo p A O H H' el O'->Q (.ref r) H')->ş K a vs H Q E'
theorem ytu (T:Txt K mg a):wa P w K mg base CX0 7 a.Ks a.Kt ["foreteller","text"] (ş K a):=by
 exists T.Et.F.ok,yh5,hr;obtain ⟨p,d,X,f,O,m,tx,c,rfl,hF,az,an,Y,aC,hm,k⟩:=h;have aB:=ub c;have hz:=Y.z;have Z:=Y.s;refine yj (yt (i:=2) yh5.nd rfl (Or.inl rfl) (jm T.I2 (yil T) (hr.mono (by decide)) rfl T.I1 T.D8.B .nil vh)) ?_;refine yj (uw PassesOwn.never rfl (wu (vi (ywq T) (hr.mono (by decide)) rfl T.Ep.m T.Ep.F.kp T.Ep.B .nil vh (yb (pv 1) ye (ya rfl)))) (wo (i:=3) yh5.nd rfl (Or.inl rfl)) (yi (yw (vz (pv 2) T.Ad T.Cr.m (yic T) (hr.mono (by decide)) T.Cr.B .nil wd (yb (wc (pv 0) T.Ag T.Cp.m (yh4 T) (hr.mono (by decide)) T.Cp.B .nil vh) (yb (pv 3) ye (ya rfl)) (ya rfl)))) (yf (yw (xh (pv 0) T.Ag T.Ca.m (yd6 T) (hr.mono (by decide)) T.Ca.B .nil vh (yb (pv 3) ye (ya rfl))))))) ?_;refine ⟨_,(yf (yu (wc (pv 2) T.Ad T.Cs.m (yih T) (hr.mono (by decide)) T.Cs.B .nil vh))),?_⟩;exists 2,2;rfl';intro q W nq ao aE;have SQ:yy H (upd (upd H W (.own q)) q (.ins a.A3 W [])):=fun b o e=>by rw [yq (yd e nq),yq (yd e ao)]; exact e
 refine ⟨q,W,rfl,yc,fun H1 ag B1=>⟨rfl,?_⟩⟩;have S1:yy H H1:=fun b o e=>B1 b o (SQ b o e) (yd e nq);rfl';refine ⟨tx,c,rfl,S1 _ _ Y.l,Z,by omega,fun bt H2 a8 U S2=>?_⟩;have a5:=S1.trans S2;have av:=hF.same a5;have ac:bt≠d.el:=(yd (hF.same S1).el a8).symm
 have al:∀ i,i < d.n->¬ O i q:=fun i hi w=>by
  obtain ⟨o,ho,_⟩:=(hF.B.b i hi).own q w;rw [nq] at ho;cases ho
 refine ⟨bt,rfl,⟨_,SqL.of U⟩,uf (K:=K) (a:=bt) (xs:=(dec c).map V.int) (fun j σ2 G=>∃ (v:Option V) (ml el pl:Addr) (sl:Nat->Addr) (f':Nat->List Int->Option Slt) (O':Nat->Addr->Prop),σ2=[some (.ref p),some (.ref tx),some (.ref q),v]/\zb K a G p (d.re ml el pl sl) (X.run d ((dec c).take j)) f' O' (m+6 * j)/\FGo p d O H G el O'/\TxE c j (X.run d ((dec c).take j)).sg (X.run d ((dec c).take j)).nd/\G q=some (.ins a.A3 W (zy (snK (ĕ d X c) (v7 c) j)))/\(∀ i,i < d.n->¬ O' i q)/\(G bt=some (.lst ((dec c).map V.int))/\bt≠el)/\(∀ i,i < j->Ch (ĕ d X c i)))
  ⟨_,d.ml,d.el,d.pl,d.sl,f,O,rfl,av,FGo.refl.same a5,.inl ⟨bR _,by show Ų _ _ X.sg X.nd; rw [az,an]; exact Ų.zero _⟩,S2 _ _ ag,al,⟨U,ac⟩,fun i hi=>absurd hi (ci i)⟩ (by rintro j σ2 G _ ⟨_,_,_,_,_,_,_,_,_,_,_,_,_,z,_⟩; exact SqL.of z.1) ?_ ?_⟩
 .rintro j y σ2 G hy ⟨v,D,C,J,M,f1,O1,rfl,g,go,hT,u,R,⟨a4,S⟩,I⟩;obtain ⟨b,rfl,ah,hb,hj⟩:=ur hy;obtain ⟨b0,b1⟩:=zi _ b ah;obtain ⟨a6,am⟩:=hT.next Z hb;obtain ⟨ai,aH⟩:=a6.nd Z;have aF:=a6.len;have ab:v7 c j=b:=by unfold v7; rw [hb]; rfl
  have aA:=g.me;have a7:Ch (ĕ d X c j):=yec g.n1 g.wok g.cok;have aw:=ya6 a7;have ar:=Ű b0 b1;obtain ⟨a0,ak⟩:=je (mx:=ĕ d X c) (bt:=v7 c) j I;rfl';refine ⟨q,W,_,rfl,u,lkN _ (by right) (by right) (by right),?_⟩;rfl';refine ⟨p,d.re D C J M,_,f1,O1,_,rfl,g,fun G1 N=>?_⟩;rfl';refine ⟨q,W,_,.int (ĕ d X c j),.int b,_,_,rfl,N _ _ u,a0.ok,.int _,.int _,fun z=>(by rw [aw] at z; cases z),fun _ z=>(by rw [ar] at z; cases z),fun c' b' ec eb _ _ _ G2 x B2=>?_⟩;cases ec;cases eb;have t:=(g.same N).but (N _ _ u) rfl R B2;have as:FGo p d O H G2 C O1:=(go.same N).but nq B2 x;have L:G2 bt=some (.lst ((dec c).map V.int)):=B2.lst (N _ _ u) (N _ _ a4);have aD:=t.me;have n6:=g.n6;rfl';refine ⟨p,d.re D C J M,_,f1,O1,m+6 * j,b,rfl,t,b0,b1,by omega,ai,by omega,fun ax a2 ae ad f3 O3 G3 ay au aa a9 aq _=>?_⟩;have a1:FGo p (d.re D C J M) O1 G2 G3 a2 O3:=⟨ay,aa,a9,aq⟩;have a3:=a1.kpa t;rfl';refine ⟨_,ax,a2,ae,ad,f3,O3,rfl,?_,as.trans a1,?_,?_,fun i hi w=>?_,⟨(a3 _ _ L rfl S).2,(a3 _ _ L rfl S).1⟩,fun i hi=>?_⟩
  .rw [uo hb];exact au.up (by show m+6 * j+d.n <= _; have:d.n <= 6:=n6; omega)
  .rw [uo hb];exact am
  .have e:snK (ĕ d X c) (v7 c) (j+1)=nar (snK (ĕ d X c) (v7 c) j) (ĕ d X c j) b:=by show nar _ _ (v7 c j)=_; rw [ab]
   rw [e];exact a9 _ _ x (x9 x t.me (show ¬ (3=6) by decide)) (x9 x t.mx.o (show ¬ (3=1) by decide)) (fun z=>by have e:=t.el; rw [<- z,x] at e; cases e) R
  .rcases aa i q hi w with v | v
   .exact R i hi v
   .rw [x] at v;cases v
  .by_cases z:i=j
   .rw [z];exact a7
   .exact I i (by omega)
 .rintro σ2 G ⟨v,D,C,J,M,f1,O1,rfl,g,go,hT,u,R,_,I⟩;rw [bv] at g u I;rw [cP] at g;obtain ⟨a0,ak⟩:=je (mx:=ĕ d X c) (bt:=v7 c) (dec c).length I;rfl';refine ⟨q,W,_,rfl,u,lkN _ (by right) (by right) (by right),?_⟩;rfl';refine ⟨q,W,_,rfl,u,a0,by show Int.toNat _ <= 100000; omega,fun r G1 aj af N=>?_⟩;exact k r D C J M f1 O1 _ G1 (go.free aj) af (g.same N) (bA _) (go.same N)
structure RGo (p q s:Addr) (A:FA) (O:Nat->Addr->Prop) (H H':Hp) (ml el:Addr) (O':Nat->Addr->Prop):Prop where
 hm:ml=A.ml\/H ml=none
 he:el=A.el\/H el=none
 hO:∀ j c,j < A.n->O' j c->O j c\/H c=none
 fr:∀ c o,H c=some o->c≠p->c≠A.mp->c≠A.el->c≠q->c≠s->(∀ j,j < A.n->¬ O j c)->H' c=some o
 live:∀ c o,H c=some o->∃ o',H' c=some o'
theorem RGo.free {s:Addr} {A:FA} {H H':Hp} {ml el:Addr} (h:RGo p q s A O H H' ml el O') (hc:H' c=none):H c=none:=by
 cases e:H c with
 | none=>rfl
 | some o =>
  obtain ⟨a,w⟩:=h.live c o e;rw [hc] at w;cases w
theorem RGo.refl {s:Addr} {A:FA} {H:Hp}:RGo p q s A O H H A.ml A.el O:=⟨.inl rfl,.inl rfl,fun _ _ _ w=>.inl w,fun _ _ e _ _ _ _ _ _=>e,fun _ o e=>⟨o,e⟩⟩
theorem RGo.trans {s:Addr} {A:FA} {O1:Nat->Addr->Prop} {H H1 H2:Hp} {ml el pl ml2 el2:Addr} {sl:Nat->Addr} (h:RGo p q s A O H H1 ml el O1) (k:RGo p q s (A.re ml el pl sl) O1 H1 H2 ml2 el2 O2):RGo p q s A O H H2 ml2 el2 O2:=by
 refine ⟨?_,?_,fun j c a w=>?_,fun c o e g l d b f i=>?_,fun c o e=>?_⟩
 .rcases k.hm with z | z
  .rcases h.hm with y | y
   .exact .inl (z.trans y)
   .exact .inr (by rw [show ml2=ml from z]; exact y)
  .exact .inr (h.free z)
 .rcases k.he with z | z
  .rcases h.he with y | y
   .exact .inl (z.trans y)
   .exact .inr (by rw [show el2=el from z]; exact y)
  .exact .inr (h.free z)
 .rcases k.hO j c a w with v | v
  .exact h.hO j c a v
  .exact .inr (h.free v)
 .refine k.fr c o (h.fr c o e g l d b f i) g l (fun z=>?_) b f (fun j a w=>?_)
  .rcases h.he with y | y
   .exact d (z.trans y)
   .rw [show c=el from z,y] at e;cases e
  .rcases h.hO j c a w with v | v
   .exact i j a v
   .rw [e] at v;cases v
 .obtain ⟨n,m⟩:=h.live c o e;exact k.live c n m
theorem RGo.same {s:Addr} {A:FA} {H H1 H2:Hp} {ml el:Addr} (h:RGo p q s A O H H1 ml el O') (S:yy H1 H2):RGo p q s A O H H2 ml el O' :=
 ⟨h.hm,h.he,h.hO,fun c o e f i b a d g=>S _ _ (h.fr c o e f i b a d g),fun c o e=>let ⟨o',w⟩:=h.live c o e; ⟨o',S _ _ w⟩⟩
structure ε (K:W.Frag) (a:Ads) (H:Hp) (p:Addr) (A:FA) (X:FX) (f:Nat->List Int->Option Slt) (O:Nat->Addr->Prop) (m:Nat) (q dx pd s ds:Addr) (d:List Int) (x:Sn):Prop where
 ft:zb K a H p A X f O m
 sk:yfm a H q dx pd s ds d x
 ok:OkS x
 nO:∀ i,i < A.n->¬ O i q/\¬ O i s
 nd:pd≠A.el
theorem ε.same {H H':Hp} {A:FA} {X:FX} {f:Nat->List Int->Option Slt} {m:Nat} {dx pd s:Addr} {d:List Int} {x:Sn} (h:ε K a H p A X f O m q dx pd s ds d x) (S:yy H H'):ε K a H' p A X f O m q dx pd s ds d x:=⟨h.ft.same S,h.sk.same S,h.ok,h.nO,h.nd⟩
def chX (A:FA) (X:FX):Int:=ynd X.ws (X.cs A)
theorem zb.but2 {H H':Hp} {A:FA} {X:FX} {f:Nat->List Int->Option Slt} {m:Nat} {dx pd s:Addr} {d:List Int} {x:Sn} (h:ε K a H p A X f O m q dx pd s ds d x) (B:yi7 q s H H'):zb K a H' p A X f O m:=by
 have k:=h.sk.me;have j:=h.sk.sp;refine h.ft.frame (O2:=fun c=>c=q\/c=s) (fun c o e n=>B c o e (fun z=>n (.inl z)) (fun z=>n (.inr z))) (fun z=>?_) (fun z=>?_) (fun i g z=>?_) (fun i c g w z=>?_) (fun l r _ e=>h.sk.lst B e) (fun t r e=>?_)
 .rcases z with z | z
  .exact x9 h.ft.me k (show ¬ (6=4) by decide) z
  .exact x9 h.ft.me j (show ¬ (6=3) by decide) z
 .rcases z with z | z
  .exact x9 h.ft.mx.o k (show ¬ (1=4) by decide) z
  .exact x9 h.ft.mx.o j (show ¬ (1=3) by decide) z
 .rcases z with z | z
  .exact x9 (h.ft.B.b i g).me k (show ¬ (2=4) by decide) z
  .exact x9 (h.ft.B.b i g).me j (show ¬ (2=3) by decide) z
 .rcases z with z | z
  .exact (h.nO i g).1 (z ▸ w)
  .exact (h.nO i g).2 (z ▸ w)
 .rcases e with (e | ⟨o,e⟩) | e
  .exact .inl (.inl (h.sk.tup B e))
  .exact .inl (.inr ⟨o,B _ _ e (xa e k (by intro z; cases z)) (xa e j (by intro z; cases z))⟩)
  .exact .inr e
theorem ymf:ym ["foreteller","seeker","bit"] ["foreteller","seeker"] (yh yq8):=wx (by right)
inductive Ś (K:W.Frag) (a:Ads) (vs:List V) (H:Hp) (Q:VK) (E':XK):Prop
 | mk (p:Addr) (A:FA) (X:FX) (f:Nat->List Int->Option Slt) (O:Nat->Addr->Prop) (m:Nat) (q dx pd s ds:Addr) (d:List Int) (x:Sn):(vs=[.ref p,.ref q])->(ε K a H p A X f O m q dx pd s ds d x)->(m+20 < 1000000)->(0 <= X.nd)->(X.sg.length <= 100000)->(∀ (ml el pl:Addr) (sl:Nat->Addr) (f':Nat->List Int->Option Slt) (O':Nat->Addr->Prop) (H':Hp),ε K a H' p (A.re ml el pl sl) (X.see A (Û d x (chX A X))) f' O' (m+A.n) q dx pd s ds d (nar x (chX A X) (Û d x (chX A X)))->RGo p q s A O H H' ml el O'->Q (.int (Û d x (chX A X))) H')->Ś K a vs H Q E'
theorem ym1 (T:Txt K mg a):wa P w K mg base CX0 7 a.Ku a.Kv ["foreteller","seeker"] (Ś K a):=by
 exists T.Ct.F.ok,ymf,hr;obtain ⟨p,r,X,f,O,m,q,dx,Z,u,ds,d,x,rfl,n,hm,a6,a2,k⟩:=h;have hp:=n.ft.me;have hq:=n.sk.me;have J:Ch (chX r X):=yec n.ft.n1 n.ft.wok n.ft.cok;have a4:=ya6 J;refine ⟨_,(yi (yt (i:=2) ymf.nd rfl (Or.inl rfl) (vz (pv 1) T.Bl T.Hd.m (ywo T) (hr.mono (by decide)) T.Hd.B .nil wd (yb (wc (pv 0) T.Ag T.Cp.m (yh4 T) (hr.mono (by decide)) T.Cp.B .nil vh) ye (ya rfl)))) (yi (yw (xh (pv 0) T.Ag T.Ca.m (yd6 T) (hr.mono (by decide)) T.Ca.B .nil vh (yb (pv 2) ye (ya rfl)))) (yf (yu (pv 2))))),?_⟩;exists 2,1;rfl';refine ⟨p,r,X,f,O,m,rfl,n.ft,fun H1 D=>?_⟩;have L:=n.same D;rfl';refine ⟨q,dx,Z,u,ds,d,x,.int (chX r X),_,rfl,L.sk,n.ok,.int _,fun z=>(by rw [a4] at z; cases z),fun c' ec _ H2 g G=>?_⟩;cases ec;have l:=zb.but2 L G;have aa:=l.me
 obtain ⟨b0,b1⟩:0 <= Û d x (chX r X)/\Û d x (chX r X) <= 1:=by
  rcases Ŝ d x (chX r X) with e | e <;> (rw [e]; decide)
 generalize hb:Û d x (chX r X)=b at b0 b1 g k;rfl';refine ⟨p,r,X,f,O,m,b,rfl,l,b0,b1,hm,a6,a2,fun I M pl sl f' O' H3 he a0 Y U lv t=>?_⟩;have W:q≠p:=x9 g.me l.me (show ¬ (4=6) by decide);have a5:q≠r.mp:=x9 g.me l.mx.o (show ¬ (4=1) by decide);have a7:u≠p:=x9 g.sp l.me (show ¬ (3=6) by decide);have a8:u≠r.mp:=x9 g.sp l.mx.o (show ¬ (3=1) by decide)
 have S:∀ {c C dc:Addr} {fs:List (Str × V)},H2 c=some (.ins C dc fs)->c≠r.el:=fun e z=>by
  have e2:=l.el;rw [<- z,e] at e2;cases e2
 have N:=U _ _ g.me W a5 (S g.me) fun i y=>(n.nO i y).1;have R:=U _ _ g.sp a7 a8 (S g.sp) fun i y=>(n.nO i y).2;have a3:H3 Z=some (.lst (d.map V.int)):=U _ _ g.dt (fun z=>by have e:=g.dt; rw [z,l.me] at e; cases e) (fun z=>by have e:=g.dt; rw [z,l.mx.o] at e; cases e) n.nd (l.B.nlst g.dt);rfl';refine k I M pl sl f' O' H3 ⟨a0,⟨N,a3,R,g.ne⟩,ycd n.ok J,fun i y=>⟨fun w=>?_,fun w=>?_⟩,?_⟩ ⟨.inr ?_,?_,fun j c hj w=>?_,fun c o e c1 c2 c3 c4 c5 no=>?_,fun c o e=>?_⟩
 .rcases Y i q y w with v | v
  .exact (n.nO i y).1 v
  .rw [g.me] at v;cases v
 .rcases Y i u y w with v | v
  .exact (n.nO i y).2 v
  .rw [g.sp] at v;cases v
 .rcases he with z | z
  .rw [show (r.re I M pl sl).el=r.el from z];exact n.nd
  .exact yd g.dt z
 .cases e:H I with
  | none=>rfl
  | some o =>
   by_cases z1:I=q
   .rw [z1,g.me] at t;cases t
   by_cases z2:I=u
   .rw [z2,g.sp] at t;cases t
   rw [G _ _ (D _ _ e) z1 z2] at t;cases t
 .rcases he with z | z
  .exact .inl z
  .refine .inr ?_
   cases e:H M with
   | none=>rfl
   | some o =>
    by_cases z1:M=q
    .rw [z1,g.me] at z;cases z
    by_cases z2:M=u
    .rw [z2,g.sp] at z;cases z
    rw [G _ _ (D _ _ e) z1 z2] at z;cases z
 .rcases Y j c hj w with v | v
  .exact .inl v
  .refine .inr ?_
   cases e:H c with
   | none=>rfl
   | some o =>
    by_cases z1:c=q
    .rw [z1,g.me] at v;cases v
    by_cases z2:c=u
    .rw [z2,g.sp] at v;cases v
    rw [G _ _ (D _ _ e) z1 z2] at v;cases v
 .exact U c o (G _ _ (D _ _ e) c4 c5) c1 c2 c3 no
 .by_cases z1:c=q
  .exact ⟨_,z1 ▸ N⟩
  by_cases z2:c=u
  .exact ⟨_,z2 ▸ R⟩
  exact lv c o (G _ _ (D _ _ e) z1 z2)
def rnx (A:FA) (d:List Int) (S:FX × Sn):FX × Sn:=(S.1.see A (Û d S.2 (chX A S.1)),nar S.2 (chX A S.1) (Û d S.2 (chX A S.1)))
def rst (A:FA) (d:List Int) (S:FX × Sn):Nat->FX × Sn
 | 0=>S
 | n+1=>rnx A d (rst A d S n)
def Á (A:FA) (d:List Int) (S:FX × Sn) (n:Nat):Int:=Û d (rst A d S n).2 (chX A (rst A d S n).1)
theorem yl5 (A:FA) (d:List Int) (S:FX × Sn) (n:Nat):Á A d S n=0\/Á A d S n=1:=Ŝ _ _ _
theorem ycf (A:FA) (d:List Int) (S:FX × Sn) (k:Nat):∀ n,rst A d (rst A d S k) n=rst A d S (k+n)
 | 0=>rfl
 | n+1=>congrArg (rnx A d) (ycf A d S k n)
theorem yhy (A:FA) (d:List Int) (S:FX × Sn) (ml el pl:Addr) (sl:Nat->Addr):∀ n,rst (A.re ml el pl sl) d S n=rst A d S n
 | 0=>rfl
 | n+1=>by
  show rnx (A.re ml el pl sl) d (rst (A.re ml el pl sl) d S n)=_;rw [yhy A d S ml el pl sl n];rfl
theorem yuy (A:FA) (X:FX) (b:Int) (h:0 <= X.nd) (hb:0 <= b):0 <= (X.see A b).nd:=by
 show 0 <= ndN X.nd b;unfold ndN
 split
 .split <;> omega
 .split <;> omega
theorem ys3 (A:FA) (X:FX) (b:Int):(X.see A b).sg.length <= X.sg.length+1:=by
 show (sgN X.sg X.nd b).length <= _;unfold sgN
 split
 .split
  .rw [bC]; exact bA _
  .omega
 .split
  .omega
  .exact bR _
theorem yd5 (A:FA) (d:List Int) (S:FX × Sn) (h:0 <= S.1.nd):∀ n,0 <= (rst A d S n).1.nd
 | 0=>h
 | n+1=>yuy A _ _ (yd5 A d S h n) (by rcases yl5 A d S n with e | e <;> (unfold Á at e; rw [e]; decide))
theorem yd2 (A:FA) (d:List Int) (S:FX × Sn):∀ n,(rst A d S n).1.sg.length <= S.1.sg.length+n
 | 0=>bA _
 | n+1=>cc (ys3 A _ _) (Nat.succ_le_succ (yd2 A d S n))
theorem ε.app {H:Hp} {R:Addr} {A:FA} {X:FX} {f:Nat->List Int->Option Slt} {m:Nat} {dx pd s:Addr} {d:List Int} {x:Sn} {xs ys:List V} (h:ε K a H p A X f O m q dx pd s ds d x) (hR:H R=some (.lst xs)) (hq:∀ q,(q=A.bl\/q=A.el\/q=A.ml\/q=A.pl)->q≠R) (np:pd≠R):ε K a (upd H R (.lst ys)) p A X f O m q dx pd s ds d x:=by
 refine ⟨h.ft.app hR hq,⟨yk (fun z=>?_) h.sk.me,yk np h.sk.dt,yk (fun z=>?_) h.sk.sp,h.sk.ne⟩,h.ok,h.nO,h.nd⟩
 .have e:=h.sk.me;rw [z,hR] at e;cases e
 .have e:=h.sk.sp;rw [z,hR] at e;cases e
theorem ε.notN {H:Hp} {R:Addr} {A:FA} {X:FX} {f:Nat->List Int->Option Slt} {m:Nat} {dx pd s:Addr} {d:List Int} {x:Sn} (h:ε K a H p A X f O m q dx pd s ds d x) (hR:H R=some (.lst (xs.map V.int))) (nm:R≠A.ml) (ne:R≠A.el):∀ q,(q=A.bl\/q=A.el\/q=A.ml\/q=A.pl)->q≠R:=fun q j z=>by
 have i:=h.ft.n1
 have b:∀ (g:Nat->Addr),xs.map V.int=refs g A.n->False:=fun g e=>by
  have c:(refs g A.n)[0]?=some (V.ref (g 0)):=yt9 i;rw [<- e,bB] at c
  cases w:xs[0]? with
  | none=>rw [w] at c; cases c
  | some y=>rw [w] at c; cases c
 rcases j with y | y | y | y
 .have e:=h.ft.bl;rw [<- y,z,hR] at e;exact b _ (HO.lst.inj (bL e))
 .exact ne (z.symm.trans y)
 .exact nm (z.symm.trans y)
 .have e:=h.ft.pl;rw [<- y,z,hR] at e;exact b _ (HO.lst.inj (bL e))
theorem RGo.app {s R:Addr} {A:FA} {H H1:Hp} {ml el:Addr} {o':HO} (h:RGo p q s A O H H1 ml el O') (hR:H R=none):RGo p q s A O H (upd H1 R o') ml el O' :=
 ⟨h.hm,h.he,h.hO,fun c o e f i b a d g=>yk (yd e hR) (h.fr c o e f i b a d g),fun c o e=>let ⟨o1,w⟩:=h.live c o e; ⟨o1,yk (yd e hR) w⟩⟩
def wB (i:Nat):Int:=([128,64,32,16,8,4,2,1]:List Int)[i]?.getD 0
theorem yy3 (i:Nat):0 <= wB i/\wB i <= 128:=by
 rcases i with _ | _ | _ | _ | _ | _ | _ | _ | i
 .exact ⟨by decide,by decide⟩
 .exact ⟨by decide,by decide⟩
 .exact ⟨by decide,by decide⟩
 .exact ⟨by decide,by decide⟩
 .exact ⟨by decide,by decide⟩
 .exact ⟨by decide,by decide⟩
 .exact ⟨by decide,by decide⟩
 .exact ⟨by decide,by decide⟩
 .exact ⟨by show (0:Int) <= 0; decide,by show (0:Int) <= 128; decide⟩
def sgB (A:FA) (d:List Int) (S:FX × Sn) (i:Nat):List Int:=(List.range i).map fun j=>wB j * Á A d S j
theorem yjs (A:FA) (d:List Int) (S:FX × Sn) (i:Nat):sgB A d S (i+1)=sgB A d S i++[wB i * Á A d S i]:=by
 unfold sgB;rw [List.range_succ,bS];rfl
theorem yut:ym ["foreteller","seeker"] ["foreteller","seeker"] (yh yqu):=wx (by right)
inductive Ĉ (K:W.Frag) (a:Ads) (vs:List V) (H:Hp) (Q:VK) (E':XK):Prop
 | mk (p:Addr) (A:FA) (S:FX × Sn) (f:Nat->List Int->Option Slt) (O:Nat->Addr->Prop) (m:Nat) (q dx pd s ds:Addr) (d:List Int):(vs=[.ref p,.ref q])->(ε K a H p A S.1 f O m q dx pd s ds d S.2)->(m+80 < 1000000)->(0 <= S.1.nd)->(S.1.sg.length <= 90000)->(∀ (ml el pl:Addr) (sl:Nat->Addr) (f':Nat->List Int->Option Slt) (O':Nat->Addr->Prop) (H':Hp),ε K a H' p (A.re ml el pl sl) (rst A d S 8).1 f' O' (m+8 * A.n) q dx pd s ds d (rst A d S 8).2->RGo p q s A O H H' ml el O'->Q (.int (sgB A d S 8).sum) H')->Ĉ K a vs H Q E'
theorem ywp (T:Txt K mg a):wa P w K mg base CX0 8 a.Kw a.Kx ["foreteller","seeker"] (Ĉ K a):=by
 exists T.Eu.F.ok,yut,hr;obtain ⟨p,b,S,f,O,m,q,dx,pd,Z,ds,d,rfl,M,hm,a4,ab,k⟩:=h;have n6:=M.ft.n6;refine ⟨_,(yf (yu (yr (ρ rfl) rfl T.Ds (by right) (yb (wj (js:=[1,0]) (ys:=["seeker","foreteller"]) rfl (yel (ych rfl T.Hy)) (fun C s2 H2 fp=>(yn wl (pv 0) (vi (ym1 T) (hr.mono (by decide)) rfl T.Ct.m T.Ct.F.kp T.Ct.B .nil vh (yb (pv 2) (yb (pv 1) ye (ya rfl)) (ya rfl))))) rfl rfl (hyc:=(all_cons rfl (all_cons rfl y7))) (hrel:=(all_cons rfl (all_cons rfl y7)))) ye (ya rfl))))),?_⟩;exists 2,0;rfl';refine ⟨a.Bi,rfl,⟨_,T.D1 H⟩,fun D X=>?_⟩;refine yax (xs:=[.int 128,.int 64,.int 32,.int 16,.int 8,.int 4,.int 2,.int 1]) (fun i G=>∃ (r v J:Addr) (R:Nat->Addr) (f':Nat->List Int->Option Slt) (O':Nat->Addr->Prop),ε K a G p (b.re r v J R) (rst b d S i).1 f' O' (m+i * b.n) q dx pd Z ds d (rst b d S i).2/\RGo p q Z b O H G r v O'/\G D=some (.lst ((sgB b d S i).map V.int))/\D≠r/\D≠v) ?_ (fun i G _ _=>T.D1 G) ?_ ?_
 .have S1:yy H (upd H D (.lst [])):=vj X;refine ⟨b.ml,b.el,b.pl,b.sl,f,O,?_,RGo.refl.same S1,yc,(yd M.ft.mx.l X).symm,(yd M.ft.el X).symm⟩;rw [Nat.zero_mul];exact M.same S1
 .rintro i y G j a3 ⟨r,v,J,R,f1,O1,e,x,c,U,u⟩;have hi:i < 8:=a3
  obtain rfl:y=V.int (wB i):=by
   rcases i with _ | _ | _ | _ | _ | _ | _ | _ | i
   .exact (bL j).symm
   .exact (bL j).symm
   .exact (bL j).symm
   .exact (bL j).symm
   .exact (bL j).symm
   .exact (bL j).symm
   .exact (bL j).symm
   .exact (bL j).symm
   .omega
  have a9:i * b.n <= 8 * b.n:=Nat.mul_le_mul_right _ (by omega);obtain ⟨aa,a7⟩:=yy3 i;have a0:=yd5 b d S a4 i;have a8:=yd2 b d S i;rfl';refine ⟨p,b.re r v J R,(rst b d S i).1,f1,O1,m+i * b.n,q,dx,pd,Z,ds,d,(rst b d S i).2,rfl,e,by omega,a0,by omega,fun N W a5 a1 f2 O2 G2 Y g=>?_⟩;have t:G2 D=some (.lst ((sgB b d S i).map V.int)):=g.fr _ _ c (xa c e.ft.me (by intro z; cases z)) (xa c e.ft.mx.o (by intro z; cases z)) u (xa c e.sk.me (by intro z; cases z)) (xa c e.sk.sp (by intro z; cases z)) (e.ft.B.nlst c)
  have L:D≠N:=by
   rcases g.hm with z | z
   .rw [z]; exact U
   .exact yd c z
  have I:D≠W:=by
   rcases g.he with z | z
   .rw [z]; exact u
   .exact yd c z
  refine ⟨wB i,_,rfl,rfl,.inl ⟨by omega,by omega⟩,?_⟩;refine ⟨_,t,?_,8 - (i+1),by show 8 - (i+1) < 8 - i; omega,rfl,hi,N,W,a5,a1,f2,O2,?_,?_,?_,L,I⟩
  .unfold sgB;rw [bv,bv,bW];exact Nat.lt_trans hi (by decide)
  .rw [show m+(i+1) * b.n=m+i * b.n+b.n by rw [Nat.succ_mul,Nat.add_assoc]];exact ε.app Y t (Y.notN t L I) (yd M.sk.dt X)
  .exact (x.trans g).app X
  .rw [yjs,bS];exact yc
 .rintro G ⟨r,v,J,R,f1,O1,e,x,c,U,u⟩;rfl';refine ⟨D,sgB b d S 8,rfl,SqL.of c,?_⟩;rfl';exact k r v J R f1 O1 G e x
theorem ε.up {H:Hp} {A:FA} {X:FX} {f:Nat->List Int->Option Slt} {m:Nat} {dx pd s:Addr} {d:List Int} {x:Sn} (h:ε K a H p A X f O m q dx pd s ds d x) (hm:m <= m'):ε K a H p A X f O m' q dx pd s ds d x:=⟨h.ft.up hm,h.sk,h.ok,h.nO,h.nd⟩
theorem ype (A:FA) (d:List Int) (S:FX × Sn) (ml el pl:Addr) (sl:Nat->Addr) (n:Nat):Á (A.re ml el pl sl) d S n=Á A d S n:=by
 unfold Á;rw [yhy];rfl
theorem yuw (A:FA) (d:List Int) (S:FX × Sn) (ml el pl:Addr) (sl:Nat->Addr) (n:Nat):sgB (A.re ml el pl sl) d S n=sgB A d S n:=by
 unfold sgB;exact List.map_congr_left fun j _=>by rw [ype]
def rsg (A:FA) (d:List Int) (S:FX × Sn) (k:Nat):Int:=(sgB A d (rst A d S (9 * k+1)) 8).sum
def rtx (A:FA) (d:List Int) (S:FX × Sn) (k:Nat):List Int:=(List.range k).map (rsg A d S)
theorem yj1 (A:FA) (d:List Int) (S:FX × Sn) (k:Nat):rtx A d S (k+1)=rtx A d S k++[rsg A d S k]:=by
 unfold rtx;rw [List.range_succ,bS];rfl
theorem yhj (A:FA) (d:List Int) (S:FX × Sn) (k:Nat):(rtx A d S k).length=k:=by
 unfold rtx;rw [bv,bW]
section
variable {G:Hp} {A:FA} {S:FX × Sn} {f:Nat->List Int->Option Slt} {m n:Nat} {dx pd s ml el pl:Addr} {sl:Nat->Addr} {d:List Int} {Q:VK} {E:XK}
theorem yup (hR:ε K a G p (A.re ml el pl sl) (rst A d S n).1 f O m q dx pd s ds d (rst A d S n).2) (hm:m+20 < 1000000) (nd0:0 <= S.1.nd) (hsg:S.1.sg.length+n <= 100000)
  (k:∀ (ml2 el2 pl2:Addr) (sl2:Nat->Addr) (f':Nat->List Int->Option Slt) (O':Nat->Addr->Prop) (H':Hp),ε K a H' p (A.re ml2 el2 pl2 sl2) (rst A d S (n+1)).1 f' O' (m+6) q dx pd s ds d (rst A d S (n+1)).2->RGo p q s (A.re ml el pl sl) O G H' ml2 el2 O'->Q (.int (Á A d S n)) H'):Ś K a [.ref p,.ref q] G Q E :=
 ⟨p,A.re ml el pl sl,(rst A d S n).1,f,O,m,q,dx,pd,s,ds,d,(rst A d S n).2,rfl,hR,hm,yd5 A d S nd0 n,cc (yd2 A d S n) hsg,fun ml2 el2 pl2 sl2 f' O' H' c b=>k ml2 el2 pl2 sl2 f' O' H' (ε.up c (Nat.add_le_add_left hR.ft.n6 m)) b⟩
theorem yoh (hR:ε K a G p (A.re ml el pl sl) (rst A d S n).1 f O m q dx pd s ds d (rst A d S n).2) (hm:m+80 < 1000000) (nd0:0 <= S.1.nd) (hsg:S.1.sg.length+n <= 90000)
  (k:∀ (ml2 el2 pl2:Addr) (sl2:Nat->Addr) (f':Nat->List Int->Option Slt) (O':Nat->Addr->Prop) (H':Hp),ε K a H' p (A.re ml2 el2 pl2 sl2) (rst A d S (n+8)).1 f' O' (m+48) q dx pd s ds d (rst A d S (n+8)).2->RGo p q s (A.re ml el pl sl) O G H' ml2 el2 O'->Q (.int (sgB A d (rst A d S n) 8).sum) H'):Ĉ K a [.ref p,.ref q] G Q E:=by
 refine ⟨p,A.re ml el pl sl,rst A d S n,f,O,m,q,dx,pd,s,ds,d,rfl,hR,hm,yd5 A d S nd0 n,cc (yd2 A d S n) hsg,fun ml2 el2 pl2 sl2 f' O' H' b c=>?_⟩;have e:A.n <= 6:=hR.ft.n6;have b:=ε.up b (show m+8 * A.n <= m+48 by omega);rw [yhy,ycf] at b;rw [yuw];exact k ml2 el2 pl2 sl2 f' O' H' b c
end
theorem yml:ym ["foreteller","seeker","most","text"] ["foreteller","seeker","most"] (yh yrx):=wx (by right)
inductive yau (K:W.Frag) (a:Ads) (vs:List V) (H:Hp) (Q:VK) (E:XK):Prop
 | mk (p:Addr) (A:FA) (S:FX × Sn) (f:Nat->List Int->Option Slt) (O:Nat->Addr->Prop) (m:Nat) (q dx pd s ds:Addr) (d:List Int) (mo:Nat):(vs=[.ref p,.ref q,.int mo])->(ε K a H p A S.1 f O m q dx pd s ds d S.2)->(mo <= 1000)->(m+54 * mo+200 < 1000000)->(0 <= S.1.nd)->(S.1.sg.length <= 10000)->((∀ (N:Nat) (r ml el pl:Addr) (sl:Nat->Addr) (f':Nat->List Int->Option Slt) (O':Nat->Addr->Prop) (H':Hp),N <= mo->(∀ j,j < N->Á A d S (9 * j)=1)->Á A d S (9 * N)=0->H r=none->H' r=some (.lst ((rtx A d S N).map V.int))->r≠el->ε K a H' p (A.re ml el pl sl) (rst A d S (9 * N+1)).1 f' O' (m+54 * N+6) q dx pd s ds d (rst A d S (9 * N+1)).2->RGo p q s A O H H' ml el O'->Q (.ref r) H'))->(((∀ j,j <= mo->Á A d S (9 * j)=1)->∀ (ml el:Addr) (O':Nat->Addr->Prop) (H':Hp),RGo p q s A O H H' ml el O'->E (.ref a.Fj) none H'))->yau K a vs H Q E
theorem ytk (T:Txt K mg a):wa P w K mg base (CXe P w) 9 a.Ky a.Kz ["foreteller","seeker","most"] (yau K a):=by
 exists T.Ev.F.okE,yml,hr;obtain ⟨p,g,S,f,O,m,q,dx,pd,s',ds,d,mo,rfl,hR,al,hm,a4,ak,kQ,kE⟩:=h;refine ⟨_,(yi (yt (i:=3) yml.nd rfl (Or.inl rfl) (xi ye)) (yi (zk PassesOwn.leaving (yx x3 (vi (ym1 T) (hr.mono (by decide)) rfl T.Ct.m T.Ct.F.kp T.Ct.B .nil vh (yb (pv 0) (yb (pv 1) ye (ya rfl)) (ya rfl))) yg (y8 _)) (yi (wb (yx x3 (yr yz rfl T.Ae (by right) (yb (pv 3) ye (ya rfl))) (pv 2) (y8 _)) (yf (xg rfl T.Pw T.Ov (yb xm ye (ya rfl)))) y9) (yf (yw (ψ PySem.F.plainAttrs_list PySem.F.slot_list_append PySem.F.type_list_append wz (pv 3) (yb (vi (ywp T) (hr.mono (by decide)) rfl T.Eu.m T.Eu.F.kp T.Eu.B .nil vh (yb (pv 0) (yb (pv 1) ye (ya rfl)) (ya rfl))) ye (ya rfl))))))) (yf (yu (pv 3))))),?_⟩;exists 3,1;rfl';refine ⟨by walk_at "len",fun r hr0=>?_⟩
 with_reducible first | refine yv hr0 fun H1 S1 hr1=>?_ | refine ve hr0 fun H1 S1 hr1=>?_
 have ag:pd≠r:=yd hR.sk.dt hr0;rfl'
 refine ⟨fun w σ' G=>∃ (N:Nat) (D I U:Addr) (sl:Nat->Addr) (f':Nat->List Int->Option Slt) (O':Nat->Addr->Prop),σ'=[some (.ref p),some (.ref q),some (.int mo),some (.ref r)]/\N <= mo/\(∀ j,j < N->Á g d S (9 * j)=1)/\ε K a G p (g.re D I U sl) (rst g d S (9 * N)).1 f' O' (m+54 * N) q dx pd s' ds d (rst g d S (9 * N)).2/\RGo p q s' g O H G D I O'/\G r=some (.lst ((rtx g d S N).map V.int))/\r≠D/\r≠I/\w=mo - N,
  ⟨_,0,g.ml,g.el,g.pl,g.sl,f,O,rfl,bR _,fun j hj=>absurd hj (ci j),hR.same S1,RGo.refl.same S1,hr1,(yd hR.ft.mx.l hr0).symm,(yd hR.ft.el hr0).symm,rfl⟩,?_⟩
 rintro w σ2 G ⟨N,D,I,U,sl,f1,O1,rfl,hN,a2,e,ai,a9,M,y,rfl⟩;rfl';refine yup e (by omega) a4 (by omega) fun n u ah ab f2 O2 G2 L k=>?_
 have v:∀ {G G2:Hp} {D I U n u:Addr} {sl:Nat->Addr} {X:FX} {f1:Nat->List Int->Option Slt} {O1 O2:Nat->Addr->Prop} {m x} {xs:List V},ε K a G p (g.re D I U sl) X f1 O1 m q dx pd s' ds d x->RGo p q s' (g.re D I U sl) O1 G G2 n u O2->G r=some (.lst xs)->r≠D->r≠I->G2 r=some (.lst xs)/\r≠n/\r≠u:=fun e k c M y=>by
  refine ⟨k.fr _ _ c (xa c e.ft.me (by intro z; cases z)) (xa c e.ft.mx.o (by intro z; cases z)) y (xa c e.sk.me (by intro z; cases z)) (xa c e.sk.sp (by intro z; cases z)) (e.ft.B.nlst c),?_,?_⟩
  .rcases k.hm with z | z
   .rw [z]; exact M
   .exact yd c z
  .rcases k.he with z | z
   .rw [z]; exact y
   .exact yd c z
 obtain ⟨C,a7,W⟩:=v e k a9 M y;have t:=ai.trans k;have a5:=yl5 g d S (9 * N);generalize a8:Á g d S (9 * N)=b at a5;rfl';refine uz (fun hb=>?_) (fun hb=>?_)
 .subst hb
  have Z:∀ j,j < N+1->Á g d S (9 * j)=1:=fun j hj=>by
   by_cases z:j=N
   .rw [z]; exact a8
   .exact a2 j (by omega)
  refine ya9 ?_;rfl';refine zn (SqL.of C) ?_;rw [bv,yhj];rfl';refine uz (fun hc=>?_) (fun hc=>?_)
  .have am:N=mo:=by omega
   rfl';exact ⟨by walk_at "len",kE (fun j hj=>Z j (by omega)) n u O2 G2 t⟩
  .rfl';refine za C ?_;rfl';refine yoh L (by omega) a4 (by omega) fun ae ad aa a6 f3 O3 G3 a3 R=>?_;obtain ⟨J,a1,a0⟩:=v L R C a7 W;have Y:=t.trans R;rfl';refine xt J (vq (by rw [bv,yhj]; omega)) ?_;rfl';refine ⟨_,?_,N+1,ae,ad,aa,a6,f3,O3,rfl,by omega,Z,?_,Y.app hr0,?_,a1,a0,rfl⟩
   .omega
   .exact ε.app a3 J (a3.notN J a1 a0) ag
   .rw [yc,yj1,bS];rfl
 .have af:Á g d S (9 * N)=0:=by omega
  rfl';exact kQ N r n u ah ab f2 O2 G2 hN a2 af hr0 C W L t
theorem yom (x:Sn) (c b:Int):(nar x c b).2.2 <= x.2.2+2:=by
 unfold nar ren
 (repeat' split) <;> (dsimp only; omega)
theorem ymd (A:FA) (d:List Int) (S:FX × Sn):∀ n:Nat,(rst A d S n).2.2.2 <= S.2.2.2+2 * (n:Int)
 | 0=>by show S.2.2.2 <= S.2.2.2+2 * ((0:Nat):Int); omega
 | n+1=>by
  have b:=ymd A d S n;have a:=yom (rst A d S n).2 (chX A (rst A d S n).1) (Û d (rst A d S n).2 (chX A (rst A d S n).1));show (nar (rst A d S n).2 (chX A (rst A d S n).1) (Û d (rst A d S n).2 (chX A (rst A d S n).1))).2.2 <= _;omega
structure ROk (A:FA) (d:List Int) (S:FX × Sn) (N:Nat):Prop where
 b1:∀ j,j < N->Á A d S (9 * j)=1
 b0:Á A d S (9 * N)=0
 tk:d.take (tL (rst A d S (9 * N+1)).2).length=tL (rst A d S (9 * N+1)).2
theorem ROk.uniq {A:FA} {d:List Int} {S:FX × Sn} {N M:Nat} (h:ROk A d S N) (b1:∀ j,j < M->Á A d S (9 * j)=1) (b0:Á A d S (9 * M)=0):M=N:=by
 rcases Nat.lt_trichotomy M N with z | z | z
 .have e:=h.b1 M z;rw [b0] at e;cases e
 .exact z
 .have e:=b1 N z;rw [h.b0] at e;cases e
def rTL (A:FA) (d:List Int) (S:FX × Sn) (N:Nat):Nat:=(tL (rst A d S (9 * N+1)).2).length
theorem RGo.fgo {s:Addr} {A:FA} {H0 H H':Hp} {ml el:Addr} (S:yy H0 H) (hq:H0 q=none) (hs:H0 s=none) (h:RGo p q s A O H H' ml el O'):FGo p A O H0 H' el O' :=
 ⟨h.he.imp id S.free,fun j c d w=>(h.hO j c d w).imp id S.free,fun c o e b g a f=>h.fr c o (S _ _ e) b g a (yd e hq) (yd e hs) f,fun c o e=>h.live c o (S _ _ e)⟩
theorem yek:ym ["foreteller","data","most","seeker","text","own"] ["foreteller","data","most"] (yh yqw):=wx (by right)
inductive û (K:W.Frag) (a:Ads) (vs:List V) (H:Hp) (Q:VK) (E:XK):Prop
 | mk (p:Addr) (A:FA) (X:FX) (f:Nat->List Int->Option Slt) (O:Nat->Addr->Prop) (m:Nat) (dt:Addr) (d:List Int) (mo:Nat):(vs=[.ref p,.ref dt,.int mo])->(zb K a H p A X f O m)->(H dt=some (.lst (d.map V.int)))->(dt≠A.el)->(Byt d)->(d.length <= 12000)->(mo <= 1000)->(m+54 * mo+200 < 1000000)->(0 <= X.nd)->(X.sg.length <= 10000)->((∀ (N:Nat) (t r el:Addr) (O':Nat->Addr->Prop) (H':Hp),N <= mo->ROk A d (X,s0) N->H t=none->H r=none->H' t=some (.tup [.ref r,.int (rTL A d (X,s0) N)])->H' r=some (.lst ((rtx A d (X,s0) N).map V.int))->FGo p A O H H' el O'->(r≠el/\∃ ml pl sl f',zb K a H' p (A.re ml el pl sl) (rst A d (X,s0) (9 * N+1)).1 f' O' (m+54 * N+6))->Q (.ref t) H'))->(((∀ N,N <= mo->¬ ROk A d (X,s0) N)->∀ (el:Addr) (O':Nat->Addr->Prop) (H':Hp),FGo p A O H H' el O'->E (.ref a.Fj) none H'))->û K a vs H Q E
theorem ywv (T:Txt K mg a):wa P w K mg base (CXe P w) 10 a.L1 a.L6 ["foreteller","data","most"] (û K a):=by
 exists T.Ew.F.okE,yek,hr;obtain ⟨p,l,X,f,O,m,dt,d,mo,rfl,hF,z,ad,a0,a5,a6,hm,a7,a3,kQ,kE⟩:=h;refine yj (yt (i:=3) yek.nd rfl (Or.inl rfl) (ug T.Qq (yve T) (hr.mono (by decide)) rfl T.Qp T.Es.B .nil vg (yb (pv 1) ye (ya rfl)))) ?_;refine yj (yt (i:=4) yek.nd rfl (Or.inl rfl) (v6 (ytk T) (hr.mono (by decide)) rfl T.Ev.m T.Ev.F.kp T.Ev.B .nil vg (yb (pv 0) (yb (pv 3) (yb (pv 2) ye (ya rfl)) (ya rfl)) (ya rfl)))) ?_;refine yj (yt (i:=5) yek.nd rfl (Or.inl rfl) (wc (pv 3) T.Bl T.He.m (ywy T) (hr.mono (by decide)) T.He.B .nil vh)) ?_;refine yj (wb (yx (Ē hr.units) (xx jb (pv 1) uh (uk (yr yz rfl T.Ae (by right) (yb (pv 5) ye (ya rfl))))) (pv 5) (y8 _)) (yf (xg rfl T.Pw T.Ov (yb xm ye (ya rfl)))) y9) ?_;refine ⟨_,(yf (yu (yiq (yb (pv 4) (yb (yr yz rfl T.Ae (by right) (yb (pv 5) ye (ya rfl))) ye (ya rfl)) (ya rfl))))),?_⟩;exists 3,3;rfl';intro q D J a1 ag;have L:yy H (upd (upd H D (.own q)) q (.ins a.Ac D [])):=fun b o e=>by rw [yq (yd e J),yq (yd e a1)]; exact e
 refine ⟨q,D,.ref dt,_,rfl,yc,.lst (L _ _ z),.inr ⟨d,yj2 (L _ _ z) a0 a5,fun pd ps ds H1 S U a4 B1=>⟨rfl,?_⟩⟩⟩;have Z:yy H H1:=fun b o e=>B1 b o (L b o e) (yd e J);have x:H ps=none:=L.free U;have ab:H pd=none:=L.free S
 have nO:∀ {c:Addr},H c=none->∀ i,i < l.n->¬ O i c:=fun G i hi w=>by
  obtain ⟨o,ho,_⟩:=(hF.B.b i hi).own _ w;rw [G] at ho;cases ho
 have hR:ε K a H1 p l X f O m q D pd ps ds d s0:=⟨hF.same Z,a4,vak,fun i hi=>⟨nO J i hi,nO x i hi⟩,(yd hF.el ab).symm⟩;rfl';refine ⟨p,l,(X,s0),f,O,m,q,D,pd,ps,ds,d,mo,rfl,hR,a6,hm,a7,a3,fun N r ml el pl sl f2 O2 H2 hN R Y aa ae a9 k C=>?_,fun W ml el O2 H2 C=>?_⟩
 .have a8:=ymd l d (X,s0) (9 * N+1);have ac:((X,s0):FX × Sn).2.2.2=5:=rfl;rw [ac] at a8;have go:=C.fgo Z J x;have ah:=k.sk.me;have I:H2 dt=some (.lst (d.map V.int)):=(go.kpa hF).lst z ad;rfl';refine ⟨q,D,pd,ps,ds,d,_,rfl,k.sk,k.ok,by show Int.toNat _ <= 100000; omega,fun w H3 ai v S3=>?_⟩;rfl';refine zn (SqL.of v) ?_;rw [bv];rfl';refine ybe (SqL.of (S3 _ _ I)) fun u hu=>?_;have ec:ybl (d.map V.int) none (some (((tL (rst l d (X,s0) (9 * N+1)).2).length:Nat):Int))=(d.take (tL (rst l d (X,s0) (9 * N+1)).2).length).map V.int:=by rw [List.map_take]; exact zh _
  rw [ec]
  with_reducible first | refine yv hu fun H4 S4 hu4=>?_ | refine ve hu fun H4 S4 hu4=>?_
  have y:=go.same (S3.trans S4);rfl';refine yy7 _ _ (SqL.of hu4) (SqL.of (S4 _ _ v)) ?_;by_cases G:d.take (tL (rst l d (X,s0) (9 * N+1)).2).length=tL (rst l d (X,s0) (9 * N+1)).2
  .rw [bJ G];rfl';refine zn (SqL.of (S4 _ _ v)) ?_;rw [bv];rfl';refine ⟨by walk_at "len",fun t j=>?_⟩;refine kQ N t r el O2 _ hN ⟨R,Y,G⟩ (y.free j) (Z.free aa) yc (z9 j ((S3.trans S4) _ _ ae)) (y.same (vj j)) ⟨a9,ml,pl,sl,f2,((k.ft.same (S3.trans S4)).same (vj j))⟩
  .rw [bO G];rfl';exact ⟨by walk_at "len",kE (fun M hM g=>G (by rw [g.uniq R Y]; exact g.tk)) el O2 _ y⟩
 .exact kE (fun M hM g=>by have e:=W M hM; rw [g.b0] at e; cases e) el O2 H2 (C.fgo Z J x)
structure vb3 (H:Hp) (L dt:Addr) (lx:V) (n:Nat) (lk:Nat->Addr) (kd:Nat->Fin 3) (tp:Nat->Addr) (ps:Nat->List Int) (d:List Int) (mo N w:Nat) (lt:Nat->Addr) (tt:Nat->List Int):Prop where
 l:H L=some (.lst (refs lk n))
 n1:1 <= n
 n6:n <= 6
 r:xu H n lk kd tp ps
 dat:H dt=some (.lst (d.map V.int))
 by':Byt d
 dl:d.length <= 12000
 mo1:mo <= 1000
 lr:vat H lx N w lt tt
 w1:w <= 1000
 N1:N <= 1000
 b:6+6 * (N * (9 * w+1))+54 * mo+200 < 1000000
def rS (n:Nat) (kd:Nat->Fin 3) (ps:Nat->List Int) (pre:List Int):FX × Sn:=((FX0 n kd).run (fa0 n ps) pre,s0)
theorem j4 (A:FA) (d:List Int) (S:FX × Sn):∀ k,rst A d S k=rst (fa0 A.n A.ps) d S k
 | 0=>rfl
 | k+1=>by
  show rnx A d (rst A d S k)=rnx (fa0 A.n A.ps) d (rst (fa0 A.n A.ps) d S k);rw [j4 A d S k];rfl
theorem ο (A:FA) (d:List Int) (S:FX × Sn) (k:Nat):Á A d S k=Á (fa0 A.n A.ps) d S k:=by
 unfold Á;rw [j4];rfl
theorem ynm (A:FA) (d:List Int) (S:FX × Sn) (k:Nat):rsg A d S k=rsg (fa0 A.n A.ps) d S k:=by
 unfold rsg sgB;rw [j4];exact congrArg List.sum (List.map_congr_left fun j _=>by rw [ο])
theorem yot (A:FA) (d:List Int) (S:FX × Sn) (k:Nat):rtx A d S k=rtx (fa0 A.n A.ps) d S k:=by
 unfold rtx;exact List.map_congr_left fun j _=>ynm A d S j
theorem ynw (A:FA) (d:List Int) (S:FX × Sn) (k:Nat):rTL A d S k=rTL (fa0 A.n A.ps) d S k:=by
 unfold rTL;rw [j4]
theorem ROk.fa0 {A:FA} {d:List Int} {S:FX × Sn} {N:Nat}:ROk A d S N ↔ ROk (fa0 A.n A.ps) d S N:=by
 constructor
 .intro h;exact ⟨fun j a=>by rw [<- ο]; exact h.b1 j a,by rw [<- ο]; exact h.b0,by rw [<- j4]; exact h.tk⟩
 .intro h;exact ⟨fun j a=>by rw [ο]; exact h.b1 j a,by rw [ο]; exact h.b0,by rw [j4]; exact h.tk⟩
theorem yk6 {mx:Nat->Int} {d:List Int} (hd:Byt d) {m:Nat} (hc:∀ j,j < m->Ch (mx j)) (hb:∀ j,j < m->bt j=0\/bt j=1) (i:InS d (snK mx bt m)):∀ k,k < m->bt k=Û d (snK mx bt k) (mx k)/\InS d (snK mx bt k):=by
 induction m with
 | zero=>exact fun k b=>absurd b (ci k)
 | succ m ih =>
  have e:=(je (mx:=mx) (bt:=bt) m fun j c=>hc j (by omega)).1;obtain ⟨a,f⟩:=yol hd e (hc m (by omega)) (hb m (by omega)) i;intro k b;by_cases z:k=m
  .rw [z];exact ⟨f,a⟩
  .exact ih (fun j c=>hc j (by omega)) (fun j c=>hb j (by omega)) a k (by omega)
theorem yxd {k:Nat} (h:k < (dec ts).length):v7 ts k=0\/v7 ts k=1:=by
 obtain ⟨b,a⟩:=yj0 ts k h;omega
theorem yh7 (x:Sn):Byt (tL x):=fun b a=>yoy _ _ b a
theorem Ü {n:Nat} {kd:Nat->Fin 3} {ps:Nat->List Int} {pre d:List Int} (hd:Byt d) (hc:∀ j,j < (dec ts).length->Ch (jw n kd ps pre ts j)) (hi:InS d (snK (jw n kd ps pre ts) (v7 ts) (dec ts).length)):∀ k,k <= (dec ts).length->rst (fa0 n ps) d (rS n kd ps pre) k=(fX n kd ps pre ts k,snK (jw n kd ps pre ts) (v7 ts) k)
 | 0,_=>rfl
 | k+1,hk=>by
  have a:=(yk6 hd hc (fun j b=>yxd b) hi k (by omega)).1;have c:(dec ts)[k]?=some (v7 ts k):=by unfold v7; rw [bx (by omega)]; rfl
  show rnx (fa0 n ps) d (rst (fa0 n ps) d (rS n kd ps pre) k)=_;rw [Ü hd hc hi k (by omega)];show ((fX n kd ps pre ts k).see (fa0 n ps) (Û d (snK (jw n kd ps pre ts) (v7 ts) k) (jw n kd ps pre ts k)),nar (snK (jw n kd ps pre ts) (v7 ts) k) (jw n kd ps pre ts k) (Û d (snK (jw n kd ps pre ts) (v7 ts) k) (jw n kd ps pre ts k)))=(fX n kd ps pre ts (k+1),nar (snK (jw n kd ps pre ts) (v7 ts) k) (jw n kd ps pre ts k) (v7 ts k));rw [<- a]
  have e:fX n kd ps pre ts (k+1)=(fX n kd ps pre ts k).see (fa0 n ps) (v7 ts k):=by
   unfold fX;rw [uo c]
  rw [e]
theorem ygo {n:Nat} {kd:Nat->Fin 3} {ps:Nat->List Int} {pre d:List Int} (hd:Byt d) (hc:∀ j,j < (dec ts).length->Ch (jw n kd ps pre ts j)) (hi:InS d (snK (jw n kd ps pre ts) (v7 ts) (dec ts).length)) (k:Nat) (hk:k < (dec ts).length):Á (fa0 n ps) d (rS n kd ps pre) k=v7 ts k:=by
 have a:=(yk6 hd hc (fun j b=>yxd b) hi k hk).1;unfold Á;rw [Ü hd hc hi k (by omega)];exact a.symm
theorem Ã (t:Int) (r:List Int) (k:Nat):v7 (t :: r) (k+9)=v7 r k:=rfl
theorem yex (t:Int) (r:List Int):∀ i,i < 8->v7 (t :: r) (1+i)=t / wB i % 2:=fun i a=>by
 rcases i with _ | _ | _ | _ | _ | _ | _ | _ | i
 .rfl
 .rfl
 .rfl
 .rfl
 .rfl
 .rfl
 .rfl
 .rfl
 .omega
theorem ÿ:∀ (ts:List Int) (j:Nat) (hj:j < ts.length),v7 ts (9 * j)=1/\∀ i,i < 8->v7 ts (9 * j+1+i)=ts[j] / wB i % 2
 | [],j,hj=>absurd hj (ci j)
 | t :: r,0,_=>⟨rfl,fun i a=>by rw [show 9 * 0+1+i=1+i by omega]; exact yex t r i a⟩
 | t :: r,j+1,hj=>by
  obtain ⟨c,b⟩:=ÿ r j (by simpa using hj);refine ⟨?_,fun i a=>?_⟩
  .rw [show 9 * (j+1)=9 * j+9 by omega,Ã];exact c
  .rw [show 9 * (j+1)+1+i=9 * j+1+i+9 by omega,Ã];exact b i a
theorem ycr:∀ ts:List Int,v7 ts (9 * ts.length)=0
 | []=>rfl
 | t :: r=>by
  rw [show 9 * (t :: r).length=9 * r.length+9 by rw [ce]; omega,Ã];exact ycr r
theorem ykp (A:FA) (d:List Int) (S:FX × Sn) (c i:Nat):Á A d (rst A d S c) i=Á A d S (c+i):=by
 unfold Á;rw [ycf]
theorem yfz {n:Nat} {kd:Nat->Fin 3} {ps:Nat->List Int} {pre d:List Int} (hts:Sgs ts) (hd:Byt d) (hc:∀ j,j < (dec ts).length->Ch (jw n kd ps pre ts j)) (hl:(tL (snK (jw n kd ps pre ts) (v7 ts) (dec ts).length)).length <= d.length) (h:d.take (tL (snK (jw n kd ps pre ts) (v7 ts) (dec ts).length)).length=tL (snK (jw n kd ps pre ts) (v7 ts) (dec ts).length)) :
  ROk (fa0 n ps) d (rS n kd ps pre) ts.length/\rtx (fa0 n ps) d (rS n kd ps pre) ts.length=ts/\rTL (fa0 n ps) d (rS n kd ps pre) ts.length=(tL (snK (jw n kd ps pre ts) (v7 ts) (dec ts).length)).length:=by
 have p:=(je (bt:=v7 ts) _ hc).1;have a:=yhu hd p hl h;have b:=ub ts
 have f:rst (fa0 n ps) d (rS n kd ps pre) (9 * ts.length+1)=(fX n kd ps pre ts (dec ts).length,snK (jw n kd ps pre ts) (v7 ts) (dec ts).length):=by
  rw [<- b];exact Ü hd hc a _ (bA _)
 have c:=ygo hd hc a;refine ⟨⟨fun j o=>?_,?_,?_⟩,?_,?_⟩
 .rw [c _ (by omega)];exact (ÿ ts j o).1
 .rw [c _ (by omega)];exact ycr ts
 .rw [f];exact h
 .show (List.range ts.length).map (rsg (fa0 n ps) d (rS n kd ps pre))=ts;refine List.ext_getElem (by rw [bv,bW]) fun j q k=>?_;rw [cQ,List.getElem_range];have g:=hts ts[j] (bZ k);have l:=(ÿ ts j k).2
  have e:∀ i,i < 8->wB i * Á (fa0 n ps) d (rst (fa0 n ps) d (rS n kd ps pre) (9 * j+1)) i=wB i * (ts[j] / wB i % 2):=fun i a=>by
   rw [ykp,c _ (by omega),l i a]
  have m:sgB (fa0 n ps) d (rst (fa0 n ps) d (rS n kd ps pre) (9 * j+1)) 8=(List.range 8).map fun i=>wB i * (ts[j] / wB i % 2):=by
   unfold sgB;exact List.map_congr_left fun i a=>e i (cD.mp a)
  unfold rsg;rw [m];exact yyo g.1 g.2
 .unfold rTL;rw [f]
theorem š {ys:List Int} (h1:Byt xs) (h2:Byt ys):Byt (xs++ys):=fun b a=>by
 rcases bY.mp a with h | h
 .exact h1 b h
 .exact h2 b h
def Í (n:Nat) (kd:Nat->Fin 3) (ps:Nat->List Int) (pre ts:List Int):List Int:=tL (snK (jw n kd ps pre ts) (v7 ts) (dec ts).length)
theorem ydc {n:Nat} {kd:Nat->Fin 3} {ps:Nat->List Int} {pre:List Int} (n1:1 <= n) (n6:n <= 6) (hp:Ÿ pre) (hz:ts.length <= 300):(Í n kd ps pre ts).length <= 5500:=by
 have a:=ub ts;obtain ⟨c,b⟩:=je (mx:=jw n kd ps pre ts) (bt:=v7 ts) (dec ts).length fun j _=>Ū n1 n6 hp j;unfold Í;rw [yia];have:sz (snK (jw n kd ps pre ts) (v7 ts) (dec ts).length) <= 5500:=by show Int.toNat _ <= 5500; omega
 omega
theorem yjw {n:Nat} {kd:Nat->Fin 3} {ps:Nat->List Int} {pre bs:List Int} (n1:1 <= n) (n6:n <= 6) (hp:Ÿ pre) (hts:Sgs ts) (hb:Byt bs) :
  ROk (fa0 n ps) (Í n kd ps pre ts++bs) (rS n kd ps pre) ts.length/\rtx (fa0 n ps) (Í n kd ps pre ts++bs) (rS n kd ps pre) ts.length=ts/\rTL (fa0 n ps) (Í n kd ps pre ts++bs) (rS n kd ps pre) ts.length=(Í n kd ps pre ts).length :=
 yfz hts (š (yh7 _) hb) (fun j _=>Ū n1 n6 hp j) (by rw [bC]; exact Nat.le_add_right _ _) List.take_left
theorem yo2 {n:Nat} {kd:Nat->Fin 3} {ps:Nat->List Int} {pre bs:List Int} (n1:1 <= n) (n6:n <= 6) (hp:Ÿ pre) (hb:Byt bs):(rst (fa0 n ps) (Í n kd ps pre ts++bs) (rS n kd ps pre) (9 * ts.length+1)).1=((FX0 n kd).run (fa0 n ps) pre).run (fa0 n ps) (dec ts):=by
 have b:∀ j,j < (dec ts).length->Ch (jw n kd ps pre ts j):=fun j _=>Ū n1 n6 hp j;have a:Byt (Í n kd ps pre ts++bs):=š (yh7 _) hb;have c:=yhu a (je (bt:=v7 ts) _ b).1 (by rw [bC]; exact Nat.le_add_right _ _) List.take_left;rw [<- ub ts,Ü a b c _ (bA _)];unfold fX;rw [cP]
theorem yzx {x:Sn} {c b:Int} (h:Ok x) (hc:Ch c):(nar x c b).2.1 < 1099511627776:=by
 obtain ⟨a,f,d⟩:=ya8 h.w0 h.w1 hc;have e:=h.w1;unfold nar ren
 (repeat' split) <;> (dsimp only at *; omega)
theorem yj5 {n:Nat} {kd:Nat->Fin 3} {ps:Nat->List Int} {pre:List Int} (n1:1 <= n) (n6:n <= 6) (hp:Ÿ pre):1 <= (Í n kd ps pre ts).length:=by
 have d:=ub ts;obtain ⟨m,e⟩:∃ m,(dec ts).length=m+1:=⟨9 * ts.length,by omega⟩;unfold Í;rw [yia,e];have a:∀ j,j < m+1->Ch (jw n kd ps pre ts j):=fun j _=>Ū n1 n6 hp j;have g:=(je (bt:=v7 ts) m fun j l=>a j (by omega)).1;have c:=(je (bt:=v7 ts) (m+1) a).1;have k:(snK (jw n kd ps pre ts) (v7 ts) (m+1)).2.1 < 1099511627776:=yzx (x:=snK (jw n kd ps pre ts) (v7 ts) m) (b:=v7 ts m) g.ok (a m (by omega));have h:=yhk (Ũ c.ok);have i:=c.sz5;have f:pw (tK (snK (jw n kd ps pre ts) (v7 ts) (m+1))) < pw 5:=by rw [pw5]; omega
 have:=yxq f;omega
def Ú (L:List (List Int)):List Int:=(L.map dec).flatten
theorem ā (L:List (List Int)) (t:List Int):Ú (L++[t])=Ú L++dec t:=by
 unfold Ú;rw [bS,List.flatten_append];simp
theorem z6 (L:List (List Int)):Ÿ (Ú L):=fun b a=>by
 unfold Ú at a;obtain ⟨l,c,a⟩:=List.mem_flatten.mp a;obtain ⟨t,_,rfl⟩:=bD.mp c;exact zi t b a
theorem ykl {A:FA} {X:FX} (hts:Sgs ts) (h1:X.sg=[]) (h2:X.nd=0):(X.run A (dec ts)).sg=[]/\(X.run A (dec ts)).nd=0:=by
 have a:∀ k,k <= (dec ts).length->TxE ts k (X.run A ((dec ts).take k)).sg (X.run A ((dec ts).take k)).nd:=by
  intro k
  induction k with
  | zero =>
   intro _;exact .inl ⟨bR _,by show Ų _ _ X.sg X.nd; rw [h1,h2]; exact Ų.zero _⟩
  | succ k ih =>
   intro d;have b:(dec ts)[k]?=some ((dec ts)[k]'(by omega)):=bx _;rw [uo b];exact ((ih (by omega)).next hts b).2
 have e:=a _ (bA _);rw [cP] at e;have c:=ub ts;rcases e with ⟨h,_⟩ | ⟨_,h⟩
 .omega
 .exact h
def yr9 (p:Addr) (A:FA) (O:Nat->Addr->Prop):Addr->Prop:=fun c=>c=p\/c=A.mp\/(∃ j,j < A.n/\c=A.bk j)\/(∃ j,j < A.n/\O j c)\/c=A.el
def FZ (K:W.Frag) (a:Ads) (H:Hp) (p:Addr) (n:Nat) (kd:Nat->Fin 3) (ps:Nat->List Int) (pre:List Int) (M:Nat) (W:Addr->Prop):Prop :=
 ∃ A f O m,zb K a H p A ((FX0 n kd).run (fa0 n ps) pre) f O m/\m <= M/\yx7 H A/\A.n=n/\A.kd=kd/\A.ps=ps/\((FX0 n kd).run (fa0 n ps) pre).sg=[]/\((FX0 n kd).run (fa0 n ps) pre).nd=0/\∀ c,W c ↔ yr9 p A O c
def yr8:HO->Bool
 | .ins _ _ _=>true
 | .dT _=>true
 | .dK _=>true
 | .frz _ (.dK _)=>true
 | _=>false
def yyc (o:Option HO):Prop:=(∃ ys,o=some (.lst ys))\/∃ ys,o=some (.tup ys)/\ys.length≠2
def WSh (H:Hp) (W:Addr->Prop):Prop:=∀ c,W c->∃ o,H c=some o/\(yr8 o=true\/∃ xs,o=.lst xs/\∀ x∈xs,(∃ s,x=V.str s)\/x=V.non\/∃ q,x=V.ref q/\yyc (H q))
theorem yno {o:HO} (h:yya o=true):yr8 o=true:=by
 cases o <;> first | rfl | cases h
section
variable {H H':Hp} {n:Nat} {kd:Nat->Fin 3} {ps:Nat->List Int} {pre:List Int} {M:Nat} {W:Addr->Prop}
theorem FZ.sh (h:FZ K a H p n kd ps pre M W):WSh H W:=fun c w=>by
 obtain ⟨A,f,O,m,d,_,_,_,_,_,k,_,e⟩:=h;rcases (e c).mp w with z | z | ⟨j,g,z⟩ | ⟨j,g,z⟩ | z
 .exact ⟨_,by rw [z]; exact d.me,.inl rfl⟩
 .exact ⟨_,by rw [z]; exact d.mx.o,.inl rfl⟩
 .exact ⟨_,by rw [z]; exact (d.B.b j g).me,.inl rfl⟩
 .obtain ⟨o,l,q⟩:=(d.B.b j g).own c z;exact ⟨o,l,.inl (yno q)⟩
 .have i:=d.el;rw [k] at i;exact ⟨_,by rw [z]; exact i,.inr ⟨_,rfl,fun x r=>by cases r⟩⟩
theorem FZ.live (h:FZ K a H p n kd ps pre M W):∀ c,W c->∃ o,H c=some o:=fun c w=>let ⟨o,e,_⟩:=h.sh c w; ⟨o,e⟩
theorem FZ.same (h:FZ K a H p n kd ps pre M W) (S:yy H H'):FZ K a H' p n kd ps pre M W:=by
 obtain ⟨A,f,O,m,b,c,d,r⟩:=h;exact ⟨A,f,O,m,b.same S,c,d.same S,r⟩
theorem FZ.up (h:FZ K a H p n kd ps pre M W) {M':Nat} (hM:M <= M'):FZ K a H p n kd ps pre M' W:=by
 obtain ⟨A,f,O,m,b,c,r⟩:=h;exact ⟨A,f,O,m,b,cc c hM,r⟩
theorem WSh.tup (h:WSh H W) {xs:List V} (e:H c=some (.tup xs)):¬ W c:=fun w=>by
 obtain ⟨o,a,z | ⟨b,z,_⟩⟩:=h c w
 .rw [e] at a; cases a; cases z
 .rw [e,z] at a; cases a
theorem WSh.ints (h:WSh H W) {ns:List Int} (e:H c=some (.lst (ns.map V.int))) (hn:1 <= ns.length):¬ W c:=fun w=>by
 obtain ⟨o,a,z | ⟨b,z,q⟩⟩:=h c w
 .rw [e] at a; cases a; cases z
 .rw [e,z] at a;cases a
  cases ns with
  | nil=>cases hn
  | cons x r=>rcases q (.int x) ck with ⟨_,z⟩ | z | ⟨_,z,_⟩ <;> cases z
theorem WSh.refs (h:WSh H W) {g:Nat->Addr} {k:Nat} (e:H c=some (.lst (Law.refs g k))) (hk:1 <= k) (hg:¬ yyc (H (g 0))):¬ W c:=fun w=>by
 obtain ⟨o,a,z | ⟨f,z,q⟩⟩:=h c w
 .rw [e] at a; cases a; cases z
 .rw [e,z] at a;cases a;rcases q (.ref (g 0)) (bM (yg1 hk)) with ⟨_,z⟩ | z | ⟨d,z,b⟩
  .cases z
  .cases z
  .cases z; exact hg b
theorem FZ.frame (h:FZ K a H p n kd ps pre M W) (sh:WSh H W2) (dj:∀ c,W c->¬ W2 c) (fr:∀ c o,H c=some o->¬ W2 c->H' c=some o):FZ K a H' p n kd ps pre M W:=by
 obtain ⟨A,f,O,m,j,hm,v,U,P,T,e4,N,q⟩:=h;have k:=j.n1;obtain ⟨Y,d⟩:=v.2.2
 have y:¬ W2 A.ll:=sh.refs v.1 k fun z=>by
  obtain ⟨G,e,u,_⟩:=d 0 k;cases e;rw [u] at z;rcases z with ⟨_,z⟩ | ⟨_,z,X⟩
  .cases z
  .cases z; exact X rfl
 have x:¬ W2 A.bl:=sh.refs j.bl k fun z=>by rw [(j.B.b 0 k).me] at z; rcases z with ⟨_,z⟩ | ⟨_,z,_⟩ <;> cases z
 have F:¬ W2 A.pl:=sh.refs j.pl k fun z=>by
  obtain ⟨_,⟨R,L⟩,_,_⟩:=j.slot k;obtain ⟨C,fs,Q⟩:=ď a R (((FX0 n kd).run (fa0 n ps) pre).g 0 (((FX0 n kd).run (fa0 n ps) pre).key A 0));rw [L,Q] at z;rcases z with ⟨_,z⟩ | ⟨_,z,_⟩ <;> cases z
 have D:¬ W2 A.ml:=sh.ints j.mx.l (by rw [j.wok.len]; exact k);refine ⟨A,f,O,m,j.frame (O2:=W2) (fun c o e S=>fr c o e S) (dj _ ((q _).mpr (.inl rfl))) (dj _ ((q _).mpr (.inr (.inl rfl)))) (fun i r=>dj _ ((q _).mpr (.inr (.inr (.inl ⟨i,r,rfl⟩))))) (fun i c r w=>dj _ ((q _).mpr (.inr (.inr (.inr (.inl ⟨i,r,w⟩)))))) (fun l Z E e=>fr _ _ e ?_) (fun t Z e=>?_),hm,⟨fr _ _ v.1 y,v.2.1,Y,fun i r=>?_⟩,U,P,T,e4,N,q⟩
 .rcases E with z | z | z | z
  .rw [z]; exact x
  .rw [z]; exact dj _ ((q _).mpr (.inr (.inr (.inr (.inr rfl)))))
  .rw [z]; exact D
  .rw [z]; exact F
 .rcases e with (e | ⟨o,e⟩) | e
  .exact .inl (.inl (fr _ _ e (sh.tup e)))
  .refine .inl (.inr ⟨o,fr _ _ e fun w=>?_⟩);obtain ⟨o',s,z | ⟨ys,z,_⟩⟩:=sh t w
   .rw [e] at s; cases s; cases z
   .rw [e,z] at s; cases s
  .exact .inr e
 .obtain ⟨G,z,u,I,J⟩:=d i r;exact ⟨G,z,fr _ _ u (sh.tup u),fr _ _ I (sh.tup I),J⟩
theorem FZ.went {A:FA} {f f':Nat->List Int->Option Slt} {m:Nat} {X:FX} {ml el pl:Addr} {sl:Nat->Addr} (hF:zb K a H p A ((FX0 A.n A.kd).run (fa0 A.n A.ps) pre) f O m) (hl:yx7 H A) (hX:X=(FX0 A.n A.kd).run (fa0 A.n A.ps) (pre++dec ts)) (hts:Sgs ts) (h4:((FX0 A.n A.kd).run (fa0 A.n A.ps) pre).sg=[]) (h5:((FX0 A.n A.kd).run (fa0 A.n A.ps) pre).nd=0)
  (hF':zb K a H' p (A.re ml el pl sl) X f' O' m') (go:FGo p A O H H' el O') (e6:∀ c,W c ↔ yr9 p A O c):FZ K a H' p A.n A.kd A.ps (pre++dec ts) m' (yr9 p (A.re ml el pl sl) O')/\Go W H H' (yr9 p (A.re ml el pl sl) O'):=by
 subst hX;have h:=go.kpa hF;have d:=ykl (A:=fa0 A.n A.ps) hts h4 h5;refine ⟨⟨_,f',O',m',hF',bA _,⟨(h _ _ hl.1 rfl hl.2.1).2,(h _ _ hl.1 rfl hl.2.1).1,?_⟩,rfl,rfl,rfl,by rw [j7]; exact d.1,by rw [j7]; exact d.2,fun c=>Iff.rfl⟩,⟨fun c o e x=>?_,fun c w=>?_,go.live⟩⟩
 .obtain ⟨B,r⟩:=hl.2.2;refine ⟨B,fun i u=>?_⟩;obtain ⟨t,z,q,k,s⟩:=r i u;have l:∀ {c:Addr} {xs:List V},H c=some (.tup xs)->c≠A.el:=fun e z=>by rw [z,hF.el] at e; cases e
  exact ⟨t,z,(h _ _ q rfl (l q)).2,(h _ _ k rfl (l k)).2,s⟩
 .have b:¬ yr9 p A O c:=fun w=>x ((e6 c).mpr w);exact go.fr c o e (fun z=>b (.inl z)) (fun z=>b (.inr (.inl z))) (fun z=>b (.inr (.inr (.inr (.inr z))))) fun j g w=>b (.inr (.inr (.inr (.inl ⟨j,g,w⟩))))
 .rcases w with z | z | ⟨j,g,z⟩ | ⟨j,g,z⟩ | z
  .exact .inl ((e6 c).mpr (.inl z))
  .exact .inl ((e6 c).mpr (.inr (.inl z)))
  .exact .inl ((e6 c).mpr (.inr (.inr (.inl ⟨j,g,z⟩))))
  .rcases go.hO j c g z with v | v
   .exact .inl ((e6 c).mpr (.inr (.inr (.inr (.inl ⟨j,g,v⟩)))))
   .exact .inr v
  .rcases go.he with y | y
   .exact .inl ((e6 c).mpr (.inr (.inr (.inr (.inr (show c=A.el from Eq.trans z y))))))
   .exact .inr (by rw [show c=el from z]; exact y)
theorem FZ.read {Q:VK} {E:XK} {dt:Addr} {bs:List Int} {mo:Nat} (h:FZ K a H p n kd ps pre M W) (hb:Ÿ pre) (hts:Sgs ts) (hdt:H dt=some (.lst ((Í n kd ps pre ts++bs).map V.int))) (ndt:¬ W dt) (hbs:Byt bs) (hdl:(Í n kd ps pre ts++bs).length <= 12000) (hz:ts.length <= mo) (hmo:mo <= 1000) (hM:M+54 * mo+200 < 1000000)
  (k:∀ t r W' H',H t=none->H r=none->H' t=some (.tup [.ref r,.int ((Í n kd ps pre ts).length:Nat)])->H' r=some (.lst (ts.map V.int))->FZ K a H' p n kd ps (pre++dec ts) (M+6 * (dec ts).length) W'->Go W H H' W'->¬ W' r->Q (.ref t) H'):û K a [.ref p,.ref dt,.int mo] H Q E:=by
 obtain ⟨A,f,O,m,l,hm,hl,rfl,rfl,rfl,Y,S,U⟩:=h;obtain ⟨s,D,u⟩:=yjw (kd:=A.kd) (ps:=A.ps) (pre:=pre) (bs:=bs) l.n1 l.n6 hb hts hbs;have v:Byt (Í A.n A.kd A.ps pre ts++bs):=š (yh7 _) hbs;refine ⟨p,A,_,f,O,m,dt,_,mo,rfl,l,hdt,fun z=>ndt ((U _).mpr (.inr (.inr (.inr (.inr z))))),v,hdl,hmo,by omega,by rw [S]; decide,by rw [Y]; exact bR _,fun N t r x O' H' hN i G F q d T c=>?_,fun I x O' H' T=>?_⟩
 .rw [ROk.fa0] at i;obtain rfl:N=ts.length:=s.uniq i.b1 i.b0;rw [ynw] at q;rw [yot] at d;have q:H' t=some (.tup [.ref r,.int (rTL (fa0 A.n A.ps) (Í A.n A.kd A.ps pre ts++bs) (rS A.n A.kd A.ps pre) ts.length)]):=q;have d:H' r=some (.lst ((rtx (fa0 A.n A.ps) (Í A.n A.kd A.ps pre ts++bs) (rS A.n A.kd A.ps pre) ts.length).map V.int)):=d;rw [u] at q;rw [D] at d;obtain ⟨C,R,L,X,f',c⟩:=c;have J:=ub ts
  have Z:(rst A (Í A.n A.kd A.ps pre ts++bs) ((FX0 A.n A.kd).run (fa0 A.n A.ps) pre,s0) (9 * ts.length+1)).1=(FX0 A.n A.kd).run (fa0 A.n A.ps) (pre++dec ts):=by
   rw [j4,j7];exact yo2 l.n1 l.n6 hb hbs
  obtain ⟨z,g⟩:=FZ.went l hl Z hts Y S c T U;refine k t r _ H' G F q d (z.up (by omega)) g fun w=>?_;rcases w with w | w | ⟨j,y,w⟩ | ⟨j,y,w⟩ | w
  .have e:=c.me;rw [<- w,d] at e;cases e
  .have e:=c.mx.o;rw [show r=(A.re R x L X).mp from w] at d;rw [d] at e;cases e
  .have e:=(c.B.b j y).me;rw [show r=(A.re R x L X).bk j from w] at d;rw [d] at e;cases e
  .obtain ⟨o,P,hi⟩:=(c.B.b j y).own _ w;rw [d] at P;cases P;cases hi
  .exact C w
 .exact (I ts.length hz (by rw [ROk.fa0]; exact s)).elim
theorem FZ.press {Q:VK} {E:XK} {tx:Addr} (h:FZ K a H p n kd ps pre M W) (htx:Ĕ H tx ts 1000) (ntx:¬ W tx) (hM:M+6 * (dec ts).length+20 < 1000000)
  (k:∀ r W' H',H r=none->H' r=some (.lst ((Í n kd ps pre ts).map V.int))->FZ K a H' p n kd ps (pre++dec ts) (M+6 * (dec ts).length) W'->Go W H H' W'->Q (.ref r) H'):ş K a [.ref p,.ref tx] H Q E:=by
 obtain ⟨A,f,O,m,l,I,w,rfl,rfl,rfl,o,d,i⟩:=h;refine ⟨p,A,_,f,O,m,tx,ts,rfl,l,o,d,htx,fun z=>ntx ((i _).mpr (.inr (.inr (.inr (.inr z))))),by omega,fun r y G x C D F B H' c u b v t=>?_⟩;have q:((FX0 A.n A.kd).run (fa0 A.n A.ps) pre).run A (dec ts)=(FX0 A.n A.kd).run (fa0 A.n A.ps) (pre++dec ts):=by rw [j7]; exact Ċ A _ _
 obtain ⟨z,g⟩:=FZ.went l w q htx.s o d b t i;refine k r _ H' c ?_ (z.up (by omega)) g;rw [u];have e:snK (ĕ A ((FX0 A.n A.kd).run (fa0 A.n A.ps) pre) ts) (v7 ts) (dec ts).length=snK (jw A.n A.kd A.ps pre ts) (v7 ts) (dec ts).length:=ü _ fun j _=>⟨by unfold jw ĕ fX; rw [Ċ A]; rfl,rfl⟩;rw [e];rfl
end
theorem yny {k:Nat} {ws cs:List Int} {b:Int} (hw:WOk k ws) (hc:COk k cs):∀ s∈shL ws cs b,32768 <= s:=by
 intro s a;unfold shL at a;rw [List.mem_iff_getElem] at a;obtain ⟨i,d,rfl⟩:=a;rw [List.length_zipWith] at d;rw [List.getElem_zipWith];have e:=hw.one ws[i] (bZ _);have c:=ym4 (b:=b) (hc.lo cs[i] (bZ _)) (hc.hi cs[i] (bZ _));have:=Int.mul_le_mul e c (by decide) (by omega);omega
theorem yod {k:Nat} {ws cs:List Int} {b:Int} (hk:1 <= k) (hk6:k <= 6) (hw:WOk k ws) (hc:COk k cs):∀ w∈lrn ws cs b,256 <= w:=by
 have e:(shL ws cs b).length=k:=by rw [ů (by rw [hw.len,hc.len]),hw.len]
 have j:=yhh (b:=b) hw hc
 have q:32768 <= (shL ws cs b).sum:=by
  have:=yd4 (c:=32768) (yny (b:=b) hw hc);rw [e] at this; omega
 have f:=yk3 j;have d:=yhl (shL ws cs b);rw [e] at d
 have i:1 <= (grL (shL ws cs b)).sum:=by
  rw [d];have:32 * (k:Int) * 1 <= 32 * (k:Int) * (shL ws cs b).sum:=cC (by omega) (by omega);omega
 have g:(grL (shL ws cs b)).sum <= 192 * (shL ws cs b).sum:=by
  rw [d]; exact cr (by omega) (by omega)
 obtain ⟨n,a⟩:=yl8 i;have l:=yht (tOf (grL (shL ws cs b)).sum);intro w h;obtain ⟨v,m,rfl⟩:=bD.mp h;obtain ⟨o,r,p⟩:=f v m;refine (Int.le_ediv_iff_mul_le l).mpr ?_;rcases a with a | a
 .rw [a,Int.pow_zero]; omega
 .generalize (2:Int) ^ tOf (grL (shL ws cs b)).sum=T at *;omega
theorem yg6 {n:Nat} (n1:1 <= n) (n6:n <= 6) (ps:Nat->List Int):∀ (bs:List Int) {X:FX},XOk n X->(∀ w∈X.ws,256 <= w)->Ÿ bs->∀ w∈(X.run (fa0 n ps) bs).ws,256 <= w
 | [],_,_,h,_=>h
 | b :: r,X,hx,_,hb=>yg6 n1 n6 ps r (hx.see n1 n6 ps (hb b (by simp)).1 (hb b (by simp)).2) (yod (b:=b) n1 n6 hx.w (hx.cs ps)) fun c a=>hb c (by simp [a])
theorem ykf {n:Nat} (n1:1 <= n) (n6:n <= 6) {kd:Nat->Fin 3} {ps:Nat->List Int} {pre:List Int} (hp:Ÿ pre):∀ w∈((FX0 n kd).run (fa0 n ps) pre).ws,256 <= w :=
 yg6 n1 n6 ps pre (XOk.zero n1 n6 kd) (fun w a=>by
  have e:w∈List.replicate n (1099511627776:Int):=a;rw [cG e];decide) hp
def ynb (H:Hp) (W:Addr->Prop):Prop:=∀ c,W c->∃ o,H c=some o/\(yr8 o=true\/∃ xs,o=.lst xs/\∀ x∈xs,(∃ s,x=V.str s)\/x=V.non\/(∃ q,x=V.ref q/\yyc (H q))\/∃ i:Int,x=V.int i/\i < 256)
theorem ynb.tup {H:Hp} {W:Addr->Prop} (h:ynb H W) {xs:List V} (e:H c=some (.tup xs)):¬ W c:=fun w=>by
 obtain ⟨o,a,z | ⟨b,z,_⟩⟩:=h c w
 .rw [e] at a; cases a; cases z
 .rw [e,z] at a; cases a
theorem ynb.ints {H:Hp} {W:Addr->Prop} (h:ynb H W) {ns:List Int} (e:H c=some (.lst (ns.map V.int))) (hn:1 <= ns.length) (hb:∀ x∈ns,256 <= x):¬ W c:=fun w=>by
 obtain ⟨o,a,z | ⟨b,z,q⟩⟩:=h c w
 .rw [e] at a; cases a; cases z
 .rw [e,z] at a;cases a
  cases ns with
  | nil=>cases hn
  | cons x r =>
   rcases q (.int x) ck with ⟨_,z⟩ | z | ⟨_,z,_⟩ | ⟨i,z,d⟩
   .cases z
   .cases z
   .cases z
   .cases z;have:=hb x ck;omega
theorem ynb.refs {H:Hp} {W:Addr->Prop} (h:ynb H W) {g:Nat->Addr} {k:Nat} (e:H c=some (.lst (Law.refs g k))) (hk:1 <= k) (hg:¬ yyc (H (g 0))):¬ W c:=fun w=>by
 obtain ⟨o,a,z | ⟨f,z,q⟩⟩:=h c w
 .rw [e] at a; cases a; cases z
 .rw [e,z] at a;cases a;rcases q (.ref (g 0)) (bM (yg1 hk)) with ⟨_,z⟩ | z | ⟨d,z,b⟩ | ⟨i,z,_⟩
  .cases z
  .cases z
  .cases z; exact hg b
  .cases z
theorem FZ.frameI {H H':Hp} {n:Nat} {kd:Nat->Fin 3} {ps:Nat->List Int} {pre:List Int} {M:Nat} {W:Addr->Prop} (h:FZ K a H p n kd ps pre M W) (hpre:Ÿ pre) (sh:ynb H W2) (dj:∀ c,W c->¬ W2 c) (fr:∀ c o,H c=some o->¬ W2 c->H' c=some o):FZ K a H' p n kd ps pre M W:=by
 obtain ⟨A,f,O,m,d,hm,v,F,R,X,e4,Q,q⟩:=h;have k:=d.n1;have N:=d.n6;obtain ⟨Z,j⟩:=v.2.2
 have y:¬ W2 A.ll:=sh.refs v.1 k fun z=>by
  obtain ⟨I,e,u,_⟩:=j 0 k;cases e;rw [u] at z;rcases z with ⟨_,z⟩ | ⟨_,z,Y⟩
  .cases z
  .cases z; exact Y rfl
 have x:¬ W2 A.bl:=sh.refs d.bl k fun z=>by rw [(d.B.b 0 k).me] at z; rcases z with ⟨_,z⟩ | ⟨_,z,_⟩ <;> cases z
 have G:¬ W2 A.pl:=sh.refs d.pl k fun z=>by
  obtain ⟨_,⟨T,P⟩,_,_⟩:=d.slot k;obtain ⟨C,fs,S⟩:=ď a T (((FX0 n kd).run (fa0 n ps) pre).g 0 (((FX0 n kd).run (fa0 n ps) pre).key A 0));rw [P,S] at z;rcases z with ⟨_,z⟩ | ⟨_,z,_⟩ <;> cases z
 have D:¬ W2 A.ml:=sh.ints d.mx.l (by rw [d.wok.len]; exact k) (ykf (by rw [<- F]; exact k) (by rw [<- F]; exact N) hpre);refine ⟨A,f,O,m,d.frame (O2:=W2) (fun c o e U=>fr c o e U) (dj _ ((q _).mpr (.inl rfl))) (dj _ ((q _).mpr (.inr (.inl rfl)))) (fun i r=>dj _ ((q _).mpr (.inr (.inr (.inl ⟨i,r,rfl⟩))))) (fun i c r w=>dj _ ((q _).mpr (.inr (.inr (.inr (.inl ⟨i,r,w⟩)))))) (fun l xs E e=>fr _ _ e ?_) (fun t xs e=>?_),hm,⟨fr _ _ v.1 y,v.2.1,Z,fun i r=>?_⟩,F,R,X,e4,Q,q⟩
 .rcases E with z | z | z | z
  .rw [z]; exact x
  .rw [z]; exact dj _ ((q _).mpr (.inr (.inr (.inr (.inr rfl)))))
  .rw [z]; exact D
  .rw [z]; exact G
 .rcases e with (e | ⟨o,e⟩) | e
  .exact .inl (.inl (fr _ _ e (sh.tup e)))
  .refine .inl (.inr ⟨o,fr _ _ e fun w=>?_⟩);obtain ⟨o',s,z | ⟨ys,z,_⟩⟩:=sh t w
   .rw [e] at s; cases s; cases z
   .rw [e,z] at s; cases s
  .exact .inr e
 .obtain ⟨I,z,u,J,L⟩:=j i r;exact ⟨I,z,fr _ _ u (sh.tup u),fr _ _ J (sh.tup J),L⟩
def nmL (L:List (Str × List Int)):List V:=L.map fun x=>V.str x.1
def Ŵ (H:Hp) (U:Addr->Prop):List (Str × List Int)->List V->Prop
 | [],ks=>ks=[]
 | x :: r,ks=>∃ k ks',ks=k :: ks'/\(k=.non\/∃ q,k=.ref q/\H q=some (.lst (x.2.map V.int))/\¬ U q)/\Ŵ H U r ks'
theorem Ŵ.len {H:Hp} :∀ {L:List (Str × List Int)} {ks:List V},Ŵ H U L ks->ks.length=L.length
 | [],_,h=>by rw [show _=_ from h]; rfl
 | _ :: r,_,⟨_,_,e,_,h⟩=>by rw [e,ce,ce,h.len]
theorem Ŵ.mono {H H':Hp} (f:∀ q xs,H q=some (.lst xs)->¬ U q->H' q=some (.lst xs)/\¬ U' q):∀ {L:List (Str × List Int)} {ks:List V},Ŵ H U L ks->Ŵ H' U' L ks
 | [],_,h=>h
 | _ :: _,_,⟨k,ks',e,z,h⟩=>⟨k,ks',e,z.imp id fun ⟨q,e,b,a⟩=>⟨q,e,f q _ b a⟩,h.mono f⟩
theorem Ŵ.snoc {H:Hp} {nm:Str} {t:List Int} {k:V} (hk:k=.non\/∃ q,k=.ref q/\H q=some (.lst (t.map V.int))/\¬ U q):∀ {L:List (Str × List Int)} {ks:List V},Ŵ H U L ks->Ŵ H U (L++[(nm,t)]) (ks++[k])
 | [],_,h=>by rw [show _=_ from h]; exact ⟨k,[],rfl,hk,rfl⟩
 | _ :: _,_,⟨k',ks',e,z,h⟩=>⟨k',ks'++[k],by rw [e]; rfl,z,h.snoc hk⟩
theorem Ŵ.mem {H:Hp} :∀ {L:List (Str × List Int)} {ks:List V},Ŵ H U L ks->∀ x∈ks,x=.non\/∃ q ys,x=.ref q/\H q=some (.lst ys)/\¬ U q
 | [],_,h,x,hx=>by rw [show _=_ from h] at hx; cases hx
 | _ :: _,_,⟨k,ks',e,z,h⟩,x,hx=>by
  rw [e] at hx;rcases bI.mp hx with y | y
  .rw [y];exact z.imp id fun ⟨q,e,b,a⟩=>⟨q,_,e,b,a⟩
  .exact h.mem x y
def ChW (ll tl:Addr) (W:Addr->Prop):Addr->Prop:=fun c=>c=ll\/c=tl\/W c
structure Â (K:W.Frag) (a:Ads) (H:Hp) (c dc p ll tl:Addr) (n:Nat) (kd:Nat->Fin 3) (ps:Nat->List Int) (L:List (Str × List Int)) (ks:List V) (M:Nat) (W:Addr->Prop):Prop where
 me:H c=some (.ins a.A1 dc (ja (.ref p) (.ref ll) (.ref tl)))
 fz:FZ K a H p n kd ps (Ú (L.map (·.2))) M W
 hl:H ll=some (.lst (nmL L))
 ht:H tl=some (.lst ks)
 tx:Ŵ H (ChW ll tl W) L ks
 nc:¬ W c
 nll:¬ W ll
 ntl:¬ W tl
 ne:ll≠tl
theorem FZ.new {H:Hp} {dp l:Addr} {n:Nat} {lk:Nat->Addr} {kd:Nat->Fin 3} {ps:Nat->List Int} {Q:VK} {E:XK} (np:H p=none) (ndp:H dp=none) (hl:H l=some (.lst (refs lk n))) (n1:1 <= n) (n6:n <= 6) (r:xu H n lk kd tp ps)
  (k:∀ W H',FZ K a H' p n kd ps [] 6 W->(∀ c,W c->H c=none)->yy H H'->(∀ y xs H'',H y=some (.lst xs)->But y H' H''->FZ K a H'' p n kd ps [] 6 W)->Q .non H'):ś K a [.ref p,.ref l] (upd (upd H dp (.own p)) p (.ins a.A2 dp [])) Q E:=by
 have d:yy H (upd (upd H dp (.own p)) p (.ins a.A2 dp [])):=fun b o e=>by rw [yq (yd e np),yq (yd e ndp)]; exact e
 refine ⟨p,dp,.ref l,rfl,yc,.inr ⟨l,n,lk,kd,tp,ps,rfl,d _ _ hl,n1,n6,r.same d,fun A f O J U X=>?_⟩⟩;have v:yy H J:=fun b o e=>X b o (d b o e) (yd e np);obtain ⟨h,rfl,rfl,rfl,rfl,M,L,T,R,m,u,I⟩:=U;refine k (yr9 p A O) J ⟨A,f,O,6,h,bA _,⟨m,u,tp,r.same v⟩,rfl,rfl,rfl,rfl,rfl,fun c=>Iff.rfl⟩ (fun c w=>?_) v (fun y xs H2 P b=>?_)
 .rcases w with z | z | ⟨j,D,z⟩ | ⟨j,D,z⟩ | z
  .rw [z]; exact np
  .rw [z]; exact d.free T
  .rw [z]; exact d.free (L j D)
  .exact d.free (M j c D z)
  .exact d.free (R c (.inr (.inl z)))
 .have g:∀ {x:Addr},H x=none->x≠y:=fun {x} e z=>by rw [z,P] at e; cases e
  have q:=v _ _ P;have F:∀ {x:Addr} {B:List V},J x=some (.tup B)->x≠y:=fun {x B} e z=>by rw [z,q] at e; cases e
  refine ⟨A,f,O,6,h.frame (O2:=fun c=>c=y) (fun c o e Z=>b c o e Z) (g np) (g (d.free T)) (fun i s=>g (d.free (L i s))) (fun i c s w=>g (d.free (M i c s w))) (fun l B C e=>b _ _ e (g (d.free (R l C)))) (fun t B e=>?_),bA _,⟨b _ _ m (g (d.free I)),u,tp,fun i s=>?_⟩,rfl,rfl,rfl,rfl,rfl,fun c=>Iff.rfl⟩
  .rcases e with (e | ⟨o,e⟩) | e
   .exact .inl (.inl (b _ _ e (F e)))
   .exact .inl (.inr ⟨o,b _ _ e (fun z=>by rw [z,q] at e; cases e)⟩)
   .exact .inr e
  .obtain ⟨G,e,N,S,Y⟩:=r.same v i s;exact ⟨G,e,b _ _ N (F N),b _ _ S (F S),Y⟩
@[irreducible] def yna (c:Nat):Bool:=!(Builtin.Str.occurrences "abcdefghijklmnopqrstuvwxyz" ⟨#[c]⟩ 0 (Str.length "abcdefghijklmnopqrstuvwxyz") 1).isEmpty
def nmS (x:Str):Bool:=decide (1 <= (x.length:Int)) && (decide ((x.length:Int) <= 8) && x.cps.toList.all yna)
def nmV:V->Bool
 | .str x=>nmS x
 | _=>false
theorem yn9 (x:Str):(List.range x.cps.size).map (fun i=>V.bl (yna (x.cps.toList.getD i 0)))=(x.cps.toList.map yna).map V.bl:=by
 rw [cg];refine List.ext_getElem? fun i=>?_;rw [bB,bB];by_cases hi:i < x.cps.size
 .rw [cL hi,bx (by rw [cB]; exact hi),cK,cK,cq,bx (by rw [cB]; exact hi),Option.getD_some,Function.comp_apply]
 .rw [cn (by rw [bW]; omega),cn (by rw [cB]; omega),Option.map_none,Option.map_none]
theorem ywm {x:Str} (h1:(1:Int) <= (x.length:Int)) (h8:(x.length:Int) <= 8):nmV (.str x)=(x.cps.toList.map yna).all id:=by
 have e:nmV (.str x)=nmS x:=by unfold nmV; rfl
 rw [e];unfold nmS;rw [bJ h1,bJ h8,List.all_map,Function.id_comp,Bool.true_and,Bool.true_and]
theorem ywc {x:Str} (h8:¬ (x.length:Int) <= 8):nmV (.str x)=false:=by
 have e:nmV (.str x)=nmS x:=by unfold nmV; rfl
 rw [e];unfold nmS;rw [bO h8,Bool.false_and,Bool.and_false]
theorem ysq {x:Str} (h1:¬ (1:Int) <= (x.length:Int)):nmV (.str x)=false:=by
 have e:nmV (.str x)=nmS x:=by unfold nmV; rfl
 rw [e];unfold nmS;rw [bO h1,Bool.false_and]
theorem yt1 {x:V} (h:nmV x=true):∃ b,x=.str b/\nmS b=true:=by
 cases x with
 | str b=>exact ⟨b,rfl,h⟩
 | _=>cases h
theorem č {x:Str} (h:nmS x=true):x.length <= 8:=by
 unfold nmS at h;simp only [bX,decide_eq_true_eq] at h;have:=h.2.1;omega
def smS:Str:=Str.ofString "abcdefghijklmnopqrstuvwxyz"
theorem yhx:smS.length=26:=by right
theorem yun:∀ i,i < 26->smS.cps[i]?=some (97+i):=by right
theorem yqo {i:Int} (h0:0 <= i) (h1:i < 26):smS.cps[i.toNat]?=some (97+i.toNat):=yun _ (by omega)
theorem ywx:∀ i,i < 26->yna (97+i)=true:=by right
def yco (l:List Nat):Prop:=∀ c,c∈l->97 <= c/\c < 123
theorem yco.app {l m:List Nat} (h:yco l) (g:yco m):yco (l++m):=fun c a=>(bY.mp a).elim (h c) (g c)
theorem yco.one {c:Nat} (h:97 <= c/\c < 123):yco [c]:=fun d a=>by rw [bQ.mp a]; exact h
theorem yco.take {l:List Nat} (h:yco l) (k:Nat):yco (l.take k):=fun c a=>h c (cH a)
theorem yco.drop {l:List Nat} (h:yco l) (k:Nat):yco (l.drop k):=fun c a=>h c (List.mem_of_mem_drop a)
theorem yxm {x:Str} (h:yco x.cps.toList) (h1:1 <= x.cps.toList.length) (h8:x.cps.toList.length <= 8):nmS x=true/\PyData.strOk x=true:=by
 have e:x.length=x.cps.toList.length:=by simp [Str.length]
 refine ⟨?_,?_⟩
 .unfold nmS;rw [bJ (by omega),bJ (by omega),Bool.true_and,Bool.true_and,List.all_eq_true];intro c a;obtain ⟨d,b⟩:=h c a;have:=ywx (c - 97) (by omega)
  rwa [show 97+(c - 97)=c by omega] at this
 .unfold PyData.strOk;rw [<- Array.all_toList,List.all_eq_true];intro c a;obtain ⟨d,b⟩:=h c a;exact bJ (by omega)
theorem ĉ (x y:Str):(x++y).cps.toList=x.cps.toList++y.cps.toList:=by rw [PySem.Str.cps_append,Array.toList_append]
theorem ċ (x:Str):x.length=x.cps.toList.length:=by simp [Str.length]
def yr5 (z:Str) (j:Nat) (c:Nat):Str:=Txt.slice z none (some (j:Int))++⟨#[c]⟩++Txt.slice z (some (j:Int)) none
theorem à {z:Str} {c:Nat} (hj:j <= z.length):(yr5 z j c).cps.toList=z.cps.toList.take j++[c]++z.cps.toList.drop j:=by
 unfold yr5;rw [ĉ,ĉ,yja hj,ye5 hj]
theorem ynt {z:Str} {c:Nat} (hj:j <= z.length) (hz:yco z.cps.toList) (hc:97 <= c/\c < 123) (h7:z.length <= 7):nmS (yr5 z j c)=true/\PyData.strOk (yr5 z j c)=true:=by
 have e:=ċ z;refine yxm ?_ ?_ ?_
 .rw [à hj];exact ((hz.take j).app (.one hc)).app (hz.drop j)
 .rw [à hj]; simp; omega
 .rw [à hj,bC,bC,bT,cM,cy]; omega
theorem ykk {z:Str} {c d:Nat} (hj:j <= z.length) (e:yr5 z j c=yr5 z j d):c=d:=by
 have h:=congrArg (fun x:Str=>x.cps.toList) e;simp only [à hj] at h;rw [cz,cz] at h;have a:=List.append_cancel_left h;simp at a;exact a
theorem ù {H:Hp}:∀ ns:List Str,yfl K H (ns.map V.str) (ns.map PyData.str)
 | []=>.nil
 | n :: r=>.cons (.str n) (ù r)
theorem í:∀ ns:List Str,(∀ x,x∈ns->PyData.strOk x=true)->PyData.canLayAll0 (ns.map PyData.str)=true
 | [],_=>rfl
 | x :: r,h=>by simp [PyData.canLayAll0,PyData.canLay0,h x ck,í r fun y a=>h y (cb _ a)]
theorem Ī:∀ ns:List Str,PyData.depthAll (ns.map PyData.str)=0
 | []=>rfl
 | _ :: r=>by simp [PyData.depthAll,PyData.depth,Ī r]
theorem ð (ns:List Str) (h:∀ x,x∈ns->PyData.strOk x=true):SeqAt.shaped (.list (ns.map PyData.str))=true:=by
 simp [SeqAt.shaped,PyData.canLay0,PyData.depth,í ns h,Ī]
theorem ë:∀ ns ms:List Str,PyData.eqvAll (ns.map PyData.str) (ms.map PyData.str)=decide (ns=ms)
 | [],[]=>by simp [PyData.eqvAll]
 | [],_ :: _=>by simp [PyData.eqvAll]
 | _ :: _,[]=>by simp [PyData.eqvAll]
 | a :: r,b :: t=>by
  simp only [cm,PyData.eqvAll,PyData.eqv,ë r t];by_cases h:a=b <;> by_cases h':r=t <;> simp [h,h']
theorem yin {g:Bool->Bool} {H:Hp} {Q:VK} {a b:Addr} (ns ms:List Str) (hn:∀ x,x∈ns->PyData.strOk x=true) (hm:∀ x,x∈ms->PyData.strOk x=true) (ha:SqL K H a (ns.map V.str)) (hb:SqL K H b (ms.map V.str)) (h:Q (.bl (g (decide (ns=ms)))) H):yx8 K g (.ref a) (.ref b) H Q :=
 ⟨_,_,.lst ha (ù ns),.lst hb (ù ms),ð ns hn,ð ms hm,by rw [PyData.eqv,ë]; exact h⟩
structure Pc where
 nm:Str
 bs:Option Str
 path:List (Str × List Int)
 tx:List Int
 ob:Addr
 od:Addr
 dl:Addr
def baV:Option Str->V
 | none=>.non
 | some b=>.str b
def Pc.by (n:Nat) (kd:Nat->Fin 3) (ps:Nat->List Int) (q:Pc):List Int:=Í n kd ps (Ú (q.path.map (·.2))) q.tx
def pcs (P:List Pc):List (Key × V):=P.map fun q=>(.inr q.nm,.ref q.ob)
def To (P:List Pc):Option Str->List (Str × List Int)->Prop
 | none,L=>L=[]
 | some b,L=>∃ r,r∈P/\r.nm=b/\L=r.path++[(b,r.tx)]
structure Ł (a:Ads) (H:Hp) (d:Addr) (n:Nat) (kd:Nat->Fin 3) (ps:Nat->List Int) (w:Nat) (P:List Pc):Prop where
 dk:H d=some (.dK (pcs P))
 ob:∀ q,q∈P->H q.ob=some (.ins a.A6 q.od (Č (baV q.bs) (.ref q.dl)))/\H q.dl=some (.lst ((q.by n kd ps).map V.int))
 nd:(P.map (·.nm)).Nodup
 wf:∀ q,q∈P->To P q.bs q.path
 sz:∀ q,q∈P->Sgs q.tx/\q.tx.length <= w/\q.path.length <= 60/\(∀ x,x∈q.path->Sgs x.2/\x.2.length <= w)
 z:P.length <= 60
 nm:∀ q,q∈P->nmS q.nm=true/\PyData.strOk q.nm=true
theorem ymi:∀ {P:List Pc} {r:Pc},(P.map (·.nm)).Nodup->r∈P->zv (pcs P) (.inr r.nm)=some (.ref r.ob)
 | q :: P,r,hn,hr=>by
  have a:=cO.mp hn;by_cases e:q.nm=r.nm
  .rcases bI.mp hr with z | z
   .subst z;unfold zv pcs;rw [cm,List.find?_cons_of_pos (by simp)];rfl
   .exact absurd (bD.mpr ⟨r,z,e.symm⟩) a.1
  .rcases bI.mp hr with z | z
   .exact absurd (by rw [z]) e
   .unfold zv pcs;rw [cm,List.find?_cons_of_neg (by simpa using e)];exact ymi a.2 z
theorem ylz {P:List Pc} {x:Str} (h:∀ q,q∈P->q.nm≠x):zv (pcs P) (.inr x)=none:=by
 unfold zv pcs;rw [List.find?_eq_none.mpr fun y a=>?_]
 .rfl
 .obtain ⟨q,b,e⟩:=bD.mp a;rw [<- e];simpa using h q b
theorem Ł.same {H H':Hp} {d:Addr} {n:Nat} {kd:Nat->Fin 3} {ps:Nat->List Int} {w:Nat} {P:List Pc} (h:Ł a H d n kd ps w P) (S:yy H H'):Ł a H' d n kd ps w P :=
 ⟨S _ _ h.dk,fun q b=>⟨S _ _ (h.ob q b).1,S _ _ (h.ob q b).2⟩,h.nd,h.wf,h.sz,h.z,h.nm⟩
theorem yor (x:Str) (t:List Int) (S:List (Str × List Int)):(nmL ((x,t) :: S)).reverse=(nmL S).reverse++[.str x]:=by
 unfold nmL;rw [cm,List.reverse_cons]
theorem To.len {H:Hp} {d:Addr} {n:Nat} {kd:Nat->Fin 3} {ps:Nat->List Int} {w:Nat} {P:List Pc} {x:Option Str} (h:Ł a H d n kd ps w P) (t:To P x L):L.length <= 61:=by
 cases x with
 | none=>rw [show L=[] from t]; exact bR _
 | some b =>
  obtain ⟨r,c,_,e⟩:=t;have:=(h.sz r c).2.2.1;rw [e,bC,cy];omega
theorem Ł.get {H:Hp} {d:Addr} {n:Nat} {kd:Nat->Fin 3} {ps:Nat->List Int} {w:Nat} {P:List Pc} {r:Pc} (h:Ł a H d n kd ps w P) (hr:r∈P):Ę H d (.str r.nm) (some (.ref r.ob)):=by
 rw [<- ymi h.nd hr];exact Ę.k (k:=.inr r.nm) h.dk
theorem yxk:∀ {P:List Pc} {q r:Pc},(P.map (·.nm)).Nodup->q∈P->r∈P->q.nm=r.nm->q=r
 | x :: P,q,r,hn,hq,hr,e=>by
  have a:=cO.mp hn;rcases bI.mp hq with z | z <;> rcases bI.mp hr with y | y
  .rw [z,y]
  .exact absurd (bD.mpr ⟨r,y,by rw [<- e,z]⟩) a.1
  .exact absurd (bD.mpr ⟨q,z,by rw [e,y]⟩) a.1
  .exact yxk a.2 z y e
theorem To.uniq {P:List Pc} {x:Option Str} (hn:(P.map (·.nm)).Nodup) (h:To P x L) (g:To P x M):L=M:=by
 cases x with
 | none=>rw [show L=[] from h,show M=[] from g]
 | some b =>
  obtain ⟨r,e,a,c⟩:=h;obtain ⟨q,i,d,f⟩:=g;obtain rfl:=yxk hn e i (a.trans d.symm);rw [c,f]
theorem To.pre {P:List Pc} (wf:∀ q,q∈P->To P q.bs q.path) {b:Str} {t:List Int} {A:List (Str × List Int)}:∀ (m:Nat) {x:Option Str} {B:List (Str × List Int)},B.length <= m->To P x (A++[(b,t)]++B)->To P (some b) (A++[(b,t)])
 | m,none,B,_,h=>by
  have e:=congrArg List.length (show A++[(b,t)]++B=[] from h);rw [bC,bC] at e;simp at e
 | m,some c,B,hm,⟨r,hr,e1,e2⟩=>by
  rcases List.eq_nil_or_concat B with z | ⟨i,y,z⟩
  .subst z;rw [cY] at e2;have a:=List.append_inj' e2 rfl;obtain ⟨f,g⟩:=a;cases g;exact ⟨r,hr,e1,by rw [f]⟩
  .subst z;rw [List.concat_eq_append] at e2 hm;rw [<- cz] at e2;have a:=(List.append_inj' e2 rfl).1
   cases m with
   | zero=>rw [bC] at hm; simp at hm
   | succ m =>
    have d:=wf r hr;rw [<- a] at d;exact To.pre wf m (by rw [bC,cy] at hm; omega) d
theorem To.ahead {P:List Pc} (hn:(P.map (·.nm)).Nodup) (wf:∀ q,q∈P->To P q.bs q.path) {x y:Option Str} (h:To P x L) (g:To P y M) (e:nmL L=(nmL M).take L.length):L=M.take L.length:=by
 cases x with
 | none=>rw [show L=[] from h]; rfl
 | some b =>
  obtain ⟨r,o,m,d⟩:=id h;have n:L.length=r.path.length+1:=by rw [d,bC,cy]
  have f:=congrArg List.length e;unfold nmL at f;rw [bT,bv,bv] at f;have a:r.path.length < M.length:=by omega
  have j:M=M.take r.path.length++[M[r.path.length]]++M.drop (r.path.length+1):=by
   rw [cz,List.singleton_append,<- List.drop_eq_getElem_cons a,List.take_append_drop]
  have k:(M[r.path.length]).1=b:=by
   have z:=congrArg (fun l=>l[r.path.length]?) e;unfold nmL at z;simp only [bB,List.getElem?_take] at z;rw [if_pos (by omega),d,cN (bA _),Nat.sub_self,bx a] at z;simp at z;exact z.symm
  have g2:=g;rw [j] at g2;have c:M[r.path.length]=(b,(M[r.path.length]).2):=by rw [<- k]
  rw [c] at g2;have g3:=To.pre wf _ (bA _) g2;have i:=To.uniq hn h g3;rw [i,<- c,<- cV a]
  congr 1
  rw [bT];omega
theorem Ł.getNo {H:Hp} {d:Addr} {n:Nat} {kd:Nat->Fin 3} {ps:Nat->List Int} {w:Nat} {P:List Pc} {x:Str} (h:Ł a H d n kd ps w P) (hx:∀ q,q∈P->q.nm≠x):Ę H d (.str x) none:=by
 rw [<- ylz hx];exact Ę.k (k:=.inr x) h.dk
theorem yxe (P:List Pc) (b:Str):(∃ r,r∈P/\r.nm=b)\/∀ q,q∈P->q.nm≠b:=by
 by_cases h:∃ r,r∈P/\r.nm=b
 .exact .inl h
 .exact .inr fun q a e=>h ⟨q,a,e⟩
theorem To.sz {H:Hp} {d:Addr} {n:Nat} {kd:Nat->Fin 3} {ps:Nat->List Int} {w:Nat} {P:List Pc} {x:Option Str} (h:Ł a H d n kd ps w P) (t:To P x L):∀ y,y∈L->Sgs y.2/\y.2.length <= w:=by
 cases x with
 | none=>intro y c; rw [show L=[] from t] at c; cases c
 | some b =>
  obtain ⟨r,f,_,e⟩:=t;obtain ⟨g,j,_,i⟩:=h.sz r f;intro y c;rw [e] at c;rcases bY.mp c with z | z
  .exact i y z
  .rw [bQ.mp z];exact ⟨g,j⟩
theorem To.at' {P:List Pc} (wf:∀ q,q∈P->To P q.bs q.path) {x:Option Str} (t:To P x L) (hj:j < L.length):∃ r,r∈P/\L[j]=(r.nm,r.tx)/\r.path=L.take j/\To P (some r.nm) (L.take (j+1)):=by
 have g:L=L.take j++[(L[j].1,L[j].2)]++L.drop (j+1):=by
  rw [cz,List.singleton_append,<- List.drop_eq_getElem_cons hj,List.take_append_drop]
 rw [g] at t;have c:=To.pre wf _ (bA _) t;obtain ⟨r,h,b,f⟩:=id c;obtain ⟨d,a⟩:=List.append_inj' f rfl
 cases r with | mk nm bs path tx ob od dl =>
 simp only at b d a;subst b;have e:L[j].2=tx:=by cases a; rfl
 refine ⟨_,h,?_,d.symm,?_⟩
 .show L[j]=(L[j].1,tx); rw [<- e]
 .rw [cV hj]; exact c
theorem To.nms {P:List Pc} (wf:∀ q,q∈P->To P q.bs q.path) {x:Option Str} (t:To P x L) {y:Str × List Int} (hy:y∈L):∃ r,r∈P/\r.nm=y.1:=by
 obtain ⟨j,b,e⟩:=List.mem_iff_getElem.mp hy;obtain ⟨r,c,a,_⟩:=t.at' wf b;exact ⟨r,c,by rw [<- e,a]⟩
theorem To.ok {H:Hp} {d:Addr} {n:Nat} {kd:Nat->Fin 3} {ps:Nat->List Int} {w:Nat} {P:List Pc} {x:Option Str} (h:Ł a H d n kd ps w P) (t:To P x L):∀ y,y∈L.map (·.1)->PyData.strOk y=true:=fun y c=>by
 obtain ⟨u,b,rfl⟩:=bD.mp c;obtain ⟨r,f,e⟩:=t.nms h.wf b;rw [<- e];exact (h.nm r f).2
theorem Ë (L:List (Str × List Int)):nmL L=(L.map (·.1)).map V.str:=by
 unfold nmL;rw [cg];rfl
theorem Ý (L:List (Str × List Int)) (k:Nat):(nmL L).take k=nmL (L.take k):=by
 unfold nmL;rw [List.map_take]
theorem j6 (L:List (Str × List Int)):(nmL L).length=L.length:=bv _
theorem ym3 (h:L.map (·.1)=M.map (·.1)):nmL L=nmL M:=by rw [Ë,Ë,h]
theorem ydb {w:Nat}:∀ L:List (List Int),(∀ x,x∈L->x.length <= w)->(Ú L).length <= L.length * (9 * w+1)
 | [],_=>bR _
 | t :: L,h=>by
  have e:Ú (t :: L)=dec t++Ú L:=rfl;have d:=h t ck;have c:=ydb L fun x a=>h x (cb _ a);have b:=ub t;rw [e,bC,ce,Nat.succ_mul];omega
def txi (L:List (Str × List Int)) (i:Nat):List Int:=(L.map (·.2)).getD i []
def mOf (L:List (Str × List Int)):Nat:=6+6 * (Ú (L.map (·.2))).length
def NK (H:Hp) (ks ks':List V):Prop:=∀ q,V.ref q∈ks'->V.ref q∈ks\/H q=none
theorem NK.refl {H:Hp} {ks:List V}:NK H ks ks:=fun _ h=>.inl h
theorem NK.nil {H:Hp} {ks:List V}:NK H ks []:=fun _ h=>nomatch h
theorem NK.trans {H H1:Hp} {k1 k2 k3:List V} (h:NK H k1 k2) (g:NK H1 k2 k3) (f:∀ q,H1 q=none->H q=none):NK H k1 k3:=fun q a=>(g q a).elim (h q) fun z=>.inr (f q z)
theorem NK.app {H:Hp} {ks ks':List V} {v:V} (h:NK H ks ks') (g:∀ q,v=.ref q->H q=none):NK H ks (ks'++[v]):=fun q a=>(bY.mp a).elim (h q) fun z=>.inr (g q (bQ.mp z).symm)
def StW (c cl ct:Addr) (U:Addr->Prop):Addr->Prop:=fun x=>x=c\/ChW cl ct U x
structure jf (K:W.Frag) (a:Ads) (H:Hp) (st ds ll d c dc p cl ct:Addr) (lk tp:Nat->Addr) (n:Nat) (kd:Nat->Fin 3) (ps:Nat->List Int) (mo w:Nat) (P:List Pc) (L:List (Str × List Int)) (ks:List V) (U:Addr->Prop):Prop where
 me:H st=some (.ins a.A0 ds (w5 (.ref ll) (.int mo) (.ref d) (.ref c)))
 n1:1 <= n
 n6:n <= 6
 lo:H ll=some (.lst (refs lk n))
 row:xu H n lk kd tp ps
 pz:Ł a H d n kd ps w P
 ch:Â K a H c dc p cl ct n kd ps L ks (mOf L) U
 nw:∀ x,(x=st\/x=ll\/x=d\/∃ q,q∈P/\(x=q.ob\/x=q.dl))->¬ StW c cl ct U x
 mo1:mo <= 1000
 wm:w <= mo/\w <= 200
 way:∃ x,To P x L
theorem Â.but {H H':Hp} {ll:Addr} {n:Nat} {kd:Nat->Fin 3} {ps:Nat->List Int} {ks:List V} {M:Nat} {W:Addr->Prop} (h:Â K a H c dc p ll tl n kd ps L ks M W) {C:Addr} {fs:List (Str × V)} (hq:H q=some (.ins C dq fs)) (nq:¬ StW c ll tl W q) (B:But q H H'):Â K a H' c dc p ll tl n kd ps L ks M W:=by
 have b:∀ {x:Addr} {d:List V},H x=some (.lst d)->x≠q:=fun {x d} e z=>by rw [z,hq] at e; cases e
 exact ⟨B _ _ h.me fun z=>nq (.inl z.symm),h.fz.frame (W2:=fun x=>x=q) (fun x z=>⟨.ins C dq fs,by rw [show x=q from z]; exact hq,.inl rfl⟩) (fun x w z=>nq (.inr (.inr (.inr (by rw [<- show x=q from z]; exact w))))) (fun x o e g=>B x o e g),B _ _ h.hl (b h.hl),B _ _ h.ht (b h.ht),h.tx.mono fun x d e f=>⟨B _ _ e (b e),f⟩,h.nc,h.nll,h.ntl,h.ne⟩
theorem yc1 (L:List (Str × List Int)) (x:Str) (t:List Int):mOf (L++[(x,t)])=mOf L+6 * (dec t).length:=by
 unfold mOf;rw [bS,show List.map (fun x:Str × List Int=>x.2) [(x,t)]=[t] from rfl,ā,bC];omega
theorem yma {w:Nat} (h:∀ y,y∈L->y.2.length <= w) (hw:w <= 200) (hl:L.length <= 61):mOf L <= 660000:=by
 have c:=ydb (w:=w) (L.map (·.2)) fun x a=>by
  obtain ⟨y,b,rfl⟩:=bD.mp a;exact h y b
 rw [bv] at c;have d:L.length * (9 * w+1) <= 61 * 1801:=Nat.mul_le_mul hl (by omega);unfold mOf;omega
def StO (st c cl ct:Addr) (U:Addr->Prop):Addr->Prop:=fun y=>y=st\/StW c cl ct U y
theorem Go.or {W Y:Addr->Prop} {H H':Hp} (g:Go W H H' W'):Go (fun x=>Y x\/W x) H H' (fun x=>Y x\/W' x) :=
 ⟨fun c o e a=>g.fr c o e fun w=>a (.inr w),fun c w=>w.elim (fun y=>.inl (.inl y)) fun w=>(g.nw c w).imp .inr id,g.lv⟩
theorem Â.noTup {H:Hp} {ll:Addr} {n:Nat} {kd:Nat->Fin 3} {ps:Nat->List Int} {ks:List V} {M:Nat} {W:Addr->Prop} (h:Â K a H c dc p ll tl n kd ps L ks M W) {x:Addr} {xs:List V} (e:H x=some (.tup xs)):¬ StW c ll tl W x:=fun w=>by
 rcases w with z | z | z | z
 .rw [z,h.me] at e; cases e
 .rw [z,h.hl] at e; cases e
 .rw [z,h.ht] at e; cases e
 .exact h.fz.sh.tup e z
theorem Â.same {H H':Hp} {ll:Addr} {n:Nat} {kd:Nat->Fin 3} {ps:Nat->List Int} {ks:List V} {M:Nat} {W:Addr->Prop} (h:Â K a H c dc p ll tl n kd ps L ks M W) (S:yy H H'):Â K a H' c dc p ll tl n kd ps L ks M W :=
 ⟨S _ _ h.me,h.fz.same S,S _ _ h.hl,S _ _ h.ht,h.tx.mono fun _ _ e b=>⟨S _ _ e,b⟩,h.nc,h.nll,h.ntl,h.ne⟩
theorem Ł.fr {H H':Hp} {d:Addr} {n:Nat} {kd:Nat->Fin 3} {ps:Nat->List Int} {w:Nat} {P:List Pc} (h:Ł a H d n kd ps w P) (f:∀ x o,H x=some o->(x=d\/∃ q,q∈P/\(x=q.ob\/x=q.dl))->H' x=some o):Ł a H' d n kd ps w P :=
 ⟨f _ _ h.dk (.inl rfl),fun q b=>⟨f _ _ (h.ob q b).1 (.inr ⟨q,b,.inl rfl⟩),f _ _ (h.ob q b).2 (.inr ⟨q,b,.inr rfl⟩)⟩,h.nd,h.wf,h.sz,h.z,h.nm⟩
theorem xu.fr {H H':Hp} {n:Nat} {lk:Nat->Addr} {kd:Nat->Fin 3} {ps:Nat->List Int} (h:xu H n lk kd tp ps) (f:∀ x xs,H x=some (.tup xs)->H' x=some (.tup xs)):xu H' n lk kd tp ps:=fun i b=>by
 obtain ⟨q,e,d,c,a⟩:=h i b;exact ⟨q,e,f _ _ d,f _ _ c,a⟩
section
variable {H H':Hp} {st ll d ct:Addr} {lk:Nat->Addr} {n:Nat} {kd:Nat->Fin 3} {ps:Nat->List Int} {mo w:Nat} {P:List Pc} {ks:List V}
theorem jf.same (h:jf K a H st ds ll d c dc p cl ct lk tp n kd ps mo w P L ks U) (S:yy H H'):jf K a H' st ds ll d c dc p cl ct lk tp n kd ps mo w P L ks U :=
 ⟨S _ _ h.me,h.n1,h.n6,S _ _ h.lo,h.row.same S,h.pz.same S,h.ch.same S,h.nw,h.mo1,h.wm,h.way⟩
theorem jf.lv (h:jf K a H st ds ll d c dc p cl ct lk tp n kd ps mo w P L ks U):∀ x,(x=st\/x=ll\/x=d\/∃ q,q∈P/\(x=q.ob\/x=q.dl))->∃ o,H x=some o:=fun x e=>by
 rcases e with z | z | z | ⟨q,b,z | z⟩
 .exact ⟨_,by rw [z]; exact h.me⟩
 .exact ⟨_,by rw [z]; exact h.lo⟩
 .exact ⟨_,by rw [z]; exact h.pz.dk⟩
 .exact ⟨_,by rw [z]; exact (h.pz.ob q b).1⟩
 .exact ⟨_,by rw [z]; exact (h.pz.ob q b).2⟩
theorem jf.lvO (h:jf K a H st ds ll d c dc p cl ct lk tp n kd ps mo w P L ks U):∀ x,StO st c cl ct U x->∃ o,H x=some o:=fun x b=>by
 rcases b with z | z | z | z | z
 .exact ⟨_,by rw [z]; exact h.me⟩
 .exact ⟨_,by rw [z]; exact h.ch.me⟩
 .exact ⟨_,by rw [z]; exact h.ch.hl⟩
 .exact ⟨_,by rw [z]; exact h.ch.ht⟩
 .exact h.ch.fz.live x z
theorem jf.go (h:jf K a H st ds ll d c dc p cl ct lk tp n kd ps mo w P L ks U) {ks':List V} (hc:Â K a H' c dc p cl ct n kd ps M ks' (mOf M) U') (g:Go (ChW cl ct U) H H' (ChW cl ct U')) (way:∃ x,To P x M):jf K a H' st ds ll d c dc p cl ct lk tp n kd ps mo w P M ks' U'/\Go (StO st c cl ct U) H H' (StO st c cl ct U'):=by
 have g1:Go (StW c cl ct U) H H' (StW c cl ct U'):=g.or (Y:=fun x=>x=c);have f:∀ x o,H x=some o->(x=st\/x=ll\/x=d\/∃ q,q∈P/\(x=q.ob\/x=q.dl))->H' x=some o:=fun x o e b=>g1.fr x o e (h.nw x b);exact ⟨⟨f _ _ h.me (.inl rfl),h.n1,h.n6,f _ _ h.lo (.inr (.inl rfl)),h.row.fr fun x i e=>g1.fr _ _ e (h.ch.noTup e),h.pz.fr fun x o e z=>f x o e (.inr (.inr z)),hc,g1.apart (fun x b=>h.lv x b) h.nw,h.mo1,h.wm,way⟩,g1.or (Y:=fun x=>x=st)⟩
structure StB (a:Ads) (H:Hp) (st ds ll d:Addr) (vc:V) (lk tp:Nat->Addr) (n:Nat) (kd:Nat->Fin 3) (ps:Nat->List Int) (mo w:Nat) (P:List Pc):Prop where
 me:H st=some (.ins a.A0 ds (w5 (.ref ll) (.int mo) (.ref d) vc))
 n1:1 <= n
 n6:n <= 6
 lo:H ll=some (.lst (refs lk n))
 row:xu H n lk kd tp ps
 pz:Ł a H d n kd ps w P
 mo1:mo <= 1000
 wm:w <= mo/\w <= 200
theorem jf.b (h:jf K a H st ds ll d c dc p cl ct lk tp n kd ps mo w P L ks U):StB a H st ds ll d (.ref c) lk tp n kd ps mo w P:=⟨h.me,h.n1,h.n6,h.lo,h.row,h.pz,h.mo1,h.wm⟩
theorem StB.lv {vc:V} (h:StB a H st ds ll d vc lk tp n kd ps mo w P):∀ x,(x=st\/x=ll\/x=d\/∃ q,q∈P/\(x=q.ob\/x=q.dl))->∃ o,H x=some o:=fun x c=>by
 rcases c with z | z | z | ⟨q,b,z | z⟩
 .exact ⟨_,by rw [z]; exact h.me⟩
 .exact ⟨_,by rw [z]; exact h.lo⟩
 .exact ⟨_,by rw [z]; exact h.pz.dk⟩
 .exact ⟨_,by rw [z]; exact (h.pz.ob q b).1⟩
 .exact ⟨_,by rw [z]; exact (h.pz.ob q b).2⟩
theorem Go.wide {W:Addr->Prop} (g:Go W H H' W') (f:∀ x,W x->W2 x):Go W2 H H' W':=⟨fun c o e a=>g.fr c o e fun w=>a (f c w),fun c w=>(g.nw c w).imp (f c) id,g.lv⟩
theorem StB.re {vc:V} (h:StB a H st ds ll d vc lk tp n kd ps mo w P) {dc' p':Addr} {HE:Hp} (nc:H c'=none) (ndc:H dc'=none) (hch:Â K a HE c' dc' p' cl' ct' n kd ps [] [] 6 U') (hnew:∀ x,ChW cl' ct' U' x->(upd (upd H dc' (.own c')) c' (.ins a.A1 dc' [])) x=none) (BE:But c' (upd (upd H dc' (.own c')) c' (.ins a.A1 dc' [])) HE) :
  jf K a (upd HE st (.ins a.A0 ds (w5 (.ref ll) (.int mo) (.ref d) (.ref c')))) st ds ll d c' dc' p' cl' ct' lk tp n kd ps mo w P [] [] U'/\Go (fun y=>y=st) H (upd HE st (.ins a.A0 ds (w5 (.ref ll) (.int mo) (.ref d) (.ref c')))) (StO st c' cl' ct' U')/\yy H HE/\∀ x,StW c' cl' ct' U' x->H x=none:=by
 have l:yy H (upd (upd H dc' (.own c')) c' (.ins a.A1 dc' [])):=fun b o e=>by rw [yq (yd e nc),yq (yd e ndc)]; exact e
 have f:yy H HE:=fun b o e=>BE _ _ (l _ _ e) (yd e nc)
 have j:∀ x,StW c' cl' ct' U' x->H x=none:=fun x w=>by
  rcases w with z | z
  .rw [z]; exact nc
  .exact l.free (hnew x z)
 have g:∀ {x:Addr} {o:HO},H x=some o->¬ StW c' cl' ct' U' x:=fun {x o} e w=>by rw [j x w] at e; cases e
 have c:=h.me;have m:∀ {x:Addr} {k:List V},H x=some (.lst k)->x≠st:=fun {x k} e z=>by rw [z,c] at e; cases e
 refine ⟨⟨yc,h.n1,h.n6,yk (m h.lo) (f _ _ h.lo),h.row.fr fun x k e=>yk (fun z=>by rw [z,c] at e; cases e) (f _ _ e),⟨yk (fun z=>?_) (f _ _ h.pz.dk),fun q i=>⟨yk (fun z=>?_) (f _ _ (h.pz.ob q i).1),yk (m (h.pz.ob q i).2) (f _ _ (h.pz.ob q i).2)⟩,h.pz.nd,h.pz.wf,h.pz.sz,h.pz.z,h.pz.nm⟩,hch.but (f _ _ c) (g c) But.upd,fun x r=>?_,h.mo1,h.wm,⟨none,rfl⟩⟩,⟨fun x o e s=>yk s (f _ _ e),fun x w=>?_,fun x o e=>?_⟩,f,j⟩
 .have e:=h.pz.dk; rw [z,c] at e; cases e
 .have e:=(h.pz.ob q i).1;rw [z,c] at e;injection e with e;injection e with _ _ e;have p:=congrArg List.length e;exact absurd (show (4:Nat)=2 from p) (by decide)
 .obtain ⟨o,e⟩:=h.lv x r;exact g e
 .rcases w with z | z
  .exact .inl z
  .exact .inr (j x z)
 .by_cases z:x=st
  .exact ⟨_,by rw [z]; exact yc⟩
  .exact ⟨o,yk z (f _ _ e)⟩
theorem jf.re (h:jf K a H st ds ll d c dc p cl ct lk tp n kd ps mo w P L ks U) {dc' p':Addr} {HE:Hp} (nc:H c'=none) (ndc:H dc'=none) (hch:Â K a HE c' dc' p' cl' ct' n kd ps [] [] 6 U') (hnew:∀ x,ChW cl' ct' U' x->(upd (upd H dc' (.own c')) c' (.ins a.A1 dc' [])) x=none) (BE:But c' (upd (upd H dc' (.own c')) c' (.ins a.A1 dc' [])) HE) :
  jf K a (upd HE st (.ins a.A0 ds (w5 (.ref ll) (.int mo) (.ref d) (.ref c')))) st ds ll d c' dc' p' cl' ct' lk tp n kd ps mo w P [] [] U'/\Go (StO st c cl ct U) H (upd HE st (.ins a.A0 ds (w5 (.ref ll) (.int mo) (.ref d) (.ref c')))) (StO st c' cl' ct' U')/\yy H HE/\∀ x,StW c' cl' ct' U' x->H x=none:=by
 obtain ⟨g,f,e⟩:=h.b.re nc ndc hch hnew BE;exact ⟨g,f.wide fun _ z=>.inl z,e⟩
end
theorem ifI {tc:TT} {ts te:TS} {D:ŵ} {σ:St} {H:Hp} (C:Prop) (h:∀ Qb:Bool->Hp->Prop,(C->Qb true H)->Qb false H->tc σ H Qb) (hT:C->ts D σ H) (hF:te D σ H):yx4 tc ts te D σ H :=
 h _ (fun c=>by show (if true=true then _ else _); rw [if_pos rfl]; exact hT c) (by show (if false=true then _ else _); rw [if_neg (by decide)]; exact hF)
theorem vbb {tc:TT} {ts te:TS} {D:ŵ} {σ:St} {H:Hp} (C C':Prop) (h:∀ Qb:Bool->Hp->Prop,(C->Qb true H)->(C'->Qb false H)->tc σ H Qb) (hT:C->ts D σ H) (hF:C'->te D σ H):yx4 tc ts te D σ H :=
 h _ (fun c=>by show (if true=true then _ else _); rw [if_pos rfl]; exact hT c) (fun c=>by show (if false=true then _ else _); rw [if_neg (by decide)]; exact hF c)
structure Pd where
 nm:Str
 bs:Option Str
 path:List (Str × List Int)
 tx:List Int
def Pc.pd (q:Pc):Pd:=⟨q.nm,q.bs,q.path,q.tx⟩
structure Cf where
 n:Nat
 kd:Nat->Fin 3
 ps:Nat->List Int
 mo:Nat
 w:Nat
def Pd.by (C:Cf) (q:Pd):List Int:=Í C.n C.kd C.ps (Ú (q.path.map (·.2))) q.tx
def ToD (P:List Pd):Option Str->List (Str × List Int)->Prop
 | none,L=>L=[]
 | some b,L=>∃ r,r∈P/\r.nm=b/\L=r.path++[(b,r.tx)]
theorem ū {Q:List Pc} {x:Option Str} :ToD (Q.map Pc.pd) x L ↔ To Q x L:=by
 cases x with
 | none=>exact Iff.rfl
 | some b =>
  refine ⟨fun ⟨r,a,e⟩=>?_,fun ⟨r,a,e⟩=>⟨_,bD.mpr ⟨r,a,rfl⟩,e⟩⟩;obtain ⟨q,c,rfl⟩:=bD.mp a;exact ⟨q,c,e⟩
def okN (x:Str):Prop:=nmS x=true/\PyData.strOk x=true
def WD (d st c cl ct:Addr) (U:Addr->Prop):Addr->Prop:=fun y=>y=d\/StO st c cl ct U y
structure Sx where
 w:Addr->Prop
 f:Addr->Prop
def yx2 (d st c cl ct:Addr) (U:Addr->Prop) (ll:Addr) (Q:List Pc) (ks:List V):Sx :=
 ⟨WD d st c cl ct U,fun y=>WD d st c cl ct U y\/y=ll\/(∃ q,q∈Q/\(y=q.ob\/y=q.dl))\/V.ref y∈ks⟩
inductive Sto (K:W.Frag) (a:Ads) (H:Hp) (st:Addr) (C:Cf) (P:List Pd) (X:Sx):Prop
 | mk (ds ll d c dc p cl ct:Addr) (lk tp:Nat->Addr) (Q:List Pc) (L:List (Str × List Int)) (ks:List V) (U:Addr->Prop) (s:jf K a H st ds ll d c dc p cl ct lk tp C.n C.kd C.ps C.mo C.w Q L ks U) (e:Q.map Pc.pd=P) (x:X=yx2 d st c cl ct U ll Q ks)
structure Gx (X:Sx) (H H':Hp) (Y:Sx):Prop where
 g:Go X.w H H' Y.w
 f:∀ y,Y.f y->X.f y\/H y=none
def Kf (H:Hp) (X:Sx) (x:Addr) (o:HO):Prop:=H x=some o/\¬ X.f x
section
variable {B H H':Hp} {st:Addr} {C:Cf} {P:List Pd} {X Y:Sx}
theorem Sto.same (h:Sto K a H st C P X) (S:yy H H'):Sto K a H' st C P X:=by
 obtain ⟨i,k,d,c,j,p,f,b,g,l,Q,L,m,U,s,e,x⟩:=h;exact ⟨i,k,d,c,j,p,f,b,g,l,Q,L,m,U,s.same S,e,x⟩
theorem Sto.live (h:Sto K a H st C P X):∀ y,X.f y->∃ o,H y=some o:=fun y g=>by
 obtain ⟨l,t,d,c,r,p,j,i,k,u,Q,L,n,U,s,rfl,rfl⟩:=h;rcases g with (z | z) | z | ⟨q,b,z⟩ | z
 .exact ⟨_,by rw [z]; exact s.pz.dk⟩
 .exact s.lvO y z
 .exact ⟨_,by rw [z]; exact s.lo⟩
 .exact s.lv y (.inr (.inr (.inr ⟨q,b,z⟩)))
 .rcases s.ch.tx.mem _ z with e | ⟨q,m,e,b,_⟩
  .cases e
  .cases e; exact ⟨_,b⟩
theorem Sto.wf (h:Sto K a H st C P X):∀ y,X.w y->X.f y:=fun y b=>by
 obtain ⟨j,l,d,c,k,p,g,e,i,m,Q,L,n,U,s,rfl,rfl⟩:=h;exact .inl b
theorem Sto.ins (h:Sto K a H st C P X):∃ ds vl vm vp vc,H st=some (.ins a.A0 ds (w5 vl vm vp vc)):=by
 obtain ⟨ds,i,d,c,g,p,e,b,f,j,Q,L,k,U,s,rfl,rfl⟩:=h;exact ⟨_,_,_,_,_,s.me⟩
theorem yzj (Q:List Pc):(Q.map Pc.pd).map (·.nm)=Q.map (·.nm):=by rw [cg]; rfl
theorem Sto.nd (h:Sto K a H st C P X):(P.map (·.nm)).Nodup:=by
 obtain ⟨g,j,d,c,i,p,e,b,f,k,Q,L,l,U,s,rfl,rfl⟩:=h;rw [yzj];exact s.pz.nd
theorem Sto.nm (h:Sto K a H st C P X):∀ q,q∈P->okN q.nm:=fun q e=>by
 obtain ⟨j,m,d,c,l,p,g,f,i,n,Q,L,k,U,s,rfl,rfl⟩:=h;obtain ⟨r,b,rfl⟩:=bD.mp e;exact s.pz.nm r b
theorem Sto.to (h:Sto K a H st C P X):∀ q,q∈P->ToD P q.bs q.path:=fun q e=>by
 obtain ⟨j,m,d,c,l,p,g,f,i,n,Q,L,k,U,s,rfl,rfl⟩:=h;obtain ⟨r,b,rfl⟩:=bD.mp e;exact ū.mpr (s.pz.wf r b)
theorem Sto.sz (h:Sto K a H st C P X):∀ q,q∈P->Sgs q.tx/\q.tx.length <= C.w/\q.path.length <= 60/\(∀ x,x∈q.path->Sgs x.2/\x.2.length <= C.w):=fun q e=>by
 obtain ⟨j,m,d,c,l,p,g,f,i,n,Q,L,k,U,s,rfl,rfl⟩:=h;obtain ⟨r,b,rfl⟩:=bD.mp e;exact s.pz.sz r b
theorem Sto.cf (h:Sto K a H st C P X):1 <= C.n/\C.n <= 6/\C.mo <= 1000/\C.w <= C.mo/\C.w <= 200:=by
 obtain ⟨g,j,d,c,i,p,e,b,f,k,Q,L,l,U,s,rfl,rfl⟩:=h;exact ⟨s.n1,s.n6,s.mo1,s.wm.1,s.wm.2⟩
theorem Sto.sh (h:Sto K a H st C P X):WSh H X.w:=fun y g=>by
 obtain ⟨m,r,d,c,o,p,k,j,l,t,Q,L,n,U,s,rfl,rfl⟩:=h;rcases g with z | z | z | z | z | z
 .exact ⟨_,by rw [z]; exact s.pz.dk,.inl rfl⟩
 .exact ⟨_,by rw [z]; exact s.me,.inl rfl⟩
 .exact ⟨_,by rw [z]; exact s.ch.me,.inl rfl⟩
 .refine ⟨_,by rw [z]; exact s.ch.hl,.inr ⟨_,rfl,fun v b=>?_⟩⟩;obtain ⟨u,_,e⟩:=bD.mp b;exact .inl ⟨u.1,e.symm⟩
 .refine ⟨_,by rw [z]; exact s.ch.ht,.inr ⟨_,rfl,fun v b=>.inr ?_⟩⟩;exact (s.ch.tx.mem v b).imp id fun ⟨q,f,e,i,_⟩=>⟨q,e,.inl ⟨f,i⟩⟩
 .exact s.ch.fz.sh y z
theorem Sto.frame (h:Sto K a H st C P X) (sh:WSh H W2) (dj:∀ y,X.f y->¬ W2 y) (fr:∀ y o,H y=some o->¬ W2 y->H' y=some o):Sto K a H' st C P X:=by
 obtain ⟨x,n,d,c,A,p,i,g,u,D,Q,L,j,U,s,rfl,rfl⟩:=h;have f:∀ {y:Addr} {o:HO},H y=some o->(yx2 d st c i g U n Q j).f y->H' y=some o:=fun {y o} e w=>fr y o e (dj y w);refine ⟨x,n,d,c,A,p,i,g,u,D,Q,L,j,U,⟨f s.me (.inl (.inr (.inl rfl))),s.n1,s.n6,f s.lo (.inr (.inl rfl)),s.row.fr fun y G e=>fr _ _ e (sh.tup e),s.pz.fr fun y o e z=>f e (z.elim (fun z=>.inl (.inl z)) fun z=>.inr (.inr (.inl z))),⟨f s.ch.me (.inl (.inr (.inr (.inl rfl)))),s.ch.fz.frame sh (fun y w=>dj y (.inl (.inr (.inr (.inr (.inr (.inr w))))))) fr,f s.ch.hl (.inl (.inr (.inr (.inr (.inl rfl))))),f s.ch.ht (.inl (.inr (.inr (.inr (.inr (.inl rfl)))))),?_,s.ch.nc,s.ch.nll,s.ch.ntl,s.ch.ne⟩,s.nw,s.mo1,s.wm,s.way⟩,rfl,rfl⟩
 have l:∀ {L:List (Str × List Int)} {b:List V},(∀ v,v∈b->v∈j)->Ŵ H (ChW i g U) L b->Ŵ H' (ChW i g U) L b:=by
  intro L
  induction L with
  | nil=>intro b _ h; exact h
  | cons y r ih =>
   rintro b m ⟨k,B,rfl,z,h⟩;refine ⟨k,B,rfl,z.imp id fun ⟨q,e,E,t⟩=>⟨q,e,f E (.inr (.inr (.inr ?_))),t⟩,ih (fun v F=>m v (cb _ F)) h⟩;rw [<- e];exact m _ ck
 exact l (fun _ h=>h) s.ch.tx
theorem Sto.but (h:Sto K a H st C P X) (sh:WSh H fun z=>z=y) (ny:¬ X.f y) (b:But y H H'):Sto K a H' st C P X :=
 h.frame sh (fun z w e=>ny (by rw [<- e]; exact w)) fun z o e c=>b z o e c
theorem WSh.mu {o:HO} (e:H y=some o) (ho:yr8 o=true):WSh H fun z=>z=y:=fun z w=>⟨o,by rw [w]; exact e,.inl ho⟩
theorem Kf.go {x:Addr} {o:HO} (h:Kf H X x o) (s:Sto K a H st C P X) (g:Gx X H H' Y):Kf H' Y x o :=
 ⟨g.g.fr _ _ h.1 fun w=>h.2 (s.wf _ w),fun w=>(g.f x w).elim h.2 fun e=>by rw [h.1] at e; cases e⟩
theorem Kf.same {x:Addr} {o:HO} (h:Kf H X x o) (S:yy H H'):Kf H' X x o:=⟨S _ _ h.1,h.2⟩
theorem Kf.new {x:Addr} {o:HO} (s:Sto K a H st C P X) (hx:H x=none) (e:H' x=some o):Kf H' X x o:=⟨e,fun w=>by
 obtain ⟨c,b⟩:=s.live x w;rw [hx] at b;cases b⟩
theorem Kf.but {x:Addr} {o:HO} (h:Kf H X x o) (ne:x≠y) (b:But y H H'):Kf H' X x o:=⟨b _ _ h.1 ne,h.2⟩
theorem Gx.bs (s:Sto K a H st C P X) (g:Gx X H H' Y) (S:yy B H) (nb:∀ y,X.f y->B y=none):yy B H'/\∀ y,Y.f y->B y=none :=
 ⟨fun y o e=>g.g.fr _ _ (S _ _ e) (fun w=>by rw [nb y (s.wf y w)] at e; cases e),fun y w=>(g.f y w).elim (nb y) S.free⟩
theorem Gx.of {d ct ll:Addr} {Q Q':List Pc} {ks ks':List V} (g:Go (WD d st c cl ct U) H H' (WD d st c' cl' ct' U')) (nk:NK H ks ks') (hq:∀ q,q∈Q'->q∈Q\/(H q.ob=none/\H q.dl=none)):Gx (yx2 d st c cl ct U ll Q ks) H H' (yx2 d st c' cl' ct' U' ll Q' ks'):=by
 refine ⟨g,fun y w=>?_⟩;rcases w with z | z | ⟨q,h,z⟩ | z
 .exact (g.nw y z).imp .inl id
 .exact .inl (.inr (.inl z))
 .rcases hq q h with b | ⟨e,a⟩
  .exact .inl (.inr (.inr (.inl ⟨q,b,z⟩)))
  .rcases z with z | z
   .rw [z]; exact .inr e
   .rw [z]; exact .inr a
 .exact (nk y z).imp (fun z=>.inr (.inr (.inr z))) id
end
theorem ļ:∀ {P:List Pd} {q r:Pd},(P.map (·.nm)).Nodup->q∈P->r∈P->q.nm=r.nm->q=r
 | x :: P,q,r,hn,hq,hr,e=>by
  have a:=cO.mp hn;rcases bI.mp hq with z | z <;> rcases bI.mp hr with y | y
  .rw [z,y]
  .exact absurd (bD.mpr ⟨r,y,by rw [<- e,z]⟩) a.1
  .exact absurd (bD.mpr ⟨q,z,by rw [e,y]⟩) a.1
  .exact ļ a.2 z y e
theorem ToD.uniq {P:List Pd} {x:Option Str} (hn:(P.map (·.nm)).Nodup) (h:ToD P x L) (g:ToD P x M):L=M:=by
 cases x with
 | none=>rw [show L=[] from h,show M=[] from g]
 | some b =>
  obtain ⟨r,e,a,c⟩:=h;obtain ⟨q,i,d,f⟩:=g;obtain rfl:=ļ hn e i (a.trans d.symm);rw [c,f]
section
variable {B H H':Hp} {st:Addr} {C:Cf} {P:List Pd} {X Y:Sx}
theorem Sto.frameI (h:Sto K a H st C P X) (sh:ynb H W2) (dj:∀ y,X.f y->¬ W2 y) (fr:∀ y o,H y=some o->¬ W2 y->H' y=some o):Sto K a H' st C P X:=by
 obtain ⟨x,n,d,c,A,p,i,g,u,D,Q,L,j,U,s,rfl,rfl⟩:=h;have f:∀ {y:Addr} {o:HO},H y=some o->(yx2 d st c i g U n Q j).f y->H' y=some o:=fun {y o} e w=>fr y o e (dj y w);refine ⟨x,n,d,c,A,p,i,g,u,D,Q,L,j,U,⟨f s.me (.inl (.inr (.inl rfl))),s.n1,s.n6,f s.lo (.inr (.inl rfl)),s.row.fr fun y G e=>fr _ _ e (sh.tup e),s.pz.fr fun y o e z=>f e (z.elim (fun z=>.inl (.inl z)) fun z=>.inr (.inr (.inl z))),⟨f s.ch.me (.inl (.inr (.inr (.inl rfl)))),s.ch.fz.frameI (z6 _) sh (fun y w=>dj y (.inl (.inr (.inr (.inr (.inr (.inr w))))))) fr,f s.ch.hl (.inl (.inr (.inr (.inr (.inl rfl))))),f s.ch.ht (.inl (.inr (.inr (.inr (.inr (.inl rfl)))))),?_,s.ch.nc,s.ch.nll,s.ch.ntl,s.ch.ne⟩,s.nw,s.mo1,s.wm,s.way⟩,rfl,rfl⟩
 have l:∀ {L:List (Str × List Int)} {b:List V},(∀ v,v∈b->v∈j)->Ŵ H (ChW i g U) L b->Ŵ H' (ChW i g U) L b:=by
  intro L
  induction L with
  | nil=>intro b _ h; exact h
  | cons y r ih =>
   rintro b m ⟨k,B,rfl,z,h⟩;refine ⟨k,B,rfl,z.imp id fun ⟨q,e,E,t⟩=>⟨q,e,f E (.inr (.inr (.inr ?_))),t⟩,ih (fun v F=>m v (cb _ F)) h⟩;rw [<- e];exact m _ ck
 exact l (fun _ h=>h) s.ch.tx
theorem Sto.butI (h:Sto K a H st C P X) {ns:List Int} (e:H y=some (.lst (ns.map V.int))) (hn:∀ x∈ns,x < 256) (ny:¬ X.f y) (b:But y H H'):Sto K a H' st C P X :=
 h.frameI (W2:=fun z=>z=y) (fun z w=>⟨.lst (ns.map V.int),by rw [show z=y from w]; exact e,.inr ⟨_,rfl,fun x c=>by
  obtain ⟨i,d,rfl⟩:=bD.mp c;exact .inr (.inr (.inr ⟨i,rfl,hn i d⟩))⟩⟩) (fun z w e=>ny (by rw [<- show z=y from e]; exact w)) fun z o e g=>b z o e g
end
theorem yhi {α:Type} [DecidableEq α]:∀ {l m:List α},l.Nodup->(∀ x,x∈l->x∈m)->l.length <= m.length
 | [],_,_,_=>bR _
 | x :: l,m,hn,h=>by
  have a:=cO.mp hn;have b:=h x ck;have d:l.length <= (m.erase x).length:=yhi a.2 fun y c=>(List.mem_erase_of_ne (fun e=>a.1 (by rw [<- e]; exact c))).mpr (h y (cb _ c));rw [List.length_erase_of_mem b] at d;have:=List.length_pos_of_mem b;rw [ce];omega
def Pd.pc (q:Pd):Pc:=⟨q.nm,q.bs,q.path,q.tx,0,0,0⟩
theorem yxj (P:List Pd):(P.map Pd.pc).map Pc.pd=P:=by
 rw [cg];exact List.map_id _
structure PdW (P:List Pd):Prop where
 nd:(P.map (·.nm)).Nodup
 wf:∀ q,q∈P->ToD P q.bs q.path
theorem ToD.pc {P:List Pd} {x:Option Str} (h:ToD P x L):To (P.map Pd.pc) x L:=ū.mp (by rw [yxj]; exact h)
theorem ToD.at {P:List Pd} (w:PdW P) {x:Option Str} (t:ToD P x L) (hj:j < L.length):∃ r,r∈P/\L[j]=(r.nm,r.tx)/\r.path=L.take j/\ToD P (some r.nm) (L.take (j+1)):=by
 obtain ⟨r,c,d,e,b⟩:=To.at' (fun q f=>by
  obtain ⟨u,a,rfl⟩:=bD.mp f;exact (w.wf u a).pc) t.pc hj
 obtain ⟨u,a,rfl⟩:=bD.mp c;refine ⟨u,a,d,e,?_⟩;have:=ū.mpr b;rw [yxj] at this;exact this
theorem ToD.len {P:List Pd} (w:PdW P) {x:Option Str} (t:ToD P x L):L.length <= P.length:=by
 have h:=yhi (l:=L.map (·.1)) (m:=P.map (·.nm)) ?_ ?_
 .rw [bv,bv] at h;exact h
 .refine List.pairwise_iff_getElem.mpr fun i j d a n e=>?_;rw [bv] at d a;rw [cQ,cQ] at e;obtain ⟨r,b,c,f,_⟩:=t.at w d;obtain ⟨u,o,g1,g2,_⟩:=t.at w a;rw [c,g1] at e;have:=ļ w.nd b o e;rw [this,g2] at f;have k:=congrArg List.length f;rw [bT,bT] at k;omega
 .intro y p;obtain ⟨z,g,rfl⟩:=bD.mp p;obtain ⟨j,a,rfl⟩:=List.mem_iff_getElem.mp g;obtain ⟨r,b,c,_⟩:=t.at w a;rw [c];exact bD.mpr ⟨r,b,rfl⟩
theorem Sto.pw {H:Hp} {st:Addr} {C:Cf} {P:List Pd} {X:Sx} (h:Sto K a H st C P X):PdW P:=⟨h.nd,h.to⟩
structure Bs (B H:Hp) (X:Sx):Prop where
 s:yy B H
 n:∀ y,X.f y->B y=none
theorem Bs.same {B H H':Hp} {X:Sx} (h:Bs B H X) (S:yy H H'):Bs B H' X:=⟨h.s.trans S,h.n⟩
theorem Bs.go {B H H':Hp} {st:Addr} {C:Cf} {P:List Pd} {X Y:Sx} (h:Bs B H X) (s:Sto K a H st C P X) (g:Gx X H H' Y):Bs B H' Y:=⟨(g.bs s h.s h.n).1,(g.bs s h.s h.n).2⟩
theorem Bs.but {B H H':Hp} {X:Sx} (h:Bs B H X) (ny:B y=none) (b:But y H H'):Bs B H' X:=⟨fun x o e=>b _ _ (h.s _ _ e) (yd e ny),h.n⟩
theorem yuf {ns:List Str} (h:ns.Nodup) {hi:i < ns.length} {hj:j < ns.length} (e:ns[i]=ns[j]):i=j:=by
 have a:=List.pairwise_iff_getElem.mp h;rcases Nat.lt_trichotomy i j with z | z | z
 .exact absurd e (a i j hi hj z)
 .exact z
 .exact absurd e.symm (a j i hj hi z)
theorem yue {P:List Pd} {ns:List Str} {b:Str} (h:P.map (·.nm)=ns.take i) (hj:j < i) (hb:ns[j]?=some b):∃ r,r∈P/\r.nm=b:=by
 have e:b∈P.map (·.nm):=by
  rw [h];exact bM (i:=j) (by rw [List.getElem?_take,if_pos hj]; exact hb)
 obtain ⟨r,a,e⟩:=bD.mp e;exact ⟨r,a,e⟩
theorem ynk {P:List Pd} {ns:List Str} (hnd:ns.Nodup) (h:P.map (·.nm)=ns.take i) (hi:i < ns.length):P.length=i/\∀ q,q∈P->q.nm≠ns[i]:=by
 refine ⟨?_,fun q c e=>?_⟩
 .have e:=congrArg List.length h;rw [bv,bT] at e;omega
 .have d:q.nm∈ns.take i:=by rw [<- h]; exact bD.mpr ⟨q,c,rfl⟩
  obtain ⟨j,b,a⟩:=List.mem_iff_getElem.mp d;rw [List.getElem_take] at a;rw [bT] at b;have:=yuf hnd (a.trans e);omega
theorem Sto.ntup {H:Hp} {st:Addr} {C:Cf} {P:List Pd} {X:Sx} (h:Sto K a H st C P X) {x:Addr} {xs:List V} (e:H x=some (.tup xs)):¬ X.f x:=fun w=>by
 have i:=h.sh;obtain ⟨n,k,d,c,t,p,l,j,m,u,Q,L,r,U,s,rfl,rfl⟩:=h;rcases w with z | z | ⟨q,b,z | z⟩ | z
 .exact i.tup e z
 .rw [z,s.lo] at e; cases e
 .rw [z,(s.pz.ob q b).1] at e; cases e
 .rw [z,(s.pz.ob q b).2] at e; cases e
 .rcases s.ch.tx.mem _ z with g | ⟨q,o,g,b,_⟩
  .cases g
  .cases g; rw [b] at e; cases e
theorem Bs.mk' {H:Hp} {st:Addr} {C:Cf} {P:List Pd} {X:Sx} (_:Sto K a H st C P X) (md:Addr):∃ B:Hp,Bs B H X/\B md=none/\∀ x o,H x=some o->¬ X.f x->x≠md->B x=some o:=by
 classical
 refine ⟨fun x=>if X.f x\/x=md then none else H x,⟨fun y o e=>?_,fun y w=>?_⟩,?_,fun x o e b c=>?_⟩
 .by_cases z:X.f y\/y=md
  .rw [if_pos z] at e; cases e
  .rw [if_neg z] at e; exact e
 .exact if_pos (.inl w)
 .exact if_pos (.inr rfl)
 .show (if X.f x\/x=md then none else H x)=some o;rw [if_neg fun z=>z.elim b c];exact e
def mdK (tu:Str->Addr) (P:List Pd):List (Key × V):=P.map fun q=>(.inr q.nm,.ref (tu q.nm))
theorem ymn (tu:Str->Addr):∀ {P:List Pd} {q:Pd},q∈P->zv (mdK tu P) (.inr q.nm)=some (.ref (tu q.nm))
 | r :: P,q,hq=>by
  unfold zv mdK;rw [cm];by_cases e:r.nm=q.nm
  .rw [List.find?_cons_of_pos (by simp [e]),<- e];rfl
  .rw [List.find?_cons_of_neg (by simpa using e)];rcases bI.mp hq with z | z
   .exact absurd (by rw [z]) e
   .exact ymn tu z
theorem yt8 (tu:Str->Addr) {P:List Pd} {b:Str} (h:∀ q,q∈P->q.nm≠b):zv (mdK tu P) (.inr b)=none:=by
 unfold zv mdK;rw [List.find?_eq_none.mpr fun y a=>?_]
 .rfl
 .obtain ⟨q,c,e⟩:=bD.mp a;rw [<- e];simpa using h q c
def DkF (H:Hp) (md:Addr) (kvs:List (Key × V)):Prop:=H md=some (.dK kvs)\/∃ o,H md=some (.frz o (.dK kvs))
theorem DkF.get {H:Hp} {kvs:List (Key × V)} (h:DkF H md kvs) (b:Str):Ę H md (.str b) (zv kvs (.inr b)):=.inl ⟨kvs,.inr b,h,rfl,rfl⟩
structure Mdl (H:Hp) (X:Sx) (md:Addr) (P:List Pd) (tu tx:Str->Addr):Prop where
 d:DkF H md (mdK tu P)
 n:¬ X.f md
 t:∀ q,q∈P->Kf H X (tu q.nm) (.tup [.ref (tx q.nm),baV q.bs])
 x:∀ q,q∈P->Kf H X (tx q.nm) (.lst (q.tx.map V.int))
theorem Mdl.same {H H':Hp} {X:Sx} {P:List Pd} {tx:Str->Addr} (h:Mdl H X md P tu tx) (S:yy H H'):Mdl H' X md P tu tx:=⟨h.d.imp (S _ _) fun ⟨o,e⟩=>⟨o,S _ _ e⟩,h.n,fun q a=>(h.t q a).same S,fun q a=>(h.x q a).same S⟩
theorem Mdl.go {H H':Hp} {st:Addr} {C:Cf} {P P2:List Pd} {X Y:Sx} {tx:Str->Addr} (h:Mdl H X md P tu tx) (s:Sto K a H st C P2 X) (g:Gx X H H' Y):Mdl H' Y md P tu tx:=⟨h.d.imp (fun e=>(Kf.go ⟨e,h.n⟩ s g).1) fun ⟨o,e⟩=>⟨o,(Kf.go ⟨e,h.n⟩ s g).1⟩,(h.d.elim (fun e=>(Kf.go ⟨e,h.n⟩ s g).2) fun ⟨o,e⟩=>(Kf.go ⟨e,h.n⟩ s g).2),fun q b=>(h.t q b).go s g,fun q b=>(h.x q b).go s g⟩
theorem Mdl.butL {H H':Hp} {X:Sx} {P:List Pd} {tx:Str->Addr} (h:Mdl H X md P tu tx) {xs:List V} (hy:H y=some (.lst xs)) (hx:∀ q,q∈P->tx q.nm≠y) (b:But y H H'):Mdl H' X md P tu tx :=
 have c:∀ {o:HO},H md=some o->yr8 o=true->md≠y:=fun {o} e f z=>by rw [z,hy] at e; cases e; cases f
 ⟨h.d.imp (fun e=>b _ _ e (c e rfl)) fun ⟨o,e⟩=>⟨o,b _ _ e (c e rfl)⟩,h.n,fun q a=>(h.t q a).but (fun z=>by have e:=(h.t q a).1; rw [z,hy] at e; cases e) b,fun q a=>(h.x q a).but (hx q a) b⟩
theorem Mdl.get {H:Hp} {X:Sx} {P:List Pd} {tx:Str->Addr} (h:Mdl H X md P tu tx) {q:Pd} (hq:q∈P):Ę H md (.str q.nm) (some (.ref (tu q.nm))):=by
 rw [<- ymn tu hq];exact h.d.get q.nm
def upS (g:Str->Addr) (b:Str) (x:Addr):Str->Addr:=fun s=>if s=b then x else g s
theorem ydz {g:Str->Addr} {b:Str} {x:Addr}:upS g b x b=x:=if_pos rfl
theorem yea {g:Str->Addr} {b s:Str} {x:Addr} (h:s≠b):upS g b x s=g s:=if_neg h
theorem Ŧ (tu:Str->Addr) (P:List Pd):((mdK tu P).map fun p=>kV p.1)=(P.map (·.nm)).map V.str:=by
 unfold mdK;rw [cg,cg];rfl
theorem yne {P:List Pd} {q:Pd} {t:Addr} (hno:∀ r,r∈P->r.nm≠q.nm):Ŷ (mdK tu P) (.inr q.nm) (.ref t)=mdK (upS tu q.nm t) (P++[q]):=by
 rw [ß _ (yt8 tu hno)];unfold mdK;rw [bS,List.map_singleton,ydz]
 congr 1
 exact List.map_congr_left fun r a=>by rw [yea (hno r a)]
theorem Mdl.put {H:Hp} {X:Sx} {t:Addr} {P:List Pd} {tx:Str->Addr} {q:Pd} (h:Mdl H X md P tu tx) (hd:H md=some (.dK (mdK tu P))) (hno:∀ r,r∈P->r.nm≠q.nm) (ht:Kf H X t (.tup [.ref y,baV q.bs])) (hy:Kf H X y (.lst (q.tx.map V.int))) :
  Mdl (upd H md (.dK (mdK (upS tu q.nm t) (P++[q])))) X md (P++[q]) (upS tu q.nm t) (upS tx q.nm y):=by
 have f:∀ {x:Addr} {o:HO},yr8 o=false->Kf H X x o->Kf (upd H md (.dK (mdK (upS tu q.nm t) (P++[q])))) X x o:=fun {x o} b k=>k.but (fun z=>by have e:=k.1; rw [z,hd] at e; cases e; cases b) But.upd;refine ⟨.inl yc,h.n,fun r a=>?_,fun r a=>?_⟩
 .rcases bY.mp a with z | z
  .rw [yea (hno r z),yea (hno r z)];exact f rfl (h.t r z)
  .obtain rfl:=bQ.mp z;rw [ydz,ydz];exact f rfl ht
 .rcases bY.mp a with z | z
  .rw [yea (hno r z)];exact f rfl (h.x r z)
  .obtain rfl:=bQ.mp z;rw [ydz];exact f rfl hy
def lnV (tx:Str->Addr) (L:List (Str × List Int)):List V:=L.map fun y=>V.ref (tx y.1)
def lnA (tx:Str->Addr) (L:List (Str × List Int)) (i:Nat):Addr:=tx (L.getD i (⟨#[]⟩,[])).1
theorem ycq (tx:Str->Addr) (L:List (Str × List Int)):lnV tx L=refs (lnA tx L) L.length:=by
 refine List.ext_getElem? fun i=>?_;unfold lnV refs;rw [bB,bB];rcases Nat.lt_or_ge i L.length with h | h
 .rw [bx h,cL h];unfold lnA;simp [cq,bx h]
 .rw [cn h,cn (by rw [bW]; exact h)];rfl
theorem Mdl.ln {H:Hp} {X:Sx} {P:List Pd} {tx:Str->Addr} (h:Mdl H X md P tu tx) (w:PdW P) {x:Option Str} (t:ToD P x L) (hi:i < L.length):Kf H X (lnA tx L i) (.lst ((txi L i).map V.int)):=by
 obtain ⟨r,a,b,_⟩:=t.at w hi;have e:=h.x r a;unfold lnA txi;rw [cq,bx hi,cq,bB,bx hi,b];exact e
theorem yc2 (L:List (Str × List Int)):∀ i,i <= L.length->ŷ (txi L) i=Ú ((L.map (·.2)).take i)
 | 0,_=>rfl
 | i+1,h=>by
  have a:i < (L.map (·.2)).length:=by rw [bv]; omega
  rw [cV a,ā,<- yc2 L i (by omega)];show _++dec (txi L i)=_;unfold txi;rw [cq,bx a];rfl
theorem ygh (L:List (Str × List Int)):ŷ (txi L) L.length=Ú (L.map (·.2)):=by
 rw [yc2 L _ (bA _),cA (by rw [bv]; exact bA _)]
theorem yuh:ym ["self","looks"] ["self","looks"] (yh ypo):=wx (by right)
inductive yaf (K:W.Frag) (a:Ads) (vs:List V) (H:Hp) (Q:VK) (E':XK):Prop
 | mk (c dc l:Addr) (n:Nat) (lk tp:Nat->Addr) (kd:Nat->Fin 3) (ps:Nat->List Int):(vs=[.ref c,.ref l])->(H c=some (.ins a.A1 dc []))->(H l=some (.lst (refs lk n)))->(1 <= n)->(n <= 6)->(xu H n lk kd tp ps)->(∀ (p ll tl:Addr) (W:Addr->Prop) (H':Hp),Â K a H' c dc p ll tl n kd ps [] [] 6 W->(∀ x,ChW ll tl W x->H x=none)->But c H H'->(∀ y xs H'',H y=some (.lst xs)->But y H' H''->Â K a H'' c dc p ll tl n kd ps [] [] 6 W)->Q .non H')->yaf K a vs H Q E'
theorem yif (T:Txt K mg a):wa P w K mg base (CXe P w) 8 a.Gi a.L7 ["self","looks"] (yaf K a):=by
 exists T.D9.F.okE,yuh,hr;obtain ⟨c,f,l,n,lk,tp,kd,ps,rfl,hc,hl,n1,n6,Y,k⟩:=h;refine yj (vk (pv 0) (ug T.Pu (ylx T) (hr.mono (by decide)) rfl T.Pt T.Dh.B .nil vg (yb (pv 1) ye (ya rfl))) rfl) ?_;refine yj (vk (pv 0) (xi ye) rfl) ?_;refine ⟨_,(yf (vk (pv 0) (xi ye) rfl)),?_⟩;exists 2,0;rfl';intro p dp np a1 a5;refine FZ.new np a1 hl n1 n6 Y fun W C S nW X a0=>⟨rfl,?_⟩;have I:=X _ _ hc;rfl';have u:upd C c (HO.ins a.A1 f ([("foreteller",V.ref p)]:List (Str × V))) c=some (HO.ins a.A1 f ([("foreteller",V.ref p)]:List (Str × V))):=yc;have J:But c C (upd C c (HO.ins a.A1 f ([("foreteller",V.ref p)]:List (Str × V)))):=But.upd;generalize upd C c (HO.ins a.A1 f ([("foreteller",V.ref p)]:List (Str × V)))=HA at u J ⊢;refine ⟨by walk_at "len",fun i hll=>?_⟩
 with_reducible first | refine yv hll fun HB SB eB=>?_ | refine ve hll fun HB SB eB=>?_
 have a6:=SB _ _ u;rfl';have r:upd HB c (HO.ins a.A1 f ([("foreteller",V.ref p),("links",V.ref i)]:List (Str × V))) c=some (HO.ins a.A1 f ([("foreteller",V.ref p),("links",V.ref i)]:List (Str × V))):=yc;have L:But c HB (upd HB c (HO.ins a.A1 f ([("foreteller",V.ref p),("links",V.ref i)]:List (Str × V)))):=But.upd;generalize upd HB c (HO.ins a.A1 f ([("foreteller",V.ref p),("links",V.ref i)]:List (Str × V)))=HC at r L ⊢;refine ⟨by walk_at "len",fun v htl=>?_⟩
 with_reducible first | refine yv htl fun HD SD eD=>?_ | refine ve htl fun HD SD eD=>?_
 have a3:=SD _ _ r;rfl';have j:i≠c:=(yd u hll).symm;have g:v≠c:=(yd r htl).symm;have R:HC i=some (.lst []):=L _ _ eB j
 have O:∀ {x:Addr},x≠c->HA x=none->H x=none:=fun {x} d e=>by
  cases z:H x with
  | none=>rfl
  | some o=>rw [J _ _ (X _ _ z) d] at e; cases e
 have a2:∀ {x:Addr},x≠c->HC x=none->HA x=none:=fun {x} d e=>by
  cases z:HA x with
  | none=>rfl
  | some o=>rw [L _ _ (SB _ _ z) d] at e; cases e
 have q:But c C (upd HD c (HO.ins a.A1 f (ja (.ref p) (.ref i) (.ref v)))):=fun x o e d=>yk d (SD _ _ (L _ _ (SB _ _ (J _ _ e d)) d))
 have m:∀ x,W x->x≠c:=fun x w z=>by
  have e:=nW x w;rw [z,hc] at e;cases e
 have M:H i=none:=O j hll;have N:H v=none:=O g (a2 g htl)
 have G:¬ W i:=fun w=>by
  obtain ⟨o,e⟩:=S.live _ w;rw [J _ _ e j] at hll;cases hll
 have D:¬ W v:=fun w=>by
  obtain ⟨o,e⟩:=S.live _ w;rw [L _ _ (SB _ _ (J _ _ e g)) g] at htl;cases htl
 refine k p i v W (upd HD c (HO.ins a.A1 f (ja (.ref p) (.ref i) (.ref v)))) ⟨yc,?_,?_,?_,rfl,fun w=>m c w rfl,G,D,yd R htl⟩ (fun x w=>?_) (fun x o e d=>q x o (X _ _ e) d) (fun y xs H2 t b=>?_)
 .exact S.frame (W2:=fun x=>x=c) (fun x z=>⟨.ins a.A1 f [],by rw [show x=c from z]; exact I,.inl rfl⟩) (fun x w z=>m x w z) (fun x o e d=>q x o e d)
 .exact yk j (SD _ _ R)
 .exact yk g eD
 .rcases w with z | z | z
  .rw [z]; exact M
  .rw [z]; exact N
  .exact nW x z
 .have U:c≠y:=fun z=>by rw [<- z,hc] at t; cases t
  have bG:But y C (upd H2 c (.ins a.A1 f [])):=fun x o e d=>by
   by_cases z:x=c
   .rw [z,yc]; rw [z,I] at e; exact e
   .exact yk z (b _ _ (q x o e z) d)
  refine ⟨b _ _ yc U,(a0 y xs _ t bG).frame (W2:=fun x=>x=c) (fun x z=>⟨.ins a.A1 f [],by rw [show x=c from z]; exact yc,.inl rfl⟩) (fun x w z=>m x w z) (fun x o e d=>by rw [yq d] at e; exact e),b _ _ (yk j (SD _ _ R)) (fun z=>by rw [<- z,M] at t; cases t),b _ _ (yk g eD) (fun z=>by rw [<- z,N] at t; cases t),rfl,fun w=>m c w rfl,G,D,yd R htl⟩
theorem yuo:ym ["self","name","text"] ["self","name","text"] (yh yqn):=wx (by right)
inductive ydn (a:Ads) (vs:List V) (H:Hp) (Q:VK) (E':XK):Prop
 | mk (c dc:Addr) (vf:V) (ll tl:Addr) (x y:V) (xs ys:List V):(vs=[.ref c,x,y])->(H c=some (.ins a.A1 dc (ja vf (.ref ll) (.ref tl))))->(H ll=some (.lst xs))->(H tl=some (.lst ys))->(ll≠tl)->(xs.length <= 10000)->(ys.length <= 10000)->(Q .non (upd (upd H ll (.lst (xs++[x]))) tl (.lst (ys++[y]))))->ydn a vs H Q E'
theorem yk1 (T:Txt K mg a):wa P w K mg base CX0 1 a.L8 a.L9 ["self","name","text"] (ydn a):=by
 exists T.Dm.F.ok,yuo,B;obtain ⟨c,n,l,d,e,x,y,i,m,rfl,g,j,p,r,v,u,k⟩:=h;refine ⟨_,(yi (yw (ψ PySem.F.plainAttrs_list PySem.F.slot_list_append PySem.F.type_list_append wz (yp (pv 0) rfl) (yb (pv 1) ye (ya rfl)))) (yf (yw (ψ PySem.F.plainAttrs_list PySem.F.slot_list_append PySem.F.type_list_append wz (yp (pv 0) rfl) (yb (pv 2) ye (ya rfl)))))),?_⟩;exists 3,0;rfl';refine za j ?_;rfl';refine xt j (vq (by omega)) ?_;have t:(upd H d (.lst (i++[x]))) c=some (.ins a.A1 n (ja l (.ref d) (.ref e))):=by rw [yq (fun z=>by rw [z,j] at g; cases g)]; exact g
 rfl';have b:(upd H d (.lst (i++[x]))) e=some (.lst m):=by rw [yq r.symm]; exact p
 refine za b ?_;rfl';refine xt b (vq (by omega)) ?_;rfl';exact k
theorem Â.grow {H H1:Hp} {ll:Addr} {n:Nat} {kd:Nat->Fin 3} {ps:Nat->List Int} {ks:List V} {M M':Nat} {W:Addr->Prop} (h:Â K a H c dc p ll tl n kd ps L ks M W) {nm:Str} {t:List Int} {k:V} (hf:FZ K a H1 p n kd ps (Ú (L.map (·.2))++dec t) M' W') (g:Go W H H1 W') (hk:k=.non\/∃ q,k=.ref q/\H1 q=some (.lst (t.map V.int))/\¬ ChW ll tl W' q) :
  Â K a (upd (upd H1 ll (.lst (nmL L++[V.str nm]))) tl (.lst (ks++[k]))) c dc p ll tl n kd ps (L++[(nm,t)]) (ks++[k]) M' W'/\Go (ChW ll tl W) H (upd (upd H1 ll (.lst (nmL L++[V.str nm]))) tl (.lst (ks++[k]))) (ChW ll tl W'):=by
 have m:=g.fr _ _ h.hl h.nll;have l:=g.fr _ _ h.ht h.ntl;have v:=g.fr _ _ h.me h.nc;have i:∀ {x:Addr} {o:HO},H x=some o->¬ W x->¬ W' x:=fun {x o} e d w=>(g.nw x w).elim d fun z=>by rw [e] at z; cases z
 have B:=i h.hl h.nll;have C:=i h.ht h.ntl
 have f:∀ x o,H1 x=some o->¬ (x=ll\/x=tl)->(upd (upd H1 ll (.lst (nmL L++[V.str nm]))) tl (.lst (ks++[k]))) x=some o:=fun x o e d=>by
  rw [yq (fun z=>d (.inr z)),yq (fun z=>d (.inl z))]; exact e
 have s:c≠ll:=fun z=>by have e:=h.me; rw [z,h.hl] at e; cases e
 have j:c≠tl:=fun z=>by have e:=h.me; rw [z,h.ht] at e; cases e
 refine ⟨⟨f _ _ v fun z=>z.elim s j,?_,?_,yc,?_,i h.me h.nc,B,C,h.ne⟩,⟨fun x o e d=>?_,fun x w=>?_,fun x o e=>?_⟩⟩
 .have G:Ú ((L++[(nm,t)]).map (·.2))=Ú (L.map (·.2))++dec t:=by rw [bS]; exact ā _ _
  rw [G];refine hf.frame (W2:=fun x=>x=ll\/x=tl) (fun x w=>?_) (fun x w z=>?_) fun x o e d=>f x o e d
  .rcases w with z | z
   .refine ⟨_,by rw [show x=ll from z]; exact m,.inr ⟨_,rfl,fun y A=>?_⟩⟩;obtain ⟨u,_,e⟩:=bD.mp A;exact .inl ⟨u.1,e.symm⟩
   .refine ⟨_,by rw [show x=tl from z]; exact l,.inr ⟨_,rfl,fun y A=>.inr ?_⟩⟩;exact (h.tx.mem y A).imp id fun ⟨q,F,e,r,b⟩=>⟨q,e,.inl ⟨F,g.fr q _ r fun w=>b (.inr (.inr w))⟩⟩
  .rcases z with z | z
   .rw [z] at w; exact B w
   .rw [z] at w; exact C w
 .rw [yq h.ne,yc];unfold nmL;rw [bS];rfl
 .refine Ŵ.snoc ?_ (h.tx.mono fun q I e b=>⟨f q _ (g.fr q _ e fun w=>b (.inr (.inr w))) fun z=>b (z.imp id .inl),fun w=>?_⟩)
  .refine hk.imp id fun ⟨q,e,r,b⟩=>⟨q,e,f q _ r fun z=>b (z.imp id .inl),b⟩
  .rcases w with w | w | w
   .exact b (.inl w)
   .exact b (.inr (.inl w))
   .exact i e (fun w=>b (.inr (.inr w))) w
 .exact f x o (g.fr x o e fun w=>d (.inr (.inr w))) fun z=>d (z.imp id .inl)
 .rcases w with w | w | w
  .exact .inl (.inl w)
  .exact .inl (.inr (.inl w))
  .exact (g.nw x w).imp (fun w=>.inr (.inr w)) id
 .obtain ⟨D,E⟩:=g.lv x o e;by_cases z2:x=tl
  .exact ⟨_,by rw [z2]; exact yc⟩
  .by_cases z1:x=ll
   .exact ⟨_,by rw [z1,yq h.ne]; exact yc⟩
   .exact ⟨D,f x D E fun z=>z.elim z1 z2⟩
theorem ymb:ym ["self","name","text","data"] ["self","name","text"] (yh ypy):=wx (by right)
inductive ħ (K:W.Frag) (a:Ads) (vs:List V) (H:Hp) (Q:VK) (E':XK):Prop
 | mk (c dc p ll tl:Addr) (n:Nat) (kd:Nat->Fin 3) (ps:Nat->List Int) (L:List (Str × List Int)) (ks:List V) (M:Nat) (W:Addr->Prop) (tx:Addr) (nm:Str) (ts:List Int):(vs=[.ref c,.str nm,.ref tx])->(Â K a H c dc p ll tl n kd ps L ks M W)->(L.length <= 1000)->(Ĕ H tx ts 1000)->(¬ W tx)->(M+6 * (dec ts).length+20 < 1000000)->(∀ (r:Addr) (W':Addr->Prop) (H':Hp),H r=none->H' r=some (.lst ((Í n kd ps (Ú (L.map (·.2))) ts).map V.int))->Â K a H' c dc p ll tl n kd ps (L++[(nm,ts)]) (ks++[.non]) (M+6 * (dec ts).length) W'->Go (ChW ll tl W) H H' (ChW ll tl W')->Q (.ref r) H')->ħ K a vs H Q E'
theorem yu6 (T:Txt K mg a):wa P w K mg base CX0 8 a.La a.Lb ["self","name","text"] (ħ K a):=by
 exists T.Hf.F.ok,ymb,x;obtain ⟨c,y,p,u,v,n,U,X,L,Y,M,W,S,nm,I,rfl,b,Z,l,f,O,k⟩:=h;have J:=b.me;have N:=b.tx.len;refine ⟨_,(yi (yt (i:=3) ymb.nd rfl (Or.inl rfl) (vi (ytu T) (x.mono (by decide)) rfl T.Et.m T.Et.F.kp T.Et.B .nil vh (yb (yp (pv 0) rfl) (yb (pv 2) ye (ya rfl)) (ya rfl)))) (yi (yw (xh (pv 0) T.Am T.Dm.m (yk1 T) (x.mono (by decide)) T.Dm.B .nil vh (yb (pv 1) (yb jd ye (ya rfl)) (ya rfl)))) (yf (yu (pv 3))))),?_⟩;exists 3,1;rfl';refine b.fz.press l f O fun r R H1 d o C g=>?_;have t:=g.fr _ _ b.hl b.nll;have q:=g.fr _ _ b.ht b.ntl;have j:=g.fr _ _ b.me b.nc;rfl';refine ⟨c,y,_,u,v,_,_,_,_,rfl,j,t,q,b.ne,by unfold nmL; rw [bv]; omega,by omega,?_⟩;obtain ⟨z,g2⟩:=b.grow (nm:=nm) C g (.inl rfl);rfl';refine k r R _ d ?_ z g2;rw [yq (yd b.ht d).symm,yq (yd b.hl d).symm];exact o
theorem ymw:ym ["self","name","data","most","first"] ["self","name","data","most"] (yh yq6):=wx (by right)
inductive yaj (K:W.Frag) (a:Ads) (vs:List V) (H:Hp) (Q:VK) (E':XK):Prop
 | mk (c dc p ll tl:Addr) (n:Nat) (kd:Nat->Fin 3) (ps:Nat->List Int) (L:List (Str × List Int)) (ks:List V) (M:Nat) (W:Addr->Prop) (dt:Addr) (nm:Str) (ts bs:List Int) (mo:Nat):(vs=[.ref c,.str nm,.ref dt,.int mo])->(Â K a H c dc p ll tl n kd ps L ks M W)->(L.length <= 1000)->(Sgs ts)->(H dt=some (.lst ((Í n kd ps (Ú (L.map (·.2))) ts++bs).map V.int)))->(¬ W dt)->(Byt bs)->((Í n kd ps (Ú (L.map (·.2))) ts++bs).length <= 12000)->(ts.length <= mo)->(mo <= 1000)->(M+54 * mo+200 < 1000000)->(∀ (q:Addr) (W':Addr->Prop) (H':Hp),H q=none->Â K a H' c dc p ll tl n kd ps (L++[(nm,ts)]) (ks++[.ref q]) (M+6 * (dec ts).length) W'->Go (ChW ll tl W) H H' (ChW ll tl W')->Q (.int ((Í n kd ps (Ú (L.map (·.2))) ts).length:Nat)) H')->yaj K a vs H Q E'
theorem ytr (T:Txt K mg a):wa P w K mg base (CXe P w) 11 a.Lc a.Ld ["self","name","data","most"] (yaj K a):=by
 exists T.Hg.F.okE,ymw,X;obtain ⟨c,dc,p,f,j,n,U,Y,L,Z,M,W,dt,nm,O,bs,mo,rfl,b,hz,r,J,I,o,x,u,N,hM,k⟩:=h;have a1:=b.me;have a2:=b.tx.len;refine ⟨_,(yi (yt (i:=4) ymw.nd rfl (Or.inl rfl) (v6 (ywv T) (X.mono (by decide)) rfl T.Ew.m T.Ew.F.kp T.Ew.B .nil vg (yb (yp (pv 0) rfl) (yb (pv 2) (yb (pv 3) ye (ya rfl)) (ya rfl)) (ya rfl)))) (yi (yw (xh (pv 0) T.Am T.Dm.m (yk1 T) (X.mono (by decide)) T.Dm.B .nil vh (yb (pv 1) (yb (ua Ô (pv 4) yg (fun _ _=>rfl)) ye (ya rfl)) (ya rfl)))) (yf (yu (ua Ô (pv 4) yg (fun _ _=>rfl)))))),?_⟩;exists 4,1;rfl';refine b.fz.read (z6 _) r J I o x u N hM fun t q S H1 e d R hq hf g nq=>?_;have G:=g.fr _ _ b.hl b.nll;have C:=g.fr _ _ b.ht b.ntl;have y:=g.fr _ _ b.me b.nc;rfl';refine ⟨t,_,0,_,rfl,rfl,SqT.of R,rfl,?_⟩;rfl';refine ⟨c,dc,_,f,j,_,_,_,_,rfl,y,G,C,b.ne,by unfold nmL; rw [bv]; omega,by omega,?_⟩
 have v:¬ ChW f j S q:=fun w=>by
  rcases w with w | w | w
  .exact yd b.hl d w.symm
  .exact yd b.ht d w.symm
  .exact nq w
 obtain ⟨z,g2⟩:=b.grow (nm:=nm) hf g (.inr ⟨q,rfl,hq,v⟩)
 have D:(upd (upd H1 f (.lst (nmL L++[V.str nm]))) j (.lst (Z++[V.ref q]))) t=some (.tup [.ref q,.int ((Í n U Y (Ú (L.map (·.2))) O).length:Nat)]):=by
  rw [yq (yd b.ht e).symm,yq (yd b.hl e).symm];exact R
 rfl';refine ⟨t,_,1,_,rfl,rfl,SqT.of D,rfl,?_⟩;exact k q S _ d z g2
theorem ywa:ym ["thing"] ["thing"] (yh yqz):=wx (by right)
inductive yan (K:W.Frag) (vs:List V) (H:Hp) (Q:VK) (E':XK):Prop
 | mk (x n:_):(vs=[x])->(x4 K H x (.type n))->((∀ s,x=.str s->s.length <= 100000))->(∀ H',yy H H'->Q (.bl (nmV x)) H')->yan K vs H Q E'
theorem yt6 (T:Txt K mg a):wa P w K mg base CX0 1 a.Le a.Lf ["thing"] (yan K):=by
 exists T.Ex.F.ok,ywa,v;obtain ⟨x,n,rfl,d,b,k⟩:=h;refine ⟨_,(yf (yu (ue (yr vy rfl T.A5 (by right) (yb (pv 0) (yb (ut (T:="str") rfl T.Hv (by right)) ye (ya rfl)) (ya rfl))) (ue (τ zq zq yg (yr Ñ rfl T.Ae (by right) (yb (pv 0) ye (ya rfl))) (vt rfl T.Dv)) (zt (yr (jk rfl) rfl T.Da (by right) (yb (wj (js:=[]) (ys:=[]) rfl (yu5 (pv 0)) (fun C r u t=>(x6 yft (pv 0) (yow rfl T.Nd) (by with_unfolding_all rfl))) rfl rfl (hyc:=y7) (hrel:=y7)) ye (ya rfl)))))))),?_⟩;exists 1,0;rfl';refine jo d (ydq d) ?_;rfl';by_cases hn:n="str"
 .obtain ⟨s',rfl⟩:∃ s',x=.str s':=by
   cases d with
   | str s'=>exact ⟨s',rfl⟩
   | _=>exact absurd hn (by decide)
  have b:=b s' rfl;rw [bJ hn];refine Ĥ ?_;rfl';refine ⟨s',rfl,cc b (by decide),?_⟩;refine ⟨1,(s'.length:Int),rfl,rfl,_,rfl,?_⟩;by_cases h1:(1:Int) <= (s'.length:Int)
  .refine ű h1 ?_;refine ⟨(s'.length:Int),8,rfl,rfl,_,rfl,?_⟩;by_cases h8:(s'.length:Int) <= 8
   .refine ű h8 ?_;rfl';refine ⟨s',rfl,fun D j=>?_⟩;refine yfp (fun i=>.bl (yna (s'.cps.toList.getD i 0))) j (fun i c G q p S f=>?_) (fun G S f=>?_)
    .rfl';refine ⟨_,_,rfl,rfl,?_⟩;refine Mp.doneR j (Nat.lt_of_le_of_lt (show s'.cps.size <= 100000 from b) (by decide)) p S f ?_
     have m:s'.cps.toList.getD i 0=c:=by
      rw [cq,Array.getElem?_toList,q]; rfl
     rw [m];unfold yna;rfl
    .rfl';refine ⟨D,s'.cps.toList.map yna,rfl,?_,?_⟩
     .refine SqL.of (f.trans ?_);rw [yn9]
     .have e:=ywm h1 h8;rw [<- e];exact k _ S
   .have e:=ywc h8;rw [e] at k;exact ybh h8 (k _ (yy.refl _))
  .have e:=ysq h1;rw [e] at k;refine ybh h1 ?_;exact ⟨_,rfl,ė (k _ (yy.refl _))⟩
 .have e:nmV x=false:=by
   cases d with
   | str s'=>exact absurd rfl hn
   | _=>rfl
  rw [bO hn];rw [e] at k;exact ė (k _ (yy.refl _))
theorem yvg:ym ["thing"] ["thing"] (yh yqt):=wx (by right)
inductive yc7 (K:W.Frag) (C:Addr) (vs:List V) (H:Hp) (Q:VK) (E:XK):Prop
 | mk (x n:_):(vs=[x])->(x4 K H x (.type n))->((∀ s,x=.str s->s.length <= 100000))->((nmV x=true->∀ H',yy H H'->Q x H'))->((nmV x=false->∀ H',yy H H'->E (.ref C) none H'))->yc7 K C vs H Q E
theorem yit (T:Txt K mg a):wa P w K mg base (CXe P w) 2 a.Lg a.Lh ["thing"] (yc7 K a.Ah):=by
 exists T.C5.F.okE,yvg,i;obtain ⟨x,n,rfl,g,d,j,k⟩:=h;refine ⟨_,(yi (wb (xr (xj (vi (yt6 T) (i.mono (by decide)) rfl T.Ex.m T.Ex.F.kp T.Ex.B .nil vh (yb (pv 0) ye (ya rfl))))) (yf (xg rfl T.No T.Dr (yb xm ye (ya rfl)))) y9) (yf (yu (pv 0)))),?_⟩;exists 1,0;rfl';refine ⟨x,n,rfl,g,d,fun l c=>?_⟩;rfl'
 cases hx:nmV x with
 | false =>
  rfl';exact ⟨by walk_at "len",k hx _ c⟩
 | true =>
  rfl';exact j hx _ c
theorem yui:ym ["thing"] ["thing"] (yh yqp):=wx (by right)
inductive ycw (K:W.Frag) (C:Addr) (vs:List V) (H:Hp) (Q:VK) (E:XK):Prop
 | mk (x n:_):(vs=[x])->(x4 K H x (.type n))->((∀ s,x=.str s->s.length <= 100000))->(((x=.non\/nmV x=true)->∀ H',yy H H'->Q .non H'))->((x≠.non->nmV x=false->∀ H',yy H H'->E (.ref C) none H'))->ycw K C vs H Q E
theorem ysm (T:Txt K mg a):wa P w K mg base (CXe P w) 3 a.Li a.Lj ["thing"] (ycw K a.Ah):=by
 exists T.Ey.F.okE,yui,l;obtain ⟨x,n,rfl,k,g,f,o⟩:=h;refine ⟨_,(yf (wb (yx Ŭ (pv 0) jd (y8 _)) (yf (yw (v6 (yit T) (l.mono (by decide)) rfl T.C5.m T.C5.F.kp T.C5.B .nil vg (yb (pv 0) ye (ya rfl))))) y9)),?_⟩;exists 1,0;rfl';by_cases hx:x=.non
 .subst hx;rfl';exact f (.inl rfl) _ (yy.refl _)
 .rfl';rw [bO hx];refine Ĥ ?_;rfl';refine ⟨x,n,rfl,k,g,fun d e b=>?_,fun d e b=>o hx d e b⟩;rfl';exact f (.inr d) _ b
theorem yvu:ym ["self","base","data"] ["self","base","data"] (yh ypv):=wx (by right)
inductive ycv (a:Ads) (vs:List V) (H:Hp) (Q:VK) (E':XK):Prop
 | mk (p dp:Addr) (x y:V):(vs=[.ref p,x,y])->(H p=some (.ins a.A6 dp []))->(∀ H',H' p=some (.ins a.A6 dp (Č x y))->But p H H'->Q .non H')->ycv a vs H Q E'
theorem yvn (T:Txt K mg a):wa P w K mg base CX0 1 a.Gj a.Lk ["self","base","data"] (ycv a):=by
 exists T.Ez.F.ok,yvu,j;obtain ⟨p,b,x,y,rfl,l,k⟩:=h;refine ⟨_,(yi (vk (pv 0) (pv 1) rfl) (yf (vk (pv 0) (pv 2) rfl))),?_⟩;exists 3,0;rfl';have d:upd H p (HO.ins a.A6 b ([("base",x)]:List (Str × V))) p=some (HO.ins a.A6 b ([("base",x)]:List (Str × V))):=yc;have e:But p H (upd H p (HO.ins a.A6 b ([("base",x)]:List (Str × V)))):=But.upd;generalize upd H p (HO.ins a.A6 b ([("base",x)]:List (Str × V)))=i at d e ⊢;rfl';exact k _ yc (e.trans But.upd)
theorem yt3:ym ["self","looks","most"] ["self","looks","most"] (yh yfi):=wx (by right)
inductive ö (K:W.Frag) (a:Ads) (vs:List V) (H:Hp) (Q:VK) (E':XK):Prop
 | mk (p ds l:Addr) (mo w:Nat) (n:Nat) (lk tp:Nat->Addr) (kd:Nat->Fin 3) (ps:Nat->List Int):(vs=[.ref p,.ref l,.int mo])->(H p=some (.ins a.A0 ds []))->(H l=some (.lst (refs lk n)))->(1 <= n)->(n <= 6)->(xu H n lk kd tp ps)->(mo <= 1000)->(w <= mo)->(w <= 200)->(∀ (ll d c dc q cl ct:Addr) (U:Addr->Prop) (H':Hp),jf K a H' p ds ll d c dc q cl ct lk tp n kd ps mo w [] [] [] U->(∀ x,StW c cl ct U x->H x=none)->H ll=none->H d=none->But p H H'->(∀ y xs H'',H y=some (.lst xs)->But y H' H''->jf K a H'' p ds ll d c dc q cl ct lk tp n kd ps mo w [] [] [] U)->Q .non H')->ö K a vs H Q E'
theorem yh2 (T:Txt K mg a):wa P w K mg base (CXe P w) 10 a.D6 a.Ll ["self","looks","most"] (ö K a):=by
 exists T.Po.okE,yt3,hr;obtain ⟨p,j,l,G,w,n,lk,tp,kd,ps,rfl,X,hl,M,n6,O,a1,a3,a6,k⟩:=h;refine yj (vk (pv 0) (v6 (ym2 T) (hr.mono (by decide)) rfl T.Co.m T.Co.F.kp T.Co.B .nil vg (yb (pv 1) ye (ya rfl))) rfl) ?_;refine yj (yw (v6 (yzz T) (hr.mono (by decide)) rfl T.N7.m T.N7.F.kp T.N7.B .nil vg (yb (pv 2) ye (ya rfl)))) ?_;refine yj (vk (pv 0) (pv 2) rfl) ?_;refine yj (vk (pv 0) ydm rfl) ?_;refine ⟨_,(yf (vk (pv 0) (ug T.Fo (yif T) (hr.mono (by decide)) rfl T.Fn T.D9.B .nil vg (yb (yp (pv 0) rfl) ye (ya rfl))) rfl)),?_⟩;exists 3,0;rfl';refine .inr ⟨l,refs lk n,List.replicate (refs lk n).length true,rfl,hl,by rw [wq]; omega,O.lks.bs,fun _ g H1 v a9 u=>?_,fun no=>absurd ⟨by rw [wq]; exact M,by rw [wq]; exact n6,yhq _⟩ no⟩;have ak:=u _ _ X;rfl';have ab:upd H1 p (HO.ins a.A0 j ([("looks",V.ref g)]:List (Str × V))) p=some (HO.ins a.A0 j ([("looks",V.ref g)]:List (Str × V))):=yc;have BA:But p H1 (upd H1 p (HO.ins a.A0 j ([("looks",V.ref g)]:List (Str × V)))):=But.upd;generalize upd H1 p (HO.ins a.A0 j ([("looks",V.ref g)]:List (Str × V)))=HA at ab BA ⊢;refine ⟨.int G,"int",rfl,.int _,fun _=>?_,fun z=>by rw [ytv a1] at z; cases z⟩;rfl';have Z:upd HA p (HO.ins a.A0 j ([("looks",V.ref g),("most",V.int G)]:List (Str × V))) p=some (HO.ins a.A0 j ([("looks",V.ref g),("most",V.int G)]:List (Str × V))):=yc;have BB:But p HA (upd HA p (HO.ins a.A0 j ([("looks",V.ref g),("most",V.int G)]:List (Str × V)))):=But.upd;generalize upd HA p (HO.ins a.A0 j ([("looks",V.ref g),("most",V.int G)]:List (Str × V)))=HB at Z BB ⊢;intro d hd0
 with_reducible first | refine yv hd0 fun HC SC eC=>?_ | refine ve hd0 fun HC SC eC=>?_
 have am:=SC _ _ Z;rfl';have r:upd HC p (HO.ins a.A0 j ([("looks",V.ref g),("most",V.int G),("pieces",V.ref d)]:List (Str × V))) p=some (HO.ins a.A0 j ([("looks",V.ref g),("most",V.int G),("pieces",V.ref d)]:List (Str × V))):=yc;have BD:But p HC (upd HC p (HO.ins a.A0 j ([("looks",V.ref g),("most",V.int G),("pieces",V.ref d)]:List (Str × V)))):=But.upd;generalize upd HC p (HO.ins a.A0 j ([("looks",V.ref g),("most",V.int G),("pieces",V.ref d)]:List (Str × V)))=Y at r BD ⊢;have J:∀ x o,H1 x=some o->x≠p->Y x=some o:=fun x o e t=>BD _ _ (SC _ _ (BB _ _ (BA _ _ e t) t)) t
 have K0:∀ x,x≠p->Y x=none->H x=none:=fun x t e=>by
  cases z:H x with
  | none=>rfl
  | some o=>rw [J _ _ (u _ _ z) t] at e; cases e
 have a2:g≠p:=(yd X v).symm;have D:d≠p:=(yd Z hd0).symm;have C:=J _ _ a9 a2;have N:Y d=some (.dK []):=BD _ _ eC D
 have ad:xu Y n lk kd tp ps:=fun i hi=>by
  obtain ⟨q,e,W,R,h3⟩:=O i hi;exact ⟨q,e,J _ _ (u _ _ W) (xa W X (by intro z; cases z)),J _ _ (u _ _ R) (xa R X (by intro z; cases z)),h3⟩
 refine ⟨p,_,j,_,_,rfl,r,T.A4,T.An,rfl,?_⟩;rfl';intro c dc nc ah al;have SQ:yy Y (upd (upd Y dc (.own c)) c (.ins a.A1 dc [])):=fun b o e=>by rw [yq (yd e nc),yq (yd e ah)]; exact e
 refine ⟨c,dc,g,n,lk,tp,kd,ps,rfl,yc,SQ _ _ C,M,n6,ad.same SQ,fun q cl ct U HE af a5 BE ag=>⟨rfl,?_⟩⟩;have I:yy Y HE:=fun b o e=>BE _ _ (SQ _ _ e) (yd e nc);have a8:=I _ _ r
 have S:∀ x,StW c cl ct U x->Y x=none:=fun x w=>by
  rcases w with z | z
  .rw [z]; exact nc
  .exact SQ.free (a5 x z)
 have a0:¬ StW c cl ct U p:=fun w=>by have e:=S _ w; rw [r] at e; cases e
 have a4:H d=none:=by
  cases z:H d with
  | none=>rfl
  | some o=>rw [BB _ _ (BA _ _ (u _ _ z) D) D] at hd0; cases hd0
 rfl';refine k g d c dc q cl ct U _ ⟨yc,M,n6,yk a2 (I _ _ C),fun i hi=>?_,⟨yk D (I _ _ N),fun q f=>(by cases f),List.nodup_nil,fun q f=>(by cases f),fun q f=>(by cases f),bR _,fun q f=>(by cases f)⟩,af.but a8 a0 But.upd,fun x hx w=>?_,a1,⟨a3,a6⟩,⟨none,rfl⟩⟩ (fun x w=>?_) v ?_ (fun x o e t=>yk t (I _ _ (J _ _ (u _ _ e) t))) (fun y xs H2 L b=>?_)
 .obtain ⟨q,e,W,R,h3⟩:=O i hi;have M:=xa W X (by intro z; cases z);have n2:=xa R X (by intro z; cases z);exact ⟨q,e,yk M (I _ _ (J _ _ (u _ _ W) M)),yk n2 (I _ _ (J _ _ (u _ _ R) n2)),h3⟩
 .have e:=S _ w;rcases hx with z | z | z | ⟨q,f,_⟩
  .rw [z,r] at e; cases e
  .rw [z,C] at e; cases e
  .rw [z,N] at e; cases e
  .cases f
 .exact K0 x (fun z=>a0 (z ▸ w)) (S x w)
 .exact a4
 .have a7:p≠y:=fun z=>by rw [<- z,X] at L; cases L
  have ac:=SQ _ _ (J _ _ (u _ _ L) a7.symm)
  have bG:But y HE (upd H2 p (HO.ins a.A0 j ([("looks",V.ref g),("most",V.int G),("pieces",V.ref d)]:List (Str × V)))):=fun x o e t=>by
   by_cases z:x=p
   .rw [z,yc]; rw [z,a8] at e; exact e
   .exact yk z (b _ _ (yk z e) t)
  have aa:=ag y xs _ ac bG;have aj:=u _ _ L;refine ⟨b _ _ yc a7,M,n6,b _ _ (yk a2 (I _ _ C)) (fun z=>by rw [<- z,v] at L; cases L),fun i hi=>?_,⟨b _ _ (yk D (I _ _ N)) (fun z=>by rw [<- z,a4] at L; cases L),fun q f=>(by cases f),List.nodup_nil,fun q f=>(by cases f),fun q f=>(by cases f),bR _,fun q f=>(by cases f)⟩,aa.but yc a0 (fun x o e t=>by rw [yq t] at e; exact e),fun x hx w=>?_,a1,⟨a3,a6⟩,⟨none,rfl⟩⟩
  .obtain ⟨q,e,W,R,h3⟩:=O i hi;have M:=xa W X (by intro z; cases z);have n2:=xa R X (by intro z; cases z);exact ⟨q,e,b _ _ (yk M (I _ _ (J _ _ (u _ _ W) M))) (xa W L (by intro z; cases z)),b _ _ (yk n2 (I _ _ (J _ _ (u _ _ R) n2))) (xa R L (by intro z; cases z)),h3⟩
  .have e:=S _ w;rcases hx with z | z | z | ⟨q,f,_⟩
   .rw [z,r] at e; cases e
   .rw [z,C] at e; cases e
   .rw [z,N] at e; cases e
   .cases f
theorem Sto.new {H:Hp} {st l:Addr} {mo w n:Nat} {lk:Nat->Addr} {kd:Nat->Fin 3} {ps:Nat->List Int} {Q:VK} {E:XK} (hst0:H st=none) (hds0:H ds=none) (hlo:H l=some (.lst (refs lk n))) (n1:1 <= n) (n6:n <= 6) (hR:xu H n lk kd tp ps) (m1:mo <= 1000) (wm:w <= mo) (w2:w <= 200)
  (k:∀ X H',Sto K a H' st ⟨n,kd,ps,mo,w⟩ [] X->yy H H'->(∀ y,X.f y->H y=none)->(∀ y xs H'',H y=some (.lst xs)->But y H' H''->Sto K a H'' st ⟨n,kd,ps,mo,w⟩ [] X)->Q .non H'):ö K a [.ref st,.ref l,.int mo] (upd (upd H ds (.own st)) st (.ins a.A0 ds [])) Q E:=by
 have g:yy H (upd (upd H ds (.own st)) st (.ins a.A0 ds [])):=fun b o e=>by rw [yq (yd e hst0),yq (yd e hds0)]; exact e
 refine ⟨st,ds,l,mo,w,n,lk,tp,kd,ps,rfl,yc,g _ _ hlo,n1,n6,hR.same g,m1,wm,w2,fun x d c v p u t U B s j h r A i=>k _ B ⟨ds,x,d,c,v,p,u,t,lk,tp,[],[],[],U,s,rfl,rfl⟩ (fun y o e=>A _ _ (g _ _ e) (yd e hst0)) (fun y m=>?_) fun y xs C m b=>⟨ds,x,d,c,v,p,u,t,lk,tp,[],[],[],U,i y xs C (g _ _ m) b,rfl,rfl⟩⟩;rcases m with (z | z | z) | z | ⟨q,hq,_⟩ | z
 .rw [z]; exact g.free r
 .rw [z]; exact hst0
 .exact g.free (j y z)
 .rw [z]; exact g.free h
 .cases hq
 .cases z
theorem ysl:ym ["self"] ["self"] (yh ypp):=wx (by right)
inductive ă (a:Ads) (vs:List V) (H:Hp) (Q:VK) (E':XK):Prop
 | mk (st ds ll:Addr) (vm vp vc:V) (xs:List V):(vs=[.ref st])->(H st=some (.ins a.A0 ds (w5 (.ref ll) vm vp vc)))->(H ll=some (.lst xs))->(∀ l H',H l=none->H' l=some (.lst xs)->yy H H'->Q (.ref l) H')->ă a vs H Q E'
theorem ymm (T:Txt K mg a):wa P w K mg base CX0 1 a.Ln a.Lo ["self"] (ă a):=by
 exists T.Dn.F.ok,ysl,r;obtain ⟨q,o,e,j,g,f,p,rfl,m,d,k⟩:=h;refine ⟨_,(yf (yu (vn v8 rfl T.Ab (by right) (yb (yp (pv 0) rfl) ye (ya rfl))))),?_⟩;exists 1,0;rfl';refine ⟨e,_,rfl,.inl (SqL.of d),fun l b=>?_⟩;exact k l _ b yc (vj b)
theorem Sto.tlooks {H:Hp} {st:Addr} {C:Cf} {P:List Pd} {X:Sx} {Q:VK} {E:XK} (h:Sto K a H st C P X) (k:∀ l lk tp H',H l=none->H' l=some (.lst (refs lk C.n))->xu H' C.n lk C.kd tp C.ps->yy H H'->Q (.ref l) H'):ă a [.ref st] H Q E:=by
 obtain ⟨b,g,d,c,o,p,j,i,lk,tp,m,L,q,U,s,rfl,rfl⟩:=h;exact ⟨st,b,g,_,_,_,_,rfl,s.me,s.lo,fun l H' f e S=>k l lk tp H' f e (s.row.same S) S⟩
theorem ytm:ym ["self"] ["self"] (yh yrt):=wx (by right)
inductive Š (a:Ads) (vs:List V) (H:Hp) (Q:VK) (E':XK):Prop
 | mk (st ds:Addr) (vl vm vp vc:V):(vs=[.ref st])->(H st=some (.ins a.A0 ds (w5 vl vm vp vc)))->(Q vm H)->Š a vs H Q E'
theorem ys2 (T:Txt K mg a):wa P w K mg base CX0 1 a.Lp a.Lq ["self"] (Š a):=by
 exists T.Hh.F.ok,ytm,n;obtain ⟨m,j,l,f,d,c,rfl,g,k⟩:=h;refine ⟨_,(yf (yu (yp (pv 0) rfl))),?_⟩;exists 1,0;rfl';exact k
theorem Sto.tmost {H:Hp} {st:Addr} {C:Cf} {P:List Pd} {X:Sx} {Q:VK} {E:XK} (h:Sto K a H st C P X) (k:Q (.int C.mo) H):Š a [.ref st] H Q E:=by
 obtain ⟨b,l,d,c,j,p,f,e,g,m,i,L,n,U,s,rfl,rfl⟩:=h;exact ⟨st,b,_,_,_,_,rfl,s.me,k⟩
theorem ysk:ym ["self"] ["self"] (yh yqs):=wx (by right)
inductive ŝ (a:Ads) (vs:List V) (H:Hp) (Q:VK) (E':XK):Prop
 | mk (st ds d:Addr) (vl vm vc:V) (P:List Pc):(vs=[.ref st])->(H st=some (.ins a.A0 ds (w5 vl vm (.ref d) vc)))->(H d=some (.dK (pcs P)))->(P.length <= 60)->(∀ l H',H l=none->H' l=some (.lst (P.map fun q=>V.str q.nm))->yy H H'->Q (.ref l) H')->ŝ a vs H Q E'
theorem yv9 (T:Txt K mg a):wa P w K mg base CX0 1 a.Lr a.Ls ["self"] (ŝ a):=by
 exists T.Hi.F.ok,ysk,v;obtain ⟨t,o,d,r,j,f,P,rfl,m,g,u,k⟩:=h;refine ⟨_,(yf (yu (vn (jg rfl) rfl T.Ab (by right) (yb (yp (pv 0) rfl) ye (ya rfl))))),?_⟩;exists 1,0;rfl';refine ⟨d,_,rfl,g,fun l b=>?_⟩;have e:(pcs P).map (fun p=>kV p.1)=P.map fun q=>V.str q.nm:=by unfold pcs; rw [cg]; rfl
 rw [e];exact k l _ b yc (vj b)
theorem Sto.names {H:Hp} {st:Addr} {C:Cf} {P:List Pd} {X:Sx} {Q:VK} {E:XK} (h:Sto K a H st C P X) (k:∀ l H',H l=none->H' l=some (.lst (P.map fun q=>V.str q.nm))->yy H H'->Q (.ref l) H'):ŝ a [.ref st] H Q E:=by
 obtain ⟨b,o,d,c,n,p,j,i,m,r,e,L,t,U,s,rfl,rfl⟩:=h;refine ⟨st,b,d,_,_,_,e,rfl,s.me,s.pz.dk,s.pz.z,fun l H' g f S=>k l H' g ?_ S⟩;rw [cg];exact f
theorem ywd:ym ["self","text"] ["self","text"] (yh yqv):=wx (by right)
inductive yg0 (a:Ads) (vs:List V) (H:Hp) (Q:VK) (E:XK):Prop
 | mk (st ds tx:Addr) (vl vp vc:V) (mo:Int) (xs:List V):(vs=[.ref st,.ref tx])->(H st=some (.ins a.A0 ds (w5 vl (.int mo) vp vc)))->(H tx=some (.lst xs))->(((xs.length:Int) <= mo->Q .non H))->((¬ (xs.length:Int) <= mo->E (.ref a.Aj) none H))->yg0 a vs H Q E
theorem ytj (T:Txt K mg a):wa P w K mg base (CXe P w) 1 a.Lv a.Lx ["self","text"] (yg0 a):=by
 exists T.Hj.F.okE,ywd,t;obtain ⟨q,l,r,n,e,d,j,p,rfl,g,c,m,o⟩:=h;refine ⟨_,(yf (wb (yx yfj (yr yz rfl T.Ae (by right) (yb (pv 1) ye (ya rfl))) (yp (pv 0) rfl) (y8 _)) (yf (xg rfl T.N8 T.D4 (yb xm ye (ya rfl)))) y9)),?_⟩;exists 2,0;rfl';refine zn (SqL.of c) ?_;rfl';refine uz (fun i=>?_) (fun i=>?_)
 .rfl';exact ⟨by walk_at "len",o (by omega)⟩
 .exact m (by omega)
theorem ysw:ym ["self","name"] ["self","name"] (yh yqy):=wx (by right)
inductive ym5 (K:W.Frag) (a:Ads) (vs:List V) (H:Hp) (Q:VK) (E:XK):Prop
 | mk (st ds d:Addr) (vl vm vc:V) (n:Nat) (kd:Nat->Fin 3) (ps:Nat->List Int) (w:Nat) (P:List Pc) (x:V) (nt:String):(vs=[.ref st,x])->(H st=some (.ins a.A0 ds (w5 vl vm (.ref d) vc)))->(Ł a H d n kd ps w P)->(x4 K H x (.type nt))->((∀ s,x=.str s->s.length <= 100000))->((nmV x=false->∀ H',yy H H'->E (.ref a.Ah) none H'))->((∀ b,x=.str b->nmS b=true->(∀ q,q∈P->q.nm≠b)->∀ H',yy H H'->E (.ref a.A7) none H'))->((∀ r,r∈P->x=.str r.nm->nmS r.nm=true->∀ H',yy H H'->Q (.ref r.ob) H'))->ym5 K a vs H Q E
theorem yef (T:Txt K mg a):wa P w K mg base (CXe P w) 3 a.M0 a.M4 ["self","name"] (ym5 K a):=by
 exists T.Cb.F.okE,ysw,j;obtain ⟨D,C,d,J,N,u,n,G,L,w,P,x,p,rfl,g,O,I,M,R,S,y⟩:=h;refine ⟨_,(yi (wb (yh9 (yao (Ì j) (v6 (yit T) (j.mono (by decide)) rfl T.C5.m T.C5.F.kp T.C5.B .nil vg (yb (pv 1) ye (ya rfl))) (yp (pv 0) rfl))) (yf (xg rfl T.N9 T.D5 (yb xm ye (ya rfl)))) y9) (yf (yu (j5 (Ì j) (yp (pv 0) rfl) (pv 1) (fun _ _=>rfl))))),?_⟩;exists 2,0;rfl';refine ⟨x,p,rfl,I,M,fun k t f=>?_,fun k t f=>R k t f⟩;obtain ⟨b,rfl,o⟩:=yt1 k;have q:=f _ _ g;have c:=O.same f;rfl';rcases yxe P b with ⟨r,e,rfl⟩ | l
 .refine ⟨d,_,rfl,c.get e,?_⟩;refine ⟨false,rfl,ė ?_⟩;rfl';refine ⟨d,_,rfl,c.get e,?_⟩;exact y r e rfl o _ f
 .refine ⟨d,_,rfl,c.getNo l,?_⟩;refine ⟨true,rfl,Ĥ ?_⟩;rfl';exact ⟨by walk_at "len",S b rfl o l _ f⟩
theorem yud:ym ["self","name","base"] ["self","name","base"] (yh yqb):=wx (by right)
inductive ygr (K:W.Frag) (a:Ads) (vs:List V) (H:Hp) (Q:VK) (E:XK):Prop
 | mk (st ds d:Addr) (vl vm vc:V) (n:Nat) (kd:Nat->Fin 3) (ps:Nat->List Int) (w:Nat) (P:List Pc) (b:Str) (x:Option Str):(vs=[.ref st,.str b,baV x])->(H st=some (.ins a.A0 ds (w5 vl vm (.ref d) vc)))->(Ł a H d n kd ps w P)->((∀ y,x=some y->nmS y=true/\y.length <= 100000))->(((∃ r,r∈P/\r.nm=b)->E (.ref a.Ax) none H))->(((∀ q,q∈P->q.nm≠b)->(∀ y,x=some y->(∀ q,q∈P->q.nm≠y)->∀ H',yy H H'->E (.ref a.A7) none H')/\(∀ L,To P x L->(P.length=60->∀ H',yy H H'->E (.ref a.C7) none H')/\(P.length≠60->∀ H',yy H H'->Q .non H'))))->ygr K a vs H Q E
theorem ys5 (T:Txt K mg a):wa P w K mg base (CXe P w) 4 a.Ly a.Lz ["self","name","base"] (ygr K a):=by
 exists T.Hk.F.okE,yud,J;obtain ⟨G,v,d,L,O,u,n,I,M,w,P,b,x,rfl,f,g,Y,k1,k2⟩:=h;refine ⟨_,(yi (wb (yh9 (ysh (Ì J) (pv 1) (yp (pv 0) rfl))) (yf (xg rfl T.Ot T.Fr (yb xm ye (ya rfl)))) y9) (yi (wb (yx Ŭ (pv 2) jd (y8 _)) (yf (yw (vz (pv 0) T.A4 T.Cb.m (yef T) (J.mono (by decide)) T.Cb.B .nil vg (yb (pv 2) ye (ya rfl))))) y9) (yf (wb (yx x3 (yr Ą rfl T.Ae (by right) (yb (yp (pv 0) rfl) ye (ya rfl))) (vt rfl T.E7) (y8 _)) (yf (xg rfl T.Pf T.I3 (yb xm ye (ya rfl)))) y9)))),?_⟩;exists 3,0;rfl';rcases yxe P b with ⟨r,c,rfl⟩ | D
 .refine ⟨d,_,rfl,g.get c,?_⟩;refine ⟨true,rfl,Ĥ ?_⟩;rfl';exact ⟨by walk_at "len",k1 ⟨r,c,rfl⟩⟩
 .refine ⟨d,_,rfl,g.getNo D,?_⟩;refine ⟨false,rfl,ė ?_⟩;obtain ⟨U,C⟩:=k2 D;have Z:(pcs P).length=P.length:=bv _;rfl'
  cases x with
  | none =>
   refine yk0 (fun _=>?_) (fun z=>absurd rfl z);obtain ⟨l,j⟩:=C [] rfl;rfl';refine ⟨d,_,rfl,g.dk,?_⟩;rfl';refine uz (fun t=>?_) (fun t=>?_)
   .rfl';exact ⟨by walk_at "len",l (by omega) _ (yy.refl _)⟩
   .rfl';exact j (by omega) _ (yy.refl _)
  | some y =>
   refine yk0 (fun z=>nomatch z) (fun _=>?_)
   obtain ⟨p,q⟩:=Y y rfl;rfl';refine ⟨G,v,d,L,O,u,n,I,M,w,P,.str y,"str",rfl,f,g,.str y,(fun s e=>by cases e; exact q),(fun z=>by rw [show nmV (.str y)=nmS y from rfl,p] at z; cases z),(fun b e _ k W S=>by cases e; exact U y rfl k W S),fun r c e _ H1 i=>?_⟩;obtain rfl:y=r.nm:=by cases e; rfl
   obtain ⟨l,j⟩:=C _ ⟨r,c,rfl,rfl⟩;have N:=i _ _ f;rfl';refine ⟨d,_,rfl,i _ _ g.dk,?_⟩;rfl';refine uz (fun t=>?_) (fun t=>?_)
   .rfl';exact ⟨by walk_at "len",l (by omega) _ i⟩
   .rfl';exact j (by omega) _ i
theorem yh0:ym ["self","name","links"] ["self","name"] (yh yrs):=wx (by right)
inductive yc5 (a:Ads) (vs:List V) (H:Hp) (Q:VK) (E':XK):Prop
 | mk (st ds d:Addr) (vl vm vc:V) (n:Nat) (kd:Nat->Fin 3) (ps:Nat->List Int) (w:Nat) (P:List Pc) (x:Option Str) (L:List (Str × List Int)):(vs=[.ref st,baV x])->(H st=some (.ins a.A0 ds (w5 vl vm (.ref d) vc)))->(Ł a H d n kd ps w P)->(To P x L)->(∀ (l:Addr) (H':Hp),H l=none->H' l=some (.lst (nmL L))->yy H H'->Q (.ref l) H')->yc5 a vs H Q E'
theorem ylv (T:Txt K mg a):wa P w K mg base CX0 1 a.M5 a.M6 ["self","name"] (yc5 a):=by
 exists T.Do.F.ok,yh0,hr;obtain ⟨M,Z,d,vl,vm,W,n,kd,ps,w,P,x,L,rfl,t,C,U,k⟩:=h;refine ⟨_,(yi (yt (i:=2) yh0.nd rfl (Or.inl rfl) (xi ye)) (yi (zk PassesOwn.never (yx Ŭ (pv 1) jd (y8 _)) (yi (yw (ψ PySem.F.plainAttrs_list PySem.F.slot_list_append PySem.F.type_list_append wz (pv 2) (yb (pv 1) ye (ya rfl)))) (yf (yt (i:=1) yh0.nd rfl (Or.inl rfl) (yp (j5 (Ì hr) (yp (pv 0) rfl) (pv 1) (fun _ _=>rfl)) rfl))))) (yi (yw (đ PySem.F.plainAttrs_list PySem.F.slot_list_reverse PySem.F.type_list_reverse Ê (pv 2))) (yf (yu (pv 2)))))),?_⟩;exists 2,1;rfl';refine ⟨by walk_at "len",fun l c=>?_⟩;rfl'
 refine ⟨fun m σ' G=>∃ (y:Option Str) (R S:List (Str × List Int)),σ'=[some (.ref M),some (baV y),some (.ref l)]/\To P y R/\R++S=L/\G l=some (.lst (nmL S).reverse)/\yy H G/\m=R.length,
  ⟨_,x,L,[],rfl,U,cY L,yc,vj c,rfl⟩,?_⟩
 rintro m σ2 G ⟨y,R,S,rfl,J,f,g,B,rfl⟩;have N:=B _ _ t;have a2:=C.same B;have I:=To.len C U;have a1:S.length <= 61:=by rw [<- f,bC] at I; omega
 rfl'
 cases y with
 | none =>
  refine yk0 (fun _=>?_) (fun z=>absurd rfl z);have e:S=L:=by rw [show R=[] from J] at f; exact f
  rfl';refine za g ?_;rfl';refine ć g ?_;rw [List.reverse_reverse,e];rfl';exact k l _ c yc fun b o z=>yk (yd z c) (B _ _ z)
 | some b =>
  refine yk0 (fun z=>nomatch z) (fun _=>?_)
  obtain ⟨r,p,rfl,v⟩:=J;refine ⟨_,fun σ' H' z=>z,?_⟩;rfl';refine za g ?_;rfl';refine xt g (vq (by unfold nmL; rw [List.length_reverse,bv]; omega)) ?_;have j:yy H (upd G l (HO.lst ((nmL S).reverse++[baV (some r.nm)]))):=fun b o e=>yk (yd e c) (B _ _ e);have u:upd G l (HO.lst ((nmL S).reverse++[baV (some r.nm)])) l=some (HO.lst ((nmL S).reverse++[baV (some r.nm)])):=yc;generalize upd G l (HO.lst ((nmL S).reverse++[baV (some r.nm)]))=G' at j u ⊢;have O:=j _ _ t;have q:=C.same j;have a0:=(q.ob r p).1;rfl';refine ⟨d,_,rfl,q.get p,?_⟩;rfl';refine ⟨r.path.length,?_,r.bs,r.path,(r.nm,r.tx) :: S,rfl,C.wf r p,?_,?_,j,rfl⟩
  .rw [v,bC,cy];omega
  .rw [<- f,v,cz];rfl
  .rw [yor];exact u
theorem yiv:ym ["self","name","links","link"] ["self","name"] (yh yph):=wx (by right)
inductive İ (K:W.Frag) (a:Ads) (vs:List V) (H:Hp) (Q:VK) (E':XK):Prop
 | mk (st ds ll d c dc p cl ct:Addr) (lk tp:Nat->Addr) (n:Nat) (kd:Nat->Fin 3) (ps:Nat->List Int) (mo w:Nat) (P:List Pc) (L:List (Str × List Int)) (ks:List V) (U:Addr->Prop) (x:Option Str) (L':List (Str × List Int)):(vs=[.ref st,baV x])->(jf K a H st ds ll d c dc p cl ct lk tp n kd ps mo w P L ks U)->(To P x L')->(∀ (c' dc' p' cl' ct':Addr) (ks':List V) (U':Addr->Prop) (H':Hp),jf K a H' st ds ll d c' dc' p' cl' ct' lk tp n kd ps mo w P L' ks' U'->Go (StO st c cl ct U) H H' (StO st c' cl' ct' U')->NK H ks ks'->(V.non∈ks'->V.non∈ks.take L'.length)->Q (.ref c') H')->İ K a vs H Q E'
theorem ylo (T:Txt K mg a):wa P w K mg base (CXe P w) 12 a.M7 a.M8 ["self","name"] (İ K a):=by
 exists T.Dp.F.okE,yiv,hr;obtain ⟨O,ds,ll,d,c,dc,p,cl,ct,lk,tp,n,kd,ps,mo,w,P,L,ks,U,x,t,rfl,N,hL,k⟩:=h;have ab:=N.me;refine yj (yt (i:=2) yiv.nd rfl (Or.inl rfl) (xh (pv 0) T.A4 T.Do.m (ylv T) (hr.mono (by decide)) T.Do.B .nil vh (yb (pv 1) ye (ya rfl)))) ?_;refine yj (ud (wb (yx (Ē hr.units) (yp (yp (pv 0) rfl) rfl) (xx jb (pv 2) uh (uk (yr yz rfl T.Ae (by right) (yb (yp (yp (pv 0) rfl) rfl) ye (ya rfl))))) (y8 _)) (yf (vk (pv 0) (ug T.Fo (yif T) (hr.mono (by decide)) rfl T.Fn T.D9.B .nil vg (yb (yp (pv 0) rfl) ye (ya rfl))) rfl)) y9)) ?_;refine yj (PS.nox (uw PassesOwn.never rfl (wu (xx jb (pv 2) (uk (yr yz rfl T.Ae (by right) (yb (yp (yp (pv 0) rfl) rfl) ye (ya rfl)))) uh)) (wo (i:=3) yiv.nd rfl (Or.inl rfl)) (yf (yw (vz (yp (pv 0) rfl) T.Am T.Hg.m (ytr T) (hr.mono (by decide)) T.Hg.B .nil wd (yb (pv 3) (yb (yp (j5 (Ì hr) (yp (pv 0) rfl) (pv 3) (fun _ _=>rfl)) rfl) (yb (yp (pv 0) rfl) ye (ya rfl)) (ya rfl)) (ya rfl))))))) ?_;refine ⟨_,(yf (yu (yp (pv 0) rfl))),?_⟩;exists 2,2;rfl';refine ⟨O,ds,d,_,_,_,n,kd,ps,w,P,x,t,rfl,ab,N.pz,hL,fun l H1 aB ac S1=>?_⟩;have aw:=S1 _ _ ab;have ad:=N.same S1;have aE:=ad.ch.me;have a7:=ad.ch.hl;obtain ⟨y,hy⟩:=N.way;have au:=To.len N.pz hL;have as:=To.len N.pz hy;refine ⟨fun σ2 G=>∃ (W R p2 f j:Addr) (J:List V) (U2:Addr->Prop) (C:List (Str × List Int)),σ2=[some (.ref O),some (baV x),some (.ref l),none]/\jf K a G O ds ll d W R p2 f j lk tp n kd ps mo w P C J U2/\Go (StO O c cl ct U) H G (StO O W f j U2)/\C=t.take C.length/\C.length <= t.length/\G l=some (.lst (nmL t))/\NK H ks J/\(V.non∈J->V.non∈ks.take t.length),?_,?_⟩
 .rfl';refine zn (SqL.of a7) ?_;rfl';refine ybe (SqL.of ac) fun q hq0=>?_;rw [j6,zh,Ý]
  with_reducible first | refine yv hq0 fun H2 S2 e2=>?_ | refine ve hq0 fun H2 S2 e2=>?_
  have a5:=S1.trans S2;have M:=N.same a5;have a4:=M.me;have Z:=S2 _ _ ac;rw [Ë] at e2;have a3:=M.ch.hl;rw [Ë] at a3;refine yin _ _ (hy.ok N.pz) (fun z hz=>hL.ok N.pz z (by obtain ⟨u,hu,rfl⟩:=bD.mp hz; exact bD.mpr ⟨u,cH hu,rfl⟩)) (SqL.of a3) (SqL.of e2) ?_;by_cases he:L.map (·.1)=(t.take L.length).map (·.1)
  .rw [bJ he];refine ⟨false,rfl,ė ?_⟩;have e3:=To.ahead N.pz.nd N.pz.wf hy hL (by rw [Ý]; exact ym3 he);have e4:=congrArg List.length e3;rw [bT] at e4;exact ⟨c,dc,p,cl,ct,ks,U,L,rfl,M,Go.refl.same a5,e3,by omega,Z,.refl,fun z=>by rw [cA (by rw [N.ch.tx.len]; omega)]; exact z⟩
  .rw [bO he];refine ⟨true,rfl,Ĥ ?_⟩;rfl';intro c' a0 nc aa aD;have SQ:yy H2 (upd (upd H2 a0 (.own c')) c' (.ins a.A1 a0 [])):=fun b o e=>by rw [yq (yd e nc),yq (yd e aa)]; exact e
   refine ⟨c',a0,ll,n,lk,tp,kd,ps,rfl,yc,SQ _ _ M.lo,M.n1,M.n6,M.row.same SQ,fun p' an af U' HE X a8 BE _=>⟨rfl,?_⟩⟩;obtain ⟨hR,gR,SE,hN⟩:=M.re nc aa X a8 BE;have ax:=SE _ _ a4;rfl'
   exact ⟨c',a0,p',an,af,[],U',[],rfl,hR,gR.ahead a5,rfl,bR _,yk (fun z=>by rw [z,a4] at Z; cases Z) (SE _ _ Z),.nil,fun z=>nomatch z⟩
 .rintro σ2 G ⟨W,R,p2,f,j,J,U2,C,rfl,hG,go,ak,ag,ai,ap,ao⟩;have ar:=hG.me;have az:=hG.ch.me;have ae:=hG.ch.hl;rfl';refine zn (SqL.of ae) ?_;rfl';refine ybe (SqL.of ai) fun q hq0=>?_;rw [j6,ykq];have S1:=vj (o:=(HO.lst ((nmL t).drop C.length))) hq0;have e1:upd G q (HO.lst ((nmL t).drop C.length)) q=some (HO.lst ((nmL t).drop C.length)):=yc;generalize upd G q (HO.lst ((nmL t).drop C.length))=G1 at S1 e1 ⊢
  have ah:∀ S F,Go (StO O W f j U2) G1 F (StO O W f j S)->jf K a G O ds ll d W R p2 f j lk tp n kd ps mo w P C J U2->F q=some (HO.lst ((nmL t).drop C.length)):=fun S F g hG=>g.fr _ _ e1 fun w=>by
   obtain ⟨o,e⟩:=hG.lvO q w;rw [hq0] at e;cases e
  refine ⟨q,rfl,⟨_,SqL.of e1⟩,uf (K:=K) (a:=q) (xs:=(nmL t).drop C.length) (fun i σ2 F=>∃ (v:Option V) (D:List V) (S:Addr->Prop),σ2=[some (.ref O),some (baV x),some (.ref l),v]/\jf K a F O ds ll d W R p2 f j lk tp n kd ps mo w P (t.take (C.length+i)) D S/\Go (StO O W f j U2) G1 F (StO O W f j S)/\NK G1 J D/\(V.non∈D->V.non∈J)) ?_ ?_ ?_ ?_⟩
  .rw [Nat.add_zero,<- ak];exact ⟨none,J,U2,rfl,hG.same S1,Go.refl,.refl,id⟩
  .rintro i σ2 F _ ⟨v,D,S,rfl,I,g,a2,Y⟩;exact SqL.of (ah S F g hG)
  .rintro i z σ2 F hz ⟨v,D,S,rfl,I,g,a2,Y⟩
   have hj:C.length+i < t.length:=by
    rcases Nat.lt_or_ge (C.length+i) t.length with z | z
    .exact z
    .rw [cn (by rw [cM,j6]; omega)] at hz;cases hz
   obtain ⟨r,a1,e3,e4,e5⟩:=hL.at' N.pz.wf hj
   obtain rfl:z=.str r.nm:=by
    rw [List.getElem?_drop,Ë,cg,bB,bx hj,e3] at hz;cases hz;rfl
   have a9:=I.me;have aA:=I.ch.me;obtain ⟨av,a6⟩:=I.pz.ob r a1;rfl';refine ⟨d,_,rfl,I.pz.get a1,?_⟩;rfl';have al:=I.pz.sz r a1;have hb:=I.wm;have hm:=yma (L:=t.take (C.length+i)) (w:=w) (fun y hy=>(hL.sz N.pz y (cH hy)).2) hb.2 (by rw [bT]; omega);have aq:=I.mo1;have ay:=ydc (n:=n) (kd:=kd) (ps:=ps) (pre:=Ú ((t.take (C.length+i)).map (·.2))) (ts:=r.tx) I.n1 I.n6 (z6 _) (by omega);refine ⟨W,R,p2,f,j,n,kd,ps,t.take (C.length+i),D,mOf (t.take (C.length+i)),S,r.dl,r.nm,r.tx,[],mo,rfl,I.ch,by rw [bT]; omega,al.1,?_,fun w=>I.nw r.dl (.inr (.inr (.inr ⟨r,a1,.inr rfl⟩))) (.inr (.inr (.inr w))),(fun b hb=>by cases hb),by rw [cY]; omega,by omega,aq,by omega,fun q3 U4 F2 aj X g2=>?_⟩
   .rw [cY,<- e4];exact a6
   rw [<- yc1,<- e3,<- cV hj] at X;obtain ⟨h4,g4⟩:=I.go X g2 ⟨_,e5⟩;rfl';exact ⟨_,_,U4,rfl,h4,g.trans g4,a2.app (fun q e=>by cases e; exact g.free aj),fun z=>Y ((bY.mp z).elim id fun y=>by cases bQ.mp y)⟩
  .rintro σ2 F ⟨v,D,S,rfl,I,g,a2,Y⟩;rw [cM,j6,Nat.add_sub_cancel' ag,cP] at I;have a9:=I.me;rfl';exact k W R p2 f j D S F I (go.trans (g.ahead S1)) (ap.trans a2 fun q e=>go.free (S1.free e)) fun z=>ao (Y z)
theorem Â.lvW {H:Hp} {ll:Addr} {n:Nat} {kd:Nat->Fin 3} {ps:Nat->List Int} {ks:List V} {M:Nat} {W:Addr->Prop} (h:Â K a H c dc p ll tl n kd ps L ks M W):∀ x,StW c ll tl W x->∃ o,H x=some o:=fun x b=>by
 rcases b with z | z | z | z
 .exact ⟨_,by rw [z]; exact h.me⟩
 .exact ⟨_,by rw [z]; exact h.hl⟩
 .exact ⟨_,by rw [z]; exact h.ht⟩
 .exact h.fz.live x z
theorem Â.butM {H H':Hp} {ll:Addr} {n:Nat} {kd:Nat->Fin 3} {ps:Nat->List Int} {ks:List V} {M:Nat} {W:Addr->Prop} (h:Â K a H c dc p ll tl n kd ps L ks M W) {o:HO} (hq:H q=some o) (ho:yr8 o=true) (nq:¬ StW c ll tl W q) (B:But q H H'):Â K a H' c dc p ll tl n kd ps L ks M W:=by
 have b:∀ {x:Addr} {d:List V},H x=some (.lst d)->x≠q:=fun {x d} e z=>by rw [z,hq] at e; cases e; cases ho
 exact ⟨B _ _ h.me fun z=>nq (.inl z.symm),h.fz.frame (W2:=fun x=>x=q) (fun x z=>⟨o,by rw [show x=q from z]; exact hq,.inl ho⟩) (fun x w z=>nq (.inr (.inr (.inr (by rw [<- show x=q from z]; exact w))))) (fun x o e g=>B x o e g),B _ _ h.hl (b h.hl),B _ _ h.ht (b h.ht),h.tx.mono fun x d e f=>⟨B _ _ e (b e),f⟩,h.nc,h.nll,h.ntl,h.ne⟩
theorem To.more {P:List Pc} {q:Pc} {x:Option Str} (h:To P x L):To (P++[q]) x L:=by
 cases x with
 | none=>exact h
 | some b =>
  obtain ⟨r,a,e⟩:=h;exact ⟨r,List.mem_append_left _ a,e⟩
section
variable {H H1 H2 H3:Hp} {st ll d ct:Addr} {lk:Nat->Addr} {n:Nat} {kd:Nat->Fin 3} {ps:Nat->List Int} {mo w:Nat} {P:List Pc} {ks ks':List V}
theorem jf.put (h:jf K a H st ds ll d c dc p cl ct lk tp n kd ps mo w P L ks U) {b:Str} {x:Option Str} {r ob od:Addr} (hc:Â K a H1 c dc p cl ct n kd ps (L++[(b,ts)]) ks' (mOf L+6 * (dec ts).length) U') (g:Go (ChW cl ct U) H H1 (ChW cl ct U')) (hr0:H r=none) (hr:H1 r=some (.lst ((Í n kd ps (Ú (L.map (·.2))) ts).map V.int))) (hob0:H1 ob=none) (S:yy H1 H2) (hob:H2 ob=some (.ins a.A6 od (Č (baV x) (.ref r))))
  (hL:To P x L) (hL6:L.length <= 60) (hts:Sgs ts) (htz:ts.length <= w) (hb1:nmS b=true) (hb2:PyData.strOk b=true) (hno:∀ q,q∈P->q.nm≠b) (hP:P.length < 60) :
  jf K a (upd H2 d (.dK (pcs (P++[⟨b,x,L,ts,ob,od,r⟩])))) st ds ll d c dc p cl ct lk tp n kd ps mo w (P++[⟨b,x,L,ts,ob,od,r⟩]) (L++[(b,ts)]) ks' U'/\Go (fun y=>y=d\/StO st c cl ct U y) H (upd H2 d (.dK (pcs (P++[⟨b,x,L,ts,ob,od,r⟩])))) (fun y=>y=d\/StO st c cl ct U' y):=by
 have g1:Go (StW c cl ct U) H H1 (StW c cl ct U'):=g.or (Y:=fun x=>x=c);have f:∀ x o,H x=some o->(x=st\/x=ll\/x=d\/∃ q,q∈P/\(x=q.ob\/x=q.dl))->H2 x=some o:=fun x o e B=>S _ _ (g1.fr x o e (h.nw x B));have l:=f _ _ h.me (.inl rfl);have m:=f _ _ h.lo (.inr (.inl rfl));have j:=f _ _ h.pz.dk (.inr (.inr (.inl rfl)));have t:=g1.apart (fun x B=>h.lv x B) h.nw;have s:xu H2 n lk kd tp ps:=h.row.fr fun x M e=>S _ _ (g1.fr _ _ e (h.ch.noTup e));have A:Â K a H2 c dc p cl ct n kd ps (L++[(b,ts)]) ks' (mOf (L++[(b,ts)])) U':=by rw [yc1]; exact hc.same S
 have v:¬ StW c cl ct U' ob:=fun z=>by
  obtain ⟨o,e⟩:=hc.lvW ob z;rw [hob0] at e;cases e
 have J:¬ StW c cl ct U' r:=fun z=>by
  rcases z with z | z | z | z
  .rw [z,h.ch.me] at hr0; cases hr0
  .rw [z,h.ch.hl] at hr0; cases hr0
  .rw [z,h.ch.ht] at hr0; cases hr0
  .exact hc.fz.sh.ints hr (yj5 h.n1 h.n6 (z6 _)) z
 refine ⟨⟨yk (fun z=>by rw [z,j] at l; cases l) l,h.n1,h.n6,yk (fun z=>by rw [z,j] at m; cases m) m,s.fr fun x M e=>yk (fun z=>by rw [z,j] at e; cases e) e,⟨yc,fun q i=>?_,?_,fun q i=>?_,fun q i=>?_,?_,fun q i=>?_⟩,A.butM j rfl (t d (.inr (.inr (.inl rfl)))) But.upd,fun y u=>?_,h.mo1,h.wm,⟨some b,_,bP _ (bQ.mpr rfl),rfl,rfl⟩⟩,⟨fun y o e E=>?_,fun y z=>?_,fun y o e=>?_⟩⟩
 .rcases bY.mp i with z | z
  .have C:=f _ _ (h.pz.ob q z).1 (.inr (.inr (.inr ⟨q,z,.inl rfl⟩)));have k:=f _ _ (h.pz.ob q z).2 (.inr (.inr (.inr ⟨q,z,.inr rfl⟩)));exact ⟨yk (fun z=>by rw [z,j] at C; cases C) C,yk (fun z=>by rw [z,j] at k; cases k) k⟩
  .obtain rfl:=bQ.mp z;have k:=S _ _ hr;exact ⟨yk (fun z=>by rw [show ob=d from z,j] at hob; cases hob) hob,yk (fun z=>by rw [show r=d from z,j] at k; cases k) k⟩
 .rw [bS];refine List.nodup_append.mpr ⟨h.pz.nd,(by simp),fun y u z F e=>?_⟩;obtain ⟨q,i,rfl⟩:=bD.mp u;rw [List.map_singleton,bQ] at F;exact hno q i (e.trans F)
 .rcases bY.mp i with z | z
  .exact (h.pz.wf q z).more
  .obtain rfl:=bQ.mp z;exact hL.more
 .rcases bY.mp i with z | z
  .exact h.pz.sz q z
  .obtain rfl:=bQ.mp z;exact ⟨hts,htz,hL6,fun y u=>hL.sz h.pz y u⟩
 .rw [bC,cy]; omega
 .rcases bY.mp i with z | z
  .exact h.pz.nm q z
  .obtain rfl:=bQ.mp z;exact ⟨hb1,hb2⟩
 .rcases u with z | z | z | ⟨q,i,z⟩
  .exact t y (.inl z)
  .exact t y (.inr (.inl z))
  .exact t y (.inr (.inr (.inl z)))
  .rcases bY.mp i with D | D
   .exact t y (.inr (.inr (.inr ⟨q,D,z⟩)))
   .obtain rfl:=bQ.mp D;rcases z with z | z
    .rw [z]; exact v
    .rw [z]; exact J
 .exact yk (fun z=>E (.inl z)) (S _ _ (g1.fr y o e fun z=>E (.inr (.inr z))))
 .rcases z with z | z | z
  .exact .inl (.inl z)
  .exact .inl (.inr (.inl z))
  .exact (g1.nw y z).imp (fun z=>.inr (.inr z)) id
 .obtain ⟨G,I⟩:=g1.lv y o e;by_cases z:y=d
  .exact ⟨_,by rw [z]; exact yc⟩
  .exact ⟨G,yk z (S _ _ I)⟩
end
theorem yiu:ym ["self","name","text","base","signs","data"] ["self","name","text","base"] (yh yfh):=wx (by right)
inductive yep (K:W.Frag) (a:Ads) (vs:List V) (H:Hp) (Q:VK) (E:XK):Prop
 | mk (st ds ll d c dc p cl ct:Addr) (lk tp:Nat->Addr) (n:Nat) (kd:Nat->Fin 3) (ps:Nat->List Int) (mo w:Nat) (P:List Pc) (L:List (Str × List Int)) (ks:List V) (U:Addr->Prop) (b:Str) (x:Option Str) (tx:Addr) (ts:List Int):(vs=[.ref st,.str b,.ref tx,baV x])->(jf K a H st ds ll d c dc p cl ct lk tp n kd ps mo w P L ks U)->(nmS b=true)->(PyData.strOk b=true)->(Ĕ H tx ts 1000)->((∀ y,x=some y->nmS y=true))->(P.length < 60)->((mo < ts.length->∀ H',yy H H'->E (.ref a.Aj) none H'))->((ts.length <= mo->(∃ r,r∈P/\r.nm=b)->∀ H',yy H H'->E (.ref a.Ax) none H'))->((ts.length <= mo->(∀ q,q∈P->q.nm≠b)->∀ y,x=some y->(∀ q,q∈P->q.nm≠y)->∀ H',yy H H'->E (.ref a.A7) none H'))->((ts.length <= mo->(∀ q,q∈P->q.nm≠b)->∀ L',To P x L'->ts.length <= w/\L'.length <= 60 /\
 ∀ (ob od dl c' dc' p' cl' ct':Addr) (ks':List V) (U':Addr->Prop) (H':Hp),jf K a H' st ds ll d c' dc' p' cl' ct' lk tp n kd ps mo w (P++[⟨b,x,L',ts,ob,od,dl⟩]) (L'++[(b,ts)]) ks' U'->H ob=none->H dl=none->Go (fun y=>y=d\/StO st c cl ct U y) H H' (fun y=>y=d\/StO st c' cl' ct' U' y)->NK H ks ks'->Q .non H'))->yep K a vs H Q E
theorem ymv (T:Txt K mg a):wa P w K mg base (CXe P w) 13 a.D7 a.Lt ["self","name","text","base"] (yep K a):=by
 exists T.Pp.okE,yiu,C;obtain ⟨Z,ds,ll,d,c,dc,p,cl,ct,lk,tp,n,kd,ps,mo,w,P,L,ks,U,b,x,tx,ts,rfl,R,W,ai,v,J,ae,kL,kT,kN,k⟩:=h;have ay:=R.me;refine yj (yw (v6 (yit T) (C.mono (by decide)) rfl T.C5.m T.C5.F.kp T.C5.B .nil vg (yb (pv 1) ye (ya rfl)))) ?_;refine yj (yt (i:=4) yiu.nd rfl (Or.inl rfl) (v6 (yw9 T) (C.mono (by decide)) rfl T.Fm.m T.Fm.F.kp T.Fm.B .nil vg (yb (pv 2) ye (ya rfl)))) ?_;refine yj (yw (v6 (ysm T) (C.mono (by decide)) rfl T.Ey.m T.Ey.F.kp T.Ey.B .nil vg (yb (pv 3) ye (ya rfl)))) ?_;refine yj (yw (vz (pv 0) T.A4 T.Hj.m (ytj T) (C.mono (by decide)) T.Hj.B .nil vg (yb (pv 4) ye (ya rfl)))) ?_;refine yj (yw (vz (pv 0) T.A4 T.Hk.m (ys5 T) (C.mono (by decide)) T.Hk.B .nil vg (yb (pv 1) (yb (pv 3) ye (ya rfl)) (ya rfl)))) ?_;refine yj (yt (i:=5) yiu.nd rfl (Or.inl rfl) (xh (vz (pv 0) T.A4 T.Dp.m (ylo T) (C.mono (by decide)) T.Dp.B .nil vg (yb (pv 3) ye (ya rfl))) T.Am T.Hf.m (yu6 T) (C.mono (by decide)) T.Hf.B .nil vh (yb (pv 1) (yb (pv 4) ye (ya rfl)) (ya rfl)))) ?_;refine ⟨_,(yf (ycj (Ì C) (yp (pv 0) rfl) (pv 1) (yce T.Os (yvn T) (C.mono (by decide)) rfl T.Oq T.Ez.B .nil vh (yb (pv 3) (yb (pv 5) ye (ya rfl)) (ya rfl))) rfl)),?_⟩;exists 4,2;have av:=č W;have G:∀ y,x=some y->nmS y=true/\y.length <= 8:=fun y e=>⟨J y e,č (J y e)⟩;have ag:=R.wm;have ar:=R.mo1;rfl';refine ⟨.str b,"str",rfl,.str b,(fun s e=>by cases e; omega),fun _ H1 S1=>?_,fun z=>by rw [show nmV (.str b)=nmS b from rfl,W] at z; cases z⟩;have f:=v.same S1;rfl';refine ⟨.ref tx,_,rfl,.lst f.l,.inr ⟨ts.map V.int,ydj f.l f.s (by have:=f.z; omega),fun sg H2 a2 aa S2=>?_⟩⟩;rfl'
 have a0:∃ nt,x4 K H2 (baV x) (.type nt):=by
  cases x with
  | none=>exact ⟨_,.non⟩
  | some y=>exact ⟨_,.str y⟩
 obtain ⟨nt,a0⟩:=a0
 have ak:baV x=.non\/nmV (baV x)=true:=by
  cases x with
  | none=>exact .inl rfl
  | some y=>exact .inr (G y rfl).1
 refine ⟨baV x,nt,rfl,a0,(fun s e=>?_),fun _ H3 S3=>?_,fun z1 z2=>absurd ak fun z=>z.elim z1 fun z=>by rw [z2] at z; cases z⟩
 .cases x with
  | none=>cases e
  | some y=>cases e; have:=(G _ rfl).2; omega
 have u:=S1.trans (S2.trans S3);have ab:=R.same u;have I:=ab.me;have N:=S3 _ _ aa;rfl';refine ⟨Z,ds,sg,_,_,_,mo,_,rfl,I,N,fun t=>?_,fun z=>kL (by rw [bv] at z; omega) _ u⟩;have t:ts.length <= mo:=by rw [bv] at t; omega
 rfl';refine ⟨Z,ds,d,_,_,_,n,kd,ps,w,P,b,x,rfl,I,ab.pz,(fun y e=>⟨(G y e).1,by have:=(G y e).2; omega⟩),(fun hx=>kT t hx _ u),fun D=>⟨fun y e ah H4 S4=>kN t D y e ah _ (u.trans S4),fun L' hL=>⟨fun z=>absurd z (by omega),fun _ H4 S4=>?_⟩⟩⟩;obtain ⟨aq,am,k⟩:=k t D L' hL;have j:=u.trans S4;have a6:=R.same j;have as:=a6.me;have M:=S4 _ _ N;rfl';refine ⟨Z,ds,ll,d,c,dc,p,cl,ct,lk,tp,n,kd,ps,mo,w,P,L,ks,U,x,L',rfl,a6,hL,fun c' a3 p' X O ao U' H5 S g5 an _=>?_⟩;have ax:=S.ch.me
 have a9:¬ StO Z c cl ct U sg:=fun z=>by
  obtain ⟨o,e⟩:=R.lvO sg z;rw [S1.free a2] at e;cases e
 have a7:=g5.fr _ _ M a9;have a4:¬ StO Z c' X O U' sg:=fun z=>(g5.nw sg z).elim a9 fun e=>by rw [M] at e; cases e
 have hm:=yma (L:=L') (w:=w) (fun y hy=>(hL.sz R.pz y hy).2) ag.2 (by omega);have aw:=ub ts;have aB:=v.z;rfl';refine ⟨c',a3,p',X,O,n,kd,ps,L',ao,mOf L',U',sg,b,ts,rfl,S.ch,by omega,⟨a7,v.s,by omega⟩,fun z=>a4 (.inr (.inr (.inr (.inr z)))),by omega,fun r U6 H6 a5 al ad g6=>?_⟩;have ap:=g6.fr _ _ S.me fun z=>S.nw Z (.inl rfl) (.inr z);have af:=g6.fr _ _ S.pz.dk fun z=>S.nw d (.inr (.inr (.inl rfl))) (.inr z);rfl';intro ob od g a8 az;have SQ:yy H6 (upd (upd H6 od (.own ob)) ob (.ins a.A6 od [])):=fun b o e=>by rw [yq (yd e g),yq (yd e a8)]; exact e
 refine ⟨ob,od,baV x,.ref r,rfl,yc,fun H7 a1 B7=>⟨rfl,?_⟩⟩;have S7:yy H6 H7:=fun y o e=>B7 _ _ (SQ _ _ e) (yd e g);have au:=S7 _ _ ap;rfl';refine ⟨d,_,rfl,yi8.k (k:=.inr b) (S7 _ _ af) (vq (by unfold pcs; rw [bv]; omega)),?_⟩;rw [ß _ (ylz D)];obtain ⟨z1,z2⟩:=S.put (x:=x) ad g6 a5 al g S7 a1 hL am v.s aq W ai D ae;have e8:pcs (P++[⟨b,x,L',ts,ob,od,r⟩])=pcs P++[(.inr b,.ref ob)]:=by unfold pcs; rw [bS]; rfl
 rw [e8] at z1 z2;have ac:∀ {y:Addr},H6 y=none->H y=none:=fun {y} e=>j.free (g5.free (g6.free e))
 exact k ob od r c' a3 p' X O _ U6 _ z1 (ac g) (j.free (g5.free a5)) (((g5.ahead j).or (Y:=fun y=>y=d)).trans z2) ((NK.refl.trans an fun _ e=>j.free e).app fun q e=>nomatch e)
theorem Sto.putE {H:Hp} {st:Addr} {C:Cf} {P:List Pd} {X:Sx} {Q:VK} {E:XK} (h:Sto K a H st C P X) {b:Str} {x:Option Str} {tx:Addr} (hb:okN b) (htx:Ĕ H tx ts 1000) (hx:∀ y,x=some y->nmS y=true) (hP:P.length < 60)
  (kL:C.mo < ts.length->∀ H',yy H H'->E (.ref a.Aj) none H') (kT:ts.length <= C.mo->(∃ r,r∈P/\r.nm=b)->∀ H',yy H H'->E (.ref a.Ax) none H') (kN:ts.length <= C.mo->(∀ q,q∈P->q.nm≠b)->∀ y,x=some y->(∀ q,q∈P->q.nm≠y)->∀ H',yy H H'->E (.ref a.A7) none H')
  (k:ts.length <= C.mo->(∀ q,q∈P->q.nm≠b)->∀ L,ToD P x L->ts.length <= C.w/\L.length <= 60/\∀ Y H',Sto K a H' st C (P++[⟨b,x,L,ts⟩]) Y->Gx X H H' Y->Q .non H'):yep K a [.ref st,.str b,.ref tx,baV x] H Q E:=by
 obtain ⟨F,G,d,c,dc,p,cl,M,J,I,i,L0,ks,U,s,rfl,rfl⟩:=h;rw [bv] at hP
 have v:∀ {z:Str},(∀ q,q∈i->q.nm≠z)->∀ q,q∈i.map Pc.pd->q.nm≠z:=fun {z} hz q o=>by
  obtain ⟨u,T,rfl⟩:=bD.mp o;exact hz u T
 refine ⟨st,F,G,d,c,dc,p,cl,M,J,I,C.n,C.kd,C.ps,C.mo,C.w,i,L0,ks,U,b,x,tx,ts,rfl,s,hb.1,hb.2,htx,hx,hP,kL,(fun f ⟨r,hr,e⟩=>kT f ⟨r.pd,bD.mpr ⟨r,hr,rfl⟩,e⟩),(fun f D y e N=>kN f (v D) y e (v N)),fun f D L Z=>?_⟩;obtain ⟨k1,k2,k⟩:=k f (v D) L (ū.mpr Z);refine ⟨k1,k2,fun ob od dl c' j p' m l B S H' O A t g R=>k _ H' ⟨F,G,d,c',j,p',m,l,J,I,_,_,B,S,O,by rw [bS]; rfl,rfl⟩ (Gx.of g R fun q o=>?_)⟩;rcases bY.mp o with z | z
 .exact .inl z
 .rw [bQ.mp z];exact .inr ⟨A,t⟩
theorem Sto.put {H:Hp} {st:Addr} {C:Cf} {P:List Pd} {X:Sx} {Q:VK} {E:XK} (h:Sto K a H st C P X) {b:Str} {x:Option Str} {tx:Addr} (hb:okN b) (htx:Ĕ H tx ts C.w) (hL:ToD P x L) (hno:∀ q,q∈P->q.nm≠b) (hP:P.length < 60)
  (k:∀ Y H',Sto K a H' st C (P++[⟨b,x,L,ts⟩]) Y->Gx X H H' Y->Q .non H'):yep K a [.ref st,.str b,.ref tx,baV x] H Q E:=by
 have m:=h.cf;have i:=htx.z
 have f:∀ y,x=some y->∃ r,r∈P/\r.nm=y:=fun y e=>by
  subst e;obtain ⟨r,c,e,_⟩:=hL;exact ⟨r,c,e⟩
 refine h.putE hb ⟨htx.l,htx.s,by omega⟩ (fun y e=>?_) hP (fun z=>absurd z (by omega)) (fun _ ⟨r,c,e⟩=>absurd e (hno r c)) (fun _ _ y e g=>?_) fun _ _ j d=>⟨i,?_,?_⟩
 .obtain ⟨r,c,e⟩:=f y e;rw [<- e];exact (h.nm r c).1
 .obtain ⟨r,c,e⟩:=f y e;exact absurd e (g r c)
 .have:=d.len h.pw;omega
 .rw [ToD.uniq h.nd d hL];exact k
theorem Ŵ.get {H:Hp} :∀ {L:List (Str × List Int)} {ks:List V},Ŵ H U L ks->∀ {j:Nat} (hj:j < L.length),∃ k,ks[j]?=some k/\(k=.non\/∃ q,k=.ref q/\H q=some (.lst (L[j].2.map V.int))/\¬ U q)
 | [],_,_,j,hj=>absurd hj (ci j)
 | x :: r,_,⟨k,ks',e,z,h⟩,0,hj=>⟨k,by rw [e]; rfl,z⟩
 | x :: r,_,⟨k,ks',e,z,h⟩,j+1,hj=>by
  obtain ⟨b,a,c⟩:=h.get (Nat.lt_of_succ_lt_succ hj);exact ⟨b,by rw [e,List.getElem?_cons_succ]; exact a,c⟩
theorem ylj:ym ["self","name","links"] ["self","name"] (yh yqf):=wx (by right)
inductive ĵ (K:W.Frag) (a:Ads) (vs:List V) (H:Hp) (Q:VK) (E':XK):Prop
 | mk (st ds ll d c dc p cl ct:Addr) (lk tp:Nat->Addr) (n:Nat) (kd:Nat->Fin 3) (ps:Nat->List Int) (mo w:Nat) (P:List Pc) (L:List (Str × List Int)) (ks:List V) (U:Addr->Prop) (x:Option Str) (L':List (Str × List Int)):(vs=[.ref st,baV x])->(jf K a H st ds ll d c dc p cl ct lk tp n kd ps mo w P L ks U)->(To P x L')->(∀ (c' dc' p' cl' ct':Addr) (L2:List (Str × List Int)) (ks':List V) (U':Addr->Prop) (r:Addr) (cx:Nat->Addr) (H1 H':Hp),jf K a H1 st ds ll d c' dc' p' cl' ct' lk tp n kd ps mo w P L2 ks' U'->Go (StO st c cl ct U) H H1 (StO st c' cl' ct' U')->NK H ks ks'->yy H1 H'->H1 r=none->H' r=some (.lst (refs cx L'.length))->(∀ i,i < L'.length->H1 (cx i)=none/\cx i≠r/\H' (cx i)=some (.lst ((txi L' i).map V.int)))->Q (.ref r) H')->ĵ K a vs H Q E'
theorem yv5 (T:Txt K mg a):wa P w K mg base (CXe P w) 13 a.M9 a.Ma ["self","name"] (ĵ K a):=by
 exists T.Hl.F.okE,ylj,hr;obtain ⟨J,ds,ll,d,c,dc,p,cl,ct,lk,tp,n,kd,ps,mo,w,P,L,ks,U,x,g,rfl,R,hL,k⟩:=h;have ah:=R.me;refine yj (yt (i:=2) ylj.nd rfl (Or.inl rfl) (xh (pv 0) T.A4 T.Do.m (ylv T) (hr.mono (by decide)) T.Do.B .nil vh (yb (pv 1) ye (ya rfl)))) ?_;refine yj (ud (wb (yx (yt0 hr.units) jd (xx jb (yp (yp (pv 0) rfl) rfl) uh (uk (yr yz rfl T.Ae (by right) (yb (pv 2) ye (ya rfl))))) (by with_unfolding_all rfl)) (yf (vk (pv 0) (ug T.Fo (yif T) (hr.mono (by decide)) rfl T.Fn T.D9.B .nil vg (yb (yp (pv 0) rfl) ye (ya rfl))) rfl)) y9)) ?_;refine yj (ud (wb (yx (Ē hr.units) (xx jb (yp (yp (pv 0) rfl) rfl) uh (uk (yr yz rfl T.Ae (by right) (yb (pv 2) ye (ya rfl))))) (pv 2) (y8 _)) (yf (yw (vz (pv 0) T.A4 T.Dp.m (ylo T) (hr.mono (by decide)) T.Dp.B .nil vg (yb (pv 1) ye (ya rfl))))) y9)) ?_;refine ⟨_,(yf (yu (wj (js:=[]) (ys:=[]) rfl (wu (xx jb (yp (yp (pv 0) rfl) rfl) uh (uk (yr yz rfl T.Ae (by right) (yb (pv 2) ye (ya rfl)))))) (fun C s2 H2 fp=>(vn (r:=yoq K) v8 rfl T.Ab (by right) (yb (pv 0) ye (ya rfl)))) rfl rfl (hyc:=y7) (hrel:=y7)))),?_⟩;exists 2,1;rfl';refine ⟨J,ds,d,_,_,_,n,kd,ps,w,P,x,g,rfl,ah,R.pz,hL,fun l H1 au aj S1=>?_⟩;have aD:=S1 _ _ ah;have a7:=R.same S1;have aK:=a7.ch.me;have aA:=a7.ch.hl;have ac:=a7.ch.ht;have aC:=To.len R.pz hL;refine ⟨fun σ2 G=>∃ (c2 a1 p2 M N:Addr) (O:List V) (U2:Addr->Prop) (L2:List (Str × List Int)),σ2=[some (.ref J),some (baV x),some (.ref l)]/\jf K a G J ds ll d c2 a1 p2 M N lk tp n kd ps mo w P L2 O U2/\Go (StO J c cl ct U) H G (StO J c2 M N U2)/\NK H ks O/\V.non∉O.take g.length/\G l=some (.lst (nmL g))/\¬ StO J c2 M N U2 l,?_,?_⟩
 .rfl';refine zn (SqL.of aj) ?_;rfl';refine ybe (SqL.of ac) fun q hq0=>?_;rw [j6,zh]
  with_reducible first | refine yv hq0 fun H2 S2 e2=>?_ | refine ve hq0 fun H2 S2 e2=>?_
  have Z:=S1.trans S2;have v:=R.same Z;have W:=v.me;have t:=S2 _ _ aj;refine ⟨q,_,rfl,rfl,SqL.of e2,fun z hz=>(R.ch.tx.mem z (cH hz)).imp id fun ⟨q,ys,e,hq,_⟩=>⟨q,ys,e,SqL.of (Z _ _ hq)⟩,?_⟩;by_cases he:(ks.take g.length).any isN=true
  .rw [he];refine ⟨true,rfl,Ĥ ?_⟩;rfl';intro c' I nc ag aJ;have SQ:yy H2 (upd (upd H2 I (.own c')) c' (.ins a.A1 I [])):=fun b o e=>by rw [yq (yd e nc),yq (yd e ag)]; exact e
   refine ⟨c',I,ll,n,lk,tp,kd,ps,rfl,yc,SQ _ _ v.lo,v.n1,v.n6,v.row.same SQ,fun p' a6 a5 U' HE ar ad BE _=>⟨rfl,?_⟩⟩;obtain ⟨hR,gR,SE,hN⟩:=v.re nc ag ar ad BE;have aE:=SE _ _ W;have aa:l≠J:=fun z=>by rw [z,W] at t; cases t
   rfl';refine ⟨c',I,p',a6,a5,[],U',[],rfl,hR,gR.ahead Z,.nil,by simp,yk aa (SE _ _ t),fun z=>?_⟩;rcases z with z | z
   .exact aa z
   .rw [hN l z] at t; cases t
  .rw [Bool.eq_false_iff.mpr he];refine ⟨false,rfl,ė ?_⟩;refine ⟨c,dc,p,cl,ct,ks,U,L,rfl,v,Go.refl.same Z,.refl,fun z=>he (List.any_eq_true.mpr ⟨_,z,rfl⟩),t,fun z=>?_⟩;obtain ⟨o,e⟩:=R.lvO l z;rw [au] at e;cases e
 .rintro σ2 G ⟨c2,a1,p2,M,N,O,U2,L2,rfl,hG,go,an,ak,af,ay⟩;have az:=hG.me;have aF:=hG.ch.me;have am:=hG.ch.hl;refine ⟨fun σ2 F=>∃ (c3 a8 p3 X a0:Addr) (f:List V) (U3:Addr->Prop) (L3:List (Str × List Int)),σ2=[some (.ref J),some (baV x),some (.ref l)]/\jf K a F J ds ll d c3 a8 p3 X a0 lk tp n kd ps mo w P L3 f U3/\Go (StO J c cl ct U) H F (StO J c3 X a0 U3)/\NK H ks f/\V.non∉f.take g.length/\g=L3.take g.length/\F l=some (.lst (nmL g)),?_,?_⟩
  .rfl';refine zn (SqL.of af) ?_;rfl';refine ybe (SqL.of am) fun q hq0=>?_;rw [j6,zh,Ý]
   with_reducible first | refine yv hq0 fun G2 S2 e2=>?_ | refine ve hq0 fun G2 S2 e2=>?_
   have a4:=hG.same S2;have W:=a4.me;have t:=S2 _ _ af;obtain ⟨y,hy⟩:=hG.way;have a2:=t;rw [Ë] at e2 a2;rfl';refine yin _ _ (fun z hz=>hy.ok R.pz z (by obtain ⟨u,hu,rfl⟩:=bD.mp hz; exact bD.mpr ⟨u,cH hu,rfl⟩)) (hL.ok R.pz) (SqL.of e2) (SqL.of a2) ?_;by_cases he:(L2.take g.length).map (·.1)=g.map (·.1)
   .rw [bJ he];refine ⟨false,rfl,ė ?_⟩;exact ⟨c2,a1,p2,M,N,O,U2,L2,rfl,a4,go.same S2,an,ak,To.ahead R.pz.nd R.pz.wf hL hy (by rw [Ý]; exact (ym3 he).symm),t⟩
   .rw [bO he];refine ⟨true,rfl,Ĥ ?_⟩;rfl';refine ⟨J,ds,ll,d,c2,a1,p2,M,N,lk,tp,n,kd,ps,mo,w,P,L2,O,U2,x,g,rfl,a4,hL,fun c' I p' a6 a5 ax U' F hC Y aq hn=>?_⟩;rfl';exact ⟨c',I,p',a6,a5,ax,U',g,rfl,hC,(go.same S2).trans Y,an.trans aq (fun q e=>go.free (S2.free e)),fun z=>ak (hn (cH z)),(cP).symm,Y.fr _ _ t ay⟩
  .rintro σ2 F ⟨c3,a8,p3,X,a0,f,U3,L3,rfl,hF,ap,aw,ao,al,as⟩;have aB:=hF.me;have aH:=hF.ch.me;have a9:=hF.ch.ht
   have aL:g.length <= L3.length:=by
    have e:=congrArg List.length al;rw [bT] at e;omega
   rfl';refine zn (SqL.of as) ?_;rfl';refine ybe (SqL.of a9) fun q hq0=>?_;rw [j6,zh];have S1:=vj (o:=(HO.lst (f.take g.length))) hq0;have e1:upd F q (HO.lst (f.take g.length)) q=some (HO.lst (f.take g.length)):=yc;generalize upd F q (HO.lst (f.take g.length))=F1 at S1 e1 ⊢;have aG:=hF.ch.tx.len;have a3:(f.take g.length).length=g.length:=by rw [bT]; omega
   have ai:=hF.same S1;refine ⟨q,rfl,⟨_,SqL.of e1⟩,fun D hD=>?_⟩;refine u8 (K:=K) (xs:=f.take g.length) (fun i G=>∃ cx:Nat->Addr,G D=some (.lst (refs cx i))/\(∀ j,j < i->F1 (cx j)=none/\G (cx j)=some (.lst ((txi g j).map V.int))/\cx j≠D)/\yy F1 G)
    ⟨fun _=>0,yc,fun j hj=>absurd hj (ci j),vj hD⟩ (fun i G _ ⟨_,_,_,S⟩=>SqL.of (S _ _ e1)) (fun i y G hy hi z=>?_) (fun G z=>?_)
   .obtain ⟨cx,gD,Y,S⟩:=z;rw [a3] at hi;obtain ⟨k',ek,hk⟩:=ai.ch.tx.get (j:=i) (by omega);rw [List.getElem?_take,if_pos hi,ek] at hy;obtain rfl:k'=y:=by cases hy; rfl
    rcases hk with z | ⟨q2,rfl,ae,_⟩
    .refine absurd ?_ ao;rw [<- z];exact bM (i:=i) (by rw [List.getElem?_take,if_pos hi]; exact ek)
    have et:L3[i].2=txi g i:=by
     have e:=congrArg (fun l=>l[i]?) al;simp only [List.getElem?_take] at e;rw [if_pos hi] at e;unfold txi;rw [cq,bB,e,bx (by omega)];rfl
    rw [et] at ae;rfl';refine ⟨q2,_,rfl,.inl (SqL.of (S _ _ ae)),fun c hc0=>?_⟩;have nc:c≠D:=(yd gD hc0).symm
    with_reducible first | refine yv hc0 fun G2 S2 hc2=>?_ | refine ve hc0 fun G2 S2 hc2=>?_
    refine xw (n:=(f.take g.length).length) (S2 _ _ gD) (vq (by rw [wq]; omega)) (by omega) ?_;refine ⟨upN cx i c,?_,fun j hj=>?_,fun b o e=>yk (yd e hD) (S2 _ _ (S b o e))⟩
    .rw [yc,z0,xq]
     congr 3
     exact jj fun j hj=>(xl hj).symm
    .by_cases z:j=i
     .rw [z,xq];exact ⟨S.free hc0,yk nc hc2,nc⟩
     .have ab:j < i:=by omega
      rw [xl ab];obtain ⟨g1,g2,g3⟩:=Y j ab;exact ⟨g1,yk g3 (S2 _ _ g2),g3⟩
   .obtain ⟨cx,gD,Y,S⟩:=z;rw [a3] at gD Y;exact k c3 a8 p3 X a0 L3 f U3 D cx F1 G ai (ap.same S1) aw S hD gD fun i hi=>⟨(Y i hi).1,(Y i hi).2.2,(Y i hi).2.1⟩
theorem yse:ym ["self","name"] ["self","name"] (yh yqh):=wx (by right)
inductive Ć (K:W.Frag) (a:Ads) (vs:List V) (H:Hp) (Q:VK) (E:XK):Prop
 | mk (st ds ll d c dc p cl ct:Addr) (lk tp:Nat->Addr) (n:Nat) (kd:Nat->Fin 3) (ps:Nat->List Int) (mo w:Nat) (P:List Pc) (L:List (Str × List Int)) (ks:List V) (U:Addr->Prop) (x:V) (nt:String):(vs=[.ref st,x])->(jf K a H st ds ll d c dc p cl ct lk tp n kd ps mo w P L ks U)->(x4 K H x (.type nt))->((∀ s,x=.str s->s.length <= 100000))->((nmV x=false->∀ H',yy H H'->E (.ref a.Ah) none H'))->((∀ b,x=.str b->nmS b=true->(∀ q,q∈P->q.nm≠b)->∀ H',yy H H'->E (.ref a.A7) none H'))->((∀ r,r∈P->x=.str r.nm ->
 ∀ (c' dc' p' cl' ct':Addr) (L2:List (Str × List Int)) (ks':List V) (U':Addr->Prop) (q:Addr) (H1 H':Hp),jf K a H1 st ds ll d c' dc' p' cl' ct' lk tp n kd ps mo w P L2 ks' U'->Go (StO st c cl ct U) H H1 (StO st c' cl' ct' U')->NK H ks ks'->yy H1 H'->H1 q=none->H' q=some (.lst (r.tx.map V.int))->Q (.ref q) H'))->Ć K a vs H Q E
theorem yvd (T:Txt K mg a):wa P w K mg base (CXe P w) 14 a.Mb a.Mc ["self","name"] (Ć K a):=by
 exists T.Hm.F.okE,yse,N;obtain ⟨C,k,M,d,c,dc,p,X,J,Z,R,n,D,G,Y,w,P,L,W,U,x,O,rfl,i,ty,hz,k1,k2,k3⟩:=h;have u:=i.me;refine ⟨_,(yi (yw (vz (pv 0) T.A4 T.Cb.m (yef T) (N.mono (by decide)) T.Cb.B .nil vg (yb (pv 1) ye (ya rfl)))) (yf (yu (ua xc (vz (pv 0) T.A4 T.Hl.m (yv5 T) (N.mono (by decide)) T.Hl.B .nil vg (yb (pv 1) ye (ya rfl))) (yw8 ymg yg) (fun _ _=>rfl))))),?_⟩;exists 2,0;rfl';refine ⟨C,k,d,_,_,_,n,D,G,w,P,x,O,rfl,u,i.pz,ty,hz,k1,k2,fun r b e hb H1 t=>?_⟩;subst e;have f:=i.same t;have S:=f.me;rfl';refine ⟨C,k,M,d,c,dc,p,X,J,Z,R,n,D,G,Y,w,P,L,W,U,some r.nm,r.path++[(r.nm,r.tx)],rfl,f,⟨r,b,rfl,rfl⟩,fun c' o p' z q L2 I U' l cx HB H2 h2 g2 nk SB a1 j g=>?_⟩;rfl';obtain ⟨f1,f2,f3⟩:=g r.path.length (by rw [bC,cy]; omega);refine zw (v:=.ref (cx r.path.length)) (SqL.of j) ?_ ?_
 .rw [bC,cy,z0];exact yji _ _
 .rfl';refine k3 r b rfl c' o p' z q L2 I U' _ HB H2 h2 (g2.ahead t) (NK.refl.trans nk fun _ e=>t.free e) SB f1 ?_;rw [f3];unfold txi;simp
theorem Sto.textof1 {H:Hp} {st:Addr} {C:Cf} {P:List Pd} {X:Sx} {Q:VK} {E:XK} (h:Sto K a H st C P X) {b:Str} (hb:nmS b=true) (k1:(∀ q,q∈P->q.nm≠b)->∀ H',yy H H'->E (.ref a.A7) none H')
  (k2:∀ r,r∈P->r.nm=b->∀ Y q H1 H',Sto K a H1 st C P Y->Gx X H H1 Y->yy H1 H'->H1 q=none->H' q=some (.lst (r.tx.map V.int))->Q (.ref q) H'):Ć K a [.ref st,.str b] H Q E:=by
 obtain ⟨t,v,d,c,dc,p,T,D,B,A,G,L0,O,U,s,rfl,rfl⟩:=h;have F:=č hb;refine ⟨st,t,v,d,c,dc,p,T,D,B,A,C.n,C.kd,C.ps,C.mo,C.w,G,L0,O,U,.str b,"str",rfl,s,.str _,(fun x e=>by cases e; omega),(fun z=>by rw [show nmV (.str b)=nmS b from rfl,hb] at z; cases z),(fun b' e _ j=>?_),fun r N e R i Z l k L2 o L q H1 H' I g J S m f=>?_⟩
 .cases e;refine k1 fun q f=>?_;obtain ⟨u,M,rfl⟩:=bD.mp f;exact j u M
 .cases e;exact k2 r.pd (bD.mpr ⟨r,N,rfl⟩) rfl _ q H1 H' ⟨t,v,d,R,i,Z,l,k,B,A,_,_,o,L,I,rfl,rfl⟩ (Gx.of (g.or (Y:=fun y=>y=d)) J fun q f=>.inl f) S m f
theorem yww:ym ["self","name"] ["self","name"] (yh ypw):=wx (by right)
inductive Æ (K:W.Frag) (a:Ads) (vs:List V) (H:Hp) (Q:VK) (E:XK):Prop
 | mk (st ds d:Addr) (vl vm vc:V) (n:Nat) (kd:Nat->Fin 3) (ps:Nat->List Int) (w:Nat) (P:List Pc) (x:V) (nt:String):(vs=[.ref st,x])->(H st=some (.ins a.A0 ds (w5 vl vm (.ref d) vc)))->(Ł a H d n kd ps w P)->(x4 K H x (.type nt))->((∀ s,x=.str s->s.length <= 100000))->((nmV x=false->∀ H',yy H H'->E (.ref a.Ah) none H'))->((∀ b,x=.str b->nmS b=true->(∀ q,q∈P->q.nm≠b)->∀ H',yy H H'->E (.ref a.A7) none H'))->((∀ r,r∈P->x=.str r.nm->nmS r.nm=true->∀ l H',H l=none->H' l=some (.lst ((r.by n kd ps).map V.int))->yy H H'->Q (.ref l) H'))->Æ K a vs H Q E
theorem yvl (T:Txt K mg a):wa P w K mg base (CXe P w) 4 a.Md a.Me ["self","name"] (Æ K a):=by
 exists T.Hn.F.okE,yww,L;obtain ⟨p,o,d,u,y,k,n,q,v,w,P,x,t,rfl,g,z,J,N,O,R,D⟩:=h;refine ⟨_,(yf (yu (vn v8 rfl T.Ab (by right) (yb (yp (vz (pv 0) T.A4 T.Cb.m (yef T) (L.mono (by decide)) T.Cb.B .nil vg (yb (pv 1) ye (ya rfl))) rfl) ye (ya rfl))))),?_⟩;exists 2,0;rfl';refine ⟨p,o,d,u,y,k,n,q,v,w,P,x,t,rfl,g,z,J,N,O,R,fun r c e I S f=>?_⟩;obtain ⟨M,j⟩:=(z.same f).ob r c;rfl';refine ⟨r.dl,_,rfl,.inl (SqL.of j),fun l b=>?_⟩;exact D r c e I l _ (f.free b) yc (f.trans (vj b))
theorem Sto.bytesof {H:Hp} {st:Addr} {C:Cf} {P:List Pd} {X:Sx} {Q:VK} {E:XK} (h:Sto K a H st C P X) {b:Str} (hb:nmS b=true) (k1:(∀ q,q∈P->q.nm≠b)->∀ H',yy H H'->E (.ref a.A7) none H')
  (k2:∀ r,r∈P->r.nm=b->∀ l H',H l=none->H' l=some (.lst ((r.by C).map V.int))->yy H H'->Q (.ref l) H'):Æ K a [.ref st,.str b] H Q E:=by
 obtain ⟨k,J,d,c,I,p,B,y,D,L,m,F,G,U,s,rfl,rfl⟩:=h;have g:=č hb;refine ⟨st,k,d,_,_,_,C.n,C.kd,C.ps,C.w,m,.str b,"str",rfl,s.me,s.pz,.str _,(fun x e=>by cases e; omega),(fun z=>by rw [show nmV (.str b)=nmS b from rfl,hb] at z; cases z),(fun A e _ f=>?_),fun r o e _ l H' i t S=>?_⟩
 .cases e;refine k1 fun q v=>?_;obtain ⟨u,j,rfl⟩:=bD.mp v;exact f u j
 .cases e;exact k2 r.pd (bD.mpr ⟨r,o,rfl⟩) rfl l H' i t S
theorem ywg:ym ["self","name"] ["self","name"] (yh yry):=wx (by right)
inductive ø (K:W.Frag) (a:Ads) (vs:List V) (H:Hp) (Q:VK) (E:XK):Prop
 | mk (st ds d:Addr) (vl vm vc:V) (n:Nat) (kd:Nat->Fin 3) (ps:Nat->List Int) (w:Nat) (P:List Pc) (x:V) (nt:String):(vs=[.ref st,x])->(H st=some (.ins a.A0 ds (w5 vl vm (.ref d) vc)))->(Ł a H d n kd ps w P)->(x4 K H x (.type nt))->((∀ s,x=.str s->s.length <= 100000))->((nmV x=false->∀ H',yy H H'->E (.ref a.Ah) none H'))->((∀ b,x=.str b->nmS b=true->(∀ q,q∈P->q.nm≠b)->∀ H',yy H H'->E (.ref a.A7) none H'))->((∀ r,r∈P->x=.str r.nm->nmS r.nm=true->∀ H',yy H H'->Q (baV r.bs) H'))->ø K a vs H Q E
theorem ysy (T:Txt K mg a):wa P w K mg base (CXe P w) 4 a.Mf a.Mg ["self","name"] (ø K a):=by
 exists T.Ho.F.okE,ywg,G;obtain ⟨k,i,d,p,t,g,n,l,q,w,P,x,o,rfl,c,u,D,J,L,M,y⟩:=h;refine ⟨_,(yf (yu (yp (vz (pv 0) T.A4 T.Cb.m (yef T) (G.mono (by decide)) T.Cb.B .nil vg (yb (pv 1) ye (ya rfl))) rfl))),?_⟩;exists 2,0;rfl';refine ⟨k,i,d,p,t,g,n,l,q,w,P,x,o,rfl,c,u,D,J,L,M,fun r b e C N j=>?_⟩;have I:=((u.same j).ob r b).1;rfl';exact y r b e C _ j
theorem Sto.baseof {H:Hp} {st:Addr} {C:Cf} {P:List Pd} {X:Sx} {Q:VK} {E:XK} (h:Sto K a H st C P X) {b:Str} (hb:nmS b=true) (k1:(∀ q,q∈P->q.nm≠b)->∀ H',yy H H'->E (.ref a.A7) none H')
  (k2:∀ r,r∈P->r.nm=b->∀ H',yy H H'->Q (baV r.bs) H'):ø K a [.ref st,.str b] H Q E:=by
 obtain ⟨j,F,d,c,D,p,v,o,y,G,k,A,B,U,s,rfl,rfl⟩:=h;have g:=č hb;refine ⟨st,j,d,_,_,_,C.n,C.kd,C.ps,C.w,k,.str b,"str",rfl,s.me,s.pz,.str _,(fun x e=>by cases e; omega),(fun z=>by rw [show nmV (.str b)=nmS b from rfl,hb] at z; cases z),(fun t e _ f=>?_),fun r l e _ H' S=>?_⟩
 .cases e;refine k1 fun q m=>?_;obtain ⟨u,i,rfl⟩:=bD.mp m;exact f u i
 .cases e;exact k2 r.pd (bD.mpr ⟨r,l,rfl⟩) rfl H' S
theorem yip:ym ["_law_script","_law_k","_law_cell"] ["_law_script","_law_k"] (yh yp8):=wx (by right)
inductive ylr (K:W.Frag) (vs:List V) (H:Hp) (Q:VK) (E':XK):Prop
 | mk (l:Addr) (ns:List Int) (j:Nat):(vs=[.ref l,.int j])->(SqL K H l (ns.map V.int))->(j <= 1000)->(∀ n:Int,0 <= n->n < 2147483647->Q (.int n) H)->ylr K vs H Q E'
theorem ya7 (T:Txt K mg a):wa P w K mg base CX0 1 a.Mh a.Mi ["_law_script","_law_k"] (ylr K):=by
 exists T.Aw.F.ok,yip,t;obtain ⟨l,e,j,rfl,f,q,k⟩:=h;refine ⟨_,(yi (yt (i:=2) yip.nd rfl (Or.inl rfl) yg) (yi (ud (wb (yx ybf (pv 1) (yr yz rfl T.Ae (by right) (yb (pv 0) ye (ya rfl))) (y8 _)) (yf (yt (i:=2) yip.nd rfl (Or.inl rfl) (yn vw (ua xc (pv 0) (pv 1) (fun _ _=>rfl)) yg))) y9)) (yf (yu (yn vw (yn wl (yn vv (yn vv (yn vv (yn wl (pv 2) (pv 2)) (yn wl yg (pv 2))) (yn wl (yn wl yg (pv 1)) (pv 1))) yg) yg) yg))))),?_⟩;exists 2,1;rfl';refine yi1 (fun σ' G=>H=G/\∃ c:Int,σ'=[some (.ref l),some (.int j),some (.int c)]/\0 <= c/\c < 2147483629) ?_ ?_
 .rfl';refine zn f ?_;rw [bv];rfl';refine uz (fun n=>?_) (fun n=>?_)
  .have d:j < e.length:=by omega
   rfl';refine zw (v:=V.int e[j]) f (xb (by rw [bB,bx d]; rfl)) ?_;rfl';exact ⟨rfl,_,rfl,cu _ (by decide),cj _ (by decide)⟩
  .rfl';exact ⟨rfl,0,rfl,by decide,by decide⟩
 .rintro σ' G ⟨rfl,c,rfl,r,p⟩;have u:(0:Int) <= (j:Int)/\(j:Int) <= 1000:=by omega
  have o:(0:Int) <= 5 * (j:Int)/\5 * (j:Int) <= 5000:=by omega
  rfl';exact k _ (cu _ (by decide)) (cj _ (by decide))
theorem Ó:ym ["_law_cell","_law_most","_law_many","_law_looks_here","_law_k","_law_marks","_law_places"] ["_law_cell","_law_most"] (yh yqc):=wx (by right)
inductive yc4  (vs:List V) (H:Hp) (Q:VK) (E':XK):Prop
 | mk (c:Int) (m:Nat):(vs=[.int c,.int m])->(0 <= c)->(c < 2147483647)->(1 <= m)->(m <= 6)->(∀ r (n:Nat) (lk:Nat->Addr) (kd:Nat->Fin 3) (tp:Nat->Addr) (ps:Nat->List Int) H',H r=none->H' r=some (.lst (refs lk n))->1 <= n->n <= 6->xu H' n lk kd tp ps->yy H H'->Q (.ref r) H')->yc4 vs H Q E'
theorem yvh (T:Txt K mg a):wa P w K mg base CX0 1 a.Mj a.Ml ["_law_cell","_law_most"] yc4:=by
 exists T.F0.F.ok,Ó,hr;obtain ⟨c,m,rfl,X,Y,m1,m6,k⟩:=h;have mp:(0:Int) < (m:Int):=by omega
 refine ⟨_,(yi (yt (i:=2) Ó.nd rfl (Or.inl rfl) (yn vv yg (yn vw (pv 0) (pv 1)))) (yi (yt (i:=3) Ó.nd rfl (Or.inl rfl) (xi ye)) (yi (uw PassesOwn.never rfl (x8 rfl T.Ap (yb (pv 2) ye (ya rfl))) (wo (i:=4) Ó.nd rfl (Or.inl rfl)) (yi (yt (i:=0) Ó.nd rfl (Or.inl rfl) (yn vw (yn vv (yn vv (yn wl (pv 0) yg) (yn wl yg (pv 4))) yg) yg)) (yi (yt (i:=5) Ó.nd rfl (Or.inr rfl) (yn yh3 (yn vw (yn vd (pv 0) yg) yg) (yn vw (yn vd (pv 0) yg) yg))) (yi (ud (wb (yx x3 (yn vw (yn vd (pv 0) yg) yg) yg (y8 _)) (yf (yt (i:=5) Ó.nd rfl (Or.inr rfl) (yn vw (yn vd (pv 0) yg) yg))) y9)) (yi (yjl (i:=6) (js:=[5]) (ys:=["_law_marks"]) Ó.nd rfl rfl rfl (ygq rfl T.Ap (yb yg (yb yg ye (ya rfl)) (ya rfl))) (fun C s2 H2 fp=>(yx x3 (yn yh3 (yn yik (pv 1) (yn uc (pv 0) yg)) yg) yg (y8 _))) (fun C s2 H2 fp=>(pv 0)) rfl rfl (hyc:=(all_cons rfl y7)) (hrel:=(all_cons rfl y7))) (yf (yw (ψ PySem.F.plainAttrs_list PySem.F.slot_list_append PySem.F.type_list_append wz (pv 3) (yb (yiq (yb (ua xc (xi (yb xm (yb xm (yb xm ye (ya rfl)) (ya rfl)) (ya rfl))) (yn vw (pv 0) yg) (fun _ _=>rfl)) (yb (vn ζ rfl T.Ck (by right) (yb (xx jb (pv 6) uh (uk yg)) ye (ya rfl))) ye (ya rfl)) (ya rfl))) ye (ya rfl)))))))))) (yf (yu (pv 3)))))),?_⟩;exists 2,5;rfl'
 obtain ⟨n,hn,n1,n6⟩:∃ n:Nat,1+c % (m:Int)=(n:Int)/\1 <= n/\n <= 6:=by
  have h0:=cu c (show (m:Int)≠0 by omega);have h1:=cj c mp;exact ⟨(1+c % (m:Int)).toNat,by omega,by omega,by omega⟩
 rw [hn];refine ⟨by walk_at "len",fun L hL0=>?_⟩
 with_reducible first | refine yv hL0 fun H1 S1 hL1=>?_ | refine ve hL0 fun H1 S1 hL1=>?_
 rfl';refine ⟨_,rfl,by omega,by omega,z5 (n:=n) (fun i σ2 G=>∃ (c:Int) (v1 v2 W:Option V) (v:Nat->Addr) (I:Nat->Fin 3) (N:Nat->Addr) (M:Nat->List Int),σ2=[some (.int c),some (.int m),some (.int n),some (.ref L),v1,v2,W]/\0 <= c/\c < 2147483647/\G L=some (.lst (refs v i))/\xu G i v I N M/\yy H G)
  ⟨c,_,_,_,fun _=>0,fun _=>0,fun _=>0,fun _=>[],rfl,X,Y,hL1,fun j l=>absurd l (ci j),S1⟩ ?_ ?_⟩
 .clear hn X Y c;rintro i σ2 G hi ⟨c,v1,v2,W,v,I,N,M,rfl,X,Y,gL,Z,SG⟩;rfl';have d0:0 <= (c * 48271+11 * (0+(i:Int))+7) % 2147483647:=cu _ (by decide);have d1:(c * 48271+11 * (0+(i:Int))+7) % 2147483647 < 2147483647:=cj _ (by decide);generalize (c * 48271+11 * (0+(i:Int))+7) % 2147483647=d at d0 d1 ⊢;refine yi1 (fun σ' r=>G=r/\∃ mk:Int,σ'=[some (.int d),some (.int m),some (.int n),some (.ref L),some (.int (0+(i:Int))),some (.int mk),W]) ?_ ?_
  .rfl';refine uz (fun hb=>?_) (fun hb=>?_)
   .rfl';exact ⟨rfl,_,rfl⟩
   .rfl';exact ⟨rfl,_,rfl⟩
  rintro σ' r ⟨rfl,mk,rfl⟩;rfl';refine ⟨1,9,rfl,⟨by decide,by decide,by decide,by decide⟩,fun D hD=>?_⟩
  refine yb3 (lo:=1) (n:=8) (fun j r=>∃ f:List Int,r D=some (.lst (f.map V.int))/\(∀ p∈f,1 <= p/\p <= (j:Int))/\f.Pairwise (· < ·)/\f.length <= j/\yy G r) ⟨[],yc,fun _ z=>(nomatch z),List.Pairwise.nil,bA _,vj hD⟩ (fun j r l z=>?_) (fun G3 z=>?_)
  .obtain ⟨f,h1,h2,h3,h4,S⟩:=z;rfl';refine i_I (by omega) ?_;rfl';refine uz (fun hb=>?_) (fun hb=>?_)
   .rfl';refine xw (n:=8) h1 (vq (by rw [bv]; omega)) l ?_;refine ⟨f++[1+(j:Int)],by rw [yc,bS]; rfl,fun p U=>?_,?_,by rw [bC]; show _+1 <= _; omega,fun b o e=>yk (yd e hD) (S b o e)⟩
    .rcases bY.mp U with h | h
     .have:=h2 p h;omega
     .rw [bQ.mp h];omega
    .refine List.pairwise_append.mpr ⟨h3,List.pairwise_singleton _ _,fun x hx y hy=>?_⟩;rw [bQ.mp hy];have:=h2 x hx;omega
   .exact ygk (n:=8) l ⟨f,h1,fun p U=>by have:=h2 p U; omega,h3,by omega,S⟩
  obtain ⟨f,a1,U,hw,_,S3⟩:=z;have O:=S3 _ _ gL;rfl';refine za O ?_;rfl';refine ⟨by walk_at "len",fun q2 hq2=>?_⟩
  with_reducible first | refine yv hq2 fun G4 T4 hq4=>?_ | refine ve hq2 fun G4 T4 hq4=>?_
  rfl';obtain ⟨kk,hk⟩:=ynx d;refine zw (SqL.of hq4) hk ?_;rfl';refine ybe (SqL.of (T4 _ _ a1)) fun u hu=>?_;have ec:ybl (f.map V.int) none (some 4)=(f.take 4).map V.int:=by rw [List.map_take]; exact zh 4
  rw [ec]
  with_reducible first | refine yv hu fun G5 T5 hu5=>?_ | refine ve hu fun G5 T5 hu5=>?_
  refine ⟨u,_,rfl,.inl ⟨SqL.of hu5,fun J htp=>?_⟩⟩
  with_reducible first | refine yv htp fun G6 T6 htp6=>?_ | refine ve htp fun G6 T6 htp6=>?_
  rfl';refine ⟨by walk_at "len",fun t ht=>?_⟩
  with_reducible first | refine yv ht fun G7 T7 ht7=>?_ | refine ve ht fun G7 T7 ht7=>?_
  have B:=T4.trans (T5.trans (T6.trans T7));have q:=B _ _ O;have R:=S3.trans B;rfl';refine xt q (vq (by rw [wq]; omega)) ?_;have g7:LkG G7 (.ref t) kk J (f.take 4):=⟨t,rfl,ht7,T7 _ _ htp6,yfq (by rw [bT]; omega) (fun p h=>U p (cH h)) hw.take⟩;rfl';refine ⟨d,_,_,_,upN v i t,upN I i kk,upN N i J,upN M i (f.take 4),rfl,d0,d1,?_,fun j l=>?_,fun b o e=>yk (yd e hL0) (R _ _ (SG b o e))⟩
  .rw [yc,z0,xq]
   congr 3
   exact jj fun j l=>(xl l).symm
  .by_cases z:j=i
   .subst z;rw [xq,xq,xq,xq];exact g7.upd q
   .have g:j < i:=by omega
    rw [xl g,xl g,xl g,xl g];exact ((Z j g).same R).upd q
 .rintro σ2 G ⟨c,v1,v2,W,v,I,N,M,rfl,X,Y,gL,Z,SG⟩;rfl';exact k L n v I N M G hL0 gL n1 n6 Z SG
theorem yir:ym ["_law_cells","_law_size","_law_way","_law_signs","_law_k"] ["_law_cells","_law_size","_law_way"] (yh yrj):=wx (by right)
inductive yc8 (K:W.Frag) (vs:List V) (H:Hp) (Q:VK) (E':XK):Prop
 | mk (l:Addr) (ns:List Int) (z:Nat) (w:Int):(vs=[.ref l,.int z,.int w])->(H l=some (.lst (ns.map V.int)))->(ns.length <= 63)->(z <= 50)->(∀ r (ts:List Int) H',H r=none->H' r=some (.lst (ts.map V.int))->Sgs ts->ts.length=z->yy H H'->Q (.ref r) H')->yc8 K vs H Q E'
theorem yuu (T:Txt K mg a):wa P w K mg base CX0 1 a.Mm a.Mn ["_law_cells","_law_size","_law_way"] (yc8 K):=by
 exists T.F7.F.ok,yir,hr;obtain ⟨l,ns,z,w,rfl,hl,a9,hz,k⟩:=h;refine ⟨_,(yi (yt (i:=3) yir.nd rfl (Or.inr rfl) (yn yiw (xi (yb yg ye (ya rfl))) (pv 1))) (yi (wb (yx x3 (pv 1) yg (y8 _)) (yf (yu (pv 3))) y9) (yi (uw PassesOwn.never rfl (x8 rfl T.Ap (yb (yr yz rfl T.Ae (by right) (yb (pv 0) ye (ya rfl))) ye (ya rfl))) (wo (i:=4) yir.nd rfl (Or.inl rfl)) (yf (yln (yn vw (yn vv (yn vv (yn wl (ua xc (pv 3) (yn vw (pv 4) (pv 1)) (fun _ _=>rfl)) yg) (yn vw (ua xc (pv 0) (pv 4) (fun _ _=>rfl)) yg)) (pv 4)) yg) (yvw (pv 3) (yn vw (pv 4) (pv 1)) ykj)))) (yi (wb (yx x3 (yn vw (pv 2) yg) yg (y8 _)) (yf (yu (yn yiw (xi (yb (ua xc (pv 3) yg (fun _ _=>rfl)) ye (ya rfl))) (pv 1)))) y9) (yi (wb (yx x3 (yn vw (pv 2) yg) yg (y8 _)) (yf (yu (wj (js:=[2,3]) (ys:=["_law_way","_law_signs"]) rfl (wu (pv 3)) (fun C s2 H2 fp=>(ua (r:=yx5 K) xc (xi (yb (ua (r:=yx5 K) xc (pv 2) yg (fun _ _=>rfl)) (yb (yn vw (yn vd (pv 1) yg) yg) ye (ya rfl)) (ya rfl))) (yn vw (pv 0) yg) (fun _ _=>rfl))) rfl rfl (hyc:=(all_cons rfl (all_cons rfl y7))) (hrel:=(all_cons rfl (all_cons rfl y7)))))) y9) (yi (wb (yx x3 (yn vw (pv 2) yg) yg (y8 _)) (yf (yu (wj (js:=[]) (ys:=[]) rfl (wu (pv 3)) (fun C s2 H2 fp=>(ua (r:=yx5 K) xc (xi (yb yg (yb yg (yb yg (yb yg ye (ya rfl)) (ya rfl)) (ya rfl)) (ya rfl))) (yn vw (pv 0) yg) (fun _ _=>rfl))) rfl rfl (hyc:=y7) (hrel:=y7)))) y9) (yf (yu (pv 3))))))))),?_⟩;exists 3,2;rfl';refine ⟨by walk_at "len",fun u hu=>?_⟩
 with_reducible first | refine yv hu fun H1 S1 hu1=>?_ | refine ve hu fun H1 S1 hu1=>?_
 rfl';refine ⟨u,z,_,rfl,rfl,hu1,by omega,by omega,z8 (by show 1 * (z:Int).toNat <= 16000000; omega),fun g hg0=>?_⟩;rw [ú]
 with_reducible first | refine yv hg0 fun H2 S2 hg2=>?_ | refine ve hg0 fun H2 S2 hg2=>?_
 have ez:((z:Nat):Int).toNat=z:=by omega
 rw [ez] at hg2;have O:=S1.trans S2;have B:H g=none:=S1.free hg0;rfl';refine uz (fun hb=>?_) (fun hb=>?_)
 .rfl';refine k g _ _ B hg2 (fun x R=>?_) cT O;rw [cG R];exact ⟨by decide,by decide⟩
 .have zp:(0:Int) < (z:Int):=by omega
  rfl';refine zn (SqL.of (O _ _ hl)) ?_;rw [bv];rfl';refine ⟨_,rfl,by omega,by omega,z5 (n:=ns.length) (fun i σ2 G=>∃ (v:Option V) (c:List Int),σ2=[some (.ref l),some (.int z),some (.int w),some (.ref g),v]/\G g=some (.lst (c.map V.int))/\Sgs c/\c.length=z/\yy H G) ⟨_,_,rfl,hg2,fun x R=>by rw [cG R]; exact ⟨by decide,by decide⟩,cT,O⟩ ?_ ?_⟩
  .rintro i σ2 G hi ⟨v,c,rfl,d,I,N,J⟩;have e0:(0:Int)+(i:Int)=(i:Int):=Int.zero_add _;rw [e0]
   obtain ⟨j,hj,ab⟩:∃ j:Nat,(i:Int) % (z:Int)=(j:Int)/\j < z:=by
    have h0:=cu (i:Int) (show (z:Int)≠0 by omega);have M:=cj (i:Int) zp;exact ⟨((i:Int) % (z:Int)).toNat,by omega,by omega⟩
   have a7:j < c.length:=by omega
   have f:atI (c.map V.int) (j:Int)=some (V.int c[j]):=xb (by rw [bB,bx a7]; rfl);have a0:atI (ns.map V.int) (i:Int)=some (V.int ns[i]):=xb (by rw [bB,bx hi]; rfl);generalize c[j]=X at f;generalize ns[i]=Z at a0;rfl';rw [hj];refine zw (SqL.of d) f ?_;rfl';refine zw (SqL.of (J _ _ hl)) a0 ?_;rfl';rw [hj];have y0:0 <= (X * 31+Z % 256+(i:Int)) % 256:=cu _ (by decide);have y1:(X * 31+Z % 256+(i:Int)) % 256 < 256:=cj _ (by decide);generalize (X * 31+Z % 256+(i:Int)) % 256=y at y0 y1 ⊢;refine ⟨g,_,_,j,rfl,rfl,d,?_,?_⟩
   .unfold ixN;rw [if_pos (by omega),if_pos (by rw [bv]; omega)];rfl
   .refine ⟨_,c.set j y,rfl,by rw [yc,List.map_set],fun x R=>?_,by rw [List.length_set]; exact N,fun b o e=>yk (yd e B) (J b o e)⟩;rcases List.mem_or_eq_of_mem_set R with h | h
    .exact I x h
    .rw [h];omega
  .rintro σ2 G ⟨v,c,rfl,d,I,N,J⟩;rfl';refine uz (fun a8=>?_) (fun a8=>?_)
   .have h0:0 < c.length:=by omega
    have f:atI (c.map V.int) 0=some (V.int c[0]):=xb (j:=0) (by rw [bB,bx h0]; rfl);have q:=I c[0] (bZ h0);generalize c[0]=a1 at f q;rfl';refine zw (SqL.of d) f ?_;rfl';refine ⟨by walk_at "len",fun u2 hu2=>?_⟩
    with_reducible first | refine yv hu2 fun G1 T1 hu21=>?_ | refine ve hu2 fun G1 T1 hu21=>?_
    rfl';refine ⟨u2,z,_,rfl,rfl,hu21,by omega,by omega,z8 (by show 1 * (z:Int).toNat <= 16000000; omega),fun r a2=>?_⟩;rw [ú,ez];exact k r _ _ ((J.trans T1).free a2) yc (fun x R=>by rw [cG R]; exact q) cT (J.trans (T1.trans (vj a2)))
   .rfl';refine uz (fun a4=>?_) (fun a4=>?_)
    .rfl';refine ⟨g,rfl,⟨_,SqL.of d⟩,fun D Y=>?_⟩
     refine Ç (K:=K) (xs:=c.map V.int) (fun i p=>∃ m:List Int,p D=some (.lst (m.map V.int))/\Sgs m/\m.length=i/\yy G p) ⟨[],yc,fun _ z=>(nomatch z),rfl,vj Y⟩ (by rintro i p _ ⟨_,_,_,_,S⟩; exact SqL.of (S _ _ d)) (fun i y p U hi W=>?_) (fun p W=>?_)
     .obtain ⟨m,M,h2,L,S⟩:=W;obtain ⟨x,rfl,_,_,a3⟩:=ur U;have h0:0 < c.length:=by omega
      have f:atI (c.map V.int) 0=some (V.int c[0]):=xb (j:=0) (by rw [bB,bx h0]; rfl);have q:=I c[0] (bZ h0);generalize c[0]=a1 at f q;rfl';refine zw (SqL.of (S _ _ d)) f ?_;rfl';refine ⟨by walk_at "len",fun u2 hu2=>?_⟩;have w0:0 <= w / 4 % 256/\w / 4 % 256 <= 255:=by omega
      generalize w / 4 % 256=ww at w0
      with_reducible first | refine yv hu2 fun G1 T1 hu21=>?_ | refine ve hu2 fun G1 T1 hu21=>?_
      rfl';obtain ⟨v,hv,ha⟩:=yhb (xs:=[V.int a1,V.int ww]) (i:=x % 2) (cu _ (by decide)) (by show _ < (2:Int); exact cj _ (by decide));refine zw (SqL.of hu21) ha ?_
      obtain ⟨t,rfl,t0⟩:∃ t,v=V.int t/\0 <= t/\t <= 255:=by
       simp only [bI,List.not_mem_nil,or_false] at hv;rcases hv with rfl | rfl
       .exact ⟨_,rfl,q⟩
       .exact ⟨_,rfl,w0⟩
      refine xw (n:=(c.map V.int).length) (T1 _ _ M) (vq (by rw [bv,L]; omega)) hi ?_;refine ⟨m++[t],by rw [yc,bS]; rfl,fun y U=>?_,by rw [bC,L]; rfl,fun b o e=>yk (yd e Y) (T1 _ _ (S b o e))⟩;rcases bY.mp U with h | h
      .exact h2 y h
      .rw [bQ.mp h];exact t0
     .obtain ⟨m,M,h2,L,S⟩:=W;rw [bv] at L;exact k D m p (J.free Y) M h2 (by omega) (J.trans S)
    .rfl';refine uz (fun a5=>?_) (fun a5=>?_)
     .rfl';refine ⟨g,rfl,⟨_,SqL.of d⟩,fun D Y=>?_⟩
      refine u8 (K:=K) (xs:=c.map V.int) (fun i p=>∃ m:List Int,p D=some (.lst (m.map V.int))/\Sgs m/\m.length=i/\yy G p) ⟨[],yc,fun _ z=>(nomatch z),rfl,vj Y⟩ (by rintro i p _ ⟨_,_,_,_,S⟩; exact SqL.of (S _ _ d)) (fun i y p U hi W=>?_) (fun p W=>?_)
      .obtain ⟨m,M,h2,L,S⟩:=W;obtain ⟨x,rfl,_,_,a3⟩:=ur U;rfl';refine ⟨by walk_at "len",fun u2 hu2=>?_⟩
       with_reducible first | refine yv hu2 fun G1 T1 hu21=>?_ | refine ve hu2 fun G1 T1 hu21=>?_
       rfl';obtain ⟨v,hv,ha⟩:=yhb (xs:=[V.int 0,V.int 255,V.int 1,V.int 128]) (i:=x % 4) (cu _ (by decide)) (by show _ < (4:Int); exact cj _ (by decide));refine zw (SqL.of hu21) ha ?_
       obtain ⟨t,rfl,t0,t1⟩:∃ t,v=V.int t/\0 <= t/\t <= 255:=by
        simp only [bI,List.not_mem_nil,or_false] at hv;rcases hv with rfl | rfl | rfl | rfl <;> exact ⟨_,rfl,by decide,by decide⟩
       refine xw (n:=(c.map V.int).length) (T1 _ _ M) (vq (by rw [bv,L]; omega)) hi ?_;refine ⟨m++[t],by rw [yc,bS]; rfl,fun y U=>?_,by rw [bC,L]; rfl,fun b o e=>yk (yd e Y) (T1 _ _ (S b o e))⟩;rcases bY.mp U with h | h
       .exact h2 y h
       .rw [bQ.mp h];exact ⟨t0,t1⟩
      .obtain ⟨m,M,h2,L,S⟩:=W;rw [bv] at L;exact k D m p (J.free Y) M h2 (by omega) (J.trans S)
     .rfl';exact k g c G B d I N J
def yrc (ts:List Int):Prop:=ts.length=5/\ts.Nodup/\∀ t,t∈ts->0 <= t/\t < 5
theorem yni {mu e:Int} (h1:1 <= mu) (h3:mu <= 3):yrc ((List.range 5).map fun i:Nat=>((0+(i:Int)) * mu+e) % 5):=by
 refine ⟨rfl,?_,fun t c=>?_⟩
 .refine List.pairwise_map.mpr (List.nodup_range.imp_of_mem fun {a b} f h j=>?_);have d:=cD.mp f;have g:=cD.mp h;obtain rfl | rfl | rfl:mu=1\/mu=2\/mu=3:=by omega
  .omega
  .omega
  .omega
 .obtain ⟨i,_,rfl⟩:=bD.mp c;omega
theorem yf1:yrc ((List.range 5).map fun i=>((i:Nat):Int)):=by
 refine ⟨rfl,?_,fun t c=>?_⟩
 .exact List.pairwise_map.mpr (List.nodup_range.imp fun {a b} e=>by omega)
 .obtain ⟨i,d,rfl⟩:=bD.mp c;have:=cD.mp d;omega
def gI (f:Int->Str):V->V
 | .int t=>.str (f t)
 | v=>v
theorem ym9 (f:Int->Str) (ts:List Int):(ts.map V.int).map (gI f)=(ts.map f).map V.str:=by
 rw [cg,cg];rfl
def nmR (c k:Nat):Str:=⟨(List.replicate k c).toArray⟩
theorem yv0 {z:Str} {c k:Nat} (h:z.cps.toList=(List.replicate k [c]).flatten):z=nmR c k:=by
 have e:(List.replicate k [c]).flatten=List.replicate k c:=by
  clear h
  induction k with
  | zero=>rfl
  | succ k ih=>rw [cw,List.flatten_cons,cw,List.singleton_append,ih]
 rw [e] at h
 cases z with | mk cps =>
 unfold nmR
 congr 1
 exact Array.toList_inj.mp (by simpa using h)
theorem ifS {tc:TT} {ts te:TS} {D:ŵ} {σ:St} {H:Hp} (h:∀ Qb:Bool->Hp->Prop,(∀ H',yy H H'->Qb true H')->(∀ H',yy H H'->Qb false H')->tc σ H Qb) (hT:∀ H',yy H H'->ts D σ H') (hF:∀ H',yy H H'->te D σ H'):yx4 tc ts te D σ H :=
 h _ (fun H' S=>by show (if true=true then _ else _); rw [if_pos rfl]; exact hT H' S) (fun H' S=>by show (if false=true then _ else _); rw [if_neg (by decide)]; exact hF H' S)
theorem jv:ym ["_law_cell","_law_small","_law_odd","_law_turn","_law_base","_law_k","_law_at"] ["_law_cell"] (yh yqe):=wx (by right)
inductive yaz (K:W.Frag) (vs:List V) (H:Hp) (Q:VK) (E':XK):Prop
 | mk (c:Int):(vs=[.int c])->(0 <= c)->(c < 2147483647)->(∀ (r:Addr) (ns:List Str) (H':Hp),H r=none->H' r=some (.lst (ns.map V.str))->yy H H'->ns.length=5->ns.Nodup->(∀ x,x∈ns->nmS x=true/\PyData.strOk x=true)->Q (.ref r) H')->yaz K vs H Q E'
theorem ysx (T:Txt K mg a):wa P w K mg base CX0 1 a.Mo a.Mq ["_law_cell"] (yaz K):=by
 exists T.F8.F.ok,jv,hr;obtain ⟨c,rfl,c0,c1,k⟩:=h;refine yj (yt (i:=1) jv.nd rfl (Or.inr rfl) xm) ?_;refine yj (yt (i:=2) jv.nd rfl (Or.inr rfl) (yn vw (pv 0) yg)) ?_;refine yj (yt (i:=0) jv.nd rfl (Or.inr rfl) (yn vd (pv 0) yg)) ?_;refine yj (ydg (i:=3) (js:=[0]) (ys:=["_law_cell"]) jv.nd rfl rfl rfl (x8 rfl T.Ap (yb yg ye (ya rfl))) (fun C s2 H2 fp=>(yn vw (yn vv (yn wl (pv 0) (yn vv yg (yn vw (yn vd (pv 1) yg) yg))) (yn vd (pv 1) yg)) yg)) rfl rfl (hyc:=(all_cons rfl y7)) (hrel:=(all_cons rfl y7))) ?_;refine yj (ud (wb (PW.pt (À (yx ybf (yr ybo rfl T.Ae (by right) (yb (vn (yf0 rfl) rfl T.Nq (by right) (yb (pv 3) ye (ya rfl))) ye (ya rfl))) yg (y8 _)) (χ (yx x3 (yn vw (yn vd (pv 0) yg) yg) yg (y8 _))))) (yf (yt (i:=3) jv.nd rfl (Or.inl rfl) (vn (yes rfl) rfl T.Ab (by right) (yb (vn yjx rfl T.Ap (by right) (yb yg ye (ya rfl))) ye (ya rfl))))) y9)) ?_;refine yj (wb (yx x3 (yn vw (pv 0) yg) yg (y8 _)) (yf (yu (wj (js:=[1,2,0]) (ys:=["_law_small","_law_odd","_law_cell"]) rfl (wu (pv 3)) (fun C s2 H2 fp=>(yn ye8 (j3 (pv 1) (pv 2) (fun _ _=>rfl)) (yn vv (yn vv (pv 0) yg) (yn vw (yn vd (pv 3) yg) yg)))) rfl rfl (hyc:=(all_cons rfl (all_cons rfl (all_cons rfl y7)))) (hrel:=(all_cons rfl (all_cons rfl (all_cons rfl y7))))))) y9) ?_;refine yj (yt (i:=4) jv.nd rfl (Or.inr rfl) xm) ?_;refine yj (uw PassesOwn.never rfl (x8 rfl T.Ap (yb (yn vw (yn vd (pv 0) yg) yg) ye (ya rfl))) (wo (i:=5) jv.nd rfl (Or.inl rfl)) (yf (yt (i:=4) jv.nd rfl (Or.inr rfl) (yn Ä (pv 4) (j3 (pv 1) (yn vw (yn vd (yn wl (pv 0) (yn vv (pv 5) yg)) yg) yg) (fun _ _=>rfl)))))) ?_;refine yj (yt (i:=6) jv.nd rfl (Or.inr rfl) (yn vw (yn vd (pv 0) yg) (yn vv (yr Ñ rfl T.Ae (by right) (yb (pv 4) ye (ya rfl))) yg))) ?_;refine ⟨_,(yf (yu (wj (js:=[1,2,4,6]) (ys:=["_law_small","_law_odd","_law_base","_law_at"]) rfl (wu (pv 3)) (fun C s2 H2 fp=>(yn Ä (yn Ä (xx (r:=vae) ymu (pv 3) uh (uk (pv 4))) (j3 (pv 1) (yn vv (pv 2) (pv 0)) (fun _ _=>rfl))) (xx (r:=vae) ymu (pv 3) (uk (pv 4)) uh))) rfl rfl (hyc:=(all_cons rfl (all_cons rfl (all_cons rfl (all_cons rfl y7))))) (hrel:=(all_cons rfl (all_cons rfl (all_cons rfl (all_cons rfl y7)))))))),?_⟩;exists 1,6;rfl';obtain ⟨o,ho,a3⟩:∃ o:Nat,c % 22=(o:Int)/\o <= 21:=⟨(c % 22).toNat,by omega,by omega⟩;obtain ⟨d,U,a8,a6⟩:∃ d:Int,c / 22=d/\0 <= d/\d < 2147483647:=⟨c / 22,rfl,by omega,by omega⟩;rw [ho,U];clear c0 c1 ho U c;refine ⟨_,rfl,by decide,by decide,fun D f=>?_⟩;refine Ð (n:=5) (fun i=>V.int (((0+(i:Int)) * (1+d / 3 % 3)+d / 9) % 5)) f (fun i G hi S Y=>?_) (fun G S Y=>?_)
 .rfl';exact Mp.doneR f (vq (by decide)) hi S Y rfl
 have g:G D=some (.lst (((List.range 5).map fun i:Nat=>((0+(i:Int)) * (1+d / 3 % 3)+d / 9) % 5).map V.int)):=by rw [Y,cg]; rfl
 have I:=yni (mu:=1+d / 3 % 3) (e:=d / 9) (by omega) (by omega);generalize ((List.range 5).map fun i:Nat=>((0+(i:Int)) * (1+d / 3 % 3)+d / 9) % 5)=M at g I;rfl';refine ⟨fun σ2 F=>∃ (O:Addr) (M:List Int),σ2=[some (.int d),some (.str smS),some (.int o),some (.ref O),none,none,none]/\F O=some (.lst (M.map V.int))/\yrc M/\yy H F,?_,?_⟩
 .refine ifS (fun Qb qT qF=>?_) (fun H1 S1=>?_) (fun H1 S1=>?_)
  .rfl';refine ⟨D,M,rfl,SqL.of g,by rw [I.1]; decide,fun q hq=>?_⟩
   with_reducible first | refine yv hq fun G1 S1 e1=>?_ | refine ve hq fun G1 S1 e1=>?_
   rfl';refine ⟨q,_,rfl,e1,?_⟩;rfl';refine uz (fun L=>qT _ S1) (fun L=>?_);rfl';by_cases Z:d / 16 % 5=0
   .rw [bJ Z];exact qT _ S1
   .rw [bO Z];exact qF _ S1
  .rfl';refine ⟨5,rfl,by decide,fun q hq=>?_⟩
   with_reducible first | refine yv hq fun G1 S2 e1=>?_ | refine ve hq fun G1 S2 e1=>?_
   rfl';refine ⟨q,5,rfl,e1,by decide,fun l hl=>?_⟩
   with_reducible first | refine yv hl fun G2 S3 e2=>?_ | refine ve hl fun G2 S3 e2=>?_
   rfl';exact ⟨l,(List.range 5).map fun i=>((i:Nat):Int),rfl,by rw [e2,cg]; rfl,yf1,S.trans (S1.trans (S2.trans S3))⟩
  .exact ⟨D,M,rfl,S1 _ _ g,I,S.trans S1⟩
 clear Y g I f S G M D;rintro σ2 G ⟨O,M,rfl,p,⟨t5,tn,J⟩,S⟩;rfl';refine uz (fun L=>?_) (fun L=>?_)
 .rfl';refine ⟨O,rfl,⟨_,SqL.of p⟩,fun D f=>?_⟩;refine zf (gI fun t=>nmR (97+o) (t+1+d / 4 % 3).toNat) (SqL.of p) f (fun i y F W N B=>?_) (fun F N B=>?_)
  .rw [bB] at W;obtain ⟨t,m,rfl⟩:=Option.map_eq_some_iff.mp W;have a1:=J t (bM m);rfl';refine ⟨smS,_,_,rfl,rfl,by omega,by omega,by rw [yhx]; omega,yqo (by omega) (by omega),?_⟩;rw [show ((o:Int)).toNat=o from rfl];rfl';refine ⟨_,_,rfl,rfl,by omega,by omega,by show 1 <= _; decide,fun z X=>?_⟩;obtain rfl:=yv0 X;exact Mp.done f (vq (by rw [bv]; omega)) (by rw [bB,m]; rfl) N B rfl
  .rw [ym9] at B;refine k D _ F (S.free f) B (S.trans N) (by rw [bv,t5]) ?_ fun x hx=>?_
   .refine List.pairwise_map.mpr (tn.imp_of_mem fun {a b} ha hb ne e=>ne ?_);have h2:=J a ha;have Z:=J b hb;have e2:=congrArg (fun x:Str=>x.cps.toList.length) e;simp [nmR] at e2;omega
   .obtain ⟨t,m,rfl⟩:=bD.mp hx;have h2:=J t m;refine yxm (fun c hc=>?_) ?_ ?_
    .have e:c∈List.replicate (t+1+d / 4 % 3).toNat (97+o):=hc;have:=cG e;omega
    .simp [nmR]; omega
    .simp [nmR]; omega
 .obtain ⟨l7,a2,hl⟩:∃ l:Nat,d / 4 % 8=(l:Int)/\l <= 7:=⟨(d / 4 % 8).toNat,by omega,by omega⟩;rfl';rw [a2];refine ⟨_,rfl,by omega,by omega,z5 (n:=l7) (fun i σ2 F=>∃ (z:Str) (v:Option V),σ2=[some (.int d),some (.str smS),some (.int o),some (.ref O),some (.str z),v,none]/\yco z.cps.toList/\z.length=i/\G=F)
   ⟨_,_,rfl,(fun c hc=>by cases (show c∈[] from hc)),rfl,rfl⟩ ?_ ?_⟩
  .rintro i σ2 F hi ⟨z,v,rfl,X,u,rfl⟩;rfl';have h0:=cu (d * (0+(i:Int)+3) / 7) (show (26:Int)≠0 by decide);have L:=cj (d * (0+(i:Int)+3) / 7) (show (0:Int) < 26 by decide);generalize d * (0+(i:Int)+3) / 7 % 26=q at h0 L ⊢;refine ⟨smS,q,97+q.toNat,rfl,rfl,h0,by omega,by rw [yhx]; exact L,yqo h0 L,?_⟩;refine ⟨z,_,rfl,rfl,?_,?_⟩
   .rw [u,sizeLine_eq];show i+1 <= _;omega
   .rfl';refine ⟨_,_,rfl,?_,?_,rfl⟩
    .rw [ĉ];exact X.app (.one (by omega))
    .rw [ċ,ĉ,bC,<- ċ,u];rfl
  .rintro σ2 F ⟨z,v,rfl,X,u,rfl⟩;rfl';refine ⟨z,rfl,by rw [u,sizeLine_eq]; omega,?_⟩;rfl'
   obtain ⟨j,hj,R⟩:∃ j:Nat,d / 32 % ((z.length:Int)+1)=(j:Int)/\j <= z.length:=by
    have h0:=cu (d / 32) (show ((z.length:Int)+1)≠0 by omega);have L:=cj (d / 32) (show 0 < ((z.length:Int)+1) by omega);exact ⟨(d / 32 % ((z.length:Int)+1)).toNat,by omega,by omega⟩
   rw [hj];refine ⟨O,rfl,⟨_,SqL.of p⟩,fun D f=>?_⟩;refine zf (gI fun t=>yr5 z j (97+(o+t.toNat))) (SqL.of p) f (fun i y F W N B=>?_) (fun F N B=>?_)
   .rw [bB] at W;obtain ⟨t,m,rfl⟩:=Option.map_eq_some_iff.mp W;have a1:=J t (bM m);rfl';have a7:=Txt.slice_le z none (some (j:Int));have a4:=Txt.slice_le z (some (j:Int)) none;refine ⟨z,rfl,by rw [sizeLine_eq]; omega,?_⟩;rfl';have ei:((o:Int)+t).toNat=o+t.toNat:=by omega
    refine ⟨smS,_,_,rfl,rfl,by omega,by omega,by rw [yhx]; omega,yqo (by omega) (by omega),?_⟩;rw [ei];refine ⟨_,_,rfl,rfl,by rw [sizeLine_eq]; show _+1 <= _; omega,?_⟩;rfl';refine ⟨z,rfl,by rw [sizeLine_eq]; omega,?_⟩;refine ⟨_,_,rfl,rfl,?_,?_⟩
    .rw [sizeLine_eq,ċ,ĉ,bC,<- ċ];show _+1+_ <= _;omega
    .exact Mp.done f (vq (by rw [bv]; omega)) (by rw [bB,m]; rfl) N B rfl
   .rw [ym9] at B;refine k D _ F (S.free f) B (S.trans N) (by rw [bv,t5]) ?_ fun x hx=>?_
    .refine List.pairwise_map.mpr (tn.imp_of_mem fun {a b} ha hb ne e=>ne ?_);have h2:=J a ha;have Z:=J b hb;have:=ykk R e;omega
    .obtain ⟨t,m,rfl⟩:=bD.mp hx;have h2:=J t m;exact ynt R X (by omega) (by omega)
theorem yhw:ym ["_law_model","_law_base","_law_learned"] ["_law_model","_law_base"] (yh yrh):=wx (by right)
inductive yal  (vs:List V) (H:Hp) (Q:VK) (E':XK):Prop
 | mk (md:Addr) (P:List Pd) (X:Sx) (tu tx:Str->Addr) (x:Option Str) (L:List (Str × List Int)):(vs=[.ref md,baV x])->(Mdl H X md P tu tx)->(PdW P)->(P.length <= 1000)->(ToD P x L)->(∀ l H',H l=none->H' l=some (.lst (lnV tx L))->yy H H'->Q (.ref l) H')->yal vs H Q E'
theorem ywz (T:Txt K mg a):wa P w K mg base CX0 1 a.Mr a.Ms ["_law_model","_law_base"] yal:=by
 exists T.F9.F.ok,yhw,W;obtain ⟨C,P,X,tu,c,x,L,rfl,O,M,Y,U,k⟩:=h;refine ⟨_,(yi (yt (i:=2) yhw.nd rfl (Or.inl rfl) (xi ye)) (yi (zk PassesOwn.never (yx Ŭ (pv 1) jd (y8 _)) (yi (yw (ψ PySem.F.plainAttrs_list PySem.F.slot_list_insert PySem.F.type_list_insert ygg (pv 2) (yb yg (yb (ua Ô (j5 (Ì W) (pv 0) (pv 1) (fun _ _=>rfl)) yg (fun _ _=>rfl)) ye (ya rfl)) (ya rfl)))) (yf (yt (i:=1) yhw.nd rfl (Or.inl rfl) (ua Ô (j5 (Ì W) (pv 0) (pv 1) (fun _ _=>rfl)) yg (fun _ _=>rfl)))))) (yf (yu (pv 2))))),?_⟩;exists 2,1;rfl';refine ⟨by walk_at "len",fun l p=>?_⟩;rfl'
 refine ⟨fun m σ' G=>∃ (y:Option Str) (R S:List (Str × List Int)),σ'=[some (.ref C),some (baV y),some (.ref l)]/\ToD P y R/\R++S=L/\G l=some (.lst (lnV c S))/\yy H G/\m=R.length,
  ⟨_,x,L,[],rfl,U,cY L,yc,vj p,rfl⟩,?_⟩
 rintro m σ2 G ⟨y,R,S,rfl,N,f,g,J,rfl⟩;have u:=O.same J;have I:=U.len M;have a1:S.length <= 1000:=by rw [<- f,bC] at I; omega
 rfl'
 cases y with
 | none =>
  refine yk0 (fun _=>?_) (fun z=>absurd rfl z);have e:S=L:=by rw [show R=[] from N] at f; exact f
  rfl';rw [e] at g;exact k l _ p g J
 | some b =>
  refine yk0 (fun z=>nomatch z) (fun _=>?_)
  obtain ⟨r,d,rfl,B⟩:=N;refine ⟨_,fun σ' H' z=>z,?_⟩;rfl';refine za g ?_;rfl';refine ⟨C,_,rfl,u.get d,?_⟩;rfl';refine yff (SqT.of (u.t r d).1) (xb (j:=0) rfl) ?_;rfl';refine ⟨l,_,_,0,rfl,rfl,g,bR _,by unfold lnV; rw [bv]; omega,?_⟩;have q:yy H (upd G l (.lst ((lnV c S).take 0++V.ref (c r.nm) :: (lnV c S).drop 0))):=fun b o e=>yk (yd e p) (J _ _ e);have v:upd G l (.lst ((lnV c S).take 0++V.ref (c r.nm) :: (lnV c S).drop 0)) l=some (.lst (lnV c ((r.nm,r.tx) :: S))):=yc;generalize upd G l (.lst ((lnV c S).take 0++V.ref (c r.nm) :: (lnV c S).drop 0))=G' at q v ⊢;have n:=O.same q;rfl';refine ⟨C,_,rfl,n.get d,?_⟩;rfl';refine yff (SqT.of (n.t r d).1) (xb (j:=1) rfl) ?_;rfl';refine ⟨r.path.length,?_,r.bs,r.path,(r.nm,r.tx) :: S,rfl,M.wf r d,?_,v,q,rfl⟩
  .rw [B,bC,cy];omega
  .rw [<- f,B,cz];rfl
theorem yj7:∀ n:Fin 256,Builtin.bitAnd ((n.val:Nat):Int) 1=((n.val:Nat):Int) % 2:=by right
theorem vbt {x:Int} (h0:0 <= x) (h1:x < 256):Builtin.bitAnd x 1=x % 2:=by
 obtain ⟨n,rfl⟩:∃ n:Nat,x=(n:Int):=⟨x.toNat,by omega⟩;exact yj7 ⟨n,by omega⟩
theorem ygn (s:Int):(List.range 8).map (fun i=>V.int (s / 2 ^ (7 - i) % 2))=(b8 s).map V.int:=rfl
theorem yeo:ym ["_law_text_here","_law_bits_here","_law_sign"] ["_law_text_here"] (yh yqj):=wx (by right)
inductive ygt (K:W.Frag) (vs:List V) (H:Hp) (Q:VK) (E':XK):Prop
 | mk (t:Addr) (ts:List Int):(vs=[.ref t])->(H t=some (.lst (ts.map V.int)))->(Sgs ts)->(ts.length <= 1000)->(∀ r H',H r=none->H' r=some (.lst ((dec ts).map V.int))->yy H H'->Q (.ref r) H')->ygt K vs H Q E'
theorem ylw (T:Txt K mg a):wa P w K mg base CX0 1 a.Mt a.Mu ["_law_text_here"] (ygt K):=by
 exists T.Cu.F.ok,yeo,hr;obtain ⟨t,g,rfl,u,q,hz,k⟩:=h;refine ⟨_,(yi (yt (i:=1) yeo.nd rfl (Or.inl rfl) (xi ye)) (yi (uw PassesOwn.never rfl (wu (pv 0)) (wo (i:=2) yeo.nd rfl (Or.inr rfl)) (yf (yt (i:=1) yeo.nd rfl (Or.inl rfl) (yn yed (yn yed (pv 1) (xi (yb yg ye (ya rfl)))) (wj (js:=[2]) (ys:=["_law_sign"]) rfl (x8 rfl T.Ap (yb yg ye (ya rfl))) (fun C s2 H2 fp=>(yn yh3 (yn yik (pv 1) (yn uc yg (pv 0))) yg)) rfl rfl (hyc:=(all_cons rfl y7)) (hrel:=(all_cons rfl y7))))))) (yf (yu (yn yed (pv 1) (xi (yb yg ye (ya rfl)))))))),?_⟩;exists 1,2;rfl';refine ⟨by walk_at "len",fun r hr0=>?_⟩
 with_reducible first | refine yv hr0 fun H1 S1 hr1=>?_ | refine ve hr0 fun H1 S1 hr1=>?_
 rfl';refine ⟨t,rfl,⟨_,SqL.of (S1 _ _ u)⟩,uf (K:=K) (a:=t) (xs:=g.map V.int) (fun i σ2 G=>∃ (r:Addr) (v:Option V),σ2=[some (.ref t),some (.ref r),v]/\H r=none/\G r=some (.lst ((Ź (g.take i)).map V.int))/\yy H G)
  ⟨r,_,rfl,hr0,hr1,S1⟩ (by rintro i σ2 G _ ⟨_,_,_,_,_,S⟩; exact SqL.of (S _ _ u)) ?_ ?_⟩
 .clear hr0 hr1 S1 r;rintro i y σ2 G R ⟨r,v,rfl,hr0,d,l⟩;obtain ⟨f,rfl,o,m,il⟩:=ur R;obtain ⟨s0,s1⟩:=q f o
  have N:(Ź (g.take i)).length <= 9 * 1000:=by
   rw [ul,bT];omega
  rfl';refine ⟨by walk_at "len",fun U ho1=>?_⟩
  with_reducible first | refine yv ho1 fun G1 T1 e1=>?_ | refine ve ho1 fun G1 T1 e1=>?_
  refine ⟨r,U,_,_,rfl,rfl,T1 _ _ d,e1,z8 (by rw [bv]; show _+1 <= _; omega),fun L hr20=>?_⟩
  with_reducible first | refine yv hr20 fun G2 T2 e2=>?_ | refine ve hr20 fun G2 T2 e2=>?_
  rfl';refine ⟨_,rfl,by omega,by omega,fun D z=>?_⟩;refine Ð (n:=8) (fun i=>V.int (f / 2 ^ (7 - i) % 2)) z (fun j M O e b=>?_) (fun M e b=>?_)
  .rfl';refine i_I (by omega) ?_;rfl';have ej:((7:Int) - ((0:Int)+(j:Int))).toNat=7 - j:=by omega
   rw [ej];have Y:(0:Int) < 2 ^ (7 - j):=Int.pow_pos (by decide);have W:0 <= f / 2 ^ (7 - j):=Int.ediv_nonneg s0 (Int.le_of_lt Y);have X:f / 2 ^ (7 - j) < 256:=Int.lt_of_le_of_lt (Int.ediv_le_self _ s0) (by omega);rw [vbt W X];exact Mp.doneR z (vq (by decide)) O e b rfl
  .rw [ygn] at b;rfl';refine ⟨L,D,_,_,rfl,rfl,e _ _ e2,b,z8 (by rw [bC,bv,bv,yii]; show _+1+8 <= _; omega),fun Z hr30=>?_⟩
   with_reducible first | refine yv hr30 fun G5 T5 e5=>?_ | refine ve hr30 fun G5 T5 e5=>?_
   have x:=l.trans (T1.trans T2);rfl';refine ⟨Z,_,rfl,x.free (e.free hr30),?_,x.trans (e.trans T5)⟩;rw [e5,jh m,þ];simp
 .clear hr0 hr1 S1 r;rintro σ2 G ⟨r,v,rfl,hr0,d,l⟩;rw [bv,cP] at d;rfl';refine ⟨by walk_at "len",fun n hn=>?_⟩
  with_reducible first | refine yv hn fun H3 S3 hn3=>?_ | refine ve hn fun H3 S3 hn3=>?_
  refine ⟨r,n,_,_,rfl,rfl,S3 _ _ d,hn3,z8 (by rw [bv,ul]; show _+1 <= _; omega),fun c B=>?_⟩;refine k c _ ((l.trans S3).free B) ?_ (l.trans (S3.trans (vj B)));rw [yc,yi3,bS];rfl
theorem ŀ:ym ["_law_looks_here","_law_text_here","_law_learned","_law_hand","_law_one","_law_bit","_law_span"] ["_law_looks_here","_law_text_here","_law_learned"] (yh yrr):=wx (by right)
inductive yc6 (K:W.Frag) (vs:List V) (H:Hp) (Q:VK) (E':XK):Prop
 | mk (L tx ll:Addr) (n:Nat) (lk:Nat->Addr) (kd:Nat->Fin 3) (tp:Nat->Addr) (ps:Nat->List Int) (ts:List Int) (N w:Nat) (lt:Nat->Addr) (tt:Nat->List Int):(vs=[.ref L,.ref tx,.ref ll])->(va8 H L tx (.ref ll) n lk kd tp ps ts N w lt tt)->(H ll=some (.lst (refs lt N)))->(∀ r H',H r=none->H' r=some (.lst ((Í n kd ps (ŷ tt N) ts).map V.int))->yy H H'->Q (.ref r) H')->yc6 K vs H Q E'
theorem ywk (T:Txt K mg a):wa P w K mg base CX0 8 a.Mv a.Mw ["_law_looks_here","_law_text_here","_law_learned"] (yc6 K):=by
 exists T.Fa.F.ok,ŀ,hr;obtain ⟨L,tx,ll,n,lk,kd,tp,ps,u,N,w,lt,C,rfl,D,aw,k⟩:=h;have bg:=D.b;have hw:=D.w1;have aR:=ub u;refine yj (yt (i:=3) ŀ.nd rfl (Or.inl rfl) (ug T.Pu (ylx T) (hr.mono (by decide)) rfl T.Pt T.Dh.B .nil wd (yb (vn v8 rfl T.Ab (by right) (yb (pv 0) ye (ya rfl))) ye (ya rfl)))) ?_;refine yj (uw PassesOwn.never rfl (wu (pv 2)) (wo (i:=4) ŀ.nd rfl (Or.inl rfl)) (yf (uw PassesOwn.never rfl (wu (vi (ylw T) (hr.mono (by decide)) rfl T.Cu.m T.Cu.F.kp T.Cu.B .nil vh (yb (pv 4) ye (ya rfl)))) (wo (i:=5) ŀ.nd rfl (Or.inl rfl)) (yf (yw (xh (pv 3) T.Ag T.Ca.m (yd6 T) (hr.mono (by decide)) T.Ca.B .nil vh (yb (pv 5) ye (ya rfl)))))))) ?_;refine yj (yt (i:=6) ŀ.nd rfl (Or.inl rfl) (jm T.I2 (yil T) (hr.mono (by decide)) rfl T.I1 T.D8.B .nil vh)) ?_;refine yj (uw PassesOwn.never rfl (wu (vi (ylw T) (hr.mono (by decide)) rfl T.Cu.m T.Cu.F.kp T.Cu.B .nil vh (yb (pv 1) ye (ya rfl)))) (wo (i:=5) ŀ.nd rfl (Or.inl rfl)) (yi (yw (vz (pv 6) T.Ad T.Cr.m (yic T) (hr.mono (by decide)) T.Cr.B .nil wd (yb (wc (pv 3) T.Ag T.Cp.m (yh4 T) (hr.mono (by decide)) T.Cp.B .nil vh) (yb (pv 5) ye (ya rfl)) (ya rfl)))) (yf (yw (xh (pv 3) T.Ag T.Ca.m (yd6 T) (hr.mono (by decide)) T.Ca.B .nil vh (yb (pv 5) ye (ya rfl))))))) ?_;refine ⟨_,(yf (yu (wc (pv 6) T.Ad T.Cs.m (yih T) (hr.mono (by decide)) T.Cs.B .nil vh))),?_⟩;exists 3,4;rfl';refine π (SqL.of D.l) fun l2 hl20=>?_
 with_reducible first | refine yv hl20 fun HA SA hl2A=>?_ | refine ve hl20 fun HA SA hl2A=>?_
 rfl';intro p dp np b4 bh;have S0:yy HA (upd (upd HA dp (.own p)) p (.ins a.A2 dp [])):=fun b o e=>by rw [yq (yd e np),yq (yd e b4)]; exact e
 refine ⟨p,dp,.ref l2,rfl,yc,.inr ⟨l2,n,lk,kd,tp,ps,rfl,S0 _ _ hl2A,D.n1,D.n6,(D.r.same SA).same S0,fun d f O H1 N1 B1=>⟨rfl,?_⟩⟩⟩;obtain ⟨hF,rfl,rfl,rfl,rfl,oO,oB,oM,oL⟩:=N1;have S1:yy H H1:=fun b o e=>B1 b o (S0 b o (SA _ _ e)) (yd (SA _ _ e) np);have Y:∀ {c:Addr},upd (upd HA dp (.own p)) p (.ins a.A2 dp []) c=none->H c=none:=fun h=>SA.free (S0.free h);have aF:H d.el=none:=Y (oL d.el (.inr (.inl rfl)));have ad:∀ {c:Addr} {o:HO},H c=some o->c≠d.el:=fun {c o} e z=>by rw [z,aF] at e; cases e
 rfl';generalize ax:FX0 d.n d.kd=X at hF;have b9:X.sg=[]:=by rw [<- ax]; rfl
 have aX:X.nd=0:=by rw [<- ax]; rfl
 refine ⟨ll,rfl,⟨_,SqL.of (S1 _ _ aw)⟩,uf (K:=K) (a:=ll) (xs:=refs lt N) (fun i σ2 G=>∃ (v1 v2:Option V) (ml el pl:Addr) (sl:Nat->Addr) (f':Nat->List Int->Option Slt) (O':Nat->Addr->Prop) (m':Nat),σ2=[some (.ref L),some (.ref tx),some (.ref ll),some (.ref p),v1,v2,none]/\zb K a G p (d.re ml el pl sl) (X.run d (ŷ C i)) f' O' m'/\m' <= 6+6 * (i * (9 * w+1))/\FGo p d O H1 G el O'/\(X.run d (ŷ C i)).sg=[]/\(X.run d (ŷ C i)).nd=0)
  ⟨_,_,d.ml,d.el,d.pl,d.sl,f,O,6,rfl,hF,Nat.le_add_right _ _,FGo.refl,b9,aX⟩ (by rintro i σ2 G _ ⟨_,_,_,_,_,_,_,_,_,_,_,_,go,_,_⟩; exact SqL.of ((go.kpa hF).lst (S1 _ _ aw) (ad aw))) ?_ ?_⟩
 .rintro i y σ2 G hy ⟨v1,v2,ml,el,pl,sl,f1,O1,m1,rfl,M,aM,Z,R,U⟩;obtain ⟨rfl,aJ⟩:=ξ hy;have af:=D.lr.2 i aJ;have aP:=(Z.kpa hF).lst (S1 _ _ af.l) (ad af.l);have W:=af.s;have hz:=af.z
  have aQ:i * (9 * w+1)+(9 * w+1) <= N * (9 * w+1):=by
   have:(i+1) * (9 * w+1) <= N * (9 * w+1):=Nat.mul_le_mul_right _ aJ;rw [Nat.add_mul,Nat.one_mul] at this;exact this
  have aR:=ub (C i);rfl';refine ⟨lt i,C i,rfl,aP,W,by omega,fun bt G1 a5 ai T1=>?_⟩;have g:=M.same T1;have al:bt≠el:=(yd M.el a5).symm;refine ⟨bt,rfl,⟨_,SqL.of ai⟩,uf (K:=K) (a:=bt) (xs:=(dec (C i)).map V.int) (fun j σ2 G'=>∃ (v2:Option V) (ml' el' pl':Addr) (sl':Nat->Addr) (f':Nat->List Int->Option Slt) (O':Nat->Addr->Prop),σ2=[some (.ref L),some (.ref tx),some (.ref ll),some (.ref p),some (.ref (lt i)),v2,none]/\zb K a G' p (d.re ml' el' pl' sl') ((X.run d (ŷ C i)).run d ((dec (C i)).take j)) f' O' (m1+6 * j)/\FGo p (d.re ml el pl sl) O1 G1 G' el' O'/\TxE (C i) j ((X.run d (ŷ C i)).run d ((dec (C i)).take j)).sg ((X.run d (ŷ C i)).run d ((dec (C i)).take j)).nd)
   ⟨_,ml,el,pl,sl,f1,O1,rfl,g,FGo.refl,.inl ⟨bR _,by show Ų _ _ (X.run d (ŷ C i)).sg (X.run d (ŷ C i)).nd; rw [R,U]; exact Ų.zero _⟩⟩ (by rintro j σ2 G' _ ⟨_,_,_,_,_,_,_,_,_,go,_⟩; exact SqL.of ((go.kpa g).lst ai al)) ?_ ?_⟩
  .rintro j y σ3 G' hy ⟨v2,an,ap,aC,au,f2,O2,rfl,I,a6,hT⟩;obtain ⟨b,rfl,aq,hb,hj⟩:=ur hy;obtain ⟨b0,b1⟩:=zi _ b aq;obtain ⟨a4,as⟩:=hT.next W hb;obtain ⟨ar,b6⟩:=a4.nd W;have aV:=a4.len;have be:=I.me;rfl';refine ⟨p,d.re an ap aC au,_,f2,O2,m1+6 * j,b,rfl,I,b0,b1,by omega,ar,by omega,fun aB a8 ao am f3 O3 G3 aD az ae ac av _=>?_⟩;rfl';have n6:=I.n6;refine ⟨_,aB,a8,ao,am,f3,O3,rfl,?_,a6.trans ⟨aD,ae,ac,av⟩,?_⟩
   .rw [uo hb];exact az.up (by show m1+6 * j+d.n <= _; have:d.n <= 6:=n6; omega)
   .rw [uo hb];exact as
  .rintro σ3 G' ⟨v2,an,ap,aC,au,f2,O2,rfl,I,a6,hT⟩;rw [bv] at I hT;rw [cP] at I hT;have er:X.run d (ŷ C (i+1))=(X.run d (ŷ C i)).run d (dec (C i)):=j7 d _ _ X;rw [<- er] at I hT
   have ah:(X.run d (ŷ C (i+1))).sg=[]/\(X.run d (ŷ C (i+1))).nd=0:=by
    rcases hT with ⟨h,_⟩ | ⟨_,h⟩
    .omega
    .exact h
   rfl';exact ⟨_,_,an,ap,aC,au,f2,O2,_,rfl,I,by rw [Nat.add_mul,Nat.one_mul]; omega,Z.trans (FGo.ahead T1 a6),ah.1,ah.2⟩
 .rintro σ2 G ⟨v1,v2,ml,el,pl,sl,f1,O1,m1,rfl,M,aM,Z,R,U⟩;rw [wq] at M aM R U;have aL:=(Z.kpa hF) _ _ (S1 _ _ D.t.l) rfl (ad D.t.l)
  have eX:∀ i,ĕ (d.re ml el pl sl) (X.run d (ŷ C N)) u i=jw d.n d.kd d.ps (ŷ C N) u i:=fun i=>by
   unfold jw ĕ fX;rw [<- ax,yk8,<- Ċ d,<- Ċ d];rfl
  have bd:∀ {c:Addr},G c=none->H c=none:=fun {c} e=>S1.free (Z.free e);generalize bc:X.run d (ŷ C N)=XX at M R U eX;have W:=D.t.s;have hz:=D.t.z;rfl';intro q dq nq aY bf;have SQ:yy G (upd (upd G dq (.own q)) q (.ins a.A3 dq [])):=fun b o e=>by rw [yq (yd e nq),yq (yd e aY)]; exact e
  refine ⟨q,dq,rfl,yc,fun G1 aS B1=>⟨rfl,?_⟩⟩;have T1:yy G G1:=fun b o e=>B1 b o (SQ b o e) (yd e nq);rfl';refine ⟨tx,u,rfl,T1 _ _ aL.2,W,by omega,fun bt G2 a5 aj T2=>?_⟩;have aG:=T1.trans T2;have I:=M.same aG;generalize b2:d.re ml el pl sl=x at M I eX;have al:bt≠x.el:=(yd (M.same T1).el a5).symm
  have aW:∀ i,i < x.n->¬ O1 i q:=fun i hi w=>by
   obtain ⟨o,ho,_⟩:=(M.B.b i hi).own q w;rw [nq] at ho;cases ho
  refine ⟨bt,rfl,⟨_,SqL.of aj⟩,uf (K:=K) (a:=bt) (xs:=(dec u).map V.int) (fun j σ2 G'=>∃ (v:Option V) (ml el pl:Addr) (sl:Nat->Addr) (f':Nat->List Int->Option Slt) (O':Nat->Addr->Prop),σ2=[some (.ref L),some (.ref tx),some (.ref ll),some (.ref p),v1,v,some (.ref q)]/\zb K a G' p (x.re ml el pl sl) (XX.run x ((dec u).take j)) f' O' (m1+6 * j)/\FGo p x O1 G G' el O'/\TxE u j (XX.run x ((dec u).take j)).sg (XX.run x ((dec u).take j)).nd/\G' q=some (.ins a.A3 dq (zy (snK (ĕ x XX u) (v7 u) j)))/\(∀ i,i < x.n->¬ O' i q)/\(G' bt=some (.lst ((dec u).map V.int))/\bt≠el)/\(∀ i,i < j->Ch (ĕ x XX u i)))
   ⟨_,x.ml,x.el,x.pl,x.sl,f1,O1,rfl,I,FGo.refl.same aG,.inl ⟨bR _,by show Ų _ _ XX.sg XX.nd; rw [R,U]; exact Ų.zero _⟩,T2 _ _ aS,aW,⟨aj,al⟩,fun i hi=>absurd hi (ci i)⟩ (by rintro j σ2 G' _ ⟨_,_,_,_,_,_,_,_,_,_,_,_,_,z,_⟩; exact SqL.of z.1) ?_ ?_⟩
  .rintro j y σ2 G' hy ⟨v,a7,a2,aa,ab,aA,a1,rfl,g,go,hT,S,a9,⟨aI,ag⟩,a3⟩;obtain ⟨b,rfl,aq,hb,hj⟩:=ur hy;obtain ⟨b0,b1⟩:=zi _ b aq;obtain ⟨a4,as⟩:=hT.next W hb;obtain ⟨ar,b6⟩:=a4.nd W;have aV:=a4.len;have aO:v7 u j=b:=by unfold v7; rw [hb]; rfl
   have bb:=g.me;have aN:Ch (ĕ x XX u j):=yec g.n1 g.wok g.cok;have b7:=ya6 aN;have b5:=Ű b0 b1;obtain ⟨ay,aU⟩:=je (mx:=ĕ x XX u) (bt:=v7 u) j a3;rfl';refine ⟨q,dq,_,rfl,S,lkN _ (by right) (by right) (by right),?_⟩;rfl';refine ⟨p,x.re a7 a2 aa ab,_,aA,a1,_,rfl,g,fun G3 T3=>?_⟩;rfl';refine ⟨q,dq,_,.int (ĕ x XX u j),.int b,_,_,rfl,T3 _ _ S,ay.ok,.int _,.int _,fun z=>(by rw [b7] at z; cases z),fun _ z=>(by rw [b5] at z; cases z),fun c' b' ec eb _ _ _ G4 a0 B4=>?_⟩;cases ec;cases eb;have J:=(g.same T3).but (T3 _ _ S) rfl a9 B4;have a6:FGo p x O1 G G4 a2 a1:=(go.same T3).but nq B4 a0;have ak:G4 bt=some (.lst ((dec u).map V.int)):=B4.lst (T3 _ _ S) (T3 _ _ aI);have ba:=J.me;have n6:=g.n6;rfl';refine ⟨p,x.re a7 a2 aa ab,_,aA,a1,m1+6 * j,b,rfl,J,b0,b1,by omega,ar,by omega,fun aB a8 ao am f3 O3 G5 aD az ae ac av _=>?_⟩;have aE:FGo p (x.re a7 a2 aa ab) a1 G4 G5 a8 O3:=⟨aD,ae,ac,av⟩;have aH:=aE.kpa J;rfl';refine ⟨_,aB,a8,ao,am,f3,O3,rfl,?_,a6.trans aE,?_,?_,fun i hi w=>?_,⟨(aH _ _ ak rfl ag).2,(aH _ _ ak rfl ag).1⟩,fun i hi=>?_⟩
   .rw [uo hb];exact az.up (by show m1+6 * j+x.n <= _; have:x.n <= 6:=n6; omega)
   .rw [uo hb];exact as
   .have e:snK (ĕ x XX u) (v7 u) (j+1)=nar (snK (ĕ x XX u) (v7 u) j) (ĕ x XX u j) b:=by show nar _ _ (v7 u j)=_; rw [aO]
    rw [e];exact ac _ _ a0 (x9 a0 J.me (show ¬ (3=6) by decide)) (x9 a0 J.mx.o (show ¬ (3=1) by decide)) (fun z=>by have e:=J.el; rw [<- z,a0] at e; cases e) a9
   .rcases ae i q hi w with v | v
    .exact a9 i hi v
    .rw [a0] at v;cases v
   .by_cases z:i=j
    .rw [z];exact aN
    .exact a3 i (by omega)
  .rintro σ2 G' ⟨v,a7,a2,aa,ab,aA,a1,rfl,g,go,hT,S,a9,_,a3⟩;rw [bv] at g S a3;obtain ⟨ay,aU⟩:=je (mx:=ĕ x XX u) (bt:=v7 u) (dec u).length a3;rfl';refine ⟨q,dq,_,rfl,S,lkN _ (by right) (by right) (by right),?_⟩;rfl';refine ⟨q,dq,_,rfl,S,ay,by show Int.toNat _ <= 100000; omega,fun r G3 aT aK T3=>?_⟩;rw [ü _ fun j _=>⟨eX j,rfl⟩] at aK
   have b3:FGo p d O H1 G3 a2 a1:=by
    have g2:=go.same T3;rw [<- b2] at g2;exact Z.trans g2
   refine k r G3 (S1.free (Z.free (go.free aT))) aK fun c o e=>b3.fr c o (S1 _ _ e) (fun z=>?_) (fun z=>?_) (ad e) (fun i hi w'=>?_)
   .rw [z] at e;rw [SA.free np] at e;cases e
   .rw [z,Y oM] at e;cases e
   .rw [Y (oO i c hi w')] at e;cases e
theorem u9:ym ["_law_store","_law_model","_law_script","_law_k","_law_names_here","_law_tower","_law_far","_law_cell","_law_size","_law_many","_law_text_here","_law_base","_law_handed","_law_found","_law_same"] ["_law_store","_law_model","_law_script","_law_k","_law_names_here","_law_tower","_law_far"] (yh yrk):=wx (by right)
inductive yav (K:W.Frag) (a:Ads) (vs:List V) (H:Hp) (Q:VK) (E':XK):Prop
 | mk (B:Hp) (st md l nl:Addr) (zs:List Int) (ns:List Str) (C:Cf) (P:List Pd) (X:Sx) (tu tx:Str->Addr) (k:Nat) (tb fb:Bool):(vs=[.ref st,.ref md,.ref l,.int k,.ref nl,.bl tb,.bl fb])->(SqL K B l (zs.map V.int))->(B nl=some (.lst (ns.map V.str)))->(ns.length=5)->(ns.Nodup)->((∀ x,x∈ns->okN x))->(Sto K a H st C P X)->(Bs B H X)->(Mdl H X md P tu tx)->(H md=some (.dK (mdK tu P)))->(B md=none)->(P.map (·.nm)=ns.take k)->(k < 5)->(2 <= C.w)->((fb=true->12 <= C.w))->(∀ P' Y tu' tx' H',Sto K a H' st C P' Y->Bs B H' Y->Mdl H' Y md P' tu' tx'->H' md=some (.dK (mdK tu' P'))->P'.map (·.nm)=ns.take (k+1)->Q (.bl true) H')->yav K a vs H Q E'
theorem ys6 (T:Txt K mg a):wa P w K mg base CX0 14 a.Mx a.My ["_law_store","_law_model","_law_script","_law_k","_law_names_here","_law_tower","_law_far"] (yav K a):=by
 exists T.Fb.F.ok,u9,hr;obtain ⟨B,st,R,l,nl,zs,c,C,P,X,tu,tx,i,tb,Z,rfl,hl,a3,n5,ay,ai,hS,hB,hM,av,ap,hP,hi,aP,ag,k⟩:=h;have I:i < c.length:=by omega
 obtain ⟨aM,J⟩:=ynk ay hP I;have aI:=hS.cf;refine yj (yt (i:=7) u9.nd rfl (Or.inl rfl) (vi (ya7 T) (hr.mono (by decide)) rfl T.Aw.m T.Aw.F.kp T.Aw.B .nil vh (yb (pv 2) (yb (yn vv yg (yn wl yg (pv 3))) ye (ya rfl)) (ya rfl)))) ?_;refine yj (yt (i:=8) u9.nd rfl (Or.inl rfl) (yn vw (pv 7) (yn uc yg (vn ą rfl T.Ff (by right) (yb (pv 5) ye (ya rfl)))))) ?_;refine yj (ud (wb (PW.pt (yib (xj (pv 6)) (yck (yx x3 (pv 3) yg (y8 _))))) (yf (yt (i:=8) u9.nd rfl (Or.inl rfl) (yn vv yg (yn vw (yn vd (pv 7) yg) yg)))) y9)) ?_;refine yj (yt (i:=9) u9.nd rfl (Or.inl rfl) (yn vv yg (yn wl yg (vn ą rfl T.Ff (by right) (yb (pv 6) ye (ya rfl)))))) ?_;refine yj (yt (i:=10) u9.nd rfl (Or.inl rfl) (vi (yuu T) (hr.mono (by decide)) rfl T.F7.m T.F7.F.kp T.F7.B .nil vh (yb (wj (js:=[2,3]) (ys:=["_law_script","_law_k"]) rfl (x8 rfl T.Ap (yb (pv 9) ye (ya rfl))) (fun C s2 H2 fp=>(yn vd (vi (ya7 T) (hr.mono (by decide)) rfl T.Aw.m T.Aw.F.kp T.Aw.B .nil vh (yb (pv 1) (yb (yn vv yg (yn wl yg (pv 2))) ye (ya rfl)) (ya rfl))) (yn vv (pv 0) yg))) rfl rfl (hyc:=(all_cons rfl (all_cons rfl y7))) (hrel:=(all_cons rfl (all_cons rfl y7)))) (yb (pv 8) (yb (yn vw (yn vd (pv 7) yg) yg) ye (ya rfl)) (ya rfl)) (ya rfl)))) ?_;refine yj (yt (i:=11) u9.nd rfl (Or.inl rfl) jd) ?_;refine yj (ud (wb (PW.pt (yib (yx yfj (yr Ą rfl T.Ae (by right) (yb (pv 1) ye (ya rfl))) yg (y8 _)) (yck (PW.pt (À (xj (pv 5)) (χ (yx yfj (yn vw (yn vd (pv 7) yg) yg) yg (y8 _)))))))) (yi (yt (i:=11) u9.nd rfl (Or.inl rfl) (ua xc (vn (jg rfl) rfl T.Ab (by right) (yb (pv 1) ye (ya rfl))) (yn vw (yn vd (pv 7) yg) (yr Ą rfl T.Ae (by right) (yb (pv 1) ye (ya rfl)))) (fun _ _=>rfl))) (yf (wb (xj (pv 5)) (yf (yt (i:=11) u9.nd rfl (Or.inl rfl) (ua xc (pv 4) (yn uc (pv 3) yg) (fun _ _=>rfl)))) y9))) y9)) ?_;refine yj (ycj (Ì hr) (pv 1) (ua xc (pv 4) (pv 3) (fun _ _=>rfl)) (yiq (yb (pv 10) (yb (pv 11) ye (ya rfl)) (ya rfl))) rfl) ?_;refine yj (yt (i:=12) u9.nd rfl (Or.inl rfl) (vn v8 rfl T.Ab (by right) (yb (pv 10) ye (ya rfl)))) ?_;refine yj (ud (wb (PW.pt (yib (yx yd7 (pv 11) jd (y8 _)) (yck (yx x3 (yn vw (yn vd (pv 7) yg) yg) yg (y8 _))))) (yf (yt (i:=13) u9.nd rfl (Or.inl rfl) (vz (pv 0) T.A4 T.P5 (ymv T) (hr.mono (by decide)) T.P8 (show wn [V.non] _ from (.cons rfl .nil)) wd (yb (ua xc (pv 4) (pv 3) (fun _ _=>rfl)) (yb (pv 12) ye (ya rfl)) (ya rfl))))) (yf (yt (i:=13) u9.nd rfl (Or.inl rfl) (vz (pv 0) T.A4 T.P5 (ymv T) (hr.mono (by decide)) T.Pq .nil wd (yb (ua xc (pv 4) (pv 3) (fun _ _=>rfl)) (yb (pv 12) (yb (pv 11) ye (ya rfl)) (ya rfl)) (ya rfl))))))) ?_;refine yj (yt (i:=14) u9.nd rfl (Or.inl rfl) (x6 (ymc hr.units) (pv 12) (pv 10) (y8 _))) ?_;refine yj (yw (ψ PySem.F.plainAttrs_list PySem.F.slot_list_append PySem.F.type_list_append wz (pv 12) (yb yg ye (ya rfl)))) ?_;refine ⟨_,(yf (yu (ue (x6 yd7 (pv 13) jd (y8 _)) (zt (pv 14))))),?_⟩;exists 7,8;rfl';refine ⟨l,zs,3+2 * i,by rw [show ((3+2 * i:Nat):Int)=3+2 * (i:Int) by omega]; rfl,hB.s.seq hl,by omega,fun u aL aJ=>?_⟩;rfl';refine .inr ⟨tb,rfl,?_⟩;rfl'
 obtain ⟨z,hz,a8⟩:∃ z:Nat,u % (3 - (if tb=true then 1 else 0))=(z:Int)/\z <= 2:=by
  cases tb
  .exact ⟨(u % 3).toNat,by show u % 3=_; omega,by omega⟩
  .exact ⟨(u % 2).toNat,by show u % 2=_; omega,by omega⟩
 rw [hz];refine ⟨fun σ2 G=>H=G/\∃ z:Nat,σ2=[some (.ref st),some (.ref R),some (.ref l),some (.int i),some (.ref nl),some (.bl tb),some (.bl Z),some (.int u),some (.int z),none,none,none,none,none,none]/\z <= C.w/\z <= 12,?_,?_⟩
 .refine ifI (Z=true) (fun Qb qT qF=>?_) (fun hf=>?_) ?_
  .rfl';cases Z
   .refine ė ?_;exact qF
   .refine Ĥ ?_;rfl';by_cases h3:(i:Int)=0
    .rw [bJ h3];exact qT rfl
    .rw [bO h3];exact qF
  .rfl';have:=ag hf;obtain ⟨z,hz,a8⟩:∃ z:Nat,9+u / 3 % 4=(z:Int)/\z <= 12:=⟨(9+u / 3 % 4).toNat,by omega,by omega⟩;rw [hz];exact ⟨rfl,z,rfl,by omega,a8⟩
  .exact ⟨rfl,z,rfl,by omega,by omega⟩
 clear hz a8 z;rintro σ2 G ⟨rfl,z,rfl,aO,aG⟩;rfl';refine .inr ⟨Z,rfl,?_⟩;rfl'
 obtain ⟨mm,aq,aw⟩:∃ mm:Nat,2+10 * (if Z=true then 1 else 0)=(mm:Int)/\mm <= 12:=by
  cases Z
  .exact ⟨2,rfl,by decide⟩
  .exact ⟨12,rfl,by decide⟩
 rw [aq];refine ⟨_,rfl,by omega,by omega,fun D hD=>?_⟩;refine ì (n:=mm) (fun j G=>(∃ cs:List Int,G D=some (.lst (cs.map V.int))/\cs.length=j)/\yy H G) ⟨⟨[],yc,rfl⟩,vj hD⟩ (fun j G hj z=>?_) (fun G z=>?_)
 .obtain ⟨⟨cs,ab,al⟩,SG⟩:=z;rfl';refine ⟨l,zs,4+2 * i,by rw [show ((4+2 * i:Nat):Int)=4+2 * (i:Int) by omega]; rfl,(hB.s.trans SG).seq hl,by omega,fun c4 aR aK=>?_⟩;rfl';refine xw (n:=mm) ab (vq (by rw [bv]; omega)) hj ⟨⟨cs++[c4 / (0+(j:Int)+1)],?_,by rw [bC,al]; rfl⟩,fun y o e=>yk (yd e hD) (SG _ _ e)⟩;rw [yc,bS];rfl
 obtain ⟨⟨cs,ab,al⟩,SG⟩:=z;rfl';refine ⟨D,cs,z,_,rfl,ab,by omega,by omega,fun y O G2 au aC a7 aQ S2=>?_⟩;have T2:=SG.trans S2;rfl';have aE:=hM.same T2;have M:=T2 _ _ av;have aF:=hS.same T2;have am:=hB.same T2;have a6:(mdK tu P).length=P.length:=bv _;refine ⟨fun σ2 F=>yy G2 F/\∃ x:Option Str,σ2=[some (.ref st),some (.ref R),some (.ref l),some (.int i),some (.ref nl),some (.bl tb),some (.bl Z),some (.int u),some (.int z),some (.int mm),some (.ref y),some (baV x),none,none,none]/\∀ b,x=some b->∃ r,r∈P/\r.nm=b,?_,?_⟩
 .refine ifI (0 < i) (fun Qb qT qF=>?_) (fun i0=>?_) ?_
  .rfl';refine ⟨R,_,rfl,M,?_⟩;rw [a6];rfl';refine uz (fun h1=>?_) (fun h1=>qF);rfl';cases tb
   .refine ė ?_;rfl';by_cases h3:0 < u / 4096 % 3
    .rw [bJ h3];exact qT (by omega)
    .rw [bO h3];exact qF
   .refine Ĥ ?_;exact qT (by omega)
  .rfl';refine ⟨R,_,rfl,M,fun q hq0=>?_⟩;rw [Ŧ]
   with_reducible first | refine yv hq0 fun G3 S3 hq3=>?_ | refine ve hq0 fun G3 S3 hq3=>?_
   rfl';refine ⟨R,_,rfl,S3 _ _ M,?_⟩;rw [a6];rfl'
   obtain ⟨w,hw,af⟩:∃ w:Nat,u / 16384 % (P.length:Int)=(w:Int)/\w < P.length:=by
    have h0:=cu (u / 16384) (show (P.length:Int)≠0 by omega);have h1:=cj (u / 16384) (show 0 < (P.length:Int) by omega);exact ⟨(u / 16384 % (P.length:Int)).toNat,by omega,by omega⟩
   rw [hw];refine zw (v:=.str (P[w]).nm) (SqL.of hq3) (xb (by rw [bB,bB,bx af]; rfl)) ?_;rfl';cases tb
   .refine ė ?_;exact ⟨S3,some (P[w]).nm,rfl,fun b e=>⟨_,bZ af,bL e⟩⟩
   .refine Ĥ ?_;rfl';have ah:i - 1 < c.length:=by omega
    refine zw (v:=.str c[i - 1]) (SqL.of (S3 _ _ (am.s _ _ a3))) (by rw [show ((i:Int) - 1)=((i - 1:Nat):Int) by omega]; exact xb (by rw [bB,bx ah]; rfl)) ?_;rfl';exact ⟨S3,some c[i - 1],rfl,fun b e=>yue hP (j:=i - 1) (by omega) (by rw [bx ah]; exact e)⟩
  .exact ⟨yy.refl _,none,rfl,fun b e=>by cases e⟩
 rintro σ2 F ⟨SF,x,rfl,hx⟩
 obtain ⟨L,hL⟩:∃ L,ToD P x L:=by
  cases x with
  | none=>exact ⟨[],rfl⟩
  | some b =>
   obtain ⟨r,hr,e⟩:=hx b rfl;exact ⟨_,r,hr,e,rfl⟩
 have as:=aE.same SF;have a4:=SF _ _ M;have ao:=aF.same SF;have ae:=am.same SF;have a0:=SF _ _ aC
 have ak:¬ X.f y:=fun w=>by
  obtain ⟨o,e⟩:=hS.live y w;rw [SG.free au] at e;cases e
 rfl';refine ⟨by walk_at "len",fun t ht0=>?_⟩
 with_reducible first | refine yv ht0 fun F1 S1 ht1=>?_ | refine ve ht0 fun F1 S1 ht1=>?_
 have W:=S1 _ _ a4;rfl';refine zw (v:=.str c[i]) (SqL.of (S1 _ _ (ae.s _ _ a3))) (xb (by rw [bB,bx I]; rfl)) ?_;rfl';refine ⟨R,_,rfl,yi8.k (k:=.inr c[i]) W (vq (by rw [a6]; omega)),?_⟩;rw [yne (q:=⟨c[i],x,L,O⟩) J];have a2:=(as.same S1).put (q:=⟨c[i],x,L,O⟩) W J (Kf.new ao ht0 ht1) (y:=y) ⟨S1 _ _ a0,ak⟩;have aa:=(ao.same S1).but (WSh.mu W rfl) hM.n (But.upd (o:=.dK (mdK (upS tu c[i] t) (P++[⟨c[i],x,L,O⟩]))));have U:=(ae.same S1).but ap (But.upd (o:=.dK (mdK (upS tu c[i] t) (P++[⟨c[i],x,L,O⟩]))));have a9:upd F1 R (.dK (mdK (upS tu c[i] t) (P++[⟨c[i],x,L,O⟩]))) y=some (.lst (O.map V.int)):=yk (fun z=>by rw [z,a4] at a0; cases a0) (S1 _ _ a0);have N:upd F1 R (.dK (mdK (upS tu c[i] t) (P++[⟨c[i],x,L,O⟩]))) R=some (.dK (mdK (upS tu c[i] t) (P++[⟨c[i],x,L,O⟩]))):=yc;generalize upd F1 R (.dK (mdK (upS tu c[i] t) (P++[⟨c[i],x,L,O⟩])))=F2 at a2 aa U a9 N ⊢;rfl';refine ⟨y,_,rfl,.inl (SqL.of a9),fun hd hhd0=>?_⟩
 with_reducible first | refine yv hhd0 fun F3 S3 hhd3=>?_ | refine ve hhd0 fun F3 S3 hhd3=>?_
 have p:=aa.same S3;obtain ⟨ds,vl,vm,vp,vc,aH⟩:=p.ins;rfl';refine ⟨fun σ2 F=>∃ Y,σ2=[some (.ref st),some (.ref R),some (.ref l),some (.int i),some (.ref nl),some (.bl tb),some (.bl Z),some (.int u),some (.int z),some (.int mm),some (.ref y),some (baV x),some (.ref hd),some .non,none]/\Sto K a F st C (P++[⟨c[i],x,L,O⟩]) Y/\Gx X F3 F Y,?_,?_⟩
 .refine vbb (x=none) True (fun Qb qT qF=>?_) (fun aA=>?_) (fun _=>?_)
  .rfl'
   cases x with
   | some b =>
    refine ybh (fun z=>nomatch z) ?_
    exact qF trivial
   | none =>
    refine yrz ?_;rfl';by_cases h3:u / 12288 % 2=0
    .rw [bJ h3];exact qT rfl
    .rw [bO h3];exact qF trivial
  .subst aA;rfl';refine zw (v:=.str c[i]) (SqL.of (S3 _ _ (U.s _ _ a3))) (xb (by rw [bB,bx I]; rfl)) ?_;rfl';refine p.put (x:=none) (ai _ (bZ I)) ⟨hhd3,a7,by omega⟩ hL J (by omega) fun Y H5 S g5=>?_;rfl';exact ⟨Y,rfl,S,g5⟩
  .rfl';refine zw (v:=.str c[i]) (SqL.of (S3 _ _ (U.s _ _ a3))) (xb (by rw [bB,bx I]; rfl)) ?_;rfl';refine p.put (ai _ (bZ I)) ⟨hhd3,a7,by omega⟩ hL J (by omega) fun Y H5 S g5=>?_;rfl';exact ⟨Y,rfl,S,g5⟩
 rintro σ2 F5 ⟨Y,rfl,S,g5⟩;have ax:=(U.same S3).go p g5;have aB:=(a2.same S3).go p g5;have ad:=(Kf.go ⟨S3 _ _ N,a2.n⟩ p g5).1;have g:=(Kf.new aa hhd0 hhd3).go p g5;have aD:=(Kf.go ⟨S3 _ _ a9,ak⟩ p g5).1;rfl';refine yiz (d:=.list (O.map PyData.int)) (k:=1) (Sd.lst (SqL.of g.1) (Sds.ints _)) (Sd.lst (SqL.of aD) (Sds.ints _)) (by decide) ?_;rfl';refine za g.1 ?_;rfl';refine xt g.1 (vq (by rw [bv]; omega)) ?_;have a1:But hd F5 (upd F5 hd (.lst (O.map V.int++[V.int 0]))):=But.upd;have ar:R≠hd:=fun z=>by rw [z,hhd0] at N; cases N
 have an:=S.butI g.1 (fun x hx=>by have:=a7 x hx; omega) g.2 a1;have aj:=ax.but (U.s.free hhd0) a1;have ac:=aB.butL g.1 (fun q hq z=>by have e:=(a2.x q hq).1; rw [z,hhd0] at e; cases e) a1;have a5:=a1 _ _ ad ar;generalize upd F5 hd (.lst (O.map V.int++[V.int 0]))=F6 at an aj ac a5 ⊢;rfl';refine yrz ?_;rfl';refine k _ Y _ _ F6 an aj ac a5 ?_;rw [bS,hP,List.take_succ,bx I];rfl
theorem ľ:ym ["_law_store","_law_looks_here","_law_model","_law_name","_law_text_here","_law_base","_law_found","_law_data","_law_told_here"] ["_law_store","_law_looks_here","_law_model","_law_name"] (yh yqg):=wx (by right)
inductive Į (K:W.Frag) (a:Ads) (vs:List V) (H:Hp) (Q:VK) (E':XK):Prop
 | mk (B:Hp) (st md lo:Addr) (n:Nat) (lk tp:Nat->Addr) (kd:Nat->Fin 3) (ps:Nat->List Int) (mo w:Nat) (P:List Pd) (X:Sx) (tu tx:Str->Addr) (q:Pd):(vs=[.ref st,.ref lo,.ref md,.str q.nm])->(B lo=some (.lst (refs lk n)))->(xu B n lk kd tp ps)->(Sto K a H st ⟨n,kd,ps,mo,w⟩ P X)->(Bs B H X)->(Mdl H X md P tu tx)->(H md=some (.dK (mdK tu P)))->(q∈P)->(P.length <= 5)->(w <= 12)->(∀ Y H',Sto K a H' st ⟨n,kd,ps,mo,w⟩ P Y->Bs B H' Y->Mdl H' Y md P tu tx->H' md=some (.dK (mdK tu P))->(∀ x o,Kf H X x o->Kf H' Y x o)->Q (.bl true) H')->Į K a vs H Q E'
theorem ywh (T:Txt K mg a):wa P w K mg base CX0 15 a.Mz a.N0 ["_law_store","_law_looks_here","_law_model","_law_name"] (Į K a):=by
 exists T.Fc.F.ok,ľ,j;obtain ⟨B,st,md,lo,n,lk,tp,kd,ps,L,w,P,X,tu,tx,q,rfl,ak,hR,v,hB,hM,ag,U,ay,a4,k⟩:=h;have C:=v.pw;have N:=v.nm q U;obtain ⟨z1,z2,z3,z4⟩:=v.sz q U;have z2:q.tx.length <= w:=z2;obtain ⟨c1,c2,_⟩:=v.cf;obtain ⟨ds,vl,vm,vp,vc,aA⟩:=v.ins;refine yj (yln (j5 (Ì j) (pv 2) (pv 3) (fun _ _=>rfl)) (yei rfl (uq (wo (i:=4) ľ.nd rfl (Or.inl rfl)) (uq (wo (i:=5) ľ.nd rfl (Or.inl rfl)) ũ)))) ?_;refine yj (yt (i:=6) ľ.nd rfl (Or.inl rfl) (vz (pv 0) T.A4 T.Hm.m (yvd T) (j.mono (by decide)) T.Hm.B .nil wd (yb (pv 3) ye (ya rfl)))) ?_;refine yj (yt (i:=7) ľ.nd rfl (Or.inl rfl) (vz (pv 0) T.A4 T.Hn.m (yvl T) (j.mono (by decide)) T.Hn.B .nil wd (yb (pv 3) ye (ya rfl)))) ?_;refine yj (wb (PW.pt (À (xr (xj (yr vy rfl T.A5 (by right) (yb (pv 6) (yb (ut (T:="list") rfl T.Ab (by right)) ye (ya rfl)) (ya rfl))))) (À (yx (Ē j.units) (pv 6) (pv 4) (y8 _)) (χ (xr (xj (yr vy rfl T.A5 (by right) (yb (pv 7) (yb (ut (T:="list") rfl T.Ab (by right)) ye (ya rfl)) (ya rfl))))))))) (yf (yu ycl)) y9) ?_;refine yj (wb (yx (Ē j.units) (pv 7) (vi (ywk T) (j.mono (by decide)) rfl T.Fa.m T.Fa.F.kp T.Fa.B .nil vh (yb (pv 1) (yb (pv 4) (yb (vi (ywz T) (j.mono (by decide)) rfl T.F9.m T.F9.F.kp T.F9.B .nil vh (yb (pv 2) (yb (pv 5) ye (ya rfl)) (ya rfl))) ye (ya rfl)) (ya rfl)) (ya rfl))) (y8 _)) (yf (yu ycl)) y9) ?_;refine yj (yw (ψ PySem.F.plainAttrs_list PySem.F.slot_list_append PySem.F.type_list_append wz (pv 6) (yb yg ye (ya rfl)))) ?_;refine yj (yw (ψ PySem.F.plainAttrs_list PySem.F.slot_list_append PySem.F.type_list_append wz (pv 7) (yb yg ye (ya rfl)))) ?_;refine yj (yt (i:=8) ľ.nd rfl (Or.inl rfl) (vz (pv 0) T.A4 T.Ho.m (ysy T) (j.mono (by decide)) T.Ho.B .nil wd (yb (pv 3) ye (ya rfl)))) ?_;refine yj (wb (yx yd7 (pv 5) jd (y8 _)) (yf (yu (x6 yd7 (pv 8) jd (y8 _)))) y9) ?_;refine ⟨_,(yf (yu (ue (yr vy rfl T.A5 (by right) (yb (pv 8) (yb (ut (T:="str") rfl T.Hv (by right)) ye (ya rfl)) (ya rfl))) (zt (x6 x3 (pv 8) (pv 5) (y8 _)))))),?_⟩;exists 4,5;rfl';refine ⟨md,_,rfl,hM.get U,?_⟩;rfl';refine ⟨_,_,rfl,SqT.of (hM.t q U).1,rfl,?_⟩;rfl';refine v.textof1 N.1 (fun no=>absurd rfl (no q U)) fun r j er Y f H1 H2 O g1 S1 ae D=>?_;obtain rfl:=ļ C.nd j U er;have a5:=hB.go v g1;have Z:=hM.go v g1;have a9:=(Kf.go ⟨ag,hM.n⟩ v g1).1;have ac:=O.same S1;obtain ⟨aE,aB,aF,ar,au,ap⟩:=ac.ins;rfl';refine ac.bytesof N.1 (fun no=>absurd rfl (no r j)) fun c g ad dt H3 J u S3=>?_;obtain rfl:=ļ C.nd g j ad;have M:=S1.trans S3;have R:=Z.same M;rfl';refine jo (.lst (S3 _ _ D)) (ν _ _) ?_;rfl';refine yiz (d:=.list (c.tx.map PyData.int)) (k:=1) (Sd.lst (SqL.of (S3 _ _ D)) (Sds.ints _)) (Sd.lst (SqL.of (R.x c g).1) (Sds.ints _)) (by decide) ?_;rfl';refine jo (.lst u) (ν _ _) ?_;rfl';refine ⟨md,P,Y,tu,tx,c.bs,c.path,rfl,R,C,by omega,C.wf c g,fun ln H4 ao I S4=>?_⟩;have a3:=R.same S4;have ah:=M.trans S4;have a7:=a5.same ah;rfl';have aC:=(C.wf c g).len C
 have tl:va8 H4 lo (tx c.nm) (.ref ln) n lk kd tp ps c.tx c.path.length 12 (lnA tx c.path) (txi c.path):=by
  refine ⟨a7.s _ _ ak,c1,c2,hR.same a7.s,⟨(a3.x c g).1,z1,by omega⟩,⟨.inr ⟨ln,rfl,by rw [<- ycq]; exact I⟩,fun i hi=>?_⟩,by decide,by omega,by omega⟩;have hx:=z4 _ (bZ hi);refine ⟨(a3.ln C (C.wf c g) hi).1,?_,?_⟩
  .unfold txi;rw [cq,bB,bx hi];exact hx.1
  .unfold txi;rw [cq,bB,bx hi];exact cc hx.2 a4
 refine ⟨lo,tx c.nm,ln,n,lk,kd,tp,ps,c.tx,c.path.length,12,_,_,rfl,tl,(by rw [<- ycq]; exact I),fun rr H5 an W S5=>?_⟩;rw [ygh] at W;have G:=S4.trans S5;refine yiz (d:=.list ((c.by ⟨n,kd,ps,L,w⟩).map PyData.int)) (k:=1) (Sd.lst (SqL.of (G _ _ u)) (Sds.ints _)) (Sd.lst (SqL.of (show H5 rr=some (.lst ((c.by ⟨n,kd,ps,L,w⟩).map V.int)) from W)) (Sds.ints _)) (by decide) ?_;have a6:=G _ _ (S3 _ _ D);have a1:=G _ _ u;have am:f≠dt:=yd D J;have al:yy H1 H5:=M.trans G;have a0:H1 dt=none:=S1.free J;rfl';refine za a6 ?_;rfl';refine xt a6 (vq (by rw [bv]; omega)) ?_;have ab:yy H1 (upd H5 f (.lst (c.tx.map V.int++[V.int 7]))):=fun y o e=>yk (yd e ae) (al _ _ e);have p:upd H5 f (.lst (c.tx.map V.int++[V.int 7])) dt=some (.lst ((c.by ⟨n,kd,ps,L,w⟩).map V.int)):=yk am.symm a1;generalize upd H5 f (.lst (c.tx.map V.int++[V.int 7]))=H6 at ab p ⊢;have a2:=ydc (n:=n) (kd:=kd) (ps:=ps) (pre:=Ú (c.path.map (·.2))) (ts:=c.tx) c1 c2 (z6 _) (by omega);have a2:(c.by ⟨n,kd,ps,L,w⟩).length <= 5500:=a2;rfl';refine za p ?_;rfl';refine xt p (vq (by rw [bv]; omega)) ?_;have S:yy H1 (upd H6 dt (.lst ((c.by ⟨n,kd,ps,L,w⟩).map V.int++[V.int 7]))):=fun y o e=>yk (yd e a0) (ab _ _ e);generalize upd H6 dt (.lst ((c.by ⟨n,kd,ps,L,w⟩).map V.int++[V.int 7]))=H7 at S ⊢;have a8:=O.same S;obtain ⟨ax,as,av,az,aw,aq⟩:=a8.ins;rfl';refine a8.baseof N.1 (fun no=>absurd rfl (no c g)) fun r3 ai af H8 S8=>?_;obtain rfl:=ļ C.nd ai g af;have l:=S.trans S8;have aa:Q (.bl true) H8:=k Y H8 (O.same l) (a5.same l) (Z.same l) (l _ _ a9) fun x o kx=>(kx.go v g1).same l
 cases hbs:r3.bs with
 | none =>
  rfl';refine yrz ?_;rfl';show Q (.bl (decide (V.non=V.non))) H8;rw [bJ rfl];exact aa
 | some b =>
  rfl'
  refine ybh (fun z=>nomatch z) ?_
  rfl';refine jo (.str b) (ν _ _) ?_;rfl';refine ⟨rfl,?_⟩;rw [bJ rfl];exact aa
theorem yy0 {x:Int} {w:Int} (h0:0 <= x) (h1:x < 999):∃ v:Int,atI [V.int 0,.int 1,.int 998,.int x] (w % 4)=some (.int v)/\0 <= v/\v <= 998:=by
 obtain e | e | e | e:w % 4=0\/w % 4=1\/w % 4=2\/w % 4=3:=by omega
 .rw [e]; exact ⟨0,rfl,by decide,by decide⟩
 .rw [e]; exact ⟨1,rfl,by decide,by decide⟩
 .rw [e]; exact ⟨998,rfl,by decide,by decide⟩
 .rw [e]; exact ⟨x,rfl,h0,by omega⟩
structure Pre (K:W.Frag) (a:Ads) (HB G:Hp) (st lo nl md:Addr) (n:Nat) (lk tp:Nat->Addr) (kd:Nat->Fin 3) (ps:Nat->List Int) (mo w:Nat) (X:Sx) (ns:List Str) (fb:Bool):Prop where
 s:Sto K a G st ⟨n,kd,ps,mo,w⟩ [] X
 sm:yy HB G
 f:∀ y,X.f y->HB y=none
 ol:Kf G X lo (.lst (refs lk n))
 r:xu G n lk kd tp ps
 on:Kf G X nl (.lst (ns.map V.str))
 dm:Kf G X md (.dK [])
 nm:HB md=none
 w2:2 <= w
 w12:w <= 12
 wf:fb=true->12 <= w
 mo:mo <= 1000
structure Iw (K:W.Frag) (a:Ads) (B G:Hp) (st md:Addr) (C:Cf) (P:List Pd) (X:Sx) (tu tx:Str->Addr):Prop where
 s:Sto K a G st C P X
 b:Bs B G X
 m:Mdl G X md P tu tx
 d:G md=some (.dK (mdK tu P))
theorem xn:ym ["_law_script","_law_way","_law_looks_here","_law_most","_law_handed","_law_store","_law_names_here","_law_model","_law_tower","_law_far","_law_many","_law_k","_law_order","_law_turn","_law_name","_law_found","_law_told_here"] ["_law_script"] (yh yqm):=wx (by right)
inductive ybb (K:W.Frag) (vs:List V) (H:Hp) (Q:VK) (E':XK):Prop
 | mk (l:Addr) (ns:List Int):(vs=[.ref l])->(SqL K H l (ns.map V.int))->(ns.length <= 63)->(∀ H',Q (.bl true) H')->ybb K vs H Q E'
theorem ywn (T:Txt K mg a):wa P w K mg base CX0 16 a.Nl a.Gk ["_law_script"] (ybb K):=by
 exists T.Hq.F.ok,xn,D;obtain ⟨l,zs,rfl,hS,bn,k⟩:=h;refine yj (yt (i:=1) xn.nd rfl (Or.inl rfl) (vi (ya7 T) (D.mono (by decide)) rfl T.Aw.m T.Aw.F.kp T.Aw.B .nil vh (yb (pv 0) (yb yg ye (ya rfl)) (ya rfl)))) ?_;refine yj (yt (i:=2) xn.nd rfl (Or.inl rfl) (vi (yvh T) (D.mono (by decide)) rfl T.F0.m T.F0.F.kp T.F0.B .nil vh (yb (vi (ya7 T) (D.mono (by decide)) rfl T.Aw.m T.Aw.F.kp T.Aw.B .nil vh (yb (pv 0) (yb yg ye (ya rfl)) (ya rfl))) (yb yg ye (ya rfl)) (ya rfl)))) ?_;refine yj (yt (i:=3) xn.nd rfl (Or.inl rfl) (yn vv yg (ua xc (xi (yb yg (yb yg (yb yg (yb (yn vw (yn vd (pv 1) yg) yg) ye (ya rfl)) (ya rfl)) (ya rfl)) (ya rfl))) (yn vw (yn vd (pv 1) yg) yg) (fun _ _=>rfl)))) ?_;refine yj (yt (i:=4) xn.nd rfl (Or.inl rfl) (vn v8 rfl T.Ab (by right) (yb (pv 2) ye (ya rfl)))) ?_;refine yj (yt (i:=5) xn.nd rfl (Or.inl rfl) (ug T.Fq (yh2 T) (D.mono (by decide)) rfl T.Fp T.P4 .nil wd (yb (pv 4) (yb (pv 3) ye (ya rfl)) (ya rfl)))) ?_;refine yj (yw (đ PySem.F.plainAttrs_list PySem.F.slot_list_clear PySem.F.type_list_clear Ş (pv 4))) ?_;refine yj (ud (wb (yx x3 (yn vw (yn vd (pv 1) yg) yg) yg (y8 _)) (yi (yt (i:=3) xn.nd rfl (Or.inl rfl) yg) (yf (yt (i:=5) xn.nd rfl (Or.inl rfl) (ug T.Fq (yh2 T) (D.mono (by decide)) rfl T.Fp T.P7 (show wn [V.int 1000] _ from (.cons ⟨_,rfl⟩ .nil)) wd (yb (vn v8 rfl T.Ab (by right) (yb (pv 2) ye (ya rfl))) ye (ya rfl)))))) y9)) ?_;refine yj (yt (i:=6) xn.nd rfl (Or.inl rfl) (vi (ysx T) (D.mono (by decide)) rfl T.F8.m T.F8.F.kp T.F8.B .nil vh (yb (vi (ya7 T) (D.mono (by decide)) rfl T.Aw.m T.Aw.F.kp T.Aw.B .nil vh (yb (pv 0) (yb yg ye (ya rfl)) (ya rfl))) ye (ya rfl)))) ?_;refine yj (yt (i:=7) xn.nd rfl (Or.inl rfl) ydm) ?_;refine yj (yt (i:=8) xn.nd rfl (Or.inl rfl) (x6 x3 (yn vw (yn vd (pv 1) yg) yg) yg (y8 _))) ?_;refine yj (ud (yt (i:=9) xn.nd rfl (Or.inl rfl) (ue (ymo (pv 8)) (zt (x6 x3 (yn vw (yn vd (pv 1) yg) yg) yg (y8 _)))))) ?_;refine yj (ud (wb (xj (pv 9)) (yi (yt (i:=2) xn.nd rfl (Or.inl rfl) (xx jb (pv 2) uh (uk yg))) (yi (yt (i:=3) xn.nd rfl (Or.inl rfl) (yr (ι rfl) rfl T.Fg (by right) (yb (pv 3) (yb yg ye (ya rfl)) (ya rfl)))) (yf (yt (i:=5) xn.nd rfl (Or.inl rfl) (ug T.Fq (yh2 T) (D.mono (by decide)) rfl T.Fp T.P4 .nil wd (yb (vn v8 rfl T.Ab (by right) (yb (pv 2) ye (ya rfl))) (yb (pv 3) ye (ya rfl)) (ya rfl))))))) y9)) ?_;refine yj (yt (i:=10) xn.nd rfl (Or.inl rfl) (ua xc (xi (yb (yr (Ă rfl) rfl T.Hu (by right) (yb yg (yb (yr (ι rfl) rfl T.Fg (by right) (yb yg (yb (yn vd (yn uc (yr yz rfl T.Ae (by right) (yb (pv 0) ye (ya rfl))) yg) yg) ye (ya rfl)) (ya rfl))) ye (ya rfl)) (ya rfl))) (yb yg ye (ya rfl)) (ya rfl))) (vn ą rfl T.Ff (by right) (yb (pv 8) ye (ya rfl))) (fun _ _=>rfl))) ?_;refine yj (uw PassesOwn.never rfl (x8 rfl T.Ap (yb (pv 10) ye (ya rfl))) (wo (i:=11) xn.nd rfl (Or.inl rfl)) (yf (wb (xr (xj (vi (ys6 T) (D.mono (by decide)) rfl T.Fb.m T.Fb.F.kp T.Fb.B .nil vh (yb (pv 5) (yb (pv 7) (yb (pv 0) (yb (pv 11) (yb (pv 6) (yb (pv 8) (yb (pv 9) ye (ya rfl)) (ya rfl)) (ya rfl)) (ya rfl)) (ya rfl)) (ya rfl)) (ya rfl))))) (yf (yu ycl)) y9))) ?_;refine yj (yt (i:=12) xn.nd rfl (Or.inl rfl) (vn (jg rfl) rfl T.Ab (by right) (yb (pv 7) ye (ya rfl)))) ?_;refine yj (ud (wb (yx x3 (yn vw (pv 1) yg) yg (y8 _)) (yf (yw (đ PySem.F.plainAttrs_list PySem.F.slot_list_reverse PySem.F.type_list_reverse Ê (pv 12)))) y9)) ?_
 refine yj (uw PassesOwn.never rfl (x8 rfl T.Ap (yb yg ye (ya rfl))) (wo (i:=13) xn.nd rfl (Or.inl rfl)) (yi (uw PassesOwn.never rfl (wu (pv 12)) (wo (i:=14) xn.nd rfl (Or.inl rfl)) (yf (wb (xr (xj (vi (ywh T) (D.mono (by decide)) rfl T.Fc.m T.Fc.F.kp T.Fc.B .nil vh (yb (pv 5) (yb (pv 2) (yb (pv 7) (yb (pv 14) ye (ya rfl)) (ya rfl)) (ya rfl)) (ya rfl))))) (yf (yu ycl)) y9))) (yi (yt (i:=15) xn.nd rfl (Or.inl rfl) (wc (pv 5) T.A4 T.Hi.m (yv9 T) (D.mono (by decide)) T.Hi.B .nil vh)) (yi (wb (PW.pt (À (xr (xj (yr vy rfl T.A5 (by right) (yb (pv 15) (yb (ut (T:="list") rfl T.Ab (by right)) ye (ya rfl)) (ya rfl))))) (χ (yx (Ē D.units) (pv 15) (vn (jg rfl) rfl T.Ab (by right) (yb (pv 7) ye (ya rfl))) (y8 _))))) (yf (yu ycl)) y9) (yf (yw (đ PySem.F.plainAttrs_list PySem.F.slot_list_clear PySem.F.type_list_clear Ş (pv 15)))))))) ?_;refine yj (yt (i:=16) xn.nd rfl (Or.inl rfl) (wc (pv 5) T.A4 T.Dn.m (ymm T) (D.mono (by decide)) T.Dn.B .nil vh)) ?_;refine yj (wb (PW.pt (À (xr (xj (yr vy rfl T.A5 (by right) (yb (pv 16) (yb (ut (T:="list") rfl T.Ab (by right)) ye (ya rfl)) (ya rfl))))) (À (yx (Ē D.units) (pv 16) (pv 2) (y8 _)) (χ (yx yzt (wc (pv 5) T.A4 T.Hh.m (ys2 T) (D.mono (by decide)) T.Hh.B .nil vh) (pv 3) (y8 _)))))) (yf (yu ycl)) y9) ?_;refine yj (yw (đ PySem.F.plainAttrs_list PySem.F.slot_list_clear PySem.F.type_list_clear Ş (pv 16))) ?_;refine ⟨_,(yf (yu (x6 (ymc D.units) (wc (pv 5) T.A4 T.Dn.m (ymm T) (D.mono (by decide)) T.Dn.B .nil vh) (pv 2) (y8 _)))),?_⟩;exists 1,16;rfl';refine ⟨l,zs,0,rfl,hS,by decide,fun wy bo bp=>?_⟩;rfl';refine ⟨l,zs,1,rfl,hS,by decide,fun c1 bd bf=>?_⟩;rfl';refine ⟨c1,2,rfl,bd,bf,by decide,by decide,fun lo n U I tp C HA aC a8 n1 n6 aE S1=>?_⟩;rfl';refine ⟨by walk_at "len",fun q hq0=>?_⟩
 with_reducible first | refine yv hq0 fun HB S2 hq2=>?_ | refine ve hq0 fun HB S2 hq2=>?_
 have u:=S2 _ _ a8;have a3:=aE.same S2;have aD:=S2.seq (S1.seq hS);rfl';obtain ⟨v,hv,b1,bh⟩:=yy0 (x:=wy / 2 % 999) (w:=wy / 2000) (by omega) (by omega);refine zw (v:=.int v) (SqL.of hq2) hv ?_;rfl';obtain ⟨mo,aQ,a2,S⟩:∃ mo:Nat,2+v=(mo:Int)/\2 <= mo/\mo <= 1000:=⟨(2+v).toNat,by omega,by omega,by omega⟩;rw [aQ];clear hS S1 S2 aC a8 aE hq0 hq2 hv b1 bh aQ v q HA;refine π (SqL.of u) fun hd hhd0=>?_
 with_reducible first | refine yv hhd0 fun H3 S3 hhd3=>?_ | refine ve hhd0 fun H3 S3 hhd3=>?_
 rfl';intro g ds ab a7 b9;refine Sto.new (mo:=mo) (w:=2) ab a7 hhd3 n1 n6 (a3.same S3) S a2 (by decide) fun X H4 b2 S4 aM aR=>⟨rfl,?_⟩;have a0:=S4 _ _ hhd3;rfl';refine za a0 ?_;refine ⟨hd,_,rfl,rfl,a0,?_⟩;have af:=aR hd _ _ hhd3 (But.upd (o:=.lst []));have S5:yy HB (upd H4 hd (.lst [])):=fun y o e=>yk (yd e hhd0) (S4 _ _ (S3 _ _ e));generalize upd H4 hd (.lst [])=H5 at af S5 ⊢;have aO:∀ y,X.f y->HB y=none:=fun y w=>S3.free (aM y w);clear aR b2 S4 aM a0 hhd3 S3 ab a7 b9 hhd0 H4 H3;rfl';refine ⟨fun σ2 G=>∃ (g:Addr) (mo:Nat) (X:Sx),σ2=[some (.ref l),some (.int wy),some (.ref lo),some (.int mo),some (.ref hd),some (.ref g),none,none,none,none,none,none,none,none,none,none,none]/\Sto K a G g ⟨n,I,C,mo,2⟩ [] X/\yy HB G/\(∀ y,X.f y->HB y=none)/\2 <= mo/\mo <= 1000,?_,?_⟩
 .rfl';refine uz (fun h1=>?_) (fun h1=>?_)
  .rfl';refine π (SqL.of (S5 _ _ u)) fun l2 hl20=>?_
   with_reducible first | refine yv hl20 fun H6 S6 hl26=>?_ | refine ve hl20 fun H6 S6 hl26=>?_
   rfl';intro av bg L M aK;have ar:=S5.trans S6;refine Sto.new (mo:=1000) (w:=2) L M hl26 n1 n6 (a3.same ar) (by decide) (by decide) (by decide) fun X2 H7 a5 S7 aW _=>⟨rfl,?_⟩;rfl';exact ⟨av,1000,X2,rfl,a5,ar.trans S7,fun y w=>ar.free (aW y w),by decide,by decide⟩
  .exact ⟨g,mo,X,rfl,af,S5,aO,a2,S⟩
 clear af S5 aO a2 S X mo g;rintro σ2 G ⟨g,mo,X,rfl,a6,SG,am,a2,S⟩;rfl';refine ⟨l,zs,2,rfl,SG.seq aD,by decide,fun c2 aY bb=>?_⟩;rfl';refine ⟨c2,rfl,aY,bb,fun nl ns H6 aa ad S6 n5 b7 be=>?_⟩;rfl';intro p hmd0
 with_reducible first | refine yv hmd0 fun H7 S7 hmd7=>?_ | refine ve hmd0 fun H7 S7 hmd7=>?_
 have ai:=S6.trans S7;have a5:=a6.same ai;have aq:Kf H7 X nl (.lst (ns.map V.str)):=(Kf.new a6 aa ad).same S7;have ak:Kf H7 X p (.dK []):=Kf.new (a6.same S6) hmd0 hmd7;have ay:HB p=none:=SG.free (S6.free hmd0);have R:=SG.trans ai;clear a6 aa ad S6 S7 hmd7 SG ai;rfl';generalize decide (wy / 24000 % 3=1)=W;refine ⟨fun σ2 G=>H7=G/\∃ fb:Bool,σ2=[some (.ref l),some (.int wy),some (.ref lo),some (.int mo),some (.ref hd),some (.ref g),some (.ref nl),some (.ref p),some (.bl W),some (.bl fb),none,none,none,none,none,none,none],?_,?_⟩
 .rfl';cases W
  .refine Ĥ ?_;rfl';exact ⟨rfl,_,rfl⟩
  .refine ė ?_;rfl';exact ⟨rfl,_,rfl⟩
 rintro σ2 G ⟨rfl,fb,rfl⟩;refine ⟨fun σ2 G=>∃ (g lo:Addr) (n:Nat) (U tp:Nat->Addr) (I:Nat->Fin 3) (C:Nat->List Int) (mo w:Nat) (X:Sx),σ2=[some (.ref l),some (.int wy),some (.ref lo),some (.int mo),some (.ref hd),some (.ref g),some (.ref nl),some (.ref p),some (.bl W),some (.bl fb),none,none,none,none,none,none,none]/\Pre K a HB G g lo nl p n U tp I C mo w X ns fb,?_,?_⟩
 .rfl';cases fb
  .refine ė ?_;exact ⟨g,lo,n,U,tp,I,C,mo,2,X,rfl,⟨a5,R,am,⟨R _ _ u,fun w=>by rw [am _ w] at u; cases u⟩,a3.same R,aq,ak,ay,by decide,by decide,(fun z=>by cases z),S⟩⟩
  .refine Ĥ ?_;rfl';refine ybe (SqL.of (R _ _ u)) fun l3 hl30=>?_;have ec:ybl (refs U n) none (some 1)=refs U 1:=by rw [show ybl (refs U n) none (some 1)=(refs U n).take 1 from zh 1]; unfold refs; rw [<- List.map_take,List.take_range,Nat.min_eq_left n1]
   rw [ec]
   with_reducible first | refine yv hl30 fun H8 S8 hl38=>?_ | refine ve hl30 fun H8 S8 hl38=>?_
   rfl';refine ⟨_,_,rfl,?_⟩;rfl'
   obtain ⟨mx,aU,ax,aJ⟩:∃ mx:Nat,(if (12:Int) > (mo:Int) then 12 else (mo:Int))=(mx:Int)/\12 <= mx/\mx <= 1000:=by
    refine ⟨(if (12:Int) > (mo:Int) then 12 else (mo:Int)).toNat,?_,?_,?_⟩ <;> (split <;> omega)
   rw [aU];refine π (SqL.of hl38) fun l4 hl40=>?_
   with_reducible first | refine yv hl40 fun H9 S9 hl49=>?_ | refine ve hl40 fun H9 S9 hl49=>?_
   rfl';intro av bg L M aK;have as:=S8.trans S9;have aj:=R.trans as;have aL:xu H9 1 U I tp C:=fun i hi=>(a3.same aj) i (by omega);refine Sto.new (mo:=mx) (w:=12) L M hl49 (by decide) (by decide) aL aJ ax (by decide) fun X2 Ha aZ Sa aA _=>⟨rfl,?_⟩;have kf:∀ {x:Addr} {o:HO},H9 x=some o->Kf Ha X2 x o:=fun {x o} e=>⟨Sa _ _ e,fun w=>by rw [aA x w] at e; cases e⟩;rfl';exact ⟨av,l3,1,U,tp,I,C,mx,12,X2,rfl,⟨aZ,aj.trans Sa,fun y w=>aj.free (aA y w),kf (S9 _ _ hl38),aL.same Sa,kf (as _ _ aq.1),kf (as _ _ ak.1),ay,by decide,by decide,(fun _=>by decide),aJ⟩⟩
 clear a5 aq ak R am a2 S a3 n1 n6 X mo g H7;rintro σ2 G ⟨g,lo,n,U,tp,I,C,mo,w,X,rfl,j⟩;obtain ⟨B,hB,nB,O⟩:=Bs.mk' j.s p;have aw:yy HB B:=fun y o e=>O y o (j.sm _ _ e) (fun z=>by rw [j.f y z] at e; cases e) (yd e j.nm);have aH:=aw.seq aD;have aN:=O _ _ j.on.1 j.on.2 (xa j.on.1 j.dm.1 (by intro z; cases z));have Z:=O _ _ j.ol.1 j.ol.2 (xa j.ol.1 j.dm.1 (by intro z; cases z))
 have al:xu B n U I tp C:=fun i hi=>by
  obtain ⟨q,e,h1,h2,h3⟩:=j.r i hi;exact ⟨q,e,O _ _ h1 (j.s.ntup h1) (xa h1 j.dm.1 (by intro z; cases z)),O _ _ h2 (j.s.ntup h2) (xa h2 j.dm.1 (by intro z; cases z)),h3⟩
 have bi:=j.w2;have aF:=j.w12;have aV:=j.wf;have c:Iw K a B G g p ⟨n,I,C,mo,w⟩ [] X (fun _=>0) (fun _=>0):=⟨j.s,hB,⟨.inl j.dm.1,j.dm.2,(fun q hq=>by cases hq),(fun q hq=>by cases hq)⟩,j.dm.1⟩;clear j hB O aw;rfl';refine zn (c.b.s.seq aH) ?_;rfl';refine ⟨_,_,rfl,?_⟩;rfl';refine ⟨_,_,rfl,?_⟩;rfl'
 obtain ⟨y3,aP,bj⟩:∃ y:Nat,(if (if ((((zs.map V.int).length:Nat):Int) - 2) / 2 > 1 then ((((zs.map V.int).length:Nat):Int) - 2) / 2 else 1) < 3 then (if ((((zs.map V.int).length:Nat):Int) - 2) / 2 > 1 then ((((zs.map V.int).length:Nat):Int) - 2) / 2 else 1) else 3)=(y:Int)/\y <= 3:=by
  generalize ((((zs.map V.int).length:Nat):Int) - 2) / 2=y;refine ⟨(if (if y > 1 then y else 1) < 3 then (if y > 1 then y else 1) else 3).toNat,?_,?_⟩ <;> (split <;> split <;> omega)
 rw [aP];refine ⟨by walk_at "len",fun q hq0=>?_⟩
 with_reducible first | refine yv hq0 fun G1 S1 hq1=>?_ | refine ve hq0 fun G1 S1 hq1=>?_
 rfl';refine .inr ⟨W,rfl,?_⟩
 obtain ⟨m,hm,br⟩:∃ m:Nat,atI [V.int (y3:Int),.int 5] (if W=true then 1 else 0)=some (.int (m:Int))/\m <= 5:=by
  cases W
  .exact ⟨y3,rfl,by omega⟩
  .exact ⟨5,rfl,by decide⟩
 refine zw (v:=.int (m:Int)) (SqL.of hq1) hm ?_;have au:Iw K a B G1 g p ⟨n,I,C,mo,w⟩ [] X (fun _=>0) (fun _=>0):=⟨c.s.same S1,c.b.same S1,c.m.same S1,S1 _ _ c.d⟩;clear c S1 hq0 hq1 aP hm;rfl';refine ⟨_,rfl,by omega,by omega,z5 (n:=m) (fun i σ2 G=>∃ (P:List Pd) (X:Sx) (tu tx:Str->Addr) (v:Option V),σ2=[some (.ref l),some (.int wy),some (.ref lo),some (.int mo),some (.ref hd),some (.ref g),some (.ref nl),some (.ref p),some (.bl W),some (.bl fb),some (.int m),v,none,none,none,none,none]/\Iw K a B G g p ⟨n,I,C,mo,w⟩ P X tu tx/\P.map (·.nm)=ns.take i)
  ⟨[],X,_,_,_,rfl,au,rfl⟩ ?_ ?_⟩
 .clear au X;rintro i σ2 G hi ⟨P,X,tu,tx,v,rfl,c,hP⟩;rfl';refine ⟨B,g,p,l,nl,zs,ns,_,P,X,tu,tx,i,W,fb,congrArg (fun x=>[V.ref g,.ref p,.ref l,.int x,.ref nl,.bl W,.bl fb]) (Int.zero_add _),aH,aN,n5,b7,be,c.s,c.b,c.m,c.d,nB,hP,by omega,bi,aV,fun P' Y b3 b5 G' s' b' m' d' b6=>?_⟩;rfl';exact ⟨P',Y,b3,b5,_,rfl,⟨s',b',m',d'⟩,b6⟩
 clear au X;rintro σ2 G ⟨P,X,tu,tx,v,rfl,c,hP⟩
 have b4:P.length <= 5:=by
  have e:=congrArg List.length hP;rw [bv,bT] at e;omega
 have ae:∀ x,x∈P.map (·.nm)->PyData.strOk x=true:=fun x hx=>by
  obtain ⟨q,hq,rfl⟩:=bD.mp hx;exact (c.s.nm q hq).2
 rfl';refine ⟨p,_,rfl,c.d,fun od hod0=>?_⟩;rw [Ŧ]
 with_reducible first | refine yv hod0 fun G1 S1 hod1=>?_ | refine ve hod0 fun G1 S1 hod1=>?_
 rfl';refine ⟨fun σ2 F=>∃ ms:List Str,σ2=[some (.ref l),some (.int wy),some (.ref lo),some (.int mo),some (.ref hd),some (.ref g),some (.ref nl),some (.ref p),some (.bl W),some (.bl fb),some (.int m),v,some (.ref od),none,none,none,none]/\yy G F/\F od=some (.lst (ms.map V.str))/\∀ x,x∈ms->∃ q,q∈P/\q.nm=x,?_,?_⟩
 .have aB:∀ x,x∈P.map (·.nm)->∃ q,q∈P/\q.nm=x:=fun x hx=>by
   obtain ⟨q,hq,e⟩:=bD.mp hx;exact ⟨q,hq,e⟩
  rfl';refine uz (fun h1=>?_) (fun h1=>?_)
  .rfl';refine za hod1 ?_;rfl';refine ć hod1 ?_;rfl';exact ⟨(P.map (·.nm)).reverse,rfl,fun y o e=>yk (yd e hod0) (S1 _ _ e),by rw [yc,List.map_reverse],fun x hx=>aB x (List.mem_reverse.mp hx)⟩
  .exact ⟨P.map (·.nm),rfl,S1,hod1,aB⟩
 clear S1 hod1;rintro σ2 F ⟨ms,rfl,SF,a9,b0⟩;have ah:Kf F X od (.lst (ms.map V.str)):=Kf.new c.s hod0 a9;have ag:Iw K a B F g p ⟨n,I,C,mo,w⟩ P X tu tx:=⟨c.s.same SF,c.b.same SF,c.m.same SF,SF _ _ c.d⟩;have nod:B od=none:=c.b.s.free hod0;clear c SF a9 hod0;rfl';refine ⟨_,rfl,by omega,by omega,z5 (n:=2) (fun t σ2 G=>∃ (X:Sx) (ap J a4:Option V),σ2=[some (.ref l),some (.int wy),some (.ref lo),some (.int mo),some (.ref hd),some (.ref g),some (.ref nl),some (.ref p),some (.bl W),some (.bl fb),some (.int m),v,some (.ref od),ap,J,a4,none]/\Iw K a B G g p ⟨n,I,C,mo,w⟩ P X tu tx/\Kf G X od (.lst (ms.map V.str)))
  ⟨X,_,_,_,rfl,ag,ah⟩ ?_ ?_⟩
 .clear ag ah X;rintro t σ2 G ht ⟨X,ap,J,a4,rfl,c,ko⟩;rfl';refine ⟨od,rfl,⟨_,SqL.of ko.1⟩,uf (K:=K) (a:=od) (xs:=ms.map V.str) (fun i σ2 G=>∃ (X:Sx) (J:Option V),σ2=[some (.ref l),some (.int wy),some (.ref lo),some (.int mo),some (.ref hd),some (.ref g),some (.ref nl),some (.ref p),some (.bl W),some (.bl fb),some (.int m),v,some (.ref od),some (.int (0+(t:Int))),J,a4,none]/\Iw K a B G g p ⟨n,I,C,mo,w⟩ P X tu tx/\Kf G X od (.lst (ms.map V.str)))
   ⟨X,_,rfl,c,ko⟩ (by rintro i σ2 G _ ⟨_,_,_,_,ko⟩; exact SqL.of ko.1) ?_ ?_⟩
  .clear c ko X;rintro i y σ2 G hy ⟨X,J,rfl,c,ko⟩;rw [bB] at hy;obtain ⟨x,hx,rfl⟩:=Option.map_eq_some_iff.mp hy;obtain ⟨q,hq,rfl⟩:=b0 x (bM hx);rfl';refine ⟨B,g,p,lo,n,U,tp,I,C,mo,w,P,X,tu,tx,q,rfl,Z,al,c.s,c.b,c.m,c.d,hq,b4,aF,fun Y G' s' b' m' d' fr=>?_⟩;rfl';exact ⟨Y,_,rfl,⟨s',b',m',d'⟩,fr _ _ ko⟩
  .clear c ko X;rintro σ2 G ⟨X,J,rfl,c,ko⟩;obtain ⟨ds,vl,vm,vp,vc,ao⟩:=c.s.ins;rfl';refine c.s.names fun nm H1 az ac S1=>?_;rfl';refine jo (.lst ac) (ν _ _) ?_;rfl';refine ⟨p,_,rfl,S1 _ _ c.d,fun q2 hq20=>?_⟩;rw [Ŧ]
   with_reducible first | refine yv hq20 fun H2 S2 hq22=>?_ | refine ve hq20 fun H2 S2 hq22=>?_
   have a1:=S2 _ _ ac;have an:H2 nm=some (.lst ((P.map (·.nm)).map V.str)):=by rw [a1,cg]; rfl
   refine yin _ _ ae ae (SqL.of an) (SqL.of hq22) ?_;rw [bJ rfl];rfl';refine za a1 ?_;refine ⟨nm,_,rfl,rfl,a1,?_⟩;have S3:yy G (upd H2 nm (.lst [])):=fun y o e=>yk (yd e az) (S2 _ _ (S1 _ _ e));rfl';exact ⟨X,_,_,_,rfl,⟨c.s.same S3,c.b.same S3,c.m.same S3,S3 _ _ c.d⟩,ko.same S3⟩
 .clear ag ah X;rintro σ2 G ⟨X,ap,J,a4,rfl,c,ko⟩;obtain ⟨ds,vl,vm,vp,vc,ao⟩:=c.s.ins;have lkS:∀ {G':Hp} {x:Addr} {lk' tp':Nat->Addr},G' x=some (.lst (refs lk' n))->xu G' n lk' I tp' C->Sd K G' (.ref x) (.list ((List.range n).map fun i=>dLk (I i) (C i))) 3:=fun e r=>Sd.lst (SqL.of e) r.sds;rfl';refine c.s.tlooks fun l1 bu bs H1 aI N aX S1=>?_;rfl';refine jo (.lst N) (ν _ _) ?_;rfl';have aG:=c.b.s.trans S1;refine yiz (lkS N aX) (lkS (aG _ _ Z) (al.same aG)) (by decide) ?_;have bk:=S1 _ _ ao;rfl';refine (c.s.same S1).tmost ?_;rfl';refine yk0 (fun _=>?_) (fun z=>absurd rfl z);rfl';refine za N ?_;refine ⟨l1,_,rfl,rfl,N,?_⟩;have S2:yy G (upd H1 l1 (.lst [])):=fun y o e=>yk (yd e aI) (S1 _ _ e);generalize upd H1 l1 (.lst [])=H2 at S2 ⊢;have bm:=S2 _ _ ao;rfl';refine (c.s.same S2).tlooks fun l3 bq bt H3 hl30 aS ba S3=>?_;have aT:=c.b.s.trans (S2.trans S3);rfl';refine yiz (lkS aS ba) (lkS (aT _ _ Z) (al.same aT)) (by decide) ?_;exact k _
end
variable {C:Cf} {P:List Pd} {X Y:Sx}
theorem all_mk {l:W.OpenLaw} {w:World} {K:W.Frag} {h:Heap} {mg:Str->Option Value} (X:K.In h) (G:h.Ns mainGlobals mg) (hfa:mg "law"=some (.ref fa))
  (Oy:GV K "Even" (.ref A9))
  (Nr:GV K "Quick" (.ref A8))
  (Pk:GV K "Run" (.ref Af))
  (Q3:GV K "Mixer" (.ref Br))
  (Oz:GV K "Book" (.ref Aa))
  (P0:GV K "Span" (.ref A3))
  (Q4:GV K "Seeker" (.ref Ac))
  (Q5:GV K "Foreteller" (.ref A2))
  (Nt:GV K "Chain" (.ref A1))
  (Nu:GV K "Piece" (.ref A6))
  (Nv:GV K "Store" (.ref A0))
  (Q6:GV K "NoText" (.ref Gm))
  (Q7:GV K "NoBytes" (.ref Fh))
  (Nf:GV K "NoMost" (.ref B0))
  (Q8:GV K "NoChance" (.ref De))
  (Q9:GV K "NoBit" (.ref Bx))
  (Qa:GV K "NoLooks" (.ref Fi))
  (Qc:GV K "NoPress" (.ref Fj))
  (Ng:GV K "NoName" (.ref Ah))
  (I6:GV K "TooLong" (.ref Aj))
  (Nw:GV K "Taken" (.ref Ax))
  (P1:GV K "Full" (.ref C7))
  (I7:GV K "NoPiece" (.ref A7))
  (C6:Dgf K mg "is_whole" vaa O5 O6)
  (N3:Dgf K mg "is_bit" yz3 O7 O8)
  (N4:Dgf K mg "is_chance" yz9 O9 Oa)
  (N5:Dgf K mg "is_sign" vab Ob Oc)
  (Fl:Dgf K mg "is_list_of_signs" vaf Od Oe)
  (Fm:Dgf K mg "checked_text" vag Of Og)
  (N6:Dgf K mg "checked_bytes" vai Oh Oi)
  (N7:Dgf K mg "check_most" yz2 Oj Ol)
  (Dc:Dgf K mg "check_chance" yz8 Om On)
  (Ak:Dgf K mg "check_bit" ypn Ic Ie)
  (Ec:Dgf K mg "gives" yqa If Ig)
  (Ed:Dgm K A9 "__init__" "Even.__init__" ypx Ga Ih)
  (Gn:Dgm K A9 "chance" "Even.chance" yp9 Ii Ij)
  (Gp:Dgm K A9 "seen" "Even.seen" ypj Ik Il)
  (Ee:Dgm K A8 "__init__" "Quick.__init__" yrl Gb Im)
  (Gq:Dgm K A8 "chance" "Quick.chance" yq0 Io Ip)
  (Gr:Dgm K A8 "seen" "Quick.seen" yq1 Iq Ir)
  (Ef:Dgm K Af "__init__" "Run.__init__" yql Gc Is)
  (Gs:Dgm K Af "chance" "Run.chance" yp5 Iu Iv)
  (Gt:Dgm K Af "seen" "Run.seen" ypr Ix Iy)
  (Eg:Dgf K mg "slot_of" yrf Iz J0)
  (Eh:Dgf K mg "is_kind" yqk J1 J2)
  (Ei:Dgf K mg "is_place" yrv J3 J4)
  (Ej:Dgf K mg "are_places" ypk J5 J6)
  (Cn:Dgf K mg "is_look" ypi J7 J8)
  (Co:Dgf K mg "checked_looks" yp3 J9 Ja)
  (Ek:Dgf K mg "sign_back" yrg Jb Jc)
  (El:Dgf K mg "context_of" yri Jd Je)
  (Em:Dgm K Aa "__init__" "Book.__init__" yrp Gd Jf)
  (Gu:Dgm K Aa "slot_at" "Book.slot_at" ypl Jg Jh)
  (En:Dgm K Br "__init__" "Mixer.__init__" yp7 Ge Ji)
  (Gv:Dgm K Br "mixed" "Mixer.mixed" yq3 Jj Jk)
  (Gw:Dgm K Br "learn" "Mixer.learn" yqi Jl Jm)
  (Dh:Dgm K A2 "__init__" "Foreteller.__init__" yrq Gf Jn)
  (Di:Dgm K A2 "arrive" "Foreteller.arrive" yq7 Jo Jp)
  (Dj:Dgm K A2 "chances" "Foreteller.chances" yqx Jq Jr)
  (Cp:Dgm K A2 "chance" "Foreteller.chance" yps Js Jt)
  (Ca:Dgm K A2 "see" "Foreteller.see" yru Ju Jv)
  (Gy:Dgm K A2 "step" "Foreteller.step" yrw Jw Jx)
  (Gz:Dgm K A2 "step_in_sign" "Foreteller.step_in_sign" yp4 Jy Jz)
  (Eo:Dgf K mg "bits_of" ypu K1 K2)
  (Ep:Dgf K mg "decisions_of" ypt K3 K4)
  (Er:Dgf K mg "written" yqd K5 K6)
  (Cq:Dgf K mg "first_block" yq2 K7 K8)
  (D8:Dgm K A3 "__init__" "Span.__init__" yq9 Gg K9)
  (Dk:Dgm K A3 "cut" "Span.cut" yqr Ka Kb)
  (Cr:Dgm K A3 "narrow" "Span.narrow" yrm Kc Kd)
  (Hb:Dgm K A3 "holds_block" "Span.holds_block" ypm Ke Kg)
  (Cs:Dgm K A3 "told" "Span.told" yp1 Kh Ki)
  (Es:Dgm K Ac "__init__" "Seeker.__init__" yp2 Gh Kj)
  (Dl:Dgm K Ac "follow" "Seeker.follow" yrb Kk Kl)
  (Hc:Dgm K Ac "byte_at" "Seeker.byte_at" yqq Km Kn)
  (Hd:Dgm K Ac "bit" "Seeker.bit" yro Ko Kp)
  (He:Dgm K Ac "told" "Seeker.told" yra Kq Kr)
  (Et:Dgf K mg "press_by" yrn Ks Kt)
  (Ct:Dgf K mg "bit_by" yq8 Ku Kv)
  (Eu:Dgf K mg "sign_by" yqu Kw Kx)
  (Ev:Dgf K mg "text_by" yrx Ky Kz)
  (Ew:Dgf K mg "read_by" yqw L1 L6)
  (D9:Dgm K A1 "__init__" "Chain.__init__" ypo Gi L7)
  (Dm:Dgm K A1 "grow" "Chain.grow" yqn L8 L9)
  (Hf:Dgm K A1 "press" "Chain.press" ypy La Lb)
  (Hg:Dgm K A1 "read" "Chain.read" yq6 Lc Ld)
  (Ex:Dgf K mg "is_name" yqz Le Lf)
  (C5:Dgf K mg "checked_name" yqt Lg Lh)
  (Ey:Dgf K mg "check_base" yqp Li Lj)
  (Ez:Dgm K A6 "__init__" "Piece.__init__" ypv Gj Lk)
  (Qd:W.findIn K (.ref A0) "__init__"=some (some (.ref D6)))
  (Qe:W.isFn K (.ref D6)=true)
  (Qf:K.lookup D6=some ⟨oc_q68,od_q68,.func (W.fnOf "__init__" "Store.__init__" (w8 yfi) (wv yfi) (yh yfi) (.ref Lm) kV_q68 dc_q68 pm_q68 an_q68 cd_q68 ct_q68),sl_q68⟩)
  (Nx:K.lookup Lm=some ⟨.type "tuple",Do_q68,.seq #[.int 1000 Cm] Dn_q68,Ds_q68⟩)
  (Qg:W.codeIn K cd_q68 "Store.__init__"=true)
  (Qh:W.keepIn K (.ref D6)=true)
  (Dn:Dgm K A0 "told_looks" "Store.told_looks" ypp Ln Lo)
  (Hh:Dgm K A0 "most_signs" "Store.most_signs" yrt Lp Lq)
  (Hi:Dgm K A0 "names" "Store.names" yqs Lr Ls)
  (Qi:W.findIn K (.ref A0) "put"=some (some (.ref D7)))
  (Qj:W.isFn K (.ref D7)=true)
  (Qk:K.lookup D7=some ⟨oc_q72,od_q72,.func (W.fnOf "put" "Store.put" (w8 yfh) (wv yfh) (yh yfh) (.ref Lu) kV_q72 dc_q72 pm_q72 an_q72 cd_q72 ct_q72),sl_q72⟩)
  (Ny:K.lookup Lu=some ⟨.type "tuple",Do_q72,.seq #[.none] Dn_q72,Ds_q72⟩)
  (Ql:W.codeIn K cd_q72 "Store.put"=true)
  (P6:W.keepIn K (.ref D7)=true)
  (Hj:Dgm K A0 "check_length" "Store.check_length" yqv Lv Lx)
  (Hk:Dgm K A0 "check_room" "Store.check_room" yqb Ly Lz)
  (Cb:Dgm K A0 "piece_at" "Store.piece_at" yqy M0 M4)
  (Do:Dgm K A0 "links_to" "Store.links_to" yrs M5 M6)
  (Dp:Dgm K A0 "chain_to" "Store.chain_to" yph M7 M8)
  (Hl:Dgm K A0 "texts_to" "Store.texts_to" yqf M9 Ma)
  (Hm:Dgm K A0 "text_of" "Store.text_of" yqh Mb Mc)
  (Hn:Dgm K A0 "bytes_of" "Store.bytes_of" ypw Md Me)
  (Ho:Dgm K A0 "base_of" "Store.base_of" yry Mf Mg)
  (Aw:Dgf K mg "_law_mixed" yp8 Mh Mi)
  (F0:Dgf K mg "_law_looks" yqc Mj Ml)
  (F7:Dgf K mg "_law_text" yrj Mm Mn)
  (F8:Dgf K mg "_law_names" yqe Mo Mq)
  (F9:Dgf K mg "_law_learned_of" yrh Mr Ms)
  (Cu:Dgf K mg "_law_bits" yqj Mt Mu)
  (Fa:Dgf K mg "_law_pressed" yrr Mv Mw)
  (Fb:Dgf K mg "_law_put" yrk Mx My)
  (Fc:Dgf K mg "_law_told" yqg Mz N0)
  (Hq:Dgf K mg "law" yqm Nl Gk)
  (I8:KC K A9)
  (Al:FN K A9 "noughts")
  (B6:FN K A9 "ones")
  (Fu:KC K A8)
  (Aq:FN K A8 "held")
  (Nz:KC K Af)
  (Bj:FN K Af "last")
  (Ar:FN K Af "length")
  (Pl:KC K Br)
  (By:FN K Br "kept")
  (I9:KC K Aa)
  (Bq:FN K Aa "look")
  (Ba:FN K Aa "slots")
  (Ia:KC K A3)
  (Bk:FN K A3 "low")
  (As:FN K A3 "width")
  (B8:FN K A3 "size")
  (Pm:KC K Ac)
  (Ci:FN K Ac "data")
  (Cj:FN K Ac "span")
  (B9:FN K Ac "number")
  (At:FN K Ac "reached")
  (Pn:KC K A2)
  (Bm:FN K A2 "looks")
  (C3:FN K A2 "books")
  (C4:FN K A2 "mixer")
  (Bn:FN K A2 "ended")
  (Bo:FN K A2 "place")
  (Au:FN K A2 "present")
  (Fv:KC K A1)
  (Ai:FN K A1 "foreteller")
  (Ay:FN K A1 "links")
  (Az:FN K A1 "texts")
  (Fw:KC K A6)
  (Bb:FN K A6 "base")
  (Bc:FN K A6 "data")
  (Fx:KC K A0)
  (An:FN K A0 "looks")
  (Bd:FN K A0 "most")
  (Av:FN K A0 "pieces")
  (Ao:FN K A0 "chain")
  (Px:XCls K Gm)
  (Pg:XMk K Gm)
  (Py:XCls K Fh)
  (Ph:XMk K Fh)
  (Hs:XCls K B0)
  (Dq:XMk K B0)
  (Pz:XCls K De)
  (Pi:XMk K De)
  (Q0:XCls K Bx)
  (Pj:XMk K Bx)
  (Q1:XCls K Fi)
  (Ou:XMk K Fi)
  (Q2:XCls K Fj)
  (Ov:XMk K Fj)
  (Ht:XCls K Ah)
  (Dr:XMk K Ah)
  (Fd:XCls K Aj)
  (D4:XMk K Aj)
  (N2:XCls K Ax)
  (Fr:XMk K Ax)
  (Np:XCls K C7)
  (I3:XMk K C7)
  (Fe:XCls K A7)
  (D5:XMk K A7)
  (A5:GZ K "isinstance")
  (Ff:GZ K "int")
  (I4:GZ K "bool")
  (Ab:GZ K "list")
  (Da:GZ K "all")
  (Ae:GZ K "len")
  (Hu:GZ K "min")
  (Fg:GZ K "max")
  (Hv:GZ K "str")
  (Ck:GZ K "tuple")
  (Hw:GZ K "zip")
  (Ds:GZ K "sum")
  (Ap:GZ K "range")
  (Nq:GZ K "set")
  (P3:GV K "LEAST" (.int 32768 Fk))
  (Qm:GV K "ONE" (.int 16777216 Nm))
  (Fz:GV K "MOST_SIGNS" (.int 1000 Bz))
  (G0:GV K "MOST_BYTES" (.int 12000 C0))
  (Dw:GV K "MOST_COUNTED" (.int 255 Be))
  (Ib:GV K "FARTHEST" (.int 8 Cl))
  (E8:GV K "MOST_PLACES" (.int 4 Bt))
  (G8:GV K "MOST_LOOKS" (.int 6 C1))
  (Nh:GV K "NO_SIGN" (.int 256 D2))
  (Dx:GV K "FIRST_WEIGHT" (.int 1099511627776 Bf))
  (Hz:GV K "OWN_PARTS" (.int 31 C8))
  (Dy:GV K "MOST_FIGURES" (.int 48 Bg))
  (I0:GV K "NODES_END" (.int 256 C9))
  (E9:GV K "FIRST_WIDTH" (.int 1099511627776 Bu))
  (G9:GV K "FIRST_SIZE" (.int 5 C2))
  (Ea:GV K "LEAST_WIDTH" (.int 4294967296 Bv))
  (Dz:GV K "MOST_LETTERS" (.int 8 Bh))
  (Ni:GV K "LETTERS" (.str "abcdefghijklmnopqrstuvwxyz" D3))
  (Eb:GV K "MOST_PIECES" (.int 60 Bw))
  (O0:GV K "KINDS" (.ref Cg))
  (O4:K.lookup Cg=some ⟨.type "tuple",wd_KINDS,.seq #[.str "even" wt_KINDS_0,.str "quick" wt_KINDS_1,.str "run" wt_KINDS_2] wn_KINDS,ws_KINDS⟩)
  (Nj:GV K "WORTHS" (.ref Bi))
  (Nk:K.lookup Bi=some ⟨.type "tuple",wd_WORTHS,.seq #[.int 128 wt_WORTHS_0,.int 64 wt_WORTHS_1,.int 32 wt_WORTHS_2,.int 16 wt_WORTHS_3,.int 8 wt_WORTHS_4,.int 4 wt_WORTHS_5,.int 2 wt_WORTHS_6,.int 1 wt_WORTHS_7] wn_WORTHS,ws_WORTHS⟩)
 :∃ fd:FuncData,(∀ (s:Shared) (v:Value),BindsTo s fd ⟨[v],[]⟩ [("_law_script",v)])/\∀ base:Heap,K.In base->base.Ns mainGlobals mg->wa l.prog w K mg base CX0 16 fa fd ["_law_script"] (ybb K):=by
 have e:=hfa.symm.trans Hq.m;cases e;have a:=yhg (st:=yfi) Qf Qg Qh;have b:=yhg (st:=yfh) Qk Ql P6;have T:Txt K mg ⟨O5,O6,O7,O8,O9,Oa,Ob,Oc,Od,Oe,Of,Og,Oh,Oi,Oj,Ol,Om,On,Ic,Ie,If,Ig,Ga,Ih,Ii,Ij,Ik,Il,Gb,Im,Io,Ip,Iq,Ir,Gc,Is,Iu,Iv,Ix,Iy,Iz,J0,J1,J2,J3,J4,J5,J6,J7,J8,J9,Ja,Jb,Jc,Jd,Je,Gd,Jf,Jg,Jh,Ge,Ji,Jj,Jk,Jl,Jm,Gf,Jn,Jo,Jp,Jq,Jr,Js,Jt,Ju,Jv,Jw,Jx,Jy,Jz,K1,K2,K3,K4,K5,K6,K7,K8,Gg,K9,Ka,Kb,Kc,Kd,Ke,Kg,Kh,Ki,Gh,Kj,Kk,Kl,Km,Kn,Ko,Kp,Kq,Kr,Ks,Kt,Ku,Kv,Kw,Kx,Ky,Kz,L1,L6,Gi,L7,L8,L9,La,Lb,Lc,Ld,Le,Lf,Lg,Lh,Li,Lj,Gj,Lk,D6,_,Lm,Cm,Ln,Lo,Lp,Lq,Lr,Ls,D7,_,Lu,Lv,Lx,Ly,Lz,M0,M4,M5,M6,M7,M8,M9,Ma,Mb,Mc,Md,Me,Mf,Mg,Mh,Mi,Mj,Ml,Mm,Mn,Mo,Mq,Mr,Ms,Mt,Mu,Mv,Mw,Mx,My,Mz,N0,fa,Gk,A9,A8,Af,Br,Aa,A3,Ac,A2,A1,A6,A0,Gm,Fh,B0,De,Bx,Fi,Fj,Ah,Aj,Ax,C7,A7,Fk,Nm,Bz,C0,Be,Cl,Bt,C1,D2,Bf,C8,Bg,C9,Bu,C2,Bv,Bh,D3,Bw,Cg,Bi⟩:=⟨
  C6.d1 fun _ _ _ _ _ _ _=>rfl,
  N3.d1 fun _ _ _ _ _ _ _=>rfl,
  N4.d1 fun _ _ _ _ _ _ _=>rfl,
  N5.d1 fun _ _ _ _ _ _ _=>rfl,
  Fl.d2 fun _ _ _ _ _ _ _ _=>rfl,
  Fm.d1 fun _ _ _ _ _ _ _=>rfl,
  N6.d1 fun _ _ _ _ _ _ _=>rfl,
  N7.d1 fun _ _ _ _ _ _ _=>rfl,
  Dc.d1 fun _ _ _ _ _ _ _=>rfl,
  Ak.d1 fun _ _ _ _ _ _ _=>rfl,
  Ec.d2 fun _ _ _ _ _ _ _ _=>rfl,
  Ed.d1 fun _ _ _ _ _ _ _=>rfl,
  Gn.d1 fun _ _ _ _ _ _ _=>rfl,
  Gp.d2 fun _ _ _ _ _ _ _ _=>rfl,
  Ee.d1 fun _ _ _ _ _ _ _=>rfl,
  Gq.d1 fun _ _ _ _ _ _ _=>rfl,
  Gr.d2 fun _ _ _ _ _ _ _ _=>rfl,
  Ef.d1 fun _ _ _ _ _ _ _=>rfl,
  Gs.d1 fun _ _ _ _ _ _ _=>rfl,
  Gt.d2 fun _ _ _ _ _ _ _ _=>rfl,
  Eg.d1 fun _ _ _ _ _ _ _=>rfl,
  Eh.d1 fun _ _ _ _ _ _ _=>rfl,
  Ei.d1 fun _ _ _ _ _ _ _=>rfl,
  Ej.d1 fun _ _ _ _ _ _ _=>rfl,
  Cn.d1 fun _ _ _ _ _ _ _=>rfl,
  Co.d1 fun _ _ _ _ _ _ _=>rfl,
  Ek.d2 fun _ _ _ _ _ _ _ _=>rfl,
  El.d3 fun _ _ _ _ _ _ _ _ _=>rfl,
  Em.d2 fun _ _ _ _ _ _ _ _=>rfl,
  Gu.d3 fun _ _ _ _ _ _ _ _ _=>rfl,
  En.d2 fun _ _ _ _ _ _ _ _=>rfl,
  Gv.d2 fun _ _ _ _ _ _ _ _=>rfl,
  Gw.d3 fun _ _ _ _ _ _ _ _ _=>rfl,
  Dh.d2 fun _ _ _ _ _ _ _ _=>rfl,
  Di.d1 fun _ _ _ _ _ _ _=>rfl,
  Dj.d1 fun _ _ _ _ _ _ _=>rfl,
  Cp.d1 fun _ _ _ _ _ _ _=>rfl,
  Ca.d2 fun _ _ _ _ _ _ _ _=>rfl,
  Gy.d2 fun _ _ _ _ _ _ _ _=>rfl,
  Gz.d2 fun _ _ _ _ _ _ _ _=>rfl,
  Eo.d1 fun _ _ _ _ _ _ _=>rfl,
  Ep.d1 fun _ _ _ _ _ _ _=>rfl,
  Er.d2 fun _ _ _ _ _ _ _ _=>rfl,
  Cq.d2 fun _ _ _ _ _ _ _ _=>rfl,
  D8.d1 fun _ _ _ _ _ _ _=>rfl,
  Dk.d2 fun _ _ _ _ _ _ _ _=>rfl,
  Cr.d3 fun _ _ _ _ _ _ _ _ _=>rfl,
  Hb.d2 fun _ _ _ _ _ _ _ _=>rfl,
  Cs.d1 fun _ _ _ _ _ _ _=>rfl,
  Es.d2 fun _ _ _ _ _ _ _ _=>rfl,
  Dl.d1 fun _ _ _ _ _ _ _=>rfl,
  Hc.d2 fun _ _ _ _ _ _ _ _=>rfl,
  Hd.d2 fun _ _ _ _ _ _ _ _=>rfl,
  He.d1 fun _ _ _ _ _ _ _=>rfl,
  Et.d2 fun _ _ _ _ _ _ _ _=>rfl,
  Ct.d2 fun _ _ _ _ _ _ _ _=>rfl,
  Eu.d2 fun _ _ _ _ _ _ _ _=>rfl,
  Ev.d3 fun _ _ _ _ _ _ _ _ _=>rfl,
  Ew.d3 fun _ _ _ _ _ _ _ _ _=>rfl,
  D9.d2 fun _ _ _ _ _ _ _ _=>rfl,
  Dm.d3 fun _ _ _ _ _ _ _ _ _=>rfl,
  Hf.d3 fun _ _ _ _ _ _ _ _ _=>rfl,
  Hg.d4 fun _ _ _ _ _ _ _ _ _ _=>rfl,
  Ex.d1 fun _ _ _ _ _ _ _=>rfl,
  C5.d1 fun _ _ _ _ _ _ _=>rfl,
  Ey.d1 fun _ _ _ _ _ _ _=>rfl,
  Ez.d3 fun _ _ _ _ _ _ _ _ _=>rfl,
  a,
  yi5.binds (ps:=["self","looks","most"]) (ds:=[.int 1000 Cm]) (j:=2) rfl a Nx rfl fun _ _ _ _ _ _ c d=>match c,d with | [_,_],_=>⟨_,rfl,rfl⟩,
  yi5.binds (ps:=["self","looks","most"]) (ds:=[]) (j:=3) rfl a Nx rfl fun _ _ _ _ _ _ c d=>match c,d with | [_,_,_],_=>⟨_,rfl,rfl⟩,
  Dn.d1 fun _ _ _ _ _ _ _=>rfl,
  Hh.d1 fun _ _ _ _ _ _ _=>rfl,
  Hi.d1 fun _ _ _ _ _ _ _=>rfl,
  b,
  yi5.binds (ps:=["self","name","text","base"]) (ds:=[.none]) (j:=3) rfl b Ny rfl fun _ _ _ _ _ _ c d=>match c,d with | [_,_,_],_=>⟨_,rfl,rfl⟩,
  yi5.binds (ps:=["self","name","text","base"]) (ds:=[]) (j:=4) rfl b Ny rfl fun _ _ _ _ _ _ c d=>match c,d with | [_,_,_,_],_=>⟨_,rfl,rfl⟩,
  ⟨Qi,Qj,P6⟩,
  Hj.d2 fun _ _ _ _ _ _ _ _=>rfl,
  Hk.d3 fun _ _ _ _ _ _ _ _ _=>rfl,
  Cb.d2 fun _ _ _ _ _ _ _ _=>rfl,
  Do.d2 fun _ _ _ _ _ _ _ _=>rfl,
  Dp.d2 fun _ _ _ _ _ _ _ _=>rfl,
  Hl.d2 fun _ _ _ _ _ _ _ _=>rfl,
  Hm.d2 fun _ _ _ _ _ _ _ _=>rfl,
  Hn.d2 fun _ _ _ _ _ _ _ _=>rfl,
  Ho.d2 fun _ _ _ _ _ _ _ _=>rfl,
  Aw.d2 fun _ _ _ _ _ _ _ _=>rfl,
  F0.d2 fun _ _ _ _ _ _ _ _=>rfl,
  F7.d3 fun _ _ _ _ _ _ _ _ _=>rfl,
  F8.d1 fun _ _ _ _ _ _ _=>rfl,
  F9.d2 fun _ _ _ _ _ _ _ _=>rfl,
  Cu.d1 fun _ _ _ _ _ _ _=>rfl,
  Fa.d3 fun _ _ _ _ _ _ _ _ _=>rfl,
  Fb.d7 fun _ _ _ _ _ _ _ _ _ _ _ _ _=>rfl,
  Fc.d4 fun _ _ _ _ _ _ _ _ _ _=>rfl,
  Hq.d1 fun _ _ _ _ _ _ _=>rfl,
  I8.cls,
  W.mg_of X G Oy,
  ⟨I8.mk',Ed.m.1,Ed.m.2,I8.kc⟩,
  Al,
  B6,
  Fu.cls,
  W.mg_of X G Nr,
  ⟨Fu.mk',Ee.m.1,Ee.m.2,Fu.kc⟩,
  Aq,
  Nz.cls,
  W.mg_of X G Pk,
  ⟨Nz.mk',Ef.m.1,Ef.m.2,Nz.kc⟩,
  Bj,
  Ar,
  Pl.cls,
  W.mg_of X G Q3,
  ⟨Pl.mk',En.m.1,En.m.2,Pl.kc⟩,
  By,
  I9.cls,
  W.mg_of X G Oz,
  ⟨I9.mk',Em.m.1,Em.m.2,I9.kc⟩,
  Bq,
  Ba,
  Ia.cls,
  W.mg_of X G P0,
  ⟨Ia.mk',D8.m.1,D8.m.2,Ia.kc⟩,
  Bk,
  As,
  B8,
  Pm.cls,
  W.mg_of X G Q4,
  ⟨Pm.mk',Es.m.1,Es.m.2,Pm.kc⟩,
  Ci,
  Cj,
  B9,
  At,
  Pn.cls,
  W.mg_of X G Q5,
  ⟨Pn.mk',Dh.m.1,Dh.m.2,Pn.kc⟩,
  Bm,
  C3,
  C4,
  Bn,
  Bo,
  Au,
  Fv.cls,
  W.mg_of X G Nt,
  ⟨Fv.mk',D9.m.1,D9.m.2,Fv.kc⟩,
  Ai,
  Ay,
  Az,
  Fw.cls,
  W.mg_of X G Nu,
  ⟨Fw.mk',Ez.m.1,Ez.m.2,Fw.kc⟩,
  Bb,
  Bc,
  Fx.cls,
  W.mg_of X G Nv,
  ⟨Fx.mk',Qd,Qe,Fx.kc⟩,
  An,
  Bd,
  Av,
  Ao,
  W.mg_of X G Q6,
  W.mg_of X G Q7,
  W.mg_of X G Nf,
  W.mg_of X G Q8,
  W.mg_of X G Q9,
  W.mg_of X G Qa,
  W.mg_of X G Qc,
  W.mg_of X G Ng,
  W.mg_of X G I6,
  W.mg_of X G Nw,
  W.mg_of X G P1,
  W.mg_of X G I7,
  Px,
  Pg,
  Py,
  Ph,
  Hs,
  Dq,
  Pz,
  Pi,
  Q0,
  Pj,
  Q1,
  Ou,
  Q2,
  Ov,
  Ht,
  Dr,
  Fd,
  D4,
  N2,
  Fr,
  Np,
  I3,
  Fe,
  D5,
  W.mg_none_of X G A5,
  W.mg_none_of X G Ff,
  W.mg_none_of X G I4,
  W.mg_none_of X G Ab,
  W.mg_none_of X G Da,
  W.mg_none_of X G Ae,
  W.mg_none_of X G Hu,
  W.mg_none_of X G Fg,
  W.mg_none_of X G Hv,
  W.mg_none_of X G Ck,
  W.mg_none_of X G Hw,
  W.mg_none_of X G Ds,
  W.mg_none_of X G Ap,
  W.mg_none_of X G Nq,
  W.mg_of X G P3,
  W.mg_of X G Qm,
  W.mg_of X G Fz,
  W.mg_of X G G0,
  W.mg_of X G Dw,
  W.mg_of X G Ib,
  W.mg_of X G E8,
  W.mg_of X G G8,
  W.mg_of X G Nh,
  W.mg_of X G Dx,
  W.mg_of X G Hz,
  W.mg_of X G Dy,
  W.mg_of X G I0,
  W.mg_of X G E9,
  W.mg_of X G G9,
  W.mg_of X G Ea,
  W.mg_of X G Dz,
  W.mg_of X G Ni,
  W.mg_of X G Eb,
  W.mg_of X G O0,
  fun H=>.inr ⟨_,_,_,O4,rfl,rfl,(by show 3 <= sizeLine; decide),(.cons ⟨_,rfl⟩ (.cons ⟨_,rfl⟩ (.cons ⟨_,rfl⟩ .nil)))⟩,
  W.mg_of X G Nj,
  fun H=>.inr ⟨_,_,_,Nk,rfl,rfl,(by show 8 <= sizeLine; decide),(.cons ⟨_,rfl⟩ (.cons ⟨_,rfl⟩ (.cons ⟨_,rfl⟩ (.cons ⟨_,rfl⟩ (.cons ⟨_,rfl⟩ (.cons ⟨_,rfl⟩ (.cons ⟨_,rfl⟩ (.cons ⟨_,rfl⟩ .nil))))))))⟩⟩
 refine ⟨Gk,fun s v=>?_,fun base _ _=>ywn T⟩;obtain ⟨_,_,_,_,_,_,_,_,_,rfl,_,_⟩:=Hq.F.ex;exact .of_eq rfl
theorem walk {l:W.OpenLaw} {q:Program} {loose:List Str} {XP:(Str->Option Value)->Heap->Prop} {YP:World->Heap->Prop} {d:DefRec} {K:Params->W.Frag} (hn:l.most=some 63) (hdf:d.params.defaults=[])
  (hY:∀ (w:World) (h:Heap),YP w h->(K w.params).In h)
  (F:∀ (w:World) (mg:Str->Option Value) (fa:Addr) (h:Heap),(K w.params).In h->h.Ns mainGlobals mg->mg d.name=some (.ref fa) ->
   ∃ fd:FuncData,(∀ (s:Shared) (u:Value),BindsTo s fd ⟨[u],[]⟩ [("_law_script",u)])/\∀ base:Heap,(K w.params).In base->base.Ns mainGlobals mg->wa l.prog w (K w.params) mg base CX0 16 fa fd ["_law_script"] (ybb (K w.params))) :
  W.WalkO q loose XP YP l.row.toRowW d [] (fun f vs=>PySem.call f vs) :=
 L2.walk_of (n:=63) (k:=16) (x:="_law_script") (CX:=fun _=>CX0) (sp:=fun w=>ybb (K w.params)) hn (by decide) hdf ⟨rfl,by decide,by decide⟩ hY F (fun _ _ a c e _ b=>⟨a,c,rfl,b,e,fun _=>rfl⟩) fun _ _ _ _ _ z=>z
end Law
open PySem PySem.W PyProof.Rows
set_option maxRecDepth 100000 in
set_option maxHeartbeats 0 in
theorem PySem.Challenge.cw_foretell_k40_put_and_told_holds : PySem.Challenge.rw_foretell_k40_put_and_told.Holds := by
 refine H0.2 ?_
 unfold H0
 dsimp only []
 k_fill
 refine Law.walk (l := PySem.Challenge.rw_foretell_k40_put_and_told) rfl rfl (fun w h Y => PySem.W.kIn_of Y) ?F
 case F =>
  intro w mg fa h KX G hmg
  refine' Law.all_mk KX G hmg ?_ ?_ ?_ ?_ ?_ ?_ ?_ ?_ ?_ ?_ ?_ ?_ ?_ ?_ ?_ ?_ ?_ ?_ ?_ ?_ ?_ ?_ ?_ ?_ ?_ ?_ ?_ ?_ ?_ ?_ ?_ ?_ ?_ ?_ ?_ ?_ ?_ ?_ ?_ ?_ ?_ ?_ ?_ ?_ ?_ ?_ ?_ ?_ ?_ ?_ ?_ ?_ ?_ ?_ ?_ ?_ ?_ ?_ ?_ ?_ ?_ ?_ ?_ ?_ ?_ ?_ ?_ ?_ ?_ ?_ ?_ ?_ ?_ ?_ ?_ ?_ ?_ ?_ ?_ ?_ ?_ ?_ ?_ ?_ ?_ ?_ ?_ ?_ ?_ ?_ ?_ ?_ ?_ ?_ ?_ ?_ ?_ ?_ ?_ ?_ ?_ ?_ ?_ ?_ ?_ ?_ ?_ ?_ ?_ ?_ ?_ ?_ ?_ ?_ ?_ ?_ ?_ ?_ ?_ ?_ ?_ ?_ ?_ ?_ ?_ ?_ ?_ ?_ ?_ ?_ ?_ ?_ ?_ ?_ ?_ ?_ ?_ ?_ ?_ ?_ ?_ ?_ ?_ ?_ ?_ ?_ ?_ ?_ ?_ ?_ ?_ ?_ ?_ ?_ ?_ ?_ ?_ ?_ ?_ ?_ ?_ ?_ ?_ ?_ ?_ ?_ ?_ ?_ ?_ ?_ ?_ ?_ ?_ ?_ ?_ ?_ ?_ ?_ ?_ ?_ ?_ ?_ ?_ ?_ ?_ ?_ ?_ ?_ ?_ ?_ ?_ ?_ ?_ ?_ ?_ ?_ ?_ ?_ ?_ ?_ ?_ ?_ ?_ ?_ ?_ ?_ ?_ ?_ ?_ ?_ ?_ ?_ ?_ ?_ ?_ ?_ ?_ ?_ ?_ ?_ ?_ ?_ ?_ ?_ ?_ ?_
  any_goals first | (refine' L2.dgf_mk KX G ?_ ?_ ?_ ?_; any_goals k_is; done) | (refine' L2.dgm_mk ?_ ?_ ?_ ?_ ?_; any_goals k_is; done) | (refine' L2.XCls.mk ?_ ?_ ?_ ?_ ?_ ?_ ?_ ?_ <;> k_is) | (refine' L2.KC.mk ?_ ?_ ?_ ?_ ?_ ?_ <;> k_is) | k_is | kit_is | k_exc | (with_reducible show _ = _; first | k_is | k_exc)
#print axioms PySem.Challenge.cw_foretell_k40_put_and_told_holds
