import PyProof.Rows.All
import Wide.All
import OpenK.AllK
import Wide.FinOn
import PyProof.EqAt
import PyProof.EqKinds
import PyProof.TupleCall
import Lean
import PySem.Challenge.RW_foretell_k46_drop
set_option Elab.async false
set_option linter.all false
set_option compiler.extract_closed false
set_option maxRecDepth 100000
set_option maxHeartbeats 4000000
namespace PySem.W.Fast
local macro_rules
 | `(#synth $k:ident $ns*)=>do return Lean.mkNullNode ((<-ns.mapM fun n=>`(theorem $(Lean.mkIdent (.mkSimple s!"tw{((`H0).str s!"{k.getId}_{n.raw.isNatLit?.get!}").hash}")) : True:=⟨⟩)).map (·.raw))
 | `(#synth $k:ident)=>`(theorem $(Lean.mkIdent (.mkSimple s!"tw{k.getId.hash}")) : True:=⟨⟩)
#synth PySem.Challenge.pw_foretell_k46_drop
#synth heap 1326 39 46
#synth tree 1325 1186 1272 1046 1004 953 898 840 775 746 659 612 561 516 466 423 380 343 298 250 235 220 205 190 175 160 145 130 115 100 85 70
#synth view 39
#synth sts 1276 1047 899 660 517 613 776 299 841 562 467 954 747 251 1005 381 424 344 49 116 101 191 71 161 221 176 146 86 131 206
#synth o 1276 1047 1005 954 899 841 776 747 660 613 562 517 467 1325 1323 424 381 344 299 1318 1316 645 1294 643 251 1292 1306 1289 1304 1287 1301 1299 1139 1313 236 1231 1092 1181 1172 1137 1311 1134 537 221 1170 1051 673 1229 1090 206 1132 1271 535 812 671 191 549 953 176 810 547 1252 1113 161 951 946 454 146 1111 1250 718 944 640 131 877 298 927 1011 741 452 919 411 591 116 905 584 716 638 875 296 664 1009 1063 1202 101 833 925 561 497 990 516 917 409 903 589 939 678 86 582 856 732 559 831 1266 1190 1127 1061 1200 761 988 514 71 863 495 937 983 835 676 1259 1120 1284 314 544 307 854 768 598 730 1125 1264 49 1106 1245 490 725 893 861 780 759 826 981 321 912 1118 1257 976 312 766 305 999 1282 542 654 596 607 969 791 845 683 1243 1104 342 488 723 824 934 1153 870 1167 404 958 754 617 319 566 974 910 1018 1099 1238 1146 328 967 556 789 681 286 272 375 335 628 429 386 1321 472 525 805 340 1151 932 1165 1160 690 402 752 868 1039 463 506 420 1144 1016 1097 1236 348 532 326 554 577 1041 333 626 284 997 270 483 440 711 803 397 1179 366 1158 1084 1223 523 688 293 775 279 1025 1309 1028 1037 891 530 575 697 635 1077 1216 739 1070 1209 652 461 359 819 884 605 798 418 504 704 373 481 66 395 60 447 709 121 196 76 91 1082 1221 106 226 181 166 136 211 256 438 995 151 241 1177 364 253 238 223 208 193 178 163 217 127 82 202 142 247 97 232 187 112 262 172 157 889 148 291 277 133 1023 118 773 103 88 1214 1075 73 128 695 67 1207 1068 113 233 633 173 98 702 83 203 158 737 188 357 263 143 218 459 650 817 603 740 445 882 371 248 502 416 796 949 1227 1088 57 1297 731 1105 1244 923 825 696 1166 1069 1215 1208 1076 996 1126 710 1265 1152 1178 1098 689 634 1159 1237 1133 1272 703 1145 862 738 855 1112 1251 869 627 682 672 883 724 1258 1119 717 1222 890 576 396 1083 1201 1062 989 968 1138 818 651 439 446 597 403 677 358 975 876 453 583 982 986 410 365 604 797 790 1038 590 417 482 489 460 811 1091 1230 372 832 496 639 1171 503 804 644 313 760 774 306 1300 1017 904 327 1024 320 297 548 555 271 1283 334 285 918 524 1312 292 543 515 767 531 1288 1293 341 560 952 278 892 536 926 1305 753 1317 915 945 1180 938 1010 933 587 911 63 908 942 56 1324 124 808 594 169 45 667 580 979 79 199 109 1095 1234 1269 94 1130 229 259 184 848 214 1054 620 1193 389 154 139 961 569 464 469 742 432 1031 351 783 421 426 475 244 507 383 655 1182 1000 894 1280 1042 836 376 608 764 55 998 930 873 450 834 1123 1262 829 972 1059 343 1198 757 1035 1109 1248 714
end PySem.W.Fast
section
open PySem PySem.W PyProof.Rows
local macro_rules | `(tactic| refine $f:ident $as*)=>do
 unless f.getId==`PySem.W.holds_open do Lean.Macro.throwUnsupported
 `(tactic| (refine ($f $as*); case $(Lean.mkIdent `hc):ident=>exact $(Lean.mkIdent `hP)))
set_option maxRecDepth 100000 in
set_option maxHeartbeats 0 in
def H0:PSigma fun P:Prop=>P->PySem.Challenge.rw_foretell_k46_drop.Holds:=by
 refine' ⟨_,fun hP=>?_⟩
 rotate_left
 w_on; o_law; k_head
 w_witness2
end
section
open PySem PySem.Spec PyProof.Rows
theorem bH:type_of% @List.length_map:=@List.length_map
theorem bI:type_of% @wpAny_bind:=@wpAny_bind
theorem bJ:type_of% @List.getElem?_eq_getElem:=@List.getElem?_eq_getElem
theorem bK:type_of% @Heap.get?_push_of_some:=@Heap.get?_push_of_some
theorem bL:type_of% @Nat.le_refl:=@Nat.le_refl
theorem bM:type_of% @List.mem_map:=@List.mem_map
theorem bN:type_of% @List.getElem?_map:=@List.getElem?_map
theorem bO:type_of% @wpAny_pure:=@wpAny_pure
theorem bP:type_of% @List.length_append:=@List.length_append
theorem bQ:type_of% @Heap.lt_size:=@Heap.lt_size
theorem bR:type_of% @decide_eq_true:=@decide_eq_true
theorem bS:type_of% @Bool.false_ne_true:=@Bool.false_ne_true
theorem bT:type_of% @List.size_toArray:=@List.size_toArray
theorem bU:type_of% @Heap.get?_push_size:=@Heap.get?_push_size
theorem bV:type_of% @decide_eq_false:=@decide_eq_false
theorem bW:type_of% @List.mem_cons:=@List.mem_cons
theorem bX:type_of% @Option.some.inj:=@Option.some.inj
theorem bY:type_of% @List.mem_append_right:=@List.mem_append_right
theorem bZ:type_of% @List.mem_singleton:=@List.mem_singleton
theorem cb:type_of% @Nat.zero_le:=@Nat.zero_le
theorem cc:type_of% @List.mem_of_getElem?:=@List.mem_of_getElem?
theorem cg:type_of% @List.length_take:=@List.length_take
theorem ci:type_of% @Nat.ne_of_lt:=@Nat.ne_of_lt
theorem cj:type_of% @List.map_append:=@List.map_append
theorem ck:type_of% @Nat.lt_of_lt_of_le:=@Nat.lt_of_lt_of_le
theorem cm:type_of% @List.length_range:=@List.length_range
theorem cn:type_of% @Nat.le_trans:=@Nat.le_trans
theorem cq:type_of% @Bool.and_eq_true:=@Bool.and_eq_true
theorem cr:type_of% @List.mem_append:=@List.mem_append
theorem cu:type_of% @List.map_map:=@List.map_map
theorem cw:type_of% @Nat.not_lt_zero:=@Nat.not_lt_zero
theorem cy:type_of% @List.length_cons:=@List.length_cons
theorem cz:type_of% @List.mem_cons_of_mem:=@List.mem_cons_of_mem
theorem cA:type_of% @List.map_cons:=@List.map_cons
theorem cB:type_of% @List.take_succ_eq_append_getElem:=@List.take_succ_eq_append_getElem
theorem cC:type_of% @List.getElem?_eq_none:=@List.getElem?_eq_none
theorem cD:type_of% @List.getD_eq_getElem?_getD:=@List.getD_eq_getElem?_getD
theorem cE:type_of% @List.getElem_mem:=@List.getElem_mem
theorem cF:type_of% @Int.emod_lt_of_pos:=@Int.emod_lt_of_pos
theorem cG:type_of% @List.mem_cons_self:=@List.mem_cons_self
theorem cH:type_of% @List.replicate_succ:=@List.replicate_succ
theorem cI:type_of% @List.length_singleton:=@List.length_singleton
theorem cJ:type_of% @List.append_assoc:=@List.append_assoc
theorem cK:type_of% @Int.mul_le_mul_of_nonneg_right:=@Int.mul_le_mul_of_nonneg_right
theorem cL:type_of% @List.take_of_length_le:=@List.take_of_length_le
theorem cM:type_of% @List.getElem?_eq_some_iff:=@List.getElem?_eq_some_iff
theorem cN:type_of% @Array.length_toList:=@Array.length_toList
theorem cO:type_of% @Int.emod_nonneg:=@Int.emod_nonneg
theorem cP:type_of% @List.mem_of_mem_take:=@List.mem_of_mem_take
theorem cQ:type_of% @List.mem_range:=@List.mem_range
theorem cR:type_of% @wpAny_truthy_bool:=@wpAny_truthy_bool
theorem cS:type_of% @wpAny_field:=@wpAny_field
theorem cT:type_of% @wpAny_mono:=@wpAny_mono
theorem cU:type_of% @Int.mul_le_mul_of_nonneg_left:=@Int.mul_le_mul_of_nonneg_left
theorem cV:type_of% @List.eq_nil_of_length_eq_zero:=@List.eq_nil_of_length_eq_zero
theorem cX:type_of% @List.mem_filter:=@List.mem_filter
theorem cY:type_of% @Option.map_some:=@Option.map_some
theorem cZ:type_of% @List.getElem?_range:=@List.getElem?_range
theorem c6:type_of% @List.take_length:=@List.take_length
theorem c7:type_of% @List.length_drop:=@List.length_drop
theorem c8:type_of% @List.getElem?_append_right:=@List.getElem?_append_right
theorem da:type_of% @List.nodup_cons:=@List.nodup_cons
theorem db:type_of% @List.mem_append_left:=@List.mem_append_left
theorem de:type_of% @Nat.lt_irrefl:=@Nat.lt_irrefl
theorem df:type_of% @beq_eq_false_iff_ne:=@beq_eq_false_iff_ne
theorem dg:type_of% @List.getElem_map:=@List.getElem_map
theorem dh:type_of% @Nat.lt_succ_self:=@Nat.lt_succ_self
theorem di:type_of% @List.any_eq_true:=@List.any_eq_true
theorem dm:type_of% @List.append_nil:=@List.append_nil
end
namespace L2
open PySem PySem.Spec PyProof.Rows
variable {C a:Addr} {op:CmpOp} {tg:Expr} {fd:FuncData} {h':Heap} {pins:List (Addr × Obj)} {kw:List (Str × Value)} {fp:List Addr} {es:List Expr} {body:List Stmt} {us:List Value} {M:Model} {i t':Nat} {p:Pos} {P:Program} {s':Shared} {mA:Str->Option Value} {u:Value} {E Q:Value->Shared->Prop}
abbrev Key:=Sum Int Str
def Ù:Key->Value->Bool
 | .inl k,v=>Value.isInt k v
 | .inr x,v=>Value.isStrOf x v
def vck (w:World):Key->Int
 | .inl k=>hashInt k
 | .inr x=>hashStr w x
theorem vv:∀ {k:Key} {v:Value},Ù k v=true->(∃ i t,k=Sum.inl i/\v=Value.int i t)\/(∃ x t,k=Sum.inr x/\v=Value.str x t)
 | .inl i,v,h=>by
  obtain ⟨t,e⟩:=Value.isInt_shape (k:=i) (v:=v) h;exact .inl ⟨i,t,rfl,e⟩
 | .inr x,v,h=>by
  obtain ⟨t,e⟩:=Value.isStrOf_shape (x:=x) (v:=v) h;exact .inr ⟨x,t,rfl,e⟩
theorem ygv (i:Int) (t:Tok):Ù (.inl i) (.int i t)=true:=by simp [Ù,Value.isInt]
theorem ygy (x:Str) (t:Tok):Ù (.inr x) (.str x t)=true:=by simp [Ù,Value.isStrOf]
theorem yvx (a b:Int):decide ((Sum.inl a:Key)=Sum.inl b)=(a == b):=by
 by_cases e:a=b
 .subst e; simp
 .have h:¬ (Sum.inl a:Key)=Sum.inl b:=fun q=>e (Sum.inl.inj q);rw [bV h];exact (df.mpr e).symm
theorem yv0 (a b:Str):decide ((Sum.inr a:Key)=Sum.inr b)=decide (a=b):=by
 by_cases e:a=b
 .subst e; simp
 .have h:¬ (Sum.inr a:Key)=Sum.inr b:=fun q=>e (Sum.inr.inj q);rw [bV h,bV e]
theorem yuu (a:Int) (b:Str):decide ((Sum.inl a:Key)=Sum.inr b)=false:=bV (fun q=>nomatch q)
theorem yve (a:Str) (b:Int):decide ((Sum.inr a:Key)=Sum.inl b)=false:=bV (fun q=>nomatch q)
def vx (prog:Program) (w:World):PySem.KeyKind prog w Key where
 is:=Ù
 hash:=vck w
 inj:=fun v a b ha hb=>by
  rcases vv ha with ⟨i,t,rfl,rfl⟩ | ⟨x,t,rfl,rfl⟩
  .rcases vv hb with ⟨j,u,rfl,e⟩ | ⟨y,u,rfl,e⟩
   .injection e with e1 _; rw [e1]
   .exact nomatch e
  .rcases vv hb with ⟨j,u,rfl,e⟩ | ⟨y,u,rfl,e⟩
   .exact nomatch e
   .injection e with e1 _; rw [e1]
 byValue:=fun k v h=>by
  rcases vv h with ⟨i,t,rfl,rfl⟩ | ⟨x,t,rfl,rfl⟩ <;> rfl
 pyHash:=fun hv h=>by
  rcases vv hv with ⟨i,t,rfl,rfl⟩ | ⟨x,t,rfl,rfl⟩
  .exact wpAny_pyHash_int h
  .exact wpAny_pyHash_str h
 eqBool:=fun hu hv h=>by
  rcases vv hu with ⟨i,t,rfl,rfl⟩ | ⟨x,t,rfl,rfl⟩
  .rcases vv hv with ⟨j,u,rfl,rfl⟩ | ⟨y,u,rfl,rfl⟩
   .rw [yvx] at h; exact wpAny_eqBool_int h
   .rw [yuu] at h; exact SeqAt.EqAt.int_str i t y u _ _ _ _ h
  .rcases vv hv with ⟨j,u,rfl,rfl⟩ | ⟨y,u,rfl,rfl⟩
   .rw [yve] at h; exact SeqAt.EqAt.str_int x t j u _ _ _ _ h
   .rw [yv0] at h; exact wpAny_eqBool_str h
 «strs»:=fun k x t v h=>by
  rcases vv h with ⟨i,u,rfl,e⟩ | ⟨y,u,rfl,e⟩
  .exact nomatch e
  .injection e with e1 _;subst e1;cases v <;> rfl
theorem yci (prog:Program) (w:World) (i:Int) (t:Tok):(vx prog w).is (.inl i) (.int i t)=true:=ygv i t
theorem yca (prog:Program) (w:World) (x:Str) (t:Tok):(vx prog w).is (.inr x) (.str x t)=true:=ygy x t
inductive V where
 | non | bl (b:Bool) | int (i:Int) | str (x:Str) | byt (b:Array UInt8) | flt (b:UInt64) | ref (a:Addr) | ty (n:String)
 deriving DecidableEq
variable {vs xs:List V} {v y:V}
def xh:V->Value->Prop
 | .non,u=>u=Value.none
 | .bl b,u=>u=Value.bool b
 | .int i,u=>∃ t,u=Value.int i t
 | .str x,u=>∃ t,u=Value.str x t
 | .byt b,u=>∃ t,u=Value.bytes b t
 | .flt b,u=>∃ t,u=Value.float b t
 | .ref a,u=>u=Value.ref a
 | .ty n,u=>u=Value.type n
abbrev wx:List V->List Value->Prop:=Paired xh
theorem wx.length (r:wx xs us):xs.length=us.length:=Paired.length r
theorem wx.get:∀ {xs:List V} {us:List Value} {i:Nat} {x:V},wx xs us->xs[i]?=some x->∃ u,us[i]?=some u/\xh x u
 | _,_,_,_,.nil,e=>by simp at e
 | _,_,0,_,.cons r _,e=>by simp at e; subst e; exact ⟨_,rfl,r⟩
 | _,_,i+1,x,.cons _ t,e=>by
  obtain ⟨u,b,a⟩:=wx.get (i:=i) (x:=x) t (by simpa using e);exact ⟨u,by simpa using b,a⟩
theorem wx.append:∀ {xs ys:List V} {us ws:List Value},wx xs us->wx ys ws->wx (xs++ys) (us++ws)
 | _,_,_,_,.nil,s=>s
 | _,_,_,_,.cons r t,s=>.cons r (wx.append t s)
theorem wx.take:∀ {xs:List V} {us:List Value} (n:Nat),wx xs us->wx (xs.take n) (us.take n)
 | _,_,0,_=>.nil
 | _,_,_+1,.nil=>.nil
 | _,_,n+1,.cons r t=>.cons r (wx.take n t)
theorem wx.drop:∀ {xs:List V} {us:List Value} (n:Nat),wx xs us->wx (xs.drop n) (us.drop n)
 | _,_,0,r=>r
 | _,_,_+1,.nil=>.nil
 | _,_,n+1,.cons _ t=>wx.drop n t
def ybp:Option V->Option Value->Prop
 | some v,some u=>xh v u
 | none,none=>True
 | _,_=>False
def KV {κ:Type}:List (κ × V)->List (κ × Value)->Prop:=Paired fun (p:κ × V) (q:κ × Value)=>p.1=q.1/\xh p.2 q.2
def kV:Key->V
 | .inl i=>.int i
 | .inr x=>.str x
inductive HO where
 | lst (xs:List V)
 | tup (xs:List V)
 | dK (kvs:List (Key × V)) | dT (kvs:List (List Key × V))
 | set (S:Int->Bool) (n:Nat)
 | ins (C dx:Addr) (fs:List (Str × V))
 | own (x:Addr)
 | xd (fs:List (Str × V))
 | met (f x:Addr)
 | rng (lo hi:Int)
 | frz (o:Obj) (u:HO)
 | tbl (ps:Array Value)
 | ext (φ:Heap->Prop)
abbrev Hp:=Addr->Option HO
variable {H H':Hp}
def upd (H:Hp) (a:Addr) (o:HO):Hp:=fun b=>if b=a then some o else H b
theorem yc {o:HO}:upd H a o a=some o:=by unfold upd; rw [if_pos rfl]
theorem ym {b:Addr} {o:HO} (h:b≠a):upd H a o b=H b:=by unfold upd; rw [if_neg h]
theorem xb {b:Addr} {o u:HO} (h:H a=some o) (h':H b=some u) (d:o≠u):a≠b:=by
 intro e; subst e; rw [h] at h'; exact d (bX h')
theorem yd {b:Addr} {o:HO} (h:H a=some o) (h':H b=none):a≠b:=by
 intro e; subst e; rw [h] at h'; cases h'
section
variable (P:Program) (w:World)
def ww (H:Hp) (h:Heap) (a:Addr):HO->Prop
 | .lst xs=>xs.length <= sizeLine/\∃ (its:List Value) (n:Nat),wx xs its/\h.get? a=some { cls:=.type "list",data:=.seq its.toArray n }
 | .tup xs=>xs.length <= sizeLine/\∃ its:List Value,wx xs its/\IsTup h a its.toArray
 | .dK kvs=>kvs.length <= sizeLine/\(a == sysModules)=false/\∃ vs,KV kvs vs/\h.DictOf (vx P w) a vs
 | .dT kvs=>kvs.length <= sizeLine/\(a == sysModules)=false/\∃ xs:List (List Key × Addr × Value),
   Paired (fun (p:List Key × V) (q:List Key × Addr × Value)=>p.1=q.1/\H q.2.1=some (.tup (p.1.map kV))/\xh p.2 q.2.2) kvs xs /\
   ∃ o es ep,h.get? a=some o/\o.ExactDict/\o.data=.dict es ep/\es.toList=xs.map (entryOfKey (tupleKind (vx P w)))/\(xs.map (·.1)).Nodup
 | .set S n=>h.SetOf (intKind P w) a S n
 | .ins C dx fs=>H dx=some (.own a)/\fs.length <= 1000/\dx≠a/\h.get? a=some (W.instObj C dx) /\
   ∃ mA,h.Ns1 dx mA/\(∀ f,ybp (fs.lookup f) (mA f))/\PySem.Within mA (fs.map (·.1))
 | .own _=>∃ o,h.get? a=some o
 | .xd fs=>∃ mA,h.Ns1 a mA/\∀ f,ybp (fs.lookup f) (mA f)
 | .rng lo hi=>∃ t u v,h.get? a=some { cls:=.type "range",data:=.fields #[.int lo t,.int hi u,.int 1 v] }
 | .frz o u=>h.get? a=some o/\ww H h a u
 | .tbl ps=>h.get? a=some { cls:=.none,data:=.fields ps }
 | .met f x=>h.get? a=some (W.methodObj (.ref f) (.ref x))
 | .ext φ=>φ h/\(∃ o,h.get? a=some o)/\∀ h1 h2:Heap,φ h1->(∀ o,h1.get? a=some o->h2.get? a=some o)->φ h2
def HOk (H:Hp) (h:Heap):Prop:=∀ a o,H a=some o->ww P w H h a o
end
section
variable {w:World} {h:Heap} {o:HO}
theorem ww.lt (x:ww P w H h a o):a < h.objs.size:=by
 cases o with
 | lst xs=>obtain ⟨_,_,_,_,e⟩:=x; exact bQ e
 | tup xs=>obtain ⟨_,_,_,p⟩:=x; exact p.lt
 | dK kvs=>obtain ⟨_,_,_,_,o,_,_,e,_⟩:=x; exact bQ e
 | dT kvs=>obtain ⟨_,_,_,_,o,_,_,e,_⟩:=x; exact bQ e
 | set S n=>obtain ⟨o,_,_,_,e,_⟩:=x; exact bQ e
 | ins C dx fs=>obtain ⟨_,_,_,e,_⟩:=x; exact bQ e
 | own y=>obtain ⟨_,e⟩:=x; exact bQ e
 | xd fs=>obtain ⟨_,⟨_,_,_,e,_⟩,_⟩:=x; exact bQ e
 | rng lo hi=>obtain ⟨_,_,_,e⟩:=x; exact bQ e
 | frz ob u=>obtain ⟨e,_⟩:=x; exact bQ e
 | tbl ps=>exact bQ (show h.get? a=some _ from x)
 | met f y=>exact bQ (show h.get? a=some _ from x)
 | ext φ=>obtain ⟨_,⟨_,e⟩,_⟩:=x; exact bQ e
theorem Paired.mapP {α β:Type} {F G:α->β->Prop}:∀ {l₁:List α} {l₂:List β},Paired F l₁ l₂->(∀ a b,F a b->G a b)->Paired G l₁ l₂
 | _,_,.nil,_=>.nil
 | _,_,.cons r t,f=>.cons (f _ _ r) (Paired.mapP t f)
theorem ww.stay (x:ww P w H h a o) (k:∀ b u,(b=a\/H b=some (.own a))->h.get? b=some u->h'.get? b=some u)
  (ho:∀ b,H b=some (.own a)->H' b=some (.own a)) (ht:∀ b xs,H b=some (.tup xs)->H' b=some (.tup xs)):ww P w H' h' a o:=by
 induction o with
 | lst xs=>obtain ⟨z,j,n,r,e⟩:=x; exact ⟨z,j,n,r,k _ _ (.inl rfl) e⟩
 | tup xs=>obtain ⟨z,j,r,ob,e,c⟩:=x; exact ⟨z,j,r,ob,k _ _ (.inl rfl) e,c⟩
 | dK kvs=>obtain ⟨z,y,A,r,ob,g,i,e,c⟩:=x; exact ⟨z,y,A,r,ob,g,i,k _ _ (.inl rfl) e,c⟩
 | dT kvs =>
  obtain ⟨z,y,xs,r,ob,g,i,e,c⟩:=x;exact ⟨z,y,xs,Paired.mapP r fun p q z=>⟨z.1,ht _ _ z.2.1,z.2.2⟩,ob,g,i,k _ _ (.inl rfl) e,c⟩
 | set S n=>obtain ⟨ob,g,i,t,e,c⟩:=x; exact ⟨ob,g,i,t,k _ _ (.inl rfl) e,c⟩
 | ins C dx fs =>
  obtain ⟨d,z,D,e,m,⟨l,g,i,B,c⟩,r⟩:=x;exact ⟨ho _ d,z,D,k _ _ (.inl rfl) e,m,⟨l,g,i,k _ _ (.inr d) B,c⟩,r⟩
 | own y=>obtain ⟨ob,e⟩:=x; exact ⟨ob,k _ _ (.inl rfl) e⟩
 | xd fs=>obtain ⟨m,⟨l,g,i,e,c⟩,r⟩:=x; exact ⟨m,⟨l,g,i,k _ _ (.inl rfl) e,c⟩,r⟩
 | rng lo hi=>obtain ⟨t,u,v,e⟩:=x; exact ⟨t,u,v,k _ _ (.inl rfl) e⟩
 | frz ob u ih=>obtain ⟨e,q⟩:=x; exact ⟨k _ _ (.inl rfl) e,ih q⟩
 | tbl ps =>
  have e:h.get? a=some { cls:=.none,data:=.fields ps }:=x;show h'.get? a=some { cls:=.none,data:=.fields ps };exact k a _ (.inl rfl) e
 | met f y =>
  have e:h.get? a=some (W.methodObj (.ref f) (.ref y)):=x;show h'.get? a=some (W.methodObj (.ref f) (.ref y));exact k a _ (.inl rfl) e
 | ext φ=>obtain ⟨p,⟨o,e⟩,s⟩:=x; exact ⟨s _ _ p fun o q=>k _ _ (.inl rfl) q,⟨o,k _ _ (.inl rfl) e⟩,s⟩
theorem HOk.lt (x:HOk P w H h) (e:H a=some o):a < h.objs.size:=(x a o e).lt
theorem HOk.fresh (x:HOk P w H h) (e:h.objs.size <= a):H a=none:=by
 cases q:H a with
 | none=>rfl
 | some u=>exact absurd (ck (x.lt q) e) (de _)
theorem HOk.kept (x:HOk P w H h) (k:∀ b u,h.get? b=some u->h'.get? b=some u):HOk P w H h':=fun a o e =>
 (x a o e).stay (fun b u _ q=>k b u q) (fun _ q=>q) fun _ _ q=>q
theorem HOk.laid (x:HOk P w H h) (k:∀ b u,h.get? b=some u->h'.get? b=some u) (hp:h.objs.size <= a) (new:ww P w (upd H a o) h' a o):HOk P w (upd H a o) h':=fun b u e=>by
 have d:=x.fresh hp;by_cases hb:b=a
 .subst hb; rw [yc] at e; cases e; exact new
 .rw [ym hb] at e;exact (x b u e).stay (fun c v _ q=>k c v q) (fun c q=>by rw [ym (yd q d)]; exact q) fun c f q=>by rw [ym (yd q d)]; exact q
end
def Rd (H:Hp) (a:Addr) (u:HO):Prop:=H a=some u\/∃ o,H a=some (.frz o u)
theorem Rd.of {u:HO} (h:H a=some u):Rd H a u:=.inl h
theorem Rd.ok {w:World} {h:Heap} {u:HO} (r:Rd H a u) (x:HOk P w H h):ww P w H h a u:=by
 rcases r with r | ⟨o,r⟩
 .exact x a u r
 .obtain ⟨_,q⟩:=x a _ r;exact q
def Mut:Option HO->Prop
 | some (.lst _)=>True
 | some (.dK _)=>True
 | some (.dT _)=>True
 | some (.set _ _)=>True
 | some (.ins _ _ _)=>True
 | some (.ext _)=>True
 | _=>False
section
variable {w:World} {h:Heap} {x e:Addr} {o':HO}
theorem HOk.write (ok:HOk P w H h) (mu:Mut (H x)) (he:e=x\/H e=some (.own x)) (k:∀ b u,b≠e->h.get? b=some u->h'.get? b=some u) (heo:∃ u,h'.get? e=some u)
  (new:ww P w (upd H x o') h' x o'):HOk P w (upd H x o') h':=fun b u q=>by
 have a:∀ c y,H c=some (.own y)->c≠x:=fun c y r z=>by subst z; rw [r] at mu; exact mu
 have d:∀ c g,H c=some (.tup g)->c≠x:=fun c g r z=>by subst z; rw [r] at mu; exact mu
 by_cases hb:b=x
 .subst hb; rw [yc] at q; cases q; exact new
 .rw [ym hb] at q;by_cases hbe:b=e
  .have i:H b=some (.own x):=by
    rcases he with z | z
    .exact absurd (hbe.trans z) hb
    .rw [hbe]; exact z
   rw [q] at i; cases i;obtain ⟨v,j⟩:=heo;exact ⟨v,by rw [hbe]; exact j⟩
  .refine (ok b u q).stay (fun c v f r=>k c v ?_ r) (fun c r=>by rw [ym (a c b r)]; exact r) fun c g r=>by rw [ym (d c g r)]; exact r
   rcases f with rfl | f
   .exact hbe
   .rintro rfl;rcases he with z | z
    .exact a c b f z
    .rw [f] at z; cases z; exact hb rfl
end
structure Un (fs ex:List Addr) (H H':Hp) (h h':Heap):Prop where
 keep:∀ b o,h.get? b=some o->H b=none->b∉fs->b∉ex->h'.get? b=some o
 slot:∀ b o,h.get? b=some o->H b=none->b∈fs->b∉ex->∃ sl,h'.get? b=some { o with slots:=sl }
 free:∀ b o,h.get? b=some o->H b=none->b∉ex->H' b=none
 there:∀ b o,h.get? b=some o->b∉ex->∃ o',h'.get? b=some o'
 tups:∀ b xs,H b=some (.tup xs)->H' b=some (.tup xs)
 frzs:∀ b o u,H b=some (.frz o u)->H' b=some (.frz o u)
 tbls:∀ b ps,H b=some (.tbl ps)->∃ more,H' b=some (.tbl (ps++more))
section
variable {fs fs' ex ex':List Addr} {H1 H2:Hp} {h h1 h2:Heap} {x e:Addr} {o:HO}
theorem Un.any (u:Un fs ex H H1 h h1) {b:Addr} {ob:Obj} (q:h.get? b=some ob) (n:H b=none) (hx:b∉ex):∃ sl,h1.get? b=some { ob with slots:=sl }:=by
 by_cases hb:b∈fs
 .exact u.slot b ob q n hb hx
 .exact ⟨ob.slots,u.keep b ob q n hb hx⟩
theorem Un.kept (k:∀ b u,h.get? b=some u->h'.get? b=some u):Un fs ex H H h h' :=
 ⟨fun b a q _ _ _=>k b a q,fun b a q _ _ _=>⟨a.slots,k b a q⟩,fun _ _ _ n _=>n,fun b a q _=>⟨a,k b a q⟩,fun _ _ q=>q,fun _ _ _ q=>q,fun _ c q=>⟨#[],by rw [q]; simp⟩⟩
theorem Un.refl:Un fs ex H H h h:=Un.kept fun _ _ q=>q
theorem Un.laid (k:∀ b u,h.get? b=some u->h'.get? b=some u) (hp:h.objs.size <= a) (hn:H a=none):Un fs ex H (upd H a o) h h' where
 keep:=fun b u q _ _ _=>k b u q
 slot:=fun b u q _ _ _=>⟨u.slots,k b u q⟩
 free:=fun b u q n _=>by rw [ym (ci (ck (bQ q) hp))]; exact n
 there:=fun b u q _=>⟨u,k b u q⟩
 tups:=fun b c q=>by rw [ym (yd q hn)]; exact q
 frzs:=fun b u c q=>by rw [ym (yd q hn)]; exact q
 tbls:=fun b d q=>⟨#[],by rw [ym (yd q hn),q]; simp⟩
theorem Un.write (mu:Mut (H x)) (he:e=x\/H e=some (.own x)) (k:∀ b u,b≠e->h.get? b=some u->h'.get? b=some u) (heo:∃ u,h'.get? e=some u):Un fs ex H (upd H x o) h h':=by
 have d:∀ b,H b=none->b≠x:=fun b n z=>by subst z; rw [n] at mu; exact mu
 have c:∀ b,H b=none->b≠e:=fun b n z=>by
  subst z;rcases he with r | r
  .exact d b n r
  .rw [n] at r; cases r
 have a:∀ b u,H b=some u->¬ Mut (some u)->b≠x:=fun b u q g z=>by subst z; rw [q] at mu; exact g mu
 refine ⟨fun b u q n _ _=>k b u (c b n) q,fun b u q n _ _=>⟨u.slots,k b u (c b n) q⟩,fun b u q n _=>by rw [ym (d b n)]; exact n,fun b u q _=>?_,
  fun b f q=>by rw [ym (a b _ q fun z=>z)]; exact q,fun b u f q=>by rw [ym (a b _ q fun z=>z)]; exact q,fun b i q=>⟨#[],by rw [ym (a b _ q fun z=>z),q]; simp⟩⟩
 by_cases hbe:b=e
 .subst hbe; exact heo
 .exact ⟨u,k b u hbe q⟩
end
def trk (h:Heap) (H:Hp):List Addr:=(List.range h.objs.size).filter fun a=>(H a).isSome
def yls (h:Heap) (H:Hp):Heap:=W.hideAll h (trk h H)
theorem yg6 (h:Heap) (H:Hp):(yls h H).objs.size=h.objs.size:=W.hideAll_size _ _
theorem yk8 {h:Heap} {b:Addr} {o:Obj} (e:h.get? b=some o) (n:H b=none):(yls h H).get? b=some o :=
 W.hideAll_get _ e fun a=>by
  have q:(H b).isSome=true:=(cX.mp a).2;rw [n] at q; simp at q
theorem yqk {h:Heap} {b:Addr} {o:Obj} (e:(yls h H).get? b=some o):h.get? b=some o/\H b=none:=by
 have a:h.get? b=some o:=W.of_hideAll (trk h H) e;refine ⟨a,?_⟩
 cases q:H b with
 | none=>rfl
 | some x =>
  have c:b∈trk h H:=cX.mpr ⟨cQ.mpr (bQ a),by simp [q]⟩;have z:(yls h H).get? b=none:=W.hideAll_none (trk h H) c;rw [z] at e; cases e
def yo3 (g h:Heap) (L:Addr):List (Addr × Obj):=(List.range h.objs.size).filterMap fun a=>if a=L\/(g.get? a).isSome=true then none else (h.get? a).map fun o=>(a,o)
def ji (g h:Heap) (L d:Addr):List (Addr × Obj):=(yo3 g h L).filter fun p=>decide (p.1≠d)
structure Mod (K:W.Frag) (mg:Str->Option Value) (base:Heap):Prop where
 kin:K.In base
 glob:base.Ns mainGlobals mg
 blt:∃ mb,base.Ns builtinsNs mb/\∀ x:Str,x≠"__name__"->mb x=bootBuiltins x
 nolimit:base.NoLimit
structure Cx where
 prog:Program
 w:World
 K:W.Frag
 mg:Str->Option Value
 base:Heap
 A:Around
 N:List Str
 s₀:Shared
 H₀:Hp
 env:Env
 outer:List Env
 stack:List Env
 ex:List Addr
 fn:Str->Bool
 calm:Bool
 pn:List (Addr × Obj)
 xe:Value->Shared->Prop
variable {X:Cx}
def frs (l:List Env):List Addr:=l.filterMap (·.frame)
abbrev Cx.fs (X:Cx):List Addr:=frs X.outer
def Vis (sc:Scope) (x:Str):Prop:=sc.names.lookup x=some .local\/sc.names.lookup x=some .cell\/sc.names.lookup x=some .free
def Loc (sc:Scope) (x:Str):Prop:=sc.names.lookup x=some .local\/sc.names.lookup x=some .cell
def vdc (env:Env) (h:Heap) (m:Str->Option Value) (x:Str) (u:Value):Prop :=
 (env.kindOf x=some .local/\m x=some u)\/((env.kindOf x=some .cell\/env.kindOf x=some .free)/\∃ c,env.cells.lookup x=some c/\h.IsCell c (some u))
structure Cx.Ok (X:Cx):Prop where
 mod:Mod X.K X.mg X.base
 kind:X.env.scope.kind=.function
 glob:X.env.globals=mainGlobals
 blt:X.env.builtins=builtinsNs
 above:X.s₀.heap.objs.size <= X.env.locals
 inj:∀ x y c,X.env.cells.lookup x=some c->X.env.cells.lookup y=some c->x=y
 has:∀ x,(X.env.kindOf x=some .cell\/X.env.kindOf x=some .free)->∃ c,X.env.cells.lookup x=some c
 cab:∀ x c,X.fn x=true->X.env.cells.lookup x=some c->X.s₀.heap.objs.size <= c
 hd:X.calm=true->X.A.handled=none
 frames:X.A.frames=some X.stack
 stk:X.stack=X.outer\/(X.stack=X.env :: X.outer/\X.env.frame=some X.env.locals)
 exf:∀ b∈X.ex,b≠X.env.locals/\∀ x c,X.env.cells.lookup x=some c->c≠b
 bs:∀ b o,X.base.get? b=some o->X.s₀.heap.get? b=some o/\X.H₀ b=none
 bsz:X.base.objs.size <= X.s₀.heap.objs.size
 noex:∀ b o,X.base.get? b=some o->b∉X.ex
 exfs:∀ b∈X.ex,b∉X.fs
 funs:X.s₀.heap.FunFrames X.base X.outer
 frf:∀ b∈X.fs,X.H₀ b=none
structure Inv (X:Cx) (pins:List (Addr × Obj)) (σ:List (Option V)) (H:Hp) (s:Shared):Prop where
 ok:X.Ok
 os:s.os=X.s₀.os
 bare:AllBare s.gens
 base:Un X.fs X.ex X.H₀ H X.s₀.heap s.heap
 loc:∃ m,s.heap.Ns X.env.locals m/\∀ (i:Nat) (x:Str) (v:V),X.N[i]?=some x->σ[i]?=some (some v)->Vis X.env.scope x->∃ u,xh v u/\vdc X.env s.heap m x u
 cell:∀ x c,X.env.cells.lookup x=some c->∃ v,s.heap.IsCell c v
 free:H X.env.locals=none
 freeC:∀ x c,X.env.cells.lookup x=some c->H c=none
 pin:∀ p∈X.pn++pins,s.heap.get? p.1=some p.2/\H p.1=none/\p.1≠X.env.locals/\p.1∉X.fs/\∀ v,p.2.data≠.cell v
 hok:HOk X.prog X.w H s.heap
 len:σ.length=X.N.length
section
variable {σ:List (Option V)} {s:Shared}
theorem Cx.Ok.nofr (ok:X.Ok) {b:Addr} {o:Obj} (e:X.base.get? b=some o):b∉X.fs:=fun a=>by
 have:=(ok.funs.mem a).1;rw [e] at this; cases this
theorem Inv.bs (I:Inv X pins σ H s):∀ b o,X.base.get? b=some o->s.heap.get? b=some o/\H b=none:=fun b o e =>
 ⟨I.base.keep b o (I.ok.bs b o e).1 (I.ok.bs b o e).2 (I.ok.nofr e) (I.ok.noex b o e),I.base.free b o (I.ok.bs b o e).1 (I.ok.bs b o e).2 (I.ok.noex b o e)⟩
theorem Inv.bk (I:Inv X pins σ H s):∀ b o,X.base.get? b=some o->s.heap.get? b=some o:=fun b o e=>(I.bs b o e).1
theorem Inv.mod (I:Inv X pins σ H s):Mod X.K X.mg X.base:=I.ok.mod
theorem Inv.kIn (I:Inv X pins σ H s):X.K.In s.heap:=I.ok.mod.kin.keeps I.bk
theorem Inv.lt (I:Inv X pins σ H s):X.env.locals < s.heap.objs.size:=let ⟨_,hn,_⟩:=I.loc; hn.lt
theorem Inv.sz (I:Inv X pins σ H s):X.s₀.heap.objs.size <= s.heap.objs.size:=cn I.ok.above (Nat.le_of_lt I.lt)
theorem Inv.nofs (I:Inv X pins σ H s) (h:s.heap.objs.size <= a):a∉X.fs:=fun b=>by
 obtain ⟨_,o,c,_⟩:=I.ok.funs.mem b;exact absurd (ck (bQ c) (cn I.sz h)) (de _)
theorem Inv.cne (I:Inv X pins σ H s):∀ x c,X.env.cells.lookup x=some c->c≠X.env.locals:=fun x c e z=>by
 obtain ⟨v,o,d,f⟩:=I.cell x c e;obtain ⟨m,⟨g,h,i,a,b,_⟩,_⟩:=I.loc;rw [z,a] at d; cases d; rw [b] at f; cases f
theorem Inv.funs (I:Inv X pins σ H s):s.heap.FunFrames X.base X.outer:=by
 have a:∀ (l:List Env),(∀ b∈frs l,b∈X.fs)->X.s₀.heap.FunFrames X.base l->s.heap.FunFrames X.base l:=by
  intro l
  induction l with
  | nil=>intro _ _; trivial
  | cons env r ih =>
   intro g n;obtain ⟨k,⟨L,o,f,h,i,m⟩,j⟩:=n;have d:L∈X.fs:=g L (by unfold frs; rw [List.filterMap_cons,f]; exact cG);obtain ⟨p,e⟩:=I.base.slot L o i (I.ok.frf L d) d fun z=>I.ok.exfs L z d;exact ⟨k,⟨L,_,f,h,e,m⟩,ih (fun b c=>g b (by unfold frs; rw [List.filterMap_cons,f]; exact cz _ c)) j⟩
 exact a X.outer (fun _ c=>c) I.ok.funs
theorem Inv.stack (I:Inv X pins σ H s):s.heap.FunFrames X.base X.stack:=by
 rcases I.ok.stk with e | ⟨e,b⟩
 .rw [e]; exact I.funs
 .rw [e];obtain ⟨m,a,_⟩:=I.loc;refine .cons (by rw [I.ok.kind]; decide) b a ?_ I.funs;exact Heap.get?_none_of_le (cn I.ok.bsz I.ok.above)
theorem Inv.stkSub (I:Inv X pins σ H s):∀ b∈frs X.stack,b∈X.env.locals :: X.fs:=fun b a=>by
 rcases I.ok.stk with e | ⟨e,c⟩
 .rw [e] at a; exact cz _ a
 .rw [e] at a;unfold frs at a;rw [List.filterMap_cons,c] at a;exact a
theorem Inv.stkFree (I:Inv X pins σ H s):∀ b∈frs X.stack,H b=none:=fun b a=>by
 rcases bW.mp (I.stkSub b a) with e | a
 .rw [e]; exact I.free
 .obtain ⟨_,o,c,_⟩:=I.ok.funs.mem a;exact I.base.free b o c (I.ok.frf b a) fun z=>I.ok.exfs b z a
theorem Inv.step {g':Array GenState} {d':Drawn} {ch:List Addr} (I:Inv X pins σ H s)
  (hch:∀ b∈ch,(b∈X.ex\/X.s₀.heap.objs.size <= b)/\b≠X.env.locals/\(∀ x c,X.env.cells.lookup x=some c->c≠b)/\∀ p∈X.pn++pins,p.1≠b)
  (keep:∀ b o,b≠X.env.locals->b∉X.fs->b∉ch->s.heap.get? b=some o->H b=none->h'.get? b=some o)
  (slot:∀ b o,b≠X.env.locals->b∈X.fs->b∉ch->s.heap.get? b=some o->H b=none->∃ sl,h'.get? b=some { o with slots:=sl }) (free:∀ b o,b∉ch->s.heap.get? b=some o->H b=none->H' b=none)
  (there:∀ b o,b∉ch->s.heap.get? b=some o->∃ o',h'.get? b=some o')
  (tups:∀ b xs,H b=some (.tup xs)->H' b=some (.tup xs)) (frzs:∀ b o u,H b=some (.frz o u)->H' b=some (.frz o u)) (tbls:∀ b ps,H b=some (.tbl ps)->∃ more,H' b=some (.tbl (ps++more)))
  (ns:∀ m,s.heap.Ns X.env.locals m->h'.Ns X.env.locals m) (hok:HOk X.prog X.w H' h') (hg:AllBare g') :
  Inv X pins σ H' { s with heap:=h',gens:=g',drawn:=d',toks:=t' }:=by
 have A:∀ b o,X.s₀.heap.get? b=some o->b≠X.env.locals:=fun b o e=>ci (ck (bQ e) I.ok.above)
 have h:∀ b o,X.s₀.heap.get? b=some o->b∉X.ex->b∉ch:=fun b o e a t=>by
  rcases (hch b t).1 with z | z
  .exact a z
  .exact absurd (ck (bQ e) z) (de _)
 have f:∀ x c,X.env.cells.lookup x=some c->∀ v,s.heap.IsCell c v->h'.IsCell c v:=fun x c e v ⟨o,y,D⟩=>by
  have g:c∉ch:=fun z=>(hch c z).2.2.1 x c e rfl;by_cases hc:c∈X.fs
  .obtain ⟨sl,q⟩:=slot c o (I.cne x c e) hc g y (I.freeC x c e);exact ⟨_,q,D⟩
  .exact ⟨o,keep c o (I.cne x c e) hc g y (I.freeC x c e),D⟩
 refine ⟨I.ok,I.os,hg,⟨fun b o e n t a=>?_,fun b o e n t a=>?_,fun b o e n a=>?_,fun b o e a=>?_,fun b xs e=>tups b xs (I.base.tups b xs e),fun b o xs e=>frzs b o xs (I.base.frzs b o xs e),fun b ps e=>?_⟩,?_,fun x c e=>?_,?_,fun x c e=>?_,fun p G=>?_,hok,I.len⟩
 .exact keep b o (A b o e) t (h b o e a) (I.base.keep b o e n t a) (I.base.free b o e n a)
 .obtain ⟨sl,j⟩:=I.base.slot b o e n t a;obtain ⟨C,B⟩:=slot b _ (A b o e) t (h b o e a) j (I.base.free b o e n a);exact ⟨C,B⟩
 .obtain ⟨o',j⟩:=I.base.there b o e a;exact free b o' (h b o e a) j (I.base.free b o e n a)
 .obtain ⟨o',j⟩:=I.base.there b o e a;exact there b o' (h b o e a) j
 .obtain ⟨N,j⟩:=I.base.tbls b ps e;obtain ⟨L,B⟩:=tbls b _ j;exact ⟨N++L,by rw [B,Array.append_assoc]⟩
 .obtain ⟨m,M,K⟩:=I.loc;refine ⟨m,ns m M,fun i x v j B J=>?_⟩;obtain ⟨u,r,l⟩:=K i x v j B J;refine ⟨u,r,?_⟩;rcases l with l | ⟨k,c,e,z⟩
  .exact .inl l
  .exact .inr ⟨k,c,e,f x c e _ z⟩
 .obtain ⟨v,z⟩:=I.cell x c e;exact ⟨v,f x c e v z⟩
 .obtain ⟨m,⟨o,_,_,y,_⟩,_⟩:=I.loc;exact free _ o (fun z=>(hch _ z).2.1 rfl) y I.free
 .obtain ⟨v,o,y,D⟩:=I.cell x c e;exact free c o (fun z=>(hch c z).2.2.1 x c e rfl) y (I.freeC x c e)
 .obtain ⟨e,n,F,E,d⟩:=I.pin p G;have g:p.1∉ch:=fun z=>(hch p.1 z).2.2.2 p G rfl;exact ⟨keep p.1 p.2 F E g e n,free p.1 p.2 g e n,F,E,d⟩
theorem Inv.un (I:Inv X pins σ H s) (u:Un X.fs [] H H' s.heap h') (hok:HOk X.prog X.w H' h'):Inv X pins σ H' { s with heap:=h',toks:=t' }:=by
 obtain ⟨m,⟨o,q,t,g,r⟩,_⟩:=id I.loc;obtain ⟨p,h⟩:=u.any g I.free (by simp)
 exact I.step (g':=s.gens) (d':=s.drawn) (ch:=[]) (fun _ z=>nomatch z) (fun b o _ c _ e n=>u.keep b o e n c (by simp)) (fun b o _ c _ e n=>u.slot b o e n c (by simp)) (fun b o _ e n=>u.free b o e n (by simp)) (fun b o _ e=>u.there b o e (by simp)) u.tups u.frzs u.tbls (fun l j=>by
  obtain ⟨k,f,d,a,i⟩:=j;rw [g] at a; cases a;exact ⟨_,f,d,h,i⟩) hok I.bare
theorem Inv.call {g':Array GenState} {d':Drawn} {ch:List Addr} (I:Inv X pins σ H s) (u:Un (frs X.stack) ch H H' s.heap h') (hok:HOk X.prog X.w H' h') (hg:AllBare g')
  (hch:∀ b∈ch,(b∈X.ex\/X.s₀.heap.objs.size <= b)/\b≠X.env.locals/\(∀ x c,X.env.cells.lookup x=some c->c≠b)/\∀ p∈X.pn++pins,p.1≠b) :
  Inv X pins σ H' { s with heap:=h',gens:=g',drawn:=d',toks:=t' }:=by
 obtain ⟨m,⟨o,y,A,i,r⟩,_⟩:=id I.loc;obtain ⟨v,f⟩:=u.any i I.free fun z=>(hch _ z).2.1 rfl
 exact I.step (ch:=ch) hch (fun b o f j a e n=>u.keep b o e n (fun z=>(bW.mp (I.stkSub b z)).elim f j) a) (fun b o _ _ a e n=>u.any e n a) (fun b o a e n=>u.free b o e n a) (fun b o a e=>u.there b o e a) u.tups u.frzs u.tbls (fun t l=>by
  obtain ⟨q,h,g,d,k⟩:=l;rw [i] at d; cases d;exact ⟨_,h,g,f,k⟩) hok hg
theorem Inv.turned {it:Addr} (I:Inv X pins σ H s) (k:∀ b o,b≠it->s.heap.get? b=some o->h'.get? b=some o) (hn:H it=none) (hL:it≠X.env.locals)
  (h1:it∈X.ex\/X.s₀.heap.objs.size <= it) (h2:∀ x c,X.env.cells.lookup x=some c->c≠it) (h3:∀ p∈X.pn++pins,p.1≠it):Inv X pins σ H { s with heap:=h',toks:=t' }:=by
 have d:∀ b u,H b=some u->b≠it:=fun b u e z=>by rw [z,hn] at e; cases e
 refine I.step (g':=s.gens) (d':=s.drawn) (ch:=[it]) (fun b f=>?_) (fun b o _ _ a e _=>k b o (fun z=>a (by simp [z])) e) (fun b o _ _ a e _=>⟨o.slots,k b o (fun z=>a (by simp [z])) e⟩) (fun _ _ _ _ n=>n)
  (fun b o a e=>⟨o,k b o (fun z=>a (by simp [z])) e⟩) (fun _ _ e=>e) (fun _ _ _ e=>e) (fun b l e=>⟨#[],by rw [e]; simp⟩) (fun m i=>?_) (fun b u e=>?_) I.bare
 .have e:b=it:=by simpa using f
  subst e;exact ⟨h1,hL,h2,h3⟩
 .obtain ⟨o,g,j,h,r⟩:=i;exact ⟨o,g,j,k _ o (Ne.symm hL) h,r⟩
 .refine (I.hok b u e).stay (fun c v a q=>k c v ?_ q) (fun _ q=>q) fun _ _ q=>q;rcases a with z | z
  .rw [z]; exact d b u e
  .exact d c _ z
theorem Inv.tok (I:Inv X pins σ H s) (t:Nat):Inv X pins σ H { s with toks:=t }:=I.un (h':=s.heap) (t':=t) Un.refl I.hok
theorem Inv.kept (I:Inv X pins σ H s) (k:∀ b u,s.heap.get? b=some u->h'.get? b=some u):Inv X pins σ H { s with heap:=h',toks:=t' }:=I.un (Un.kept k) (I.hok.kept k)
theorem Inv.laid {o:HO} (I:Inv X pins σ H s) (k:∀ b u,s.heap.get? b=some u->h'.get? b=some u) (hp:s.heap.objs.size <= a) (new:ww X.prog X.w (upd H a o) h' a o) :
  Inv X pins σ (upd H a o) { s with heap:=h',toks:=t' }:=I.un (Un.laid k hp (I.hok.fresh hp)) (I.hok.laid k hp new)
theorem Inv.write {x e:Addr} {o:HO} (I:Inv X pins σ H s) (mu:Mut (H x)) (he:e=x\/H e=some (.own x)) (k:∀ b u,b≠e->s.heap.get? b=some u->h'.get? b=some u) (heo:∃ u,h'.get? e=some u)
  (new:ww X.prog X.w (upd H x o) h' x o):Inv X pins σ (upd H x o) { s with heap:=h',toks:=t' }:=I.un (Un.write mu he k heo) (I.hok.write mu he k heo new)
theorem Inv.pins_of {pins':List (Addr × Obj)} (I:Inv X pins σ H s) (h:∀ p∈pins',s.heap.get? p.1=some p.2/\H p.1=none/\p.1≠X.env.locals/\p.1∉X.fs/\∀ v,p.2.data≠.cell v):Inv X pins' σ H s :=
 ⟨I.ok,I.os,I.bare,I.base,I.loc,I.cell,I.free,I.freeC,fun p a=>(cr.mp a).elim (fun z=>I.pin p (db _ z)) (h p),I.hok,I.len⟩
theorem Ű {N:List Str} (hN:N.Nodup) {j:Nat} {x:Str} (a:N[i]?=some x) (b:N[j]?=some x):i=j:=by
 obtain ⟨f,c⟩:=cM.mp a;obtain ⟨e,d⟩:=cM.mp b;exact (List.getElem_inj hN).mp (c.trans d.symm)
theorem ζ {A:Around} {x:Str} {Q:Unit->Shared->Prop} (I:Inv X pins σ H s) (hN:X.N.Nodup) (hi:X.N[i]?=some x) (hx:Loc X.env.scope x) (r:xh v u)
  (h:∀ s',Inv X pins (σ.set i (some v)) H s'->(∃ a,Heap.SameBut a s.heap s'.heap/\(a=X.env.locals\/X.env.cells.lookup x=some a))->Q () s') (hf:X.fn x=true\/X.env.scope.names.lookup x=some .local:=by first | exact .inl rfl | exact .inr rfl | assumption):wpAny M A (storeName X.env x u) Q E s:=by
 obtain ⟨m,hn,hl⟩:=id I.loc;have L:(X.env.scope.kind == .class || (X.env.scope.kind == .module && X.env.locals != X.env.globals))=false:=by rw [I.ok.kind]; rfl
 have hiσ:i < σ.length:=by rw [I.len]; exact (cM.mp hi).1
 have J:=I.cne
 have g:∀ {a:Addr} {K:Heap},(∃ o,s.heap.get? a=some o/\H a=none)->Heap.SameBut a s.heap K->HOk X.prog X.w H K:=fun {a K} ha f b ob e=>by
  obtain ⟨_,_,B⟩:=ha;refine (I.hok b ob e).stay (fun c U t q=>(f.2 c ?_).trans q) (fun _ q=>q) fun _ _ q=>q;rintro rfl;rcases t with rfl | t
  .rw [B] at e; cases e
  .rw [B] at t; cases t
 rcases hx with D | D
 .refine wpAny_storeName_local D hn (fun K Z f=>?_) L;obtain ⟨oL,_,_,a0,_⟩:=id hn;refine h _ ⟨I.ok,I.os,I.bare,⟨fun b o e n F hx=>?_,fun b o e n F hx=>?_,I.base.free,fun b o e hx=>?_,I.base.tups,I.base.frzs,I.base.tbls⟩,⟨_,Z,fun j y W l C e3=>?_⟩,fun y c e=>?_,I.free,I.freeC,fun p hp=>?_,g ⟨oL,a0,I.free⟩ f,by simpa using I.len⟩ ⟨_,f,.inl rfl⟩
  .exact (f.2 b (ci (ck (bQ e) I.ok.above))).trans (I.base.keep b o e n F hx)
  .obtain ⟨sl,l⟩:=I.base.slot b o e n F hx;exact ⟨sl,(f.2 b (ci (ck (bQ e) I.ok.above))).trans l⟩
  .obtain ⟨o',l⟩:=I.base.there b o e hx;exact ⟨o',(f.2 b (ci (ck (bQ e) I.ok.above))).trans l⟩
  .by_cases hj:j=i
   .subst hj;rw [hi] at l; cases l;rw [List.getElem?_set_self hiσ] at C;cases C;exact ⟨u,r,.inl ⟨D,by simp⟩⟩
   .rw [List.getElem?_set_ne (Ne.symm hj)] at C;obtain ⟨u',r',q⟩:=hl j y W l C e3;refine ⟨u',r',?_⟩;rcases q with ⟨k,e⟩ | ⟨k,c,e,z⟩
    .refine .inl ⟨k,?_⟩;have:y≠x:=fun e=>hj (Ű hN l (e ▸ hi));simp [this,e]
    .exact .inr ⟨k,c,e,z.sameBut f (J y c e)⟩
  .obtain ⟨U,z⟩:=I.cell y c e;exact ⟨U,z.sameBut f (J y c e)⟩
  .obtain ⟨e,n,T,Y,d⟩:=I.pin p hp;exact ⟨(f.2 p.1 T).trans e,n,T,Y,d⟩
 .have G:X.fn x=true:=by
   rcases hf with z | z
   .exact z
   .rw [z] at D; cases D
  obtain ⟨c,t⟩:=I.ok.has x (.inl D);obtain ⟨U,z⟩:=I.cell x c t;refine wpAny_storeName_cell I.ok.kind D t z (fun K O f=>?_);obtain ⟨oc,R,P⟩:=id z;refine h { s with heap:=K } ⟨I.ok,I.os,I.bare,⟨fun b o e n F hx=>?_,fun b o e n F hx=>?_,I.base.free,fun b o e hx=>?_,I.base.tups,I.base.frzs,I.base.tbls⟩,⟨m,hn.sameBut f (Ne.symm (J x c t)),fun j y W l C e3=>?_⟩,fun y S e=>?_,I.free,I.freeC,fun p hp=>?_,g ⟨oc,R,I.freeC x c t⟩ f,by simpa using I.len⟩ ⟨c,f,.inr t⟩
  .exact (f.2 b (ci (ck (bQ e) (I.ok.cab x c G t)))).trans (I.base.keep b o e n F hx)
  .obtain ⟨sl,l⟩:=I.base.slot b o e n F hx;exact ⟨sl,(f.2 b (ci (ck (bQ e) (I.ok.cab x c G t)))).trans l⟩
  .obtain ⟨o',l⟩:=I.base.there b o e hx;exact ⟨o',(f.2 b (ci (ck (bQ e) (I.ok.cab x c G t)))).trans l⟩
  .by_cases hj:j=i
   .subst hj;rw [hi] at l; cases l;rw [List.getElem?_set_self hiσ] at C;cases C;exact ⟨u,r,.inr ⟨.inl D,c,t,O⟩⟩
   .rw [List.getElem?_set_ne (Ne.symm hj)] at C;obtain ⟨u',r',q⟩:=hl j y W l C e3;refine ⟨u',r',?_⟩;rcases q with q | ⟨k,S,e,z'⟩
    .exact .inl q
    .refine .inr ⟨k,S,e,z'.sameBut f ?_⟩;rintro rfl;exact hj (Ű hN l (I.ok.inj _ _ _ e t ▸ hi))
  .by_cases hcc:S=c
   .subst hcc; exact ⟨_,O⟩
   .obtain ⟨w2,z2⟩:=I.cell y S e;exact ⟨w2,z2.sameBut f hcc⟩
  .obtain ⟨e,n,T,Y,d⟩:=I.pin p hp;refine ⟨(f.2 p.1 ?_).trans e,n,T,Y,d⟩;intro q;rw [q,R] at e;have q':oc=p.2:=bX e;exact d U (by rw [<- q']; exact P)
theorem ã {A:Around} {x:Str} {Q:Unit->Shared->Prop} (I:Inv X pins σ H s) (hN:X.N.Nodup) (hi:X.N[i]?=some x) (hx:Loc X.env.scope x) (r:xh v u)
  (h:∀ s',Inv X pins (σ.set i (some v)) H s'->Q () s') (hf:X.fn x=true\/X.env.scope.names.lookup x=some .local:=by first | exact .inl rfl | exact .inr rfl | assumption):wpAny M A (storeName X.env x u) Q E s :=
 ζ I hN hi hx r (fun s' a _=>h s' a) hf
theorem Inv.call' {ch:List Addr} (I:Inv X pins σ H s) (ho:s'.os=s.os) (u:Un (frs X.stack) ch H H' s.heap s'.heap) (hok:HOk X.prog X.w H' s'.heap) (hg:AllBare s'.gens)
  (hch:∀ b∈ch,(b∈X.ex\/X.s₀.heap.objs.size <= b)/\b≠X.env.locals/\(∀ x c,X.env.cells.lookup x=some c->c≠b)/\∀ p∈X.pn++pins,p.1≠b):Inv X pins σ H' s':=by
 obtain ⟨d,g',d',t',a⟩:=s';have e:a=s.os:=ho;subst e;exact I.call (g':=g') (t':=t') (d':=d') u hok hg hch
end
abbrev XK:=Value->Option Addr->Hp->Prop
abbrev St:=List (Option V)
variable {σ:St}
abbrev VK:=V->Hp->Prop
abbrev TE:=St->Hp->VK->Prop
variable {ta te:TE}
abbrev TT:=St->Hp->(Bool->Hp->Prop)->Prop
abbrev TA:=St->Hp->(List V->Hp->Prop)->Prop
structure Á where
 nx:St->Hp->Prop
 rt:VK
 bk:St->Hp->Prop:=fun _ _=>False
 ct:St->Hp->Prop:=fun _ _=>False
abbrev TS:=Á->St->Hp->Prop
def EP (X:Cx) (pins:List (Addr × Obj)) (σ:St) (Q:VK) (u:Value) (s':Shared):Prop:=∃ v H',Inv X pins σ H' s'/\xh v u/\Q v H'
def TP (X:Cx) (pins:List (Addr × Obj)) (σ:St) (Q:Bool->Hp->Prop) (b:Bool) (s':Shared):Prop:=∃ H',Inv X pins σ H' s'/\Q b H'
def AP (X:Cx) (pins:List (Addr × Obj)) (σ:St) (Q:List V->Hp->Prop) (us:List Value) (s':Shared):Prop:=∃ vs H',Inv X pins σ H' s'/\wx vs us/\Q vs H'
def SP (X:Cx) (pins:List (Addr × Obj)) (D:Á) (f:Flow) (s':Shared):Prop :=
 match f with
 | .next=>∃ σ' H',Inv X pins σ' H' s'/\D.nx σ' H'
 | .brk=>∃ σ' H',Inv X pins σ' H' s'/\D.bk σ' H'
 | .cont=>∃ σ' H',Inv X pins σ' H' s'/\D.ct σ' H'
 | .ret u=>∃ v σ' H',Inv X pins σ' H' s'/\xh v u/\D.rt v H'
structure PE (X:Cx) (e:Expr) (t:TE):Prop where
 go:∀ (pins:List (Addr × Obj)) (s:Shared) (σ:St) (H:Hp) (Q:VK),Inv X pins σ H s->t σ H Q->wpAny (model X.prog X.w) X.A (eval e X.env) (EP X pins σ Q) X.xe s
instance {X:Cx} {e:Expr} {t:TE}:CoeFun (PE X e t) (fun _=>∀ (pins:List (Addr × Obj)) (s:Shared) (σ:St) (H:Hp) (Q:VK),Inv X pins σ H s->t σ H Q->wpAny (model X.prog X.w) X.A (eval e X.env) (EP X pins σ Q) X.xe s):=⟨PE.go⟩
structure PT (X:Cx) (e:Expr) (t:TT):Prop where
 go:∀ (pins:List (Addr × Obj)) (s:Shared) (σ:St) (H:Hp) (Q:Bool->Hp->Prop),Inv X pins σ H s->t σ H Q->wpAny (model X.prog X.w) X.A (isTrue e X.env (eval e X.env)) (TP X pins σ Q) X.xe s
instance {X:Cx} {e:Expr} {t:TT}:CoeFun (PT X e t) (fun _=>∀ (pins:List (Addr × Obj)) (s:Shared) (σ:St) (H:Hp) (Q:Bool->Hp->Prop),Inv X pins σ H s->t σ H Q->wpAny (model X.prog X.w) X.A (isTrue e X.env (eval e X.env)) (TP X pins σ Q) X.xe s):=⟨PT.go⟩
def PW (X:Cx) (e:Expr) (t:TT):Prop :=
 ∀ (whole:Sem Value) (pins:List (Addr × Obj)) (s:Shared) (σ:St) (H:Hp) (Q:Bool->Hp->Prop),Inv X pins σ H s->t σ H Q->wpAny (model X.prog X.w) X.A (isTrue e X.env whole) (TP X pins σ Q) X.xe s
theorem PW.pt {e:Expr} {t:TT} (h:PW X e t):PT X e t:=⟨h _⟩
structure PA (X:Cx) (es:List Expr) (t:TA):Prop where
 go:∀ (pos:Pos) (pins:List (Addr × Obj)) (s:Shared) (σ:St) (H:Hp) (Q:List V->Hp->Prop),Inv X pins σ H s->t σ H Q->wpAny (model X.prog X.w) X.A (spliced (backTo pos (starEach es X.env))) (AP X pins σ Q) X.xe s
instance {X:Cx} {es:List Expr} {t:TA}:CoeFun (PA X es t) (fun _=>∀ (pos:Pos) (pins:List (Addr × Obj)) (s:Shared) (σ:St) (H:Hp) (Q:List V->Hp->Prop),Inv X pins σ H s->t σ H Q->wpAny (model X.prog X.w) X.A (spliced (backTo pos (starEach es X.env))) (AP X pins σ Q) X.xe s):=⟨PA.go⟩
structure PS (X:Cx) (st:Stmt) (t:TS):Prop where
 go:∀ (pins:List (Addr × Obj)) (s:Shared) (σ:St) (H:Hp) (D:Á),Inv X pins σ H s->t D σ H->wpAny (model X.prog X.w) X.A (exec st X.env) (SP X pins D) X.xe s
instance {X:Cx} {st:Stmt} {t:TS}:CoeFun (PS X st t) (fun _=>∀ (pins:List (Addr × Obj)) (s:Shared) (σ:St) (H:Hp) (D:Á),Inv X pins σ H s->t D σ H->wpAny (model X.prog X.w) X.A (exec st X.env) (SP X pins D) X.xe s):=⟨PS.go⟩
structure PSs (X:Cx) (st:List Stmt) (t:TS):Prop where
 go:∀ (pins:List (Addr × Obj)) (s:Shared) (σ:St) (H:Hp) (D:Á),Inv X pins σ H s->t D σ H->wpAny (model X.prog X.w) X.A (execs st X.env) (SP X pins D) X.xe s
instance {X:Cx} {st:List Stmt} {t:TS}:CoeFun (PSs X st t) (fun _=>∀ (pins:List (Addr × Obj)) (s:Shared) (σ:St) (H:Hp) (D:Á),Inv X pins σ H s->t D σ H->wpAny (model X.prog X.w) X.A (execs st X.env) (SP X pins D) X.xe s):=⟨PSs.go⟩
theorem thn {α:Type} {t:Sem α} {Q Q':α->Shared->Prop} {A:Around} {s:Shared} (h:wpAny M A t Q E s) (hQ:∀ a s,Q a s->Q' a s):wpAny M A t Q' E s:=cT h hQ fun _ _ x=>x
section
def vb4 (i:Nat):TE:=fun σ H Q=>∃ v,σ[i]?=some (some v)/\Q v H
def tC (v:V):TE:=fun _ H Q=>Q v H
theorem ywj {x:Str} {pos:Pos} (hN:X.N[i]?=some x) (hv:Vis X.env.scope x) (hd:(x == ("__debug__":Str))=false:=by decide) (hcd:(x == ("__classdict__":Str))=false:=by decide):PE X (.Name x pos) (vb4 i):=by
 refine .mk fun f s σ H Q I h=>?_;obtain ⟨v,e,h⟩:=h;obtain ⟨m,j,n⟩:=I.loc;obtain ⟨u,r,l⟩:=n i x v hN e hv;have b:EP X f σ Q u s:=⟨v,H,I,r,h⟩;rcases l with ⟨d,k⟩ | ⟨d,c,g,a⟩
 .exact wpAny_Name (wpAny_loadName_local I.ok.kind d j k b) hd
 .rcases d with d | d
  .exact wpAny_Name (wpAny_loadName_cell I.ok.kind d g a b) hd
  .exact wpAny_Name (wpAny_loadName_free I.ok.kind d g a b hcd) hd
theorem yi {i j pos}:PE X (.Constant (.int i) j pos) (tC (.int i)):=.mk fun _ _ _ H _ I h=>wpAny_Constant_int ⟨.int i,H,I.tok _,⟨_,rfl⟩,h⟩
theorem yc3 {b j pos}:PE X (.Constant (.bool b) j pos) (tC (.bl b)):=.mk fun _ _ _ H _ I h=>Constant_bool ⟨.bl b,H,I,rfl,h⟩
theorem uk {j pos}:PE X (.Constant .none j pos) (tC .non):=.mk fun _ _ _ H _ I h=>Constant_none ⟨.non,H,I,rfl,h⟩
theorem wd {x j pos}:PE X (.Constant (.str x) j pos) (tC (.str x)):=.mk fun _ _ _ H _ I h=>Calls.Constant_str ⟨.str x,H,I.tok _,⟨_,rfl⟩,h⟩
def Gl (X:Cx) (x:Str):Prop:=X.env.kindOf x=some .globalImplicit
theorem zj {s:Shared} {x:Str} {pos:Pos} (I:Inv X pins σ H s) (hg:Gl X x) (hm:X.mg x=some u) (h:Q u s)
  (hd:(x == ("__debug__":Str))=false:=by decide):wpAny (model X.prog X.w) X.A (eval (.Name x pos) X.env) Q E s :=
 Calls.Name_function_global I.ok.kind hg (Calls.loadGlobal_global (by rw [I.ok.glob]; exact I.mod.glob.keeps I.bk) hm h) hd
theorem Ē {s:Shared} {x:Str} {pos:Pos} (I:Inv X pins σ H s) (hg:Gl X x) (hm:X.mg x=none) (hv:bootBuiltins x=some u) (h:Q u s)
  (hn:x≠"__name__":=by decide) (hd:(x == ("__debug__":Str))=false:=by decide):wpAny (model X.prog X.w) X.A (eval (.Name x pos) X.env) Q E s:=by
 obtain ⟨c,b,a⟩:=I.mod.blt;exact Calls.Name_function_global I.ok.kind hg (Calls.loadGlobal_builtin (by rw [I.ok.glob]; exact I.mod.glob.keeps I.bk) hm (by rw [I.ok.blt]; exact b.keeps I.bk) ((a x hn).trans hv) h) hd
theorem yct {x:Str} {pos:Pos} (hg:Gl X x) (hm:X.mg x=some u) (r:xh v u) (hd:(x == ("__debug__":Str))=false:=by decide):PE X (.Name x pos) (tC v):=.mk
 fun _ _ _ H _ I h=>zj I hg hm ⟨v,H,I,r,h⟩ hd
theorem ypq {x:Str} {pos:Pos} (hg:Gl X x) (hm:X.mg x=none) (hv:bootBuiltins x=some u) (r:xh v u) (hn:x≠"__name__":=by decide) (hd:(x == ("__debug__":Str))=false:=by decide):PE X (.Name x pos) (tC v):=.mk
 fun _ _ _ H _ I h=>Ē I hg hm hv ⟨v,H,I,r,h⟩ hn hd
variable {a b:Expr} {tb:TE} {pos:Pos}
def PC (X:Cx) (op:CmpOp) (a b:Expr) (t:TE):Prop :=
 ∀ (pins:List (Addr × Obj)) (s:Shared) (σ:St) (H:Hp) (Q:VK),Inv X pins σ H s->t σ H Q ->
  wpAny (model X.prog X.w) X.A (eval a X.env) (fun v s₁=>wpAny (model X.prog X.w) X.A (eval b X.env) (fun u s₂=>wpAny (model X.prog X.w) X.A (compareOp op v u) (EP X pins σ Q) X.xe s₂) X.xe s₁) X.xe s
def tB (t:TE):TT:=fun σ H Q=>t σ H fun x H1=>∃ c,x=.bl c/\Q c H1
theorem ybh {t:TE} (h:PC X op a b t) (h1:behindInMarks op b=false:=by first | exact nobehind _ (by decide) (by decide) | rfl):PT X (.Compare a [op] [b] pos) (tB t):=by
 refine .mk fun e s σ H Q I g=>?_;refine wpAny_isTrue_Compare1 (thn (h e s σ H _ I g) fun v o h1=>thn h1 fun u m f=>thn f fun c n h'=>?_) h1;obtain ⟨x,i,k,l,j⟩:=h';obtain ⟨d,rfl,q⟩:=j;cases l;exact cR ⟨i,k,q⟩
theorem xo {e:Expr} {t:TE} (h:PE X e t) (he:∀ whole,isTrue e X.env whole=(do let v <- whole; standAt e.pos; holding [v] (truthy v)):=by intro _; rfl):PT X e (tB t):=by
 refine .mk fun a s σ H Q I b=>?_;refine isTrue_plain (thn (h a s σ H _ I b) fun v j h'=>?_) (he _);obtain ⟨x,c,g,i,f⟩:=h';obtain ⟨d,rfl,q⟩:=f;cases i;exact cR ⟨c,g,q⟩
variable {tA tB':TT} {ji:List Expr}
def vcx (t u:TT):TT:=fun σ H Q=>t σ H fun c H1=>if c=true then u σ H1 Q else Q false H1
def tOr (t u:TT):TT:=fun σ H Q=>t σ H fun c H1=>if c=true then Q true H1 else u σ H1 Q
def vc0 (t:TT):TT:=fun σ H Q=>t σ H fun c H1=>Q (!c) H1
theorem yic (ha:PT X a tA):PW X (.BoolOp .And [a] pos) tA:=by
 intro d b s σ H Q I h;refine isTrue_and (thn (ha b s σ H Q I h) fun c f e=>?_)
 cases c with
 | true=>exact isTrue_and_nil e
 | false=>exact e
theorem Ĕ (ha:PT X a tA):PW X (.BoolOp .Or [a] pos) tA:=by
 intro d b s σ H Q I h;refine isTrue_or (thn (ha b s σ H Q I h) fun c f e=>?_)
 cases c with
 | false=>exact isTrue_or_nil e
 | true=>exact e
theorem ymj (ha:PT X a tA) (hb:PW X (.BoolOp .And (b :: ji) pos) tB'):PW X (.BoolOp .And (a :: b :: ji) pos) (vcx tA tB'):=by
 intro i d s σ H Q I h;refine isTrue_and (thn (ha d s σ H _ I h) fun c j ⟨e,g,f⟩=>?_)
 cases c with
 | true=>exact hb i d j σ e Q g f
 | false=>exact ⟨e,g,f⟩
theorem ĥ (ha:PT X a tA) (hb:PW X (.BoolOp .Or (b :: ji) pos) tB'):PW X (.BoolOp .Or (a :: b :: ji) pos) (tOr tA tB'):=by
 intro i d s σ H Q I h;refine isTrue_or (thn (ha d s σ H _ I h) fun c j ⟨e,g,f⟩=>?_)
 cases c with
 | true=>exact ⟨e,g,f⟩
 | false=>exact hb i d j σ e Q g f
theorem xw (ha:PT X a tA):PT X (.UnaryOp .Not a pos) (vc0 tA):=by
 refine .mk fun b s σ H Q I h=>?_;exact isTrue_not (ha b s σ H (fun c d=>Q (!c) d) I h)
def yzf (ta tb:TE):TE:=fun σ H Q=>ta σ H fun x H1=>∃ c,x=.bl c/\if c=true then tb σ H1 Q else Q (.bl false) H1
def yzv (ta:TE):TE:=fun σ H Q=>ta σ H fun x H1=>∃ c,x=.bl c/\Q (.bl (!c)) H1
theorem z5 {op} {t:TE} (h:PE X a t):PE X (.BoolOp op [a] pos) t:=.mk fun b s σ H Q I c=>BoolOp_one (h b s σ H Q I c)
theorem ua (ha:PE X a ta) (hb:PE X (.BoolOp .And (b :: ji) pos) tb):PE X (.BoolOp .And (a :: b :: ji) pos) (yzf ta tb):=by
 refine .mk fun d s σ H Q I h=>?_;refine BoolOp_and (thn (ha d s σ H _ I h) fun v i h'=>?_);obtain ⟨x,f,g,j,e⟩:=h';obtain ⟨c,rfl,e⟩:=e;cases j;refine cR ?_
 cases c with
 | true=>exact hb d i σ f Q g e
 | false=>exact ⟨.bl false,f,g,rfl,e⟩
theorem yyf (ha:PE X a ta):PE X (.UnaryOp .Not a pos) (yzv ta):=by
 refine .mk fun b s σ H Q I h=>?_;refine UnaryOp_ (thn (ha b s σ H _ I h) fun v i h'=>?_);obtain ⟨x,e,f,g,d⟩:=h';obtain ⟨c,rfl,d⟩:=d;cases g;exact not_of (cR ⟨.bl (!c),e,f,rfl,d⟩)
def tIf (t:TT) (ta tb:TE):TE:=fun σ H Q=>t σ H fun c H1=>if c=true then ta σ H1 Q else tb σ H1 Q
theorem π {c:Expr} (hc:PT X c tA) (ha:PE X a ta) (hb:PE X b tb):PE X (.IfExp c a b pos) (tIf tA ta tb):=by
 refine .mk fun e s σ H Q I h=>?_;refine wpAny_IfExp (thn (hc e s σ H _ I h) fun d i ⟨f,j,g⟩=>?_)
 cases d with
 | true=>exact ha e i σ f Q j g
 | false=>exact hb e i σ f Q j g
end
def SqL (K:W.Frag) (H:Hp) (a:Addr) (xs:List V):Prop :=
 Rd H a (.lst xs) \/
  ∃ (o:Obj) (its:Array Value) (n:Nat),K.lookup a=some o/\o.cls=.type "list"/\o.dict=none/\o.data=.seq its n/\its.size <= sizeLine/\wx xs its.toList
def SqT (K:W.Frag) (H:Hp) (a:Addr) (xs:List V):Prop :=
 Rd H a (.tup xs) \/
  ∃ (o:Obj) (its:Array Value) (n:Nat),K.lookup a=some o/\o.cls=.type "tuple"/\o.data=.seq its n/\its.size <= sizeLine/\wx xs its.toList
def vdn:Value->Option V
 | .none=>some .non
 | .bool b=>some (.bl b)
 | .int i _=>some (.int i)
 | .str x _=>some (.str x)
 | .bytes b _=>some (.byt b)
 | .float b _=>some (.flt b)
 | .ref a=>some (.ref a)
 | .type n=>some (.ty n)
 | _=>none
theorem xh.abs {x:V} (r:xh x u):vdn u=some x:=by
 cases x with
 | non=>cases r; rfl
 | bl _=>cases r; rfl
 | int _=>obtain ⟨t,rfl⟩:=r; rfl
 | str _=>obtain ⟨t,rfl⟩:=r; rfl
 | byt _=>obtain ⟨t,rfl⟩:=r; rfl
 | flt _=>obtain ⟨t,rfl⟩:=r; rfl
 | ref _=>cases r; rfl
 | ty _=>cases r; rfl
theorem xh.inj {x:V} (r:xh x u) (q:xh y u):x=y:=bX (r.abs.symm.trans q.abs)
theorem wx.inj:∀ {xs ys:List V} {us:List Value},wx xs us->wx ys us->xs=ys
 | _,_,_,.nil,.nil=>rfl
 | _,_,_,.cons r t,.cons r' t'=>by rw [r.inj r',wx.inj t t']
section
variable {s:Shared} {ys:List V}
theorem SqL.of {K:W.Frag} (h:H a=some (.lst xs)):SqL K H a xs:=.inl (.inl h)
theorem SqT.of {K:W.Frag} (h:H a=some (.tup xs)):SqT K H a xs:=.inl (.inl h)
theorem Inv.list (I:Inv X pins σ H s) (h:SqL X.K H a xs):∃ its:List Value,wx xs its/\PlainL s.heap a its.toArray/\xs.length <= sizeLine:=by
 rcases h with h | ⟨o,its,n,c,b,d,f,g,r⟩
 .obtain ⟨z,its,n,r,e⟩:=h.ok I.hok;exact ⟨its,r,⟨_,n,e,rfl,rfl,rfl⟩,z⟩
 .refine ⟨its.toList,r,⟨o,n,I.kIn a o c,b,d,by simpa using f⟩,?_⟩;have e:=r.length;simp only [cN] at e;omega
theorem Inv.tuple (I:Inv X pins σ H s) (h:SqT X.K H a xs):∃ its:List Value,wx xs its/\IsTup s.heap a its.toArray/\xs.length <= sizeLine:=by
 rcases h with h | ⟨o,its,n,b,d,c,f,r⟩
 .obtain ⟨z,its,r,p⟩:=h.ok I.hok;exact ⟨its,r,p,z⟩
 .refine ⟨its.toList,r,⟨o,I.kIn a o b,d,n,by simpa using c⟩,?_⟩;have e:=r.length;simp only [cN] at e;omega
theorem Inv.list_inj (I:Inv X pins σ H s) (h:SqL X.K H a xs) (h':SqL X.K H a ys):xs=ys:=by
 obtain ⟨c,r,⟨o,n,e,_,_,d⟩,_⟩:=I.list h;obtain ⟨b,i,⟨j,k,f,_,_,g⟩,_⟩:=I.list h';rw [e] at f; cases f;rw [d] at g;injection g with d1 _;have:c=b:=by simpa using congrArg Array.toList d1
 subst this;exact r.inj i
theorem Inv.tuple_inj (I:Inv X pins σ H s) (h:SqT X.K H a xs) (h':SqT X.K H a ys):xs=ys:=by
 obtain ⟨c,r,⟨o,e,_,n,d⟩,_⟩:=I.tuple h;obtain ⟨b,i,⟨j,f,_,k,g⟩,_⟩:=I.tuple h';rw [e] at f; cases f;rw [d] at g;injection g with d1 _;have:c=b:=by simpa using congrArg Array.toList d1
 subst this;exact r.inj i
end
abbrev Cx.wish (X:Cx) (E:Value->Shared->Prop):Cx:={ X with xe:=E }
abbrev Cx.nox (X:Cx):Cx:=X.wish fun _ _=>False
theorem Cx.Ok.wish (ok:X.Ok) (E:Value->Shared->Prop):(X.wish E).Ok :=
 ⟨ok.mod,ok.kind,ok.glob,ok.blt,ok.above,ok.inj,ok.has,ok.cab,ok.hd,ok.frames,ok.stk,ok.exf,ok.bs,ok.bsz,ok.noex,ok.exfs,ok.funs,ok.frf⟩
theorem Cx.Ok.unwish (ok:(X.wish E).Ok):X.Ok :=
 ⟨ok.mod,ok.kind,ok.glob,ok.blt,ok.above,ok.inj,ok.has,ok.cab,ok.hd,ok.frames,ok.stk,ok.exf,ok.bs,ok.bsz,ok.noex,ok.exfs,ok.funs,ok.frf⟩
section
variable {s:Shared}
theorem Inv.wish (I:Inv X pins σ H s) (E:Value->Shared->Prop):Inv (X.wish E) pins σ H s:=⟨I.ok.wish E,I.os,I.bare,I.base,I.loc,I.cell,I.free,I.freeC,I.pin,I.hok,I.len⟩
theorem Inv.unwish (I:Inv (X.wish E) pins σ H s):Inv X pins σ H s:=⟨I.ok.unwish,I.os,I.bare,I.base,I.loc,I.cell,I.free,I.freeC,I.pin,I.hok,I.len⟩
theorem SP.unwish {D:Á} {f:Flow} (h:SP (X.wish E) pins D f s'):SP X pins D f s':=by
 cases f with
 | next=>obtain ⟨σ',a,I,q⟩:=h; exact ⟨σ',a,I.unwish,q⟩
 | brk=>obtain ⟨σ',a,I,q⟩:=h; exact ⟨σ',a,I.unwish,q⟩
 | cont=>obtain ⟨σ',a,I,q⟩:=h; exact ⟨σ',a,I.unwish,q⟩
 | ret u=>obtain ⟨v,σ',a,I,r,q⟩:=h; exact ⟨v,σ',a,I.unwish,r,q⟩
theorem PSs.nox {st:List Stmt} {t:TS} (h:PSs X.nox st t):PSs X st t:=.mk fun a s σ H D I b =>
 cT (h a s σ H D (I.wish _) b) (fun _ _ q=>q.unwish) fun _ _ z=>False.elim z
end
section
variable {st:Stmt} {ji:List Stmt} {t u:TS} {e:Expr} {pos:Pos}
def yyw:TS:=fun D σ H=>D.nx σ H
def vb3 (t u:TS):TS:=fun D σ H=>t { D with nx:=u D } σ H
theorem y9:PSs X [] yyw:=.mk fun _ _ σ H _ I h=>wpAny_execs_nil ⟨σ,H,I,h⟩
theorem yh (h1:PS X st t) (h2:PSs X ji u):PSs X (st :: ji) (vb3 t u):=by
 refine .mk fun a s σ H D I h=>?_;refine wpAny_execs_cons (thn (h1 a s σ H { D with nx:=u D } I h) fun f d q=>?_)
 cases f with
 | next =>
  obtain ⟨σ',c,b,q⟩:=q;exact h2 a d σ' c D b q
 | ret v=>exact q
 | brk=>exact q
 | cont=>exact q
theorem yf (h1:PS X st t):PSs X [st] t:=by
 refine .mk fun a s σ H D I h=>?_;refine wpAny_execs_cons (thn (h1 a s σ H D I h) fun f b q=>?_)
 cases f with
 | next=>exact wpAny_execs_nil q
 | ret v=>exact q
 | brk=>exact q
 | cont=>exact q
theorem Inv.quiet {s:Shared} (I:Inv X pins σ H s):interactive X.env=false:=by simp [interactive,I.ok.kind]
def yy8 (te:TE):TS:=fun D σ H=>te σ H fun _ H1=>D.nx σ H1
theorem yt (he:PE X e te) (hs:swapsWith e none pos.line X.env=pure false:=by rfl):PS X (.Expr e pos) (yy8 te):=by
 refine .mk fun a s σ H D I h=>?_;exact wpAny_Expr_any (thn (he a s σ H _ I h) fun v f ⟨x,b,d,g,c⟩=>⟨σ,b,d,c⟩) I.quiet hs
def vci (te:TE):TS:=fun D σ H=>te σ H D.rt
theorem yu (he:PE X e te):PS X (.Return (some e) pos) (vci te):=by
 refine .mk fun a s σ H D I h=>?_;exact wpAny_Return_some (thn (he a s σ H _ I h) fun v g ⟨x,b,d,f,c⟩=>⟨x,σ,b,d,f,c⟩)
def yz5 (c:TT) (t u:TS):TS:=fun D σ H=>c σ H fun b H1=>if b=true then t D σ H1 else u D σ H1
theorem wa {c:Expr} {a b:List Stmt} {tc:TT} (hc:PT X c tc) (ha:PSs X a t) (hb:PSs X b u):PS X (.If c a b pos) (yz5 tc t u):=by
 refine .mk fun e s σ H D I h=>?_;refine wpAny_If (thn (hc e s σ H _ I h) fun d i ⟨f,j,g⟩=>?_)
 cases d with
 | true=>exact ha e i σ f D j g
 | false=>exact hb e i σ f D j g
def yt5:TS:=fun _ _ _=>False
theorem ť:PS X st yt5:=.mk fun _ _ _ _ _ _ h=>h.elim
end
abbrev TG:=V->St->Hp->(St->Hp->Prop)->Prop
abbrev TGs:=List V->St->Hp->(St->Hp->Prop)->Prop
def PG (X:Cx) (target:Expr) (t:TG):Prop :=
 ∀ (pins:List (Addr × Obj)) (s:Shared) (σ:St) (H:Hp) (v:V) (u:Value) (Q:St->Hp->Prop),Inv X pins σ H s->xh v u->t v σ H Q ->
  wpAny (model X.prog X.w) X.A (assign target X.env u) (fun _ s'=>∃ σ' H',Inv X pins σ' H' s'/\Q σ' H') X.xe s
def PGs (X:Cx) (ts:List Expr) (t:TGs):Prop :=
 ∀ (pins:List (Addr × Obj)) (s:Shared) (σ:St) (H:Hp) (vs:List V) (us:List Value) (Q:St->Hp->Prop),Inv X pins σ H s->wx vs us->t vs σ H Q ->
  wpAny (model X.prog X.w) X.A (assignInOrder ((assignEach ts X.env).map (·.2)) us) (fun _ s'=>∃ σ' H',Inv X pins σ' H' s'/\Q σ' H') X.xe s
section
variable {pos:Pos}
def xk (i:Nat):TG:=fun v σ H Q=>Q (σ.set i (some v)) H
theorem w6 {x:Str} (hN:X.N.Nodup) (hi:X.N[i]?=some x) (hx:Loc X.env.scope x) (hf:X.fn x=true\/X.env.scope.names.lookup x=some .local:=by first | exact .inl rfl | exact .inr rfl | assumption):PG X (.Name x pos) (xk i):=by
 intro a s σ H v u Q I r h;exact wpAny_assign_Name (ã I hN hi hx r (fun c b=>⟨_,H,b,h⟩) hf)
def ylu:TGs:=fun vs σ H Q=>vs=[]/\Q σ H
def jh (t:TG) (u:TGs):TGs:=fun vs σ H Q=>∃ v r,vs=v :: r/\t v σ H fun σ' H'=>u r σ' H' Q
theorem Ÿ:PGs X [] ylu:=by
 intro a s σ H b c Q I r h;obtain ⟨e,h⟩:=h;subst e;cases r;exact assignInOrder_nil ⟨σ,H,I,h⟩
theorem ug {e:Expr} {t:TG} {u:TGs} (h1:PG X e t) (h2:PGs X es u)
  (hs:(assignEach (e :: es) X.env).map (·.2)=assign e X.env :: (assignEach es X.env).map (·.2):=by rfl):PGs X (e :: es) (jh t u):=by
 intro a s σ H i j Q I r h;obtain ⟨v,k,b,h⟩:=h;subst b
 cases r with
 | cons r rr =>
  rw [hs];refine assignInOrder_cons (thn (h1 a s σ H _ _ _ I r h) fun _ f ⟨σ1,c,g,d⟩=>?_);exact h2 a f σ1 c _ _ Q g rr d
def ytz (K:W.Frag) (n:Nat) (t:TGs):TG:=fun v σ H Q=>∃ a xs,v=.ref a/\SqT K H a xs/\xs.length=n/\t xs σ H Q
theorem yex {k:Nat} {t:TGs} {n:Nat} (hc:X.calm=true) (h:PGs X es t)
  (hn:(assignEach es X.env).length=n:=by rfl) (hst:(assignEach es X.env).findIdx? (·.1)=none:=by rfl):PG X (.Tuple es k pos) (ytz X.K n t):=by
 intro c s σ H v u Q I r d;obtain ⟨a,j,g,i,w,d⟩:=d;subst g;cases r;obtain ⟨m,f,p,y⟩:=I.tuple i;refine assign_Tuple_tuple (I.ok.hd hc) p (by simp [hn,<- w,f.length]) hst fun l q=>?_;have x:Inv X c σ H { s with heap:=l }:=I.kept (t':=s.toks) fun b o e=>q b o (ci (bQ e)) e;exact h c _ σ H j _ Q x (by simpa using f) d
def ytx (te:TE) (g:TG):TS:=fun D σ H=>te σ H fun x H1=>g x σ H1 D.nx
theorem yvj {e:Expr} {g:TG} (he:PE X e te) (hg:PG X tg g) (hs:swapsWithSole [tg] e pos.line X.env=pure false:=by rfl) (hw:swappedStores [tg] e X.env=pure none:=by rfl)
  (h1:(assignEach [tg] X.env).map (·.2)=[assign tg X.env]:=by rfl):PS X (.Assign [tg] e pos) (ytx te g):=by
 refine .mk fun a s σ H D I h=>?_;refine wpAny_Assign_stores (thn (he a s σ H _ I h) fun v d h'=>?_) hs hw;obtain ⟨x,b,f,i,c⟩:=h';rw [h1];exact thn (hg a d σ b x v _ f i c) fun _ j q=>q
theorem yw {x:Str} {e:Expr} {pos':Pos} (hN:X.N.Nodup) (hi:X.N[i]?=some x) (hx:Loc X.env.scope x) (he:PE X e te) (hs:swapsWith e (some (.Name x pos')) pos.line X.env=pure false:=by rfl) (hf:X.fn x=true\/X.env.scope.names.lookup x=some .local:=by first | exact .inl rfl | exact .inr rfl | assumption) :
  PS X (.Assign [.Name x pos'] e pos) (ytx te (xk i)):=by
 refine .mk fun a s σ H D I h=>?_;refine wpAny_Assign_Name (thn (he a s σ H _ I h) fun v k h'=>?_) hs;obtain ⟨y,b,f,g,c⟩:=h';exact ã f hN hi hx g (fun j d=>⟨_,b,d,c⟩) hf
end
section
variable {pos:Pos}
def yw1 (c:TT) (tb:TS):TS:=fun D σ H=>∃ W:Nat->St->Hp->Prop,(∃ m,W m σ H)/\∀ m σ H,W m σ H ->
 c σ H fun b H1=>if b=true then ∃ N:St->Hp->Prop,(∀ σ' H',N σ' H'->∃ m',m' < m/\W m' σ' H')/\tb { D with nx:=N,ct:=N,bk:=D.nx } σ H1 else D.nx σ H1
theorem zf {c:Expr} {tc:TT} {tb:TS} (hp:PassesOwn (model X.prog X.w) X.A X.env X.xe) (hc:PT X c tc) (hb:PSs X body tb):PS X (.While c body [] pos) (yw1 tc tb):=by
 refine .mk fun a s σ H D I h=>?_;obtain ⟨W,⟨C,x⟩,d⟩:=h;refine wpAny_While (codeAny_whileLoop (fun n y=>∃ σ' H',Inv X a σ' H' y/\W n σ' H') ?_ C ⟨σ,H,I,x⟩);rintro n E ⟨σ1,t,B,z⟩;refine wpAny_passesOwn hp (thn (hc a E σ1 t _ B (d n σ1 t z)) fun b u ⟨r,p,i⟩=>?_)
 cases b with
 | true =>
  obtain ⟨N,q,i⟩:=i;rw [if_pos rfl];refine wpAny_passesOwn hp (thn (hb a u σ1 r _ p i) fun f F g=>?_)
  cases f with
  | next =>
   obtain ⟨σ3,e,o,k⟩:=g;obtain ⟨l,j,m⟩:=q σ3 e k;exact ⟨l,j,σ3,e,o,m⟩
  | cont =>
   obtain ⟨σ3,e,o,k⟩:=g;obtain ⟨l,j,m⟩:=q σ3 e k;exact ⟨l,j,σ3,e,o,m⟩
  | brk=>exact g
  | ret v=>exact g
 | false =>
  rw [if_neg bS];exact wpAny_execs_nil ⟨σ1,r,p,i⟩
end
structure It where
 go:Nat->Hp->Prop
 yld:Nat->Hp->V->Hp->Prop
 stop:Nat->Hp->Prop
def yc6 (X:Cx) (pins:List (Addr × Obj)) (H:Hp) (b:Addr):Prop :=
 H b=none/\b≠X.env.locals/\b∉X.fs/\(b∈X.ex\/X.s₀.heap.objs.size <= b)/\(∀ x c,X.env.cells.lookup x=some c->c≠b)/\∀ p∈X.pn++pins,p.1≠b
theorem Inv.fpOk {s:Shared} {b:Addr} (I:Inv X pins σ H s) (hb:s.heap.objs.size <= b) (hn:H' b=none):yc6 X pins H' b:=by
 refine ⟨hn,Nat.ne_of_gt (ck I.lt hb),I.nofs hb,.inr (cn I.sz hb),fun x c e z=>?_,fun p a z=>?_⟩
 .obtain ⟨v,q⟩:=I.cell x c e;exact absurd (ck q.lt (by rw [z]; exact hb)) (de _)
 .exact absurd (ck (bQ (I.pin p a).1) (by rw [z]; exact hb)) (de _)
structure yf9 (P:Program) (w:World) (K:W.Frag) (tg:Expr) (J:It) (fp:List Addr) (it:Addr) (tn:Nat->Heap->Prop):Prop where
 mem:it∈fp
 obj:∀ i h,tn i h->∀ b∈fp,∃ o,h.get? b=some o/\∀ v,o.data≠.cell v
 keep:∀ i h h',tn i h->(∀ b∈fp,∀ o,h.get? b=some o->h'.get? b=some o)->tn i h'
 item:∀ (X:Cx),X.prog=P->X.w=w->X.K=K->X.calm=true->∀ (i:Nat) (pins:List (Addr × Obj)) (s:Shared) (σ:St) (H:Hp) (E:Value->Shared->Prop),Inv X pins σ H s->(∀ b∈fp,yc6 X pins H b)->tn i s.heap->J.go i H ->
  wpAny (model P w) X.A (pyNext (.ref it)) (fun r s1=>∃ u,r=some u /\
   wpAny (model P w) X.A (letOwnedTupleGo tg (.ref it) u) (fun _ s2=>∃ x H',Inv X pins σ H' s2/\xh x u/\J.yld i H x H'/\tn (i+1) s2.heap/\∀ b∈fp,H' b=none) E s1) E s
 done:∀ (X:Cx),X.prog=P->X.w=w->X.K=K->X.calm=true->∀ (i:Nat) (pins:List (Addr × Obj)) (s:Shared) (σ:St) (H:Hp) (E:Value->Shared->Prop),Inv X pins σ H s->(∀ b∈fp,yc6 X pins H b)->tn i s.heap->J.stop i H ->
  wpAny (model P w) X.A (pyNext (.ref it)) (fun r s1=>r=none/\Inv X pins σ H s1) E s
 self:∀ (A:Around) (i:Nat) (s:Shared) (Q:Value->Shared->Prop) (E:Value->Shared->Prop),tn i s.heap->Q (.ref it) s->wpAny (model P w) A (pyIter (.ref it)) Q E s
abbrev TI:=St->Hp->(It->Hp->Prop)->Prop
def PIE (X:Cx) (pins:List (Addr × Obj)) (σ:St) (tg:Expr) (R:It->Hp->Prop) (itv:Value) (s2:Shared):Prop :=
 ∃ (it:Addr) (fp:List Addr) (tn:Nat->Heap->Prop) (J:It) (H':Hp),itv=.ref it/\Inv X pins σ H' s2/\yf9 X.prog X.w X.K tg J fp it tn/\tn 0 s2.heap/\(∀ b∈fp,yc6 X pins H' b)/\R J H'
def PI (X:Cx) (tg iter:Expr) (wi:TI):Prop :=
 ∀ (pins:List (Addr × Obj)) (s:Shared) (σ:St) (H:Hp) (R:It->Hp->Prop),Inv X pins σ H s->wi σ H R ->
  wpAny (model X.prog X.w) X.A (eval iter X.env) (fun v s1=>wpAny (model X.prog X.w) X.A (pyIter v) (PIE X pins σ tg R) X.xe s1) X.xe s
theorem yfz {A:Around} {s:Shared} {it:Addr} {o:Obj} {n:String} {vs:Array Value} {Q:Unit->Shared->Prop} (ho:s.heap.get? it=some o) (hc:o.cls=.type n) (hd:o.data=.fields vs)
  (hn:["enumerate","zip","dict_itemiterator","dict_reverseitemiterator","odict_iterator","itertools.zip_longest","itertools.pairwise"].contains n=false) (hQ:Q () s):wpAny M A (letOwnedTupleGo tg (.ref it) u) Q E s:=by
 unfold letOwnedTupleGo
 cases tg <;> first
  | exact bO hQ
  | (cases u <;> first
    | exact bO hQ
    | (refine bI (wpAny_load ho ?_)
       rw [hc,hd];show wpAny M A (if (["enumerate","zip","dict_itemiterator","dict_reverseitemiterator","odict_iterator","itertools.zip_longest","itertools.pairwise"].contains n && vs[0]? == some (rawInt _))=true then _ else _) Q E s;rw [if_neg (by intro h; rw [hn,Bool.false_and] at h; cases h)];exact bO hQ))
def Itl (K:W.Frag) (a:Addr):It :=
 ⟨fun i H=>∃ xs x,SqL K H a xs/\xs[i]?=some x,fun i H x H'=>H'=H/\∀ xs,SqL K H a xs->xs[i]?=some x,fun i H=>∃ xs,SqL K H a xs/\xs.length <= i⟩
def Itt (K:W.Frag) (a:Addr):It :=
 ⟨fun i H=>∃ xs x,SqT K H a xs/\xs[i]?=some x,fun i H x H'=>H'=H/\∀ xs,SqT K H a xs->xs[i]?=some x,fun i H=>∃ xs,SqT K H a xs/\xs.length <= i⟩
def Itr (lo:Int) (n:Nat):It:=⟨fun i _=>i < n,fun i H x H'=>H'=H/\x=.int (lo+i),fun i _=>n <= i⟩
theorem ygq {w:World} {K:W.Frag} (a it:Addr):yf9 P w K tg (Itl K a) [it] it (fun i h=>h.IsListIter it a i) where
 mem:=by simp
 obj:=fun i h f b j=>by
  have e:b=it:=by simpa using j
  subst e;obtain ⟨o,e,c,d⟩:=f;exact ⟨o,e,fun v z=>by rw [d] at z; cases z⟩
 keep:=fun i h n f k=>f.at fun o e=>k it (by simp) o e
 item:=by
  intro X y D r N i g s σ H E I m f A;subst y D r;obtain ⟨O,x,q,G⟩:=A;obtain ⟨C,L,p,R⟩:=I.list q;obtain ⟨u,Y,T⟩:=L.get G;obtain ⟨t,F,Z,M,B,J⟩:=m it (by simp);refine wpAny_pyNext_list_item f p.isList (x:=u) (by simpa using Y) fun n l Q=>?_;have I1:Inv X g σ H { s with heap:=n }:=I.turned (t':=s.toks) (fun b o j e=>(Q.2 b j).trans e) t F M B J;obtain ⟨o,e,c,d⟩:=id l;exact ⟨u,rfl,yfz (s:={ s with heap:=n }) e c d (by decide) ⟨x,H,I1,T,⟨rfl,fun ys S=>by rw [I.list_inj S q]; exact G⟩,l,fun b j=>(m b j).1⟩⟩
 done:=by
  intro X y D r N i g s σ H E I m f A;subst y D r;obtain ⟨O,q,G⟩:=A;obtain ⟨C,L,p,R⟩:=I.list q;obtain ⟨t,F,Z,M,B,J⟩:=m it (by simp);have hl:=L.length;exact wpAny_pyNext_list_end (I.ok.hd N) f p.isList (by simp; omega) fun n U=>⟨rfl,I.turned (t':=s.toks) (fun b o j e=>U b o j e) t F M B J⟩
 self:=fun _ _ _ _ _ f h=>wpAny_pyIter_listiter f h
theorem yfv {w:World} {K:W.Frag} (a it:Addr):yf9 P w K tg (Itt K a) [it] it (fun i h=>h.IsTupleIter it a i) where
 mem:=by simp
 obj:=fun i h f b j=>by
  have e:b=it:=by simpa using j
  subst e;obtain ⟨o,e,c,d⟩:=f;exact ⟨o,e,fun v z=>by rw [d] at z; cases z⟩
 keep:=fun i h q f k=>f.at fun o e=>k it (by simp) o e
 item:=by
  intro X A D t N i g s σ H E I n f B;subst A D t;obtain ⟨O,x,r,G⟩:=B;obtain ⟨l,L,p,R⟩:=I.tuple r;obtain ⟨u,Y,T⟩:=L.get G;obtain ⟨y,F,Z,M,C,J⟩:=n it (by simp);refine wpAny_pyNext_tuple_item f (show s.heap.IsTuple a l.toArray from p) (x:=u) (by simpa using Y) fun q m Q=>?_;have I1:Inv X g σ H { s with heap:=q }:=I.turned (t':=s.toks) (fun b o j e=>(Q.2 b j).trans e) y F M C J;obtain ⟨o,e,c,d⟩:=id m;exact ⟨u,rfl,yfz (s:={ s with heap:=q }) e c d (by decide) ⟨x,H,I1,T,⟨rfl,fun ys S=>by rw [I.tuple_inj S r]; exact G⟩,m,fun b j=>(n b j).1⟩⟩
 done:=by
  intro X A D t N i g s σ H E I n f B;subst A D t;obtain ⟨O,r,G⟩:=B;obtain ⟨l,L,p,R⟩:=I.tuple r;obtain ⟨y,F,Z,M,C,J⟩:=n it (by simp);have hl:=L.length;exact wpAny_pyNext_tuple_end (I.ok.hd N) f (show s.heap.IsTuple a l.toArray from p) (by simp; omega) fun q U=>⟨rfl,I.turned (t':=s.toks) (fun b o j e=>U b o j e) y F M C J⟩
 self:=fun _ _ _ _ _ f h=>wpAny_pyIter_tupleiter f h
theorem yfr {w:World} {K:W.Frag} (it:Addr) (lo:Int) (n:Nat):yf9 P w K tg (Itr lo n) [it] it (fun i h=>IsRangeIter h it (lo+(i:Nat) * 1) ((n:Int) - (i:Nat)) 1) where
 mem:=by simp
 obj:=fun i h a b d=>by
  have e:b=it:=by simpa using d
  subst e
  exact ⟨_,a,fun v z=>by
   have F:Data.fields _=Data.cell v:=z;cases F⟩
 keep:=fun i h j a k=>k it (by simp) _ a
 item:=by
  intro X q x l m i c s σ H E I g a r;subst q x l;obtain ⟨p,y,J,B,u,A⟩:=g it (by simp);have W:=Walks.range (prog:=X.prog) (w:=X.w) (I.ok.hd m) it lo 1 n;refine W.item i s _ _ r a fun v j C D f L=>?_;obtain ⟨t,rfl⟩:=D;have M:Inv X c σ H { s with heap:=j,toks:=C }:=I.turned (fun b o d e=>L b o (by simpa using d) e) p y B u A;refine ⟨_,rfl,yfz (s:={ s with heap:=j,toks:=C }) (n:="range_iterator") f rfl rfl (by decide) ⟨.int (lo+i),H,M,⟨t,?_⟩,⟨rfl,rfl⟩,f,fun b d=>(g b d).1⟩⟩;rw [Int.mul_one]
 done:=by
  intro X q x l m i c s σ H E I g a r;subst q x l;obtain ⟨p,y,J,B,u,A⟩:=g it (by simp);exact wpAny_pyNext_range_end (I.ok.hd m) a (by have:n <= i:=r; omega) fun j G=>⟨rfl,I.turned (t':=s.toks) (fun b o d e=>G b o d e) p y B u A⟩
 self:=fun _ _ _ _ _ a h=>wpAny_pyIter_rangeiter a h
def yzt (K:W.Frag) (tl:TE):TI:=fun σ H R=>tl σ H fun x H1=>∃ a,x=.ref a/\(∃ xs,SqL K H1 a xs)/\R (Itl K a) H1
def vcr (K:W.Frag) (tl:TE):TI:=fun σ H R=>tl σ H fun x H1=>∃ a,x=.ref a/\(∃ xs,SqT K H1 a xs)/\R (Itt K a) H1
theorem w9 {l:Expr} {tl:TE} (hl:PE X l tl):PI X tg l (yzt X.K tl):=by
 intro c s σ H R I h;refine thn (hl c s σ H _ I h) fun v d h'=>?_;obtain ⟨x,k,f,n,m⟩:=h';obtain ⟨a,e,⟨t,i⟩,q⟩:=m;subst e;cases n;obtain ⟨j,r,p,u⟩:=f.list i;refine wpAny_pyIter_list p.isList ?_;refine ⟨d.heap.objs.size,[d.heap.objs.size],_,_,k,rfl,f.kept (t':=d.toks) fun b o e=>bK _ e,ygq a _,⟨_,bU _ rfl,rfl,rfl⟩,fun b g=>?_,q⟩;have e:b=d.heap.objs.size:=by simpa using g
 subst e;exact f.fpOk (bL _) (f.hok.fresh (bL _))
theorem yez {l:Expr} {tl:TE} (hl:PE X l tl):PI X tg l (vcr X.K tl):=by
 intro c s σ H R I h;refine thn (hl c s σ H _ I h) fun v d h'=>?_;obtain ⟨x,k,f,n,m⟩:=h';obtain ⟨a,e,⟨t,j⟩,q⟩:=m;subst e;cases n;obtain ⟨g,r,p,u⟩:=f.tuple j;refine wpAny_pyIter_tuple (show d.heap.IsTuple a g.toArray from p) ?_;refine ⟨d.heap.objs.size,[d.heap.objs.size],_,_,k,rfl,f.kept (t':=d.toks) fun b o e=>bK _ e,yfv a _,⟨_,bU _ rfl,rfl,rfl⟩,fun b i=>?_,q⟩;have e:b=d.heap.objs.size:=by simpa using i
 subst e;exact f.fpOk (bL _) (f.hok.fresh (bL _))
theorem ydb {s:Shared} {R:It->Hp->Prop} {lo hi:Int} {t u v:Tok} {tk:Nat} (I:Inv X pins σ H s) (h1:-(2 ^ 62) <= lo) (h2:lo < 2 ^ 62) (h3:-(2 ^ 62) <= hi) (h4:hi < 2 ^ 62)
  (q:R (Itr lo (hi - lo).toNat) H):wpAny (model X.prog X.w) X.A (pyIter (.ref s.heap.objs.size)) (PIE X pins σ tg R) E { s with heap:=s.heap.push { cls:=.type "range",data:=.fields #[.int lo t,.int hi u,.int 1 v] },toks:=tk }:=by
 refine wpAny_pyIter_range (IsRange.new ..) (small_one h1 h2 h3 h4) ?_;have a:Inv X pins σ H { s with heap:=s.heap.push { cls:=.type "range",data:=.fields #[.int lo t,.int hi u,.int 1 v] },toks:=tk }:=I.kept fun b o e=>bK _ e
 refine ⟨(s.heap.push { cls:=.type "range",data:=.fields #[.int lo t,.int hi u,.int 1 v] }).objs.size,[(s.heap.push { cls:=.type "range",data:=.fields #[.int lo t,.int hi u,.int 1 v] }).objs.size],_,_,H,rfl,
  a.kept (t':=tk) fun b o e=>bK _ e,yfr _ lo (hi - lo).toNat,?_,fun b f=>?_,q⟩
 .have c:lo+((0:Nat):Int) * 1=lo:=by simp
  have d:(((hi - lo).toNat:Nat):Int) - ((0:Nat):Int)=Builtin.Range.rangeSize lo hi 1:=by rw [rangeSize_one]; split <;> omega
  show IsRangeIter _ _ (lo+((0:Nat):Int) * 1) ((((hi - lo).toNat:Nat):Int) - ((0:Nat):Int)) 1;rw [c,d];exact bU _ rfl
 .have e:b=(s.heap.push { cls:=.type "range",data:=.fields #[.int lo t,.int hi u,.int 1 v] }).objs.size:=by simpa using f
  subst e;exact a.fpOk (bL _) (a.hok.fresh (bL _))
def yy9 (ta:TA):TI:=fun σ H R=>ta σ H fun vs H1=>∃ j:Int,vs=[.int j]/\-(2 ^ 62) <= j/\j < 2 ^ 62/\R (Itr 0 j.toNat) H1
def yy3 (ta:TA):TI:=fun σ H R=>ta σ H fun vs H1=>∃ i j:Int,vs=[.int i,.int j]/\(-(2 ^ 62) <= i/\i < 2 ^ 62/\-(2 ^ 62) <= j/\j < 2 ^ 62)/\R (Itr i (j - i).toNat) H1
theorem uw {a:Expr} {ta:TA} {pos:Pos} (hg:Gl X "range") (hm:X.mg "range"=none) (ha:PA X [a] ta) (hs:starEach [a] X.env=[(false,eval a X.env)]:=by rfl):PI X tg (.Call (.Name "range" p) [a] [] pos) (yy9 ta):=by
 intro b s σ H R I h;refine Call_ (Ē I hg hm boot_range (PyProof.Rows.callWith_type1 (thn (ha pos b s σ H _ I h) fun k m h'=>?_) hs rfl));obtain ⟨i,l,f,g,c⟩:=h';obtain ⟨j,e,c,d,q⟩:=c;subst e
 cases g with
 | cons r rr =>
  cases rr;obtain ⟨t,rfl⟩:=r;exact call_range_1 (ydb f (by omega) (by omega) c d (by simpa using q))
theorem ygh {a b:Expr} {ta:TA} {pos:Pos} (hg:Gl X "range") (hm:X.mg "range"=none) (ha:PA X [a,b] ta) (hs:starEach [a,b] X.env=[(false,eval a X.env),(false,eval b X.env)]:=by rfl) (hs2:starEach [b] X.env=[(false,eval b X.env)]:=by rfl) :
  PI X tg (.Call (.Name "range" p) [a,b] [] pos) (yy3 ta):=by
 intro c s σ H R I h;refine Call_ (Ē I hg hm boot_range (PyProof.Rows.callWith_type1 (thn (ha pos c s σ H _ I h) fun u w h'=>?_) (by rw [hs,hs2]) (by rw [hs2]; rfl)));obtain ⟨n,v,l,m,d⟩:=h';obtain ⟨i,j,e,⟨d,f,g,k⟩,q⟩:=d;subst e
 cases m with
 | cons r rr =>
  cases rr with
  | cons r' rr =>
   cases rr;obtain ⟨t,rfl⟩:=r;obtain ⟨o,rfl⟩:=r';exact call_range_2 (ydb l d f g k q)
def vcm (wi:TI) (g:TG) (tb:TS):TS:=fun D σ H=>wi σ H fun J H1=>∃ W:Nat->Nat->St->Hp->Prop,(∃ m,W 0 m σ H1)/\∀ i m σ H,W i m σ H ->
 (J.stop i H/\D.nx σ H)\/(J.go i H/\∃ N:St->Hp->Prop,(∀ σ' H',N σ' H'->∃ m',m' < m/\W (i+1) m' σ' H')/\∀ x H',J.yld i H x H'->g x σ H' fun σ2 H2=>tb { D with nx:=N,ct:=N,bk:=D.nx } σ2 H2)
def ye2 (fp:List Addr) (h:Heap):List (Addr × Obj):=fp.filterMap fun b=>(h.get? b).map fun o=>(b,o)
theorem xq {h:Heap} {b:Addr} {o:Obj} (hb:b∈fp) (e:h.get? b=some o):(b,o)∈ye2 fp h:=List.mem_filterMap.mpr ⟨b,hb,by rw [e]; rfl⟩
theorem ygd {h:Heap} {p:Addr × Obj} (hp:p∈ye2 fp h):p.1∈fp/\h.get? p.1=some p.2:=by
 obtain ⟨b,a,e⟩:=List.mem_filterMap.mp hp
 cases q:h.get? b with
 | none=>rw [q] at e; cases e
 | some o =>
  rw [q] at e;have c:(b,o)=p:=bX e;subst c;exact ⟨a,q⟩
theorem Inv.pinned {s:Shared} (I:Inv X pins σ H s) (hf:∀ b∈fp,yc6 X pins H b) (ho:∀ b∈fp,∃ o,s.heap.get? b=some o/\∀ v,o.data≠.cell v):Inv X (pins++ye2 fp s.heap) σ H s :=
 I.pins_of fun p i=>(cr.mp i).elim (fun z=>I.pin p (bY _ z)) fun z=>by
  obtain ⟨a,e⟩:=ygd z;obtain ⟨h,g,f,_⟩:=hf p.1 a;obtain ⟨o,c,d⟩:=ho p.1 a;rw [e] at c; cases c;exact ⟨e,h,g,f,d⟩
theorem Inv.unpinned {pl:List (Addr × Obj)} {s:Shared} (I:Inv X (pins++pl) σ H s):Inv X pins σ H s:=I.pins_of fun p a=>I.pin p (bY _ (db _ a))
theorem z0 {iter:Expr} {wi:TI} {g:TG} {tb:TS} {pos:Pos} (hp:PassesOwn (model X.prog X.w) X.A X.env X.xe) (hc:X.calm=true) (hi:PI X tg iter wi) (hg:PG X tg g) (hb:PSs X body tb)
  (hs:∀ x,foldedSetIterable iter X.env x=pure x:=by intro _; rfl):PS X (.For tg iter body [] pos) (vcm wi g tb):=by
 refine .mk fun a s σ H D I h=>?_;refine wpAny_For (thn (hi a s σ H _ I h) fun v s1 h1=>thn h1 fun a0 s2 h2=>?_) hs;obtain ⟨it,t,R,J,H2,e,I2,T,L,S,W,⟨m0,w0⟩,z⟩:=h2;subst e;have j:∀ {H':Hp},(∀ b∈t,H' b=none)->∀ b∈t,yc6 X a H' b:=fun hn b hb=>⟨hn b hb,(S b hb).2⟩;refine codeAny_forLoop_any (fun n U=>∃ i σ' H',Inv X a σ' H' U/\R i U.heap/\(∀ b∈t,H' b=none)/\W i n σ' H') ?_ m0 ⟨0,σ,H2,I2,L,fun b hb=>(S b hb).1,w0⟩;rintro n s3 ⟨i,σ3,G,Y,y,C,w3⟩;rcases z i n σ3 G w3 with ⟨F,qn⟩ | ⟨go,N,hN,B⟩
 .refine wpAny_passesOwn hp (thn (T.done X rfl rfl rfl hc i a s3 σ3 G X.xe Y (j C) y F) fun r s4 ⟨O,I4⟩=>?_);subst O;exact wpAny_execs_nil ⟨σ3,G,I4,qn⟩
 .refine wpAny_passesOwn hp (thn (T.item X rfl rfl rfl hc i a s3 σ3 G X.xe Y (j C) y go) fun r s4 ⟨u,O,h4⟩=>?_);subst O;refine wpAny_passesOwn hp (thn h4 fun _ Z h'=>?_);obtain ⟨x,Q,I5,r5,y5,q,K⟩:=h';have P:=I5.pinned (j K) (T.obj _ _ q);refine wpAny_passesOwn hp (thn (hg _ Z σ3 Q x u _ P r5 (B x Q y5)) fun _ s6 ⟨σ6,H6,I6,q6⟩=>?_);refine wpAny_passesOwn hp (thn (hb _ s6 σ6 H6 _ I6 q6) fun f M p=>?_)
  have l:∀ {σ7:St} {k:Hp},Inv X (a++ye2 t Z.heap) σ7 k M->N σ7 k->∃ m,m < n/\∃ i σ' H',Inv X a σ' H' M/\R i M.heap/\(∀ b∈t,H' b=none)/\W i m σ' H':=fun {σ7 k} c E=>by
   obtain ⟨m',hm,w7⟩:=hN σ7 k E;refine ⟨m',hm,i+1,σ7,k,c.unpinned,T.keep _ _ _ q fun b hb o e=>(c.pin (b,o) (bY _ (bY _ (xq hb e)))).1,fun b hb=>?_,w7⟩;obtain ⟨o,e,d⟩:=T.obj _ _ q b hb;exact (c.pin (b,o) (bY _ (bY _ (xq hb e)))).2.1
  cases f with
  | next=>obtain ⟨σ7,k,c,E⟩:=p; exact l c E
  | cont=>obtain ⟨σ7,k,c,E⟩:=p; exact l c E
  | brk=>obtain ⟨σ7,k,c,p⟩:=p; exact ⟨σ7,k,c.unpinned,p⟩
  | ret v=>obtain ⟨x7,σ7,k,c,r7,p⟩:=p; exact ⟨x7,σ7,k,c.unpinned,r7,p⟩
theorem jd {K:W.Frag} {g:TG} {tb:TS} {D:Á} (Pv:Nat->St->Hp->Prop) (h0:Pv 0 σ H) (hl:∀ i σ H,i <= xs.length->Pv i σ H->SqL K H a xs)
  (hs:∀ i x σ H,xs[i]?=some x->Pv i σ H->g x σ H fun σ2 H2=>tb { D with nx:=Pv (i+1),ct:=Pv (i+1),bk:=D.nx } σ2 H2) (hd:∀ σ H,Pv xs.length σ H->D.nx σ H) :
  ∃ W:Nat->Nat->St->Hp->Prop,(∃ m,W 0 m σ H)/\∀ i m σ H,W i m σ H ->
   ((Itl K a).stop i H/\D.nx σ H)\/((Itl K a).go i H/\∃ N:St->Hp->Prop,(∀ σ' H',N σ' H'->∃ m',m' < m/\W (i+1) m' σ' H')/\∀ x H',(Itl K a).yld i H x H'->g x σ H' fun σ2 H2=>tb { D with nx:=N,ct:=N,bk:=D.nx } σ2 H2):=by
 refine ⟨fun i m σ H=>m=xs.length - i/\i <= xs.length/\Pv i σ H,⟨xs.length,by simp,cb _,h0⟩,?_⟩;rintro i m σ H ⟨rfl,b,p⟩;have q:=hl i σ H b p;by_cases hlt:i < xs.length
 .refine .inr ⟨⟨xs,xs[i],q,by simp [hlt]⟩,Pv (i+1),fun σ' H' c=>⟨xs.length - (i+1),by omega,rfl,hlt,c⟩,fun x H' y=>?_⟩;obtain ⟨e,y⟩:=y;subst e;exact hs i x σ _ (y xs q) p
 .have e:i=xs.length:=by omega
  subst e;exact .inl ⟨⟨xs,q,bL _⟩,hd σ H p⟩
theorem θ {lo:Int} {n:Nat} {g:TG} {tb:TS} {D:Á} (Pv:Nat->St->Hp->Prop) (h0:Pv 0 σ H)
  (hs:∀ i σ H,i < n->Pv i σ H->g (.int (lo+i)) σ H fun σ2 H2=>tb { D with nx:=Pv (i+1),ct:=Pv (i+1),bk:=D.nx } σ2 H2) (hd:∀ σ H,Pv n σ H->D.nx σ H) :
  ∃ W:Nat->Nat->St->Hp->Prop,(∃ m,W 0 m σ H)/\∀ i m σ H,W i m σ H ->
   ((Itr lo n).stop i H/\D.nx σ H)\/((Itr lo n).go i H/\∃ N:St->Hp->Prop,(∀ σ' H',N σ' H'->∃ m',m' < m/\W (i+1) m' σ' H')/\∀ x H',(Itr lo n).yld i H x H'->g x σ H' fun σ2 H2=>tb { D with nx:=N,ct:=N,bk:=D.nx } σ2 H2):=by
 refine ⟨fun i m σ H=>m=n - i/\i <= n/\Pv i σ H,⟨n,by simp,cb _,h0⟩,?_⟩;rintro i m σ H ⟨rfl,b,p⟩;by_cases hlt:i < n
 .refine .inr ⟨hlt,Pv (i+1),fun σ' H' a=>⟨n - (i+1),by omega,rfl,hlt,a⟩,fun x H' y=>?_⟩;obtain ⟨e,y⟩:=y;subst e y;exact hs i σ _ hlt p
 .have e:i=n:=by omega
  subst e;exact .inl ⟨bL _,hd σ H p⟩
abbrev R2:=V->V->Hp->VK->Prop
def OpR (X:Cx) (f:Value->Value->Sem Value) (r:R2):Prop :=
 ∀ (pins:List (Addr × Obj)) (s:Shared) (σ:St) (H:Hp) (x y:V) (v u:Value) (Q:VK),Inv X pins σ H s->xh x v->xh y u->r x y H Q ->
  wpAny (model X.prog X.w) X.A (f v u) (EP X pins σ Q) X.xe s
def UnR (X:Cx) (f:Value->Sem Value) (r:V->Hp->VK->Prop):Prop :=
 ∀ (pins:List (Addr × Obj)) (s:Shared) (σ:St) (H:Hp) (x:V) (v:Value) (Q:VK),Inv X pins σ H s->xh x v->r x H Q ->
  wpAny (model X.prog X.w) X.A (f v) (EP X pins σ Q) X.xe s
def u9 (X:Cx) (f:Value) (r:List V->Hp->VK->Prop):Prop :=
 ∀ (pins:List (Addr × Obj)) (s:Shared) (σ:St) (H:Hp) (xs:List V) (us:List Value) (Q:VK),Inv X pins σ H s->wx xs us->r xs H Q ->
  wpAny (model X.prog X.w) X.A (call f us) (EP X pins σ Q) X.xe s
def tOp (r:R2) (ta tb:TE):TE:=fun σ H Q=>ta σ H fun x H1=>tb σ H1 fun y H2=>r x y H2 Q
def tUn (r:V->Hp->VK->Prop) (ta:TE):TE:=fun σ H Q=>ta σ H fun x H1=>r x H1 Q
def rI (C:Int->Int->Prop) (g:Int->Int->V):R2:=fun x y H Q=>∃ i j,x=.int i/\y=.int j/\C i j/\Q (g i j) H
def rI0 (g:Int->Int->V):R2:=fun x y H Q=>∃ i j,x=.int i/\y=.int j/\Q (g i j) H
def rU (g:Int->V):V->Hp->VK->Prop:=fun x H Q=>∃ i,x=.int i/\Q (g i) H
section
variable {a b c:Expr} {tb tc:TE} {pos:Pos}
theorem yz7 (ha:PE X a ta) (hb:PE X b tb) {s:Shared} {R:V->V->Hp->Prop} (I:Inv X pins σ H s)
  (h:ta σ H fun x H1=>tb σ H1 fun y H2=>R x y H2) {Q:Value->Shared->Prop} {f:Value->Value->Sem Value}
  (hf:∀ v u s2 x y H2,Inv X pins σ H2 s2->xh x v->xh y u->R x y H2->wpAny (model X.prog X.w) X.A (f v u) Q X.xe s2) :
  wpAny (model X.prog X.w) X.A (eval a X.env) (fun v s₁=>wpAny (model X.prog X.w) X.A (eval b X.env) (fun u s₂=>wpAny (model X.prog X.w) X.A (f v u) Q X.xe s₂) X.xe s₁) X.xe s:=by
 refine thn (ha pins s σ H _ I h) fun v g h'=>?_;obtain ⟨x,H1,j,d,e⟩:=h';refine thn (hb pins g σ H1 _ j e) fun u s2 h'=>?_;obtain ⟨y,H2,i,k,c⟩:=h';exact hf v u s2 x y H2 i d k c
theorem yr {op:Operator} {r:R2} (ho:OpR X (binaryOp op) r) (ha:PE X a ta) (hb:PE X b tb):PE X (.BinOp a op b pos) (tOp r ta tb):=by
 refine .mk fun c s σ H Q I h=>?_;exact wpAny_BinOp (yz7 ha hb I h fun v u d x y e g i f q=>ho c d σ e x y v u Q g i f q)
theorem yyz {op:UnaryOp} {r:V->Hp->VK->Prop} (ho:UnR X (unaryOp op) r) (ha:PE X a ta):PE X (.UnaryOp op a pos) (tUn r ta):=by
 refine .mk fun b s σ H Q I h=>?_;exact UnaryOp_ (thn (ha b s σ H _ I h) fun v e ⟨x,c,f,g,d⟩=>ho b e σ c x v Q f g d)
theorem opI {f:Value->Value->Sem Value} {C:Int->Int->Prop} {g:Int->Int->Int}
  (rule:∀ (i j:Int) (t u:Tok) (s:Shared) (Q:Value->Shared->Prop) (E:Value->Shared->Prop),C i j->Q (.int (g i j) s.toks) { s with toks:=s.toks+1 }->wpAny (model X.prog X.w) X.A (f (.int i t) (.int j u)) Q E s) :
  OpR X f (rI C fun i j=>.int (g i j)):=by
 intro a s σ H x y v u Q I e d h;obtain ⟨i,j,rfl,rfl,c,q⟩:=h;obtain ⟨t,rfl⟩:=e;obtain ⟨b,rfl⟩:=d;exact rule i j t b s _ _ c ⟨.int (g i j),H,I.tok _,⟨_,rfl⟩,q⟩
theorem vbw {f:Value->Value->Sem Value} {g:Int->Int->Int}
  (rule:∀ (i j:Int) (t u:Tok) (s:Shared) (Q:Value->Shared->Prop) (E:Value->Shared->Prop),Q (.int (g i j) s.toks) { s with toks:=s.toks+1 }->wpAny (model X.prog X.w) X.A (f (.int i t) (.int j u)) Q E s) :
  OpR X f (rI0 fun i j=>.int (g i j)):=by
 intro a s σ H x y v u Q I d b h;obtain ⟨i,j,rfl,rfl,q⟩:=h;obtain ⟨t,rfl⟩:=d;obtain ⟨c,rfl⟩:=b;exact rule i j t c s _ _ ⟨.int (g i j),H,I.tok _,⟨_,rfl⟩,q⟩
theorem yz6 {f:Value->Value->Sem Value} {g:Int->Int->Bool}
  (rule:∀ (i j:Int) (t u:Tok) (s:Shared) (Q:Value->Shared->Prop) (E:Value->Shared->Prop),Q (.bool (g i j)) s->wpAny (model X.prog X.w) X.A (f (.int i t) (.int j u)) Q E s) :
  OpR X f (rI0 fun i j=>.bl (g i j)):=by
 intro a s σ H x y v u Q I d b h;obtain ⟨i,j,rfl,rfl,q⟩:=h;obtain ⟨t,rfl⟩:=d;obtain ⟨c,rfl⟩:=b;exact rule i j t c s _ _ ⟨.bl (g i j),H,I,rfl,q⟩
def vb5 (i j:Int):Prop:=(-(2 ^ 64) < i/\i < 2 ^ 64)\/(-(2 ^ 64) < j/\j < 2 ^ 64)
theorem vb5.ok {i j:Int} (h:vb5 i j):IntMulOk i j:=by
 rcases h with ⟨b,a⟩ | ⟨b,a⟩
 .exact .of_left (intBits_le_64 b a)
 .exact .of_right (intBits_le_64 b a)
theorem yfb (k:Nat):(0:Int) <= 2 ^ k:=by
 rw [two_pow_cast];exact Int.natCast_nonneg _
theorem vy:OpR X (binaryOp .Add) (rI0 fun i j=>.int (i+j)):=vbw fun _ _ _ _ _ _ _ q=>add_int q
theorem u6:OpR X (binaryOp .Sub) (rI0 fun i j=>.int (i - j)):=vbw fun _ _ _ _ _ _ _ q=>sub_int q
theorem wz:OpR X (binaryOp .Mult) (rI vb5 fun i j=>.int (i * j)):=opI fun _ _ _ _ _ _ _ a q=>mul_int q a.ok
theorem wy:OpR X (binaryOp .Mod) (rI (fun _ j=>0 < j) fun i j=>.int (i % j)):=opI fun i j _ _ _ _ _ a q=>by
 have b:(0:Int) < j:=a;exact mod_int' (by omega) (by rw [Int.fmod_eq_emod_of_nonneg i (by omega)]; exact q)
theorem ym1:OpR X (binaryOp .RShift) (rI (fun _ j=>0 <= j) fun i j=>.int (i / 2 ^ j.toNat)):=opI fun i j _ _ _ _ _ a q =>
 rshift_int a (by rw [Int.fdiv_eq_ediv_of_nonneg i (yfb _)]; exact q)
theorem ynl:OpR X (binaryOp .BitAnd) (rI0 fun i j=>.int (Builtin.bitAnd i j)):=vbw fun _ _ _ _ _ _ _ q=>and_int q
theorem unI {f:Value->Sem Value} {g:Int->Int}
  (rule:∀ (i:Int) (t:Tok) (s:Shared) (Q:Value->Shared->Prop) (E:Value->Shared->Prop),Q (.int (g i) s.toks) { s with toks:=s.toks+1 }->wpAny (model X.prog X.w) X.A (f (.int i t)) Q E s) :
  UnR X f (rU fun i=>.int (g i)):=by
 intro a s σ H x v Q I b h;obtain ⟨i,rfl,q⟩:=h;obtain ⟨t,rfl⟩:=b;exact rule i t s _ _ ⟨.int (g i),H,I.tok _,⟨_,rfl⟩,q⟩
theorem yn1:UnR X (unaryOp .USub) (rU fun i=>.int (-i)):=unI fun _ _ _ _ _ q=>neg_int q
end
def vab:V->V->Bool
 | .non,.non=>true | .non,.int _=>true | .int _,.non=>true | .non,.bl _=>true | .bl _,.non=>true | .non,.str _=>true | .str _,.non=>true
 | .int _,.int _=>true | .bl _,.bl _=>true | .str _,.str _=>true | .byt _,.byt _=>true
 | .int _,.str _=>true | .str _,.int _=>true | .bl _,.str _=>true | .str _,.bl _=>true
 | _,_=>false
def rEq:R2:=fun x y H Q=>vab x y=true/\Q (.bl (decide (x=y))) H
def rNe:R2:=fun x y H Q=>vab x y=true/\Q (.bl (!decide (x=y))) H
theorem yh5 {i j:Int}:decide (V.int i=V.int j)=(i == j):=by
 rw [Bool.eq_iff_iff];simp
theorem ylw {i j:Bool}:decide (V.bl i=V.bl j)=(i == j):=by
 rw [Bool.eq_iff_iff];simp
theorem yh8 {i j:Str}:decide (V.str i=V.str j)=(i == j):=by
 rw [Bool.eq_iff_iff];simp
theorem yhp {i j:Array UInt8}:decide (V.byt i=V.byt j)=(i.toList == j.toList):=by
 rw [Bool.eq_iff_iff];cases i;cases j;simp
section
variable {a b c:Expr} {tb tc:TE} {pos:Pos}
theorem wl {s:Shared} {Q:VK} {k k':Bool} (I:Inv X pins σ H s) (q:Q (.bl k) H) (e:k=k'):EP X pins σ Q (.bool k') s:=by
 subst e;exact ⟨.bl k,H,I,rfl,q⟩
theorem x0:OpR X (compareOp .Eq) rEq:=by
 intro e s σ H x y v u Q I d a h;obtain ⟨c,q⟩:=h
 cases x with
 | non =>
  cases d
  cases y with
  | non=>cases a; exact PySem.EqNone.eq_none_none (wl I q (by simp))
  | bl j=>cases a; exact PySem.EqNone.eq_none_bool (wl I q (by simp))
  | int j=>obtain ⟨b,rfl⟩:=a; exact PySem.EqNone.eq_none_int (wl I q (by simp))
  | str j=>obtain ⟨b,rfl⟩:=a; exact PySem.EqNone.eq_none_str (wl I q (by simp))
  | _=>exact absurd (show false=true from c) bS
 | bl i =>
  cases d
  cases y with
  | non=>cases a; exact PySem.EqNone.eq_bool_none (wl I q (by simp))
  | bl j=>cases a; exact eq_bool (wl I q ylw)
  | str j=>obtain ⟨b,rfl⟩:=a; exact PySem.EqMixed.eq_bool_str (wl I q (by simp))
  | _=>exact absurd (show false=true from c) bS
 | int i =>
  obtain ⟨t,rfl⟩:=d
  cases y with
  | non=>cases a; exact PySem.EqNone.eq_int_none (wl I q (by simp))
  | int j=>obtain ⟨b,rfl⟩:=a; exact eq_int (wl I q yh5)
  | str j=>obtain ⟨b,rfl⟩:=a; exact PySem.EqMixed.eq_int_str (wl I q (by simp))
  | _=>exact absurd (show false=true from c) bS
 | str i =>
  obtain ⟨t,rfl⟩:=d
  cases y with
  | non=>cases a; exact PySem.EqNone.eq_str_none (wl I q (by simp))
  | bl j=>cases a; exact PySem.EqMixed.eq_str_bool (wl I q (by simp))
  | int j=>obtain ⟨b,rfl⟩:=a; exact PySem.EqMixed.eq_str_int (wl I q (by simp))
  | str j=>obtain ⟨b,rfl⟩:=a; exact eq_str (wl I q yh8)
  | _=>exact absurd (show false=true from c) bS
 | byt i =>
  obtain ⟨t,rfl⟩:=d
  cases y with
  | byt j=>obtain ⟨b,rfl⟩:=a; exact W.eq_bytes (wl I q yhp)
  | _=>exact absurd (show false=true from c) bS
 | _=>cases y <;> exact absurd (show false=true from c) bS
theorem yy2:OpR X (compareOp .NotEq) rNe:=by
 intro e s σ H x y v u Q I d a h;obtain ⟨c,q⟩:=h
 cases x with
 | non =>
  cases d
  cases y with
  | non=>cases a; exact PySem.EqNone.ne_none_none (wl I q (by simp))
  | bl j=>cases a; exact PySem.EqNone.ne_none_bool (wl I q (by simp))
  | int j=>obtain ⟨b,rfl⟩:=a; exact PySem.EqNone.ne_none_int (wl I q (by simp))
  | str j=>obtain ⟨b,rfl⟩:=a; exact PySem.EqNone.ne_none_str (wl I q (by simp))
  | _=>exact absurd (show false=true from c) bS
 | bl i =>
  cases d
  cases y with
  | non=>cases a; exact PySem.EqNone.ne_bool_none (wl I q (by simp))
  | bl j=>cases a; exact ne_bool (wl I q (congrArg not ylw))
  | str j=>obtain ⟨b,rfl⟩:=a; exact PySem.EqMixed.ne_bool_str (wl I q (by simp))
  | _=>exact absurd (show false=true from c) bS
 | int i =>
  obtain ⟨t,rfl⟩:=d
  cases y with
  | non=>cases a; exact PySem.EqNone.ne_int_none (wl I q (by simp))
  | int j=>obtain ⟨b,rfl⟩:=a; exact ne_int (wl I q (congrArg not yh5))
  | str j=>obtain ⟨b,rfl⟩:=a; exact PySem.EqMixed.ne_int_str (wl I q (by simp))
  | _=>exact absurd (show false=true from c) bS
 | str i =>
  obtain ⟨t,rfl⟩:=d
  cases y with
  | non=>cases a; exact PySem.EqNone.ne_str_none (wl I q (by simp))
  | bl j=>cases a; exact PySem.EqMixed.ne_str_bool (wl I q (by simp))
  | int j=>obtain ⟨b,rfl⟩:=a; exact PySem.EqMixed.ne_str_int (wl I q (by simp))
  | str j=>obtain ⟨b,rfl⟩:=a; exact ne_str (wl I q (congrArg not yh8))
  | _=>exact absurd (show false=true from c) bS
 | byt i =>
  obtain ⟨t,rfl⟩:=d
  cases y with
  | byt j=>obtain ⟨b,rfl⟩:=a; exact W.ne_bytes (wl I q (congrArg not yhp))
  | _=>exact absurd (show false=true from c) bS
 | _=>cases y <;> exact absurd (show false=true from c) bS
theorem ybn:OpR X (compareOp .Lt) (rI0 fun i j=>.bl (decide (i < j))):=yz6 fun _ _ _ _ _ _ _ q=>lt_int q
theorem zk:OpR X (compareOp .LtE) (rI0 fun i j=>.bl (decide (i <= j))):=yz6 fun _ _ _ _ _ _ _ q=>le_int q
theorem yf3:OpR X (compareOp .Gt) (rI0 fun i j=>.bl (decide (j < i))):=yz6 fun _ _ _ _ _ _ _ q=>gt_int q
theorem vay:OpR X (compareOp .GtE) (rI0 fun i j=>.bl (decide (j <= i))):=yz6 fun _ _ _ _ _ _ _ q=>ge_int q
theorem yhk:OpR X (compareOp .In) (fun x y H Q=>∃ i j,x=.str i/\y=.str j/\Q (.bl (!(Builtin.Str.occurrences j i 0 j.length 1).isEmpty)) H):=by
 intro a s σ H x y v u Q I c b h;obtain ⟨i,j,rfl,rfl,q⟩:=h;obtain ⟨t,rfl⟩:=c;obtain ⟨d,rfl⟩:=b;exact in_str (wl I q rfl)
theorem ym6:OpR X (compareOp .Is) (fun x y H Q=>y=.non/\Q (.bl (decide (x=.non))) H):=by
 intro a s σ H x y v u Q I b c h;obtain ⟨rfl,q⟩:=h;cases c;refine is_none_gen (wl I q ?_)
 cases x <;> first
  | (cases b; rfl)
  | (obtain ⟨t,rfl⟩:=b; rfl)
theorem ű:OpR X (compareOp .IsNot) (fun x y H Q=>y=.non/\Q (.bl (!decide (x=.non))) H):=by
 intro a s σ H x y v u Q I b c h;obtain ⟨rfl,q⟩:=h;cases c;refine isnot_none_gen (wl I q ?_)
 cases x <;> first
  | (cases b; rfl)
  | (obtain ⟨t,rfl⟩:=b; rfl)
theorem vd (b:Expr) (h:op≠.In:=by decide) (h2:op≠.NotIn:=by decide):behindInMarks op b=false:=by
 have a:(op == CmpOp.In)=false:=by cases op <;> first | rfl | exact absurd rfl h
 have c:(op == CmpOp.NotIn)=false:=by cases op <;> first | rfl | exact absurd rfl h2
 cases b <;> simp [behindInMarks,a,c]
theorem x4 {r:R2} (ho:OpR X (compareOp op) r) (ha:PE X a ta) (hb:PE X b tb) (hm:behindInMarks op b=false):PE X (.Compare a [op] [b] pos) (tOp r ta tb):=by
 refine .mk fun c s σ H Q I h=>?_;exact wpAny_Compare1 (yz7 ha hb I h fun v u d x y e g i f q=>ho c d σ e x y v u Q g i f q) hm
def ysn (t:TE):TT:=fun σ H Q=>t σ H fun x H'=>∃ k,x=.bl k/\Q k H'
theorem yy {r:R2} (ho:OpR X (compareOp op) r) (ha:PE X a ta) (hb:PE X b tb) (hm:behindInMarks op b=false):PT X (.Compare a [op] [b] pos) (ysn (tOp r ta tb)):=by
 refine .mk fun d s σ H Q I h=>?_
 refine wpAny_isTrue_Compare1 (thn (ha d s σ H _ I h) fun v p ⟨x,n,A,m,o⟩=>thn (hb d p σ n _ A o) fun u i ⟨y,l,w,B,j⟩ =>
  thn (ho d i σ l x y v u _ w m B j) fun c C ⟨z,q,f,g,k,e,t⟩=>?_) hm
 subst e;cases g;exact cR ⟨q,f,t⟩
def yjb (r r':R2) (ta tb tc:TE):TE:=fun σ H Q=>ta σ H fun x H1=>tb σ H1 fun y H2=>r x y H2 fun z H3=>∃ k,z=.bl k /\
 (if k=true then tc σ H3 fun w' H4=>r' y w' H4 Q else Q (.bl false) H3)
theorem ο {op':CmpOp} {r r':R2} (ho:OpR X (compareOp op) r) (ho':OpR X (compareOp op') r') (ha:PE X a ta) (hb:PE X b tb) (hc:PE X c tc)
  (hm:lastMarks [op,op'] [b,c]=false:=by with_unfolding_all rfl):PE X (.Compare a [op,op'] [b,c] pos) (yjb r r' ta tb tc):=by
 refine .mk fun f s σ H Q I h=>?_
 refine Compare_chain (thn (ha f s σ H _ I h) fun v L ⟨x,E,G,M,t⟩=>chain_link (thn (hb f L σ E _ G t) fun u n ⟨y,D,B,i,C⟩ =>
  thn (ho f n σ D x y v u _ B M i C) fun d K ⟨z,l,j,m,k,e,g⟩=>?_)) hm
 subst e;cases m;refine cR ?_
 cases k with
 | false=>exact ite_ff ⟨.bl false,l,j,rfl,g⟩
 | true=>exact ite_tt (chain_last (thn (hc f K σ l _ j g) fun J q ⟨w,o,p,A,F⟩=>ho' f q σ o y w u J Q p i A F))
theorem Ū {op':CmpOp} {r r':R2} (ho:OpR X (compareOp op) r) (ho':OpR X (compareOp op') r') (ha:PE X a ta) (hb:PE X b tb) (hc:PE X c tc)
  (hm:lastMarks [op,op'] [b,c]=false:=by with_unfolding_all rfl):PT X (.Compare a [op,op'] [b,c] pos) (ysn (yjb r r' ta tb tc)):=by
 refine .mk fun f s σ H Q I h=>?_
 refine isTrue_chain (thn (ha f s σ H _ I h) fun v T ⟨x,L,O,U,A⟩=>test_link (thn (hb f T σ L _ O A) fun u n ⟨y,K,E,i,J⟩ =>
  thn (ho f n σ K x y v u _ E U i J) fun d S ⟨z,l,j,m,k,e,g⟩=>?_)) hm
 subst e;cases m;refine cR ?_
 cases k with
 | false =>
  obtain ⟨W,F,M⟩:=g;cases F;exact ite_ff ⟨l,j,M⟩
 | true =>
  refine ite_tt (test_last (thn (hc f S σ l _ j g) fun R q ⟨B,o,p,C,N⟩=>thn (ho' f q σ o y B u R _ p i C N) fun Z s5 h'=>?_));obtain ⟨Y,t,G,w,k2,P,D⟩:=h';subst P;cases w;exact cR ⟨t,G,D⟩
theorem ye3:(sizeLine:Nat) < 2 ^ 63:=by rw [sizeLine_eq]; decide
theorem Æ:OpR X (binaryOp .Add) (fun x y H Q=>∃ i j,x=.str i/\y=.str j/\i.length+j.length <= sizeLine/\Q (.str (i++j)) H):=by
 intro a s σ H x y v u Q I e d h;obtain ⟨i,j,rfl,rfl,c,q⟩:=h;obtain ⟨t,rfl⟩:=e;obtain ⟨b,rfl⟩:=d;exact add_str (fun b f=>⟨.str (i++j),H,I.tok _,⟨_,rfl⟩,q⟩) c
def yk1 (b:Expr):Prop:=∀ o i,subscripted b false o i=operate [o,i] (getItem o i)
theorem jt (ha:PE X a ta) (hb:PE X b tb) (hs:yk1 b) :
  PE X (.Subscript a b pos) (tOp (fun x y H Q=>∃ z i c,x=.str z/\y=.int i/\0 <= i/\i < 2 ^ 63/\i < z.length/\z.cps[i.toNat]?=some c/\Q (.str ⟨#[c]⟩) H) ta tb):=by
 refine .mk fun d s σ H Q I h=>?_;refine Subscript_ (yz7 ha hb I h fun v u g x y k r w p q=>?_);obtain ⟨z,i,c,rfl,rfl,o,j,n,m,q⟩:=q;obtain ⟨t,rfl⟩:=w;obtain ⟨A,rfl⟩:=p;have e:seqIndex? i z.length=some i.toNat:=PySem.StrLaws.seqIndex_nonneg o n
 exact tail_any (typeIs_str g z t) slot_str_getitem.lookup (getItem_str (c:=c) (by
  have f:decide (i < -(2 ^ 63:Int))=false:=bV (by omega);have l:decide (i ≥ 2 ^ 63)=false:=bV (by omega);rw [f,l] <;> rfl) (by rw [e]; exact m) ⟨.str ⟨#[c]⟩,k,r.tok _,⟨_,rfl⟩,q⟩) (hs _ _)
theorem ψ {x:V} (r:wx [x] us):∃ u,us=[u]/\xh x u:=by
 cases r with
 | cons r1 r2=>cases r2; exact ⟨_,rfl,r1⟩
theorem ylp {x:V} (r:wx [x,y] us):∃ u w',us=[u,w']/\xh x u/\xh y w':=by
 cases r with
 | cons r1 r2 =>
  cases r2 with
  | cons r3 r4=>cases r4; exact ⟨_,_,rfl,r1,r3⟩
theorem û (hc:X.calm=true):u9 X (.builtin "max") (fun xs H Q=>∃ i j,xs=[.int i,.int j]/\Q (.int (if j > i then j else i)) H):=by
 intro a s σ H xs f Q I r h;obtain ⟨i,j,rfl,q⟩:=h;obtain ⟨u,c,rfl,⟨t,rfl⟩,⟨b,rfl⟩⟩:=ylp r;refine max_two_ints (I.ok.hd hc) fun e d k=>⟨_,H,I.kept k,?_,q⟩;by_cases hj:j > i
 .rw [if_pos hj,if_pos hj]; exact ⟨_,rfl⟩
 .rw [if_neg hj,if_neg hj]; exact ⟨_,rfl⟩
theorem ú (hc:X.calm=true):u9 X (.builtin "min") (fun xs H Q=>∃ i j,xs=[.int i,.int j]/\Q (.int (if j < i then j else i)) H):=by
 intro a s σ H xs f Q I r h;obtain ⟨i,j,rfl,q⟩:=h;obtain ⟨u,c,rfl,⟨t,rfl⟩,⟨b,rfl⟩⟩:=ylp r;refine min_two_ints (I.ok.hd hc) fun e d k=>⟨_,H,I.kept k,?_,q⟩;by_cases hj:j < i
 .rw [if_pos hj,if_pos hj]; exact ⟨_,rfl⟩
 .rw [if_neg hj,if_neg hj]; exact ⟨_,rfl⟩
end
structure ytp (h:Heap) (x dx C:Addr) (mA:Str->Option Value):Prop where
 obj:h.get? x=some (W.instObj C dx)
 ns:h.Ns1 dx mA
 ne:dx≠x
theorem ygo {h:Heap} {dx:Addr} (n:h.Ns1 dx mA):∃ od,h.get? dx=some od/\∀ name,W.lookIn name od=some (mA name):=by
 obtain ⟨o,c,l,g,k,i,_,j⟩:=n;refine ⟨o,g,fun name=>?_⟩;have e:=j name;unfold nsFind findBy at e;rw [<- Array.find?_toList] at e;unfold W.lookIn;rw [k];dsimp only
 split
 .rename_i y q
  rw [q] at e;exact congrArg some e
 .rename_i q
  rw [q] at e
  have a:c.toList.any (·.refKey)=false:=by
   rw [List.any_eq_false];intro y d;obtain ⟨z,t,b⟩:=i y (Array.mem_toList_iff.mp d);simp [DictEntry.refKey,b]
  have f:¬ c.toList.any (·.refKey)=true:=by rw [a]; exact bS
  rw [if_neg f];exact congrArg some e
theorem ytp.look {h:Heap} {x dx:Addr} (I:ytp h x dx C mA):∃ od,W.InstAt h x (W.instObj C dx) C (some od)/\∀ name,W.lookIn name od=some (mA name) :=
 let ⟨od,ho,hl⟩:=ygo I.ns
 ⟨od,⟨I.obj,rfl,rfl,ho⟩,hl⟩
section
variable {prog:Program} {w:World} {A:Around} {s:Shared} {K:W.Frag} {x dx f:Addr} {name:Str} {v:Value}
theorem yqj {expr:Bool} (X:K.In s.heap) (I:ytp s.heap x dx C mA) (hg:W.plainGet K C name=true) (hh:W.hasDictIn K C=true)
  (ha:W.findIn K (.ref C) name=some none) (hv:mA name=some v) (hv':W.handedIn v=true) (h:Q v { s with toks:=s.toks+1 }) :
  wpAny (model prog w) A (getAttr (.ref x) name expr) Q E s:=by
 obtain ⟨b,J,a⟩:=I.look;exact W.get_value X J (W.plainGet_of hg).1 (W.findObj_own hh ha rfl (by rw [a,hv])) hv' h
theorem yke {pl:Sem Bool} {Q:Value × List Value->Shared->Prop} (X:K.In s.heap) (I:ytp s.heap x dx C mA) (hg:W.plainGet K C name=true)
  (hf:W.findIn K (.ref C) name=some (some (.ref f))) (ht:W.isFn K (.ref f)=true) (hv:mA name=none) (h:Q (.ref f,[.ref x]) s) :
  wpAny (model prog w) A (getMethod (.ref x) name pl) Q E s:=by
 obtain ⟨b,J,a⟩:=I.look;exact W.method_fn X J (W.plainGet_of hg).1 (W.plainGet_of hg).2 hf (beq_iff_eq.mp ht) (by show (W.lookIn name b).map (·.isSome)=some false; rw [a,hv]; rfl) h
theorem yos {ns:List Str} {Q:Unit->Shared->Prop} (X:K.In s.heap) (I:ytp s.heap x dx C mA)
  (hs:W.findIn K (.ref C) "__setattr__"=some (some (.builtin "object.__setattr__"))) (hp:W.plainOver K C=true) (ht:W.takerIn K C name=some none) (hh:W.hasDictIn K C=true)
  (hw:PySem.Within mA ns) (hsz:ns.length <= sizeLine)
  (h:∀ h',ytp h' x dx C (fun y=>if y=name then some v else mA y)->Heap.SameBut dx s.heap h'->Q () { s with heap:=h',toks:=s.toks+2 }) :
  wpAny (model prog w) A (setAttr (.ref x) name v) Q E s:=by
 obtain ⟨o,J,n⟩:=I.look;refine W.set_plain X J hs (W.osa_open (s:={ s with toks:=s.toks+1 }) (r:=none) X J hp ht fun b=>?_);obtain ⟨p,k,g⟩:=W.any_some hh;have l:s.heap.get? x=some ⟨.ref C,some dx,.plain,#[]⟩:=I.obj;refine bI (bO (bI (bI (wpAny_loadPart l (bI (W.Looks.here (s:={ s with toks:=s.toks+1 }) (W.looks_clsIn X k) ?_))))));rw [g];refine bO (a:=some dx) (bI (bO (bI ?_)));refine wpAny_nsSet1 (s:={ s with toks:=s.toks+1 }) I.ns fun h' d c=>?_;obtain ⟨q,j,m,i,e,f⟩:=d.count (PySem.Within.cons name v hw);refine bI (wpAny_lookBehind i (by rw [e]; exact pastItsLine_dict (cn f (by rw [cy]; omega))) ?_);exact bO (h _ ⟨(c.2 _ (Ne.symm I.ne)).trans I.obj,d,I.ne⟩ c)
theorem yd7 {R:Result->Shared->Prop} {vs:List Value} (X:K.In s.heap) (hm:W.makesIn K C=true)
  (hi:W.findIn K (.ref C) "__init__"=some (some (.ref f))) (hf:W.typeIn K (.ref f)=some (.type "function"))
  (h:codeAny (model prog w) (A.under (.builtin "type.__call__" ⟨.ref C :: vs,kw⟩)) (.call (.ref f) ⟨.ref (s.heap.objs.size+1) :: vs,kw⟩) (W.InitBack (s.heap.objs.size+1) R)
   { s with heap:=(s.heap.push W.emptyDict).push (W.instObj C s.heap.objs.size) }) :
  codeAny (model prog w) A (.call (.ref C) ⟨vs,kw⟩) R s:=by
 obtain ⟨c,g,d,t,b⟩:=s;exact W.make_core (W.makes_of X hm) (W.looks_findIn X hi) (fun a=>W.bind_fn X a hf) (.inl rfl) h
end
def jf (f:Str) (v:V):List (Str × V)->List (Str × V)
 | []=>[(f,v)]
 | (g,x) :: r=>if g=f then (g,v) :: r else (g,x) :: jf f v r
theorem ï (f g:Str) (v:V):∀ fs:List (Str × V),(jf f v fs).lookup g=if g=f then some v else fs.lookup g
 | []=>by
  show List.lookup g [(f,v)]=_;by_cases h:g=f
  .have a:(g == f)=true:=beq_iff_eq.mpr h;simp only [List.lookup,a,if_pos h]
  .have a:(g == f)=false:=df.mpr h;simp only [List.lookup,a,if_neg h]
 | (k,x) :: r=>by
  have b:=ï f g v r;rw [show jf f v ((k,x) :: r)=(if k=f then (k,v) :: r else (k,x) :: jf f v r) from rfl];by_cases hk:k=f
  .rw [if_pos hk];by_cases h:g=k
   .have a:(g == k)=true:=beq_iff_eq.mpr h;simp only [List.lookup,a,if_pos (h.trans hk)]
   .have a:(g == k)=false:=df.mpr h;simp only [List.lookup,a,if_neg (fun e:g=f=>h (e.trans hk.symm))]
  .rw [if_neg hk];by_cases h:g=k
   .have a:(g == k)=true:=beq_iff_eq.mpr h;simp only [List.lookup,a,if_neg (fun e:g=f=>hk (h.symm.trans e))]
   .have a:(g == k)=false:=df.mpr h;simp only [List.lookup,a];exact b
theorem ą (f:Str) (v:V):∀ fs:List (Str × V),f∈(jf f v fs).map (·.1)/\∀ g,g∈fs.map (·.1)->g∈(jf f v fs).map (·.1)
 | []=>⟨by simp [jf],fun g h=>by simp at h⟩
 | (k,x) :: r=>by
  obtain ⟨b,a⟩:=ą f v r;rw [show jf f v ((k,x) :: r)=(if k=f then (k,v) :: r else (k,x) :: jf f v r) from rfl];by_cases hk:k=f
  .rw [if_pos hk];subst hk;exact ⟨by simp,fun g h=>by simpa using h⟩
  .rw [if_neg hk];refine ⟨?_,fun g h=>?_⟩
   .rw [cA];exact cz _ b
   .rw [cA] at h ⊢;rcases bW.mp h with e | e
    .exact bW.mpr (.inl e)
    .exact cz _ (a g e)
theorem ø (f:Str) (v:V):∀ fs:List (Str × V),(jf f v fs).length <= fs.length+1
 | []=>by simp [jf]
 | (k,x) :: r=>by
  have a:=ø f v r;rw [show jf f v ((k,x) :: r)=(if k=f then (k,v) :: r else (k,x) :: jf f v r) from rfl];by_cases hk:k=f
  .rw [if_pos hk,cy,cy]; omega
  .rw [if_neg hk,cy,cy]; omega
theorem ybp.some_of {o:Option Value} (r:ybp (some v) o):∃ u,o=some u/\xh v u:=by
 cases o with
 | none=>exact (show False from r).elim
 | some u=>exact ⟨u,rfl,r⟩
theorem ybp.none_of {o:Option Value} (r:ybp none o):o=none:=by
 cases o with
 | none=>rfl
 | some u=>exact (show False from r).elim
theorem ygt (r:xh v u):W.handedIn u=true:=by
 cases v with
 | non=>cases (show u=Value.none from r); rfl
 | bl b=>cases (show u=Value.bool b from r); rfl
 | int i=>obtain ⟨t,e⟩:=(show ∃ t,u=Value.int i t from r); cases e; rfl
 | str x=>obtain ⟨t,e⟩:=(show ∃ t,u=Value.str x t from r); cases e; rfl
 | byt b=>obtain ⟨t,e⟩:=(show ∃ t,u=Value.bytes b t from r); cases e; rfl
 | flt b=>obtain ⟨t,e⟩:=(show ∃ t,u=Value.float b t from r); cases e; rfl
 | ref a=>cases (show u=Value.ref a from r); rfl
 | ty n=>cases (show u=Value.type n from r); rfl
section
variable {w:World} {h:Heap} {dx:Addr} {fs fs':List (Str × V)}
theorem Ų (hok:HOk P w H h) (e:H a=some (.ins C dx fs)):∃ mA,ytp h a dx C mA/\(∀ f,ybp (fs.lookup f) (mA f))/\PySem.Within mA (fs.map (·.1))/\fs.length <= 1000/\H dx=some (.own a):=by
 obtain ⟨d,z,c,b,mA,n,r,q⟩:=(show ww P w H h a (.ins C dx fs) from hok a _ e);exact ⟨mA,⟨b,n,c⟩,r,q,z,d⟩
end
structure Cls (K:W.Frag) (C:Addr):Prop where
 pg:W.plainGet K C Str.empty=true
 hd:W.hasDictIn K C=true
 po:W.plainOver K C=true
 sa:W.findIn K (.ref C) "__setattr__"=some (some (.builtin "object.__setattr__"))
theorem Cls.get {K:W.Frag} (c:Cls K C) (f:Str):W.plainGet K C f=true:=c.pg
def vn (K:W.Frag) (C:Addr) (f:Str):Prop:=W.findIn K (.ref C) f=some none
theorem vn.taker {K:W.Frag} {f:Str} (n:vn K C f):W.takerIn K C f=some none:=by
 unfold W.takerIn;rw [show W.findIn K (.ref C) f=some none from n];rfl
structure Con (K:W.Frag) (C:Addr) (f:Str) (v:V) (u:Value):Prop where
 at_:W.findIn K (.ref C) f=some (some u)
 rel:xh v u
 get:W.specialIn K u "__get__"=some none
 cp:W.copiedNames.contains f=false
structure yts (K:W.Frag) (C:Addr) (m:Str) (f:Addr):Prop where
 at_:W.findIn K (.ref C) m=some (some (.ref f))
 fn:W.isFn K (.ref f)=true
 kp:W.keepIn K (.ref f)=true
section
variable {s:Shared} {dx:Addr} {fs:List (Str × V)} {f:Str} {A:Around}
theorem yfw {b:Bool} (I:Inv X pins σ H s) (e:H a=some (.ins C dx fs)) (c:Cls X.K C) (n:vn X.K C f) (l:fs.lookup f=some v)
  (h:∀ u s',Inv X pins σ H s'->xh v u->Q u s'):wpAny (model X.prog X.w) A (getAttr (.ref a) f b) Q E s:=by
 obtain ⟨i,O,r,_,_,_⟩:=Ų I.hok e;obtain ⟨u,g,d⟩:=ybp.some_of (v:=v) (o:=i f) (by rw [<- l]; exact r f);exact yqj I.kIn O (c.get f) c.hd n g (ygt d) (h u _ (I.tok _) d)
theorem Ã {m:Str} {g:Addr} {pl:Sem Bool} {Q:Value × List Value->Shared->Prop} (I:Inv X pins σ H s) (e:H a=some (.ins C dx fs)) (c:Cls X.K C) (k:yts X.K C m g) (l:fs.lookup m=none)
  (h:Q (.ref g,[.ref a]) s):wpAny (model X.prog X.w) A (getMethod (.ref a) m pl) Q E s:=by
 obtain ⟨d,O,r,_,_,_⟩:=Ų I.hok e;have b:d m=none:=ybp.none_of (by rw [<- l]; exact r m);exact yke I.kIn O (c.get m) k.at_ k.fn b h
theorem yfg {Q:Unit->Shared->Prop} (I:Inv X pins σ H s) (e:H a=some (.ins C dx fs)) (c:Cls X.K C) (n:vn X.K C f) (hl:fs.length < 1000) (ry:xh y u)
  (h:∀ s',Inv X pins σ (upd H a (.ins C dx (jf f y fs))) s'->Q () s'):wpAny (model X.prog X.w) A (setAttr (.ref a) f u) Q E s:=by
 obtain ⟨k,O,r,i,_,j⟩:=Ų I.hok e;have v:(fs.map (·.1)).length <= sizeLine:=by rw [bH,sizeLine_eq]; omega
 refine yos I.kIn O c.sa c.po n.taker c.hd i v fun t d p=>h _ ?_;have B:∃ o,t.get? dx=some o:=let ⟨o,_,_,e',_⟩:=d.ns; ⟨o,e'⟩;refine I.write (x:=a) (e:=dx) (by rw [e]; exact True.intro) (.inr j) (fun b q m z=>(p.2 b m).trans z) B ?_;refine ⟨by rw [ym O.ne]; exact j,?_,O.ne,d.obj,_,d.ns,fun g=>?_,fun g l=>?_⟩
 .have:=ø f y fs; omega
 .show ybp ((jf f y fs).lookup g) (if g=f then some u else k g);rw [ï];by_cases q:g=f
  .rw [if_pos q,if_pos q]; exact ry
  .rw [if_neg q,if_neg q]; exact r g
 .by_cases q:g=f
  .rw [q]; exact (ą f y fs).1
  .refine (ą f y fs).2 g (i g fun z=>l ?_);show (if g=f then some u else k g)=none;rw [if_neg q]; exact z
theorem Inv.made (I:Inv X pins σ H s):Inv X pins σ (upd (upd H s.heap.objs.size (.own (s.heap.objs.size+1))) (s.heap.objs.size+1) (.ins C s.heap.objs.size []))
  { s with heap:=(s.heap.push W.emptyDict).push (W.instObj C s.heap.objs.size) }:=by
 have c:(s.heap.push W.emptyDict).get? s.heap.objs.size=some W.emptyDict:=bU s.heap rfl
 have g:((s.heap.push W.emptyDict).push (W.instObj C s.heap.objs.size)).get? (s.heap.objs.size+1)=some (W.instObj C s.heap.objs.size):=by
  have:=bU (s.heap.push W.emptyDict) (o:=W.instObj C s.heap.objs.size) rfl
  rwa [Heap.size_push] at this
 have i:(s.heap.push W.emptyDict).Ns s.heap.objs.size (fun _=>none):=⟨W.emptyDict,#[],_,c,rfl,(fun e h=>absurd h (by simp)),fun _=>rfl⟩;have j:=I.laid (a:=s.heap.objs.size) (o:=.own (s.heap.objs.size+1)) (h':=s.heap.push W.emptyDict) (t':=s.toks) (fun b u q=>bK _ q) (bL _) ⟨_,c⟩;refine j.laid (a:=s.heap.objs.size+1) (o:=.ins C s.heap.objs.size []) (t':=s.toks) (fun b u q=>bK _ q) (Nat.le_of_eq (Heap.size_push _ _)) ?_;have d:s.heap.objs.size≠s.heap.objs.size+1:=ci (dh _);refine ⟨by rw [ym d,yc],cb _,d,g,fun _=>none,(Heap.Ns1.of_empty i).at fun o q=>bK _ q,fun _=>True.intro,fun y f=>absurd rfl f⟩
theorem yqa {prog:Program} {w:World} {env:Env} {e:Expr} {pos:Pos} (hb:attributeBase e f env (eval e env)=eval e env)
  (h:wpAny (model prog w) A (eval e env) (fun o s₁=>wpAny (model prog w) A (getAttr o f true) Q E s₁) E s):wpAny (model prog w) A (eval (.Attribute e f pos) env) Q E s :=
 Attribute_any_ h (by rw [arm_eval_Attribute,hb])
end
def vbx (K:W.Frag) (ta:TE) (f:Str):TE:=fun σ H Q=>ta σ H fun x H1=>∃ a C dx fs v,x=.ref a/\H1 a=some (.ins C dx fs)/\Cls K C/\vn K C f/\fs.lookup f=some v/\Q v H1
def vcl (K:W.Frag) (ta tv:TE) (f:Str):TS:=fun D σ H=>tv σ H fun y H1=>ta σ H1 fun x H2=>∃ a C dx fs,x=.ref a/\H2 a=some (.ins C dx fs)/\Cls K C/\vn K C f/\fs.length < 1000 /\
 D.nx σ (upd H2 a (.ins C dx (jf f y fs)))
section
variable {o e value:Expr} {f:Str} {pos pos' tpos:Pos} {tv:TE}
theorem yp (he:PE X e ta) (hb:attributeBase e f X.env (eval e X.env)=eval e X.env):PE X (.Attribute e f pos) (vbx X.K ta f):=by
 refine .mk fun b s σ H Q I h=>?_;refine yqa hb (thn (he b s σ H _ I h) fun u y h'=>?_);obtain ⟨x,j,o,m,a,C,t,w,v,d,g,c,n,l,q⟩:=h';subst d;obtain rfl:u=Value.ref a:=m;exact yfw o g c n l fun p r k i=>⟨v,j,k,i,q⟩
theorem vh (ha:PE X o ta) (hv:PE X value tv) (hs:swapsWith value (some (.Attribute o f pos')) pos.line X.env=pure false):PS X (.Assign [.Attribute o f pos'] value pos) (vcl X.K ta tv f):=by
 refine .mk fun b s σ H D I h=>?_;refine plainObj_wpAny_Assign_Attribute (thn (hv b s σ H _ I h) fun u m ⟨y,k,v,p,q⟩=>thn (ha b m σ k _ v q) fun j w h'=>?_) hs;obtain ⟨x,z,r,t,a,C,B,E,d,e,c,n,l,i⟩:=h';subst d;obtain rfl:j=Value.ref a:=t;exact yfg r e c n l p fun A g=>⟨σ,_,g,i⟩
end
section
variable {s:Shared} {A:Around} {c:Value} {b:Bool}
inductive xr (K:W.Frag) (H:Hp):V->Value->Prop where
 | non:xr K H .non (.type "NoneType")
 | bl (x:Bool):xr K H (.bl x) (.type "bool")
 | int (i:Int):xr K H (.int i) (.type "int")
 | str (x:Str):xr K H (.str x) (.type "str")
 | flt (x:UInt64):xr K H (.flt x) (.type "float")
 | lst {a:Addr} {xs:List V} (e:H a=some (.lst xs)):xr K H (.ref a) (.type "list")
 | frz {a:Addr} {o:Obj} {xs:List V} (e:H a=some (.frz o (.lst xs))):xr K H (.ref a) (.type "list")
 | tup {a:Addr} {xs:List V} (e:H a=some (.tup xs)):xr K H (.ref a) (.type "tuple")
 | dK {a:Addr} {kvs:List (Key × V)} (e:H a=some (.dK kvs)):xr K H (.ref a) (.type "dict")
 | dT {a:Addr} {kvs:List (List Key × V)} (e:H a=some (.dT kvs)):xr K H (.ref a) (.type "dict")
 | ins {a C dx:Addr} {fs:List (Str × V)} (e:H a=some (.ins C dx fs)) (cl:Cls K C) (ha:W.findIn K (.ref C) "__class__"=some (some (.builtin "object.__class__")))
   (hn:W.specialIn K (.builtin "object.__class__") "__get__"=some (some (.builtin "getset_descriptor.__get__"))) (htk:W.takesIn K (.builtin "object.__class__")=some true)
   (hm:W.mroIn K C (.type "object")=some true):xr K H (.ref a) (.ref C)
theorem ygi {x:V} {t:Value} (I:Inv X pins σ H s) (rx:xh x u) (ty:xr X.K H x t) (e:W.kitOne X.K t c=some b) (h:∀ tk,Q (.bool b) { s with toks:=tk }) :
  wpAny (model X.prog X.w) A (call (.builtin "isinstance") [u,c]) Q E s:=by
 cases ty with
 | non=>cases (show u=Value.none from rx); exact W.kia_one W.kitx_none I.kIn True.intro e (fun z=>nomatch z) h
 | bl y=>cases (show u=Value.bool y from rx); exact W.kia_one W.kitx_bool I.kIn True.intro e (fun z=>nomatch z) h
 | int i=>obtain ⟨t,q⟩:=(show ∃ t,u=Value.int i t from rx); cases q; exact W.kia_one W.kitx_int I.kIn True.intro e (fun z=>nomatch z) h
 | str y=>obtain ⟨t,q⟩:=(show ∃ t,u=Value.str y t from rx); cases q; exact W.kia_one W.kitx_str I.kIn True.intro e (fun z=>nomatch z) h
 | flt y=>obtain ⟨t,q⟩:=(show ∃ t,u=Value.float y t from rx); cases q; exact W.kia_one W.kitx_float I.kIn True.intro e (fun z=>nomatch z) h
 | @lst a xs ea =>
  cases (show u=Value.ref a from rx);obtain ⟨_,_,n,_,d⟩:=(show ww X.prog X.w H s.heap a (.lst xs) from I.hok a _ ea)
  exact W.kia_one W.kitx_list I.kIn ⟨_,d,rfl⟩ e (fun z=>nomatch z) h
 | @frz a ob xs ea =>
  cases (show u=Value.ref a from rx);obtain ⟨_,_,_,n,_,d⟩:=(show ww X.prog X.w H s.heap a (.frz ob (.lst xs)) from I.hok a _ ea)
  exact W.kia_one W.kitx_list I.kIn ⟨_,d,rfl⟩ e (fun z=>nomatch z) h
 | @tup a xs ea =>
  cases (show u=Value.ref a from rx);obtain ⟨_,_,_,p⟩:=(show ww X.prog X.w H s.heap a (.tup xs) from I.hok a _ ea);obtain ⟨o,d,f,_⟩:=p
  exact W.kia_one W.kitx_tuple I.kIn ⟨o,d,f⟩ e (fun z=>nomatch z) h
 | @dK a kvs ea =>
  cases (show u=Value.ref a from rx);obtain ⟨_,_,k,_,p⟩:=(show ww X.prog X.w H s.heap a (.dK kvs) from I.hok a _ ea);obtain ⟨o,g,j,d,f,_⟩:=p
  exact W.kia_one W.kitx_dict I.kIn ⟨o,d,f.1⟩ e (fun z=>nomatch z) h
 | @dT a kvs ea =>
  cases (show u=Value.ref a from rx);obtain ⟨_,_,xs,_,o,g,j,d,f,_⟩:=(show ww X.prog X.w H s.heap a (.dT kvs) from I.hok a _ ea)
  exact W.kia_one W.kitx_dict I.kIn ⟨o,d,f.1⟩ e (fun z=>nomatch z) h
 | @ins a C dx fs ea cl ha hn htk hm =>
  cases (show u=Value.ref a from rx);obtain ⟨m,O,_⟩:=Ų I.hok ea;obtain ⟨l,J,_⟩:=O.look
  exact W.kia_one (W.kitx_own (cl.get _) cl.hd ha hn htk hm) I.kIn J e (fun z=>nomatch z) h
end
structure jg (k:Nat) (A:Around):Prop where
 hd:A.handled=none
 dp:A.depth+3 * k+5 < recursionLimit
 un:A.units+16 * k+200 < cLine
theorem jg.mono {j k:Nat} {A:Around} (r:jg k A) (h:j <= k):jg j A:=⟨r.hd,by have:=r.dp; omega,by have:=r.un; omega⟩
theorem jg.deeper {k:Nat} {A:Around} (r:jg (k+1) A) (env:Env):jg k (A.deeper env) :=
 ⟨r.hd,by have:=r.dp; show A.depth+1+3 * k+5 < _; omega,by have:=r.un; show A.units+3+16 * k+200 < _; omega⟩
theorem yfu {A:Around} :(A.under (.builtin "type.__call__" ⟨.ref C :: us,kw⟩)).depth=A.depth+1:=by
 first | rfl | simp [Around.under,Code.weight,Code.isCreation,Code.isGuard,Code.isCaller,Code.frames,Code.isFrame,guardIds]
theorem yfq {A:Around} :(A.under (.builtin "type.__call__" ⟨.ref C :: us,kw⟩)).units=A.units+1:=by
 first | rfl | simp [Around.under,Code.cUnits,Code.frames,Code.isFrame]
theorem jg.make {k:Nat} {A:Around} (r:jg (k+1) A) (C:Addr) (us:List Value) (kw:List (Str × Value)):jg k (A.under (.builtin "type.__call__" ⟨.ref C :: us,kw⟩)) :=
 ⟨r.hd,by have:=r.dp; rw [yfu]; omega,by have:=r.un; rw [yfq]; omega⟩
theorem jg.depth {k:Nat} {A:Around} (r:jg k A):A.depth < recursionLimit:=by have:=r.dp; omega
theorem jg.units {k:Nat} {A:Around} (r:jg k A):A.units+64 < cLine:=by have:=r.un; omega
def ytu:TA:=fun _ H Q=>Q [] H
def yzw (ta:TE) (tr:TA):TA:=fun σ H Q=>ta σ H fun x H1=>tr σ H1 fun xs H2=>Q (x :: xs) H2
section
variable {e:Expr} {t:TA} {pos:Pos}
theorem ye:PA X [] ytu:=.mk fun _ _ _ _ H Q I h=>Calls.spliced_nil ⟨[],H,I,.nil,h⟩
theorem yb (ha:PE X e te) (hr:PA X es t) (hs:starEach (e :: es) X.env=(false,eval e X.env) :: starEach es X.env:=by rfl):PA X (e :: es) (yzw te t):=by
 refine .mk fun b a s σ H Q I h=>?_;rw [hs];show wpAny _ _ (spliced ((false,eval e X.env) :: backTo b (starEach es X.env))) _ _ s;refine Calls.spliced_cons (thn (ha a s σ H _ I h) fun u k h'=>?_);obtain ⟨x,i,m,g,j⟩:=h';exact thn (hr b a k σ i _ m j) fun p o ⟨f,d,l,n,c⟩=>⟨x :: f,d,l,.cons g n,c⟩
def vco (t:TA):TE:=fun σ H Q=>t σ H fun xs H1=>xs.length <= sizeLine/\∀ p,H1 p=none->Q (.ref p) (upd H1 p (.tup xs))
def vcn (t:TA):TE:=fun σ H Q=>t σ H fun xs H1=>xs.length <= sizeLine/\∀ p,H1 p=none->Q (.ref p) (upd H1 p (.lst xs))
theorem τ {x1} (h:PA X es t):PE X (.Tuple es x1 pos) (vco t):=by
 refine .mk fun a s σ H Q I g=>?_;refine wpAny_Tuple_spliced (thn (h pos a s σ H _ I g) fun k c ⟨j,d,f,r,z,q⟩=>⟨by rw [<- r.length]; exact z,?_⟩);have i:d c.heap.objs.size=none:=f.hok.fresh (bL _);refine ⟨.ref c.heap.objs.size,upd d c.heap.objs.size (.tup j),f.laid (t':=c.toks) (fun b u e=>bK _ e) (bL _) ?_,rfl,q _ i⟩;exact ⟨z,k,r,⟨_,bU _ rfl,rfl,_,rfl⟩⟩
theorem xx (h:PA X es t):PE X (.List es pos) (vcn t):=by
 refine .mk fun a s σ H Q I g=>?_;refine wpAny_List_spliced (thn (h pos a s σ H _ I g) fun k c ⟨j,d,f,r,z,q⟩=>⟨by rw [<- r.length]; exact z,?_⟩);have i:d c.heap.objs.size=none:=f.hok.fresh (bL _);refine ⟨.ref c.heap.objs.size,upd d c.heap.objs.size (.lst j),f.laid (t':=c.toks) (fun b u e=>bK _ e) (bL _) ?_,rfl,q _ i⟩;exact ⟨z,k,0,r,bU _ rfl⟩
end
abbrev Sp:=List V->Hp->VK->XK->Prop
abbrev CXT:=List Env->Hp->Shared->XK->Value->Shared->Prop
variable {CX:CXT}
structure ytq (P:Program) (w:World) (K:W.Frag) (mg:Str->Option Value) (base:Heap) (A:Around) (outer:List Env) (s:Shared) (H:Hp):Prop where
 frames:A.frames=some outer
 mod:Mod K mg base
 bs:∀ b o,base.get? b=some o->s.heap.get? b=some o/\H b=none
 bsz:base.objs.size <= s.heap.objs.size
 funs:s.heap.FunFrames base outer
 frf:∀ b∈frs outer,H b=none
 hok:HOk P w H s.heap
 bare:AllBare s.gens
def CE (outer:List Env) (P:Program) (w:World) (H:Hp) (s:Shared) (Q:VK) (u:Value) (s':Shared):Prop :=
 ∃ v H',s'.os=s.os/\AllBare s'.gens/\Un (frs outer) [] H H' s.heap s'.heap/\HOk P w H' s'.heap/\xh v u/\Q v H'
def CR (CX:CXT) (outer:List Env) (P:Program) (w:World) (H:Hp) (s:Shared) (Q:VK) (E:XK) (r:Result) (s':Shared):Prop :=
 match r with
 | .ok (.ret u)=>CE outer P w H s Q u s'
 | .ok _=>False
 | .error e=>CX outer H s E e s'
structure wb (P:Program) (w:World) (K:W.Frag) (mg:Str->Option Value) (base:Heap) (CX:CXT) (k:Nat) (f:Addr) (fd:FuncData) (ps:List Str) (sp:Sp):Prop where
 len:∀ vs H Q E,sp vs H Q E->vs.length=ps.length
 run:∀ (A:Around) (outer:List Env) (s:Shared) (H:Hp) (args:Args) (us:List Value) (vs:List V) (Q:VK) (E:XK),jg k A->ytq P w K mg base A outer s H->BindsTo s fd args (ps.zip us)->wx vs us->sp vs H Q E ->
  codeAny (model P w) A (.call (.ref f) args) (CR CX outer P w H s Q E) s
theorem ytq.make {w:World} {K:W.Frag} {mg:Str->Option Value} {base:Heap} {A:Around} {outer:List Env} {s:Shared} (e:ytq P w K mg base A outer s H) (C:Addr) (us:List Value) (kw:List (Str × Value)) :
  ytq P w K mg base (A.under (.builtin "type.__call__" ⟨.ref C :: us,kw⟩)) outer s H:=⟨by first | exact e.frames | (simpa [Around.under,Code.envs,Code.isFrame,pushEnvs] using e.frames),e.mod,e.bs,e.bsz,e.funs,e.frf,e.hok,e.bare⟩
section
variable {s:Shared}
theorem Inv.env0 (I:Inv X pins σ H s):ytq X.prog X.w X.K X.mg X.base X.A X.stack s H :=
 ⟨I.ok.frames,I.ok.mod,I.bs,cn I.ok.bsz I.sz,I.stack,I.stkFree,I.hok,I.bare⟩
theorem Inv.after {Q:VK} (I:Inv X pins σ H s) (h:CE X.stack X.prog X.w H s Q u s'):EP X pins σ Q u s':=by
 obtain ⟨v,f,k,a,i,e,r,q⟩:=h;obtain ⟨j,g,d,t,c⟩:=s';obtain rfl:c=s.os:=k;exact ⟨v,f,I.call (h':=j) (g':=g) (d':=d) (t':=t) (ch:=[]) i e a (fun b z=>absurd z (by simp)),r,q⟩
end
def yza (sp:Sp) (dvs:List V) (E:XK) (t:TA):TE:=fun σ H Q=>t σ H fun vs H1=>sp (vs++dvs) H1 Q E
def ycy (C:Addr) (m:Str) (sp:Sp) (dvs:List V) (E:XK) (ta:TE) (t:TA):TE:=fun σ H Q=>ta σ H fun x H1=>∃ a dx fs,x=.ref a/\H1 a=some (.ins C dx fs)/\fs.lookup m=none /\
 t σ H1 fun vs H2=>sp (x :: (vs++dvs)) H2 Q E
def ysl (C:Addr) (sp:Sp) (dvs:List V) (E:XK) (t:TA):TE:=fun σ H Q=>t σ H fun vs H1=>∀ x dx,H1 x=none->H1 dx=none->dx≠x ->
 sp (.ref x :: (vs++dvs)) (upd (upd H1 dx (.own x)) x (.ins C dx [])) (fun v H2=>v=.non/\Q (.ref x) H2) E
def uc (K:W.Frag) (fd:FuncData) (ps:List Str) (ds:List Value):Prop :=
 ∀ (s:Shared) (us:List Value),K.In s.heap->(us++ds).length=ps.length->BindsTo s fd ⟨us,[]⟩ (ps.zip (us++ds))
theorem uc.all {K:W.Frag} {ps:List Str} (h:∀ us:List Value,us.length=ps.length->bindArgs fd ⟨us,[]⟩=pure (ps.zip us)):uc K fd ps []:=fun s us _ a=>by
 rw [dm] at a ⊢;exact .of_eq (h us a)
def Õ (CX:CXT) (X:Cx) (E:XK):Prop:=∀ (pins:List (Addr × Obj)) (σ:St) (H:Hp) (s:Shared) (e:Value) (s':Shared),Inv X pins σ H s->CX X.stack H s E e s'->X.xe e s'
section
variable {k:Nat} {f:Addr} {ps:List Str} {sp:Sp} {dvs:List V} {ds:List Value} {E:XK} {x m:Str} {pos apos:Pos} {e o:Expr} {t:TA}
theorem yio {s:Shared} {Q:VK} (F:wb X.prog X.w X.K X.mg X.base CX k f fd ps sp) (hr:jg k X.A) (hb:uc X.K fd ps ds) (hd:wx dvs ds) (hx:Õ CX X E)
  (I:Inv X pins σ H s) (r:wx vs us) (h:sp (vs++dvs) H Q E):wpAny (model X.prog X.w) X.A (call (.ref f) us) (EP X pins σ Q) X.xe s:=by
 have b:wx (vs++dvs) (us++ds):=r.append hd;have c:(us++ds).length=ps.length:=by rw [<- b.length]; exact F.len _ _ _ _ h
 refine wpAny_call (codeAny_mono (F.run X.A X.stack s H ⟨us,[]⟩ (us++ds) (vs++dvs) Q E hr I.env0 (hb s us I.kIn c) b h) fun r d a=>?_)
 cases r with
 | error e=>exact hx pins σ H s e d I a
 | ok fl =>
  cases fl with
  | ret u=>exact I.after a
  | next=>exact False.elim a
  | brk=>exact False.elim a
  | cont=>exact False.elim a
theorem y8 (F:wb X.prog X.w X.K X.mg X.base CX k f fd ps sp) (hr:jg k X.A) (hg:Gl X x) (hm:X.mg x=some (.ref f)) (hk:W.keepIn X.K (.ref f)=true) (hb:uc X.K fd ps ds) (hd:wx dvs ds) (hx:Õ CX X E)
  (ha:PA X (e :: es) t) (hdb:(x == ("__debug__":Str))=false:=by decide) (he:starEach (e :: es) X.env=(false,eval e X.env) :: starEach es X.env:=by rfl) (hpl:(backTo pos (starEach es X.env)).any (·.1)=false:=by rfl) :
  PE X (.Call (.Name x p) (e :: es) [] pos) (yza sp dvs E t):=by
 refine .mk fun a s σ H Q I h=>?_;refine wpAny_Call_Name_kw (zj I hg hm ?_ hdb);refine W.callWith_K (h₀:=X.base) I.ok.mod.kin hk (thn (ha pos a s σ H _ I h) fun d i ⟨c,g,b,r,q⟩=>⟨b.kIn,?_⟩) he hpl;exact yio F hr hb hd hx b r q
theorem xl {pl:Sem Bool} (he:PE X o ta) (c:Cls X.K C) (hm:yts X.K C m f) (F:wb X.prog X.w X.K X.mg X.base CX k f fd ps sp) (hr:jg k X.A) (hb:uc X.K fd ps ds) (hd:wx dvs ds) (hx:Õ CX X E) (ha:PA X (e :: es) t)
  (hst:starEach (e :: es) X.env=(false,eval e X.env) :: starEach es X.env:=by rfl) (hpl:(backTo pos (starEach es X.env)).any (·.1)=false:=by rfl)
  (ht:eval (.Call (.Attribute o m apos) (e :: es) [] pos) X.env=(do
   let ov <- eval o X.env
   standAt apos.atName
   let (f,first) <- holding [ov] (getMethod ov m pl)
   callWith pos f first (backTo pos (starEach (e :: es) X.env)) (backToKw pos (keywordEach [] X.env))):=by rfl) :
  PE X (.Call (.Attribute o m apos) (e :: es) [] pos) (ycy C m sp dvs E ta t):=by
 refine .mk fun b s σ H Q I h=>?_;refine W.methodCall_KW (pl:=pl) (thn (he b s σ H _ I h) fun u v h'=>?_) ht;obtain ⟨x,p,g,y,a,D,G,i,j,l,q⟩:=h';subst i;obtain rfl:u=Value.ref a:=y;refine Ã g j c hm l ?_
 refine W.callWith_K (first:=[.ref a]) (h₀:=X.base) I.ok.mod.kin hm.kp (thn (ha pos b v σ p _ g q) fun us z ⟨vs,B,d,r,n⟩=>⟨d.kIn,?_⟩) hst hpl
 exact yio (us:=.ref a :: us) (vs:=.ref a :: vs) F hr hb hd hx d (.cons rfl r) n
theorem w4 {pl:Sem Bool} (he:PE X o ta) (c:Cls X.K C) (hm:yts X.K C m f) (F:wb X.prog X.w X.K X.mg X.base CX k f fd ps sp) (hr:jg k X.A) (hb:uc X.K fd ps ds) (hd:wx dvs ds) (hx:Õ CX X E)
  (ht:eval (.Call (.Attribute o m apos) [] [] pos) X.env=(do
   let ov <- eval o X.env
   standAt apos.atName
   let (f,first) <- holding [ov] (getMethod ov m pl)
   callWith pos f first (backTo pos (starEach [] X.env)) (backToKw pos (keywordEach [] X.env))):=by rfl) :
  PE X (.Call (.Attribute o m apos) [] [] pos) (ycy C m sp dvs E ta ytu):=by
 refine .mk fun b s σ H Q I h=>?_;refine W.methodCall_KW (pl:=pl) (thn (he b s σ H _ I h) fun u r h'=>?_) ht;obtain ⟨x,n,d,i,a,j,p,e,g,l,q⟩:=h';subst e;obtain rfl:u=Value.ref a:=i;refine Ã d g c hm l ?_
 exact W.callWith_K0 (first:=[.ref a]) d.kIn hm.kp (yio (us:=[.ref a]) (vs:=[.ref a]) F hr hb hd hx d (.cons rfl .nil) q)
structure Mk (K:W.Frag) (C f:Addr):Prop where
 makes:W.makesIn K C=true
 init:W.findIn K (.ref C) "__init__"=some (some (.ref f))
 fn:W.isFn K (.ref f)=true
 kp:W.keepIn K (.ref C)=true
theorem yde {s:Shared} {Q:VK} (M:Mk X.K C f) (F:wb X.prog X.w X.K X.mg X.base CX k f fd ps sp) (hr:jg (k+1) X.A) (hb:uc X.K fd ps ds) (hd:wx dvs ds)
  (hx:Õ CX X E) (I:Inv X pins σ H s) (r:wx vs us)
  (h:∀ x dx,H x=none->H dx=none->dx≠x->sp (.ref x :: (vs++dvs)) (upd (upd H dx (.own x)) x (.ins C dx [])) (fun v H2=>v=.non/\Q (.ref x) H2) E) :
  wpAny (model X.prog X.w) X.A (call (.ref C) us) (EP X pins σ Q) X.xe s:=by
 have c:=h (s.heap.objs.size+1) s.heap.objs.size (I.hok.fresh (Nat.le_succ _)) (I.hok.fresh (bL _)) (ci (dh _));have b:=Inv.made (C:=C) I;have d:wx (V.ref (s.heap.objs.size+1) :: (vs++dvs)) (Value.ref (s.heap.objs.size+1) :: (us++ds)):=.cons rfl (r.append hd)
 have g:(Value.ref (s.heap.objs.size+1) :: us++ds).length=ps.length:=by
  have e:=d.length;rw [F.len _ _ _ _ c] at e;exact e.symm
 refine wpAny_call (yd7 (f:=f) I.kIn M.makes M.init (beq_iff_eq.mp M.fn) (codeAny_mono (F.run _ X.stack _ _ ⟨Value.ref (s.heap.objs.size+1) :: us,[]⟩ (Value.ref (s.heap.objs.size+1) :: (us++ds)) _ _ E (hr.make C us [])
  (b.env0.make C us []) (hb _ (Value.ref (s.heap.objs.size+1) :: us) b.kIn g) d c) fun r m a=>?_))
 cases r with
 | error e=>exact hx pins σ _ _ e m b a
 | ok fl =>
  cases fl with
  | ret u =>
   obtain ⟨v,i,j,l,o,n⟩:=b.after a;subst o;exact ⟨l,⟨V.ref (s.heap.objs.size+1),i,j,rfl,n⟩⟩
  | next=>exact False.elim a
  | brk=>exact False.elim a
  | cont=>exact False.elim a
theorem ycx (M:Mk X.K C f) (F:wb X.prog X.w X.K X.mg X.base CX k f fd ps sp) (hr:jg (k+1) X.A) (hg:Gl X x) (hm:X.mg x=some (.ref C)) (hb:uc X.K fd ps ds) (hd:wx dvs ds) (hx:Õ CX X E)
  (ha:PA X (e :: es) t) (hdb:(x == ("__debug__":Str))=false:=by decide) (he:starEach (e :: es) X.env=(false,eval e X.env) :: starEach es X.env:=by rfl) (hpl:(backTo pos (starEach es X.env)).any (·.1)=false:=by rfl) :
  PE X (.Call (.Name x p) (e :: es) [] pos) (ysl C sp dvs E t):=by
 refine .mk fun a s σ H Q I h=>?_;refine wpAny_Call_Name_kw (zj I hg hm ?_ hdb);refine W.callWith_K (h₀:=X.base) I.ok.mod.kin M.kp (thn (ha pos a s σ H _ I h) fun d i ⟨c,g,b,r,q⟩=>⟨b.kIn,?_⟩) he hpl;exact yde M F hr hb hd hx b r q
theorem ι (M:Mk X.K C f) (F:wb X.prog X.w X.K X.mg X.base CX k f fd ps sp) (hr:jg (k+1) X.A) (hg:Gl X x) (hm:X.mg x=some (.ref C)) (hb:uc X.K fd ps ds) (hd:wx dvs ds) (hx:Õ CX X E)
  (hdb:(x == ("__debug__":Str))=false:=by decide):PE X (.Call (.Name x p) [] [] pos) (ysl C sp dvs E ytu):=by
 refine .mk fun a s σ H Q I h=>?_;refine wpAny_Call_Name_kw (zj I hg hm ?_ hdb);exact W.callWith_K0 I.kIn M.kp (yde (us:=[]) M F hr hb hd hx I .nil h)
end
section
variable {k:Nat} {f:Addr} {ps ks:List Str} {sp:Sp} {E:XK} {x m:Str} {pos apos kpos:Pos} {e o:Expr} {kws:List Keyword} {t tk:TA} {nm:Option Str}
structure vch (K:W.Frag) (fd:FuncData) (ps ks:List Str) (g:List Value->List Value->List Value) (gV:List V->List V->List V):Prop where
 to:∀ (s:Shared) (us ws:List Value),K.In s.heap->(g us ws).length=ps.length->BindsTo s fd ⟨us,ks.zip ws⟩ (ps.zip (g us ws))
 rel:∀ {vs:List V} {us:List Value} {zs:List V} {ws:List Value},wx vs us->wx zs ws->wx (gV vs zs) (g us ws)
variable {g:List Value->List Value->List Value} {gV:List V->List V->List V}
end
structure yk (N P:List Str) (sc:Scope):Prop where
 kind:sc.kind=.function
 co:sc.isCoroutine=false
 gen:sc.isGenerator=false
 nd:N.Nodup
 pre:N.take P.length=P
 par:∀ x∈P,sc.names.lookup x=some .local\/sc.names.lookup x=some .cell
 nofree:∀ y∈sc.names,y.2≠.free
theorem yar {kindOf:Str->Option NameKind} {x:Str}:∀ {binds:List (Str × Value)} {m:Str->Option Value},(∀ v,(x,v)∉binds)->bindL kindOf binds m x=m x
 | [],_,_=>rfl
 | (n,v) :: r,m,h=>by
  unfold bindL;rw [yar fun w a=>h w (cz _ a)]
  split
  .have:x≠n:=by rintro rfl; exact h v cG
   simp [this]
  .rfl
theorem yaw {kindOf:Str->Option NameKind} {x:Str}:∀ {binds:List (Str × Value)} {m:Str->Option Value},(∀ v,(x,v)∉binds)->bindC kindOf binds m x=m x
 | [],_,_=>rfl
 | (n,v) :: r,m,h=>by
  unfold bindC;rw [yaw fun w a=>h w (cz _ a)]
  split
  .rfl
  .have:x≠n:=by rintro rfl; exact h v cG
   simp [this]
theorem yav {kindOf:Str->Option NameKind} {x:Str} {v:Value}:∀ {P:List Str} {vs:List Value} {i:Nat} {m:Str->Option Value},P.Nodup->P[i]?=some x->vs[i]?=some v->kindOf x=some .local ->
  bindL kindOf (P.zip vs) m x=some v
 | [],_,_,_,_,h,_,_=>by simp at h
 | _ :: _,[],_,_,_,_,h,_=>by simp at h
 | p :: P,w :: vs,0,m,nd,h1,h2,hk=>by
  simp at h1 h2; subst h1; subst h2;show bindL kindOf ((p,w) :: P.zip vs) m p=_;unfold bindL;rw [yar fun v a=>(da.mp nd).1 (List.of_mem_zip a).1,if_pos hk];simp
 | p :: P,w :: vs,i+1,m,nd,h1,h2,hk=>by
  show bindL kindOf ((p,w) :: P.zip vs) m x=_;unfold bindL;exact yav (i:=i) (da.mp nd).2 (by simpa using h1) (by simpa using h2) hk
theorem yao {kindOf:Str->Option NameKind} {x:Str} {v:Value}:∀ {P:List Str} {vs:List Value} {i:Nat} {m:Str->Option Value},P.Nodup->P[i]?=some x->vs[i]?=some v->kindOf x≠some .local ->
  bindC kindOf (P.zip vs) m x=some v
 | [],_,_,_,_,h,_,_=>by simp at h
 | _ :: _,[],_,_,_,_,h,_=>by simp at h
 | p :: P,w :: vs,0,m,nd,h1,h2,hk=>by
  simp at h1 h2; subst h1; subst h2;show bindC kindOf ((p,w) :: P.zip vs) m p=_;unfold bindC;rw [yaw fun v a=>(da.mp nd).1 (List.of_mem_zip a).1,if_neg hk];simp
 | p :: P,w :: vs,i+1,m,nd,h1,h2,hk=>by
  show bindC kindOf ((p,w) :: P.zip vs) m x=_;unfold bindC;exact yao (i:=i) (da.mp nd).2 (by simpa using h1) (by simpa using h2) hk
def Í (N:List Str) (vs:List V):St:=vs.map some++List.replicate (N.length - vs.length) none
def vz (CX:CXT) (P:Program) (w:World) (K:W.Frag) (mg:Str->Option Value) (base:Heap) (N:List Str) (qual:Str) (scope:Scope) (f:Addr) (cd:Value) (A:Around) (outer:List Env) (s:Shared) (H:Hp) (E:XK):Cx where
 prog:=P
 w:=w
 K:=K
 mg:=mg
 base:=base
 A:=A.deeper (envOfC qual scope s.heap.objs.size f cd)
 N:=N
 s₀:=s
 H₀:=H
 env:=envOfC qual scope s.heap.objs.size f cd
 outer:=outer
 stack:=envOfC qual scope s.heap.objs.size f cd :: outer
 ex:=[]
 calm:=true
 fn:=fun _=>true
 pn:=[]
 xe:=fun e s'=>wpAny (model P w) (A.deeper (envOfC qual scope s.heap.objs.size f cd)) (leaving (envOfC qual scope s.heap.objs.size f cd) e) (fun _ s''=>CX outer H s E e s'') (fun e' s''=>CX outer H s E e' s'') s'
theorem ydw {sc:Scope} {n:Nat} {x:Str} (h:sc.names.lookup x=some .cell):∃ c,(cellsFrom n sc.names []).lookup x=some c:=by
 have q:=W.cellsFrom_some sc.names n [] (.inl h);exact Option.isSome_iff_exists.mp q
theorem ygr {w:World} {K:W.Frag} {mg:Str->Option Value} {base:Heap} {N ps:List Str} {qual:Str} {scope:Scope} {f:Addr} {cd:Value} {A:Around} {outer:List Env} {s s1:Shared} {E:XK} 
  (S:yk N ps scope) (hd:A.handled=none) (e0:ytq P w K mg base A outer s H) (hl:vs.length=ps.length) (r:wx vs us)
  (x:InCallC s s.heap.objs.size (bindL (envOfC qual scope s.heap.objs.size f cd).kindOf (ps.zip us) fun _=>none) (cellsFrom (s.heap.objs.size+1) scope.names []) (bindC (envOfC qual scope s.heap.objs.size f cd).kindOf (ps.zip us) fun _=>none) s1) :
  Inv (vz CX P w K mg base N qual scope f cd A outer s H E) [] (Í N vs) H s1:=by
 have F:ps.length <= N.length:=by have:=congrArg List.length S.pre; rw [cg] at this; omega
 obtain ⟨o,I,rfl,C⟩:=x.done;have j:∀ b:Addr,b∉(vz CX P w K mg base N qual scope f cd A outer s H E).ex:=fun b z=>absurd (show b∈([]:List Addr) from z) (by simp)
 refine ⟨⟨e0.mod,S.kind,rfl,rfl,bL _,fun y z c o d=>?_,fun y g=>?_,fun y c _ h=>?_,fun _=>hd,Around.frames_deeper e0.frames,.inr ⟨rfl,rfl⟩,fun b z=>absurd z (j b),e0.bs,e0.bsz,fun b _ _=>j b,fun b z=>absurd z (j b),e0.funs,e0.frf⟩,
  rfl,e0.bare,Un.kept C,⟨_,x.toInCall.ns,fun i y v o d J=>?_⟩,fun y c h=>⟨_,x.cell y c h⟩,e0.hok.fresh (bL _),fun y c h=>?_,fun p m=>absurd (show p∈([]:List (Addr × Obj)) from m) (by simp),e0.hok.kept C,?_⟩
 .exact name_of_addr x.apart (PySem.mem_of_lookup o) (PySem.mem_of_lookup d)
 .have g:scope.names.lookup y=some .cell\/scope.names.lookup y=some .free:=g;rcases g with g | g
  .exact ydw g
  .exact absurd rfl (S.nofree _ (PySem.mem_of_lookup g))
 .exact Nat.le_of_lt (x.above y c (PySem.mem_of_lookup h))
 .have t:i < vs.length:=by
   unfold Í at d;by_cases t:i < vs.length
   .exact t
   .rw [c8 (by simpa using t)] at d;rw [List.getElem?_replicate] at d
    split at d <;> cases d
  have G:vs[i]?=some v:=by
   unfold Í at d;rw [List.getElem?_append_left (by simpa using t),bN] at d
   cases e:vs[i]? with
   | none=>rw [e] at d; cases d
   | some a=>rw [e] at d; cases d; rfl
  obtain ⟨u,B,D⟩:=r.get G
  have m:ps[i]?=some y:=by
   rw [<- S.pre,List.getElem?_take_of_lt (by omega)]; exact o
  have l:ps.Nodup:=by rw [<- S.pre]; exact S.nd.sublist (List.take_sublist _ _)
  refine ⟨u,D,?_⟩;rcases S.par y (cc m) with k | k
  .exact .inl ⟨k,yav l m B k⟩
  .obtain ⟨c,e⟩:=ydw (n:=s.heap.objs.size+1) k;refine .inr ⟨.inl k,c,e,?_⟩;have q:=x.cell y c e;rw [yao l m B (by show scope.names.lookup y≠_; rw [k]; decide)] at q;exact q
 .exact e0.hok.fresh (Nat.le_of_lt (x.above y c (PySem.mem_of_lookup h)))
 .unfold Í;show _=N.length;rw [bP,bH,List.length_replicate];omega
theorem yll {w:World} {K:W.Frag} {mg:Str->Option Value} {base:Heap} {k:Nat} {f:Addr} {name qual:Str} {params:Arguments} {scope:Scope} {dV kV doc pm cdv ct oc:Value} {an od:Option Addr}
  {osl:Array (Option Value)} {N ps:List Str} {sp:Sp} (lk:K.lookup f=some ⟨oc,od,.func (W.fnOf name qual params body scope dV kV doc pm an cdv ct),osl⟩) (hcd:W.codeIn K cdv qual=true) (S:yk N ps scope)
  (len:∀ vs H Q E,sp vs H Q E->vs.length=ps.length)
  (hbody:∀ (A:Around) (outer:List Env) (s:Shared) (H:Hp) (vs:List V) (Q:VK) (E:XK),jg k (A.deeper (envOfC qual scope s.heap.objs.size f cdv))->sp vs H Q E ->
   ∃ t,PSs (vz CX P w K mg base N qual scope f cdv A outer s H E) body t/\t { nx:=fun _ H'=>Q .non H',rt:=Q } (Í N vs) H) :
  wb P w K mg base CX (k+1) f (W.fnOf name qual params body scope dV kV doc pm an cdv ct) ps sp:=by
 refine ⟨len,fun A outer s H z G vs Q E l d C r h=>?_⟩;have L:=len _ _ _ _ h;have p:K.In s.heap:=d.mod.kin.keeps fun b o e=>(d.bs b o e).1;have m:s.heap.NoLimit:=d.mod.nolimit.keeps fun b o e=>(d.bs b o e).1
 have a:∀ y∈ps.zip G,scope.names.lookup y.1=some .local\/(scope.names.lookup y.1=some .cell/\((cellsFrom (s.heap.objs.size+1) scope.names []).lookup y.1).isSome=true):=fun ⟨n,v⟩ M=>by
  rcases S.par n (List.of_mem_zip M).1 with q | q
  .exact .inl q
  .exact .inr ⟨q,W.cellsFrom_some _ _ _ (.inl q)⟩
 refine codeAny_call_function l.depth (p _ _ lk) rfl S.co S.gen rfl (W.codeRec_of p hcd) (C _ _ _ _ ?_);refine wpAny_newFunctionEnv_cells S.kind a fun F O B x=>?_;subst O;refine ⟨m.keeps x.toInCall.keep,codeAny_func ?_⟩;obtain ⟨t,R,T⟩:=hbody A outer s H vs Q E (l.deeper _) h;have I:Inv (vz CX P w K mg base N qual scope f cdv A outer s H E) [] (Í N vs) H B:=ygr S l.hd d L r x;refine cT (R [] B (Í N vs) H _ I T) (fun D i c=>?_) fun e i c=>c
 have g:∀ {σ':St} {H':Hp} {v:V} {u:Value},Inv (vz CX P w K mg base N qual scope f cdv A outer s H E) [] σ' H' i->xh v u->Q v H'->CE outer P w H s Q u i :=
  fun {σ' H' v u} J j q=>⟨v,H',J.os,J.bare,J.base,J.hok,j,q⟩
 cases D with
 | ret u =>
  obtain ⟨v,σ',H',J,j,q⟩:=c;exact g J j q
 | next =>
  obtain ⟨σ',H',J,q⟩:=c;exact g (v:=V.non) (u:=Value.none) J rfl q
 | brk =>
  obtain ⟨_,_,_,q⟩:=c;exact False.elim q
 | cont =>
  obtain ⟨_,_,_,q⟩:=c;exact False.elim q
section
variable {x:Str} {pos:Pos} {e:Expr} {t:TA} {id T:String} {r:List V->Hp->VK->Prop}
def tCB (r:List V->Hp->VK->Prop) (t:TA):TE:=fun σ H Q=>t σ H fun vs H1=>r vs H1 Q
theorem yq (hc:u9 X (.builtin id) r) (hg:Gl X x) (hm:X.mg x=none) (hv:bootBuiltins x=some (.builtin id)) (ha:PA X (e :: es) t) (hn:x≠"__name__":=by decide) (hdb:(x == ("__debug__":Str))=false:=by decide)
  (he:starEach (e :: es) X.env=(false,eval e X.env) :: starEach es X.env:=by rfl) (hpl:(backTo pos (starEach es X.env)).any (·.1)=false:=by rfl):PE X (.Call (.Name x p) (e :: es) [] pos) (tCB r t):=by
 refine .mk fun a s σ H Q I h=>?_;refine wpAny_Call_Name_kw (Ē I hg hm hv ?_ hn hdb);exact PyProof.Rows.callWith_builtin1 (thn (ha pos a s σ H _ I h) fun c g ⟨b,d,i,j,f⟩=>hc a g σ d b c Q i j f) he hpl
theorem wt (hc:u9 X (.type T) r) (hg:Gl X x) (hm:X.mg x=none) (hv:bootBuiltins x=some (.type T)) (ha:PA X (e :: es) t) (hn:x≠"__name__":=by decide) (hdb:(x == ("__debug__":Str))=false:=by decide)
  (he:starEach (e :: es) X.env=(false,eval e X.env) :: starEach es X.env:=by rfl) (hpl:(backTo pos (starEach es X.env)).any (·.1)=false:=by rfl):PE X (.Call (.Name x p) (e :: es) [] pos) (tCB r t):=by
 refine .mk fun a s σ H Q I h=>?_;refine wpAny_Call_Name_kw (Ē I hg hm hv ?_ hn hdb);exact PyProof.Rows.callWith_type1 (thn (ha pos a s σ H _ I h) fun c g ⟨b,d,i,j,f⟩=>hc a g σ d b c Q i j f) he hpl
end
end L2
namespace HT
open PySem PyProof.Rows
section
open PySem.SeqAt
open PySem.AutoSeq1 (wpAny_loadPart')
open PySem.MeetsSeq PySem.MeetsSeq2 PySem.MeetsSeq3
end
section
variable {prog:Program} {w:World} {A:Around} {E:Value->Shared->Prop} {s:Shared}
def sIx (n d:Nat):Option Int->Nat
 | none=>d
 | some v=>if v < 0 then (v+(n:Int)).toNat else min v.toNat n
theorem sIx_none (n d:Nat):sIx n d none=d:=rfl
theorem sIx_nat (n d k:Nat):sIx n d (some (k:Int))=min k n:=by
 show (if (k:Int) < 0 then ((k:Int)+(n:Int)).toNat else min (k:Int).toNat n)=min k n;rw [if_neg (by omega),Int.toNat_natCast]
theorem yv9 (n d:Nat) (hd:d <= n) (o:Option Int):sIx n d o <= n:=by
 cases o with
 | none=>exact hd
 | some v =>
  show (if v < 0 then (v+(n:Int)).toNat else min v.toNat n) <= n;by_cases hv:v < 0
  .rw [if_pos hv]; omega
  .rw [if_neg hv]; exact Nat.min_le_right _ _
theorem yhr (v:Int) (n d:Nat):(if v < 0 then max (v+(n:Int)) 0 else min v (n:Int))=((sIx n d (some v):Nat):Int):=by
 show (if v < 0 then max (v+(n:Int)) 0 else min v (n:Int))=(((if v < 0 then (v+(n:Int)).toNat else min v.toNat n):Nat):Int);by_cases hv:v < 0
 .simp only [if_pos hv]; omega
 .simp only [if_neg hv]; omega
theorem yfl (lo hi:Option Int) (n:Nat):Builtin.Slice.sliceAdjust lo hi 1 (n:Int)=(((sIx n 0 lo:Nat):Int),((sIx n n hi:Nat):Int)):=by
 have a:¬ ((1:Int) < 0):=by omega
 unfold Builtin.Slice.sliceAdjust;simp only [a,if_false];refine Prod.ext ?_ ?_
 .cases lo with
  | none=>rfl
  | some v=>exact yhr v n 0
 .cases hi with
  | none=>rfl
  | some v=>exact yhr v n n
theorem yfa (i j:Nat):Builtin.Slice.slicePlaces (i:Int) (j:Int) 1=j - i:=by
 unfold Builtin.Slice.slicePlaces;have a:(1:Int) > 0:=by omega
 simp only [a,if_true,Int.ediv_one]
 split <;> omega
theorem ī {v:Value} {o:Option Int} {Q:Option Int->Shared->Prop} (p:IsPart v o) (h:Q o s):wpAny (model prog w) A (Builtin.Slice.slicePartIndex v) Q E s:=by
 cases p with
 | none=>exact slicePart_none h
 | int i t=>exact slicePart_int h
theorem zn {sl:Addr} {vl vu:Value} {lo hi:Option Int} {n:Nat} {Q:Int × Int × Nat->Shared->Prop} (hs:s.heap.IsSliceOf sl vl vu .none) (pl:IsPart vl lo) (pu:IsPart vu hi)
  (h:Q (((sIx n 0 lo:Nat):Int),1,sIx n n hi - sIx n 0 lo) s):wpAny (model prog w) A (Builtin.Slice.sliceApplied (.ref sl) (pure (n:Int))) Q E s:=by
 obtain ⟨d,a,c,b⟩:=id hs;unfold Builtin.Slice.sliceApplied Builtin.Slice.sliceFields;refine bI (bI (cS a b (x:=vl) rfl (bI (cS a b (x:=vu) rfl (bI (cS a b (x:=.none) rfl (bO ?_)))))));refine bI (slicePart_none ?_);show wpAny _ _ (if ((1:Int) == 0)=true then _ else _) _ _ s;rw [if_neg (by decide)];refine bI (ī pl (bI (ī pu (bI (bO ?_)))))
 show wpAny _ _ (match Builtin.Slice.sliceAdjust lo hi 1 (n:Int) with | (lo,hi)=>pure (lo,(1:Int),Builtin.Slice.slicePlaces lo hi 1)) _ _ s
 rw [yfl lo hi n];show wpAny _ _ (pure (((sIx n 0 lo:Nat):Int),(1:Int),Builtin.Slice.slicePlaces ((sIx n 0 lo:Nat):Int) ((sIx n n hi:Nat):Int) 1)) _ _ s;rw [yfa];exact bO h
theorem ykm (xs:Array Value) (i k:Nat):((List.range k).filterMap fun (m:Nat)=>xs[((i:Int)+(m:Int) * 1).toNat]?).toArray=((xs.toList.drop i).take k).toArray:=by
 have e:(fun (m:Nat)=>xs[((i:Int)+(m:Int) * 1).toNat]?)=fun m=>xs[i+m]?:=by
  funext m
  have:((i:Int)+(m:Int) * 1).toNat=i+m:=by omega
  rw [this]
 rw [e];have:=pick_run xs i k;rw [List.filterMap_map] at this;have a:((fun x=>xs[x]?) ∘ fun x=>i+x)=fun m=>xs[i+m]?:=rfl;rw [a] at this;rw [this]
theorem getItem_tuple_cut {t sl:Addr} {items:Array Value} {vl vu:Value} {lo hi:Option Int} {Q:Value->Shared->Prop} (ht:IsTup s.heap t items) (hs:s.heap.IsSliceOf sl vl vu .none) (pl:IsPart vl lo) (pu:IsPart vu hi)
  (hw:¬ (sIx items.size 0 lo=0/\sIx items.size items.size hi=items.size))
  (h:Q (.ref s.heap.objs.size) { s with heap:=s.heap.push { cls:=.type "tuple",data:=.seq ((items.toList.drop (sIx items.size 0 lo)).take (sIx items.size items.size hi - sIx items.size 0 lo)).toArray } })
  (hsz:items.size <= sizeLine):wpAny (model prog w) A (getItem (.ref t) (.ref sl)) Q E s:=by
 have a:sizeOk (.seq ((items.toList.drop (sIx items.size 0 lo)).take (sIx items.size items.size hi - sIx items.size 0 lo)).toArray):=by
  show ((items.toList.drop (sIx items.size 0 lo)).take (sIx items.size items.size hi - sIx items.size 0 lo)).toArray.size <= sizeLine;rw [bT,cg,c7,cN];omega
 have j:sIx items.size items.size hi <= items.size:=yv9 _ _ (bL _) hi;obtain ⟨g,d,b,f⟩:=id hs;have c:s.TypeIs (.ref sl) "slice":=⟨g,d,b⟩;unfold getItem
 try with_reducible refine wpAny_holding ?_
 first | refine bI (bO ?_) | skip
 refine bI (wpAny_sequenceKey ht.typeIs (by decide) ?_);refine bI (wpAny_callSpecial?_slot (name:=Str.ofString "__getitem__") ht.typeIs PyProof.Rows.slot_tuple_getitem
  (wpAny_call_entry PyProof.Rows.slot_tuple_getitem ht.typeIs entry_tuple_getitem ?_ (args_tuple_getitem _ _)))
 show wpAny _ _ (Builtin.Tuple.tupleItemsOf (.ref t) >>= _) _ _ s;refine bI (tupleItemsOf_ ht ?_);refine bI (wpAny_typeOf c ?_);rw [if_pos (by decide)];refine bI (zn hs pl pu ?_)
 have e:¬ ((((sIx items.size 0 lo:Nat):Int) == 0 && (1:Int) == 1 && (sIx items.size items.size hi - sIx items.size 0 lo) == items.size)=true):=by
  intro q;rw [cq,cq] at q;have k:((sIx items.size 0 lo:Nat):Int)=0:=eq_of_beq q.1.1;have i:sIx items.size items.size hi - sIx items.size 0 lo=items.size:=eq_of_beq q.2;exact hw ⟨by omega,by omega⟩
 show wpAny _ _ (if (((sIx items.size 0 lo:Nat):Int) == 0 && (1:Int) == 1 && (sIx items.size items.size hi - sIx items.size 0 lo) == items.size)=true then _ else _) _ _ s;rw [if_neg e,ykm]
 first
  | exact bI (m:=Builtin.Tuple.tupleExact _) (wpAny_newObj_type (bO ⟨_,rfl,bO h⟩) a)
  | exact bI (m:=Builtin.Tuple.tupleExact _) (wpAny_newObj_type (bI (bO (bO ⟨_,rfl,bO h⟩))) a)
  | exact bI (bI (m:=Builtin.Tuple.tupleExact _) (wpAny_newObj_type (bO (bO ⟨_,rfl,bO h⟩)) a))
  | exact bI (bI (m:=Builtin.Tuple.tupleExact _) (wpAny_newObj_type (bO ⟨_,rfl,bO h⟩) a))
end
end HT
namespace L2
open PySem PySem.Spec PyProof.Rows
variable {v:Value}
abbrev TO:=St->Hp->(Option Int->Hp->Prop)->Prop
def PO (X:Cx) (e:Option Expr) (t:TO):Prop :=
 ∀ (pins:List (Addr × Obj)) (s:Shared) (σ:St) (H:Hp) (Q:Option Int->Hp->Prop),Inv X pins σ H s->t σ H Q ->
  wpAny (model X.prog X.w) X.A (evalPart e X.env) (fun u s'=>∃ o H',Inv X pins σ H' s'/\IsPart u o/\Q o H') X.xe s
def yh2:TO:=fun _ H Q=>Q none H
def yy5 (t:TE):TO:=fun σ H Q=>t σ H fun x H1=>∃ i,x=.int i/\Q (some i) H1
theorem yfi {ns:List Int}:∀ {us:List Value},wx (ns.map V.int) us->IntsAre us ns:=by
 induction ns with
 | nil=>intro us r; rw [List.map_nil] at r; cases r; exact .nil
 | cons n ns ih =>
  intro us r;rw [cA] at r
  cases r with
  | cons r1 r2 =>
   obtain ⟨t,e⟩:=r1;subst e;exact .cons n t (ih r2)
section
variable {X:Cx} {e:Expr} {te:TE} {lo hi:Option Expr} {tl th:TO} {pos p2:Pos}
theorem uo:PO X none yh2:=by
 intro a s σ H Q I h;rw [evalPart_none];exact bO ⟨none,H,I,.none,h⟩
theorem uq (h:PE X e te):PO X (some e) (yy5 te):=by
 intro a s σ H Q I b;rw [evalPart_some];refine thn (h a s σ H _ I b) fun u j h'=>?_;obtain ⟨x,c,f,g,d⟩:=h';obtain ⟨i,rfl,q⟩:=d;obtain ⟨t,rfl⟩:=g;exact ⟨some i,c,f,.int i t,q⟩
def SlR (X:Cx) (r:V->Option Int->Option Int->Hp->VK->Prop):Prop :=
 ∀ (pins:List (Addr × Obj)) (s:Shared) (σ:St) (H:Hp) (x:V) (v vl vu:Value) (lo hi:Option Int) (sl:Addr) (Q:VK),Inv X pins σ H s->xh x v->s.heap.IsSliceOf sl vl vu .none->IsPart vl lo->IsPart vu hi->r x lo hi H Q ->
  ∃ T id,typeLookup (.type T) "__getitem__"=pure (some (.builtin id))/\s.TypeIs v T/\wpAny (model X.prog X.w) X.A (getItem v (.ref sl)) (EP X pins σ Q) X.xe s
theorem SlR.or {r r':V->Option Int->Option Int->Hp->VK->Prop} (h:SlR X r) (h':SlR X r'):SlR X (fun x lo hi H Q=>r x lo hi H Q\/r' x lo hi H Q):=by
 intro a s σ H x v d c lo hi b Q I f g i e q;rcases q with q | q
 .exact h a s σ H x v d c lo hi b Q I f g i e q
 .exact h' a s σ H x v d c lo hi b Q I f g i e q
def tSl (r:V->Option Int->Option Int->Hp->VK->Prop) (te:TE) (tl th:TO):TE:=fun σ H Q=>te σ H fun x H1=>tl σ H1 fun l H2=>th σ H2 fun u H3=>r x l u H3 Q
theorem xz {r:V->Option Int->Option Int->Hp->VK->Prop} (hr:SlR X r) (he:PE X e te) (hl:PO X lo tl) (hu:PO X hi th):PE X (.Subscript e (.Slice lo hi none p2) pos) (tSl r te tl th):=by
 refine .mk fun a s σ H Q I h=>?_;refine Subscript_ (thn (he a s σ H _ I h) fun v F h'=>?_);obtain ⟨x,B,D,J,m⟩:=h';refine wpAny_Slice (thn (hl a F σ B _ D m) fun d i ⟨l,z,t,G,y⟩=>thn (hu a i σ z _ t y) fun f c h'=>?_);obtain ⟨u,g,E,p,n⟩:=h';rw [evalPart_none];refine bO ?_;have j:Inv X a σ g { c with heap:=c.heap.push { cls:=.type "slice",data:=.fields #[d,f,.none] } }:=E.kept (t':=c.toks) fun b K q=>bK _ q;obtain ⟨T,id,k,C,o⟩:=hr a { c with heap:=c.heap.push { cls:=.type "slice",data:=.fields #[d,f,.none] } } σ g x v d f l u c.heap.objs.size Q j J (Heap.IsSliceOf.new ..) G p n;show wpAny (model X.prog X.w) X.A (subscriptTail e (.Slice lo hi none p2) v (.ref c.heap.objs.size)) (EP X a σ Q) X.xe { c with heap:=c.heap.push { cls:=.type "slice",data:=.fields #[d,f,.none] } };exact tail_any (ops:=[.ref c.heap.objs.size,v]) C k o (by with_unfolding_all rfl)
def yc4 (xs:List V) (lo hi:Option Int):List V:=(xs.drop (HT.sIx xs.length 0 lo)).take (HT.sIx xs.length xs.length hi - HT.sIx xs.length 0 lo)
theorem ð (xs:List V) (lo hi:Option Int):(yc4 xs lo hi).length <= xs.length:=by
 unfold yc4;rw [cg,c7];omega
def vc7 (K:W.Frag):V->Option Int->Option Int->Hp->VK->Prop:=fun x lo hi H Q=>∃ a xs,x=.ref a/\SqT K H a xs /\
 ¬ (HT.sIx xs.length 0 lo=0/\HT.sIx xs.length xs.length hi=xs.length)/\∀ p,H p=none->Q (.ref p) (upd H p (.tup (yc4 xs lo hi)))
theorem yuc:SlR X (vc7 X.K):=by
 intro g s σ H x v z y lo f u Q I t p n l h;obtain ⟨a,d,rfl,m,k,q⟩:=h;cases t;obtain ⟨e,r,j,i⟩:=I.tuple m;have c:e.toArray.size=d.length:=by rw [bT]; exact r.length.symm
 refine ⟨"tuple",_,PyProof.Rows.slot_tuple_getitem.lookup,j.typeIs,?_⟩;refine HT.getItem_tuple_cut j p n l (by rw [c]; exact k) ?_ (by rw [c]; exact i);rw [c];refine ⟨.ref s.heap.objs.size,_,I.laid (t':=s.toks) (o:=.tup (yc4 d lo f)) (fun b w q=>bK _ q) (bL _) ?_,rfl,q _ (I.hok.fresh (bL _))⟩;exact ⟨cn (ð d lo f) i,_,(r.drop (HT.sIx d.length 0 lo)).take (HT.sIx d.length d.length f - HT.sIx d.length 0 lo),IsTup.new _ _⟩
end
def ixN (n:Nat) (i:Int):Option Nat:=if 0 <= i then (if i < n then some i.toNat else none) else if -(n:Int) <= i then some (i+n).toNat else none
def atI {α:Type} (xs:List α) (i:Int):Option α:=(ixN xs.length i).bind fun j=>xs[j]?
theorem ypp {n:Nat} {i:Int} {j:Nat} (h:ixN n i=some j):seqIndex? i n=some j/\j < n/\-(n:Int) <= i/\i < n:=by
 unfold ixN at h;by_cases h0:0 <= i
 .rw [if_pos h0] at h;by_cases h1:i < n
  .rw [if_pos h1] at h;have e:i.toNat=j:=bX h;exact ⟨by rw [seqIndex_of h0 h1,e],by omega,by omega,h1⟩
  .rw [if_neg h1] at h; cases h
 .rw [if_neg h0] at h;by_cases h1:-(n:Int) <= i
  .rw [if_pos h1] at h;have e:(i+n).toNat=j:=bX h;exact ⟨by rw [seqIndex_neg (by omega) h1,e],by omega,h1,by omega⟩
  .rw [if_neg h1] at h; cases h
theorem yhq {α:Type} {xs:List α} {i:Int} {v:α} (h:atI xs i=some v):∃ j,seqIndex? i xs.length=some j/\xs[j]?=some v/\j < xs.length/\-(xs.length:Int) <= i/\i < xs.length:=by
 unfold atI at h
 cases e:ixN xs.length i with
 | none=>rw [e] at h; cases h
 | some j =>
  rw [e] at h;obtain ⟨c,b,d,a⟩:=ypp e;exact ⟨j,c,h,b,d,a⟩
theorem xc {α:Type} {xs:List α} {j:Nat} {v:α} (h:xs[j]?=some v):atI xs (j:Int)=some v:=by
 have a:j < xs.length:=(cM.mp h).1
 have e:ixN xs.length (j:Int)=some j:=by
  unfold ixN;rw [if_pos (by omega),if_pos (by omega)]; simp
 unfold atI; rw [e]; exact h
theorem yli {α:Type} (xs:List α) (v:α):atI (xs++[v]) (-1)=some v:=by
 have a:(xs++[v]).length=xs.length+1:=by simp
 have e:ixN (xs++[v]).length (-1)=some xs.length:=by
  unfold ixN;rw [a,if_neg (by decide),if_pos (by omega)]
  congr 1
  omega
 unfold atI;rw [e];show (xs++[v])[xs.length]?=some v;simp
def ypb (b:Expr):Prop:=∀ o i,subscripted b false o i=operate [o,i] (getItem o i)
def IxR (X:Cx) (r:R2):Prop :=
 ∀ (value slice:Expr) (pins:List (Addr × Obj)) (s:Shared) (σ:St) (H:Hp) (x y:V) (v u:Value) (Q:VK),Inv X pins σ H s->xh x v->xh y u->r x y H Q ->
  subscripted slice false v u=operate [v,u] (getItem v u)->wpAny (model X.prog X.w) X.A (subscriptTail value slice v u) (EP X pins σ Q) X.xe s
def MtR (X:Cx) (id:String) (r:V->List V->Hp->VK->Prop):Prop :=
 ∀ (pins:List (Addr × Obj)) (s:Shared) (σ:St) (H:Hp) (x:V) (xs:List V) (v:Value) (us:List Value) (Q:VK),Inv X pins σ H s->xh x v->wx xs us->r x xs H Q ->
  wpAny (model X.prog X.w) X.A (call (.builtin id) (v :: us)) (EP X pins σ Q) X.xe s
section
variable {X:Cx} {a b:Expr} {ta tb:TE} {pos:Pos}
theorem ud {r:R2} (hr:IxR X r) (ha:PE X a ta) (hb:PE X b tb) (hs:ypb b):PE X (.Subscript a b pos) (tOp r ta tb):=by
 refine .mk fun c s σ H Q I h=>?_;exact Subscript_ (yz7 ha hb I h fun v u d x y e g i f q=>hr a b c d σ e x y v u Q g i f q (hs _ _))
def vcd (K:W.Frag):R2:=fun x y H Q=>∃ p xs i v,x=.ref p/\y=.int i/\SqL K H p xs/\atI xs i=some v/\Q v H
def vb7 (K:W.Frag):R2:=fun x y H Q=>∃ p xs i v,x=.ref p/\y=.int i/\SqT K H p xs/\atI xs i=some v/\Q v H
theorem ur:IxR X (vcd X.K):=by
 intro k f a s σ H x y v u Q I C A h n;obtain ⟨p,L,i,z,rfl,rfl,G,E,q⟩:=h;cases C;obtain ⟨t,rfl⟩:=A;obtain ⟨g,r,l,N⟩:=I.list G;obtain ⟨j,c,D,M,J,o⟩:=yhq E;obtain ⟨w,m,e⟩:=r.get D;have B:=r.length;have O:=ye3;have b:EP X a σ Q w s:=⟨z,H,I,e,q⟩;by_cases h0:0 <= i
 .have d:i.toNat=j:=by
   rw [seqIndex_of h0 o] at c;exact bX c
  exact item_listR l.isList h0 (by omega) (by rw [d]; simpa using m) b n
 .have d:(i+(g.toArray.size:Int)).toNat=j:=by
   rw [seqIndex_neg (by omega) J] at c;rw [bT,<- B];exact bX c
  exact subscriptTail_builtinR (x:=w) l.isList.typeIs slot_list_getitem.lookup
   (wpAny_getItem_list_neg (Q:=fun r F=>r=w/\EP X a σ Q r F) l.isList (by omega) (by rw [bT] <;> omega) (by omega) (by rw [d]; simpa using m) ⟨rfl,b⟩) n
theorem u7:IxR X (vb7 X.K):=by
 intro e c a s σ H x y v u Q I o k h n;obtain ⟨p,F,i,z,rfl,rfl,E,C,q⟩:=h;cases o;obtain ⟨t,rfl⟩:=k;obtain ⟨B,r,f,L⟩:=I.tuple E;obtain ⟨j,l,A,G,N,J⟩:=yhq C;obtain ⟨w,g,b⟩:=r.get A;have m:=r.length;have M:=ye3;have d:EP X a σ Q w s:=⟨z,H,I,b,q⟩;exact subscriptTail_builtinR (x:=w) f.typeIs slot_tuple_getitem.lookup
  (getItem_tuple (j:=j) (Q:=fun r D=>r=w/\EP X a σ Q r D) f (by omega) (by omega) (by rw [bT,<- m]; exact l) (by simpa using g) ⟨rfl,d⟩) n
theorem ſ (lo hi:Option Int) (n:Nat):(sliceBounds lo hi none n).1=((HT.sIx n 0 lo:Nat):Int)/\(sliceBounds lo hi none n).2.1=((HT.sIx n n hi:Nat):Int)/\(sliceBounds lo hi none n).2.2=1:=by
 refine ⟨?_,?_,rfl⟩
 .cases lo with
  | none=>simp [sliceBounds,HT.sIx]
  | some i =>
   simp only [sliceBounds,HT.sIx,Option.getD_none,show (1:Int) > 0 by decide,if_true];by_cases h:i < 0
   .simp only [h,if_true] <;> omega
   .simp only [h,if_false] <;> omega
 .cases hi with
  | none=>simp [sliceBounds,HT.sIx]
  | some i =>
   simp only [sliceBounds,HT.sIx,Option.getD_none,show (1:Int) > 0 by decide,if_true];by_cases h:i < 0
   .simp only [h,if_true] <;> omega
   .simp only [h,if_false] <;> omega
theorem š (its:List Value) (lo hi:Option Int):slicePick its.toArray lo hi none=((its.drop (HT.sIx its.length 0 lo)).take (HT.sIx its.length its.length hi - HT.sIx its.length 0 lo)).toArray:=by
 obtain ⟨b,a,c⟩:=ſ lo hi its.toArray.size;unfold slicePick;rw [b,a,c];simp only [sliceRange_one,pick_run,bT] <;> rfl
def vcz (K:W.Frag):V->Option Int->Option Int->Hp->VK->Prop:=fun x lo hi H Q=>∃ a xs,x=.ref a/\SqL K H a xs/\∀ p,H p=none->Q (.ref p) (upd H p (.lst (yc4 xs lo hi)))
theorem jy:SlR X (vcz X.K):=by
 intro f s σ H x v y w lo e t Q I p n j k h;obtain ⟨a,c,rfl,m,q⟩:=h;cases p;obtain ⟨i,r,g,l⟩:=I.list m;have d:=r.length;refine ⟨"list",_,slot_list_getitem.lookup,g.isList.typeIs,?_⟩;refine wpAny_getItem_list_slice g.isList n j k .none (by simp) ?_ (by rw [bT] <;> omega);rw [š,<- d];refine ⟨.ref s.heap.objs.size,_,I.laid (t':=s.toks) (o:=.lst (yc4 c lo e)) (fun b u q=>bK _ q) (bL _) ?_,rfl,q _ (I.hok.fresh (bL _))⟩;exact ⟨cn (ð c lo e) l,_,0,(r.drop (HT.sIx c.length 0 lo)).take (HT.sIx c.length c.length e - HT.sIx c.length 0 lo),bU _ rfl⟩
def Ż:V->Bool
 | .non=>true
 | .bl _=>true
 | .int _=>true
 | .str _=>true
 | _=>false
def eqV:V->V->Bool
 | .non,.non=>true
 | .bl a,.bl b=>a == b
 | .bl a,.int b=>(if a then 1 else 0) == b
 | .int a,.bl b=>a == (if b then 1 else 0)
 | .int a,.int b=>a == b
 | .str a,.str b=>a == b
 | _,_=>false
theorem ywu {A:Around} {s:Shared} {y x:V} {u:Value} (ry:xh y u) (rx:xh x v) (fy:Ż y=true) (fx:Ż x=true):SeqAt.EqAt A s u v (eqV y x):=by
 cases y with
 | non =>
  cases ry
  cases x with
  | non=>cases rx; exact SeqAt.EqAt.same _
  | bl b=>cases rx; exact SeqAt.EqAt.none_bool b
  | int b=>obtain ⟨t,rfl⟩:=rx; exact SeqAt.EqAt.none_int b t
  | str b=>obtain ⟨t,rfl⟩:=rx; exact SeqAt.EqAt.none_str b t
  | _=>exact absurd (show false=true from fx) bS
 | bl a =>
  cases ry
  cases x with
  | non=>cases rx; exact SeqAt.EqAt.bool_none a
  | bl b=>cases rx; exact SeqAt.EqAt.bool_bool a b
  | int b=>obtain ⟨t,rfl⟩:=rx; exact SeqAt.EqAt.bool_int a b t
  | str b=>obtain ⟨t,rfl⟩:=rx; exact SeqAt.EqAt.bool_str a b t
  | _=>exact absurd (show false=true from fx) bS
 | int a =>
  obtain ⟨c,rfl⟩:=ry
  cases x with
  | non=>cases rx; exact SeqAt.EqAt.int_none a c
  | bl b=>cases rx; exact SeqAt.EqAt.int_bool a c b
  | int b=>obtain ⟨t,rfl⟩:=rx; exact SeqAt.EqAt.int_int a c b t
  | str b=>obtain ⟨t,rfl⟩:=rx; exact SeqAt.EqAt.int_str a c b t
  | _=>exact absurd (show false=true from fx) bS
 | str a =>
  obtain ⟨c,rfl⟩:=ry
  cases x with
  | non=>cases rx; exact SeqAt.EqAt.str_none a c
  | bl b=>cases rx; exact SeqAt.EqAt.str_bool a c b
  | int b=>obtain ⟨t,rfl⟩:=rx; exact SeqAt.EqAt.str_int a c b t
  | str b=>obtain ⟨t,rfl⟩:=rx; exact SeqAt.EqAt.str_str a c b t
  | _=>exact absurd (show false=true from fx) bS
 | _=>exact absurd (show false=true from fy) bS
def eqU (x:V) (u:Value):Bool:=match u with
 | .none=>eqV .non x
 | .bool b=>eqV (.bl b) x
 | .int i _=>eqV (.int i) x
 | .str z _=>eqV (.str z) x
 | _=>false
theorem yno {x y:V} {u:Value} (r:xh y u) (f:Ż y=true):eqU x u=eqV y x:=by
 cases y with
 | non=>cases r; rfl
 | bl b=>cases r; rfl
 | int i=>obtain ⟨t,rfl⟩:=r; rfl
 | str z=>obtain ⟨t,rfl⟩:=r; rfl
 | _=>exact absurd (show false=true from f) bS
theorem Ĉ {x:V}:∀ {xs:List V} {us:List Value},wx xs us->xs.all Ż=true->us.any (eqU x)=xs.any fun y=>eqV y x
 | _,_,.nil,_=>rfl
 | y :: xs,u :: us,.cons r t,f=>by
  rw [List.all_cons,cq] at f;rw [List.any_cons,List.any_cons,yno r f.1,Ĉ t f.2]
theorem ρ {A:Around} {s:Shared} {x:V} (rx:xh x v) (fx:Ż x=true):∀ {xs:List V} {us:List Value},wx xs us->xs.all Ż=true->∀ u∈us,SeqAt.EqAt A s u v (eqU x u)
 | _,_,.nil,_=>fun u a=>by cases a
 | y :: xs,u :: us,.cons r t,f=>fun b a=>by
  rw [List.all_cons,cq] at f;rcases bW.mp a with rfl | a
  .rw [yno r f.1]; exact ywu r rx f.1 fx
  .exact ρ rx fx t f.2 b a
def inV (x:V) (xs:List V):Bool:=xs.any fun y=>eqV y x
def rIn (K:W.Frag) (neg:Bool):R2:=fun x y H Q=>∃ p xs,y=.ref p/\(SqL K H p xs\/SqT K H p xs)/\Ż x=true/\xs.all Ż=true/\Q (.bl (if neg then !inV x xs else inV x xs)) H
theorem yha:OpR X (compareOp .In) (rIn X.K false):=by
 intro f s σ H x y v u Q I i k h;obtain ⟨p,l,rfl,b,g,c,q⟩:=h;cases k;rcases b with b | b
 .obtain ⟨a,r,e,j⟩:=I.list b;refine SeqAt.in_listAt (eqU x) e.isList (fun w d=>ρ i g r c w (by simpa using d)) ⟨.bl _,H,I,rfl,?_⟩;rw [show a.toArray.any (eqU x)=a.any (eqU x) by simp,Ĉ r c];exact q
 .obtain ⟨a,r,e,j⟩:=I.tuple b;refine SeqAt.in_tupleAt (eqU x) e (fun w d=>ρ i g r c w (by simpa using d)) ⟨.bl _,H,I,rfl,?_⟩;rw [show a.toArray.any (eqU x)=a.any (eqU x) by simp,Ĉ r c];exact q
theorem yab:OpR X (compareOp .NotIn) (rIn X.K true):=by
 intro f s σ H x y v u Q I i k h;obtain ⟨p,l,rfl,b,g,c,q⟩:=h;cases k;rcases b with b | b
 .obtain ⟨a,r,e,j⟩:=I.list b;refine SeqAt.notIn_listAt (eqU x) e.isList (fun w d=>ρ i g r c w (by simpa using d)) ⟨.bl _,H,I,rfl,?_⟩;rw [show a.toArray.any (eqU x)=a.any (eqU x) by simp,Ĉ r c];exact q
 .obtain ⟨a,r,e,j⟩:=I.tuple b;refine SeqAt.notIn_tupleAt (eqU x) e (fun w d=>ρ i g r c w (by simpa using d)) ⟨.bl _,H,I,rfl,?_⟩;rw [show a.toArray.any (eqU x)=a.any (eqU x) by simp,Ĉ r c];exact q
theorem y6:u9 X (.builtin "len") (fun xs H Q=>∃ p ys,xs=[.ref p]/\(SqL X.K H p ys\/SqT X.K H p ys)/\Q (.int ys.length) H):=by
 intro f s σ H xs k Q I r h;obtain ⟨p,ys,rfl,b,q⟩:=h;obtain ⟨u,rfl,i⟩:=ψ r;cases i;have j:=ye3;rcases b with b | b
 .obtain ⟨d,c,e,g⟩:=I.list b;have a:=c.length;exact Calls.call_len_list e.isList (by simp only [bT] <;> omega) ⟨.int ys.length,H,I.tok _,⟨s.toks+1,by rw [bT,a]⟩,q⟩
 .obtain ⟨d,c,e,g⟩:=I.tuple b;have a:=c.length;exact len_tuple e (by simp only [bT] <;> omega) ⟨.int ys.length,H,I.tok _,⟨s.toks+1,by rw [bT,a]⟩,q⟩
theorem Ï:u9 X (.builtin "len") (fun xs H Q=>∃ z,xs=[.str z]/\z.length <= sizeLine/\Q (.int z.length) H):=by
 intro a s σ H xs c Q I r h;obtain ⟨z,rfl,d,q⟩:=h;obtain ⟨u,rfl,t,rfl⟩:=ψ r;have b:=ye3;exact len_str (by omega) ⟨.int z.length,H,I.tok _,⟨_,rfl⟩,q⟩
theorem xp:u9 X (.type "list") (fun xs H Q=>∃ p ys,xs=[.ref p]/\(SqL X.K H p ys\/SqT X.K H p ys)/\∀ l,H l=none->Q (.ref l) (upd H l (.lst ys))):=by
 intro m s σ H xs B Q I r h;obtain ⟨p,ys,rfl,j,q⟩:=h;obtain ⟨u,rfl,A⟩:=ψ r;cases A;have k:∀ (a:List Value),wx ys a->ys.length <= sizeLine->∀ (c:Heap) (f:Nat),(∀ b o',s.heap.get? b=some o'->c.get? b=some o') ->
   c.get? s.heap.objs.size=some { cls:=.type "list",dict:=none,data:=.seq a.toArray f,slots:=#[] }->EP X m σ Q (.ref s.heap.objs.size) { s with heap:=c }:=fun a d t c f g e =>
  ⟨.ref s.heap.objs.size,_,I.laid (t':=s.toks) g (bL _) (show ww X.prog X.w _ c _ (.lst ys) from ⟨t,a,f,d,e⟩),rfl,q _ (I.hok.fresh (bL _))⟩
 rcases j with j | j
 .obtain ⟨a,d,z,t⟩:=I.list j;have i:=d.length;obtain ⟨o,v,x,n,y⟩:=z.isList;exact call_list_seq p (.inl rfl) v x y (fun c f g e=>k a d t c f g e) (by simp only [bT] <;> omega)
 .obtain ⟨a,d,z,t⟩:=I.tuple j;have i:=d.length;obtain ⟨o,v,x,n,y⟩:=z;exact call_list_seq p (.inr rfl) v x y (fun c f g e=>k a d t c f g e) (by simp only [bT] <;> omega)
theorem γ:u9 X (.type "tuple") (fun xs H Q=>∃ p ys,xs=[.ref p]/\((SqL X.K H p ys/\∀ l,H l=none->Q (.ref l) (upd H l (.tup ys)))\/(SqT X.K H p ys/\Q (.ref p) H))):=by
 intro a s σ H xs x Q I r h;obtain ⟨p,ys,rfl,h⟩:=h;obtain ⟨u,rfl,v⟩:=ψ r;cases v;rcases h with ⟨f,q⟩ | ⟨f,q⟩
 .obtain ⟨c,g,i,k⟩:=I.list f;have j:=g.length;refine call_tuple_list i.isList (fun d n=>?_) (by simp only [bT] <;> omega);have m:Inv X a σ H { s with heap:=d }:=I.kept (t':=s.toks) n
  have t:Inv X a σ (upd H d.objs.size (.tup ys)) { s with heap:=d.push { cls:=.type "tuple",data:=.seq c.toArray } } :=
   m.laid (t':=s.toks) (fun b o e=>bK _ e) (bL _) (show ww X.prog X.w _ _ _ (.tup ys) from ⟨k,c,g,IsTup.new _ _⟩)
  exact ⟨.ref d.objs.size,_,t,rfl,q _ (m.hok.fresh (bL _))⟩
 .obtain ⟨c,g,i,k⟩:=I.tuple f;exact call_tuple_same i ⟨.ref p,H,I,rfl,q⟩
def tyV (K:W.Frag) (T:String) (x:V) (H:Hp):Prop:=match x with
 | .str _=>T="str"
 | .int _=>T="int"
 | .ref p=>(T="list"/\∃ xs,SqL K H p xs)\/(T="tuple"/\∃ o,K.lookup p=some o/\o.cls=.type "tuple"/\o.dict=none) \/
   (T="dict"/\((∃ kvs,H p=some (.dK kvs))\/∃ kvs,H p=some (.dT kvs)))\/(T="set"/\∃ S n,H p=some (.set S n))
 | _=>False
theorem ymu {pins:List (Addr × Obj)} {σ:St} {H:Hp} {s:Shared} {T:String} {x:V} (I:Inv X pins σ H s) (r:xh x v) (ty:tyV X.K T x H) :
  s.TypeIs v T/\∀ a,v=.ref a->∃ ob,s.heap.get? a=some ob/\ob.dict=none:=by
 cases x with
 | str z =>
  obtain ⟨t,rfl⟩:=r;cases (show T="str" from ty)
  exact ⟨typeIs_str s z t,fun _ e=>nomatch e⟩
 | int i =>
  obtain ⟨t,rfl⟩:=r;cases (show T="int" from ty)
  exact ⟨typeIs_int s i t,fun _ e=>nomatch e⟩
 | ref p =>
  cases r;rcases ty with ⟨rfl,q,k⟩ | ⟨rfl,o,b,l,h⟩ | ⟨rfl,b⟩ | ⟨rfl,S,n,b⟩
  .obtain ⟨m,_,j,_⟩:=I.list k;refine ⟨j.isList.typeIs,fun a e=>?_⟩;cases e;obtain ⟨o,n,e,c,h,_⟩:=j;exact ⟨o,e,h⟩
  .refine ⟨⟨o,I.kIn p o b,l⟩,fun a e=>?_⟩;cases e;exact ⟨o,I.kIn _ o b,h⟩
  .have z:∃ o,s.heap.get? p=some o/\o.ExactDict:=by
    rcases b with ⟨g,b⟩ | ⟨g,b⟩
    .obtain ⟨_,_,_,_,o,_,_,e,d,_⟩:=I.hok p _ b;exact ⟨o,e,d⟩
    .obtain ⟨_,_,_,_,o,_,_,e,d,_⟩:=I.hok p _ b;exact ⟨o,e,d⟩
   obtain ⟨o,e,d⟩:=z;refine ⟨⟨o,e,d.1⟩,fun a f=>?_⟩;cases f;exact ⟨o,e,d.2.1⟩
  .obtain ⟨o,_,_,_,e,d,_⟩:=I.hok p _ b;refine ⟨⟨o,e,d.1⟩,fun a f=>?_⟩;cases f;exact ⟨o,e,d.2.1⟩
 | _=>exact False.elim ty
def vcw (K:W.Frag) (T:String) (r:V->List V->Hp->VK->Prop) (to:TE):TE:=fun σ H Q=>to σ H fun x H1=>tyV K T x H1/\r x [] H1 Q
def tBM (K:W.Frag) (T:String) (r:V->List V->Hp->VK->Prop) (to:TE) (t:TA):TE:=fun σ H Q=>to σ H fun x H1=>tyV K T x H1/\t σ H1 fun xs H2=>r x xs H2 Q
variable {o e:Expr} {es:List Expr} {to:TE} {t:TA} {name:Str} {apos cpos:Pos} {T id:String} {r:V->List V->Hp->VK->Prop}
theorem yjg (pa:PlainAttrs T) (slot:Slot T name id) (hty:typeOf (.builtin id)=pure (.type "method_descriptor")) (hm:MtR X id r) (ho:PE X o to)
  (hbase:attributeBase o name X.env (eval o X.env)=eval o X.env:=by rfl) (hline:(apos.endLine == cpos.line)=true:=by rfl):PE X (.Call (.Attribute o name apos) [] [] cpos) (vcw X.K T r to):=by
 refine .mk fun a s σ H Q I h=>?_;refine wpAny_Call_method0_late hbase hline (thn (ho a s σ H _ I h) fun v j h'=>?_);obtain ⟨x,f,b,c,e,g⟩:=h';obtain ⟨i,d⟩:=ymu b c e;exact ⟨T,id,pa,slot,hty,i,d,Calls.callWith_builtin rfl (PySem.evalArgs_none (hm a j σ f x [] v [] Q b c .nil g))⟩
theorem ĕ (pa:PlainAttrs T) (slot:Slot T name id) (hty:typeOf (.builtin id)=pure (.type "method_descriptor")) (hm:MtR X id r) (ho:PE X o to) (ha:PA X (e :: es) t)
  (hbase:attributeBase o name X.env (eval o X.env)=eval o X.env:=by rfl)
  (hfew:((backTo cpos (starEach (e :: es) X.env)).all (fun x=>!x.1) && (backToKw cpos (keywordEach [] X.env)).all (fun x=>x.1.isSome)
   && decide ((e :: es).length+([]:List Keyword).length+(if ([]:List Keyword).isEmpty then 0 else 1) < 30))=true:=by rfl)
  (hline:(apos.endLine == cpos.line)=true:=by rfl) (hs:starEach (e :: es) X.env=(false,eval e X.env) :: starEach es X.env:=by rfl) (hplain:(backTo cpos (starEach es X.env)).any (·.1)=false:=by rfl) :
  PE X (.Call (.Attribute o name apos) (e :: es) [] cpos) (tBM X.K T r to t):=by
 refine .mk fun a s σ H Q I h=>?_;refine wpAny_Call_method_late hbase hfew hline rfl (thn (ho a s σ H _ I h) fun v u h'=>?_);obtain ⟨x,q,d,c,i,p⟩:=h';obtain ⟨n,g⟩:=ymu d c i;refine ⟨T,id,pa,slot,hty,n,g,?_⟩;have b:=ha cpos a u σ q _ d p;rw [hs] at b ⊢;refine Calls.callWith_builtin (by show (false || (backTo cpos (starEach es X.env)).any (·.1))=false; rw [hplain] <;> rfl) (Calls.evalArgs_plain ?_);exact thn b fun m j ⟨f,l,w,y,k⟩=>hm a j σ l x f v m Q w c y k
end
def MtM (X:Cx) (id:String) (r:V->List V->Hp->VK->Prop):Prop :=
 ∀ (pins:List (Addr × Obj)) (s:Shared) (σ:St) (H:Hp) (x:V) (xs:List V) (v:Value) (us:List Value) (Q:VK),Inv X pins σ H s->xh x v->wx xs us->r x xs H Q ->
  wpAny (model X.prog X.w) X.A (call (.builtin id) (v :: us)) (EP X pins σ Q) X.xe s
theorem wx.one:∀ {x:V} {us:List Value},wx [x] us->∃ u,us=[u]/\xh x u
 | _,_,.cons r .nil=>⟨_,rfl,r⟩
theorem wx.zero:∀ {us:List Value},wx [] us->us=[]
 | _,.nil=>rfl
theorem wx.reverse {xs:List V} {us:List Value} (h:wx xs us):wx xs.reverse us.reverse:=by
 induction h with
 | nil=>exact .nil
 | cons r t ih=>rw [List.reverse_cons,List.reverse_cons]; exact wx.append ih (.cons r .nil)
theorem wx.rep {xs:List V} {us:List Value} (h:wx xs us):∀ k:Nat,wx (List.replicate k xs).flatten (List.replicate k us).flatten
 | 0=>.nil
 | k+1=>by
  rw [cH,cH,List.flatten_cons,List.flatten_cons];exact wx.append h (wx.rep h k)
theorem yau (its:List Value):∀ (k:Nat) (acc:List Value),
  List.foldl (fun x1 x2=>x1++x2) acc.toArray (List.replicate k its.toArray)=(acc++(List.replicate k its).flatten).toArray
 | 0,acc=>by simp
 | k+1,acc=>by
  have e:acc.toArray++its.toArray=(acc++its).toArray:=by simp
  have a:(acc++its)++(List.replicate k its).flatten=acc++(List.replicate (k+1) its).flatten:=by
   rw [cH,List.flatten_cons,cJ]
  rw [<- a,<- yau its k (acc++its),<- e,cH,List.foldl_cons]
section
variable {X:Cx} {pins:List (Addr × Obj)} {σ:St} {H:Hp} {s:Shared} {l b:Addr} {xs ys zs:List V}
theorem Inv.lset {its its':List Value} {n:Nat} {f:Array Value->Array Value} {t':Nat} (I:Inv X pins σ H s) (hH:H l=some (.lst xs))
  (e:s.heap.get? l=some { cls:=.type "list",data:=.seq its.toArray n }) (hf:f its.toArray=its'.toArray) (hv:wx ys its') (hz:ys.length <= sizeLine) :
  Inv X pins σ (upd H l (.lst ys)) { s with heap:=s.heap.update l (Obj.mapSeq f),toks:=t' }:=by
 have q:=PySem.IsL.update e f;rw [hf] at q;refine I.write (x:=l) (e:=l) (by rw [hH]; exact trivial) (.inl rfl) (fun c u b a=>(Heap.get?_update_other s.heap (Obj.mapSeq f) (Ne.symm b)).trans a) ⟨_,q⟩ ?_;exact ⟨hz,its',_,hv,q⟩
theorem Inv.lnew {its:List Value} {t':Nat} (I:Inv X pins σ H s) (hv:wx ys its) (hz:ys.length <= sizeLine) :
  Inv X pins σ (upd H s.heap.objs.size (.lst ys)) { s with heap:=s.heap.push { cls:=.type "list",data:=.seq its.toArray },toks:=t' } :=
 I.laid (fun _ _ q=>bK _ q) (bL _) ⟨hz,its,0,hv,bU _ rfl⟩
theorem Inv.fresh (I:Inv X pins σ H s):H s.heap.objs.size=none:=I.hok.fresh (bL _)
theorem Inv.lstM (I:Inv X pins σ H s) (hH:H l=some (.lst xs)):xs.length <= sizeLine/\∃ (its:List Value) (n:Nat),wx xs its/\xs.length=its.length/\s.heap.get? l=some { cls:=.type "list",data:=.seq its.toArray n }:=by
 obtain ⟨z,its,n,r,e⟩:=I.hok l _ hH;exact ⟨z,its,n,r,r.length,e⟩
theorem yei {n:Nat} (h:n <= sizeLine):Builtin.List.listTooLong n=false:=by
 unfold Builtin.List.listTooLong;exact bV (by omega)
end
section
variable {X:Cx}
def yh4:V->List V->Hp->VK->Prop:=fun x vs H Q=>∃ l xs y,x=.ref l/\vs=[y]/\H l=some (.lst xs)/\xs.length < sizeLine/\Q .non (upd H l (.lst (xs++[y])))
theorem xi:MtM X "list.append" yh4:=by
 intro b s σ H x i v k Q I g f h;obtain ⟨l,j,y,rfl,rfl,c,m,q⟩:=h;cases g;obtain ⟨u,rfl,d⟩:=f.one;obtain ⟨z,a,n,r,o,e⟩:=I.lstM c;refine call_meets F.slot_list_append ⟨_,e,rfl⟩ F.entry_list_append (F.args_list_append_2 _ _) (PySem.list_append l a.toArray n u (by rw [bT]; omega)) ⟨e,?_⟩;refine ⟨.non,_,I.lset (its':=a++[u]) c e (by simp) (r.append (.cons d .nil)) ?_,rfl,q⟩;rw [bP,cI];omega
def ypr:V->List V->Hp->VK->Prop:=fun x vs H Q=>∃ l b xs zs,x=.ref l/\vs=[.ref b]/\H l=some (.lst xs)/\H b=some (.lst zs)/\xs.length+zs.length <= sizeLine/\Q .non (upd H l (.lst (xs++zs)))
theorem ygj:MtM X "list.extend" ypr:=by
 intro g s σ H x G v C Q I k w h;obtain ⟨l,b,B,J,rfl,rfl,i,j,D,q⟩:=h;cases k;obtain ⟨u,rfl,o⟩:=w.one;cases o;obtain ⟨z,c,n,r,E,e⟩:=I.lstM i;obtain ⟨A,a,m,t,p,y⟩:=I.lstM j;have f:c.toArray.size+a.toArray.size <= sizeLine:=by rw [bT,bT]; omega
 have d:¬ (!c.toArray.isEmpty && Builtin.List.listTooLong (c.toArray.size+a.toArray.size))=true:=by
  rw [yei f,Bool.and_false];exact bS
 refine call_meets F.slot_list_extend ⟨_,e,rfl⟩ F.entry_list_extend (F.args_list_extend_2 _ _)
  (AutoSeq1.list_extend_list_list_0 l c.toArray n b a.toArray m d (by rw [bT]; omega) (by omega)) ⟨e,y,?_⟩
 refine ⟨.non,_,I.lset (its':=c++a) i e (by simp) (r.append t) ?_,rfl,q⟩;rw [bP];omega
def yd5:V->List V->Hp->VK->Prop:=fun x vs H Q=>∃ l xs,x=.ref l/\vs=[]/\H l=some (.lst xs)/\Q .non (upd H l (.lst xs.reverse))
theorem İ:MtM X "list.reverse" yd5:=by
 intro c s σ H x i v k Q I g f h;obtain ⟨l,j,rfl,rfl,d,q⟩:=h;cases g;have b:=f.zero;subst b;obtain ⟨z,a,n,r,m,e⟩:=I.lstM d;refine call_meets F.slot_list_reverse ⟨_,e,rfl⟩ F.entry_list_reverse (F.args_list_reverse_1 _) (AutoSeq1.list_reverse_list_0 l a.toArray n (by rw [bT]; omega)) ⟨e,?_⟩;refine ⟨.non,_,I.lset (its':=a.reverse) d e (by simp) r.reverse ?_,rfl,q⟩;rw [List.length_reverse];omega
def vc4:R2:=fun x y H Q=>∃ l b xs zs,x=.ref l/\y=.ref b/\H l=some (.lst xs)/\H b=some (.lst zs)/\xs.length+zs.length <= sizeLine/\∀ p,H p=none->Q (.ref p) (upd H p (.lst (xs++zs)))
theorem yx9:OpR X (binaryOp .Add) vc4:=by
 intro d s σ H x y v u Q I m k h;obtain ⟨l,b,B,t,rfl,rfl,j,i,C,q⟩:=h;cases m;cases k;obtain ⟨z,c,n,r,D,e⟩:=I.lstM j;obtain ⟨A,a,w,p,o,g⟩:=I.lstM i;refine PySem.P.add_list e g ?_ (by rw [bT,bT]; omega);have f:c.toArray++a.toArray=(c++a).toArray:=by simp
 rw [f];exact ⟨.ref _,_,I.lnew (t':=s.toks) (r.append p) (by rw [bP]; omega),rfl,q _ I.fresh⟩
def vc8:R2:=fun x y H Q=>∃ l k xs,x=.ref l/\y=.int k/\H l=some (.lst xs)/\-(2 ^ 63) <= k/\k < 2 ^ 63/\xs.length * k.toNat <= sizeLine /\
 ∀ p,H p=none->Q (.ref p) (upd H p (.lst (List.replicate k.toNat xs).flatten))
theorem yo2 {α:Type} (xs:List α) (k:Nat):(List.replicate k xs).flatten.length=k * xs.length:=by
 induction k with
 | zero=>simp
 | succ k ih=>rw [cH,List.flatten_cons,bP,ih,Nat.succ_mul,Nat.add_comm]
theorem ym2:OpR X (binaryOp .Mult) vc8:=by
 intro p s σ H x y v u Q I G B h;obtain ⟨l,k,L,rfl,rfl,D,C,J,w,q⟩:=h;cases G;obtain ⟨t,rfl⟩:=B;obtain ⟨z,b,n,r,E,e⟩:=I.lstM D;have d:b.toArray.size * k.toNat <= sizeLine:=by rw [bT,<- E]; exact w
 have g:¬ b.toArray.size * k.toNat > (2 ^ 63 - 1) / 8:=by
  have:(sizeLine:Nat) <= (2 ^ 63 - 1) / 8:=by decide
  omega
 have f:¬ (!Builtin.List.listFitsIndex k)=true:=by
  rw [fitsIndex_both C J];exact bS
 have c:¬ Builtin.List.listTooLong (b.toArray.size * k.toNat)=true:=by
  rw [yei d];exact bS
 have i:List.foldl (fun j o=>j++o) #[] (List.replicate (if b.toArray.isEmpty=true then 0 else k.toNat) b.toArray)=(List.replicate k.toNat b).flatten.toArray:=by
  have A:∀ m:Nat,List.foldl (fun j o=>j++o) #[] (List.replicate m b.toArray)=(List.replicate m b).flatten.toArray:=fun m=>by
   have:=yau b m [];rw [List.nil_append] at this;exact this
  rw [A]
  cases b with
  | nil=>simp
  | cons a r'=>rw [if_neg (by simp)]
 refine wpAny_binaryOp_repeat_ref (T:="list") (U:="int") (by decide) ⟨_,e,rfl⟩ (fun K=>typeIs_int K k t) noFill_list_mul F.fills_int_mul F.slot_int_rmul repeat_list F.slot_int_index.lookup
  (call_meets F.slot_int_rmul (typeIs_int s k t) F.entry_int_rmul (F.args_int_rmul_2 _ _) (int___rmul___int_list k t l b.toArray n)
   ⟨e,rfl,⟨_,e,rfl⟩,call_meets F.slot_list_mul ⟨_,e,rfl⟩ F.entry_list_mul (F.args_list_mul_2 _ _) (AutoListH.list___mul___list_int_3 l b.toArray n k t f g c) ⟨e,?_⟩⟩)
 rw [i];exact ⟨.ref _,_,I.lnew (t':=s.toks) (r.rep k.toNat) (by rw [yo2,Nat.mul_comm]; exact w),rfl,q _ I.fresh⟩
end
end L2
namespace Att
open PySem PySem.W PySem.Calls PyProof.Rows
theorem ç {P:Params} {h:Heap}:∀ (ns:List Int) (vs:List Value),WellAll P h vs (ns.map WData.int)->IntsAre vs ns:=by
 intro ns
 induction ns with
 | nil =>
  intro vs w;rw [List.map_nil] at w;cases w;exact .nil
 | cons n ns ih =>
  intro vs w;rw [cA] at w
  cases w with
  | cons a b =>
   cases a;exact .cons _ _ (ih _ b)
theorem yg5 {l:OpenLaw} {n:Nat} (hn:l.most=some n) {P:Params} {h:Heap} {args:List WData} {vals:List Value}
  (hpre:l.row.toRowW.claim.pre args=true) (hwl:WellAll P h vals args) :
  ∃ a vs ns,vals=[Value.ref a]/\args=[WData.list (ns.map WData.int)]/\h.get? a=some { cls:=.type "list",data:=.seq vs.toArray }/\IntsAre vs ns/\ns.length <= n:=by
 have f:WShape.hasAll [] args [.list .int]=true:=(pre_splitW hpre).1;have g:l.pre.holds [] { args:=args }=true:=(pre_splitW hpre).2;obtain ⟨d,r,rfl,j,i⟩:=hasAllW_cons f;obtain rfl:=hasAllW_nil i;obtain ⟨o,rfl,k⟩:=hasW_list j;obtain ⟨ns,rfl⟩:=items_int k
 have b:ns.length <= n:=by
  unfold OpenLaw.pre at g
  have e:(WTm.not (.lt (.lit (.int (n:Int))) (.len (.arg 0)))).holds [] { args:=[.list (ns.map .int)] }=true:=by
   have e:=(holds_andW g).1;rw [hn] at e;exact e
  have c:=condW_of e (w_not (w_lt w_lit (w_len_list (w_arg rfl))));rw [bH] at c;refine Nat.le_of_not_lt fun q=>?_;have m:(n:Int) < ((ns.length:Nat):Int):=by omega
  first
   | (rw [bR m] at c; exact absurd c (by decide))
   | (simp at c; omega)
 cases hwl with
 | cons w1 w2 =>
  cases w2
  cases w1 with
  | list ho hall=>exact ⟨_,_,ns,rfl,rfl,ho,ç ns _ hall,b⟩
theorem yg8 (l:OpenLaw) (args:List WData):l.row.toRowW.claim.post args (.bool true) args=true :=
 postW_of (r:=l.row.toRowW) (X:=(true == true))
  (show WShape.has [] (.bool true) .bool=true by first | rfl | decide | simp [WShape.has,WShape.arms,WShape.armsAll])
  (show (WTm.eq .res (.lit (.bool true))).value [] { args:=args,res:=some (.bool true),after:=args }=some (.bool (true == true)) from w_eq_bool (w_res rfl) w_lit) rfl
theorem attach_call {l:OpenLaw} {n:Nat} {q:Program} {loose:List Str} {XP:(Str->Option Value)->Heap->Prop} {YP:World->Heap->Prop} {d:DefRec}
  (hn:l.most=some n) (hdf:d.params.defaults=[])
  (call:∀ (w:World) (s₀ s₁:Shared) (mg mb:Str->Option Value) (fa:Addr) (o:Obj) (pm cd doc:Value) (a:Addr) (vs:List Value) (ns:List Int),
   Ground q loose [] XP w s₀ mg mb s₁.heap->YP w s₁.heap ->
   s₁.heap.get? fa=some o->o.data=.func (docDef d.name d.params d.body d.scope pm cd doc)->s₁.heap.CodeRec cd d.name->mg d.name=some (.ref fa) ->
   s₁.heap.get? a=some { cls:=.type "list",data:=.seq vs.toArray }->IntsAre vs ns->ns.length <= n->s₁.gens=#[] ->
   codeAny (model l.prog w) callerA (.call (.ref fa) ⟨[.ref a],[]⟩) (fun r s'=>r=.ok (.ret (.bool true))/\OldK s₁.heap s'.heap/\s'.os=s₁.os/\AllBare s'.gens) s₁) :
  WalkO q loose XP YP l.row.toRowW d [] (fun f vs=>PySem.call f vs):=by
 intro w s₀ s₁ mg mb G Y fa o pm cd doc D kV z x i k h y p t H c m C j A;obtain rfl:D=.none:=Dflts.none k hdf;obtain rfl:kV=.none:=Dflts.noKw k;obtain ⟨a,vs,ns,rfl,rfl,g,b,e⟩:=yg5 hn c j;refine enter_call (codeAny_mono (call w s₀ s₁ mg mb fa o pm cd doc a vs ns G Y z (fd_plain x) i h g b e y) fun r s' E=>?_);obtain ⟨rfl,B,v,F⟩:=E
 exact ⟨.inl ⟨.bool true,.bool true,[],rfl,fun _=>rfl,.bool true,yg8 l _,fun _=>⟨List.Pairwise.nil,fun _ u=>(nomatch u)⟩⟩,B,v,F⟩
section
variable {prog:Program} {w:World} {A:Around} {E:Value->Shared->Prop} {s:Shared} {K:Frag}
def vcg (h:Heap) (L d:Addr):List (Addr × Obj):=(List.range h.objs.size).filterMap fun a=>if a=L\/a=d then none else (h.get? a).map fun o=>(a,o)
end
end Att
namespace L2
open PySem PySem.Spec PyProof.Rows
variable {C a p:Addr} {fd:FuncData} {qual:Str} {T:String}
theorem ya4:∀ {vs:List Value} {ns:List Int},IntsAre vs ns->wx (ns.map V.int) vs
 | _,_,.nil=>.nil
 | _,_,.cons n t h=>.cons ⟨t,rfl⟩ (ya4 h)
def vcf (H:Hp):Prop:=∀ b,H b=none\/∃ o xs,H b=some (.frz o (.lst xs))
theorem ylc {P:Program} {w:World} {K:W.Frag} {mg mb:Str->Option Value} {CX:CXT} {k:Nat} {fa:Addr} {x:Str} {sp:Sp} {s₁:Shared} {vs:List Value} {ns:List Int}
  (KX:K.In s₁.heap) (hns:s₁.heap.Ns mainGlobals mg) (hb:s₁.heap.Ns builtinsNs mb) (hbb:∀ x:Str,x≠"__name__"->mb x=bootBuiltins x) (hlim:s₁.heap.NoLimit) (hg:s₁.gens=#[])
  (ha:s₁.heap.get? a=some { cls:=.type "list",data:=.seq vs.toArray }) (hi:IntsAre vs ns) (hl:ns.length <= sizeLine) (hr:jg k callerA)
  (F:∀ base:Heap,K.In base->base.Ns mainGlobals mg->wb P w K mg base CX k fa fd [x] sp) (hbind:∀ (s:Shared) (u:Value),BindsTo s fd ⟨[u],[]⟩ [(x,u)])
  (hsp:∀ H:Hp,vcf H->SqL K H a (ns.map V.int)->sp [.ref a] H (fun v _=>v=.bl true) fun _ _ _=>False)
  (hCX:∀ H e s',CX [] H s₁ (fun _ _ _=>False) e s'->False) :
  codeAny (model P w) callerA (.call (.ref fa) ⟨[.ref a],[]⟩) (fun r s'=>r=.ok (.ret (.bool true))/\OldK s₁.heap s'.heap/\s'.os=s₁.os/\AllBare s'.gens) s₁:=by
 have L:=ya4 hi;have t:=hi.length;have g:∀ H:Hp,vcf H->SqL K H a (ns.map V.int)->HOk P w H s₁.heap->(∀ b,H b≠none->b=a)->(H a≠none->K.lookup a=none) ->
   codeAny (model P w) callerA (.call (.ref fa) ⟨[.ref a],[]⟩) (fun r s'=>r=.ok (.ret (.bool true))/\OldK s₁.heap s'.heap/\s'.os=s₁.os/\AllBare s'.gens) s₁:=by
  intro H I N B G M;have c:∀ {b:Addr} {o:Obj},s₁.heap.get? b=some o->H b=none->(yls s₁.heap H).get? b=some o:=fun e n=>yk8 e n
  have C:∀ {b:Addr} {o:Obj} {i:Array DictEntry} {p:Nat},s₁.heap.get? b=some o->o.data=.dict i p->H b=none:=fun {b o i p} e d=>by
   cases q:H b with
   | none=>rfl
   | some u =>
    have D:b=a:=G b (by rw [q]; simp);subst D;rw [ha] at e; cases e;have R:Data.seq vs.toArray _=Data.dict i p:=d;cases R
  have f:∀ {b:Addr} {m:Str->Option Value},s₁.heap.Ns b m->(yls s₁.heap H).Ns b m:=fun {b m} ⟨o,i,p,e,d,r⟩=>⟨o,i,p,c e (C e d),d,r⟩
  have j:K.In (yls s₁.heap H):=fun b o e=>c (KX b o e) (by
   cases q:H b with
   | none=>rfl
   | some u =>
    have D:b=a:=G b (by rw [q]; simp);subst D;rw [M (by rw [q]; simp)] at e; cases e)
  have T:Mod K mg (yls s₁.heap H):=⟨j,f hns,⟨mb,f hb,hbb⟩,let ⟨mc,h1,h2⟩:=hlim; ⟨mc,f h1,h2⟩⟩;have S:ytq P w K mg (yls s₁.heap H) callerA [] s₁ H:=⟨rfl,T,fun b o e=>yqk e,Nat.le_of_eq (yg6 _ _),trivial,fun b hb=>absurd (show b∈([]:List Addr) from hb) (by simp),B,.of_eq hg⟩;refine codeAny_mono ((F _ j (f hns)).run callerA [] s₁ H ⟨[.ref a],[]⟩ [.ref a] [.ref a] _ _ hr S (hbind s₁ (.ref a)) (.cons rfl .nil) (hsp H I N)) fun r s' h=>?_
  cases r with
  | error e=>exact (hCX H e s' h).elim
  | ok fl =>
   cases fl with
   | next=>exact False.elim h
   | brk=>exact False.elim h
   | cont=>exact False.elim h
   | ret u =>
    obtain ⟨v,H',os,y,E,A,X,q⟩:=h;have U:v=.bl true:=q;subst U;obtain rfl:u=Value.bool true:=X;refine ⟨rfl,OldK.of_keep fun b o e=>?_,os,y⟩
    cases q:H b with
    | none=>exact E.keep b o e q (by intro z; exact absurd (show b∈([]:List Addr) from z) (by simp)) (by simp)
    | some u =>
     rcases I b with z | ⟨O,Z,z⟩
     .rw [q] at z; cases z
     .have Q:=E.frzs b O _ z;obtain ⟨J,_⟩:=B b _ z;obtain ⟨Y,_⟩:=A b _ Q;rw [e] at J; cases J;exact Y
 cases hk:K.lookup a with
 | some o =>
  have e:=KX a o hk;rw [ha] at e;cases e;refine g (fun _=>none) (fun _=>.inl rfl) (.inr ⟨_,vs.toArray,_,hk,rfl,rfl,rfl,by rw [bT,t]; exact hl,by simpa using L⟩) (fun b u z=>by have l:(none:Option HO)=some u:=z; cases l) (fun b z=>absurd rfl z) fun z=>absurd rfl z
 | none =>
  refine g (fun b=>if b=a then some (.frz { cls:=.type "list",data:=.seq vs.toArray } (.lst (ns.map V.int))) else none) (fun b=>?_) (.inl (.inr ⟨{ cls:=.type "list",data:=.seq vs.toArray },if_pos rfl⟩)) (fun b u z=>?_) (fun b z=>?_) fun _=>hk
  .by_cases hb:b=a
   .exact .inr ⟨_,_,if_pos hb⟩
   .exact .inl (if_neg hb)
  .by_cases hb:b=a
   .have l:=(if_pos hb).symm.trans z;cases l;subst hb;exact ⟨ha,by rw [bH]; exact hl,vs,_,L,ha⟩
   .have l:=(if_neg hb).symm.trans z;cases l
  .by_cases hb:b=a
   .exact hb
   .exact absurd (if_neg hb) z
theorem walk_of {l:W.OpenLaw} {n k:Nat} {q:Program} {loose:List Str} {XP:(Str->Option Value)->Heap->Prop} {YP:World->Heap->Prop} {d:DefRec} {K:Params->W.Frag} {CX:World->CXT} {sp:World->Sp} {x:Str}
  (hn:l.most=some n) (hn2:n <= sizeLine) (hdf:d.params.defaults=[]) (hr:jg k callerA)
  (hY:∀ (w:World) (h:Heap),YP w h->(K w.params).In h)
  (F:∀ (w:World) (mg:Str->Option Value) (fa:Addr) (h:Heap),(K w.params).In h->h.Ns mainGlobals mg->mg d.name=some (.ref fa) ->
   ∃ fd:FuncData,(∀ (s:Shared) (u:Value),BindsTo s fd ⟨[u],[]⟩ [(x,u)]) /\
    ∀ base:Heap,(K w.params).In base->base.Ns mainGlobals mg->wb l.prog w (K w.params) mg base (CX w) k fa fd [x] (sp w))
  (hsp:∀ (w:World) (H:Hp) (a:Addr) (ns:List Int),ns.length <= n->vcf H->SqL (K w.params) H a (ns.map V.int)->sp w [.ref a] H (fun v _=>v=.bl true) fun _ _ _=>False)
  (hCX:∀ (w:World) (H:Hp) (s:Shared) (e:Value) (s':Shared),CX w [] H s (fun _ _ _=>False) e s'->False) :
  W.WalkO q loose XP YP l.row.toRowW d [] (fun f vs=>PySem.call f vs):=by
 refine Att.attach_call hn hdf fun w s₀ s₁ mg E fa o I J A a vs ns G Y D L y m j i c r=>?_;have p:=hY w _ Y;obtain ⟨fd,t,C⟩:=F w mg fa _ p G.T.g m;exact ylc p G.T.g G.T.b G.T.builtins G.T.nolimit r j i (cn c hn2) hr C t (fun H B z=>hsp w H a ns c B z) fun H e s'=>hCX w H s₁ e s'
def yz (s:Stmt) (j:Nat):Stmt:=match s with
 | .ClassDef _ _ _ body _ _ _ _ _ _ _=>body.getD j (.Pass ⟨0,0,0,0⟩)
 | _=>.Pass ⟨0,0,0,0⟩
def w5 (s:Stmt):Arguments:=match s with
 | .FunctionDef _ a _ _ _ _ _ _ _ _=>a
 | _=>{ posonlyargs:=[],args:=[],vararg:=none,kwonlyargs:=[],kw_defaults:=[],kwarg:=none,defaults:=[] }
def wn (s:Stmt):List Stmt:=match s with
 | .FunctionDef _ _ b _ _ _ _ _ _ _=>b
 | _=>[]
def yg (s:Stmt):Scope:=match s with
 | .FunctionDef _ _ _ _ _ _ sc _ _ _=>sc
 | _=>{ kind:=.function,names:=[],isGenerator:=false,isCoroutine:=false }
abbrev CX0:CXT:=fun _ _ _ _ _ _=>False
abbrev E0:XK:=fun _ _ _=>False
theorem vg {X:Cx}:Õ CX0 X E0:=fun _ _ _ _ _ _ _ h=>h.elim
structure Fun (K:W.Frag) (x qual:Str) (st:Stmt) (f:Addr) (fd:FuncData):Prop where
 ex:∃ (oc:Value) (od:Option Addr) (kV doc pm:Value) (an:Option Addr) (cdv ct:Value) (osl:Array (Option Value)),
  fd=W.fnOf x qual (w5 st) (wn st) (yg st) .none kV doc pm an cdv ct/\K.lookup f=some ⟨oc,od,.func fd,osl⟩/\W.codeIn K cdv qual=true
 kp:W.keepIn K (.ref f)=true
section
variable {P:Program} {w:World} {K:W.Frag} {mg:Str->Option Value} {base:Heap}
theorem Fun.ok {x:Str} {st:Stmt} {f:Addr} {N ps:List Str} {k:Nat} {sp:Sp} (F:Fun K x qual st f fd) (S:yk N ps (yg st)) (len:∀ vs H Q E,sp vs H Q E->vs.length=ps.length)
  (hbody:∀ (cdv:Value) (A:Around) (outer:List Env) (s:Shared) (H:Hp) (vs:List V) (Q:VK) (E:XK),jg k (A.deeper (envOfC qual (yg st) s.heap.objs.size f cdv))->sp vs H Q E ->
   ∃ t,PSs (vz CX0 P w K mg base N qual (yg st) f cdv A outer s H E).nox (wn st) t/\t { nx:=fun _ H'=>Q .non H',rt:=Q } (Í N vs) H):wb P w K mg base CX0 (k+1) f fd ps sp:=by
 obtain ⟨i,j,kV,g,m,l,cdv,n,e,rfl,c,a⟩:=F.ex;refine yll c a S len fun A outer s H vs Q E d b=>?_;obtain ⟨t,h,q⟩:=hbody cdv A outer s H vs Q E d b;exact ⟨t,h.nox,q⟩
theorem Fun.binds {x:Str} {st:Stmt} {f:Addr} {ps:List Str} (F:Fun K x qual st f fd)
  (h:∀ (kV doc pm:Value) (an:Option Addr) (cdv ct:Value) (us:List Value),us.length=ps.length->bindArgs (W.fnOf x qual (w5 st) (wn st) (yg st) .none kV doc pm an cdv ct) ⟨us,[]⟩=pure (ps.zip us)):uc K fd ps []:=by
 obtain ⟨d,e,kV,doc,pm,an,cdv,ct,b,rfl,c,a⟩:=F.ex;exact .all (h kV doc pm an cdv ct)
theorem yn5 {x:Str} {st:Stmt} {f:Addr} {oc:Value} {od an:Option Addr} {osl:Array (Option Value)} {kV doc pm cdv ct:Value} (l:K.lookup f=some ⟨oc,od,.func (W.fnOf x qual (w5 st) (wn st) (yg st) .none kV doc pm an cdv ct),osl⟩)
  (c:W.codeIn K cdv qual=true) (k:W.keepIn K (.ref f)=true):Fun K x qual st f (W.fnOf x qual (w5 st) (wn st) (yg st) .none kV doc pm an cdv ct):=⟨⟨oc,od,kV,doc,pm,an,cdv,ct,osl,rfl,l,c⟩,k⟩
end
theorem u8 {A:Around} {k:Nat} (hr:jg k A):A.units+1 < cLine:=Nat.lt_of_le_of_lt (Nat.add_le_add_left (by decide:1 <= 64) _) hr.units
section
variable {X:Cx}
theorem pv (i:Nat) {x:Str} {pos:Pos} (hN:X.N[i]?=some x:=by rfl) (hv:Vis X.env.scope x:=by first | exact Or.inl rfl | exact Or.inr (Or.inl rfl) | exact Or.inr (Or.inr rfl)) (hd:(x == ("__debug__":Str))=false:=by decide)
  (hcd:(x == ("__classdict__":Str))=false:=by decide):PE X (.Name x pos) (vb4 i):=ywj hN hv hd hcd
end
theorem Ę {A B:Prop} (h:B):if false=true then A else B:=by
 rw [if_neg bS];exact h
theorem ħ {A B:Prop} (h:A):if true=true then A else B:=by
 rw [if_pos rfl];exact h
def yx (H H':Hp):Prop:=∀ b o,H b=some o->H' b=some o
theorem yx.refl (H:Hp):yx H H:=fun _ _ h=>h
theorem yx.trans {H H1 H2:Hp} (a:yx H H1) (b:yx H1 H2):yx H H2:=fun c o h=>b c o (a c o h)
theorem yx.free {H H':Hp} (e:yx H H') {l:Addr} (h:H' l=Option.none):H l=Option.none:=by
 cases q:H l with
 | none=>rfl
 | some o =>
  rw [e l o q] at h;cases h
theorem yx.seq {K:W.Frag} {H H':Hp} {xs:List V} (e:yx H H') (h:SqL K H a xs):SqL K H' a xs:=by
 rcases h with (h | ⟨o,h⟩) | h
 .exact .inl (.inl (e _ _ h))
 .exact .inl (.inr ⟨o,e _ _ h⟩)
 .exact .inr h
section
variable {X:Cx}
theorem wq:u9 X (.builtin "isinstance") (fun xs H Q=>∃ x cv t c k,xs=[x,cv]/\xh cv c/\(∀ u,xh cv u->u=c)/\xr X.K H x t/\W.kitOne X.K t c=some k/\Q (.bl k) H):=by
 intro a s σ H xs l Q I r h;obtain ⟨x,cv,t,c,k,rfl,_,i,b,e,q⟩:=h;obtain ⟨u,d,rfl,j,f⟩:=ylp r;obtain rfl:=i d f;exact ygi I j b e fun g=>⟨.bl k,H,I.tok g,rfl,q⟩
theorem zr {x:Str} {pos:Pos} (hg:Gl X x) (hm:X.mg x=none) (hv:bootBuiltins x=some (.type T)) (hn:x≠"__name__":=by decide) (hd:(x == ("__debug__":Str))=false:=by decide):PE X (.Name x pos) (tC (.ty T)):=ypq hg hm hv rfl hn hd
theorem vt {x:Str} {i:Int} {t:Tok} {pos:Pos} (hg:Gl X x) (hm:X.mg x=some (.int i t)) (hd:(x == ("__debug__":Str))=false:=by decide):PE X (.Name x pos) (tC (.int i)):=yct hg hm ⟨t,rfl⟩ hd
theorem j3 {x:Str} {pos:Pos} (hg:Gl X x) (hm:X.mg x=some (.ref C)) (hd:(x == ("__debug__":Str))=false:=by decide):PE X (.Name x pos) (tC (.ref C)):=yct hg hm rfl hd
mutual
inductive RdV (K:W.Frag) (H:Hp):V->PyData->Prop
 | non:RdV K H .non .none
 | bl (b:_):RdV K H (.bl b) (.bool b)
 | int (i:_):RdV K H (.int i) (.int i)
 | str (x:_):RdV K H (.str x) (.str x)
 | lst {a xs ds:_}:SqL K H a xs->yf6 K H xs ds->RdV K H (.ref a) (.list ds)
 | tup {a xs ds:_}:SqT K H a xs->yf6 K H xs ds->RdV K H (.ref a) (.tuple ds)
inductive yf6 (K:W.Frag) (H:Hp):List V->List PyData->Prop
 | nil:yf6 K H [] []
 | cons {x xs d ds:_}:RdV K H x d->yf6 K H xs ds->yf6 K H (x :: xs) (d :: ds)
end
mutual
theorem RdV.reads {pins:List (Addr × Obj)} {σ:St} {H:Hp} {s:Shared} (I:Inv X pins σ H s):∀ {x:V} {d:PyData} {u:Value},RdV X.K H x d->xh x u->∃ as,Reads s.heap u d as
 | _,_,_,.non,r=>by cases r; exact ⟨_,.none⟩
 | _,_,_,.bl _,r=>by cases r; exact ⟨_,.bool _⟩
 | _,_,_,.int _,r=>by obtain ⟨t,rfl⟩:=r; exact ⟨_,.int _ _⟩
 | _,_,_,.str _,r=>by obtain ⟨t,rfl⟩:=r; exact ⟨_,.str _ _⟩
 | _,_,_,.lst hq hs,r=>by
  cases r;obtain ⟨c,b,⟨o,n,e,a,i,g⟩,h⟩:=I.list hq;obtain ⟨as,f⟩:=yf6.reads I hs b;exact ⟨_,.list e a g (by simpa using f)⟩
 | _,_,_,.tup hq hs,r=>by
  cases r;obtain ⟨c,b,⟨o,e,a,n,g⟩,h⟩:=I.tuple hq;obtain ⟨as,f⟩:=yf6.reads I hs b;exact ⟨_,.tuple e a g (by simpa using f)⟩
theorem yf6.reads {pins:List (Addr × Obj)} {σ:St} {H:Hp} {s:Shared} (I:Inv X pins σ H s):∀ {xs:List V} {ds:List PyData} {us:List Value},yf6 X.K H xs ds->wx xs us->∃ as,ReadsAll s.heap us ds as
 | _,_,_,.nil,.nil=>⟨_,.nil⟩
 | _,_,_,.cons h hs,.cons r rs=>by
  obtain ⟨as,a⟩:=RdV.reads I h r;obtain ⟨c,b⟩:=yf6.reads I hs rs;exact ⟨_,.cons a b⟩
end
def yz0 (K:W.Frag) (g:Bool->Bool):R2:=fun x y H Q=>∃ d e,RdV K H x d/\RdV K H y e/\SeqAt.shaped d=true/\SeqAt.shaped e=true/\Q (.bl (g (PyData.eqv d e))) H
theorem yja (hu:X.A.units+64 < cLine):OpR X (compareOp .Eq) (yz0 X.K fun b=>b):=by
 intro a s σ H x y v u Q I m l h;obtain ⟨d,e,i,c,k,g,q⟩:=h;obtain ⟨o,j⟩:=i.reads I m;obtain ⟨n,f⟩:=c.reads I l;exact eq_dataH j f k g hu ⟨.bl _,H,I,rfl,q⟩
theorem Ņ (hu:X.A.units+64 < cLine):OpR X (compareOp .NotEq) (yz0 X.K fun b=>!b):=by
 intro a s σ H x y v u Q I m l h;obtain ⟨d,e,i,c,k,g,q⟩:=h;obtain ⟨o,j⟩:=i.reads I m;obtain ⟨n,f⟩:=c.reads I l;exact ne_dataH j f k g hu ⟨.bl _,H,I,rfl,q⟩
theorem η {K:W.Frag} {H:Hp}:∀ ns:List Int,yf6 K H (ns.map V.int) (ns.map PyData.int)
 | []=>.nil
 | n :: r=>.cons (.int n) (η r)
theorem ju:∀ ns:List Int,PyData.canLayAll0 (ns.map PyData.int)=true
 | []=>rfl
 | _ :: r=>by simp [PyData.canLayAll0,PyData.canLay0,ju r]
theorem Ê:∀ ns:List Int,PyData.depthAll (ns.map PyData.int)=0
 | []=>rfl
 | _ :: r=>by simp [PyData.depthAll,PyData.depth,Ê r]
theorem ĸ (ns:List Int):SeqAt.shaped (.list (ns.map PyData.int))=true:=by
 simp [SeqAt.shaped,PyData.canLay0,PyData.depth,ju,Ê]
theorem jv:∀ ns ms:List Int,PyData.eqvAll (ns.map PyData.int) (ms.map PyData.int)=decide (ns=ms)
 | [],[]=>by simp [PyData.eqvAll]
 | [],_ :: _=>by simp [PyData.eqvAll]
 | _ :: _,[]=>by simp [PyData.eqvAll]
 | a :: r,b :: t=>by
  simp only [cA,PyData.eqvAll,PyData.eqv,jv r t];by_cases h:a=b <;> by_cases h':r=t <;> simp [h,h']
theorem vbo {K:W.Frag} {g:Bool->Bool} {H:Hp} {Q:VK} {b:Addr} (ns ms:List Int) (ha:SqL K H a (ns.map V.int)) (hb:SqL K H b (ms.map V.int)) (h:Q (.bl (g (decide (ns=ms)))) H):yz0 K g (.ref a) (.ref b) H Q :=
 ⟨_,_,.lst ha (η ns),.lst hb (η ms),ĸ ns,ĸ ms,by rw [PyData.eqv,jv]; exact h⟩
def vaz (_ j:Int):Prop:=0 < j/\j < 2 ^ 200
theorem vj:OpR X (binaryOp .FloorDiv) (rI vaz fun i j=>.int (i / j)):=opI fun i j _ _ _ _ _ b q=>by
 obtain ⟨d,c⟩:=b;refine floordiv_int (by omega) ?_ (.inl (PyProof.noPylong_of_log2 ?_))
 .rw [Int.fdiv_eq_ediv_of_nonneg _ (by omega)]; exact q
 .have e:j.natAbs < 2 ^ 200:=by omega
  have a:j.natAbs≠0:=by omega
  have:=(Nat.log2_lt a).mpr e;omega
def vcv (t:TS):TS:=fun D σ H=>∃ M:St->Hp->Prop,t { D with nx:=M } σ H/\∀ σ' H',M σ' H'->D.nx σ' H'
theorem zz {st:Stmt} {t:TS} (h:PS X st t):PS X st (vcv t):=by
 refine .mk fun a s σ H D I ⟨M,e,c⟩=>?_;refine thn (h a s σ H { D with nx:=M } I e) fun f g q=>?_
 cases f with
 | next =>
  obtain ⟨σ',b,d,q⟩:=q;exact ⟨σ',b,d,c σ' b q⟩
 | ret v=>exact q
 | brk=>exact q
 | cont=>exact q
end
def wo (nx:St->Hp->Prop) (σ:St) (H:Hp):Prop:=nx σ H
section
variable {K:W.Frag} {σ:St} {H:Hp} {Q:VK} {QB:Bool->Hp->Prop} {QL:List V->Hp->Prop} {v x y:V} {i j:Int} {b:Bool} {ta tb tc te:TE} {t u:TS} {tA tB':TT} {tr:TA} {D:Á}
 {nx bk ct:St->Hp->Prop} {rt:VK} {A B:Prop}
theorem yn {N:List Str} {vs:List V} {σ':St} (e:Í N vs=σ') (h:t D σ' H):t D (Í N vs) H:=by rw [e]; exact h
theorem yy4 {k:Nat} (e:σ[k]?=some (some v)) (h:Q v H):vb4 k σ H Q:=⟨v,e,h⟩
theorem i_c (h:Q v H):tC v σ H Q:=h
theorem vdh {r:R2} (h:ta σ H fun x H1=>tb σ H1 fun y H2=>r x y H2 Q):tOp r ta tb σ H Q:=h
theorem vdf {r:V->Hp->VK->Prop} (h:ta σ H fun x H1=>r x H1 Q):tUn r ta σ H Q:=h
theorem vdq {g:Int->Int->V} (h:Q (g i j) H):rI0 g (.int i) (.int j) H Q:=⟨i,j,rfl,rfl,h⟩
theorem i_I {C:Int->Int->Prop} {g:Int->Int->V} (hc:C i j) (h:Q (g i j) H):rI C g (.int i) (.int j) H Q:=⟨i,j,rfl,rfl,hc,h⟩
theorem i_U {g:Int->V} (h:Q (g i) H):rU g (.int i) H Q:=⟨i,rfl,h⟩
theorem vbn (h:Q (.bl (decide (i=j))) H):rEq (.int i) (.int j) H Q:=⟨rfl,by
 have e:decide (V.int i=V.int j)=decide (i=j):=by simp
 rw [e]; exact h⟩
theorem va0 (h:Q (.bl (!decide (i=j))) H):rNe (.int i) (.int j) H Q:=⟨rfl,by
 have e:decide (V.int i=V.int j)=decide (i=j):=by simp
 rw [e]; exact h⟩
theorem ywb (h:ta σ H fun x H'=>∃ k,x=.bl k/\QB k H'):ysn ta σ H QB:=h
theorem vc3 (h:ta σ H fun x H'=>∃ k,x=.bl k/\QB k H'):tB ta σ H QB:=h
theorem vdk {P:Bool->Prop} (h:P b):∃ k,V.bl b=V.bl k/\P k:=⟨b,rfl,h⟩
theorem yqt {r r':R2} (h:ta σ H fun x H1=>tb σ H1 fun y H2=>r x y H2 fun z H3=>∃ k,z=.bl k/\(if k=true then tc σ H3 fun w' H4=>r' y w' H4 Q else Q (.bl false) H3)):yjb r r' ta tb tc σ H Q:=h
theorem yt3 (h:ta σ H fun x H1=>∃ c,x=.bl c/\if c=true then tb σ H1 Q else Q (.bl false) H1):yzf ta tb σ H Q:=h
theorem yxw (h:ta σ H fun x H1=>∃ c,x=.bl c/\Q (.bl (!c)) H1):yzv ta σ H Q:=h
theorem vak {t1 t2:TT} (h:t1 σ H fun c H1=>if c=true then t2 σ H1 QB else QB false H1):vcx t1 t2 σ H QB:=h
theorem vdd {t1 t2:TT} (h:t1 σ H fun c H1=>if c=true then QB true H1 else t2 σ H1 QB):tOr t1 t2 σ H QB:=h
theorem vav {t1:TT} (h:t1 σ H fun c H1=>QB (!c) H1):vc0 t1 σ H QB:=h
theorem va4 (h:tA σ H fun c H1=>if c=true then ta σ H1 Q else tb σ H1 Q):tIf tA ta tb σ H Q:=h
theorem vbe (h:t ⟨u D,D.rt,D.bk,D.ct⟩ σ H):vb3 t u D σ H:=h
theorem yxz (h:nx σ H):yyw ⟨nx,rt,bk,ct⟩ σ H:=h
theorem vbf (h:te σ H rt):vci te ⟨nx,rt,bk,ct⟩ σ H:=h
theorem yyv (h:te σ H fun _ H1=>nx σ H1):yy8 te ⟨nx,rt,bk,ct⟩ σ H:=h
theorem vc5 (h:tA σ H fun c H1=>if c=true then t D σ H1 else u D σ H1):yz5 tA t u D σ H:=h
theorem yjp (M:St->Hp->Prop) (h1:t ⟨M,rt,bk,ct⟩ σ H) (h2:∀ σ' H',M σ' H'->nx σ' H'):vcv t ⟨nx,rt,bk,ct⟩ σ H:=⟨M,h1,h2⟩
theorem vaq {g:TG} (h:te σ H fun x H1=>g x σ H1 nx):ytx te g ⟨nx,rt,bk,ct⟩ σ H:=h
theorem ywl {sp:Sp} {dvs:List V} {E:XK} (h:tr σ H fun vs H1=>sp (vs++dvs) H1 Q E):yza sp dvs E tr σ H Q:=h
theorem yvk (h:ta σ H fun x H1=>tr σ H1 fun xs H2=>QL (x :: xs) H2):yzw ta tr σ H QL:=h
theorem vag (h:QL [] H):ytu σ H QL:=h
theorem vdb {r:List V->Hp->VK->Prop} (h:tr σ H fun vs H1=>r vs H1 Q):tCB r tr σ H Q:=h
theorem vbl (h:tr σ H fun xs H1=>xs.length <= sizeLine/\∀ p,H1 p=none->Q (.ref p) (upd H1 p (.tup xs))):vco tr σ H Q:=h
theorem vam (h:tr σ H fun xs H1=>xs.length <= sizeLine/\∀ p,H1 p=none->Q (.ref p) (upd H1 p (.lst xs))):vcn tr σ H Q:=h
theorem ye6 {m:Str} {sp:Sp} {dvs:List V} {E:XK} (h:ta σ H fun x H1=>∃ a dx fs,x=.ref a/\H1 a=some (.ins C dx fs)/\fs.lookup m=none/\tr σ H1 fun vs H2=>sp (x :: (vs++dvs)) H2 Q E):ycy C m sp dvs E ta tr σ H Q:=h
theorem va8 {f:Str} (h:ta σ H fun x H1=>∃ a C dx fs v,x=.ref a/\H1 a=some (.ins C dx fs)/\Cls K C/\vn K C f/\fs.lookup f=some v/\Q v H1):vbx K ta f σ H Q:=h
theorem yyr {f:Str} (h:tb σ H fun y H1=>ta σ H1 fun x H2=>∃ a C dx fs,x=.ref a/\H2 a=some (.ins C dx fs)/\Cls K C/\vn K C f/\fs.length < 1000/\wo nx σ (upd H2 a (.ins C dx (jf f y fs)))):vcl K ta tb f ⟨nx,rt,bk,ct⟩ σ H:=h
theorem vdj {r:V->Option Int->Option Int->Hp->VK->Prop} {tl th:TO} (h:te σ H fun x H1=>tl σ H1 fun l H2=>th σ H2 fun u H3=>r x l u H3 Q):tSl r te tl th σ H Q:=h
theorem ylf {QO:Option Int->Hp->Prop} (h:QO none H):yh2 σ H QO:=h
theorem yvp {QO:Option Int->Hp->Prop} (h:ta σ H fun x H1=>∃ i,x=.int i/\QO (some i) H1):yy5 ta σ H QO:=h
theorem vbs {P:Int->Prop} (h:P i):∃ k,V.int i=V.int k/\P k:=⟨i,rfl,h⟩
theorem yvy (h:A):V.non=V.non/\A:=⟨rfl,h⟩
theorem g0 {a0:Option V} {r:St} {N:St->Hp->Prop} (h:N (some v :: r) H):xk 0 v (a0 :: r) H N:=h
theorem g1 {a0 a1:Option V} {r:St} {N:St->Hp->Prop} (h:N (a0 :: some v :: r) H):xk 1 v (a0 :: a1 :: r) H N:=h
theorem g2 {a0 a1 a2:Option V} {r:St} {N:St->Hp->Prop} (h:N (a0 :: a1 :: some v :: r) H):xk 2 v (a0 :: a1 :: a2 :: r) H N:=h
theorem g3 {a0 a1 a2 a3:Option V} {r:St} {N:St->Hp->Prop} (h:N (a0 :: a1 :: a2 :: some v :: r) H):xk 3 v (a0 :: a1 :: a2 :: a3 :: r) H N:=h
theorem g4 {a0 a1 a2 a3 a4:Option V} {r:St} {N:St->Hp->Prop} (h:N (a0 :: a1 :: a2 :: a3 :: some v :: r) H):xk 4 v (a0 :: a1 :: a2 :: a3 :: a4 :: r) H N:=h
theorem g5 {a0 a1 a2 a3 a4 a5:Option V} {r:St} {N:St->Hp->Prop} (h:N (a0 :: a1 :: a2 :: a3 :: a4 :: some v :: r) H):xk 5 v (a0 :: a1 :: a2 :: a3 :: a4 :: a5 :: r) H N:=h
theorem g6 {a0 a1 a2 a3 a4 a5 a6:Option V} {r:St} {N:St->Hp->Prop} (h:N (a0 :: a1 :: a2 :: a3 :: a4 :: a5 :: some v :: r) H):xk 6 v (a0 :: a1 :: a2 :: a3 :: a4 :: a5 :: a6 :: r) H N:=h
theorem g7 {a0 a1 a2 a3 a4 a5 a6 a7:Option V} {r:St} {N:St->Hp->Prop} (h:N (a0 :: a1 :: a2 :: a3 :: a4 :: a5 :: a6 :: some v :: r) H):xk 7 v (a0 :: a1 :: a2 :: a3 :: a4 :: a5 :: a6 :: a7 :: r) H N:=h
theorem g8 {a0 a1 a2 a3 a4 a5 a6 a7 a8:Option V} {r:St} {N:St->Hp->Prop} (h:N (a0 :: a1 :: a2 :: a3 :: a4 :: a5 :: a6 :: a7 :: some v :: r) H):xk 8 v (a0 :: a1 :: a2 :: a3 :: a4 :: a5 :: a6 :: a7 :: a8 :: r) H N:=h
theorem g9 {a0 a1 a2 a3 a4 a5 a6 a7 a8 a9:Option V} {r:St} {N:St->Hp->Prop} (h:N (a0 :: a1 :: a2 :: a3 :: a4 :: a5 :: a6 :: a7 :: a8 :: some v :: r) H):xk 9 v (a0 :: a1 :: a2 :: a3 :: a4 :: a5 :: a6 :: a7 :: a8 :: a9 :: r) H N:=h
theorem g10 {a0 a1 a2 a3 a4 a5 a6 a7 a8 a9 a10:Option V} {r:St} {N:St->Hp->Prop} (h:N (a0 :: a1 :: a2 :: a3 :: a4 :: a5 :: a6 :: a7 :: a8 :: a9 :: some v :: r) H):xk 10 v (a0 :: a1 :: a2 :: a3 :: a4 :: a5 :: a6 :: a7 :: a8 :: a9 :: a10 :: r) H N:=h
theorem yiz {n:Nat} {tg:TGs} {xs:List V} {N:St->Hp->Prop} (hq:SqT K H a xs) (hl:xs.length=n) (h:tg xs σ H N):ytz K n tg (.ref a) σ H N:=⟨a,xs,rfl,hq,hl,h⟩
theorem yo7 {tg:TG} {us:TGs} {r:List V} {N:St->Hp->Prop} (h:tg v σ H fun σ' H'=>us r σ' H' N):jh tg us (v :: r) σ H N:=⟨v,r,rfl,h⟩
theorem yur {N:St->Hp->Prop} (h:N σ H):ylu [] σ H N:=⟨rfl,h⟩
theorem za {p:Prop} [Decidable p] (h1:p->A) (h2:¬ p->B):if decide p=true then A else B:=by
 by_cases h:p
 .rw [if_pos (bR h)]; exact h1 h
 .rw [if_neg (by simp [h])]; exact h2 h
theorem Ź {p:Prop} [Decidable p] (hp:p) (h:A):if decide p=true then A else B:=by rw [if_pos (bR hp)]; exact h
theorem yc2 {p:Prop} [Decidable p] (hp:¬ p) (h:B):if decide p=true then A else B:=by rw [if_neg (by simp [hp])]; exact h
theorem yq7 {p:Prop} [Decidable p] (hp:p) (h:B):if (!decide p)=true then A else B:=by rw [if_neg (by simp [hp])]; exact h
theorem ysj {p:Prop} [Decidable p] (hp:¬ p) (h:A):if (!decide p)=true then A else B:=by rw [if_pos (by simp [hp])]; exact h
theorem ylv {p:Prop} [Decidable p] (h1:p->B) (h2:¬ p->A):if (!decide p)=true then A else B:=by
 by_cases h:p
 .exact yq7 h (h1 h)
 .exact ysj h (h2 h)
theorem vbp (h:B):if (!true)=true then A else B:=Ę h
theorem vbc (h:A):if (!false)=true then A else B:=ħ h
theorem vbr {α:Type} {z:α} [Decidable (z=z)] (h:A):if decide (z=z)=true then A else B:=Ź rfl h
theorem xv {f:Str} {r:List (Str × V)}:List.lookup f ((f,v) :: r)=some v:=by simp [List.lookup]
theorem wk {f g:Str} {r:List (Str × V)} {o:Option V} (h:¬ f=g) (e:List.lookup f r=o):List.lookup f ((g,v) :: r)=o:=by
 have a:(f == g)=false:=by simp [h]
 simp [List.lookup,a,e]
theorem Đ {f:Str}:List.lookup f ([]:List (Str × V))=none:=rfl
theorem j7 {f:Str} {r:List (Str × V)}:jf f v ((f,x) :: r)=(f,v) :: r:=by simp [jf]
theorem vw {f g:Str} {r r':List (Str × V)} (h:¬ g=f) (e:jf f v r=r'):jf f v ((g,x) :: r)=(g,x) :: r':=by simp [jf,h,e]
theorem wu {f:Str}:jf f v []=[(f,v)]:=rfl
theorem zy {c:Addr} {o o':HO} (hn:H a=none) (h:H c=some o):upd H a o' c=some o:=by rw [ym (yd h hn)]; exact h
theorem yj {c:Addr} {o o':HO} (hn:c≠a) (h:H c=some o):upd H a o' c=some o:=by rw [ym hn]; exact h
theorem ve {o:HO} (hn:H a=none):yx H (upd H a o):=fun _ _ h=>zy hn h
theorem yx.tup {H':Hp} {xs:List V} (e:yx H H') (h:SqT K H a xs):SqT K H' a xs:=by
 rcases h with (h | ⟨o,h⟩) | h
 .exact .inl (.inl (e _ _ h))
 .exact .inl (.inr ⟨o,e _ _ h⟩)
 .exact .inr h
theorem ybj {tb:TS} {W:Nat->St->Hp->Prop} {m:Nat} (h:tb ⟨fun σ' H'=>∃ m',m' < m/\W m' σ' H',rt,nx,fun σ' H'=>∃ m',m' < m/\W m' σ' H'⟩ σ H) :
  ∃ N:St->Hp->Prop,(∀ σ' H',N σ' H'->∃ m',m' < m/\W m' σ' H')/\tb ⟨N,rt,nx,N⟩ σ H:=⟨_,fun _ _ q=>q,h⟩
theorem yum {sp:Sp} {dvs:List V} {E:XK} (h:tr σ H fun vs H1=>∀ x dx,H1 x=none->H1 dx=none->dx≠x->sp (.ref x :: (vs++dvs)) (upd (upd H1 dx (.own x)) x (.ins C dx [])) (fun v H2=>v=.non/\Q (.ref x) H2) E):ysl C sp dvs E tr σ H Q:=h
theorem vda {r:V->List V->Hp->VK->Prop} (h:ta σ H fun x H1=>tyV K T x H1/\tr σ H1 fun xs H2=>r x xs H2 Q):tBM K T r ta tr σ H Q:=h
theorem va1 {r:V->List V->Hp->VK->Prop} (h:ta σ H fun x H1=>tyV K T x H1/\r x [] H1 Q):vcw K T r ta σ H Q:=h
theorem Ì {xs:List V} (h:H p=some (.lst xs)) (k:A):tyV K "list" (.ref p) H/\A:=⟨.inl ⟨rfl,_,SqL.of h⟩,k⟩
theorem x5 {l:Addr} {xs:List V} (h:H l=some (.lst xs)) (hz:xs.length < sizeLine) (k:Q .non (upd H l (.lst (xs++[y])))):yh4 (.ref l) [y] H Q:=⟨l,xs,y,rfl,rfl,h,hz,k⟩
theorem ya8 {l:Addr} {xs:List V} (h:H l=some (.lst xs)) (k:Q .non (upd H l (.lst xs.reverse))):yd5 (.ref l) [] H Q:=⟨l,xs,rfl,rfl,h,k⟩
theorem zt {ys:List V} {P:List V->Prop} (h:SqL K H p ys) (k:P ys):∃ p' ys',[V.ref p]=[V.ref p']/\(SqL K H p' ys'\/SqT K H p' ys')/\P ys':=⟨p,ys,rfl,.inl h,k⟩
theorem yoa {ys:List V} {P:List V->Prop} (h:SqT K H p ys) (k:P ys):∃ p' ys',[V.ref p]=[V.ref p']/\(SqL K H p' ys'\/SqT K H p' ys')/\P ys':=⟨p,ys,rfl,.inr h,k⟩
theorem yk3 {ys:List V} {P:List V->Prop} (h:SqL K H p ys) (k:P ys):∃ p' ys',[V.ref p]=[V.ref p']/\(SqL K H p' ys'\/SqT K H p' ys')/\P ys':=⟨p,ys,rfl,.inl h,k⟩
theorem Ĥ {xs:List V} (h:SqL K H p xs) (e:atI xs i=some v) (k:Q v H):vcd K (.ref p) (.int i) H Q:=⟨p,xs,i,v,rfl,rfl,h,e,k⟩
theorem Ė {xs:List V} (h:SqT K H p xs) (e:atI xs i=some v) (k:Q v H):vb7 K (.ref p) (.int i) H Q:=⟨p,xs,i,v,rfl,rfl,h,e,k⟩
theorem yc1 {xs:List V} {lo hi:Option Int} (h:SqL K H p xs) (k:∀ q,H q=none->Q (.ref q) (upd H q (.lst (yc4 xs lo hi)))):vcz K (.ref p) lo hi H Q:=⟨p,xs,rfl,h,k⟩
theorem z9 {xs:List V} (n:Nat):yc4 xs none (some (n:Int))=xs.take n:=by
 unfold yc4;rw [HT.sIx_none,HT.sIx_nat,List.drop_zero,Nat.sub_zero];rcases Nat.le_total n xs.length with h | h
 .rw [Nat.min_eq_left h]
 .rw [Nat.min_eq_right h,cL (bL _),cL h]
theorem vbt {wi:TI} {g:TG} {tb:TS} (h:wi σ H fun J H1=>∃ W:Nat->Nat->St->Hp->Prop,(∃ m,W 0 m σ H1)/\∀ i m σ H,W i m σ H ->
  (J.stop i H/\D.nx σ H)\/(J.go i H/\∃ N:St->Hp->Prop,(∀ σ' H',N σ' H'->∃ m',m' < m/\W (i+1) m' σ' H')/\∀ x H',J.yld i H x H'->g x σ H' fun σ2 H2=>tb { D with nx:=N,ct:=N,bk:=D.nx } σ2 H2)):vcm wi g tb D σ H:=h
theorem yqi {R:It->Hp->Prop} (h:ta σ H fun x H1=>∃ a,x=.ref a/\(∃ xs,SqL K H1 a xs)/\R (Itl K a) H1):yzt K ta σ H R:=h
theorem yym {R:It->Hp->Prop} (h:ta σ H fun x H1=>∃ a,x=.ref a/\(∃ xs,SqT K H1 a xs)/\R (Itt K a) H1):vcr K ta σ H R:=h
theorem ypd {R:It->Hp->Prop} (h:tr σ H fun vs H1=>∃ j:Int,vs=[.int j]/\-(2 ^ 62) <= j/\j < 2 ^ 62/\R (Itr 0 j.toNat) H1):yy9 tr σ H R:=h
theorem Ú {n m:String} {k:Bool} {P:Bool->Prop} (ty:xr K H x (.type n)) (e:W.kitOne K (.type n) (.type m)=some k) (h:P k) :
  ∃ x' cv t c k',[x,V.ty m]=[x',cv]/\xh cv c/\(∀ u,xh cv u->u=c)/\xr K H x' t/\W.kitOne K t c=some k'/\P k':=⟨x,.ty m,.type n,.type m,k,rfl,rfl,fun _ r=>r,ty,e,h⟩
theorem yo9 (h:nx σ H):wo nx σ H:=h
end
def yl0:V->Bool
 | .int _=>true
 | .bl _=>true
 | _=>false
def yh0:V->Bool
 | .bl _=>true
 | _=>false
def jp:V->Bool
 | .int _=>true
 | _=>false
theorem yj8 (K:W.Frag) (n:String):W.kitOne K (.type n) (.type n)=some true:=by
 unfold W.kitOne;rw [if_pos (by simp)]
theorem yot {K:W.Frag} {H:Hp} {x:V} {n:String} (ty:xr K H x (.type n)):W.kitOne K (.type n) (.type "int")=some (yl0 x):=by
 cases ty <;> rfl
theorem yj7 {K:W.Frag} {H:Hp} {x:V} {n:String} (ty:xr K H x (.type n)):W.kitOne K (.type n) (.type "bool")=some (yh0 x):=by
 cases ty <;> rfl
end L2
namespace SpanMath
def Ch (c:Int):Prop:=32768 <= c/\c <= 16744448
def ren (l w s:Int):Int × Int × Int :=
 if w < 4294967296 then (if w * 256 < 4294967296 then (l * 65536,w * 65536,s+2) else (l * 256,w * 256,s+1)) else (l,w,s)
def cut (w c:Int):Int:=w * c / 16777216
def nar (x:Int × Int × Int) (c b:Int):Int × Int × Int :=
 if b=1 then ren x.1 (cut x.2.1 c) x.2.2 else ren (x.1+cut x.2.1 c) (x.2.1 - cut x.2.1 c) x.2.2
def s0:Int × Int × Int:=(0,1099511627776,5)
theorem yle {l w s:Int} (h:w < 4294967296) (h2:8388608 <= w):ren (l * 256) (w * 256) (s+1)=ren l w s:=by
 unfold ren;rw [if_pos h];by_cases h3:w * 256 < 4294967296
 .rw [if_pos h3,if_pos h3,if_neg (by omega)];refine Prod.ext ?_ (Prod.ext ?_ ?_)
  .show l * 256 * 256=l * 65536; omega
  .show w * 256 * 256=w * 65536; omega
  .show s+1+1=s+2; omega
 .rw [if_neg h3,if_neg h3]
theorem yp0 {l w s:Int} (h:¬ w < 4294967296):ren l w s=(l,w,s):=by
 unfold ren; rw [if_neg h]
theorem ybl {w c:Int} (hw:4294967296 <= w) (hw2:w <= 1099511627776) (hc:Ch c):8388608 <= cut w c/\8388608 <= w - cut w c/\cut w c < 1099511627776:=by
 obtain ⟨b,a⟩:=hc;have e:w * 32768 <= w * c:=cU b (by omega);have d:w * c <= w * 16744448:=cU a (by omega);unfold cut;generalize w * c=p at e d ⊢;omega
structure Ok (x:Int × Int × Int):Prop where
 l0:0 <= x.1
 w0:4294967296 <= x.2.1
 w1:x.2.1 <= 1099511627776
 z:5 <= x.2.2
theorem ok0:Ok s0:=⟨by decide,by decide,by decide,by decide⟩
theorem ymp {l w s:Int} (h0:0 <= l) (h1:8388608 <= w) (h2:w <= 1099511627776) (h3:5 <= s):Ok (ren l w s):=by
 unfold ren
 split
 .split
  .exact ⟨by show 0 <= l * 65536; omega,by show _ <= w * 65536; omega,by show w * 65536 <= _; omega,by show 5 <= s+2; omega⟩
  .exact ⟨by show 0 <= l * 256; omega,by show _ <= w * 256; omega,by show w * 256 <= _; omega,by show 5 <= s+1; omega⟩
 .exact ⟨h0,by show _ <= w; omega,h2,h3⟩
theorem yxb {x:Int × Int × Int} {c b:Int} (h:Ok x) (hc:Ch c):Ok (nar x c b):=by
 obtain ⟨d,e,a⟩:=ybl h.w0 h.w1 hc;have:=h.l0; have:=h.w0; have:=h.w1; have:=h.z;unfold nar
 split
 .exact ymp (by omega) (by omega) (by omega) (by omega)
 .exact ymp (by omega) (by omega) (by omega) (by omega)
end SpanMath
namespace SpanMath
def pw:Nat->Int
 | 0=>1
 | k+1=>pw k * 256
theorem uh:∀ k,0 < pw k
 | 0=>by decide
 | k+1=>by have:=uh k; show 0 < pw k * 256; omega
theorem yey (a:Nat):∀ b,pw (a+b)=pw a * pw b
 | 0=>by simp [pw]
 | b+1=>by
  show pw (a+b) * 256=pw a * (pw b * 256);rw [yey a b,Int.mul_assoc]
theorem yif {a b:Nat} (h:a <= b):pw a <= pw b:=by
 obtain ⟨c,rfl⟩:=Nat.exists_eq_add_of_le h;rw [yey];have e:=uh a;have d:=uh c
 calc pw a=pw a * 1:=by omega
  _ <= pw a * pw c:=cU (by omega) (by omega)
theorem yze {a b:Nat} (h:pw a < pw b):a < b:=by
 apply Nat.lt_of_not_le;intro q;have:=yif q;omega
def lo:Nat->Int->List Int
 | 0,_=>[]
 | k+1,n=>n % 256 :: lo k (n / 256)
def wr (k:Nat) (n:Int):List Int:=(lo k n).reverse
theorem ynu:∀ k n,(lo k n).length=k
 | 0,_=>rfl
 | k+1,n=>by simp [lo,ynu k]
theorem yys (k:Nat) (n:Int):(wr k n).length=k:=by simp [wr,ynu]
theorem yhm:∀ k n,∀ x∈lo k n,0 <= x/\x <= 255
 | 0,_,x,h=>by simp [lo] at h
 | k+1,n,x,h=>by
  simp only [lo,bW] at h;rcases h with rfl | h
  .omega
  .exact yhm k _ x h
theorem yps (k:Nat) (n:Int):∀ x∈wr k n,0 <= x/\x <= 255:=fun x h=>yhm k n x (by simpa [wr] using h)
theorem yon (k:Nat) (n:Int):wr (k+1) n=wr k (n / 256)++[n % 256]:=by simp [wr,lo]
def val (xs:List Int):Int:=xs.foldl (fun a b=>a * 256+b) 0
theorem ydd (xs:List Int) (b:Int):val (xs++[b])=val xs * 256+b:=by simp [val,List.foldl_append]
theorem ym5:∀ (k:Nat) (n:Int),0 <= n->n < pw k->val (wr k n)=n
 | 0,n,h0,h1=>by
  have:n < 1:=h1;have:n=0:=by omega
  subst this; rfl
 | k+1,n,h0,h1=>by
  have a:n < pw k * 256:=h1;rw [yon,ydd,ym5 k (n / 256) (by omega) (by omega)];omega
def vdp:Nat->Int->Int->Nat
 | 0,_,_=>0
 | n+1,a,b=>if a=b then 0 else vdp n (a / 256) (b / 256)+1
end SpanMath
namespace SpanMath
abbrev Sn:=Int × Int × Int
def sz (x:Sn):Nat:=x.2.2.toNat
structure OkS (x:Sn):Prop where
 ok:Ok x
 top:x.1+x.2.1 <= pw (sz x)
theorem OkS.sz {x:Sn} (h:OkS x):((sz x:Nat):Int)=x.2.2:=by
 have:=h.ok.z;unfold SpanMath.sz;omega
theorem OkS.sz5 {x:Sn} (h:OkS x):5 <= SpanMath.sz x:=by
 have:=h.ok.z;unfold SpanMath.sz;omega
theorem vce:OkS s0:=⟨ok0,by decide⟩
structure Sub (x y:Sn) (r:Nat):Prop where
 z:sz y=sz x+r
 l:x.1 * pw r <= y.1
 h:y.1+y.2.1 <= (x.1+x.2.1) * pw r
theorem yho {l w s:Int} (hs:0 <= s):∃ r,Sub (l,w,s) (ren l w s) r/\(ren l w s).2.1=w * pw r/\(ren l w s).1=l * pw r:=by
 unfold ren
 split
 .split
  .refine ⟨2,⟨?_,?_,?_⟩,?_,?_⟩
   .show (s+2).toNat=s.toNat+2; omega
   .show l * (1 * 256 * 256) <= l * 65536; omega
   .show l * 65536+w * 65536 <= (l+w) * (1 * 256 * 256); omega
   .show w * 65536=w * (1 * 256 * 256); omega
   .show l * 65536=l * (1 * 256 * 256); omega
  .refine ⟨1,⟨?_,?_,?_⟩,?_,?_⟩
   .show (s+1).toNat=s.toNat+1; omega
   .show l * (1 * 256) <= l * 256; omega
   .show l * 256+w * 256 <= (l+w) * (1 * 256); omega
   .show w * 256=w * (1 * 256); omega
   .show l * 256=l * (1 * 256); omega
 .refine ⟨0,⟨?_,?_,?_⟩,?_,?_⟩
  .rfl
  .show l * 1 <= l; omega
  .show l+w <= (l+w) * 1; omega
  .show w=w * 1; omega
  .show l=l * 1; omega
theorem ypz {x:Sn} {c b:Int} (h:Ok x) (hc:Ch c):∃ r,Sub x (nar x c b) r:=by
 obtain ⟨i,g,f⟩:=ybl h.w0 h.w1 hc;have k:=h.l0; have j:=h.z;unfold nar
 split
 .obtain ⟨r,⟨d,a,e⟩,_⟩:=yho (l:=x.1) (w:=cut x.2.1 c) (s:=x.2.2) (by omega);refine ⟨r,d,a,Int.le_trans e (cK ?_ (Int.le_of_lt (uh r)))⟩;show x.1+cut x.2.1 c <= x.1+x.2.1;omega
 .obtain ⟨r,⟨d,a,e⟩,_⟩:=yho (l:=x.1+cut x.2.1 c) (w:=x.2.1 - cut x.2.1 c) (s:=x.2.2) (by omega);refine ⟨r,d,Int.le_trans (cK ?_ (Int.le_of_lt (uh r))) a,Int.le_trans e (cK ?_ (Int.le_of_lt (uh r)))⟩
  .show x.1 <= x.1+cut x.2.1 c; omega
  .show x.1+cut x.2.1 c+(x.2.1 - cut x.2.1 c) <= x.1+x.2.1; omega
theorem ycp {x:Sn} {c b:Int} (h:OkS x) (hc:Ch c):OkS (nar x c b):=by
 refine ⟨yxb h.ok hc,?_⟩;obtain ⟨r,q⟩:=ypz (b:=b) h.ok hc;rw [q.z,yey];exact Int.le_trans q.h (cK h.top (Int.le_of_lt (uh r)))
def blk (l e:Int):Int:=(l+e - 1) / e
def yf7 (l w:Int) (k:Nat):Prop:=(blk l (pw k)+1) * pw k <= l+w
instance (l w:Int) (k:Nat):Decidable (yf7 l w k):=inferInstanceAs (Decidable ((blk l (pw k)+1) * pw k <= l+w))
theorem yoe (l:Int) {e:Int} (h:0 < e):l <= blk l e * e/\blk l e * e < l+e:=by
 unfold blk;have a:=Int.emod_add_mul_ediv (l+e - 1) e;have b:=cO (l+e - 1) (show e≠0 by omega);have c:=cF (l+e - 1) h;rw [Int.mul_comm] at a;generalize (l+e - 1) / e * e=q at a ⊢;omega
theorem yih {l w:Int} {k:Nat} (h:yf7 l w k):pw k <= w:=by
 have a:=yoe l (uh k);unfold yf7 at h;rw [Int.add_mul] at h;omega
def tel (l w:Int):Nat->Nat->Nat
 | 0,k=>k
 | f+1,k=>if yf7 l w (k+1) then tel l w f (k+1) else k
theorem ykz {l w:Int} {f k:Nat} (h:yf7 l w (k+1)):tel l w f (k+1)=tel l w (f+1) k:=by
 rw [tel,if_pos h]
theorem yqu {l w:Int} {f k:Nat} (h:¬ yf7 l w (k+1)):tel l w f k=k:=by
 cases f with
 | zero=>rfl
 | succ f=>rw [tel,if_neg h]
theorem ydf {l w:Int}:∀ {f k:Nat},yf7 l w k->yf7 l w (tel l w f k)
 | 0,_,h=>h
 | f+1,k,h=>by
  unfold tel
  split
  .rename_i q; exact ydf q
  .exact h
theorem pw5:pw 5=1099511627776:=by decide
theorem ymr {l w:Int} {k:Nat} (hw:w <= 1099511627776) (h:yf7 l w k):k <= 5:=by
 have b:=yih h;rw [<- pw5] at hw;have a:pw k < pw 6:=Int.lt_of_le_of_lt (Int.le_trans b hw) (by decide);have:=yze a;omega
def tK (x:Sn):Nat:=tel x.1 x.2.1 5 0
def tCn (x:Sn):Int:=blk x.1 (pw (tK x))
def tL (x:Sn):List Int:=wr (sz x - tK x) (tCn x)
theorem van {x:Sn} (h:Ok x):yf7 x.1 x.2.1 0:=by
 have:=h.w0;show ((x.1+1 - 1) / 1+1) * 1 <= x.1+x.2.1;omega
theorem Ŷ {x:Sn} (h:Ok x):yf7 x.1 x.2.1 (tK x):=ydf (van h)
theorem yrs {x:Sn} (h:OkS x):tK x <= 5/\tK x <= sz x:=by
 have b:=ymr h.ok.w1 (Ŷ h.ok);have a:=h.sz5;omega
theorem yi2 (x:Sn):(tL x).length=sz x - tK x:=yys _ _
theorem yt2 {x:Sn} (h:Ok x):0 <= tCn x:=by
 have:=h.l0;have:=uh (tK x);exact Int.ediv_nonneg (by omega) (by omega)
theorem yxr {x:Sn} (h:OkS x):tCn x < pw (sz x - tK x):=by
 have b:(tCn x+1) * pw (tK x) <= x.1+x.2.1:=Ŷ h.ok;have a:=h.top;have e:sz x - tK x+tK x=sz x:=Nat.sub_add_cancel (yrs h).2;rw [<- e,yey] at a;have c:=Int.le_of_mul_le_mul_right (Int.le_trans b a) (uh (tK x));omega
theorem ywr {x:Sn} (h:OkS x):val (tL x)=tCn x:=ym5 _ _ (yt2 h.ok) (yxr h)
end SpanMath
namespace L2
open PySem PySem.Spec PyProof.Rows
def yem (J:It) (te:TE) (D:Addr) (R:Hp->Prop) (H1:Hp):Prop:=∃ W:Nat->Nat->Hp->Prop,(∃ m,W 0 m (upd H1 D (.lst []))) /\
 ∀ i m H2,W i m H2->(J.stop i H2/\R H2)\/(J.go i H2/\∀ x H3,J.yld i H2 x H3->te [some x] H3 fun y H4=>∃ ys,H4 D=some (.lst ys)/\ys.length < sizeLine/\∃ m',m' < m/\W (i+1) m' (upd H4 D (.lst (ys++[y]))))
section
variable {X:Cx} {iter elt:Expr} {x:Str} {px pos:Pos} {scope:Scope} {te:TE} {wi:TI} {pins:List (Addr × Obj)} {σ:St}
theorem ytw {α:Type} {t:Sem α} {Q Q':α->Shared->Prop} {M:Model} {A:Around} {E:Value->Shared->Prop} {s:Shared} (h:wpAny M A t Q (fun _ _=>False) s) (hQ:∀ a s,Q a s->Q' a s):wpAny M A t Q' E s:=cT h hQ fun _ _ z=>z.elim
def cW (n:Nat) (Pv:Nat->Hp->Prop) (i m:Nat) (H:Hp):Prop:=m=n - i/\i <= n/\Pv i H
theorem ux {K:W.Frag} {a D:Addr} {xs:List V} {R:Hp->Prop} {H1:Hp} (Pv:Nat->Hp->Prop) (h0:Pv 0 (upd H1 D (.lst []))) (hl:∀ i H,i <= xs.length->Pv i H->SqL K H a xs)
  (hs:∀ i x H,xs[i]?=some x->i < xs.length->Pv i H->te [some x] H fun y H4=>∃ ys,H4 D=some (.lst ys)/\ys.length < sizeLine/\∃ m',m' < xs.length - i/\cW xs.length Pv (i+1) m' (upd H4 D (.lst (ys++[y]))))
  (hd:∀ H,Pv xs.length H->R H):yem (Itl K a) te D R H1:=by
 refine ⟨cW xs.length Pv,⟨xs.length,by simp,cb _,h0⟩,?_⟩;rintro i m H ⟨rfl,b,p⟩;have q:=hl i H b p;by_cases hlt:i < xs.length
 .refine .inr ⟨⟨xs,xs[i],q,by simp [hlt]⟩,fun x c y=>?_⟩;obtain ⟨e,y⟩:=y;subst e;exact hs i x _ (y xs q) hlt p
 .have e:i=xs.length:=by omega
  subst e;exact .inl ⟨⟨xs,q,bL _⟩,hd H p⟩
theorem xn {n i:Nat} {Pv:Nat->Hp->Prop} {D:Addr} {ys:List V} {y:V} {H4:Hp} (hD:H4 D=some (.lst ys)) (hl:ys.length < sizeLine) (hi:i < n) (p:Pv (i+1) (upd H4 D (.lst (ys++[y])))) :
  ∃ ys,H4 D=some (.lst ys)/\ys.length < sizeLine/\∃ m',m' < n - i/\cW n Pv (i+1) m' (upd H4 D (.lst (ys++[y]))):=⟨ys,hD,hl,n - (i+1),by omega,rfl,hi,p⟩
end
end L2
namespace L2
open PySem
def yo6:Expr->Bool
 | .Starred _ _=>false
 | _=>true
theorem ya {e:Expr} {es:List Expr} {env:Env} (h:yo6 e=true):starEach (e :: es) env=(false,eval e env) :: starEach es env:=by
 cases e <;> first | rfl | cases h
end L2
namespace L2
open PySem PySem.Spec PyProof.Rows
variable {C D a:Addr} {h':Heap} {pins:List (Addr × Obj)} {M:Model} {P:Program} {scope:Scope} {qual:Str} {cd u:Value} {E Q:Value->Shared->Prop}
structure XCls (K:W.Frag) (C:Addr):Prop where
 hd:W.hasDictIn K C=true
 ga:W.findIn K (.ref C) "__getattribute__"=some (some (.builtin "BaseException.__getattribute__"))
 gt:W.findIn K (.ref C) "__getattr__"=some none
 ca:W.findIn K (.ref C) "__class__"=some (some (.builtin "object.__class__"))
 gg:W.specialIn K (.builtin "object.__class__") "__get__"=some (some (.builtin "getset_descriptor.__get__"))
 tk:W.takesIn K (.builtin "object.__class__")=some true
 mo:W.mroIn K C (.type "object")=some true
 mb:W.mroIn K C (.type "BaseException")=some true
theorem XCls.cl {K:W.Frag} (c:XCls K C):(W.clsIn K C).isSome=true:=by
 obtain ⟨a,h,_⟩:=W.any_some c.hd;rw [h]; rfl
theorem ym0 {K:W.Frag} (h0:W.subIn K (.ref D) (.type "BaseException")=some true) (h1:W.hasDictIn K D=true) (h2:W.typeIn K (.ref D)=some (.type "type"))
  (h3:W.subIn K (.ref C) (.ref D)=some true):W.exmOne K (.ref C) (.ref D)=some true:=by
 obtain ⟨a,h,_⟩:=W.any_some h1;unfold W.exmOne W.kitCls;rw [h0];dsimp only;rw [h,h2,h3];rfl
def Ō (x C:Addr) (h:Heap):Prop:=∃ ox,h.get? x=some ox/\ox.cls=.ref C
section
variable {prog:Program} {w:World} {A:Around} {s:Shared} {K:W.Frag} {x:Addr}
theorem Ō.type {h:Heap} (I:Ō x C h):W.Looks M h (typeOf (.ref x)) (.ref C):=by
 obtain ⟨c,b,a⟩:=I;exact a ▸ (W.Looks.ld b).andThen .now
theorem XCls.finds (c:XCls K C) {h:Heap} (X:K.In h):W.Looks M h (Builtin.ObjectAttr.find (.ref x) (.ref C) "__class__") (.bind (.builtin "getset_descriptor.__get__") (.builtin "object.__class__")):=by
 have a:=W.looks_findIn (M:=M) X c.ca;have d:W.Looks M h (Builtin.ObjectAttr.getOf (some (.builtin "object.__class__"))) (some (.builtin "getset_descriptor.__get__")):=W.looks_specialIn X c.gg;have b:W.Looks M h (Builtin.ObjectAttr.dataDescriptor? (some (.builtin "object.__class__")) (some (.builtin "getset_descriptor.__get__"))) (some (.builtin "getset_descriptor.__get__",.builtin "object.__class__")):=(W.looks_takesIn X c.tk).andThen .now;exact a.andThen (d.andThen (b.andThen (W.Looks.tag .now)))
theorem yo4 {R:Result->Shared->Prop} {tp:Value} (c:XCls K C) (X:K.In s.heap) (I:Ō x C s.heap) (h:R (.ok (.ret (.ref C))) s) :
  codeAny (model prog w) A (.call (.builtin "getset_descriptor.__get__") ⟨[.builtin "object.__class__",.ref x,tp],[]⟩) R s:=by
 obtain ⟨d,g,a,t,f⟩:=s;have b:=I.type (M:=model prog w);have e:=W.looks_mroIn (M:=model prog w) X c.mo;refine codeAny_call_builtin W.KF.slot_gs.plain W.KF.entry_gs (W.KF.slot_gs.check _ _ _ _ _ _ _ _ W.KF.type_class (W.KF.args_gs _ _ _) ?_);unfold Builtin.«getset_descriptor.__get__» Builtin.Getset_descriptor.descrGet;rw [W.dga_obj];refine bI (bO ?_);unfold Builtin.Getset_descriptor.descrGetter Builtin.Getset_descriptor.descrCheckInstance Builtin.Getset_descriptor.descrNameAndClass isInstance;simp only [W.KF.owner_class]
 repeat lk
 refine ⟨Code.quiet_builtin _ (by decide +kernel),codeAny_builtin W.KF.entry_class ?_⟩;unfold Builtin.«object.__class__» shownTypeOf
 repeat lk
 exact h
theorem yhf (c:XCls K C) {Q:Option Value->Shared->Prop} (X:K.In s.heap) (I:Ō x C s.heap) (h:Q (some (.ref C)) { s with toks:=s.toks+1 }) :
  wpAny (model prog w) A (getAttr? (.ref x) "__class__") Q E s:=by
 obtain ⟨e,g,d,t,o⟩:=s;have b:=I.type (M:=model prog w);have k:=W.looks_findIn (M:=model prog w) X c.ga;have l:=W.looks_findIn (M:=model prog w) X c.gt;have q:W.Looks (model prog w) e (isInstance (.ref x) (.type "BaseException")) true:=b.andThen (W.looks_mroIn X c.mb);have p:=c.finds (x:=x) (M:=model prog w) X;unfold getAttr? getAttrBy? getAttrBy;refine bI (wpAny_mkText (bI (wpAny_attempt (wpAny_holding (bI (b.at (bI (k.at ?_))))))))
 have n:(onTheHeap (Value.ref C) && Value.builtin "BaseException.__getattribute__" == Value.builtin "object.__getattribute__")=false:=by
  have z:(Value.builtin "BaseException.__getattribute__" == Value.builtin "object.__getattribute__")=false:=by decide +kernel
  rw [z]; rfl
 dsimp only;rw [n];unfold getAttrByItsOwn hookBefore;rw [if_neg bS];refine bI ?_;rw [if_pos (show onTheHeap (.ref C)=true from rfl)];refine l.at ?_;refine bI (wpAny_attempt (wpAny_holding ?_));unfold callGetattribute;rw [if_neg (by simp)];unfold boundAndCalled;rw [F.attr_ValueError.ga.bind (.ref x)];refine bI (bO ?_);refine wpAny_call (codeAny_call_builtin F.attr_ValueError.ga.plain F.entry_bexc_ga ?_);have m:builtinKind "BaseException.__getattribute__"=some .slot:=by decide +kernel
 have a:splitId "BaseException.__getattribute__"=some ("BaseException","__getattribute__"):=by decide +kernel
 have i:=F.args_bexc_ga (.ref x) (.str "__class__" t);simp only [checkBuiltinCall,m,a,List.cons_append,List.nil_append];refine bI (q.at ?_);rw [if_neg (by simp)];refine wpAny_of_eq i ?_;unfold Builtin.«object.__getattribute__»;have f:slotArgs "__getattribute__" 1 ⟨[Value.ref x,Value.str "__class__" t],[]⟩=pure (Value.ref x,[Value.str "__class__" t]):=by kernel_rfl
 have j:Builtin.ObjectAttr.attrName (Value.str "__class__" t)=pure "__class__":=by kernel_rfl
 refine bI (wpAny_of_eq f ?_);dsimp only;refine bI (wpAny_of_eq j ?_);refine bI (b.at ?_);refine bI (p.at ?_);dsimp only;show wpAny _ _ (holding [_] (call _ [_,_,_]) >>= ret) _ _ _;refine bI (wpAny_holding (wpAny_call (yo4 (s:=⟨e,g,d,t+1,o⟩) c X I ?_)));refine bO ?_;exact W.handed_on rfl (bO h)
theorem yom (c:XCls K C):W.KitX K (.ref x) (.ref C) (Ō x C) where
 ty:=fun _ _ _ I=>I.type
 it:=fun M h X _=>by
  obtain ⟨e,a⟩:=Option.isSome_iff_exists.mp c.cl;unfold W.clsIn at a
  split at a
  .rename_i there
   intro j g m l k q;unfold isType loadHead;exact bI (wpAny_loadPart (k _ _ (X _ _ there)) (bO q))
  .cases a
 ne:=fun h f o d n i X b=>by
  obtain ⟨e,a⟩:=Option.isSome_iff_exists.mp c.cl;refine Bool.eq_false_iff.mpr fun q=>?_;obtain rfl:C=f:=Value.ref.inj (beq_iff_eq.mp q);unfold W.clsIn at a
  split at a
  .rename_i there
   cases (X _ _ there).symm.trans b
  .cases a
 ca:=fun X I k=>yhf c X I k
end
section
variable {X:Cx}
theorem yoq {σ:St} {H:Hp} {s:Shared} {x:Addr} (I:Inv X pins σ H s) (e:H x=some (.ext (Ō x C))):Ō x C s.heap:=(show ww X.prog X.w H s.heap x (.ext (Ō x C)) from I.hok x _ e).1
def ytl (K:W.Frag):List V->Hp->VK->Prop:=fun xs H Q=>∃ x cv C c k,xs=[.ref x,cv]/\xh cv c/\(∀ u,xh cv u->u=c)/\H x=some (.ext (Ō x C))/\XCls K C/\W.kitOne K (.ref C) c=some k/\Q (.bl k) H
theorem Ů:u9 X (.builtin "isinstance") (ytl X.K):=by
 intro a s σ H n o Q I r h;obtain ⟨x,m,C,c,k,rfl,_,i,b,j,e,q⟩:=h;obtain ⟨u,d,rfl,l,f⟩:=ylp r;obtain rfl:=i d f;obtain rfl:u=Value.ref x:=l
 exact W.kia_one (yom j) I.kIn (yoq I b) e (fun z=>nomatch z) fun g=>⟨.bl k,H,I.tok g,rfl,q⟩
theorem yaz:∀ {Cs:List Addr} {us:List Value},wx (Cs.map V.ref) us->us=Cs.map Value.ref
 | [],_,.nil=>rfl
 | C :: r,_,.cons a t=>by rw [show _=Value.ref C from a,yaz t]; rfl
end
theorem ww.there {w:World} {H:Hp} {h:Heap} {o:HO} (x:ww P w H h a o):∃ ob,h.get? a=some ob:=by
 cases o with
 | lst xs=>obtain ⟨_,_,_,_,e⟩:=x; exact ⟨_,e⟩
 | tup xs=>obtain ⟨_,_,_,ob,e,_⟩:=x; exact ⟨_,e⟩
 | dK kvs=>obtain ⟨_,_,_,_,ob,_,_,e,_⟩:=x; exact ⟨_,e⟩
 | dT kvs=>obtain ⟨_,_,_,_,ob,_,_,e,_⟩:=x; exact ⟨_,e⟩
 | set S n=>obtain ⟨ob,_,_,_,e,_⟩:=x; exact ⟨_,e⟩
 | ins C dx fs=>obtain ⟨_,_,_,e,_⟩:=x; exact ⟨_,e⟩
 | own y=>exact x
 | xd fs=>obtain ⟨_,⟨_,_,_,e,_⟩,_⟩:=x; exact ⟨_,e⟩
 | rng lo hi=>obtain ⟨_,_,_,e⟩:=x; exact ⟨_,e⟩
 | frz ob u=>obtain ⟨e,_⟩:=x; exact ⟨_,e⟩
 | tbl ps=>exact ⟨_,(show h.get? a=some _ from x)⟩
 | met f y=>exact ⟨_,(show h.get? a=some _ from x)⟩
 | ext φ=>obtain ⟨_,e,_⟩:=x; exact e
theorem HOk.none_of {w:World} {H:Hp} {h:Heap} (x:HOk P w H h) (e:h.get? a=none):H a=none:=by
 cases q:H a with
 | none=>rfl
 | some u =>
  obtain ⟨b,z⟩:=(x a u q).there;rw [e] at z;cases z
def Fy (X:Cx) (pins:List (Addr × Obj)) (H:Hp) (b:Addr):Prop :=
 H b=none/\b≠X.env.locals/\b∉X.fs/\(b∈X.ex\/X.s₀.heap.get? b=none)/\(∀ y c,X.env.cells.lookup y=some c->c≠b)/\∀ p∈X.pn++pins,p.1≠b
section
variable {X:Cx} {σ:St} {H H':Hp} {s:Shared} {b x T:Addr}
theorem yev (I:Inv X pins σ H s) (hb:s.heap.get? b=none) (hn:H' b=none):Fy X pins H' b:=by
 refine ⟨hn,?_,?_,?_,?_,?_⟩
 .rintro rfl;obtain ⟨_,⟨_,_,_,e,_⟩,_⟩:=I.loc;rw [hb] at e; cases e
 .intro z;obtain ⟨_,o,e,_⟩:=I.funs.mem z;rw [hb] at e; cases e
 .by_cases hx:b∈X.ex
  .exact .inl hx
  .refine .inr ?_
   cases q:X.s₀.heap.get? b with
   | none=>rfl
   | some o =>
    obtain ⟨_,e⟩:=I.base.there b o q hx;rw [hb] at e; cases e
 .rintro y c e rfl;obtain ⟨_,_,q,_⟩:=I.cell y c e;rw [hb] at q; cases q
 .intro p a z;have q:=(I.pin p a).1;rw [z,hb] at q; cases q
theorem Inv.fly (I:Inv X pins σ H s) (hx:Fy X pins H x) (hT:Fy X pins H T)
  (keep:∀ b o,b≠x->b≠T->b∉frs X.stack->s.heap.get? b=some o->h'.get? b=some o)
  (slot:∀ b o,b∈frs X.stack->s.heap.get? b=some o->∃ sl,h'.get? b=some { o with slots:=sl }):Inv X pins σ H { s with heap:=h' }:=by
 have f:∀ {y b o},Fy X pins H y->X.s₀.heap.get? b=some o->b∉X.ex->b≠y:=fun {y b o} R e a z=>by
  subst z;rcases R.2.2.2.1 with q | q
  .exact a q
  .rw [e] at q; cases q
 have h:∀ b o,b≠x->b≠T->s.heap.get? b=some o->∃ sl,h'.get? b=some { o with slots:=sl }:=fun b o N S e=>by
  by_cases z:b∈frs X.stack
  .exact slot b o z e
  .exact ⟨o.slots,keep b o N S z e⟩
 have g:∀ y c,X.env.cells.lookup y=some c->∀ v,s.heap.IsCell c v->h'.IsCell c v:=fun y c e v ⟨o,C,M⟩=>by
  obtain ⟨sl,q⟩:=h c o (hx.2.2.2.2.1 y c e) (hT.2.2.2.2.1 y c e) C;exact ⟨_,q,M⟩
 refine ⟨I.ok,I.os,I.bare,⟨fun b o e n A a=>?_,fun b o e n A a=>?_,I.base.free,fun b o e a=>?_,I.base.tups,I.base.frzs,I.base.tbls⟩,?_,fun y c e=>?_,I.free,I.freeC,fun p D=>?_,fun b u e=>?_,I.len⟩
 .refine keep b o (f hx e a) (f hT e a) (fun z=>?_) (I.base.keep b o e n A a);rcases bW.mp (I.stkSub b z) with q | q
  .exact absurd q (ci (ck (bQ e) I.ok.above))
  .exact A q
 .obtain ⟨sl,t⟩:=I.base.slot b o e n A a;obtain ⟨j,w⟩:=h b _ (f hx e a) (f hT e a) t;exact ⟨j,w⟩
 .obtain ⟨Y,t⟩:=I.base.there b o e a;obtain ⟨j,w⟩:=h b _ (f hx e a) (f hT e a) t;exact ⟨_,w⟩
 .obtain ⟨m,W,O⟩:=I.loc;refine ⟨m,?_,fun i y v t w L=>?_⟩
  .obtain ⟨o,J,P,C,r⟩:=W;obtain ⟨sl,q⟩:=h _ o (Ne.symm hx.2.1) (Ne.symm hT.2.1) C;exact ⟨_,J,P,q,r⟩
  .obtain ⟨u,r,l⟩:=O i y v t w L;refine ⟨u,r,?_⟩;rcases l with l | ⟨k,c,e,z⟩
   .exact .inl l
   .exact .inr ⟨k,c,e,g y c e _ z⟩
 .obtain ⟨v,z⟩:=I.cell y c e;exact ⟨v,g y c e v z⟩
 .obtain ⟨e,n,G,F,d⟩:=I.pin p D;refine ⟨keep p.1 p.2 (hx.2.2.2.2.2 p D) (hT.2.2.2.2.2 p D) (fun z=>?_) e,n,G,F,d⟩;rcases bW.mp (I.stkSub _ z) with q | q
  .exact G q
  .exact F q
 .have E:∀ c v,H c=some v->c≠x/\c≠T/\c∉frs X.stack:=fun c v q =>
   ⟨fun z=>(by rw [z,hx.1] at q; cases q),fun z=>(by rw [z,hT.1] at q; cases q),fun z=>(by rw [I.stkFree c z] at q; cases q)⟩
  refine (I.hok b u e).stay (fun c v B q=>?_) (fun _ q=>q) fun _ _ q=>q
  obtain ⟨U,K,Q⟩:c≠x/\c≠T/\c∉frs X.stack:=by
   rcases B with rfl | B
   .exact E _ _ e
   .exact E _ _ B
  exact keep c v U K Q q
def Trd (h:Heap) (x T:Addr) (C fl:Value):Prop :=
 ∃ oe vs oT ts a0,h.get? x=some oe/\(oe.cls=C/\vs[0]?=some a0)/\oe.data=.fields vs/\vs[1]?=some (.ref T)/\T≠x/\h.get? T=some oT/\oT.data=.fields ts/\ts[3]?=some fl
def hid (s:Shared) (X:Cx) (x T:Addr):Heap:=W.hideAll s.heap (x :: T :: frs X.stack)
theorem ņ:(hid s X x T).StaysIn s.heap:=fun _ _ e=>W.of_hideAll _ e
theorem yso:(hid s X x T).get? x=none:=W.hideAll_none _ (.head _)
theorem vbq:(hid s X x T).get? T=none:=W.hideAll_none _ (.tail _ (.head _))
theorem Ń (I:Inv X pins σ H s):s.heap.FunFrames (hid s X x T) X.stack :=
 W.funFrames_hide I.stack fun b d a c=>.tail _ (.tail _ (List.mem_filterMap.mpr ⟨b,d,c⟩))
theorem ybg {C fl:Value} (t:Trd s.heap x T C fl):∃ a0,s.heap.TracedAtW (hid s X x T) x C a0 fl:=by
 obtain ⟨d,a,f,j,a0,g,b,h,l,i,c,e,k⟩:=t;exact ⟨a0,d,a,T,f,j,g,b,h,l,vbq,i,c,e,k⟩
theorem uz {C a0 fl:Value} (I:Inv X pins σ H s) (hx:Fy X pins H x) (hT:Fy X pins H T) (k1:(hid s X x T).StaysIn h') (k2:h'.FunFrames (hid s X x T) X.stack) (k3:h'.TracedAtW (hid s X x T) x C a0 fl)
  (k4:∀ b o,s.heap.get? b=some o->(∀ vs,o.data≠.fields vs)->∃ sl,h'.get? b=some { o with slots:=sl }) :
  Inv X pins σ H { s with heap:=h' }/\∃ T',Fy X pins H T'/\Trd h' x T' C fl:=by
 refine ⟨I.fly hx hT (fun b o u w k e=>k1 b o (W.hideAll_get _ e fun z=>?_)) fun b o h e=>?_,?_⟩
 .rcases bW.mp z with z | z
  .exact u z
  .rcases bW.mp z with z | z
   .exact w z
   .exact k z
 .obtain ⟨_,p,a,c⟩:=I.stack.mem h;rw [e] at a; cases a;exact k4 b o e c
 .obtain ⟨y,vs,T',i,n,t,v,j,A,l,f,d,g,r⟩:=k3;refine ⟨T',?_,y,vs,i,n,a0,t,v,j,A,f,d,g,r⟩;by_cases q:T'=T
  .rw [q]; exact hT
  .cases e:s.heap.get? T' with
   | none=>exact yev I e (I.hok.none_of e)
   | some o =>
    have z:T'∈frs X.stack:=Classical.byContradiction fun z=>by
     have:=W.hideAll_get (x :: T :: frs X.stack) e (fun m=>by
      rcases bW.mp m with m | m
      .exact f m
      .rcases bW.mp m with m | m
       .exact q m
       .exact z m)
     rw [show (W.hideAll s.heap (x :: T :: frs X.stack)).get? T'=none from l] at this;cases this
    obtain ⟨_,p,a,c⟩:=k2.mem z;rw [d] at a; cases a;exact absurd g (c _)
end
def CXe (P:Program) (w:World):CXT:=fun outer H s E e s'=>∃ x T C H',e=.ref x/\s'.os=s.os/\AllBare s'.gens/\Un (frs outer) [] H H' s.heap s'.heap/\HOk P w H' s'.heap /\
 (H' x=none/\s.heap.get? x=none)/\(H' T=none/\s.heap.get? T=none)/\Trd s'.heap x T C .none/\E C none H'
def ź (X:Cx) (Ex:St->XK):Prop:=∀ (pins:List (Addr × Obj)) (σ:St) (H:Hp) (s':Shared) (x T:Addr) (C:Value),Inv X pins σ H s'->Fy X pins H x->Fy X pins H T->Trd s'.heap x T C .none->Ex σ C none H->X.xe (.ref x) s'
theorem y0 {w:World} {K:W.Frag} {mg:Str->Option Value} {base:Heap} {N:List Str} {f:Addr} {A:Around} {outer:List Env} {s:Shared} {H:Hp} {E:XK} :
  ź (vz (CXe P w) P w K mg base N qual scope f cd A outer s H E) (fun _=>E):=by
 intro c σ e p x T C I i n j q;show wpAny _ _ (leaving _ _) _ _ _;obtain ⟨y,k⟩:=ybg (X:=vz (CXe P w) P w K mg base N qual scope f cd A outer s H E) j;refine wpAny_leaving_nextW (base:=hid p (vz (CXe P w) P w K mg base N qual scope f cd A outer s H E) x T) (L:=s.heap.objs.size) I.ok.frames (Ń I) rfl k ņ yso fun v ⟨m,r,u,l⟩=>?_;obtain ⟨d,o,g,t⟩:=uz I i n m r u l;have a:∀ {b},Fy (vz (CXe P w) P w K mg base N qual scope f cd A outer s H E) c e b->e b=none/\s.heap.get? b=none:=fun h=>⟨h.1,h.2.2.2.1.resolve_left (by intro z; cases z)⟩;exact ⟨x,o,C,e,rfl,d.os,d.bare,d.base,d.hok,a i,a g,t,q⟩
theorem ylj {w:World} {K:W.Frag} {mg:Str->Option Value} {base:Heap} {N:List Str} {f:Addr} {A:Around} {outer:List Env} {s:Shared} {H:Hp} {E:XK}
  {pins:List (Addr × Obj)} {σ:St} {H1:Hp} {s1:Shared} {h':Heap} {x:Addr} {C:Value} {vs:List Value} (I:Inv (vz (CXe P w) P w K mg base N qual scope f cd A outer s H E) pins σ H1 s1) (m:Heap.MadeExcOf s1.heap h' x C vs) (q:E C none H1) :
  (vz (CXe P w) P w K mg base N qual scope f cd A outer s H E).xe (.ref x) { s1 with heap:=h' }:=by
 obtain ⟨t,n,_,_⟩:=m.there;have d:Fy (vz (CXe P w) P w K mg base N qual scope f cd A outer s H E) pins H1 x:=yev I m.new (I.hok.none_of m.new);have g:Inv (vz (CXe P w) P w K mg base N qual scope f cd A outer s H E) pins σ H1 { s1 with heap:=h' }:=I.kept (t':=s1.toks) m.keeps;show wpAny _ _ (leaving _ _) _ _ _
 refine wpAny_leaving_firstW (base:=hid { s1 with heap:=h' } (vz (CXe P w) P w K mg base N qual scope f cd A outer s H E) x x) (L:=s.heap.objs.size) (a0:=.ref t) g.ok.frames (Ń g) rfl n ņ yso rfl rfl rfl fun k ⟨l,p,o,j⟩=>?_
 obtain ⟨c,i,e,t'⟩:=uz g d d l p o j;have a:∀ {b},Fy (vz (CXe P w) P w K mg base N qual scope f cd A outer s H E) pins H1 b->H1 b=none/\s.heap.get? b=none:=fun h=>⟨h.1,h.2.2.2.1.resolve_left (by intro z; cases z)⟩;exact ⟨x,i,C,H1,rfl,c.os,c.bare,c.base,c.hok,a d,a e,t',q⟩
def ymd (sp:Sp) (dvs:List V) (Ex:St->XK) (t:TA):TE:=fun σ H Q=>t σ H fun vs H1=>sp (vs++dvs) H1 Q (Ex σ)
def ybi (C:Addr) (m:Str) (sp:Sp) (dvs:List V) (Ex:St->XK) (ta:TE) (t:TA):TE:=fun σ H Q=>ta σ H fun x H1=>∃ a dx fs,x=.ref a/\H1 a=some (.ins C dx fs)/\fs.lookup m=none /\
 t σ H1 fun vs H2=>sp (x :: (vs++dvs)) H2 Q (Ex σ)
def ynh (C:Addr) (sp:Sp) (dvs:List V) (Ex:St->XK) (t:TA):TE:=fun σ H Q=>t σ H fun vs H1=>∀ x dx,H1 x=none->H1 dx=none->dx≠x ->
 sp (.ref x :: (vs++dvs)) (upd (upd H1 dx (.own x)) x (.ins C dx [])) (fun v H2=>v=.non/\Q (.ref x) H2) (Ex σ)
section
variable {X:Cx} {k:Nat} {f:Addr} {fd:FuncData} {ps:List Str} {sp:Sp} {dvs:List V} {ds:List Value} {Ex:St->XK} {x m:Str} {p pos apos:Pos} {e o:Expr} {es:List Expr} {ta:TE} {t:TA}
theorem Inv.came {σ:St} {H:Hp} {s s':Shared} {v:Value} (I:Inv X pins σ H s) (hc:ź X Ex) (h:CXe X.prog X.w X.stack H s (Ex σ) v s'):X.xe v s':=by
 obtain ⟨y,T,D,f,rfl,j,a,i,c,d,e,g,q⟩:=h;exact hc pins σ f s' y T D (I.call' j i c a fun b z=>absurd z (by simp)) (yev I d.2 d.1) (yev I e.2 e.1) g q
theorem yhy {σ:St} {H:Hp} {s:Shared} {Q:VK} {us:List Value} {vs:List V} (F:wb X.prog X.w X.K X.mg X.base (CXe X.prog X.w) k f fd ps sp) (hr:jg k X.A) (hb:uc X.K fd ps ds) (hd:wx dvs ds) (hc:ź X Ex)
  (I:Inv X pins σ H s) (r:wx vs us) (h:sp (vs++dvs) H Q (Ex σ)):wpAny (model X.prog X.w) X.A (call (.ref f) us) (EP X pins σ Q) X.xe s:=by
 have b:wx (vs++dvs) (us++ds):=r.append hd;have c:(us++ds).length=ps.length:=by rw [<- b.length]; exact F.len _ _ _ _ h
 refine wpAny_call (codeAny_mono (F.run X.A X.stack s H ⟨us,[]⟩ (us++ds) (vs++dvs) Q (Ex σ) hr I.env0 (hb s us I.kIn c) b h) fun r d a=>?_)
 cases r with
 | error e=>exact I.came hc a
 | ok fl =>
  cases fl with
  | ret u=>exact I.after a
  | next=>exact False.elim a
  | brk=>exact False.elim a
  | cont=>exact False.elim a
theorem vo (F:wb X.prog X.w X.K X.mg X.base (CXe X.prog X.w) k f fd ps sp) (hr:jg k X.A) (hg:Gl X x) (hm:X.mg x=some (.ref f)) (hk:W.keepIn X.K (.ref f)=true) (hb:uc X.K fd ps ds) (hd:wx dvs ds) (hc:ź X Ex)
  (ha:PA X (e :: es) t) (hdb:(x == ("__debug__":Str))=false:=by decide) (he:starEach (e :: es) X.env=(false,eval e X.env) :: starEach es X.env:=by rfl) (hpl:(backTo pos (starEach es X.env)).any (·.1)=false:=by rfl) :
  PE X (.Call (.Name x p) (e :: es) [] pos) (ymd sp dvs Ex t):=by
 refine .mk fun a s σ H Q I h=>?_;refine wpAny_Call_Name_kw (zj I hg hm ?_ hdb);refine W.callWith_K (h₀:=X.base) I.ok.mod.kin hk (thn (ha pos a s σ H _ I h) fun d i ⟨c,g,b,r,q⟩=>⟨b.kIn,?_⟩) he hpl;exact yhy F hr hb hd hc b r q
theorem vi {pl:Sem Bool} (he:PE X o ta) (c:Cls X.K C) (hm:yts X.K C m f) (F:wb X.prog X.w X.K X.mg X.base (CXe X.prog X.w) k f fd ps sp) (hr:jg k X.A) (hb:uc X.K fd ps ds) (hd:wx dvs ds) (hc:ź X Ex) (ha:PA X (e :: es) t)
  (hst:starEach (e :: es) X.env=(false,eval e X.env) :: starEach es X.env:=by rfl) (hpl:(backTo pos (starEach es X.env)).any (·.1)=false:=by rfl)
  (ht:eval (.Call (.Attribute o m apos) (e :: es) [] pos) X.env=(do
   let ov <- eval o X.env
   standAt apos.atName
   let (f,first) <- holding [ov] (getMethod ov m pl)
   callWith pos f first (backTo pos (starEach (e :: es) X.env)) (backToKw pos (keywordEach [] X.env))):=by rfl) :
  PE X (.Call (.Attribute o m apos) (e :: es) [] pos) (ybi C m sp dvs Ex ta t):=by
 refine .mk fun b s σ H Q I h=>?_;refine W.methodCall_KW (pl:=pl) (thn (he b s σ H _ I h) fun u v h'=>?_) ht;obtain ⟨x,p,g,y,a,D,E,i,j,l,q⟩:=h';subst i;obtain rfl:u=Value.ref a:=y;refine Ã g j c hm l ?_
 refine W.callWith_K (first:=[.ref a]) (h₀:=X.base) I.ok.mod.kin hm.kp (thn (ha pos b v σ p _ g q) fun us z ⟨vs,B,d,r,n⟩=>⟨d.kIn,?_⟩) hst hpl
 exact yhy (us:=.ref a :: us) (vs:=.ref a :: vs) F hr hb hd hc d (.cons rfl r) n
theorem yg3 {σ:St} {H:Hp} {s:Shared} {Q:VK} {us:List Value} {vs:List V} (M:Mk X.K C f) (F:wb X.prog X.w X.K X.mg X.base (CXe X.prog X.w) k f fd ps sp) (hr:jg (k+1) X.A) (hb:uc X.K fd ps ds) (hd:wx dvs ds)
  (hc:ź X Ex) (I:Inv X pins σ H s) (r:wx vs us)
  (h:∀ x dx,H x=none->H dx=none->dx≠x->sp (.ref x :: (vs++dvs)) (upd (upd H dx (.own x)) x (.ins C dx [])) (fun v H2=>v=.non/\Q (.ref x) H2) (Ex σ)) :
  wpAny (model X.prog X.w) X.A (call (.ref C) us) (EP X pins σ Q) X.xe s:=by
 have c:=h (s.heap.objs.size+1) s.heap.objs.size (I.hok.fresh (Nat.le_succ _)) (I.hok.fresh (bL _)) (ci (dh _));have b:=Inv.made (C:=C) I;have d:wx (V.ref (s.heap.objs.size+1) :: (vs++dvs)) (Value.ref (s.heap.objs.size+1) :: (us++ds)):=.cons rfl (r.append hd)
 have g:(Value.ref (s.heap.objs.size+1) :: us++ds).length=ps.length:=by
  have e:=d.length;rw [F.len _ _ _ _ c] at e;exact e.symm
 refine wpAny_call (yd7 (f:=f) I.kIn M.makes M.init (beq_iff_eq.mp M.fn) (codeAny_mono (F.run _ X.stack _ _ ⟨Value.ref (s.heap.objs.size+1) :: us,[]⟩ (Value.ref (s.heap.objs.size+1) :: (us++ds)) _ _ (Ex σ) (hr.make C us [])
  (b.env0.make C us []) (hb _ (Value.ref (s.heap.objs.size+1) :: us) b.kIn g) d c) fun r o a=>?_))
 cases r with
 | error e=>exact b.came hc a
 | ok fl =>
  cases fl with
  | ret u =>
   obtain ⟨v,i,j,l,n,m⟩:=b.after a;subst n;exact ⟨l,⟨V.ref (s.heap.objs.size+1),i,j,rfl,m⟩⟩
  | next=>exact False.elim a
  | brk=>exact False.elim a
  | cont=>exact False.elim a
theorem uf (M:Mk X.K C f) (F:wb X.prog X.w X.K X.mg X.base (CXe X.prog X.w) k f fd ps sp) (hr:jg (k+1) X.A) (hg:Gl X x) (hm:X.mg x=some (.ref C)) (hb:uc X.K fd ps ds) (hd:wx dvs ds) (hc:ź X Ex)
  (ha:PA X (e :: es) t) (hdb:(x == ("__debug__":Str))=false:=by decide) (he:starEach (e :: es) X.env=(false,eval e X.env) :: starEach es X.env:=by rfl) (hpl:(backTo pos (starEach es X.env)).any (·.1)=false:=by rfl) :
  PE X (.Call (.Name x p) (e :: es) [] pos) (ynh C sp dvs Ex t):=by
 refine .mk fun a s σ H Q I h=>?_;refine wpAny_Call_Name_kw (zj I hg hm ?_ hdb);refine W.callWith_K (h₀:=X.base) I.ok.mod.kin M.kp (thn (ha pos a s σ H _ I h) fun d i ⟨c,g,b,r,q⟩=>⟨b.kIn,?_⟩) he hpl;exact yg3 M F hr hb hd hc b r q
end
theorem PS.nox {X:Cx} {st:Stmt} {t:TS} (h:PS X.nox st t):PS X st t:=.mk fun a s σ H D I b =>
 cT (h a s σ H D (I.wish _) b) (fun _ _ q=>q.unwish) fun _ _ z=>False.elim z
section
variable {w:World} {K:W.Frag} {mg:Str->Option Value} {base:Heap}
theorem wc {X:Cx}:ź X (fun _ _ _ _=>False):=fun _ _ _ _ _ _ _ _ _ _ _ q=>q.elim
theorem Fun.okE {x:Str} {st:Stmt} {f:Addr} {fd:FuncData} {N ps:List Str} {k:Nat} {sp:Sp} (F:Fun K x qual st f fd) (S:yk N ps (yg st)) (len:∀ vs H Q E,sp vs H Q E->vs.length=ps.length)
  (hbody:∀ (cdv:Value) (A:Around) (outer:List Env) (s:Shared) (H:Hp) (vs:List V) (Q:VK) (E:XK),jg k (A.deeper (envOfC qual (yg st) s.heap.objs.size f cdv))->sp vs H Q E ->
   ∃ t,PSs (vz (CXe P w) P w K mg base N qual (yg st) f cdv A outer s H E) (wn st) t/\t { nx:=fun _ H'=>Q .non H',rt:=Q } (Í N vs) H):wb P w K mg base (CXe P w) (k+1) f fd ps sp:=by
 obtain ⟨h,i,kV,g,l,j,cdv,m,e,rfl,c,a⟩:=F.ex;exact yll c a S len fun A outer s H vs Q E d b=>hbody cdv A outer s H vs Q E d b
end
abbrev bmV:List Value:=[.type "ValueError",.type "Exception",.type "BaseException",.type "object"]
abbrev XMk (K:W.Frag) (C:Addr):Prop:=W.excIn K C bmV "ValueError.__new__"=true
theorem ypk {K:W.Frag} {h:Heap} {bmB:List Value} {newId:String} (X:K.In h) (q:W.excIn K C bmB newId=true) :
  ∃ bm N nm qn bs hdct sn sub ab col dd k0 k1 k2 k3 k5 mN,h.get? C=some (excClassObj nm qn C N bs bm hdct sn sub ab col dd k0 k1 k2 k3 k5 newId)/\h.Ns N mN/\mN "__init__"=none/\OwnTail h bmB bm:=by
 unfold W.excIn at q
 split at q
 .rename_i dd cd sl ho
  split at q
  .rename_i C' bm k0 k1 k2 k3 n k5 hm d
   simp only [cq,beq_iff_eq,Bool.not_eq_true'] at q;obtain ⟨⟨⟨⟨⟨rfl,rfl⟩,a⟩,g⟩,b⟩,c⟩:=q;obtain ⟨nm,bs,e,f,qn,i,sn,sub,ab,col,j⟩:=cd;dsimp only at hm a b c;subst hm a;obtain ⟨l⟩:=sl;have d:l=[k0,k1,k2,k3,some (.builtin n),k5]:=d;subst d;exact ⟨bm,f,nm,qn,bs,i,sn,sub,ab,col,dd,k0,k1,k2,k3,k5,_,X _ _ ho,.of_isNs (W.isNs_of_in X b),W.nsMap_none_of_in X b c,W.tail_of_in X g⟩
  .cases q
 .cases q
def ynt (E:XK) (C:Addr) (t:TA):TS:=fun _ σ H=>t σ H fun vs H1=>vs.length <= sizeLine/\E (.ref C) none H1
theorem w8 {w:World} {K:W.Frag} {mg:Str->Option Value} {base:Heap} {N:List Str} {f:Addr} {A:Around} {outer:List Env} {s:Shared} {H:Hp} {E:XK}
  {C:Addr} {x:Str} {np cpos pos:Pos} {e₀:Expr} {ji:List Expr} {t:TA} (hg:Gl (vz (CXe P w) P w K mg base N qual scope f cd A outer s H E) x) (hm:mg x=some (.ref C)) (hC:XMk K C)
  (ha:PA (vz (CXe P w) P w K mg base N qual scope f cd A outer s H E) (e₀ :: ji) t)
  (he:starEach (e₀ :: ji) (envOfC qual scope s.heap.objs.size f cd)=(false,eval e₀ (envOfC qual scope s.heap.objs.size f cd)) :: starEach ji (envOfC qual scope s.heap.objs.size f cd):=by rfl)
  (hplain:(backTo cpos (starEach ji (envOfC qual scope s.heap.objs.size f cd))).any (·.1)=false:=by rfl) (hdb:(x == ("__debug__":Str))=false:=by decide) :
  PS (vz (CXe P w) P w K mg base N qual scope f cd A outer s H E) (.Raise (some (.Call (.Name x np) (e₀ :: ji) [] cpos)) none pos) (ynt E C t):=by
 refine .mk fun a p σ o D I h=>?_;obtain ⟨j,n,nm,q,bs,hdct,sn,sub,ab,col,dd,k0,k1,k2,k3,k5,mN,g,l,d,T⟩:=ypk I.mod.kin hC;refine wpAny_Raise_call_subT (C:=C) (nm:=nm) (q:=q) (N:=n) (bs:=bs) (bm:=j) (hdct:=hdct) (sn:=sn) (sub:=sub) (ab:=ab) (col:=col) (dd:=dd) (k0:=k0) (k1:=k1) (k2:=k2) (k3:=k3) (k5:=k5)
  F.excBase_ValueError (mN:=mN) (T.hasType F.excBase_ValueError.hasBase) (I.ok.hd rfl) (by
   show (backTo cpos (starEach (e₀ :: ji) (envOfC qual scope s.heap.objs.size f cd))).any (·.1)=false;rw [he]; show (false || (backTo cpos (starEach ji (envOfC qual scope s.heap.objs.size f cd))).any (·.1))=false; rw [hplain]; rfl) d (zj I hg hm ⟨rfl,?_⟩ hdb)
 have i:=ha cpos a p σ o _ I h;have c:starEach (e₀ :: ji) (vz (CXe P w) P w K mg base N qual scope f cd A outer s H E).env=(false,eval e₀ (vz (CXe P w) P w K mg base N qual scope f cd A outer s H E).env) :: starEach ji (vz (CXe P w) P w K mg base N qual scope f cd A outer s H E).env:=he;rw [c] at i ⊢;refine Calls.evalArgs_plain (cT i (by rintro v s₂ ⟨B,z,b,r,u,k⟩; exact ⟨rfl,by rw [<- r.length]; exact u,b.bk _ _ g,l.keeps b.bk,T.keeps b.bk,fun G y m=>ylj b m k⟩) fun _ _ y=>y)
section
variable {X:Cx} {σ:St} {H:Hp} {s:Shared} {x T:Addr}
abbrev Cx.pnd (X:Cx) (pn:List (Addr × Obj)):Cx:={ X with pn:=pn }
theorem Cx.Ok.pnd (ok:X.Ok) (pn:List (Addr × Obj)):(X.pnd pn).Ok :=
 ⟨ok.mod,ok.kind,ok.glob,ok.blt,ok.above,ok.inj,ok.has,ok.cab,ok.hd,ok.frames,ok.stk,ok.exf,ok.bs,ok.bsz,ok.noex,ok.exfs,ok.funs,ok.frf⟩
theorem Cx.Ok.unpnd {pn:List (Addr × Obj)} (ok:(X.pnd pn).Ok):X.Ok :=
 ⟨ok.mod,ok.kind,ok.glob,ok.blt,ok.above,ok.inj,ok.has,ok.cab,ok.hd,ok.frames,ok.stk,ok.exf,ok.bs,ok.bsz,ok.noex,ok.exfs,ok.funs,ok.frf⟩
theorem Inv.pnd (I:Inv X pins σ H s):Inv (X.pnd (X.pn++pins)) [] σ H s :=
 ⟨I.ok.pnd _,I.os,I.bare,I.base,I.loc,I.cell,I.free,I.freeC,fun p a=>I.pin p (by simpa using a),I.hok,I.len⟩
theorem Inv.unpnd {ps:List (Addr × Obj)} (I:Inv (X.pnd (X.pn++pins)) ps σ H s):Inv X pins σ H s :=
 ⟨I.ok.unpnd,I.os,I.bare,I.base,I.loc,I.cell,I.free,I.freeC,fun p a=>I.pin p (db _ a),I.hok,I.len⟩
def XT (Y:Cx) (Ex:St->XK) (e:Value) (s':Shared):Prop:=∃ pins σ H x T C,e=.ref x/\Inv Y pins σ H s'/\Fy Y pins H x/\Fy Y pins H T/\Trd s'.heap x T C .none/\Ex σ C none H
abbrev Cx.tr (X:Cx) (pn:List (Addr × Obj)) (Ex:St->XK):Cx:=(X.pnd pn).wish (XT (X.pnd pn) Ex)
theorem jb {pn:List (Addr × Obj)} {Ex:St->XK}:ź (X.tr pn Ex) Ex:=fun a σ H _ x T C I c b tr q=>⟨a,σ,H,x,T,C,rfl,I.unwish,c,b,tr,q⟩
abbrev Cx.su (X:Cx) (pn:List (Addr × Obj)) (x:Addr):Cx:={ X with A:=X.A.mark (some (.ref x)),calm:=false,pn:=pn,xe:=fun _ _=>False }
theorem Inv.su (I:Inv X pins σ H s) (x:Addr):Inv (X.su (X.pn++pins) x) [] σ H s :=
 ⟨⟨I.ok.mod,I.ok.kind,I.ok.glob,I.ok.blt,I.ok.above,I.ok.inj,I.ok.has,I.ok.cab,fun z=>(by cases z),I.ok.frames,I.ok.stk,I.ok.exf,I.ok.bs,I.ok.bsz,I.ok.noex,I.ok.exfs,I.ok.funs,I.ok.frf⟩,
  I.os,I.bare,I.base,I.loc,I.cell,I.free,I.freeC,fun p a=>I.pin p (by simpa using a),I.hok,I.len⟩
theorem Inv.unsu (I:Inv (X.su (X.pn++pins) x) [] σ H s) (ok:X.Ok):Inv X pins σ H s :=
 ⟨ok,I.os,I.bare,I.base,I.loc,I.cell,I.free,I.freeC,fun p a=>I.pin p (db _ a),I.hok,I.len⟩
theorem Inv.track {o:HO} (I:Inv X pins σ H s) (hx:Fy X pins H x) (ob:ww X.prog X.w (upd H x o) s.heap x o):Inv X pins σ (upd H x o) s:=by
 have d:∀ {b u},H b=some u->b≠x:=fun {b u} e z=>by rw [z,hx.1] at e; cases e
 refine ⟨I.ok,I.os,I.bare,⟨I.base.keep,I.base.slot,fun b ob e n g=>?_,I.base.there,fun b f e=>?_,fun b ob u e=>?_,fun b i e=>?_⟩,I.loc,I.cell,?_,fun y c e=>?_,fun p h=>?_,fun b u e=>?_,I.len⟩
 .rw [ym ?_]
  .exact I.base.free b ob e n g
  .rintro rfl;rcases hx.2.2.2.1 with z | z
   .exact g z
   .rw [e] at z; cases z
 .have q:=I.base.tups b f e;rw [ym (d q)]; exact q
 .have q:=I.base.frzs b ob u e;rw [ym (d q)]; exact q
 .obtain ⟨a,q⟩:=I.base.tbls b i e;exact ⟨a,by rw [ym (d q)]; exact q⟩
 .rw [ym (Ne.symm hx.2.1)]; exact I.free
 .rw [ym (hx.2.2.2.2.1 y c e)]; exact I.freeC y c e
 .obtain ⟨e,n,q⟩:=I.pin p h;exact ⟨e,by rw [ym (hx.2.2.2.2.2 p h)]; exact n,q⟩
 .by_cases hb:b=x
  .subst hb;rw [yc] at e;cases e;exact ob
  .rw [ym hb] at e;exact (I.hok b u e).stay (fun _ _ _ q=>q) (fun c q=>by rw [ym (d q)]; exact q) fun c f q=>by rw [ym (d q)]; exact q
theorem Inv.unbind {A:Around} {i:Nat} {n:Str} {pos:Pos} {Q:Unit->Shared->Prop} (I:Inv X pins σ H s) (hN:X.N.Nodup) (hi:X.N[i]?=some n) (hl:X.env.scope.names.lookup n=some .local)
  (h:∀ s',Inv X pins (σ.set i none) H s'->Q () s'):wpAny M A (do bindName X.env n .none; unbindBehindTheSuite X.env n pos) Q E s:=by
 obtain ⟨m,D,B⟩:=id I.loc;obtain ⟨Y,_,_,O,_⟩:=id D;have a:∀ b o,X.s₀.heap.get? b=some o->b≠X.env.locals:=fun b o e=>ci (ck (bQ e) I.ok.above);refine wpAny_nameGoes_keeps hl D (by rw [I.ok.kind]; rfl) fun W v x f=>h _ ⟨I.ok,I.os,I.bare,⟨fun b o e n w l=>?_,fun b o e n w l=>?_,I.base.free,fun b o e l=>?_,I.base.tups,I.base.frzs,I.base.tbls⟩,⟨_,x,fun j y G g t K=>?_⟩,fun y c e=>?_,I.free,I.freeC,fun p P=>?_,fun b u e=>?_,by simpa using I.len⟩
 .exact (f.2 b (a b o e)).trans (I.base.keep b o e n w l)
 .obtain ⟨R,g⟩:=I.base.slot b o e n w l;exact ⟨R,(f.2 b (a b o e)).trans g⟩
 .obtain ⟨L,g⟩:=I.base.there b o e l;exact ⟨L,(f.2 b (a b o e)).trans g⟩
 .by_cases hj:j=i
  .subst hj;have:j < σ.length:=by rw [I.len]; exact (cM.mp hi).1
   rw [List.getElem?_set_self this] at t;cases t
  .rw [List.getElem?_set_ne (Ne.symm hj)] at t;obtain ⟨S,T,q⟩:=B j y G g t K;refine ⟨S,T,?_⟩;rcases q with ⟨k,e⟩ | ⟨k,c,e,z⟩
   .have:y≠n:=fun z=>hj (Ű hN g (z ▸ hi));exact .inl ⟨k,by simp [this,e]⟩
   .exact .inr ⟨k,c,e,z.sameBut f (I.cne y c e)⟩
 .obtain ⟨F,z⟩:=I.cell y c e;exact ⟨F,z.sameBut f (I.cne y c e)⟩
 .obtain ⟨e,U,C,J,d⟩:=I.pin p P;exact ⟨(f.2 p.1 C).trans e,U,C,J,d⟩
 .refine (I.hok b u e).stay (fun c F r q=>(f.2 c ?_).trans q) (fun _ q=>q) fun _ _ q=>q;rintro rfl;rcases r with rfl | r
  .rw [I.free] at e; cases e
  .rw [I.free] at r; cases r
end
variable {X:Cx}
def Á.un (D:Á) (i:Nat):Á:=⟨fun σ H=>D.nx (σ.set i none) H,D.rt,fun σ H=>D.bk (σ.set i none) H,fun σ H=>D.ct (σ.set i none) H⟩
section
variable {σ:St} {H:Hp} {Q:VK} {tr:TA} {ta:TE} {nx:St->Hp->Prop} {rt:VK} {bk ct:St->Hp->Prop} {ts:TS}
theorem ypy {sp:Sp} {dvs:List V} {Ex:St->XK} (h:tr σ H fun vs H1=>sp (vs++dvs) H1 Q (Ex σ)):ymd sp dvs Ex tr σ H Q:=h
theorem ŷ {m:Str} {sp:Sp} {dvs:List V} {Ex:St->XK} (h:ta σ H fun x H1=>∃ a dx fs,x=.ref a/\H1 a=some (.ins C dx fs)/\fs.lookup m=none/\tr σ H1 fun vs H2=>sp (x :: (vs++dvs)) H2 Q (Ex σ)):ybi C m sp dvs Ex ta tr σ H Q:=h
theorem ypl {sp:Sp} {dvs:List V} {Ex:St->XK} (h:tr σ H fun vs H1=>∀ x dx,H1 x=none->H1 dx=none->dx≠x->sp (.ref x :: (vs++dvs)) (upd (upd H1 dx (.own x)) x (.ins C dx [])) (fun v H2=>v=.non/\Q (.ref x) H2) (Ex σ)):ynh C sp dvs Ex tr σ H Q:=h
theorem yp9 {E:XK} {D:Á} (h:tr σ H fun vs H1=>vs.length <= sizeLine/\E (.ref C) none H1):ynt E C tr D σ H:=h
theorem yzs {K:W.Frag} {x:Addr} {cv:V} {c:Value} {k:Bool} (hx:H x=some (.ext (Ō x C))) (cl:XCls K C) (r:xh cv c) (u:∀ u,xh cv u->u=c) (e:W.kitOne K (.ref C) c=some k) (h:Q (.bl k) H):ytl K [.ref x,cv] H Q:=⟨x,cv,C,c,k,rfl,r,u,hx,cl,e,h⟩
theorem yl7 {K:W.Frag} {x:Addr} {k:Bool} (hx:H x=some (.ext (Ō x C))) (cl:XCls K C) (e:W.kitOne K (.ref C) (.ref D)=some k) (h:Q (.bl k) H):ytl K [.ref x,.ref D] H Q:=yzs hx cl rfl (fun _ z=>z) e h
theorem yu1 {K:W.Frag} {x:Addr} {n:String} {k:Bool} (hx:H x=some (.ext (Ō x C))) (cl:XCls K C) (e:W.kitOne K (.ref C) (.type n)=some k) (h:Q (.bl k) H):ytl K [.ref x,.ty n] H Q:=yzs hx cl rfl (fun _ z=>z) e h
end
section
variable {κ:Type} [DecidableEq κ]
def zb (kvs:List (κ × V)) (k:κ):Option V:=(kvs.find? fun kv=>decide (kv.1=k)).map (·.2)
def ż (kvs:List (κ × V)) (k:κ) (v:V):List (κ × V) :=
 if (kvs.any fun kv=>decide (kv.1=k))=true then kvs.map (fun kv=>if kv.1=k then (kv.1,v) else kv) else kvs++[(k,v)]
def χ (kvs:List (κ × V)) (k:κ):List (κ × V):=kvs.filter fun kv=>decide (kv.1≠k)
theorem xu {p:κ × V} {r:List (κ × V)} {k:κ} (e:p.1=k):zb (p :: r) k=some p.2:=by simp [zb,List.find?_cons,e]
theorem xt {p:κ × V} {r:List (κ × V)} {k:κ} (e:¬ p.1=k):zb (p :: r) k=zb r k:=by simp [zb,List.find?_cons,e]
theorem jc (k:κ):∀ kvs:List (κ × V),(kvs.any fun kv=>decide (kv.1=k))=(zb kvs k).isSome
 | []=>rfl
 | p :: r=>by
  rw [List.any_cons];by_cases e:p.1=k
  .simp only [xu e,bR e,Bool.true_or,Option.isSome_some]
  .rw [xt e,bV e,Bool.false_or]; exact jc k r
theorem ydq (k j:κ) (y:V):∀ kvs:List (κ × V),zb (kvs.map fun kv=>if kv.1=k then (kv.1,y) else kv) j=(zb kvs j).map fun x=>if j=k then y else x
 | []=>rfl
 | p :: r=>by
  have a:=ydq k j y r;rw [cA];by_cases h:p.1=k
  .rw [if_pos h];by_cases e:p.1=j
   .rw [xu (p:=(p.1,y)) e,xu e,cY,if_pos (e.symm.trans h)]
   .rw [xt (p:=(p.1,y)) e,xt e,a]
  .rw [if_neg h];by_cases e:p.1=j
   .rw [xu (p:=p) e,xu e,cY,if_neg (fun z=>h (e.trans z))]
   .rw [xt (p:=p) e,xt e,a]
theorem ya6 (k j:κ) (y:V):∀ kvs:List (κ × V),zb kvs k=none->zb (kvs++[(k,y)]) j=if j=k then some y else zb kvs j
 | [],_=>by
  by_cases e:k=j
  .rw [if_pos e.symm]; exact xu (p:=(k,y)) e
  .rw [if_neg (fun z=>e z.symm)]; exact xt (p:=(k,y)) e
 | p :: r,hn=>by
  rw [List.cons_append];have a:¬ p.1=k:=fun z=>by rw [xu z] at hn; cases hn
  rw [xt a] at hn;have b:=ya6 k j y r hn;by_cases e:p.1=j
  .rw [xu e,xu e,if_neg (fun z=>a (e.trans z))]
  .rw [xt e,xt e,b]
theorem Ŭ (kvs:List (κ × V)) (k j:κ) (y:V):zb (ż kvs k y) j=if j=k then some y else zb kvs j:=by
 unfold ż;by_cases a:(kvs.any fun b=>decide (b.1=k))=true
 .rw [if_pos a,ydq];rw [jc] at a;by_cases e:j=k
  .obtain ⟨x,c⟩:=Option.isSome_iff_exists.mp a;rw [if_pos e,e,c,cY,if_pos rfl]
  .rw [if_neg e]
   cases zb kvs j with
   | none=>rfl
   | some x=>rw [cY,if_neg e]
 .rw [if_neg a];refine ya6 k j y kvs ?_;rw [jc] at a
  cases q:zb kvs k with
  | none=>rfl
  | some x=>rw [q] at a; exact (a rfl).elim
theorem î (kvs:List (κ × V)) (k:κ) (v:V):(ż kvs k v).length <= kvs.length+1:=by
 unfold ż
 split
 .rw [bH]; omega
 .rw [bP,cy,List.length_nil]; omega
theorem â {kvs:List (κ × V)} {k:κ} (v:V) (h:zb kvs k=none):ż kvs k v=kvs++[(k,v)]:=by
 unfold ż;rw [jc,h];exact if_neg (by decide)
theorem ybp.isSome_eq {o:Option V} {u:Option Value} (r:ybp o u):o.isSome=u.isSome:=by
 cases o with
 | none=>cases u with
  | none=>rfl
  | some _=>exact (show False from r).elim
 | some _=>cases u with
  | none=>exact (show False from r).elim
  | some _=>rfl
theorem KV.val {kvs:List (κ × V)} {vs:List (κ × Value)} (r:KV kvs vs) (k:κ):ybp (zb kvs k) (valueAt vs k):=by
 unfold KV at r
 induction r with
 | nil=>exact True.intro
 | @cons p q ps qs h t ih =>
  obtain ⟨c,d⟩:=h;by_cases e:p.1=k
  .have a:q.1=k:=c.symm.trans e;have b:valueAt (q :: qs) k=some q.2:=by simp [valueAt,List.find?_cons,a]
   rw [xu e,b]; exact d
  .have a:¬ q.1=k:=fun z=>e (c.trans z);have b:valueAt (q :: qs) k=valueAt qs k:=by simp [valueAt,List.find?_cons,a]
   rw [xt e,b]; exact ih
theorem KV.any {kvs:List (κ × V)} {vs:List (κ × Value)} (r:KV kvs vs) (k:κ):(kvs.any fun kv=>decide (kv.1=k))=vs.any fun kv=>decide (kv.1=k):=by
 unfold KV at r
 induction r with
 | nil=>rfl
 | cons h t ih=>rw [List.any_cons,List.any_cons,ih,h.1]
theorem KV.repl {kvs:List (κ × V)} {vs:List (κ × Value)} (r:KV kvs vs) (k:κ) {y:V} (ry:xh y u) :
  KV (kvs.map fun kv=>if kv.1=k then (kv.1,y) else kv) (vs.map fun kv=>if kv.1=k then (kv.1,u) else kv):=by
 unfold KV at r ⊢
 induction r with
 | nil=>exact .nil
 | @cons p q ps qs h t ih =>
  rw [cA,cA];refine .cons ?_ ih;obtain ⟨a,b⟩:=h;by_cases e:p.1=k
  .rw [if_pos e,if_pos (a.symm.trans e)]; exact ⟨a,ry⟩
  .rw [if_neg e,if_neg (fun z=>e (a.trans z))]; exact ⟨a,b⟩
theorem KV.put {kvs:List (κ × V)} {vs:List (κ × Value)} (r:KV kvs vs) (k:κ) {y:V} (ry:xh y u):KV (ż kvs k y) (stored vs k u):=by
 unfold ż stored;rw [r.any k];by_cases e:(vs.any fun a=>decide (a.1=k))=true
 .rw [if_pos e,if_pos e]; exact r.repl k ry
 .rw [if_neg e,if_neg e]; exact Paired.snoc r ⟨rfl,ry⟩
theorem KV.drop {kvs:List (κ × V)} {vs:List (κ × Value)} (r:KV kvs vs) (k:κ):KV (χ kvs k) (without vs k):=by
 unfold KV at r ⊢;unfold χ without
 induction r with
 | nil=>exact .nil
 | @cons p q ps qs h t ih =>
  obtain ⟨c,d⟩:=h;rw [List.filter_cons,List.filter_cons];by_cases e:p.1=k
  .have a:¬ decide (p.1≠k)=true:=by simp [e]
   have b:¬ decide (q.1≠k)=true:=by simp [c.symm.trans e]
   rw [if_neg a,if_neg b]; exact ih
  .have f:¬ q.1=k:=fun z=>e (c.trans z);have a:decide (p.1≠k)=true:=by simp [e]
   have b:decide (q.1≠k)=true:=by simp [f]
   rw [if_pos a,if_pos b]; exact .cons ⟨c,d⟩ ih
theorem KV.length {kvs:List (κ × V)} {vs:List (κ × Value)} (r:KV kvs vs):kvs.length=vs.length:=Paired.length r
theorem yki (kvs:List (κ × V)) (k:κ):(χ kvs k).length <= kvs.length:=List.length_filter_le _ _
end
theorem yf4 {w:World} {k:Key} (r:xh (kV k) u):(vx P w).is k u=true:=by
 cases k with
 | inl i=>obtain ⟨t,e⟩:=(show ∃ t,u=Value.int i t from r); subst e; exact yci P w i t
 | inr x=>obtain ⟨t,e⟩:=(show ∃ t,u=Value.str x t from r); subst e; exact yca P w x t
theorem yam {w:World}:∀ {ks:List Key} {us:List Value},wx (ks.map kV) us->ItemsAre (vx P w) ks us
 | [],_,r=>by rw [List.map_nil] at r; cases r; exact .nil
 | k :: ks,_,r=>by
  rw [cA] at r
  cases r with
  | cons h t=>exact .cons (yf4 h) (yam t)
abbrev KT (H:Hp):List (List Key × V)->List (List Key × Addr × Value)->Prop:=Paired fun p q=>p.1=q.1/\H q.2.1=some (.tup (p.1.map kV))/\xh p.2 q.2.2
theorem KT.val {H:Hp} {kvs:List (List Key × V)} {xs:List (List Key × Addr × Value)} (r:KT H kvs xs) (k:List Key):ybp (zb kvs k) ((atKey xs k).map (·.2)):=by
 induction r with
 | nil=>exact True.intro
 | @cons p q ps qs h t ih =>
  obtain ⟨c,_,d⟩:=h;by_cases e:p.1=k
  .have a:q.1=k:=c.symm.trans e;have b:atKey (q :: qs) k=some q.2:=by simp [atKey,List.find?_cons,a]
   rw [xu e,b]; exact d
  .have a:¬ q.1=k:=fun z=>e (c.trans z);have b:atKey (q :: qs) k=atKey qs k:=by simp [atKey,List.find?_cons,a]
   rw [xt e,b]; exact ih
theorem KT.repl {H:Hp} {kvs:List (List Key × V)} {xs:List (List Key × Addr × Value)} (r:KT H kvs xs) (k:List Key) {y:V} (ry:xh y u) :
  KT H (kvs.map fun kv=>if kv.1=k then (kv.1,y) else kv) (xs.map (putAt k u)):=by
 induction r with
 | nil=>exact .nil
 | @cons p q ps qs h t ih =>
  rw [cA,cA];refine .cons ?_ ih;obtain ⟨a,b,c⟩:=h;unfold putAt;by_cases e:p.1=k
  .rw [if_pos e,if_pos (a.symm.trans e)]; exact ⟨a,b,ry⟩
  .rw [if_neg e,if_neg (fun z=>e (a.trans z))]; exact ⟨a,b,c⟩
theorem KT.put {H:Hp} {kvs:List (List Key × V)} {xs:List (List Key × Addr × Value)} (r:KT H kvs xs) (k:List Key) {b:Addr} {y:V} (hb:H b=some (.tup (k.map kV))) (ry:xh y u) :
  KT H (ż kvs k y) (storedH xs k b u):=by
 have e:(kvs.any fun a=>decide (a.1=k))=(atKey xs k).isSome:=by
  rw [jc,(r.val k).isSome_eq,Option.isSome_map]
 unfold ż storedH;rw [e];by_cases q:(atKey xs k).isSome=true
 .rw [if_pos q,if_pos q]; exact r.repl k ry
 .rw [if_neg q,if_neg q]; exact Paired.snoc r ⟨rfl,hb,ry⟩
theorem KT.keeps {H H':Hp} {kvs:List (List Key × V)} {xs:List (List Key × Addr × Value)} (r:KT H kvs xs) (ht:∀ b ys,H b=some (.tup ys)->H' b=some (.tup ys)):KT H' kvs xs :=
 Paired.mapP r fun _ _ z=>⟨z.1,ht _ _ z.2.1,z.2.2⟩
section
variable {w:World} {H:Hp} {h:Heap}
theorem yzr {u:HO} (ok:HOk P w H h) (e:Rd H a u):ww P w H h a u:=e.ok ok
theorem ycz {kvs:List (Key × V)} (ok:HOk P w H h) (e:Rd H a (.dK kvs)):kvs.length <= sizeLine/\(a == sysModules)=false/\∃ vs,KV kvs vs/\h.DictOf (vx P w) a vs :=
 show ww P w H h a (.dK kvs) from yzr ok e
theorem yzc {kvs:List (Key × V)} (ok:HOk P w H h) (e:H a=some (.dK kvs)):kvs.length <= sizeLine/\(a == sysModules)=false/\∃ vs,KV kvs vs/\h.DictOf (vx P w) a vs:=ycz ok (.inl e)
theorem ybe {ks:List Key} (ok:HOk P w H h) (e:H a=some (.tup (ks.map kV))):(tupleKind (vx P w)).is h ks a:=by
 obtain ⟨_,b,r,o,d,c,n,f⟩:=(show ww P w H h a (.tup (ks.map kV)) from ok a _ e);exact ⟨o,b.toArray,n,d,c,f,by simpa using yam r⟩
theorem yf0 {kvs:List (List Key × V)} (ok:HOk P w H h) (e:Rd H a (.dT kvs)):kvs.length <= sizeLine/\(a == sysModules)=false /\
  ∃ xs,KT H kvs xs/\h.DictOfH (tupleKind (vx P w)) a xs:=by
 obtain ⟨z,y,xs,r,o,f,k,g,d,i,n,j⟩:=(show ww P w H h a (.dT kvs) from yzr ok e);refine ⟨z,y,xs,r,o,f,k,g,d,i,n,fun x b=>?_,j⟩
 have c:∀ {l:List (List Key × V)} {m:List (List Key × Addr × Value)},KT H l m->∀ x∈m,(tupleKind (vx P w)).is h x.1 x.2.1:=by
  intro l m q
  induction q with
  | nil=>intro x b; exact nomatch b
  | @cons p q ps qs hq t ih =>
   intro x b;rcases bW.mp b with e | b
   .subst e;exact ybe ok (by rw [<- hq.1]; exact hq.2.1)
   .exact ih x b
 exact c r x b
theorem vax {kvs:List (List Key × V)} (ok:HOk P w H h) (e:H a=some (.dT kvs)):kvs.length <= sizeLine/\(a == sysModules)=false /\
  ∃ xs,KT H kvs xs/\h.DictOfH (tupleKind (vx P w)) a xs:=yf0 ok (.inl e)
end
def Ø (H:Hp) (a:Addr) (y:V) (r:Option V):Prop :=
 (∃ kvs k,Rd H a (.dK kvs)/\y=kV k/\r=zb kvs k)\/∃ kvs k b,Rd H a (.dT kvs)/\y=.ref b/\H b=some (.tup (k.map kV))/\r=zb kvs k
def yjq (H:Hp) (a:Addr) (y v:V) (H':Hp):Prop :=
 (∃ kvs k,H a=some (.dK kvs)/\y=kV k/\kvs.length < sizeLine/\H'=upd H a (.dK (ż kvs k v))) \/
 ∃ kvs k b,H a=some (.dT kvs)/\y=.ref b/\H b=some (.tup (k.map kV))/\kvs.length < sizeLine/\H'=upd H a (.dT (ż kvs k v))
theorem Ø.k {H:Hp} {kvs:List (Key × V)} {k:Key} (e:H a=some (.dK kvs)):Ø H a (kV k) (zb kvs k):=.inl ⟨kvs,k,.inl e,rfl,rfl⟩
theorem Ø.t {H:Hp} {b:Addr} {kvs:List (List Key × V)} {k:List Key} (e:H a=some (.dT kvs)) (eb:H b=some (.tup (k.map kV))):Ø H a (.ref b) (zb kvs k):=.inr ⟨kvs,k,b,.inl e,rfl,eb,rfl⟩
theorem yjq.k {H:Hp} {kvs:List (Key × V)} {k:Key} {v:V} (e:H a=some (.dK kvs)) (hl:kvs.length < sizeLine):yjq H a (kV k) v (upd H a (.dK (ż kvs k v))):=.inl ⟨kvs,k,e,rfl,hl,rfl⟩
theorem yjq.t {H:Hp} {b:Addr} {kvs:List (List Key × V)} {k:List Key} {v:V} (e:H a=some (.dT kvs)) (eb:H b=some (.tup (k.map kV))) (hl:kvs.length < sizeLine) :
  yjq H a (.ref b) v (upd H a (.dT (ż kvs k v))):=.inr ⟨kvs,k,b,e,rfl,eb,hl,rfl⟩
section
variable {σ:St} {H:Hp} {s:Shared} {y v:V} {r:Value} {o:Option V} {A:Around}
theorem Inv.big (I:Inv X pins σ H s):sysModules < s.heap.objs.size:=by
 have h:mainGlobals < s.heap.objs.size:=(I.mod.glob.keeps I.bk).lt;exact Nat.lt_trans (by decide) h
theorem ygz (hu:A.units+1 < cLine) (I:Inv X pins σ H s) (g:Ø H a y (some v)) (ry:xh y u) (h:∀ w' s',Inv X pins σ H s'->xh v w'->Q w' s') :
  wpAny (model X.prog X.w) A (getItem (.ref a) u) Q E s:=by
 rcases g with ⟨f,k,e,j,l⟩ | ⟨f,k,b,e,j,r,l⟩
 .subst j;obtain ⟨z,x,q,c,n⟩:=ycz I.hok e;obtain ⟨w',i,d⟩:=ybp.some_of (v:=v) (o:=valueAt q k) (by rw [l]; exact c.val k);exact wpAny_getItem_of (yf4 ry) n.mapOf i (h w' _ (I.tok _) d)
 .subst j;cases (show u=Value.ref b from ry);obtain ⟨z,x,t,c,n⟩:=yf0 I.hok e;obtain ⟨w',i,d⟩:=ybp.some_of (v:=v) (o:=(atKey t k).map (·.2)) (by rw [l]; exact c.val k);obtain ⟨p,B,m⟩:=Option.map_eq_some_iff.mp i;refine wpAny_getItem_heap (tupleKind_room_in1 hu) (ybe I.hok r) n B ?_;rw [m];exact h w' _ (I.tok _) d
theorem vdm (hu:A.units+1 < cLine) (I:Inv X pins σ H s) (g:Ø H a y o) (ry:xh y u) (h:∀ s',Inv X pins σ H s'->Q (.bool o.isSome) s') :
  wpAny (model X.prog X.w) A (compareOp .In u (.ref a)) Q E s:=by
 rcases g with ⟨d,k,e,i,l⟩ | ⟨d,k,b,e,i,m,l⟩
 .subst i;obtain ⟨z,f,n,c,j⟩:=ycz I.hok e;refine wpAny_in_of (yf4 ry) f j.mapOf ?_;rw [<- (c.val k).isSome_eq,<- l];exact h _ (I.tok _)
 .subst i;cases (show u=Value.ref b from ry);obtain ⟨z,f,p,c,j⟩:=yf0 I.hok e;refine wpAny_in_heap (tupleKind_room_in1 hu) (ybe I.hok m) f j ?_;have q:=(c.val k).isSome_eq;rw [Option.isSome_map] at q;rw [<- q,<- l];exact h _ (I.tok _)
theorem yhu (hu:A.units+1 < cLine) (I:Inv X pins σ H s) (g:Ø H a y o) (ry:xh y u) (h:∀ s',Inv X pins σ H s'->Q (.bool (!o.isSome)) s') :
  wpAny (model X.prog X.w) A (compareOp .NotIn u (.ref a)) Q E s:=by
 rcases g with ⟨d,k,e,i,l⟩ | ⟨d,k,b,e,i,m,l⟩
 .subst i;obtain ⟨z,f,n,c,j⟩:=ycz I.hok e;refine wpAny_notIn_of (yf4 ry) f j.mapOf ?_;rw [<- (c.val k).isSome_eq,<- l];exact h _ (I.tok _)
 .subst i;cases (show u=Value.ref b from ry);obtain ⟨z,f,p,c,j⟩:=yf0 I.hok e;refine wpAny_notIn_heap (tupleKind_room_in1 hu) (ybe I.hok m) f j ?_;have q:=(c.val k).isSome_eq;rw [Option.isSome_map] at q;rw [<- q,<- l];exact h _ (I.tok _)
theorem ycq {t':Nat} {ob:HO} (I:Inv X pins σ H s) (mu:Mut (H a)) (hs:Heap.SameBut a s.heap h') (he:∃ q,h'.get? a=some q) (new:ww X.prog X.w (upd H a ob) h' a ob) :
  Inv X pins σ (upd H a ob) { s with heap:=h',toks:=t' } :=
 I.write (x:=a) (e:=a) mu (.inl rfl) (fun b q c z=>(hs.2 b c).trans z) he new
theorem yn2 {w:World} {H':Hp} {kvs:List (Key × V)} {vs:List (Key × Value)} (z:kvs.length <= sizeLine) (hd:(a == sysModules)=false) (rel:KV kvs vs) (dd:h'.DictOf (vx P w) a vs) :
  ww P w H' h' a (.dK kvs):=⟨z,hd,vs,rel,dd⟩
theorem yhc {H':Hp} {Q:Unit->Shared->Prop} (hu:A.units+1 < cLine) (I:Inv X pins σ H s) (g:yjq H a y v H') (ry:xh y u) (rv:xh v r) (h:∀ s',Inv X pins σ H' s'->Q () s') :
  wpAny (model X.prog X.w) A (setItem (.ref a) u r) Q E s:=by
 rcases g with ⟨d,k,e,x,l,B⟩ | ⟨d,k,b,e,x,F,l,B⟩
 .subst x B;obtain ⟨z,m,N,f,n⟩:=yzc I.hok e;have o:N.length <= sizeLine:=by rw [<- f.length]; exact z
  have p:(ż d k v).length <= sizeLine:=by have:=î d k v; omega
  refine wpAny_setItem_pairs (hsz:=o) (yf4 ry) n fun D i t=>h _ ?_;have P:∃ q,D.get? a=some q:=let ⟨q,_,_,j,_⟩:=i; ⟨q,j⟩;exact ycq I (by rw [e]; exact True.intro) t P (yn2 p m (f.put k rv) i)
 .subst x B;cases (show u=Value.ref b from ry);obtain ⟨z,m,J,f,n⟩:=vax I.hok e;have o:J.length <= sizeLine:=by rw [<- Paired.length f]; exact z
  have p:(ż d k v).length <= sizeLine:=by have:=î d k v; omega
  refine wpAny_setItem_heap (hsz:=o) (tupleKind_room_in1 hu) (ybe I.hok F) n fun D i t=>h _ ?_;obtain ⟨q,G,M,j,O,K,R,_,L⟩:=i;refine ycq I (by rw [e]; exact True.intro) t ⟨q,j⟩ ⟨p,m,_,(f.put k F rv).keeps fun c S C=>?_,q,G,M,j,O,K,R,L⟩
  rw [ym (xb C e (fun z=>nomatch z))]
  exact C
end
section
variable {σ:St} {H:Hp} {s:Shared} {kvs:List (Key × V)} {k:Key} {A:Around}
theorem vac {v:V} {more:List Value} (I:Inv X pins σ H s) (e:H a=some (.dK kvs)) (ry:xh (kV k) u) (l:zb kvs k=some v) (hm:more=[]\/∃ x,more=[x])
  (h:∀ w' s',Inv X pins σ (upd H a (.dK (χ kvs k))) s'->xh v w'->Q w' s'):wpAny (model X.prog X.w) A (call (.builtin "dict.pop") (.ref a :: u :: more)) Q E s:=by
 obtain ⟨z,r,f,b,g⟩:=yzc I.hok e;obtain ⟨w',n,d⟩:=ybp.some_of (v:=v) (o:=valueAt f k) (by rw [<- l]; exact b.val k)
 have B:(keyPart u).isSome=true:=by
  cases k with
  | inl i=>obtain ⟨t,q⟩:=(show ∃ t,u=Value.int i t from ry); subst q; rfl
  | inr x=>obtain ⟨t,q⟩:=(show ∃ t,u=Value.str x t from ry); subst q; rfl
 have j:argsOk "dict.pop" ⟨.ref a :: u :: more,[]⟩:=by
  rcases hm with q | ⟨x,q⟩
  .subst q; exact PySem.F.args_dict_pop_2 _ _
  .subst q; exact PySem.F.args_dict_pop_3 _ _ _
 refine call_meetsIn PySem.F.slot_dict_pop g.typeIs PySem.F.entry_dict_pop j (meets_dict_pop_there (vx X.prog X.w) a (yf4 ry) more hm B)
  ⟨f,w',g,by rw [<- b.length]; exact z,n,fun m c y=>h w' _ ?_ d⟩
 have p:∃ q,m.get? a=some q:=let ⟨q,_,_,hq,_⟩:=c; ⟨q,hq⟩;exact ycq I (by rw [e]; exact True.intro) y p (yn2 (cn (yki kvs k) z) r (b.drop k) c)
theorem vat (I:Inv X pins σ H s) (e:Rd H a (.dK kvs)) (h:∀ t s',Inv X pins σ H s'->Q (.int kvs.length t) s'):wpAny (model X.prog X.w) A (call (.builtin "len") [.ref a]) Q E s:=by
 obtain ⟨z,d,f,b,c⟩:=ycz I.hok e;refine call_len_dict d c (by rw [<- b.length]; rw [sizeLine_eq] at z; omega) ?_;rw [<- b.length];exact h _ _ (I.tok _)
end
def vcj (i:Expr):Prop:=∀ ov iv,subscripted i false ov iv=operate [ov,iv] (getItem ov iv)
theorem yop {prog:Program} {w:World} {A:Around} {s:Shared} {env:Env} {value slice:Expr} {pos:Pos} {T id:String} 
  (hl:typeLookup (.type T) "__getitem__"=pure (some (.builtin id))) (hs:vcj slice)
  (h:wpAny (model prog w) A (eval value env) (fun o s₁=>wpAny (model prog w) A (eval slice env) (fun i s₂=>s₂.TypeIs o T/\wpAny (model prog w) A (getItem o i) Q E s₂) E s₁) E s) :
  wpAny (model prog w) A (eval (.Subscript value slice pos) env) Q E s:=by
 refine Subscript_ (cT h (fun o s₁ h₁=>cT h₁ (fun i s₂ h₂=>?_) fun _ _ x=>x) fun _ _ x=>x);obtain ⟨b,h₂⟩:=h₂;unfold subscriptTail;refine bI ?_;rw [getitemInPython_of_ne b.not_modules];refine bI (wpAny_specialOf b hl ?_)
 have a:wpAny (model prog w) A (subscripted slice false o i) (fun r s₃=>wpAny (model prog w) A (letTemporaryGo value o r >>= fun _=>pure r) Q E s₃) E s₂:=by
  rw [hs o i];exact wpAny_operating (cT h₂ (fun r s₃ h₃=>bI (wpAny_letTemporaryGo (bO h₃))) fun _ _ x=>x)
 first
  | exact bO (bI a)
  | exact bI (bO (bI a))
  | exact bI a
theorem ycd {σ:St} {H:Hp} {s:Shared} {y:V} {o:Option V} (I:Inv X pins σ H s) (g:Ø H a y o):s.TypeIs (.ref a) "dict":=by
 rcases g with ⟨d,k,e,_,_⟩ | ⟨d,k,b,e,_,_,_⟩
 .obtain ⟨_,_,f,_,c⟩:=ycz I.hok e;exact c.typeIs
 .obtain ⟨_,_,h,_,c⟩:=yf0 I.hok e;exact c.typeIs
def yzn (td ty:TE):TE:=fun σ H Q=>td σ H fun x H1=>ty σ H1 fun y H2=>∃ a v,x=.ref a/\Ø H2 a y (some v)/\Q v H2
def vc2 (ty td:TE):TE:=fun σ H Q=>ty σ H fun y H1=>td σ H1 fun x H2=>∃ a o,x=.ref a/\Ø H2 a y o/\Q (.bl o.isSome) H2
def yh1 (ty td:TE):TE:=fun σ H Q=>ty σ H fun y H1=>td σ H1 fun x H2=>∃ a o,x=.ref a/\Ø H2 a y o/\Q (.bl (!o.isSome)) H2
def yy7 (td ty tv:TE):TS:=fun D σ H=>tv σ H fun v H1=>td σ H1 fun x H2=>ty σ H2 fun y H3=>∃ a H4,x=.ref a/\yjq H3 a y v H4/\D.nx σ H4
section
variable {o i e value:Expr} {pos pos' tpos:Pos} {td ty tv:TE}
theorem x9 (hu:X.A.units+1 < cLine) (ho:PE X o td) (hi:PE X i ty) (hs:vcj i):PE X (.Subscript o i pos) (yzn td ty):=by
 refine .mk fun b s σ H Q I h=>?_;refine yop PySem.F.slot_dict_getitem.lookup hs (thn (ho b s σ H _ I h) fun u n ⟨x,l,r,q,m⟩=>thn (hi b n σ l _ r m) fun B t h'=>?_);obtain ⟨y,k,d,p,a,v,e,g,j⟩:=h';subst e;obtain rfl:u=Value.ref a:=q;exact ⟨ycd d g,ygz hu d g p fun w z f c=>⟨v,k,f,c,j⟩⟩
theorem yua (hu:X.A.units+1 < cLine) (hi:PE X i ty) (ho:PE X o td):PC X .In i o (vc2 ty td):=by
 intro b s σ H Q I h;refine thn (hi b s σ H _ I h) fun w m ⟨y,k,r,n,l⟩=>thn (ho b m σ k _ r l) fun u t h'=>?_;obtain ⟨x,f,p,q,a,j,c,g,e⟩:=h';subst c;obtain rfl:u=Value.ref a:=q;exact vdm hu p g n fun v d=>⟨.bl j.isSome,f,d,rfl,e⟩
theorem ć (hu:X.A.units+1 < cLine) (hi:PE X i ty) (ho:PE X o td):PC X .NotIn i o (yh1 ty td):=by
 intro b s σ H Q I h;refine thn (hi b s σ H _ I h) fun w m ⟨y,k,r,n,l⟩=>thn (ho b m σ k _ r l) fun u t h'=>?_;obtain ⟨x,f,p,q,a,j,c,g,e⟩:=h';subst c;obtain rfl:u=Value.ref a:=q;exact yhu hu p g n fun v d=>⟨.bl (!j.isSome),f,d,rfl,e⟩
theorem Ŵ (hu:X.A.units+1 < cLine) (ho:PE X o td) (hi:PE X i ty) (hv:PE X value tv) (hs:swapsWith value (some (.Subscript o i pos')) pos.line X.env=pure false) :
  PS X (.Assign [.Subscript o i pos'] value pos) (yy7 td ty tv):=by
 refine .mk fun b s σ H D I h=>?_;refine wpAny_Assign_Subscript (thn (hv b s σ H _ I h) fun r C ⟨v,q,t,B,f⟩=>thn (ho b C σ q _ t f) fun u c ⟨x,p,l,m,n⟩=>thn (hi b c σ p _ l n) fun F G h'=>?_) hs;obtain ⟨y,J,w,k,a,d,z,g,j⟩:=h';subst z;obtain rfl:u=Value.ref a:=m;exact yhc hu w g k B fun E e=>⟨σ,d,e,j⟩
end
theorem ylg {w:World} {H:Hp} (h:Heap) (hb:sysModules < h.objs.size):ww P w H (h.push { cls:=.type "dict",data:=.dict #[] }) h.objs.size (.dK []) :=
 ⟨cb _,df.mpr (Ne.symm (ci hb)),[],.nil,Heap.DictOf.new h⟩
theorem ykt {w:World} {H:Hp} (h:Heap) (hb:sysModules < h.objs.size):ww P w H (h.push { cls:=.type "dict",data:=.dict #[] }) h.objs.size (.dT []) :=
 ⟨cb _,df.mpr (Ne.symm (ci hb)),[],.nil,_,#[],0,bU _ rfl,⟨rfl,rfl,rfl⟩,rfl,rfl,List.nodup_nil⟩
def yod:TE:=fun _ H Q=>∀ p,H p=none->Q (.ref p) (upd H p (.dK []))
def ymq:TE:=fun _ H Q=>∀ p,H p=none->Q (.ref p) (upd H p (.dT []))
section
variable {pos:Pos}
theorem yd8:PE X (.Dict [] [] pos) yod:=.mk fun b s σ H Q I h =>
 wpAny_Dict_empty ⟨.ref s.heap.objs.size,_,I.laid (a:=s.heap.objs.size) (o:=.dK []) (t':=s.toks) (fun _ _ q=>bK _ q) (bL _) (ylg s.heap I.big),rfl,h _ (I.hok.fresh (bL _))⟩
theorem ykb:PE X (.Dict [] [] pos) ymq:=.mk fun b s σ H Q I h =>
 wpAny_Dict_empty ⟨.ref s.heap.objs.size,_,I.laid (a:=s.heap.objs.size) (o:=.dT []) (t':=s.toks) (fun _ _ q=>bK _ q) (bL _) (ykt s.heap I.big),rfl,h _ (I.hok.fresh (bL _))⟩
end
structure M1 (X:Cx) (o:Expr) (m:Str) (apos:Pos) (e:Expr) (cpos:Pos):Prop where
 base:attributeBase o m X.env (eval o X.env)=eval o X.env
 few:((backTo cpos (starEach [e] X.env)).all (fun x=>!x.1) && (backToKw cpos (keywordEach [] X.env)).all (fun x=>x.1.isSome)
  && decide (([e]:List Expr).length+([]:List Keyword).length+(if ([]:List Keyword).isEmpty then 0 else 1) < 30))=true
 line:(apos.endLine == cpos.line)=true
 trees:backTo cpos (starEach [e] X.env)=[(false,eval e X.env)]
structure M2 (X:Cx) (o:Expr) (m:Str) (apos:Pos) (e f:Expr) (cpos:Pos):Prop where
 base:attributeBase o m X.env (eval o X.env)=eval o X.env
 few:((backTo cpos (starEach [e,f] X.env)).all (fun x=>!x.1) && (backToKw cpos (keywordEach [] X.env)).all (fun x=>x.1.isSome)
  && decide (([e,f]:List Expr).length+([]:List Keyword).length+(if ([]:List Keyword).isEmpty then 0 else 1) < 30))=true
 line:(apos.endLine == cpos.line)=true
 trees:backTo cpos (starEach [e,f] X.env)=[(false,eval e X.env),(false,eval f X.env)]
def IsD (H:Hp) (a:Addr):Prop:=(∃ kvs,Rd H a (.dK kvs))\/∃ kvs,Rd H a (.dT kvs)
theorem yv6 {σ:St} {H:Hp} {s:Shared} (I:Inv X pins σ H s) (d:IsD H a) :
  s.TypeIs (.ref a) "dict"/\(∀ b,Value.ref a=.ref b->∃ ob,s.heap.get? b=some ob/\ob.dict=none)/\(a == sysModules)=false:=by
 rcases d with ⟨g,e⟩ | ⟨g,e⟩
 .obtain ⟨_,i,j,_,c⟩:=ycz I.hok e;refine ⟨c.typeIs,fun b q=>?_,i⟩;cases q;obtain ⟨ob,_,_,h,f,_⟩:=c;exact ⟨ob,h,f.2.1⟩
 .obtain ⟨_,i,k,_,c⟩:=yf0 I.hok e;refine ⟨c.typeIs,fun b q=>?_,i⟩;cases q;obtain ⟨ob,_,_,h,f,_⟩:=c;exact ⟨ob,h,f.2.1⟩
def ynw (td ty:TE):TE:=fun σ H Q=>td σ H fun x H1=>∃ a,x=.ref a/\IsD H1 a/\ty σ H1 fun y H2=>∃ kvs k v,H2 a=some (.dK kvs)/\y=kV k/\zb kvs k=some v/\Q v (upd H2 a (.dK (χ kvs k)))
section
variable {o e f:Expr} {apos cpos:Pos} {td ty tx:TE}
theorem ydt (ho:PE X o td) (he:PE X e ty) (m:M1 X o "pop" apos e cpos):PE X (.Call (.Attribute o "pop" apos) [e] [] cpos) (ynw td ty):=by
 refine .mk fun b s σ H Q I h=>?_;refine wpAny_Call_method m.base m.few m.line PySem.F.plainAttrs_dict PySem.F.slot_dict_pop PySem.F.type_dict_pop (thn (ho b s σ H _ I h) fun u D h'=>?_);obtain ⟨x,t,f,q,a,A,d,i⟩:=h';subst A;obtain rfl:u=Value.ref a:=q;obtain ⟨C,w,_⟩:=yv6 f d;refine ⟨C,w,?_⟩;rw [m.trees];refine Calls.callWith_builtin rfl (Calls.evalArgs_plain (Calls.spliced_cons (thn (he b D σ t _ f i) fun J E ⟨y,G,p,j,g,k,v,n,z,l,r⟩=>Calls.spliced_nil ?_)));subst z;exact vac p n j l (.inl rfl) fun K L B c=>⟨v,_,B,c,r⟩
end
@[irreducible] def QE (X:Cx) (e:Expr) (t:TE):Prop:=PE X e t
@[irreducible] def QSs (X:Cx) (st:List Stmt) (t:TS):Prop:=PSs X st t
@[irreducible] def QS (X:Cx) (st:Stmt) (t:TS):Prop:=PS X st t
section
variable {e:Expr} {te:TE} {pos:Pos} {ts us:TS} {st:Stmt} {ji:List Stmt}
theorem yo {R:TS->Prop} (h1:PS X st ts) (h2:∃ us,PSs X ji us/\R (vb3 ts us)):∃ t,PSs X (st :: ji) t/\R t:=let ⟨_,a,b⟩:=h2; ⟨_,yh h1 a,b⟩
end
theorem ŭ:∀ {bs:List Bool} {us:List Value},wx (bs.map V.bl) us->us=bs.map Value.bool
 | [],_,.nil=>rfl
 | b :: r,_,.cons a t=>by rw [show _=Value.bool b from a,ŭ t]; rfl
theorem ygg (bs:List Bool):((List.range bs.length).all fun i=>(bs[i]?).getD true)=bs.all id:=by
 rw [Bool.eq_iff_iff,List.all_eq_true,List.all_eq_true]
 constructor
 .intro h b c;obtain ⟨i,a,rfl⟩:=List.getElem_of_mem c;have:=h i (cQ.mpr a);rw [bJ a] at this;exact this
 .intro h i a;have a:=cQ.mp a;rw [bJ a];exact h _ (cE a)
theorem zh (hc:X.calm=true):u9 X (.builtin "all") (fun xs H Q=>∃ p bs,xs=[.ref p]/\SqL X.K H p (List.map V.bl bs)/\Q (.bl (bs.all id)) H):=by
 intro g s σ H xs B Q I r h;obtain ⟨p,bs,rfl,n,q⟩:=h;obtain ⟨u,rfl,k⟩:=ψ r;cases k;obtain ⟨l,o,w,C⟩:=I.list n;obtain rfl:=ŭ o;have f:=w.isList;have d:p < s.heap.objs.size:=by obtain ⟨_,e,_⟩:=f; exact bQ e
 refine call_all_walk (wpAny_pyIter_list f ?_)
 refine ⟨s.heap.objs.size,[s.heap.objs.size,p],[s.heap.objs.size],(bs.map Value.bool).toArray.size,_,_,fun i=>(bs[i]?).getD true,rfl,Walks.list (A:=X.A.in1) (show X.A.handled=none from I.ok.hd hc) _ p (ci d) (bs.map Value.bool).toArray,
  ⟨⟨_,bU _ rfl,rfl,rfl⟩,f.push _⟩,fun i v D z E a c=>?_,fun y t m=>?_⟩
 .have a:(bs.map Value.bool)[i]?=some v:=by simpa using a
  rw [bN] at a
  cases e:bs[i]? with
  | none=>rw [e] at a; cases a
  | some b =>
   dsimp only at c;rw [e] at a c;cases a;exact cR c
 .have e:((List.range (bs.map Value.bool).toArray.size).all fun i=>(bs[i]?).getD true)=bs.all id:=by
   rw [bT,bH];exact ygg bs
  rw [e];refine ⟨.bl (bs.all id),H,I.kept (t':=t) fun b x e=>m b x (fun j=>?_) (bK _ e),rfl,q⟩;rw [bZ.mp j] at e;exact de _ (bQ e)
theorem xm {env:Env}:∀ {names:List (Str × NameKind)} {x:Str} {k:NameKind},
  (names.map fun (n,k)=>if (k == NameKind.free && env.scope.kind == .function && env.kindOf n == some .cell) then (n,NameKind.cell) else (n,k)).lookup x=some k->∃ k0,(x,k0)∈names/\(k=k0\/k0=.free)
 | [],_,_,h=>by simp at h
 | (n,k1) :: r,x,k,h=>by
  rw [cA] at h;by_cases hx:x=n
  .subst hx;refine ⟨k1,.head _,?_⟩;dsimp only at h
   split at h
   .rename_i hc
    simp only [cq,beq_iff_eq] at hc;exact .inr hc.1.1
   .simp [List.lookup] at h;exact .inl h.symm
  .have:(x == n)=false:=by simpa using hx
   have a:(r.map fun (n,k)=>if (k == NameKind.free && env.scope.kind == .function && env.kindOf n == some .cell) then (n,NameKind.cell) else (n,k)).lookup x=some k:=by
    dsimp only at h
    split at h <;> simpa [List.lookup,this] using h
   obtain ⟨k0,m,q⟩:=xm a;exact ⟨k0,.tail _ m,q⟩
def j8 (ys:List Str) (env:Env):List (Str × Addr):=ys.map fun y=>(y,(env.cells.lookup y).getD 0)
theorem ů {env:Env}:∀ {ys:List Str} {y:Str} {c:Addr},(j8 ys env).lookup y=some c->y∈ys/\c=(env.cells.lookup y).getD 0
 | [],_,_,h=>by simp [j8] at h
 | z :: r,y,c,h=>by
  by_cases hy:y=z
  .subst hy;simp [j8,List.lookup] at h;exact ⟨.head _,h.symm⟩
  .have b:(y == z)=false:=by simpa using hy
   have a:(j8 r env).lookup y=some c:=by simpa [j8,List.lookup,b] using h
   obtain ⟨m,e⟩:=ů a;exact ⟨.tail _ m,e⟩
theorem ξ {env:Env}:∀ {ys:List Str} {y:Str},y∈ys->(j8 ys env).lookup y=some ((env.cells.lookup y).getD 0)
 | z :: r,y,h=>by
  by_cases hy:y=z
  .subst hy;simp [j8,List.lookup]
  .have b:(y == z)=false:=by simpa using hy
   have a:y∈r:=by
    rcases bW.mp h with q | q
    .exact absurd q hy
    .exact q
   have:=ξ (env:=env) a;simpa [j8,List.lookup,b] using this
abbrev Cx.compF (X:Cx) (scope:Scope) (ys:List Str) (C:Addr) (x:Str) (s2:Shared) (H2:Hp) (fp:List Addr):Cx :=
 { X with N:=x :: ys,s₀:=s2,H₀:=H2,env:=compEnvC scope (j8 ys X.env) C X.env,outer:=X.stack,ex:=fp,fn:=fun _=>false,pn:=[],xe:=fun _ _=>False }
def x8 (J:It) (te:TE) (fr:St) (D:Addr) (R:Hp->Prop) (H1:Hp):Prop:=∃ W:Nat->Nat->Hp->Prop,(∃ m,W 0 m (upd H1 D (.lst []))) /\
 ∀ i m H2,W i m H2->(J.stop i H2/\R H2)\/(J.go i H2/\∀ x H3,J.yld i H2 x H3->te (some x :: fr) H3 fun y H4=>∃ ys,H4 D=some (.lst ys)/\ys.length < sizeLine/\∃ m',m' < m/\W (i+1) m' (upd H4 D (.lst (ys++[y]))))
def xa (js:List Nat) (σ:St):St:=js.map fun j=>(σ[j]?).getD none
def yip (wi:TI) (te:TE) (js:List Nat):TE:=fun σ H Q=>wi σ H fun J H1=>∀ D,H1 D=none->x8 J te (xa js σ) D (fun H2=>Q (.ref D) H2) H1
section
variable {iter elt:Expr} {x:Str} {px pos:Pos} {te:TE} {wi:TI} {σ:St} {ys:List Str} {js:List Nat}
theorem yqe {H:Hp} {Q:VK} (h:wi σ H fun J H1=>∀ D,H1 D=none->x8 J te (xa js σ) D (fun H2=>Q (.ref D) H2) H1):yip wi te js σ H Q:=h
theorem ķ {K:W.Frag} {xs:List V} {fr:St} {R:Hp->Prop} {H1:Hp} (Pv:Nat->Hp->Prop) (h0:Pv 0 (upd H1 D (.lst []))) (hl:∀ i H,i <= xs.length->Pv i H->SqL K H a xs)
  (hs:∀ i x H,xs[i]?=some x->i < xs.length->Pv i H->te (some x :: fr) H fun y H4=>∃ ys,H4 D=some (.lst ys)/\ys.length < sizeLine/\∃ m',m' < xs.length - i/\cW xs.length Pv (i+1) m' (upd H4 D (.lst (ys++[y]))))
  (hd:∀ H,Pv xs.length H->R H):x8 (Itl K a) te fr D R H1:=by
 refine ⟨cW xs.length Pv,⟨xs.length,by simp,cb _,h0⟩,?_⟩;rintro i m H ⟨rfl,b,p⟩;have q:=hl i H b p;by_cases hlt:i < xs.length
 .refine .inr ⟨⟨xs,xs[i],q,by simp [hlt]⟩,fun x c y=>?_⟩;obtain ⟨e,y⟩:=y;subst e;exact hs i x _ (y xs q) hlt p
 .have e:i=xs.length:=by omega
  subst e;exact .inl ⟨⟨xs,q,bL _⟩,hd H p⟩
theorem yce {lo:Int} {n:Nat} {fr:St} {R:Hp->Prop} {H1:Hp} (Pv:Nat->Hp->Prop) (h0:Pv 0 (upd H1 D (.lst [])))
  (hs:∀ i H,i < n->Pv i H->te (some (.int (lo+i)) :: fr) H fun y H4=>∃ ys,H4 D=some (.lst ys)/\ys.length < sizeLine/\∃ m',m' < n - i/\cW n Pv (i+1) m' (upd H4 D (.lst (ys++[y]))))
  (hd:∀ H,Pv n H->R H):x8 (Itr lo n) te fr D R H1:=by
 refine ⟨cW n Pv,⟨n,by simp,cb _,h0⟩,?_⟩;rintro i m H ⟨rfl,a,p⟩;by_cases hlt:i < n
 .refine .inr ⟨hlt,fun x b y=>?_⟩;obtain ⟨e,y⟩:=y;subst e y;exact hs i _ hlt p
 .have e:i=n:=by omega
  subst e;exact .inl ⟨bL _,hd H p⟩
end
end L2
namespace L2
theorem yv {α:Type} {P:α->Prop}:∀ y∈([]:List α),P y:=fun _ h=>nomatch h
theorem all_cons {α:Type} {P:α->Prop} {y:α} {r:List α} (h:P y) (t:∀ z∈r,P z):∀ z∈y :: r,P z:=fun z a=>by
 rcases bW.mp a with e | a
 .exact e ▸ h
 .exact t z a
end L2
namespace L2
open PySem PySem.Spec PyProof.Rows
section
variable {X:Cx}
theorem yd3:∀ {ns:List Int} {us:List Value},wx (ns.map V.int) us->∃ xs:Array (Int × Tok),us.toArray=intItems xs/\xs.toList.map (·.1)=ns
 | [],_,.nil=>⟨#[],by simp [intItems],rfl⟩
 | n :: r,_,.cons (l₂:=us) a t=>by
  obtain ⟨d,rfl⟩:=a;obtain ⟨xs,b,c⟩:=yd3 t;refine ⟨((n,d) :: xs.toList).toArray,?_,by simp [c]⟩;have:us=(intItems xs).toList:=by rw [<- b]
  rw [this];simp [intItems]
theorem ν (hc:X.calm=true):u9 X (.builtin "sum") (fun vs H Q=>∃ p ns,vs=[.ref p]/\SqL X.K H p (List.map V.int ns)/\Q (.int ns.sum) H):=by
 intro a s σ H n t Q I r h;obtain ⟨p,ns,rfl,c,q⟩:=h;obtain ⟨u,rfl,m⟩:=ψ r;cases m;obtain ⟨g,d,k,v⟩:=I.list c;obtain ⟨i,b,e⟩:=yd3 d;have l:s.heap.IsList p (intItems i):=b ▸ k.isList;refine sum_intListG (I.ok.hd hc) l fun o f t' j=>?_;rw [preSum_eq,cL (by simp),e];exact ⟨.int ns.sum,H,I.kept (t':=f) j,⟨_,rfl⟩,q⟩
end
variable {i:Nat}
section
variable {X:Cx} {e:Expr} {t1 t2:TE}
def ytk (t1 t2:TE):TE:=fun σ H Q=>t1 σ H Q\/t2 σ H Q
theorem ye4 (h1:PE X e t1) (h2:PE X e t2):PE X e (ytk t1 t2):=by
 refine .mk fun a s σ H Q I h=>?_;rcases h with h | h
 .exact h1 a s σ H Q I h
 .exact h2 a s σ H Q I h
theorem yer {σ:St} {H:Hp} {Q:VK} (h:t1 σ H Q):ytk t1 t2 σ H Q:=.inl h
theorem ł {σ:St} {H:Hp} {Q:VK} (h:t2 σ H Q):ytk t1 t2 σ H Q:=.inr h
end
theorem vk {H:Hp} {p:Addr} {o:HO} {A:Hp->Prop} (hp:H p=none) (h:∀ H',yx H H'->H' p=some o->A H'):A (upd H p o):=h _ (ve hp) yc
theorem y7 {α:Type} {H:Hp} {p:Addr} {o:HO} {A:Hp->α->Prop} {Q:α} (hp:H p=none) (h:∀ H',yx H H'->H' p=some o->A H' Q):A (upd H p o) Q:=h _ (ve hp) yc
section
variable {K:W.Frag} {a D:Addr} {xs:List V} {te:TE} {fr:St} {R:Hp->Prop} {H1:Hp}
theorem ya9 (Pv:Nat->Hp->Prop) (h0:Pv 0 (upd H1 D (.lst []))) (hl:∀ i H,i <= xs.length->Pv i H->SqT K H a xs)
  (hs:∀ i x H,xs[i]?=some x->i < xs.length->Pv i H->te (some x :: fr) H fun y H4=>∃ ys,H4 D=some (.lst ys)/\ys.length < sizeLine/\∃ m',m' < xs.length - i/\cW xs.length Pv (i+1) m' (upd H4 D (.lst (ys++[y]))))
  (hd:∀ H,Pv xs.length H->R H):x8 (Itt K a) te fr D R H1:=by
 refine ⟨cW xs.length Pv,⟨xs.length,by simp,cb _,h0⟩,?_⟩;rintro i m H ⟨rfl,b,p⟩;have q:=hl i H b p;by_cases hlt:i < xs.length
 .refine .inr ⟨⟨xs,xs[i],q,by simp [hlt]⟩,fun x c y=>?_⟩;obtain ⟨e,y⟩:=y;subst e;exact hs i x _ (y xs q) hlt p
 .have e:i=xs.length:=by omega
  subst e;exact .inl ⟨⟨xs,q,bL _⟩,hd H p⟩
theorem yju (Pv:Nat->Hp->Prop) (h0:Pv 0 (upd H1 D (.lst []))) (hl:∀ i H,i <= xs.length->Pv i H->SqT K H a xs)
  (hs:∀ i x H,xs[i]?=some x->i < xs.length->Pv i H->te [some x] H fun y H4=>∃ ys,H4 D=some (.lst ys)/\ys.length < sizeLine/\∃ m',m' < xs.length - i/\cW xs.length Pv (i+1) m' (upd H4 D (.lst (ys++[y]))))
  (hd:∀ H,Pv xs.length H->R H):yem (Itt K a) te D R H1:=by
 refine ⟨cW xs.length Pv,⟨xs.length,by simp,cb _,h0⟩,?_⟩;rintro i m H ⟨rfl,b,p⟩;have q:=hl i H b p;by_cases hlt:i < xs.length
 .refine .inr ⟨⟨xs,xs[i],q,by simp [hlt]⟩,fun x c y=>?_⟩;obtain ⟨e,y⟩:=y;subst e;exact hs i x _ (y xs q) hlt p
 .have e:i=xs.length:=by omega
  subst e;exact .inl ⟨⟨xs,q,bL _⟩,hd H p⟩
def Mp (H1:Hp) (D:Addr) (f:Nat->V) (i:Nat) (H:Hp):Prop:=yx H1 H/\H D=some (.lst ((List.range i).map f))
theorem Mp.zero {f:Nat->V} (hD:H1 D=none):Mp H1 D f 0 (upd H1 D (.lst [])):=⟨ve hD,yc⟩
theorem Mp.step {f:Nat->V} {n:Nat} {H4:Hp} {y:V} (hD:H1 D=none) (hn:n < sizeLine) (hi:i < n) (S:yx H1 H4) (h4:H4 D=some (.lst ((List.range i).map f))) (e:y=f i) :
  ∃ ys,H4 D=some (.lst ys)/\ys.length < sizeLine/\∃ m',m' < n - i/\cW n (Mp H1 D f) (i+1) m' (upd H4 D (.lst (ys++[y]))):=by
 refine xn (n:=n) h4 (by rw [bH,cm]; omega) hi ⟨?_,?_⟩
 .intro b o a;rw [ym (yd a hD)];exact S b o a
 .rw [yc,List.range_succ,cj,e];rfl
theorem Ć {f:Nat->V} {g:V->V} (h:∀ i x,xs[i]?=some x->f i=g x):(List.range xs.length).map f=xs.map g:=by
 refine List.ext_getElem? fun i=>?_;rw [bN,bN];by_cases hi:i < xs.length
 .rw [cZ hi,bJ hi];show some (f i)=some (g xs[i]);rw [h i _ (bJ hi)]
 .rw [cC (by rw [cm]; omega),cC (by omega)];rfl
def ofG (g:V->V) (xs:List V) (i:Nat):V:=((xs[i]?).map g).getD .non
theorem yel {g:V->V} {x:V} (h:xs[i]?=some x):ofG g xs i=g x:=by
 unfold ofG;rw [h];rfl
def MpK (H1:Hp) (D:Addr) (f:Nat->V) (n i:Nat):VK:=fun y H4=>∃ ys,H4 D=some (.lst ys)/\ys.length < sizeLine/\∃ m',m' < n - i/\cW n (Mp H1 D f) (i+1) m' (upd H4 D (.lst (ys++[y])))
theorem Mp.done {g:V->V} {x y:V} {H4:Hp} (hD:H1 D=none) (hn:xs.length < sizeLine) (hx:xs[i]?=some x) (S:yx H1 H4) (h4:H4 D=some (.lst ((List.range i).map (ofG g xs)))) (e:y=g x):MpK H1 D (ofG g xs) xs.length i y H4:=by
 have a:i < xs.length:=by
  rcases Nat.lt_or_ge i xs.length with q | q
  .exact q
  .rw [cC q] at hx; cases hx
 exact Mp.step hD hn a S h4 (e.trans (yel hx).symm)
theorem Mp.doneR {f:Nat->V} {n:Nat} {y:V} {H4:Hp} (hD:H1 D=none) (hn:n < sizeLine) (hi:i < n) (S:yx H1 H4) (h4:H4 D=some (.lst ((List.range i).map f))) (e:y=f i):MpK H1 D f n i y H4:=Mp.step hD hn hi S h4 e
theorem zd (g:V->V) (hq:SqL K H1 a xs) (hD:H1 D=none)
  (hs:∀ i x H,xs[i]?=some x->yx H1 H->H D=some (.lst ((List.range i).map (ofG g xs)))->te (some x :: fr) H (MpK H1 D (ofG g xs) xs.length i))
  (hd:∀ H,yx H1 H->H D=some (.lst (xs.map g))->R H):x8 (Itl K a) te fr D R H1 :=
 ķ (Mp H1 D (ofG g xs)) (Mp.zero hD) (fun _ _ _ p=>p.1.seq hq) (fun i x H b c p=>hs i x H b p.1 p.2)
  fun H p=>hd H p.1 (by rw [<- Ć (f:=ofG g xs) fun i x=>yel]; exact p.2)
theorem Ŀ (g:V->V) (hq:SqT K H1 a xs) (hD:H1 D=none)
  (hs:∀ i x H,xs[i]?=some x->yx H1 H->H D=some (.lst ((List.range i).map (ofG g xs)))->te (some x :: fr) H (MpK H1 D (ofG g xs) xs.length i))
  (hd:∀ H,yx H1 H->H D=some (.lst (xs.map g))->R H):x8 (Itt K a) te fr D R H1 :=
 ya9 (Mp H1 D (ofG g xs)) (Mp.zero hD) (fun _ _ _ p=>p.1.tup hq) (fun i x H b c p=>hs i x H b p.1 p.2)
  fun H p=>hd H p.1 (by rw [<- Ć (f:=ofG g xs) fun i x=>yel]; exact p.2)
theorem yga (g:V->V) (hq:SqT K H1 a xs) (hD:H1 D=none)
  (hs:∀ i x H,xs[i]?=some x->yx H1 H->H D=some (.lst ((List.range i).map (ofG g xs)))->te [some x] H (MpK H1 D (ofG g xs) xs.length i))
  (hd:∀ H,yx H1 H->H D=some (.lst (xs.map g))->R H):yem (Itt K a) te D R H1 :=
 yju (Mp H1 D (ofG g xs)) (Mp.zero hD) (fun _ _ _ p=>p.1.tup hq) (fun i x H b c p=>hs i x H b p.1 p.2)
  fun H p=>hd H p.1 (by rw [<- Ć (f:=ofG g xs) fun i x=>yel]; exact p.2)
theorem Ò {lo:Int} {n:Nat} (f:Nat->V) (hD:H1 D=none)
  (hs:∀ i H,i < n->yx H1 H->H D=some (.lst ((List.range i).map f))->te (some (.int (lo+i)) :: fr) H (MpK H1 D f n i))
  (hd:∀ H,yx H1 H->H D=some (.lst ((List.range n).map f))->R H):x8 (Itr lo n) te fr D R H1 :=
 yce (Mp H1 D f) (Mp.zero hD) (fun i H a p=>hs i H a p.1 p.2) fun H p=>hd H p.1 p.2
theorem ypo {tr:TA} {σ:St} {H:Hp} {R:It->Hp->Prop} (h:tr σ H fun vs H1=>∃ i j:Int,vs=[.int i,.int j]/\(-(2 ^ 62) <= i/\i < 2 ^ 62/\-(2 ^ 62) <= j/\j < 2 ^ 62)/\R (Itr i (j - i).toNat) H1):yy3 tr σ H R:=h
end
structure Mk0 (K:W.Frag) (C:Addr):Prop where
 makes:W.makesIn K C=true
 init:W.findIn K (.ref C) "__init__"=some (some (.builtin "object.__init__"))
 kp:W.keepIn K (.ref C)=true
abbrev Cx.compT (X:Cx) (scope:Scope) (ys:List Str) (C:Addr) (xs:List Str) (s2:Shared) (H2:Hp) (fp:List Addr):Cx :=
 { X with N:=xs++ys,s₀:=s2,H₀:=H2,env:=compEnvC scope (j8 ys X.env) C X.env,outer:=X.stack,ex:=fp,fn:=fun _=>false,pn:=[],xe:=fun _ _=>False }
variable {X:Cx}
def j6 (J:It) (g:TG) (te:TE) (n:Nat) (fr:St) (D:Addr) (R:Hp->Prop) (H1:Hp):Prop:=∃ W:Nat->Nat->Hp->Prop,(∃ m,W 0 m (upd H1 D (.lst []))) /\
 ∀ i m H2,W i m H2->(J.stop i H2/\R H2)\/(J.go i H2/\∀ x H3 pre,J.yld i H2 x H3->List.length pre=n->g x (pre++fr) H3 fun σ' H'=>(∃ pre',List.length pre'=n/\σ'=pre'++fr)/\te σ' H' fun y H4=>∃ ys,H4 D=some (.lst ys)/\ys.length < sizeLine/\∃ m',m' < m/\W (i+1) m' (upd H4 D (.lst (ys++[y]))))
def yix (wi:TI) (g:TG) (te:TE) (n:Nat) (js:List Nat):TE:=fun σ H Q=>wi σ H fun J H1=>∀ D,H1 D=none->j6 J g te n (xa js σ) D (fun H2=>Q (.ref D) H2) H1
section
variable {iter elt tg:Expr} {xs:List Str} {g:TG} {pos:Pos} {scope:Scope} {te:TE} {wi:TI} {pins:List (Addr × Obj)} {σ:St} {ys:List Str} {js:List Nat}
theorem É {s2:Shared} {H2:Hp} {it:Addr} {fp:List Addr} {tn:Nat->Heap->Prop} {J:It} (hc:X.calm=true)
  (he:∀ (C:Addr) (s2:Shared) (H2:Hp) (fp:List Addr),PE (X.compT scope ys C xs s2 H2 fp) elt te)
  (hgt:∀ (C:Addr) (s2:Shared) (H2:Hp) (fp:List Addr),PG (X.compT scope ys C xs s2 H2 fp) tg g)
  (hcell:∀ y∈scope.names,y.2≠.cell) (hkind:scope.kind=.function)
  (hfr:∀ y∈scope.names,y.2=.free->y.1∈ys) (hyc:∀ y∈ys,X.env.kindOf y=some .cell) (hrel:∀ y∈ys,(relabel scope X.env).names.lookup y=some .cell) (hjs:js.map (fun j=>X.N[j]?)=ys.map some)
  (I2:Inv X pins σ H2 s2) (T:yf9 X.prog X.w X.K tg J fp it tn) (st2:tn 0 s2.heap) (f2:∀ b∈fp,yc6 X pins H2 b)
  {R:Addr->Hp->Prop} (h:∀ D,H2 D=none->j6 J g te xs.length (xa js σ) D (R D) H2) {RR:Value->Addr->Result->Shared->Prop} {E:Value->Shared->Prop}
  (hR:∀ (D C:Addr) (H':Hp) (s':Shared) (m:Str->Option Value),yc6 X pins H' C->s'.heap.Ns C m->Inv X pins σ H' s'->R D H'->RR (.ref D) C (.ok .next) s') :
  wpAny (model X.prog X.w) X.A (newList []) (fun acc s₃=>wpAny (model X.prog X.w) X.A (newFunctionEnv scope X.env.globals (j8 ys X.env) [] X.env.qual none .none (some X.env)) (fun cenv s₄ =>
   codeAny (model X.prog X.w) X.A (.compStart (.ListComp elt [⟨tg,iter,[],0⟩] scope pos) 0 (.ref it) acc { cenv with scope:=relabel scope X.env }) (RR acc cenv.locals) s₄) E s₃) E s2:=by
 have k:∀ y c,(j8 ys X.env).lookup y=some c->X.env.cells.lookup y=some c:=fun y c e=>by
  obtain ⟨m,rfl⟩:=ů e;obtain ⟨c',q⟩:=I2.ok.has y (.inl (hyc y m));rw [q];rfl
 refine wpAny_newObj_type (wpAny_newFunctionEnv hcell (by intro y hy; simp at hy) (fun h₁ hns₁ hsb₁=>?_) hkind);dsimp only at hns₁ hsb₁ ⊢;generalize Y:s2.heap.push { cls:=.type "list",dict:=none,data:=.seq ([]:List Value).toArray }=G at hns₁ hsb₁ ⊢;have hC:G.objs.size=s2.heap.objs.size+1:=by rw [<- Y,Heap.size_push]
 have a3:s2.heap.objs.size≠G.objs.size:=by rw [hC]; exact ci (dh _)
 have F:s2.heap.objs.size <= G.objs.size:=by rw [hC]; exact Nat.le_succ _
 have f:∀ b,b < s2.heap.objs.size->b≠G.objs.size/\b≠s2.heap.objs.size:=fun b a=>⟨by rw [hC]; exact ci (Nat.lt_succ_of_lt a),ci a⟩;have B:∀ b o,s2.heap.get? b=some o->h₁.get? b=some o:=fun b o e=>hsb₁.extBut b o (f b (bQ e)).1 (bK _ (Y ▸ bK _ e));have a2:h₁.get? s2.heap.objs.size=some { cls:=.type "list",data:=.seq ([]:List Value).toArray }:=hsb₁.extBut _ _ a3 (bK _ (Y ▸ bU _ rfl));have S:∀ b∈fp,b < s2.heap.objs.size:=fun b a=>let ⟨_,e,_⟩:=T.obj 0 _ st2 b a; bQ e;have a4:∀ b∈fp,b∉frs X.stack:=fun b a z=>(bW.mp (I2.stkSub b z)).elim (f2 b a).2.1 (f2 b a).2.2.1;have nC:H2 G.objs.size=none:=I2.hok.fresh F;have nD:H2 s2.heap.objs.size=none:=I2.hok.fresh (bL _)
 have t:∀ y c,(j8 ys X.env).lookup y=some c->∃ v o,s2.heap.get? c=some o/\o.data=.cell v:=fun y c e=>by
  obtain ⟨v,o,q1,q2⟩:=I2.cell y c (k y c e);exact ⟨v,o,q1,q2⟩
 have aa:(X.compT scope ys G.objs.size xs s2 H2 fp).Ok:=by
  refine ⟨I2.ok.mod,hkind,I2.ok.glob,I2.ok.blt,F,fun y z c e P=>I2.ok.inj y z c (k y c e) (k z c P),fun y e=>?_,fun y c z e=>(by cases z),I2.ok.hd,I2.ok.frames,.inl rfl,fun b a=>⟨(f b (S b a)).1,fun y c e=>(f2 b a).2.2.2.2.1 y c (k y c e)⟩,I2.bs,?_,fun b o e a=>?_,fun b a=>a4 b a,I2.stack,I2.stkFree⟩
  .have P:(relabel scope X.env).names.lookup y=some .cell\/(relabel scope X.env).names.lookup y=some .free:=e
   have ad:y∈ys:=by
    rcases P with P | P
    .obtain ⟨k0,m,q⟩:=xm P;rcases q with q | q
     .exact absurd q.symm (hcell _ m)
     .exact hfr _ m q
    .obtain ⟨k0,m,q⟩:=xm P;rcases q with q | q
     .exact hfr _ m q.symm
     .exact hfr _ m q
   exact ⟨_,ξ ad⟩
  .exact cn I2.ok.bsz I2.sz
  .rcases (f2 b a).2.2.2.1 with z | z
   .exact I2.ok.noex b o e z
   .exact absurd (ck (bQ (I2.ok.bs b o e).1) z) (de _)
 have a1:(xa js σ).length=ys.length:=by
  have:=congrArg List.length hjs;simpa [xa] using this
 have I3:∀ tk,Inv (X.compT scope ys G.objs.size xs s2 H2 fp) [] (List.replicate xs.length none++xa js σ) (upd H2 s2.heap.objs.size (.lst [])) { s2 with heap:=h₁,toks:=tk }:=fun tk =>
  ⟨aa,rfl,I2.bare,Un.laid B (bL _) nD,⟨_,hns₁,fun i y v e1 M e3=>by
    by_cases hi0:i < xs.length
    .rw [List.getElem?_append_left (by simpa using hi0),List.getElem?_replicate,if_pos hi0] at M;cases M
    .obtain ⟨i,rfl⟩:∃ i',i=xs.length+i':=⟨i - xs.length,by omega⟩;have e1:ys[i]?=some y:=by rw [c8 (by omega)] at e1; simpa using e1
     have M:(xa js σ)[i]?=some (some v):=by rw [c8 (by simp)] at M; simpa using M
     have hy:y∈ys:=cc e1;have Q:=congrArg (fun l=>l[i]?) hjs;simp only [bN,e1,cY] at Q
     cases q:js[i]? with
     | none=>rw [q] at Q; cases Q
     | some j =>
      rw [q] at Q;have Q:X.N[j]?=some y:=by simpa using Q
      have es:σ[j]?=some (some v):=by
       simp only [xa,bN,q,cY,Option.some.injEq] at M
       cases r:σ[j]? with
       | none=>rw [r] at M; cases M
       | some w'=>rw [r] at M; rw [show w'=some v from M]
      obtain ⟨m0,_,ac⟩:=I2.loc;obtain ⟨u,ru,lk⟩:=ac j y v Q es (.inr (.inl (hyc y hy)));refine ⟨u,ru,.inr ⟨.inl (hrel y hy),?_⟩⟩;rcases lk with ⟨k1,_⟩ | ⟨_,c,ec,o,ho,hd⟩
      .rw [hyc y hy] at k1; cases k1
      .refine ⟨c,?_,o,B c o ho,hd⟩;show (j8 ys X.env).lookup y=some c;rw [ξ hy,ec]
       rfl⟩,fun y c e=>(by
    obtain ⟨v,o,q1,q2⟩:=t y c e
    exact ⟨v,o,B c o q1,q2⟩),(by show upd H2 s2.heap.objs.size _ G.objs.size=none; rw [ym a3.symm]; exact nC),fun y c e=>(by
    obtain ⟨v,o,q1,q2⟩:=t y c e;show upd H2 s2.heap.objs.size _ c=none;rw [ym (f c (bQ q1)).2]
    exact I2.freeC y c (k y c e)),fun p hp=>(by simp at hp),
   I2.hok.laid B (bL _) ⟨cb _,[],_,.nil,a2⟩,by show (List.replicate xs.length none++xa js σ).length=(xs++ys).length; simp [a1]⟩
 have L:∀ {H':Hp},(∀ b∈fp,H' b=none)->∀ b∈fp,yc6 (X.compT scope ys G.objs.size xs s2 H2 fp) [] H' b:=fun hn b a=>⟨hn b a,(f b (S b a)).1,a4 b a,.inl a,fun y c e=>(f2 b a).2.2.2.2.1 y c (k y c e),fun p hp=>(by simp at hp)⟩
 have O:∀ tk,codeAny (model X.prog X.w) X.A (.compLoop (.ListComp elt [⟨tg,iter,[],0⟩] scope pos) 0 (.ref it) (.ref s2.heap.objs.size) (compEnvC scope (j8 ys X.env) G.objs.size X.env)) (RR (.ref s2.heap.objs.size) G.objs.size) { s2 with heap:=h₁,toks:=tk }:=by
  intro tk;obtain ⟨W,⟨m0,w0⟩,a5⟩:=h s2.heap.objs.size nD;refine codeAny_loop rfl (fun n s'=>∃ i v H',List.length v=xs.length/\Inv (X.compT scope ys G.objs.size xs s2 H2 fp) [] (v++xa js σ) H' s'/\tn i s'.heap/\(∀ b∈fp,H' b=none)/\W i n H') (fun n s' hI=>?_) m0
   ⟨0,List.replicate xs.length none,_,by simp,I3 tk,T.keep 0 _ _ st2 (fun b a o e=>B b o e),fun b a=>(by rw [ym (f b (S b a)).2]; exact (f2 b a).1),w0⟩
  obtain ⟨i,v,H',hv,I,st,fr,w⟩:=hI;show wpAny _ _ ((compTurn (.ListComp elt [⟨tg,iter,[],0⟩] scope pos) 0 (.ref it) (.ref s2.heap.objs.size) (compEnvC scope (j8 ys X.env) G.objs.size X.env)).onRaise (fun x=>do noteFrame x (compEnvC scope (j8 ys X.env) G.objs.size X.env); theTreesLotGoes x)) _ _ s';refine wpAny_noted ?_;rw [compTurn_list1];refine bI (wpAny_standAt (bI ?_));rcases a5 i n H' w with ⟨a7,q⟩ | ⟨go,a0⟩
  .refine thn (T.done (X.compT scope ys G.objs.size xs s2 H2 fp) rfl rfl rfl hc i [] s' (v++xa js σ) H' _ I (L fr) st a7) fun r s4 ⟨hr,Z⟩=>?_;subst hr;refine bO ?_;obtain ⟨m,hn,_⟩:=Z.loc;exact hR _ _ H' s4 m (I2.fpOk F Z.free) hn (I2.call' (ch:=fp) Z.os Z.base Z.hok Z.bare fun b a=>⟨(f2 b a).2.2.2.1,(f2 b a).2.1,(f2 b a).2.2.2.2.1,(f2 b a).2.2.2.2.2⟩) q
  .refine thn (T.item (X.compT scope ys G.objs.size xs s2 H2 fp) rfl rfl rfl hc i [] s' (v++xa js σ) H' _ I (L fr) st go) fun r s4 ⟨u,hr,h4⟩=>?_;subst hr;refine bI (thn h4 fun _ s5 ⟨y,H5,I5,r5,y5,U,ab⟩=>bI ?_);have a9:=I5.pinned (L ab) (T.obj _ _ U);refine ytw (hgt _ _ _ _ _ s5 (v++xa js σ) H5 y u _ a9 r5 (a0 y H5 v y5 hv)) fun _ s6 ⟨σ',H6,I6,⟨H,a8,ep⟩,q6⟩=>?_;subst ep;refine bI (bI (ytw (he _ _ _ _ _ s6 (H++xa js σ) H6 _ I6 q6) fun u2 s7 ⟨y2,H7,I7,r7,zs,hD,hl,m',hm,w'⟩=>bI ?_));refine ytw (xi _ s7 (H++xa js σ) H7 (.ref s2.heap.objs.size) [y2] (.ref s2.heap.objs.size) [u2] (fun _ H8=>H8=upd H7 s2.heap.objs.size (.lst (zs++[y2]))) I7 rfl (.cons r7 .nil) ⟨_,zs,y2,rfl,rfl,hD,hl,rfl⟩) fun _ s8 h'=>?_;obtain ⟨_,H8,I8,_,e8⟩:=h';subst e8
   have a6:∀ b∈fp,∀ o,s5.heap.get? b=some o->s8.heap.get? b=some o/\upd H7 s2.heap.objs.size (HO.lst (zs++[y2])) b=none:=fun b a o e =>
    ⟨(I8.pin (b,o) (bY _ (bY _ (xq a e)))).1,(I8.pin (b,o) (bY _ (bY _ (xq a e)))).2.1⟩
   refine bO (bO ⟨rfl,m',hm,i+1,H,_,a8,I8.unpinned,T.keep _ _ _ U fun b a o e=>(a6 b a o e).1,fun b a=>?_,w'⟩);obtain ⟨o,e,d⟩:=T.obj _ _ U b a;exact (a6 b a o e).2
 exact codeAny_compStart_list (O _) (T.self X.A 0 _ _ _ (T.keep 0 _ _ st2 (fun b a o e=>B b o e)) (O _))
theorem ydv (hc:X.calm=true) (hi:PI X tg iter wi) (he:∀ (C:Addr) (s2:Shared) (H2:Hp) (fp:List Addr),PE (X.compT scope ys C xs s2 H2 fp) elt te) (hjs:js.map (fun j=>X.N[j]?)=ys.map some)
  (hgt:∀ (C:Addr) (s2:Shared) (H2:Hp) (fp:List Addr),PG (X.compT scope ys C xs s2 H2 fp) tg g)
  (hclos:closureFor scope X.env=pure (j8 ys X.env)) (hyc:∀ y∈ys,X.env.kindOf y=some .cell) (hrel:∀ y∈ys,(relabel scope X.env).names.lookup y=some .cell)
  (hfr:∀ y∈scope.names,y.2=.free->y.1∈ys:=by decide +kernel) (hcell:∀ y∈scope.names,y.2≠.cell:=by decide +kernel) (hkind:scope.kind=.function:=by rfl)
  (hnames:∀ y∈scope.names,y.2=.local->scope.names.lookup y.1=some .local:=by decide +kernel) (hs:∀ x,foldedSetIterable iter X.env x=pure x:=by intro _; rfl) :
  PE X (.ListComp elt [⟨tg,iter,[],0⟩] scope pos) (yix wi g te xs.length js):=by
 refine .mk fun a s σ H Q I h=>?_;rw [eval_ListComp];refine wpAny_comprehension_free (use:=none) rfl hs hclos hkind hnames (thn (hi a s σ H _ I h) fun v K u=>thn u fun r s2 k=>?_);obtain ⟨G,fp,E,J,H2,e,B,T,d,t,h⟩:=k;subst e;refine É (R:=fun D c=>Q (.ref D) c) (RR:=compPost (model X.prog X.w) X.A X.xe none (EP X a σ Q)) hc he hgt hcell hkind hfr hyc hrel hjs B T d t h ?_;intro D C c z m f p n q;refine ⟨m,p,fun F l=>⟨.ref D,c,?_,rfl,q⟩⟩;exact n.turned (t':=z.toks) (fun b o i e=>l.extBut b o i e) f.1 f.2.1 f.2.2.2.1 f.2.2.2.2.1 f.2.2.2.2.2
theorem ypa {H:Hp} {Q:VK} {n:Nat} (h:wi σ H fun J H1=>∀ D,H1 D=none->j6 J g te n (xa js σ) D (fun H2=>Q (.ref D) H2) H1):yix wi g te n js σ H Q:=h
end
section
variable {iter elt:Expr} {x:Str} {px pos:Pos} {scope:Scope} {te:TE} {wi:TI} {pins:List (Addr × Obj)} {σ:St} {ys:List Str} {js:List Nat}
theorem yv7 {J:It} {fr:St} {D:Addr} {R:Hp->Prop} {H1:Hp} (h:x8 J te fr D R H1):j6 J (xk 0) te 1 fr D R H1:=by
 obtain ⟨W,d,c⟩:=h;refine ⟨W,d,fun i m e w=>(c i m e w).imp id fun ⟨f,y⟩=>⟨f,fun x g a b j=>?_⟩⟩
 match a,j with
 | [z],_=>exact ⟨⟨[some x],rfl,rfl⟩,y x g b⟩
theorem Ĺ {s2:Shared} {H2:Hp} {it:Addr} {fp:List Addr} {tn:Nat->Heap->Prop} {J:It} (hc:X.calm=true)
  (he:∀ (C:Addr) (s2:Shared) (H2:Hp) (fp:List Addr),PE (X.compF scope ys C x s2 H2 fp) elt te)
  (hcell:∀ y∈scope.names,y.2≠.cell) (hkind:scope.kind=.function) (hx:scope.names.lookup x=some .local) (hnd:(x :: ys).Nodup)
  (hfr:∀ y∈scope.names,y.2=.free->y.1∈ys) (hyc:∀ y∈ys,X.env.kindOf y=some .cell) (hrel:∀ y∈ys,(relabel scope X.env).names.lookup y=some .cell) (hjs:js.map (fun j=>X.N[j]?)=ys.map some)
  (I2:Inv X pins σ H2 s2) (T:yf9 X.prog X.w X.K (.Name x px) J fp it tn) (st2:tn 0 s2.heap) (f2:∀ b∈fp,yc6 X pins H2 b)
  {R:Addr->Hp->Prop} (h:∀ D,H2 D=none->x8 J te (xa js σ) D (R D) H2) {RR:Value->Addr->Result->Shared->Prop} {E:Value->Shared->Prop}
  (hR:∀ (D C:Addr) (H':Hp) (s':Shared) (m:Str->Option Value),yc6 X pins H' C->s'.heap.Ns C m->Inv X pins σ H' s'->R D H'->RR (.ref D) C (.ok .next) s') :
  wpAny (model X.prog X.w) X.A (newList []) (fun acc s₃=>wpAny (model X.prog X.w) X.A (newFunctionEnv scope X.env.globals (j8 ys X.env) [] X.env.qual none .none (some X.env)) (fun cenv s₄ =>
   codeAny (model X.prog X.w) X.A (.compStart (.ListComp elt [⟨.Name x px,iter,[],0⟩] scope pos) 0 (.ref it) acc { cenv with scope:=relabel scope X.env }) (RR acc cenv.locals) s₄) E s₃) E s2 :=
 É (tg:=.Name x px) (xs:=[x]) (g:=xk 0) hc he (fun C s2 H2 fp=>w6 (i:=0) hnd rfl (Or.inl (lookup_relabel_local hx)) (Or.inr (lookup_relabel_local hx))) hcell hkind hfr hyc hrel hjs I2 T st2 f2 (fun D a=>yv7 (h D a)) hR
theorem we (hc:X.calm=true) (hi:PI X (.Name x px) iter wi) (he:∀ (C:Addr) (s2:Shared) (H2:Hp) (fp:List Addr),PE (X.compF scope ys C x s2 H2 fp) elt te) (hjs:js.map (fun j=>X.N[j]?)=ys.map some)
  (hclos:closureFor scope X.env=pure (j8 ys X.env)) (hnd:(x :: ys).Nodup:=by decide) (hyc:∀ y∈ys,X.env.kindOf y=some .cell) (hrel:∀ y∈ys,(relabel scope X.env).names.lookup y=some .cell)
  (hfr:∀ y∈scope.names,y.2=.free->y.1∈ys:=by decide +kernel) (hcell:∀ y∈scope.names,y.2≠.cell:=by decide +kernel) (hkind:scope.kind=.function:=by rfl)
  (hnames:∀ y∈scope.names,y.2=.local->scope.names.lookup y.1=some .local:=by decide +kernel) (hx:scope.names.lookup x=some .local:=by rfl) (hs:∀ x,foldedSetIterable iter X.env x=pure x:=by intro _; rfl) :
  PE X (.ListComp elt [⟨.Name x px,iter,[],0⟩] scope pos) (yip wi te js):=by
 refine .mk fun a s σ H Q I h=>?_;rw [eval_ListComp];refine wpAny_comprehension_free (use:=none) rfl hs hclos hkind hnames (thn (hi a s σ H _ I h) fun v G t=>thn t fun p s2 i=>?_);obtain ⟨F,fp,B,J,H2,e,z,T,d,r,h⟩:=i;subst e;refine Ĺ (R:=fun D c=>Q (.ref D) c) (RR:=compPost (model X.prog X.w) X.A X.xe none (EP X a σ Q)) hc he hcell hkind hx hnd hfr hyc hrel hjs z T d r h ?_;intro D C c u m f n l q;refine ⟨m,n,fun E k=>⟨.ref D,c,?_,rfl,q⟩⟩;exact l.turned (t':=u.toks) (fun b o g e=>k.extBut b o g e) f.1 f.2.1 f.2.2.2.1 f.2.2.2.2.1 f.2.2.2.2.2
theorem yea {y:Str} {py spos:Pos} (hN:X.N.Nodup) (hy:X.N[i]?=some y) (hl:X.env.scope.names.lookup y=some .local) (hc:X.calm=true) (hi:PI X (.Name x px) iter wi)
  (he:∀ (C:Addr) (s2:Shared) (H2:Hp) (fp:List Addr),PE (X.compF scope ys C x s2 H2 fp) elt te) (hjs:js.map (fun j=>X.N[j]?)=ys.map some)
  (hclos:closureFor scope X.env=pure (j8 ys X.env)) (hyc:∀ y∈ys,X.env.kindOf y=some .cell) (hrel:∀ y∈ys,(relabel scope X.env).names.lookup y=some .cell)
  (hsw:swapsWith (.ListComp elt [⟨.Name x px,iter,[],0⟩] scope pos) (some (.Name y py)) spos.line X.env=pure true:=by rfl) (hnd:(x :: ys).Nodup:=by decide)
  (hfr:∀ y∈scope.names,y.2=.free->y.1∈ys:=by decide +kernel) (hcell:∀ y∈scope.names,y.2≠.cell:=by decide +kernel) (hkind:scope.kind=.function:=by rfl)
  (hnames:∀ y∈scope.names,y.2=.local->scope.names.lookup y.1=some .local:=by decide +kernel) (hx:scope.names.lookup x=some .local:=by rfl) (hs:∀ x,foldedSetIterable iter X.env x=pure x:=by intro _; rfl) :
  PS X (.Assign [.Name y py] (.ListComp elt [⟨.Name x px,iter,[],0⟩] scope pos) spos) (ytx (yip wi te js) (xk i)):=by
 refine .mk fun a s σ H n I h=>?_;rw [exec_Assign_Name_used _ _ _ _ hsw];refine bI (wpAny_standAt (bI ?_));show wpAny _ X.A (do let _ <- comprehension (.ListComp elt [⟨.Name x px,iter,[],0⟩] scope pos) scope X.env _ (newList []) false (eval iter X.env) (some (assign (.Name y py) X.env))) _ _ s;refine bI (cT (wpAny_comprehension_free (use:=some (assign (.Name y py) X.env)) (Q:=fun _ d=>SP X a n .next d) rfl hs hclos hkind hnames (thn (hi a s σ H _ I h) fun v U u=>thn u fun M s2 E=>?_)) (fun _ d K=>bO (bO K)) fun _ _ e=>e);obtain ⟨S,fp,P,J,H2,e,B,T,r,G,h⟩:=E;subst e;refine Ĺ (R:=fun D k=>xk i (.ref D) σ k n.nx) (RR:=compPost (model X.prog X.w) X.A X.xe (some (assign (.Name y py) X.env)) (fun _ d=>SP X a n .next d)) hc he hcell hkind hx hnd hfr hyc hrel hjs B T r G h ?_;intro D C k d m f L F q;refine wpAny_assign_Name (ζ (v:=V.ref D) F hN hy (Or.inl hl) rfl (fun t g p=>?_) (Or.inr hl));refine ⟨m,?_,fun O l=>⟨_,k,?_,q⟩⟩
 .obtain ⟨b,l,c⟩:=p;refine L.sameBut l fun z=>?_;rcases c with c | c
  .exact f.2.1 (z.trans c)
  .exact f.2.2.2.2.1 y b c z.symm
 .exact g.turned (t':=t.toks) (fun b o c e=>l.extBut b o c e) f.1 f.2.1 f.2.2.2.1 f.2.2.2.2.1 f.2.2.2.2.2
end
end L2
namespace L2
open PySem PySem.Spec PyProof.Rows
section
variable {prog:Program} {w:World} {A:Around} {E:Value->Shared->Prop} {s:Shared}
theorem jw {it l:Addr} {i:Nat} {items} {x:Value} {Q:Value->Shared->Prop} (hit:s.heap.IsTupleIter it l i) (hl:s.heap.IsTuple l items) (hx:items[i]?=some x)
  (hQ:∀ h',h'.IsTupleIter it l (i+1)->Heap.SameBut it s.heap h'->Q x { s with heap:=h' }):wpAny (model prog w) A (Builtin.SmallTypes.nextOf (.ref it)) Q E s:=by
 obtain ⟨f,b,e,a⟩:=id hit;obtain ⟨h,d,_,g,c⟩:=hl;unfold Builtin.SmallTypes.nextOf;refine bI (wpAny_callSpecial?_slot (name:=Str.ofString "__next__") hit.typeIs slot_tupleiter_next (wpAny_call_entry slot_tupleiter_next hit.typeIs entry_tupleiter_next ?_ (args_tupleiter_next _)));show wpAny _ _ (field (.ref it) 0 >>= _) _ _ s;refine bI (cS b a (x:=.ref l) rfl ?_);show wpAny _ _ (if (Value.ref l == Value.none)=true then _ else _) _ _ s;rw [if_neg (show ¬ ((Value.ref l == Value.none)=true) from bS)];show wpAny _ _ (field (.ref it) 1 >>= _) _ _ s;refine bI (cS b a (x:=.int i 0) rfl ?_);show wpAny _ _ (seqItems? (.ref l) >>= _) _ _ s;refine bI (wpAny_seqItems d c ?_);simp only [Int.toNat_natCast,hx];refine bI (wpAny_setField b a (by simp) (bO ⟨x,rfl,bO (hQ _ ⟨_,Heap.get?_update_self _ b (Obj.isFreed_of_fields (Obj.data_mapFields a _)),(Obj.cls_mapFields ..).trans e,?_⟩ (Heap.SameBut.update ..))⟩));rw [Obj.data_mapFields a];simp [rawInt]
theorem ù {it l:Addr} {i:Nat} {items} {Q:Value->Shared->Prop} (hh:A.handled=none) (hit:s.heap.IsTupleIter it l i) (hl:s.heap.IsTuple l items) (hx:items[i]?=none)
  (hE:∀ h' e,Heap.ExtBut it s.heap h'->(∃ o,h'.get? e=some o/\o.cls=.type "StopIteration")->E (.ref e) { s with heap:=h' }):wpAny (model prog w) A (Builtin.SmallTypes.nextOf (.ref it)) Q E s:=by
 obtain ⟨h,c,g,b⟩:=id hit;obtain ⟨k,f,_,j,d⟩:=hl;unfold Builtin.SmallTypes.nextOf;refine bI (wpAny_callSpecial?_slot (name:=Str.ofString "__next__") hit.typeIs slot_tupleiter_next (wpAny_call_entry slot_tupleiter_next hit.typeIs entry_tupleiter_next ?_ (args_tupleiter_next _)))
 (show wpAny _ _ (field (.ref it) 0 >>= _) _ _ s); refine bI (cS c b (x:=.ref l) rfl ?_)
 (show wpAny _ _ (if (Value.ref l == Value.none)=true then _ else _) _ _ s); rw [if_neg (show ¬ ((Value.ref l == Value.none)=true) from bS)]
 (show wpAny _ _ (field (.ref it) 1 >>= _) _ _ s); refine bI (cS c b (x:=.int i 0) rfl ?_)
 (show wpAny _ _ (seqItems? (.ref l) >>= _) _ _ s); refine bI (wpAny_seqItems f d ?_)
 simp only [Int.toNat_natCast,hx]; refine bI (wpAny_rule (bI (wpAny_setField c b (by simp) ?_)))
 (show wpAny _ _ (newExc (.type "StopIteration") [] >>= _) _ _ _); refine bI ?_
 simp only [newExc,newTuple]; refine bI (wpAny_newObj_type ?_ (by size_fits))
 refine bI (m:=firstArgMember _ _) (wpAny_of_eq (a:=Value.none) (by first | rfl | (simp only [firstArgMember]; rfl)) (wpAny_newObj_type ?_ (by size_fits)))
 simp only [raiseNew]; refine bI (wpAny_handled ?_)
 (first | rw [show A.in1.handled=none from hh] | rw [hh]); refine bI (bO (wpAny_throw ?_))
 exact hE _ _ (((Heap.SameBut.update _ ..).extBut.push _).push _) ⟨_,bU _ rfl,rfl⟩
end
section
open AutoSeq1 (wpAny_loadPart')
set_option maxRecDepth 100000
end
end L2
namespace L2
open PySem PySem.Spec PyProof.Rows
end L2
namespace L2
section
variable {σ:St} {H:Hp} {Q:VK} {td ty tx tv:TE}
theorem yv5 (h:td σ H fun x H1=>ty σ H1 fun y H2=>∃ a v,x=.ref a/\Ø H2 a y (some v)/\Q v H2):yzn td ty σ H Q:=h
theorem vbb (h:ty σ H fun y H1=>td σ H1 fun x H2=>∃ a o,x=.ref a/\Ø H2 a y o/\Q (.bl o.isSome) H2):vc2 ty td σ H Q:=h
theorem yjz (h:ty σ H fun y H1=>td σ H1 fun x H2=>∃ a o,x=.ref a/\Ø H2 a y o/\Q (.bl (!o.isSome)) H2):yh1 ty td σ H Q:=h
theorem yvm {nx bk ct:St->Hp->Prop} {rt:VK} (h:tv σ H fun v H1=>td σ H1 fun x H2=>ty σ H2 fun y H3=>∃ a H4,x=.ref a/\yjq H3 a y v H4/\nx σ H4):yy7 td ty tv ⟨nx,rt,bk,ct⟩ σ H:=h
theorem ypn (h:∀ p,H p=none->Q (.ref p) (upd H p (.dT []))):ymq σ H Q:=h
end
end L2
namespace L2
open PySem PySem.Spec PyProof.Rows
variable {i1 i2 l1 l2:Addr} {xs ys:Array Value} {elts:List Expr} {i k1 k2:Nat} {tpos:Pos} {a:Value}
def Itz (K:W.Frag) (a b:Addr):It :=
 ⟨fun i H=>∃ xs ys x y,SqL K H a xs/\SqL K H b ys/\xs[i]?=some x/\ys[i]?=some y,
  fun i H v H'=>∃ t x y,v=.ref t/\H t=none/\H'=upd H t (.tup [x,y])/\(∀ xs,SqL K H a xs->xs[i]?=some x)/\(∀ ys,SqL K H b ys->ys[i]?=some y),
  fun i H=>∃ xs ys,SqL K H a xs/\SqL K H b ys/\(xs.length <= i\/ys.length <= i)⟩
structure Zap (z TI TO i1 i2:Addr):Prop where
 a1:TI≠z
 a2:TO≠z
 a3:i1≠z
 a4:i2≠z
 a5:TI≠TO
 a6:TI≠i1
 a7:TI≠i2
 a8:TO≠i1
 a9:TO≠i2
 b1:i1≠i2
def Zst (z TI TO i1 i2 l1 l2:Addr) (i:Nat) (h:Heap):Prop:=IsZip h z TI TO .none/\IsPair h TI (.ref i1) (.ref i2)/\(∃ a b,IsPair h TO a b)/\h.IsListIter i1 l1 i/\h.IsListIter i2 l2 i
theorem ul {h:Heap} {a b:Addr} {o o':Obj} (e:h.get? a=some o) (e':h.get? b=some o') (n:o.cls≠o'.cls):a≠b:=by
 rintro rfl;rw [e] at e';cases e';exact n rfl
theorem ym9 (z:Nat):Zap (z+4) (z+2) (z+3) z (z+1):=by
 constructor <;> (show (_:Nat)≠(_:Nat); omega)
theorem nT {a b:String} (h:Value.type a≠Value.type b):Value.type a≠Value.type b:=h
theorem Zap.apart {X:Cx} {pins:List (Addr × Obj)} {σ:St} {H:Hp} {s:Shared} {z TI TO:Addr} {xs ys:List Value} (d:Zap z TI TO i1 i2) (st:Zst z TI TO i1 i2 l1 l2 i s.heap) (p:PlainL s.heap l1 xs.toArray) (q:PlainL s.heap l2 ys.toArray) (_:Inv X pins σ H s):ZipApart z TI TO i1 i2 l1 l2:=by
 obtain ⟨n,o,⟨a,b,c⟩,⟨v,j,k,_⟩,⟨t,l,m,_⟩⟩:=st;obtain ⟨r,e,g,_⟩:=p.isList;obtain ⟨u,h,f,_⟩:=q.isList
 exact ⟨d.a1,d.a2,d.a3,d.a4,d.a5,d.a6,d.a7,d.a8,d.a9,d.b1,
  ul e n (by rw [g]; exact nT (by decide)),ul e c (by rw [g]; exact nT (by decide)),ul e j (by rw [g,k]; decide),ul e l (by rw [g,m]; decide),
  ul h n (by rw [f]; exact nT (by decide)),ul h c (by rw [f]; exact nT (by decide)),ul h j (by rw [f,k]; decide),ul h l (by rw [f,m]; decide)⟩
theorem yjx {P:Program} {w:World} {K:W.Frag} {x1} (l1 l2 z TI TO i1 i2:Addr) (d:Zap z TI TO i1 i2) :
  yf9 P w K (.Tuple elts x1 tpos) (Itz K l1 l2) [z,TI,TO,i1,i2] z (Zst z TI TO i1 i2 l1 l2) where
 mem:=by simp
 obj:=fun i h G b g=>by
  obtain ⟨O,j,⟨_,_,m⟩,⟨o1,e1,_,d1⟩,⟨o2,e2,_,d2⟩⟩:=G;simp only [bW,List.not_mem_nil,or_false] at g;rcases g with rfl | rfl | rfl | rfl | rfl
  .exact ⟨_,O,fun v z=>by cases z⟩
  .exact ⟨_,j,fun v z=>by cases z⟩
  .exact ⟨_,m,fun v z=>by cases z⟩
  .exact ⟨o1,e1,fun v z=>by rw [d1] at z; cases z⟩
  .exact ⟨o2,e2,fun v z=>by rw [d2] at z; cases z⟩
 keep:=fun i h T G k=>by
  obtain ⟨O,j,⟨a,b,m⟩,h1,h2⟩:=G;exact ⟨k z (by simp) _ O,k TI (by simp) _ j,⟨a,b,k TO (by simp) _ m⟩,h1.at fun o e=>k i1 (by simp) o e,h2.at fun o e=>k i2 (by simp) o e⟩
 item:=by
  intro X hP hw hK hc i N s σ H E I F G hg;subst hP hw hK;obtain ⟨xs,Z,x,y,Y,J,t,hy⟩:=hg;obtain ⟨ac,rv,p,ad⟩:=I.list Y;obtain ⟨a9,Q,p',a8⟩:=I.list J;obtain ⟨u,hu,ru⟩:=rv.get t;obtain ⟨u',aa,ab⟩:=Q.get hy;have D:=d.apart G p p' I;obtain ⟨O,j,⟨va,vb,m⟩,M,L⟩:=G;refine wpAny_pyNext_zip_item D O j m M L p.isList p'.isList (x:=u) (y:=u') (by simpa using hu) (by simpa using aa) fun T a1 a2 a3 a4 a5 a6 hk=>?_;refine ⟨_,rfl,wpAny_letOwnedTupleGo_zip a1 fun B a7 l=>?_⟩;have C:H s.heap.objs.size=none:=I.hok.fresh (bL _);have lz:z < s.heap.objs.size:=bQ O;have lo:TO < s.heap.objs.size:=bQ m;have lI:TI < s.heap.objs.size:=bQ j;have ae:i1 < s.heap.objs.size:=by obtain ⟨o,e,_⟩:=id M; exact bQ e
  have ag:i2 < s.heap.objs.size:=by obtain ⟨o,e,_⟩:=id L; exact bQ e
  have keep:∀ b o,b≠z->b≠TO->b≠i1->b≠i2->s.heap.get? b=some o->B.get? b=some o:=fun b o U n2 n3 n4 e=>(l.2 b U).trans (hk b o U n2 n3 n4 e);have a0:B.get? s.heap.objs.size=some { cls:=.type "tuple",data:=.seq #[u,u'] }:=(l.2 _ (Nat.ne_of_gt lz)).trans a5;have nt:∀ {b v},H b=some v->b≠z/\b≠TO/\b≠i1/\b≠i2:=fun {b v} e=>⟨yd e (F z (by simp)).1,yd e (F TO (by simp)).1,yd e (F i1 (by simp)).1,yd e (F i2 (by simp)).1⟩
  have S:HOk X.prog X.w (upd H s.heap.objs.size (.tup [x,y])) B:=fun b o e=>by
   by_cases g:b=s.heap.objs.size
   .subst g;rw [yc] at e;cases e;exact ⟨by show 2 <= sizeLine; decide,[u,u'],.cons ru (.cons ab .nil),⟨_,a0,rfl,_,rfl⟩⟩
   .rw [ym g] at e;refine (I.hok b o e).stay (fun c v r q=>?_) (fun c q=>by rw [ym (yd q C)]; exact q) fun c Z q=>by rw [ym (yd q C)]; exact q
    obtain ⟨U,n2,n3,n4⟩:c≠z/\c≠TO/\c≠i1/\c≠i2:=by
     rcases r with rfl | r
     .exact nt e
     .exact nt r
    exact keep c v U n2 n3 n4 q
  have un:Un (frs X.stack) [z,TI,TO,i1,i2] H (upd H s.heap.objs.size (.tup [x,y])) s.heap B:=by
   have R:∀ {b o},b∉[z,TI,TO,i1,i2]->s.heap.get? b=some o->B.get? b=some o:=fun {b o} g e=>keep b o (fun q=>g (by simp [q])) (fun q=>g (by simp [q])) (fun q=>g (by simp [q])) (fun q=>g (by simp [q])) e
   refine ⟨fun b o e n _ t=>R t e,fun b o e n _ t=>⟨o.slots,R t e⟩,fun b o e n _=>by rw [ym (ci (bQ e))]; exact n,fun b o e t=>⟨o,R t e⟩,
    fun b Z e=>by rw [ym (yd e C)]; exact e,fun b o v e=>by rw [ym (yd e C)]; exact e,fun b ps e=>⟨#[],by rw [ym (yd e C),e]; simp⟩⟩
  have I1:Inv X N σ (upd H s.heap.objs.size (.tup [x,y])) { s with heap:=B }:=I.call' (s':={ s with heap:=B }) rfl un S I.bare fun b g=>by
   have f:=F b g;exact ⟨f.2.2.2.1,f.2.1,f.2.2.2.2.1,f.2.2.2.2.2⟩
  refine ⟨.ref s.heap.objs.size,_,I1,rfl,⟨_,x,y,rfl,C,rfl,fun zs h=>by rw [I.list_inj h Y]; exact t,fun zs h=>by rw [I.list_inj h J]; exact hy⟩,?_,fun b g=>?_⟩
  .exact ⟨a7,keep _ _ D.TIz D.TITO D.TIi1 D.TIi2 j,⟨u,u',(l.2 _ D.TOz).trans a2⟩,a3.at fun o e=>(l.2 _ D.i1z).trans e,a4.at fun o e=>(l.2 _ D.i2z).trans e⟩
  .rw [ym (fun q=>?_)]
   .exact (F b g).1
   .have Y:b < s.heap.objs.size:=by
     simp only [bW,List.not_mem_nil,or_false] at g;rcases g with rfl | rfl | rfl | rfl | rfl <;> assumption
    exact absurd q (ci Y)
 done:=by
  intro X hP hw hK hc i N s σ H E I F G hg;subst hP hw hK;obtain ⟨xs,Z,Y,J,t⟩:=hg;obtain ⟨ac,rv,p,ad⟩:=I.list Y;obtain ⟨a9,Q,p',a8⟩:=I.list J;have D:=d.apart G p p' I;obtain ⟨O,j,⟨va,vb,m⟩,M,L⟩:=G;have hl:=rv.length;have af:=Q.length;refine wpAny_pyNext_zip_end (show X.A.handled=none from I.ok.hd hc) D O j m M L p.isList p'.isList (by simp; omega) fun T hk=>⟨rfl,?_⟩;have nt:∀ {b v},H b=some v->b≠z/\b≠TO/\b≠i1/\b≠i2:=fun {b v} e=>⟨yd e (F z (by simp)).1,yd e (F TO (by simp)).1,yd e (F i1 (by simp)).1,yd e (F i2 (by simp)).1⟩
  have S:HOk X.prog X.w H T:=fun b o e=>by
   refine (I.hok b o e).stay (fun c v r q=>?_) (fun c q=>q) fun c Z q=>q
   obtain ⟨U,n2,n3,n4⟩:c≠z/\c≠TO/\c≠i1/\c≠i2:=by
    rcases r with rfl | r
    .exact nt e
    .exact nt r
   exact hk c v U n2 n3 n4 q
  have un:Un (frs X.stack) [z,TI,TO,i1,i2] H H s.heap T:=by
   have R:∀ {b o},b∉[z,TI,TO,i1,i2]->s.heap.get? b=some o->T.get? b=some o:=fun {b o} g e=>hk b o (fun q=>g (by simp [q])) (fun q=>g (by simp [q])) (fun q=>g (by simp [q])) (fun q=>g (by simp [q])) e;exact ⟨fun b o e n _ t=>R t e,fun b o e n _ t=>⟨o.slots,R t e⟩,fun b o e n _=>n,fun b o e t=>⟨o,R t e⟩,fun b Z e=>e,fun b o v e=>e,fun b ps e=>⟨#[],by rw [e]; simp⟩⟩
  exact I.call' (s':={ s with heap:=T }) rfl un S I.bare fun b g=>by
   have f:=F b g;exact ⟨f.2.2.2.1,f.2.1,f.2.2.2.2.1,f.2.2.2.2.2⟩
 self:=fun _ _ _ _ _ G h=>wpAny_pyIter_zip G.1 h
section
variable {X:Cx}
def vcs (K:W.Frag) (ta:TA):TI:=fun σ H R=>ta σ H fun vs H1=>∃ a b,vs=[.ref a,.ref b]/\(∃ xs ys,SqL K H1 a xs/\SqL K H1 b ys)/\R (Itz K a b) H1
theorem ymx {x1} {l m:Expr} {ta:TA} {p pos:Pos} (hg:Gl X "zip") (hm:X.mg "zip"=none) (ha:PA X [l,m] ta) (hs:starEach [l,m] X.env=[(false,eval l X.env),(false,eval m X.env)]:=by rfl) (hs2:starEach [m] X.env=[(false,eval m X.env)]:=by rfl) :
  PI X (.Tuple elts x1 tpos) (.Call (.Name "zip" p) [l,m] [] pos) (vcs X.K ta):=by
 intro f s σ H R I h;refine Call_ (Ē I hg hm (show bootBuiltins "zip"=some (.type "zip") by decide +kernel) (PyProof.Rows.callWith_type1 (thn (ha pos f s σ H _ I h) fun N c h'=>?_) (by rw [hs,hs2]) (by rw [hs2]; rfl)));obtain ⟨O,D,g,G,w⟩:=h';obtain ⟨a,b,e,⟨J,M,E,i⟩,q⟩:=w;subst e
 cases G with
 | cons r rr =>
  cases rr with
  | cons r' rr =>
   cases rr;cases r;cases r';obtain ⟨B,P,F,n⟩:=g.list E;obtain ⟨u,v,o,A⟩:=g.list i;refine call_zip_2 F.isList o.isList fun L n j t y z x C=>?_;refine wpAny_pyIter_zip n ?_;have k:Zap (c.heap.objs.size+4) (c.heap.objs.size+2) (c.heap.objs.size+3) c.heap.objs.size (c.heap.objs.size+1):=ym9 _;refine ⟨c.heap.objs.size+4,[c.heap.objs.size+4,c.heap.objs.size+2,c.heap.objs.size+3,c.heap.objs.size,c.heap.objs.size+1],_,_,D,rfl,g.kept (t':=c.toks) C,yjx a b _ _ _ _ _ k,⟨n,j,⟨_,_,t⟩,y,z⟩,fun b d=>?_,q⟩
   have d:c.heap.objs.size <= b:=by
    simp only [bW,List.not_mem_nil,or_false] at d;rcases d with rfl | rfl | rfl | rfl | rfl <;> omega
   exact g.fpOk d (g.hok.fresh d)
theorem ywy {K:W.Frag} {ta:TA} {σ:St} {H:Hp} {R:It->Hp->Prop} (h:ta σ H fun vs H1=>∃ a b,vs=[.ref a,.ref b]/\(∃ xs ys,SqL K H1 a xs/\SqL K H1 b ys)/\R (Itz K a b) H1):vcs K ta σ H R:=h
end
theorem Ľ {K:W.Frag} {a b D:Addr} {xs ys:List V} {g:TG} {te:TE} {n:Nat} {fr:St} {R:Hp->Prop} {H1:Hp} (f:Nat->V) (hq:SqL K H1 a xs) (hq':SqL K H1 b ys) (hl:ys.length=xs.length) (hD:H1 D=none)
  (hs:∀ i x y H t pre,xs[i]?=some x->ys[i]?=some y->yx H1 H->H D=some (.lst ((List.range i).map f))->H t=none->List.length pre=n->g (.ref t) (pre++fr) (upd H t (.tup [x,y])) fun σ' H'=>(∃ pre',List.length pre'=n/\σ'=pre'++fr)/\te σ' H' (MpK H1 D f xs.length i))
  (hd:∀ H,yx H1 H->H D=some (.lst ((List.range xs.length).map f))->R H):j6 (Itz K a b) g te n fr D R H1:=by
 refine ⟨cW xs.length (Mp H1 D f),⟨xs.length,by simp,cb _,Mp.zero hD⟩,?_⟩;rintro i m H ⟨rfl,o,p⟩;have q:=p.1.seq hq;have c:=p.1.seq hq';by_cases hlt:i < xs.length
 .refine .inr ⟨⟨xs,ys,xs[i],ys[i]'(by omega),q,c,by simp [hlt],by simp [hl,hlt]⟩,fun y H' pre h l=>?_⟩;obtain ⟨t,x,y,rfl,j,rfl,k,d⟩:=h;exact hs i x y H t pre (k xs q) (d ys c) p.1 p.2 j l
 .have e:i=xs.length:=by omega
  subst e;exact .inl ⟨⟨xs,ys,q,c,.inl (bL _)⟩,hd H p.1 p.2⟩
section
variable {X:Cx} {iter elt tg:Expr} {xs:List Str} {g:TG} {pos:Pos} {scope:Scope} {te:TE} {wi:TI} {ys:List Str} {js:List Nat}
theorem yjw {y:Str} {py spos:Pos} (hN:X.N.Nodup) (hy:X.N[i]?=some y) (hl:X.env.scope.names.lookup y=some .local) (hc:X.calm=true) (hi:PI X tg iter wi)
  (he:∀ (C:Addr) (s2:Shared) (H2:Hp) (fp:List Addr),PE (X.compT scope ys C xs s2 H2 fp) elt te) (hjs:js.map (fun j=>X.N[j]?)=ys.map some)
  (hgt:∀ (C:Addr) (s2:Shared) (H2:Hp) (fp:List Addr),PG (X.compT scope ys C xs s2 H2 fp) tg g)
  (hclos:closureFor scope X.env=pure (j8 ys X.env)) (hyc:∀ y∈ys,X.env.kindOf y=some .cell) (hrel:∀ y∈ys,(relabel scope X.env).names.lookup y=some .cell)
  (hsw:swapsWith (.ListComp elt [⟨tg,iter,[],0⟩] scope pos) (some (.Name y py)) spos.line X.env=pure true:=by rfl)
  (hfr:∀ y∈scope.names,y.2=.free->y.1∈ys:=by decide +kernel) (hcell:∀ y∈scope.names,y.2≠.cell:=by decide +kernel) (hkind:scope.kind=.function:=by rfl)
  (hnames:∀ y∈scope.names,y.2=.local->scope.names.lookup y.1=some .local:=by decide +kernel) (hs:∀ x,foldedSetIterable iter X.env x=pure x:=by intro _; rfl) :
  PS X (.Assign [.Name y py] (.ListComp elt [⟨tg,iter,[],0⟩] scope pos) spos) (ytx (yix wi g te xs.length js) (xk i)):=by
 refine .mk fun a s σ H p I h=>?_;rw [exec_Assign_Name_used _ _ _ _ hsw];refine bI (wpAny_standAt (bI ?_));show wpAny _ X.A (do let _ <- comprehension (.ListComp elt [⟨tg,iter,[],0⟩] scope pos) scope X.env _ (newList []) false (eval iter X.env) (some (assign (.Name y py) X.env))) _ _ s;refine bI (cT (wpAny_comprehension_free (use:=some (assign (.Name y py) X.env)) (Q:=fun _ d=>SP X a p .next d) rfl hs hclos hkind hnames (thn (hi a s σ H _ I h) fun v W B=>thn B fun O s2 F=>?_)) (fun _ d L=>bO (bO L)) fun _ _ e=>e);obtain ⟨U,fp,S,J,H2,e,E,T,t,K,h⟩:=F;subst e;refine É (R:=fun D l=>xk i (.ref D) σ l p.nx) (RR:=compPost (model X.prog X.w) X.A X.xe (some (assign (.Name y py) X.env)) (fun _ d=>SP X a p .next d)) hc he hgt hcell hkind hfr hyc hrel hjs E T t K h ?_;intro D C l d m f M G q;refine wpAny_assign_Name (ζ (v:=V.ref D) G hN hy (Or.inl hl) rfl (fun u k r=>?_) (Or.inr hl));refine ⟨m,?_,fun P n=>⟨_,l,?_,q⟩⟩
 .obtain ⟨b,n,c⟩:=r;refine M.sameBut n fun z=>?_;rcases c with c | c
  .exact f.2.1 (z.trans c)
  .exact f.2.2.2.2.1 y b c z.symm
 .exact k.turned (t':=u.toks) (fun b o c e=>n.extBut b o c e) f.1 f.2.1 f.2.2.2.1 f.2.2.2.2.1 f.2.2.2.2.2
end
section
variable {X:Cx}
def onI (f:Int->Int):V->V
 | .int i=>.int (f i)
 | v=>v
theorem yhw (f:Int->Int) (ns:List Int):(ns.map V.int).map (onI f)=(ns.map f).map V.int:=by
 rw [cu,cu];rfl
theorem yiu {pre:List (Option V)} (h:List.length pre=2):∃ v1 v2,pre=[v1,v2]:=by
 match pre,h with
 | [v1,v2],_=>exact ⟨v1,v2,rfl⟩
end
section
variable {X:Cx}
def yy6:V->List V->Hp->VK->Prop:=fun x vs H Q=>∃ i:Int,x=.int i/\vs=[]/\Q (.int (Builtin.Int.intBits i:Nat)) H
theorem yqn:MtR X "int.bit_length" yy6:=by
 intro b s σ H x e v f Q I d c h;obtain ⟨i,rfl,rfl,q⟩:=h;obtain ⟨t,rfl⟩:=d;have a:=c.zero;subst a;exact PyProof.Rows.call_int_bit_length ⟨.int _,H,I.tok _,⟨_,rfl⟩,q⟩
theorem yxh {K:W.Frag} {i:Int} {H:Hp} {Q:VK} (h:Q (.int (Builtin.Int.intBits i:Nat)) H):tyV K "int" (.int i) H/\yy6 (.int i) [] H Q:=⟨rfl,i,rfl,rfl,h⟩
end
section
variable {prog:Program} {w:World} {A:Around} {E:Value->Shared->Prop} {s:Shared}
theorem yj4 {z TI TO:Addr} {x y b:Value} {Q:Value->Shared->Prop} (D:ZipApart z TI TO i1 i2 l1 l2) (hz:IsZip s.heap z TI TO .none) (hTI:IsPair s.heap TI (.ref i1) (.ref i2)) (hTO:IsPair s.heap TO a b)
  (h1:s.heap.IsTupleIter i1 l1 k1) (h2:s.heap.IsTupleIter i2 l2 k2) (hl1:s.heap.IsTuple l1 xs) (hl2:s.heap.IsTuple l2 ys) (hx:xs[k1]?=some x) (hy:ys[k2]?=some y)
  (hQ:∀ h',IsZip h' z TI TO (rawInt s.heap.objs.size)->IsPair h' TO x y->h'.IsTupleIter i1 l1 (k1+1)->h'.IsTupleIter i2 l2 (k2+1)->IsPair h' s.heap.objs.size x y->h'.objs.size=s.heap.objs.size+1->(∀ c o,c≠z->c≠TO->c≠i1->c≠i2->s.heap.get? c=some o->h'.get? c=some o)->Q (.ref s.heap.objs.size) { s with heap:=h' }) :
  wpAny (model prog w) A (Builtin.«zip.__next__» ⟨[.ref z],[]⟩) (fun fin s'=>∃ v,fin=.done (.ret v)/\Q v s') E s:=by
 (show wpAny _ _ (field (.ref z) 2 >>= _) _ _ _); refine bI (cS hz rfl (x:=.bool false) rfl ?_)
 (show wpAny _ _ (field (.ref z) 3 >>= _) _ _ _); refine bI (cS hz rfl (x:=.ref TI) rfl ?_); refine bI (wpAny_seqItems hTI rfl ?_)
 (show wpAny _ _ (Builtin.SmallTypes.ownedTupleIsFree (.ref z) >>= _) _ _ _); refine bI ?_; unfold Builtin.SmallTypes.ownedTupleIsFree
 refine bI (cS hz rfl (x:=.none) rfl (bO ?_)); simp only [if_true]; refine bI (wpAny_rule ?_);refine bI (cS hz rfl (x:=.ref TO) rfl ?_); refine bI (wpAny_setField_rec hz (by simp) fun h₁ hz₁ hs₁=>?_)
 replace hz₁:IsZip h₁ z TI TO .ellipsis:=hz₁; refine bI ?_; simp only [List.zipIdx_cons,List.zipIdx_nil,List.forIn_cons,List.forIn_nil]
 refine bI (bI (wpAny_onRaise ?_)); (show wpAny _ _ (Builtin.SmallTypes.nextOf (.ref i1) >>= _) _ _ _);refine bI (jw (h1.at fun o e=>hs₁.extBut _ _ D.i1z e) (hl1.extBut hs₁.extBut D.l1z) hx fun h₂ h1₂ hs₂=>bO ?_);have hTO₂:IsPair h₂ TO a b:=hs₂.extBut _ _ D.TOi1 (hs₁.extBut _ _ D.TOz hTO); refine bI (wpAny_seqItems hTO₂ rfl ?_);refine bI (wpAny_updateSeq_pair hTO₂ fun h₃ hTO₃ hs₃=>?_); replace hTO₃:IsPair h₃ TO x b:=hTO₃; refine bI (wpAny_letGo (bO ?_));refine bI (bI (wpAny_onRaise ?_)); (show wpAny _ _ (Builtin.SmallTypes.nextOf (.ref i2) >>= _) _ _ _);refine bI (jw (h2.at fun o e=>hs₃.extBut _ _ D.TOi2.symm (hs₂.extBut _ _ D.i12.symm (hs₁.extBut _ _ D.i2z e))) (((hl2.extBut hs₁.extBut D.l2z).extBut hs₂.extBut D.l2i1).extBut hs₃.extBut D.l2TO) hy fun h₄ h2₄ hs₄=>bO ?_);have hTO₄:IsPair h₄ TO x b:=hs₄.extBut _ _ D.TOi2 hTO₃; refine bI (wpAny_seqItems hTO₄ rfl ?_);refine bI (wpAny_updateSeq_pair hTO₄ fun h₅ hTO₅ hs₅=>?_); replace hTO₅:IsPair h₅ TO x y:=hTO₅; refine bI (wpAny_letGo (bO (bO ?_)));refine bI (wpAny_seqItems hTO₅ rfl ?_); refine bI (wpAny_newTuple ?_);have g:h₅.objs.size=s.heap.objs.size:=by (rw [hs₅.1,hs₄.1,hs₃.1,hs₂.1,hs₁.1])
 have hz₅:IsZip h₅ z TI TO .ellipsis:=(hs₅.extBut _ _ D.TOz.symm (hs₄.extBut _ _ D.i2z.symm (hs₃.extBut _ _ D.TOz.symm (hs₂.extBut _ _ D.i1z.symm hz₁))));have hk₅:∀ c o,c≠z->c≠TO->c≠i1->c≠i2->s.heap.get? c=some o->h₅.get? c=some o:=fun c o f k l m e=>hs₅.extBut _ _ k (hs₄.extBut _ _ m (hs₃.extBut _ _ k (hs₂.extBut _ _ l (hs₁.extBut _ _ f e))));have h1₅:h₅.IsTupleIter i1 l1 (k1+1):=h1₂.at fun o e=>hs₅.extBut _ _ D.TOi1.symm (hs₄.extBut _ _ D.i12 (hs₃.extBut _ _ D.TOi1.symm e));have h2₅:h₅.IsTupleIter i2 l2 (k2+1):=h2₄.at fun o e=>hs₅.extBut _ _ D.TOi2.symm e;have d:z < h₅.objs.size:=(bQ hz₅)
 (show wpAny _ _ (Builtin.SmallTypes.ownedTupleHandOut (.ref z) (.ref h₅.objs.size) >>= _) _ _ _); refine bI ?_; unfold Builtin.SmallTypes.ownedTupleHandOut
 have hz₆:IsZip (h₅.push { cls:=.type "tuple",data:=.seq #[x,y] }) z TI TO .ellipsis:=(bK _ hz₅);refine bI (wpAny_setField_rec hz₆ (by simp) fun h₇ hz₇ hs₇=>?_); replace hz₇:IsZip h₇ z TI TO (rawInt h₅.objs.size):=hz₇;refine wpAny_setField_rec hz₇ (by simp) fun h₈ hz₈ hs₈=>?_; replace hz₈:IsZip h₈ z TI TO (rawInt h₅.objs.size):=hz₈;have j:∀ c o,c≠z->h₅.get? c=some o->h₈.get? c=some o:=(fun c o f e=>hs₈.extBut _ _ f (hs₇.extBut _ _ f (bK _ e)));have hT₈:IsPair h₈ h₅.objs.size x y:=(hs₈.extBut _ _ (Nat.ne_of_gt d) (hs₇.extBut _ _ (Nat.ne_of_gt d) (bU _ rfl)));have i:h₈.objs.size=h₅.objs.size+1:=by (rw [hs₈.1,hs₇.1,Heap.size_push])
 (rw [g] at hz₈ hT₈ i); refine bO ⟨_,rfl,?_⟩; show Q (.ref h₅.objs.size) _; rw [g]
 exact hQ h₈ hz₈ (j _ _ D.TOz hTO₅) (h1₅.at fun o e=>j _ o D.i1z e) (h2₅.at fun o e=>j _ o D.i2z e) hT₈ i (fun c o f k l m e=>j c o f (hk₅ c o f k l m e))
theorem you {z TI TO:Addr} {b:Value} {Q:Fin->Shared->Prop} (hh:A.handled=none) (D:ZipApart z TI TO i1 i2 l1 l2) (hz:IsZip s.heap z TI TO .none) (hTI:IsPair s.heap TI (.ref i1) (.ref i2)) (hTO:IsPair s.heap TO a b)
  (h1:s.heap.IsTupleIter i1 l1 k1) (h2:s.heap.IsTupleIter i2 l2 k2) (hl1:s.heap.IsTuple l1 xs) (hl2:s.heap.IsTuple l2 ys) (hend:xs[k1]?=none\/ys[k2]?=none)
  (hE:∀ h' e,(∀ c o,c≠z->c≠TO->c≠i1->c≠i2->s.heap.get? c=some o->h'.get? c=some o)->(∃ o,h'.get? e=some o/\o.cls=.type "StopIteration")->E (.ref e) { s with heap:=h' }):wpAny (model prog w) A (Builtin.«zip.__next__» ⟨[.ref z],[]⟩) Q E s:=by
 (show wpAny _ _ (field (.ref z) 2 >>= _) _ _ _); refine bI (cS hz rfl (x:=.bool false) rfl ?_)
 (show wpAny _ _ (field (.ref z) 3 >>= _) _ _ _); refine bI (cS hz rfl (x:=.ref TI) rfl ?_); refine bI (wpAny_seqItems hTI rfl ?_)
 (show wpAny _ _ (Builtin.SmallTypes.ownedTupleIsFree (.ref z) >>= _) _ _ _); refine bI ?_; unfold Builtin.SmallTypes.ownedTupleIsFree
 refine bI (cS hz rfl (x:=.none) rfl (bO ?_)); simp only [if_true]; refine bI (wpAny_rule ?_);refine bI (cS hz rfl (x:=.ref TO) rfl ?_); refine bI (wpAny_setField_rec hz (by simp) fun h₁ hz₁ hs₁=>?_)
 replace hz₁:IsZip h₁ z TI TO .ellipsis:=hz₁; refine bI ?_; simp only [List.zipIdx_cons,List.zipIdx_nil,List.forIn_cons,List.forIn_nil]
 refine bI (bI (wpAny_onRaise ?_)); (show wpAny _ _ (Builtin.SmallTypes.nextOf (.ref i1) >>= _) _ _ _)
 cases hx:xs[k1]? with
 | none =>
  refine bI (ù hh (h1.at fun o e=>hs₁.extBut _ _ D.i1z e) (hl1.extBut hs₁.extBut D.l1z) hx fun h₂ e hs₂ l=>?_);obtain ⟨j,d,f⟩:=l; have hz₂:IsZip h₂ z TI TO .ellipsis:=hs₂ _ _ D.i1z.symm hz₁;have g:e≠z:=(fun x=>by (subst x; rw [hz₂] at d; cases d; simp at f));exact wpAny_setField_rec hz₂ (by simp) fun h₃ _ hs₃=>hE h₃ e (fun c o i _ k _ x=>hs₃.extBut _ _ i (hs₂ _ _ k (hs₁.extBut _ _ i x))) ⟨j,hs₃.extBut _ _ g d,f⟩
 | some x =>
  have m:ys[k2]?=none:=by (rcases hend with h | h; (rw [hx] at h; cases h); exact h)
  refine bI (jw (h1.at fun o e=>hs₁.extBut _ _ D.i1z e) (hl1.extBut hs₁.extBut D.l1z) hx fun h₂ h1₂ hs₂=>bO ?_);have hTO₂:IsPair h₂ TO a b:=(hs₂.extBut _ _ D.TOi1 (hs₁.extBut _ _ D.TOz hTO)); refine bI (wpAny_seqItems hTO₂ rfl ?_);refine bI (wpAny_updateSeq_pair hTO₂ fun h₃ hTO₃ hs₃=>?_); refine bI (wpAny_letGo (bO ?_));refine bI (bI (wpAny_onRaise ?_)); (show wpAny _ _ (Builtin.SmallTypes.nextOf (.ref i2) >>= _) _ _ _);refine bI (ù hh (h2.at fun o e=>hs₃.extBut _ _ D.TOi2.symm (hs₂.extBut _ _ D.i12.symm (hs₁.extBut _ _ D.i2z e))) (((hl2.extBut hs₁.extBut D.l2z).extBut hs₂.extBut D.l2i1).extBut hs₃.extBut D.l2TO) m fun h₄ e hs₄ l=>?_);obtain ⟨j,d,f⟩:=l; have hz₄:IsZip h₄ z TI TO .ellipsis:=hs₄ _ _ D.i2z.symm (hs₃.extBut _ _ D.TOz.symm (hs₂.extBut _ _ D.i1z.symm hz₁));have g:e≠z:=(fun x=>by (subst x; rw [hz₄] at d; cases d; simp at f));exact wpAny_setField_rec hz₄ (by simp) fun h₅ _ hs₅=>hE h₅ e (fun c o i n k p x=>hs₅.extBut _ _ i (hs₄ _ _ p (hs₃.extBut _ _ n (hs₂.extBut _ _ k (hs₁.extBut _ _ i x))))) ⟨j,hs₅.extBut _ _ g d,f⟩
theorem yjy {z TI TO:Addr} {x y b:Value} {Q:Option Value->Shared->Prop} (D:ZipApart z TI TO i1 i2 l1 l2) (hz:IsZip s.heap z TI TO .none) (hTI:IsPair s.heap TI (.ref i1) (.ref i2)) (hTO:IsPair s.heap TO a b)
  (h1:s.heap.IsTupleIter i1 l1 k1) (h2:s.heap.IsTupleIter i2 l2 k2) (hl1:s.heap.IsTuple l1 xs) (hl2:s.heap.IsTuple l2 ys) (hx:xs[k1]?=some x) (hy:ys[k2]?=some y)
  (hQ:∀ h',IsZip h' z TI TO (rawInt s.heap.objs.size)->IsPair h' TO x y->h'.IsTupleIter i1 l1 (k1+1)->h'.IsTupleIter i2 l2 (k2+1)->IsPair h' s.heap.objs.size x y->h'.objs.size=s.heap.objs.size+1->(∀ c o,c≠z->c≠TO->c≠i1->c≠i2->s.heap.get? c=some o->h'.get? c=some o)->Q (some (.ref s.heap.objs.size)) { s with heap:=h' }) :
  wpAny (model prog w) A (pyNext (.ref z)) Q E s:=by
 have d:s.TypeIs (.ref z) "zip":=(⟨_,hz,rfl⟩); unfold pyNext;exact bI (wpAny_attempt (wpAny_callSpecial?_slot (name:=Str.ofString "__next__") d F.slot_zip_next (wpAny_call_entry F.slot_zip_next d F.entry_zip_next
   (yj4 D hz hTI hTO h1 h2 hl1 hl2 hx hy fun h' k h e g f i j=>bO (hQ h' k h e g f i j)) (F.args_zip_next_1 _))))
theorem yj2 {z TI TO:Addr} {b:Value} {Q:Option Value->Shared->Prop} (hh:A.handled=none) (D:ZipApart z TI TO i1 i2 l1 l2) (hz:IsZip s.heap z TI TO .none) (hTI:IsPair s.heap TI (.ref i1) (.ref i2)) (hTO:IsPair s.heap TO a b)
  (h1:s.heap.IsTupleIter i1 l1 k1) (h2:s.heap.IsTupleIter i2 l2 k2) (hl1:s.heap.IsTuple l1 xs) (hl2:s.heap.IsTuple l2 ys) (hend:xs[k1]?=none\/ys[k2]?=none)
  (hQ:∀ h',(∀ c o,c≠z->c≠TO->c≠i1->c≠i2->s.heap.get? c=some o->h'.get? c=some o)->Q none { s with heap:=h' }):wpAny (model prog w) A (pyNext (.ref z)) Q E s:=by
 have d:s.TypeIs (.ref z) "zip":=(⟨_,hz,rfl⟩); unfold pyNext;refine bI (wpAny_attempt (wpAny_callSpecial?_slot (name:=Str.ofString "__next__") d F.slot_zip_next (wpAny_call_entry F.slot_zip_next d F.entry_zip_next
  (you hh D hz hTI hTO h1 h2 hl1 hl2 hend fun h' e i h=>?_) (F.args_zip_next_1 _))))
 obtain ⟨o,f,g⟩:=h; refine bI (wpAny_isInstance (T:="StopIteration") (b:=true) ⟨o,f,g⟩ isSubtype_stop ?_);exact bO (hQ _ i)
end
abbrev zT1 (h:Heap) (l1:Addr):Heap:=h.push { cls:=.type "tuple_iterator",data:=.fields #[.ref l1,.int 0 0] }
abbrev zT2 (h:Heap) (l1 l2:Addr):Heap:=(zT1 h l1).push { cls:=.type "tuple_iterator",data:=.fields #[.ref l2,.int 0 0] }
abbrev zT3 (h:Heap) (l1 l2:Addr):Heap:=(zT2 h l1 l2).push { cls:=.type "tuple",data:=.seq #[.ref h.objs.size,.ref (zT1 h l1).objs.size] }
abbrev zT4 (h:Heap) (l1 l2:Addr):Heap:=(zT3 h l1 l2).push { cls:=.type "tuple",data:=.seq #[.none,.none] }
abbrev zT5 (h:Heap) (l1 l2:Addr):Heap:=(zT4 h l1 l2).push { cls:=.type "zip",data:=.fields #[.none,.bool false,.bool false,.ref (zT2 h l1 l2).objs.size,.ref (zT3 h l1 l2).objs.size] }
theorem yql (l1 l2:Addr) (xs ys:Array Value):Meets (Builtin.«zip.__new__» ⟨[.type "zip",.ref l1,.ref l2],[]⟩) (fun _ R s=>s.heap.IsTuple l1 xs/\s.heap.IsTuple l2 ys/\R (.ok (.ret (.ref (zT4 s.heap l1 l2).objs.size))) { s with heap:=zT5 s.heap l1 l2 }) :=
 .of_wp fun f w A R s h=>by
  obtain ⟨k,g,d,j,l⟩:=s;obtain ⟨e,c,h⟩:=h;have i:=sub_zip;have b:Heap.IsTuple (Shared.heap ⟨k,g,d,j,l⟩) l1 xs:=e;have a:Heap.IsTuple (Shared.heap ⟨k.push { cls:=.type "tuple_iterator",data:=.fields #[.ref l1,.int 0 0] },g,d,j,l⟩) l2 ys:=Heap.IsTuple.push c _
  wp_walk using wpAny_pyIter_tuple b,wpAny_pyIter_tuple a
  exact ⟨_,rfl,h⟩
section
variable {prog:Program} {w:World} {A:Around} {E:Value->Shared->Prop} {s:Shared}
theorem yj6 {Q:Value->Shared->Prop} (hl1:s.heap.IsTuple l1 xs) (hl2:s.heap.IsTuple l2 ys)
  (h:∀ h',IsZip h' (s.heap.objs.size+4) (s.heap.objs.size+2) (s.heap.objs.size+3) .none->IsPair h' (s.heap.objs.size+2) (.ref s.heap.objs.size) (.ref (s.heap.objs.size+1))->IsPair h' (s.heap.objs.size+3) .none .none->h'.IsTupleIter s.heap.objs.size l1 0->h'.IsTupleIter (s.heap.objs.size+1) l2 0 ->
   (∀ c o,s.heap.get? c=some o->h'.get? c=some o)->Q (.ref (s.heap.objs.size+4)) { s with heap:=h' }):wpAny (model prog w) A (call (.type "zip") [.ref l1,.ref l2]) Q E s:=by
 refine callType_new F.called_zip (by decide) (F.typeCall_zip_2 _ _) (F.newCall_zip_2 _ _) (fun d=>F.args_object_init_3 d _ _) F.entry_zip_new (yql l1 l2 xs ys) ⟨hl1,hl2,?_⟩;have e:(zT1 s.heap l1).objs.size=s.heap.objs.size+1:=Heap.size_push ..;have b:(zT2 s.heap l1 l2).objs.size=s.heap.objs.size+2:=by rw [Heap.size_push,e]
 have a:(zT3 s.heap l1 l2).objs.size=s.heap.objs.size+3:=by rw [Heap.size_push,b]
 have f:(zT4 s.heap l1 l2).objs.size=s.heap.objs.size+4:=by rw [Heap.size_push,a]
 have g5:(zT5 s.heap l1 l2).get? (zT4 s.heap l1 l2).objs.size=some _:=bU _ rfl;have g4:(zT5 s.heap l1 l2).get? (zT3 s.heap l1 l2).objs.size=some _:=bK _ (bU _ rfl);have g3:(zT5 s.heap l1 l2).get? (zT2 s.heap l1 l2).objs.size=some _:=bK _ (bK _ (bU _ rfl));have g2:(zT5 s.heap l1 l2).get? (zT1 s.heap l1).objs.size=some _:=bK _ (bK _ (bK _ (bU _ rfl)));have g1:(zT5 s.heap l1 l2).get? s.heap.objs.size=some _:=(bK _ (bK _ (bK _ (bK _ (bU _ rfl)))));show _/\_;rw [b,a,f] at g5;rw [e,b] at g3;rw [a] at g4;rw [e] at g2;rw [f];exact ⟨⟨_,g5,rfl⟩,h _ g5 g3 g4 ⟨_,g1,rfl,rfl⟩ ⟨_,g2,rfl,rfl⟩ fun c o x=>(bK _ (bK _ (bK _ (bK _ (bK _ x)))))⟩
end
def yzz (K:W.Frag) (a b:Addr):It :=
 ⟨fun i H=>∃ xs ys x y,SqT K H a xs/\SqT K H b ys/\xs[i]?=some x/\ys[i]?=some y,
  fun i H v H'=>∃ t x y,v=.ref t/\H t=none/\H'=upd H t (.tup [x,y])/\(∀ xs,SqT K H a xs->xs[i]?=some x)/\(∀ ys,SqT K H b ys->ys[i]?=some y),
  fun i H=>∃ xs ys,SqT K H a xs/\SqT K H b ys/\(xs.length <= i\/ys.length <= i)⟩
def vct (z TI TO i1 i2 l1 l2:Addr) (i:Nat) (h:Heap):Prop:=IsZip h z TI TO .none/\IsPair h TI (.ref i1) (.ref i2)/\(∃ a b,IsPair h TO a b)/\h.IsTupleIter i1 l1 i/\h.IsTupleIter i2 l2 i
theorem Zap.apartT {X:Cx} {H:Hp} {s:Shared} {z TI TO:Addr} {xs ys:List Value} {us vs:List V} (d:Zap z TI TO i1 i2) (st:vct z TI TO i1 i2 l1 l2 i s.heap) (p:s.heap.IsTuple l1 xs.toArray) (q:s.heap.IsTuple l2 ys.toArray) (hn:H TO=none) (hK:X.K.lookup TO=none)
  (hq:SqT X.K H l1 us) (hq':SqT X.K H l2 vs):ZipApart z TI TO i1 i2 l1 l2:=by
 obtain ⟨t,v,⟨a,b,w⟩,⟨B,k,m,_⟩,⟨A,n,r,_⟩⟩:=st;obtain ⟨y,e,g,_⟩:=p;obtain ⟨x,j,f,_⟩:=q
 have c:∀ {l:Addr} {u:List V},SqT X.K H l u->l≠TO:=fun {l u} h=>by
  rintro rfl;rcases h with (h | ⟨o,h⟩) | ⟨_,_,_,h,_⟩
  .rw [hn] at h; cases h
  .rw [hn] at h; cases h
  .rw [hK] at h; cases h
 exact ⟨d.a1,d.a2,d.a3,d.a4,d.a5,d.a6,d.a7,d.a8,d.a9,d.b1,
  ul e t (by rw [g]; exact nT (by decide)),c hq,ul e k (by rw [g,m]; decide),ul e n (by rw [g,r]; decide),
  ul j t (by rw [f]; exact nT (by decide)),c hq',ul j k (by rw [f,m]; decide),ul j n (by rw [f,r]; decide)⟩
theorem yhj {P:Program} {w:World} {K:W.Frag} {x1} (l1 l2 z TI TO i1 i2:Addr) (d:Zap z TI TO i1 i2) (hKT:K.lookup TO=none) :
  yf9 P w K (.Tuple elts x1 tpos) (yzz K l1 l2) [z,TI,TO,i1,i2] z (vct z TI TO i1 i2 l1 l2) where
 mem:=by simp
 obj:=fun i h J b g=>by
  obtain ⟨Q,j,⟨_,_,m⟩,⟨o1,e1,_,d1⟩,⟨o2,e2,_,d2⟩⟩:=J;simp only [bW,List.not_mem_nil,or_false] at g;rcases g with rfl | rfl | rfl | rfl | rfl
  .exact ⟨_,Q,fun v z=>by cases z⟩
  .exact ⟨_,j,fun v z=>by cases z⟩
  .exact ⟨_,m,fun v z=>by cases z⟩
  .exact ⟨o1,e1,fun v z=>by rw [d1] at z; cases z⟩
  .exact ⟨o2,e2,fun v z=>by rw [d2] at z; cases z⟩
 keep:=fun i h h' J k=>by
  obtain ⟨Q,j,⟨a,b,m⟩,h1,h2⟩:=J;exact ⟨k z (by simp) _ Q,k TI (by simp) _ j,⟨a,b,k TO (by simp) _ m⟩,h1.at fun o e=>k i1 (by simp) o e,h2.at fun o e=>k i2 (by simp) o e⟩
 item:=by
  intro X hP hw hK hc i O s σ H E I C J hg;subst hP hw hK;obtain ⟨xs,ys,x,y,R,F,t,hy⟩:=hg;obtain ⟨U,rv,p0,ab⟩:=I.tuple R;obtain ⟨L,S,T,a8⟩:=I.tuple F;have p:s.heap.IsTuple l1 U.toArray:=p0;have p':s.heap.IsTuple l2 L.toArray:=T;obtain ⟨u,hu,ru⟩:=rv.get t;obtain ⟨u',a9,aa⟩:=S.get hy;have D:=d.apartT J p p' (C TO (by simp)).1 hKT R F;obtain ⟨Q,j,⟨va,vb,m⟩,N,M⟩:=J;refine yjy D Q j m N M p p' (x:=u) (y:=u') (by simpa using hu) (by simpa using a9) fun h' a1 a2 a3 a4 a5 a6 hk=>?_;refine ⟨_,rfl,wpAny_letOwnedTupleGo_zip a1 fun B a7 l=>?_⟩;have G:H s.heap.objs.size=none:=I.hok.fresh (bL _);have lz:z < s.heap.objs.size:=bQ Q;have lo:TO < s.heap.objs.size:=bQ m;have lI:TI < s.heap.objs.size:=bQ j;have ac:i1 < s.heap.objs.size:=by obtain ⟨o,e,_⟩:=id N; exact bQ e
  have ae:i2 < s.heap.objs.size:=by obtain ⟨o,e,_⟩:=id M; exact bQ e
  have keep:∀ b o,b≠z->b≠TO->b≠i1->b≠i2->s.heap.get? b=some o->B.get? b=some o:=fun b o n1 n2 n3 n4 e=>(l.2 b n1).trans (hk b o n1 n2 n3 n4 e);have a0:B.get? s.heap.objs.size=some { cls:=.type "tuple",data:=.seq #[u,u'] }:=(l.2 _ (Nat.ne_of_gt lz)).trans a5;have nt:∀ {b v},H b=some v->b≠z/\b≠TO/\b≠i1/\b≠i2:=fun {b v} e=>⟨yd e (C z (by simp)).1,yd e (C TO (by simp)).1,yd e (C i1 (by simp)).1,yd e (C i2 (by simp)).1⟩
  have Z:HOk X.prog X.w (upd H s.heap.objs.size (.tup [x,y])) B:=fun b o e=>by
   by_cases g:b=s.heap.objs.size
   .subst g;rw [yc] at e;cases e;exact ⟨by show 2 <= sizeLine; decide,[u,u'],.cons ru (.cons aa .nil),⟨_,a0,rfl,_,rfl⟩⟩
   .rw [ym g] at e;refine (I.hok b o e).stay (fun c v r q=>?_) (fun c q=>by rw [ym (yd q G)]; exact q) fun c ys q=>by rw [ym (yd q G)]; exact q
    obtain ⟨n1,n2,n3,n4⟩:c≠z/\c≠TO/\c≠i1/\c≠i2:=by
     rcases r with rfl | r
     .exact nt e
     .exact nt r
    exact keep c v n1 n2 n3 n4 q
  have un:Un (frs X.stack) [z,TI,TO,i1,i2] H (upd H s.heap.objs.size (.tup [x,y])) s.heap B:=by
   have Y:∀ {b o},b∉[z,TI,TO,i1,i2]->s.heap.get? b=some o->B.get? b=some o:=fun {b o} g e=>keep b o (fun q=>g (by simp [q])) (fun q=>g (by simp [q])) (fun q=>g (by simp [q])) (fun q=>g (by simp [q])) e
   refine ⟨fun b o e n _ t=>Y t e,fun b o e n _ t=>⟨o.slots,Y t e⟩,fun b o e n _=>by rw [ym (ci (bQ e))]; exact n,fun b o e t=>⟨o,Y t e⟩,
    fun b ys e=>by rw [ym (yd e G)]; exact e,fun b o v e=>by rw [ym (yd e G)]; exact e,fun b ps e=>⟨#[],by rw [ym (yd e G),e]; simp⟩⟩
  have I1:Inv X O σ (upd H s.heap.objs.size (.tup [x,y])) { s with heap:=B }:=I.call' (s':={ s with heap:=B }) rfl un Z I.bare fun b g=>by
   have f:=C b g;exact ⟨f.2.2.2.1,f.2.1,f.2.2.2.2.1,f.2.2.2.2.2⟩
  refine ⟨.ref s.heap.objs.size,_,I1,rfl,⟨_,x,y,rfl,G,rfl,fun zs h=>by rw [I.tuple_inj h R]; exact t,fun zs h=>by rw [I.tuple_inj h F]; exact hy⟩,?_,fun b g=>?_⟩
  .exact ⟨a7,keep _ _ D.TIz D.TITO D.TIi1 D.TIi2 j,⟨u,u',(l.2 _ D.TOz).trans a2⟩,a3.at fun o e=>(l.2 _ D.i1z).trans e,a4.at fun o e=>(l.2 _ D.i2z).trans e⟩
  .rw [ym (fun q=>?_)]
   .exact (C b g).1
   .have R:b < s.heap.objs.size:=by
     simp only [bW,List.not_mem_nil,or_false] at g;rcases g with rfl | rfl | rfl | rfl | rfl <;> assumption
    exact absurd q (ci R)
 done:=by
  intro X hP hw hK hc i O s σ H E I C J hg;subst hP hw hK;obtain ⟨xs,ys,R,F,t⟩:=hg;obtain ⟨U,rv,p0,ab⟩:=I.tuple R;obtain ⟨L,S,T,a8⟩:=I.tuple F;have p:s.heap.IsTuple l1 U.toArray:=p0;have p':s.heap.IsTuple l2 L.toArray:=T;have D:=d.apartT J p p' (C TO (by simp)).1 hKT R F;obtain ⟨Q,j,⟨va,vb,m⟩,N,M⟩:=J;have hl:=rv.length;have ad:=S.length;refine yj2 (show X.A.handled=none from I.ok.hd hc) D Q j m N M p p' (by simp; omega) fun h' hk=>⟨rfl,?_⟩;have nt:∀ {b v},H b=some v->b≠z/\b≠TO/\b≠i1/\b≠i2:=fun {b v} e=>⟨yd e (C z (by simp)).1,yd e (C TO (by simp)).1,yd e (C i1 (by simp)).1,yd e (C i2 (by simp)).1⟩
  have Z:HOk X.prog X.w H h':=fun b o e=>by
   refine (I.hok b o e).stay (fun c v r q=>?_) (fun c q=>q) fun c ys q=>q
   obtain ⟨n1,n2,n3,n4⟩:c≠z/\c≠TO/\c≠i1/\c≠i2:=by
    rcases r with rfl | r
    .exact nt e
    .exact nt r
   exact hk c v n1 n2 n3 n4 q
  have un:Un (frs X.stack) [z,TI,TO,i1,i2] H H s.heap h':=by
   have Y:∀ {b o},b∉[z,TI,TO,i1,i2]->s.heap.get? b=some o->h'.get? b=some o:=fun {b o} g e=>hk b o (fun q=>g (by simp [q])) (fun q=>g (by simp [q])) (fun q=>g (by simp [q])) (fun q=>g (by simp [q])) e;exact ⟨fun b o e n _ t=>Y t e,fun b o e n _ t=>⟨o.slots,Y t e⟩,fun b o e n _=>n,fun b o e t=>⟨o,Y t e⟩,fun b ys e=>e,fun b o v e=>e,fun b ps e=>⟨#[],by rw [e]; simp⟩⟩
  exact I.call' (s':={ s with heap:=h' }) rfl un Z I.bare fun b g=>by
   have f:=C b g;exact ⟨f.2.2.2.1,f.2.1,f.2.2.2.2.1,f.2.2.2.2.2⟩
 self:=fun _ _ _ _ _ J h=>wpAny_pyIter_zip J.1 h
section
variable {X:Cx}
def yzj (K:W.Frag) (ta:TA):TI:=fun σ H R=>ta σ H fun vs H1=>∃ a b,vs=[.ref a,.ref b]/\(∃ xs ys,SqT K H1 a xs/\SqT K H1 b ys)/\R (yzz K a b) H1
theorem ypc {x1} {l m:Expr} {ta:TA} {p pos:Pos} (hg:Gl X "zip") (hm:X.mg "zip"=none) (ha:PA X [l,m] ta) (hs:starEach [l,m] X.env=[(false,eval l X.env),(false,eval m X.env)]:=by rfl) (hs2:starEach [m] X.env=[(false,eval m X.env)]:=by rfl) :
  PI X (.Tuple elts x1 tpos) (.Call (.Name "zip" p) [l,m] [] pos) (yzj X.K ta):=by
 intro g s σ H R I h;refine Call_ (Ē I hg hm (show bootBuiltins "zip"=some (.type "zip") by decide +kernel) (PyProof.Rows.callWith_type1 (thn (ha pos g s σ H _ I h) fun O c h'=>?_) (by rw [hs,hs2]) (by rw [hs2]; rfl)));obtain ⟨P,E,d,J,z⟩:=h';obtain ⟨a,b,e,⟨L,N,F,j⟩,q⟩:=z;subst e
 cases J with
 | cons r rr =>
  cases rr with
  | cons r' rr =>
   cases rr;cases r;cases r';obtain ⟨v,Q,G,u⟩:=d.tuple F;obtain ⟨i,y,w,C⟩:=d.tuple j;refine yj6 (show c.heap.IsTuple a v.toArray from G) (show c.heap.IsTuple b i.toArray from w) fun M u k x A B D=>?_;refine wpAny_pyIter_zip u ?_
   have n:X.K.lookup (c.heap.objs.size+3)=none:=by
    cases hl:X.K.lookup (c.heap.objs.size+3) with
    | none=>rfl
    | some o=>exact absurd (bQ (d.kIn _ o hl)) (Nat.not_lt.mpr (Nat.le_add_right _ _))
   have t:Zap (c.heap.objs.size+4) (c.heap.objs.size+2) (c.heap.objs.size+3) c.heap.objs.size (c.heap.objs.size+1):=ym9 _;refine ⟨c.heap.objs.size+4,[c.heap.objs.size+4,c.heap.objs.size+2,c.heap.objs.size+3,c.heap.objs.size,c.heap.objs.size+1],_,_,E,rfl,d.kept (t':=c.toks) D,yhj a b _ _ _ _ _ t n,⟨u,k,⟨_,_,x⟩,A,B⟩,fun b f=>?_,q⟩
   have f:c.heap.objs.size <= b:=by
    simp only [bW,List.not_mem_nil,or_false] at f;rcases f with rfl | rfl | rfl | rfl | rfl <;> omega
   exact d.fpOk f (d.hok.fresh f)
theorem ypf {K:W.Frag} {ta:TA} {σ:St} {H:Hp} {R:It->Hp->Prop} (h:ta σ H fun vs H1=>∃ a b,vs=[.ref a,.ref b]/\(∃ xs ys,SqT K H1 a xs/\SqT K H1 b ys)/\R (yzz K a b) H1):yzj K ta σ H R:=h
end
theorem ybv {K:W.Frag} {a b D:Addr} {xs ys:List V} {g:TG} {te:TE} {n m:Nat} {fr:St} {R:Hp->Prop} {H1:Hp} (f:Nat->V) (hq:SqT K H1 a xs) (hq':SqT K H1 b ys) (h1:m <= xs.length) (h2:m <= ys.length) (h3:xs.length <= m\/ys.length <= m) (hD:H1 D=none)
  (hs:∀ i x y H t pre,i < m->xs[i]?=some x->ys[i]?=some y->yx H1 H->H D=some (.lst ((List.range i).map f))->H t=none->List.length pre=n->g (.ref t) (pre++fr) (upd H t (.tup [x,y])) fun σ' H'=>(∃ pre',List.length pre'=n/\σ'=pre'++fr)/\te σ' H' (MpK H1 D f m i))
  (hd:∀ H,yx H1 H->H D=some (.lst ((List.range m).map f))->R H):j6 (yzz K a b) g te n fr D R H1:=by
 refine ⟨cW m (Mp H1 D f),⟨m,by simp,cb _,Mp.zero hD⟩,?_⟩;rintro i j H ⟨rfl,r,p⟩;have q:=p.1.tup hq;have c:=p.1.tup hq';by_cases hlt:i < m
 .refine .inr ⟨⟨xs,ys,xs[i]'(by omega),ys[i]'(by omega),q,c,bJ _,bJ _⟩,fun y H' pre h o=>?_⟩;obtain ⟨t,x,y,rfl,k,rfl,l,d⟩:=h;exact hs i x y H t pre hlt (l xs q) (d ys c) p.1 p.2 k o
 .have e:i=m:=by omega
  subst e;exact .inl ⟨⟨xs,ys,q,c,h3⟩,hd H p.1 p.2⟩
end L2
namespace L2
open PySem PySem.Spec PyProof.Rows HT
section
variable {prog:Program} {w:World} {A:Around} {E:Value->Shared->Prop} {s:Shared}
theorem yb3 {t sl:Addr} {items:Array Value} {vl vu:Value} {lo hi:Option Int} {Q:Value->Shared->Prop} (ht:IsTup s.heap t items) (hs:s.heap.IsSliceOf sl vl vu .none) (pl:IsPart vl lo) (pu:IsPart vu hi)
  (hw:sIx items.size 0 lo=0/\sIx items.size items.size hi=items.size) (h:Q (.ref t) s):wpAny (model prog w) A (getItem (.ref t) (.ref sl)) Q E s:=by
 obtain ⟨f,d,b,e⟩:=id hs;have c:s.TypeIs (.ref sl) "slice":=⟨f,d,b⟩;unfold getItem
 try with_reducible refine wpAny_holding ?_
 first | refine bI (bO ?_) | skip
 refine bI (wpAny_sequenceKey ht.typeIs (by decide) ?_);refine bI (wpAny_callSpecial?_slot (name:=Str.ofString "__getitem__") ht.typeIs PyProof.Rows.slot_tuple_getitem
  (wpAny_call_entry PyProof.Rows.slot_tuple_getitem ht.typeIs entry_tuple_getitem ?_ (args_tuple_getitem _ _)))
 show wpAny _ _ (Builtin.Tuple.tupleItemsOf (.ref t) >>= _) _ _ s;refine bI (tupleItemsOf_ ht ?_);refine bI (wpAny_typeOf c ?_);rw [if_pos (by decide)];refine bI (zn hs pl pu ?_)
 have a:(((sIx items.size 0 lo:Nat):Int) == 0 && (1:Int) == 1 && (sIx items.size items.size hi - sIx items.size 0 lo) == items.size)=true:=by
  rw [hw.1,hw.2];simp
 show wpAny _ _ (if (((sIx items.size 0 lo:Nat):Int) == 0 && (1:Int) == 1 && (sIx items.size items.size hi - sIx items.size 0 lo) == items.size)=true then _ else _) _ _ s;rw [if_pos a];refine bI (m:=Builtin.Tuple.tupleIsExact _) ?_;unfold Builtin.Tuple.tupleIsExact;refine bI (wpAny_typeOf ht.typeIs (bO ?_));show wpAny _ _ (if (Value.type "tuple" == Value.type "tuple")=true then _ else _) _ _ s;rw [if_pos (by decide)]
 first
  | exact bI (wpAny_rule (bO ⟨_,rfl,bO h⟩))
  | exact bI (wpAny_rule (bI (bO (bO ⟨_,rfl,bO h⟩))))
  | exact bI (bI (wpAny_rule (bO (bO ⟨_,rfl,bO h⟩))))
end
section
variable {X:Cx}
def va2 (K:W.Frag):V->Option Int->Option Int->Hp->VK->Prop:=fun x lo hi H Q=>∃ a xs,x=.ref a/\SqT K H a xs/\(HT.sIx xs.length 0 lo=0/\HT.sIx xs.length xs.length hi=xs.length)/\Q (.ref a) H
theorem yo0:SlR X (va2 X.K):=by
 intro d s σ H x v p o lo u n Q I m l k i h;obtain ⟨a,f,rfl,j,g,q⟩:=h;cases m;obtain ⟨c,r,e,t⟩:=I.tuple j;have b:c.toArray.size=f.length:=by rw [bT]; exact r.length.symm
 exact ⟨"tuple",_,PyProof.Rows.slot_tuple_getitem.lookup,e.typeIs,yb3 e l k i (by rw [b]; exact g) ⟨.ref a,H,I,rfl,q⟩⟩
end
end L2
namespace L2
open PySem PySem.Spec PyProof.Rows PySem.SeqAt
open AutoSeq1 (wpAny_loadPart')
end L2
namespace L2
open PySem PySem.Spec PyProof.Rows
variable {C D:Addr} {tg:Expr} {fd:FuncData} {pins:List (Addr × Obj)} {ep i j:Nat} {P:Program} {p0 p1 p2 qual:Str}
theorem yco {X:Cx} {K:W.Frag} {e:Expr} {f:Str} {pos:Pos} {ta:TE} (hK:X.K=K) (he:PE X e ta) (hb:attributeBase e f X.env (eval e X.env)=eval e X.env):PE X (.Attribute e f pos) (vbx K ta f):=hK ▸ yp he hb
def Č (J:It) (tc:TT) (te:TE) (fr:St) (D:Addr) (R:Hp->Prop) (H1:Hp):Prop:=∃ W:Nat->Nat->Hp->Prop,(∃ m,W 0 m (upd H1 D (.lst []))) /\
 ∀ i m H2,W i m H2->(J.stop i H2/\R H2)\/(J.go i H2/\∀ x H3,J.yld i H2 x H3->tc (some x :: fr) H3 fun b H4=>if b=true then te (some x :: fr) H4 (fun y H5=>∃ ys,H5 D=some (.lst ys)/\ys.length < sizeLine/\∃ m',m' < m/\W (i+1) m' (upd H5 D (.lst (ys++[y])))) else ∃ m',m' < m/\W (i+1) m' H4)
def yjc (wi:TI) (tc:TT) (te:TE) (js:List Nat):TE:=fun σ H Q=>wi σ H fun J H1=>∀ D,H1 D=none->Č J tc te (xa js σ) D (fun H2=>Q (.ref D) H2) H1
section
variable {X:Cx} {iter elt cnd:Expr} {tc:TT} {x:Str} {px pos:Pos} {scope:Scope} {te:TE} {wi:TI} {σ:St} {ys:List Str} {js:List Nat}
theorem Ĭ {s2:Shared} {H2:Hp} {it:Addr} {fp:List Addr} {tn:Nat->Heap->Prop} {J:It} (hc:X.calm=true)
  (ht:∀ (C:Addr) (s2:Shared) (H2:Hp) (fp:List Addr),PT (X.compF scope ys C x s2 H2 fp) cnd tc) (he:∀ (C:Addr) (s2:Shared) (H2:Hp) (fp:List Addr),PE (X.compF scope ys C x s2 H2 fp) elt te)
  (hcell:∀ y∈scope.names,y.2≠.cell) (hkind:scope.kind=.function) (hx:scope.names.lookup x=some .local) (hnd:(x :: ys).Nodup)
  (hfr:∀ y∈scope.names,y.2=.free->y.1∈ys) (hyc:∀ y∈ys,X.env.kindOf y=some .cell) (hrel:∀ y∈ys,(relabel scope X.env).names.lookup y=some .cell) (hjs:js.map (fun j=>X.N[j]?)=ys.map some)
  (I2:Inv X pins σ H2 s2) (T:yf9 X.prog X.w X.K (.Name x px) J fp it tn) (st2:tn 0 s2.heap) (f2:∀ b∈fp,yc6 X pins H2 b)
  {R:Addr->Hp->Prop} (h:∀ D,H2 D=none->Č J tc te (xa js σ) D (R D) H2) {RR:Value->Addr->Result->Shared->Prop} {E:Value->Shared->Prop}
  (hR:∀ (D C:Addr) (H':Hp) (s':Shared) (m:Str->Option Value),yc6 X pins H' C->s'.heap.Ns C m->Inv X pins σ H' s'->R D H'->RR (.ref D) C (.ok .next) s') :
  wpAny (model X.prog X.w) X.A (newList []) (fun acc s₃=>wpAny (model X.prog X.w) X.A (newFunctionEnv scope X.env.globals (j8 ys X.env) [] X.env.qual none .none (some X.env)) (fun cenv s₄ =>
   codeAny (model X.prog X.w) X.A (.compStart (.ListComp elt [⟨.Name x px,iter,[cnd],0⟩] scope pos) 0 (.ref it) acc { cenv with scope:=relabel scope X.env }) (RR acc cenv.locals) s₄) E s₃) E s2:=by
 have g:∀ y c,(j8 ys X.env).lookup y=some c->X.env.cells.lookup y=some c:=fun y c e=>by
  obtain ⟨m,rfl⟩:=ů e;obtain ⟨c',q⟩:=I2.ok.has y (.inl (hyc y m));rw [q];rfl
 refine wpAny_newObj_type (wpAny_newFunctionEnv hcell (by intro y hy; simp at hy) (fun h₁ hns₁ hsb₁=>?_) hkind);dsimp only at hns₁ hsb₁ ⊢;generalize U:s2.heap.push { cls:=.type "list",dict:=none,data:=.seq ([]:List Value).toArray }=G at hns₁ hsb₁ ⊢;have hC:G.objs.size=s2.heap.objs.size+1:=by rw [<- U,Heap.size_push]
 have a3:s2.heap.objs.size≠G.objs.size:=by rw [hC]; exact ci (dh _)
 have B:s2.heap.objs.size <= G.objs.size:=by rw [hC]; exact Nat.le_succ _
 have f:∀ b,b < s2.heap.objs.size->b≠G.objs.size/\b≠s2.heap.objs.size:=fun b a=>⟨by rw [hC]; exact ci (Nat.lt_succ_of_lt a),ci a⟩;have t:∀ b o,s2.heap.get? b=some o->h₁.get? b=some o:=fun b o e=>hsb₁.extBut b o (f b (bQ e)).1 (bK _ (U ▸ bK _ e));have a2:h₁.get? s2.heap.objs.size=some { cls:=.type "list",data:=.seq ([]:List Value).toArray }:=hsb₁.extBut _ _ a3 (bK _ (U ▸ bU _ rfl));have S:∀ b∈fp,b < s2.heap.objs.size:=fun b a=>let ⟨_,e,_⟩:=T.obj 0 _ st2 b a; bQ e;have a4:∀ b∈fp,b∉frs X.stack:=fun b a z=>(bW.mp (I2.stkSub b z)).elim (f2 b a).2.1 (f2 b a).2.2.1;have nC:H2 G.objs.size=none:=I2.hok.fresh B;have nD:H2 s2.heap.objs.size=none:=I2.hok.fresh (bL _)
 have k:∀ y c,(j8 ys X.env).lookup y=some c->∃ v o,s2.heap.get? c=some o/\o.data=.cell v:=fun y c e=>by
  obtain ⟨v,o,q1,q2⟩:=I2.cell y c (g y c e);exact ⟨v,o,q1,q2⟩
 have a8:(X.compF scope ys G.objs.size x s2 H2 fp).Ok:=by
  refine ⟨I2.ok.mod,hkind,I2.ok.glob,I2.ok.blt,B,fun y z c e P=>I2.ok.inj y z c (g y c e) (g z c P),fun y e=>?_,fun y c z e=>(by cases z),I2.ok.hd,I2.ok.frames,.inl rfl,fun b a=>⟨(f b (S b a)).1,fun y c e=>(f2 b a).2.2.2.2.1 y c (g y c e)⟩,I2.bs,?_,fun b o e a=>?_,fun b a=>a4 b a,I2.stack,I2.stkFree⟩
  .have P:(relabel scope X.env).names.lookup y=some .cell\/(relabel scope X.env).names.lookup y=some .free:=e
   have ab:y∈ys:=by
    rcases P with P | P
    .obtain ⟨k0,m,q⟩:=xm P;rcases q with q | q
     .exact absurd q.symm (hcell _ m)
     .exact hfr _ m q
    .obtain ⟨k0,m,q⟩:=xm P;rcases q with q | q
     .exact hfr _ m q.symm
     .exact hfr _ m q
   exact ⟨_,ξ ab⟩
  .exact cn I2.ok.bsz I2.sz
  .rcases (f2 b a).2.2.2.1 with z | z
   .exact I2.ok.noex b o e z
   .exact absurd (ck (bQ (I2.ok.bs b o e).1) z) (de _)
 have a1:(xa js σ).length=ys.length:=by
  have:=congrArg List.length hjs;simpa [xa] using this
 have I3:∀ tk,Inv (X.compF scope ys G.objs.size x s2 H2 fp) [] (none :: xa js σ) (upd H2 s2.heap.objs.size (.lst [])) { s2 with heap:=h₁,toks:=tk }:=fun tk =>
  ⟨a8,rfl,I2.bare,Un.laid t (bL _) nD,⟨_,hns₁,fun i y v e1 O e3=>by
    cases i with
    | zero=>cases O
    | succ i =>
     have e1:ys[i]?=some y:=by simpa using e1
     have O:(xa js σ)[i]?=some (some v):=by simpa using O
     have hy:y∈ys:=cc e1;have Q:=congrArg (fun l=>l[i]?) hjs;simp only [bN,e1,cY] at Q
     cases q:js[i]? with
     | none=>rw [q] at Q; cases Q
     | some j =>
      rw [q] at Q;have Q:X.N[j]?=some y:=by simpa using Q
      have es:σ[j]?=some (some v):=by
       simp only [xa,bN,q,cY,Option.some.injEq] at O
       cases r:σ[j]? with
       | none=>rw [r] at O; cases O
       | some w'=>rw [r] at O; rw [show w'=some v from O]
      obtain ⟨m0,_,aa⟩:=I2.loc;obtain ⟨u,ru,lk⟩:=aa j y v Q es (.inr (.inl (hyc y hy)));refine ⟨u,ru,.inr ⟨.inl (hrel y hy),?_⟩⟩;rcases lk with ⟨k1,_⟩ | ⟨_,c,ec,o,ho,hd⟩
      .rw [hyc y hy] at k1; cases k1
      .refine ⟨c,?_,o,t c o ho,hd⟩;show (j8 ys X.env).lookup y=some c;rw [ξ hy,ec]
       rfl⟩,fun y c e=>(by
    obtain ⟨v,o,q1,q2⟩:=k y c e
    exact ⟨v,o,t c o q1,q2⟩),(by show upd H2 s2.heap.objs.size _ G.objs.size=none; rw [ym a3.symm]; exact nC),fun y c e=>(by
    obtain ⟨v,o,q1,q2⟩:=k y c e;show upd H2 s2.heap.objs.size _ c=none;rw [ym (f c (bQ q1)).2]
    exact I2.freeC y c (g y c e)),fun p hp=>(by simp at hp),
   I2.hok.laid t (bL _) ⟨cb _,[],_,.nil,a2⟩,by show (none :: xa js σ).length=(x :: ys).length; simp [a1]⟩
 have F:∀ {H':Hp},(∀ b∈fp,H' b=none)->∀ b∈fp,yc6 (X.compF scope ys G.objs.size x s2 H2 fp) [] H' b:=fun hn b a=>⟨hn b a,(f b (S b a)).1,a4 b a,.inl a,fun y c e=>(f2 b a).2.2.2.2.1 y c (g y c e),fun p hp=>(by simp at hp)⟩
 have M:∀ tk,codeAny (model X.prog X.w) X.A (.compLoop (.ListComp elt [⟨.Name x px,iter,[cnd],0⟩] scope pos) 0 (.ref it) (.ref s2.heap.objs.size) (compEnvC scope (j8 ys X.env) G.objs.size X.env)) (RR (.ref s2.heap.objs.size) G.objs.size) { s2 with heap:=h₁,toks:=tk }:=by
  intro tk;obtain ⟨W,⟨m0,w0⟩,a5⟩:=h s2.heap.objs.size nD;refine codeAny_loop rfl (fun n s'=>∃ i v H',Inv (X.compF scope ys G.objs.size x s2 H2 fp) [] (v :: xa js σ) H' s'/\tn i s'.heap/\(∀ b∈fp,H' b=none)/\W i n H') (fun n s' hI=>?_) m0
   ⟨0,none,_,I3 tk,T.keep 0 _ _ st2 (fun b a o e=>t b o e),fun b a=>(by rw [ym (f b (S b a)).2]; exact (f2 b a).1),w0⟩
  obtain ⟨i,v,H',I,st,fr,w⟩:=hI;show wpAny _ _ ((compTurn (.ListComp elt [⟨.Name x px,iter,[cnd],0⟩] scope pos) 0 (.ref it) (.ref s2.heap.objs.size) (compEnvC scope (j8 ys X.env) G.objs.size X.env)).onRaise (fun x=>do noteFrame x (compEnvC scope (j8 ys X.env) G.objs.size X.env); theTreesLotGoes x)) _ _ s';refine wpAny_noted ?_;rw [compTurn_list];refine bI (wpAny_standAt (bI ?_));rcases a5 i n H' w with ⟨a6,q⟩ | ⟨go,a0⟩
  .refine thn (T.done (X.compF scope ys G.objs.size x s2 H2 fp) rfl rfl rfl hc i [] s' (v :: xa js σ) H' _ I (F fr) st a6) fun r s4 ⟨hr,Y⟩=>?_;subst hr;refine bO ?_;obtain ⟨m,hn,_⟩:=Y.loc;exact hR _ _ H' s4 m (I2.fpOk B Y.free) hn (I2.call' (ch:=fp) Y.os Y.base Y.hok Y.bare fun b a=>⟨(f2 b a).2.2.2.1,(f2 b a).2.1,(f2 b a).2.2.2.2.1,(f2 b a).2.2.2.2.2⟩) q
  .refine thn (T.item (X.compF scope ys G.objs.size x s2 H2 fp) rfl rfl rfl hc i [] s' (v :: xa js σ) H' _ I (F fr) st go) fun r s4 ⟨u,hr,h4⟩=>?_;subst hr;refine bI (thn h4 fun _ s5 ⟨y,H5,I5,r5,y5,H,a9⟩=>bI ?_);have a7:=I5.pinned (F a9) (T.obj _ _ H);refine wpAny_assign_Name (ã (i:=0) a7 hnd rfl (Or.inl (lookup_relabel_local hx)) r5 (fun s6 I6=>?_) (Or.inr (lookup_relabel_local hx)));refine bI (wpAny_tests_one (ytw (ht _ _ _ _ _ s6 (some y :: xa js σ) H5 _ I6 (a0 y H5 y5)) fun b s7 ⟨H6,Z,q7⟩=>?_))
   cases b with
   | false =>
    obtain ⟨m',hm,w'⟩:=q7
    have L:∀ b∈fp,∀ o,s5.heap.get? b=some o->s7.heap.get? b=some o/\H6 b=none:=fun b a o e =>
     ⟨(Z.pin (b,o) (bY _ (bY _ (xq a e)))).1,(Z.pin (b,o) (bY _ (bY _ (xq a e)))).2.1⟩
    refine bO ⟨rfl,m',hm,i+1,some y,_,Z.unpinned,T.keep _ _ _ H fun b a o e=>(L b a o e).1,fun b a=>?_,w'⟩;obtain ⟨o,e,d⟩:=T.obj _ _ H b a;exact (L b a o e).2
   | true =>
    refine bI (bI (ytw (he _ _ _ _ _ s7 (some y :: xa js σ) H6 _ Z q7) fun u2 s7 ⟨y2,H7,Z,r7,zs,hD,hl,m',hm,w'⟩=>bI ?_));refine ytw (xi _ s7 (some y :: xa js σ) H7 (.ref s2.heap.objs.size) [y2] (.ref s2.heap.objs.size) [u2] (fun _ H8=>H8=upd H7 s2.heap.objs.size (.lst (zs++[y2]))) Z rfl (.cons r7 .nil) ⟨_,zs,y2,rfl,rfl,hD,hl,rfl⟩) fun _ s8 h'=>?_;obtain ⟨_,H8,I8,_,e8⟩:=h';subst e8
    have L:∀ b∈fp,∀ o,s5.heap.get? b=some o->s8.heap.get? b=some o/\upd H7 s2.heap.objs.size (HO.lst (zs++[y2])) b=none:=fun b a o e =>
     ⟨(I8.pin (b,o) (bY _ (bY _ (xq a e)))).1,(I8.pin (b,o) (bY _ (bY _ (xq a e)))).2.1⟩
    refine bO (bO ⟨rfl,m',hm,i+1,some y,_,I8.unpinned,T.keep _ _ _ H fun b a o e=>(L b a o e).1,fun b a=>?_,w'⟩);obtain ⟨o,e,d⟩:=T.obj _ _ H b a;exact (L b a o e).2
 exact codeAny_compStart_list (M _) (T.self X.A 0 _ _ _ (T.keep 0 _ _ st2 (fun b a o e=>t b o e)) (M _))
theorem ykn (hc:X.calm=true) (hi:PI X (.Name x px) iter wi) (ht:∀ (C:Addr) (s2:Shared) (H2:Hp) (fp:List Addr),PT (X.compF scope ys C x s2 H2 fp) cnd tc) (he:∀ (C:Addr) (s2:Shared) (H2:Hp) (fp:List Addr),PE (X.compF scope ys C x s2 H2 fp) elt te) (hjs:js.map (fun j=>X.N[j]?)=ys.map some)
  (hclos:closureFor scope X.env=pure (j8 ys X.env)) (hnd:(x :: ys).Nodup:=by decide) (hyc:∀ y∈ys,X.env.kindOf y=some .cell) (hrel:∀ y∈ys,(relabel scope X.env).names.lookup y=some .cell)
  (hfr:∀ y∈scope.names,y.2=.free->y.1∈ys:=by decide +kernel) (hcell:∀ y∈scope.names,y.2≠.cell:=by decide +kernel) (hkind:scope.kind=.function:=by rfl)
  (hnames:∀ y∈scope.names,y.2=.local->scope.names.lookup y.1=some .local:=by decide +kernel) (hx:scope.names.lookup x=some .local:=by rfl) (hs:∀ x,foldedSetIterable iter X.env x=pure x:=by intro _; rfl) :
  PE X (.ListComp elt [⟨.Name x px,iter,[cnd],0⟩] scope pos) (yjc wi tc te js):=by
 refine .mk fun a s σ H Q I h=>?_;rw [eval_ListComp];refine wpAny_comprehension_free (use:=none) rfl hs hclos hkind hnames (thn (hi a s σ H _ I h) fun v G t=>thn t fun p s2 i=>?_);obtain ⟨F,fp,B,J,H2,e,z,T,d,r,h⟩:=i;subst e;refine Ĭ (R:=fun D c=>Q (.ref D) c) (RR:=compPost (model X.prog X.w) X.A X.xe none (EP X a σ Q)) hc ht he hcell hkind hx hnd hfr hyc hrel hjs z T d r h ?_;intro D C c u m f n l q;refine ⟨m,n,fun E k=>⟨.ref D,c,?_,rfl,q⟩⟩;exact l.turned (t':=u.toks) (fun b o g e=>k.extBut b o g e) f.1 f.2.1 f.2.2.2.1 f.2.2.2.2.1 f.2.2.2.2.2
theorem yky {y:Str} {py spos:Pos} (hN:X.N.Nodup) (hy:X.N[i]?=some y) (hl:X.env.scope.names.lookup y=some .local) (hc:X.calm=true) (hi:PI X (.Name x px) iter wi)
  (ht:∀ (C:Addr) (s2:Shared) (H2:Hp) (fp:List Addr),PT (X.compF scope ys C x s2 H2 fp) cnd tc) (he:∀ (C:Addr) (s2:Shared) (H2:Hp) (fp:List Addr),PE (X.compF scope ys C x s2 H2 fp) elt te) (hjs:js.map (fun j=>X.N[j]?)=ys.map some)
  (hclos:closureFor scope X.env=pure (j8 ys X.env)) (hyc:∀ y∈ys,X.env.kindOf y=some .cell) (hrel:∀ y∈ys,(relabel scope X.env).names.lookup y=some .cell)
  (hsw:swapsWith (.ListComp elt [⟨.Name x px,iter,[cnd],0⟩] scope pos) (some (.Name y py)) spos.line X.env=pure true:=by rfl) (hnd:(x :: ys).Nodup:=by decide)
  (hfr:∀ y∈scope.names,y.2=.free->y.1∈ys:=by decide +kernel) (hcell:∀ y∈scope.names,y.2≠.cell:=by decide +kernel) (hkind:scope.kind=.function:=by rfl)
  (hnames:∀ y∈scope.names,y.2=.local->scope.names.lookup y.1=some .local:=by decide +kernel) (hx:scope.names.lookup x=some .local:=by rfl) (hs:∀ x,foldedSetIterable iter X.env x=pure x:=by intro _; rfl) :
  PS X (.Assign [.Name y py] (.ListComp elt [⟨.Name x px,iter,[cnd],0⟩] scope pos) spos) (ytx (yjc wi tc te js) (xk i)):=by
 refine .mk fun a s σ H n I h=>?_;rw [exec_Assign_Name_used _ _ _ _ hsw];refine bI (wpAny_standAt (bI ?_));show wpAny _ X.A (do let _ <- comprehension (.ListComp elt [⟨.Name x px,iter,[cnd],0⟩] scope pos) scope X.env _ (newList []) false (eval iter X.env) (some (assign (.Name y py) X.env))) _ _ s;refine bI (cT (wpAny_comprehension_free (use:=some (assign (.Name y py) X.env)) (Q:=fun _ d=>SP X a n .next d) rfl hs hclos hkind hnames (thn (hi a s σ H _ I h) fun v U u=>thn u fun M s2 E=>?_)) (fun _ d K=>bO (bO K)) fun _ _ e=>e);obtain ⟨S,fp,P,J,H2,e,B,T,r,G,h⟩:=E;subst e;refine Ĭ (R:=fun D k=>xk i (.ref D) σ k n.nx) (RR:=compPost (model X.prog X.w) X.A X.xe (some (assign (.Name y py) X.env)) (fun _ d=>SP X a n .next d)) hc ht he hcell hkind hx hnd hfr hyc hrel hjs B T r G h ?_;intro D C k d m f L F q;refine wpAny_assign_Name (ζ (v:=V.ref D) F hN hy (Or.inl hl) rfl (fun t g p=>?_) (Or.inr hl));refine ⟨m,?_,fun O l=>⟨_,k,?_,q⟩⟩
 .obtain ⟨b,l,c⟩:=p;refine L.sameBut l fun z=>?_;rcases c with c | c
  .exact f.2.1 (z.trans c)
  .exact f.2.2.2.2.1 y b c z.symm
 .exact g.turned (t':=t.toks) (fun b o c e=>l.extBut b o c e) f.1 f.2.1 f.2.2.2.1 f.2.2.2.2.1 f.2.2.2.2.2
theorem ypv {H:Hp} {Q:VK} (h:wi σ H fun J H1=>∀ D,H1 D=none->Č J tc te (xa js σ) D (fun H2=>Q (.ref D) H2) H1):yjc wi tc te js σ H Q:=h
theorem yb1 {lo:Int} {n:Nat} {fr:St} {R:Hp->Prop} {H1:Hp} (Pv:Nat->Hp->Prop) (h0:Pv 0 (upd H1 D (.lst [])))
  (hs:∀ i H,i < n->Pv i H->tc (some (.int (lo+i)) :: fr) H fun b H4=>if b=true then te (some (.int (lo+i)) :: fr) H4 (fun y H5=>∃ ys,H5 D=some (.lst ys)/\ys.length < sizeLine/\∃ m',m' < n - i/\cW n Pv (i+1) m' (upd H5 D (.lst (ys++[y])))) else ∃ m',m' < n - i/\cW n Pv (i+1) m' H4)
  (hd:∀ H,Pv n H->R H):Č (Itr lo n) tc te fr D R H1:=by
 refine ⟨cW n Pv,⟨n,by simp,cb _,h0⟩,?_⟩;rintro i m H ⟨rfl,a,p⟩;by_cases hlt:i < n
 .refine .inr ⟨hlt,fun x c y=>?_⟩;obtain ⟨e,y⟩:=y;subst e y;exact hs i _ hlt p
 .have e:i=n:=by omega
  subst e;exact .inl ⟨bL _,hd H p⟩
theorem yak {n:Nat} {Pv:Nat->Hp->Prop} {H4:Hp} (hi:i < n) (p:Pv (i+1) H4):∃ m',m' < n - i/\cW n Pv (i+1) m' H4:=⟨n - (i+1),by omega,rfl,hi,p⟩
end
structure ybt (K:W.Frag) (x qual:Str) (st:Stmt) (D:Addr) (f:Addr) (fd:FuncData):Prop where
 ex:∃ (oc:Value) (od:Option Addr) (kV doc pm:Value) (an:Option Addr) (cdv ct:Value) (osl:Array (Option Value)),
  fd=W.fnOf x qual (w5 st) (wn st) (yg st) (.ref D) kV doc pm an cdv ct/\K.lookup f=some ⟨oc,od,.func fd,osl⟩/\W.codeIn K cdv qual=true
 kp:W.keepIn K (.ref f)=true
section
variable {w:World} {K:W.Frag} {mg:Str->Option Value} {base:Heap}
theorem ybt.ok {x:Str} {st:Stmt} {f:Addr} {N ps:List Str} {k:Nat} {sp:Sp} (F:ybt K x qual st D f fd) (S:yk N ps (yg st)) (len:∀ vs H Q E,sp vs H Q E->vs.length=ps.length)
  (hbody:∀ (cdv:Value) (A:Around) (outer:List Env) (s:Shared) (H:Hp) (vs:List V) (Q:VK) (E:XK),jg k (A.deeper (envOfC qual (yg st) s.heap.objs.size f cdv))->sp vs H Q E ->
   ∃ t,PSs (vz CX0 P w K mg base N qual (yg st) f cdv A outer s H E).nox (wn st) t/\t { nx:=fun _ H'=>Q .non H',rt:=Q } (Í N vs) H):wb P w K mg base CX0 (k+1) f fd ps sp:=by
 obtain ⟨i,j,kV,g,m,l,cdv,n,e,rfl,c,a⟩:=F.ex;refine yll c a S len fun A outer s H vs Q E d b=>?_;obtain ⟨t,h,q⟩:=hbody cdv A outer s H vs Q E d b;exact ⟨t,h.nox,q⟩
theorem ybt.okE {x:Str} {st:Stmt} {f:Addr} {N ps:List Str} {k:Nat} {sp:Sp} (F:ybt K x qual st D f fd) (S:yk N ps (yg st)) (len:∀ vs H Q E,sp vs H Q E->vs.length=ps.length)
  (hbody:∀ (cdv:Value) (A:Around) (outer:List Env) (s:Shared) (H:Hp) (vs:List V) (Q:VK) (E:XK),jg k (A.deeper (envOfC qual (yg st) s.heap.objs.size f cdv))->sp vs H Q E ->
   ∃ t,PSs (vz (CXe P w) P w K mg base N qual (yg st) f cdv A outer s H E) (wn st) t/\t { nx:=fun _ H'=>Q .non H',rt:=Q } (Í N vs) H):wb P w K mg base (CXe P w) (k+1) f fd ps sp:=by
 obtain ⟨h,i,kV,g,l,j,cdv,m,e,rfl,c,a⟩:=F.ex;exact yll c a S len fun A outer s H vs Q E d b=>hbody cdv A outer s H vs Q E d b
theorem ybt.binds {x:Str} {st:Stmt} {f:Addr} {ps:List Str} {ds:List Value} {o:Obj} {its:Array Value} {n:Nat} (hj:j+ds.length=ps.length) (F:ybt K x qual st D f fd) (hD:K.lookup D=some o) (ho:o.data=.seq its n)
  (h:∀ (kV doc pm:Value) (an:Option Addr) (cdv ct:Value) (us:List Value),us.length=j ->
   ∃ k:Option (Array Value)->Sem (List (Str × Value)),bindArgs (W.fnOf x qual (w5 st) (wn st) (yg st) (.ref D) kV doc pm an cdv ct) ⟨us,[]⟩=(seqItems? (.ref D) >>= k)/\k (some its)=pure (ps.zip (us++ds))):uc K fd ps ds:=by
 obtain ⟨l,m,kV,doc,pm,an,cdv,ct,e,rfl,i,c⟩:=F.ex;intro s us b g;obtain ⟨k,d,a⟩:=h kV doc pm an cdv ct us (by rw [bP] at g; omega);exact BindsTo.of_defaults rfl (b _ _ hD) ho d a
theorem ycn {x:Str} {st:Stmt} {f:Addr} {oc:Value} {od an:Option Addr} {osl:Array (Option Value)} {kV doc pm cdv ct:Value} (l:K.lookup f=some ⟨oc,od,.func (W.fnOf x qual (w5 st) (wn st) (yg st) (.ref D) kV doc pm an cdv ct),osl⟩)
  (c:W.codeIn K cdv qual=true) (k:W.keepIn K (.ref f)=true):ybt K x qual st D f (W.fnOf x qual (w5 st) (wn st) (yg st) (.ref D) kV doc pm an cdv ct):=⟨⟨oc,od,kV,doc,pm,an,cdv,ct,osl,rfl,l,c⟩,k⟩
end
def yo5 (K:W.Frag):List V->Hp->VK->Prop:=fun xs H Q=>∃ p ys,xs=[.ref p]/\(SqL K H p ys\/SqT K H p ys)/\∀ l,H l=none->Q (.ref l) (upd H l (.lst ys))
section
variable {X:Cx} {body suite:List Stmt} {b₀:Stmt} {tx n:Str} {np hpos pos:Pos} {tb:(St->XK)->TS} {ts:TS}
abbrev THs:=Á->St->Addr->Addr->Hp->Prop
def PHs (X:Cx) (hs:List ExceptHandler) (th:THs):Prop:=∀ (pins:List (Addr × Obj)) (s:Shared) (σ:St) (H:Hp) (x T Ca:Addr) (En:Á),Inv X pins σ H s->Fy X pins H x->Fy X pins H T->Trd s.heap x T (.ref Ca) .none->th En σ Ca x H ->
 wpAny (model X.prog X.w) X.A (handleBy (.ref x) X.env hs) (SP X pins En) X.xe s
def vbg:THs:=fun _ _ _ _ _=>False
def thC (K:W.Frag) (D:Addr) (ts:TS) (tr:THs):THs:=fun En σ Ca x H=>(W.exmOne K (.ref Ca) (.ref D)=some true/\ts En σ H)\/(W.exmOne K (.ref Ca) (.ref D)=some false/\tr En σ Ca x H)
theorem yma:PHs X [] vbg:=fun _ _ _ _ _ _ _ _ _ _ _ _ h=>h.elim
theorem yqg {ji:List ExceptHandler} {tr:THs} (hg:Gl X tx) (hm:X.mg tx=some (.ref D)) (hs:∀ pn x,PSs (X.su pn x) (b₀ :: suite) ts) (hr:PHs X ji tr) (hdb:(tx == ("__debug__":Str))=false:=by decide) :
  PHs X (.ExceptHandler (some (.Name tx np)) none (b₀ :: suite) hpos :: ji) (thC X.K D ts tr):=by
 intro c s σ H x T n m J p l a q;refine wpAny_handleBy_cons (codeAny_handlers_test (zj (J.su x) hg hm ?_ hdb)) (by intro z; cases z)
 have j:Ō x n s.heap:=by
  obtain ⟨F,_,_,_,_,E,G,_⟩:=id a;exact ⟨F,E,G.1⟩
 rcases q with ⟨d,q⟩ | ⟨d,q⟩
 .refine W.exm_one (M:=model X.prog X.w) (h:=s.heap) J.kIn j.type d _ _ _ _ (fun _ _ z=>z) ?_;dsimp only [if_true];refine codeAny_handlers_suite ?_;obtain ⟨O,y⟩:=ybg (s:=s) (X:=X) a;refine wpAny_setFlight_noneW (base:=hid s X x T) ņ (Ń J) y fun P B C I A=>?_;have k:=J.ok;obtain ⟨J,L,l,a⟩:=uz J p l B C I fun b o e t=>⟨o.slots,A b o e t⟩;refine cT (hs (X.pn++c) x [] _ _ _ m (J.su x) q) (fun f N q=>?_) fun _ _ z=>False.elim z
  cases f with
  | next=>obtain ⟨σ6,g,i,q⟩:=q; exact ⟨σ6,g,i.unsu k,q⟩
  | brk=>obtain ⟨σ6,g,i,q⟩:=q; exact ⟨σ6,g,i.unsu k,q⟩
  | cont=>obtain ⟨σ6,g,i,q⟩:=q; exact ⟨σ6,g,i.unsu k,q⟩
  | ret u=>obtain ⟨v,σ6,g,i,r,q⟩:=q; exact ⟨v,σ6,g,i.unsu k,r,q⟩
 .refine W.exm_one (M:=model X.prog X.w) (h:=s.heap) J.kIn j.type d _ _ _ _ (fun _ _ z=>z) ?_;exact hr c _ σ H x T n m J p l a q
theorem ď {K:W.Frag} {b:Bool} (h0:W.subIn K (.ref D) (.type "BaseException")=some true) (h1:W.hasDictIn K D=true) (h2:W.typeIn K (.ref D)=some (.type "type"))
  (h3:W.subIn K (.ref C) (.ref D)=some b):W.exmOne K (.ref C) (.ref D)=some b:=by
 obtain ⟨a,h,_⟩:=W.any_some h1;unfold W.exmOne W.kitCls;rw [h0];dsimp only;rw [h,h2,h3];cases b <;> rfl
def exH (th:THs) (En:Á):St->XK:=fun σ' C _ H'=>∀ x,H' x=none->∃ Ca,C=.ref Ca/\th En σ' Ca x H'
def yyx (tb:(St->XK)->TS) (th:THs):TS:=fun En σ H=>tb (exH th En) En σ H
theorem yia {h₀:ExceptHandler} {hs:List ExceptHandler} {th:THs} (hb:∀ pn Ex,PSs (X.tr pn Ex) body (tb Ex)) (hst:X.stack=X.env :: X.outer/\X.env.frame=some X.env.locals) (hh:PHs X (h₀ :: hs) th) :
  PS X (.Try body (h₀ :: hs) [] [] pos) (yyx tb th):=by
 refine .mk fun a s σ H i I h=>?_
 have y:∀ {f t},SP (X.tr (X.pn++a) (exH th i)) [] i f t->SP X a i f t:=fun {f t} q=>by
  cases f with
  | next=>obtain ⟨σ',d,J,q⟩:=q; exact ⟨σ',d,J.unwish.unpnd,q⟩
  | brk=>obtain ⟨σ',d,J,q⟩:=q; exact ⟨σ',d,J.unwish.unpnd,q⟩
  | cont=>obtain ⟨σ',d,J,q⟩:=q; exact ⟨σ',d,J.unwish.unpnd,q⟩
  | ret u=>obtain ⟨v,σ',d,J,r,q⟩:=q; exact ⟨v,σ',d,J.unwish.unpnd,r,q⟩
 refine wpAny_Try_except (cT (hb (X.pn++a) (exH th i) [] s σ H i (I.pnd.wish _) h) (fun f j q=>?_) fun e j q=>?_)
 .have q:=y q
  cases f with
  | next=>exact wpAny_execs_nil q
  | brk=>exact q
  | cont=>exact q
  | ret u=>exact q
 .obtain ⟨O,σ',d,x,T,C,rfl,J,g,c,tr,q⟩:=q;have J:Inv X a σ' d j:=J.unpnd;have g:Fy X a d x:=⟨g.1,g.2.1,g.2.2.1,g.2.2.2.1,g.2.2.2.2.1,fun p w=>g.2.2.2.2.2 p (db _ w)⟩;have c:Fy X a d T:=⟨c.1,c.2.1,c.2.2.1,c.2.2.2.1,c.2.2.2.2.1,fun p w=>c.2.2.2.2.2 p (db _ w)⟩;obtain ⟨F,rfl,M⟩:=q x g.1;obtain ⟨L,l⟩:=ybg (X:=X) tr;have B:=J.ok.frames;rw [hst.1] at B;have A:=Ń (x:=x) (T:=T) J;rw [hst.1] at A;refine wpAny_noteFrame_onW (base:=hid j X x T) B A hst.2 l ņ yso fun D ⟨n,k,z,m⟩=>?_;rw [<- hst.1] at k;obtain ⟨J,K,c,tr⟩:=uz J g c n k z m;obtain ⟨L,l⟩:=ybg (s:={ j with heap:=D }) (X:=X) tr;refine wpAny_setFlight_noneW (base:=hid { j with heap:=D } X x K) ņ (Ń J) l fun N n k z m=>?_;obtain ⟨J,G,c,tr⟩:=uz J g c n k z fun b o e E=>⟨o.slots,m b o e E⟩;exact hh a _ σ' d x G F i J g c tr M
end
section
variable {σ:St} {H:Hp} {nx:St->Hp->Prop} {rt:VK} {bk ct:St->Hp->Prop} {ts:TS}
theorem yna {th:THs} {tb:(St->XK)->TS} (h:tb (exH th ⟨nx,rt,bk,ct⟩) ⟨nx,rt,bk,ct⟩ σ H):yyx tb th ⟨nx,rt,bk,ct⟩ σ H:=h
theorem yjo {K:W.Frag} {Ca:Addr} {tr:THs} {En:Á} (hex:W.exmOne K (.ref Ca) (.ref D)=some true) (h:ts En σ H):exH (thC K D ts tr) En σ (.ref Ca) none H:=fun _ _=>⟨Ca,rfl,.inl ⟨hex,h⟩⟩
end
section
variable {M:Model} {h:Heap} {K:W.Frag}
theorem ya1 {β:Type} {g:Value->β->Sem (ForInStep β)} {b0:β} {cs:List Value} (hg:∀ c∈cs,W.Looks M h (g c b0) (.yield b0)):W.Looks M h (forIn cs b0 g) b0:=by
 induction cs with
 | nil =>
  intro A Q E s k q;rw [List.forIn_nil];exact bO q
 | cons c r ih =>
  intro A Q E s k q;rw [List.forIn_cons];exact bI (hg c (by simp) A _ E s k (ih (fun d a=>hg d (by simp [a])) A Q E s k q))
theorem yqm {cs:List Value} {cls:Value} {tp e:Addr} {m:Nat} {ob:Obj} (X:K.In h) (LT:W.Looks M h (typeOf (.ref e)) cls) {h2:Heap} (hk:∀ b o,h.get? b=some o->h2.get? b=some o) (hp:h2.get? tp=some ob) (hc:ob.cls=.type "tuple") (hd:ob.data=.seq cs.toArray m) (hx:∀ c∈cs,W.exmOne K cls c=some false):W.Looks M h2 (excMatches (.ref e) (.ref tp)) false:=by
 have f:W.Looks M h2 (isInstance (.ref tp) (.type "tuple")) true:=by
  have e:W.Looks M h2 (typeOf (.ref tp)) ob.cls:=(W.Looks.ld hp).andThen .now;rw [hc] at e;exact e.andThen (W.Looks.of_pure isSubtype_tuple_tuple)
 intro A Q E s k q;have d:∀ b o,h.get? b=some o->s.heap.get? b=some o:=fun b o z=>k b o (hk b o z);unfold excMatches;refine bI (f A _ E s k ?_);dsimp only;rw [if_pos rfl];refine bI (wpAny_seqItems (k _ _ hp) hd ?_);dsimp only [Option.getD_some,Option.getD];refine bI (bO ?_);refine bI (ya1 (M:=M) (h:=h) (cs:=cs) (fun c hc=>?_) A _ E s d ?_)
 .intro A Q E s k q;obtain ⟨a,_⟩:=W.exm_cls (M:=M) X (hx c hc);refine bI (a A _ E s k ?_);rw [if_neg (by decide)];exact bO q
 .refine bI (LT A _ E s d ?_);refine bI (ya1 (M:=M) (h:=h) (b0:=((none:Option Bool),())) (cs:=cs) (fun c hc=>?_) A _ E s d ?_)
  .intro A Q E s k q;obtain ⟨_,a⟩:=W.exm_cls (M:=M) X (hx c hc);refine bI (a A _ E s k ?_);rw [if_neg (by decide)];exact bO q
  .exact bO q
end
section
variable {X:Cx} {suite:List Stmt} {b₀:Stmt} {tx n:Str} {np hpos pos:Pos} {ts:TS}
def thN (K:W.Frag) (D:Addr) (i:Nat) (ts:TS) (tr:THs):THs:=fun En σ Ca x H=>(W.exmOne K (.ref Ca) (.ref D)=some true/\ts (En.un i) (σ.set i (some (.ref x))) (upd H x (.ext (Ō x Ca))))\/(W.exmOne K (.ref Ca) (.ref D)=some false/\tr En σ Ca x H)
theorem yd1 {ji:List ExceptHandler} {tr:THs} (hg:Gl X tx) (hm:X.mg tx=some (.ref D)) (hs:∀ pn x,PSs (X.su pn x) (b₀ :: suite) ts) (hN:X.N.Nodup) (hi:X.N[i]?=some n) (hl:X.env.scope.names.lookup n=some .local) (hr:PHs X ji tr) (hdb:(tx == ("__debug__":Str))=false:=by decide) :
  PHs X (.ExceptHandler (some (.Name tx np)) (some n) (b₀ :: suite) hpos :: ji) (thN X.K D i ts tr):=by
 intro a s σ H x T t L J B A c q;refine wpAny_handleBy_cons (codeAny_handlers_test (zj (J.su x) hg hm ?_ hdb)) (by intro z; cases z)
 have m:Ō x t s.heap:=by
  obtain ⟨G,_,_,_,_,E,I,_⟩:=id c;exact ⟨G,E,I.1⟩
 have y:=J.ok;rcases q with ⟨d,q⟩ | ⟨d,q⟩
 .refine W.exm_one (M:=model X.prog X.w) (h:=s.heap) J.kIn m.type d _ _ _ _ (fun _ _ z=>z) ?_;dsimp only [if_true];refine codeAny_handlers_suite_as ?_;obtain ⟨a0,P⟩:=ybg (s:=s) (X:=X) c;refine wpAny_setFlight_noneW (base:=hid s X x T) ņ (Ń J) P fun h4 S Y k3 Q=>?_;obtain ⟨J,T4,A,c⟩:=uz J B A S Y k3 fun b o e O=>⟨o.slots,Q b o e O⟩
  have p:Ō x t h4:=by
   obtain ⟨G,_,_,_,_,E,I,_⟩:=id c;exact ⟨G,E,I.1⟩
  have J:=J.track (o:=.ext (Ō x t)) B ⟨p,let ⟨C,z,_⟩:=p; ⟨C,z⟩,fun h1 h2 ⟨C,U,R⟩ k=>⟨C,k _ U,R⟩⟩;refine ã (X:=X.su (X.pn++a) x) (i:=i) (v:=V.ref x) (J.su x) hN hi (Or.inl hl) rfl (fun s5 Z=>?_) (Or.inr hl);refine cT (hs (X.pn++a) x [] s5 _ _ (L.un i) Z q) (fun f s6 q=>?_) fun _ _ z=>False.elim z
  cases f with
  | next=>obtain ⟨σ6,g,j,q⟩:=q; exact (j.unsu y).unbind hN hi hl fun F l=>⟨_,g,l,q⟩
  | brk=>obtain ⟨σ6,g,j,q⟩:=q; exact (j.unsu y).unbind hN hi hl fun F l=>⟨_,g,l,q⟩
  | cont=>obtain ⟨σ6,g,j,q⟩:=q; exact (j.unsu y).unbind hN hi hl fun F l=>⟨_,g,l,q⟩
  | ret u=>obtain ⟨v,σ6,g,j,r,q⟩:=q; exact (j.unsu y).unbind hN hi hl fun F l=>⟨v,_,g,l,r,q⟩
 .refine W.exm_one (M:=model X.prog X.w) (h:=s.heap) J.kIn m.type d _ _ _ _ (fun _ _ z=>z) ?_;exact hr a _ σ H x T t L J B A c q
def thT (K:W.Frag) (cs:List Addr) (tr:THs):THs:=fun En σ Ca x H=>(∀ D∈cs,W.exmOne K (.ref Ca) (.ref D)=some false)/\∀ p,H p=none->p≠x->tr En σ Ca x (upd H p (.tup (cs.map V.ref)))
theorem yws {es:List Expr} {px2:Pos} {ctx:Nat} {cs:List Addr} {t:TE} {ji:List ExceptHandler} {tr:THs} (ht:∀ pn x,PE (X.su pn x) (.Tuple es ctx px2) t) (hte:∀ σ H (Q:VK),(∀ p,H p=none->Q (.ref p) (upd H p (.tup (cs.map V.ref))))->t σ H Q) (hr:PHs X ji tr) :
  PHs X (.ExceptHandler (some (.Tuple es ctx px2)) none (b₀ :: suite) hpos :: ji) (thT X.K cs tr):=by
 intro a s σ H x T j R J k i F q;obtain ⟨B,q⟩:=q;obtain ⟨f,us,l,ws,W,I,C,L,q4,q5,S,G,q8⟩:=id F;have ok:=J.ok
 have P:Inv X (a++[(x,f),(T,l)]) σ H s:=J.pins_of fun p g=>by
  rcases cr.mp g with z | z
  .exact J.pin p (bY _ z)
  .simp only [bW,List.not_mem_nil,or_false] at z;rcases z with rfl | rfl
   .exact ⟨I,k.1,k.2.1,k.2.2.1,fun v e=>by rw [L] at e; cases e⟩
   .exact ⟨S,i.1,i.2.1,i.2.2.1,fun v e=>by rw [G] at e; cases e⟩
 have Y:Ō x j s.heap:=⟨f,I,C.1⟩;refine wpAny_handleBy_cons (codeAny_handlers_test ?_) (by intro z; cases z);refine cT (ht (X.pn++(a++[(x,f),(T,l)])) x [] s σ H (fun v N=>∃ p,v=.ref p/\H p=none/\N=upd H p (.tup (cs.map V.ref))) (P.su x) (hte σ H _ fun p g=>⟨p,rfl,g,rfl⟩)) (fun c o u=>?_) fun _ _ z=>False.elim z;obtain ⟨v,N,d,r1,p,rfl,g,rfl⟩:=u;obtain rfl:c=.ref p:=r1;have d:=d.unsu ok;have n:=d.pin (x,f) (by simp);have O:=d.pin (T,l) (by simp);have A:Fy X a (upd H p (.tup (cs.map V.ref))) x:=⟨n.2.1,k.2⟩;have r:Fy X a (upd H p (.tup (cs.map V.ref))) T:=⟨O.2.1,i.2⟩;have y:Trd o.heap x T (.ref j) .none:=⟨f,us,l,ws,W,n.1,C,L,q4,q5,O.1,G,q8⟩;have d:Inv X a σ (upd H p (.tup (cs.map V.ref))) o:=Inv.unpinned d;have E:Ō x j o.heap:=⟨f,n.1,C.1⟩;obtain ⟨_,a0,Z,ho⟩:=d.hok p (.tup (cs.map V.ref)) yc;have ev:=yaz Z;subst ev;have nx:=q p g fun z=>by have e:=n.2.1; rw [z] at e; exact absurd (yc.symm.trans e) (by intro w; cases w)
 obtain ⟨ob,o1,o2,m,o3⟩:=ho;refine yqm (M:=model X.prog X.w) (h:=o.heap) d.kIn E.type (fun _ _ z=>z) o1 o2 o3 (fun c u=>?_) _ _ _ _ (fun _ _ z=>z) ?_
 .obtain ⟨D,U,rfl⟩:=bM.mp u;exact B D U
 .exact hr a _ σ _ x T j R d A r y nx
end
section
variable {σ:St} {H:Hp} {ts:TS} {K:W.Frag} {Ca:Addr} {tr:THs} {En:Á} {cs:List Addr}
theorem yyy (hex:W.exmOne K (.ref Ca) (.ref D)=some true) (h:∀ x,H x=none->ts (En.un i) (σ.set i (some (.ref x))) (upd H x (.ext (Ō x Ca)))):exH (thN K D i ts tr) En σ (.ref Ca) none H:=fun x a=>⟨Ca,rfl,.inl ⟨hex,h x a⟩⟩
theorem yxd (hex:W.exmOne K (.ref Ca) (.ref D)=some false) (h:exH tr En σ (.ref Ca) none H):exH (thN K D i ts tr) En σ (.ref Ca) none H:=fun x a=>by
 obtain ⟨b,e,q⟩:=h x a;cases e;exact ⟨Ca,rfl,.inr ⟨hex,q⟩⟩
theorem ynk (hex:∀ D∈cs,W.exmOne K (.ref Ca) (.ref D)=some false) (h:∀ p,H p=none->exH tr En σ (.ref Ca) none (upd H p (.tup (cs.map V.ref)))):exH (thT K cs tr) En σ (.ref Ca) none H:=fun x b=>by
 refine ⟨Ca,rfl,hex,fun p c a=>?_⟩;obtain ⟨d,e,q⟩:=h p c x (by rw [ym a.symm]; exact b);cases e;exact q
end
structure Dg (K:W.Frag) (x q:Str) (st:Stmt) (f:Addr) (fd:FuncData) (M:Prop):Prop where
 F:Fun K x q st f fd
 m:M
structure Df (K:W.Frag) (x q:Str) (st:Stmt) (ps:List Str) (f:Addr) (fd:FuncData) (M:Prop):Prop where
 F:Fun K x q st f fd
 B:uc K fd ps []
 m:M
theorem yc7 {α:Type} {n:Nat} {a:List α} (h:a.length=n+1):∃ x r,a=x :: r/\r.length=n:=by
 cases a with
 | nil=>cases h
 | cons x r=>exact ⟨x,r,rfl,Nat.succ.inj h⟩
abbrev Dgf (K:W.Frag) (mg:Str->Option Value) (x:Str) (st:Stmt) (f:Addr) (fd:FuncData):Prop:=Dg K x x st f fd (mg x=some (.ref f))
abbrev Dgm (K:W.Frag) (C:Addr) (x q:Str) (st:Stmt) (f:Addr) (fd:FuncData):Prop:=Dg K x q st f fd (yts K C x f)
abbrev Dff (K:W.Frag) (mg:Str->Option Value) (x:Str) (st:Stmt) (ps:List Str) (f:Addr) (fd:FuncData):Prop:=Df K x x st ps f fd (mg x=some (.ref f))
abbrev Dfm (K:W.Frag) (C:Addr) (x q:Str) (st:Stmt) (ps:List Str) (f:Addr) (fd:FuncData):Prop:=Df K x q st ps f fd (yts K C x f)
section
variable {K:W.Frag} {mg:Str->Option Value} {h:Heap} {x q:Str} {st:Stmt} {f:Addr} {M:Prop} {oc kV doc pm cdv ct:Value} {od an:Option Addr} {osl:Array (Option Value)}
theorem dgf_mk (X:K.In h) (G:h.Ns mainGlobals mg) (a:W.nsIn K mainGlobals x=some (some (.ref f))) (l:K.lookup f=some ⟨oc,od,.func (W.fnOf x x (w5 st) (wn st) (yg st) .none kV doc pm an cdv ct),osl⟩)
  (c:W.codeIn K cdv x=true) (k:W.keepIn K (.ref f)=true):Dgf K mg x st f (W.fnOf x x (w5 st) (wn st) (yg st) .none kV doc pm an cdv ct):=⟨yn5 l c k,W.mg_of X G a⟩
theorem dgm_mk (a:W.findIn K (.ref C) x=some (some (.ref f))) (i:W.isFn K (.ref f)=true) (l:K.lookup f=some ⟨oc,od,.func (W.fnOf x q (w5 st) (wn st) (yg st) .none kV doc pm an cdv ct),osl⟩)
  (c:W.codeIn K cdv q=true) (k:W.keepIn K (.ref f)=true):Dgm K C x q st f (W.fnOf x q (w5 st) (wn st) (yg st) .none kV doc pm an cdv ct):=⟨yn5 l c k,a,i,k⟩
theorem Dg.d1 (D:Dg K x q st f fd M) (h:∀ (kV doc pm:Value) (an:Option Addr) (cdv ct:Value) (u0:Value),bindArgs (W.fnOf x q (w5 st) (wn st) (yg st) .none kV doc pm an cdv ct) ⟨[u0],[]⟩=pure [(p0,u0)]):Df K x q st [p0] f fd M :=
 ⟨D.F,D.F.binds fun kV doc pm an cdv ct d a=>(by
  obtain ⟨u0,c,rfl,b⟩:=yc7 a;obtain rfl:=cV b;exact h kV doc pm an cdv ct u0),D.m⟩
theorem Dg.d2 (D:Dg K x q st f fd M) (h:∀ (kV doc pm:Value) (an:Option Addr) (cdv ct:Value) (u0 u1:Value),bindArgs (W.fnOf x q (w5 st) (wn st) (yg st) .none kV doc pm an cdv ct) ⟨[u0,u1],[]⟩=pure [(p0,u0),(p1,u1)]):Df K x q st [p0,p1] f fd M :=
 ⟨D.F,D.F.binds fun kV doc pm an cdv ct d c=>(by
  obtain ⟨u0,e,rfl,a⟩:=yc7 c; obtain ⟨u1,g,rfl,b⟩:=yc7 a;obtain rfl:=cV b;exact h kV doc pm an cdv ct u0 u1),D.m⟩
theorem Dg.d3 (D:Dg K x q st f fd M) (h:∀ (kV doc pm:Value) (an:Option Addr) (cdv ct:Value) (u0 u1 u2:Value),bindArgs (W.fnOf x q (w5 st) (wn st) (yg st) .none kV doc pm an cdv ct) ⟨[u0,u1,u2],[]⟩=pure [(p0,u0),(p1,u1),(p2,u2)]):Df K x q st [p0,p1,p2] f fd M :=
 ⟨D.F,D.F.binds fun kV doc pm an cdv ct g c=>(by
  obtain ⟨u0,i,rfl,a⟩:=yc7 c; obtain ⟨u1,j,rfl,b⟩:=yc7 a; obtain ⟨u2,e,rfl,d⟩:=yc7 b;obtain rfl:=cV d;exact h kV doc pm an cdv ct u0 u1 u2),D.m⟩
theorem Dg.d4 {p3:Str} (D:Dg K x q st f fd M) (h:∀ (kV doc pm:Value) (an:Option Addr) (cdv ct:Value) (u0 u1 u2 u3:Value),bindArgs (W.fnOf x q (w5 st) (wn st) (yg st) .none kV doc pm an cdv ct) ⟨[u0,u1,u2,u3],[]⟩=pure [(p0,u0),(p1,u1),(p2,u2),(p3,u3)]):Df K x q st [p0,p1,p2,p3] f fd M :=
 ⟨D.F,D.F.binds fun kV doc pm an cdv ct j d=>(by
  obtain ⟨u0,k,rfl,a⟩:=yc7 d; obtain ⟨u1,i,rfl,b⟩:=yc7 a; obtain ⟨u2,l,rfl,e⟩:=yc7 b; obtain ⟨u3,g,rfl,c⟩:=yc7 e;obtain rfl:=cV c;exact h kV doc pm an cdv ct u0 u1 u2 u3),D.m⟩
theorem Dg.d5 {p3 p4:Str} (D:Dg K x q st f fd M) (h:∀ (kV doc pm:Value) (an:Option Addr) (cdv ct:Value) (u0 u1 u2 u3 u4:Value),bindArgs (W.fnOf x q (w5 st) (wn st) (yg st) .none kV doc pm an cdv ct) ⟨[u0,u1,u2,u3,u4],[]⟩=pure [(p0,u0),(p1,u1),(p2,u2),(p3,u3),(p4,u4)]):Df K x q st [p0,p1,p2,p3,p4] f fd M :=
 ⟨D.F,D.F.binds fun kV doc pm an cdv ct l e=>(by
  obtain ⟨u0,n,rfl,a⟩:=yc7 e; obtain ⟨u1,k,rfl,c⟩:=yc7 a; obtain ⟨u2,j,rfl,g⟩:=yc7 c; obtain ⟨u3,i,rfl,d⟩:=yc7 g; obtain ⟨u4,o,rfl,b⟩:=yc7 d;obtain rfl:=cV b;exact h kV doc pm an cdv ct u0 u1 u2 u3 u4),D.m⟩
end
structure KC (K:W.Frag) (C:Addr):Prop where
 pg:W.plainGet K C Str.empty=true
 hd:W.hasDictIn K C=true
 po:W.plainOver K C=true
 sa:W.findIn K (.ref C) "__setattr__"=some (some (.builtin "object.__setattr__"))
 mk':W.makesIn K C=true
 kc:W.keepIn K (.ref C)=true
theorem KC.cls {K:W.Frag} (h:KC K C):Cls K C:=⟨h.pg,h.hd,h.po,h.sa⟩
abbrev GV (K:W.Frag) (x:Str) (v:Value):Prop:=W.nsIn K mainGlobals x=some (some v)
abbrev GZ (K:W.Frag) (x:Str):Prop:=W.nsIn K mainGlobals x=some none
abbrev FN (K:W.Frag) (C:Addr) (x:Str):Prop:=W.findIn K (.ref C) x=some none
section
variable {K:W.Frag} {H:Hp} {p dx:Addr} {fs fs':List (Str × V)} {v:V} {nm:Str} {P:V->Prop} {nx:St->Hp->Prop} {σ:St}
abbrev RdX (K:W.Frag) (H:Hp) (p:Addr) (nm:Str) (P:V->Prop):Prop:=∃ a' C dx fs v,V.ref p=.ref a'/\H a'=some (.ins C dx fs)/\Cls K C/\vn K C nm/\fs.lookup nm=some v/\P v
abbrev StX (K:W.Frag) (H:Hp) (p:Addr) (nm:Str) (v:V) (nx:St->Hp->Prop) (σ:St):Prop:=∃ a' C dx fs,V.ref p=.ref a'/\H a'=some (.ins C dx fs)/\Cls K C/\vn K C nm/\fs.length < 1000/\wo nx σ (upd H a' (.ins C dx (jf nm v fs)))
abbrev MtX (H:Hp) (p C:Addr) (nm:Str) (R:Prop):Prop:=∃ a dx fs,V.ref p=.ref a/\H a=some (.ins C dx fs)/\fs.lookup nm=none/\R
theorem rdX (hp:H p=some (.ins C dx fs)) (c:Cls K C) (n:vn K C nm) (l:fs.lookup nm=some v) (h:P v):RdX K H p nm P:=⟨p,C,dx,fs,v,rfl,hp,c,n,l,h⟩
theorem stX (hp:H p=some (.ins C dx fs)) (c:Cls K C) (n:vn K C nm) (l:fs.length < 1000) (e:jf nm v fs=fs') (h:wo nx σ (upd H p (.ins C dx fs'))):StX K H p nm v nx σ:=⟨p,C,dx,fs,rfl,hp,c,n,l,by rw [e]; exact h⟩
theorem lt0:([]:List (Str × V)).length < 1000:=by show 0 < 1000; decide
theorem lt1 {a:Str × V}:[a].length < 1000:=by show 1 < 1000; decide
theorem lt2 {a b:Str × V}:[a,b].length < 1000:=by show 2 < 1000; decide
theorem lt3 {a b c:Str × V}:[a,b,c].length < 1000:=by show 3 < 1000; decide
theorem lt4 {a b c d:Str × V}:[a,b,c,d].length < 1000:=by show 4 < 1000; decide
theorem lt5 {a b c d e:Str × V}:[a,b,c,d,e].length < 1000:=by show 5 < 1000; decide
theorem lt6 {a b c d e f:Str × V}:[a,b,c,d,e,f].length < 1000:=by show 6 < 1000; decide
theorem yy0:∀ {fs:List (Str × V)},nm∉fs.map (·.1)->fs.lookup nm=none
 | [],_=>rfl
 | (g,v) :: r,h=>wk (fun e=>h (by rw [e]; exact cG)) (yy0 fun m=>h (cz _ m))
theorem mtX {R:Prop} {N:List Str} (hp:H p=some (.ins C dx fs)) (k:fs.map (·.1)=N) (n:nm∉N) (h:R):MtX H p C nm R:=⟨p,dx,fs,rfl,hp,yy0 (by rw [k]; exact n),h⟩
theorem wv {N P:List Str} {sc:Scope} (h:(sc.kind=.function/\sc.isCoroutine=false/\sc.isGenerator=false)/\N.Nodup/\N.take P.length=P/\(∀ x∈P,sc.names.lookup x=some .local\/sc.names.lookup x=some .cell)/\∀ y∈sc.names,y.2≠.free):yk N P sc:=⟨h.1.1,h.1.2.1,h.1.2.2,h.2.1,h.2.2.1,h.2.2.2.1,h.2.2.2.2⟩
end
theorem Inv.freeze {X:Cx} {σ:St} {H:Hp} {s:Shared} {d:Addr} {u:HO} {o:Obj} (I:Inv X pins σ H s) (hd:H d=some u) (mu:Mut (some u)) (ho:s.heap.get? d=some o):Inv X pins σ (upd H d (.frz o u)) s:=by
 have h:∀ {b},H b=none->b≠d:=fun n z=>by rw [z,hd] at n; cases n
 have f:∀ {b v},H b=some v->¬ Mut (some v)->b≠d:=fun e n z=>by rw [z,hd] at e; cases e; exact n mu
 refine ⟨I.ok,I.os,I.bare,⟨I.base.keep,I.base.slot,fun b i e n t=>?_,I.base.there,fun b l e=>?_,fun b i v e=>?_,fun b w e=>?_⟩,I.loc,I.cell,?_,fun x c e=>?_,fun p A=>?_,fun b v e=>?_,I.len⟩
 .have z:=I.base.free b i e n t; rw [ym (h z)]; exact z
 .have z:=I.base.tups b l e; rw [ym (f z id)]; exact z
 .have z:=I.base.frzs b i v e; rw [ym (f z id)]; exact z
 .obtain ⟨m,z⟩:=I.base.tbls b w e; exact ⟨m,by rw [ym (f z id)]; exact z⟩
 .rw [ym (h I.free)]; exact I.free
 .rw [ym (h (I.freeC x c e))]; exact I.freeC x c e
 .obtain ⟨r,j,k⟩:=I.pin p A; exact ⟨r,by rw [ym (h j)]; exact j,k⟩
 .have a:∀ {c y},H c=some (.own y)->upd H d (.frz o u) c=some (.own y):=fun q=>by rw [ym (f q id)]; exact q
  have g:∀ {c y},H c=some (.tup y)->upd H d (.frz o u) c=some (.tup y):=fun q=>by rw [ym (f q id)]; exact q
  by_cases hb:b=d
  .subst hb; rw [yc] at e; cases e; exact ⟨ho,(I.hok b _ hd).stay (fun _ _ _ q=>q) (fun _ q=>a q) fun _ _ q=>g q⟩
  .rw [ym hb] at e; exact (I.hok b v e).stay (fun _ _ _ q=>q) (fun _ q=>a q) fun _ _ q=>g q
theorem Inv.thaw {X:Cx} {σ:St} {H:Hp} {s:Shared} {d:Addr} {u:HO} {o:Obj} (I:Inv X pins σ H s) (h0:∀ o u,X.H₀ d≠some (.frz o u)) (hd:H d=some (.frz o u)):Inv X pins σ (upd H d u) s:=by
 have h:∀ {b},H b=none->b≠d:=fun n z=>by rw [z,hd] at n; cases n
 refine ⟨I.ok,I.os,I.bare,⟨I.base.keep,I.base.slot,fun b g e n r=>?_,I.base.there,fun b k e=>?_,fun b g u e=>?_,fun b t e=>?_⟩,I.loc,I.cell,?_,fun x c e=>?_,fun p A=>?_,fun b v e=>?_,I.len⟩
 .have z:=I.base.free b g e n r; rw [ym (h z)]; exact z
 .have z:=I.base.tups b k e; rw [ym (xb z hd (by intro w; cases w))]; exact z
 .rw [ym (fun z=>h0 g u (by rw [<- z]; exact e))]; exact I.base.frzs b g u e
 .obtain ⟨m,z⟩:=I.base.tbls b t e; exact ⟨m,by rw [ym (xb z hd (by intro w; cases w))]; exact z⟩
 .rw [ym (h I.free)]; exact I.free
 .rw [ym (h (I.freeC x c e))]; exact I.freeC x c e
 .obtain ⟨l,i,j⟩:=I.pin p A; exact ⟨l,by rw [ym (h i)]; exact i,j⟩
 .have a:∀ {c y},H c=some (.own y)->upd H d u c=some (.own y):=fun q=>by rw [ym (xb q hd (by intro w; cases w))]; exact q
  have f:∀ {c y},H c=some (.tup y)->upd H d u c=some (.tup y):=fun q=>by rw [ym (xb q hd (by intro w; cases w))]; exact q
  by_cases hb:b=d
  .subst hb; rw [yc] at e; cases e; exact (I.hok b _ hd).2.stay (fun _ _ _ q=>q) (fun _ q=>a q) fun _ _ q=>f q
  .rw [ym hb] at e; exact (I.hok b v e).stay (fun _ _ _ q=>q) (fun _ q=>a q) fun _ _ q=>f q
theorem ygu {α β:Type} {F:α->β->Prop} {l₁:List α} {l₂:List β} (h:Paired F l₁ l₂):∀ {i:Nat} {y:β},l₂[i]?=some y->∃ x,l₁[i]?=some x/\F x y:=by
 induction h with
 | nil=>intro i y e; cases e
 | cons r t ih =>
  intro i y e
  cases i with
  | zero=>cases e; exact ⟨_,rfl,r⟩
  | succ j=>exact ih e
section
variable {X:Cx}
def yzk (H:Hp) (D:Á):Á:={ D with nx:=fun σ' H'=>∃ d o u,(∀ o u,H d≠some (.frz o u))/\H' d=some (.frz o u)/\D.nx σ' (upd H' d u) }
def yzh (t:TS):TS:=fun D σ H=>t (yzk H D) σ H
theorem yqv {st:Stmt} {t:TS} (h:PS X st t):PS X st (yzh t):=by
 refine .mk fun a s σ H D I q=>?_;refine thn (h a s σ H _ I q) fun f j z=>?_
 cases f with
 | next =>
  obtain ⟨σ',i,J,d,o,c,b,g,k⟩:=z;exact ⟨σ',_,J.thaw (fun o u e=>b o u (I.base.frzs d o u e)) g,k⟩
 | brk=>exact z
 | cont=>exact z
 | ret u=>exact z
theorem yuj {t:TS} {D:Á} {σ:St} {H:Hp} (h:t (yzk H D) σ H):yzh t D σ H:=h
end
def Its (x:Str):It:=⟨fun i _=>i < x.cps.size,fun i H v H'=>H'=H/\∃ c,x.cps[i]?=some c/\v=.str ⟨#[c]⟩,fun i _=>i=x.cps.size⟩
theorem yd0 {w:World} {K:W.Frag} {ty:String} (x:Str) (t:Tok) (it:Addr) (hn:["enumerate","zip","dict_itemiterator","dict_reverseitemiterator","odict_iterator","itertools.zip_longest","itertools.pairwise"].contains ty=false)
  (W:∀ A:Around,A.handled=none->Walks P w A it [it] [it] x.cps.size (SignAt x) (fun i h=>h.IsStrIter it ty x t i)) (hs:∀ (A:Around) (i:Nat) (s:Shared) (Q E:Value->Shared->Prop),s.heap.IsStrIter it ty x t i->Q (.ref it) s->wpAny (model P w) A (pyIter (.ref it)) Q E s):yf9 P w K tg (Its x) [it] it (fun i h=>h.IsStrIter it ty x t i) where
 mem:=by simp
 obj:=fun i h a b g=>by
  have e:b=it:=by simpa using g
  subst e;obtain ⟨o,e,_,d⟩:=a;exact ⟨o,e,fun v z=>by rw [d] at z; cases z⟩
 keep:=fun i h n a k=>let ⟨o,e,r⟩:=a; ⟨o,k it (by simp) o e,r⟩
 item:=by
  intro X B D p q i f s σ H E I m a l;subst B D p;obtain ⟨y,F,S,M,C,G⟩:=m it (by simp);refine (W X.A (I.ok.hd q)).item i s _ _ l a fun v n L O j J=>?_;obtain ⟨c,u,T,rfl⟩:=O;have U:Inv X f σ H { s with heap:=n,toks:=L }:=I.turned (fun b o g e=>J b o (by simpa using g) e) y F M C G;obtain ⟨o,e,R,N⟩:=id j;exact ⟨_,rfl,yfz (s:={ s with heap:=n,toks:=L }) e R N hn ⟨.str ⟨#[c]⟩,H,U,⟨u,rfl⟩,⟨rfl,c,T,rfl⟩,j,fun b g=>(m b g).1⟩⟩
 done:=by
  intro X B D p q i f s σ H E I m a l;subst B D p;have l:i=x.cps.size:=l;subst l;obtain ⟨y,F,S,M,C,G⟩:=m it (by simp);exact (W X.A (I.ok.hd q)).done s _ _ a fun n L J=>⟨rfl,I.turned (fun b o g e=>J b o (by simpa using g) e) y F M C G⟩
 self:=fun A i s Q E a h=>hs A i s Q E a h
section
variable {X:Cx}
def vcy (tl:TE):TI:=fun σ H R=>tl σ H fun v H1=>∃ x,v=.str x/\R (Its x) H1
theorem ylx {l:Expr} {tl:TE} (hl:PE X l tl):PI X tg l (vcy tl):=by
 intro a s σ H R I h;refine thn (hl a s σ H _ I h) fun v c h'=>?_;obtain ⟨y,j,f,m,x,e,q⟩:=h';subst e;obtain ⟨t,rfl⟩:=m
 have d:∀ {ob:Obj},∀ b∈[c.heap.objs.size],yc6 X a j b:=fun {_} b k=>by
  have e:b=c.heap.objs.size:=by simpa using k
  subst e;exact f.fpOk (bL _) (f.hok.fresh (bL _))
 cases ha:x.cps.all (· < 128)
 .refine wpAny_pyIter_wide ha ?_;exact ⟨c.heap.objs.size,[c.heap.objs.size],_,_,j,rfl,f.kept (t':=c.toks) fun b o e=>bK _ e,yd0 x t _ (by decide) (fun A i=>Walks.strWide i _ x t) (fun _ _ _ _ _ g h=>wpAny_pyIter_striter_wide g h),⟨_,bU _ rfl,rfl,rfl⟩,d (ob:=default),q⟩
 .refine wpAny_pyIter_ascii ha ?_;exact ⟨c.heap.objs.size,[c.heap.objs.size],_,_,j,rfl,f.kept (t':=c.toks) fun b o e=>bK _ e,yd0 x t _ (by decide) (fun A i=>Walks.strAscii i _ x t) (fun _ _ _ _ _ g h=>wpAny_pyIter_striter_ascii g h),⟨_,bU _ rfl,rfl,rfl⟩,d (ob:=default),q⟩
theorem yue {tl:TE} {σ:St} {H:Hp} {R:It->Hp->Prop} (h:tl σ H fun v H1=>∃ x,v=.str x/\R (Its x) H1):vcy tl σ H R:=h
theorem yp4 {x:Str} {k:Str} {t:Tok} {pos:Pos} (hg:Gl X x) (hm:X.mg x=some (.str k t)) (hd:(x == ("__debug__":Str))=false:=by decide):PE X (.Name x pos) (tC (.str k)):=yct hg hm ⟨t,rfl⟩ hd
end
theorem yhd {x:Str} {te:TE} {R:Hp->Prop} {H1:Hp} (f:Nat->V) (hD:H1 D=none)
  (hs:∀ i c H,x.cps[i]?=some c->i < x.cps.size->yx H1 H->H D=some (.lst ((List.range i).map f))->te [some (.str ⟨#[c]⟩)] H (MpK H1 D f x.cps.size i)) (hd:∀ H,yx H1 H->H D=some (.lst ((List.range x.cps.size).map f))->R H):yem (Its x) te D R H1:=by
 refine ⟨cW x.cps.size (Mp H1 D f),⟨x.cps.size,by simp,cb _,Mp.zero hD⟩,?_⟩;rintro i m H ⟨rfl,b,p⟩;by_cases hlt:i < x.cps.size
 .refine .inr ⟨hlt,fun v d y=>?_⟩;obtain ⟨rfl,c,a,rfl⟩:=y;exact hs i c _ a hlt p.1 p.2
 .have e:i=x.cps.size:=by omega
  subst e;exact .inl ⟨rfl,hd H p.1 p.2⟩
def Itk (o:Obj) (d:Addr) (kvs:List (Key × V)):It :=
 ⟨fun i H=>H d=some (.frz o (.dK kvs))/\i < kvs.length,fun i H x H'=>H'=H/\∃ k v,kvs[i]?=some (k,v)/\x=kV k,fun i H=>H d=some (.frz o (.dK kvs))/\kvs.length <= i⟩
def Itv (o:Obj) (d:Addr) (kvs:List (Key × V)):It :=
 ⟨fun i H=>H d=some (.frz o (.dK kvs))/\i < kvs.length,fun i H x H'=>H'=H/\∃ k,kvs[i]?=some (k,x),fun i H=>H d=some (.frz o (.dK kvs))/\kvs.length <= i⟩
theorem yzg {w:World} {k:Key} {u:Value} (r:(vx P w).is k u=true):xh (kV k) u:=by
 rcases vv r with ⟨i,t,rfl,rfl⟩ | ⟨x,t,rfl,rfl⟩ <;> exact ⟨t,rfl⟩
theorem KV.get {kvs:List (Key × V)} {vs:List (Key × Value)} (r:KV kvs vs) {k:Key} {u:Value} (h:vs[i]?=some (k,u)):∃ v,kvs[i]?=some (k,v)/\xh v u:=by
 obtain ⟨⟨b,v⟩,e,a,c⟩:=ygu r h;have a:b=k:=a;exact ⟨v,by rw [e,a],c⟩
theorem ycm:∀ {xs:List V} {us:List Value},xs.length=us.length->(∀ (i:Nat) u,us[i]?=some u->∃ x,xs[i]?=some x/\xh x u)->wx xs us
 | [],[],_,_=>.nil
 | x :: xs,u :: us,hl,h=>by
  obtain ⟨y,e,r⟩:=h 0 u rfl;cases e;exact .cons r (ycm (Nat.succ.inj hl) fun i u a=>h (i+1) u a)
theorem yep {X:Cx} {σ:St} {H:Hp} {s:Shared} {d:Addr} {kvs:List (Key × V)} {o:Obj} {es:Array DictEntry} (I:Inv X pins σ H s) (hd:H d=some (.frz o (.dK kvs))) (ho:o.data=.dict es ep):∃ vs,KV kvs vs/\s.heap.DictAt (vx X.prog X.w) d vs ep:=by
 obtain ⟨c,_,_,vs,r,i,h,g,a,f,b,e⟩:=(show ww X.prog X.w H s.heap d (.frz o (.dK kvs)) from I.hok d _ hd);rw [c] at a;cases a;rw [ho] at b;cases b;exact ⟨vs,r,o,es,c,f,ho,e⟩
theorem yhe {w:World} {K:W.Frag} {o:Obj} {es:Array DictEntry} {kvs:List (Key × V)} (d it:Addr) (hne:d≠it) (ho:o.data=.dict es ep):yf9 P w K tg (Itk o d kvs) [it] it (fun i h=>h.IsKeyIter it d i kvs.length ep) where
 mem:=by simp
 obj:=fun i h a b f=>by
  have e:b=it:=by simpa using f
  subst e;obtain ⟨o,e,_,d⟩:=a;exact ⟨o,e,fun v z=>by rw [d] at z; cases z⟩
 keep:=fun i h l a k=>a.at fun o e=>k it (by simp) o e
 item:=by
  intro X B D n q i c s σ H E I j a ⟨t,S⟩;subst B D n;obtain ⟨u,F,Z,J,C,G⟩:=j it (by simp);obtain ⟨L,r,p⟩:=yep I t ho;have m:=r.length;have W:=Walks.dictKeys (knd:=vx X.prog X.w) (prog:=X.prog) (w:=X.w) (A:=X.A) (I.ok.hd q) it d hne L ep;refine W.item i s _ _ (by omega) ⟨by rw [<- m]; exact a,p⟩ fun v l M R g kk=>?_;obtain ⟨k,x,hx,hk⟩:=R;obtain ⟨y,T,_⟩:=r.get hx;have I1:Inv X c σ H { s with heap:=l,toks:=M }:=I.turned (fun b o f e=>kk b o (by simpa using f) e) u F J C G;obtain ⟨o',U,Q,N⟩:=id g.1;exact ⟨_,rfl,yfz (s:={ s with heap:=l,toks:=M }) U Q N (by decide) ⟨kV k,H,I1,yzg hk,⟨rfl,k,y,T,rfl⟩,by rw [m]; exact g.1,fun b f=>(j b f).1⟩⟩
 done:=by
  intro X B D n q i c s σ H E I j a ⟨t,O⟩;subst B D n;obtain ⟨u,F,Z,J,C,G⟩:=j it (by simp);obtain ⟨L,r,p⟩:=yep I t ho;have m:=r.length;exact wpAny_pyNext_dict_end (I.ok.hd q) (by rw [<- m]; exact a) p (by rw [List.getElem?_eq_none_iff]; omega) fun l Y=>⟨rfl,I.turned (t':=s.toks) (fun b o f e=>Y b o f e) u F J C G⟩
 self:=fun _ _ _ _ _ a h=>wpAny_pyIter_keyiter a h
theorem ygp {w:World} {K:W.Frag} {o:Obj} {es:Array DictEntry} {kvs:List (Key × V)} (d it:Addr) (hne:d≠it) (ho:o.data=.dict es ep):yf9 P w K tg (Itv o d kvs) [it] it (fun i h=>h.IsValIter it d i kvs.length ep) where
 mem:=by simp
 obj:=fun i h a b f=>by
  have e:b=it:=by simpa using f
  subst e;obtain ⟨o,e,_,d⟩:=a;exact ⟨o,e,fun v z=>by rw [d] at z; cases z⟩
 keep:=fun i h l a k=>a.at fun o e=>k it (by simp) o e
 item:=by
  intro X x C n q i c s σ H E I j a ⟨t,S⟩;subst x C n;obtain ⟨u,D,Z,G,B,F⟩:=j it (by simp);obtain ⟨J,r,p⟩:=yep I t ho;have m:=r.length;have W:=Walks.dictValues (knd:=vx X.prog X.w) (prog:=X.prog) (w:=X.w) (A:=X.A) (I.ok.hd q) it d hne J ep;refine W.item i s _ _ (by omega) ⟨by rw [<- m]; exact a,p⟩ fun v l L R g kk=>?_;obtain ⟨k,hx⟩:=R;obtain ⟨y,T,Q⟩:=r.get hx;have I1:Inv X c σ H { s with heap:=l,toks:=L }:=I.turned (fun b o f e=>kk b o (by simpa using f) e) u D G B F;obtain ⟨o',U,O,M⟩:=id g.1;exact ⟨_,rfl,yfz (s:={ s with heap:=l,toks:=L }) U O M (by decide) ⟨y,H,I1,Q,⟨rfl,k,T⟩,by rw [m]; exact g.1,fun b f=>(j b f).1⟩⟩
 done:=by
  intro X x C n q i c s σ H E I j a ⟨t,N⟩;subst x C n;obtain ⟨u,D,Z,G,B,F⟩:=j it (by simp);obtain ⟨J,r,p⟩:=yep I t ho;have m:=r.length;exact wpAny_pyNext_values_end (I.ok.hd q) (by rw [<- m]; exact a) p (by rw [List.getElem?_eq_none_iff]; omega) fun l Y=>⟨rfl,I.turned (t':=s.toks) (fun b o f e=>Y b o f e) u D G B F⟩
 self:=fun _ _ _ _ _ a h=>wpAny_pyIter_valiter a h
section
variable {X:Cx}
def yzu (to:TE):TI:=fun σ H R=>to σ H fun x H1=>∃ d kvs,x=.ref d/\H1 d=some (.dK kvs)/\∀ o,R (Itk o d kvs) (upd H1 d (.frz o (.dK kvs)))
def yzi (to:TE):TI:=fun σ H R=>to σ H fun x H1=>∃ d kvs,x=.ref d/\H1 d=some (.dK kvs)/\∀ o,R (Itv o d kvs) (upd H1 d (.frz o (.dK kvs)))
theorem yqr {l:Expr} {to:TE} (hl:PE X l to):PI X tg l (yzu to):=by
 intro c s σ H R I h;refine thn (hl c s σ H _ I h) fun v a h'=>?_;obtain ⟨x,C,n,E,d,f,e,k,q⟩:=h';subst e;cases E;obtain ⟨_,j,B,r,m,u,A,g,D,p,z⟩:=(show ww X.prog X.w C a.heap d (.dK f) from n.hok d _ k);have y:a.heap.DictAt (vx X.prog X.w) d B A:=⟨m,u,g,D,p,z⟩;refine wpAny_pyIter_dict j y ?_;have i:=n.freeze k trivial g;refine ⟨a.heap.objs.size,[a.heap.objs.size],_,_,_,rfl,i.kept (t':=a.toks) fun b o e=>bK _ e,yhe d _ (ci (bQ g)) p,⟨_,bU _ rfl,rfl,by rw [r.length]; rfl⟩,fun b t=>?_,q m⟩;have e:b=a.heap.objs.size:=by simpa using t
 subst e;exact i.fpOk (bL _) (i.hok.fresh (bL _))
theorem yig {l:Expr} {to:TE} {apos cpos:Pos} (hl:PE X l to) (hbase:attributeBase l "values" X.env (eval l X.env)=eval l X.env:=by rfl) (hline:(apos.endLine == cpos.line)=true:=by rfl):PI X tg (.Call (.Attribute l "values" apos) [] [] cpos) (yzi to):=by
 intro f s σ H R I h;refine wpAny_Call_method0_late hbase hline (thn (hl f s σ H _ I h) fun v c h'=>?_);obtain ⟨x,J,A,K,d,kvs,e,z,q⟩:=h';subst e;cases K;obtain ⟨_,u,t,r,k,D,ep,g,y,B,E⟩:=(show ww X.prog X.w J c.heap d (.dK kvs) from A.hok d _ z);have m:c.heap.DictAt (vx X.prog X.w) d t ep:=⟨k,D,g,y,B,E⟩;refine ⟨"dict","dict.values",F.plainAttrs_dict,F.slot_dict_values,F.type_dict_values,⟨k,g,y.1⟩,fun a G=>by cases G; exact ⟨k,g,y.2.1⟩,Calls.callWith_builtin rfl (PySem.evalArgs_none (call_meetsIn F.slot_dict_values m.dictOf.typeIs F.entry_dict_values (F.args_dict_values_1 _) (meets_dict_values (vx X.prog X.w) d u) ⟨⟨t,m.dictOf⟩,?_⟩))⟩;refine wpAny_pyIter_values (knd:=vx X.prog X.w) (d:=d) (kvs:=t) (ep:=ep) ⟨_,bU _ rfl,rfl,rfl⟩ (m.push _) ?_;have p:=A.freeze z trivial g;have i:(c.heap.push { cls:=.type "dict_values",data:=.fields #[.ref d] }).objs.size=c.heap.objs.size+1:=Heap.size_push ..;have n:d < c.heap.objs.size:=bQ g;refine ⟨_,[_],_,_,_,rfl,p.kept (t':=c.toks) fun b o e=>bK _ (bK _ e),ygp d _ (show d≠(c.heap.push _).objs.size by rw [i]; exact ci (Nat.lt_succ_of_lt n)) B,⟨_,bU _ rfl,rfl,by rw [r.length]; rfl⟩,fun b C=>?_,q k⟩;have e:b=(c.heap.push { cls:=.type "dict_values",data:=.fields #[.ref d] }).objs.size:=by simpa using C
 have j:c.heap.objs.size <= b:=by rw [e,i]; omega
 exact p.fpOk j (p.hok.fresh j)
theorem ypw {to:TE} {σ:St} {H:Hp} {R:It->Hp->Prop} (h:to σ H fun x H1=>∃ d kvs,x=.ref d/\H1 d=some (.dK kvs)/\∀ o,R (Itk o d kvs) (upd H1 d (.frz o (.dK kvs)))):yzu to σ H R:=h
theorem yp3 {to:TE} {σ:St} {H:Hp} {R:It->Hp->Prop} (h:to σ H fun x H1=>∃ d kvs,x=.ref d/\H1 d=some (.dK kvs)/\∀ o,R (Itv o d kvs) (upd H1 d (.frz o (.dK kvs)))):yzi to σ H R:=h
def ymc (t:TE):TE:=fun σ H Q=>t σ H fun v H'=>∃ d o u,(∀ o u,H d≠some (.frz o u))/\H' d=some (.frz o u)/\Q v (upd H' d u)
theorem yii {e:Expr} {t:TE} (h:PE X e t):PE X e (ymc t):=.mk fun a s σ H Q I q=>thn (h a s σ H _ I q) fun v g ⟨x,f,J,r,d,o,u,b,c,k⟩=>⟨x,_,J.thaw (fun o u e=>b o u (I.base.frzs d o u e)) c,r,k⟩
theorem yqo {t:TE} {σ:St} {H:Hp} {Q:VK} (h:t σ H fun v H'=>∃ d o u,(∀ o u,H d≠some (.frz o u))/\H' d=some (.frz o u)/\Q v (upd H' d u)):ymc t σ H Q:=h
def yu4:List V->Hp->VK->Prop:=fun xs H Q=>∃ d kvs,xs=[.ref d]/\H d=some (.dK kvs)/\∀ l,H l=none->Q (.ref l) (upd H l (.lst (kvs.map fun p=>kV p.1)))
theorem Â (hc:X.calm=true):u9 X (.type "list") yu4:=by
 intro f s σ H O R Q I r h;obtain ⟨d,kvs,rfl,t,q⟩:=h;obtain ⟨u,rfl,D⟩:=ψ r;cases D;obtain ⟨g,c,j,r,C,l,ep,z,K,M,o⟩:=(show ww X.prog X.w H s.heap d (.dK kvs) from I.hok d _ t);have m:s.heap.DictAt (vx X.prog X.w) d j ep:=⟨C,l,z,K,M,o⟩;refine W.kdl_call (W.kdl_dict (knd:=vx X.prog X.w) (kvs:=j) (ep:=ep) c) (I.ok.hd hc) m (by rw [<- r.length]; exact g) fun n N a A L e b=>?_
 have B:wx (kvs.map fun p=>kV p.1) a.toList:=ycm (by have S:=b.1; have T:=r.length; have P:a.toList.length=a.size:=cN; rw [bH]; omega) fun i v J=>by
  obtain ⟨k,x,G,F⟩:=b.2 i v (by rw [<- Array.getElem?_toList]; exact J);obtain ⟨y,E,_⟩:=r.get G;exact ⟨kV k,by rw [bN,E]; rfl,yzg F⟩
 exact ⟨.ref s.heap.objs.size,_,I.laid (t':=N) L (bL _) (show ww X.prog X.w _ n _ (.lst _) from ⟨by rw [bH]; exact g,a.toList,A,B,by rw [Array.toArray_toList]; exact e⟩),rfl,q _ (I.hok.fresh (bL _))⟩
end
theorem ykv {o:Obj} {d:Addr} {kvs:List (Key × V)} {g:TG} {tb:TS} {D:Á} {σ:St} {H:Hp} (Pv:Nat->St->Hp->Prop) (h0:Pv 0 σ H) (hl:∀ i σ H,i <= kvs.length->Pv i σ H->H d=some (.frz o (.dK kvs)))
  (hs:∀ i k v σ H,kvs[i]?=some (k,v)->Pv i σ H->g (kV k) σ H fun σ2 H2=>tb { D with nx:=Pv (i+1),ct:=Pv (i+1),bk:=D.nx } σ2 H2) (hd:∀ σ H,Pv kvs.length σ H->D.nx σ H) :
  ∃ W:Nat->Nat->St->Hp->Prop,(∃ m,W 0 m σ H)/\∀ i m σ H,W i m σ H ->
   ((Itk o d kvs).stop i H/\D.nx σ H)\/((Itk o d kvs).go i H/\∃ N:St->Hp->Prop,(∀ σ' H',N σ' H'->∃ m',m' < m/\W (i+1) m' σ' H')/\∀ x H',(Itk o d kvs).yld i H x H'->g x σ H' fun σ2 H2=>tb { D with nx:=N,ct:=N,bk:=D.nx } σ2 H2):=by
 refine ⟨fun i m σ H=>m=kvs.length - i/\i <= kvs.length/\Pv i σ H,⟨kvs.length,by simp,cb _,h0⟩,?_⟩;rintro i m σ H ⟨rfl,b,p⟩;have q:=hl i σ H b p;by_cases hlt:i < kvs.length
 .refine .inr ⟨⟨q,hlt⟩,Pv (i+1),fun σ' H' c=>⟨kvs.length - (i+1),by omega,rfl,hlt,c⟩,fun x H' y=>?_⟩;obtain ⟨rfl,k,v,a,rfl⟩:=y;exact hs i k v σ _ a p
 .have e:i=kvs.length:=by omega
  subst e;exact .inl ⟨⟨q,bL _⟩,hd σ H p⟩
theorem ĵ {o:Obj} {d:Addr} {kvs:List (Key × V)} {te:TE} {fr:St} {R:Hp->Prop} {H1:Hp} (Pv:Nat->Hp->Prop) (h0:Pv 0 (upd H1 D (.lst []))) (hl:∀ i H,i <= kvs.length->Pv i H->H d=some (.frz o (.dK kvs)))
  (hs:∀ i k v H,kvs[i]?=some (k,v)->i < kvs.length->Pv i H->te (some v :: fr) H fun y H4=>∃ ys,H4 D=some (.lst ys)/\ys.length < sizeLine/\∃ m',m' < kvs.length - i/\cW kvs.length Pv (i+1) m' (upd H4 D (.lst (ys++[y])))) (hd:∀ H,Pv kvs.length H->R H):x8 (Itv o d kvs) te fr D R H1:=by
 refine ⟨cW kvs.length Pv,⟨kvs.length,by simp,cb _,h0⟩,?_⟩;rintro i m H ⟨rfl,b,p⟩;have q:=hl i H b p;by_cases hlt:i < kvs.length
 .refine .inr ⟨⟨q,hlt⟩,fun x c y=>?_⟩;obtain ⟨rfl,k,a⟩:=y;exact hs i k x _ a hlt p
 .have e:i=kvs.length:=by omega
  subst e;exact .inl ⟨⟨q,bL _⟩,hd H p⟩
def isN:V->Bool
 | .non=>true
 | _=>false
def yz3:Value->Bool
 | .none=>true
 | _=>false
def vdt (K:W.Frag):R2:=fun x y H Q=>∃ p xs,x=.non/\y=.ref p/\SqL K H p xs/\(∀ z∈xs,z=.non\/∃ q ys,z=.ref q/\SqL K H q ys)/\Q (.bl (xs.any isN)) H
theorem yhz:∀ {xs:List V} {us:List Value},wx xs us->(∀ z∈xs,z=.non\/∃ q,z=.ref q)->us.any yz3=xs.any isN
 | _,_,.nil,_=>rfl
 | y :: xs,u :: us,.cons r t,f=>by
  rw [List.any_cons,List.any_cons,yhz t fun z a=>f z (cz _ a)]
  congr 1
  rcases f y cG with rfl | ⟨q,rfl⟩
  .cases r; rfl
  .cases r; rfl
theorem yup {X:Cx} (hu:X.A.units+64 < cLine):OpR X (compareOp .In) (vdt X.K):=by
 intro m s σ H x y v u Q I E C h;obtain ⟨p,c,rfl,rfl,F,d,q⟩:=h;cases E;cases C;obtain ⟨b,r,G,D⟩:=I.list F
 have i:∀ {c:List V} {j:List Value},wx c j->(∀ z∈c,z=.non\/∃ q n,z=.ref q/\SqL X.K H q n)->∀ w∈j,SeqAt.EqAt X.A.in1 s w .none (yz3 w):=by
  intro c j B
  induction B with
  | nil=>intro _ w a; cases a
  | cons r1 t ih =>
   intro f w a;rcases bW.mp a with rfl | a
   .rcases f _ cG with rfl | ⟨J,n,rfl,g⟩
    .cases r1; exact SeqAt.EqAt.same _
    .cases r1;obtain ⟨o,_,l,_⟩:=I.list g;exact SeqAt.EqAt.list_none l.isList (by show X.A.units+1 < cLine; omega)
   .exact ih (fun z d=>f z (cz _ d)) w a
 refine SeqAt.in_listAt yz3 G.isList (fun w a=>i r d w (by simpa using a)) ⟨.bl _,H,I,rfl,?_⟩;rw [show b.toArray.any yz3=b.any yz3 by simp,yhz r fun z k=>(d z k).imp id fun ⟨q,_,e,_⟩=>⟨q,e⟩];exact q
theorem yas {X:Cx}:u9 X (.builtin "len") (fun xs H Q=>∃ a kvs,xs=[V.ref a]/\H a=some (.dK kvs)/\Q (.int kvs.length) H):=by
 intro b s σ H xs f Q I r h;obtain ⟨a,kvs,rfl,e,q⟩:=h;obtain ⟨u,rfl,d⟩:=ψ r;cases d;exact vat I (.of e) fun t g c=>⟨.int kvs.length,H,c,⟨t,rfl⟩,q⟩
theorem yqp {σ:St} {H:Hp} {Q:VK} (h:∀ p,H p=none->Q (.ref p) (upd H p (.dK []))):yod σ H Q:=h
theorem yov {td ty:TE} {σ:St} {H:Hp} {Q:VK} (h:td σ H fun x H1=>∃ a,x=.ref a/\IsD H1 a/\ty σ H1 fun y H2=>∃ kvs k v,H2 a=some (.dK kvs)/\y=kV k/\zb kvs k=some v/\Q v (upd H2 a (.dK (χ kvs k)))):ynw td ty σ H Q:=h
theorem yhh (bs:List Bool):((List.range bs.length).any fun i=>(bs[i]?).getD false)=bs.any id:=by
 rw [Bool.eq_iff_iff,di,di]
 constructor
 .rintro ⟨i,a,h⟩;have a:=cQ.mp a;rw [bJ a] at h;exact ⟨_,cE a,h⟩
 .rintro ⟨b,c,h⟩;obtain ⟨i,a,rfl⟩:=List.getElem_of_mem c;exact ⟨i,cQ.mpr a,by rw [bJ a]; exact h⟩
theorem yed {X:Cx} (hc:X.calm=true):u9 X (.builtin "any") (fun xs H Q=>∃ p bs,xs=[.ref p]/\SqL X.K H p (List.map V.bl bs)/\Q (.bl (bs.any id)) H):=by
 intro g s σ H xs B Q I r h;obtain ⟨p,bs,rfl,n,q⟩:=h;obtain ⟨u,rfl,k⟩:=ψ r;cases k;obtain ⟨l,o,w,C⟩:=I.list n;obtain rfl:=ŭ o;have f:=w.isList;have d:p < s.heap.objs.size:=by obtain ⟨_,e,_⟩:=f; exact bQ e
 refine call_any_walk (wpAny_pyIter_list f ?_)
 refine ⟨s.heap.objs.size,[s.heap.objs.size,p],[s.heap.objs.size],(bs.map Value.bool).toArray.size,_,_,fun i=>(bs[i]?).getD false,rfl,Walks.list (A:=X.A.in1) (show X.A.handled=none from I.ok.hd hc) _ p (ci d) (bs.map Value.bool).toArray,
  ⟨⟨_,bU _ rfl,rfl,rfl⟩,f.push _⟩,fun i v D z E a c=>?_,fun y t m=>?_⟩
 .have a:(bs.map Value.bool)[i]?=some v:=by simpa using a
  rw [bN] at a
  cases e:bs[i]? with
  | none=>rw [e] at a; cases a
  | some b =>
   dsimp only at c;rw [e] at a c;cases a;exact cR c
 .have e:((List.range (bs.map Value.bool).toArray.size).any fun i=>(bs[i]?).getD false)=bs.any id:=by rw [bT,bH]; exact yhh bs
  rw [e];refine ⟨.bl (bs.any id),H,I.kept (t':=t) fun b x e=>m b x (fun j=>?_) (bK _ e),rfl,q⟩;rw [bZ.mp j] at e;exact de _ (bQ e)
section
variable {X:Cx}
def vbv:V->Option Int->Option Int->Hp->VK->Prop:=fun x lo hi H Q=>∃ z:Str,x=.str z/\z.length <= sizeLine/\Q (.str (Txt.slice z lo hi)) H
theorem ymo:SlR X vbv:=by
 intro d s σ H x v o n lo p m Q I g b f e h;obtain ⟨z,rfl,a,q⟩:=h;obtain ⟨t,rfl⟩:=g;refine ⟨"str",_,F.slot_str_getitem.lookup,typeIs_str _ _ _,?_⟩
 cases f with
 | none =>
  cases e with
  | none=>exact wpAny_getItem_str_slice (l:=none) (u:=none) (st:=none) b rfl (post_val_or_str ⟨cn (Txt.slice_le z _ _) a,fun c k=>⟨.str _,H,I.tok _,⟨_,rfl⟩,q⟩⟩)
  | int j uj=>exact wpAny_getItem_str_slice (l:=none) (u:=some (j,uj)) (st:=none) b rfl (post_val_or_str ⟨cn (Txt.slice_le z _ _) a,fun c k=>⟨.str _,H,I.tok _,⟨_,rfl⟩,q⟩⟩)
 | int i ui =>
  cases e with
  | none=>exact wpAny_getItem_str_slice (l:=some (i,ui)) (u:=none) (st:=none) b rfl (post_val_or_str ⟨cn (Txt.slice_le z _ _) a,fun c k=>⟨.str _,H,I.tok _,⟨_,rfl⟩,q⟩⟩)
  | int j uj=>exact wpAny_getItem_str_slice (l:=some (i,ui)) (u:=some (j,uj)) (st:=none) b rfl (post_val_or_str ⟨cn (Txt.slice_le z _ _) a,fun c k=>⟨.str _,H,I.tok _,⟨_,rfl⟩,q⟩⟩)
theorem ylh {x:Str} (h:j <= x.length):(Txt.slice x none (some (j:Int))).cps.toList=x.cps.toList.take j:=by
 have e:=slice_closes_toL (x:=x) (j:=(j:Int)) (by omega) (by omega);rw [beq_iff_eq.mp e];simp
theorem yfn {x:Str} (h:j <= x.length):(Txt.slice x (some (j:Int)) none).cps.toList=x.cps.toList.drop j:=by
 rw [slice_from_eq (b:=(x.length:Int)) (by omega) (by omega) rfl];have e:x.length=x.cps.toList.length:=by simp [Str.length]
 simp;rw [cL (by rw [c7,e]; omega)]
end
section
variable {X:Cx}
def ybm (p:Addr) (n:Nat) (h:Heap):Prop:=∃ o es ep t,h.get? p=some o/\o.ExactSet/\o.data=.set es ep t/\t.fits es.size=true/\es.size < scanBound/\es.size=n
theorem ybm.st {p:Addr} {n:Nat} {h1 h2:Heap} (s:ybm p n h1) (k:∀ o,h1.get? p=some o->h2.get? p=some o):ybm p n h2:=by
 obtain ⟨o,a,b,t,e,r⟩:=s;exact ⟨o,a,b,t,k _ e,r⟩
def vau (K:W.Frag):List V->Hp->VK->Prop:=fun xs H Q=>∃ p ns,xs=[.ref p]/\SqL K H p (List.map V.int ns)/\ns.length <= 1000/\∀ q,H q=none->Q (.ref q) (upd H q (.ext (ybm q (firstMet (fun i=>ns.getD i 0) ns.length).length)))
theorem ygw (hc:X.calm=true):u9 X (.type "set") (vau X.K):=by
 intro l s σ H N O Q I r h;obtain ⟨p,d,rfl,E,y,q⟩:=h;obtain ⟨u,rfl,A⟩:=ψ r;cases A;obtain ⟨c,n,M,_⟩:=I.list E;have B:IntsAre c.toArray.toList d:=yfi n
 have m:c.toArray.size=d.length:=by
  have e:=n.length;rw [bH] at e;rw [bT];exact e.symm
 refine call_set_list (I.ok.hd hc) M.isList B (by rw [m]; exact Nat.lt_of_le_of_lt (Nat.succ_le_succ y) (by decide)) fun j J g C=>?_;rw [m] at g;obtain ⟨o,v,z,t,e,D,G,_,_,x,F,L⟩:=g
 have f:ybm s.heap.objs.size (firstMet (fun i=>d.getD i 0) d.length).length j:=⟨o,v,z,t,e,D,G,F,x,L⟩
 exact ⟨.ref s.heap.objs.size,_,I.laid (t':=J) (fun b o e=>C b o (bQ e) e) (bL _) (show ww X.prog X.w _ j _ (.ext (ybm s.heap.objs.size _)) from ⟨f,⟨o,e⟩,fun _ _ a k=>a.st k⟩),rfl,q _ (I.hok.fresh (bL _))⟩
theorem yb8:u9 X (.builtin "len") (fun xs H Q=>∃ q n,xs=[.ref q]/\H q=some (.ext (ybm q n))/\Q (.int (n:Nat)) H):=by
 intro a s σ H xs m Q I r h;obtain ⟨p,n,rfl,e,q⟩:=h;obtain ⟨u,rfl,i⟩:=ψ r;cases i;obtain ⟨o,l,v,t,g,b,c,d,k,f⟩:=(show ww X.prog X.w H s.heap p (.ext (ybm p n)) from I.hok p _ e).1;have j:scanBound=4096:=rfl;refine call_len_set g b c d (by omega) ?_;rw [f];exact ⟨.int (n:Nat),H,I.tok _,⟨_,rfl⟩,q⟩
def vbj:R2:=fun x y H Q=>∃ (z:Str) (k:Int),x=.str z/\y=.int k/\1 <= k/\k <= 1000/\z.length <= 1000/\∀ z':Str,z'.cps.toList=(List.replicate k.toNat z.cps.toList).flatten->Q (.str z') H
theorem yhn (a:Array Nat):∀ (k:Nat) (b:Array Nat),((List.replicate k a).foldl (·++·) b).toList=b.toList++(List.replicate k a.toList).flatten
 | 0,b=>by simp
 | k+1,b=>by
  rw [cH,List.foldl_cons,yhn a k,Array.toList_append,cH,List.flatten_cons,cJ]
theorem yfe:OpR X (binaryOp .Mult) vbj:=by
 intro b s σ H x y v u Q I j i h;obtain ⟨z,k,rfl,rfl,m,o,g,q⟩:=h;obtain ⟨t,rfl⟩:=j;obtain ⟨l,rfl⟩:=i;have n:z.length * k.toNat <= 1000 * 1000:=Nat.mul_le_mul g (by omega);refine P.mul_str (by rw [bV (by omega),bV (by omega)]; rfl) (fun _ _=>?_) (fun _ _=>?_) ?_
 .have d:(z.length:Int) * k=((z.length * k.toNat:Nat):Int):=by rw [Int.natCast_mul,Int.toNat_of_nonneg (by omega)]
  have f:(z.length:Int) * k <= (2 ^ 63 - 1:Int):=by rw [d]; omega
  exact Int.not_lt.mpr (Int.le_ediv_of_mul_le (by omega) f)
 .have:=sizeLine_eq;unfold Builtin.Str.tooLong;exact bV (by omega)
 .rw [if_neg (by omega)];by_cases h1:(k == 1 || z.length == 0)=true
  .rw [if_pos h1];refine ⟨.str z,H,I,⟨_,rfl⟩,q z ?_⟩;rcases Bool.or_eq_true_iff.mp h1 with e | e
   .rw [beq_iff_eq.mp e]; simp
   .have c:z.cps.toList=[]:=cV (by have:=beq_iff_eq.mp e; simpa [Str.length] using this);rw [c]; simp
  .rw [if_neg h1];have a:=yhn z.cps k.toNat #[];refine ⟨?_,⟨.str _,H,I.tok _,⟨_,rfl⟩,q _ a⟩⟩
   have e:Str.length ⟨(List.replicate k.toNat z.cps).foldl (·++·) #[]⟩=k.toNat * z.cps.toList.length:=by
    show ((List.replicate k.toNat z.cps).foldl (·++·) #[]).size=_;rw [<- cN,a];simp [List.sum_replicate_nat]
   rw [e,sizeLine_eq,Nat.mul_comm];have:z.cps.toList.length=z.length:=by simp [Str.length]
   rw [this];omega
def ylm (p:Addr) (n:Nat) (h:Heap):Prop:=∃ t u v,IsRange h p 0 (n:Int) 1 t u v
def vds:List V->Hp->VK->Prop:=fun xs H Q=>∃ n:Nat,xs=[.int n]/\n <= 1000/\∀ q,H q=none->Q (.ref q) (upd H q (.ext (ylm q n)))
theorem yj0:u9 X (.type "range") vds:=by
 intro d s σ H i j Q I r h;obtain ⟨n,rfl,g,q⟩:=h;obtain ⟨u,rfl,f⟩:=ψ r;obtain ⟨t,rfl⟩:=f;refine call_range_1 ?_;have c:=IsRange.new s.heap 0 (n:Int) 1 s.toks t (s.toks+1);exact ⟨.ref s.heap.objs.size,_,I.laid (t':=s.toks+1+1) (fun b o e=>bK _ e) (bL _) (show ww X.prog X.w _ _ _ (.ext (ylm s.heap.objs.size n)) from ⟨⟨_,_,_,c⟩,⟨_,c⟩,fun _ _ ⟨t,u,v,a⟩ k=>⟨t,u,v,k _ a⟩⟩),rfl,q _ (I.hok.fresh (bL _))⟩
def yvg:List V->Hp->VK->Prop:=fun xs H Q=>∃ q n,xs=[.ref q]/\H q=some (.ext (ylm q n))/\n <= 1000/\∀ l,H l=none->Q (.ref l) (upd H l (.lst ((List.range n).map fun i=>V.int (i:Nat))))
theorem yfh (hc:X.calm=true):u9 X (.type "list") yvg:=by
 intro f s σ H C E Q I r h;obtain ⟨p,n,rfl,e,G,q⟩:=h;obtain ⟨u,rfl,o⟩:=ψ r;cases o;obtain ⟨t,u,v,A⟩:=(show ww X.prog X.w H s.heap p (.ext (ylm p n)) from I.hok p _ e).1;have c:Builtin.Range.rangeSize 0 (n:Int) 1=(n:Int):=by rw [rangeSize_one]; split <;> omega
 refine call_list_range (n:=n) (I.ok.hd hc) A (small_one (by omega) (by omega) (by omega) (by omega)) (by rw [c]) (by omega) fun j B b k y z a=>?_
 have l:wx ((List.range n).map fun i=>V.int (i:Nat)) b.toList:=ycm (by have m:=a.1; have D:b.toList.length=b.size:=cN; rw [bH,cm]; omega) fun i v g=>by
  obtain ⟨t,rfl⟩:=a.2 i v (by rw [<- Array.getElem?_toList]; exact g)
  have d:i < n:=by
   have m:=a.1;have x:=(cM.mp g).1;rw [cN] at x;omega
  exact ⟨.int (i:Nat),by rw [bN,cZ d]; rfl,⟨t,by rw [show (0+(i:Int) * 1)=(i:Int) by omega]⟩⟩
 have F:=sizeLine_eq;exact ⟨.ref s.heap.objs.size,_,I.laid (t':=B) y (bL _) (show ww X.prog X.w _ j _ (.lst _) from ⟨by rw [bH,cm]; omega,b.toList,k,l,by rw [Array.toArray_toList]; exact z⟩),rfl,q _ (I.hok.fresh (bL _))⟩
end
section
variable {prog:Program} {w:World}
def vao (k:Int × List Int):Int:=reduceHash (Builtin.Tuple.tupleHashOf [hashInt k.1,reduceHash (Builtin.Tuple.tupleHashOf (k.2.map hashInt))])
variable {A:Around} {E:Value->Shared->Prop} {s:Shared}
end
abbrev NX:=(Int × List Int) × Addr × Addr
def vdr (x:NX):DictEntry:=⟨vao x.1,.ref x.2.1,.ref x.2.2⟩
def ND (a:Addr) (xs:List NX):HO:=.ext fun h=>(a == sysModules)=false/\∃ o es ep,h.get? a=some o/\o.ExactDict/\o.data=.dict es ep/\es.toList=xs.map vdr
def NKy (H:Hp) (p:Addr) (k:Int × List Int):Prop:=∃ b,H p=some (.tup [.int k.1,.ref b])/\H b=some (.tup (k.2.map V.int))
structure NDt (H:Hp) (a:Addr) (xs:List NX):Prop where
 o:H a=some (ND a xs)
 k:∀ x∈xs,NKy H x.2.1 x.1
 n:(xs.map (·.1)).Nodup
 l:xs.length < sizeLine
def yqw:V->List V->Hp->VK->Prop:=fun x vs H Q=>∃ l xs y,∃ i:Nat,x=.ref l/\vs=[.int i,y]/\H l=some (.lst xs)/\i <= xs.length/\xs.length < 1000000/\Q .non (upd H l (.lst (xs.take i++y :: xs.drop i)))
theorem yg0 {X:Cx}:MtM X "list.insert" yqw:=by
 intro d s σ H x u v B Q I p k h;obtain ⟨l,w,y,i,rfl,rfl,g,C,A,q⟩:=h;cases p
 cases k with
 | cons r1 rr =>
  cases rr with
  | cons r2 rn =>
   cases rn;obtain ⟨t,rfl⟩:=r1
   rename_i u2
   obtain ⟨z,a,n,r,o,e⟩:=I.lstM g;have j:(-(2 ^ 63):Int) <= (i:Int):=Int.le_trans (by decide) (Int.natCast_nonneg i);have f:(i:Int) < 2 ^ 63:=Int.lt_of_lt_of_le (show (i:Int) < 1000001 by omega) (by decide)
   have c:(if (i:Int) < 0 then ((i:Int)+(a.toArray.size:Int)).toNat else min (i:Int).toNat a.toArray.size)=i:=by
    rw [if_neg (by omega),bT,<- o];omega
   generalize (i:Int)=x at j f c ⊢;have m:=fitsIndex_both j f;have b:a.toArray.size <= sizeLine:=by rw [bT]; omega
   refine call_meets PySem.F.slot_list_insert ⟨_,e,rfl⟩ PySem.F.entry_list_insert (PySem.F.args_list_insert_3 _ _ _) (PySem.AutoSeq1.list_insert_list_int_val_1 l a.toArray n x t u2 (by rw [m]; exact fun z=>nomatch z) b) ⟨e,?_⟩
   refine ⟨.non,_,I.lset (its':=a.take i++u2 :: a.drop i) g e ?_ ((r.take i).append (.cons r2 (r.drop i))) ?_,rfl,q⟩
   .show (a.toArray.extract 0 (if x < 0 then (x+(a.toArray.size:Int)).toNat else min x.toNat a.toArray.size)).push u2++a.toArray.extract (if x < 0 then (x+(a.toArray.size:Int)).toNat else min x.toNat a.toArray.size)=_;rw [c];apply Array.ext';rw [Array.toList_append,Array.toList_push,Array.toList_extract,Array.toList_extract];show (List.take (i - 0) (List.drop 0 a))++[u2]++List.take (a.toArray.size - i) (List.drop i a)=_;rw [Nat.sub_zero,List.drop_zero,bT,cL (l:=List.drop i a) (by rw [c7]; exact bL _),cJ];rfl
   .rw [bP,cg,cy,c7,sizeLine_eq];omega
section
variable {X:Cx}
def yxi:List V->Hp->VK->Prop:=fun xs H Q=>∃ d kvs,xs=[.ref d]/\H d=some (.dK kvs)/\∀ q,H q=none->Q (.ref q) (upd H q (.dK kvs))
theorem yfm:u9 X (.type "dict") yxi:=by
 intro g s σ H t v Q I r h;obtain ⟨d,a,rfl,l,q⟩:=h;obtain ⟨u,rfl,p⟩:=ψ r;cases p;obtain ⟨i,c,j,r,m⟩:=(show ww X.prog X.w H s.heap d (.dK a) from I.hok d _ l);refine kt_call_dict c m (by rw [<- r.length]; exact i) fun k f n=>?_;exact ⟨.ref s.heap.objs.size,_,I.laid (t':=s.toks) (fun b o e=>(n.2 b (ci (bQ e))).trans (bK _ e)) (bL _) (show ww X.prog X.w _ k _ (.dK a) from ⟨i,df.mpr (Nat.ne_of_gt I.big),j,r,f⟩),rfl,q _ (I.hok.fresh (bL _))⟩
end
def oIs:Option Key->Value->Bool
 | none,.none=>true
 | none,_=>false
 | some k,v=>Ù k v
theorem x6 {v:Value} (h:oIs none v=true):v=.none:=by
 cases v <;> first | rfl | (exact absurd h bS)
section
variable {prog:Program} {w:World} {A:Around} {E:Value->Shared->Prop} {s:Shared}
theorem yby {Q:Int->Shared->Prop} (h:Q 0xFCA86420 { s with toks:=s.toks+1 }):wpAny (model prog w) A (pyHash .none) Q E s:=by
 have a:s.TypeIs .none "NoneType":=rfl;unfold pyHash;have b:[Value.none].any Value.onHeap=false:=rfl;refine bI ?_;rw [cRoomFor,if_neg (by rw [b]; exact bS)];refine bO ?_;refine bI (wpAny_specialOf a PySem.F.slot_NoneType_hash.lookup ?_);show wpAny _ _ (if (some (Value.builtin "NoneType.__hash__") == some Value.none)=true then _ else _) Q E s;rw [if_neg (by rw [beq_builtin_none]; exact bS)];refine bI (wpAny_specialOf a PySem.F.slot_NoneType_hash.lookup ?_);show wpAny _ _ (callSpecialIfBoundUnlessNone? .none "__hash__" _ >>= _) Q E s;refine bI (wpAny_callSpecialIfBoundUnlessNone?_slot a PySem.F.slot_NoneType_hash
  (wpAny_call_entry PySem.F.slot_NoneType_hash a PySem.F.entry_NoneType_hash
   (show wpAny _ _ (do ret (<- mkInt 0xFCA86420)) _ _ s from wpAny_ret_mkInt ?_) (PySem.F.args_NoneType_hash_1 _)))
 show wpAny _ _ (if (decide (-(2:Int) ^ 63 <= 0xFCA86420) && decide ((0xFCA86420:Int) < 2 ^ 63))=true then _ else _) Q E _;rw [if_pos (by decide)];exact bO h
theorem yj3 {Q:Bool->Shared->Prop} (h:Q true s):wpAny (model prog w) A (eqBool .none .none) Q E s:=by
 unfold eqBool;refine wpAny_holding ?_;exact wpAny_ite_split (fun _=>bI (wpAny_rule (bO h))) (fun a=>absurd rfl a)
end
def ycu (prog:Program) (w:World):PySem.KeyKind prog w (Option Key) where
 is:=oIs
 hash:=fun k=>match k with | none=>0xFCA86420 | some k=>vck w k
 inj:=fun v a b ha hb=>by
  cases a with
  | none =>
   cases b with
   | none=>rfl
   | some k=>rw [x6 ha] at hb; rcases vv (show Ù k .none=true from hb) with ⟨i,t,_,e⟩ | ⟨x,t,_,e⟩ <;> cases e
  | some k =>
   cases b with
   | none=>rw [x6 hb] at ha; rcases vv (show Ù k .none=true from ha) with ⟨i,t,_,e⟩ | ⟨x,t,_,e⟩ <;> cases e
   | some l=>rw [(vx prog w).inj v k l ha hb]
 byValue:=fun k v h=>by
  cases k with
  | none=>rw [x6 h]; rfl
  | some k=>exact (vx prog w).byValue k v h
 pyHash:=fun {A E s k v Q} hv h=>by
  cases k with
  | none=>obtain rfl:=x6 hv; exact yby h
  | some k=>exact (vx prog w).pyHash (k:=k) hv h
 eqBool:=fun {A E s a b u v Q} hu hv h=>by
  cases a with
  | none =>
   obtain rfl:=x6 hu
   cases b with
   | none=>obtain rfl:=x6 hv; exact yj3 (by simpa using h)
   | some k =>
    rcases vv (show Ù k v=true from hv) with ⟨i,t,rfl,rfl⟩ | ⟨x,t,rfl,rfl⟩
    .exact SeqAt.EqAt.none_int i t _ _ _ _ (by simpa using h)
    .exact SeqAt.EqAt.none_str x t _ _ _ _ (by simpa using h)
  | some k =>
   cases b with
   | none =>
    obtain rfl:=x6 hv;rcases vv (show Ù k u=true from hu) with ⟨i,t,rfl,rfl⟩ | ⟨x,t,rfl,rfl⟩
    .exact SeqAt.EqAt.int_none i t _ _ _ _ (by simpa using h)
    .exact SeqAt.EqAt.str_none x t _ _ _ _ (by simpa using h)
   | some l=>exact (vx prog w).eqBool (a:=k) (b:=l) hu hv (by simpa using h)
 «strs»:=fun k x t v h=>by
  cases k with
  | none=>exact absurd (x6 h) (fun z=>nomatch z)
  | some k=>exact (vx prog w).strs k x t v h
theorem yoo {prog:Program} {w:World} {h:Heap} {d:Addr} {f:Key->Option Value} (m:h.MapOf (vx prog w) d f):∃ g,h.MapOf (ycu prog w) d g/\g none=none:=by
 obtain ⟨o,b,s,p,q,r,j,u⟩:=m;refine ⟨fun k=>findBy (ycu prog w).is b k,⟨o,b,s,p,q,r,fun e c=>?_,fun _=>rfl⟩,?_⟩
 .obtain ⟨k,a,l⟩:=j e c;exact ⟨some k,a,l⟩
 .show (b.find? fun e=>oIs none e.key).map (·.val)=none;rw [Array.find?_eq_none.mpr fun e c n=>?_]
  .rfl
  .obtain ⟨k,a,_⟩:=j e c;rw [x6 n] at a;rcases vv (show Ù k .none=true from a) with ⟨i,t,_,e⟩ | ⟨x,t,_,e⟩ <;> cases e
def yeh (ty td:TE):TE:=fun σ H Q=>ty σ H fun y H1=>td σ H1 fun x H2=>∃ a o,x=.ref a/\((y=.non/\o=none/\∃ kvs,H2 a=some (.dK kvs))\/Ø H2 a y o)/\Q (.bl (!o.isSome)) H2
theorem ygs {ty td:TE} {σ:St} {H:Hp} {Q:VK} (h:ty σ H fun y H1=>td σ H1 fun x H2=>∃ a o,x=.ref a/\((y=.non/\o=none/\∃ kvs,H2 a=some (.dK kvs))\/Ø H2 a y o)/\Q (.bl (!o.isSome)) H2):yeh ty td σ H Q:=h
theorem yfj {X:Cx} {i o:Expr} {ty td:TE} (hu:X.A.units+1 < cLine) (hi:PE X i ty) (ho:PE X o td):PC X .NotIn i o (yeh ty td):=by
 intro b s σ H Q I h;refine thn (hi b s σ H _ I h) fun B J ⟨y,C,E,l,r⟩=>thn (ho b J σ C _ E r) fun u n h'=>?_;obtain ⟨x,j,d,z,a,D,F,g,m⟩:=h';subst F;obtain rfl:u=Value.ref a:=z;rcases g with ⟨rfl,rfl,c,t⟩ | g
 .obtain rfl:B=Value.none:=l;obtain ⟨_,e,K,_,v⟩:=(show ww X.prog X.w j n.heap a (.dK c) from d.hok a _ t);obtain ⟨f,q,p⟩:=yoo v.mapOf;refine wpAny_notIn_of (knd:=ycu X.prog X.w) (k:=none) (f:=f) rfl e q ?_;rw [p];exact ⟨.bl true,j,d.tok _,rfl,m⟩
 .exact yhu hu d g l fun L G=>⟨.bl (!D.isSome),j,G,rfl,m⟩
theorem ygl {x:Str} {tc:TT} {te:TE} {fr:St} {R:Hp->Prop} {H1:Hp} (Pv:Nat->Hp->Prop) (h0:Pv 0 (upd H1 D (.lst [])))
  (hs:∀ i c H,x.cps[i]?=some c->i < x.cps.size->Pv i H->tc (some (.str ⟨#[c]⟩) :: fr) H fun b H4=>if b=true then te (some (.str ⟨#[c]⟩) :: fr) H4 (fun y H5=>∃ ys,H5 D=some (.lst ys)/\ys.length < sizeLine/\∃ m',m' < x.cps.size - i/\cW x.cps.size Pv (i+1) m' (upd H5 D (.lst (ys++[y])))) else ∃ m',m' < x.cps.size - i/\cW x.cps.size Pv (i+1) m' H4)
  (hd:∀ H,Pv x.cps.size H->R H):Č (Its x) tc te fr D R H1:=by
 refine ⟨cW x.cps.size Pv,⟨x.cps.size,by simp,cb _,h0⟩,?_⟩;rintro i m H ⟨rfl,d,p⟩;by_cases hlt:i < x.cps.size
 .refine .inr ⟨hlt,fun v f y=>?_⟩;obtain ⟨rfl,c,a,rfl⟩:=y;exact hs i c _ a hlt p
 .have e:i=x.cps.size:=by omega
  subst e;exact .inl ⟨rfl,hd H p⟩
theorem yk7 (b:Str) (ns:List Str):inV (.str b) (ns.map V.str)=decide (b∈ns):=by
 unfold inV;rw [Bool.eq_iff_iff,di,decide_eq_true_iff]
 constructor
 .rintro ⟨v,c,e⟩;obtain ⟨x,d,rfl⟩:=bM.mp c;have a:x=b:=by simpa [eqV] using e
  rw [<- a];exact d
 .intro h;exact ⟨_,bM.mpr ⟨b,h,rfl⟩,by simp [eqV]⟩
theorem yg7 (ns:List Str):(ns.map V.str).all Ż=true:=by
 rw [List.all_eq_true];intro v a;obtain ⟨x,_,rfl⟩:=bM.mp a;rfl
end L2
namespace MixI
def giv (c b:Int):Int:=if b=1 then c else 16777216 - c
def yln (x:Int):Nat:=if x == 0 then 0 else x.natAbs.log2+1
def shL (ws cs:List Int) (b:Int):List Int:=List.zipWith (fun w c=>w * giv c b) ws cs
def grL (sh:List Int):List Int:=sh.map fun s=>31 * (sh.length:Int) * s+sh.sum
def tOf (s:Int):Nat:=yln s - 48
def lrn (ws cs:List Int) (b:Int):List Int:=(grL (shL ws cs b)).map fun v=>v / 2 ^ tOf (grL (shL ws cs b)).sum
def vcq (ws cs:List Int):Int:=(List.zipWith (fun w c=>w * c) ws cs).sum
def yol (ws cs:List Int):Int:=vcq ws cs / ws.sum
structure WOk (k:Nat) (ws:List Int):Prop where
 len:ws.length=k
 one:∀ w∈ws,1 <= w
 top:∀ w∈ws,w < 281474976710656
structure COk (k:Nat) (cs:List Int):Prop where
 len:cs.length=k
 lo:∀ c∈cs,32768 <= c
 hi:∀ c∈cs,c <= 16744448
theorem yx0 {c b:Int} (h1:32768 <= c) (h2:c <= 16744448):32768 <= giv c b:=by unfold giv; split <;> omega
theorem ycl {ws cs:List Int} {b:Int} (h:ws.length=cs.length):(shL ws cs b).length=ws.length:=by
 unfold shL; rw [List.length_zipWith,<- h]; omega
theorem yhl {sh:List Int}:(grL sh).length=sh.length:=by unfold grL; rw [bH]
theorem yqy {k:Nat} {ws cs:List Int} {b:Int} (hw:WOk k ws) (hc:COk k cs):(lrn ws cs b).length=k:=by
 unfold lrn; rw [bH,yhl,ycl (by rw [hw.len,hc.len]),hw.len]
theorem ŀ (m d:Int):∀ sh:List Int,(sh.map fun s=>m * s+d).sum=m * sh.sum+sh.length * d
 | []=>by simp
 | s :: r=>by
  simp only [cA,List.sum_cons,ŀ m d r,cy,Int.natCast_add,Int.natCast_one,Int.mul_add,Int.add_mul];omega
theorem yqc (sh:List Int):(grL sh).sum=32 * (sh.length:Int) * sh.sum:=by
 unfold grL;rw [ŀ,Int.mul_assoc,Int.mul_assoc];generalize (sh.length:Int) * sh.sum=x;omega
theorem yje:∀ {l:List Int},(∀ x∈l,0 <= x)->0 <= l.sum
 | [],_=>by simp
 | a :: r,h=>by
  have d:=h a (by simp);have c:=yje (l:=r) fun x b=>h x (by simp [b]);rw [List.sum_cons]; omega
theorem yog:∀ {l:List Int} {y:Int},(∀ x∈l,0 <= x)->y∈l->y <= l.sum
 | a :: r,y,h,hy=>by
  have d:=h a (by simp);have b:∀ x∈r,0 <= x:=fun x c=>h x (by simp [c]);have f:=yje b;rw [List.sum_cons];rcases bW.mp hy with e | hy
  .omega
  .have:=yog b hy; omega
theorem yiw {c:Int}:∀ {l:List Int},(∀ x∈l,c <= x)->c * l.length <= l.sum
 | [],_=>by simp
 | a :: r,h=>by
  have e:=h a (by simp);have d:=yiw (l:=r) fun x b=>h x (by simp [b]);rw [List.sum_cons,cy,Int.natCast_add,Int.natCast_one,Int.mul_add]; omega
theorem yni {c:Int}:∀ {l:List Int},(∀ x∈l,x <= c)->l.sum <= c * l.length
 | [],_=>by simp
 | a :: r,h=>by
  have e:=h a (by simp);have d:=yni (l:=r) fun x b=>h x (by simp [b]);rw [List.sum_cons,cy,Int.natCast_add,Int.natCast_one,Int.mul_add]; omega
theorem yl4 {f:Int->Int} {m:Int}:∀ {ws cs:List Int},ws.length=cs.length->(∀ w∈ws,0 <= w)->(∀ c∈cs,m <= f c)->m * ws.sum <= (List.zipWith (fun w c=>w * f c) ws cs).sum
 | [],[],_,_,_=>by simp
 | w :: r,c :: t,h,h1,h2=>by
  have i:=yl4 (f:=f) (m:=m) (ws:=r) (cs:=t) (by simpa using h) (fun x b=>h1 x (by simp [b])) fun x b=>h2 x (by simp [b]);have a:=cU (h2 c (by simp)) (h1 w (by simp));rw [List.zipWith_cons_cons,List.sum_cons,List.sum_cons,Int.mul_add,Int.mul_comm m w]; omega
theorem yof {f:Int->Int} {m:Int}:∀ {ws cs:List Int},ws.length=cs.length->(∀ w∈ws,0 <= w)->(∀ c∈cs,f c <= m)->(List.zipWith (fun w c=>w * f c) ws cs).sum <= m * ws.sum
 | [],[],_,_,_=>by simp
 | w :: r,c :: t,h,h1,h2=>by
  have i:=yof (f:=f) (m:=m) (ws:=r) (cs:=t) (by simpa using h) (fun x b=>h1 x (by simp [b])) fun x b=>h2 x (by simp [b]);have a:=cU (h2 c (by simp)) (h1 w (by simp));rw [List.zipWith_cons_cons,List.sum_cons,List.sum_cons,Int.mul_add,Int.mul_comm m w]; omega
theorem WOk.pos {k:Nat} {ws:List Int} (h:WOk k ws) (hk:1 <= k):1 <= ws.sum:=by
 have:=yiw (c:=1) h.one;rw [h.len] at this; omega
theorem WOk.small {k:Nat} {ws:List Int} (h:WOk k ws) (hk:k <= 6):ws.sum <= 1688849860263936:=by
 have:=yni (c:=281474976710656) fun x a=>Int.le_of_lt (h.top x a);rw [h.len] at this; omega
theorem yir {k:Nat} {ws cs:List Int} (hk:1 <= k) (hw:WOk k ws) (hc:COk k cs):32768 <= yol ws cs/\yol ws cs <= 16744448:=by
 have e:ws.length=cs.length:=by rw [hw.len,hc.len]
 have d:∀ w∈ws,0 <= w:=fun w h=>by have:=hw.one w h; omega
 have p:=hw.pos hk;have a:=yl4 (f:=fun c=>c) e d hc.lo;have b:=yof (f:=fun c=>c) e d hc.hi;unfold yol vcq;exact ⟨(Int.le_ediv_iff_mul_le (by omega)).mpr a,Int.le_of_lt_add_one ((Int.ediv_lt_iff_lt_mul (by omega)).mpr (by rw [Int.add_mul]; omega))⟩
theorem yef (t:Nat):(2:Int) ^ t=((2 ^ t:Nat):Int):=by rw [Int.natCast_pow]; rfl
theorem yph (t:Nat):(0:Int) < 2 ^ t:=by rw [yef]; exact Int.natCast_pos.mpr (Nat.pow_pos (by decide))
theorem yv2 {s:Int} (h:1 <= s):s < 281474976710656 * 2 ^ tOf s/\(tOf s=0\/140737488355328 * 2 ^ tOf s <= s):=by
 have f:s.natAbs≠0:=by omega
 have e:(s.natAbs:Int)=s:=by omega
 have a:=Nat.log2_self_le f;have b:=@Nat.lt_log2_self s.natAbs;unfold tOf yln;rw [if_neg (by simp; omega)];generalize s.natAbs.log2=L at a b ⊢;rcases Nat.lt_or_ge L 48 with q | q
 .have z:L+1 - 48=0:=by omega
  rw [z];refine ⟨?_,.inl rfl⟩;have:2 ^ (L+1) <= 2 ^ 48:=Nat.pow_le_pow_right (by decide) (by omega);have c:(2:Nat) ^ 48=281474976710656:=by decide
  rw [c] at this;rw [<- e,Int.pow_zero,Int.mul_one];omega
 .obtain ⟨t,rfl⟩:∃ t,L=47+t:=⟨L - 47,by omega⟩;have z:47+t+1 - 48=t:=by omega
  rw [z,yef];have d:(2:Nat) ^ (47+t)=140737488355328 * 2 ^ t:=by rw [Nat.pow_add]
  have c:(2:Nat) ^ (47+t+1)=281474976710656 * 2 ^ t:=by rw [show 47+t+1=48+t by omega,Nat.pow_add]
  rw [d] at a;rw [c] at b;generalize 2 ^ t=T at a b ⊢;exact ⟨by omega,.inr (by omega)⟩
section
variable {k:Nat} {ws cs:List Int} {b:Int}
theorem yoz (hw:WOk k ws) (hc:COk k cs):∀ s∈shL ws cs b,1 <= s:=by
 intro s a;unfold shL at a;rw [List.mem_iff_getElem] at a;obtain ⟨i,c,rfl⟩:=a;rw [List.length_zipWith] at c;rw [List.getElem_zipWith];have e:=hw.one ws[i] (cE _);have d:=yx0 (b:=b) (hc.lo cs[i] (cE _)) (hc.hi cs[i] (cE _));have:=Int.mul_le_mul e d (by decide) (by omega);omega
theorem ywe {sh:List Int} (h:∀ s∈sh,1 <= s):∀ v∈grL sh,sh.sum <= v/\v <= (grL sh).sum/\0 <= v:=by
 have e:=yje (l:=sh) fun x d=>by have:=h x d; omega
 have a:∀ v∈grL sh,sh.sum <= v:=fun v a=>by
  unfold grL at a;obtain ⟨s,b,rfl⟩:=bM.mp a;have:=h s b;have:0 <= 31 * (sh.length:Int) * s:=Int.mul_nonneg (Int.mul_nonneg (by decide) (Int.natCast_nonneg _)) (by omega);omega
 exact fun v c=>⟨a v c,yog (fun x d=>by have:=a x d; omega) c,by have:=a v c; omega⟩
theorem yl2 (hk:1 <= k) (hk6:k <= 6) (hw:WOk k ws) (hc:COk k cs):WOk k (lrn ws cs b):=by
 have i:(shL ws cs b).length=k:=by rw [ycl (by rw [hw.len,hc.len]),hw.len]
 have j:=yoz (b:=b) hw hc
 have m:1 <= (shL ws cs b).sum:=by
  have:=yiw (c:=1) j;rw [i] at this; omega
 have f:=ywe j;have d:=yqc (shL ws cs b);rw [i] at d
 have n:1 <= (grL (shL ws cs b)).sum:=by
  rw [d];have:32 * (k:Int) * 1 <= 32 * (k:Int) * (shL ws cs b).sum:=cU m (by omega);omega
 have l:(grL (shL ws cs b)).sum <= 192 * (shL ws cs b).sum:=by
  rw [d]; exact cK (by omega) (by omega)
 obtain ⟨r,a⟩:=yv2 n;have g:=yph (tOf (grL (shL ws cs b)).sum);refine ⟨yqy hw hc,fun w h=>?_,fun w h=>?_⟩
 .obtain ⟨v,e,rfl⟩:=bM.mp h;obtain ⟨q,o,p⟩:=f v e;refine (Int.le_ediv_iff_mul_le g).mpr ?_;rcases a with a | a
  .rw [a,Int.pow_zero]; omega
  .generalize (2:Int) ^ tOf (grL (shL ws cs b)).sum=T at *;omega
 .obtain ⟨v,e,rfl⟩:=bM.mp h;obtain ⟨q,o,p⟩:=f v e;exact (Int.ediv_lt_iff_lt_mul g).mpr (by omega)
theorem yg1 {g:Int->Int->Int} {ws cs:List Int} (h:cs.length=ws.length):(List.range ws.length).map (fun i=>g ((ws[i]?).getD 0) ((cs[i]?).getD 0))=List.zipWith g ws cs:=by
 apply List.ext_getElem
 .rw [bH,cm,List.length_zipWith]; omega
 .intro i a b;rw [bH,cm] at a;rw [dg,List.getElem_range,List.getElem_zipWith,bJ a,bJ (by omega)];rfl
end
end MixI
namespace SpanMath
def rn (d:List Int):Nat->Int
 | 0=>0
 | k+1=>rn d k * 256+(d[k]?).getD 0
def Byt (d:List Int):Prop:=∀ x∈d,0 <= x/\x <= 255
theorem yuf {d:List Int} (h:Byt d) (k:Nat):0 <= (d[k]?).getD 0/\(d[k]?).getD 0 <= 255:=by
 cases e:d[k]? with
 | none=>exact ⟨by decide,by decide⟩
 | some x=>exact h x (cc e)
theorem yji {d:List Int} (h:Byt d) (k:Nat):∀ r,∃ q,rn d (k+r)=rn d k * pw r+q/\0 <= q/\q < pw r
 | 0=>⟨0,by show rn d k=rn d k * 1+0; omega,by decide,by decide⟩
 | r+1=>by
  obtain ⟨q,e,b,c⟩:=yji h k r;obtain ⟨f,a⟩:=yuf h (k+r);refine ⟨q * 256+(d[k+r]?).getD 0,?_,by omega,?_⟩
  .show rn d (k+r) * 256+(d[k+r]?).getD 0=rn d k * (pw r * 256)+_;rw [e,<- Int.mul_assoc,Int.add_mul,Int.add_assoc]
  .show _ < pw r * 256;omega
theorem yk0 {d:List Int} (h:Byt d) (k r:Nat) (l w':Int):(l * pw r <= rn d (k+r)/\rn d (k+r) < l * pw r+w' * pw r) ↔ (l <= rn d k/\rn d k < l+w'):=by
 obtain ⟨q,e,i,g⟩:=yji h k r;have c:=uh r;rw [e,<- Int.add_mul];generalize rn d k=v;generalize pw r=p at c i g ⊢
 constructor
 .rintro ⟨a,b⟩
  constructor
  .refine Int.le_of_lt_add_one (Int.lt_of_mul_lt_mul_right (a:=p) ?_ (Int.le_of_lt c));rw [Int.add_mul,Int.one_mul];omega
  .refine Int.lt_of_mul_lt_mul_right (a:=p) ?_ (Int.le_of_lt c);omega
 .rintro ⟨a,b⟩;have j:=cK a (Int.le_of_lt c);have f:=cK (show v+1 <= l+w' by omega) (Int.le_of_lt c);rw [Int.add_mul v 1 p,Int.one_mul] at f;omega
structure InS (d:List Int) (x:Sn):Prop where
 lo:x.1 <= rn d (sz x)
 hi:rn d (sz x) < x.1+x.2.1
theorem yzl (l w' s':Int):∃ r:Nat,ren l w' s'=(l * pw r,w' * pw r,s'+r):=by
 unfold ren
 split
 .split
  .exact ⟨2,rfl⟩
  .exact ⟨1,rfl⟩
 .refine ⟨0,?_⟩;show (l,w',s')=(l * 1,w' * 1,s'+0);rw [Int.mul_one,Int.mul_one,Int.add_zero]
theorem yn0 {d:List Int} (h:Byt d) {l w' s':Int} (hs:0 <= s'):InS d (ren l w' s') ↔ (l <= rn d s'.toNat/\rn d s'.toNat < l+w'):=by
 obtain ⟨r,e⟩:=yzl l w' s';rw [e]
 have c:sz (l * pw r,w' * pw r,s'+r)=s'.toNat+r:=by
  show (s'+(r:Int)).toNat=s'.toNat+r;omega
 rw [<- yk0 h s'.toNat r l w']
 constructor
 .rintro ⟨a,b⟩;rw [c] at a b;exact ⟨a,b⟩
 .rintro ⟨a,b⟩;exact ⟨by rw [c]; exact a,by rw [c]; exact b⟩
def Ü (d:List Int) (x:Sn) (c:Int):Int:=if rn d (sz x) < x.1+cut x.2.1 c then 1 else 0
theorem ũ (d:List Int) (x:Sn) (c:Int):Ü d x c=0\/Ü d x c=1:=by
 unfold Ü
 split
 .exact .inr rfl
 .exact .inl rfl
theorem ype {d:List Int} (hd:Byt d) {x:Sn} {c b:Int} (h:OkS x) (hc:Ch c) (hb:b=0\/b=1) (i:InS d (nar x c b)):InS d x/\b=Ü d x c:=by
 have k:=h.ok.z;obtain ⟨j,g,f⟩:=ybl h.ok.w0 h.ok.w1 hc;unfold nar at i;rcases hb with rfl | rfl
 .rw [if_neg (by decide)] at i;obtain ⟨e,a⟩:=(yn0 hd (by omega)).mp i;have e:x.1+cut x.2.1 c <= rn d (sz x):=e;have a:rn d (sz x) < x.1+cut x.2.1 c+(x.2.1 - cut x.2.1 c):=a;refine ⟨⟨by omega,by omega⟩,?_⟩;unfold Ü;rw [if_neg (by omega)]
 .rw [if_pos rfl] at i;obtain ⟨e,a⟩:=(yn0 hd (by omega)).mp i;have e:x.1 <= rn d (sz x):=e;have a:rn d (sz x) < x.1+cut x.2.1 c:=a;refine ⟨⟨by omega,by omega⟩,?_⟩;unfold Ü;rw [if_pos a]
theorem ymi:∀ (k:Nat) (d:List Int),k <= d.length->rn d k=val (d.take k)
 | 0,_,_=>rfl
 | k+1,d,h=>by
  have a:k < d.length:=by omega
  have e:d.take (k+1)=d.take k++[d[k]]:=by rw [List.take_succ,bJ a]; rfl
  rw [e,ydd,<- ymi k d (by omega)];show rn d k * 256+_=_;rw [bJ a];rfl
theorem yhv {d:List Int} (hd:Byt d) {x:Sn} (h:OkS x) (hl:(tL x).length <= d.length) (hp:d.take (tL x).length=tL x):InS d x:=by
 have i:=yrs h
 have e:rn d (sz x - tK x)=tCn x:=by
  rw [<- yi2 x,ymi _ _ hl,hp,ywr h]
 obtain ⟨q,b,g,j⟩:=yji hd (sz x - tK x) (tK x);have f:sz x - tK x+tK x=sz x:=by omega
 rw [f,e] at b;have a:=Ŷ h.ok;have c:=(yoe x.1 (uh (tK x))).1;unfold yf7 at a;have a:(tCn x+1) * pw (tK x) <= x.1+x.2.1:=a;have c:x.1 <= tCn x * pw (tK x):=c;rw [Int.add_mul,Int.one_mul] at a;exact ⟨by rw [b]; omega,by rw [b]; omega⟩
end SpanMath
namespace Law
local macro_rules | `(tactic| rfl')=>`(tactic| walk_at "rd")
local macro_rules | `(tactic| right)=>`(tactic| decide +kernel)
open PySem L2
local macro_rules | `(tactic| exists $n:num,$s:str)=>do
 let ts<-((s.getString.splitOn " ").map fun x=>Lean.mkIdent (((if n.getNat<4 then `_root_.Law else `_root_.L2) ++ x.toName:Lean.Name))).toArray.mapM fun x=>match n.getNat%4 with
  | 0=>`(Lean.Parser.Tactic.tacticSeq| refine $x ?_)
  | 1=>`(Lean.Parser.Tactic.tacticSeq| (with_reducible refine' $x (by assumption) ?q ?_; (case q=>first | assumption | exact yc)))
  | 2=>`(Lean.Parser.Tactic.tacticSeq| (with_reducible refine' $x ?q ?_; (case q=>first | assumption | exact yc)))
  | _=>`(Lean.Parser.Tactic.tacticSeq| (with_reducible refine' $x ?q ?n ?_; (case q=>first | assumption | exact yc); (case n=>with_unfolding_all decide +kernel)))
 `(tactic| first $[| $ts:tacticSeq]*)
local macro_rules | `(tactic| exists $n:num,$m:num)=>do
 let xs:=Array.replicate n.getNat (<-`(some _))++Array.replicate m.getNat (<-`(none))
 `(tactic| (try dsimp only [vz]; refine yn (σ':=[$xs,*]) rfl ?_))
local macro_rules | `(tactic| left)=>let h:=Lean.mkIdent `h; `(tactic| first | (cases $h:ident; subst_vars; rfl) | repeat first | (obtain ⟨e,_⟩:=$h:ident; subst e; rfl) | obtain ⟨_,$h:ident⟩:=$h:ident)
local macro_rules | `(tactic| exists $a:ident,$b:ident,$c:ident)=>let h:=Lean.mkIdent `h; let s:=Lean.mkIdent `s; let H:=Lean.mkIdent `H; let Q:=Lean.mkIdent `Q; let E:=Lean.mkIdent `E; let A:=Lean.mkIdent `A; `(tactic| (refine $a $b (fun _ $H $Q $E $h=>?_) (fun _ $A _ $s $H _ $Q $E $c $h=>?_); left))
local macro_rules | `(tactic| walk_at "side")=>`(tactic| first | exact ⟨by decide,by decide⟩ | (show (0:Int) < _; first | decide | omega) | exact Or.inl ⟨by omega,by omega⟩ | exact Or.inr ⟨by omega,by omega⟩ | exact ⟨by omega,by omega⟩ | exact ⟨by decide,by decide,by decide⟩)
local macro_rules | `(tactic| walk_at "len")=>`(tactic| first | decide | (simp only [cy,List.length_nil]; decide))
local macro_rules | `(tactic| walk_at "rd1")=>`(tactic| with_reducible first
 | exists 4,"vbe"
 | (refine' yy4 ?rdv ?_; (case rdv=>with_unfolding_all rfl))
 | exists 4,"i_c vdh vdq ywb vc3 vdk vc5 vaq vbf yxz yyv ywl ypy ŷ ypl yp9 yvk vag vdb vbn va0 yqt yt3 yxw vak vdd vav va4 vbl vam ye6 yum vda va1 va8 yyr vdj ylf yvp vbs vdf i_U g0 g1 g2 g3 g4 g5 g6 g7 g8 g9 g10 yo7 yur ħ Ę vbp vbc vbt yqi yym yqe ypd ypo ywy ypf yuj yqo yue ypw yp3 yqp yov yxh ypa ypv yv5 vbb yjz ygs yvm ypn yo9"
 | (refine' i_shlC ?rdp ?rdq ?_; (case rdp=>with_unfolding_all exact ⟨by decide,by decide,by decide⟩); (case rdq=>with_unfolding_all decide))
 | (refine' i_powC ?rdp ?rdq ?_; (case rdp=>with_unfolding_all exact ⟨by decide,by decide,by decide⟩); (case rdq=>with_unfolding_all decide))
 | exists 4,"yvy"
 | (refine i_I ?rdc ?_; (case rdc=>with_unfolding_all walk_at "side")))
local macro_rules | `(tactic| walk_at "rd")=>`(tactic| repeat walk_at "rd1")
variable {D c' cl' ct' dc dq ds md p q tl y:Addr} {U U' W' W2:Addr->Prop} {L M:List (Str × List Int)} {ts xs:List Int} {i j m':Nat} {tp:Nat->Addr} {O O' O2:Nat->Addr->Prop} {bt:Nat->Int} {R:Prop} {tu:Str->Addr}
def top (i:Nat):Stmt:=PySem.Challenge.pw_foretell_k46_drop.main.body.getD i (.Pass ⟨0,0,0,0⟩)
abbrev vb2:Stmt:=top 21
abbrev vca:Stmt:=top 22
abbrev vbz:Stmt:=top 23
abbrev vb1:Stmt:=top 24
abbrev vb8:Stmt:=top 25
abbrev vb9:Stmt:=top 26
abbrev vcb:Stmt:=top 27
abbrev vb6:Stmt:=top 28
abbrev vb0:Stmt:=top 29
abbrev ytd:Stmt:=top 30
abbrev ysa:Stmt:=top 31
abbrev yr0:Stmt:=yz (top 36) 0
abbrev ysp:Stmt:=yz (top 36) 1
abbrev ys0:Stmt:=yz (top 36) 2
abbrev yr6:Stmt:=yz (top 37) 0
abbrev yrv:Stmt:=yz (top 37) 1
abbrev ys4:Stmt:=yz (top 37) 2
abbrev yrz:Stmt:=yz (top 38) 0
abbrev yth:Stmt:=yz (top 38) 1
abbrev ytj:Stmt:=yz (top 38) 2
abbrev yq3:Stmt:=top 39
abbrev yr2:Stmt:=top 45
abbrev ysq:Stmt:=top 46
abbrev yta:Stmt:=top 47
abbrev ys2:Stmt:=top 48
abbrev yr4:Stmt:=top 49
abbrev yr3:Stmt:=top 50
abbrev ys5:Stmt:=top 51
abbrev ytf:Stmt:=yz (top 52) 0
abbrev ytg:Stmt:=yz (top 52) 2
abbrev ys7:Stmt:=yz (top 57) 0
abbrev yrh:Stmt:=yz (top 57) 2
abbrev yq4:Stmt:=yz (top 57) 3
abbrev yrt:Stmt:=yz (top 60) 0
abbrev yr1:Stmt:=yz (top 60) 1
abbrev yrc:Stmt:=yz (top 60) 2
abbrev yrm:Stmt:=yz (top 60) 3
abbrev ys1:Stmt:=yz (top 60) 7
abbrev yse:Stmt:=yz (top 60) 8
abbrev ysb:Stmt:=yz (top 60) 9
abbrev yss:Stmt:=top 63
abbrev yro:Stmt:=top 64
abbrev ysr:Stmt:=top 69
abbrev ysx:Stmt:=top 70
abbrev ysf:Stmt:=yz (top 71) 0
abbrev ys3:Stmt:=yz (top 71) 2
abbrev yti:Stmt:=yz (top 71) 3
abbrev yte:Stmt:=yz (top 71) 5
abbrev yst:Stmt:=yz (top 71) 6
abbrev yry:Stmt:=yz (top 73) 0
abbrev ysk:Stmt:=yz (top 73) 1
abbrev yrb:Stmt:=yz (top 73) 2
abbrev yrf:Stmt:=yz (top 73) 3
abbrev ys6:Stmt:=yz (top 73) 5
abbrev ys8:Stmt:=top 75
abbrev ysi:Stmt:=top 76
abbrev yri:Stmt:=top 78
abbrev yf1:Stmt:=top 79
abbrev ysy:Stmt:=top 80
abbrev yrp:Stmt:=top 81
abbrev yr9:Stmt:=top 82
abbrev ysc:Stmt:=top 83
abbrev ysv:Stmt:=yz (top 85) 0
abbrev yru:Stmt:=yz (top 85) 1
abbrev yre:Stmt:=yz (top 85) 2
abbrev yr8:Stmt:=yz (top 85) 3
abbrev yrw:Stmt:=top 90
abbrev ysh:Stmt:=top 91
abbrev yrg:Stmt:=top 92
abbrev yrk:Stmt:=yz (top 93) 0
abbrev yfy:Stmt:=yz (top 94) 0
abbrev yq5:Stmt:=yz (top 94) 3
abbrev yf2:Stmt:=yz (top 94) 4
abbrev yrl:Stmt:=yz (top 94) 6
abbrev yrn:Stmt:=yz (top 94) 7
abbrev ytb:Stmt:=yz (top 94) 8
abbrev yra:Stmt:=yz (top 94) 9
abbrev ysz:Stmt:=yz (top 94) 10
abbrev yrr:Stmt:=yz (top 94) 11
abbrev yq9:Stmt:=yz (top 94) 12
abbrev yrx:Stmt:=yz (top 94) 13
abbrev yrj:Stmt:=yz (top 94) 14
abbrev yrd:Stmt:=yz (top 94) 15
abbrev ysu:Stmt:=yz (top 94) 16
abbrev yq6:Stmt:=top 96
abbrev ysw:Stmt:=top 97
abbrev yr7:Stmt:=top 98
abbrev ysd:Stmt:=top 99
abbrev yr5:Stmt:=top 100
abbrev ytc:Stmt:=top 101
abbrev ys9:Stmt:=top 102
abbrev ysg:Stmt:=top 103
set_option genInjectivity false in
set_option genSizeOfSpec false in
structure Ads where
 Pf:Addr
 Pg:FuncData
 Ph:Addr
 Pi:FuncData
 Pj:Addr
 Pk:FuncData
 Pl:Addr
 Pm:FuncData
 Pn:Addr
 Po:FuncData
 Pp:Addr
 Pq:FuncData
 Pr:Addr
 Ps:FuncData
 Pt:Addr
 Pu:FuncData
 Pv:Addr
 Pw:FuncData
 J7:Addr
 J8:FuncData
 J9:Addr
 Ja:FuncData
 Hh:Addr
 Jb:FuncData
 Jc:Addr
 Jd:FuncData
 Je:Addr
 Jf:FuncData
 Hi:Addr
 Jg:FuncData
 Jh:Addr
 Ji:FuncData
 Jj:Addr
 Jk:FuncData
 Hj:Addr
 Jl:FuncData
 Jm:Addr
 Jn:FuncData
 Jo:Addr
 Jp:FuncData
 Jq:Addr
 Jr:FuncData
 Js:Addr
 Jt:FuncData
 Ju:Addr
 Jv:FuncData
 Jw:Addr
 Jx:FuncData
 Jy:Addr
 Jz:FuncData
 K1:Addr
 K2:FuncData
 K3:Addr
 K4:FuncData
 K5:Addr
 K6:FuncData
 Hk:Addr
 K7:FuncData
 K8:Addr
 K9:FuncData
 Hl:Addr
 Ka:FuncData
 Kb:Addr
 Kc:FuncData
 Kd:Addr
 Ke:FuncData
 Hm:Addr
 Kg:FuncData
 Kh:Addr
 Ki:FuncData
 Kj:Addr
 Kk:FuncData
 Kl:Addr
 Km:FuncData
 Kn:Addr
 Ko:FuncData
 Kp:Addr
 Kq:FuncData
 Kr:Addr
 Ks:FuncData
 Kt:Addr
 Ku:FuncData
 Kv:Addr
 Kw:FuncData
 Kx:Addr
 Ky:FuncData
 Kz:Addr
 L1:FuncData
 Hn:Addr
 L6:FuncData
 L7:Addr
 L8:FuncData
 L9:Addr
 La:FuncData
 Lb:Addr
 Lc:FuncData
 Ld:Addr
 Le:FuncData
 Ho:Addr
 Lf:FuncData
 Lg:Addr
 Lh:FuncData
 Li:Addr
 Lj:FuncData
 Lk:Addr
 Ll:FuncData
 Lm:Addr
 Ln:FuncData
 Lo:Addr
 Lp:FuncData
 Lq:Addr
 Lr:FuncData
 Ls:Addr
 Lt:FuncData
 E8:Addr
 Lu:FuncData
 Lv:Addr
 Lx:Addr
 Ly:FuncData
 Lz:Addr
 M0:FuncData
 M4:Addr
 M5:FuncData
 M6:Addr
 M7:FuncData
 Hq:Addr
 M8:FuncData
 M9:Addr
 Ma:FuncData
 Mb:Addr
 Mc:FuncData
 Md:Addr
 Me:FuncData
 Mf:Addr
 Mg:FuncData
 Mh:Addr
 Mi:FuncData
 Mj:Addr
 Ml:FuncData
 Hr:Addr
 Mm:FuncData
 Dv:Addr
 Mn:FuncData
 Mo:Addr
 D5:Tok
 Mq:Addr
 Mr:FuncData
 Dw:Addr
 Ms:FuncData
 Mt:Addr
 Mu:Addr
 Mv:FuncData
 Mw:Addr
 Mx:FuncData
 My:Addr
 Mz:FuncData
 N0:Addr
 N2:FuncData
 N3:Addr
 N4:FuncData
 N5:Addr
 N6:FuncData
 N7:Addr
 N8:FuncData
 N9:Addr
 Na:FuncData
 Nd:Addr
 Nf:FuncData
 Ng:Addr
 Nh:FuncData
 Ni:Addr
 Nj:FuncData
 Nk:Addr
 Nl:FuncData
 Nm:Addr
 Nn:FuncData
 No:Addr
 Np:FuncData
 Nq:Addr
 Nr:FuncData
 Nt:Addr
 Nu:FuncData
 Nv:Addr
 Nw:FuncData
 Nx:Addr
 Ny:FuncData
 Ol:Addr
 Hs:FuncData
 Ac:Addr
 Ab:Addr
 Ag:Addr
 C6:Addr
 Ad:Addr
 A5:Addr
 A4:Addr
 Af:Addr
 A1:Addr
 Aa:Addr
 A0:Addr
 Fc:Addr
 E9:Addr
 Bf:Addr
 Ea:Addr
 C3:Addr
 Gq:Addr
 Gr:Addr
 A7:Addr
 An:Addr
 Ae:Addr
 Cs:Addr
 A2:Addr
 A8:Addr
 Am:Addr
 Gs:Tok
 Om:Tok
 Cg:Tok
 Ci:Tok
 Bo:Tok
 D4:Tok
 C7:Tok
 Cj:Tok
 Do:Tok
 Bp:Tok
 Ct:Tok
 Bq:Tok
 Cu:Tok
 C8:Tok
 Ck:Tok
 C9:Tok
 Br:Tok
 Dp:Tok
 Ca:Tok
 Cz:Addr
 Bt:Addr
variable {a:Ads}
structure Txt (K:W.Frag) (mg:Str->Option Value) (a:Ads):Prop where
 Cq:Dff K mg "is_whole" vb2 ["thing"] a.Pf a.Pg
 O6:Dff K mg "is_bit" vca ["thing"] a.Ph a.Pi
 O7:Dff K mg "is_chance" vbz ["thing"] a.Pj a.Pk
 O8:Dff K mg "is_sign" vb1 ["thing"] a.Pl a.Pm
 Gt:Dff K mg "is_list_of_signs" vb8 ["thing","most"] a.Pn a.Po
 Cr:Dff K mg "checked_text" vb9 ["thing"] a.Pp a.Pq
 O9:Dff K mg "checked_bytes" vcb ["thing"] a.Pr a.Ps
 Oa:Dff K mg "check_most" vb6 ["thing"] a.Pt a.Pu
 Dy:Dff K mg "check_chance" vb0 ["thing"] a.Pv a.Pw
 Ao:Dff K mg "check_bit" ytd ["thing"] a.J7 a.J8
 Fl:Dff K mg "gives" ysa ["chance","bit"] a.J9 a.Ja
 Fm:Dfm K a.Ac "__init__" "Even.__init__" yr0 ["self"] a.Hh a.Jb
 Ht:Dfm K a.Ac "chance" "Even.chance" ysp ["self"] a.Jc a.Jd
 Hu:Dfm K a.Ac "seen" "Even.seen" ys0 ["self","bit"] a.Je a.Jf
 Fn:Dfm K a.Ab "__init__" "Quick.__init__" yr6 ["self"] a.Hi a.Jg
 Hv:Dfm K a.Ab "chance" "Quick.chance" yrv ["self"] a.Jh a.Ji
 Hw:Dfm K a.Ab "seen" "Quick.seen" ys4 ["self","bit"] a.Jj a.Jk
 Fo:Dfm K a.Ag "__init__" "Run.__init__" yrz ["self"] a.Hj a.Jl
 Hx:Dfm K a.Ag "chance" "Run.chance" yth ["self"] a.Jm a.Jn
 Hy:Dfm K a.Ag "seen" "Run.seen" ytj ["self","bit"] a.Jo a.Jp
 Fp:Dff K mg "slot_of" yq3 ["kind"] a.Jq a.Jr
 Fq:Dff K mg "is_kind" yr2 ["thing"] a.Js a.Jt
 Fr:Dff K mg "is_place" ysq ["thing"] a.Ju a.Jv
 Fs:Dff K mg "are_places" yta ["thing"] a.Jw a.Jx
 D6:Dff K mg "is_look" ys2 ["thing"] a.Jy a.Jz
 D7:Dff K mg "checked_looks" yr4 ["thing"] a.K1 a.K2
 Ft:Dff K mg "sign_back" yr3 ["signs","place"] a.K3 a.K4
 Fu:Dff K mg "context_of" ys5 ["look","signs","node"] a.K5 a.K6
 Fv:Dfm K a.Ad "__init__" "Book.__init__" ytf ["self","look"] a.Hk a.K7
 Hz:Dfm K a.Ad "slot_at" "Book.slot_at" ytg ["self","signs","node"] a.K8 a.K9
 Fw:Dfm K a.C6 "__init__" "Mixer.__init__" ys7 ["self","many"] a.Hl a.Ka
 I0:Dfm K a.C6 "mixed" "Mixer.mixed" yrh ["self","chances"] a.Kb a.Kc
 I1:Dfm K a.C6 "learn" "Mixer.learn" yq4 ["self","chances","bit"] a.Kd a.Ke
 Eb:Dfm K a.A4 "__init__" "Foreteller.__init__" yrt ["self","looks"] a.Hm a.Kg
 Ec:Dfm K a.A4 "arrive" "Foreteller.arrive" yr1 ["self"] a.Kh a.Ki
 Ed:Dfm K a.A4 "chances" "Foreteller.chances" yrc ["self"] a.Kj a.Kk
 Ee:Dfm K a.A4 "chance" "Foreteller.chance" yrm ["self"] a.Kl a.Km
 D8:Dfm K a.A4 "see" "Foreteller.see" ys1 ["self","bit"] a.Kn a.Ko
 I2:Dfm K a.A4 "step" "Foreteller.step" yse ["self","bit"] a.Kp a.Kq
 I3:Dfm K a.A4 "step_in_sign" "Foreteller.step_in_sign" ysb ["self","bit"] a.Kr a.Ks
 Fx:Dff K mg "bits_of" yss ["sign"] a.Kt a.Ku
 D9:Dff K mg "decisions_of" yro ["text"] a.Kv a.Kw
 Fz:Dff K mg "written" ysr ["number","size"] a.Kx a.Ky
 Da:Dff K mg "first_block" ysx ["low","unit"] a.Kz a.L1
 Ef:Dfm K a.A5 "__init__" "Span.__init__" ysf ["self"] a.Hn a.L6
 Eg:Dfm K a.A5 "cut" "Span.cut" ys3 ["self","chance"] a.L7 a.L8
 Eh:Dfm K a.A5 "narrow" "Span.narrow" yti ["self","chance","bit"] a.L9 a.La
 I4:Dfm K a.A5 "holds_block" "Span.holds_block" yte ["self","unit"] a.Lb a.Lc
 Ei:Dfm K a.A5 "told" "Span.told" yst ["self"] a.Ld a.Le
 G0:Dfm K a.Af "__init__" "Seeker.__init__" yry ["self","data"] a.Ho a.Lf
 Ej:Dfm K a.Af "follow" "Seeker.follow" ysk ["self"] a.Lg a.Lh
 I5:Dfm K a.Af "byte_at" "Seeker.byte_at" yrb ["self","place"] a.Li a.Lj
 I6:Dfm K a.Af "bit" "Seeker.bit" yrf ["self","chance"] a.Lk a.Ll
 I7:Dfm K a.Af "told" "Seeker.told" ys6 ["self"] a.Lm a.Ln
 G8:Dff K mg "checked_learned" ys8 ["thing"] a.Lo a.Lp
 G9:Dff K mg "teach" ysi ["foreteller","texts"] a.Lq a.Lr
 Db:Dff K mg "press_by" yri ["foreteller","text"] a.Ls a.Lt
 Qd:ybt K "pressed" "pressed" yf1 a.Lv a.E8 a.Lu
 Ry:uc K a.Lu ["looks","text","learned"] [.none]
 Qs:uc K a.Lu ["looks","text","learned"] []
 Qt:mg "pressed"=some (.ref a.E8)
 Dc:Dff K mg "bit_by" ysy ["foreteller","seeker"] a.Lx a.Ly
 Ga:Dff K mg "sign_by" yrp ["foreteller","seeker"] a.Lz a.M0
 Gb:Dff K mg "text_by" yr9 ["foreteller","seeker","most"] a.M4 a.M5
 Gc:Dff K mg "read_by" ysc ["foreteller","data","most"] a.M6 a.M7
 Dd:Dfm K a.A1 "__init__" "Chain.__init__" ysv ["self","looks"] a.Hq a.M8
 Ek:Dfm K a.A1 "grow" "Chain.grow" yru ["self","name","text"] a.M9 a.Ma
 I8:Dfm K a.A1 "press" "Chain.press" yre ["self","name","text"] a.Mb a.Mc
 I9:Dfm K a.A1 "read" "Chain.read" yr8 ["self","name","data","most"] a.Md a.Me
 Gd:Dff K mg "is_name" yrw ["thing"] a.Mf a.Mg
 Co:Dff K mg "checked_name" ysh ["thing"] a.Mh a.Mi
 Ge:Dff K mg "check_base" yrg ["thing"] a.Mj a.Ml
 Gf:Dfm K a.Aa "__init__" "Piece.__init__" yrk ["self","base","data"] a.Hr a.Mm
 Qu:ybt K "__init__" "Store.__init__" yfy a.Mo a.Dv a.Mn
 Rz:uc K a.Mn ["self","looks","most"] [.int 1000 a.D5]
 Qv:uc K a.Mn ["self","looks","most"] []
 El:Dfm K a.A0 "names" "Store.names" yq5 ["self"] a.Mq a.Mr
 Qw:ybt K "put" "Store.put" yf2 a.Mt a.Dw a.Ms
 S9:uc K a.Ms ["self","name","text","base"] [.none]
 On:uc K a.Ms ["self","name","text","base"] []
 Oo:yts K a.A0 "put" a.Dw
 Ia:Dfm K a.A0 "check_length" "Store.check_length" yrl ["self","text"] a.Mu a.Mv
 Ib:Dfm K a.A0 "check_room" "Store.check_room" yrn ["self","name","base"] a.Mw a.Mx
 Bu:Dfm K a.A0 "piece_at" "Store.piece_at" ytb ["self","name"] a.My a.Mz
 Em:Dfm K a.A0 "links_to" "Store.links_to" yra ["self","name"] a.N0 a.N2
 En:Dfm K a.A0 "chain_to" "Store.chain_to" ysz ["self","name"] a.N3 a.N4
 Eo:Dfm K a.A0 "texts_to" "Store.texts_to" yrr ["self","name"] a.N5 a.N6
 Ep:Dfm K a.A0 "text_of" "Store.text_of" yq9 ["self","name"] a.N7 a.N8
 Er:Dfm K a.A0 "bytes_of" "Store.bytes_of" yrx ["self","name"] a.N9 a.Na
 Es:Dfm K a.A0 "base_of" "Store.base_of" yrj ["self","name"] a.Nd a.Nf
 Ic:Dfm K a.A0 "learned_of" "Store.learned_of" yrd ["self","name"] a.Ng a.Nh
 Ie:Dfm K a.A0 "drop" "Store.drop" ysu ["self","name"] a.Ni a.Nj
 B8:Dff K mg "_law_mixed" yq6 ["_law_script","_law_k"] a.Nk a.Nl
 Gg:Dff K mg "_law_looks" ysw ["_law_cell","_law_most"] a.Nm a.Nn
 Gh:Dff K mg "_law_names" yr7 ["_law_cell"] a.No a.Np
 Cp:Dff K mg "_law_dropped" ysd ["_law_store","_law_name"] a.Nq a.Nr
 De:Dff K mg "_law_gone" yr5 ["_law_store","_law_name","_law_kind"] a.Nt a.Nu
 Gi:Dff K mg "_law_model" ytc ["_law_script","_law_store","_law_names_here"] a.Nv a.Nw
 Gj:Dff K mg "_law_deed" ys9 ["_law_store","_law_model_here","_law_old","_law_name","_law_cell"] a.Nx a.Ny
 If:Dff K mg "law" ysg ["_law_script"] a.Ol a.Hs
 C4:Cls K a.Ac
 Qf:mg "Even"=some (.ref a.Ac)
 Qg:Mk K a.Ac a.Hh
 Ap:vn K a.Ac "noughts"
 Bg:vn K a.Ac "ones"
 Cv:Cls K a.Ab
 Px:mg "Quick"=some (.ref a.Ab)
 Py:Mk K a.Ab a.Hi
 Av:vn K a.Ab "held"
 Cw:Cls K a.Ag
 Qx:mg "Run"=some (.ref a.Ag)
 Qy:Mk K a.Ag a.Hj
 Bv:vn K a.Ag "last"
 Aw:vn K a.Ag "length"
 Ig:Cls K a.C6
 Sa:mg "Mixer"=some (.ref a.C6)
 Sb:Mk K a.C6 a.Hl
 Cb:vn K a.C6 "kept"
 Dh:Cls K a.Ad
 Qh:mg "Book"=some (.ref a.Ad)
 Qi:Mk K a.Ad a.Hk
 C5:vn K a.Ad "look"
 Bk:vn K a.Ad "slots"
 Ai:Cls K a.A5
 Op:mg "Span"=some (.ref a.A5)
 Oq:Mk K a.A5 a.Hn
 Bw:vn K a.A5 "low"
 Ax:vn K a.A5 "width"
 Bh:vn K a.A5 "size"
 Aj:Cls K a.A4
 Qz:mg "Foreteller"=some (.ref a.A4)
 R0:Mk K a.A4 a.Hm
 Bx:vn K a.A4 "looks"
 Cl:vn K a.A4 "books"
 Cm:vn K a.A4 "mixer"
 By:vn K a.A4 "ended"
 Bz:vn K a.A4 "place"
 Ay:vn K a.A4 "present"
 C0:Cls K a.Af
 Sc:mg "Seeker"=some (.ref a.Af)
 Se:Mk K a.Af a.Ho
 D0:vn K a.Af "data"
 D1:vn K a.Af "span"
 Bi:vn K a.Af "number"
 Az:vn K a.Af "reached"
 As:Cls K a.A1
 E4:mg "Chain"=some (.ref a.A1)
 E5:Mk K a.A1 a.Hq
 Ak:vn K a.A1 "foreteller"
 Bc:vn K a.A1 "links"
 Bd:vn K a.A1 "texts"
 Di:Cls K a.Aa
 Pz:mg "Piece"=some (.ref a.Aa)
 Q0:Mk K a.Aa a.Hr
 Bl:vn K a.Aa "base"
 Bm:vn K a.Aa "data"
 A3:Cls K a.A0
 Q1:mg "Store"=some (.ref a.A0)
 Q2:Mk K a.A0 a.Dv
 At:vn K a.A0 "looks"
 Bn:vn K a.A0 "most"
 B0:vn K a.A0 "pieces"
 Au:vn K a.A0 "chain"
 Sf:mg "NoText"=some (.ref a.Fc)
 Sg:mg "NoBytes"=some (.ref a.E9)
 Os:mg "NoMost"=some (.ref a.Bf)
 Sh:mg "NoChance"=some (.ref a.Ea)
 Si:mg "NoBit"=some (.ref a.C3)
 R1:mg "NoLooks"=some (.ref a.Gq)
 R3:mg "NoPress"=some (.ref a.Gr)
 Ih:mg "NoName"=some (.ref a.A7)
 Ob:mg "TooLong"=some (.ref a.An)
 Nz:mg "Taken"=some (.ref a.Ae)
 Qj:mg "Full"=some (.ref a.Cs)
 Dq:mg "NoPiece"=some (.ref a.A2)
 Gu:mg "InUse"=some (.ref a.A8)
 Dz:mg "ForetellError"=some (.ref a.Am)
 R4:XCls K a.Fc
 Qk:XMk K a.Fc
 R5:XCls K a.E9
 Ql:XMk K a.E9
 Ii:XCls K a.Bf
 Et:XMk K a.Bf
 R6:XCls K a.Ea
 Qm:XMk K a.Ea
 R7:XCls K a.C3
 Qn:XMk K a.C3
 R8:XCls K a.Gq
 Q3:XMk K a.Gq
 R9:XCls K a.Gr
 Q4:XMk K a.Gr
 Ij:XCls K a.A7
 Eu:XMk K a.A7
 Gk:XCls K a.An
 Dr:XMk K a.An
 O0:XCls K a.Ae
 Gv:XMk K a.Ae
 Ot:XCls K a.Cs
 Ix:XMk K a.Cs
 Ds:XCls K a.A2
 Dt:XMk K a.A2
 E6:XCls K a.A8
 Gw:XMk K a.A8
 Cc:W.kitOne K (.ref a.Fc) (.type "ValueError")=some true
 Cd:W.kitOne K (.ref a.E9) (.type "ValueError")=some true
 Ce:W.kitOne K (.ref a.C3) (.type "ValueError")=some true
 B9:W.kitOne K (.ref a.A2) (.ref a.A8)=some false
 B6:W.exmOne K (.ref a.A2) (.ref a.A7)=some false
 A9:W.exmOne K (.ref a.A2) (.ref a.A2)=some true
 Ba:W.exmOne K (.ref a.A2) (.ref a.Ae)=some false
 Ar:W.kitOne K (.ref a.A8) (.type "ValueError")=some true
 Al:W.kitOne K (.ref a.A8) (.ref a.Am)=some true
 C1:W.exmOne K (.ref a.A8) (.ref a.A8)=some true
 Bj:W.exmOne K (.ref a.A8) (.ref a.A7)=some false
 Bb:W.exmOne K (.ref a.A8) (.ref a.A2)=some false
 C2:W.exmOne K (.ref a.A8) (.ref a.Ae)=some false
 A6:mg "isinstance"=none
 Ou:mg "int"=none
 Iy:mg "bool"=none
 Aq:mg "list"=none
 Dj:mg "all"=none
 Ah:mg "len"=none
 Ik:mg "min"=none
 Il:mg "max"=none
 O4:mg "str"=none
 D3:mg "tuple"=none
 Im:mg "zip"=none
 Ev:mg "sum"=none
 O5:mg "any"=none
 Be:mg "range"=none
 Ov:mg "set"=none
 Cn:mg "ValueError"=none
 Iz:mg "dict"=none
 E7:mg "LEAST"=some (.int 32768 a.Gs)
 Dk:mg "ONE"=some (.int 16777216 a.Om)
 Dl:mg "MOST_SIGNS"=some (.int 1000 a.Cg)
 Gy:mg "MOST_BYTES"=some (.int 12000 a.Ci)
 Cy:mg "MOST_COUNTED"=some (.int 255 a.Bo)
 J0:mg "FARTHEST"=some (.int 8 a.D4)
 Fd:mg "MOST_PLACES"=some (.int 4 a.C7)
 Dm:mg "MOST_LOOKS"=some (.int 6 a.Cj)
 Oc:mg "NO_SIGN"=some (.int 256 a.Do)
 Ew:mg "FIRST_WEIGHT"=some (.int 1099511627776 a.Bp)
 Io:mg "OWN_PARTS"=some (.int 31 a.Ct)
 Ey:mg "MOST_FIGURES"=some (.int 48 a.Bq)
 Dx:mg "NODES_END"=some (.int 256 a.Cu)
 Fe:mg "FIRST_WIDTH"=some (.int 1099511627776 a.C8)
 Gz:mg "FIRST_SIZE"=some (.int 5 a.Ck)
 Ff:mg "LEAST_WIDTH"=some (.int 4294967296 a.C9)
 Ez:mg "MOST_LETTERS"=some (.int 8 a.Br)
 Od:mg "LETTERS"=some (.str "abcdefghijklmnopqrstuvwxyz" a.Dp)
 Fg:mg "MOST_PIECES"=some (.int 60 a.Ca)
 Q5:mg "KINDS"=some (.ref a.Cz)
 Q6:∀ H,SqT K H a.Cz [V.str "even",V.str "quick",V.str "run"]
 Ip:mg "WORTHS"=some (.ref a.Bt)
 Dn:∀ H,SqT K H a.Bt [V.int 128,V.int 64,V.int 32,V.int 16,V.int 8,V.int 4,V.int 2,V.int 1]
section
variable {P:Program} {w:World} {K:W.Frag} {mg:Str->Option Value} {base:Heap}
def jm (v0 v1:V):List (Str × V):=[("noughts",v0),("ones",v1)]
section
variable {H:Hp} {dx:Addr} {v0 v1 v:V} {P:V->Prop} {nx:St->Hp->Prop} {σ:St}
section
variable (T:Txt K mg a) (hp:H p=some (.ins a.Ac dx (jm v0 v1)))
include T hp
theorem ì (h:P v0):RdX K H p "noughts" P:=rdX hp T.C4 T.Ap xv h
theorem í (h:wo nx σ (upd H p (.ins a.Ac dx (jm v v1)))):StX K H p "noughts" v nx σ:=stX hp T.C4 T.Ap lt2 j7 h
theorem yae (h:P v1):RdX K H p "ones" P:=rdX hp T.C4 T.Bg (wk (by right) xv) h
theorem yai (h:wo nx σ (upd H p (.ins a.Ac dx (jm v0 v)))):StX K H p "ones" v nx σ:=stX hp T.C4 T.Bg lt2 (vw (by right) j7) h
end
theorem é (T:Txt K mg a) (hp:H p=some (.ins a.Ac dx [])) (h:wo nx σ (upd H p (.ins a.Ac dx [("noughts",v)]))):StX K H p "noughts" v nx σ:=stX hp T.C4 T.Ap lt0 wu h
theorem yag (T:Txt K mg a) (hp:H p=some (.ins a.Ac dx [("noughts",v0)])) (h:wo nx σ (upd H p (.ins a.Ac dx (jm v0 v)))):StX K H p "ones" v nx σ:=stX hp T.C4 T.Bg lt1 (vw (by right) wu) h
theorem ġ:(jm v0 v1).lookup ("chance":Str)=none:=(wk (by right) (wk (by right) Đ))
theorem yaf:(jm v0 v1).lookup ("seen":Str)=none:=(wk (by right) (wk (by right) Đ))
end
local macro_rules | `(tactic| walk_at "rd1")=>`(tactic| first
 | exists 1,"ì í é yae yai yag")
def zi (v0:V):List (Str × V):=[("held",v0)]
section
variable {H:Hp} {dx:Addr} {v0 v:V} {P:V->Prop} {nx:St->Hp->Prop} {σ:St}
section
variable (T:Txt K mg a) (hp:H p=some (.ins a.Ab dx (zi v0)))
include T hp
theorem Ř (h:P v0):RdX K H p "held" P:=rdX hp T.Cv T.Av xv h
theorem ţ (h:wo nx σ (upd H p (.ins a.Ab dx (zi v)))):StX K H p "held" v nx σ:=stX hp T.Cv T.Av lt1 j7 h
end
theorem ş (T:Txt K mg a) (hp:H p=some (.ins a.Ab dx [])) (h:wo nx σ (upd H p (.ins a.Ab dx (zi v)))):StX K H p "held" v nx σ:=stX hp T.Cv T.Av lt0 wu h
theorem ë:(zi v0).lookup ("chance":Str)=none:=(wk (by right) Đ)
theorem ś:(zi v0).lookup ("seen":Str)=none:=(wk (by right) Đ)
end
local macro_rules | `(tactic| walk_at "rd1")=>`(tactic| first
 | exists 1,"Ř ţ ş")
def Ħ (v0 v1:V):List (Str × V):=[("last",v0),("length",v1)]
section
variable {H:Hp} {dx:Addr} {v0 v1 v:V} {P:V->Prop} {nx:St->Hp->Prop} {σ:St}
section
variable (T:Txt K mg a) (hp:H p=some (.ins a.Ag dx (Ħ v0 v1)))
include T hp
theorem yb2 (h:P v0):RdX K H p "last" P:=rdX hp T.Cw T.Bv xv h
theorem ybw (h:wo nx σ (upd H p (.ins a.Ag dx (Ħ v v1)))):StX K H p "last" v nx σ:=stX hp T.Cw T.Bv lt2 j7 h
theorem Š (h:P v1):RdX K H p "length" P:=rdX hp T.Cw T.Aw (wk (by right) xv) h
theorem œ (h:wo nx σ (upd H p (.ins a.Ag dx (Ħ v0 v)))):StX K H p "length" v nx σ:=stX hp T.Cw T.Aw lt2 (vw (by right) j7) h
end
theorem ybu (T:Txt K mg a) (hp:H p=some (.ins a.Ag dx [])) (h:wo nx σ (upd H p (.ins a.Ag dx [("last",v)]))):StX K H p "last" v nx σ:=stX hp T.Cw T.Bv lt0 wu h
theorem Ŏ (T:Txt K mg a) (hp:H p=some (.ins a.Ag dx [("last",v0)])) (h:wo nx σ (upd H p (.ins a.Ag dx (Ħ v0 v)))):StX K H p "length" v nx σ:=stX hp T.Cw T.Aw lt1 (vw (by right) wu) h
theorem Ŝ:(Ħ v0 v1).lookup ("chance":Str)=none:=(wk (by right) (wk (by right) Đ))
theorem ybz:(Ħ v0 v1).lookup ("seen":Str)=none:=(wk (by right) (wk (by right) Đ))
end
local macro_rules | `(tactic| walk_at "rd1")=>`(tactic| first
 | exists 1,"yb2 ybw ybu Š œ Ŏ")
def yzy (v0:V):List (Str × V):=[("kept",v0)]
section
variable {H:Hp} {dx:Addr} {v0 v:V} {P:V->Prop} {nx:St->Hp->Prop} {σ:St}
section
variable (T:Txt K mg a) (hp:H p=some (.ins a.C6 dx (yzy v0)))
include T hp
theorem yft (h:P v0):RdX K H p "kept" P:=rdX hp T.Ig T.Cb xv h
theorem yfs (h:wo nx σ (upd H p (.ins a.C6 dx (yzy v)))):StX K H p "kept" v nx σ:=stX hp T.Ig T.Cb lt1 j7 h
end
theorem yfx (T:Txt K mg a) (hp:H p=some (.ins a.C6 dx [])) (h:wo nx σ (upd H p (.ins a.C6 dx (yzy v)))):StX K H p "kept" v nx σ:=stX hp T.Ig T.Cb lt0 wu h
theorem vbd {C:Addr} {nm:Str} (hp:H p=some (.ins C dx (yzy v0))) (n:nm∉(["kept"]:List Str)) (h:R):MtX H p C nm R:=mtX hp rfl n h
end
local macro_rules | `(tactic| walk_at "rd1")=>`(tactic| first
 | exists 1,"yft yfs yfx"
 | exists 3,"vbd")
def yeu (v0 v1:V):List (Str × V):=[("look",v0),("slots",v1)]
section
variable {H:Hp} {dx:Addr} {v0 v1 v:V} {P:V->Prop} {nx:St->Hp->Prop} {σ:St}
section
variable (T:Txt K mg a) (hp:H p=some (.ins a.Ad dx (yeu v0 v1)))
include T hp
theorem yaa (h:P v0):RdX K H p "look" P:=rdX hp T.Dh T.C5 xv h
theorem ō (h:P v1):RdX K H p "slots" P:=rdX hp T.Dh T.Bk (wk (by right) xv) h
end
theorem ž (T:Txt K mg a) (hp:H p=some (.ins a.Ad dx [])) (h:wo nx σ (upd H p (.ins a.Ad dx [("look",v)]))):StX K H p "look" v nx σ:=stX hp T.Dh T.C5 lt0 wu h
theorem Ő (T:Txt K mg a) (hp:H p=some (.ins a.Ad dx [("look",v0)])) (h:wo nx σ (upd H p (.ins a.Ad dx (yeu v0 v)))):StX K H p "slots" v nx σ:=stX hp T.Dh T.Bk lt1 (vw (by right) wu) h
theorem yqq {C:Addr} {nm:Str} (hp:H p=some (.ins C dx (yeu v0 v1))) (n:nm∉(["look","slots"]:List Str)) (h:R):MtX H p C nm R:=mtX hp rfl n h
end
local macro_rules | `(tactic| walk_at "rd1")=>`(tactic| first
 | exists 1,"yaa ž ō Ő"
 | exists 3,"yqq")
def ė (v0 v1 v2 v3 v4 v5:V):List (Str × V):=[("looks",v0),("books",v1),("mixer",v2),("ended",v3),("place",v4),("present",v5)]
section
variable {H:Hp} {dx:Addr} {v0 v1 v2 v3 v4 v5 v:V} {P:V->Prop} {nx:St->Hp->Prop} {σ:St}
section
variable (T:Txt K mg a) (hp:H p=some (.ins a.A4 dx (ė v0 v1 v2 v3 v4 v5)))
include T hp
theorem yb7 (h:P v1):RdX K H p "books" P:=rdX hp T.Aj T.Cl (wk (by right) xv) h
theorem yb4 (h:P v2):RdX K H p "mixer" P:=rdX hp T.Aj T.Cm (wk (by right) (wk (by right) xv)) h
theorem yb5 (h:P v3):RdX K H p "ended" P:=rdX hp T.Aj T.By (wk (by right) (wk (by right) (wk (by right) xv))) h
theorem ycg (h:wo nx σ (upd H p (.ins a.A4 dx (ė v0 v1 v2 v v4 v5)))):StX K H p "ended" v nx σ:=stX hp T.Aj T.By lt6 (vw (by right) (vw (by right) (vw (by right) j7))) h
theorem yb9 (h:P v4):RdX K H p "place" P:=rdX hp T.Aj T.Bz (wk (by right) (wk (by right) (wk (by right) (wk (by right) xv)))) h
theorem ycb (h:wo nx σ (upd H p (.ins a.A4 dx (ė v0 v1 v2 v3 v v5)))):StX K H p "place" v nx σ:=stX hp T.Aj T.Bz lt6 (vw (by right) (vw (by right) (vw (by right) (vw (by right) j7)))) h
theorem ő (h:P v5):RdX K H p "present" P:=rdX hp T.Aj T.Ay (wk (by right) (wk (by right) (wk (by right) (wk (by right) (wk (by right) xv))))) h
theorem ŏ (h:wo nx σ (upd H p (.ins a.A4 dx (ė v0 v1 v2 v3 v4 v)))):StX K H p "present" v nx σ:=stX hp T.Aj T.Ay lt6 (vw (by right) (vw (by right) (vw (by right) (vw (by right) (vw (by right) j7))))) h
end
theorem ycf (T:Txt K mg a) (hp:H p=some (.ins a.A4 dx [])) (h:wo nx σ (upd H p (.ins a.A4 dx [("looks",v)]))):StX K H p "looks" v nx σ:=stX hp T.Aj T.Bx lt0 wu h
theorem ycc (T:Txt K mg a) (hp:H p=some (.ins a.A4 dx [("looks",v0)])) (h:wo nx σ (upd H p (.ins a.A4 dx [("looks",v0),("books",v)]))):StX K H p "books" v nx σ:=stX hp T.Aj T.Cl lt1 (vw (by right) wu) h
theorem ych (T:Txt K mg a) (hp:H p=some (.ins a.A4 dx [("looks",v0),("books",v1)])) (h:wo nx σ (upd H p (.ins a.A4 dx [("looks",v0),("books",v1),("mixer",v)]))):StX K H p "mixer" v nx σ:=stX hp T.Aj T.Cm lt2 (vw (by right) (vw (by right) wu)) h
theorem yb0 (T:Txt K mg a) (hp:H p=some (.ins a.A4 dx [("looks",v0),("books",v1),("mixer",v2)])) (h:wo nx σ (upd H p (.ins a.A4 dx [("looks",v0),("books",v1),("mixer",v2),("ended",v)]))):StX K H p "ended" v nx σ:=stX hp T.Aj T.By lt3 (vw (by right) (vw (by right) (vw (by right) wu))) h
theorem yb6 (T:Txt K mg a) (hp:H p=some (.ins a.A4 dx [("looks",v0),("books",v1),("mixer",v2),("ended",v3)])) (h:wo nx σ (upd H p (.ins a.A4 dx [("looks",v0),("books",v1),("mixer",v2),("ended",v3),("place",v)]))):StX K H p "place" v nx σ:=stX hp T.Aj T.Bz lt4 (vw (by right) (vw (by right) (vw (by right) (vw (by right) wu)))) h
theorem ř (T:Txt K mg a) (hp:H p=some (.ins a.A4 dx [("looks",v0),("books",v1),("mixer",v2),("ended",v3),("place",v4)])) (h:wo nx σ (upd H p (.ins a.A4 dx (ė v0 v1 v2 v3 v4 v)))):StX K H p "present" v nx σ:=stX hp T.Aj T.Ay lt5 (vw (by right) (vw (by right) (vw (by right) (vw (by right) (vw (by right) wu))))) h
theorem vbi {C:Addr} {nm:Str} (hp:H p=some (.ins C dx (ė v0 v1 v2 v3 v4 v5))) (n:nm∉(["looks","books","mixer","ended","place","present"]:List Str)) (h:R):MtX H p C nm R:=mtX hp rfl n h
end
local macro_rules | `(tactic| walk_at "rd1")=>`(tactic| first
 | exists 1,"ycf yb7 ycc yb4 ych yb5 ycg yb0 yb9 ycb yb6 ő ŏ ř"
 | exists 3,"vbi")
def yjr (v0 v1 v2 v3:V):List (Str × V):=[("data",v0),("span",v1),("number",v2),("reached",v3)]
section
variable {H:Hp} {dx:Addr} {v0 v1 v2 v3 v:V} {P:V->Prop} {nx:St->Hp->Prop} {σ:St}
section
variable (T:Txt K mg a) (hp:H p=some (.ins a.Af dx (yjr v0 v1 v2 v3)))
include T hp
theorem yfo (h:P v0):RdX K H p "data" P:=rdX hp T.C0 T.D0 xv h
theorem yfc (h:P v1):RdX K H p "span" P:=rdX hp T.C0 T.D1 (wk (by right) xv) h
theorem yac (h:P v2):RdX K H p "number" P:=rdX hp T.C0 T.Bi (wk (by right) (wk (by right) xv)) h
theorem yah (h:wo nx σ (upd H p (.ins a.Af dx (yjr v0 v1 v v3)))):StX K H p "number" v nx σ:=stX hp T.C0 T.Bi lt4 (vw (by right) (vw (by right) j7)) h
theorem Œ (h:P v3):RdX K H p "reached" P:=rdX hp T.C0 T.Az (wk (by right) (wk (by right) (wk (by right) xv))) h
theorem ŗ (h:wo nx σ (upd H p (.ins a.Af dx (yjr v0 v1 v2 v)))):StX K H p "reached" v nx σ:=stX hp T.C0 T.Az lt4 (vw (by right) (vw (by right) (vw (by right) j7))) h
end
theorem yfk (T:Txt K mg a) (hp:H p=some (.ins a.Af dx [])) (h:wo nx σ (upd H p (.ins a.Af dx [("data",v)]))):StX K H p "data" v nx σ:=stX hp T.C0 T.D0 lt0 wu h
theorem yfd (T:Txt K mg a) (hp:H p=some (.ins a.Af dx [("data",v0)])) (h:wo nx σ (upd H p (.ins a.Af dx [("data",v0),("span",v)]))):StX K H p "span" v nx σ:=stX hp T.C0 T.D1 lt1 (vw (by right) wu) h
theorem yad (T:Txt K mg a) (hp:H p=some (.ins a.Af dx [("data",v0),("span",v1)])) (h:wo nx σ (upd H p (.ins a.Af dx [("data",v0),("span",v1),("number",v)]))):StX K H p "number" v nx σ:=stX hp T.C0 T.Bi lt2 (vw (by right) (vw (by right) wu)) h
theorem Ţ (T:Txt K mg a) (hp:H p=some (.ins a.Af dx [("data",v0),("span",v1),("number",v2)])) (h:wo nx σ (upd H p (.ins a.Af dx (yjr v0 v1 v2 v)))):StX K H p "reached" v nx σ:=stX hp T.C0 T.Az lt3 (vw (by right) (vw (by right) (vw (by right) wu))) h
theorem vbm {C:Addr} {nm:Str} (hp:H p=some (.ins C dx (yjr v0 v1 v2 v3))) (n:nm∉(["data","span","number","reached"]:List Str)) (h:R):MtX H p C nm R:=mtX hp rfl n h
end
local macro_rules | `(tactic| walk_at "rd1")=>`(tactic| first
 | exists 1,"yfo yfk yfc yfd yac yah yad Œ ŗ Ţ"
 | exists 3,"vbm")
def zw (v0 v1 v2:V):List (Str × V):=[("foreteller",v0),("links",v1),("texts",v2)]
section
variable {H:Hp} {dx:Addr} {v0 v1 v2 v:V} {P:V->Prop} {nx:St->Hp->Prop} {σ:St}
section
variable (T:Txt K mg a) (hp:H p=some (.ins a.A1 dx (zw v0 v1 v2)))
include T hp
theorem jr (h:P v0):RdX K H p "foreteller" P:=rdX hp T.As T.Ak xv h
theorem ģ (h:P v1):RdX K H p "links" P:=rdX hp T.As T.Bc (wk (by right) xv) h
theorem Ĝ (h:P v2):RdX K H p "texts" P:=rdX hp T.As T.Bd (wk (by right) (wk (by right) xv)) h
end
theorem jq (T:Txt K mg a) (hp:H p=some (.ins a.A1 dx [])) (h:wo nx σ (upd H p (.ins a.A1 dx [("foreteller",v)]))):StX K H p "foreteller" v nx σ:=stX hp T.As T.Ak lt0 wu h
theorem ě (T:Txt K mg a) (hp:H p=some (.ins a.A1 dx [("foreteller",v0)])) (h:wo nx σ (upd H p (.ins a.A1 dx [("foreteller",v0),("links",v)]))):StX K H p "links" v nx σ:=stX hp T.As T.Bc lt1 (vw (by right) wu) h
theorem ğ (T:Txt K mg a) (hp:H p=some (.ins a.A1 dx [("foreteller",v0),("links",v1)])) (h:wo nx σ (upd H p (.ins a.A1 dx (zw v0 v1 v)))):StX K H p "texts" v nx σ:=stX hp T.As T.Bd lt2 (vw (by right) (vw (by right) wu)) h
theorem ykp {C:Addr} {nm:Str} (hp:H p=some (.ins C dx (zw v0 v1 v2))) (n:nm∉(["foreteller","links","texts"]:List Str)) (h:R):MtX H p C nm R:=mtX hp rfl n h
end
local macro_rules | `(tactic| walk_at "rd1")=>`(tactic| first
 | exists 1,"jr jq ģ ě Ĝ ğ"
 | exists 3,"ykp")
def Ċ (v0 v1:V):List (Str × V):=[("base",v0),("data",v1)]
section
variable {H:Hp} {dx:Addr} {v0 v1 v:V} {P:V->Prop} {nx:St->Hp->Prop} {σ:St}
section
variable (T:Txt K mg a) (hp:H p=some (.ins a.Aa dx (Ċ v0 v1)))
include T hp
theorem Ŗ (h:P v0):RdX K H p "base" P:=rdX hp T.Di T.Bl xv h
theorem Ś (h:P v1):RdX K H p "data" P:=rdX hp T.Di T.Bm (wk (by right) xv) h
end
theorem ŕ (T:Txt K mg a) (hp:H p=some (.ins a.Aa dx [])) (h:wo nx σ (upd H p (.ins a.Aa dx [("base",v)]))):StX K H p "base" v nx σ:=stX hp T.Di T.Bl lt0 wu h
theorem ŝ (T:Txt K mg a) (hp:H p=some (.ins a.Aa dx [("base",v0)])) (h:wo nx σ (upd H p (.ins a.Aa dx (Ċ v0 v)))):StX K H p "data" v nx σ:=stX hp T.Di T.Bm lt1 (vw (by right) wu) h
end
local macro_rules | `(tactic| walk_at "rd1")=>`(tactic| first
 | exists 1,"Ŗ ŕ Ś ŝ")
def xf (v0 v1 v2 v3:V):List (Str × V):=[("looks",v0),("most",v1),("pieces",v2),("chain",v3)]
section
variable {H:Hp} {dx:Addr} {v0 v1 v2 v3 v:V} {P:V->Prop} {nx:St->Hp->Prop} {σ:St}
section
variable (T:Txt K mg a) (hp:H p=some (.ins a.A0 dx (xf v0 v1 v2 v3)))
include T hp
theorem Ģ (h:P v0):RdX K H p "looks" P:=rdX hp T.A3 T.At xv h
theorem Ŕ (h:P v1):RdX K H p "most" P:=rdX hp T.A3 T.Bn (wk (by right) xv) h
theorem è (h:P v2):RdX K H p "pieces" P:=rdX hp T.A3 T.B0 (wk (by right) (wk (by right) xv)) h
theorem Ġ (h:P v3):RdX K H p "chain" P:=rdX hp T.A3 T.Au (wk (by right) (wk (by right) (wk (by right) xv))) h
theorem Ğ (h:wo nx σ (upd H p (.ins a.A0 dx (xf v0 v1 v2 v)))):StX K H p "chain" v nx σ:=stX hp T.A3 T.Au lt4 (vw (by right) (vw (by right) (vw (by right) j7))) h
end
theorem Ě (T:Txt K mg a) (hp:H p=some (.ins a.A0 dx [])) (h:wo nx σ (upd H p (.ins a.A0 dx [("looks",v)]))):StX K H p "looks" v nx σ:=stX hp T.A3 T.At lt0 wu h
theorem Ş (T:Txt K mg a) (hp:H p=some (.ins a.A0 dx [("looks",v0)])) (h:wo nx σ (upd H p (.ins a.A0 dx [("looks",v0),("most",v)]))):StX K H p "most" v nx σ:=stX hp T.A3 T.Bn lt1 (vw (by right) wu) h
theorem ê (T:Txt K mg a) (hp:H p=some (.ins a.A0 dx [("looks",v0),("most",v1)])) (h:wo nx σ (upd H p (.ins a.A0 dx [("looks",v0),("most",v1),("pieces",v)]))):StX K H p "pieces" v nx σ:=stX hp T.A3 T.B0 lt2 (vw (by right) (vw (by right) wu)) h
theorem ĝ (T:Txt K mg a) (hp:H p=some (.ins a.A0 dx [("looks",v0),("most",v1),("pieces",v2)])) (h:wo nx σ (upd H p (.ins a.A0 dx (xf v0 v1 v2 v)))):StX K H p "chain" v nx σ:=stX hp T.A3 T.Au lt3 (vw (by right) (vw (by right) (vw (by right) wu))) h
theorem ykf {C:Addr} {nm:Str} (hp:H p=some (.ins C dx (xf v0 v1 v2 v3))) (n:nm∉(["looks","most","pieces","chain"]:List Str)) (h:R):MtX H p C nm R:=mtX hp rfl n h
end
local macro_rules | `(tactic| walk_at "rd1")=>`(tactic| first
 | exists 1,"Ģ Ě Ŕ Ş è ê Ġ Ğ ĝ"
 | exists 3,"ykf")
open SpanMath
def But (p:Addr) (H H':Hp):Prop:=∀ b o,H b=some o->b≠p->H' b=some o
theorem But.refl {H:Hp}:But p H H:=fun _ _ h _=>h
theorem But.of {H H':Hp} (s:yx H H'):But p H H':=fun b o h _=>s b o h
theorem But.trans {H H1 H2:Hp} (x:But p H H1) (y:But p H1 H2):But p H H2:=fun b o h n=>y b o (x b o h n) n
theorem But.upd {H:Hp} {o:HO}:But p H (L2.upd H p o):=fun b u h n=>by rw [ym n]; exact h
theorem But.lst {l C dx:Addr} {fs:List (Str × V)} {H H':Hp} {xs:List V} (e:But p H H') (hp:H p=some (.ins C dx fs)) (h:H l=some (.lst xs)):H' l=some (.lst xs):=e _ _ h (xb h hp (by intro z; cases z))
theorem uu {x:V} (h:jp x=true):∃ i,x=.int i:=by
 cases x with
 | int i=>exact ⟨i,rfl⟩
 | _=>cases h
def Ý:V->Bool
 | .int i=>decide (0 <= i) && decide (i <= 1)
 | _=>false
def chV:V->Bool
 | .int i=>decide (32768 <= i) && decide (i <= 16744448)
 | _=>false
inductive yhg (K:W.Frag) (vs:List V) (H:Hp) (Q:VK) (E':XK):Prop
 | mk (x n:_):(vs=[x])->(xr K H x (.type n))->(Q (.bl (jp x)) H)->yhg K vs H Q E'
def z6 (x:Sn):List (Str × V):=[("low",.int x.1),("width",.int x.2.1),("size",.int x.2.2)]
theorem nWL:¬ (("width":Str)="low"):=by right
theorem nLW:¬ (("low":Str)="width"):=by right
theorem nSL:¬ (("size":Str)="low"):=by right
theorem nLS:¬ (("low":Str)="size"):=by right
theorem nSW:¬ (("size":Str)="width"):=by right
theorem nWS:¬ (("width":Str)="size"):=by right
theorem lkL (x:Sn):(z6 x).lookup ("low":Str)=some (.int x.1):=xv
theorem lkW (x:Sn):(z6 x).lookup ("width":Str)=some (.int x.2.1):=wk nWL xv
theorem lkS (x:Sn):(z6 x).lookup ("size":Str)=some (.int x.2.2):=wk nSL (wk nSW xv)
theorem lkN (x:Sn) {m:Str} (h1:¬ m="low") (h2:¬ m="width") (h3:¬ m="size"):(z6 x).lookup m=none:=wk h1 (wk h2 (wk h3 Đ))
theorem pfL (x:Sn) (v:Int):jf "low" (.int v) (z6 x)=z6 (v,x.2.1,x.2.2):=j7
theorem pfW (x:Sn) (v:Int):jf "width" (.int v) (z6 x)=z6 (x.1,v,x.2.2):=vw nLW j7
theorem pfS (x:Sn) (v:Int):jf "size" (.int v) (z6 x)=z6 (x.1,x.2.1,v):=vw nLS (vw nWS j7)
section
variable {H:Hp} {dx:Addr} {x:Sn} {P:V->Prop} {nx:St->Hp->Prop} {σ:St} {v:Int}
theorem rdL (T:Txt K mg a) (hp:H p=some (.ins a.A5 dx (z6 x))) (h:P (.int x.1)) :
  ∃ a' C dx fs v,V.ref p=.ref a'/\H a'=some (.ins C dx fs)/\Cls K C/\vn K C "low"/\fs.lookup ("low":Str)=some v/\P v:=⟨p,_,dx,_,_,rfl,hp,T.Ai,T.Bw,lkL x,h⟩
theorem rdW (T:Txt K mg a) (hp:H p=some (.ins a.A5 dx (z6 x))) (h:P (.int x.2.1)) :
  ∃ a' C dx fs v,V.ref p=.ref a'/\H a'=some (.ins C dx fs)/\Cls K C/\vn K C "width"/\fs.lookup ("width":Str)=some v/\P v:=⟨p,_,dx,_,_,rfl,hp,T.Ai,T.Ax,lkW x,h⟩
theorem rdS (T:Txt K mg a) (hp:H p=some (.ins a.A5 dx (z6 x))) (h:P (.int x.2.2)) :
  ∃ a' C dx fs v,V.ref p=.ref a'/\H a'=some (.ins C dx fs)/\Cls K C/\vn K C "size"/\fs.lookup ("size":Str)=some v/\P v:=⟨p,_,dx,_,_,rfl,hp,T.Ai,T.Bh,lkS x,h⟩
theorem vdg (T:Txt K mg a) (hp:H p=some (.ins a.A5 dx (z6 x))) (h:wo nx σ (upd H p (.ins a.A5 dx (z6 (v,x.2.1,x.2.2))))) :
  ∃ a' C dx fs,V.ref p=.ref a'/\H a'=some (.ins C dx fs)/\Cls K C/\vn K C "low"/\fs.length < 1000/\wo nx σ (upd H a' (.ins C dx (jf "low" (.int v) fs))):=⟨p,_,dx,z6 x,rfl,hp,T.Ai,T.Bw,by show 3 < 1000; decide,by rw [pfL]; exact h⟩
theorem vdl (T:Txt K mg a) (hp:H p=some (.ins a.A5 dx (z6 x))) (h:wo nx σ (upd H p (.ins a.A5 dx (z6 (x.1,v,x.2.2))))) :
  ∃ a' C dx fs,V.ref p=.ref a'/\H a'=some (.ins C dx fs)/\Cls K C/\vn K C "width"/\fs.length < 1000/\wo nx σ (upd H a' (.ins C dx (jf "width" (.int v) fs))):=⟨p,_,dx,z6 x,rfl,hp,T.Ai,T.Ax,by show 3 < 1000; decide,by rw [pfW]; exact h⟩
theorem vdi (T:Txt K mg a) (hp:H p=some (.ins a.A5 dx (z6 x))) (h:wo nx σ (upd H p (.ins a.A5 dx (z6 (x.1,x.2.1,v))))) :
  ∃ a' C dx fs,V.ref p=.ref a'/\H a'=some (.ins C dx fs)/\Cls K C/\vn K C "size"/\fs.length < 1000/\wo nx σ (upd H a' (.ins C dx (jf "size" (.int v) fs))):=⟨p,_,dx,z6 x,rfl,hp,T.Ai,T.Bh,by show 3 < 1000; decide,by rw [pfS]; exact h⟩
end
local macro_rules | `(tactic| walk_at "rd1")=>`(tactic| first
 | exists 1,"rdL rdW rdS vdg vdl"
 | (with_reducible refine' vdi (by assumption) ?rdh ?_; (case rdh=>first | assumption | exact yc)))
inductive Slt where
 | ev (n o:Int)
 | qk (h:Int)
 | rn (l n:Int)
def Slt.ok:Slt->Prop
 | .ev n o=>0 <= n/\0 <= o/\n+o <= 255
 | .qk h=>32768 <= h/\h <= 16744448
 | .rn l n=>0 <= l/\l <= 1/\0 <= n/\n <= 255
def Ô (n:Int):Int:=(2 * n+1) * 16777216 / (2 * n+2)
def Slt.due:Slt->Int
 | .ev n o=>(2 * o+1) * 16777216 / (2 * (n+o)+2)
 | .qk h=>h
 | .rn l n=>if l=1 then Ô n else 16777216 - Ô n
def yc0 (n o:Int):Slt:=if 255 < n+o then .ev ((n+1) / 2) ((o+1) / 2) else .ev n o
def yes (m:Int):Int:=if 16744448 < (if 32768 > m then 32768 else m) then 16744448 else (if 32768 > m then 32768 else m)
def Slt.see:Slt->Int->Slt
 | .ev n o,b=>if b=1 then yc0 n (o+1) else yc0 (n+1) o
 | .qk h,b=>.qk (yes (if b=1 then h+(16777216 - h) / 16 else h - h / 16))
 | .rn l n,b=>if b=l then .rn l (if 255 < n+1 then 255 else n+1) else .rn b 1
def oS (a:Ads) (dx:Addr):Slt->HO
 | .ev n o=>.ins a.Ac dx (jm (.int n) (.int o))
 | .qk h=>.ins a.Ab dx (zi (.int h))
 | .rn l n=>.ins a.Ag dx (Ħ (.int l) (.int n))
theorem yd2 {n o:Int} (h1:0 <= n) (h2:0 <= o) (h3:n+o <= 256):(yc0 n o).ok:=by
 unfold yc0
 split
 .exact ⟨by omega,by omega,by omega⟩
 .exact ⟨h1,h2,by omega⟩
theorem yhi (m:Int):32768 <= yes m/\yes m <= 16744448:=by
 unfold yes
 split <;> split <;> omega
theorem Slt.see_ok {s:Slt} {b:Int} (h:s.ok) (b0:0 <= b) (b1:b <= 1):(s.see b).ok:=by
 cases s with
 | ev n o =>
  obtain ⟨c,a,d⟩:=h;unfold Slt.see;dsimp only
  split
  .exact yd2 c (by omega) (by omega)
  .exact yd2 (by omega) a (by omega)
 | qk h0=>exact yhi _
 | rn l n =>
  obtain ⟨c,a,d,e⟩:=h;unfold Slt.see;dsimp only
  split
  .refine ⟨c,a,?_,?_⟩ <;> split <;> omega
  .exact ⟨b0,b1,by decide,by decide⟩
def kdS:Fin 3->Str
 | 0=>"even"
 | 1=>"quick"
 | 2=>"run"
def kd0:Fin 3->Slt
 | 0=>.ev 0 0
 | 1=>.qk 8388608
 | 2=>.rn 1 0
theorem yn3 (k:Fin 3):(kd0 k).ok:=by
 match k with
 | 0=>exact ⟨by decide,by decide,by decide⟩
 | 1=>exact ⟨by decide,by decide⟩
 | 2=>exact ⟨by decide,by decide,by decide,by decide⟩
theorem ywz {b:Int} (b0:0 <= b) (b1:b <= 1):Ý (.int b)=true:=by
 simp only [Ý,cq,decide_eq_true_eq];omega
theorem yet {x:V} (h:Ý x=true):∃ b:Int,x=.int b/\0 <= b/\b <= 1:=by
 cases x with
 | int i =>
  simp only [Ý,cq,decide_eq_true_eq] at h;exact ⟨i,rfl,h.1,h.2⟩
 | _=>cases h
inductive à (C:Addr) (F:List (Str × V)) (vs:List V) (H:Hp) (Q:VK) (E':XK):Prop
 | mk (p dx:Addr):(vs=[.ref p])->(H p=some (.ins C dx []))->(∀ H',H' p=some (.ins C dx F)->But p H H'->Q .non H')->à C F vs H Q E'
inductive xy (o:Addr->Slt->HO) (g:Slt->Prop) (vs:List V) (H:Hp) (Q:VK) (E':XK):Prop
 | mk (p dx:Addr) (s:Slt):(vs=[.ref p])->(g s)->(s.ok)->(H p=some (o dx s))->(Q (.int s.due) H)->xy o g vs H Q E'
inductive zg (K:W.Frag) (o:Addr->Slt->HO) (g:Slt->Prop) (C:Addr) (vs:List V) (H:Hp) (Q:VK) (E:XK):Prop
 | mk (p dx:Addr) (s:Slt) (x:V) (n:String):(vs=[.ref p,x])->(g s)->(s.ok)->(H p=some (o dx s))->(xr K H x (.type n))->((∀ b:Int,x=.int b->0 <= b->b <= 1->∀ H',H' p=some (o dx (s.see b))->But p H H'->Q .non H'))->((Ý x=false->E (.ref C) none H))->zg K o g C vs H Q E
def vaa:Slt->Prop
 | .ev _ _=>True
 | _=>False
def yz9:Slt->Prop
 | .qk _=>True
 | _=>False
def yz8:Slt->Prop
 | .rn _ _=>True
 | _=>False
def ybr (bs:List Int):Prop:=∀ b∈bs,0 <= b/\b <= 1
theorem yck {n:Nat} (h:n <= 16000000):n <= sizeLine:=cn h (by decide)
theorem vq {n:Nat} (h:n <= 16000000):n < sizeLine:=Nat.lt_of_le_of_lt h (by decide)
theorem jo {ns:List Int} {x:V} (h:(ns.map V.int)[i]?=some x):∃ n,x=.int n/\n∈ns/\ns[i]?=some n/\i < ns.length:=by
 rw [bN] at h
 cases e:ns[i]? with
 | none=>rw [e] at h; cases h
 | some n =>
  rw [e] at h
  have a:i < ns.length:=by
   rcases Nat.lt_or_ge i ns.length with q | q
   .exact q
   .rw [cC q] at e; cases e
  exact ⟨n,(bX h).symm,cc e,rfl,a⟩
theorem Ä {l:List Int} {q:Int} (h:l[i]?=some q):l.take (i+1)=l.take i++[q]:=by
 rw [List.take_add_one,h];rfl
theorem yj5 {ys:List Int} (h1:ybr xs) (h2:ybr ys):ybr (xs++ys):=fun b a=>by
 rcases cr.mp a with h | h
 .exact h1 b h
 .exact h2 b h
theorem yg2 (c:Int) (n:Nat):(List.replicate n [V.int c]).flatten=(List.replicate n c).map V.int:=by
 induction n with
 | zero=>rfl
 | succ n ih=>rw [cH,List.flatten_cons,ih,cH]; rfl
def yoj (sg:List Int) (p:Int):Int:=if p <= sg.length then (atI sg (-p)).getD 256 else 256
theorem yq2 {α β:Type} (f:α->β) (xs:List α) (i:Int):atI (xs.map f) i=(atI xs i).map f:=by
 unfold atI;rw [bH]
 cases ixN xs.length i with
 | none=>rfl
 | some j =>
  show (xs.map f)[j]?=(xs[j]?).map f;rw [bN]
theorem yk4 {sg:List Int} {p:Int} (h1:1 <= p) (h2:p <= sg.length):∃ c,atI sg (-p)=some c/\c∈sg:=by
 unfold atI ixN;rw [if_neg (by omega)];by_cases h:-(sg.length:Int) <= -p
 .rw [if_pos (by omega)];have a:((-p+(sg.length:Int)).toNat) < sg.length:=by omega
  exact ⟨_,bJ a,cE a⟩
 .omega
def Slt.kind:Slt->Fin 3
 | .ev _ _=>0
 | .qk _=>1
 | .rn _ _=>2
theorem ykl (s:Slt) (b:Int):(s.see b).kind=s.kind:=by
 cases s with
 | ev n o =>
  unfold Slt.see yc0;dsimp only
  split <;> split <;> rfl
 | qk h=>rfl
 | rn l n =>
  unfold Slt.see;dsimp only
  split <;> rfl
theorem yk5 (k:Fin 3):(kd0 k).kind=k:=by
 match k with
 | 0=>rfl
 | 1=>rfl
 | 2=>rfl
theorem ń (a:Ads) (dx:Addr) (s:Slt):∃ C fs,oS a dx s=.ins C dx fs:=by
 cases s <;> exact ⟨_,_,rfl⟩
theorem yeq {s:Slt} (h:s.ok):32768 <= s.due/\s.due <= 16744448:=by
 cases s with
 | ev n o =>
  obtain ⟨c,b,d⟩:=h;unfold Slt.due;dsimp only;have a:(0:Int) < 2 * (n+o)+2:=by omega
  constructor
  .rw [Int.le_ediv_iff_mul_le a];omega
  .have:(2 * o+1) * 16777216 / (2 * (n+o)+2) < 16744449:=by
    rw [Int.ediv_lt_iff_lt_mul a];omega
   omega
 | qk h0=>exact h
 | rn l n =>
  obtain ⟨c,b,d,e⟩:=h;have a:(0:Int) < 2 * n+2:=by omega
  have g1:8388608 <= Ô n:=by
   unfold Ô;rw [Int.le_ediv_iff_mul_le a];omega
  have g2:Ô n < 16744449:=by
   unfold Ô;rw [Int.ediv_lt_iff_lt_mul a];omega
  unfold Slt.due;dsimp only
  split <;> omega
theorem ygm {dx:Addr} {s:Slt} {ta:TE} {σ:St} {H:Hp} {Q:VK} {E1 E2 E3:XK} (hta:∀ Q':VK,Q' (.ref p) H->ta σ H Q') (hp:H p=some (oS a dx s)) (ok:s.ok) (h:Q (.int s.due) H) :
  ytk (ycy a.Ac "chance" (xy (oS a) vaa) [] E1 ta ytu) (ytk (ycy a.Ab "chance" (xy (oS a) yz9) [] E2 ta ytu) (ycy a.Ag "chance" (xy (oS a) yz8) [] E3 ta ytu)) σ H Q:=by
 cases s with
 | ev n o=>exact yer (ye6 (hta _ ⟨p,dx,_,rfl,hp,ġ,p,dx,.ev n o,rfl,trivial,ok,hp,h⟩))
 | qk h0=>exact ł (yer (ye6 (hta _ ⟨p,dx,_,rfl,hp,ë,p,dx,.qk h0,rfl,trivial,ok,hp,h⟩)))
 | rn l n=>exact ł (ł (ye6 (hta _ ⟨p,dx,_,rfl,hp,Ŝ,p,dx,.rn l n,rfl,trivial,ok,hp,h⟩)))
theorem yp7 {dx:Addr} {s:Slt} {ta:TE} {t:TA} {σ:St} {H:Hp} {Q:VK} {E1 E2 E3:St->XK} {x:V} {n:String} (hta:∀ Q':VK,Q' (.ref p) H->ta σ H Q') (ht:∀ Q':List V->Hp->Prop,Q' [x] H->t σ H Q') (hp:H p=some (oS a dx s)) (ok:s.ok) (ty:xr K H x (.type n))
  (h:∀ b:Int,x=.int b->0 <= b->b <= 1->∀ H',H' p=some (oS a dx (s.see b))->But p H H'->Q .non H') (h1:Ý x=false->E1 σ (.ref a.C3) none H) (h2:Ý x=false->E2 σ (.ref a.C3) none H) (h3:Ý x=false->E3 σ (.ref a.C3) none H) :
  ytk (ybi a.Ac "seen" (zg K (oS a) vaa a.C3) [] E1 ta t) (ytk (ybi a.Ab "seen" (zg K (oS a) yz9 a.C3) [] E2 ta t) (ybi a.Ag "seen" (zg K (oS a) yz8 a.C3) [] E3 ta t)) σ H Q:=by
 cases s with
 | ev n o=>exact yer (ŷ (hta _ ⟨p,dx,_,rfl,hp,yaf,ht _ ⟨p,dx,.ev n o,x,_,rfl,trivial,ok,hp,ty,h,h1⟩⟩))
 | qk h0=>exact ł (yer (ŷ (hta _ ⟨p,dx,_,rfl,hp,ś,ht _ ⟨p,dx,.qk h0,x,_,rfl,trivial,ok,hp,ty,h,h2⟩⟩)))
 | rn l n=>exact ł (ł (ŷ (hta _ ⟨p,dx,_,rfl,hp,ybz,ht _ ⟨p,dx,.rn l n,x,_,rfl,trivial,ok,hp,ty,h,h3⟩⟩)))
theorem yyh {x:Sn} {c b:Int} (h:Ok x):(nar x c b).2.2 <= x.2.2+2:=by
 unfold nar ren;have:=h.z
 (repeat' split) <;> (dsimp only; omega)
abbrev tMx:Nat:=100000
theorem ydz {k:Nat} (h:k <= 6):pw k <= 281474976710656:=Int.le_trans (yif h) (by decide)
theorem yks (xs:List Int) (y:Int):xs.map V.int++[V.int y]=(xs++[y]).map V.int:=by simp
theorem ypx (xs:List Int):(xs.map V.int).reverse=xs.reverse.map V.int:=by simp
def gvv (c b:Int):Int:=if b=1 then c else 16777216 - c
theorem ycw {x:V} (h:chV x=true):∃ c,x=.int c/\32768 <= c/\c <= 16744448:=by
 cases x with
 | int i =>
  simp only [chV,cq,decide_eq_true_eq] at h;exact ⟨i,rfl,h.1,h.2⟩
 | _=>cases h
theorem yee {x:V} (h:Ý x=true):∃ b,x=.int b/\0 <= b/\b <= 1:=by
 cases x with
 | int i =>
  simp only [Ý,cq,decide_eq_true_eq] at h;exact ⟨i,rfl,h.1,h.2⟩
 | _=>cases h
theorem ye7 {c:Int} (h:Ch c):chV (.int c)=true:=by
 obtain ⟨b,a⟩:=h;simp only [chV,cq,decide_eq_true_eq];omega
theorem ycv {b:Int} (h1:0 <= b) (h2:b <= 1):Ý (.int b)=true:=by
 simp only [Ý,cq,decide_eq_true_eq];omega
theorem ŉ {H H':Hp} {v:V} {n:String} (S:yx H H') (t:xr K H v (.type n)):xr K H' v (.type n):=by
 cases t with
 | non=>exact .non
 | bl b=>exact .bl b
 | int i=>exact .int i
 | str x=>exact .str x
 | flt x=>exact .flt x
 | lst e=>exact .lst (S _ _ e)
 | frz e=>exact .frz (S _ _ e)
 | tup e=>exact .tup (S _ _ e)
 | dK e=>exact .dK (S _ _ e)
 | dT e=>exact .dT (S _ _ e)
def sgV:V->Bool
 | .int i=>decide (0 <= i) && decide (i <= 255)
 | _=>false
def ylk (K:W.Frag) (H:Hp) (xs:List V):Prop:=∀ y∈xs,∃ k:String,xr K H y (.type k)
theorem Ł {H:Hp} (ns:List Int):ylk K H (ns.map V.int):=fun y a=>by
 obtain ⟨i,_,rfl⟩:=bM.mp a;exact ⟨_,.int i⟩
def Bad (K:W.Frag) (H:Hp) (x:V) (n:String) (m:Int):Prop:=n≠"list"\/∃ p xs,x=.ref p/\H p=some (.lst xs)/\ylk K H xs/\xs.length <= 100000/\(decide ((xs.length:Int) <= m) && xs.all sgV)=false
def yz2 (K:W.Frag) (H:Hp) (x:V) (xs:List V) (m:Int):Prop:=∃ p,x=.ref p/\H p=some (.lst xs)/\ylk K H xs/\xs.length <= 100000/\(decide ((xs.length:Int) <= m) && xs.all sgV)=true
theorem yox {H:Hp} {x:V} {n:String} (ty:xr K H x (.type n)):W.kitOne K (.type n) (.type "list")=some (decide (n="list")):=by
 cases ty <;> rfl
theorem ykh {n:Nat} (h:n <= 100000):n < sizeLine:=Nat.lt_of_le_of_lt h (by decide)
theorem ykx {xs:List V} (n:Nat):yc4 xs (some (n:Int)) none=xs.drop n:=by
 unfold yc4;rw [HT.sIx_nat,HT.sIx_none];by_cases h:n <= xs.length
 .rw [Nat.min_eq_left h,cL (by rw [c7]; exact bL _)]
 .rw [Nat.min_eq_right (by omega),Nat.sub_self,List.take_zero,List.drop_of_length_le (by omega)]
theorem yhs {ns:List Int} (h:∀ i∈ns,0 <= i/\i <= 255):(ns.map V.int).all sgV=true:=by
 rw [List.all_map,List.all_eq_true];intro i a;obtain ⟨c,b⟩:=h i a;simp [sgV,c,b]
inductive È (K:W.Frag) (C:Addr) (m:Int) (vs:List V) (H:Hp) (Q:VK) (E:XK):Prop
 | mk (x n:_):(vs=[x])->(xr K H x (.type n))->(((Bad K H x n m/\∀ H',yx H H'->E (.ref C) none H')\/∃ xs,yz2 K H x xs m/\∀ r H',H r=none->H' r=some (.lst xs)->yx H H'->Q (.ref r) H'))->È K C m vs H Q E
def yjs (p q:Addr) (H H':Hp):Prop:=∀ b o,H b=some o->b≠p->b≠q->H' b=some o
theorem But.two {H H':Hp} (h:But p H H'):yjs p q H H':=fun b o e n _=>h b o e n
theorem But.two' {H H':Hp} (h:But q H H'):yjs p q H H':=fun b o e _ n=>h b o e n
theorem yjs.trans {H H1 H2:Hp} (x:yjs p q H H1) (y:yjs p q H1 H2):yjs p q H H2:=fun b o h n m=>y b o (x b o h n m) n m
structure yf8 (a:Ads) (H:Hp) (p dx pd ps ds:Addr) (d:List Int) (x:Sn):Prop where
 me:H p=some (.ins a.Af dx (yjr (.ref pd) (.ref ps) (.int (rn d (sz x))) (.int x.2.2)))
 dt:H pd=some (.lst (d.map V.int))
 sp:H ps=some (.ins a.A5 ds (z6 x))
 ne:p≠ps
theorem yf8.same {H H':Hp} {dx pd ps:Addr} {d:List Int} {x:Sn} (h:yf8 a H p dx pd ps ds d x) (S:yx H H'):yf8 a H' p dx pd ps ds d x:=⟨S _ _ h.me,S _ _ h.dt,S _ _ h.sp,h.ne⟩
section
variable {H H':Hp} {dx pd ps:Addr} {d:List Int} {x:Sn}
theorem yf8.lst (h:yf8 a H p dx pd ps ds d x) (B:yjs p ps H H') {l:Addr} {xs:List V} (e:H l=some (.lst xs)):H' l=some (.lst xs):=B _ _ e (xb e h.me (by intro z; cases z)) (xb e h.sp (by intro z; cases z))
theorem yf8.tup (h:yf8 a H p dx pd ps ds d x) (B:yjs p ps H H') {l:Addr} {xs:List V} (e:H l=some (.tup xs)):H' l=some (.tup xs):=B _ _ e (xb e h.me (by intro z; cases z)) (xb e h.sp (by intro z; cases z))
end
theorem yk9 {H:Hp} {d:List Int} (h:H p=some (.lst (d.map V.int))) (hb:Byt d) (hz:d.length <= 12000):yz2 K H (.ref p) (d.map V.int) 12000 :=
 ⟨p,rfl,h,Ł d,by rw [bH]; omega,by rw [yhs hb,bH,bR (by omega)]; rfl⟩
def Sgs (ns:List Int):Prop:=∀ i∈ns,0 <= i/\i <= 255
def wth:List Int:=[128,64,32,16,8,4,2,1]
def b8 (s:Int):List Int:=wth.map (fun w=>s / w % 2)
def dec:List Int->List Int
 | []=>[0]
 | s :: r=>(1 :: b8 s)++dec r
def nds:Int->List Int->List Int
 | _,[]=>[]
 | n,b :: r=>n :: nds (2 * n+b) r
def nod:List Int->List Int
 | []=>[0]
 | s :: r=>(0 :: nds 1 (b8 s))++nod r
def ybs:List Int->List Int
 | []=>[]
 | s :: r=>(1 :: b8 s)++ybs r
theorem ylo:∀ ns,dec ns=ybs ns++[0]
 | []=>rfl
 | s :: r=>by simp [dec,ybs,ylo r]
theorem yap (s:Int):∀ ns,ybs (ns++[s])=ybs ns++(1 :: b8 s)
 | []=>by simp [ybs]
 | t :: r=>by simp [ybs,yap s r]
theorem yne (s:Int):(b8 s).length=8:=rfl
theorem je:∀ ns:List Int,(ybs ns).length=9 * ns.length
 | []=>rfl
 | s :: r=>by
  show ((1 :: b8 s)++ybs r).length=9 * (r.length+1);rw [bP,je r];show 9+_=_;omega
theorem yp6 (s:Int):ybr (b8 s):=fun b a=>by
 obtain ⟨w,_,rfl⟩:=bM.mp a;have c:0 <= s / w % 2:=cO _ (by decide);have d:s / w % 2 < 2:=cF _ (by decide);exact ⟨c,by omega⟩
theorem z7:∀ ns,ybr (dec ns)
 | []=>fun b a=>by rw [bZ.mp a]; decide
 | s :: r=>by
  refine yj5 (fun b a=>?_) (z7 r);rcases bW.mp a with rfl | a
  .decide
  .exact yp6 s b a
theorem vaj {s:Int} (h0:0 <= s) (h1:s <= 255):128 * (s / 128 % 2)+(64 * (s / 64 % 2)+(32 * (s / 32 % 2)+(16 * (s / 16 % 2)+(8 * (s / 8 % 2)+(4 * (s / 4 % 2)+(2 * (s / 2 % 2)+(1 * (s / 1 % 2)+0)))))))=s:=by
 have h:∀ n:Nat,n < 256->128 * ((n:Int) / 128 % 2)+(64 * ((n:Int) / 64 % 2)+(32 * ((n:Int) / 32 % 2)+(16 * ((n:Int) / 16 % 2)+(8 * ((n:Int) / 8 % 2)+(4 * ((n:Int) / 4 % 2)+(2 * ((n:Int) / 2 % 2)+(1 * ((n:Int) / 1 % 2)+0)))))))=(n:Int):=by right
 obtain ⟨n,rfl⟩:=Int.eq_ofNat_of_zero_le h0;exact h n (by omega)
def wV (s:Int):V->V
 | .int w=>.int (s / w % 2)
 | _=>.non
theorem Þ {H:Hp} {d:List Int} (h:H p=some (.lst (d.map V.int))) (hb:Sgs d) (hz:d.length <= 1000):yz2 K H (.ref p) (d.map V.int) 1000 :=
 ⟨p,rfl,h,Ł d,by rw [bH]; omega,by rw [yhs hb,bH,bR (by omega)]; rfl⟩
theorem ykq (xs ys:List Int):xs.map V.int++ys.map V.int=(xs++ys).map V.int:=by simp
theorem x3 (ns:List Int):(dec ns).length=9 * ns.length+1:=by rw [ylo,bP,je]; rfl
def Ž (f:List Int->Option Slt) (k:List Int) (s:Slt):List Int->Option Slt:=fun j=>if j=k then some s else f j
def yz1:HO->Bool
 | .ins _ _ _=>true
 | .dT _=>true
 | _=>false
def kI (k:List Int):List Key:=k.map Sum.inl
theorem yxc (k:List Int):(kI k).map kV=k.map V.int:=by
 unfold kI;rw [cu];rfl
theorem yms {j k:List Int} (h:kI j=kI k):j=k:=by
 unfold kI at h
 induction j generalizing k with
 | nil =>
  cases k with
  | nil=>rfl
  | cons _ _=>cases h
 | cons x r ih =>
  cases k with
  | nil=>cases h
  | cons y s =>
   injection h with h1 h2;injection h1 with h1;rw [h1,ih h2]
def ytt (H:Hp) (d:Addr):Prop:=∀ kvs,H d=some (.dT kvs)->(kvs.map (·.1)).Nodup/\∀ q∈kvs,∃ k,q.1=kI k
theorem ytt.mv {H H':Hp} {d:Addr} {kvs:List (List Key × V)} (h:ytt H d) (h1:H d=some (.dT kvs)) (h2:H' d=some (.dT kvs)):ytt H' d:=fun a e=>by
 rw [h2] at e;cases e;exact h kvs h1
theorem yk6 {kvs:List (List Key × V)} {k:List Key} (h:zb kvs k=none):k∉kvs.map (·.1):=fun m=>by
 obtain ⟨p,b,e⟩:=bM.mp m;have a:=jc k kvs;rw [h] at a;exact List.any_eq_false.mp a p b (bR e)
theorem ytt.snoc {H':Hp} {d:Addr} {kvs:List (List Key × V)} {k:List Int} {v:V} (h:(kvs.map (·.1)).Nodup/\∀ q∈kvs,∃ k,q.1=kI k) (hn:zb kvs (kI k)=none) (h2:H' d=some (.dT (ż kvs (kI k) v))):ytt H' d:=fun a e=>by
 rw [h2,â _ hn] at e;cases e;rw [cj];refine ⟨List.nodup_append.mpr ⟨h.1,da.mpr ⟨List.not_mem_nil,List.nodup_nil⟩,fun x b y c z=>?_⟩,fun q f=>?_⟩
 .rw [z,bZ.mp c] at b;exact yk6 hn b
 .rcases cr.mp f with w | w
  .exact h.2 q w
  .rw [bZ.mp w];exact ⟨k,rfl⟩
structure Û (a:Ads) (H:Hp) (p dx lk d:Addr) (kd:Fin 3) (f:List Int->Option Slt) (O:Addr->Prop) (m:Nat):Prop where
 me:H p=some (.ins a.Ad dx (yeu (.ref lk) (.ref d)))
 own:∀ b,O b->∃ o,H b=some o/\yz1 o=true
 np:¬ O p
 dO:O d
 ky:ytt H d
 tb:∃ (kvs:List (List Key × V)) (loc:List Int->Addr × Addr),H d=some (.dT kvs)/\kvs.length <= m/\(∀ k,f k=none->zb kvs (kI k)=none) /\
  (∀ k s,f k=some s->zb kvs (kI k)=some (.ref (loc k).1)/\H (loc k).1=some (oS a (loc k).2 s)/\s.ok/\s.kind=kd/\O (loc k).1)/\(∀ k j s t,f k=some s->f j=some t->(loc k).1=(loc j).1->k=j)
def ylt (O:Addr->Prop) (H H':Hp):Prop:=∀ b o,H b=some o->¬ O b->H' b=some o
section
variable {H H':Hp} {dx lk d:Addr} {kd:Fin 3} {f:List Int->Option Slt} {O:Addr->Prop} {m:Nat}
theorem Û.frame (h:Û a H p dx lk d kd f O m) {O2:Addr->Prop} (B:ylt O2 H H') (dj:∀ b,O b->¬ O2 b) (hp:¬ O2 p):Û a H' p dx lk d kd f O m:=by
 obtain ⟨c,g,e,l,u,r,w⟩:=h.tb;refine ⟨B _ _ h.me hp,fun b i=>?_,h.np,h.dO,h.ky.mv e (B _ _ e (dj _ h.dO)),c,g,B _ _ e (dj _ h.dO),l,u,fun k s t=>?_,w⟩
 .obtain ⟨o,q,x⟩:=h.own b i;exact ⟨o,B _ _ q (dj b i),x⟩
 .obtain ⟨v,n,y,z,j⟩:=r k s t;exact ⟨v,B _ _ n (dj _ j),y,z,j⟩
theorem Û.same (h:Û a H p dx lk d kd f O m) (S:yx H H'):Û a H' p dx lk d kd f O m:=h.frame (O2:=fun _=>False) (fun b o e _=>S b o e) (fun _ _ z=>z) (fun z=>z)
end
open MixI
structure yjt (a:Ads) (p dx l:Addr) (ws:List Int) (H:Hp):Prop where
 o:H p=some (.ins a.C6 dx (yzy (.ref l)))
 l:H l=some (.lst (ws.map V.int))
theorem yjt.same {dx l:Addr} {ws:List Int} {H H':Hp} (m:yjt a p dx l ws H) (S:yx H H'):yjt a p dx l ws H':=⟨S _ _ m.o,S _ _ m.l⟩
theorem yt6 {k:Nat} {cs:List Int} (h:COk k cs) {c:Int} (hm:c∈cs):Ch c:=⟨h.lo c hm,h.hi c hm⟩
theorem yly {g:Int->Int->Int} {ws cs:List Int} (h:cs.length=ws.length):(List.range (ws.map V.int).length).map (fun i=>V.int (g ((ws[i]?).getD 0) ((cs[i]?).getD 0)))=(List.zipWith g ws cs).map V.int:=by
 rw [bH,<- yg1 h,cu];rfl
theorem ydl {H:Hp} {xs ys:List V} (h:H D=some (.lst xs)) (e:xs=ys):H D=some (.lst ys):=e ▸ h
inductive ybc (K:W.Frag) (a:Ads) (vs:List V) (H:Hp) (Q:VK) (E':XK):Prop
 | mk (p dx l c:Addr) (ws cs:List Int) (k:Nat):(vs=[.ref p,.ref c])->(1 <= k)->(k <= 6)->(WOk k ws)->(COk k cs)->(yjt a p dx l ws H)->(SqL K H c (cs.map V.int))->(∀ H',yx H H'->Q (.int (yol ws cs)) H')->ybc K a vs H Q E'
inductive yat (K:W.Frag) (a:Ads) (C:Addr) (vs:List V) (H:Hp) (Q:VK) (E:XK):Prop
 | mk (p dx l c:Addr) (ws cs:List Int) (k:Nat) (x:V) (n:String):(vs=[.ref p,.ref c,x])->(1 <= k)->(k <= 6)->(WOk k ws)->(COk k cs)->(yjt a p dx l ws H)->(SqL K H c (cs.map V.int))->(xr K H x (.type n))->((∀ b:Int,x=.int b->0 <= b->b <= 1->∀ l' H',H l'=none->yjt a p dx l' (lrn ws cs b) H'->But p H H'->Q .non H'))->((Ý x=false->E (.ref C) none H))->yat K a C vs H Q E
inductive ybx (a:Ads) (vs:List V) (H:Hp) (Q:VK) (E':XK):Prop
 | mk (p dx l:Addr) (ws:List Int):(vs=[.ref p])->(yjt a p dx l ws H)->(∀ r H',H r=none->H' r=some (.lst (ws.map V.int))->yx H H'->Q (.ref r) H')->ybx a vs H Q E'
inductive ydx (a:Ads) (vs:List V) (H:Hp) (Q:VK) (E':XK):Prop
 | mk (p dx:Addr) (k:Nat):(vs=[.ref p,.int k])->(1 <= k)->(k <= 6)->(H p=some (.ins a.C6 dx []))->(∀ l H',H l=none->yjt a p dx l (List.replicate k 1099511627776) H'->But p H H'->Q .non H')->ydx a vs H Q E'
def yjj:V->Bool
 | .str s=>inV (.str s) [V.str "even",V.str "quick",V.str "run"]
 | _=>false
def plV:V->Bool
 | .int i=>decide (1 <= i) && decide (i <= 8)
 | _=>false
def ltV:V->V->Bool
 | .int i,.int j=>decide (i < j)
 | _,_=>false
def vby (xs:List V):Bool:=(List.zipWith ltV xs xs.tail).all id
def zx (xs:List V):Bool:=decide (xs.length <= 4) && xs.all plV && vby xs
def PlB (K:W.Frag) (H:Hp) (x:V) (b:Bool):Prop:=(∃ n,xr K H x (.type n)/\n≠"tuple"/\b=false)\/∃ t xs,x=.ref t/\H t=some (.tup xs)/\xs.length <= 1000/\(∀ y∈xs,∃ n:String,xr K H y (.type n))/\b=zx xs
def LkB (K:W.Frag) (H:Hp) (x:V) (b:Bool):Prop:=(∃ n,xr K H x (.type n)/\n≠"tuple"/\b=false) \/
 ∃ t xs,x=.ref t/\H t=some (.tup xs)/\((xs.length≠2/\b=false)\/∃ y z n,xs=[y,z]/\xr K H y (.type n)/\((yjj y=false/\b=false)\/(yjj y=true/\PlB K H z b)))
theorem PlB.same {H H':Hp} {x:V} {b:Bool} (h:PlB K H x b) (S:yx H H'):PlB K H' x b:=by
 rcases h with ⟨n,t,d,e⟩ | ⟨t,f,e,i,j,c,a⟩
 .exact .inl ⟨n,ŉ S t,d,e⟩
 .exact .inr ⟨t,f,e,S _ _ i,j,fun y g=>let ⟨n,z⟩:=c y g; ⟨n,ŉ S z⟩,a⟩
theorem LkB.same {H H':Hp} {x:V} {b:Bool} (h:LkB K H x b) (S:yx H H'):LkB K H' x b:=by
 rcases h with ⟨n,t,d,e⟩ | ⟨t,g,e,i,h⟩
 .exact .inl ⟨n,ŉ S t,d,e⟩
 .refine .inr ⟨t,g,e,S _ _ i,?_⟩;rcases h with h | ⟨y,z,n,f,c,h⟩
  .exact .inl h
  .refine .inr ⟨y,z,n,f,ŉ S c,?_⟩;rcases h with h | ⟨j,a⟩
   .exact .inl h
   .exact .inr ⟨j,a.same S⟩
theorem ß {H:Hp} {x:V} {n:String} (ty:xr K H x (.type n)):W.kitOne K (.type n) (.type "tuple")=some (decide (n="tuple")):=by cases ty <;> rfl
theorem yc8 {H:Hp} {x:V} {n:String} (ty:xr K H x (.type n)):W.kitOne K (.type n) (.type "str")=some (decide (n="str")):=by cases ty <;> rfl
theorem yec {H:Hp} {x:V} {n:String} (ty:xr K H x (.type n)):W.kitOne K (.type n) (.type "list")=some (decide (n="list")):=by cases ty <;> rfl
theorem yqf {xs:List V} {y:V} (h:xs.tail[i]?=some y):xs[i+1]?=some y:=by
 cases xs with
 | nil=>simp at h
 | cons x r=>simpa using h
theorem ygc (xs:List V):(List.range xs.tail.length).map (fun i=>V.bl (ltV ((xs[i]?).getD .non) ((xs.tail[i]?).getD .non)))=(List.zipWith ltV xs xs.tail).map V.bl:=by
 apply List.ext_getElem
 .rw [bH,cm,bH,List.length_zipWith,List.length_tail]; omega
 .intro i a c;rw [bH,cm] at a;have b:i < xs.length:=by rw [List.length_tail] at a; omega
  rw [dg,List.getElem_range,dg,List.getElem_zipWith,bJ a,bJ b];rfl
theorem yij {t u:Addr} {xs:List V} {te:TE} {fr:St} {R:Hp->Prop} {H1:Hp} (hint:∀ y∈xs,∃ i:Int,y=.int i) (hl:xs.length <= 1000) (ht:SqT K H1 t xs) (hu:SqT K H1 u xs.tail) (hD:H1 D=none)
  (hte:∀ (i j:Int) (σ':St) (H':Hp) (Q':VK),Q' (.bl (decide (i < j))) H'->te (some (.int i) :: some (.int j) :: σ') H' Q') (hR:∀ H,yx H1 H->H D=some (.lst ((List.zipWith ltV xs xs.tail).map V.bl))->R H) :
  j6 (yzz K t u) (ytz K 2 (jh (xk 0) (jh (xk 1) ylu))) te 2 fr D R H1:=by
 refine ybv (m:=xs.tail.length) (fun i=>V.bl (ltV ((xs[i]?).getD .non) ((xs.tail[i]?).getD .non))) ht hu (by rw [List.length_tail]; omega) (bL _) (.inr (bL _)) hD (fun i x y h l s w q n k a e b=>?_) (fun h k a=>?_)
 .obtain ⟨z,v,rfl⟩:=yiu b;obtain ⟨c,rfl⟩:=hint x (cc q);obtain ⟨d,rfl⟩:=hint y (cc (yqf n));have p:=k.trans (ve (o:=HO.tup [V.int c,V.int d]) e);have g:=zy (o':=HO.tup [V.int c,V.int d]) e a;have f:upd h l (HO.tup [V.int c,V.int d]) l=some (.tup [V.int c,V.int d]):=yc;generalize upd h l (HO.tup [V.int c,V.int d])=r at p g f;refine yiz (SqT.of f) rfl ?_;show jh (xk 0) (jh (xk 1) ylu) [V.int c,V.int d] (z :: v :: fr) r _;rfl';refine ⟨⟨[some (.int c),some (.int d)],rfl,rfl⟩,?_⟩;refine hte c d fr r _ ?_;refine Mp.doneR hD (vq (by rw [List.length_tail]; omega)) w p g ?_;rw [q,n];rfl
 .exact hR h k (by rw [<- ygc]; exact a)
theorem yqz (xs:List V):yc4 xs (some 1) none=xs.tail:=by
 unfold yc4
 have e:HT.sIx xs.length 0 (some 1)=min 1 xs.length:=by
  have:=HT.sIx_nat xs.length 0 1;simpa using this
 rw [HT.sIx_none,e]
 cases xs with
 | nil=>rfl
 | cons x r=>simp
theorem ykg {n:Nat} (bs:List Bool) (h:n=bs.length):(List.range n).map (fun i=>V.bl ((bs[i]?).getD false))=bs.map V.bl:=by
 subst h;apply List.ext_getElem
 .rw [bH,cm,bH]
 .intro i a b;rw [bH,cm] at a;rw [dg,List.getElem_range,dg,bJ a];rfl
def vcc (K:W.Frag) (H:Hp) (xs:List V) (bs:List Bool):Prop:=xs.length=bs.length/\∀ (i:Nat) (y:V) (b:Bool),xs[i]?=some y->bs[i]?=some b->LkB K H y b
def LkG (H:Hp) (v:V) (kd:Fin 3) (tp:Addr) (ps:List Int):Prop:=∃ lk,v=.ref lk/\H lk=some (.tup [.str (kdS kd),.ref tp])/\H tp=some (.tup (ps.map V.int))/\zx (ps.map V.int)=true
theorem LkG.same {H H':Hp} {v:V} {kd:Fin 3} {tp:Addr} {ps:List Int} (h:LkG H v kd tp ps) (S:yx H H'):LkG H' v kd tp ps:=by
 obtain ⟨a,e,d,b,c⟩:=h;exact ⟨a,e,S _ _ d,S _ _ b,c⟩
theorem yow (kd:Fin 3):yjj (.str (kdS kd))=true:=by
 match kd with
 | 0=>rfl
 | 1=>rfl
 | 2=>rfl
theorem yff {xs:List V} (h:zx xs=true):xs.length <= 4:=by
 unfold zx at h;rw [cq,cq] at h;exact of_decide_eq_true h.1.1
theorem LkG.tells {H:Hp} {v:V} {kd:Fin 3} {tp:Addr} {ps:List Int} (h:LkG H v kd tp ps):LkB K H v true:=by
 obtain ⟨d,e,f,b,a⟩:=h;have:=yff a;refine .inr ⟨d,_,e,f,.inr ⟨_,_,"str",rfl,.str _,.inr ⟨yow kd,.inr ⟨tp,_,rfl,b,by omega,fun y c=>?_,a.symm⟩⟩⟩⟩;obtain ⟨i,_,rfl⟩:=bM.mp c;exact ⟨_,.int i⟩
theorem ynb:∀ {ps:List Int},ps.Pairwise (· < ·)->vby (ps.map V.int)=true
 | [],_=>rfl
 | [_],_=>rfl
 | p :: q :: r,h=>by
  have b:p < q:=(List.pairwise_cons.mp h).1 q (by simp);have a:=ynb (List.pairwise_cons.mp h).2;unfold vby at a ⊢;simp only [cA,List.tail_cons,List.zipWith_cons_cons,List.all_cons] at a ⊢;rw [show ltV (V.int p) (V.int q)=true from bR b];simpa using a
theorem ygb {ps:List Int} (h1:ps.length <= 4) (h2:∀ p∈ps,1 <= p/\p <= 8) (h3:ps.Pairwise (· < ·)):zx (ps.map V.int)=true:=by
 unfold zx;rw [bH,bR h1,ynb h3,Bool.true_and,Bool.and_true,List.all_eq_true];intro y b;obtain ⟨i,a,rfl⟩:=bM.mp b;have:=h2 i a;show (decide (1 <= i) && decide (i <= 8))=true;rw [bR this.1,bR this.2];rfl
def Lks (H:Hp) (xs:List V):Prop:=∀ y∈xs,∃ kd tp ps,LkG H y kd tp ps
theorem Lks.bs {H:Hp} {xs:List V} (h:Lks H xs):vcc K H xs (List.replicate xs.length true):=by
 refine ⟨by rw [List.length_replicate],fun i y b d a=>?_⟩;have c:b=true:=List.eq_of_mem_replicate (cc a);obtain ⟨e,f,g,z⟩:=h y (cc d);rw [c];exact z.tells
theorem yid (n:Nat):(List.replicate n true).all id=true:=by simp
def vde (K:W.Frag) (H:Hp) (x:V):Prop:=(∃ n,xr K H x (.type n)/\n≠"list")\/∃ l xs bs,x=.ref l/\H l=some (.lst xs)/\xs.length <= 1000/\vcc K H xs bs/\¬ (1 <= xs.length/\xs.length <= 6/\bs.all id=true)
theorem LkG.upd {H:Hp} {v:V} {kd:Fin 3} {tp l:Addr} {ps:List Int} {xs ys:List V} (h:LkG H v kd tp ps) (hl:H l=some (.lst xs)):LkG (L2.upd H l (.lst ys)) v kd tp ps:=by
 obtain ⟨c,e,b,a,d⟩:=h;exact ⟨c,e,yj (xb b hl (by intro z; cases z)) b,yj (xb a hl (by intro z; cases z)) a,d⟩
def upN {α:Type} (g:Nat->α) (n:Nat) (x:α):Nat->α:=fun j=>if j=n then x else g j
theorem xj {α:Type} {g:Nat->α} {n:Nat} {x:α}:upN g n x n=x:=if_pos rfl
theorem xg {α:Type} {g:Nat->α} {n:Nat} {x:α} (h:j < n):upN g n x j=g j:=if_neg (by omega)
theorem yq0 (c:Int):∃ kk:Fin 3,atI [V.str "even",V.str "quick",V.str "run"] (c % 3)=some (V.str (kdS kk)):=by
 have b:0 <= c % 3:=cO _ (by decide);have a:c % 3 < 3:=cF _ (by decide);generalize c % 3=z at b a;obtain rfl | rfl | rfl:z=0\/z=1\/z=2:=by omega
 .exact ⟨0,rfl⟩
 .exact ⟨1,rfl⟩
 .exact ⟨2,rfl⟩
def ue (H:Hp) (n:Nat) (lk:Nat->Addr) (kd:Nat->Fin 3) (tp:Nat->Addr) (ps:Nat->List Int):Prop:=∀ i,i < n->LkG H (.ref (lk i)) (kd i) (tp i) (ps i)
theorem ue.same {H H':Hp} {n:Nat} {lk:Nat->Addr} {kd:Nat->Fin 3} {ps:Nat->List Int} (h:ue H n lk kd tp ps) (S:yx H H'):ue H' n lk kd tp ps:=fun i a=>(h i a).same S
structure Sd (K:W.Frag) (H:Hp) (v:V) (d:PyData) (k:Nat):Prop where
 rd:RdV K H v d
 lay:d.canLay0=true
 dep:d.depth <= k
 eq:PyData.eqv d d=true
structure Sds (K:W.Frag) (H:Hp) (xs:List V) (ds:List PyData) (k:Nat):Prop where
 rd:yf6 K H xs ds
 lay:PyData.canLayAll0 ds=true
 dep:PyData.depthAll ds <= k
 eq:PyData.eqvAll ds ds=true
theorem Sds.nil {H:Hp} {k:Nat}:Sds K H [] [] k:=⟨.nil,rfl,cb _,by simp [PyData.eqvAll]⟩
theorem Sds.cons {H:Hp} {v:V} {d:PyData} {xs:List V} {ds:List PyData} {k:Nat} (h:Sd K H v d k) (r:Sds K H xs ds k):Sds K H (v :: xs) (d :: ds) k:=by
 refine ⟨.cons h.rd r.rd,by simp [PyData.canLayAll0,h.lay,r.lay],?_,by simp [PyData.eqvAll,h.eq,r.eq]⟩;have b:=h.dep;have a:=r.dep;simp only [PyData.depthAll];omega
theorem Sds.ints {H:Hp} (ns:List Int) {k:Nat}:Sds K H (ns.map V.int) (ns.map PyData.int) k:=⟨η ns,ju ns,by rw [Ê]; exact cb _,by rw [jv,bR rfl]⟩
theorem Sd.lst {H:Hp} {xs:List V} {ds:List PyData} {k:Nat} (h:SqL K H p xs) (r:Sds K H xs ds k):Sd K H (.ref p) (.list ds) (k+1):=by
 refine ⟨.lst h r.rd,by simp [PyData.canLay0,r.lay],?_,by simp [PyData.eqv,r.eq]⟩;have a:=r.dep;simp only [PyData.depth];omega
theorem Sd.tup {H:Hp} {xs:List V} {ds:List PyData} {k:Nat} (h:SqT K H p xs) (r:Sds K H xs ds k):Sd K H (.ref p) (.tuple ds) (k+1):=by
 refine ⟨.tup h r.rd,by simp [PyData.canLay0,r.lay],?_,by simp [PyData.eqv,r.eq]⟩;have a:=r.dep;simp only [PyData.depth];omega
theorem yjl {g:Bool->Bool} {H:Hp} {Q:VK} {x y:V} {d:PyData} {k:Nat} (h1:Sd K H x d k) (h2:Sd K H y d k) (hk:k <= 60) (h:Q (.bl (g true)) H):yz0 K g x y H Q:=by
 have a:SeqAt.shaped d=true:=by
  unfold SeqAt.shaped;rw [cq];exact ⟨h1.lay,bR (by have:=h1.dep; omega)⟩
 exact ⟨d,d,h1.rd,h2.rd,a,a,by rw [h1.eq]; exact h⟩
theorem va6:yk ["thing"] ["thing"] (yg vb2):=wv (by right)
inductive ñ (K:W.Frag) (vs:List V) (H:Hp) (Q:VK) (E':XK):Prop
 | mk (x n:_):(vs=[x])->(xr K H x (.type n))->(Q (.bl (jp x)) H)->ñ K vs H Q E'
theorem yjm (T:Txt K mg a):wb P w K mg base CX0 1 a.Pf a.Pg ["thing"] (ñ K):=by
 exists T.Cq.F.ok,va6,g;obtain ⟨x,n,rfl,b,k⟩:=h;refine ⟨_,(yf (yu (ua (yq wq rfl T.A6 (by right) (yb (pv 0) (yb (zr (T:="int") rfl T.Ou (by right)) ye (ya rfl)) (ya rfl))) (z5 (yyf (yq wq rfl T.A6 (by right) (yb (pv 0) (yb (zr (T:="bool") rfl T.Iy (by right)) ye (ya rfl)) (ya rfl)))))))),?_⟩;exists 1,0;rfl';refine Ú b (yot b) ?_;rfl'
 cases hx:yl0 x with
 | false =>
  have e:jp x=false:=by
   cases x <;> first | rfl | cases hx
  rw [e] at k;exact Ę k
 | true =>
  have e:jp x=!yh0 x:=by
   cases x <;> first | rfl | cases hx
  rw [e] at k;refine ħ ?_;rfl';refine Ú b (yj7 b) ?_;rfl';exact k
theorem vad:yk ["thing"] ["thing"] (yg vca):=wv (by right)
inductive ya5 (K:W.Frag) (vs:List V) (H:Hp) (Q:VK) (E':XK):Prop
 | mk (x n:_):(vs=[x])->(xr K H x (.type n))->(Q (.bl (Ý x)) H)->ya5 K vs H Q E'
theorem va3 (T:Txt K mg a):wb P w K mg base CX0 2 a.Ph a.Pi ["thing"] (ya5 K):=by
 exists T.O6.F.ok,vad,j;obtain ⟨x,n,rfl,g,k⟩:=h;refine ⟨_,(yf (yu (ua (y8 (yjm T) (j.mono (by decide)) rfl T.Cq.m T.Cq.F.kp T.Cq.B .nil vg (yb (pv 0) ye (ya rfl))) (z5 (ο zk zk yi (pv 0) yi))))),?_⟩;exists 1,0;rfl';refine ⟨x,n,rfl,g,?_⟩;rfl'
 cases hx:jp x with
 | false =>
  have e:Ý x=false:=by
   cases x <;> first | rfl | cases hx
  rw [e] at k;exact Ę k
 | true =>
  obtain ⟨i,rfl⟩:=uu hx;refine ħ ?_;rfl';refine za (fun b=>?_) (fun b=>?_)
  .rfl';have e:Ý (.int i)=decide (i <= 1):=by simp [Ý,b]
   rw [e] at k;exact k
  .have e:Ý (.int i)=false:=by simp [Ý,b]
   rw [e] at k;exact k
theorem va5:yk ["thing"] ["thing"] (yg vbz):=wv (by right)
inductive Ñ (K:W.Frag) (vs:List V) (H:Hp) (Q:VK) (E':XK):Prop
 | mk (x n:_):(vs=[x])->(xr K H x (.type n))->(Q (.bl (chV x)) H)->Ñ K vs H Q E'
theorem vai (T:Txt K mg a):wb P w K mg base CX0 2 a.Pj a.Pk ["thing"] (Ñ K):=by
 exists T.O7.F.ok,va5,j;obtain ⟨x,n,rfl,g,k⟩:=h;refine ⟨_,(yf (yu (ua (y8 (yjm T) (j.mono (by decide)) rfl T.Cq.m T.Cq.F.kp T.Cq.B .nil vg (yb (pv 0) ye (ya rfl))) (z5 (ο zk zk (vt rfl T.E7) (pv 0) (yr u6 (vt rfl T.Dk) (vt rfl T.E7))))))),?_⟩;exists 1,0;rfl';refine ⟨x,n,rfl,g,?_⟩;rfl'
 cases hx:jp x with
 | false =>
  have e:chV x=false:=by
   cases x <;> first | rfl | cases hx
  rw [e] at k;exact Ę k
 | true =>
  obtain ⟨i,rfl⟩:=uu hx;refine ħ ?_;rfl';refine za (fun b=>?_) (fun b=>?_)
  .rfl';have e:chV (.int i)=decide (i <= 16777216 - 32768):=by simp [chV,b]
   rw [e] at k;exact k
  .have e:chV (.int i)=false:=by simp [chV,b]
   rw [e] at k;exact k
theorem vap:yk ["thing"] ["thing"] (yg vb1):=wv (by right)
inductive Ĩ (K:W.Frag) (vs:List V) (H:Hp) (Q:VK) (E':XK):Prop
 | mk (x n:_):(vs=[x])->(xr K H x (.type n))->(Q (.bl (sgV x)) H)->Ĩ K vs H Q E'
theorem vba (T:Txt K mg a):wb P w K mg base CX0 2 a.Pl a.Pm ["thing"] (Ĩ K):=by
 exists T.O8.F.ok,vap,j;obtain ⟨x,n,rfl,g,k⟩:=h;refine ⟨_,(yf (yu (ua (y8 (yjm T) (j.mono (by decide)) rfl T.Cq.m T.Cq.F.kp T.Cq.B .nil vg (yb (pv 0) ye (ya rfl))) (z5 (ο zk zk yi (pv 0) yi))))),?_⟩;exists 1,0;rfl';refine ⟨x,n,rfl,g,?_⟩;rfl'
 cases hx:jp x with
 | false =>
  have e:sgV x=false:=by
   cases x <;> first | rfl | cases hx
  rw [e] at k;exact Ę k
 | true =>
  obtain ⟨i,rfl⟩:=uu hx;refine ħ ?_;rfl';refine za (fun b=>?_) (fun b=>?_)
  .rfl';have e:sgV (.int i)=decide (i <= 255):=by simp [sgV,b]
   rw [e] at k;exact k
  .have e:sgV (.int i)=false:=by simp [sgV,b]
   rw [e] at k;exact k
theorem vas:yk ["thing","most"] ["thing","most"] (yg vb8):=wv (by right)
inductive ynz (K:W.Frag) (vs:List V) (H:Hp) (Q:VK) (E':XK):Prop
 | mk (x n m:_):(vs=[x,.int m])->(xr K H x (.type n))->(((Bad K H x n m/\∀ H',yx H H'->Q (.bl false) H')\/∃ xs,yz2 K H x xs m/\∀ H',yx H H'->Q (.bl true) H'))->ynz K vs H Q E'
theorem yzd (T:Txt K mg a):wb P w K mg base CX0 3 a.Pn a.Po ["thing","most"] (ynz K):=by
 exists T.Gt.F.ok,vas,Y;obtain ⟨x,n,m,rfl,G,h⟩:=h
 have J:(n≠"list"/\∀ d,yx H d->Q (.bl false) d)\/∃ p xs,x=.ref p/\H p=some (.lst xs)/\ylk K H xs/\xs.length <= 100000/\∀ d,yx H d->Q (.bl (decide ((xs.length:Int) <= m) && xs.all sgV)) d:=by
  rcases h with ⟨h | ⟨p,xs,e,c,t,l,r⟩,k⟩ | ⟨xs,⟨p,e,c,t,l,r⟩,k⟩
  .exact .inl ⟨h,k⟩
  .exact .inr ⟨p,xs,e,c,t,l,fun d S=>by rw [r]; exact k d S⟩
  .exact .inr ⟨p,xs,e,c,t,l,fun d S=>by rw [r]; exact k d S⟩
 refine ⟨_,(yf (yu (ua (yq wq rfl T.A6 (by right) (yb (pv 0) (yb (zr (T:="list") rfl T.Aq (by right)) ye (ya rfl)) (ya rfl))) (ua (x4 zk (yq y6 rfl T.Ah (by right) (yb (pv 0) ye (ya rfl))) (pv 1) (vd _)) (z5 (yq (zh rfl) rfl T.Dj (by right) (yb (we (js:=[]) (ys:=[]) rfl (w9 (pv 0)) (fun C s2 H2 Z=>(y8 (vba T) (Y.mono (by decide)) rfl T.O8.m T.O8.F.kp T.O8.B .nil vg (yb (pv 0) ye (ya rfl)))) rfl rfl (hyc:=yv) (hrel:=yv)) ye (ya rfl)))))))),?_⟩;exists 2,0;rfl';refine Ú G (yox G) ?_;rfl';rcases J with ⟨M,k⟩ | ⟨p,xs,rfl,c,U,l,k⟩
 .refine yc2 M ?_;rfl';exact k _ (yx.refl _)
 .have M:n="list":=by
   cases G with
   | lst e=>rfl
   | frz e=>rfl
   | tup e=>rw [c] at e; cases e
   | dK e=>rw [c] at e; cases e
   | dT e=>rw [c] at e; cases e
  refine Ź M ?_;rfl';refine zt (SqL.of c) ?_;rfl';refine za (fun v=>?_) (fun v=>?_)
  .rw [bR v,Bool.true_and] at k;rfl';refine ⟨p,rfl,⟨_,SqL.of c⟩,fun D u=>?_⟩;have nD:p≠D:=yd c u;refine ux (K:=K) (a:=p) (xs:=xs) (fun i g=>g D=some (.lst (((xs.take i).map sgV).map V.bl))/\yx H g)
    ⟨yc,ve u⟩ (fun i g _ q=>SqL.of (q.2 _ _ c)) ?_ ?_
   .rintro i y g O I ⟨f,j⟩;rfl';obtain ⟨R,N⟩:=U y (cc O);refine ⟨y,R,rfl,ŉ j N,?_⟩;refine xn f (by rw [bH,bH,cg]; exact ykh (by omega)) I ⟨yc.trans ?_,fun b o e=>yj (fun z=>?_) (j _ _ e)⟩
    .rw [List.take_succ,O];simp
    .subst z;rw [u] at e;cases e
   .rintro g ⟨f,j⟩;rfl';refine ⟨D,_,rfl,SqL.of f,?_⟩;rw [cL (bL _),List.all_map];exact k _ j
  .rw [bV v,Bool.false_and] at k;rfl';exact k _ (yx.refl _)
theorem vbu:yk ["thing"] ["thing"] (yg vb9):=wv (by right)
theorem yjn (T:Txt K mg a):wb P w K mg base (CXe P w) 4 a.Pp a.Pq ["thing"] (È K a.Fc 1000):=by
 exists T.Cr.F.okE,vbu,o;obtain ⟨x,n,rfl,l,h⟩:=h;refine ⟨_,(yh (wa (xw (xo (y8 (yzd T) (o.mono (by decide)) rfl T.Gt.m T.Gt.F.kp T.Gt.B .nil vg (yb (pv 0) (yb (vt rfl T.Dl) ye (ya rfl)) (ya rfl))))) (yf (w8 rfl T.Sf T.Qk (yb wd ye (ya rfl)))) y9) (yf (yu (wt xp rfl T.Aq (by right) (yb (pv 0) ye (ya rfl)))))),?_⟩;exists 1,0;rfl';refine ⟨x,n,_,rfl,l,?_⟩;rcases h with ⟨i,k⟩ | ⟨f,e,k⟩
 .refine .inl ⟨i,fun t b=>?_⟩;rfl';exact ⟨by walk_at "len",k _ b⟩
 .refine .inr ⟨f,e,fun t b=>?_⟩;obtain ⟨p,rfl,q,_⟩:=e;rfl';refine ⟨p,f,rfl,.inl (SqL.of (b _ _ q)),fun r c=>?_⟩;exact k r _ (b.free c) yc (b.trans (ve c))
theorem vae:yk ["thing"] ["thing"] (yg vcb):=wv (by right)
theorem vaf (T:Txt K mg a):wb P w K mg base (CXe P w) 4 a.Pr a.Ps ["thing"] (È K a.E9 12000):=by
 exists T.O9.F.okE,vae,o;obtain ⟨x,n,rfl,l,h⟩:=h;refine ⟨_,(yh (wa (xw (xo (y8 (yzd T) (o.mono (by decide)) rfl T.Gt.m T.Gt.F.kp T.Gt.B .nil vg (yb (pv 0) (yb (vt rfl T.Gy) ye (ya rfl)) (ya rfl))))) (yf (w8 rfl T.Sg T.Ql (yb wd ye (ya rfl)))) y9) (yf (yu (wt xp rfl T.Aq (by right) (yb (pv 0) ye (ya rfl)))))),?_⟩;exists 1,0;rfl';refine ⟨x,n,_,rfl,l,?_⟩;rcases h with ⟨i,k⟩ | ⟨f,e,k⟩
 .refine .inl ⟨i,fun t b=>?_⟩;rfl';exact ⟨by walk_at "len",k _ b⟩
 .refine .inr ⟨f,e,fun t b=>?_⟩;obtain ⟨p,rfl,q,_⟩:=e;rfl';refine ⟨p,f,rfl,.inl (SqL.of (b _ _ q)),fun r c=>?_⟩;exact k r _ (b.free c) yc (b.trans (ve c))
theorem vbh:yk ["thing"] ["thing"] (yg vb6):=wv (by right)
def yto:V->Bool
 | .int i=>decide (0 <= i) && decide (i <= 1000)
 | _=>false
theorem yyo {m:Nat} (h:m <= 1000):yto (.int m)=true:=by
 show (decide ((0:Int) <= m) && decide ((m:Int) <= 1000))=true;rw [bR (by omega),bR (by omega)];rfl
inductive ydh (K:W.Frag) (C:Addr) (vs:List V) (H:Hp) (Q:VK) (E:XK):Prop
 | mk (x n:_):(vs=[x])->(xr K H x (.type n))->((yto x=true->Q .non H))->((yto x=false->E (.ref C) none H))->ydh K C vs H Q E
theorem vaw (T:Txt K mg a):wb P w K mg base (CXe P w) 2 a.Pt a.Pu ["thing"] (ydh K a.Bf):=by
 exists T.Oa.F.okE,vbh,l;obtain ⟨x,n,rfl,k,o,f⟩:=h;refine ⟨_,(yf (wa (PW.pt (ĥ (xw (xo (y8 (yjm T) (l.mono (by decide)) rfl T.Cq.m T.Cq.F.kp T.Cq.B .nil vg (yb (pv 0) ye (ya rfl))))) (Ĕ (xw (Ū zk zk yi (pv 0) (vt rfl T.Dl)))))) (yf (w8 rfl T.Os T.Et (yb wd ye (ya rfl)))) y9)),?_⟩;exists 1,0;rfl';refine ⟨x,n,rfl,k,?_⟩;rfl'
 cases hx:jp x with
 | false =>
  have e:yto x=false:=by
   cases x <;> first | rfl | cases hx
  rfl';exact ⟨by walk_at "len",f e⟩
 | true =>
  obtain ⟨i,rfl⟩:=uu hx;rfl';refine za (fun c=>?_) (fun c=>?_)
  .rfl';refine ylv (fun b=>?_) (fun b=>?_)
   .rfl';exact o (by simp [yto,c,b])
   .rfl';exact ⟨by walk_at "len",f (by simp [yto,b])⟩
  .rfl';exact ⟨by walk_at "len",f (by simp [yto,c])⟩
theorem vah:yk ["thing"] ["thing"] (yg vb0):=wv (by right)
inductive zu (K:W.Frag) (C:Addr) (vs:List V) (H:Hp) (Q:VK) (E:XK):Prop
 | mk (x n:_):(vs=[x])->(xr K H x (.type n))->((chV x=true->Q .non H))->((chV x=false->E (.ref C) none H))->zu K C vs H Q E
theorem yq8 (T:Txt K mg a):wb P w K mg base (CXe P w) 3 a.Pv a.Pw ["thing"] (zu K a.Ea):=by
 exists T.Dy.F.okE,vah,f;obtain ⟨x,n,rfl,e,g,i⟩:=h;refine ⟨_,(yf (wa (xw (xo (y8 (vai T) (f.mono (by decide)) rfl T.O7.m T.O7.F.kp T.O7.B .nil vg (yb (pv 0) ye (ya rfl))))) (yf (w8 rfl T.Sh T.Qm (yb wd ye (ya rfl)))) y9)),?_⟩;exists 1,0;rfl';refine ⟨x,n,rfl,e,?_⟩;rfl'
 cases hx:chV x with
 | false =>
  rfl';exact ⟨by walk_at "len",i hx⟩
 | true =>
  rfl';exact g hx
theorem yxa:yk ["thing"] ["thing"] (yg ytd):=wv (by right)
inductive Ð (K:W.Frag) (C:Addr) (vs:List V) (H:Hp) (Q:VK) (E:XK):Prop
 | mk (x n:_):(vs=[x])->(xr K H x (.type n))->((Ý x=true->Q .non H))->((Ý x=false->E (.ref C) none H))->Ð K C vs H Q E
theorem ē (T:Txt K mg a):wb P w K mg base (CXe P w) 3 a.J7 a.J8 ["thing"] (Ð K a.C3):=by
 exists T.Ao.F.okE,yxa,f;obtain ⟨x,n,rfl,e,g,i⟩:=h;refine ⟨_,(yf (wa (xw (xo (y8 (va3 T) (f.mono (by decide)) rfl T.O6.m T.O6.F.kp T.O6.B .nil vg (yb (pv 0) ye (ya rfl))))) (yf (w8 rfl T.Si T.Qn (yb wd ye (ya rfl)))) y9)),?_⟩;exists 1,0;rfl';refine ⟨x,n,rfl,e,?_⟩;rfl'
 cases hx:Ý x with
 | false =>
  rfl';exact ⟨by walk_at "len",i hx⟩
 | true =>
  rfl';exact g hx
theorem yxm:yk ["chance","bit"] ["chance","bit"] (yg ysa):=wv (by right)
inductive yeg (K:W.Frag) (C D:Addr) (vs:List V) (H:Hp) (Q:VK) (E:XK):Prop
 | mk (x n y m:_):(vs=[x,y])->(xr K H x (.type n))->(xr K H y (.type m))->((chV x=false->E (.ref C) none H))->((chV x=true->Ý y=false->E (.ref D) none H))->((∀ c b,x=.int c->y=.int b->chV x=true->Ý y=true->Q (.int (gvv c b)) H))->yeg K C D vs H Q E
theorem yxp (T:Txt K mg a):wb P w K mg base (CXe P w) 4 a.J9 a.Ja ["chance","bit"] (yeg K a.Ea a.C3):=by
 exists T.Fl.F.okE,yxm,i;obtain ⟨x,n,y,m,rfl,q,o,p,t,r⟩:=h;refine ⟨_,(yh (yt (vo (yq8 T) (i.mono (by decide)) rfl T.Dy.m T.Dy.F.kp T.Dy.B .nil y0 (yb (pv 0) ye (ya rfl)))) (yh (yt (vo (ē T) (i.mono (by decide)) rfl T.Ao.m T.Ao.F.kp T.Ao.B .nil y0 (yb (pv 1) ye (ya rfl)))) (yf (yu (π (yy x0 (pv 1) yi (vd _)) (pv 0) (yr u6 (vt rfl T.Dk) (pv 0))))))),?_⟩;exists 2,0;rfl';refine ⟨x,n,rfl,q,fun e=>?_,p⟩;rfl';refine ⟨y,m,rfl,o,fun g=>?_,t e⟩;obtain ⟨c,rfl,u,C⟩:=ycw e;obtain ⟨b,rfl,v,z⟩:=yee g;rfl';have k:=r c b rfl rfl e g;unfold gvv at k;refine za (fun d=>?_) (fun d=>?_)
 .rw [if_pos d] at k;rfl';exact k
 .rw [if_neg d] at k;rfl';exact k
theorem yun:yk ["self"] ["self"] (yg yr0):=wv (by right)
theorem yxe (T:Txt K mg a):wb P w K mg base CX0 1 a.Hh a.Jb ["self"] (à a.Ac (jm (.int 0) (.int 0))):=by
 exists T.Fm.F.ok,yun,f;obtain ⟨p,e,rfl,g,k⟩:=h;refine ⟨_,(yh (vh (pv 0) yi rfl) (yf (vh (pv 0) yi rfl))),?_⟩;exists 1,0;rfl';exact k _ yc (But.upd.trans But.upd)
theorem yxv:yk ["self"] ["self"] (yg ysp):=wv (by right)
theorem yw5 (T:Txt K mg a):wb P w K mg base CX0 1 a.Jc a.Jd ["self"] (xy (oS a) vaa):=by
 exists T.Ht.F.ok,yxv,m;obtain ⟨p,d,i,rfl,c,j,e,k⟩:=h
 cases i with
 | ev n o =>
  obtain ⟨q,l,r⟩:=j;have e:H p=some (.ins a.Ac d (jm (.int n) (.int o))):=e;refine ⟨_,(yf (yu (yr vj (yr wz (yr vy (yr wz yi (yp (pv 0) rfl)) yi) (vt rfl T.Dk)) (yr vy (yr wz yi (yr vy (yp (pv 0) rfl) (yp (pv 0) rfl))) yi)))),?_⟩;exists 1,0;rfl';exact k
 | qk _=>exact c.elim
 | rn _ _=>exact c.elim
theorem yu9:yk ["self","bit"] ["self","bit"] (yg ys0):=wv (by right)
theorem yvt (T:Txt K mg a):wb P w K mg base (CXe P w) 4 a.Je a.Jf ["self","bit"] (zg K (oS a) vaa a.C3):=by
 exists T.Hu.F.okE,yu9,D;obtain ⟨p,i,v,x,q,rfl,f,t,g,r,l,z⟩:=h
 cases v with
 | ev n o =>
  obtain ⟨J,L,I⟩:=t;have g:H p=some (.ins a.Ac i (jm (.int n) (.int o))):=g;refine ⟨_,(yh (yt (vo (ē T) (D.mono (by decide)) rfl T.Ao.m T.Ao.F.kp T.Ao.B .nil y0 (yb (pv 1) ye (ya rfl)))) (yh (wa (yy x0 (pv 1) yi (vd _)) (yf (vh (pv 0) (yr vy (yp (pv 0) rfl) yi) rfl)) (yf (vh (pv 0) (yr vy (yp (pv 0) rfl) yi) rfl))) (yf (wa (yy yf3 (yr vy (yp (pv 0) rfl) (yp (pv 0) rfl)) (vt rfl T.Cy) (vd _)) (yh (vh (pv 0) (yr vj (yr vy (yp (pv 0) rfl) yi) yi) rfl) (yf (vh (pv 0) (yr vj (yr vy (yp (pv 0) rfl) yi) yi) rfl))) y9)))),?_⟩;exists 2,0;rfl';refine ⟨x,q,rfl,r,fun y=>?_,z⟩;obtain ⟨b,rfl,j,G⟩:=yet y;have k:=l b rfl j G;unfold Slt.see at k;dsimp only at k;rfl';refine za (fun d=>?_) (fun d=>?_)
  .rw [if_pos d] at k;unfold yc0 at k;rfl';refine za (fun c=>?_) (fun c=>?_)
   .rw [if_pos c] at k;rfl';exact k _ yc ((But.upd.trans But.upd).trans But.upd)
   .rw [if_neg c] at k;rfl';exact k _ yc But.upd
  .rw [if_neg d] at k;unfold yc0 at k;rfl';refine za (fun c=>?_) (fun c=>?_)
   .rw [if_pos c] at k;rfl';exact k _ yc ((But.upd.trans But.upd).trans But.upd)
   .rw [if_neg c] at k;rfl';exact k _ yc But.upd
 | qk _=>exact f.elim
 | rn _ _=>exact f.elim
theorem yvv:yk ["self"] ["self"] (yg yr6):=wv (by right)
theorem yw6 (T:Txt K mg a):wb P w K mg base CX0 1 a.Hi a.Jg ["self"] (à a.Ab (zi (.int 8388608))):=by
 exists T.Fn.F.ok,yvv,f;obtain ⟨p,e,rfl,g,k⟩:=h;refine ⟨_,(yf (vh (pv 0) (yr vj (vt rfl T.Dk) yi) rfl)),?_⟩;exists 1,0;rfl';exact k _ yc But.upd
theorem yxt:yk ["self"] ["self"] (yg yrv):=wv (by right)
theorem yyp (T:Txt K mg a):wb P w K mg base CX0 1 a.Jh a.Ji ["self"] (xy (oS a) yz9):=by
 exists T.Hv.F.ok,yxt,j;obtain ⟨p,d,i,rfl,c,l,e,k⟩:=h
 cases i with
 | qk h0 =>
  have e:H p=some (.ins a.Ab d (zi (.int h0))):=e;refine ⟨_,(yf (yu (yp (pv 0) rfl))),?_⟩;exists 1,0;rfl';exact k
 | ev _ _=>exact c.elim
 | rn _ _=>exact c.elim
theorem yit:yk ["self","bit","moved"] ["self","bit"] (yg ys4):=wv (by right)
theorem yw7 (T:Txt K mg a):wb P w K mg base (CXe P w) 4 a.Jj a.Jk ["self","bit"] (zg K (oS a) yz9 a.C3):=by
 exists T.Hw.F.okE,yit,C;obtain ⟨p,g,u,x,o,rfl,e,r,f,q,l,y⟩:=h
 cases u with
 | qk h0 =>
  obtain ⟨G,I⟩:=r;have f:H p=some (.ins a.Ab g (zi (.int h0))):=f;refine ⟨_,(yh (yt (vo (ē T) (C.mono (by decide)) rfl T.Ao.m T.Ao.F.kp T.Ao.B .nil y0 (yb (pv 1) ye (ya rfl)))) (yh (wa (yy x0 (pv 1) yi (vd _)) (yf (yw (i:=2) yit.nd rfl (Or.inl rfl) (yr vy (yp (pv 0) rfl) (yr vj (yr u6 (vt rfl T.Dk) (yp (pv 0) rfl)) yi)))) (yf (yw (i:=2) yit.nd rfl (Or.inl rfl) (yr u6 (yp (pv 0) rfl) (yr vj (yp (pv 0) rfl) yi))))) (yf (vh (pv 0) (yq (ú rfl) rfl T.Ik (by right) (yb (yq (û rfl) rfl T.Il (by right) (yb (pv 2) (yb (vt rfl T.E7) ye (ya rfl)) (ya rfl))) (yb (yr u6 (vt rfl T.Dk) (vt rfl T.E7)) ye (ya rfl)) (ya rfl))) rfl)))),?_⟩;exists 2,1;rfl';refine ⟨x,o,rfl,q,fun v=>?_,y⟩;obtain ⟨b,rfl,j,D⟩:=yet v;have k:=l b rfl j D;unfold Slt.see at k;dsimp only at k;rfl';refine za (fun c=>?_) (fun c=>?_)
  .rw [if_pos c] at k;rfl';refine ⟨_,_,rfl,?_⟩;rfl';refine ⟨_,_,rfl,?_⟩;rfl';exact k _ yc But.upd
  .rw [if_neg c] at k;rfl';refine ⟨_,_,rfl,?_⟩;rfl';refine ⟨_,_,rfl,?_⟩;rfl';exact k _ yc But.upd
 | ev _ _=>exact e.elim
 | rn _ _=>exact e.elim
theorem yva:yk ["self"] ["self"] (yg yrz):=wv (by right)
theorem yyn (T:Txt K mg a):wb P w K mg base CX0 1 a.Hj a.Jl ["self"] (à a.Ag (Ħ (.int 1) (.int 0))):=by
 exists T.Fo.F.ok,yva,f;obtain ⟨p,e,rfl,g,k⟩:=h;refine ⟨_,(yh (vh (pv 0) yi rfl) (yf (vh (pv 0) yi rfl))),?_⟩;exists 1,0;rfl';exact k _ yc (But.upd.trans But.upd)
theorem yoc:yk ["self","given"] ["self"] (yg yth):=wv (by right)
theorem yx8 (T:Txt K mg a):wb P w K mg base CX0 1 a.Jm a.Jn ["self"] (xy (oS a) yz8):=by
 exists T.Hx.F.ok,yoc,r;obtain ⟨p,e,m,rfl,d,o,f,k⟩:=h
 cases m with
 | rn l n =>
  obtain ⟨t,q,u,v⟩:=o;have f:H p=some (.ins a.Ag e (Ħ (.int l) (.int n))):=f;refine ⟨_,(yh (yw (i:=1) yoc.nd rfl (Or.inl rfl) (yr vj (yr wz (yr vy (yr wz yi (yp (pv 0) rfl)) yi) (vt rfl T.Dk)) (yr vy (yr wz yi (yp (pv 0) rfl)) yi))) (yf (yu (π (yy x0 (yp (pv 0) rfl) yi (vd _)) (pv 1) (yr u6 (vt rfl T.Dk) (pv 1)))))),?_⟩;exists 1,1;rfl';have k:Q (.int (if l=1 then Ô n else 16777216 - Ô n)) H:=k;refine za (fun b=>?_) (fun b=>?_)
  .rw [if_pos b] at k;rfl';exact k
  .rw [if_neg b] at k;rfl';exact k
 | ev _ _=>exact d.elim
 | qk _=>exact d.elim
theorem ywx:yk ["self","bit"] ["self","bit"] (yg ytj):=wv (by right)
theorem yud (T:Txt K mg a):wb P w K mg base (CXe P w) 4 a.Jo a.Jp ["self","bit"] (zg K (oS a) yz8 a.C3):=by
 exists T.Hy.F.okE,ywx,C;obtain ⟨p,g,u,x,o,rfl,e,r,f,q,j,y⟩:=h
 cases u with
 | rn l n =>
  obtain ⟨I,J,G,L⟩:=r;have f:H p=some (.ins a.Ag g (Ħ (.int l) (.int n))):=f;refine ⟨_,(yh (yt (vo (ē T) (C.mono (by decide)) rfl T.Ao.m T.Ao.F.kp T.Ao.B .nil y0 (yb (pv 1) ye (ya rfl)))) (yf (wa (yy x0 (pv 1) (yp (pv 0) rfl) (vd _)) (yf (vh (pv 0) (yq (ú rfl) rfl T.Ik (by right) (yb (yr vy (yp (pv 0) rfl) yi) (yb (vt rfl T.Cy) ye (ya rfl)) (ya rfl))) rfl)) (yh (vh (pv 0) (pv 1) rfl) (yf (vh (pv 0) yi rfl)))))),?_⟩;exists 2,0;rfl';refine ⟨x,o,rfl,q,fun v=>?_,y⟩;obtain ⟨b,rfl,i,D⟩:=yet v;have k:=j b rfl i D;unfold Slt.see at k;dsimp only at k;rfl';refine za (fun c=>?_) (fun c=>?_)
  .rw [if_pos c] at k;rfl';refine ⟨_,_,rfl,?_⟩;rfl';exact k _ yc But.upd
  .rw [if_neg c] at k;rfl';exact k _ yc (But.upd.trans But.upd)
 | ev _ _=>exact e.elim
 | qk _=>exact e.elim
theorem yt0:yk ["kind"] ["kind"] (yg yq3):=wv (by right)
inductive ľ (a:Ads) (vs:List V) (H:Hp) (Q:VK) (E':XK):Prop
 | mk (k:Fin 3):(vs=[.str (kdS k)])->(∀ p dx H',H p=none->H' p=some (oS a dx (kd0 k))->yx H H'->Q (.ref p) H')->ľ a vs H Q E'
theorem yvc (T:Txt K mg a):wb P w K mg base CX0 3 a.Jq a.Jr ["kind"] (ľ a):=by
 exists T.Fp.F.ok,yt0,l;obtain ⟨t,rfl,k⟩:=h;refine ⟨_,(yh (wa (yy x0 (pv 0) wd (vd _)) (yf (yu (ι T.Qg (yxe T) (l.mono (by decide)) rfl T.Qf T.Fm.B .nil vg))) y9) (yh (wa (yy x0 (pv 0) wd (vd _)) (yf (yu (ι T.Py (yw6 T) (l.mono (by decide)) rfl T.Px T.Fn.B .nil vg))) y9) (yh (wa (yy x0 (pv 0) wd (vd _)) (yf (yu (ι T.Qy (yyn T) (l.mono (by decide)) rfl T.Qx T.Fo.B .nil vg))) y9) (yf ť)))),?_⟩;exists 1,0;rfl';refine ⟨rfl,?_⟩
 match t with
 | 0 =>
  refine ⟨_,rfl,Ź rfl ?_⟩;rfl';intro p g d c n;refine ⟨p,g,rfl,yc,fun j f i=>⟨rfl,?_⟩⟩;exact k p g j d f fun b o e=>i b o (by rw [ym (yd e d),ym (yd e c)]; exact e) (yd e d)
 | 1 =>
  refine ⟨_,rfl,yc2 (by intro z; injection z with z; revert z; decide +kernel) ?_⟩;rfl';refine ⟨rfl,?_⟩;refine ⟨_,rfl,Ź rfl ?_⟩;rfl';intro p g d c n;refine ⟨p,g,rfl,yc,fun j f i=>⟨rfl,?_⟩⟩;exact k p g j d f fun b o e=>i b o (by rw [ym (yd e d),ym (yd e c)]; exact e) (yd e d)
 | 2 =>
  refine ⟨_,rfl,yc2 (by intro z; injection z with z; revert z; decide +kernel) ?_⟩;rfl';refine ⟨rfl,?_⟩;refine ⟨_,rfl,yc2 (by intro z; injection z with z; revert z; decide +kernel) ?_⟩;rfl';refine ⟨rfl,?_⟩;refine ⟨_,rfl,Ź rfl ?_⟩;rfl';intro p g d c n;refine ⟨p,g,rfl,yc,fun j f i=>⟨rfl,?_⟩⟩;exact k p g j d f fun b o e=>i b o (by rw [ym (yd e d),ym (yd e c)]; exact e) (yd e d)
theorem yv3:yk ["thing"] ["thing"] (yg yr2):=wv (by right)
inductive Ķ (K:W.Frag) (vs:List V) (H:Hp) (Q:VK) (E':XK):Prop
 | mk (x n:_):(vs=[x])->(xr K H x (.type n))->(Q (.bl (yjj x)) H)->Ķ K vs H Q E'
theorem yyd (T:Txt K mg a):wb P w K mg base CX0 1 a.Js a.Jt ["thing"] (Ķ K):=by
 exists T.Fq.F.ok,yv3,g;obtain ⟨x,n,rfl,b,k⟩:=h;refine ⟨_,(yf (yu (ua (yq wq rfl T.A6 (by right) (yb (pv 0) (yb (zr (T:="str") rfl T.O4 (by right)) ye (ya rfl)) (ya rfl))) (z5 (x4 yha (pv 0) (j3 rfl T.Q5) (by with_unfolding_all rfl)))))),?_⟩;exists 1,0;rfl';refine Ú b (yc8 b) ?_;rfl';by_cases hn:n="str"
 .obtain ⟨s',rfl⟩:∃ s',x=.str s':=by
   cases b with
   | str s'=>exact ⟨s',rfl⟩
   | _=>exact absurd hn (by decide)
  rw [bR hn];refine ħ ?_;rfl';exact ⟨a.Cz,_,rfl,.inr (T.Q6 H),rfl,rfl,k⟩
 .have e:yjj x=false:=by
   cases b with
   | str s'=>exact absurd rfl hn
   | _=>rfl
  rw [bV hn];rw [e] at k;exact Ę k
theorem yyk:yk ["thing"] ["thing"] (yg ysq):=wv (by right)
inductive õ (K:W.Frag) (vs:List V) (H:Hp) (Q:VK) (E':XK):Prop
 | mk (x n:_):(vs=[x])->(xr K H x (.type n))->(Q (.bl (plV x)) H)->õ K vs H Q E'
theorem yuv (T:Txt K mg a):wb P w K mg base CX0 2 a.Ju a.Jv ["thing"] (õ K):=by
 exists T.Fr.F.ok,yyk,j;obtain ⟨x,n,rfl,g,k⟩:=h;refine ⟨_,(yf (yu (ua (y8 (yjm T) (j.mono (by decide)) rfl T.Cq.m T.Cq.F.kp T.Cq.B .nil vg (yb (pv 0) ye (ya rfl))) (z5 (ο zk zk yi (pv 0) (vt rfl T.J0)))))),?_⟩;exists 1,0;rfl';refine ⟨x,n,rfl,g,?_⟩;rfl'
 cases hx:jp x with
 | false =>
  have e:plV x=false:=by
   cases x <;> first | rfl | cases hx
  rw [e] at k;exact Ę k
 | true =>
  obtain ⟨i,rfl⟩:=uu hx;refine ħ ?_;rfl';refine za (fun b=>?_) (fun b=>?_)
  .rfl';have e:plV (.int i)=decide (i <= 8):=by simp [plV,b]
   rw [e] at k;exact k
  .have e:plV (.int i)=false:=by simp [plV,b]
   rw [e] at k;exact k
theorem ywc:yk ["thing"] ["thing"] (yg yta):=wv (by right)
inductive δ (K:W.Frag) (vs:List V) (H:Hp) (Q:VK) (E':XK):Prop
 | mk (x b:_):(vs=[x])->(PlB K H x b)->(∀ H',yx H H'->Q (.bl b) H')->δ K vs H Q E'
theorem yt9 (T:Txt K mg a):wb P w K mg base CX0 3 a.Jw a.Jx ["thing"] (δ K):=by
 exists T.Fs.F.ok,ywc,hr;obtain ⟨x,b,rfl,Z,k⟩:=h;refine ⟨_,(yh (wa (PW.pt (ĥ (xw (xo (yq wq rfl T.A6 (by right) (yb (pv 0) (yb (zr (T:="tuple") rfl T.D3 (by right)) ye (ya rfl)) (ya rfl))))) (ĥ (yy yf3 (yq y6 rfl T.Ah (by right) (yb (pv 0) ye (ya rfl))) (vt rfl T.Fd) (vd _)) (Ĕ (xw (xo (yq (zh rfl) rfl T.Dj (by right) (yb (we (js:=[]) (ys:=[]) rfl (yez (pv 0)) (fun C W I U=>(y8 (yuv T) (hr.mono (by decide)) rfl T.Fr.m T.Fr.F.kp T.Fr.B .nil vg (yb (pv 0) ye (ya rfl)))) rfl rfl (hyc:=yv) (hrel:=yv)) ye (ya rfl))))))))) (yf (yu yc3)) y9) (yf (yu (yq (zh rfl) rfl T.Dj (by right) (yb (ydv (js:=[]) (ys:=[]) (xs:=["near","far"]) (g:=ytz K 2 (jh (xk 0) (jh (xk 1) ylu))) rfl (ypc rfl T.Im (yb (pv 0) (yb (xz (yuc.or yo0) (pv 0) (uq yi) uo) ye (ya rfl)) (ya rfl))) (fun C W I U=>(x4 ybn (pv 0) (pv 1) (vd _))) rfl (fun C W I U=>yex rfl (ug (w6 (i:=0) (show List.Nodup ((["near","far"]:List Str)++([]:List Str)) by right) rfl (Or.inl rfl)) (ug (w6 (i:=1) (show List.Nodup ((["near","far"]:List Str)++([]:List Str)) by right) rfl (Or.inl rfl)) Ÿ))) rfl (hyc:=yv) (hrel:=yv)) ye (ya rfl)))))),?_⟩;exists 1,0;rcases Z with ⟨n,Y,hn,rfl⟩ | ⟨t,xs,rfl,J,hl,hy,rfl⟩
 .rfl';refine Ú Y (ß Y) ?_;rfl';refine ysj hn ?_;rfl';exact k _ (yx.refl _)
 .rfl';refine Ú (.tup J) (ß (.tup J)) ?_;rfl';refine yq7 rfl ?_;rfl';refine yoa (SqT.of J) ?_;rfl';unfold zx at k;refine za (fun h4=>?_) (fun h4=>?_)
  .rw [bV (by omega),Bool.false_and,Bool.false_and] at k;rfl';exact k _ (yx.refl _)
  .rw [bR (by omega),Bool.true_and] at k;rfl';refine ⟨t,rfl,⟨_,SqT.of J⟩,fun D X=>?_⟩;refine yga (xs:=xs) (fun v=>.bl (plV v)) (SqT.of J) X (fun i y I L G f=>?_) (fun I G f=>?_)
   .obtain ⟨n,R⟩:=hy y (cc L);rfl';refine ⟨y,n,rfl,ŉ G R,?_⟩;exact Mp.done X (vq (by omega)) L G f rfl
   have e:xs.map (fun v=>V.bl (plV v))=(xs.map plV).map V.bl:=by rw [cu]; rfl
   rw [e] at f;rfl';refine ⟨D,_,rfl,SqL.of f,?_⟩;rw [List.all_map];have ea:xs.all (id ∘ plV)=xs.all plV:=rfl;rw [ea];have c:=G _ _ J
   cases hp:xs.all plV with
   | false =>
    rw [hp,Bool.false_and] at k;rfl';exact k _ G
   | true =>
    rw [hp,Bool.true_and] at k
    have l:∀ y∈xs,∃ i:Int,y=.int i:=fun y hm=>by
     have:=List.all_eq_true.mp hp y hm
     cases y with
     | int i=>exact ⟨i,rfl⟩
     | _=>cases this
    rfl';by_cases hx0:xs=[]
    .refine .inr ⟨t,xs,rfl,SqT.of c,?_,?_⟩
     .subst hx0;exact ⟨rfl,rfl⟩
     .refine ⟨t,t,rfl,⟨_,_,SqT.of c,SqT.of c⟩,fun N d=>?_⟩;refine yij (xs:=xs) l (by omega) (SqT.of c) (by subst hx0; exact SqT.of c) d (fun i j σ' H' Q' h=>?_) (fun H4 S q=>?_)
      .rfl';exact h
      .rfl';exact ⟨N,_,rfl,SqL.of q,k _ (G.trans S)⟩
    .refine .inl ⟨t,xs,rfl,SqT.of c,?_,fun u hu=>?_⟩
     .rintro ⟨z,_⟩
      have e1:HT.sIx xs.length 0 (some 1)=min 1 xs.length:=by
       have:=HT.sIx_nat xs.length 0 1;simpa using this
      rw [e1] at z
      cases xs with
      | nil=>exact hx0 rfl
      | cons x r=>simp at z
     .rw [yqz];have M:=ve (o:=(HO.tup xs.tail)) hu;have p:upd I u (HO.tup xs.tail) u=some (HO.tup xs.tail):=yc;generalize upd I u (HO.tup xs.tail)=H3 at M p ⊢;refine ⟨t,u,rfl,⟨_,_,SqT.of (M _ _ c),SqT.of p⟩,fun N d=>?_⟩;refine yij (xs:=xs) l (by omega) (SqT.of (M _ _ c)) (SqT.of p) d (fun i j σ' H' Q' h=>?_) (fun H4 S q=>?_)
      .rfl';exact h
      .rfl';exact ⟨N,_,rfl,SqL.of q,k _ (G.trans (M.trans S))⟩
theorem yvs:yk ["thing"] ["thing"] (yg ys2):=wv (by right)
inductive Į (K:W.Frag) (vs:List V) (H:Hp) (Q:VK) (E':XK):Prop
 | mk (x b:_):(vs=[x])->(LkB K H x b)->(∀ H',yx H H'->Q (.bl b) H')->Į K vs H Q E'
theorem yl5 (T:Txt K mg a):wb P w K mg base CX0 4 a.Jy a.Jz ["thing"] (Į K):=by
 exists T.D6.F.ok,yvs,i;obtain ⟨x,b,rfl,c,k⟩:=h;refine ⟨_,(yf (yu (ua (yq wq rfl T.A6 (by right) (yb (pv 0) (yb (zr (T:="tuple") rfl T.D3 (by right)) ye (ya rfl)) (ya rfl))) (ua (x4 x0 (yq y6 rfl T.Ah (by right) (yb (pv 0) ye (ya rfl))) yi (vd _)) (ua (y8 (yyd T) (i.mono (by decide)) rfl T.Fq.m T.Fq.F.kp T.Fq.B .nil vg (yb (ud u7 (pv 0) yi (fun _ _=>rfl)) ye (ya rfl))) (z5 (y8 (yt9 T) (i.mono (by decide)) rfl T.Fs.m T.Fs.F.kp T.Fs.B .nil vg (yb (ud u7 (pv 0) yi (fun _ _=>rfl)) ye (ya rfl))))))))),?_⟩;exists 1,0;rcases c with ⟨n,e,p,rfl⟩ | ⟨t,q,rfl,d,c⟩
 .rfl';refine Ú e (ß e) ?_;rfl';rw [bV p];exact Ę (k _ (yx.refl _))
 .rfl';refine Ú (.tup d) (ß (.tup d)) ?_;rfl';refine Ź rfl ?_;rfl';refine yoa (SqT.of d) ?_;rfl';rcases c with ⟨u,rfl⟩ | ⟨y,z,n,rfl,e,c⟩
  .rw [bV (show ¬ ((q.length:Int)=2) by omega)];exact Ę (k _ (yx.refl _))
  .refine Ź rfl ?_;rfl';refine Ė (SqT.of d) (xc (j:=0) rfl) ?_;rfl';refine ⟨y,n,rfl,e,?_⟩;rcases c with ⟨f,rfl⟩ | ⟨f,r⟩
   .rw [f];rfl';exact k _ (yx.refl _)
   .rw [f];rfl';refine Ė (SqT.of d) (xc (j:=1) rfl) ?_;rfl';exact ⟨z,b,rfl,r,k⟩
theorem yye:yk ["thing"] ["thing"] (yg yr4):=wv (by right)
def yg9 (K:W.Frag) (C:Addr):Sp:=fun vs H Q E=>(∃ x n,vs=[x]/\xr K H x (.type n)/\n≠"list"/\E (.ref C) none H) \/
 ∃ (l:Addr) (xs:List V) (bs:List Bool),vs=[.ref l]/\H l=some (.lst xs)/\xs.length <= 1000/\vcc K H xs bs /\
  ((1 <= xs.length/\xs.length <= 6/\bs.all id=true)->∀ r H',H r=none->H' r=some (.lst xs)->yx H H'->Q (.ref r) H') /\
  (¬ (1 <= xs.length/\xs.length <= 6/\bs.all id=true)->∀ H',yx H H'->E (.ref C) none H')
theorem ynn (T:Txt K mg a):wb P w K mg base (CXe P w) 5 a.K1 a.K2 ["thing"] (yg9 K a.Gq):=by
 refine T.D7.F.okE yye (fun X H Q E h=>?_) (fun Y A u s H X Q E N h=>?_)
 .rcases h with ⟨x,n,rfl,_⟩ | ⟨l,xs,f,rfl,_⟩
  .rfl
  .rfl
 .rcases h with ⟨x,n,rfl,J,Z,k⟩ | ⟨l,xs,j,rfl,d,hz,o,S,v⟩
  .refine ⟨_,(yh (wa (PW.pt (ĥ (xw (xo (yq wq rfl T.A6 (by right) (yb (pv 0) (yb (zr (T:="list") rfl T.Aq (by right)) ye (ya rfl)) (ya rfl))))) (ĥ (xw (Ū zk zk yi (yq y6 rfl T.Ah (by right) (yb (pv 0) ye (ya rfl))) (vt rfl T.Dm))) (Ĕ (xw (xo (yq (zh rfl) rfl T.Dj (by right) (yb (we (js:=[]) (ys:=[]) rfl (w9 (pv 0)) (fun C R q O=>(y8 (yl5 T) (N.mono (by decide)) rfl T.D6.m T.D6.F.kp T.D6.B .nil vg (yb (pv 0) ye (ya rfl)))) rfl rfl (hyc:=yv) (hrel:=yv)) ye (ya rfl))))))))) (yf (w8 rfl T.R1 T.Q3 (yb wd ye (ya rfl)))) y9) (yf (yu (wt xp rfl T.Aq (by right) (yb (pv 0) ye (ya rfl)))))),?_⟩;refine yn (σ':=[some _]) rfl ?_;rfl';refine Ú J (yec J) ?_;rfl';refine ysj Z ?_;rfl';exact ⟨by walk_at "len",k⟩
  .refine ⟨_,(yh (wa (PW.pt (ĥ (xw (xo (yq wq rfl T.A6 (by right) (yb (pv 0) (yb (zr (T:="list") rfl T.Aq (by right)) ye (ya rfl)) (ya rfl))))) (ĥ (xw (Ū zk zk yi (yq y6 rfl T.Ah (by right) (yb (pv 0) ye (ya rfl))) (vt rfl T.Dm))) (Ĕ (xw (xo (yq (zh rfl) rfl T.Dj (by right) (yb (we (js:=[]) (ys:=[]) rfl (w9 (pv 0)) (fun C R q O=>(y8 (yl5 T) (N.mono (by decide)) rfl T.D6.m T.D6.F.kp T.D6.B .nil vg (yb (pv 0) ye (ya rfl)))) rfl rfl (hyc:=yv) (hrel:=yv)) ye (ya rfl))))))))) (yf (w8 rfl T.R1 T.Q3 (yb wd ye (ya rfl)))) y9) (yf (yu (wt xp rfl T.Aq (by right) (yb (pv 0) ye (ya rfl)))))),?_⟩;refine yn (σ':=[some _]) rfl ?_;rfl';refine Ú (.lst d) (yec (.lst d)) ?_;rfl';refine yq7 rfl ?_;rfl';refine zt (SqL.of d) ?_;rfl';refine za (fun W=>?_) (fun W=>?_)
   .rfl';refine ylv (fun U=>?_) (fun U=>?_)
    .rfl';refine ⟨l,rfl,⟨_,SqL.of d⟩,fun D I=>?_⟩;refine ux (K:=K) (xs:=xs) (Mp H D (fun i=>V.bl ((j[i]?).getD false))) (Mp.zero I) (fun _ _ _ p=>p.1.seq (SqL.of d)) (fun i y q t L p=>?_) (fun q p=>?_)
     .obtain ⟨c,b⟩:=p;have e:i < j.length:=by rw [<- o.1]; exact L
      rfl';refine ⟨y,j[i],rfl,(o.2 i y _ t (bJ e)).same c,fun H3 M=>?_⟩;refine Mp.doneR I (vq (by omega)) L (c.trans M) (M _ _ b) ?_;rw [bJ e];rfl
     obtain ⟨c,b⟩:=p;rw [ykg j o.1] at b;rfl';refine ⟨D,_,rfl,SqL.of b,?_⟩;have G:=c _ _ d
     cases hp:j.all id with
     | false =>
      rfl';exact ⟨by walk_at "len",v (by rw [hp]; rintro ⟨_,_,z⟩; cases z) _ c⟩
     | true =>
      rfl';refine yk3 (SqL.of G) fun r g=>?_;exact S ⟨by omega,by omega,hp⟩ r _ (c.free g) yc (c.trans (ve g))
    .rfl';exact ⟨by walk_at "len",v (by omega) _ (yx.refl _)⟩
   .rfl';exact ⟨by walk_at "len",v (by omega) _ (yx.refl _)⟩
theorem yyt:yk ["signs","place"] ["signs","place"] (yg yr3):=wv (by right)
inductive ydo (K:W.Frag) (vs:List V) (H:Hp) (Q:VK) (E':XK):Prop
 | mk (l:Addr) (sg:List Int) (p:Int):(vs=[.ref l,.int p])->(SqL K H l (sg.map V.int))->(1 <= p)->(Q (.int (yoj sg p)) H)->ydo K vs H Q E'
theorem yv8 (T:Txt K mg a):wb P w K mg base CX0 1 a.K3 a.K4 ["signs","place"] (ydo K):=by
 exists T.Ft.F.ok,yyt,n;obtain ⟨l,j,p,rfl,f,m,k⟩:=h;refine ⟨_,(yf (yu (π (yy zk (pv 1) (yq y6 rfl T.Ah (by right) (yb (pv 0) ye (ya rfl))) (vd _)) (ud ur (pv 0) (yyz yn1 (pv 1)) (fun _ _=>rfl)) (vt rfl T.Oc)))),?_⟩;exists 2,0;rfl';refine zt f ?_;rw [bH];rfl';unfold yoj at k;refine za (fun b=>?_) (fun b=>?_)
 .rw [if_pos b] at k;obtain ⟨c,e,_⟩:=yk4 m b;rw [e] at k;rfl';exact Ĥ f (by rw [yq2,e]; rfl) k
 .rw [if_neg b] at k;rfl';exact k
theorem yui:yk ["look","signs","node"] ["look","signs","node"] (yg ys5):=wv (by right)
def zq (K:W.Frag) (H:Hp) (k:Addr) (x:V) (ps:List Int):Prop:=∃ t,SqT K H k [x,.ref t]/\SqT K H t (ps.map V.int)/\(∀ p∈ps,1 <= p/\p <= 8)/\ps.length <= 4
theorem zq.same {H H':Hp} {k:Addr} {x:V} {ps:List Int} (S:yx H H') (h:zq K H k x ps):zq K H' k x ps:=by
 obtain ⟨t,c,b,d,a⟩:=h;exact ⟨t,S.tup c,S.tup b,d,a⟩
def ctx (ps sg:List Int) (nd:Int):List Int:=ps.map (yoj sg)++[nd]
def bkV (sg:List Int):V->V
 | .int p=>.int (yoj sg p)
 | _=>.non
theorem ypu (sg ps:List Int):(ps.map V.int).map (bkV sg)=(ps.map (yoj sg)).map V.int:=by
 rw [cu,cu];rfl
inductive Ĵ (K:W.Frag) (vs:List V) (H:Hp) (Q:VK) (E':XK):Prop
 | mk (k l:Addr) (x:V) (ps sg:List Int) (nd:Int):(vs=[.ref k,.ref l,.int nd])->(zq K H k x ps)->(SqL K H l (sg.map V.int))->(∀ r H',H r=none->H' r=some (.tup ((ctx ps sg nd).map V.int))->yx H H'->Q (.ref r) H')->Ĵ K vs H Q E'
theorem ywg (T:Txt K mg a):wb P w K mg base CX0 2 a.K5 a.K6 ["look","signs","node"] (Ĵ K):=by
 exists T.Fu.F.ok,yui,U;obtain ⟨Z,l,x,f,o,W,rfl,⟨t,N,J,g,R⟩,L,k⟩:=h;refine ⟨_,(yf (yu (wt γ rfl T.D3 (by right) (yb (yr yx9 (we (js:=[1]) (ys:=["signs"]) rfl (yez (ud u7 (pv 0) yi (fun _ _=>rfl))) (fun C Y I X=>(y8 (yv8 T) (U.mono (by decide)) rfl T.Ft.m T.Ft.F.kp T.Ft.B .nil vg (yb (pv 1) (yb (pv 0) ye (ya rfl)) (ya rfl)))) rfl rfl (hyc:=(all_cons rfl yv)) (hrel:=(all_cons rfl yv))) (xx (yb (pv 2) ye (ya rfl)))) ye (ya rfl))))),?_⟩;exists 3,0;rfl';refine Ė N (xc (j:=1) rfl) ?_;refine ⟨t,rfl,⟨_,J⟩,fun D z=>?_⟩;have v:(f.map V.int).length < sizeLine:=vq (by rw [bH]; omega);refine Ŀ (xs:=f.map V.int) (bkV o) J z (fun i y I G e b=>?_) (fun I e b=>?_)
 .obtain ⟨p,rfl,q,_,_⟩:=jo G;rfl';refine ⟨l,o,p,rfl,e.seq L,(g p q).1,?_⟩;exact Mp.done z v G e b rfl
 .rw [ypu] at b;rfl';refine ⟨by walk_at "len",fun n hn=>?_⟩
  with_reducible first | refine y7 hn fun H3 S3 hn3=>?_ | refine vk hn fun H3 S3 hn3=>?_
  refine ⟨D,n,_,_,rfl,rfl,S3 _ _ b,hn3,yck (by rw [bH,bH]; show _+1 <= _; omega),fun c hc=>?_⟩
  with_reducible first | refine y7 hc fun H4 S4 hc4=>?_ | refine vk hc fun H4 S4 hc4=>?_
  refine ⟨c,_,rfl,.inl ⟨SqL.of hc4,fun r d=>?_⟩⟩;have S:=e.trans (S3.trans S4);refine k r _ (S.free d) (yc.trans ?_) (S.trans (ve d));unfold ctx;rw [cj];rfl
theorem yw2:yk ["self","look"] ["self","look"] (yg ytf):=wv (by right)
inductive ybb (a:Ads) (vs:List V) (H:Hp) (Q:VK) (E':XK):Prop
 | mk (p dx lk:Addr) (kd:Fin 3):(vs=[.ref p,.ref lk])->(H p=some (.ins a.Ad dx []))->(∀ d H',H d=none->Û a H' p dx lk d kd (fun _=>none) (fun b=>b=d) 0->But p H H'->Q .non H')->ybb a vs H Q E'
theorem yxg (T:Txt K mg a):wb P w K mg base CX0 1 a.Hk a.K7 ["self","look"] (ybb a):=by
 exists T.Fv.F.ok,yw2,D;obtain ⟨p,j,i,t,rfl,B,k⟩:=h;refine ⟨_,(yh (vh (pv 0) (pv 1) rfl) (yf (vh (pv 0) ykb rfl))),?_⟩;exists 2,0;rfl';intro d l
 have f:H d=none:=by
  cases e:H d with
  | none=>rfl
  | some o =>
   by_cases z:d=p
   .rw [z,yc] at l; cases l
   .rw [ym z,e] at l; cases l
 have c:d≠p:=fun z=>by rw [z,B] at f; cases f
 have q:=zy (o':=HO.dT []) l (show upd H p (HO.ins a.Ad j ([("look",V.ref i)]:List (Str × V))) p=some (HO.ins a.Ad j ([("look",V.ref i)]:List (Str × V))) from yc);have g:upd (upd H p (HO.ins a.Ad j ([("look",V.ref i)]:List (Str × V)))) d (.dT []) d=some (.dT []):=yc;have r:But p H (upd (upd H p (HO.ins a.Ad j ([("look",V.ref i)]:List (Str × V)))) d (.dT [])):=fun b o e n=>by rw [ym (yd e f),ym n]; exact e
 generalize upd (upd H p (HO.ins a.Ad j ([("look",V.ref i)]:List (Str × V)))) d (.dT [])=C at q g r ⊢;rfl'
 refine k d _ f ⟨yc,fun b v=>⟨HO.dT [],by cases v; exact yj c g,rfl⟩,fun z=>c z.symm,rfl,fun y e=>(by cases (yj c g).symm.trans e; exact ⟨List.nodup_nil,fun _ z=>(nomatch z)⟩),[],fun _=>(0,0),yj c g,bL _,fun _ _=>rfl,fun _ _ z=>(nomatch z),fun _ _ _ _ z=>(nomatch z)⟩ (r.trans But.upd)
theorem yns:yk ["self","signs","node","context"] ["self","signs","node"] (yg ytg):=wv (by right)
inductive ya7 (K:W.Frag) (a:Ads) (vs:List V) (H:Hp) (Q:VK) (E':XK):Prop
 | mk (p dx lk d sl:Addr) (kd:Fin 3) (f:List Int->Option Slt) (O:Addr->Prop) (m:Nat) (ps sg:List Int) (nd:Int):(vs=[.ref p,.ref sl,.int nd])->(Û a H p dx lk d kd f O m)->(m < 1000000)->(zq K H lk (.str (kdS kd)) ps)->(SqL K H sl (sg.map V.int))->(∀ (q:Addr) (O':Addr->Prop) (H':Hp),Û a H' p dx lk d kd (Ž f (ctx ps sg nd) ((f (ctx ps sg nd)).getD (kd0 kd))) O' (m+1)->(∀ kvs,H' d=some (.dT kvs)->zb kvs (kI (ctx ps sg nd))=some (.ref q))->(∀ c,O' c->O c\/H c=none)->(∀ c,O c->O' c)->ylt O H H'->Q (.ref q) H')->ya7 K a vs H Q E'
theorem yxx (T:Txt K mg a):wb P w K mg base CX0 4 a.K8 a.K9 ["self","signs","node"] (ya7 K a):=by
 exists T.Hz.F.ok,yns,hr;obtain ⟨p,dx,lk,d,sl,I,f,O,m,ps,sg,nd,rfl,hb,hm,hl,hs,k⟩:=h;have aa:=hb.me;refine ⟨_,(yh (yw (i:=3) yns.nd rfl (Or.inl rfl) (y8 (ywg T) (hr.mono (by decide)) rfl T.Fu.m T.Fu.F.kp T.Fu.B .nil vg (yb (yp (pv 0) rfl) (yb (pv 1) (yb (pv 2) ye (ya rfl)) (ya rfl)) (ya rfl)))) (yh (zz (wa (ybh (ć (u8 hr) (pv 3) (yp (pv 0) rfl))) (yf (Ŵ (u8 hr) (yp (pv 0) rfl) (pv 3) (y8 (yvc T) (hr.mono (by decide)) rfl T.Fp.m T.Fp.F.kp T.Fp.B .nil vg (yb (ud u7 (yp (pv 0) rfl) yi (fun _ _=>rfl)) ye (ya rfl))) rfl)) y9)) (yf (yu (x9 (u8 hr) (yp (pv 0) rfl) (pv 3) (fun _ _=>rfl)))))),?_⟩;exists 3,1;rfl';refine ⟨lk,sl,_,ps,sg,nd,rfl,hl,hs,fun r H1 a9 a1 S1=>?_⟩;have l:H1 r=some (.tup ((kI (ctx ps sg nd)).map kV)):=by rw [yxc]; exact a1
 generalize ctx ps sg nd=b at l k;have g:=hb.same S1;have y:=g.me;rfl';refine yjp (fun σ' H'=>σ'=[some (.ref p),some (.ref sl),some (.int nd),some (.ref r)]/\∃ O',Û a H' p dx lk d I (Ž f b ((f b).getD (kd0 I))) O' (m+1)/\(∀ c,O' c->O c\/H c=none)/\(∀ c,O c->O' c)/\ylt O H H'/\H' r=some (.tup ((kI b).map kV))) ?_ ?_
 .obtain ⟨L,n,G,h2,U,R,h5⟩:=g.tb;rfl';refine ⟨d,_,rfl,Ø.t G l,?_⟩
  cases hf:f b with
  | none =>
   rw [U b hf];rfl';refine ħ ?_;rfl';obtain ⟨t,a0,ab,_,_⟩:=hl;refine Ė (S1.tup a0) (xc (j:=0) rfl) ?_;rfl';refine ⟨I,rfl,fun q dq H2 u Z M=>?_⟩;rfl';have N:=M _ _ y;rfl';refine ⟨d,_,rfl,yjq.t (M _ _ G) (M _ _ l) (vq (by omega)),?_⟩;have a6:=S1.trans M;have X:q≠d:=fun z=>by rw [z,G] at u; cases u
   have a2:p≠d:=fun z=>g.np (z ▸ g.dO);rfl';refine ⟨rfl,fun c=>O c\/c=q,⟨yj a2 N,fun c v=>?_,fun z=>?_,.inl g.dO,ytt.snoc (g.ky L G) (U b hf) yc,ż L (kI b) (.ref q),fun j=>if j=b then (q,dq) else n j,yc,?_,fun j J=>?_,fun j s' J=>?_,fun j1 Y s1 s2 e1 e2 x=>?_⟩,fun c v=>?_,fun c v=>.inl v,fun c o e no=>?_,yj (xb (M _ _ l) (M _ _ G) (by intro z; cases z)) (M _ _ l)⟩
   .rcases v with v | rfl
    .obtain ⟨o,ho,hi⟩:=g.own c v;by_cases z:c=d
     .rw [z];exact ⟨_,yc,rfl⟩
     .exact ⟨o,yj z (M _ _ ho),hi⟩
    .obtain ⟨C,fs,eo⟩:=ń a dq (kd0 I);exact ⟨_,yj X Z,by rw [eo]; rfl⟩
   .rcases z with z | z
    .exact g.np z
    .rw [z] at y;rw [y] at u;cases u
   .rw [â _ (U b hf),bP];show _+1 <= m+1;omega
   .unfold Ž at J
    split at J
    .cases J
    .rename_i hne
     rw [Ŭ,if_neg fun z=>hne (yms z)];exact U j J
   .unfold Ž at J
    split at J
    .rename_i he
     subst he;cases J;dsimp only;rw [if_pos rfl,Ŭ,if_pos rfl];exact ⟨rfl,yj X Z,yn3 I,yk5 I,.inr rfl⟩
    .rename_i hne
     obtain ⟨W,D,q3,q4,q5⟩:=R j s' J;dsimp only;rw [if_neg hne,Ŭ,if_neg fun z=>hne (yms z)]
     have a7:(n j).1≠d:=by
      obtain ⟨C,fs,eo⟩:=ń a (n j).2 s';rw [eo] at D;exact xb D G (by intro z; cases z)
     exact ⟨W,yj a7 (M _ _ D),q3,q4,.inl q5⟩
   .unfold Ž at e1 e2;dsimp only at x;by_cases z1:j1=b
    .by_cases z2:Y=b
     .rw [z1,z2]
     .rw [if_neg z2] at e2;rw [if_pos z1,if_neg z2] at x;obtain ⟨_,D,_⟩:=R Y s2 e2;have x:q=(n Y).1:=x;rw [<- x,u] at D;cases D
    .rw [if_neg z1] at e1;by_cases z2:Y=b
     .rw [if_neg z1,if_pos z2] at x;obtain ⟨_,D,_⟩:=R j1 s1 e1;have x:(n j1).1=q:=x;rw [x,u] at D;cases D
     .rw [if_neg z2] at e2;rw [if_neg z1,if_neg z2] at x;exact h5 j1 Y s1 s2 e1 e2 x
   .rcases v with v | rfl
    .exact .inl v
    .exact .inr (S1.free u)
   .exact yj (fun z=>no (z ▸ g.dO)) (a6 _ _ e)
  | some s' =>
   obtain ⟨W,D,q3,q4,q5⟩:=R b s' hf;rw [W];rfl';refine ⟨rfl,O,?_,fun c v=>.inl v,fun c v=>v,fun c o e _=>S1 _ _ e,l⟩
   have ef:Ž f b ((some s').getD (kd0 I))=f:=by
    funext j
    unfold Ž
    split
    .rename_i z
     rw [z,hf];rfl
    .rfl
   rw [ef];exact ⟨g.me,g.own,g.np,g.dO,g.ky,L,n,G,Nat.le_succ_of_le h2,U,R,h5⟩
 .rintro σ' H2 ⟨rfl,O',S,hO,hM,B2,a5⟩;have N:=S.me;obtain ⟨L,n,G,h2,U,R,h5⟩:=id S.tb;have a3:Ž f b ((f b).getD (kd0 I)) b=some ((f b).getD (kd0 I)):=by unfold Ž; rw [if_pos rfl]
  obtain ⟨W,D,q3,q4,q5⟩:=R b _ a3;rfl';refine ⟨d,_,rfl,by rw [<- W]; exact Ø.t G a5,?_⟩;exact k (n b).1 O' H2 S (fun a8 e=>by rw [G] at e; cases e; exact W) hO hM B2
theorem yt1:yk ["self","many"] ["self","many"] (yg ys7):=wv (by right)
theorem yv4 (T:Txt K mg a):wb P w K mg base CX0 1 a.Hl a.Ka ["self","many"] (ydx a):=by
 exists T.Fw.F.ok,yt1,m;obtain ⟨p,i,n,rfl,o,q,e,k⟩:=h;refine ⟨_,(yf (vh (pv 0) (yr ym2 (xx (yb (vt rfl T.Ew) ye (ya rfl))) (pv 1)) rfl)),?_⟩;exists 2,0;rfl';refine ⟨by walk_at "len",fun r hr0=>?_⟩
 with_reducible first | refine y7 hr0 fun H1 S1 e1=>?_ | refine vk hr0 fun H1 S1 e1=>?_
 rfl';refine ⟨r,n,_,rfl,rfl,e1,by omega,by omega,yck (by show 1 * (n:Int).toNat <= 16000000; omega),fun l hl=>?_⟩;rw [yg2]
 with_reducible first | refine y7 hl fun H2 S2 e2=>?_ | refine vk hl fun H2 S2 e2=>?_
 have b:=S1.trans S2;have j:=b _ _ e;rfl';have c:l≠p:=fun z=>by rw [z,S1 _ _ e] at hl; cases hl
 exact k l _ (S1.free hl) ⟨yc,yj c e2⟩ ((But.of b).trans But.upd)
theorem yx6:yk ["self","chances"] ["self","chances"] (yg yrh):=wv (by right)
theorem yvn (T:Txt K mg a):wb P w K mg base CX0 1 a.Kb a.Kc ["self","chances"] (ybc K a):=by
 exists T.I0.F.ok,yx6,hr;obtain ⟨p,dx,l,c,B,v,n,rfl,n1,Y,e,U,⟨hp,G⟩,N,k⟩:=h;refine ⟨_,(yf (yu (yr vj (yq (ν rfl) rfl T.Ev (by right) (yb (ydv (js:=[]) (ys:=[]) (xs:=["weight","chance"]) (g:=ytz K 2 (jh (xk 0) (jh (xk 1) ylu))) rfl (ymx rfl T.Im (yb (yp (pv 0) rfl) (yb (pv 1) ye (ya rfl)) (ya rfl))) (fun C S r R=>(yr wz (pv 0) (pv 1))) rfl (fun C S r R=>yex rfl (ug (w6 (i:=0) (show List.Nodup ((["weight","chance"]:List Str)++([]:List Str)) by right) rfl (Or.inl rfl)) (ug (w6 (i:=1) (show List.Nodup ((["weight","chance"]:List Str)++([]:List Str)) by right) rfl (Or.inl rfl)) Ÿ))) rfl (hyc:=yv) (hrel:=yv)) ye (ya rfl))) (yq (ν rfl) rfl T.Ev (by right) (yb (yp (pv 0) rfl) ye (ya rfl)))))),?_⟩;exists 2,0;have d:v.length=B.length:=by rw [e.len,U.len]
 rfl';refine ⟨l,c,rfl,⟨_,_,SqL.of G,N⟩,fun D L=>?_⟩;refine Ľ (fun i=>V.int ((B[i]?).getD 0 * (v[i]?).getD 0)) (SqL.of G) N (by rw [bH,bH,d]) L (fun i x y r z W hx hy j b m f=>?_) (fun r j b=>?_)
 .obtain ⟨v1,v2,rfl⟩:=yiu f;obtain ⟨w,rfl,O,Z,il⟩:=jo hx;obtain ⟨u,rfl,um,ui,_⟩:=jo hy;have w1:=e.one w O;have w2:=e.top w O;have M:=j.trans (ve (o:=HO.tup [V.int w,V.int u]) m);have t:=zy (o':=HO.tup [V.int w,V.int u]) m b;have q:upd r z (HO.tup [V.int w,V.int u]) z=some (.tup [V.int w,V.int u]):=yc;generalize upd r z (HO.tup [V.int w,V.int u])=H3 at M t q;refine yiz (SqT.of q) rfl ?_;show jh (xk 0) (jh (xk 1) ylu) [V.int w,V.int u] (v1 :: v2 :: xa [] [some (V.ref p),some (V.ref c)]) H3 _;rfl';refine ⟨⟨[some (.int w),some (.int u)],rfl,rfl⟩,?_⟩;rfl';refine Mp.doneR L (vq (by rw [bH,e.len]; omega)) (by rw [bH]; exact il) M t ?_;rw [Z,ui];rfl
 .have b:=ydl b (yly (g:=fun w c=>w * c) d);have X:=j _ _ hp;have J:=j _ _ G;have p1:=e.pos n1;have p2:=e.small Y;rfl';refine ⟨D,_,rfl,SqL.of b,?_⟩;rfl';refine ⟨l,_,rfl,SqL.of J,?_⟩;rfl';exact k _ j
theorem ň:yk ["self","chances","bit","shares","whole","own","grown","dropped"] ["self","chances","bit"] (yg yq4):=wv (by right)
theorem yuh (T:Txt K mg a):wb P w K mg base (CXe P w) 5 a.Kd a.Ke ["self","chances","bit"] (yat K a a.C3):=by
 exists T.I1.F.okE,ň,hr;obtain ⟨p,dx,l,c,I,r,n,x,m,rfl,n1,n6,hw,hc,⟨hp,hl⟩,hq,ty,k1,k2⟩:=h;refine yo (yt (vo (ē T) (hr.mono (by decide)) rfl T.Ao.m T.Ao.F.kp T.Ao.B .nil y0 (yb (pv 2) ye (ya rfl)))) ?_;refine yo (yjw (i:=3) (js:=[2]) (ys:=["bit"]) (xs:=["weight","chance"]) (g:=ytz K 2 (jh (xk 0) (jh (xk 1) ylu))) ň.nd rfl rfl rfl (ymx rfl T.Im (yb (yp (pv 0) rfl) (yb (pv 1) ye (ya rfl)) (ya rfl))) (fun C s2 L fp=>(yr wz (pv 0) (vo (yxp T) (hr.mono (by decide)) rfl T.Fl.m T.Fl.F.kp T.Fl.B .nil wc (yb (pv 1) (yb (pv 2) ye (ya rfl)) (ya rfl))))) rfl (fun C s2 L fp=>yex rfl (ug (w6 (i:=0) (show List.Nodup ((["weight","chance"]:List Str)++(["bit"]:List Str)) by right) rfl (Or.inl rfl)) (ug (w6 (i:=1) (show List.Nodup ((["weight","chance"]:List Str)++(["bit"]:List Str)) by right) rfl (Or.inl rfl)) Ÿ))) rfl (hyc:=(all_cons rfl yv)) (hrel:=(all_cons rfl yv))) ?_;refine yo (yw (i:=4) ň.nd rfl (Or.inr rfl) (yq (ν rfl) rfl T.Ev (by right) (yb (pv 3) ye (ya rfl)))) ?_;refine yo (yw (i:=5) ň.nd rfl (Or.inr rfl) (yr wz (vt rfl T.Io) (yq y6 rfl T.Ah (by right) (yb (pv 3) ye (ya rfl))))) ?_;refine yo (yea (i:=6) (js:=[4,5]) (ys:=["whole","own"]) ň.nd rfl rfl rfl (w9 (pv 3)) (fun C s2 L fp=>(yr vy (yr wz (pv 2) (pv 0)) (pv 1))) rfl rfl (hyc:=(all_cons rfl (all_cons rfl yv))) (hrel:=(all_cons rfl (all_cons rfl yv)))) ?_;refine yo (yw (i:=7) ň.nd rfl (Or.inr rfl) (yq (û rfl) rfl T.Il (by right) (yb (yr u6 (yjg PySem.F.plainAttrs_int PySem.F.slot_int_bit_length PySem.F.type_int_bit_length yqn (yq (ν rfl) rfl T.Ev (by right) (yb (pv 6) ye (ya rfl)))) (vt rfl T.Ey)) (yb yi ye (ya rfl)) (ya rfl)))) ?_;refine ⟨_,(yf (vh (pv 0) (we (js:=[7]) (ys:=["dropped"]) rfl (w9 (pv 6)) (fun C s2 L fp=>(yr ym1 (pv 0) (pv 1))) rfl rfl (hyc:=(all_cons rfl yv)) (hrel:=(all_cons rfl yv))) rfl)),?_⟩;exists 3,5;have q:r.length=I.length:=by rw [hw.len,hc.len]
 rfl';refine ⟨x,m,rfl,ty,fun hx=>?_,k2⟩;obtain ⟨b,rfl,b0,b1⟩:=yet hx;have k:=k1 b rfl b0 b1;rfl';refine ⟨l,c,rfl,⟨_,_,SqL.of hl,hq⟩,fun D hD=>?_⟩;refine Ľ (fun i=>V.int ((I[i]?).getD 0 * giv ((r[i]?).getD 0) b)) (SqL.of hl) hq (by rw [bH,bH,q]) hD (fun i x y L tt a8 hx R W d X U=>?_) (fun L W d=>?_)
 .obtain ⟨v1,v2,rfl⟩:=yiu U;obtain ⟨w,rfl,wm,wi,il⟩:=jo hx;obtain ⟨u,rfl,um,ui,_⟩:=jo R;have w1:=hw.one w wm;have w2:=hw.top w wm;have a7:=ye7 (yt6 hc um);have a5:=ycv b0 b1;have N:=W.trans (ve (o:=HO.tup [V.int w,V.int u]) X);have a2:=zy (o':=HO.tup [V.int w,V.int u]) X d;have a0:upd L tt (HO.tup [V.int w,V.int u]) tt=some (.tup [V.int w,V.int u]):=yc;generalize upd L tt (HO.tup [V.int w,V.int u])=H3 at N a2 a0;refine yiz (SqT.of a0) rfl ?_;show jh (xk 0) (jh (xk 1) ylu) [V.int w,V.int u] (v1 :: v2 :: xa [2] [some (V.ref p),some (V.ref c),some (V.int b),none,none,none,none,none]) H3 _;rfl';refine ⟨⟨[some (.int w),some (.int u)],rfl,rfl⟩,?_⟩;rfl';refine ⟨.int u,_,.int b,_,rfl,.int u,.int b,fun z=>(by rw [a7] at z; cases z),fun _ z=>(by rw [a5] at z; cases z),fun c' b' ec eb _ _=>?_⟩;cases ec;cases eb;rfl';refine Mp.doneR hD (vq (by rw [bH,hw.len]; omega)) (by rw [bH]; exact il) N a2 ?_;rw [wi,ui];rfl
 .have d:L D=some (.lst ((shL I r b).map V.int)):=ydl d (yly (g:=fun w c=>w * giv c b) q);have j:(shL I r b).length=n:=by rw [ycl q.symm,hw.len]
  have a3:=W _ _ hp;have ek:lrn I r b=(grL (shL I r b)).map fun v=>v / 2 ^ tOf (grL (shL I r b)).sum:=rfl;rw [ek] at k;generalize shL I r b=M at d j k;have eg:grL M=M.map fun s=>31 * (n:Int) * s+M.sum:=by rw [<- j]; rfl
  rfl';refine ⟨D,_,rfl,SqL.of d,?_⟩;rfl';refine zt (SqL.of d) ?_;rw [bH,j];rfl';refine ⟨D,rfl,⟨_,SqL.of d⟩,fun G hG=>?_⟩;refine zd (onI fun s=>31 * (n:Int) * s+M.sum) (SqL.of d) hG (fun i y H3 R N f=>?_) (fun H3 N f=>?_)
  .obtain ⟨s',rfl,_,_,il⟩:=jo R;show tOp _ _ _ (some (V.int s') :: xa [4,5] [some (V.ref p),some (V.ref c),some (V.int b),some (V.ref D),some (V.int M.sum),some (V.int (31 * (n:Int))),none,none]) H3 _;rfl';exact Mp.done hG (vq (by rw [bH,j]; omega)) R N f rfl
  .rw [yhw,<- eg] at f;have a1:(grL M).length=n:=by rw [yhl,j]
   generalize grL M=O at f k a1;have S:=N _ _ a3;rfl';refine ⟨G,_,rfl,SqL.of f,?_⟩;rfl';refine ⟨_,_,rfl,?_⟩
   have et:(if (0:Int) > ((Builtin.Int.intBits O.sum:Nat):Int) - 48 then (0:Int) else ((Builtin.Int.intBits O.sum:Nat):Int) - 48)=((tOf O.sum:Nat):Int):=by
    show _=(((yln O.sum) - 48:Nat):Int);have e:Builtin.Int.intBits O.sum=yln O.sum:=rfl;rw [e]
    split <;> omega
   rw [et];generalize tOf O.sum=t at k;rfl';refine ⟨G,rfl,⟨_,SqL.of f⟩,fun Z Y=>?_⟩;refine zd (onI fun v=>v / 2 ^ t) (SqL.of f) Y (fun i y H4 R S4 J=>?_) (fun H4 S4 J=>?_)
   .obtain ⟨s',rfl,_,_,il⟩:=jo R;show tOp _ _ _ (some (V.int s') :: xa [7] [some (V.ref p),some (V.ref c),some (V.int b),some (V.ref D),some (V.int M.sum),some (V.int (31 * (n:Int))),some (V.ref G),some (V.int (t:Int))]) H4 _;rfl';refine i_I (Int.natCast_nonneg t) ?_;exact Mp.done Y (vq (by rw [bH,a1]; omega)) R S4 J rfl
   .rw [yhw] at J;have a9:=S4 _ _ S;rfl';have nz:Z≠p:=fun z=>by rw [z,S] at Y; cases Y
    have a4:=W.trans (N.trans S4);exact k Z _ ((W.trans N).free Y) ⟨yc,yj nz J⟩ ((But.of a4).trans But.upd)
theorem yxy:yk ["self"] ["self"] (yg yr1):=wv (by right)
theorem Û.sqt {H H':Hp} {dx lk d:Addr} {kd:Fin 3} {f:List Int->Option Slt} {O:Addr->Prop} {m:Nat} (h:Û a H p dx lk d kd f O m) (B:ylt O H H') {t:Addr} {xs:List V} (e:SqT K H t xs):SqT K H' t xs:=by
 have i:∀ o:HO,H t=some o->yz1 o=false->H' t=some o:=fun o g j=>B _ _ g fun z=>by
  obtain ⟨k,b,c⟩:=h.own t z;rw [g] at b;cases b;rw [j] at c;cases c
 rcases e with (e | ⟨o,e⟩) | e
 .exact .inl (.inl (i _ e rfl))
 .exact .inl (.inr ⟨o,i _ e rfl⟩)
 .exact .inr e
theorem Û.up {H:Hp} {dx lk d:Addr} {kd:Fin 3} {f:List Int->Option Slt} {O:Addr->Prop} {m:Nat} (h:Û a H p dx lk d kd f O m) (hm:m <= m'):Û a H p dx lk d kd f O m':=by
 obtain ⟨b,c,g,e,i⟩:=h.tb;exact ⟨h.me,h.own,h.np,h.dO,h.ky,b,c,g,cn e hm,i⟩
theorem zq.mvT {H H':Hp} {k:Addr} {x:V} {ps:List Int} (h:zq K H k x ps) (h1:∀ t xs,SqT K H t xs->SqT K H' t xs):zq K H' k x ps:=by
 obtain ⟨t,d,a,b,c⟩:=h;exact ⟨t,h1 _ _ d,h1 _ _ a,b,c⟩
def refs (g:Nat->Addr) (n:Nat):List V:=(List.range n).map fun i=>V.ref (g i)
theorem wg (g:Nat->Addr) (n:Nat):(refs g n).length=n:=by unfold refs; rw [bH,cm]
theorem ja {g:Nat->Addr} {n:Nat} {x:V} (h:(refs g n)[i]?=some x):x=.ref (g i)/\i < n:=by
 have a:i < n:=by
  have:=(cM.mp h).1;rw [wg] at this;exact this
 unfold refs at h;rw [bN,cZ a] at h;exact ⟨(bX h).symm,a⟩
theorem uy (g:Nat->Addr) (n:Nat):refs g (n+1)=refs g n++[.ref (g n)]:=by
 unfold refs;rw [List.range_succ,cj];rfl
theorem uv {g h:Nat->Addr} {n:Nat} (e:∀ i,i < n->g i=h i):refs g n=refs h n:=by
 unfold refs;exact List.map_congr_left fun i a=>by rw [e i (cQ.mp a)]
structure Bks (K:W.Frag) (a:Ads) (H:Hp) (n:Nat) (bk dx lk dd:Nat->Addr) (kd:Nat->Fin 3) (ps:Nat->List Int) (f:Nat->List Int->Option Slt) (O:Nat->Addr->Prop) (m:Nat):Prop where
 look:∀ i,i < n->zq K H (lk i) (.str (kdS (kd i))) (ps i)
 b:∀ i,i < n->Û a H (bk i) (dx i) (lk i) (dd i) (kd i) (f i) (O i) m
 dj:∀ i j c,i < n->j < n->i≠j->O i c->¬ O j c
 nb:∀ i j,i < n->j < n->¬ O i (bk j)
def AtS (H:Hp) (d:Addr) (k:List Int) (q:Addr):Prop:=∀ kvs,H d=some (.dT kvs)->zb kvs (kI k)=some (.ref q)
theorem Û.slot {H:Hp} {dx lk d:Addr} {kd:Fin 3} {f:List Int->Option Slt} {O:Addr->Prop} {m:Nat} {k:List Int} {s:Slt} (h:Û a H p dx lk d kd f O m) (hf:f k=some s) (hq:AtS H d k q):∃ dq,H q=some (oS a dq s)/\s.ok/\s.kind=kd/\O q:=by
 obtain ⟨b,i,j,t,u,r,v⟩:=h.tb;obtain ⟨l,c,n,o,g⟩:=r k s hf;have e:=hq b j;rw [l] at e;injection e with e;injection e with e;subst e;exact ⟨_,c,n,o,g⟩
theorem Û.told {H H':Hp} {dx lk d:Addr} {kd:Fin 3} {f:List Int->Option Slt} {O:Addr->Prop} {m:Nat} {k:List Int} {s:Slt} {b:Int} (h:Û a H p dx lk d kd f O m) (hf:f k=some s) (hq:AtS H d k q) (b0:0 <= b) (b1:b <= 1)
  (h3:H' q=some (oS a dq (s.see b))) (B:But q H H'):Û a H' p dx lk d kd (Ž f k (s.see b)) O m:=by
 have D:=h.me;obtain ⟨r,l,v,W,E,L,I⟩:=id h.tb;obtain ⟨G,K,Q,q4,J⟩:=L k s hf;have e:=hq r v;rw [G] at e;injection e with e;injection e with e;have A:p≠q:=fun z=>h.np (by rw [z,<- e]; exact J)
 have u:d≠q:=fun z=>by
  obtain ⟨C,T,y⟩:=ń a (l k).2 s;rw [e,<- z,v,y] at K;cases K
 refine ⟨B _ _ D A,fun c P=>?_,h.np,h.dO,h.ky.mv v (B _ _ v u),r,fun j=>if j=k then (q,dq) else l j,B _ _ v u,W,fun j i=>?_,fun j n i=>?_,fun F x s1 M e1 e2 R=>?_⟩
 .obtain ⟨o,S,hi⟩:=h.own c P;by_cases z:c=q
  .rw [z];obtain ⟨C,T,y⟩:=ń a dq (s.see b);exact ⟨_,h3,by rw [y]; rfl⟩
  .exact ⟨o,B _ _ S z,hi⟩
 .refine E j ?_;unfold Ž at i
  split at i
  .cases i
  .exact i
 .unfold Ž at i;by_cases z:j=k
  .rw [if_pos z] at i;cases i;subst z;dsimp only;rw [if_pos rfl];exact ⟨by rw [G,e],h3,Slt.see_ok Q b0 b1,(ykl s b).trans q4,e ▸ J⟩
  .rw [if_neg z] at i;obtain ⟨p1,X,N,U,p5⟩:=L j n i;dsimp only;rw [if_neg z];exact ⟨p1,B _ _ X (fun w=>z (I j k n s i hf (w.trans e.symm))),N,U,p5⟩
 .have g:∀ j n,Ž f k (s.see b) j=some n->∃ t,f j=some t:=fun j n h=>by
   unfold Ž at h;by_cases z:j=k
   .exact ⟨s,by rw [z]; exact hf⟩
   .rw [if_neg z] at h;exact ⟨n,h⟩
  obtain ⟨t1,Z⟩:=g F s1 e1;obtain ⟨t2,Y⟩:=g x M e2;refine I F x t1 t2 Z Y ?_
  have yoj:∀ j,(if j=k then ((q,dq):Addr × Addr) else l j).1=(l j).1:=fun j=>by
   by_cases z:j=k
   .rw [if_pos z,z];exact e.symm
   .rw [if_neg z]
  rw [<- yoj F,<- yoj x];exact R
theorem AtS.told {H H':Hp} {dx lk d:Addr} {kd:Fin 3} {f:List Int->Option Slt} {O:Addr->Prop} {m:Nat} {k:List Int} (h:Û a H p dx lk d kd f O m) {r:Addr} (hd:d≠r) (B:But r H H') (hq:AtS H d k q):AtS H' d k q:=fun g e=>by
 obtain ⟨c,i,b,_⟩:=h.tb;rw [B _ _ b hd] at e;cases e;exact hq _ b
section
variable {H H':Hp} {n m:Nat} {bk dx lk dd:Nat->Addr} {kd:Nat->Fin 3} {ps:Nat->List Int} {f:Nat->List Int->Option Slt}
theorem Bks.frame (h:Bks K a H n bk dx lk dd kd ps f O m) {O2:Addr->Prop} (B:ylt O2 H H') (dj:∀ i b,i < n->O i b->¬ O2 b) (hp:∀ i,i < n->¬ O2 (bk i)) (ht:∀ t xs,SqT K H t xs->SqT K H' t xs):Bks K a H' n bk dx lk dd kd ps f O m :=
 ⟨fun i c=>(h.look i c).mvT ht,fun i c=>(h.b i c).frame B (fun b d=>dj i b c d) (hp i c),h.dj,h.nb⟩
theorem Bks.same (h:Bks K a H n bk dx lk dd kd ps f O m) (S:yx H H'):Bks K a H' n bk dx lk dd kd ps f O m :=
 h.frame (O2:=fun _=>False) (fun b o e _=>S b o e) (fun _ _ _ _ z=>z) (fun _ _ z=>z) fun _ _ e=>S.tup e
theorem Bks.move (h:Bks K a H n bk dx lk dd kd ps f O m) (hj:j < n) {f':List Int->Option Slt} {O':Addr->Prop} (hm:m <= m') (hb:Û a H' (bk j) (dx j) (lk j) (dd j) (kd j) f' O' m') (hO:∀ c,O' c->O j c\/H c=none) (B:ylt (O j) H H') :
  Bks K a H' n bk dx lk dd kd ps (fun i=>if i=j then f' else f i) (fun i=>if i=j then O' else O i) m':=by
 have y:=h.b j hj
 have g:∀ q c,q < n->q≠j->O q c->¬ O' c:=fun q c C A w E=>by
  rcases hO c E with v | v
  .exact h.dj q j c C hj A w v
  .obtain ⟨o,D,_⟩:=(h.b q C).own c w;rw [v] at D;cases D
 refine ⟨fun i d=>(h.look i d).mvT fun t F e=>y.sqt B e,fun i d=>?_,fun i l c d r s p k=>?_,fun i l d r e=>?_⟩
 .try dsimp only
  by_cases z:i=j
  .subst z;rw [if_pos rfl,if_pos rfl];exact hb
  .rw [if_neg z,if_neg z];exact ((h.b i d).frame B (fun b x=>h.dj i j b d hj z x) (h.nb j i hj d)).up hm
 .try dsimp only at p k
  by_cases z1:i=j
  .rw [if_pos z1] at p;have u:l≠j:=fun w=>s (z1.trans w.symm);rw [if_neg u] at k;exact g l c r u k p
  .rw [if_neg z1] at p;by_cases u:l=j
   .rw [if_pos u] at k;exact g i c d z1 p k
   .rw [if_neg u] at k;exact h.dj i l c d r s p k
 .try dsimp only at e
  by_cases z:i=j
  .rw [if_pos z] at e;rcases hO _ e with v | v
   .exact h.nb j l hj r v
   .rw [(h.b l r).me] at v;cases v
  .rw [if_neg z] at e;exact h.nb i l d r e
theorem AtS.move (h:Bks K a H n bk dx lk dd kd ps f O m) (hi:i < n) (hj:j < n) (hij:i≠j) (B:ylt (O j) H H') {k:List Int} (hq:AtS H (dd i) k q):AtS H' (dd i) k q:=fun g e=>by
 obtain ⟨d,l,c,_⟩:=(h.b i hi).tb;rw [B _ _ c (h.dj i j _ hi hj hij (h.b i hi).dO)] at e;cases e;exact hq _ c
theorem Bks.nlst (h:Bks K a H n bk dx lk dd kd ps f O m) {l:Addr} {xs:List V} (hl:H l=some (.lst xs)):∀ i,i < n->¬ O i l:=fun i e z=>by
 obtain ⟨o,d,c⟩:=(h.b i e).own l z;rw [hl] at d;cases d;cases c
end
def ylq (n:Nat) (kd:Nat->Fin 3) (f:Nat->List Int->Option Slt) (g:Nat->List Int->Slt):Prop:=∀ i,i < n->∀ k,(f i k).getD (kd0 (kd i))=g i k
theorem ylq.put {n:Nat} {kd:Nat->Fin 3} {f:Nat->List Int->Option Slt} {g:Nat->List Int->Slt} (h:ylq n kd f g) (j:Nat) (hj:j < n) (k:List Int):ylq n kd (fun i=>if i=j then Ž (f j) k ((f j k).getD (kd0 (kd j))) else f i) g:=fun i a b=>by
 dsimp only;by_cases z:i=j
 .subst z;rw [if_pos rfl];unfold Ž;by_cases w:b=k
  .rw [if_pos w,w];exact h i a k
  .rw [if_neg w];exact h i a b
 .rw [if_neg z];exact h i a b
inductive Ļ (K:W.Frag) (a:Ads) (vs:List V) (H:Hp) (Q:VK) (E':XK):Prop
 | mk (p dp ll bl mp el pl0:Addr) (nd:Int) (sg:List Int) (n m:Nat) (bk dx lk dd:Nat->Addr) (kd:Nat->Fin 3) (ps:Nat->List Int) (f:Nat->List Int->Option Slt) (O:Nat->Addr->Prop) (g:Nat->List Int->Slt):(vs=[.ref p])->(H p=some (.ins a.A4 dp (ė (.ref ll) (.ref bl) (.ref mp) (.ref el) (.int nd) (.ref pl0))))->(H bl=some (.lst (refs bk n)))->(H el=some (.lst (sg.map V.int)))->(Bks K a H n bk dx lk dd kd ps f O m)->(ylq n kd f g)->(n <= 6)->(m+10 < 1000000)->((∀ i,i < n->¬ O i p))->(∀ (pl:Addr) (sl:Nat->Addr) (f':Nat->List Int->Option Slt) (O':Nat->Addr->Prop) (H':Hp),H' p=some (.ins a.A4 dp (ė (.ref ll) (.ref bl) (.ref mp) (.ref el) (.int nd) (.ref pl)))->H' pl=some (.lst (refs sl n))->H pl=none ->
  Bks K a H' n bk dx lk dd kd ps f' O' (m+n)->ylq n kd f' g->(∀ j,j < n->(∃ s,f' j (ctx (ps j) sg nd)=some s)/\AtS H' (dd j) (ctx (ps j) sg nd) (sl j))->(∀ j c,j < n->O' j c->O j c\/H c=none) ->
  (∀ c o,H c=some o->c≠p->(∀ j,j < n->¬ O j c)->H' c=some o)->(∀ c o,H c=some o->∃ o',H' c=some o')->Q .non H')->Ļ K a vs H Q E'
theorem ynr (T:Txt K mg a):wb P w K mg base CX0 5 a.Kh a.Ki ["self"] (Ļ K a):=by
 exists T.Ec.F.ok,yxy,hr;obtain ⟨p,dp,ll,bl,mp,el,af,R,X,n,m,Z,dx,lk,dd,kd,L,f,O,g,rfl,hp,W,a0,hB,hA,n6,hm,np,k⟩:=h;refine ⟨_,(yf (vh (pv 0) (we (js:=[0]) (ys:=["self"]) rfl (w9 (yp (pv 0) rfl)) (fun C s2 H2 fp=>(xl (pv 0) T.Dh T.Hz.m (yxx T) (hr.mono (by decide)) T.Hz.B .nil vg (yb (yco (K:=K) rfl (pv 1) rfl) (yb (yco (K:=K) rfl (pv 1) rfl) ye (ya rfl)) (ya rfl)))) rfl rfl (hyc:=(all_cons rfl yv)) (hrel:=(all_cons rfl yv))) rfl)),?_⟩;exists 1,0;rfl';refine ⟨bl,rfl,⟨_,SqL.of W⟩,fun D M=>?_⟩;have ag:=hB.nlst W;have ad:=hB.nlst a0;refine ķ (K:=K) (xs:=refs Z n) (fun i G=>∃ (y:Nat->Addr) (N:Nat->List Int->Option Slt) (J:Nat->Addr->Prop),G D=some (.lst (refs y i))/\Bks K a G n Z dx lk dd kd L N J (m+i)/\ylq n kd N g/\(∀ j,j < i->(∃ s,N j (ctx (L j) X R)=some s)/\AtS G (dd j) (ctx (L j) X R) (y j)) /\
  (∀ j c,j < n->J j c->O j c\/H c=none)/\(∀ c o,H c=some o->(∀ j,j < n->¬ O j c)->G c=some o)/\(∀ c o,H c=some o->∃ o',G c=some o'))
  ⟨fun _=>0,f,O,yc,hB.same (ve M),hA,fun j d=>absurd d (cw j),fun j c _ z=>.inl z,fun c o e _=>zy M e,fun c o e=>⟨o,zy M e⟩⟩ (fun i G _ z=>?_) (fun i x G hx hi z=>?_) (fun G z=>?_)
 .obtain ⟨_,_,_,_,_,_,_,_,w,_⟩:=z;exact SqL.of (w _ _ W ag)
 .obtain ⟨y,N,J,gD,r,gA,gS,gO,gF,gL⟩:=z;obtain ⟨rfl,l⟩:=ja hx;have I:=gF _ _ hp np;have a2:=gF _ _ a0 ad;have ah:=(r.b i l).me;show ycy _ _ _ _ _ _ _ (some (V.ref (Z i)) :: xa [0] [some (V.ref p)]) G _;rfl';refine ⟨Z i,dx i,lk i,dd i,el,kd i,N i,J i,m+i,L i,X,R,rfl,r.b i l,by omega,r.look i l,SqL.of a2,fun q O2 G2 a1 hv a4 a9 B2=>?_⟩;have nD:=r.nlst gD;have u:G2 D=some (.lst (refs y i)):=B2 _ _ gD (nD i l);refine xn (n:=(refs Z n).length) u (vq (by rw [wg]; omega)) hi ?_;have M2:=r.move l (Nat.le_succ (m+i)) a1 a4 B2;have a7:=M2.nlst u;have S:∀ c o,G2 c=some o->c≠D->upd G2 D (.lst (refs y i++[V.ref q])) c=some o:=fun c o e U=>yj U e
  have M3:=M2.frame (O2:=fun c=>c=D) (fun c o e U=>S c o e U) (fun j c d w z=>a7 j d (z ▸ w)) (fun j d z=>by
   have:=(M2.b j d).me;rw [z,u] at this
   cases this) (fun t xs e=>by
   rcases e with (e | ⟨o,e⟩) | e
   .exact .inl (.inl (S _ _ e (fun z=>by rw [z,u] at e; cases e)))
   .exact .inl (.inr ⟨o,S _ _ e (fun z=>by rw [z,u] at e; cases e)⟩)
   .exact .inr e)
  have up:∀ j,j < n->AtS G2 (dd j) (ctx (L j) X R) (if j=i then q else y j)->AtS (upd G2 D (.lst (refs y i++[V.ref q]))) (dd j) (ctx (L j) X R) (if j=i then q else y j):=fun j d h =>
   h.told (M2.b j d) (fun z=>a7 j d (by rw [<- z]; exact (M2.b j d).dO)) (fun c o e U=>S c o e U)
  refine ⟨fun j=>if j=i then q else y j,_,_,?_,M3,gA.put i l _,fun j d=>?_,fun j c d w=>?_,fun c o e no=>?_,fun c o e=>?_⟩
  .rw [yc,uy,if_pos rfl]
   congr 3
   exact uv fun j d=>(if_neg (by omega)).symm
  .by_cases z:j=i
   .subst z;refine ⟨⟨(N j (ctx (L j) X R)).getD (kd0 (kd j)),?_⟩,up j l ?_⟩
    .try dsimp only
     rw [if_pos rfl];unfold Ž;rw [if_pos rfl]
    .rw [if_pos rfl];exact hv
   .have a6:j < n:=by omega
    obtain ⟨⟨s',ac⟩,ae⟩:=gS j (by omega);refine ⟨⟨s',?_⟩,up j a6 ?_⟩
    .try dsimp only
     rw [if_neg z];exact ac
    .rw [if_neg z];exact ae.move r a6 l z B2
  .try dsimp only at w
   by_cases z:j=i
   .subst z;rw [if_pos rfl] at w;rcases a4 c w with v | v
    .exact gO j c d v
    .refine .inr ?_
     cases e:H c with
     | none=>rfl
     | some o =>
      obtain ⟨o',w'⟩:=gL c o e;rw [w'] at v;cases v
   .rw [if_neg z] at w;exact gO j c d w
  .have hG:=gF c o e no
   have nc:¬ J i c:=fun w=>by
    rcases gO i c l w with v | v
    .exact no i l v
    .rw [e] at v;cases v
   refine S _ _ (B2 _ _ hG nc) (fun z=>?_);rw [z,M] at e;cases e
  .obtain ⟨o1,w1⟩:=gL c o e;have a3:c≠D:=fun z=>by rw [z,M] at e; cases e
   by_cases w2:J i c
   .obtain ⟨o2,ab,_⟩:=a1.own c (a9 c w2);exact ⟨o2,S _ _ ab a3⟩
   .exact ⟨o1,S _ _ (B2 _ _ w1 w2) a3⟩
 .obtain ⟨y,N,J,gD,r,gA,gS,gO,gF,gL⟩:=z;rw [wg] at gD r gS;have I:=gF _ _ hp np;rfl';have a8:D≠p:=fun z=>by rw [z,hp] at M; cases M
  have Y:But p G (upd G p (.ins a.A4 dp (ė (.ref ll) (.ref bl) (.ref mp) (.ref el) (.int R) (.ref D)))):=But.upd
  have a5:∀ i,i < n->¬ J i p:=fun i hi w=>by
   rcases gO i p hi w with v | v
   .exact np i hi v
   .rw [hp] at v; cases v
  have M3:=r.frame (O2:=fun c=>c=p) (fun c o e U=>Y c o e U) (fun j c d w z=>a5 j d (z ▸ w)) (fun j d z=>by
   have:=(r.b j d).me;rw [z,I] at this;injection this with this;injection this with _ _ e
   exact absurd (congrArg List.length e) (show ¬ (6=2) by decide)) (fun t xs e=>by
   rcases e with (e | ⟨o,e⟩) | e
   .exact .inl (.inl (Y _ _ e (fun z=>by rw [z,I] at e; cases e)))
   .exact .inl (.inr ⟨o,Y _ _ e (fun z=>by rw [z,I] at e; cases e)⟩)
   .exact .inr e)
  refine k D y N J _ yc (yj a8 gD) M M3 gA (fun j d=>⟨(gS j d).1,(gS j d).2.told (r.b j d) (fun z=>a5 j d (by rw [<- z]; exact (r.b j d).dO)) Y⟩) gO (fun c o e nc no=>Y _ _ (gF c o e no) nc) fun c o e=>?_;by_cases zc:c=p
  .rw [zc];exact ⟨_,yc⟩
  .obtain ⟨o1,w1⟩:=gL c o e;exact ⟨o1,Y _ _ w1 zc⟩
structure FA where
 dp:Addr
 ll:Addr
 bl:Addr
 mp:Addr
 mx:Addr
 ml:Addr
 el:Addr
 pl:Addr
 n:Nat
 bk:Nat->Addr
 dx:Nat->Addr
 lk:Nat->Addr
 dd:Nat->Addr
 sl:Nat->Addr
 kd:Nat->Fin 3
 ps:Nat->List Int
structure FX where
 g:Nat->List Int->Slt
 ws:List Int
 sg:List Int
 nd:Int
def FX.key (X:FX) (A:FA) (i:Nat):List Int:=ctx (A.ps i) X.sg X.nd
def FX.cs (X:FX) (A:FA):List Int:=(List.range A.n).map fun i=>(X.g i (X.key A i)).due
def ndN (nd b:Int):Int:=if 0 < nd then (if 256 <= 2 * nd+b then 0 else 2 * nd+b) else if b=1 then 1 else nd
def sgN (sg:List Int) (nd b:Int):List Int:=if 0 < nd then (if 256 <= 2 * nd+b then sg++[2 * nd+b - 256] else sg) else if b=1 then sg else []
def FX.see (X:FX) (A:FA) (b:Int):FX:={ g:=fun i k=>if k=X.key A i then (X.g i k).see b else X.g i k,ws:=lrn X.ws (X.cs A) b,sg:=sgN X.sg X.nd b,nd:=ndN X.nd b }
structure ut (K:W.Frag) (a:Ads) (H:Hp) (p:Addr) (A:FA) (X:FX) (f:Nat->List Int->Option Slt) (O:Nat->Addr->Prop) (m:Nat):Prop where
 me:H p=some (.ins a.A4 A.dp (ė (.ref A.ll) (.ref A.bl) (.ref A.mp) (.ref A.el) (.int X.nd) (.ref A.pl)))
 bl:H A.bl=some (.lst (refs A.bk A.n))
 el:H A.el=some (.lst (X.sg.map V.int))
 mx:yjt a A.mp A.mx A.ml X.ws H
 wok:WOk A.n X.ws
 pl:H A.pl=some (.lst (refs A.sl A.n))
 B:Bks K a H A.n A.bk A.dx A.lk A.dd A.kd A.ps f O m
 ag:ylq A.n A.kd f X.g
 at':∀ j,j < A.n->(∃ s,f j (X.key A j)=some s)/\AtS H (A.dd j) (X.key A j) (A.sl j)
 np:∀ i,i < A.n->¬ O i p
 nm:∀ i,i < A.n->¬ O i A.mp
 n1:1 <= A.n
 n6:A.n <= 6
theorem ut.same {H H':Hp} {A:FA} {X:FX} {f:Nat->List Int->Option Slt} {m:Nat} (h:ut K a H p A X f O m) (S:yx H H'):ut K a H' p A X f O m :=
 ⟨S _ _ h.me,S _ _ h.bl,S _ _ h.el,h.mx.same S,h.wok,S _ _ h.pl,h.B.same S,h.ag,fun j c=>⟨(h.at' j c).1,fun i e=>by
  obtain ⟨d,k,g,_⟩:=(h.B.b j c).tb;rw [S _ _ g] at e;cases e;exact (h.at' j c).2 _ g⟩,h.np,h.nm,h.n1,h.n6⟩
theorem ut.slot {H:Hp} {A:FA} {X:FX} {f:Nat->List Int->Option Slt} {m:Nat} (h:ut K a H p A X f O m) (hj:j < A.n) :
  f j (X.key A j)=some (X.g j (X.key A j))/\(∃ dq,H (A.sl j)=some (oS a dq (X.g j (X.key A j))))/\(X.g j (X.key A j)).ok/\O j (A.sl j):=by
 obtain ⟨⟨s,d⟩,c⟩:=h.at' j hj;have e:=h.ag j hj (X.key A j);rw [d] at e;have e:s=X.g j (X.key A j):=e;rw [<- e];obtain ⟨dq,k,i,o,l⟩:=(h.B.b j hj).slot d c;exact ⟨d,⟨dq,k⟩,i,l⟩
theorem ut.cok {H:Hp} {A:FA} {X:FX} {f:Nat->List Int->Option Slt} {m:Nat} (h:ut K a H p A X f O m):COk A.n (X.cs A):=by
 refine ⟨by unfold FX.cs; rw [bH,cm],fun c d=>?_,fun c d=>?_⟩
 .obtain ⟨j,b,rfl⟩:=bM.mp d;exact (yeq (h.slot (cQ.mp b)).2.2.1).1
 .obtain ⟨j,b,rfl⟩:=bM.mp d;exact (yeq (h.slot (cQ.mp b)).2.2.1).2
theorem LkG.at' {H:Hp} {lk tp:Addr} {kd:Fin 3} {ps:List Int} (h:LkG H (.ref lk) kd tp ps):zq K H lk (.str (kdS kd)) ps:=by
 obtain ⟨c,e,d,b,a⟩:=h;cases e;have a:=a;unfold zx at a;rw [cq,cq,List.all_eq_true] at a;refine ⟨tp,SqT.of d,SqT.of b,fun p f=>?_,by have:=of_decide_eq_true a.1.1; rw [bH] at this; exact this⟩;have w:=a.1.2 (.int p) (bM.mpr ⟨p,f,rfl⟩);have w:(decide (1 <= p) && decide (p <= 8))=true:=w;rw [cq] at w;exact ⟨of_decide_eq_true w.1,of_decide_eq_true w.2⟩
theorem Bks.snoc {H:Hp} {n m:Nat} {bk dx lk dd:Nat->Addr} {kd:Nat->Fin 3} {ps:Nat->List Int} {f:Nat->List Int->Option Slt} (h:Bks K a H n bk dx lk dd kd ps f O m)
  (hl:zq K H (lk n) (.str (kdS (kd n))) (ps n)) {q dq d:Addr} {f':List Int->Option Slt} {O':Addr->Prop} (hb:Û a H q dq (lk n) d (kd n) f' O' m) (dj:∀ j c,j < n->O j c->¬ O' c) (n1:∀ j,j < n->¬ O j q) (n2:∀ j,j < n->¬ O' (bk j)) :
  Bks K a H (n+1) (upN bk n q) (upN dx n dq) lk (upN dd n d) kd ps (upN f n f') (upN O n O') m:=by
 refine ⟨fun i p=>?_,fun i p=>?_,fun i j c p s r o l=>?_,fun i j p s e=>?_⟩
 .by_cases z:i=n
  .rw [z];exact hl
  .exact h.look i (by omega)
 .by_cases z:i=n
  .subst z;rw [xj,xj,xj,xj,xj];exact hb
  .have g:i < n:=by omega
   rw [xg g,xg g,xg g,xg g,xg g];exact h.b i g
 .by_cases z:i=n
  .subst z;have k:j < i:=by omega
   rw [xj] at o;rw [xg k] at l;exact dj j c k l o
  .have g:i < n:=by omega
   rw [xg g] at o;by_cases w:j=n
   .subst w;rw [xj] at l;exact dj i c g o l
   .have k:j < n:=by omega
    rw [xg k] at l;exact h.dj i j c g k r o l
 .by_cases z:i=n
  .subst z;rw [xj] at e;by_cases w:j=i
   .subst w;rw [xj] at e;exact hb.np e
   .have k:j < i:=by omega
    rw [xg k] at e;exact n2 j k e
  .have g:i < n:=by omega
   rw [xg g] at e;by_cases w:j=n
   .subst w;rw [xj] at e;exact n1 i g e
   .have k:j < n:=by omega
    rw [xg k] at e;exact h.nb i j g k e
def ylr (K:W.Frag) (a:Ads) (H G:Hp) (n:Nat) (bk dx lk dd:Nat->Addr) (kd:Nat->Fin 3) (ps:Nat->List Int) (f:Nat->List Int->Option Slt) (O:Nat->Addr->Prop):Prop :=
 Bks K a G n bk dx lk dd kd ps f O 0/\(∀ j k,j < n->f j k=none)/\(∀ j c,j < n->O j c->H c=none)/\(∀ j,j < n->H (bk j)=none)
theorem ylr.zero {H G:Hp} {bk dx lk dd:Nat->Addr} {kd:Nat->Fin 3} {ps:Nat->List Int} {f:Nat->List Int->Option Slt} :ylr K a H G 0 bk dx lk dd kd ps f O :=
 ⟨⟨fun i b=>absurd b (cw i),fun i b=>absurd b (cw i),fun i _ _ b=>absurd b (cw i),fun i _ b=>absurd b (cw i)⟩,fun i _ b=>absurd b (cw i),fun i _ b=>absurd b (cw i),fun i b=>absurd b (cw i)⟩
theorem ylr.next {H G G2:Hp} {n:Nat} {bk dx lk dd:Nat->Addr} {kd:Nat->Fin 3} {ps:Nat->List Int} {f:Nat->List Int->Option Slt} (h:ylr K a H G n bk dx lk dd kd ps f O) (hl:zq K G (lk n) (.str (kdS (kd n))) (ps n))
  (S:yx H G) {q dq d D:Addr} {xs ys:List V} (hq:G q=none) (hd:G d=none) (S2:yx G G2) (hb:Û a G2 q dq (lk n) d (kd n) (fun _=>none) (fun b=>b=d) 0) (hD:G D=some (.lst xs)) :
  ylr K a H (upd G2 D (.lst ys)) (n+1) (upN bk n q) (upN dx n dq) lk (upN dd n d) kd ps (upN f n fun _=>none) (upN O n fun b=>b=d):=by
 obtain ⟨r,y,u,x⟩:=h;have l:∀ j c,j < n->O j c->∃ o,G c=some o:=fun j c g w=>let ⟨o,m,_⟩:=(r.b j g).own c w; ⟨o,m⟩
 have M:=(r.same S2).snoc (hl.same S2) hb (fun j c g w z=>by
  obtain ⟨o,m⟩:=l j c g w;rw [show c=d from z,hd] at m
  cases m) (fun j g w=>by
  obtain ⟨o,m⟩:=l j q g w;rw [hq] at m
  cases m) (fun j g z=>by
  have e:=(r.b j g).me;rw [show bk j=d from z,hd] at e;cases e)
 have i:=S2 _ _ hD;have v:=M.nlst i;have p:∀ c o,G2 c=some o->c≠D->upd G2 D (.lst ys) c=some o:=fun c o e s=>yj s e;refine ⟨M.frame (O2:=fun c=>c=D) (fun c o e s=>p c o e s) (fun j c g w z=>v j g (z ▸ w)) (fun j g z=>?_) (fun t xs e=>?_),fun j k g=>?_,fun j c g w=>?_,fun j g=>?_⟩
 .have e:=(M.b j g).me;rw [z,i] at e;cases e
 .rcases e with (e | ⟨o,e⟩) | e
  .exact .inl (.inl (p _ _ e (fun z=>by rw [z,i] at e; cases e)))
  .exact .inl (.inr ⟨o,p _ _ e (fun z=>by rw [z,i] at e; cases e)⟩)
  .exact .inr e
 .by_cases z:j=n
  .rw [z,xj]
  .rw [xg (by omega)];exact y j k (by omega)
 .by_cases z:j=n
  .rw [z,xj] at w;rw [show c=d from w];exact S.free hd
  .rw [xg (by omega)] at w;exact u j c (by omega) w
 .by_cases z:j=n
  .rw [z,xj];exact S.free hq
  .rw [xg (by omega)];exact x j (by omega)
theorem ylr.ag {H G:Hp} {n:Nat} {bk dx lk dd:Nat->Addr} {kd:Nat->Fin 3} {ps:Nat->List Int} {f:Nat->List Int->Option Slt} (h:ylr K a H G n bk dx lk dd kd ps f O):ylq n kd f (fun i _=>kd0 (kd i)):=fun i b k=>by
 rw [h.2.1 i k b];rfl
def FX0 (n:Nat) (kd:Nat->Fin 3):FX:={ g:=fun i _=>kd0 (kd i),ws:=List.replicate n 1099511627776,sg:=[],nd:=0 }
theorem ykj {g:Nat->Addr} {n:Nat} {x:V} (h:x∈refs g n):∃ i,i < n/\x=.ref (g i):=by
 unfold refs at h;obtain ⟨i,a,e⟩:=bM.mp h;exact ⟨i,cQ.mp a,e.symm⟩
theorem ue.lks {H:Hp} {n:Nat} {lk:Nat->Addr} {kd:Nat->Fin 3} {ps:Nat->List Int} (h:ue H n lk kd tp ps):Lks H (refs lk n):=fun y b=>by
 obtain ⟨i,a,rfl⟩:=ykj b;exact ⟨_,_,_,h i a⟩
theorem ut.frame {H H':Hp} {A:FA} {X:FX} {f:Nat->List Int->Option Slt} {m:Nat} (h:ut K a H p A X f O m) {O2:Addr->Prop} (B:ylt O2 H H') (hp:¬ O2 p) (hm:¬ O2 A.mp) (hb:∀ i,i < A.n->¬ O2 (A.bk i))
  (dj:∀ i c,i < A.n->O i c->¬ O2 c) (hl:∀ l xs,(l=A.bl\/l=A.el\/l=A.ml\/l=A.pl)->H l=some (.lst xs)->H' l=some (.lst xs)) (ht:∀ t xs,SqT K H t xs->SqT K H' t xs):ut K a H' p A X f O m :=
 ⟨B _ _ h.me hp,hl _ _ (.inl rfl) h.bl,hl _ _ (.inr (.inl rfl)) h.el,⟨B _ _ h.mx.o hm,hl _ _ (.inr (.inr (.inl rfl))) h.mx.l⟩,h.wok,hl _ _ (.inr (.inr (.inr rfl))) h.pl,h.B.frame B (fun i c r w=>dj i c r w) hb ht,h.ag,fun j d=>⟨(h.at' j d).1,fun q e=>by
  obtain ⟨g,s,k,_⟩:=(h.B.b j d).tb;rw [B _ _ k (dj j _ d (h.B.b j d).dO)] at e;cases e;exact (h.at' j d).2 _ k⟩,h.np,h.nm,h.n1,h.n6⟩
theorem yqs {G:Hp} {t c:Addr} {xs ys zs:List V} (hc:G c=some (.lst ys)) (e:SqT K G t xs):SqT K (upd G c (.lst zs)) t xs:=by
 rcases e with (e | ⟨o,e⟩) | e
 .exact .inl (.inl (yj (xb e hc (by intro z; cases z)) e))
 .exact .inl (.inr ⟨o,yj (xb e hc (by intro z; cases z)) e⟩)
 .exact .inr e
theorem ut.app {H:Hp} {R:Addr} {A:FA} {X:FX} {f:Nat->List Int->Option Slt} {m:Nat} {xs ys:List V} (h:ut K a H p A X f O m) (hR:H R=some (.lst xs)) (hq:∀ q,(q=A.bl\/q=A.el\/q=A.ml\/q=A.pl)->q≠R):ut K a (upd H R (.lst ys)) p A X f O m:=by
 refine h.frame (O2:=fun c=>c=R) (fun c o e g=>yj g e) (fun z=>?_) (fun z=>?_) (fun i d z=>?_) (fun i c d w z=>h.B.nlst hR i d (z ▸ w)) (fun l xs w e=>yj (hq l w) e) (fun t xs e=>yqs hR e)
 .have e:=h.me;rw [z,hR] at e;cases e
 .have e:=h.mx.o;rw [z,hR] at e;cases e
 .have e:=(h.B.b i d).me;rw [z,hR] at e;cases e
theorem yzm (n:Nat) (n1:1 <= n) (n6:n <= 6):WOk n (List.replicate n 1099511627776):=by
 refine ⟨List.length_replicate,fun w h=>?_,fun w h=>?_⟩ <;> (rw [List.eq_of_mem_replicate h]; decide)
theorem ywn:yk ["self","looks"] ["self","looks"] (yg yrt):=wv (by right)
structure vc9 (K:W.Frag) (a:Ads) (H H':Hp) (p:Addr) (n:Nat) (lk:Nat->Addr) (kd:Nat->Fin 3) (ps:Nat->List Int) (A:FA) (f:Nat->List Int->Option Slt) (O:Nat->Addr->Prop):Prop where
 ft:ut K a H' p A (FX0 n kd) f O 6
 en:A.n=n
 elk:A.lk=lk
 ekd:A.kd=kd
 eps:A.ps=ps
 oO:∀ j c,j < n->O j c->H c=none
 oB:∀ j,j < n->H (A.bk j)=none
 oM:H A.mp=none
 oL:∀ l,(l=A.bl\/l=A.el\/l=A.ml\/l=A.pl)->H l=none
 lo:H' A.ll=some (.lst (refs lk n))/\A.ll≠A.el/\H A.ll=none
inductive ū (K:W.Frag) (a:Ads) (vs:List V) (H:Hp) (Q:VK) (E:XK):Prop
 | mk (p dp:Addr) (x:V):(vs=[.ref p,x])->(H p=some (.ins a.A4 dp []))->(((vde K H x/\∀ H',yx H H'->E (.ref a.Gq) none H')\/∃ (l:Addr) (n:Nat) (lk:Nat->Addr) (kd:Nat->Fin 3) (tp:Nat->Addr) (ps:Nat->List Int),x=.ref l/\H l=some (.lst (refs lk n))/\1 <= n/\n <= 6/\ue H n lk kd tp ps /\
  ∀ A f O H',vc9 K a H H' p n lk kd ps A f O->But p H H'->Q .non H'))->ū K a vs H Q E
theorem yny (T:Txt K mg a):wb P w K mg base (CXe P w) 6 a.Hm a.Kg ["self","looks"] (ū K a):=by
 exists T.Eb.F.okE,ywn,hr;obtain ⟨p,f,x,rfl,hp,h⟩:=h;refine yo (vh (pv 0) (vo (ynn T) (hr.mono (by decide)) rfl T.D7.m T.D7.F.kp T.D7.B .nil y0 (yb (pv 1) ye (ya rfl))) rfl) ?_;refine yo (vh (pv 0) (we (js:=[]) (ys:=[]) rfl (w9 (yp (pv 0) rfl)) (fun C s2 H2 fp=>(ycx T.Qi (yxg T) (hr.mono (by decide)) rfl T.Qh T.Fv.B .nil vg (yb (pv 0) ye (ya rfl)))) rfl rfl (hyc:=yv) (hrel:=yv)) rfl) ?_;refine yo (vh (pv 0) (ycx T.Sb (yv4 T) (hr.mono (by decide)) rfl T.Sa T.Fw.B .nil vg (yb (yq y6 rfl T.Ah (by right) (yb (yp (pv 0) rfl) ye (ya rfl))) ye (ya rfl))) rfl) ?_;refine yo (vh (pv 0) (xx ye) rfl) ?_;refine yo (vh (pv 0) yi rfl) ?_;refine yo (vh (pv 0) (xx ye) rfl) ?_;refine ⟨_,(yf (yt (w4 (pv 0) T.Aj T.Ec.m (ynr T) (hr.mono (by decide)) T.Ec.B .nil vg))),?_⟩;exists 2,0;rfl';rcases h with ⟨hb,k⟩ | ⟨l,n,lk,kd,tp,ps,rfl,hl,n1,n6,ar,k⟩
 .rcases hb with ⟨nm,ty,hn⟩ | ⟨l,xs,bs,rfl,hl,hz,aL,no⟩
  .exact .inl ⟨x,nm,rfl,ty,hn,k _ (yx.refl _)⟩
  .exact .inr ⟨l,xs,bs,rfl,hl,hz,aL,fun z=>absurd z no,fun _ H' S=>k _ S⟩
 .refine .inr ⟨l,refs lk n,List.replicate (refs lk n).length true,rfl,hl,by rw [wg]; omega,ar.lks.bs,fun _ g H1 ak aw S1=>?_,fun no=>absurd ⟨by rw [wg]; exact n1,by rw [wg]; exact n6,yid _⟩ no⟩;have aY:=S1 _ _ hp;have aW:=ar.same S1;rfl';have U:upd H1 p (HO.ins a.A4 f ([("looks",V.ref g)]:List (Str × V))) p=some (HO.ins a.A4 f ([("looks",V.ref g)]:List (Str × V))):=yc;have BA:But p H1 (upd H1 p (HO.ins a.A4 f ([("looks",V.ref g)]:List (Str × V)))):=But.upd;have a2:g≠p:=(yd hp ak).symm;have I:upd H1 p (HO.ins a.A4 f ([("looks",V.ref g)]:List (Str × V))) g=some (.lst (refs lk n)):=yj a2 aw;generalize upd H1 p (HO.ins a.A4 f ([("looks",V.ref g)]:List (Str × V)))=HA at U BA I ⊢;have a4:But p H HA:=(But.of S1).trans BA
  have aT:ue HA n lk kd tp ps:=fun i hi=>by
   obtain ⟨q,e,h1,h2,h3⟩:=ar i hi;exact ⟨q,e,a4 _ _ h1 (xb h1 hp (by intro z; cases z)),a4 _ _ h2 (xb h2 hp (by intro z; cases z)),h3⟩
  refine ⟨p,_,f,_,_,rfl,U,T.Aj,T.Bx,rfl,?_⟩;refine ⟨g,rfl,⟨_,SqL.of I⟩,fun u a1=>?_⟩;refine ux (K:=K) (xs:=refs lk n) (fun i G=>∃ (bk dx dd:Nat->Addr) (f2:Nat->List Int->Option Slt) (O2:Nat->Addr->Prop),G u=some (.lst (refs bk i))/\ylr K a HA G i bk dx lk dd kd ps f2 O2/\yx HA G)
   ⟨fun _=>0,fun _=>0,fun _=>0,fun _ _=>none,fun _ _=>False,yc,ylr.zero,ve a1⟩ (fun i G _ z=>?_) (fun i y G hy hi z=>?_) (fun G z=>?_)
  .obtain ⟨_,_,_,_,_,_,_,SG⟩:=z;exact SqL.of (SG _ _ I)
  .obtain ⟨bk,dx,dd,f2,O2,a9,gN,SG⟩:=z;obtain ⟨rfl,aU⟩:=ja hy;rfl';intro q dq nq aP b0;have SQ:yx G (upd (upd G dq (.own q)) q (.ins a.Ad dq [])):=fun b o e=>by rw [ym (yd e nq),ym (yd e aP)]; exact e
   refine ⟨q,dq,lk i,kd i,rfl,yc,fun d G2 aH aI B2=>⟨rfl,?_⟩⟩;have an:yx G G2:=fun b o e=>B2 b o (SQ b o e) (yd e nq);refine xn (n:=(refs lk n).length) (an _ _ a9) (vq (by rw [wg]; omega)) hi ?_;refine ⟨_,_,_,_,_,?_,gN.next ((aT i aU).same SG).at' SG nq (SQ.free aH) an aI a9,fun b o e=>yj (yd e a1) (an _ _ (SG b o e))⟩;rw [yc,uy,xj]
   congr 3
   exact uv fun j r=>(xg r).symm
  obtain ⟨bk,dx,dd,f2,O2,a9,gN,SG⟩:=z;rw [wg] at a9 gN;have aB:=SG _ _ U;rfl';have aG:∀ c o,HA c=some o->c≠p->upd G p (HO.ins a.A4 f ([("looks",V.ref g),("books",V.ref u)]:List (Str × V))) c=some o:=fun c o e J=>yj J (SG _ _ e);have a7:upd G p (HO.ins a.A4 f ([("looks",V.ref g),("books",V.ref u)]:List (Str × V))) p=some (HO.ins a.A4 f ([("looks",V.ref g),("books",V.ref u)]:List (Str × V))):=yc;have af:u≠p:=(yd U a1).symm;have al:upd G p (HO.ins a.A4 f ([("looks",V.ref g),("books",V.ref u)]:List (Str × V))) u=some (.lst (refs bk n)):=yj af a9;have BP:∀ {fs:List (Str × V)},But p G (upd G p (HO.ins a.A4 f fs)):=But.upd
  have ad:∀ j,j < n->¬ O2 j p:=fun j r w=>by
   have e:=gN.2.2.1 j p r w;rw [U] at e;cases e
  have aC:∀ {G':Hp},But p G G'->Bks K a G' n bk dx lk dd kd ps f2 O2 0:=fun {G'} B=>gN.1.frame (O2:=fun c=>c=p) (fun c o e J=>B c o e J) (fun j c r w z=>ad j r (z ▸ w)) (fun j r z=>by
   have e:=gN.2.2.2 j r;rw [z,U] at e
   cases e) (fun t xs e=>by
   rcases e with (e | ⟨o,e⟩) | e
   .exact .inl (.inl (B _ _ e (fun z=>by rw [z,aB] at e; cases e)))
   .exact .inl (.inr ⟨o,B _ _ e (fun z=>by rw [z,aB] at e; cases e)⟩)
   .exact .inr e)
  have BB:But p G (upd G p (HO.ins a.A4 f ([("looks",V.ref g),("books",V.ref u)]:List (Str × V)))):=But.upd;generalize upd G p (HO.ins a.A4 f ([("looks",V.ref g),("books",V.ref u)]:List (Str × V)))=HB at aG a7 al BB ⊢;refine ⟨p,_,f,_,_,rfl,a7,T.Aj,T.Bx,rfl,?_⟩;refine zt (SqL.of (aG _ _ I a2)) ?_;rw [wg];rfl';intro D mx aa aN aX;have SM:yx HB (upd (upd HB mx (.own D)) D (.ins a.C6 mx [])):=fun b o e=>by rw [ym (yd e aa),ym (yd e aN)]; exact e
  refine ⟨D,mx,n,rfl,n1,n6,yc,fun ml HC ay MC BC=>⟨rfl,?_⟩⟩;have SC:yx HB HC:=fun b o e=>BC b o (SM b o e) (yd e aa);have aZ:=SC _ _ a7;have av:=SC _ _ al;have a6:HB ml=none:=SM.free ay;have N:D≠p:=(yd a7 aa).symm;have Y:ml≠p:=(yd a7 a6).symm;rfl';refine ⟨by walk_at "len",fun M Z=>?_⟩;have X:M≠p:=fun z=>by rw [z,yc] at Z; cases Z
  have W:HC M=none:=by rw [ym X] at Z; exact Z
  have aS:upd (upd HC p (HO.ins a.A4 f ([("looks",V.ref g),("books",V.ref u),("mixer",V.ref D)]:List (Str × V)))) M (.lst []) p=some (HO.ins a.A4 f ([("looks",V.ref g),("books",V.ref u),("mixer",V.ref D)]:List (Str × V))):=yj X.symm yc;have ah:upd (upd HC p (HO.ins a.A4 f ([("looks",V.ref g),("books",V.ref u),("mixer",V.ref D)]:List (Str × V)))) M (.lst []) M=some (.lst []):=yc;have BD:But p HC (upd (upd HC p (HO.ins a.A4 f ([("looks",V.ref g),("books",V.ref u),("mixer",V.ref D)]:List (Str × V)))) M (.lst [])):=fun b o e J=>yj (yd e W) (yj J e);generalize upd (upd HC p (HO.ins a.A4 f ([("looks",V.ref g),("books",V.ref u),("mixer",V.ref D)]:List (Str × V)))) M (.lst [])=HD at aS ah BD ⊢;rfl';refine ⟨by walk_at "len",fun L a0=>?_⟩;have au:L≠p:=fun z=>by rw [z,yc] at a0; cases a0
  have am:HD L=none:=by rw [ym au,ym au] at a0; exact a0
  have aR:upd (upd (upd HD p (HO.ins a.A4 f ([("looks",V.ref g),("books",V.ref u),("mixer",V.ref D),("ended",V.ref M)]:List (Str × V)))) p (HO.ins a.A4 f ([("looks",V.ref g),("books",V.ref u),("mixer",V.ref D),("ended",V.ref M),("place",V.int 0)]:List (Str × V)))) L (.lst []) p=some (HO.ins a.A4 f ([("looks",V.ref g),("books",V.ref u),("mixer",V.ref D),("ended",V.ref M),("place",V.int 0)]:List (Str × V))):=yj au.symm yc;have BE:But p HD (upd (upd (upd HD p (HO.ins a.A4 f ([("looks",V.ref g),("books",V.ref u),("mixer",V.ref D),("ended",V.ref M)]:List (Str × V)))) p (HO.ins a.A4 f ([("looks",V.ref g),("books",V.ref u),("mixer",V.ref D),("ended",V.ref M),("place",V.int 0)]:List (Str × V)))) L (.lst [])):=fun b o e J=>yj (yd e am) (yj J (yj J e));generalize upd (upd (upd HD p (HO.ins a.A4 f ([("looks",V.ref g),("books",V.ref u),("mixer",V.ref D),("ended",V.ref M)]:List (Str × V)))) p (HO.ins a.A4 f ([("looks",V.ref g),("books",V.ref u),("mixer",V.ref D),("ended",V.ref M),("place",V.int 0)]:List (Str × V)))) L (.lst [])=HE at aR BE ⊢;rfl';have BF:But p HE (upd HE p (.ins a.A4 f (ė (.ref g) (.ref u) (.ref D) (.ref M) (.int 0) (.ref L)))):=But.upd;have a5:upd HE p (.ins a.A4 f (ė (.ref g) (.ref u) (.ref D) (.ref M) (.int 0) (.ref L))) p=some (.ins a.A4 f (ė (.ref g) (.ref u) (.ref D) (.ref M) (.int 0) (.ref L))):=yc;generalize upd HE p (.ins a.A4 f (ė (.ref g) (.ref u) (.ref D) (.ref M) (.int 0) (.ref L)))=HF at a5 BF ⊢;have ae:But p HC HF:=(BD.trans BE).trans BF;have a3:But p G HF:=fun b o e J=>ae b o (SC _ _ (BB b o e J)) J;have aF:=ae _ _ MC.o N;have aA:=ae _ _ MC.l Y;have aq:=ae _ _ av af;have ap:=BF _ _ (BE _ _ ah X) X;refine ⟨p,f,g,u,D,M,L,0,[],n,0,bk,dx,lk,dd,kd,ps,f2,O2,fun i _=>kd0 (kd i),rfl,a5,aq,ap,aC a3,gN.ag,n6,by omega,ad,fun pl sl f' O' H' aK aO ai B' aQ aV ac F' L'=>?_⟩
  have a8:∀ {c:Addr},c≠p->HF c=none->G c=none:=fun {c} J h=>by
   cases e:G c with
   | none=>rfl
   | some o=>rw [a3 _ _ e J] at h; cases h
  have ao:∀ j c,j < n->O2 j c->∃ o,G c=some o:=fun j c r w=>let ⟨o,ho,_⟩:=(gN.1.b j r).own c w; ⟨o,ho⟩
  have nO:∀ {c:Addr} {o:HO},HF c=some o->yz1 o=false->∀ j,j < n->¬ O2 j c:=fun {c o} e hi j r w=>by
   obtain ⟨o',az,aD⟩:=((aC a3).b j r).own c w;rw [e] at az;cases az;rw [hi] at aD;cases aD
  have ax:∀ j,j < n->¬ O2 j D:=fun j r w=>by
   obtain ⟨o,ho⟩:=ao j D r w;have e:=BB _ _ ho N;rw [aa] at e;cases e
  have O:∀ {c:Addr},c≠p->HA c=none->H c=none:=fun {c} J h=>by
   cases e:H c with
   | none=>rfl
   | some o=>rw [a4 _ _ e J] at h; cases h
  have R:∀ {c:Addr},G c=none->HA c=none:=fun {c} h=>SG.free h
  have ab:∀ {c:Addr},c≠p->HB c=none->G c=none:=fun {c} J h=>by
   cases e:G c with
   | none=>rfl
   | some o=>rw [BB _ _ e J] at h; cases h
  have aE:∀ {c:Addr},HC c=none->HB c=none:=fun {c} h=>SC.free h;refine k ⟨f,g,u,D,mx,ml,M,pl,n,bk,dx,lk,dd,sl,kd,ps⟩ f' O' H' ⟨⟨aK,F' _ _ aq af (nO aq rfl),F' _ _ ap X (nO ap rfl),⟨F' _ _ aF N ax,F' _ _ aA Y (nO aA rfl)⟩,?_,aO,⟨B'.look,fun i hi=>(B'.b i hi).up (by omega),B'.dj,B'.nb⟩,aQ,aV,fun j r w=>?_,fun j r w=>?_,n1,n6⟩,rfl,rfl,rfl,rfl,fun j c r w=>?_,fun j r=>?_,?_,fun c hc=>?_,F' _ _ (a3 _ _ (SG _ _ I) a2) a2 (nO (a3 _ _ (SG _ _ I) a2) rfl),yd (SC _ _ (BB _ _ (SG _ _ I) a2)) W,ak⟩ ?_
  .exact yzm n n1 n6
  .rcases ac j p r w with v | v
   .exact ad j r v
   .rw [a5] at v; cases v
  .rcases ac j D r w with v | v
   .exact ax j r v
   .rw [aF] at v; cases v
  .have as:c≠p:=fun z=>by
    rw [z] at w;rcases ac j p r w with v | v
    .exact ad j r v
    .rw [a5] at v; cases v
   rcases ac j c r w with v | v
   .exact O as (gN.2.2.1 j c r v)
   .exact O as (R (a8 as v))
  .have aJ:bk j≠p:=fun z=>by
    have e:=gN.2.2.2 j r;rw [z,U] at e;cases e
   exact O aJ (gN.2.2.2 j r)
  .exact O N (R (ab N aa))
  .rcases hc with z | z | z | z
   .rw [z];exact O af a1
   .rw [z];exact O X (R (ab X (aE W)))
   .rw [z];exact O Y (R (ab Y a6))
   .rw [z];have aj:pl≠p:=(yd a5 ai).symm;exact O aj (R (a8 aj ai))
  .intro c o e J;refine F' c o (a3 _ _ (SG _ _ (a4 c o e J)) J) J fun j r w=>?_;have e2:=gN.2.2.1 j c r w;rw [a4 c o e J] at e2;cases e2
theorem ycr:∀ (ts:List Int) (q j:Nat) (s:Int),ts[q]?=some s->j <= 8->(dec ts)[9 * q+j]?=(1 :: b8 s)[j]?
 | [],_,_,_,h,_=>by simp at h
 | t :: r,0,j,s,h,hj=>by
  have e:t=s:=by simpa using h
  subst e;show ((1 :: b8 t)++dec r)[9 * 0+j]?=_;rw [Nat.mul_zero,Nat.zero_add,List.getElem?_append_left (by rw [cy,yne]; omega)]
 | t :: r,q+1,j,s,h,hj=>by
  have b:r[q]?=some s:=by simpa using h
  show ((1 :: b8 t)++dec r)[9 * (q+1)+j]?=_;have a:(1 :: b8 t).length=9:=rfl;rw [c8 (by rw [a]; omega),a,show 9 * (q+1)+j - 9=9 * q+j by omega];exact ycr r q j s b hj
theorem yp1 (ts:List Int):(dec ts)[9 * ts.length]?=some 0:=by
 rw [ylo,c8 (by rw [je]; exact bL _),je,Nat.sub_self];rfl
def ybo (ts:List Int) (k:Nat) (sg:List Int) (nd:Int):Prop:=∃ q j:Nat,k=9 * q+j/\j <= 8/\sg=ts.take q/\((j=0/\nd=0/\q <= ts.length)\/(1 <= j/\∃ s,ts[q]?=some s/\nd=(256+s) / 2 ^ (9 - j)))
theorem va9 {s P c:Int} (h:0 <= s/\s <= 255) (hP:2 <= P) (hc:P * (2 * c)=256) (c1:1 <= c/\c <= 64):0 < (256+s) / (2 * P)/\2 * ((256+s) / (2 * P))+s / P % 2 < 256/\2 * ((256+s) / (2 * P))+s / P % 2=(256+s) / P:=by
 have a:(256+s) / P=s / P+2 * c:=by rw [<- hc,Int.add_comm,Int.add_mul_ediv_left _ _ (by omega)]
 have b:(256+s) / (2 * P)=(s / P+2 * c) / 2:=by rw [<- a,Int.ediv_ediv_of_nonneg (show 0 <= P by omega),Int.mul_comm]
 have e:=Int.ediv_nonneg h.1 (show 0 <= P by omega);have d:=Int.ediv_lt_of_lt_mul (show 0 < P by omega) (show s < 128 * P by omega);rw [a,b];generalize s / P=y at e d;clear hc a b hP h;omega
theorem nd9 {s:Int} (h:0 <= s/\s <= 255) (h1:1 <= j) (hj:j <= 8):0 < (256+s) / 2 ^ (9 - j)/\(256+s) / 2 ^ (9 - j) < 256:=by
 have a:∀ j,j < 9->1 <= j->(2:Int) <= 2 ^ (9 - j)/\(2:Int) ^ (9 - j) <= 256:=by decide
 obtain ⟨b,c⟩:=a j (Nat.lt_succ_of_le hj) h1;generalize (2:Int) ^ (9 - j)=K at b c;exact ⟨Int.le_ediv_of_mul_le (by omega) (by omega),Int.ediv_lt_of_lt_mul (by omega) (by omega)⟩
theorem ybo.zero (ts:List Int):ybo ts 0 [] 0:=⟨0,0,rfl,by omega,by simp,.inl ⟨rfl,rfl,cb _⟩⟩
theorem ybo.nd {k:Nat} {sg:List Int} {nd:Int} (h:ybo ts k sg nd) (hs:Sgs ts):0 <= nd/\nd < 256:=by
 obtain ⟨q,j,_,d,_,h⟩:=h;rcases h with ⟨_,h,_⟩ | ⟨e,s,c,h⟩
 .omega
 .obtain ⟨a,b⟩:=nd9 (hs s (cc c)) e d;rw [h];exact ⟨Int.le_of_lt a,b⟩
theorem ybo.len {k:Nat} {sg:List Int} {nd:Int} (h:ybo ts k sg nd):sg.length <= ts.length:=by
 obtain ⟨q,j,_,_,a,_⟩:=h;rw [a,cg];omega
theorem ybo.next {k:Nat} {sg:List Int} {nd b:Int} (h:ybo ts k sg nd) (hs:Sgs ts) (hb:(dec ts)[k]?=some b) :
  (k < 9 * ts.length/\ybo ts (k+1) (sgN sg nd b) (ndN nd b))\/(k=9 * ts.length/\sgN sg nd b=[]/\ndN nd b=0):=by
 obtain ⟨q,j,r,u,g,h⟩:=h;rcases h with ⟨w,d,B⟩ | ⟨D,s,a,d⟩
 .subst w;rcases Nat.lt_or_ge q ts.length with m | m
  .refine .inl ⟨by omega,?_⟩;have e:=ycr ts q 0 ts[q] (bJ m) (by omega);rw [<- r,hb] at e;have e:b=1:=by simpa using e
   have:=hs ts[q] (cE m);unfold sgN ndN;rw [if_neg (by omega),if_pos e,if_neg (by omega),if_pos e];refine ⟨q,1,by omega,by omega,g,.inr ⟨by omega,ts[q],bJ m,?_⟩⟩;simp only [Nat.reduceSub,Int.reducePow];omega
  .have p:q=ts.length:=by omega
   have e:=yp1 ts;rw [<- p,show 9 * q=k by omega,hb] at e;have e:b=0:=by simpa using e
   refine .inr ⟨by omega,?_,?_⟩
   .unfold sgN;rw [if_neg (by omega),if_neg (by omega)]
   .unfold ndN;rw [if_neg (by omega),if_neg (by omega)];exact d
 .have n:=hs s (cc a);have m:q < ts.length:=(cM.mp a).1;have e:=ycr ts q j s a u;rw [<- r,hb] at e
  have l:some b=(b8 s)[j - 1]?:=by
   obtain ⟨i,rfl⟩:∃ i,j=i+1:=⟨j - 1,by omega⟩;simpa using e
  refine .inl ⟨by omega,?_⟩;by_cases h8:j=8
  .subst h8;have l:b=s / 1 % 2:=bX l;simp only [Nat.reduceSub,Int.reducePow] at d;have A:2 * nd+b=256+s:=by omega
   unfold sgN ndN;rw [if_pos (by omega),if_pos (by omega),if_pos (by omega),if_pos (by omega)];refine ⟨q+1,0,by omega,by omega,?_,.inl ⟨rfl,rfl,by omega⟩⟩;rw [g,show 2 * nd+b - 256=s by omega,Ä a]
  .have o:0 < nd/\2 * nd+b < 256/\2 * nd+b=(256+s) / 2 ^ (9 - (j+1)):=by
    have k:∀ P c:Int,2 <= P->P * (2 * c)=256->1 <= c/\c <= 64->nd=(256+s) / (2 * P)->b=s / P % 2->0 < nd/\2 * nd+b < 256/\2 * nd+b=(256+s) / P:=fun P c x y z e f=>by
     rw [e,f];exact va9 n x y z
    clear r hb e g m hs;obtain rfl | rfl | rfl | rfl | rfl | rfl | rfl:j=1\/j=2\/j=3\/j=4\/j=5\/j=6\/j=7:=by omega
    .exact k 128 1 (by decide) rfl (by decide) d (bX l)
    .exact k 64 2 (by decide) rfl (by decide) d (bX l)
    .exact k 32 4 (by decide) rfl (by decide) d (bX l)
    .exact k 16 8 (by decide) rfl (by decide) d (bX l)
    .exact k 8 16 (by decide) rfl (by decide) d (bX l)
    .exact k 4 32 (by decide) rfl (by decide) d (bX l)
    .exact k 2 64 (by decide) rfl (by decide) d (bX l)
   obtain ⟨t,C,v⟩:=o;unfold sgN ndN;rw [if_pos t,if_neg (by omega),if_pos t,if_neg (by omega)];exact ⟨q,j+1,by omega,by omega,g,.inr ⟨by omega,s,a,v⟩⟩
theorem ut.up {H:Hp} {A:FA} {X:FX} {f:Nat->List Int->Option Slt} {m:Nat} (h:ut K a H p A X f O m) (hm:m <= m'):ut K a H p A X f O m' :=
 ⟨h.me,h.bl,h.el,h.mx,h.wok,h.pl,⟨h.B.look,fun i c=>(h.B.b i c).up hm,h.B.dj,h.B.nb⟩,h.ag,h.at',h.np,h.nm,h.n1,h.n6⟩
structure Lw (K:W.Frag) (a:Ads) (H:Hp) (p:Addr) (A:FA) (X:FX) (f:Nat->List Int->Option Slt) (O:Nat->Addr->Prop) (m:Nat) (bk dx dd:Nat->Addr) (f2:Nat->List Int->Option Slt) (O2:Nat->Addr->Prop) (mp mx ml:Addr) (ws:List Int):Prop where
 ft:ut K a H p A X f O m
 bs:Bks K a H A.n bk dx A.lk dd A.kd A.ps f2 O2 m
 mx:yjt a mp mx ml ws H
 dj:∀ i j c,i < A.n->j < A.n->O i c->¬ O2 j c
 n1:∀ i j,i < A.n->j < A.n->¬ O i (bk j)
 n2:∀ i j,i < A.n->j < A.n->¬ O2 i (A.bk j)
 n3:∀ i,i < A.n->¬ O2 i p/\¬ O2 i A.mp/\¬ O2 i mp/\¬ O i mp
 n4:mp≠A.mp
 n5:ml≠A.el
section
variable {H H':Hp} {A:FA} {X:FX} {f:Nat->List Int->Option Slt} {m:Nat} {bk dx dd:Nat->Addr} {f2:Nat->List Int->Option Slt} {mp mx ml:Addr} {ws:List Int}
theorem ub {C d e:Addr} {fs gs:List (Str × V)} (hp:H p=some (.ins C d fs)) (hq:H q=some (.ins D e gs)) (hl:fs.length≠gs.length):p≠q:=fun z=>by
 rw [z,hq] at hp;injection hp with hp;injection hp with _ _ e;exact hl (congrArg List.length e).symm
end
def KpA (B G:Hp) (e0 e:Addr):Prop:=∀ c o,B c=some o->yz1 o=false->c≠e0->c≠e/\G c=some o
theorem KpA.lst {B G:Hp} {e0 e c:Addr} {xs:List V} (h:KpA B G e0 e) (hc:B c=some (.lst xs)) (ne:c≠e0):G c=some (.lst xs):=(h c _ hc rfl ne).2
def TxE (ts:List Int) (k:Nat) (sg:List Int) (nd:Int):Prop:=(k <= 9 * ts.length/\ybo ts k sg nd)\/(k=9 * ts.length+1/\sg=[]/\nd=0)
theorem TxE.next {k:Nat} {sg:List Int} {nd b:Int} (h:TxE ts k sg nd) (hs:Sgs ts) (hb:(dec ts)[k]?=some b):ybo ts k sg nd/\TxE ts (k+1) (sgN sg nd b) (ndN nd b):=by
 rcases h with ⟨c,h⟩ | ⟨c,_⟩
 .refine ⟨h,?_⟩;rcases h.next hs hb with ⟨d,a⟩ | ⟨d,a,e⟩
  .exact .inl ⟨by omega,a⟩
  .exact .inr ⟨by omega,a,e⟩
 .rw [c,cC (by rw [x3]; exact bL _)] at hb;cases hb
theorem ywh:yk ["self"] ["self"] (yg yrc):=wv (by right)
inductive ò (K:W.Frag) (a:Ads) (vs:List V) (H:Hp) (Q:VK) (E':XK):Prop
 | mk (p:Addr) (A:FA) (X:FX) (f:Nat->List Int->Option Slt) (O:Nat->Addr->Prop) (m:Nat):(vs=[.ref p])->(ut K a H p A X f O m)->(∀ r H',H r=none->H' r=some (.lst ((X.cs A).map V.int))->yx H H'->Q (.ref r) H')->ò K a vs H Q E'
theorem ym4 (T:Txt K mg a):wb P w K mg base CX0 2 a.Kj a.Kk ["self"] (ò K a):=by
 exists T.Ed.F.ok,ywh,o;obtain ⟨p,c,X,f,O,m,rfl,h,k⟩:=h;have N:=h.me;have L:=h.n6;refine ⟨_,(yf (yu (we (js:=[]) (ys:=[]) rfl (w9 (yp (pv 0) rfl)) (fun C J r I=>(ye4 (w4 (pv 0) T.C4 T.Ht.m (yw5 T) (o.mono (by decide)) T.Ht.B .nil vg) (ye4 (w4 (pv 0) T.Cv T.Hv.m (yyp T) (o.mono (by decide)) T.Hv.B .nil vg) (w4 (pv 0) T.Cw T.Hx.m (yx8 T) (o.mono (by decide)) T.Hx.B .nil vg)))) rfl rfl (hyc:=yv) (hrel:=yv)))),?_⟩;exists 1,0;rfl';refine ⟨c.pl,rfl,⟨_,SqL.of h.pl⟩,fun D e=>?_⟩;refine ux (K:=K) (xs:=refs c.sl c.n) (Mp H D (fun i=>V.int (X.g i (X.key c i)).due)) (Mp.zero e) (fun _ _ _ q=>q.1.seq (SqL.of h.pl)) (fun i y r x z q=>?_) (fun r q=>?_)
 .obtain ⟨d,b⟩:=q;obtain ⟨rfl,l⟩:=ja x;obtain ⟨_,⟨R,u⟩,t,_⟩:=h.slot l;refine ygm (fun M h=>yy4 rfl h) (d _ _ u) t ?_;exact Mp.doneR e (vq (by rw [wg]; omega)) z d b rfl
 .obtain ⟨d,b⟩:=q;rw [wg] at b;refine k D _ e ?_ d;rw [b];unfold FX.cs;rw [cu];rfl
theorem yt8:yk ["self"] ["self"] (yg yrm):=wv (by right)
inductive ļ (K:W.Frag) (a:Ads) (vs:List V) (H:Hp) (Q:VK) (E':XK):Prop
 | mk (p:Addr) (A:FA) (X:FX) (f:Nat->List Int->Option Slt) (O:Nat->Addr->Prop) (m:Nat):(vs=[.ref p])->(ut K a H p A X f O m)->(∀ H',yx H H'->Q (.int (yol X.ws (X.cs A))) H')->ļ K a vs H Q E'
theorem ynv (T:Txt K mg a):wb P w K mg base CX0 3 a.Kl a.Km ["self"] (ļ K a):=by
 exists T.Ee.F.ok,yt8,e;obtain ⟨p,b,X,f,O,m,rfl,h,k⟩:=h;have v:=h.me;have q:=h.mx.o;refine ⟨_,(yf (yu (xl (yp (pv 0) rfl) T.Ig T.I0.m (yvn T) (e.mono (by decide)) T.I0.B .nil vg (yb (w4 (pv 0) T.Aj T.Ed.m (ym4 T) (e.mono (by decide)) T.Ed.B .nil vg) ye (ya rfl))))),?_⟩;exists 1,0;rfl';refine ⟨p,b,X,f,O,m,rfl,h,fun r x t d g=>?_⟩;rfl';exact ⟨b.mp,b.mx,b.ml,r,X.ws,X.cs b,b.n,rfl,h.n1,h.n6,h.wok,h.cok,h.mx.same g,SqL.of d,fun u j=>k _ (g.trans j)⟩
theorem ywp:yk ["self","bit"] ["self","bit"] (yg ysb):=wv (by right)
inductive yik (a:Ads) (vs:List V) (H:Hp) (Q:VK) (E':XK):Prop
 | mk (p dp ll bl mp el pl:Addr) (nd b:Int) (sg:List Int):(vs=[.ref p,.int b])->(H p=some (.ins a.A4 dp (ė (.ref ll) (.ref bl) (.ref mp) (.ref el) (.int nd) (.ref pl))))->(H el=some (.lst (sg.map V.int)))->(sg.length <= 100000)->(0 < nd)->(∀ H',H' p=some (.ins a.A4 dp (ė (.ref ll) (.ref bl) (.ref mp) (.ref el) (.int (ndN nd b)) (.ref pl)))->H' el=some (.lst ((sgN sg nd b).map V.int))->(∀ c o,H c=some o->c≠p->c≠el->H' c=some o)->Q .non H')->yik a vs H Q E'
theorem yw0 (T:Txt K mg a):wb P w K mg base CX0 1 a.Kr a.Ks ["self","bit"] (yik a):=by
 exists T.I3.F.ok,ywp,O;obtain ⟨p,m,l,n,q,i,r,j,b,y,rfl,J,D,M,B,k⟩:=h;refine ⟨_,(yh (vh (pv 0) (yr vy (yr wz yi (yp (pv 0) rfl)) (pv 1)) rfl) (yf (wa (yy vay (yp (pv 0) rfl) (vt rfl T.Dx) (vd _)) (yh (yt (ĕ PySem.F.plainAttrs_list PySem.F.slot_list_append PySem.F.type_list_append xi (yp (pv 0) rfl) (yb (yr u6 (yp (pv 0) rfl) (vt rfl T.Dx)) ye (ya rfl)))) (yf (vh (pv 0) yi rfl))) y9))),?_⟩;exists 2,0;unfold ndN sgN at k;rw [if_pos B,if_pos B] at k;have g:i≠p:=xb D J (by intro z; cases z);rfl';have f:upd H p (.ins a.A4 m (ė (.ref l) (.ref n) (.ref q) (.ref i) (.int (2 * j+b)) (.ref r))) p=some (.ins a.A4 m (ė (.ref l) (.ref n) (.ref q) (.ref i) (.int (2 * j+b)) (.ref r))):=yc;have d:=yj (o':=HO.ins a.A4 m (ė (.ref l) (.ref n) (.ref q) (.ref i) (.int (2 * j+b)) (.ref r))) g D;have v:But p H (upd H p (.ins a.A4 m (ė (.ref l) (.ref n) (.ref q) (.ref i) (.int (2 * j+b)) (.ref r)))):=But.upd;generalize upd H p (.ins a.A4 m (ė (.ref l) (.ref n) (.ref q) (.ref i) (.int (2 * j+b)) (.ref r)))=N at f d v ⊢;rfl';refine za (fun t=>?_) (fun t=>?_)
 .rw [if_pos t,if_pos t] at k;rfl';refine Ì d ?_;rfl';refine x5 d (vq (by rw [bH]; omega)) ?_;have G:=yj (o':=HO.lst (List.map V.int y++[V.int (2 * j+b - 256)])) (Ne.symm g) f;rfl';refine k _ yc ?_ fun c o e u C=>yj u (yj C (v _ _ e u));rw [ym g,yc,cj];rfl
 .rw [if_neg t,if_neg t] at k;rfl';exact k _ f d fun c o e u C=>v _ _ e u
theorem yux:yk ["self","bit"] ["self","bit"] (yg yse):=wv (by right)
inductive yds (a:Ads) (vs:List V) (H:Hp) (Q:VK) (E':XK):Prop
 | mk (p dp ll bl mp el pl:Addr) (nd b:Int) (sg:List Int):(vs=[.ref p,.int b])->(H p=some (.ins a.A4 dp (ė (.ref ll) (.ref bl) (.ref mp) (.ref el) (.int nd) (.ref pl))))->(H el=some (.lst (sg.map V.int)))->(sg.length <= 100000)->(0 <= nd)->(∀ (el':Addr) H',(el'=el\/H el'=none)->H' p=some (.ins a.A4 dp (ė (.ref ll) (.ref bl) (.ref mp) (.ref el') (.int (ndN nd b)) (.ref pl)))->H' el'=some (.lst ((sgN sg nd b).map V.int))->(∀ c o,H c=some o->c≠p->c≠el->H' c=some o)->(∃ o,H' el=some o)->Q .non H')->yds a vs H Q E'
theorem ywt (T:Txt K mg a):wb P w K mg base CX0 2 a.Kp a.Kq ["self","bit"] (yds a):=by
 exists T.I2.F.ok,yux,U;obtain ⟨p,v,u,C,G,g,I,D,b,x,rfl,j,i,O,W,k⟩:=h;refine ⟨_,(yf (wa (yy yf3 (yp (pv 0) rfl) yi (vd _)) (yf (yt (xl (pv 0) T.Aj T.I3.m (yw0 T) (U.mono (by decide)) T.I3.B .nil vg (yb (pv 1) ye (ya rfl))))) (yf (wa (yy x0 (pv 1) yi (vd _)) (yf (vh (pv 0) yi rfl)) (yf (vh (pv 0) (xx ye) rfl)))))),?_⟩;exists 2,0;have d:g≠p:=xb i j (by intro z; cases z);rfl';refine za (fun l=>?_) (fun l=>?_)
 .rfl';exact ⟨p,v,u,C,G,g,I,D,b,x,rfl,j,i,O,l,fun M N y L=>k g M (.inl rfl) N y L ⟨_,y⟩⟩
 .unfold ndN sgN at k;rw [if_neg l,if_neg l] at k;rfl';refine za (fun f=>?_) (fun f=>?_)
  .rw [if_pos f,if_pos f] at k;rfl';exact k g _ (.inl rfl) yc (yj d i) (fun c o e n _=>yj n e) ⟨_,yj d i⟩
  .rw [if_neg f,if_neg f] at k;rfl';refine ⟨by walk_at "len",fun r hr0=>?_⟩
   with_reducible first | refine y7 hr0 fun H1 S1 e1=>?_ | refine vk hr0 fun H1 S1 e1=>?_
   have J:=S1 _ _ j;rfl';have q:r≠p:=fun z=>by rw [z,j] at hr0; cases hr0
   exact k r _ (.inr hr0) yc (yj q e1) (fun c o e n _=>yj n (S1 _ _ e)) ⟨_,yj d (S1 _ _ i)⟩
abbrev FA.re (A:FA) (ml el pl:Addr) (sl:Nat->Addr):FA:={ A with ml:=ml,el:=el,pl:=pl,sl:=sl }
def FX.run (A:FA) (X:FX):List Int->FX
 | []=>X
 | b :: r=>FX.run A (X.see A b) r
theorem j5 (A:FA):∀ (bs cs:List Int) (X:FX),X.run A (bs++cs)=(X.run A bs).run A cs
 | [],_,_=>rfl
 | b :: r,cs,X=>j5 A r cs (X.see A b)
theorem yk2 (A:FA) (bs:List Int) (b:Int) (X:FX):X.run A (bs++[b])=(X.run A bs).see A b:=j5 A bs [b] X
def fa0 (n:Nat) (ps:Nat->List Int):FA:={ dp:=0,ll:=0,bl:=0,mp:=0,mx:=0,ml:=0,el:=0,pl:=0,n:=n,bk:=fun _=>0,dx:=fun _=>0,lk:=fun _=>0,dd:=fun _=>0,sl:=fun _=>0,kd:=fun _=>0,ps:=ps }
theorem č (A:FA):∀ (bs:List Int) (X:FX),X.run A bs=X.run (fa0 A.n A.ps) bs
 | [],_=>rfl
 | b :: r,X=>č A r (X.see A b)
def yz4 (H:Hp) (A:FA):Prop:=H A.ll=some (.lst (refs A.lk A.n))/\A.ll≠A.el/\∃ tp,ue H A.n A.lk A.kd tp A.ps
theorem yz4.same {H H':Hp} {A:FA} (h:yz4 H A) (S:yx H H'):yz4 H' A:=⟨S _ _ h.1,h.2.1,let ⟨tp,r⟩:=h.2.2; ⟨tp,r.same S⟩⟩
structure Go (W:Addr->Prop) (H H':Hp) (W':Addr->Prop):Prop where
 fr:∀ c o,H c=some o->¬ W c->H' c=some o
 nw:∀ c,W' c->W c\/H c=none
 lv:∀ c o,H c=some o->∃ o',H' c=some o'
theorem Go.free {W:Addr->Prop} {H H':Hp} (h:Go W H H' W') {c:Addr} (e:H' c=none):H c=none:=by
 cases z:H c with
 | none=>rfl
 | some o =>
  obtain ⟨a,w⟩:=h.lv c o z;rw [e] at w;cases w
theorem Go.refl {W:Addr->Prop} {H:Hp}:Go W H H W:=⟨fun _ _ e _=>e,fun _ w=>.inl w,fun _ o e=>⟨o,e⟩⟩
theorem Go.trans {W W1:Addr->Prop} {H H1 H2:Hp} (h:Go W H H1 W1) (k:Go W1 H1 H2 W2):Go W H H2 W2:=by
 refine ⟨fun c o e a=>k.fr c o (h.fr c o e a) fun w=>?_,fun c w=>?_,fun c o e=>?_⟩
 .rcases h.nw c w with v | v
  .exact a v
  .rw [e] at v;cases v
 .rcases k.nw c w with v | v
  .exact h.nw c v
  .exact .inr (h.free v)
 .obtain ⟨b,d⟩:=h.lv c o e;exact k.lv c b d
theorem Go.same {W:Addr->Prop} {H H1 H2:Hp} (h:Go W H H1 W') (S:yx H1 H2):Go W H H2 W':=⟨fun c o e a=>S _ _ (h.fr c o e a),h.nw,fun c o e=>let ⟨o',w⟩:=h.lv c o e; ⟨o',S _ _ w⟩⟩
theorem Go.ahead {W:Addr->Prop} {H H1 H2:Hp} (S:yx H H1) (h:Go W H1 H2 W'):Go W H H2 W':=⟨fun c o e=>h.fr c o (S _ _ e),fun c w=>(h.nw c w).imp id S.free,fun c o e=>h.lv c o (S _ _ e)⟩
theorem Go.apart {W:Addr->Prop} {H H':Hp} (h:Go W H H' W') (hU:∀ c,U c->∃ o,H c=some o) (dj:∀ c,U c->¬ W c):∀ c,U c->¬ W' c:=fun c u w=>by
 rcases h.nw c w with v | v
 .exact dj c u v
 .obtain ⟨o,e⟩:=hU c u;rw [v] at e;cases e
section
variable {H H':Hp} {n:Nat} {kd:Nat->Fin 3} {ps:Nat->List Int} {X:FX} {M:Nat} {W:Addr->Prop}
theorem yp8 {g:Nat->Addr} (h:1 <= n):(refs g n)[0]?=some (.ref (g 0)):=by
 unfold refs;rw [bN,cZ h];rfl
end
theorem ymt:yk ["self","bit","slot"] ["self","bit"] (yg ys1):=wv (by right)
inductive yht (K:W.Frag) (a:Ads) (vs:List V) (H:Hp) (Q:VK) (E':XK):Prop
 | mk (p:Addr) (A:FA) (X:FX) (f:Nat->List Int->Option Slt) (O:Nat->Addr->Prop) (m:Nat) (b:Int):(vs=[.ref p,.int b])->(ut K a H p A X f O m)->(0 <= b)->(b <= 1)->(m+20 < 1000000)->(0 <= X.nd)->(X.sg.length <= 100000)->(∀ (ml el pl:Addr) (sl:Nat->Addr) (f':Nat->List Int->Option Slt) (O':Nat->Addr->Prop) (H':Hp),(el=A.el\/H el=none)->ut K a H' p { A with ml:=ml,el:=el,pl:=pl,sl:=sl } (X.see A b) f' O' (m+A.n)->(∀ j c,j < A.n->O' j c->O j c\/H c=none) ->
  (∀ c o,H c=some o->c≠p->c≠A.mp->c≠A.el->(∀ j,j < A.n->¬ O j c)->H' c=some o)->(∀ c o,H c=some o->∃ o',H' c=some o')->H ml=none->Q .non H')->yht K a vs H Q E'
theorem yi4 (T:Txt K mg a):wb P w K mg base CX0 6 a.Kn a.Ko ["self","bit"] (yht K a):=by
 exists T.D8.F.ok,ymt,hr;obtain ⟨p,d,X,f,O,m,b,rfl,h,b0,b1,hm,aF,ap,k⟩:=h;have hp:=h.me;have a9:=h.mx.o;have n6:=h.n6;have I:=ywz b0 b1;refine yo (yt (vo (ē T) (hr.mono (by decide)) rfl T.Ao.m T.Ao.F.kp T.Ao.B .nil wc (yb (pv 1) ye (ya rfl)))) ?_;refine yo (yt (vi (yp (pv 0) rfl) T.Ig T.I1.m (yuh T) (hr.mono (by decide)) T.I1.B .nil wc (yb (w4 (pv 0) T.Aj T.Ed.m (ym4 T) (hr.mono (by decide)) T.Ed.B .nil vg) (yb (pv 1) ye (ya rfl)) (ya rfl)))) ?_;refine yo (z0 PassesOwn.never rfl (w9 (yp (pv 0) rfl)) (w6 (i:=2) ymt.nd rfl (Or.inl rfl)) (yf (yt (ye4 (vi (pv 2) T.C4 T.Hu.m (yvt T) (hr.mono (by decide)) T.Hu.B .nil wc (yb (pv 1) ye (ya rfl))) (ye4 (vi (pv 2) T.Cv T.Hw.m (yw7 T) (hr.mono (by decide)) T.Hw.B .nil wc (yb (pv 1) ye (ya rfl))) (vi (pv 2) T.Cw T.Hy.m (yud T) (hr.mono (by decide)) T.Hy.B .nil wc (yb (pv 1) ye (ya rfl)))))))) ?_;refine yo (yt (xl (pv 0) T.Aj T.I2.m (ywt T) (hr.mono (by decide)) T.I2.B .nil vg (yb (pv 1) ye (ya rfl)))) ?_;refine ⟨_,(yf (yt (w4 (pv 0) T.Aj T.Ec.m (ynr T) (hr.mono (by decide)) T.Ec.B .nil vg))),?_⟩;exists 2,1;rfl';refine ⟨.int b,_,rfl,.int b,fun _=>?_,fun z=>(by rw [I] at z; cases z)⟩;rfl';refine ⟨p,d,X,f,O,m,rfl,h,fun r H1 aH am S1=>?_⟩;have L:=S1 _ _ a9;rfl';refine ⟨d.mp,d.mx,d.ml,r,X.ws,X.cs d,d.n,.int b,_,rfl,h.n1,n6,h.wok,h.cok,h.mx.same S1,SqL.of am,.int b,fun b' e _ _ ml H2 a6 M2 Z=>?_,fun z=>(by rw [I] at z; cases z)⟩;cases e;have N:=h.same S1
 have aa:p≠d.mp:=fun z=>by
  have:=h.me;rw [z,a9] at this;injection this with this;injection this with _ _ e;exact absurd (congrArg List.length e) (show ¬ (1=6) by decide)
 have ar:=Z _ _ N.me aa;have ab:∀ {l:Addr} {xs:List V},H1 l=some (.lst xs)->l≠d.mp:=fun {l xs} e z=>by rw [z,L] at e; cases e
 have a8:=Z _ _ N.bl (ab N.bl);have a7:=Z _ _ N.el (ab N.el);have a2:=Z _ _ N.pl (ab N.pl)
 have a0:=N.B.frame (O2:=fun c=>c=d.mp) (fun c o e ne=>Z c o e ne) (fun j c q w z=>h.nm j q (z ▸ w)) (fun j q z=>by
  have:=(N.B.b j q).me;rw [z,L] at this;injection this with this;injection this with _ _ e
  exact absurd (congrArg List.length e) (show ¬ (1=2) by decide)) (fun t xs e=>by
  rcases e with (e | ⟨o,e⟩) | e
  .exact .inl (.inl (Z _ _ e (fun z=>by rw [z,L] at e; cases e)))
  .exact .inl (.inr ⟨o,Z _ _ e (fun z=>by rw [z,L] at e; cases e)⟩)
  .exact .inr e)
 have ay:∀ j,j < d.n->(∃ s,f j (X.key d j)=some s)/\AtS H2 (d.dd j) (X.key d j) (d.sl j):=fun j q=>⟨(N.at' j q).1,(N.at' j q).2.told (N.B.b j q) (fun z=>h.nm j q (by rw [<- z]; exact (N.B.b j q).dO)) Z⟩;rfl';refine ⟨d.pl,rfl,⟨_,SqL.of a2⟩,jd (K:=K) (a:=d.pl) (xs:=refs d.sl d.n) (fun i σ2 G=>∃ (v:Option V) (f':Nat->List Int->Option Slt),σ2=[some (.ref p),some (.int b),v]/\Bks K a G d.n d.bk d.dx d.lk d.dd d.kd d.ps f' O m /\
   (∀ j,j < d.n->∀ k,(f' j k).getD (kd0 (d.kd j))=if j < i/\k=X.key d j then (X.g j k).see b else X.g j k)/\(∀ j,j < d.n->(∃ s,f' j (X.key d j)=some s)/\AtS G (d.dd j) (X.key d j) (d.sl j))/\(∀ c o,H2 c=some o->(∀ j,j < d.n->¬ O j c)->G c=some o))
  ⟨_,f,rfl,a0,fun j q M=>by rw [if_neg (fun z=>absurd z.1 (cw j))]; exact h.ag j q M,ay,fun c o e _=>e⟩ (by rintro i σ2 G _ ⟨_,_,_,_,_,_,w⟩; exact SqL.of (w _ _ a2 (a0.nlst a2))) ?_ ?_⟩
 .rintro i y σ2 G hy ⟨v,f',rfl,S,gA,gS,gF⟩;obtain ⟨rfl,D⟩:=ja hy;obtain ⟨⟨s',ac⟩,af⟩:=gS i D
  have es:s'=X.g i (X.key d i):=by
   have:=gA i D (X.key d i);rw [ac,if_neg (fun z=>absurd z.1 (de i))] at this;exact this
  obtain ⟨dq,hq,ok,aK,ao⟩:=(S.b i D).slot ac af;rfl';refine yp7 (x:=.int b) (fun Q' h=>?_) (fun Q' h=>?_) hq ok (.int b) (fun b' e _ _ G3 h3 B3=>?_) (fun z=>by rw [I] at z; cases z) (fun z=>by rw [I] at z; cases z) (fun z=>by rw [I] at z; cases z)
  .rfl';exact h
  .rfl';exact h
  cases e;have as:=(S.b i D).told ac af b0 b1 h3 B3;have BO:ylt (O i) G G3:=fun c o e no=>B3 _ _ e fun z=>no (by rw [z]; exact ao);have M3:=S.move D (bL m) as (fun c w=>.inl w) BO
  have eO:(fun j=>if j=i then O i else O j)=O:=by
   funext j
   by_cases z:j=i
   .rw [if_pos z,z]
   .rw [if_neg z]
  rw [eO] at M3
  have aB:d.dd i≠d.sl i:=fun z=>by
   obtain ⟨aI,aJ,w1,_⟩:=(S.b i D).tb;obtain ⟨C,fs,eo⟩:=ń a dq s';rw [z,hq,eo] at w1;cases w1
  rfl';refine ⟨_,_,rfl,M3,fun j q M=>?_,fun j q=>?_,fun c o e no=>?_⟩
  .try dsimp only
   by_cases z:j=i
   .subst z;rw [if_pos rfl];unfold Ž;by_cases w:M=X.key d j
    .rw [if_pos w,if_pos ⟨dh j,w⟩,w,<- es];rfl
    .rw [if_neg w,if_neg (fun z=>w z.2)];have:=gA j q M;rw [if_neg (fun z=>w z.2)] at this;exact this
   .rw [if_neg z,gA j q M];have:(j < i/\M=X.key d j) ↔ (j < i+1/\M=X.key d j):=by constructor <;> (rintro ⟨u,v⟩; exact ⟨by omega,v⟩)
    by_cases w:j < i/\M=X.key d j
    .rw [if_pos w,if_pos (this.mp w)]
    .rw [if_neg w,if_neg (fun z=>w (this.mpr z))]
  .try dsimp only
   by_cases z:j=i
   .subst z;rw [if_pos rfl];refine ⟨⟨s'.see b,?_⟩,af.told (S.b j D) aB B3⟩;unfold Ž;rw [if_pos rfl]
   .rw [if_neg z];exact ⟨(gS j q).1,(gS j q).2.move S q D z BO⟩
  .exact BO _ _ (gF c o e no) (no i D)
 .rintro σ2 G ⟨v,f',rfl,S,gA,gS,gF⟩;rw [wg] at gA;have gp:=gF _ _ ar h.np;have R:=gF _ _ a7 (a0.nlst a7);have ak:=gF _ _ a8 (a0.nlst a8);have Y:=gF _ _ M2.o h.nm;have aj:=gF _ _ M2.l (a0.nlst M2.l);rfl';refine ⟨p,d.dp,d.ll,d.bl,d.mp,d.el,d.pl,X.nd,b,X.sg,rfl,gp,R,ap,aF,fun el H4 al ae a3 F4 L4=>?_⟩;have ah:∀ {l:Addr} {xs:List V},G l=some (.lst xs)->l≠p:=fun {l xs} e z=>by rw [z,gp] at e; cases e
  have aA:∀ j,j < d.n->¬ O j p:=h.np;have ai:=S.nlst R
  have a4:=S.frame (O2:=fun c=>c=p\/c=d.el) (fun c o e ne=>F4 c o e (fun z=>ne (.inl z)) (fun z=>ne (.inr z))) (fun j c q w z=>by
   rcases z with z | z
   .exact aA j q (z ▸ w)
   .exact ai j q (z ▸ w)) (fun j q z=>by
   have:=(S.b j q).me;rcases z with z | z
   .rw [z,gp] at this;injection this with this;injection this with _ _ e;exact absurd (congrArg List.length e) (show ¬ (6=2) by decide)
   .rw [z,R] at this
    cases this) (fun t xs e=>by
   rcases e with (e | ⟨o,e⟩) | e
   .exact .inl (.inl (F4 _ _ e (fun z=>by rw [z,gp] at e; cases e) (fun z=>by rw [z,R] at e; cases e)))
   .exact .inl (.inr ⟨o,F4 _ _ e (fun z=>by rw [z,gp] at e; cases e) (fun z=>by rw [z,R] at e; cases e)⟩)
   .exact .inr e)
  have aD:d.bl≠d.el:=fun z=>by
   have e:=h.bl;rw [z,h.el] at e;injection e with e;injection e with e;have e0:=congrArg (fun l:List V=>l[0]?) e
   have r0:(refs d.bk d.n)[0]?=some (.ref (d.bk 0)):=by
    unfold refs;rw [bN,cZ h.n1];rfl
   try dsimp only at e0
   rw [r0,bN] at e0
   cases hs:X.sg[0]? with
   | none=>rw [hs] at e0; cases e0
   | some c=>rw [hs] at e0; cases e0
  have ax:ml≠d.el:=(yd N.el a6).symm;have a5:=F4 _ _ ak (ah ak) aD;have aw:=F4 _ _ Y (Ne.symm aa) (fun z=>by rw [z,R] at Y; cases Y);have ad:=F4 _ _ aj (ah aj) ax
  have U:∀ c o,H c=some o->∃ W,H4 c=some W:=fun c o e=>by
   by_cases zp:c=p
   .exact ⟨_,zp ▸ ae⟩
   by_cases ze:c=d.el
   .rw [ze];exact L4
   have gc:∃ W,G c=some W:=by
    by_cases zm:c=d.mp
    .exact ⟨_,zm ▸ Y⟩
    by_cases zo:∀ j,j < d.n->¬ O j c
    .exact ⟨o,gF _ _ (Z _ _ (S1 _ _ e) zm) zo⟩
    .have:∃ j,j < d.n/\O j c:=Classical.byContradiction fun w=>zo fun j q w'=>w ⟨j,q,w'⟩;obtain ⟨j,q,w⟩:=this;obtain ⟨W,J,_⟩:=(S.b j q).own c w;exact ⟨W,J⟩
   obtain ⟨W,J⟩:=gc;exact ⟨W,F4 _ _ J zp ze⟩
  have aC:ylq d.n d.kd f' (X.see d b).g:=fun j q M=>by
   rw [gA j q M];show _=if M=X.key d j then (X.g j M).see b else X.g j M;by_cases w:M=X.key d j
   .rw [if_pos ⟨q,w⟩,if_pos w]
   .rw [if_neg (fun z=>w z.2),if_neg w]
  rfl';refine ⟨p,d.dp,d.ll,d.bl,d.mp,el,d.pl,ndN X.nd b,sgN X.sg X.nd b,d.n,m,d.bk,d.dx,d.lk,d.dd,d.kd,d.ps,f',O,(X.see d b).g,rfl,ae,a5,a3,a4,aC,n6,by omega,h.np,fun pl sl f2 O2 H5 an az aG B5 aq au aE F5 L5=>?_⟩;have a1:∀ {l:Addr} {xs:List V},H4 l=some (.lst xs)->l≠p:=fun {l xs} e z=>by rw [z,ae] at e; cases e
  have n2:∀ j c,j < d.n->O2 j c->O j c\/H c=none:=fun j c q w=>by
   rcases aE j c q w with v | v
   .exact .inl v
   .refine .inr ?_
    cases e:H c with
    | none=>rfl
    | some o =>
     obtain ⟨W,J⟩:=U c o e;rw [J] at v;cases v
  refine k ml el pl sl f2 O2 H5 ?_ ⟨an,F5 _ _ a5 (a1 a5) (a4.nlst a5),F5 _ _ a3 (a1 a3) (a4.nlst a3),⟨F5 _ _ aw (Ne.symm aa) h.nm,F5 _ _ ad (a1 ad) (a4.nlst ad)⟩,yl2 h.n1 n6 h.wok h.cok,az,B5,aq,au,fun j q w=>?_,fun j q w=>?_,h.n1,n6⟩ n2 (fun c o e c1 c2 c3 no=>F5 _ _ (F4 _ _ (gF _ _ (Z _ _ (S1 _ _ e) c2) no) c1 c3) c1 no) (fun c o e=>let ⟨W,w⟩:=U c o e; L5 c W w) (S1.free a6)
  .rcases al with z | z
   .exact .inl z
   .refine .inr ?_
    cases e:H el with
    | none=>rfl
    | some o =>
     exfalso;by_cases zp:el=p
     .rw [zp,gp] at z; cases z
     by_cases zm:el=d.mp
     .rw [zm,Y] at z; cases z
     by_cases zo:∀ j,j < d.n->¬ O j el
     .rw [gF _ _ (Z _ _ (S1 _ _ e) zm) zo] at z; cases z
     .have:∃ j,j < d.n/\O j el:=Classical.byContradiction fun w=>zo fun j q w'=>w ⟨j,q,w'⟩;obtain ⟨j,q,w⟩:=this;obtain ⟨W,J,_⟩:=(S.b j q).own el w;rw [J] at z;cases z
  .rcases n2 j p q w with v | v
   .exact h.np j q v
   .rw [hp] at v; cases v
  .rcases n2 j d.mp q w with v | v
   .exact h.nm j q v
   .rw [a9] at v; cases v
theorem z8 {A:FA} {X:FX} {bs:List Int} {k:Nat} {b:Int} (h:bs[k]?=some b):X.run A (bs.take (k+1))=(X.run A (bs.take k)).see A b:=by
 rw [Ä h,yk2]
structure FGo (p:Addr) (A:FA) (O:Nat->Addr->Prop) (H H':Hp) (el:Addr) (O':Nat->Addr->Prop):Prop where
 he:el=A.el\/H el=none
 hO:∀ j c,j < A.n->O' j c->O j c\/H c=none
 fr:∀ c o,H c=some o->c≠p->c≠A.mp->c≠A.el->(∀ j,j < A.n->¬ O j c)->H' c=some o
 live:∀ c o,H c=some o->∃ o',H' c=some o'
theorem FGo.free {A:FA} {H H':Hp} {el c:Addr} (h:FGo p A O H H' el O') (hc:H' c=none):H c=none:=by
 cases e:H c with
 | none=>rfl
 | some o =>
  obtain ⟨a,w⟩:=h.live c o e;rw [hc] at w;cases w
theorem FGo.refl {A:FA} {H:Hp}:FGo p A O H H A.el O:=⟨.inl rfl,fun _ _ _ w=>.inl w,fun _ _ e _ _ _ _=>e,fun _ o e=>⟨o,e⟩⟩
theorem FGo.trans {A:FA} {O1:Nat->Addr->Prop} {H H1 H2:Hp} {ml el pl el2:Addr} {sl:Nat->Addr} (h:FGo p A O H H1 el O1) (k:FGo p (A.re ml el pl sl) O1 H1 H2 el2 O2):FGo p A O H H2 el2 O2:=by
 refine ⟨?_,fun j c a w=>?_,fun c o e b f d g=>?_,fun c o e=>?_⟩
 .rcases k.he with z | z
  .rcases h.he with y | y
   .exact .inl (z.trans y)
   .exact .inr (by rw [show el2=el from z]; exact y)
  .exact .inr (h.free z)
 .rcases k.hO j c a w with v | v
  .exact h.hO j c a v
  .exact .inr (h.free v)
 .refine k.fr c o (h.fr c o e b f d g) b f (fun z=>?_) (fun j a w=>?_)
  .rcases h.he with y | y
   .exact d (z.trans y)
   .rw [show c=el from z,y] at e;cases e
  .rcases h.hO j c a w with v | v
   .exact g j a v
   .rw [e] at v;cases v
 .obtain ⟨l,i⟩:=h.live c o e;exact k.live c l i
theorem FGo.same {A:FA} {H H1 H2:Hp} {el:Addr} (h:FGo p A O H H1 el O') (S:yx H1 H2):FGo p A O H H2 el O' :=
 ⟨h.he,h.hO,fun c o e a b f d=>S _ _ (h.fr c o e a b f d),fun c o e=>let ⟨o',w⟩:=h.live c o e; ⟨o',S _ _ w⟩⟩
theorem FGo.ahead {A:FA} {H H1 H2:Hp} {el:Addr} (S:yx H H1) (h:FGo p A O H1 H2 el O'):FGo p A O H H2 el O' :=
 ⟨h.he.imp id S.free,fun j c a w=>(h.hO j c a w).imp id S.free,fun c o e=>h.fr c o (S _ _ e),fun c o e=>h.live c o (S _ _ e)⟩
theorem FGo.kpa {A:FA} {X:FX} {f:Nat->List Int->Option Slt} {m:Nat} {H H':Hp} {el:Addr} (hf:ut K a H p A X f O m) (h:FGo p A O H H' el O'):KpA H H' A.el el:=fun c o e i k=>by
 refine ⟨?_,h.fr c o e (fun z=>by rw [z,hf.me] at e; cases e; cases i) (fun z=>by rw [z,hf.mx.o] at e; cases e; cases i) k fun j l w=>?_⟩
 .rcases h.he with z | z
  .rw [z];exact k
  .exact yd e z
 .obtain ⟨n,d,g⟩:=(hf.B.b j l).own c w;rw [e] at d;cases d;rw [i] at g;cases g
theorem yxk {g:Nat->Addr} {n:Nat} (h:1 <= n):(refs g n)[0]?=some (.ref (g 0)):=by
 unfold refs;rw [bN,cZ h];rfl
structure Î (H:Hp) (t:Addr) (ts:List Int) (w:Nat):Prop where
 l:H t=some (.lst (ts.map V.int))
 s:Sgs ts
 z:ts.length <= w
theorem Î.same {H H':Hp} {t:Addr} {w:Nat} (h:Î H t ts w) (S:yx H H'):Î H' t ts w:=⟨S _ _ h.l,h.s,h.z⟩
def ę (tt:Nat->List Int):Nat->List Int
 | 0=>[]
 | i+1=>ę tt i++dec (tt i)
def fX (n:Nat) (kd:Nat->Fin 3) (ps:Nat->List Int) (pre:List Int) (ts:List Int) (k:Nat):FX:=((FX0 n kd).run (fa0 n ps) pre).run (fa0 n ps) ((dec ts).take k)
def jj (n:Nat) (kd:Nat->Fin 3) (ps:Nat->List Int) (pre:List Int) (ts:List Int) (k:Nat):Int:=yol (fX n kd ps pre ts k).ws ((fX n kd ps pre ts k).cs (fa0 n ps))
def wj (ts:List Int) (k:Nat):Int:=((dec ts)[k]?).getD 0
theorem ykr (ts:List Int) (k:Nat) (h:k < (dec ts).length):0 <= wj ts k/\wj ts k <= 1:=by
 unfold wj;rw [bJ h];exact z7 ts _ (cE h)
def yty (H:Hp) (lx:V) (N w:Nat) (lt:Nat->Addr) (tt:Nat->List Int):Prop:=((lx=.non/\N=0)\/∃ ll,lx=.ref ll/\H ll=some (.lst (refs lt N)))/\∀ i,i < N->Î H (lt i) (tt i) w
theorem yty.same {H H':Hp} {lx:V} {N w:Nat} {lt:Nat->Addr} {tt:Nat->List Int} (h:yty H lx N w lt tt) (S:yx H H'):yty H' lx N w lt tt :=
 ⟨h.1.imp id fun ⟨b,e,z⟩=>⟨b,e,S _ _ z⟩,fun i a=>(h.2 i a).same S⟩
structure vcp (H:Hp) (L tx:Addr) (lx:V) (n:Nat) (lk:Nat->Addr) (kd:Nat->Fin 3) (tp:Nat->Addr) (ps:Nat->List Int) (ts:List Int) (N w:Nat) (lt:Nat->Addr) (tt:Nat->List Int):Prop where
 l:H L=some (.lst (refs lk n))
 n1:1 <= n
 n6:n <= 6
 r:ue H n lk kd tp ps
 t:Î H tx ts 1000
 lr:yty H lx N w lt tt
 w1:w <= 1000
 N1:N <= 1000
 b:6+6 * (N * (9 * w+1))+6 * (9 * ts.length+1)+20 < 1000000
structure XOk (n:Nat) (X:FX):Prop where
 w:WOk n X.ws
 s:∀ i k,(X.g i k).ok
theorem XOk.cs {n:Nat} {X:FX} (h:XOk n X) (ps:Nat->List Int):COk n (X.cs (fa0 n ps)):=by
 refine ⟨by unfold FX.cs; rw [bH,cm]; rfl,fun c a=>?_,fun c a=>?_⟩
 .obtain ⟨j,_,rfl⟩:=bM.mp a;exact (yeq (h.s _ _)).1
 .obtain ⟨j,_,rfl⟩:=bM.mp a;exact (yeq (h.s _ _)).2
theorem XOk.see {n:Nat} {X:FX} (h:XOk n X) (n1:1 <= n) (n6:n <= 6) (ps:Nat->List Int) {b:Int} (b0:0 <= b) (b1:b <= 1):XOk n (X.see (fa0 n ps) b):=by
 refine ⟨yl2 n1 n6 h.w (h.cs ps),fun i k=>?_⟩;show (if k=X.key (fa0 n ps) i then (X.g i k).see b else X.g i k).ok
 split
 .exact Slt.see_ok (h.s i k) b0 b1
 .exact h.s i k
theorem XOk.run {n:Nat} (n1:1 <= n) (n6:n <= 6) (ps:Nat->List Int):∀ (bs:List Int) {X:FX},XOk n X->ybr bs->XOk n (X.run (fa0 n ps) bs)
 | [],_,h,_=>h
 | b :: r,_,h,hb=>XOk.run n1 n6 ps r (h.see n1 n6 ps (hb b (by simp)).1 (hb b (by simp)).2) fun c a=>hb c (by simp [a])
theorem XOk.zero {n:Nat} (n1:1 <= n) (n6:n <= 6) (kd:Nat->Fin 3):XOk n (FX0 n kd):=⟨yzm n n1 n6,fun i _=>yn3 (kd i)⟩
theorem yhb {bs:List Int} (h:ybr bs) (k:Nat):ybr (bs.take k):=fun b a=>h b (cP a)
theorem yzx {n:Nat} (n1:1 <= n) (n6:n <= 6) {kd:Nat->Fin 3} {ps:Nat->List Int} {pre:List Int} (hp:ybr pre) (k:Nat):XOk n (fX n kd ps pre ts k):=by
 unfold fX;exact ((XOk.zero n1 n6 kd).run n1 n6 ps pre hp).run n1 n6 ps _ (yhb (z7 ts) k)
theorem ų {n:Nat} (n1:1 <= n) (n6:n <= 6) {kd:Nat->Fin 3} {ps:Nat->List Int} {pre:List Int} (hp:ybr pre) (k:Nat):Ch (jj n kd ps pre ts k):=yir n1 (yzx (kd:=kd) (ps:=ps) (ts:=ts) n1 n6 hp k).w ((yzx (kd:=kd) (ps:=ps) (ts:=ts) n1 n6 hp k).cs ps)
theorem yu7:yk ["sign"] ["sign"] (yg yss):=wv (by right)
inductive Ĳ (K:W.Frag) (vs:List V) (H:Hp) (Q:VK) (E':XK):Prop
 | mk (s:Int):(vs=[.int s])->(∀ r H',H r=none->H' r=some (.lst ((b8 s).map V.int))->yx H H'->Q (.ref r) H')->Ĳ K vs H Q E'
theorem yus (T:Txt K mg a):wb P w K mg base CX0 1 a.Kt a.Ku ["sign"] (Ĳ K):=by
 exists T.Fx.F.ok,yu7,u;obtain ⟨q,rfl,k⟩:=h;refine ⟨_,(yf (yu (we (js:=[0]) (ys:=["sign"]) rfl (yez (j3 rfl T.Ip)) (fun C t f r=>(yr wy (yr vj (pv 1) (pv 0)) yi)) rfl rfl (hyc:=(all_cons rfl yv)) (hrel:=(all_cons rfl yv))))),?_⟩;exists 1,0;rfl';refine ⟨a.Bt,rfl,⟨_,T.Dn H⟩,fun D e=>?_⟩;refine Ŀ (wV q) (T.Dn H) e (fun i y f j d b=>?_) (fun f d b=>?_)
 .obtain ⟨c,m,rfl,o⟩:∃ c,0 < c/\y=V.int c/\c <= 128:=by
   have l:=cc j;simp only [bW,List.not_mem_nil,or_false] at l;rcases l with rfl | rfl | rfl | rfl | rfl | rfl | rfl | rfl <;> exact ⟨_,by decide,rfl,by decide⟩
  rfl';exact Mp.done e (by show 8 < sizeLine; decide) j d b rfl
 .exact k D f e b d
theorem yi5:yk ["text","bits","sign"] ["text"] (yg yro):=wv (by right)
inductive ymv (K:W.Frag) (vs:List V) (H:Hp) (Q:VK) (E':XK):Prop
 | mk (t:Addr) (ns:List Int):(vs=[.ref t])->(H t=some (.lst (ns.map V.int)))->(Sgs ns)->(ns.length <= 1000)->(∀ r H',H r=none->H' r=some (.lst ((dec ns).map V.int))->yx H H'->Q (.ref r) H')->ymv K vs H Q E'
theorem yml (T:Txt K mg a):wb P w K mg base CX0 5 a.Kv a.Kw ["text"] (ymv K):=by
 exists T.D9.F.ok,yi5,U;obtain ⟨t,f,rfl,S,X,W,k⟩:=h;refine ⟨_,(yh (yw (i:=1) yi5.nd rfl (Or.inl rfl) (xx ye)) (yh (z0 PassesOwn.never rfl (w9 (vo (yjn T) (U.mono (by decide)) rfl T.Cr.m T.Cr.F.kp T.Cr.B .nil wc (yb (pv 0) ye (ya rfl)))) (w6 (i:=2) yi5.nd rfl (Or.inl rfl)) (yh (yt (ĕ PySem.F.plainAttrs_list PySem.F.slot_list_append PySem.F.type_list_append xi (pv 1) (yb yi ye (ya rfl)))) (yf (yt (ĕ PySem.F.plainAttrs_list PySem.F.slot_list_extend PySem.F.type_list_extend ygj (pv 1) (yb (y8 (yus T) (U.mono (by decide)) rfl T.Fx.m T.Fx.F.kp T.Fx.B .nil vg (yb (pv 2) ye (ya rfl))) ye (ya rfl))))))) (yh (yt (ĕ PySem.F.plainAttrs_list PySem.F.slot_list_append PySem.F.type_list_append xi (pv 1) (yb yi ye (ya rfl)))) (yf (yu (pv 1)))))),?_⟩;exists 1,2;rfl';refine ⟨by walk_at "len",fun r hr0=>?_⟩
 with_reducible first | refine y7 hr0 fun H1 S1 hr1=>?_ | refine vk hr0 fun H1 S1 hr1=>?_
 rfl';refine ⟨.ref t,_,rfl,.lst (S1 _ _ S),.inr ⟨f.map V.int,Þ (S1 _ _ S) X W,fun c H2 C x R=>?_⟩⟩;have N:=S1.trans R;refine ⟨c,rfl,⟨_,SqL.of x⟩,jd (K:=K) (a:=c) (xs:=f.map V.int) (fun i σ2 G=>∃ v,σ2=[some (.ref t),some (.ref r),v]/\G r=some (.lst ((ybs (f.take i)).map V.int))/\G c=some (.lst (f.map V.int))/\yx H G)
  ⟨_,rfl,R _ _ hr1,x,N⟩ (by rintro i σ2 G _ ⟨_,_,_,z,_⟩; exact SqL.of z) ?_ ?_⟩
 .rintro i y σ2 G hi ⟨v,rfl,d,u,O⟩;obtain ⟨z,rfl,a2,J,Z⟩:=jo hi;have p:c≠r:=fun e=>by rw [e,hr1] at C; cases C
  have l:(List.map V.int (ybs (f.take i))).length <= 9000:=by rw [bH,je,cg]; omega
  rfl';refine Ì d ?_;rfl';refine x5 d (vq (by omega)) ?_;have j:yx H (upd G r (.lst (List.map V.int (ybs (f.take i))++[V.int 1]))):=fun b o e=>yj (yd e hr0) (O b o e);have n:upd G r (.lst (List.map V.int (ybs (f.take i))++[V.int 1])) c=some (.lst (f.map V.int)):=yj p u;have g:upd G r (.lst (List.map V.int (ybs (f.take i))++[V.int 1])) r=some (.lst (List.map V.int (ybs (f.take i)++[1]))):=by rw [yc,cj]; rfl
  generalize upd G r (.lst (List.map V.int (ybs (f.take i))++[V.int 1]))=G1 at j n g ⊢;rfl';refine Ì g ?_;rfl';refine ⟨z,rfl,fun q G2 a0 D I=>?_⟩;rfl';have M:=I _ _ g;refine ⟨r,q,_,_,rfl,rfl,M,D,yck (by rw [bH,bH,bP,yne]; rw [bH] at l; show _+1+8 <= _; omega),?_⟩;rfl';refine ⟨_,rfl,?_,?_,fun b o e=>yj (yd e hr0) (I _ _ (j b o e))⟩
  .rw [yc,Ä J,yap,ykq,cJ];rfl
  .exact yj p (I _ _ n)
 .rintro σ2 G ⟨v,rfl,d,u,O⟩;rw [bH,c6] at d;rfl';refine Ì d ?_;rfl';refine x5 d (vq (by rw [bH,je]; omega)) ?_;rfl';refine k r _ hr0 ?_ fun b o e=>yj (yd e hr0) (O b o e);rw [yc,ylo,cj];rfl
theorem yi0:yk ["number","size","places"] ["number","size"] (yg ysr):=wv (by right)
inductive Ī  (vs:List V) (H:Hp) (Q:VK) (E':XK):Prop
 | mk (n:Int) (k:Nat):(vs=[.int n,.int k])->(k <= 100000)->(∀ t H',H t=none->H' t=some (.lst ((wr k n).map V.int))->yx H H'->Q (.ref t) H')->Ī vs H Q E'
theorem yuq (T:Txt K mg a):wb P w K mg base CX0 1 a.Kx a.Ky ["number","size"] Ī:=by
 exists T.Fz.F.ok,yi0,C;obtain ⟨n,d,rfl,D,k⟩:=h;refine ⟨_,(yh (yw (i:=2) yi0.nd rfl (Or.inl rfl) (xx ye)) (yh (zf PassesOwn.never (yy ybn (yq y6 rfl T.Ah (by right) (yb (pv 2) ye (ya rfl))) (pv 1) (vd _)) (yh (yt (ĕ PySem.F.plainAttrs_list PySem.F.slot_list_append PySem.F.type_list_append xi (pv 2) (yb (yr wy (pv 0) yi) ye (ya rfl)))) (yf (yw (i:=0) yi0.nd rfl (Or.inl rfl) (yr vj (pv 0) yi))))) (yh (yt (yjg PySem.F.plainAttrs_list PySem.F.slot_list_reverse PySem.F.type_list_reverse İ (pv 2))) (yf (yu (pv 2)))))),?_⟩;exists 2,1;rfl';refine ⟨by walk_at "len",fun t l=>?_⟩;rfl';refine ⟨fun m σ' u=>∃ (f:Int) (c:List Int),σ'=[some (.int f),some (.int d),some (.ref t)]/\u t=some (.lst (c.map V.int))/\yx H u/\c++lo (d - c.length) f=lo d n/\c.length <= d/\m=d - c.length,⟨_,n,[],rfl,yc,ve l,rfl,cb _,rfl⟩,?_⟩;rintro m σ2 B ⟨f,c,rfl,g,r,j,G,rfl⟩;rfl';refine zt (SqL.of g) ?_;rw [bH];rfl';refine za (fun v=>?_) (fun v=>?_)
 .refine ybj ?_;rfl';refine Ì g ?_;rfl';refine x5 g (by rw [bH]; exact vq (by omega)) ?_;rfl';refine ⟨_,?_,f / 256,c++[f % 256],rfl,(yc.trans (by rw [yks])),fun b o e=>?_,?_,?_,rfl⟩
  .rw [bP];show d - (c.length+1) < d - c.length;omega
  .rw [ym (yd e l)];exact r b o e
  .have p:d - c.length=d - (c++[f % 256]).length+1:=by
    rw [bP];show d - c.length=d - (c.length+1)+1;omega
   rw [p] at j;rw [<- j,cJ];rfl
  .rw [bP];show c.length+1 <= d;omega
 .rfl';have p:d - c.length=0:=by omega
  rw [p] at j;have z:c=lo d n:=by rw [<- j]; simp [lo]
  refine Ì g ?_;refine ya8 g ?_;rfl';refine k t _ l ?_ fun b o e=>?_
  .rw [yc,ypx,z];rfl
  .rw [ym (yd e l)];exact r b o e
theorem yvi:yk ["low","unit"] ["low","unit"] (yg ysx):=wv (by right)
inductive jk  (vs:List V) (H:Hp) (Q:VK) (E':XK):Prop
 | mk (l e:Int):(vs=[.int l,.int e])->(0 < e)->(e < 2 ^ 63)->(Q (.int (blk l e)) H)->jk vs H Q E'
theorem ymn (T:Txt K mg a):wb P w K mg base CX0 1 a.Kz a.L1 ["low","unit"] jk:=by
 exists T.Da.F.ok,yvi,g;obtain ⟨l,e,rfl,i,f,k⟩:=h;refine ⟨_,(yf (yu (yr vj (yr u6 (yr vy (pv 0) (pv 1)) yi) (pv 1)))),?_⟩;exists 2,0;rfl';exact k
theorem yxo:yk ["self"] ["self"] (yg ysf):=wv (by right)
inductive yh6 (C:Addr) (vs:List V) (H:Hp) (Q:VK) (E':XK):Prop
 | mk (p dx:Addr):(vs=[.ref p])->(H p=some (.ins C dx []))->(∀ H',H' p=some (.ins C dx (z6 s0))->But p H H'->Q .non H')->yh6 C vs H Q E'
theorem yn9 (T:Txt K mg a):wb P w K mg base CX0 1 a.Hn a.L6 ["self"] (yh6 a.A5):=by
 exists T.Ef.F.ok,yxo,j;obtain ⟨p,c,rfl,i,k⟩:=h;refine ⟨_,(yh (vh (pv 0) yi rfl) (yh (vh (pv 0) (vt rfl T.Fe) rfl) (yf (vh (pv 0) (vt rfl T.Gz) rfl)))),?_⟩;exists 1,0;rfl';refine ⟨p,_,c,_,rfl,i,T.Ai,T.Bw,by show 0 < 1000; decide,?_⟩;rfl';refine ⟨p,_,c,_,rfl,yc,T.Ai,T.Ax,by show 1 < 1000; decide,?_⟩;rfl';refine ⟨p,_,c,_,rfl,yc,T.Ai,T.Bh,by show 2 < 1000; decide,?_⟩
 have e:jf "size" (.int 5) (jf "width" (.int 1099511627776) (jf "low" (.int 0) []))=z6 s0:=by
  rw [wu,vw nLW wu,vw nLS (vw nWS wu)];rfl
 refine k _ (yc.trans (congrArg (fun l=>some (HO.ins a.A5 c l)) e)) fun b o h n=>?_;rw [ym n,ym n,ym n];exact h
theorem yx5:yk ["self","chance"] ["self","chance"] (yg ys3):=wv (by right)
inductive ynj (C:Addr) (vs:List V) (H:Hp) (Q:VK) (E':XK):Prop
 | mk (p dx:Addr) (x:Sn) (c:Int):(vs=[.ref p,.int c])->(H p=some (.ins C dx (z6 x)))->(Ch c)->(Q (.int (cut x.2.1 c)) H)->ynj C vs H Q E'
theorem yoh (T:Txt K mg a):wb P w K mg base CX0 1 a.L7 a.L8 ["self","chance"] (ynj a.A5):=by
 exists T.Eg.F.ok,yx5,i;obtain ⟨p,f,x,c,rfl,l,⟨g,j⟩,k⟩:=h;refine ⟨_,(yf (yu (yr vj (yr wz (yp (pv 0) rfl) (pv 1)) (vt rfl T.Dk)))),?_⟩;exists 2,0;rfl';exact k
theorem yl8:yk ["self","chance","bit","cut"] ["self","chance","bit"] (yg yti):=wv (by right)
inductive yay (K:W.Frag) (C Nc Nb:Addr) (vs:List V) (H:Hp) (Q:VK) (E:XK):Prop
 | mk (p dx:Addr) (x:Sn) (vc vb:V) (n m:String):(vs=[.ref p,vc,vb])->(H p=some (.ins C dx (z6 x)))->(Ok x)->(xr K H vc (.type n))->(xr K H vb (.type m))->((chV vc=false->E (.ref Nc) none H))->((chV vc=true->Ý vb=false->E (.ref Nb) none H))->(∀ c b:Int,vc=.int c->vb=.int b->Ch c->0 <= b->b <= 1->∀ H',H' p=some (.ins C dx (z6 (nar x c b)))->But p H H'->Q .non H')->yay K C Nc Nb vs H Q E
theorem ymm (T:Txt K mg a):wb P w K mg base (CXe P w) 4 a.L9 a.La ["self","chance","bit"] (yay K a.A5 a.Ea a.C3):=by
 exists T.Eh.F.okE,yl8,t;obtain ⟨p,f,x,D,C,n,m,rfl,I,G,tc,tb,N,k2,k⟩:=h;refine ⟨_,(yh (yt (vo (yq8 T) (t.mono (by decide)) rfl T.Dy.m T.Dy.F.kp T.Dy.B .nil y0 (yb (pv 1) ye (ya rfl)))) (yh (yt (vo (ē T) (t.mono (by decide)) rfl T.Ao.m T.Ao.F.kp T.Ao.B .nil y0 (yb (pv 2) ye (ya rfl)))) (yh (yw (i:=3) yl8.nd rfl (Or.inl rfl) (xl (pv 0) T.Ai T.Eg.m (yoh T) (t.mono (by decide)) T.Eg.B .nil vg (yb (pv 1) ye (ya rfl)))) (yh (zz (wa (yy x0 (pv 2) yi (vd _)) (yf (vh (pv 0) (pv 3) rfl)) (yh (vh (pv 0) (yr vy (yp (pv 0) rfl) (pv 3)) rfl) (yf (vh (pv 0) (yr u6 (yp (pv 0) rfl) (pv 3)) rfl))))) (yf (PS.nox (zf PassesOwn.never (yy ybn (yp (pv 0) rfl) (vt rfl T.Ff) (vd _)) (yh (vh (pv 0) (yr wz (yp (pv 0) rfl) yi) rfl) (yh (vh (pv 0) (yr wz (yp (pv 0) rfl) yi) rfl) (yf (vh (pv 0) (yr vy (yp (pv 0) rfl) yi) rfl))))))))))),?_⟩;exists 3,1;have v:=G.w0;have u:=G.w1;rfl';refine ⟨D,n,rfl,tc,fun g=>?_,N⟩;rfl';refine ⟨C,m,rfl,tb,fun l=>?_,k2 g⟩;obtain ⟨c,rfl,R,c2⟩:=ycw g;obtain ⟨b,rfl,M,b1⟩:=yee l;have j:Ch c:=⟨R,c2⟩;have k:=k c b rfl rfl j M b1;rfl';refine ⟨p,f,_,rfl,I,lkN _ (by right) (by right) (by right),?_⟩;rfl';refine ⟨p,f,x,c,rfl,I,j,?_⟩;rfl';obtain ⟨O,a2,W⟩:=ybl v u j;refine yjp (fun σ' e=>∃ y:Sn,σ'=[some (.ref p),some (.int c),some (.int b),some (.int (cut x.2.1 c))]/\e p=some (.ins a.A5 f (z6 y))/\8388608 <= y.2.1/\y.2.1 <= 1099511627776/\ren y.1 y.2.1 y.2.2=nar x c b/\But p H e) ?_ ?_
 .rfl';refine za (fun d=>?_) (fun d=>?_)
  .rfl';refine ⟨_,rfl,yc,O,Int.le_of_lt W,?_,But.upd⟩;unfold nar
   (rw [if_pos d]) <;> rfl
  .rfl';refine ⟨_,rfl,yc,a2,?_,?_,But.upd.trans But.upd⟩
   .show x.2.1 - cut x.2.1 c <= _;omega
   .unfold nar
    (rw [if_neg d]) <;> rfl
 .rintro σ' e ⟨y,rfl,r,U,L,Y,y4⟩;refine ⟨fun m σ' e=>∃ y:Sn,σ'=[some (.ref p),some (.int c),some (.int b),some (.int (cut x.2.1 c))]/\e p=some (.ins a.A5 f (z6 y))/\8388608 <= y.2.1/\y.2.1 <= 1099511627776/\ren y.1 y.2.1 y.2.2=nar x c b/\But p H e/\m=(4294967296 - y.2.1).toNat,⟨_,y,rfl,r,U,L,Y,y4,rfl⟩,?_⟩;rintro m σ2 H2 ⟨z,rfl,S,Z,z2,o,J,rfl⟩;rfl';refine za (fun d=>?_) (fun d=>?_)
  .refine ybj ?_;rfl';refine ⟨_,?_,(z.1 * 256,z.2.1 * 256,z.2.2+1),rfl,yc,?_,?_,(yle d Z).trans o,((J.trans But.upd).trans But.upd).trans But.upd,rfl⟩
   .show (4294967296 - z.2.1 * 256).toNat < (4294967296 - z.2.1).toNat;omega
   .show 8388608 <= z.2.1 * 256;omega
   .show z.2.1 * 256 <= 1099511627776;omega
  .rw [yp0 d] at o;refine k _ ?_ J;rw [<- o];exact S
theorem yxn:yk ["self","unit"] ["self","unit"] (yg yte):=wv (by right)
inductive ydm (C:Addr) (vs:List V) (H:Hp) (Q:VK) (E':XK):Prop
 | mk (p dx:Addr) (x:Sn) (j:Nat):(vs=[.ref p,.int (pw j)])->(H p=some (.ins C dx (z6 x)))->(j <= 6)->(Q (.bl (decide (yf7 x.1 x.2.1 j))) H)->ydm C vs H Q E'
theorem yx2 (T:Txt K mg a):wb P w K mg base CX0 2 a.Lb a.Lc ["self","unit"] (ydm a.A5):=by
 exists T.I4.F.ok,yxn,g;obtain ⟨p,i,x,j,rfl,n,f,k⟩:=h;refine ⟨_,(yf (yu (x4 zk (yr wz (yr vy (y8 (ymn T) (g.mono (by decide)) rfl T.Da.m T.Da.F.kp T.Da.B .nil vg (yb (yp (pv 0) rfl) (yb (pv 1) ye (ya rfl)) (ya rfl))) yi) (pv 1)) (yr vy (yp (pv 0) rfl) (yp (pv 0) rfl)) (vd _)))),?_⟩;exists 2,0;have l:=ydz f;have e:=uh j;rfl';refine ⟨_,_,rfl,e,by omega,?_⟩;rfl';exact k
theorem ybf:yk ["self","unit","size"] ["self"] (yg yst):=wv (by right)
inductive yib (C:Addr) (vs:List V) (H:Hp) (Q:VK) (E':XK):Prop
 | mk (p dx:Addr) (x:Sn):(vs=[.ref p])->(H p=some (.ins C dx (z6 x)))->(OkS x)->(sz x <= 100000)->(∀ t H',H t=none->H' t=some (.lst ((tL x).map V.int))->yx H H'->Q (.ref t) H')->yib C vs H Q E'
theorem yng (T:Txt K mg a):wb P w K mg base CX0 3 a.Ld a.Le ["self"] (yib a.A5):=by
 exists T.Ei.F.ok,ybf,f;obtain ⟨p,g,x,rfl,o,c,C,k⟩:=h;refine ⟨_,(yh (yw (i:=1) ybf.nd rfl (Or.inl rfl) yi) (yh (yw (i:=2) ybf.nd rfl (Or.inl rfl) (yp (pv 0) rfl)) (yh (zf PassesOwn.never (xo (xl (pv 0) T.Ai T.I4.m (yx2 T) (f.mono (by decide)) T.I4.B .nil vg (yb (yr wz (pv 1) yi) ye (ya rfl)))) (yh (yw (i:=1) ybf.nd rfl (Or.inl rfl) (yr wz (pv 1) yi)) (yf (yw (i:=2) ybf.nd rfl (Or.inl rfl) (yr u6 (pv 2) yi))))) (yf (yu (y8 (yuq T) (f.mono (by decide)) rfl T.Fz.m T.Fz.F.kp T.Fz.B .nil vg (yb (y8 (ymn T) (f.mono (by decide)) rfl T.Da.m T.Da.F.kp T.Da.B .nil vg (yb (yp (pv 0) rfl) (yb (pv 1) ye (ya rfl)) (ya rfl))) (yb (pv 2) ye (ya rfl)) (ya rfl)))))))),?_⟩;exists 1,2;rfl';refine ⟨fun m σ' u=>u=H/\∃ j:Nat,σ'=[some (.ref p),some (.int (pw j)),some (.int (x.2.2 - j))]/\j <= 5/\tel x.1 x.2.1 (5 - j) j=tK x/\m=6 - j,⟨_,rfl,0,by simp [pw],by decide,rfl,rfl⟩,?_⟩;rintro m σ2 G ⟨rfl,j,rfl,y,n,rfl⟩;have z:=ydz (show j <= 6 by omega);have t:=uh j;rfl';refine ⟨p,g,_,rfl,o,lkN _ (by right) (by right) (by right),?_⟩;rfl';refine ⟨p,g,x,j+1,rfl,o,by omega,?_⟩;rfl';refine za (fun b=>?_) (fun b=>?_)
 .refine ybj ?_;rfl';have q:=ymr c.ok.w1 b;refine ⟨_,?_,rfl,j+1,?_,q,?_,rfl⟩
  .show 6 - (j+1) < 6 - j;omega
  .have e:x.2.2 - (j:Int) - 1=x.2.2 - ((j+1:Nat):Int):=by omega
   rw [e];rfl
  .rw [ykz b,<- n]
   congr 1
   omega
 .have l:j=tK x:=by rw [<- n,yqu b]
  subst l;rfl';refine ⟨_,_,rfl,t,by omega,?_⟩;rfl';have D:=c.sz;have I:=(yrs c).2;have e:x.2.2 - (tK x:Int)=((sz x - tK x:Nat):Int):=by omega
  rw [e];exact ⟨_,_,rfl,by omega,k⟩
theorem ywo:yk ["self","place"] ["self","place"] (yg yrb):=wv (by right)
inductive ĩ (C:Addr) (vs:List V) (H:Hp) (Q:VK) (E':XK):Prop
 | mk (p dx pd:Addr) (v1 v2 v3:V) (d:List Int) (k:Nat):(vs=[.ref p,.int k])->(H p=some (.ins C dx (yjr (.ref pd) v1 v2 v3)))->(H pd=some (.lst (d.map V.int)))->(Q (.int ((d[k]?).getD 0)) H)->ĩ C vs H Q E'
theorem yvz (T:Txt K mg a):wb P w K mg base CX0 1 a.Li a.Lj ["self","place"] (ĩ a.Af):=by
 exists T.I5.F.ok,ywo,r;obtain ⟨p,l,n,q,m,o,d,j,rfl,t,e,k⟩:=h;refine ⟨_,(yf (yu (π (yy ybn (pv 1) (yq y6 rfl T.Ah (by right) (yb (yp (pv 0) rfl) ye (ya rfl))) (vd _)) (ud ur (yp (pv 0) rfl) (pv 1) (fun _ _=>rfl)) yi))),?_⟩;exists 2,0;rfl';refine zt (SqL.of e) ?_;rw [bH];rfl';refine za (fun g=>?_) (fun g=>?_)
 .have c:j < d.length:=by omega
  rw [bJ c] at k;rfl';exact Ĥ (SqL.of e) (xc (by rw [bN,bJ c]; rfl)) k
 .rw [cC (by omega)] at k;rfl';exact k
theorem yww:yk ["self"] ["self"] (yg ysk):=wv (by right)
inductive yba (C D:Addr) (vs:List V) (H:Hp) (Q:VK) (E':XK):Prop
 | mk (p dx pd ps ds:Addr) (d:List Int) (x:Sn) (r:Nat):(vs=[.ref p])->(H p=some (.ins C dx (yjr (.ref pd) (.ref ps) (.int (rn d r)) (.int r))))->(H pd=some (.lst (d.map V.int)))->(H ps=some (.ins D ds (z6 x)))->(p≠ps)->(OkS x)->(r <= sz x)->(∀ H',H' p=some (.ins C dx (yjr (.ref pd) (.ref ps) (.int (rn d (sz x))) (.int x.2.2)))->But p H H'->Q .non H')->yba C D vs H Q E'
theorem ym8 (T:Txt K mg a):wb P w K mg base CX0 2 a.Lg a.Lh ["self"] (yba a.Af a.A5):=by
 exists T.Ej.F.ok,yww,N;obtain ⟨p,n,i,g,t,d,x,r,rfl,q,y,C,j,J,e,k⟩:=h;refine ⟨_,(yf (zf PassesOwn.never (yy ybn (yp (pv 0) rfl) (yp (yp (pv 0) rfl) rfl) (vd _)) (yh (vh (pv 0) (yr vy (yr wz (yp (pv 0) rfl) yi) (xl (pv 0) T.C0 T.I5.m (yvz T) (N.mono (by decide)) T.I5.B .nil vg (yb (yp (pv 0) rfl) ye (ya rfl)))) rfl) (yf (vh (pv 0) (yr vy (yp (pv 0) rfl) yi) rfl))))),?_⟩;exists 1,0;have z:=J.sz;refine ⟨fun m σ' o=>∃ r:Nat,σ'=[some (.ref p)]/\o p=some (.ins a.Af n (yjr (.ref i) (.ref g) (.int (rn d r)) (.int r)))/\r <= sz x/\But p H o/\m=sz x - r,⟨_,r,rfl,q,e,But.refl,rfl⟩,?_⟩;rintro m σ2 I ⟨r,rfl,b,L,c,rfl⟩;have v:I g=some (.ins a.A5 t (z6 x)):=c _ _ C j.symm;have f:=c.lst q y;rfl';refine za (fun u=>?_) (fun u=>?_)
 .refine ybj ?_;rfl';refine ⟨p,n,i,_,_,_,d,r,rfl,b,f,?_⟩;rfl';refine ⟨_,?_,r+1,rfl,?_,by omega,(c.trans But.upd).trans But.upd,rfl⟩
  .omega
  .rw [yc];rfl
 .have G:r=sz x:=by omega
  subst G;rfl';refine k _ ?_ c;rw [<- z];exact b
theorem yyj:yk ["self","data"] ["self","data"] (yg yry):=wv (by right)
inductive yaj (K:W.Frag) (a:Ads) (vs:List V) (H:Hp) (Q:VK) (E:XK):Prop
 | mk (p dx:Addr) (v:V) (n:String):(vs=[.ref p,v])->(H p=some (.ins a.Af dx []))->(xr K H v (.type n))->(((Bad K H v n 12000/\∀ H',yx H H'->E (.ref a.E9) none H')\/∃ d:List Int,yz2 K H v (d.map V.int) 12000/\∀ pd ps ds H',H pd=none->H ps=none->yf8 a H' p dx pd ps ds d s0->But p H H'->Q .non H'))->yaj K a vs H Q E
theorem yyb (T:Txt K mg a):wb P w K mg base (CXe P w) 5 a.Ho a.Lf ["self","data"] (yaj K a):=by
 exists T.G0.F.okE,yyj,N;obtain ⟨p,r,v,n,rfl,U,ty,h⟩:=h;refine ⟨_,(yh (vh (pv 0) (vo (vaf T) (N.mono (by decide)) rfl T.O9.m T.O9.F.kp T.O9.B .nil y0 (yb (pv 1) ye (ya rfl))) rfl) (yh (vh (pv 0) (ι T.Oq (yn9 T) (N.mono (by decide)) rfl T.Op T.Ef.B .nil vg) rfl) (yh (vh (pv 0) yi rfl) (yh (vh (pv 0) yi rfl) (yf (yt (w4 (pv 0) T.C0 T.Ej.m (ym8 T) (N.mono (by decide)) T.Ej.B .nil vg))))))),?_⟩;exists 2,0;rfl';refine ⟨v,n,rfl,ty,?_⟩;rcases h with ⟨Y,k⟩ | ⟨d,hg,k⟩
 .exact .inl ⟨Y,k⟩
 .refine .inr ⟨d.map V.int,hg,fun g C q M S=>?_⟩;have a0:=S _ _ U;have f:g≠p:=fun z=>by rw [z,U] at q; cases q
  rfl';have D:But p H (upd C p (.ins a.Af r ([("data",V.ref g)]:List (Str × V)))):=(But.of S).trans But.upd;have l:upd C p (.ins a.Af r ([("data",V.ref g)]:List (Str × V))) p=some (.ins a.Af r ([("data",V.ref g)]:List (Str × V))):=yc;have u:upd C p (.ins a.Af r ([("data",V.ref g)]:List (Str × V))) g=some (.lst (d.map V.int)):=yj f M;generalize upd C p (.ins a.Af r ([("data",V.ref g)]:List (Str × V)))=H2 at D l u ⊢;intro t L i nds ne;refine ⟨t,L,rfl,yc,fun W x X=>⟨rfl,?_⟩⟩;have J:yx H2 W:=fun b o e=>X b o (by rw [ym (yd e i),ym (yd e nds)]; exact e) (yd e i);have Z:=J _ _ l;have y:=J _ _ u;have c:p≠t:=yd l i
  have O:H t=none:=by
   cases e:H t with
   | none=>rfl
   | some o=>exact absurd (D _ _ e c.symm) (by rw [i]; exact fun z=>nomatch z)
  rfl';refine ⟨p,r,g,t,L,d,s0,0,rfl,yc,?_,?_,c,vce,cb _,fun R G B4=>?_⟩
  .exact yj f (yj f (yj f y))
  .exact yj c.symm (yj c.symm (yj c.symm x))
  .rfl';have j:But p W R:=((But.upd.trans But.upd).trans But.upd).trans B4;exact k g t L R q O ⟨G,j _ _ y f,j _ _ x c.symm,c⟩ ((D.trans (But.of J)).trans j)
theorem ynx:yk ["self","chance","bit"] ["self","chance"] (yg yrf):=wv (by right)
inductive yd4 (K:W.Frag) (a:Ads) (vs:List V) (H:Hp) (Q:VK) (E:XK):Prop
 | mk (p dx pd ps ds:Addr) (d:List Int) (x:Sn) (v:V) (n:String):(vs=[.ref p,v])->(yf8 a H p dx pd ps ds d x)->(OkS x)->(xr K H v (.type n))->((chV v=false->E (.ref a.Ea) none H))->(∀ c:Int,v=.int c->Ch c->∀ H',yf8 a H' p dx pd ps ds d (nar x c (Ü d x c))->yjs p ps H H'->Q (.int (Ü d x c)) H')->yd4 K a vs H Q E
theorem ywd {x:Sn} {c b:Int} (h:Ok x) (hc:Ch c):sz x <= sz (nar x c b):=by
 obtain ⟨r,e⟩:=yzl (if b=1 then x.1 else x.1+cut x.2.1 c) (if b=1 then cut x.2.1 c else x.2.1 - cut x.2.1 c) x.2.2
 have a:nar x c b=ren (if b=1 then x.1 else x.1+cut x.2.1 c) (if b=1 then cut x.2.1 c else x.2.1 - cut x.2.1 c) x.2.2:=by
  unfold nar
  split <;> rfl
 rw [a,e];unfold sz;dsimp only;omega
theorem yvd (T:Txt K mg a):wb P w K mg base (CXe P w) 5 a.Lk a.Ll ["self","chance"] (yd4 K a):=by
 exists T.I6.F.okE,ynx,C;obtain ⟨p,O,I,j,q,d,x,v,n,rfl,l,y,Z,W,k⟩:=h;refine ⟨_,(yh (yt (vo (yq8 T) (C.mono (by decide)) rfl T.Dy.m T.Dy.F.kp T.Dy.B .nil y0 (yb (pv 1) ye (ya rfl)))) (yh (zz (yw (i:=2) ynx.nd rfl (Or.inl rfl) (π (yy ybn (yp (pv 0) rfl) (yr vy (yp (yp (pv 0) rfl) rfl) (xl (yp (pv 0) rfl) T.Ai T.Eg.m (yoh T) (C.mono (by decide)) T.Eg.B .nil vg (yb (pv 1) ye (ya rfl)))) (vd _)) yi yi))) (yh (yt (vi (yp (pv 0) rfl) T.Ai T.Eh.m (ymm T) (C.mono (by decide)) T.Eh.B .nil y0 (yb (pv 1) (yb (pv 2) ye (ya rfl)) (ya rfl)))) (yh (yt (w4 (pv 0) T.C0 T.Ej.m (ym8 T) (C.mono (by decide)) T.Ej.B .nil vg)) (yf (yu (pv 2))))))),?_⟩;exists 2,1;rfl';refine ⟨v,n,rfl,Z,fun Y=>?_,W⟩;obtain ⟨c,rfl,c1,c2⟩:=ycw Y;have r:Ch c:=⟨c1,c2⟩;have k:=k c rfl r;have M:=l.me;have e:=l.sp;rfl';refine yjp (fun σ' R=>σ'=[some (.ref p),some (.int c),some (.int (Ü d x c))]/\H=R) ?_ ?_
 .rfl';refine ⟨j,q,_,rfl,e,lkN _ (by right) (by right) (by right),?_⟩;rfl';refine ⟨j,q,x,c,rfl,e,r,?_⟩;rfl';unfold Ü;refine za (fun u=>?_) (fun u=>?_)
  .rw [if_pos u];rfl';exact ⟨rfl,rfl⟩
  .rw [if_neg u];rfl';exact ⟨rfl,rfl⟩
 .rintro σ' R ⟨rfl,rfl⟩;have L:=ũ d x c;generalize u:Ü d x c=b at L k ⊢;rfl';refine ⟨j,q,_,rfl,e,lkN _ (by right) (by right) (by right),?_⟩;rfl';refine ⟨j,q,x,.int c,.int b,_,_,rfl,e,y.ok,.int c,.int b,(fun z=>by rw [ye7 r] at z; cases z),(fun _ z=>by rw [ycv (by omega) (by omega)] at z; cases z),fun X S U eb _ _ _ H1 t J=>?_⟩;obtain rfl:c=X:=V.int.inj U;obtain rfl:b=S:=V.int.inj eb;have g:=J _ _ M l.ne;have f:=J.lst e l.dt;rfl';have o:H1 p=some (.ins a.Af O (yjr (.ref I) (.ref j) (.int (rn d (sz x))) (.int ((sz x:Nat):Int)))):=by rw [y.sz]; exact g
  refine ⟨p,O,I,j,q,d,nar x c b,sz x,rfl,o,f,t,l.ne,ycp y r,ywd y.ok r,fun H2 D G=>?_⟩;rfl';exact k H2 ⟨D,G.lst g f,G _ _ t l.ne.symm,l.ne⟩ (J.two'.trans G.two)
theorem ywk:yk ["self"] ["self"] (yg ys6):=wv (by right)
inductive yan (a:Ads) (vs:List V) (H:Hp) (Q:VK) (E':XK):Prop
 | mk (p dx pd ps ds:Addr) (d:List Int) (x:Sn):(vs=[.ref p])->(yf8 a H p dx pd ps ds d x)->(OkS x)->(sz x <= tMx)->(∀ t H',H t=none->H' t=some (.lst ((tL x).map V.int))->yx H H'->Q (.ref t) H')->yan a vs H Q E'
theorem ywq (T:Txt K mg a):wb P w K mg base CX0 4 a.Lm a.Ln ["self"] (yan a):=by
 exists T.I7.F.ok,ywk,n;obtain ⟨p,o,t,f,c,d,x,rfl,g,q,r,k⟩:=h;have l:=g.me;have b:=g.sp;refine ⟨_,(yf (yu (w4 (yp (pv 0) rfl) T.Ai T.Ei.m (yng T) (n.mono (by decide)) T.Ei.B .nil vg))),?_⟩;exists 1,0;rfl';refine ⟨f,c,_,rfl,b,lkN _ (by right) (by right) (by right),?_⟩;rfl';exact ⟨f,c,x,rfl,b,q,r,k⟩
theorem yuk:yk ["thing"] ["thing"] (yg ys8):=wv (by right)
def ya0 (K:W.Frag):Sp:=fun vs H Q _=>(vs=[.non]/\∀ r H',H r=none->H' r=some (.lst [])->yx H H'->Q (.ref r) H')\/∃ (l:Addr) (n:Nat) (tx:Nat->Addr) (tt:Nat->List Int),vs=[.ref l]/\H l=some (.lst (refs tx n))/\n <= 1000/\(∀ i,i < n->Î H (tx i) (tt i) 1000) /\
 ∀ r (cx:Nat->Addr) H',H r=none->H' r=some (.lst (refs cx n))->(∀ i,i < n->H (cx i)=none/\H' (cx i)=some (.lst ((tt i).map V.int)))->yx H H'->Q (.ref r) H'
theorem yu5 (T:Txt K mg a):wb P w K mg base CX0 5 a.Lo a.Lp ["thing"] (ya0 K):=by
 refine T.G8.F.ok yuk (fun vs H Q E h=>?_) (fun a0 A O s H vs Q E X h=>?_)
 .rcases h with ⟨rfl,_⟩ | ⟨l,n,x,L,rfl,_⟩ <;> rfl
 .rcases h with ⟨rfl,k⟩ | ⟨l,n,x,L,rfl,M,hn,ht,k⟩
  .refine ⟨_,(yh (wa (yy ym6 (pv 0) uk (vd _)) (yf (yu (xx ye))) y9) (yh (wa (xw (xo (yq wq rfl T.A6 (by right) (yb (pv 0) (yb (zr (T:="list") rfl T.Aq (by right)) ye (ya rfl)) (ya rfl))))) (yf ť) y9) (yf (yu (we (js:=[]) (ys:=[]) rfl (w9 (pv 0)) (fun C Z H2 Y=>(vo (yjn T) (X.mono (by decide)) rfl T.Cr.m T.Cr.F.kp T.Cr.B .nil wc (yb (pv 0) ye (ya rfl)))) rfl rfl (hyc:=yv) (hrel:=yv)))))),?_⟩;refine yn (σ':=[some _]) rfl ?_;rfl';refine vbr ?_;rfl';refine ⟨by walk_at "len",fun r q=>?_⟩;exact k r _ q yc (ve q)
  .refine ⟨_,(yh (wa (yy ym6 (pv 0) uk (vd _)) (yf (yu (xx ye))) y9) (yh (wa (xw (xo (yq wq rfl T.A6 (by right) (yb (pv 0) (yb (zr (T:="list") rfl T.Aq (by right)) ye (ya rfl)) (ya rfl))))) (yf ť) y9) (yf (yu (we (js:=[]) (ys:=[]) rfl (w9 (pv 0)) (fun C Z H2 Y=>(vo (yjn T) (X.mono (by decide)) rfl T.Cr.m T.Cr.F.kp T.Cr.B .nil wc (yb (pv 0) ye (ya rfl)))) rfl rfl (hyc:=yv) (hrel:=yv)))))),?_⟩;refine yn (σ':=[some _]) rfl ?_;rfl'
   refine yc2 (fun z=>nomatch z) ?_
   rfl';refine Ú (.lst M) (yj8 _ _) ?_;rfl';refine ⟨l,rfl,⟨_,SqL.of M⟩,fun D J=>?_⟩;refine ux (K:=K) (xs:=refs x n) (fun i G=>∃ f:Nat->Addr,G D=some (.lst (refs f i))/\(∀ j,j < i->H (f j)=none/\G (f j)=some (.lst ((L j).map V.int))/\f j≠D)/\yx H G)
    ⟨fun _=>0,yc,fun j v=>absurd v (cw j),ve J⟩ (fun i G _ ⟨_,_,_,S⟩=>SqL.of (S _ _ M)) (fun i y G hy I z=>?_) (fun G z=>?_)
   .obtain ⟨f,p,g,S⟩:=z;obtain ⟨rfl,U⟩:=ja hy;have d:=(ht i U).same S;rfl';refine ⟨.ref (x i),_,rfl,.lst d.l,.inr ⟨(L i).map V.int,Þ d.l d.s d.z,fun c G2 t R N=>?_⟩⟩;have W:c≠D:=(yd p t).symm;refine xn (n:=(refs x n).length) (N _ _ p) (vq (by rw [wg]; omega)) I ?_;refine ⟨upN f i c,?_,fun j v=>?_,fun b o e=>yj (yd e J) (N _ _ (S b o e))⟩
    .rw [yc,uy,xj]
     congr 3
     exact uv fun j v=>(xg v).symm
    .by_cases z:j=i
     .rw [z,xj];exact ⟨S.free t,yj W R,W⟩
     .have u:j < i:=by omega
      rw [xg u];obtain ⟨g1,g2,g3⟩:=g j u;exact ⟨g1,yj g3 (N _ _ g2),g3⟩
   .obtain ⟨f,p,g,S⟩:=z;rw [wg] at p g;exact k D f G J p (fun i I=>⟨(g i I).1,(g i I).2.1⟩) S
theorem ygx {H:Hp} {lx:V} {N w:Nat} {lt:Nat->Addr} {tt:Nat->List Int} {Q:VK} {E:XK} (h:yty H lx N w lt tt) (hw:w <= 1000) (hN:N <= 1000)
  (k:∀ r (cx:Nat->Addr) H',H r=none->H' r=some (.lst (refs cx N))->(∀ i,i < N->H (cx i)=none/\H' (cx i)=some (.lst ((tt i).map V.int)))->yx H H'->Q (.ref r) H'):ya0 K [lx] H Q E:=by
 obtain ⟨⟨rfl,rfl⟩ | ⟨c,rfl,f⟩,b⟩:=h
 .exact .inl ⟨rfl,fun r H' e d S=>k r (fun _=>0) H' e d (fun i a=>absurd a (cw i)) S⟩
 .exact .inr ⟨c,N,lt,tt,rfl,f,hN,fun i a=>⟨(b i a).l,(b i a).s,cn (b i a).z hw⟩,k⟩
structure vdv (H H':Hp) (r:Addr) (m:Nat) (tu cl:Nat->Addr) (mx:Nat->Int) (cs:Nat->List Int) (bt:Nat->Int):Prop where
 r0:H r=none
 r:H' r=some (.lst (refs tu m))
 t:∀ j,j < m->H' (tu j)=some (.tup [.int (mx j),.ref (cl j),.int (bt j)])
 c:∀ j,j < m->H (cl j)=none/\H' (cl j)=some (.lst ((cs j).map V.int))
theorem yiv:yk ["foreteller","texts","text","bit"] ["foreteller","texts"] (yg ysi):=wv (by right)
inductive yeb (K:W.Frag) (a:Ads) (vs:List V) (H:Hp) (Q:VK) (E':XK):Prop
 | mk (p:Addr) (A:FA) (X:FX) (f:Nat->List Int->Option Slt) (O:Nat->Addr->Prop) (m:Nat) (tl:Addr) (n w:Nat) (tx:Nat->Addr) (tt:Nat->List Int):(vs=[.ref p,.ref tl])->(ut K a H p A X f O m)->(X.sg=[])->(X.nd=0)->(H tl=some (.lst (refs tx n)))->(tl≠A.el)->((∀ i,i < n->Î H (tx i) (tt i) w/\tx i≠A.el))->(w <= 1000)->(m+6 * (n * (9 * w+1))+20 < 1000000)->(∀ (ml el pl:Addr) (sl:Nat->Addr) (f':Nat->List Int->Option Slt) (O':Nat->Addr->Prop) (m':Nat) (H':Hp),ut K a H' p (A.re ml el pl sl) (X.run A (ę tt n)) f' O' m'->m' <= m+6 * (n * (9 * w+1))->FGo p A O H H' el O'->(X.run A (ę tt n)).sg=[]->(X.run A (ę tt n)).nd=0->Q .non H')->yeb K a vs H Q E'
theorem yyc (T:Txt K mg a):wb P w K mg base CX0 7 a.Lq a.Lr ["foreteller","texts"] (yeb K a):=by
 exists T.G9.F.ok,yiv,hr;obtain ⟨p,c,X,f,O,m,tl,n,w,tx,d,rfl,hF,aa,ao,a4,ak,am,hw,hm,k⟩:=h;refine ⟨_,(yf (z0 PassesOwn.never rfl (w9 (pv 1)) (w6 (i:=2) yiv.nd rfl (Or.inl rfl)) (yf (z0 PassesOwn.never rfl (w9 (y8 (yml T) (hr.mono (by decide)) rfl T.D9.m T.D9.F.kp T.D9.B .nil vg (yb (pv 2) ye (ya rfl)))) (w6 (i:=3) yiv.nd rfl (Or.inl rfl)) (yf (yt (xl (pv 0) T.Aj T.D8.m (yi4 T) (hr.mono (by decide)) T.D8.B .nil vg (yb (pv 3) ye (ya rfl))))))))),?_⟩;exists 2,2;rfl';refine ⟨tl,rfl,⟨_,SqL.of a4⟩,jd (K:=K) (a:=tl) (xs:=refs tx n) (fun i σ2 G=>∃ (v1 M:Option V) (Y u W:Addr) (Z:Nat->Addr) (f':Nat->List Int->Option Slt) (O':Nat->Addr->Prop) (m':Nat),σ2=[some (.ref p),some (.ref tl),v1,M]/\ut K a G p (c.re Y u W Z) (X.run c (ę d i)) f' O' m'/\m' <= m+6 * (i * (9 * w+1))/\FGo p c O H G u O'/\(X.run c (ę d i)).sg=[]/\(X.run c (ę d i)).nd=0)
  ⟨_,_,c.ml,c.el,c.pl,c.sl,f,O,m,rfl,hF,Nat.le_add_right _ _,FGo.refl,aa,ao⟩ (by rintro i σ2 G _ ⟨_,_,_,_,_,_,_,_,_,_,_,_,go,_,_⟩; exact SqL.of ((go.kpa hF).lst a4 ak)) ?_ ?_⟩
 .rintro i y σ2 G hy ⟨v1,M,Y,u,W,Z,f1,O1,m1,rfl,q,R,r,g,o⟩;obtain ⟨rfl,a3⟩:=ja hy;obtain ⟨L,ab⟩:=am i a3;have a1:=(r.kpa hF).lst L.l ab;have J:=L.s;have hz:=L.z
  have a5:i * (9 * w+1)+(9 * w+1) <= n * (9 * w+1):=by
   have:(i+1) * (9 * w+1) <= n * (9 * w+1):=Nat.mul_le_mul_right _ a3;rw [Nat.add_mul,Nat.one_mul] at this;exact this
  have as:=x3 (d i);rfl';refine ⟨tx i,d i,rfl,a1,J,by omega,fun bt G1 a2 t S1=>?_⟩;have v:=q.same S1;have ah:bt≠u:=(yd q.el a2).symm;refine ⟨bt,rfl,⟨_,SqL.of t⟩,jd (K:=K) (a:=bt) (xs:=(dec (d i)).map V.int) (fun j σ2 G'=>∃ (M:Option V) (ml' el' pl':Addr) (sl':Nat->Addr) (f':Nat->List Int->Option Slt) (O':Nat->Addr->Prop),σ2=[some (.ref p),some (.ref tl),some (.ref (tx i)),M]/\ut K a G' p (c.re ml' el' pl' sl') ((X.run c (ę d i)).run c ((dec (d i)).take j)) f' O' (m1+6 * j)/\FGo p (c.re Y u W Z) O1 G1 G' el' O'/\TxE (d i) j ((X.run c (ę d i)).run c ((dec (d i)).take j)).sg ((X.run c (ę d i)).run c ((dec (d i)).take j)).nd)
   ⟨_,Y,u,W,Z,f1,O1,rfl,v,FGo.refl,.inl ⟨cb _,by show ybo _ _ (X.run c (ę d i)).sg (X.run c (ę d i)).nd; rw [g,o]; exact ybo.zero _⟩⟩ (by rintro j σ2 G' _ ⟨_,_,_,_,_,_,_,_,_,go,_⟩; exact SqL.of ((go.kpa v).lst t ah)) ?_ ?_⟩
  .rintro j y σ3 G' hy ⟨M,S,D,C,I,f2,O2,rfl,e,N,U⟩;obtain ⟨b,rfl,ag,hb,hj⟩:=jo hy;obtain ⟨b0,b1⟩:=z7 _ b ag;obtain ⟨a0,an⟩:=U.next J hb;obtain ⟨ai,aq⟩:=a0.nd J;have ar:=a0.len;have ap:=e.me;rfl';refine ⟨p,c.re S D C I,_,f2,O2,m1+6 * j,b,rfl,e,b0,b1,by omega,ai,by omega,fun aj ae ad a8 f3 O3 G3 a9 a7 a6 af al _=>?_⟩;rfl';have n6:=e.n6;refine ⟨_,aj,ae,ad,a8,f3,O3,rfl,?_,N.trans ⟨a9,a6,af,al⟩,?_⟩
   .rw [z8 hb];exact a7.up (by show m1+6 * j+c.n <= _; have:c.n <= 6:=n6; omega)
   .rw [z8 hb];exact an
  .rintro σ3 G' ⟨M,S,D,C,I,f2,O2,rfl,e,N,U⟩;rw [bH] at e U;rw [c6] at e U;have er:X.run c (ę d (i+1))=(X.run c (ę d i)).run c (dec (d i)):=j5 c _ _ X;rw [<- er] at e U
   have x:(X.run c (ę d (i+1))).sg=[]/\(X.run c (ę d (i+1))).nd=0:=by
    rcases U with ⟨h,_⟩ | ⟨_,h⟩
    .omega
    .exact h
   rfl';exact ⟨_,_,S,D,C,I,f2,O2,_,rfl,e,by rw [Nat.add_mul,Nat.one_mul]; omega,r.trans (FGo.ahead S1 N),x.1,x.2⟩
 .rintro σ2 G ⟨v1,M,Y,u,W,Z,f1,O1,m1,rfl,q,R,r,g,o⟩;rw [wg] at q R g o;rfl';exact k Y u W Z f1 O1 m1 G q R r g o
def snK (mx bt:Nat->Int):Nat->Sn
 | 0=>s0
 | k+1=>nar (snK mx bt k) (mx k) (bt k)
theorem υ {mx:Nat->Int}:∀ m,(∀ j,j < m->Ch (mx j))->OkS (snK mx bt m)/\(snK mx bt m).2.2 <= 5+2 * (m:Int)
 | 0,_=>⟨vce,by show (5:Int) <= 5+2 * ((0:Nat):Int); decide⟩
 | m+1,h=>by
  obtain ⟨a,d⟩:=υ m fun j e=>h j (by omega);refine ⟨ycp a (h m (by omega)),?_⟩;have:=yyh (c:=mx m) (b:=bt m) a.ok;show (nar (snK mx bt m) (mx m) (bt m)).2.2 <= _;omega
theorem Ă {mx my bu:Nat->Int}:∀ m,(∀ j,j < m->mx j=my j/\bt j=bu j)->snK mx bt m=snK my bu m
 | 0,_=>rfl
 | m+1,h=>by
  show nar (snK mx bt m) (mx m) (bt m)=nar (snK my bu m) (my m) (bu m);rw [Ă m fun j a=>h j (by omega),(h m (by omega)).1,(h m (by omega)).2]
theorem FGo.but {A:FA} {H H1 H2:Hp} {el:Addr} {o':HO} (h:FGo p A O H H1 el O') (hq:H q=none) (B:But q H1 H2) (hq2:H2 q=some o'):FGo p A O H H2 el O' :=
 ⟨h.he,h.hO,fun c o e a b f d=>B _ _ (h.fr c o e a b f d) (yd e hq),fun c o e=>let ⟨o1,w⟩:=h.live c o e; ⟨o1,B _ _ w (yd e hq)⟩⟩
theorem ut.but {H H':Hp} {C:Addr} {A:FA} {X:FX} {f:Nat->List Int->Option Slt} {m:Nat} {fs:List (Str × V)} (h:ut K a H p A X f O m) (hq:H q=some (.ins C dq fs)) (hl:fs.length=3) (nO:∀ i,i < A.n->¬ O i q) (B:But q H H'):ut K a H' p A X f O m:=by
 refine h.frame (O2:=fun c=>c=q) (fun c o e g=>B c o e g) (fun z=>ub h.me hq (by rw [hl]; show ¬ (6=3); decide) z) (fun z=>ub h.mx.o hq (by rw [hl]; show ¬ (1=3); decide) z) (fun i d z=>ub (h.B.b i d).me hq (by rw [hl]; show ¬ (2=3); decide) z) (fun i c d w z=>nO i d (z ▸ w)) (fun l j _ e=>B.lst hq e) (fun t j e=>?_);rcases e with (e | ⟨o,e⟩) | e
 .exact .inl (.inl (B _ _ e (fun z=>by rw [z,hq] at e; cases e)))
 .exact .inl (.inr ⟨o,B _ _ e (fun z=>by rw [z,hq] at e; cases e)⟩)
 .exact .inr e
theorem ymk (A:FA) (ml el pl:Addr) (sl:Nat->Addr):∀ (bs:List Int) (X:FX),X.run (A.re ml el pl sl) bs=X.run A bs
 | [],_=>rfl
 | b :: r,X=>ymk A ml el pl sl r (X.see A b)
def ye9 (A:FA) (X:FX) (ts:List Int) (k:Nat):Int:=yol (X.run A ((dec ts).take k)).ws ((X.run A ((dec ts).take k)).cs A)
theorem yjd:yk ["foreteller","text","span","bit"] ["foreteller","text"] (yg yri):=wv (by right)
inductive Ũ (K:W.Frag) (a:Ads) (vs:List V) (H:Hp) (Q:VK) (E':XK):Prop
 | mk (p:Addr) (A:FA) (X:FX) (f:Nat->List Int->Option Slt) (O:Nat->Addr->Prop) (m:Nat) (tx:Addr) (ts:List Int):(vs=[.ref p,.ref tx])->(ut K a H p A X f O m)->(X.sg=[])->(X.nd=0)->(Î H tx ts 1000)->(tx≠A.el)->(m+6 * (dec ts).length+20 < 1000000)->(∀ (r ml el pl:Addr) (sl:Nat->Addr) (f':Nat->List Int->Option Slt) (O':Nat->Addr->Prop) (m':Nat) (H':Hp),H r=none->H' r=some (.lst ((tL (snK (ye9 A X ts) (wj ts) (dec ts).length)).map V.int))->ut K a H' p (A.re ml el pl sl) (X.run A (dec ts)) f' O' m'->m' <= m+6 * (dec ts).length->FGo p A O H H' el O'->Q (.ref r) H')->Ũ K a vs H Q E'
theorem yn6 (T:Txt K mg a):wb P w K mg base CX0 7 a.Ls a.Lt ["foreteller","text"] (Ũ K a):=by
 exists T.Db.F.ok,yjd,hr;obtain ⟨p,d,X,f,O,m,tx,c,rfl,hF,ag,az,a0,aC,hm,k⟩:=h;have aG:=x3 c;have hz:=a0.z;have Z:=a0.s;refine yo (yw (i:=2) yjd.nd rfl (Or.inl rfl) (ι T.Oq (yn9 T) (hr.mono (by decide)) rfl T.Op T.Ef.B .nil vg)) ?_;refine yo (z0 PassesOwn.never rfl (w9 (y8 (yml T) (hr.mono (by decide)) rfl T.D9.m T.D9.F.kp T.D9.B .nil vg (yb (pv 1) ye (ya rfl)))) (w6 (i:=3) yjd.nd rfl (Or.inl rfl)) (yh (yt (vi (pv 2) T.Ai T.Eh.m (ymm T) (hr.mono (by decide)) T.Eh.B .nil wc (yb (w4 (pv 0) T.Aj T.Ee.m (ynv T) (hr.mono (by decide)) T.Ee.B .nil vg) (yb (pv 3) ye (ya rfl)) (ya rfl)))) (yf (yt (xl (pv 0) T.Aj T.D8.m (yi4 T) (hr.mono (by decide)) T.D8.B .nil vg (yb (pv 3) ye (ya rfl))))))) ?_;refine ⟨_,(yf (yu (w4 (pv 2) T.Ai T.Ei.m (yng T) (hr.mono (by decide)) T.Ei.B .nil vg))),?_⟩;exists 2,2;rfl';intro q U nq ap aB;have SQ:yx H (upd (upd H U (.own q)) q (.ins a.A5 U [])):=fun b o e=>by rw [ym (yd e nq),ym (yd e ap)]; exact e
 refine ⟨q,U,rfl,yc,fun H1 an B1=>⟨rfl,?_⟩⟩;have S1:yx H H1:=fun b o e=>B1 b o (SQ b o e) (yd e nq);rfl';refine ⟨tx,c,rfl,S1 _ _ a0.l,Z,by omega,fun bt H2 aa S S2=>?_⟩;have a4:=S1.trans S2;have aq:=hF.same a4;have as:bt≠d.el:=(yd (hF.same S1).el aa).symm
 have ar:∀ i,i < d.n->¬ O i q:=fun i hi w=>by
  obtain ⟨o,ho,_⟩:=(hF.B.b i hi).own q w;rw [nq] at ho;cases ho
 refine ⟨bt,rfl,⟨_,SqL.of S⟩,jd (K:=K) (a:=bt) (xs:=(dec c).map V.int) (fun j σ2 G=>∃ (v:Option V) (ml el pl:Addr) (sl:Nat->Addr) (f':Nat->List Int->Option Slt) (O':Nat->Addr->Prop),σ2=[some (.ref p),some (.ref tx),some (.ref q),v]/\ut K a G p (d.re ml el pl sl) (X.run d ((dec c).take j)) f' O' (m+6 * j)/\FGo p d O H G el O'/\TxE c j (X.run d ((dec c).take j)).sg (X.run d ((dec c).take j)).nd/\G q=some (.ins a.A5 U (z6 (snK (ye9 d X c) (wj c) j)))/\(∀ i,i < d.n->¬ O' i q)/\(G bt=some (.lst ((dec c).map V.int))/\bt≠el)/\(∀ i,i < j->Ch (ye9 d X c i)))
  ⟨_,d.ml,d.el,d.pl,d.sl,f,O,rfl,aq,FGo.refl.same a4,.inl ⟨cb _,by show ybo _ _ X.sg X.nd; rw [ag,az]; exact ybo.zero _⟩,S2 _ _ an,ar,⟨S,as⟩,fun i hi=>absurd hi (cw i)⟩ (by rintro j σ2 G _ ⟨_,_,_,_,_,_,_,_,_,_,_,_,_,z,_⟩; exact SqL.of z.1) ?_ ?_⟩
 .rintro j y σ2 G hy ⟨v,D,C,I,L,f1,O1,rfl,g,go,hT,u,R,⟨ab,W⟩,M⟩;obtain ⟨b,rfl,ao,hb,hj⟩:=jo hy;obtain ⟨b0,b1⟩:=z7 _ b ao;obtain ⟨a2,ay⟩:=hT.next Z hb;obtain ⟨av,aE⟩:=a2.nd Z;have aF:=a2.len;have a9:wj c j=b:=by unfold wj; rw [hb]; rfl
  have aD:=g.me;have a8:Ch (ye9 d X c j):=yir g.n1 g.wok g.cok;have ak:=ye7 a8;have au:=ycv b0 b1;obtain ⟨Y,aj⟩:=υ (mx:=ye9 d X c) (bt:=wj c) j M;rfl';refine ⟨q,U,_,rfl,u,lkN _ (by right) (by right) (by right),?_⟩;rfl';refine ⟨p,d.re D C I L,_,f1,O1,_,rfl,g,fun G1 N=>?_⟩;rfl';refine ⟨q,U,_,.int (ye9 d X c j),.int b,_,_,rfl,N _ _ u,Y.ok,.int _,.int _,fun z=>(by rw [ak] at z; cases z),fun _ z=>(by rw [au] at z; cases z),fun c' b' ec eb _ _ _ G2 x B2=>?_⟩;cases ec;cases eb;have t:=(g.same N).but (N _ _ u) rfl R B2;have am:FGo p d O H G2 C O1:=(go.same N).but nq B2 x;have J:G2 bt=some (.lst ((dec c).map V.int)):=B2.lst (N _ _ u) (N _ _ ab);have aA:=t.me;have n6:=g.n6;rfl';refine ⟨p,d.re D C I L,_,f1,O1,m+6 * j,b,rfl,t,b0,b1,by omega,av,by omega,fun aw a6 al ae f3 O3 G3 af ad a1 a7 ax _=>?_⟩;have a3:FGo p (d.re D C I L) O1 G2 G3 a6 O3:=⟨af,a1,a7,ax⟩;have a5:=a3.kpa t;rfl';refine ⟨_,aw,a6,al,ae,f3,O3,rfl,?_,am.trans a3,?_,?_,fun i hi w=>?_,⟨(a5 _ _ J rfl W).2,(a5 _ _ J rfl W).1⟩,fun i hi=>?_⟩
  .rw [z8 hb];exact ad.up (by show m+6 * j+d.n <= _; have:d.n <= 6:=n6; omega)
  .rw [z8 hb];exact ay
  .have e:snK (ye9 d X c) (wj c) (j+1)=nar (snK (ye9 d X c) (wj c) j) (ye9 d X c j) b:=by show nar _ _ (wj c j)=_; rw [a9]
   rw [e];exact a7 _ _ x (ub x t.me (show ¬ (3=6) by decide)) (ub x t.mx.o (show ¬ (3=1) by decide)) (fun z=>by have e:=t.el; rw [<- z,x] at e; cases e) R
  .rcases a1 i q hi w with v | v
   .exact R i hi v
   .rw [x] at v;cases v
  .by_cases z:i=j
   .rw [z];exact a8
   .exact M i (by omega)
 .rintro σ2 G ⟨v,D,C,I,L,f1,O1,rfl,g,go,hT,u,R,_,M⟩;rw [bH] at g u M;rw [c6] at g;obtain ⟨Y,aj⟩:=υ (mx:=ye9 d X c) (bt:=wj c) (dec c).length M;rfl';refine ⟨q,U,_,rfl,u,lkN _ (by right) (by right) (by right),?_⟩;rfl';refine ⟨q,U,_,rfl,u,Y,by show Int.toNat _ <= 100000; omega,fun r G1 ah ac N=>?_⟩;exact k r D C I L f1 O1 _ G1 (go.free ah) ac (g.same N) (bL _) (go.same N)
theorem yis:yk ["looks","text","learned","foreteller","signs"] ["looks","text","learned"] (yg yf1):=wv (by right)
inductive ĺ (K:W.Frag) (vs:List V) (H:Hp) (Q:VK) (E':XK):Prop
 | mk (L tx:Addr) (lx:V) (n:Nat) (lk:Nat->Addr) (kd:Nat->Fin 3) (tp:Nat->Addr) (ps:Nat->List Int) (ts:List Int) (N w:Nat) (lt:Nat->Addr) (tt:Nat->List Int):(vs=[.ref L,.ref tx,lx])->(vcp H L tx lx n lk kd tp ps ts N w lt tt)->(ts.length <= 1000)->(∀ r H',H r=none->H' r=some (.lst ((tL (snK (jj n kd ps (ę tt N) ts) (wj ts) (dec ts).length)).map V.int))->yx H H'->Q (.ref r) H')->ĺ K vs H Q E'
theorem yxj (T:Txt K mg a):wb P w K mg base CX0 8 a.E8 a.Lu ["looks","text","learned"] (ĺ K):=by
 exists T.Qd.ok,yis,Z;obtain ⟨L,tx,lx,n,lk,kd,tp,ps,y,N,w,lt,W,rfl,d,I,k⟩:=h;have af:=d.b;have n1:=d.n1;have n6:=d.n6;have ag:=x3 y;refine yo (yw (i:=3) yis.nd rfl (Or.inl rfl) (uf T.R0 (yny T) (Z.mono (by decide)) rfl T.Qz T.Eb.B .nil wc (yb (pv 0) ye (ya rfl)))) ?_;refine yo (yw (i:=4) yis.nd rfl (Or.inl rfl) (vo (yjn T) (Z.mono (by decide)) rfl T.Cr.m T.Cr.F.kp T.Cr.B .nil wc (yb (pv 1) ye (ya rfl)))) ?_;refine yo (yt (y8 (yyc T) (Z.mono (by decide)) rfl T.G9.m T.G9.F.kp T.G9.B .nil vg (yb (pv 3) (yb (y8 (yu5 T) (Z.mono (by decide)) rfl T.G8.m T.G8.F.kp T.G8.B .nil vg (yb (pv 2) ye (ya rfl))) ye (ya rfl)) (ya rfl)))) ?_;refine ⟨_,(yf (yu (y8 (yn6 T) (Z.mono (by decide)) rfl T.Db.m T.Db.F.kp T.Db.B .nil vg (yb (pv 3) (yb (pv 4) ye (ya rfl)) (ya rfl))))),?_⟩;exists 3,2;rfl';intro p D np a4 ab;have S0:yx H (upd (upd H D (.own p)) p (.ins a.A4 D [])):=fun b o e=>by rw [ym (yd e np),ym (yd e a4)]; exact e
 refine ⟨p,D,.ref L,rfl,yc,.inr ⟨L,n,lk,kd,tp,ps,rfl,S0 _ _ d.l,n1,n6,d.r.same S0,fun A f O H1 N1 B1=>⟨rfl,?_⟩⟩⟩;obtain ⟨G,rfl,rfl,rfl,rfl,oO,oB,oM,oL⟩:=N1;have S1:yx H H1:=fun b o e=>B1 b o (S0 b o e) (yd e np);have g:∀ {c:Addr},upd (upd H D (.own p)) p (.ins a.A4 D []) c=none->H c=none:=fun h=>S0.free h;have Y:H A.el=none:=g (oL A.el (.inr (.inl rfl)));rfl';refine ⟨.ref tx,_,rfl,.lst (S1 _ _ d.t.l),.inr ⟨y.map V.int,Þ (S1 _ _ d.t.l) d.t.s d.t.z,fun sg H2 R J S2=>?_⟩⟩;have x:=S1.trans S2;have q:=G.same S2;have a6:sg≠A.el:=(yd G.el R).symm;rfl';refine ygx (d.lr.same x) d.w1 d.N1 fun a3 cx H3 h0 h3 hx S3=>?_;rfl';refine ⟨p,A,FX0 A.n A.kd,f,O,6,a3,N,w,cx,W,rfl,q.same S3,rfl,rfl,h3,(yd q.el h0).symm,fun i C=>⟨⟨(hx i C).2,(d.lr.2 i C).s,(d.lr.2 i C).z⟩,(yd q.el (hx i C).1).symm⟩,d.w1,by omega,fun ml el pl sl f1 O1 m1 H4 U a8 u S X=>?_⟩;have u:=FGo.ahead S3 u;have a0:=u.kpa q;have v:=a0 _ _ J rfl a6
 have eX:∀ i,ye9 (A.re ml el pl sl) ((FX0 A.n A.kd).run A (ę W N)) y i=jj A.n A.kd A.ps (ę W N) y i:=fun i=>by
  unfold jj ye9 fX;rw [ymk,<- č A,<- č A];rfl
 generalize hX:(FX0 A.n A.kd).run A (ę W N)=XX at U S X eX;rfl';refine ⟨p,A.re ml el pl sl,XX,f1,O1,m1,sg,y,rfl,U,S,X,⟨v.2,d.t.s,I⟩,v.1,by omega,fun r ac a9 a7 aa f2 O2 m2 H5 a1 M ad ae a5=>?_⟩;have go:=u.trans a5;rw [Ă _ fun j _=>⟨eX j,rfl⟩] at M;refine k r H5 (x.free (u.free a1)) M fun c o e=>go.fr c o (x _ _ e) (fun z=>?_) (fun z=>?_) (fun z=>?_) (fun i C w'=>?_)
 .rw [z,np] at e;cases e
 .rw [z,g oM] at e;cases e
 .rw [z,Y] at e;cases e
 .rw [g (oO i c C w')] at e;cases e
structure RGo (p q s:Addr) (A:FA) (O:Nat->Addr->Prop) (H H':Hp) (ml el:Addr) (O':Nat->Addr->Prop):Prop where
 hm:ml=A.ml\/H ml=none
 he:el=A.el\/H el=none
 hO:∀ j c,j < A.n->O' j c->O j c\/H c=none
 fr:∀ c o,H c=some o->c≠p->c≠A.mp->c≠A.el->c≠q->c≠s->(∀ j,j < A.n->¬ O j c)->H' c=some o
 live:∀ c o,H c=some o->∃ o',H' c=some o'
theorem RGo.free {s:Addr} {A:FA} {H H':Hp} {ml el c:Addr} (h:RGo p q s A O H H' ml el O') (hc:H' c=none):H c=none:=by
 cases e:H c with
 | none=>rfl
 | some o =>
  obtain ⟨a,w⟩:=h.live c o e;rw [hc] at w;cases w
theorem RGo.refl {s:Addr} {A:FA} {H:Hp}:RGo p q s A O H H A.ml A.el O:=⟨.inl rfl,.inl rfl,fun _ _ _ w=>.inl w,fun _ _ e _ _ _ _ _ _=>e,fun _ o e=>⟨o,e⟩⟩
theorem RGo.trans {s:Addr} {A:FA} {O1:Nat->Addr->Prop} {H H1 H2:Hp} {ml el pl ml2 el2:Addr} {sl:Nat->Addr} (h:RGo p q s A O H H1 ml el O1) (k:RGo p q s (A.re ml el pl sl) O1 H1 H2 ml2 el2 O2):RGo p q s A O H H2 ml2 el2 O2:=by
 refine ⟨?_,?_,fun j c a w=>?_,fun c o e b f d i g l=>?_,fun c o e=>?_⟩
 .rcases k.hm with z | z
  .rcases h.hm with y | y
   .exact .inl (z.trans y)
   .exact .inr (by rw [show ml2=ml from z]; exact y)
  .exact .inr (h.free z)
 .rcases k.he with z | z
  .rcases h.he with y | y
   .exact .inl (z.trans y)
   .exact .inr (by rw [show el2=el from z]; exact y)
  .exact .inr (h.free z)
 .rcases k.hO j c a w with v | v
  .exact h.hO j c a v
  .exact .inr (h.free v)
 .refine k.fr c o (h.fr c o e b f d i g l) b f (fun z=>?_) i g (fun j a w=>?_)
  .rcases h.he with y | y
   .exact d (z.trans y)
   .rw [show c=el from z,y] at e;cases e
  .rcases h.hO j c a w with v | v
   .exact l j a v
   .rw [e] at v;cases v
 .obtain ⟨n,m⟩:=h.live c o e;exact k.live c n m
theorem RGo.same {s:Addr} {A:FA} {H H1 H2:Hp} {ml el:Addr} (h:RGo p q s A O H H1 ml el O') (S:yx H1 H2):RGo p q s A O H H2 ml el O' :=
 ⟨h.hm,h.he,h.hO,fun c o e a d b f i g=>S _ _ (h.fr c o e a d b f i g),fun c o e=>let ⟨o',w⟩:=h.live c o e; ⟨o',S _ _ w⟩⟩
structure j9 (K:W.Frag) (a:Ads) (H:Hp) (p:Addr) (A:FA) (X:FX) (f:Nat->List Int->Option Slt) (O:Nat->Addr->Prop) (m:Nat) (q dx pd s ds:Addr) (d:List Int) (x:Sn):Prop where
 ft:ut K a H p A X f O m
 sk:yf8 a H q dx pd s ds d x
 ok:OkS x
 nO:∀ i,i < A.n->¬ O i q/\¬ O i s
 nd:pd≠A.el
theorem j9.same {H H':Hp} {A:FA} {X:FX} {f:Nat->List Int->Option Slt} {m:Nat} {dx pd s:Addr} {d:List Int} {x:Sn} (h:j9 K a H p A X f O m q dx pd s ds d x) (S:yx H H'):j9 K a H' p A X f O m q dx pd s ds d x:=⟨h.ft.same S,h.sk.same S,h.ok,h.nO,h.nd⟩
def chX (A:FA) (X:FX):Int:=yol X.ws (X.cs A)
theorem ut.but2 {H H':Hp} {A:FA} {X:FX} {f:Nat->List Int->Option Slt} {m:Nat} {dx pd s:Addr} {d:List Int} {x:Sn} (h:j9 K a H p A X f O m q dx pd s ds d x) (B:yjs q s H H'):ut K a H' p A X f O m:=by
 have j:=h.sk.me;have k:=h.sk.sp;refine h.ft.frame (O2:=fun c=>c=q\/c=s) (fun c o e n=>B c o e (fun z=>n (.inl z)) (fun z=>n (.inr z))) (fun z=>?_) (fun z=>?_) (fun i g z=>?_) (fun i c g w z=>?_) (fun l r _ e=>h.sk.lst B e) (fun t r e=>?_)
 .rcases z with z | z
  .exact ub h.ft.me j (show ¬ (6=4) by decide) z
  .exact ub h.ft.me k (show ¬ (6=3) by decide) z
 .rcases z with z | z
  .exact ub h.ft.mx.o j (show ¬ (1=4) by decide) z
  .exact ub h.ft.mx.o k (show ¬ (1=3) by decide) z
 .rcases z with z | z
  .exact ub (h.ft.B.b i g).me j (show ¬ (2=4) by decide) z
  .exact ub (h.ft.B.b i g).me k (show ¬ (2=3) by decide) z
 .rcases z with z | z
  .exact (h.nO i g).1 (z ▸ w)
  .exact (h.nO i g).2 (z ▸ w)
 .rcases e with (e | ⟨o,e⟩) | e
  .exact .inl (.inl (h.sk.tup B e))
  .exact .inl (.inr ⟨o,B _ _ e (xb e j (by intro z; cases z)) (xb e k (by intro z; cases z))⟩)
  .exact .inr e
theorem yn8:yk ["foreteller","seeker","bit"] ["foreteller","seeker"] (yg ysy):=wv (by right)
inductive Ŧ (K:W.Frag) (a:Ads) (vs:List V) (H:Hp) (Q:VK) (E':XK):Prop
 | mk (p:Addr) (A:FA) (X:FX) (f:Nat->List Int->Option Slt) (O:Nat->Addr->Prop) (m:Nat) (q dx pd s ds:Addr) (d:List Int) (x:Sn):(vs=[.ref p,.ref q])->(j9 K a H p A X f O m q dx pd s ds d x)->(m+20 < 1000000)->(0 <= X.nd)->(X.sg.length <= 100000)->(∀ (ml el pl:Addr) (sl:Nat->Addr) (f':Nat->List Int->Option Slt) (O':Nat->Addr->Prop) (H':Hp),j9 K a H' p (A.re ml el pl sl) (X.see A (Ü d x (chX A X))) f' O' (m+A.n) q dx pd s ds d (nar x (chX A X) (Ü d x (chX A X)))->RGo p q s A O H H' ml el O'->Q (.int (Ü d x (chX A X))) H')->Ŧ K a vs H Q E'
theorem yl3 (T:Txt K mg a):wb P w K mg base CX0 7 a.Lx a.Ly ["foreteller","seeker"] (Ŧ K a):=by
 exists T.Dc.F.ok,yn8,hr;obtain ⟨p,t,X,f,O,m,q,dx,pd,u,ds,d,x,rfl,n,hm,a1,a4,k⟩:=h;have hp:=n.ft.me;have hq:=n.sk.me;have L:Ch (chX t X):=yir n.ft.n1 n.ft.wok n.ft.cok;have a7:=ye7 L;refine ⟨_,(yh (yw (i:=2) yn8.nd rfl (Or.inl rfl) (vi (pv 1) T.C0 T.I6.m (yvd T) (hr.mono (by decide)) T.I6.B .nil wc (yb (w4 (pv 0) T.Aj T.Ee.m (ynv T) (hr.mono (by decide)) T.Ee.B .nil vg) ye (ya rfl)))) (yh (yt (xl (pv 0) T.Aj T.D8.m (yi4 T) (hr.mono (by decide)) T.D8.B .nil vg (yb (pv 2) ye (ya rfl)))) (yf (yu (pv 2))))),?_⟩;exists 2,1;rfl';refine ⟨p,t,X,f,O,m,rfl,n.ft,fun H1 G=>?_⟩;have R:=n.same G;rfl';refine ⟨q,dx,pd,u,ds,d,x,.int (chX t X),_,rfl,R.sk,n.ok,.int _,fun z=>(by rw [a7] at z; cases z),fun c' ec _ H2 g D=>?_⟩;cases ec;have l:=ut.but2 R D;have a8:=l.me
 obtain ⟨b0,b1⟩:0 <= Ü d x (chX t X)/\Ü d x (chX t X) <= 1:=by
  rcases ũ d x (chX t X) with e | e <;> (rw [e]; decide)
 generalize hb:Ü d x (chX t X)=b at b0 b1 g k;rfl';refine ⟨p,t,X,f,O,m,b,rfl,l,b0,b1,hm,a1,a4,fun N I pl sl f' O' H3 he Z Y U lv r=>?_⟩;have a3:q≠p:=ub g.me l.me (show ¬ (4=6) by decide);have a6:q≠t.mp:=ub g.me l.mx.o (show ¬ (4=1) by decide);have W:u≠p:=ub g.sp l.me (show ¬ (3=6) by decide);have a5:u≠t.mp:=ub g.sp l.mx.o (show ¬ (3=1) by decide)
 have J:∀ {c C dc:Addr} {fs:List (Str × V)},H2 c=some (.ins C dc fs)->c≠t.el:=fun e z=>by
  have e2:=l.el;rw [<- z,e] at e2;cases e2
 have S:=U _ _ g.me a3 a6 (J g.me) fun i y=>(n.nO i y).1;have M:=U _ _ g.sp W a5 (J g.sp) fun i y=>(n.nO i y).2;have a0:H3 pd=some (.lst (d.map V.int)):=U _ _ g.dt (fun z=>by have e:=g.dt; rw [z,l.me] at e; cases e) (fun z=>by have e:=g.dt; rw [z,l.mx.o] at e; cases e) n.nd (l.B.nlst g.dt);rfl';refine k N I pl sl f' O' H3 ⟨Z,⟨S,a0,M,g.ne⟩,ycp n.ok L,fun i y=>⟨fun w=>?_,fun w=>?_⟩,?_⟩ ⟨.inr ?_,?_,fun j c hj w=>?_,fun c o e c1 c2 c3 c4 c5 no=>?_,fun c o e=>?_⟩
 .rcases Y i q y w with v | v
  .exact (n.nO i y).1 v
  .rw [g.me] at v;cases v
 .rcases Y i u y w with v | v
  .exact (n.nO i y).2 v
  .rw [g.sp] at v;cases v
 .rcases he with z | z
  .rw [show (t.re N I pl sl).el=t.el from z];exact n.nd
  .exact yd g.dt z
 .cases e:H N with
  | none=>rfl
  | some o =>
   by_cases z1:N=q
   .rw [z1,g.me] at r;cases r
   by_cases z2:N=u
   .rw [z2,g.sp] at r;cases r
   rw [D _ _ (G _ _ e) z1 z2] at r;cases r
 .rcases he with z | z
  .exact .inl z
  .refine .inr ?_
   cases e:H I with
   | none=>rfl
   | some o =>
    by_cases z1:I=q
    .rw [z1,g.me] at z;cases z
    by_cases z2:I=u
    .rw [z2,g.sp] at z;cases z
    rw [D _ _ (G _ _ e) z1 z2] at z;cases z
 .rcases Y j c hj w with v | v
  .exact .inl v
  .refine .inr ?_
   cases e:H c with
   | none=>rfl
   | some o =>
    by_cases z1:c=q
    .rw [z1,g.me] at v;cases v
    by_cases z2:c=u
    .rw [z2,g.sp] at v;cases v
    rw [D _ _ (G _ _ e) z1 z2] at v;cases v
 .exact U c o (D _ _ (G _ _ e) c4 c5) c1 c2 c3 no
 .by_cases z1:c=q
  .exact ⟨_,z1 ▸ S⟩
  by_cases z2:c=u
  .exact ⟨_,z2 ▸ M⟩
  exact lv c o (D _ _ (G _ _ e) z1 z2)
def rnx (A:FA) (d:List Int) (S:FX × Sn):FX × Sn:=(S.1.see A (Ü d S.2 (chX A S.1)),nar S.2 (chX A S.1) (Ü d S.2 (chX A S.1)))
def rst (A:FA) (d:List Int) (S:FX × Sn):Nat->FX × Sn
 | 0=>S
 | n+1=>rnx A d (rst A d S n)
def ω (A:FA) (d:List Int) (S:FX × Sn) (n:Nat):Int:=Ü d (rst A d S n).2 (chX A (rst A d S n).1)
theorem ynm (A:FA) (d:List Int) (S:FX × Sn) (n:Nat):ω A d S n=0\/ω A d S n=1:=ũ _ _ _
theorem ycj (A:FA) (d:List Int) (S:FX × Sn) (k:Nat):∀ n,rst A d (rst A d S k) n=rst A d S (k+n)
 | 0=>rfl
 | n+1=>congrArg (rnx A d) (ycj A d S k n)
theorem yi6 (A:FA) (d:List Int) (S:FX × Sn) (ml el pl:Addr) (sl:Nat->Addr):∀ n,rst (A.re ml el pl sl) d S n=rst A d S n
 | 0=>rfl
 | n+1=>by
  show rnx (A.re ml el pl sl) d (rst (A.re ml el pl sl) d S n)=_;rw [yi6 A d S ml el pl sl n];rfl
theorem ywi (A:FA) (X:FX) (b:Int) (h:0 <= X.nd) (hb:0 <= b):0 <= (X.see A b).nd:=by
 show 0 <= ndN X.nd b;unfold ndN
 split
 .split <;> omega
 .split <;> omega
theorem yut (A:FA) (X:FX) (b:Int):(X.see A b).sg.length <= X.sg.length+1:=by
 show (sgN X.sg X.nd b).length <= _;unfold sgN
 split
 .split
  .rw [bP]; exact bL _
  .omega
 .split
  .omega
  .exact cb _
theorem ye1 (A:FA) (d:List Int) (S:FX × Sn) (h:0 <= S.1.nd):∀ n,0 <= (rst A d S n).1.nd
 | 0=>h
 | n+1=>ywi A _ _ (ye1 A d S h n) (by rcases ynm A d S n with e | e <;> (unfold ω at e; rw [e]; decide))
theorem yek (A:FA) (d:List Int) (S:FX × Sn):∀ n,(rst A d S n).1.sg.length <= S.1.sg.length+n
 | 0=>bL _
 | n+1=>cn (yut A _ _) (Nat.succ_le_succ (yek A d S n))
theorem j9.app {H:Hp} {R:Addr} {A:FA} {X:FX} {f:Nat->List Int->Option Slt} {m:Nat} {dx pd s:Addr} {d:List Int} {x:Sn} {xs ys:List V} (h:j9 K a H p A X f O m q dx pd s ds d x) (hR:H R=some (.lst xs)) (hq:∀ q,(q=A.bl\/q=A.el\/q=A.ml\/q=A.pl)->q≠R) (np:pd≠R):j9 K a (upd H R (.lst ys)) p A X f O m q dx pd s ds d x:=by
 refine ⟨h.ft.app hR hq,⟨yj (fun z=>?_) h.sk.me,yj np h.sk.dt,yj (fun z=>?_) h.sk.sp,h.sk.ne⟩,h.ok,h.nO,h.nd⟩
 .have e:=h.sk.me;rw [z,hR] at e;cases e
 .have e:=h.sk.sp;rw [z,hR] at e;cases e
theorem j9.notN {H:Hp} {R:Addr} {A:FA} {X:FX} {f:Nat->List Int->Option Slt} {m:Nat} {dx pd s:Addr} {d:List Int} {x:Sn} (h:j9 K a H p A X f O m q dx pd s ds d x) (hR:H R=some (.lst (xs.map V.int))) (nm:R≠A.ml) (ne:R≠A.el):∀ q,(q=A.bl\/q=A.el\/q=A.ml\/q=A.pl)->q≠R:=fun q j z=>by
 have i:=h.ft.n1
 have b:∀ (g:Nat->Addr),xs.map V.int=refs g A.n->False:=fun g e=>by
  have c:(refs g A.n)[0]?=some (V.ref (g 0)):=yxk i;rw [<- e,bN] at c
  cases w:xs[0]? with
  | none=>rw [w] at c; cases c
  | some y=>rw [w] at c; cases c
 rcases j with y | y | y | y
 .have e:=h.ft.bl;rw [<- y,z,hR] at e;exact b _ (HO.lst.inj (bX e))
 .exact ne (z.symm.trans y)
 .exact nm (z.symm.trans y)
 .have e:=h.ft.pl;rw [<- y,z,hR] at e;exact b _ (HO.lst.inj (bX e))
theorem RGo.app {s R:Addr} {A:FA} {H H1:Hp} {ml el:Addr} {o':HO} (h:RGo p q s A O H H1 ml el O') (hR:H R=none):RGo p q s A O H (upd H1 R o') ml el O' :=
 ⟨h.hm,h.he,h.hO,fun c o e a d b f i g=>yj (yd e hR) (h.fr c o e a d b f i g),fun c o e=>let ⟨o1,w⟩:=h.live c o e; ⟨o1,yj (yd e hR) w⟩⟩
def wB (i:Nat):Int:=([128,64,32,16,8,4,2,1]:List Int)[i]?.getD 0
theorem vbk (i:Nat):0 <= wB i/\wB i <= 128:=by
 rcases i with _ | _ | _ | _ | _ | _ | _ | _ | i
 .exact ⟨by decide,by decide⟩
 .exact ⟨by decide,by decide⟩
 .exact ⟨by decide,by decide⟩
 .exact ⟨by decide,by decide⟩
 .exact ⟨by decide,by decide⟩
 .exact ⟨by decide,by decide⟩
 .exact ⟨by decide,by decide⟩
 .exact ⟨by decide,by decide⟩
 .exact ⟨by show (0:Int) <= 0; decide,by show (0:Int) <= 128; decide⟩
def sgB (A:FA) (d:List Int) (S:FX × Sn) (i:Nat):List Int:=(List.range i).map fun j=>wB j * ω A d S j
theorem ykd (A:FA) (d:List Int) (S:FX × Sn) (i:Nat):sgB A d S (i+1)=sgB A d S i++[wB i * ω A d S i]:=by
 unfold sgB;rw [List.range_succ,cj];rfl
theorem yvu:yk ["foreteller","seeker"] ["foreteller","seeker"] (yg yrp):=wv (by right)
inductive ā (K:W.Frag) (a:Ads) (vs:List V) (H:Hp) (Q:VK) (E':XK):Prop
 | mk (p:Addr) (A:FA) (S:FX × Sn) (f:Nat->List Int->Option Slt) (O:Nat->Addr->Prop) (m:Nat) (q dx pd s ds:Addr) (d:List Int):(vs=[.ref p,.ref q])->(j9 K a H p A S.1 f O m q dx pd s ds d S.2)->(m+80 < 1000000)->(0 <= S.1.nd)->(S.1.sg.length <= 90000)->(∀ (ml el pl:Addr) (sl:Nat->Addr) (f':Nat->List Int->Option Slt) (O':Nat->Addr->Prop) (H':Hp),j9 K a H' p (A.re ml el pl sl) (rst A d S 8).1 f' O' (m+8 * A.n) q dx pd s ds d (rst A d S 8).2->RGo p q s A O H H' ml el O'->Q (.int (sgB A d S 8).sum) H')->ā K a vs H Q E'
theorem yx7 (T:Txt K mg a):wb P w K mg base CX0 8 a.Lz a.M0 ["foreteller","seeker"] (ā K a):=by
 exists T.Ga.F.ok,yvu,hr;obtain ⟨p,b,S,f,O,m,q,dx,pd,Z,ds,d,rfl,J,hm,a2,a7,k⟩:=h;have n6:=J.ft.n6;refine ⟨_,(yf (yu (yq (ν rfl) rfl T.Ev (by right) (yb (we (js:=[1,0]) (ys:=["seeker","foreteller"]) rfl (yez (j3 rfl T.Ip)) (fun C s2 H2 fp=>(yr wz (pv 0) (y8 (yl3 T) (hr.mono (by decide)) rfl T.Dc.m T.Dc.F.kp T.Dc.B .nil vg (yb (pv 2) (yb (pv 1) ye (ya rfl)) (ya rfl))))) rfl rfl (hyc:=(all_cons rfl (all_cons rfl yv))) (hrel:=(all_cons rfl (all_cons rfl yv)))) ye (ya rfl))))),?_⟩;exists 2,0;rfl';refine ⟨a.Bt,rfl,⟨_,T.Dn H⟩,fun D I=>?_⟩;refine ya9 (xs:=[.int 128,.int 64,.int 32,.int 16,.int 8,.int 4,.int 2,.int 1]) (fun i G=>∃ (u r X:Addr) (U:Nat->Addr) (f':Nat->List Int->Option Slt) (O':Nat->Addr->Prop),j9 K a G p (b.re u r X U) (rst b d S i).1 f' O' (m+i * b.n) q dx pd Z ds d (rst b d S i).2/\RGo p q Z b O H G u r O'/\G D=some (.lst ((sgB b d S i).map V.int))/\D≠u/\D≠r) ?_ (fun i G _ _=>T.Dn G) ?_ ?_
 .have S1:yx H (upd H D (.lst [])):=ve I;refine ⟨b.ml,b.el,b.pl,b.sl,f,O,?_,RGo.refl.same S1,yc,(yd J.ft.mx.l I).symm,(yd J.ft.el I).symm⟩;rw [Nat.zero_mul];exact J.same S1
 .rintro i y G j a3 ⟨u,r,X,U,f1,O1,e,x,c,R,v⟩;have hi:i < 8:=a3
  obtain rfl:y=V.int (wB i):=by
   rcases i with _ | _ | _ | _ | _ | _ | _ | _ | i
   .exact (bX j).symm
   .exact (bX j).symm
   .exact (bX j).symm
   .exact (bX j).symm
   .exact (bX j).symm
   .exact (bX j).symm
   .exact (bX j).symm
   .exact (bX j).symm
   .omega
  have a9:i * b.n <= 8 * b.n:=Nat.mul_le_mul_right _ (by omega);obtain ⟨aa,a6⟩:=vbk i;have a4:=ye1 b d S a2 i;have ab:=yek b d S i;rfl';refine ⟨p,b.re u r X U,(rst b d S i).1,f1,O1,m+i * b.n,q,dx,pd,Z,ds,d,(rst b d S i).2,rfl,e,by omega,a4,by omega,fun M Y a1 a0 f2 O2 G2 W g=>?_⟩;have t:G2 D=some (.lst ((sgB b d S i).map V.int)):=g.fr _ _ c (xb c e.ft.me (by intro z; cases z)) (xb c e.ft.mx.o (by intro z; cases z)) v (xb c e.sk.me (by intro z; cases z)) (xb c e.sk.sp (by intro z; cases z)) (e.ft.B.nlst c)
  have N:D≠M:=by
   rcases g.hm with z | z
   .rw [z]; exact R
   .exact yd c z
  have L:D≠Y:=by
   rcases g.he with z | z
   .rw [z]; exact v
   .exact yd c z
  refine ⟨wB i,_,rfl,rfl,.inl ⟨by omega,by omega⟩,?_⟩;refine ⟨_,t,?_,8 - (i+1),by show 8 - (i+1) < 8 - i; omega,rfl,hi,M,Y,a1,a0,f2,O2,?_,?_,?_,N,L⟩
  .unfold sgB;rw [bH,bH,cm];exact Nat.lt_trans hi (by decide)
  .rw [show m+(i+1) * b.n=m+i * b.n+b.n by rw [Nat.succ_mul,Nat.add_assoc]];exact j9.app W t (W.notN t N L) (yd J.sk.dt I)
  .exact (x.trans g).app I
  .rw [ykd,cj];exact yc
 .rintro G ⟨u,r,X,U,f1,O1,e,x,c,R,v⟩;rfl';refine ⟨D,sgB b d S 8,rfl,SqL.of c,?_⟩;rfl';exact k u r X U f1 O1 G e x
theorem j9.up {H:Hp} {A:FA} {X:FX} {f:Nat->List Int->Option Slt} {m:Nat} {dx pd s:Addr} {d:List Int} {x:Sn} (h:j9 K a H p A X f O m q dx pd s ds d x) (hm:m <= m'):j9 K a H p A X f O m' q dx pd s ds d x:=⟨h.ft.up hm,h.sk,h.ok,h.nO,h.nd⟩
theorem yq1 (A:FA) (d:List Int) (S:FX × Sn) (ml el pl:Addr) (sl:Nat->Addr) (n:Nat):ω (A.re ml el pl sl) d S n=ω A d S n:=by
 unfold ω;rw [yi6];rfl
theorem yxf (A:FA) (d:List Int) (S:FX × Sn) (ml el pl:Addr) (sl:Nat->Addr) (n:Nat):sgB (A.re ml el pl sl) d S n=sgB A d S n:=by
 unfold sgB;exact List.map_congr_left fun j _=>by rw [yq1]
def rsg (A:FA) (d:List Int) (S:FX × Sn) (k:Nat):Int:=(sgB A d (rst A d S (9 * k+1)) 8).sum
def rtx (A:FA) (d:List Int) (S:FX × Sn) (k:Nat):List Int:=(List.range k).map (rsg A d S)
theorem yjv (A:FA) (d:List Int) (S:FX × Sn) (k:Nat):rtx A d S (k+1)=rtx A d S k++[rsg A d S k]:=by
 unfold rtx;rw [List.range_succ,cj];rfl
theorem yh9 (A:FA) (d:List Int) (S:FX × Sn) (k:Nat):(rtx A d S k).length=k:=by
 unfold rtx;rw [bH,cm]
section
variable {G:Hp} {A:FA} {S:FX × Sn} {f:Nat->List Int->Option Slt} {m n:Nat} {dx pd s ml el pl:Addr} {sl:Nat->Addr} {d:List Int} {Q:VK} {E:XK}
theorem yvl (hR:j9 K a G p (A.re ml el pl sl) (rst A d S n).1 f O m q dx pd s ds d (rst A d S n).2) (hm:m+20 < 1000000) (nd0:0 <= S.1.nd) (hsg:S.1.sg.length+n <= 100000)
  (k:∀ (ml2 el2 pl2:Addr) (sl2:Nat->Addr) (f':Nat->List Int->Option Slt) (O':Nat->Addr->Prop) (H':Hp),j9 K a H' p (A.re ml2 el2 pl2 sl2) (rst A d S (n+1)).1 f' O' (m+6) q dx pd s ds d (rst A d S (n+1)).2->RGo p q s (A.re ml el pl sl) O G H' ml2 el2 O'->Q (.int (ω A d S n)) H'):Ŧ K a [.ref p,.ref q] G Q E :=
 ⟨p,A.re ml el pl sl,(rst A d S n).1,f,O,m,q,dx,pd,s,ds,d,(rst A d S n).2,rfl,hR,hm,ye1 A d S nd0 n,cn (yek A d S n) hsg,fun ml2 el2 pl2 sl2 f' O' H' c b=>k ml2 el2 pl2 sl2 f' O' H' (j9.up c (Nat.add_le_add_left hR.ft.n6 m)) b⟩
theorem ypg (hR:j9 K a G p (A.re ml el pl sl) (rst A d S n).1 f O m q dx pd s ds d (rst A d S n).2) (hm:m+80 < 1000000) (nd0:0 <= S.1.nd) (hsg:S.1.sg.length+n <= 90000)
  (k:∀ (ml2 el2 pl2:Addr) (sl2:Nat->Addr) (f':Nat->List Int->Option Slt) (O':Nat->Addr->Prop) (H':Hp),j9 K a H' p (A.re ml2 el2 pl2 sl2) (rst A d S (n+8)).1 f' O' (m+48) q dx pd s ds d (rst A d S (n+8)).2->RGo p q s (A.re ml el pl sl) O G H' ml2 el2 O'->Q (.int (sgB A d (rst A d S n) 8).sum) H'):ā K a [.ref p,.ref q] G Q E:=by
 refine ⟨p,A.re ml el pl sl,rst A d S n,f,O,m,q,dx,pd,s,ds,d,rfl,hR,hm,ye1 A d S nd0 n,cn (yek A d S n) hsg,fun ml2 el2 pl2 sl2 f' O' H' b c=>?_⟩;have e:A.n <= 6:=hR.ft.n6;have b:=j9.up b (show m+8 * A.n <= m+48 by omega);rw [yi6,ycj] at b;rw [yxf];exact k ml2 el2 pl2 sl2 f' O' H' b c
end
theorem ymy:yk ["foreteller","seeker","most","text"] ["foreteller","seeker","most"] (yg yr9):=wv (by right)
inductive ya3 (K:W.Frag) (a:Ads) (vs:List V) (H:Hp) (Q:VK) (E:XK):Prop
 | mk (p:Addr) (A:FA) (S:FX × Sn) (f:Nat->List Int->Option Slt) (O:Nat->Addr->Prop) (m:Nat) (q dx pd s ds:Addr) (d:List Int) (mo:Nat):(vs=[.ref p,.ref q,.int mo])->(j9 K a H p A S.1 f O m q dx pd s ds d S.2)->(mo <= 1000)->(m+54 * mo+200 < 1000000)->(0 <= S.1.nd)->(S.1.sg.length <= 10000)->((∀ (N:Nat) (r ml el pl:Addr) (sl:Nat->Addr) (f':Nat->List Int->Option Slt) (O':Nat->Addr->Prop) (H':Hp),N <= mo->(∀ j,j < N->ω A d S (9 * j)=1)->ω A d S (9 * N)=0->H r=none->H' r=some (.lst ((rtx A d S N).map V.int))->r≠el->j9 K a H' p (A.re ml el pl sl) (rst A d S (9 * N+1)).1 f' O' (m+54 * N+6) q dx pd s ds d (rst A d S (9 * N+1)).2->RGo p q s A O H H' ml el O'->Q (.ref r) H'))->(((∀ j,j <= mo->ω A d S (9 * j)=1)->∀ (ml el:Addr) (O':Nat->Addr->Prop) (H':Hp),RGo p q s A O H H' ml el O'->E (.ref a.Gr) none H'))->ya3 K a vs H Q E
theorem ywf (T:Txt K mg a):wb P w K mg base (CXe P w) 9 a.M4 a.M5 ["foreteller","seeker","most"] (ya3 K a):=by
 exists T.Gb.F.okE,ymy,hr;obtain ⟨p,g,S,f,O,m,q,dx,pd,s',ds,d,mo,rfl,hR,ai,hm,Z,aj,kQ,kE⟩:=h;refine ⟨_,(yh (yw (i:=3) ymy.nd rfl (Or.inl rfl) (xx ye)) (yh (zf PassesOwn.leaving (yy x0 (y8 (yl3 T) (hr.mono (by decide)) rfl T.Dc.m T.Dc.F.kp T.Dc.B .nil vg (yb (pv 0) (yb (pv 1) ye (ya rfl)) (ya rfl))) yi (vd _)) (yh (wa (yy x0 (yq y6 rfl T.Ah (by right) (yb (pv 3) ye (ya rfl))) (pv 2) (vd _)) (yf (w8 rfl T.R3 T.Q4 (yb wd ye (ya rfl)))) y9) (yf (yt (ĕ PySem.F.plainAttrs_list PySem.F.slot_list_append PySem.F.type_list_append xi (pv 3) (yb (y8 (yx7 T) (hr.mono (by decide)) rfl T.Ga.m T.Ga.F.kp T.Ga.B .nil vg (yb (pv 0) (yb (pv 1) ye (ya rfl)) (ya rfl))) ye (ya rfl))))))) (yf (yu (pv 3))))),?_⟩;exists 3,1;rfl';refine ⟨by walk_at "len",fun r hr0=>?_⟩
 with_reducible first | refine y7 hr0 fun H1 S1 hr1=>?_ | refine vk hr0 fun H1 S1 hr1=>?_
 have a8:pd≠r:=yd hR.sk.dt hr0;rfl'
 refine ⟨fun w σ' G=>∃ (N:Nat) (I D pl:Addr) (sl:Nat->Addr) (f':Nat->List Int->Option Slt) (O':Nat->Addr->Prop),σ'=[some (.ref p),some (.ref q),some (.int mo),some (.ref r)]/\N <= mo/\(∀ j,j < N->ω g d S (9 * j)=1)/\j9 K a G p (g.re I D pl sl) (rst g d S (9 * N)).1 f' O' (m+54 * N) q dx pd s' ds d (rst g d S (9 * N)).2/\RGo p q s' g O H G I D O'/\G r=some (.lst ((rtx g d S N).map V.int))/\r≠I/\r≠D/\w=mo - N,
  ⟨_,0,g.ml,g.el,g.pl,g.sl,f,O,rfl,cb _,fun j hj=>absurd hj (cw j),hR.same S1,RGo.refl.same S1,hr1,(yd hR.ft.mx.l hr0).symm,(yd hR.ft.el hr0).symm,rfl⟩,?_⟩
 rintro w σ2 G ⟨N,I,D,pl,sl,f1,O1,rfl,hN,a4,c,ag,aa,J,y,rfl⟩;rfl';refine yvl c (by omega) Z (by omega) fun t v a7 a5 f2 O2 G2 M k=>?_
 have n:∀ {G G2:Hp} {I D pl t v:Addr} {sl:Nat->Addr} {X:FX} {f1:Nat->List Int->Option Slt} {O1 O2:Nat->Addr->Prop} {m x} {xs:List V},j9 K a G p (g.re I D pl sl) X f1 O1 m q dx pd s' ds d x->RGo p q s' (g.re I D pl sl) O1 G G2 t v O2->G r=some (.lst xs)->r≠I->r≠D->G2 r=some (.lst xs)/\r≠t/\r≠v:=fun c k e J y=>by
  refine ⟨k.fr _ _ e (xb e c.ft.me (by intro z; cases z)) (xb e c.ft.mx.o (by intro z; cases z)) y (xb e c.sk.me (by intro z; cases z)) (xb e c.sk.sp (by intro z; cases z)) (c.ft.B.nlst e),?_,?_⟩
  .rcases k.hm with z | z
   .rw [z]; exact J
   .exact yd e z
  .rcases k.he with z | z
   .rw [z]; exact y
   .exact yd e z
 obtain ⟨C,ae,U⟩:=n c k aa J y;have u:=ag.trans k;have a3:=ynm g d S (9 * N);generalize ac:ω g d S (9 * N)=b at a3;rfl';refine za (fun hb=>?_) (fun hb=>?_)
 .subst hb
  have W:∀ j,j < N+1->ω g d S (9 * j)=1:=fun j hj=>by
   by_cases z:j=N
   .rw [z]; exact ac
   .exact a4 j (by omega)
  refine ybj ?_;rfl';refine zt (SqL.of C) ?_;rw [bH,yh9];rfl';refine za (fun hc=>?_) (fun hc=>?_)
  .have al:N=mo:=by omega
   rfl';exact ⟨by walk_at "len",kE (fun j hj=>W j (by omega)) t v O2 G2 u⟩
  .rfl';refine Ì C ?_;rfl';refine ypg M (by omega) Z (by omega) fun ab a6 ah a9 f3 O3 G3 a2 Y=>?_;obtain ⟨L,a0,R⟩:=n M Y C ae U;have a1:=u.trans Y;rfl';refine x5 L (vq (by rw [bH,yh9]; omega)) ?_;rfl';refine ⟨_,?_,N+1,ab,a6,ah,a9,f3,O3,rfl,by omega,W,?_,a1.app hr0,?_,a0,R,rfl⟩
   .omega
   .exact j9.app a2 L (a2.notN L a0 R) a8
   .rw [yc,yjv,cj];rfl
 .have ad:ω g d S (9 * N)=0:=by omega
  rfl';exact kQ N r t v a7 a5 f2 O2 G2 hN a4 ad hr0 C U M u
theorem yqx (x:Sn) (c b:Int):(nar x c b).2.2 <= x.2.2+2:=by
 unfold nar ren
 (repeat' split) <;> (dsimp only; omega)
theorem ynf (A:FA) (d:List Int) (S:FX × Sn):∀ n:Nat,(rst A d S n).2.2.2 <= S.2.2.2+2 * (n:Int)
 | 0=>by show S.2.2.2 <= S.2.2.2+2 * ((0:Nat):Int); omega
 | n+1=>by
  have b:=ynf A d S n;have a:=yqx (rst A d S n).2 (chX A (rst A d S n).1) (Ü d (rst A d S n).2 (chX A (rst A d S n).1));show (nar (rst A d S n).2 (chX A (rst A d S n).1) (Ü d (rst A d S n).2 (chX A (rst A d S n).1))).2.2 <= _;omega
structure ROk (A:FA) (d:List Int) (S:FX × Sn) (N:Nat):Prop where
 b1:∀ j,j < N->ω A d S (9 * j)=1
 b0:ω A d S (9 * N)=0
 tk:d.take (tL (rst A d S (9 * N+1)).2).length=tL (rst A d S (9 * N+1)).2
theorem ROk.uniq {A:FA} {d:List Int} {S:FX × Sn} {N M:Nat} (h:ROk A d S N) (b1:∀ j,j < M->ω A d S (9 * j)=1) (b0:ω A d S (9 * M)=0):M=N:=by
 rcases Nat.lt_trichotomy M N with z | z | z
 .have e:=h.b1 M z;rw [b0] at e;cases e
 .exact z
 .have e:=b1 N z;rw [h.b0] at e;cases e
def rTL (A:FA) (d:List Int) (S:FX × Sn) (N:Nat):Nat:=(tL (rst A d S (9 * N+1)).2).length
theorem RGo.fgo {s:Addr} {A:FA} {H0 H H':Hp} {ml el:Addr} (S:yx H0 H) (hq:H0 q=none) (hs:H0 s=none) (h:RGo p q s A O H H' ml el O'):FGo p A O H0 H' el O' :=
 ⟨h.he.imp id S.free,fun j c b w=>(h.hO j c b w).imp id S.free,fun c o e a f d g=>h.fr c o (S _ _ e) a f d (yd e hq) (yd e hs) g,fun c o e=>h.live c o (S _ _ e)⟩
theorem yeo:yk ["foreteller","data","most","seeker","text","own"] ["foreteller","data","most"] (yg ysc):=wv (by right)
inductive þ (K:W.Frag) (a:Ads) (vs:List V) (H:Hp) (Q:VK) (E:XK):Prop
 | mk (p:Addr) (A:FA) (X:FX) (f:Nat->List Int->Option Slt) (O:Nat->Addr->Prop) (m:Nat) (dt:Addr) (d:List Int) (mo:Nat):(vs=[.ref p,.ref dt,.int mo])->(ut K a H p A X f O m)->(H dt=some (.lst (d.map V.int)))->(dt≠A.el)->(Byt d)->(d.length <= 12000)->(mo <= 1000)->(m+54 * mo+200 < 1000000)->(0 <= X.nd)->(X.sg.length <= 10000)->((∀ (N:Nat) (t r el:Addr) (O':Nat->Addr->Prop) (H':Hp),N <= mo->ROk A d (X,s0) N->H t=none->H r=none->H' t=some (.tup [.ref r,.int (rTL A d (X,s0) N)])->H' r=some (.lst ((rtx A d (X,s0) N).map V.int))->FGo p A O H H' el O'->(r≠el/\∃ ml pl sl f',ut K a H' p (A.re ml el pl sl) (rst A d (X,s0) (9 * N+1)).1 f' O' (m+54 * N+6))->Q (.ref t) H'))->(((∀ N,N <= mo->¬ ROk A d (X,s0) N)->∀ (el:Addr) (O':Nat->Addr->Prop) (H':Hp),FGo p A O H H' el O'->E (.ref a.Gr) none H'))->þ K a vs H Q E
theorem ywa (T:Txt K mg a):wb P w K mg base (CXe P w) 10 a.M6 a.M7 ["foreteller","data","most"] (þ K a):=by
 exists T.Gc.F.okE,yeo,hr;obtain ⟨p,l,X,f,O,m,dt,d,mo,rfl,hF,z,ae,a8,a0,ab,hm,a6,ac,kQ,kE⟩:=h;refine yo (yw (i:=3) yeo.nd rfl (Or.inl rfl) (uf T.Se (yyb T) (hr.mono (by decide)) rfl T.Sc T.G0.B .nil y0 (yb (pv 1) ye (ya rfl)))) ?_;refine yo (yw (i:=4) yeo.nd rfl (Or.inl rfl) (vo (ywf T) (hr.mono (by decide)) rfl T.Gb.m T.Gb.F.kp T.Gb.B .nil y0 (yb (pv 0) (yb (pv 3) (yb (pv 2) ye (ya rfl)) (ya rfl)) (ya rfl)))) ?_;refine yo (yw (i:=5) yeo.nd rfl (Or.inl rfl) (w4 (pv 3) T.C0 T.I7.m (ywq T) (hr.mono (by decide)) T.I7.B .nil vg)) ?_;refine yo (wa (yy (Ņ hr.units) (xz jy (pv 1) uo (uq (yq y6 rfl T.Ah (by right) (yb (pv 5) ye (ya rfl))))) (pv 5) (vd _)) (yf (w8 rfl T.R3 T.Q4 (yb wd ye (ya rfl)))) y9) ?_;refine ⟨_,(yf (yu (τ (yb (pv 4) (yb (yq y6 rfl T.Ah (by right) (yb (pv 5) ye (ya rfl))) ye (ya rfl)) (ya rfl))))),?_⟩;exists 3,3;rfl';intro q G J a3 ag;have W:yx H (upd (upd H G (.own q)) q (.ins a.Af G [])):=fun b o e=>by rw [ym (yd e J),ym (yd e a3)]; exact e
 refine ⟨q,G,.ref dt,_,rfl,yc,.lst (W _ _ z),.inr ⟨d,yk9 (W _ _ z) a8 a0,fun pd Z ds H1 R S a1 B1=>⟨rfl,?_⟩⟩⟩;have S1:yx H H1:=fun b o e=>B1 b o (W b o e) (yd e J);have x:H Z=none:=W.free S;have a7:H pd=none:=W.free R
 have nO:∀ {c:Addr},H c=none->∀ i,i < l.n->¬ O i c:=fun D i hi w=>by
  obtain ⟨o,ho,_⟩:=(hF.B.b i hi).own _ w;rw [D] at ho;cases ho
 have hR:j9 K a H1 p l X f O m q G pd Z ds d s0:=⟨hF.same S1,a1,vce,fun i hi=>⟨nO J i hi,nO x i hi⟩,(yd hF.el a7).symm⟩;rfl';refine ⟨p,l,(X,s0),f,O,m,q,G,pd,Z,ds,d,mo,rfl,hR,ab,hm,a6,ac,fun N r ml el pl sl f2 O2 H2 hN Y U a4 aa a5 k v=>?_,fun L ml el O2 H2 v=>?_⟩
 .have a2:=ynf l d (X,s0) (9 * N+1);have ad:((X,s0):FX × Sn).2.2.2=5:=rfl;rw [ad] at a2;have go:=v.fgo S1 J x;have af:=k.sk.me;have I:H2 dt=some (.lst (d.map V.int)):=(go.kpa hF).lst z ae;rfl';refine ⟨q,G,pd,Z,ds,d,_,rfl,k.sk,k.ok,by show Int.toNat _ <= 100000; omega,fun w H3 ai C S3=>?_⟩;rfl';refine zt (SqL.of C) ?_;rw [bH];rfl';refine yc1 (SqL.of (S3 _ _ I)) fun u hu=>?_;have ec:yc4 (d.map V.int) none (some (((tL (rst l d (X,s0) (9 * N+1)).2).length:Nat):Int))=(d.take (tL (rst l d (X,s0) (9 * N+1)).2).length).map V.int:=by rw [List.map_take]; exact z9 _
  rw [ec]
  with_reducible first | refine y7 hu fun H4 S4 hu4=>?_ | refine vk hu fun H4 S4 hu4=>?_
  have y:=go.same (S3.trans S4);rfl';refine vbo _ _ (SqL.of hu4) (SqL.of (S4 _ _ C)) ?_;by_cases D:d.take (tL (rst l d (X,s0) (9 * N+1)).2).length=tL (rst l d (X,s0) (9 * N+1)).2
  .rw [bR D];rfl';refine zt (SqL.of (S4 _ _ C)) ?_;rw [bH];rfl';refine ⟨by walk_at "len",fun t g=>?_⟩;refine kQ N t r el O2 _ hN ⟨Y,U,D⟩ (y.free g) (S1.free a4) yc (zy g ((S3.trans S4) _ _ aa)) (y.same (ve g)) ⟨a5,ml,pl,sl,f2,((k.ft.same (S3.trans S4)).same (ve g))⟩
  .rw [bV D];rfl';exact ⟨by walk_at "len",kE (fun M hM j=>D (by rw [j.uniq Y U]; exact j.tk)) el O2 _ y⟩
 .exact kE (fun M hM j=>by have e:=L M hM; rw [j.b0] at e; cases e) el O2 H2 (v.fgo S1 J x)
structure vdu (H:Hp) (L dt:Addr) (lx:V) (n:Nat) (lk:Nat->Addr) (kd:Nat->Fin 3) (tp:Nat->Addr) (ps:Nat->List Int) (d:List Int) (mo N w:Nat) (lt:Nat->Addr) (tt:Nat->List Int):Prop where
 l:H L=some (.lst (refs lk n))
 n1:1 <= n
 n6:n <= 6
 r:ue H n lk kd tp ps
 dat:H dt=some (.lst (d.map V.int))
 by':Byt d
 dl:d.length <= 12000
 mo1:mo <= 1000
 lr:yty H lx N w lt tt
 w1:w <= 1000
 N1:N <= 1000
 b:6+6 * (N * (9 * w+1))+54 * mo+200 < 1000000
def rS (n:Nat) (kd:Nat->Fin 3) (ps:Nat->List Int) (pre:List Int):FX × Sn:=((FX0 n kd).run (fa0 n ps) pre,s0)
theorem jx (A:FA) (d:List Int) (S:FX × Sn):∀ k,rst A d S k=rst (fa0 A.n A.ps) d S k
 | 0=>rfl
 | k+1=>by
  show rnx A d (rst A d S k)=rnx (fa0 A.n A.ps) d (rst (fa0 A.n A.ps) d S k);rw [jx A d S k];rfl
theorem μ (A:FA) (d:List Int) (S:FX × Sn) (k:Nat):ω A d S k=ω (fa0 A.n A.ps) d S k:=by
 unfold ω;rw [jx];rfl
theorem yo1 (A:FA) (d:List Int) (S:FX × Sn) (k:Nat):rsg A d S k=rsg (fa0 A.n A.ps) d S k:=by
 unfold rsg sgB;rw [jx];exact congrArg List.sum (List.map_congr_left fun j _=>by rw [μ])
theorem ypi (A:FA) (d:List Int) (S:FX × Sn) (k:Nat):rtx A d S k=rtx (fa0 A.n A.ps) d S k:=by
 unfold rtx;exact List.map_congr_left fun j _=>yo1 A d S j
theorem yp2 (A:FA) (d:List Int) (S:FX × Sn) (k:Nat):rTL A d S k=rTL (fa0 A.n A.ps) d S k:=by
 unfold rTL;rw [jx]
theorem ROk.fa0 {A:FA} {d:List Int} {S:FX × Sn} {N:Nat}:ROk A d S N ↔ ROk (fa0 A.n A.ps) d S N:=by
 constructor
 .intro h;exact ⟨fun j a=>by rw [<- μ]; exact h.b1 j a,by rw [<- μ]; exact h.b0,by rw [<- jx]; exact h.tk⟩
 .intro h;exact ⟨fun j a=>by rw [μ]; exact h.b1 j a,by rw [μ]; exact h.b0,by rw [jx]; exact h.tk⟩
theorem ymz {mx:Nat->Int} {d:List Int} (hd:Byt d) {m:Nat} (hc:∀ j,j < m->Ch (mx j)) (hb:∀ j,j < m->bt j=0\/bt j=1) (i:InS d (snK mx bt m)):∀ k,k < m->bt k=Ü d (snK mx bt k) (mx k)/\InS d (snK mx bt k):=by
 induction m with
 | zero=>exact fun k b=>absurd b (cw k)
 | succ m ih =>
  have f:=(υ (mx:=mx) (bt:=bt) m fun j a=>hc j (by omega)).1;obtain ⟨c,e⟩:=ype hd f (hc m (by omega)) (hb m (by omega)) i;intro k b;by_cases z:k=m
  .rw [z];exact ⟨e,c⟩
  .exact ih (fun j a=>hc j (by omega)) (fun j a=>hb j (by omega)) c k (by omega)
theorem yzb {k:Nat} (h:k < (dec ts).length):wj ts k=0\/wj ts k=1:=by
 obtain ⟨b,a⟩:=ykr ts k h;omega
theorem yi9 (x:Sn):Byt (tL x):=fun b a=>yps _ _ b a
theorem ä {n:Nat} {kd:Nat->Fin 3} {ps:Nat->List Int} {pre d:List Int} (hd:Byt d) (hc:∀ j,j < (dec ts).length->Ch (jj n kd ps pre ts j)) (hi:InS d (snK (jj n kd ps pre ts) (wj ts) (dec ts).length)):∀ k,k <= (dec ts).length->rst (fa0 n ps) d (rS n kd ps pre) k=(fX n kd ps pre ts k,snK (jj n kd ps pre ts) (wj ts) k)
 | 0,_=>rfl
 | k+1,hk=>by
  have a:=(ymz hd hc (fun j c=>yzb c) hi k (by omega)).1;have b:(dec ts)[k]?=some (wj ts k):=by unfold wj; rw [bJ (by omega)]; rfl
  show rnx (fa0 n ps) d (rst (fa0 n ps) d (rS n kd ps pre) k)=_;rw [ä hd hc hi k (by omega)];show ((fX n kd ps pre ts k).see (fa0 n ps) (Ü d (snK (jj n kd ps pre ts) (wj ts) k) (jj n kd ps pre ts k)),nar (snK (jj n kd ps pre ts) (wj ts) k) (jj n kd ps pre ts k) (Ü d (snK (jj n kd ps pre ts) (wj ts) k) (jj n kd ps pre ts k)))=(fX n kd ps pre ts (k+1),nar (snK (jj n kd ps pre ts) (wj ts) k) (jj n kd ps pre ts k) (wj ts k));rw [<- a]
  have e:fX n kd ps pre ts (k+1)=(fX n kd ps pre ts k).see (fa0 n ps) (wj ts k):=by
   unfold fX;rw [z8 b]
  rw [e]
theorem ygk {n:Nat} {kd:Nat->Fin 3} {ps:Nat->List Int} {pre d:List Int} (hd:Byt d) (hc:∀ j,j < (dec ts).length->Ch (jj n kd ps pre ts j)) (hi:InS d (snK (jj n kd ps pre ts) (wj ts) (dec ts).length)) (k:Nat) (hk:k < (dec ts).length):ω (fa0 n ps) d (rS n kd ps pre) k=wj ts k:=by
 have a:=(ymz hd hc (fun j b=>yzb b) hi k hk).1;unfold ω;rw [ä hd hc hi k (by omega)];exact a.symm
theorem Ç (t:Int) (r:List Int) (k:Nat):wj (t :: r) (k+9)=wj r k:=rfl
theorem yfp (t:Int) (r:List Int):∀ i,i < 8->wj (t :: r) (1+i)=t / wB i % 2:=fun i a=>by
 rcases i with _ | _ | _ | _ | _ | _ | _ | _ | i
 .rfl
 .rfl
 .rfl
 .rfl
 .rfl
 .rfl
 .rfl
 .rfl
 .omega
theorem ü:∀ (ts:List Int) (j:Nat) (hj:j < ts.length),wj ts (9 * j)=1/\∀ i,i < 8->wj ts (9 * j+1+i)=ts[j] / wB i % 2
 | [],j,hj=>absurd hj (cw j)
 | t :: r,0,_=>⟨rfl,fun i a=>by rw [show 9 * 0+1+i=1+i by omega]; exact yfp t r i a⟩
 | t :: r,j+1,hj=>by
  obtain ⟨c,b⟩:=ü r j (by simpa using hj);refine ⟨?_,fun i a=>?_⟩
  .rw [show 9 * (j+1)=9 * j+9 by omega,Ç];exact c
  .rw [show 9 * (j+1)+1+i=9 * j+1+i+9 by omega,Ç];exact b i a
theorem yda:∀ ts:List Int,wj ts (9 * ts.length)=0
 | []=>rfl
 | t :: r=>by
  rw [show 9 * (t :: r).length=9 * r.length+9 by rw [cy]; omega,Ç];exact yda r
theorem yj9 (A:FA) (d:List Int) (S:FX × Sn) (c i:Nat):ω A d (rst A d S c) i=ω A d S (c+i):=by
 unfold ω;rw [ycj]
theorem yge {n:Nat} {kd:Nat->Fin 3} {ps:Nat->List Int} {pre d:List Int} (hts:Sgs ts) (hd:Byt d) (hc:∀ j,j < (dec ts).length->Ch (jj n kd ps pre ts j)) (hl:(tL (snK (jj n kd ps pre ts) (wj ts) (dec ts).length)).length <= d.length) (h:d.take (tL (snK (jj n kd ps pre ts) (wj ts) (dec ts).length)).length=tL (snK (jj n kd ps pre ts) (wj ts) (dec ts).length)) :
  ROk (fa0 n ps) d (rS n kd ps pre) ts.length/\rtx (fa0 n ps) d (rS n kd ps pre) ts.length=ts/\rTL (fa0 n ps) d (rS n kd ps pre) ts.length=(tL (snK (jj n kd ps pre ts) (wj ts) (dec ts).length)).length:=by
 have p:=(υ (bt:=wj ts) _ hc).1;have a:=yhv hd p hl h;have b:=x3 ts
 have f:rst (fa0 n ps) d (rS n kd ps pre) (9 * ts.length+1)=(fX n kd ps pre ts (dec ts).length,snK (jj n kd ps pre ts) (wj ts) (dec ts).length):=by
  rw [<- b];exact ä hd hc a _ (bL _)
 have c:=ygk hd hc a;refine ⟨⟨fun j m=>?_,?_,?_⟩,?_,?_⟩
 .rw [c _ (by omega)];exact (ü ts j m).1
 .rw [c _ (by omega)];exact yda ts
 .rw [f];exact h
 .show (List.range ts.length).map (rsg (fa0 n ps) d (rS n kd ps pre))=ts;refine List.ext_getElem (by rw [bH,cm]) fun j q g=>?_;rw [dg,List.getElem_range];have k:=hts ts[j] (cE g);have o:=(ü ts j g).2
  have e:∀ i,i < 8->wB i * ω (fa0 n ps) d (rst (fa0 n ps) d (rS n kd ps pre) (9 * j+1)) i=wB i * (ts[j] / wB i % 2):=fun i a=>by
   rw [yj9,c _ (by omega),o i a]
  have l:sgB (fa0 n ps) d (rst (fa0 n ps) d (rS n kd ps pre) (9 * j+1)) 8=(List.range 8).map fun i=>wB i * (ts[j] / wB i % 2):=by
   unfold sgB;exact List.map_congr_left fun i a=>e i (cQ.mp a)
  unfold rsg;rw [l];exact vaj k.1 k.2
 .unfold rTL;rw [f]
theorem ŧ {ys:List Int} (h1:Byt xs) (h2:Byt ys):Byt (xs++ys):=fun b a=>by
 rcases cr.mp a with h | h
 .exact h1 b h
 .exact h2 b h
def Ö (n:Nat) (kd:Nat->Fin 3) (ps:Nat->List Int) (pre ts:List Int):List Int:=tL (snK (jj n kd ps pre ts) (wj ts) (dec ts).length)
theorem ylb {n:Nat} {kd:Nat->Fin 3} {ps:Nat->List Int} {pre:List Int} (n1:1 <= n) (n6:n <= 6) (hp:ybr pre) (hz:ts.length <= 300):(Ö n kd ps pre ts).length <= 5500:=by
 have a:=x3 ts;obtain ⟨b,c⟩:=υ (mx:=jj n kd ps pre ts) (bt:=wj ts) (dec ts).length fun j _=>ų n1 n6 hp j;unfold Ö;rw [yi2];have:sz (snK (jj n kd ps pre ts) (wj ts) (dec ts).length) <= 5500:=by show Int.toNat _ <= 5500; omega
 omega
theorem yko {n:Nat} {kd:Nat->Fin 3} {ps:Nat->List Int} {pre bs:List Int} (n1:1 <= n) (n6:n <= 6) (hp:ybr pre) (hts:Sgs ts) (hb:Byt bs) :
  ROk (fa0 n ps) (Ö n kd ps pre ts++bs) (rS n kd ps pre) ts.length/\rtx (fa0 n ps) (Ö n kd ps pre ts++bs) (rS n kd ps pre) ts.length=ts/\rTL (fa0 n ps) (Ö n kd ps pre ts++bs) (rS n kd ps pre) ts.length=(Ö n kd ps pre ts).length :=
 yge hts (ŧ (yi9 _) hb) (fun j _=>ų n1 n6 hp j) (by rw [bP]; exact Nat.le_add_right _ _) List.take_left
theorem yqb {n:Nat} {kd:Nat->Fin 3} {ps:Nat->List Int} {pre bs:List Int} (n1:1 <= n) (n6:n <= 6) (hp:ybr pre) (hb:Byt bs):(rst (fa0 n ps) (Ö n kd ps pre ts++bs) (rS n kd ps pre) (9 * ts.length+1)).1=((FX0 n kd).run (fa0 n ps) pre).run (fa0 n ps) (dec ts):=by
 have b:∀ j,j < (dec ts).length->Ch (jj n kd ps pre ts j):=fun j _=>ų n1 n6 hp j;have a:Byt (Ö n kd ps pre ts++bs):=ŧ (yi9 _) hb;have c:=yhv a (υ (bt:=wj ts) _ b).1 (by rw [bP]; exact Nat.le_add_right _ _) List.take_left;rw [<- x3 ts,ä a b c _ (bL _)];unfold fX;rw [c6]
theorem va7 {x:Sn} {c b:Int} (h:Ok x) (hc:Ch c):(nar x c b).2.1 < 1099511627776:=by
 obtain ⟨d,f,a⟩:=ybl h.w0 h.w1 hc;have e:=h.w1;unfold nar ren
 (repeat' split) <;> (dsimp only at *; omega)
theorem ykc {n:Nat} {kd:Nat->Fin 3} {ps:Nat->List Int} {pre:List Int} (n1:1 <= n) (n6:n <= 6) (hp:ybr pre):1 <= (Ö n kd ps pre ts).length:=by
 have d:=x3 ts;obtain ⟨m,e⟩:∃ m,(dec ts).length=m+1:=⟨9 * ts.length,by omega⟩;unfold Ö;rw [yi2,e];have a:∀ j,j < m+1->Ch (jj n kd ps pre ts j):=fun j _=>ų n1 n6 hp j;have f:=(υ (bt:=wj ts) m fun j h=>a j (by omega)).1;have c:=(υ (bt:=wj ts) (m+1) a).1;have i:(snK (jj n kd ps pre ts) (wj ts) (m+1)).2.1 < 1099511627776:=va7 (x:=snK (jj n kd ps pre ts) (wj ts) m) (b:=wj ts m) f.ok (a m (by omega));have k:=yih (Ŷ c.ok);have l:=c.sz5;have g:pw (tK (snK (jj n kd ps pre ts) (wj ts) (m+1))) < pw 5:=by rw [pw5]; omega
 have:=yze g;omega
def æ (L:List (List Int)):List Int:=(L.map dec).flatten
theorem ă (L:List (List Int)) (t:List Int):æ (L++[t])=æ L++dec t:=by
 unfold æ;rw [cj,List.flatten_append];simp
theorem ý (L:List (List Int)):ybr (æ L):=fun b a=>by
 unfold æ at a;obtain ⟨l,c,a⟩:=List.mem_flatten.mp a;obtain ⟨t,_,rfl⟩:=bM.mp c;exact z7 t b a
theorem ykk {A:FA} {X:FX} (hts:Sgs ts) (h1:X.sg=[]) (h2:X.nd=0):(X.run A (dec ts)).sg=[]/\(X.run A (dec ts)).nd=0:=by
 have a:∀ k,k <= (dec ts).length->TxE ts k (X.run A ((dec ts).take k)).sg (X.run A ((dec ts).take k)).nd:=by
  intro k
  induction k with
  | zero =>
   intro _;exact .inl ⟨cb _,by show ybo _ _ X.sg X.nd; rw [h1,h2]; exact ybo.zero _⟩
  | succ k ih =>
   intro d;have b:(dec ts)[k]?=some ((dec ts)[k]'(by omega)):=bJ _;rw [z8 b];exact ((ih (by omega)).next hts b).2
 have e:=a _ (bL _);rw [c6] at e;have c:=x3 ts;rcases e with ⟨h,_⟩ | ⟨_,h⟩
 .omega
 .exact h
def ytv (p:Addr) (A:FA) (O:Nat->Addr->Prop):Addr->Prop:=fun c=>c=p\/c=A.mp\/(∃ j,j < A.n/\c=A.bk j)\/(∃ j,j < A.n/\O j c)\/c=A.el
def FZ (K:W.Frag) (a:Ads) (H:Hp) (p:Addr) (n:Nat) (kd:Nat->Fin 3) (ps:Nat->List Int) (pre:List Int) (M:Nat) (W:Addr->Prop):Prop :=
 ∃ A f O m,ut K a H p A ((FX0 n kd).run (fa0 n ps) pre) f O m/\m <= M/\yz4 H A/\A.n=n/\A.kd=kd/\A.ps=ps/\((FX0 n kd).run (fa0 n ps) pre).sg=[]/\((FX0 n kd).run (fa0 n ps) pre).nd=0/\∀ c,W c ↔ ytv p A O c
def ytr:HO->Bool
 | .ins _ _ _=>true
 | .dT _=>true
 | .dK _=>true
 | .frz _ (.dK _)=>true
 | _=>false
def vcu (o:Option HO):Prop:=(∃ ys,o=some (.lst ys))\/∃ ys,o=some (.tup ys)/\ys.length≠2
def WSh (H:Hp) (W:Addr->Prop):Prop:=∀ c,W c->∃ o,H c=some o/\(ytr o=true\/∃ xs,o=.lst xs/\∀ x∈xs,(∃ s,x=V.str s)\/x=V.non\/∃ q,x=V.ref q/\vcu (H q))
theorem yoy {o:HO} (h:yz1 o=true):ytr o=true:=by
 cases o <;> first | rfl | cases h
section
variable {H H':Hp} {n:Nat} {kd:Nat->Fin 3} {ps:Nat->List Int} {pre:List Int} {M:Nat} {W:Addr->Prop}
theorem FZ.sh (h:FZ K a H p n kd ps pre M W):WSh H W:=fun c w=>by
 obtain ⟨A,f,O,m,d,_,_,_,_,_,k,_,e⟩:=h;rcases (e c).mp w with z | z | ⟨j,g,z⟩ | ⟨j,g,z⟩ | z
 .exact ⟨_,by rw [z]; exact d.me,.inl rfl⟩
 .exact ⟨_,by rw [z]; exact d.mx.o,.inl rfl⟩
 .exact ⟨_,by rw [z]; exact (d.B.b j g).me,.inl rfl⟩
 .obtain ⟨o,l,r⟩:=(d.B.b j g).own c z;exact ⟨o,l,.inl (yoy r)⟩
 .have i:=d.el;rw [k] at i;exact ⟨_,by rw [z]; exact i,.inr ⟨_,rfl,fun x q=>by cases q⟩⟩
theorem FZ.live (h:FZ K a H p n kd ps pre M W):∀ c,W c->∃ o,H c=some o:=fun c w=>let ⟨o,e,_⟩:=h.sh c w; ⟨o,e⟩
theorem FZ.same (h:FZ K a H p n kd ps pre M W) (S:yx H H'):FZ K a H' p n kd ps pre M W:=by
 obtain ⟨A,f,O,m,d,b,c,r⟩:=h;exact ⟨A,f,O,m,d.same S,b,c.same S,r⟩
theorem FZ.up (h:FZ K a H p n kd ps pre M W) {M':Nat} (hM:M <= M'):FZ K a H p n kd ps pre M' W:=by
 obtain ⟨A,f,O,m,c,b,r⟩:=h;exact ⟨A,f,O,m,c,cn b hM,r⟩
theorem WSh.tup (h:WSh H W) {c:Addr} {xs:List V} (e:H c=some (.tup xs)):¬ W c:=fun w=>by
 obtain ⟨o,a,z | ⟨b,z,_⟩⟩:=h c w
 .rw [e] at a; cases a; cases z
 .rw [e,z] at a; cases a
theorem WSh.ints (h:WSh H W) {c:Addr} {ns:List Int} (e:H c=some (.lst (ns.map V.int))) (hn:1 <= ns.length):¬ W c:=fun w=>by
 obtain ⟨o,a,z | ⟨b,z,q⟩⟩:=h c w
 .rw [e] at a; cases a; cases z
 .rw [e,z] at a;cases a
  cases ns with
  | nil=>cases hn
  | cons x r=>rcases q (.int x) cG with ⟨_,z⟩ | z | ⟨_,z,_⟩ <;> cases z
theorem WSh.refs (h:WSh H W) {c:Addr} {g:Nat->Addr} {k:Nat} (e:H c=some (.lst (Law.refs g k))) (hk:1 <= k) (hg:¬ vcu (H (g 0))):¬ W c:=fun w=>by
 obtain ⟨o,a,z | ⟨d,z,q⟩⟩:=h c w
 .rw [e] at a; cases a; cases z
 .rw [e,z] at a;cases a;rcases q (.ref (g 0)) (cc (yp8 hk)) with ⟨_,z⟩ | z | ⟨f,z,b⟩
  .cases z
  .cases z
  .cases z; exact hg b
theorem FZ.frame (h:FZ K a H p n kd ps pre M W) (sh:WSh H W2) (dj:∀ c,W c->¬ W2 c) (fr:∀ c o,H c=some o->¬ W2 c->H' c=some o):FZ K a H' p n kd ps pre M W:=by
 obtain ⟨A,f,O,m,j,N,v,U,Y,P,X,Z,q⟩:=h;have k:=j.n1;obtain ⟨S,d⟩:=v.2.2
 have D:¬ W2 A.ll:=sh.refs v.1 k fun z=>by
  obtain ⟨I,e,u,_⟩:=d 0 k;cases e;rw [u] at z;rcases z with ⟨_,z⟩ | ⟨_,z,J⟩
  .cases z
  .cases z; exact J rfl
 have E:¬ W2 A.bl:=sh.refs j.bl k fun z=>by rw [(j.B.b 0 k).me] at z; rcases z with ⟨_,z⟩ | ⟨_,z,_⟩ <;> cases z
 have y:¬ W2 A.pl:=sh.refs j.pl k fun z=>by
  obtain ⟨_,⟨dq,T⟩,_,_⟩:=j.slot k;obtain ⟨C,fs,R⟩:=ń a dq (((FX0 n kd).run (fa0 n ps) pre).g 0 (((FX0 n kd).run (fa0 n ps) pre).key A 0));rw [T,R] at z;rcases z with ⟨_,z⟩ | ⟨_,z,_⟩ <;> cases z
 have F:¬ W2 A.ml:=sh.ints j.mx.l (by rw [j.wok.len]; exact k);refine ⟨A,f,O,m,j.frame (O2:=W2) (fun c o e no=>fr c o e no) (dj _ ((q _).mpr (.inl rfl))) (dj _ ((q _).mpr (.inr (.inl rfl)))) (fun i r=>dj _ ((q _).mpr (.inr (.inr (.inl ⟨i,r,rfl⟩))))) (fun i c r w=>dj _ ((q _).mpr (.inr (.inr (.inr (.inl ⟨i,r,w⟩)))))) (fun l L x e=>fr _ _ e ?_) (fun t L e=>?_),N,⟨fr _ _ v.1 D,v.2.1,S,fun i r=>?_⟩,U,Y,P,X,Z,q⟩
 .rcases x with z | z | z | z
  .rw [z]; exact E
  .rw [z]; exact dj _ ((q _).mpr (.inr (.inr (.inr (.inr rfl)))))
  .rw [z]; exact F
  .rw [z]; exact y
 .rcases e with (e | ⟨o,e⟩) | e
  .exact .inl (.inl (fr _ _ e (sh.tup e)))
  .refine .inl (.inr ⟨o,fr _ _ e fun w=>?_⟩);obtain ⟨o',s,z | ⟨ys,z,_⟩⟩:=sh t w
   .rw [e] at s; cases s; cases z
   .rw [e,z] at s; cases s
  .exact .inr e
 .obtain ⟨I,z,u,G,Q⟩:=d i r;exact ⟨I,z,fr _ _ u (sh.tup u),fr _ _ G (sh.tup G),Q⟩
theorem FZ.went {A:FA} {f f':Nat->List Int->Option Slt} {m:Nat} {X:FX} {ml el pl:Addr} {sl:Nat->Addr} (hF:ut K a H p A ((FX0 A.n A.kd).run (fa0 A.n A.ps) pre) f O m) (hl:yz4 H A) (hX:X=(FX0 A.n A.kd).run (fa0 A.n A.ps) (pre++dec ts)) (hts:Sgs ts) (h4:((FX0 A.n A.kd).run (fa0 A.n A.ps) pre).sg=[]) (h5:((FX0 A.n A.kd).run (fa0 A.n A.ps) pre).nd=0)
  (hF':ut K a H' p (A.re ml el pl sl) X f' O' m') (go:FGo p A O H H' el O') (e6:∀ c,W c ↔ ytv p A O c):FZ K a H' p A.n A.kd A.ps (pre++dec ts) m' (ytv p (A.re ml el pl sl) O')/\Go W H H' (ytv p (A.re ml el pl sl) O'):=by
 subst hX;have h:=go.kpa hF;have d:=ykk (A:=fa0 A.n A.ps) hts h4 h5;refine ⟨⟨_,f',O',m',hF',bL _,⟨(h _ _ hl.1 rfl hl.2.1).2,(h _ _ hl.1 rfl hl.2.1).1,?_⟩,rfl,rfl,rfl,by rw [j5]; exact d.1,by rw [j5]; exact d.2,fun c=>Iff.rfl⟩,⟨fun c o e B=>?_,fun c w=>?_,go.live⟩⟩
 .obtain ⟨u,r⟩:=hl.2.2;refine ⟨u,fun i x=>?_⟩;obtain ⟨s,z,l,k,t⟩:=r i x;have q:∀ {c:Addr} {xs:List V},H c=some (.tup xs)->c≠A.el:=fun e z=>by rw [z,hF.el] at e; cases e
  exact ⟨s,z,(h _ _ l rfl (q l)).2,(h _ _ k rfl (q k)).2,t⟩
 .have b:¬ ytv p A O c:=fun w=>B ((e6 c).mpr w);exact go.fr c o e (fun z=>b (.inl z)) (fun z=>b (.inr (.inl z))) (fun z=>b (.inr (.inr (.inr (.inr z))))) fun j g w=>b (.inr (.inr (.inr (.inl ⟨j,g,w⟩))))
 .rcases w with z | z | ⟨j,g,z⟩ | ⟨j,g,z⟩ | z
  .exact .inl ((e6 c).mpr (.inl z))
  .exact .inl ((e6 c).mpr (.inr (.inl z)))
  .exact .inl ((e6 c).mpr (.inr (.inr (.inl ⟨j,g,z⟩))))
  .rcases go.hO j c g z with v | v
   .exact .inl ((e6 c).mpr (.inr (.inr (.inr (.inl ⟨j,g,v⟩)))))
   .exact .inr v
  .rcases go.he with y | y
   .exact .inl ((e6 c).mpr (.inr (.inr (.inr (.inr (show c=A.el from Eq.trans z y))))))
   .exact .inr (by rw [show c=el from z]; exact y)
theorem FZ.read {Q:VK} {E:XK} {dt:Addr} {bs:List Int} {mo:Nat} (h:FZ K a H p n kd ps pre M W) (hb:ybr pre) (hts:Sgs ts) (hdt:H dt=some (.lst ((Ö n kd ps pre ts++bs).map V.int))) (ndt:¬ W dt) (hbs:Byt bs) (hdl:(Ö n kd ps pre ts++bs).length <= 12000) (hz:ts.length <= mo) (hmo:mo <= 1000) (hM:M+54 * mo+200 < 1000000)
  (k:∀ t r W' H',H t=none->H r=none->H' t=some (.tup [.ref r,.int ((Ö n kd ps pre ts).length:Nat)])->H' r=some (.lst (ts.map V.int))->FZ K a H' p n kd ps (pre++dec ts) (M+6 * (dec ts).length) W'->Go W H H' W'->¬ W' r->Q (.ref t) H'):þ K a [.ref p,.ref dt,.int mo] H Q E:=by
 obtain ⟨A,f,O,m,l,hm,Z,rfl,rfl,rfl,R,X,U⟩:=h;obtain ⟨q,J,G⟩:=yko (kd:=A.kd) (ps:=A.ps) (pre:=pre) (bs:=bs) l.n1 l.n6 hb hts hbs;have I:Byt (Ö A.n A.kd A.ps pre ts++bs):=ŧ (yi9 _) hbs;refine ⟨p,A,_,f,O,m,dt,_,mo,rfl,l,hdt,fun z=>ndt ((U _).mpr (.inr (.inr (.inr (.inr z))))),I,hdl,hmo,by omega,by rw [X]; decide,by rw [R]; exact cb _,fun N t r x O' H' hN i C D s d T c=>?_,fun y x O' H' T=>?_⟩
 .rw [ROk.fa0] at i;obtain rfl:N=ts.length:=q.uniq i.b1 i.b0;rw [yp2] at s;rw [ypi] at d;have s:H' t=some (.tup [.ref r,.int (rTL (fa0 A.n A.ps) (Ö A.n A.kd A.ps pre ts++bs) (rS A.n A.kd A.ps pre) ts.length)]):=s;have d:H' r=some (.lst ((rtx (fa0 A.n A.ps) (Ö A.n A.kd A.ps pre ts++bs) (rS A.n A.kd A.ps pre) ts.length).map V.int)):=d;rw [G] at s;rw [J] at d;obtain ⟨F,P,Y,S,f',c⟩:=c;have v:=x3 ts
  have eX:(rst A (Ö A.n A.kd A.ps pre ts++bs) ((FX0 A.n A.kd).run (fa0 A.n A.ps) pre,s0) (9 * ts.length+1)).1=(FX0 A.n A.kd).run (fa0 A.n A.ps) (pre++dec ts):=by
   rw [jx,j5];exact yqb l.n1 l.n6 hb hbs
  obtain ⟨z,g⟩:=FZ.went l Z eX hts R X c T U;refine k t r _ H' C D s d (z.up (by omega)) g fun w=>?_;rcases w with w | w | ⟨j,u,w⟩ | ⟨j,u,w⟩ | w
  .have e:=c.me;rw [<- w,d] at e;cases e
  .have e:=c.mx.o;rw [show r=(A.re P x Y S).mp from w] at d;rw [d] at e;cases e
  .have e:=(c.B.b j u).me;rw [show r=(A.re P x Y S).bk j from w] at d;rw [d] at e;cases e
  .obtain ⟨o,L,hi⟩:=(c.B.b j u).own _ w;rw [d] at L;cases L;cases hi
  .exact F w
 .exact (y ts.length hz (by rw [ROk.fa0]; exact q)).elim
theorem FZ.press {Q:VK} {E:XK} {tx:Addr} (h:FZ K a H p n kd ps pre M W) (htx:Î H tx ts 1000) (ntx:¬ W tx) (hM:M+6 * (dec ts).length+20 < 1000000)
  (k:∀ r W' H',H r=none->H' r=some (.lst ((Ö n kd ps pre ts).map V.int))->FZ K a H' p n kd ps (pre++dec ts) (M+6 * (dec ts).length) W'->Go W H H' W'->Q (.ref r) H'):Ũ K a [.ref p,.ref tx] H Q E:=by
 obtain ⟨A,f,O,m,d,x,q,rfl,rfl,rfl,i,o,l⟩:=h;refine ⟨p,A,_,f,O,m,tx,ts,rfl,d,i,o,htx,fun z=>ntx ((l _).mpr (.inr (.inr (.inr (.inr z))))),by omega,fun r D y I G B F C H' b v c u w=>?_⟩;have t:((FX0 A.n A.kd).run (fa0 A.n A.ps) pre).run A (dec ts)=(FX0 A.n A.kd).run (fa0 A.n A.ps) (pre++dec ts):=by rw [j5]; exact č A _ _
 obtain ⟨z,g⟩:=FZ.went d q t htx.s i o c w l;refine k r _ H' b ?_ (z.up (by omega)) g;rw [v];have e:snK (ye9 A ((FX0 A.n A.kd).run (fa0 A.n A.ps) pre) ts) (wj ts) (dec ts).length=snK (jj A.n A.kd A.ps pre ts) (wj ts) (dec ts).length:=Ă _ fun j _=>⟨by unfold jj ye9 fX; rw [č A]; rfl,rfl⟩;rw [e];rfl
end
def nmL (L:List (Str × List Int)):List V:=L.map fun x=>V.str x.1
def ybq (H:Hp) (U:Addr->Prop):List (Str × List Int)->List V->Prop
 | [],ks=>ks=[]
 | x :: r,ks=>∃ k ks',ks=k :: ks'/\(k=.non\/∃ q,k=.ref q/\H q=some (.lst (x.2.map V.int))/\¬ U q)/\ybq H U r ks'
theorem ybq.len {H:Hp} :∀ {L:List (Str × List Int)} {ks:List V},ybq H U L ks->ks.length=L.length
 | [],_,h=>by rw [show _=_ from h]; rfl
 | _ :: r,_,⟨_,_,e,_,h⟩=>by rw [e,cy,cy,h.len]
theorem ybq.mono {H H':Hp} (f:∀ q xs,H q=some (.lst xs)->¬ U q->H' q=some (.lst xs)/\¬ U' q):∀ {L:List (Str × List Int)} {ks:List V},ybq H U L ks->ybq H' U' L ks
 | [],_,h=>h
 | _ :: _,_,⟨k,ks',e,z,h⟩=>⟨k,ks',e,z.imp id fun ⟨q,e,b,a⟩=>⟨q,e,f q _ b a⟩,h.mono f⟩
theorem ybq.snoc {H:Hp} {nm:Str} {t:List Int} {k:V} (hk:k=.non\/∃ q,k=.ref q/\H q=some (.lst (t.map V.int))/\¬ U q):∀ {L:List (Str × List Int)} {ks:List V},ybq H U L ks->ybq H U (L++[(nm,t)]) (ks++[k])
 | [],_,h=>by rw [show _=_ from h]; exact ⟨k,[],rfl,hk,rfl⟩
 | _ :: _,_,⟨k',ks',e,z,h⟩=>⟨k',ks'++[k],by rw [e]; rfl,z,h.snoc hk⟩
theorem ybq.mem {H:Hp} :∀ {L:List (Str × List Int)} {ks:List V},ybq H U L ks->∀ x∈ks,x=.non\/∃ q ys,x=.ref q/\H q=some (.lst ys)/\¬ U q
 | [],_,h,x,hx=>by rw [show _=_ from h] at hx; cases hx
 | _ :: _,_,⟨k,ks',e,z,h⟩,x,hx=>by
  rw [e] at hx;rcases bW.mp hx with y | y
  .rw [y];exact z.imp id fun ⟨q,e,b,a⟩=>⟨q,_,e,b,a⟩
  .exact h.mem x y
def ChW (ll tl:Addr) (W:Addr->Prop):Addr->Prop:=fun c=>c=ll\/c=tl\/W c
structure À (K:W.Frag) (a:Ads) (H:Hp) (c dc p ll tl:Addr) (n:Nat) (kd:Nat->Fin 3) (ps:Nat->List Int) (L:List (Str × List Int)) (ks:List V) (M:Nat) (W:Addr->Prop):Prop where
 me:H c=some (.ins a.A1 dc (zw (.ref p) (.ref ll) (.ref tl)))
 fz:FZ K a H p n kd ps (æ (L.map (·.2))) M W
 hl:H ll=some (.lst (nmL L))
 ht:H tl=some (.lst ks)
 tx:ybq H (ChW ll tl W) L ks
 nc:¬ W c
 nll:¬ W ll
 ntl:¬ W tl
 ne:ll≠tl
theorem FZ.new {H:Hp} {dp l:Addr} {n:Nat} {lk:Nat->Addr} {kd:Nat->Fin 3} {ps:Nat->List Int} {Q:VK} {E:XK} (np:H p=none) (ndp:H dp=none) (hl:H l=some (.lst (refs lk n))) (n1:1 <= n) (n6:n <= 6) (r:ue H n lk kd tp ps)
  (k:∀ W H',FZ K a H' p n kd ps [] 6 W->(∀ c,W c->H c=none)->yx H H'->(∀ y xs H'',H y=some (.lst xs)->But y H' H''->FZ K a H'' p n kd ps [] 6 W)->Q .non H'):ū K a [.ref p,.ref l] (upd (upd H dp (.own p)) p (.ins a.A4 dp [])) Q E:=by
 have d:yx H (upd (upd H dp (.own p)) p (.ins a.A4 dp [])):=fun b o e=>by rw [ym (yd e np),ym (yd e ndp)]; exact e
 refine ⟨p,dp,.ref l,rfl,yc,.inr ⟨l,n,lk,kd,tp,ps,rfl,d _ _ hl,n1,n6,r.same d,fun A f O J X Y=>?_⟩⟩;have v:yx H J:=fun b o e=>Y b o (d b o e) (yd e np);obtain ⟨q,rfl,rfl,rfl,rfl,T,S,R,P,s,h,I⟩:=X;refine k (ytv p A O) J ⟨A,f,O,6,q,bL _,⟨s,h,tp,r.same v⟩,rfl,rfl,rfl,rfl,rfl,fun c=>Iff.rfl⟩ (fun c w=>?_) v (fun y xs H2 M b=>?_)
 .rcases w with z | z | ⟨j,C,z⟩ | ⟨j,C,z⟩ | z
  .rw [z]; exact np
  .rw [z]; exact d.free R
  .rw [z]; exact d.free (S j C)
  .exact d.free (T j c C z)
  .exact d.free (P c (.inr (.inl z)))
 .have g:∀ {x:Addr},H x=none->x≠y:=fun {x} e z=>by rw [z,M] at e; cases e
  have u:=v _ _ M;have F:∀ {x:Addr} {B:List V},J x=some (.tup B)->x≠y:=fun {x B} e z=>by rw [z,u] at e; cases e
  refine ⟨A,f,O,6,q.frame (O2:=fun c=>c=y) (fun c o e Z=>b c o e Z) (g np) (g (d.free R)) (fun i m=>g (d.free (S i m))) (fun i c m w=>g (d.free (T i c m w))) (fun l B D e=>b _ _ e (g (d.free (P l D)))) (fun t B e=>?_),bL _,⟨b _ _ s (g (d.free I)),h,tp,fun i m=>?_⟩,rfl,rfl,rfl,rfl,rfl,fun c=>Iff.rfl⟩
  .rcases e with (e | ⟨o,e⟩) | e
   .exact .inl (.inl (b _ _ e (F e)))
   .exact .inl (.inr ⟨o,b _ _ e (fun z=>by rw [z,u] at e; cases e)⟩)
   .exact .inr e
  .obtain ⟨G,e,L,N,U⟩:=r.same v i m;exact ⟨G,e,b _ _ L (F L),b _ _ N (F N),U⟩
@[irreducible] def yok (c:Nat):Bool:=!(Builtin.Str.occurrences "abcdefghijklmnopqrstuvwxyz" ⟨#[c]⟩ 0 (Str.length "abcdefghijklmnopqrstuvwxyz") 1).isEmpty
def nmS (x:Str):Bool:=decide (1 <= (x.length:Int)) && (decide ((x.length:Int) <= 8) && x.cps.toList.all yok)
def nmV:V->Bool
 | .str x=>nmS x
 | _=>false
theorem yqd (x:Str):(List.range x.cps.size).map (fun i=>V.bl (yok (x.cps.toList.getD i 0)))=(x.cps.toList.map yok).map V.bl:=by
 rw [cu];refine List.ext_getElem? fun i=>?_;rw [bN,bN];by_cases hi:i < x.cps.size
 .rw [cZ hi,bJ (by rw [cN]; exact hi),cY,cY,cD,bJ (by rw [cN]; exact hi),Option.getD_some,Function.comp_apply]
 .rw [cC (by rw [cm]; omega),cC (by rw [cN]; omega),Option.map_none,Option.map_none]
theorem yub {x:Str} (h1:(1:Int) <= (x.length:Int)) (h8:(x.length:Int) <= 8):nmV (.str x)=(x.cps.toList.map yok).all id:=by
 have e:nmV (.str x)=nmS x:=by unfold nmV; rfl
 rw [e];unfold nmS;rw [bR h1,bR h8,List.all_map,Function.id_comp,Bool.true_and,Bool.true_and]
theorem yvh {x:Str} (h8:¬ (x.length:Int) <= 8):nmV (.str x)=false:=by
 have e:nmV (.str x)=nmS x:=by unfold nmV; rfl
 rw [e];unfold nmS;rw [bV h8,Bool.false_and,Bool.and_false]
theorem yul {x:Str} (h1:¬ (1:Int) <= (x.length:Int)):nmV (.str x)=false:=by
 have e:nmV (.str x)=nmS x:=by unfold nmV; rfl
 rw [e];unfold nmS;rw [bV h1,Bool.false_and]
theorem yu6 {x:V} (h:nmV x=true):∃ b,x=.str b/\nmS b=true:=by
 cases x with
 | str b=>exact ⟨b,rfl,h⟩
 | _=>cases h
theorem j4 {x:Str} (h:nmS x=true):x.length <= 8:=by
 unfold nmS at h;simp only [cq,decide_eq_true_eq] at h;have:=h.2.1;omega
def smS:Str:=Str.ofString "abcdefghijklmnopqrstuvwxyz"
theorem yjf:smS.length=26:=by right
theorem yuz:∀ i,i < 26->smS.cps[i]?=some (97+i):=by right
theorem ysm {i:Int} (h0:0 <= i) (h1:i < 26):smS.cps[i.toNat]?=some (97+i.toNat):=yuz _ (by omega)
theorem yvq:∀ i,i < 26->yok (97+i)=true:=by right
def yc5 (l:List Nat):Prop:=∀ c,c∈l->97 <= c/\c < 123
theorem yc5.app {l m:List Nat} (h:yc5 l) (g:yc5 m):yc5 (l++m):=fun c a=>(cr.mp a).elim (h c) (g c)
theorem yc5.one {c:Nat} (h:97 <= c/\c < 123):yc5 [c]:=fun d a=>by rw [bZ.mp a]; exact h
theorem yc5.take {l:List Nat} (h:yc5 l) (k:Nat):yc5 (l.take k):=fun c a=>h c (cP a)
theorem yc5.drop {l:List Nat} (h:yc5 l) (k:Nat):yc5 (l.drop k):=fun c a=>h c (List.mem_of_mem_drop a)
theorem yrq {x:Str} (h:yc5 x.cps.toList) (h1:1 <= x.cps.toList.length) (h8:x.cps.toList.length <= 8):nmS x=true/\PyData.strOk x=true:=by
 have e:x.length=x.cps.toList.length:=by simp [Str.length]
 refine ⟨?_,?_⟩
 .unfold nmS;rw [bR (by omega),bR (by omega),Bool.true_and,Bool.true_and,List.all_eq_true];intro c a;obtain ⟨b,d⟩:=h c a;have:=yvq (c - 97) (by omega)
  rwa [show 97+(c - 97)=c by omega] at this
 .unfold PyData.strOk;rw [<- Array.all_toList,List.all_eq_true];intro c a;obtain ⟨b,d⟩:=h c a;exact bR (by omega)
theorem Ď (x y:Str):(x++y).cps.toList=x.cps.toList++y.cps.toList:=by rw [PySem.Str.cps_append,Array.toList_append]
theorem ĉ (x:Str):x.length=x.cps.toList.length:=by simp [Str.length]
def ytn (z:Str) (j:Nat) (c:Nat):Str:=Txt.slice z none (some (j:Int))++⟨#[c]⟩++Txt.slice z (some (j:Int)) none
theorem á {z:Str} {c:Nat} (hj:j <= z.length):(ytn z j c).cps.toList=z.cps.toList.take j++[c]++z.cps.toList.drop j:=by
 unfold ytn;rw [Ď,Ď,ylh hj,yfn hj]
theorem ypt {z:Str} {c:Nat} (hj:j <= z.length) (hz:yc5 z.cps.toList) (hc:97 <= c/\c < 123) (h7:z.length <= 7):nmS (ytn z j c)=true/\PyData.strOk (ytn z j c)=true:=by
 have e:=ĉ z;refine yrq ?_ ?_ ?_
 .rw [á hj];exact ((hz.take j).app (.one hc)).app (hz.drop j)
 .rw [á hj]; simp; omega
 .rw [á hj,bP,bP,cg,c7,cI]; omega
theorem ykw {z:Str} {c d:Nat} (hj:j <= z.length) (e:ytn z j c=ytn z j d):c=d:=by
 have h:=congrArg (fun x:Str=>x.cps.toList) e;simp only [á hj] at h;rw [cJ,cJ] at h;have a:=List.append_cancel_left h;simp at a;exact a
theorem Ą {H:Hp}:∀ ns:List Str,yf6 K H (ns.map V.str) (ns.map PyData.str)
 | []=>.nil
 | n :: r=>.cons (.str n) (Ą r)
theorem ó:∀ ns:List Str,(∀ x,x∈ns->PyData.strOk x=true)->PyData.canLayAll0 (ns.map PyData.str)=true
 | [],_=>rfl
 | x :: r,h=>by simp [PyData.canLayAll0,PyData.canLay0,h x cG,ó r fun y a=>h y (cz _ a)]
theorem į:∀ ns:List Str,PyData.depthAll (ns.map PyData.str)=0
 | []=>rfl
 | _ :: r=>by simp [PyData.depthAll,PyData.depth,į r]
theorem ô (ns:List Str) (h:∀ x,x∈ns->PyData.strOk x=true):SeqAt.shaped (.list (ns.map PyData.str))=true:=by
 simp [SeqAt.shaped,PyData.canLay0,PyData.depth,ó ns h,į]
theorem ö:∀ ns ms:List Str,PyData.eqvAll (ns.map PyData.str) (ms.map PyData.str)=decide (ns=ms)
 | [],[]=>by simp [PyData.eqvAll]
 | [],_ :: _=>by simp [PyData.eqvAll]
 | _ :: _,[]=>by simp [PyData.eqvAll]
 | a :: r,b :: t=>by
  simp only [cA,PyData.eqvAll,PyData.eqv,ö r t];by_cases h:a=b <;> by_cases h':r=t <;> simp [h,h']
theorem yiy {g:Bool->Bool} {H:Hp} {Q:VK} {a b:Addr} (ns ms:List Str) (hn:∀ x,x∈ns->PyData.strOk x=true) (hm:∀ x,x∈ms->PyData.strOk x=true) (ha:SqL K H a (ns.map V.str)) (hb:SqL K H b (ms.map V.str)) (h:Q (.bl (g (decide (ns=ms)))) H):yz0 K g (.ref a) (.ref b) H Q :=
 ⟨_,_,.lst ha (Ą ns),.lst hb (Ą ms),ô ns hn,ô ms hm,by rw [PyData.eqv,ö]; exact h⟩
structure Pc where
 nm:Str
 bs:Option Str
 path:List (Str × List Int)
 tx:List Int
 ob:Addr
 od:Addr
 dl:Addr
def baV:Option Str->V
 | none=>.non
 | some b=>.str b
def Pc.by (n:Nat) (kd:Nat->Fin 3) (ps:Nat->List Int) (q:Pc):List Int:=Ö n kd ps (æ (q.path.map (·.2))) q.tx
def pcs (P:List Pc):List (Key × V):=P.map fun q=>(.inr q.nm,.ref q.ob)
def To (P:List Pc):Option Str->List (Str × List Int)->Prop
 | none,L=>L=[]
 | some b,L=>∃ r,r∈P/\r.nm=b/\L=r.path++[(b,r.tx)]
structure ŋ (a:Ads) (H:Hp) (d:Addr) (n:Nat) (kd:Nat->Fin 3) (ps:Nat->List Int) (w:Nat) (P:List Pc):Prop where
 dk:H d=some (.dK (pcs P))
 ob:∀ q,q∈P->H q.ob=some (.ins a.Aa q.od (Ċ (baV q.bs) (.ref q.dl)))/\H q.dl=some (.lst ((q.by n kd ps).map V.int))
 nd:(P.map (·.nm)).Nodup
 wf:∀ q,q∈P->To P q.bs q.path
 sz:∀ q,q∈P->Sgs q.tx/\q.tx.length <= w/\q.path.length <= 60/\(∀ x,x∈q.path->Sgs x.2/\x.2.length <= w)
 z:P.length <= 60
 nm:∀ q,q∈P->nmS q.nm=true/\PyData.strOk q.nm=true
theorem yi1:∀ {P:List Pc} {r:Pc},(P.map (·.nm)).Nodup->r∈P->zb (pcs P) (.inr r.nm)=some (.ref r.ob)
 | q :: P,r,hn,hr=>by
  have a:=da.mp hn;by_cases e:q.nm=r.nm
  .rcases bW.mp hr with z | z
   .subst z;unfold zb pcs;rw [cA,List.find?_cons_of_pos (by simp)];rfl
   .exact absurd (bM.mpr ⟨r,z,e.symm⟩) a.1
  .rcases bW.mp hr with z | z
   .exact absurd (by rw [z]) e
   .unfold zb pcs;rw [cA,List.find?_cons_of_neg (by simpa using e)];exact yi1 a.2 z
theorem yoi {P:List Pc} {x:Str} (h:∀ q,q∈P->q.nm≠x):zb (pcs P) (.inr x)=none:=by
 unfold zb pcs;rw [List.find?_eq_none.mpr fun y a=>?_]
 .rfl
 .obtain ⟨q,b,e⟩:=bM.mp a;rw [<- e];simpa using h q b
theorem ŋ.same {H H':Hp} {d:Addr} {n:Nat} {kd:Nat->Fin 3} {ps:Nat->List Int} {w:Nat} {P:List Pc} (h:ŋ a H d n kd ps w P) (S:yx H H'):ŋ a H' d n kd ps w P :=
 ⟨S _ _ h.dk,fun q b=>⟨S _ _ (h.ob q b).1,S _ _ (h.ob q b).2⟩,h.nd,h.wf,h.sz,h.z,h.nm⟩
theorem yqh (x:Str) (t:List Int) (S:List (Str × List Int)):(nmL ((x,t) :: S)).reverse=(nmL S).reverse++[.str x]:=by
 unfold nmL;rw [cA,List.reverse_cons]
theorem To.len {H:Hp} {d:Addr} {n:Nat} {kd:Nat->Fin 3} {ps:Nat->List Int} {w:Nat} {P:List Pc} {x:Option Str} (h:ŋ a H d n kd ps w P) (t:To P x L):L.length <= 61:=by
 cases x with
 | none=>rw [show L=[] from t]; exact cb _
 | some b =>
  obtain ⟨r,c,_,e⟩:=t;have:=(h.sz r c).2.2.1;rw [e,bP,cI];omega
theorem ŋ.get {H:Hp} {d:Addr} {n:Nat} {kd:Nat->Fin 3} {ps:Nat->List Int} {w:Nat} {P:List Pc} {r:Pc} (h:ŋ a H d n kd ps w P) (hr:r∈P):Ø H d (.str r.nm) (some (.ref r.ob)):=by
 rw [<- yi1 h.nd hr];exact Ø.k (k:=.inr r.nm) h.dk
theorem yzp:∀ {P:List Pc} {q r:Pc},(P.map (·.nm)).Nodup->q∈P->r∈P->q.nm=r.nm->q=r
 | x :: P,q,r,hn,hq,hr,e=>by
  have a:=da.mp hn;rcases bW.mp hq with z | z <;> rcases bW.mp hr with y | y
  .rw [z,y]
  .exact absurd (bM.mpr ⟨r,y,by rw [<- e,z]⟩) a.1
  .exact absurd (bM.mpr ⟨q,z,by rw [e,y]⟩) a.1
  .exact yzp a.2 z y e
theorem To.uniq {P:List Pc} {x:Option Str} (hn:(P.map (·.nm)).Nodup) (h:To P x L) (g:To P x M):L=M:=by
 cases x with
 | none=>rw [show L=[] from h,show M=[] from g]
 | some b =>
  obtain ⟨r,e,a,d⟩:=h;obtain ⟨q,c,i,f⟩:=g;obtain rfl:=yzp hn e c (a.trans i.symm);rw [d,f]
theorem To.pre {P:List Pc} (wf:∀ q,q∈P->To P q.bs q.path) {b:Str} {t:List Int} {A:List (Str × List Int)}:∀ (m:Nat) {x:Option Str} {B:List (Str × List Int)},B.length <= m->To P x (A++[(b,t)]++B)->To P (some b) (A++[(b,t)])
 | m,none,B,_,h=>by
  have e:=congrArg List.length (show A++[(b,t)]++B=[] from h);rw [bP,bP] at e;simp at e
 | m,some c,B,hm,⟨r,hr,e1,e2⟩=>by
  rcases List.eq_nil_or_concat B with z | ⟨i,y,z⟩
  .subst z;rw [dm] at e2;have a:=List.append_inj' e2 rfl;obtain ⟨g,f⟩:=a;cases f;exact ⟨r,hr,e1,by rw [g]⟩
  .subst z;rw [List.concat_eq_append] at e2 hm;rw [<- cJ] at e2;have a:=(List.append_inj' e2 rfl).1
   cases m with
   | zero=>rw [bP] at hm; simp at hm
   | succ m =>
    have d:=wf r hr;rw [<- a] at d;exact To.pre wf m (by rw [bP,cI] at hm; omega) d
theorem To.ahead {P:List Pc} (hn:(P.map (·.nm)).Nodup) (wf:∀ q,q∈P->To P q.bs q.path) {x y:Option Str} (h:To P x L) (g:To P y M) (e:nmL L=(nmL M).take L.length):L=M.take L.length:=by
 cases x with
 | none=>rw [show L=[] from h]; rfl
 | some b =>
  obtain ⟨r,n,m,f⟩:=id h;have o:L.length=r.path.length+1:=by rw [f,bP,cI]
  have c:=congrArg List.length e;unfold nmL at c;rw [cg,bH,bH] at c;have a:r.path.length < M.length:=by omega
  have k:M=M.take r.path.length++[M[r.path.length]]++M.drop (r.path.length+1):=by
   rw [cJ,List.singleton_append,<- List.drop_eq_getElem_cons a,List.take_append_drop]
  have i:(M[r.path.length]).1=b:=by
   have z:=congrArg (fun l=>l[r.path.length]?) e;unfold nmL at z;simp only [bN,List.getElem?_take] at z;rw [if_pos (by omega),f,c8 (bL _),Nat.sub_self,bJ a] at z;simp at z;exact z.symm
  have g2:=g;rw [k] at g2;have d:M[r.path.length]=(b,(M[r.path.length]).2):=by rw [<- i]
  rw [d] at g2;have g3:=To.pre wf _ (bL _) g2;have j:=To.uniq hn h g3;rw [j,<- d,<- cB a]
  congr 1
  rw [cg];omega
theorem ŋ.getNo {H:Hp} {d:Addr} {n:Nat} {kd:Nat->Fin 3} {ps:Nat->List Int} {w:Nat} {P:List Pc} {x:Str} (h:ŋ a H d n kd ps w P) (hx:∀ q,q∈P->q.nm≠x):Ø H d (.str x) none:=by
 rw [<- yoi hx];exact Ø.k (k:=.inr x) h.dk
theorem yy1 (P:List Pc) (b:Str):(∃ r,r∈P/\r.nm=b)\/∀ q,q∈P->q.nm≠b:=by
 by_cases h:∃ r,r∈P/\r.nm=b
 .exact .inl h
 .exact .inr fun q a e=>h ⟨q,a,e⟩
theorem To.sz {H:Hp} {d:Addr} {n:Nat} {kd:Nat->Fin 3} {ps:Nat->List Int} {w:Nat} {P:List Pc} {x:Option Str} (h:ŋ a H d n kd ps w P) (t:To P x L):∀ y,y∈L->Sgs y.2/\y.2.length <= w:=by
 cases x with
 | none=>intro y c; rw [show L=[] from t] at c; cases c
 | some b =>
  obtain ⟨r,g,_,e⟩:=t;obtain ⟨i,f,_,j⟩:=h.sz r g;intro y c;rw [e] at c;rcases cr.mp c with z | z
  .exact j y z
  .rw [bZ.mp z];exact ⟨i,f⟩
theorem To.at' {P:List Pc} (wf:∀ q,q∈P->To P q.bs q.path) {x:Option Str} (t:To P x L) (hj:j < L.length):∃ r,r∈P/\L[j]=(r.nm,r.tx)/\r.path=L.take j/\To P (some r.nm) (L.take (j+1)):=by
 have h:L=L.take j++[(L[j].1,L[j].2)]++L.drop (j+1):=by
  rw [cJ,List.singleton_append,<- List.drop_eq_getElem_cons hj,List.take_append_drop]
 rw [h] at t;have c:=To.pre wf _ (bL _) t;obtain ⟨r,f,a,e⟩:=id c;obtain ⟨d,b⟩:=List.append_inj' e rfl
 cases r with | mk nm bs path tx ob od dl =>
 simp only at a d b;subst a;have g:L[j].2=tx:=by cases b; rfl
 refine ⟨_,f,?_,d.symm,?_⟩
 .show L[j]=(L[j].1,tx); rw [<- g]
 .rw [cB hj]; exact c
theorem To.nms {P:List Pc} (wf:∀ q,q∈P->To P q.bs q.path) {x:Option Str} (t:To P x L) {y:Str × List Int} (hy:y∈L):∃ r,r∈P/\r.nm=y.1:=by
 obtain ⟨j,b,e⟩:=List.mem_iff_getElem.mp hy;obtain ⟨r,c,a,_⟩:=t.at' wf b;exact ⟨r,c,by rw [<- e,a]⟩
theorem To.ok {H:Hp} {d:Addr} {n:Nat} {kd:Nat->Fin 3} {ps:Nat->List Int} {w:Nat} {P:List Pc} {x:Option Str} (h:ŋ a H d n kd ps w P) (t:To P x L):∀ y,y∈L.map (·.1)->PyData.strOk y=true:=fun y c=>by
 obtain ⟨u,b,rfl⟩:=bM.mp c;obtain ⟨r,f,e⟩:=t.nms h.wf b;rw [<- e];exact (h.nm r f).2
theorem Ë (L:List (Str × List Int)):nmL L=(L.map (·.1)).map V.str:=by
 unfold nmL;rw [cu];rfl
theorem å (L:List (Str × List Int)) (k:Nat):(nmL L).take k=nmL (L.take k):=by
 unfold nmL;rw [List.map_take]
theorem jz (L:List (Str × List Int)):(nmL L).length=L.length:=bH _
theorem ymh (h:L.map (·.1)=M.map (·.1)):nmL L=nmL M:=by rw [Ë,Ë,h]
theorem ydp {w:Nat}:∀ L:List (List Int),(∀ x,x∈L->x.length <= w)->(æ L).length <= L.length * (9 * w+1)
 | [],_=>cb _
 | t :: L,h=>by
  have e:æ (t :: L)=dec t++æ L:=rfl;have d:=h t cG;have c:=ydp L fun x a=>h x (cz _ a);have b:=x3 t;rw [e,bP,cy,Nat.succ_mul];omega
def txi (L:List (Str × List Int)) (i:Nat):List Int:=(L.map (·.2)).getD i []
def mOf (L:List (Str × List Int)):Nat:=6+6 * (æ (L.map (·.2))).length
def NK (H:Hp) (ks ks':List V):Prop:=∀ q,V.ref q∈ks'->V.ref q∈ks\/H q=none
theorem NK.refl {H:Hp} {ks:List V}:NK H ks ks:=fun _ h=>.inl h
theorem NK.nil {H:Hp} {ks:List V}:NK H ks []:=fun _ h=>nomatch h
theorem NK.trans {H H1:Hp} {k1 k2 k3:List V} (h:NK H k1 k2) (g:NK H1 k2 k3) (f:∀ q,H1 q=none->H q=none):NK H k1 k3:=fun q a=>(g q a).elim (h q) fun z=>.inr (f q z)
theorem NK.app {H:Hp} {ks ks':List V} {v:V} (h:NK H ks ks') (g:∀ q,v=.ref q->H q=none):NK H ks (ks'++[v]):=fun q a=>(cr.mp a).elim (h q) fun z=>.inr (g q (bZ.mp z).symm)
def StW (c cl ct:Addr) (U:Addr->Prop):Addr->Prop:=fun x=>x=c\/ChW cl ct U x
structure zl (K:W.Frag) (a:Ads) (H:Hp) (st ds ll d c dc p cl ct:Addr) (lk tp:Nat->Addr) (n:Nat) (kd:Nat->Fin 3) (ps:Nat->List Int) (mo w:Nat) (P:List Pc) (L:List (Str × List Int)) (ks:List V) (U:Addr->Prop):Prop where
 me:H st=some (.ins a.A0 ds (xf (.ref ll) (.int mo) (.ref d) (.ref c)))
 n1:1 <= n
 n6:n <= 6
 lo:H ll=some (.lst (refs lk n))
 row:ue H n lk kd tp ps
 pz:ŋ a H d n kd ps w P
 ch:À K a H c dc p cl ct n kd ps L ks (mOf L) U
 nw:∀ x,(x=st\/x=ll\/x=d\/∃ q,q∈P/\(x=q.ob\/x=q.dl))->¬ StW c cl ct U x
 mo1:mo <= 1000
 wm:w <= mo/\w <= 200
 way:∃ x,To P x L
theorem À.but {H H':Hp} {c ll:Addr} {n:Nat} {kd:Nat->Fin 3} {ps:Nat->List Int} {ks:List V} {M:Nat} {W:Addr->Prop} (h:À K a H c dc p ll tl n kd ps L ks M W) {C:Addr} {fs:List (Str × V)} (hq:H q=some (.ins C dq fs)) (nq:¬ StW c ll tl W q) (B:But q H H'):À K a H' c dc p ll tl n kd ps L ks M W:=by
 have b:∀ {x:Addr} {d:List V},H x=some (.lst d)->x≠q:=fun {x d} e z=>by rw [z,hq] at e; cases e
 exact ⟨B _ _ h.me fun z=>nq (.inl z.symm),h.fz.frame (W2:=fun x=>x=q) (fun x z=>⟨.ins C dq fs,by rw [show x=q from z]; exact hq,.inl rfl⟩) (fun x w z=>nq (.inr (.inr (.inr (by rw [<- show x=q from z]; exact w))))) (fun x o e g=>B x o e g),B _ _ h.hl (b h.hl),B _ _ h.ht (b h.ht),h.tx.mono fun x d e f=>⟨B _ _ e (b e),f⟩,h.nc,h.nll,h.ntl,h.ne⟩
theorem yd6 (L:List (Str × List Int)) (x:Str) (t:List Int):mOf (L++[(x,t)])=mOf L+6 * (dec t).length:=by
 unfold mOf;rw [cj,show List.map (fun x:Str × List Int=>x.2) [(x,t)]=[t] from rfl,ă,bP];omega
theorem ymb {w:Nat} (h:∀ y,y∈L->y.2.length <= w) (hw:w <= 200) (hl:L.length <= 61):mOf L <= 660000:=by
 have c:=ydp (w:=w) (L.map (·.2)) fun x a=>by
  obtain ⟨y,b,rfl⟩:=bM.mp a;exact h y b
 rw [bH] at c;have d:L.length * (9 * w+1) <= 61 * 1801:=Nat.mul_le_mul hl (by omega);unfold mOf;omega
def StO (st c cl ct:Addr) (U:Addr->Prop):Addr->Prop:=fun y=>y=st\/StW c cl ct U y
theorem Go.or {W Y:Addr->Prop} {H H':Hp} (g:Go W H H' W'):Go (fun x=>Y x\/W x) H H' (fun x=>Y x\/W' x) :=
 ⟨fun c o e a=>g.fr c o e fun w=>a (.inr w),fun c w=>w.elim (fun y=>.inl (.inl y)) fun w=>(g.nw c w).imp .inr id,g.lv⟩
theorem À.noTup {H:Hp} {c ll:Addr} {n:Nat} {kd:Nat->Fin 3} {ps:Nat->List Int} {ks:List V} {M:Nat} {W:Addr->Prop} (h:À K a H c dc p ll tl n kd ps L ks M W) {x:Addr} {xs:List V} (e:H x=some (.tup xs)):¬ StW c ll tl W x:=fun w=>by
 rcases w with z | z | z | z
 .rw [z,h.me] at e; cases e
 .rw [z,h.hl] at e; cases e
 .rw [z,h.ht] at e; cases e
 .exact h.fz.sh.tup e z
theorem À.same {H H':Hp} {c ll:Addr} {n:Nat} {kd:Nat->Fin 3} {ps:Nat->List Int} {ks:List V} {M:Nat} {W:Addr->Prop} (h:À K a H c dc p ll tl n kd ps L ks M W) (S:yx H H'):À K a H' c dc p ll tl n kd ps L ks M W :=
 ⟨S _ _ h.me,h.fz.same S,S _ _ h.hl,S _ _ h.ht,h.tx.mono fun _ _ e b=>⟨S _ _ e,b⟩,h.nc,h.nll,h.ntl,h.ne⟩
theorem ŋ.fr {H H':Hp} {d:Addr} {n:Nat} {kd:Nat->Fin 3} {ps:Nat->List Int} {w:Nat} {P:List Pc} (h:ŋ a H d n kd ps w P) (f:∀ x o,H x=some o->(x=d\/∃ q,q∈P/\(x=q.ob\/x=q.dl))->H' x=some o):ŋ a H' d n kd ps w P :=
 ⟨f _ _ h.dk (.inl rfl),fun q b=>⟨f _ _ (h.ob q b).1 (.inr ⟨q,b,.inl rfl⟩),f _ _ (h.ob q b).2 (.inr ⟨q,b,.inr rfl⟩)⟩,h.nd,h.wf,h.sz,h.z,h.nm⟩
theorem ue.fr {H H':Hp} {n:Nat} {lk:Nat->Addr} {kd:Nat->Fin 3} {ps:Nat->List Int} (h:ue H n lk kd tp ps) (f:∀ x xs,H x=some (.tup xs)->H' x=some (.tup xs)):ue H' n lk kd tp ps:=fun i a=>by
 obtain ⟨q,e,c,b,d⟩:=h i a;exact ⟨q,e,f _ _ c,f _ _ b,d⟩
section
variable {H H':Hp} {st ll d c cl ct:Addr} {lk:Nat->Addr} {n:Nat} {kd:Nat->Fin 3} {ps:Nat->List Int} {mo w:Nat} {P:List Pc} {ks:List V}
theorem zl.same (h:zl K a H st ds ll d c dc p cl ct lk tp n kd ps mo w P L ks U) (S:yx H H'):zl K a H' st ds ll d c dc p cl ct lk tp n kd ps mo w P L ks U :=
 ⟨S _ _ h.me,h.n1,h.n6,S _ _ h.lo,h.row.same S,h.pz.same S,h.ch.same S,h.nw,h.mo1,h.wm,h.way⟩
theorem zl.lv (h:zl K a H st ds ll d c dc p cl ct lk tp n kd ps mo w P L ks U):∀ x,(x=st\/x=ll\/x=d\/∃ q,q∈P/\(x=q.ob\/x=q.dl))->∃ o,H x=some o:=fun x e=>by
 rcases e with z | z | z | ⟨q,b,z | z⟩
 .exact ⟨_,by rw [z]; exact h.me⟩
 .exact ⟨_,by rw [z]; exact h.lo⟩
 .exact ⟨_,by rw [z]; exact h.pz.dk⟩
 .exact ⟨_,by rw [z]; exact (h.pz.ob q b).1⟩
 .exact ⟨_,by rw [z]; exact (h.pz.ob q b).2⟩
theorem zl.lvO (h:zl K a H st ds ll d c dc p cl ct lk tp n kd ps mo w P L ks U):∀ x,StO st c cl ct U x->∃ o,H x=some o:=fun x b=>by
 rcases b with z | z | z | z | z
 .exact ⟨_,by rw [z]; exact h.me⟩
 .exact ⟨_,by rw [z]; exact h.ch.me⟩
 .exact ⟨_,by rw [z]; exact h.ch.hl⟩
 .exact ⟨_,by rw [z]; exact h.ch.ht⟩
 .exact h.ch.fz.live x z
theorem zl.go (h:zl K a H st ds ll d c dc p cl ct lk tp n kd ps mo w P L ks U) {ks':List V} (hc:À K a H' c dc p cl ct n kd ps M ks' (mOf M) U') (g:Go (ChW cl ct U) H H' (ChW cl ct U')) (way:∃ x,To P x M):zl K a H' st ds ll d c dc p cl ct lk tp n kd ps mo w P M ks' U'/\Go (StO st c cl ct U) H H' (StO st c cl ct U'):=by
 have g1:Go (StW c cl ct U) H H' (StW c cl ct U'):=g.or (Y:=fun x=>x=c);have f:∀ x o,H x=some o->(x=st\/x=ll\/x=d\/∃ q,q∈P/\(x=q.ob\/x=q.dl))->H' x=some o:=fun x o e b=>g1.fr x o e (h.nw x b);exact ⟨⟨f _ _ h.me (.inl rfl),h.n1,h.n6,f _ _ h.lo (.inr (.inl rfl)),h.row.fr fun x i e=>g1.fr _ _ e (h.ch.noTup e),h.pz.fr fun x o e z=>f x o e (.inr (.inr z)),hc,g1.apart (fun x b=>h.lv x b) h.nw,h.mo1,h.wm,way⟩,g1.or (Y:=fun x=>x=st)⟩
structure StB (a:Ads) (H:Hp) (st ds ll d:Addr) (vc:V) (lk tp:Nat->Addr) (n:Nat) (kd:Nat->Fin 3) (ps:Nat->List Int) (mo w:Nat) (P:List Pc):Prop where
 me:H st=some (.ins a.A0 ds (xf (.ref ll) (.int mo) (.ref d) vc))
 n1:1 <= n
 n6:n <= 6
 lo:H ll=some (.lst (refs lk n))
 row:ue H n lk kd tp ps
 pz:ŋ a H d n kd ps w P
 mo1:mo <= 1000
 wm:w <= mo/\w <= 200
theorem zl.b (h:zl K a H st ds ll d c dc p cl ct lk tp n kd ps mo w P L ks U):StB a H st ds ll d (.ref c) lk tp n kd ps mo w P:=⟨h.me,h.n1,h.n6,h.lo,h.row,h.pz,h.mo1,h.wm⟩
theorem StB.lv {vc:V} (h:StB a H st ds ll d vc lk tp n kd ps mo w P):∀ x,(x=st\/x=ll\/x=d\/∃ q,q∈P/\(x=q.ob\/x=q.dl))->∃ o,H x=some o:=fun x c=>by
 rcases c with z | z | z | ⟨q,b,z | z⟩
 .exact ⟨_,by rw [z]; exact h.me⟩
 .exact ⟨_,by rw [z]; exact h.lo⟩
 .exact ⟨_,by rw [z]; exact h.pz.dk⟩
 .exact ⟨_,by rw [z]; exact (h.pz.ob q b).1⟩
 .exact ⟨_,by rw [z]; exact (h.pz.ob q b).2⟩
theorem Go.wide {W:Addr->Prop} (g:Go W H H' W') (f:∀ x,W x->W2 x):Go W2 H H' W':=⟨fun c o e a=>g.fr c o e fun w=>a (f c w),fun c w=>(g.nw c w).imp (f c) id,g.lv⟩
theorem StB.re {vc:V} (h:StB a H st ds ll d vc lk tp n kd ps mo w P) {dc' p':Addr} {HE:Hp} (nc:H c'=none) (ndc:H dc'=none) (hch:À K a HE c' dc' p' cl' ct' n kd ps [] [] 6 U') (hnew:∀ x,ChW cl' ct' U' x->(upd (upd H dc' (.own c')) c' (.ins a.A1 dc' [])) x=none) (BE:But c' (upd (upd H dc' (.own c')) c' (.ins a.A1 dc' [])) HE) :
  zl K a (upd HE st (.ins a.A0 ds (xf (.ref ll) (.int mo) (.ref d) (.ref c')))) st ds ll d c' dc' p' cl' ct' lk tp n kd ps mo w P [] [] U'/\Go (fun y=>y=st) H (upd HE st (.ins a.A0 ds (xf (.ref ll) (.int mo) (.ref d) (.ref c')))) (StO st c' cl' ct' U')/\yx H HE/\∀ x,StW c' cl' ct' U' x->H x=none:=by
 have l:yx H (upd (upd H dc' (.own c')) c' (.ins a.A1 dc' [])):=fun b o e=>by rw [ym (yd e nc),ym (yd e ndc)]; exact e
 have f:yx H HE:=fun b o e=>BE _ _ (l _ _ e) (yd e nc)
 have j:∀ x,StW c' cl' ct' U' x->H x=none:=fun x w=>by
  rcases w with z | z
  .rw [z]; exact nc
  .exact l.free (hnew x z)
 have g:∀ {x:Addr} {o:HO},H x=some o->¬ StW c' cl' ct' U' x:=fun {x o} e w=>by rw [j x w] at e; cases e
 have c:=h.me;have m:∀ {x:Addr} {k:List V},H x=some (.lst k)->x≠st:=fun {x k} e z=>by rw [z,c] at e; cases e
 refine ⟨⟨yc,h.n1,h.n6,yj (m h.lo) (f _ _ h.lo),h.row.fr fun x k e=>yj (fun z=>by rw [z,c] at e; cases e) (f _ _ e),⟨yj (fun z=>?_) (f _ _ h.pz.dk),fun q i=>⟨yj (fun z=>?_) (f _ _ (h.pz.ob q i).1),yj (m (h.pz.ob q i).2) (f _ _ (h.pz.ob q i).2)⟩,h.pz.nd,h.pz.wf,h.pz.sz,h.pz.z,h.pz.nm⟩,hch.but (f _ _ c) (g c) But.upd,fun x r=>?_,h.mo1,h.wm,⟨none,rfl⟩⟩,⟨fun x o e s=>yj s (f _ _ e),fun x w=>?_,fun x o e=>?_⟩,f,j⟩
 .have e:=h.pz.dk; rw [z,c] at e; cases e
 .have e:=(h.pz.ob q i).1;rw [z,c] at e;injection e with e;injection e with _ _ e;have p:=congrArg List.length e;exact absurd (show (4:Nat)=2 from p) (by decide)
 .obtain ⟨o,e⟩:=h.lv x r;exact g e
 .rcases w with z | z
  .exact .inl z
  .exact .inr (j x z)
 .by_cases z:x=st
  .exact ⟨_,by rw [z]; exact yc⟩
  .exact ⟨o,yj z (f _ _ e)⟩
theorem zl.re (h:zl K a H st ds ll d c dc p cl ct lk tp n kd ps mo w P L ks U) {dc' p':Addr} {HE:Hp} (nc:H c'=none) (ndc:H dc'=none) (hch:À K a HE c' dc' p' cl' ct' n kd ps [] [] 6 U') (hnew:∀ x,ChW cl' ct' U' x->(upd (upd H dc' (.own c')) c' (.ins a.A1 dc' [])) x=none) (BE:But c' (upd (upd H dc' (.own c')) c' (.ins a.A1 dc' [])) HE) :
  zl K a (upd HE st (.ins a.A0 ds (xf (.ref ll) (.int mo) (.ref d) (.ref c')))) st ds ll d c' dc' p' cl' ct' lk tp n kd ps mo w P [] [] U'/\Go (StO st c cl ct U) H (upd HE st (.ins a.A0 ds (xf (.ref ll) (.int mo) (.ref d) (.ref c')))) (StO st c' cl' ct' U')/\yx H HE/\∀ x,StW c' cl' ct' U' x->H x=none:=by
 obtain ⟨f,e,g⟩:=h.b.re nc ndc hch hnew BE;exact ⟨f,e.wide fun _ z=>.inl z,g⟩
theorem To.less {b:Str} {x:Option Str} (h:To P x M) (hx:x≠some b):To (P.filter fun q=>decide (q.nm≠b)) x M:=by
 cases x with
 | none=>exact h
 | some y =>
  obtain ⟨r,d,a,c⟩:=h;refine ⟨r,cX.mpr ⟨d,bR fun z=>hx ?_⟩,a,c⟩;rw [<- a,z]
theorem yka (b:Str):∀ P:List Pc,χ (pcs P) (.inr b)=pcs (P.filter fun q=>decide (q.nm≠b)):=fun P=>by
 unfold χ pcs;rw [List.filter_map]
 congr 1
 refine List.filter_congr fun q _=>?_;by_cases e:q.nm=b
 .simp [e]
 .simp [e]
theorem StB.drop {vc:V} (h:StB a H st ds ll d vc lk tp n kd ps mo w P) {b:Str} (hb:∀ q,q∈P->q.bs≠some b):StB a (upd H d (.dK (χ (pcs P) (.inr b)))) st ds ll d vc lk tp n kd ps mo w (P.filter fun q=>decide (q.nm≠b)):=by
 have i:=h.pz.dk;have f:∀ {x:Addr} {o:HO},H x=some o->o≠.dK (pcs P)->(upd H d (.dK (χ (pcs P) (.inr b)))) x=some o:=fun {x o} e j=>yj (fun z=>by rw [z,i] at e; cases e; exact j rfl) e;have g:∀ {q:Pc},q∈(P.filter fun q=>decide (q.nm≠b))->q∈P:=fun c=>(cX.mp c).1
 refine ⟨f h.me (fun z=>nomatch z),h.n1,h.n6,f h.lo (fun z=>nomatch z),h.row.fr fun x k e=>f e (fun z=>nomatch z),⟨by rw [<- yka]; exact yc,fun q c=>⟨f (h.pz.ob q (g c)).1 (fun z=>nomatch z),f (h.pz.ob q (g c)).2 (fun z=>nomatch z)⟩,h.pz.nd.sublist (List.filter_sublist.map _),fun q c=>(h.pz.wf q (g c)).less (hb q (g c)),fun q c=>h.pz.sz q (g c),cn (List.length_filter_le _ _) h.pz.z,fun q c=>h.pz.nm q (g c)⟩,h.mo1,h.wm⟩
end
theorem ifI {tc:TT} {ts te:TS} {D:Á} {σ:St} {H:Hp} (C:Prop) (h:∀ Qb:Bool->Hp->Prop,(C->Qb true H)->Qb false H->tc σ H Qb) (hT:C->ts D σ H) (hF:te D σ H):yz5 tc ts te D σ H :=
 h _ (fun c=>by show (if true=true then _ else _); rw [if_pos rfl]; exact hT c) (by show (if false=true then _ else _); rw [if_neg (by decide)]; exact hF)
theorem vdo {tc:TT} {ts te:TS} {D:Á} {σ:St} {H:Hp} (C C':Prop) (h:∀ Qb:Bool->Hp->Prop,(C->Qb true H)->(C'->Qb false H)->tc σ H Qb) (hT:C->ts D σ H) (hF:C'->te D σ H):yz5 tc ts te D σ H :=
 h _ (fun c=>by show (if true=true then _ else _); rw [if_pos rfl]; exact hT c) (fun c=>by show (if false=true then _ else _); rw [if_neg (by decide)]; exact hF c)
structure Pd where
 nm:Str
 bs:Option Str
 path:List (Str × List Int)
 tx:List Int
def Pc.pd (q:Pc):Pd:=⟨q.nm,q.bs,q.path,q.tx⟩
structure Cf where
 n:Nat
 kd:Nat->Fin 3
 ps:Nat->List Int
 mo:Nat
 w:Nat
def Pd.by (C:Cf) (q:Pd):List Int:=Ö C.n C.kd C.ps (æ (q.path.map (·.2))) q.tx
def ToD (P:List Pd):Option Str->List (Str × List Int)->Prop
 | none,L=>L=[]
 | some b,L=>∃ r,r∈P/\r.nm=b/\L=r.path++[(b,r.tx)]
theorem ŵ {Q:List Pc} {x:Option Str} :ToD (Q.map Pc.pd) x L ↔ To Q x L:=by
 cases x with
 | none=>exact Iff.rfl
 | some b =>
  refine ⟨fun ⟨r,a,e⟩=>?_,fun ⟨r,a,e⟩=>⟨_,bM.mpr ⟨r,a,rfl⟩,e⟩⟩;obtain ⟨q,c,rfl⟩:=bM.mp a;exact ⟨q,c,e⟩
def okN (x:Str):Prop:=nmS x=true/\PyData.strOk x=true
def WD (d st c cl ct:Addr) (U:Addr->Prop):Addr->Prop:=fun y=>y=d\/StO st c cl ct U y
structure Sx where
 w:Addr->Prop
 f:Addr->Prop
def ytm (d st c cl ct:Addr) (U:Addr->Prop) (ll:Addr) (Q:List Pc) (ks:List V):Sx :=
 ⟨WD d st c cl ct U,fun y=>WD d st c cl ct U y\/y=ll\/(∃ q,q∈Q/\(y=q.ob\/y=q.dl))\/V.ref y∈ks⟩
inductive Sto (K:W.Frag) (a:Ads) (H:Hp) (st:Addr) (C:Cf) (P:List Pd) (X:Sx):Prop
 | mk (ds ll d c dc p cl ct:Addr) (lk tp:Nat->Addr) (Q:List Pc) (L:List (Str × List Int)) (ks:List V) (U:Addr->Prop) (s:zl K a H st ds ll d c dc p cl ct lk tp C.n C.kd C.ps C.mo C.w Q L ks U) (e:Q.map Pc.pd=P) (x:X=ytm d st c cl ct U ll Q ks)
structure Gx (X:Sx) (H H':Hp) (Y:Sx):Prop where
 g:Go X.w H H' Y.w
 f:∀ y,Y.f y->X.f y\/H y=none
theorem Gx.same {X Y:Sx} {H H1 H2:Hp} (h:Gx X H H1 Y) (S:yx H1 H2):Gx X H H2 Y:=⟨h.g.same S,h.f⟩
def Kf (H:Hp) (X:Sx) (x:Addr) (o:HO):Prop:=H x=some o/\¬ X.f x
section
variable {B H H':Hp} {st:Addr} {C:Cf} {P:List Pd} {X Y:Sx}
theorem Sto.same (h:Sto K a H st C P X) (S:yx H H'):Sto K a H' st C P X:=by
 obtain ⟨b,f,d,c,i,p,j,m,g,k,Q,L,l,U,s,e,x⟩:=h;exact ⟨b,f,d,c,i,p,j,m,g,k,Q,L,l,U,s.same S,e,x⟩
theorem Sto.live (h:Sto K a H st C P X):∀ y,X.f y->∃ o,H y=some o:=fun y g=>by
 obtain ⟨j,i,d,c,l,p,m,u,k,r,Q,L,t,U,s,rfl,rfl⟩:=h;rcases g with (z | z) | z | ⟨q,b,z⟩ | z
 .exact ⟨_,by rw [z]; exact s.pz.dk⟩
 .exact s.lvO y z
 .exact ⟨_,by rw [z]; exact s.lo⟩
 .exact s.lv y (.inr (.inr (.inr ⟨q,b,z⟩)))
 .rcases s.ch.tx.mem _ z with e | ⟨q,n,e,b,_⟩
  .cases e
  .cases e; exact ⟨_,b⟩
theorem Sto.wf (h:Sto K a H st C P X):∀ y,X.w y->X.f y:=fun y b=>by
 obtain ⟨g,e,d,c,j,p,k,n,i,l,Q,L,m,U,s,rfl,rfl⟩:=h;exact .inl b
theorem Sto.ins (h:Sto K a H st C P X):∃ ds vl vm vp vc,H st=some (.ins a.A0 ds (xf vl vm vp vc)):=by
 obtain ⟨ds,b,d,c,f,p,g,k,e,i,Q,L,j,U,s,rfl,rfl⟩:=h;exact ⟨_,_,_,_,_,s.me⟩
theorem var (Q:List Pc):(Q.map Pc.pd).map (·.nm)=Q.map (·.nm):=by rw [cu]; rfl
theorem Sto.nd (h:Sto K a H st C P X):(P.map (·.nm)).Nodup:=by
 obtain ⟨b,e,d,c,g,p,i,l,f,j,Q,L,k,U,s,rfl,rfl⟩:=h;rw [var];exact s.pz.nd
theorem Sto.nm (h:Sto K a H st C P X):∀ q,q∈P->okN q.nm:=fun q b=>by
 obtain ⟨f,g,d,c,j,p,k,n,i,l,Q,L,m,U,s,rfl,rfl⟩:=h;obtain ⟨r,e,rfl⟩:=bM.mp b;exact s.pz.nm r e
theorem Sto.to (h:Sto K a H st C P X):∀ q,q∈P->ToD P q.bs q.path:=fun q b=>by
 obtain ⟨f,g,d,c,j,p,k,n,i,l,Q,L,m,U,s,rfl,rfl⟩:=h;obtain ⟨r,e,rfl⟩:=bM.mp b;exact ŵ.mpr (s.pz.wf r e)
theorem Sto.sz (h:Sto K a H st C P X):∀ q,q∈P->Sgs q.tx/\q.tx.length <= C.w/\q.path.length <= 60/\(∀ x,x∈q.path->Sgs x.2/\x.2.length <= C.w):=fun q b=>by
 obtain ⟨f,g,d,c,j,p,k,n,i,l,Q,L,m,U,s,rfl,rfl⟩:=h;obtain ⟨r,e,rfl⟩:=bM.mp b;exact s.pz.sz r e
theorem Sto.cf (h:Sto K a H st C P X):1 <= C.n/\C.n <= 6/\C.mo <= 1000/\C.w <= C.mo/\C.w <= 200:=by
 obtain ⟨b,e,d,c,g,p,i,l,f,j,Q,L,k,U,s,rfl,rfl⟩:=h;exact ⟨s.n1,s.n6,s.mo1,s.wm.1,s.wm.2⟩
theorem Sto.frame (h:Sto K a H st C P X) (sh:WSh H W2) (dj:∀ y,X.f y->¬ W2 y) (fr:∀ y o,H y=some o->¬ W2 y->H' y=some o):Sto K a H' st C P X:=by
 obtain ⟨t,m,d,c,B,p,g,i,A,D,Q,L,l,U,s,rfl,rfl⟩:=h;have f:∀ {y:Addr} {o:HO},H y=some o->(ytm d st c g i U m Q l).f y->H' y=some o:=fun {y o} e w=>fr y o e (dj y w);refine ⟨t,m,d,c,B,p,g,i,A,D,Q,L,l,U,⟨f s.me (.inl (.inr (.inl rfl))),s.n1,s.n6,f s.lo (.inr (.inl rfl)),s.row.fr fun y G e=>fr _ _ e (sh.tup e),s.pz.fr fun y o e z=>f e (z.elim (fun z=>.inl (.inl z)) fun z=>.inr (.inr (.inl z))),⟨f s.ch.me (.inl (.inr (.inr (.inl rfl)))),s.ch.fz.frame sh (fun y w=>dj y (.inl (.inr (.inr (.inr (.inr (.inr w))))))) fr,f s.ch.hl (.inl (.inr (.inr (.inr (.inl rfl))))),f s.ch.ht (.inl (.inr (.inr (.inr (.inr (.inl rfl)))))),?_,s.ch.nc,s.ch.nll,s.ch.ntl,s.ch.ne⟩,s.nw,s.mo1,s.wm,s.way⟩,rfl,rfl⟩
 have j:∀ {L:List (Str × List Int)} {b:List V},(∀ v,v∈b->v∈l)->ybq H (ChW g i U) L b->ybq H' (ChW g i U) L b:=by
  intro L
  induction L with
  | nil=>intro b _ h; exact h
  | cons y r ih =>
   rintro b n ⟨k,F,rfl,z,h⟩;refine ⟨k,F,rfl,z.imp id fun ⟨q,e,x,u⟩=>⟨q,e,f x (.inr (.inr (.inr ?_))),u⟩,ih (fun v E=>n v (cz _ E)) h⟩;rw [<- e];exact n _ cG
 exact j (fun _ h=>h) s.ch.tx
theorem Sto.but (h:Sto K a H st C P X) (sh:WSh H fun z=>z=y) (ny:¬ X.f y) (b:But y H H'):Sto K a H' st C P X :=
 h.frame sh (fun z w e=>ny (by rw [<- e]; exact w)) fun z o e c=>b z o e c
theorem WSh.mu {o:HO} (e:H y=some o) (ho:ytr o=true):WSh H fun z=>z=y:=fun z w=>⟨o,by rw [w]; exact e,.inl ho⟩
theorem Kf.go {x:Addr} {o:HO} (h:Kf H X x o) (s:Sto K a H st C P X) (g:Gx X H H' Y):Kf H' Y x o :=
 ⟨g.g.fr _ _ h.1 fun w=>h.2 (s.wf _ w),fun w=>(g.f x w).elim h.2 fun e=>by rw [h.1] at e; cases e⟩
theorem Kf.same {x:Addr} {o:HO} (h:Kf H X x o) (S:yx H H'):Kf H' X x o:=⟨S _ _ h.1,h.2⟩
theorem Kf.new {x:Addr} {o:HO} (s:Sto K a H st C P X) (hx:H x=none) (e:H' x=some o):Kf H' X x o:=⟨e,fun w=>by
 obtain ⟨c,b⟩:=s.live x w;rw [hx] at b;cases b⟩
theorem Kf.but {x:Addr} {o:HO} (h:Kf H X x o) (ne:x≠y) (b:But y H H'):Kf H' X x o:=⟨b _ _ h.1 ne,h.2⟩
theorem Gx.bs (s:Sto K a H st C P X) (g:Gx X H H' Y) (S:yx B H) (nb:∀ y,X.f y->B y=none):yx B H'/\∀ y,Y.f y->B y=none :=
 ⟨fun y o e=>g.g.fr _ _ (S _ _ e) (fun w=>by rw [nb y (s.wf y w)] at e; cases e),fun y w=>(g.f y w).elim (nb y) S.free⟩
theorem Gx.of {d c cl ct ll:Addr} {Q Q':List Pc} {ks ks':List V} (g:Go (WD d st c cl ct U) H H' (WD d st c' cl' ct' U')) (nk:NK H ks ks') (hq:∀ q,q∈Q'->q∈Q\/(H q.ob=none/\H q.dl=none)):Gx (ytm d st c cl ct U ll Q ks) H H' (ytm d st c' cl' ct' U' ll Q' ks'):=by
 refine ⟨g,fun y w=>?_⟩;rcases w with z | z | ⟨q,h,z⟩ | z
 .exact (g.nw y z).imp .inl id
 .exact .inl (.inr (.inl z))
 .rcases hq q h with a | ⟨e,b⟩
  .exact .inl (.inr (.inr (.inl ⟨q,a,z⟩)))
  .rcases z with z | z
   .rw [z]; exact .inr e
   .rw [z]; exact .inr b
 .exact (nk y z).imp (fun z=>.inr (.inr (.inr z))) id
end
theorem Ŋ:∀ {P:List Pd} {q r:Pd},(P.map (·.nm)).Nodup->q∈P->r∈P->q.nm=r.nm->q=r
 | x :: P,q,r,hn,hq,hr,e=>by
  have a:=da.mp hn;rcases bW.mp hq with z | z <;> rcases bW.mp hr with y | y
  .rw [z,y]
  .exact absurd (bM.mpr ⟨r,y,by rw [<- e,z]⟩) a.1
  .exact absurd (bM.mpr ⟨q,z,by rw [e,y]⟩) a.1
  .exact Ŋ a.2 z y e
theorem ToD.uniq {P:List Pd} {x:Option Str} (hn:(P.map (·.nm)).Nodup) (h:ToD P x L) (g:ToD P x M):L=M:=by
 cases x with
 | none=>rw [show L=[] from h,show M=[] from g]
 | some b =>
  obtain ⟨r,e,a,d⟩:=h;obtain ⟨q,c,i,f⟩:=g;obtain rfl:=Ŋ hn e c (a.trans i.symm);rw [d,f]
theorem ċ {α:Type} [DecidableEq α]:∀ {l m:List α},l.Nodup->(∀ x,x∈l->x∈m)->l.length <= m.length
 | [],_,_,_=>cb _
 | x :: l,m,hn,h=>by
  have a:=da.mp hn;have c:=h x cG;have d:l.length <= (m.erase x).length:=ċ a.2 fun y b=>(List.mem_erase_of_ne (fun e=>a.1 (by rw [<- e]; exact b))).mpr (h y (cz _ b));rw [List.length_erase_of_mem c] at d;have:=List.length_pos_of_mem c;rw [cy];omega
def Pd.pc (q:Pd):Pc:=⟨q.nm,q.bs,q.path,q.tx,0,0,0⟩
theorem yzq (P:List Pd):(P.map Pd.pc).map Pc.pd=P:=by
 rw [cu];exact List.map_id _
structure PdW (P:List Pd):Prop where
 nd:(P.map (·.nm)).Nodup
 wf:∀ q,q∈P->ToD P q.bs q.path
theorem ToD.pc {P:List Pd} {x:Option Str} (h:ToD P x L):To (P.map Pd.pc) x L:=ŵ.mp (by rw [yzq]; exact h)
theorem ToD.at {P:List Pd} (w:PdW P) {x:Option Str} (t:ToD P x L) (hj:j < L.length):∃ r,r∈P/\L[j]=(r.nm,r.tx)/\r.path=L.take j/\ToD P (some r.nm) (L.take (j+1)):=by
 obtain ⟨r,d,f,b,e⟩:=To.at' (fun q c=>by
  obtain ⟨u,a,rfl⟩:=bM.mp c;exact (w.wf u a).pc) t.pc hj
 obtain ⟨u,a,rfl⟩:=bM.mp d;refine ⟨u,a,f,b,?_⟩;have:=ŵ.mpr e;rw [yzq] at this;exact this
theorem ToD.len {P:List Pd} (w:PdW P) {x:Option Str} (t:ToD P x L):L.length <= P.length:=by
 have h:=ċ (l:=L.map (·.1)) (m:=P.map (·.nm)) ?_ ?_
 .rw [bH,bH] at h;exact h
 .refine List.pairwise_iff_getElem.mpr fun i j f a p e=>?_;rw [bH] at f a;rw [dg,dg] at e;obtain ⟨r,b,c,d,_⟩:=t.at w f;obtain ⟨u,n,g1,g2,_⟩:=t.at w a;rw [c,g1] at e;have:=Ŋ w.nd b n e;rw [this,g2] at d;have k:=congrArg List.length d;rw [cg,cg] at k;omega
 .intro y g;obtain ⟨z,o,rfl⟩:=bM.mp g;obtain ⟨j,a,rfl⟩:=List.mem_iff_getElem.mp o;obtain ⟨r,b,c,_⟩:=t.at w a;rw [c];exact bM.mpr ⟨r,b,rfl⟩
theorem Sto.pw {H:Hp} {st:Addr} {C:Cf} {P:List Pd} {X:Sx} (h:Sto K a H st C P X):PdW P:=⟨h.nd,h.to⟩
structure Bs (B H:Hp) (X:Sx):Prop where
 s:yx B H
 n:∀ y,X.f y->B y=none
theorem Bs.same {B H H':Hp} {X:Sx} (h:Bs B H X) (S:yx H H'):Bs B H' X:=⟨h.s.trans S,h.n⟩
theorem Bs.go {B H H':Hp} {st:Addr} {C:Cf} {P:List Pd} {X Y:Sx} (h:Bs B H X) (s:Sto K a H st C P X) (g:Gx X H H' Y):Bs B H' Y:=⟨(g.bs s h.s h.n).1,(g.bs s h.s h.n).2⟩
theorem Bs.but {B H H':Hp} {X:Sx} (h:Bs B H X) (ny:B y=none) (b:But y H H'):Bs B H' X:=⟨fun x o e=>b _ _ (h.s _ _ e) (yd e ny),h.n⟩
theorem yya {ns:List Str} (h:ns.Nodup) {hi:i < ns.length} {hj:j < ns.length} (e:ns[i]=ns[j]):i=j:=by
 have a:=List.pairwise_iff_getElem.mp h;rcases Nat.lt_trichotomy i j with z | z | z
 .exact absurd e (a i j hi hj z)
 .exact z
 .exact absurd e.symm (a j i hj hi z)
theorem yu8 {P:List Pd} {ns:List Str} {b:Str} (h:P.map (·.nm)=ns.take i) (hj:j < i) (hb:ns[j]?=some b):∃ r,r∈P/\r.nm=b:=by
 have e:b∈P.map (·.nm):=by
  rw [h];exact cc (i:=j) (by rw [List.getElem?_take,if_pos hj]; exact hb)
 obtain ⟨r,a,e⟩:=bM.mp e;exact ⟨r,a,e⟩
theorem yp5 {P:List Pd} {ns:List Str} (hnd:ns.Nodup) (h:P.map (·.nm)=ns.take i) (hi:i < ns.length):P.length=i/\∀ q,q∈P->q.nm≠ns[i]:=by
 refine ⟨?_,fun q d e=>?_⟩
 .have e:=congrArg List.length h;rw [bH,cg] at e;omega
 .have c:q.nm∈ns.take i:=by rw [<- h]; exact bM.mpr ⟨q,d,rfl⟩
  obtain ⟨j,b,a⟩:=List.mem_iff_getElem.mp c;rw [List.getElem_take] at a;rw [cg] at b;have:=yya hnd (a.trans e);omega
theorem yyq {c k:Int} (k2:k=0\/k=1):∃ ts:List Int,(List.replicate k.toNat [V.int (c % 256)]).flatten=ts.map V.int/\Sgs ts/\ts.length <= 1:=by
 rcases k2 with rfl | rfl
 .exact ⟨[],rfl,(fun x a=>by cases a),cb _⟩
 .exact ⟨[c % 256],rfl,(fun x a=>by rw [bZ.mp a]; omega),bL _⟩
theorem Sd.str {H:Hp} {x:Str} (h:PyData.strOk x=true) {k:Nat}:Sd K H (.str x) (.str x) k:=⟨.str x,by simp [PyData.canLay0,h],by simp [PyData.depth],by simp [PyData.eqv]⟩
theorem Sd.non {H:Hp} {k:Nat}:Sd K H .non .none k:=⟨.non,by simp [PyData.canLay0],by simp [PyData.depth],by simp [PyData.eqv]⟩
def mdK (tu:Str->Addr) (P:List Pd):List (Key × V):=P.map fun q=>(.inr q.nm,.ref (tu q.nm))
theorem yi3 (tu:Str->Addr):∀ {P:List Pd} {q:Pd},q∈P->zb (mdK tu P) (.inr q.nm)=some (.ref (tu q.nm))
 | r :: P,q,hq=>by
  unfold zb mdK;rw [cA];by_cases e:r.nm=q.nm
  .rw [List.find?_cons_of_pos (by simp [e]),<- e];rfl
  .rw [List.find?_cons_of_neg (by simpa using e)];rcases bW.mp hq with z | z
   .exact absurd (by rw [z]) e
   .exact yi3 tu z
theorem ylz (tu:Str->Addr) {P:List Pd} {b:Str} (h:∀ q,q∈P->q.nm≠b):zb (mdK tu P) (.inr b)=none:=by
 unfold zb mdK;rw [List.find?_eq_none.mpr fun y a=>?_]
 .rfl
 .obtain ⟨q,c,e⟩:=bM.mp a;rw [<- e];simpa using h q c
def DkF (H:Hp) (md:Addr) (kvs:List (Key × V)):Prop:=H md=some (.dK kvs)\/∃ o,H md=some (.frz o (.dK kvs))
theorem DkF.get {H:Hp} {kvs:List (Key × V)} (h:DkF H md kvs) (b:Str):Ø H md (.str b) (zb kvs (.inr b)):=.inl ⟨kvs,.inr b,h,rfl,rfl⟩
structure Mdl (H:Hp) (X:Sx) (md:Addr) (P:List Pd) (tu tx:Str->Addr):Prop where
 d:DkF H md (mdK tu P)
 n:¬ X.f md
 t:∀ q,q∈P->Kf H X (tu q.nm) (.tup [.ref (tx q.nm),baV q.bs])
 x:∀ q,q∈P->Kf H X (tx q.nm) (.lst (q.tx.map V.int))
theorem Mdl.same {H H':Hp} {X:Sx} {P:List Pd} {tx:Str->Addr} (h:Mdl H X md P tu tx) (S:yx H H'):Mdl H' X md P tu tx:=⟨h.d.imp (S _ _) fun ⟨o,e⟩=>⟨o,S _ _ e⟩,h.n,fun q a=>(h.t q a).same S,fun q a=>(h.x q a).same S⟩
theorem Mdl.go {H H':Hp} {st:Addr} {C:Cf} {P P2:List Pd} {X Y:Sx} {tx:Str->Addr} (h:Mdl H X md P tu tx) (s:Sto K a H st C P2 X) (g:Gx X H H' Y):Mdl H' Y md P tu tx:=⟨h.d.imp (fun e=>(Kf.go ⟨e,h.n⟩ s g).1) fun ⟨o,e⟩=>⟨o,(Kf.go ⟨e,h.n⟩ s g).1⟩,(h.d.elim (fun e=>(Kf.go ⟨e,h.n⟩ s g).2) fun ⟨o,e⟩=>(Kf.go ⟨e,h.n⟩ s g).2),fun q b=>(h.t q b).go s g,fun q b=>(h.x q b).go s g⟩
theorem Mdl.but {H H':Hp} {X:Sx} {P:List Pd} {tx:Str->Addr} (h:Mdl H X md P tu tx) {o:HO} (hy:H y=some o) (ho:ytr o=true) (ne:md≠y) (b:But y H H'):Mdl H' X md P tu tx :=
 ⟨h.d.imp (fun e=>b _ _ e ne) fun ⟨o,e⟩=>⟨o,b _ _ e ne⟩,h.n,fun q a=>(h.t q a).but (fun z=>by have e:=(h.t q a).1; rw [z,hy] at e; cases e; cases ho) b,fun q a=>(h.x q a).but (fun z=>by have e:=(h.x q a).1; rw [z,hy] at e; cases e; cases ho) b⟩
theorem Mdl.get {H:Hp} {X:Sx} {P:List Pd} {tx:Str->Addr} (h:Mdl H X md P tu tx) {q:Pd} (hq:q∈P):Ø H md (.str q.nm) (some (.ref (tu q.nm))):=by
 rw [<- yi3 tu hq];exact h.d.get q.nm
theorem Mdl.getNo {H:Hp} {X:Sx} {P:List Pd} {tx:Str->Addr} (h:Mdl H X md P tu tx) {b:Str} (hb:∀ q,q∈P->q.nm≠b):Ø H md (.str b) none:=by
 rw [<- ylz tu hb];exact h.d.get b
def upS (g:Str->Addr) (b:Str) (x:Addr):Str->Addr:=fun s=>if s=b then x else g s
theorem yen {g:Str->Addr} {b:Str} {x:Addr}:upS g b x b=x:=if_pos rfl
theorem ye5 {g:Str->Addr} {b s:Str} {x:Addr} (h:s≠b):upS g b x s=g s:=if_neg h
theorem ydc (tu:Str->Addr) (P:List Pd):((mdK tu P).map fun p=>kV p.1)=(P.map (·.nm)).map V.str:=by
 unfold mdK;rw [cu,cu];rfl
theorem yhx {P:List Pd} {q:Pd} {t:Addr} (hno:∀ r,r∈P->r.nm≠q.nm):ż (mdK tu P) (.inr q.nm) (.ref t)=mdK (upS tu q.nm t) (P++[q]):=by
 rw [â _ (ylz tu hno)];unfold mdK;rw [cj,List.map_singleton,yen]
 congr 1
 exact List.map_congr_left fun r a=>by rw [ye5 (hno r a)]
theorem Mdl.put {H:Hp} {X:Sx} {t:Addr} {P:List Pd} {tx:Str->Addr} {q:Pd} (h:Mdl H X md P tu tx) (hd:H md=some (.dK (mdK tu P))) (hno:∀ r,r∈P->r.nm≠q.nm) (ht:Kf H X t (.tup [.ref y,baV q.bs])) (hy:Kf H X y (.lst (q.tx.map V.int))) :
  Mdl (upd H md (.dK (mdK (upS tu q.nm t) (P++[q])))) X md (P++[q]) (upS tu q.nm t) (upS tx q.nm y):=by
 have f:∀ {x:Addr} {o:HO},ytr o=false->Kf H X x o->Kf (upd H md (.dK (mdK (upS tu q.nm t) (P++[q])))) X x o:=fun {x o} b k=>k.but (fun z=>by have e:=k.1; rw [z,hd] at e; cases e; cases b) But.upd;refine ⟨.inl yc,h.n,fun r a=>?_,fun r a=>?_⟩
 .rcases cr.mp a with z | z
  .rw [ye5 (hno r z),ye5 (hno r z)];exact f rfl (h.t r z)
  .obtain rfl:=bZ.mp z;rw [yen,yen];exact f rfl ht
 .rcases cr.mp a with z | z
  .rw [ye5 (hno r z)];exact f rfl (h.x r z)
  .obtain rfl:=bZ.mp z;rw [yen];exact f rfl hy
theorem yku (tu:Str->Addr) (P:List Pd) (b:Str):χ (mdK tu P) (.inr b)=mdK tu (P.filter fun q=>decide (q.nm≠b)):=by
 unfold χ mdK;rw [List.filter_map]
 congr 1
 refine List.filter_congr fun q _=>?_;by_cases e:q.nm=b
 .simp [e]
 .simp [e]
theorem Mdl.drop {H:Hp} {X:Sx} {P:List Pd} {tx:Str->Addr} (h:Mdl H X md P tu tx) (hd:H md=some (.dK (mdK tu P))) (b:Str):Mdl (upd H md (.dK (mdK tu (P.filter fun q=>decide (q.nm≠b))))) X md (P.filter fun q=>decide (q.nm≠b)) tu tx:=by
 have f:∀ {x:Addr} {o:HO},ytr o=false->Kf H X x o->Kf (upd H md (.dK (mdK tu (P.filter fun q=>decide (q.nm≠b))))) X x o:=fun {x o} c k=>k.but (fun z=>by have e:=k.1; rw [z,hd] at e; cases e; cases c) But.upd;exact ⟨.inl yc,h.n,fun q a=>f rfl (h.t q (cX.mp a).1),fun q a=>f rfl (h.x q (cX.mp a).1)⟩
def lnV (tx:Str->Addr) (L:List (Str × List Int)):List V:=L.map fun y=>V.ref (tx y.1)
def lnA (tx:Str->Addr) (L:List (Str × List Int)) (i:Nat):Addr:=tx (L.getD i (⟨#[]⟩,[])).1
theorem yla (tx:Str->Addr) (L:List (Str × List Int)):lnV tx L=refs (lnA tx L) L.length:=by
 refine List.ext_getElem? fun i=>?_;unfold lnV refs;rw [bN,bN];rcases Nat.lt_or_ge i L.length with h | h
 .rw [bJ h,cZ h];unfold lnA;simp [cD,bJ h]
 .rw [cC h,cC (by rw [cm]; exact h)];rfl
theorem Mdl.ln {H:Hp} {X:Sx} {P:List Pd} {tx:Str->Addr} (h:Mdl H X md P tu tx) (w:PdW P) {x:Option Str} (t:ToD P x L) (hi:i < L.length):Kf H X (lnA tx L i) (.lst ((txi L i).map V.int)):=by
 obtain ⟨r,b,a,_⟩:=t.at w hi;have e:=h.x r b;unfold lnA txi;rw [cD,bJ hi,cD,bN,bJ hi,a];exact e
theorem ydi (L:List (Str × List Int)):∀ i,i <= L.length->ę (txi L) i=æ ((L.map (·.2)).take i)
 | 0,_=>rfl
 | i+1,h=>by
  have a:i < (L.map (·.2)).length:=by rw [bH]; omega
  rw [cB a,ă,<- ydi L i (by omega)];show _++dec (txi L i)=_;unfold txi;rw [cD,bJ a];rfl
theorem ygn (L:List (Str × List Int)):ę (txi L) L.length=æ (L.map (·.2)):=by
 rw [ydi L _ (bL _),cL (by rw [bH]; exact bL _)]
theorem yxq:yk ["self","looks"] ["self","looks"] (yg ysv):=wv (by right)
inductive yal (K:W.Frag) (a:Ads) (vs:List V) (H:Hp) (Q:VK) (E':XK):Prop
 | mk (c dc l:Addr) (n:Nat) (lk tp:Nat->Addr) (kd:Nat->Fin 3) (ps:Nat->List Int):(vs=[.ref c,.ref l])->(H c=some (.ins a.A1 dc []))->(H l=some (.lst (refs lk n)))->(1 <= n)->(n <= 6)->(ue H n lk kd tp ps)->(∀ (p ll tl:Addr) (W:Addr->Prop) (H':Hp),À K a H' c dc p ll tl n kd ps [] [] 6 W->(∀ x,ChW ll tl W x->H x=none)->But c H H'->(∀ y xs H'',H y=some (.lst xs)->But y H' H''->À K a H'' c dc p ll tl n kd ps [] [] 6 W)->Q .non H')->yal K a vs H Q E'
theorem ye0 (T:Txt K mg a):wb P w K mg base (CXe P w) 8 a.Hq a.M8 ["self","looks"] (yal K a):=by
 exists T.Dd.F.okE,yxq,hr;obtain ⟨c,f,l,n,lk,tp,kd,ps,rfl,X,hl,n1,n6,a2,k⟩:=h;refine yo (vh (pv 0) (uf T.R0 (yny T) (hr.mono (by decide)) rfl T.Qz T.Eb.B .nil y0 (yb (pv 1) ye (ya rfl))) rfl) ?_;refine yo (vh (pv 0) (xx ye) rfl) ?_;refine ⟨_,(yf (vh (pv 0) (xx ye) rfl)),?_⟩;exists 2,0;rfl';intro p dp np a0 a3;refine FZ.new np a0 hl n1 n6 a2 fun W C U nW S1 Z=>⟨rfl,?_⟩;have J:=S1 _ _ X;rfl';have q:upd C c (HO.ins a.A1 f ([("foreteller",V.ref p)]:List (Str × V))) c=some (HO.ins a.A1 f ([("foreteller",V.ref p)]:List (Str × V))):=yc;have N:But c C (upd C c (HO.ins a.A1 f ([("foreteller",V.ref p)]:List (Str × V)))):=But.upd;generalize upd C c (HO.ins a.A1 f ([("foreteller",V.ref p)]:List (Str × V)))=HA at q N ⊢;refine ⟨by walk_at "len",fun i hll=>?_⟩
 with_reducible first | refine y7 hll fun HB SB eB=>?_ | refine vk hll fun HB SB eB=>?_
 have a5:=SB _ _ q;rfl';have t:upd HB c (HO.ins a.A1 f ([("foreteller",V.ref p),("links",V.ref i)]:List (Str × V))) c=some (HO.ins a.A1 f ([("foreteller",V.ref p),("links",V.ref i)]:List (Str × V))):=yc;have G:But c HB (upd HB c (HO.ins a.A1 f ([("foreteller",V.ref p),("links",V.ref i)]:List (Str × V)))):=But.upd;generalize upd HB c (HO.ins a.A1 f ([("foreteller",V.ref p),("links",V.ref i)]:List (Str × V)))=HC at t G ⊢;refine ⟨by walk_at "len",fun v htl=>?_⟩
 with_reducible first | refine y7 htl fun HD SD eD=>?_ | refine vk htl fun HD SD eD=>?_
 have a4:=SD _ _ t;rfl';have j:i≠c:=(yd q hll).symm;have g:v≠c:=(yd t htl).symm;have R:HC i=some (.lst []):=G _ _ eB j
 have O:∀ {x:Addr},x≠c->HA x=none->H x=none:=fun {x} d e=>by
  cases z:H x with
  | none=>rfl
  | some o=>rw [N _ _ (S1 _ _ z) d] at e; cases e
 have Y:∀ {x:Addr},x≠c->HC x=none->HA x=none:=fun {x} d e=>by
  cases z:HA x with
  | none=>rfl
  | some o=>rw [G _ _ (SB _ _ z) d] at e; cases e
 have u:But c C (upd HD c (HO.ins a.A1 f (zw (.ref p) (.ref i) (.ref v)))):=fun x o e d=>yj d (SD _ _ (G _ _ (SB _ _ (N _ _ e d)) d))
 have m:∀ x,W x->x≠c:=fun x w z=>by
  have e:=nW x w;rw [z,X] at e;cases e
 have D:H i=none:=O j hll;have L:H v=none:=O g (Y g htl)
 have M:¬ W i:=fun w=>by
  obtain ⟨o,e⟩:=U.live _ w;rw [N _ _ e j] at hll;cases hll
 have I:¬ W v:=fun w=>by
  obtain ⟨o,e⟩:=U.live _ w;rw [G _ _ (SB _ _ (N _ _ e g)) g] at htl;cases htl
 refine k p i v W (upd HD c (HO.ins a.A1 f (zw (.ref p) (.ref i) (.ref v)))) ⟨yc,?_,?_,?_,rfl,fun w=>m c w rfl,M,I,yd R htl⟩ (fun x w=>?_) (fun x o e d=>u x o (S1 _ _ e) d) (fun y xs H2 r b=>?_)
 .exact U.frame (W2:=fun x=>x=c) (fun x z=>⟨.ins a.A1 f [],by rw [show x=c from z]; exact J,.inl rfl⟩) (fun x w z=>m x w z) (fun x o e d=>u x o e d)
 .exact yj j (SD _ _ R)
 .exact yj g eD
 .rcases w with z | z | z
  .rw [z]; exact D
  .rw [z]; exact L
  .exact nW x z
 .have S:c≠y:=fun z=>by rw [<- z,X] at r; cases r
  have bG:But y C (upd H2 c (.ins a.A1 f [])):=fun x o e d=>by
   by_cases z:x=c
   .rw [z,yc]; rw [z,J] at e; exact e
   .exact yj z (b _ _ (u x o e z) d)
  refine ⟨b _ _ yc S,(Z y xs _ r bG).frame (W2:=fun x=>x=c) (fun x z=>⟨.ins a.A1 f [],by rw [show x=c from z]; exact yc,.inl rfl⟩) (fun x w z=>m x w z) (fun x o e d=>by rw [ym d] at e; exact e),b _ _ (yj j (SD _ _ R)) (fun z=>by rw [<- z,D] at r; cases r),b _ _ (yj g eD) (fun z=>by rw [<- z,L] at r; cases r),rfl,fun w=>m c w rfl,M,I,yd R htl⟩
theorem yv1:yk ["self","name","text"] ["self","name","text"] (yg yru):=wv (by right)
inductive ydr (a:Ads) (vs:List V) (H:Hp) (Q:VK) (E':XK):Prop
 | mk (c dc:Addr) (vf:V) (ll tl:Addr) (x y:V) (xs ys:List V):(vs=[.ref c,x,y])->(H c=some (.ins a.A1 dc (zw vf (.ref ll) (.ref tl))))->(H ll=some (.lst xs))->(H tl=some (.lst ys))->(ll≠tl)->(xs.length <= 10000)->(ys.length <= 10000)->(Q .non (upd (upd H ll (.lst (xs++[x]))) tl (.lst (ys++[y]))))->ydr a vs H Q E'
theorem ynq (T:Txt K mg a):wb P w K mg base CX0 1 a.M9 a.Ma ["self","name","text"] (ydr a):=by
 exists T.Ek.F.ok,yv1,u;obtain ⟨c,m,l,d,e,x,y,f,n,rfl,g,j,q,t,B,v,k⟩:=h;refine ⟨_,(yh (yt (ĕ PySem.F.plainAttrs_list PySem.F.slot_list_append PySem.F.type_list_append xi (yp (pv 0) rfl) (yb (pv 1) ye (ya rfl)))) (yf (yt (ĕ PySem.F.plainAttrs_list PySem.F.slot_list_append PySem.F.type_list_append xi (yp (pv 0) rfl) (yb (pv 2) ye (ya rfl)))))),?_⟩;exists 3,0;rfl';refine Ì j ?_;rfl';refine x5 j (vq (by omega)) ?_;have r:(upd H d (.lst (f++[x]))) c=some (.ins a.A1 m (zw l (.ref d) (.ref e))):=by rw [ym (fun z=>by rw [z,j] at g; cases g)]; exact g
 rfl';have b:(upd H d (.lst (f++[x]))) e=some (.lst n):=by rw [ym t.symm]; exact q
 refine Ì b ?_;rfl';refine x5 b (vq (by omega)) ?_;rfl';exact k
theorem À.grow {H H1:Hp} {c ll:Addr} {n:Nat} {kd:Nat->Fin 3} {ps:Nat->List Int} {ks:List V} {M M':Nat} {W:Addr->Prop} (h:À K a H c dc p ll tl n kd ps L ks M W) {nm:Str} {t:List Int} {k:V} (hf:FZ K a H1 p n kd ps (æ (L.map (·.2))++dec t) M' W') (g:Go W H H1 W') (hk:k=.non\/∃ q,k=.ref q/\H1 q=some (.lst (t.map V.int))/\¬ ChW ll tl W' q) :
  À K a (upd (upd H1 ll (.lst (nmL L++[V.str nm]))) tl (.lst (ks++[k]))) c dc p ll tl n kd ps (L++[(nm,t)]) (ks++[k]) M' W'/\Go (ChW ll tl W) H (upd (upd H1 ll (.lst (nmL L++[V.str nm]))) tl (.lst (ks++[k]))) (ChW ll tl W'):=by
 have A:=g.fr _ _ h.hl h.nll;have j:=g.fr _ _ h.ht h.ntl;have v:=g.fr _ _ h.me h.nc;have i:∀ {x:Addr} {o:HO},H x=some o->¬ W x->¬ W' x:=fun {x o} e d w=>(g.nw x w).elim d fun z=>by rw [e] at z; cases z
 have C:=i h.hl h.nll;have B:=i h.ht h.ntl
 have f:∀ x o,H1 x=some o->¬ (x=ll\/x=tl)->(upd (upd H1 ll (.lst (nmL L++[V.str nm]))) tl (.lst (ks++[k]))) x=some o:=fun x o e d=>by
  rw [ym (fun z=>d (.inr z)),ym (fun z=>d (.inl z))]; exact e
 have s:c≠ll:=fun z=>by have e:=h.me; rw [z,h.hl] at e; cases e
 have l:c≠tl:=fun z=>by have e:=h.me; rw [z,h.ht] at e; cases e
 refine ⟨⟨f _ _ v fun z=>z.elim s l,?_,?_,yc,?_,i h.me h.nc,C,B,h.ne⟩,⟨fun x o e d=>?_,fun x w=>?_,fun x o e=>?_⟩⟩
 .have F:æ ((L++[(nm,t)]).map (·.2))=æ (L.map (·.2))++dec t:=by rw [cj]; exact ă _ _
  rw [F];refine hf.frame (W2:=fun x=>x=ll\/x=tl) (fun x w=>?_) (fun x w z=>?_) fun x o e d=>f x o e d
  .rcases w with z | z
   .refine ⟨_,by rw [show x=ll from z]; exact A,.inr ⟨_,rfl,fun y m=>?_⟩⟩;obtain ⟨u,_,e⟩:=bM.mp m;exact .inl ⟨u.1,e.symm⟩
   .refine ⟨_,by rw [show x=tl from z]; exact j,.inr ⟨_,rfl,fun y m=>.inr ?_⟩⟩;exact (h.tx.mem y m).imp id fun ⟨q,G,e,r,b⟩=>⟨q,e,.inl ⟨G,g.fr q _ r fun w=>b (.inr (.inr w))⟩⟩
  .rcases z with z | z
   .rw [z] at w; exact C w
   .rw [z] at w; exact B w
 .rw [ym h.ne,yc];unfold nmL;rw [cj];rfl
 .refine ybq.snoc ?_ (h.tx.mono fun q I e b=>⟨f q _ (g.fr q _ e fun w=>b (.inr (.inr w))) fun z=>b (z.imp id .inl),fun w=>?_⟩)
  .refine hk.imp id fun ⟨q,e,r,b⟩=>⟨q,e,f q _ r fun z=>b (z.imp id .inl),b⟩
  .rcases w with w | w | w
   .exact b (.inl w)
   .exact b (.inr (.inl w))
   .exact i e (fun w=>b (.inr (.inr w))) w
 .exact f x o (g.fr x o e fun w=>d (.inr (.inr w))) fun z=>d (z.imp id .inl)
 .rcases w with w | w | w
  .exact .inl (.inl w)
  .exact .inl (.inr (.inl w))
  .exact (g.nw x w).imp (fun w=>.inr (.inr w)) id
 .obtain ⟨D,E⟩:=g.lv x o e;by_cases z2:x=tl
  .exact ⟨_,by rw [z2]; exact yc⟩
  .by_cases z1:x=ll
   .exact ⟨_,by rw [z1,ym h.ne]; exact yc⟩
   .exact ⟨D,f x D E fun z=>z.elim z1 z2⟩
theorem yl9:yk ["self","name","text","data"] ["self","name","text"] (yg yre):=wv (by right)
inductive ı (K:W.Frag) (a:Ads) (vs:List V) (H:Hp) (Q:VK) (E':XK):Prop
 | mk (c dc p ll tl:Addr) (n:Nat) (kd:Nat->Fin 3) (ps:Nat->List Int) (L:List (Str × List Int)) (ks:List V) (M:Nat) (W:Addr->Prop) (tx:Addr) (nm:Str) (ts:List Int):(vs=[.ref c,.str nm,.ref tx])->(À K a H c dc p ll tl n kd ps L ks M W)->(L.length <= 1000)->(Î H tx ts 1000)->(¬ W tx)->(M+6 * (dec ts).length+20 < 1000000)->(∀ (r:Addr) (W':Addr->Prop) (H':Hp),H r=none->H' r=some (.lst ((Ö n kd ps (æ (L.map (·.2))) ts).map V.int))->À K a H' c dc p ll tl n kd ps (L++[(nm,ts)]) (ks++[.non]) (M+6 * (dec ts).length) W'->Go (ChW ll tl W) H H' (ChW ll tl W')->Q (.ref r) H')->ı K a vs H Q E'
theorem yu2 (T:Txt K mg a):wb P w K mg base CX0 8 a.Mb a.Mc ["self","name","text"] (ı K a):=by
 exists T.I8.F.ok,yl9,y;obtain ⟨c,x,p,v,u,n,O,I,L,X,M,W,N,nm,G,rfl,b,Z,t,o,J,k⟩:=h;have S:=b.me;have Y:=b.tx.len;refine ⟨_,(yh (yw (i:=3) yl9.nd rfl (Or.inl rfl) (y8 (yn6 T) (y.mono (by decide)) rfl T.Db.m T.Db.F.kp T.Db.B .nil vg (yb (yp (pv 0) rfl) (yb (pv 2) ye (ya rfl)) (ya rfl)))) (yh (yt (xl (pv 0) T.As T.Ek.m (ynq T) (y.mono (by decide)) T.Ek.B .nil vg (yb (pv 1) (yb uk ye (ya rfl)) (ya rfl)))) (yf (yu (pv 3))))),?_⟩;exists 3,1;rfl';refine b.fz.press t o J fun r D H1 d f C g=>?_;have l:=g.fr _ _ b.hl b.nll;have e:=g.fr _ _ b.ht b.ntl;have j:=g.fr _ _ b.me b.nc;rfl';refine ⟨c,x,_,v,u,_,_,_,_,rfl,j,l,e,b.ne,by unfold nmL; rw [bH]; omega,by omega,?_⟩;obtain ⟨z,g2⟩:=b.grow (nm:=nm) C g (.inl rfl);rfl';refine k r D _ d ?_ z g2;rw [ym (yd b.ht d).symm,ym (yd b.hl d).symm];exact f
theorem yme:yk ["self","name","data","most","first"] ["self","name","data","most"] (yg yr8):=wv (by right)
inductive ya2 (K:W.Frag) (a:Ads) (vs:List V) (H:Hp) (Q:VK) (E':XK):Prop
 | mk (c dc p ll tl:Addr) (n:Nat) (kd:Nat->Fin 3) (ps:Nat->List Int) (L:List (Str × List Int)) (ks:List V) (M:Nat) (W:Addr->Prop) (dt:Addr) (nm:Str) (ts bs:List Int) (mo:Nat):(vs=[.ref c,.str nm,.ref dt,.int mo])->(À K a H c dc p ll tl n kd ps L ks M W)->(L.length <= 1000)->(Sgs ts)->(H dt=some (.lst ((Ö n kd ps (æ (L.map (·.2))) ts++bs).map V.int)))->(¬ W dt)->(Byt bs)->((Ö n kd ps (æ (L.map (·.2))) ts++bs).length <= 12000)->(ts.length <= mo)->(mo <= 1000)->(M+54 * mo+200 < 1000000)->(∀ (q:Addr) (W':Addr->Prop) (H':Hp),H q=none->À K a H' c dc p ll tl n kd ps (L++[(nm,ts)]) (ks++[.ref q]) (M+6 * (dec ts).length) W'->Go (ChW ll tl W) H H' (ChW ll tl W')->Q (.int ((Ö n kd ps (æ (L.map (·.2))) ts).length:Nat)) H')->ya2 K a vs H Q E'
theorem yxu (T:Txt K mg a):wb P w K mg base (CXe P w) 11 a.Md a.Me ["self","name","data","most"] (ya2 K a):=by
 exists T.I9.F.okE,yme,Z;obtain ⟨c,X,p,j,f,n,U,S,L,ks,M,W,dt,nm,R,bs,mo,rfl,b,hz,C,J,N,y,r,u,o,hM,k⟩:=h;have a0:=b.me;have a2:=b.tx.len;refine ⟨_,(yh (yw (i:=4) yme.nd rfl (Or.inl rfl) (vo (ywa T) (Z.mono (by decide)) rfl T.Gc.m T.Gc.F.kp T.Gc.B .nil y0 (yb (yp (pv 0) rfl) (yb (pv 2) (yb (pv 3) ye (ya rfl)) (ya rfl)) (ya rfl)))) (yh (yt (xl (pv 0) T.As T.Ek.m (ynq T) (Z.mono (by decide)) T.Ek.B .nil vg (yb (pv 1) (yb (ud u7 (pv 4) yi (fun _ _=>rfl)) ye (ya rfl)) (ya rfl)))) (yf (yu (ud u7 (pv 4) yi (fun _ _=>rfl)))))),?_⟩;exists 4,1;rfl';refine b.fz.read (ý _) C J N y r u o hM fun t q O H1 e d Y hq hf g nq=>?_;have x:=g.fr _ _ b.hl b.nll;have l:=g.fr _ _ b.ht b.ntl;have v:=g.fr _ _ b.me b.nc;rfl';refine ⟨t,_,0,_,rfl,rfl,SqT.of Y,rfl,?_⟩;rfl';refine ⟨c,X,_,j,f,_,_,_,_,rfl,v,x,l,b.ne,by unfold nmL; rw [bH]; omega,by omega,?_⟩
 have G:¬ ChW j f O q:=fun w=>by
  rcases w with w | w | w
  .exact yd b.hl d w.symm
  .exact yd b.ht d w.symm
  .exact nq w
 obtain ⟨z,g2⟩:=b.grow (nm:=nm) hf g (.inr ⟨q,rfl,hq,G⟩)
 have I:(upd (upd H1 j (.lst (nmL L++[V.str nm]))) f (.lst (ks++[V.ref q]))) t=some (.tup [.ref q,.int ((Ö n U S (æ (L.map (·.2))) R).length:Nat)]):=by
  rw [ym (yd b.ht e).symm,ym (yd b.hl e).symm];exact Y
 rfl';refine ⟨t,_,1,_,rfl,rfl,SqT.of I,rfl,?_⟩;exact k q O _ d z g2
theorem yvb:yk ["thing"] ["thing"] (yg yrw):=wv (by right)
inductive yaq (K:W.Frag) (vs:List V) (H:Hp) (Q:VK) (E':XK):Prop
 | mk (x n:_):(vs=[x])->(xr K H x (.type n))->((∀ s,x=.str s->s.length <= 100000))->(∀ H',yx H H'->Q (.bl (nmV x)) H')->yaq K vs H Q E'
theorem yyi (T:Txt K mg a):wb P w K mg base CX0 1 a.Mf a.Mg ["thing"] (yaq K):=by
 exists T.Gd.F.ok,yvb,v;obtain ⟨x,n,rfl,b,d,k⟩:=h;refine ⟨_,(yf (yu (ua (yq wq rfl T.A6 (by right) (yb (pv 0) (yb (zr (T:="str") rfl T.O4 (by right)) ye (ya rfl)) (ya rfl))) (ua (ο zk zk yi (yq Ï rfl T.Ah (by right) (yb (pv 0) ye (ya rfl))) (vt rfl T.Ez)) (z5 (yq (zh rfl) rfl T.Dj (by right) (yb (we (js:=[]) (ys:=[]) rfl (ylx (pv 0)) (fun C t u r=>(x4 yhk (pv 0) (yp4 rfl T.Od) (by with_unfolding_all rfl))) rfl rfl (hyc:=yv) (hrel:=yv)) ye (ya rfl)))))))),?_⟩;exists 1,0;rfl';refine Ú b (yc8 b) ?_;rfl';by_cases hn:n="str"
 .obtain ⟨s',rfl⟩:∃ s',x=.str s':=by
   cases b with
   | str s'=>exact ⟨s',rfl⟩
   | _=>exact absurd hn (by decide)
  have d:=d s' rfl;rw [bR hn];refine ħ ?_;rfl';refine ⟨s',rfl,cn d (by decide),?_⟩;refine ⟨1,(s'.length:Int),rfl,rfl,_,rfl,?_⟩;by_cases h1:(1:Int) <= (s'.length:Int)
  .refine Ź h1 ?_;refine ⟨(s'.length:Int),8,rfl,rfl,_,rfl,?_⟩;by_cases h8:(s'.length:Int) <= 8
   .refine Ź h8 ?_;rfl';refine ⟨s',rfl,fun D j=>?_⟩;refine yhd (fun i=>.bl (yok (s'.cps.toList.getD i 0))) j (fun i c G p q S f=>?_) (fun G S f=>?_)
    .rfl';refine ⟨_,_,rfl,rfl,?_⟩;refine Mp.doneR j (Nat.lt_of_le_of_lt (show s'.cps.size <= 100000 from d) (by decide)) q S f ?_
     have o:s'.cps.toList.getD i 0=c:=by
      rw [cD,Array.getElem?_toList,p]; rfl
     rw [o];unfold yok;rfl
    .rfl';refine ⟨D,s'.cps.toList.map yok,rfl,?_,?_⟩
     .refine SqL.of (f.trans ?_);rw [yqd]
     .have e:=yub h1 h8;rw [<- e];exact k _ S
   .have e:=yvh h8;rw [e] at k;exact yc2 h8 (k _ (yx.refl _))
  .have e:=yul h1;rw [e] at k;refine yc2 h1 ?_;exact ⟨_,rfl,Ę (k _ (yx.refl _))⟩
 .have e:nmV x=false:=by
   cases b with
   | str s'=>exact absurd rfl hn
   | _=>rfl
  rw [bV hn];rw [e] at k;exact Ę (k _ (yx.refl _))
theorem yuo:yk ["thing"] ["thing"] (yg ysh):=wv (by right)
inductive ydn (K:W.Frag) (C:Addr) (vs:List V) (H:Hp) (Q:VK) (E:XK):Prop
 | mk (x n:_):(vs=[x])->(xr K H x (.type n))->((∀ s,x=.str s->s.length <= 100000))->((nmV x=true->∀ H',yx H H'->Q x H'))->((nmV x=false->∀ H',yx H H'->E (.ref C) none H'))->ydn K C vs H Q E
theorem yi8 (T:Txt K mg a):wb P w K mg base (CXe P w) 2 a.Mh a.Mi ["thing"] (ydn K a.A7):=by
 exists T.Co.F.okE,yuo,g;obtain ⟨x,n,rfl,f,j,i,k⟩:=h;refine ⟨_,(yh (wa (xw (xo (y8 (yyi T) (g.mono (by decide)) rfl T.Gd.m T.Gd.F.kp T.Gd.B .nil vg (yb (pv 0) ye (ya rfl))))) (yf (w8 rfl T.Ih T.Eu (yb wd ye (ya rfl)))) y9) (yf (yu (pv 0)))),?_⟩;exists 1,0;rfl';refine ⟨x,n,rfl,f,j,fun l c=>?_⟩;rfl'
 cases hx:nmV x with
 | false =>
  rfl';exact ⟨by walk_at "len",k hx _ c⟩
 | true =>
  rfl';exact i hx _ c
theorem yvo:yk ["thing"] ["thing"] (yg yrg):=wv (by right)
inductive ydu (K:W.Frag) (C:Addr) (vs:List V) (H:Hp) (Q:VK) (E:XK):Prop
 | mk (x n:_):(vs=[x])->(xr K H x (.type n))->((∀ s,x=.str s->s.length <= 100000))->(((x=.non\/nmV x=true)->∀ H',yx H H'->Q .non H'))->((x≠.non->nmV x=false->∀ H',yx H H'->E (.ref C) none H'))->ydu K C vs H Q E
theorem yyl (T:Txt K mg a):wb P w K mg base (CXe P w) 3 a.Mj a.Ml ["thing"] (ydu K a.A7):=by
 exists T.Ge.F.okE,yvo,k;obtain ⟨x,n,rfl,j,l,e,o⟩:=h;refine ⟨_,(yf (wa (yy ű (pv 0) uk (vd _)) (yf (yt (vo (yi8 T) (k.mono (by decide)) rfl T.Co.m T.Co.F.kp T.Co.B .nil y0 (yb (pv 0) ye (ya rfl))))) y9)),?_⟩;exists 1,0;rfl';by_cases hx:x=.non
 .subst hx;rfl';exact e (.inl rfl) _ (yx.refl _)
 .rfl';rw [bV hx];refine ħ ?_;rfl';refine ⟨x,n,rfl,j,l,fun b f d=>?_,fun b f d=>o hx b f d⟩;rfl';exact e (.inr b) _ d
theorem yvf:yk ["self","base","data"] ["self","base","data"] (yg yrk):=wv (by right)
inductive yc9 (a:Ads) (vs:List V) (H:Hp) (Q:VK) (E':XK):Prop
 | mk (p dp:Addr) (x y:V):(vs=[.ref p,x,y])->(H p=some (.ins a.Aa dp []))->(∀ H',H' p=some (.ins a.Aa dp (Ċ x y))->But p H H'->Q .non H')->yc9 a vs H Q E'
theorem yw8 (T:Txt K mg a):wb P w K mg base CX0 1 a.Hr a.Mm ["self","base","data"] (yc9 a):=by
 exists T.Gf.F.ok,yvf,j;obtain ⟨p,b,x,y,rfl,l,k⟩:=h;refine ⟨_,(yh (vh (pv 0) (pv 1) rfl) (yf (vh (pv 0) (pv 2) rfl))),?_⟩;exists 3,0;rfl';have c:upd H p (HO.ins a.Aa b ([("base",x)]:List (Str × V))) p=some (HO.ins a.Aa b ([("base",x)]:List (Str × V))):=yc;have e:But p H (upd H p (HO.ins a.Aa b ([("base",x)]:List (Str × V)))):=But.upd;generalize upd H p (HO.ins a.Aa b ([("base",x)]:List (Str × V)))=i at c e ⊢;rfl';exact k _ yc (e.trans But.upd)
theorem yu0:yk ["self","looks","most"] ["self","looks","most"] (yg yfy):=wv (by right)
inductive Ā (K:W.Frag) (a:Ads) (vs:List V) (H:Hp) (Q:VK) (E':XK):Prop
 | mk (p ds l:Addr) (mo w:Nat) (n:Nat) (lk tp:Nat->Addr) (kd:Nat->Fin 3) (ps:Nat->List Int):(vs=[.ref p,.ref l,.int mo])->(H p=some (.ins a.A0 ds []))->(H l=some (.lst (refs lk n)))->(1 <= n)->(n <= 6)->(ue H n lk kd tp ps)->(mo <= 1000)->(w <= mo)->(w <= 200)->(∀ (ll d c dc q cl ct:Addr) (U:Addr->Prop) (H':Hp),zl K a H' p ds ll d c dc q cl ct lk tp n kd ps mo w [] [] [] U->(∀ x,StW c cl ct U x->H x=none)->H ll=none->H d=none->But p H H'->(∀ y xs H'',H y=some (.lst xs)->But y H' H''->zl K a H'' p ds ll d c dc q cl ct lk tp n kd ps mo w [] [] [] U)->Q .non H')->Ā K a vs H Q E'
theorem yug (T:Txt K mg a):wb P w K mg base (CXe P w) 10 a.Dv a.Mn ["self","looks","most"] (Ā K a):=by
 exists T.Qu.okE,yu0,hr;obtain ⟨p,j,l,G,w,n,lk,tp,kd,ps,rfl,W,hl,J,n6,X,a2,a9,a4,k⟩:=h;refine yo (vh (pv 0) (vo (ynn T) (hr.mono (by decide)) rfl T.D7.m T.D7.F.kp T.D7.B .nil y0 (yb (pv 1) ye (ya rfl))) rfl) ?_;refine yo (yt (vo (vaw T) (hr.mono (by decide)) rfl T.Oa.m T.Oa.F.kp T.Oa.B .nil y0 (yb (pv 2) ye (ya rfl)))) ?_;refine yo (vh (pv 0) (pv 2) rfl) ?_;refine yo (vh (pv 0) yd8 rfl) ?_;refine ⟨_,(yf (vh (pv 0) (uf T.E5 (ye0 T) (hr.mono (by decide)) rfl T.E4 T.Dd.B .nil y0 (yb (yp (pv 0) rfl) ye (ya rfl))) rfl)),?_⟩;exists 3,0;rfl';refine .inr ⟨l,refs lk n,List.replicate (refs lk n).length true,rfl,hl,by rw [wg]; omega,X.lks.bs,fun _ g H1 C a6 t=>?_,fun no=>absurd ⟨by rw [wg]; exact J,by rw [wg]; exact n6,yid _⟩ no⟩;have ai:=t _ _ W;rfl';have ac:upd H1 p (HO.ins a.A0 j ([("looks",V.ref g)]:List (Str × V))) p=some (HO.ins a.A0 j ([("looks",V.ref g)]:List (Str × V))):=yc;have BA:But p H1 (upd H1 p (HO.ins a.A0 j ([("looks",V.ref g)]:List (Str × V)))):=But.upd;generalize upd H1 p (HO.ins a.A0 j ([("looks",V.ref g)]:List (Str × V)))=HA at ac BA ⊢;refine ⟨.int G,"int",rfl,.int _,fun _=>?_,fun z=>by rw [yyo a2] at z; cases z⟩;rfl';have a1:upd HA p (HO.ins a.A0 j ([("looks",V.ref g),("most",V.int G)]:List (Str × V))) p=some (HO.ins a.A0 j ([("looks",V.ref g),("most",V.int G)]:List (Str × V))):=yc;have BB:But p HA (upd HA p (HO.ins a.A0 j ([("looks",V.ref g),("most",V.int G)]:List (Str × V)))):=But.upd;generalize upd HA p (HO.ins a.A0 j ([("looks",V.ref g),("most",V.int G)]:List (Str × V)))=HB at a1 BB ⊢;intro d hd0
 with_reducible first | refine y7 hd0 fun HC SC eC=>?_ | refine vk hd0 fun HC SC eC=>?_
 have aj:=SC _ _ a1;rfl';have r:upd HC p (HO.ins a.A0 j ([("looks",V.ref g),("most",V.int G),("pieces",V.ref d)]:List (Str × V))) p=some (HO.ins a.A0 j ([("looks",V.ref g),("most",V.int G),("pieces",V.ref d)]:List (Str × V))):=yc;have BD:But p HC (upd HC p (HO.ins a.A0 j ([("looks",V.ref g),("most",V.int G),("pieces",V.ref d)]:List (Str × V)))):=But.upd;generalize upd HC p (HO.ins a.A0 j ([("looks",V.ref g),("most",V.int G),("pieces",V.ref d)]:List (Str × V)))=Y at r BD ⊢;have I:∀ x o,H1 x=some o->x≠p->Y x=some o:=fun x o e u=>BD _ _ (SC _ _ (BB _ _ (BA _ _ e u) u)) u
 have K0:∀ x,x≠p->Y x=none->H x=none:=fun x u e=>by
  cases z:H x with
  | none=>rfl
  | some o=>rw [I _ _ (t _ _ z) u] at e; cases e
 have Z:g≠p:=(yd W C).symm;have v:d≠p:=(yd a1 hd0).symm;have D:=I _ _ a6 Z;have S:Y d=some (.dK []):=BD _ _ eC v
 have ah:ue Y n lk kd tp ps:=fun i hi=>by
  obtain ⟨q,e,O,R,h3⟩:=X i hi;exact ⟨q,e,I _ _ (t _ _ O) (xb O W (by intro z; cases z)),I _ _ (t _ _ R) (xb R W (by intro z; cases z)),h3⟩
 refine ⟨p,_,j,_,_,rfl,r,T.A3,T.At,rfl,?_⟩;rfl';intro c dc nc aa am;have SQ:yx Y (upd (upd Y dc (.own c)) c (.ins a.A1 dc [])):=fun b o e=>by rw [ym (yd e nc),ym (yd e aa)]; exact e
 refine ⟨c,dc,g,n,lk,tp,kd,ps,rfl,yc,SQ _ _ D,J,n6,ah.same SQ,fun q cl ct U HE ab a8 BE ad=>⟨rfl,?_⟩⟩;have M:yx Y HE:=fun b o e=>BE _ _ (SQ _ _ e) (yd e nc);have a3:=M _ _ r
 have N:∀ x,StW c cl ct U x->Y x=none:=fun x w=>by
  rcases w with z | z
  .rw [z]; exact nc
  .exact SQ.free (a8 x z)
 have a0:¬ StW c cl ct U p:=fun w=>by have e:=N _ w; rw [r] at e; cases e
 have a7:H d=none:=by
  cases z:H d with
  | none=>rfl
  | some o=>rw [BB _ _ (BA _ _ (t _ _ z) v) v] at hd0; cases hd0
 rfl';refine k g d c dc q cl ct U _ ⟨yc,J,n6,yj Z (M _ _ D),fun i hi=>?_,⟨yj v (M _ _ S),fun q f=>(by cases f),List.nodup_nil,fun q f=>(by cases f),fun q f=>(by cases f),cb _,fun q f=>(by cases f)⟩,ab.but a3 a0 But.upd,fun x hx w=>?_,a2,⟨a9,a4⟩,⟨none,rfl⟩⟩ (fun x w=>?_) C ?_ (fun x o e u=>yj u (M _ _ (I _ _ (t _ _ e) u))) (fun y xs H2 L b=>?_)
 .obtain ⟨q,e,O,R,h3⟩:=X i hi;have J:=xb O W (by intro z; cases z);have n2:=xb R W (by intro z; cases z);exact ⟨q,e,yj J (M _ _ (I _ _ (t _ _ O) J)),yj n2 (M _ _ (I _ _ (t _ _ R) n2)),h3⟩
 .have e:=N _ w;rcases hx with z | z | z | ⟨q,f,_⟩
  .rw [z,r] at e; cases e
  .rw [z,D] at e; cases e
  .rw [z,S] at e; cases e
  .cases f
 .exact K0 x (fun z=>a0 (z ▸ w)) (N x w)
 .exact a7
 .have a5:p≠y:=fun z=>by rw [<- z,W] at L; cases L
  have ae:=SQ _ _ (I _ _ (t _ _ L) a5.symm)
  have bG:But y HE (upd H2 p (HO.ins a.A0 j ([("looks",V.ref g),("most",V.int G),("pieces",V.ref d)]:List (Str × V)))):=fun x o e u=>by
   by_cases z:x=p
   .rw [z,yc]; rw [z,a3] at e; exact e
   .exact yj z (b _ _ (yj z e) u)
  have ag:=ad y xs _ ae bG;have al:=t _ _ L;refine ⟨b _ _ yc a5,J,n6,b _ _ (yj Z (M _ _ D)) (fun z=>by rw [<- z,C] at L; cases L),fun i hi=>?_,⟨b _ _ (yj v (M _ _ S)) (fun z=>by rw [<- z,a7] at L; cases L),fun q f=>(by cases f),List.nodup_nil,fun q f=>(by cases f),fun q f=>(by cases f),cb _,fun q f=>(by cases f)⟩,ag.but yc a0 (fun x o e u=>by rw [ym u] at e; exact e),fun x hx w=>?_,a2,⟨a9,a4⟩,⟨none,rfl⟩⟩
  .obtain ⟨q,e,O,R,h3⟩:=X i hi;have J:=xb O W (by intro z; cases z);have n2:=xb R W (by intro z; cases z);exact ⟨q,e,b _ _ (yj J (M _ _ (I _ _ (t _ _ O) J))) (xb O L (by intro z; cases z)),b _ _ (yj n2 (M _ _ (I _ _ (t _ _ R) n2))) (xb R L (by intro z; cases z)),h3⟩
  .have e:=N _ w;rcases hx with z | z | z | ⟨q,f,_⟩
   .rw [z,r] at e; cases e
   .rw [z,D] at e; cases e
   .rw [z,S] at e; cases e
   .cases f
theorem Sto.new {H:Hp} {st l:Addr} {mo w n:Nat} {lk:Nat->Addr} {kd:Nat->Fin 3} {ps:Nat->List Int} {Q:VK} {E:XK} (hst0:H st=none) (hds0:H ds=none) (hlo:H l=some (.lst (refs lk n))) (n1:1 <= n) (n6:n <= 6) (hR:ue H n lk kd tp ps) (m1:mo <= 1000) (wm:w <= mo) (w2:w <= 200)
  (k:∀ X H',Sto K a H' st ⟨n,kd,ps,mo,w⟩ [] X->yx H H'->(∀ y,X.f y->H y=none)->(∀ y xs H'',H y=some (.lst xs)->But y H' H''->Sto K a H'' st ⟨n,kd,ps,mo,w⟩ [] X)->Q .non H'):Ā K a [.ref st,.ref l,.int mo] (upd (upd H ds (.own st)) st (.ins a.A0 ds [])) Q E:=by
 have g:yx H (upd (upd H ds (.own st)) st (.ins a.A0 ds [])):=fun b o e=>by rw [ym (yd e hst0),ym (yd e hds0)]; exact e
 refine ⟨st,ds,l,mo,w,n,lk,tp,kd,ps,rfl,yc,g _ _ hlo,n1,n6,hR.same g,m1,wm,w2,fun t d c u p v x U C r i h m A s=>k _ C ⟨ds,t,d,c,u,p,v,x,lk,tp,[],[],[],U,r,rfl,rfl⟩ (fun y o e=>A _ _ (g _ _ e) (yd e hst0)) (fun y j=>?_) fun y xs B j b=>⟨ds,t,d,c,u,p,v,x,lk,tp,[],[],[],U,s y xs B (g _ _ j) b,rfl,rfl⟩⟩;rcases j with (z | z | z) | z | ⟨q,hq,_⟩ | z
 .rw [z]; exact g.free m
 .rw [z]; exact hst0
 .exact g.free (i y z)
 .rw [z]; exact g.free h
 .cases hq
 .cases z
theorem yxs:yk ["self"] ["self"] (yg yq5):=wv (by right)
inductive Ť (a:Ads) (vs:List V) (H:Hp) (Q:VK) (E':XK):Prop
 | mk (st ds d:Addr) (vl vm vc:V) (P:List Pc):(vs=[.ref st])->(H st=some (.ins a.A0 ds (xf vl vm (.ref d) vc)))->(H d=some (.dK (pcs P)))->(P.length <= 60)->(∀ l H',H l=none->H' l=some (.lst (P.map fun q=>V.str q.nm))->yx H H'->Q (.ref l) H')->Ť a vs H Q E'
theorem ync (T:Txt K mg a):wb P w K mg base CX0 1 a.Mq a.Mr ["self"] (Ť a):=by
 exists T.El.F.ok,yxs,u;obtain ⟨j,i,d,m,t,n,P,rfl,o,r,v,k⟩:=h;refine ⟨_,(yf (yu (wt (Â rfl) rfl T.Aq (by right) (yb (yp (pv 0) rfl) ye (ya rfl))))),?_⟩;exists 1,0;rfl';refine ⟨d,_,rfl,r,fun l b=>?_⟩;have e:(pcs P).map (fun p=>kV p.1)=P.map fun q=>V.str q.nm:=by unfold pcs; rw [cu]; rfl
 rw [e];exact k l _ b yc (ve b)
theorem Sto.names {H:Hp} {st:Addr} {C:Cf} {P:List Pd} {X:Sx} {Q:VK} {E:XK} (h:Sto K a H st C P X) (k:∀ l H',H l=none->H' l=some (.lst (P.map fun q=>V.str q.nm))->yx H H'->Q (.ref l) H'):Ť a [.ref st] H Q E:=by
 obtain ⟨e,i,d,c,m,p,n,t,j,o,b,L,r,U,s,rfl,rfl⟩:=h;refine ⟨st,e,d,_,_,_,b,rfl,s.me,s.pz.dk,s.pz.z,fun l H' g f S=>k l H' g ?_ S⟩;rw [cu];exact f
theorem ywm:yk ["self","text"] ["self","text"] (yg yrl):=wv (by right)
inductive yh7 (a:Ads) (vs:List V) (H:Hp) (Q:VK) (E:XK):Prop
 | mk (st ds tx:Addr) (vl vp vc:V) (mo:Int) (xs:List V):(vs=[.ref st,.ref tx])->(H st=some (.ins a.A0 ds (xf vl (.int mo) vp vc)))->(H tx=some (.lst xs))->(((xs.length:Int) <= mo->Q .non H))->((¬ (xs.length:Int) <= mo->E (.ref a.An) none H))->yh7 a vs H Q E
theorem yyg (T:Txt K mg a):wb P w K mg base (CXe P w) 1 a.Mu a.Mv ["self","text"] (yh7 a):=by
 exists T.Ia.F.okE,ywm,t;obtain ⟨i,f,m,o,g,p,n,l,rfl,q,c,j,r⟩:=h;refine ⟨_,(yf (wa (yy yf3 (yq y6 rfl T.Ah (by right) (yb (pv 1) ye (ya rfl))) (yp (pv 0) rfl) (vd _)) (yf (w8 rfl T.Ob T.Dr (yb wd ye (ya rfl)))) y9)),?_⟩;exists 2,0;rfl';refine zt (SqL.of c) ?_;rfl';refine za (fun k=>?_) (fun k=>?_)
 .rfl';exact ⟨by walk_at "len",r (by omega)⟩
 .exact j (by omega)
theorem yw4:yk ["self","name"] ["self","name"] (yg ytb):=wv (by right)
inductive ymf (K:W.Frag) (a:Ads) (vs:List V) (H:Hp) (Q:VK) (E:XK):Prop
 | mk (st ds d:Addr) (vl vm vc:V) (n:Nat) (kd:Nat->Fin 3) (ps:Nat->List Int) (w:Nat) (P:List Pc) (x:V) (nt:String):(vs=[.ref st,x])->(H st=some (.ins a.A0 ds (xf vl vm (.ref d) vc)))->(ŋ a H d n kd ps w P)->(xr K H x (.type nt))->((∀ s,x=.str s->s.length <= 100000))->((nmV x=false->∀ H',yx H H'->E (.ref a.A7) none H'))->((∀ b,x=.str b->nmS b=true->(∀ q,q∈P->q.nm≠b)->∀ H',yx H H'->E (.ref a.A2) none H'))->((∀ r,r∈P->x=.str r.nm->nmS r.nm=true->∀ H',yx H H'->Q (.ref r.ob) H'))->ymf K a vs H Q E
theorem Ň (T:Txt K mg a):wb P w K mg base (CXe P w) 3 a.My a.Mz ["self","name"] (ymf K a):=by
 exists T.Bu.F.okE,yw4,j;obtain ⟨u,R,d,y,N,G,n,J,z,w,P,x,o,rfl,k,C,D,I,v,M,S⟩:=h;refine ⟨_,(yh (wa (ybh (ć (u8 j) (vo (yi8 T) (j.mono (by decide)) rfl T.Co.m T.Co.F.kp T.Co.B .nil y0 (yb (pv 1) ye (ya rfl))) (yp (pv 0) rfl))) (yf (w8 rfl T.Dq T.Dt (yb wd ye (ya rfl)))) y9) (yf (yu (x9 (u8 j) (yp (pv 0) rfl) (pv 1) (fun _ _=>rfl))))),?_⟩;exists 2,0;rfl';refine ⟨x,o,rfl,D,I,fun g p f=>?_,fun g p f=>v g p f⟩;obtain ⟨b,rfl,l⟩:=yu6 g;have q:=f _ _ k;have c:=C.same f;rfl';rcases yy1 P b with ⟨r,e,rfl⟩ | t
 .refine ⟨d,_,rfl,c.get e,?_⟩;refine ⟨false,rfl,Ę ?_⟩;rfl';refine ⟨d,_,rfl,c.get e,?_⟩;exact S r e rfl l _ f
 .refine ⟨d,_,rfl,c.getNo t,?_⟩;refine ⟨true,rfl,ħ ?_⟩;rfl';exact ⟨by walk_at "len",M b rfl l t _ f⟩
theorem yw3:yk ["self","name","base"] ["self","name","base"] (yg yrn):=wv (by right)
inductive yie (K:W.Frag) (a:Ads) (vs:List V) (H:Hp) (Q:VK) (E:XK):Prop
 | mk (st ds d:Addr) (vl vm vc:V) (n:Nat) (kd:Nat->Fin 3) (ps:Nat->List Int) (w:Nat) (P:List Pc) (b:Str) (x:Option Str):(vs=[.ref st,.str b,baV x])->(H st=some (.ins a.A0 ds (xf vl vm (.ref d) vc)))->(ŋ a H d n kd ps w P)->((∀ y,x=some y->nmS y=true/\y.length <= 100000))->(((∃ r,r∈P/\r.nm=b)->E (.ref a.Ae) none H))->(((∀ q,q∈P->q.nm≠b)->(∀ y,x=some y->(∀ q,q∈P->q.nm≠y)->∀ H',yx H H'->E (.ref a.A2) none H')/\(∀ L,To P x L->(P.length=60->∀ H',yx H H'->E (.ref a.Cs) none H')/\(P.length≠60->∀ H',yx H H'->Q .non H'))))->yie K a vs H Q E
theorem yxl (T:Txt K mg a):wb P w K mg base (CXe P w) 4 a.Mw a.Mx ["self","name","base"] (yie K a):=by
 exists T.Ib.F.okE,yw3,N;obtain ⟨u,M,d,C,J,G,n,I,D,w,P,b,x,rfl,g,f,X,R,Y⟩:=h;refine ⟨_,(yh (wa (ybh (yua (u8 N) (pv 1) (yp (pv 0) rfl))) (yf (w8 rfl T.Nz T.Gv (yb wd ye (ya rfl)))) y9) (yh (wa (yy ű (pv 2) uk (vd _)) (yf (yt (vi (pv 0) T.A3 T.Bu.m (Ň T) (N.mono (by decide)) T.Bu.B .nil y0 (yb (pv 2) ye (ya rfl))))) y9) (yf (wa (yy x0 (yq yas rfl T.Ah (by right) (yb (yp (pv 0) rfl) ye (ya rfl))) (vt rfl T.Fg) (vd _)) (yf (w8 rfl T.Qj T.Ix (yb wd ye (ya rfl)))) y9)))),?_⟩;exists 3,0;rfl';rcases yy1 P b with ⟨r,c,rfl⟩ | O
 .refine ⟨d,_,rfl,f.get c,?_⟩;refine ⟨true,rfl,ħ ?_⟩;rfl';exact ⟨by walk_at "len",R ⟨r,c,rfl⟩⟩
 .refine ⟨d,_,rfl,f.getNo O,?_⟩;refine ⟨false,rfl,Ę ?_⟩;obtain ⟨k3,v⟩:=Y O;have a0:(pcs P).length=P.length:=bH _;rfl'
  cases x with
  | none =>
   refine ylv (fun _=>?_) (fun z=>absurd rfl z);obtain ⟨k,l⟩:=v [] rfl;rfl';refine ⟨d,_,rfl,f.dk,?_⟩;rfl';refine za (fun j=>?_) (fun j=>?_)
   .rfl';exact ⟨by walk_at "len",k (by omega) _ (yx.refl _)⟩
   .rfl';exact l (by omega) _ (yx.refl _)
  | some y =>
   refine ylv (fun z=>nomatch z) (fun _=>?_)
   obtain ⟨t,p⟩:=X y rfl;rfl';refine ⟨u,M,d,C,J,G,n,I,D,w,P,.str y,"str",rfl,g,f,.str y,(fun s e=>by cases e; exact p),(fun z=>by rw [show nmV (.str y)=nmS y from rfl,t] at z; cases z),(fun b e _ o U S=>by cases e; exact k3 y rfl o U S),fun r c e _ H1 i=>?_⟩;obtain rfl:y=r.nm:=by cases e; rfl
   obtain ⟨k,l⟩:=v _ ⟨r,c,rfl,rfl⟩;have L:=i _ _ g;rfl';refine ⟨d,_,rfl,i _ _ f.dk,?_⟩;rfl';refine za (fun j=>?_) (fun j=>?_)
   .rfl';exact ⟨by walk_at "len",k (by omega) _ i⟩
   .rfl';exact l (by omega) _ i
theorem yjh:yk ["self","name","links"] ["self","name"] (yg yra):=wv (by right)
inductive ydy (a:Ads) (vs:List V) (H:Hp) (Q:VK) (E':XK):Prop
 | mk (st ds d:Addr) (vl vm vc:V) (n:Nat) (kd:Nat->Fin 3) (ps:Nat->List Int) (w:Nat) (P:List Pc) (x:Option Str) (L:List (Str × List Int)):(vs=[.ref st,baV x])->(H st=some (.ins a.A0 ds (xf vl vm (.ref d) vc)))->(ŋ a H d n kd ps w P)->(To P x L)->(∀ (l:Addr) (H':Hp),H l=none->H' l=some (.lst (nmL L))->yx H H'->Q (.ref l) H')->ydy a vs H Q E'
theorem yn4 (T:Txt K mg a):wb P w K mg base CX0 1 a.N0 a.N2 ["self","name"] (ydy a):=by
 exists T.Em.F.ok,yjh,hr;obtain ⟨J,ds,d,W,vm,Y,n,Z,X,w,P,x,L,rfl,v,B,U,k⟩:=h;refine ⟨_,(yh (yw (i:=2) yjh.nd rfl (Or.inl rfl) (xx ye)) (yh (zf PassesOwn.never (yy ű (pv 1) uk (vd _)) (yh (yt (ĕ PySem.F.plainAttrs_list PySem.F.slot_list_append PySem.F.type_list_append xi (pv 2) (yb (pv 1) ye (ya rfl)))) (yf (yw (i:=1) yjh.nd rfl (Or.inl rfl) (yp (x9 (u8 hr) (yp (pv 0) rfl) (pv 1) (fun _ _=>rfl)) rfl))))) (yh (yt (yjg PySem.F.plainAttrs_list PySem.F.slot_list_reverse PySem.F.type_list_reverse İ (pv 2))) (yf (yu (pv 2)))))),?_⟩;exists 2,1;rfl';refine ⟨by walk_at "len",fun l g=>?_⟩;rfl'
 refine ⟨fun m σ' G=>∃ (y:Option Str) (R S:List (Str × List Int)),σ'=[some (.ref J),some (baV y),some (.ref l)]/\To P y R/\R++S=L/\G l=some (.lst (nmL S).reverse)/\yx H G/\m=R.length,
  ⟨_,x,L,[],rfl,U,dm L,yc,ve g,rfl⟩,?_⟩
 rintro m σ2 G ⟨y,R,S,rfl,M,j,c,C,rfl⟩;have N:=C _ _ v;have a2:=B.same C;have D:=To.len B U;have a3:S.length <= 61:=by rw [<- j,bP] at D; omega
 rfl'
 cases y with
 | none =>
  refine ylv (fun _=>?_) (fun z=>absurd rfl z);have e:S=L:=by rw [show R=[] from M] at j; exact j
  rfl';refine Ì c ?_;rfl';refine ya8 c ?_;rw [List.reverse_reverse,e];rfl';exact k l _ g yc fun b o z=>yj (yd z g) (C _ _ z)
 | some b =>
  refine ylv (fun z=>nomatch z) (fun _=>?_)
  obtain ⟨r,p,rfl,u⟩:=M;refine ⟨_,fun σ' H' z=>z,?_⟩;rfl';refine Ì c ?_;rfl';refine x5 c (vq (by unfold nmL; rw [List.length_reverse,bH]; omega)) ?_;have f:yx H (upd G l (HO.lst ((nmL S).reverse++[baV (some r.nm)]))):=fun b o e=>yj (yd e g) (C _ _ e);have t:upd G l (HO.lst ((nmL S).reverse++[baV (some r.nm)])) l=some (HO.lst ((nmL S).reverse++[baV (some r.nm)])):=yc;generalize upd G l (HO.lst ((nmL S).reverse++[baV (some r.nm)]))=G' at f t ⊢;have O:=f _ _ v;have q:=B.same f;have a0:=(q.ob r p).1;rfl';refine ⟨d,_,rfl,q.get p,?_⟩;rfl';refine ⟨r.path.length,?_,r.bs,r.path,(r.nm,r.tx) :: S,rfl,B.wf r p,?_,?_,f,rfl⟩
  .rw [u,bP,cI];omega
  .rw [<- j,u,cJ];rfl
  .rw [yqh];exact t
theorem yiq:yk ["self","name","links","link"] ["self","name"] (yg ysz):=wv (by right)
inductive ĳ (K:W.Frag) (a:Ads) (vs:List V) (H:Hp) (Q:VK) (E':XK):Prop
 | mk (st ds ll d c dc p cl ct:Addr) (lk tp:Nat->Addr) (n:Nat) (kd:Nat->Fin 3) (ps:Nat->List Int) (mo w:Nat) (P:List Pc) (L:List (Str × List Int)) (ks:List V) (U:Addr->Prop) (x:Option Str) (L':List (Str × List Int)):(vs=[.ref st,baV x])->(zl K a H st ds ll d c dc p cl ct lk tp n kd ps mo w P L ks U)->(To P x L')->(∀ (c' dc' p' cl' ct':Addr) (ks':List V) (U':Addr->Prop) (H':Hp),zl K a H' st ds ll d c' dc' p' cl' ct' lk tp n kd ps mo w P L' ks' U'->Go (StO st c cl ct U) H H' (StO st c' cl' ct' U')->NK H ks ks'->(V.non∈ks'->V.non∈ks.take L'.length)->Q (.ref c') H')->ĳ K a vs H Q E'
theorem ymg (T:Txt K mg a):wb P w K mg base (CXe P w) 12 a.N3 a.N4 ["self","name"] (ĳ K a):=by
 exists T.En.F.okE,yiq,hr;obtain ⟨O,ds,ll,d,c,dc,p,cl,ct,lk,tp,n,kd,ps,mo,w,P,L,ks,U,x,t,rfl,N,hL,k⟩:=h;have aa:=N.me;refine yo (yw (i:=2) yiq.nd rfl (Or.inl rfl) (xl (pv 0) T.A3 T.Em.m (yn4 T) (hr.mono (by decide)) T.Em.B .nil vg (yb (pv 1) ye (ya rfl)))) ?_;refine yo (zz (wa (yy (Ņ hr.units) (yp (yp (pv 0) rfl) rfl) (xz jy (pv 2) uo (uq (yq y6 rfl T.Ah (by right) (yb (yp (yp (pv 0) rfl) rfl) ye (ya rfl))))) (vd _)) (yf (vh (pv 0) (uf T.E5 (ye0 T) (hr.mono (by decide)) rfl T.E4 T.Dd.B .nil y0 (yb (yp (pv 0) rfl) ye (ya rfl))) rfl)) y9)) ?_;refine yo (PS.nox (z0 PassesOwn.never rfl (w9 (xz jy (pv 2) (uq (yq y6 rfl T.Ah (by right) (yb (yp (yp (pv 0) rfl) rfl) ye (ya rfl)))) uo)) (w6 (i:=3) yiq.nd rfl (Or.inl rfl)) (yf (yt (vi (yp (pv 0) rfl) T.As T.I9.m (yxu T) (hr.mono (by decide)) T.I9.B .nil wc (yb (pv 3) (yb (yp (x9 (u8 hr) (yp (pv 0) rfl) (pv 3) (fun _ _=>rfl)) rfl) (yb (yp (pv 0) rfl) ye (ya rfl)) (ya rfl)) (ya rfl))))))) ?_;refine ⟨_,(yf (yu (yp (pv 0) rfl))),?_⟩;exists 2,2;rfl';refine ⟨O,ds,d,_,_,_,n,kd,ps,w,P,x,t,rfl,aa,N.pz,hL,fun l H1 aB a9 S1=>?_⟩;have ar:=S1 _ _ aa;have ae:=N.same S1;have aA:=ae.ch.me;have a7:=ae.ch.hl;obtain ⟨y,hy⟩:=N.way;have aw:=To.len N.pz hL;have ax:=To.len N.pz hy;refine ⟨fun σ2 G=>∃ (S R p2 j f:Addr) (I:List V) (U2:Addr->Prop) (C:List (Str × List Int)),σ2=[some (.ref O),some (baV x),some (.ref l),none]/\zl K a G O ds ll d S R p2 j f lk tp n kd ps mo w P C I U2/\Go (StO O c cl ct U) H G (StO O S j f U2)/\C=t.take C.length/\C.length <= t.length/\G l=some (.lst (nmL t))/\NK H ks I/\(V.non∈I->V.non∈ks.take t.length),?_,?_⟩
 .rfl';refine zt (SqL.of a7) ?_;rfl';refine yc1 (SqL.of a9) fun q hq0=>?_;rw [jz,z9,å]
  with_reducible first | refine y7 hq0 fun H2 S2 e2=>?_ | refine vk hq0 fun H2 S2 e2=>?_
  have a5:=S1.trans S2;have J:=N.same a5;have a4:=J.me;have Y:=S2 _ _ a9;rw [Ë] at e2;have a3:=J.ch.hl;rw [Ë] at a3;refine yiy _ _ (hy.ok N.pz) (fun z hz=>hL.ok N.pz z (by obtain ⟨u,hu,rfl⟩:=bM.mp hz; exact bM.mpr ⟨u,cP hu,rfl⟩)) (SqL.of a3) (SqL.of e2) ?_;by_cases he:L.map (·.1)=(t.take L.length).map (·.1)
  .rw [bR he];refine ⟨false,rfl,Ę ?_⟩;have e3:=To.ahead N.pz.nd N.pz.wf hy hL (by rw [å]; exact ymh he);have e4:=congrArg List.length e3;rw [cg] at e4;exact ⟨c,dc,p,cl,ct,ks,U,L,rfl,J,Go.refl.same a5,e3,by omega,Y,.refl,fun z=>by rw [cL (by rw [N.ch.tx.len]; omega)]; exact z⟩
  .rw [bV he];refine ⟨true,rfl,ħ ?_⟩;rfl';intro c' a2 nc a6 aE;have SQ:yx H2 (upd (upd H2 a2 (.own c')) c' (.ins a.A1 a2 [])):=fun b o e=>by rw [ym (yd e nc),ym (yd e a6)]; exact e
   refine ⟨c',a2,ll,n,lk,tp,kd,ps,rfl,yc,SQ _ _ J.lo,J.n1,J.n6,J.row.same SQ,fun p' an ag U' HE a1 ac BE _=>⟨rfl,?_⟩⟩;obtain ⟨hR,gR,SE,hN⟩:=J.re nc a6 a1 ac BE;have as:=SE _ _ a4;rfl'
   exact ⟨c',a2,p',an,ag,[],U',[],rfl,hR,gR.ahead a5,rfl,cb _,yj (fun z=>by rw [z,a4] at Y; cases Y) (SE _ _ Y),.nil,fun z=>nomatch z⟩
 .rintro σ2 G ⟨S,R,p2,j,f,I,U2,C,rfl,hG,go,ai,am,ao,aq,af⟩;have av:=hG.me;have az:=hG.ch.me;have ab:=hG.ch.hl;rfl';refine zt (SqL.of ab) ?_;rfl';refine yc1 (SqL.of ao) fun q hq0=>?_;rw [jz,ykx];have S1:=ve (o:=(HO.lst ((nmL t).drop C.length))) hq0;have e1:upd G q (HO.lst ((nmL t).drop C.length)) q=some (HO.lst ((nmL t).drop C.length)):=yc;generalize upd G q (HO.lst ((nmL t).drop C.length))=G1 at S1 e1 ⊢
  have ak:∀ W F,Go (StO O S j f U2) G1 F (StO O S j f W)->zl K a G O ds ll d S R p2 j f lk tp n kd ps mo w P C I U2->F q=some (HO.lst ((nmL t).drop C.length)):=fun W F g hG=>g.fr _ _ e1 fun w=>by
   obtain ⟨o,e⟩:=hG.lvO q w;rw [hq0] at e;cases e
  refine ⟨q,rfl,⟨_,SqL.of e1⟩,jd (K:=K) (a:=q) (xs:=(nmL t).drop C.length) (fun i σ2 F=>∃ (v:Option V) (M:List V) (W:Addr->Prop),σ2=[some (.ref O),some (baV x),some (.ref l),v]/\zl K a F O ds ll d S R p2 j f lk tp n kd ps mo w P (t.take (C.length+i)) M W/\Go (StO O S j f U2) G1 F (StO O S j f W)/\NK G1 I M/\(V.non∈M->V.non∈I)) ?_ ?_ ?_ ?_⟩
  .rw [Nat.add_zero,<- ai];exact ⟨none,I,U2,rfl,hG.same S1,Go.refl,.refl,id⟩
  .rintro i σ2 F _ ⟨v,M,W,rfl,D,g,X,a0⟩;exact SqL.of (ak W F g hG)
  .rintro i z σ2 F hz ⟨v,M,W,rfl,D,g,X,a0⟩
   have hj:C.length+i < t.length:=by
    rcases Nat.lt_or_ge (C.length+i) t.length with z | z
    .exact z
    .rw [cC (by rw [c7,jz]; omega)] at hz;cases hz
   obtain ⟨r,Z,e3,e4,e5⟩:=hL.at' N.pz.wf hj
   obtain rfl:z=.str r.nm:=by
    rw [List.getElem?_drop,Ë,cu,bN,bJ hj,e3] at hz;cases hz;rfl
   have ad:=D.me;have aD:=D.ch.me;obtain ⟨au,a8⟩:=D.pz.ob r Z;rfl';refine ⟨d,_,rfl,D.pz.get Z,?_⟩;rfl';have al:=D.pz.sz r Z;have hb:=D.wm;have hm:=ymb (L:=t.take (C.length+i)) (w:=w) (fun y hy=>(hL.sz N.pz y (cP hy)).2) hb.2 (by rw [cg]; omega);have ah:=D.mo1;have ay:=ylb (n:=n) (kd:=kd) (ps:=ps) (pre:=æ ((t.take (C.length+i)).map (·.2))) (ts:=r.tx) D.n1 D.n6 (ý _) (by omega);refine ⟨S,R,p2,j,f,n,kd,ps,t.take (C.length+i),M,mOf (t.take (C.length+i)),W,r.dl,r.nm,r.tx,[],mo,rfl,D.ch,by rw [cg]; omega,al.1,?_,fun w=>D.nw r.dl (.inr (.inr (.inr ⟨r,Z,.inr rfl⟩))) (.inr (.inr (.inr w))),(fun b hb=>by cases hb),by rw [dm]; omega,by omega,ah,by omega,fun q3 U4 F2 ap a1 g2=>?_⟩
   .rw [dm,<- e4];exact a8
   rw [<- yd6,<- e3,<- cB hj] at a1;obtain ⟨h4,g4⟩:=D.go a1 g2 ⟨_,e5⟩;rfl';exact ⟨_,_,U4,rfl,h4,g.trans g4,X.app (fun q e=>by cases e; exact g.free ap),fun z=>a0 ((cr.mp z).elim id fun y=>by cases bZ.mp y)⟩
  .rintro σ2 F ⟨v,M,W,rfl,D,g,X,a0⟩;rw [c7,jz,Nat.add_sub_cancel' am,c6] at D;have ad:=D.me;rfl';exact k S R p2 j f M W F D (go.trans (g.ahead S1)) (aq.trans X fun q e=>go.free (S1.free e)) fun z=>af (a0 z)
theorem À.lvW {H:Hp} {c ll:Addr} {n:Nat} {kd:Nat->Fin 3} {ps:Nat->List Int} {ks:List V} {M:Nat} {W:Addr->Prop} (h:À K a H c dc p ll tl n kd ps L ks M W):∀ x,StW c ll tl W x->∃ o,H x=some o:=fun x b=>by
 rcases b with z | z | z | z
 .exact ⟨_,by rw [z]; exact h.me⟩
 .exact ⟨_,by rw [z]; exact h.hl⟩
 .exact ⟨_,by rw [z]; exact h.ht⟩
 .exact h.fz.live x z
theorem À.butM {H H':Hp} {c ll:Addr} {n:Nat} {kd:Nat->Fin 3} {ps:Nat->List Int} {ks:List V} {M:Nat} {W:Addr->Prop} (h:À K a H c dc p ll tl n kd ps L ks M W) {o:HO} (hq:H q=some o) (ho:ytr o=true) (nq:¬ StW c ll tl W q) (B:But q H H'):À K a H' c dc p ll tl n kd ps L ks M W:=by
 have b:∀ {x:Addr} {d:List V},H x=some (.lst d)->x≠q:=fun {x d} e z=>by rw [z,hq] at e; cases e; cases ho
 exact ⟨B _ _ h.me fun z=>nq (.inl z.symm),h.fz.frame (W2:=fun x=>x=q) (fun x z=>⟨o,by rw [show x=q from z]; exact hq,.inl ho⟩) (fun x w z=>nq (.inr (.inr (.inr (by rw [<- show x=q from z]; exact w))))) (fun x o e g=>B x o e g),B _ _ h.hl (b h.hl),B _ _ h.ht (b h.ht),h.tx.mono fun x d e f=>⟨B _ _ e (b e),f⟩,h.nc,h.nll,h.ntl,h.ne⟩
theorem To.more {P:List Pc} {q:Pc} {x:Option Str} (h:To P x L):To (P++[q]) x L:=by
 cases x with
 | none=>exact h
 | some b =>
  obtain ⟨r,a,e⟩:=h;exact ⟨r,db _ a,e⟩
section
variable {H H1 H2 H3:Hp} {st ll d c cl ct:Addr} {lk:Nat->Addr} {n:Nat} {kd:Nat->Fin 3} {ps:Nat->List Int} {mo w:Nat} {P:List Pc} {ks ks':List V}
theorem zl.put (h:zl K a H st ds ll d c dc p cl ct lk tp n kd ps mo w P L ks U) {b:Str} {x:Option Str} {r ob od:Addr} (hc:À K a H1 c dc p cl ct n kd ps (L++[(b,ts)]) ks' (mOf L+6 * (dec ts).length) U') (g:Go (ChW cl ct U) H H1 (ChW cl ct U')) (hr0:H r=none) (hr:H1 r=some (.lst ((Ö n kd ps (æ (L.map (·.2))) ts).map V.int))) (hob0:H1 ob=none) (S:yx H1 H2) (hob:H2 ob=some (.ins a.Aa od (Ċ (baV x) (.ref r))))
  (hL:To P x L) (hL6:L.length <= 60) (hts:Sgs ts) (htz:ts.length <= w) (hb1:nmS b=true) (hb2:PyData.strOk b=true) (hno:∀ q,q∈P->q.nm≠b) (hP:P.length < 60) :
  zl K a (upd H2 d (.dK (pcs (P++[⟨b,x,L,ts,ob,od,r⟩])))) st ds ll d c dc p cl ct lk tp n kd ps mo w (P++[⟨b,x,L,ts,ob,od,r⟩]) (L++[(b,ts)]) ks' U'/\Go (fun y=>y=d\/StO st c cl ct U y) H (upd H2 d (.dK (pcs (P++[⟨b,x,L,ts,ob,od,r⟩])))) (fun y=>y=d\/StO st c cl ct U' y):=by
 have g1:Go (StW c cl ct U) H H1 (StW c cl ct U'):=g.or (Y:=fun x=>x=c);have f:∀ x o,H x=some o->(x=st\/x=ll\/x=d\/∃ q,q∈P/\(x=q.ob\/x=q.dl))->H2 x=some o:=fun x o e C=>S _ _ (g1.fr x o e (h.nw x C));have m:=f _ _ h.me (.inl rfl);have k:=f _ _ h.lo (.inr (.inl rfl));have j:=f _ _ h.pz.dk (.inr (.inr (.inl rfl)));have t:=g1.apart (fun x C=>h.lv x C) h.nw;have u:ue H2 n lk kd tp ps:=h.row.fr fun x G e=>S _ _ (g1.fr _ _ e (h.ch.noTup e));have A:À K a H2 c dc p cl ct n kd ps (L++[(b,ts)]) ks' (mOf (L++[(b,ts)])) U':=by rw [yd6]; exact hc.same S
 have B:¬ StW c cl ct U' ob:=fun z=>by
  obtain ⟨o,e⟩:=hc.lvW ob z;rw [hob0] at e;cases e
 have J:¬ StW c cl ct U' r:=fun z=>by
  rcases z with z | z | z | z
  .rw [z,h.ch.me] at hr0; cases hr0
  .rw [z,h.ch.hl] at hr0; cases hr0
  .rw [z,h.ch.ht] at hr0; cases hr0
  .exact hc.fz.sh.ints hr (ykc h.n1 h.n6 (ý _)) z
 refine ⟨⟨yj (fun z=>by rw [z,j] at m; cases m) m,h.n1,h.n6,yj (fun z=>by rw [z,j] at k; cases k) k,u.fr fun x G e=>yj (fun z=>by rw [z,j] at e; cases e) e,⟨yc,fun q i=>?_,?_,fun q i=>?_,fun q i=>?_,?_,fun q i=>?_⟩,A.butM j rfl (t d (.inr (.inr (.inl rfl)))) But.upd,fun y s=>?_,h.mo1,h.wm,⟨some b,_,bY _ (bZ.mpr rfl),rfl,rfl⟩⟩,⟨fun y o e F=>?_,fun y z=>?_,fun y o e=>?_⟩⟩
 .rcases cr.mp i with z | z
  .have D:=f _ _ (h.pz.ob q z).1 (.inr (.inr (.inr ⟨q,z,.inl rfl⟩)));have l:=f _ _ (h.pz.ob q z).2 (.inr (.inr (.inr ⟨q,z,.inr rfl⟩)));exact ⟨yj (fun z=>by rw [z,j] at D; cases D) D,yj (fun z=>by rw [z,j] at l; cases l) l⟩
  .obtain rfl:=bZ.mp z;have l:=S _ _ hr;exact ⟨yj (fun z=>by rw [show ob=d from z,j] at hob; cases hob) hob,yj (fun z=>by rw [show r=d from z,j] at l; cases l) l⟩
 .rw [cj];refine List.nodup_append.mpr ⟨h.pz.nd,(by simp),fun y s z E e=>?_⟩;obtain ⟨q,i,rfl⟩:=bM.mp s;rw [List.map_singleton,bZ] at E;exact hno q i (e.trans E)
 .rcases cr.mp i with z | z
  .exact (h.pz.wf q z).more
  .obtain rfl:=bZ.mp z;exact hL.more
 .rcases cr.mp i with z | z
  .exact h.pz.sz q z
  .obtain rfl:=bZ.mp z;exact ⟨hts,htz,hL6,fun y s=>hL.sz h.pz y s⟩
 .rw [bP,cI]; omega
 .rcases cr.mp i with z | z
  .exact h.pz.nm q z
  .obtain rfl:=bZ.mp z;exact ⟨hb1,hb2⟩
 .rcases s with z | z | z | ⟨q,i,z⟩
  .exact t y (.inl z)
  .exact t y (.inr (.inl z))
  .exact t y (.inr (.inr (.inl z)))
  .rcases cr.mp i with v | v
   .exact t y (.inr (.inr (.inr ⟨q,v,z⟩)))
   .obtain rfl:=bZ.mp v;rcases z with z | z
    .rw [z]; exact B
    .rw [z]; exact J
 .exact yj (fun z=>F (.inl z)) (S _ _ (g1.fr y o e fun z=>F (.inr (.inr z))))
 .rcases z with z | z | z
  .exact .inl (.inl z)
  .exact .inl (.inr (.inl z))
  .exact (g1.nw y z).imp (fun z=>.inr (.inr z)) id
 .obtain ⟨I,M⟩:=g1.lv y o e;by_cases z:y=d
  .exact ⟨_,by rw [z]; exact yc⟩
  .exact ⟨I,yj z (S _ _ M)⟩
end
theorem yim:yk ["self","name","text","base","signs","data"] ["self","name","text","base"] (yg yf2):=wv (by right)
inductive yej (K:W.Frag) (a:Ads) (vs:List V) (H:Hp) (Q:VK) (E:XK):Prop
 | mk (st ds ll d c dc p cl ct:Addr) (lk tp:Nat->Addr) (n:Nat) (kd:Nat->Fin 3) (ps:Nat->List Int) (mo w:Nat) (P:List Pc) (L:List (Str × List Int)) (ks:List V) (U:Addr->Prop) (b:Str) (x:Option Str) (tx:Addr) (ts:List Int):(vs=[.ref st,.str b,.ref tx,baV x])->(zl K a H st ds ll d c dc p cl ct lk tp n kd ps mo w P L ks U)->(nmS b=true)->(PyData.strOk b=true)->(Î H tx ts 1000)->((∀ y,x=some y->nmS y=true))->(P.length < 60)->((mo < ts.length->∀ H',yx H H'->E (.ref a.An) none H'))->((ts.length <= mo->(∃ r,r∈P/\r.nm=b)->∀ H',yx H H'->E (.ref a.Ae) none H'))->((ts.length <= mo->(∀ q,q∈P->q.nm≠b)->∀ y,x=some y->(∀ q,q∈P->q.nm≠y)->∀ H',yx H H'->E (.ref a.A2) none H'))->((ts.length <= mo->(∀ q,q∈P->q.nm≠b)->∀ L',To P x L'->ts.length <= w/\L'.length <= 60 /\
 ∀ (ob od dl c' dc' p' cl' ct':Addr) (ks':List V) (U':Addr->Prop) (H':Hp),zl K a H' st ds ll d c' dc' p' cl' ct' lk tp n kd ps mo w (P++[⟨b,x,L',ts,ob,od,dl⟩]) (L'++[(b,ts)]) ks' U'->H ob=none->H dl=none->Go (fun y=>y=d\/StO st c cl ct U y) H H' (fun y=>y=d\/StO st c' cl' ct' U' y)->NK H ks ks'->Q .non H'))->yej K a vs H Q E
theorem yin (T:Txt K mg a):wb P w K mg base (CXe P w) 13 a.Dw a.Ms ["self","name","text","base"] (yej K a):=by
 exists T.Qw.okE,yim,G;obtain ⟨O,ds,ll,d,c,dc,p,cl,ct,lk,tp,n,kd,ps,mo,w,P,L,ks,U,b,x,tx,ts,rfl,R,Z,ag,D,N,ah,kL,kT,kN,k⟩:=h;have ax:=R.me;refine yo (yt (vo (yi8 T) (G.mono (by decide)) rfl T.Co.m T.Co.F.kp T.Co.B .nil y0 (yb (pv 1) ye (ya rfl)))) ?_;refine yo (yw (i:=4) yim.nd rfl (Or.inl rfl) (vo (yjn T) (G.mono (by decide)) rfl T.Cr.m T.Cr.F.kp T.Cr.B .nil y0 (yb (pv 2) ye (ya rfl)))) ?_;refine yo (yt (vo (yyl T) (G.mono (by decide)) rfl T.Ge.m T.Ge.F.kp T.Ge.B .nil y0 (yb (pv 3) ye (ya rfl)))) ?_;refine yo (yt (vi (pv 0) T.A3 T.Ia.m (yyg T) (G.mono (by decide)) T.Ia.B .nil y0 (yb (pv 4) ye (ya rfl)))) ?_;refine yo (yt (vi (pv 0) T.A3 T.Ib.m (yxl T) (G.mono (by decide)) T.Ib.B .nil y0 (yb (pv 1) (yb (pv 3) ye (ya rfl)) (ya rfl)))) ?_;refine yo (yw (i:=5) yim.nd rfl (Or.inl rfl) (xl (vi (pv 0) T.A3 T.En.m (ymg T) (G.mono (by decide)) T.En.B .nil y0 (yb (pv 3) ye (ya rfl))) T.As T.I8.m (yu2 T) (G.mono (by decide)) T.I8.B .nil vg (yb (pv 1) (yb (pv 4) ye (ya rfl)) (ya rfl)))) ?_;refine ⟨_,(yf (Ŵ (u8 G) (yp (pv 0) rfl) (pv 1) (ycx T.Q0 (yw8 T) (G.mono (by decide)) rfl T.Pz T.Gf.B .nil vg (yb (pv 3) (yb (pv 5) ye (ya rfl)) (ya rfl))) rfl)),?_⟩;exists 4,2;have aA:=j4 Z;have C:∀ y,x=some y->nmS y=true/\y.length <= 8:=fun y e=>⟨N y e,j4 (N y e)⟩;have aj:=R.wm;have as:=R.mo1;rfl';refine ⟨.str b,"str",rfl,.str b,(fun s e=>by cases e; omega),fun _ H1 S1=>?_,fun z=>by rw [show nmV (.str b)=nmS b from rfl,Z] at z; cases z⟩;have f:=D.same S1;rfl';refine ⟨.ref tx,_,rfl,.lst f.l,.inr ⟨ts.map V.int,Þ f.l f.s (by have:=f.z; omega),fun sg H2 a4 a3 S2=>?_⟩⟩;rfl'
 have S:∃ nt,xr K H2 (baV x) (.type nt):=by
  cases x with
  | none=>exact ⟨_,.non⟩
  | some y=>exact ⟨_,.str y⟩
 obtain ⟨nt,S⟩:=S
 have ad:baV x=.non\/nmV (baV x)=true:=by
  cases x with
  | none=>exact .inl rfl
  | some y=>exact .inr (C y rfl).1
 refine ⟨baV x,nt,rfl,S,(fun s e=>?_),fun _ H3 S3=>?_,fun z1 z2=>absurd ad fun z=>z.elim z1 fun z=>by rw [z2] at z; cases z⟩
 .cases x with
  | none=>cases e
  | some y=>cases e; have:=(C _ rfl).2; omega
 have t:=S1.trans (S2.trans S3);have a6:=R.same t;have I:=a6.me;have M:=S3 _ _ a3;rfl';refine ⟨O,ds,sg,_,_,_,mo,_,rfl,I,M,fun j=>?_,fun z=>kL (by rw [bH] at z; omega) _ t⟩;have j:ts.length <= mo:=by rw [bH] at j; omega
 rfl';refine ⟨O,ds,d,_,_,_,n,kd,ps,w,P,b,x,rfl,I,a6.pz,(fun y e=>⟨(C y e).1,by have:=(C y e).2; omega⟩),(fun hx=>kT j hx _ t),fun v=>⟨fun y e af H4 S4=>kN j v y e af _ (t.trans S4),fun L' hL=>⟨fun z=>absurd z (by omega),fun _ H4 S4=>?_⟩⟩⟩;obtain ⟨ai,an,k⟩:=k j v L' hL;have u:=t.trans S4;have a7:=R.same u;have au:=a7.me;have J:=S4 _ _ M;rfl';refine ⟨O,ds,ll,d,c,dc,p,cl,ct,lk,tp,n,kd,ps,mo,w,P,L,ks,U,x,L',rfl,a7,hL,fun c' a8 p' a0 W ac U' H5 X g5 ap _=>?_⟩;have av:=X.ch.me
 have ab:¬ StO O c cl ct U sg:=fun z=>by
  obtain ⟨o,e⟩:=R.lvO sg z;rw [S1.free a4] at e;cases e
 have a1:=g5.fr _ _ J ab;have aa:¬ StO O c' a0 W U' sg:=fun z=>(g5.nw sg z).elim ab fun e=>by rw [J] at e; cases e
 have hm:=ymb (L:=L') (w:=w) (fun y hy=>(hL.sz R.pz y hy).2) aj.2 (by omega);have az:=x3 ts;have aw:=D.z;rfl';refine ⟨c',a8,p',a0,W,n,kd,ps,L',ac,mOf L',U',sg,b,ts,rfl,X.ch,by omega,⟨a1,D.s,by omega⟩,fun z=>aa (.inr (.inr (.inr (.inr z)))),by omega,fun r U6 H6 a5 al am g6=>?_⟩;have ao:=g6.fr _ _ X.me fun z=>X.nw O (.inl rfl) (.inr z);have ae:=g6.fr _ _ X.pz.dk fun z=>X.nw d (.inr (.inr (.inl rfl))) (.inr z);rfl';intro ob od g a9 ay;have SQ:yx H6 (upd (upd H6 od (.own ob)) ob (.ins a.Aa od [])):=fun b o e=>by rw [ym (yd e g),ym (yd e a9)]; exact e
 refine ⟨ob,od,baV x,.ref r,rfl,yc,fun H7 a2 B7=>⟨rfl,?_⟩⟩;have S7:yx H6 H7:=fun y o e=>B7 _ _ (SQ _ _ e) (yd e g);have ar:=S7 _ _ ao;rfl';refine ⟨d,_,rfl,yjq.k (k:=.inr b) (S7 _ _ ae) (vq (by unfold pcs; rw [bH]; omega)),?_⟩;rw [â _ (yoi v)];obtain ⟨z1,z2⟩:=X.put (x:=x) am g6 a5 al g S7 a2 hL an D.s ai Z ag v ah;have e8:pcs (P++[⟨b,x,L',ts,ob,od,r⟩])=pcs P++[(.inr b,.ref ob)]:=by unfold pcs; rw [cj]; rfl
 rw [e8] at z1 z2;have aq:∀ {y:Addr},H6 y=none->H y=none:=fun {y} e=>u.free (g5.free (g6.free e))
 exact k ob od r c' a8 p' a0 W _ U6 _ z1 (aq g) (u.free (g5.free a5)) (((g5.ahead u).or (Y:=fun y=>y=d)).trans z2) ((NK.refl.trans ap fun _ e=>u.free e).app fun q e=>nomatch e)
theorem Sto.putE {H:Hp} {st:Addr} {C:Cf} {P:List Pd} {X:Sx} {Q:VK} {E:XK} (h:Sto K a H st C P X) {b:Str} {x:Option Str} {tx:Addr} (hb:okN b) (htx:Î H tx ts 1000) (hx:∀ y,x=some y->nmS y=true) (hP:P.length < 60)
  (kL:C.mo < ts.length->∀ H',yx H H'->E (.ref a.An) none H') (kT:ts.length <= C.mo->(∃ r,r∈P/\r.nm=b)->∀ H',yx H H'->E (.ref a.Ae) none H') (kN:ts.length <= C.mo->(∀ q,q∈P->q.nm≠b)->∀ y,x=some y->(∀ q,q∈P->q.nm≠y)->∀ H',yx H H'->E (.ref a.A2) none H')
  (k:ts.length <= C.mo->(∀ q,q∈P->q.nm≠b)->∀ L,ToD P x L->ts.length <= C.w/\L.length <= 60/\∀ Y H',Sto K a H' st C (P++[⟨b,x,L,ts⟩]) Y->Gx X H H' Y->Q .non H'):yej K a [.ref st,.str b,.ref tx,baV x] H Q E:=by
 obtain ⟨I,F,d,c,dc,p,cl,R,J,G,o,Z,ks,U,s,rfl,rfl⟩:=h;rw [bH] at hP
 have i:∀ {z:Str},(∀ q,q∈o->q.nm≠z)->∀ q,q∈o.map Pc.pd->q.nm≠z:=fun {z} hz q B=>by
  obtain ⟨u,hu,rfl⟩:=bM.mp B;exact hz u hu
 refine ⟨st,I,F,d,c,dc,p,cl,R,J,G,C.n,C.kd,C.ps,C.mo,C.w,o,Z,ks,U,b,x,tx,ts,rfl,s,hb.1,hb.2,htx,hx,hP,kL,(fun f ⟨r,hr,e⟩=>kT f ⟨r.pd,bM.mpr ⟨r,hr,rfl⟩,e⟩),(fun f t y e N=>kN f (i t) y e (i N)),fun f t L hL=>?_⟩;obtain ⟨M,k2,k⟩:=k f (i t) L (ŵ.mpr hL);refine ⟨M,k2,fun ob od dl S l p' D v j O H' s' A m g T=>k _ H' ⟨I,F,d,S,l,p',D,v,J,G,_,_,j,O,s',by rw [cj]; rfl,rfl⟩ (Gx.of g T fun q B=>?_)⟩;rcases cr.mp B with z | z
 .exact .inl z
 .rw [bZ.mp z];exact .inr ⟨A,m⟩
theorem Sto.put {H:Hp} {st:Addr} {C:Cf} {P:List Pd} {X:Sx} {Q:VK} {E:XK} (h:Sto K a H st C P X) {b:Str} {x:Option Str} {tx:Addr} (hb:okN b) (htx:Î H tx ts C.w) (hL:ToD P x L) (hno:∀ q,q∈P->q.nm≠b) (hP:P.length < 60)
  (k:∀ Y H',Sto K a H' st C (P++[⟨b,x,L,ts⟩]) Y->Gx X H H' Y->Q .non H'):yej K a [.ref st,.str b,.ref tx,baV x] H Q E:=by
 have m:=h.cf;have i:=htx.z
 have d:∀ y,x=some y->∃ r,r∈P/\r.nm=y:=fun y e=>by
  subst e;obtain ⟨r,c,e,_⟩:=hL;exact ⟨r,c,e⟩
 refine h.putE hb ⟨htx.l,htx.s,by omega⟩ (fun y e=>?_) hP (fun z=>absurd z (by omega)) (fun _ ⟨r,c,e⟩=>absurd e (hno r c)) (fun _ _ y e g=>?_) fun _ _ j f=>⟨i,?_,?_⟩
 .obtain ⟨r,c,e⟩:=d y e;rw [<- e];exact (h.nm r c).1
 .obtain ⟨r,c,e⟩:=d y e;exact absurd e (g r c)
 .have:=f.len h.pw;omega
 .rw [ToD.uniq h.nd f hL];exact k
theorem ybq.get {H:Hp} :∀ {L:List (Str × List Int)} {ks:List V},ybq H U L ks->∀ {j:Nat} (hj:j < L.length),∃ k,ks[j]?=some k/\(k=.non\/∃ q,k=.ref q/\H q=some (.lst (L[j].2.map V.int))/\¬ U q)
 | [],_,_,j,hj=>absurd hj (cw j)
 | x :: r,_,⟨k,ks',e,z,h⟩,0,hj=>⟨k,by rw [e]; rfl,z⟩
 | x :: r,_,⟨k,ks',e,z,h⟩,j+1,hj=>by
  obtain ⟨a,b,c⟩:=h.get (Nat.lt_of_succ_lt_succ hj);exact ⟨a,by rw [e,List.getElem?_cons_succ]; exact b,c⟩
theorem ymw:yk ["self","name","links"] ["self","name"] (yg yrr):=wv (by right)
inductive ĭ (K:W.Frag) (a:Ads) (vs:List V) (H:Hp) (Q:VK) (E':XK):Prop
 | mk (st ds ll d c dc p cl ct:Addr) (lk tp:Nat->Addr) (n:Nat) (kd:Nat->Fin 3) (ps:Nat->List Int) (mo w:Nat) (P:List Pc) (L:List (Str × List Int)) (ks:List V) (U:Addr->Prop) (x:Option Str) (L':List (Str × List Int)):(vs=[.ref st,baV x])->(zl K a H st ds ll d c dc p cl ct lk tp n kd ps mo w P L ks U)->(To P x L')->(∀ (c' dc' p' cl' ct':Addr) (L2:List (Str × List Int)) (ks':List V) (U':Addr->Prop) (r:Addr) (cx:Nat->Addr) (H1 H':Hp),zl K a H1 st ds ll d c' dc' p' cl' ct' lk tp n kd ps mo w P L2 ks' U'->Go (StO st c cl ct U) H H1 (StO st c' cl' ct' U')->NK H ks ks'->yx H1 H'->H1 r=none->H' r=some (.lst (refs cx L'.length))->(∀ i,i < L'.length->H1 (cx i)=none/\cx i≠r/\H' (cx i)=some (.lst ((txi L' i).map V.int)))->Q (.ref r) H')->ĭ K a vs H Q E'
theorem yn7 (T:Txt K mg a):wb P w K mg base (CXe P w) 13 a.N5 a.N6 ["self","name"] (ĭ K a):=by
 exists T.Eo.F.okE,ymw,hr;obtain ⟨I,ds,ll,d,c,dc,p,cl,ct,lk,tp,n,kd,ps,mo,w,P,L,ks,U,x,g,rfl,R,hL,k⟩:=h;have ah:=R.me;refine yo (yw (i:=2) ymw.nd rfl (Or.inl rfl) (xl (pv 0) T.A3 T.Em.m (yn4 T) (hr.mono (by decide)) T.Em.B .nil vg (yb (pv 1) ye (ya rfl)))) ?_;refine yo (zz (wa (yy (yup hr.units) uk (xz jy (yp (yp (pv 0) rfl) rfl) uo (uq (yq y6 rfl T.Ah (by right) (yb (pv 2) ye (ya rfl))))) (by with_unfolding_all rfl)) (yf (vh (pv 0) (uf T.E5 (ye0 T) (hr.mono (by decide)) rfl T.E4 T.Dd.B .nil y0 (yb (yp (pv 0) rfl) ye (ya rfl))) rfl)) y9)) ?_;refine yo (zz (wa (yy (Ņ hr.units) (xz jy (yp (yp (pv 0) rfl) rfl) uo (uq (yq y6 rfl T.Ah (by right) (yb (pv 2) ye (ya rfl))))) (pv 2) (vd _)) (yf (yt (vi (pv 0) T.A3 T.En.m (ymg T) (hr.mono (by decide)) T.En.B .nil y0 (yb (pv 1) ye (ya rfl))))) y9)) ?_;refine ⟨_,(yf (yu (we (js:=[]) (ys:=[]) rfl (w9 (xz jy (yp (yp (pv 0) rfl) rfl) uo (uq (yq y6 rfl T.Ah (by right) (yb (pv 2) ye (ya rfl)))))) (fun C s2 H2 fp=>(wt (r:=yo5 K) xp rfl T.Aq (by right) (yb (pv 0) ye (ya rfl)))) rfl rfl (hyc:=yv) (hrel:=yv)))),?_⟩;exists 2,1;rfl';refine ⟨I,ds,d,_,_,_,n,kd,ps,w,P,x,g,rfl,ah,R.pz,hL,fun l H1 ax af S1=>?_⟩;have aA:=S1 _ _ ah;have a8:=R.same S1;have aG:=a8.ch.me;have az:=a8.ch.hl;have aj:=a8.ch.ht;have aD:=To.len R.pz hL;refine ⟨fun σ2 G=>∃ (c2 a1 p2 M J:Addr) (N:List V) (U2:Addr->Prop) (L2:List (Str × List Int)),σ2=[some (.ref I),some (baV x),some (.ref l)]/\zl K a G I ds ll d c2 a1 p2 M J lk tp n kd ps mo w P L2 N U2/\Go (StO I c cl ct U) H G (StO I c2 M J U2)/\NK H ks N/\V.non∉N.take g.length/\G l=some (.lst (nmL g))/\¬ StO I c2 M J U2 l,?_,?_⟩
 .rfl';refine zt (SqL.of af) ?_;rfl';refine yc1 (SqL.of aj) fun q hq0=>?_;rw [jz,z9]
  with_reducible first | refine y7 hq0 fun H2 S2 e2=>?_ | refine vk hq0 fun H2 S2 e2=>?_
  have a0:=S1.trans S2;have v:=R.same a0;have W:=v.me;have t:=S2 _ _ af;refine ⟨q,_,rfl,rfl,SqL.of e2,fun z hz=>(R.ch.tx.mem z (cP hz)).imp id fun ⟨q,ys,e,hq,_⟩=>⟨q,ys,e,SqL.of (a0 _ _ hq)⟩,?_⟩;by_cases he:(ks.take g.length).any isN=true
  .rw [he];refine ⟨true,rfl,ħ ?_⟩;rfl';intro c' O nc aa aL;have SQ:yx H2 (upd (upd H2 O (.own c')) c' (.ins a.A1 O [])):=fun b o e=>by rw [ym (yd e nc),ym (yd e aa)]; exact e
   refine ⟨c',O,ll,n,lk,tp,kd,ps,rfl,yc,SQ _ _ v.lo,v.n1,v.n6,v.row.same SQ,fun p' a6 a5 U' HE aw am BE _=>⟨rfl,?_⟩⟩;obtain ⟨hR,gR,SE,hN⟩:=v.re nc aa aw am BE;have aB:=SE _ _ W;have ak:l≠I:=fun z=>by rw [z,W] at t; cases t
   rfl';refine ⟨c',O,p',a6,a5,[],U',[],rfl,hR,gR.ahead a0,.nil,by simp,yj ak (SE _ _ t),fun z=>?_⟩;rcases z with z | z
   .exact ak z
   .rw [hN l z] at t; cases t
  .rw [Bool.eq_false_iff.mpr he];refine ⟨false,rfl,Ę ?_⟩;refine ⟨c,dc,p,cl,ct,ks,U,L,rfl,v,Go.refl.same a0,.refl,fun z=>he (di.mpr ⟨_,z,rfl⟩),t,fun z=>?_⟩;obtain ⟨o,e⟩:=R.lvO l z;rw [ax] at e;cases e
 .rintro σ2 G ⟨c2,a1,p2,M,J,N,U2,L2,rfl,hG,go,ao,ab,an,ay⟩;have aC:=hG.me;have aF:=hG.ch.me;have ai:=hG.ch.hl;refine ⟨fun σ2 F=>∃ (c3 a7 p3 Z Y:Addr) (f:List V) (U3:Addr->Prop) (L3:List (Str × List Int)),σ2=[some (.ref I),some (baV x),some (.ref l)]/\zl K a F I ds ll d c3 a7 p3 Z Y lk tp n kd ps mo w P L3 f U3/\Go (StO I c cl ct U) H F (StO I c3 Z Y U3)/\NK H ks f/\V.non∉f.take g.length/\g=L3.take g.length/\F l=some (.lst (nmL g)),?_,?_⟩
  .rfl';refine zt (SqL.of an) ?_;rfl';refine yc1 (SqL.of ai) fun q hq0=>?_;rw [jz,z9,å]
   with_reducible first | refine y7 hq0 fun G2 S2 e2=>?_ | refine vk hq0 fun G2 S2 e2=>?_
   have a4:=hG.same S2;have W:=a4.me;have t:=S2 _ _ an;obtain ⟨y,hy⟩:=hG.way;have a3:=t;rw [Ë] at e2 a3;rfl';refine yiy _ _ (fun z hz=>hy.ok R.pz z (by obtain ⟨u,hu,rfl⟩:=bM.mp hz; exact bM.mpr ⟨u,cP hu,rfl⟩)) (hL.ok R.pz) (SqL.of e2) (SqL.of a3) ?_;by_cases he:(L2.take g.length).map (·.1)=g.map (·.1)
   .rw [bR he];refine ⟨false,rfl,Ę ?_⟩;exact ⟨c2,a1,p2,M,J,N,U2,L2,rfl,a4,go.same S2,ao,ab,To.ahead R.pz.nd R.pz.wf hL hy (by rw [å]; exact (ymh he).symm),t⟩
   .rw [bV he];refine ⟨true,rfl,ħ ?_⟩;rfl';refine ⟨I,ds,ll,d,c2,a1,p2,M,J,lk,tp,n,kd,ps,mo,w,P,L2,N,U2,x,g,rfl,a4,hL,fun c' O p' a6 a5 ap U' F hC X av hn=>?_⟩;rfl';exact ⟨c',O,p',a6,a5,ap,U',g,rfl,hC,(go.same S2).trans X,ao.trans av (fun q e=>go.free (S2.free e)),fun z=>ab (hn (cP z)),(c6).symm,X.fr _ _ t ay⟩
  .rintro σ2 F ⟨c3,a7,p3,Z,Y,f,U3,L3,rfl,hF,as,aq,ad,ac,ar⟩;have aE:=hF.me;have aJ:=hF.ch.me;have ag:=hF.ch.ht
   have aH:g.length <= L3.length:=by
    have e:=congrArg List.length ac;rw [cg] at e;omega
   rfl';refine zt (SqL.of ar) ?_;rfl';refine yc1 (SqL.of ag) fun q hq0=>?_;rw [jz,z9];have S1:=ve (o:=(HO.lst (f.take g.length))) hq0;have e1:upd F q (HO.lst (f.take g.length)) q=some (HO.lst (f.take g.length)):=yc;generalize upd F q (HO.lst (f.take g.length))=F1 at S1 e1 ⊢;have aK:=hF.ch.tx.len;have a2:(f.take g.length).length=g.length:=by rw [cg]; omega
   have a9:=hF.same S1;refine ⟨q,rfl,⟨_,SqL.of e1⟩,fun D hD=>?_⟩;refine ux (K:=K) (xs:=f.take g.length) (fun i G=>∃ cx:Nat->Addr,G D=some (.lst (refs cx i))/\(∀ j,j < i->F1 (cx j)=none/\G (cx j)=some (.lst ((txi g j).map V.int))/\cx j≠D)/\yx F1 G)
    ⟨fun _=>0,yc,fun j hj=>absurd hj (cw j),ve hD⟩ (fun i G _ ⟨_,_,_,S⟩=>SqL.of (S _ _ e1)) (fun i y G hy hi z=>?_) (fun G z=>?_)
   .obtain ⟨cx,gD,X,S⟩:=z;rw [a2] at hi;obtain ⟨k',ek,hk⟩:=a9.ch.tx.get (j:=i) (by omega);rw [List.getElem?_take,if_pos hi,ek] at hy;obtain rfl:k'=y:=by cases hy; rfl
    rcases hk with z | ⟨q2,rfl,ae,_⟩
    .refine absurd ?_ ad;rw [<- z];exact cc (i:=i) (by rw [List.getElem?_take,if_pos hi]; exact ek)
    have et:L3[i].2=txi g i:=by
     have e:=congrArg (fun l=>l[i]?) ac;simp only [List.getElem?_take] at e;rw [if_pos hi] at e;unfold txi;rw [cD,bN,e,bJ (by omega)];rfl
    rw [et] at ae;rfl';refine ⟨q2,_,rfl,.inl (SqL.of (S _ _ ae)),fun c hc0=>?_⟩;have nc:c≠D:=(yd gD hc0).symm
    with_reducible first | refine y7 hc0 fun G2 S2 hc2=>?_ | refine vk hc0 fun G2 S2 hc2=>?_
    refine xn (n:=(f.take g.length).length) (S2 _ _ gD) (vq (by rw [wg]; omega)) (by omega) ?_;refine ⟨upN cx i c,?_,fun j hj=>?_,fun b o e=>yj (yd e hD) (S2 _ _ (S b o e))⟩
    .rw [yc,uy,xj]
     congr 3
     exact uv fun j hj=>(xg hj).symm
    .by_cases z:j=i
     .rw [z,xj];exact ⟨S.free hc0,yj nc hc2,nc⟩
     .have al:j < i:=by omega
      rw [xg al];obtain ⟨g1,g2,g3⟩:=X j al;exact ⟨g1,yj g3 (S2 _ _ g2),g3⟩
   .obtain ⟨cx,gD,X,S⟩:=z;rw [a2] at gD X;exact k c3 a7 p3 Z Y L3 f U3 D cx F1 G a9 (as.same S1) aq S hD gD fun i hi=>⟨(X i hi).1,(X i hi).2.2,(X i hi).2.1⟩
theorem yw9:yk ["self","name"] ["self","name"] (yg yq9):=wv (by right)
inductive ε (K:W.Frag) (a:Ads) (vs:List V) (H:Hp) (Q:VK) (E:XK):Prop
 | mk (st ds ll d c dc p cl ct:Addr) (lk tp:Nat->Addr) (n:Nat) (kd:Nat->Fin 3) (ps:Nat->List Int) (mo w:Nat) (P:List Pc) (L:List (Str × List Int)) (ks:List V) (U:Addr->Prop) (x:V) (nt:String):(vs=[.ref st,x])->(zl K a H st ds ll d c dc p cl ct lk tp n kd ps mo w P L ks U)->(xr K H x (.type nt))->((∀ s,x=.str s->s.length <= 100000))->((nmV x=false->∀ H',yx H H'->E (.ref a.A7) none H'))->((∀ b,x=.str b->nmS b=true->(∀ q,q∈P->q.nm≠b)->∀ H',yx H H'->E (.ref a.A2) none H'))->((∀ r,r∈P->x=.str r.nm ->
 ∀ (c' dc' p' cl' ct':Addr) (L2:List (Str × List Int)) (ks':List V) (U':Addr->Prop) (q:Addr) (H1 H':Hp),zl K a H1 st ds ll d c' dc' p' cl' ct' lk tp n kd ps mo w P L2 ks' U'->Go (StO st c cl ct U) H H1 (StO st c' cl' ct' U')->NK H ks ks'->yx H1 H'->H1 q=none->H' q=some (.lst (r.tx.map V.int))->Q (.ref q) H'))->ε K a vs H Q E
theorem ynp (T:Txt K mg a):wb P w K mg base (CXe P w) 14 a.N7 a.N8 ["self","name"] (ε K a):=by
 exists T.Ep.F.okE,yw9,Y;obtain ⟨g,C,J,d,c,R,p,S,M,X,O,n,t,o,Z,w,P,L,ks,U,x,N,rfl,i,ty,hz,k1,k2,k3⟩:=h;have G:=i.me;refine ⟨_,(yh (yt (vi (pv 0) T.A3 T.Bu.m (Ň T) (Y.mono (by decide)) T.Bu.B .nil y0 (yb (pv 1) ye (ya rfl)))) (yf (yu (ud ur (vi (pv 0) T.A3 T.Eo.m (yn7 T) (Y.mono (by decide)) T.Eo.B .nil y0 (yb (pv 1) ye (ya rfl))) (yyz yn1 yi) (fun _ _=>rfl))))),?_⟩;exists 2,0;rfl';refine ⟨g,C,d,_,_,_,n,t,o,w,P,x,N,rfl,G,i.pz,ty,hz,k1,k2,fun r f e hb H1 q=>?_⟩;subst e;have b:=i.same q;have W:=b.me;rfl';refine ⟨g,C,J,d,c,R,p,S,M,X,O,n,t,o,Z,w,P,L,ks,U,some r.nm,r.path++[(r.nm,r.tx)],rfl,b,⟨r,f,rfl,rfl⟩,fun c' k p' I u L2 j U' l cx HB H2 h2 g2 nk SB a0 z D=>?_⟩;rfl';obtain ⟨f1,f2,f3⟩:=D r.path.length (by rw [bP,cI]; omega);refine Ĥ (v:=.ref (cx r.path.length)) (SqL.of z) ?_ ?_
 .rw [bP,cI,uy];exact yli _ _
 .rfl';refine k3 r f rfl c' k p' I u L2 j U' _ HB H2 h2 (g2.ahead q) (NK.refl.trans nk fun _ e=>q.free e) SB f1 ?_;rw [f3];unfold txi;simp
theorem Sto.textof1 {H:Hp} {st:Addr} {C:Cf} {P:List Pd} {X:Sx} {Q:VK} {E:XK} (h:Sto K a H st C P X) {b:Str} (hb:nmS b=true) (k1:(∀ q,q∈P->q.nm≠b)->∀ H',yx H H'->E (.ref a.A2) none H')
  (k2:∀ r,r∈P->r.nm=b->∀ Y q H1 H',Sto K a H1 st C P Y->Gx X H H1 Y->yx H1 H'->H1 q=none->H' q=some (.lst (r.tx.map V.int))->Q (.ref q) H'):ε K a [.ref st,.str b] H Q E:=by
 obtain ⟨A,t,d,c,O,p,R,F,B,v,M,J,ks,U,s,rfl,rfl⟩:=h;have L:=j4 hb;refine ⟨st,A,t,d,c,O,p,R,F,B,v,C.n,C.kd,C.ps,C.mo,C.w,M,J,ks,U,.str b,"str",rfl,s,.str _,(fun x e=>by cases e; omega),(fun z=>by rw [show nmV (.str b)=nmS b from rfl,hb] at z; cases z),(fun b' e _ k=>?_),fun r hr e G j Z o l L2 i D q H1 H' T g I S m f=>?_⟩
 .cases e;refine k1 fun q f=>?_;obtain ⟨u,N,rfl⟩:=bM.mp f;exact k u N
 .cases e;exact k2 r.pd (bM.mpr ⟨r,hr,rfl⟩) rfl _ q H1 H' ⟨A,t,d,G,j,Z,o,l,B,v,_,_,i,D,T,rfl,rfl⟩ (Gx.of (g.or (Y:=fun y=>y=d)) I fun q f=>.inl f) S m f
theorem Sto.textof {H:Hp} {st:Addr} {C:Cf} {P:List Pd} {X:Sx} {Q:VK} {E:XK} (h:Sto K a H st C P X) {b:Str} (hb:nmS b=true) (k1:(∀ q,q∈P->q.nm≠b)->∀ H',yx H H'->E (.ref a.A2) none H')
  (k2:∀ r,r∈P->r.nm=b->∀ Y q H',Sto K a H' st C P Y->Gx X H H' Y->H q=none->Kf H' Y q (.lst (r.tx.map V.int))->Q (.ref q) H'):ε K a [.ref st,.str b] H Q E :=
 h.textof1 hb k1 fun r i e Y q j H' d g1 S c f=>k2 r i e Y q H' (d.same S) (g1.same S) (g1.g.free c) (Kf.new d c f)
theorem yx1:yk ["self","name"] ["self","name"] (yg yrx):=wv (by right)
inductive Å (K:W.Frag) (a:Ads) (vs:List V) (H:Hp) (Q:VK) (E:XK):Prop
 | mk (st ds d:Addr) (vl vm vc:V) (n:Nat) (kd:Nat->Fin 3) (ps:Nat->List Int) (w:Nat) (P:List Pc) (x:V) (nt:String):(vs=[.ref st,x])->(H st=some (.ins a.A0 ds (xf vl vm (.ref d) vc)))->(ŋ a H d n kd ps w P)->(xr K H x (.type nt))->((∀ s,x=.str s->s.length <= 100000))->((nmV x=false->∀ H',yx H H'->E (.ref a.A7) none H'))->((∀ b,x=.str b->nmS b=true->(∀ q,q∈P->q.nm≠b)->∀ H',yx H H'->E (.ref a.A2) none H'))->((∀ r,r∈P->x=.str r.nm->nmS r.nm=true->∀ l H',H l=none->H' l=some (.lst ((r.by n kd ps).map V.int))->yx H H'->Q (.ref l) H'))->Å K a vs H Q E
theorem yl1 (T:Txt K mg a):wb P w K mg base (CXe P w) 4 a.N9 a.Na ["self","name"] (Å K a):=by
 exists T.Er.F.okE,yx1,O;obtain ⟨k,z,d,o,y,u,n,v,p,w,P,x,t,rfl,j,q,G,I,D,L,R⟩:=h;refine ⟨_,(yf (yu (wt xp rfl T.Aq (by right) (yb (yp (vi (pv 0) T.A3 T.Bu.m (Ň T) (O.mono (by decide)) T.Bu.B .nil y0 (yb (pv 1) ye (ya rfl))) rfl) ye (ya rfl))))),?_⟩;exists 2,0;rfl';refine ⟨k,z,d,o,y,u,n,v,p,w,P,x,t,rfl,j,q,G,I,D,L,fun r c e C S g=>?_⟩;obtain ⟨M,f⟩:=(q.same g).ob r c;rfl';refine ⟨r.dl,_,rfl,.inl (SqL.of f),fun l b=>?_⟩;exact R r c e C l _ (g.free b) yc (g.trans (ve b))
theorem Sto.bytesof {H:Hp} {st:Addr} {C:Cf} {P:List Pd} {X:Sx} {Q:VK} {E:XK} (h:Sto K a H st C P X) {b:Str} (hb:nmS b=true) (k1:(∀ q,q∈P->q.nm≠b)->∀ H',yx H H'->E (.ref a.A2) none H')
  (k2:∀ r,r∈P->r.nm=b->∀ l H',H l=none->H' l=some (.lst ((r.by C).map V.int))->yx H H'->Q (.ref l) H'):Å K a [.ref st,.str b] H Q E:=by
 obtain ⟨i,A,d,c,D,p,I,L,B,G,g,F,J,U,s,rfl,rfl⟩:=h;have o:=j4 hb;refine ⟨st,i,d,_,_,_,C.n,C.kd,C.ps,C.w,g,.str b,"str",rfl,s.me,s.pz,.str _,(fun x e=>by cases e; omega),(fun z=>by rw [show nmV (.str b)=nmS b from rfl,hb] at z; cases z),(fun y e _ f=>?_),fun r k e _ l H' v t S=>?_⟩
 .cases e;refine k1 fun q j=>?_;obtain ⟨u,m,rfl⟩:=bM.mp j;exact f u m
 .cases e;exact k2 r.pd (bM.mpr ⟨r,k,rfl⟩) rfl l H' v t S
theorem yvr:yk ["self","name"] ["self","name"] (yg yrj):=wv (by right)
inductive ÿ (K:W.Frag) (a:Ads) (vs:List V) (H:Hp) (Q:VK) (E:XK):Prop
 | mk (st ds d:Addr) (vl vm vc:V) (n:Nat) (kd:Nat->Fin 3) (ps:Nat->List Int) (w:Nat) (P:List Pc) (x:V) (nt:String):(vs=[.ref st,x])->(H st=some (.ins a.A0 ds (xf vl vm (.ref d) vc)))->(ŋ a H d n kd ps w P)->(xr K H x (.type nt))->((∀ s,x=.str s->s.length <= 100000))->((nmV x=false->∀ H',yx H H'->E (.ref a.A7) none H'))->((∀ b,x=.str b->nmS b=true->(∀ q,q∈P->q.nm≠b)->∀ H',yx H H'->E (.ref a.A2) none H'))->((∀ r,r∈P->x=.str r.nm->nmS r.nm=true->∀ H',yx H H'->Q (baV r.bs) H'))->ÿ K a vs H Q E
theorem ym3 (T:Txt K mg a):wb P w K mg base (CXe P w) 4 a.Nd a.Nf ["self","name"] (ÿ K a):=by
 exists T.Es.F.okE,yvr,L;obtain ⟨g,u,d,i,t,o,n,q,j,w,P,x,l,rfl,f,k,z,C,y,G,M⟩:=h;refine ⟨_,(yf (yu (yp (vi (pv 0) T.A3 T.Bu.m (Ň T) (L.mono (by decide)) T.Bu.B .nil y0 (yb (pv 1) ye (ya rfl))) rfl))),?_⟩;exists 2,0;rfl';refine ⟨g,u,d,i,t,o,n,q,j,w,P,x,l,rfl,f,k,z,C,y,G,fun r b e v N p=>?_⟩;have I:=((k.same p).ob r b).1;rfl';exact M r b e v _ p
theorem Sto.baseof {H:Hp} {st:Addr} {C:Cf} {P:List Pd} {X:Sx} {Q:VK} {E:XK} (h:Sto K a H st C P X) {b:Str} (hb:nmS b=true) (k1:(∀ q,q∈P->q.nm≠b)->∀ H',yx H H'->E (.ref a.A2) none H')
  (k2:∀ r,r∈P->r.nm=b->∀ H',yx H H'->Q (baV r.bs) H'):ÿ K a [.ref st,.str b] H Q E:=by
 obtain ⟨i,t,d,c,y,p,B,G,v,D,g,A,F,U,s,rfl,rfl⟩:=h;have m:=j4 hb;refine ⟨st,i,d,_,_,_,C.n,C.kd,C.ps,C.w,g,.str b,"str",rfl,s.me,s.pz,.str _,(fun x e=>by cases e; omega),(fun z=>by rw [show nmV (.str b)=nmS b from rfl,hb] at z; cases z),(fun o e _ f=>?_),fun r k e _ H' S=>?_⟩
 .cases e;refine k1 fun q j=>?_;obtain ⟨u,l,rfl⟩:=bM.mp j;exact f u l
 .cases e;exact k2 r.pd (bM.mpr ⟨r,k,rfl⟩) rfl H' S
theorem yyu:yk ["self","name"] ["self","name"] (yg yrd):=wv (by right)
inductive zv (K:W.Frag) (a:Ads) (vs:List V) (H:Hp) (Q:VK) (E:XK):Prop
 | mk (st ds ll d c dc p cl ct:Addr) (lk tp:Nat->Addr) (n:Nat) (kd:Nat->Fin 3) (ps:Nat->List Int) (mo w:Nat) (P:List Pc) (L:List (Str × List Int)) (ks:List V) (U:Addr->Prop) (x:V) (nt:String):(vs=[.ref st,x])->(zl K a H st ds ll d c dc p cl ct lk tp n kd ps mo w P L ks U)->(xr K H x (.type nt))->((∀ s,x=.str s->s.length <= 100000))->((nmV x=false->∀ H',yx H H'->E (.ref a.A7) none H'))->((∀ b,x=.str b->nmS b=true->(∀ q,q∈P->q.nm≠b)->∀ H',yx H H'->E (.ref a.A2) none H'))->((∀ r,r∈P->x=.str r.nm ->
 ∀ (c' dc' p' cl' ct':Addr) (L2:List (Str × List Int)) (ks':List V) (U':Addr->Prop) (q:Addr) (cx:Nat->Addr) (H1 H':Hp),zl K a H1 st ds ll d c' dc' p' cl' ct' lk tp n kd ps mo w P L2 ks' U'->Go (StO st c cl ct U) H H1 (StO st c' cl' ct' U')->NK H ks ks'->yx H1 H'->H1 q=none->H' q=some (.lst (refs cx r.path.length))->(∀ i,i < r.path.length->H1 (cx i)=none/\cx i≠q/\H' (cx i)=some (.lst ((txi r.path i).map V.int)))->Q (.ref q) H'))->zv K a vs H Q E
theorem yt7 (T:Txt K mg a):wb P w K mg base (CXe P w) 14 a.Ng a.Nh ["self","name"] (zv K a):=by
 exists T.Ic.F.okE,yyu,Z;obtain ⟨g,C,J,d,c,S,p,W,N,Y,R,n,t,o,mo,w,P,L,ks,U,x,O,rfl,i,ty,hz,k1,k2,k3⟩:=h;have G:=i.me;refine ⟨_,(yf (yu (vi (pv 0) T.A3 T.Eo.m (yn7 T) (Z.mono (by decide)) T.Eo.B .nil y0 (yb (yp (vi (pv 0) T.A3 T.Bu.m (Ň T) (Z.mono (by decide)) T.Bu.B .nil y0 (yb (pv 1) ye (ya rfl))) rfl) ye (ya rfl))))),?_⟩;exists 2,0;rfl';refine ⟨g,C,d,_,_,_,n,t,o,w,P,x,O,rfl,G,i.pz,ty,hz,k1,k2,fun r f e hb H1 q=>?_⟩;subst e;have b:=i.same q;have X:=b.me;have M:=(b.pz.ob r f).1;rfl';refine ⟨g,C,J,d,c,S,p,W,N,Y,R,n,t,o,mo,w,P,L,ks,U,r.bs,r.path,rfl,b,b.pz.wf r f,fun c' k p' I u L2 j U' l cx HB H2 h2 g2 nk SB v z D=>?_⟩;exact k3 r f rfl c' k p' I u L2 j U' l cx HB H2 h2 (g2.ahead q) (NK.refl.trans nk fun _ e=>q.free e) SB v z D
theorem Sto.learnedof {H:Hp} {st:Addr} {C:Cf} {P:List Pd} {X:Sx} {Q:VK} {E:XK} (h:Sto K a H st C P X) {b:Str} (hb:nmS b=true) (k1:(∀ q,q∈P->q.nm≠b)->∀ H',yx H H'->E (.ref a.A2) none H')
  (k2:∀ r,r∈P->r.nm=b->∀ Y q cx H',Sto K a H' st C P Y->Gx X H H' Y->H q=none->Kf H' Y q (.lst (refs cx r.path.length))->(∀ i,i < r.path.length->cx i≠q/\H (cx i)=none/\Kf H' Y (cx i) (.lst ((txi r.path i).map V.int)))->Q (.ref q) H'):zv K a [.ref st,.str b] H Q E:=by
 obtain ⟨O,m,d,c,dc,p,M,J,R,L,o,L0,T,U,s,rfl,rfl⟩:=h;have a0:=j4 hb;refine ⟨st,O,m,d,c,dc,p,M,J,R,L,C.n,C.kd,C.ps,C.mo,C.w,o,L0,T,U,.str b,"str",rfl,s,.str _,(fun x e=>by cases e; omega),(fun z=>by rw [show nmV (.str b)=nmS b from rfl,hb] at z; cases z),(fun b' e _ G=>?_),fun r hr e F B p' l k L2 j D q cx N H' s' g Z S t v f=>?_⟩
 .cases e;refine k1 fun q v=>?_;obtain ⟨u,hu,rfl⟩:=bM.mp v;exact G u hu
 .cases e;have I:Sto K a N st C (o.map Pc.pd) (ytm d st F l k D m o j):=⟨O,m,d,F,B,p',l,k,R,L,_,_,j,D,s',rfl,rfl⟩;have g1:Gx (ytm d st c M J U m o T) H N (ytm d st F l k D m o j):=Gx.of (g.or (Y:=fun y=>y=d)) Z fun q v=>.inl v;exact k2 r.pd (bM.mpr ⟨r,hr,rfl⟩) rfl _ q cx H' (I.same S) (g1.same S) (g1.g.free t) (Kf.new I t v) fun i A=>⟨(f i A).2.1,g1.g.free (f i A).1,Kf.new I (f i A).1 (f i A).2.2⟩
theorem yl6 (x:Option Str) (b:Str):vab (baV x) (.str b)=true/\decide (baV x=.str b)=decide (x=some b):=by
 cases x with
 | none=>exact ⟨rfl,by rw [bV (fun z=>nomatch z),bV (fun z=>nomatch z)]⟩
 | some y =>
  refine ⟨rfl,?_⟩;by_cases e:y=b
  .rw [bR (by rw [e]; rfl),bR (by rw [e])]
  .rw [bV (fun z=>e (by cases z; rfl)),bV (fun z=>e (by cases z; rfl))]
theorem yvw:yk ["self","name"] ["self","name"] (yg ysu):=wv (by right)
inductive ycs (K:W.Frag) (a:Ads) (vs:List V) (H:Hp) (Q:VK) (E:XK):Prop
 | mk (st ds ll d c dc p cl ct:Addr) (lk tp:Nat->Addr) (n:Nat) (kd:Nat->Fin 3) (ps:Nat->List Int) (mo w:Nat) (P:List Pc) (L:List (Str × List Int)) (ks:List V) (U:Addr->Prop) (x:V) (nt:String):(vs=[.ref st,x])->(zl K a H st ds ll d c dc p cl ct lk tp n kd ps mo w P L ks U)->(xr K H x (.type nt))->((∀ s,x=.str s->s.length <= 100000))->((nmV x=false->∀ H',yx H H'->E (.ref a.A7) none H'))->((∀ b,x=.str b->nmS b=true->(∀ q,q∈P->q.nm≠b)->∀ H',yx H H'->E (.ref a.A2) none H'))->((∀ r,r∈P->x=.str r.nm->(∃ q,q∈P/\q.bs=some r.nm)->∀ H',yx H H'->E (.ref a.A8) none H'))->((∀ r,r∈P->x=.str r.nm->(∀ q,q∈P->q.bs≠some r.nm) ->
 ∀ (c' dc' p' cl' ct':Addr) (U':Addr->Prop) (H':Hp),zl K a H' st ds ll d c' dc' p' cl' ct' lk tp n kd ps mo w (P.filter fun q=>decide (q.nm≠r.nm)) [] [] U'->Go (fun y=>y=d\/StO st c cl ct U y) H H' (fun y=>y=d\/StO st c' cl' ct' U' y)->Q .non H'))->ycs K a vs H Q E
theorem yt4 (T:Txt K mg a):wb P w K mg base (CXe P w) 10 a.Ni a.Nj ["self","name"] (ycs K a):=by
 exists T.Ie.F.okE,yvw,hr;obtain ⟨st,ds,ll,d,c,dc,p,cl,ct,lk,tp,n,kd,ps,mo,w,P,L,ks,U,x,nt,rfl,hS,ty,hz,k1,k2,k3,k4⟩:=h;have a2:=hS.me;refine ⟨_,(yh (yt (vi (pv 0) T.A3 T.Bu.m (Ň T) (hr.mono (by decide)) T.Bu.B .nil y0 (yb (pv 1) ye (ya rfl)))) (yh (wa (xo (yq (yed rfl) rfl T.O5 (by right) (yb (yii (we (js:=[1]) (ys:=["name"]) rfl (yig (yp (pv 0) rfl)) (fun C s2 H2 fp=>(x4 x0 (yco (K:=K) rfl (pv 0) rfl) (pv 1) (vd _))) rfl rfl (hyc:=(all_cons rfl yv)) (hrel:=(all_cons rfl yv)))) ye (ya rfl)))) (yf (w8 rfl T.Gu T.Gw (yb wd ye (ya rfl)))) y9) (yh (yt (ydt (yp (pv 0) rfl) (pv 1) ⟨rfl,rfl,rfl,rfl⟩)) (yf (vh (pv 0) (uf T.E5 (ye0 T) (hr.mono (by decide)) rfl T.E4 T.Dd.B .nil y0 (yb (yp (pv 0) rfl) ye (ya rfl))) rfl))))),?_⟩;exists 2,0;rfl';refine ⟨st,ds,d,_,_,_,n,kd,ps,w,P,x,nt,rfl,a2,hS.pz,ty,hz,k1,k2,fun r I e hb H1 S1=>?_⟩;subst e;have g:=hS.same S1;have a7:=g.me;rfl';have j:=g.pz.dk;refine ⟨d,pcs P,rfl,j,fun o D hD=>?_⟩;have R:(pcs P).length=P.length:=bH _;have aa:=g.pz.z;have a5:D≠d:=fun z=>by rw [z,yc] at hD; cases hD
 refine ĵ (fun i G=>G D=some (.lst ((P.take i).map fun q=>V.bl (decide (q.bs=some r.nm))))/\yx (upd H1 d (.frz o (.dK (pcs P)))) G) ⟨yc,ve hD⟩ (fun i G _ z=>z.2 _ _ yc) (fun i kk v G l hi z=>?_) (fun G z=>?_)
 .obtain ⟨gD,S⟩:=z;rw [R] at hi;have N:P[i]?=some P[i]:=bJ hi;unfold pcs at l;rw [bN,N] at l;obtain rfl:v=.ref (P[i]).ob:=by cases l; rfl
  have J:=(g.pz.ob _ (cE hi)).1;have a9:=S _ _ (yj (fun z=>by rw [z,j] at J; cases J) J);rfl';obtain ⟨b1,b2⟩:=yl6 (P[i]).bs r.nm;refine ⟨b1,?_⟩;rw [b2];refine xn (n:=(pcs P).length) gD (vq (by rw [bH,cg]; omega)) (by omega) ⟨?_,fun y o e=>yj (yd e hD) (S _ _ e)⟩;rw [yc,cB hi,cj];rfl
 .obtain ⟨gD,S⟩:=z;rw [R,c6] at gD;refine ⟨d,o,.dK (pcs P),(fun o u e=>by rw [j] at e; cases e),S _ _ yc,?_⟩
  have S3:yx H1 (upd G d (.dK (pcs P))):=fun y o' e=>by
   by_cases z:y=d
   .rw [z,yc]; rw [z,j] at e; exact e
   .exact yj z (S _ _ (yj z e))
  have Z:(upd G d (.dK (pcs P))) D=some (.lst ((P.map fun q=>decide (q.bs=some r.nm)).map V.bl)):=yj a5 (by rw [gD,cu]; rfl);generalize upd G d (.dK (pcs P))=H3 at S3 Z ⊢;have f:=g.same S3;have a6:=f.me;rfl';refine ⟨D,_,rfl,SqL.of Z,?_⟩;by_cases hu:∃ q,q∈P/\q.bs=some r.nm
  .have e:(P.map fun q=>decide (q.bs=some r.nm)).any id=true:=by
    obtain ⟨q,N,e⟩:=hu;exact di.mpr ⟨true,bM.mpr ⟨q,N,bR e⟩,rfl⟩
   rw [e];refine ⟨true,rfl,ħ ?_⟩;rfl';exact ⟨by walk_at "len",k3 r I rfl hu _ (S1.trans S3)⟩
  .have t:∀ q,q∈P->q.bs≠some r.nm:=fun q N e=>hu ⟨q,N,e⟩
   have e:(P.map fun q=>decide (q.bs=some r.nm)).any id=false:=by
    rw [List.any_map,List.any_eq_false];intro q N;simpa using t q N
   rw [e];refine ⟨false,rfl,Ę ?_⟩;rfl';refine ⟨d,rfl,.inl ⟨_,.of f.pz.dk⟩,?_⟩;rfl';refine ⟨pcs P,.inr r.nm,_,f.pz.dk,rfl,yi1 f.pz.nd I,?_⟩;have M:=f.b.drop t
   have gA:Go (fun y=>y=d\/StO st c cl ct U y) H3 (upd H3 d (.dK (χ (pcs P) (.inr r.nm)))) (fun y=>y=d\/StO st c cl ct U y):=⟨fun y o e no=>yj (fun z=>no (.inl z)) e,fun y z=>.inl z,fun y o e=>by
    by_cases z:y=d
    .exact ⟨_,by rw [z]; exact yc⟩
    .exact ⟨o,yj z e⟩⟩
   generalize upd H3 d (.dK (χ (pcs P) (.inr r.nm)))=H4 at M gA ⊢;have X:=M.me;rfl';intro c' k nc O ac;have SQ:yx H4 (upd (upd H4 k (.own c')) c' (.ins a.A1 k [])):=fun b o e=>by rw [ym (yd e nc),ym (yd e O)]; exact e
   refine ⟨c',k,ll,n,lk,tp,kd,ps,rfl,yc,SQ _ _ M.lo,M.n1,M.n6,M.row.same SQ,fun p' a4 a0 U' HE a3 W BE _=>⟨rfl,?_⟩⟩;obtain ⟨hR,gR,SE,hN⟩:=M.re nc O a3 W BE;have a8:=SE _ _ X;rfl';exact k4 r I rfl t c' k p' a4 a0 U' _ hR ((gA.ahead (S1.trans S3)).trans ((gR.or (Y:=fun y=>y=d)).wide fun y z=>z.imp id .inl))
theorem yg4 (Q:List Pc) (b:Str):(Q.filter fun q=>decide (q.nm≠b)).map Pc.pd=(Q.map Pc.pd).filter fun q=>decide (q.nm≠b):=by
 rw [List.filter_map];rfl
theorem Sto.drop {H:Hp} {st:Addr} {C:Cf} {P:List Pd} {X:Sx} {Q:VK} {E:XK} (h:Sto K a H st C P X) {b:Str} (hb:nmS b=true) (k1:(∀ q,q∈P->q.nm≠b)->∀ H',yx H H'->E (.ref a.A2) none H') (k2:∀ r,r∈P->r.nm=b->(∃ q,q∈P/\q.bs=some b)->∀ H',yx H H'->E (.ref a.A8) none H')
  (k3:∀ r,r∈P->r.nm=b->(∀ q,q∈P->q.bs≠some b)->∀ Y H',Sto K a H' st C (P.filter fun q=>decide (q.nm≠b)) Y->Gx X H H' Y->Q .non H'):ycs K a [.ref st,.str b] H Q E:=by
 obtain ⟨A,v,d,c,M,p,N,F,B,y,L,I,S,U,s,rfl,rfl⟩:=h;have J:=j4 hb;refine ⟨st,A,v,d,c,M,p,N,F,B,y,C.n,C.kd,C.ps,C.mo,C.w,L,I,S,U,.str b,"str",rfl,s,.str _,(fun x e=>by cases e; omega),(fun z=>by rw [show nmV (.str b)=nmS b from rfl,hb] at z; cases z),(fun T e _ l=>?_),(fun r o e i=>?_),fun r o e i G j R t m D H' O g=>?_⟩
 .cases e;refine k1 fun q f=>?_;obtain ⟨u,i,rfl⟩:=bM.mp f;exact l u i
 .cases e;obtain ⟨q,f,e⟩:=i;exact k2 r.pd (bM.mpr ⟨r,o,rfl⟩) rfl ⟨q.pd,bM.mpr ⟨q,f,rfl⟩,e⟩
 .cases e;refine k3 r.pd (bM.mpr ⟨r,o,rfl⟩) rfl (fun q f=>?_) _ H' ⟨A,v,d,G,j,R,t,m,B,y,_,_,[],D,O,yg4 _ _,rfl⟩ (Gx.of g NK.nil fun q f=>.inl (cX.mp f).1);obtain ⟨u,k,rfl⟩:=bM.mp f;exact i u k
theorem yi7:yk ["_law_script","_law_k","_law_cell"] ["_law_script","_law_k"] (yg yq6):=wv (by right)
inductive yob (K:W.Frag) (vs:List V) (H:Hp) (Q:VK) (E':XK):Prop
 | mk (l:Addr) (ns:List Int) (j:Nat):(vs=[.ref l,.int j])->(SqL K H l (ns.map V.int))->(j <= 1000)->(∀ n:Int,0 <= n->n < 2147483647->Q (.int n) H)->yob K vs H Q E'
theorem ybd (T:Txt K mg a):wb P w K mg base CX0 1 a.Nk a.Nl ["_law_script","_law_k"] (yob K):=by
 exists T.B8.F.ok,yi7,t;obtain ⟨l,b,j,rfl,f,q,k⟩:=h;refine ⟨_,(yh (yw (i:=2) yi7.nd rfl (Or.inl rfl) yi) (yh (zz (wa (yy ybn (pv 1) (yq y6 rfl T.Ah (by right) (yb (pv 0) ye (ya rfl))) (vd _)) (yf (yw (i:=2) yi7.nd rfl (Or.inl rfl) (yr wy (ud ur (pv 0) (pv 1) (fun _ _=>rfl)) yi))) y9)) (yf (yu (yr wy (yr wz (yr vy (yr vy (yr vy (yr wz (pv 2) (pv 2)) (yr wz yi (pv 2))) (yr wz (yr wz yi (pv 1)) (pv 1))) yi) yi) yi))))),?_⟩;exists 2,1;rfl';refine yjp (fun σ' G=>H=G/\∃ c:Int,σ'=[some (.ref l),some (.int j),some (.int c)]/\0 <= c/\c < 2147483629) ?_ ?_
 .rfl';refine zt f ?_;rw [bH];rfl';refine za (fun m=>?_) (fun m=>?_)
  .have d:j < b.length:=by omega
   rfl';refine Ĥ (v:=V.int b[j]) f (xc (by rw [bN,bJ d]; rfl)) ?_;rfl';exact ⟨rfl,_,rfl,cO _ (by decide),cF _ (by decide)⟩
  .rfl';exact ⟨rfl,0,rfl,by decide,by decide⟩
 .rintro σ' G ⟨rfl,c,rfl,r,p⟩;have u:(0:Int) <= (j:Int)/\(j:Int) <= 1000:=by omega
  have o:(0:Int) <= 5 * (j:Int)/\5 * (j:Int) <= 5000:=by omega
  rfl';exact k _ (cO _ (by decide)) (cF _ (by decide))
theorem Ó:yk ["_law_cell","_law_most","_law_many","_law_looks_here","_law_k","_law_marks","_law_places"] ["_law_cell","_law_most"] (yg ysw):=wv (by right)
inductive ydk  (vs:List V) (H:Hp) (Q:VK) (E':XK):Prop
 | mk (c:Int) (m:Nat):(vs=[.int c,.int m])->(0 <= c)->(c < 2147483647)->(1 <= m)->(m <= 6)->(∀ r (n:Nat) (lk:Nat->Addr) (kd:Nat->Fin 3) (tp:Nat->Addr) (ps:Nat->List Int) H',H r=none->H' r=some (.lst (refs lk n))->1 <= n->n <= 6->ue H' n lk kd tp ps->yx H H'->Q (.ref r) H')->ydk vs H Q E'
theorem yuw (T:Txt K mg a):wb P w K mg base CX0 1 a.Nm a.Nn ["_law_cell","_law_most"] ydk:=by
 exists T.Gg.F.ok,Ó,hr;obtain ⟨c,m,rfl,W,Y,m1,m6,k⟩:=h;have mp:(0:Int) < (m:Int):=by omega
 refine ⟨_,(yh (yw (i:=2) Ó.nd rfl (Or.inl rfl) (yr vy yi (yr wy (pv 0) (pv 1)))) (yh (yw (i:=3) Ó.nd rfl (Or.inl rfl) (xx ye)) (yh (z0 PassesOwn.never rfl (uw rfl T.Be (yb (pv 2) ye (ya rfl))) (w6 (i:=4) Ó.nd rfl (Or.inl rfl)) (yh (yw (i:=0) Ó.nd rfl (Or.inl rfl) (yr wy (yr vy (yr vy (yr wz (pv 0) yi) (yr wz yi (pv 4))) yi) yi)) (yh (yw (i:=5) Ó.nd rfl (Or.inr rfl) (yr ynl (yr wy (yr vj (pv 0) yi) yi) (yr wy (yr vj (pv 0) yi) yi))) (yh (zz (wa (yy x0 (yr wy (yr vj (pv 0) yi) yi) yi (vd _)) (yf (yw (i:=5) Ó.nd rfl (Or.inr rfl) (yr wy (yr vj (pv 0) yi) yi))) y9)) (yh (yky (i:=6) (js:=[5]) (ys:=["_law_marks"]) Ó.nd rfl rfl rfl (ygh rfl T.Be (yb yi (yb yi ye (ya rfl)) (ya rfl))) (fun C s2 H2 fp=>(yy x0 (yr ynl (yr ym1 (pv 1) (yr u6 (pv 0) yi)) yi) yi (vd _))) (fun C s2 H2 fp=>(pv 0)) rfl rfl (hyc:=(all_cons rfl yv)) (hrel:=(all_cons rfl yv))) (yf (yt (ĕ PySem.F.plainAttrs_list PySem.F.slot_list_append PySem.F.type_list_append xi (pv 3) (yb (τ (yb (ud ur (xx (yb wd (yb wd (yb wd ye (ya rfl)) (ya rfl)) (ya rfl))) (yr wy (pv 0) yi) (fun _ _=>rfl)) (yb (wt γ rfl T.D3 (by right) (yb (xz jy (pv 6) uo (uq yi)) ye (ya rfl))) ye (ya rfl)) (ya rfl))) ye (ya rfl)))))))))) (yf (yu (pv 3)))))),?_⟩;exists 2,5;rfl'
 obtain ⟨n,hn,n1,n6⟩:∃ n:Nat,1+c % (m:Int)=(n:Int)/\1 <= n/\n <= 6:=by
  have h0:=cO c (show (m:Int)≠0 by omega);have h1:=cF c mp;exact ⟨(1+c % (m:Int)).toNat,by omega,by omega,by omega⟩
 rw [hn];refine ⟨by walk_at "len",fun L hL0=>?_⟩
 with_reducible first | refine y7 hL0 fun H1 S1 hL1=>?_ | refine vk hL0 fun H1 S1 hL1=>?_
 rfl';refine ⟨_,rfl,by omega,by omega,θ (n:=n) (fun i σ2 G=>∃ (c:Int) (v1 v2 X:Option V) (r:Nat->Addr) (O:Nat->Fin 3) (N:Nat->Addr) (J:Nat->List Int),σ2=[some (.int c),some (.int m),some (.int n),some (.ref L),v1,v2,X]/\0 <= c/\c < 2147483647/\G L=some (.lst (refs r i))/\ue G i r O N J/\yx H G)
  ⟨c,_,_,_,fun _=>0,fun _=>0,fun _=>0,fun _=>[],rfl,W,Y,hL1,fun j l=>absurd l (cw j),S1⟩ ?_ ?_⟩
 .clear hn W Y c;rintro i σ2 G hi ⟨c,v1,v2,X,r,O,N,J,rfl,W,Y,gL,gR,SG⟩;rfl';have d0:0 <= (c * 48271+11 * (0+(i:Int))+7) % 2147483647:=cO _ (by decide);have d1:(c * 48271+11 * (0+(i:Int))+7) % 2147483647 < 2147483647:=cF _ (by decide);generalize (c * 48271+11 * (0+(i:Int))+7) % 2147483647=d at d0 d1 ⊢;refine yjp (fun σ' v=>G=v/\∃ mk:Int,σ'=[some (.int d),some (.int m),some (.int n),some (.ref L),some (.int (0+(i:Int))),some (.int mk),X]) ?_ ?_
  .rfl';refine za (fun Z=>?_) (fun Z=>?_)
   .rfl';exact ⟨rfl,_,rfl⟩
   .rfl';exact ⟨rfl,_,rfl⟩
  rintro σ' v ⟨rfl,mk,rfl⟩;rfl';refine ⟨1,9,rfl,⟨by decide,by decide,by decide,by decide⟩,fun D hD=>?_⟩
  refine yb1 (lo:=1) (n:=8) (fun j v=>∃ f:List Int,v D=some (.lst (f.map V.int))/\(∀ p∈f,1 <= p/\p <= (j:Int))/\f.Pairwise (· < ·)/\f.length <= j/\yx G v) ⟨[],yc,fun _ z=>(nomatch z),List.Pairwise.nil,bL _,ve hD⟩ (fun j v l z=>?_) (fun G3 z=>?_)
  .obtain ⟨f,h1,h2,h3,h4,S⟩:=z;rfl';refine i_I (by omega) ?_;rfl';refine za (fun Z=>?_) (fun Z=>?_)
   .rfl';refine xn (n:=8) h1 (vq (by rw [bH]; omega)) l ?_;refine ⟨f++[1+(j:Int)],by rw [yc,cj]; rfl,fun p R=>?_,?_,by rw [bP]; show _+1 <= _; omega,fun b o e=>yj (yd e hD) (S b o e)⟩
    .rcases cr.mp R with h | h
     .have:=h2 p h;omega
     .rw [bZ.mp h];omega
    .refine List.pairwise_append.mpr ⟨h3,List.pairwise_singleton _ _,fun x hx y hy=>?_⟩;rw [bZ.mp hy];have:=h2 x hx;omega
   .exact yak (n:=8) l ⟨f,h1,fun p R=>by have:=h2 p R; omega,h3,by omega,S⟩
  obtain ⟨f,a1,R,hw,_,S3⟩:=z;have I:=S3 _ _ gL;rfl';refine Ì I ?_;rfl';refine ⟨by walk_at "len",fun q2 hq2=>?_⟩
  with_reducible first | refine y7 hq2 fun G4 T4 hq4=>?_ | refine vk hq2 fun G4 T4 hq4=>?_
  rfl';obtain ⟨kk,hk⟩:=yq0 d;refine Ĥ (SqL.of hq4) hk ?_;rfl';refine yc1 (SqL.of (T4 _ _ a1)) fun u hu=>?_;have ec:yc4 (f.map V.int) none (some 4)=(f.take 4).map V.int:=by rw [List.map_take]; exact z9 4
  rw [ec]
  with_reducible first | refine y7 hu fun G5 T5 hu5=>?_ | refine vk hu fun G5 T5 hu5=>?_
  refine ⟨u,_,rfl,.inl ⟨SqL.of hu5,fun B htp=>?_⟩⟩
  with_reducible first | refine y7 htp fun G6 T6 htp6=>?_ | refine vk htp fun G6 T6 htp6=>?_
  rfl';refine ⟨by walk_at "len",fun t ht=>?_⟩
  with_reducible first | refine y7 ht fun G7 T7 ht7=>?_ | refine vk ht fun G7 T7 ht7=>?_
  have M:=T4.trans (T5.trans (T6.trans T7));have q:=M _ _ I;have U:=S3.trans M;rfl';refine x5 q (vq (by rw [wg]; omega)) ?_;have g7:LkG G7 (.ref t) kk B (f.take 4):=⟨t,rfl,ht7,T7 _ _ htp6,ygb (by rw [cg]; omega) (fun p h=>R p (cP h)) hw.take⟩;rfl';refine ⟨d,_,_,_,upN r i t,upN O i kk,upN N i B,upN J i (f.take 4),rfl,d0,d1,?_,fun j l=>?_,fun b o e=>yj (yd e hL0) (U _ _ (SG b o e))⟩
  .rw [yc,uy,xj]
   congr 3
   exact uv fun j l=>(xg l).symm
  .by_cases z:j=i
   .subst z;rw [xj,xj,xj,xj];exact g7.upd q
   .have g:j < i:=by omega
    rw [xg g,xg g,xg g,xg g];exact ((gR j g).same U).upd q
 .rintro σ2 G ⟨c,v1,v2,X,r,O,N,J,rfl,W,Y,gL,gR,SG⟩;rfl';exact k L n r O N J G hL0 gL n1 n6 gR SG
def yjk (ts:List Int):Prop:=ts.length=6/\ts.Nodup/\∀ t,t∈ts->0 <= t/\t < 6
theorem ypj {mu e:Int} (h1:1 <= mu) (h3:mu <= 3) (hn:¬ (PyProof.Rows.firstMet (fun i=>((List.range 6).map fun i:Nat=>((0+(i:Int)) * mu+e) % 6).getD i 0) ((List.range 6).map fun i:Nat=>((0+(i:Int)) * mu+e) % 6).length).length < 6):yjk ((List.range 6).map fun i:Nat=>((0+(i:Int)) * mu+e) % 6):=by
 have a:((List.range 6).map fun i:Nat=>((0+(i:Int)) * mu+e) % 6)=(List.range 6).map fun i:Nat=>((0+(i:Int)) * mu+e % 6) % 6:=by
  refine List.map_congr_left fun i _=>?_;rw [Int.add_emod,Int.add_emod ((0+(i:Int)) * mu) (e % 6),Int.emod_emod]
 rw [a] at hn ⊢;have b:=cO e (show (6:Int)≠0 by decide);have c:=cF e (show (0:Int) < 6 by decide);generalize e % 6=r at hn b c ⊢;clear a e;obtain rfl | rfl | rfl:mu=1\/mu=2\/mu=3:=by omega
 .obtain rfl | rfl | rfl | rfl | rfl | rfl:r=0\/r=1\/r=2\/r=3\/r=4\/r=5:=by omega
  all_goals (unfold yjk; decide)
 .exfalso;obtain rfl | rfl | rfl | rfl | rfl | rfl:r=0\/r=1\/r=2\/r=3\/r=4\/r=5:=by omega
  all_goals (revert hn; decide)
 .exfalso;obtain rfl | rfl | rfl | rfl | rfl | rfl:r=0\/r=1\/r=2\/r=3\/r=4\/r=5:=by omega
  all_goals (revert hn; decide)
theorem ygf:yjk ((List.range 6).map fun i=>((i:Nat):Int)):=by
 refine ⟨rfl,?_,fun t d=>?_⟩
 .exact List.pairwise_map.mpr (List.nodup_range.imp fun {a b} e=>by omega)
 .obtain ⟨i,c,rfl⟩:=bM.mp d;have:=cQ.mp c;omega
def gI (f:Int->Str):V->V
 | .int t=>.str (f t)
 | v=>v
theorem ynd (f:Int->Str) (ts:List Int):(ts.map V.int).map (gI f)=(ts.map f).map V.str:=by
 rw [cu,cu];rfl
def nmR (c k:Nat):Str:=⟨(List.replicate k c).toArray⟩
theorem yuy {z:Str} {c k:Nat} (h:z.cps.toList=(List.replicate k [c]).flatten):z=nmR c k:=by
 have e:(List.replicate k [c]).flatten=List.replicate k c:=by
  clear h
  induction k with
  | zero=>rfl
  | succ k ih=>rw [cH,List.flatten_cons,cH,List.singleton_append,ih]
 rw [e] at h
 cases z with | mk cps =>
 unfold nmR
 congr 1
 exact Array.toList_inj.mp (by simpa using h)
theorem ifS {tc:TT} {ts te:TS} {D:Á} {σ:St} {H:Hp} {C:Prop} (h:∀ Qb:Bool->Hp->Prop,(∀ H',yx H H'->Qb true H')->(C->∀ H',yx H H'->Qb false H')->tc σ H Qb) (hT:∀ H',yx H H'->ts D σ H') (hF:C->∀ H',yx H H'->te D σ H'):yz5 tc ts te D σ H :=
 h _ (fun H' S=>by show (if true=true then _ else _); rw [if_pos rfl]; exact hT H' S) (fun c H' S=>by show (if false=true then _ else _); rw [if_neg (by decide)]; exact hF c H' S)
theorem jl:yk ["_law_cell","_law_small","_law_odd","_law_turn","_law_base","_law_k","_law_at"] ["_law_cell"] (yg yr7):=wv (by right)
inductive yax (K:W.Frag) (vs:List V) (H:Hp) (Q:VK) (E':XK):Prop
 | mk (c:Int):(vs=[.int c])->(0 <= c)->(c < 2147483647)->(∀ (r:Addr) (ns:List Str) (H':Hp),H r=none->H' r=some (.lst (ns.map V.str))->yx H H'->ns.length=6->ns.Nodup->(∀ x,x∈ns->nmS x=true/\PyData.strOk x=true)->Q (.ref r) H')->yax K vs H Q E'
theorem yx4 (T:Txt K mg a):wb P w K mg base CX0 1 a.No a.Np ["_law_cell"] (yax K):=by
 exists T.Gh.F.ok,jl,hr;obtain ⟨c,rfl,c0,c1,k⟩:=h;refine yo (yw (i:=1) jl.nd rfl (Or.inr rfl) wd) ?_;refine yo (yw (i:=2) jl.nd rfl (Or.inr rfl) (yr wy (pv 0) yi)) ?_;refine yo (yw (i:=0) jl.nd rfl (Or.inr rfl) (yr vj (pv 0) yi)) ?_;refine yo (yea (i:=3) (js:=[0]) (ys:=["_law_cell"]) jl.nd rfl rfl rfl (uw rfl T.Be (yb yi ye (ya rfl))) (fun C s2 H2 fp=>(yr wy (yr vy (yr wz (pv 0) (yr vy yi (yr wy (yr vj (pv 1) yi) yi))) (yr vj (pv 1) yi)) yi)) rfl rfl (hyc:=(all_cons rfl yv)) (hrel:=(all_cons rfl yv))) ?_;refine yo (zz (wa (PW.pt (ĥ (yy ybn (yq yb8 rfl T.Ah (by right) (yb (wt (ygw rfl) rfl T.Ov (by right) (yb (pv 3) ye (ya rfl))) ye (ya rfl))) yi (vd _)) (Ĕ (yy x0 (yr wy (yr vj (pv 0) yi) yi) yi (vd _))))) (yf (yw (i:=3) jl.nd rfl (Or.inl rfl) (wt (yfh rfl) rfl T.Aq (by right) (yb (wt yj0 rfl T.Be (by right) (yb yi ye (ya rfl))) ye (ya rfl))))) y9)) ?_;refine yo (wa (yy x0 (yr wy (pv 0) yi) yi (vd _)) (yf (yu (we (js:=[1,2,0]) (ys:=["_law_small","_law_odd","_law_cell"]) rfl (w9 (pv 3)) (fun C s2 H2 fp=>(yr yfe (jt (pv 1) (pv 2) (fun _ _=>rfl)) (yr vy (yr vy (pv 0) yi) (yr wy (yr vj (pv 3) yi) yi)))) rfl rfl (hyc:=(all_cons rfl (all_cons rfl (all_cons rfl yv)))) (hrel:=(all_cons rfl (all_cons rfl (all_cons rfl yv))))))) y9) ?_;refine yo (yw (i:=4) jl.nd rfl (Or.inr rfl) wd) ?_;refine yo (z0 PassesOwn.never rfl (uw rfl T.Be (yb (yr wy (yr vj (pv 0) yi) yi) ye (ya rfl))) (w6 (i:=5) jl.nd rfl (Or.inl rfl)) (yf (yw (i:=4) jl.nd rfl (Or.inr rfl) (yr Æ (pv 4) (jt (pv 1) (yr wy (yr vj (yr wz (pv 0) (yr vy (pv 5) yi)) yi) yi) (fun _ _=>rfl)))))) ?_;refine yo (yw (i:=6) jl.nd rfl (Or.inr rfl) (yr wy (yr vj (pv 0) yi) (yr vy (yq Ï rfl T.Ah (by right) (yb (pv 4) ye (ya rfl))) yi))) ?_;refine ⟨_,(yf (yu (we (js:=[1,2,4,6]) (ys:=["_law_small","_law_odd","_law_base","_law_at"]) rfl (w9 (pv 3)) (fun C s2 H2 fp=>(yr Æ (yr Æ (xz (r:=vbv) ymo (pv 3) uo (uq (pv 4))) (jt (pv 1) (yr vy (pv 2) (pv 0)) (fun _ _=>rfl))) (xz (r:=vbv) ymo (pv 3) (uq (pv 4)) uo))) rfl rfl (hyc:=(all_cons rfl (all_cons rfl (all_cons rfl (all_cons rfl yv))))) (hrel:=(all_cons rfl (all_cons rfl (all_cons rfl (all_cons rfl yv)))))))),?_⟩;exists 1,6;rfl';obtain ⟨o,ho,a4⟩:∃ o:Nat,c % 21=(o:Int)/\o <= 20:=⟨(c % 21).toNat,by omega,by omega⟩;obtain ⟨d,Y,a9,a6⟩:∃ d:Int,c / 22=d/\0 <= d/\d < 2147483647:=⟨c / 22,rfl,by omega,by omega⟩;rw [ho,Y];clear c0 c1 ho Y c;refine ⟨_,rfl,by decide,by decide,fun D f=>?_⟩;refine Ò (n:=6) (fun i=>V.int (((0+(i:Int)) * (1+d / 3 % 3)+d / 9) % 6)) f (fun i G hi S hG=>?_) (fun G S hG=>?_)
 .rfl';exact Mp.doneR f (vq (by decide)) hi S hG rfl
 have p:G D=some (.lst (((List.range 6).map fun i:Nat=>((0+(i:Int)) * (1+d / 3 % 3)+d / 9) % 6).map V.int)):=by rw [hG,cu]; rfl
 have g:=ypj (mu:=1+d / 3 % 3) (e:=d / 9) (by omega) (by omega);have O:((List.range 6).map fun i:Nat=>((0+(i:Int)) * (1+d / 3 % 3)+d / 9) % 6).length=6:=rfl;generalize ((List.range 6).map fun i:Nat=>((0+(i:Int)) * (1+d / 3 % 3)+d / 9) % 6)=J at p g O;rfl';refine ⟨fun σ2 F=>∃ (R:Addr) (J:List Int),σ2=[some (.int d),some (.str smS),some (.int o),some (.ref R),none,none,none]/\F R=some (.lst (J.map V.int))/\yjk J/\yx H F,?_,?_⟩
 .refine ifS (C:=yjk J) (fun Qb qT qF=>?_) (fun H1 S1=>?_) (fun g H1 S1=>?_)
  .rfl';refine ⟨D,J,rfl,SqL.of p,by rw [O]; decide,fun q hq=>?_⟩
   with_reducible first | refine y7 hq fun G1 S1 e1=>?_ | refine vk hq fun G1 S1 e1=>?_
   rfl';refine ⟨q,_,rfl,e1,?_⟩;rfl';refine za (fun L=>qT _ S1) (fun L=>?_);have a3:=g (by omega);rfl';by_cases Z:d / 16 % 5=0
   .rw [bR Z];exact qT _ S1
   .rw [bV Z];exact qF a3 _ S1
  .rfl';refine ⟨6,rfl,by decide,fun q hq=>?_⟩
   with_reducible first | refine y7 hq fun G1 S2 e1=>?_ | refine vk hq fun G1 S2 e1=>?_
   rfl';refine ⟨q,6,rfl,e1,by decide,fun l hl=>?_⟩
   with_reducible first | refine y7 hl fun G2 S3 e2=>?_ | refine vk hl fun G2 S3 e2=>?_
   rfl';exact ⟨l,(List.range 6).map fun i=>((i:Nat):Int),rfl,by rw [e2,cu]; rfl,ygf,S.trans (S1.trans (S2.trans S3))⟩
  .exact ⟨D,J,rfl,S1 _ _ p,g,S.trans S1⟩
 clear hG p g O f S G J D;rintro σ2 G ⟨R,J,rfl,m,⟨t5,tn,M⟩,S⟩;rfl';refine za (fun L=>?_) (fun L=>?_)
 .rfl';refine ⟨R,rfl,⟨_,SqL.of m⟩,fun D f=>?_⟩;refine zd (gI fun t=>nmR (97+o) (t+1+d / 4 % 3).toNat) (SqL.of m) f (fun i y F X N I=>?_) (fun F N I=>?_)
  .rw [bN] at X;obtain ⟨t,B,rfl⟩:=Option.map_eq_some_iff.mp X;have a1:=M t (cc B);rfl';refine ⟨smS,_,_,rfl,rfl,by omega,by omega,by rw [yjf]; omega,ysm (by omega) (by omega),?_⟩;rw [show ((o:Int)).toNat=o from rfl];rfl';refine ⟨_,_,rfl,rfl,by omega,by omega,by show 1 <= _; decide,fun z W=>?_⟩;obtain rfl:=yuy W;exact Mp.done f (vq (by rw [bH]; omega)) (by rw [bN,B]; rfl) N I rfl
  .rw [ynd] at I;refine k D _ F (S.free f) I (S.trans N) (by rw [bH,t5]) ?_ fun x hx=>?_
   .refine List.pairwise_map.mpr (tn.imp_of_mem fun {a b} ha hb ne e=>ne ?_);have h2:=M a ha;have Z:=M b hb;have e2:=congrArg (fun x:Str=>x.cps.toList.length) e;simp [nmR] at e2;omega
   .obtain ⟨t,B,rfl⟩:=bM.mp hx;have h2:=M t B;refine yrq (fun c hc=>?_) ?_ ?_
    .have e:c∈List.replicate (t+1+d / 4 % 3).toNat (97+o):=hc;have:=List.eq_of_mem_replicate e;omega
    .simp [nmR]; omega
    .simp [nmR]; omega
 .obtain ⟨l7,a0,hl⟩:∃ l:Nat,d / 4 % 8=(l:Int)/\l <= 7:=⟨(d / 4 % 8).toNat,by omega,by omega⟩;rfl';rw [a0];refine ⟨_,rfl,by omega,by omega,θ (n:=l7) (fun i σ2 F=>∃ (z:Str) (v:Option V),σ2=[some (.int d),some (.str smS),some (.int o),some (.ref R),some (.str z),v,none]/\yc5 z.cps.toList/\z.length=i/\G=F)
   ⟨_,_,rfl,(fun c hc=>by cases (show c∈[] from hc)),rfl,rfl⟩ ?_ ?_⟩
  .rintro i σ2 F hi ⟨z,v,rfl,W,u,rfl⟩;rfl';have h0:=cO (d * (0+(i:Int)+3) / 7) (show (26:Int)≠0 by decide);have L:=cF (d * (0+(i:Int)+3) / 7) (show (0:Int) < 26 by decide);generalize d * (0+(i:Int)+3) / 7 % 26=q at h0 L ⊢;refine ⟨smS,q,97+q.toNat,rfl,rfl,h0,by omega,by rw [yjf]; exact L,ysm h0 L,?_⟩;refine ⟨z,_,rfl,rfl,?_,?_⟩
   .rw [u,sizeLine_eq];show i+1 <= _;omega
   .rfl';refine ⟨_,_,rfl,?_,?_,rfl⟩
    .rw [Ď];exact W.app (.one (by omega))
    .rw [ĉ,Ď,bP,<- ĉ,u];rfl
  .rintro σ2 F ⟨z,v,rfl,W,u,rfl⟩;rfl';refine ⟨z,rfl,by rw [u,sizeLine_eq]; omega,?_⟩;rfl'
   obtain ⟨j,hj,U⟩:∃ j:Nat,d / 32 % ((z.length:Int)+1)=(j:Int)/\j <= z.length:=by
    have h0:=cO (d / 32) (show ((z.length:Int)+1)≠0 by omega);have L:=cF (d / 32) (show 0 < ((z.length:Int)+1) by omega);exact ⟨(d / 32 % ((z.length:Int)+1)).toNat,by omega,by omega⟩
   rw [hj];refine ⟨R,rfl,⟨_,SqL.of m⟩,fun D f=>?_⟩;refine zd (gI fun t=>ytn z j (97+(o+t.toNat))) (SqL.of m) f (fun i y F X N I=>?_) (fun F N I=>?_)
   .rw [bN] at X;obtain ⟨t,B,rfl⟩:=Option.map_eq_some_iff.mp X;have a1:=M t (cc B);rfl';have a5:=Txt.slice_le z none (some (j:Int));have a7:=Txt.slice_le z (some (j:Int)) none;refine ⟨z,rfl,by rw [sizeLine_eq]; omega,?_⟩;rfl';have ei:((o:Int)+t).toNat=o+t.toNat:=by omega
    refine ⟨smS,_,_,rfl,rfl,by omega,by omega,by rw [yjf]; omega,ysm (by omega) (by omega),?_⟩;rw [ei];refine ⟨_,_,rfl,rfl,by rw [sizeLine_eq]; show _+1 <= _; omega,?_⟩;rfl';refine ⟨z,rfl,by rw [sizeLine_eq]; omega,?_⟩;refine ⟨_,_,rfl,rfl,?_,?_⟩
    .rw [sizeLine_eq,ĉ,Ď,bP,<- ĉ];show _+1+_ <= _;omega
    .exact Mp.done f (vq (by rw [bH]; omega)) (by rw [bN,B]; rfl) N I rfl
   .rw [ynd] at I;refine k D _ F (S.free f) I (S.trans N) (by rw [bH,t5]) ?_ fun x hx=>?_
    .refine List.pairwise_map.mpr (tn.imp_of_mem fun {a b} ha hb ne e=>ne ?_);have h2:=M a ha;have Z:=M b hb;have:=ykw U e;omega
    .obtain ⟨t,B,rfl⟩:=bM.mp hx;have h2:=M t B;exact ypt U W (by omega) (by omega)
theorem jn:yk ["_law_store","_law_name","_law_word","_law_found","e"] ["_law_store","_law_name"] (yg ysd):=wv (by right)
inductive yd9 (K:W.Frag) (a:Ads) (vs:List V) (H:Hp) (Q:VK) (E':XK):Prop
 | mk (st:Addr) (C:Cf) (P:List Pd) (X:Sx) (b:Str):(vs=[.ref st,.str b])->(Sto K a H st C P X)->(nmS b=true)->(((∀ q,q∈P->q.nm≠b)->∀ t H',H t=none->H' t=some (.tup [.str "piece",.non])->yx H H'->Q (.ref t) H'))->((∀ r,r∈P->r.nm=b->(∃ q,q∈P/\q.bs=some b)->∀ t H',H t=none->H' t=some (.tup [.str "use",.non])->yx H H'->Q (.ref t) H'))->((∀ r,r∈P->r.nm=b->(∀ q,q∈P->q.bs≠some b)->∀ t Y H',Sto K a H' st C (P.filter fun q=>decide (q.nm≠b)) Y->Gx X H H' Y->Kf H' Y t (.tup [.str "",.non])->Q (.ref t) H'))->yd9 K a vs H Q E'
theorem yil (T:Txt K mg a):wb P w K mg base CX0 11 a.Nq a.Nr ["_law_store","_law_name"] (yd9 K a):=by
 exists T.Cp.F.ok,jn,g;obtain ⟨z,C,P,X,b,rfl,u,y,D,J,M⟩:=h;obtain ⟨ds,S,Z,R,U,N⟩:=u.ins;refine yo (yw (i:=2) jn.nd rfl (Or.inl rfl) wd) ?_;refine yo (yw (i:=3) jn.nd rfl (Or.inl rfl) uk) ?_;refine yo (yia (fun l W=>(yf (yw (i:=3) jn.nd rfl (Or.inl rfl) (vi (pv 0) T.A3 T.Ie.m (yt4 T) (g.mono (by decide)) T.Ie.B .nil jb (yb (pv 1) ye (ya rfl)))))) ⟨rfl,rfl⟩ (yws (cs:=[a.A7,a.Ae]) (fun l x=>τ (yb (j3 rfl T.Ih) (yb (j3 rfl T.Nz) ye (ya rfl)) (ya rfl))) (fun σ H Q h=>⟨by show 2 <= sizeLine; decide,h⟩) (yd1 (i:=4) rfl T.Dq (fun l x=>(yh (yw (i:=2) jn.nd rfl (Or.inl rfl) wd) (yf (wa (xo (yq (id:="isinstance") (r:=ytl K) Ů rfl T.A6 (by right) (yb (pv 4) (yb (j3 rfl T.Gu) ye (ya rfl)) (ya rfl)))) (yf (yw (i:=2) jn.nd rfl (Or.inl rfl) wd)) y9)))) jn.nd rfl rfl (yd1 (i:=4) rfl T.Gu (fun l x=>(yh (yw (i:=2) jn.nd rfl (Or.inl rfl) wd) (yf (wa (PW.pt (ymj (xo (yq (id:="isinstance") (r:=ytl K) Ů rfl T.A6 (by right) (yb (pv 4) (yb (j3 rfl T.Dz) ye (ya rfl)) (ya rfl)))) (yic (xo (yq (id:="isinstance") (r:=ytl K) Ů rfl T.A6 (by right) (yb (pv 4) (yb (zr (T:="ValueError") rfl T.Cn (by right)) ye (ya rfl)) (ya rfl))))))) (yf (yw (i:=2) jn.nd rfl (Or.inl rfl) wd)) y9)))) jn.nd rfl rfl yma)))) ?_;refine ⟨_,(yf (yu (τ (yb (pv 2) (yb (pv 3) ye (ya rfl)) (ya rfl))))),?_⟩;exists 2,3;rfl';refine yna ?_;rfl';refine u.drop y (fun O v j=>?_) (fun r g e n v j=>?_) (fun r g e n Y v f g1=>?_)
 .refine ynk (all_cons T.B6 (all_cons T.Ba yv)) fun I q=>?_;refine yyy T.A9 fun x hx=>?_;have k:=j.trans (ve (o:=HO.tup ([a.A7,a.Ae].map V.ref)) q);dsimp only [List.set]
  with_reducible first | refine y7 hx fun H2 T2 e2=>?_ | refine vk hx fun H2 T2 e2=>?_
  rfl';refine yl7 e2 T.Ds T.B9 ?_;rfl';dsimp only [Á.un,List.set];rfl';refine ⟨by walk_at "len",fun t d=>?_⟩;have c:=k.trans T2;exact D O t _ (c.free d) yc (c.trans (ve d))
 .refine ynk (all_cons T.Bj (all_cons T.C2 yv)) fun I q=>?_;refine yxd T.Bb (yyy T.C1 fun x hx=>?_);have k:=j.trans (ve (o:=HO.tup ([a.A7,a.Ae].map V.ref)) q);dsimp only [List.set]
  with_reducible first | refine y7 hx fun H2 T2 e2=>?_ | refine vk hx fun H2 T2 e2=>?_
  rfl';refine yl7 e2 T.E6 T.Al ?_;rfl';refine yu1 e2 T.E6 T.Ar ?_;rfl';dsimp only [Á.un,List.set];rfl';refine ⟨by walk_at "len",fun t d=>?_⟩;have c:=k.trans T2;exact J r g e n t _ (c.free d) yc (c.trans (ve d))
 .rfl';refine ⟨by walk_at "len",fun t d=>?_⟩;exact M r g e n t Y _ (f.same (ve d)) (g1.same (ve d)) (Kf.new f d yc)
def yf5:List Str:=(List.range 7).map fun i=>(⟨#[97+i]⟩:Str)
theorem yor:yf5.Nodup:=by
 refine List.pairwise_map.mpr (List.nodup_range.imp fun {a b} d e=>d ?_);have c:=congrArg (fun x:Str=>x.cps.toList) e;simp at c;omega
theorem ypm {z:Str} (h:z∈yf5):okN z:=by
 obtain ⟨i,a,rfl⟩:=bM.mp h;have:=cQ.mp a;refine yrq (fun c b=>?_) ?_ ?_
 .have e:c=97+i:=by simpa using b
  omega
 .simp
 .simp
theorem yo8 {c:Nat} (h:(Str.ofString "abcdefg").cps[i]?=some c):i < 7/\yf5[i]?=some (⟨#[c]⟩:Str):=by
 have a:i < 7:=(Array.getElem?_eq_some_iff.mp h).1;refine ⟨a,?_⟩;obtain rfl | rfl | rfl | rfl | rfl | rfl | rfl:i=0\/i=1\/i=2\/i=3\/i=4\/i=5\/i=6:=by omega
 all_goals (cases h; rfl)
theorem yew:yk ["_law_store","_law_name","_law_kind","_law_word","_law_known"] ["_law_store","_law_name","_law_kind"] (yg yr5):=wv (by right)
inductive ydg (K:W.Frag) (a:Ads) (vs:List V) (H:Hp) (Q:VK) (E':XK):Prop
 | mk (st:Addr) (C:Cf) (P:List Pd) (X:Sx) (b:Str) (kd:Int):(vs=[.ref st,.str b,.int kd])->(Sto K a H st C P X)->(okN b)->((∀ q,q∈P->q.nm≠b))->(P.length <= 6)->(∀ H',yx H H'->Q (.bl true) H')->ydg K a vs H Q E'
theorem ym7 (T:Txt K mg a):wb P w K mg base CX0 15 a.Nt a.Nu ["_law_store","_law_name","_law_kind"] (ydg K a):=by
 exists T.De.F.ok,yew,d;obtain ⟨st,C,P,X,b,kd,rfl,n,J,f,hz,k⟩:=h;obtain ⟨ds,vl,vm,vp,vc,a2⟩:=n.ins;refine yo (yw (i:=3) yew.nd rfl (Or.inl rfl) wd) ?_;refine yo (yia (fun pn Ex=>(yf (wa (yy x0 (pv 2) yi (vd _)) (yf (yt (vi (pv 0) T.A3 T.Ep.m (ynp T) (d.mono (by decide)) T.Ep.B .nil jb (yb (pv 1) ye (ya rfl))))) (yf (wa (yy x0 (pv 2) yi (vd _)) (yf (yt (vi (pv 0) T.A3 T.Es.m (ym3 T) (d.mono (by decide)) T.Es.B .nil jb (yb (pv 1) ye (ya rfl))))) (yf (wa (yy x0 (pv 2) yi (vd _)) (yf (yt (vi (pv 0) T.A3 T.Er.m (yl1 T) (d.mono (by decide)) T.Er.B .nil jb (yb (pv 1) ye (ya rfl))))) (yf (wa (yy x0 (pv 2) yi (vd _)) (yf (yt (vi (pv 0) T.A3 T.Ic.m (yt7 T) (d.mono (by decide)) T.Ic.B .nil jb (yb (pv 1) ye (ya rfl))))) (yh (yw (i:=4) yew.nd rfl (Or.inr rfl) (w4 (pv 0) T.A3 T.El.m (ync T) (d.mono (by decide)) T.El.B .nil vg)) (yf (yt (vi (pv 0) T.A3 T.Oo (yin T) (d.mono (by decide)) T.On .nil jb (yb (ud (r:=vcd K) ur (ykn (js:=[4]) (ys:=["_law_known"]) rfl (ylx wd) (fun C s2 H2 fp=>(yy (r:=rIn K true) yab (pv 0) (pv 1) (by with_unfolding_all rfl))) (fun C s2 H2 fp=>(pv 0)) rfl rfl (hyc:=(all_cons rfl yv)) (hrel:=(all_cons rfl yv))) yi (fun _ _=>rfl)) (yb (xx ye) (yb (pv 1) ye (ya rfl)) (ya rfl)) (ya rfl))))))))))))))) ⟨rfl,rfl⟩ (yqg rfl T.Dq (fun pn x=>(yf (yw (i:=3) yew.nd rfl (Or.inl rfl) wd))) yma)) ?_;refine ⟨_,(yf (yu (x4 x0 (pv 3) wd (vd _)))),?_⟩;exists 3,2;rfl';refine yna ?_;rfl';refine za (fun h0=>?_) (fun h0=>?_)
 .rfl';refine n.textof J.1 (fun _ u g=>?_) (fun r d e=>absurd e (f r d));refine yjo T.A9 ?_;rfl';refine ⟨rfl,?_⟩;rw [bR rfl];exact k _ g
 rfl';refine za (fun h1=>?_) (fun h1=>?_)
 .rfl';refine n.baseof J.1 (fun _ u g=>?_) (fun r d e=>absurd e (f r d));refine yjo T.A9 ?_;rfl';refine ⟨rfl,?_⟩;rw [bR rfl];exact k _ g
 rfl';refine za (fun h2=>?_) (fun h2=>?_)
 .rfl';refine n.bytesof J.1 (fun _ u g=>?_) (fun r d e=>absurd e (f r d));refine yjo T.A9 ?_;rfl';refine ⟨rfl,?_⟩;rw [bR rfl];exact k _ g
 rfl';refine za (fun h3=>?_) (fun h3=>?_)
 .rfl';refine n.learnedof J.1 (fun _ u g=>?_) (fun r d e=>absurd e (f r d));refine yjo T.A9 ?_;rfl';refine ⟨rfl,?_⟩;rw [bR rfl];exact k _ g
 rfl';refine n.names fun l u a6 Y g=>?_;have R:u l=some (.lst ((P.map (·.nm)).map V.str)):=by rw [Y,cu]; rfl
 have S:=g _ _ a2;rfl';refine ⟨Str.ofString "abcdefg",rfl,fun D hD=>?_⟩;refine ygl (fun i G=>G D=some (.lst (((yf5.take i).filter fun z=>decide (z∉P.map (·.nm))).map V.str))/\yx u G) ⟨yc,ve hD⟩ (fun i c G hc hi z=>?_) (fun G z=>?_)
 .obtain ⟨t,I⟩:=z;obtain ⟨W,O⟩:=yo8 hc;have p:i < yf5.length:=by show i < 7; exact W
  have ec:(⟨#[c]⟩:Str)=yf5[i]:=by rw [bJ p] at O; exact (bX O).symm
  have a4:((yf5.take i).filter fun z=>decide (z∉P.map (·.nm))).length <= 7:=by
   refine cn (List.length_filter_le _ _) ?_;rw [cg];omega
  rfl';refine ⟨l,_,rfl,.inl (SqL.of (I _ _ R)),rfl,yg7 _,?_⟩;rw [yk7];rfl';by_cases hin:(⟨#[c]⟩:Str)∈P.map (·.nm)
  .rw [bR hin];refine Ę ?_;refine yak hi ⟨?_,I⟩;rw [t,cB p,List.filter_append,<- ec,List.filter_cons_of_neg (by simpa using hin)];simp
  .rw [bV hin];refine ħ ?_;rfl';refine xn t (vq (by rw [bH]; omega)) hi ⟨?_,fun y o e=>yj (yd e hD) (I _ _ e)⟩;rw [yc,cB p,List.filter_append,<- ec,List.filter_cons_of_pos (by simpa using hin),cj];rfl
 .obtain ⟨t,I⟩:=z;rw [show yf5.take (Str.ofString "abcdefg").cps.size=yf5 from rfl] at t
  obtain ⟨z,zs,M⟩:∃ z zs,(yf5.filter fun z=>decide (z∉P.map (·.nm)))=z :: zs:=by
   cases e:yf5.filter fun z=>decide (z∉P.map (·.nm)) with
   | cons z zs=>exact ⟨z,zs,rfl⟩
   | nil =>
    have W:=ċ (l:=yf5) (m:=P.map (·.nm)) yor fun y hy=>by
     have:=List.filter_eq_nil_iff.mp e y hy;simpa using this
    rw [bH] at W;exact absurd (show (7:Nat) <= P.length from W) (by omega)
  have a1:z∈yf5.filter fun z=>decide (z∉P.map (·.nm)):=by rw [M]; exact cG
  obtain ⟨Z,q⟩:=cX.mp a1;have q:z∉P.map (·.nm):=of_decide_eq_true q;rw [M] at t;have U:=I _ _ S;rfl';refine Ĥ (v:=.str z) (SqL.of t) (xc (j:=0) rfl) ?_;rfl';refine ⟨by walk_at "len",fun tx htx=>?_⟩
  with_reducible first | refine y7 htx fun H2 S2 htx2=>?_ | refine vk htx fun H2 S2 htx2=>?_
  have N:=g.trans (I.trans S2);have a3:=S2 _ _ U;rfl';refine (n.same N).putE (x:=some b) (ts:=[]) (ypm Z) ⟨htx2,(fun x hx=>by cases hx),cb _⟩ (fun y e=>by cases e; exact J.1) (by omega) (fun z=>absurd z (cw _)) (fun _ ⟨r,d,e⟩=>absurd (bM.mpr ⟨r,d,e⟩) q) (fun _ _ y e a5 H3 S3=>?_) (fun _ _ L hL=>?_)
  .refine yjo T.A9 ?_;rfl';refine ⟨rfl,?_⟩;rw [bR rfl];exact k _ (N.trans S3)
  .obtain ⟨r,d,e,_⟩:=hL;exact absurd e (f r d)
theorem đ:yk ["_law_script","_law_store","_law_names_here","_law_model_here","_law_k","_law_cell","_law_text","_law_base"] ["_law_script","_law_store","_law_names_here"] (yg ytc):=wv (by right)
inductive yh3 (K:W.Frag) (a:Ads) (vs:List V) (H:Hp) (Q:VK) (E':XK):Prop
 | mk (l st nl:Addr) (zs:List Int) (ns:List Str) (C:Cf) (X:Sx) (B:Hp):(vs=[.ref l,.ref st,.ref nl])->(SqL K B l (zs.map V.int))->(B nl=some (.lst (ns.map V.str)))->(ns.length=6)->(ns.Nodup)->((∀ x,x∈ns->okN x))->(C.w=1)->(Sto K a H st C [] X)->(Bs B H X)->(∀ P Y md tu tx H',Sto K a H' st C P Y->Bs B H' Y->Mdl H' Y md P tu tx->B md=none->H' md=some (.dK (mdK tu P))->(∀ q,q∈P->q.nm∈ns)->1 <= P.length->Q (.ref md) H')->yh3 K a vs H Q E'
theorem ywv (T:Txt K mg a):wb P w K mg base (CXe P w) 14 a.Nv a.Nw ["_law_script","_law_store","_law_names_here"] (yh3 K a):=by
 exists T.Gi.F.okE,đ,Z;obtain ⟨l,st,nl,zs,p,C,X,B,rfl,hl,O,n6,ae,af,aj,J,hB,k⟩:=h;refine yo (yw (i:=3) đ.nd rfl (Or.inl rfl) yd8) ?_;refine yo (PS.nox (z0 PassesOwn.never rfl (uw rfl T.Be (yb (yr vy yi (yr wy (y8 (ybd T) (Z.mono (by decide)) rfl T.B8.m T.B8.F.kp T.B8.B .nil vg (yb (pv 0) (yb yi ye (ya rfl)) (ya rfl))) yi)) ye (ya rfl))) (w6 (i:=4) đ.nd rfl (Or.inl rfl)) (yh (yw (i:=5) đ.nd rfl (Or.inl rfl) (y8 (ybd T) (Z.mono (by decide)) rfl T.B8.m T.B8.F.kp T.B8.B .nil vg (yb (pv 0) (yb (yr vy yi (pv 4)) ye (ya rfl)) (ya rfl)))) (yh (yw (i:=6) đ.nd rfl (Or.inl rfl) (yr ym2 (xx (yb (yr wy (pv 5) yi) ye (ya rfl))) (yr wy (yr vj (pv 5) yi) yi))) (yh (yw (i:=7) đ.nd rfl (Or.inl rfl) uk) (yh (zz (wa (PW.pt (ymj (yy yf3 (pv 4) yi (vd _)) (yic (yy yf3 (yr wy (yr vj (pv 5) yi) yi) yi (vd _))))) (yf (yw (i:=7) đ.nd rfl (Or.inl rfl) (ud ur (pv 2) (yr wy (yr vj (pv 5) yi) (pv 4)) (fun _ _=>rfl)))) y9)) (yh (yt (vi (pv 1) T.A3 T.Oo (yin T) (Z.mono (by decide)) T.On .nil wc (yb (ud ur (pv 2) (pv 4) (fun _ _=>rfl)) (yb (pv 6) (yb (pv 7) ye (ya rfl)) (ya rfl)) (ya rfl)))) (yf (Ŵ (u8 Z) (pv 3) (ud ur (pv 2) (pv 4) (fun _ _=>rfl)) (τ (yb (pv 6) (yb (pv 7) ye (ya rfl)) (ya rfl))) rfl))))))))) ?_;refine ⟨_,(yf (yu (pv 3))),?_⟩;exists 3,5;rfl';intro M hmd0
 with_reducible first | refine y7 hmd0 fun H1 S1 hmd1=>?_ | refine vk hmd0 fun H1 S1 hmd1=>?_
 have R:¬ X.f M:=fun z=>by
  obtain ⟨o,e⟩:=J.live M z;rw [hmd0] at e;cases e
 have d:=hB.same S1;have a0:B M=none:=hB.s.free hmd0;rfl';refine ⟨l,zs,9,rfl,d.s.seq hl,by decide,fun c9 am an=>?_⟩;obtain ⟨m,hm,m1,m6⟩:∃ m:Nat,1+c9 % 6=(m:Int)/\1 <= m/\m <= 6:=⟨(1+c9 % 6).toNat,by omega,by omega,by omega⟩;rfl';rw [hm];refine ⟨_,rfl,by omega,by omega,θ (n:=m) (fun i σ2 G=>∃ (P:List Pd) (X:Sx) (tu tx:Str->Addr) (v4 v5 v6 v7:Option V),σ2=[some (.ref l),some (.ref st),some (.ref nl),some (.ref M),v4,v5,v6,v7]/\Sto K a G st C P X/\Bs B G X/\Mdl G X M P tu tx/\G M=some (.dK (mdK tu P))/\P.map (·.nm)=p.take i)
  ⟨[],X,fun _=>0,fun _=>0,_,_,_,_,rfl,J.same S1,d,⟨.inl hmd1,R,(fun q hq=>by cases hq),(fun q hq=>by cases hq)⟩,hmd1,rfl⟩ ?_ ?_⟩
 .clear J hB d S1 hmd1 R X;rintro i σ2 G hi ⟨P,X,tu,tx,v4,v5,v6,v7,rfl,J,d,hM,S,W⟩;have D:i < p.length:=by omega
  obtain ⟨al,I⟩:=yp5 ae W D;rfl';refine ⟨l,zs,2+i,by rw [show ((2+i:Nat):Int)=2+(0+(i:Int)) by omega]; rfl,d.s.seq hl,by omega,fun N ah ak=>?_⟩;rfl';refine ⟨by walk_at "len",fun r1 hr1=>?_⟩
  with_reducible first | refine y7 hr1 fun G1 S1 er1=>?_ | refine vk hr1 fun G1 S1 er1=>?_
  rfl';obtain ⟨ts,a9,a7,ai⟩:=yyq (c:=N) (k:=N / 256 % 2) (by omega);refine ⟨r1,_,_,rfl,rfl,er1,by omega,by omega,by rw [sizeLine_eq]; show 1 * _ <= _; omega,fun y hy0=>?_⟩;rw [a9]
  with_reducible first | refine y7 hy0 fun G2 S2 hy2=>?_ | refine vk hy0 fun G2 S2 hy2=>?_
  have U:=S1.trans S2;rfl';refine ⟨fun σ2 F=>G2=F/\∃ x:Option Str,σ2=[some (.ref l),some (.ref st),some (.ref nl),some (.ref M),some (.int (0+(i:Int))),some (.int N),some (.ref y),some (baV x)]/\∀ b,x=some b->∃ r,r∈P/\r.nm=b,?_,?_⟩
  .refine ifI (0 < i) (fun Qb qT qF=>?_) (fun i0=>?_) ?_
   .rfl';refine za (fun h1=>?_) (fun h1=>qF);rfl';by_cases h3:0 < N / 512 % 4
    .rw [bR h3];exact qT (by omega)
    .rw [bV h3];exact qF
   .rfl'
    obtain ⟨j,hj,aa⟩:∃ j:Nat,N / 2048 % (0+(i:Int))=(j:Int)/\j < i:=by
     have h0:=cO (N / 2048) (show (0+(i:Int))≠0 by omega);have h1:=cF (N / 2048) (show 0 < (0+(i:Int)) by omega);exact ⟨(N / 2048 % (0+(i:Int))).toNat,by omega,by omega⟩
    rw [hj];have a1:j < p.length:=by omega
    refine Ĥ (v:=.str p[j]) (SqL.of (U _ _ (d.s _ _ O))) (xc (by rw [bN,bJ a1]; rfl)) ?_;rfl';exact ⟨rfl,some p[j],rfl,fun b e=>yu8 W aa (by rw [bJ a1]; exact e)⟩
   .exact ⟨rfl,none,rfl,fun b e=>by cases e⟩
  rintro σ2 F ⟨rfl,x,rfl,hx⟩
  obtain ⟨L,hL⟩:∃ L,ToD P x L:=by
   cases x with
   | none=>exact ⟨[],rfl⟩
   | some b =>
    obtain ⟨r,Z,e⟩:=hx b rfl;exact ⟨_,r,Z,e,rfl⟩
  have g:=J.same U;obtain ⟨ds,vl,vm,vp,vc,ag⟩:=g.ins;rfl';refine Ĥ (v:=.str p[i]) (SqL.of (U _ _ (d.s _ _ O))) (by rw [Int.zero_add]; exact xc (by rw [bN,bJ D]; rfl)) ?_;rfl';refine g.put (af _ (cE D)) ⟨hy2,a7,by omega⟩ hL I (by omega) fun Y H3 a2 g3=>?_;have a6:=(d.same U).go g g3;have ad:=(hM.same U).go g g3;have a5:=(Kf.go ⟨U _ _ S,hM.n⟩ g g3).1;have ab:=(Kf.new (J.same S1) hy0 hy2).go g g3;rfl';refine ⟨by walk_at "len",fun t ht0=>?_⟩
  with_reducible first | refine y7 ht0 fun H4 S4 ht4=>?_ | refine vk ht0 fun H4 S4 ht4=>?_
  have ac:=a2.same S4;have a3:=a6.same S4;have a4:=ad.same S4;have u:=S4 _ _ a5;rfl';refine Ĥ (v:=.str p[i]) (SqL.of (a3.s _ _ O)) (by rw [Int.zero_add]; exact xc (by rw [bN,bJ D]; rfl)) ?_;rfl';refine ⟨M,_,rfl,yjq.k (k:=.inr p[i]) u (vq (by unfold mdK; rw [bH]; omega)),?_⟩;rw [yhx (q:=⟨p[i],x,L,ts⟩) I];refine ⟨_,Y,_,_,_,_,_,_,rfl,ac.but (WSh.mu u rfl) a4.n But.upd,a3.but a0 But.upd,a4.put u I (Kf.new a2 ht0 ht4) (ab.same S4),yc,?_⟩;rw [cj,W,List.take_succ,bJ D];rfl
 .clear J d S1 hmd1 R;rintro σ2 G ⟨P,X,tu,tx,v4,v5,v6,v7,rfl,J,d,hM,S,W⟩;rfl';refine k P X M tu tx G J d hM a0 S (fun q hq=>?_) ?_
  .have:q.nm∈p.take m:=by rw [<- W]; exact bM.mpr ⟨q,hq,rfl⟩
   exact cP this
  .have e:=congrArg List.length W;rw [bH,cg] at e;omega
structure Iv (K:W.Frag) (a:Ads) (B H:Hp) (st md od:Addr) (C:Cf) (P P0:List Pd) (X:Sx) (tu tx tu0 tx0:Str->Addr):Prop where
 s:Sto K a H st C P X
 b:Bs B H X
 m:Mdl H X md P tu tx
 d:H md=some (.dK (mdK tu P))
 o:Mdl H X od P0 tu0 tx0
 e:H od=some (.dK (mdK tu0 P0))
 ne:od≠md
 nb:B md=none
 sub:∀ q,q∈P->∃ r,r∈P0/\r.nm=q.nm
 w:C.w=1
structure P0k (P0:List Pd):Prop where
 z:P0.length <= 6
 k:∀ r,r∈P0->okN r.nm/\Sgs r.tx/\r.tx.length <= 1/\∀ b,r.bs=some b->nmS b=true
theorem Iv.same {B H H':Hp} {st od:Addr} {C:Cf} {P P0:List Pd} {X:Sx} {tx tu0 tx0:Str->Addr} (h:Iv K a B H st md od C P P0 X tu tx tu0 tx0) (S:yx H H'):Iv K a B H' st md od C P P0 X tu tx tu0 tx0 :=
 ⟨h.s.same S,h.b.same S,h.m.same S,S _ _ h.d,h.o.same S,S _ _ h.e,h.ne,h.nb,h.sub,h.w⟩
theorem Iv.len {B H:Hp} {st od:Addr} {C:Cf} {P P0:List Pd} {X:Sx} {tx tu0 tx0:Str->Addr} (h:Iv K a B H st md od C P P0 X tu tx tu0 tx0) (k:P0k P0):P.length <= 6:=by
 have:=ċ (l:=P.map (·.nm)) (m:=P0.map (·.nm)) h.s.nd fun x c=>by
  obtain ⟨q,d,rfl⟩:=bM.mp c;obtain ⟨r,b,e⟩:=h.sub q d;exact bM.mpr ⟨r,b,e⟩
 rw [bH,bH] at this;have:=k.z;omega
theorem yzo (P:List Pd) (b:Str):(∃ r,r∈P/\r.nm=b)\/∀ q,q∈P->q.nm≠b:=by
 by_cases h:∃ r,r∈P/\r.nm=b
 .exact .inl h
 .exact .inr fun q a e=>h ⟨q,a,e⟩
theorem ye8:yk ["_law_store","_law_model_here","_law_old","_law_name","_law_cell","_law_text","_law_base"] ["_law_store","_law_model_here","_law_old","_law_name","_law_cell"] (yg ys9):=wv (by right)
inductive ydj (K:W.Frag) (a:Ads) (vs:List V) (H:Hp) (Q:VK) (E':XK):Prop
 | mk (B:Hp) (st md od:Addr) (C:Cf) (P P0:List Pd) (X:Sx) (tu tx tu0 tx0:Str->Addr) (b:Str) (ce:Int):(vs=[.ref st,.ref md,.ref od,.str b,.int ce])->(Iv K a B H st md od C P P0 X tu tx tu0 tx0)->(P0k P0)->((∃ r,r∈P0/\r.nm=b))->(0 <= ce)->(ce < 2147483647)->(∀ P' Y tu' tx' H',Iv K a B H' st md od C P' P0 Y tu' tx' tu0 tx0->Q (.bl true) H')->ydj K a vs H Q E'
theorem yx3 (T:Txt K mg a):wb P w K mg base CX0 16 a.Nx a.Ny ["_law_store","_law_model_here","_law_old","_law_name","_law_cell"] (ydj K a):=by
 exists T.Gj.F.ok,ye8,f;obtain ⟨B,st,l,od,C,P,P0,X,I,tx,a2,a6,b,ce,rfl,c,hk,⟨J,R,rfl⟩,aw,aA,k⟩:=h;obtain ⟨a5,ak,ax,av⟩:=hk.k J R;have am:=c.len hk;refine yo (wa (ybh (ć (u8 f) (pv 3) (pv 1))) (yh (wa (yy yy2 (yr wy (pv 4) yi) yi (vd _)) (yf (yu (ua (x4 (yja f.units) (y8 (yil T) (f.mono (by decide)) rfl T.Cp.m T.Cp.F.kp T.Cp.B .nil vg (yb (pv 0) (yb (pv 3) ye (ya rfl)) (ya rfl))) (τ (yb wd (yb uk ye (ya rfl)) (ya rfl))) (vd _)) (z5 (y8 (ym7 T) (f.mono (by decide)) rfl T.De.m T.De.F.kp T.De.B .nil vg (yb (pv 0) (yb (pv 3) (yb (yr wy (yr vj (pv 4) yi) yi) ye (ya rfl)) (ya rfl)) (ya rfl))))))) y9) (yh (yvj (x9 (u8 f) (pv 2) (pv 3) (fun _ _=>rfl)) (yex rfl (ug (w6 (i:=5) ye8.nd rfl (Or.inl rfl)) (ug (w6 (i:=6) ye8.nd rfl (Or.inl rfl)) Ÿ)))) (yh (zz (wa (PW.pt (ĥ (ybh (yfj (u8 f) (pv 6) (pv 1))) (Ĕ (yy x0 (yr wy (yr vj (pv 4) yi) yi) yi (vd _))))) (yf (yw (i:=6) ye8.nd rfl (Or.inl rfl) uk)) y9)) (yh (yt (vi (pv 0) T.A3 T.Oo (yin T) (f.mono (by decide)) T.On .nil wc (yb (pv 3) (yb (pv 5) (yb (pv 6) ye (ya rfl)) (ya rfl)) (ya rfl)))) (yh (Ŵ (u8 f) (pv 1) (pv 3) (τ (yb (pv 5) (yb (pv 6) ye (ya rfl)) (ya rfl))) rfl) (yf (yu yc3))))))) y9) ?_;refine yo (wa (xo (yq (yed rfl) rfl T.O5 (by right) (yb (yii (we (js:=[3]) (ys:=["_law_name"]) rfl (yig (pv 1)) (fun C s2 H2 fp=>(x4 x0 (ud (r:=vb7 K) u7 (pv 0) yi (fun _ _=>rfl)) (pv 1) (vd _))) rfl rfl (hyc:=(all_cons rfl yv)) (hrel:=(all_cons rfl yv)))) ye (ya rfl)))) (yf (yu (x4 (yja f.units) (y8 (yil T) (f.mono (by decide)) rfl T.Cp.m T.Cp.F.kp T.Cp.B .nil vg (yb (pv 0) (yb (pv 3) ye (ya rfl)) (ya rfl))) (τ (yb wd (yb uk ye (ya rfl)) (ya rfl))) (vd _)))) y9) ?_;refine yo (yt (ydt (pv 1) (pv 3) ⟨rfl,rfl,rfl,rfl⟩)) ?_;refine ⟨_,(yf (yu (ua (x4 (yja f.units) (y8 (yil T) (f.mono (by decide)) rfl T.Cp.m T.Cp.F.kp T.Cp.B .nil vg (yb (pv 0) (yb (pv 3) ye (ya rfl)) (ya rfl))) (τ (yb wd (yb uk ye (ya rfl)) (ya rfl))) (vd _)) (z5 (yq (zh rfl) rfl T.Dj (by right) (yb (we (js:=[0,3]) (ys:=["_law_store","_law_name"]) rfl (uw rfl T.Be (yb yi ye (ya rfl))) (fun C s2 H2 fp=>(y8 (ym7 T) (f.mono (by decide)) rfl T.De.m T.De.F.kp T.De.B .nil vg (yb (pv 1) (yb (pv 2) (yb (pv 0) ye (ya rfl)) (ya rfl)) (ya rfl)))) rfl rfl (hyc:=(all_cons rfl (all_cons rfl yv))) (hrel:=(all_cons rfl (all_cons rfl yv)))) ye (ya rfl))))))),?_⟩;exists 5,2;rfl';rcases yzo P J.nm with ⟨r,f,aq⟩ | M
 .rw [<- aq];refine ⟨l,_,rfl,c.m.get f,false,rfl,Ę ?_⟩;rfl';refine ⟨l,mdK I P,rfl,c.d,fun o D hD=>?_⟩;have aa:(mdK I P).length=P.length:=bH _;have as:D≠l:=fun z=>by rw [z,yc] at hD; cases hD
  refine ĵ (fun i G=>G D=some (.lst ((P.take i).map fun q=>V.bl (decide (q.bs=some r.nm))))/\yx (upd H l (.frz o (.dK (mdK I P)))) G) ⟨yc,ve hD⟩ (fun i G _ z=>z.2 _ _ yc) (fun i kk v G a1 hi z=>?_) (fun G z=>?_)
  .obtain ⟨gD,S⟩:=z;rw [aa] at hi;have O:P[i]?=some P[i]:=bJ hi;unfold mdK at a1;rw [bN,O] at a1;obtain rfl:v=.ref (I (P[i]).nm):=by cases a1; rfl
   have U:=(c.m.t _ (cE hi)).1;have ad:=S _ _ (yj (fun z=>by rw [z,c.d] at U; cases U) U);rfl';refine Ė (SqT.of ad) (xc (j:=1) rfl) ?_;rfl';obtain ⟨b1,b2⟩:=yl6 (P[i]).bs r.nm;refine ⟨b1,?_⟩;rw [b2];refine xn (n:=(mdK I P).length) gD (vq (by rw [bH,cg]; omega)) (by omega) ⟨?_,fun y o e=>yj (yd e hD) (S _ _ e)⟩;rw [yc,cB hi,cj];rfl
  .obtain ⟨gD,S⟩:=z;rw [aa,c6] at gD;refine ⟨l,o,.dK (mdK I P),(fun o u e=>by rw [c.d] at e; cases e),S _ _ yc,?_⟩
   have S3:yx H (upd G l (.dK (mdK I P))):=fun y o' e=>by
    by_cases z:y=l
    .rw [z,yc]; rw [z,c.d] at e; exact e
    .exact yj z (S _ _ (yj z e))
   have ai:(upd G l (.dK (mdK I P))) D=some (.lst ((P.map fun q=>decide (q.bs=some r.nm)).map V.bl)):=yj as (by rw [gD,cu]; rfl);generalize upd G l (.dK (mdK I P))=H3 at S3 ai ⊢;have g:=c.same S3;rfl';refine ⟨D,_,rfl,SqL.of ai,?_⟩;by_cases hu:∃ q,q∈P/\q.bs=some r.nm
   .have e:(P.map fun q=>decide (q.bs=some r.nm)).any id=true:=by
     obtain ⟨q,O,e⟩:=hu;exact di.mpr ⟨true,bM.mpr ⟨q,O,bR e⟩,rfl⟩
    rw [e];refine ⟨true,rfl,ħ ?_⟩;rfl';refine ⟨st,C,P,X,r.nm,rfl,g.s,(c.s.nm r f).1,(fun no=>absurd rfl (no r f)),(fun r' a0 e' W t H4 ht0 ht4 S4=>?_),(fun r' a0 e' nu=>absurd hu fun ⟨q,O,e⟩=>nu q O e)⟩;rfl';refine ⟨by walk_at "len",fun t2 ht20=>?_⟩
    with_reducible first | refine y7 ht20 fun H5 S5 ht25=>?_ | refine vk ht20 fun H5 S5 ht25=>?_
    refine yjl (d:=.tuple [.str "use",.none]) (k:=1) (Sd.tup (SqT.of (S5 _ _ ht4)) (.cons (Sd.str (by right)) (.cons Sd.non .nil))) (Sd.tup (SqT.of ht25) (.cons (Sd.str (by right)) (.cons Sd.non .nil))) (by decide) ?_;exact k P X I tx H5 (g.same (S4.trans S5))
   .have W:∀ q,q∈P->q.bs≠some r.nm:=fun q O e=>hu ⟨q,O,e⟩
    have e:(P.map fun q=>decide (q.bs=some r.nm)).any id=false:=by
     rw [List.any_map,List.any_eq_false];intro q O;simpa using W q O
    rw [e];refine ⟨false,rfl,Ę ?_⟩;rfl';refine ⟨l,rfl,.inl ⟨_,.of g.d⟩,?_⟩;rfl';refine ⟨mdK I P,.inr r.nm,_,g.d,rfl,yi3 I f,?_⟩;rw [yku];have a8:=g.m.drop g.d r.nm;have N:=g.s.but (H':=upd H3 l (.dK (mdK I (P.filter fun q=>decide (q.nm≠r.nm))))) (WSh.mu g.d rfl) g.m.n But.upd;have ae:=g.b.but (H':=upd H3 l (.dK (mdK I (P.filter fun q=>decide (q.nm≠r.nm))))) c.nb But.upd;have a7:=g.o.but (H':=upd H3 l (.dK (mdK I (P.filter fun q=>decide (q.nm≠r.nm))))) g.d rfl c.ne But.upd;have ab:upd H3 l (.dK (mdK I (P.filter fun q=>decide (q.nm≠r.nm)))) od=some (.dK (mdK a2 P0)):=yj c.ne g.e;have p:upd H3 l (.dK (mdK I (P.filter fun q=>decide (q.nm≠r.nm)))) l=some (.dK (mdK I (P.filter fun q=>decide (q.nm≠r.nm)))):=yc;generalize upd H3 l (.dK (mdK I (P.filter fun q=>decide (q.nm≠r.nm))))=H4 at a8 N ae a7 ab p ⊢;rfl';refine ⟨st,C,P,X,r.nm,rfl,N,(c.s.nm r f).1,(fun no=>absurd rfl (no r f)),(fun r' a0 e' W=>absurd W hu),(fun r' a0 e' _ t Y H5 ao g5 an=>?_)⟩;have Z:Iv K a B H5 st l od C (P.filter fun q=>decide (q.nm≠r.nm)) P0 Y I tx a2 a6:=⟨ao,ae.go N g5,a8.go N g5,(Kf.go ⟨p,a8.n⟩ N g5).1,a7.go N g5,(Kf.go ⟨ab,a7.n⟩ N g5).1,c.ne,c.nb,fun q O=>c.sub q (cX.mp O).1,c.w⟩;rfl';refine ⟨by walk_at "len",fun t2 ht20=>?_⟩
    with_reducible first | refine y7 ht20 fun H6 S6 ht26=>?_ | refine vk ht20 fun H6 S6 ht26=>?_
    refine yjl (d:=.tuple [.str "",.none]) (k:=1) (Sd.tup (SqT.of (S6 _ _ an.1)) (.cons (Sd.str (by right)) (.cons Sd.non .nil))) (Sd.tup (SqT.of ht26) (.cons (Sd.str (by right)) (.cons Sd.non .nil))) (by decide) ?_;have a4:=Z.same S6;rfl';refine ⟨_,rfl,by decide,by decide,fun D2 af=>?_⟩;refine Ò (n:=5) (fun _=>V.bl true) af (fun i G7 hi S7 a3=>?_) (fun G7 S7 a3=>?_)
    .rfl';refine ⟨st,C,_,Y,r.nm,_,rfl,(a4.same S7).s,c.s.nm r f,(fun q O e=>?_),a4.len hk,fun H8 S8=>?_⟩
     .have:=(cX.mp O).2;exact of_decide_eq_true this e
     .exact Mp.doneR af (vq (by decide)) hi (S7.trans S8) (S8 _ _ a3) rfl
    .have a9:G7 D2=some (.lst (([true,true,true,true,true]:List Bool).map V.bl)):=a3;rfl';refine ⟨D2,_,rfl,SqL.of a9,?_⟩;exact k _ Y I tx G7 (a4.same S7)
 .refine ⟨l,none,rfl,c.m.getNo M,true,rfl,ħ ?_⟩;rfl';refine ylv (fun h1=>?_) (fun h1=>?_);rotate_left
  .rfl';refine ⟨st,C,P,X,J.nm,rfl,c.s,a5.1,(fun _ t H4 ht0 ht4 S4=>?_),(fun r f e=>absurd e (M r f)),(fun r f e=>absurd e (M r f))⟩;rfl';refine ⟨by walk_at "len",fun t2 ht20=>?_⟩
   with_reducible first | refine y7 ht20 fun H5 S5 ht25=>?_ | refine vk ht20 fun H5 S5 ht25=>?_
   refine yjl (d:=.tuple [.str "piece",.none]) (k:=1) (Sd.tup (SqT.of (S5 _ _ ht4)) (.cons (Sd.str (by right)) (.cons Sd.non .nil))) (Sd.tup (SqT.of ht25) (.cons (Sd.str (by right)) (.cons Sd.non .nil))) (by decide) ?_;have Z:=c.same (S4.trans S5);rfl';refine ⟨st,C,P,X,J.nm,_,rfl,Z.s,a5,M,am,fun H6 S6=>?_⟩;exact k P X I tx H6 (Z.same S6)
  .rfl';refine ⟨od,_,rfl,c.o.get R,?_⟩;rfl';refine ⟨_,_,rfl,SqT.of (c.o.t J R).1,rfl,?_⟩;rfl';refine ⟨fun σ2 F=>H=F/\∃ x:Option Str,σ2=[some (.ref st),some (.ref l),some (.ref od),some (.str J.nm),some (.int ce),some (.ref (a6 J.nm)),some (baV x)]/\∀ b,x=some b->∃ r,r∈P/\r.nm=b,?_,?_⟩
   .refine vdo True (∀ b,J.bs=some b->∃ r,r∈P/\r.nm=b) (fun Qb qT qF=>?_) (fun _=>?_) (fun hx=>?_)
    .rfl'
     obtain ⟨ob,U,au⟩:∃ ob:Option V,((baV J.bs=.non/\ob=none/\∃ kvs,H l=some (.dK kvs))\/Ø H l (baV J.bs) ob)/\(ob.isSome=true->∀ b,J.bs=some b->∃ r,r∈P/\r.nm=b):=by
      cases hbs:J.bs with
      | none=>exact ⟨none,.inl ⟨rfl,rfl,_,c.d⟩,fun z=>by cases z⟩
      | some b =>
       rcases yzo P b with ⟨r,f,rfl⟩ | hn
       .exact ⟨_,.inr (c.m.get f),fun _ b' e=>by cases e; exact ⟨r,f,rfl⟩⟩
       .exact ⟨none,.inr (c.m.getNo hn),fun z=>by cases z⟩
     refine ⟨l,ob,rfl,U,?_⟩
     cases ob with
     | none =>
      refine ⟨true,rfl,ħ ?_⟩;exact qT trivial
     | some v =>
      refine ⟨false,rfl,Ę ?_⟩;rfl';by_cases h3:ce / 3 % 2=1
      .rw [bR h3];exact qT trivial
      .rw [bV h3];exact qF (au rfl)
    .rfl';exact ⟨rfl,none,rfl,fun b e=>by cases e⟩
    .exact ⟨rfl,J.bs,rfl,hx⟩
   rintro σ2 F ⟨rfl,x,rfl,hx⟩
   obtain ⟨L,hL⟩:∃ L,ToD P x L:=by
    cases x with
    | none=>exact ⟨[],rfl⟩
    | some b =>
     obtain ⟨r,f,e⟩:=hx b rfl;exact ⟨_,r,f,e,rfl⟩
   obtain ⟨ds,vl,vm,vp,vc,ay⟩:=c.s.ins;have az:=c.w;rfl';refine c.s.put a5 ⟨(c.o.x J R).1,ak,by omega⟩ hL M (by omega) fun Y H3 ac g3=>?_;have ap:=(c.o.x J R).go c.s g3;have ag:=c.m.go c.s g3;have ah:=(Kf.go ⟨c.d,c.m.n⟩ c.s g3).1;have aj:=c.b.go c.s g3;have ar:=c.o.go c.s g3;rfl';refine ⟨by walk_at "len",fun t ht0=>?_⟩
   with_reducible first | refine y7 ht0 fun H4 S4 ht4=>?_ | refine vk ht0 fun H4 S4 ht4=>?_
   have p:=S4 _ _ ah;rfl';refine ⟨l,_,rfl,yjq.k (k:=.inr J.nm) p (vq (by unfold mdK; rw [bH]; omega)),?_⟩;rw [yhx (q:=⟨J.nm,x,L,J.tx⟩) M];rfl';refine k _ Y _ _ _ ⟨(ac.same S4).but (WSh.mu p rfl) ag.n But.upd,(aj.same S4).but c.nb But.upd,(ag.same S4).put p M (Kf.new ac ht0 ht4) (ap.same S4),yc,(ar.same S4).but p rfl c.ne But.upd,yj c.ne (S4 _ _ (Kf.go ⟨c.e,c.o.n⟩ c.s g3).1),c.ne,c.nb,fun q O=>?_,c.w⟩;rcases cr.mp O with z | z
   .exact c.sub q z
   .rw [bZ.mp z];exact ⟨J,R,rfl⟩
theorem yj1 (x y:Option Str):vab (baV x) (baV y)=true:=by cases x <;> cases y <;> rfl
theorem u5:yk ["_law_script","_law_looks_here","_law_names_here","_law_store","_law_model_here","_law_old","_law_k","_law_cell","_law_name","_law_learned","_law_base"] ["_law_script"] (yg ysg):=wv (by right)
inductive ybk (K:W.Frag) (vs:List V) (H:Hp) (Q:VK) (E':XK):Prop
 | mk (l:Addr) (ns:List Int):(vs=[.ref l])->(SqL K H l (ns.map V.int))->(ns.length <= 63)->(∀ H',Q (.bl true) H')->ybk K vs H Q E'
theorem yu3 (T:Txt K mg a):wb P w K mg base CX0 17 a.Ol a.Hs ["_law_script"] (ybk K):=by
 exists T.If.F.ok,u5,c;obtain ⟨l,zs,rfl,Z,b5,k⟩:=h;refine yo (yw (i:=1) u5.nd rfl (Or.inl rfl) (y8 (yuw T) (c.mono (by decide)) rfl T.Gg.m T.Gg.F.kp T.Gg.B .nil vg (yb (y8 (ybd T) (c.mono (by decide)) rfl T.B8.m T.B8.F.kp T.B8.B .nil vg (yb (pv 0) (yb yi ye (ya rfl)) (ya rfl))) (yb yi ye (ya rfl)) (ya rfl)))) ?_;refine yo (yw (i:=2) u5.nd rfl (Or.inl rfl) (y8 (yx4 T) (c.mono (by decide)) rfl T.Gh.m T.Gh.F.kp T.Gh.B .nil vg (yb (y8 (ybd T) (c.mono (by decide)) rfl T.B8.m T.B8.F.kp T.B8.B .nil vg (yb (pv 0) (yb yi ye (ya rfl)) (ya rfl))) ye (ya rfl)))) ?_;refine yo (yw (i:=3) u5.nd rfl (Or.inl rfl) (uf T.Q2 (yug T) (c.mono (by decide)) rfl T.Q1 T.Qv .nil wc (yb (pv 1) (yb yi ye (ya rfl)) (ya rfl)))) ?_;refine yo (yw (i:=4) u5.nd rfl (Or.inl rfl) (vo (ywv T) (c.mono (by decide)) rfl T.Gi.m T.Gi.F.kp T.Gi.B .nil wc (yb (pv 0) (yb (pv 3) (yb (pv 2) ye (ya rfl)) (ya rfl)) (ya rfl)))) ?_;refine yo (yw (i:=5) u5.nd rfl (Or.inl rfl) (wt yfm rfl T.Iz (by right) (yb (pv 4) ye (ya rfl)))) ?_;refine yo (z0 PassesOwn.never rfl (uw rfl T.Be (yb (yq (ú rfl) rfl T.Ik (by right) (yb yi (yb (yq (û rfl) rfl T.Il (by right) (yb yi (yb (yr u6 (yq y6 rfl T.Ah (by right) (yb (pv 0) ye (ya rfl))) yi) ye (ya rfl)) (ya rfl))) ye (ya rfl)) (ya rfl))) ye (ya rfl))) (w6 (i:=6) u5.nd rfl (Or.inl rfl)) (yh (yw (i:=7) u5.nd rfl (Or.inl rfl) (y8 (ybd T) (c.mono (by decide)) rfl T.B8.m T.B8.F.kp T.B8.B .nil vg (yb (pv 0) (yb (yr vy yi (pv 6)) ye (ya rfl)) (ya rfl)))) (yh (yw (i:=8) u5.nd rfl (Or.inl rfl) (ud ur (wt (Â rfl) rfl T.Aq (by right) (yb (pv 5) ye (ya rfl))) (yr wy (yr vj (pv 7) yi) (yq yas rfl T.Ah (by right) (yb (pv 5) ye (ya rfl)))) (fun _ _=>rfl))) (yh (wa (xw (xo (y8 (yx3 T) (c.mono (by decide)) rfl T.Gj.m T.Gj.F.kp T.Gj.B .nil vg (yb (pv 3) (yb (pv 4) (yb (pv 5) (yb (pv 8) (yb (yr vj (pv 7) yi) ye (ya rfl)) (ya rfl)) (ya rfl)) (ya rfl)) (ya rfl))))) (yf (yu yc3)) y9) (yf (wa (yy (Ņ c.units) (w4 (pv 3) T.A3 T.El.m (ync T) (c.mono (by decide)) T.El.B .nil vg) (wt (Â rfl) rfl T.Aq (by right) (yb (pv 4) ye (ya rfl))) (vd _)) (yf (yu yc3)) y9)))))) ?_;refine yo (yqv (z0 PassesOwn.never rfl (yqr (pv 4)) (w6 (i:=8) u5.nd rfl (Or.inl rfl)) (yh (wa (PW.pt (ĥ (yy (Ņ c.units) (vi (pv 3) T.A3 T.Ep.m (ynp T) (c.mono (by decide)) T.Ep.B .nil wc (yb (pv 8) ye (ya rfl))) (ud u7 (x9 (u8 c) (pv 4) (pv 8) (fun _ _=>rfl)) yi (fun _ _=>rfl)) (vd _)) (Ĕ (yy yy2 (vi (pv 3) T.A3 T.Es.m (ym3 T) (c.mono (by decide)) T.Es.B .nil wc (yb (pv 8) ye (ya rfl))) (ud u7 (x9 (u8 c) (pv 4) (pv 8) (fun _ _=>rfl)) yi (fun _ _=>rfl)) (vd _))))) (yf (yu yc3)) y9) (yh (yw (i:=9) u5.nd rfl (Or.inl rfl) (xx ye)) (yh (yw (i:=10) u5.nd rfl (Or.inl rfl) (ud u7 (x9 (u8 c) (pv 4) (pv 8) (fun _ _=>rfl)) yi (fun _ _=>rfl))) (yh (zf PassesOwn.never (yy ű (pv 10) uk (vd _)) (yh (yt (ĕ PySem.F.plainAttrs_list PySem.F.slot_list_insert PySem.F.type_list_insert yg0 (pv 9) (yb yi (yb (ud u7 (x9 (u8 c) (pv 4) (pv 10) (fun _ _=>rfl)) yi (fun _ _=>rfl)) ye (ya rfl)) (ya rfl)))) (yf (yw (i:=10) u5.nd rfl (Or.inl rfl) (ud u7 (x9 (u8 c) (pv 4) (pv 10) (fun _ _=>rfl)) yi (fun _ _=>rfl)))))) (yf (wa (yy (Ņ c.units) (vi (pv 3) T.A3 T.Er.m (yl1 T) (c.mono (by decide)) T.Er.B .nil wc (yb (pv 8) ye (ya rfl))) (y8 (yxj T) (c.mono (by decide)) rfl T.Qt T.Qd.kp T.Qs .nil vg (yb (pv 1) (yb (ud u7 (x9 (u8 c) (pv 4) (pv 8) (fun _ _=>rfl)) yi (fun _ _=>rfl)) (yb (pv 9) ye (ya rfl)) (ya rfl)) (ya rfl))) (vd _)) (yf (yu yc3)) y9)))))))) ?_;refine ⟨_,(yf (yu yc3)),?_⟩;exists 1,10;rfl';refine ⟨l,zs,0,rfl,Z,by decide,fun c1 aY aU=>?_⟩;rfl';refine ⟨c1,1,rfl,aY,aU,by decide,by decide,fun lo n lk kd tp ps H1 az ae n1 n6 aB S1=>?_⟩;rfl';refine ⟨l,zs,1,rfl,S1.seq Z,by decide,fun c2 aO aV=>?_⟩;rfl';refine ⟨c2,rfl,aO,aV,fun nl ns H2 aL aJ S2 aX b3 aN=>?_⟩;have ah:=S2.seq (S1.seq Z);have ab:=S2 _ _ ae;have au:=aB.same S2;clear Z S1 S2 az ae aL aB;rfl';intro st ds aK av bC;refine Sto.new (mo:=1) (w:=1) aK av ab n1 n6 au (by decide) (by decide) (by decide) fun X H3 aE S3 aI _=>⟨rfl,?_⟩;rfl'
 refine ⟨l,st,nl,zs,ns,_,X,H2,rfl,ah,aJ,aX,b3,aN,rfl,aE,⟨S3,aI⟩,fun J Y D O a0 H4 I aH aa aR a5 ay bg=>?_⟩
 have hk:P0k J:=by
  refine ⟨?_,fun r c=>?_⟩
  .have:=ċ (l:=J.map (·.nm)) (m:=ns) I.nd fun x hx=>by
    obtain ⟨q,W,rfl⟩:=bM.mp hx;exact ay q W
   rw [bH] at this;omega
  .obtain ⟨z1,z2,_⟩:=I.sz r c;refine ⟨I.nm r c,z1,z2,fun b e=>?_⟩;have:=I.to r c;rw [e] at this;obtain ⟨u,hu,rfl,_⟩:=this;exact (I.nm u hu).1
 clear aE S3 aI;rfl';refine ⟨D,_,rfl,a5,fun od hod0=>?_⟩
 with_reducible first | refine y7 hod0 fun H5 S5 hod5=>?_ | refine vk hod0 fun H5 S5 hod5=>?_
 have nod:¬ Y.f od:=fun z=>by
  obtain ⟨o,e⟩:=I.live od z;rw [hod0] at e;cases e
 have g:Iv K a H2 H5 st D od ⟨n,kd,ps,1,1⟩ J J Y O a0 O a0:=⟨I.same S5,aH.same S5,aa.same S5,S5 _ _ a5,⟨.inl hod5,nod,(aa.same S5).t,(aa.same S5).x⟩,hod5,(yd a5 hod0).symm,aR,fun q W=>⟨q,W,rfl⟩,rfl⟩;clear I aH aa a5 S5 hod5 nod hod0;rfl';refine zt (g.b.s.seq ah) ?_;rfl';refine ⟨_,_,rfl,?_⟩;rfl';refine ⟨_,_,rfl,?_⟩;rfl'
 obtain ⟨m,hm,bf⟩:∃ m:Nat,(if (if (((zs.map V.int).length:Nat):Int) - 10 > 1 then (((zs.map V.int).length:Nat):Int) - 10 else 1) < 8 then (if (((zs.map V.int).length:Nat):Int) - 10 > 1 then (((zs.map V.int).length:Nat):Int) - 10 else 1) else 8)=(m:Int)/\m <= 8:=by
  generalize (((zs.map V.int).length:Nat):Int) - 10=y;refine ⟨(if (if y > 1 then y else 1) < 8 then (if y > 1 then y else 1) else 8).toNat,?_,?_⟩ <;> (split <;> split <;> omega)
 rw [hm];refine ⟨_,rfl,by omega,by omega,θ (n:=m) (fun i σ2 G=>∃ (P:List Pd) (X:Sx) (tu p:Str->Addr) (v6 v7 v8:Option V),σ2=[some (.ref l),some (.ref lo),some (.ref nl),some (.ref st),some (.ref D),some (.ref od),v6,v7,v8,none,none]/\Iv K a H2 G st D od ⟨n,kd,ps,1,1⟩ P J X tu p O a0)
  ⟨J,Y,O,a0,_,_,_,rfl,g⟩ ?_ ?_⟩
 .clear g hm Y;rintro i σ2 G hi ⟨P,X,tu,p,v6,v7,v8,rfl,g⟩;rfl';refine ⟨l,zs,10+i,by rw [show ((10+i:Nat):Int)=10+(0+(i:Int)) by omega]; rfl,g.b.s.seq ah,by omega,fun ce bd bv=>?_⟩;rfl';refine ⟨od,_,rfl,g.e,fun q hq0=>?_⟩;rw [ydc]
  with_reducible first | refine y7 hq0 fun G1 S1 hq1=>?_ | refine vk hq0 fun G1 S1 hq1=>?_
  have aw:=g.same S1;rfl';refine ⟨od,_,rfl,aw.e,?_⟩;have b4:(mdK O J).length=J.length:=bH _;rw [b4];rfl'
  obtain ⟨w,U,aC⟩:∃ w:Nat,ce / 6 % (J.length:Int)=(w:Int)/\w < J.length:=by
   have h0:=cO (ce / 6) (show (J.length:Int)≠0 by omega);have h1:=cF (ce / 6) (show 0 < (J.length:Int) by omega);exact ⟨(ce / 6 % (J.length:Int)).toNat,by omega,by omega⟩
  rw [U];refine Ĥ (v:=.str (J[w]).nm) (SqL.of hq1) (xc (by rw [bN,bN,bJ aC]; rfl)) ?_;rfl';refine ⟨H2,st,D,od,_,P,J,X,tu,p,O,a0,(J[w]).nm,_,rfl,aw,hk,⟨_,cE aC,rfl⟩,by omega,by omega,fun P' Y aP aZ H6 a4=>?_⟩;obtain ⟨bp,bm,bF,br,bt,b7⟩:=a4.s.ins;rfl';refine a4.s.names fun nm H7 bc as S7=>?_;have ax:=a4.same S7;rfl';refine ⟨D,_,rfl,ax.d,fun q2 hq20=>?_⟩;rw [ydc]
  with_reducible first | refine y7 hq20 fun H8 S8 hq28=>?_ | refine vk hq20 fun H8 S8 hq28=>?_
  have aD:H8 nm=some (.lst ((P'.map (·.nm)).map V.str)):=by rw [S8 _ _ as,cu]; rfl
  have ac:∀ x,x∈P'.map (·.nm)->PyData.strOk x=true:=fun x hx=>by
   obtain ⟨q,W,rfl⟩:=bM.mp hx;exact (a4.s.nm q W).2
  refine yiy _ _ ac ac (SqL.of aD) (SqL.of hq28) ?_;rw [bR rfl];rfl';exact ⟨P',Y,aP,aZ,_,_,_,rfl,ax.same S8⟩
 .clear g hm Y;rintro σ2 G ⟨P,X,tu,p,v6,v7,v8,rfl,g⟩;have bx:=g.len hk;have U:=g.s.pw;have aS:=g.s.sz;have ar:=g.s.nm;rfl';refine ⟨D,mdK tu P,rfl,g.d,fun o=>?_⟩;refine ykv (o:=o) (d:=D) (kvs:=mdK tu P) (fun i σ2 F=>∃ (X:Sx) (v8 v9 a6:Option V),σ2=[some (.ref l),some (.ref lo),some (.ref nl),some (.ref st),some (.ref D),some (.ref od),v6,v7,v8,v9,a6]/\Sto K a F st ⟨n,kd,ps,1,1⟩ P X/\Bs H2 F X/\Mdl F X D P tu p/\F D=some (.frz o (.dK (mdK tu P))))
   ⟨X,_,_,_,rfl,g.s.but (WSh.mu g.d rfl) g.m.n But.upd,g.b.but g.nb But.upd,⟨.inr ⟨o,yc⟩,g.m.n,fun q W=>(g.m.t q W).but (fun z=>by have e:=(g.m.t q W).1; rw [z,g.d] at e; cases e) But.upd,fun q W=>(g.m.x q W).but (fun z=>by have e:=(g.m.x q W).1; rw [z,g.d] at e; cases e) But.upd⟩,yc⟩ ?_ ?_ ?_
  .rintro i σ2 F _ ⟨X,v8,v9,a6,rfl,Z,hB,hM,hf⟩;exact hf
  .clear g X;rintro i kk v σ2 F ag ⟨X,v8,v9,a6,rfl,Z,hB,hM,hf⟩
   obtain ⟨q,aj,rfl⟩:∃ q,q∈P/\kk=.inr q.nm:=by
    unfold mdK at ag;rw [bN] at ag;obtain ⟨q,W,e⟩:=Option.map_eq_some_iff.mp ag;cases e;exact ⟨q,cc W,rfl⟩
   have af:=ar q aj;obtain ⟨ds,vl,vm,vp,vc,bq⟩:=Z.ins;rfl';refine Z.textof af.1 (fun no=>absurd rfl (no q aj)) fun r c er Y t F1 am g1 bi b0=>?_;obtain rfl:=Ŋ U.nd c aj er;have aQ:=hB.go Z g1;have a8:=hM.go Z g1;obtain ⟨bk,bh,bD,bA,bw,b6⟩:=am.ins;rfl';refine ⟨D,_,rfl,a8.get c,?_⟩;rfl';refine Ė (SqT.of (a8.t r c).1) (xc (j:=0) rfl) ?_;refine yjl (d:=.list (r.tx.map PyData.int)) (k:=1) (Sd.lst (SqL.of b0.1) (Sds.ints _)) (Sd.lst (SqL.of (a8.x r c).1) (Sds.ints _)) (by decide) ?_;rfl';refine am.baseof af.1 (fun no=>absurd rfl (no r c)) fun r2 C b2 F2 S2=>?_;obtain rfl:=Ŋ U.nd C c b2;have a1:=a8.same S2;have aF:=am.same S2;have aW:=aQ.same S2;rfl';refine ⟨D,_,rfl,a1.get C,?_⟩;rfl';refine Ė (SqT.of (a1.t r2 C).1) (xc (j:=1) rfl) ?_;refine ⟨yj1 _ _,?_⟩;rw [bR rfl];rfl';refine ⟨by walk_at "len",fun ln hln0=>?_⟩
   with_reducible first | refine y7 hln0 fun F3 S3 hln3=>?_ | refine vk hln0 fun F3 S3 hln3=>?_
   have ak:=a1.same S3;rfl';refine ⟨D,_,rfl,ak.get C,?_⟩;rfl';refine Ė (SqT.of (ak.t r2 C).1) (xc (j:=1) rfl) ?_;rfl'
   have bn:¬ Y.f ln:=fun z=>by
    obtain ⟨o',e'⟩:=aF.live ln z;rw [hln0] at e';cases e'
   refine ⟨fun m σ' G=>∃ (y:Option Str) (R S:List (Str × List Int)),σ'=[some (.ref l),some (.ref lo),some (.ref nl),some (.ref st),some (.ref D),some (.ref od),v6,v7,some (.str r2.nm),some (.ref ln),some (baV y)]/\ToD P y R/\R++S=r2.path/\G ln=some (.lst (lnV p S))/\yx F2 G/\m=R.length,
    ⟨_,r2.bs,r2.path,[],rfl,U.wf r2 C,dm _,hln3,S3,rfl⟩,?_⟩
   clear ak S3 hln3;rintro m σ2 G ⟨y,R,S,rfl,hR,a7,al,SG,rfl⟩;have a9:=a1.same SG;have b1:=(U.wf r2 C).len U;have bu:S.length <= 1000:=by rw [<- a7,bP] at b1; omega
   rfl'
   cases y with
   | some b =>
    refine ylv (fun z=>nomatch z) (fun _=>?_)
    obtain ⟨r,a2,rfl,aA⟩:=hR;refine ⟨_,fun σ' H' z=>z,?_⟩;rfl';refine Ì al ?_;rfl';refine ⟨D,_,rfl,a9.get a2,?_⟩;rfl';refine Ė (SqT.of (a9.t r a2).1) (xc (j:=0) rfl) ?_;rfl';refine ⟨ln,_,_,0,rfl,rfl,al,cb _,by unfold lnV; rw [bH]; omega,?_⟩;have an:yx F2 (upd G ln (.lst ((lnV p S).take 0++V.ref (p r.nm) :: (lnV p S).drop 0))):=fun b o e=>yj (yd e hln0) (SG _ _ e);have aG:upd G ln (.lst ((lnV p S).take 0++V.ref (p r.nm) :: (lnV p S).drop 0)) ln=some (.lst (lnV p ((r.nm,r.tx) :: S))):=yc;generalize upd G ln (.lst ((lnV p S).take 0++V.ref (p r.nm) :: (lnV p S).drop 0))=G' at an aG ⊢;have ad:=a1.same an;rfl';refine ⟨D,_,rfl,ad.get a2,?_⟩;rfl';refine Ė (SqT.of (ad.t r a2).1) (xc (j:=1) rfl) ?_;rfl';refine ⟨r.path.length,?_,r.bs,r.path,(r.nm,r.tx) :: S,rfl,U.wf r a2,?_,aG,an,rfl⟩
    .rw [aA,bP,cI];omega
    .rw [<- a7,aA,cJ];rfl
   | none =>
    refine ylv (fun _=>?_) (fun z=>absurd rfl z);obtain rfl:S=r2.path:=by rw [show R=[] from hR] at a7; exact a7
    have ao:=aF.same SG;have ai:=aW.same SG;obtain ⟨bE,be,bo,bB,bj,b9⟩:=ao.ins;rfl';refine ao.bytesof af.1 (fun no=>absurd rfl (no r2 C)) fun L M aM bl G1 bb ap T1=>?_;obtain rfl:=Ŋ U.nd M C aM;have N:=a9.same T1;rfl';refine ⟨D,_,rfl,N.get M,?_⟩;rfl';refine Ė (SqT.of (N.t L M).1) (xc (j:=0) rfl) ?_;rfl';obtain ⟨z1,z2,z3,z4⟩:=aS L M;have z2:L.tx.length <= 1:=z2
    have tl:vcp G1 lo (p L.nm) (.ref ln) n lk kd tp ps L.tx L.path.length 1 (lnA p L.path) (txi L.path):=by
     refine ⟨(ai.s.trans T1) _ _ ab,n1,n6,au.same (ai.s.trans T1),⟨(N.x L M).1,z1,by omega⟩,⟨.inr ⟨ln,rfl,by rw [<- yla]; exact T1 _ _ al⟩,fun i hi=>?_⟩,by decide,by omega,by omega⟩;obtain ⟨u,hu,bz,_⟩:=(U.wf L M).at U hi;have hx:=z4 _ (cE hi);refine ⟨(N.ln U (U.wf L M) hi).1,?_,?_⟩
     .unfold txi;rw [cD,bN,bJ hi];exact hx.1
     .unfold txi;rw [cD,bN,bJ hi];exact hx.2
    refine ⟨lo,p L.nm,.ref ln,n,lk,kd,tp,ps,L.tx,L.path.length,1,_,_,rfl,tl,by omega,fun rr G2 ba aq T2=>?_⟩;rw [ygn] at aq;refine yjl (d:=.list ((L.by ⟨n,kd,ps,1,1⟩).map PyData.int)) (k:=1) (Sd.lst (SqL.of (T2 _ _ ap)) (Sds.ints _)) (Sd.lst (SqL.of (show G2 rr=some (.lst ((L.by ⟨n,kd,ps,1,1⟩).map V.int)) from aq)) (Sds.ints _)) (by decide) ?_;have a3:=T1.trans T2;rfl';refine ⟨Y,_,_,_,rfl,ao.same a3,ai.same a3,a9.same a3,?_⟩;have:=(Kf.go ⟨hf,hM.n⟩ Z g1).1;exact a3 _ _ (SG _ _ (S2 _ _ this))
  .rintro σ2 F ⟨X,v8,v9,a6,rfl,Z,hB,hM,hf⟩;refine ⟨D,o,.dK (mdK tu P),(fun o u e=>by rw [g.d] at e; cases e),hf,?_⟩;rfl';exact k _
end
variable {C:Cf} {P:List Pd} {X Y:Sx}
theorem all_mk {l:W.OpenLaw} {w:World} {K:W.Frag} {h:Heap} {mg:Str->Option Value} (X:K.In h) (G:h.Ns mainGlobals mg) (hfa:mg "law"=some (.ref fa))
  (Q7:GV K "Even" (.ref Ac))
  (Ow:GV K "Quick" (.ref Ab))
  (Qo:GV K "Run" (.ref Ag))
  (Ra:GV K "Mixer" (.ref C6))
  (Q8:GV K "Book" (.ref Ad))
  (Q9:GV K "Span" (.ref A5))
  (Rb:GV K "Foreteller" (.ref A4))
  (Rc:GV K "Seeker" (.ref Af))
  (Ox:GV K "Chain" (.ref A1))
  (Oy:GV K "Piece" (.ref Aa))
  (Oz:GV K "Store" (.ref A0))
  (Re:GV K "NoText" (.ref Fc))
  (Rf:GV K "NoBytes" (.ref E9))
  (Oe:GV K "NoMost" (.ref Bf))
  (Rg:GV K "NoChance" (.ref Ea))
  (Rh:GV K "NoBit" (.ref C3))
  (Ri:GV K "NoLooks" (.ref Gq))
  (Rj:GV K "NoPress" (.ref Gr))
  (Of:GV K "NoName" (.ref A7))
  (J1:GV K "TooLong" (.ref An))
  (P1:GV K "Taken" (.ref Ae))
  (Qa:GV K "Full" (.ref Cs))
  (J2:GV K "NoPiece" (.ref A2))
  (P3:GV K "InUse" (.ref A8))
  (Du:GV K "ForetellError" (.ref Am))
  (Cq:Dgf K mg "is_whole" vb2 Pf Pg)
  (O6:Dgf K mg "is_bit" vca Ph Pi)
  (O7:Dgf K mg "is_chance" vbz Pj Pk)
  (O8:Dgf K mg "is_sign" vb1 Pl Pm)
  (Gt:Dgf K mg "is_list_of_signs" vb8 Pn Po)
  (Cr:Dgf K mg "checked_text" vb9 Pp Pq)
  (O9:Dgf K mg "checked_bytes" vcb Pr Ps)
  (Oa:Dgf K mg "check_most" vb6 Pt Pu)
  (Dy:Dgf K mg "check_chance" vb0 Pv Pw)
  (Ao:Dgf K mg "check_bit" ytd J7 J8)
  (Fl:Dgf K mg "gives" ysa J9 Ja)
  (Fm:Dgm K Ac "__init__" "Even.__init__" yr0 Hh Jb)
  (Ht:Dgm K Ac "chance" "Even.chance" ysp Jc Jd)
  (Hu:Dgm K Ac "seen" "Even.seen" ys0 Je Jf)
  (Fn:Dgm K Ab "__init__" "Quick.__init__" yr6 Hi Jg)
  (Hv:Dgm K Ab "chance" "Quick.chance" yrv Jh Ji)
  (Hw:Dgm K Ab "seen" "Quick.seen" ys4 Jj Jk)
  (Fo:Dgm K Ag "__init__" "Run.__init__" yrz Hj Jl)
  (Hx:Dgm K Ag "chance" "Run.chance" yth Jm Jn)
  (Hy:Dgm K Ag "seen" "Run.seen" ytj Jo Jp)
  (Fp:Dgf K mg "slot_of" yq3 Jq Jr)
  (Fq:Dgf K mg "is_kind" yr2 Js Jt)
  (Fr:Dgf K mg "is_place" ysq Ju Jv)
  (Fs:Dgf K mg "are_places" yta Jw Jx)
  (D6:Dgf K mg "is_look" ys2 Jy Jz)
  (D7:Dgf K mg "checked_looks" yr4 K1 K2)
  (Ft:Dgf K mg "sign_back" yr3 K3 K4)
  (Fu:Dgf K mg "context_of" ys5 K5 K6)
  (Fv:Dgm K Ad "__init__" "Book.__init__" ytf Hk K7)
  (Hz:Dgm K Ad "slot_at" "Book.slot_at" ytg K8 K9)
  (Fw:Dgm K C6 "__init__" "Mixer.__init__" ys7 Hl Ka)
  (I0:Dgm K C6 "mixed" "Mixer.mixed" yrh Kb Kc)
  (I1:Dgm K C6 "learn" "Mixer.learn" yq4 Kd Ke)
  (Eb:Dgm K A4 "__init__" "Foreteller.__init__" yrt Hm Kg)
  (Ec:Dgm K A4 "arrive" "Foreteller.arrive" yr1 Kh Ki)
  (Ed:Dgm K A4 "chances" "Foreteller.chances" yrc Kj Kk)
  (Ee:Dgm K A4 "chance" "Foreteller.chance" yrm Kl Km)
  (D8:Dgm K A4 "see" "Foreteller.see" ys1 Kn Ko)
  (I2:Dgm K A4 "step" "Foreteller.step" yse Kp Kq)
  (I3:Dgm K A4 "step_in_sign" "Foreteller.step_in_sign" ysb Kr Ks)
  (Fx:Dgf K mg "bits_of" yss Kt Ku)
  (D9:Dgf K mg "decisions_of" yro Kv Kw)
  (Fz:Dgf K mg "written" ysr Kx Ky)
  (Da:Dgf K mg "first_block" ysx Kz L1)
  (Ef:Dgm K A5 "__init__" "Span.__init__" ysf Hn L6)
  (Eg:Dgm K A5 "cut" "Span.cut" ys3 L7 L8)
  (Eh:Dgm K A5 "narrow" "Span.narrow" yti L9 La)
  (I4:Dgm K A5 "holds_block" "Span.holds_block" yte Lb Lc)
  (Ei:Dgm K A5 "told" "Span.told" yst Ld Le)
  (G0:Dgm K Af "__init__" "Seeker.__init__" yry Ho Lf)
  (Ej:Dgm K Af "follow" "Seeker.follow" ysk Lg Lh)
  (I5:Dgm K Af "byte_at" "Seeker.byte_at" yrb Li Lj)
  (I6:Dgm K Af "bit" "Seeker.bit" yrf Lk Ll)
  (I7:Dgm K Af "told" "Seeker.told" ys6 Lm Ln)
  (G8:Dgf K mg "checked_learned" ys8 Lo Lp)
  (G9:Dgf K mg "teach" ysi Lq Lr)
  (Db:Dgf K mg "press_by" yri Ls Lt)
  (Rk:W.nsIn K mainGlobals "pressed"=some (some (.ref E8)))
  (Rl:K.lookup E8=some ⟨oc_q58,od_q58,.func (W.fnOf "pressed" "pressed" (w5 yf1) (wn yf1) (yg yf1) (.ref Lv) kV_q58 dc_q58 pm_q58 an_q58 cd_q58 ct_q58),sl_q58⟩)
  (P4:K.lookup Lv=some ⟨.type "tuple",Do_q58,.seq #[.none] Dn_q58,Ds_q58⟩)
  (Rm:W.codeIn K cd_q58 "pressed"=true)
  (Rn:W.keepIn K (.ref E8)=true)
  (Dc:Dgf K mg "bit_by" ysy Lx Ly)
  (Ga:Dgf K mg "sign_by" yrp Lz M0)
  (Gb:Dgf K mg "text_by" yr9 M4 M5)
  (Gc:Dgf K mg "read_by" ysc M6 M7)
  (Dd:Dgm K A1 "__init__" "Chain.__init__" ysv Hq M8)
  (Ek:Dgm K A1 "grow" "Chain.grow" yru M9 Ma)
  (I8:Dgm K A1 "press" "Chain.press" yre Mb Mc)
  (I9:Dgm K A1 "read" "Chain.read" yr8 Md Me)
  (Gd:Dgf K mg "is_name" yrw Mf Mg)
  (Co:Dgf K mg "checked_name" ysh Mh Mi)
  (Ge:Dgf K mg "check_base" yrg Mj Ml)
  (Gf:Dgm K Aa "__init__" "Piece.__init__" yrk Hr Mm)
  (Ro:W.findIn K (.ref A0) "__init__"=some (some (.ref Dv)))
  (Rp:W.isFn K (.ref Dv)=true)
  (Rq:K.lookup Dv=some ⟨oc_q71,od_q71,.func (W.fnOf "__init__" "Store.__init__" (w5 yfy) (wn yfy) (yg yfy) (.ref Mo) kV_q71 dc_q71 pm_q71 an_q71 cd_q71 ct_q71),sl_q71⟩)
  (P5:K.lookup Mo=some ⟨.type "tuple",Do_q71,.seq #[.int 1000 D5] Dn_q71,Ds_q71⟩)
  (Rr:W.codeIn K cd_q71 "Store.__init__"=true)
  (Rs:W.keepIn K (.ref Dv)=true)
  (El:Dgm K A0 "names" "Store.names" yq5 Mq Mr)
  (Rt:W.findIn K (.ref A0) "put"=some (some (.ref Dw)))
  (Ru:W.isFn K (.ref Dw)=true)
  (Rv:K.lookup Dw=some ⟨oc_q73,od_q73,.func (W.fnOf "put" "Store.put" (w5 yf2) (wn yf2) (yg yf2) (.ref Mt) kV_q73 dc_q73 pm_q73 an_q73 cd_q73 ct_q73),sl_q73⟩)
  (P6:K.lookup Mt=some ⟨.type "tuple",Do_q73,.seq #[.none] Dn_q73,Ds_q73⟩)
  (Rw:W.codeIn K cd_q73 "Store.put"=true)
  (Qe:W.keepIn K (.ref Dw)=true)
  (Ia:Dgm K A0 "check_length" "Store.check_length" yrl Mu Mv)
  (Ib:Dgm K A0 "check_room" "Store.check_room" yrn Mw Mx)
  (Bu:Dgm K A0 "piece_at" "Store.piece_at" ytb My Mz)
  (Em:Dgm K A0 "links_to" "Store.links_to" yra N0 N2)
  (En:Dgm K A0 "chain_to" "Store.chain_to" ysz N3 N4)
  (Eo:Dgm K A0 "texts_to" "Store.texts_to" yrr N5 N6)
  (Ep:Dgm K A0 "text_of" "Store.text_of" yq9 N7 N8)
  (Er:Dgm K A0 "bytes_of" "Store.bytes_of" yrx N9 Na)
  (Es:Dgm K A0 "base_of" "Store.base_of" yrj Nd Nf)
  (Ic:Dgm K A0 "learned_of" "Store.learned_of" yrd Ng Nh)
  (Ie:Dgm K A0 "drop" "Store.drop" ysu Ni Nj)
  (B8:Dgf K mg "_law_mixed" yq6 Nk Nl)
  (Gg:Dgf K mg "_law_looks" ysw Nm Nn)
  (Gh:Dgf K mg "_law_names" yr7 No Np)
  (Cp:Dgf K mg "_law_dropped" ysd Nq Nr)
  (De:Dgf K mg "_law_gone" yr5 Nt Nu)
  (Gi:Dgf K mg "_law_model" ytc Nv Nw)
  (Gj:Dgf K mg "_law_deed" ys9 Nx Ny)
  (If:Dgf K mg "law" ysg Ol Hs)
  (J3:KC K Ac)
  (Ap:FN K Ac "noughts")
  (Bg:FN K Ac "ones")
  (H9:KC K Ab)
  (Av:FN K Ab "held")
  (P7:KC K Ag)
  (Bv:FN K Ag "last")
  (Aw:FN K Ag "length")
  (Qp:KC K C6)
  (Cb:FN K C6 "kept")
  (J4:KC K Ad)
  (C5:FN K Ad "look")
  (Bk:FN K Ad "slots")
  (J5:KC K A5)
  (Bw:FN K A5 "low")
  (Ax:FN K A5 "width")
  (Bh:FN K A5 "size")
  (Qq:KC K A4)
  (Bx:FN K A4 "looks")
  (Cl:FN K A4 "books")
  (Cm:FN K A4 "mixer")
  (By:FN K A4 "ended")
  (Bz:FN K A4 "place")
  (Ay:FN K A4 "present")
  (Qr:KC K Af)
  (D0:FN K Af "data")
  (D1:FN K Af "span")
  (Bi:FN K Af "number")
  (Az:FN K Af "reached")
  (Ha:KC K A1)
  (Ak:FN K A1 "foreteller")
  (Bc:FN K A1 "links")
  (Bd:FN K A1 "texts")
  (Hb:KC K Aa)
  (Bl:FN K Aa "base")
  (Bm:FN K Aa "data")
  (Hc:KC K A0)
  (At:FN K A0 "looks")
  (Bn:FN K A0 "most")
  (B0:FN K A0 "pieces")
  (Au:FN K A0 "chain")
  (R4:XCls K Fc)
  (Qk:XMk K Fc)
  (R5:XCls K E9)
  (Ql:XMk K E9)
  (Ii:XCls K Bf)
  (Et:XMk K Bf)
  (R6:XCls K Ea)
  (Qm:XMk K Ea)
  (R7:XCls K C3)
  (Qn:XMk K C3)
  (R8:XCls K Gq)
  (Q3:XMk K Gq)
  (R9:XCls K Gr)
  (Q4:XMk K Gr)
  (Ij:XCls K A7)
  (Eu:XMk K A7)
  (Gk:XCls K An)
  (Dr:XMk K An)
  (O0:XCls K Ae)
  (Gv:XMk K Ae)
  (Ot:XCls K Cs)
  (Ix:XMk K Cs)
  (Ds:XCls K A2)
  (Dt:XMk K A2)
  (E6:XCls K A8)
  (Gw:XMk K A8)
  (P8:W.subIn K (.ref A8) (.type "BaseException")=some true)
  (P9:W.hasDictIn K A8=true)
  (Pa:W.typeIn K (.ref A8)=some (.type "type"))
  (C1:W.subIn K (.ref A8) (.ref A8)=some true)
  (Gm:W.subIn K (.ref A7) (.type "BaseException")=some true)
  (Gn:W.hasDictIn K A7=true)
  (Gp:W.typeIn K (.ref A7)=some (.type "type"))
  (B6:W.subIn K (.ref A2) (.ref A7)=some false)
  (Bj:W.subIn K (.ref A8) (.ref A7)=some false)
  (F0:W.subIn K (.ref A2) (.type "BaseException")=some true)
  (F6:W.hasDictIn K A2=true)
  (F7:W.typeIn K (.ref A2)=some (.type "type"))
  (A9:W.subIn K (.ref A2) (.ref A2)=some true)
  (Bb:W.subIn K (.ref A8) (.ref A2)=some false)
  (Iq:W.subIn K (.ref Ae) (.type "BaseException")=some true)
  (Ir:W.hasDictIn K Ae=true)
  (Is:W.typeIn K (.ref Ae)=some (.type "type"))
  (Ba:W.subIn K (.ref A2) (.ref Ae)=some false)
  (C2:W.subIn K (.ref A8) (.ref Ae)=some false)
  (Cc:W.kitOne K (.ref Fc) (.type "ValueError")=some true)
  (Cd:W.kitOne K (.ref E9) (.type "ValueError")=some true)
  (Ce:W.kitOne K (.ref C3) (.type "ValueError")=some true)
  (B9:W.kitOne K (.ref A2) (.ref A8)=some false)
  (Ar:W.kitOne K (.ref A8) (.type "ValueError")=some true)
  (Al:W.kitOne K (.ref A8) (.ref Am)=some true)
  (A6:GZ K "isinstance")
  (Ou:GZ K "int")
  (Iy:GZ K "bool")
  (Aq:GZ K "list")
  (Dj:GZ K "all")
  (Ah:GZ K "len")
  (Ik:GZ K "min")
  (Il:GZ K "max")
  (O4:GZ K "str")
  (D3:GZ K "tuple")
  (Im:GZ K "zip")
  (Ev:GZ K "sum")
  (O5:GZ K "any")
  (Be:GZ K "range")
  (Ov:GZ K "set")
  (Cn:GZ K "ValueError")
  (Iz:GZ K "dict")
  (Qc:GV K "LEAST" (.int 32768 Gs))
  (Rx:GV K "ONE" (.int 16777216 Om))
  (Hd:GV K "MOST_SIGNS" (.int 1000 Cg))
  (He:GV K "MOST_BYTES" (.int 12000 Ci))
  (F8:GV K "MOST_COUNTED" (.int 255 Bo))
  (J6:GV K "FARTHEST" (.int 8 D4))
  (Fh:GV K "MOST_PLACES" (.int 4 C7))
  (Hf:GV K "MOST_LOOKS" (.int 6 Cj))
  (Og:GV K "NO_SIGN" (.int 256 Do))
  (F9:GV K "FIRST_WEIGHT" (.int 1099511627776 Bp))
  (Iu:GV K "OWN_PARTS" (.int 31 Ct))
  (Fa:GV K "MOST_FIGURES" (.int 48 Bq))
  (Iw:GV K "NODES_END" (.int 256 Cu))
  (Fi:GV K "FIRST_WIDTH" (.int 1099511627776 C8))
  (Hg:GV K "FIRST_SIZE" (.int 5 Ck))
  (Fj:GV K "LEAST_WIDTH" (.int 4294967296 C9))
  (Fb:GV K "MOST_LETTERS" (.int 8 Br))
  (Oh:GV K "LETTERS" (.str "abcdefghijklmnopqrstuvwxyz" Dp))
  (Fk:GV K "MOST_PIECES" (.int 60 Ca))
  (Pb:GV K "KINDS" (.ref Cz))
  (Pe:K.lookup Cz=some ⟨.type "tuple",wd_KINDS,.seq #[.str "even" wt_KINDS_0,.str "quick" wt_KINDS_1,.str "run" wt_KINDS_2] wn_KINDS,ws_KINDS⟩)
  (Oi:GV K "WORTHS" (.ref Bt))
  (Oj:K.lookup Bt=some ⟨.type "tuple",wd_WORTHS,.seq #[.int 128 wt_WORTHS_0,.int 64 wt_WORTHS_1,.int 32 wt_WORTHS_2,.int 16 wt_WORTHS_3,.int 8 wt_WORTHS_4,.int 4 wt_WORTHS_5,.int 2 wt_WORTHS_6,.int 1 wt_WORTHS_7] wn_WORTHS,ws_WORTHS⟩)
 :∃ fd:FuncData,(∀ (s:Shared) (v:Value),BindsTo s fd ⟨[v],[]⟩ [("_law_script",v)])/\∀ base:Heap,K.In base->base.Ns mainGlobals mg->wb l.prog w K mg base CX0 17 fa fd ["_law_script"] (ybk K):=by
 have e:=hfa.symm.trans If.m;cases e;have a:=ycn (st:=yf1) Rl Rm Rn;have b:=ycn (st:=yfy) Rq Rr Rs;have c:=ycn (st:=yf2) Rv Rw Qe;have T:Txt K mg ⟨Pf,Pg,Ph,Pi,Pj,Pk,Pl,Pm,Pn,Po,Pp,Pq,Pr,Ps,Pt,Pu,Pv,Pw,J7,J8,J9,Ja,Hh,Jb,Jc,Jd,Je,Jf,Hi,Jg,Jh,Ji,Jj,Jk,Hj,Jl,Jm,Jn,Jo,Jp,Jq,Jr,Js,Jt,Ju,Jv,Jw,Jx,Jy,Jz,K1,K2,K3,K4,K5,K6,Hk,K7,K8,K9,Hl,Ka,Kb,Kc,Kd,Ke,Hm,Kg,Kh,Ki,Kj,Kk,Kl,Km,Kn,Ko,Kp,Kq,Kr,Ks,Kt,Ku,Kv,Kw,Kx,Ky,Kz,L1,Hn,L6,L7,L8,L9,La,Lb,Lc,Ld,Le,Ho,Lf,Lg,Lh,Li,Lj,Lk,Ll,Lm,Ln,Lo,Lp,Lq,Lr,Ls,Lt,E8,_,Lv,Lx,Ly,Lz,M0,M4,M5,M6,M7,Hq,M8,M9,Ma,Mb,Mc,Md,Me,Mf,Mg,Mh,Mi,Mj,Ml,Hr,Mm,Dv,_,Mo,D5,Mq,Mr,Dw,_,Mt,Mu,Mv,Mw,Mx,My,Mz,N0,N2,N3,N4,N5,N6,N7,N8,N9,Na,Nd,Nf,Ng,Nh,Ni,Nj,Nk,Nl,Nm,Nn,No,Np,Nq,Nr,Nt,Nu,Nv,Nw,Nx,Ny,fa,Hs,Ac,Ab,Ag,C6,Ad,A5,A4,Af,A1,Aa,A0,Fc,E9,Bf,Ea,C3,Gq,Gr,A7,An,Ae,Cs,A2,A8,Am,Gs,Om,Cg,Ci,Bo,D4,C7,Cj,Do,Bp,Ct,Bq,Cu,C8,Ck,C9,Br,Dp,Ca,Cz,Bt⟩:=⟨
  Cq.d1 fun _ _ _ _ _ _ _=>rfl,
  O6.d1 fun _ _ _ _ _ _ _=>rfl,
  O7.d1 fun _ _ _ _ _ _ _=>rfl,
  O8.d1 fun _ _ _ _ _ _ _=>rfl,
  Gt.d2 fun _ _ _ _ _ _ _ _=>rfl,
  Cr.d1 fun _ _ _ _ _ _ _=>rfl,
  O9.d1 fun _ _ _ _ _ _ _=>rfl,
  Oa.d1 fun _ _ _ _ _ _ _=>rfl,
  Dy.d1 fun _ _ _ _ _ _ _=>rfl,
  Ao.d1 fun _ _ _ _ _ _ _=>rfl,
  Fl.d2 fun _ _ _ _ _ _ _ _=>rfl,
  Fm.d1 fun _ _ _ _ _ _ _=>rfl,
  Ht.d1 fun _ _ _ _ _ _ _=>rfl,
  Hu.d2 fun _ _ _ _ _ _ _ _=>rfl,
  Fn.d1 fun _ _ _ _ _ _ _=>rfl,
  Hv.d1 fun _ _ _ _ _ _ _=>rfl,
  Hw.d2 fun _ _ _ _ _ _ _ _=>rfl,
  Fo.d1 fun _ _ _ _ _ _ _=>rfl,
  Hx.d1 fun _ _ _ _ _ _ _=>rfl,
  Hy.d2 fun _ _ _ _ _ _ _ _=>rfl,
  Fp.d1 fun _ _ _ _ _ _ _=>rfl,
  Fq.d1 fun _ _ _ _ _ _ _=>rfl,
  Fr.d1 fun _ _ _ _ _ _ _=>rfl,
  Fs.d1 fun _ _ _ _ _ _ _=>rfl,
  D6.d1 fun _ _ _ _ _ _ _=>rfl,
  D7.d1 fun _ _ _ _ _ _ _=>rfl,
  Ft.d2 fun _ _ _ _ _ _ _ _=>rfl,
  Fu.d3 fun _ _ _ _ _ _ _ _ _=>rfl,
  Fv.d2 fun _ _ _ _ _ _ _ _=>rfl,
  Hz.d3 fun _ _ _ _ _ _ _ _ _=>rfl,
  Fw.d2 fun _ _ _ _ _ _ _ _=>rfl,
  I0.d2 fun _ _ _ _ _ _ _ _=>rfl,
  I1.d3 fun _ _ _ _ _ _ _ _ _=>rfl,
  Eb.d2 fun _ _ _ _ _ _ _ _=>rfl,
  Ec.d1 fun _ _ _ _ _ _ _=>rfl,
  Ed.d1 fun _ _ _ _ _ _ _=>rfl,
  Ee.d1 fun _ _ _ _ _ _ _=>rfl,
  D8.d2 fun _ _ _ _ _ _ _ _=>rfl,
  I2.d2 fun _ _ _ _ _ _ _ _=>rfl,
  I3.d2 fun _ _ _ _ _ _ _ _=>rfl,
  Fx.d1 fun _ _ _ _ _ _ _=>rfl,
  D9.d1 fun _ _ _ _ _ _ _=>rfl,
  Fz.d2 fun _ _ _ _ _ _ _ _=>rfl,
  Da.d2 fun _ _ _ _ _ _ _ _=>rfl,
  Ef.d1 fun _ _ _ _ _ _ _=>rfl,
  Eg.d2 fun _ _ _ _ _ _ _ _=>rfl,
  Eh.d3 fun _ _ _ _ _ _ _ _ _=>rfl,
  I4.d2 fun _ _ _ _ _ _ _ _=>rfl,
  Ei.d1 fun _ _ _ _ _ _ _=>rfl,
  G0.d2 fun _ _ _ _ _ _ _ _=>rfl,
  Ej.d1 fun _ _ _ _ _ _ _=>rfl,
  I5.d2 fun _ _ _ _ _ _ _ _=>rfl,
  I6.d2 fun _ _ _ _ _ _ _ _=>rfl,
  I7.d1 fun _ _ _ _ _ _ _=>rfl,
  G8.d1 fun _ _ _ _ _ _ _=>rfl,
  G9.d2 fun _ _ _ _ _ _ _ _=>rfl,
  Db.d2 fun _ _ _ _ _ _ _ _=>rfl,
  a,
  ybt.binds (ps:=["looks","text","learned"]) (ds:=[.none]) (j:=2) rfl a P4 rfl fun _ _ _ _ _ _ d f=>match d,f with | [_,_],_=>⟨_,rfl,rfl⟩,
  ybt.binds (ps:=["looks","text","learned"]) (ds:=[]) (j:=3) rfl a P4 rfl fun _ _ _ _ _ _ d f=>match d,f with | [_,_,_],_=>⟨_,rfl,rfl⟩,
  W.mg_of X G Rk,
  Dc.d2 fun _ _ _ _ _ _ _ _=>rfl,
  Ga.d2 fun _ _ _ _ _ _ _ _=>rfl,
  Gb.d3 fun _ _ _ _ _ _ _ _ _=>rfl,
  Gc.d3 fun _ _ _ _ _ _ _ _ _=>rfl,
  Dd.d2 fun _ _ _ _ _ _ _ _=>rfl,
  Ek.d3 fun _ _ _ _ _ _ _ _ _=>rfl,
  I8.d3 fun _ _ _ _ _ _ _ _ _=>rfl,
  I9.d4 fun _ _ _ _ _ _ _ _ _ _=>rfl,
  Gd.d1 fun _ _ _ _ _ _ _=>rfl,
  Co.d1 fun _ _ _ _ _ _ _=>rfl,
  Ge.d1 fun _ _ _ _ _ _ _=>rfl,
  Gf.d3 fun _ _ _ _ _ _ _ _ _=>rfl,
  b,
  ybt.binds (ps:=["self","looks","most"]) (ds:=[.int 1000 D5]) (j:=2) rfl b P5 rfl fun _ _ _ _ _ _ d f=>match d,f with | [_,_],_=>⟨_,rfl,rfl⟩,
  ybt.binds (ps:=["self","looks","most"]) (ds:=[]) (j:=3) rfl b P5 rfl fun _ _ _ _ _ _ d f=>match d,f with | [_,_,_],_=>⟨_,rfl,rfl⟩,
  El.d1 fun _ _ _ _ _ _ _=>rfl,
  c,
  ybt.binds (ps:=["self","name","text","base"]) (ds:=[.none]) (j:=3) rfl c P6 rfl fun _ _ _ _ _ _ d f=>match d,f with | [_,_,_],_=>⟨_,rfl,rfl⟩,
  ybt.binds (ps:=["self","name","text","base"]) (ds:=[]) (j:=4) rfl c P6 rfl fun _ _ _ _ _ _ d f=>match d,f with | [_,_,_,_],_=>⟨_,rfl,rfl⟩,
  ⟨Rt,Ru,Qe⟩,
  Ia.d2 fun _ _ _ _ _ _ _ _=>rfl,
  Ib.d3 fun _ _ _ _ _ _ _ _ _=>rfl,
  Bu.d2 fun _ _ _ _ _ _ _ _=>rfl,
  Em.d2 fun _ _ _ _ _ _ _ _=>rfl,
  En.d2 fun _ _ _ _ _ _ _ _=>rfl,
  Eo.d2 fun _ _ _ _ _ _ _ _=>rfl,
  Ep.d2 fun _ _ _ _ _ _ _ _=>rfl,
  Er.d2 fun _ _ _ _ _ _ _ _=>rfl,
  Es.d2 fun _ _ _ _ _ _ _ _=>rfl,
  Ic.d2 fun _ _ _ _ _ _ _ _=>rfl,
  Ie.d2 fun _ _ _ _ _ _ _ _=>rfl,
  B8.d2 fun _ _ _ _ _ _ _ _=>rfl,
  Gg.d2 fun _ _ _ _ _ _ _ _=>rfl,
  Gh.d1 fun _ _ _ _ _ _ _=>rfl,
  Cp.d2 fun _ _ _ _ _ _ _ _=>rfl,
  De.d3 fun _ _ _ _ _ _ _ _ _=>rfl,
  Gi.d3 fun _ _ _ _ _ _ _ _ _=>rfl,
  Gj.d5 fun _ _ _ _ _ _ _ _ _ _ _=>rfl,
  If.d1 fun _ _ _ _ _ _ _=>rfl,
  J3.cls,
  W.mg_of X G Q7,
  ⟨J3.mk',Fm.m.1,Fm.m.2,J3.kc⟩,
  Ap,
  Bg,
  H9.cls,
  W.mg_of X G Ow,
  ⟨H9.mk',Fn.m.1,Fn.m.2,H9.kc⟩,
  Av,
  P7.cls,
  W.mg_of X G Qo,
  ⟨P7.mk',Fo.m.1,Fo.m.2,P7.kc⟩,
  Bv,
  Aw,
  Qp.cls,
  W.mg_of X G Ra,
  ⟨Qp.mk',Fw.m.1,Fw.m.2,Qp.kc⟩,
  Cb,
  J4.cls,
  W.mg_of X G Q8,
  ⟨J4.mk',Fv.m.1,Fv.m.2,J4.kc⟩,
  C5,
  Bk,
  J5.cls,
  W.mg_of X G Q9,
  ⟨J5.mk',Ef.m.1,Ef.m.2,J5.kc⟩,
  Bw,
  Ax,
  Bh,
  Qq.cls,
  W.mg_of X G Rb,
  ⟨Qq.mk',Eb.m.1,Eb.m.2,Qq.kc⟩,
  Bx,
  Cl,
  Cm,
  By,
  Bz,
  Ay,
  Qr.cls,
  W.mg_of X G Rc,
  ⟨Qr.mk',G0.m.1,G0.m.2,Qr.kc⟩,
  D0,
  D1,
  Bi,
  Az,
  Ha.cls,
  W.mg_of X G Ox,
  ⟨Ha.mk',Dd.m.1,Dd.m.2,Ha.kc⟩,
  Ak,
  Bc,
  Bd,
  Hb.cls,
  W.mg_of X G Oy,
  ⟨Hb.mk',Gf.m.1,Gf.m.2,Hb.kc⟩,
  Bl,
  Bm,
  Hc.cls,
  W.mg_of X G Oz,
  ⟨Hc.mk',Ro,Rp,Hc.kc⟩,
  At,
  Bn,
  B0,
  Au,
  W.mg_of X G Re,
  W.mg_of X G Rf,
  W.mg_of X G Oe,
  W.mg_of X G Rg,
  W.mg_of X G Rh,
  W.mg_of X G Ri,
  W.mg_of X G Rj,
  W.mg_of X G Of,
  W.mg_of X G J1,
  W.mg_of X G P1,
  W.mg_of X G Qa,
  W.mg_of X G J2,
  W.mg_of X G P3,
  W.mg_of X G Du,
  R4,
  Qk,
  R5,
  Ql,
  Ii,
  Et,
  R6,
  Qm,
  R7,
  Qn,
  R8,
  Q3,
  R9,
  Q4,
  Ij,
  Eu,
  Gk,
  Dr,
  O0,
  Gv,
  Ot,
  Ix,
  Ds,
  Dt,
  E6,
  Gw,
  Cc,
  Cd,
  Ce,
  B9,
  ď Gm Gn Gp B6,
  ym0 F0 F6 F7 A9,
  ď Iq Ir Is Ba,
  Ar,
  Al,
  ym0 P8 P9 Pa C1,
  ď Gm Gn Gp Bj,
  ď F0 F6 F7 Bb,
  ď Iq Ir Is C2,
  W.mg_none_of X G A6,
  W.mg_none_of X G Ou,
  W.mg_none_of X G Iy,
  W.mg_none_of X G Aq,
  W.mg_none_of X G Dj,
  W.mg_none_of X G Ah,
  W.mg_none_of X G Ik,
  W.mg_none_of X G Il,
  W.mg_none_of X G O4,
  W.mg_none_of X G D3,
  W.mg_none_of X G Im,
  W.mg_none_of X G Ev,
  W.mg_none_of X G O5,
  W.mg_none_of X G Be,
  W.mg_none_of X G Ov,
  W.mg_none_of X G Cn,
  W.mg_none_of X G Iz,
  W.mg_of X G Qc,
  W.mg_of X G Rx,
  W.mg_of X G Hd,
  W.mg_of X G He,
  W.mg_of X G F8,
  W.mg_of X G J6,
  W.mg_of X G Fh,
  W.mg_of X G Hf,
  W.mg_of X G Og,
  W.mg_of X G F9,
  W.mg_of X G Iu,
  W.mg_of X G Fa,
  W.mg_of X G Iw,
  W.mg_of X G Fi,
  W.mg_of X G Hg,
  W.mg_of X G Fj,
  W.mg_of X G Fb,
  W.mg_of X G Oh,
  W.mg_of X G Fk,
  W.mg_of X G Pb,
  fun H=>.inr ⟨_,_,_,Pe,rfl,rfl,(by show 3 <= sizeLine; decide),(.cons ⟨_,rfl⟩ (.cons ⟨_,rfl⟩ (.cons ⟨_,rfl⟩ .nil)))⟩,
  W.mg_of X G Oi,
  fun H=>.inr ⟨_,_,_,Oj,rfl,rfl,(by show 8 <= sizeLine; decide),(.cons ⟨_,rfl⟩ (.cons ⟨_,rfl⟩ (.cons ⟨_,rfl⟩ (.cons ⟨_,rfl⟩ (.cons ⟨_,rfl⟩ (.cons ⟨_,rfl⟩ (.cons ⟨_,rfl⟩ (.cons ⟨_,rfl⟩ .nil))))))))⟩⟩
 refine ⟨Hs,fun s v=>?_,fun base _ _=>yu3 T⟩;obtain ⟨_,_,_,_,_,_,_,_,_,rfl,_,_⟩:=If.F.ex;exact .of_eq rfl
theorem walk {l:W.OpenLaw} {q:Program} {loose:List Str} {XP:(Str->Option Value)->Heap->Prop} {YP:World->Heap->Prop} {d:DefRec} {K:Params->W.Frag} (hn:l.most=some 63) (hdf:d.params.defaults=[])
  (hY:∀ (w:World) (h:Heap),YP w h->(K w.params).In h)
  (F:∀ (w:World) (mg:Str->Option Value) (fa:Addr) (h:Heap),(K w.params).In h->h.Ns mainGlobals mg->mg d.name=some (.ref fa) ->
   ∃ fd:FuncData,(∀ (s:Shared) (u:Value),BindsTo s fd ⟨[u],[]⟩ [("_law_script",u)])/\∀ base:Heap,(K w.params).In base->base.Ns mainGlobals mg->wb l.prog w (K w.params) mg base CX0 17 fa fd ["_law_script"] (ybk (K w.params))) :
  W.WalkO q loose XP YP l.row.toRowW d [] (fun f vs=>PySem.call f vs) :=
 L2.walk_of (n:=63) (k:=17) (x:="_law_script") (CX:=fun _=>CX0) (sp:=fun w=>ybk (K w.params)) hn (by decide) hdf ⟨rfl,by decide,by decide⟩ hY F (fun _ _ a e b _ c=>⟨a,e,rfl,c,b,fun _=>rfl⟩) fun _ _ _ _ _ z=>z
end Law
open PySem PySem.W PyProof.Rows
set_option maxRecDepth 100000 in
set_option maxHeartbeats 0 in
theorem PySem.Challenge.cw_foretell_k46_drop_holds : PySem.Challenge.rw_foretell_k46_drop.Holds := by
 refine H0.2 ?_
 unfold H0
 dsimp only []
 k_fill
 refine Law.walk (l := PySem.Challenge.rw_foretell_k46_drop) rfl rfl (fun w h Y => PySem.W.kIn_of Y) ?F
 case F =>
  intro w mg fa h KX G hmg
  refine' Law.all_mk KX G hmg ?_ ?_ ?_ ?_ ?_ ?_ ?_ ?_ ?_ ?_ ?_ ?_ ?_ ?_ ?_ ?_ ?_ ?_ ?_ ?_ ?_ ?_ ?_ ?_ ?_ ?_ ?_ ?_ ?_ ?_ ?_ ?_ ?_ ?_ ?_ ?_ ?_ ?_ ?_ ?_ ?_ ?_ ?_ ?_ ?_ ?_ ?_ ?_ ?_ ?_ ?_ ?_ ?_ ?_ ?_ ?_ ?_ ?_ ?_ ?_ ?_ ?_ ?_ ?_ ?_ ?_ ?_ ?_ ?_ ?_ ?_ ?_ ?_ ?_ ?_ ?_ ?_ ?_ ?_ ?_ ?_ ?_ ?_ ?_ ?_ ?_ ?_ ?_ ?_ ?_ ?_ ?_ ?_ ?_ ?_ ?_ ?_ ?_ ?_ ?_ ?_ ?_ ?_ ?_ ?_ ?_ ?_ ?_ ?_ ?_ ?_ ?_ ?_ ?_ ?_ ?_ ?_ ?_ ?_ ?_ ?_ ?_ ?_ ?_ ?_ ?_ ?_ ?_ ?_ ?_ ?_ ?_ ?_ ?_ ?_ ?_ ?_ ?_ ?_ ?_ ?_ ?_ ?_ ?_ ?_ ?_ ?_ ?_ ?_ ?_ ?_ ?_ ?_ ?_ ?_ ?_ ?_ ?_ ?_ ?_ ?_ ?_ ?_ ?_ ?_ ?_ ?_ ?_ ?_ ?_ ?_ ?_ ?_ ?_ ?_ ?_ ?_ ?_ ?_ ?_ ?_ ?_ ?_ ?_ ?_ ?_ ?_ ?_ ?_ ?_ ?_ ?_ ?_ ?_ ?_ ?_ ?_ ?_ ?_ ?_ ?_ ?_ ?_ ?_ ?_ ?_ ?_ ?_ ?_ ?_ ?_ ?_ ?_ ?_ ?_ ?_ ?_ ?_ ?_ ?_ ?_ ?_ ?_ ?_ ?_ ?_ ?_ ?_ ?_ ?_ ?_ ?_ ?_ ?_ ?_ ?_ ?_ ?_ ?_ ?_ ?_ ?_ ?_ ?_ ?_ ?_ ?_ ?_ ?_ ?_ ?_ ?_ ?_ ?_ ?_ ?_ ?_ ?_ ?_ ?_ ?_ ?_ ?_
  any_goals first | (refine' L2.dgf_mk KX G ?_ ?_ ?_ ?_; any_goals k_is; done) | (refine' L2.dgm_mk ?_ ?_ ?_ ?_ ?_; any_goals k_is; done) | (refine' L2.XCls.mk ?_ ?_ ?_ ?_ ?_ ?_ ?_ ?_ <;> k_is) | (refine' L2.KC.mk ?_ ?_ ?_ ?_ ?_ ?_ <;> k_is) | k_is | kit_is | k_exc | (with_reducible show _ = _; first | k_is | k_exc)
#print axioms PySem.Challenge.cw_foretell_k46_drop_holds
