import PyProof.Rows.All
import Wide.All
import OpenK.AllK
import Wide.FinOn
import PyProof.EqAt
import PyProof.EqKinds
import PyProof.TupleCall
import Lean
import PySem.Challenge.RW_foretell_k43_best_base
set_option Elab.async false
set_option linter.all false
set_option compiler.extract_closed false
set_option maxRecDepth 100000
set_option maxHeartbeats 4000000
local macro_rules | `(tactic| exists $ts,*)=>`(tactic| refine ⟨$ts,*⟩)
namespace PySem.W.Fast
local macro_rules
 | `(#synth $k:ident $ns*)=>do return Lean.mkNullNode ((<-ns.mapM fun n=>`(theorem $(Lean.mkIdent (.mkSimple s!"tw{((`H0).str s!"{k.getId}_{n.raw.isNatLit?.get!}").hash}")) : True:=⟨⟩)).map (·.raw))
 | `(#synth $k:ident)=>`(theorem $(Lean.mkIdent (.mkSimple s!"tw{k.getId.hash}")) : True:=⟨⟩)
#synth PySem.Challenge.pw_foretell_k43_best_base
#synth heap 1342 39 46
#synth tree 1341 1186 1272 1044 1002 951 896 838 773 744 659 612 561 516 466 423 380 343 298 250 235 220 205 190 175 160 145 130 115 100 85 70 47
#synth view 39
#synth sts 1276 1045 897 660 613 517 774 562 299 952 467 839 745 251 1003 381 424 344 49 116 101 191 161 71 221 146 176 86 131 206 236
#synth o 1276 1045 1003 952 897 839 774 745 660 613 562 517 1341 1339 467 424 381 344 299 645 1294 643 251 1292 1289 1287 1334 1332 1322 1320 236 1231 1090 1172 1181 1132 537 221 1170 1049 673 1088 1229 206 1179 1130 1271 535 810 737 671 1308 191 1329 549 951 1177 176 808 547 735 1111 1252 1327 1306 161 949 944 454 146 1109 1250 718 942 640 131 875 298 925 1009 739 452 917 411 591 116 903 584 716 638 873 296 664 1007 605 1202 1061 101 831 923 561 497 988 516 409 915 901 589 937 678 86 582 854 603 732 559 829 1125 1190 1266 1200 1059 759 986 514 71 861 495 935 1315 1284 981 833 676 1259 1118 314 544 307 852 766 598 730 1123 1264 49 1245 1104 490 725 891 652 995 859 778 757 824 1301 979 321 910 1257 1116 974 312 1313 764 305 997 1282 542 654 596 607 967 789 843 683 1337 1102 1243 342 488 723 822 993 932 650 504 418 868 404 1299 956 752 617 319 566 972 908 1016 1097 1238 328 965 556 787 681 286 272 375 335 628 429 386 472 525 803 340 461 416 930 502 690 402 750 866 1037 463 420 506 1014 1236 1095 348 532 326 554 577 1039 333 284 626 270 483 1318 459 440 711 1167 801 397 1139 1153 366 1160 1146 1223 1082 523 688 293 773 279 1023 1026 1035 889 530 575 697 1075 1216 635 1209 1068 359 882 817 796 704 481 66 395 60 447 121 709 196 373 76 91 106 1080 1221 226 181 166 211 1325 256 136 438 151 1165 1137 241 1151 364 1144 1158 1304 253 238 223 208 193 178 163 202 97 142 247 262 217 82 112 232 187 127 172 157 887 148 291 1175 277 133 1021 118 771 103 88 1214 1073 73 128 695 67 1066 1207 113 233 173 702 98 633 203 83 158 188 357 143 263 218 815 880 738 445 248 794 947 1086 1227 371 57 731 1103 1244 921 823 696 1067 1215 1208 1166 1074 994 1124 710 1265 1152 1237 1096 689 1178 634 1159 1272 1138 1131 1145 853 860 703 1251 1110 682 867 627 881 724 672 717 1117 1258 601 1081 1222 396 888 576 1060 1201 816 987 651 966 446 439 736 677 403 358 597 973 453 874 984 583 980 365 410 788 604 795 417 590 1036 482 460 489 809 1230 1089 372 830 496 639 1171 503 802 644 1300 313 758 772 1015 306 902 1314 327 1022 320 1328 297 555 548 1283 271 285 334 524 916 1321 1307 1333 543 515 765 292 1293 1288 531 341 950 560 890 536 278 924 913 751 943 1180 936 587 909 1008 931 63 906 940 56 1340 806 124 594 169 45 667 580 79 199 109 977 1269 1128 94 1234 1093 259 229 184 846 620 1052 214 1193 1297 389 154 959 139 469 569 464 740 432 1029 781 351 421 475 426 244 507 383 998 655 1182 892 1311 1280 1040 834 376 608 762 55 996 928 871 450 832 1262 1121 970 827 1057 343 1198 755 1033 1107 1248 714 1041 609 656 377 893 999 741 835 1183 960 621 552 799 419 782 668 505 486 338 624 847 820 864 378 1000 742 68 894 610 1042 1184 836 657 1142 648 570 414 457 1156 1135 500 1149 1114 1163 850 1255 140 407 110 721 64 728 155 185 245 1053 260 200 95 769 1030 80 230 963 362 215 493 1194 125 170 390 476 352 991 433 1241 573 1038 1100 606 46 747 1012 540 331 310 289 303 528 317 275 324 282 1019 521 268 369 355 785 436 693 878 653 1071 686 857 1219 1212 512 1205 479 813 631 443 707 1078 885 462 700 393 400 1064 792 53 616 165 180 120 471 210 255 105 75 135 195 385 59 347 955 225 842 777 565 150 1189 90 1048 428 1025 663 240 70 744 160 1044 1002 145 85 466 115 205 612 250 100 235 838 1186 220 380 175 423 265 509 190 130 896 659 58 1054 1195 427 239 74 149 384 194 89 164 224 104 119 179 209 470 254 134 837 249 234 611 379 422 1043 658 144 99 895 114 743 1001 189 159 84 219 129 508 204 465 69 174 264 1185 918 1083 1224 1094 985 304 1188 770 914 1013 1298 186 945 448 992 793 318 336 346 451 1319 694 1010 51 632 851 201 1101 1050 595 1217 1055 1326 311 1235 1239 1084 1069 280 126 287 1072 1246 1027 719 941 257 1335 599 529 821 1112 152 622 971 1161 54 581 964 122 760 266 957 855 592 353 484 65 715 1065 541 494 701 800 933 1220 968 938 679 618 783 533 1115 545 1005 1079 370 811 501 1164 197 907 290 339 367 487 1129 111 1267 1305 1062 394 1338 886 828 332 763 269 1225 510 137 691 1330 578 444 216 1105 1242 564 779 858 1290 1316 480 807 322 615 818 167 92 975 1024 687 455 625 405 1108 1140 1249 844 1232 922 753 519 629 513 1302 550 865 872 171 1150 869 1126 107 919 356 978 1270 684 712 1020 557 437 1122 1256 43 669 989 477 1309 814 1253 883 776 649 705 246 374 1285 1133 646 602 522 588 1176 1091 473 641 1213 1136 227 283 904 242 733 1199 708 1031 1260 363 412 1210 276 308 1323 315 825 430 1157 1076 434 441 498 387 458 1058 156 231 141 726 1098 1168 526 415 77 1228 301 1143 879 1295 926 929 948 391 1119 797 325 862 538 748 982 273 401 876 360 1203 571 767 61 1147 1173 261 804 1087 574 96 756 1196 961 1034 1206 408 662 1154 585 1263 841 1017 636 786 1312 698 899 1278 212 722 1191 329 848 674 349 398 567 81 491 954 182 729 294 790 553 911 1047 1281 665
#synth env 41
end PySem.W.Fast
section
open PySem PySem.W PyProof.Rows
local macro_rules | `(tactic| refine $f:ident $as*)=>do
 unless f.getId==`PySem.W.holds_open do Lean.Macro.throwUnsupported
 `(tactic| (refine ($f $as*); case $(Lean.mkIdent `hc):ident=>exact $(Lean.mkIdent `hP)))
set_option maxRecDepth 100000 in
set_option maxHeartbeats 0 in
def H0:PSigma fun P:Prop=>P->PySem.Challenge.rw_foretell_k43_best_base.Holds:=by
 refine' ⟨_,fun hP=>?_⟩
 rotate_left
 w_on; o_law; k_head
 w_witness2
end
section
open PySem PySem.Spec PyProof.Rows
def bY:type_of% @wpAny_bind:=@wpAny_bind
def cA:type_of% @List.length_map:=@List.length_map
def cB:type_of% @Heap.get?_push_of_some:=@Heap.get?_push_of_some
def cC:type_of% @List.getElem?_eq_getElem:=@List.getElem?_eq_getElem
def cD:type_of% @wpAny_pure:=@wpAny_pure
def cE:type_of% @Nat.le_refl:=@Nat.le_refl
def cF:type_of% @List.length_append:=@List.length_append
def cG:type_of% @List.getElem?_map:=@List.getElem?_map
def cH:type_of% @Heap.lt_size:=@Heap.lt_size
def cI:type_of% @List.mem_map:=@List.mem_map
def cJ:type_of% @Heap.get?_push_size:=@Heap.get?_push_size
def cK:type_of% @decide_eq_true:=@decide_eq_true
def cL:type_of% @List.size_toArray:=@List.size_toArray
def cM:type_of% @List.map_append:=@List.map_append
def cN:type_of% @Bool.false_ne_true:=@Bool.false_ne_true
def cO:type_of% @List.getElem?_eq_some_iff:=@List.getElem?_eq_some_iff
def cP:type_of% @decide_eq_false:=@decide_eq_false
def cQ:type_of% @List.mem_singleton:=@List.mem_singleton
def cR:type_of% @List.mem_of_getElem?:=@List.mem_of_getElem?
def cS:type_of% @Option.some.inj:=@Option.some.inj
def cT:type_of% @List.mem_cons:=@List.mem_cons
def cU:type_of% @Nat.ne_of_lt:=@Nat.ne_of_lt
def cV:type_of% @Nat.zero_le:=@Nat.zero_le
def cX:type_of% @List.length_take:=@List.length_take
def cY:type_of% @Nat.not_lt_zero:=@Nat.not_lt_zero
def cZ:type_of% @List.mem_append_right:=@List.mem_append_right
def c7:type_of% @List.mem_append:=@List.mem_append
def da:type_of% @List.length_range:=@List.length_range
def db:type_of% @Bool.and_eq_true:=@Bool.and_eq_true
def de:type_of% @List.length_cons:=@List.length_cons
def df:type_of% @List.map_map:=@List.map_map
def dg:type_of% @Nat.lt_of_lt_of_le:=@Nat.lt_of_lt_of_le
def dh:type_of% @Nat.le_trans:=@Nat.le_trans
def di:type_of% @List.map_cons:=@List.map_cons
def dm:type_of% @List.mem_cons_self:=@List.mem_cons_self
def dn:type_of% @List.getElem?_eq_none:=@List.getElem?_eq_none
def dr:type_of% @List.take_succ_eq_append_getElem:=@List.take_succ_eq_append_getElem
def du:type_of% @List.append_assoc:=@List.append_assoc
def dv:type_of% @Int.emod_lt_of_pos:=@Int.emod_lt_of_pos
def dw:type_of% @List.getElem_mem:=@List.getElem_mem
def dy:type_of% @List.mem_cons_of_mem:=@List.mem_cons_of_mem
def dz:type_of% @List.mem_of_mem_take:=@List.mem_of_mem_take
def dA:type_of% @List.take_of_length_le:=@List.take_of_length_le
def dB:type_of% @List.replicate_succ:=@List.replicate_succ
def dC:type_of% @Array.length_toList:=@Array.length_toList
def dD:type_of% @wpAny_field:=@wpAny_field
def dE:type_of% @List.length_singleton:=@List.length_singleton
def dF:type_of% @Int.emod_nonneg:=@Int.emod_nonneg
def dG:type_of% @Int.mul_le_mul_of_nonneg_right:=@Int.mul_le_mul_of_nonneg_right
def dH:type_of% @wpAny_truthy_bool:=@wpAny_truthy_bool
def dI:type_of% @List.mem_range:=@List.mem_range
def dJ:type_of% @List.mem_append_left:=@List.mem_append_left
def dL:type_of% @List.getD_eq_getElem?_getD:=@List.getD_eq_getElem?_getD
def dM:type_of% @List.getElem?_append_right:=@List.getElem?_append_right
def dN:type_of% @List.take_length:=@List.take_length
def dP:type_of% @List.length_drop:=@List.length_drop
def dQ:type_of% @Int.mul_le_mul_of_nonneg_left:=@Int.mul_le_mul_of_nonneg_left
def dR:type_of% @List.nodup_cons:=@List.nodup_cons
def dS:type_of% @List.getElem?_range:=@List.getElem?_range
def dU:type_of% @wpAny_mono:=@wpAny_mono
def dW:type_of% @List.length_replicate:=@List.length_replicate
def dX:type_of% @beq_eq_false_iff_ne:=@beq_eq_false_iff_ne
def dY:type_of% @List.getElem_map:=@List.getElem_map
def dZ:type_of% @List.eq_nil_of_length_eq_zero:=@List.eq_nil_of_length_eq_zero
def d5:type_of% @Option.map_some:=@Option.map_some
def d6:type_of% @List.append_nil:=@List.append_nil
def d7:type_of% @Nat.lt_irrefl:=@Nat.lt_irrefl
def d8:type_of% @List.drop_eq_getElem_cons:=@List.drop_eq_getElem_cons
def d9:type_of% @List.eq_of_mem_replicate:=@List.eq_of_mem_replicate
def ed:type_of% @Option.map_eq_some_iff:=@Option.map_eq_some_iff
end
namespace L2
open PySem PySem.Spec PyProof.Rows
variable {C a:Addr} {op:CmpOp} {e tg:Expr} {fd:FuncData} {h':Heap} {pins:List (Addr × Obj)} {kw:List (Str × Value)} {fp:List Addr} {es:List Expr} {body:List Stmt} {us:List Value} {M:Model} {i t':Nat} {p:Pos} {P:Program} {s':Shared} {mA:Str->Option Value} {u:Value} {E Q:Value->Shared->Prop}
abbrev Key:=Sum Int Str
def yfo:Key->Value->Bool
 | .inl k,v=>Value.isInt k v
 | .inr x,v=>Value.isStrOf x v
def vee (w:World):Key->Int
 | .inl k=>hashInt k
 | .inr x=>hashStr w x
theorem wt:∀ {k:Key} {v:Value},yfo k v=true->(∃ i t,k=Sum.inl i/\v=Value.int i t)\/(∃ x t,k=Sum.inr x/\v=Value.str x t)
 | .inl i,v,h=>by
  obtain ⟨t,e⟩:=Value.isInt_shape (k:=i) (v:=v) h;exact .inl ⟨i,t,rfl,e⟩
 | .inr x,v,h=>by
  obtain ⟨t,e⟩:=Value.isStrOf_shape (x:=x) (v:=v) h;exact .inr ⟨x,t,rfl,e⟩
def yf0 (i:Int) (t:Tok):yfo (.inl i) (.int i t)=true:=by simp [yfo,Value.isInt]
def yg7 (x:Str) (t:Tok):yfo (.inr x) (.str x t)=true:=by simp [yfo,Value.isStrOf]
def yy9 (a b:Int):decide ((Sum.inl a:Key)=Sum.inl b)=(a == b):=by
 by_cases e:a=b
 .subst e; simp
 .have h:¬ (Sum.inl a:Key)=Sum.inl b:=fun q=>e (Sum.inl.inj q);rw [cP h];exact (dX.mpr e).symm
def yvm (a b:Str):decide ((Sum.inr a:Key)=Sum.inr b)=decide (a=b):=by
 by_cases e:a=b
 .subst e; simp
 .have h:¬ (Sum.inr a:Key)=Sum.inr b:=fun q=>e (Sum.inr.inj q);rw [cP h,cP e]
def ywt (a:Int) (b:Str):decide ((Sum.inl a:Key)=Sum.inr b)=false:=cP (fun q=>nomatch q)
def yyw (a:Str) (b:Int):decide ((Sum.inr a:Key)=Sum.inl b)=false:=cP (fun q=>nomatch q)
def vq (prog:Program) (w:World):PySem.KeyKind prog w Key where
 is:=yfo
 hash:=vee w
 inj:=fun v a b ha hb=>by
  rcases wt ha with ⟨i,t,rfl,rfl⟩ | ⟨x,t,rfl,rfl⟩
  .rcases wt hb with ⟨j,u,rfl,e⟩ | ⟨y,u,rfl,e⟩
   .injection e with e1 _; rw [e1]
   .exact nomatch e
  .rcases wt hb with ⟨j,u,rfl,e⟩ | ⟨y,u,rfl,e⟩
   .exact nomatch e
   .injection e with e1 _; rw [e1]
 byValue:=fun k v h=>by
  rcases wt h with ⟨i,t,rfl,rfl⟩ | ⟨x,t,rfl,rfl⟩ <;> rfl
 pyHash:=fun hv h=>by
  rcases wt hv with ⟨i,t,rfl,rfl⟩ | ⟨x,t,rfl,rfl⟩
  .exact wpAny_pyHash_int h
  .exact wpAny_pyHash_str h
 eqBool:=fun hu hv h=>by
  rcases wt hu with ⟨i,t,rfl,rfl⟩ | ⟨x,t,rfl,rfl⟩
  .rcases wt hv with ⟨j,u,rfl,rfl⟩ | ⟨y,u,rfl,rfl⟩
   .rw [yy9] at h; exact wpAny_eqBool_int h
   .rw [ywt] at h; exact SeqAt.EqAt.int_str i t y u _ _ _ _ h
  .rcases wt hv with ⟨j,u,rfl,rfl⟩ | ⟨y,u,rfl,rfl⟩
   .rw [yyw] at h; exact SeqAt.EqAt.str_int x t j u _ _ _ _ h
   .rw [yvm] at h; exact wpAny_eqBool_str h
 «strs»:=fun k x t v h=>by
  rcases wt h with ⟨i,u,rfl,e⟩ | ⟨y,u,rfl,e⟩
  .exact nomatch e
  .injection e with e1 _;subst e1;cases v <;> rfl
def ya4 (prog:Program) (w:World) (i:Int) (t:Tok):(vq prog w).is (.inl i) (.int i t)=true:=yf0 i t
def ybn (prog:Program) (w:World) (x:Str) (t:Tok):(vq prog w).is (.inr x) (.str x t)=true:=yg7 x t
inductive V where
 | non | bl (b:Bool) | int (i:Int) | str (x:Str) | byt (b:Array UInt8) | flt (b:UInt64) | ref (a:Addr) | ty (n:String)
 deriving DecidableEq
variable {vs xs:List V} {v y:V}
def xb:V->Value->Prop
 | .non,u=>u=Value.none
 | .bl b,u=>u=Value.bool b
 | .int i,u=>∃ t,u=Value.int i t
 | .str x,u=>∃ t,u=Value.str x t
 | .byt b,u=>∃ t,u=Value.bytes b t
 | .flt b,u=>∃ t,u=Value.float b t
 | .ref a,u=>u=Value.ref a
 | .ty n,u=>u=Value.type n
abbrev wg:List V->List Value->Prop:=Paired xb
theorem wg.length (r:wg xs us):xs.length=us.length:=Paired.length r
theorem wg.get:∀ {xs:List V} {us:List Value} {i:Nat} {x:V},wg xs us->xs[i]?=some x->∃ u,us[i]?=some u/\xb x u
 | _,_,_,_,.nil,e=>by simp at e
 | _,_,0,_,.cons r _,e=>by simp at e; subst e; exists _,rfl,r
 | _,_,i+1,x,.cons _ t,e=>by
  obtain ⟨u,a,b⟩:=wg.get (i:=i) (x:=x) t (by simpa using e);exists u,by simpa using a,b
theorem wg.set {x:V} (r:xb x u):∀ {xs:List V} {us:List Value} (i:Nat),wg xs us->wg (xs.set i x) (us.set i u)
 | _,_,_,.nil=>.nil
 | _,_,0,.cons _ t=>.cons r t
 | _,_,i+1,.cons q t=>.cons q (wg.set r i t)
theorem wg.append:∀ {xs ys:List V} {us ws:List Value},wg xs us->wg ys ws->wg (xs++ys) (us++ws)
 | _,_,_,_,.nil,s=>s
 | _,_,_,_,.cons r t,s=>.cons r (wg.append t s)
theorem wg.take:∀ {xs:List V} {us:List Value} (n:Nat),wg xs us->wg (xs.take n) (us.take n)
 | _,_,0,_=>.nil
 | _,_,_+1,.nil=>.nil
 | _,_,n+1,.cons r t=>.cons r (wg.take n t)
theorem wg.drop:∀ {xs:List V} {us:List Value} (n:Nat),wg xs us->wg (xs.drop n) (us.drop n)
 | _,_,0,r=>r
 | _,_,_+1,.nil=>.nil
 | _,_,n+1,.cons _ t=>wg.drop n t
def yas:Option V->Option Value->Prop
 | some v,some u=>xb v u
 | none,none=>True
 | _,_=>False
def KV {κ:Type}:List (κ × V)->List (κ × Value)->Prop:=Paired fun (p:κ × V) (q:κ × Value)=>p.1=q.1/\xb p.2 q.2
def kV:Key->V
 | .inl i=>.int i
 | .inr x=>.str x
inductive HO where
 | lst (xs:List V)
 | tup (xs:List V)
 | dK (kvs:List (Key × V)) | dT (kvs:List (List Key × V))
 | set (S:Int->Bool) (n:Nat)
 | ins (C dx:Addr) (fs:List (Str × V))
 | own (x:Addr)
 | xd (fs:List (Str × V))
 | met (f x:Addr)
 | rng (lo hi:Int)
 | frz (o:Obj) (u:HO)
 | tbl (ps:Array Value)
 | ext (φ:Heap->Prop)
abbrev Hp:=Addr->Option HO
variable {H H':Hp}
def upd (H:Hp) (a:Addr) (o:HO):Hp:=fun b=>if b=a then some o else H b
def ya {o:HO}:upd H a o a=some o:=by unfold upd; rw [if_pos rfl]
def yk {b:Addr} {o:HO} (h:b≠a):upd H a o b=H b:=by unfold upd; rw [if_neg h]
def ww {b:Addr} {o u:HO} (h:H a=some o) (h':H b=some u) (d:o≠u):a≠b:=by
 intro e; subst e; rw [h] at h'; exact d (cS h')
def yb {b:Addr} {o:HO} (h:H a=some o) (h':H b=none):a≠b:=by
 intro e; subst e; rw [h] at h'; cases h'
section
variable (P:Program) (w:World)
def wq (H:Hp) (h:Heap) (a:Addr):HO->Prop
 | .lst xs=>xs.length <= sizeLine/\∃ (its:List Value) (n:Nat),wg xs its/\h.get? a=some { cls:=.type "list",data:=.seq its.toArray n }
 | .tup xs=>xs.length <= sizeLine/\∃ its:List Value,wg xs its/\IsTup h a its.toArray
 | .dK kvs=>kvs.length <= sizeLine/\(a == sysModules)=false/\∃ vs,KV kvs vs/\h.DictOf (vq P w) a vs
 | .dT kvs=>kvs.length <= sizeLine/\(a == sysModules)=false/\∃ xs:List (List Key × Addr × Value),
   Paired (fun (p:List Key × V) (q:List Key × Addr × Value)=>p.1=q.1/\H q.2.1=some (.tup (p.1.map kV))/\xb p.2 q.2.2) kvs xs /\
   ∃ o es ep,h.get? a=some o/\o.ExactDict/\o.data=.dict es ep/\es.toList=xs.map (entryOfKey (tupleKind (vq P w)))/\(xs.map (·.1)).Nodup
 | .set S n=>h.SetOf (intKind P w) a S n
 | .ins C dx fs=>H dx=some (.own a)/\fs.length <= 1000/\dx≠a/\h.get? a=some (W.instObj C dx) /\
   ∃ mA,h.Ns1 dx mA/\(∀ f,yas (fs.lookup f) (mA f))/\PySem.Within mA (fs.map (·.1))
 | .own _=>∃ o,h.get? a=some o
 | .xd fs=>∃ mA,h.Ns1 a mA/\∀ f,yas (fs.lookup f) (mA f)
 | .rng lo hi=>∃ t u v,h.get? a=some { cls:=.type "range",data:=.fields #[.int lo t,.int hi u,.int 1 v] }
 | .frz o u=>h.get? a=some o/\wq H h a u
 | .tbl ps=>h.get? a=some { cls:=.none,data:=.fields ps }
 | .met f x=>h.get? a=some (W.methodObj (.ref f) (.ref x))
 | .ext φ=>φ h/\(∃ o,h.get? a=some o)/\∀ h1 h2:Heap,φ h1->(∀ o,h1.get? a=some o->h2.get? a=some o)->φ h2
def HOk (H:Hp) (h:Heap):Prop:=∀ a o,H a=some o->wq P w H h a o
end
section
variable {w:World} {h:Heap} {o:HO}
theorem wq.lt (x:wq P w H h a o):a < h.objs.size:=by
 cases o with
 | lst xs=>obtain ⟨_,_,_,_,e⟩:=x; exact cH e
 | tup xs=>obtain ⟨_,_,_,p⟩:=x; exact p.lt
 | dK kvs=>obtain ⟨_,_,_,_,o,_,_,e,_⟩:=x; exact cH e
 | dT kvs=>obtain ⟨_,_,_,_,o,_,_,e,_⟩:=x; exact cH e
 | set S n=>obtain ⟨o,_,_,_,e,_⟩:=x; exact cH e
 | ins C dx fs=>obtain ⟨_,_,_,e,_⟩:=x; exact cH e
 | own y=>obtain ⟨_,e⟩:=x; exact cH e
 | xd fs=>obtain ⟨_,⟨_,_,_,e,_⟩,_⟩:=x; exact cH e
 | rng lo hi=>obtain ⟨_,_,_,e⟩:=x; exact cH e
 | frz ob u=>obtain ⟨e,_⟩:=x; exact cH e
 | tbl ps=>exact cH (show h.get? a=some _ from x)
 | met f y=>exact cH (show h.get? a=some _ from x)
 | ext φ=>obtain ⟨_,⟨_,e⟩,_⟩:=x; exact cH e
theorem Paired.mapP {α β:Type} {F G:α->β->Prop}:∀ {l₁:List α} {l₂:List β},Paired F l₁ l₂->(∀ a b,F a b->G a b)->Paired G l₁ l₂
 | _,_,.nil,_=>.nil
 | _,_,.cons r t,f=>.cons (f _ _ r) (Paired.mapP t f)
def wq.stay (x:wq P w H h a o) (k:∀ b u,(b=a\/H b=some (.own a))->h.get? b=some u->h'.get? b=some u)
  (ho:∀ b,H b=some (.own a)->H' b=some (.own a)) (ht:∀ b xs,H b=some (.tup xs)->H' b=some (.tup xs)):wq P w H' h' a o:=by
 induction o with
 | lst xs=>obtain ⟨z,j,n,r,e⟩:=x; exists z,j,n,r,k _ _ (.inl rfl) e
 | tup xs=>obtain ⟨z,j,r,ob,e,c⟩:=x; exists z,j,r,ob,k _ _ (.inl rfl) e,c
 | dK kvs=>obtain ⟨z,y,D,r,ob,g,i,e,c⟩:=x; exists z,y,D,r,ob,g,i,k _ _ (.inl rfl) e,c
 | dT kvs =>
  obtain ⟨z,y,xs,r,ob,g,i,e,c⟩:=x;exists z,y,xs,Paired.mapP r fun p q z=>⟨z.1,ht _ _ z.2.1,z.2.2⟩,ob,g,i,k _ _ (.inl rfl) e,c
 | set S n=>obtain ⟨ob,g,i,t,e,c⟩:=x; exists ob,g,i,t,k _ _ (.inl rfl) e,c
 | ins C dx fs =>
  obtain ⟨d,z,A,e,m,⟨l,g,i,B,c⟩,r⟩:=x;exists ho _ d,z,A,k _ _ (.inl rfl) e,m,⟨l,g,i,k _ _ (.inr d) B,c⟩,r
 | own y=>obtain ⟨ob,e⟩:=x; exists ob,k _ _ (.inl rfl) e
 | xd fs=>obtain ⟨m,⟨l,g,i,e,c⟩,r⟩:=x; exists m,⟨l,g,i,k _ _ (.inl rfl) e,c⟩,r
 | rng lo hi=>obtain ⟨t,u,v,e⟩:=x; exists t,u,v,k _ _ (.inl rfl) e
 | frz ob u ih=>obtain ⟨e,q⟩:=x; exists k _ _ (.inl rfl) e,ih q
 | tbl ps =>
  have e:h.get? a=some { cls:=.none,data:=.fields ps }:=x;show h'.get? a=some { cls:=.none,data:=.fields ps };exact k a _ (.inl rfl) e
 | met f y =>
  have e:h.get? a=some (W.methodObj (.ref f) (.ref y)):=x;show h'.get? a=some (W.methodObj (.ref f) (.ref y));exact k a _ (.inl rfl) e
 | ext φ=>obtain ⟨p,⟨o,e⟩,s⟩:=x; exists s _ _ p fun o q=>k _ _ (.inl rfl) q,⟨o,k _ _ (.inl rfl) e⟩,s
theorem HOk.lt (x:HOk P w H h) (e:H a=some o):a < h.objs.size:=(x a o e).lt
def HOk.fresh (x:HOk P w H h) (e:h.objs.size <= a):H a=none:=by
 cases q:H a with
 | none=>rfl
 | some u=>exact absurd (dg (x.lt q) e) (d7 _)
def HOk.kept (x:HOk P w H h) (k:∀ b u,h.get? b=some u->h'.get? b=some u):HOk P w H h':=fun a o e =>
 (x a o e).stay (fun b u _ q=>k b u q) (fun _ q=>q) fun _ _ q=>q
def HOk.laid (x:HOk P w H h) (k:∀ b u,h.get? b=some u->h'.get? b=some u) (hp:h.objs.size <= a) (new:wq P w (upd H a o) h' a o):HOk P w (upd H a o) h':=fun b u e=>by
 have d:=x.fresh hp;by_cases hb:b=a
 .subst hb; rw [ya] at e; cases e; exact new
 .rw [yk hb] at e;exact (x b u e).stay (fun c v _ q=>k c v q) (fun c q=>by rw [yk (yb q d)]; exact q) fun c f q=>by rw [yk (yb q d)]; exact q
end
def Rd (H:Hp) (a:Addr) (u:HO):Prop:=H a=some u\/∃ o,H a=some (.frz o u)
def Rd.of {u:HO} (h:H a=some u):Rd H a u:=.inl h
def Rd.ok {w:World} {h:Heap} {u:HO} (r:Rd H a u) (x:HOk P w H h):wq P w H h a u:=by
 rcases r with r | ⟨o,r⟩
 .exact x a u r
 .obtain ⟨_,q⟩:=x a _ r;exact q
def Mut:Option HO->Prop
 | some (.lst _)=>True
 | some (.dK _)=>True
 | some (.dT _)=>True
 | some (.set _ _)=>True
 | some (.ins _ _ _)=>True
 | some (.ext _)=>True
 | _=>False
section
variable {w:World} {h:Heap} {x e:Addr} {o':HO}
def HOk.write (ok:HOk P w H h) (mu:Mut (H x)) (he:e=x\/H e=some (.own x)) (k:∀ b u,b≠e->h.get? b=some u->h'.get? b=some u) (heo:∃ u,h'.get? e=some u)
  (new:wq P w (upd H x o') h' x o'):HOk P w (upd H x o') h':=fun b u q=>by
 have a:∀ c y,H c=some (.own y)->c≠x:=fun c y r z=>by subst z; rw [r] at mu; exact mu
 have d:∀ c g,H c=some (.tup g)->c≠x:=fun c g r z=>by subst z; rw [r] at mu; exact mu
 by_cases hb:b=x
 .subst hb; rw [ya] at q; cases q; exact new
 .rw [yk hb] at q;by_cases hbe:b=e
  .have i:H b=some (.own x):=by
    rcases he with z | z
    .exact absurd (hbe.trans z) hb
    .rw [hbe]; exact z
   rw [q] at i; cases i;obtain ⟨v,j⟩:=heo;exists v,by rw [hbe]; exact j
  .refine (ok b u q).stay (fun c v f r=>k c v ?_ r) (fun c r=>by rw [yk (a c b r)]; exact r) fun c g r=>by rw [yk (d c g r)]; exact r
   rcases f with rfl | f
   .exact hbe
   .rintro rfl;rcases he with z | z
    .exact a c b f z
    .rw [f] at z; cases z; exact hb rfl
end
structure Un (fs ex:List Addr) (H H':Hp) (h h':Heap):Prop where
 keep:∀ b o,h.get? b=some o->H b=none->b∉fs->b∉ex->h'.get? b=some o
 slot:∀ b o,h.get? b=some o->H b=none->b∈fs->b∉ex->∃ sl,h'.get? b=some { o with slots:=sl }
 free:∀ b o,h.get? b=some o->H b=none->b∉ex->H' b=none
 there:∀ b o,h.get? b=some o->b∉ex->∃ o',h'.get? b=some o'
 tups:∀ b xs,H b=some (.tup xs)->H' b=some (.tup xs)
 frzs:∀ b o u,H b=some (.frz o u)->H' b=some (.frz o u)
 tbls:∀ b ps,H b=some (.tbl ps)->∃ more,H' b=some (.tbl (ps++more))
section
variable {fs fs' ex ex':List Addr} {H1 H2:Hp} {h h1 h2:Heap} {x e:Addr} {o:HO}
def Un.any (u:Un fs ex H H1 h h1) {b:Addr} {ob:Obj} (q:h.get? b=some ob) (n:H b=none) (hx:b∉ex):∃ sl,h1.get? b=some { ob with slots:=sl }:=by
 by_cases hb:b∈fs
 .exact u.slot b ob q n hb hx
 .exists ob.slots,u.keep b ob q n hb hx
def Un.kept (k:∀ b u,h.get? b=some u->h'.get? b=some u):Un fs ex H H h h' :=
 ⟨fun b a q _ _ _=>k b a q,fun b a q _ _ _=>⟨a.slots,k b a q⟩,fun _ _ _ n _=>n,fun b a q _=>⟨a,k b a q⟩,fun _ _ q=>q,fun _ _ _ q=>q,fun _ c q=>⟨#[],by rw [q]; simp⟩⟩
def Un.refl:Un fs ex H H h h:=Un.kept fun _ _ q=>q
def Un.laid (k:∀ b u,h.get? b=some u->h'.get? b=some u) (hp:h.objs.size <= a) (hn:H a=none):Un fs ex H (upd H a o) h h' where
 keep:=fun b u q _ _ _=>k b u q
 slot:=fun b u q _ _ _=>⟨u.slots,k b u q⟩
 free:=fun b u q n _=>by rw [yk (cU (dg (cH q) hp))]; exact n
 there:=fun b u q _=>⟨u,k b u q⟩
 tups:=fun b c q=>by rw [yk (yb q hn)]; exact q
 frzs:=fun b u c q=>by rw [yk (yb q hn)]; exact q
 tbls:=fun b d q=>⟨#[],by rw [yk (yb q hn),q]; simp⟩
def Un.write (mu:Mut (H x)) (he:e=x\/H e=some (.own x)) (k:∀ b u,b≠e->h.get? b=some u->h'.get? b=some u) (heo:∃ u,h'.get? e=some u):Un fs ex H (upd H x o) h h':=by
 have d:∀ b,H b=none->b≠x:=fun b n z=>by subst z; rw [n] at mu; exact mu
 have c:∀ b,H b=none->b≠e:=fun b n z=>by
  subst z;rcases he with r | r
  .exact d b n r
  .rw [n] at r; cases r
 have a:∀ b u,H b=some u->¬ Mut (some u)->b≠x:=fun b u q f z=>by subst z; rw [q] at mu; exact f mu
 refine ⟨fun b u q n _ _=>k b u (c b n) q,fun b u q n _ _=>⟨u.slots,k b u (c b n) q⟩,fun b u q n _=>by rw [yk (d b n)]; exact n,fun b u q _=>?_,
  fun b g q=>by rw [yk (a b _ q fun z=>z)]; exact q,fun b u g q=>by rw [yk (a b _ q fun z=>z)]; exact q,fun b i q=>⟨#[],by rw [yk (a b _ q fun z=>z),q]; simp⟩⟩
 by_cases hbe:b=e
 .subst hbe; exact heo
 .exists u,k b u hbe q
end
def trk (h:Heap) (H:Hp):List Addr:=(List.range h.objs.size).filter fun a=>(H a).isSome
def ymm (h:Heap) (H:Hp):Heap:=W.hideAll h (trk h H)
def yf9 (h:Heap) (H:Hp):(ymm h H).objs.size=h.objs.size:=W.hideAll_size _ _
def ylj {h:Heap} {b:Addr} {o:Obj} (e:h.get? b=some o) (n:H b=none):(ymm h H).get? b=some o :=
 W.hideAll_get _ e fun a=>by
  have q:(H b).isSome=true:=(List.mem_filter.mp a).2;rw [n] at q; simp at q
def yp3 {h:Heap} {b:Addr} {o:Obj} (e:(ymm h H).get? b=some o):h.get? b=some o/\H b=none:=by
 have a:h.get? b=some o:=W.of_hideAll (trk h H) e;exists a,?_
 cases q:H b with
 | none=>rfl
 | some x =>
  have c:b∈trk h H:=List.mem_filter.mpr ⟨dI.mpr (cH a),by simp [q]⟩;have z:(ymm h H).get? b=none:=W.hideAll_none (trk h H) c;rw [z] at e; cases e
def yo7 (g h:Heap) (L:Addr):List (Addr × Obj):=(List.range h.objs.size).filterMap fun a=>if a=L\/(g.get? a).isSome=true then none else (h.get? a).map fun o=>(a,o)
def υ (g h:Heap) (L d:Addr):List (Addr × Obj):=(yo7 g h L).filter fun p=>decide (p.1≠d)
structure Mod (K:W.Frag) (mg:Str->Option Value) (base:Heap):Prop where
 kin:K.In base
 glob:base.Ns mainGlobals mg
 blt:∃ mb,base.Ns builtinsNs mb/\∀ x:Str,x≠"__name__"->mb x=bootBuiltins x
 nolimit:base.NoLimit
structure Cx where
 prog:Program
 w:World
 K:W.Frag
 mg:Str->Option Value
 base:Heap
 A:Around
 N:List Str
 s₀:Shared
 H₀:Hp
 env:Env
 outer:List Env
 stack:List Env
 ex:List Addr
 fn:Str->Bool
 calm:Bool
 pn:List (Addr × Obj)
 xe:Value->Shared->Prop
variable {X:Cx}
def frs (l:List Env):List Addr:=l.filterMap (·.frame)
abbrev Cx.fs (X:Cx):List Addr:=frs X.outer
def Vis (sc:Scope) (x:Str):Prop:=sc.names.lookup x=some .local\/sc.names.lookup x=some .cell\/sc.names.lookup x=some .free
def Loc (sc:Scope) (x:Str):Prop:=sc.names.lookup x=some .local\/sc.names.lookup x=some .cell
def vel (env:Env) (h:Heap) (m:Str->Option Value) (x:Str) (u:Value):Prop :=
 (env.kindOf x=some .local/\m x=some u)\/((env.kindOf x=some .cell\/env.kindOf x=some .free)/\∃ c,env.cells.lookup x=some c/\h.IsCell c (some u))
structure Cx.Ok (X:Cx):Prop where
 mod:Mod X.K X.mg X.base
 kind:X.env.scope.kind=.function
 glob:X.env.globals=mainGlobals
 blt:X.env.builtins=builtinsNs
 above:X.s₀.heap.objs.size <= X.env.locals
 inj:∀ x y c,X.env.cells.lookup x=some c->X.env.cells.lookup y=some c->x=y
 has:∀ x,(X.env.kindOf x=some .cell\/X.env.kindOf x=some .free)->∃ c,X.env.cells.lookup x=some c
 cab:∀ x c,X.fn x=true->X.env.cells.lookup x=some c->X.s₀.heap.objs.size <= c
 hd:X.calm=true->X.A.handled=none
 frames:X.A.frames=some X.stack
 stk:X.stack=X.outer\/(X.stack=X.env :: X.outer/\X.env.frame=some X.env.locals)
 exf:∀ b∈X.ex,b≠X.env.locals/\∀ x c,X.env.cells.lookup x=some c->c≠b
 bs:∀ b o,X.base.get? b=some o->X.s₀.heap.get? b=some o/\X.H₀ b=none
 bsz:X.base.objs.size <= X.s₀.heap.objs.size
 noex:∀ b o,X.base.get? b=some o->b∉X.ex
 exfs:∀ b∈X.ex,b∉X.fs
 funs:X.s₀.heap.FunFrames X.base X.outer
 frf:∀ b∈X.fs,X.H₀ b=none
structure Inv (X:Cx) (pins:List (Addr × Obj)) (σ:List (Option V)) (H:Hp) (s:Shared):Prop where
 ok:X.Ok
 os:s.os=X.s₀.os
 bare:AllBare s.gens
 base:Un X.fs X.ex X.H₀ H X.s₀.heap s.heap
 loc:∃ m,s.heap.Ns X.env.locals m/\∀ (i:Nat) (x:Str) (v:V),X.N[i]?=some x->σ[i]?=some (some v)->Vis X.env.scope x->∃ u,xb v u/\vel X.env s.heap m x u
 cell:∀ x c,X.env.cells.lookup x=some c->∃ v,s.heap.IsCell c v
 free:H X.env.locals=none
 freeC:∀ x c,X.env.cells.lookup x=some c->H c=none
 pin:∀ p∈X.pn++pins,s.heap.get? p.1=some p.2/\H p.1=none/\p.1≠X.env.locals/\p.1∉X.fs/\∀ v,p.2.data≠.cell v
 hok:HOk X.prog X.w H s.heap
 len:σ.length=X.N.length
section
variable {σ:List (Option V)} {s:Shared}
def Cx.Ok.nofr (ok:X.Ok) {b:Addr} {o:Obj} (e:X.base.get? b=some o):b∉X.fs:=fun a=>by
 have:=(ok.funs.mem a).1;rw [e] at this; cases this
theorem Inv.bs (I:Inv X pins σ H s):∀ b o,X.base.get? b=some o->s.heap.get? b=some o/\H b=none:=fun b o e =>
 ⟨I.base.keep b o (I.ok.bs b o e).1 (I.ok.bs b o e).2 (I.ok.nofr e) (I.ok.noex b o e),I.base.free b o (I.ok.bs b o e).1 (I.ok.bs b o e).2 (I.ok.noex b o e)⟩
def Inv.bk (I:Inv X pins σ H s):∀ b o,X.base.get? b=some o->s.heap.get? b=some o:=fun b o e=>(I.bs b o e).1
theorem Inv.mod (I:Inv X pins σ H s):Mod X.K X.mg X.base:=I.ok.mod
def Inv.kIn (I:Inv X pins σ H s):X.K.In s.heap:=I.ok.mod.kin.keeps I.bk
theorem Inv.lt (I:Inv X pins σ H s):X.env.locals < s.heap.objs.size:=let ⟨_,hn,_⟩:=I.loc; hn.lt
def Inv.sz (I:Inv X pins σ H s):X.s₀.heap.objs.size <= s.heap.objs.size:=dh I.ok.above (Nat.le_of_lt I.lt)
def Inv.nofs (I:Inv X pins σ H s) (h:s.heap.objs.size <= a):a∉X.fs:=fun c=>by
 obtain ⟨_,o,b,_⟩:=I.ok.funs.mem c;exact absurd (dg (cH b) (dh I.sz h)) (d7 _)
def Inv.cne (I:Inv X pins σ H s):∀ x c,X.env.cells.lookup x=some c->c≠X.env.locals:=fun x c e z=>by
 obtain ⟨v,o,f,d⟩:=I.cell x c e;obtain ⟨m,⟨h,g,i,a,b,_⟩,_⟩:=I.loc;rw [z,a] at f; cases f; rw [b] at d; cases d
theorem Inv.funs (I:Inv X pins σ H s):s.heap.FunFrames X.base X.outer:=by
 have a:∀ (l:List Env),(∀ b∈frs l,b∈X.fs)->X.s₀.heap.FunFrames X.base l->s.heap.FunFrames X.base l:=by
  intro l
  induction l with
  | nil=>intro _ _; trivial
  | cons env r ih =>
   intro g k;obtain ⟨j,⟨L,o,f,n,m,i⟩,h⟩:=k;have c:L∈X.fs:=g L (by unfold frs; rw [List.filterMap_cons,f]; exact dm);obtain ⟨p,e⟩:=I.base.slot L o m (I.ok.frf L c) c fun z=>I.ok.exfs L z c;exists j,⟨L,_,f,n,e,i⟩,ih (fun b d=>g b (by unfold frs; rw [List.filterMap_cons,f]; exact dy _ d)) h
 exact a X.outer (fun _ d=>d) I.ok.funs
theorem Inv.stack (I:Inv X pins σ H s):s.heap.FunFrames X.base X.stack:=by
 rcases I.ok.stk with e | ⟨e,b⟩
 .rw [e]; exact I.funs
 .rw [e];obtain ⟨m,a,_⟩:=I.loc;refine .cons (by rw [I.ok.kind]; decide) b a ?_ I.funs;exact Heap.get?_none_of_le (dh I.ok.bsz I.ok.above)
def Inv.stkSub (I:Inv X pins σ H s):∀ b∈frs X.stack,b∈X.env.locals :: X.fs:=fun b a=>by
 rcases I.ok.stk with e | ⟨e,c⟩
 .rw [e] at a; exact dy _ a
 .rw [e] at a;unfold frs at a;rw [List.filterMap_cons,c] at a;exact a
def Inv.stkFree (I:Inv X pins σ H s):∀ b∈frs X.stack,H b=none:=fun b a=>by
 rcases cT.mp (I.stkSub b a) with e | a
 .rw [e]; exact I.free
 .obtain ⟨_,o,c,_⟩:=I.ok.funs.mem a;exact I.base.free b o c (I.ok.frf b a) fun z=>I.ok.exfs b z a
def Inv.step {g':Array GenState} {d':Drawn} {ch:List Addr} (I:Inv X pins σ H s)
  (hch:∀ b∈ch,(b∈X.ex\/X.s₀.heap.objs.size <= b)/\b≠X.env.locals/\(∀ x c,X.env.cells.lookup x=some c->c≠b)/\∀ p∈X.pn++pins,p.1≠b)
  (keep:∀ b o,b≠X.env.locals->b∉X.fs->b∉ch->s.heap.get? b=some o->H b=none->h'.get? b=some o)
  (slot:∀ b o,b≠X.env.locals->b∈X.fs->b∉ch->s.heap.get? b=some o->H b=none->∃ sl,h'.get? b=some { o with slots:=sl }) (free:∀ b o,b∉ch->s.heap.get? b=some o->H b=none->H' b=none)
  (there:∀ b o,b∉ch->s.heap.get? b=some o->∃ o',h'.get? b=some o')
  (tups:∀ b xs,H b=some (.tup xs)->H' b=some (.tup xs)) (frzs:∀ b o u,H b=some (.frz o u)->H' b=some (.frz o u)) (tbls:∀ b ps,H b=some (.tbl ps)->∃ more,H' b=some (.tbl (ps++more)))
  (ns:∀ m,s.heap.Ns X.env.locals m->h'.Ns X.env.locals m) (hok:HOk X.prog X.w H' h') (hg:AllBare g') :
  Inv X pins σ H' { s with heap:=h',gens:=g',drawn:=d',toks:=t' }:=by
 have B:∀ b o,X.s₀.heap.get? b=some o->b≠X.env.locals:=fun b o e=>cU (dg (cH e) I.ok.above)
 have j:∀ b o,X.s₀.heap.get? b=some o->b∉X.ex->b∉ch:=fun b o e a t=>by
  rcases (hch b t).1 with z | z
  .exact a z
  .exact absurd (dg (cH e) z) (d7 _)
 have g:∀ x c,X.env.cells.lookup x=some c->∀ v,s.heap.IsCell c v->h'.IsCell c v:=fun x c e v ⟨o,y,C⟩=>by
  have f:c∉ch:=fun z=>(hch c z).2.2.1 x c e rfl;by_cases hc:c∈X.fs
  .obtain ⟨sl,q⟩:=slot c o (I.cne x c e) hc f y (I.freeC x c e);exists _,q,C
  .exists o,keep c o (I.cne x c e) hc f y (I.freeC x c e),C
 exists I.ok,I.os,hg,⟨fun b o e n t a=>?_,fun b o e n t a=>?_,fun b o e n a=>?_,fun b o e a=>?_,fun b xs e=>tups b xs (I.base.tups b xs e),fun b o xs e=>frzs b o xs (I.base.frzs b o xs e),fun b ps e=>?_⟩,?_,fun x c e=>?_,?_,fun x c e=>?_,fun p G=>?_,hok,I.len
 .exact keep b o (B b o e) t (j b o e a) (I.base.keep b o e n t a) (I.base.free b o e n a)
 .obtain ⟨sl,h⟩:=I.base.slot b o e n t a;obtain ⟨D,A⟩:=slot b _ (B b o e) t (j b o e a) h (I.base.free b o e n a);exists D,A
 .obtain ⟨o',h⟩:=I.base.there b o e a;exact free b o' (j b o e a) h (I.base.free b o e n a)
 .obtain ⟨o',h⟩:=I.base.there b o e a;exact there b o' (j b o e a) h
 .obtain ⟨J,h⟩:=I.base.tbls b ps e;obtain ⟨N,A⟩:=tbls b _ h;exists J++N,by rw [A,Array.append_assoc]
 .obtain ⟨m,L,K⟩:=I.loc;exists m,ns m L,fun i x v h A M=>?_;obtain ⟨u,r,l⟩:=K i x v h A M;exists u,r,?_;rcases l with l | ⟨k,c,e,z⟩
  .exact .inl l
  .exact .inr ⟨k,c,e,g x c e _ z⟩
 .obtain ⟨v,z⟩:=I.cell x c e;exists v,g x c e v z
 .obtain ⟨m,⟨o,_,_,y,_⟩,_⟩:=I.loc;exact free _ o (fun z=>(hch _ z).2.1 rfl) y I.free
 .obtain ⟨v,o,y,C⟩:=I.cell x c e;exact free c o (fun z=>(hch c z).2.2.1 x c e rfl) y (I.freeC x c e)
 .obtain ⟨e,n,F,E,d⟩:=I.pin p G;have f:p.1∉ch:=fun z=>(hch p.1 z).2.2.2 p G rfl;exists keep p.1 p.2 F E f e n,free p.1 p.2 f e n,F,E,d
def Inv.un (I:Inv X pins σ H s) (u:Un X.fs [] H H' s.heap h') (hok:HOk X.prog X.w H' h'):Inv X pins σ H' { s with heap:=h',toks:=t' }:=by
 obtain ⟨m,⟨o,k,p,g,r⟩,_⟩:=id I.loc;obtain ⟨l,i⟩:=u.any g I.free (by simp)
 exact I.step (g':=s.gens) (d':=s.drawn) (ch:=[]) (fun _ z=>nomatch z) (fun b o _ d _ e n=>u.keep b o e n d (by simp)) (fun b o _ d _ e n=>u.slot b o e n d (by simp)) (fun b o _ e n=>u.free b o e n (by simp)) (fun b o _ e=>u.there b o e (by simp)) u.tups u.frzs u.tbls (fun t j=>by
  obtain ⟨q,c,f,a,h⟩:=j;rw [g] at a; cases a;exact ⟨_,c,f,i,h⟩) hok I.bare
def Inv.call {g':Array GenState} {d':Drawn} {ch:List Addr} (I:Inv X pins σ H s) (u:Un (frs X.stack) ch H H' s.heap h') (hok:HOk X.prog X.w H' h') (hg:AllBare g')
  (hch:∀ b∈ch,(b∈X.ex\/X.s₀.heap.objs.size <= b)/\b≠X.env.locals/\(∀ x c,X.env.cells.lookup x=some c->c≠b)/\∀ p∈X.pn++pins,p.1≠b) :
  Inv X pins σ H' { s with heap:=h',gens:=g',drawn:=d',toks:=t' }:=by
 obtain ⟨m,⟨o,q,v,i,r⟩,_⟩:=id I.loc;obtain ⟨t,g⟩:=u.any i I.free fun z=>(hch _ z).2.1 rfl
 exact I.step (ch:=ch) hch (fun b o g l a e n=>u.keep b o e n (fun z=>(cT.mp (I.stkSub b z)).elim g l) a) (fun b o _ _ a e n=>u.any e n a) (fun b o a e n=>u.free b o e n a) (fun b o a e=>u.there b o e a) u.tups u.frzs u.tbls (fun A k=>by
  obtain ⟨y,f,h,d,j⟩:=k;rw [i] at d; cases d;exact ⟨_,f,h,g,j⟩) hok hg
def Inv.turned {it:Addr} (I:Inv X pins σ H s) (k:∀ b o,b≠it->s.heap.get? b=some o->h'.get? b=some o) (hn:H it=none) (hL:it≠X.env.locals)
  (h1:it∈X.ex\/X.s₀.heap.objs.size <= it) (h2:∀ x c,X.env.cells.lookup x=some c->c≠it) (h3:∀ p∈X.pn++pins,p.1≠it):Inv X pins σ H { s with heap:=h',toks:=t' }:=by
 have d:∀ b u,H b=some u->b≠it:=fun b u e z=>by rw [z,hn] at e; cases e
 refine I.step (g':=s.gens) (d':=s.drawn) (ch:=[it]) (fun b i=>?_) (fun b o _ _ a e _=>k b o (fun z=>a (by simp [z])) e) (fun b o _ _ a e _=>⟨o.slots,k b o (fun z=>a (by simp [z])) e⟩) (fun _ _ _ _ n=>n)
  (fun b o a e=>⟨o,k b o (fun z=>a (by simp [z])) e⟩) (fun _ _ e=>e) (fun _ _ _ e=>e) (fun b l e=>⟨#[],by rw [e]; simp⟩) (fun m g=>?_) (fun b u e=>?_) I.bare
 .have e:b=it:=by simpa using i
  subst e;exact ⟨h1,hL,h2,h3⟩
 .obtain ⟨o,f,h,j,r⟩:=g;exists o,f,h,k _ o (Ne.symm hL) j,r
 .refine (I.hok b u e).stay (fun c v a q=>k c v ?_ q) (fun _ q=>q) fun _ _ q=>q;rcases a with z | z
  .rw [z]; exact d b u e
  .exact d c _ z
def Inv.tok (I:Inv X pins σ H s) (t:Nat):Inv X pins σ H { s with toks:=t }:=I.un (h':=s.heap) (t':=t) Un.refl I.hok
theorem Inv.kept (I:Inv X pins σ H s) (k:∀ b u,s.heap.get? b=some u->h'.get? b=some u):Inv X pins σ H { s with heap:=h',toks:=t' }:=I.un (Un.kept k) (I.hok.kept k)
theorem Inv.laid {o:HO} (I:Inv X pins σ H s) (k:∀ b u,s.heap.get? b=some u->h'.get? b=some u) (hp:s.heap.objs.size <= a) (new:wq X.prog X.w (upd H a o) h' a o) :
  Inv X pins σ (upd H a o) { s with heap:=h',toks:=t' }:=I.un (Un.laid k hp (I.hok.fresh hp)) (I.hok.laid k hp new)
theorem Inv.write {x e:Addr} {o:HO} (I:Inv X pins σ H s) (mu:Mut (H x)) (he:e=x\/H e=some (.own x)) (k:∀ b u,b≠e->s.heap.get? b=some u->h'.get? b=some u) (heo:∃ u,h'.get? e=some u)
  (new:wq X.prog X.w (upd H x o) h' x o):Inv X pins σ (upd H x o) { s with heap:=h',toks:=t' }:=I.un (Un.write mu he k heo) (I.hok.write mu he k heo new)
def Inv.pins_of {pins':List (Addr × Obj)} (I:Inv X pins σ H s) (h:∀ p∈pins',s.heap.get? p.1=some p.2/\H p.1=none/\p.1≠X.env.locals/\p.1∉X.fs/\∀ v,p.2.data≠.cell v):Inv X pins' σ H s :=
 ⟨I.ok,I.os,I.bare,I.base,I.loc,I.cell,I.free,I.freeC,fun p a=>(c7.mp a).elim (fun z=>I.pin p (dJ _ z)) (h p),I.hok,I.len⟩
def yc8 {N:List Str} (hN:N.Nodup) {j:Nat} {x:Str} (a:N[i]?=some x) (b:N[j]?=some x):i=j:=by
 obtain ⟨e,d⟩:=cO.mp a;obtain ⟨f,c⟩:=cO.mp b;exact (List.getElem_inj hN).mp (d.trans c.symm)
def ε {A:Around} {x:Str} {Q:Unit->Shared->Prop} (I:Inv X pins σ H s) (hN:X.N.Nodup) (hi:X.N[i]?=some x) (hx:Loc X.env.scope x) (r:xb v u)
  (h:∀ s',Inv X pins (σ.set i (some v)) H s'->(∃ a,Heap.SameBut a s.heap s'.heap/\(a=X.env.locals\/X.env.cells.lookup x=some a))->Q () s') (hf:X.fn x=true\/X.env.scope.names.lookup x=some .local:=by first | exact .inl rfl | exact .inr rfl | assumption):wpAny M A (storeName X.env x u) Q E s:=by
 obtain ⟨m,hn,hl⟩:=id I.loc;have O:(X.env.scope.kind == .class || (X.env.scope.kind == .module && X.env.locals != X.env.globals))=false:=by rw [I.ok.kind]; rfl
 have hiσ:i < σ.length:=by rw [I.len]; exact (cO.mp hi).1
 have G:=I.cne
 have l:∀ {a:Addr} {K:Heap},(∃ o,s.heap.get? a=some o/\H a=none)->Heap.SameBut a s.heap K->HOk X.prog X.w H K:=fun {a K} ha f b ob e=>by
  obtain ⟨_,_,B⟩:=ha;refine (I.hok b ob e).stay (fun c T t q=>(f.2 c ?_).trans q) (fun _ q=>q) fun _ _ q=>q;rintro rfl;rcases t with rfl | t
  .rw [B] at e; cases e
  .rw [B] at t; cases t
 rcases hx with D | D
 .refine wpAny_storeName_local D hn (fun K W f=>?_) O;obtain ⟨oL,_,_,a0,_⟩:=id hn;refine h _ ⟨I.ok,I.os,I.bare,⟨fun b o e n F hx=>?_,fun b o e n F hx=>?_,I.base.free,fun b o e hx=>?_,I.base.tups,I.base.frzs,I.base.tbls⟩,⟨_,W,fun j y v' g C e3=>?_⟩,fun y c e=>?_,I.free,I.freeC,fun p hp=>?_,l ⟨oL,a0,I.free⟩ f,by simpa using I.len⟩ ⟨_,f,.inl rfl⟩
  .exact (f.2 b (cU (dg (cH e) I.ok.above))).trans (I.base.keep b o e n F hx)
  .obtain ⟨sl,g⟩:=I.base.slot b o e n F hx;exists sl,(f.2 b (cU (dg (cH e) I.ok.above))).trans g
  .obtain ⟨o',g⟩:=I.base.there b o e hx;exists o',(f.2 b (cU (dg (cH e) I.ok.above))).trans g
  .by_cases hj:j=i
   .subst hj;rw [hi] at g; cases g;rw [List.getElem?_set_self hiσ] at C;cases C;exists u,r,.inl ⟨D,by simp⟩
   .rw [List.getElem?_set_ne (Ne.symm hj)] at C;obtain ⟨u',Z,q⟩:=hl j y v' g C e3;exists u',Z,?_;rcases q with ⟨k,e⟩ | ⟨k,c,e,z⟩
    .refine .inl ⟨k,?_⟩;have:y≠x:=fun e=>hj (yc8 hN g (e ▸ hi));simp [this,e]
    .exact .inr ⟨k,c,e,z.sameBut f (G y c e)⟩
  .obtain ⟨T,z⟩:=I.cell y c e;exists T,z.sameBut f (G y c e)
  .obtain ⟨e,n,U,Y,d⟩:=I.pin p hp;exists (f.2 p.1 U).trans e,n,U,Y,d
 .have J:X.fn x=true:=by
   rcases hf with z | z
   .exact z
   .rw [z] at D; cases D
  obtain ⟨c,t⟩:=I.ok.has x (.inl D);obtain ⟨T,z⟩:=I.cell x c t;refine wpAny_storeName_cell I.ok.kind D t z (fun K R f=>?_);obtain ⟨oc,P,L⟩:=id z;refine h { s with heap:=K } ⟨I.ok,I.os,I.bare,⟨fun b o e n F hx=>?_,fun b o e n F hx=>?_,I.base.free,fun b o e hx=>?_,I.base.tups,I.base.frzs,I.base.tbls⟩,⟨m,hn.sameBut f (Ne.symm (G x c t)),fun j y v' g C e3=>?_⟩,fun y S e=>?_,I.free,I.freeC,fun p hp=>?_,l ⟨oc,P,I.freeC x c t⟩ f,by simpa using I.len⟩ ⟨c,f,.inr t⟩
  .exact (f.2 b (cU (dg (cH e) (I.ok.cab x c J t)))).trans (I.base.keep b o e n F hx)
  .obtain ⟨sl,g⟩:=I.base.slot b o e n F hx;exists sl,(f.2 b (cU (dg (cH e) (I.ok.cab x c J t)))).trans g
  .obtain ⟨o',g⟩:=I.base.there b o e hx;exists o',(f.2 b (cU (dg (cH e) (I.ok.cab x c J t)))).trans g
  .by_cases hj:j=i
   .subst hj;rw [hi] at g; cases g;rw [List.getElem?_set_self hiσ] at C;cases C;exists u,r,.inr ⟨.inl D,c,t,R⟩
   .rw [List.getElem?_set_ne (Ne.symm hj)] at C;obtain ⟨u',Z,q⟩:=hl j y v' g C e3;exists u',Z,?_;rcases q with q | ⟨k,S,e,z'⟩
    .exact .inl q
    .refine .inr ⟨k,S,e,z'.sameBut f ?_⟩;rintro rfl;exact hj (yc8 hN g (I.ok.inj _ _ _ e t ▸ hi))
  .by_cases hcc:S=c
   .subst hcc; exists _,R
   .obtain ⟨w2,z2⟩:=I.cell y S e;exists w2,z2.sameBut f hcc
  .obtain ⟨e,n,U,Y,d⟩:=I.pin p hp;exists (f.2 p.1 ?_).trans e,n,U,Y,d;intro q;rw [q,P] at e;have q':oc=p.2:=cS e;exact d T (by rw [<- q']; exact L)
def ycm {A:Around} {x:Str} {Q:Unit->Shared->Prop} (I:Inv X pins σ H s) (hN:X.N.Nodup) (hi:X.N[i]?=some x) (hx:Loc X.env.scope x) (r:xb v u)
  (h:∀ s',Inv X pins (σ.set i (some v)) H s'->Q () s') (hf:X.fn x=true\/X.env.scope.names.lookup x=some .local:=by first | exact .inl rfl | exact .inr rfl | assumption):wpAny M A (storeName X.env x u) Q E s :=
 ε I hN hi hx r (fun s' a _=>h s' a) hf
def Inv.call' {ch:List Addr} (I:Inv X pins σ H s) (ho:s'.os=s.os) (u:Un (frs X.stack) ch H H' s.heap s'.heap) (hok:HOk X.prog X.w H' s'.heap) (hg:AllBare s'.gens)
  (hch:∀ b∈ch,(b∈X.ex\/X.s₀.heap.objs.size <= b)/\b≠X.env.locals/\(∀ x c,X.env.cells.lookup x=some c->c≠b)/\∀ p∈X.pn++pins,p.1≠b):Inv X pins σ H' s':=by
 obtain ⟨d,g',d',t',a⟩:=s';have e:a=s.os:=ho;subst e;exact I.call (g':=g') (t':=t') (d':=d') u hok hg hch
end
abbrev XK:=Value->Option Addr->Hp->Prop
abbrev St:=List (Option V)
variable {σ:St}
abbrev VK:=V->Hp->Prop
abbrev TE:=St->Hp->VK->Prop
variable {ta te:TE}
abbrev TT:=St->Hp->(Bool->Hp->Prop)->Prop
abbrev TA:=St->Hp->(List V->Hp->Prop)->Prop
structure Ö where
 nx:St->Hp->Prop
 rt:VK
 bk:St->Hp->Prop:=fun _ _=>False
 ct:St->Hp->Prop:=fun _ _=>False
abbrev TS:=Ö->St->Hp->Prop
def EP (X:Cx) (pins:List (Addr × Obj)) (σ:St) (Q:VK) (u:Value) (s':Shared):Prop:=∃ v H',Inv X pins σ H' s'/\xb v u/\Q v H'
def TP (X:Cx) (pins:List (Addr × Obj)) (σ:St) (Q:Bool->Hp->Prop) (b:Bool) (s':Shared):Prop:=∃ H',Inv X pins σ H' s'/\Q b H'
def AP (X:Cx) (pins:List (Addr × Obj)) (σ:St) (Q:List V->Hp->Prop) (us:List Value) (s':Shared):Prop:=∃ vs H',Inv X pins σ H' s'/\wg vs us/\Q vs H'
def SP (X:Cx) (pins:List (Addr × Obj)) (D:Ö) (f:Flow) (s':Shared):Prop :=
 match f with
 | .next=>∃ σ' H',Inv X pins σ' H' s'/\D.nx σ' H'
 | .brk=>∃ σ' H',Inv X pins σ' H' s'/\D.bk σ' H'
 | .cont=>∃ σ' H',Inv X pins σ' H' s'/\D.ct σ' H'
 | .ret u=>∃ v σ' H',Inv X pins σ' H' s'/\xb v u/\D.rt v H'
structure PE (X:Cx) (e:Expr) (t:TE):Prop where
 go:∀ (pins:List (Addr × Obj)) (s:Shared) (σ:St) (H:Hp) (Q:VK),Inv X pins σ H s->t σ H Q->wpAny (model X.prog X.w) X.A (eval e X.env) (EP X pins σ Q) X.xe s
instance {X:Cx} {e:Expr} {t:TE}:CoeFun (PE X e t) (fun _=>∀ (pins:List (Addr × Obj)) (s:Shared) (σ:St) (H:Hp) (Q:VK),Inv X pins σ H s->t σ H Q->wpAny (model X.prog X.w) X.A (eval e X.env) (EP X pins σ Q) X.xe s):=⟨PE.go⟩
structure PT (X:Cx) (e:Expr) (t:TT):Prop where
 go:∀ (pins:List (Addr × Obj)) (s:Shared) (σ:St) (H:Hp) (Q:Bool->Hp->Prop),Inv X pins σ H s->t σ H Q->wpAny (model X.prog X.w) X.A (isTrue e X.env (eval e X.env)) (TP X pins σ Q) X.xe s
instance {X:Cx} {e:Expr} {t:TT}:CoeFun (PT X e t) (fun _=>∀ (pins:List (Addr × Obj)) (s:Shared) (σ:St) (H:Hp) (Q:Bool->Hp->Prop),Inv X pins σ H s->t σ H Q->wpAny (model X.prog X.w) X.A (isTrue e X.env (eval e X.env)) (TP X pins σ Q) X.xe s):=⟨PT.go⟩
def PW (X:Cx) (e:Expr) (t:TT):Prop :=
 ∀ (whole:Sem Value) (pins:List (Addr × Obj)) (s:Shared) (σ:St) (H:Hp) (Q:Bool->Hp->Prop),Inv X pins σ H s->t σ H Q->wpAny (model X.prog X.w) X.A (isTrue e X.env whole) (TP X pins σ Q) X.xe s
def PW.pt {t:TT} (h:PW X e t):PT X e t:=⟨h _⟩
structure PA (X:Cx) (es:List Expr) (t:TA):Prop where
 go:∀ (pos:Pos) (pins:List (Addr × Obj)) (s:Shared) (σ:St) (H:Hp) (Q:List V->Hp->Prop),Inv X pins σ H s->t σ H Q->wpAny (model X.prog X.w) X.A (spliced (backTo pos (starEach es X.env))) (AP X pins σ Q) X.xe s
instance {X:Cx} {es:List Expr} {t:TA}:CoeFun (PA X es t) (fun _=>∀ (pos:Pos) (pins:List (Addr × Obj)) (s:Shared) (σ:St) (H:Hp) (Q:List V->Hp->Prop),Inv X pins σ H s->t σ H Q->wpAny (model X.prog X.w) X.A (spliced (backTo pos (starEach es X.env))) (AP X pins σ Q) X.xe s):=⟨PA.go⟩
structure PS (X:Cx) (st:Stmt) (t:TS):Prop where
 go:∀ (pins:List (Addr × Obj)) (s:Shared) (σ:St) (H:Hp) (D:Ö),Inv X pins σ H s->t D σ H->wpAny (model X.prog X.w) X.A (exec st X.env) (SP X pins D) X.xe s
instance {X:Cx} {st:Stmt} {t:TS}:CoeFun (PS X st t) (fun _=>∀ (pins:List (Addr × Obj)) (s:Shared) (σ:St) (H:Hp) (D:Ö),Inv X pins σ H s->t D σ H->wpAny (model X.prog X.w) X.A (exec st X.env) (SP X pins D) X.xe s):=⟨PS.go⟩
structure PSs (X:Cx) (st:List Stmt) (t:TS):Prop where
 go:∀ (pins:List (Addr × Obj)) (s:Shared) (σ:St) (H:Hp) (D:Ö),Inv X pins σ H s->t D σ H->wpAny (model X.prog X.w) X.A (execs st X.env) (SP X pins D) X.xe s
instance {X:Cx} {st:List Stmt} {t:TS}:CoeFun (PSs X st t) (fun _=>∀ (pins:List (Addr × Obj)) (s:Shared) (σ:St) (H:Hp) (D:Ö),Inv X pins σ H s->t D σ H->wpAny (model X.prog X.w) X.A (execs st X.env) (SP X pins D) X.xe s):=⟨PSs.go⟩
def thn {α:Type} {t:Sem α} {Q Q':α->Shared->Prop} {A:Around} {s:Shared} (h:wpAny M A t Q E s) (hQ:∀ a s,Q a s->Q' a s):wpAny M A t Q' E s:=dU h hQ fun _ _ x=>x
section
def vdd (i:Nat):TE:=fun σ H Q=>∃ v,σ[i]?=some (some v)/\Q v H
def tC (v:V):TE:=fun _ H Q=>Q v H
def yu7 {x:Str} {pos:Pos} (hN:X.N[i]?=some x) (hv:Vis X.env.scope x) (hd:(x == ("__debug__":Str))=false:=by decide) (hcd:(x == ("__classdict__":Str))=false:=by decide):PE X (.Name x pos) (vdd i):=by
 refine .mk fun f s σ H Q I h=>?_;obtain ⟨v,e,h⟩:=h;obtain ⟨m,n,k⟩:=I.loc;obtain ⟨u,r,l⟩:=k i x v hN e hv;have b:EP X f σ Q u s:=⟨v,H,I,r,h⟩;rcases l with ⟨d,j⟩ | ⟨d,c,g,a⟩
 .exact wpAny_Name (wpAny_loadName_local I.ok.kind d n j b) hd
 .rcases d with d | d
  .exact wpAny_Name (wpAny_loadName_cell I.ok.kind d g a b) hd
  .exact wpAny_Name (wpAny_loadName_free I.ok.kind d g a b hcd) hd
def yg {i j pos}:PE X (.Constant (.int i) j pos) (tC (.int i)):=.mk fun _ _ _ H _ I h=>wpAny_Constant_int ⟨.int i,H,I.tok _,⟨_,rfl⟩,h⟩
def ych {b j pos}:PE X (.Constant (.bool b) j pos) (tC (.bl b)):=.mk fun _ _ _ H _ I h=>Constant_bool ⟨.bl b,H,I,rfl,h⟩
def ub {j pos}:PE X (.Constant .none j pos) (tC .non):=.mk fun _ _ _ H _ I h=>Constant_none ⟨.non,H,I,rfl,h⟩
def wy {x j pos}:PE X (.Constant (.str x) j pos) (tC (.str x)):=.mk fun _ _ _ H _ I h=>Calls.Constant_str ⟨.str x,H,I.tok _,⟨_,rfl⟩,h⟩
def Gl (X:Cx) (x:Str):Prop:=X.env.kindOf x=some .globalImplicit
def z0 {s:Shared} {x:Str} {pos:Pos} (I:Inv X pins σ H s) (hg:Gl X x) (hm:X.mg x=some u) (h:Q u s)
  (hd:(x == ("__debug__":Str))=false:=by decide):wpAny (model X.prog X.w) X.A (eval (.Name x pos) X.env) Q E s :=
 Calls.Name_function_global I.ok.kind hg (Calls.loadGlobal_global (by rw [I.ok.glob]; exact I.mod.glob.keeps I.bk) hm h) hd
def ċ {s:Shared} {x:Str} {pos:Pos} (I:Inv X pins σ H s) (hg:Gl X x) (hm:X.mg x=none) (hv:bootBuiltins x=some u) (h:Q u s)
  (hn:x≠"__name__":=by decide) (hd:(x == ("__debug__":Str))=false:=by decide):wpAny (model X.prog X.w) X.A (eval (.Name x pos) X.env) Q E s:=by
 obtain ⟨c,a,b⟩:=I.mod.blt;exact Calls.Name_function_global I.ok.kind hg (Calls.loadGlobal_builtin (by rw [I.ok.glob]; exact I.mod.glob.keeps I.bk) hm (by rw [I.ok.blt]; exact a.keeps I.bk) ((b x hn).trans hv) h) hd
def yby {x:Str} {pos:Pos} (hg:Gl X x) (hm:X.mg x=some u) (r:xb v u) (hd:(x == ("__debug__":Str))=false:=by decide):PE X (.Name x pos) (tC v):=.mk
 fun _ _ _ H _ I h=>z0 I hg hm ⟨v,H,I,r,h⟩ hd
def yro {x:Str} {pos:Pos} (hg:Gl X x) (hm:X.mg x=none) (hv:bootBuiltins x=some u) (r:xb v u) (hn:x≠"__name__":=by decide) (hd:(x == ("__debug__":Str))=false:=by decide):PE X (.Name x pos) (tC v):=.mk
 fun _ _ _ H _ I h=>ċ I hg hm hv ⟨v,H,I,r,h⟩ hn hd
variable {a b:Expr} {tb:TE} {pos:Pos}
def PC (X:Cx) (op:CmpOp) (a b:Expr) (t:TE):Prop :=
 ∀ (pins:List (Addr × Obj)) (s:Shared) (σ:St) (H:Hp) (Q:VK),Inv X pins σ H s->t σ H Q ->
  wpAny (model X.prog X.w) X.A (eval a X.env) (fun v s₁=>wpAny (model X.prog X.w) X.A (eval b X.env) (fun u s₂=>wpAny (model X.prog X.w) X.A (compareOp op v u) (EP X pins σ Q) X.xe s₂) X.xe s₁) X.xe s
def tB (t:TE):TT:=fun σ H Q=>t σ H fun x H1=>∃ c,x=.bl c/\Q c H1
def yiu {t:TE} (h:PC X op a b t) (h1:behindInMarks op b=false:=by first | exact nobehind _ (by decide) (by decide) | rfl):PT X (.Compare a [op] [b] pos) (tB t):=by
 refine .mk fun e s σ H Q I i=>?_;refine wpAny_isTrue_Compare1 (thn (h e s σ H _ I i) fun v n h1=>thn h1 fun u o l=>thn l fun c m h'=>?_) h1;obtain ⟨x,j,k,f,g⟩:=h';obtain ⟨d,rfl,q⟩:=g;cases f;exact dH ⟨j,k,q⟩
def xt {t:TE} (h:PE X e t) (he:∀ whole,isTrue e X.env whole=(do let v <- whole; standAt e.pos; holding [v] (truthy v)):=by intro _; rfl):PT X e (tB t):=by
 refine .mk fun a s σ H Q I f=>?_;refine isTrue_plain (thn (h a s σ H _ I f) fun v j h'=>?_) (he _);obtain ⟨x,g,i,b,c⟩:=h';obtain ⟨d,rfl,q⟩:=c;cases b;exact dH ⟨g,i,q⟩
variable {tA tB':TT} {υ:List Expr}
def vdt (t u:TT):TT:=fun σ H Q=>t σ H fun c H1=>if c=true then u σ H1 Q else Q false H1
def tOr (t u:TT):TT:=fun σ H Q=>t σ H fun c H1=>if c=true then Q true H1 else u σ H1 Q
def vdx (t:TT):TT:=fun σ H Q=>t σ H fun c H1=>Q (!c) H1
def yb3 (ha:PT X a tA):PW X (.BoolOp .And [a] pos) tA:=by
 intro d b s σ H Q I h;refine isTrue_and (thn (ha b s σ H Q I h) fun c f e=>?_)
 cases c with
 | true=>exact isTrue_and_nil e
 | false=>exact e
def Ĉ (ha:PT X a tA):PW X (.BoolOp .Or [a] pos) tA:=by
 intro d b s σ H Q I h;refine isTrue_or (thn (ha b s σ H Q I h) fun c f e=>?_)
 cases c with
 | false=>exact isTrue_or_nil e
 | true=>exact e
def yil (ha:PT X a tA) (hb:PW X (.BoolOp .And (b :: υ) pos) tB'):PW X (.BoolOp .And (a :: b :: υ) pos) (vdt tA tB'):=by
 intro j d s σ H Q I h;refine isTrue_and (thn (ha d s σ H _ I h) fun c i ⟨f,g,e⟩=>?_)
 cases c with
 | true=>exact hb j d i σ f Q g e
 | false=>exact ⟨f,g,e⟩
def č (ha:PT X a tA) (hb:PW X (.BoolOp .Or (b :: υ) pos) tB'):PW X (.BoolOp .Or (a :: b :: υ) pos) (tOr tA tB'):=by
 intro j d s σ H Q I h;refine isTrue_or (thn (ha d s σ H _ I h) fun c i ⟨f,g,e⟩=>?_)
 cases c with
 | true=>exact ⟨f,g,e⟩
 | false=>exact hb j d i σ f Q g e
def xp (ha:PT X a tA):PT X (.UnaryOp .Not a pos) (vdx tA):=by
 refine .mk fun b s σ H Q I h=>?_;exact isTrue_not (ha b s σ H (fun c d=>Q (!c) d) I h)
def yz7 (ta tb:TE):TE:=fun σ H Q=>ta σ H fun x H1=>∃ c,x=.bl c/\if c=true then tb σ H1 Q else Q (.bl false) H1
def vd2 (ta tb:TE):TE:=fun σ H Q=>ta σ H fun x H1=>∃ c,x=.bl c/\if c=true then Q (.bl true) H1 else tb σ H1 Q
def yzx (ta:TE):TE:=fun σ H Q=>ta σ H fun x H1=>∃ c,x=.bl c/\Q (.bl (!c)) H1
def jo {op} {t:TE} (h:PE X a t):PE X (.BoolOp op [a] pos) t:=.mk fun b s σ H Q I c=>BoolOp_one (h b s σ H Q I c)
def u8 (ha:PE X a ta) (hb:PE X (.BoolOp .And (b :: υ) pos) tb):PE X (.BoolOp .And (a :: b :: υ) pos) (yz7 ta tb):=by
 refine .mk fun d s σ H Q I h=>?_;refine BoolOp_and (thn (ha d s σ H _ I h) fun v j h'=>?_);obtain ⟨x,f,g,i,e⟩:=h';obtain ⟨c,rfl,e⟩:=e;cases i;refine dH ?_
 cases c with
 | true=>exact hb d j σ f Q g e
 | false=>exists .bl false,f,g,rfl,e
def vcg (ha:PE X a ta) (hb:PE X (.BoolOp .Or (b :: υ) pos) tb):PE X (.BoolOp .Or (a :: b :: υ) pos) (vd2 ta tb):=by
 refine .mk fun d s σ H Q I h=>?_;refine BoolOp_or (thn (ha d s σ H _ I h) fun v j h'=>?_);obtain ⟨x,f,g,i,e⟩:=h';obtain ⟨c,rfl,e⟩:=e;cases i;refine dH ?_
 cases c with
 | false=>exact hb d j σ f Q g e
 | true=>exists .bl true,f,g,rfl,e
def yzb (ha:PE X a ta):PE X (.UnaryOp .Not a pos) (yzx ta):=by
 refine .mk fun b s σ H Q I h=>?_;refine UnaryOp_ (thn (ha b s σ H _ I h) fun v i h'=>?_);obtain ⟨x,f,g,e,d⟩:=h';obtain ⟨c,rfl,d⟩:=d;cases e;exact not_of (dH ⟨.bl (!c),f,g,rfl,d⟩)
def tIf (t:TT) (ta tb:TE):TE:=fun σ H Q=>t σ H fun c H1=>if c=true then ta σ H1 Q else tb σ H1 Q
def μ {c:Expr} (hc:PT X c tA) (ha:PE X a ta) (hb:PE X b tb):PE X (.IfExp c a b pos) (tIf tA ta tb):=by
 refine .mk fun e s σ H Q I h=>?_;refine wpAny_IfExp (thn (hc e s σ H _ I h) fun d g ⟨i,j,f⟩=>?_)
 cases d with
 | true=>exact ha e g σ i Q j f
 | false=>exact hb e g σ i Q j f
end
def SqL (K:W.Frag) (H:Hp) (a:Addr) (xs:List V):Prop :=
 Rd H a (.lst xs) \/
  ∃ (o:Obj) (its:Array Value) (n:Nat),K.lookup a=some o/\o.cls=.type "list"/\o.dict=none/\o.data=.seq its n/\its.size <= sizeLine/\wg xs its.toList
def SqT (K:W.Frag) (H:Hp) (a:Addr) (xs:List V):Prop :=
 Rd H a (.tup xs) \/
  ∃ (o:Obj) (its:Array Value) (n:Nat),K.lookup a=some o/\o.cls=.type "tuple"/\o.data=.seq its n/\its.size <= sizeLine/\wg xs its.toList
def ver:Value->Option V
 | .none=>some .non
 | .bool b=>some (.bl b)
 | .int i _=>some (.int i)
 | .str x _=>some (.str x)
 | .bytes b _=>some (.byt b)
 | .float b _=>some (.flt b)
 | .ref a=>some (.ref a)
 | .type n=>some (.ty n)
 | _=>none
def xb.abs {x:V} (r:xb x u):ver u=some x:=by
 cases x with
 | non=>cases r; rfl
 | bl _=>cases r; rfl
 | int _=>obtain ⟨t,rfl⟩:=r; rfl
 | str _=>obtain ⟨t,rfl⟩:=r; rfl
 | byt _=>obtain ⟨t,rfl⟩:=r; rfl
 | flt _=>obtain ⟨t,rfl⟩:=r; rfl
 | ref _=>cases r; rfl
 | ty _=>cases r; rfl
def xb.inj {x:V} (r:xb x u) (q:xb y u):x=y:=cS (r.abs.symm.trans q.abs)
theorem wg.inj:∀ {xs ys:List V} {us:List Value},wg xs us->wg ys us->xs=ys
 | _,_,_,.nil,.nil=>rfl
 | _,_,_,.cons r t,.cons r' t'=>by rw [r.inj r',wg.inj t t']
section
variable {s:Shared} {ys:List V}
def SqL.of {K:W.Frag} (h:H a=some (.lst xs)):SqL K H a xs:=.inl (.inl h)
def SqT.of {K:W.Frag} (h:H a=some (.tup xs)):SqT K H a xs:=.inl (.inl h)
def Inv.list (I:Inv X pins σ H s) (h:SqL X.K H a xs):∃ its:List Value,wg xs its/\PlainL s.heap a its.toArray/\xs.length <= sizeLine:=by
 rcases h with h | ⟨o,its,n,f,b,c,d,g,r⟩
 .obtain ⟨z,its,n,r,e⟩:=h.ok I.hok;exists its,r,⟨_,n,e,rfl,rfl,rfl⟩,z
 .exists its.toList,r,⟨o,n,I.kIn a o f,b,c,by simpa using d⟩,?_;have e:=r.length;simp only [dC] at e;omega
def Inv.tuple (I:Inv X pins σ H s) (h:SqT X.K H a xs):∃ its:List Value,wg xs its/\IsTup s.heap a its.toArray/\xs.length <= sizeLine:=by
 rcases h with h | ⟨o,its,n,c,d,b,f,r⟩
 .obtain ⟨z,its,r,p⟩:=h.ok I.hok;exact ⟨its,r,p,z⟩
 .exists its.toList,r,⟨o,I.kIn a o c,d,n,by simpa using b⟩,?_;have e:=r.length;simp only [dC] at e;omega
def Inv.list_inj (I:Inv X pins σ H s) (h:SqL X.K H a xs) (h':SqL X.K H a ys):xs=ys:=by
 obtain ⟨c,r,⟨o,n,e,_,_,d⟩,_⟩:=I.list h;obtain ⟨b,i,⟨j,k,f,_,_,g⟩,_⟩:=I.list h';rw [e] at f; cases f;rw [d] at g;injection g with d1 _;have:c=b:=by simpa using congrArg Array.toList d1
 subst this;exact r.inj i
def Inv.tuple_inj (I:Inv X pins σ H s) (h:SqT X.K H a xs) (h':SqT X.K H a ys):xs=ys:=by
 obtain ⟨c,r,⟨o,e,_,n,d⟩,_⟩:=I.tuple h;obtain ⟨b,i,⟨j,f,_,k,g⟩,_⟩:=I.tuple h';rw [e] at f; cases f;rw [d] at g;injection g with d1 _;have:c=b:=by simpa using congrArg Array.toList d1
 subst this;exact r.inj i
end
abbrev Cx.wish (X:Cx) (E:Value->Shared->Prop):Cx:={ X with xe:=E }
abbrev Cx.nox (X:Cx):Cx:=X.wish fun _ _=>False
theorem Cx.Ok.wish (ok:X.Ok) (E:Value->Shared->Prop):(X.wish E).Ok :=
 ⟨ok.mod,ok.kind,ok.glob,ok.blt,ok.above,ok.inj,ok.has,ok.cab,ok.hd,ok.frames,ok.stk,ok.exf,ok.bs,ok.bsz,ok.noex,ok.exfs,ok.funs,ok.frf⟩
def Cx.Ok.unwish (ok:(X.wish E).Ok):X.Ok :=
 ⟨ok.mod,ok.kind,ok.glob,ok.blt,ok.above,ok.inj,ok.has,ok.cab,ok.hd,ok.frames,ok.stk,ok.exf,ok.bs,ok.bsz,ok.noex,ok.exfs,ok.funs,ok.frf⟩
section
variable {s:Shared}
theorem Inv.wish (I:Inv X pins σ H s) (E:Value->Shared->Prop):Inv (X.wish E) pins σ H s:=⟨I.ok.wish E,I.os,I.bare,I.base,I.loc,I.cell,I.free,I.freeC,I.pin,I.hok,I.len⟩
theorem Inv.unwish (I:Inv (X.wish E) pins σ H s):Inv X pins σ H s:=⟨I.ok.unwish,I.os,I.bare,I.base,I.loc,I.cell,I.free,I.freeC,I.pin,I.hok,I.len⟩
theorem SP.unwish {D:Ö} {f:Flow} (h:SP (X.wish E) pins D f s'):SP X pins D f s':=by
 cases f with
 | next=>obtain ⟨σ',a,I,q⟩:=h; exact ⟨σ',a,I.unwish,q⟩
 | brk=>obtain ⟨σ',a,I,q⟩:=h; exact ⟨σ',a,I.unwish,q⟩
 | cont=>obtain ⟨σ',a,I,q⟩:=h; exact ⟨σ',a,I.unwish,q⟩
 | ret u=>obtain ⟨v,σ',a,I,r,q⟩:=h; exists v,σ',a,I.unwish,r,q
theorem PSs.nox {st:List Stmt} {t:TS} (h:PSs X.nox st t):PSs X st t:=.mk fun a s σ H D I b =>
 dU (h a s σ H D (I.wish _) b) (fun _ _ q=>q.unwish) fun _ _ z=>False.elim z
end
section
variable {st:Stmt} {υ:List Stmt} {t u:TS} {pos:Pos}
def vam:TS:=fun D σ H=>D.nx σ H
def vcx (t u:TS):TS:=fun D σ H=>t { D with nx:=u D } σ H
def y6:PSs X [] vam:=.mk fun _ _ σ H _ I h=>wpAny_execs_nil ⟨σ,H,I,h⟩
def ye (h1:PS X st t) (h2:PSs X υ u):PSs X (st :: υ) (vcx t u):=by
 refine .mk fun a s σ H D I h=>?_;refine wpAny_execs_cons (thn (h1 a s σ H { D with nx:=u D } I h) fun f d q=>?_)
 cases f with
 | next =>
  obtain ⟨σ',b,c,q⟩:=q;exact h2 a d σ' b D c q
 | ret v=>exact q
 | brk=>exact q
 | cont=>exact q
def yc (h1:PS X st t):PSs X [st] t:=by
 refine .mk fun a s σ H D I h=>?_;refine wpAny_execs_cons (thn (h1 a s σ H D I h) fun f b q=>?_)
 cases f with
 | next=>exact wpAny_execs_nil q
 | ret v=>exact q
 | brk=>exact q
 | cont=>exact q
def Inv.quiet {s:Shared} (I:Inv X pins σ H s):interactive X.env=false:=by simp [interactive,I.ok.kind]
def van (te:TE):TS:=fun D σ H=>te σ H fun _ H1=>D.nx σ H1
def yt (he:PE X e te) (hs:swapsWith e none pos.line X.env=pure false:=by rfl):PS X (.Expr e pos) (van te):=by
 refine .mk fun a s σ H D I h=>?_;exact wpAny_Expr_any (thn (he a s σ H _ I h) fun v g ⟨x,c,d,f,b⟩=>⟨σ,c,d,b⟩) I.quiet hs
def vdy (te:TE):TS:=fun D σ H=>te σ H D.rt
def yp (he:PE X e te):PS X (.Return (some e) pos) (vdy te):=by
 refine .mk fun a s σ H D I h=>?_;exact wpAny_Return_some (thn (he a s σ H _ I h) fun v g ⟨x,d,f,b,c⟩=>⟨x,σ,d,f,b,c⟩)
def va1 (c:TT) (t u:TS):TS:=fun D σ H=>c σ H fun b H1=>if b=true then t D σ H1 else u D σ H1
def wd {c:Expr} {a b:List Stmt} {tc:TT} (hc:PT X c tc) (ha:PSs X a t) (hb:PSs X b u):PS X (.If c a b pos) (va1 tc t u):=by
 refine .mk fun e s σ H D I h=>?_;refine wpAny_If (thn (hc e s σ H _ I h) fun d g ⟨i,j,f⟩=>?_)
 cases d with
 | true=>exact ha e g σ i D j f
 | false=>exact hb e g σ i D j f
def yv7:TS:=fun _ _ _=>False
def ŏ:PS X st yv7:=.mk fun _ _ _ _ _ _ h=>h.elim
end
abbrev TG:=V->St->Hp->(St->Hp->Prop)->Prop
abbrev TGs:=List V->St->Hp->(St->Hp->Prop)->Prop
def PG (X:Cx) (target:Expr) (t:TG):Prop :=
 ∀ (pins:List (Addr × Obj)) (s:Shared) (σ:St) (H:Hp) (v:V) (u:Value) (Q:St->Hp->Prop),Inv X pins σ H s->xb v u->t v σ H Q ->
  wpAny (model X.prog X.w) X.A (assign target X.env u) (fun _ s'=>∃ σ' H',Inv X pins σ' H' s'/\Q σ' H') X.xe s
def PGs (X:Cx) (ts:List Expr) (t:TGs):Prop :=
 ∀ (pins:List (Addr × Obj)) (s:Shared) (σ:St) (H:Hp) (vs:List V) (us:List Value) (Q:St->Hp->Prop),Inv X pins σ H s->wg vs us->t vs σ H Q ->
  wpAny (model X.prog X.w) X.A (assignInOrder ((assignEach ts X.env).map (·.2)) us) (fun _ s'=>∃ σ' H',Inv X pins σ' H' s'/\Q σ' H') X.xe s
abbrev va0:=V->V->V->Hp->(Hp->Prop)->Prop
def vd1 (X:Cx) (t:va0):Prop :=
 ∀ (pins:List (Addr × Obj)) (s:Shared) (σ:St) (H:Hp) (o i v:V) (ov iv u:Value) (Q:Hp->Prop),Inv X pins σ H s->xb o ov->xb i iv->xb v u->t o i v H Q ->
  wpAny (model X.prog X.w) X.A (setItem ov iv u) (fun _ s'=>∃ H',Inv X pins σ H' s'/\Q H') X.xe s
section
variable {pos:Pos}
def w8 (i:Nat):TG:=fun v σ H Q=>Q (σ.set i (some v)) H
def wl {x:Str} (hN:X.N.Nodup) (hi:X.N[i]?=some x) (hx:Loc X.env.scope x) (hf:X.fn x=true\/X.env.scope.names.lookup x=some .local:=by first | exact .inl rfl | exact .inr rfl | assumption):PG X (.Name x pos) (w8 i):=by
 intro a s σ H v u Q I r h;exact wpAny_assign_Name (ycm I hN hi hx r (fun c b=>⟨_,H,b,h⟩) hf)
def ymn:TGs:=fun vs σ H Q=>vs=[]/\Q σ H
def jj (t:TG) (u:TGs):TGs:=fun vs σ H Q=>∃ v r,vs=v :: r/\t v σ H fun σ' H'=>u r σ' H' Q
def ř:PGs X [] ymn:=by
 intro a s σ H b c Q I r h;obtain ⟨e,h⟩:=h;subst e;cases r;exact assignInOrder_nil ⟨σ,H,I,h⟩
def uh {t:TG} {u:TGs} (h1:PG X e t) (h2:PGs X es u)
  (hs:(assignEach (e :: es) X.env).map (·.2)=assign e X.env :: (assignEach es X.env).map (·.2):=by rfl):PGs X (e :: es) (jj t u):=by
 intro a s σ H k i Q I r h;obtain ⟨v,j,g,h⟩:=h;subst g
 cases r with
 | cons r rr =>
  rw [hs];refine assignInOrder_cons (thn (h1 a s σ H _ _ _ I r h) fun _ c ⟨σ1,d,f,b⟩=>?_);exact h2 a c σ1 d _ _ Q f rr b
def yur (K:W.Frag) (n:Nat) (t:TGs):TG:=fun v σ H Q=>∃ a xs,v=.ref a/\SqT K H a xs/\xs.length=n/\t xs σ H Q
def yd7 {k:Nat} {t:TGs} {n:Nat} (hc:X.calm=true) (h:PGs X es t)
  (hn:(assignEach es X.env).length=n:=by rfl) (hst:(assignEach es X.env).findIdx? (·.1)=none:=by rfl):PG X (.Tuple es k pos) (yur X.K n t):=by
 intro c s σ H v u Q I r d;obtain ⟨a,m,x,j,q,d⟩:=d;subst x;cases r;obtain ⟨g,f,i,y⟩:=I.tuple j;refine assign_Tuple_tuple (I.ok.hd hc) i (by simp [hn,<- q,f.length]) hst fun l p=>?_;have w:Inv X c σ H { s with heap:=l }:=I.kept (t':=s.toks) fun b o e=>p b o (cU (cH e)) e;exact h c _ σ H m _ Q w (by simpa using f) d
def vdr (to ti:TE) (t:va0):TG:=fun v σ H Q=>to σ H fun o H1=>ti σ H1 fun i H2=>t o i v H2 fun H3=>Q σ H3
def yv2 {o i:Expr} {to ti:TE} {t:va0} (ho:PE X o to) (hi:PE X i ti) (hs:vd1 X t)
  (ha:∀ v,assign (.Subscript o i pos) X.env v=(do
   let ov <- holding [v] (eval o X.env)
   let iv <- holding [v,ov] (eval i X.env)
   standAt pos
   holding [v,ov,iv] (setItem ov iv v)
   release [v,ov,iv] []):=by intro _; rfl):PG X (.Subscript o i pos) (vdr to ti t):=by
 intro a s σ H v u Q I r h;rw [ha];refine bY (wpAny_holding (thn (ho a s σ H _ I h) fun ov g h'=>?_));obtain ⟨x,k,n,c,e⟩:=h';refine bY (wpAny_holding (thn (hi a g σ k _ n e) fun iv p h'=>?_));obtain ⟨y,q,m,j,d⟩:=h';refine bY (wpAny_standAt (bY (wpAny_holding (thn (hs a p σ q x y v ov iv u _ m c j r d) fun _ w ⟨l,b,f⟩=>?_))));exact wpAny_release ⟨σ,l,b,f⟩
def yun (te:TE) (g:TG):TS:=fun D σ H=>te σ H fun x H1=>g x σ H1 D.nx
def yzk {g:TG} (he:PE X e te) (hg:PG X tg g) (hs:swapsWithSole [tg] e pos.line X.env=pure false:=by rfl) (hw:swappedStores [tg] e X.env=pure none:=by rfl)
  (h1:(assignEach [tg] X.env).map (·.2)=[assign tg X.env]:=by rfl):PS X (.Assign [tg] e pos) (yun te g):=by
 refine .mk fun a s σ H D I h=>?_;refine wpAny_Assign_stores (thn (he a s σ H _ I h) fun v d h'=>?_) hs hw;obtain ⟨x,f,i,b,c⟩:=h';rw [h1];exact thn (hg a d σ f x v _ i b c) fun _ j q=>q
def yo {x:Str} {pos':Pos} (hN:X.N.Nodup) (hi:X.N[i]?=some x) (hx:Loc X.env.scope x) (he:PE X e te) (hs:swapsWith e (some (.Name x pos')) pos.line X.env=pure false:=by rfl) (hf:X.fn x=true\/X.env.scope.names.lookup x=some .local:=by first | exact .inl rfl | exact .inr rfl | assumption) :
  PS X (.Assign [.Name x pos'] e pos) (yun te (w8 i)):=by
 refine .mk fun a s σ H D I h=>?_;refine wpAny_Assign_Name (thn (he a s σ H _ I h) fun v j h'=>?_) hs;obtain ⟨y,d,g,b,c⟩:=h';exact ycm g hN hi hx b (fun k f=>⟨_,d,f,c⟩) hf
end
section
variable {pos:Pos}
def ywh (c:TT) (tb:TS):TS:=fun D σ H=>∃ W:Nat->St->Hp->Prop,(∃ m,W m σ H)/\∀ m σ H,W m σ H ->
 c σ H fun b H1=>if b=true then ∃ N:St->Hp->Prop,(∀ σ' H',N σ' H'->∃ m',m' < m/\W m' σ' H')/\tb { D with nx:=N,ct:=N,bk:=D.nx } σ H1 else D.nx σ H1
def zj {c:Expr} {tc:TT} {tb:TS} (hp:PassesOwn (model X.prog X.w) X.A X.env X.xe) (hc:PT X c tc) (hb:PSs X body tb):PS X (.While c body [] pos) (ywh tc tb):=by
 refine .mk fun a s σ H D I h=>?_;obtain ⟨W,⟨B,x⟩,e⟩:=h;refine wpAny_While (codeAny_whileLoop (fun n u=>∃ σ' H',Inv X a σ' H' u/\W n σ' H') ?_ B ⟨σ,H,I,x⟩);rintro n C ⟨σ1,p,y,E⟩;refine wpAny_passesOwn hp (thn (hc a C σ1 p _ y (e n σ1 p E)) fun b z ⟨t,q,g⟩=>?_)
 cases b with
 | true =>
  obtain ⟨N,r,g⟩:=g;rw [if_pos rfl];refine wpAny_passesOwn hp (thn (hb a z σ1 t _ q g) fun f F i=>?_)
  cases f with
  | next =>
   obtain ⟨σ3,d,j,k⟩:=i;obtain ⟨o,l,m⟩:=r σ3 d k;exists o,l,σ3,d,j,m
  | cont =>
   obtain ⟨σ3,d,j,k⟩:=i;obtain ⟨o,l,m⟩:=r σ3 d k;exists o,l,σ3,d,j,m
  | brk=>exact i
  | ret v=>exact i
 | false =>
  rw [if_neg cN];exact wpAny_execs_nil ⟨σ1,t,q,g⟩
end
structure It where
 go:Nat->Hp->Prop
 yld:Nat->Hp->V->Hp->Prop
 stop:Nat->Hp->Prop
def yay (X:Cx) (pins:List (Addr × Obj)) (H:Hp) (b:Addr):Prop :=
 H b=none/\b≠X.env.locals/\b∉X.fs/\(b∈X.ex\/X.s₀.heap.objs.size <= b)/\(∀ x c,X.env.cells.lookup x=some c->c≠b)/\∀ p∈X.pn++pins,p.1≠b
def Inv.fpOk {s:Shared} {b:Addr} (I:Inv X pins σ H s) (hb:s.heap.objs.size <= b) (hn:H' b=none):yay X pins H' b:=by
 exists hn,Nat.ne_of_gt (dg I.lt hb),I.nofs hb,.inr (dh I.sz hb),fun x c e z=>?_,fun p a z=>?_
 .obtain ⟨v,q⟩:=I.cell x c e;exact absurd (dg q.lt (by rw [z]; exact hb)) (d7 _)
 .exact absurd (dg (cH (I.pin p a).1) (by rw [z]; exact hb)) (d7 _)
structure yd9 (P:Program) (w:World) (K:W.Frag) (tg:Expr) (J:It) (fp:List Addr) (it:Addr) (tn:Nat->Heap->Prop):Prop where
 mem:it∈fp
 obj:∀ i h,tn i h->∀ b∈fp,∃ o,h.get? b=some o/\∀ v,o.data≠.cell v
 keep:∀ i h h',tn i h->(∀ b∈fp,∀ o,h.get? b=some o->h'.get? b=some o)->tn i h'
 item:∀ (X:Cx),X.prog=P->X.w=w->X.K=K->X.calm=true->∀ (i:Nat) (pins:List (Addr × Obj)) (s:Shared) (σ:St) (H:Hp) (E:Value->Shared->Prop),Inv X pins σ H s->(∀ b∈fp,yay X pins H b)->tn i s.heap->J.go i H ->
  wpAny (model P w) X.A (pyNext (.ref it)) (fun r s1=>∃ u,r=some u /\
   wpAny (model P w) X.A (letOwnedTupleGo tg (.ref it) u) (fun _ s2=>∃ x H',Inv X pins σ H' s2/\xb x u/\J.yld i H x H'/\tn (i+1) s2.heap/\∀ b∈fp,H' b=none) E s1) E s
 done:∀ (X:Cx),X.prog=P->X.w=w->X.K=K->X.calm=true->∀ (i:Nat) (pins:List (Addr × Obj)) (s:Shared) (σ:St) (H:Hp) (E:Value->Shared->Prop),Inv X pins σ H s->(∀ b∈fp,yay X pins H b)->tn i s.heap->J.stop i H ->
  wpAny (model P w) X.A (pyNext (.ref it)) (fun r s1=>r=none/\Inv X pins σ H s1) E s
 self:∀ (A:Around) (i:Nat) (s:Shared) (Q:Value->Shared->Prop) (E:Value->Shared->Prop),tn i s.heap->Q (.ref it) s->wpAny (model P w) A (pyIter (.ref it)) Q E s
abbrev TI:=St->Hp->(It->Hp->Prop)->Prop
def PIE (X:Cx) (pins:List (Addr × Obj)) (σ:St) (tg:Expr) (R:It->Hp->Prop) (itv:Value) (s2:Shared):Prop :=
 ∃ (it:Addr) (fp:List Addr) (tn:Nat->Heap->Prop) (J:It) (H':Hp),itv=.ref it/\Inv X pins σ H' s2/\yd9 X.prog X.w X.K tg J fp it tn/\tn 0 s2.heap/\(∀ b∈fp,yay X pins H' b)/\R J H'
def PI (X:Cx) (tg iter:Expr) (wi:TI):Prop :=
 ∀ (pins:List (Addr × Obj)) (s:Shared) (σ:St) (H:Hp) (R:It->Hp->Prop),Inv X pins σ H s->wi σ H R ->
  wpAny (model X.prog X.w) X.A (eval iter X.env) (fun v s1=>wpAny (model X.prog X.w) X.A (pyIter v) (PIE X pins σ tg R) X.xe s1) X.xe s
def yfn {A:Around} {s:Shared} {it:Addr} {o:Obj} {n:String} {vs:Array Value} {Q:Unit->Shared->Prop} (ho:s.heap.get? it=some o) (hc:o.cls=.type n) (hd:o.data=.fields vs)
  (hn:["enumerate","zip","dict_itemiterator","dict_reverseitemiterator","odict_iterator","itertools.zip_longest","itertools.pairwise"].contains n=false) (hQ:Q () s):wpAny M A (letOwnedTupleGo tg (.ref it) u) Q E s:=by
 unfold letOwnedTupleGo
 cases tg <;> first
  | exact cD hQ
  | (cases u <;> first
    | exact cD hQ
    | (refine bY (wpAny_load ho ?_)
       rw [hc,hd];show wpAny M A (if (["enumerate","zip","dict_itemiterator","dict_reverseitemiterator","odict_iterator","itertools.zip_longest","itertools.pairwise"].contains n && vs[0]? == some (rawInt _))=true then _ else _) Q E s;rw [if_neg (by intro h; rw [hn,Bool.false_and] at h; cases h)];exact cD hQ))
def Itl (K:W.Frag) (a:Addr):It :=
 ⟨fun i H=>∃ xs x,SqL K H a xs/\xs[i]?=some x,fun i H x H'=>H'=H/\∀ xs,SqL K H a xs->xs[i]?=some x,fun i H=>∃ xs,SqL K H a xs/\xs.length <= i⟩
def Itt (K:W.Frag) (a:Addr):It :=
 ⟨fun i H=>∃ xs x,SqT K H a xs/\xs[i]?=some x,fun i H x H'=>H'=H/\∀ xs,SqT K H a xs->xs[i]?=some x,fun i H=>∃ xs,SqT K H a xs/\xs.length <= i⟩
def Itr (lo:Int) (n:Nat):It:=⟨fun i _=>i < n,fun i H x H'=>H'=H/\x=.int (lo+i),fun i _=>n <= i⟩
def yhf {w:World} {K:W.Frag} (a it:Addr):yd9 P w K tg (Itl K a) [it] it (fun i h=>h.IsListIter it a i) where
 mem:=by simp
 obj:=fun i h f b j=>by
  have e:b=it:=by simpa using j
  subst e;obtain ⟨o,e,c,d⟩:=f;exists o,e,fun v z=>by rw [d] at z; cases z
 keep:=fun i h m f k=>f.at fun o e=>k it (by simp) o e
 item:=by
  intro X M t G N i g s σ H E I n f B;subst M t G;obtain ⟨Y,x,q,L⟩:=B;obtain ⟨C,F,p,hz⟩:=I.list q;obtain ⟨u,O,U⟩:=F.get L;obtain ⟨A,y,Z,r,J,D⟩:=n it (by simp);refine wpAny_pyNext_list_item f p.isList (x:=u) (by simpa using O) fun m l R=>?_;have T:Inv X g σ H { s with heap:=m }:=I.turned (t':=s.toks) (fun b o j e=>(R.2 b j).trans e) A y r J D;obtain ⟨o,e,c,d⟩:=id l;exists u,rfl,yfn (s:={ s with heap:=m }) e c d (by decide) ⟨x,H,T,U,⟨rfl,fun ys Q=>by rw [I.list_inj Q q]; exact L⟩,l,fun b j=>(n b j).1⟩
 done:=by
  intro X M t G N i g s σ H E I n f B;subst M t G;obtain ⟨Y,q,L⟩:=B;obtain ⟨C,F,p,hz⟩:=I.list q;obtain ⟨A,y,Z,r,J,D⟩:=n it (by simp);have hl:=F.length;exact wpAny_pyNext_list_end (I.ok.hd N) f p.isList (by simp; omega) fun m S=>⟨rfl,I.turned (t':=s.toks) (fun b o j e=>S b o j e) A y r J D⟩
 self:=fun _ _ _ _ _ f h=>wpAny_pyIter_listiter f h
def ye4 {w:World} {K:W.Frag} (a it:Addr):yd9 P w K tg (Itt K a) [it] it (fun i h=>h.IsTupleIter it a i) where
 mem:=by simp
 obj:=fun i h f b j=>by
  have e:b=it:=by simpa using j
  subst e;obtain ⟨o,e,c,d⟩:=f;exists o,e,fun v z=>by rw [d] at z; cases z
 keep:=fun i h n f k=>f.at fun o e=>k it (by simp) o e
 item:=by
  intro X M y G N i g s σ H E I q f C;subst M y G;obtain ⟨Y,x,r,L⟩:=C;obtain ⟨l,F,p,hz⟩:=I.tuple r;obtain ⟨u,O,U⟩:=F.get L;obtain ⟨B,A,Z,t,J,D⟩:=q it (by simp);refine wpAny_pyNext_tuple_item f (show s.heap.IsTuple a l.toArray from p) (x:=u) (by simpa using O) fun n m R=>?_;have T:Inv X g σ H { s with heap:=n }:=I.turned (t':=s.toks) (fun b o j e=>(R.2 b j).trans e) B A t J D;obtain ⟨o,e,c,d⟩:=id m;exists u,rfl,yfn (s:={ s with heap:=n }) e c d (by decide) ⟨x,H,T,U,⟨rfl,fun ys Q=>by rw [I.tuple_inj Q r]; exact L⟩,m,fun b j=>(q b j).1⟩
 done:=by
  intro X M y G N i g s σ H E I q f C;subst M y G;obtain ⟨Y,r,L⟩:=C;obtain ⟨l,F,p,hz⟩:=I.tuple r;obtain ⟨B,A,Z,t,J,D⟩:=q it (by simp);have hl:=F.length;exact wpAny_pyNext_tuple_end (I.ok.hd N) f (show s.heap.IsTuple a l.toArray from p) (by simp; omega) fun n S=>⟨rfl,I.turned (t':=s.toks) (fun b o j e=>S b o j e) B A t J D⟩
 self:=fun _ _ _ _ _ f h=>wpAny_pyIter_tupleiter f h
def ye0 {w:World} {K:W.Frag} (it:Addr) (lo:Int) (n:Nat):yd9 P w K tg (Itr lo n) [it] it (fun i h=>IsRangeIter h it (lo+(i:Nat) * 1) ((n:Int) - (i:Nat)) 1) where
 mem:=by simp
 obj:=fun i h a b d=>by
  have e:b=it:=by simpa using d
  subst e
  exact ⟨_,a,fun v z=>by
   have G:Data.fields _=Data.cell v:=z;cases G⟩
 keep:=fun i h g a k=>k it (by simp) _ a
 item:=by
  intro X B p y m i c s σ H E I j a u;subst B p y;obtain ⟨r,q,M,l,A,x⟩:=j it (by simp);have W:=Walks.range (prog:=X.prog) (w:=X.w) (I.ok.hd m) it lo 1 n;refine W.item i s _ _ u a fun v g C D f L=>?_;obtain ⟨t,rfl⟩:=D;have J:Inv X c σ H { s with heap:=g,toks:=C }:=I.turned (fun b o d e=>L b o (by simpa using d) e) r q l A x;exists _,rfl,yfn (s:={ s with heap:=g,toks:=C }) (n:="range_iterator") f rfl rfl (by decide) ⟨.int (lo+i),H,J,⟨t,?_⟩,⟨rfl,rfl⟩,f,fun b d=>(j b d).1⟩;rw [Int.mul_one]
 done:=by
  intro X B p y m i c s σ H E I j a u;subst B p y;obtain ⟨r,q,M,l,A,x⟩:=j it (by simp);exact wpAny_pyNext_range_end (I.ok.hd m) a (by have:n <= i:=u; omega) fun g F=>⟨rfl,I.turned (t':=s.toks) (fun b o d e=>F b o d e) r q l A x⟩
 self:=fun _ _ _ _ _ a h=>wpAny_pyIter_rangeiter a h
def vac (K:W.Frag) (tl:TE):TI:=fun σ H R=>tl σ H fun x H1=>∃ a,x=.ref a/\(∃ xs,SqL K H1 a xs)/\R (Itl K a) H1
def vd4 (K:W.Frag) (tl:TE):TI:=fun σ H R=>tl σ H fun x H1=>∃ a,x=.ref a/\(∃ xs,SqT K H1 a xs)/\R (Itt K a) H1
def wv {l:Expr} {tl:TE} (hl:PE X l tl):PI X tg l (vac X.K tl):=by
 intro c s σ H R I h;refine thn (hl c s σ H _ I h) fun v d h'=>?_;obtain ⟨x,n,f,i,k⟩:=h';obtain ⟨a,e,⟨t,j⟩,q⟩:=k;subst e;cases i;obtain ⟨g,u,p,r⟩:=f.list j;refine wpAny_pyIter_list p.isList ?_;exists d.heap.objs.size,[d.heap.objs.size],_,_,n,rfl,f.kept (t':=d.toks) fun b o e=>cB _ e,yhf a _,⟨_,cJ _ rfl,rfl,rfl⟩,fun b m=>?_,q;have e:b=d.heap.objs.size:=by simpa using m
 subst e;exact f.fpOk (cE _) (f.hok.fresh (cE _))
def ydx {l:Expr} {tl:TE} (hl:PE X l tl):PI X tg l (vd4 X.K tl):=by
 intro c s σ H R I h;refine thn (hl c s σ H _ I h) fun v d h'=>?_;obtain ⟨x,n,f,i,k⟩:=h';obtain ⟨a,e,⟨t,j⟩,q⟩:=k;subst e;cases i;obtain ⟨g,u,p,r⟩:=f.tuple j;refine wpAny_pyIter_tuple (show d.heap.IsTuple a g.toArray from p) ?_;exists d.heap.objs.size,[d.heap.objs.size],_,_,n,rfl,f.kept (t':=d.toks) fun b o e=>cB _ e,ye4 a _,⟨_,cJ _ rfl,rfl,rfl⟩,fun b m=>?_,q;have e:b=d.heap.objs.size:=by simpa using m
 subst e;exact f.fpOk (cE _) (f.hok.fresh (cE _))
def ycn {s:Shared} {R:It->Hp->Prop} {lo hi:Int} {t u v:Tok} {tk:Nat} (I:Inv X pins σ H s) (h1:-(2 ^ 62) <= lo) (h2:lo < 2 ^ 62) (h3:-(2 ^ 62) <= hi) (h4:hi < 2 ^ 62)
  (q:R (Itr lo (hi - lo).toNat) H):wpAny (model X.prog X.w) X.A (pyIter (.ref s.heap.objs.size)) (PIE X pins σ tg R) E { s with heap:=s.heap.push { cls:=.type "range",data:=.fields #[.int lo t,.int hi u,.int 1 v] },toks:=tk }:=by
 refine wpAny_pyIter_range (IsRange.new ..) (small_one h1 h2 h3 h4) ?_;have a:Inv X pins σ H { s with heap:=s.heap.push { cls:=.type "range",data:=.fields #[.int lo t,.int hi u,.int 1 v] },toks:=tk }:=I.kept fun b o e=>cB _ e
 refine ⟨(s.heap.push { cls:=.type "range",data:=.fields #[.int lo t,.int hi u,.int 1 v] }).objs.size,[(s.heap.push { cls:=.type "range",data:=.fields #[.int lo t,.int hi u,.int 1 v] }).objs.size],_,_,H,rfl,
  a.kept (t':=tk) fun b o e=>cB _ e,ye0 _ lo (hi - lo).toNat,?_,fun b f=>?_,q⟩
 .have d:lo+((0:Nat):Int) * 1=lo:=by simp
  have c:(((hi - lo).toNat:Nat):Int) - ((0:Nat):Int)=Builtin.Range.rangeSize lo hi 1:=by rw [rangeSize_one]; split <;> omega
  show IsRangeIter _ _ (lo+((0:Nat):Int) * 1) ((((hi - lo).toNat:Nat):Int) - ((0:Nat):Int)) 1;rw [d,c];exact cJ _ rfl
 .have e:b=(s.heap.push { cls:=.type "range",data:=.fields #[.int lo t,.int hi u,.int 1 v] }).objs.size:=by simpa using f
  subst e;exact a.fpOk (cE _) (a.hok.fresh (cE _))
def yz2 (ta:TA):TI:=fun σ H R=>ta σ H fun vs H1=>∃ j:Int,vs=[.int j]/\-(2 ^ 62) <= j/\j < 2 ^ 62/\R (Itr 0 j.toNat) H1
def vai (ta:TA):TI:=fun σ H R=>ta σ H fun vs H1=>∃ i j:Int,vs=[.int i,.int j]/\(-(2 ^ 62) <= i/\i < 2 ^ 62/\-(2 ^ 62) <= j/\j < 2 ^ 62)/\R (Itr i (j - i).toNat) H1
def zw {a:Expr} {ta:TA} {pos:Pos} (hg:Gl X "range") (hm:X.mg "range"=none) (ha:PA X [a] ta) (hs:starEach [a] X.env=[(false,eval a X.env)]:=by rfl):PI X tg (.Call (.Name "range" p) [a] [] pos) (yz2 ta):=by
 intro b s σ H R I h;refine Call_ (ċ I hg hm boot_range (PyProof.Rows.callWith_type1 (thn (ha pos b s σ H _ I h) fun i k h'=>?_) hs rfl));obtain ⟨m,l,g,d,c⟩:=h';obtain ⟨j,e,c,f,q⟩:=c;subst e
 cases d with
 | cons r rr =>
  cases rr;obtain ⟨t,rfl⟩:=r;exact call_range_1 (ycn g (by omega) (by omega) c f (by simpa using q))
def ygv {a b:Expr} {ta:TA} {pos:Pos} (hg:Gl X "range") (hm:X.mg "range"=none) (ha:PA X [a,b] ta) (hs:starEach [a,b] X.env=[(false,eval a X.env),(false,eval b X.env)]:=by rfl) (hs2:starEach [b] X.env=[(false,eval b X.env)]:=by rfl) :
  PI X tg (.Call (.Name "range" p) [a,b] [] pos) (vai ta):=by
 intro c s σ H R I h;refine Call_ (ċ I hg hm boot_range (PyProof.Rows.callWith_type1 (thn (ha pos c s σ H _ I h) fun n u h'=>?_) (by rw [hs,hs2]) (by rw [hs2]; rfl)));obtain ⟨w,v,m,g,d⟩:=h';obtain ⟨i,j,e,⟨d,k,l,f⟩,q⟩:=d;subst e
 cases g with
 | cons r rr =>
  cases rr with
  | cons r' rr =>
   cases rr;obtain ⟨t,rfl⟩:=r;obtain ⟨o,rfl⟩:=r';exact call_range_2 (ycn m d k l f q)
def vd0 (wi:TI) (g:TG) (tb:TS):TS:=fun D σ H=>wi σ H fun J H1=>∃ W:Nat->Nat->St->Hp->Prop,(∃ m,W 0 m σ H1)/\∀ i m σ H,W i m σ H ->
 (J.stop i H/\D.nx σ H)\/(J.go i H/\∃ N:St->Hp->Prop,(∀ σ' H',N σ' H'->∃ m',m' < m/\W (i+1) m' σ' H')/\∀ x H',J.yld i H x H'->g x σ H' fun σ2 H2=>tb { D with nx:=N,ct:=N,bk:=D.nx } σ2 H2)
def yd8 (fp:List Addr) (h:Heap):List (Addr × Obj):=fp.filterMap fun b=>(h.get? b).map fun o=>(b,o)
def x0 {h:Heap} {b:Addr} {o:Obj} (hb:b∈fp) (e:h.get? b=some o):(b,o)∈yd8 fp h:=List.mem_filterMap.mpr ⟨b,hb,by rw [e]; rfl⟩
def yhg {h:Heap} {p:Addr × Obj} (hp:p∈yd8 fp h):p.1∈fp/\h.get? p.1=some p.2:=by
 obtain ⟨b,c,e⟩:=List.mem_filterMap.mp hp
 cases q:h.get? b with
 | none=>rw [q] at e; cases e
 | some o =>
  rw [q] at e;have a:(b,o)=p:=cS e;subst a;exists c,q
def Inv.pinned {s:Shared} (I:Inv X pins σ H s) (hf:∀ b∈fp,yay X pins H b) (ho:∀ b∈fp,∃ o,s.heap.get? b=some o/\∀ v,o.data≠.cell v):Inv X (pins++yd8 fp s.heap) σ H s :=
 I.pins_of fun p f=>(c7.mp f).elim (fun z=>I.pin p (cZ _ z)) fun z=>by
  obtain ⟨a,e⟩:=yhg z;obtain ⟨i,h,g,_⟩:=hf p.1 a;obtain ⟨o,c,d⟩:=ho p.1 a;rw [e] at c; cases c;exists e,i,h,g,d
def Inv.unpinned {pl:List (Addr × Obj)} {s:Shared} (I:Inv X (pins++pl) σ H s):Inv X pins σ H s:=I.pins_of fun p a=>I.pin p (cZ _ (dJ _ a))
def ur {iter:Expr} {wi:TI} {g:TG} {tb:TS} {pos:Pos} (hp:PassesOwn (model X.prog X.w) X.A X.env X.xe) (hc:X.calm=true) (hi:PI X tg iter wi) (hg:PG X tg g) (hb:PSs X body tb)
  (hs:∀ x,foldedSetIterable iter X.env x=pure x:=by intro _; rfl):PS X (.For tg iter body [] pos) (vd0 wi g tb):=by
 refine .mk fun a s σ H D I h=>?_;refine wpAny_For (thn (hi a s σ H _ I h) fun v s1 h1=>thn h1 fun a0 s2 h2=>?_) hs;obtain ⟨it,B,R,J,H2,e,I2,T,O,Z,W,⟨m0,w0⟩,z⟩:=h2;subst e;have l:∀ {H':Hp},(∀ b∈B,H' b=none)->∀ b∈B,yay X a H' b:=fun hn b hb=>⟨hn b hb,(Z b hb).2⟩;refine codeAny_forLoop_any (fun n Q=>∃ i σ' H',Inv X a σ' H' Q/\R i Q.heap/\(∀ b∈B,H' b=none)/\W i n σ' H') ?_ m0 ⟨0,σ,H2,I2,O,fun b hb=>(Z b hb).1,w0⟩;rintro n Y ⟨i,σ3,G,S,t,E,w3⟩;rcases z i n σ3 G w3 with ⟨F,qn⟩ | ⟨go,N,hN,C⟩
 .refine wpAny_passesOwn hp (thn (T.done X rfl rfl rfl hc i a Y σ3 G X.xe S (l E) t F) fun r s4 ⟨P,I4⟩=>?_);subst P;exact wpAny_execs_nil ⟨σ3,G,I4,qn⟩
 .refine wpAny_passesOwn hp (thn (T.item X rfl rfl rfl hc i a Y σ3 G X.xe S (l E) t go) fun r s4 ⟨u,P,h4⟩=>?_);subst P;refine wpAny_passesOwn hp (thn h4 fun _ s5 h'=>?_);obtain ⟨x,U,I5,r5,y5,q,M⟩:=h';have K:=I5.pinned (l M) (T.obj _ _ q);refine wpAny_passesOwn hp (thn (hg _ s5 σ3 U x u _ K r5 (C x U y5)) fun _ s6 ⟨σ6,H6,I6,q6⟩=>?_);refine wpAny_passesOwn hp (thn (hb _ s6 σ6 H6 _ I6 q6) fun f L p=>?_)
  have k:∀ {σ7:St} {j:Hp},Inv X (a++yd8 B s5.heap) σ7 j L->N σ7 j->∃ m,m < n/\∃ i σ' H',Inv X a σ' H' L/\R i L.heap/\(∀ b∈B,H' b=none)/\W i m σ' H':=fun {σ7 j} c y=>by
   obtain ⟨m',hm,w7⟩:=hN σ7 j y;exists m',hm,i+1,σ7,j,c.unpinned,T.keep _ _ _ q fun b hb o e=>(c.pin (b,o) (cZ _ (cZ _ (x0 hb e)))).1,fun b hb=>?_,w7;obtain ⟨o,e,d⟩:=T.obj _ _ q b hb;exact (c.pin (b,o) (cZ _ (cZ _ (x0 hb e)))).2.1
  cases f with
  | next=>obtain ⟨σ7,j,c,y⟩:=p; exact k c y
  | cont=>obtain ⟨σ7,j,c,y⟩:=p; exact k c y
  | brk=>obtain ⟨σ7,j,c,p⟩:=p; exact ⟨σ7,j,c.unpinned,p⟩
  | ret v=>obtain ⟨x7,σ7,j,c,r7,p⟩:=p; exists x7,σ7,j,c.unpinned,r7,p
def zf {K:W.Frag} {g:TG} {tb:TS} {D:Ö} (Pv:Nat->St->Hp->Prop) (h0:Pv 0 σ H) (hl:∀ i σ H,i <= xs.length->Pv i σ H->SqL K H a xs)
  (hs:∀ i x σ H,xs[i]?=some x->Pv i σ H->g x σ H fun σ2 H2=>tb { D with nx:=Pv (i+1),ct:=Pv (i+1),bk:=D.nx } σ2 H2) (hd:∀ σ H,Pv xs.length σ H->D.nx σ H) :
  ∃ W:Nat->Nat->St->Hp->Prop,(∃ m,W 0 m σ H)/\∀ i m σ H,W i m σ H ->
   ((Itl K a).stop i H/\D.nx σ H)\/((Itl K a).go i H/\∃ N:St->Hp->Prop,(∀ σ' H',N σ' H'->∃ m',m' < m/\W (i+1) m' σ' H')/\∀ x H',(Itl K a).yld i H x H'->g x σ H' fun σ2 H2=>tb { D with nx:=N,ct:=N,bk:=D.nx } σ2 H2):=by
 exists fun i m σ H=>m=xs.length - i/\i <= xs.length/\Pv i σ H,⟨xs.length,by simp,cV _,h0⟩,?_;rintro i m σ H ⟨rfl,c,p⟩;have q:=hl i σ H c p;by_cases hlt:i < xs.length
 .refine .inr ⟨⟨xs,xs[i],q,by simp [hlt]⟩,Pv (i+1),fun σ' H' b=>⟨xs.length - (i+1),by omega,rfl,hlt,b⟩,fun x H' y=>?_⟩;obtain ⟨e,y⟩:=y;subst e;exact hs i x σ _ (y xs q) p
 .have e:i=xs.length:=by omega
  subst e;exact .inl ⟨⟨xs,q,cE _⟩,hd σ H p⟩
def δ {lo:Int} {n:Nat} {g:TG} {tb:TS} {D:Ö} (Pv:Nat->St->Hp->Prop) (h0:Pv 0 σ H)
  (hs:∀ i σ H,i < n->Pv i σ H->g (.int (lo+i)) σ H fun σ2 H2=>tb { D with nx:=Pv (i+1),ct:=Pv (i+1),bk:=D.nx } σ2 H2) (hd:∀ σ H,Pv n σ H->D.nx σ H) :
  ∃ W:Nat->Nat->St->Hp->Prop,(∃ m,W 0 m σ H)/\∀ i m σ H,W i m σ H ->
   ((Itr lo n).stop i H/\D.nx σ H)\/((Itr lo n).go i H/\∃ N:St->Hp->Prop,(∀ σ' H',N σ' H'->∃ m',m' < m/\W (i+1) m' σ' H')/\∀ x H',(Itr lo n).yld i H x H'->g x σ H' fun σ2 H2=>tb { D with nx:=N,ct:=N,bk:=D.nx } σ2 H2):=by
 exists fun i m σ H=>m=n - i/\i <= n/\Pv i σ H,⟨n,by simp,cV _,h0⟩,?_;rintro i m σ H ⟨rfl,b,p⟩;by_cases hlt:i < n
 .refine .inr ⟨hlt,Pv (i+1),fun σ' H' a=>⟨n - (i+1),by omega,rfl,hlt,a⟩,fun x H' y=>?_⟩;obtain ⟨e,y⟩:=y;subst e y;exact hs i σ _ hlt p
 .have e:i=n:=by omega
  subst e;exact .inl ⟨cE _,hd σ H p⟩
abbrev R2:=V->V->Hp->VK->Prop
def OpR (X:Cx) (f:Value->Value->Sem Value) (r:R2):Prop :=
 ∀ (pins:List (Addr × Obj)) (s:Shared) (σ:St) (H:Hp) (x y:V) (v u:Value) (Q:VK),Inv X pins σ H s->xb x v->xb y u->r x y H Q ->
  wpAny (model X.prog X.w) X.A (f v u) (EP X pins σ Q) X.xe s
def UnR (X:Cx) (f:Value->Sem Value) (r:V->Hp->VK->Prop):Prop :=
 ∀ (pins:List (Addr × Obj)) (s:Shared) (σ:St) (H:Hp) (x:V) (v:Value) (Q:VK),Inv X pins σ H s->xb x v->r x H Q ->
  wpAny (model X.prog X.w) X.A (f v) (EP X pins σ Q) X.xe s
def uf (X:Cx) (f:Value) (r:List V->Hp->VK->Prop):Prop :=
 ∀ (pins:List (Addr × Obj)) (s:Shared) (σ:St) (H:Hp) (xs:List V) (us:List Value) (Q:VK),Inv X pins σ H s->wg xs us->r xs H Q ->
  wpAny (model X.prog X.w) X.A (call f us) (EP X pins σ Q) X.xe s
def tOp (r:R2) (ta tb:TE):TE:=fun σ H Q=>ta σ H fun x H1=>tb σ H1 fun y H2=>r x y H2 Q
def tUn (r:V->Hp->VK->Prop) (ta:TE):TE:=fun σ H Q=>ta σ H fun x H1=>r x H1 Q
def rI (C:Int->Int->Prop) (g:Int->Int->V):R2:=fun x y H Q=>∃ i j,x=.int i/\y=.int j/\C i j/\Q (g i j) H
def rI0 (g:Int->Int->V):R2:=fun x y H Q=>∃ i j,x=.int i/\y=.int j/\Q (g i j) H
def rU (g:Int->V):V->Hp->VK->Prop:=fun x H Q=>∃ i,x=.int i/\Q (g i) H
section
variable {a b c:Expr} {tb tc:TE} {pos:Pos}
def vay (ha:PE X a ta) (hb:PE X b tb) {s:Shared} {R:V->V->Hp->Prop} (I:Inv X pins σ H s)
  (h:ta σ H fun x H1=>tb σ H1 fun y H2=>R x y H2) {Q:Value->Shared->Prop} {f:Value->Value->Sem Value}
  (hf:∀ v u s2 x y H2,Inv X pins σ H2 s2->xb x v->xb y u->R x y H2->wpAny (model X.prog X.w) X.A (f v u) Q X.xe s2) :
  wpAny (model X.prog X.w) X.A (eval a X.env) (fun v s₁=>wpAny (model X.prog X.w) X.A (eval b X.env) (fun u s₂=>wpAny (model X.prog X.w) X.A (f v u) Q X.xe s₂) X.xe s₁) X.xe s:=by
 refine thn (ha pins s σ H _ I h) fun v g h'=>?_;obtain ⟨x,H1,k,c,e⟩:=h';refine thn (hb pins g σ H1 _ k e) fun u s2 h'=>?_;obtain ⟨y,H2,j,i,d⟩:=h';exact hf v u s2 x y H2 j c i d
def yn {op:Operator} {r:R2} (ho:OpR X (binaryOp op) r) (ha:PE X a ta) (hb:PE X b tb):PE X (.BinOp a op b pos) (tOp r ta tb):=by
 refine .mk fun c s σ H Q I h=>?_;exact wpAny_BinOp (vay ha hb I h fun v u g x y i f e d q=>ho c g σ i x y v u Q f e d q)
def yz5 {op:UnaryOp} {r:V->Hp->VK->Prop} (ho:UnR X (unaryOp op) r) (ha:PE X a ta):PE X (.UnaryOp op a pos) (tUn r ta):=by
 refine .mk fun b s σ H Q I h=>?_;exact UnaryOp_ (thn (ha b s σ H _ I h) fun v e ⟨x,f,g,c,d⟩=>ho b e σ f x v Q g c d)
def opI {f:Value->Value->Sem Value} {C:Int->Int->Prop} {g:Int->Int->Int}
  (rule:∀ (i j:Int) (t u:Tok) (s:Shared) (Q:Value->Shared->Prop) (E:Value->Shared->Prop),C i j->Q (.int (g i j) s.toks) { s with toks:=s.toks+1 }->wpAny (model X.prog X.w) X.A (f (.int i t) (.int j u)) Q E s) :
  OpR X f (rI C fun i j=>.int (g i j)):=by
 intro a s σ H x y v u Q I e b h;obtain ⟨i,j,rfl,rfl,d,q⟩:=h;obtain ⟨t,rfl⟩:=e;obtain ⟨c,rfl⟩:=b;exact rule i j t c s _ _ d ⟨.int (g i j),H,I.tok _,⟨_,rfl⟩,q⟩
def vdg {f:Value->Value->Sem Value} {g:Int->Int->Int}
  (rule:∀ (i j:Int) (t u:Tok) (s:Shared) (Q:Value->Shared->Prop) (E:Value->Shared->Prop),Q (.int (g i j) s.toks) { s with toks:=s.toks+1 }->wpAny (model X.prog X.w) X.A (f (.int i t) (.int j u)) Q E s) :
  OpR X f (rI0 fun i j=>.int (g i j)):=by
 intro a s σ H x y v u Q I c b h;obtain ⟨i,j,rfl,rfl,q⟩:=h;obtain ⟨t,rfl⟩:=c;obtain ⟨d,rfl⟩:=b;exact rule i j t d s _ _ ⟨.int (g i j),H,I.tok _,⟨_,rfl⟩,q⟩
def va2 {f:Value->Value->Sem Value} {g:Int->Int->Bool}
  (rule:∀ (i j:Int) (t u:Tok) (s:Shared) (Q:Value->Shared->Prop) (E:Value->Shared->Prop),Q (.bool (g i j)) s->wpAny (model X.prog X.w) X.A (f (.int i t) (.int j u)) Q E s) :
  OpR X f (rI0 fun i j=>.bl (g i j)):=by
 intro a s σ H x y v u Q I c b h;obtain ⟨i,j,rfl,rfl,q⟩:=h;obtain ⟨t,rfl⟩:=c;obtain ⟨d,rfl⟩:=b;exact rule i j t d s _ _ ⟨.bl (g i j),H,I,rfl,q⟩
def vcu (i j:Int):Prop:=(-(2 ^ 64) < i/\i < 2 ^ 64)\/(-(2 ^ 64) < j/\j < 2 ^ 64)
def vcu.ok {i j:Int} (h:vcu i j):IntMulOk i j:=by
 rcases h with ⟨a,b⟩ | ⟨a,b⟩
 .exact .of_left (intBits_le_64 a b)
 .exact .of_right (intBits_le_64 a b)
def yed (k:Nat):(0:Int) <= 2 ^ k:=by
 rw [two_pow_cast];exact Int.natCast_nonneg _
def vj:OpR X (binaryOp .Add) (rI0 fun i j=>.int (i+j)):=vdg fun _ _ _ _ _ _ _ q=>add_int q
def u7:OpR X (binaryOp .Sub) (rI0 fun i j=>.int (i - j)):=vdg fun _ _ _ _ _ _ _ q=>sub_int q
def wu:OpR X (binaryOp .Mult) (rI vcu fun i j=>.int (i * j)):=opI fun _ _ _ _ _ _ _ a q=>mul_int q a.ok
def wa:OpR X (binaryOp .Mod) (rI (fun _ j=>0 < j) fun i j=>.int (i % j)):=opI fun i j _ _ _ _ _ a q=>by
 have b:(0:Int) < j:=a;exact mod_int' (by omega) (by rw [Int.fmod_eq_emod_of_nonneg i (by omega)]; exact q)
def ynf:OpR X (binaryOp .RShift) (rI (fun _ j=>0 <= j) fun i j=>.int (i / 2 ^ j.toNat)):=opI fun i j _ _ _ _ _ a q =>
 rshift_int a (by rw [Int.fdiv_eq_ediv_of_nonneg i (yed _)]; exact q)
def ynl:OpR X (binaryOp .BitAnd) (rI0 fun i j=>.int (Builtin.bitAnd i j)):=vdg fun _ _ _ _ _ _ _ q=>and_int q
def unI {f:Value->Sem Value} {g:Int->Int}
  (rule:∀ (i:Int) (t:Tok) (s:Shared) (Q:Value->Shared->Prop) (E:Value->Shared->Prop),Q (.int (g i) s.toks) { s with toks:=s.toks+1 }->wpAny (model X.prog X.w) X.A (f (.int i t)) Q E s) :
  UnR X f (rU fun i=>.int (g i)):=by
 intro a s σ H x v Q I b h;obtain ⟨i,rfl,q⟩:=h;obtain ⟨t,rfl⟩:=b;exact rule i t s _ _ ⟨.int (g i),H,I.tok _,⟨_,rfl⟩,q⟩
def yng:UnR X (unaryOp .USub) (rU fun i=>.int (-i)):=unI fun _ _ _ _ _ q=>neg_int q
end
def va3:V->V->Bool
 | .non,.non=>true | .non,.int _=>true | .int _,.non=>true | .non,.bl _=>true | .bl _,.non=>true | .non,.str _=>true | .str _,.non=>true
 | .int _,.int _=>true | .bl _,.bl _=>true | .str _,.str _=>true | .byt _,.byt _=>true
 | .int _,.str _=>true | .str _,.int _=>true | .bl _,.str _=>true | .str _,.bl _=>true
 | _,_=>false
def rEq:R2:=fun x y H Q=>va3 x y=true/\Q (.bl (decide (x=y))) H
def rNe:R2:=fun x y H Q=>va3 x y=true/\Q (.bl (!decide (x=y))) H
def yhp {i j:Int}:decide (V.int i=V.int j)=(i == j):=by
 rw [Bool.eq_iff_iff];simp
def ymp {i j:Bool}:decide (V.bl i=V.bl j)=(i == j):=by
 rw [Bool.eq_iff_iff];simp
def yib {i j:Str}:decide (V.str i=V.str j)=(i == j):=by
 rw [Bool.eq_iff_iff];simp
def yh5 {i j:Array UInt8}:decide (V.byt i=V.byt j)=(i.toList == j.toList):=by
 rw [Bool.eq_iff_iff];cases i;cases j;simp
section
variable {a b c:Expr} {tb tc:TE} {pos:Pos}
def wc {s:Shared} {Q:VK} {k k':Bool} (I:Inv X pins σ H s) (q:Q (.bl k) H) (e:k=k'):EP X pins σ Q (.bool k') s:=by
 subst e;exists .bl k,H,I,rfl,q
def xz:OpR X (compareOp .Eq) rEq:=by
 intro e s σ H x y v u Q I d a h;obtain ⟨c,q⟩:=h
 cases x with
 | non =>
  cases d
  cases y with
  | non=>cases a; exact PySem.EqNone.eq_none_none (wc I q (by simp))
  | bl j=>cases a; exact PySem.EqNone.eq_none_bool (wc I q (by simp))
  | int j=>obtain ⟨b,rfl⟩:=a; exact PySem.EqNone.eq_none_int (wc I q (by simp))
  | str j=>obtain ⟨b,rfl⟩:=a; exact PySem.EqNone.eq_none_str (wc I q (by simp))
  | _=>exact absurd (show false=true from c) cN
 | bl i =>
  cases d
  cases y with
  | non=>cases a; exact PySem.EqNone.eq_bool_none (wc I q (by simp))
  | bl j=>cases a; exact eq_bool (wc I q ymp)
  | str j=>obtain ⟨b,rfl⟩:=a; exact PySem.EqMixed.eq_bool_str (wc I q (by simp))
  | _=>exact absurd (show false=true from c) cN
 | int i =>
  obtain ⟨t,rfl⟩:=d
  cases y with
  | non=>cases a; exact PySem.EqNone.eq_int_none (wc I q (by simp))
  | int j=>obtain ⟨b,rfl⟩:=a; exact eq_int (wc I q yhp)
  | str j=>obtain ⟨b,rfl⟩:=a; exact PySem.EqMixed.eq_int_str (wc I q (by simp))
  | _=>exact absurd (show false=true from c) cN
 | str i =>
  obtain ⟨t,rfl⟩:=d
  cases y with
  | non=>cases a; exact PySem.EqNone.eq_str_none (wc I q (by simp))
  | bl j=>cases a; exact PySem.EqMixed.eq_str_bool (wc I q (by simp))
  | int j=>obtain ⟨b,rfl⟩:=a; exact PySem.EqMixed.eq_str_int (wc I q (by simp))
  | str j=>obtain ⟨b,rfl⟩:=a; exact eq_str (wc I q yib)
  | _=>exact absurd (show false=true from c) cN
 | byt i =>
  obtain ⟨t,rfl⟩:=d
  cases y with
  | byt j=>obtain ⟨b,rfl⟩:=a; exact W.eq_bytes (wc I q yh5)
  | _=>exact absurd (show false=true from c) cN
 | _=>cases y <;> exact absurd (show false=true from c) cN
def yjw:OpR X (compareOp .NotEq) rNe:=by
 intro e s σ H x y v u Q I d a h;obtain ⟨c,q⟩:=h
 cases x with
 | non =>
  cases d
  cases y with
  | non=>cases a; exact PySem.EqNone.ne_none_none (wc I q (by simp))
  | bl j=>cases a; exact PySem.EqNone.ne_none_bool (wc I q (by simp))
  | int j=>obtain ⟨b,rfl⟩:=a; exact PySem.EqNone.ne_none_int (wc I q (by simp))
  | str j=>obtain ⟨b,rfl⟩:=a; exact PySem.EqNone.ne_none_str (wc I q (by simp))
  | _=>exact absurd (show false=true from c) cN
 | bl i =>
  cases d
  cases y with
  | non=>cases a; exact PySem.EqNone.ne_bool_none (wc I q (by simp))
  | bl j=>cases a; exact ne_bool (wc I q (congrArg not ymp))
  | str j=>obtain ⟨b,rfl⟩:=a; exact PySem.EqMixed.ne_bool_str (wc I q (by simp))
  | _=>exact absurd (show false=true from c) cN
 | int i =>
  obtain ⟨t,rfl⟩:=d
  cases y with
  | non=>cases a; exact PySem.EqNone.ne_int_none (wc I q (by simp))
  | int j=>obtain ⟨b,rfl⟩:=a; exact ne_int (wc I q (congrArg not yhp))
  | str j=>obtain ⟨b,rfl⟩:=a; exact PySem.EqMixed.ne_int_str (wc I q (by simp))
  | _=>exact absurd (show false=true from c) cN
 | str i =>
  obtain ⟨t,rfl⟩:=d
  cases y with
  | non=>cases a; exact PySem.EqNone.ne_str_none (wc I q (by simp))
  | bl j=>cases a; exact PySem.EqMixed.ne_str_bool (wc I q (by simp))
  | int j=>obtain ⟨b,rfl⟩:=a; exact PySem.EqMixed.ne_str_int (wc I q (by simp))
  | str j=>obtain ⟨b,rfl⟩:=a; exact ne_str (wc I q (congrArg not yib))
  | _=>exact absurd (show false=true from c) cN
 | byt i =>
  obtain ⟨t,rfl⟩:=d
  cases y with
  | byt j=>obtain ⟨b,rfl⟩:=a; exact W.ne_bytes (wc I q (congrArg not yh5))
  | _=>exact absurd (show false=true from c) cN
 | _=>cases y <;> exact absurd (show false=true from c) cN
def ĝ:OpR X (compareOp .Lt) (rI0 fun i j=>.bl (decide (i < j))):=va2 fun _ _ _ _ _ _ _ q=>lt_int q
def zq:OpR X (compareOp .LtE) (rI0 fun i j=>.bl (decide (i <= j))):=va2 fun _ _ _ _ _ _ _ q=>le_int q
def ycf:OpR X (compareOp .Gt) (rI0 fun i j=>.bl (decide (j < i))):=va2 fun _ _ _ _ _ _ _ q=>gt_int q
def vbi:OpR X (compareOp .GtE) (rI0 fun i j=>.bl (decide (j <= i))):=va2 fun _ _ _ _ _ _ _ q=>ge_int q
def yho:OpR X (compareOp .In) (fun x y H Q=>∃ i j,x=.str i/\y=.str j/\Q (.bl (!(Builtin.Str.occurrences j i 0 j.length 1).isEmpty)) H):=by
 intro a s σ H x y v u Q I c b h;obtain ⟨i,j,rfl,rfl,q⟩:=h;obtain ⟨t,rfl⟩:=c;obtain ⟨d,rfl⟩:=b;exact in_str (wc I q rfl)
def yi4:OpR X (compareOp .Is) (fun x y H Q=>y=.non/\Q (.bl (decide (x=.non))) H):=by
 intro a s σ H x y v u Q I b c h;obtain ⟨rfl,q⟩:=h;cases c;refine is_none_gen (wc I q ?_)
 cases x <;> first
  | (cases b; rfl)
  | (obtain ⟨t,rfl⟩:=b; rfl)
def É:OpR X (compareOp .IsNot) (fun x y H Q=>y=.non/\Q (.bl (!decide (x=.non))) H):=by
 intro a s σ H x y v u Q I b c h;obtain ⟨rfl,q⟩:=h;cases c;refine isnot_none_gen (wc I q ?_)
 cases x <;> first
  | (cases b; rfl)
  | (obtain ⟨t,rfl⟩:=b; rfl)
def yz (b:Expr) (h:op≠.In:=by decide) (h2:op≠.NotIn:=by decide):behindInMarks op b=false:=by
 have c:(op == CmpOp.In)=false:=by cases op <;> first | rfl | exact absurd rfl h
 have a:(op == CmpOp.NotIn)=false:=by cases op <;> first | rfl | exact absurd rfl h2
 cases b <;> simp [behindInMarks,c,a]
def x4 {r:R2} (ho:OpR X (compareOp op) r) (ha:PE X a ta) (hb:PE X b tb) (hm:behindInMarks op b=false):PE X (.Compare a [op] [b] pos) (tOp r ta tb):=by
 refine .mk fun c s σ H Q I h=>?_;exact wpAny_Compare1 (vay ha hb I h fun v u g x y i f e d q=>ho c g σ i x y v u Q f e d q) hm
def yse (t:TE):TT:=fun σ H Q=>t σ H fun x H'=>∃ k,x=.bl k/\Q k H'
def yu {r:R2} (ho:OpR X (compareOp op) r) (ha:PE X a ta) (hb:PE X b tb) (hm:behindInMarks op b=false):PT X (.Compare a [op] [b] pos) (yse (tOp r ta tb)):=by
 refine .mk fun d s σ H Q I h=>?_
 refine wpAny_isTrue_Compare1 (thn (ha d s σ H _ I h) fun v n ⟨x,p,w,g,j⟩=>thn (hb d n σ p _ w j) fun u A ⟨y,B,t,o,i⟩ =>
  thn (ho d A σ B x y v u _ t g o i) fun c C ⟨z,q,f,m,k,e,l⟩=>?_) hm
 subst e;cases m;exact dH ⟨q,f,l⟩
def yjp (r r':R2) (ta tb tc:TE):TE:=fun σ H Q=>ta σ H fun x H1=>tb σ H1 fun y H2=>r x y H2 fun z H3=>∃ k,z=.bl k /\
 (if k=true then tc σ H3 fun w' H4=>r' y w' H4 Q else Q (.bl false) H3)
def ι {op':CmpOp} {r r':R2} (ho:OpR X (compareOp op) r) (ho':OpR X (compareOp op') r') (ha:PE X a ta) (hb:PE X b tb) (hc:PE X c tc)
  (hm:lastMarks [op,op'] [b,c]=false:=by with_unfolding_all rfl):PE X (.Compare a [op,op'] [b,c] pos) (yjp r r' ta tb tc):=by
 refine .mk fun f s σ H Q I h=>?_
 refine Compare_chain (thn (ha f s σ H _ I h) fun v C ⟨x,D,t,o,J⟩=>chain_link (thn (hb f C σ D _ t J) fun u w ⟨y,M,F,l,m⟩ =>
  thn (ho f w σ M x y v u _ F o l m) fun d A ⟨z,i,g,p,k,e,j⟩=>?_)) hm
 subst e;cases p;refine dH ?_
 cases k with
 | false=>exact ite_ff ⟨.bl false,i,g,rfl,j⟩
 | true=>exact ite_tt (chain_last (thn (hc f A σ i _ g j) fun G L ⟨n,K,q,E,B⟩=>ho' f L σ K y n u G Q q l E B))
def Ŏ {op':CmpOp} {r r':R2} (ho:OpR X (compareOp op) r) (ho':OpR X (compareOp op') r') (ha:PE X a ta) (hb:PE X b tb) (hc:PE X c tc)
  (hm:lastMarks [op,op'] [b,c]=false:=by with_unfolding_all rfl):PT X (.Compare a [op,op'] [b,c] pos) (yse (yjp r r' ta tb tc)):=by
 refine .mk fun f s σ H Q I h=>?_
 refine isTrue_chain (thn (ha f s σ H _ I h) fun v J ⟨x,K,C,q,S⟩=>test_link (thn (hb f J σ K _ C S) fun u D ⟨y,o,M,l,m⟩ =>
  thn (ho f D σ o x y v u _ M q l m) fun d E ⟨z,i,g,t,k,e,j⟩=>?_)) hm
 subst e;cases t;refine dH ?_
 cases k with
 | false =>
  obtain ⟨Y,L,w⟩:=j;cases L;exact ite_ff ⟨i,g,w⟩
 | true =>
  refine ite_tt (test_last (thn (hc f E σ i _ g j) fun O U ⟨p,T,B,N,F⟩=>thn (ho' f U σ T y p u O _ B l N F) fun W s5 h'=>?_));obtain ⟨z2,A,P,R,Z,n,G⟩:=h';subst n;cases R;exact dH ⟨A,P,G⟩
def yah:(sizeLine:Nat) < 2 ^ 63:=by rw [sizeLine_eq]; decide
def Â:OpR X (binaryOp .Add) (fun x y H Q=>∃ i j,x=.str i/\y=.str j/\i.length+j.length <= sizeLine/\Q (.str (i++j)) H):=by
 intro a s σ H x y v u Q I e b h;obtain ⟨i,j,rfl,rfl,c,q⟩:=h;obtain ⟨t,rfl⟩:=e;obtain ⟨d,rfl⟩:=b;exact add_str (fun d f=>⟨.str (i++j),H,I.tok _,⟨_,rfl⟩,q⟩) c
def yku (b:Expr):Prop:=∀ o i,subscripted b false o i=operate [o,i] (getItem o i)
def jw (ha:PE X a ta) (hb:PE X b tb) (hs:yku b) :
  PE X (.Subscript a b pos) (tOp (fun x y H Q=>∃ z i c,x=.str z/\y=.int i/\0 <= i/\i < 2 ^ 63/\i < z.length/\z.cps[i.toNat]?=some c/\Q (.str ⟨#[c]⟩) H) ta tb):=by
 refine .mk fun d s σ H Q I h=>?_;refine Subscript_ (vay ha hb I h fun v u r x y o p m g q=>?_);obtain ⟨z,i,c,rfl,rfl,j,f,l,k,q⟩:=q;obtain ⟨t,rfl⟩:=m;obtain ⟨A,rfl⟩:=g;have e:seqIndex? i z.length=some i.toNat:=PySem.StrLaws.seqIndex_nonneg j l
 exact tail_any (typeIs_str r z t) slot_str_getitem.lookup (getItem_str (c:=c) (by
  have w:decide (i < -(2 ^ 63:Int))=false:=cP (by omega);have n:decide (i ≥ 2 ^ 63)=false:=cP (by omega);rw [w,n] <;> rfl) (by rw [e]; exact k) ⟨.str ⟨#[c]⟩,o,p.tok _,⟨_,rfl⟩,q⟩) (hs _ _)
def jk {x:V} (r:wg [x] us):∃ u,us=[u]/\xb x u:=by
 cases r with
 | cons r1 r2=>cases r2; exists _,rfl,r1
def ymh {x:V} (r:wg [x,y] us):∃ u w',us=[u,w']/\xb x u/\xb y w':=by
 cases r with
 | cons r1 r2 =>
  cases r2 with
  | cons r3 r4=>cases r4; exists _,_,rfl,r1,r3
def Ž (hc:X.calm=true):uf X (.builtin "max") (fun xs H Q=>∃ i j,xs=[.int i,.int j]/\Q (.int (if j > i then j else i)) H):=by
 intro a s σ H xs c Q I r h;obtain ⟨i,j,rfl,q⟩:=h;obtain ⟨u,d,rfl,⟨t,rfl⟩,⟨e,rfl⟩⟩:=ymh r;refine max_two_ints (I.ok.hd hc) fun f b k=>⟨_,H,I.kept k,?_,q⟩;by_cases hj:j > i
 .rw [if_pos hj,if_pos hj]; exists _,rfl
 .rw [if_neg hj,if_neg hj]; exists _,rfl
def yaa (hc:X.calm=true):uf X (.builtin "min") (fun xs H Q=>∃ i j,xs=[.int i,.int j]/\Q (.int (if j < i then j else i)) H):=by
 intro a s σ H xs c Q I r h;obtain ⟨i,j,rfl,q⟩:=h;obtain ⟨u,d,rfl,⟨t,rfl⟩,⟨e,rfl⟩⟩:=ymh r;refine min_two_ints (I.ok.hd hc) fun f b k=>⟨_,H,I.kept k,?_,q⟩;by_cases hj:j < i
 .rw [if_pos hj,if_pos hj]; exists _,rfl
 .rw [if_neg hj,if_neg hj]; exists _,rfl
def ygi:uf X (.type "int") (fun xs H Q=>(∃ i,xs=[.int i]/\Q (.int i) H)\/∃ k,xs=[.bl k]/\Q (.int (if k then 1 else 0)) H):=by
 intro a s σ H xs c Q I r h;rcases h with ⟨i,rfl,q⟩ | ⟨k,rfl,q⟩
 .obtain ⟨u,rfl,t,rfl⟩:=jk r;exact call_int_int ⟨.int i,H,I,⟨_,rfl⟩,q⟩
 .obtain ⟨u,rfl,b⟩:=jk r;cases b;exact call_int_bool ⟨.int (if k then 1 else 0),H,I.tok _,⟨_,rfl⟩,q⟩
end
structure yue (h:Heap) (x dx C:Addr) (mA:Str->Option Value):Prop where
 obj:h.get? x=some (W.instObj C dx)
 ns:h.Ns1 dx mA
 ne:dx≠x
def ygh {h:Heap} {dx:Addr} (n:h.Ns1 dx mA):∃ od,h.get? dx=some od/\∀ name,W.lookIn name od=some (mA name):=by
 obtain ⟨o,c,l,k,g,i,_,f⟩:=n;exists o,k,fun name=>?_;have e:=f name;unfold nsFind findBy at e;rw [<- Array.find?_toList] at e;unfold W.lookIn;rw [g];dsimp only
 split
 .rename_i y q
  rw [q] at e;exact congrArg some e
 .rename_i q
  rw [q] at e
  have a:c.toList.any (·.refKey)=false:=by
   rw [List.any_eq_false];intro y d;obtain ⟨z,t,b⟩:=i y (Array.mem_toList_iff.mp d);simp [DictEntry.refKey,b]
  have j:¬ c.toList.any (·.refKey)=true:=by rw [a]; exact cN
  rw [if_neg j];exact congrArg some e
def yue.look {h:Heap} {x dx:Addr} (I:yue h x dx C mA):∃ od,W.InstAt h x (W.instObj C dx) C (some od)/\∀ name,W.lookIn name od=some (mA name) :=
 let ⟨od,ho,hl⟩:=ygh I.ns
 ⟨od,⟨I.obj,rfl,rfl,ho⟩,hl⟩
section
variable {prog:Program} {w:World} {A:Around} {s:Shared} {K:W.Frag} {x dx f:Addr} {name:Str} {v:Value}
def yqy {expr:Bool} (X:K.In s.heap) (I:yue s.heap x dx C mA) (hg:W.plainGet K C name=true) (hh:W.hasDictIn K C=true)
  (ha:W.findIn K (.ref C) name=some none) (hv:mA name=some v) (hv':W.handedIn v=true) (h:Q v { s with toks:=s.toks+1 }) :
  wpAny (model prog w) A (getAttr (.ref x) name expr) Q E s:=by
 obtain ⟨b,J,a⟩:=I.look;exact W.get_value X J (W.plainGet_of hg).1 (W.findObj_own hh ha rfl (by rw [a,hv])) hv' h
def ykc {pl:Sem Bool} {Q:Value × List Value->Shared->Prop} (X:K.In s.heap) (I:yue s.heap x dx C mA) (hg:W.plainGet K C name=true)
  (hf:W.findIn K (.ref C) name=some (some (.ref f))) (ht:W.isFn K (.ref f)=true) (hv:mA name=none) (h:Q (.ref f,[.ref x]) s) :
  wpAny (model prog w) A (getMethod (.ref x) name pl) Q E s:=by
 obtain ⟨b,J,a⟩:=I.look;exact W.method_fn X J (W.plainGet_of hg).1 (W.plainGet_of hg).2 hf (beq_iff_eq.mp ht) (by show (W.lookIn name b).map (·.isSome)=some false; rw [a,hv]; rfl) h
def yqs {ns:List Str} {Q:Unit->Shared->Prop} (X:K.In s.heap) (I:yue s.heap x dx C mA)
  (hs:W.findIn K (.ref C) "__setattr__"=some (some (.builtin "object.__setattr__"))) (hp:W.plainOver K C=true) (ht:W.takerIn K C name=some none) (hh:W.hasDictIn K C=true)
  (hw:PySem.Within mA ns) (hsz:ns.length <= sizeLine)
  (h:∀ h',yue h' x dx C (fun y=>if y=name then some v else mA y)->Heap.SameBut dx s.heap h'->Q () { s with heap:=h',toks:=s.toks+2 }) :
  wpAny (model prog w) A (setAttr (.ref x) name v) Q E s:=by
 obtain ⟨n,J,p⟩:=I.look;refine W.set_plain X J hs (W.osa_open (s:={ s with toks:=s.toks+1 }) (r:=none) X J hp ht fun b=>?_);obtain ⟨q,j,g⟩:=W.any_some hh;have k:s.heap.get? x=some ⟨.ref C,some dx,.plain,#[]⟩:=I.obj;refine bY (cD (bY (bY (wpAny_loadPart k (bY (W.Looks.here (s:={ s with toks:=s.toks+1 }) (W.looks_clsIn X j) ?_))))));rw [g];refine cD (a:=some dx) (bY (cD (bY ?_)));refine wpAny_nsSet1 (s:={ s with toks:=s.toks+1 }) I.ns fun h' d c=>?_;obtain ⟨o,m,l,f,e,i⟩:=d.count (PySem.Within.cons name v hw);refine bY (wpAny_lookBehind f (by rw [e]; exact pastItsLine_dict (dh i (by rw [de]; omega))) ?_);exact cD (h _ ⟨(c.2 _ (Ne.symm I.ne)).trans I.obj,d,I.ne⟩ c)
def yc6 {R:Result->Shared->Prop} {vs:List Value} (X:K.In s.heap) (hm:W.makesIn K C=true)
  (hi:W.findIn K (.ref C) "__init__"=some (some (.ref f))) (hf:W.typeIn K (.ref f)=some (.type "function"))
  (h:codeAny (model prog w) (A.under (.builtin "type.__call__" ⟨.ref C :: vs,kw⟩)) (.call (.ref f) ⟨.ref (s.heap.objs.size+1) :: vs,kw⟩) (W.InitBack (s.heap.objs.size+1) R)
   { s with heap:=(s.heap.push W.emptyDict).push (W.instObj C s.heap.objs.size) }) :
  codeAny (model prog w) A (.call (.ref C) ⟨vs,kw⟩) R s:=by
 obtain ⟨c,g,d,t,b⟩:=s;exact W.make_core (W.makes_of X hm) (W.looks_findIn X hi) (fun a=>W.bind_fn X a hf) (.inl rfl) h
end
def ji (f:Str) (v:V):List (Str × V)->List (Str × V)
 | []=>[(f,v)]
 | (g,x) :: r=>if g=f then (g,v) :: r else (g,x) :: ji f v r
theorem ð (f g:Str) (v:V):∀ fs:List (Str × V),(ji f v fs).lookup g=if g=f then some v else fs.lookup g
 | []=>by
  show List.lookup g [(f,v)]=_;by_cases h:g=f
  .have a:(g == f)=true:=beq_iff_eq.mpr h;simp only [List.lookup,a,if_pos h]
  .have a:(g == f)=false:=dX.mpr h;simp only [List.lookup,a,if_neg h]
 | (k,x) :: r=>by
  have b:=ð f g v r;rw [show ji f v ((k,x) :: r)=(if k=f then (k,v) :: r else (k,x) :: ji f v r) from rfl];by_cases hk:k=f
  .rw [if_pos hk];by_cases h:g=k
   .have a:(g == k)=true:=beq_iff_eq.mpr h;simp only [List.lookup,a,if_pos (h.trans hk)]
   .have a:(g == k)=false:=dX.mpr h;simp only [List.lookup,a,if_neg (fun e:g=f=>h (e.trans hk.symm))]
  .rw [if_neg hk];by_cases h:g=k
   .have a:(g == k)=true:=beq_iff_eq.mpr h;simp only [List.lookup,a,if_neg (fun e:g=f=>hk (h.symm.trans e))]
   .have a:(g == k)=false:=dX.mpr h;simp only [List.lookup,a];exact b
theorem ù (f:Str) (v:V):∀ fs:List (Str × V),f∈(ji f v fs).map (·.1)/\∀ g,g∈fs.map (·.1)->g∈(ji f v fs).map (·.1)
 | []=>⟨by simp [ji],fun g h=>by simp at h⟩
 | (k,x) :: r=>by
  obtain ⟨a,b⟩:=ù f v r;rw [show ji f v ((k,x) :: r)=(if k=f then (k,v) :: r else (k,x) :: ji f v r) from rfl];by_cases hk:k=f
  .rw [if_pos hk];subst hk;exists by simp,fun g h=>by simpa using h
  .rw [if_neg hk];exists ?_,fun g h=>?_
   .rw [di];exact dy _ a
   .rw [di] at h ⊢;rcases cT.mp h with e | e
    .exact cT.mpr (.inl e)
    .exact dy _ (b g e)
theorem ó (f:Str) (v:V):∀ fs:List (Str × V),(ji f v fs).length <= fs.length+1
 | []=>by simp [ji]
 | (k,x) :: r=>by
  have a:=ó f v r;rw [show ji f v ((k,x) :: r)=(if k=f then (k,v) :: r else (k,x) :: ji f v r) from rfl];by_cases hk:k=f
  .rw [if_pos hk,de,de]; omega
  .rw [if_neg hk,de,de]; omega
def yas.some_of {o:Option Value} (r:yas (some v) o):∃ u,o=some u/\xb v u:=by
 cases o with
 | none=>exact (show False from r).elim
 | some u=>exact ⟨u,rfl,r⟩
def yas.none_of {o:Option Value} (r:yas none o):o=none:=by
 cases o with
 | none=>rfl
 | some u=>exact (show False from r).elim
def yfz (r:xb v u):W.handedIn u=true:=by
 cases v with
 | non=>cases (show u=Value.none from r); rfl
 | bl b=>cases (show u=Value.bool b from r); rfl
 | int i=>obtain ⟨t,e⟩:=(show ∃ t,u=Value.int i t from r); cases e; rfl
 | str x=>obtain ⟨t,e⟩:=(show ∃ t,u=Value.str x t from r); cases e; rfl
 | byt b=>obtain ⟨t,e⟩:=(show ∃ t,u=Value.bytes b t from r); cases e; rfl
 | flt b=>obtain ⟨t,e⟩:=(show ∃ t,u=Value.float b t from r); cases e; rfl
 | ref a=>cases (show u=Value.ref a from r); rfl
 | ty n=>cases (show u=Value.type n from r); rfl
section
variable {w:World} {h:Heap} {dx:Addr} {fs fs':List (Str × V)}
def Ř (hok:HOk P w H h) (e:H a=some (.ins C dx fs)):∃ mA,yue h a dx C mA/\(∀ f,yas (fs.lookup f) (mA f))/\PySem.Within mA (fs.map (·.1))/\fs.length <= 1000/\H dx=some (.own a):=by
 obtain ⟨d,z,c,b,mA,n,r,q⟩:=(show wq P w H h a (.ins C dx fs) from hok a _ e);exists mA,⟨b,n,c⟩,r,q,z,d
end
structure Cls (K:W.Frag) (C:Addr):Prop where
 pg:W.plainGet K C Str.empty=true
 hd:W.hasDictIn K C=true
 po:W.plainOver K C=true
 sa:W.findIn K (.ref C) "__setattr__"=some (some (.builtin "object.__setattr__"))
def Cls.get {K:W.Frag} (c:Cls K C) (f:Str):W.plainGet K C f=true:=c.pg
def y9 (K:W.Frag) (C:Addr) (f:Str):Prop:=W.findIn K (.ref C) f=some none
def y9.taker {K:W.Frag} {f:Str} (n:y9 K C f):W.takerIn K C f=some none:=by
 unfold W.takerIn;rw [show W.findIn K (.ref C) f=some none from n];rfl
structure Con (K:W.Frag) (C:Addr) (f:Str) (v:V) (u:Value):Prop where
 at_:W.findIn K (.ref C) f=some (some u)
 rel:xb v u
 get:W.specialIn K u "__get__"=some none
 cp:W.copiedNames.contains f=false
structure yuk (K:W.Frag) (C:Addr) (m:Str) (f:Addr):Prop where
 at_:W.findIn K (.ref C) m=some (some (.ref f))
 fn:W.isFn K (.ref f)=true
 kp:W.keepIn K (.ref f)=true
section
variable {s:Shared} {dx:Addr} {fs:List (Str × V)} {f:Str} {A:Around}
def yeu {b:Bool} (I:Inv X pins σ H s) (e:H a=some (.ins C dx fs)) (c:Cls X.K C) (n:y9 X.K C f) (l:fs.lookup f=some v)
  (h:∀ u s',Inv X pins σ H s'->xb v u->Q u s'):wpAny (model X.prog X.w) A (getAttr (.ref a) f b) Q E s:=by
 obtain ⟨i,O,r,_,_,_⟩:=Ř I.hok e;obtain ⟨u,g,d⟩:=yas.some_of (v:=v) (o:=i f) (by rw [<- l]; exact r f);exact yqy I.kIn O (c.get f) c.hd n g (yfz d) (h u _ (I.tok _) d)
def Å {m:Str} {g:Addr} {pl:Sem Bool} {Q:Value × List Value->Shared->Prop} (I:Inv X pins σ H s) (e:H a=some (.ins C dx fs)) (c:Cls X.K C) (k:yuk X.K C m g) (l:fs.lookup m=none)
  (h:Q (.ref g,[.ref a]) s):wpAny (model X.prog X.w) A (getMethod (.ref a) m pl) Q E s:=by
 obtain ⟨d,O,r,_,_,_⟩:=Ř I.hok e;have b:d m=none:=yas.none_of (by rw [<- l]; exact r m);exact ykc I.kIn O (c.get m) k.at_ k.fn b h
def yef {Q:Unit->Shared->Prop} (I:Inv X pins σ H s) (e:H a=some (.ins C dx fs)) (c:Cls X.K C) (n:y9 X.K C f) (hl:fs.length < 1000) (ry:xb y u)
  (h:∀ s',Inv X pins σ (upd H a (.ins C dx (ji f y fs))) s'->Q () s'):wpAny (model X.prog X.w) A (setAttr (.ref a) f u) Q E s:=by
 obtain ⟨i,O,r,j,_,k⟩:=Ř I.hok e;have l:(fs.map (·.1)).length <= sizeLine:=by rw [cA,sizeLine_eq]; omega
 refine yqs I.kIn O c.sa c.po n.taker c.hd j l fun m d v=>h _ ?_;have p:∃ o,m.get? dx=some o:=let ⟨o,_,_,e',_⟩:=d.ns; ⟨o,e'⟩;refine I.write (x:=a) (e:=dx) (by rw [e]; exact True.intro) (.inr k) (fun b q t z=>(v.2 b t).trans z) p ?_;exists by rw [yk O.ne]; exact k,?_,O.ne,d.obj,_,d.ns,fun g=>?_,fun g B=>?_
 .have:=ó f y fs; omega
 .show yas ((ji f y fs).lookup g) (if g=f then some u else i g);rw [ð];by_cases q:g=f
  .rw [if_pos q,if_pos q]; exact ry
  .rw [if_neg q,if_neg q]; exact r g
 .by_cases q:g=f
  .rw [q]; exact (ù f y fs).1
  .refine (ù f y fs).2 g (j g fun z=>B ?_);show (if g=f then some u else i g)=none;rw [if_neg q]; exact z
def Inv.made (I:Inv X pins σ H s):Inv X pins σ (upd (upd H s.heap.objs.size (.own (s.heap.objs.size+1))) (s.heap.objs.size+1) (.ins C s.heap.objs.size []))
  { s with heap:=(s.heap.push W.emptyDict).push (W.instObj C s.heap.objs.size) }:=by
 have d:(s.heap.push W.emptyDict).get? s.heap.objs.size=some W.emptyDict:=cJ s.heap rfl
 have h:((s.heap.push W.emptyDict).push (W.instObj C s.heap.objs.size)).get? (s.heap.objs.size+1)=some (W.instObj C s.heap.objs.size):=by
  have:=cJ (s.heap.push W.emptyDict) (o:=W.instObj C s.heap.objs.size) rfl
  rwa [Heap.size_push] at this
 have g:(s.heap.push W.emptyDict).Ns s.heap.objs.size (fun _=>none):=⟨W.emptyDict,#[],_,d,rfl,(fun e i=>absurd i (by simp)),fun _=>rfl⟩;have j:=I.laid (a:=s.heap.objs.size) (o:=.own (s.heap.objs.size+1)) (h':=s.heap.push W.emptyDict) (t':=s.toks) (fun b u q=>cB _ q) (cE _) ⟨_,d⟩;refine j.laid (a:=s.heap.objs.size+1) (o:=.ins C s.heap.objs.size []) (t':=s.toks) (fun b u q=>cB _ q) (Nat.le_of_eq (Heap.size_push _ _)) ?_;have c:s.heap.objs.size≠s.heap.objs.size+1:=cU (Nat.lt_succ_self _);exists by rw [yk c,ya],cV _,c,h,fun _=>none,(Heap.Ns1.of_empty g).at fun o q=>cB _ q,fun _=>True.intro,fun y f=>absurd rfl f
def ypm {prog:Program} {w:World} {env:Env} {pos:Pos} (hb:attributeBase e f env (eval e env)=eval e env)
  (h:wpAny (model prog w) A (eval e env) (fun o s₁=>wpAny (model prog w) A (getAttr o f true) Q E s₁) E s):wpAny (model prog w) A (eval (.Attribute e f pos) env) Q E s :=
 Attribute_any_ h (by rw [arm_eval_Attribute,hb])
end
def vde (K:W.Frag) (ta:TE) (f:Str):TE:=fun σ H Q=>ta σ H fun x H1=>∃ a C dx fs v,x=.ref a/\H1 a=some (.ins C dx fs)/\Cls K C/\y9 K C f/\fs.lookup f=some v/\Q v H1
def vdv (K:W.Frag) (ta tv:TE) (f:Str):TS:=fun D σ H=>tv σ H fun y H1=>ta σ H1 fun x H2=>∃ a C dx fs,x=.ref a/\H2 a=some (.ins C dx fs)/\Cls K C/\y9 K C f/\fs.length < 1000 /\
 D.nx σ (upd H2 a (.ins C dx (ji f y fs)))
section
variable {o value:Expr} {f:Str} {pos pos' tpos:Pos} {tv:TE}
def ym (he:PE X e ta) (hb:attributeBase e f X.env (eval e X.env)=eval e X.env):PE X (.Attribute e f pos) (vde X.K ta f):=by
 refine .mk fun b s σ H Q I h=>?_;refine ypm hb (thn (he b s σ H _ I h) fun u w h'=>?_);obtain ⟨x,k,o,g,a,C,r,p,v,j,i,c,n,l,q⟩:=h';subst j;obtain rfl:u=Value.ref a:=g;exact yeu o i c n l fun t y m d=>⟨v,k,m,d,q⟩
def yy (ha:PE X o ta) (hv:PE X value tv) (hs:swapsWith value (some (.Attribute o f pos')) pos.line X.env=pure false):PS X (.Assign [.Attribute o f pos'] value pos) (vdv X.K ta tv f):=by
 refine .mk fun b s σ H D I h=>?_;refine plainObj_wpAny_Assign_Attribute (thn (hv b s σ H _ I h) fun u k ⟨y,p,t,d,q⟩=>thn (ha b k σ p _ t q) fun v B h'=>?_) hs;obtain ⟨x,E,r,i,a,C,A,w,m,j,c,n,l,g⟩:=h';subst m;obtain rfl:v=Value.ref a:=i;exact yef r j c n l d fun z e=>⟨σ,_,e,g⟩
end
section
variable {s:Shared} {A:Around} {c:Value} {b:Bool}
inductive xo (K:W.Frag) (H:Hp):V->Value->Prop where
 | non:xo K H .non (.type "NoneType")
 | bl (x:Bool):xo K H (.bl x) (.type "bool")
 | int (i:Int):xo K H (.int i) (.type "int")
 | str (x:Str):xo K H (.str x) (.type "str")
 | flt (x:UInt64):xo K H (.flt x) (.type "float")
 | lst {a:Addr} {xs:List V} (e:H a=some (.lst xs)):xo K H (.ref a) (.type "list")
 | frz {a:Addr} {o:Obj} {xs:List V} (e:H a=some (.frz o (.lst xs))):xo K H (.ref a) (.type "list")
 | tup {a:Addr} {xs:List V} (e:H a=some (.tup xs)):xo K H (.ref a) (.type "tuple")
 | dK {a:Addr} {kvs:List (Key × V)} (e:H a=some (.dK kvs)):xo K H (.ref a) (.type "dict")
 | dT {a:Addr} {kvs:List (List Key × V)} (e:H a=some (.dT kvs)):xo K H (.ref a) (.type "dict")
 | ins {a C dx:Addr} {fs:List (Str × V)} (e:H a=some (.ins C dx fs)) (cl:Cls K C) (ha:W.findIn K (.ref C) "__class__"=some (some (.builtin "object.__class__")))
   (hn:W.specialIn K (.builtin "object.__class__") "__get__"=some (some (.builtin "getset_descriptor.__get__"))) (htk:W.takesIn K (.builtin "object.__class__")=some true)
   (hm:W.mroIn K C (.type "object")=some true):xo K H (.ref a) (.ref C)
def ygx {x:V} {t:Value} (I:Inv X pins σ H s) (rx:xb x u) (ty:xo X.K H x t) (e:W.kitOne X.K t c=some b) (h:∀ tk,Q (.bool b) { s with toks:=tk }) :
  wpAny (model X.prog X.w) A (call (.builtin "isinstance") [u,c]) Q E s:=by
 cases ty with
 | non=>cases (show u=Value.none from rx); exact W.kia_one W.kitx_none I.kIn True.intro e (fun z=>nomatch z) h
 | bl y=>cases (show u=Value.bool y from rx); exact W.kia_one W.kitx_bool I.kIn True.intro e (fun z=>nomatch z) h
 | int i=>obtain ⟨t,q⟩:=(show ∃ t,u=Value.int i t from rx); cases q; exact W.kia_one W.kitx_int I.kIn True.intro e (fun z=>nomatch z) h
 | str y=>obtain ⟨t,q⟩:=(show ∃ t,u=Value.str y t from rx); cases q; exact W.kia_one W.kitx_str I.kIn True.intro e (fun z=>nomatch z) h
 | flt y=>obtain ⟨t,q⟩:=(show ∃ t,u=Value.float y t from rx); cases q; exact W.kia_one W.kitx_float I.kIn True.intro e (fun z=>nomatch z) h
 | @lst a xs ea =>
  cases (show u=Value.ref a from rx);obtain ⟨_,_,n,_,d⟩:=(show wq X.prog X.w H s.heap a (.lst xs) from I.hok a _ ea)
  exact W.kia_one W.kitx_list I.kIn ⟨_,d,rfl⟩ e (fun z=>nomatch z) h
 | @frz a ob xs ea =>
  cases (show u=Value.ref a from rx);obtain ⟨_,_,_,n,_,d⟩:=(show wq X.prog X.w H s.heap a (.frz ob (.lst xs)) from I.hok a _ ea)
  exact W.kia_one W.kitx_list I.kIn ⟨_,d,rfl⟩ e (fun z=>nomatch z) h
 | @tup a xs ea =>
  cases (show u=Value.ref a from rx);obtain ⟨_,_,_,p⟩:=(show wq X.prog X.w H s.heap a (.tup xs) from I.hok a _ ea);obtain ⟨o,d,f,_⟩:=p
  exact W.kia_one W.kitx_tuple I.kIn ⟨o,d,f⟩ e (fun z=>nomatch z) h
 | @dK a kvs ea =>
  cases (show u=Value.ref a from rx);obtain ⟨_,_,m,_,p⟩:=(show wq X.prog X.w H s.heap a (.dK kvs) from I.hok a _ ea);obtain ⟨o,g,j,d,f,_⟩:=p
  exact W.kia_one W.kitx_dict I.kIn ⟨o,d,f.1⟩ e (fun z=>nomatch z) h
 | @dT a kvs ea =>
  cases (show u=Value.ref a from rx);obtain ⟨_,_,xs,_,o,g,j,d,f,_⟩:=(show wq X.prog X.w H s.heap a (.dT kvs) from I.hok a _ ea)
  exact W.kia_one W.kitx_dict I.kIn ⟨o,d,f.1⟩ e (fun z=>nomatch z) h
 | @ins a C dx fs ea cl ha hn htk hm =>
  cases (show u=Value.ref a from rx);obtain ⟨l,O,_⟩:=Ř I.hok ea;obtain ⟨k,J,_⟩:=O.look
  exact W.kia_one (W.kitx_own (cl.get _) cl.hd ha hn htk hm) I.kIn J e (fun z=>nomatch z) h
end
structure zr (k:Nat) (A:Around):Prop where
 hd:A.handled=none
 dp:A.depth+3 * k+5 < recursionLimit
 un:A.units+16 * k+200 < cLine
def zr.mono {j k:Nat} {A:Around} (r:zr k A) (h:j <= k):zr j A:=⟨r.hd,by have:=r.dp; omega,by have:=r.un; omega⟩
theorem zr.deeper {k:Nat} {A:Around} (r:zr (k+1) A) (env:Env):zr k (A.deeper env) :=
 ⟨r.hd,by have:=r.dp; show A.depth+1+3 * k+5 < _; omega,by have:=r.un; show A.units+3+16 * k+200 < _; omega⟩
def ye5 {A:Around} :(A.under (.builtin "type.__call__" ⟨.ref C :: us,kw⟩)).depth=A.depth+1:=by
 first | rfl | simp [Around.under,Code.weight,Code.isCreation,Code.isGuard,Code.isCaller,Code.frames,Code.isFrame,guardIds]
def ye6 {A:Around} :(A.under (.builtin "type.__call__" ⟨.ref C :: us,kw⟩)).units=A.units+1:=by
 first | rfl | simp [Around.under,Code.cUnits,Code.frames,Code.isFrame]
def zr.make {k:Nat} {A:Around} (r:zr (k+1) A) (C:Addr) (us:List Value) (kw:List (Str × Value)):zr k (A.under (.builtin "type.__call__" ⟨.ref C :: us,kw⟩)) :=
 ⟨r.hd,by have:=r.dp; rw [ye5]; omega,by have:=r.un; rw [ye6]; omega⟩
theorem zr.depth {k:Nat} {A:Around} (r:zr k A):A.depth < recursionLimit:=by have:=r.dp; omega
theorem zr.units {k:Nat} {A:Around} (r:zr k A):A.units+64 < cLine:=by have:=r.un; omega
def yjy:TA:=fun _ H Q=>Q [] H
def yme (ta:TE) (tr:TA):TA:=fun σ H Q=>ta σ H fun x H1=>tr σ H1 fun xs H2=>Q (x :: xs) H2
section
variable {t:TA} {pos:Pos}
def ua:PA X [] yjy:=.mk fun _ _ _ _ H Q I h=>Calls.spliced_nil ⟨[],H,I,.nil,h⟩
def yhv (ha:PE X e te) (hr:PA X es t) (hs:starEach (e :: es) X.env=(false,eval e X.env) :: starEach es X.env:=by rfl):PA X (e :: es) (yme te t):=by
 refine .mk fun b a s σ H Q I h=>?_;rw [hs];show wpAny _ _ (spliced ((false,eval e X.env) :: backTo b (starEach es X.env))) _ _ s;refine Calls.spliced_cons (thn (ha a s σ H _ I h) fun u j h'=>?_);obtain ⟨x,d,m,c,g⟩:=h';exact thn (hr b a j σ d _ m g) fun o p ⟨i,n,l,k,f⟩=>⟨x :: i,n,l,.cons c k,f⟩
def vdk (t:TA):TE:=fun σ H Q=>t σ H fun xs H1=>xs.length <= sizeLine/\∀ p,H1 p=none->Q (.ref p) (upd H1 p (.tup xs))
def vdw (t:TA):TE:=fun σ H Q=>t σ H fun xs H1=>xs.length <= sizeLine/\∀ p,H1 p=none->Q (.ref p) (upd H1 p (.lst xs))
def yak {x1} (h:PA X es t):PE X (.Tuple es x1 pos) (vdk t):=by
 refine .mk fun a s σ H Q I i=>?_;refine wpAny_Tuple_spliced (thn (h pos a s σ H _ I i) fun g c ⟨j,d,f,r,z,q⟩=>⟨by rw [<- r.length]; exact z,?_⟩);have k:d c.heap.objs.size=none:=f.hok.fresh (cE _);exists .ref c.heap.objs.size,upd d c.heap.objs.size (.tup j),f.laid (t':=c.toks) (fun b u e=>cB _ e) (cE _) ?_,rfl,q _ k;exists z,g,r,⟨_,cJ _ rfl,rfl,_,rfl⟩
def xh (h:PA X es t):PE X (.List es pos) (vdw t):=by
 refine .mk fun a s σ H Q I i=>?_;refine wpAny_List_spliced (thn (h pos a s σ H _ I i) fun g c ⟨j,d,f,r,z,q⟩=>⟨by rw [<- r.length]; exact z,?_⟩);have k:d c.heap.objs.size=none:=f.hok.fresh (cE _);exists .ref c.heap.objs.size,upd d c.heap.objs.size (.lst j),f.laid (t':=c.toks) (fun b u e=>cB _ e) (cE _) ?_,rfl,q _ k;exists z,g,0,r,cJ _ rfl
end
abbrev Sp:=List V->Hp->VK->XK->Prop
abbrev CXT:=List Env->Hp->Shared->XK->Value->Shared->Prop
variable {CX:CXT}
structure yug (P:Program) (w:World) (K:W.Frag) (mg:Str->Option Value) (base:Heap) (A:Around) (outer:List Env) (s:Shared) (H:Hp):Prop where
 frames:A.frames=some outer
 mod:Mod K mg base
 bs:∀ b o,base.get? b=some o->s.heap.get? b=some o/\H b=none
 bsz:base.objs.size <= s.heap.objs.size
 funs:s.heap.FunFrames base outer
 frf:∀ b∈frs outer,H b=none
 hok:HOk P w H s.heap
 bare:AllBare s.gens
def CE (outer:List Env) (P:Program) (w:World) (H:Hp) (s:Shared) (Q:VK) (u:Value) (s':Shared):Prop :=
 ∃ v H',s'.os=s.os/\AllBare s'.gens/\Un (frs outer) [] H H' s.heap s'.heap/\HOk P w H' s'.heap/\xb v u/\Q v H'
def CR (CX:CXT) (outer:List Env) (P:Program) (w:World) (H:Hp) (s:Shared) (Q:VK) (E:XK) (r:Result) (s':Shared):Prop :=
 match r with
 | .ok (.ret u)=>CE outer P w H s Q u s'
 | .ok _=>False
 | .error e=>CX outer H s E e s'
structure vk (P:Program) (w:World) (K:W.Frag) (mg:Str->Option Value) (base:Heap) (CX:CXT) (k:Nat) (f:Addr) (fd:FuncData) (ps:List Str) (sp:Sp):Prop where
 len:∀ vs H Q E,sp vs H Q E->vs.length=ps.length
 run:∀ (A:Around) (outer:List Env) (s:Shared) (H:Hp) (args:Args) (us:List Value) (vs:List V) (Q:VK) (E:XK),zr k A->yug P w K mg base A outer s H->BindsTo s fd args (ps.zip us)->wg vs us->sp vs H Q E ->
  codeAny (model P w) A (.call (.ref f) args) (CR CX outer P w H s Q E) s
def yug.make {w:World} {K:W.Frag} {mg:Str->Option Value} {base:Heap} {A:Around} {outer:List Env} {s:Shared} (e:yug P w K mg base A outer s H) (C:Addr) (us:List Value) (kw:List (Str × Value)) :
  yug P w K mg base (A.under (.builtin "type.__call__" ⟨.ref C :: us,kw⟩)) outer s H:=⟨by first | exact e.frames | (simpa [Around.under,Code.envs,Code.isFrame,pushEnvs] using e.frames),e.mod,e.bs,e.bsz,e.funs,e.frf,e.hok,e.bare⟩
section
variable {s:Shared}
def Inv.env0 (I:Inv X pins σ H s):yug X.prog X.w X.K X.mg X.base X.A X.stack s H :=
 ⟨I.ok.frames,I.ok.mod,I.bs,dh I.ok.bsz I.sz,I.stack,I.stkFree,I.hok,I.bare⟩
def Inv.after {Q:VK} (I:Inv X pins σ H s) (h:CE X.stack X.prog X.w H s Q u s'):EP X pins σ Q u s':=by
 obtain ⟨v,f,i,a,k,c,r,q⟩:=h;obtain ⟨j,g,d,t,e⟩:=s';obtain rfl:e=s.os:=i;exists v,f,I.call (h':=j) (g':=g) (d':=d) (t':=t) (ch:=[]) k c a (fun b z=>absurd z (by simp)),r,q
end
def ytn (sp:Sp) (dvs:List V) (E:XK) (t:TA):TE:=fun σ H Q=>t σ H fun vs H1=>sp (vs++dvs) H1 Q E
def Ğ (C:Addr) (m:Str) (sp:Sp) (dvs:List V) (E:XK) (ta:TE) (t:TA):TE:=fun σ H Q=>ta σ H fun x H1=>∃ a dx fs,x=.ref a/\H1 a=some (.ins C dx fs)/\fs.lookup m=none /\
 t σ H1 fun vs H2=>sp (x :: (vs++dvs)) H2 Q E
def ysp (C:Addr) (sp:Sp) (dvs:List V) (E:XK) (t:TA):TE:=fun σ H Q=>t σ H fun vs H1=>∀ x dx,H1 x=none->H1 dx=none->dx≠x ->
 sp (.ref x :: (vs++dvs)) (upd (upd H1 dx (.own x)) x (.ins C dx [])) (fun v H2=>v=.non/\Q (.ref x) H2) E
def uc (K:W.Frag) (fd:FuncData) (ps:List Str) (ds:List Value):Prop :=
 ∀ (s:Shared) (us:List Value),K.In s.heap->(us++ds).length=ps.length->BindsTo s fd ⟨us,[]⟩ (ps.zip (us++ds))
def uc.all {K:W.Frag} {ps:List Str} (h:∀ us:List Value,us.length=ps.length->bindArgs fd ⟨us,[]⟩=pure (ps.zip us)):uc K fd ps []:=fun s us _ a=>by
 rw [d6] at a ⊢;exact .of_eq (h us a)
def Ô (CX:CXT) (X:Cx) (E:XK):Prop:=∀ (pins:List (Addr × Obj)) (σ:St) (H:Hp) (s:Shared) (e:Value) (s':Shared),Inv X pins σ H s->CX X.stack H s E e s'->X.xe e s'
section
variable {k:Nat} {f:Addr} {ps:List Str} {sp:Sp} {dvs:List V} {ds:List Value} {E:XK} {x m:Str} {pos apos:Pos} {o:Expr} {t:TA}
def yis {s:Shared} {Q:VK} (F:vk X.prog X.w X.K X.mg X.base CX k f fd ps sp) (hr:zr k X.A) (hb:uc X.K fd ps ds) (hd:wg dvs ds) (hx:Ô CX X E)
  (I:Inv X pins σ H s) (r:wg vs us) (h:sp (vs++dvs) H Q E):wpAny (model X.prog X.w) X.A (call (.ref f) us) (EP X pins σ Q) X.xe s:=by
 have b:wg (vs++dvs) (us++ds):=r.append hd;have c:(us++ds).length=ps.length:=by rw [<- b.length]; exact F.len _ _ _ _ h
 refine wpAny_call (codeAny_mono (F.run X.A X.stack s H ⟨us,[]⟩ (us++ds) (vs++dvs) Q E hr I.env0 (hb s us I.kIn c) b h) fun r d a=>?_)
 cases r with
 | error e=>exact hx pins σ H s e d I a
 | ok fl =>
  cases fl with
  | ret u=>exact I.after a
  | next=>exact False.elim a
  | brk=>exact False.elim a
  | cont=>exact False.elim a
def yb7 (F:vk X.prog X.w X.K X.mg X.base CX k f fd ps sp) (hr:zr k X.A) (hg:Gl X x) (hm:X.mg x=some (.ref f)) (hk:W.keepIn X.K (.ref f)=true) (hb:uc X.K fd ps ds) (hd:wg dvs ds) (hx:Ô CX X E)
  (ha:PA X (e :: es) t) (hdb:(x == ("__debug__":Str))=false:=by decide) (he:starEach (e :: es) X.env=(false,eval e X.env) :: starEach es X.env:=by rfl) (hpl:(backTo pos (starEach es X.env)).any (·.1)=false:=by rfl) :
  PE X (.Call (.Name x p) (e :: es) [] pos) (ytn sp dvs E t):=by
 refine .mk fun a s σ H Q I h=>?_;refine wpAny_Call_Name_kw (z0 I hg hm ?_ hdb);refine W.callWith_K (h₀:=X.base) I.ok.mod.kin hk (thn (ha pos a s σ H _ I h) fun c d ⟨i,g,b,r,q⟩=>⟨b.kIn,?_⟩) he hpl;exact yis F hr hb hd hx b r q
def xf {pl:Sem Bool} (he:PE X o ta) (c:Cls X.K C) (hm:yuk X.K C m f) (F:vk X.prog X.w X.K X.mg X.base CX k f fd ps sp) (hr:zr k X.A) (hb:uc X.K fd ps ds) (hd:wg dvs ds) (hx:Ô CX X E) (ha:PA X (e :: es) t)
  (hst:starEach (e :: es) X.env=(false,eval e X.env) :: starEach es X.env:=by rfl) (hpl:(backTo pos (starEach es X.env)).any (·.1)=false:=by rfl)
  (ht:eval (.Call (.Attribute o m apos) (e :: es) [] pos) X.env=(do
   let ov <- eval o X.env
   standAt apos.atName
   let (f,first) <- holding [ov] (getMethod ov m pl)
   callWith pos f first (backTo pos (starEach (e :: es) X.env)) (backToKw pos (keywordEach [] X.env))):=by rfl) :
  PE X (.Call (.Attribute o m apos) (e :: es) [] pos) (Ğ C m sp dvs E ta t):=by
 refine .mk fun b s σ H Q I h=>?_;refine W.methodCall_KW (pl:=pl) (thn (he b s σ H _ I h) fun u p h'=>?_) ht;obtain ⟨x,y,g,j,a,B,z,v,n,l,q⟩:=h';subst v;obtain rfl:u=Value.ref a:=j;refine Å g n c hm l ?_
 refine W.callWith_K (first:=[.ref a]) (h₀:=X.base) I.ok.mod.kin hm.kp (thn (ha pos b p σ y _ g q) fun us D ⟨vs,G,d,r,i⟩=>⟨d.kIn,?_⟩) hst hpl
 exact yis (us:=.ref a :: us) (vs:=.ref a :: vs) F hr hb hd hx d (.cons rfl r) i
def vo {pl:Sem Bool} (he:PE X o ta) (c:Cls X.K C) (hm:yuk X.K C m f) (F:vk X.prog X.w X.K X.mg X.base CX k f fd ps sp) (hr:zr k X.A) (hb:uc X.K fd ps ds) (hd:wg dvs ds) (hx:Ô CX X E)
  (ht:eval (.Call (.Attribute o m apos) [] [] pos) X.env=(do
   let ov <- eval o X.env
   standAt apos.atName
   let (f,first) <- holding [ov] (getMethod ov m pl)
   callWith pos f first (backTo pos (starEach [] X.env)) (backToKw pos (keywordEach [] X.env))):=by rfl) :
  PE X (.Call (.Attribute o m apos) [] [] pos) (Ğ C m sp dvs E ta yjy):=by
 refine .mk fun b s σ H Q I h=>?_;refine W.methodCall_KW (pl:=pl) (thn (he b s σ H _ I h) fun u p h'=>?_) ht;obtain ⟨x,r,d,e,a,n,j,i,g,l,q⟩:=h';subst i;obtain rfl:u=Value.ref a:=e;refine Å d g c hm l ?_
 exact W.callWith_K0 (first:=[.ref a]) d.kIn hm.kp (yis (us:=[.ref a]) (vs:=[.ref a]) F hr hb hd hx d (.cons rfl .nil) q)
structure Mk (K:W.Frag) (C f:Addr):Prop where
 makes:W.makesIn K C=true
 init:W.findIn K (.ref C) "__init__"=some (some (.ref f))
 fn:W.isFn K (.ref f)=true
 kp:W.keepIn K (.ref C)=true
def yco {s:Shared} {Q:VK} (M:Mk X.K C f) (F:vk X.prog X.w X.K X.mg X.base CX k f fd ps sp) (hr:zr (k+1) X.A) (hb:uc X.K fd ps ds) (hd:wg dvs ds)
  (hx:Ô CX X E) (I:Inv X pins σ H s) (r:wg vs us)
  (h:∀ x dx,H x=none->H dx=none->dx≠x->sp (.ref x :: (vs++dvs)) (upd (upd H dx (.own x)) x (.ins C dx [])) (fun v H2=>v=.non/\Q (.ref x) H2) E) :
  wpAny (model X.prog X.w) X.A (call (.ref C) us) (EP X pins σ Q) X.xe s:=by
 have c:=h (s.heap.objs.size+1) s.heap.objs.size (I.hok.fresh (Nat.le_succ _)) (I.hok.fresh (cE _)) (cU (Nat.lt_succ_self _));have b:=Inv.made (C:=C) I;have d:wg (V.ref (s.heap.objs.size+1) :: (vs++dvs)) (Value.ref (s.heap.objs.size+1) :: (us++ds)):=.cons rfl (r.append hd)
 have o:(Value.ref (s.heap.objs.size+1) :: us++ds).length=ps.length:=by
  have e:=d.length;rw [F.len _ _ _ _ c] at e;exact e.symm
 refine wpAny_call (yc6 (f:=f) I.kIn M.makes M.init (beq_iff_eq.mp M.fn) (codeAny_mono (F.run _ X.stack _ _ ⟨Value.ref (s.heap.objs.size+1) :: us,[]⟩ (Value.ref (s.heap.objs.size+1) :: (us++ds)) _ _ E (hr.make C us [])
  (b.env0.make C us []) (hb _ (Value.ref (s.heap.objs.size+1) :: us) b.kIn o) d c) fun r n a=>?_))
 cases r with
 | error e=>exact hx pins σ _ _ e n b a
 | ok fl =>
  cases fl with
  | ret u =>
   obtain ⟨v,j,i,m,g,l⟩:=b.after a;subst g;exists m,⟨V.ref (s.heap.objs.size+1),j,i,rfl,l⟩
  | next=>exact False.elim a
  | brk=>exact False.elim a
  | cont=>exact False.elim a
def ÿ (M:Mk X.K C f) (F:vk X.prog X.w X.K X.mg X.base CX k f fd ps sp) (hr:zr (k+1) X.A) (hg:Gl X x) (hm:X.mg x=some (.ref C)) (hb:uc X.K fd ps ds) (hd:wg dvs ds) (hx:Ô CX X E)
  (ha:PA X (e :: es) t) (hdb:(x == ("__debug__":Str))=false:=by decide) (he:starEach (e :: es) X.env=(false,eval e X.env) :: starEach es X.env:=by rfl) (hpl:(backTo pos (starEach es X.env)).any (·.1)=false:=by rfl) :
  PE X (.Call (.Name x p) (e :: es) [] pos) (ysp C sp dvs E t):=by
 refine .mk fun a s σ H Q I h=>?_;refine wpAny_Call_Name_kw (z0 I hg hm ?_ hdb);refine W.callWith_K (h₀:=X.base) I.ok.mod.kin M.kp (thn (ha pos a s σ H _ I h) fun c d ⟨i,g,b,r,q⟩=>⟨b.kIn,?_⟩) he hpl;exact yco M F hr hb hd hx b r q
def ug (M:Mk X.K C f) (F:vk X.prog X.w X.K X.mg X.base CX k f fd ps sp) (hr:zr (k+1) X.A) (hg:Gl X x) (hm:X.mg x=some (.ref C)) (hb:uc X.K fd ps ds) (hd:wg dvs ds) (hx:Ô CX X E)
  (hdb:(x == ("__debug__":Str))=false:=by decide):PE X (.Call (.Name x p) [] [] pos) (ysp C sp dvs E yjy):=by
 refine .mk fun a s σ H Q I h=>?_;refine wpAny_Call_Name_kw (z0 I hg hm ?_ hdb);exact W.callWith_K0 I.kIn M.kp (yco (us:=[]) M F hr hb hd hx I .nil h)
end
section
variable {k:Nat} {f:Addr} {ps ks:List Str} {sp:Sp} {E:XK} {x m:Str} {pos apos kpos:Pos} {o:Expr} {kws:List Keyword} {t tk:TA} {nm:Option Str}
structure vdh (K:W.Frag) (fd:FuncData) (ps ks:List Str) (g:List Value->List Value->List Value) (gV:List V->List V->List V):Prop where
 to:∀ (s:Shared) (us ws:List Value),K.In s.heap->(g us ws).length=ps.length->BindsTo s fd ⟨us,ks.zip ws⟩ (ps.zip (g us ws))
 rel:∀ {vs:List V} {us:List Value} {zs:List V} {ws:List Value},wg vs us->wg zs ws->wg (gV vs zs) (g us ws)
variable {g:List Value->List Value->List Value} {gV:List V->List V->List V}
end
structure yi (N P:List Str) (sc:Scope):Prop where
 kind:sc.kind=.function
 co:sc.isCoroutine=false
 gen:sc.isGenerator=false
 nd:N.Nodup
 pre:N.take P.length=P
 par:∀ x∈P,sc.names.lookup x=some .local\/sc.names.lookup x=some .cell
 nofree:∀ y∈sc.names,y.2≠.free
theorem Ÿ {kindOf:Str->Option NameKind} {x:Str}:∀ {binds:List (Str × Value)} {m:Str->Option Value},(∀ v,(x,v)∉binds)->bindL kindOf binds m x=m x
 | [],_,_=>rfl
 | (n,v) :: r,m,h=>by
  unfold bindL;rw [Ÿ fun w a=>h w (dy _ a)]
  split
  .have:x≠n:=by rintro rfl; exact h v dm
   simp [this]
  .rfl
theorem ŷ {kindOf:Str->Option NameKind} {x:Str}:∀ {binds:List (Str × Value)} {m:Str->Option Value},(∀ v,(x,v)∉binds)->bindC kindOf binds m x=m x
 | [],_,_=>rfl
 | (n,v) :: r,m,h=>by
  unfold bindC;rw [ŷ fun w a=>h w (dy _ a)]
  split
  .rfl
  .have:x≠n:=by rintro rfl; exact h v dm
   simp [this]
theorem Ŭ {kindOf:Str->Option NameKind} {x:Str} {v:Value}:∀ {P:List Str} {vs:List Value} {i:Nat} {m:Str->Option Value},P.Nodup->P[i]?=some x->vs[i]?=some v->kindOf x=some .local ->
  bindL kindOf (P.zip vs) m x=some v
 | [],_,_,_,_,h,_,_=>by simp at h
 | _ :: _,[],_,_,_,_,h,_=>by simp at h
 | p :: P,w :: vs,0,m,nd,h1,h2,hk=>by
  simp at h1 h2; subst h1; subst h2;show bindL kindOf ((p,w) :: P.zip vs) m p=_;unfold bindL;rw [Ÿ fun v a=>(dR.mp nd).1 (List.of_mem_zip a).1,if_pos hk];simp
 | p :: P,w :: vs,i+1,m,nd,h1,h2,hk=>by
  show bindL kindOf ((p,w) :: P.zip vs) m x=_;unfold bindL;exact Ŭ (i:=i) (dR.mp nd).2 (by simpa using h1) (by simpa using h2) hk
theorem ſ {kindOf:Str->Option NameKind} {x:Str} {v:Value}:∀ {P:List Str} {vs:List Value} {i:Nat} {m:Str->Option Value},P.Nodup->P[i]?=some x->vs[i]?=some v->kindOf x≠some .local ->
  bindC kindOf (P.zip vs) m x=some v
 | [],_,_,_,_,h,_,_=>by simp at h
 | _ :: _,[],_,_,_,_,h,_=>by simp at h
 | p :: P,w :: vs,0,m,nd,h1,h2,hk=>by
  simp at h1 h2; subst h1; subst h2;show bindC kindOf ((p,w) :: P.zip vs) m p=_;unfold bindC;rw [ŷ fun v a=>(dR.mp nd).1 (List.of_mem_zip a).1,if_neg hk];simp
 | p :: P,w :: vs,i+1,m,nd,h1,h2,hk=>by
  show bindC kindOf ((p,w) :: P.zip vs) m x=_;unfold bindC;exact ſ (i:=i) (dR.mp nd).2 (by simpa using h1) (by simpa using h2) hk
def Î (N:List Str) (vs:List V):St:=vs.map some++List.replicate (N.length - vs.length) none
def vn (CX:CXT) (P:Program) (w:World) (K:W.Frag) (mg:Str->Option Value) (base:Heap) (N:List Str) (qual:Str) (scope:Scope) (f:Addr) (cd:Value) (A:Around) (outer:List Env) (s:Shared) (H:Hp) (E:XK):Cx where
 prog:=P
 w:=w
 K:=K
 mg:=mg
 base:=base
 A:=A.deeper (envOfC qual scope s.heap.objs.size f cd)
 N:=N
 s₀:=s
 H₀:=H
 env:=envOfC qual scope s.heap.objs.size f cd
 outer:=outer
 stack:=envOfC qual scope s.heap.objs.size f cd :: outer
 ex:=[]
 calm:=true
 fn:=fun _=>true
 pn:=[]
 xe:=fun e s'=>wpAny (model P w) (A.deeper (envOfC qual scope s.heap.objs.size f cd)) (leaving (envOfC qual scope s.heap.objs.size f cd) e) (fun _ s''=>CX outer H s E e s'') (fun e' s''=>CX outer H s E e' s'') s'
def yc7 {sc:Scope} {n:Nat} {x:Str} (h:sc.names.lookup x=some .cell):∃ c,(cellsFrom n sc.names []).lookup x=some c:=by
 have q:=W.cellsFrom_some sc.names n [] (.inl h);exact Option.isSome_iff_exists.mp q
def yhh {w:World} {K:W.Frag} {mg:Str->Option Value} {base:Heap} {N ps:List Str} {qual:Str} {scope:Scope} {f:Addr} {cd:Value} {A:Around} {outer:List Env} {s s1:Shared} {E:XK} 
  (S:yi N ps scope) (hd:A.handled=none) (e0:yug P w K mg base A outer s H) (hl:vs.length=ps.length) (r:wg vs us)
  (x:InCallC s s.heap.objs.size (bindL (envOfC qual scope s.heap.objs.size f cd).kindOf (ps.zip us) fun _=>none) (cellsFrom (s.heap.objs.size+1) scope.names []) (bindC (envOfC qual scope s.heap.objs.size f cd).kindOf (ps.zip us) fun _=>none) s1) :
  Inv (vn CX P w K mg base N qual scope f cd A outer s H E) [] (Î N vs) H s1:=by
 have F:ps.length <= N.length:=by have:=congrArg List.length S.pre; rw [cX] at this; omega
 obtain ⟨t,I,rfl,C⟩:=x.done;have j:∀ b:Addr,b∉(vn CX P w K mg base N qual scope f cd A outer s H E).ex:=fun b z=>absurd (show b∈([]:List Addr) from z) (by simp)
 refine ⟨⟨e0.mod,S.kind,rfl,rfl,cE _,fun y z c t d=>?_,fun y g=>?_,fun y c _ h=>?_,fun _=>hd,Around.frames_deeper e0.frames,.inr ⟨rfl,rfl⟩,fun b z=>absurd z (j b),e0.bs,e0.bsz,fun b _ _=>j b,fun b z=>absurd z (j b),e0.funs,e0.frf⟩,
  rfl,e0.bare,Un.kept C,⟨_,x.toInCall.ns,fun i y v t d J=>?_⟩,fun y c h=>⟨_,x.cell y c h⟩,e0.hok.fresh (cE _),fun y c h=>?_,fun p m=>absurd (show p∈([]:List (Addr × Obj)) from m) (by simp),e0.hok.kept C,?_⟩
 .exact name_of_addr x.apart (PySem.mem_of_lookup t) (PySem.mem_of_lookup d)
 .have g:scope.names.lookup y=some .cell\/scope.names.lookup y=some .free:=g;rcases g with g | g
  .exact yc7 g
  .exact absurd rfl (S.nofree _ (PySem.mem_of_lookup g))
 .exact Nat.le_of_lt (x.above y c (PySem.mem_of_lookup h))
 .have o:i < vs.length:=by
   unfold Î at d;by_cases o:i < vs.length
   .exact o
   .rw [dM (by simpa using o)] at d;rw [List.getElem?_replicate] at d
    split at d <;> cases d
  have D:vs[i]?=some v:=by
   unfold Î at d;rw [List.getElem?_append_left (by simpa using o),cG] at d
   cases e:vs[i]? with
   | none=>rw [e] at d; cases d
   | some a=>rw [e] at d; cases d; rfl
  obtain ⟨u,B,G⟩:=r.get D
  have m:ps[i]?=some y:=by
   rw [<- S.pre,List.getElem?_take_of_lt (by omega)]; exact t
  have l:ps.Nodup:=by rw [<- S.pre]; exact S.nd.sublist (List.take_sublist _ _)
  exists u,G,?_;rcases S.par y (cR m) with k | k
  .exact .inl ⟨k,Ŭ l m B k⟩
  .obtain ⟨c,e⟩:=yc7 (n:=s.heap.objs.size+1) k;refine .inr ⟨.inl k,c,e,?_⟩;have q:=x.cell y c e;rw [ſ l m B (by show scope.names.lookup y≠_; rw [k]; decide)] at q;exact q
 .exact e0.hok.fresh (Nat.le_of_lt (x.above y c (PySem.mem_of_lookup h)))
 .unfold Î;show _=N.length;rw [cF,cA,dW];omega
def ymc {w:World} {K:W.Frag} {mg:Str->Option Value} {base:Heap} {k:Nat} {f:Addr} {name qual:Str} {params:Arguments} {scope:Scope} {dV kV doc pm cdv ct oc:Value} {an od:Option Addr}
  {osl:Array (Option Value)} {N ps:List Str} {sp:Sp} (lk:K.lookup f=some ⟨oc,od,.func (W.fnOf name qual params body scope dV kV doc pm an cdv ct),osl⟩) (hcd:W.codeIn K cdv qual=true) (S:yi N ps scope)
  (len:∀ vs H Q E,sp vs H Q E->vs.length=ps.length)
  (hbody:∀ (A:Around) (outer:List Env) (s:Shared) (H:Hp) (vs:List V) (Q:VK) (E:XK),zr k (A.deeper (envOfC qual scope s.heap.objs.size f cdv))->sp vs H Q E ->
   ∃ t,PSs (vn CX P w K mg base N qual scope f cdv A outer s H E) body t/\t { nx:=fun _ H'=>Q .non H',rt:=Q } (Î N vs) H) :
  vk P w K mg base CX (k+1) f (W.fnOf name qual params body scope dV kV doc pm an cdv ct) ps sp:=by
 exists len,fun A outer s H B C vs Q E m h F r d=>?_;have M:=len _ _ _ _ d;have p:K.In s.heap:=h.mod.kin.keeps fun b o e=>(h.bs b o e).1;have l:s.heap.NoLimit:=h.mod.nolimit.keeps fun b o e=>(h.bs b o e).1
 have a:∀ y∈ps.zip C,scope.names.lookup y.1=some .local\/(scope.names.lookup y.1=some .cell/\((cellsFrom (s.heap.objs.size+1) scope.names []).lookup y.1).isSome=true):=fun ⟨n,v⟩ D=>by
  rcases S.par n (List.of_mem_zip D).1 with q | q
  .exact .inl q
  .exact .inr ⟨q,W.cellsFrom_some _ _ _ (.inl q)⟩
 refine codeAny_call_function m.depth (p _ _ lk) rfl S.co S.gen rfl (W.codeRec_of p hcd) (F _ _ _ _ ?_);refine wpAny_newFunctionEnv_cells S.kind a fun R T z x=>?_;subst T;exists l.keeps x.toInCall.keep,codeAny_func ?_;obtain ⟨t,G,O⟩:=hbody A outer s H vs Q E (m.deeper _) d;have I:Inv (vn CX P w K mg base N qual scope f cdv A outer s H E) [] (Î N vs) H z:=yhh S m.hd h M r x;refine dU (G [] z (Î N vs) H _ I O) (fun L i c=>?_) fun e i c=>c
 have g:∀ {σ':St} {H':Hp} {v:V} {u:Value},Inv (vn CX P w K mg base N qual scope f cdv A outer s H E) [] σ' H' i->xb v u->Q v H'->CE outer P w H s Q u i :=
  fun {σ' H' v u} J j q=>⟨v,H',J.os,J.bare,J.base,J.hok,j,q⟩
 cases L with
 | ret u =>
  obtain ⟨v,σ',H',J,j,q⟩:=c;exact g J j q
 | next =>
  obtain ⟨σ',H',J,q⟩:=c;exact g (v:=V.non) (u:=Value.none) J rfl q
 | brk =>
  obtain ⟨_,_,_,q⟩:=c;exact False.elim q
 | cont =>
  obtain ⟨_,_,_,q⟩:=c;exact False.elim q
section
variable {x:Str} {pos:Pos} {t:TA} {id T:String} {r:List V->Hp->VK->Prop}
def tCB (r:List V->Hp->VK->Prop) (t:TA):TE:=fun σ H Q=>t σ H fun vs H1=>r vs H1 Q
def ykr (hc:uf X (.builtin id) r) (hg:Gl X x) (hm:X.mg x=none) (hv:bootBuiltins x=some (.builtin id)) (ha:PA X (e :: es) t) (hn:x≠"__name__":=by decide) (hdb:(x == ("__debug__":Str))=false:=by decide)
  (he:starEach (e :: es) X.env=(false,eval e X.env) :: starEach es X.env:=by rfl) (hpl:(backTo pos (starEach es X.env)).any (·.1)=false:=by rfl):PE X (.Call (.Name x p) (e :: es) [] pos) (tCB r t):=by
 refine .mk fun a s σ H Q I h=>?_;refine wpAny_Call_Name_kw (ċ I hg hm hv ?_ hn hdb);exact PyProof.Rows.callWith_builtin1 (thn (ha pos a s σ H _ I h) fun b f ⟨i,g,j,c,d⟩=>hc a f σ g i b Q j c d) he hpl
def yfx (hc:uf X (.type T) r) (hg:Gl X x) (hm:X.mg x=none) (hv:bootBuiltins x=some (.type T)) (ha:PA X (e :: es) t) (hn:x≠"__name__":=by decide) (hdb:(x == ("__debug__":Str))=false:=by decide)
  (he:starEach (e :: es) X.env=(false,eval e X.env) :: starEach es X.env:=by rfl) (hpl:(backTo pos (starEach es X.env)).any (·.1)=false:=by rfl):PE X (.Call (.Name x p) (e :: es) [] pos) (tCB r t):=by
 refine .mk fun a s σ H Q I h=>?_;refine wpAny_Call_Name_kw (ċ I hg hm hv ?_ hn hdb);exact PyProof.Rows.callWith_type1 (thn (ha pos a s σ H _ I h) fun b f ⟨i,g,j,c,d⟩=>hc a f σ g i b Q j c d) he hpl
end
end L2
namespace HT
open PySem PyProof.Rows
section
open PySem.SeqAt
open PySem.AutoSeq1 (wpAny_loadPart')
open PySem.MeetsSeq PySem.MeetsSeq2 PySem.MeetsSeq3
end
section
variable {prog:Program} {w:World} {A:Around} {E:Value->Shared->Prop} {s:Shared}
def sIx (n d:Nat):Option Int->Nat
 | none=>d
 | some v=>if v < 0 then (v+(n:Int)).toNat else min v.toNat n
def sIx_none (n d:Nat):sIx n d none=d:=rfl
def sIx_nat (n d k:Nat):sIx n d (some (k:Int))=min k n:=by
 show (if (k:Int) < 0 then ((k:Int)+(n:Int)).toNat else min (k:Int).toNat n)=min k n;rw [if_neg (by omega),Int.toNat_natCast]
def yy2 (n d:Nat) (hd:d <= n) (o:Option Int):sIx n d o <= n:=by
 cases o with
 | none=>exact hd
 | some v =>
  show (if v < 0 then (v+(n:Int)).toNat else min v.toNat n) <= n;by_cases hv:v < 0
  .rw [if_pos hv]; omega
  .rw [if_neg hv]; exact Nat.min_le_right _ _
def yig (v:Int) (n d:Nat):(if v < 0 then max (v+(n:Int)) 0 else min v (n:Int))=((sIx n d (some v):Nat):Int):=by
 show (if v < 0 then max (v+(n:Int)) 0 else min v (n:Int))=(((if v < 0 then (v+(n:Int)).toNat else min v.toNat n):Nat):Int);by_cases hv:v < 0
 .simp only [if_pos hv]; omega
 .simp only [if_neg hv]; omega
def yen (lo hi:Option Int) (n:Nat):Builtin.Slice.sliceAdjust lo hi 1 (n:Int)=(((sIx n 0 lo:Nat):Int),((sIx n n hi:Nat):Int)):=by
 have a:¬ ((1:Int) < 0):=by omega
 unfold Builtin.Slice.sliceAdjust;simp only [a,if_false];refine Prod.ext ?_ ?_
 .cases lo with
  | none=>rfl
  | some v=>exact yig v n 0
 .cases hi with
  | none=>rfl
  | some v=>exact yig v n n
def yet (i j:Nat):Builtin.Slice.slicePlaces (i:Int) (j:Int) 1=j - i:=by
 unfold Builtin.Slice.slicePlaces;have a:(1:Int) > 0:=by omega
 simp only [a,if_true,Int.ediv_one]
 split <;> omega
def Ĥ {v:Value} {o:Option Int} {Q:Option Int->Shared->Prop} (p:IsPart v o) (h:Q o s):wpAny (model prog w) A (Builtin.Slice.slicePartIndex v) Q E s:=by
 cases p with
 | none=>exact slicePart_none h
 | int i t=>exact slicePart_int h
def zt {sl:Addr} {vl vu:Value} {lo hi:Option Int} {n:Nat} {Q:Int × Int × Nat->Shared->Prop} (hs:s.heap.IsSliceOf sl vl vu .none) (pl:IsPart vl lo) (pu:IsPart vu hi)
  (h:Q (((sIx n 0 lo:Nat):Int),1,sIx n n hi - sIx n 0 lo) s):wpAny (model prog w) A (Builtin.Slice.sliceApplied (.ref sl) (pure (n:Int))) Q E s:=by
 obtain ⟨d,a,c,b⟩:=id hs;unfold Builtin.Slice.sliceApplied Builtin.Slice.sliceFields;refine bY (bY (dD a b (x:=vl) rfl (bY (dD a b (x:=vu) rfl (bY (dD a b (x:=.none) rfl (cD ?_)))))));refine bY (slicePart_none ?_);show wpAny _ _ (if ((1:Int) == 0)=true then _ else _) _ _ s;rw [if_neg (by decide)];refine bY (Ĥ pl (bY (Ĥ pu (bY (cD ?_)))))
 show wpAny _ _ (match Builtin.Slice.sliceAdjust lo hi 1 (n:Int) with | (lo,hi)=>pure (lo,(1:Int),Builtin.Slice.slicePlaces lo hi 1)) _ _ s
 rw [yen lo hi n];show wpAny _ _ (pure (((sIx n 0 lo:Nat):Int),(1:Int),Builtin.Slice.slicePlaces ((sIx n 0 lo:Nat):Int) ((sIx n n hi:Nat):Int) 1)) _ _ s;rw [yet];exact cD h
def ylk (xs:Array Value) (i k:Nat):((List.range k).filterMap fun (m:Nat)=>xs[((i:Int)+(m:Int) * 1).toNat]?).toArray=((xs.toList.drop i).take k).toArray:=by
 have e:(fun (m:Nat)=>xs[((i:Int)+(m:Int) * 1).toNat]?)=fun m=>xs[i+m]?:=by
  funext m
  have:((i:Int)+(m:Int) * 1).toNat=i+m:=by omega
  rw [this]
 rw [e];have:=pick_run xs i k;rw [List.filterMap_map] at this;have a:((fun x=>xs[x]?) ∘ fun x=>i+x)=fun m=>xs[i+m]?:=rfl;rw [a] at this;rw [this]
def getItem_tuple_cut {t sl:Addr} {items:Array Value} {vl vu:Value} {lo hi:Option Int} {Q:Value->Shared->Prop} (ht:IsTup s.heap t items) (hs:s.heap.IsSliceOf sl vl vu .none) (pl:IsPart vl lo) (pu:IsPart vu hi)
  (hw:¬ (sIx items.size 0 lo=0/\sIx items.size items.size hi=items.size))
  (h:Q (.ref s.heap.objs.size) { s with heap:=s.heap.push { cls:=.type "tuple",data:=.seq ((items.toList.drop (sIx items.size 0 lo)).take (sIx items.size items.size hi - sIx items.size 0 lo)).toArray } })
  (hsz:items.size <= sizeLine):wpAny (model prog w) A (getItem (.ref t) (.ref sl)) Q E s:=by
 have a:sizeOk (.seq ((items.toList.drop (sIx items.size 0 lo)).take (sIx items.size items.size hi - sIx items.size 0 lo)).toArray):=by
  show ((items.toList.drop (sIx items.size 0 lo)).take (sIx items.size items.size hi - sIx items.size 0 lo)).toArray.size <= sizeLine;rw [cL,cX,dP,dC];omega
 have k:sIx items.size items.size hi <= items.size:=yy2 _ _ (cE _) hi;obtain ⟨g,d,e,f⟩:=id hs;have c:s.TypeIs (.ref sl) "slice":=⟨g,d,e⟩;unfold getItem
 try with_reducible refine wpAny_holding ?_
 first | refine bY (cD ?_) | skip
 refine bY (wpAny_sequenceKey ht.typeIs (by decide) ?_);refine bY (wpAny_callSpecial?_slot (name:=Str.ofString "__getitem__") ht.typeIs PyProof.Rows.slot_tuple_getitem
  (wpAny_call_entry PyProof.Rows.slot_tuple_getitem ht.typeIs entry_tuple_getitem ?_ (args_tuple_getitem _ _)))
 show wpAny _ _ (Builtin.Tuple.tupleItemsOf (.ref t) >>= _) _ _ s;refine bY (tupleItemsOf_ ht ?_);refine bY (wpAny_typeOf c ?_);rw [if_pos (by decide)];refine bY (zt hs pl pu ?_)
 have b:¬ ((((sIx items.size 0 lo:Nat):Int) == 0 && (1:Int) == 1 && (sIx items.size items.size hi - sIx items.size 0 lo) == items.size)=true):=by
  intro q;rw [db,db] at q;have j:((sIx items.size 0 lo:Nat):Int)=0:=eq_of_beq q.1.1;have i:sIx items.size items.size hi - sIx items.size 0 lo=items.size:=eq_of_beq q.2;exact hw ⟨by omega,by omega⟩
 show wpAny _ _ (if (((sIx items.size 0 lo:Nat):Int) == 0 && (1:Int) == 1 && (sIx items.size items.size hi - sIx items.size 0 lo) == items.size)=true then _ else _) _ _ s;rw [if_neg b,ylk]
 first
  | exact bY (m:=Builtin.Tuple.tupleExact _) (wpAny_newObj_type (cD ⟨_,rfl,cD h⟩) a)
  | exact bY (m:=Builtin.Tuple.tupleExact _) (wpAny_newObj_type (bY (cD (cD ⟨_,rfl,cD h⟩))) a)
  | exact bY (bY (m:=Builtin.Tuple.tupleExact _) (wpAny_newObj_type (cD (cD ⟨_,rfl,cD h⟩)) a))
  | exact bY (bY (m:=Builtin.Tuple.tupleExact _) (wpAny_newObj_type (cD ⟨_,rfl,cD h⟩) a))
end
end HT
namespace L2
open PySem PySem.Spec PyProof.Rows
variable {pins:List (Addr × Obj)} {its:List Value} {v:Value}
abbrev TO:=St->Hp->(Option Int->Hp->Prop)->Prop
def PO (X:Cx) (e:Option Expr) (t:TO):Prop :=
 ∀ (pins:List (Addr × Obj)) (s:Shared) (σ:St) (H:Hp) (Q:Option Int->Hp->Prop),Inv X pins σ H s->t σ H Q ->
  wpAny (model X.prog X.w) X.A (evalPart e X.env) (fun u s'=>∃ o H',Inv X pins σ H' s'/\IsPart u o/\Q o H') X.xe s
def yif:TO:=fun _ H Q=>Q none H
def var (t:TE):TO:=fun σ H Q=>t σ H fun x H1=>∃ i,x=.int i/\Q (some i) H1
def yei {ns:List Int}:∀ {us:List Value},wg (ns.map V.int) us->IntsAre us ns:=by
 induction ns with
 | nil=>intro us r; rw [List.map_nil] at r; cases r; exact .nil
 | cons n ns ih =>
  intro us r;rw [di] at r
  cases r with
  | cons r1 r2 =>
   obtain ⟨t,e⟩:=r1;subst e;exact .cons n t (ih r2)
section
variable {X:Cx} {e:Expr} {te:TE} {lo hi:Option Expr} {tl th:TO} {pos p2:Pos}
def zl:PO X none yif:=by
 intro a s σ H Q I h;rw [evalPart_none];exact cD ⟨none,H,I,.none,h⟩
def zn (h:PE X e te):PO X (some e) (var te):=by
 intro a s σ H Q I d;rw [evalPart_some];refine thn (h a s σ H _ I d) fun u j h'=>?_;obtain ⟨x,f,g,b,c⟩:=h';obtain ⟨i,rfl,q⟩:=c;obtain ⟨t,rfl⟩:=b;exists some i,f,g,.int i t,q
def SlR (X:Cx) (r:V->Option Int->Option Int->Hp->VK->Prop):Prop :=
 ∀ (pins:List (Addr × Obj)) (s:Shared) (σ:St) (H:Hp) (x:V) (v vl vu:Value) (lo hi:Option Int) (sl:Addr) (Q:VK),Inv X pins σ H s->xb x v->s.heap.IsSliceOf sl vl vu .none->IsPart vl lo->IsPart vu hi->r x lo hi H Q ->
  ∃ T id,typeLookup (.type T) "__getitem__"=pure (some (.builtin id))/\s.TypeIs v T/\wpAny (model X.prog X.w) X.A (getItem v (.ref sl)) (EP X pins σ Q) X.xe s
def SlR.or {r r':V->Option Int->Option Int->Hp->VK->Prop} (h:SlR X r) (h':SlR X r'):SlR X (fun x lo hi H Q=>r x lo hi H Q\/r' x lo hi H Q):=by
 intro a s σ H x v i g lo hi c Q I d f e b q;rcases q with q | q
 .exact h a s σ H x v i g lo hi c Q I d f e b q
 .exact h' a s σ H x v i g lo hi c Q I d f e b q
def tSl (r:V->Option Int->Option Int->Hp->VK->Prop) (te:TE) (tl th:TO):TE:=fun σ H Q=>te σ H fun x H1=>tl σ H1 fun l H2=>th σ H2 fun u H3=>r x l u H3 Q
def xx {r:V->Option Int->Option Int->Hp->VK->Prop} (hr:SlR X r) (he:PE X e te) (hl:PO X lo tl) (hu:PO X hi th):PE X (.Subscript e (.Slice lo hi none p2) pos) (tSl r te tl th):=by
 refine .mk fun a s σ H Q I h=>?_;refine Subscript_ (thn (he a s σ H _ I h) fun v C h'=>?_);obtain ⟨x,D,y,n,G⟩:=h';refine wpAny_Slice (thn (hl a C σ D _ y G) fun f z ⟨l,J,E,p,i⟩=>thn (hu a z σ J _ E i) fun d c h'=>?_);obtain ⟨u,g,o,m,B⟩:=h';rw [evalPart_none];refine cD ?_;have t:Inv X a σ g { c with heap:=c.heap.push { cls:=.type "slice",data:=.fields #[f,d,.none] } }:=o.kept (t':=c.toks) fun b K q=>cB _ q;obtain ⟨T,id,F,k,j⟩:=hr a { c with heap:=c.heap.push { cls:=.type "slice",data:=.fields #[f,d,.none] } } σ g x v f d l u c.heap.objs.size Q t n (Heap.IsSliceOf.new ..) p m B;show wpAny (model X.prog X.w) X.A (subscriptTail e (.Slice lo hi none p2) v (.ref c.heap.objs.size)) (EP X a σ Q) X.xe { c with heap:=c.heap.push { cls:=.type "slice",data:=.fields #[f,d,.none] } };exact tail_any (ops:=[.ref c.heap.objs.size,v]) k F j (by with_unfolding_all rfl)
def ycl (xs:List V) (lo hi:Option Int):List V:=(xs.drop (HT.sIx xs.length 0 lo)).take (HT.sIx xs.length xs.length hi - HT.sIx xs.length 0 lo)
def ñ (xs:List V) (lo hi:Option Int):(ycl xs lo hi).length <= xs.length:=by
 unfold ycl;rw [cX,dP];omega
def ven (K:W.Frag):V->Option Int->Option Int->Hp->VK->Prop:=fun x lo hi H Q=>∃ a xs,x=.ref a/\SqT K H a xs /\
 ¬ (HT.sIx xs.length 0 lo=0/\HT.sIx xs.length xs.length hi=xs.length)/\∀ p,H p=none->Q (.ref p) (upd H p (.tup (ycl xs lo hi)))
def yyc:SlR X (ven X.K):=by
 intro j s σ H x v z w lo f u Q I m p t k h;obtain ⟨a,d,rfl,l,n,q⟩:=h;cases m;obtain ⟨e,r,g,i⟩:=I.tuple l;have c:e.toArray.size=d.length:=by rw [cL]; exact r.length.symm
 refine ⟨"tuple",_,PyProof.Rows.slot_tuple_getitem.lookup,g.typeIs,?_⟩;refine HT.getItem_tuple_cut g p t k (by rw [c]; exact n) ?_ (by rw [c]; exact i);rw [c];exists .ref s.heap.objs.size,_,I.laid (t':=s.toks) (o:=.tup (ycl d lo f)) (fun b y q=>cB _ q) (cE _) ?_,rfl,q _ (I.hok.fresh (cE _));exists dh (ñ d lo f) i,_,(r.drop (HT.sIx d.length 0 lo)).take (HT.sIx d.length d.length f - HT.sIx d.length 0 lo),IsTup.new _ _
end
def ixN (n:Nat) (i:Int):Option Nat:=if 0 <= i then (if i < n then some i.toNat else none) else if -(n:Int) <= i then some (i+n).toNat else none
def atI {α:Type} (xs:List α) (i:Int):Option α:=(ixN xs.length i).bind fun j=>xs[j]?
def yii {n:Nat} {i:Int} {j:Nat} (h:ixN n i=some j):seqIndex? i n=some j/\j < n/\-(n:Int) <= i/\i < n:=by
 unfold ixN at h;by_cases h0:0 <= i
 .rw [if_pos h0] at h;by_cases h1:i < n
  .rw [if_pos h1] at h;have e:i.toNat=j:=cS h;exists by rw [seqIndex_of h0 h1,e],by omega,by omega,h1
  .rw [if_neg h1] at h; cases h
 .rw [if_neg h0] at h;by_cases h1:-(n:Int) <= i
  .rw [if_pos h1] at h;have e:(i+n).toNat=j:=cS h;exists by rw [seqIndex_neg (by omega) h1,e],by omega,h1,by omega
  .rw [if_neg h1] at h; cases h
def yhr {α:Type} {xs:List α} {i:Int} {v:α} (h:atI xs i=some v):∃ j,seqIndex? i xs.length=some j/\xs[j]?=some v/\j < xs.length/\-(xs.length:Int) <= i/\i < xs.length:=by
 unfold atI at h
 cases e:ixN xs.length i with
 | none=>rw [e] at h; cases h
 | some j =>
  rw [e] at h;obtain ⟨b,c,a,d⟩:=yii e;exists j,b,h,c,a,d
def xa {α:Type} {xs:List α} {j:Nat} {v:α} (h:xs[j]?=some v):atI xs (j:Int)=some v:=by
 have a:j < xs.length:=(cO.mp h).1
 have e:ixN xs.length (j:Int)=some j:=by
  unfold ixN;rw [if_pos (by omega),if_pos (by omega)]; simp
 unfold atI; rw [e]; exact h
def ylp {α:Type} (xs:List α) (v:α):atI (xs++[v]) (-1)=some v:=by
 have a:(xs++[v]).length=xs.length+1:=by simp
 have e:ixN (xs++[v]).length (-1)=some xs.length:=by
  unfold ixN;rw [a,if_neg (by decide),if_pos (by omega)]
  congr 1
  omega
 unfold atI;rw [e];show (xs++[v])[xs.length]?=some v;simp
def yqb (b:Expr):Prop:=∀ o i,subscripted b false o i=operate [o,i] (getItem o i)
def IxR (X:Cx) (r:R2):Prop :=
 ∀ (value slice:Expr) (pins:List (Addr × Obj)) (s:Shared) (σ:St) (H:Hp) (x y:V) (v u:Value) (Q:VK),Inv X pins σ H s->xb x v->xb y u->r x y H Q ->
  subscripted slice false v u=operate [v,u] (getItem v u)->wpAny (model X.prog X.w) X.A (subscriptTail value slice v u) (EP X pins σ Q) X.xe s
def MtR (X:Cx) (id:String) (r:V->List V->Hp->VK->Prop):Prop :=
 ∀ (pins:List (Addr × Obj)) (s:Shared) (σ:St) (H:Hp) (x:V) (xs:List V) (v:Value) (us:List Value) (Q:VK),Inv X pins σ H s->xb x v->wg xs us->r x xs H Q ->
  wpAny (model X.prog X.w) X.A (call (.builtin id) (v :: us)) (EP X pins σ Q) X.xe s
section
variable {X:Cx} {a b:Expr} {ta tb:TE} {pos:Pos}
def ud {r:R2} (hr:IxR X r) (ha:PE X a ta) (hb:PE X b tb) (hs:yqb b):PE X (.Subscript a b pos) (tOp r ta tb):=by
 refine .mk fun c s σ H Q I h=>?_;exact Subscript_ (vay ha hb I h fun v u g x y i f e d q=>hr a b c g σ i x y v u Q f e d q (hs _ _))
def vdq (K:W.Frag):R2:=fun x y H Q=>∃ p xs i v,x=.ref p/\y=.int i/\SqL K H p xs/\atI xs i=some v/\Q v H
def vdm (K:W.Frag):R2:=fun x y H Q=>∃ p xs i v,x=.ref p/\y=.int i/\SqT K H p xs/\atI xs i=some v/\Q v H
def xv:IxR X (vdq X.K):=by
 intro d k a s σ H x y v u Q I E A h m;obtain ⟨p,N,i,z,rfl,rfl,F,G,q⟩:=h;cases E;obtain ⟨t,rfl⟩:=A;obtain ⟨f,r,g,O⟩:=I.list F;obtain ⟨j,c,J,L,D,C⟩:=yhr G;obtain ⟨w,n,l⟩:=r.get J;have B:=r.length;have M:=yah;have b:EP X a σ Q w s:=⟨z,H,I,l,q⟩;by_cases h0:0 <= i
 .have e:i.toNat=j:=by
   rw [seqIndex_of h0 C] at c;exact cS c
  exact item_listR g.isList h0 (by omega) (by rw [e]; simpa using n) b m
 .have e:(i+(f.toArray.size:Int)).toNat=j:=by
   rw [seqIndex_neg (by omega) D] at c;rw [cL,<- B];exact cS c
  exact subscriptTail_builtinR (x:=w) g.isList.typeIs slot_list_getitem.lookup
   (wpAny_getItem_list_neg (Q:=fun r o=>r=w/\EP X a σ Q r o) g.isList (by omega) (by rw [cL] <;> omega) (by omega) (by rw [e]; simpa using n) ⟨rfl,b⟩) m
def z8:IxR X (vdm X.K):=by
 intro b d a s σ H x y v u Q I B m h g;obtain ⟨p,M,i,z,rfl,rfl,C,D,q⟩:=h;cases B;obtain ⟨t,rfl⟩:=m;obtain ⟨l,r,f,N⟩:=I.tuple C;obtain ⟨j,n,E,F,L,G⟩:=yhr D;obtain ⟨w,o,e⟩:=r.get E;have A:=r.length;have J:=yah;have c:EP X a σ Q w s:=⟨z,H,I,e,q⟩;exact subscriptTail_builtinR (x:=w) f.typeIs slot_tuple_getitem.lookup
  (getItem_tuple (j:=j) (Q:=fun r k=>r=w/\EP X a σ Q r k) f (by omega) (by omega) (by rw [cL,<- A]; exact n) (by simpa using o) ⟨rfl,c⟩) g
def ye8 (its:List Value) (n j:Nat) (u:Value):Obj.mapSeq (·.setIfInBounds j u) { cls:=.type "list",data:=.seq its.toArray n }={ cls:=.type "list",data:=.seq (its.set j u).toArray n }:=by
 simp [Obj.mapSeq]
theorem Inv.lst {σ:St} {H:Hp} {s:Shared} {p:Addr} {xs:List V} (I:Inv X pins σ H s) (h:H p=some (.lst xs)) :
  ∃ (its:List Value) (n:Nat),wg xs its/\s.heap.get? p=some { cls:=.type "list",data:=.seq its.toArray n }/\xs.length <= sizeLine:=by
 obtain ⟨z,its,n,r,e⟩:=I.hok p _ h;exists its,n,r,e,z
def Inv.lstUpd {σ:St} {H:Hp} {s:Shared} {p:Addr} {xs ys:List V} {its':List Value} {n n':Nat} {f:Obj->Obj} (I:Inv X pins σ H s) (h:H p=some (.lst xs))
  (ho:s.heap.get? p=some { cls:=.type "list",data:=.seq its.toArray n }) (hf:f { cls:=.type "list",data:=.seq its.toArray n }={ cls:=.type "list",data:=.seq its'.toArray n' }) (r:wg ys its') (hz:ys.length <= sizeLine) (t:Nat) :
  Inv X pins σ (upd H p (.lst ys)) { s with heap:=s.heap.update p f,toks:=t }:=by
 have e:(s.heap.update p f).get? p=some { cls:=.type "list",data:=.seq its'.toArray n' }:=by
  rw [Heap.get?_update_self f ho (by rw [hf] <;> rfl),hf]
 refine I.write (x:=p) (e:=p) (by rw [h]; trivial) (.inl rfl) (fun b u a q=>(Heap.get?_update_other _ _ (Ne.symm a)).trans q) ⟨_,e⟩ ?_;exists hz,its',n',r,e
def vbu:V->V->V->Hp->(Hp->Prop)->Prop:=fun o i v H Q=>∃ p xs k j,o=.ref p/\i=.int k/\H p=some (.lst xs)/\ixN xs.length k=some j/\Q (upd H p (.lst (xs.set j v)))
def ylu:vd1 X vbu:=by
 intro b s σ H o i v D E u Q I A C z h;obtain ⟨p,y,k,j,rfl,rfl,m,x,q⟩:=h;cases A;obtain ⟨t,rfl⟩:=C;obtain ⟨a,n,r,e,B⟩:=I.lst m;obtain ⟨c,G,g,l⟩:=yii x;have d:=r.length;have F:=yah
 have w:Inv X b σ (upd H p (.lst (y.set j v))) { s with heap:=s.heap.update p (Obj.mapSeq (·.setIfInBounds j u)) } :=
  I.lstUpd m e (ye8 a n j u) (r.set z j) (by rw [List.length_set]; exact B) s.toks
 by_cases h0:0 <= k
 .have f:k.toNat=j:=by
   rw [seqIndex_of h0 l] at c;exact cS c
  exact W.ki_setAt e h0 (by omega) (by rw [cL,<- d]; exact l) (by rw [f]; exact ⟨_,w,q⟩)
 .have f:(k+(a.toArray.size:Int)).toNat=j:=by
   rw [seqIndex_neg (by omega) g] at c;rw [cL,<- d];exact cS c
  exact W.ki_setBack e (by omega) (by rw [cL,<- d]; exact g) (by omega) (by rw [f]; exact ⟨_,w,q⟩)
def Ť (lo hi:Option Int) (n:Nat):(sliceBounds lo hi none n).1=((HT.sIx n 0 lo:Nat):Int)/\(sliceBounds lo hi none n).2.1=((HT.sIx n n hi:Nat):Int)/\(sliceBounds lo hi none n).2.2=1:=by
 exists ?_,?_,rfl
 .cases lo with
  | none=>simp [sliceBounds,HT.sIx]
  | some i =>
   simp only [sliceBounds,HT.sIx,Option.getD_none,show (1:Int) > 0 by decide,if_true];by_cases h:i < 0
   .simp only [h,if_true] <;> omega
   .simp only [h,if_false] <;> omega
 .cases hi with
  | none=>simp [sliceBounds,HT.sIx]
  | some i =>
   simp only [sliceBounds,HT.sIx,Option.getD_none,show (1:Int) > 0 by decide,if_true];by_cases h:i < 0
   .simp only [h,if_true] <;> omega
   .simp only [h,if_false] <;> omega
def ı (its:List Value) (lo hi:Option Int):slicePick its.toArray lo hi none=((its.drop (HT.sIx its.length 0 lo)).take (HT.sIx its.length its.length hi - HT.sIx its.length 0 lo)).toArray:=by
 obtain ⟨b,c,a⟩:=Ť lo hi its.toArray.size;unfold slicePick;rw [b,c,a];simp only [sliceRange_one,pick_run,cL] <;> rfl
def vd6 (K:W.Frag):V->Option Int->Option Int->Hp->VK->Prop:=fun x lo hi H Q=>∃ a xs,x=.ref a/\SqL K H a xs/\∀ p,H p=none->Q (.ref p) (upd H p (.lst (ycl xs lo hi)))
def Ç:SlR X (vd6 X.K):=by
 intro g s σ H x v y u lo e t Q I m p n j h;obtain ⟨a,c,rfl,l,q⟩:=h;cases m;obtain ⟨i,r,f,k⟩:=I.list l;have d:=r.length;refine ⟨"list",_,slot_list_getitem.lookup,f.isList.typeIs,?_⟩;refine wpAny_getItem_list_slice f.isList p n j .none (by simp) ?_ (by rw [cL] <;> omega);rw [ı,<- d];exists .ref s.heap.objs.size,_,I.laid (t':=s.toks) (o:=.lst (ycl c lo e)) (fun b w q=>cB _ q) (cE _) ?_,rfl,q _ (I.hok.fresh (cE _));exists dh (ñ c lo e) k,_,0,(r.drop (HT.sIx c.length 0 lo)).take (HT.sIx c.length c.length e - HT.sIx c.length 0 lo),cJ _ rfl
def yaq:V->Bool
 | .non=>true
 | .bl _=>true
 | .int _=>true
 | .str _=>true
 | _=>false
def eqV:V->V->Bool
 | .non,.non=>true
 | .bl a,.bl b=>a == b
 | .bl a,.int b=>(if a then 1 else 0) == b
 | .int a,.bl b=>a == (if b then 1 else 0)
 | .int a,.int b=>a == b
 | .str a,.str b=>a == b
 | _,_=>false
def yyi {A:Around} {s:Shared} {y x:V} {u:Value} (ry:xb y u) (rx:xb x v) (fy:yaq y=true) (fx:yaq x=true):SeqAt.EqAt A s u v (eqV y x):=by
 cases y with
 | non =>
  cases ry
  cases x with
  | non=>cases rx; exact SeqAt.EqAt.same _
  | bl b=>cases rx; exact SeqAt.EqAt.none_bool b
  | int b=>obtain ⟨t,rfl⟩:=rx; exact SeqAt.EqAt.none_int b t
  | str b=>obtain ⟨t,rfl⟩:=rx; exact SeqAt.EqAt.none_str b t
  | _=>exact absurd (show false=true from fx) cN
 | bl a =>
  cases ry
  cases x with
  | non=>cases rx; exact SeqAt.EqAt.bool_none a
  | bl b=>cases rx; exact SeqAt.EqAt.bool_bool a b
  | int b=>obtain ⟨t,rfl⟩:=rx; exact SeqAt.EqAt.bool_int a b t
  | str b=>obtain ⟨t,rfl⟩:=rx; exact SeqAt.EqAt.bool_str a b t
  | _=>exact absurd (show false=true from fx) cN
 | int a =>
  obtain ⟨c,rfl⟩:=ry
  cases x with
  | non=>cases rx; exact SeqAt.EqAt.int_none a c
  | bl b=>cases rx; exact SeqAt.EqAt.int_bool a c b
  | int b=>obtain ⟨t,rfl⟩:=rx; exact SeqAt.EqAt.int_int a c b t
  | str b=>obtain ⟨t,rfl⟩:=rx; exact SeqAt.EqAt.int_str a c b t
  | _=>exact absurd (show false=true from fx) cN
 | str a =>
  obtain ⟨c,rfl⟩:=ry
  cases x with
  | non=>cases rx; exact SeqAt.EqAt.str_none a c
  | bl b=>cases rx; exact SeqAt.EqAt.str_bool a c b
  | int b=>obtain ⟨t,rfl⟩:=rx; exact SeqAt.EqAt.str_int a c b t
  | str b=>obtain ⟨t,rfl⟩:=rx; exact SeqAt.EqAt.str_str a c b t
  | _=>exact absurd (show false=true from fx) cN
 | _=>exact absurd (show false=true from fy) cN
def eqU (x:V) (u:Value):Bool:=match u with
 | .none=>eqV .non x
 | .bool b=>eqV (.bl b) x
 | .int i _=>eqV (.int i) x
 | .str z _=>eqV (.str z) x
 | _=>false
def ymq {x y:V} {u:Value} (r:xb y u) (f:yaq y=true):eqU x u=eqV y x:=by
 cases y with
 | non=>cases r; rfl
 | bl b=>cases r; rfl
 | int i=>obtain ⟨t,rfl⟩:=r; rfl
 | str z=>obtain ⟨t,rfl⟩:=r; rfl
 | _=>exact absurd (show false=true from f) cN
theorem ybz {x:V}:∀ {xs:List V} {us:List Value},wg xs us->xs.all yaq=true->us.any (eqU x)=xs.any fun y=>eqV y x
 | _,_,.nil,_=>rfl
 | y :: xs,u :: us,.cons r t,f=>by
  rw [List.all_cons,db] at f;rw [List.any_cons,List.any_cons,ymq r f.1,ybz t f.2]
theorem ő {A:Around} {s:Shared} {x:V} (rx:xb x v) (fx:yaq x=true):∀ {xs:List V} {us:List Value},wg xs us->xs.all yaq=true->∀ u∈us,SeqAt.EqAt A s u v (eqU x u)
 | _,_,.nil,_=>fun u a=>by cases a
 | y :: xs,u :: us,.cons r t,f=>fun b a=>by
  rw [List.all_cons,db] at f;rcases cT.mp a with rfl | a
  .rw [ymq r f.1]; exact yyi r rx f.1 fx
  .exact ő rx fx t f.2 b a
def inV (x:V) (xs:List V):Bool:=xs.any fun y=>eqV y x
def rIn (K:W.Frag) (neg:Bool):R2:=fun x y H Q=>∃ p xs,y=.ref p/\(SqL K H p xs\/SqT K H p xs)/\yaq x=true/\xs.all yaq=true/\Q (.bl (if neg then !inV x xs else inV x xs)) H
def yg2:OpR X (compareOp .In) (rIn X.K false):=by
 intro g s σ H x y v u Q I i j h;obtain ⟨p,l,rfl,b,f,c,q⟩:=h;cases j;rcases b with b | b
 .obtain ⟨a,r,d,k⟩:=I.list b;refine SeqAt.in_listAt (eqU x) d.isList (fun w e=>ő i f r c w (by simpa using e)) ⟨.bl _,H,I,rfl,?_⟩;rw [show a.toArray.any (eqU x)=a.any (eqU x) by simp,ybz r c];exact q
 .obtain ⟨a,r,d,k⟩:=I.tuple b;refine SeqAt.in_tupleAt (eqU x) d (fun w e=>ő i f r c w (by simpa using e)) ⟨.bl _,H,I,rfl,?_⟩;rw [show a.toArray.any (eqU x)=a.any (eqU x) by simp,ybz r c];exact q
def yr:uf X (.builtin "len") (fun xs H Q=>∃ p ys,xs=[.ref p]/\(SqL X.K H p ys\/SqT X.K H p ys)/\Q (.int ys.length) H):=by
 intro f s σ H xs j Q I r h;obtain ⟨p,ys,rfl,b,q⟩:=h;obtain ⟨u,rfl,i⟩:=jk r;cases i;have k:=yah;rcases b with b | b
 .obtain ⟨c,d,e,g⟩:=I.list b;have a:=d.length;exact Calls.call_len_list e.isList (by simp only [cL] <;> omega) ⟨.int ys.length,H,I.tok _,⟨s.toks+1,by rw [cL,a]⟩,q⟩
 .obtain ⟨c,d,e,g⟩:=I.tuple b;have a:=d.length;exact len_tuple e (by simp only [cL] <;> omega) ⟨.int ys.length,H,I.tok _,⟨s.toks+1,by rw [cL,a]⟩,q⟩
def Ï:uf X (.builtin "len") (fun xs H Q=>∃ z,xs=[.str z]/\z.length <= sizeLine/\Q (.int z.length) H):=by
 intro a s σ H xs b Q I r h;obtain ⟨z,rfl,c,q⟩:=h;obtain ⟨u,rfl,t,rfl⟩:=jk r;have d:=yah;exact len_str (by omega) ⟨.int z.length,H,I.tok _,⟨_,rfl⟩,q⟩
def vt:uf X (.type "list") (fun xs H Q=>∃ p ys,xs=[.ref p]/\(SqL X.K H p ys\/SqT X.K H p ys)/\∀ l,H l=none->Q (.ref l) (upd H l (.lst ys))):=by
 intro j s σ H xs B Q I r h;obtain ⟨p,ys,rfl,k,q⟩:=h;obtain ⟨u,rfl,A⟩:=jk r;cases A;have i:∀ (a:List Value),wg ys a->ys.length <= sizeLine->∀ (c:Heap) (d:Nat),(∀ b o',s.heap.get? b=some o'->c.get? b=some o') ->
   c.get? s.heap.objs.size=some { cls:=.type "list",dict:=none,data:=.seq a.toArray d,slots:=#[] }->EP X j σ Q (.ref s.heap.objs.size) { s with heap:=c }:=fun a f g c d m e =>
  ⟨.ref s.heap.objs.size,_,I.laid (t':=s.toks) m (cE _) (show wq X.prog X.w _ c _ (.lst ys) from ⟨g,a,d,f,e⟩),rfl,q _ (I.hok.fresh (cE _))⟩
 rcases k with k | k
 .obtain ⟨a,f,x,g⟩:=I.list k;have t:=f.length;obtain ⟨o,z,v,n,y⟩:=x.isList;exact call_list_seq p (.inl rfl) z v y (fun c d m e=>i a f g c d m e) (by simp only [cL] <;> omega)
 .obtain ⟨a,f,x,g⟩:=I.tuple k;have t:=f.length;obtain ⟨o,z,v,n,y⟩:=x;exact call_list_seq p (.inr rfl) z v y (fun c d m e=>i a f g c d m e) (by simp only [cL] <;> omega)
def γ:uf X (.type "tuple") (fun xs H Q=>∃ p ys,xs=[.ref p]/\((SqL X.K H p ys/\∀ l,H l=none->Q (.ref l) (upd H l (.tup ys)))\/(SqT X.K H p ys/\Q (.ref p) H))):=by
 intro a s σ H xs x Q I r h;obtain ⟨p,ys,rfl,h⟩:=h;obtain ⟨u,rfl,n⟩:=jk r;cases n;rcases h with ⟨i,q⟩ | ⟨i,q⟩
 .obtain ⟨c,f,g,j⟩:=I.list i;have m:=f.length;refine call_tuple_list g.isList (fun d t=>?_) (by simp only [cL] <;> omega);have k:Inv X a σ H { s with heap:=d }:=I.kept (t':=s.toks) t
  have v:Inv X a σ (upd H d.objs.size (.tup ys)) { s with heap:=d.push { cls:=.type "tuple",data:=.seq c.toArray } } :=
   k.laid (t':=s.toks) (fun b o e=>cB _ e) (cE _) (show wq X.prog X.w _ _ _ (.tup ys) from ⟨j,c,f,IsTup.new _ _⟩)
  exists .ref d.objs.size,_,v,rfl,q _ (k.hok.fresh (cE _))
 .obtain ⟨c,f,g,j⟩:=I.tuple i;exact call_tuple_same g ⟨.ref p,H,I,rfl,q⟩
def tyV (K:W.Frag) (T:String) (x:V) (H:Hp):Prop:=match x with
 | .str _=>T="str"
 | .int _=>T="int"
 | .ref p=>(T="list"/\∃ xs,SqL K H p xs)\/(T="tuple"/\∃ o,K.lookup p=some o/\o.cls=.type "tuple"/\o.dict=none) \/
   (T="dict"/\((∃ kvs,H p=some (.dK kvs))\/∃ kvs,H p=some (.dT kvs)))\/(T="set"/\∃ S n,H p=some (.set S n))
 | _=>False
def yoi {σ:St} {H:Hp} {s:Shared} {T:String} {x:V} (I:Inv X pins σ H s) (r:xb x v) (ty:tyV X.K T x H) :
  s.TypeIs v T/\∀ a,v=.ref a->∃ ob,s.heap.get? a=some ob/\ob.dict=none:=by
 cases x with
 | str z =>
  obtain ⟨t,rfl⟩:=r;cases (show T="str" from ty)
  exists typeIs_str s z t,fun _ e=>nomatch e
 | int i =>
  obtain ⟨t,rfl⟩:=r;cases (show T="int" from ty)
  exists typeIs_int s i t,fun _ e=>nomatch e
 | ref p =>
  cases r;rcases ty with ⟨rfl,q,m⟩ | ⟨rfl,o,b,l,h⟩ | ⟨rfl,b⟩ | ⟨rfl,S,n,b⟩
  .obtain ⟨k,_,j,_⟩:=I.list m;exists j.isList.typeIs,fun a e=>?_;cases e;obtain ⟨o,n,e,c,h,_⟩:=j;exact ⟨o,e,h⟩
  .exists ⟨o,I.kIn p o b,l⟩,fun a e=>?_;cases e;exists o,I.kIn _ o b,h
  .have z:∃ o,s.heap.get? p=some o/\o.ExactDict:=by
    rcases b with ⟨f,b⟩ | ⟨f,b⟩
    .obtain ⟨_,_,_,_,o,_,_,e,d,_⟩:=I.hok p _ b;exact ⟨o,e,d⟩
    .obtain ⟨_,_,_,_,o,_,_,e,d,_⟩:=I.hok p _ b;exact ⟨o,e,d⟩
   obtain ⟨o,e,d⟩:=z;exists ⟨o,e,d.1⟩,fun a g=>?_;cases g;exact ⟨o,e,d.2.1⟩
  .obtain ⟨o,_,_,_,e,d,_⟩:=I.hok p _ b;exists ⟨o,e,d.1⟩,fun a g=>?_;cases g;exact ⟨o,e,d.2.1⟩
 | _=>exact False.elim ty
def vd3 (K:W.Frag) (T:String) (r:V->List V->Hp->VK->Prop) (to:TE):TE:=fun σ H Q=>to σ H fun x H1=>tyV K T x H1/\r x [] H1 Q
def tBM (K:W.Frag) (T:String) (r:V->List V->Hp->VK->Prop) (to:TE) (t:TA):TE:=fun σ H Q=>to σ H fun x H1=>tyV K T x H1/\t σ H1 fun xs H2=>r x xs H2 Q
variable {o e:Expr} {es:List Expr} {to:TE} {t:TA} {name:Str} {apos cpos:Pos} {T id:String} {r:V->List V->Hp->VK->Prop}
def yjn (pa:PlainAttrs T) (slot:Slot T name id) (hty:typeOf (.builtin id)=pure (.type "method_descriptor")) (hm:MtR X id r) (ho:PE X o to)
  (hbase:attributeBase o name X.env (eval o X.env)=eval o X.env:=by rfl) (hline:(apos.endLine == cpos.line)=true:=by rfl):PE X (.Call (.Attribute o name apos) [] [] cpos) (vd3 X.K T r to):=by
 refine .mk fun a s σ H Q I h=>?_;refine wpAny_Call_method0_late hbase hline (thn (ho a s σ H _ I h) fun v g h'=>?_);obtain ⟨x,i,c,b,d,f⟩:=h';obtain ⟨e,j⟩:=yoi c b d;exists T,id,pa,slot,hty,e,j,Calls.callWith_builtin rfl (PySem.evalArgs_none (hm a g σ i x [] v [] Q c b .nil f))
def Č (pa:PlainAttrs T) (slot:Slot T name id) (hty:typeOf (.builtin id)=pure (.type "method_descriptor")) (hm:MtR X id r) (ho:PE X o to) (ha:PA X (e :: es) t)
  (hbase:attributeBase o name X.env (eval o X.env)=eval o X.env:=by rfl)
  (hfew:((backTo cpos (starEach (e :: es) X.env)).all (fun x=>!x.1) && (backToKw cpos (keywordEach [] X.env)).all (fun x=>x.1.isSome)
   && decide ((e :: es).length+([]:List Keyword).length+(if ([]:List Keyword).isEmpty then 0 else 1) < 30))=true:=by rfl)
  (hline:(apos.endLine == cpos.line)=true:=by rfl) (hs:starEach (e :: es) X.env=(false,eval e X.env) :: starEach es X.env:=by rfl) (hplain:(backTo cpos (starEach es X.env)).any (·.1)=false:=by rfl) :
  PE X (.Call (.Attribute o name apos) (e :: es) [] cpos) (tBM X.K T r to t):=by
 refine .mk fun a s σ H Q I h=>?_;refine wpAny_Call_method_late hbase hfew hline rfl (thn (ho a s σ H _ I h) fun v l h'=>?_);obtain ⟨x,n,d,b,g,k⟩:=h';obtain ⟨j,y⟩:=yoi d b g;exists T,id,pa,slot,hty,j,y,?_;have c:=ha cpos a l σ n _ d k;rw [hs] at c ⊢;refine Calls.callWith_builtin (by show (false || (backTo cpos (starEach es X.env)).any (·.1))=false; rw [hplain] <;> rfl) (Calls.evalArgs_plain ?_);exact thn c fun f u ⟨p,w,q,m,i⟩=>hm a u σ w x p v f Q q b m i
end
def MtM (X:Cx) (id:String) (r:V->List V->Hp->VK->Prop):Prop :=
 ∀ (pins:List (Addr × Obj)) (s:Shared) (σ:St) (H:Hp) (x:V) (xs:List V) (v:Value) (us:List Value) (Q:VK),Inv X pins σ H s->xb x v->wg xs us->r x xs H Q ->
  wpAny (model X.prog X.w) X.A (call (.builtin id) (v :: us)) (EP X pins σ Q) X.xe s
theorem wg.one:∀ {x:V} {us:List Value},wg [x] us->∃ u,us=[u]/\xb x u
 | _,_,.cons r .nil=>⟨_,rfl,r⟩
theorem wg.zero:∀ {us:List Value},wg [] us->us=[]
 | _,.nil=>rfl
theorem wg.reverse {xs:List V} {us:List Value} (h:wg xs us):wg xs.reverse us.reverse:=by
 induction h with
 | nil=>exact .nil
 | cons r t ih=>rw [List.reverse_cons,List.reverse_cons]; exact wg.append ih (.cons r .nil)
theorem wg.rep {xs:List V} {us:List Value} (h:wg xs us):∀ k:Nat,wg (List.replicate k xs).flatten (List.replicate k us).flatten
 | 0=>.nil
 | k+1=>by
  rw [dB,dB,List.flatten_cons,List.flatten_cons];exact wg.append h (wg.rep h k)
theorem ŭ (its:List Value):∀ (k:Nat) (acc:List Value),
  List.foldl (fun x1 x2=>x1++x2) acc.toArray (List.replicate k its.toArray)=(acc++(List.replicate k its).flatten).toArray
 | 0,acc=>by simp
 | k+1,acc=>by
  have e:acc.toArray++its.toArray=(acc++its).toArray:=by simp
  have a:(acc++its)++(List.replicate k its).flatten=acc++(List.replicate (k+1) its).flatten:=by
   rw [dB,List.flatten_cons,du]
  rw [<- a,<- ŭ its k (acc++its),<- e,dB,List.foldl_cons]
section
variable {X:Cx} {σ:St} {H:Hp} {s:Shared} {l b:Addr} {xs ys zs:List V}
def Inv.lset {its':List Value} {n:Nat} {f:Array Value->Array Value} {t':Nat} (I:Inv X pins σ H s) (hH:H l=some (.lst xs))
  (e:s.heap.get? l=some { cls:=.type "list",data:=.seq its.toArray n }) (hf:f its.toArray=its'.toArray) (hv:wg ys its') (hz:ys.length <= sizeLine) :
  Inv X pins σ (upd H l (.lst ys)) { s with heap:=s.heap.update l (Obj.mapSeq f),toks:=t' }:=by
 have q:=PySem.IsL.update e f;rw [hf] at q;refine I.write (x:=l) (e:=l) (by rw [hH]; exact trivial) (.inl rfl) (fun c u b a=>(Heap.get?_update_other s.heap (Obj.mapSeq f) (Ne.symm b)).trans a) ⟨_,q⟩ ?_;exists hz,its',_,hv,q
def Inv.lnew {t':Nat} (I:Inv X pins σ H s) (hv:wg ys its) (hz:ys.length <= sizeLine) :
  Inv X pins σ (upd H s.heap.objs.size (.lst ys)) { s with heap:=s.heap.push { cls:=.type "list",data:=.seq its.toArray },toks:=t' } :=
 I.laid (fun _ _ q=>cB _ q) (cE _) ⟨hz,its,0,hv,cJ _ rfl⟩
theorem Inv.fresh (I:Inv X pins σ H s):H s.heap.objs.size=none:=I.hok.fresh (cE _)
def Inv.lstM (I:Inv X pins σ H s) (hH:H l=some (.lst xs)):xs.length <= sizeLine/\∃ (its:List Value) (n:Nat),wg xs its/\xs.length=its.length/\s.heap.get? l=some { cls:=.type "list",data:=.seq its.toArray n }:=by
 obtain ⟨z,its,n,r,e⟩:=I.hok l _ hH;exists z,its,n,r,r.length,e
def ydc {n:Nat} (h:n <= sizeLine):Builtin.List.listTooLong n=false:=by
 unfold Builtin.List.listTooLong;exact cP (by omega)
end
section
variable {X:Cx}
def yh7:V->List V->Hp->VK->Prop:=fun x vs H Q=>∃ l xs y,x=.ref l/\vs=[y]/\H l=some (.lst xs)/\xs.length < sizeLine/\Q .non (upd H l (.lst (xs++[y])))
def xg:MtM X "list.append" yh7:=by
 intro b s σ H x m v i Q I f g h;obtain ⟨l,k,y,rfl,rfl,c,j,q⟩:=h;cases f;obtain ⟨u,rfl,d⟩:=g.one;obtain ⟨z,a,n,r,o,e⟩:=I.lstM c;refine call_meets F.slot_list_append ⟨_,e,rfl⟩ F.entry_list_append (F.args_list_append_2 _ _) (PySem.list_append l a.toArray n u (by rw [cL]; omega)) ⟨e,?_⟩;exists .non,_,I.lset (its':=a++[u]) c e (by simp) (r.append (.cons d .nil)) ?_,rfl,q;rw [cF,dE];omega
def yqh:V->List V->Hp->VK->Prop:=fun x vs H Q=>∃ l b xs zs,x=.ref l/\vs=[.ref b]/\H l=some (.lst xs)/\H b=some (.lst zs)/\xs.length+zs.length <= sizeLine/\Q .non (upd H l (.lst (xs++zs)))
def yf5:MtM X "list.extend" yqh:=by
 intro i s σ H x C v A Q I p w h;obtain ⟨l,b,E,B,rfl,rfl,g,t,G,q⟩:=h;cases p;obtain ⟨u,rfl,o⟩:=w.one;cases o;obtain ⟨z,c,n,r,D,e⟩:=I.lstM g;obtain ⟨J,a,k,y,j,m⟩:=I.lstM t;have f:c.toArray.size+a.toArray.size <= sizeLine:=by rw [cL,cL]; omega
 have d:¬ (!c.toArray.isEmpty && Builtin.List.listTooLong (c.toArray.size+a.toArray.size))=true:=by
  rw [ydc f,Bool.and_false];exact cN
 refine call_meets F.slot_list_extend ⟨_,e,rfl⟩ F.entry_list_extend (F.args_list_extend_2 _ _)
  (AutoSeq1.list_extend_list_list_0 l c.toArray n b a.toArray k d (by rw [cL]; omega) (by omega)) ⟨e,m,?_⟩
 exists .non,_,I.lset (its':=c++a) g e (by simp) (r.append y) ?_,rfl,q;rw [cF];omega
def ydh:V->List V->Hp->VK->Prop:=fun x vs H Q=>∃ l xs,x=.ref l/\vs=[]/\H l=some (.lst xs)/\Q .non (upd H l (.lst xs.reverse))
def ģ:MtM X "list.reverse" ydh:=by
 intro c s σ H x k v i Q I f g h;obtain ⟨l,j,rfl,rfl,d,q⟩:=h;cases f;have b:=g.zero;subst b;obtain ⟨z,a,n,r,m,e⟩:=I.lstM d;refine call_meets F.slot_list_reverse ⟨_,e,rfl⟩ F.entry_list_reverse (F.args_list_reverse_1 _) (AutoSeq1.list_reverse_list_0 l a.toArray n (by rw [cL]; omega)) ⟨e,?_⟩;exists .non,_,I.lset (its':=a.reverse) d e (by simp) r.reverse ?_,rfl,q;rw [List.length_reverse];omega
def veu:R2:=fun x y H Q=>∃ l b xs zs,x=.ref l/\y=.ref b/\H l=some (.lst xs)/\H b=some (.lst zs)/\xs.length+zs.length <= sizeLine/\∀ p,H p=none->Q (.ref p) (upd H p (.lst (xs++zs)))
def yn7:OpR X (binaryOp .Add) veu:=by
 intro d s σ H x y v u Q I i f h;obtain ⟨l,b,A,C,rfl,rfl,o,m,t,q⟩:=h;cases i;cases f;obtain ⟨z,c,n,r,B,e⟩:=I.lstM o;obtain ⟨D,a,w,p,g,j⟩:=I.lstM m;refine PySem.P.add_list e j ?_ (by rw [cL,cL]; omega);have k:c.toArray++a.toArray=(c++a).toArray:=by simp
 rw [k];exists .ref _,_,I.lnew (t':=s.toks) (r.append p) (by rw [cF]; omega),rfl,q _ I.fresh
def vev:R2:=fun x y H Q=>∃ l k xs,x=.ref l/\y=.int k/\H l=some (.lst xs)/\-(2 ^ 63) <= k/\k < 2 ^ 63/\xs.length * k.toNat <= sizeLine /\
 ∀ p,H p=none->Q (.ref p) (upd H p (.lst (List.replicate k.toNat xs).flatten))
def yo9 {α:Type} (xs:List α) (k:Nat):(List.replicate k xs).flatten.length=k * xs.length:=by
 induction k with
 | zero=>simp
 | succ k ih=>rw [dB,List.flatten_cons,cF,ih,Nat.succ_mul,Nat.add_comm]
def yiy:OpR X (binaryOp .Mult) vev:=by
 intro w s σ H x y v u Q I J D h;obtain ⟨l,k,L,rfl,rfl,A,E,K,p,q⟩:=h;cases J;obtain ⟨t,rfl⟩:=D;obtain ⟨z,b,n,r,G,e⟩:=I.lstM A;have i:b.toArray.size * k.toNat <= sizeLine:=by rw [cL,<- G]; exact p
 have g:¬ b.toArray.size * k.toNat > (2 ^ 63 - 1) / 8:=by
  have:(sizeLine:Nat) <= (2 ^ 63 - 1) / 8:=by decide
  omega
 have d:¬ (!Builtin.List.listFitsIndex k)=true:=by
  rw [fitsIndex_both E K];exact cN
 have c:¬ Builtin.List.listTooLong (b.toArray.size * k.toNat)=true:=by
  rw [ydc i];exact cN
 have f:List.foldl (fun o j=>o++j) #[] (List.replicate (if b.toArray.isEmpty=true then 0 else k.toNat) b.toArray)=(List.replicate k.toNat b).flatten.toArray:=by
  have C:∀ m:Nat,List.foldl (fun o j=>o++j) #[] (List.replicate m b.toArray)=(List.replicate m b).flatten.toArray:=fun m=>by
   have:=ŭ b m [];rw [List.nil_append] at this;exact this
  rw [C]
  cases b with
  | nil=>simp
  | cons a r'=>rw [if_neg (by simp)]
 refine wpAny_binaryOp_repeat_ref (T:="list") (U:="int") (by decide) ⟨_,e,rfl⟩ (fun B=>typeIs_int B k t) noFill_list_mul F.fills_int_mul F.slot_int_rmul repeat_list F.slot_int_index.lookup
  (call_meets F.slot_int_rmul (typeIs_int s k t) F.entry_int_rmul (F.args_int_rmul_2 _ _) (int___rmul___int_list k t l b.toArray n)
   ⟨e,rfl,⟨_,e,rfl⟩,call_meets F.slot_list_mul ⟨_,e,rfl⟩ F.entry_list_mul (F.args_list_mul_2 _ _) (AutoListH.list___mul___list_int_3 l b.toArray n k t d g c) ⟨e,?_⟩⟩)
 rw [f];exists .ref _,_,I.lnew (t':=s.toks) (r.rep k.toNat) (by rw [yo9,Nat.mul_comm]; exact p),rfl,q _ I.fresh
end
end L2
namespace Att
open PySem PySem.W PySem.Calls PyProof.Rows
def è {P:Params} {h:Heap}:∀ (ns:List Int) (vs:List Value),WellAll P h vs (ns.map WData.int)->IntsAre vs ns:=by
 intro ns
 induction ns with
 | nil =>
  intro vs w;rw [List.map_nil] at w;cases w;exact .nil
 | cons n ns ih =>
  intro vs w;rw [di] at w
  cases w with
  | cons a b =>
   cases a;exact .cons _ _ (ih _ b)
def ygo {l:OpenLaw} {n:Nat} (hn:l.most=some n) {P:Params} {h:Heap} {args:List WData} {vals:List Value}
  (hpre:l.row.toRowW.claim.pre args=true) (hwl:WellAll P h vals args) :
  ∃ a vs ns,vals=[Value.ref a]/\args=[WData.list (ns.map WData.int)]/\h.get? a=some { cls:=.type "list",data:=.seq vs.toArray }/\IntsAre vs ns/\ns.length <= n:=by
 have f:WShape.hasAll [] args [.list .int]=true:=(pre_splitW hpre).1;have g:l.pre.holds [] { args:=args }=true:=(pre_splitW hpre).2;obtain ⟨d,r,rfl,j,i⟩:=hasAllW_cons f;obtain rfl:=hasAllW_nil i;obtain ⟨o,rfl,m⟩:=hasW_list j;obtain ⟨ns,rfl⟩:=items_int m
 have b:ns.length <= n:=by
  unfold OpenLaw.pre at g
  have e:(WTm.not (.lt (.lit (.int (n:Int))) (.len (.arg 0)))).holds [] { args:=[.list (ns.map .int)] }=true:=by
   have e:=(holds_andW g).1;rw [hn] at e;exact e
  have c:=condW_of e (w_not (w_lt w_lit (w_len_list (w_arg rfl))));rw [cA] at c;refine Nat.le_of_not_lt fun q=>?_;have k:(n:Int) < ((ns.length:Nat):Int):=by omega
  first
   | (rw [cK k] at c; exact absurd c (by decide))
   | (simp at c; omega)
 cases hwl with
 | cons w1 w2 =>
  cases w2
  cases w1 with
  | list ho hall=>exists _,_,ns,rfl,rfl,ho,è ns _ hall,b
def yg4 (l:OpenLaw) (args:List WData):l.row.toRowW.claim.post args (.bool true) args=true :=
 postW_of (r:=l.row.toRowW) (X:=(true == true))
  (show WShape.has [] (.bool true) .bool=true by first | rfl | decide | simp [WShape.has,WShape.arms,WShape.armsAll])
  (show (WTm.eq .res (.lit (.bool true))).value [] { args:=args,res:=some (.bool true),after:=args }=some (.bool (true == true)) from w_eq_bool (w_res rfl) w_lit) rfl
def attach_call {l:OpenLaw} {n:Nat} {q:Program} {loose:List Str} {XP:(Str->Option Value)->Heap->Prop} {YP:World->Heap->Prop} {d:DefRec}
  (hn:l.most=some n) (hdf:d.params.defaults=[])
  (call:∀ (w:World) (s₀ s₁:Shared) (mg mb:Str->Option Value) (fa:Addr) (o:Obj) (pm cd doc:Value) (a:Addr) (vs:List Value) (ns:List Int),
   Ground q loose [] XP w s₀ mg mb s₁.heap->YP w s₁.heap ->
   s₁.heap.get? fa=some o->o.data=.func (docDef d.name d.params d.body d.scope pm cd doc)->s₁.heap.CodeRec cd d.name->mg d.name=some (.ref fa) ->
   s₁.heap.get? a=some { cls:=.type "list",data:=.seq vs.toArray }->IntsAre vs ns->ns.length <= n->s₁.gens=#[] ->
   codeAny (model l.prog w) callerA (.call (.ref fa) ⟨[.ref a],[]⟩) (fun r s'=>r=.ok (.ret (.bool true))/\OldK s₁.heap s'.heap/\s'.os=s₁.os/\AllBare s'.gens) s₁) :
  WalkO q loose XP YP l.row.toRowW d [] (fun f vs=>PySem.call f vs):=by
 intro w s₀ s₁ mg mb G Y fa o pm cd doc A kV y E j p i u t k H e m B h v;obtain rfl:A=.none:=Dflts.none p hdf;obtain rfl:kV=.none:=Dflts.noKw p;obtain ⟨a,vs,ns,rfl,rfl,c,b,g⟩:=ygo hn e h;refine enter_call (codeAny_mono (call w s₀ s₁ mg mb fa o pm cd doc a vs ns G Y y (fd_plain E) j i c b g u) fun r s' D=>?_);obtain ⟨rfl,F,x,z⟩:=D
 exists .inl ⟨.bool true,.bool true,[],rfl,fun _=>rfl,.bool true,yg4 l _,fun _=>⟨List.Pairwise.nil,fun _ C=>(nomatch C)⟩⟩,F,x,z
section
variable {prog:Program} {w:World} {A:Around} {E:Value->Shared->Prop} {s:Shared} {K:Frag}
def vdi (h:Heap) (L d:Addr):List (Addr × Obj):=(List.range h.objs.size).filterMap fun a=>if a=L\/a=d then none else (h.get? a).map fun o=>(a,o)
end
end Att
namespace L2
open PySem PySem.Spec PyProof.Rows
variable {C a p:Addr} {fd:FuncData} {qual:Str} {T:String}
theorem Ź:∀ {vs:List Value} {ns:List Int},IntsAre vs ns->wg (ns.map V.int) vs
 | _,_,.nil=>.nil
 | _,_,.cons n t h=>.cons ⟨t,rfl⟩ (Ź h)
def vcz (H:Hp):Prop:=∀ b,H b=none\/∃ o xs,H b=some (.frz o (.lst xs))
def ylo {P:Program} {w:World} {K:W.Frag} {mg mb:Str->Option Value} {CX:CXT} {k:Nat} {fa:Addr} {x:Str} {sp:Sp} {s₁:Shared} {vs:List Value} {ns:List Int}
  (KX:K.In s₁.heap) (hns:s₁.heap.Ns mainGlobals mg) (hb:s₁.heap.Ns builtinsNs mb) (hbb:∀ x:Str,x≠"__name__"->mb x=bootBuiltins x) (hlim:s₁.heap.NoLimit) (hg:s₁.gens=#[])
  (ha:s₁.heap.get? a=some { cls:=.type "list",data:=.seq vs.toArray }) (hi:IntsAre vs ns) (hl:ns.length <= sizeLine) (hr:zr k callerA)
  (F:∀ base:Heap,K.In base->base.Ns mainGlobals mg->vk P w K mg base CX k fa fd [x] sp) (hbind:∀ (s:Shared) (u:Value),BindsTo s fd ⟨[u],[]⟩ [(x,u)])
  (hsp:∀ H:Hp,vcz H->SqL K H a (ns.map V.int)->sp [.ref a] H (fun v _=>v=.bl true) fun _ _ _=>False)
  (hCX:∀ H e s',CX [] H s₁ (fun _ _ _=>False) e s'->False) :
  codeAny (model P w) callerA (.call (.ref fa) ⟨[.ref a],[]⟩) (fun r s'=>r=.ok (.ret (.bool true))/\OldK s₁.heap s'.heap/\s'.os=s₁.os/\AllBare s'.gens) s₁:=by
 have J:=Ź hi;have p:=hi.length;have g:∀ H:Hp,vcz H->SqL K H a (ns.map V.int)->HOk P w H s₁.heap->(∀ b,H b≠none->b=a)->(H a≠none->K.lookup a=none) ->
   codeAny (model P w) callerA (.call (.ref fa) ⟨[.ref a],[]⟩) (fun r s'=>r=.ok (.ret (.bool true))/\OldK s₁.heap s'.heap/\s'.os=s₁.os/\AllBare s'.gens) s₁:=by
  intro H L M y E X;have c:∀ {b:Addr} {o:Obj},s₁.heap.get? b=some o->H b=none->(ymm s₁.heap H).get? b=some o:=fun e n=>ylj e n
  have C:∀ {b:Addr} {o:Obj} {i:Array DictEntry} {A:Nat},s₁.heap.get? b=some o->o.data=.dict i A->H b=none:=fun {b o i A} e d=>by
   cases q:H b with
   | none=>rfl
   | some u =>
    have D:b=a:=E b (by rw [q]; simp);subst D;rw [ha] at e; cases e;have U:Data.seq vs.toArray _=Data.dict i A:=d;cases U
  have f:∀ {b:Addr} {m:Str->Option Value},s₁.heap.Ns b m->(ymm s₁.heap H).Ns b m:=fun {b m} ⟨o,i,A,e,d,r⟩=>⟨o,i,A,c e (C e d),d,r⟩
  have j:K.In (ymm s₁.heap H):=fun b o e=>c (KX b o e) (by
   cases q:H b with
   | none=>rfl
   | some u =>
    have D:b=a:=E b (by rw [q]; simp);subst D;rw [X (by rw [q]; simp)] at e; cases e)
  have N:Mod K mg (ymm s₁.heap H):=⟨j,f hns,⟨mb,f hb,hbb⟩,let ⟨mc,h1,h2⟩:=hlim; ⟨mc,f h1,h2⟩⟩;have R:yug P w K mg (ymm s₁.heap H) callerA [] s₁ H:=⟨rfl,N,fun b o e=>yp3 e,Nat.le_of_eq (yf9 _ _),trivial,fun b hb=>absurd (show b∈([]:List Addr) from hb) (by simp),y,.of_eq hg⟩;refine codeAny_mono ((F _ j (f hns)).run callerA [] s₁ H ⟨[.ref a],[]⟩ [.ref a] [.ref a] _ _ hr R (hbind s₁ (.ref a)) (.cons rfl .nil) (hsp H L M)) fun r s' h=>?_
  cases r with
  | error e=>exact (hCX H e s' h).elim
  | ok fl =>
   cases fl with
   | next=>exact False.elim h
   | brk=>exact False.elim h
   | cont=>exact False.elim h
   | ret u =>
    obtain ⟨v,H',os,l,G,B,Q,q⟩:=h;have S:v=.bl true:=q;subst S;obtain rfl:u=Value.bool true:=Q;exists rfl,OldK.of_keep fun b o e=>?_,os,l
    cases q:H b with
    | none=>exact G.keep b o e q (by intro z; exact absurd (show b∈([]:List Addr) from z) (by simp)) (by simp)
    | some u =>
     rcases L b with z | ⟨T,Z,z⟩
     .rw [q] at z; cases z
     .have Y:=G.frzs b T _ z;obtain ⟨I,_⟩:=y b _ z;obtain ⟨O,_⟩:=B b _ Y;rw [e] at I; cases I;exact O
 cases hk:K.lookup a with
 | some o =>
  have e:=KX a o hk;rw [ha] at e;cases e;refine g (fun _=>none) (fun _=>.inl rfl) (.inr ⟨_,vs.toArray,_,hk,rfl,rfl,rfl,by rw [cL,p]; exact hl,by simpa using J⟩) (fun b u z=>by have t:(none:Option HO)=some u:=z; cases t) (fun b z=>absurd rfl z) fun z=>absurd rfl z
 | none =>
  refine g (fun b=>if b=a then some (.frz { cls:=.type "list",data:=.seq vs.toArray } (.lst (ns.map V.int))) else none) (fun b=>?_) (.inl (.inr ⟨{ cls:=.type "list",data:=.seq vs.toArray },if_pos rfl⟩)) (fun b u z=>?_) (fun b z=>?_) fun _=>hk
  .by_cases hb:b=a
   .exact .inr ⟨_,_,if_pos hb⟩
   .exact .inl (if_neg hb)
  .by_cases hb:b=a
   .have t:=(if_pos hb).symm.trans z;cases t;subst hb;exists ha,by rw [cA]; exact hl,vs,_,J,ha
   .have t:=(if_neg hb).symm.trans z;cases t
  .by_cases hb:b=a
   .exact hb
   .exact absurd (if_neg hb) z
def walk_of {l:W.OpenLaw} {n k:Nat} {q:Program} {loose:List Str} {XP:(Str->Option Value)->Heap->Prop} {YP:World->Heap->Prop} {d:DefRec} {K:Params->W.Frag} {CX:World->CXT} {sp:World->Sp} {x:Str}
  (hn:l.most=some n) (hn2:n <= sizeLine) (hdf:d.params.defaults=[]) (hr:zr k callerA)
  (hY:∀ (w:World) (h:Heap),YP w h->(K w.params).In h)
  (F:∀ (w:World) (mg:Str->Option Value) (fa:Addr) (h:Heap),(K w.params).In h->h.Ns mainGlobals mg->mg d.name=some (.ref fa) ->
   ∃ fd:FuncData,(∀ (s:Shared) (u:Value),BindsTo s fd ⟨[u],[]⟩ [(x,u)]) /\
    ∀ base:Heap,(K w.params).In base->base.Ns mainGlobals mg->vk l.prog w (K w.params) mg base (CX w) k fa fd [x] (sp w))
  (hsp:∀ (w:World) (H:Hp) (a:Addr) (ns:List Int),ns.length <= n->vcz H->SqL (K w.params) H a (ns.map V.int)->sp w [.ref a] H (fun v _=>v=.bl true) fun _ _ _=>False)
  (hCX:∀ (w:World) (H:Hp) (s:Shared) (e:Value) (s':Shared),CX w [] H s (fun _ _ _=>False) e s'->False) :
  W.WalkO q loose XP YP l.row.toRowW d [] (fun f vs=>PySem.call f vs):=by
 refine Att.attach_call hn hdf fun w s₀ s₁ mg J fa o D I C a vs ns G Y L E r m j i c B=>?_;have p:=hY w _ Y;obtain ⟨fd,z,A⟩:=F w mg fa _ p G.T.g m;exact ylo p G.T.g G.T.b G.T.builtins G.T.nolimit B j i (dh c hn2) hr A z (fun H t y=>hsp w H a ns c t y) fun H e s'=>hCX w H s₁ e s'
def yw (s:Stmt) (j:Nat):Stmt:=match s with
 | .ClassDef _ _ _ body _ _ _ _ _ _ _=>body.getD j (.Pass ⟨0,0,0,0⟩)
 | _=>.Pass ⟨0,0,0,0⟩
def w6 (s:Stmt):Arguments:=match s with
 | .FunctionDef _ a _ _ _ _ _ _ _ _=>a
 | _=>{ posonlyargs:=[],args:=[],vararg:=none,kwonlyargs:=[],kw_defaults:=[],kwarg:=none,defaults:=[] }
def wk (s:Stmt):List Stmt:=match s with
 | .FunctionDef _ _ b _ _ _ _ _ _ _=>b
 | _=>[]
def yd (s:Stmt):Scope:=match s with
 | .FunctionDef _ _ _ _ _ _ sc _ _ _=>sc
 | _=>{ kind:=.function,names:=[],isGenerator:=false,isCoroutine:=false }
abbrev CX0:CXT:=fun _ _ _ _ _ _=>False
abbrev E0:XK:=fun _ _ _=>False
def vx {X:Cx}:Ô CX0 X E0:=fun _ _ _ _ _ _ _ h=>h.elim
structure Fun (K:W.Frag) (x qual:Str) (st:Stmt) (f:Addr) (fd:FuncData):Prop where
 ex:∃ (oc:Value) (od:Option Addr) (kV doc pm:Value) (an:Option Addr) (cdv ct:Value) (osl:Array (Option Value)),
  fd=W.fnOf x qual (w6 st) (wk st) (yd st) .none kV doc pm an cdv ct/\K.lookup f=some ⟨oc,od,.func fd,osl⟩/\W.codeIn K cdv qual=true
 kp:W.keepIn K (.ref f)=true
section
variable {P:Program} {w:World} {K:W.Frag} {mg:Str->Option Value} {base:Heap}
def Fun.ok {x:Str} {st:Stmt} {f:Addr} {N ps:List Str} {k:Nat} {sp:Sp} (F:Fun K x qual st f fd) (S:yi N ps (yd st)) (len:∀ vs H Q E,sp vs H Q E->vs.length=ps.length)
  (hbody:∀ (cdv:Value) (A:Around) (outer:List Env) (s:Shared) (H:Hp) (vs:List V) (Q:VK) (E:XK),zr k (A.deeper (envOfC qual (yd st) s.heap.objs.size f cdv))->sp vs H Q E ->
   ∃ t,PSs (vn CX0 P w K mg base N qual (yd st) f cdv A outer s H E).nox (wk st) t/\t { nx:=fun _ H'=>Q .non H',rt:=Q } (Î N vs) H):vk P w K mg base CX0 (k+1) f fd ps sp:=by
 obtain ⟨m,i,kV,g,j,n,cdv,l,c,rfl,d,a⟩:=F.ex;refine ymc d a S len fun A outer s H vs Q E e b=>?_;obtain ⟨t,h,q⟩:=hbody cdv A outer s H vs Q E e b;exact ⟨t,h.nox,q⟩
def Fun.binds {x:Str} {st:Stmt} {f:Addr} {ps:List Str} (F:Fun K x qual st f fd)
  (h:∀ (kV doc pm:Value) (an:Option Addr) (cdv ct:Value) (us:List Value),us.length=ps.length->bindArgs (W.fnOf x qual (w6 st) (wk st) (yd st) .none kV doc pm an cdv ct) ⟨us,[]⟩=pure (ps.zip us)):uc K fd ps []:=by
 obtain ⟨e,c,kV,doc,pm,an,cdv,ct,a,rfl,d,b⟩:=F.ex;exact .all (h kV doc pm an cdv ct)
def yoj {x:Str} {st:Stmt} {f:Addr} {oc:Value} {od an:Option Addr} {osl:Array (Option Value)} {kV doc pm cdv ct:Value} (l:K.lookup f=some ⟨oc,od,.func (W.fnOf x qual (w6 st) (wk st) (yd st) .none kV doc pm an cdv ct),osl⟩)
  (c:W.codeIn K cdv qual=true) (k:W.keepIn K (.ref f)=true):Fun K x qual st f (W.fnOf x qual (w6 st) (wk st) (yd st) .none kV doc pm an cdv ct):=⟨⟨oc,od,kV,doc,pm,an,cdv,ct,osl,rfl,l,c⟩,k⟩
end
def za {A:Around} {k:Nat} (hr:zr k A):A.units+1 < cLine:=Nat.lt_of_le_of_lt (Nat.add_le_add_left (by decide:1 <= 64) _) hr.units
section
variable {X:Cx}
def pv (i:Nat) {x:Str} {pos:Pos} (hN:X.N[i]?=some x:=by rfl) (hv:Vis X.env.scope x:=by first | exact Or.inl rfl | exact Or.inr (Or.inl rfl) | exact Or.inr (Or.inr rfl)) (hd:(x == ("__debug__":Str))=false:=by decide)
  (hcd:(x == ("__classdict__":Str))=false:=by decide):PE X (.Name x pos) (vdd i):=yu7 hN hv hd hcd
end
def yat {A B:Prop} (h:B):if false=true then A else B:=by
 rw [if_neg cN];exact h
def yaw {A B:Prop} (h:A):if true=true then A else B:=by
 rw [if_pos rfl];exact h
def yv (H H':Hp):Prop:=∀ b o,H b=some o->H' b=some o
def yv.refl (H:Hp):yv H H:=fun _ _ h=>h
def yv.trans {H H1 H2:Hp} (a:yv H H1) (b:yv H1 H2):yv H H2:=fun c o h=>b c o (a c o h)
def yv.free {H H':Hp} (e:yv H H') {l:Addr} (h:H' l=Option.none):H l=Option.none:=by
 cases q:H l with
 | none=>rfl
 | some o =>
  rw [e l o q] at h;cases h
def yv.seq {K:W.Frag} {H H':Hp} {xs:List V} (e:yv H H') (h:SqL K H a xs):SqL K H' a xs:=by
 rcases h with (h | ⟨o,h⟩) | h
 .exact .inl (.inl (e _ _ h))
 .exact .inl (.inr ⟨o,e _ _ h⟩)
 .exact .inr h
section
variable {X:Cx}
def wj:uf X (.builtin "isinstance") (fun xs H Q=>∃ x cv t c k,xs=[x,cv]/\xb cv c/\(∀ u,xb cv u->u=c)/\xo X.K H x t/\W.kitOne X.K t c=some k/\Q (.bl k) H):=by
 intro a s σ H xs l Q I r h;obtain ⟨x,cv,t,c,k,rfl,_,f,d,e,q⟩:=h;obtain ⟨u,g,rfl,i,j⟩:=ymh r;obtain rfl:=f g j;exact ygx I i d e fun b=>⟨.bl k,H,I.tok b,rfl,q⟩
def z7 {x:Str} {pos:Pos} (hg:Gl X x) (hm:X.mg x=none) (hv:bootBuiltins x=some (.type T)) (hn:x≠"__name__":=by decide) (hd:(x == ("__debug__":Str))=false:=by decide):PE X (.Name x pos) (tC (.ty T)):=yro hg hm hv rfl hn hd
def ve {x:Str} {i:Int} {t:Tok} {pos:Pos} (hg:Gl X x) (hm:X.mg x=some (.int i t)) (hd:(x == ("__debug__":Str))=false:=by decide):PE X (.Name x pos) (tC (.int i)):=yby hg hm ⟨t,rfl⟩ hd
def yb6 {x:Str} {pos:Pos} (hg:Gl X x) (hm:X.mg x=some (.ref C)) (hd:(x == ("__debug__":Str))=false:=by decide):PE X (.Name x pos) (tC (.ref C)):=yby hg hm rfl hd
mutual
inductive RdV (K:W.Frag) (H:Hp):V->PyData->Prop
 | non:RdV K H .non .none
 | bl (b:_):RdV K H (.bl b) (.bool b)
 | int (i:_):RdV K H (.int i) (.int i)
 | str (x:_):RdV K H (.str x) (.str x)
 | lst {a xs ds:_}:SqL K H a xs->yfr K H xs ds->RdV K H (.ref a) (.list ds)
 | tup {a xs ds:_}:SqT K H a xs->yfr K H xs ds->RdV K H (.ref a) (.tuple ds)
inductive yfr (K:W.Frag) (H:Hp):List V->List PyData->Prop
 | nil:yfr K H [] []
 | cons {x xs d ds:_}:RdV K H x d->yfr K H xs ds->yfr K H (x :: xs) (d :: ds)
end
mutual
theorem RdV.reads {pins:List (Addr × Obj)} {σ:St} {H:Hp} {s:Shared} (I:Inv X pins σ H s):∀ {x:V} {d:PyData} {u:Value},RdV X.K H x d->xb x u->∃ as,Reads s.heap u d as
 | _,_,_,.non,r=>by cases r; exists _,.none
 | _,_,_,.bl _,r=>by cases r; exists _,.bool _
 | _,_,_,.int _,r=>by obtain ⟨t,rfl⟩:=r; exists _,.int _ _
 | _,_,_,.str _,r=>by obtain ⟨t,rfl⟩:=r; exists _,.str _ _
 | _,_,_,.lst hq hs,r=>by
  cases r;obtain ⟨a,f,⟨o,n,e,b,i,g⟩,h⟩:=I.list hq;obtain ⟨as,c⟩:=yfr.reads I hs f;exists _,.list e b g (by simpa using c)
 | _,_,_,.tup hq hs,r=>by
  cases r;obtain ⟨a,f,⟨o,e,b,n,g⟩,h⟩:=I.tuple hq;obtain ⟨as,c⟩:=yfr.reads I hs f;exists _,.tuple e b g (by simpa using c)
theorem yfr.reads {pins:List (Addr × Obj)} {σ:St} {H:Hp} {s:Shared} (I:Inv X pins σ H s):∀ {xs:List V} {ds:List PyData} {us:List Value},yfr X.K H xs ds->wg xs us->∃ as,ReadsAll s.heap us ds as
 | _,_,_,.nil,.nil=>⟨_,.nil⟩
 | _,_,_,.cons h hs,.cons r rs=>by
  obtain ⟨as,a⟩:=RdV.reads I h r;obtain ⟨c,b⟩:=yfr.reads I hs rs;exists _,.cons a b
end
def vaz (K:W.Frag) (g:Bool->Bool):R2:=fun x y H Q=>∃ d e,RdV K H x d/\RdV K H y e/\SeqAt.shaped d=true/\SeqAt.shaped e=true/\Q (.bl (g (PyData.eqv d e))) H
def yd0 (hu:X.A.units+64 < cLine):OpR X (compareOp .NotEq) (vaz X.K fun b=>!b):=by
 intro a s σ H x y v u Q I j c h;obtain ⟨d,e,i,f,k,l,q⟩:=h;obtain ⟨n,g⟩:=i.reads I j;obtain ⟨o,m⟩:=f.reads I c;exact ne_dataH g m k l hu ⟨.bl _,H,I,rfl,q⟩
theorem ζ {K:W.Frag} {H:Hp}:∀ ns:List Int,yfr K H (ns.map V.int) (ns.map PyData.int)
 | []=>.nil
 | n :: r=>.cons (.int n) (ζ r)
theorem jv:∀ ns:List Int,PyData.canLayAll0 (ns.map PyData.int)=true
 | []=>rfl
 | _ :: r=>by simp [PyData.canLayAll0,PyData.canLay0,jv r]
theorem À:∀ ns:List Int,PyData.depthAll (ns.map PyData.int)=0
 | []=>rfl
 | _ :: r=>by simp [PyData.depthAll,PyData.depth,À r]
def Ħ (ns:List Int):SeqAt.shaped (.list (ns.map PyData.int))=true:=by
 simp [SeqAt.shaped,PyData.canLay0,PyData.depth,jv,À]
theorem jx:∀ ns ms:List Int,PyData.eqvAll (ns.map PyData.int) (ms.map PyData.int)=decide (ns=ms)
 | [],[]=>by simp [PyData.eqvAll]
 | [],_ :: _=>by simp [PyData.eqvAll]
 | _ :: _,[]=>by simp [PyData.eqvAll]
 | a :: r,b :: t=>by
  simp only [di,PyData.eqvAll,PyData.eqv,jx r t];by_cases h:a=b <;> by_cases h':r=t <;> simp [h,h']
def vck {K:W.Frag} {g:Bool->Bool} {H:Hp} {Q:VK} {b:Addr} (ns ms:List Int) (ha:SqL K H a (ns.map V.int)) (hb:SqL K H b (ms.map V.int)) (h:Q (.bl (g (decide (ns=ms)))) H):vaz K g (.ref a) (.ref b) H Q :=
 ⟨_,_,.lst ha (ζ ns),.lst hb (ζ ms),Ħ ns,Ħ ms,by rw [PyData.eqv,jx]; exact h⟩
def vbt (_ j:Int):Prop:=0 < j/\j < 2 ^ 200
def y0:OpR X (binaryOp .FloorDiv) (rI vbt fun i j=>.int (i / j)):=opI fun i j _ _ _ _ _ b q=>by
 obtain ⟨c,d⟩:=b;refine floordiv_int (by omega) ?_ (.inl (PyProof.noPylong_of_log2 ?_))
 .rw [Int.fdiv_eq_ediv_of_nonneg _ (by omega)]; exact q
 .have e:j.natAbs < 2 ^ 200:=by omega
  have a:j.natAbs≠0:=by omega
  have:=(Nat.log2_lt a).mpr e;omega
def vdz (t:TS):TS:=fun D σ H=>∃ M:St->Hp->Prop,t { D with nx:=M } σ H/\∀ σ' H',M σ' H'->D.nx σ' H'
def jr {st:Stmt} {t:TS} (h:PS X st t):PS X st (vdz t):=by
 refine .mk fun a s σ H D I ⟨M,c,e⟩=>?_;refine thn (h a s σ H { D with nx:=M } I c) fun f g q=>?_
 cases f with
 | next =>
  obtain ⟨σ',b,d,q⟩:=q;exists σ',b,d,e σ' b q
 | ret v=>exact q
 | brk=>exact q
 | cont=>exact q
end
def vz (nx:St->Hp->Prop) (σ:St) (H:Hp):Prop:=nx σ H
section
variable {K:W.Frag} {σ:St} {H:Hp} {Q:VK} {QB:Bool->Hp->Prop} {QL:List V->Hp->Prop} {v x y:V} {i j:Int} {b:Bool} {ta tb tc te:TE} {t u:TS} {tA tB':TT} {tr:TA} {D:Ö}
 {nx bk ct:St->Hp->Prop} {rt:VK} {A B:Prop}
def yj {N:List Str} {vs:List V} {σ':St} (e:Î N vs=σ') (h:t D σ' H):t D (Î N vs) H:=by rw [e]; exact h
def yt1 {k:Nat} (e:σ[k]?=some (some v)) (h:Q v H):vdd k σ H Q:=⟨v,e,h⟩
def i_c (h:Q v H):tC v σ H Q:=h
def ved {r:R2} (h:ta σ H fun x H1=>tb σ H1 fun y H2=>r x y H2 Q):tOp r ta tb σ H Q:=h
def vet {r:V->Hp->VK->Prop} (h:ta σ H fun x H1=>r x H1 Q):tUn r ta σ H Q:=h
def vef {g:Int->Int->V} (h:Q (g i j) H):rI0 g (.int i) (.int j) H Q:=⟨i,j,rfl,rfl,h⟩
def i_I {C:Int->Int->Prop} {g:Int->Int->V} (hc:C i j) (h:Q (g i j) H):rI C g (.int i) (.int j) H Q:=⟨i,j,rfl,rfl,hc,h⟩
def i_U {g:Int->V} (h:Q (g i) H):rU g (.int i) H Q:=⟨i,rfl,h⟩
def vcl (h:Q (.bl (decide (i=j))) H):rEq (.int i) (.int j) H Q:=⟨rfl,by
 have e:decide (V.int i=V.int j)=decide (i=j):=by simp
 rw [e]; exact h⟩
def ywk (h:ta σ H fun x H'=>∃ k,x=.bl k/\QB k H'):yse ta σ H QB:=h
def veh (h:ta σ H fun x H'=>∃ k,x=.bl k/\QB k H'):tB ta σ H QB:=h
def vem {P:Bool->Prop} (h:P b):∃ k,V.bl b=V.bl k/\P k:=⟨b,rfl,h⟩
def yp2 {r r':R2} (h:ta σ H fun x H1=>tb σ H1 fun y H2=>r x y H2 fun z H3=>∃ k,z=.bl k/\(if k=true then tc σ H3 fun w' H4=>r' y w' H4 Q else Q (.bl false) H3)):yjp r r' ta tb tc σ H Q:=h
def yw0 (h:ta σ H fun x H1=>∃ c,x=.bl c/\if c=true then tb σ H1 Q else Q (.bl false) H1):yz7 ta tb σ H Q:=h
def vbo (h:ta σ H fun x H1=>∃ c,x=.bl c/\if c=true then Q (.bl true) H1 else tb σ H1 Q):vd2 ta tb σ H Q:=h
def yvi (h:ta σ H fun x H1=>∃ c,x=.bl c/\Q (.bl (!c)) H1):yzx ta σ H Q:=h
def vb5 {t1 t2:TT} (h:t1 σ H fun c H1=>if c=true then t2 σ H1 QB else QB false H1):vdt t1 t2 σ H QB:=h
def vd7 {t1 t2:TT} (h:t1 σ H fun c H1=>if c=true then QB true H1 else t2 σ H1 QB):tOr t1 t2 σ H QB:=h
def vbm {t1:TT} (h:t1 σ H fun c H1=>QB (!c) H1):vdx t1 σ H QB:=h
def vce (h:tA σ H fun c H1=>if c=true then ta σ H1 Q else tb σ H1 Q):tIf tA ta tb σ H Q:=h
structure Nx (u nx:St->Hp->Prop):Prop where
 go:∀ σ H,u σ H->nx σ H
def yvb (h:∀ nx:St->Hp->Prop,Nx (u D) nx->t ⟨nx,D.rt,D.bk,D.ct⟩ σ H):vcx t u D σ H:=h (u D) ⟨fun _ _ z=>z⟩
def vd9 {u nx:St->Hp->Prop} (h:Nx u nx) (q:u σ H):nx σ H:=h.go _ _ q
def yw8 (h:nx σ H):vam ⟨nx,rt,bk,ct⟩ σ H:=h
def vb4 (h:te σ H rt):vdy te ⟨nx,rt,bk,ct⟩ σ H:=h
def yuy (h:te σ H fun _ H1=>nx σ H1):van te ⟨nx,rt,bk,ct⟩ σ H:=h
def veg (h:tA σ H fun c H1=>if c=true then t D σ H1 else u D σ H1):va1 tA t u D σ H:=h
def yju (M:St->Hp->Prop) (h1:t ⟨M,rt,bk,ct⟩ σ H) (h2:∀ σ' H',M σ' H'->nx σ' H'):vdz t ⟨nx,rt,bk,ct⟩ σ H:=⟨M,h1,h2⟩
def va8 {g:TG} (h:te σ H fun x H1=>g x σ H1 nx):yun te g ⟨nx,rt,bk,ct⟩ σ H:=h
def yy8 {sp:Sp} {dvs:List V} {E:XK} (h:tr σ H fun vs H1=>sp (vs++dvs) H1 Q E):ytn sp dvs E tr σ H Q:=h
def yvo (h:ta σ H fun x H1=>tr σ H1 fun xs H2=>QL (x :: xs) H2):yme ta tr σ H QL:=h
def va5 (h:QL [] H):yjy σ H QL:=h
def vej {r:List V->Hp->VK->Prop} (h:tr σ H fun vs H1=>r vs H1 Q):tCB r tr σ H Q:=h
def vcc (h:tr σ H fun xs H1=>xs.length <= sizeLine/\∀ p,H1 p=none->Q (.ref p) (upd H1 p (.tup xs))):vdk tr σ H Q:=h
def vb8 (h:tr σ H fun xs H1=>xs.length <= sizeLine/\∀ p,H1 p=none->Q (.ref p) (upd H1 p (.lst xs))):vdw tr σ H Q:=h
def ć {m:Str} {sp:Sp} {dvs:List V} {E:XK} (h:ta σ H fun x H1=>∃ a dx fs,x=.ref a/\H1 a=some (.ins C dx fs)/\fs.lookup m=none/\tr σ H1 fun vs H2=>sp (x :: (vs++dvs)) H2 Q E):Ğ C m sp dvs E ta tr σ H Q:=h
def vb6 {f:Str} (h:ta σ H fun x H1=>∃ a C dx fs v,x=.ref a/\H1 a=some (.ins C dx fs)/\Cls K C/\y9 K C f/\fs.lookup f=some v/\Q v H1):vde K ta f σ H Q:=h
def yzn {f:Str} (h:tb σ H fun y H1=>ta σ H1 fun x H2=>∃ a C dx fs,x=.ref a/\H2 a=some (.ins C dx fs)/\Cls K C/\y9 K C f/\fs.length < 1000/\vz nx σ (upd H2 a (.ins C dx (ji f y fs)))):vdv K ta tb f ⟨nx,rt,bk,ct⟩ σ H:=h
def vd8 {r:V->Option Int->Option Int->Hp->VK->Prop} {tl th:TO} (h:te σ H fun x H1=>tl σ H1 fun l H2=>th σ H2 fun u H3=>r x l u H3 Q):tSl r te tl th σ H Q:=h
def yk2 {QO:Option Int->Hp->Prop} (h:QO none H):yif σ H QO:=h
def yvq {QO:Option Int->Hp->Prop} (h:ta σ H fun x H1=>∃ i,x=.int i/\QO (some i) H1):var ta σ H QO:=h
def vbl {P:Int->Prop} (h:P i):∃ k,V.int i=V.int k/\P k:=⟨i,rfl,h⟩
def yx1 (h:A):V.non=V.non/\A:=⟨rfl,h⟩
def g0 {a0:Option V} {r:St} {N:St->Hp->Prop} (h:N (some v :: r) H):w8 0 v (a0 :: r) H N:=h
def g1 {a0 a1:Option V} {r:St} {N:St->Hp->Prop} (h:N (a0 :: some v :: r) H):w8 1 v (a0 :: a1 :: r) H N:=h
def g2 {a0 a1 a2:Option V} {r:St} {N:St->Hp->Prop} (h:N (a0 :: a1 :: some v :: r) H):w8 2 v (a0 :: a1 :: a2 :: r) H N:=h
def g3 {a0 a1 a2 a3:Option V} {r:St} {N:St->Hp->Prop} (h:N (a0 :: a1 :: a2 :: some v :: r) H):w8 3 v (a0 :: a1 :: a2 :: a3 :: r) H N:=h
def g4 {a0 a1 a2 a3 a4:Option V} {r:St} {N:St->Hp->Prop} (h:N (a0 :: a1 :: a2 :: a3 :: some v :: r) H):w8 4 v (a0 :: a1 :: a2 :: a3 :: a4 :: r) H N:=h
def g5 {a0 a1 a2 a3 a4 a5:Option V} {r:St} {N:St->Hp->Prop} (h:N (a0 :: a1 :: a2 :: a3 :: a4 :: some v :: r) H):w8 5 v (a0 :: a1 :: a2 :: a3 :: a4 :: a5 :: r) H N:=h
def g6 {a0 a1 a2 a3 a4 a5 a6:Option V} {r:St} {N:St->Hp->Prop} (h:N (a0 :: a1 :: a2 :: a3 :: a4 :: a5 :: some v :: r) H):w8 6 v (a0 :: a1 :: a2 :: a3 :: a4 :: a5 :: a6 :: r) H N:=h
def g7 {a0 a1 a2 a3 a4 a5 a6 a7:Option V} {r:St} {N:St->Hp->Prop} (h:N (a0 :: a1 :: a2 :: a3 :: a4 :: a5 :: a6 :: some v :: r) H):w8 7 v (a0 :: a1 :: a2 :: a3 :: a4 :: a5 :: a6 :: a7 :: r) H N:=h
def g8 {a0 a1 a2 a3 a4 a5 a6 a7 a8:Option V} {r:St} {N:St->Hp->Prop} (h:N (a0 :: a1 :: a2 :: a3 :: a4 :: a5 :: a6 :: a7 :: some v :: r) H):w8 8 v (a0 :: a1 :: a2 :: a3 :: a4 :: a5 :: a6 :: a7 :: a8 :: r) H N:=h
def g9 {a0 a1 a2 a3 a4 a5 a6 a7 a8 a9:Option V} {r:St} {N:St->Hp->Prop} (h:N (a0 :: a1 :: a2 :: a3 :: a4 :: a5 :: a6 :: a7 :: a8 :: some v :: r) H):w8 9 v (a0 :: a1 :: a2 :: a3 :: a4 :: a5 :: a6 :: a7 :: a8 :: a9 :: r) H N:=h
def g10 {a0 a1 a2 a3 a4 a5 a6 a7 a8 a9 a10:Option V} {r:St} {N:St->Hp->Prop} (h:N (a0 :: a1 :: a2 :: a3 :: a4 :: a5 :: a6 :: a7 :: a8 :: a9 :: some v :: r) H):w8 10 v (a0 :: a1 :: a2 :: a3 :: a4 :: a5 :: a6 :: a7 :: a8 :: a9 :: a10 :: r) H N:=h
def g11 {a0 a1 a2 a3 a4 a5 a6 a7 a8 a9 a10 a11:Option V} {r:St} {N:St->Hp->Prop} (h:N (a0 :: a1 :: a2 :: a3 :: a4 :: a5 :: a6 :: a7 :: a8 :: a9 :: a10 :: some v :: r) H):w8 11 v (a0 :: a1 :: a2 :: a3 :: a4 :: a5 :: a6 :: a7 :: a8 :: a9 :: a10 :: a11 :: r) H N:=h
def g12 {a0 a1 a2 a3 a4 a5 a6 a7 a8 a9 a10 a11 a12:Option V} {r:St} {N:St->Hp->Prop} (h:N (a0 :: a1 :: a2 :: a3 :: a4 :: a5 :: a6 :: a7 :: a8 :: a9 :: a10 :: a11 :: some v :: r) H):w8 12 v (a0 :: a1 :: a2 :: a3 :: a4 :: a5 :: a6 :: a7 :: a8 :: a9 :: a10 :: a11 :: a12 :: r) H N:=h
def ydu {n:Nat} {tg:TGs} {xs:List V} {N:St->Hp->Prop} (hq:SqT K H a xs) (hl:xs.length=n) (h:tg xs σ H N):yur K n tg (.ref a) σ H N:=⟨a,xs,rfl,hq,hl,h⟩
def ypv {tg:TG} {us:TGs} {r:List V} {N:St->Hp->Prop} (h:tg v σ H fun σ' H'=>us r σ' H' N):jj tg us (v :: r) σ H N:=⟨v,r,rfl,h⟩
def yva {N:St->Hp->Prop} (h:N σ H):ymn [] σ H N:=⟨rfl,h⟩
def uu {p:Prop} [Decidable p] (h1:p->A) (h2:¬ p->B):if decide p=true then A else B:=by
 by_cases h:p
 .rw [if_pos (cK h)]; exact h1 h
 .rw [if_neg (by simp [h])]; exact h2 h
def Ŝ {p:Prop} [Decidable p] (hp:p) (h:A):if decide p=true then A else B:=by rw [if_pos (cK hp)]; exact h
def yce {p:Prop} [Decidable p] (hp:¬ p) (h:B):if decide p=true then A else B:=by rw [if_neg (by simp [hp])]; exact h
def ysu {p:Prop} [Decidable p] (hp:p) (h:B):if (!decide p)=true then A else B:=by rw [if_neg (by simp [hp])]; exact h
def ysm {p:Prop} [Decidable p] (hp:¬ p) (h:A):if (!decide p)=true then A else B:=by rw [if_pos (by simp [hp])]; exact h
def yj3 {p:Prop} [Decidable p] (h1:p->B) (h2:¬ p->A):if (!decide p)=true then A else B:=by
 by_cases h:p
 .exact ysu h (h1 h)
 .exact ysm h (h2 h)
def vb1 (h:B):if (!true)=true then A else B:=yat h
def va7 (h:A):if (!false)=true then A else B:=yaw h
def vbe {α:Type} {z:α} [Decidable (z=z)] (h:A):if decide (z=z)=true then A else B:=Ŝ rfl h
def xl {f:Str} {r:List (Str × V)}:List.lookup f ((f,v) :: r)=some v:=by simp [List.lookup]
def vw {f g:Str} {r:List (Str × V)} {o:Option V} (h:¬ f=g) (e:List.lookup f r=o):List.lookup f ((g,v) :: r)=o:=by
 have a:(f == g)=false:=by simp [h]
 simp [List.lookup,a,e]
def jn {f:Str}:List.lookup f ([]:List (Str × V))=none:=rfl
def zu {f:Str} {r:List (Str × V)}:ji f v ((f,x) :: r)=(f,v) :: r:=by simp [ji]
def vi {f g:Str} {r r':List (Str × V)} (h:¬ g=f) (e:ji f v r=r'):ji f v ((g,x) :: r)=(g,x) :: r':=by simp [ji,h,e]
def wo {f:Str}:ji f v []=[(f,v)]:=rfl
def z5 {c:Addr} {o o':HO} (hn:H a=none) (h:H c=some o):upd H a o' c=some o:=by rw [yk (yb h hn)]; exact h
def yf {c:Addr} {o o':HO} (hn:c≠a) (h:H c=some o):upd H a o' c=some o:=by rw [yk hn]; exact h
def y8 {o:HO} (hn:H a=none):yv H (upd H a o):=fun _ _ h=>z5 hn h
def yv.tup {H':Hp} {xs:List V} (e:yv H H') (h:SqT K H a xs):SqT K H' a xs:=by
 rcases h with (h | ⟨o,h⟩) | h
 .exact .inl (.inl (e _ _ h))
 .exact .inl (.inr ⟨o,e _ _ h⟩)
 .exact .inr h
def yam {tb:TS} {W:Nat->St->Hp->Prop} {m:Nat} (h:tb ⟨fun σ' H'=>∃ m',m' < m/\W m' σ' H',rt,nx,fun σ' H'=>∃ m',m' < m/\W m' σ' H'⟩ σ H) :
  ∃ N:St->Hp->Prop,(∀ σ' H',N σ' H'->∃ m',m' < m/\W m' σ' H')/\tb ⟨N,rt,nx,N⟩ σ H:=⟨_,fun _ _ q=>q,h⟩
def yx4 {sp:Sp} {dvs:List V} {E:XK} (h:tr σ H fun vs H1=>∀ x dx,H1 x=none->H1 dx=none->dx≠x->sp (.ref x :: (vs++dvs)) (upd (upd H1 dx (.own x)) x (.ins C dx [])) (fun v H2=>v=.non/\Q (.ref x) H2) E):ysp C sp dvs E tr σ H Q:=h
def veq {r:V->List V->Hp->VK->Prop} (h:ta σ H fun x H1=>tyV K T x H1/\tr σ H1 fun xs H2=>r x xs H2 Q):tBM K T r ta tr σ H Q:=h
def vb2 {r:V->List V->Hp->VK->Prop} (h:ta σ H fun x H1=>tyV K T x H1/\r x [] H1 Q):vd3 K T r ta σ H Q:=h
def Ì {xs:List V} (h:H p=some (.lst xs)) (k:A):tyV K "list" (.ref p) H/\A:=⟨.inl ⟨rfl,_,SqL.of h⟩,k⟩
def xy {l:Addr} {xs:List V} (h:H l=some (.lst xs)) (hz:xs.length < sizeLine) (k:Q .non (upd H l (.lst (xs++[y])))):yh7 (.ref l) [y] H Q:=⟨l,xs,y,rfl,rfl,h,hz,k⟩
def ű {l:Addr} {xs:List V} (h:H l=some (.lst xs)) (k:Q .non (upd H l (.lst xs.reverse))):ydh (.ref l) [] H Q:=⟨l,xs,rfl,rfl,h,k⟩
def ue {ys:List V} {P:List V->Prop} (h:SqL K H p ys) (k:P ys):∃ p' ys',[V.ref p]=[V.ref p']/\(SqL K H p' ys'\/SqT K H p' ys')/\P ys':=⟨p,ys,rfl,.inl h,k⟩
def yoa {ys:List V} {P:List V->Prop} (h:SqT K H p ys) (k:P ys):∃ p' ys',[V.ref p]=[V.ref p']/\(SqL K H p' ys'\/SqT K H p' ys')/\P ys':=⟨p,ys,rfl,.inr h,k⟩
def zg {ys:List V} {P:List V->Prop} (h:SqL K H p ys) (k:P ys):∃ p' ys',[V.ref p]=[V.ref p']/\(SqL K H p' ys'\/SqT K H p' ys')/\P ys':=⟨p,ys,rfl,.inl h,k⟩
def Ú {xs:List V} (h:SqL K H p xs) (e:atI xs i=some v) (k:Q v H):vdq K (.ref p) (.int i) H Q:=⟨p,xs,i,v,rfl,rfl,h,e,k⟩
def ś {xs:List V} (h:SqT K H p xs) (e:atI xs i=some v) (k:Q v H):vdm K (.ref p) (.int i) H Q:=⟨p,xs,i,v,rfl,rfl,h,e,k⟩
def yfm {xs:List V} {lo hi:Option Int} (h:SqL K H p xs) (k:∀ q,H q=none->Q (.ref q) (upd H q (.lst (ycl xs lo hi)))):vd6 K (.ref p) lo hi H Q:=⟨p,xs,rfl,h,k⟩
def ß {xs:List V} (n:Nat):ycl xs none (some (n:Int))=xs.take n:=by
 unfold ycl;rw [HT.sIx_none,HT.sIx_nat,List.drop_zero,Nat.sub_zero];rcases Nat.le_total n xs.length with h | h
 .rw [Nat.min_eq_left h]
 .rw [Nat.min_eq_right h,dA (cE _),dA h]
def vbp {wi:TI} {g:TG} {tb:TS} (h:wi σ H fun J H1=>∃ W:Nat->Nat->St->Hp->Prop,(∃ m,W 0 m σ H1)/\∀ i m σ H,W i m σ H ->
  (J.stop i H/\D.nx σ H)\/(J.go i H/\∃ N:St->Hp->Prop,(∀ σ' H',N σ' H'->∃ m',m' < m/\W (i+1) m' σ' H')/\∀ x H',J.yld i H x H'->g x σ H' fun σ2 H2=>tb { D with nx:=N,ct:=N,bk:=D.nx } σ2 H2)):vd0 wi g tb D σ H:=h
def yph {R:It->Hp->Prop} (h:ta σ H fun x H1=>∃ a,x=.ref a/\(∃ xs,SqL K H1 a xs)/\R (Itl K a) H1):vac K ta σ H R:=h
def yy7 {R:It->Hp->Prop} (h:ta σ H fun x H1=>∃ a,x=.ref a/\(∃ xs,SqT K H1 a xs)/\R (Itt K a) H1):vd4 K ta σ H R:=h
def yqx {R:It->Hp->Prop} (h:tr σ H fun vs H1=>∃ j:Int,vs=[.int j]/\-(2 ^ 62) <= j/\j < 2 ^ 62/\R (Itr 0 j.toNat) H1):yz2 tr σ H R:=h
def Ü {n m:String} {k:Bool} {P:Bool->Prop} (ty:xo K H x (.type n)) (e:W.kitOne K (.type n) (.type m)=some k) (h:P k) :
  ∃ x' cv t c k',[x,V.ty m]=[x',cv]/\xb cv c/\(∀ u,xb cv u->u=c)/\xo K H x' t/\W.kitOne K t c=some k'/\P k':=⟨x,.ty m,.type n,.type m,k,rfl,rfl,fun _ r=>r,ty,e,h⟩
def yq3 (h:nx σ H):vz nx σ H:=h
end
def yn9:V->Bool
 | .int _=>true
 | .bl _=>true
 | _=>false
def yh0:V->Bool
 | .bl _=>true
 | _=>false
def jp:V->Bool
 | .int _=>true
 | _=>false
def ylb (K:W.Frag) (n:String):W.kitOne K (.type n) (.type n)=some true:=by
 unfold W.kitOne;rw [if_pos (by simp)]
def ypo {K:W.Frag} {H:Hp} {x:V} {n:String} (ty:xo K H x (.type n)):W.kitOne K (.type n) (.type "int")=some (yn9 x):=by
 cases ty <;> rfl
def yma {K:W.Frag} {H:Hp} {x:V} {n:String} (ty:xo K H x (.type n)):W.kitOne K (.type n) (.type "bool")=some (yh0 x):=by
 cases ty <;> rfl
end L2
namespace SpanMath
def Ch (c:Int):Prop:=32768 <= c/\c <= 16744448
def ren (l w s:Int):Int × Int × Int :=
 if w < 4294967296 then (if w * 256 < 4294967296 then (l * 65536,w * 65536,s+2) else (l * 256,w * 256,s+1)) else (l,w,s)
def cut (w c:Int):Int:=w * c / 16777216
def nar (x:Int × Int × Int) (c b:Int):Int × Int × Int :=
 if b=1 then ren x.1 (cut x.2.1 c) x.2.2 else ren (x.1+cut x.2.1 c) (x.2.1 - cut x.2.1 c) x.2.2
def s0:Int × Int × Int:=(0,1099511627776,5)
def yj8 {l w s:Int} (h:w < 4294967296) (h2:8388608 <= w):ren (l * 256) (w * 256) (s+1)=ren l w s:=by
 unfold ren;rw [if_pos h];by_cases h3:w * 256 < 4294967296
 .rw [if_pos h3,if_pos h3,if_neg (by omega)];refine Prod.ext ?_ (Prod.ext ?_ ?_)
  .show l * 256 * 256=l * 65536; omega
  .show w * 256 * 256=w * 65536; omega
  .show s+1+1=s+2; omega
 .rw [if_neg h3,if_neg h3]
def yqc {l w s:Int} (h:¬ w < 4294967296):ren l w s=(l,w,s):=by
 unfold ren; rw [if_neg h]
def yan {w c:Int} (hw:4294967296 <= w) (hw2:w <= 1099511627776) (hc:Ch c):8388608 <= cut w c/\8388608 <= w - cut w c/\cut w c < 1099511627776:=by
 obtain ⟨b,a⟩:=hc;have e:w * 32768 <= w * c:=dQ b (by omega);have d:w * c <= w * 16744448:=dQ a (by omega);unfold cut;generalize w * c=p at e d ⊢;omega
structure Ok (x:Int × Int × Int):Prop where
 l0:0 <= x.1
 w0:4294967296 <= x.2.1
 w1:x.2.1 <= 1099511627776
 z:5 <= x.2.2
def ok0:Ok s0:=⟨by decide,by decide,by decide,by decide⟩
def ym6 {l w s:Int} (h0:0 <= l) (h1:8388608 <= w) (h2:w <= 1099511627776) (h3:5 <= s):Ok (ren l w s):=by
 unfold ren
 split
 .split
  .exists by show 0 <= l * 65536; omega,by show _ <= w * 65536; omega,by show w * 65536 <= _; omega,by show 5 <= s+2; omega
  .exists by show 0 <= l * 256; omega,by show _ <= w * 256; omega,by show w * 256 <= _; omega,by show 5 <= s+1; omega
 .exists h0,by show _ <= w; omega,h2,h3
def yvy {x:Int × Int × Int} {c b:Int} (h:Ok x) (hc:Ch c):Ok (nar x c b):=by
 obtain ⟨a,e,d⟩:=yan h.w0 h.w1 hc;have:=h.l0; have:=h.w0; have:=h.w1; have:=h.z;unfold nar
 split
 .exact ym6 (by omega) (by omega) (by omega) (by omega)
 .exact ym6 (by omega) (by omega) (by omega) (by omega)
end SpanMath
namespace SpanMath
def pw:Nat->Int
 | 0=>1
 | k+1=>pw k * 256
theorem uq:∀ k,0 < pw k
 | 0=>by decide
 | k+1=>by have:=uq k; show 0 < pw k * 256; omega
theorem yd6 (a:Nat):∀ b,pw (a+b)=pw a * pw b
 | 0=>by simp [pw]
 | b+1=>by
  show pw (a+b) * 256=pw a * (pw b * 256);rw [yd6 a b,Int.mul_assoc]
def yh6 {a b:Nat} (h:a <= b):pw a <= pw b:=by
 obtain ⟨c,rfl⟩:=Nat.exists_eq_add_of_le h;rw [yd6];have d:=uq a;have e:=uq c
 calc pw a=pw a * 1:=by omega
  _ <= pw a * pw c:=dQ (by omega) (by omega)
def vad {a b:Nat} (h:pw a < pw b):a < b:=by
 apply Nat.lt_of_not_le;intro q;have:=yh6 q;omega
def lo:Nat->Int->List Int
 | 0,_=>[]
 | k+1,n=>n % 256 :: lo k (n / 256)
def wr (k:Nat) (n:Int):List Int:=(lo k n).reverse
theorem you:∀ k n,(lo k n).length=k
 | 0,_=>rfl
 | k+1,n=>by simp [lo,you k]
def yzc (k:Nat) (n:Int):(wr k n).length=k:=by simp [wr,you]
theorem yih:∀ k n,∀ x∈lo k n,0 <= x/\x <= 255
 | 0,_,x,h=>by simp [lo] at h
 | k+1,n,x,h=>by
  simp only [lo,cT] at h;rcases h with rfl | h
  .omega
  .exact yih k _ x h
def ypf (k:Nat) (n:Int):∀ x∈wr k n,0 <= x/\x <= 255:=fun x h=>yih k n x (by simpa [wr] using h)
def yqv (k:Nat) (n:Int):wr (k+1) n=wr k (n / 256)++[n % 256]:=by simp [wr,lo]
def val (xs:List Int):Int:=xs.foldl (fun a b=>a * 256+b) 0
def ycu (xs:List Int) (b:Int):val (xs++[b])=val xs * 256+b:=by simp [val,List.foldl_append]
theorem ymu:∀ (k:Nat) (n:Int),0 <= n->n < pw k->val (wr k n)=n
 | 0,n,h0,h1=>by
  have:n < 1:=h1;have:n=0:=by omega
  subst this; rfl
 | k+1,n,h0,h1=>by
  have a:n < pw k * 256:=h1;rw [yqv,ycu,ymu k (n / 256) (by omega) (by omega)];omega
def veo:Nat->Int->Int->Nat
 | 0,_,_=>0
 | n+1,a,b=>if a=b then 0 else veo n (a / 256) (b / 256)+1
end SpanMath
namespace SpanMath
abbrev Sn:=Int × Int × Int
def sz (x:Sn):Nat:=x.2.2.toNat
structure OkS (x:Sn):Prop where
 ok:Ok x
 top:x.1+x.2.1 <= pw (sz x)
theorem OkS.sz {x:Sn} (h:OkS x):((sz x:Nat):Int)=x.2.2:=by
 have:=h.ok.z;unfold SpanMath.sz;omega
def OkS.sz5 {x:Sn} (h:OkS x):5 <= SpanMath.sz x:=by
 have:=h.ok.z;unfold SpanMath.sz;omega
def vcs:OkS s0:=⟨ok0,by decide⟩
structure Sub (x y:Sn) (r:Nat):Prop where
 z:sz y=sz x+r
 l:x.1 * pw r <= y.1
 h:y.1+y.2.1 <= (x.1+x.2.1) * pw r
def yhs {l w s:Int} (hs:0 <= s):∃ r,Sub (l,w,s) (ren l w s) r/\(ren l w s).2.1=w * pw r/\(ren l w s).1=l * pw r:=by
 unfold ren
 split
 .split
  .refine ⟨2,⟨?_,?_,?_⟩,?_,?_⟩
   .show (s+2).toNat=s.toNat+2; omega
   .show l * (1 * 256 * 256) <= l * 65536; omega
   .show l * 65536+w * 65536 <= (l+w) * (1 * 256 * 256); omega
   .show w * 65536=w * (1 * 256 * 256); omega
   .show l * 65536=l * (1 * 256 * 256); omega
  .refine ⟨1,⟨?_,?_,?_⟩,?_,?_⟩
   .show (s+1).toNat=s.toNat+1; omega
   .show l * (1 * 256) <= l * 256; omega
   .show l * 256+w * 256 <= (l+w) * (1 * 256); omega
   .show w * 256=w * (1 * 256); omega
   .show l * 256=l * (1 * 256); omega
 .refine ⟨0,⟨?_,?_,?_⟩,?_,?_⟩
  .rfl
  .show l * 1 <= l; omega
  .show l+w <= (l+w) * 1; omega
  .show w=w * 1; omega
  .show l=l * 1; omega
def yrc {x:Sn} {c b:Int} (h:Ok x) (hc:Ch c):∃ r,Sub x (nar x c b) r:=by
 obtain ⟨j,k,g⟩:=yan h.w0 h.w1 hc;have f:=h.l0; have i:=h.z;unfold nar
 split
 .obtain ⟨r,⟨d,a,e⟩,_⟩:=yhs (l:=x.1) (w:=cut x.2.1 c) (s:=x.2.2) (by omega);exists r,d,a,Int.le_trans e (dG ?_ (Int.le_of_lt (uq r)));show x.1+cut x.2.1 c <= x.1+x.2.1;omega
 .obtain ⟨r,⟨d,a,e⟩,_⟩:=yhs (l:=x.1+cut x.2.1 c) (w:=x.2.1 - cut x.2.1 c) (s:=x.2.2) (by omega);exists r,d,Int.le_trans (dG ?_ (Int.le_of_lt (uq r))) a,Int.le_trans e (dG ?_ (Int.le_of_lt (uq r)))
  .show x.1 <= x.1+cut x.2.1 c; omega
  .show x.1+cut x.2.1 c+(x.2.1 - cut x.2.1 c) <= x.1+x.2.1; omega
def yb0 {x:Sn} {c b:Int} (h:OkS x) (hc:Ch c):OkS (nar x c b):=by
 exists yvy h.ok hc,?_;obtain ⟨r,q⟩:=yrc (b:=b) h.ok hc;rw [q.z,yd6];exact Int.le_trans q.h (dG h.top (Int.le_of_lt (uq r)))
def blk (l e:Int):Int:=(l+e - 1) / e
def yfs (l w:Int) (k:Nat):Prop:=(blk l (pw k)+1) * pw k <= l+w
instance (l w:Int) (k:Nat):Decidable (yfs l w k):=inferInstanceAs (Decidable ((blk l (pw k)+1) * pw k <= l+w))
def ym8 (l:Int) {e:Int} (h:0 < e):l <= blk l e * e/\blk l e * e < l+e:=by
 unfold blk;have a:=Int.emod_add_mul_ediv (l+e - 1) e;have c:=dF (l+e - 1) (show e≠0 by omega);have b:=dv (l+e - 1) h;rw [Int.mul_comm] at a;generalize (l+e - 1) / e * e=q at a ⊢;omega
def yhy {l w:Int} {k:Nat} (h:yfs l w k):pw k <= w:=by
 have a:=ym8 l (uq k);unfold yfs at h;rw [Int.add_mul] at h;omega
def tel (l w:Int):Nat->Nat->Nat
 | 0,k=>k
 | f+1,k=>if yfs l w (k+1) then tel l w f (k+1) else k
def yln {l w:Int} {f k:Nat} (h:yfs l w (k+1)):tel l w f (k+1)=tel l w (f+1) k:=by
 rw [tel,if_pos h]
def yqk {l w:Int} {f k:Nat} (h:¬ yfs l w (k+1)):tel l w f k=k:=by
 cases f with
 | zero=>rfl
 | succ f=>rw [tel,if_neg h]
theorem yc0 {l w:Int}:∀ {f k:Nat},yfs l w k->yfs l w (tel l w f k)
 | 0,_,h=>h
 | f+1,k,h=>by
  unfold tel
  split
  .rename_i q; exact yc0 q
  .exact h
def pw5:pw 5=1099511627776:=by decide
def ynq {l w:Int} {k:Nat} (hw:w <= 1099511627776) (h:yfs l w k):k <= 5:=by
 have a:=yhy h;rw [<- pw5] at hw;have b:pw k < pw 6:=Int.lt_of_le_of_lt (Int.le_trans a hw) (by decide);have:=vad b;omega
def tK (x:Sn):Nat:=tel x.1 x.2.1 5 0
def tCn (x:Sn):Int:=blk x.1 (pw (tK x))
def tL (x:Sn):List Int:=wr (sz x - tK x) (tCn x)
def vbs {x:Sn} (h:Ok x):yfs x.1 x.2.1 0:=by
 have:=h.w0;show ((x.1+1 - 1) / 1+1) * 1 <= x.1+x.2.1;omega
def Ś {x:Sn} (h:Ok x):yfs x.1 x.2.1 (tK x):=yc0 (vbs h)
def yti {x:Sn} (h:OkS x):tK x <= 5/\tK x <= sz x:=by
 have a:=ynq h.ok.w1 (Ś h.ok);have b:=h.sz5;omega
def yiq (x:Sn):(tL x).length=sz x - tK x:=yzc _ _
def yyg {x:Sn} (h:Ok x):0 <= tCn x:=by
 have:=h.l0;have:=uq (tK x);exact Int.ediv_nonneg (by omega) (by omega)
def yze {x:Sn} (h:OkS x):tCn x < pw (sz x - tK x):=by
 have b:(tCn x+1) * pw (tK x) <= x.1+x.2.1:=Ś h.ok;have a:=h.top;have e:sz x - tK x+tK x=sz x:=Nat.sub_add_cancel (yti h).2;rw [<- e,yd6] at a;have c:=Int.le_of_mul_le_mul_right (Int.le_trans b a) (uq (tK x));omega
def yzl {x:Sn} (h:OkS x):val (tL x)=tCn x:=ymu _ _ (yyg h.ok) (yze h)
end SpanMath
namespace L2
open PySem PySem.Spec PyProof.Rows
def ydn (J:It) (te:TE) (D:Addr) (R:Hp->Prop) (H1:Hp):Prop:=∃ W:Nat->Nat->Hp->Prop,(∃ m,W 0 m (upd H1 D (.lst []))) /\
 ∀ i m H2,W i m H2->(J.stop i H2/\R H2)\/(J.go i H2/\∀ x H3,J.yld i H2 x H3->te [some x] H3 fun y H4=>∃ ys,H4 D=some (.lst ys)/\ys.length < sizeLine/\∃ m',m' < m/\W (i+1) m' (upd H4 D (.lst (ys++[y]))))
section
variable {X:Cx} {iter elt:Expr} {x:Str} {px pos:Pos} {scope:Scope} {te:TE} {wi:TI} {pins:List (Addr × Obj)} {σ:St}
def va4 {α:Type} {t:Sem α} {Q Q':α->Shared->Prop} {M:Model} {A:Around} {E:Value->Shared->Prop} {s:Shared} (h:wpAny M A t Q (fun _ _=>False) s) (hQ:∀ a s,Q a s->Q' a s):wpAny M A t Q' E s:=dU h hQ fun _ _ z=>z.elim
def cW (n:Nat) (Pv:Nat->Hp->Prop) (i m:Nat) (H:Hp):Prop:=m=n - i/\i <= n/\Pv i H
def u5 {K:W.Frag} {a D:Addr} {xs:List V} {R:Hp->Prop} {H1:Hp} (Pv:Nat->Hp->Prop) (h0:Pv 0 (upd H1 D (.lst []))) (hl:∀ i H,i <= xs.length->Pv i H->SqL K H a xs)
  (hs:∀ i x H,xs[i]?=some x->i < xs.length->Pv i H->te [some x] H fun y H4=>∃ ys,H4 D=some (.lst ys)/\ys.length < sizeLine/\∃ m',m' < xs.length - i/\cW xs.length Pv (i+1) m' (upd H4 D (.lst (ys++[y]))))
  (hd:∀ H,Pv xs.length H->R H):ydn (Itl K a) te D R H1:=by
 exists cW xs.length Pv,⟨xs.length,by simp,cV _,h0⟩,?_;rintro i m H ⟨rfl,b,p⟩;have q:=hl i H b p;by_cases hlt:i < xs.length
 .refine .inr ⟨⟨xs,xs[i],q,by simp [hlt]⟩,fun x c y=>?_⟩;obtain ⟨e,y⟩:=y;subst e;exact hs i x _ (y xs q) hlt p
 .have e:i=xs.length:=by omega
  subst e;exact .inl ⟨⟨xs,q,cE _⟩,hd H p⟩
def xm {n i:Nat} {Pv:Nat->Hp->Prop} {D:Addr} {ys:List V} {y:V} {H4:Hp} (hD:H4 D=some (.lst ys)) (hl:ys.length < sizeLine) (hi:i < n) (p:Pv (i+1) (upd H4 D (.lst (ys++[y])))) :
  ∃ ys,H4 D=some (.lst ys)/\ys.length < sizeLine/\∃ m',m' < n - i/\cW n Pv (i+1) m' (upd H4 D (.lst (ys++[y]))):=⟨ys,hD,hl,n - (i+1),by omega,rfl,hi,p⟩
end
end L2
namespace L2
open PySem
def yb9:Expr->Bool
 | .Starred _ _=>false
 | _=>true
def yh9 {e:Expr} {es:List Expr} {env:Env} (h:yb9 e=true):starEach (e :: es) env=(false,eval e env) :: starEach es env:=by
 cases e <;> first | rfl | cases h
end L2
namespace L2
open PySem PySem.Spec PyProof.Rows
variable {C D a:Addr} {e:Expr} {h':Heap} {pins:List (Addr × Obj)} {P:Program} {scope:Scope} {qual:Str} {cd u:Value} {E Q:Value->Shared->Prop}
structure XCls (K:W.Frag) (C:Addr):Prop where
 hd:W.hasDictIn K C=true
 ga:W.findIn K (.ref C) "__getattribute__"=some (some (.builtin "BaseException.__getattribute__"))
 gt:W.findIn K (.ref C) "__getattr__"=some none
 ca:W.findIn K (.ref C) "__class__"=some (some (.builtin "object.__class__"))
 gg:W.specialIn K (.builtin "object.__class__") "__get__"=some (some (.builtin "getset_descriptor.__get__"))
 tk:W.takesIn K (.builtin "object.__class__")=some true
 mo:W.mroIn K C (.type "object")=some true
 mb:W.mroIn K C (.type "BaseException")=some true
def ywa {K:W.Frag} (h0:W.subIn K (.ref D) (.type "BaseException")=some true) (h1:W.hasDictIn K D=true) (h2:W.typeIn K (.ref D)=some (.type "type"))
  (h3:W.subIn K (.ref C) (.ref D)=some true):W.exmOne K (.ref C) (.ref D)=some true:=by
 obtain ⟨a,h,_⟩:=W.any_some h1;unfold W.exmOne W.kitCls;rw [h0];dsimp only;rw [h,h2,h3];rfl
def vdf (x C:Addr) (h:Heap):Prop:=∃ ox,h.get? x=some ox/\ox.cls=.ref C
section
variable {prog:Program} {w:World} {A:Around} {s:Shared} {K:W.Frag} {x:Addr}
def vdf.type {M:Model} {h:Heap} (I:vdf x C h):W.Looks M h (typeOf (.ref x)) (.ref C):=by
 obtain ⟨c,a,b⟩:=I;exact b ▸ (W.Looks.ld a).andThen .now
end
section
variable {X:Cx}
theorem Ŵ:∀ {Cs:List Addr} {us:List Value},wg (Cs.map V.ref) us->us=Cs.map Value.ref
 | [],_,.nil=>rfl
 | C :: r,_,.cons a t=>by rw [show _=Value.ref C from a,Ŵ t]; rfl
end
def wq.there {w:World} {H:Hp} {h:Heap} {o:HO} (x:wq P w H h a o):∃ ob,h.get? a=some ob:=by
 cases o with
 | lst xs=>obtain ⟨_,_,_,_,e⟩:=x; exists _,e
 | tup xs=>obtain ⟨_,_,_,ob,e,_⟩:=x; exists _,e
 | dK kvs=>obtain ⟨_,_,_,_,ob,_,_,e,_⟩:=x; exists _,e
 | dT kvs=>obtain ⟨_,_,_,_,ob,_,_,e,_⟩:=x; exists _,e
 | set S n=>obtain ⟨ob,_,_,_,e,_⟩:=x; exists _,e
 | ins C dx fs=>obtain ⟨_,_,_,e,_⟩:=x; exists _,e
 | own y=>exact x
 | xd fs=>obtain ⟨_,⟨_,_,_,e,_⟩,_⟩:=x; exists _,e
 | rng lo hi=>obtain ⟨_,_,_,e⟩:=x; exists _,e
 | frz ob u=>obtain ⟨e,_⟩:=x; exists _,e
 | tbl ps=>exists _,(show h.get? a=some _ from x)
 | met f y=>exists _,(show h.get? a=some _ from x)
 | ext φ=>obtain ⟨_,e,_⟩:=x; exact e
def HOk.none_of {w:World} {H:Hp} {h:Heap} (x:HOk P w H h) (e:h.get? a=none):H a=none:=by
 cases q:H a with
 | none=>rfl
 | some u =>
  obtain ⟨b,z⟩:=(x a u q).there;rw [e] at z;cases z
def Fy (X:Cx) (pins:List (Addr × Obj)) (H:Hp) (b:Addr):Prop :=
 H b=none/\b≠X.env.locals/\b∉X.fs/\(b∈X.ex\/X.s₀.heap.get? b=none)/\(∀ y c,X.env.cells.lookup y=some c->c≠b)/\∀ p∈X.pn++pins,p.1≠b
section
variable {X:Cx} {σ:St} {H H':Hp} {s:Shared} {b x T:Addr}
def yd3 (I:Inv X pins σ H s) (hb:s.heap.get? b=none) (hn:H' b=none):Fy X pins H' b:=by
 exists hn,?_,?_,?_,?_,?_
 .rintro rfl;obtain ⟨_,⟨_,_,_,e,_⟩,_⟩:=I.loc;rw [hb] at e; cases e
 .intro z;obtain ⟨_,o,e,_⟩:=I.funs.mem z;rw [hb] at e; cases e
 .by_cases hx:b∈X.ex
  .exact .inl hx
  .refine .inr ?_
   cases q:X.s₀.heap.get? b with
   | none=>rfl
   | some o =>
    obtain ⟨_,e⟩:=I.base.there b o q hx;rw [hb] at e; cases e
 .rintro y c e rfl;obtain ⟨_,_,q,_⟩:=I.cell y c e;rw [hb] at q; cases q
 .intro p a z;have q:=(I.pin p a).1;rw [z,hb] at q; cases q
def Inv.fly (I:Inv X pins σ H s) (hx:Fy X pins H x) (hT:Fy X pins H T)
  (keep:∀ b o,b≠x->b≠T->b∉frs X.stack->s.heap.get? b=some o->h'.get? b=some o)
  (slot:∀ b o,b∈frs X.stack->s.heap.get? b=some o->∃ sl,h'.get? b=some { o with slots:=sl }):Inv X pins σ H { s with heap:=h' }:=by
 have f:∀ {y b o},Fy X pins H y->X.s₀.heap.get? b=some o->b∉X.ex->b≠y:=fun {y b o} L e a z=>by
  subst z;rcases L.2.2.2.1 with q | q
  .exact a q
  .rw [e] at q; cases q
 have h:∀ b o,b≠x->b≠T->s.heap.get? b=some o->∃ sl,h'.get? b=some { o with slots:=sl }:=fun b o M W e=>by
  by_cases z:b∈frs X.stack
  .exact slot b o z e
  .exists o.slots,keep b o M W z e
 have g:∀ y c,X.env.cells.lookup y=some c->∀ v,s.heap.IsCell c v->h'.IsCell c v:=fun y c e v ⟨o,C,R⟩=>by
  obtain ⟨sl,q⟩:=h c o (hx.2.2.2.2.1 y c e) (hT.2.2.2.2.1 y c e) C;exists _,q,R
 exists I.ok,I.os,I.bare,⟨fun b o e n A a=>?_,fun b o e n A a=>?_,I.base.free,fun b o e a=>?_,I.base.tups,I.base.frzs,I.base.tbls⟩,?_,fun y c e=>?_,I.free,I.freeC,fun p D=>?_,fun b u e=>?_,I.len
 .refine keep b o (f hx e a) (f hT e a) (fun z=>?_) (I.base.keep b o e n A a);rcases cT.mp (I.stkSub b z) with q | q
  .exact absurd q (cU (dg (cH e) I.ok.above))
  .exact A q
 .obtain ⟨sl,t⟩:=I.base.slot b o e n A a;obtain ⟨w,j⟩:=h b _ (f hx e a) (f hT e a) t;exists w,j
 .obtain ⟨Y,t⟩:=I.base.there b o e a;obtain ⟨w,j⟩:=h b _ (f hx e a) (f hT e a) t;exists _,j
 .obtain ⟨m,P,O⟩:=I.loc;exists m,?_,fun i y v t j Q=>?_
  .obtain ⟨o,J,N,C,r⟩:=P;obtain ⟨sl,q⟩:=h _ o (Ne.symm hx.2.1) (Ne.symm hT.2.1) C;exists _,J,N,q,r
  .obtain ⟨u,r,l⟩:=O i y v t j Q;exists u,r,?_;rcases l with l | ⟨k,c,e,z⟩
   .exact .inl l
   .exact .inr ⟨k,c,e,g y c e _ z⟩
 .obtain ⟨v,z⟩:=I.cell y c e;exists v,g y c e v z
 .obtain ⟨e,n,G,E,d⟩:=I.pin p D;exists keep p.1 p.2 (hx.2.2.2.2.2 p D) (hT.2.2.2.2.2 p D) (fun z=>?_) e,n,G,E,d;rcases cT.mp (I.stkSub _ z) with q | q
  .exact G q
  .exact E q
 .have F:∀ c v,H c=some v->c≠x/\c≠T/\c∉frs X.stack:=fun c v q =>
   ⟨fun z=>(by rw [z,hx.1] at q; cases q),fun z=>(by rw [z,hT.1] at q; cases q),fun z=>(by rw [I.stkFree c z] at q; cases q)⟩
  refine (I.hok b u e).stay (fun c v B q=>?_) (fun _ q=>q) fun _ _ q=>q
  obtain ⟨K,U,S⟩:c≠x/\c≠T/\c∉frs X.stack:=by
   rcases B with rfl | B
   .exact F _ _ e
   .exact F _ _ B
  exact keep c v K U S q
def Trd (h:Heap) (x T:Addr) (C fl:Value):Prop :=
 ∃ oe vs oT ts a0,h.get? x=some oe/\(oe.cls=C/\vs[0]?=some a0)/\oe.data=.fields vs/\vs[1]?=some (.ref T)/\T≠x/\h.get? T=some oT/\oT.data=.fields ts/\ts[3]?=some fl
def hid (s:Shared) (X:Cx) (x T:Addr):Heap:=W.hideAll s.heap (x :: T :: frs X.stack)
def yag:(hid s X x T).StaysIn s.heap:=fun _ _ e=>W.of_hideAll _ e
def ysg:(hid s X x T).get? x=none:=W.hideAll_none _ (.head _)
def vch:(hid s X x T).get? T=none:=W.hideAll_none _ (.tail _ (.head _))
def yac (I:Inv X pins σ H s):s.heap.FunFrames (hid s X x T) X.stack :=
 W.funFrames_hide I.stack fun b c a d=>.tail _ (.tail _ (List.mem_filterMap.mpr ⟨b,c,d⟩))
def yd2 {C fl:Value} (t:Trd s.heap x T C fl):∃ a0,s.heap.TracedAtW (hid s X x T) x C a0 fl:=by
 obtain ⟨b,h,f,d,a0,e,c,i,l,j,a,k,g⟩:=t;exists a0,b,h,T,f,d,e,c,i,l,vch,j,a,k,g
def zx {C a0 fl:Value} (I:Inv X pins σ H s) (hx:Fy X pins H x) (hT:Fy X pins H T) (k1:(hid s X x T).StaysIn h') (k2:h'.FunFrames (hid s X x T) X.stack) (k3:h'.TracedAtW (hid s X x T) x C a0 fl)
  (k4:∀ b o,s.heap.get? b=some o->(∀ vs,o.data≠.fields vs)->∃ sl,h'.get? b=some { o with slots:=sl }) :
  Inv X pins σ H { s with heap:=h' }/\∃ T',Fy X pins H T'/\Trd h' x T' C fl:=by
 exists I.fly hx hT (fun b o v h l e=>k1 b o (W.hideAll_get _ e fun z=>?_)) fun b o j e=>?_,?_
 .rcases cT.mp z with z | z
  .exact v z
  .rcases cT.mp z with z | z
   .exact h z
   .exact l z
 .obtain ⟨_,y,a,c⟩:=I.stack.mem j;rw [e] at a; cases a;exact k4 b o e c
 .obtain ⟨p,vs,T',i,w,k,A,n,u,t,f,d,g,r⟩:=k3;exists T',?_,p,vs,i,w,a0,k,A,n,u,f,d,g,r;by_cases q:T'=T
  .rw [q]; exact hT
  .cases e:s.heap.get? T' with
   | none=>exact yd3 I e (I.hok.none_of e)
   | some o =>
    have z:T'∈frs X.stack:=Classical.byContradiction fun z=>by
     have:=W.hideAll_get (x :: T :: frs X.stack) e (fun m=>by
      rcases cT.mp m with m | m
      .exact f m
      .rcases cT.mp m with m | m
       .exact q m
       .exact z m)
     rw [show (W.hideAll s.heap (x :: T :: frs X.stack)).get? T'=none from t] at this;cases this
    obtain ⟨_,y,a,c⟩:=k2.mem z;rw [d] at a; cases a;exact absurd g (c _)
end
def CXe (P:Program) (w:World):CXT:=fun outer H s E e s'=>∃ x T C H',e=.ref x/\s'.os=s.os/\AllBare s'.gens/\Un (frs outer) [] H H' s.heap s'.heap/\HOk P w H' s'.heap /\
 (H' x=none/\s.heap.get? x=none)/\(H' T=none/\s.heap.get? T=none)/\Trd s'.heap x T C .none/\E C none H'
def Ĝ (X:Cx) (Ex:St->XK):Prop:=∀ (pins:List (Addr × Obj)) (σ:St) (H:Hp) (s':Shared) (x T:Addr) (C:Value),Inv X pins σ H s'->Fy X pins H x->Fy X pins H T->Trd s'.heap x T C .none->Ex σ C none H->X.xe (.ref x) s'
def y7 {w:World} {K:W.Frag} {mg:Str->Option Value} {base:Heap} {N:List Str} {f:Addr} {A:Around} {outer:List Env} {s:Shared} {H:Hp} {E:XK} :
  Ĝ (vn (CXe P w) P w K mg base N qual scope f cd A outer s H E) (fun _=>E):=by
 intro a σ e l x T C I i p r q;show wpAny _ _ (leaving _ _) _ _ _;obtain ⟨y,m⟩:=yd2 (X:=vn (CXe P w) P w K mg base N qual scope f cd A outer s H E) r;refine wpAny_leaving_nextW (base:=hid l (vn (CXe P w) P w K mg base N qual scope f cd A outer s H E) x T) (L:=s.heap.objs.size) I.ok.frames (yac I) rfl m yag ysg fun v ⟨t,u,j,n⟩=>?_;obtain ⟨d,k,g,o⟩:=zx I i p t u j n;have c:∀ {b},Fy (vn (CXe P w) P w K mg base N qual scope f cd A outer s H E) a e b->e b=none/\s.heap.get? b=none:=fun h=>⟨h.1,h.2.2.2.1.resolve_left (by intro z; cases z)⟩;exists x,k,C,e,rfl,d.os,d.bare,d.base,d.hok,c i,c g,o,q
def ylv {w:World} {K:W.Frag} {mg:Str->Option Value} {base:Heap} {N:List Str} {f:Addr} {A:Around} {outer:List Env} {s:Shared} {H:Hp} {E:XK}
  {pins:List (Addr × Obj)} {σ:St} {H1:Hp} {s1:Shared} {h':Heap} {x:Addr} {C:Value} {vs:List Value} (I:Inv (vn (CXe P w) P w K mg base N qual scope f cd A outer s H E) pins σ H1 s1) (m:Heap.MadeExcOf s1.heap h' x C vs) (q:E C none H1) :
  (vn (CXe P w) P w K mg base N qual scope f cd A outer s H E).xe (.ref x) { s1 with heap:=h' }:=by
 obtain ⟨t,n,_,_⟩:=m.there;have e:Fy (vn (CXe P w) P w K mg base N qual scope f cd A outer s H E) pins H1 x:=yd3 I m.new (I.hok.none_of m.new);have g:Inv (vn (CXe P w) P w K mg base N qual scope f cd A outer s H E) pins σ H1 { s1 with heap:=h' }:=I.kept (t':=s1.toks) m.keeps;show wpAny _ _ (leaving _ _) _ _ _
 refine wpAny_leaving_firstW (base:=hid { s1 with heap:=h' } (vn (CXe P w) P w K mg base N qual scope f cd A outer s H E) x x) (L:=s.heap.objs.size) (a0:=.ref t) g.ok.frames (yac g) rfl n yag ysg rfl rfl rfl fun p ⟨j,k,l,i⟩=>?_
 obtain ⟨c,o,d,t'⟩:=zx g e e j k l i;have a:∀ {b},Fy (vn (CXe P w) P w K mg base N qual scope f cd A outer s H E) pins H1 b->H1 b=none/\s.heap.get? b=none:=fun h=>⟨h.1,h.2.2.2.1.resolve_left (by intro z; cases z)⟩;exists x,o,C,H1,rfl,c.os,c.bare,c.base,c.hok,a e,a d,t',q
def yip (sp:Sp) (dvs:List V) (Ex:St->XK) (t:TA):TE:=fun σ H Q=>t σ H fun vs H1=>sp (vs++dvs) H1 Q (Ex σ)
def yal (C:Addr) (m:Str) (sp:Sp) (dvs:List V) (Ex:St->XK) (ta:TE) (t:TA):TE:=fun σ H Q=>ta σ H fun x H1=>∃ a dx fs,x=.ref a/\H1 a=some (.ins C dx fs)/\fs.lookup m=none /\
 t σ H1 fun vs H2=>sp (x :: (vs++dvs)) H2 Q (Ex σ)
def ym5 (C:Addr) (sp:Sp) (dvs:List V) (Ex:St->XK) (t:TA):TE:=fun σ H Q=>t σ H fun vs H1=>∀ x dx,H1 x=none->H1 dx=none->dx≠x ->
 sp (.ref x :: (vs++dvs)) (upd (upd H1 dx (.own x)) x (.ins C dx [])) (fun v H2=>v=.non/\Q (.ref x) H2) (Ex σ)
section
variable {X:Cx} {k:Nat} {f:Addr} {fd:FuncData} {ps:List Str} {sp:Sp} {dvs:List V} {ds:List Value} {Ex:St->XK} {x m:Str} {p pos apos:Pos} {o:Expr} {es:List Expr} {ta:TE} {t:TA}
def Inv.came {σ:St} {H:Hp} {s s':Shared} {v:Value} (I:Inv X pins σ H s) (hc:Ĝ X Ex) (h:CXe X.prog X.w X.stack H s (Ex σ) v s'):X.xe v s':=by
 obtain ⟨y,T,D,g,rfl,i,a,j,c,d,e,f,q⟩:=h;exact hc pins σ g s' y T D (I.call' i j c a fun b z=>absurd z (by simp)) (yd3 I d.2 d.1) (yd3 I e.2 e.1) f q
def yid {σ:St} {H:Hp} {s:Shared} {Q:VK} {us:List Value} {vs:List V} (F:vk X.prog X.w X.K X.mg X.base (CXe X.prog X.w) k f fd ps sp) (hr:zr k X.A) (hb:uc X.K fd ps ds) (hd:wg dvs ds) (hc:Ĝ X Ex)
  (I:Inv X pins σ H s) (r:wg vs us) (h:sp (vs++dvs) H Q (Ex σ)):wpAny (model X.prog X.w) X.A (call (.ref f) us) (EP X pins σ Q) X.xe s:=by
 have b:wg (vs++dvs) (us++ds):=r.append hd;have c:(us++ds).length=ps.length:=by rw [<- b.length]; exact F.len _ _ _ _ h
 refine wpAny_call (codeAny_mono (F.run X.A X.stack s H ⟨us,[]⟩ (us++ds) (vs++dvs) Q (Ex σ) hr I.env0 (hb s us I.kIn c) b h) fun r d a=>?_)
 cases r with
 | error e=>exact I.came hc a
 | ok fl =>
  cases fl with
  | ret u=>exact I.after a
  | next=>exact False.elim a
  | brk=>exact False.elim a
  | cont=>exact False.elim a
def yki (F:vk X.prog X.w X.K X.mg X.base (CXe X.prog X.w) k f fd ps sp) (hr:zr k X.A) (hg:Gl X x) (hm:X.mg x=some (.ref f)) (hk:W.keepIn X.K (.ref f)=true) (hb:uc X.K fd ps ds) (hd:wg dvs ds) (hc:Ĝ X Ex)
  (ha:PA X (e :: es) t) (hdb:(x == ("__debug__":Str))=false:=by decide) (he:starEach (e :: es) X.env=(false,eval e X.env) :: starEach es X.env:=by rfl) (hpl:(backTo pos (starEach es X.env)).any (·.1)=false:=by rfl) :
  PE X (.Call (.Name x p) (e :: es) [] pos) (yip sp dvs Ex t):=by
 refine .mk fun a s σ H Q I h=>?_;refine wpAny_Call_Name_kw (z0 I hg hm ?_ hdb);refine W.callWith_K (h₀:=X.base) I.ok.mod.kin hk (thn (ha pos a s σ H _ I h) fun c d ⟨i,g,b,r,q⟩=>⟨b.kIn,?_⟩) he hpl;exact yid F hr hb hd hc b r q
def vg {pl:Sem Bool} (he:PE X o ta) (c:Cls X.K C) (hm:yuk X.K C m f) (F:vk X.prog X.w X.K X.mg X.base (CXe X.prog X.w) k f fd ps sp) (hr:zr k X.A) (hb:uc X.K fd ps ds) (hd:wg dvs ds) (hc:Ĝ X Ex) (ha:PA X (e :: es) t)
  (hst:starEach (e :: es) X.env=(false,eval e X.env) :: starEach es X.env:=by rfl) (hpl:(backTo pos (starEach es X.env)).any (·.1)=false:=by rfl)
  (ht:eval (.Call (.Attribute o m apos) (e :: es) [] pos) X.env=(do
   let ov <- eval o X.env
   standAt apos.atName
   let (f,first) <- holding [ov] (getMethod ov m pl)
   callWith pos f first (backTo pos (starEach (e :: es) X.env)) (backToKw pos (keywordEach [] X.env))):=by rfl) :
  PE X (.Call (.Attribute o m apos) (e :: es) [] pos) (yal C m sp dvs Ex ta t):=by
 refine .mk fun b s σ H Q I h=>?_;refine W.methodCall_KW (pl:=pl) (thn (he b s σ H _ I h) fun u p h'=>?_) ht;obtain ⟨x,y,g,j,a,B,z,v,n,l,q⟩:=h';subst v;obtain rfl:u=Value.ref a:=j;refine Å g n c hm l ?_
 refine W.callWith_K (first:=[.ref a]) (h₀:=X.base) I.ok.mod.kin hm.kp (thn (ha pos b p σ y _ g q) fun us D ⟨vs,E,d,r,i⟩=>⟨d.kIn,?_⟩) hst hpl
 exact yid (us:=.ref a :: us) (vs:=.ref a :: vs) F hr hb hd hc d (.cons rfl r) i
def yg1 {σ:St} {H:Hp} {s:Shared} {Q:VK} {us:List Value} {vs:List V} (M:Mk X.K C f) (F:vk X.prog X.w X.K X.mg X.base (CXe X.prog X.w) k f fd ps sp) (hr:zr (k+1) X.A) (hb:uc X.K fd ps ds) (hd:wg dvs ds)
  (hc:Ĝ X Ex) (I:Inv X pins σ H s) (r:wg vs us)
  (h:∀ x dx,H x=none->H dx=none->dx≠x->sp (.ref x :: (vs++dvs)) (upd (upd H dx (.own x)) x (.ins C dx [])) (fun v H2=>v=.non/\Q (.ref x) H2) (Ex σ)) :
  wpAny (model X.prog X.w) X.A (call (.ref C) us) (EP X pins σ Q) X.xe s:=by
 have c:=h (s.heap.objs.size+1) s.heap.objs.size (I.hok.fresh (Nat.le_succ _)) (I.hok.fresh (cE _)) (cU (Nat.lt_succ_self _));have b:=Inv.made (C:=C) I;have d:wg (V.ref (s.heap.objs.size+1) :: (vs++dvs)) (Value.ref (s.heap.objs.size+1) :: (us++ds)):=.cons rfl (r.append hd)
 have n:(Value.ref (s.heap.objs.size+1) :: us++ds).length=ps.length:=by
  have e:=d.length;rw [F.len _ _ _ _ c] at e;exact e.symm
 refine wpAny_call (yc6 (f:=f) I.kIn M.makes M.init (beq_iff_eq.mp M.fn) (codeAny_mono (F.run _ X.stack _ _ ⟨Value.ref (s.heap.objs.size+1) :: us,[]⟩ (Value.ref (s.heap.objs.size+1) :: (us++ds)) _ _ (Ex σ) (hr.make C us [])
  (b.env0.make C us []) (hb _ (Value.ref (s.heap.objs.size+1) :: us) b.kIn n) d c) fun r o a=>?_))
 cases r with
 | error e=>exact b.came hc a
 | ok fl =>
  cases fl with
  | ret u =>
   obtain ⟨v,j,i,m,g,l⟩:=b.after a;subst g;exists m,⟨V.ref (s.heap.objs.size+1),j,i,rfl,l⟩
  | next=>exact False.elim a
  | brk=>exact False.elim a
  | cont=>exact False.elim a
def uk (M:Mk X.K C f) (F:vk X.prog X.w X.K X.mg X.base (CXe X.prog X.w) k f fd ps sp) (hr:zr (k+1) X.A) (hg:Gl X x) (hm:X.mg x=some (.ref C)) (hb:uc X.K fd ps ds) (hd:wg dvs ds) (hc:Ĝ X Ex)
  (ha:PA X (e :: es) t) (hdb:(x == ("__debug__":Str))=false:=by decide) (he:starEach (e :: es) X.env=(false,eval e X.env) :: starEach es X.env:=by rfl) (hpl:(backTo pos (starEach es X.env)).any (·.1)=false:=by rfl) :
  PE X (.Call (.Name x p) (e :: es) [] pos) (ym5 C sp dvs Ex t):=by
 refine .mk fun a s σ H Q I h=>?_;refine wpAny_Call_Name_kw (z0 I hg hm ?_ hdb);refine W.callWith_K (h₀:=X.base) I.ok.mod.kin M.kp (thn (ha pos a s σ H _ I h) fun c d ⟨i,g,b,r,q⟩=>⟨b.kIn,?_⟩) he hpl;exact yg1 M F hr hb hd hc b r q
end
theorem PS.nox {X:Cx} {st:Stmt} {t:TS} (h:PS X.nox st t):PS X st t:=.mk fun a s σ H D I b =>
 dU (h a s σ H D (I.wish _) b) (fun _ _ q=>q.unwish) fun _ _ z=>False.elim z
section
variable {w:World} {K:W.Frag} {mg:Str->Option Value} {base:Heap}
def vh {X:Cx}:Ĝ X (fun _ _ _ _=>False):=fun _ _ _ _ _ _ _ _ _ _ _ q=>q.elim
def Fun.okE {x:Str} {st:Stmt} {f:Addr} {fd:FuncData} {N ps:List Str} {k:Nat} {sp:Sp} (F:Fun K x qual st f fd) (S:yi N ps (yd st)) (len:∀ vs H Q E,sp vs H Q E->vs.length=ps.length)
  (hbody:∀ (cdv:Value) (A:Around) (outer:List Env) (s:Shared) (H:Hp) (vs:List V) (Q:VK) (E:XK),zr k (A.deeper (envOfC qual (yd st) s.heap.objs.size f cdv))->sp vs H Q E ->
   ∃ t,PSs (vn (CXe P w) P w K mg base N qual (yd st) f cdv A outer s H E) (wk st) t/\t { nx:=fun _ H'=>Q .non H',rt:=Q } (Î N vs) H):vk P w K mg base (CXe P w) (k+1) f fd ps sp:=by
 obtain ⟨l,h,kV,g,i,m,cdv,j,c,rfl,d,a⟩:=F.ex;exact ymc d a S len fun A outer s H vs Q E e b=>hbody cdv A outer s H vs Q E e b
end
abbrev bmV:List Value:=[.type "ValueError",.type "Exception",.type "BaseException",.type "object"]
abbrev XMk (K:W.Frag) (C:Addr):Prop:=W.excIn K C bmV "ValueError.__new__"=true
def yql {K:W.Frag} {h:Heap} {bmB:List Value} {newId:String} (X:K.In h) (q:W.excIn K C bmB newId=true) :
  ∃ bm N nm qn bs hdct sn sub ab col dd k0 k1 k2 k3 k5 mN,h.get? C=some (excClassObj nm qn C N bs bm hdct sn sub ab col dd k0 k1 k2 k3 k5 newId)/\h.Ns N mN/\mN "__init__"=none/\OwnTail h bmB bm:=by
 unfold W.excIn at q
 split at q
 .rename_i dd cd sl ho
  split at q
  .rename_i C' bm k0 k1 k2 k3 n k5 hm d
   simp only [db,beq_iff_eq,Bool.not_eq_true'] at q;obtain ⟨⟨⟨⟨⟨rfl,rfl⟩,a⟩,e⟩,b⟩,c⟩:=q;obtain ⟨nm,bs,f,i,qn,g,sn,sub,ab,col,j⟩:=cd;dsimp only at hm a b c;subst hm a;obtain ⟨l⟩:=sl;have d:l=[k0,k1,k2,k3,some (.builtin n),k5]:=d;subst d;exists bm,i,nm,qn,bs,g,sn,sub,ab,col,dd,k0,k1,k2,k3,k5,_,X _ _ ho,.of_isNs (W.isNs_of_in X b),W.nsMap_none_of_in X b c,W.tail_of_in X e
  .cases q
 .cases q
def yny (E:XK) (C:Addr) (t:TA):TS:=fun _ σ H=>t σ H fun vs H1=>vs.length <= sizeLine/\E (.ref C) none H1
def wz {w:World} {K:W.Frag} {mg:Str->Option Value} {base:Heap} {N:List Str} {f:Addr} {A:Around} {outer:List Env} {s:Shared} {H:Hp} {E:XK}
  {C:Addr} {x:Str} {np cpos pos:Pos} {e₀:Expr} {υ:List Expr} {t:TA} (hg:Gl (vn (CXe P w) P w K mg base N qual scope f cd A outer s H E) x) (hm:mg x=some (.ref C)) (hC:XMk K C)
  (ha:PA (vn (CXe P w) P w K mg base N qual scope f cd A outer s H E) (e₀ :: υ) t)
  (he:starEach (e₀ :: υ) (envOfC qual scope s.heap.objs.size f cd)=(false,eval e₀ (envOfC qual scope s.heap.objs.size f cd)) :: starEach υ (envOfC qual scope s.heap.objs.size f cd):=by rfl)
  (hplain:(backTo cpos (starEach υ (envOfC qual scope s.heap.objs.size f cd))).any (·.1)=false:=by rfl) (hdb:(x == ("__debug__":Str))=false:=by decide) :
  PS (vn (CXe P w) P w K mg base N qual scope f cd A outer s H E) (.Raise (some (.Call (.Name x np) (e₀ :: υ) [] cpos)) none pos) (yny E C t):=by
 refine .mk fun a n σ j D I h=>?_;obtain ⟨o,u,nm,q,bs,hdct,sn,sub,ab,col,dd,k0,k1,k2,k3,k5,mN,c,l,g,T⟩:=yql I.mod.kin hC;refine wpAny_Raise_call_subT (C:=C) (nm:=nm) (q:=q) (N:=u) (bs:=bs) (bm:=o) (hdct:=hdct) (sn:=sn) (sub:=sub) (ab:=ab) (col:=col) (dd:=dd) (k0:=k0) (k1:=k1) (k2:=k2) (k3:=k3) (k5:=k5)
  F.excBase_ValueError (mN:=mN) (T.hasType F.excBase_ValueError.hasBase) (I.ok.hd rfl) (by
   show (backTo cpos (starEach (e₀ :: υ) (envOfC qual scope s.heap.objs.size f cd))).any (·.1)=false;rw [he]; show (false || (backTo cpos (starEach υ (envOfC qual scope s.heap.objs.size f cd))).any (·.1))=false; rw [hplain]; rfl) g (z0 I hg hm ⟨rfl,?_⟩ hdb)
 have i:=ha cpos a n σ j _ I h;have d:starEach (e₀ :: υ) (vn (CXe P w) P w K mg base N qual scope f cd A outer s H E).env=(false,eval e₀ (vn (CXe P w) P w K mg base N qual scope f cd A outer s H E).env) :: starEach υ (vn (CXe P w) P w K mg base N qual scope f cd A outer s H E).env:=he;rw [d] at i ⊢;refine Calls.evalArgs_plain (dU i (by rintro B s₂ ⟨v,G,b,r,p,k⟩; exact ⟨rfl,by rw [<- r.length]; exact p,b.bk _ _ c,l.keeps b.bk,T.keeps b.bk,fun z y m=>ylv b m k⟩) fun _ _ y=>y)
section
variable {X:Cx} {σ:St} {H:Hp} {s:Shared} {x T:Addr}
abbrev Cx.pnd (X:Cx) (pn:List (Addr × Obj)):Cx:={ X with pn:=pn }
theorem Cx.Ok.pnd (ok:X.Ok) (pn:List (Addr × Obj)):(X.pnd pn).Ok :=
 ⟨ok.mod,ok.kind,ok.glob,ok.blt,ok.above,ok.inj,ok.has,ok.cab,ok.hd,ok.frames,ok.stk,ok.exf,ok.bs,ok.bsz,ok.noex,ok.exfs,ok.funs,ok.frf⟩
def Cx.Ok.unpnd {pn:List (Addr × Obj)} (ok:(X.pnd pn).Ok):X.Ok :=
 ⟨ok.mod,ok.kind,ok.glob,ok.blt,ok.above,ok.inj,ok.has,ok.cab,ok.hd,ok.frames,ok.stk,ok.exf,ok.bs,ok.bsz,ok.noex,ok.exfs,ok.funs,ok.frf⟩
theorem Inv.pnd (I:Inv X pins σ H s):Inv (X.pnd (X.pn++pins)) [] σ H s :=
 ⟨I.ok.pnd _,I.os,I.bare,I.base,I.loc,I.cell,I.free,I.freeC,fun p a=>I.pin p (by simpa using a),I.hok,I.len⟩
theorem Inv.unpnd {ps:List (Addr × Obj)} (I:Inv (X.pnd (X.pn++pins)) ps σ H s):Inv X pins σ H s :=
 ⟨I.ok.unpnd,I.os,I.bare,I.base,I.loc,I.cell,I.free,I.freeC,fun p a=>I.pin p (dJ _ a),I.hok,I.len⟩
def XT (Y:Cx) (Ex:St->XK) (e:Value) (s':Shared):Prop:=∃ pins σ H x T C,e=.ref x/\Inv Y pins σ H s'/\Fy Y pins H x/\Fy Y pins H T/\Trd s'.heap x T C .none/\Ex σ C none H
abbrev Cx.tr (X:Cx) (pn:List (Addr × Obj)) (Ex:St->XK):Cx:=(X.pnd pn).wish (XT (X.pnd pn) Ex)
def yk4 {pn:List (Addr × Obj)} {Ex:St->XK}:Ĝ (X.tr pn Ex) Ex:=fun a σ H _ x T C I b c tr q=>⟨a,σ,H,x,T,C,rfl,I.unwish,b,c,tr,q⟩
abbrev Cx.su (X:Cx) (pn:List (Addr × Obj)) (x:Addr):Cx:={ X with A:=X.A.mark (some (.ref x)),calm:=false,pn:=pn,xe:=fun _ _=>False }
theorem Inv.su (I:Inv X pins σ H s) (x:Addr):Inv (X.su (X.pn++pins) x) [] σ H s :=
 ⟨⟨I.ok.mod,I.ok.kind,I.ok.glob,I.ok.blt,I.ok.above,I.ok.inj,I.ok.has,I.ok.cab,fun z=>(by cases z),I.ok.frames,I.ok.stk,I.ok.exf,I.ok.bs,I.ok.bsz,I.ok.noex,I.ok.exfs,I.ok.funs,I.ok.frf⟩,
  I.os,I.bare,I.base,I.loc,I.cell,I.free,I.freeC,fun p a=>I.pin p (by simpa using a),I.hok,I.len⟩
def Inv.unsu (I:Inv (X.su (X.pn++pins) x) [] σ H s) (ok:X.Ok):Inv X pins σ H s :=
 ⟨ok,I.os,I.bare,I.base,I.loc,I.cell,I.free,I.freeC,fun p a=>I.pin p (dJ _ a),I.hok,I.len⟩
end
variable {X:Cx}
def Ö.un (D:Ö) (i:Nat):Ö:=⟨fun σ H=>D.nx (σ.set i none) H,D.rt,fun σ H=>D.bk (σ.set i none) H,fun σ H=>D.ct (σ.set i none) H⟩
section
variable {σ:St} {H:Hp} {Q:VK} {tr:TA} {ta:TE} {nx:St->Hp->Prop} {rt:VK} {bk ct:St->Hp->Prop} {ts:TS}
def yqa {sp:Sp} {dvs:List V} {Ex:St->XK} (h:tr σ H fun vs H1=>sp (vs++dvs) H1 Q (Ex σ)):yip sp dvs Ex tr σ H Q:=h
def ŕ {m:Str} {sp:Sp} {dvs:List V} {Ex:St->XK} (h:ta σ H fun x H1=>∃ a dx fs,x=.ref a/\H1 a=some (.ins C dx fs)/\fs.lookup m=none/\tr σ H1 fun vs H2=>sp (x :: (vs++dvs)) H2 Q (Ex σ)):yal C m sp dvs Ex ta tr σ H Q:=h
def yo6 {sp:Sp} {dvs:List V} {Ex:St->XK} (h:tr σ H fun vs H1=>∀ x dx,H1 x=none->H1 dx=none->dx≠x->sp (.ref x :: (vs++dvs)) (upd (upd H1 dx (.own x)) x (.ins C dx [])) (fun v H2=>v=.non/\Q (.ref x) H2) (Ex σ)):ym5 C sp dvs Ex tr σ H Q:=h
def yp1 {E:XK} {D:Ö} (h:tr σ H fun vs H1=>vs.length <= sizeLine/\E (.ref C) none H1):yny E C tr D σ H:=h
end
section
variable {κ:Type} [DecidableEq κ]
def ut (kvs:List (κ × V)) (k:κ):Option V:=(kvs.find? fun kv=>decide (kv.1=k)).map (·.2)
def ω (kvs:List (κ × V)) (k:κ) (v:V):List (κ × V) :=
 if (kvs.any fun kv=>decide (kv.1=k))=true then kvs.map (fun kv=>if kv.1=k then (kv.1,v) else kv) else kvs++[(k,v)]
def Û (kvs:List (κ × V)) (k:κ):List (κ × V):=kvs.filter fun kv=>decide (kv.1≠k)
def xj {p:κ × V} {r:List (κ × V)} {k:κ} (e:p.1=k):ut (p :: r) k=some p.2:=by simp [ut,List.find?_cons,e]
def xi {p:κ × V} {r:List (κ × V)} {k:κ} (e:¬ p.1=k):ut (p :: r) k=ut r k:=by simp [ut,List.find?_cons,e]
theorem zk (k:κ):∀ kvs:List (κ × V),(kvs.any fun kv=>decide (kv.1=k))=(ut kvs k).isSome
 | []=>rfl
 | p :: r=>by
  rw [List.any_cons];by_cases e:p.1=k
  .simp only [xj e,cK e,Bool.true_or,Option.isSome_some]
  .rw [xi e,cP e,Bool.false_or]; exact zk k r
theorem yc5 (k j:κ) (y:V):∀ kvs:List (κ × V),ut (kvs.map fun kv=>if kv.1=k then (kv.1,y) else kv) j=(ut kvs j).map fun x=>if j=k then y else x
 | []=>rfl
 | p :: r=>by
  have a:=yc5 k j y r;rw [di];by_cases h:p.1=k
  .rw [if_pos h];by_cases e:p.1=j
   .rw [xj (p:=(p.1,y)) e,xj e,d5,if_pos (e.symm.trans h)]
   .rw [xi (p:=(p.1,y)) e,xi e,a]
  .rw [if_neg h];by_cases e:p.1=j
   .rw [xj (p:=p) e,xj e,d5,if_neg (fun z=>h (e.trans z))]
   .rw [xi (p:=p) e,xi e,a]
theorem ž (k j:κ) (y:V):∀ kvs:List (κ × V),ut kvs k=none->ut (kvs++[(k,y)]) j=if j=k then some y else ut kvs j
 | [],_=>by
  by_cases e:k=j
  .rw [if_pos e.symm]; exact xj (p:=(k,y)) e
  .rw [if_neg (fun z=>e z.symm)]; exact xi (p:=(k,y)) e
 | p :: r,hn=>by
  rw [List.cons_append];have a:¬ p.1=k:=fun z=>by rw [xj z] at hn; cases hn
  rw [xi a] at hn;have b:=ž k j y r hn;by_cases e:p.1=j
  .rw [xj e,xj e,if_neg (fun z=>a (e.trans z))]
  .rw [xi e,xi e,b]
def je (kvs:List (κ × V)) (k j:κ) (y:V):ut (ω kvs k y) j=if j=k then some y else ut kvs j:=by
 unfold ω;by_cases a:(kvs.any fun c=>decide (c.1=k))=true
 .rw [if_pos a,yc5];rw [zk] at a;by_cases e:j=k
  .obtain ⟨x,b⟩:=Option.isSome_iff_exists.mp a;rw [if_pos e,e,b,d5,if_pos rfl]
  .rw [if_neg e]
   cases ut kvs j with
   | none=>rfl
   | some x=>rw [d5,if_neg e]
 .rw [if_neg a];refine ž k j y kvs ?_;rw [zk] at a
  cases q:ut kvs k with
  | none=>rfl
  | some x=>rw [q] at a; exact (a rfl).elim
def jz (kvs:List (κ × V)) (k:κ) (v:V):(ω kvs k v).length <= kvs.length+1:=by
 unfold ω
 split
 .rw [cA]; omega
 .rw [cF,de,List.length_nil]; omega
def zh {kvs:List (κ × V)} {k:κ} (v:V) (h:ut kvs k=none):ω kvs k v=kvs++[(k,v)]:=by
 unfold ω;rw [zk,h];exact if_neg (by decide)
def yas.isSome_eq {o:Option V} {u:Option Value} (r:yas o u):o.isSome=u.isSome:=by
 cases o with
 | none=>cases u with
  | none=>rfl
  | some _=>exact (show False from r).elim
 | some _=>cases u with
  | none=>exact (show False from r).elim
  | some _=>rfl
def KV.val {kvs:List (κ × V)} {vs:List (κ × Value)} (r:KV kvs vs) (k:κ):yas (ut kvs k) (valueAt vs k):=by
 unfold KV at r
 induction r with
 | nil=>exact True.intro
 | @cons p q ps qs h t ih =>
  obtain ⟨c,d⟩:=h;by_cases e:p.1=k
  .have a:q.1=k:=c.symm.trans e;have b:valueAt (q :: qs) k=some q.2:=by simp [valueAt,List.find?_cons,a]
   rw [xj e,b]; exact d
  .have a:¬ q.1=k:=fun z=>e (c.trans z);have b:valueAt (q :: qs) k=valueAt qs k:=by simp [valueAt,List.find?_cons,a]
   rw [xi e,b]; exact ih
theorem KV.any {kvs:List (κ × V)} {vs:List (κ × Value)} (r:KV kvs vs) (k:κ):(kvs.any fun kv=>decide (kv.1=k))=vs.any fun kv=>decide (kv.1=k):=by
 unfold KV at r
 induction r with
 | nil=>rfl
 | cons h t ih=>rw [List.any_cons,List.any_cons,ih,h.1]
def KV.repl {kvs:List (κ × V)} {vs:List (κ × Value)} (r:KV kvs vs) (k:κ) {y:V} (ry:xb y u) :
  KV (kvs.map fun kv=>if kv.1=k then (kv.1,y) else kv) (vs.map fun kv=>if kv.1=k then (kv.1,u) else kv):=by
 unfold KV at r ⊢
 induction r with
 | nil=>exact .nil
 | @cons p q ps qs h t ih =>
  rw [di,di];refine .cons ?_ ih;obtain ⟨a,b⟩:=h;by_cases e:p.1=k
  .rw [if_pos e,if_pos (a.symm.trans e)]; exists a,ry
  .rw [if_neg e,if_neg (fun z=>e (a.trans z))]; exists a,b
def KV.put {kvs:List (κ × V)} {vs:List (κ × Value)} (r:KV kvs vs) (k:κ) {y:V} (ry:xb y u):KV (ω kvs k y) (stored vs k u):=by
 unfold ω stored;rw [r.any k];by_cases e:(vs.any fun a=>decide (a.1=k))=true
 .rw [if_pos e,if_pos e]; exact r.repl k ry
 .rw [if_neg e,if_neg e]; exact Paired.snoc r ⟨rfl,ry⟩
def KV.drop {kvs:List (κ × V)} {vs:List (κ × Value)} (r:KV kvs vs) (k:κ):KV (Û kvs k) (without vs k):=by
 unfold KV at r ⊢;unfold Û without
 induction r with
 | nil=>exact .nil
 | @cons p q ps qs h t ih =>
  obtain ⟨c,f⟩:=h;rw [List.filter_cons,List.filter_cons];by_cases e:p.1=k
  .have a:¬ decide (p.1≠k)=true:=by simp [e]
   have b:¬ decide (q.1≠k)=true:=by simp [c.symm.trans e]
   rw [if_neg a,if_neg b]; exact ih
  .have d:¬ q.1=k:=fun z=>e (c.trans z);have a:decide (p.1≠k)=true:=by simp [e]
   have b:decide (q.1≠k)=true:=by simp [d]
   rw [if_pos a,if_pos b]; exact .cons ⟨c,f⟩ ih
theorem KV.length {kvs:List (κ × V)} {vs:List (κ × Value)} (r:KV kvs vs):kvs.length=vs.length:=Paired.length r
def yle (kvs:List (κ × V)) (k:κ):(Û kvs k).length <= kvs.length:=List.length_filter_le _ _
end
def ycg {w:World} {k:Key} (r:xb (kV k) u):(vq P w).is k u=true:=by
 cases k with
 | inl i=>obtain ⟨t,e⟩:=(show ∃ t,u=Value.int i t from r); subst e; exact ya4 P w i t
 | inr x=>obtain ⟨t,e⟩:=(show ∃ t,u=Value.str x t from r); subst e; exact ybn P w x t
theorem ů {w:World}:∀ {ks:List Key} {us:List Value},wg (ks.map kV) us->ItemsAre (vq P w) ks us
 | [],_,r=>by rw [List.map_nil] at r; cases r; exact .nil
 | k :: ks,_,r=>by
  rw [di] at r
  cases r with
  | cons h t=>exact .cons (ycg h) (ů t)
abbrev KT (H:Hp):List (List Key × V)->List (List Key × Addr × Value)->Prop:=Paired fun p q=>p.1=q.1/\H q.2.1=some (.tup (p.1.map kV))/\xb p.2 q.2.2
def KT.val {H:Hp} {kvs:List (List Key × V)} {xs:List (List Key × Addr × Value)} (r:KT H kvs xs) (k:List Key):yas (ut kvs k) ((atKey xs k).map (·.2)):=by
 induction r with
 | nil=>exact True.intro
 | @cons p q ps qs h t ih =>
  obtain ⟨c,_,d⟩:=h;by_cases e:p.1=k
  .have a:q.1=k:=c.symm.trans e;have b:atKey (q :: qs) k=some q.2:=by simp [atKey,List.find?_cons,a]
   rw [xj e,b]; exact d
  .have a:¬ q.1=k:=fun z=>e (c.trans z);have b:atKey (q :: qs) k=atKey qs k:=by simp [atKey,List.find?_cons,a]
   rw [xi e,b]; exact ih
def KT.repl {H:Hp} {kvs:List (List Key × V)} {xs:List (List Key × Addr × Value)} (r:KT H kvs xs) (k:List Key) {y:V} (ry:xb y u) :
  KT H (kvs.map fun kv=>if kv.1=k then (kv.1,y) else kv) (xs.map (putAt k u)):=by
 induction r with
 | nil=>exact .nil
 | @cons p q ps qs h t ih =>
  rw [di,di];refine .cons ?_ ih;obtain ⟨a,b,c⟩:=h;unfold putAt;by_cases e:p.1=k
  .rw [if_pos e,if_pos (a.symm.trans e)]; exact ⟨a,b,ry⟩
  .rw [if_neg e,if_neg (fun z=>e (a.trans z))]; exact ⟨a,b,c⟩
def KT.put {H:Hp} {kvs:List (List Key × V)} {xs:List (List Key × Addr × Value)} (r:KT H kvs xs) (k:List Key) {b:Addr} {y:V} (hb:H b=some (.tup (k.map kV))) (ry:xb y u) :
  KT H (ω kvs k y) (storedH xs k b u):=by
 have e:(kvs.any fun a=>decide (a.1=k))=(atKey xs k).isSome:=by
  rw [zk,(r.val k).isSome_eq,Option.isSome_map]
 unfold ω storedH;rw [e];by_cases q:(atKey xs k).isSome=true
 .rw [if_pos q,if_pos q]; exact r.repl k ry
 .rw [if_neg q,if_neg q]; exact Paired.snoc r ⟨rfl,hb,ry⟩
def KT.keeps {H H':Hp} {kvs:List (List Key × V)} {xs:List (List Key × Addr × Value)} (r:KT H kvs xs) (ht:∀ b ys,H b=some (.tup ys)->H' b=some (.tup ys)):KT H' kvs xs :=
 Paired.mapP r fun _ _ z=>⟨z.1,ht _ _ z.2.1,z.2.2⟩
section
variable {w:World} {H:Hp} {h:Heap}
def yz6 {u:HO} (ok:HOk P w H h) (e:Rd H a u):wq P w H h a u:=e.ok ok
def yci {kvs:List (Key × V)} (ok:HOk P w H h) (e:Rd H a (.dK kvs)):kvs.length <= sizeLine/\(a == sysModules)=false/\∃ vs,KV kvs vs/\h.DictOf (vq P w) a vs :=
 show wq P w H h a (.dK kvs) from yz6 ok e
def vat {kvs:List (Key × V)} (ok:HOk P w H h) (e:H a=some (.dK kvs)):kvs.length <= sizeLine/\(a == sysModules)=false/\∃ vs,KV kvs vs/\h.DictOf (vq P w) a vs:=yci ok (.inl e)
def yad {ks:List Key} (ok:HOk P w H h) (e:H a=some (.tup (ks.map kV))):(tupleKind (vq P w)).is h ks a:=by
 obtain ⟨_,b,r,o,d,f,n,c⟩:=(show wq P w H h a (.tup (ks.map kV)) from ok a _ e);exists o,b.toArray,n,d,f,c,by simpa using ů r
def yfl {kvs:List (List Key × V)} (ok:HOk P w H h) (e:Rd H a (.dT kvs)):kvs.length <= sizeLine/\(a == sysModules)=false /\
  ∃ xs,KT H kvs xs/\h.DictOfH (tupleKind (vq P w)) a xs:=by
 obtain ⟨z,y,xs,r,o,d,i,g,f,j,n,k⟩:=(show wq P w H h a (.dT kvs) from yz6 ok e);exists z,y,xs,r,o,d,i,g,f,j,n,fun x b=>?_,k
 have c:∀ {l:List (List Key × V)} {m:List (List Key × Addr × Value)},KT H l m->∀ x∈m,(tupleKind (vq P w)).is h x.1 x.2.1:=by
  intro l m q
  induction q with
  | nil=>intro x b; exact nomatch b
  | @cons p q ps qs hq t ih =>
   intro x b;rcases cT.mp b with e | b
   .subst e;exact yad ok (by rw [<- hq.1]; exact hq.2.1)
   .exact ih x b
 exact c r x b
def vcr {kvs:List (List Key × V)} (ok:HOk P w H h) (e:H a=some (.dT kvs)):kvs.length <= sizeLine/\(a == sysModules)=false /\
  ∃ xs,KT H kvs xs/\h.DictOfH (tupleKind (vq P w)) a xs:=yfl ok (.inl e)
end
def ď (H:Hp) (a:Addr) (y:V) (r:Option V):Prop :=
 (∃ kvs k,Rd H a (.dK kvs)/\y=kV k/\r=ut kvs k)\/∃ kvs k b,Rd H a (.dT kvs)/\y=.ref b/\H b=some (.tup (k.map kV))/\r=ut kvs k
def yfq (H:Hp) (a:Addr) (y v:V) (H':Hp):Prop :=
 (∃ kvs k,H a=some (.dK kvs)/\y=kV k/\kvs.length < sizeLine/\H'=upd H a (.dK (ω kvs k v))) \/
 ∃ kvs k b,H a=some (.dT kvs)/\y=.ref b/\H b=some (.tup (k.map kV))/\kvs.length < sizeLine/\H'=upd H a (.dT (ω kvs k v))
theorem ď.k {H:Hp} {kvs:List (Key × V)} {k:Key} (e:H a=some (.dK kvs)):ď H a (kV k) (ut kvs k):=.inl ⟨kvs,k,.inl e,rfl,rfl⟩
def ď.t {H:Hp} {b:Addr} {kvs:List (List Key × V)} {k:List Key} (e:H a=some (.dT kvs)) (eb:H b=some (.tup (k.map kV))):ď H a (.ref b) (ut kvs k):=.inr ⟨kvs,k,b,.inl e,rfl,eb,rfl⟩
theorem yfq.k {H:Hp} {kvs:List (Key × V)} {k:Key} {v:V} (e:H a=some (.dK kvs)) (hl:kvs.length < sizeLine):yfq H a (kV k) v (upd H a (.dK (ω kvs k v))):=.inl ⟨kvs,k,e,rfl,hl,rfl⟩
def yfq.t {H:Hp} {b:Addr} {kvs:List (List Key × V)} {k:List Key} {v:V} (e:H a=some (.dT kvs)) (eb:H b=some (.tup (k.map kV))) (hl:kvs.length < sizeLine) :
  yfq H a (.ref b) v (upd H a (.dT (ω kvs k v))):=.inr ⟨kvs,k,b,e,rfl,eb,hl,rfl⟩
section
variable {σ:St} {H:Hp} {s:Shared} {y v:V} {r:Value} {o:Option V} {A:Around}
def Inv.big (I:Inv X pins σ H s):sysModules < s.heap.objs.size:=by
 have h:mainGlobals < s.heap.objs.size:=(I.mod.glob.keeps I.bk).lt;exact Nat.lt_trans (by decide) h
def ygw (hu:A.units+1 < cLine) (I:Inv X pins σ H s) (g:ď H a y (some v)) (ry:xb y u) (h:∀ w' s',Inv X pins σ H s'->xb v w'->Q w' s') :
  wpAny (model X.prog X.w) A (getItem (.ref a) u) Q E s:=by
 rcases g with ⟨f,k,e,i,l⟩ | ⟨f,k,b,e,i,q,l⟩
 .subst i;obtain ⟨z,x,B,c,m⟩:=yci I.hok e;obtain ⟨w',n,d⟩:=yas.some_of (v:=v) (o:=valueAt B k) (by rw [l]; exact c.val k);exact wpAny_getItem_of (ycg ry) m.mapOf n (h w' _ (I.tok _) d)
 .subst i;cases (show u=Value.ref b from ry);obtain ⟨z,x,t,c,m⟩:=yfl I.hok e;obtain ⟨w',n,d⟩:=yas.some_of (v:=v) (o:=(atKey t k).map (·.2)) (by rw [l]; exact c.val k);obtain ⟨p,r,j⟩:=ed.mp n;refine wpAny_getItem_heap (tupleKind_room_in1 hu) (yad I.hok q) m r ?_;rw [j];exact h w' _ (I.tok _) d
def vec (hu:A.units+1 < cLine) (I:Inv X pins σ H s) (g:ď H a y o) (ry:xb y u) (h:∀ s',Inv X pins σ H s'->Q (.bool o.isSome) s') :
  wpAny (model X.prog X.w) A (compareOp .In u (.ref a)) Q E s:=by
 rcases g with ⟨d,k,e,f,l⟩ | ⟨d,k,b,e,f,m,l⟩
 .subst f;obtain ⟨z,j,p,c,i⟩:=yci I.hok e;refine wpAny_in_of (ycg ry) j i.mapOf ?_;rw [<- (c.val k).isSome_eq,<- l];exact h _ (I.tok _)
 .subst f;cases (show u=Value.ref b from ry);obtain ⟨z,j,n,c,i⟩:=yfl I.hok e;refine wpAny_in_heap (tupleKind_room_in1 hu) (yad I.hok m) j i ?_;have q:=(c.val k).isSome_eq;rw [Option.isSome_map] at q;rw [<- q,<- l];exact h _ (I.tok _)
def ypw (hu:A.units+1 < cLine) (I:Inv X pins σ H s) (g:ď H a y o) (ry:xb y u) (h:∀ s',Inv X pins σ H s'->Q (.bool (!o.isSome)) s') :
  wpAny (model X.prog X.w) A (compareOp .NotIn u (.ref a)) Q E s:=by
 rcases g with ⟨d,k,e,f,l⟩ | ⟨d,k,b,e,f,m,l⟩
 .subst f;obtain ⟨z,j,p,c,i⟩:=yci I.hok e;refine wpAny_notIn_of (ycg ry) j i.mapOf ?_;rw [<- (c.val k).isSome_eq,<- l];exact h _ (I.tok _)
 .subst f;cases (show u=Value.ref b from ry);obtain ⟨z,j,n,c,i⟩:=yfl I.hok e;refine wpAny_notIn_heap (tupleKind_room_in1 hu) (yad I.hok m) j i ?_;have q:=(c.val k).isSome_eq;rw [Option.isSome_map] at q;rw [<- q,<- l];exact h _ (I.tok _)
def ycc {t':Nat} {ob:HO} (I:Inv X pins σ H s) (mu:Mut (H a)) (hs:Heap.SameBut a s.heap h') (he:∃ q,h'.get? a=some q) (new:wq X.prog X.w (upd H a ob) h' a ob) :
  Inv X pins σ (upd H a ob) { s with heap:=h',toks:=t' } :=
 I.write (x:=a) (e:=a) mu (.inl rfl) (fun b q c z=>(hs.2 b c).trans z) he new
def yjq {w:World} {H':Hp} {kvs:List (Key × V)} {vs:List (Key × Value)} (z:kvs.length <= sizeLine) (hd:(a == sysModules)=false) (rel:KV kvs vs) (dd:h'.DictOf (vq P w) a vs) :
  wq P w H' h' a (.dK kvs):=⟨z,hd,vs,rel,dd⟩
def ygu {H':Hp} {Q:Unit->Shared->Prop} (hu:A.units+1 < cLine) (I:Inv X pins σ H s) (g:yfq H a y v H') (ry:xb y u) (rv:xb v r) (h:∀ s',Inv X pins σ H' s'->Q () s') :
  wpAny (model X.prog X.w) A (setItem (.ref a) u r) Q E s:=by
 rcases g with ⟨f,k,e,m,l,n⟩ | ⟨f,k,b,e,m,D,l,n⟩
 .subst m n;obtain ⟨z,x,K,d,t⟩:=vat I.hok e;have B:K.length <= sizeLine:=by rw [<- d.length]; exact z
  have p:(ω f k v).length <= sizeLine:=by have:=jz f k v; omega
  refine wpAny_setItem_pairs (hsz:=B) (ycg ry) t fun C i o=>h _ ?_;have P:∃ q,C.get? a=some q:=let ⟨q,_,_,j,_⟩:=i; ⟨q,j⟩;exact ycc I (by rw [e]; exact True.intro) o P (yjq p x (d.put k rv) i)
 .subst m n;cases (show u=Value.ref b from ry);obtain ⟨z,x,O,d,t⟩:=vcr I.hok e;have B:O.length <= sizeLine:=by rw [<- Paired.length d]; exact z
  have p:(ω f k v).length <= sizeLine:=by have:=jz f k v; omega
  refine wpAny_setItem_heap (hsz:=B) (tupleKind_room_in1 hu) (yad I.hok D) t fun C i o=>h _ ?_;obtain ⟨q,G,J,j,R,L,N,_,M⟩:=i;refine ycc I (by rw [e]; exact True.intro) o ⟨q,j⟩ ⟨p,x,_,(d.put k D rv).keeps fun c S F=>?_,q,G,J,j,R,L,N,M⟩
  rw [yk (ww F e (fun z=>nomatch z))]
  exact F
end
section
variable {σ:St} {H:Hp} {s:Shared} {kvs:List (Key × V)} {k:Key} {A:Around}
def vbw {v:V} {more:List Value} (I:Inv X pins σ H s) (e:H a=some (.dK kvs)) (ry:xb (kV k) u) (l:ut kvs k=some v) (hm:more=[]\/∃ x,more=[x])
  (h:∀ w' s',Inv X pins σ (upd H a (.dK (Û kvs k))) s'->xb v w'->Q w' s'):wpAny (model X.prog X.w) A (call (.builtin "dict.pop") (.ref a :: u :: more)) Q E s:=by
 obtain ⟨z,p,g,b,f⟩:=vat I.hok e;obtain ⟨w',n,d⟩:=yas.some_of (v:=v) (o:=valueAt g k) (by rw [<- l]; exact b.val k)
 have m:(keyPart u).isSome=true:=by
  cases k with
  | inl i=>obtain ⟨t,q⟩:=(show ∃ t,u=Value.int i t from ry); subst q; rfl
  | inr x=>obtain ⟨t,q⟩:=(show ∃ t,u=Value.str x t from ry); subst q; rfl
 have j:argsOk "dict.pop" ⟨.ref a :: u :: more,[]⟩:=by
  rcases hm with q | ⟨x,q⟩
  .subst q; exact PySem.F.args_dict_pop_2 _ _
  .subst q; exact PySem.F.args_dict_pop_3 _ _ _
 refine call_meetsIn PySem.F.slot_dict_pop f.typeIs PySem.F.entry_dict_pop j (meets_dict_pop_there (vq X.prog X.w) a (ycg ry) more hm m)
  ⟨g,w',f,by rw [<- b.length]; exact z,n,fun r c y=>h w' _ ?_ d⟩
 have B:∃ q,r.get? a=some q:=let ⟨q,_,_,hq,_⟩:=c; ⟨q,hq⟩;exact ycc I (by rw [e]; exact True.intro) y B (yjq (dh (yle kvs k) z) p (b.drop k) c)
def vcb (I:Inv X pins σ H s) (e:Rd H a (.dK kvs)) (h:∀ t s',Inv X pins σ H s'->Q (.int kvs.length t) s'):wpAny (model X.prog X.w) A (call (.builtin "len") [.ref a]) Q E s:=by
 obtain ⟨z,c,f,b,d⟩:=yci I.hok e;refine call_len_dict c d (by rw [<- b.length]; rw [sizeLine_eq] at z; omega) ?_;rw [<- b.length];exact h _ _ (I.tok _)
end
def vd5 (i:Expr):Prop:=∀ ov iv,subscripted i false ov iv=operate [ov,iv] (getItem ov iv)
def yq7 {prog:Program} {w:World} {A:Around} {s:Shared} {env:Env} {value slice:Expr} {pos:Pos} {T id:String} 
  (hl:typeLookup (.type T) "__getitem__"=pure (some (.builtin id))) (hs:vd5 slice)
  (h:wpAny (model prog w) A (eval value env) (fun o s₁=>wpAny (model prog w) A (eval slice env) (fun i s₂=>s₂.TypeIs o T/\wpAny (model prog w) A (getItem o i) Q E s₂) E s₁) E s) :
  wpAny (model prog w) A (eval (.Subscript value slice pos) env) Q E s:=by
 refine Subscript_ (dU h (fun o s₁ h₁=>dU h₁ (fun i s₂ h₂=>?_) fun _ _ x=>x) fun _ _ x=>x);obtain ⟨b,h₂⟩:=h₂;unfold subscriptTail;refine bY ?_;rw [getitemInPython_of_ne b.not_modules];refine bY (wpAny_specialOf b hl ?_)
 have a:wpAny (model prog w) A (subscripted slice false o i) (fun r s₃=>wpAny (model prog w) A (letTemporaryGo value o r >>= fun _=>pure r) Q E s₃) E s₂:=by
  rw [hs o i];exact wpAny_operating (dU h₂ (fun r s₃ h₃=>bY (wpAny_letTemporaryGo (cD h₃))) fun _ _ x=>x)
 first
  | exact cD (bY a)
  | exact bY (cD (bY a))
  | exact bY a
def ybi {σ:St} {H:Hp} {s:Shared} {y:V} {o:Option V} (I:Inv X pins σ H s) (g:ď H a y o):s.TypeIs (.ref a) "dict":=by
 rcases g with ⟨c,k,e,_,_⟩ | ⟨c,k,b,e,_,_,_⟩
 .obtain ⟨_,_,f,_,d⟩:=yci I.hok e;exact d.typeIs
 .obtain ⟨_,_,h,_,d⟩:=yfl I.hok e;exact d.typeIs
def vaa (td ty:TE):TE:=fun σ H Q=>td σ H fun x H1=>ty σ H1 fun y H2=>∃ a v,x=.ref a/\ď H2 a y (some v)/\Q v H2
def vdl (ty td:TE):TE:=fun σ H Q=>ty σ H fun y H1=>td σ H1 fun x H2=>∃ a o,x=.ref a/\ď H2 a y o/\Q (.bl o.isSome) H2
def yhq (ty td:TE):TE:=fun σ H Q=>ty σ H fun y H1=>td σ H1 fun x H2=>∃ a o,x=.ref a/\ď H2 a y o/\Q (.bl (!o.isSome)) H2
def vae (td ty tv:TE):TS:=fun D σ H=>tv σ H fun v H1=>td σ H1 fun x H2=>ty σ H2 fun y H3=>∃ a H4,x=.ref a/\yfq H3 a y v H4/\D.nx σ H4
section
variable {o i value:Expr} {pos pos' tpos:Pos} {td ty tv:TE}
def x8 (hu:X.A.units+1 < cLine) (ho:PE X o td) (hi:PE X i ty) (hs:vd5 i):PE X (.Subscript o i pos) (vaa td ty):=by
 refine .mk fun b s σ H Q I h=>?_;refine yq7 PySem.F.slot_dict_getitem.lookup hs (thn (ho b s σ H _ I h) fun u m ⟨x,p,q,k,l⟩=>thn (hi b m σ p _ q l) fun z B h'=>?_);obtain ⟨y,r,d,e,a,v,n,g,j⟩:=h';subst n;obtain rfl:u=Value.ref a:=k;exists ybi d g,ygw hu d g e fun t w f c=>⟨v,r,f,c,j⟩
def ywm (hu:X.A.units+1 < cLine) (hi:PE X i ty) (ho:PE X o td):PC X .In i o (vdl ty td):=by
 intro b s σ H Q I h;refine thn (hi b s σ H _ I h) fun v k ⟨y,m,p,c,j⟩=>thn (ho b k σ m _ p j) fun u w h'=>?_;obtain ⟨x,q,n,f,a,r,l,g,e⟩:=h';subst l;obtain rfl:u=Value.ref a:=f;exact vec hu n g c fun t d=>⟨.bl r.isSome,q,d,rfl,e⟩
def Ŷ (hu:X.A.units+1 < cLine) (hi:PE X i ty) (ho:PE X o td):PC X .NotIn i o (yhq ty td):=by
 intro b s σ H Q I h;refine thn (hi b s σ H _ I h) fun v k ⟨y,m,p,c,j⟩=>thn (ho b k σ m _ p j) fun u w h'=>?_;obtain ⟨x,q,n,f,a,r,l,g,e⟩:=h';subst l;obtain rfl:u=Value.ref a:=f;exact ypw hu n g c fun t d=>⟨.bl (!r.isSome),q,d,rfl,e⟩
def È (hu:X.A.units+1 < cLine) (ho:PE X o td) (hi:PE X i ty) (hv:PE X value tv) (hs:swapsWith value (some (.Subscript o i pos')) pos.line X.env=pure false) :
  PS X (.Assign [.Subscript o i pos'] value pos) (vae td ty tv):=by
 refine .mk fun b s σ H D I h=>?_;refine wpAny_Assign_Subscript (thn (hv b s σ H _ I h) fun r n ⟨v,t,j,p,z⟩=>thn (ho b n σ t _ j z) fun u k ⟨x,C,w,l,c⟩=>thn (hi b k σ C _ w c) fun E G h'=>?_) hs;obtain ⟨y,F,e,d,a,B,q,g,m⟩:=h';subst q;obtain rfl:u=Value.ref a:=l;exact ygu hu e g d p fun J f=>⟨σ,B,f,m⟩
end
def yk5 {w:World} {H:Hp} (h:Heap) (hb:sysModules < h.objs.size):wq P w H (h.push { cls:=.type "dict",data:=.dict #[] }) h.objs.size (.dK []) :=
 ⟨cV _,dX.mpr (Ne.symm (cU hb)),[],.nil,Heap.DictOf.new h⟩
def yke {w:World} {H:Hp} (h:Heap) (hb:sysModules < h.objs.size):wq P w H (h.push { cls:=.type "dict",data:=.dict #[] }) h.objs.size (.dT []) :=
 ⟨cV _,dX.mpr (Ne.symm (cU hb)),[],.nil,_,#[],0,cJ _ rfl,⟨rfl,rfl,rfl⟩,rfl,rfl,List.nodup_nil⟩
def yn8:TE:=fun _ H Q=>∀ p,H p=none->Q (.ref p) (upd H p (.dK []))
def yoc:TE:=fun _ H Q=>∀ p,H p=none->Q (.ref p) (upd H p (.dT []))
section
variable {pos:Pos}
def à:PE X (.Dict [] [] pos) yn8:=.mk fun b s σ H Q I h =>
 wpAny_Dict_empty ⟨.ref s.heap.objs.size,_,I.laid (a:=s.heap.objs.size) (o:=.dK []) (t':=s.toks) (fun _ _ q=>cB _ q) (cE _) (yk5 s.heap I.big),rfl,h _ (I.hok.fresh (cE _))⟩
def yda:PE X (.Dict [] [] pos) yoc:=.mk fun b s σ H Q I h =>
 wpAny_Dict_empty ⟨.ref s.heap.objs.size,_,I.laid (a:=s.heap.objs.size) (o:=.dT []) (t':=s.toks) (fun _ _ q=>cB _ q) (cE _) (yke s.heap I.big),rfl,h _ (I.hok.fresh (cE _))⟩
end
def Ñ (kvs more:List (Key × V)):List (Key × V):=more.foldl (fun acc kv=>ω acc kv.1 kv.2) kvs
def KV.merge:∀ {more:List (Key × V)} {rs:List (Key × Value)} {kvs:List (Key × V)} {vs:List (Key × Value)},KV more rs->KV kvs vs->KV (Ñ kvs more) (merged vs rs):=by
 intro more rs kvs vs r;unfold KV at r
 induction r generalizing kvs vs with
 | nil=>intro q; exact q
 | @cons p q ps qs h t ih =>
  intro a
  have e:KV (ω kvs p.1 p.2) (stored vs q.1 q.2):=by
   have:=a.put p.1 h.2;rw [<- h.1]; exact this
  exact ih e
theorem j9:∀ (more kvs:List (Key × V)),(Ñ kvs more).length <= kvs.length+more.length
 | [],kvs=>by show kvs.length <= kvs.length+0; omega
 | p :: r,kvs=>by
  have a:=j9 r (ω kvs p.1 p.2);have b:=jz kvs p.1 p.2;show (Ñ (ω kvs p.1 p.2) r).length <= _;rw [de]; omega
structure M1 (X:Cx) (o:Expr) (m:Str) (apos:Pos) (e:Expr) (cpos:Pos):Prop where
 base:attributeBase o m X.env (eval o X.env)=eval o X.env
 few:((backTo cpos (starEach [e] X.env)).all (fun x=>!x.1) && (backToKw cpos (keywordEach [] X.env)).all (fun x=>x.1.isSome)
  && decide (([e]:List Expr).length+([]:List Keyword).length+(if ([]:List Keyword).isEmpty then 0 else 1) < 30))=true
 line:(apos.endLine == cpos.line)=true
 trees:backTo cpos (starEach [e] X.env)=[(false,eval e X.env)]
structure M2 (X:Cx) (o:Expr) (m:Str) (apos:Pos) (e f:Expr) (cpos:Pos):Prop where
 base:attributeBase o m X.env (eval o X.env)=eval o X.env
 few:((backTo cpos (starEach [e,f] X.env)).all (fun x=>!x.1) && (backToKw cpos (keywordEach [] X.env)).all (fun x=>x.1.isSome)
  && decide (([e,f]:List Expr).length+([]:List Keyword).length+(if ([]:List Keyword).isEmpty then 0 else 1) < 30))=true
 line:(apos.endLine == cpos.line)=true
 trees:backTo cpos (starEach [e,f] X.env)=[(false,eval e X.env),(false,eval f X.env)]
def IsD (H:Hp) (a:Addr):Prop:=(∃ kvs,Rd H a (.dK kvs))\/∃ kvs,Rd H a (.dT kvs)
def yvz {σ:St} {H:Hp} {s:Shared} (I:Inv X pins σ H s) (d:IsD H a) :
  s.TypeIs (.ref a) "dict"/\(∀ b,Value.ref a=.ref b->∃ ob,s.heap.get? b=some ob/\ob.dict=none)/\(a == sysModules)=false:=by
 rcases d with ⟨f,e⟩ | ⟨f,e⟩
 .obtain ⟨_,h,k,_,c⟩:=yci I.hok e;exists c.typeIs,fun b q=>?_,h;cases q;obtain ⟨ob,_,_,g,i,_⟩:=c;exact ⟨ob,g,i.2.1⟩
 .obtain ⟨_,h,j,_,c⟩:=yfl I.hok e;exists c.typeIs,fun b q=>?_,h;cases q;obtain ⟨ob,_,_,g,i,_⟩:=c;exact ⟨ob,g,i.2.1⟩
def yop (td ty:TE):TE:=fun σ H Q=>td σ H fun x H1=>∃ a,x=.ref a/\IsD H1 a/\ty σ H1 fun y H2=>∃ kvs k v,H2 a=some (.dK kvs)/\y=kV k/\ut kvs k=some v/\Q v (upd H2 a (.dK (Û kvs k)))
section
variable {o f:Expr} {apos cpos:Pos} {td ty tx:TE}
def ykg (ho:PE X o td) (he:PE X e ty) (m:M1 X o "pop" apos e cpos):PE X (.Call (.Attribute o "pop" apos) [e] [] cpos) (yop td ty):=by
 refine .mk fun b s σ H Q I h=>?_;refine wpAny_Call_method m.base m.few m.line PySem.F.plainAttrs_dict PySem.F.slot_dict_pop PySem.F.type_dict_pop (thn (ho b s σ H _ I h) fun u w h'=>?_);obtain ⟨x,A,f,r,a,z,d,D⟩:=h';subst z;obtain rfl:u=Value.ref a:=r;obtain ⟨i,n,_⟩:=yvz f d;exists i,n,?_;rw [m.trees];refine Calls.callWith_builtin rfl (Calls.evalArgs_plain (Calls.spliced_cons (thn (he b w σ A _ f D) fun E G ⟨y,L,B,p,C,k,v,t,g,l,j⟩=>Calls.spliced_nil ?_)));subst g;exact vbw B t p l (.inl rfl) fun K J q c=>⟨v,_,q,c,j⟩
end
@[irreducible] def QE (X:Cx) (e:Expr) (t:TE):Prop:=PE X e t
@[irreducible] def QSs (X:Cx) (st:List Stmt) (t:TS):Prop:=PSs X st t
@[irreducible] def QS (X:Cx) (st:Stmt) (t:TS):Prop:=PS X st t
section
variable {te:TE} {pos:Pos} {ts us:TS} {st:Stmt} {υ:List Stmt}
def yh {R:TS->Prop} (h1:PS X st ts) (h2:∃ us,PSs X υ us/\R (vcx ts us)):∃ t,PSs X (st :: υ) t/\R t:=let ⟨_,a,b⟩:=h2; ⟨_,ye h1 a,b⟩
end
theorem Ŕ:∀ {bs:List Bool} {us:List Value},wg (bs.map V.bl) us->us=bs.map Value.bool
 | [],_,.nil=>rfl
 | b :: r,_,.cons a t=>by rw [show _=Value.bool b from a,Ŕ t]; rfl
def yg0 (bs:List Bool):((List.range bs.length).all fun i=>(bs[i]?).getD true)=bs.all id:=by
 rw [Bool.eq_iff_iff,List.all_eq_true,List.all_eq_true]
 constructor
 .intro h b c;obtain ⟨i,a,rfl⟩:=List.getElem_of_mem c;have:=h i (dI.mpr a);rw [cC a] at this;exact this
 .intro h i a;have a:=dI.mp a;rw [cC a];exact h _ (dw a)
def jc (hc:X.calm=true):uf X (.builtin "all") (fun xs H Q=>∃ p bs,xs=[.ref p]/\SqL X.K H p (List.map V.bl bs)/\Q (.bl (bs.all id)) H):=by
 intro g s σ H xs y Q I r h;obtain ⟨p,bs,rfl,o,q⟩:=h;obtain ⟨u,rfl,t⟩:=jk r;cases t;obtain ⟨k,l,m,E⟩:=I.list o;obtain rfl:=Ŕ l;have f:=m.isList;have d:p < s.heap.objs.size:=by obtain ⟨_,e,_⟩:=f; exact cH e
 refine call_all_walk (wpAny_pyIter_list f ?_)
 refine ⟨s.heap.objs.size,[s.heap.objs.size,p],[s.heap.objs.size],(bs.map Value.bool).toArray.size,_,_,fun i=>(bs[i]?).getD true,rfl,Walks.list (A:=X.A.in1) (show X.A.handled=none from I.ok.hd hc) _ p (cU d) (bs.map Value.bool).toArray,
  ⟨⟨_,cJ _ rfl,rfl,rfl⟩,f.push _⟩,fun i v B D C a c=>?_,fun z j w=>?_⟩
 .have a:(bs.map Value.bool)[i]?=some v:=by simpa using a
  rw [cG] at a
  cases e:bs[i]? with
  | none=>rw [e] at a; cases a
  | some b =>
   dsimp only at c;rw [e] at a c;cases a;exact dH c
 .have e:((List.range (bs.map Value.bool).toArray.size).all fun i=>(bs[i]?).getD true)=bs.all id:=by
   rw [cL,cA];exact yg0 bs
  rw [e];exists .bl (bs.all id),H,I.kept (t':=j) fun b x e=>w b x (fun n=>?_) (cB _ e),rfl,q;rw [cQ.mp n] at e;exact d7 _ (cH e)
theorem uw {env:Env}:∀ {names:List (Str × NameKind)} {x:Str} {k:NameKind},
  (names.map fun (n,k)=>if (k == NameKind.free && env.scope.kind == .function && env.kindOf n == some .cell) then (n,NameKind.cell) else (n,k)).lookup x=some k->∃ k0,(x,k0)∈names/\(k=k0\/k0=.free)
 | [],_,_,h=>by simp at h
 | (n,k1) :: r,x,k,h=>by
  rw [di] at h;by_cases hx:x=n
  .subst hx;exists k1,.head _,?_;dsimp only at h
   split at h
   .rename_i hc
    simp only [db,beq_iff_eq] at hc;exact .inr hc.1.1
   .simp [List.lookup] at h;exact .inl h.symm
  .have:(x == n)=false:=by simpa using hx
   have a:(r.map fun (n,k)=>if (k == NameKind.free && env.scope.kind == .function && env.kindOf n == some .cell) then (n,NameKind.cell) else (n,k)).lookup x=some k:=by
    dsimp only at h
    split at h <;> simpa [List.lookup,this] using h
   obtain ⟨k0,m,q⟩:=uw a;exists k0,.tail _ m,q
def Ø (ys:List Str) (env:Env):List (Str × Addr):=ys.map fun y=>(y,(env.cells.lookup y).getD 0)
theorem ycx {env:Env}:∀ {ys:List Str} {y:Str} {c:Addr},(Ø ys env).lookup y=some c->y∈ys/\c=(env.cells.lookup y).getD 0
 | [],_,_,h=>by simp [Ø] at h
 | z :: r,y,c,h=>by
  by_cases hy:y=z
  .subst hy;simp [Ø,List.lookup] at h;exists .head _,h.symm
  .have b:(y == z)=false:=by simpa using hy
   have a:(Ø r env).lookup y=some c:=by simpa [Ø,List.lookup,b] using h
   obtain ⟨m,e⟩:=ycx a;exists .tail _ m,e
theorem œ {env:Env}:∀ {ys:List Str} {y:Str},y∈ys->(Ø ys env).lookup y=some ((env.cells.lookup y).getD 0)
 | z :: r,y,h=>by
  by_cases hy:y=z
  .subst hy;simp [Ø,List.lookup]
  .have b:(y == z)=false:=by simpa using hy
   have a:y∈r:=by
    rcases cT.mp h with q | q
    .exact absurd q hy
    .exact q
   have:=œ (env:=env) a;simpa [Ø,List.lookup,b] using this
abbrev Cx.compF (X:Cx) (scope:Scope) (ys:List Str) (C:Addr) (x:Str) (s2:Shared) (H2:Hp) (fp:List Addr):Cx :=
 { X with N:=x :: ys,s₀:=s2,H₀:=H2,env:=compEnvC scope (Ø ys X.env) C X.env,outer:=X.stack,ex:=fp,fn:=fun _=>false,pn:=[],xe:=fun _ _=>False }
def x5 (J:It) (te:TE) (fr:St) (D:Addr) (R:Hp->Prop) (H1:Hp):Prop:=∃ W:Nat->Nat->Hp->Prop,(∃ m,W 0 m (upd H1 D (.lst []))) /\
 ∀ i m H2,W i m H2->(J.stop i H2/\R H2)\/(J.go i H2/\∀ x H3,J.yld i H2 x H3->te (some x :: fr) H3 fun y H4=>∃ ys,H4 D=some (.lst ys)/\ys.length < sizeLine/\∃ m',m' < m/\W (i+1) m' (upd H4 D (.lst (ys++[y]))))
def xn (js:List Nat) (σ:St):St:=js.map fun j=>(σ[j]?).getD none
def yjj (wi:TI) (te:TE) (js:List Nat):TE:=fun σ H Q=>wi σ H fun J H1=>∀ D,H1 D=none->x5 J te (xn js σ) D (fun H2=>Q (.ref D) H2) H1
section
variable {iter elt:Expr} {x:Str} {px pos:Pos} {te:TE} {wi:TI} {σ:St} {ys:List Str} {js:List Nat}
def yqm {H:Hp} {Q:VK} (h:wi σ H fun J H1=>∀ D,H1 D=none->x5 J te (xn js σ) D (fun H2=>Q (.ref D) H2) H1):yjj wi te js σ H Q:=h
def ğ {K:W.Frag} {xs:List V} {fr:St} {R:Hp->Prop} {H1:Hp} (Pv:Nat->Hp->Prop) (h0:Pv 0 (upd H1 D (.lst []))) (hl:∀ i H,i <= xs.length->Pv i H->SqL K H a xs)
  (hs:∀ i x H,xs[i]?=some x->i < xs.length->Pv i H->te (some x :: fr) H fun y H4=>∃ ys,H4 D=some (.lst ys)/\ys.length < sizeLine/\∃ m',m' < xs.length - i/\cW xs.length Pv (i+1) m' (upd H4 D (.lst (ys++[y]))))
  (hd:∀ H,Pv xs.length H->R H):x5 (Itl K a) te fr D R H1:=by
 exists cW xs.length Pv,⟨xs.length,by simp,cV _,h0⟩,?_;rintro i m H ⟨rfl,b,p⟩;have q:=hl i H b p;by_cases hlt:i < xs.length
 .refine .inr ⟨⟨xs,xs[i],q,by simp [hlt]⟩,fun x c y=>?_⟩;obtain ⟨e,y⟩:=y;subst e;exact hs i x _ (y xs q) hlt p
 .have e:i=xs.length:=by omega
  subst e;exact .inl ⟨⟨xs,q,cE _⟩,hd H p⟩
def ya0 {lo:Int} {n:Nat} {fr:St} {R:Hp->Prop} {H1:Hp} (Pv:Nat->Hp->Prop) (h0:Pv 0 (upd H1 D (.lst [])))
  (hs:∀ i H,i < n->Pv i H->te (some (.int (lo+i)) :: fr) H fun y H4=>∃ ys,H4 D=some (.lst ys)/\ys.length < sizeLine/\∃ m',m' < n - i/\cW n Pv (i+1) m' (upd H4 D (.lst (ys++[y]))))
  (hd:∀ H,Pv n H->R H):x5 (Itr lo n) te fr D R H1:=by
 exists cW n Pv,⟨n,by simp,cV _,h0⟩,?_;rintro i m H ⟨rfl,b,p⟩;by_cases hlt:i < n
 .refine .inr ⟨hlt,fun x a y=>?_⟩;obtain ⟨e,y⟩:=y;subst e y;exact hs i _ hlt p
 .have e:i=n:=by omega
  subst e;exact .inl ⟨cE _,hd H p⟩
end
end L2
namespace L2
def yx {α:Type} {P:α->Prop}:∀ y∈([]:List α),P y:=fun _ h=>nomatch h
def all_cons {α:Type} {P:α->Prop} {y:α} {r:List α} (h:P y) (t:∀ z∈r,P z):∀ z∈y :: r,P z:=fun z a=>by
 rcases cT.mp a with e | a
 .exact e ▸ h
 .exact t z a
end L2
namespace L2
open PySem PySem.Spec PyProof.Rows
section
variable {X:Cx}
theorem yc2:∀ {ns:List Int} {us:List Value},wg (ns.map V.int) us->∃ xs:Array (Int × Tok),us.toArray=intItems xs/\xs.toList.map (·.1)=ns
 | [],_,.nil=>⟨#[],by simp [intItems],rfl⟩
 | n :: r,_,.cons (l₂:=us) a t=>by
  obtain ⟨c,rfl⟩:=a;obtain ⟨xs,d,b⟩:=yc2 t;exists ((n,c) :: xs.toList).toArray,?_,by simp [b]
  have:us=(intItems xs).toList:=by rw [<- d]
  rw [this];simp [intItems]
def θ (hc:X.calm=true):uf X (.builtin "sum") (fun vs H Q=>∃ p ns,vs=[.ref p]/\SqL X.K H p (List.map V.int ns)/\Q (.int ns.sum) H):=by
 intro a s σ H v n Q I r h;obtain ⟨p,ns,rfl,f,q⟩:=h;obtain ⟨u,rfl,j⟩:=jk r;cases j;obtain ⟨b,d,g,o⟩:=I.list f;obtain ⟨e,m,i⟩:=yc2 d;have l:s.heap.IsList p (intItems e):=m ▸ g.isList;refine sum_intListG (I.ok.hd hc) l fun t c t' k=>?_;rw [preSum_eq,dA (by simp),i];exists .int ns.sum,H,I.kept (t':=c) k,⟨_,rfl⟩,q
end
variable {it:Addr} {fp:List Addr} {i:Nat} {tn:Nat->Heap->Prop} {s2:Shared}
section
variable {X:Cx} {e:Expr} {t1 t2:TE}
def yml (t1 t2:TE):TE:=fun σ H Q=>t1 σ H Q\/t2 σ H Q
def Į (h1:PE X e t1) (h2:PE X e t2):PE X e (yml t1 t2):=by
 refine .mk fun a s σ H Q I h=>?_;rcases h with h | h
 .exact h1 a s σ H Q I h
 .exact h2 a s σ H Q I h
def į {σ:St} {H:Hp} {Q:VK} (h:t1 σ H Q):yml t1 t2 σ H Q:=.inl h
def ρ {σ:St} {H:Hp} {Q:VK} (h:t2 σ H Q):yml t1 t2 σ H Q:=.inr h
end
def yq {α:Type} {H:Hp} {p:Addr} {o:HO} {A:Hp->α->Prop} {Q:α} (hp:H p=none) (h:∀ H',yv H H'->H' p=some o->A H' Q):A (upd H p o) Q:=h _ (y8 hp) ya
section
variable {K:W.Frag} {a D:Addr} {xs:List V} {te:TE} {fr:St} {R:Hp->Prop} {H1:Hp}
def Ų (Pv:Nat->Hp->Prop) (h0:Pv 0 (upd H1 D (.lst []))) (hl:∀ i H,i <= xs.length->Pv i H->SqT K H a xs)
  (hs:∀ i x H,xs[i]?=some x->i < xs.length->Pv i H->te (some x :: fr) H fun y H4=>∃ ys,H4 D=some (.lst ys)/\ys.length < sizeLine/\∃ m',m' < xs.length - i/\cW xs.length Pv (i+1) m' (upd H4 D (.lst (ys++[y]))))
  (hd:∀ H,Pv xs.length H->R H):x5 (Itt K a) te fr D R H1:=by
 exists cW xs.length Pv,⟨xs.length,by simp,cV _,h0⟩,?_;rintro i m H ⟨rfl,b,p⟩;have q:=hl i H b p;by_cases hlt:i < xs.length
 .refine .inr ⟨⟨xs,xs[i],q,by simp [hlt]⟩,fun x c y=>?_⟩;obtain ⟨e,y⟩:=y;subst e;exact hs i x _ (y xs q) hlt p
 .have e:i=xs.length:=by omega
  subst e;exact .inl ⟨⟨xs,q,cE _⟩,hd H p⟩
def ylr (Pv:Nat->Hp->Prop) (h0:Pv 0 (upd H1 D (.lst []))) (hl:∀ i H,i <= xs.length->Pv i H->SqT K H a xs)
  (hs:∀ i x H,xs[i]?=some x->i < xs.length->Pv i H->te [some x] H fun y H4=>∃ ys,H4 D=some (.lst ys)/\ys.length < sizeLine/\∃ m',m' < xs.length - i/\cW xs.length Pv (i+1) m' (upd H4 D (.lst (ys++[y]))))
  (hd:∀ H,Pv xs.length H->R H):ydn (Itt K a) te D R H1:=by
 exists cW xs.length Pv,⟨xs.length,by simp,cV _,h0⟩,?_;rintro i m H ⟨rfl,b,p⟩;have q:=hl i H b p;by_cases hlt:i < xs.length
 .refine .inr ⟨⟨xs,xs[i],q,by simp [hlt]⟩,fun x c y=>?_⟩;obtain ⟨e,y⟩:=y;subst e;exact hs i x _ (y xs q) hlt p
 .have e:i=xs.length:=by omega
  subst e;exact .inl ⟨⟨xs,q,cE _⟩,hd H p⟩
def Mp (H1:Hp) (D:Addr) (f:Nat->V) (i:Nat) (H:Hp):Prop:=yv H1 H/\H D=some (.lst ((List.range i).map f))
def Mp.zero {f:Nat->V} (hD:H1 D=none):Mp H1 D f 0 (upd H1 D (.lst [])):=⟨y8 hD,ya⟩
def Mp.step {f:Nat->V} {n:Nat} {H4:Hp} {y:V} (hD:H1 D=none) (hn:n < sizeLine) (hi:i < n) (S:yv H1 H4) (h4:H4 D=some (.lst ((List.range i).map f))) (e:y=f i) :
  ∃ ys,H4 D=some (.lst ys)/\ys.length < sizeLine/\∃ m',m' < n - i/\cW n (Mp H1 D f) (i+1) m' (upd H4 D (.lst (ys++[y]))):=by
 refine xm (n:=n) h4 (by rw [cA,da]; omega) hi ⟨?_,?_⟩
 .intro b o a;rw [yk (yb a hD)];exact S b o a
 .rw [ya,List.range_succ,cM,e];rfl
def ú {f:Nat->V} {g:V->V} (h:∀ i x,xs[i]?=some x->f i=g x):(List.range xs.length).map f=xs.map g:=by
 refine List.ext_getElem? fun i=>?_;rw [cG,cG];by_cases hi:i < xs.length
 .rw [dS hi,cC hi];show some (f i)=some (g xs[i]);rw [h i _ (cC hi)]
 .rw [dn (by rw [da]; omega),dn (by omega)];rfl
def ofG (g:V->V) (xs:List V) (i:Nat):V:=((xs[i]?).map g).getD .non
def ydo {g:V->V} {x:V} (h:xs[i]?=some x):ofG g xs i=g x:=by
 unfold ofG;rw [h];rfl
def MpK (H1:Hp) (D:Addr) (f:Nat->V) (n i:Nat):VK:=fun y H4=>∃ ys,H4 D=some (.lst ys)/\ys.length < sizeLine/\∃ m',m' < n - i/\cW n (Mp H1 D f) (i+1) m' (upd H4 D (.lst (ys++[y])))
def Mp.done {g:V->V} {x y:V} {H4:Hp} (hD:H1 D=none) (hn:xs.length < sizeLine) (hx:xs[i]?=some x) (S:yv H1 H4) (h4:H4 D=some (.lst ((List.range i).map (ofG g xs)))) (e:y=g x):MpK H1 D (ofG g xs) xs.length i y H4:=by
 have a:i < xs.length:=by
  rcases Nat.lt_or_ge i xs.length with q | q
  .exact q
  .rw [dn q] at hx; cases hx
 exact Mp.step hD hn a S h4 (e.trans (ydo hx).symm)
def Mp.doneR {f:Nat->V} {n:Nat} {y:V} {H4:Hp} (hD:H1 D=none) (hn:n < sizeLine) (hi:i < n) (S:yv H1 H4) (h4:H4 D=some (.lst ((List.range i).map f))) (e:y=f i):MpK H1 D f n i y H4:=Mp.step hD hn hi S h4 e
def zb (g:V->V) (hq:SqL K H1 a xs) (hD:H1 D=none)
  (hs:∀ i x H,xs[i]?=some x->yv H1 H->H D=some (.lst ((List.range i).map (ofG g xs)))->te (some x :: fr) H (MpK H1 D (ofG g xs) xs.length i))
  (hd:∀ H,yv H1 H->H D=some (.lst (xs.map g))->R H):x5 (Itl K a) te fr D R H1 :=
 ğ (Mp H1 D (ofG g xs)) (Mp.zero hD) (fun _ _ _ p=>p.1.seq hq) (fun i x H b c p=>hs i x H b p.1 p.2)
  fun H p=>hd H p.1 (by rw [<- ú (f:=ofG g xs) fun i x=>ydo]; exact p.2)
def Ģ (g:V->V) (hq:SqT K H1 a xs) (hD:H1 D=none)
  (hs:∀ i x H,xs[i]?=some x->yv H1 H->H D=some (.lst ((List.range i).map (ofG g xs)))->te (some x :: fr) H (MpK H1 D (ofG g xs) xs.length i))
  (hd:∀ H,yv H1 H->H D=some (.lst (xs.map g))->R H):x5 (Itt K a) te fr D R H1 :=
 Ų (Mp H1 D (ofG g xs)) (Mp.zero hD) (fun _ _ _ p=>p.1.tup hq) (fun i x H b c p=>hs i x H b p.1 p.2)
  fun H p=>hd H p.1 (by rw [<- ú (f:=ofG g xs) fun i x=>ydo]; exact p.2)
def ygq (g:V->V) (hq:SqT K H1 a xs) (hD:H1 D=none)
  (hs:∀ i x H,xs[i]?=some x->yv H1 H->H D=some (.lst ((List.range i).map (ofG g xs)))->te [some x] H (MpK H1 D (ofG g xs) xs.length i))
  (hd:∀ H,yv H1 H->H D=some (.lst (xs.map g))->R H):ydn (Itt K a) te D R H1 :=
 ylr (Mp H1 D (ofG g xs)) (Mp.zero hD) (fun _ _ _ p=>p.1.tup hq) (fun i x H b c p=>hs i x H b p.1 p.2)
  fun H p=>hd H p.1 (by rw [<- ú (f:=ofG g xs) fun i x=>ydo]; exact p.2)
def Ş {lo:Int} {n:Nat} (f:Nat->V) (hD:H1 D=none)
  (hs:∀ i H,i < n->yv H1 H->H D=some (.lst ((List.range i).map f))->te (some (.int (lo+i)) :: fr) H (MpK H1 D f n i))
  (hd:∀ H,yv H1 H->H D=some (.lst ((List.range n).map f))->R H):x5 (Itr lo n) te fr D R H1 :=
 ya0 (Mp H1 D f) (Mp.zero hD) (fun i H a p=>hs i H a p.1 p.2) fun H p=>hd H p.1 p.2
def yq8 {tr:TA} {σ:St} {H:Hp} {R:It->Hp->Prop} (h:tr σ H fun vs H1=>∃ i j:Int,vs=[.int i,.int j]/\(-(2 ^ 62) <= i/\i < 2 ^ 62/\-(2 ^ 62) <= j/\j < 2 ^ 62)/\R (Itr i (j - i).toNat) H1):vai tr σ H R:=h
end
structure Mk0 (K:W.Frag) (C:Addr):Prop where
 makes:W.makesIn K C=true
 init:W.findIn K (.ref C) "__init__"=some (some (.builtin "object.__init__"))
 kp:W.keepIn K (.ref C)=true
abbrev Cx.compT (X:Cx) (scope:Scope) (ys:List Str) (C:Addr) (xs:List Str) (s2:Shared) (H2:Hp) (fp:List Addr):Cx :=
 { X with N:=xs++ys,s₀:=s2,H₀:=H2,env:=compEnvC scope (Ø ys X.env) C X.env,outer:=X.stack,ex:=fp,fn:=fun _=>false,pn:=[],xe:=fun _ _=>False }
variable {X:Cx}
def j4 (J:It) (g:TG) (te:TE) (n:Nat) (fr:St) (D:Addr) (R:Hp->Prop) (H1:Hp):Prop:=∃ W:Nat->Nat->Hp->Prop,(∃ m,W 0 m (upd H1 D (.lst []))) /\
 ∀ i m H2,W i m H2->(J.stop i H2/\R H2)\/(J.go i H2/\∀ x H3 pre,J.yld i H2 x H3->List.length pre=n->g x (pre++fr) H3 fun σ' H'=>(∃ pre',List.length pre'=n/\σ'=pre'++fr)/\te σ' H' fun y H4=>∃ ys,H4 D=some (.lst ys)/\ys.length < sizeLine/\∃ m',m' < m/\W (i+1) m' (upd H4 D (.lst (ys++[y]))))
def yiz (wi:TI) (g:TG) (te:TE) (n:Nat) (js:List Nat):TE:=fun σ H Q=>wi σ H fun J H1=>∀ D,H1 D=none->j4 J g te n (xn js σ) D (fun H2=>Q (.ref D) H2) H1
def PTs (X:Cx) (ifs:List Expr) (t:TT):Prop:=∀ (pins:List (Addr × Obj)) (s:Shared) (σ:St) (H:Hp) (Q:Bool->Hp->Prop),Inv X pins σ H s->t σ H Q ->
 wpAny (model X.prog X.w) X.A (forIn ifs true fun c r=>if r=true then do let ok <- isTrue c X.env (eval c X.env); pure (ForInStep.yield ok) else pure (ForInStep.yield r)) (TP X pins σ Q) X.xe s
def vdn:TT:=fun _ H Q=>Q true H
def yp0:PTs X [] vdn:=fun _ _ σ H _ I h=>cD ⟨H,I,h⟩
def yra {c:Expr} {t:TT} (h:PT X c t):PTs X [c] t:=fun a s σ H Q I q=>wpAny_tests_one (h a s σ H Q I q)
def yhu (J:It) (g:TG) (tt:TT) (te:TE) (n:Nat) (fr:St) (D:Addr) (R:Hp->Prop) (H1:Hp):Prop:=∃ W:Nat->Nat->Hp->Prop,(∃ m,W 0 m (upd H1 D (.lst []))) /\
 ∀ i m H2,W i m H2->(J.stop i H2/\R H2)\/(J.go i H2/\∀ x H3 pre,J.yld i H2 x H3->List.length pre=n->g x (pre++fr) H3 fun σ' H'=>(∃ pre',List.length pre'=n/\σ'=pre'++fr)/\tt σ' H' fun b H4=>if b=true then te σ' H4 (fun y H5=>∃ ys,H5 D=some (.lst ys)/\ys.length < sizeLine/\∃ m',m' < m/\W (i+1) m' (upd H5 D (.lst (ys++[y])))) else ∃ m',m' < m/\W (i+1) m' H4)
section
variable {iter elt tg:Expr} {xs:List Str} {g:TG} {pos:Pos} {scope:Scope} {te:TE} {wi:TI} {ifs:List Expr} {tt:TT} {pins:List (Addr × Obj)} {σ:St} {ys:List Str} {js:List Nat}
def ĥ {H2:Hp} {J:It} (hc:X.calm=true)
  (ht:∀ (C:Addr) (s2:Shared) (H2:Hp) (fp:List Addr),PTs (X.compT scope ys C xs s2 H2 fp) ifs tt) (he:∀ (C:Addr) (s2:Shared) (H2:Hp) (fp:List Addr),PE (X.compT scope ys C xs s2 H2 fp) elt te)
  (hgt:∀ (C:Addr) (s2:Shared) (H2:Hp) (fp:List Addr),PG (X.compT scope ys C xs s2 H2 fp) tg g)
  (hcell:∀ y∈scope.names,y.2≠.cell) (hkind:scope.kind=.function)
  (hfr:∀ y∈scope.names,y.2=.free->y.1∈ys) (hyc:∀ y∈ys,X.env.kindOf y=some .cell) (hrel:∀ y∈ys,(relabel scope X.env).names.lookup y=some .cell) (hjs:js.map (fun j=>X.N[j]?)=ys.map some)
  (I2:Inv X pins σ H2 s2) (T:yd9 X.prog X.w X.K tg J fp it tn) (st2:tn 0 s2.heap) (f2:∀ b∈fp,yay X pins H2 b)
  {R:Addr->Hp->Prop} (h:∀ D,H2 D=none->yhu J g tt te xs.length (xn js σ) D (R D) H2) {RR:Value->Addr->Result->Shared->Prop} {E:Value->Shared->Prop}
  (hR:∀ (D C:Addr) (H':Hp) (s':Shared) (m:Str->Option Value),yay X pins H' C->s'.heap.Ns C m->Inv X pins σ H' s'->R D H'->RR (.ref D) C (.ok .next) s') :
  wpAny (model X.prog X.w) X.A (newList []) (fun acc s₃=>wpAny (model X.prog X.w) X.A (newFunctionEnv scope X.env.globals (Ø ys X.env) [] X.env.qual none .none (some X.env)) (fun cenv s₄ =>
   codeAny (model X.prog X.w) X.A (.compStart (.ListComp elt [⟨tg,iter,ifs,0⟩] scope pos) 0 (.ref it) acc { cenv with scope:=relabel scope X.env }) (RR acc cenv.locals) s₄) E s₃) E s2:=by
 have k:∀ y c,(Ø ys X.env).lookup y=some c->X.env.cells.lookup y=some c:=fun y c e=>by
  obtain ⟨m,rfl⟩:=ycx e;obtain ⟨c',q⟩:=I2.ok.has y (.inl (hyc y m));rw [q];rfl
 refine wpAny_newObj_type (wpAny_newFunctionEnv hcell (by intro y hy; simp at hy) (fun h₁ hns₁ hsb₁=>?_) hkind);dsimp only at hns₁ hsb₁ ⊢;generalize Y:s2.heap.push { cls:=.type "list",dict:=none,data:=.seq ([]:List Value).toArray }=G at hns₁ hsb₁ ⊢;have hC:G.objs.size=s2.heap.objs.size+1:=by rw [<- Y,Heap.size_push]
 have a0:s2.heap.objs.size≠G.objs.size:=by rw [hC]; exact cU (Nat.lt_succ_self _)
 have M:s2.heap.objs.size <= G.objs.size:=by rw [hC]; exact Nat.le_succ _
 have f:∀ b,b < s2.heap.objs.size->b≠G.objs.size/\b≠s2.heap.objs.size:=fun b a=>⟨by rw [hC]; exact cU (Nat.lt_succ_of_lt a),cU a⟩;have F:∀ b o,s2.heap.get? b=some o->h₁.get? b=some o:=fun b o e=>hsb₁.extBut b o (f b (cH e)).1 (cB _ (Y ▸ cB _ e));have a2:h₁.get? s2.heap.objs.size=some { cls:=.type "list",data:=.seq ([]:List Value).toArray }:=hsb₁.extBut _ _ a0 (cB _ (Y ▸ cJ _ rfl));have S:∀ b∈fp,b < s2.heap.objs.size:=fun b a=>let ⟨_,e,_⟩:=T.obj 0 _ st2 b a; cH e;have a6:∀ b∈fp,b∉frs X.stack:=fun b a z=>(cT.mp (I2.stkSub b z)).elim (f2 b a).2.1 (f2 b a).2.2.1;have nC:H2 G.objs.size=none:=I2.hok.fresh M;have nD:H2 s2.heap.objs.size=none:=I2.hok.fresh (cE _)
 have t:∀ y c,(Ø ys X.env).lookup y=some c->∃ v o,s2.heap.get? c=some o/\o.data=.cell v:=fun y c e=>by
  obtain ⟨v,o,q1,q2⟩:=I2.cell y c (k y c e);exact ⟨v,o,q1,q2⟩
 have a8:(X.compT scope ys G.objs.size xs s2 H2 fp).Ok:=by
  exists I2.ok.mod,hkind,I2.ok.glob,I2.ok.blt,M,fun y z c e U=>I2.ok.inj y z c (k y c e) (k z c U),fun y e=>?_,fun y c z e=>(by cases z),I2.ok.hd,I2.ok.frames,.inl rfl,fun b a=>⟨(f b (S b a)).1,fun y c e=>(f2 b a).2.2.2.2.1 y c (k y c e)⟩,I2.bs,?_,fun b o e a=>?_,fun b a=>a6 b a,I2.stack,I2.stkFree
  .have U:(relabel scope X.env).names.lookup y=some .cell\/(relabel scope X.env).names.lookup y=some .free:=e
   have ac:y∈ys:=by
    rcases U with U | U
    .obtain ⟨k0,m,q⟩:=uw U;rcases q with q | q
     .exact absurd q.symm (hcell _ m)
     .exact hfr _ m q
    .obtain ⟨k0,m,q⟩:=uw U;rcases q with q | q
     .exact hfr _ m q.symm
     .exact hfr _ m q
   exists _,œ ac
  .exact dh I2.ok.bsz I2.sz
  .rcases (f2 b a).2.2.2.1 with z | z
   .exact I2.ok.noex b o e z
   .exact absurd (dg (cH (I2.ok.bs b o e).1) z) (d7 _)
 have a3:(xn js σ).length=ys.length:=by
  have:=congrArg List.length hjs;simpa [xn] using this
 have I3:∀ tk,Inv (X.compT scope ys G.objs.size xs s2 H2 fp) [] (List.replicate xs.length none++xn js σ) (upd H2 s2.heap.objs.size (.lst [])) { s2 with heap:=h₁,toks:=tk }:=fun tk =>
  ⟨a8,rfl,I2.bare,Un.laid F (cE _) nD,⟨_,hns₁,fun i y v e1 P e3=>by
    by_cases hi0:i < xs.length
    .rw [List.getElem?_append_left (by simpa using hi0),List.getElem?_replicate,if_pos hi0] at P;cases P
    .obtain ⟨i,rfl⟩:∃ i',i=xs.length+i':=⟨i - xs.length,by omega⟩;have e1:ys[i]?=some y:=by rw [dM (by omega)] at e1; simpa using e1
     have P:(xn js σ)[i]?=some (some v):=by rw [dM (by simp)] at P; simpa using P
     have hy:y∈ys:=cR e1;have Z:=congrArg (fun l=>l[i]?) hjs;simp only [cG,e1,d5] at Z
     cases q:js[i]? with
     | none=>rw [q] at Z; cases Z
     | some j =>
      rw [q] at Z;have Z:X.N[j]?=some y:=by simpa using Z
      have es:σ[j]?=some (some v):=by
       simp only [xn,cG,q,d5,Option.some.injEq] at P
       cases r:σ[j]? with
       | none=>rw [r] at P; cases P
       | some w'=>rw [r] at P; rw [show w'=some v from P]
      obtain ⟨m0,_,ab⟩:=I2.loc;obtain ⟨u,ru,lk⟩:=ab j y v Z es (.inr (.inl (hyc y hy)));exists u,ru,.inr ⟨.inl (hrel y hy),?_⟩;rcases lk with ⟨k1,_⟩ | ⟨_,c,ec,o,ho,hd⟩
      .rw [hyc y hy] at k1; cases k1
      .exists c,?_,o,F c o ho,hd;show (Ø ys X.env).lookup y=some c;rw [œ hy,ec]
       rfl⟩,fun y c e=>(by
    obtain ⟨v,o,q1,q2⟩:=t y c e
    exact ⟨v,o,F c o q1,q2⟩),(by show upd H2 s2.heap.objs.size _ G.objs.size=none; rw [yk a0.symm]; exact nC),fun y c e=>(by
    obtain ⟨v,o,q1,q2⟩:=t y c e;show upd H2 s2.heap.objs.size _ c=none;rw [yk (f c (cH q1)).2]
    exact I2.freeC y c (k y c e)),fun p hp=>(by simp at hp),
   I2.hok.laid F (cE _) ⟨cV _,[],_,.nil,a2⟩,by show (List.replicate xs.length none++xn js σ).length=(xs++ys).length; simp [a3]⟩
 have H:∀ {H':Hp},(∀ b∈fp,H' b=none)->∀ b∈fp,yay (X.compT scope ys G.objs.size xs s2 H2 fp) [] H' b:=fun hn b a=>⟨hn b a,(f b (S b a)).1,a6 b a,.inl a,fun y c e=>(f2 b a).2.2.2.2.1 y c (k y c e),fun p hp=>(by simp at hp)⟩
 have Q:∀ tk,codeAny (model X.prog X.w) X.A (.compLoop (.ListComp elt [⟨tg,iter,ifs,0⟩] scope pos) 0 (.ref it) (.ref s2.heap.objs.size) (compEnvC scope (Ø ys X.env) G.objs.size X.env)) (RR (.ref s2.heap.objs.size) G.objs.size) { s2 with heap:=h₁,toks:=tk }:=by
  intro tk;obtain ⟨W,⟨m0,w0⟩,a4⟩:=h s2.heap.objs.size nD;refine codeAny_loop rfl (fun n s'=>∃ i v H',List.length v=xs.length/\Inv (X.compT scope ys G.objs.size xs s2 H2 fp) [] (v++xn js σ) H' s'/\tn i s'.heap/\(∀ b∈fp,H' b=none)/\W i n H') (fun n s' hI=>?_) m0
   ⟨0,List.replicate xs.length none,_,by simp,I3 tk,T.keep 0 _ _ st2 (fun b a o e=>F b o e),fun b a=>(by rw [yk (f b (S b a)).2]; exact (f2 b a).1),w0⟩
  obtain ⟨i,v,H',hv,I,st,fr,w⟩:=hI;show wpAny _ _ ((compTurn (.ListComp elt [⟨tg,iter,ifs,0⟩] scope pos) 0 (.ref it) (.ref s2.heap.objs.size) (compEnvC scope (Ø ys X.env) G.objs.size X.env)).onRaise (fun x=>do noteFrame x (compEnvC scope (Ø ys X.env) G.objs.size X.env); theTreesLotGoes x)) _ _ s';refine wpAny_noted ?_;rw [compTurn_list];refine bY (wpAny_standAt (bY ?_));rcases a4 i n H' w with ⟨a7,q⟩ | ⟨go,a5⟩
  .refine thn (T.done (X.compT scope ys G.objs.size xs s2 H2 fp) rfl rfl rfl hc i [] s' (v++xn js σ) H' _ I (H fr) st a7) fun r s4 ⟨hr,I4⟩=>?_;subst hr;refine cD ?_;obtain ⟨m,hn,_⟩:=I4.loc;exact hR _ _ H' s4 m (I2.fpOk M I4.free) hn (I2.call' (ch:=fp) I4.os I4.base I4.hok I4.bare fun b a=>⟨(f2 b a).2.2.2.1,(f2 b a).2.1,(f2 b a).2.2.2.2.1,(f2 b a).2.2.2.2.2⟩) q
  .refine thn (T.item (X.compT scope ys G.objs.size xs s2 H2 fp) rfl rfl rfl hc i [] s' (v++xn js σ) H' _ I (H fr) st go) fun r s4 ⟨u,hr,h4⟩=>?_;subst hr;refine bY (thn h4 fun _ s5 ⟨y,H5,I5,r5,y5,L,aa⟩=>bY ?_);have a9:=I5.pinned (H aa) (T.obj _ _ L);refine va4 (hgt _ _ _ _ _ s5 (v++xn js σ) H5 y u _ a9 r5 (a5 y H5 v y5 hv)) fun _ s6 ⟨σ',H6,I6,⟨B,a1,ep⟩,q6⟩=>?_;subst ep;refine bY (va4 (ht _ _ _ _ _ s6 (B++xn js σ) H6 _ I6 q6) fun b s7 ⟨H7,I7,q7⟩=>?_)
   cases b with
   | false =>
    obtain ⟨m',hm,w'⟩:=q7
    have O:∀ b∈fp,∀ o,s5.heap.get? b=some o->s7.heap.get? b=some o/\H7 b=none:=fun b a o e =>
     ⟨(I7.pin (b,o) (cZ _ (cZ _ (x0 a e)))).1,(I7.pin (b,o) (cZ _ (cZ _ (x0 a e)))).2.1⟩
    refine cD ⟨rfl,m',hm,i+1,B,_,a1,I7.unpinned,T.keep _ _ _ L fun b a o e=>(O b a o e).1,fun b a=>?_,w'⟩;obtain ⟨o,e,d⟩:=T.obj _ _ L b a;exact (O b a o e).2
   | true =>
    refine bY (bY (va4 (he _ _ _ _ _ s7 (B++xn js σ) H7 _ I7 q7) fun u2 s7 ⟨y2,H7,I7,r7,zs,hD,hl,m',hm,w'⟩=>bY ?_));refine va4 (xg _ s7 (B++xn js σ) H7 (.ref s2.heap.objs.size) [y2] (.ref s2.heap.objs.size) [u2] (fun _ H8=>H8=upd H7 s2.heap.objs.size (.lst (zs++[y2]))) I7 rfl (.cons r7 .nil) ⟨_,zs,y2,rfl,rfl,hD,hl,rfl⟩) fun _ s8 h'=>?_;obtain ⟨_,H8,I8,_,e8⟩:=h';subst e8
    have O:∀ b∈fp,∀ o,s5.heap.get? b=some o->s8.heap.get? b=some o/\upd H7 s2.heap.objs.size (HO.lst (zs++[y2])) b=none:=fun b a o e =>
     ⟨(I8.pin (b,o) (cZ _ (cZ _ (x0 a e)))).1,(I8.pin (b,o) (cZ _ (cZ _ (x0 a e)))).2.1⟩
    refine cD (cD ⟨rfl,m',hm,i+1,B,_,a1,I8.unpinned,T.keep _ _ _ L fun b a o e=>(O b a o e).1,fun b a=>?_,w'⟩);obtain ⟨o,e,d⟩:=T.obj _ _ L b a;exact (O b a o e).2
 exact codeAny_compStart_list (Q _) (T.self X.A 0 _ _ _ (T.keep 0 _ _ st2 (fun b a o e=>F b o e)) (Q _))
def Ä {H2:Hp} {J:It} (hc:X.calm=true)
  (he:∀ (C:Addr) (s2:Shared) (H2:Hp) (fp:List Addr),PE (X.compT scope ys C xs s2 H2 fp) elt te)
  (hgt:∀ (C:Addr) (s2:Shared) (H2:Hp) (fp:List Addr),PG (X.compT scope ys C xs s2 H2 fp) tg g)
  (hcell:∀ y∈scope.names,y.2≠.cell) (hkind:scope.kind=.function)
  (hfr:∀ y∈scope.names,y.2=.free->y.1∈ys) (hyc:∀ y∈ys,X.env.kindOf y=some .cell) (hrel:∀ y∈ys,(relabel scope X.env).names.lookup y=some .cell) (hjs:js.map (fun j=>X.N[j]?)=ys.map some)
  (I2:Inv X pins σ H2 s2) (T:yd9 X.prog X.w X.K tg J fp it tn) (st2:tn 0 s2.heap) (f2:∀ b∈fp,yay X pins H2 b)
  {R:Addr->Hp->Prop} (h:∀ D,H2 D=none->j4 J g te xs.length (xn js σ) D (R D) H2) {RR:Value->Addr->Result->Shared->Prop} {E:Value->Shared->Prop}
  (hR:∀ (D C:Addr) (H':Hp) (s':Shared) (m:Str->Option Value),yay X pins H' C->s'.heap.Ns C m->Inv X pins σ H' s'->R D H'->RR (.ref D) C (.ok .next) s') :
  wpAny (model X.prog X.w) X.A (newList []) (fun acc s₃=>wpAny (model X.prog X.w) X.A (newFunctionEnv scope X.env.globals (Ø ys X.env) [] X.env.qual none .none (some X.env)) (fun cenv s₄ =>
   codeAny (model X.prog X.w) X.A (.compStart (.ListComp elt [⟨tg,iter,[],0⟩] scope pos) 0 (.ref it) acc { cenv with scope:=relabel scope X.env }) (RR acc cenv.locals) s₄) E s₃) E s2 :=
 ĥ (tt:=vdn) hc (fun _ _ _ _=>yp0) he hgt hcell hkind hfr hyc hrel hjs I2 T st2 f2 (fun D l=>by
  obtain ⟨W,f,a⟩:=h D l;exists W,f,fun i m H w=>(a i m H w).imp id fun ⟨n,c⟩=>⟨n,fun x k d y e=>?_⟩;exact c x k d y e) hR
def ycr (hc:X.calm=true) (hi:PI X tg iter wi) (he:∀ (C:Addr) (s2:Shared) (H2:Hp) (fp:List Addr),PE (X.compT scope ys C xs s2 H2 fp) elt te) (hjs:js.map (fun j=>X.N[j]?)=ys.map some)
  (hgt:∀ (C:Addr) (s2:Shared) (H2:Hp) (fp:List Addr),PG (X.compT scope ys C xs s2 H2 fp) tg g)
  (hclos:closureFor scope X.env=pure (Ø ys X.env)) (hyc:∀ y∈ys,X.env.kindOf y=some .cell) (hrel:∀ y∈ys,(relabel scope X.env).names.lookup y=some .cell)
  (hfr:∀ y∈scope.names,y.2=.free->y.1∈ys:=by decide +kernel) (hcell:∀ y∈scope.names,y.2≠.cell:=by decide +kernel) (hkind:scope.kind=.function:=by rfl)
  (hnames:∀ y∈scope.names,y.2=.local->scope.names.lookup y.1=some .local:=by decide +kernel) (hs:∀ x,foldedSetIterable iter X.env x=pure x:=by intro _; rfl) :
  PE X (.ListComp elt [⟨tg,iter,[],0⟩] scope pos) (yiz wi g te xs.length js):=by
 refine .mk fun a s σ H Q I h=>?_;rw [eval_ListComp];refine wpAny_comprehension_free (use:=none) rfl hs hclos hkind hnames (thn (hi a s σ H _ I h) fun v K i=>thn i fun t s2 B=>?_);obtain ⟨F,fp,E,J,H2,e,r,T,c,k,h⟩:=B;subst e;refine Ä (R:=fun D d=>Q (.ref D) d) (RR:=compPost (model X.prog X.w) X.A X.xe none (EP X a σ Q)) hc he hgt hcell hkind hfr hyc hrel hjs r T c k h ?_;intro D C d n m f z u q;exists m,z,fun G p=>⟨.ref D,d,?_,rfl,q⟩;exact u.turned (t':=n.toks) (fun b o l e=>p.extBut b o l e) f.1 f.2.1 f.2.2.2.1 f.2.2.2.2.1 f.2.2.2.2.2
def ypq {H:Hp} {Q:VK} {n:Nat} (h:wi σ H fun J H1=>∀ D,H1 D=none->j4 J g te n (xn js σ) D (fun H2=>Q (.ref D) H2) H1):yiz wi g te n js σ H Q:=h
end
section
variable {iter elt:Expr} {x:Str} {px pos:Pos} {scope:Scope} {te:TE} {wi:TI} {pins:List (Addr × Obj)} {σ:St} {ys:List Str} {js:List Nat}
def ywz {J:It} {fr:St} {D:Addr} {R:Hp->Prop} {H1:Hp} (h:x5 J te fr D R H1):j4 J (w8 0) te 1 fr D R H1:=by
 obtain ⟨W,d,e⟩:=h;exists W,d,fun i m j w=>(e i m j w).imp id fun ⟨g,y⟩=>⟨g,fun x f a c b=>?_⟩
 match a,b with
 | [z],_=>exists ⟨[some x],rfl,rfl⟩,y x f c
def Ī {H2:Hp} {J:It} (hc:X.calm=true)
  (he:∀ (C:Addr) (s2:Shared) (H2:Hp) (fp:List Addr),PE (X.compF scope ys C x s2 H2 fp) elt te)
  (hcell:∀ y∈scope.names,y.2≠.cell) (hkind:scope.kind=.function) (hx:scope.names.lookup x=some .local) (hnd:(x :: ys).Nodup)
  (hfr:∀ y∈scope.names,y.2=.free->y.1∈ys) (hyc:∀ y∈ys,X.env.kindOf y=some .cell) (hrel:∀ y∈ys,(relabel scope X.env).names.lookup y=some .cell) (hjs:js.map (fun j=>X.N[j]?)=ys.map some)
  (I2:Inv X pins σ H2 s2) (T:yd9 X.prog X.w X.K (.Name x px) J fp it tn) (st2:tn 0 s2.heap) (f2:∀ b∈fp,yay X pins H2 b)
  {R:Addr->Hp->Prop} (h:∀ D,H2 D=none->x5 J te (xn js σ) D (R D) H2) {RR:Value->Addr->Result->Shared->Prop} {E:Value->Shared->Prop}
  (hR:∀ (D C:Addr) (H':Hp) (s':Shared) (m:Str->Option Value),yay X pins H' C->s'.heap.Ns C m->Inv X pins σ H' s'->R D H'->RR (.ref D) C (.ok .next) s') :
  wpAny (model X.prog X.w) X.A (newList []) (fun acc s₃=>wpAny (model X.prog X.w) X.A (newFunctionEnv scope X.env.globals (Ø ys X.env) [] X.env.qual none .none (some X.env)) (fun cenv s₄ =>
   codeAny (model X.prog X.w) X.A (.compStart (.ListComp elt [⟨.Name x px,iter,[],0⟩] scope pos) 0 (.ref it) acc { cenv with scope:=relabel scope X.env }) (RR acc cenv.locals) s₄) E s₃) E s2 :=
 Ä (tg:=.Name x px) (xs:=[x]) (g:=w8 0) hc he (fun C s2 H2 fp=>wl (i:=0) hnd rfl (Or.inl (lookup_relabel_local hx)) (Or.inr (lookup_relabel_local hx))) hcell hkind hfr hyc hrel hjs I2 T st2 f2 (fun D a=>ywz (h D a)) hR
def wn (hc:X.calm=true) (hi:PI X (.Name x px) iter wi) (he:∀ (C:Addr) (s2:Shared) (H2:Hp) (fp:List Addr),PE (X.compF scope ys C x s2 H2 fp) elt te) (hjs:js.map (fun j=>X.N[j]?)=ys.map some)
  (hclos:closureFor scope X.env=pure (Ø ys X.env)) (hnd:(x :: ys).Nodup:=by decide) (hyc:∀ y∈ys,X.env.kindOf y=some .cell) (hrel:∀ y∈ys,(relabel scope X.env).names.lookup y=some .cell)
  (hfr:∀ y∈scope.names,y.2=.free->y.1∈ys:=by decide +kernel) (hcell:∀ y∈scope.names,y.2≠.cell:=by decide +kernel) (hkind:scope.kind=.function:=by rfl)
  (hnames:∀ y∈scope.names,y.2=.local->scope.names.lookup y.1=some .local:=by decide +kernel) (hx:scope.names.lookup x=some .local:=by rfl) (hs:∀ x,foldedSetIterable iter X.env x=pure x:=by intro _; rfl) :
  PE X (.ListComp elt [⟨.Name x px,iter,[],0⟩] scope pos) (yjj wi te js):=by
 refine .mk fun a s σ H Q I h=>?_;rw [eval_ListComp];refine wpAny_comprehension_free (use:=none) rfl hs hclos hkind hnames (thn (hi a s σ H _ I h) fun v G g=>thn g fun r s2 z=>?_);obtain ⟨E,fp,B,J,H2,e,p,T,c,i,h⟩:=z;subst e;refine Ī (R:=fun D d=>Q (.ref D) d) (RR:=compPost (model X.prog X.w) X.A X.xe none (EP X a σ Q)) hc he hcell hkind hx hnd hfr hyc hrel hjs p T c i h ?_;intro D C d l m f u t q;exists m,u,fun F n=>⟨.ref D,d,?_,rfl,q⟩;exact t.turned (t':=l.toks) (fun b o k e=>n.extBut b o k e) f.1 f.2.1 f.2.2.2.1 f.2.2.2.2.1 f.2.2.2.2.2
def yct {y:Str} {py spos:Pos} (hN:X.N.Nodup) (hy:X.N[i]?=some y) (hl:X.env.scope.names.lookup y=some .local) (hc:X.calm=true) (hi:PI X (.Name x px) iter wi)
  (he:∀ (C:Addr) (s2:Shared) (H2:Hp) (fp:List Addr),PE (X.compF scope ys C x s2 H2 fp) elt te) (hjs:js.map (fun j=>X.N[j]?)=ys.map some)
  (hclos:closureFor scope X.env=pure (Ø ys X.env)) (hyc:∀ y∈ys,X.env.kindOf y=some .cell) (hrel:∀ y∈ys,(relabel scope X.env).names.lookup y=some .cell)
  (hsw:swapsWith (.ListComp elt [⟨.Name x px,iter,[],0⟩] scope pos) (some (.Name y py)) spos.line X.env=pure true:=by rfl) (hnd:(x :: ys).Nodup:=by decide)
  (hfr:∀ y∈scope.names,y.2=.free->y.1∈ys:=by decide +kernel) (hcell:∀ y∈scope.names,y.2≠.cell:=by decide +kernel) (hkind:scope.kind=.function:=by rfl)
  (hnames:∀ y∈scope.names,y.2=.local->scope.names.lookup y.1=some .local:=by decide +kernel) (hx:scope.names.lookup x=some .local:=by rfl) (hs:∀ x,foldedSetIterable iter X.env x=pure x:=by intro _; rfl) :
  PS X (.Assign [.Name y py] (.ListComp elt [⟨.Name x px,iter,[],0⟩] scope pos) spos) (yun (yjj wi te js) (w8 i)):=by
 refine .mk fun a s σ H p I h=>?_;rw [exec_Assign_Name_used _ _ _ _ hsw];refine bY (wpAny_standAt (bY ?_));show wpAny _ X.A (do let _ <- comprehension (.ListComp elt [⟨.Name x px,iter,[],0⟩] scope pos) scope X.env _ (newList []) false (eval iter X.env) (some (assign (.Name y py) X.env))) _ _ s;refine bY (dU (wpAny_comprehension_free (use:=some (assign (.Name y py) X.env)) (Q:=fun _ d=>SP X a p .next d) rfl hs hclos hkind hnames (thn (hi a s σ H _ I h) fun v U u=>thn u fun K s2 M=>?_)) (fun _ d E=>cD (cD E)) fun _ _ e=>e);obtain ⟨S,fp,P,J,H2,e,G,T,r,F,h⟩:=M;subst e;refine Ī (R:=fun D t=>w8 i (.ref D) σ t p.nx) (RR:=compPost (model X.prog X.w) X.A X.xe (some (assign (.Name y py) X.env)) (fun _ d=>SP X a p .next d)) hc he hcell hkind hx hnd hfr hyc hrel hjs G T r F h ?_;intro D C t d m f B L q;refine wpAny_assign_Name (ε (v:=V.ref D) L hN hy (Or.inl hl) rfl (fun g n k=>?_) (Or.inr hl));exists m,?_,fun O l=>⟨_,t,?_,q⟩
 .obtain ⟨b,l,c⟩:=k;refine B.sameBut l fun z=>?_;rcases c with c | c
  .exact f.2.1 (z.trans c)
  .exact f.2.2.2.2.1 y b c z.symm
 .exact n.turned (t':=g.toks) (fun b o c e=>l.extBut b o c e) f.1 f.2.1 f.2.2.2.1 f.2.2.2.2.1 f.2.2.2.2.2
end
end L2
namespace L2
open PySem PySem.Spec PyProof.Rows
section
variable {prog:Program} {w:World} {A:Around} {E:Value->Shared->Prop} {s:Shared}
def jy {it l:Addr} {i:Nat} {items} {x:Value} {Q:Value->Shared->Prop} (hit:s.heap.IsTupleIter it l i) (hl:s.heap.IsTuple l items) (hx:items[i]?=some x)
  (hQ:∀ h',h'.IsTupleIter it l (i+1)->Heap.SameBut it s.heap h'->Q x { s with heap:=h' }):wpAny (model prog w) A (Builtin.SmallTypes.nextOf (.ref it)) Q E s:=by
 obtain ⟨g,b,e,a⟩:=id hit;obtain ⟨f,d,_,h,c⟩:=hl;unfold Builtin.SmallTypes.nextOf;refine bY (wpAny_callSpecial?_slot (name:=Str.ofString "__next__") hit.typeIs slot_tupleiter_next (wpAny_call_entry slot_tupleiter_next hit.typeIs entry_tupleiter_next ?_ (args_tupleiter_next _)));show wpAny _ _ (field (.ref it) 0 >>= _) _ _ s;refine bY (dD b a (x:=.ref l) rfl ?_);show wpAny _ _ (if (Value.ref l == Value.none)=true then _ else _) _ _ s;rw [if_neg (show ¬ ((Value.ref l == Value.none)=true) from cN)];show wpAny _ _ (field (.ref it) 1 >>= _) _ _ s;refine bY (dD b a (x:=.int i 0) rfl ?_);show wpAny _ _ (seqItems? (.ref l) >>= _) _ _ s;refine bY (wpAny_seqItems d c ?_);simp only [Int.toNat_natCast,hx];refine bY (wpAny_setField b a (by simp) (cD ⟨x,rfl,cD (hQ _ ⟨_,Heap.get?_update_self _ b (Obj.isFreed_of_fields (Obj.data_mapFields a _)),(Obj.cls_mapFields ..).trans e,?_⟩ (Heap.SameBut.update ..))⟩));rw [Obj.data_mapFields a];simp [rawInt]
def ò {it l:Addr} {i:Nat} {items} {Q:Value->Shared->Prop} (hh:A.handled=none) (hit:s.heap.IsTupleIter it l i) (hl:s.heap.IsTuple l items) (hx:items[i]?=none)
  (hE:∀ h' e,Heap.ExtBut it s.heap h'->(∃ o,h'.get? e=some o/\o.cls=.type "StopIteration")->E (.ref e) { s with heap:=h' }):wpAny (model prog w) A (Builtin.SmallTypes.nextOf (.ref it)) Q E s:=by
 obtain ⟨j,b,g,c⟩:=id hit;obtain ⟨h,f,_,k,d⟩:=hl;unfold Builtin.SmallTypes.nextOf;refine bY (wpAny_callSpecial?_slot (name:=Str.ofString "__next__") hit.typeIs slot_tupleiter_next (wpAny_call_entry slot_tupleiter_next hit.typeIs entry_tupleiter_next ?_ (args_tupleiter_next _)))
 (show wpAny _ _ (field (.ref it) 0 >>= _) _ _ s); refine bY (dD b c (x:=.ref l) rfl ?_)
 (show wpAny _ _ (if (Value.ref l == Value.none)=true then _ else _) _ _ s); rw [if_neg (show ¬ ((Value.ref l == Value.none)=true) from cN)]
 (show wpAny _ _ (field (.ref it) 1 >>= _) _ _ s); refine bY (dD b c (x:=.int i 0) rfl ?_)
 (show wpAny _ _ (seqItems? (.ref l) >>= _) _ _ s); refine bY (wpAny_seqItems f d ?_)
 simp only [Int.toNat_natCast,hx]; refine bY (wpAny_rule (bY (wpAny_setField b c (by simp) ?_)))
 (show wpAny _ _ (newExc (.type "StopIteration") [] >>= _) _ _ _); refine bY ?_
 simp only [newExc,newTuple]; refine bY (wpAny_newObj_type ?_ (by size_fits))
 refine bY (m:=firstArgMember _ _) (wpAny_of_eq (a:=Value.none) (by first | rfl | (simp only [firstArgMember]; rfl)) (wpAny_newObj_type ?_ (by size_fits)))
 simp only [raiseNew]; refine bY (wpAny_handled ?_)
 (first | rw [show A.in1.handled=none from hh] | rw [hh]); refine bY (cD (wpAny_throw ?_))
 exact hE _ _ (((Heap.SameBut.update _ ..).extBut.push _).push _) ⟨_,cJ _ rfl,rfl⟩
end
section
open AutoSeq1 (wpAny_loadPart')
set_option maxRecDepth 100000
end
end L2
namespace L2
open PySem PySem.Spec PyProof.Rows
end L2
namespace L2
section
variable {σ:St} {H:Hp} {Q:VK} {td ty tx tv:TE}
def yyk (h:td σ H fun x H1=>ty σ H1 fun y H2=>∃ a v,x=.ref a/\ď H2 a y (some v)/\Q v H2):vaa td ty σ H Q:=h
def vbj (h:ty σ H fun y H1=>td σ H1 fun x H2=>∃ a o,x=.ref a/\ď H2 a y o/\Q (.bl o.isSome) H2):vdl ty td σ H Q:=h
def ylq (h:ty σ H fun y H1=>td σ H1 fun x H2=>∃ a o,x=.ref a/\ď H2 a y o/\Q (.bl (!o.isSome)) H2):yhq ty td σ H Q:=h
def ywv {nx bk ct:St->Hp->Prop} {rt:VK} (h:tv σ H fun v H1=>td σ H1 fun x H2=>ty σ H2 fun y H3=>∃ a H4,x=.ref a/\yfq H3 a y v H4/\nx σ H4):vae td ty tv ⟨nx,rt,bk,ct⟩ σ H:=h
def yqo (h:∀ p,H p=none->Q (.ref p) (upd H p (.dT []))):yoc σ H Q:=h
end
end L2
namespace L2
open PySem PySem.Spec PyProof.Rows
variable {i1 i2 l1 l2:Addr} {xs ys:Array Value} {elts:List Expr} {i k1 k2:Nat} {tpos:Pos} {a:Value}
def Itz (K:W.Frag) (a b:Addr):It :=
 ⟨fun i H=>∃ xs ys x y,SqL K H a xs/\SqL K H b ys/\xs[i]?=some x/\ys[i]?=some y,
  fun i H v H'=>∃ t x y,v=.ref t/\H t=none/\H'=upd H t (.tup [x,y])/\(∀ xs,SqL K H a xs->xs[i]?=some x)/\(∀ ys,SqL K H b ys->ys[i]?=some y),
  fun i H=>∃ xs ys,SqL K H a xs/\SqL K H b ys/\(xs.length <= i\/ys.length <= i)⟩
structure Zap (z TI TO i1 i2:Addr):Prop where
 a1:TI≠z
 a2:TO≠z
 a3:i1≠z
 a4:i2≠z
 a5:TI≠TO
 a6:TI≠i1
 a7:TI≠i2
 a8:TO≠i1
 a9:TO≠i2
 b1:i1≠i2
def Zst (z TI TO i1 i2 l1 l2:Addr) (i:Nat) (h:Heap):Prop:=IsZip h z TI TO .none/\IsPair h TI (.ref i1) (.ref i2)/\(∃ a b,IsPair h TO a b)/\h.IsListIter i1 l1 i/\h.IsListIter i2 l2 i
def ul {h:Heap} {a b:Addr} {o o':Obj} (e:h.get? a=some o) (e':h.get? b=some o') (n:o.cls≠o'.cls):a≠b:=by
 rintro rfl;rw [e] at e';cases e';exact n rfl
def ym0 (z:Nat):Zap (z+4) (z+2) (z+3) z (z+1):=by
 constructor <;> (show (_:Nat)≠(_:Nat); omega)
def nT {a b:String} (h:Value.type a≠Value.type b):Value.type a≠Value.type b:=h
def Zap.apart {X:Cx} {pins:List (Addr × Obj)} {σ:St} {H:Hp} {s:Shared} {z TI TO:Addr} {xs ys:List Value} (d:Zap z TI TO i1 i2) (st:Zst z TI TO i1 i2 l1 l2 i s.heap) (p:PlainL s.heap l1 xs.toArray) (q:PlainL s.heap l2 ys.toArray) (_:Inv X pins σ H s):ZipApart z TI TO i1 i2 l1 l2:=by
 obtain ⟨k,o,⟨a,b,c⟩,⟨r,n,l,_⟩,⟨u,m,j,_⟩⟩:=st;obtain ⟨t,h,f,_⟩:=p.isList;obtain ⟨v,e,g,_⟩:=q.isList
 exact ⟨d.a1,d.a2,d.a3,d.a4,d.a5,d.a6,d.a7,d.a8,d.a9,d.b1,
  ul h k (by rw [f]; exact nT (by decide)),ul h c (by rw [f]; exact nT (by decide)),ul h n (by rw [f,l]; decide),ul h m (by rw [f,j]; decide),
  ul e k (by rw [g]; exact nT (by decide)),ul e c (by rw [g]; exact nT (by decide)),ul e n (by rw [g,l]; decide),ul e m (by rw [g,j]; decide)⟩
def ykk {P:Program} {w:World} {K:W.Frag} {x1} (l1 l2 z TI TO i1 i2:Addr) (d:Zap z TI TO i1 i2) :
  yd9 P w K (.Tuple elts x1 tpos) (Itz K l1 l2) [z,TI,TO,i1,i2] z (Zst z TI TO i1 i2 l1 l2) where
 mem:=by simp
 obj:=fun i h G b g=>by
  obtain ⟨N,j,⟨_,_,m⟩,⟨o1,e1,_,d1⟩,⟨o2,e2,_,d2⟩⟩:=G;simp only [cT,List.not_mem_nil,or_false] at g;rcases g with rfl | rfl | rfl | rfl | rfl
  .exists _,N,fun v z=>by cases z
  .exists _,j,fun v z=>by cases z
  .exists _,m,fun v z=>by cases z
  .exists o1,e1,fun v z=>by rw [d1] at z; cases z
  .exists o2,e2,fun v z=>by rw [d2] at z; cases z
 keep:=fun i h T G k=>by
  obtain ⟨N,j,⟨a,b,m⟩,h1,h2⟩:=G;exists k z (by simp) _ N,k TI (by simp) _ j,⟨a,b,k TO (by simp) _ m⟩,h1.at fun o e=>k i1 (by simp) o e,h2.at fun o e=>k i2 (by simp) o e
 item:=by
  intro X hP hw hK hc i O s σ H E I F G hg;subst hP hw hK;obtain ⟨xs,ys,x,y,U,M,B,hy⟩:=hg;obtain ⟨ab,rv,p,ac⟩:=I.list U;obtain ⟨a7,R,p',a0⟩:=I.list M;obtain ⟨u,hu,ru⟩:=rv.get B;obtain ⟨u',ad,aa⟩:=R.get hy;have D:=d.apart G p p' I;obtain ⟨N,j,⟨va,vb,m⟩,L,J⟩:=G;refine wpAny_pyNext_zip_item D N j m L J p.isList p'.isList (x:=u) (y:=u') (by simpa using hu) (by simpa using ad) fun T a1 a2 a3 a4 a5 a6 hk=>?_;exists _,rfl,wpAny_letOwnedTupleGo_zip a1 fun t a8 l=>?_;have C:H s.heap.objs.size=none:=I.hok.fresh (cE _);have lz:z < s.heap.objs.size:=cH N;have lo:TO < s.heap.objs.size:=cH m;have lI:TI < s.heap.objs.size:=cH j;have ag:i1 < s.heap.objs.size:=by obtain ⟨o,e,_⟩:=id L; exact cH e
  have af:i2 < s.heap.objs.size:=by obtain ⟨o,e,_⟩:=id J; exact cH e
  have keep:∀ b o,b≠z->b≠TO->b≠i1->b≠i2->s.heap.get? b=some o->t.get? b=some o:=fun b o Y n2 n3 n4 e=>(l.2 b Y).trans (hk b o Y n2 n3 n4 e);have a9:t.get? s.heap.objs.size=some { cls:=.type "tuple",data:=.seq #[u,u'] }:=(l.2 _ (Nat.ne_of_gt lz)).trans a5;have Z:∀ {b v},H b=some v->b≠z/\b≠TO/\b≠i1/\b≠i2:=fun {b v} e=>⟨yb e (F z (by simp)).1,yb e (F TO (by simp)).1,yb e (F i1 (by simp)).1,yb e (F i2 (by simp)).1⟩
  have Q:HOk X.prog X.w (upd H s.heap.objs.size (.tup [x,y])) t:=fun b o e=>by
   by_cases g:b=s.heap.objs.size
   .subst g;rw [ya] at e;cases e;exists by show 2 <= sizeLine; decide,[u,u'],.cons ru (.cons aa .nil),⟨_,a9,rfl,_,rfl⟩
   .rw [yk g] at e;refine (I.hok b o e).stay (fun c v r q=>?_) (fun c q=>by rw [yk (yb q C)]; exact q) fun c ys q=>by rw [yk (yb q C)]; exact q
    obtain ⟨Y,n2,n3,n4⟩:c≠z/\c≠TO/\c≠i1/\c≠i2:=by
     rcases r with rfl | r
     .exact Z e
     .exact Z r
    exact keep c v Y n2 n3 n4 q
  have un:Un (frs X.stack) [z,TI,TO,i1,i2] H (upd H s.heap.objs.size (.tup [x,y])) s.heap t:=by
   have S:∀ {b o},b∉[z,TI,TO,i1,i2]->s.heap.get? b=some o->t.get? b=some o:=fun {b o} g e=>keep b o (fun q=>g (by simp [q])) (fun q=>g (by simp [q])) (fun q=>g (by simp [q])) (fun q=>g (by simp [q])) e
   refine ⟨fun b o e n _ B=>S B e,fun b o e n _ B=>⟨o.slots,S B e⟩,fun b o e n _=>by rw [yk (cU (cH e))]; exact n,fun b o e B=>⟨o,S B e⟩,
    fun b ys e=>by rw [yk (yb e C)]; exact e,fun b o v e=>by rw [yk (yb e C)]; exact e,fun b ps e=>⟨#[],by rw [yk (yb e C),e]; simp⟩⟩
  have I1:Inv X O σ (upd H s.heap.objs.size (.tup [x,y])) { s with heap:=t }:=I.call' (s':={ s with heap:=t }) rfl un Q I.bare fun b g=>by
   have f:=F b g;exact ⟨f.2.2.2.1,f.2.1,f.2.2.2.2.1,f.2.2.2.2.2⟩
  exists .ref s.heap.objs.size,_,I1,rfl,⟨_,x,y,rfl,C,rfl,fun zs h=>by rw [I.list_inj h U]; exact B,fun zs h=>by rw [I.list_inj h M]; exact hy⟩,?_,fun b g=>?_
  .exists a8,keep _ _ D.TIz D.TITO D.TIi1 D.TIi2 j,⟨u,u',(l.2 _ D.TOz).trans a2⟩,a3.at fun o e=>(l.2 _ D.i1z).trans e,a4.at fun o e=>(l.2 _ D.i2z).trans e
  .rw [yk (fun q=>?_)]
   .exact (F b g).1
   .have U:b < s.heap.objs.size:=by
     simp only [cT,List.not_mem_nil,or_false] at g;rcases g with rfl | rfl | rfl | rfl | rfl <;> assumption
    exact absurd q (cU U)
 done:=by
  intro X hP hw hK hc i O s σ H E I F G hg;subst hP hw hK;obtain ⟨xs,ys,U,M,B⟩:=hg;obtain ⟨ab,rv,p,ac⟩:=I.list U;obtain ⟨a7,R,p',a0⟩:=I.list M;have D:=d.apart G p p' I;obtain ⟨N,j,⟨va,vb,m⟩,L,J⟩:=G;have hl:=rv.length;have ae:=R.length;refine wpAny_pyNext_zip_end (show X.A.handled=none from I.ok.hd hc) D N j m L J p.isList p'.isList (by simp; omega) fun T hk=>⟨rfl,?_⟩;have Z:∀ {b v},H b=some v->b≠z/\b≠TO/\b≠i1/\b≠i2:=fun {b v} e=>⟨yb e (F z (by simp)).1,yb e (F TO (by simp)).1,yb e (F i1 (by simp)).1,yb e (F i2 (by simp)).1⟩
  have Q:HOk X.prog X.w H T:=fun b o e=>by
   refine (I.hok b o e).stay (fun c v r q=>?_) (fun c q=>q) fun c ys q=>q
   obtain ⟨Y,n2,n3,n4⟩:c≠z/\c≠TO/\c≠i1/\c≠i2:=by
    rcases r with rfl | r
    .exact Z e
    .exact Z r
   exact hk c v Y n2 n3 n4 q
  have un:Un (frs X.stack) [z,TI,TO,i1,i2] H H s.heap T:=by
   have S:∀ {b o},b∉[z,TI,TO,i1,i2]->s.heap.get? b=some o->T.get? b=some o:=fun {b o} g e=>hk b o (fun q=>g (by simp [q])) (fun q=>g (by simp [q])) (fun q=>g (by simp [q])) (fun q=>g (by simp [q])) e;exists fun b o e n _ B=>S B e,fun b o e n _ B=>⟨o.slots,S B e⟩,fun b o e n _=>n,fun b o e B=>⟨o,S B e⟩,fun b ys e=>e,fun b o v e=>e,fun b ps e=>⟨#[],by rw [e]; simp⟩
  exact I.call' (s':={ s with heap:=T }) rfl un Q I.bare fun b g=>by
   have f:=F b g;exact ⟨f.2.2.2.1,f.2.1,f.2.2.2.2.1,f.2.2.2.2.2⟩
 self:=fun _ _ _ _ _ G h=>wpAny_pyIter_zip G.1 h
section
variable {X:Cx}
def vdo (K:W.Frag) (ta:TA):TI:=fun σ H R=>ta σ H fun vs H1=>∃ a b,vs=[.ref a,.ref b]/\(∃ xs ys,SqL K H1 a xs/\SqL K H1 b ys)/\R (Itz K a b) H1
def yom {x1} {l m:Expr} {ta:TA} {p pos:Pos} (hg:Gl X "zip") (hm:X.mg "zip"=none) (ha:PA X [l,m] ta) (hs:starEach [l,m] X.env=[(false,eval l X.env),(false,eval m X.env)]:=by rfl) (hs2:starEach [m] X.env=[(false,eval m X.env)]:=by rfl) :
  PI X (.Tuple elts x1 tpos) (.Call (.Name "zip" p) [l,m] [] pos) (vdo X.K ta):=by
 intro g s σ H R I h;refine Call_ (ċ I hg hm (show bootBuiltins "zip"=some (.type "zip") by decide +kernel) (PyProof.Rows.callWith_type1 (thn (ha pos g s σ H _ I h) fun J c h'=>?_) (by rw [hs,hs2]) (by rw [hs2]; rfl)));obtain ⟨N,D,f,x,E⟩:=h';obtain ⟨a,b,e,⟨O,L,C,o⟩,q⟩:=E;subst e
 cases x with
 | cons r rr =>
  cases rr with
  | cons r' rr =>
   cases rr;cases r;cases r';obtain ⟨w,P,A,n⟩:=f.list C;obtain ⟨u,y,i,B⟩:=f.list o;refine call_zip_2 A.isList i.isList fun M n t j z G v F=>?_;refine wpAny_pyIter_zip n ?_;have k:Zap (c.heap.objs.size+4) (c.heap.objs.size+2) (c.heap.objs.size+3) c.heap.objs.size (c.heap.objs.size+1):=ym0 _;exists c.heap.objs.size+4,[c.heap.objs.size+4,c.heap.objs.size+2,c.heap.objs.size+3,c.heap.objs.size,c.heap.objs.size+1],_,_,D,rfl,f.kept (t':=c.toks) F,ykk a b _ _ _ _ _ k,⟨n,t,⟨_,_,j⟩,z,G⟩,fun b d=>?_,q
   have d:c.heap.objs.size <= b:=by
    simp only [cT,List.not_mem_nil,or_false] at d;rcases d with rfl | rfl | rfl | rfl | rfl <;> omega
   exact f.fpOk d (f.hok.fresh d)
def yvg {K:W.Frag} {ta:TA} {σ:St} {H:Hp} {R:It->Hp->Prop} (h:ta σ H fun vs H1=>∃ a b,vs=[.ref a,.ref b]/\(∃ xs ys,SqL K H1 a xs/\SqL K H1 b ys)/\R (Itz K a b) H1):vdo K ta σ H R:=h
end
def Ġ {K:W.Frag} {a b D:Addr} {xs ys:List V} {g:TG} {te:TE} {n:Nat} {fr:St} {R:Hp->Prop} {H1:Hp} (f:Nat->V) (hq:SqL K H1 a xs) (hq':SqL K H1 b ys) (hl:ys.length=xs.length) (hD:H1 D=none)
  (hs:∀ i x y H t pre,xs[i]?=some x->ys[i]?=some y->yv H1 H->H D=some (.lst ((List.range i).map f))->H t=none->List.length pre=n->g (.ref t) (pre++fr) (upd H t (.tup [x,y])) fun σ' H'=>(∃ pre',List.length pre'=n/\σ'=pre'++fr)/\te σ' H' (MpK H1 D f xs.length i))
  (hd:∀ H,yv H1 H->H D=some (.lst ((List.range xs.length).map f))->R H):j4 (Itz K a b) g te n fr D R H1:=by
 exists cW xs.length (Mp H1 D f),⟨xs.length,by simp,cV _,Mp.zero hD⟩,?_;rintro i m H ⟨rfl,o,p⟩;have q:=p.1.seq hq;have c:=p.1.seq hq';by_cases hlt:i < xs.length
 .refine .inr ⟨⟨xs,ys,xs[i],ys[i]'(by omega),q,c,by simp [hlt],by simp [hl,hlt]⟩,fun y H' pre k h=>?_⟩;obtain ⟨t,x,y,rfl,d,rfl,l,j⟩:=k;exact hs i x y H t pre (l xs q) (j ys c) p.1 p.2 d h
 .have e:i=xs.length:=by omega
  subst e;exact .inl ⟨⟨xs,ys,q,c,.inl (cE _)⟩,hd H p.1 p.2⟩
section
variable {X:Cx} {iter elt tg:Expr} {xs:List Str} {g:TG} {pos:Pos} {scope:Scope} {te:TE} {wi:TI} {ys:List Str} {js:List Nat}
def ylh {y:Str} {py spos:Pos} (hN:X.N.Nodup) (hy:X.N[i]?=some y) (hl:X.env.scope.names.lookup y=some .local) (hc:X.calm=true) (hi:PI X tg iter wi)
  (he:∀ (C:Addr) (s2:Shared) (H2:Hp) (fp:List Addr),PE (X.compT scope ys C xs s2 H2 fp) elt te) (hjs:js.map (fun j=>X.N[j]?)=ys.map some)
  (hgt:∀ (C:Addr) (s2:Shared) (H2:Hp) (fp:List Addr),PG (X.compT scope ys C xs s2 H2 fp) tg g)
  (hclos:closureFor scope X.env=pure (Ø ys X.env)) (hyc:∀ y∈ys,X.env.kindOf y=some .cell) (hrel:∀ y∈ys,(relabel scope X.env).names.lookup y=some .cell)
  (hsw:swapsWith (.ListComp elt [⟨tg,iter,[],0⟩] scope pos) (some (.Name y py)) spos.line X.env=pure true:=by rfl)
  (hfr:∀ y∈scope.names,y.2=.free->y.1∈ys:=by decide +kernel) (hcell:∀ y∈scope.names,y.2≠.cell:=by decide +kernel) (hkind:scope.kind=.function:=by rfl)
  (hnames:∀ y∈scope.names,y.2=.local->scope.names.lookup y.1=some .local:=by decide +kernel) (hs:∀ x,foldedSetIterable iter X.env x=pure x:=by intro _; rfl) :
  PS X (.Assign [.Name y py] (.ListComp elt [⟨tg,iter,[],0⟩] scope pos) spos) (yun (yiz wi g te xs.length js) (w8 i)):=by
 refine .mk fun a s σ H r I h=>?_;rw [exec_Assign_Name_used _ _ _ _ hsw];refine bY (wpAny_standAt (bY ?_));show wpAny _ X.A (do let _ <- comprehension (.ListComp elt [⟨tg,iter,[],0⟩] scope pos) scope X.env _ (newList []) false (eval iter X.env) (some (assign (.Name y py) X.env))) _ _ s;refine bY (dU (wpAny_comprehension_free (use:=some (assign (.Name y py) X.env)) (Q:=fun _ d=>SP X a r .next d) rfl hs hclos hkind hnames (thn (hi a s σ H _ I h) fun v W B=>thn B fun L s2 O=>?_)) (fun _ d F=>cD (cD F)) fun _ _ e=>e);obtain ⟨U,fp,S,J,H2,e,K,T,t,G,h⟩:=O;subst e;refine Ä (R:=fun D u=>w8 i (.ref D) σ u r.nx) (RR:=compPost (model X.prog X.w) X.A X.xe (some (assign (.Name y py) X.env)) (fun _ d=>SP X a r .next d)) hc he hgt hcell hkind hfr hyc hrel hjs K T t G h ?_;intro D C u d m f E M q;refine wpAny_assign_Name (ε (v:=V.ref D) M hN hy (Or.inl hl) rfl (fun k p l=>?_) (Or.inr hl));exists m,?_,fun P n=>⟨_,u,?_,q⟩
 .obtain ⟨b,n,c⟩:=l;refine E.sameBut n fun z=>?_;rcases c with c | c
  .exact f.2.1 (z.trans c)
  .exact f.2.2.2.2.1 y b c z.symm
 .exact p.turned (t':=k.toks) (fun b o c e=>n.extBut b o c e) f.1 f.2.1 f.2.2.2.1 f.2.2.2.2.1 f.2.2.2.2.2
end
section
variable {X:Cx}
def onI (f:Int->Int):V->V
 | .int i=>.int (f i)
 | v=>v
def yhz (f:Int->Int) (ns:List Int):(ns.map V.int).map (onI f)=(ns.map f).map V.int:=by
 rw [df,df];rfl
def yi5 {pre:List (Option V)} (h:List.length pre=2):∃ v1 v2,pre=[v1,v2]:=by
 match pre,h with
 | [v1,v2],_=>exact ⟨v1,v2,rfl⟩
end
def yzo {to ti:TE} {t:va0} {v:V} {σ:St} {H:Hp} {Q:St->Hp->Prop} (h:to σ H fun o H1=>ti σ H1 fun i H2=>t o i v H2 fun H3=>Q σ H3):vdr to ti t v σ H Q:=h
section
variable {X:Cx}
def vah:V->List V->Hp->VK->Prop:=fun x vs H Q=>∃ i:Int,x=.int i/\vs=[]/\Q (.int (Builtin.Int.intBits i:Nat)) H
def yqg:MtR X "int.bit_length" vah:=by
 intro b s σ H x f v e Q I c d h;obtain ⟨i,rfl,rfl,q⟩:=h;obtain ⟨t,rfl⟩:=c;have a:=d.zero;subst a;exact PyProof.Rows.call_int_bit_length ⟨.int _,H,I.tok _,⟨_,rfl⟩,q⟩
def yuz {K:W.Frag} {i:Int} {H:Hp} {Q:VK} (h:Q (.int (Builtin.Int.intBits i:Nat)) H):tyV K "int" (.int i) H/\vah (.int i) [] H Q:=⟨rfl,i,rfl,rfl,h⟩
end
section
variable {prog:Program} {w:World} {A:Around} {E:Value->Shared->Prop} {s:Shared}
def ykb {z TI TO:Addr} {x y b:Value} {Q:Value->Shared->Prop} (D:ZipApart z TI TO i1 i2 l1 l2) (hz:IsZip s.heap z TI TO .none) (hTI:IsPair s.heap TI (.ref i1) (.ref i2)) (hTO:IsPair s.heap TO a b)
  (h1:s.heap.IsTupleIter i1 l1 k1) (h2:s.heap.IsTupleIter i2 l2 k2) (hl1:s.heap.IsTuple l1 xs) (hl2:s.heap.IsTuple l2 ys) (hx:xs[k1]?=some x) (hy:ys[k2]?=some y)
  (hQ:∀ h',IsZip h' z TI TO (rawInt s.heap.objs.size)->IsPair h' TO x y->h'.IsTupleIter i1 l1 (k1+1)->h'.IsTupleIter i2 l2 (k2+1)->IsPair h' s.heap.objs.size x y->h'.objs.size=s.heap.objs.size+1->(∀ c o,c≠z->c≠TO->c≠i1->c≠i2->s.heap.get? c=some o->h'.get? c=some o)->Q (.ref s.heap.objs.size) { s with heap:=h' }) :
  wpAny (model prog w) A (Builtin.«zip.__next__» ⟨[.ref z],[]⟩) (fun fin s'=>∃ v,fin=.done (.ret v)/\Q v s') E s:=by
 (show wpAny _ _ (field (.ref z) 2 >>= _) _ _ _); refine bY (dD hz rfl (x:=.bool false) rfl ?_)
 (show wpAny _ _ (field (.ref z) 3 >>= _) _ _ _); refine bY (dD hz rfl (x:=.ref TI) rfl ?_); refine bY (wpAny_seqItems hTI rfl ?_)
 (show wpAny _ _ (Builtin.SmallTypes.ownedTupleIsFree (.ref z) >>= _) _ _ _); refine bY ?_; unfold Builtin.SmallTypes.ownedTupleIsFree
 refine bY (dD hz rfl (x:=.none) rfl (cD ?_)); simp only [if_true]; refine bY (wpAny_rule ?_);refine bY (dD hz rfl (x:=.ref TO) rfl ?_); refine bY (wpAny_setField_rec hz (by simp) fun h₁ hz₁ hs₁=>?_)
 replace hz₁:IsZip h₁ z TI TO .ellipsis:=hz₁; refine bY ?_; simp only [List.zipIdx_cons,List.zipIdx_nil,List.forIn_cons,List.forIn_nil]
 refine bY (bY (wpAny_onRaise ?_)); (show wpAny _ _ (Builtin.SmallTypes.nextOf (.ref i1) >>= _) _ _ _);refine bY (jy (h1.at fun o e=>hs₁.extBut _ _ D.i1z e) (hl1.extBut hs₁.extBut D.l1z) hx fun h₂ h1₂ hs₂=>cD ?_);have hTO₂:IsPair h₂ TO a b:=hs₂.extBut _ _ D.TOi1 (hs₁.extBut _ _ D.TOz hTO); refine bY (wpAny_seqItems hTO₂ rfl ?_);refine bY (wpAny_updateSeq_pair hTO₂ fun h₃ hTO₃ hs₃=>?_); replace hTO₃:IsPair h₃ TO x b:=hTO₃; refine bY (wpAny_letGo (cD ?_));refine bY (bY (wpAny_onRaise ?_)); (show wpAny _ _ (Builtin.SmallTypes.nextOf (.ref i2) >>= _) _ _ _);refine bY (jy (h2.at fun o e=>hs₃.extBut _ _ D.TOi2.symm (hs₂.extBut _ _ D.i12.symm (hs₁.extBut _ _ D.i2z e))) (((hl2.extBut hs₁.extBut D.l2z).extBut hs₂.extBut D.l2i1).extBut hs₃.extBut D.l2TO) hy fun h₄ h2₄ hs₄=>cD ?_);have hTO₄:IsPair h₄ TO x b:=hs₄.extBut _ _ D.TOi2 hTO₃; refine bY (wpAny_seqItems hTO₄ rfl ?_);refine bY (wpAny_updateSeq_pair hTO₄ fun h₅ hTO₅ hs₅=>?_); replace hTO₅:IsPair h₅ TO x y:=hTO₅; refine bY (wpAny_letGo (cD (cD ?_)));refine bY (wpAny_seqItems hTO₅ rfl ?_); refine bY (wpAny_newTuple ?_);have g:h₅.objs.size=s.heap.objs.size:=by (rw [hs₅.1,hs₄.1,hs₃.1,hs₂.1,hs₁.1])
 have hz₅:IsZip h₅ z TI TO .ellipsis:=(hs₅.extBut _ _ D.TOz.symm (hs₄.extBut _ _ D.i2z.symm (hs₃.extBut _ _ D.TOz.symm (hs₂.extBut _ _ D.i1z.symm hz₁))));have hk₅:∀ c o,c≠z->c≠TO->c≠i1->c≠i2->s.heap.get? c=some o->h₅.get? c=some o:=fun c o f j l m e=>hs₅.extBut _ _ j (hs₄.extBut _ _ m (hs₃.extBut _ _ j (hs₂.extBut _ _ l (hs₁.extBut _ _ f e))));have h1₅:h₅.IsTupleIter i1 l1 (k1+1):=h1₂.at fun o e=>hs₅.extBut _ _ D.TOi1.symm (hs₄.extBut _ _ D.i12 (hs₃.extBut _ _ D.TOi1.symm e));have h2₅:h₅.IsTupleIter i2 l2 (k2+1):=h2₄.at fun o e=>hs₅.extBut _ _ D.TOi2.symm e;have d:z < h₅.objs.size:=(cH hz₅)
 (show wpAny _ _ (Builtin.SmallTypes.ownedTupleHandOut (.ref z) (.ref h₅.objs.size) >>= _) _ _ _); refine bY ?_; unfold Builtin.SmallTypes.ownedTupleHandOut
 have hz₆:IsZip (h₅.push { cls:=.type "tuple",data:=.seq #[x,y] }) z TI TO .ellipsis:=(cB _ hz₅);refine bY (wpAny_setField_rec hz₆ (by simp) fun h₇ hz₇ hs₇=>?_); replace hz₇:IsZip h₇ z TI TO (rawInt h₅.objs.size):=hz₇;refine wpAny_setField_rec hz₇ (by simp) fun h₈ hz₈ hs₈=>?_; replace hz₈:IsZip h₈ z TI TO (rawInt h₅.objs.size):=hz₈;have k:∀ c o,c≠z->h₅.get? c=some o->h₈.get? c=some o:=(fun c o f e=>hs₈.extBut _ _ f (hs₇.extBut _ _ f (cB _ e)));have hT₈:IsPair h₈ h₅.objs.size x y:=(hs₈.extBut _ _ (Nat.ne_of_gt d) (hs₇.extBut _ _ (Nat.ne_of_gt d) (cJ _ rfl)));have i:h₈.objs.size=h₅.objs.size+1:=by (rw [hs₈.1,hs₇.1,Heap.size_push])
 (rw [g] at hz₈ hT₈ i); refine cD ⟨_,rfl,?_⟩; show Q (.ref h₅.objs.size) _; rw [g]
 exact hQ h₈ hz₈ (k _ _ D.TOz hTO₅) (h1₅.at fun o e=>k _ o D.i1z e) (h2₅.at fun o e=>k _ o D.i2z e) hT₈ i (fun c o f j l m e=>k c o f (hk₅ c o f j l m e))
def ypt {z TI TO:Addr} {b:Value} {Q:Fin->Shared->Prop} (hh:A.handled=none) (D:ZipApart z TI TO i1 i2 l1 l2) (hz:IsZip s.heap z TI TO .none) (hTI:IsPair s.heap TI (.ref i1) (.ref i2)) (hTO:IsPair s.heap TO a b)
  (h1:s.heap.IsTupleIter i1 l1 k1) (h2:s.heap.IsTupleIter i2 l2 k2) (hl1:s.heap.IsTuple l1 xs) (hl2:s.heap.IsTuple l2 ys) (hend:xs[k1]?=none\/ys[k2]?=none)
  (hE:∀ h' e,(∀ c o,c≠z->c≠TO->c≠i1->c≠i2->s.heap.get? c=some o->h'.get? c=some o)->(∃ o,h'.get? e=some o/\o.cls=.type "StopIteration")->E (.ref e) { s with heap:=h' }):wpAny (model prog w) A (Builtin.«zip.__next__» ⟨[.ref z],[]⟩) Q E s:=by
 (show wpAny _ _ (field (.ref z) 2 >>= _) _ _ _); refine bY (dD hz rfl (x:=.bool false) rfl ?_)
 (show wpAny _ _ (field (.ref z) 3 >>= _) _ _ _); refine bY (dD hz rfl (x:=.ref TI) rfl ?_); refine bY (wpAny_seqItems hTI rfl ?_)
 (show wpAny _ _ (Builtin.SmallTypes.ownedTupleIsFree (.ref z) >>= _) _ _ _); refine bY ?_; unfold Builtin.SmallTypes.ownedTupleIsFree
 refine bY (dD hz rfl (x:=.none) rfl (cD ?_)); simp only [if_true]; refine bY (wpAny_rule ?_);refine bY (dD hz rfl (x:=.ref TO) rfl ?_); refine bY (wpAny_setField_rec hz (by simp) fun h₁ hz₁ hs₁=>?_)
 replace hz₁:IsZip h₁ z TI TO .ellipsis:=hz₁; refine bY ?_; simp only [List.zipIdx_cons,List.zipIdx_nil,List.forIn_cons,List.forIn_nil]
 refine bY (bY (wpAny_onRaise ?_)); (show wpAny _ _ (Builtin.SmallTypes.nextOf (.ref i1) >>= _) _ _ _)
 cases hx:xs[k1]? with
 | none =>
  refine bY (ò hh (h1.at fun o e=>hs₁.extBut _ _ D.i1z e) (hl1.extBut hs₁.extBut D.l1z) hx fun h₂ e hs₂ k=>?_);obtain ⟨l,d,f⟩:=k; have hz₂:IsZip h₂ z TI TO .ellipsis:=hs₂ _ _ D.i1z.symm hz₁;have g:e≠z:=(fun x=>by (subst x; rw [hz₂] at d; cases d; simp at f));exact wpAny_setField_rec hz₂ (by simp) fun h₃ _ hs₃=>hE h₃ e (fun c o i _ j _ x=>hs₃.extBut _ _ i (hs₂ _ _ j (hs₁.extBut _ _ i x))) ⟨l,hs₃.extBut _ _ g d,f⟩
 | some x =>
  have n:ys[k2]?=none:=by (rcases hend with h | h; (rw [hx] at h; cases h); exact h)
  refine bY (jy (h1.at fun o e=>hs₁.extBut _ _ D.i1z e) (hl1.extBut hs₁.extBut D.l1z) hx fun h₂ h1₂ hs₂=>cD ?_);have hTO₂:IsPair h₂ TO a b:=(hs₂.extBut _ _ D.TOi1 (hs₁.extBut _ _ D.TOz hTO)); refine bY (wpAny_seqItems hTO₂ rfl ?_);refine bY (wpAny_updateSeq_pair hTO₂ fun h₃ hTO₃ hs₃=>?_); refine bY (wpAny_letGo (cD ?_));refine bY (bY (wpAny_onRaise ?_)); (show wpAny _ _ (Builtin.SmallTypes.nextOf (.ref i2) >>= _) _ _ _);refine bY (ò hh (h2.at fun o e=>hs₃.extBut _ _ D.TOi2.symm (hs₂.extBut _ _ D.i12.symm (hs₁.extBut _ _ D.i2z e))) (((hl2.extBut hs₁.extBut D.l2z).extBut hs₂.extBut D.l2i1).extBut hs₃.extBut D.l2TO) n fun h₄ e hs₄ k=>?_);obtain ⟨l,d,f⟩:=k; have hz₄:IsZip h₄ z TI TO .ellipsis:=hs₄ _ _ D.i2z.symm (hs₃.extBut _ _ D.TOz.symm (hs₂.extBut _ _ D.i1z.symm hz₁));have g:e≠z:=(fun x=>by (subst x; rw [hz₄] at d; cases d; simp at f));exact wpAny_setField_rec hz₄ (by simp) fun h₅ _ hs₅=>hE h₅ e (fun c o i m j p x=>hs₅.extBut _ _ i (hs₄ _ _ p (hs₃.extBut _ _ m (hs₂.extBut _ _ j (hs₁.extBut _ _ i x))))) ⟨l,hs₅.extBut _ _ g d,f⟩
def ykj {z TI TO:Addr} {x y b:Value} {Q:Option Value->Shared->Prop} (D:ZipApart z TI TO i1 i2 l1 l2) (hz:IsZip s.heap z TI TO .none) (hTI:IsPair s.heap TI (.ref i1) (.ref i2)) (hTO:IsPair s.heap TO a b)
  (h1:s.heap.IsTupleIter i1 l1 k1) (h2:s.heap.IsTupleIter i2 l2 k2) (hl1:s.heap.IsTuple l1 xs) (hl2:s.heap.IsTuple l2 ys) (hx:xs[k1]?=some x) (hy:ys[k2]?=some y)
  (hQ:∀ h',IsZip h' z TI TO (rawInt s.heap.objs.size)->IsPair h' TO x y->h'.IsTupleIter i1 l1 (k1+1)->h'.IsTupleIter i2 l2 (k2+1)->IsPair h' s.heap.objs.size x y->h'.objs.size=s.heap.objs.size+1->(∀ c o,c≠z->c≠TO->c≠i1->c≠i2->s.heap.get? c=some o->h'.get? c=some o)->Q (some (.ref s.heap.objs.size)) { s with heap:=h' }) :
  wpAny (model prog w) A (pyNext (.ref z)) Q E s:=by
 have d:s.TypeIs (.ref z) "zip":=(⟨_,hz,rfl⟩); unfold pyNext;exact bY (wpAny_attempt (wpAny_callSpecial?_slot (name:=Str.ofString "__next__") d F.slot_zip_next (wpAny_call_entry F.slot_zip_next d F.entry_zip_next
   (ykb D hz hTI hTO h1 h2 hl1 hl2 hx hy fun h' h k e j f g i=>cD (hQ h' h k e j f g i)) (F.args_zip_next_1 _))))
def yl6 {z TI TO:Addr} {b:Value} {Q:Option Value->Shared->Prop} (hh:A.handled=none) (D:ZipApart z TI TO i1 i2 l1 l2) (hz:IsZip s.heap z TI TO .none) (hTI:IsPair s.heap TI (.ref i1) (.ref i2)) (hTO:IsPair s.heap TO a b)
  (h1:s.heap.IsTupleIter i1 l1 k1) (h2:s.heap.IsTupleIter i2 l2 k2) (hl1:s.heap.IsTuple l1 xs) (hl2:s.heap.IsTuple l2 ys) (hend:xs[k1]?=none\/ys[k2]?=none)
  (hQ:∀ h',(∀ c o,c≠z->c≠TO->c≠i1->c≠i2->s.heap.get? c=some o->h'.get? c=some o)->Q none { s with heap:=h' }):wpAny (model prog w) A (pyNext (.ref z)) Q E s:=by
 have d:s.TypeIs (.ref z) "zip":=(⟨_,hz,rfl⟩); unfold pyNext;refine bY (wpAny_attempt (wpAny_callSpecial?_slot (name:=Str.ofString "__next__") d F.slot_zip_next (wpAny_call_entry F.slot_zip_next d F.entry_zip_next
  (ypt hh D hz hTI hTO h1 h2 hl1 hl2 hend fun h' e h g=>?_) (F.args_zip_next_1 _))))
 obtain ⟨o,i,f⟩:=g; refine bY (wpAny_isInstance (T:="StopIteration") (b:=true) ⟨o,i,f⟩ isSubtype_stop ?_);exact cD (hQ _ h)
end
abbrev zT1 (h:Heap) (l1:Addr):Heap:=h.push { cls:=.type "tuple_iterator",data:=.fields #[.ref l1,.int 0 0] }
abbrev zT2 (h:Heap) (l1 l2:Addr):Heap:=(zT1 h l1).push { cls:=.type "tuple_iterator",data:=.fields #[.ref l2,.int 0 0] }
abbrev zT3 (h:Heap) (l1 l2:Addr):Heap:=(zT2 h l1 l2).push { cls:=.type "tuple",data:=.seq #[.ref h.objs.size,.ref (zT1 h l1).objs.size] }
abbrev zT4 (h:Heap) (l1 l2:Addr):Heap:=(zT3 h l1 l2).push { cls:=.type "tuple",data:=.seq #[.none,.none] }
abbrev zT5 (h:Heap) (l1 l2:Addr):Heap:=(zT4 h l1 l2).push { cls:=.type "zip",data:=.fields #[.none,.bool false,.bool false,.ref (zT2 h l1 l2).objs.size,.ref (zT3 h l1 l2).objs.size] }
def yrn (l1 l2:Addr) (xs ys:Array Value):Meets (Builtin.«zip.__new__» ⟨[.type "zip",.ref l1,.ref l2],[]⟩) (fun _ R s=>s.heap.IsTuple l1 xs/\s.heap.IsTuple l2 ys/\R (.ok (.ret (.ref (zT4 s.heap l1 l2).objs.size))) { s with heap:=zT5 s.heap l1 l2 }) :=
 .of_wp fun l w A R s h=>by
  obtain ⟨j,g,d,f,k⟩:=s;obtain ⟨e,a,h⟩:=h;have i:=sub_zip;have c:Heap.IsTuple (Shared.heap ⟨j,g,d,f,k⟩) l1 xs:=e;have b:Heap.IsTuple (Shared.heap ⟨j.push { cls:=.type "tuple_iterator",data:=.fields #[.ref l1,.int 0 0] },g,d,f,k⟩) l2 ys:=Heap.IsTuple.push a _
  wp_walk using wpAny_pyIter_tuple c,wpAny_pyIter_tuple b
  exists _,rfl,h
section
variable {prog:Program} {w:World} {A:Around} {E:Value->Shared->Prop} {s:Shared}
def ykt {Q:Value->Shared->Prop} (hl1:s.heap.IsTuple l1 xs) (hl2:s.heap.IsTuple l2 ys)
  (h:∀ h',IsZip h' (s.heap.objs.size+4) (s.heap.objs.size+2) (s.heap.objs.size+3) .none->IsPair h' (s.heap.objs.size+2) (.ref s.heap.objs.size) (.ref (s.heap.objs.size+1))->IsPair h' (s.heap.objs.size+3) .none .none->h'.IsTupleIter s.heap.objs.size l1 0->h'.IsTupleIter (s.heap.objs.size+1) l2 0 ->
   (∀ c o,s.heap.get? c=some o->h'.get? c=some o)->Q (.ref (s.heap.objs.size+4)) { s with heap:=h' }):wpAny (model prog w) A (call (.type "zip") [.ref l1,.ref l2]) Q E s:=by
 refine callType_new F.called_zip (by decide) (F.typeCall_zip_2 _ _) (F.newCall_zip_2 _ _) (fun b=>F.args_object_init_3 b _ _) F.entry_zip_new (yrn l1 l2 xs ys) ⟨hl1,hl2,?_⟩;have a:(zT1 s.heap l1).objs.size=s.heap.objs.size+1:=Heap.size_push ..;have e:(zT2 s.heap l1 l2).objs.size=s.heap.objs.size+2:=by rw [Heap.size_push,a]
 have d:(zT3 s.heap l1 l2).objs.size=s.heap.objs.size+3:=by rw [Heap.size_push,e]
 have f:(zT4 s.heap l1 l2).objs.size=s.heap.objs.size+4:=by rw [Heap.size_push,d]
 have g5:(zT5 s.heap l1 l2).get? (zT4 s.heap l1 l2).objs.size=some _:=cJ _ rfl;have g4:(zT5 s.heap l1 l2).get? (zT3 s.heap l1 l2).objs.size=some _:=cB _ (cJ _ rfl);have g3:(zT5 s.heap l1 l2).get? (zT2 s.heap l1 l2).objs.size=some _:=cB _ (cB _ (cJ _ rfl));have g2:(zT5 s.heap l1 l2).get? (zT1 s.heap l1).objs.size=some _:=cB _ (cB _ (cB _ (cJ _ rfl)));have g1:(zT5 s.heap l1 l2).get? s.heap.objs.size=some _:=(cB _ (cB _ (cB _ (cB _ (cJ _ rfl)))));show _/\_;rw [e,d,f] at g5;rw [a,e] at g3;rw [d] at g4;rw [a] at g2;rw [f];exists ⟨_,g5,rfl⟩,h _ g5 g3 g4 ⟨_,g1,rfl,rfl⟩ ⟨_,g2,rfl,rfl⟩ fun c o x=>(cB _ (cB _ (cB _ (cB _ (cB _ x)))))
end
def vau (K:W.Frag) (a b:Addr):It :=
 ⟨fun i H=>∃ xs ys x y,SqT K H a xs/\SqT K H b ys/\xs[i]?=some x/\ys[i]?=some y,
  fun i H v H'=>∃ t x y,v=.ref t/\H t=none/\H'=upd H t (.tup [x,y])/\(∀ xs,SqT K H a xs->xs[i]?=some x)/\(∀ ys,SqT K H b ys->ys[i]?=some y),
  fun i H=>∃ xs ys,SqT K H a xs/\SqT K H b ys/\(xs.length <= i\/ys.length <= i)⟩
def vds (z TI TO i1 i2 l1 l2:Addr) (i:Nat) (h:Heap):Prop:=IsZip h z TI TO .none/\IsPair h TI (.ref i1) (.ref i2)/\(∃ a b,IsPair h TO a b)/\h.IsTupleIter i1 l1 i/\h.IsTupleIter i2 l2 i
def Zap.apartT {X:Cx} {H:Hp} {s:Shared} {z TI TO:Addr} {xs ys:List Value} {us vs:List V} (d:Zap z TI TO i1 i2) (st:vds z TI TO i1 i2 l1 l2 i s.heap) (p:s.heap.IsTuple l1 xs.toArray) (q:s.heap.IsTuple l2 ys.toArray) (hn:H TO=none) (hK:X.K.lookup TO=none)
  (hq:SqT X.K H l1 us) (hq':SqT X.K H l2 vs):ZipApart z TI TO i1 i2 l1 l2:=by
 obtain ⟨m,w,⟨a,b,v⟩,⟨x,u,n,_⟩,⟨A,r,k,_⟩⟩:=st;obtain ⟨y,j,f,_⟩:=p;obtain ⟨B,e,g,_⟩:=q
 have c:∀ {l:Addr} {t:List V},SqT X.K H l t->l≠TO:=fun {l t} h=>by
  rintro rfl;rcases h with (h | ⟨o,h⟩) | ⟨_,_,_,h,_⟩
  .rw [hn] at h; cases h
  .rw [hn] at h; cases h
  .rw [hK] at h; cases h
 exact ⟨d.a1,d.a2,d.a3,d.a4,d.a5,d.a6,d.a7,d.a8,d.a9,d.b1,
  ul j m (by rw [f]; exact nT (by decide)),c hq,ul j u (by rw [f,n]; decide),ul j r (by rw [f,k]; decide),
  ul e m (by rw [g]; exact nT (by decide)),c hq',ul e u (by rw [g,n]; decide),ul e r (by rw [g,k]; decide)⟩
def yf2 {P:Program} {w:World} {K:W.Frag} {x1} (l1 l2 z TI TO i1 i2:Addr) (d:Zap z TI TO i1 i2) (hKT:K.lookup TO=none) :
  yd9 P w K (.Tuple elts x1 tpos) (vau K l1 l2) [z,TI,TO,i1,i2] z (vds z TI TO i1 i2 l1 l2) where
 mem:=by simp
 obj:=fun i h J b g=>by
  obtain ⟨Q,j,⟨_,_,m⟩,⟨o1,e1,_,d1⟩,⟨o2,e2,_,d2⟩⟩:=J;simp only [cT,List.not_mem_nil,or_false] at g;rcases g with rfl | rfl | rfl | rfl | rfl
  .exists _,Q,fun v z=>by cases z
  .exists _,j,fun v z=>by cases z
  .exists _,m,fun v z=>by cases z
  .exists o1,e1,fun v z=>by rw [d1] at z; cases z
  .exists o2,e2,fun v z=>by rw [d2] at z; cases z
 keep:=fun i h h' J k=>by
  obtain ⟨Q,j,⟨a,b,m⟩,h1,h2⟩:=J;exists k z (by simp) _ Q,k TI (by simp) _ j,⟨a,b,k TO (by simp) _ m⟩,h1.at fun o e=>k i1 (by simp) o e,h2.at fun o e=>k i2 (by simp) o e
 item:=by
  intro X hP hw hK hc i R s σ H E I C J hg;subst hP hw hK;obtain ⟨xs,ys,x,y,O,G,B,hy⟩:=hg;obtain ⟨T,rv,p0,aa⟩:=I.tuple O;obtain ⟨L,Y,S,a0⟩:=I.tuple G;have p:s.heap.IsTuple l1 T.toArray:=p0;have p':s.heap.IsTuple l2 L.toArray:=S;obtain ⟨u,hu,ru⟩:=rv.get B;obtain ⟨u',ab,a9⟩:=Y.get hy;have D:=d.apartT J p p' (C TO (by simp)).1 hKT O G;obtain ⟨Q,j,⟨va,vb,m⟩,N,M⟩:=J;refine ykj D Q j m N M p p' (x:=u) (y:=u') (by simpa using hu) (by simpa using ab) fun h' a1 a2 a3 a4 a5 a6 hk=>?_;exists _,rfl,wpAny_letOwnedTupleGo_zip a1 fun t a7 l=>?_;have F:H s.heap.objs.size=none:=I.hok.fresh (cE _);have lz:z < s.heap.objs.size:=cH Q;have lo:TO < s.heap.objs.size:=cH m;have lI:TI < s.heap.objs.size:=cH j;have ae:i1 < s.heap.objs.size:=by obtain ⟨o,e,_⟩:=id N; exact cH e
  have ad:i2 < s.heap.objs.size:=by obtain ⟨o,e,_⟩:=id M; exact cH e
  have keep:∀ b o,b≠z->b≠TO->b≠i1->b≠i2->s.heap.get? b=some o->t.get? b=some o:=fun b o n1 n2 n3 n4 e=>(l.2 b n1).trans (hk b o n1 n2 n3 n4 e);have a8:t.get? s.heap.objs.size=some { cls:=.type "tuple",data:=.seq #[u,u'] }:=(l.2 _ (Nat.ne_of_gt lz)).trans a5;have nt:∀ {b v},H b=some v->b≠z/\b≠TO/\b≠i1/\b≠i2:=fun {b v} e=>⟨yb e (C z (by simp)).1,yb e (C TO (by simp)).1,yb e (C i1 (by simp)).1,yb e (C i2 (by simp)).1⟩
  have U:HOk X.prog X.w (upd H s.heap.objs.size (.tup [x,y])) t:=fun b o e=>by
   by_cases g:b=s.heap.objs.size
   .subst g;rw [ya] at e;cases e;exists by show 2 <= sizeLine; decide,[u,u'],.cons ru (.cons a9 .nil),⟨_,a8,rfl,_,rfl⟩
   .rw [yk g] at e;refine (I.hok b o e).stay (fun c v r q=>?_) (fun c q=>by rw [yk (yb q F)]; exact q) fun c ys q=>by rw [yk (yb q F)]; exact q
    obtain ⟨n1,n2,n3,n4⟩:c≠z/\c≠TO/\c≠i1/\c≠i2:=by
     rcases r with rfl | r
     .exact nt e
     .exact nt r
    exact keep c v n1 n2 n3 n4 q
  have un:Un (frs X.stack) [z,TI,TO,i1,i2] H (upd H s.heap.objs.size (.tup [x,y])) s.heap t:=by
   have Z:∀ {b o},b∉[z,TI,TO,i1,i2]->s.heap.get? b=some o->t.get? b=some o:=fun {b o} g e=>keep b o (fun q=>g (by simp [q])) (fun q=>g (by simp [q])) (fun q=>g (by simp [q])) (fun q=>g (by simp [q])) e
   refine ⟨fun b o e n _ B=>Z B e,fun b o e n _ B=>⟨o.slots,Z B e⟩,fun b o e n _=>by rw [yk (cU (cH e))]; exact n,fun b o e B=>⟨o,Z B e⟩,
    fun b ys e=>by rw [yk (yb e F)]; exact e,fun b o v e=>by rw [yk (yb e F)]; exact e,fun b ps e=>⟨#[],by rw [yk (yb e F),e]; simp⟩⟩
  have I1:Inv X R σ (upd H s.heap.objs.size (.tup [x,y])) { s with heap:=t }:=I.call' (s':={ s with heap:=t }) rfl un U I.bare fun b g=>by
   have f:=C b g;exact ⟨f.2.2.2.1,f.2.1,f.2.2.2.2.1,f.2.2.2.2.2⟩
  exists .ref s.heap.objs.size,_,I1,rfl,⟨_,x,y,rfl,F,rfl,fun zs h=>by rw [I.tuple_inj h O]; exact B,fun zs h=>by rw [I.tuple_inj h G]; exact hy⟩,?_,fun b g=>?_
  .exists a7,keep _ _ D.TIz D.TITO D.TIi1 D.TIi2 j,⟨u,u',(l.2 _ D.TOz).trans a2⟩,a3.at fun o e=>(l.2 _ D.i1z).trans e,a4.at fun o e=>(l.2 _ D.i2z).trans e
  .rw [yk (fun q=>?_)]
   .exact (C b g).1
   .have O:b < s.heap.objs.size:=by
     simp only [cT,List.not_mem_nil,or_false] at g;rcases g with rfl | rfl | rfl | rfl | rfl <;> assumption
    exact absurd q (cU O)
 done:=by
  intro X hP hw hK hc i R s σ H E I C J hg;subst hP hw hK;obtain ⟨xs,ys,O,G,B⟩:=hg;obtain ⟨T,rv,p0,aa⟩:=I.tuple O;obtain ⟨L,Y,S,a0⟩:=I.tuple G;have p:s.heap.IsTuple l1 T.toArray:=p0;have p':s.heap.IsTuple l2 L.toArray:=S;have D:=d.apartT J p p' (C TO (by simp)).1 hKT O G;obtain ⟨Q,j,⟨va,vb,m⟩,N,M⟩:=J;have hl:=rv.length;have ac:=Y.length;refine yl6 (show X.A.handled=none from I.ok.hd hc) D Q j m N M p p' (by simp; omega) fun h' hk=>⟨rfl,?_⟩;have nt:∀ {b v},H b=some v->b≠z/\b≠TO/\b≠i1/\b≠i2:=fun {b v} e=>⟨yb e (C z (by simp)).1,yb e (C TO (by simp)).1,yb e (C i1 (by simp)).1,yb e (C i2 (by simp)).1⟩
  have U:HOk X.prog X.w H h':=fun b o e=>by
   refine (I.hok b o e).stay (fun c v r q=>?_) (fun c q=>q) fun c ys q=>q
   obtain ⟨n1,n2,n3,n4⟩:c≠z/\c≠TO/\c≠i1/\c≠i2:=by
    rcases r with rfl | r
    .exact nt e
    .exact nt r
   exact hk c v n1 n2 n3 n4 q
  have un:Un (frs X.stack) [z,TI,TO,i1,i2] H H s.heap h':=by
   have Z:∀ {b o},b∉[z,TI,TO,i1,i2]->s.heap.get? b=some o->h'.get? b=some o:=fun {b o} g e=>hk b o (fun q=>g (by simp [q])) (fun q=>g (by simp [q])) (fun q=>g (by simp [q])) (fun q=>g (by simp [q])) e;exists fun b o e n _ B=>Z B e,fun b o e n _ B=>⟨o.slots,Z B e⟩,fun b o e n _=>n,fun b o e B=>⟨o,Z B e⟩,fun b ys e=>e,fun b o v e=>e,fun b ps e=>⟨#[],by rw [e]; simp⟩
  exact I.call' (s':={ s with heap:=h' }) rfl un U I.bare fun b g=>by
   have f:=C b g;exact ⟨f.2.2.2.1,f.2.1,f.2.2.2.2.1,f.2.2.2.2.2⟩
 self:=fun _ _ _ _ _ J h=>wpAny_pyIter_zip J.1 h
section
variable {X:Cx}
def vap (K:W.Frag) (ta:TA):TI:=fun σ H R=>ta σ H fun vs H1=>∃ a b,vs=[.ref a,.ref b]/\(∃ xs ys,SqT K H1 a xs/\SqT K H1 b ys)/\R (vau K a b) H1
def yrb {x1} {l m:Expr} {ta:TA} {p pos:Pos} (hg:Gl X "zip") (hm:X.mg "zip"=none) (ha:PA X [l,m] ta) (hs:starEach [l,m] X.env=[(false,eval l X.env),(false,eval m X.env)]:=by rfl) (hs2:starEach [m] X.env=[(false,eval m X.env)]:=by rfl) :
  PI X (.Tuple elts x1 tpos) (.Call (.Name "zip" p) [l,m] [] pos) (vap X.K ta):=by
 intro i s σ H R I h;refine Call_ (ċ I hg hm (show bootBuiltins "zip"=some (.type "zip") by decide +kernel) (PyProof.Rows.callWith_type1 (thn (ha pos i s σ H _ I h) fun L c h'=>?_) (by rw [hs,hs2]) (by rw [hs2]; rfl)));obtain ⟨O,E,d,y,F⟩:=h';obtain ⟨a,b,e,⟨P,M,D,w⟩,q⟩:=F;subst e
 cases y with
 | cons r rr =>
  cases rr with
  | cons r' rr =>
   cases rr;cases r;cases r';obtain ⟨j,Q,B,v⟩:=d.tuple D;obtain ⟨g,z,k,C⟩:=d.tuple w;refine ykt (show c.heap.IsTuple a j.toArray from B) (show c.heap.IsTuple b g.toArray from k) fun N v x t A J G=>?_;refine wpAny_pyIter_zip v ?_
   have n:X.K.lookup (c.heap.objs.size+3)=none:=by
    cases hl:X.K.lookup (c.heap.objs.size+3) with
    | none=>rfl
    | some o=>exact absurd (cH (d.kIn _ o hl)) (Nat.not_lt.mpr (Nat.le_add_right _ _))
   have u:Zap (c.heap.objs.size+4) (c.heap.objs.size+2) (c.heap.objs.size+3) c.heap.objs.size (c.heap.objs.size+1):=ym0 _;exists c.heap.objs.size+4,[c.heap.objs.size+4,c.heap.objs.size+2,c.heap.objs.size+3,c.heap.objs.size,c.heap.objs.size+1],_,_,E,rfl,d.kept (t':=c.toks) G,yf2 a b _ _ _ _ _ u n,⟨v,x,⟨_,_,t⟩,A,J⟩,fun b f=>?_,q
   have f:c.heap.objs.size <= b:=by
    simp only [cT,List.not_mem_nil,or_false] at f;rcases f with rfl | rfl | rfl | rfl | rfl <;> omega
   exact d.fpOk f (d.hok.fresh f)
def yqp {K:W.Frag} {ta:TA} {σ:St} {H:Hp} {R:It->Hp->Prop} (h:ta σ H fun vs H1=>∃ a b,vs=[.ref a,.ref b]/\(∃ xs ys,SqT K H1 a xs/\SqT K H1 b ys)/\R (vau K a b) H1):vap K ta σ H R:=h
end
def ybs {K:W.Frag} {a b D:Addr} {xs ys:List V} {g:TG} {te:TE} {n m:Nat} {fr:St} {R:Hp->Prop} {H1:Hp} (f:Nat->V) (hq:SqT K H1 a xs) (hq':SqT K H1 b ys) (h1:m <= xs.length) (h2:m <= ys.length) (h3:xs.length <= m\/ys.length <= m) (hD:H1 D=none)
  (hs:∀ i x y H t pre,i < m->xs[i]?=some x->ys[i]?=some y->yv H1 H->H D=some (.lst ((List.range i).map f))->H t=none->List.length pre=n->g (.ref t) (pre++fr) (upd H t (.tup [x,y])) fun σ' H'=>(∃ pre',List.length pre'=n/\σ'=pre'++fr)/\te σ' H' (MpK H1 D f m i))
  (hd:∀ H,yv H1 H->H D=some (.lst ((List.range m).map f))->R H):j4 (vau K a b) g te n fr D R H1:=by
 exists cW m (Mp H1 D f),⟨m,by simp,cV _,Mp.zero hD⟩,?_;rintro i j H ⟨rfl,r,p⟩;have q:=p.1.tup hq;have c:=p.1.tup hq';by_cases hlt:i < m
 .refine .inr ⟨⟨xs,ys,xs[i]'(by omega),ys[i]'(by omega),q,c,cC _,cC _⟩,fun y H' pre l h=>?_⟩;obtain ⟨t,x,y,rfl,d,rfl,o,k⟩:=l;exact hs i x y H t pre hlt (o xs q) (k ys c) p.1 p.2 d h
 .have e:i=m:=by omega
  subst e;exact .inl ⟨⟨xs,ys,q,c,h3⟩,hd H p.1 p.2⟩
end L2
namespace L2
open PySem PySem.Spec PyProof.Rows HT
section
variable {prog:Program} {w:World} {A:Around} {E:Value->Shared->Prop} {s:Shared}
def ybb {t sl:Addr} {items:Array Value} {vl vu:Value} {lo hi:Option Int} {Q:Value->Shared->Prop} (ht:IsTup s.heap t items) (hs:s.heap.IsSliceOf sl vl vu .none) (pl:IsPart vl lo) (pu:IsPart vu hi)
  (hw:sIx items.size 0 lo=0/\sIx items.size items.size hi=items.size) (h:Q (.ref t) s):wpAny (model prog w) A (getItem (.ref t) (.ref sl)) Q E s:=by
 obtain ⟨f,c,d,e⟩:=id hs;have b:s.TypeIs (.ref sl) "slice":=⟨f,c,d⟩;unfold getItem
 try with_reducible refine wpAny_holding ?_
 first | refine bY (cD ?_) | skip
 refine bY (wpAny_sequenceKey ht.typeIs (by decide) ?_);refine bY (wpAny_callSpecial?_slot (name:=Str.ofString "__getitem__") ht.typeIs PyProof.Rows.slot_tuple_getitem
  (wpAny_call_entry PyProof.Rows.slot_tuple_getitem ht.typeIs entry_tuple_getitem ?_ (args_tuple_getitem _ _)))
 show wpAny _ _ (Builtin.Tuple.tupleItemsOf (.ref t) >>= _) _ _ s;refine bY (tupleItemsOf_ ht ?_);refine bY (wpAny_typeOf b ?_);rw [if_pos (by decide)];refine bY (zt hs pl pu ?_)
 have a:(((sIx items.size 0 lo:Nat):Int) == 0 && (1:Int) == 1 && (sIx items.size items.size hi - sIx items.size 0 lo) == items.size)=true:=by
  rw [hw.1,hw.2];simp
 show wpAny _ _ (if (((sIx items.size 0 lo:Nat):Int) == 0 && (1:Int) == 1 && (sIx items.size items.size hi - sIx items.size 0 lo) == items.size)=true then _ else _) _ _ s;rw [if_pos a];refine bY (m:=Builtin.Tuple.tupleIsExact _) ?_;unfold Builtin.Tuple.tupleIsExact;refine bY (wpAny_typeOf ht.typeIs (cD ?_));show wpAny _ _ (if (Value.type "tuple" == Value.type "tuple")=true then _ else _) _ _ s;rw [if_pos (by decide)]
 first
  | exact bY (wpAny_rule (cD ⟨_,rfl,cD h⟩))
  | exact bY (wpAny_rule (bY (cD (cD ⟨_,rfl,cD h⟩))))
  | exact bY (bY (wpAny_rule (cD (cD ⟨_,rfl,cD h⟩))))
end
section
variable {X:Cx}
def vbh (K:W.Frag):V->Option Int->Option Int->Hp->VK->Prop:=fun x lo hi H Q=>∃ a xs,x=.ref a/\SqT K H a xs/\(HT.sIx xs.length 0 lo=0/\HT.sIx xs.length xs.length hi=xs.length)/\Q (.ref a) H
def ypb:SlR X (vbh X.K):=by
 intro e s σ H x v u t lo p n Q I i k l f h;obtain ⟨a,m,rfl,g,j,q⟩:=h;cases i;obtain ⟨c,r,d,o⟩:=I.tuple g;have b:c.toArray.size=m.length:=by rw [cL]; exact r.length.symm
 exact ⟨"tuple",_,PyProof.Rows.slot_tuple_getitem.lookup,d.typeIs,ybb d k l f (by rw [b]; exact j) ⟨.ref a,H,I,rfl,q⟩⟩
end
end L2
namespace L2
open PySem PySem.Spec PyProof.Rows PySem.SeqAt
open AutoSeq1 (wpAny_loadPart')
def vbg:isSubtype (.type "dict") (.type "dict")=pure true:=by rw [isSubtype_type]; kernel_rfl
def yri (d q:Addr) (es:Array DictEntry) (ep ep2:Nat) (hs:(d == sysModules)=false) (hs2:(q == sysModules)=false):Meets (Builtin.«dict.__eq__» ⟨[.ref d,.ref q],[]⟩) (fun _ R s=>s.heap.get? d=some { cls:=.type "dict",dict:=none,data:=.dict es ep,slots:=#[] }/\s.heap.get? q=some { cls:=.type "dict",dict:=none,data:=.dict #[] ep2,slots:=#[] }/\R (.ok (.ret (.bool es.isEmpty))) s) :=
 .of_wp fun j w A R s h=>by
  obtain ⟨p,g,t,o,r⟩:=s;obtain ⟨k,i,h⟩:=h;have c:=vbg;by_cases he:es=#[]
  .subst he
   wp_walk using AutoSeq1.wpAny_loadPart' k,AutoSeq1.wpAny_loadPart' i
   first
    | (show wpAny _ _ (pure (none,())) _ _ _; exact cD (cD (cD ⟨_,rfl,h⟩)))
    | (with_unfolding_all refine wpAny_of_eq (a:=(none,())) rfl ?_; exact cD (cD ⟨_,rfl,h⟩))
    | (rw [show ∀ f e l,Std.Legacy.Range.forIn'.loop (m:=Sem) [:(#[]:Array DictEntry).size] f ((none:Option Bool),()) 0 e l=pure (none,()) from fun f e l=>by unfold Std.Legacy.Range.forIn'.loop; rfl]; exact cD (cD (cD ⟨_,rfl,h⟩)))
  .have n:(es.size != 0)=true:=by simpa using he
   have b:es.isEmpty=false:=by simpa using he
   rw [b] at h
   wp_walk using AutoSeq1.wpAny_loadPart' k,AutoSeq1.wpAny_loadPart' i
   exists _,rfl,h
section
variable {X:Cx}
def vbf:R2:=fun x y H Q=>∃ p q kvs,x=.ref p/\y=.ref q/\H p=some (.dK kvs)/\H q=some (.dK [])/\Q (.bl kvs.isEmpty) H
def yqn (hu:X.A.units+64 < cLine):OpR X (compareOp .Eq) vbf:=by
 intro M s σ H x y v u Q I Z P h;obtain ⟨p,q,a,rfl,rfl,m,hq,k⟩:=h;cases Z;cases P;obtain ⟨_,N,vs,r,o,b,K,e,ex,hd,n⟩:=I.hok p _ m;obtain ⟨_,D,C,r2,o2,d,i,w,E,z,j⟩:=I.hok q _ hq;have O:C=[]:=by cases r2; rfl
 subst O
 have f:d=#[]:=by
  have m:=j.2.1;generalize S:d.toList=l at m;cases m;exact Array.toList_eq_nil_iff.mp S
 subst f
 have L:s.heap.get? p=some { cls:=.type "dict",dict:=none,data:=.dict b K,slots:=#[] }:=by
  obtain ⟨c,Y,U,W⟩:=o;obtain ⟨B,w,G⟩:=ex;cases B; cases w; cases G; cases hd;exact e
 have g:s.heap.get? q=some { cls:=.type "dict",dict:=none,data:=.dict #[] i,slots:=#[] }:=by
  obtain ⟨c,Y,U,W⟩:=o2;obtain ⟨B,t,G⟩:=E;cases B; cases t; cases G; cases z;exact w
 have J:b.isEmpty=a.isEmpty:=by
  have R:=n.2.1.length;have h2:=KV.length r;have T:b.size=a.length:=by rw [h2,<- R]; rfl
  rw [Bool.eq_iff_iff,Array.isEmpty_iff_size_eq_zero,List.isEmpty_iff_length_eq_zero,T]
 unfold compareOp
 exact richCompare_meets_room (op:=.Eq) ⟨_,L,rfl⟩ ⟨_,g,rfl⟩ F.slot_dict_eq F.entry_dict_eq (F.args_dict_eq_2 _ _) (yri p q b K i N D) ⟨L,g,show Value.bool b.isEmpty≠Value.notImplemented/\_ from ⟨(fun x=>nomatch x),.bl a.isEmpty,H,I,by rw [J]; rfl,k⟩⟩ (by omega)
end
end L2
namespace L2
open PySem PySem.Spec PyProof.Rows
variable {C D it:Addr} {tg:Expr} {fd:FuncData} {pins:List (Addr × Obj)} {ep i j:Nat} {Q:Option Value->Shared->Prop} {P:Program} {p0 p1 qual:Str} {ov:Value} {E:Value->Shared->Prop}
def yb4 {X:Cx} {K:W.Frag} {e:Expr} {f:Str} {pos:Pos} {ta:TE} (hK:X.K=K) (he:PE X e ta) (hb:attributeBase e f X.env (eval e X.env)=eval e X.env):PE X (.Attribute e f pos) (vde K ta f):=hK ▸ ym he hb
def Ë (J:It) (tc:TT) (te:TE) (fr:St) (D:Addr) (R:Hp->Prop) (H1:Hp):Prop:=∃ W:Nat->Nat->Hp->Prop,(∃ m,W 0 m (upd H1 D (.lst []))) /\
 ∀ i m H2,W i m H2->(J.stop i H2/\R H2)\/(J.go i H2/\∀ x H3,J.yld i H2 x H3->tc (some x :: fr) H3 fun b H4=>if b=true then te (some x :: fr) H4 (fun y H5=>∃ ys,H5 D=some (.lst ys)/\ys.length < sizeLine/\∃ m',m' < m/\W (i+1) m' (upd H5 D (.lst (ys++[y])))) else ∃ m',m' < m/\W (i+1) m' H4)
def yi3 (wi:TI) (tc:TT) (te:TE) (js:List Nat):TE:=fun σ H Q=>wi σ H fun J H1=>∀ D,H1 D=none->Ë J tc te (xn js σ) D (fun H2=>Q (.ref D) H2) H1
section
variable {X:Cx} {iter elt cnd:Expr} {tc:TT} {x:Str} {px pos:Pos} {scope:Scope} {te:TE} {wi:TI} {σ:St} {ys:List Str} {js:List Nat}
def ywu {J:It} {fr:St} {R:Hp->Prop} {H1:Hp} (h:Ë J tc te fr D R H1):yhu J (w8 0) tc te 1 fr D R H1:=by
 obtain ⟨W,d,e⟩:=h;exists W,d,fun i m j w=>(e i m j w).imp id fun ⟨g,y⟩=>⟨g,fun x f a c b=>?_⟩
 match a,b with
 | [z],_=>exists ⟨[some x],rfl,rfl⟩,y x f c
def ī {s2:Shared} {H2:Hp} {fp:List Addr} {tn:Nat->Heap->Prop} {J:It} (hc:X.calm=true)
  (ht:∀ (C:Addr) (s2:Shared) (H2:Hp) (fp:List Addr),PT (X.compF scope ys C x s2 H2 fp) cnd tc) (he:∀ (C:Addr) (s2:Shared) (H2:Hp) (fp:List Addr),PE (X.compF scope ys C x s2 H2 fp) elt te)
  (hcell:∀ y∈scope.names,y.2≠.cell) (hkind:scope.kind=.function) (hx:scope.names.lookup x=some .local) (hnd:(x :: ys).Nodup)
  (hfr:∀ y∈scope.names,y.2=.free->y.1∈ys) (hyc:∀ y∈ys,X.env.kindOf y=some .cell) (hrel:∀ y∈ys,(relabel scope X.env).names.lookup y=some .cell) (hjs:js.map (fun j=>X.N[j]?)=ys.map some)
  (I2:Inv X pins σ H2 s2) (T:yd9 X.prog X.w X.K (.Name x px) J fp it tn) (st2:tn 0 s2.heap) (f2:∀ b∈fp,yay X pins H2 b)
  {R:Addr->Hp->Prop} (h:∀ D,H2 D=none->Ë J tc te (xn js σ) D (R D) H2) {RR:Value->Addr->Result->Shared->Prop} {E:Value->Shared->Prop}
  (hR:∀ (D C:Addr) (H':Hp) (s':Shared) (m:Str->Option Value),yay X pins H' C->s'.heap.Ns C m->Inv X pins σ H' s'->R D H'->RR (.ref D) C (.ok .next) s') :
  wpAny (model X.prog X.w) X.A (newList []) (fun acc s₃=>wpAny (model X.prog X.w) X.A (newFunctionEnv scope X.env.globals (Ø ys X.env) [] X.env.qual none .none (some X.env)) (fun cenv s₄ =>
   codeAny (model X.prog X.w) X.A (.compStart (.ListComp elt [⟨.Name x px,iter,[cnd],0⟩] scope pos) 0 (.ref it) acc { cenv with scope:=relabel scope X.env }) (RR acc cenv.locals) s₄) E s₃) E s2 :=
 ĥ (tg:=.Name x px) (xs:=[x]) (g:=w8 0) hc (fun C s2 H2 fp=>yra (ht C s2 H2 fp)) he (fun C s2 H2 fp=>wl (i:=0) hnd rfl (Or.inl (lookup_relabel_local hx)) (Or.inr (lookup_relabel_local hx))) hcell hkind hfr hyc hrel hjs I2 T st2 f2 (fun D a=>ywu (h D a)) hR
def yla (hc:X.calm=true) (hi:PI X (.Name x px) iter wi) (ht:∀ (C:Addr) (s2:Shared) (H2:Hp) (fp:List Addr),PT (X.compF scope ys C x s2 H2 fp) cnd tc) (he:∀ (C:Addr) (s2:Shared) (H2:Hp) (fp:List Addr),PE (X.compF scope ys C x s2 H2 fp) elt te) (hjs:js.map (fun j=>X.N[j]?)=ys.map some)
  (hclos:closureFor scope X.env=pure (Ø ys X.env)) (hnd:(x :: ys).Nodup:=by decide) (hyc:∀ y∈ys,X.env.kindOf y=some .cell) (hrel:∀ y∈ys,(relabel scope X.env).names.lookup y=some .cell)
  (hfr:∀ y∈scope.names,y.2=.free->y.1∈ys:=by decide +kernel) (hcell:∀ y∈scope.names,y.2≠.cell:=by decide +kernel) (hkind:scope.kind=.function:=by rfl)
  (hnames:∀ y∈scope.names,y.2=.local->scope.names.lookup y.1=some .local:=by decide +kernel) (hx:scope.names.lookup x=some .local:=by rfl) (hs:∀ x,foldedSetIterable iter X.env x=pure x:=by intro _; rfl) :
  PE X (.ListComp elt [⟨.Name x px,iter,[cnd],0⟩] scope pos) (yi3 wi tc te js):=by
 refine .mk fun a s σ H Q I h=>?_;rw [eval_ListComp];refine wpAny_comprehension_free (use:=none) rfl hs hclos hkind hnames (thn (hi a s σ H _ I h) fun v G g=>thn g fun r s2 z=>?_);obtain ⟨E,fp,B,J,H2,e,p,T,c,i,h⟩:=z;subst e;refine ī (R:=fun D d=>Q (.ref D) d) (RR:=compPost (model X.prog X.w) X.A X.xe none (EP X a σ Q)) hc ht he hcell hkind hx hnd hfr hyc hrel hjs p T c i h ?_;intro D C d l m f u t q;exists m,u,fun F n=>⟨.ref D,d,?_,rfl,q⟩;exact t.turned (t':=l.toks) (fun b o k e=>n.extBut b o k e) f.1 f.2.1 f.2.2.2.1 f.2.2.2.2.1 f.2.2.2.2.2
def yli {y:Str} {py spos:Pos} (hN:X.N.Nodup) (hy:X.N[i]?=some y) (hl:X.env.scope.names.lookup y=some .local) (hc:X.calm=true) (hi:PI X (.Name x px) iter wi)
  (ht:∀ (C:Addr) (s2:Shared) (H2:Hp) (fp:List Addr),PT (X.compF scope ys C x s2 H2 fp) cnd tc) (he:∀ (C:Addr) (s2:Shared) (H2:Hp) (fp:List Addr),PE (X.compF scope ys C x s2 H2 fp) elt te) (hjs:js.map (fun j=>X.N[j]?)=ys.map some)
  (hclos:closureFor scope X.env=pure (Ø ys X.env)) (hyc:∀ y∈ys,X.env.kindOf y=some .cell) (hrel:∀ y∈ys,(relabel scope X.env).names.lookup y=some .cell)
  (hsw:swapsWith (.ListComp elt [⟨.Name x px,iter,[cnd],0⟩] scope pos) (some (.Name y py)) spos.line X.env=pure true:=by rfl) (hnd:(x :: ys).Nodup:=by decide)
  (hfr:∀ y∈scope.names,y.2=.free->y.1∈ys:=by decide +kernel) (hcell:∀ y∈scope.names,y.2≠.cell:=by decide +kernel) (hkind:scope.kind=.function:=by rfl)
  (hnames:∀ y∈scope.names,y.2=.local->scope.names.lookup y.1=some .local:=by decide +kernel) (hx:scope.names.lookup x=some .local:=by rfl) (hs:∀ x,foldedSetIterable iter X.env x=pure x:=by intro _; rfl) :
  PS X (.Assign [.Name y py] (.ListComp elt [⟨.Name x px,iter,[cnd],0⟩] scope pos) spos) (yun (yi3 wi tc te js) (w8 i)):=by
 refine .mk fun a s σ H p I h=>?_;rw [exec_Assign_Name_used _ _ _ _ hsw];refine bY (wpAny_standAt (bY ?_));show wpAny _ X.A (do let _ <- comprehension (.ListComp elt [⟨.Name x px,iter,[cnd],0⟩] scope pos) scope X.env _ (newList []) false (eval iter X.env) (some (assign (.Name y py) X.env))) _ _ s;refine bY (dU (wpAny_comprehension_free (use:=some (assign (.Name y py) X.env)) (Q:=fun _ d=>SP X a p .next d) rfl hs hclos hkind hnames (thn (hi a s σ H _ I h) fun v U u=>thn u fun K s2 M=>?_)) (fun _ d E=>cD (cD E)) fun _ _ e=>e);obtain ⟨S,fp,P,J,H2,e,G,T,r,F,h⟩:=M;subst e;refine ī (R:=fun D t=>w8 i (.ref D) σ t p.nx) (RR:=compPost (model X.prog X.w) X.A X.xe (some (assign (.Name y py) X.env)) (fun _ d=>SP X a p .next d)) hc ht he hcell hkind hx hnd hfr hyc hrel hjs G T r F h ?_;intro D C t d m f B L q;refine wpAny_assign_Name (ε (v:=V.ref D) L hN hy (Or.inl hl) rfl (fun g n k=>?_) (Or.inr hl));exists m,?_,fun O l=>⟨_,t,?_,q⟩
 .obtain ⟨b,l,c⟩:=k;refine B.sameBut l fun z=>?_;rcases c with c | c
  .exact f.2.1 (z.trans c)
  .exact f.2.2.2.2.1 y b c z.symm
 .exact n.turned (t':=g.toks) (fun b o c e=>l.extBut b o c e) f.1 f.2.1 f.2.2.2.1 f.2.2.2.2.1 f.2.2.2.2.2
def yp7 {H:Hp} {Q:VK} (h:wi σ H fun J H1=>∀ D,H1 D=none->Ë J tc te (xn js σ) D (fun H2=>Q (.ref D) H2) H1):yi3 wi tc te js σ H Q:=h
def ybg {lo:Int} {n:Nat} {fr:St} {R:Hp->Prop} {H1:Hp} (Pv:Nat->Hp->Prop) (h0:Pv 0 (upd H1 D (.lst [])))
  (hs:∀ i H,i < n->Pv i H->tc (some (.int (lo+i)) :: fr) H fun b H4=>if b=true then te (some (.int (lo+i)) :: fr) H4 (fun y H5=>∃ ys,H5 D=some (.lst ys)/\ys.length < sizeLine/\∃ m',m' < n - i/\cW n Pv (i+1) m' (upd H5 D (.lst (ys++[y])))) else ∃ m',m' < n - i/\cW n Pv (i+1) m' H4)
  (hd:∀ H,Pv n H->R H):Ë (Itr lo n) tc te fr D R H1:=by
 exists cW n Pv,⟨n,by simp,cV _,h0⟩,?_;rintro i m H ⟨rfl,c,p⟩;by_cases hlt:i < n
 .refine .inr ⟨hlt,fun x a y=>?_⟩;obtain ⟨e,y⟩:=y;subst e y;exact hs i _ hlt p
 .have e:i=n:=by omega
  subst e;exact .inl ⟨cE _,hd H p⟩
def ų {n:Nat} {Pv:Nat->Hp->Prop} {H4:Hp} (hi:i < n) (p:Pv (i+1) H4):∃ m',m' < n - i/\cW n Pv (i+1) m' H4:=⟨n - (i+1),by omega,rfl,hi,p⟩
end
structure yax (K:W.Frag) (x qual:Str) (st:Stmt) (D:Addr) (f:Addr) (fd:FuncData):Prop where
 ex:∃ (oc:Value) (od:Option Addr) (kV doc pm:Value) (an:Option Addr) (cdv ct:Value) (osl:Array (Option Value)),
  fd=W.fnOf x qual (w6 st) (wk st) (yd st) (.ref D) kV doc pm an cdv ct/\K.lookup f=some ⟨oc,od,.func fd,osl⟩/\W.codeIn K cdv qual=true
 kp:W.keepIn K (.ref f)=true
section
variable {w:World} {K:W.Frag} {mg:Str->Option Value} {base:Heap}
def yax.ok {x:Str} {st:Stmt} {f:Addr} {N ps:List Str} {k:Nat} {sp:Sp} (F:yax K x qual st D f fd) (S:yi N ps (yd st)) (len:∀ vs H Q E,sp vs H Q E->vs.length=ps.length)
  (hbody:∀ (cdv:Value) (A:Around) (outer:List Env) (s:Shared) (H:Hp) (vs:List V) (Q:VK) (E:XK),zr k (A.deeper (envOfC qual (yd st) s.heap.objs.size f cdv))->sp vs H Q E ->
   ∃ t,PSs (vn CX0 P w K mg base N qual (yd st) f cdv A outer s H E).nox (wk st) t/\t { nx:=fun _ H'=>Q .non H',rt:=Q } (Î N vs) H):vk P w K mg base CX0 (k+1) f fd ps sp:=by
 obtain ⟨m,i,kV,g,j,n,cdv,l,c,rfl,d,a⟩:=F.ex;refine ymc d a S len fun A outer s H vs Q E e b=>?_;obtain ⟨t,h,q⟩:=hbody cdv A outer s H vs Q E e b;exact ⟨t,h.nox,q⟩
def yax.okE {x:Str} {st:Stmt} {f:Addr} {N ps:List Str} {k:Nat} {sp:Sp} (F:yax K x qual st D f fd) (S:yi N ps (yd st)) (len:∀ vs H Q E,sp vs H Q E->vs.length=ps.length)
  (hbody:∀ (cdv:Value) (A:Around) (outer:List Env) (s:Shared) (H:Hp) (vs:List V) (Q:VK) (E:XK),zr k (A.deeper (envOfC qual (yd st) s.heap.objs.size f cdv))->sp vs H Q E ->
   ∃ t,PSs (vn (CXe P w) P w K mg base N qual (yd st) f cdv A outer s H E) (wk st) t/\t { nx:=fun _ H'=>Q .non H',rt:=Q } (Î N vs) H):vk P w K mg base (CXe P w) (k+1) f fd ps sp:=by
 obtain ⟨l,h,kV,g,i,m,cdv,j,c,rfl,d,a⟩:=F.ex;exact ymc d a S len fun A outer s H vs Q E e b=>hbody cdv A outer s H vs Q E e b
def yax.binds {x:Str} {st:Stmt} {f:Addr} {ps:List Str} {ds:List Value} {o:Obj} {its:Array Value} {n:Nat} (hj:j+ds.length=ps.length) (F:yax K x qual st D f fd) (hD:K.lookup D=some o) (ho:o.data=.seq its n)
  (h:∀ (kV doc pm:Value) (an:Option Addr) (cdv ct:Value) (us:List Value),us.length=j ->
   ∃ k:Option (Array Value)->Sem (List (Str × Value)),bindArgs (W.fnOf x qual (w6 st) (wk st) (yd st) (.ref D) kV doc pm an cdv ct) ⟨us,[]⟩=(seqItems? (.ref D) >>= k)/\k (some its)=pure (ps.zip (us++ds))):uc K fd ps ds:=by
 obtain ⟨m,i,kV,doc,pm,an,cdv,ct,a,rfl,l,c⟩:=F.ex;intro s us e d;obtain ⟨k,b,g⟩:=h kV doc pm an cdv ct us (by rw [cF] at d; omega);exact BindsTo.of_defaults rfl (e _ _ hD) ho b g
def yb8 {x:Str} {st:Stmt} {f:Addr} {oc:Value} {od an:Option Addr} {osl:Array (Option Value)} {kV doc pm cdv ct:Value} (l:K.lookup f=some ⟨oc,od,.func (W.fnOf x qual (w6 st) (wk st) (yd st) (.ref D) kV doc pm an cdv ct),osl⟩)
  (c:W.codeIn K cdv qual=true) (k:W.keepIn K (.ref f)=true):yax K x qual st D f (W.fnOf x qual (w6 st) (wk st) (yd st) (.ref D) kV doc pm an cdv ct):=⟨⟨oc,od,kV,doc,pm,an,cdv,ct,osl,rfl,l,c⟩,k⟩
end
section
variable {X:Cx} {body suite:List Stmt} {b₀:Stmt} {tx n:Str} {np hpos pos:Pos} {tb:(St->XK)->TS} {ts:TS}
abbrev THs:=Ö->St->Addr->Addr->Hp->Prop
def PHs (X:Cx) (hs:List ExceptHandler) (th:THs):Prop:=∀ (pins:List (Addr × Obj)) (s:Shared) (σ:St) (H:Hp) (x T Ca:Addr) (En:Ö),Inv X pins σ H s->Fy X pins H x->Fy X pins H T->Trd s.heap x T (.ref Ca) .none->th En σ Ca x H ->
 wpAny (model X.prog X.w) X.A (handleBy (.ref x) X.env hs) (SP X pins En) X.xe s
def va6:THs:=fun _ _ _ _ _=>False
def thC (K:W.Frag) (D:Addr) (ts:TS) (tr:THs):THs:=fun En σ Ca x H=>(W.exmOne K (.ref Ca) (.ref D)=some true/\ts En σ H)\/(W.exmOne K (.ref Ca) (.ref D)=some false/\tr En σ Ca x H)
def yyb:PHs X [] va6:=fun _ _ _ _ _ _ _ _ _ _ _ _ h=>h.elim
def yq1 {υ:List ExceptHandler} {tr:THs} (hg:Gl X tx) (hm:X.mg tx=some (.ref D)) (hs:∀ pn x,PSs (X.su pn x) (b₀ :: suite) ts) (hr:PHs X υ tr) (hdb:(tx == ("__debug__":Str))=false:=by decide) :
  PHs X (.ExceptHandler (some (.Name tx np)) none (b₀ :: suite) hpos :: υ) (thC X.K D ts tr):=by
 intro c s σ H x T n m J p l a q;refine wpAny_handleBy_cons (codeAny_handlers_test (z0 (J.su x) hg hm ?_ hdb)) (by intro z; cases z)
 have j:vdf x n s.heap:=by
  obtain ⟨E,_,_,_,_,A,y,_⟩:=id a;exact ⟨E,A,y.1⟩
 rcases q with ⟨g,q⟩ | ⟨g,q⟩
 .refine W.exm_one (M:=model X.prog X.w) (h:=s.heap) J.kIn j.type g _ _ _ _ (fun _ _ z=>z) ?_;dsimp only [if_true];refine codeAny_handlers_suite ?_;obtain ⟨O,C⟩:=yd2 (s:=s) (X:=X) a;refine wpAny_setFlight_noneW (base:=hid s X x T) yag (yac J) C fun N G I t F=>?_;have k:=J.ok;obtain ⟨J,P,l,a⟩:=zx J p l G I t fun b o e B=>⟨o.slots,F b o e B⟩;refine dU (hs (X.pn++c) x [] _ _ _ m (J.su x) q) (fun f L q=>?_) fun _ _ z=>False.elim z
  cases f with
  | next=>obtain ⟨σ6,d,i,q⟩:=q; exists σ6,d,i.unsu k,q
  | brk=>obtain ⟨σ6,d,i,q⟩:=q; exists σ6,d,i.unsu k,q
  | cont=>obtain ⟨σ6,d,i,q⟩:=q; exists σ6,d,i.unsu k,q
  | ret u=>obtain ⟨v,σ6,d,i,r,q⟩:=q; exists v,σ6,d,i.unsu k,r,q
 .refine W.exm_one (M:=model X.prog X.w) (h:=s.heap) J.kIn j.type g _ _ _ _ (fun _ _ z=>z) ?_;exact hr c _ σ H x T n m J p l a q
def exH (th:THs) (En:Ö):St->XK:=fun σ' C _ H'=>∀ x,H' x=none->∃ Ca,C=.ref Ca/\th En σ' Ca x H'
def vas (tb:(St->XK)->TS) (th:THs):TS:=fun En σ H=>tb (exH th En) En σ H
def ypy {h₀:ExceptHandler} {hs:List ExceptHandler} {th:THs} (hb:∀ pn Ex,PSs (X.tr pn Ex) body (tb Ex)) (hst:X.stack=X.env :: X.outer/\X.env.frame=some X.env.locals) (hh:PHs X (h₀ :: hs) th) :
  PS X (.Try body (h₀ :: hs) [] [] pos) (vas tb th):=by
 refine .mk fun a s σ H i I h=>?_
 have t:∀ {f m},SP (X.tr (X.pn++a) (exH th i)) [] i f m->SP X a i f m:=fun {f m} q=>by
  cases f with
  | next=>obtain ⟨σ',d,J,q⟩:=q; exact ⟨σ',d,J.unwish.unpnd,q⟩
  | brk=>obtain ⟨σ',d,J,q⟩:=q; exact ⟨σ',d,J.unwish.unpnd,q⟩
  | cont=>obtain ⟨σ',d,J,q⟩:=q; exact ⟨σ',d,J.unwish.unpnd,q⟩
  | ret u=>obtain ⟨v,σ',d,J,r,q⟩:=q; exists v,σ',d,J.unwish.unpnd,r,q
 refine wpAny_Try_except (dU (hb (X.pn++a) (exH th i) [] s σ H i (I.pnd.wish _) h) (fun f j q=>?_) fun e j q=>?_)
 .have q:=t q
  cases f with
  | next=>exact wpAny_execs_nil q
  | brk=>exact q
  | cont=>exact q
  | ret u=>exact q
 .obtain ⟨O,σ',d,x,T,C,rfl,J,g,c,tr,q⟩:=q;have J:Inv X a σ' d j:=J.unpnd;have g:Fy X a d x:=⟨g.1,g.2.1,g.2.2.1,g.2.2.2.1,g.2.2.2.2.1,fun p y=>g.2.2.2.2.2 p (dJ _ y)⟩;have c:Fy X a d T:=⟨c.1,c.2.1,c.2.2.1,c.2.2.2.1,c.2.2.2.2.1,fun p y=>c.2.2.2.2.2 p (dJ _ y)⟩;obtain ⟨L,rfl,E⟩:=q x g.1;obtain ⟨K,n⟩:=yd2 (X:=X) tr;have B:=J.ok.frames;rw [hst.1] at B;have A:=yac (x:=x) (T:=T) J;rw [hst.1] at A;refine wpAny_noteFrame_onW (base:=hid j X x T) B A hst.2 n yag ysg fun D ⟨z,k,l,w⟩=>?_;rw [<- hst.1] at k;obtain ⟨J,M,c,tr⟩:=zx J g c z k l w;obtain ⟨K,n⟩:=yd2 (s:={ j with heap:=D }) (X:=X) tr;refine wpAny_setFlight_noneW (base:=hid { j with heap:=D } X x M) yag (yac J) n fun N z k l w=>?_;obtain ⟨J,F,c,tr⟩:=zx J g c z k l fun b o e G=>⟨o.slots,w b o e G⟩;exact hh a _ σ' d x F L i J g c tr E
end
section
variable {σ:St} {H:Hp} {nx:St->Hp->Prop} {rt:VK} {bk ct:St->Hp->Prop} {ts:TS}
def yu2 {th:THs} {tb:(St->XK)->TS} (h:tb (exH th ⟨nx,rt,bk,ct⟩) ⟨nx,rt,bk,ct⟩ σ H):vas tb th ⟨nx,rt,bk,ct⟩ σ H:=h
def vbb {K:W.Frag} {Ca:Addr} {tr:THs} {En:Ö} (hex:W.exmOne K (.ref Ca) (.ref D)=some true) (h:ts En σ H):exH (thC K D ts tr) En σ (.ref Ca) none H:=fun _ _=>⟨Ca,rfl,.inl ⟨hex,h⟩⟩
end
structure Dg (K:W.Frag) (x q:Str) (st:Stmt) (f:Addr) (fd:FuncData) (M:Prop):Prop where
 F:Fun K x q st f fd
 m:M
structure Df (K:W.Frag) (x q:Str) (st:Stmt) (ps:List Str) (f:Addr) (fd:FuncData) (M:Prop):Prop where
 F:Fun K x q st f fd
 B:uc K fd ps []
 m:M
def yj0 {α:Type} {n:Nat} {a:List α} (h:a.length=n+1):∃ x r,a=x :: r/\r.length=n:=by
 cases a with
 | nil=>cases h
 | cons x r=>exists x,r,rfl,Nat.succ.inj h
abbrev Dgf (K:W.Frag) (mg:Str->Option Value) (x:Str) (st:Stmt) (f:Addr) (fd:FuncData):Prop:=Dg K x x st f fd (mg x=some (.ref f))
abbrev Dgm (K:W.Frag) (C:Addr) (x q:Str) (st:Stmt) (f:Addr) (fd:FuncData):Prop:=Dg K x q st f fd (yuk K C x f)
abbrev Dff (K:W.Frag) (mg:Str->Option Value) (x:Str) (st:Stmt) (ps:List Str) (f:Addr) (fd:FuncData):Prop:=Df K x x st ps f fd (mg x=some (.ref f))
abbrev Dfm (K:W.Frag) (C:Addr) (x q:Str) (st:Stmt) (ps:List Str) (f:Addr) (fd:FuncData):Prop:=Df K x q st ps f fd (yuk K C x f)
section
variable {K:W.Frag} {mg:Str->Option Value} {h:Heap} {x q:Str} {st:Stmt} {f:Addr} {M:Prop} {oc kV doc pm cdv ct:Value} {od an:Option Addr} {osl:Array (Option Value)}
def dgf_mk (X:K.In h) (G:h.Ns mainGlobals mg) (a:W.nsIn K mainGlobals x=some (some (.ref f))) (l:K.lookup f=some ⟨oc,od,.func (W.fnOf x x (w6 st) (wk st) (yd st) .none kV doc pm an cdv ct),osl⟩)
  (c:W.codeIn K cdv x=true) (k:W.keepIn K (.ref f)=true):Dgf K mg x st f (W.fnOf x x (w6 st) (wk st) (yd st) .none kV doc pm an cdv ct):=⟨yoj l c k,W.mg_of X G a⟩
def dgm_mk (a:W.findIn K (.ref C) x=some (some (.ref f))) (i:W.isFn K (.ref f)=true) (l:K.lookup f=some ⟨oc,od,.func (W.fnOf x q (w6 st) (wk st) (yd st) .none kV doc pm an cdv ct),osl⟩)
  (c:W.codeIn K cdv q=true) (k:W.keepIn K (.ref f)=true):Dgm K C x q st f (W.fnOf x q (w6 st) (wk st) (yd st) .none kV doc pm an cdv ct):=⟨yoj l c k,a,i,k⟩
def Dg.d1 (D:Dg K x q st f fd M) (h:∀ (kV doc pm:Value) (an:Option Addr) (cdv ct:Value) (u0:Value),bindArgs (W.fnOf x q (w6 st) (wk st) (yd st) .none kV doc pm an cdv ct) ⟨[u0],[]⟩=pure [(p0,u0)]):Df K x q st [p0] f fd M :=
 ⟨D.F,D.F.binds fun kV doc pm an cdv ct c a=>(by
  obtain ⟨u0,d,rfl,b⟩:=yj0 a;obtain rfl:=dZ b;exact h kV doc pm an cdv ct u0),D.m⟩
def Dg.d2 (D:Dg K x q st f fd M) (h:∀ (kV doc pm:Value) (an:Option Addr) (cdv ct:Value) (u0 u1:Value),bindArgs (W.fnOf x q (w6 st) (wk st) (yd st) .none kV doc pm an cdv ct) ⟨[u0,u1],[]⟩=pure [(p0,u0),(p1,u1)]):Df K x q st [p0,p1] f fd M :=
 ⟨D.F,D.F.binds fun kV doc pm an cdv ct d c=>(by
  obtain ⟨u0,g,rfl,a⟩:=yj0 c; obtain ⟨u1,e,rfl,b⟩:=yj0 a;obtain rfl:=dZ b;exact h kV doc pm an cdv ct u0 u1),D.m⟩
def Dg.d3 {p2:Str} (D:Dg K x q st f fd M) (h:∀ (kV doc pm:Value) (an:Option Addr) (cdv ct:Value) (u0 u1 u2:Value),bindArgs (W.fnOf x q (w6 st) (wk st) (yd st) .none kV doc pm an cdv ct) ⟨[u0,u1,u2],[]⟩=pure [(p0,u0),(p1,u1),(p2,u2)]):Df K x q st [p0,p1,p2] f fd M :=
 ⟨D.F,D.F.binds fun kV doc pm an cdv ct e d=>(by
  obtain ⟨u0,i,rfl,a⟩:=yj0 d; obtain ⟨u1,g,rfl,b⟩:=yj0 a; obtain ⟨u2,j,rfl,c⟩:=yj0 b;obtain rfl:=dZ c;exact h kV doc pm an cdv ct u0 u1 u2),D.m⟩
def Dg.d4 {p2 p3:Str} (D:Dg K x q st f fd M) (h:∀ (kV doc pm:Value) (an:Option Addr) (cdv ct:Value) (u0 u1 u2 u3:Value),bindArgs (W.fnOf x q (w6 st) (wk st) (yd st) .none kV doc pm an cdv ct) ⟨[u0,u1,u2,u3],[]⟩=pure [(p0,u0),(p1,u1),(p2,u2),(p3,u3)]):Df K x q st [p0,p1,p2,p3] f fd M :=
 ⟨D.F,D.F.binds fun kV doc pm an cdv ct g e=>(by
  obtain ⟨u0,k,rfl,a⟩:=yj0 e; obtain ⟨u1,i,rfl,b⟩:=yj0 a; obtain ⟨u2,l,rfl,c⟩:=yj0 b; obtain ⟨u3,j,rfl,d⟩:=yj0 c;obtain rfl:=dZ d;exact h kV doc pm an cdv ct u0 u1 u2 u3),D.m⟩
end
structure KC (K:W.Frag) (C:Addr):Prop where
 pg:W.plainGet K C Str.empty=true
 hd:W.hasDictIn K C=true
 po:W.plainOver K C=true
 sa:W.findIn K (.ref C) "__setattr__"=some (some (.builtin "object.__setattr__"))
 mk':W.makesIn K C=true
 kc:W.keepIn K (.ref C)=true
def KC.cls {K:W.Frag} (h:KC K C):Cls K C:=⟨h.pg,h.hd,h.po,h.sa⟩
abbrev GV (K:W.Frag) (x:Str) (v:Value):Prop:=W.nsIn K mainGlobals x=some (some v)
abbrev GZ (K:W.Frag) (x:Str):Prop:=W.nsIn K mainGlobals x=some none
abbrev FN (K:W.Frag) (C:Addr) (x:Str):Prop:=W.findIn K (.ref C) x=some none
section
variable {K:W.Frag} {H:Hp} {p dx:Addr} {fs fs':List (Str × V)} {v:V} {nm:Str} {P:V->Prop} {nx:St->Hp->Prop} {σ:St}
abbrev RdX (K:W.Frag) (H:Hp) (p:Addr) (nm:Str) (P:V->Prop):Prop:=∃ a' C dx fs v,V.ref p=.ref a'/\H a'=some (.ins C dx fs)/\Cls K C/\y9 K C nm/\fs.lookup nm=some v/\P v
abbrev StX (K:W.Frag) (H:Hp) (p:Addr) (nm:Str) (v:V) (nx:St->Hp->Prop) (σ:St):Prop:=∃ a' C dx fs,V.ref p=.ref a'/\H a'=some (.ins C dx fs)/\Cls K C/\y9 K C nm/\fs.length < 1000/\vz nx σ (upd H a' (.ins C dx (ji nm v fs)))
abbrev MtX (H:Hp) (p C:Addr) (nm:Str) (R:Prop):Prop:=∃ a dx fs,V.ref p=.ref a/\H a=some (.ins C dx fs)/\fs.lookup nm=none/\R
def rdX (hp:H p=some (.ins C dx fs)) (c:Cls K C) (n:y9 K C nm) (l:fs.lookup nm=some v) (h:P v):RdX K H p nm P:=⟨p,C,dx,fs,v,rfl,hp,c,n,l,h⟩
def stX (hp:H p=some (.ins C dx fs)) (c:Cls K C) (n:y9 K C nm) (l:fs.length < 1000) (e:ji nm v fs=fs') (h:vz nx σ (upd H p (.ins C dx fs'))):StX K H p nm v nx σ:=⟨p,C,dx,fs,rfl,hp,c,n,l,by rw [e]; exact h⟩
def gRd (h:RdX K H p nm P):RdX K H p nm P:=h
def gSt (h:StX K H p nm v nx σ):StX K H p nm v nx σ:=h
def gMt {R:Prop} (h:MtX H p C nm R):MtX H p C nm R:=h
def lt0:([]:List (Str × V)).length < 1000:=by show 0 < 1000; decide
def lt1 {a:Str × V}:[a].length < 1000:=by show 1 < 1000; decide
def lt2 {a b:Str × V}:[a,b].length < 1000:=by show 2 < 1000; decide
def lt3 {a b c:Str × V}:[a,b,c].length < 1000:=by show 3 < 1000; decide
def lt4 {a b c d:Str × V}:[a,b,c,d].length < 1000:=by show 4 < 1000; decide
def lt5 {a b c d e:Str × V}:[a,b,c,d,e].length < 1000:=by show 5 < 1000; decide
def lt6 {a b c d e f:Str × V}:[a,b,c,d,e,f].length < 1000:=by show 6 < 1000; decide
theorem yz1:∀ {fs:List (Str × V)},nm∉fs.map (·.1)->fs.lookup nm=none
 | [],_=>rfl
 | (g,v) :: r,h=>vw (fun e=>h (by rw [e]; exact dm)) (yz1 fun m=>h (dy _ m))
def mtX {R:Prop} {N:List Str} (hp:H p=some (.ins C dx fs)) (k:fs.map (·.1)=N) (n:nm∉N) (h:R):MtX H p C nm R:=⟨p,dx,fs,rfl,hp,yz1 (by rw [k]; exact n),h⟩
def we {N P:List Str} {sc:Scope} (h:(sc.kind=.function/\sc.isCoroutine=false/\sc.isGenerator=false)/\N.Nodup/\N.take P.length=P/\(∀ x∈P,sc.names.lookup x=some .local\/sc.names.lookup x=some .cell)/\∀ y∈sc.names,y.2≠.free):yi N P sc:=⟨h.1.1,h.1.2.1,h.1.2.2,h.2.1,h.2.2.1,h.2.2.2.1,h.2.2.2.2⟩
end
section
variable {prog:Program} {w:World} {A:Around} {s:Shared} {d:Addr} {od:Obj} {es:Array DictEntry}
def yeq {Q:Value->Shared->Prop} (hne:(d == sysModules)=false) (h0:s.heap.get? d=some od) (hx:od.ExactDict)
  (k:Q (.ref s.heap.objs.size) { s with heap:=s.heap.push { cls:=.type "dict_items",data:=.fields #[.ref d] } }):wpAny (model prog w) A (call (.builtin "dict.items") [.ref d]) Q E s:=by
 have a:s.TypeIs (.ref d) "dict":=⟨od,h0,hx.1⟩;refine wpAny_call_entry F.slot_dict_items a F.entry_dict_items ?_ (F.args_dict_items_1 _);unfold Builtin.«dict.items» Builtin.Dict.noArgs;refine bY (bY (wpAny_notOrdered_dict a ?_)); show wpAny _ _ (pure d) _ _ s;refine cD ?_; show wpAny _ _ (Builtin.Dict.showsAll d >>= _) _ _ s;unfold Builtin.Dict.showsAll; rw [if_neg (by rw [hne]; decide)];exact bY (cD (bY (wpAny_newObj_type (cD ⟨_,rfl,k⟩))))
def yex {v:Addr} {Q:Value->Shared->Prop} (hv:s.heap.IsItemsView v d) (h0:s.heap.get? d=some od) (hd:od.data=.dict es ep)
  (k:Q (.ref s.heap.objs.size) { s with heap:=s.heap.push { cls:=.type "dict_itemiterator",data:=.fields #[.none,.bool false,.ref d,.int 0 0,.int es.size 0,.int ep 0,.none,.none] } }):wpAny (model prog w) A (pyIter (.ref v)) Q E s:=by
 obtain ⟨e,a,c,b⟩:=id hv;refine wpAny_pyIter_slot hv.typeIs F.slot_dict_items_iter (wpAny_call_entry F.slot_dict_items_iter hv.typeIs F.entry_dict_items_iter ?_ (F.args_dict_items_iter_1 _));unfold Builtin.«dict_items.__iter__» Builtin.Dict_items.dictOf Builtin.Dict_items.newIterator;refine bY (cD (bY (bY (dD a b (x:=.ref d) rfl (cD (bY (bY (wpAny_dictEntries h0 hd (bY (wpAny_dictEpoch h0 hd ?_)))))))))); simp only [show Builtin.Dict_items.ownsTuple "dict_itemiterator"=true by decide,if_true];refine wpAny_newObj_type (cD ⟨_,rfl,"dict_itemiterator",_,⟨_,cJ _ rfl,rfl⟩,F.slot_dict_itemiterator_next.lookup,?_⟩) (by simp only [sizeOk,Builtin.Dict_items.ownedTupleFields,cL,cF,de,List.length_nil,sizeLine_eq]; omega);simpa [rawInt,Builtin.Dict_items.ownedTupleFields] using k
def yey {ok:Value} (hi:IsItemIter s.heap it d i es.size ep ok ov) (h0:s.heap.get? d=some od) (hd:od.data=.dict es ep) (hlt:i < es.size)
  (k:∀ h',IsItemIterOut h' it d (i+1) es.size ep es[i].key es[i].val s.heap.objs.size->h'.get? s.heap.objs.size=some { cls:=.type "tuple",data:=.seq #[es[i].key,es[i].val] }->(∀ b o,b≠it->s.heap.get? b=some o->h'.get? b=some o)->Q (some (.ref s.heap.objs.size)) { s with heap:=h' }) :
  wpAny (model prog w) A (pyNext (.ref it)) Q E s:=by
 obtain ⟨a,g,m,f,l⟩:=s;have c:Shared.TypeIs ⟨a,g,m,f,l⟩ (.ref it) "dict_itemiterator":=⟨_,hi,rfl⟩;have M:it < a.objs.size:=cH hi;have K:a.objs.size≠it:=Nat.ne_of_gt M;unfold pyNext;refine bY (wpAny_attempt (wpAny_callSpecial?_slot (name:=Str.ofString "__next__") c F.slot_dict_itemiterator_next (wpAny_call_entry F.slot_dict_itemiterator_next c F.entry_dict_itemiterator_next ?_ (F.args_dict_itemiterator_next_1 _))));refine bY (cD (bY (bY ?_)))
 first | refine bY (wpAny_typeNameOfWhole_itemiter c (cD ?_)) | refine bY (wpAny_typeNameOf_itemiter c (cD ?_))
 refine bY (wpAny_fieldsOf hi rfl ?_); simp only [show Builtin.Dict_items.ownsTuple "dict_itemiterator"=true by decide,if_true];show wpAny _ _ (if (Value.ref d == Value.none)=true then _ else _) _ _ _; rw [if_neg (show ¬ (Value.ref d == Value.none)=true from cN)];refine bY (cD (bY (wpAny_dictEntries h0 hd ?_))); rw [if_neg (by simp)];refine bY (cD (bY (wpAny_dictEpoch h0 hd ?_))); rw [if_neg (by simp)];refine cD ?_;simp only [show ¬ ((i:Int) < 0) by omega,if_false,Int.toNat_natCast,Array.getElem?_eq_getElem hlt];refine bY ?_
 first | refine bY (wpAny_typeNameOfWhole_itemiter c (cD ?_)) | refine bY (wpAny_typeNameOf_itemiter c (cD ?_))
 refine bY (wpAny_isOneOf_itemiter c ?_);show wpAny _ _ (setField (.ref it) 3 (rawInt ((i:Int)+1)) >>= _) _ _ ⟨a,g,m,f,l⟩;refine bY (wpAny_setField_rec hi (by simp) fun g1 j h=>?_)
 replace h:Heap.SameBut it a g1:=h
 replace j:IsItemIter g1 it d (i+1) es.size ep ok ov:=by unfold IsItemIter; rw [show ((i+1:Nat):Int)=(i:Int)+1 by omega]; simpa [rawInt] using j
 have y:Shared.TypeIs ⟨g1,g,m,f,l⟩ (.ref it) "dict_itemiterator":=⟨_,j,rfl⟩;refine bY (wpAny_holding (bY (wpAny_isOneOf_itemiter y (bY (wpAny_isOneOf_itemiter y ?_)))));show wpAny _ _ (Builtin.Dict_items.pairFromOwner (.ref it) 6 es[i].key es[i].val) _ _ ⟨g1,g,m,f,l⟩;unfold Builtin.Dict_items.pairFromOwner;refine bY (wpAny_newTuple ?_);have p:IsItemIter (g1.push { cls:=.type "tuple",data:=.seq #[es[i].key,es[i].val] }) it d (i+1) es.size ep ok ov:=cB _ j;generalize u:g1.push { cls:=.type "tuple",data:=.seq #[es[i].key,es[i].val] }=g2 at p;have r:g1.objs.size=a.objs.size:=h.1;have I:g2.get? a.objs.size=some { cls:=.type "tuple",data:=.seq #[es[i].key,es[i].val] }:=by rw [<- u,<- r]; exact cJ _ rfl
 have L:∀ b o,b≠it->a.get? b=some o->g2.get? b=some o:=fun b o J e=>by rw [<- u]; exact cB _ (h.extBut b o J e)
 show wpAny _ _ (Builtin.Dict_items.ownedTupleIsFree (.ref it) >>= _) _ _ ⟨g2,g,m,f,l⟩; rw [r];clear u j h y r g1;unfold Builtin.Dict_items.ownedTupleIsFree;refine bY (bY (dD p rfl (x:=.none) rfl (cD ?_))); simp only [if_true];refine bY (dD p rfl (x:=ok) rfl (bY (dD p rfl (x:=ov) rfl ?_)));refine bY (wpAny_setField_rec p (by simp) fun g3 B v=>?_)
 replace v:Heap.SameBut it g2 g3:=v
 replace B:IsItemIter g3 it d (i+1) es.size ep es[i].key ov:=B
 refine bY (wpAny_setField_rec B (by simp) fun g4 C t=>?_)
 replace t:Heap.SameBut it g3 g4:=t
 replace C:IsItemIter g4 it d (i+1) es.size ep es[i].key es[i].val:=C
 refine bY (wpAny_setField_rec C (by simp) fun g5 D q=>?_)
 replace q:Heap.SameBut it g4 g5:=q
 replace D:IsItemIterOut g5 it d (i+1) es.size ep es[i].key es[i].val a.objs.size:=D
 refine bY (wpAny_setField_rec D (by simp) fun g6 G z=>?_)
 replace z:Heap.SameBut it g5 g6:=z
 replace G:IsItemIterOut g6 it d (i+1) es.size ep es[i].key es[i].val a.objs.size:=G
 have H:∀ b o,b≠it->g2.get? b=some o->g6.get? b=some o:=fun b o n e=>z.extBut b o n (q.extBut b o n (t.extBut b o n (v.extBut b o n e)));exact bY (wpAny_letGo (cD (cD ⟨_,rfl,cD (k g6 G (H _ _ K I) fun b o n e=>H b o n (L b o n e))⟩)))
def ygm {ok:Value} (hh:A.handled=none) (hi:IsItemIter s.heap it d i es.size ep ok ov) (h0:s.heap.get? d=some od) (hd:od.data=.dict es ep) (hge:es.size <= i)
  (k:∀ h',Heap.ExtBut it s.heap h'->Q none { s with heap:=h' }):wpAny (model prog w) A (pyNext (.ref it)) Q E s:=by
 have c:s.TypeIs (.ref it) "dict_itemiterator":=⟨_,hi,rfl⟩;unfold pyNext;refine bY (wpAny_attempt (wpAny_callSpecial?_slot (name:=Str.ofString "__next__") c F.slot_dict_itemiterator_next (wpAny_call_entry F.slot_dict_itemiterator_next c F.entry_dict_itemiterator_next ?_ (F.args_dict_itemiterator_next_1 _))));refine bY (cD (bY (bY ?_)))
 first | refine bY (wpAny_typeNameOfWhole_itemiter c (cD ?_)) | refine bY (wpAny_typeNameOf_itemiter c (cD ?_))
 refine bY (wpAny_fieldsOf hi rfl ?_); simp only [show Builtin.Dict_items.ownsTuple "dict_itemiterator"=true by decide,if_true];show wpAny _ _ (if (Value.ref d == Value.none)=true then _ else _) _ _ s; rw [if_neg (show ¬ (Value.ref d == Value.none)=true from cN)];refine bY (cD (bY (wpAny_dictEntries h0 hd ?_))); rw [if_neg (by simp)];refine bY (cD (bY (wpAny_dictEpoch h0 hd ?_))); rw [if_neg (by simp)];refine cD ?_;simp only [show ¬ ((i:Int) < 0) by omega,if_false,Int.toNat_natCast,Array.getElem?_eq_none hge];refine bY ?_
 first | refine bY (wpAny_typeNameOfWhole_itemiter c (cD ?_)) | refine bY (wpAny_typeNameOf_itemiter c (cD ?_))
 show wpAny _ _ (setField (.ref it) 2 .none >>= _) _ _ s; refine bY (wpAny_setField hi rfl (by simp) ?_);show wpAny _ _ (newExc (.type "StopIteration") [] >>= _) _ _ _; refine bY ?_;simp only [newExc,newTuple]; refine bY (wpAny_newObj_type ?_ (by size_fits))
 refine bY (m:=firstArgMember _ _) (wpAny_of_eq (a:=Value.none) (by first | rfl | (simp only [firstArgMember]; rfl)) (wpAny_newObj_type ?_ (by size_fits)))
 simp only [raiseNew]; refine bY (wpAny_handled ?_);rw [show A.in1.handled=none from hh]; refine bY (cD (wpAny_throw ?_));exact bY (wpAny_isInstance (T:="StopIteration") (b:=true) ⟨_,cJ _ rfl,rfl⟩ isSubtype_stop (cD (k _ (((Heap.SameBut.update ..).extBut.push _).push _))))
def ye2 {n:Nat} {ok:Value} {Q:Value->Shared->Prop} (hi:IsItemIter s.heap it d i n ep ok ov) (k:Q (.ref it) s):wpAny (model prog w) A (pyIter (.ref it)) Q E s:=by
 have a:s.TypeIs (.ref it) "dict_itemiterator":=⟨_,hi,rfl⟩;refine wpAny_pyIter_slot a F.slot_dict_itemiterator_iter (wpAny_call_entry F.slot_dict_itemiterator_iter a (show entryFor table "dict_itemiterator.__iter__"=some Builtin.«dict_keyiterator.__iter__» from entryFor_alias (id':="dict_keyiterator.__iter__") (by kernel_rfl) rfl (by decide +kernel) (by kernel_rfl)) ?_ (F.args_dict_itemiterator_iter_1 _)); show wpAny _ _ (ret (.ref it)) _ _ s;exact cD ⟨_,rfl,"dict_itemiterator",_,a,F.slot_dict_itemiterator_next.lookup,k⟩
end
def Inv.freeze {X:Cx} {σ:St} {H:Hp} {s:Shared} {d:Addr} {u:HO} {o:Obj} (I:Inv X pins σ H s) (hd:H d=some u) (mu:Mut (some u)) (ho:s.heap.get? d=some o):Inv X pins σ (upd H d (.frz o u)) s:=by
 have h:∀ {b},H b=none->b≠d:=fun n z=>by rw [z,hd] at n; cases n
 have f:∀ {b v},H b=some v->¬ Mut (some v)->b≠d:=fun e n z=>by rw [z,hd] at e; cases e; exact n mu
 exists I.ok,I.os,I.bare,⟨I.base.keep,I.base.slot,fun b i e n A=>?_,I.base.there,fun b r e=>?_,fun b i v e=>?_,fun b w e=>?_⟩,I.loc,I.cell,?_,fun x c e=>?_,fun p l=>?_,fun b v e=>?_,I.len
 .have z:=I.base.free b i e n A; rw [yk (h z)]; exact z
 .have z:=I.base.tups b r e; rw [yk (f z id)]; exact z
 .have z:=I.base.frzs b i v e; rw [yk (f z id)]; exact z
 .obtain ⟨m,z⟩:=I.base.tbls b w e; exists m,by rw [yk (f z id)]; exact z
 .rw [yk (h I.free)]; exact I.free
 .rw [yk (h (I.freeC x c e))]; exact I.freeC x c e
 .obtain ⟨t,j,k⟩:=I.pin p l; exists t,by rw [yk (h j)]; exact j,k
 .have g:∀ {c y},H c=some (.own y)->upd H d (.frz o u) c=some (.own y):=fun q=>by rw [yk (f q id)]; exact q
  have a:∀ {c y},H c=some (.tup y)->upd H d (.frz o u) c=some (.tup y):=fun q=>by rw [yk (f q id)]; exact q
  by_cases hb:b=d
  .subst hb; rw [ya] at e; cases e; exists ho,(I.hok b _ hd).stay (fun _ _ _ q=>q) (fun _ q=>g q) fun _ _ q=>a q
  .rw [yk hb] at e; exact (I.hok b v e).stay (fun _ _ _ q=>q) (fun _ q=>g q) fun _ _ q=>a q
def Inv.thaw {X:Cx} {σ:St} {H:Hp} {s:Shared} {d:Addr} {u:HO} {o:Obj} (I:Inv X pins σ H s) (h0:∀ o u,X.H₀ d≠some (.frz o u)) (hd:H d=some (.frz o u)):Inv X pins σ (upd H d u) s:=by
 have g:∀ {b},H b=none->b≠d:=fun n z=>by rw [z,hd] at n; cases n
 exists I.ok,I.os,I.bare,⟨I.base.keep,I.base.slot,fun b h e n A=>?_,I.base.there,fun b l e=>?_,fun b h u e=>?_,fun b t e=>?_⟩,I.loc,I.cell,?_,fun x c e=>?_,fun p k=>?_,fun b v e=>?_,I.len
 .have z:=I.base.free b h e n A; rw [yk (g z)]; exact z
 .have z:=I.base.tups b l e; rw [yk (ww z hd (by intro w; cases w))]; exact z
 .rw [yk (fun z=>h0 h u (by rw [<- z]; exact e))]; exact I.base.frzs b h u e
 .obtain ⟨m,z⟩:=I.base.tbls b t e; exists m,by rw [yk (ww z hd (by intro w; cases w))]; exact z
 .rw [yk (g I.free)]; exact I.free
 .rw [yk (g (I.freeC x c e))]; exact I.freeC x c e
 .obtain ⟨r,i,j⟩:=I.pin p k; exists r,by rw [yk (g i)]; exact i,j
 .have f:∀ {c y},H c=some (.own y)->upd H d u c=some (.own y):=fun q=>by rw [yk (ww q hd (by intro w; cases w))]; exact q
  have a:∀ {c y},H c=some (.tup y)->upd H d u c=some (.tup y):=fun q=>by rw [yk (ww q hd (by intro w; cases w))]; exact q
  by_cases hb:b=d
  .subst hb; rw [ya] at e; cases e; exact (I.hok b _ hd).2.stay (fun _ _ _ q=>q) (fun _ q=>f q) fun _ _ q=>a q
  .rw [yk hb] at e; exact (I.hok b v e).stay (fun _ _ _ q=>q) (fun _ q=>f q) fun _ _ q=>a q
def Iti (o:Obj) (d:Addr) (kvs:List (List Key × V)):It :=
 ⟨fun i H=>H d=some (.frz o (.dT kvs))/\i < kvs.length,
  fun i H x H'=>∃ t kt key v,x=.ref t/\H t=none/\H'=upd H t (.tup [.ref kt,v])/\kvs[i]?=some (key,v)/\H kt=some (.tup (key.map kV)),
  fun i H=>H d=some (.frz o (.dT kvs))/\kvs.length <= i⟩
theorem xk {α β:Type} {F:α->β->Prop}:∀ {l₁:List α} {l₂:List β},Paired F l₁ l₂->l₁.length=l₂.length
 | _,_,.nil=>rfl
 | _,_,.cons _ t=>congrArg (·+1) (xk t)
def Ů {α β:Type} {F:α->β->Prop} {l₁:List α} {l₂:List β} (h:Paired F l₁ l₂):∀ {i:Nat} {y:β},l₂[i]?=some y->∃ x,l₁[i]?=some x/\F x y:=by
 induction h with
 | nil=>intro i y e; cases e
 | cons r t ih =>
  intro i y e
  cases i with
  | zero=>cases e; exists _,rfl,r
  | succ j=>exact ih e
def yfa {w:World} {K:W.Frag} {elts:List Expr} {x1} {tpos:Pos} {o:Obj} {es:Array DictEntry} {kvs:List (List Key × V)} (d it:Addr) (ho:o.data=.dict es ep) (hs:es.size=kvs.length) :
  yd9 P w K (.Tuple elts x1 tpos) (Iti o d kvs) [it] it (fun i h=>∃ ok ov,IsItemIter h it d i es.size ep ok ov) where
 mem:=by simp
 obj:=fun i h l b a=>by
  have e:b=it:=by simpa using a
  subst e;obtain ⟨_,_,e⟩:=l;exists _,e,fun v z=>by cases z
 keep:=fun i h h' ⟨ok,ov,l⟩ k=>⟨ok,ov,k it (by simp) _ l⟩
 item:=by
  intro X hP Q Y hc i p s σ H E I B ⟨ok,ov,l⟩ ⟨U,g⟩;subst hP Q Y;obtain ⟨L,f1,f2,f3,f4,f5⟩:=B it (by simp);obtain ⟨N,_,_,M,t,o',a0,a4,F,_,C,O,_⟩:=(show wq X.prog X.w H s.heap d (.frz o (.dT kvs)) from I.hok d _ U);rw [N] at F; cases F; rw [ho] at C; cases C;have hl:i < es.size:=by omega
  have he:es[i]=entryOfKey (tupleKind (vq X.prog X.w)) (M[i]'(by rw [<- (xk t)]; exact g)):=by
   have e1:es.toList[i]?=some es[i]:=by simp [hl]
   rw [O,cG,cC (by rw [<- (xk t)]; exact g)] at e1;exact (cS e1).symm
  obtain ⟨⟨A,v⟩,R,k1,Z,k3⟩:=Ů t (cC (by rw [<- (xk t)]; exact g));have m:es[i].key=.ref (M[i]'(by rw [<- (xk t)]; exact g)).2.1:=by rw [he]; rfl
  have D:es[i].val=(M[i]'(by rw [<- (xk t)]; exact g)).2.2:=by rw [he]; rfl
  rw [<- D] at k3;generalize (M[i]'(by rw [<- (xk t)]; exact g)).2.1=y at m Z;refine yey l N ho hl fun h' a1 a2 hk=>⟨_,rfl,wpAny_letOwnedTupleGo_items a1 fun x b1 b2=>?_⟩;rw [m] at a2;have j:H s.heap.objs.size=none:=I.hok.fresh (cE _);have lI:it < s.heap.objs.size:=cH l;have keep:∀ b o,b≠it->s.heap.get? b=some o->x.get? b=some o:=fun b o n e=>(b2.2 b n).trans (hk b o n e);have G:x.get? s.heap.objs.size=some { cls:=.type "tuple",data:=.seq #[.ref y,es[i].val] }:=(b2.2 _ (Nat.ne_of_gt lI)).trans a2
  have S:HOk X.prog X.w (upd H s.heap.objs.size (.tup [.ref y,v])) x:=fun b u e=>by
   by_cases a:b=s.heap.objs.size
   .subst a;rw [ya] at e;cases e;exists by show 2 <= sizeLine; decide,[.ref y,es[i].val],.cons rfl (.cons k3 .nil),⟨_,G,rfl,_,rfl⟩
   .rw [yk a] at e;refine (I.hok b u e).stay (fun c z r q=>keep c z ?_ q) (fun c q=>by rw [yk (yb q j)]; exact q) fun c ys q=>by rw [yk (yb q j)]; exact q
    rcases r with rfl | r
    .exact yb e L
    .exact yb r L
  have un:Un (frs X.stack) [it] H (upd H s.heap.objs.size (.tup [.ref y,v])) s.heap x:=by
   have T:∀ {b z},b∉[it]->s.heap.get? b=some z->x.get? b=some z:=fun {b z} a e=>keep b z (fun q=>a (by simp [q])) e;exists fun b z e n _ J=>T J e,fun b z e n _ J=>⟨z.slots,T J e⟩,fun b z e n _=>by rw [yk (cU (cH e))]; exact n,fun b z e J=>⟨z,T J e⟩,fun b ys e=>by rw [yk (yb e j)]; exact e,fun b z u e=>by rw [yk (yb e j)]; exact e,fun b ps e=>⟨#[],by rw [yk (yb e j),e]; simp⟩
  have I1:Inv X p σ (upd H s.heap.objs.size (.tup [.ref y,v])) { s with heap:=x }:=I.call' (s':={ s with heap:=x }) rfl un S I.bare fun b a=>by
   have f:=B b a;exact ⟨f.2.2.2.1,f.2.1,f.2.2.2.2.1,f.2.2.2.2.2⟩
  exists .ref s.heap.objs.size,_,I1,rfl,⟨_,y,A,v,rfl,j,rfl,R,by rw [show A=_ from k1] at Z ⊢; exact Z⟩,⟨_,_,b1⟩,fun b a=>?_;rw [yk (fun q=>?_)]
  .exact (B b a).1
  .have e:b=it:=by simpa using a
   rw [e] at q;exact absurd q (cU lI)
 done:=by
  intro X hP Q Y hc i p s σ H E I B ⟨ok,ov,l⟩ ⟨U,a3⟩;subst hP Q Y;obtain ⟨L,f1,f2,f3,f4,f5⟩:=B it (by simp);obtain ⟨N,_⟩:=(show wq X.prog X.w H s.heap d (.frz o (.dT kvs)) from I.hok d _ U);exact ygm (I.ok.hd hc) l N ho (by omega) fun h' eb=>⟨rfl,I.turned (t':=s.toks) (fun b o a e=>eb b o a e) L f1 f3 f4 f5⟩
 self:=fun _ _ _ _ _ ⟨_,_,l⟩ h=>ye2 l h
section
variable {X:Cx}
def yor (to:TE):TI:=fun σ H R=>to σ H fun x H1=>∃ d kvs,x=.ref d/\H1 d=some (.dT kvs)/\∀ o,R (Iti o d kvs) (upd H1 d (.frz o (.dT kvs)))
def yly {elts:List Expr} {x1} {tpos:Pos} {o:Expr} {to:TE} {apos cpos:Pos} (ho:PE X o to) (hbase:attributeBase o "items" X.env (eval o X.env)=eval o X.env:=by rfl) (hline:(apos.endLine == cpos.line)=true:=by rfl) :
  PI X (.Tuple elts x1 tpos) (.Call (.Attribute o "items" apos) [] [] cpos) (yor to):=by
 intro i s σ H R I h;refine wpAny_Call_method0_late hbase hline (thn (ho i s σ H _ I h) fun v j h'=>?_);obtain ⟨x,D,t,B,E⟩:=h';obtain ⟨d,g,rfl,u,q⟩:=E;cases B;obtain ⟨_,m,K,G,p,y,J,f,l,r,z,_⟩:=(show wq X.prog X.w D j.heap d (.dT g) from t.hok d _ u);refine ⟨"dict","dict.items",F.plainAttrs_dict,F.slot_dict_items,F.type_dict_items,⟨p,f,l.1⟩,fun a C=>by cases C; exact ⟨p,f,l.2.1⟩,Calls.callWith_builtin rfl (PySem.evalArgs_none (yeq m f l ?_))⟩;refine yex ⟨_,cJ _ rfl,rfl,rfl⟩ (cB _ f) r ?_;have n:=t.freeze u trivial f;have k:y.size=g.length:=by rw [(xk G),<- dC,z,cA]
 exists _,[_],_,_,_,rfl,n.kept (t':=j.toks) fun b o e=>cB _ (cB _ e),yfa d _ r k,⟨_,_,cJ _ rfl⟩,fun b A=>?_,q p;have e:b=(j.heap.push { cls:=.type "dict_items",data:=.fields #[.ref d] }).objs.size:=by simpa using A
 have c:j.heap.objs.size <= b:=by rw [e,Heap.size_push]; omega
 exact n.fpOk c (n.hok.fresh c)
def ylt {to:TE} {σ:St} {H:Hp} {R:It->Hp->Prop} (h:to σ H fun x H1=>∃ d kvs,x=.ref d/\H1 d=some (.dT kvs)/\∀ o,R (Iti o d kvs) (upd H1 d (.frz o (.dT kvs)))):yor to σ H R:=h
def vaq (H:Hp) (D:Ö):Ö:={ D with nx:=fun σ' H'=>∃ d o u,(∀ o u,H d≠some (.frz o u))/\H' d=some (.frz o u)/\D.nx σ' (upd H' d u) }
def yz3 (t:TS):TS:=fun D σ H=>t (vaq H D) σ H
def ybv {st:Stmt} {t:TS} (h:PS X st t):PS X st (yz3 t):=by
 refine .mk fun a s σ H D I q=>?_;refine thn (h a s σ H _ I q) fun f j z=>?_
 cases f with
 | next =>
  obtain ⟨σ',i,J,d,o,b,g,c,k⟩:=z;exists σ',_,J.thaw (fun o u e=>g o u (I.base.frzs d o u e)) c,k
 | brk=>exact z
 | cont=>exact z
 | ret u=>exact z
def yxw {t:TS} {D:Ö} {σ:St} {H:Hp} (h:t (vaq H D) σ H):yz3 t D σ H:=h
end
def yf7 {o:Obj} {d:Addr} {kvs:List (List Key × V)} {g:TG} {tb:TS} {D:Ö} {σ:St} {H:Hp} (Pv:Nat->St->Hp->Prop) (h0:Pv 0 σ H) (hl:∀ i σ H,i <= kvs.length->Pv i σ H->H d=some (.frz o (.dT kvs)))
  (hs:∀ i key v σ H t kt,kvs[i]?=some (key,v)->Pv i σ H->H t=none->H kt=some (.tup (key.map kV))->g (.ref t) σ (upd H t (.tup [.ref kt,v])) fun σ2 H2=>tb { D with nx:=Pv (i+1),ct:=Pv (i+1),bk:=D.nx } σ2 H2) (hd:∀ σ H,Pv kvs.length σ H->D.nx σ H) :
  ∃ W:Nat->Nat->St->Hp->Prop,(∃ m,W 0 m σ H)/\∀ i m σ H,W i m σ H ->
   ((Iti o d kvs).stop i H/\D.nx σ H)\/((Iti o d kvs).go i H/\∃ N:St->Hp->Prop,(∀ σ' H',N σ' H'->∃ m',m' < m/\W (i+1) m' σ' H')/\∀ x H',(Iti o d kvs).yld i H x H'->g x σ H' fun σ2 H2=>tb { D with nx:=N,ct:=N,bk:=D.nx } σ2 H2):=by
 exists fun i m σ H=>m=kvs.length - i/\i <= kvs.length/\Pv i σ H,⟨kvs.length,by simp,cV _,h0⟩,?_;rintro i m σ H ⟨rfl,f,p⟩;have q:=hl i σ H f p;by_cases hlt:i < kvs.length
 .refine .inr ⟨⟨q,hlt⟩,Pv (i+1),fun σ' H' h=>⟨kvs.length - (i+1),by omega,rfl,hlt,h⟩,fun x H' y=>?_⟩;obtain ⟨t,kt,key,v,rfl,c,rfl,a,b⟩:=y;exact hs i key v σ H t kt a p c b
 .have e:i=kvs.length:=by omega
  subst e;exact .inl ⟨⟨q,cE _⟩,hd σ H p⟩
def Its (x:Str):It:=⟨fun i _=>i < x.cps.size,fun i H v H'=>H'=H/\∃ c,x.cps[i]?=some c/\v=.str ⟨#[c]⟩,fun i _=>i=x.cps.size⟩
def ycv {w:World} {K:W.Frag} {ty:String} (x:Str) (t:Tok) (it:Addr) (hn:["enumerate","zip","dict_itemiterator","dict_reverseitemiterator","odict_iterator","itertools.zip_longest","itertools.pairwise"].contains ty=false)
  (W:∀ A:Around,A.handled=none->Walks P w A it [it] [it] x.cps.size (SignAt x) (fun i h=>h.IsStrIter it ty x t i)) (hs:∀ (A:Around) (i:Nat) (s:Shared) (Q E:Value->Shared->Prop),s.heap.IsStrIter it ty x t i->Q (.ref it) s->wpAny (model P w) A (pyIter (.ref it)) Q E s):yd9 P w K tg (Its x) [it] it (fun i h=>h.IsStrIter it ty x t i) where
 mem:=by simp
 obj:=fun i h a b g=>by
  have e:b=it:=by simpa using g
  subst e;obtain ⟨o,e,_,d⟩:=a;exists o,e,fun v z=>by rw [d] at z; cases z
 keep:=fun i h m a k=>let ⟨o,e,r⟩:=a; ⟨o,k it (by simp) o e,r⟩
 item:=by
  intro X M B J y i f s σ H E I n a j;subst M B J;obtain ⟨D,C,T,q,L,F⟩:=n it (by simp);refine (W X.A (I.ok.hd y)).item i s _ _ j a fun v m p R l G=>?_;obtain ⟨c,u,U,rfl⟩:=R;have S:Inv X f σ H { s with heap:=m,toks:=p }:=I.turned (fun b o g e=>G b o (by simpa using g) e) D C q L F;obtain ⟨o,e,O,N⟩:=id l;exists _,rfl,yfn (s:={ s with heap:=m,toks:=p }) e O N hn ⟨.str ⟨#[c]⟩,H,S,⟨u,rfl⟩,⟨rfl,c,U,rfl⟩,l,fun b g=>(n b g).1⟩
 done:=by
  intro X M B J y i f s σ H E I n a j;subst M B J;have j:i=x.cps.size:=j;subst j;obtain ⟨D,C,T,q,L,F⟩:=n it (by simp);exact (W X.A (I.ok.hd y)).done s _ _ a fun m p G=>⟨rfl,I.turned (fun b o g e=>G b o (by simpa using g) e) D C q L F⟩
 self:=fun A i s Q E a h=>hs A i s Q E a h
section
variable {X:Cx}
def vdu (tl:TE):TI:=fun σ H R=>tl σ H fun v H1=>∃ x,v=.str x/\R (Its x) H1
def yyt {l:Expr} {tl:TE} (hl:PE X l tl):PI X tg l (vdu tl):=by
 intro a s σ H R I h;refine thn (hl a s σ H _ I h) fun v c h'=>?_;obtain ⟨y,j,f,k,x,e,q⟩:=h';subst e;obtain ⟨t,rfl⟩:=k
 have d:∀ {ob:Obj},∀ b∈[c.heap.objs.size],yay X a j b:=fun {_} b m=>by
  have e:b=c.heap.objs.size:=by simpa using m
  subst e;exact f.fpOk (cE _) (f.hok.fresh (cE _))
 cases ha:x.cps.all (· < 128)
 .refine wpAny_pyIter_wide ha ?_;exists c.heap.objs.size,[c.heap.objs.size],_,_,j,rfl,f.kept (t':=c.toks) fun b o e=>cB _ e,ycv x t _ (by decide) (fun A g=>Walks.strWide g _ x t) (fun _ _ _ _ _ i h=>wpAny_pyIter_striter_wide i h),⟨_,cJ _ rfl,rfl,rfl⟩,d (ob:=default),q
 .refine wpAny_pyIter_ascii ha ?_;exists c.heap.objs.size,[c.heap.objs.size],_,_,j,rfl,f.kept (t':=c.toks) fun b o e=>cB _ e,ycv x t _ (by decide) (fun A g=>Walks.strAscii g _ x t) (fun _ _ _ _ _ i h=>wpAny_pyIter_striter_ascii i h),⟨_,cJ _ rfl,rfl,rfl⟩,d (ob:=default),q
def yv4 {tl:TE} {σ:St} {H:Hp} {R:It->Hp->Prop} (h:tl σ H fun v H1=>∃ x,v=.str x/\R (Its x) H1):vdu tl σ H R:=h
def ypx {x:Str} {k:Str} {t:Tok} {pos:Pos} (hg:Gl X x) (hm:X.mg x=some (.str k t)) (hd:(x == ("__debug__":Str))=false:=by decide):PE X (.Name x pos) (tC (.str k)):=yby hg hm ⟨t,rfl⟩ hd
end
def yhn {x:Str} {te:TE} {R:Hp->Prop} {H1:Hp} (f:Nat->V) (hD:H1 D=none)
  (hs:∀ i c H,x.cps[i]?=some c->i < x.cps.size->yv H1 H->H D=some (.lst ((List.range i).map f))->te [some (.str ⟨#[c]⟩)] H (MpK H1 D f x.cps.size i)) (hd:∀ H,yv H1 H->H D=some (.lst ((List.range x.cps.size).map f))->R H):ydn (Its x) te D R H1:=by
 exists cW x.cps.size (Mp H1 D f),⟨x.cps.size,by simp,cV _,Mp.zero hD⟩,?_;rintro i m H ⟨rfl,d,p⟩;by_cases hlt:i < x.cps.size
 .refine .inr ⟨hlt,fun v b y=>?_⟩;obtain ⟨rfl,c,a,rfl⟩:=y;exact hs i c _ a hlt p.1 p.2
 .have e:i=x.cps.size:=by omega
  subst e;exact .inl ⟨rfl,hd H p.1 p.2⟩
def Itk (o:Obj) (d:Addr) (kvs:List (Key × V)):It :=
 ⟨fun i H=>H d=some (.frz o (.dK kvs))/\i < kvs.length,fun i H x H'=>H'=H/\∃ k v,kvs[i]?=some (k,v)/\x=kV k,fun i H=>H d=some (.frz o (.dK kvs))/\kvs.length <= i⟩
def Itv (o:Obj) (d:Addr) (kvs:List (Key × V)):It :=
 ⟨fun i H=>H d=some (.frz o (.dK kvs))/\i < kvs.length,fun i H x H'=>H'=H/\∃ k,kvs[i]?=some (k,x),fun i H=>H d=some (.frz o (.dK kvs))/\kvs.length <= i⟩
def yz0 {w:World} {k:Key} {u:Value} (r:(vq P w).is k u=true):xb (kV k) u:=by
 rcases wt r with ⟨i,t,rfl,rfl⟩ | ⟨x,t,rfl,rfl⟩ <;> exact ⟨t,rfl⟩
def KV.get {kvs:List (Key × V)} {vs:List (Key × Value)} (r:KV kvs vs) {k:Key} {u:Value} (h:vs[i]?=some (k,u)):∃ v,kvs[i]?=some (k,v)/\xb v u:=by
 obtain ⟨⟨c,v⟩,e,a,b⟩:=Ů r h;have a:c=k:=a;exists v,by rw [e,a],b
theorem ybu:∀ {xs:List V} {us:List Value},xs.length=us.length->(∀ (i:Nat) u,us[i]?=some u->∃ x,xs[i]?=some x/\xb x u)->wg xs us
 | [],[],_,_=>.nil
 | x :: xs,u :: us,hl,h=>by
  obtain ⟨y,e,r⟩:=h 0 u rfl;cases e;exact .cons r (ybu (Nat.succ.inj hl) fun i u a=>h (i+1) u a)
def ydr {X:Cx} {σ:St} {H:Hp} {s:Shared} {d:Addr} {kvs:List (Key × V)} {o:Obj} {es:Array DictEntry} (I:Inv X pins σ H s) (hd:H d=some (.frz o (.dK kvs))) (ho:o.data=.dict es ep):∃ vs,KV kvs vs/\s.heap.DictAt (vq X.prog X.w) d vs ep:=by
 obtain ⟨b,_,_,vs,r,i,e,h,c,g,a,f⟩:=(show wq X.prog X.w H s.heap d (.frz o (.dK kvs)) from I.hok d _ hd);rw [b] at c;cases c;rw [ho] at a;cases a;exists vs,r,o,es,b,g,ho,f
def yhe {w:World} {K:W.Frag} {o:Obj} {es:Array DictEntry} {kvs:List (Key × V)} (d it:Addr) (hne:d≠it) (ho:o.data=.dict es ep):yd9 P w K tg (Itk o d kvs) [it] it (fun i h=>h.IsKeyIter it d i kvs.length ep) where
 mem:=by simp
 obj:=fun i h a b f=>by
  have e:b=it:=by simpa using f
  subst e;obtain ⟨o,e,_,d⟩:=a;exists o,e,fun v z=>by rw [d] at z; cases z
 keep:=fun i h j a k=>a.at fun o e=>k it (by simp) o e
 item:=by
  intro X J q F p i c s σ H E I l a ⟨D,S⟩;subst J q F;obtain ⟨u,t,f2,n,G,C⟩:=l it (by simp);obtain ⟨M,r,B⟩:=ydr I D ho;have m:=r.length;have W:=Walks.dictKeys (knd:=vq X.prog X.w) (prog:=X.prog) (w:=X.w) (A:=X.A) (I.ok.hd p) it d hne M ep;refine W.item i s _ _ (by omega) ⟨by rw [<- m]; exact a,B⟩ fun v j L Q g Z=>?_;obtain ⟨k,x,hx,hk⟩:=Q;obtain ⟨y,O,_⟩:=r.get hx;have T:Inv X c σ H { s with heap:=j,toks:=L }:=I.turned (fun b o f e=>Z b o (by simpa using f) e) u t n G C;obtain ⟨o',e',N,U⟩:=id g.1;exists _,rfl,yfn (s:={ s with heap:=j,toks:=L }) e' N U (by decide) ⟨kV k,H,T,yz0 hk,⟨rfl,k,y,O,rfl⟩,by rw [m]; exact g.1,fun b f=>(l b f).1⟩
 done:=by
  intro X J q F p i c s σ H E I l a ⟨D,Y⟩;subst J q F;obtain ⟨u,t,f2,n,G,C⟩:=l it (by simp);obtain ⟨M,r,B⟩:=ydr I D ho;have m:=r.length;exact wpAny_pyNext_dict_end (I.ok.hd p) (by rw [<- m]; exact a) B (by rw [List.getElem?_eq_none_iff]; omega) fun j R=>⟨rfl,I.turned (t':=s.toks) (fun b o f e=>R b o f e) u t n G C⟩
 self:=fun _ _ _ _ _ a h=>wpAny_pyIter_keyiter a h
def ygg {w:World} {K:W.Frag} {o:Obj} {es:Array DictEntry} {kvs:List (Key × V)} (d it:Addr) (hne:d≠it) (ho:o.data=.dict es ep):yd9 P w K tg (Itv o d kvs) [it] it (fun i h=>h.IsValIter it d i kvs.length ep) where
 mem:=by simp
 obj:=fun i h a b f=>by
  have e:b=it:=by simpa using f
  subst e;obtain ⟨o,e,_,d⟩:=a;exists o,e,fun v z=>by rw [d] at z; cases z
 keep:=fun i h j a k=>a.at fun o e=>k it (by simp) o e
 item:=by
  intro X G q D p i c s σ H E I l a ⟨C,S⟩;subst G q D;obtain ⟨u,t,f2,n,F,B⟩:=l it (by simp);obtain ⟨L,r,x⟩:=ydr I C ho;have m:=r.length;have W:=Walks.dictValues (knd:=vq X.prog X.w) (prog:=X.prog) (w:=X.w) (A:=X.A) (I.ok.hd p) it d hne L ep;refine W.item i s _ _ (by omega) ⟨by rw [<- m]; exact a,x⟩ fun v j J O g Z=>?_;obtain ⟨k,hx⟩:=O;obtain ⟨y,N,Q⟩:=r.get hx;have T:Inv X c σ H { s with heap:=j,toks:=J }:=I.turned (fun b o f e=>Z b o (by simpa using f) e) u t n F B;obtain ⟨o',e',M,U⟩:=id g.1;exists _,rfl,yfn (s:={ s with heap:=j,toks:=J }) e' M U (by decide) ⟨y,H,T,Q,⟨rfl,k,N⟩,by rw [m]; exact g.1,fun b f=>(l b f).1⟩
 done:=by
  intro X G q D p i c s σ H E I l a ⟨C,Y⟩;subst G q D;obtain ⟨u,t,f2,n,F,B⟩:=l it (by simp);obtain ⟨L,r,x⟩:=ydr I C ho;have m:=r.length;exact wpAny_pyNext_values_end (I.ok.hd p) (by rw [<- m]; exact a) x (by rw [List.getElem?_eq_none_iff]; omega) fun j R=>⟨rfl,I.turned (t':=s.toks) (fun b o f e=>R b o f e) u t n F B⟩
 self:=fun _ _ _ _ _ a h=>wpAny_pyIter_valiter a h
section
variable {X:Cx}
def yz9 (to:TE):TI:=fun σ H R=>to σ H fun x H1=>∃ d kvs,x=.ref d/\H1 d=some (.dK kvs)/\∀ o,R (Itk o d kvs) (upd H1 d (.frz o (.dK kvs)))
def vag (to:TE):TI:=fun σ H R=>to σ H fun x H1=>∃ d kvs,x=.ref d/\H1 d=some (.dK kvs)/\∀ o,R (Itv o d kvs) (upd H1 d (.frz o (.dK kvs)))
def yb1 {l:Expr} {to:TE} (hl:PE X l to):PI X tg l (yz9 to):=by
 intro c s σ H R I h;refine thn (hl c s σ H _ I h) fun v a h'=>?_;obtain ⟨x,E,m,z,d,j,e,n,q⟩:=h';subst e;cases z;obtain ⟨_,g,B,r,p,t,A,f,y,k,D⟩:=(show wq X.prog X.w E a.heap d (.dK j) from m.hok d _ n);have C:a.heap.DictAt (vq X.prog X.w) d B A:=⟨p,t,f,y,k,D⟩;refine wpAny_pyIter_dict g C ?_;have i:=m.freeze n trivial f;exists a.heap.objs.size,[a.heap.objs.size],_,_,_,rfl,i.kept (t':=a.toks) fun b o e=>cB _ e,yhe d _ (cU (cH f)) k,⟨_,cJ _ rfl,rfl,by rw [r.length]; rfl⟩,fun b u=>?_,q p;have e:b=a.heap.objs.size:=by simpa using u
 subst e;exact i.fpOk (cE _) (i.hok.fresh (cE _))
def ypd {l:Expr} {to:TE} {apos cpos:Pos} (hl:PE X l to) (hbase:attributeBase l "values" X.env (eval l X.env)=eval l X.env:=by rfl) (hline:(apos.endLine == cpos.line)=true:=by rfl):PI X tg (.Call (.Attribute l "values" apos) [] [] cpos) (vag to):=by
 intro j s σ H R I h;refine wpAny_Call_method0_late hbase hline (thn (hl j s σ H _ I h) fun v c h'=>?_);obtain ⟨x,K,A,E,d,kvs,e,B,q⟩:=h';subst e;cases E;obtain ⟨_,u,p,r,k,C,ep,i,m,z,G⟩:=(show wq X.prog X.w K c.heap d (.dK kvs) from A.hok d _ B);have t:c.heap.DictAt (vq X.prog X.w) d p ep:=⟨k,C,i,m,z,G⟩;refine ⟨"dict","dict.values",F.plainAttrs_dict,F.slot_dict_values,F.type_dict_values,⟨k,i,m.1⟩,fun a J=>by cases J; exact ⟨k,i,m.2.1⟩,Calls.callWith_builtin rfl (PySem.evalArgs_none (call_meetsIn F.slot_dict_values t.dictOf.typeIs F.entry_dict_values (F.args_dict_values_1 _) (meets_dict_values (vq X.prog X.w) d u) ⟨⟨p,t.dictOf⟩,?_⟩))⟩;refine wpAny_pyIter_values (knd:=vq X.prog X.w) (d:=d) (kvs:=p) (ep:=ep) ⟨_,cJ _ rfl,rfl,rfl⟩ (t.push _) ?_;have y:=A.freeze B trivial i;have f:(c.heap.push { cls:=.type "dict_values",data:=.fields #[.ref d] }).objs.size=c.heap.objs.size+1:=Heap.size_push ..;have n:d < c.heap.objs.size:=cH i;exists _,[_],_,_,_,rfl,y.kept (t':=c.toks) fun b o e=>cB _ (cB _ e),ygg d _ (show d≠(c.heap.push _).objs.size by rw [f]; exact cU (Nat.lt_succ_of_lt n)) z,⟨_,cJ _ rfl,rfl,by rw [r.length]; rfl⟩,fun b D=>?_,q k;have e:b=(c.heap.push { cls:=.type "dict_values",data:=.fields #[.ref d] }).objs.size:=by simpa using D
 have g:c.heap.objs.size <= b:=by rw [e,f]; omega
 exact y.fpOk g (y.hok.fresh g)
def ypg {to:TE} {σ:St} {H:Hp} {R:It->Hp->Prop} (h:to σ H fun x H1=>∃ d kvs,x=.ref d/\H1 d=some (.dK kvs)/\∀ o,R (Itk o d kvs) (upd H1 d (.frz o (.dK kvs)))):yz9 to σ H R:=h
def yo5 {to:TE} {σ:St} {H:Hp} {R:It->Hp->Prop} (h:to σ H fun x H1=>∃ d kvs,x=.ref d/\H1 d=some (.dK kvs)/\∀ o,R (Itv o d kvs) (upd H1 d (.frz o (.dK kvs)))):vag to σ H R:=h
def ymr (t:TE):TE:=fun σ H Q=>t σ H fun v H'=>∃ d o u,(∀ o u,H d≠some (.frz o u))/\H' d=some (.frz o u)/\Q v (upd H' d u)
def yh3 {e:Expr} {t:TE} (h:PE X e t):PE X e (ymr t):=.mk fun a s σ H Q I q=>thn (h a s σ H _ I q) fun v g ⟨x,f,J,r,d,o,u,c,b,k⟩=>⟨x,_,J.thaw (fun o u e=>c o u (I.base.frzs d o u e)) b,r,k⟩
def ypc {t:TE} {σ:St} {H:Hp} {Q:VK} (h:t σ H fun v H'=>∃ d o u,(∀ o u,H d≠some (.frz o u))/\H' d=some (.frz o u)/\Q v (upd H' d u)):ymr t σ H Q:=h
def yyy:List V->Hp->VK->Prop:=fun xs H Q=>∃ d kvs,xs=[.ref d]/\H d=some (.dK kvs)/\∀ l,H l=none->Q (.ref l) (upd H l (.lst (kvs.map fun p=>kV p.1)))
def ja (hc:X.calm=true):uf X (.type "list") yyy:=by
 intro j s σ H S O Q I r h;obtain ⟨d,kvs,rfl,F,q⟩:=h;obtain ⟨u,rfl,E⟩:=jk r;cases E;obtain ⟨g,c,f,r,K,l,ep,C,B,t,G⟩:=(show wq X.prog X.w H s.heap d (.dK kvs) from I.hok d _ F);have D:s.heap.DictAt (vq X.prog X.w) d f ep:=⟨K,l,C,B,t,G⟩;refine W.kdl_call (W.kdl_dict (knd:=vq X.prog X.w) (kvs:=f) (ep:=ep) c) (I.ok.hd hc) D (by rw [<- r.length]; exact g) fun z n a m J e b=>?_
 have A:wg (kvs.map fun p=>kV p.1) a.toList:=ybu (by have P:=b.1; have T:=r.length; have R:a.toList.length=a.size:=dC; rw [cA]; omega) fun i v L=>by
  obtain ⟨k,x,N,M⟩:=b.2 i v (by rw [<- Array.getElem?_toList]; exact L);obtain ⟨y,o,_⟩:=r.get N;exists kV k,by rw [cG,o]; rfl,yz0 M
 exists .ref s.heap.objs.size,_,I.laid (t':=n) J (cE _) (show wq X.prog X.w _ z _ (.lst _) from ⟨by rw [cA]; exact g,a.toList,m,A,by rw [Array.toArray_toList]; exact e⟩),rfl,q _ (I.hok.fresh (cE _))
end
def ydl {o:Obj} {d:Addr} {kvs:List (Key × V)} {g:TG} {tb:TS} {D:Ö} {σ:St} {H:Hp} (Pv:Nat->St->Hp->Prop) (h0:Pv 0 σ H) (hl:∀ i σ H,i <= kvs.length->Pv i σ H->H d=some (.frz o (.dK kvs)))
  (hs:∀ i k v σ H,kvs[i]?=some (k,v)->Pv i σ H->g (kV k) σ H fun σ2 H2=>tb { D with nx:=Pv (i+1),ct:=Pv (i+1),bk:=D.nx } σ2 H2) (hd:∀ σ H,Pv kvs.length σ H->D.nx σ H) :
  ∃ W:Nat->Nat->St->Hp->Prop,(∃ m,W 0 m σ H)/\∀ i m σ H,W i m σ H ->
   ((Itk o d kvs).stop i H/\D.nx σ H)\/((Itk o d kvs).go i H/\∃ N:St->Hp->Prop,(∀ σ' H',N σ' H'->∃ m',m' < m/\W (i+1) m' σ' H')/\∀ x H',(Itk o d kvs).yld i H x H'->g x σ H' fun σ2 H2=>tb { D with nx:=N,ct:=N,bk:=D.nx } σ2 H2):=by
 exists fun i m σ H=>m=kvs.length - i/\i <= kvs.length/\Pv i σ H,⟨kvs.length,by simp,cV _,h0⟩,?_;rintro i m σ H ⟨rfl,c,p⟩;have q:=hl i σ H c p;by_cases hlt:i < kvs.length
 .refine .inr ⟨⟨q,hlt⟩,Pv (i+1),fun σ' H' b=>⟨kvs.length - (i+1),by omega,rfl,hlt,b⟩,fun x H' y=>?_⟩;obtain ⟨rfl,k,v,a,rfl⟩:=y;exact hs i k v σ _ a p
 .have e:i=kvs.length:=by omega
  subst e;exact .inl ⟨⟨q,cE _⟩,hd σ H p⟩
def yej {o:Obj} {d:Addr} {kvs:List (Key × V)} {te:TE} {fr:St} {R:Hp->Prop} {H1:Hp} (Pv:Nat->Hp->Prop) (h0:Pv 0 (upd H1 D (.lst []))) (hl:∀ i H,i <= kvs.length->Pv i H->H d=some (.frz o (.dK kvs)))
  (hs:∀ i k v H,kvs[i]?=some (k,v)->i < kvs.length->Pv i H->te (some v :: fr) H fun y H4=>∃ ys,H4 D=some (.lst ys)/\ys.length < sizeLine/\∃ m',m' < kvs.length - i/\cW kvs.length Pv (i+1) m' (upd H4 D (.lst (ys++[y])))) (hd:∀ H,Pv kvs.length H->R H):x5 (Itv o d kvs) te fr D R H1:=by
 exists cW kvs.length Pv,⟨kvs.length,by simp,cV _,h0⟩,?_;rintro i m H ⟨rfl,b,p⟩;have q:=hl i H b p;by_cases hlt:i < kvs.length
 .refine .inr ⟨⟨q,hlt⟩,fun x c y=>?_⟩;obtain ⟨rfl,k,a⟩:=y;exact hs i k x _ a hlt p
 .have e:i=kvs.length:=by omega
  subst e;exact .inl ⟨⟨q,cE _⟩,hd H p⟩
def ü {X:Cx}:uf X (.builtin "len") (fun xs H Q=>∃ a kvs,xs=[V.ref a]/\H a=some (.dK kvs)/\Q (.int kvs.length) H):=by
 intro b s σ H xs f Q I r h;obtain ⟨a,kvs,rfl,e,q⟩:=h;obtain ⟨u,rfl,c⟩:=jk r;cases c;exact vcb I (.of e) fun t g d=>⟨.int kvs.length,H,d,⟨t,rfl⟩,q⟩
def ypu {σ:St} {H:Hp} {Q:VK} (h:∀ p,H p=none->Q (.ref p) (upd H p (.dK []))):yn8 σ H Q:=h
def yq9 {td ty:TE} {σ:St} {H:Hp} {Q:VK} (h:td σ H fun x H1=>∃ a,x=.ref a/\IsD H1 a/\ty σ H1 fun y H2=>∃ kvs k v,H2 a=some (.dK kvs)/\y=kV k/\ut kvs k=some v/\Q v (upd H2 a (.dK (Û kvs k)))):yop td ty σ H Q:=h
def ygb (bs:List Bool):((List.range bs.length).any fun i=>(bs[i]?).getD false)=bs.any id:=by
 rw [Bool.eq_iff_iff,List.any_eq_true,List.any_eq_true]
 constructor
 .rintro ⟨i,a,h⟩;have a:=dI.mp a;rw [cC a] at h;exists _,dw a,h
 .rintro ⟨b,c,h⟩;obtain ⟨i,a,rfl⟩:=List.getElem_of_mem c;exists i,dI.mpr a,by rw [cC a]; exact h
def ykd {X:Cx} (hc:X.calm=true):uf X (.builtin "any") (fun xs H Q=>∃ p bs,xs=[.ref p]/\SqL X.K H p (List.map V.bl bs)/\Q (.bl (bs.any id)) H):=by
 intro g s σ H xs y Q I r h;obtain ⟨p,bs,rfl,o,q⟩:=h;obtain ⟨u,rfl,t⟩:=jk r;cases t;obtain ⟨k,l,m,E⟩:=I.list o;obtain rfl:=Ŕ l;have f:=m.isList;have d:p < s.heap.objs.size:=by obtain ⟨_,e,_⟩:=f; exact cH e
 refine call_any_walk (wpAny_pyIter_list f ?_)
 refine ⟨s.heap.objs.size,[s.heap.objs.size,p],[s.heap.objs.size],(bs.map Value.bool).toArray.size,_,_,fun i=>(bs[i]?).getD false,rfl,Walks.list (A:=X.A.in1) (show X.A.handled=none from I.ok.hd hc) _ p (cU d) (bs.map Value.bool).toArray,
  ⟨⟨_,cJ _ rfl,rfl,rfl⟩,f.push _⟩,fun i v B D C a c=>?_,fun z j w=>?_⟩
 .have a:(bs.map Value.bool)[i]?=some v:=by simpa using a
  rw [cG] at a
  cases e:bs[i]? with
  | none=>rw [e] at a; cases a
  | some b =>
   dsimp only at c;rw [e] at a c;cases a;exact dH c
 .have e:((List.range (bs.map Value.bool).toArray.size).any fun i=>(bs[i]?).getD false)=bs.any id:=by rw [cL,cA]; exact ygb bs
  rw [e];exists .bl (bs.any id),H,I.kept (t':=j) fun b x e=>w b x (fun n=>?_) (cB _ e),rfl,q;rw [cQ.mp n] at e;exact d7 _ (cH e)
section
variable {X:Cx}
def vct:V->Option Int->Option Int->Hp->VK->Prop:=fun x lo hi H Q=>∃ z:Str,x=.str z/\z.length <= sizeLine/\Q (.str (Txt.slice z lo hi)) H
def ynx:SlR X vct:=by
 intro e s σ H x v p o lo n m Q I f b g d h;obtain ⟨z,rfl,a,q⟩:=h;obtain ⟨t,rfl⟩:=f;refine ⟨"str",_,F.slot_str_getitem.lookup,typeIs_str _ _ _,?_⟩
 cases g with
 | none =>
  cases d with
  | none=>exact wpAny_getItem_str_slice (l:=none) (u:=none) (st:=none) b rfl (post_val_or_str ⟨dh (Txt.slice_le z _ _) a,fun c k=>⟨.str _,H,I.tok _,⟨_,rfl⟩,q⟩⟩)
  | int j uj=>exact wpAny_getItem_str_slice (l:=none) (u:=some (j,uj)) (st:=none) b rfl (post_val_or_str ⟨dh (Txt.slice_le z _ _) a,fun c k=>⟨.str _,H,I.tok _,⟨_,rfl⟩,q⟩⟩)
 | int i ui =>
  cases d with
  | none=>exact wpAny_getItem_str_slice (l:=some (i,ui)) (u:=none) (st:=none) b rfl (post_val_or_str ⟨dh (Txt.slice_le z _ _) a,fun c k=>⟨.str _,H,I.tok _,⟨_,rfl⟩,q⟩⟩)
  | int j uj=>exact wpAny_getItem_str_slice (l:=some (i,ui)) (u:=some (j,uj)) (st:=none) b rfl (post_val_or_str ⟨dh (Txt.slice_le z _ _) a,fun c k=>⟨.str _,H,I.tok _,⟨_,rfl⟩,q⟩⟩)
def ylc {x:Str} (h:j <= x.length):(Txt.slice x none (some (j:Int))).cps.toList=x.cps.toList.take j:=by
 have e:=slice_closes_toL (x:=x) (j:=(j:Int)) (by omega) (by omega);rw [beq_iff_eq.mp e];simp
def yer {x:Str} (h:j <= x.length):(Txt.slice x (some (j:Int)) none).cps.toList=x.cps.toList.drop j:=by
 rw [slice_from_eq (b:=(x.length:Int)) (by omega) (by omega) rfl];have e:x.length=x.cps.toList.length:=by simp [Str.length]
 simp;rw [dA (by rw [dP,e]; omega)]
end
section
variable {X:Cx}
def yar (p:Addr) (n:Nat) (h:Heap):Prop:=∃ o es ep t,h.get? p=some o/\o.ExactSet/\o.data=.set es ep t/\t.fits es.size=true/\es.size < scanBound/\es.size=n
def yar.st {p:Addr} {n:Nat} {h1 h2:Heap} (s:yar p n h1) (k:∀ o,h1.get? p=some o->h2.get? p=some o):yar p n h2:=by
 obtain ⟨o,a,b,t,e,r⟩:=s;exists o,a,b,t,k _ e,r
def vbv (K:W.Frag):List V->Hp->VK->Prop:=fun xs H Q=>∃ p ns,xs=[.ref p]/\SqL K H p (List.map V.int ns)/\ns.length <= 1000/\∀ q,H q=none->Q (.ref q) (upd H q (.ext (yar q (firstMet (fun i=>ns.getD i 0) ns.length).length)))
def yfy (hc:X.calm=true):uf X (.type "set") (vbv X.K):=by
 intro n s σ H O N Q I r h;obtain ⟨p,d,rfl,E,L,q⟩:=h;obtain ⟨u,rfl,F⟩:=jk r;cases F;obtain ⟨c,l,B,_⟩:=I.list E;have M:IntsAre c.toArray.toList d:=yei l
 have m:c.toArray.size=d.length:=by
  have e:=l.length;rw [cA] at e;rw [cL];exact e.symm
 refine call_set_list (I.ok.hd hc) B.isList M (by rw [m]; exact Nat.lt_of_le_of_lt (Nat.succ_le_succ L) (by decide)) fun g x j J=>?_;rw [m] at j;obtain ⟨o,v,C,t,e,A,z,_,_,G,y,D⟩:=j
 have f:yar s.heap.objs.size (firstMet (fun i=>d.getD i 0) d.length).length g:=⟨o,v,C,t,e,A,z,y,G,D⟩
 exists .ref s.heap.objs.size,_,I.laid (t':=x) (fun b o e=>J b o (cH e) e) (cE _) (show wq X.prog X.w _ g _ (.ext (yar s.heap.objs.size _)) from ⟨f,⟨o,e⟩,fun _ _ a k=>a.st k⟩),rfl,q _ (I.hok.fresh (cE _))
def ybk:uf X (.builtin "len") (fun xs H Q=>∃ q n,xs=[.ref q]/\H q=some (.ext (yar q n))/\Q (.int (n:Nat)) H):=by
 intro a s σ H xs k Q I r h;obtain ⟨p,n,rfl,e,q⟩:=h;obtain ⟨u,rfl,b⟩:=jk r;cases b;obtain ⟨o,j,m,t,f,i,d,c,l,g⟩:=(show wq X.prog X.w H s.heap p (.ext (yar p n)) from I.hok p _ e).1;have v:scanBound=4096:=rfl;refine call_len_set f i d c (by omega) ?_;rw [g];exists .int (n:Nat),H,I.tok _,⟨_,rfl⟩,q
def va9:R2:=fun x y H Q=>∃ (z:Str) (k:Int),x=.str z/\y=.int k/\0 <= k/\k <= 1000/\z.length <= 1000/\∀ z':Str,z'.cps.toList=(List.replicate k.toNat z.cps.toList).flatten->Q (.str z') H
theorem yh1 (a:Array Nat):∀ (k:Nat) (b:Array Nat),((List.replicate k a).foldl (·++·) b).toList=b.toList++(List.replicate k a.toList).flatten
 | 0,b=>by simp
 | k+1,b=>by
  rw [dB,List.foldl_cons,yh1 a k,Array.toList_append,dB,List.flatten_cons,du]
theorem yez:OpR X (binaryOp .Mult) va9:=by
 intro b s σ H x y v u Q I f c h;obtain ⟨z,k,rfl,rfl,m,o,d,q⟩:=h;obtain ⟨t,rfl⟩:=f;obtain ⟨l,rfl⟩:=c;by_cases k0:k < 1
 .exact P.mul_str_none k0 (by omega) ⟨.str Str.empty,H,I.tok _,⟨_,rfl⟩,q _ (by rw [show k.toNat=0 by omega]; rfl)⟩
 have n:z.length * k.toNat <= 1000 * 1000:=Nat.mul_le_mul d (by omega);refine P.mul_str (by rw [cP (by omega),cP (by omega)]; rfl) (fun _ _=>?_) (fun _ _=>?_) ?_
 .have i:(z.length:Int) * k=((z.length * k.toNat:Nat):Int):=by rw [Int.natCast_mul,Int.toNat_of_nonneg (by omega)]
  have j:(z.length:Int) * k <= (2 ^ 63 - 1:Int):=by rw [i]; omega
  exact Int.not_lt.mpr (Int.le_ediv_of_mul_le (by omega) j)
 .have:=sizeLine_eq;unfold Builtin.Str.tooLong;exact cP (by omega)
 .rw [if_neg (by omega)];by_cases h1:(k == 1 || z.length == 0)=true
  .rw [if_pos h1];exists .str z,H,I,⟨_,rfl⟩,q z ?_;rcases Bool.or_eq_true_iff.mp h1 with e | e
   .rw [beq_iff_eq.mp e]; simp
   .have g:z.cps.toList=[]:=dZ (by have:=beq_iff_eq.mp e; simpa [Str.length] using this);rw [g]; simp
  .rw [if_neg h1];have a:=yh1 z.cps k.toNat #[];exists ?_,⟨.str _,H,I.tok _,⟨_,rfl⟩,q _ a⟩
   have e:Str.length ⟨(List.replicate k.toNat z.cps).foldl (·++·) #[]⟩=k.toNat * z.cps.toList.length:=by
    show ((List.replicate k.toNat z.cps).foldl (·++·) #[]).size=_;rw [<- dC,a];simp [List.sum_replicate_nat]
   rw [e,sizeLine_eq,Nat.mul_comm];have:z.cps.toList.length=z.length:=by simp [Str.length]
   rw [this];omega
def ymb (p:Addr) (n:Nat) (h:Heap):Prop:=∃ t u v,IsRange h p 0 (n:Int) 1 t u v
def ves:List V->Hp->VK->Prop:=fun xs H Q=>∃ n:Nat,xs=[.int n]/\n <= 1000/\∀ q,H q=none->Q (.ref q) (upd H q (.ext (ymb q n)))
def yl3:uf X (.type "range") ves:=by
 intro d s σ H i g Q I r h;obtain ⟨n,rfl,j,q⟩:=h;obtain ⟨u,rfl,f⟩:=jk r;obtain ⟨t,rfl⟩:=f;refine call_range_1 ?_;have c:=IsRange.new s.heap 0 (n:Int) 1 s.toks t (s.toks+1);exists .ref s.heap.objs.size,_,I.laid (t':=s.toks+1+1) (fun b o e=>cB _ e) (cE _) (show wq X.prog X.w _ _ _ (.ext (ymb s.heap.objs.size n)) from ⟨⟨_,_,_,c⟩,⟨_,c⟩,fun _ _ ⟨t,u,v,a⟩ k=>⟨t,u,v,k _ a⟩⟩),rfl,q _ (I.hok.fresh (cE _))
def yw9:List V->Hp->VK->Prop:=fun xs H Q=>∃ q n,xs=[.ref q]/\H q=some (.ext (ymb q n))/\n <= 1000/\∀ l,H l=none->Q (.ref l) (upd H l (.lst ((List.range n).map fun i=>V.int (i:Nat))))
def yfd (hc:X.calm=true):uf X (.type "list") yw9:=by
 intro g s σ H G C Q I r h;obtain ⟨p,n,rfl,e,F,q⟩:=h;obtain ⟨u,rfl,y⟩:=jk r;cases y;obtain ⟨t,u,v,A⟩:=(show wq X.prog X.w H s.heap p (.ext (ymb p n)) from I.hok p _ e).1;have c:Builtin.Range.rangeSize 0 (n:Int) 1=(n:Int):=by rw [rangeSize_one]; split <;> omega
 refine call_list_range (n:=n) (I.ok.hd hc) A (small_one (by omega) (by omega) (by omega) (by omega)) (by rw [c]) (by omega) fun l k b j z m a=>?_
 have o:wg ((List.range n).map fun i=>V.int (i:Nat)) b.toList:=ybu (by have x:=a.1; have E:b.toList.length=b.size:=dC; rw [cA,da]; omega) fun i v f=>by
  obtain ⟨t,rfl⟩:=a.2 i v (by rw [<- Array.getElem?_toList]; exact f)
  have d:i < n:=by
   have x:=a.1;have B:=(cO.mp f).1;rw [dC] at B;omega
  exists .int (i:Nat),by rw [cG,dS d]; rfl,⟨t,by rw [show (0+(i:Int) * 1)=(i:Int) by omega]⟩
 have D:=sizeLine_eq;exists .ref s.heap.objs.size,_,I.laid (t':=k) z (cE _) (show wq X.prog X.w _ l _ (.lst _) from ⟨by rw [cA,da]; omega,b.toList,j,o,by rw [Array.toArray_toList]; exact m⟩),rfl,q _ (I.hok.fresh (cE _))
end
section
variable {prog:Program} {w:World}
def vco (k:Int × List Int):Int:=reduceHash (Builtin.Tuple.tupleHashOf [hashInt k.1,reduceHash (Builtin.Tuple.tupleHashOf (k.2.map hashInt))])
variable {A:Around} {s:Shared}
end
abbrev NX:=(Int × List Int) × Addr × Addr
def veb (x:NX):DictEntry:=⟨vco x.1,.ref x.2.1,.ref x.2.2⟩
def ND (a:Addr) (xs:List NX):HO:=.ext fun h=>(a == sysModules)=false/\∃ o es ep,h.get? a=some o/\o.ExactDict/\o.data=.dict es ep/\es.toList=xs.map veb
def NKy (H:Hp) (p:Addr) (k:Int × List Int):Prop:=∃ b,H p=some (.tup [.int k.1,.ref b])/\H b=some (.tup (k.2.map V.int))
structure NDt (H:Hp) (a:Addr) (xs:List NX):Prop where
 o:H a=some (ND a xs)
 k:∀ x∈xs,NKy H x.2.1 x.1
 n:(xs.map (·.1)).Nodup
 l:xs.length < sizeLine
def yre:V->List V->Hp->VK->Prop:=fun x vs H Q=>∃ l xs y,∃ i:Nat,x=.ref l/\vs=[.int i,y]/\H l=some (.lst xs)/\i <= xs.length/\xs.length < 1000000/\Q .non (upd H l (.lst (xs.take i++y :: xs.drop i)))
def yg6 {X:Cx}:MtM X "list.insert" yre:=by
 intro d s σ H x C v u Q I m o h;obtain ⟨l,B,y,i,rfl,rfl,j,w,A,q⟩:=h;cases m
 cases o with
 | cons r1 rr =>
  cases rr with
  | cons r2 rn =>
   cases rn;obtain ⟨t,rfl⟩:=r1
   rename_i u2
   obtain ⟨z,a,n,r,p,e⟩:=I.lstM j;have g:(-(2 ^ 63):Int) <= (i:Int):=Int.le_trans (by decide) (Int.natCast_nonneg i);have f:(i:Int) < 2 ^ 63:=Int.lt_of_lt_of_le (show (i:Int) < 1000001 by omega) (by decide)
   have c:(if (i:Int) < 0 then ((i:Int)+(a.toArray.size:Int)).toNat else min (i:Int).toNat a.toArray.size)=i:=by
    rw [if_neg (by omega),cL,<- p];omega
   generalize (i:Int)=x at g f c ⊢;have k:=fitsIndex_both g f;have b:a.toArray.size <= sizeLine:=by rw [cL]; omega
   refine call_meets PySem.F.slot_list_insert ⟨_,e,rfl⟩ PySem.F.entry_list_insert (PySem.F.args_list_insert_3 _ _ _) (PySem.AutoSeq1.list_insert_list_int_val_1 l a.toArray n x t u2 (by rw [k]; exact fun z=>nomatch z) b) ⟨e,?_⟩
   exists .non,_,I.lset (its':=a.take i++u2 :: a.drop i) j e ?_ ((r.take i).append (.cons r2 (r.drop i))) ?_,rfl,q
   .show (a.toArray.extract 0 (if x < 0 then (x+(a.toArray.size:Int)).toNat else min x.toNat a.toArray.size)).push u2++a.toArray.extract (if x < 0 then (x+(a.toArray.size:Int)).toNat else min x.toNat a.toArray.size)=_;rw [c];apply Array.ext';rw [Array.toList_append,Array.toList_push,Array.toList_extract,Array.toList_extract];show (List.take (i - 0) (List.drop 0 a))++[u2]++List.take (a.toArray.size - i) (List.drop i a)=_;rw [Nat.sub_zero,List.drop_zero,cL,dA (l:=List.drop i a) (by rw [dP]; exact cE _),du];rfl
   .rw [cF,cX,de,dP,sizeLine_eq];omega
def ye3 {o:Obj} {d:Addr} {kvs:List (Key × V)} {tc:TT} {te:TE} {fr:St} {R:Hp->Prop} {H1:Hp} (Pv:Nat->Hp->Prop) (h0:Pv 0 (upd H1 D (.lst []))) (hl:∀ i H,i <= kvs.length->Pv i H->H d=some (.frz o (.dK kvs)))
  (hs:∀ i k v H,kvs[i]?=some (k,v)->i < kvs.length->Pv i H->tc (some (kV k) :: fr) H fun b H4=>if b=true then te (some (kV k) :: fr) H4 (fun y H5=>∃ ys,H5 D=some (.lst ys)/\ys.length < sizeLine/\∃ m',m' < kvs.length - i/\cW kvs.length Pv (i+1) m' (upd H5 D (.lst (ys++[y])))) else ∃ m',m' < kvs.length - i/\cW kvs.length Pv (i+1) m' H4)
  (hd:∀ H,Pv kvs.length H->R H):Ë (Itk o d kvs) tc te fr D R H1:=by
 exists cW kvs.length Pv,⟨kvs.length,by simp,cV _,h0⟩,?_;rintro i m H ⟨rfl,c,p⟩;have q:=hl i H c p;by_cases hlt:i < kvs.length
 .refine .inr ⟨⟨q,hlt⟩,fun x f y=>?_⟩;obtain ⟨rfl,k,v,a,rfl⟩:=y;exact hs i k v _ a hlt p
 .have e:i=kvs.length:=by omega
  subst e;exact .inl ⟨⟨q,cE _⟩,hd H p⟩
def yg8:typeLookup (.type "list") "keys"=pure none:=by rw [typeLookup_type,builtinLookup_eq_fast]; kernel_rfl
def ygt {prog:Program} {w:World} {A:Around} {s:Shared} {a:Addr} {xs:Array Value} (hl:s.heap.IsList a xs) (hn:∀ o,s.heap.get? a=some o->o.dict=none) (hA:A.handled=none)
  (h:∀ h' tk,(∀ b o,s.heap.get? b=some o->h'.get? b=some o)->Q none { s with heap:=h',toks:=tk }):wpAny (model prog w) A (getAttr? (.ref a) "keys") Q E s:=by
 obtain ⟨o,hx,i,k,f⟩:=hl;have j:=hn o hx;obtain ⟨c,n,p,sl⟩:=o;simp only at i f j;subst i f j;obtain ⟨l,g,d,tk,m⟩:=s;have hT:∀ tk',(⟨l,g,d,tk',m⟩:Shared).TypeIs (.ref a) "list":=fun _=>⟨_,hx,rfl⟩;have y:=sub_AttributeError;have t:=F.slot_list_getattribute.lookup;have q:=F.slot_list_getattribute.bind (.ref a);have u:=am_list_getattr_none;unfold getAttr? getAttrBy? getAttrBy
 repeat (any_goals (first | assumption | exact hT _ | ((with_reducible show wpAny _ _ (call (Value.builtin "list.__getattribute__") _ _) _ _ _); refine call_meets F.slot_list_getattribute (hT _) am_entry_list_getattribute (F.args_list_getattribute_2 _ _) (meets_getattribute_miss_list a xs k sl "keys" _ yg8 (by decide +kernel) (by decide +kernel)) ⟨hx,hA,fun h' tk' e hx'=>?_⟩) | wp_step))
 obtain ⟨r,v,x⟩:=hx'.there;show wpAny _ _ (getattributeRaised _ _ _ _ _ _ _) _ _ _;unfold getattributeRaised
 repeat (any_goals (first | assumption | wp_step))
 exact h h' tk' hx'.keeps
def zd:plainId "dict.update.loop"=true:=by decide +kernel
def ï:entryFor table "dict.update.loop"=some Builtin.«dict.update.loop»:=entryFor_of_fast (by kernel_rfl)
def ygr {prog:Program} {w:World} {K:Type} [DecidableEq K] {knd:KeyKind prog w K} {A:Around} {R:Result->Shared->Prop} {d l:Addr} {items:Array Value} {res:Value} {rs:List (K × Value)} (hA:A.handled=none) (hdi:d≠it) (hli:l≠it) (hld:l≠d) (hrl:rs.length=items.size) (hsz:items.size <= 1000) :
  ∀ (k i:Nat) (s:Shared),items.size - i=k->i <= items.size->s.heap.IsListIter it l i->s.heap.IsList l items->s.heap.DictOf knd d (merged [] (rs.take i)) ->
  (∀ j,j < items.size->∃ t kv vv,items[j]?=some (.ref t)/\t≠d/\t≠it/\IsTup s.heap t #[kv,vv]/\∃ k,knd.is k kv=true/\rs[j]?=some (k,vv)) ->
  (∀ h' tk,h'.DictOf knd d (merged [] rs)->(∀ b o,b≠d->b≠it->s.heap.get? b=some o->h'.get? b=some o)->R (.ok (.ret res)) { s with heap:=h',toks:=tk }) ->
  codeAny (model prog w) A (.builtin "dict.update.loop" ⟨[.ref d,.ref it,rawInt i,res],[]⟩) R s:=by
 intro k
 induction k with
 | zero =>
  intro i s hk hi m B C D F;obtain rfl:i=items.size:=by omega
  refine codeAny_builtin ï ?_;rw [Around.under_plainId zd _];show wpAny _ A.in1 (pyNext (.ref it) >>= _) _ _ s;refine bY (wpAny_pyNext_list_end (show A.in1.handled=none from hA) m B (by simp) fun h' P=>?_);rw [<- hrl,dN] at C;show wpAny _ A.in1 (Builtin.Dict.addKeywords d [] >>= _) _ _ _;exact bY (cD (cD (F h' s.toks (C.extBut P hdi) fun b o _ T e=>P b o T e)))
 | succ k ih =>
  intro i s hk hi m B C D F;have x:i < items.size:=by omega
  obtain ⟨t,kv,vv,J,W,E,hT,Y,M,H⟩:=D i x;refine codeAny_builtin ï ?_;rw [Around.under_plainId zd _];show wpAny _ A.in1 (pyNext (.ref it) >>= _) _ _ s;refine bY (wpAny_pyNext_list_item m B J fun U p a=>?_);have q:IsTup U t #[kv,vv]:=hT.extBut a.extBut E;have I:=C.sameBut a hdi;have N:=B.extBut a.extBut hli;refine bY (wpAny_holding (bY ?_));refine wpAny_tryCatch ?_;unfold Builtin.Dict.pairItems;refine bY (wpAny_typeOf q.typeIs ?_);rw [if_pos (by decide)];obtain ⟨o,X,hc,n,v⟩:=id q;refine bY (wpAny_seqItems X v (cD ?_));show wpAny _ _ (holding [kv,vv] (dictSet d kv vv)) _ _ _;refine wpAny_holding ?_
  have S:(merged [] (rs.take i)).length <= i:=by
   have:=merged_length_le [] (rs.take i);rw [cX] at this;simp only [List.length_nil] at this;omega
  refine wpAny_dictSet_pairs M I (fun h2 u h=>?_) (by rw [sizeLine_eq]; omega);rw [<- merged_take_succ [] rs i (Y,vv) H] at u;have g:∀ b o,b≠d->b≠it->s.heap.get? b=some o->h2.get? b=some o:=fun b o f c e=>(h.2 b f).trans (a.extBut b o c e);refine cD ⟨plainId_quiet zd _,ih (i+1) _ (by omega) x ?_ ?_ u (fun j Q=>?_) fun h' tk O Z=>F h' tk O fun b o f c e=>Z b o f c (g b o f c e)⟩
  .obtain ⟨o,e,r⟩:=p;exists o,(h.2 it hdi.symm).trans e,r
  .obtain ⟨o,e,r⟩:=N;exists o,(h.2 l hld).trans e,r
  .obtain ⟨t,kv,vv,L,y,z,⟨o,e,r⟩,G⟩:=D j Q;exists t,kv,vv,L,y,z,⟨o,g t o y z e,r⟩,G
def yv5:List V->Hp->VK->Prop:=fun xs H Q=>∃ l,∃ ts:List (Addr × Key × V),xs=[.ref l]/\H l=some (.lst (ts.map fun t=>V.ref t.1))/\(∀ t∈ts,H t.1=some (.tup [kV t.2.1,t.2.2]))/\ts.length <= 1000/\∀ q,H q=none->Q (.ref q) (upd H q (.dK (Ñ [] (ts.map (·.2)))))
theorem ycz {w:World} {H:Hp} {h:Heap} (ok:HOk P w H h):∀ ts:List (Addr × Key × V),(∀ t∈ts,H t.1=some (.tup [kV t.2.1,t.2.2]))->∃ rs:List (Key × Value),KV (ts.map (·.2)) rs/\∀ j,j < ts.length->∃ t kv vv,(ts.map fun t=>Value.ref t.1)[j]?=some (.ref t)/\IsTup h t #[kv,vv]/\∃ k,(vq P w).is k kv=true/\rs[j]?=some (k,vv)
 | [],_=>⟨[],.nil,fun j h=>absurd h (cY j)⟩
 | t :: ts,ht=>by
  obtain ⟨rs,a,b⟩:=ycz ok ts fun x g=>ht x (.tail _ g);obtain ⟨_,c,r,i⟩:=(show wq P w H h t.1 (.tup _) from ok t.1 _ (ht t (.head _)));obtain ⟨u,x,rfl,d,f⟩:=ymh r;exists (t.2.1,x) :: rs,.cons ⟨rfl,f⟩ a,fun j e=>?_
  cases j with
  | zero=>exists t.1,u,x,rfl,i,t.2.1,ycg d,rfl
  | succ j=>exact b j (Nat.lt_of_succ_lt_succ e)
def yeb {X:Cx} (hc:X.calm=true):uf X (.type "dict") yv5:=by
 intro O s σ H xs us Q I r h;obtain ⟨l,f,rfl,hl,z,hz,q⟩:=h;obtain ⟨u,rfl,rx⟩:=jk r;cases rx;have G:=I.ok.hd hc;obtain ⟨_,k,n,U,K⟩:=(show wq X.prog X.w H s.heap l (.lst _) from I.hok l _ hl);refine callType_codes (Q₁:=fun m s₁=>m=.ref s.heap.objs.size/\s₁={ s with heap:=s.heap.push { cls:=.type "dict",data:=.dict #[] } }) F.kt_called_dict (F.kt_typeCall_dict_1 _) F.entry_dict_init (kt_code_dict_new _ ⟨rfl,rfl⟩) ?_;rintro m s₁ ⟨rfl,rfl⟩;have c:(s.heap.push { cls:=.type "dict",data:=.dict #[] }).DictOf (vq X.prog X.w) s.heap.objs.size []:=Heap.DictOf.new s.heap;have d:=cB { cls:=.type "dict",data:=.dict #[] } K;have D:(s.heap.push { cls:=.type "dict",data:=.dict #[] }).IsList l k.toArray:=⟨_,d,rfl,n,rfl⟩;exists c.typeIs,F.args_dict_init_2 _ _,?_;unfold Builtin.«dict.__init__»;refine bY ?_;unfold Builtin.Dict.selfAndRest;refine bY (wpAny_notOrdered_dict c.typeIs ?_);show wpAny _ _ (pure (s.heap.objs.size,[Value.ref l])) _ _ _;refine cD ?_;show wpAny _ _ (Builtin.Dict.updateFrom "dict.__init__" s.heap.objs.size (.ref l) [] .none) _ _ _;unfold Builtin.Dict.updateFrom;refine bY (wpAny_typeOf (T:="list") ⟨_,d,rfl⟩ ?_);rw [if_pos (by decide)];refine bY (ygt (s:={ s with heap:=s.heap.push { cls:=.type "dict",data:=.dict #[] } }) D (fun o e=>by rw [d] at e; cases e; rfl) G fun g R p=>?_);obtain ⟨rs,M,hp⟩:=ycz (P:=X.prog) (w:=X.w) I.hok f z
 obtain rfl:k=f.map fun t=>Value.ref t.1:=by
  have:=Ŵ (Cs:=f.map (·.1)) (by rw [df]; exact U);rw [this,df]; rfl
 rw [if_pos (show (none:Option Value).isNone=true from rfl)];refine bY (wpAny_rule ?_);have y:g.IsList l (f.map fun t=>Value.ref t.1).toArray:=⟨_,p _ _ d,rfl,n,rfl⟩
 have i:g.DictOf (vq X.prog X.w) s.heap.objs.size []:=by
  obtain ⟨o,v,x,e,r⟩:=c;exists o,v,x,p _ _ e,r
 have lt2:s.heap.objs.size < g.objs.size:=by obtain ⟨o,v,x,e,r⟩:=i; exact cH e
 have L:l < s.heap.objs.size:=cH K;refine bY (wpAny_pyIter_list y (cD ⟨plainId_quiet zd _,?_⟩));have a:∀ b o,g.get? b=some o->(g.push { cls:=.type "list_iterator",data:=.fields #[.ref l,.int 0 0] }).get? b=some o:=fun _ _ e=>cB _ e;refine ygr (A:=X.A.in1) (knd:=vq X.prog X.w) (items:=(f.map fun t=>Value.ref t.1).toArray) (rs:=rs) (l:=l) G (cU lt2) (cU (Nat.lt_trans L lt2)) (cU L) ?_ ?_ _ 0 { s with heap:=g.push { cls:=.type "list_iterator",data:=.fields #[.ref l,.int 0 0] },toks:=R } rfl (cV _) ?_ ?_ ?_ (fun j S=>?_) fun h' C E B=>?_
 .rw [<- Paired.length M]; simp
 .simpa using hz
 .exists _,cJ _ rfl,rfl,rfl
 .exists _,a _ _ (p _ _ d),rfl,n,rfl
 .obtain ⟨o,v,x,e,r⟩:=i;exists o,v,x,a _ _ e,r
 .obtain ⟨t,kv,Y,W,J,e3⟩:=hp j (by simpa using S);have N:=J.lt;exists t,kv,Y,by simpa using W,cU N,cU (Nat.lt_trans N lt2),?_,e3
  exact (J.keeps fun b o e=>a _ _ (p _ _ (cB _ e)))
 .have Z:(Ñ [] (f.map (·.2))).length <= sizeLine:=by
   have:=j9 (f.map (·.2)) [];rw [List.length_nil,cA] at this;rw [sizeLine_eq]; omega
  exists rfl,.ref s.heap.objs.size,_,I.laid (t':=C) (fun b o e=>B b o (cU (cH e)) (cU (Nat.lt_trans (cH e) lt2)) (a _ _ (p _ _ (cB _ e)))) (cE _) (yjq Z (dX.mpr (Nat.ne_of_gt I.big)) (M.merge .nil) E),rfl,q _ (I.hok.fresh (cE _))
end L2
namespace L2
open PySem PySem.Spec PyProof.Rows PySem.SeqAt PySem.Builtin PySem.Builtin.Str
end L2
namespace L2
open PySem PySem.Spec PyProof.Rows
def zr.m {j k:Nat} {A:Around} (r:zr k A) (h:j <= k:=by decide):zr j A:=r.mono h
section
variable {X:Cx} {e:Expr} {es:List Expr} {te:TE} {t:TA}
def pa1 (ha:PE X e te) (h:yb9 e=true:=by exact rfl):PA X [e] (yme te yjy):=yhv ha ua (yh9 h)
def pac (ha:PE X e te) (hr:PA X es t) (h:yb9 e=true:=by exact rfl):PA X (e :: es) (yme te t):=yhv ha hr (yh9 h)
end
section
variable {X:Cx} {k:Nat} {f:Addr} {fd:FuncData} {ps:List Str} {sp:Sp} {Ex:St->XK} {x:Str} {p pos:Pos} {e:Expr} {es:List Expr} {t:TA} {st:Stmt} {id:String} {r:List V->Hp->VK->Prop} {T:String}
def xw (F:vk X.prog X.w X.K X.mg X.base CX0 k f fd ps sp) (hr:zr k X.A) (D:Dff X.K X.mg x st ps f fd) (ha:PA X (e :: es) t) (hg:Gl X x:=by exact rfl) (hdb:(x == ("__debug__":Str))=false:=by decide)
  (he:starEach (e :: es) X.env=(false,eval e X.env) :: starEach es X.env:=by rfl) (hpl:(backTo pos (starEach es X.env)).any (·.1)=false:=by rfl):PE X (.Call (.Name x p) (e :: es) [] pos) (ytn sp [] E0 t):=yb7 F hr hg D.m D.F.kp D.B .nil vx ha hdb he hpl
def xr (F:vk X.prog X.w X.K X.mg X.base (CXe X.prog X.w) k f fd ps sp) (hr:zr k X.A) (D:Dff X.K X.mg x st ps f fd) (hc:Ĝ X Ex) (ha:PA X (e :: es) t) (hg:Gl X x:=by exact rfl) (hdb:(x == ("__debug__":Str))=false:=by decide)
  (he:starEach (e :: es) X.env=(false,eval e X.env) :: starEach es X.env:=by rfl) (hpl:(backTo pos (starEach es X.env)).any (·.1)=false:=by rfl):PE X (.Call (.Name x p) (e :: es) [] pos) (yip sp [] Ex t):=yki F hr hg D.m D.F.kp D.B .nil hc ha hdb he hpl
def pcB (hc:uf X (.builtin id) r) (hm:X.mg x=none) (ha:PA X (e :: es) t) (hg:Gl X x:=by exact rfl) (hv:bootBuiltins x=some (.builtin id):=by decide +kernel) (hn:x≠"__name__":=by decide) (hdb:(x == ("__debug__":Str))=false:=by decide)
  (he:starEach (e :: es) X.env=(false,eval e X.env) :: starEach es X.env:=by rfl) (hpl:(backTo pos (starEach es X.env)).any (·.1)=false:=by rfl):PE X (.Call (.Name x p) (e :: es) [] pos) (tCB r t):=ykr hc hg hm hv ha hn hdb he hpl
def pcT (hc:uf X (.type T) r) (hm:X.mg x=none) (ha:PA X (e :: es) t) (hg:Gl X x:=by exact rfl) (hv:bootBuiltins x=some (.type T):=by decide +kernel) (hn:x≠"__name__":=by decide) (hdb:(x == ("__debug__":Str))=false:=by decide)
  (he:starEach (e :: es) X.env=(false,eval e X.env) :: starEach es X.env:=by rfl) (hpl:(backTo pos (starEach es X.env)).any (·.1)=false:=by rfl):PE X (.Call (.Name x p) (e :: es) [] pos) (tCB r t):=yfx hc hg hm hv ha hn hdb he hpl
end
end L2
namespace MixI
def giv (c b:Int):Int:=if b=1 then c else 16777216 - c
def ymf (x:Int):Nat:=if x == 0 then 0 else x.natAbs.log2+1
def shL (ws cs:List Int) (b:Int):List Int:=List.zipWith (fun w c=>w * giv c b) ws cs
def grL (sh:List Int):List Int:=sh.map fun s=>31 * (sh.length:Int) * s+sh.sum
def tOf (s:Int):Nat:=ymf s - 48
def lrn (ws cs:List Int) (b:Int):List Int:=(grL (shL ws cs b)).map fun v=>v / 2 ^ tOf (grL (shL ws cs b)).sum
def vdp (ws cs:List Int):Int:=(List.zipWith (fun w c=>w * c) ws cs).sum
def yoz (ws cs:List Int):Int:=vdp ws cs / ws.sum
structure WOk (k:Nat) (ws:List Int):Prop where
 len:ws.length=k
 one:∀ w∈ws,1 <= w
 top:∀ w∈ws,w < 281474976710656
structure COk (k:Nat) (cs:List Int):Prop where
 len:cs.length=k
 lo:∀ c∈cs,32768 <= c
 hi:∀ c∈cs,c <= 16744448
def yx2 {c b:Int} (h1:32768 <= c) (h2:c <= 16744448):32768 <= giv c b:=by unfold giv; split <;> omega
def ycb {ws cs:List Int} {b:Int} (h:ws.length=cs.length):(shL ws cs b).length=ws.length:=by
 unfold shL; rw [List.length_zipWith,<- h]; omega
def yia {sh:List Int}:(grL sh).length=sh.length:=by unfold grL; rw [cA]
def yq0 {k:Nat} {ws cs:List Int} {b:Int} (hw:WOk k ws) (hc:COk k cs):(lrn ws cs b).length=k:=by
 unfold lrn; rw [cA,yia,ycb (by rw [hw.len,hc.len]),hw.len]
theorem Ĩ (m d:Int):∀ sh:List Int,(sh.map fun s=>m * s+d).sum=m * sh.sum+sh.length * d
 | []=>by simp
 | s :: r=>by
  simp only [di,List.sum_cons,Ĩ m d r,de,Int.natCast_add,Int.natCast_one,Int.mul_add,Int.add_mul];omega
def yp5 (sh:List Int):(grL sh).sum=32 * (sh.length:Int) * sh.sum:=by
 unfold grL;rw [Ĩ,Int.mul_assoc,Int.mul_assoc];generalize (sh.length:Int) * sh.sum=x;omega
theorem yjt:∀ {l:List Int},(∀ x∈l,0 <= x)->0 <= l.sum
 | [],_=>by simp
 | a :: r,h=>by
  have c:=h a (by simp);have d:=yjt (l:=r) fun x b=>h x (by simp [b]);rw [List.sum_cons]; omega
theorem yox:∀ {l:List Int} {y:Int},(∀ x∈l,0 <= x)->y∈l->y <= l.sum
 | a :: r,y,h,hy=>by
  have d:=h a (by simp);have b:∀ x∈r,0 <= x:=fun x c=>h x (by simp [c]);have f:=yjt b;rw [List.sum_cons];rcases cT.mp hy with e | hy
  .omega
  .have:=yox b hy; omega
theorem yi1 {c:Int}:∀ {l:List Int},(∀ x∈l,c <= x)->c * l.length <= l.sum
 | [],_=>by simp
 | a :: r,h=>by
  have d:=h a (by simp);have e:=yi1 (l:=r) fun x b=>h x (by simp [b]);rw [List.sum_cons,de,Int.natCast_add,Int.natCast_one,Int.mul_add]; omega
theorem yn6 {c:Int}:∀ {l:List Int},(∀ x∈l,x <= c)->l.sum <= c * l.length
 | [],_=>by simp
 | a :: r,h=>by
  have d:=h a (by simp);have e:=yn6 (l:=r) fun x b=>h x (by simp [b]);rw [List.sum_cons,de,Int.natCast_add,Int.natCast_one,Int.mul_add]; omega
theorem ynv {f:Int->Int} {m:Int}:∀ {ws cs:List Int},ws.length=cs.length->(∀ w∈ws,0 <= w)->(∀ c∈cs,m <= f c)->m * ws.sum <= (List.zipWith (fun w c=>w * f c) ws cs).sum
 | [],[],_,_,_=>by simp
 | w :: r,c :: t,h,h1,h2=>by
  have i:=ynv (f:=f) (m:=m) (ws:=r) (cs:=t) (by simpa using h) (fun x b=>h1 x (by simp [b])) fun x b=>h2 x (by simp [b]);have a:=dQ (h2 c (by simp)) (h1 w (by simp));rw [List.zipWith_cons_cons,List.sum_cons,List.sum_cons,Int.mul_add,Int.mul_comm m w]; omega
theorem ymt {f:Int->Int} {m:Int}:∀ {ws cs:List Int},ws.length=cs.length->(∀ w∈ws,0 <= w)->(∀ c∈cs,f c <= m)->(List.zipWith (fun w c=>w * f c) ws cs).sum <= m * ws.sum
 | [],[],_,_,_=>by simp
 | w :: r,c :: t,h,h1,h2=>by
  have i:=ymt (f:=f) (m:=m) (ws:=r) (cs:=t) (by simpa using h) (fun x b=>h1 x (by simp [b])) fun x b=>h2 x (by simp [b]);have a:=dQ (h2 c (by simp)) (h1 w (by simp));rw [List.zipWith_cons_cons,List.sum_cons,List.sum_cons,Int.mul_add,Int.mul_comm m w]; omega
def WOk.pos {k:Nat} {ws:List Int} (h:WOk k ws) (hk:1 <= k):1 <= ws.sum:=by
 have:=yi1 (c:=1) h.one;rw [h.len] at this; omega
def WOk.small {k:Nat} {ws:List Int} (h:WOk k ws) (hk:k <= 6):ws.sum <= 1688849860263936:=by
 have:=yn6 (c:=281474976710656) fun x a=>Int.le_of_lt (h.top x a);rw [h.len] at this; omega
def yin {k:Nat} {ws cs:List Int} (hk:1 <= k) (hw:WOk k ws) (hc:COk k cs):32768 <= yoz ws cs/\yoz ws cs <= 16744448:=by
 have e:ws.length=cs.length:=by rw [hw.len,hc.len]
 have d:∀ w∈ws,0 <= w:=fun w h=>by have:=hw.one w h; omega
 have p:=hw.pos hk;have a:=ynv (f:=fun c=>c) e d hc.lo;have b:=ymt (f:=fun c=>c) e d hc.hi;unfold yoz vdp;exists (Int.le_ediv_iff_mul_le (by omega)).mpr a,Int.le_of_lt_add_one ((Int.ediv_lt_iff_lt_mul (by omega)).mpr (by rw [Int.add_mul]; omega))
def ycs (t:Nat):(2:Int) ^ t=((2 ^ t:Nat):Int):=by rw [Int.natCast_pow]; rfl
def yqu (t:Nat):(0:Int) < 2 ^ t:=by rw [ycs]; exact Int.natCast_pos.mpr (Nat.pow_pos (by decide))
def yy5 {s:Int} (h:1 <= s):s < 281474976710656 * 2 ^ tOf s/\(tOf s=0\/140737488355328 * 2 ^ tOf s <= s):=by
 have f:s.natAbs≠0:=by omega
 have e:(s.natAbs:Int)=s:=by omega
 have a:=Nat.log2_self_le f;have b:=@Nat.lt_log2_self s.natAbs;unfold tOf ymf;rw [if_neg (by simp; omega)];generalize s.natAbs.log2=L at a b ⊢;rcases Nat.lt_or_ge L 48 with q | q
 .have z:L+1 - 48=0:=by omega
  rw [z];exists ?_,.inl rfl;have:2 ^ (L+1) <= 2 ^ 48:=Nat.pow_le_pow_right (by decide) (by omega);have c:(2:Nat) ^ 48=281474976710656:=by decide
  rw [c] at this;rw [<- e,Int.pow_zero,Int.mul_one];omega
 .obtain ⟨t,rfl⟩:∃ t,L=47+t:=⟨L - 47,by omega⟩;have z:47+t+1 - 48=t:=by omega
  rw [z,ycs];have d:(2:Nat) ^ (47+t)=140737488355328 * 2 ^ t:=by rw [Nat.pow_add]
  have c:(2:Nat) ^ (47+t+1)=281474976710656 * 2 ^ t:=by rw [show 47+t+1=48+t by omega,Nat.pow_add]
  rw [d] at a;rw [c] at b;generalize 2 ^ t=T at a b ⊢;exists by omega,.inr (by omega)
section
variable {k:Nat} {ws cs:List Int} {b:Int}
def yrl (hw:WOk k ws) (hc:COk k cs):∀ s∈shL ws cs b,1 <= s:=by
 intro s a;unfold shL at a;rw [List.mem_iff_getElem] at a;obtain ⟨i,e,rfl⟩:=a;rw [List.length_zipWith] at e;rw [List.getElem_zipWith];have c:=hw.one ws[i] (dw _);have d:=yx2 (b:=b) (hc.lo cs[i] (dw _)) (hc.hi cs[i] (dw _));have:=Int.mul_le_mul c d (by decide) (by omega);omega
def yw1 {sh:List Int} (h:∀ s∈sh,1 <= s):∀ v∈grL sh,sh.sum <= v/\v <= (grL sh).sum/\0 <= v:=by
 have e:=yjt (l:=sh) fun x b=>by have:=h x b; omega
 have a:∀ v∈grL sh,sh.sum <= v:=fun v a=>by
  unfold grL at a;obtain ⟨s,d,rfl⟩:=cI.mp a;have:=h s d;have:0 <= 31 * (sh.length:Int) * s:=Int.mul_nonneg (Int.mul_nonneg (by decide) (Int.natCast_nonneg _)) (by omega);omega
 exact fun v c=>⟨a v c,yox (fun x b=>by have:=a x b; omega) c,by have:=a v c; omega⟩
def yog (hk:1 <= k) (hk6:k <= 6) (hw:WOk k ws) (hc:COk k cs):WOk k (lrn ws cs b):=by
 have i:(shL ws cs b).length=k:=by rw [ycb (by rw [hw.len,hc.len]),hw.len]
 have f:=yrl (b:=b) hw hc
 have n:1 <= (shL ws cs b).sum:=by
  have:=yi1 (c:=1) f;rw [i] at this; omega
 have j:=yw1 f;have d:=yp5 (shL ws cs b);rw [i] at d
 have o:1 <= (grL (shL ws cs b)).sum:=by
  rw [d];have:32 * (k:Int) * 1 <= 32 * (k:Int) * (shL ws cs b).sum:=dQ n (by omega);omega
 have p:(grL (shL ws cs b)).sum <= 192 * (shL ws cs b).sum:=by
  rw [d]; exact dG (by omega) (by omega)
 obtain ⟨r,a⟩:=yy5 o;have g:=yqu (tOf (grL (shL ws cs b)).sum);exists yq0 hw hc,fun w h=>?_,fun w h=>?_
 .obtain ⟨v,e,rfl⟩:=cI.mp h;obtain ⟨m,q,l⟩:=j v e;refine (Int.le_ediv_iff_mul_le g).mpr ?_;rcases a with a | a
  .rw [a,Int.pow_zero]; omega
  .generalize (2:Int) ^ tOf (grL (shL ws cs b)).sum=T at *;omega
 .obtain ⟨v,e,rfl⟩:=cI.mp h;obtain ⟨m,q,l⟩:=j v e;exact (Int.ediv_lt_iff_lt_mul g).mpr (by omega)
def ygc {g:Int->Int->Int} {ws cs:List Int} (h:cs.length=ws.length):(List.range ws.length).map (fun i=>g ((ws[i]?).getD 0) ((cs[i]?).getD 0))=List.zipWith g ws cs:=by
 apply List.ext_getElem
 .rw [cA,da,List.length_zipWith]; omega
 .intro i a b;rw [cA,da] at a;rw [dY,List.getElem_range,List.getElem_zipWith,cC a,cC (by omega)];rfl
end
end MixI
namespace SpanMath
def rn (d:List Int):Nat->Int
 | 0=>0
 | k+1=>rn d k * 256+(d[k]?).getD 0
def Byt (d:List Int):Prop:=∀ x∈d,0 <= x/\x <= 255
def yu5 {d:List Int} (h:Byt d) (k:Nat):0 <= (d[k]?).getD 0/\(d[k]?).getD 0 <= 255:=by
 cases e:d[k]? with
 | none=>exists by decide,by decide
 | some x=>exact h x (cR e)
theorem yi7 {d:List Int} (h:Byt d) (k:Nat):∀ r,∃ q,rn d (k+r)=rn d k * pw r+q/\0 <= q/\q < pw r
 | 0=>⟨0,by show rn d k=rn d k * 1+0; omega,by decide,by decide⟩
 | r+1=>by
  obtain ⟨q,e,b,c⟩:=yi7 h k r;obtain ⟨a,f⟩:=yu5 h (k+r);exists q * 256+(d[k+r]?).getD 0,?_,by omega,?_
  .show rn d (k+r) * 256+(d[k+r]?).getD 0=rn d k * (pw r * 256)+_;rw [e,<- Int.mul_assoc,Int.add_mul,Int.add_assoc]
  .show _ < pw r * 256;omega
def ylw {d:List Int} (h:Byt d) (k r:Nat) (l w':Int):(l * pw r <= rn d (k+r)/\rn d (k+r) < l * pw r+w' * pw r) ↔ (l <= rn d k/\rn d k < l+w'):=by
 obtain ⟨q,e,f,i⟩:=yi7 h k r;have c:=uq r;rw [e,<- Int.add_mul];generalize rn d k=v;generalize pw r=p at c f i ⊢
 constructor
 .rintro ⟨a,b⟩
  constructor
  .refine Int.le_of_lt_add_one (Int.lt_of_mul_lt_mul_right (a:=p) ?_ (Int.le_of_lt c));rw [Int.add_mul,Int.one_mul];omega
  .refine Int.lt_of_mul_lt_mul_right (a:=p) ?_ (Int.le_of_lt c);omega
 .rintro ⟨a,b⟩;have j:=dG a (Int.le_of_lt c);have g:=dG (show v+1 <= l+w' by omega) (Int.le_of_lt c);rw [Int.add_mul v 1 p,Int.one_mul] at g;omega
structure InS (d:List Int) (x:Sn):Prop where
 lo:x.1 <= rn d (sz x)
 hi:rn d (sz x) < x.1+x.2.1
def vao (l w' s':Int):∃ r:Nat,ren l w' s'=(l * pw r,w' * pw r,s'+r):=by
 unfold ren
 split
 .split
  .exact ⟨2,rfl⟩
  .exact ⟨1,rfl⟩
 .refine ⟨0,?_⟩;show (l,w',s')=(l * 1,w' * 1,s'+0);rw [Int.mul_one,Int.mul_one,Int.add_zero]
def ynt {d:List Int} (h:Byt d) {l w' s':Int} (hs:0 <= s'):InS d (ren l w' s') ↔ (l <= rn d s'.toNat/\rn d s'.toNat < l+w'):=by
 obtain ⟨r,e⟩:=vao l w' s';rw [e]
 have c:sz (l * pw r,w' * pw r,s'+r)=s'.toNat+r:=by
  show (s'+(r:Int)).toNat=s'.toNat+r;omega
 rw [<- ylw h s'.toNat r l w']
 constructor
 .rintro ⟨a,b⟩;rw [c] at a b;exists a,b
 .rintro ⟨a,b⟩;exists by rw [c]; exact a,by rw [c]; exact b
def Ý (d:List Int) (x:Sn) (c:Int):Int:=if rn d (sz x) < x.1+cut x.2.1 c then 1 else 0
def ŋ (d:List Int) (x:Sn) (c:Int):Ý d x c=0\/Ý d x c=1:=by
 unfold Ý
 split
 .exact .inr rfl
 .exact .inl rfl
def yq4 {d:List Int} (hd:Byt d) {x:Sn} {c b:Int} (h:OkS x) (hc:Ch c) (hb:b=0\/b=1) (i:InS d (nar x c b)):InS d x/\b=Ý d x c:=by
 have g:=h.ok.z;obtain ⟨j,k,f⟩:=yan h.ok.w0 h.ok.w1 hc;unfold nar at i;rcases hb with rfl | rfl
 .rw [if_neg (by decide)] at i;obtain ⟨e,a⟩:=(ynt hd (by omega)).mp i;have e:x.1+cut x.2.1 c <= rn d (sz x):=e;have a:rn d (sz x) < x.1+cut x.2.1 c+(x.2.1 - cut x.2.1 c):=a;exists ⟨by omega,by omega⟩,?_;unfold Ý;rw [if_neg (by omega)]
 .rw [if_pos rfl] at i;obtain ⟨e,a⟩:=(ynt hd (by omega)).mp i;have e:x.1 <= rn d (sz x):=e;have a:rn d (sz x) < x.1+cut x.2.1 c:=a;exists ⟨by omega,by omega⟩,?_;unfold Ý;rw [if_pos a]
theorem ynb:∀ (k:Nat) (d:List Int),k <= d.length->rn d k=val (d.take k)
 | 0,_,_=>rfl
 | k+1,d,h=>by
  have a:k < d.length:=by omega
  have e:d.take (k+1)=d.take k++[d[k]]:=by rw [List.take_succ,cC a]; rfl
  rw [e,ycu,<- ynb k d (by omega)];show rn d k * 256+_=_;rw [cC a];rfl
def yic {d:List Int} (hd:Byt d) {x:Sn} (h:OkS x) (hl:(tL x).length <= d.length) (hp:d.take (tL x).length=tL x):InS d x:=by
 have i:=yti h
 have f:rn d (sz x - tK x)=tCn x:=by
  rw [<- yiq x,ynb _ _ hl,hp,yzl h]
 obtain ⟨q,b,j,g⟩:=yi7 hd (sz x - tK x) (tK x);have e:sz x - tK x+tK x=sz x:=by omega
 rw [e,f] at b;have a:=Ś h.ok;have c:=(ym8 x.1 (uq (tK x))).1;unfold yfs at a;have a:(tCn x+1) * pw (tK x) <= x.1+x.2.1:=a;have c:x.1 <= tCn x * pw (tK x):=c;rw [Int.add_mul,Int.one_mul] at a;exists by rw [b]; omega,by rw [b]; omega
end SpanMath
namespace Law
local macro_rules | `(tactic| rfl')=>`(tactic| walk_at "rd")
local macro_rules | `(tactic| right)=>`(tactic| decide +kernel)
open PySem L2
local macro_rules | `(tactic| exists $n:num,$s:str)=>do
 let ts<-((s.getString.splitOn " ").map fun x=>Lean.mkIdent (((if n.getNat<4 then `_root_.Law else `_root_.L2) ++ x.toName:Lean.Name))).toArray.mapM fun x=>match n.getNat%4 with
  | 0=>`(Lean.Parser.Tactic.tacticSeq| refine $x ?_)
  | 1=>`(Lean.Parser.Tactic.tacticSeq| (with_reducible refine' $x (by assumption) ?q ?_; (case q=>first | assumption | exact ya)))
  | 2=>`(Lean.Parser.Tactic.tacticSeq| (with_reducible refine' $x ?q ?_; (case q=>first | assumption | exact ya)))
  | _=>`(Lean.Parser.Tactic.tacticSeq| (with_reducible refine' $x ?q ?n ?_; (case q=>first | assumption | exact ya); (case n=>with_unfolding_all decide +kernel)))
 `(tactic| first $[| $ts:tacticSeq]*)
local macro_rules | `(tactic| exists $n:num,$m:num)=>do
 let xs:=Array.replicate n.getNat (<-`(some _))++Array.replicate m.getNat (<-`(none))
 `(tactic| (try dsimp only [vn]; refine yj (σ':=[$xs,*]) rfl ?_))
local macro_rules | `(tactic| exists $h:ident,$a:ident,$b:ident,$c:ident)=>`(tactic| with_reducible first | refine yq $h fun $a $b $c=>?_ | refine new_obj $h fun $a $b $c=>?_)
local macro_rules | `(tactic| exists $n:num,$m:num,$t)=>`(tactic| (refine ⟨_,$t,?_⟩;exists $n,$m;rfl'))
local macro_rules | `(tactic| left)=>let h:=Lean.mkIdent `h; `(tactic| first | (cases $h:ident; subst_vars; rfl) | repeat first | (obtain ⟨e,_⟩:=$h:ident; subst e; rfl) | obtain ⟨_,$h:ident⟩:=$h:ident)
local macro_rules | `(tactic| exists $a:ident,$b:ident,$c:ident)=>let h:=Lean.mkIdent `h; let s:=Lean.mkIdent `s; let H:=Lean.mkIdent `H; let Q:=Lean.mkIdent `Q; let E:=Lean.mkIdent `E; let A:=Lean.mkIdent `A; `(tactic| (refine $a $b (fun _ $H $Q $E $h=>?_) (fun _ $A _ $s $H _ $Q $E $c $h=>?_); left))
local macro_rules | `(tactic| walk_at "side")=>`(tactic| first | exact ⟨by decide,by decide⟩ | (show (0:Int) < _; first | decide | omega) | exact Or.inl ⟨by omega,by omega⟩ | exact Or.inr ⟨by omega,by omega⟩ | exact ⟨by omega,by omega⟩ | exact ⟨by decide,by decide,by decide⟩)
local macro_rules | `(tactic| walk_at "len")=>`(tactic| first | decide | (simp only [de,List.length_nil]; decide))
local macro_rules | `(tactic| walk_at "rd1")=>`(tactic| with_reducible first
 | exists 4,"vem vbl yuz yx1"
 | ((fail_if_success constructor); walk_at "rd2"))
local macro_rules | `(tactic| walk_at "rd2")=>`(tactic| with_reducible first
 | refine yvb fun _ _=>?_
 | refine vd9 (by assumption) ?_
 | (refine' yt1 ?rdv ?_; (case rdv=>with_unfolding_all rfl))
 | exists 4,"i_c ved vef ywk veh veg va8 vb4 yw8 yuy yy8 yqa ŕ yo6 yp1 yvo va5 vej vcl yp2 yw0 vbo yvi vb5 vd7 vbm vce vcc vb8 ć yx4 veq vb2 vb6 yzn vd8 yk2 yvq vet i_U g0 g1 g2 g3 g4 g5 g6 g7 g8 g9 g10 g11 g12 ypv yva yaw yat vb1 va7 vbp yph yy7 yqm yqx yq8 yvg yqp yzo yxw ypc yv4 ypg yo5 ypu yq9 ylt ypq yp7 yyk vbj ylq ywv yqo yq3"
 | (refine' i_shlC ?rdp ?rdq ?_; (case rdp=>with_unfolding_all exact ⟨by decide,by decide,by decide⟩); (case rdq=>with_unfolding_all decide))
 | (refine' i_powC ?rdp ?rdq ?_; (case rdp=>with_unfolding_all exact ⟨by decide,by decide,by decide⟩); (case rdq=>with_unfolding_all decide))
 | (refine i_I ?rdc ?_; (case rdc=>with_unfolding_all walk_at "side")))
local macro_rules | `(tactic| walk_at "rd")=>`(tactic| repeat walk_at "rd1")
variable {C D c' cl cl' ct' dc dq ds md p q tl y:Addr} {U U' W' W2:Addr->Prop} {L M:List (Str × List Int)} {ts xs:List Int} {i j m':Nat} {tp:Nat->Addr} {O O' O2:Nat->Addr->Prop} {bt:Nat->Int} {R:Prop} {tu:Str->Addr}
def top (i:Nat):Stmt:=PySem.Challenge.pw_foretell_k43_best_base.main.body.getD i (.Pass ⟨0,0,0,0⟩)
abbrev vcv:Stmt:=top 21
abbrev vda:Stmt:=top 22
abbrev vcy:Stmt:=top 23
abbrev vc1:Stmt:=top 24
abbrev vdb:Stmt:=top 25
abbrev vcw:Stmt:=top 26
abbrev vc2:Stmt:=top 27
abbrev vc5:Stmt:=top 28
abbrev vdc:Stmt:=top 29
abbrev ytp:Stmt:=top 30
abbrev ys5:Stmt:=top 31
abbrev ys2:Stmt:=yw (top 36) 0
abbrev yt9:Stmt:=yw (top 36) 1
abbrev yr1:Stmt:=yw (top 36) 2
abbrev ys1:Stmt:=yw (top 36) 3
abbrev yt8:Stmt:=yw (top 37) 0
abbrev ytm:Stmt:=yw (top 37) 1
abbrev ytg:Stmt:=yw (top 37) 2
abbrev yta:Stmt:=yw (top 37) 3
abbrev yr4:Stmt:=yw (top 38) 0
abbrev yrt:Stmt:=yw (top 38) 1
abbrev ysz:Stmt:=yw (top 38) 2
abbrev yrv:Stmt:=yw (top 38) 3
abbrev yrz:Stmt:=top 39
abbrev ytf:Stmt:=top 45
abbrev yt3:Stmt:=top 46
abbrev ysx:Stmt:=top 47
abbrev yry:Stmt:=top 48
abbrev yub:Stmt:=top 49
abbrev yso:Stmt:=top 50
abbrev ytt:Stmt:=top 51
abbrev ytk:Stmt:=yw (top 52) 0
abbrev ytq:Stmt:=yw (top 52) 2
abbrev yr6:Stmt:=yw (top 52) 4
abbrev ysy:Stmt:=yw (top 57) 0
abbrev yt7:Stmt:=yw (top 57) 2
abbrev ysa:Stmt:=yw (top 57) 3
abbrev yt4:Stmt:=yw (top 57) 4
abbrev yrr:Stmt:=yw (top 60) 0
abbrev yrp:Stmt:=yw (top 60) 1
abbrev ysb:Stmt:=yw (top 60) 2
abbrev ytb:Stmt:=yw (top 60) 3
abbrev yt5:Stmt:=yw (top 60) 7
abbrev ytd:Stmt:=yw (top 60) 8
abbrev yr5:Stmt:=yw (top 60) 9
abbrev ys8:Stmt:=yw (top 60) 10
abbrev ys7:Stmt:=top 63
abbrev ysj:Stmt:=top 64
abbrev yto:Stmt:=top 69
abbrev yts:Stmt:=top 70
abbrev yth:Stmt:=yw (top 71) 0
abbrev ysd:Stmt:=yw (top 71) 2
abbrev ytc:Stmt:=yw (top 71) 3
abbrev yss:Stmt:=yw (top 71) 5
abbrev ytw:Stmt:=yw (top 71) 6
abbrev ytu:Stmt:=yw (top 73) 0
abbrev ytr:Stmt:=yw (top 73) 1
abbrev yst:Stmt:=yw (top 73) 2
abbrev yr7:Stmt:=yw (top 73) 3
abbrev ysr:Stmt:=yw (top 73) 5
abbrev ys4:Stmt:=top 75
abbrev ysw:Stmt:=top 76
abbrev ys0:Stmt:=top 78
abbrev yfk:Stmt:=top 79
abbrev ysh:Stmt:=top 80
abbrev ytj:Stmt:=top 81
abbrev yr2:Stmt:=top 82
abbrev ysn:Stmt:=top 83
abbrev ysc:Stmt:=yw (top 85) 0
abbrev ysv:Stmt:=yw (top 85) 1
abbrev yrw:Stmt:=yw (top 85) 2
abbrev yt2:Stmt:=yw (top 85) 3
abbrev ysk:Stmt:=yw (top 85) 4
abbrev yty:Stmt:=top 90
abbrev yt6:Stmt:=top 91
abbrev yrq:Stmt:=top 92
abbrev yrs:Stmt:=yw (top 93) 0
abbrev yfp:Stmt:=yw (top 94) 0
abbrev ytz:Stmt:=yw (top 94) 3
abbrev yfi:Stmt:=yw (top 94) 4
abbrev yr3:Stmt:=yw (top 94) 6
abbrev ysq:Stmt:=yw (top 94) 7
abbrev yr0:Stmt:=yw (top 94) 8
abbrev ysl:Stmt:=yw (top 94) 9
abbrev ys9:Stmt:=yw (top 94) 10
abbrev ytl:Stmt:=yw (top 94) 16
abbrev ysf:Stmt:=yw (top 94) 17
abbrev yr8:Stmt:=top 96
abbrev ys6:Stmt:=top 97
abbrev ytx:Stmt:=top 98
abbrev ytv:Stmt:=top 99
abbrev yuc:Stmt:=top 100
abbrev yru:Stmt:=top 101
abbrev yrx:Stmt:=top 102
abbrev yt0:Stmt:=top 103
abbrev yr9:Stmt:=top 104
abbrev yua:Stmt:=top 105
set_option genInjectivity false in
set_option genSizeOfSpec false in
structure Ads where
 Oz:Addr
 P0:FuncData
 P1:Addr
 P3:FuncData
 P4:Addr
 P5:FuncData
 P6:Addr
 P7:FuncData
 P8:Addr
 P9:FuncData
 Pa:Addr
 Pb:FuncData
 Pe:Addr
 Pf:FuncData
 Pg:Addr
 Ph:FuncData
 Pi:Addr
 Pj:FuncData
 Ht:Addr
 Hu:FuncData
 Hv:Addr
 Hw:FuncData
 Fd:Addr
 Hx:FuncData
 Hy:Addr
 Hz:FuncData
 I0:Addr
 I1:FuncData
 I2:Addr
 I3:FuncData
 Fe:Addr
 I4:FuncData
 I5:Addr
 I6:FuncData
 I7:Addr
 I8:FuncData
 I9:Addr
 Ia:FuncData
 Ff:Addr
 Ib:FuncData
 Ic:Addr
 Ie:FuncData
 If:Addr
 Ig:FuncData
 Ih:Addr
 Ii:FuncData
 Ij:Addr
 Ik:FuncData
 Il:Addr
 Im:FuncData
 Io:Addr
 Ip:FuncData
 Iq:Addr
 Ir:FuncData
 Is:Addr
 Iu:FuncData
 Iv:Addr
 Iw:FuncData
 Ix:Addr
 Iy:FuncData
 Iz:Addr
 J0:FuncData
 Fg:Addr
 J1:FuncData
 J2:Addr
 J3:FuncData
 J4:Addr
 J5:FuncData
 Fh:Addr
 J6:FuncData
 J7:Addr
 J8:FuncData
 J9:Addr
 Ja:FuncData
 Jb:Addr
 Jc:FuncData
 Fi:Addr
 Jd:FuncData
 Je:Addr
 Jf:FuncData
 Jg:Addr
 Jh:FuncData
 Ji:Addr
 Jj:FuncData
 Jk:Addr
 Jl:FuncData
 Jm:Addr
 Jn:FuncData
 Jo:Addr
 Jp:FuncData
 Jq:Addr
 Jr:FuncData
 Js:Addr
 Jt:FuncData
 Ju:Addr
 Jv:FuncData
 Jw:Addr
 Jx:FuncData
 Jy:Addr
 Jz:FuncData
 Fj:Addr
 K1:FuncData
 K2:Addr
 K3:FuncData
 K4:Addr
 K5:FuncData
 K6:Addr
 K7:FuncData
 K8:Addr
 K9:FuncData
 Fk:Addr
 Ka:FuncData
 Kb:Addr
 Kc:FuncData
 Kd:Addr
 Ke:FuncData
 Kg:Addr
 Kh:FuncData
 Ki:Addr
 Kj:FuncData
 Kk:Addr
 Kl:FuncData
 Km:Addr
 Kn:FuncData
 Ko:Addr
 Kp:FuncData
 D7:Addr
 Kq:FuncData
 Kr:Addr
 Ks:Addr
 Kt:FuncData
 Ku:Addr
 Kv:FuncData
 Kw:Addr
 Kx:FuncData
 Ky:Addr
 Kz:FuncData
 Fl:Addr
 L1:FuncData
 L3:Addr
 L6:FuncData
 L7:Addr
 L8:FuncData
 L9:Addr
 La:FuncData
 Lb:Addr
 Lc:FuncData
 Ld:Addr
 Le:FuncData
 Lf:Addr
 Lg:FuncData
 Lh:Addr
 Li:FuncData
 Fm:Addr
 Lj:FuncData
 Cz:Addr
 Lk:FuncData
 Ll:Addr
 Cl:Tok
 Lm:Addr
 Ln:FuncData
 D0:Addr
 Lo:FuncData
 Lp:Addr
 Lq:Addr
 Lr:FuncData
 Ls:Addr
 Lt:FuncData
 Lu:Addr
 Lv:FuncData
 Lx:Addr
 Ly:FuncData
 Lz:Addr
 M0:FuncData
 M4:Addr
 M5:FuncData
 M6:Addr
 M7:FuncData
 M8:Addr
 M9:FuncData
 Ma:Addr
 Mb:FuncData
 Mc:Addr
 Me:FuncData
 Mf:Addr
 Mg:FuncData
 Mh:Addr
 Mi:FuncData
 Mj:Addr
 Ml:FuncData
 Mm:Addr
 Mn:FuncData
 Mo:Addr
 Mq:FuncData
 Mr:Addr
 Ms:FuncData
 O6:Addr
 Fn:FuncData
 A6:Addr
 A5:Addr
 Ab:Addr
 Aa:Addr
 Bh:Addr
 A2:Addr
 A4:Addr
 Ag:Addr
 A1:Addr
 A8:Addr
 A0:Addr
 Fo:Addr
 En:Addr
 B0:Addr
 D8:Addr
 C0:Addr
 Eo:Addr
 Ep:Addr
 Ak:Addr
 A9:Addr
 Ax:Addr
 C9:Addr
 Af:Addr
 Bb:Addr
 Er:Tok
 O7:Tok
 C3:Tok
 C4:Tok
 Bi:Tok
 Ck:Tok
 Bw:Tok
 C5:Tok
 Cu:Tok
 Bj:Tok
 Ca:Tok
 Bk:Tok
 Cb:Tok
 Bx:Tok
 C6:Tok
 By:Tok
 Bl:Tok
 Cv:Tok
 Bz:Tok
 Cd:Addr
 Bm:Addr
variable {a:Ads}
structure Txt (K:W.Frag) (mg:Str->Option Value) (a:Ads):Prop where
 Fp:Dff K mg "is_whole" vcv ["thing"] a.Oz a.P0
 Pk:Dff K mg "is_bit" vda ["thing"] a.P1 a.P3
 Pl:Dff K mg "is_chance" vcy ["thing"] a.P4 a.P5
 Pm:Dff K mg "is_sign" vc1 ["thing"] a.P6 a.P7
 O8:Dff K mg "is_list_of_signs" vdb ["thing","most"] a.P8 a.P9
 Es:Dff K mg "checked_text" vcw ["thing"] a.Pa a.Pb
 Pn:Dff K mg "checked_bytes" vc2 ["thing"] a.Pe a.Pf
 Po:Dff K mg "check_most" vc5 ["thing"] a.Pg a.Ph
 Nr:Dff K mg "check_chance" vdc ["thing"] a.Pi a.Pj
 Cj:Dff K mg "check_bit" ytp ["thing"] a.Ht a.Hu
 Mt:Dff K mg "gives" ys5 ["chance","bit"] a.Hv a.Hw
 D9:Dfm K a.A6 "__init__" "Even.__init__" ys2 ["self"] a.Fd a.Hx
 Fq:Dfm K a.A6 "chance" "Even.chance" yt9 ["self"] a.Hy a.Hz
 Fr:Dfm K a.A6 "seen" "Even.seen" yr1 ["self","bit"] a.I0 a.I1
 Fs:Dfm K a.A6 "twin" "Even.twin" ys1 ["self"] a.I2 a.I3
 Da:Dfm K a.A5 "__init__" "Quick.__init__" yt8 ["self"] a.Fe a.I4
 Ft:Dfm K a.A5 "chance" "Quick.chance" ytm ["self"] a.I5 a.I6
 Fu:Dfm K a.A5 "seen" "Quick.seen" ytg ["self","bit"] a.I7 a.I8
 Fv:Dfm K a.A5 "twin" "Quick.twin" yta ["self"] a.I9 a.Ia
 Db:Dfm K a.Ab "__init__" "Run.__init__" yr4 ["self"] a.Ff a.Ib
 Fw:Dfm K a.Ab "chance" "Run.chance" yrt ["self"] a.Ic a.Ie
 Fx:Dfm K a.Ab "seen" "Run.seen" ysz ["self","bit"] a.If a.Ig
 Fz:Dfm K a.Ab "twin" "Run.twin" yrv ["self"] a.Ih a.Ii
 Mu:Dff K mg "slot_of" yrz ["kind"] a.Ij a.Ik
 Mv:Dff K mg "is_kind" ytf ["thing"] a.Il a.Im
 Mw:Dff K mg "is_place" yt3 ["thing"] a.Io a.Ip
 Mx:Dff K mg "are_places" ysx ["thing"] a.Iq a.Ir
 G0:Dff K mg "is_look" yry ["thing"] a.Is a.Iu
 G8:Dff K mg "checked_looks" yub ["thing"] a.Iv a.Iw
 My:Dff K mg "sign_back" yso ["signs","place"] a.Ix a.Iy
 Mz:Dff K mg "context_of" ytt ["look","signs","node"] a.Iz a.J0
 Dc:Dfm K a.Aa "__init__" "Book.__init__" ytk ["self","look"] a.Fg a.J1
 G9:Dfm K a.Aa "slot_at" "Book.slot_at" ytq ["self","signs","node"] a.J2 a.J3
 Ga:Dfm K a.Aa "twin" "Book.twin" yr6 ["self"] a.J4 a.J5
 Dd:Dfm K a.Bh "__init__" "Mixer.__init__" ysy ["self","many"] a.Fh a.J6
 Gb:Dfm K a.Bh "mixed" "Mixer.mixed" yt7 ["self","chances"] a.J7 a.J8
 Gc:Dfm K a.Bh "learn" "Mixer.learn" ysa ["self","chances","bit"] a.J9 a.Ja
 Gd:Dfm K a.Bh "twin" "Mixer.twin" yt4 ["self"] a.Jb a.Jc
 D1:Dfm K a.A2 "__init__" "Foreteller.__init__" yrr ["self","looks"] a.Fi a.Jd
 Cm:Dfm K a.A2 "arrive" "Foreteller.arrive" yrp ["self"] a.Je a.Jf
 De:Dfm K a.A2 "chances" "Foreteller.chances" ysb ["self"] a.Jg a.Jh
 Dh:Dfm K a.A2 "chance" "Foreteller.chance" ytb ["self"] a.Ji a.Jj
 Cn:Dfm K a.A2 "see" "Foreteller.see" yt5 ["self","bit"] a.Jk a.Jl
 Ge:Dfm K a.A2 "step" "Foreteller.step" ytd ["self","bit"] a.Jm a.Jn
 Gf:Dfm K a.A2 "step_in_sign" "Foreteller.step_in_sign" yr5 ["self","bit"] a.Jo a.Jp
 Gg:Dfm K a.A2 "fork" "Foreteller.fork" ys8 ["self"] a.Jq a.Jr
 N0:Dff K mg "bits_of" ys7 ["sign"] a.Js a.Jt
 Gh:Dff K mg "decisions_of" ysj ["text"] a.Ju a.Jv
 N2:Dff K mg "written" yto ["number","size"] a.Jw a.Jx
 Gi:Dff K mg "first_block" yts ["low","unit"] a.Jy a.Jz
 Di:Dfm K a.A4 "__init__" "Span.__init__" yth ["self"] a.Fj a.K1
 Dj:Dfm K a.A4 "cut" "Span.cut" ysd ["self","chance"] a.K2 a.K3
 Dk:Dfm K a.A4 "narrow" "Span.narrow" ytc ["self","chance","bit"] a.K4 a.K5
 Gj:Dfm K a.A4 "holds_block" "Span.holds_block" yss ["self","unit"] a.K6 a.K7
 Dl:Dfm K a.A4 "told" "Span.told" ytw ["self"] a.K8 a.K9
 Ef:Dfm K a.Ag "__init__" "Seeker.__init__" ytu ["self","data"] a.Fk a.Ka
 Dm:Dfm K a.Ag "follow" "Seeker.follow" ytr ["self"] a.Kb a.Kc
 Gk:Dfm K a.Ag "byte_at" "Seeker.byte_at" yst ["self","place"] a.Kd a.Ke
 Gm:Dfm K a.Ag "bit" "Seeker.bit" yr7 ["self","chance"] a.Kg a.Kh
 Gn:Dfm K a.Ag "told" "Seeker.told" ysr ["self"] a.Ki a.Kj
 N3:Dff K mg "checked_learned" ys4 ["thing"] a.Kk a.Kl
 N4:Dff K mg "teach" ysw ["foreteller","texts"] a.Km a.Kn
 Eg:Dff K mg "press_by" ys0 ["foreteller","text"] a.Ko a.Kp
 O9:yax K "pressed" "pressed" yfk a.Kr a.D7 a.Kq
 Rr:uc K a.Kq ["looks","text","learned"] [.none]
 Q4:uc K a.Kq ["looks","text","learned"] []
 Q5:mg "pressed"=some (.ref a.D7)
 Gp:Dff K mg "bit_by" ysh ["foreteller","seeker"] a.Ks a.Kt
 N5:Dff K mg "sign_by" ytj ["foreteller","seeker"] a.Ku a.Kv
 N6:Dff K mg "text_by" yr2 ["foreteller","seeker","most"] a.Kw a.Kx
 N7:Dff K mg "read_by" ysn ["foreteller","data","most"] a.Ky a.Kz
 D2:Dfm K a.A1 "__init__" "Chain.__init__" ysc ["self","looks"] a.Fl a.L1
 Dn:Dfm K a.A1 "grow" "Chain.grow" ysv ["self","name","text"] a.L3 a.L6
 Gq:Dfm K a.A1 "press" "Chain.press" yrw ["self","name","text"] a.L7 a.L8
 Gr:Dfm K a.A1 "read" "Chain.read" yt2 ["self","name","data","most"] a.L9 a.La
 Do:Dfm K a.A1 "size_with" "Chain.size_with" ysk ["self","text"] a.Lb a.Lc
 N8:Dff K mg "is_name" yty ["thing"] a.Ld a.Le
 Eh:Dff K mg "checked_name" yt6 ["thing"] a.Lf a.Lg
 N9:Dff K mg "check_base" yrq ["thing"] a.Lh a.Li
 Ei:Dfm K a.A8 "__init__" "Piece.__init__" yrs ["self","base","data"] a.Fm a.Lj
 Qn:yax K "__init__" "Store.__init__" yfp a.Ll a.Cz a.Lk
 Rs:uc K a.Lk ["self","looks","most"] [.int 1000 a.Cl]
 Qo:uc K a.Lk ["self","looks","most"] []
 Dp:Dfm K a.A0 "names" "Store.names" ytz ["self"] a.Lm a.Ln
 Qp:yax K "put" "Store.put" yfi a.Lp a.D0 a.Lo
 Qa:uc K a.Lo ["self","name","text","base"] [.none]
 Qq:uc K a.Lo ["self","name","text","base"] []
 Q6:yuk K a.A0 "put" a.D0
 Dq:Dfm K a.A0 "check_length" "Store.check_length" yr3 ["self","text"] a.Lq a.Lr
 Gs:Dfm K a.A0 "check_room" "Store.check_room" ysq ["self","name","base"] a.Ls a.Lt
 Dr:Dfm K a.A0 "piece_at" "Store.piece_at" yr0 ["self","name"] a.Lu a.Lv
 Gt:Dfm K a.A0 "links_to" "Store.links_to" ysl ["self","name"] a.Lx a.Ly
 Co:Dfm K a.A0 "chain_to" "Store.chain_to" ys9 ["self","name"] a.Lz a.M0
 Gu:Dfm K a.A0 "drop" "Store.drop" ytl ["self","name"] a.M4 a.M5
 B6:Dfm K a.A0 "best_base" "Store.best_base" ysf ["self","text"] a.M6 a.M7
 D3:Dff K mg "_law_mixed" yr8 ["_law_script","_law_k"] a.M8 a.M9
 Na:Dff K mg "_law_looks" ys6 ["_law_cell","_law_most"] a.Ma a.Mb
 Nd:Dff K mg "_law_names" ytx ["_law_cell"] a.Mc a.Me
 Nf:Dff K mg "_law_learned_of" ytv ["_law_model_here","_law_base"] a.Mf a.Mg
 Gv:Dff K mg "_law_signs" yuc ["_law_cells","_law_size","_law_some"] a.Mh a.Mi
 Ng:Dff K mg "_law_too_long" yru ["_law_store","_law_text"] a.Mj a.Ml
 Nh:Dff K mg "_law_model" yrx ["_law_script","_law_names_here","_law_some"] a.Mm a.Mn
 Ds:Dff K mg "_law_due_best" yt0 ["_law_looks_here","_law_model_here","_law_text"] a.Mo a.Mq
 Ni:Dff K mg "_law_put_again" yr9 ["_law_store","_law_looks_here","_law_model_here","_law_text"] a.Mr a.Ms
 Gw:Dff K mg "law" yua ["_law_script"] a.O6 a.Fn
 Bc:Cls K a.A6
 Oa:mg "Even"=some (.ref a.A6)
 Ob:Mk K a.A6 a.Fd
 Al:y9 K a.A6 "noughts"
 B8:y9 K a.A6 "ones"
 C1:Cls K a.A5
 Nj:mg "Quick"=some (.ref a.A5)
 Nk:Mk K a.A5 a.Fe
 Ap:y9 K a.A5 "held"
 C7:Cls K a.Ab
 Q7:mg "Run"=some (.ref a.Ab)
 Q8:Mk K a.Ab a.Ff
 Bn:y9 K a.Ab "last"
 Aq:y9 K a.Ab "length"
 C8:Cls K a.Aa
 Oc:mg "Book"=some (.ref a.Aa)
 Od:Mk K a.Aa a.Fg
 Bv:y9 K a.Aa "look"
 Ar:y9 K a.Aa "slots"
 Ej:Cls K a.Bh
 Qr:mg "Mixer"=some (.ref a.Bh)
 Qt:Mk K a.Bh a.Fh
 C2:y9 K a.Bh "kept"
 Ae:Cls K a.A2
 Qc:mg "Foreteller"=some (.ref a.A2)
 Qd:Mk K a.A2 a.Fi
 Aw:y9 K a.A2 "looks"
 Bo:y9 K a.A2 "books"
 Bp:y9 K a.A2 "mixer"
 Bq:y9 K a.A2 "ended"
 Br:y9 K a.A2 "place"
 As:y9 K a.A2 "present"
 Ah:Cls K a.A4
 Oe:mg "Span"=some (.ref a.A4)
 Of:Mk K a.A4 a.Fj
 Bt:y9 K a.A4 "low"
 At:y9 K a.A4 "width"
 B9:y9 K a.A4 "size"
 Bu:Cls K a.Ag
 Rt:mg "Seeker"=some (.ref a.Ag)
 Ru:Mk K a.Ag a.Fk
 Ce:y9 K a.Ag "data"
 Cg:y9 K a.Ag "span"
 Ba:y9 K a.Ag "number"
 Au:y9 K a.Ag "reached"
 Aj:Cls K a.A1
 Et:mg "Chain"=some (.ref a.A1)
 Eu:Mk K a.A1 a.Fl
 Ai:y9 K a.A1 "foreteller"
 Ay:y9 K a.A1 "links"
 Az:y9 K a.A1 "texts"
 Cp:Cls K a.A8
 Pp:mg "Piece"=some (.ref a.A8)
 Pq:Mk K a.A8 a.Fm
 Bd:y9 K a.A8 "base"
 Be:y9 K a.A8 "data"
 A3:Cls K a.A0
 Pr:mg "Store"=some (.ref a.A0)
 Ps:Mk K a.A0 a.Cz
 Am:y9 K a.A0 "looks"
 Bf:y9 K a.A0 "most"
 Av:y9 K a.A0 "pieces"
 An:y9 K a.A0 "chain"
 Rv:mg "NoText"=some (.ref a.Fo)
 Rw:mg "NoBytes"=some (.ref a.En)
 Og:mg "NoMost"=some (.ref a.B0)
 Rx:mg "NoChance"=some (.ref a.D8)
 Ry:mg "NoBit"=some (.ref a.C0)
 Qu:mg "NoLooks"=some (.ref a.Eo)
 Qv:mg "NoPress"=some (.ref a.Ep)
 Oh:mg "NoName"=some (.ref a.Ak)
 Ek:mg "TooLong"=some (.ref a.A9)
 Pt:mg "Taken"=some (.ref a.Ax)
 Qe:mg "Full"=some (.ref a.C9)
 Nt:mg "NoPiece"=some (.ref a.Af)
 Pu:mg "InUse"=some (.ref a.Bb)
 Qw:XCls K a.Fo
 Qf:XMk K a.Fo
 Qx:XCls K a.En
 Qg:XMk K a.En
 Gy:XCls K a.B0
 Dt:XMk K a.B0
 Qy:XCls K a.D8
 Qh:XMk K a.D8
 Qz:XCls K a.C0
 Qi:XMk K a.C0
 R0:XCls K a.Eo
 Pv:XMk K a.Eo
 R1:XCls K a.Ep
 Pw:XMk K a.Ep
 Gz:XCls K a.Ak
 Du:XMk K a.Ak
 El:XCls K a.A9
 Cw:XMk K a.A9
 Nl:XCls K a.Ax
 Ev:XMk K a.Ax
 Oi:XCls K a.C9
 Hf:XMk K a.C9
 Em:XCls K a.Af
 Cy:XMk K a.Af
 Nm:XCls K a.Bb
 Ew:XMk K a.Bb
 Ao:W.exmOne K (.ref a.A9) (.ref a.A9)=some true
 A7:mg "isinstance"=none
 Nn:mg "int"=none
 Hg:mg "bool"=none
 Ad:mg "list"=none
 D4:mg "all"=none
 Ac:mg "len"=none
 No:mg "min"=none
 Np:mg "max"=none
 Nq:mg "str"=none
 Ci:mg "tuple"=none
 Ha:mg "zip"=none
 Dv:mg "sum"=none
 Oj:mg "any"=none
 Bg:mg "range"=none
 Ol:mg "set"=none
 Hh:mg "dict"=none
 D6:mg "LEAST"=some (.int 32768 a.Er)
 Cq:mg "ONE"=some (.int 16777216 a.O7)
 Cr:mg "MOST_SIGNS"=some (.int 1000 a.C3)
 Ex:mg "MOST_BYTES"=some (.int 12000 a.C4)
 Cc:mg "MOST_COUNTED"=some (.int 255 a.Bi)
 Hi:mg "FARTHEST"=some (.int 8 a.Ck)
 E7:mg "MOST_PLACES"=some (.int 4 a.Bw)
 Cs:mg "MOST_LOOKS"=some (.int 6 a.C5)
 Nu:mg "NO_SIGN"=some (.int 256 a.Cu)
 Dw:mg "FIRST_WEIGHT"=some (.int 1099511627776 a.Bj)
 Hb:mg "OWN_PARTS"=some (.int 31 a.Ca)
 Dx:mg "MOST_FIGURES"=some (.int 48 a.Bk)
 D5:mg "NODES_END"=some (.int 256 a.Cb)
 E8:mg "FIRST_WIDTH"=some (.int 1099511627776 a.Bx)
 Ey:mg "FIRST_SIZE"=some (.int 5 a.C6)
 E9:mg "LEAST_WIDTH"=some (.int 4294967296 a.By)
 Dy:mg "MOST_LETTERS"=some (.int 8 a.Bl)
 Nv:mg "LETTERS"=some (.str "abcdefghijklmnopqrstuvwxyz" a.Cv)
 Ea:mg "MOST_PIECES"=some (.int 60 a.Bz)
 Px:mg "KINDS"=some (.ref a.Cd)
 Py:∀ H,SqT K H a.Cd [V.str "even",V.str "quick",V.str "run"]
 Hc:mg "WORTHS"=some (.ref a.Bm)
 Ct:∀ H,SqT K H a.Bm [V.int 128,V.int 64,V.int 32,V.int 16,V.int 8,V.int 4,V.int 2,V.int 1]
section
variable {P:Program} {w:World} {K:W.Frag} {mg:Str->Option Value} {Γ:Heap}
def u6 (v0 v1:V):List (Str × V):=[("noughts",v0),("ones",v1)]
section
variable {H:Hp} {dx:Addr} {v0 v1 v:V} {P:V->Prop} {nx:St->Hp->Prop} {σ:St}
section
variable (T:Txt K mg a) (hp:H p=some (.ins a.A6 dx (u6 v0 v1)))
include T hp
def å (h:P v0):RdX K H p "noughts" P:=rdX hp T.Bc T.Al xl h
def æ (h:vz nx σ (upd H p (.ins a.A6 dx (u6 v v1)))):StX K H p "noughts" v nx σ:=stX hp T.Bc T.Al lt2 zu h
def Ŧ (h:P v1):RdX K H p "ones" P:=rdX hp T.Bc T.B8 (vw (by right) xl) h
def ũ (h:vz nx σ (upd H p (.ins a.A6 dx (u6 v0 v)))):StX K H p "ones" v nx σ:=stX hp T.Bc T.B8 lt2 (vi (by right) zu) h
end
def ç (T:Txt K mg a) (hp:H p=some (.ins a.A6 dx [])) (h:vz nx σ (upd H p (.ins a.A6 dx [("noughts",v)]))):StX K H p "noughts" v nx σ:=stX hp T.Bc T.Al lt0 wo h
def ţ (T:Txt K mg a) (hp:H p=some (.ins a.A6 dx [("noughts",v0)])) (h:vz nx σ (upd H p (.ins a.A6 dx (u6 v0 v)))):StX K H p "ones" v nx σ:=stX hp T.Bc T.B8 lt1 (vi (by right) wo) h
def ę:(u6 v0 v1).lookup ("chance":Str)=none:=(vw (by right) (vw (by right) jn))
def š:(u6 v0 v1).lookup ("seen":Str)=none:=(vw (by right) (vw (by right) jn))
def ť:(u6 v0 v1).lookup ("twin":Str)=none:=(vw (by right) (vw (by right) jn))
end
def x6 (v0:V):List (Str × V):=[("held",v0)]
section
variable {H:Hp} {dx:Addr} {v0 v:V} {P:V->Prop} {nx:St->Hp->Prop} {σ:St}
section
variable (T:Txt K mg a) (hp:H p=some (.ins a.A5 dx (x6 v0)))
include T hp
def ł (h:P v0):RdX K H p "held" P:=rdX hp T.C1 T.Ap xl h
def ľ (h:vz nx σ (upd H p (.ins a.A5 dx (x6 v)))):StX K H p "held" v nx σ:=stX hp T.C1 T.Ap lt1 zu h
end
def ĺ (T:Txt K mg a) (hp:H p=some (.ins a.A5 dx [])) (h:vz nx σ (upd H p (.ins a.A5 dx (x6 v)))):StX K H p "held" v nx σ:=stX hp T.C1 T.Ap lt0 wo h
def ì:(x6 v0).lookup ("chance":Str)=none:=(vw (by right) jn)
def Ķ:(x6 v0).lookup ("seen":Str)=none:=(vw (by right) jn)
def ĸ:(x6 v0).lookup ("twin":Str)=none:=(vw (by right) jn)
end
def Í (v0 v1:V):List (Str × V):=[("last",v0),("length",v1)]
section
variable {H:Hp} {dx:Addr} {v0 v1 v:V} {P:V->Prop} {nx:St->Hp->Prop} {σ:St}
section
variable (T:Txt K mg a) (hp:H p=some (.ins a.Ab dx (Í v0 v1)))
include T hp
def ya6 (h:P v0):RdX K H p "last" P:=rdX hp T.C7 T.Bn xl h
def ybq (h:vz nx σ (upd H p (.ins a.Ab dx (Í v v1)))):StX K H p "last" v nx σ:=stX hp T.C7 T.Bn lt2 zu h
def ĳ (h:P v1):RdX K H p "length" P:=rdX hp T.C7 T.Aq (vw (by right) xl) h
def Ĳ (h:vz nx σ (upd H p (.ins a.Ab dx (Í v0 v)))):StX K H p "length" v nx σ:=stX hp T.C7 T.Aq lt2 (vi (by right) zu) h
end
def ya5 (T:Txt K mg a) (hp:H p=some (.ins a.Ab dx [])) (h:vz nx σ (upd H p (.ins a.Ab dx [("last",v)]))):StX K H p "last" v nx σ:=stX hp T.C7 T.Bn lt0 wo h
def Ł (T:Txt K mg a) (hp:H p=some (.ins a.Ab dx [("last",v0)])) (h:vz nx σ (upd H p (.ins a.Ab dx (Í v0 v)))):StX K H p "length" v nx σ:=stX hp T.C7 T.Aq lt1 (vi (by right) wo) h
def ķ:(Í v0 v1).lookup ("chance":Str)=none:=(vw (by right) (vw (by right) jn))
def yba:(Í v0 v1).lookup ("seen":Str)=none:=(vw (by right) (vw (by right) jn))
def ybd:(Í v0 v1).lookup ("twin":Str)=none:=(vw (by right) (vw (by right) jn))
end
def yae (v0 v1:V):List (Str × V):=[("look",v0),("slots",v1)]
section
variable {H:Hp} {dx:Addr} {v0 v1 v:V} {P:V->Prop} {nx:St->Hp->Prop} {σ:St}
section
variable (T:Txt K mg a) (hp:H p=some (.ins a.Aa dx (yae v0 v1)))
include T hp
def ş (h:P v0):RdX K H p "look" P:=rdX hp T.C8 T.Bv xl h
def ņ (h:P v1):RdX K H p "slots" P:=rdX hp T.C8 T.Ar (vw (by right) xl) h
def Ĵ (h:vz nx σ (upd H p (.ins a.Aa dx (yae v0 v)))):StX K H p "slots" v nx σ:=stX hp T.C8 T.Ar lt2 (vi (by right) zu) h
end
def Ţ (T:Txt K mg a) (hp:H p=some (.ins a.Aa dx [])) (h:vz nx σ (upd H p (.ins a.Aa dx [("look",v)]))):StX K H p "look" v nx σ:=stX hp T.C8 T.Bv lt0 wo h
def Ŀ (T:Txt K mg a) (hp:H p=some (.ins a.Aa dx [("look",v0)])) (h:vz nx σ (upd H p (.ins a.Aa dx (yae v0 v)))):StX K H p "slots" v nx σ:=stX hp T.C8 T.Ar lt1 (vi (by right) wo) h
def yqd {nm:Str} (hp:H p=some (.ins C dx (yae v0 v1))) (n:nm∉(["look","slots"]:List Str)) (h:R):MtX H p C nm R:=mtX hp rfl n h
end
def vaw (v0:V):List (Str × V):=[("kept",v0)]
section
variable {H:Hp} {dx:Addr} {v0 v:V} {P:V->Prop} {nx:St->Hp->Prop} {σ:St}
section
variable (T:Txt K mg a) (hp:H p=some (.ins a.Bh dx (vaw v0)))
include T hp
def yes (h:P v0):RdX K H p "kept" P:=rdX hp T.Ej T.C2 xl h
def yeh (h:vz nx σ (upd H p (.ins a.Bh dx (vaw v)))):StX K H p "kept" v nx σ:=stX hp T.Ej T.C2 lt1 zu h
end
def yeo (T:Txt K mg a) (hp:H p=some (.ins a.Bh dx [])) (h:vz nx σ (upd H p (.ins a.Bh dx (vaw v)))):StX K H p "kept" v nx σ:=stX hp T.Ej T.C2 lt0 wo h
def vbq {nm:Str} (hp:H p=some (.ins C dx (vaw v0))) (n:nm∉(["kept"]:List Str)) (h:R):MtX H p C nm R:=mtX hp rfl n h
end
def uy (v0 v1 v2 v3 v4 v5:V):List (Str × V):=[("looks",v0),("books",v1),("mixer",v2),("ended",v3),("place",v4),("present",v5)]
section
variable {H:Hp} {dx:Addr} {v0 v1 v2 v3 v4 v5 v:V} {P:V->Prop} {nx:St->Hp->Prop} {σ:St}
section
variable (T:Txt K mg a) (hp:H p=some (.ins a.A2 dx (uy v0 v1 v2 v3 v4 v5)))
include T hp
def ybo (h:P v0):RdX K H p "looks" P:=rdX hp T.Ae T.Aw xl h
def ybe (h:P v1):RdX K H p "books" P:=rdX hp T.Ae T.Bo (vw (by right) xl) h
def ya2 (h:vz nx σ (upd H p (.ins a.A2 dx (uy v0 v v2 v3 v4 v5)))):StX K H p "books" v nx σ:=stX hp T.Ae T.Bo lt6 (vi (by right) zu) h
def ybm (h:P v2):RdX K H p "mixer" P:=rdX hp T.Ae T.Bp (vw (by right) (vw (by right) xl)) h
def ybh (h:vz nx σ (upd H p (.ins a.A2 dx (uy v0 v1 v v3 v4 v5)))):StX K H p "mixer" v nx σ:=stX hp T.Ae T.Bp lt6 (vi (by right) (vi (by right) zu)) h
def ya8 (h:P v3):RdX K H p "ended" P:=rdX hp T.Ae T.Bq (vw (by right) (vw (by right) (vw (by right) xl))) h
def ya1 (h:vz nx σ (upd H p (.ins a.A2 dx (uy v0 v1 v2 v v4 v5)))):StX K H p "ended" v nx σ:=stX hp T.Ae T.Bq lt6 (vi (by right) (vi (by right) (vi (by right) zu))) h
def ybr (h:P v4):RdX K H p "place" P:=rdX hp T.Ae T.Br (vw (by right) (vw (by right) (vw (by right) (vw (by right) xl)))) h
def ya9 (h:vz nx σ (upd H p (.ins a.A2 dx (uy v0 v1 v2 v3 v v5)))):StX K H p "place" v nx σ:=stX hp T.Ae T.Br lt6 (vi (by right) (vi (by right) (vi (by right) (vi (by right) zu)))) h
def ŀ (h:P v5):RdX K H p "present" P:=rdX hp T.Ae T.As (vw (by right) (vw (by right) (vw (by right) (vw (by right) (vw (by right) xl))))) h
def ļ (h:vz nx σ (upd H p (.ins a.A2 dx (uy v0 v1 v2 v3 v4 v)))):StX K H p "present" v nx σ:=stX hp T.Ae T.As lt6 (vi (by right) (vi (by right) (vi (by right) (vi (by right) (vi (by right) zu))))) h
end
def ybc (T:Txt K mg a) (hp:H p=some (.ins a.A2 dx [])) (h:vz nx σ (upd H p (.ins a.A2 dx [("looks",v)]))):StX K H p "looks" v nx σ:=stX hp T.Ae T.Aw lt0 wo h
def ybt (T:Txt K mg a) (hp:H p=some (.ins a.A2 dx [("looks",v0)])) (h:vz nx σ (upd H p (.ins a.A2 dx [("looks",v0),("books",v)]))):StX K H p "books" v nx σ:=stX hp T.Ae T.Bo lt1 (vi (by right) wo) h
def ybf (T:Txt K mg a) (hp:H p=some (.ins a.A2 dx [("looks",v0),("books",v1)])) (h:vz nx σ (upd H p (.ins a.A2 dx [("looks",v0),("books",v1),("mixer",v)]))):StX K H p "mixer" v nx σ:=stX hp T.Ae T.Bp lt2 (vi (by right) (vi (by right) wo)) h
def ybj (T:Txt K mg a) (hp:H p=some (.ins a.A2 dx [("looks",v0),("books",v1),("mixer",v2)])) (h:vz nx σ (upd H p (.ins a.A2 dx [("looks",v0),("books",v1),("mixer",v2),("ended",v)]))):StX K H p "ended" v nx σ:=stX hp T.Ae T.Bq lt3 (vi (by right) (vi (by right) (vi (by right) wo))) h
def ybl (T:Txt K mg a) (hp:H p=some (.ins a.A2 dx [("looks",v0),("books",v1),("mixer",v2),("ended",v3)])) (h:vz nx σ (upd H p (.ins a.A2 dx [("looks",v0),("books",v1),("mixer",v2),("ended",v3),("place",v)]))):StX K H p "place" v nx σ:=stX hp T.Ae T.Br lt4 (vi (by right) (vi (by right) (vi (by right) (vi (by right) wo)))) h
def Ľ (T:Txt K mg a) (hp:H p=some (.ins a.A2 dx [("looks",v0),("books",v1),("mixer",v2),("ended",v3),("place",v4)])) (h:vz nx σ (upd H p (.ins a.A2 dx (uy v0 v1 v2 v3 v4 v)))):StX K H p "present" v nx σ:=stX hp T.Ae T.As lt5 (vi (by right) (vi (by right) (vi (by right) (vi (by right) (vi (by right) wo))))) h
def vbr {nm:Str} (hp:H p=some (.ins C dx (uy v0 v1 v2 v3 v4 v5))) (n:nm∉(["looks","books","mixer","ended","place","present"]:List Str)) (h:R):MtX H p C nm R:=mtX hp rfl n h
end
def yjz (v0 v1 v2 v3:V):List (Str × V):=[("data",v0),("span",v1),("number",v2),("reached",v3)]
section
variable {H:Hp} {dx:Addr} {v0 v1 v2 v3 v:V} {P:V->Prop} {nx:St->Hp->Prop} {σ:St}
section
variable (T:Txt K mg a) (hp:H p=some (.ins a.Ag dx (yjz v0 v1 v2 v3)))
include T hp
def ye1 (h:P v0):RdX K H p "data" P:=rdX hp T.Bu T.Ce xl h
def yff (h:P v1):RdX K H p "span" P:=rdX hp T.Bu T.Cg (vw (by right) xl) h
def ŧ (h:P v2):RdX K H p "number" P:=rdX hp T.Bu T.Ba (vw (by right) (vw (by right) xl)) h
def Š (h:vz nx σ (upd H p (.ins a.Ag dx (yjz v0 v1 v v3)))):StX K H p "number" v nx σ:=stX hp T.Bu T.Ba lt4 (vi (by right) (vi (by right) zu)) h
def ŉ (h:P v3):RdX K H p "reached" P:=rdX hp T.Bu T.Au (vw (by right) (vw (by right) (vw (by right) xl))) h
def Ļ (h:vz nx σ (upd H p (.ins a.Ag dx (yjz v0 v1 v2 v)))):StX K H p "reached" v nx σ:=stX hp T.Bu T.Au lt4 (vi (by right) (vi (by right) (vi (by right) zu))) h
end
def yew (T:Txt K mg a) (hp:H p=some (.ins a.Ag dx [])) (h:vz nx σ (upd H p (.ins a.Ag dx [("data",v)]))):StX K H p "data" v nx σ:=stX hp T.Bu T.Ce lt0 wo h
def yec (T:Txt K mg a) (hp:H p=some (.ins a.Ag dx [("data",v0)])) (h:vz nx σ (upd H p (.ins a.Ag dx [("data",v0),("span",v)]))):StX K H p "span" v nx σ:=stX hp T.Bu T.Cg lt1 (vi (by right) wo) h
def Ū (T:Txt K mg a) (hp:H p=some (.ins a.Ag dx [("data",v0),("span",v1)])) (h:vz nx σ (upd H p (.ins a.Ag dx [("data",v0),("span",v1),("number",v)]))):StX K H p "number" v nx σ:=stX hp T.Bu T.Ba lt2 (vi (by right) (vi (by right) wo)) h
def Ĺ (T:Txt K mg a) (hp:H p=some (.ins a.Ag dx [("data",v0),("span",v1),("number",v2)])) (h:vz nx σ (upd H p (.ins a.Ag dx (yjz v0 v1 v2 v)))):StX K H p "reached" v nx σ:=stX hp T.Bu T.Au lt3 (vi (by right) (vi (by right) (vi (by right) wo))) h
def vbd {nm:Str} (hp:H p=some (.ins C dx (yjz v0 v1 v2 v3))) (n:nm∉(["data","span","number","reached"]:List Str)) (h:R):MtX H p C nm R:=mtX hp rfl n h
end
def z6 (v0 v1 v2:V):List (Str × V):=[("foreteller",v0),("links",v1),("texts",v2)]
section
variable {H:Hp} {dx:Addr} {v0 v1 v2 v:V} {P:V->Prop} {nx:St->Hp->Prop} {σ:St}
section
variable (T:Txt K mg a) (hp:H p=some (.ins a.A1 dx (z6 v0 v1 v2)))
include T hp
def ju (h:P v0):RdX K H p "foreteller" P:=rdX hp T.Aj T.Ai xl h
def đ (h:P v1):RdX K H p "links" P:=rdX hp T.Aj T.Ay (vw (by right) xl) h
def Đ (h:P v2):RdX K H p "texts" P:=rdX hp T.Aj T.Az (vw (by right) (vw (by right) xl)) h
end
def jt (T:Txt K mg a) (hp:H p=some (.ins a.A1 dx [])) (h:vz nx σ (upd H p (.ins a.A1 dx [("foreteller",v)]))):StX K H p "foreteller" v nx σ:=stX hp T.Aj T.Ai lt0 wo h
def ē (T:Txt K mg a) (hp:H p=some (.ins a.A1 dx [("foreteller",v0)])) (h:vz nx σ (upd H p (.ins a.A1 dx [("foreteller",v0),("links",v)]))):StX K H p "links" v nx σ:=stX hp T.Aj T.Ay lt1 (vi (by right) wo) h
def Ė (T:Txt K mg a) (hp:H p=some (.ins a.A1 dx [("foreteller",v0),("links",v1)])) (h:vz nx σ (upd H p (.ins a.A1 dx (z6 v0 v1 v)))):StX K H p "texts" v nx σ:=stX hp T.Aj T.Az lt2 (vi (by right) (vi (by right) wo)) h
def ylz {nm:Str} (hp:H p=some (.ins C dx (z6 v0 v1 v2))) (n:nm∉(["foreteller","links","texts"]:List Str)) (h:R):MtX H p C nm R:=mtX hp rfl n h
end
def ă (v0 v1:V):List (Str × V):=[("base",v0),("data",v1)]
section
variable {H:Hp} {dx:Addr} {v0 v1 v:V} {P:V->Prop} {nx:St->Hp->Prop} {σ:St}
section
variable (T:Txt K mg a) (hp:H p=some (.ins a.A8 dx (ă v0 v1)))
include T hp
def ň (h:P v0):RdX K H p "base" P:=rdX hp T.Cp T.Bd xl h
def Ŋ (h:P v1):RdX K H p "data" P:=rdX hp T.Cp T.Be (vw (by right) xl) h
end
def Ň (T:Txt K mg a) (hp:H p=some (.ins a.A8 dx [])) (h:vz nx σ (upd H p (.ins a.A8 dx [("base",v)]))):StX K H p "base" v nx σ:=stX hp T.Cp T.Bd lt0 wo h
def ń (T:Txt K mg a) (hp:H p=some (.ins a.A8 dx [("base",v0)])) (h:vz nx σ (upd H p (.ins a.A8 dx (ă v0 v)))):StX K H p "data" v nx σ:=stX hp T.Cp T.Be lt1 (vi (by right) wo) h
end
def xc (v0 v1 v2 v3:V):List (Str × V):=[("looks",v0),("most",v1),("pieces",v2),("chain",v3)]
section
variable {H:Hp} {dx:Addr} {v0 v1 v2 v3 v:V} {P:V->Prop} {nx:St->Hp->Prop} {σ:St}
section
variable (T:Txt K mg a) (hp:H p=some (.ins a.A0 dx (xc v0 v1 v2 v3)))
include T hp
def Ē (h:P v0):RdX K H p "looks" P:=rdX hp T.A3 T.Am xl h
def Ń (h:P v1):RdX K H p "most" P:=rdX hp T.A3 T.Bf (vw (by right) xl) h
def ê (h:P v2):RdX K H p "pieces" P:=rdX hp T.A3 T.Av (vw (by right) (vw (by right) xl)) h
def Ĕ (h:P v3):RdX K H p "chain" P:=rdX hp T.A3 T.An (vw (by right) (vw (by right) (vw (by right) xl))) h
def Ę (h:vz nx σ (upd H p (.ins a.A0 dx (xc v0 v1 v2 v)))):StX K H p "chain" v nx σ:=stX hp T.A3 T.An lt4 (vi (by right) (vi (by right) (vi (by right) zu))) h
end
def Ě (T:Txt K mg a) (hp:H p=some (.ins a.A0 dx [])) (h:vz nx σ (upd H p (.ins a.A0 dx [("looks",v)]))):StX K H p "looks" v nx σ:=stX hp T.A3 T.Am lt0 wo h
def ĵ (T:Txt K mg a) (hp:H p=some (.ins a.A0 dx [("looks",v0)])) (h:vz nx σ (upd H p (.ins a.A0 dx [("looks",v0),("most",v)]))):StX K H p "most" v nx σ:=stX hp T.A3 T.Bf lt1 (vi (by right) wo) h
def ë (T:Txt K mg a) (hp:H p=some (.ins a.A0 dx [("looks",v0),("most",v1)])) (h:vz nx σ (upd H p (.ins a.A0 dx [("looks",v0),("most",v1),("pieces",v)]))):StX K H p "pieces" v nx σ:=stX hp T.A3 T.Av lt2 (vi (by right) (vi (by right) wo)) h
def ĕ (T:Txt K mg a) (hp:H p=some (.ins a.A0 dx [("looks",v0),("most",v1),("pieces",v2)])) (h:vz nx σ (upd H p (.ins a.A0 dx (xc v0 v1 v2 v)))):StX K H p "chain" v nx σ:=stX hp T.A3 T.An lt3 (vi (by right) (vi (by right) (vi (by right) wo))) h
def ykm {nm:Str} (hp:H p=some (.ins C dx (xc v0 v1 v2 v3))) (n:nm∉(["looks","most","pieces","chain"]:List Str)) (h:R):MtX H p C nm R:=mtX hp rfl n h
end
local macro_rules | `(tactic| walk_at "f1")=>`(tactic| first
 | exists 1,"å Ŧ ł ya6 ĳ ş ņ yes ybo ybe ybm ya8 ybr ŀ ye1 yff ŧ ŉ ju đ Đ ň Ŋ Ē Ń ê Ĕ")
local macro_rules | `(tactic| walk_at "f2")=>`(tactic| first
 | exists 1,"æ ç ũ ţ ľ ĺ ybq ya5 Ĳ Ł Ţ Ĵ Ŀ yeh yeo ybc ya2 ybt ybh ybf ya1 ybj ya9 ybl ļ Ľ yew yec Š Ū Ļ Ĺ jt ē Ė Ň ń Ě ĵ ë Ę ĕ")
local macro_rules | `(tactic| walk_at "f3")=>`(tactic| first
 | exists 3,"yqd vbq vbr vbd ylz ykm")
local macro_rules | `(tactic| walk_at "rd1")=>`(tactic| first | ((with_reducible refine gRd ?_); walk_at "f1") | ((with_reducible refine gSt ?_); walk_at "f2") | ((with_reducible refine gMt ?_); walk_at "f3"))
open SpanMath
def But (p:Addr) (H H':Hp):Prop:=∀ b o,H b=some o->b≠p->H' b=some o
def But.refl {H:Hp}:But p H H:=fun _ _ h _=>h
def But.of {H H':Hp} (s:yv H H'):But p H H':=fun b o h _=>s b o h
def But.trans {H H1 H2:Hp} (x:But p H H1) (y:But p H1 H2):But p H H2:=fun b o h n=>y b o (x b o h n) n
theorem But.upd {H:Hp} {o:HO}:But p H (L2.upd H p o):=fun b u h n=>by rw [yk n]; exact h
theorem But.lst {l dx:Addr} {fs:List (Str × V)} {H H':Hp} {xs:List V} (e:But p H H') (hp:H p=some (.ins C dx fs)) (h:H l=some (.lst xs)):H' l=some (.lst xs):=e _ _ h (ww h hp (by intro z; cases z))
def u4 {x:V} (h:jp x=true):∃ i,x=.int i:=by
 cases x with
 | int i=>exists i,rfl
 | _=>cases h
def Þ:V->Bool
 | .int i=>decide (0 <= i) && decide (i <= 1)
 | _=>false
def chV:V->Bool
 | .int i=>decide (32768 <= i) && decide (i <= 16744448)
 | _=>false
inductive yus (K:W.Frag) (vs:List V) (H:Hp) (Q:VK) (E':XK):Prop
 | mk (x n:_) (_:vs=[x]) (_:xo K H x (.type n)) (_:Q (.bl (jp x)) H)
def z9 (x:Sn):List (Str × V):=[("low",.int x.1),("width",.int x.2.1),("size",.int x.2.2)]
def nWL:¬ (("width":Str)="low"):=by right
def nLW:¬ (("low":Str)="width"):=by right
def nSL:¬ (("size":Str)="low"):=by right
def nLS:¬ (("low":Str)="size"):=by right
def nSW:¬ (("size":Str)="width"):=by right
def nWS:¬ (("width":Str)="size"):=by right
def lkL (x:Sn):(z9 x).lookup ("low":Str)=some (.int x.1):=xl
def lkW (x:Sn):(z9 x).lookup ("width":Str)=some (.int x.2.1):=vw nWL xl
def lkS (x:Sn):(z9 x).lookup ("size":Str)=some (.int x.2.2):=vw nSL (vw nSW xl)
def lkN (x:Sn) {m:Str} (h1:¬ m="low") (h2:¬ m="width") (h3:¬ m="size"):(z9 x).lookup m=none:=vw h1 (vw h2 (vw h3 jn))
def pfL (x:Sn) (v:Int):ji "low" (.int v) (z9 x)=z9 (v,x.2.1,x.2.2):=zu
def pfW (x:Sn) (v:Int):ji "width" (.int v) (z9 x)=z9 (x.1,v,x.2.2):=vi nLW zu
def pfS (x:Sn) (v:Int):ji "size" (.int v) (z9 x)=z9 (x.1,x.2.1,v):=vi nLS (vi nWS zu)
section
variable {H:Hp} {dx:Addr} {x:Sn} {P:V->Prop} {nx:St->Hp->Prop} {σ:St} {v:Int}
def rdL (T:Txt K mg a) (hp:H p=some (.ins a.A4 dx (z9 x))) (h:P (.int x.1)) :
  ∃ a' C dx fs v,V.ref p=.ref a'/\H a'=some (.ins C dx fs)/\Cls K C/\y9 K C "low"/\fs.lookup ("low":Str)=some v/\P v:=⟨p,_,dx,_,_,rfl,hp,T.Ah,T.Bt,lkL x,h⟩
def rdW (T:Txt K mg a) (hp:H p=some (.ins a.A4 dx (z9 x))) (h:P (.int x.2.1)) :
  ∃ a' C dx fs v,V.ref p=.ref a'/\H a'=some (.ins C dx fs)/\Cls K C/\y9 K C "width"/\fs.lookup ("width":Str)=some v/\P v:=⟨p,_,dx,_,_,rfl,hp,T.Ah,T.At,lkW x,h⟩
def rdS (T:Txt K mg a) (hp:H p=some (.ins a.A4 dx (z9 x))) (h:P (.int x.2.2)) :
  ∃ a' C dx fs v,V.ref p=.ref a'/\H a'=some (.ins C dx fs)/\Cls K C/\y9 K C "size"/\fs.lookup ("size":Str)=some v/\P v:=⟨p,_,dx,_,_,rfl,hp,T.Ah,T.B9,lkS x,h⟩
def vew (T:Txt K mg a) (hp:H p=some (.ins a.A4 dx (z9 x))) (h:vz nx σ (upd H p (.ins a.A4 dx (z9 (v,x.2.1,x.2.2))))) :
  ∃ a' C dx fs,V.ref p=.ref a'/\H a'=some (.ins C dx fs)/\Cls K C/\y9 K C "low"/\fs.length < 1000/\vz nx σ (upd H a' (.ins C dx (ji "low" (.int v) fs))):=⟨p,_,dx,z9 x,rfl,hp,T.Ah,T.Bt,by show 3 < 1000; decide,by rw [pfL]; exact h⟩
def vea (T:Txt K mg a) (hp:H p=some (.ins a.A4 dx (z9 x))) (h:vz nx σ (upd H p (.ins a.A4 dx (z9 (x.1,v,x.2.2))))) :
  ∃ a' C dx fs,V.ref p=.ref a'/\H a'=some (.ins C dx fs)/\Cls K C/\y9 K C "width"/\fs.length < 1000/\vz nx σ (upd H a' (.ins C dx (ji "width" (.int v) fs))):=⟨p,_,dx,z9 x,rfl,hp,T.Ah,T.At,by show 3 < 1000; decide,by rw [pfW]; exact h⟩
def vei (T:Txt K mg a) (hp:H p=some (.ins a.A4 dx (z9 x))) (h:vz nx σ (upd H p (.ins a.A4 dx (z9 (x.1,x.2.1,v))))) :
  ∃ a' C dx fs,V.ref p=.ref a'/\H a'=some (.ins C dx fs)/\Cls K C/\y9 K C "size"/\fs.length < 1000/\vz nx σ (upd H a' (.ins C dx (ji "size" (.int v) fs))):=⟨p,_,dx,z9 x,rfl,hp,T.Ah,T.B9,by show 3 < 1000; decide,by rw [pfS]; exact h⟩
end
local macro_rules | `(tactic| walk_at "rd1")=>`(tactic| first
 | exists 1,"rdL rdW rdS vew vea"
 | (with_reducible refine' vei (by assumption) ?rdh ?_; (case rdh=>first | assumption | exact ya)))
inductive Slt where
 | ev (n o:Int)
 | qk (h:Int)
 | rn (l n:Int)
def Slt.ok:Slt->Prop
 | .ev n o=>0 <= n/\0 <= o/\n+o <= 255
 | .qk h=>32768 <= h/\h <= 16744448
 | .rn l n=>0 <= l/\l <= 1/\0 <= n/\n <= 255
def Ò (n:Int):Int:=(2 * n+1) * 16777216 / (2 * n+2)
def Slt.due:Slt->Int
 | .ev n o=>(2 * o+1) * 16777216 / (2 * (n+o)+2)
 | .qk h=>h
 | .rn l n=>if l=1 then Ò n else 16777216 - Ò n
def ycd (n o:Int):Slt:=if 255 < n+o then .ev ((n+1) / 2) ((o+1) / 2) else .ev n o
def ydv (m:Int):Int:=if 16744448 < (if 32768 > m then 32768 else m) then 16744448 else (if 32768 > m then 32768 else m)
def Slt.see:Slt->Int->Slt
 | .ev n o,b=>if b=1 then ycd n (o+1) else ycd (n+1) o
 | .qk h,b=>.qk (ydv (if b=1 then h+(16777216 - h) / 16 else h - h / 16))
 | .rn l n,b=>if b=l then .rn l (if 255 < n+1 then 255 else n+1) else .rn b 1
def oS (a:Ads) (dx:Addr):Slt->HO
 | .ev n o=>.ins a.A6 dx (u6 (.int n) (.int o))
 | .qk h=>.ins a.A5 dx (x6 (.int h))
 | .rn l n=>.ins a.Ab dx (Í (.int l) (.int n))
def yc3 {n o:Int} (h1:0 <= n) (h2:0 <= o) (h3:n+o <= 256):(ycd n o).ok:=by
 unfold ycd
 split
 .exists by omega,by omega,by omega
 .exists h1,h2,by omega
def yf1 (m:Int):32768 <= ydv m/\ydv m <= 16744448:=by
 unfold ydv
 split <;> split <;> omega
def Slt.see_ok {s:Slt} {b:Int} (h:s.ok) (b0:0 <= b) (b1:b <= 1):(s.see b).ok:=by
 cases s with
 | ev n o =>
  obtain ⟨a,c,d⟩:=h;unfold Slt.see;dsimp only
  split
  .exact yc3 a (by omega) (by omega)
  .exact yc3 (by omega) c (by omega)
 | qk h0=>exact yf1 _
 | rn l n =>
  obtain ⟨a,c,d,e⟩:=h;unfold Slt.see;dsimp only
  split
  .refine ⟨a,c,?_,?_⟩ <;> split <;> omega
  .exists b0,b1,by decide,by decide
def kdS:Fin 3->Str
 | 0=>"even"
 | 1=>"quick"
 | 2=>"run"
def kd0:Fin 3->Slt
 | 0=>.ev 0 0
 | 1=>.qk 8388608
 | 2=>.rn 1 0
def yoq (k:Fin 3):(kd0 k).ok:=by
 match k with
 | 0=>exists by decide,by decide,by decide
 | 1=>exists by decide,by decide
 | 2=>exists by decide,by decide,by decide,by decide
def yvx {b:Int} (b0:0 <= b) (b1:b <= 1):Þ (.int b)=true:=by
 simp only [Þ,db,decide_eq_true_eq];omega
def yds {x:V} (h:Þ x=true):∃ b:Int,x=.int b/\0 <= b/\b <= 1:=by
 cases x with
 | int i =>
  simp only [Þ,db,decide_eq_true_eq] at h;exact ⟨i,rfl,h.1,h.2⟩
 | _=>cases h
inductive Ő (C:Addr) (F:List (Str × V)) (vs:List V) (H:Hp) (Q:VK) (E':XK):Prop
 | mk (p dx:Addr) (_:vs=[.ref p]) (_:H p=some (.ins C dx [])) (_:∀ H',H' p=some (.ins C dx F)->But p H H'->Q .non H')
inductive x3 (o:Addr->Slt->HO) (g:Slt->Prop) (vs:List V) (H:Hp) (Q:VK) (E':XK):Prop
 | mk (p dx:Addr) (s:Slt) (_:vs=[.ref p]) (_:g s) (_:s.ok) (_:H p=some (o dx s)) (_:Q (.int s.due) H)
inductive jh (K:W.Frag) (o:Addr->Slt->HO) (g:Slt->Prop) (C:Addr) (vs:List V) (H:Hp) (Q:VK) (E:XK):Prop
 | mk (p dx:Addr) (s:Slt) (x:V) (n:String) (_:vs=[.ref p,x]) (_:g s) (_:s.ok) (_:H p=some (o dx s)) (_:xo K H x (.type n)) (_:(∀ b:Int,x=.int b->0 <= b->b <= 1->∀ H',H' p=some (o dx (s.see b))->But p H H'->Q .non H')) (_:(Þ x=false->E (.ref C) none H))
def yuq:Slt->Prop
 | .ev _ _=>True
 | _=>False
def yum:Slt->Prop
 | .qk _=>True
 | _=>False
def yul:Slt->Prop
 | .rn _ _=>True
 | _=>False
def yaz (bs:List Int):Prop:=∀ b∈bs,0 <= b/\b <= 1
def Æ {n:Nat} (h:n <= 16000000):n <= sizeLine:=dh h (by decide)
def vd {n:Nat} (h:n <= 16000000):n < sizeLine:=Nat.lt_of_le_of_lt h (by decide)
def jm {ns:List Int} {x:V} (h:(ns.map V.int)[i]?=some x):∃ n,x=.int n/\n∈ns/\ns[i]?=some n/\i < ns.length:=by
 rw [cG] at h
 cases e:ns[i]? with
 | none=>rw [e] at h; cases h
 | some n =>
  rw [e] at h
  have a:i < ns.length:=by
   rcases Nat.lt_or_ge i ns.length with q | q
   .exact q
   .rw [dn q] at e; cases e
  exists n,(cS h).symm,cR e,rfl,a
def Ã {l:List Int} {q:Int} (h:l[i]?=some q):l.take (i+1)=l.take i++[q]:=by
 rw [List.take_add_one,h];rfl
def ykl {ys:List Int} (h1:yaz xs) (h2:yaz ys):yaz (xs++ys):=fun b a=>by
 rcases c7.mp a with h | h
 .exact h1 b h
 .exact h2 b h
def ø (c:Int) (n:Nat):(List.replicate n [V.int c]).flatten=(List.replicate n c).map V.int:=by
 induction n with
 | zero=>rfl
 | succ n ih=>rw [dB,List.flatten_cons,ih,dB]; rfl
def yo1 (sg:List Int) (p:Int):Int:=if p <= sg.length then (atI sg (-p)).getD 256 else 256
def ypl {α β:Type} (f:α->β) (xs:List α) (i:Int):atI (xs.map f) i=(atI xs i).map f:=by
 unfold atI;rw [cA]
 cases ixN xs.length i with
 | none=>rfl
 | some j =>
  show (xs.map f)[j]?=(xs[j]?).map f;rw [cG]
def ykx {sg:List Int} {p:Int} (h1:1 <= p) (h2:p <= sg.length):∃ c,atI sg (-p)=some c/\c∈sg:=by
 unfold atI ixN;rw [if_neg (by omega)];by_cases h:-(sg.length:Int) <= -p
 .rw [if_pos (by omega)];have a:((-p+(sg.length:Int)).toNat) < sg.length:=by omega
  exists _,cC a,dw a
 .omega
def Slt.kind:Slt->Fin 3
 | .ev _ _=>0
 | .qk _=>1
 | .rn _ _=>2
def yka (s:Slt) (b:Int):(s.see b).kind=s.kind:=by
 cases s with
 | ev n o =>
  unfold Slt.see ycd;dsimp only
  split <;> split <;> rfl
 | qk h=>rfl
 | rn l n =>
  unfold Slt.see;dsimp only
  split <;> rfl
def yl0 (k:Fin 3):(kd0 k).kind=k:=by
 match k with
 | 0=>rfl
 | 1=>rfl
 | 2=>rfl
def π (a:Ads) (dx:Addr) (s:Slt):∃ C fs,oS a dx s=.ins C dx fs:=by
 cases s <;> exact ⟨_,_,rfl⟩
def yd4 {s:Slt} (h:s.ok):32768 <= s.due/\s.due <= 16744448:=by
 cases s with
 | ev n o =>
  obtain ⟨c,b,d⟩:=h;unfold Slt.due;dsimp only;have a:(0:Int) < 2 * (n+o)+2:=by omega
  constructor
  .rw [Int.le_ediv_iff_mul_le a];omega
  .have:(2 * o+1) * 16777216 / (2 * (n+o)+2) < 16744449:=by
    rw [Int.ediv_lt_iff_lt_mul a];omega
   omega
 | qk h0=>exact h
 | rn l n =>
  obtain ⟨c,b,d,e⟩:=h;have a:(0:Int) < 2 * n+2:=by omega
  have g1:8388608 <= Ò n:=by
   unfold Ò;rw [Int.le_ediv_iff_mul_le a];omega
  have g2:Ò n < 16744449:=by
   unfold Ò;rw [Int.ediv_lt_iff_lt_mul a];omega
  unfold Slt.due;dsimp only
  split <;> omega
def yhk {dx:Addr} {s:Slt} {ta:TE} {σ:St} {H:Hp} {Q:VK} {E1 E2 E3:XK} (hta:∀ Q':VK,Q' (.ref p) H->ta σ H Q') (hp:H p=some (oS a dx s)) (ok:s.ok) (h:Q (.int s.due) H) :
  yml (Ğ a.A6 "chance" (x3 (oS a) yuq) [] E1 ta yjy) (yml (Ğ a.A5 "chance" (x3 (oS a) yum) [] E2 ta yjy) (Ğ a.Ab "chance" (x3 (oS a) yul) [] E3 ta yjy)) σ H Q:=by
 cases s with
 | ev n o=>exact į (ć (hta _ ⟨p,dx,_,rfl,hp,ę,p,dx,.ev n o,rfl,trivial,ok,hp,h⟩))
 | qk h0=>exact ρ (į (ć (hta _ ⟨p,dx,_,rfl,hp,ì,p,dx,.qk h0,rfl,trivial,ok,hp,h⟩)))
 | rn l n=>exact ρ (ρ (ć (hta _ ⟨p,dx,_,rfl,hp,ķ,p,dx,.rn l n,rfl,trivial,ok,hp,h⟩)))
def yrm {dx:Addr} {s:Slt} {ta:TE} {t:TA} {σ:St} {H:Hp} {Q:VK} {E1 E2 E3:St->XK} {x:V} {n:String} (hta:∀ Q':VK,Q' (.ref p) H->ta σ H Q') (ht:∀ Q':List V->Hp->Prop,Q' [x] H->t σ H Q') (hp:H p=some (oS a dx s)) (ok:s.ok) (ty:xo K H x (.type n))
  (h:∀ b:Int,x=.int b->0 <= b->b <= 1->∀ H',H' p=some (oS a dx (s.see b))->But p H H'->Q .non H') (h1:Þ x=false->E1 σ (.ref a.C0) none H) (h2:Þ x=false->E2 σ (.ref a.C0) none H) (h3:Þ x=false->E3 σ (.ref a.C0) none H) :
  yml (yal a.A6 "seen" (jh K (oS a) yuq a.C0) [] E1 ta t) (yml (yal a.A5 "seen" (jh K (oS a) yum a.C0) [] E2 ta t) (yal a.Ab "seen" (jh K (oS a) yul a.C0) [] E3 ta t)) σ H Q:=by
 cases s with
 | ev n o=>exact į (ŕ (hta _ ⟨p,dx,_,rfl,hp,š,ht _ ⟨p,dx,.ev n o,x,_,rfl,trivial,ok,hp,ty,h,h1⟩⟩))
 | qk h0=>exact ρ (į (ŕ (hta _ ⟨p,dx,_,rfl,hp,Ķ,ht _ ⟨p,dx,.qk h0,x,_,rfl,trivial,ok,hp,ty,h,h2⟩⟩)))
 | rn l n=>exact ρ (ρ (ŕ (hta _ ⟨p,dx,_,rfl,hp,yba,ht _ ⟨p,dx,.rn l n,x,_,rfl,trivial,ok,hp,ty,h,h3⟩⟩)))
def yza {x:Sn} {c b:Int} (h:Ok x):(nar x c b).2.2 <= x.2.2+2:=by
 unfold nar ren;have:=h.z
 (repeat' split) <;> (dsimp only; omega)
abbrev tMx:Nat:=100000
def ydm {k:Nat} (h:k <= 6):pw k <= 281474976710656:=Int.le_trans (yh6 h) (by decide)
def yks (xs:List Int) (y:Int):xs.map V.int++[V.int y]=(xs++[y]).map V.int:=by simp
def yqf (xs:List Int):(xs.map V.int).reverse=xs.reverse.map V.int:=by simp
def gvv (c b:Int):Int:=if b=1 then c else 16777216 - c
def yb5 {x:V} (h:chV x=true):∃ c,x=.int c/\32768 <= c/\c <= 16744448:=by
 cases x with
 | int i =>
  simp only [chV,db,decide_eq_true_eq] at h;exact ⟨i,rfl,h.1,h.2⟩
 | _=>cases h
def ycp {x:V} (h:Þ x=true):∃ b,x=.int b/\0 <= b/\b <= 1:=by
 cases x with
 | int i =>
  simp only [Þ,db,decide_eq_true_eq] at h;exact ⟨i,rfl,h.1,h.2⟩
 | _=>cases h
def ydq {c:Int} (h:Ch c):chV (.int c)=true:=by
 obtain ⟨a,b⟩:=h;simp only [chV,db,decide_eq_true_eq];omega
def ybw {b:Int} (h1:0 <= b) (h2:b <= 1):Þ (.int b)=true:=by
 simp only [Þ,db,decide_eq_true_eq];omega
def ĭ {H H':Hp} {v:V} {n:String} (S:yv H H') (t:xo K H v (.type n)):xo K H' v (.type n):=by
 cases t with
 | non=>exact .non
 | bl b=>exact .bl b
 | int i=>exact .int i
 | str x=>exact .str x
 | flt x=>exact .flt x
 | lst e=>exact .lst (S _ _ e)
 | frz e=>exact .frz (S _ _ e)
 | tup e=>exact .tup (S _ _ e)
 | dK e=>exact .dK (S _ _ e)
 | dT e=>exact .dT (S _ _ e)
def sgV:V->Bool
 | .int i=>decide (0 <= i) && decide (i <= 255)
 | _=>false
def ymg (K:W.Frag) (H:Hp) (xs:List V):Prop:=∀ y∈xs,∃ k:String,xo K H y (.type k)
def ħ {H:Hp} (ns:List Int):ymg K H (ns.map V.int):=fun y a=>by
 obtain ⟨i,_,rfl⟩:=cI.mp a;exists _,.int i
def Bad (K:W.Frag) (H:Hp) (x:V) (n:String) (m:Int):Prop:=n≠"list"\/∃ p xs,x=.ref p/\H p=some (.lst xs)/\ymg K H xs/\xs.length <= 100000/\(decide ((xs.length:Int) <= m) && xs.all sgV)=false
def vav (K:W.Frag) (H:Hp) (x:V) (xs:List V) (m:Int):Prop:=∃ p,x=.ref p/\H p=some (.lst xs)/\ymg K H xs/\xs.length <= 100000/\(decide ((xs.length:Int) <= m) && xs.all sgV)=true
def yqw {H:Hp} {x:V} {n:String} (ty:xo K H x (.type n)):W.kitOne K (.type n) (.type "list")=some (decide (n="list")):=by
 cases ty <;> rfl
def ylx {n:Nat} (h:n <= 100000):n < sizeLine:=Nat.lt_of_le_of_lt h (by decide)
def ydb {xs:List V} (n:Nat):ycl xs (some (n:Int)) none=xs.drop n:=by
 unfold ycl;rw [HT.sIx_nat,HT.sIx_none];by_cases h:n <= xs.length
 .rw [Nat.min_eq_left h,dA (by rw [dP]; exact cE _)]
 .rw [Nat.min_eq_right (by omega),Nat.sub_self,List.take_zero,List.drop_of_length_le (by omega)]
def yh8 {ns:List Int} (h:∀ i∈ns,0 <= i/\i <= 255):(ns.map V.int).all sgV=true:=by
 rw [List.all_map,List.all_eq_true];intro i b;obtain ⟨a,c⟩:=h i b;simp [sgV,a,c]
inductive ĩ (K:W.Frag) (C:Addr) (m:Int) (vs:List V) (H:Hp) (Q:VK) (E:XK):Prop
 | mk (x n:_) (_:vs=[x]) (_:xo K H x (.type n)) (_:((Bad K H x n m/\∀ H',yv H H'->E (.ref C) none H')\/∃ xs,vav K H x xs m/\∀ r H',H r=none->H' r=some (.lst xs)->yv H H'->Q (.ref r) H'))
def yj2 (p q:Addr) (H H':Hp):Prop:=∀ b o,H b=some o->b≠p->b≠q->H' b=some o
def But.two {H H':Hp} (h:But p H H'):yj2 p q H H':=fun b o e n _=>h b o e n
def But.two' {H H':Hp} (h:But q H H'):yj2 p q H H':=fun b o e _ n=>h b o e n
def yj2.trans {H H1 H2:Hp} (x:yj2 p q H H1) (y:yj2 p q H1 H2):yj2 p q H H2:=fun b o h n m=>y b o (x b o h n m) n m
structure yfu (a:Ads) (H:Hp) (p dx pd ps ds:Addr) (d:List Int) (x:Sn):Prop where
 me:H p=some (.ins a.Ag dx (yjz (.ref pd) (.ref ps) (.int (rn d (sz x))) (.int x.2.2)))
 dt:H pd=some (.lst (d.map V.int))
 sp:H ps=some (.ins a.A4 ds (z9 x))
 ne:p≠ps
def yfu.same {H H':Hp} {dx pd ps:Addr} {d:List Int} {x:Sn} (h:yfu a H p dx pd ps ds d x) (S:yv H H'):yfu a H' p dx pd ps ds d x:=⟨S _ _ h.me,S _ _ h.dt,S _ _ h.sp,h.ne⟩
section
variable {H H':Hp} {dx pd ps:Addr} {d:List Int} {x:Sn}
theorem yfu.lst (h:yfu a H p dx pd ps ds d x) (B:yj2 p ps H H') {l:Addr} {xs:List V} (e:H l=some (.lst xs)):H' l=some (.lst xs):=B _ _ e (ww e h.me (by intro z; cases z)) (ww e h.sp (by intro z; cases z))
theorem yfu.tup (h:yfu a H p dx pd ps ds d x) (B:yj2 p ps H H') {l:Addr} {xs:List V} (e:H l=some (.tup xs)):H' l=some (.tup xs):=B _ _ e (ww e h.me (by intro z; cases z)) (ww e h.sp (by intro z; cases z))
end
def yk9 {H:Hp} {d:List Int} (h:H p=some (.lst (d.map V.int))) (hb:Byt d) (hz:d.length <= 12000):vav K H (.ref p) (d.map V.int) 12000 :=
 ⟨p,rfl,h,ħ d,by rw [cA]; omega,by rw [yh8 hb,cA,cK (by omega)]; rfl⟩
def Sgs (ns:List Int):Prop:=∀ i∈ns,0 <= i/\i <= 255
def wth:List Int:=[128,64,32,16,8,4,2,1]
def b8 (s:Int):List Int:=wth.map (fun w=>s / w % 2)
def dec:List Int->List Int
 | []=>[0]
 | s :: r=>(1 :: b8 s)++dec r
def nds:Int->List Int->List Int
 | _,[]=>[]
 | n,b :: r=>n :: nds (2 * n+b) r
def yav:List Int->List Int
 | []=>[]
 | s :: r=>(1 :: b8 s)++yav r
theorem ymd:∀ ns,dec ns=yav ns++[0]
 | []=>rfl
 | s :: r=>by simp [dec,yav,ymd r]
theorem Ű (s:Int):∀ ns,yav (ns++[s])=yav ns++(1 :: b8 s)
 | []=>by simp [yav]
 | t :: r=>by simp [yav,Ű s r]
def yn1 (s:Int):(b8 s).length=8:=rfl
theorem jb:∀ ns:List Int,(yav ns).length=9 * ns.length
 | []=>rfl
 | s :: r=>by
  show ((1 :: b8 s)++yav r).length=9 * (r.length+1);rw [cF,jb r];show 9+_=_;omega
def yq2 (s:Int):yaz (b8 s):=fun b c=>by
 obtain ⟨w,_,rfl⟩:=cI.mp c;have a:0 <= s / w % 2:=dF _ (by decide);have d:s / w % 2 < 2:=dv _ (by decide);exists a,by omega
theorem jg:∀ ns,yaz (dec ns)
 | []=>fun b a=>by rw [cQ.mp a]; decide
 | s :: r=>by
  refine ykl (fun b a=>?_) (jg r);rcases cT.mp a with rfl | a
  .decide
  .exact yq2 s b a
def vcp {s:Int} (h0:0 <= s) (h1:s <= 255):128 * (s / 128 % 2)+(64 * (s / 64 % 2)+(32 * (s / 32 % 2)+(16 * (s / 16 % 2)+(8 * (s / 8 % 2)+(4 * (s / 4 % 2)+(2 * (s / 2 % 2)+(1 * (s / 1 % 2)+0)))))))=s:=by
 have h:∀ n:Nat,n < 256->128 * ((n:Int) / 128 % 2)+(64 * ((n:Int) / 64 % 2)+(32 * ((n:Int) / 32 % 2)+(16 * ((n:Int) / 16 % 2)+(8 * ((n:Int) / 8 % 2)+(4 * ((n:Int) / 4 % 2)+(2 * ((n:Int) / 2 % 2)+(1 * ((n:Int) / 1 % 2)+0)))))))=(n:Int):=by right
 obtain ⟨n,rfl⟩:=Int.eq_ofNat_of_zero_le h0;exact h n (by omega)
def wV (s:Int):V->V
 | .int w=>.int (s / w % 2)
 | _=>.non
def η {H:Hp} {d:List Int} (h:H p=some (.lst (d.map V.int))) (hb:Sgs d) (hz:d.length <= 1000):vav K H (.ref p) (d.map V.int) 1000 :=
 ⟨p,rfl,h,ħ d,by rw [cA]; omega,by rw [yh8 hb,cA,cK (by omega)]; rfl⟩
def yl4 (xs ys:List Int):xs.map V.int++ys.map V.int=(xs++ys).map V.int:=by simp
def xq (ns:List Int):(dec ns).length=9 * ns.length+1:=by rw [ymd,cF,jb]; rfl
def ä (f:List Int->Option Slt) (k:List Int) (s:Slt):List Int->Option Slt:=fun j=>if j=k then some s else f j
def yuo:HO->Bool
 | .ins _ _ _=>true
 | .dT _=>true
 | _=>false
def kI (k:List Int):List Key:=k.map Sum.inl
def ywg (k:List Int):(kI k).map kV=k.map V.int:=by
 unfold kI;rw [df];rfl
def yao {j k:List Int} (h:kI j=kI k):j=k:=by
 unfold kI at h
 induction j generalizing k with
 | nil =>
  cases k with
  | nil=>rfl
  | cons _ _=>cases h
 | cons x r ih =>
  cases k with
  | nil=>cases h
  | cons y s =>
   injection h with h1 h2;injection h1 with h1;rw [h1,ih h2]
def ymk (H:Hp) (d:Addr):Prop:=∀ kvs,H d=some (.dT kvs)->(kvs.map (·.1)).Nodup/\∀ q∈kvs,∃ k,q.1=kI k
def ymk.mv {H H':Hp} {d:Addr} {kvs:List (List Key × V)} (h:ymk H d) (h1:H d=some (.dT kvs)) (h2:H' d=some (.dT kvs)):ymk H' d:=fun a e=>by
 rw [h2] at e;cases e;exact h kvs h1
def yl2 {kvs:List (List Key × V)} {k:List Key} (h:ut kvs k=none):k∉kvs.map (·.1):=fun m=>by
 obtain ⟨p,b,e⟩:=cI.mp m;have a:=zk k kvs;rw [h] at a;exact List.any_eq_false.mp a p b (cK e)
def ymk.snoc {H':Hp} {d:Addr} {kvs:List (List Key × V)} {k:List Int} {v:V} (h:(kvs.map (·.1)).Nodup/\∀ q∈kvs,∃ k,q.1=kI k) (hn:ut kvs (kI k)=none) (h2:H' d=some (.dT (ω kvs (kI k) v))):ymk H' d:=fun b e=>by
 rw [h2,zh _ hn] at e;cases e;rw [cM];exists List.nodup_append.mpr ⟨h.1,dR.mpr ⟨List.not_mem_nil,List.nodup_nil⟩,fun x a y c z=>?_⟩,fun q f=>?_
 .rw [z,cQ.mp c] at a;exact yl2 hn a
 .rcases c7.mp f with w | w
  .exact h.2 q w
  .rw [cQ.mp w];exists k,rfl
structure ψ (a:Ads) (H:Hp) (p dx lk d:Addr) (kd:Fin 3) (f:List Int->Option Slt) (O:Addr->Prop) (m:Nat):Prop where
 me:H p=some (.ins a.Aa dx (yae (.ref lk) (.ref d)))
 own:∀ b,O b->∃ o,H b=some o/\yuo o=true
 np:¬ O p
 dO:O d
 ky:ymk H d
 tb:∃ (kvs:List (List Key × V)) (loc:List Int->Addr × Addr),H d=some (.dT kvs)/\kvs.length <= m/\(∀ k,f k=none->ut kvs (kI k)=none) /\
  (∀ k s,f k=some s->ut kvs (kI k)=some (.ref (loc k).1)/\H (loc k).1=some (oS a (loc k).2 s)/\s.ok/\s.kind=kd/\O (loc k).1)/\(∀ k j s t,f k=some s->f j=some t->(loc k).1=(loc j).1->k=j)
def ymi (O:Addr->Prop) (H H':Hp):Prop:=∀ b o,H b=some o->¬ O b->H' b=some o
section
variable {H H':Hp} {dx lk d:Addr} {kd:Fin 3} {f:List Int->Option Slt} {O:Addr->Prop} {m:Nat}
def ψ.frame (h:ψ a H p dx lk d kd f O m) {O2:Addr->Prop} (B:ymi O2 H H') (dj:∀ b,O b->¬ O2 b) (hp:¬ O2 p):ψ a H' p dx lk d kd f O m:=by
 obtain ⟨c,g,e,q,w,z,y⟩:=h.tb;exists B _ _ h.me hp,fun b j=>?_,h.np,h.dO,h.ky.mv e (B _ _ e (dj _ h.dO)),c,g,B _ _ e (dj _ h.dO),q,w,fun k s v=>?_,y
 .obtain ⟨o,x,n⟩:=h.own b j;exists o,B _ _ x (dj b j),n
 .obtain ⟨t,r,u,l,i⟩:=z k s v;exists t,B _ _ r (dj _ i),u,l,i
def ψ.same (h:ψ a H p dx lk d kd f O m) (S:yv H H'):ψ a H' p dx lk d kd f O m:=h.frame (O2:=fun _=>False) (fun b o e _=>S b o e) (fun _ _ z=>z) (fun z=>z)
end
inductive jf (o:Addr->Slt->HO) (g:Slt->Prop) (vs:List V) (H:Hp) (Q:VK) (E':XK):Prop
 | mk (p dx:Addr) (s:Slt) (_:vs=[.ref p]) (_:g s) (_:H p=some (o dx s)) (_:∀ q dq H',H q=none->H' q=some (o dq s)->yv H H'->Q (.ref q) H')
def ype {dx:Addr} {s:Slt} {ta:TE} {σ:St} {H:Hp} {Q:VK} {E1 E2 E3:XK} (hta:∀ Q':VK,Q' (.ref p) H->ta σ H Q') (hp:H p=some (oS a dx s)) (h:∀ q dq H',H q=none->H' q=some (oS a dq s)->yv H H'->Q (.ref q) H') :
  yml (Ğ a.A6 "twin" (jf (oS a) yuq) [] E1 ta yjy) (yml (Ğ a.A5 "twin" (jf (oS a) yum) [] E2 ta yjy) (Ğ a.Ab "twin" (jf (oS a) yul) [] E3 ta yjy)) σ H Q:=by
 cases s with
 | ev n o=>exact į (ć (hta _ ⟨p,dx,_,rfl,hp,ť,p,dx,.ev n o,rfl,trivial,hp,h⟩))
 | qk h0=>exact ρ (į (ć (hta _ ⟨p,dx,_,rfl,hp,ĸ,p,dx,.qk h0,rfl,trivial,hp,h⟩)))
 | rn l n=>exact ρ (ρ (ć (hta _ ⟨p,dx,_,rfl,hp,ybd,p,dx,.rn l n,rfl,trivial,hp,h⟩)))
def Ê {H H1:Hp} {o o':HO} (nq:H q=none) (nd:H dq=none) (B:But q (upd (upd H dq o) q o') H1):yv H H1:=fun b u e=>B b u (by rw [yk (yb e nq),yk (yb e nd)]; exact e) (yb e nq)
open MixI
structure yft (a:Ads) (p dx l:Addr) (ws:List Int) (H:Hp):Prop where
 o:H p=some (.ins a.Bh dx (vaw (.ref l)))
 l:H l=some (.lst (ws.map V.int))
def yft.same {dx l:Addr} {ws:List Int} {H H':Hp} (m:yft a p dx l ws H) (S:yv H H'):yft a p dx l ws H':=⟨S _ _ m.o,S _ _ m.l⟩
def yv0 {k:Nat} {cs:List Int} (h:COk k cs) {c:Int} (hm:c∈cs):Ch c:=⟨h.lo c hm,h.hi c hm⟩
def yna {g:Int->Int->Int} {ws cs:List Int} (h:cs.length=ws.length):(List.range (ws.map V.int).length).map (fun i=>V.int (g ((ws[i]?).getD 0) ((cs[i]?).getD 0)))=(List.zipWith g ws cs).map V.int:=by
 rw [cA,<- ygc h,df];rfl
def yc9 {H:Hp} {xs ys:List V} (h:H D=some (.lst xs)) (e:xs=ys):H D=some (.lst ys):=e ▸ h
inductive yf4 (K:W.Frag) (a:Ads) (vs:List V) (H:Hp) (Q:VK) (E':XK):Prop
 | mk (p dx l c:Addr) (ws cs:List Int) (k:Nat) (_:vs=[.ref p,.ref c]) (_:1 <= k) (_:k <= 6) (_:WOk k ws) (_:COk k cs) (_:yft a p dx l ws H) (_:SqL K H c (cs.map V.int)) (_:∀ H',yv H H'->Q (.int (yoz ws cs)) H')
inductive ygf (K:W.Frag) (a:Ads) (C:Addr) (vs:List V) (H:Hp) (Q:VK) (E:XK):Prop
 | mk (p dx l c:Addr) (ws cs:List Int) (k:Nat) (x:V) (n:String) (_:vs=[.ref p,.ref c,x]) (_:1 <= k) (_:k <= 6) (_:WOk k ws) (_:COk k cs) (_:yft a p dx l ws H) (_:SqL K H c (cs.map V.int)) (_:xo K H x (.type n)) (_:(∀ b:Int,x=.int b->0 <= b->b <= 1->∀ l' H',H l'=none->yft a p dx l' (lrn ws cs b) H'->But p H H'->Q .non H')) (_:(Þ x=false->E (.ref C) none H))
inductive yo3 (a:Ads) (vs:List V) (H:Hp) (Q:VK) (E':XK):Prop
 | mk (p dx l:Addr) (ws:List Int) (_:vs=[.ref p]) (_:yft a p dx l ws H) (_:∀ r H',H r=none->H' r=some (.lst (ws.map V.int))->yv H H'->Q (.ref r) H')
inductive yl7 (a:Ads) (vs:List V) (H:Hp) (Q:VK) (E':XK):Prop
 | mk (p dx:Addr) (k:Nat) (_:vs=[.ref p,.int k]) (_:1 <= k) (_:k <= 6) (_:H p=some (.ins a.Bh dx [])) (_:∀ l H',H l=none->yft a p dx l (List.replicate k 1099511627776) H'->But p H H'->Q .non H')
def yjv:V->Bool
 | .str s=>inV (.str s) [V.str "even",V.str "quick",V.str "run"]
 | _=>false
def plV:V->Bool
 | .int i=>decide (1 <= i) && decide (i <= 8)
 | _=>false
def ltV:V->V->Bool
 | .int i,.int j=>decide (i < j)
 | _,_=>false
def vc6 (xs:List V):Bool:=(List.zipWith ltV xs xs.tail).all id
def zy (xs:List V):Bool:=decide (xs.length <= 4) && xs.all plV && vc6 xs
def PlB (K:W.Frag) (H:Hp) (x:V) (b:Bool):Prop:=(∃ n,xo K H x (.type n)/\n≠"tuple"/\b=false)\/∃ t xs,x=.ref t/\H t=some (.tup xs)/\xs.length <= 1000/\(∀ y∈xs,∃ n:String,xo K H y (.type n))/\b=zy xs
def LkB (K:W.Frag) (H:Hp) (x:V) (b:Bool):Prop:=(∃ n,xo K H x (.type n)/\n≠"tuple"/\b=false) \/
 ∃ t xs,x=.ref t/\H t=some (.tup xs)/\((xs.length≠2/\b=false)\/∃ y z n,xs=[y,z]/\xo K H y (.type n)/\((yjv y=false/\b=false)\/(yjv y=true/\PlB K H z b)))
def PlB.same {H H':Hp} {x:V} {b:Bool} (h:PlB K H x b) (S:yv H H'):PlB K H' x b:=by
 rcases h with ⟨n,t,j,e⟩ | ⟨t,f,e,a,i,d,g⟩
 .exact .inl ⟨n,ĭ S t,j,e⟩
 .exact .inr ⟨t,f,e,S _ _ a,i,fun y c=>let ⟨n,z⟩:=d y c; ⟨n,ĭ S z⟩,g⟩
theorem LkB.same {H H':Hp} {x:V} {b:Bool} (h:LkB K H x b) (S:yv H H'):LkB K H' x b:=by
 rcases h with ⟨n,t,i,e⟩ | ⟨t,f,e,a,h⟩
 .exact .inl ⟨n,ĭ S t,i,e⟩
 .refine .inr ⟨t,f,e,S _ _ a,?_⟩;rcases h with h | ⟨y,z,n,g,c,h⟩
  .exact .inl h
  .refine .inr ⟨y,z,n,g,ĭ S c,?_⟩;rcases h with h | ⟨d,j⟩
   .exact .inl h
   .exact .inr ⟨d,j.same S⟩
def â {H:Hp} {x:V} {n:String} (ty:xo K H x (.type n)):W.kitOne K (.type n) (.type "tuple")=some (decide (n="tuple")):=by cases ty <;> rfl
def yde {H:Hp} {x:V} {n:String} (ty:xo K H x (.type n)):W.kitOne K (.type n) (.type "str")=some (decide (n="str")):=by cases ty <;> rfl
def ydg {H:Hp} {x:V} {n:String} (ty:xo K H x (.type n)):W.kitOne K (.type n) (.type "list")=some (decide (n="list")):=by cases ty <;> rfl
def yo8 {xs:List V} {y:V} (h:xs.tail[i]?=some y):xs[i+1]?=some y:=by
 cases xs with
 | nil=>simp at h
 | cons x r=>simpa using h
def ygp (xs:List V):(List.range xs.tail.length).map (fun i=>V.bl (ltV ((xs[i]?).getD .non) ((xs.tail[i]?).getD .non)))=(List.zipWith ltV xs xs.tail).map V.bl:=by
 apply List.ext_getElem
 .rw [cA,da,cA,List.length_zipWith,List.length_tail]; omega
 .intro i a c;rw [cA,da] at a;have b:i < xs.length:=by rw [List.length_tail] at a; omega
  rw [dY,List.getElem_range,dY,List.getElem_zipWith,cC a,cC b];rfl
def yhw {t u:Addr} {xs:List V} {te:TE} {fr:St} {R:Hp->Prop} {H1:Hp} (hint:∀ y∈xs,∃ i:Int,y=.int i) (hl:xs.length <= 1000) (ht:SqT K H1 t xs) (hu:SqT K H1 u xs.tail) (hD:H1 D=none)
  (hte:∀ (i j:Int) (σ':St) (H':Hp) (Q':VK),Q' (.bl (decide (i < j))) H'->te (some (.int i) :: some (.int j) :: σ') H' Q') (hR:∀ H,yv H1 H->H D=some (.lst ((List.zipWith ltV xs xs.tail).map V.bl))->R H) :
  j4 (vau K t u) (yur K 2 (jj (w8 0) (jj (w8 1) ymn))) te 2 fr D R H1:=by
 refine ybs (m:=xs.tail.length) (fun i=>V.bl (ltV ((xs[i]?).getD .non) ((xs.tail[i]?).getD .non))) ht hu (by rw [List.length_tail]; omega) (cE _) (.inr (cE _)) hD (fun i x y h l s w n p k a e b=>?_) (fun h k a=>?_)
 .obtain ⟨v,z,rfl⟩:=yi5 b;obtain ⟨c,rfl⟩:=hint x (cR n);obtain ⟨d,rfl⟩:=hint y (cR (yo8 p));have q:=k.trans (y8 (o:=HO.tup [V.int c,V.int d]) e);have f:=z5 (o':=HO.tup [V.int c,V.int d]) e a;have g:upd h l (HO.tup [V.int c,V.int d]) l=some (.tup [V.int c,V.int d]):=ya;generalize upd h l (HO.tup [V.int c,V.int d])=r at q f g;refine ydu (SqT.of g) rfl ?_;show jj (w8 0) (jj (w8 1) ymn) [V.int c,V.int d] (v :: z :: fr) r _;rfl';exists ⟨[some (.int c),some (.int d)],rfl,rfl⟩,?_;refine hte c d fr r _ ?_;refine Mp.doneR hD (vd (by rw [List.length_tail]; omega)) w q f ?_;rw [n,p];rfl
 .exact hR h k (by rw [<- ygp]; exact a)
def ypj (xs:List V):ycl xs (some 1) none=xs.tail:=by
 unfold ycl
 have e:HT.sIx xs.length 0 (some 1)=min 1 xs.length:=by
  have:=HT.sIx_nat xs.length 0 1;simpa using this
 rw [HT.sIx_none,e]
 cases xs with
 | nil=>rfl
 | cons x r=>simp
def ykq {n:Nat} (bs:List Bool) (h:n=bs.length):(List.range n).map (fun i=>V.bl ((bs[i]?).getD false))=bs.map V.bl:=by
 subst h;apply List.ext_getElem
 .rw [cA,da,cA]
 .intro i a b;rw [cA,da] at a;rw [dY,List.getElem_range,dY,cC a];rfl
def vc0 (K:W.Frag) (H:Hp) (xs:List V) (bs:List Bool):Prop:=xs.length=bs.length/\∀ (i:Nat) (y:V) (b:Bool),xs[i]?=some y->bs[i]?=some b->LkB K H y b
def LkG (H:Hp) (v:V) (kd:Fin 3) (tp:Addr) (ps:List Int):Prop:=∃ lk,v=.ref lk/\H lk=some (.tup [.str (kdS kd),.ref tp])/\H tp=some (.tup (ps.map V.int))/\zy (ps.map V.int)=true
def LkG.same {H H':Hp} {v:V} {kd:Fin 3} {tp:Addr} {ps:List Int} (h:LkG H v kd tp ps) (S:yv H H'):LkG H' v kd tp ps:=by
 obtain ⟨a,e,c,d,b⟩:=h;exists a,e,S _ _ c,S _ _ d,b
def ypa (kd:Fin 3):yjv (.str (kdS kd))=true:=by
 match kd with
 | 0=>rfl
 | 1=>rfl
 | 2=>rfl
def ye9 {xs:List V} (h:zy xs=true):xs.length <= 4:=by
 unfold zy at h;rw [db,db] at h;exact of_decide_eq_true h.1.1
def LkG.tells {H:Hp} {v:V} {kd:Fin 3} {tp:Addr} {ps:List Int} (h:LkG H v kd tp ps):LkB K H v true:=by
 obtain ⟨b,e,d,f,a⟩:=h;have:=ye9 a;refine .inr ⟨b,_,e,d,.inr ⟨_,_,"str",rfl,.str _,.inr ⟨ypa kd,.inr ⟨tp,_,rfl,f,by omega,fun y c=>?_,a.symm⟩⟩⟩⟩;obtain ⟨i,_,rfl⟩:=cI.mp c;exists _,.int i
theorem yns:∀ {ps:List Int},ps.Pairwise (· < ·)->vc6 (ps.map V.int)=true
 | [],_=>rfl
 | [_],_=>rfl
 | p :: q :: r,h=>by
  have b:p < q:=(List.pairwise_cons.mp h).1 q (by simp);have a:=yns (List.pairwise_cons.mp h).2;unfold vc6 at a ⊢;simp only [di,List.tail_cons,List.zipWith_cons_cons,List.all_cons] at a ⊢;rw [show ltV (V.int p) (V.int q)=true from cK b];simpa using a
def ygl {ps:List Int} (h1:ps.length <= 4) (h2:∀ p∈ps,1 <= p/\p <= 8) (h3:ps.Pairwise (· < ·)):zy (ps.map V.int)=true:=by
 unfold zy;rw [cA,cK h1,yns h3,Bool.true_and,Bool.and_true,List.all_eq_true];intro y a;obtain ⟨i,b,rfl⟩:=cI.mp a;have:=h2 i b;show (decide (1 <= i) && decide (i <= 8))=true;rw [cK this.1,cK this.2];rfl
def Lks (H:Hp) (xs:List V):Prop:=∀ y∈xs,∃ kd tp ps,LkG H y kd tp ps
def Lks.bs {H:Hp} {xs:List V} (h:Lks H xs):vc0 K H xs (List.replicate xs.length true):=by
 exists by rw [dW],fun i y b a d=>?_
 have c:b=true:=d9 (cR d);obtain ⟨e,f,g,z⟩:=h y (cR a);rw [c];exact z.tells
def yh4 (n:Nat):(List.replicate n true).all id=true:=by simp
def vek (K:W.Frag) (H:Hp) (x:V):Prop:=(∃ n,xo K H x (.type n)/\n≠"list")\/∃ l xs bs,x=.ref l/\H l=some (.lst xs)/\xs.length <= 1000/\vc0 K H xs bs/\¬ (1 <= xs.length/\xs.length <= 6/\bs.all id=true)
theorem LkG.upd {H:Hp} {v:V} {kd:Fin 3} {tp l:Addr} {ps:List Int} {xs ys:List V} (h:LkG H v kd tp ps) (hl:H l=some (.lst xs)):LkG (L2.upd H l (.lst ys)) v kd tp ps:=by
 obtain ⟨c,e,a,b,d⟩:=h;exists c,e,yf (ww a hl (by intro z; cases z)) a,yf (ww b hl (by intro z; cases z)) b,d
def upN {α:Type} (g:Nat->α) (n:Nat) (x:α):Nat->α:=fun j=>if j=n then x else g j
def w9 {α:Type} {g:Nat->α} {n:Nat} {x:α}:upN g n x n=x:=if_pos rfl
def wx {α:Type} {g:Nat->α} {n:Nat} {x:α} (h:j < n):upN g n x j=g j:=if_neg (by omega)
def ypp (c:Int):∃ kk:Fin 3,atI [V.str "even",V.str "quick",V.str "run"] (c % 3)=some (V.str (kdS kk)):=by
 have a:0 <= c % 3:=dF _ (by decide);have b:c % 3 < 3:=dv _ (by decide);generalize c % 3=z at a b;obtain rfl | rfl | rfl:z=0\/z=1\/z=2:=by omega
 .exact ⟨0,rfl⟩
 .exact ⟨1,rfl⟩
 .exact ⟨2,rfl⟩
def xu (H:Hp) (n:Nat) (lk:Nat->Addr) (kd:Nat->Fin 3) (tp:Nat->Addr) (ps:Nat->List Int):Prop:=∀ i,i < n->LkG H (.ref (lk i)) (kd i) (tp i) (ps i)
theorem xu.same {H H':Hp} {n:Nat} {lk:Nat->Addr} {kd:Nat->Fin 3} {ps:Nat->List Int} (h:xu H n lk kd tp ps) (S:yv H H'):xu H' n lk kd tp ps:=fun i a=>(h i a).same S
structure Sd (K:W.Frag) (H:Hp) (v:V) (d:PyData) (k:Nat):Prop where
 rd:RdV K H v d
 lay:d.canLay0=true
 dep:d.depth <= k
 eq:PyData.eqv d d=true
structure Sds (K:W.Frag) (H:Hp) (xs:List V) (ds:List PyData) (k:Nat):Prop where
 rd:yfr K H xs ds
 lay:PyData.canLayAll0 ds=true
 dep:PyData.depthAll ds <= k
 eq:PyData.eqvAll ds ds=true
def Sds.ints {H:Hp} (ns:List Int) {k:Nat}:Sds K H (ns.map V.int) (ns.map PyData.int) k:=⟨ζ ns,jv ns,by rw [À]; exact cV _,by rw [jx,cK rfl]⟩
theorem Sd.lst {H:Hp} {xs:List V} {ds:List PyData} {k:Nat} (h:SqL K H p xs) (r:Sds K H xs ds k):Sd K H (.ref p) (.list ds) (k+1):=by
 exists .lst h r.rd,by simp [PyData.canLay0,r.lay],?_,by simp [PyData.eqv,r.eq]
 have a:=r.dep;simp only [PyData.depth];omega
def vb0 {g:Bool->Bool} {H:Hp} {Q:VK} {x y:V} {d:PyData} {k:Nat} (h1:Sd K H x d k) (h2:Sd K H y d k) (hk:k <= 60) (h:Q (.bl (g true)) H):vaz K g x y H Q:=by
 have a:SeqAt.shaped d=true:=by
  unfold SeqAt.shaped;rw [db];exists h1.lay,cK (by have:=h1.dep; omega)
 exists d,d,h1.rd,h2.rd,a,a,by rw [h1.eq]; exact h
local macro_rules | `(#synth $n:ident $a $b)=>`(theorem $n : yi $a $a (yd $b):=we (by decide +kernel)) | `(#synth $n:ident $a $b $c)=>`(theorem $n : yi $a $b (yd $c):=we (by decide +kernel))
#synth vba ["thing"] vcv
inductive ya7 (K:W.Frag) (vs:List V) (H:Hp) (Q:VK) (E':XK):Prop
 | mk (x n:_) (_:vs=[x]) (_:xo K H x (.type n)) (_:Q (.bl (jp x)) H)
variable (T:Txt K mg a)
def yjx:vk P w K mg Γ CX0 1 a.Oz a.P0 ["thing"] (ya7 K):=by
 exists T.Fp.F.ok,vba,g;obtain ⟨x,n,rfl,b,k⟩:=h;exists 1,0,yc (yp (u8 (pcB wj T.A7 (pac (pv 0) (pa1 (z7 (T:="int") rfl T.Nn (by right))))) (jo (yzb (pcB wj T.A7 (pac (pv 0) (pa1 (z7 (T:="bool") rfl T.Hg (by right)))))))));refine Ü b (ypo b) ?_;rfl'
 cases hx:yn9 x with
 | false =>
  have e:jp x=false:=by
   cases x <;> first | rfl | cases hx
  rw [e] at k;exact yat k
 | true =>
  have e:jp x=!yh0 x:=by
   cases x <;> first | rfl | cases hx
  rw [e] at k;refine yaw ?_;rfl';refine Ü b (yma b) ?_;rfl';exact k
#synth vci ["thing"] vda
inductive yhc (K:W.Frag) (vs:List V) (H:Hp) (Q:VK) (E':XK):Prop
 | mk (x n:_) (_:vs=[x]) (_:xo K H x (.type n)) (_:Q (.bl (Þ x)) H)
def vcj:vk P w K mg Γ CX0 2 a.P1 a.P3 ["thing"] (yhc K):=by
 exists T.Pk.F.ok,vci,f;obtain ⟨x,n,rfl,d,k⟩:=h;exists 1,0,yc (yp (u8 (xw (yjx T) f.m T.Fp (pa1 (pv 0))) (jo (ι zq zq yg (pv 0) yg))));exists x,n,rfl,d,?_;rfl'
 cases hx:jp x with
 | false =>
  have e:Þ x=false:=by
   cases x <;> first | rfl | cases hx
  rw [e] at k;exact yat k
 | true =>
  obtain ⟨i,rfl⟩:=u4 hx;refine yaw ?_;rfl';refine uu (fun b=>?_) (fun b=>?_)
  .rfl';have e:Þ (.int i)=decide (i <= 1):=by simp [Þ,b]
   rw [e] at k;exact k
  .have e:Þ (.int i)=false:=by simp [Þ,b]
   rw [e] at k;exact k
#synth vbx ["thing"] vcy
inductive Ũ (K:W.Frag) (vs:List V) (H:Hp) (Q:VK) (E':XK):Prop
 | mk (x n:_) (_:vs=[x]) (_:xo K H x (.type n)) (_:Q (.bl (chV x)) H)
def vcm:vk P w K mg Γ CX0 2 a.P4 a.P5 ["thing"] (Ũ K):=by
 exists T.Pl.F.ok,vbx,f;obtain ⟨x,n,rfl,d,k⟩:=h;exists 1,0,yc (yp (u8 (xw (yjx T) f.m T.Fp (pa1 (pv 0))) (jo (ι zq zq (ve rfl T.D6) (pv 0) (yn u7 (ve rfl T.Cq) (ve rfl T.D6))))));exists x,n,rfl,d,?_;rfl'
 cases hx:jp x with
 | false =>
  have e:chV x=false:=by
   cases x <;> first | rfl | cases hx
  rw [e] at k;exact yat k
 | true =>
  obtain ⟨i,rfl⟩:=u4 hx;refine yaw ?_;rfl';refine uu (fun b=>?_) (fun b=>?_)
  .rfl';have e:chV (.int i)=decide (i <= 16777216 - 32768):=by simp [chV,b]
   rw [e] at k;exact k
  .have e:chV (.int i)=false:=by simp [chV,b]
   rw [e] at k;exact k
#synth vcq ["thing"] vc1
inductive yfe (K:W.Frag) (vs:List V) (H:Hp) (Q:VK) (E':XK):Prop
 | mk (x n:_) (_:vs=[x]) (_:xo K H x (.type n)) (_:Q (.bl (sgV x)) H)
def vb9:vk P w K mg Γ CX0 2 a.P6 a.P7 ["thing"] (yfe K):=by
 exists T.Pm.F.ok,vcq,f;obtain ⟨x,n,rfl,d,k⟩:=h;exists 1,0,yc (yp (u8 (xw (yjx T) f.m T.Fp (pa1 (pv 0))) (jo (ι zq zq yg (pv 0) yg))));exists x,n,rfl,d,?_;rfl'
 cases hx:jp x with
 | false =>
  have e:sgV x=false:=by
   cases x <;> first | rfl | cases hx
  rw [e] at k;exact yat k
 | true =>
  obtain ⟨i,rfl⟩:=u4 hx;refine yaw ?_;rfl';refine uu (fun b=>?_) (fun b=>?_)
  .rfl';have e:sgV (.int i)=decide (i <= 255):=by simp [sgV,b]
   rw [e] at k;exact k
  .have e:sgV (.int i)=false:=by simp [sgV,b]
   rw [e] at k;exact k
#synth vca ["thing","most"] vdb
inductive yxh (K:W.Frag) (vs:List V) (H:Hp) (Q:VK) (E':XK):Prop
 | mk (x n m:_) (_:vs=[x,.int m]) (_:xo K H x (.type n)) (_:((Bad K H x n m/\∀ H',yv H H'->Q (.bl false) H')\/∃ xs,vav K H x xs m/\∀ H',yv H H'->Q (.bl true) H'))
def vak:vk P w K mg Γ CX0 3 a.P8 a.P9 ["thing","most"] (yxh K):=by
 exists T.O8.F.ok,vca,X;obtain ⟨x,n,m,rfl,I,h⟩:=h
 have r:(n≠"list"/\∀ d,yv H d->Q (.bl false) d)\/∃ p xs,x=.ref p/\H p=some (.lst xs)/\ymg K H xs/\xs.length <= 100000/\∀ d,yv H d->Q (.bl (decide ((xs.length:Int) <= m) && xs.all sgV)) d:=by
  rcases h with ⟨h | ⟨p,xs,e,c,t,j,u⟩,k⟩ | ⟨xs,⟨p,e,c,t,j,u⟩,k⟩
  .exact .inl ⟨h,k⟩
  .exact .inr ⟨p,xs,e,c,t,j,fun d S=>by rw [u]; exact k d S⟩
  .exact .inr ⟨p,xs,e,c,t,j,fun d S=>by rw [u]; exact k d S⟩
 exists 2,0,yc (yp (u8 (pcB wj T.A7 (pac (pv 0) (pa1 (z7 (T:="list") rfl T.Ad (by right))))) (u8 (x4 zq (pcB yr T.Ac (pa1 (pv 0))) (pv 1) (yz _)) (jo (pcB (jc rfl) T.D4 (pa1 (wn (js:=[]) (ys:=[]) rfl (wv (pv 0)) (fun C s2 Z fp=>(xw (vb9 T) X.m T.Pm (pa1 (pv 0)))) rfl rfl (hyc:=yx) (hrel:=yx))))))));refine Ü I (yqw I) ?_;rfl';rcases r with ⟨G,k⟩ | ⟨p,xs,rfl,c,W,j,k⟩
 .refine yce G ?_;rfl';exact k _ (yv.refl _)
 .have G:n="list":=by
   cases I with
   | lst e=>rfl
   | frz e=>rfl
   | tup e=>rw [c] at e; cases e
   | dK e=>rw [c] at e; cases e
   | dT e=>rw [c] at e; cases e
  refine Ŝ G ?_;rfl';refine ue (SqL.of c) ?_;rfl';refine uu (fun J=>?_) (fun J=>?_)
  .rw [cK J,Bool.true_and] at k;rfl';exists p,rfl,⟨_,SqL.of c⟩,fun D L=>?_;have Y:p≠D:=yb c L;refine u5 (K:=K) (a:=p) (xs:=xs) (fun i g=>g D=some (.lst (((xs.take i).map sgV).map V.bl))/\yv H g)
    ⟨ya,y8 L⟩ (fun i g _ q=>SqL.of (q.2 _ _ c)) ?_ ?_
   .rintro i y g N B ⟨f,l⟩;rfl';obtain ⟨O,v⟩:=W y (cR N);exists y,O,rfl,ĭ l v,?_;refine xm f (by rw [cA,cA,cX]; exact ylx (by omega)) B ⟨ya.trans ?_,fun b o e=>yf (fun z=>?_) (l _ _ e)⟩
    .rw [List.take_succ,N];simp
    .subst z;rw [L] at e;cases e
   .rintro g ⟨f,l⟩;rfl';exists D,_,rfl,SqL.of f,?_;rw [dA (cE _),List.all_map];exact k _ l
  .rw [cP J,Bool.false_and] at k;rfl';exact k _ (yv.refl _)
#synth vbk ["thing"] vcw
def yfj:vk P w K mg Γ (CXe P w) 4 a.Pa a.Pb ["thing"] (ĩ K a.Fo 1000):=by
 exists T.Es.F.okE,vbk,j;obtain ⟨x,n,rfl,g,h⟩:=h;exists 1,0,ye (wd (xp (xt (xw (vak T) j.m T.O8 (pac (pv 0) (pa1 (ve rfl T.Cr)))))) (yc (wz rfl T.Rv T.Qf (pa1 wy))) y6) (yc (yp (pcT vt T.Ad (pa1 (pv 0)))));exists x,n,_,rfl,g,?_;rcases h with ⟨o,k⟩ | ⟨e,f,k⟩
 .refine .inl ⟨o,fun q c=>?_⟩;rfl';exists by walk_at "len",k _ c
 .refine .inr ⟨e,f,fun q c=>?_⟩;obtain ⟨p,rfl,i,_⟩:=f;rfl';exists p,e,rfl,.inl (SqL.of (c _ _ i)),fun r b=>?_;exact k r _ (c.free b) ya (c.trans (y8 b))
#synth vcf ["thing"] vc2
def vbc:vk P w K mg Γ (CXe P w) 4 a.Pe a.Pf ["thing"] (ĩ K a.En 12000):=by
 exists T.Pn.F.okE,vcf,j;obtain ⟨x,n,rfl,g,h⟩:=h;exists 1,0,ye (wd (xp (xt (xw (vak T) j.m T.O8 (pac (pv 0) (pa1 (ve rfl T.Ex)))))) (yc (wz rfl T.Rw T.Qg (pa1 wy))) y6) (yc (yp (pcT vt T.Ad (pa1 (pv 0)))));exists x,n,_,rfl,g,?_;rcases h with ⟨o,k⟩ | ⟨e,f,k⟩
 .refine .inl ⟨o,fun q c=>?_⟩;rfl';exists by walk_at "len",k _ c
 .refine .inr ⟨e,f,fun q c=>?_⟩;obtain ⟨p,rfl,i,_⟩:=f;rfl';exists p,e,rfl,.inl (SqL.of (c _ _ i)),fun r b=>?_;exact k r _ (c.free b) ya (c.trans (y8 b))
#synth vcn ["thing"] vc5
def yui:V->Bool
 | .int i=>decide (0 <= i) && decide (i <= 1000)
 | _=>false
def yux {m:Nat} (h:m <= 1000):yui (.int m)=true:=by
 show (decide ((0:Int) <= m) && decide ((m:Int) <= 1000))=true;rw [cK (by omega),cK (by omega)];rfl
inductive yj7 (K:W.Frag) (C:Addr) (vs:List V) (H:Hp) (Q:VK) (E:XK):Prop
 | mk (x n:_) (_:vs=[x]) (_:xo K H x (.type n)) (_:(yui x=true->Q .non H)) (_:(yui x=false->E (.ref C) none H))
def vcd:vk P w K mg Γ (CXe P w) 2 a.Pg a.Ph ["thing"] (yj7 K a.B0):=by
 exists T.Po.F.okE,vcn,k;obtain ⟨x,n,rfl,g,j,d⟩:=h;exists 1,0,yc (wd (PW.pt (č (xp (xt (xw (yjx T) k.m T.Fp (pa1 (pv 0))))) (Ĉ (xp (Ŏ zq zq yg (pv 0) (ve rfl T.Cr)))))) (yc (wz rfl T.Og T.Dt (pa1 wy))) y6);exists x,n,rfl,g,?_;rfl'
 cases hx:jp x with
 | false =>
  have e:yui x=false:=by
   cases x <;> first | rfl | cases hx
  rfl';exists by walk_at "len",d e
 | true =>
  obtain ⟨i,rfl⟩:=u4 hx;rfl';refine uu (fun b=>?_) (fun b=>?_)
  .rfl';refine yj3 (fun f=>?_) (fun f=>?_)
   .rfl';exact j (by simp [yui,b,f])
   .rfl';exists by walk_at "len",d (by simp [yui,f])
  .rfl';exists by walk_at "len",d (by simp [yui,b])
#synth vb7 ["thing"] vdc
inductive é (K:W.Frag) (C:Addr) (vs:List V) (H:Hp) (Q:VK) (E:XK):Prop
 | mk (x n:_) (_:vs=[x]) (_:xo K H x (.type n)) (_:(chV x=true->Q .non H)) (_:(chV x=false->E (.ref C) none H))
def ysi:vk P w K mg Γ (CXe P w) 3 a.Pi a.Pj ["thing"] (é K a.D8):=by
 exists T.Nr.F.okE,vb7,f;obtain ⟨x,n,rfl,c,d,e⟩:=h;exists 1,0,yc (wd (xp (xt (xw (vcm T) f.m T.Pl (pa1 (pv 0))))) (yc (wz rfl T.Rx T.Qh (pa1 wy))) y6);exists x,n,rfl,c,?_;rfl'
 cases hx:chV x with
 | false =>
  rfl';exists by walk_at "len",e hx
 | true =>
  rfl';exact d hx
#synth yw4 ["thing"] ytp
inductive ū (K:W.Frag) (C:Addr) (vs:List V) (H:Hp) (Q:VK) (E:XK):Prop
 | mk (x n:_) (_:vs=[x]) (_:xo K H x (.type n)) (_:(Þ x=true->Q .non H)) (_:(Þ x=false->E (.ref C) none H))
def Ċ:vk P w K mg Γ (CXe P w) 3 a.Ht a.Hu ["thing"] (ū K a.C0):=by
 exists T.Cj.F.okE,yw4,f;obtain ⟨x,n,rfl,c,d,e⟩:=h;exists 1,0,yc (wd (xp (xt (xw (vcj T) f.m T.Pk (pa1 (pv 0))))) (yc (wz rfl T.Ry T.Qi (pa1 wy))) y6);exists x,n,rfl,c,?_;rfl'
 cases hx:Þ x with
 | false =>
  rfl';exists by walk_at "len",e hx
 | true =>
  rfl';exact d hx
#synth yym ["chance","bit"] ys5
inductive ykz (K:W.Frag) (C D:Addr) (vs:List V) (H:Hp) (Q:VK) (E:XK):Prop
 | mk (x n y m:_) (_:vs=[x,y]) (_:xo K H x (.type n)) (_:xo K H y (.type m)) (_:(chV x=false->E (.ref C) none H)) (_:(chV x=true->Þ y=false->E (.ref D) none H)) (_:(∀ c b,x=.int c->y=.int b->chV x=true->Þ y=true->Q (.int (gvv c b)) H))
def yzv:vk P w K mg Γ (CXe P w) 4 a.Hv a.Hw ["chance","bit"] (ykz K a.D8 a.C0):=by
 exists T.Mt.F.okE,yym,i;obtain ⟨x,n,y,m,rfl,q,j,l,o,p⟩:=h;exists 2,0,ye (yt (xr (ysi T) i.m T.Nr y7 (pa1 (pv 0)))) (ye (yt (xr (Ċ T) i.m T.Cj y7 (pa1 (pv 1)))) (yc (yp (μ (yu xz (pv 1) yg (yz _)) (pv 0) (yn u7 (ve rfl T.Cq) (pv 0))))));exists x,n,rfl,q,fun f=>?_,l;rfl';exists y,m,rfl,j,fun g=>?_,o f;obtain ⟨c,rfl,z,u⟩:=yb5 f;obtain ⟨b,rfl,v,B⟩:=ycp g;rfl';have k:=p c b rfl rfl f g;unfold gvv at k;refine uu (fun e=>?_) (fun e=>?_)
 .rw [if_pos e] at k;rfl';exact k
 .rw [if_neg e] at k;rfl';exact k
#synth yxu ["self"] ys2
def ym1:vk P w K mg Γ CX0 1 a.Fd a.Hx ["self"] (Ő a.A6 (u6 (.int 0) (.int 0))):=by
 exists T.D9.F.ok,yxu,g;obtain ⟨p,c,rfl,f,k⟩:=h;exists 1,0,ye (yy (pv 0) yg rfl) (yc (yy (pv 0) yg rfl));exact k _ ya (But.upd.trans But.upd)
#synth yyp ["self"] yt9
def yxt:vk P w K mg Γ CX0 1 a.Hy a.Hz ["self"] (x3 (oS a) yuq):=by
 exists T.Fq.F.ok,yyp,m;obtain ⟨p,d,i,rfl,e,f,c,k⟩:=h
 cases i with
 | ev n o =>
  obtain ⟨l,r,q⟩:=f;have c:H p=some (.ins a.A6 d (u6 (.int n) (.int o))):=c;exists 1,0,yc (yp (yn y0 (yn wu (yn vj (yn wu yg (ym (pv 0) rfl)) yg) (ve rfl T.Cq)) (yn vj (yn wu yg (yn vj (ym (pv 0) rfl) (ym (pv 0) rfl))) yg)));exact k
 | qk _=>exact e.elim
 | rn _ _=>exact e.elim
#synth ywo ["self","bit"] yr1
def yxq:vk P w K mg Γ (CXe P w) 4 a.I0 a.I1 ["self","bit"] (jh K (oS a) yuq a.C0):=by
 exists T.Fr.F.okE,ywo,C;obtain ⟨p,g,q,x,v,rfl,f,j,i,u,z,B⟩:=h
 cases q with
 | ev n o =>
  obtain ⟨G,J,I⟩:=j;have i:H p=some (.ins a.A6 g (u6 (.int n) (.int o))):=i;exists 2,0,ye (yt (xr (Ċ T) C.m T.Cj y7 (pa1 (pv 1)))) (ye (wd (yu xz (pv 1) yg (yz _)) (yc (yy (pv 0) (yn vj (ym (pv 0) rfl) yg) rfl)) (yc (yy (pv 0) (yn vj (ym (pv 0) rfl) yg) rfl))) (yc (wd (yu ycf (yn vj (ym (pv 0) rfl) (ym (pv 0) rfl)) (ve rfl T.Cc) (yz _)) (ye (yy (pv 0) (yn y0 (yn vj (ym (pv 0) rfl) yg) yg) rfl) (yc (yy (pv 0) (yn y0 (yn vj (ym (pv 0) rfl) yg) yg) rfl))) y6)));exists x,v,rfl,u,fun D=>?_,B;obtain ⟨b,rfl,r,y⟩:=yds D;have k:=z b rfl r y;unfold Slt.see at k;dsimp only at k;rfl';refine uu (fun d=>?_) (fun d=>?_)
  .rw [if_pos d] at k;unfold ycd at k;rfl';refine uu (fun c=>?_) (fun c=>?_)
   .rw [if_pos c] at k;rfl';exact k _ ya ((But.upd.trans But.upd).trans But.upd)
   .rw [if_neg c] at k;rfl';exact k _ ya But.upd
  .rw [if_neg d] at k;unfold ycd at k;rfl';refine uu (fun c=>?_) (fun c=>?_)
   .rw [if_pos c] at k;rfl';exact k _ ya ((But.upd.trans But.upd).trans But.upd)
   .rw [if_neg c] at k;rfl';exact k _ ya But.upd
 | qk _=>exact f.elim
 | rn _ _=>exact f.elim
#synth yob ["self","made"] ["self"] ys1
def yxg:vk P w K mg Γ CX0 3 a.I2 a.I3 ["self"] (jf (oS a) yuq):=by
 exists T.Fs.F.ok,yob,z;obtain ⟨p,t,s,rfl,x,d,k⟩:=h
 cases s with
 | qk _=>exact x.elim
 | rn _ _=>exact x.elim
 | ev n o =>
 have d:H p=some (.ins a.A6 t (u6 (.int n) (.int o))):=d;exists 1,1,ye (yo (i:=1) yob.nd rfl (Or.inl rfl) (ug T.Ob (ym1 T) z.m rfl T.Oa T.D9.B .nil vx)) (ye (yy (pv 1) (ym (pv 0) rfl) rfl) (ye (yy (pv 1) (ym (pv 0) rfl) rfl) (yc (yp (pv 1)))));intro q j c r J;exists q,j,rfl,ya,fun L G D=>⟨rfl,?_⟩;have v:=Ê c r D;have f:=v _ _ d;have l:p≠q:=yb d c;rfl';have y:=yf (o':=HO.ins a.A6 j (u6 (.int n) (.int 0))) l f;rfl';exact k q j _ c ya fun b u e=>yf (yb e c) (yf (yb e c) (v _ _ e))
#synth yy6 ["self"] yt8
def ynr:vk P w K mg Γ CX0 1 a.Fe a.I4 ["self"] (Ő a.A5 (x6 (.int 8388608))):=by
 exists T.Da.F.ok,yy6,g;obtain ⟨p,c,rfl,f,k⟩:=h;exists 1,0,yc (yy (pv 0) (yn y0 (ve rfl T.Cq) yg) rfl);exact k _ ya But.upd
#synth yyu ["self"] ytm
def yv9:vk P w K mg Γ CX0 1 a.I5 a.I6 ["self"] (x3 (oS a) yum):=by
 exists T.Ft.F.ok,yyu,j;obtain ⟨p,d,g,rfl,e,l,c,k⟩:=h
 cases g with
 | qk h0 =>
  have c:H p=some (.ins a.A5 d (x6 (.int h0))):=c;exists 1,0,yc (yp (ym (pv 0) rfl));exact k
 | ev _ _=>exact e.elim
 | rn _ _=>exact e.elim
#synth yim ["self","bit","moved"] ["self","bit"] ytg
def yuu:vk P w K mg Γ (CXe P w) 4 a.I7 a.I8 ["self","bit"] (jh K (oS a) yum a.C0):=by
 exists T.Fu.F.okE,yim,B;obtain ⟨p,f,o,x,u,rfl,e,j,g,t,y,z⟩:=h
 cases o with
 | qk h0 =>
  obtain ⟨D,G⟩:=j;have g:H p=some (.ins a.A5 f (x6 (.int h0))):=g;exists 2,1,ye (yt (xr (Ċ T) B.m T.Cj y7 (pa1 (pv 1)))) (ye (wd (yu xz (pv 1) yg (yz _)) (yc (yo (i:=2) yim.nd rfl (Or.inl rfl) (yn vj (ym (pv 0) rfl) (yn y0 (yn u7 (ve rfl T.Cq) (ym (pv 0) rfl)) yg)))) (yc (yo (i:=2) yim.nd rfl (Or.inl rfl) (yn u7 (ym (pv 0) rfl) (yn y0 (ym (pv 0) rfl) yg))))) (yc (yy (pv 0) (pcB (yaa rfl) T.No (pac (pcB (Ž rfl) T.Np (pac (pv 2) (pa1 (ve rfl T.D6)))) (pa1 (yn u7 (ve rfl T.Cq) (ve rfl T.D6))))) rfl)));exists x,u,rfl,t,fun C=>?_,z;obtain ⟨b,rfl,q,v⟩:=yds C;have k:=y b rfl q v;unfold Slt.see at k;dsimp only at k;rfl';refine uu (fun c=>?_) (fun c=>?_)
  .rw [if_pos c] at k;rfl';exists _,_,rfl,?_;rfl';exists _,_,rfl,?_;rfl';exact k _ ya But.upd
  .rw [if_neg c] at k;rfl';exists _,_,rfl,?_;rfl';exists _,_,rfl,?_;rfl';exact k _ ya But.upd
 | ev _ _=>exact e.elim
 | rn _ _=>exact e.elim
#synth ynu ["self","made"] ["self"] yta
def yzt:vk P w K mg Γ CX0 3 a.I9 a.Ia ["self"] (jf (oS a) yum):=by
 exists T.Fv.F.ok,ynu,t;obtain ⟨p,l,s,rfl,o,d,k⟩:=h
 cases s with
 | ev _ _=>exact o.elim
 | rn _ _=>exact o.elim
 | qk h0 =>
 have d:H p=some (.ins a.A5 l (x6 (.int h0))):=d;exists 1,1,ye (yo (i:=1) ynu.nd rfl (Or.inl rfl) (ug T.Nk (ynr T) t.m rfl T.Nj T.Da.B .nil vx)) (ye (yy (pv 1) (ym (pv 0) rfl) rfl) (yc (yp (pv 1))));intro q j f g C;exists q,j,rfl,ya,fun D y x=>⟨rfl,?_⟩;have n:=Ê f g x;have r:=n _ _ d;rfl';exact k q j _ f ya fun b u e=>yf (yb e f) (n _ _ e)
#synth yw5 ["self"] yr4
def ynn:vk P w K mg Γ CX0 1 a.Ff a.Ib ["self"] (Ő a.Ab (Í (.int 1) (.int 0))):=by
 exists T.Db.F.ok,yw5,g;obtain ⟨p,c,rfl,f,k⟩:=h;exists 1,0,ye (yy (pv 0) yg rfl) (yc (yy (pv 0) yg rfl));exact k _ ya (But.upd.trans But.upd)
#synth ynp ["self","given"] ["self"] yrt
def yvt:vk P w K mg Γ CX0 1 a.Ic a.Ie ["self"] (x3 (oS a) yul):=by
 exists T.Fw.F.ok,ynp,t;obtain ⟨p,e,m,rfl,f,g,d,k⟩:=h
 cases m with
 | rn l n =>
  obtain ⟨r,q,u,v⟩:=g;have d:H p=some (.ins a.Ab e (Í (.int l) (.int n))):=d;exists 1,1,ye (yo (i:=1) ynp.nd rfl (Or.inl rfl) (yn y0 (yn wu (yn vj (yn wu yg (ym (pv 0) rfl)) yg) (ve rfl T.Cq)) (yn vj (yn wu yg (ym (pv 0) rfl)) yg))) (yc (yp (μ (yu xz (ym (pv 0) rfl) yg (yz _)) (pv 1) (yn u7 (ve rfl T.Cq) (pv 1)))));have k:Q (.int (if l=1 then Ò n else 16777216 - Ò n)) H:=k;refine uu (fun c=>?_) (fun c=>?_)
  .rw [if_pos c] at k;rfl';exact k
  .rw [if_neg c] at k;rfl';exact k
 | ev _ _=>exact f.elim
 | qk _=>exact f.elim
#synth yx9 ["self","bit"] ysz
def yvj:vk P w K mg Γ (CXe P w) 4 a.If a.Ig ["self","bit"] (jh K (oS a) yul a.C0):=by
 exists T.Fx.F.okE,yx9,B;obtain ⟨p,f,o,x,u,rfl,e,i,g,t,y,z⟩:=h
 cases o with
 | rn l n =>
  obtain ⟨D,J,G,I⟩:=i;have g:H p=some (.ins a.Ab f (Í (.int l) (.int n))):=g;exists 2,0,ye (yt (xr (Ċ T) B.m T.Cj y7 (pa1 (pv 1)))) (yc (wd (yu xz (pv 1) (ym (pv 0) rfl) (yz _)) (yc (yy (pv 0) (pcB (yaa rfl) T.No (pac (yn vj (ym (pv 0) rfl) yg) (pa1 (ve rfl T.Cc)))) rfl)) (ye (yy (pv 0) (pv 1) rfl) (yc (yy (pv 0) yg rfl)))));exists x,u,rfl,t,fun C=>?_,z;obtain ⟨b,rfl,q,v⟩:=yds C;have k:=y b rfl q v;unfold Slt.see at k;dsimp only at k;rfl';refine uu (fun c=>?_) (fun c=>?_)
  .rw [if_pos c] at k;rfl';exists _,_,rfl,?_;rfl';exact k _ ya But.upd
  .rw [if_neg c] at k;rfl';exact k _ ya (But.upd.trans But.upd)
 | ev _ _=>exact e.elim
 | qk _=>exact e.elim
#synth yms ["self","made"] ["self"] yrv
def yx3:vk P w K mg Γ CX0 3 a.Ih a.Ii ["self"] (jf (oS a) yul):=by
 exists T.Fz.F.ok,yms,z;obtain ⟨p,t,s,rfl,x,d,k⟩:=h
 cases s with
 | ev _ _=>exact x.elim
 | qk _=>exact x.elim
 | rn l n =>
 have d:H p=some (.ins a.Ab t (Í (.int l) (.int n))):=d;exists 1,1,ye (yo (i:=1) yms.nd rfl (Or.inl rfl) (ug T.Q8 (ynn T) z.m rfl T.Q7 T.Db.B .nil vx)) (ye (yy (pv 1) (ym (pv 0) rfl) rfl) (ye (yy (pv 1) (ym (pv 0) rfl) rfl) (yc (yp (pv 1)))));intro q j c r J;exists q,j,rfl,ya,fun L G D=>⟨rfl,?_⟩;have v:=Ê c r D;have f:=v _ _ d;have o:p≠q:=yb d c;rfl';have y:=yf (o':=HO.ins a.Ab j (Í (.int l) (.int 0))) o f;rfl';exact k q j _ c ya fun b u e=>yf (yb e c) (yf (yb e c) (v _ _ e))
#synth yx0 ["kind"] yrz
inductive ye7 (a:Ads) (vs:List V) (H:Hp) (Q:VK) (E':XK):Prop
 | mk (k:Fin 3) (_:vs=[.str (kdS k)]) (_:∀ p dx H',H p=none->H' p=some (oS a dx (kd0 k))->yv H H'->Q (.ref p) H')
def yvd:vk P w K mg Γ CX0 3 a.Ij a.Ik ["kind"] (ye7 a):=by
 exists T.Mu.F.ok,yx0,n;obtain ⟨r,rfl,k⟩:=h;exists 1,0,ye (wd (yu xz (pv 0) wy (yz _)) (yc (yp (ug T.Ob (ym1 T) n.m rfl T.Oa T.D9.B .nil vx))) y6) (ye (wd (yu xz (pv 0) wy (yz _)) (yc (yp (ug T.Nk (ynr T) n.m rfl T.Nj T.Da.B .nil vx))) y6) (ye (wd (yu xz (pv 0) wy (yz _)) (yc (yp (ug T.Q8 (ynn T) n.m rfl T.Q7 T.Db.B .nil vx))) y6) (yc ŏ)));exists rfl,?_
 match r with
 | 0 =>
  exists _,rfl,Ŝ rfl ?_;rfl';intro p g d f q;exists p,g,rfl,ya,fun j c i=>⟨rfl,?_⟩;exact k p g j d c fun b o e=>i b o (by rw [yk (yb e d),yk (yb e f)]; exact e) (yb e d)
 | 1 =>
  exists _,rfl,yce (by intro z; injection z with z; revert z; decide +kernel) ?_;rfl';exists rfl,?_;exists _,rfl,Ŝ rfl ?_;rfl';intro p g d f q;exists p,g,rfl,ya,fun j c i=>⟨rfl,?_⟩;exact k p g j d c fun b o e=>i b o (by rw [yk (yb e d),yk (yb e f)]; exact e) (yb e d)
 | 2 =>
  exists _,rfl,yce (by intro z; injection z with z; revert z; decide +kernel) ?_;rfl';exists rfl,?_;exists _,rfl,yce (by intro z; injection z with z; revert z; decide +kernel) ?_;rfl';exists rfl,?_;exists _,rfl,Ŝ rfl ?_;rfl';intro p g d f q;exists p,g,rfl,ya,fun j c i=>⟨rfl,?_⟩;exact k p g j d c fun b o e=>i b o (by rw [yk (yb e d),yk (yb e f)]; exact e) (yb e d)
#synth ywy ["thing"] ytf
inductive yek (K:W.Frag) (vs:List V) (H:Hp) (Q:VK) (E':XK):Prop
 | mk (x n:_) (_:vs=[x]) (_:xo K H x (.type n)) (_:Q (.bl (yjv x)) H)
def yx8:vk P w K mg Γ CX0 1 a.Il a.Im ["thing"] (yek K):=by
 exists T.Mv.F.ok,ywy,g;obtain ⟨x,n,rfl,b,k⟩:=h;exists 1,0,yc (yp (u8 (pcB wj T.A7 (pac (pv 0) (pa1 (z7 (T:="str") rfl T.Nq (by right))))) (jo (x4 yg2 (pv 0) (yb6 rfl T.Px) (by with_unfolding_all rfl)))));refine Ü b (yde b) ?_;rfl';by_cases hn:n="str"
 .obtain ⟨s',rfl⟩:∃ s',x=.str s':=by
   cases b with
   | str s'=>exists s',rfl
   | _=>exact absurd hn (by decide)
  rw [cK hn];refine yaw ?_;rfl';exists a.Cd,_,rfl,.inr (T.Py H),rfl,rfl,k
 .have e:yjv x=false:=by
   cases b with
   | str s'=>exact absurd rfl hn
   | _=>rfl
  rw [cP hn];rw [e] at k;exact yat k
#synth yxa ["thing"] yt3
inductive ybp (K:W.Frag) (vs:List V) (H:Hp) (Q:VK) (E':XK):Prop
 | mk (x n:_) (_:vs=[x]) (_:xo K H x (.type n)) (_:Q (.bl (plV x)) H)
def yww:vk P w K mg Γ CX0 2 a.Io a.Ip ["thing"] (ybp K):=by
 exists T.Mw.F.ok,yxa,f;obtain ⟨x,n,rfl,d,k⟩:=h;exists 1,0,yc (yp (u8 (xw (yjx T) f.m T.Fp (pa1 (pv 0))) (jo (ι zq zq yg (pv 0) (ve rfl T.Hi)))));exists x,n,rfl,d,?_;rfl'
 cases hx:jp x with
 | false =>
  have e:plV x=false:=by
   cases x <;> first | rfl | cases hx
  rw [e] at k;exact yat k
 | true =>
  obtain ⟨i,rfl⟩:=u4 hx;refine yaw ?_;rfl';refine uu (fun b=>?_) (fun b=>?_)
  .rfl';have e:plV (.int i)=decide (i <= 8):=by simp [plV,b]
   rw [e] at k;exact k
  .have e:plV (.int i)=false:=by simp [plV,b]
   rw [e] at k;exact k
#synth yxn ["thing"] ysx
inductive Ņ (K:W.Frag) (vs:List V) (H:Hp) (Q:VK) (E':XK):Prop
 | mk (x b:_) (_:vs=[x]) (_:PlB K H x b) (_:∀ H',yv H H'->Q (.bl b) H')
def yuw:vk P w K mg Γ CX0 3 a.Iq a.Ir ["thing"] (Ņ K):=by
 exists T.Mx.F.ok,yxn,hr;obtain ⟨x,b,rfl,hb,k⟩:=h;exists _,(ye (wd (PW.pt (č (xp (xt (pcB wj T.A7 (pac (pv 0) (pa1 (z7 (T:="tuple") rfl T.Ci (by right))))))) (č (yu ycf (pcB yr T.Ac (pa1 (pv 0))) (ve rfl T.E7) (yz _)) (Ĉ (xp (xt (pcB (jc rfl) T.D4 (pa1 (wn (js:=[]) (ys:=[]) rfl (ydx (pv 0)) (fun C S I X=>(xw (yww T) hr.m T.Mw (pa1 (pv 0)))) rfl rfl (hyc:=yx) (hrel:=yx)))))))))) (yc (yp ych)) y6) (yc (yp (pcB (jc rfl) T.D4 (pa1 (ycr (js:=[]) (ys:=[]) (xs:=["near","far"]) (g:=yur K 2 (jj (w8 0) (jj (w8 1) ymn))) rfl (yrb rfl T.Ha (pac (pv 0) (pa1 (xx (yyc.or ypb) (pv 0) (zn yg) zl)))) (fun C S I X=>(x4 ĝ (pv 0) (pv 1) (yz _))) rfl (fun C S I X=>yd7 rfl (uh (wl (i:=0) (show List.Nodup ((["near","far"]:List Str)++([]:List Str)) by right) rfl (Or.inl rfl)) (uh (wl (i:=1) (show List.Nodup ((["near","far"]:List Str)++([]:List Str)) by right) rfl (Or.inl rfl)) ř))) rfl (hyc:=yx) (hrel:=yx))))))),?_;exists 1,0;rcases hb with ⟨n,U,hn,rfl⟩ | ⟨t,xs,rfl,G,hl,Z,rfl⟩
 .rfl';refine Ü U (â U) ?_;rfl';refine ysm hn ?_;rfl';exact k _ (yv.refl _)
 .rfl';refine Ü (.tup G) (â (.tup G)) ?_;rfl';refine ysu rfl ?_;rfl';refine yoa (SqT.of G) ?_;rfl';unfold zy at k;refine uu (fun h4=>?_) (fun h4=>?_)
  .rw [cP (by omega),Bool.false_and,Bool.false_and] at k;rfl';exact k _ (yv.refl _)
  .rw [cK (by omega),Bool.true_and] at k;rfl';exists t,rfl,⟨_,SqT.of G⟩,fun D W=>?_;refine ygq (xs:=xs) (fun v=>.bl (plV v)) (SqT.of G) W (fun i y I J q f=>?_) (fun I q f=>?_)
   .obtain ⟨n,M⟩:=Z y (cR J);rfl';exists y,n,rfl,ĭ q M,?_;exact Mp.done W (vd (by omega)) J q f rfl
   have e:xs.map (fun v=>V.bl (plV v))=(xs.map plV).map V.bl:=by rw [df]; rfl
   rw [e] at f;rfl';exists D,_,rfl,SqL.of f,?_;rw [List.all_map];have ea:xs.all (id ∘ plV)=xs.all plV:=rfl;rw [ea];have c:=q _ _ G
   cases hp:xs.all plV with
   | false =>
    rw [hp,Bool.false_and] at k;rfl';exact k _ q
   | true =>
    rw [hp,Bool.true_and] at k
    have l:∀ y∈xs,∃ i:Int,y=.int i:=fun y hm=>by
     have:=List.all_eq_true.mp hp y hm
     cases y with
     | int i=>exists i,rfl
     | _=>cases this
    rfl';by_cases hx0:xs=[]
    .refine .inr ⟨t,xs,rfl,SqT.of c,?_,?_⟩
     .subst hx0;exists rfl,rfl
     .exists t,t,rfl,⟨_,_,SqT.of c,SqT.of c⟩,fun R d=>?_;refine yhw (xs:=xs) l (by omega) (SqT.of c) (by subst hx0; exact SqT.of c) d (fun i j σ' H' Q' h=>?_) (fun H4 O B=>?_)
      .rfl';exact h
      .rfl';exists R,_,rfl,SqL.of B,k _ (q.trans O)
    .refine .inl ⟨t,xs,rfl,SqT.of c,?_,fun u Y=>?_⟩
     .rintro ⟨z,_⟩
      have e1:HT.sIx xs.length 0 (some 1)=min 1 xs.length:=by
       have:=HT.sIx_nat xs.length 0 1;simpa using this
      rw [e1] at z
      cases xs with
      | nil=>exact hx0 rfl
      | cons x r=>simp at z
     .rw [ypj];have L:=y8 (o:=(HO.tup xs.tail)) Y;have p:upd I u (HO.tup xs.tail) u=some (HO.tup xs.tail):=ya;generalize upd I u (HO.tup xs.tail)=H3 at L p ⊢;exists t,u,rfl,⟨_,_,SqT.of (L _ _ c),SqT.of p⟩,fun R d=>?_;refine yhw (xs:=xs) l (by omega) (SqT.of (L _ _ c)) (SqT.of p) d (fun i j σ' H' Q' h=>?_) (fun H4 O B=>?_)
      .rfl';exact h
      .rfl';exists R,_,rfl,SqL.of B,k _ (q.trans (L.trans O))
#synth yzf ["thing"] yry
inductive yfh (K:W.Frag) (vs:List V) (H:Hp) (Q:VK) (E':XK):Prop
 | mk (x b:_) (_:vs=[x]) (_:LkB K H x b) (_:∀ H',yv H H'->Q (.bl b) H')
def ynh:vk P w K mg Γ CX0 4 a.Is a.Iu ["thing"] (yfh K):=by
 exists T.G0.F.ok,yzf,i;obtain ⟨x,b,rfl,d,k⟩:=h;exists _,(yc (yp (u8 (pcB wj T.A7 (pac (pv 0) (pa1 (z7 (T:="tuple") rfl T.Ci (by right))))) (u8 (x4 xz (pcB yr T.Ac (pa1 (pv 0))) yg (yz _)) (u8 (xw (yx8 T) i.m T.Mv (pa1 (ud z8 (pv 0) yg (fun _ _=>rfl)))) (jo (xw (yuw T) i.m T.Mx (pa1 (ud z8 (pv 0) yg (fun _ _=>rfl)))))))))),?_;exists 1,0;rcases d with ⟨n,e,r,rfl⟩ | ⟨t,o,rfl,c,d⟩
 .rfl';refine Ü e (â e) ?_;rfl';rw [cP r];exact yat (k _ (yv.refl _))
 .rfl';refine Ü (.tup c) (â (.tup c)) ?_;rfl';refine Ŝ rfl ?_;rfl';refine yoa (SqT.of c) ?_;rfl';rcases d with ⟨u,rfl⟩ | ⟨y,z,n,rfl,e,d⟩
  .rw [cP (show ¬ ((o.length:Int)=2) by omega)];exact yat (k _ (yv.refl _))
  .refine Ŝ rfl ?_;rfl';refine ś (SqT.of c) (xa (j:=0) rfl) ?_;rfl';exists y,n,rfl,e,?_;rcases d with ⟨g,rfl⟩ | ⟨g,l⟩
   .rw [g];rfl';exact k _ (yv.refl _)
   .rw [g];rfl';refine ś (SqT.of c) (xa (j:=1) rfl) ?_;rfl';exists z,b,rfl,l,k
#synth yvl ["thing"] yub
def yhj (K:W.Frag) (C:Addr):Sp:=fun vs H Q E=>(∃ x n,vs=[x]/\xo K H x (.type n)/\n≠"list"/\E (.ref C) none H) \/
 ∃ (l:Addr) (xs:List V) (bs:List Bool),vs=[.ref l]/\H l=some (.lst xs)/\xs.length <= 1000/\vc0 K H xs bs /\
  ((1 <= xs.length/\xs.length <= 6/\bs.all id=true)->∀ r H',H r=none->H' r=some (.lst xs)->yv H H'->Q (.ref r) H') /\
  (¬ (1 <= xs.length/\xs.length <= 6/\bs.all id=true)->∀ H',yv H H'->E (.ref C) none H')
def ynk:vk P w K mg Γ (CXe P w) 5 a.Iv a.Iw ["thing"] (yhj K a.Eo):=by
 refine T.G8.F.okE yvl (fun R H Q E h=>?_) (fun N A u s H R Q E M h=>?_)
 .rcases h with ⟨x,n,rfl,_⟩ | ⟨l,xs,f,rfl,_⟩
  .rfl
  .rfl
 .rcases h with ⟨x,n,rfl,I,U,k⟩ | ⟨l,xs,g,rfl,d,hz,q,Y,v⟩
  .exists _,(ye (wd (PW.pt (č (xp (xt (pcB wj T.A7 (pac (pv 0) (pa1 (z7 (T:="list") rfl T.Ad (by right))))))) (č (xp (Ŏ zq zq yg (pcB yr T.Ac (pa1 (pv 0))) (ve rfl T.Cs))) (Ĉ (xp (xt (pcB (jc rfl) T.D4 (pa1 (wn (js:=[]) (ys:=[]) rfl (wv (pv 0)) (fun C S B X=>(xw (ynh T) M.m T.G0 (pa1 (pv 0)))) rfl rfl (hyc:=yx) (hrel:=yx)))))))))) (yc (wz rfl T.Qu T.Pv (pa1 wy))) y6) (yc (yp (pcT vt T.Ad (pa1 (pv 0)))))),?_;refine yj (σ':=[some _]) rfl ?_;rfl';refine Ü I (ydg I) ?_;rfl';refine ysm U ?_;rfl';exists by walk_at "len",k
  .exists _,(ye (wd (PW.pt (č (xp (xt (pcB wj T.A7 (pac (pv 0) (pa1 (z7 (T:="list") rfl T.Ad (by right))))))) (č (xp (Ŏ zq zq yg (pcB yr T.Ac (pa1 (pv 0))) (ve rfl T.Cs))) (Ĉ (xp (xt (pcB (jc rfl) T.D4 (pa1 (wn (js:=[]) (ys:=[]) rfl (wv (pv 0)) (fun C S B X=>(xw (ynh T) M.m T.G0 (pa1 (pv 0)))) rfl rfl (hyc:=yx) (hrel:=yx)))))))))) (yc (wz rfl T.Qu T.Pv (pa1 wy))) y6) (yc (yp (pcT vt T.Ad (pa1 (pv 0)))))),?_;refine yj (σ':=[some _]) rfl ?_;rfl';refine Ü (.lst d) (ydg (.lst d)) ?_;rfl';refine ysu rfl ?_;rfl';refine ue (SqL.of d) ?_;rfl';refine uu (fun O=>?_) (fun O=>?_)
   .rfl';refine yj3 (fun W=>?_) (fun W=>?_)
    .rfl';exists l,rfl,⟨_,SqL.of d⟩,fun D J=>?_;refine u5 (K:=K) (xs:=xs) (Mp H D (fun i=>V.bl ((g[i]?).getD false))) (Mp.zero J) (fun _ _ _ p=>p.1.seq (SqL.of d)) (fun i y B t L p=>?_) (fun B p=>?_)
     .obtain ⟨c,b⟩:=p;have j:i < g.length:=by rw [<- q.1]; exact L
      rfl';exists y,g[i],rfl,(q.2 i y _ t (cC j)).same c,fun Z G=>?_;refine Mp.doneR J (vd (by omega)) L (c.trans G) (G _ _ b) ?_;rw [cC j];rfl
     obtain ⟨c,b⟩:=p;rw [ykq g q.1] at b;rfl';exists D,_,rfl,SqL.of b,?_;have o:=c _ _ d
     cases hp:g.all id with
     | false =>
      rfl';exists by walk_at "len",v (by rw [hp]; rintro ⟨_,_,z⟩; cases z) _ c
     | true =>
      rfl';refine zg (SqL.of o) fun r e=>?_;exact Y ⟨by omega,by omega,hp⟩ r _ (c.free e) ya (c.trans (y8 e))
    .rfl';exists by walk_at "len",v (by omega) _ (yv.refl _)
   .rfl';exists by walk_at "len",v (by omega) _ (yv.refl _)
#synth yvf ["signs","place"] yso
inductive yl9 (K:W.Frag) (vs:List V) (H:Hp) (Q:VK) (E':XK):Prop
 | mk (l:Addr) (sg:List Int) (p:Int) (_:vs=[.ref l,.int p]) (_:SqL K H l (sg.map V.int)) (_:1 <= p) (_:Q (.int (yo1 sg p)) H)
def yu6:vk P w K mg Γ CX0 1 a.Ix a.Iy ["signs","place"] (yl9 K):=by
 exists T.My.F.ok,yvf,n;obtain ⟨l,j,p,rfl,f,g,k⟩:=h;exists 2,0,yc (yp (μ (yu zq (pv 1) (pcB yr T.Ac (pa1 (pv 0))) (yz _)) (ud xv (pv 0) (yz5 yng (pv 1)) (fun _ _=>rfl)) (ve rfl T.Nu)));refine ue f ?_;rw [cA];rfl';unfold yo1 at k;refine uu (fun b=>?_) (fun b=>?_)
 .rw [if_pos b] at k;obtain ⟨c,e,_⟩:=ykx g b;rw [e] at k;rfl';exact Ú f (by rw [ypl,e]; rfl) k
 .rw [if_neg b] at k;rfl';exact k
#synth yvs ["look","signs","node"] ytt
def u9 (K:W.Frag) (H:Hp) (k:Addr) (x:V) (ps:List Int):Prop:=∃ t,SqT K H k [x,.ref t]/\SqT K H t (ps.map V.int)/\(∀ p∈ps,1 <= p/\p <= 8)/\ps.length <= 4
def u9.same {H H':Hp} {k:Addr} {x:V} {ps:List Int} (S:yv H H') (h:u9 K H k x ps):u9 K H' k x ps:=by
 obtain ⟨t,b,d,a,c⟩:=h;exists t,S.tup b,S.tup d,a,c
def ctx (ps sg:List Int) (nd:Int):List Int:=ps.map (yo1 sg)++[nd]
def bkV (sg:List Int):V->V
 | .int p=>.int (yo1 sg p)
 | _=>.non
def ypr (sg ps:List Int):(ps.map V.int).map (bkV sg)=(ps.map (yo1 sg)).map V.int:=by
 rw [df,df];rfl
inductive yfc (K:W.Frag) (vs:List V) (H:Hp) (Q:VK) (E':XK):Prop
 | mk (k l:Addr) (x:V) (ps sg:List Int) (nd:Int) (_:vs=[.ref k,.ref l,.int nd]) (_:u9 K H k x ps) (_:SqL K H l (sg.map V.int)) (_:∀ r H',H r=none->H' r=some (.tup ((ctx ps sg nd).map V.int))->yv H H'->Q (.ref r) H')
def ywi:vk P w K mg Γ CX0 2 a.Iz a.J0 ["look","signs","node"] (yfc K):=by
 exists T.Mz.F.ok,yvs,R;obtain ⟨W,l,x,u,v,L,rfl,⟨t,U,B,o,O⟩,N,k⟩:=h;exists 3,0,yc (yp (pcT γ T.Ci (pa1 (yn yn7 (wn (js:=[1]) (ys:=["signs"]) rfl (ydx (ud z8 (pv 0) yg (fun _ _=>rfl))) (fun C X I Y=>(xw (yu6 T) R.m T.My (pac (pv 1) (pa1 (pv 0))))) rfl rfl (hyc:=(all_cons rfl yx)) (hrel:=(all_cons rfl yx))) (xh (pa1 (pv 2)))))));refine ś U (xa (j:=1) rfl) ?_;exists t,rfl,⟨_,B⟩,fun D G=>?_;have f:(u.map V.int).length < sizeLine:=vd (by rw [cA]; omega);refine Ģ (xs:=u.map V.int) (bkV v) B G (fun i y I z e b=>?_) (fun I e b=>?_)
 .obtain ⟨p,rfl,g,_,_⟩:=jm z;rfl';exists l,v,p,rfl,e.seq N,(o p g).1,?_;exact Mp.done G f z e b rfl
 .rw [ypr] at b;rfl';exists by walk_at "len",fun n hn=>?_
  exists hn,H3,S3,hn3;exists D,n,_,_,rfl,rfl,S3 _ _ b,hn3,Æ (by rw [cA,cA]; show _+1 <= _; omega),fun c hc=>?_;exists hc,H4,S4,hc4;exists c,_,rfl,.inl ⟨SqL.of hc4,fun r d=>?_⟩;have S:=e.trans (S3.trans S4);refine k r _ (S.free d) (ya.trans ?_) (S.trans (y8 d));unfold ctx;rw [cM];rfl
#synth yxi ["self","look"] ytk
inductive ygy (a:Ads) (vs:List V) (H:Hp) (Q:VK) (E':XK):Prop
 | mk (p dx lk:Addr) (kd:Fin 3) (_:vs=[.ref p,.ref lk]) (_:H p=some (.ins a.Aa dx [])) (_:∀ d H',H d=none->ψ a H' p dx lk d kd (fun _=>none) (fun b=>b=d) 0->But p H H'->Q .non H')
def yn0:vk P w K mg Γ CX0 1 a.Fg a.J1 ["self","look"] (ygy a):=by
 exists T.Dc.F.ok,yxi,C;obtain ⟨p,j,i,u,rfl,v,k⟩:=h;exists 2,0,ye (yy (pv 0) (pv 1) rfl) (yc (yy (pv 0) yda rfl));intro d l
 have c:H d=none:=by
  cases e:H d with
  | none=>rfl
  | some o =>
   by_cases z:d=p
   .rw [z,ya] at l; cases l
   .rw [yk z,e] at l; cases l
 have g:d≠p:=fun z=>by rw [z,v] at c; cases c
 have q:=z5 (o':=HO.dT []) l (show upd H p (HO.ins a.Aa j ([("look",V.ref i)]:List (Str × V))) p=some (HO.ins a.Aa j ([("look",V.ref i)]:List (Str × V))) from ya);have f:upd (upd H p (HO.ins a.Aa j ([("look",V.ref i)]:List (Str × V)))) d (.dT []) d=some (.dT []):=ya;have r:But p H (upd (upd H p (HO.ins a.Aa j ([("look",V.ref i)]:List (Str × V)))) d (.dT [])):=fun b o e n=>by rw [yk (yb e c),yk n]; exact e
 generalize upd (upd H p (HO.ins a.Aa j ([("look",V.ref i)]:List (Str × V)))) d (.dT [])=D at q f r ⊢;rfl'
 refine k d _ c ⟨ya,fun b y=>⟨HO.dT [],by cases y; exact yf g f,rfl⟩,fun z=>g z.symm,rfl,fun t e=>(by cases (yf g f).symm.trans e; exact ⟨List.nodup_nil,fun _ z=>(nomatch z)⟩),[],fun _=>(0,0),yf g f,cE _,fun _ _=>rfl,fun _ _ z=>(nomatch z),fun _ _ _ _ z=>(nomatch z)⟩ (r.trans But.upd)
#synth ynw ["self","signs","node","context"] ["self","signs","node"] ytq
inductive ygd (K:W.Frag) (a:Ads) (vs:List V) (H:Hp) (Q:VK) (E':XK):Prop
 | mk (p dx lk d sl:Addr) (kd:Fin 3) (f:List Int->Option Slt) (O:Addr->Prop) (m:Nat) (ps sg:List Int) (nd:Int) (_:vs=[.ref p,.ref sl,.int nd]) (_:ψ a H p dx lk d kd f O m) (_:m < 1000000) (_:u9 K H lk (.str (kdS kd)) ps) (_:SqL K H sl (sg.map V.int)) (_:∀ (q:Addr) (O':Addr->Prop) (H':Hp),ψ a H' p dx lk d kd (ä f (ctx ps sg nd) ((f (ctx ps sg nd)).getD (kd0 kd))) O' (m+1)->(∀ kvs,H' d=some (.dT kvs)->ut kvs (kI (ctx ps sg nd))=some (.ref q))->(∀ c,O' c->O c\/H c=none)->(∀ c,O c->O' c)->ymi O H H'->Q (.ref q) H')
def yvp:vk P w K mg Γ CX0 4 a.J2 a.J3 ["self","signs","node"] (ygd K a):=by
 exists T.G9.F.ok,ynw,hr;obtain ⟨p,dx,lk,d,sl,D,f,O,m,ps,sg,Y,rfl,hb,hm,hl,hs,k⟩:=h;have ad:=hb.me;exists 3,1,ye (yo (i:=3) ynw.nd rfl (Or.inl rfl) (xw (ywi T) hr.m T.Mz (pac (ym (pv 0) rfl) (pac (pv 1) (pa1 (pv 2)))))) (ye (jr (wd (yiu (Ŷ (za hr) (pv 3) (ym (pv 0) rfl))) (yc (È (za hr) (ym (pv 0) rfl) (pv 3) (xw (yvd T) hr.m T.Mu (pa1 (ud z8 (ym (pv 0) rfl) yg (fun _ _=>rfl)))) rfl)) y6)) (yc (yp (x8 (za hr) (ym (pv 0) rfl) (pv 3) (fun _ _=>rfl)))));exists lk,sl,_,ps,sg,Y,rfl,hl,hs,fun r H1 ab a4 S1=>?_;have l:H1 r=some (.tup ((kI (ctx ps sg Y)).map kV)):=by rw [ywg]; exact a4
 generalize ctx ps sg Y=b at l k;have g:=hb.same S1;have y:=g.me;rfl';refine yju (fun σ' H'=>σ'=[some (.ref p),some (.ref sl),some (.int Y),some (.ref r)]/\∃ O',ψ a H' p dx lk d D (ä f b ((f b).getD (kd0 D))) O' (m+1)/\(∀ c,O' c->O c\/H c=none)/\(∀ c,O c->O' c)/\ymi O H H'/\H' r=some (.tup ((kI b).map kV))) ?_ ?_
 .obtain ⟨L,n,G,h2,S,N,h5⟩:=g.tb;rfl';exists d,_,rfl,ď.t G l,?_
  cases hf:f b with
  | none =>
   rw [S b hf];rfl';refine yaw ?_;rfl';obtain ⟨t,a1,ac,_,_⟩:=hl;refine ś (S1.tup a1) (xa (j:=0) rfl) ?_;rfl';exists D,rfl,fun q dq H2 u Z J=>?_;rfl';have M:=J _ _ y;rfl';exists d,_,rfl,yfq.t (J _ _ G) (J _ _ l) (vd (by omega)),?_;have a3:=S1.trans J;have a0:q≠d:=fun z=>by rw [z,G] at u; cases u
   have a6:p≠d:=fun z=>g.np (z ▸ g.dO);rfl';exists rfl,fun c=>O c\/c=q,⟨yf a6 M,fun c v=>?_,fun z=>?_,.inl g.dO,ymk.snoc (g.ky L G) (S b hf) ya,ω L (kI b) (.ref q),fun j=>if j=b then (q,dq) else n j,ya,?_,fun j I=>?_,fun j s' I=>?_,fun j1 W s1 s2 e1 X B=>?_⟩,fun c v=>?_,fun c v=>.inl v,fun c o e no=>?_,yf (ww (J _ _ l) (J _ _ G) (by intro z; cases z)) (J _ _ l)
   .rcases v with v | rfl
    .obtain ⟨o,ho,hi⟩:=g.own c v;by_cases z:c=d
     .rw [z];exists _,ya,rfl
     .exists o,yf z (J _ _ ho),hi
    .obtain ⟨C,fs,eo⟩:=π a dq (kd0 D);exists _,yf a0 Z,by rw [eo]; rfl
   .rcases z with z | z
    .exact g.np z
    .rw [z] at y;rw [y] at u;cases u
   .rw [zh _ (S b hf),cF];show _+1 <= m+1;omega
   .unfold ä at I
    split at I
    .cases I
    .rename_i hne
     rw [je,if_neg fun z=>hne (yao z)];exact S j I
   .unfold ä at I
    split at I
    .rename_i he
     subst he;cases I;dsimp only;rw [if_pos rfl,je,if_pos rfl];exists rfl,yf a0 Z,yoq D,yl0 D,.inr rfl
    .rename_i hne
     obtain ⟨U,x,q3,q4,q5⟩:=N j s' I;dsimp only;rw [if_neg hne,je,if_neg fun z=>hne (yao z)]
     have a7:(n j).1≠d:=by
      obtain ⟨C,fs,eo⟩:=π a (n j).2 s';rw [eo] at x;exact ww x G (by intro z; cases z)
     exists U,yf a7 (J _ _ x),q3,q4,.inl q5
   .unfold ä at e1 X;dsimp only at B;by_cases z1:j1=b
    .by_cases z2:W=b
     .rw [z1,z2]
     .rw [if_neg z2] at X;rw [if_pos z1,if_neg z2] at B;obtain ⟨_,x,_⟩:=N W s2 X;have B:q=(n W).1:=B;rw [<- B,u] at x;cases x
    .rw [if_neg z1] at e1;by_cases z2:W=b
     .rw [if_neg z1,if_pos z2] at B;obtain ⟨_,x,_⟩:=N j1 s1 e1;have B:(n j1).1=q:=B;rw [B,u] at x;cases x
     .rw [if_neg z2] at X;rw [if_neg z1,if_neg z2] at B;exact h5 j1 W s1 s2 e1 X B
   .rcases v with v | rfl
    .exact .inl v
    .exact .inr (S1.free u)
   .exact yf (fun z=>no (z ▸ g.dO)) (a3 _ _ e)
  | some s' =>
   obtain ⟨U,x,q3,q4,q5⟩:=N b s' hf;rw [U];rfl';exists rfl,O,?_,fun c v=>.inl v,fun c v=>v,fun c o e _=>S1 _ _ e,l
   have ef:ä f b ((some s').getD (kd0 D))=f:=by
    funext j
    unfold ä
    split
    .rename_i z
     rw [z,hf];rfl
    .rfl
   rw [ef];exists g.me,g.own,g.np,g.dO,g.ky,L,n,G,Nat.le_succ_of_le h2,S,N,h5
 .rintro σ' H2 ⟨rfl,O',R,hO,hM,B2,a5⟩;have M:=R.me;obtain ⟨L,n,G,h2,S,N,h5⟩:=id R.tb;have a2:ä f b ((f b).getD (kd0 D)) b=some ((f b).getD (kd0 D)):=by unfold ä; rw [if_pos rfl]
  obtain ⟨U,x,q3,q4,q5⟩:=N b _ a2;rfl';exists d,_,rfl,by rw [<- U]; exact ď.t G a5,?_
  exact k (n b).1 O' H2 R (fun a9 e=>by rw [G] at e; cases e; exact U) hO hM B2
structure yo0 (a:Ads) (H:Hp) (d:Addr) (kd:Fin 3) (f:List Int->Option Slt) (O:Addr->Prop) (m:Nat):Prop where
 own:∀ b,O b->∃ o,H b=some o/\yuo o=true
 dO:O d
 ky:ymk H d
 tb:∃ (kvs:List (List Key × V)) (loc:List Int->Addr × Addr),H d=some (.dT kvs)/\kvs.length <= m/\(∀ k,f k=none->ut kvs (kI k)=none) /\
  (∀ k s,f k=some s->ut kvs (kI k)=some (.ref (loc k).1)/\H (loc k).1=some (oS a (loc k).2 s)/\s.ok/\s.kind=kd/\O (loc k).1)/\(∀ k j s t,f k=some s->f j=some t->(loc k).1=(loc j).1->k=j)
def yo0.same {H H':Hp} {d:Addr} {kd:Fin 3} {f:List Int->Option Slt} {O:Addr->Prop} {m:Nat} (h:yo0 a H d kd f O m) (S:yv H H'):yo0 a H' d kd f O m:=by
 obtain ⟨c,g,e,j,t,w,v⟩:=h.tb;exists fun b r=>?_,h.dO,h.ky.mv e (S _ _ e),c,g,S _ _ e,j,t,fun k s q=>?_,v
 .obtain ⟨o,u,i⟩:=h.own b r;exists o,S _ _ u,i
 .obtain ⟨n,l,p⟩:=w k s q;exists n,S _ _ l,p
def yo0.put {H H2:Hp} {d:Addr} {kd:Fin 3} {f:List Int->Option Slt} {O:Addr->Prop} {m:Nat} {key:List Int} {s:Slt} (h:yo0 a H d kd f O m) (S:yv H H2) (nq:H q=none) (hq:H2 q=some (oS a dq s)) (ok:s.ok) (hk:s.kind=kd) (hf:f key=none) {kvs:List (List Key × V)} (hd:H2 d=some (.dT kvs)) :
  yo0 a (upd H2 d (.dT (ω kvs (kI key) (.ref q)))) d kd (ä f key s) (fun c=>O c\/c=q) (m+1):=by
 obtain ⟨E,g,t,R,x,y,J⟩:=h.tb;have e:=S _ _ t;rw [hd] at e;cases e;have p:q≠d:=fun z=>by rw [z,t] at nq; cases nq
 have w:=h.ky kvs t;exists fun c v=>?_,.inl h.dO,ymk.snoc w (x key hf) ya,ω kvs (kI key) (.ref q),fun j=>if j=key then (q,dq) else g j,ya,?_,fun j k=>?_,fun j D k=>?_,fun u l G F r n b=>?_
 .rcases v with v | rfl
  .obtain ⟨o,I,P⟩:=h.own c v;by_cases z:c=d
   .rw [z];exists _,ya,rfl
   .exists o,yf z (S _ _ I),P
  .obtain ⟨C,N,A⟩:=π a dq s;exists _,yf p hq,by rw [A]; rfl
 .rw [zh _ (x key hf),cF];show _+1 <= m+1;omega
 .unfold ä at k
  split at k
  .cases k
  .rename_i hne
   rw [je,if_neg fun z=>hne (yao z)];exact x j k
 .unfold ä at k
  split at k
  .rename_i he
   subst he;cases k;dsimp only;rw [if_pos rfl,je,if_pos rfl];exists rfl,yf p hq,ok,hk,.inr rfl
  .rename_i hne
   obtain ⟨Q,i,M,K,L⟩:=y j D k;dsimp only;rw [if_neg hne,je,if_neg fun z=>hne (yao z)]
   have B:(g j).1≠d:=by
    obtain ⟨C,N,A⟩:=π a (g j).2 D;rw [A] at i;exact ww i t (by intro z; cases z)
   exists Q,yf B (S _ _ i),M,K,.inl L
 .unfold ä at r n;dsimp only at b;by_cases z1:u=key
  .by_cases z2:l=key
   .rw [z1,z2]
   .rw [if_neg z2] at n;rw [if_pos z1,if_neg z2] at b;obtain ⟨_,i,_⟩:=y l F n;have b:q=(g l).1:=b;rw [<- b,nq] at i;cases i
  .rw [if_neg z1] at r;by_cases z2:l=key
   .rw [if_neg z1,if_pos z2] at b;obtain ⟨_,i,_⟩:=y u G r;have b:(g u).1=q:=b;rw [b,nq] at i;cases i
   .rw [if_neg z2] at n;rw [if_neg z1,if_neg z2] at b;exact J u l G F r n b
def ykw {kvs:List (List Key × V)} {k:List Key} {v:V} (h:(kvs.map (·.1)).Nodup) (hm:(k,v)∈kvs):ut kvs k=some v:=by
 induction kvs with
 | nil=>cases hm
 | cons p r ih =>
  rw [di,dR] at h;rcases cT.mp hm with e | hm
  .subst e;exact xj (p:=(k,v)) rfl
  .have a:¬ p.1=k:=fun z=>h.1 (by rw [z]; exact cI.mpr ⟨_,hm,rfl⟩);rw [xi a];exact ih h.2 hm
def Ō {kvs:List (List Key × V)} {k j:List Key} {v:V} (h:kvs[i]?=some (k,v)):j∈(kvs.take (i+1)).map (·.1) ↔ (j=k\/j∈(kvs.take i).map (·.1)):=by
 rw [List.take_add_one,h,cM,c7];show _\/j∈[k] ↔ _;rw [cQ,or_comm]
def yp9 {kvs:List (List Key × V)} {k:List Key} {v:V} (hn:(kvs.map (·.1)).Nodup) (h:kvs[i]?=some (k,v)):k∉(kvs.take i).map (·.1):=fun m=>by
 have a:i < kvs.length:=(cO.mp h).1;rw [<- List.take_append_drop i kvs,cM,List.nodup_append] at hn;refine hn.2.2 _ m k ?_ rfl;rw [d8 a,di,(cO.mp h).2];exact dm
#synth yai ["self","slots","context","slot","made"] ["self"] yr6
inductive yhm (a:Ads) (vs:List V) (H:Hp) (Q:VK) (E':XK):Prop
 | mk (p dx lk d:Addr) (kd:Fin 3) (f:List Int->Option Slt) (O:Addr->Prop) (m:Nat) (_:vs=[.ref p]) (_:ψ a H p dx lk d kd f O m) (_:m < 1000000) (_:∀ q dq d' O' H',H q=none->ψ a H' q dq lk d' kd f O' m->(∀ c,O' c->H c=none)->yv H H'->Q (.ref q) H')
def yw7:vk P w K mg Γ CX0 4 a.J4 a.J5 ["self"] (yhm a):=by
 exists T.Ga.F.ok,yai,hr;obtain ⟨p,dx,lk,d,kd,f,O,m,rfl,hb,hm,k⟩:=h;have ab:=hb.me;obtain ⟨g,M,h1,h2,h3,h4,h5⟩:=hb.tb;obtain ⟨a6,ac⟩:=hb.ky g h1;refine yh (yo (i:=1) yai.nd rfl (Or.inl rfl) yda) ?_;refine yh (ybv (ur PassesOwn.never rfl (yly (ym (pv 0) rfl)) (yd7 rfl (uh (wl (i:=2) yai.nd rfl (Or.inl rfl)) (uh (wl (i:=3) yai.nd rfl (Or.inl rfl)) ř))) (yc (È (za hr) (pv 1) (pv 2) (Į (vo (pv 3) T.Bc T.Fs.m (yxg T) hr.m T.Fs.B .nil vx) (Į (vo (pv 3) T.C1 T.Fv.m (yzt T) hr.m T.Fv.B .nil vx) (vo (pv 3) T.C7 T.Fz.m (yx3 T) hr.m T.Fz.B .nil vx))) rfl)))) ?_;refine yh (yo (i:=4) yai.nd rfl (Or.inl rfl) (ÿ T.Od (yn0 T) hr.m rfl T.Oc T.Dc.B .nil vx (pa1 (ym (pv 0) rfl)))) ?_;refine yh (yy (pv 4) (pv 1) rfl) ?_;exists 1,4,yc (yp (pv 4));intro e ge;have S1:=y8 (o:=(HO.dT [])) ge;have W:upd H e (HO.dT []) e=some (HO.dT []):=ya;generalize upd H e (HO.dT [])=H1 at S1 W ⊢;have an:=S1 _ _ ab;have a5:=S1 _ _ h1;have ar:p≠d:=fun z=>hb.np (z ▸ hb.dO);have L:e≠d:=fun z=>by rw [z,h1] at ge; cases ge
 rfl';exists d,g,rfl,a5,fun ob=>?_;have a7:upd H1 d (.frz ob (.dT g)) d=some (.frz ob (.dT g)):=ya;have BF:But d H1 (upd H1 d (.frz ob (.dT g))):=But.upd;generalize upd H1 d (.frz ob (.dT g))=HF at a7 BF ⊢;refine yf7 (fun i σ2 G=>∃ (v2 v3:Option V) (Y:List Int->Option Slt) (Z:Addr->Prop),σ2=[some (.ref p),some (.ref e),v2,v3,none]/\yo0 a G e kd Y Z i/\(∀ j,(kI j∈(g.take i).map (·.1)->Y j=f j)/\(kI j∉(g.take i).map (·.1)->Y j=none))/\(∀ c,Z c->H c=none)/\G d=some (.frz ob (.dT g))/\But d H G)
  ⟨none,none,fun _=>none,fun c=>c=e,rfl,⟨fun b x=>⟨.dT [],by cases x; exact BF _ _ W L,rfl⟩,rfl,fun l n=>(by cases (BF _ _ W L).symm.trans n; exact ⟨List.nodup_nil,fun _ z=>(nomatch z)⟩),[],fun _=>(0,0),BF _ _ W L,cV _,fun _ _=>rfl,fun _ _ z=>(nomatch z),fun _ _ _ _ z=>(nomatch z)⟩,fun j=>⟨fun z=>(by rw [List.take_zero] at z; cases z),fun _=>rfl⟩,fun c z=>by cases z; exact ge,a7,fun b o n ne=>BF _ _ (S1 _ _ n) ne⟩
  (by rintro i σ2 G _ ⟨_,_,_,_,_,_,_,_,w,_⟩; exact w) ?_ ?_
 .rintro i ae v σ2 G t kt r ⟨v2,v3,Y,Z,rfl,gT,gf,gO,gd,gB⟩ gt af;obtain ⟨D,a2⟩:=ac _ (cR r);have a2:ae=kI D:=a2;subst a2;have N:=ykw a6 (cR r)
  obtain ⟨s',a9⟩:∃ s',f D=some s':=by
   cases z:f D with
   | none=>rw [h3 D z] at N; cases N
   | some s'=>exists s',rfl
  obtain ⟨U,q2,q3,q4,q5⟩:=h4 D s' a9;rw [N] at U;injection U with U;subst U
  have aj:(M D).1≠d:=by
   obtain ⟨C,fs,eo⟩:=π a (M D).2 s';rw [eo] at q2;exact ww q2 h1 (by intro z; cases z)
  have T1:=y8 (o:=(HO.tup [V.ref kt,V.ref (M D).1])) gt;have a8:upd G t (HO.tup [V.ref kt,V.ref (M D).1]) t=some (HO.tup [V.ref kt,V.ref (M D).1]):=ya;generalize upd G t (HO.tup [V.ref kt,V.ref (M D).1])=G1 at T1 a8 ⊢;refine ydu (SqT.of a8) rfl ?_;rfl';refine ype (fun Q' h=>yt1 rfl h) (T1 _ _ (gB _ _ q2 aj)) fun q dq G2 J aa T2=>?_;have S2:=T1.trans T2;obtain ⟨l,I,S,w2,w3,w4,w5⟩:=id gT.tb;have a4:Y D=none:=(gf D).2 (yp9 a6 r);have ak:=S2 _ _ gd;rfl';exists e,_,rfl,yfq.t (S2 _ _ S) (S2 _ _ af) (vd (by have:=(cO.mp r).1; omega)),?_;rfl';exists _,_,_,_,rfl,gT.put S2 (T1.free J) aa q3 q4 a4 (S2 _ _ S),fun j=>?_,fun c hc=>?_,yf L.symm ak,fun b o n ne=>yf (yb n ge) (S2 _ _ (gB _ _ n ne))
  .unfold ä;by_cases z:j=D
   .rw [if_pos z,z];exists fun _=>a9.symm,fun w=>absurd ((Ō r).mpr (.inl rfl)) w
   .rw [if_neg z];exists fun w=>(gf j).1 (((Ō r).mp w).resolve_left fun y=>z (yao y)),fun w=>(gf j).2 fun y=>w ((Ō r).mpr (.inr y))
  .rcases hc with hc | rfl
   .exact gO c hc
   .cases z:H c with
    | none=>rfl
    | some o =>
     by_cases y:c=d
     .rw [y] at J;rw [T1 _ _ gd] at J;cases J
     .rw [T1 _ _ (gB _ _ z y)] at J;cases J
 .rintro σ2 G ⟨v2,v3,Y,Z,rfl,gT,gf,gO,gd,gB⟩
  have ag:Y=f:=by
   funext j
   have gj:=gf j;rw [dN] at gj;by_cases w:kI j∈g.map (·.1)
   .exact gj.1 w
   .rw [gj.2 w]
    cases z:f j with
    | none=>rfl
    | some s' =>
     have U:=(h4 j s' z).1;have a1:=zk (kI j) g;rw [U] at a1;obtain ⟨pr,ad,n⟩:=List.any_eq_true.mp a1;exact absurd (cI.mpr ⟨pr,ad,of_decide_eq_true n⟩) w
  subst ag;exists d,ob,.dT g,fun o u z=>(by rw [a5] at z; cases z),gd,?_
  have ST:yv H (upd G d (.dT g)):=fun b o n=>by
   by_cases y:b=d
   .rw [y,ya];rw [y,h1] at n;exact n
   .rw [yk y];exact gB _ _ n y
  have a3:yo0 a (upd G d (.dT g)) e kd Y Z g.length:=by
   obtain ⟨l,I,S,w2,w3,w4,w5⟩:=gT.tb
   have nO:∀ c,Z c->c≠d:=fun c hc z=>by
    have:=gO c hc;rw [z,h1] at this;cases this
   exists fun b x=>?_,gT.dO,gT.ky.mv S (yf L S),l,I,yf L S,w2,w3,fun k s hk=>?_,w5
   .obtain ⟨o,ho,hi⟩:=gT.own b x;exists o,yf (nO b x) ho,hi
   .obtain ⟨U,q2,q3,q4,q5⟩:=w4 k s hk;exists U,yf (nO _ q5) q2,q3,q4,q5
  generalize upd G d (.dT g)=GT at ST a3 ⊢;have ao:=ST _ _ ab;rfl';intro q dq nq ah aq;exists q,dq,lk,kd,rfl,ya,fun d2 G2 am al B2=>⟨rfl,?_⟩;have S3:=Ê nq ah B2;have aa:=al.me;have R:=a3.same S3;rfl'
  have X:¬ Z q:=fun w=>by
   obtain ⟨o,ho,_⟩:=a3.own q w;rw [nq] at ho;cases ho
  obtain ⟨l,I,S,w2,w3,w4,w5⟩:=R.tb;have a0:e≠q:=fun z=>X (z ▸ R.dO);refine k q dq e Z _ (ST.free nq) ⟨ya,fun b x=>?_,X,R.dO,R.ky.mv S (yf a0 S),l,I,yf a0 S,by omega,w3,fun k s hk=>?_,w5⟩ gO (fun b o n=>yf (fun z=>by rw [z] at n; rw [ST _ _ n] at nq; cases nq) (S3 _ _ (ST _ _ n)))
  .obtain ⟨o,ho,hi⟩:=R.own b x;exists o,yf (fun z=>X (z ▸ x)) ho,hi
  .obtain ⟨U,q2,q3,q4,q5⟩:=w4 k s hk;exists U,yf (fun z=>X (z ▸ q5)) q2,q3,q4,q5
#synth yvc ["self","many"] ysy
def ymw:vk P w K mg Γ CX0 1 a.Fh a.J6 ["self","many"] (yl7 a):=by
 exists T.Dd.F.ok,yvc,m;obtain ⟨p,g,n,rfl,q,o,e,k⟩:=h;exists 2,0,yc (yy (pv 0) (yn yiy (xh (pa1 (ve rfl T.Dw))) (pv 1)) rfl);exists by walk_at "len",fun r hr0=>?_
 exists hr0,H1,S1,e1;rfl';exists r,n,_,rfl,rfl,e1,by omega,by omega,Æ (by show 1 * (n:Int).toNat <= 16000000; omega),fun l hl=>?_
 rw [ø];exists hl,H2,S2,e2;have b:=S1.trans S2;have f:=b _ _ e;rfl';have d:l≠p:=fun z=>by rw [z,S1 _ _ e] at hl; cases hl
 exact k l _ (S1.free hl) ⟨ya,yf d e2⟩ ((But.of b).trans But.upd)
#synth yvv ["self","chances"] yt7
def yyv:vk P w K mg Γ CX0 1 a.J7 a.J8 ["self","chances"] (yf4 K a):=by
 exists T.Gb.F.ok,yvv,hr;obtain ⟨p,dx,l,c,z,B,n,rfl,n1,n6,e,R,⟨hp,G⟩,N,k⟩:=h;exists _,(yc (yp (yn y0 (pcB (θ rfl) T.Dv (pa1 (ycr (js:=[]) (ys:=[]) (xs:=["weight","chance"]) (g:=yur K 2 (jj (w8 0) (jj (w8 1) ymn))) rfl (yom rfl T.Ha (pac (ym (pv 0) rfl) (pa1 (pv 1)))) (fun C s2 j fp=>(yn wu (pv 0) (pv 1))) rfl (fun C s2 j fp=>yd7 rfl (uh (wl (i:=0) (show List.Nodup ((["weight","chance"]:List Str)++([]:List Str)) by right) rfl (Or.inl rfl)) (uh (wl (i:=1) (show List.Nodup ((["weight","chance"]:List Str)++([]:List Str)) by right) rfl (Or.inl rfl)) ř))) rfl (hyc:=yx) (hrel:=yx)))) (pcB (θ rfl) T.Dv (pa1 (ym (pv 0) rfl)))))),?_;exists 2,0;have d:B.length=z.length:=by rw [e.len,R.len]
 rfl';exists l,c,rfl,⟨_,_,SqL.of G,N⟩,fun D O=>?_;refine Ġ (fun i=>V.int ((z[i]?).getD 0 * (B[i]?).getD 0)) (SqL.of G) N (by rw [cA,cA,d]) O (fun i x y j I X hx S f b m q=>?_) (fun j f b=>?_)
 .obtain ⟨v1,v2,rfl⟩:=yi5 q;obtain ⟨w,rfl,L,Z,il⟩:=jm hx;obtain ⟨u,rfl,um,W,_⟩:=jm S;have w1:=e.one w L;have w2:=e.top w L;have M:=f.trans (y8 (o:=HO.tup [V.int w,V.int u]) m);have r:=z5 (o':=HO.tup [V.int w,V.int u]) m b;have t:upd j I (HO.tup [V.int w,V.int u]) I=some (.tup [V.int w,V.int u]):=ya;generalize upd j I (HO.tup [V.int w,V.int u])=H3 at M r t;refine ydu (SqT.of t) rfl ?_;show jj (w8 0) (jj (w8 1) ymn) [V.int w,V.int u] (v1 :: v2 :: xn [] [some (V.ref p),some (V.ref c)]) H3 _;rfl';exists ⟨[some (.int w),some (.int u)],rfl,rfl⟩,?_;rfl';refine Mp.doneR O (vd (by rw [cA,e.len]; omega)) (by rw [cA]; exact il) M r ?_;rw [Z,W];rfl
 .have b:=yc9 b (yna (g:=fun w c=>w * c) d);have Y:=f _ _ hp;have v:=f _ _ G;have p1:=e.pos n1;have p2:=e.small n6;rfl';exists D,_,rfl,SqL.of b,?_;rfl';exists l,_,rfl,SqL.of v,?_;rfl';exact k _ f
#synth İ ["self","chances","bit","shares","whole","own","grown","dropped"] ["self","chances","bit"] ysa
def yws:vk P w K mg Γ (CXe P w) 5 a.J9 a.Ja ["self","chances","bit"] (ygf K a a.C0):=by
 exists T.Gc.F.okE,İ,hr;obtain ⟨p,dx,l,c,I,B,n,x,m,rfl,n1,n6,R,hc,⟨hp,hl⟩,hq,ty,k1,k2⟩:=h;refine yh (yt (xr (Ċ T) hr.m T.Cj y7 (pa1 (pv 2)))) ?_;refine yh (ylh (i:=3) (js:=[2]) (ys:=["bit"]) (xs:=["weight","chance"]) (g:=yur K 2 (jj (w8 0) (jj (w8 1) ymn))) İ.nd rfl rfl rfl (yom rfl T.Ha (pac (ym (pv 0) rfl) (pa1 (pv 1)))) (fun C s2 L fp=>(yn wu (pv 0) (xr (yzv T) hr.m T.Mt vh (pac (pv 1) (pa1 (pv 2)))))) rfl (fun C s2 L fp=>yd7 rfl (uh (wl (i:=0) (show List.Nodup ((["weight","chance"]:List Str)++(["bit"]:List Str)) by right) rfl (Or.inl rfl)) (uh (wl (i:=1) (show List.Nodup ((["weight","chance"]:List Str)++(["bit"]:List Str)) by right) rfl (Or.inl rfl)) ř))) rfl (hyc:=(all_cons rfl yx)) (hrel:=(all_cons rfl yx))) ?_;refine yh (yo (i:=4) İ.nd rfl (Or.inr rfl) (pcB (θ rfl) T.Dv (pa1 (pv 3)))) ?_;refine yh (yo (i:=5) İ.nd rfl (Or.inr rfl) (yn wu (ve rfl T.Hb) (pcB yr T.Ac (pa1 (pv 3))))) ?_;refine yh (yct (i:=6) (js:=[4,5]) (ys:=["whole","own"]) İ.nd rfl rfl rfl (wv (pv 3)) (fun C s2 L fp=>(yn vj (yn wu (pv 2) (pv 0)) (pv 1))) rfl rfl (hyc:=(all_cons rfl (all_cons rfl yx))) (hrel:=(all_cons rfl (all_cons rfl yx)))) ?_;refine yh (yo (i:=7) İ.nd rfl (Or.inr rfl) (pcB (Ž rfl) T.Np (pac (yn u7 (yjn PySem.F.plainAttrs_int PySem.F.slot_int_bit_length PySem.F.type_int_bit_length yqg (pcB (θ rfl) T.Dv (pa1 (pv 6)))) (ve rfl T.Dx)) (pa1 yg)))) ?_;exists _,(yc (yy (pv 0) (wn (js:=[7]) (ys:=["dropped"]) rfl (wv (pv 6)) (fun C s2 L fp=>(yn ynf (pv 0) (pv 1))) rfl rfl (hyc:=(all_cons rfl yx)) (hrel:=(all_cons rfl yx))) rfl)),?_;exists 3,5;have q:B.length=I.length:=by rw [R.len,hc.len]
 rfl';exists x,m,rfl,ty,fun hx=>?_,k2;obtain ⟨b,rfl,b0,b1⟩:=yds hx;have k:=k1 b rfl b0 b1;rfl';exists l,c,rfl,⟨_,_,SqL.of hl,hq⟩,fun D hD=>?_;refine Ġ (fun i=>V.int ((I[i]?).getD 0 * giv ((B[i]?).getD 0) b)) (SqL.of hl) hq (by rw [cA,cA,q]) hD (fun i x y L tt aa hx N S d U X=>?_) (fun L S d=>?_)
 .obtain ⟨v1,v2,rfl⟩:=yi5 X;obtain ⟨w,rfl,wm,wi,il⟩:=jm hx;obtain ⟨u,rfl,um,ui,_⟩:=jm N;have w1:=R.one w wm;have w2:=R.top w wm;have a3:=ydq (yv0 hc um);have a7:=ybw b0 b1;have J:=S.trans (y8 (o:=HO.tup [V.int w,V.int u]) U);have W:=z5 (o':=HO.tup [V.int w,V.int u]) U d;have a0:upd L tt (HO.tup [V.int w,V.int u]) tt=some (.tup [V.int w,V.int u]):=ya;generalize upd L tt (HO.tup [V.int w,V.int u])=H3 at J W a0;refine ydu (SqT.of a0) rfl ?_;show jj (w8 0) (jj (w8 1) ymn) [V.int w,V.int u] (v1 :: v2 :: xn [2] [some (V.ref p),some (V.ref c),some (V.int b),none,none,none,none,none]) H3 _;rfl';exists ⟨[some (.int w),some (.int u)],rfl,rfl⟩,?_;rfl';exists .int u,_,.int b,_,rfl,.int u,.int b,fun z=>(by rw [a3] at z; cases z),fun _ z=>(by rw [a7] at z; cases z),fun c' b' ec eb _ _=>?_;cases ec;cases eb;rfl';refine Mp.doneR hD (vd (by rw [cA,R.len]; omega)) (by rw [cA]; exact il) J W ?_;rw [wi,ui];rfl
 .have d:L D=some (.lst ((shL I B b).map V.int)):=yc9 d (yna (g:=fun w c=>w * giv c b) q);have j:(shL I B b).length=n:=by rw [ycb q.symm,R.len]
  have a4:=S _ _ hp;have ek:lrn I B b=(grL (shL I B b)).map fun v=>v / 2 ^ tOf (grL (shL I B b)).sum:=rfl;rw [ek] at k;generalize shL I B b=M at d j k;have eg:grL M=M.map fun s=>31 * (n:Int) * s+M.sum:=by rw [<- j]; rfl
  rfl';exists D,_,rfl,SqL.of d,?_;rfl';refine ue (SqL.of d) ?_;rw [cA,j];rfl';exists D,rfl,⟨_,SqL.of d⟩,fun G hG=>?_;refine zb (onI fun s=>31 * (n:Int) * s+M.sum) (SqL.of d) hG (fun i y H3 N J f=>?_) (fun H3 J f=>?_)
  .obtain ⟨s',rfl,_,_,il⟩:=jm N;show tOp _ _ _ (some (V.int s') :: xn [4,5] [some (V.ref p),some (V.ref c),some (V.int b),some (V.ref D),some (V.int M.sum),some (V.int (31 * (n:Int))),none,none]) H3 _;rfl';exact Mp.done hG (vd (by rw [cA,j]; omega)) N J f rfl
  .rw [yhz,<- eg] at f;have a2:(grL M).length=n:=by rw [yia,j]
   generalize grL M=O at f k a2;have a1:=J _ _ a4;rfl';exists G,_,rfl,SqL.of f,?_;rfl';exists _,_,rfl,?_
   have et:(if (0:Int) > ((Builtin.Int.intBits O.sum:Nat):Int) - 48 then (0:Int) else ((Builtin.Int.intBits O.sum:Nat):Int) - 48)=((tOf O.sum:Nat):Int):=by
    show _=(((ymf O.sum) - 48:Nat):Int);have e:Builtin.Int.intBits O.sum=ymf O.sum:=rfl;rw [e]
    split <;> omega
   rw [et];generalize tOf O.sum=t at k;rfl';exists G,rfl,⟨_,SqL.of f⟩,fun Z Y=>?_;refine zb (onI fun v=>v / 2 ^ t) (SqL.of f) Y (fun i y H4 N S4 r=>?_) (fun H4 S4 r=>?_)
   .obtain ⟨s',rfl,_,_,il⟩:=jm N;show tOp _ _ _ (some (V.int s') :: xn [7] [some (V.ref p),some (V.ref c),some (V.int b),some (V.ref D),some (V.int M.sum),some (V.int (31 * (n:Int))),some (V.ref G),some (V.int (t:Int))]) H4 _;rfl';refine i_I (Int.natCast_nonneg t) ?_;exact Mp.done Y (vd (by rw [cA,a2]; omega)) N S4 r rfl
   .rw [yhz] at r;have a9:=S4 _ _ a1;rfl';have nz:Z≠p:=fun z=>by rw [z,a1] at Y; cases Y
    have a5:=S.trans (J.trans S4);exact k Z _ ((S.trans J).free Y) ⟨ya,yf nz r⟩ ((But.of a5).trans But.upd)
#synth yol ["self","made"] ["self"] yt4
inductive yl8 (a:Ads) (vs:List V) (H:Hp) (Q:VK) (E':XK):Prop
 | mk (p dx l:Addr) (ws:List Int) (_:vs=[.ref p]) (_:yft a p dx l ws H) (_:1 <= ws.length) (_:ws.length <= 6) (_:∀ q dq l' H',H q=none->H l'=none->yft a q dq l' ws H'->yv H H'->Q (.ref q) H')
def ywn:vk P w K mg Γ CX0 3 a.Jb a.Jc ["self"] (yl8 a):=by
 exists T.Gd.F.ok,yol,R;obtain ⟨p,J,l,t,rfl,⟨O,u⟩,N,M,k⟩:=h;exists 1,1,ye (yo (i:=1) yol.nd rfl (Or.inl rfl) (ÿ T.Qt (ymw T) R.m rfl T.Qr T.Dd.B .nil vx (pa1 (pcB yr T.Ac (pa1 (ym (pv 0) rfl)))))) (ye (yy (pv 1) (pcT vt T.Ad (pa1 (ym (pv 0) rfl))) rfl) (yc (yp (pv 1))));refine ue (SqL.of u) ?_;rw [cA];rfl';intro q x n g D;exists q,x,t.length,rfl,N,M,ya,fun S U v M1 L=>⟨rfl,?_⟩;have d:=Ê n g L;have c:=M1.o;have I:=d _ _ O;rfl';refine zg (SqL.of (d _ _ u)) fun r hr0=>?_;exists hr0,H2,S2,er;have C:=S2 _ _ c;rfl';have f:r≠q:=fun z=>by rw [z,c] at hr0; cases hr0
 exact k q x r _ n (d.free hr0) ⟨ya,yf f er⟩ fun b o e=>yf (yb e n) (S2 _ _ (d _ _ e))
#synth yyr ["self"] yrp
def ψ.sqt {H H':Hp} {dx lk d:Addr} {kd:Fin 3} {f:List Int->Option Slt} {O:Addr->Prop} {m:Nat} (h:ψ a H p dx lk d kd f O m) (B:ymi O H H') {t:Addr} {xs:List V} (e:SqT K H t xs):SqT K H' t xs:=by
 have g:∀ o:HO,H t=some o->yuo o=false->H' t=some o:=fun o i j=>B _ _ i fun z=>by
  obtain ⟨k,b,c⟩:=h.own t z;rw [i] at b;cases b;rw [j] at c;cases c
 rcases e with (e | ⟨o,e⟩) | e
 .exact .inl (.inl (g _ e rfl))
 .exact .inl (.inr ⟨o,g _ e rfl⟩)
 .exact .inr e
def ψ.up {H:Hp} {dx lk d:Addr} {kd:Fin 3} {f:List Int->Option Slt} {O:Addr->Prop} {m:Nat} (h:ψ a H p dx lk d kd f O m) (hm:m <= m'):ψ a H p dx lk d kd f O m':=by
 obtain ⟨b,c,e,i,g⟩:=h.tb;exists h.me,h.own,h.np,h.dO,h.ky,b,c,e,dh i hm,g
def u9.mvT {H H':Hp} {k:Addr} {x:V} {ps:List Int} (h:u9 K H k x ps) (h1:∀ t xs,SqT K H t xs->SqT K H' t xs):u9 K H' k x ps:=by
 obtain ⟨t,c,a,d,b⟩:=h;exists t,h1 _ _ c,h1 _ _ a,d,b
def refs (g:Nat->Addr) (n:Nat):List V:=(List.range n).map fun i=>V.ref (g i)
def vy (g:Nat->Addr) (n:Nat):(refs g n).length=n:=by unfold refs; rw [cA,da]
def zi {g:Nat->Addr} {n:Nat} {x:V} (h:(refs g n)[i]?=some x):x=.ref (g i)/\i < n:=by
 have a:i < n:=by
  have:=(cO.mp h).1;rw [vy] at this;exact this
 unfold refs at h;rw [cG,dS a] at h;exists (cS h).symm,a
def zv (g:Nat->Addr) (n:Nat):refs g (n+1)=refs g n++[.ref (g n)]:=by
 unfold refs;rw [List.range_succ,cM];rfl
def uz {g h:Nat->Addr} {n:Nat} (e:∀ i,i < n->g i=h i):refs g n=refs h n:=by
 unfold refs;exact List.map_congr_left fun i a=>by rw [e i (dI.mp a)]
structure Bks (K:W.Frag) (a:Ads) (H:Hp) (n:Nat) (bk dx lk dd:Nat->Addr) (kd:Nat->Fin 3) (ps:Nat->List Int) (f:Nat->List Int->Option Slt) (O:Nat->Addr->Prop) (m:Nat):Prop where
 look:∀ i,i < n->u9 K H (lk i) (.str (kdS (kd i))) (ps i)
 b:∀ i,i < n->ψ a H (bk i) (dx i) (lk i) (dd i) (kd i) (f i) (O i) m
 dj:∀ i j c,i < n->j < n->i≠j->O i c->¬ O j c
 nb:∀ i j,i < n->j < n->¬ O i (bk j)
def AtS (H:Hp) (d:Addr) (k:List Int) (q:Addr):Prop:=∀ kvs,H d=some (.dT kvs)->ut kvs (kI k)=some (.ref q)
def ψ.slot {H:Hp} {dx lk d:Addr} {kd:Fin 3} {f:List Int->Option Slt} {O:Addr->Prop} {m:Nat} {k:List Int} {s:Slt} (h:ψ a H p dx lk d kd f O m) (hf:f k=some s) (hq:AtS H d k q):∃ dq,H q=some (oS a dq s)/\s.ok/\s.kind=kd/\O q:=by
 obtain ⟨b,l,j,t,u,r,v⟩:=h.tb;obtain ⟨n,g,o,c,i⟩:=r k s hf;have e:=hq b j;rw [n] at e;injection e with e;injection e with e;subst e;exists _,g,o,c,i
def ψ.told {H H':Hp} {dx lk d:Addr} {kd:Fin 3} {f:List Int->Option Slt} {O:Addr->Prop} {m:Nat} {k:List Int} {s:Slt} {b:Int} (h:ψ a H p dx lk d kd f O m) (hf:f k=some s) (hq:AtS H d k q) (b0:0 <= b) (b1:b <= 1)
  (h3:H' q=some (oS a dq (s.see b))) (B:But q H H'):ψ a H' p dx lk d kd (ä f k (s.see b)) O m:=by
 have y:=h.me;obtain ⟨v,l,u,h2,F,J,I⟩:=id h.tb;obtain ⟨L,G,q3,X,K⟩:=J k s hf;have e:=hq v u;rw [L] at e;injection e with e;injection e with e;have A:p≠q:=fun z=>h.np (by rw [z,<- e]; exact K)
 have r:d≠q:=fun z=>by
  obtain ⟨C,fs,D⟩:=π a (l k).2 s;rw [e,<- z,u,D] at G;cases G
 exists B _ _ y A,fun c N=>?_,h.np,h.dO,h.ky.mv u (B _ _ u r),v,fun j=>if j=k then (q,dq) else l j,B _ _ u r,h2,fun j i=>?_,fun j n i=>?_,fun E x s1 W T R el=>?_
 .obtain ⟨o,U,hi⟩:=h.own c N;by_cases z:c=q
  .rw [z];obtain ⟨C,fs,D⟩:=π a dq (s.see b);exists _,h3,by rw [D]; rfl
  .exists o,B _ _ U z,hi
 .refine F j ?_;unfold ä at i
  split at i
  .cases i
  .exact i
 .unfold ä at i;by_cases z:j=k
  .rw [if_pos z] at i;cases i;subst z;dsimp only;rw [if_pos rfl];exists by rw [L,e],h3,Slt.see_ok q3 b0 b1,(yka s b).trans X,e ▸ K
  .rw [if_neg z] at i;obtain ⟨p1,Z,p3,Y,P⟩:=J j n i;dsimp only;rw [if_neg z];exists p1,B _ _ Z (fun w=>z (I j k n s i hf (w.trans e.symm))),p3,Y,P
 .have g:∀ j n,ä f k (s.see b) j=some n->∃ t,f j=some t:=fun j n h=>by
   unfold ä at h;by_cases z:j=k
   .exists s,by rw [z]; exact hf
   .rw [if_neg z] at h;exists n,h
  obtain ⟨M,S⟩:=g E s1 T;obtain ⟨Q,f2⟩:=g x W R;refine I E x M Q S f2 ?_
  have yo1:∀ j,(if j=k then ((q,dq):Addr × Addr) else l j).1=(l j).1:=fun j=>by
   by_cases z:j=k
   .rw [if_pos z,z];exact e.symm
   .rw [if_neg z]
  rw [<- yo1 E,<- yo1 x];exact el
def AtS.told {H H':Hp} {dx lk d:Addr} {kd:Fin 3} {f:List Int->Option Slt} {O:Addr->Prop} {m:Nat} {k:List Int} (h:ψ a H p dx lk d kd f O m) {r:Addr} (hd:d≠r) (B:But r H H') (hq:AtS H d k q):AtS H' d k q:=fun g e=>by
 obtain ⟨c,i,b,_⟩:=h.tb;rw [B _ _ b hd] at e;cases e;exact hq _ b
section
variable {H H':Hp} {n m:Nat} {bk dx lk dd:Nat->Addr} {kd:Nat->Fin 3} {ps:Nat->List Int} {f:Nat->List Int->Option Slt}
theorem Bks.frame (h:Bks K a H n bk dx lk dd kd ps f O m) {O2:Addr->Prop} (B:ymi O2 H H') (dj:∀ i b,i < n->O i b->¬ O2 b) (hp:∀ i,i < n->¬ O2 (bk i)) (ht:∀ t xs,SqT K H t xs->SqT K H' t xs):Bks K a H' n bk dx lk dd kd ps f O m :=
 ⟨fun i c=>(h.look i c).mvT ht,fun i c=>(h.b i c).frame B (fun b d=>dj i b c d) (hp i c),h.dj,h.nb⟩
def Bks.same (h:Bks K a H n bk dx lk dd kd ps f O m) (S:yv H H'):Bks K a H' n bk dx lk dd kd ps f O m :=
 h.frame (O2:=fun _=>False) (fun b o e _=>S b o e) (fun _ _ _ _ z=>z) (fun _ _ z=>z) fun _ _ e=>S.tup e
def Bks.move (h:Bks K a H n bk dx lk dd kd ps f O m) (hj:j < n) {f':List Int->Option Slt} {O':Addr->Prop} (hm:m <= m') (hb:ψ a H' (bk j) (dx j) (lk j) (dd j) (kd j) f' O' m') (hO:∀ c,O' c->O j c\/H c=none) (B:ymi (O j) H H') :
  Bks K a H' n bk dx lk dd kd ps (fun i=>if i=j then f' else f i) (fun i=>if i=j then O' else O i) m':=by
 have y:=h.b j hj
 have g:∀ q c,q < n->q≠j->O q c->¬ O' c:=fun q c C x w E=>by
  rcases hO c E with v | v
  .exact h.dj q j c C hj x w v
  .obtain ⟨o,D,_⟩:=(h.b q C).own c w;rw [v] at D;cases D
 exists fun i d=>(h.look i d).mvT fun t F e=>y.sqt B e,fun i d=>?_,fun i l c d r s p k=>?_,fun i l d r e=>?_
 .try dsimp only
  by_cases z:i=j
  .subst z;rw [if_pos rfl,if_pos rfl];exact hb
  .rw [if_neg z,if_neg z];exact ((h.b i d).frame B (fun b A=>h.dj i j b d hj z A) (h.nb j i hj d)).up hm
 .try dsimp only at p k
  by_cases z1:i=j
  .rw [if_pos z1] at p;have u:l≠j:=fun w=>s (z1.trans w.symm);rw [if_neg u] at k;exact g l c r u k p
  .rw [if_neg z1] at p;by_cases u:l=j
   .rw [if_pos u] at k;exact g i c d z1 p k
   .rw [if_neg u] at k;exact h.dj i l c d r s p k
 .try dsimp only at e
  by_cases z:i=j
  .rw [if_pos z] at e;rcases hO _ e with v | v
   .exact h.nb j l hj r v
   .rw [(h.b l r).me] at v;cases v
  .rw [if_neg z] at e;exact h.nb i l d r e
def AtS.move (h:Bks K a H n bk dx lk dd kd ps f O m) (hi:i < n) (hj:j < n) (hij:i≠j) (B:ymi (O j) H H') {k:List Int} (hq:AtS H (dd i) k q):AtS H' (dd i) k q:=fun g e=>by
 obtain ⟨d,l,c,_⟩:=(h.b i hi).tb;rw [B _ _ c (h.dj i j _ hi hj hij (h.b i hi).dO)] at e;cases e;exact hq _ c
def Bks.nlst (h:Bks K a H n bk dx lk dd kd ps f O m) {l:Addr} {xs:List V} (hl:H l=some (.lst xs)):∀ i,i < n->¬ O i l:=fun i e z=>by
 obtain ⟨o,d,c⟩:=(h.b i e).own l z;rw [hl] at d;cases d;cases c
end
def yj1 (n:Nat) (kd:Nat->Fin 3) (f:Nat->List Int->Option Slt) (g:Nat->List Int->Slt):Prop:=∀ i,i < n->∀ k,(f i k).getD (kd0 (kd i))=g i k
def yj1.put {n:Nat} {kd:Nat->Fin 3} {f:Nat->List Int->Option Slt} {g:Nat->List Int->Slt} (h:yj1 n kd f g) (j:Nat) (hj:j < n) (k:List Int):yj1 n kd (fun i=>if i=j then ä (f j) k ((f j k).getD (kd0 (kd j))) else f i) g:=fun i b a=>by
 dsimp only;by_cases z:i=j
 .subst z;rw [if_pos rfl];unfold ä;by_cases w:a=k
  .rw [if_pos w,w];exact h i b k
  .rw [if_neg w];exact h i b a
 .rw [if_neg z];exact h i b a
inductive yee (K:W.Frag) (a:Ads) (vs:List V) (H:Hp) (Q:VK) (E':XK):Prop
 | mk (p dp ll bl mp el pl0:Addr) (nd:Int) (sg:List Int) (n m:Nat) (bk dx lk dd:Nat->Addr) (kd:Nat->Fin 3) (ps:Nat->List Int) (f:Nat->List Int->Option Slt) (O:Nat->Addr->Prop) (g:Nat->List Int->Slt) (_:vs=[.ref p]) (_:H p=some (.ins a.A2 dp (uy (.ref ll) (.ref bl) (.ref mp) (.ref el) (.int nd) (.ref pl0)))) (_:H bl=some (.lst (refs bk n))) (_:H el=some (.lst (sg.map V.int))) (_:Bks K a H n bk dx lk dd kd ps f O m) (_:yj1 n kd f g) (_:n <= 6) (_:m+10 < 1000000) (_:(∀ i,i < n->¬ O i p)) (_:∀ (pl:Addr) (sl:Nat->Addr) (f':Nat->List Int->Option Slt) (O':Nat->Addr->Prop) (H':Hp),H' p=some (.ins a.A2 dp (uy (.ref ll) (.ref bl) (.ref mp) (.ref el) (.int nd) (.ref pl)))->H' pl=some (.lst (refs sl n))->H pl=none ->
  Bks K a H' n bk dx lk dd kd ps f' O' (m+n)->yj1 n kd f' g->(∀ j,j < n->(∃ s,f' j (ctx (ps j) sg nd)=some s)/\AtS H' (dd j) (ctx (ps j) sg nd) (sl j))->(∀ j c,j < n->O' j c->O j c\/H c=none) ->
  (∀ c o,H c=some o->c≠p->(∀ j,j < n->¬ O j c)->H' c=some o)->(∀ c o,H c=some o->∃ o',H' c=some o')->Q .non H')
def yi2:vk P w K mg Γ CX0 5 a.Je a.Jf ["self"] (yee K a):=by
 exists T.Cm.F.ok,yyr,hr;obtain ⟨p,dp,ll,bl,mp,el,a8,N,X,n,m,Y,dx,lk,Z,kd,R,f,O,g,rfl,hp,U,a6,hB,hA,n6,hm,np,k⟩:=h;exists 1,0,yc (yy (pv 0) (wn (js:=[0]) (ys:=["self"]) rfl (wv (ym (pv 0) rfl)) (fun C s2 H2 fp=>(xf (pv 0) T.C8 T.G9.m (yvp T) hr.m T.G9.B .nil vx (pac (yb4 (K:=K) rfl (pv 1) rfl) (pa1 (yb4 (K:=K) rfl (pv 1) rfl))))) rfl rfl (hyc:=(all_cons rfl yx)) (hrel:=(all_cons rfl yx))) rfl);exists bl,rfl,⟨_,SqL.of U⟩,fun D M=>?_;have a9:=hB.nlst U;have aa:=hB.nlst a6;refine ğ (K:=K) (xs:=refs Y n) (fun i G=>∃ (y:Nat->Addr) (L:Nat->List Int->Option Slt) (J:Nat->Addr->Prop),G D=some (.lst (refs y i))/\Bks K a G n Y dx lk Z kd R L J (m+i)/\yj1 n kd L g/\(∀ j,j < i->(∃ s,L j (ctx (R j) X N)=some s)/\AtS G (Z j) (ctx (R j) X N) (y j)) /\
  (∀ j c,j < n->J j c->O j c\/H c=none)/\(∀ c o,H c=some o->(∀ j,j < n->¬ O j c)->G c=some o)/\(∀ c o,H c=some o->∃ o',G c=some o'))
  ⟨fun _=>0,f,O,ya,hB.same (y8 M),hA,fun j d=>absurd d (cY j),fun j c _ z=>.inl z,fun c o e _=>z5 M e,fun c o e=>⟨o,z5 M e⟩⟩ (fun i G _ z=>?_) (fun i x G hx hi z=>?_) (fun G z=>?_)
 .obtain ⟨_,_,_,_,_,_,_,_,w,_⟩:=z;exact SqL.of (w _ _ U a9)
 .obtain ⟨y,L,J,gD,r,gA,gS,gO,gF,gL⟩:=z;obtain ⟨rfl,l⟩:=zi hx;have I:=gF _ _ hp np;have a4:=gF _ _ a6 aa;have ai:=(r.b i l).me;show Ğ _ _ _ _ _ _ _ (some (V.ref (Y i)) :: xn [0] [some (V.ref p)]) G _;rfl';exists Y i,dx i,lk i,Z i,el,kd i,L i,J i,m+i,R i,X,N,rfl,r.b i l,by omega,r.look i l,SqL.of a4,fun q O2 G2 a7 hv a0 af B2=>?_
  have nD:=r.nlst gD;have u:G2 D=some (.lst (refs y i)):=B2 _ _ gD (nD i l);refine xm (n:=(refs Y n).length) u (vd (by rw [vy]; omega)) hi ?_;have M2:=r.move l (Nat.le_succ (m+i)) a7 a0 B2;have a3:=M2.nlst u;have W:∀ c o,G2 c=some o->c≠D->upd G2 D (.lst (refs y i++[V.ref q])) c=some o:=fun c o e S=>yf S e
  have M3:=M2.frame (O2:=fun c=>c=D) (fun c o e S=>W c o e S) (fun j c d w z=>a3 j d (z ▸ w)) (fun j d z=>by
   have:=(M2.b j d).me;rw [z,u] at this
   cases this) (fun t xs e=>by
   rcases e with (e | ⟨o,e⟩) | e
   .exact .inl (.inl (W _ _ e (fun z=>by rw [z,u] at e; cases e)))
   .exact .inl (.inr ⟨o,W _ _ e (fun z=>by rw [z,u] at e; cases e)⟩)
   .exact .inr e)
  have up:∀ j,j < n->AtS G2 (Z j) (ctx (R j) X N) (if j=i then q else y j)->AtS (upd G2 D (.lst (refs y i++[V.ref q]))) (Z j) (ctx (R j) X N) (if j=i then q else y j):=fun j d h =>
   h.told (M2.b j d) (fun z=>a3 j d (by rw [<- z]; exact (M2.b j d).dO)) (fun c o e S=>W c o e S)
  exists fun j=>if j=i then q else y j,_,_,?_,M3,gA.put i l _,fun j d=>?_,fun j c d w=>?_,fun c o e no=>?_,fun c o e=>?_
  .rw [ya,zv,if_pos rfl]
   congr 3
   exact uz fun j d=>(if_neg (by omega)).symm
  .by_cases z:j=i
   .subst z;exists ⟨(L j (ctx (R j) X N)).getD (kd0 (kd j)),?_⟩,up j l ?_
    .try dsimp only
     rw [if_pos rfl];unfold ä;rw [if_pos rfl]
    .rw [if_pos rfl];exact hv
   .have a2:j < n:=by omega
    obtain ⟨⟨s',ab⟩,ad⟩:=gS j (by omega);exists ⟨s',?_⟩,up j a2 ?_
    .try dsimp only
     rw [if_neg z];exact ab
    .rw [if_neg z];exact ad.move r a2 l z B2
  .try dsimp only at w
   by_cases z:j=i
   .subst z;rw [if_pos rfl] at w;rcases a0 c w with v | v
    .exact gO j c d v
    .refine .inr ?_
     cases e:H c with
     | none=>rfl
     | some o =>
      obtain ⟨o',w'⟩:=gL c o e;rw [w'] at v;cases v
   .rw [if_neg z] at w;exact gO j c d w
  .have hG:=gF c o e no
   have nc:¬ J i c:=fun w=>by
    rcases gO i c l w with v | v
    .exact no i l v
    .rw [e] at v;cases v
   refine W _ _ (B2 _ _ hG nc) (fun z=>?_);rw [z,M] at e;cases e
  .obtain ⟨o1,w1⟩:=gL c o e;have a1:c≠D:=fun z=>by rw [z,M] at e; cases e
   by_cases w2:J i c
   .obtain ⟨o2,ag,_⟩:=a7.own c (af c w2);exists o2,W _ _ ag a1
   .exists o1,W _ _ (B2 _ _ w1 w2) a1
 .obtain ⟨y,L,J,gD,r,gA,gS,gO,gF,gL⟩:=z;rw [vy] at gD r gS;have I:=gF _ _ hp np;rfl';have ac:D≠p:=fun z=>by rw [z,hp] at M; cases M
  have BP:But p G (upd G p (.ins a.A2 dp (uy (.ref ll) (.ref bl) (.ref mp) (.ref el) (.int N) (.ref D)))):=But.upd
  have a5:∀ i,i < n->¬ J i p:=fun i hi w=>by
   rcases gO i p hi w with v | v
   .exact np i hi v
   .rw [hp] at v; cases v
  have M3:=r.frame (O2:=fun c=>c=p) (fun c o e S=>BP c o e S) (fun j c d w z=>a5 j d (z ▸ w)) (fun j d z=>by
   have:=(r.b j d).me;rw [z,I] at this;injection this with this;injection this with _ _ e
   exact absurd (congrArg List.length e) (show ¬ (6=2) by decide)) (fun t xs e=>by
   rcases e with (e | ⟨o,e⟩) | e
   .exact .inl (.inl (BP _ _ e (fun z=>by rw [z,I] at e; cases e)))
   .exact .inl (.inr ⟨o,BP _ _ e (fun z=>by rw [z,I] at e; cases e)⟩)
   .exact .inr e)
  refine k D y L J _ ya (yf ac gD) M M3 gA (fun j d=>⟨(gS j d).1,(gS j d).2.told (r.b j d) (fun z=>a5 j d (by rw [<- z]; exact (r.b j d).dO)) BP⟩) gO (fun c o e nc no=>BP _ _ (gF c o e no) nc) fun c o e=>?_;by_cases zc:c=p
  .rw [zc];exists _,ya
  .obtain ⟨o1,w1⟩:=gL c o e;exists o1,BP _ _ w1 zc
structure FA where
 dp:Addr
 ll:Addr
 bl:Addr
 mp:Addr
 mx:Addr
 ml:Addr
 el:Addr
 pl:Addr
 n:Nat
 bk:Nat->Addr
 dx:Nat->Addr
 lk:Nat->Addr
 dd:Nat->Addr
 sl:Nat->Addr
 kd:Nat->Fin 3
 ps:Nat->List Int
structure FX where
 g:Nat->List Int->Slt
 ws:List Int
 sg:List Int
 nd:Int
def FX.key (X:FX) (A:FA) (i:Nat):List Int:=ctx (A.ps i) X.sg X.nd
def FX.cs (X:FX) (A:FA):List Int:=(List.range A.n).map fun i=>(X.g i (X.key A i)).due
def ndN (nd b:Int):Int:=if 0 < nd then (if 256 <= 2 * nd+b then 0 else 2 * nd+b) else if b=1 then 1 else nd
def sgN (sg:List Int) (nd b:Int):List Int:=if 0 < nd then (if 256 <= 2 * nd+b then sg++[2 * nd+b - 256] else sg) else if b=1 then sg else []
def FX.see (X:FX) (A:FA) (b:Int):FX:={ g:=fun i k=>if k=X.key A i then (X.g i k).see b else X.g i k,ws:=lrn X.ws (X.cs A) b,sg:=sgN X.sg X.nd b,nd:=ndN X.nd b }
structure uv (K:W.Frag) (a:Ads) (H:Hp) (p:Addr) (A:FA) (X:FX) (f:Nat->List Int->Option Slt) (O:Nat->Addr->Prop) (m:Nat):Prop where
 me:H p=some (.ins a.A2 A.dp (uy (.ref A.ll) (.ref A.bl) (.ref A.mp) (.ref A.el) (.int X.nd) (.ref A.pl)))
 bl:H A.bl=some (.lst (refs A.bk A.n))
 el:H A.el=some (.lst (X.sg.map V.int))
 mx:yft a A.mp A.mx A.ml X.ws H
 wok:WOk A.n X.ws
 pl:H A.pl=some (.lst (refs A.sl A.n))
 B:Bks K a H A.n A.bk A.dx A.lk A.dd A.kd A.ps f O m
 ag:yj1 A.n A.kd f X.g
 at':∀ j,j < A.n->(∃ s,f j (X.key A j)=some s)/\AtS H (A.dd j) (X.key A j) (A.sl j)
 np:∀ i,i < A.n->¬ O i p
 nm:∀ i,i < A.n->¬ O i A.mp
 n1:1 <= A.n
 n6:A.n <= 6
theorem uv.same {H H':Hp} {A:FA} {X:FX} {f:Nat->List Int->Option Slt} {m:Nat} (h:uv K a H p A X f O m) (S:yv H H'):uv K a H' p A X f O m :=
 ⟨S _ _ h.me,S _ _ h.bl,S _ _ h.el,h.mx.same S,h.wok,S _ _ h.pl,h.B.same S,h.ag,fun j c=>⟨(h.at' j c).1,fun i e=>by
  obtain ⟨g,k,d,_⟩:=(h.B.b j c).tb;rw [S _ _ d] at e;cases e;exact (h.at' j c).2 _ d⟩,h.np,h.nm,h.n1,h.n6⟩
theorem uv.slot {H:Hp} {A:FA} {X:FX} {f:Nat->List Int->Option Slt} {m:Nat} (h:uv K a H p A X f O m) (hj:j < A.n) :
  f j (X.key A j)=some (X.g j (X.key A j))/\(∃ dq,H (A.sl j)=some (oS a dq (X.g j (X.key A j))))/\(X.g j (X.key A j)).ok/\O j (A.sl j):=by
 obtain ⟨⟨s,d⟩,c⟩:=h.at' j hj;have e:=h.ag j hj (X.key A j);rw [d] at e;have e:s=X.g j (X.key A j):=e;rw [<- e];obtain ⟨dq,k,i,o,l⟩:=(h.B.b j hj).slot d c;exists d,⟨dq,k⟩,i,l
def uv.cok {H:Hp} {A:FA} {X:FX} {f:Nat->List Int->Option Slt} {m:Nat} (h:uv K a H p A X f O m):COk A.n (X.cs A):=by
 exists by unfold FX.cs; rw [cA,da],fun c d=>?_,fun c d=>?_
 .obtain ⟨j,b,rfl⟩:=cI.mp d;exact (yd4 (h.slot (dI.mp b)).2.2.1).1
 .obtain ⟨j,b,rfl⟩:=cI.mp d;exact (yd4 (h.slot (dI.mp b)).2.2.1).2
def LkG.at' {H:Hp} {lk tp:Addr} {kd:Fin 3} {ps:List Int} (h:LkG H (.ref lk) kd tp ps):u9 K H lk (.str (kdS kd)) ps:=by
 obtain ⟨d,e,c,f,a⟩:=h;cases e;have a:=a;unfold zy at a;rw [db,db,List.all_eq_true] at a;exists tp,SqT.of c,SqT.of f,fun p b=>?_,by have:=of_decide_eq_true a.1.1; rw [cA] at this; exact this
 have w:=a.1.2 (.int p) (cI.mpr ⟨p,b,rfl⟩);have w:(decide (1 <= p) && decide (p <= 8))=true:=w;rw [db] at w;exists of_decide_eq_true w.1,of_decide_eq_true w.2
def Bks.snoc {H:Hp} {n m:Nat} {bk dx lk dd:Nat->Addr} {kd:Nat->Fin 3} {ps:Nat->List Int} {f:Nat->List Int->Option Slt} (h:Bks K a H n bk dx lk dd kd ps f O m)
  (hl:u9 K H (lk n) (.str (kdS (kd n))) (ps n)) {q dq d:Addr} {f':List Int->Option Slt} {O':Addr->Prop} (hb:ψ a H q dq (lk n) d (kd n) f' O' m) (dj:∀ j c,j < n->O j c->¬ O' c) (n1:∀ j,j < n->¬ O j q) (n2:∀ j,j < n->¬ O' (bk j)) :
  Bks K a H (n+1) (upN bk n q) (upN dx n dq) lk (upN dd n d) kd ps (upN f n f') (upN O n O') m:=by
 exists fun i p=>?_,fun i p=>?_,fun i j c p s r o l=>?_,fun i j p s e=>?_
 .by_cases z:i=n
  .rw [z];exact hl
  .exact h.look i (by omega)
 .by_cases z:i=n
  .subst z;rw [w9,w9,w9,w9,w9];exact hb
  .have g:i < n:=by omega
   rw [wx g,wx g,wx g,wx g,wx g];exact h.b i g
 .by_cases z:i=n
  .subst z;have k:j < i:=by omega
   rw [w9] at o;rw [wx k] at l;exact dj j c k l o
  .have g:i < n:=by omega
   rw [wx g] at o;by_cases w:j=n
   .subst w;rw [w9] at l;exact dj i c g o l
   .have k:j < n:=by omega
    rw [wx k] at l;exact h.dj i j c g k r o l
 .by_cases z:i=n
  .subst z;rw [w9] at e;by_cases w:j=i
   .subst w;rw [w9] at e;exact hb.np e
   .have k:j < i:=by omega
    rw [wx k] at e;exact n2 j k e
  .have g:i < n:=by omega
   rw [wx g] at e;by_cases w:j=n
   .subst w;rw [w9] at e;exact n1 i g e
   .have k:j < n:=by omega
    rw [wx k] at e;exact h.nb i j g k e
def ymj (K:W.Frag) (a:Ads) (H G:Hp) (n:Nat) (bk dx lk dd:Nat->Addr) (kd:Nat->Fin 3) (ps:Nat->List Int) (f:Nat->List Int->Option Slt) (O:Nat->Addr->Prop):Prop :=
 Bks K a G n bk dx lk dd kd ps f O 0/\(∀ j k,j < n->f j k=none)/\(∀ j c,j < n->O j c->H c=none)/\(∀ j,j < n->H (bk j)=none)
def ymj.zero {H G:Hp} {bk dx lk dd:Nat->Addr} {kd:Nat->Fin 3} {ps:Nat->List Int} {f:Nat->List Int->Option Slt} :ymj K a H G 0 bk dx lk dd kd ps f O :=
 ⟨⟨fun i b=>absurd b (cY i),fun i b=>absurd b (cY i),fun i _ _ b=>absurd b (cY i),fun i _ b=>absurd b (cY i)⟩,fun i _ b=>absurd b (cY i),fun i _ b=>absurd b (cY i),fun i b=>absurd b (cY i)⟩
def ymj.next {H G G2:Hp} {n:Nat} {bk dx lk dd:Nat->Addr} {kd:Nat->Fin 3} {ps:Nat->List Int} {f:Nat->List Int->Option Slt} (h:ymj K a H G n bk dx lk dd kd ps f O) (hl:u9 K G (lk n) (.str (kdS (kd n))) (ps n))
  (S:yv H G) {q dq d D:Addr} {xs ys:List V} (hq:G q=none) (hd:G d=none) (S2:yv G G2) (hb:ψ a G2 q dq (lk n) d (kd n) (fun _=>none) (fun b=>b=d) 0) (hD:G D=some (.lst xs)) :
  ymj K a H (upd G2 D (.lst ys)) (n+1) (upN bk n q) (upN dx n dq) lk (upN dd n d) kd ps (upN f n fun _=>none) (upN O n fun b=>b=d):=by
 obtain ⟨s,u,y,x⟩:=h;have l:∀ j c,j < n->O j c->∃ o,G c=some o:=fun j c g w=>let ⟨o,m,_⟩:=(s.b j g).own c w; ⟨o,m⟩
 have M:=(s.same S2).snoc (hl.same S2) hb (fun j c g w z=>by
  obtain ⟨o,m⟩:=l j c g w;rw [show c=d from z,hd] at m
  cases m) (fun j g w=>by
  obtain ⟨o,m⟩:=l j q g w;rw [hq] at m
  cases m) (fun j g z=>by
  have e:=(s.b j g).me;rw [show bk j=d from z,hd] at e;cases e)
 have i:=S2 _ _ hD;have v:=M.nlst i;have r:∀ c o,G2 c=some o->c≠D->upd G2 D (.lst ys) c=some o:=fun c o e p=>yf p e;exists M.frame (O2:=fun c=>c=D) (fun c o e p=>r c o e p) (fun j c g w z=>v j g (z ▸ w)) (fun j g z=>?_) (fun t xs e=>?_),fun j k g=>?_,fun j c g w=>?_,fun j g=>?_
 .have e:=(M.b j g).me;rw [z,i] at e;cases e
 .rcases e with (e | ⟨o,e⟩) | e
  .exact .inl (.inl (r _ _ e (fun z=>by rw [z,i] at e; cases e)))
  .exact .inl (.inr ⟨o,r _ _ e (fun z=>by rw [z,i] at e; cases e)⟩)
  .exact .inr e
 .by_cases z:j=n
  .rw [z,w9]
  .rw [wx (by omega)];exact u j k (by omega)
 .by_cases z:j=n
  .rw [z,w9] at w;rw [show c=d from w];exact S.free hd
  .rw [wx (by omega)] at w;exact y j c (by omega) w
 .by_cases z:j=n
  .rw [z,w9];exact S.free hq
  .rw [wx (by omega)];exact x j (by omega)
def ymj.ag {H G:Hp} {n:Nat} {bk dx lk dd:Nat->Addr} {kd:Nat->Fin 3} {ps:Nat->List Int} {f:Nat->List Int->Option Slt} (h:ymj K a H G n bk dx lk dd kd ps f O):yj1 n kd f (fun i _=>kd0 (kd i)):=fun i b k=>by
 rw [h.2.1 i k b];rfl
def FX0 (n:Nat) (kd:Nat->Fin 3):FX:={ g:=fun i _=>kd0 (kd i),ws:=List.replicate n 1099511627776,sg:=[],nd:=0 }
def yj9 {g:Nat->Addr} {n:Nat} {x:V} (h:x∈refs g n):∃ i,i < n/\x=.ref (g i):=by
 unfold refs at h;obtain ⟨i,a,e⟩:=cI.mp h;exists i,dI.mp a,e.symm
def xu.lks {H:Hp} {n:Nat} {lk:Nat->Addr} {kd:Nat->Fin 3} {ps:Nat->List Int} (h:xu H n lk kd tp ps):Lks H (refs lk n):=fun y a=>by
 obtain ⟨i,b,rfl⟩:=yj9 a;exists _,_,_,h i b
theorem uv.frame {H H':Hp} {A:FA} {X:FX} {f:Nat->List Int->Option Slt} {m:Nat} (h:uv K a H p A X f O m) {O2:Addr->Prop} (B:ymi O2 H H') (hp:¬ O2 p) (hm:¬ O2 A.mp) (hb:∀ i,i < A.n->¬ O2 (A.bk i))
  (dj:∀ i c,i < A.n->O i c->¬ O2 c) (hl:∀ l xs,(l=A.bl\/l=A.el\/l=A.ml\/l=A.pl)->H l=some (.lst xs)->H' l=some (.lst xs)) (ht:∀ t xs,SqT K H t xs->SqT K H' t xs):uv K a H' p A X f O m :=
 ⟨B _ _ h.me hp,hl _ _ (.inl rfl) h.bl,hl _ _ (.inr (.inl rfl)) h.el,⟨B _ _ h.mx.o hm,hl _ _ (.inr (.inr (.inl rfl))) h.mx.l⟩,h.wok,hl _ _ (.inr (.inr (.inr rfl))) h.pl,h.B.frame B (fun i c r w=>dj i c r w) hb ht,h.ag,fun j d=>⟨(h.at' j d).1,fun q e=>by
  obtain ⟨k,s,g,_⟩:=(h.B.b j d).tb;rw [B _ _ g (dj j _ d (h.B.b j d).dO)] at e;cases e;exact (h.at' j d).2 _ g⟩,h.np,h.nm,h.n1,h.n6⟩
def yrh {G:Hp} {t c:Addr} {xs ys zs:List V} (hc:G c=some (.lst ys)) (e:SqT K G t xs):SqT K (upd G c (.lst zs)) t xs:=by
 rcases e with (e | ⟨o,e⟩) | e
 .exact .inl (.inl (yf (ww e hc (by intro z; cases z)) e))
 .exact .inl (.inr ⟨o,yf (ww e hc (by intro z; cases z)) e⟩)
 .exact .inr e
def uv.app {H:Hp} {R:Addr} {A:FA} {X:FX} {f:Nat->List Int->Option Slt} {m:Nat} {xs ys:List V} (h:uv K a H p A X f O m) (hR:H R=some (.lst xs)) (hq:∀ q,(q=A.bl\/q=A.el\/q=A.ml\/q=A.pl)->q≠R):uv K a (upd H R (.lst ys)) p A X f O m:=by
 refine h.frame (O2:=fun c=>c=R) (fun c o e g=>yf g e) (fun z=>?_) (fun z=>?_) (fun i d z=>?_) (fun i c d w z=>h.B.nlst hR i d (z ▸ w)) (fun l xs w e=>yf (hq l w) e) (fun t xs e=>yrh hR e)
 .have e:=h.me;rw [z,hR] at e;cases e
 .have e:=h.mx.o;rw [z,hR] at e;cases e
 .have e:=(h.B.b i d).me;rw [z,hR] at e;cases e
def yzy (n:Nat) (n1:1 <= n) (n6:n <= 6):WOk n (List.replicate n 1099511627776):=by
 refine ⟨dW,fun w h=>?_,fun w h=>?_⟩ <;> (rw [d9 h]; decide)
#synth yve ["self","looks"] yrr
structure vep (K:W.Frag) (a:Ads) (H H':Hp) (p:Addr) (n:Nat) (lk:Nat->Addr) (kd:Nat->Fin 3) (ps:Nat->List Int) (A:FA) (f:Nat->List Int->Option Slt) (O:Nat->Addr->Prop):Prop where
 ft:uv K a H' p A (FX0 n kd) f O 6
 en:A.n=n
 elk:A.lk=lk
 ekd:A.kd=kd
 eps:A.ps=ps
 oO:∀ j c,j < n->O j c->H c=none
 oB:∀ j,j < n->H (A.bk j)=none
 oM:H A.mp=none
 oL:∀ l,(l=A.bl\/l=A.el\/l=A.ml\/l=A.pl)->H l=none
 lo:H' A.ll=some (.lst (refs lk n))/\A.ll≠A.el/\H A.ll=none
inductive ycq (K:W.Frag) (a:Ads) (vs:List V) (H:Hp) (Q:VK) (E:XK):Prop
 | mk (p dp:Addr) (x:V) (_:vs=[.ref p,x]) (_:H p=some (.ins a.A2 dp [])) (_:((vek K H x/\∀ H',yv H H'->E (.ref a.Eo) none H')\/∃ (l:Addr) (n:Nat) (lk:Nat->Addr) (kd:Nat->Fin 3) (tp:Nat->Addr) (ps:Nat->List Int),x=.ref l/\H l=some (.lst (refs lk n))/\1 <= n/\n <= 6/\xu H n lk kd tp ps /\
  ∀ A f O H',vep K a H H' p n lk kd ps A f O->But p H H'->Q .non H'))
def yjd:vk P w K mg Γ (CXe P w) 6 a.Fi a.Jd ["self","looks"] (ycq K a):=by
 exists T.D1.F.okE,yve,hr;obtain ⟨p,f,x,rfl,hp,h⟩:=h;refine yh (yy (pv 0) (xr (ynk T) hr.m T.G8 y7 (pa1 (pv 1))) rfl) ?_;refine yh (yy (pv 0) (wn (js:=[]) (ys:=[]) rfl (wv (ym (pv 0) rfl)) (fun C s2 H2 fp=>(ÿ T.Od (yn0 T) hr.m rfl T.Oc T.Dc.B .nil vx (pa1 (pv 0)))) rfl rfl (hyc:=yx) (hrel:=yx)) rfl) ?_;refine yh (yy (pv 0) (ÿ T.Qt (ymw T) hr.m rfl T.Qr T.Dd.B .nil vx (pa1 (pcB yr T.Ac (pa1 (ym (pv 0) rfl))))) rfl) ?_;refine yh (yy (pv 0) (xh ua) rfl) ?_;refine yh (yy (pv 0) yg rfl) ?_;refine yh (yy (pv 0) (xh ua) rfl) ?_;exists 2,0,yc (yt (vo (pv 0) T.Ae T.Cm.m (yi2 T) hr.m T.Cm.B .nil vx));rcases h with ⟨hb,k⟩ | ⟨l,n,lk,kd,tp,ps,rfl,hl,n1,n6,ap,k⟩
 .rcases hb with ⟨nm,ty,hn⟩ | ⟨l,xs,bs,rfl,hl,hz,aM,no⟩
  .exact .inl ⟨x,nm,rfl,ty,hn,k _ (yv.refl _)⟩
  .exact .inr ⟨l,xs,bs,rfl,hl,hz,aM,fun z=>absurd z no,fun _ H' S=>k _ S⟩
 .refine .inr ⟨l,refs lk n,List.replicate (refs lk n).length true,rfl,hl,by rw [vy]; omega,ap.lks.bs,fun _ g H1 aj az S1=>?_,fun no=>absurd ⟨by rw [vy]; exact n1,by rw [vy]; exact n6,yh4 _⟩ no⟩;have b0:=S1 _ _ hp;have aW:=ap.same S1;rfl';have X:upd H1 p (HO.ins a.A2 f ([("looks",V.ref g)]:List (Str × V))) p=some (HO.ins a.A2 f ([("looks",V.ref g)]:List (Str × V))):=ya;have BA:But p H1 (upd H1 p (HO.ins a.A2 f ([("looks",V.ref g)]:List (Str × V)))):=But.upd;have a2:g≠p:=(yb hp aj).symm;have I:upd H1 p (HO.ins a.A2 f ([("looks",V.ref g)]:List (Str × V))) g=some (.lst (refs lk n)):=yf a2 az;generalize upd H1 p (HO.ins a.A2 f ([("looks",V.ref g)]:List (Str × V)))=HA at X BA I ⊢;have a4:But p H HA:=(But.of S1).trans BA
  have aI:xu HA n lk kd tp ps:=fun i hi=>by
   obtain ⟨q,e,h1,h2,h3⟩:=ap i hi;exists q,e,a4 _ _ h1 (ww h1 hp (by intro z; cases z)),a4 _ _ h2 (ww h2 hp (by intro z; cases z)),h3
  exists p,_,f,_,_,rfl,X,T.Ae,T.Aw,rfl,?_;exists g,rfl,⟨_,SqL.of I⟩,fun u Y=>?_;refine u5 (K:=K) (xs:=refs lk n) (fun i G=>∃ (bk dx dd:Nat->Addr) (f2:Nat->List Int->Option Slt) (O2:Nat->Addr->Prop),G u=some (.lst (refs bk i))/\ymj K a HA G i bk dx lk dd kd ps f2 O2/\yv HA G)
   ⟨fun _=>0,fun _=>0,fun _=>0,fun _ _=>none,fun _ _=>False,ya,ymj.zero,y8 Y⟩ (fun i G _ z=>?_) (fun i y G hy hi z=>?_) (fun G z=>?_)
  .obtain ⟨_,_,_,_,_,_,_,SG⟩:=z;exact SqL.of (SG _ _ I)
  .obtain ⟨bk,dx,dd,f2,O2,a6,gN,SG⟩:=z;obtain ⟨rfl,aU⟩:=zi hy;rfl';intro q dq nq aR aZ;have SQ:yv G (upd (upd G dq (.own q)) q (.ins a.Aa dq [])):=fun b o e=>by rw [yk (yb e nq),yk (yb e aR)]; exact e
   exists q,dq,lk i,kd i,rfl,ya,fun d G2 aP aV B2=>⟨rfl,?_⟩;have ar:yv G G2:=fun b o e=>B2 b o (SQ b o e) (yb e nq);refine xm (n:=(refs lk n).length) (ar _ _ a6) (vd (by rw [vy]; omega)) hi ?_;exists _,_,_,_,_,?_,gN.next ((aI i aU).same SG).at' SG nq (SQ.free aP) ar aV a6,fun b o e=>yf (yb e Y) (ar _ _ (SG b o e));rw [ya,zv,w9]
   congr 3
   exact uz fun j r=>(wx r).symm
  obtain ⟨bk,dx,dd,f2,O2,a6,gN,SG⟩:=z;rw [vy] at a6 gN;have av:=SG _ _ X;rfl';have aD:∀ c o,HA c=some o->c≠p->upd G p (HO.ins a.A2 f ([("looks",V.ref g),("books",V.ref u)]:List (Str × V))) c=some o:=fun c o e J=>yf J (SG _ _ e);have aa:upd G p (HO.ins a.A2 f ([("looks",V.ref g),("books",V.ref u)]:List (Str × V))) p=some (HO.ins a.A2 f ([("looks",V.ref g),("books",V.ref u)]:List (Str × V))):=ya;have af:u≠p:=(yb X Y).symm;have al:upd G p (HO.ins a.A2 f ([("looks",V.ref g),("books",V.ref u)]:List (Str × V))) u=some (.lst (refs bk n)):=yf af a6;have BP:∀ {fs:List (Str × V)},But p G (upd G p (HO.ins a.A2 f fs)):=But.upd
  have ae:∀ j,j < n->¬ O2 j p:=fun j r w=>by
   have e:=gN.2.2.1 j p r w;rw [X] at e;cases e
  have aG:∀ {G':Hp},But p G G'->Bks K a G' n bk dx lk dd kd ps f2 O2 0:=fun {G'} B=>gN.1.frame (O2:=fun c=>c=p) (fun c o e J=>B c o e J) (fun j c r w z=>ae j r (z ▸ w)) (fun j r z=>by
   have e:=gN.2.2.2 j r;rw [z,X] at e
   cases e) (fun t xs e=>by
   rcases e with (e | ⟨o,e⟩) | e
   .exact .inl (.inl (B _ _ e (fun z=>by rw [z,av] at e; cases e)))
   .exact .inl (.inr ⟨o,B _ _ e (fun z=>by rw [z,av] at e; cases e)⟩)
   .exact .inr e)
  have BB:But p G (upd G p (HO.ins a.A2 f ([("looks",V.ref g),("books",V.ref u)]:List (Str × V)))):=But.upd;generalize upd G p (HO.ins a.A2 f ([("looks",V.ref g),("books",V.ref u)]:List (Str × V)))=HB at aD aa al BB ⊢;exists p,_,f,_,_,rfl,aa,T.Ae,T.Aw,rfl,?_;refine ue (SqL.of (aD _ _ I a2)) ?_;rw [vy];rfl';intro D mx a9 aH aY;have SM:yv HB (upd (upd HB mx (.own D)) D (.ins a.Bh mx [])):=fun b o e=>by rw [yk (yb e a9),yk (yb e aH)]; exact e
  exists D,mx,n,rfl,n1,n6,ya,fun ml HC aF MC BC=>⟨rfl,?_⟩;have SC:yv HB HC:=fun b o e=>BC b o (SM b o e) (yb e a9);have b1:=SC _ _ aa;have ay:=SC _ _ al;have ab:HB ml=none:=SM.free aF;have N:D≠p:=(yb aa a9).symm;have a1:ml≠p:=(yb aa ab).symm;rfl';exists by walk_at "len",fun M a0=>?_
  have U:M≠p:=fun z=>by rw [z,ya] at a0; cases a0
  have W:HC M=none:=by rw [yk U] at a0; exact a0
  have aT:upd (upd HC p (HO.ins a.A2 f ([("looks",V.ref g),("books",V.ref u),("mixer",V.ref D)]:List (Str × V)))) M (.lst []) p=some (HO.ins a.A2 f ([("looks",V.ref g),("books",V.ref u),("mixer",V.ref D)]:List (Str × V))):=yf U.symm ya;have ai:upd (upd HC p (HO.ins a.A2 f ([("looks",V.ref g),("books",V.ref u),("mixer",V.ref D)]:List (Str × V)))) M (.lst []) M=some (.lst []):=ya;have BD:But p HC (upd (upd HC p (HO.ins a.A2 f ([("looks",V.ref g),("books",V.ref u),("mixer",V.ref D)]:List (Str × V)))) M (.lst [])):=fun b o e J=>yf (yb e W) (yf J e);generalize upd (upd HC p (HO.ins a.A2 f ([("looks",V.ref g),("books",V.ref u),("mixer",V.ref D)]:List (Str × V)))) M (.lst [])=HD at aT ai BD ⊢;rfl';exists by walk_at "len",fun L Z=>?_
  have au:L≠p:=fun z=>by rw [z,ya] at Z; cases Z
  have am:HD L=none:=by rw [yk au,yk au] at Z; exact Z
  have aK:upd (upd (upd HD p (HO.ins a.A2 f ([("looks",V.ref g),("books",V.ref u),("mixer",V.ref D),("ended",V.ref M)]:List (Str × V)))) p (HO.ins a.A2 f ([("looks",V.ref g),("books",V.ref u),("mixer",V.ref D),("ended",V.ref M),("place",V.int 0)]:List (Str × V)))) L (.lst []) p=some (HO.ins a.A2 f ([("looks",V.ref g),("books",V.ref u),("mixer",V.ref D),("ended",V.ref M),("place",V.int 0)]:List (Str × V))):=yf au.symm ya;have BE:But p HD (upd (upd (upd HD p (HO.ins a.A2 f ([("looks",V.ref g),("books",V.ref u),("mixer",V.ref D),("ended",V.ref M)]:List (Str × V)))) p (HO.ins a.A2 f ([("looks",V.ref g),("books",V.ref u),("mixer",V.ref D),("ended",V.ref M),("place",V.int 0)]:List (Str × V)))) L (.lst [])):=fun b o e J=>yf (yb e am) (yf J (yf J e));generalize upd (upd (upd HD p (HO.ins a.A2 f ([("looks",V.ref g),("books",V.ref u),("mixer",V.ref D),("ended",V.ref M)]:List (Str × V)))) p (HO.ins a.A2 f ([("looks",V.ref g),("books",V.ref u),("mixer",V.ref D),("ended",V.ref M),("place",V.int 0)]:List (Str × V)))) L (.lst [])=HE at aK BE ⊢;rfl';have BF:But p HE (upd HE p (.ins a.A2 f (uy (.ref g) (.ref u) (.ref D) (.ref M) (.int 0) (.ref L)))):=But.upd;have a5:upd HE p (.ins a.A2 f (uy (.ref g) (.ref u) (.ref D) (.ref M) (.int 0) (.ref L))) p=some (.ins a.A2 f (uy (.ref g) (.ref u) (.ref D) (.ref M) (.int 0) (.ref L))):=ya;generalize upd HE p (.ins a.A2 f (uy (.ref g) (.ref u) (.ref D) (.ref M) (.int 0) (.ref L)))=HF at a5 BF ⊢;have ac:But p HC HF:=(BD.trans BE).trans BF;have a3:But p G HF:=fun b o e J=>ac b o (SC _ _ (BB b o e J)) J;have ax:=ac _ _ MC.o N;have aB:=ac _ _ MC.l a1;have aq:=ac _ _ ay af;have an:=BF _ _ (BE _ _ ai U) U;exists p,f,g,u,D,M,L,0,[],n,0,bk,dx,lk,dd,kd,ps,f2,O2,fun i _=>kd0 (kd i),rfl,a5,aq,an,aG a3,gN.ag,n6,by omega,ae,fun pl sl f' O' H' aN aJ ah B' aL aQ ad F' L'=>?_
  have a8:∀ {c:Addr},c≠p->HF c=none->G c=none:=fun {c} J h=>by
   cases e:G c with
   | none=>rfl
   | some o=>rw [a3 _ _ e J] at h; cases h
  have ao:∀ j c,j < n->O2 j c->∃ o,G c=some o:=fun j c r w=>let ⟨o,ho,_⟩:=(gN.1.b j r).own c w; ⟨o,ho⟩
  have nO:∀ {c:Addr} {o:HO},HF c=some o->yuo o=false->∀ j,j < n->¬ O2 j c:=fun {c o} e hi j r w=>by
   obtain ⟨o',aw,aE⟩:=((aG a3).b j r).own c w;rw [e] at aw;cases aw;rw [hi] at aE;cases aE
  have aA:∀ j,j < n->¬ O2 j D:=fun j r w=>by
   obtain ⟨o,ho⟩:=ao j D r w;have e:=BB _ _ ho N;rw [a9] at e;cases e
  have O:∀ {c:Addr},c≠p->HA c=none->H c=none:=fun {c} J h=>by
   cases e:H c with
   | none=>rfl
   | some o=>rw [a4 _ _ e J] at h; cases h
  have R:∀ {c:Addr},G c=none->HA c=none:=fun {c} h=>SG.free h
  have a7:∀ {c:Addr},c≠p->HB c=none->G c=none:=fun {c} J h=>by
   cases e:G c with
   | none=>rfl
   | some o=>rw [BB _ _ e J] at h; cases h
  have aC:∀ {c:Addr},HC c=none->HB c=none:=fun {c} h=>SC.free h;refine k ⟨f,g,u,D,mx,ml,M,pl,n,bk,dx,lk,dd,sl,kd,ps⟩ f' O' H' ⟨⟨aN,F' _ _ aq af (nO aq rfl),F' _ _ an U (nO an rfl),⟨F' _ _ ax N aA,F' _ _ aB a1 (nO aB rfl)⟩,?_,aJ,⟨B'.look,fun i hi=>(B'.b i hi).up (by omega),B'.dj,B'.nb⟩,aL,aQ,fun j r w=>?_,fun j r w=>?_,n1,n6⟩,rfl,rfl,rfl,rfl,fun j c r w=>?_,fun j r=>?_,?_,fun c hc=>?_,F' _ _ (a3 _ _ (SG _ _ I) a2) a2 (nO (a3 _ _ (SG _ _ I) a2) rfl),yb (SC _ _ (BB _ _ (SG _ _ I) a2)) W,aj⟩ ?_
  .exact yzy n n1 n6
  .rcases ad j p r w with v | v
   .exact ae j r v
   .rw [a5] at v; cases v
  .rcases ad j D r w with v | v
   .exact aA j r v
   .rw [ax] at v; cases v
  .have as:c≠p:=fun z=>by
    rw [z] at w;rcases ad j p r w with v | v
    .exact ae j r v
    .rw [a5] at v; cases v
   rcases ad j c r w with v | v
   .exact O as (gN.2.2.1 j c r v)
   .exact O as (R (a8 as v))
  .have aO:bk j≠p:=fun z=>by
    have e:=gN.2.2.2 j r;rw [z,X] at e;cases e
   exact O aO (gN.2.2.2 j r)
  .exact O N (R (a7 N a9))
  .rcases hc with z | z | z | z
   .rw [z];exact O af Y
   .rw [z];exact O U (R (a7 U (aC W)))
   .rw [z];exact O a1 (R (a7 a1 ab))
   .rw [z];have ak:pl≠p:=(yb a5 ah).symm;exact O ak (R (a8 ak ah))
  .intro c o e J;refine F' c o (a3 _ _ (SG _ _ (a4 c o e J)) J) J fun j r w=>?_;have e2:=gN.2.2.1 j c r w;rw [a4 c o e J] at e2;cases e2
theorem yca:∀ (ts:List Int) (q j:Nat) (s:Int),ts[q]?=some s->j <= 8->(dec ts)[9 * q+j]?=(1 :: b8 s)[j]?
 | [],_,_,_,h,_=>by simp at h
 | t :: r,0,j,s,h,hj=>by
  have e:t=s:=by simpa using h
  subst e;show ((1 :: b8 t)++dec r)[9 * 0+j]?=_;rw [Nat.mul_zero,Nat.zero_add,List.getElem?_append_left (by rw [de,yn1]; omega)]
 | t :: r,q+1,j,s,h,hj=>by
  have b:r[q]?=some s:=by simpa using h
  show ((1 :: b8 t)++dec r)[9 * (q+1)+j]?=_;have a:(1 :: b8 t).length=9:=rfl;rw [dM (by rw [a]; omega),a,show 9 * (q+1)+j - 9=9 * q+j by omega];exact yca r q j s b hj
def yrj (ts:List Int):(dec ts)[9 * ts.length]?=some 0:=by
 rw [ymd,dM (by rw [jb]; exact cE _),jb,Nat.sub_self];rfl
def yau (ts:List Int) (k:Nat) (sg:List Int) (nd:Int):Prop:=∃ q j:Nat,k=9 * q+j/\j <= 8/\sg=ts.take q/\((j=0/\nd=0/\q <= ts.length)\/(1 <= j/\∃ s,ts[q]?=some s/\nd=(256+s) / 2 ^ (9 - j)))
def vb3 {s P c:Int} (h:0 <= s/\s <= 255) (hP:2 <= P) (hc:P * (2 * c)=256) (c1:1 <= c/\c <= 64):0 < (256+s) / (2 * P)/\2 * ((256+s) / (2 * P))+s / P % 2 < 256/\2 * ((256+s) / (2 * P))+s / P % 2=(256+s) / P:=by
 have a:(256+s) / P=s / P+2 * c:=by rw [<- hc,Int.add_comm,Int.add_mul_ediv_left _ _ (by omega)]
 have b:(256+s) / (2 * P)=(s / P+2 * c) / 2:=by rw [<- a,Int.ediv_ediv_of_nonneg (show 0 <= P by omega),Int.mul_comm]
 have d:=Int.ediv_nonneg h.1 (show 0 <= P by omega);have e:=Int.ediv_lt_of_lt_mul (show 0 < P by omega) (show s < 128 * P by omega);rw [a,b];generalize s / P=y at d e;clear hc a b hP h;omega
def nd9 {s:Int} (h:0 <= s/\s <= 255) (h1:1 <= j) (hj:j <= 8):0 < (256+s) / 2 ^ (9 - j)/\(256+s) / 2 ^ (9 - j) < 256:=by
 have a:∀ j,j < 9->1 <= j->(2:Int) <= 2 ^ (9 - j)/\(2:Int) ^ (9 - j) <= 256:=by decide
 obtain ⟨b,c⟩:=a j (Nat.lt_succ_of_le hj) h1;generalize (2:Int) ^ (9 - j)=K at b c;exists Int.le_ediv_of_mul_le (by omega) (by omega),Int.ediv_lt_of_lt_mul (by omega) (by omega)
def yau.zero (ts:List Int):yau ts 0 [] 0:=⟨0,0,rfl,by omega,by simp,.inl ⟨rfl,rfl,cV _⟩⟩
theorem yau.nd {k:Nat} {sg:List Int} {nd:Int} (h:yau ts k sg nd) (hs:Sgs ts):0 <= nd/\nd < 256:=by
 obtain ⟨q,j,_,d,_,h⟩:=h;rcases h with ⟨_,h,_⟩ | ⟨e,s,c,h⟩
 .omega
 .obtain ⟨a,b⟩:=nd9 (hs s (cR c)) e d;rw [h];exists Int.le_of_lt a,b
def yau.len {k:Nat} {sg:List Int} {nd:Int} (h:yau ts k sg nd):sg.length <= ts.length:=by
 obtain ⟨q,j,_,_,a,_⟩:=h;rw [a,cX];omega
def yau.next {k:Nat} {sg:List Int} {nd b:Int} (h:yau ts k sg nd) (hs:Sgs ts) (hb:(dec ts)[k]?=some b) :
  (k < 9 * ts.length/\yau ts (k+1) (sgN sg nd b) (ndN nd b))\/(k=9 * ts.length/\sgN sg nd b=[]/\ndN nd b=0):=by
 obtain ⟨q,j,r,w,l,h⟩:=h;rcases h with ⟨u,d,C⟩ | ⟨B,s,a,d⟩
 .subst u;rcases Nat.lt_or_ge q ts.length with m | m
  .refine .inl ⟨by omega,?_⟩;have e:=yca ts q 0 ts[q] (cC m) (by omega);rw [<- r,hb] at e;have e:b=1:=by simpa using e
   have:=hs ts[q] (dw m);unfold sgN ndN;rw [if_neg (by omega),if_pos e,if_neg (by omega),if_pos e];exists q,1,by omega,by omega,l,.inr ⟨by omega,ts[q],cC m,?_⟩
   simp only [Nat.reduceSub,Int.reducePow];omega
  .have p:q=ts.length:=by omega
   have e:=yrj ts;rw [<- p,show 9 * q=k by omega,hb] at e;have e:b=0:=by simpa using e
   refine .inr ⟨by omega,?_,?_⟩
   .unfold sgN;rw [if_neg (by omega),if_neg (by omega)]
   .unfold ndN;rw [if_neg (by omega),if_neg (by omega)];exact d
 .have o:=hs s (cR a);have m:q < ts.length:=(cO.mp a).1;have e:=yca ts q j s a w;rw [<- r,hb] at e
  have g:some b=(b8 s)[j - 1]?:=by
   obtain ⟨i,rfl⟩:∃ i,j=i+1:=⟨j - 1,by omega⟩;simpa using e
  refine .inl ⟨by omega,?_⟩;by_cases h8:j=8
  .subst h8;have g:b=s / 1 % 2:=cS g;simp only [Nat.reduceSub,Int.reducePow] at d;have D:2 * nd+b=256+s:=by omega
   unfold sgN ndN;rw [if_pos (by omega),if_pos (by omega),if_pos (by omega),if_pos (by omega)];exists q+1,0,by omega,by omega,?_,.inl ⟨rfl,rfl,by omega⟩
   rw [l,show 2 * nd+b - 256=s by omega,Ã a]
  .have n:0 < nd/\2 * nd+b < 256/\2 * nd+b=(256+s) / 2 ^ (9 - (j+1)):=by
    have k:∀ P c:Int,2 <= P->P * (2 * c)=256->1 <= c/\c <= 64->nd=(256+s) / (2 * P)->b=s / P % 2->0 < nd/\2 * nd+b < 256/\2 * nd+b=(256+s) / P:=fun P c x y z e f=>by
     rw [e,f];exact vb3 o x y z
    clear r hb e l m hs;obtain rfl | rfl | rfl | rfl | rfl | rfl | rfl:j=1\/j=2\/j=3\/j=4\/j=5\/j=6\/j=7:=by omega
    .exact k 128 1 (by decide) rfl (by decide) d (cS g)
    .exact k 64 2 (by decide) rfl (by decide) d (cS g)
    .exact k 32 4 (by decide) rfl (by decide) d (cS g)
    .exact k 16 8 (by decide) rfl (by decide) d (cS g)
    .exact k 8 16 (by decide) rfl (by decide) d (cS g)
    .exact k 4 32 (by decide) rfl (by decide) d (cS g)
    .exact k 2 64 (by decide) rfl (by decide) d (cS g)
   obtain ⟨t,A,v⟩:=n;unfold sgN ndN;rw [if_pos t,if_neg (by omega),if_pos t,if_neg (by omega)];exists q,j+1,by omega,by omega,l,.inr ⟨by omega,s,a,v⟩
theorem uv.up {H:Hp} {A:FA} {X:FX} {f:Nat->List Int->Option Slt} {m:Nat} (h:uv K a H p A X f O m) (hm:m <= m'):uv K a H p A X f O m' :=
 ⟨h.me,h.bl,h.el,h.mx,h.wok,h.pl,⟨h.B.look,fun i c=>(h.B.b i c).up hm,h.B.dj,h.B.nb⟩,h.ag,h.at',h.np,h.nm,h.n1,h.n6⟩
structure Lw (K:W.Frag) (a:Ads) (H:Hp) (p:Addr) (A:FA) (X:FX) (f:Nat->List Int->Option Slt) (O:Nat->Addr->Prop) (m:Nat) (bk dx dd:Nat->Addr) (f2:Nat->List Int->Option Slt) (O2:Nat->Addr->Prop) (mp mx ml:Addr) (ws:List Int):Prop where
 ft:uv K a H p A X f O m
 bs:Bks K a H A.n bk dx A.lk dd A.kd A.ps f2 O2 m
 mx:yft a mp mx ml ws H
 dj:∀ i j c,i < A.n->j < A.n->O i c->¬ O2 j c
 n1:∀ i j,i < A.n->j < A.n->¬ O i (bk j)
 n2:∀ i j,i < A.n->j < A.n->¬ O2 i (A.bk j)
 n3:∀ i,i < A.n->¬ O2 i p/\¬ O2 i A.mp/\¬ O2 i mp/\¬ O i mp
 n4:mp≠A.mp
 n5:ml≠A.el
section
variable {H H':Hp} {A:FA} {X:FX} {f:Nat->List Int->Option Slt} {m:Nat} {bk dx dd:Nat->Addr} {f2:Nat->List Int->Option Slt} {mp mx ml:Addr} {ws:List Int}
def x9 {d e:Addr} {fs gs:List (Str × V)} (hp:H p=some (.ins C d fs)) (hq:H q=some (.ins D e gs)) (hl:fs.length≠gs.length):p≠q:=fun z=>by
 rw [z,hq] at hp;injection hp with hp;injection hp with _ _ e;exact hl (congrArg List.length e).symm
end
def KpA (B G:Hp) (e0 e:Addr):Prop:=∀ c o,B c=some o->yuo o=false->c≠e0->c≠e/\G c=some o
theorem KpA.lst {B G:Hp} {e0 e c:Addr} {xs:List V} (h:KpA B G e0 e) (hc:B c=some (.lst xs)) (ne:c≠e0):G c=some (.lst xs):=(h c _ hc rfl ne).2
def TxE (ts:List Int) (k:Nat) (sg:List Int) (nd:Int):Prop:=(k <= 9 * ts.length/\yau ts k sg nd)\/(k=9 * ts.length+1/\sg=[]/\nd=0)
theorem TxE.next {k:Nat} {sg:List Int} {nd b:Int} (h:TxE ts k sg nd) (hs:Sgs ts) (hb:(dec ts)[k]?=some b):yau ts k sg nd/\TxE ts (k+1) (sgN sg nd b) (ndN nd b):=by
 rcases h with ⟨c,h⟩ | ⟨c,_⟩
 .exists h,?_;rcases h.next hs hb with ⟨e,a⟩ | ⟨e,a,d⟩
  .exact .inl ⟨by omega,a⟩
  .exact .inr ⟨by omega,a,d⟩
 .rw [c,dn (by rw [xq]; exact cE _)] at hb;cases hb
#synth yyj ["self"] ysb
inductive ya3 (K:W.Frag) (a:Ads) (vs:List V) (H:Hp) (Q:VK) (E':XK):Prop
 | mk (p:Addr) (A:FA) (X:FX) (f:Nat->List Int->Option Slt) (O:Nat->Addr->Prop) (m:Nat) (_:vs=[.ref p]) (_:uv K a H p A X f O m) (_:∀ r H',H r=none->H' r=some (.lst ((X.cs A).map V.int))->yv H H'->Q (.ref r) H')
def yot:vk P w K mg Γ CX0 2 a.Jg a.Jh ["self"] (ya3 K a):=by
 exists T.De.F.ok,yyj,o;obtain ⟨p,d,X,f,O,m,rfl,h,k⟩:=h;have N:=h.me;have L:=h.n6;exists 1,0,yc (yp (wn (js:=[]) (ys:=[]) rfl (wv (ym (pv 0) rfl)) (fun C I r M=>(Į (vo (pv 0) T.Bc T.Fq.m (yxt T) o.m T.Fq.B .nil vx) (Į (vo (pv 0) T.C1 T.Ft.m (yv9 T) o.m T.Ft.B .nil vx) (vo (pv 0) T.C7 T.Fw.m (yvt T) o.m T.Fw.B .nil vx)))) rfl rfl (hyc:=yx) (hrel:=yx)));exists d.pl,rfl,⟨_,SqL.of h.pl⟩,fun D e=>?_;refine u5 (K:=K) (xs:=refs d.sl d.n) (Mp H D (fun i=>V.int (X.g i (X.key d i)).due)) (Mp.zero e) (fun _ _ _ q=>q.1.seq (SqL.of h.pl)) (fun i y r t G q=>?_) (fun r q=>?_)
 .obtain ⟨c,b⟩:=q;obtain ⟨rfl,j⟩:=zi t;obtain ⟨_,⟨R,u⟩,z,_⟩:=h.slot j;refine yhk (fun J h=>yt1 rfl h) (c _ _ u) z ?_;exact Mp.doneR e (vd (by rw [vy]; omega)) G c b rfl
 .obtain ⟨c,b⟩:=q;rw [vy] at b;refine k D _ e ?_ c;rw [b];unfold FX.cs;rw [df];rfl
#synth yvn ["self"] ytb
inductive yfg (K:W.Frag) (a:Ads) (vs:List V) (H:Hp) (Q:VK) (E':XK):Prop
 | mk (p:Addr) (A:FA) (X:FX) (f:Nat->List Int->Option Slt) (O:Nat->Addr->Prop) (m:Nat) (_:vs=[.ref p]) (_:uv K a H p A X f O m) (_:∀ H',yv H H'->Q (.int (yoz X.ws (X.cs A))) H')
def ynm:vk P w K mg Γ CX0 3 a.Ji a.Jj ["self"] (yfg K a):=by
 exists T.Dh.F.ok,yvn,e;obtain ⟨p,b,X,f,O,m,rfl,h,k⟩:=h;have u:=h.me;have j:=h.mx.o;exists 1,0,yc (yp (xf (ym (pv 0) rfl) T.Ej T.Gb.m (yyv T) e.m T.Gb.B .nil vx (pa1 (vo (pv 0) T.Ae T.De.m (yot T) e.m T.De.B .nil vx))));exists p,b,X,f,O,m,rfl,h,fun r v i d g=>?_;rfl';exists b.mp,b.mx,b.ml,r,X.ws,X.cs b,b.n,rfl,h.n1,h.n6,h.wok,h.cok,h.mx.same g,SqL.of d,fun x q=>k _ (g.trans q)
#synth yvu ["self","bit"] yr5
inductive yqq (a:Ads) (vs:List V) (H:Hp) (Q:VK) (E':XK):Prop
 | mk (p dp ll bl mp el pl:Addr) (nd b:Int) (sg:List Int) (_:vs=[.ref p,.int b]) (_:H p=some (.ins a.A2 dp (uy (.ref ll) (.ref bl) (.ref mp) (.ref el) (.int nd) (.ref pl)))) (_:H el=some (.lst (sg.map V.int))) (_:sg.length <= 100000) (_:0 < nd) (_:∀ H',H' p=some (.ins a.A2 dp (uy (.ref ll) (.ref bl) (.ref mp) (.ref el) (.int (ndN nd b)) (.ref pl)))->H' el=some (.lst ((sgN sg nd b).map V.int))->(∀ c o,H c=some o->c≠p->c≠el->H' c=some o)->Q .non H')
def ywj:vk P w K mg Γ CX0 1 a.Jo a.Jp ["self","bit"] (yqq a):=by
 exists T.Gf.F.ok,yvu,O;obtain ⟨p,n,l,q,r,i,m,f,b,D,rfl,L,C,N,B,k⟩:=h;exists _,(ye (yy (pv 0) (yn vj (yn wu yg (ym (pv 0) rfl)) (pv 1)) rfl) (yc (wd (yu vbi (ym (pv 0) rfl) (ve rfl T.D5) (yz _)) (ye (yt (Č PySem.F.plainAttrs_list PySem.F.slot_list_append PySem.F.type_list_append xg (ym (pv 0) rfl) (pa1 (yn u7 (ym (pv 0) rfl) (ve rfl T.D5))))) (yc (yy (pv 0) yg rfl))) y6))),?_;exists 2,0;unfold ndN sgN at k;rw [if_pos B,if_pos B] at k;have j:i≠p:=ww C L (by intro z; cases z);rfl';have g:upd H p (.ins a.A2 n (uy (.ref l) (.ref q) (.ref r) (.ref i) (.int (2 * f+b)) (.ref m))) p=some (.ins a.A2 n (uy (.ref l) (.ref q) (.ref r) (.ref i) (.int (2 * f+b)) (.ref m))):=ya;have d:=yf (o':=HO.ins a.A2 n (uy (.ref l) (.ref q) (.ref r) (.ref i) (.int (2 * f+b)) (.ref m))) j C;have v:But p H (upd H p (.ins a.A2 n (uy (.ref l) (.ref q) (.ref r) (.ref i) (.int (2 * f+b)) (.ref m)))):=But.upd;generalize upd H p (.ins a.A2 n (uy (.ref l) (.ref q) (.ref r) (.ref i) (.int (2 * f+b)) (.ref m)))=M at g d v ⊢;rfl';refine uu (fun t=>?_) (fun t=>?_)
 .rw [if_pos t,if_pos t] at k;rfl';refine Ì d ?_;rfl';refine xy d (vd (by rw [cA]; omega)) ?_;have I:=yf (o':=HO.lst (List.map V.int D++[V.int (2 * f+b - 256)])) (Ne.symm j) g;rfl';refine k _ ya ?_ fun c o e u y=>yf u (yf y (v _ _ e u));rw [yk j,ya,cM];rfl
 .rw [if_neg t,if_neg t] at k;rfl';exact k _ g d fun c o e u y=>v _ _ e u
#synth yx6 ["self","bit"] ytd
inductive ykh (a:Ads) (vs:List V) (H:Hp) (Q:VK) (E':XK):Prop
 | mk (p dp ll bl mp el pl:Addr) (nd b:Int) (sg:List Int) (_:vs=[.ref p,.int b]) (_:H p=some (.ins a.A2 dp (uy (.ref ll) (.ref bl) (.ref mp) (.ref el) (.int nd) (.ref pl)))) (_:H el=some (.lst (sg.map V.int))) (_:sg.length <= 100000) (_:0 <= nd) (_:∀ (el':Addr) H',(el'=el\/H el'=none)->H' p=some (.ins a.A2 dp (uy (.ref ll) (.ref bl) (.ref mp) (.ref el') (.int (ndN nd b)) (.ref pl)))->H' el'=some (.lst ((sgN sg nd b).map V.int))->(∀ c o,H c=some o->c≠p->c≠el->H' c=some o)->(∃ o,H' el=some o)->Q .non H')
def yzg:vk P w K mg Γ CX0 2 a.Jm a.Jn ["self","bit"] (ykh a):=by
 exists T.Ge.F.ok,yx6,U;obtain ⟨p,y,v,D,G,g,x,u,b,C,rfl,l,i,R,W,k⟩:=h;exists _,(yc (wd (yu ycf (ym (pv 0) rfl) yg (yz _)) (yc (yt (xf (pv 0) T.Ae T.Gf.m (ywj T) U.m T.Gf.B .nil vx (pa1 (pv 1))))) (yc (wd (yu xz (pv 1) yg (yz _)) (yc (yy (pv 0) yg rfl)) (yc (yy (pv 0) (xh ua) rfl)))))),?_;exists 2,0;have d:g≠p:=ww i l (by intro z; cases z);rfl';refine uu (fun j=>?_) (fun j=>?_)
 .rfl';exists p,y,v,D,G,g,x,u,b,C,rfl,l,i,R,j,fun S L I N=>k g S (.inl rfl) L I N ⟨_,I⟩
 .unfold ndN sgN at k;rw [if_neg j,if_neg j] at k;rfl';refine uu (fun f=>?_) (fun f=>?_)
  .rw [if_pos f,if_pos f] at k;rfl';exact k g _ (.inl rfl) ya (yf d i) (fun c o e q _=>yf q e) ⟨_,yf d i⟩
  .rw [if_neg f,if_neg f] at k;rfl';exists by walk_at "len",fun r hr0=>?_
   exists hr0,H1,S1,e1;have O:=S1 _ _ l;rfl';have n:r≠p:=fun z=>by rw [z,l] at hr0; cases hr0
   exact k r _ (.inr hr0) ya (yf n e1) (fun c o e q _=>yf q (S1 _ _ e)) ⟨_,yf d (S1 _ _ i)⟩
abbrev FA.re (A:FA) (ml el pl:Addr) (sl:Nat->Addr):FA:={ A with ml:=ml,el:=el,pl:=pl,sl:=sl }
def FX.run (A:FA) (X:FX):List Int->FX
 | []=>X
 | b :: r=>FX.run A (X.see A b) r
theorem j5 (A:FA):∀ (bs cs:List Int) (X:FX),X.run A (bs++cs)=(X.run A bs).run A cs
 | [],_,_=>rfl
 | b :: r,cs,X=>j5 A r cs (X.see A b)
def yk6 (A:FA) (bs:List Int) (b:Int) (X:FX):X.run A (bs++[b])=(X.run A bs).see A b:=j5 A bs [b] X
def fa0 (n:Nat) (ps:Nat->List Int):FA:={ dp:=0,ll:=0,bl:=0,mp:=0,mx:=0,ml:=0,el:=0,pl:=0,n:=n,bk:=fun _=>0,dx:=fun _=>0,lk:=fun _=>0,dd:=fun _=>0,sl:=fun _=>0,kd:=fun _=>0,ps:=ps }
theorem ą (A:FA):∀ (bs:List Int) (X:FX),X.run A bs=X.run (fa0 A.n A.ps) bs
 | [],_=>rfl
 | b :: r,X=>ą A r (X.see A b)
def yuh (H:Hp) (A:FA):Prop:=H A.ll=some (.lst (refs A.lk A.n))/\A.ll≠A.el/\∃ tp,xu H A.n A.lk A.kd tp A.ps
theorem yuh.same {H H':Hp} {A:FA} (h:yuh H A) (S:yv H H'):yuh H' A:=⟨S _ _ h.1,h.2.1,let ⟨tp,r⟩:=h.2.2; ⟨tp,r.same S⟩⟩
structure Go (W:Addr->Prop) (H H':Hp) (W':Addr->Prop):Prop where
 fr:∀ c o,H c=some o->¬ W c->H' c=some o
 nw:∀ c,W' c->W c\/H c=none
 lv:∀ c o,H c=some o->∃ o',H' c=some o'
def Go.free {W:Addr->Prop} {H H':Hp} (h:Go W H H' W') {c:Addr} (e:H' c=none):H c=none:=by
 cases z:H c with
 | none=>rfl
 | some o =>
  obtain ⟨a,w⟩:=h.lv c o z;rw [e] at w;cases w
def Go.refl {W:Addr->Prop} {H:Hp}:Go W H H W:=⟨fun _ _ e _=>e,fun _ w=>.inl w,fun _ o e=>⟨o,e⟩⟩
def Go.trans {W W1:Addr->Prop} {H H1 H2:Hp} (h:Go W H H1 W1) (k:Go W1 H1 H2 W2):Go W H H2 W2:=by
 exists fun c o e a=>k.fr c o (h.fr c o e a) fun w=>?_,fun c w=>?_,fun c o e=>?_
 .rcases h.nw c w with v | v
  .exact a v
  .rw [e] at v;cases v
 .rcases k.nw c w with v | v
  .exact h.nw c v
  .exact .inr (h.free v)
 .obtain ⟨d,b⟩:=h.lv c o e;exact k.lv c d b
def Go.same {W:Addr->Prop} {H H1 H2:Hp} (h:Go W H H1 W') (S:yv H1 H2):Go W H H2 W':=⟨fun c o e a=>S _ _ (h.fr c o e a),h.nw,fun c o e=>let ⟨o',w⟩:=h.lv c o e; ⟨o',S _ _ w⟩⟩
def Go.ahead {W:Addr->Prop} {H H1 H2:Hp} (S:yv H H1) (h:Go W H1 H2 W'):Go W H H2 W':=⟨fun c o e=>h.fr c o (S _ _ e),fun c w=>(h.nw c w).imp id S.free,fun c o e=>h.lv c o (S _ _ e)⟩
def Go.apart {W:Addr->Prop} {H H':Hp} (h:Go W H H' W') (hU:∀ c,U c->∃ o,H c=some o) (dj:∀ c,U c->¬ W c):∀ c,U c->¬ W' c:=fun c u w=>by
 rcases h.nw c w with v | v
 .exact dj c u v
 .obtain ⟨o,e⟩:=hU c u;rw [v] at e;cases e
section
variable {H H':Hp} {n:Nat} {kd:Nat->Fin 3} {ps:Nat->List Int} {X:FX} {M:Nat} {W:Addr->Prop}
def yrg {g:Nat->Addr} (h:1 <= n):(refs g n)[0]?=some (.ref (g 0)):=by
 unfold refs;rw [cG,dS h];rfl
end
#synth yoh ["self","bit","slot"] ["self","bit"] yt5
inductive yqr (K:W.Frag) (a:Ads) (vs:List V) (H:Hp) (Q:VK) (E':XK):Prop
 | mk (p:Addr) (A:FA) (X:FX) (f:Nat->List Int->Option Slt) (O:Nat->Addr->Prop) (m:Nat) (b:Int) (_:vs=[.ref p,.int b]) (_:uv K a H p A X f O m) (_:0 <= b) (_:b <= 1) (_:m+20 < 1000000) (_:0 <= X.nd) (_:X.sg.length <= 100000) (_:∀ (ml el pl:Addr) (sl:Nat->Addr) (f':Nat->List Int->Option Slt) (O':Nat->Addr->Prop) (H':Hp),(el=A.el\/H el=none)->uv K a H' p { A with ml:=ml,el:=el,pl:=pl,sl:=sl } (X.see A b) f' O' (m+A.n)->(∀ j c,j < A.n->O' j c->O j c\/H c=none) ->
  (∀ c o,H c=some o->c≠p->c≠A.mp->c≠A.el->(∀ j,j < A.n->¬ O j c)->H' c=some o)->(∀ c o,H c=some o->∃ o',H' c=some o')->H ml=none->Q .non H')
def yjc:vk P w K mg Γ CX0 6 a.Jk a.Jl ["self","bit"] (yqr K a):=by
 exists T.Cn.F.ok,yoh,hr;obtain ⟨p,d,X,f,O,m,b,rfl,h,b0,b1,hm,ap,aC,k⟩:=h;have hp:=h.me;have a9:=h.mx.o;have n6:=h.n6;have I:=yvx b0 b1;refine yh (yt (xr (Ċ T) hr.m T.Cj vh (pa1 (pv 1)))) ?_;refine yh (yt (vg (ym (pv 0) rfl) T.Ej T.Gc.m (yws T) hr.m T.Gc.B .nil vh (pac (vo (pv 0) T.Ae T.De.m (yot T) hr.m T.De.B .nil vx) (pa1 (pv 1))))) ?_;refine yh (ur PassesOwn.never rfl (wv (ym (pv 0) rfl)) (wl (i:=2) yoh.nd rfl (Or.inl rfl)) (yc (yt (Į (vg (pv 2) T.Bc T.Fr.m (yxq T) hr.m T.Fr.B .nil vh (pa1 (pv 1))) (Į (vg (pv 2) T.C1 T.Fu.m (yuu T) hr.m T.Fu.B .nil vh (pa1 (pv 1))) (vg (pv 2) T.C7 T.Fx.m (yvj T) hr.m T.Fx.B .nil vh (pa1 (pv 1)))))))) ?_;refine yh (yt (xf (pv 0) T.Ae T.Ge.m (yzg T) hr.m T.Ge.B .nil vx (pa1 (pv 1)))) ?_;exists 2,1,yc (yt (vo (pv 0) T.Ae T.Cm.m (yi2 T) hr.m T.Cm.B .nil vx));exists .int b,_,rfl,.int b,fun _=>?_,fun z=>(by rw [I] at z; cases z);rfl';exists p,d,X,f,O,m,rfl,h,fun r H1 aJ ay S1=>?_;have M:=S1 _ _ a9;rfl';exists d.mp,d.mx,d.ml,r,X.ws,X.cs d,d.n,.int b,_,rfl,h.n1,n6,h.wok,h.cok,h.mx.same S1,SqL.of ay,.int b,fun b' e _ _ ml H2 a6 M2 B2=>?_,fun z=>(by rw [I] at z; cases z);cases e;have L:=h.same S1
 have ac:p≠d.mp:=fun z=>by
  have:=h.me;rw [z,a9] at this;injection this with this;injection this with _ _ e;exact absurd (congrArg List.length e) (show ¬ (1=6) by decide)
 have an:=B2 _ _ L.me ac;have ae:∀ {l:Addr} {xs:List V},H1 l=some (.lst xs)->l≠d.mp:=fun {l xs} e z=>by rw [z,M] at e; cases e
 have a5:=B2 _ _ L.bl (ae L.bl);have a7:=B2 _ _ L.el (ae L.el);have W:=B2 _ _ L.pl (ae L.pl)
 have Z:=L.B.frame (O2:=fun c=>c=d.mp) (fun c o e ne=>B2 c o e ne) (fun j c q w z=>h.nm j q (z ▸ w)) (fun j q z=>by
  have:=(L.B.b j q).me;rw [z,M] at this;injection this with this;injection this with _ _ e
  exact absurd (congrArg List.length e) (show ¬ (1=2) by decide)) (fun t xs e=>by
  rcases e with (e | ⟨o,e⟩) | e
  .exact .inl (.inl (B2 _ _ e (fun z=>by rw [z,M] at e; cases e)))
  .exact .inl (.inr ⟨o,B2 _ _ e (fun z=>by rw [z,M] at e; cases e)⟩)
  .exact .inr e)
 have au:∀ j,j < d.n->(∃ s,f j (X.key d j)=some s)/\AtS H2 (d.dd j) (X.key d j) (d.sl j):=fun j q=>⟨(L.at' j q).1,(L.at' j q).2.told (L.B.b j q) (fun z=>h.nm j q (by rw [<- z]; exact (L.B.b j q).dO)) B2⟩;rfl';refine ⟨d.pl,rfl,⟨_,SqL.of W⟩,zf (K:=K) (a:=d.pl) (xs:=refs d.sl d.n) (fun i σ2 G=>∃ (v:Option V) (f':Nat->List Int->Option Slt),σ2=[some (.ref p),some (.int b),v]/\Bks K a G d.n d.bk d.dx d.lk d.dd d.kd d.ps f' O m /\
   (∀ j,j < d.n->∀ k,(f' j k).getD (kd0 (d.kd j))=if j < i/\k=X.key d j then (X.g j k).see b else X.g j k)/\(∀ j,j < d.n->(∃ s,f' j (X.key d j)=some s)/\AtS G (d.dd j) (X.key d j) (d.sl j))/\(∀ c o,H2 c=some o->(∀ j,j < d.n->¬ O j c)->G c=some o))
  ⟨_,f,rfl,Z,fun j q N=>by rw [if_neg (fun z=>absurd z.1 (cY j))]; exact h.ag j q N,au,fun c o e _=>e⟩ (by rintro i σ2 G _ ⟨_,_,_,_,_,_,w⟩; exact SqL.of (w _ _ W (Z.nlst W))) ?_ ?_⟩
 .rintro i y σ2 G hy ⟨v,f',rfl,S,gA,gS,gF⟩;obtain ⟨rfl,D⟩:=zi hy;obtain ⟨⟨s',aa⟩,ab⟩:=gS i D
  have es:s'=X.g i (X.key d i):=by
   have:=gA i D (X.key d i);rw [aa,if_neg (fun z=>absurd z.1 (d7 i))] at this;exact this
  obtain ⟨dq,hq,ok,aH,az⟩:=(S.b i D).slot aa ab;rfl';refine yrm (x:=.int b) (fun Q' h=>?_) (fun Q' h=>?_) hq ok (.int b) (fun b' e _ _ G3 h3 B3=>?_) (fun z=>by rw [I] at z; cases z) (fun z=>by rw [I] at z; cases z) (fun z=>by rw [I] at z; cases z)
  .rfl';exact h
  .rfl';exact h
  cases e;have as:=(S.b i D).told aa ab b0 b1 h3 B3;have BO:ymi (O i) G G3:=fun c o e no=>B3 _ _ e fun z=>no (by rw [z]; exact az);have M3:=S.move D (cE m) as (fun c w=>.inl w) BO
  have eO:(fun j=>if j=i then O i else O j)=O:=by
   funext j
   by_cases z:j=i
   .rw [if_pos z,z]
   .rw [if_neg z]
  rw [eO] at M3
  have aA:d.dd i≠d.sl i:=fun z=>by
   obtain ⟨aI,aK,w1,_⟩:=(S.b i D).tb;obtain ⟨C,fs,eo⟩:=π a dq s';rw [z,hq,eo] at w1;cases w1
  rfl';exists _,_,rfl,M3,fun j q N=>?_,fun j q=>?_,fun c o e no=>?_
  .try dsimp only
   by_cases z:j=i
   .subst z;rw [if_pos rfl];unfold ä;by_cases w:N=X.key d j
    .rw [if_pos w,if_pos ⟨Nat.lt_succ_self j,w⟩,w,<- es];rfl
    .rw [if_neg w,if_neg (fun z=>w z.2)];have:=gA j q N;rw [if_neg (fun z=>w z.2)] at this;exact this
   .rw [if_neg z,gA j q N];have:(j < i/\N=X.key d j) ↔ (j < i+1/\N=X.key d j):=by constructor <;> (rintro ⟨u,v⟩; exact ⟨by omega,v⟩)
    by_cases w:j < i/\N=X.key d j
    .rw [if_pos w,if_pos (this.mp w)]
    .rw [if_neg w,if_neg (fun z=>w (this.mpr z))]
  .try dsimp only
   by_cases z:j=i
   .subst z;rw [if_pos rfl];exists ⟨s'.see b,?_⟩,ab.told (S.b j D) aA B3;unfold ä;rw [if_pos rfl]
   .rw [if_neg z];exists (gS j q).1,(gS j q).2.move S q D z BO
  .exact BO _ _ (gF c o e no) (no i D)
 .rintro σ2 G ⟨v,f',rfl,S,gA,gS,gF⟩;rw [vy] at gA;have gp:=gF _ _ an h.np;have R:=gF _ _ a7 (Z.nlst a7);have ah:=gF _ _ a5 (Z.nlst a5);have U:=gF _ _ M2.o h.nm;have aj:=gF _ _ M2.l (Z.nlst M2.l);rfl';exists p,d.dp,d.ll,d.bl,d.mp,d.el,d.pl,X.nd,b,X.sg,rfl,gp,R,aC,ap,fun el H4 ai a8 a2 F4 L4=>?_;have af:∀ {l:Addr} {xs:List V},G l=some (.lst xs)->l≠p:=fun {l xs} e z=>by rw [z,gp] at e; cases e
  have aq:∀ j,j < d.n->¬ O j p:=h.np;have ak:=S.nlst R
  have a4:=S.frame (O2:=fun c=>c=p\/c=d.el) (fun c o e ne=>F4 c o e (fun z=>ne (.inl z)) (fun z=>ne (.inr z))) (fun j c q w z=>by
   rcases z with z | z
   .exact aq j q (z ▸ w)
   .exact ak j q (z ▸ w)) (fun j q z=>by
   have:=(S.b j q).me;rcases z with z | z
   .rw [z,gp] at this;injection this with this;injection this with _ _ e;exact absurd (congrArg List.length e) (show ¬ (6=2) by decide)
   .rw [z,R] at this
    cases this) (fun t xs e=>by
   rcases e with (e | ⟨o,e⟩) | e
   .exact .inl (.inl (F4 _ _ e (fun z=>by rw [z,gp] at e; cases e) (fun z=>by rw [z,R] at e; cases e)))
   .exact .inl (.inr ⟨o,F4 _ _ e (fun z=>by rw [z,gp] at e; cases e) (fun z=>by rw [z,R] at e; cases e)⟩)
   .exact .inr e)
  have ao:d.bl≠d.el:=fun z=>by
   have e:=h.bl;rw [z,h.el] at e;injection e with e;injection e with e;have e0:=congrArg (fun l:List V=>l[0]?) e
   have r0:(refs d.bk d.n)[0]?=some (.ref (d.bk 0)):=by
    unfold refs;rw [cG,dS h.n1];rfl
   try dsimp only at e0
   rw [r0,cG] at e0
   cases hs:X.sg[0]? with
   | none=>rw [hs] at e0; cases e0
   | some c=>rw [hs] at e0; cases e0
  have al:ml≠d.el:=(yb L.el a6).symm;have a3:=F4 _ _ ah (af ah) ao;have am:=F4 _ _ U (Ne.symm ac) (fun z=>by rw [z,R] at U; cases U);have ad:=F4 _ _ aj (af aj) al
  have a0:∀ c o,H c=some o->∃ Y,H4 c=some Y:=fun c o e=>by
   by_cases zp:c=p
   .exists _,zp ▸ a8
   by_cases ze:c=d.el
   .rw [ze];exact L4
   have gc:∃ Y,G c=some Y:=by
    by_cases zm:c=d.mp
    .exists _,zm ▸ U
    by_cases zo:∀ j,j < d.n->¬ O j c
    .exists o,gF _ _ (B2 _ _ (S1 _ _ e) zm) zo
    .have:∃ j,j < d.n/\O j c:=Classical.byContradiction fun w=>zo fun j q w'=>w ⟨j,q,w'⟩;obtain ⟨j,q,w⟩:=this;obtain ⟨Y,J,_⟩:=(S.b j q).own c w;exists Y,J
   obtain ⟨Y,J⟩:=gc;exists Y,F4 _ _ J zp ze
  have ax:yj1 d.n d.kd f' (X.see d b).g:=fun j q N=>by
   rw [gA j q N];show _=if N=X.key d j then (X.g j N).see b else X.g j N;by_cases w:N=X.key d j
   .rw [if_pos ⟨q,w⟩,if_pos w]
   .rw [if_neg (fun z=>w z.2),if_neg w]
  rfl';exists p,d.dp,d.ll,d.bl,d.mp,el,d.pl,ndN X.nd b,sgN X.sg X.nd b,d.n,m,d.bk,d.dx,d.lk,d.dd,d.kd,d.ps,f',O,(X.see d b).g,rfl,a8,a3,a2,a4,ax,n6,by omega,h.np,fun pl sl f2 O2 H5 ar aD aF B5 av aw aE F5 L5=>?_
  have a1:∀ {l:Addr} {xs:List V},H4 l=some (.lst xs)->l≠p:=fun {l xs} e z=>by rw [z,a8] at e; cases e
  have n2:∀ j c,j < d.n->O2 j c->O j c\/H c=none:=fun j c q w=>by
   rcases aE j c q w with v | v
   .exact .inl v
   .refine .inr ?_
    cases e:H c with
    | none=>rfl
    | some o =>
     obtain ⟨Y,J⟩:=a0 c o e;rw [J] at v;cases v
  refine k ml el pl sl f2 O2 H5 ?_ ⟨ar,F5 _ _ a3 (a1 a3) (a4.nlst a3),F5 _ _ a2 (a1 a2) (a4.nlst a2),⟨F5 _ _ am (Ne.symm ac) h.nm,F5 _ _ ad (a1 ad) (a4.nlst ad)⟩,yog h.n1 n6 h.wok h.cok,aD,B5,av,aw,fun j q w=>?_,fun j q w=>?_,h.n1,n6⟩ n2 (fun c o e c1 c2 c3 no=>F5 _ _ (F4 _ _ (gF _ _ (B2 _ _ (S1 _ _ e) c2) no) c1 c3) c1 no) (fun c o e=>let ⟨Y,w⟩:=a0 c o e; L5 c Y w) (S1.free a6)
  .rcases ai with z | z
   .exact .inl z
   .refine .inr ?_
    cases e:H el with
    | none=>rfl
    | some o =>
     exfalso;by_cases zp:el=p
     .rw [zp,gp] at z; cases z
     by_cases zm:el=d.mp
     .rw [zm,U] at z; cases z
     by_cases zo:∀ j,j < d.n->¬ O j el
     .rw [gF _ _ (B2 _ _ (S1 _ _ e) zm) zo] at z; cases z
     .have:∃ j,j < d.n/\O j el:=Classical.byContradiction fun w=>zo fun j q w'=>w ⟨j,q,w'⟩;obtain ⟨j,q,w⟩:=this;obtain ⟨Y,J,_⟩:=(S.b j q).own el w;rw [J] at z;cases z
  .rcases n2 j p q w with v | v
   .exact h.np j q v
   .rw [hp] at v; cases v
  .rcases n2 j d.mp q w with v | v
   .exact h.nm j q v
   .rw [a9] at v; cases v
def jd {A:FA} {X:FX} {bs:List Int} {k:Nat} {b:Int} (h:bs[k]?=some b):X.run A (bs.take (k+1))=(X.run A (bs.take k)).see A b:=by
 rw [Ã h,yk6]
structure FGo (p:Addr) (A:FA) (O:Nat->Addr->Prop) (H H':Hp) (el:Addr) (O':Nat->Addr->Prop):Prop where
 he:el=A.el\/H el=none
 hO:∀ j c,j < A.n->O' j c->O j c\/H c=none
 fr:∀ c o,H c=some o->c≠p->c≠A.mp->c≠A.el->(∀ j,j < A.n->¬ O j c)->H' c=some o
 live:∀ c o,H c=some o->∃ o',H' c=some o'
def FGo.free {A:FA} {H H':Hp} {el c:Addr} (h:FGo p A O H H' el O') (hc:H' c=none):H c=none:=by
 cases e:H c with
 | none=>rfl
 | some o =>
  obtain ⟨a,w⟩:=h.live c o e;rw [hc] at w;cases w
def FGo.refl {A:FA} {H:Hp}:FGo p A O H H A.el O:=⟨.inl rfl,fun _ _ _ w=>.inl w,fun _ _ e _ _ _ _=>e,fun _ o e=>⟨o,e⟩⟩
theorem FGo.trans {A:FA} {O1:Nat->Addr->Prop} {H H1 H2:Hp} {ml el pl el2:Addr} {sl:Nat->Addr} (h:FGo p A O H H1 el O1) (k:FGo p (A.re ml el pl sl) O1 H1 H2 el2 O2):FGo p A O H H2 el2 O2:=by
 exists ?_,fun j c a w=>?_,fun c o e f b g d=>?_,fun c o e=>?_
 .rcases k.he with z | z
  .rcases h.he with y | y
   .exact .inl (z.trans y)
   .exact .inr (by rw [show el2=el from z]; exact y)
  .exact .inr (h.free z)
 .rcases k.hO j c a w with v | v
  .exact h.hO j c a v
  .exact .inr (h.free v)
 .refine k.fr c o (h.fr c o e f b g d) f b (fun z=>?_) (fun j a w=>?_)
  .rcases h.he with y | y
   .exact g (z.trans y)
   .rw [show c=el from z,y] at e;cases e
  .rcases h.hO j c a w with v | v
   .exact d j a v
   .rw [e] at v;cases v
 .obtain ⟨i,l⟩:=h.live c o e;exact k.live c i l
def FGo.same {A:FA} {H H1 H2:Hp} {el:Addr} (h:FGo p A O H H1 el O') (S:yv H1 H2):FGo p A O H H2 el O' :=
 ⟨h.he,h.hO,fun c o e f b a d=>S _ _ (h.fr c o e f b a d),fun c o e=>let ⟨o',w⟩:=h.live c o e; ⟨o',S _ _ w⟩⟩
def FGo.ahead {A:FA} {H H1 H2:Hp} {el:Addr} (S:yv H H1) (h:FGo p A O H1 H2 el O'):FGo p A O H H2 el O' :=
 ⟨h.he.imp id S.free,fun j c a w=>(h.hO j c a w).imp id S.free,fun c o e=>h.fr c o (S _ _ e),fun c o e=>h.live c o (S _ _ e)⟩
def FGo.kpa {A:FA} {X:FX} {f:Nat->List Int->Option Slt} {m:Nat} {H H':Hp} {el:Addr} (hf:uv K a H p A X f O m) (h:FGo p A O H H' el O'):KpA H H' A.el el:=fun c o e i k=>by
 exists ?_,h.fr c o e (fun z=>by rw [z,hf.me] at e; cases e; cases i) (fun z=>by rw [z,hf.mx.o] at e; cases e; cases i) k fun j l w=>?_
 .rcases h.he with z | z
  .rw [z];exact k
  .exact yb e z
 .obtain ⟨n,d,g⟩:=(hf.B.b j l).own c w;rw [e] at d;cases d;rw [i] at g;cases g
def yyo {g:Nat->Addr} {n:Nat} (h:1 <= n):(refs g n)[0]?=some (.ref (g 0)):=by
 unfold refs;rw [cG,dS h];rfl
structure ux (H:Hp) (t:Addr) (ts:List Int) (w:Nat):Prop where
 l:H t=some (.lst (ts.map V.int))
 s:Sgs ts
 z:ts.length <= w
def ux.same {H H':Hp} {t:Addr} {w:Nat} (h:ux H t ts w) (S:yv H H'):ux H' t ts w:=⟨S _ _ h.l,h.s,h.z⟩
def Ď (tt:Nat->List Int):Nat->List Int
 | 0=>[]
 | i+1=>Ď tt i++dec (tt i)
def fX (n:Nat) (kd:Nat->Fin 3) (ps:Nat->List Int) (pre:List Int) (ts:List Int) (k:Nat):FX:=((FX0 n kd).run (fa0 n ps) pre).run (fa0 n ps) ((dec ts).take k)
def jl (n:Nat) (kd:Nat->Fin 3) (ps:Nat->List Int) (pre:List Int) (ts:List Int) (k:Nat):Int:=yoz (fX n kd ps pre ts k).ws ((fX n kd ps pre ts k).cs (fa0 n ps))
def wb (ts:List Int) (k:Nat):Int:=((dec ts)[k]?).getD 0
def yll (ts:List Int) (k:Nat) (h:k < (dec ts).length):0 <= wb ts k/\wb ts k <= 1:=by
 unfold wb;rw [cC h];exact jg ts _ (dw h)
def yuf (H:Hp) (lx:V) (N w:Nat) (lt:Nat->Addr) (tt:Nat->List Int):Prop:=((lx=.non/\N=0)\/∃ ll,lx=.ref ll/\H ll=some (.lst (refs lt N)))/\∀ i,i < N->ux H (lt i) (tt i) w
theorem yuf.same {H H':Hp} {lx:V} {N w:Nat} {lt:Nat->Addr} {tt:Nat->List Int} (h:yuf H lx N w lt tt) (S:yv H H'):yuf H' lx N w lt tt :=
 ⟨h.1.imp id fun ⟨a,e,z⟩=>⟨a,e,S _ _ z⟩,fun i b=>(h.2 i b).same S⟩
structure vex (H:Hp) (L tx:Addr) (lx:V) (n:Nat) (lk:Nat->Addr) (kd:Nat->Fin 3) (tp:Nat->Addr) (ps:Nat->List Int) (ts:List Int) (N w:Nat) (lt:Nat->Addr) (tt:Nat->List Int):Prop where
 l:H L=some (.lst (refs lk n))
 n1:1 <= n
 n6:n <= 6
 r:xu H n lk kd tp ps
 t:ux H tx ts 1000
 lr:yuf H lx N w lt tt
 w1:w <= 1000
 N1:N <= 1000
 b:6+6 * (N * (9 * w+1))+6 * (9 * ts.length+1)+20 < 1000000
structure XOk (n:Nat) (X:FX):Prop where
 w:WOk n X.ws
 s:∀ i k,(X.g i k).ok
theorem XOk.cs {n:Nat} {X:FX} (h:XOk n X) (ps:Nat->List Int):COk n (X.cs (fa0 n ps)):=by
 exists by unfold FX.cs; rw [cA,da]; rfl,fun c a=>?_,fun c a=>?_
 .obtain ⟨j,_,rfl⟩:=cI.mp a;exact (yd4 (h.s _ _)).1
 .obtain ⟨j,_,rfl⟩:=cI.mp a;exact (yd4 (h.s _ _)).2
theorem XOk.see {n:Nat} {X:FX} (h:XOk n X) (n1:1 <= n) (n6:n <= 6) (ps:Nat->List Int) {b:Int} (b0:0 <= b) (b1:b <= 1):XOk n (X.see (fa0 n ps) b):=by
 exists yog n1 n6 h.w (h.cs ps),fun i k=>?_;show (if k=X.key (fa0 n ps) i then (X.g i k).see b else X.g i k).ok
 split
 .exact Slt.see_ok (h.s i k) b0 b1
 .exact h.s i k
theorem XOk.run {n:Nat} (n1:1 <= n) (n6:n <= 6) (ps:Nat->List Int):∀ (bs:List Int) {X:FX},XOk n X->yaz bs->XOk n (X.run (fa0 n ps) bs)
 | [],_,h,_=>h
 | b :: r,_,h,hb=>XOk.run n1 n6 ps r (h.see n1 n6 ps (hb b (by simp)).1 (hb b (by simp)).2) fun c a=>hb c (by simp [a])
def XOk.zero {n:Nat} (n1:1 <= n) (n6:n <= 6) (kd:Nat->Fin 3):XOk n (FX0 n kd):=⟨yzy n n1 n6,fun i _=>yoq (kd i)⟩
def yga {bs:List Int} (h:yaz bs) (k:Nat):yaz (bs.take k):=fun b a=>h b (dz a)
def vaj {n:Nat} (n1:1 <= n) (n6:n <= 6) {kd:Nat->Fin 3} {ps:Nat->List Int} {pre:List Int} (hp:yaz pre) (k:Nat):XOk n (fX n kd ps pre ts k):=by
 unfold fX;exact ((XOk.zero n1 n6 kd).run n1 n6 ps pre hp).run n1 n6 ps _ (yga (jg ts) k)
def Ŗ {n:Nat} (n1:1 <= n) (n6:n <= 6) {kd:Nat->Fin 3} {ps:Nat->List Int} {pre:List Int} (hp:yaz pre) (k:Nat):Ch (jl n kd ps pre ts k):=yin n1 (vaj (kd:=kd) (ps:=ps) (ts:=ts) n1 n6 hp k).w ((vaj (kd:=kd) (ps:=ps) (ts:=ts) n1 n6 hp k).cs ps)
structure TwB (K:W.Frag) (a:Ads) (H G:Hp) (n:Nat) (bk dx lk dd:Nat->Addr) (kd:Nat->Fin 3) (ps:Nat->List Int) (f:Nat->List Int->Option Slt) (O:Nat->Addr->Prop) (m:Nat):Prop where
 B:Bks K a G n bk dx lk dd kd ps f O m
 oO:∀ j c,j < n->O j c->H c=none
 oB:∀ j,j < n->H (bk j)=none
def TwB.zero {H G:Hp} {bk dx lk dd:Nat->Addr} {kd:Nat->Fin 3} {ps:Nat->List Int} {f:Nat->List Int->Option Slt} {m:Nat}:TwB K a H G 0 bk dx lk dd kd ps f O m :=
 ⟨⟨fun i b=>absurd b (cY i),fun i b=>absurd b (cY i),fun i _ _ b=>absurd b (cY i),fun i _ b=>absurd b (cY i)⟩,fun i _ b=>absurd b (cY i),fun i b=>absurd b (cY i)⟩
def TwB.next {H G G2:Hp} {n m:Nat} {bk dx lk dd:Nat->Addr} {kd:Nat->Fin 3} {ps:Nat->List Int} {f:Nat->List Int->Option Slt} (h:TwB K a H G n bk dx lk dd kd ps f O m) (hl:u9 K G (lk n) (.str (kdS (kd n))) (ps n))
  (S:yv H G) {q dq d D:Addr} {xs ys:List V} {f':List Int->Option Slt} {O':Addr->Prop} (hq:G q=none) (hO:∀ c,O' c->G c=none) (S2:yv G G2) (hb:ψ a G2 q dq (lk n) d (kd n) f' O' m) (hD:G D=some (.lst xs)) :
  TwB K a H (upd G2 D (.lst ys)) (n+1) (upN bk n q) (upN dx n dq) lk (upN dd n d) kd ps (upN f n f') (upN O n O') m:=by
 obtain ⟨s,x,v⟩:=h;have k:∀ j c,j < n->O j c->∃ o,G c=some o:=fun j c g w=>let ⟨o,l,_⟩:=(s.b j g).own c w; ⟨o,l⟩
 have M:=(s.same S2).snoc (hl.same S2) hb (fun j c g w z=>by
  obtain ⟨o,l⟩:=k j c g w;rw [hO c z] at l
  cases l) (fun j g w=>by
  obtain ⟨o,l⟩:=k j q g w;rw [hq] at l
  cases l) (fun j g z=>by
  have e:=(s.b j g).me;rw [hO _ z] at e;cases e)
 have i:=S2 _ _ hD;have u:=M.nlst i;have r:∀ c o,G2 c=some o->c≠D->upd G2 D (.lst ys) c=some o:=fun c o e p=>yf p e;exists M.frame (O2:=fun c=>c=D) (fun c o e p=>r c o e p) (fun j c g w z=>u j g (z ▸ w)) (fun j g z=>?_) (fun t xs e=>?_),fun j c g w=>?_,fun j g=>?_
 .have e:=(M.b j g).me;rw [z,i] at e;cases e
 .rcases e with (e | ⟨o,e⟩) | e
  .exact .inl (.inl (r _ _ e (fun z=>by rw [z,i] at e; cases e)))
  .exact .inl (.inr ⟨o,r _ _ e (fun z=>by rw [z,i] at e; cases e)⟩)
  .exact .inr e
 .by_cases z:j=n
  .rw [z,w9] at w;exact S.free (hO c w)
  .rw [wx (by omega)] at w;exact x j c (by omega) w
 .by_cases z:j=n
  .rw [z,w9];exact S.free hq
  .rw [wx (by omega)];exact v j (by omega)
#synth yos ["self","made"] ["self"] ys8
inductive ydi (K:W.Frag) (a:Ads) (vs:List V) (H:Hp) (Q:VK) (E':XK):Prop
 | mk (p:Addr) (A:FA) (X:FX) (f:Nat->List Int->Option Slt) (O:Nat->Addr->Prop) (m:Nat) (_:vs=[.ref p]) (_:uv K a H p A X f O m) (_:yuh H A) (_:m+20 < 1000000) (_:∀ (q:Addr) (A':FA) (f':Nat->List Int->Option Slt) (O':Nat->Addr->Prop) (H':Hp),H q=none->uv K a H' q A' X f' O' (m+A.n)->yuh H' A'->A'.n=A.n->A'.kd=A.kd->A'.ps=A.ps->A'.lk=A.lk->(∀ j c,j < A.n->O' j c->H c=none)->(∀ j,j < A.n->H (A'.bk j)=none)->H A'.mp=none->(∀ l,(l=A'.bl\/l=A'.el\/l=A'.ml\/l=A'.pl\/l=A'.ll)->H l=none)->yv H H'->Q (.ref q) H')
def yzq:vk P w K mg Γ CX0 8 a.Jq a.Jr ["self"] (ydi K a):=by
 exists T.Gg.F.ok,yos,hr;obtain ⟨p,u,X,f,O,m,rfl,h,⟨aD,aJ,tp,a1⟩,hm,k⟩:=h;have hp:=h.me;have n1:=h.n1;have n6:=h.n6;refine yh (yo (i:=1) yos.nd rfl (Or.inl rfl) (uk T.Qd (yjd T) hr.m rfl T.Qc T.D1.B .nil vh (pa1 (ym (pv 0) rfl)))) ?_;refine yh (yy (pv 1) (wn (js:=[]) (ys:=[]) rfl (wv (ym (pv 0) rfl)) (fun C s2 H2 fp=>(vo (pv 0) T.C8 T.Ga.m (yw7 T) hr.m T.Ga.B .nil vx)) rfl rfl (hyc:=yx) (hrel:=yx)) rfl) ?_;refine yh (yy (pv 1) (vo (ym (pv 0) rfl) T.Ej T.Gd.m (ywn T) hr.m T.Gd.B .nil vx) rfl) ?_;refine yh (yy (pv 1) (pcT vt T.Ad (pa1 (ym (pv 0) rfl))) rfl) ?_;refine yh (yy (pv 1) (ym (pv 0) rfl) rfl) ?_;refine yh (yt (vo (pv 1) T.Ae T.Cm.m (yi2 T) hr.m T.Cm.B .nil vx)) ?_;exists 1,1,yc (yp (pv 1));intro q dq Y aj aP;have S0:yv H (upd (upd H dq (.own q)) q (.ins a.A2 dq [])):=fun b o e=>by rw [yk (yb e Y),yk (yb e aj)]; exact e
 exists q,dq,.ref u.ll,rfl,ya,.inr ⟨u.ll,u.n,u.lk,u.kd,tp,u.ps,rfl,S0 _ _ aD,n1,n6,a1.same S0,fun d f1 O1 H1 N1 B1=>⟨rfl,?_⟩⟩;obtain ⟨ac,e1,e2,e3,e4,aM,aN,aR,aW,U,aS,aA⟩:=N1;have S1:yv H H1:=Ê Y aj B1;have h1:=h.same S1;have R:H1 q=some (.ins a.A2 d.dp (uy (.ref d.ll) (.ref d.bl) (.ref d.mp) (.ref d.el) (.int 0) (.ref d.pl))):=ac.me;have ay:=h1.me;have aV:p≠q:=yb hp Y;rfl';exists u.bl,rfl,⟨_,SqL.of h1.bl⟩,fun D hD=>?_;refine u5 (K:=K) (xs:=refs u.bk u.n) (fun i G=>∃ (bk dx dd:Nat->Addr) (f2:Nat->List Int->Option Slt) (O2:Nat->Addr->Prop),G D=some (.lst (refs bk i))/\TwB K a H1 G i bk dx u.lk dd u.kd u.ps f2 O2 m/\(∀ j,j < i->f2 j=f j)/\yv H1 G)
  ⟨fun _=>0,fun _=>0,fun _=>0,fun _ _=>none,fun _ _=>False,ya,TwB.zero,fun j x=>absurd x (cY j),y8 hD⟩ (fun i G _ z=>?_) (fun i y G hy hi z=>?_) (fun G z=>?_)
 .obtain ⟨_,_,_,_,_,_,_,_,N⟩:=z;exact SqL.of (N _ _ h1.bl)
 .obtain ⟨bk,dx,dd,f2,O2,gD,S,gf,N⟩:=z;obtain ⟨rfl,ap⟩:=zi hy;have an:=(h1.B.b i ap).same N;have aF:=an.me;rfl';exists u.bk i,u.dx i,u.lk i,u.dd i,u.kd i,f i,O i,m,rfl,an,by omega,fun q2 aO d2 O3 G2 ao aE aC S2=>?_
  refine xm (n:=(refs u.bk u.n).length) (S2 _ _ gD) (vd (by rw [vy]; omega)) hi ?_;exists _,_,_,_,_,?_,S.next ((h1.B.look i ap).same N) N ao aC S2 aE gD,fun j x=>?_,fun b o e=>yf (yb e hD) (S2 _ _ (N b o e))
  .rw [ya,zv,w9]
   congr 3
   exact uz fun j x=>(wx x).symm
  .by_cases z:j=i
   .rw [z,w9]
   .rw [wx (by omega)];exact gf j (by omega)
 obtain ⟨bk,dx,dd,f2,O2,gD,S,gf,N⟩:=z;rw [vy] at gD S gf;have ah:=N _ _ R;have aH:=N _ _ ay;rfl';have al:D≠q:=fun z=>by rw [z,R] at hD; cases hD
 have BA:But q G (upd G q (.ins a.A2 d.dp (uy (.ref d.ll) (.ref D) (.ref d.mp) (.ref d.el) (.int 0) (.ref d.pl)))):=But.upd;have W:upd G q (.ins a.A2 d.dp (uy (.ref d.ll) (.ref D) (.ref d.mp) (.ref d.el) (.int 0) (.ref d.pl))) q=some (.ins a.A2 d.dp (uy (.ref d.ll) (.ref D) (.ref d.mp) (.ref d.el) (.int 0) (.ref d.pl))):=ya;generalize upd G q (.ins a.A2 d.dp (uy (.ref d.ll) (.ref D) (.ref d.mp) (.ref d.el) (.int 0) (.ref d.pl)))=HA at BA W ⊢;have SA:yv H HA:=fun b o e=>BA _ _ (N _ _ (S1 _ _ e)) (yb e Y);have hA:=h.same SA;have aU:=hA.me;have aG:=hA.mx.o;rfl';exists u.mp,u.mx,u.ml,X.ws,rfl,hA.mx,by rw [h.wok.len]; exact n1,by rw [h.wok.len]; exact n6,fun I aw l3 HB J a0 MB SB=>?_
 have aL:=SB _ _ W;rfl';have a7:I≠q:=(yb W J).symm;have ak:l3≠q:=(yb W a0).symm;have BC:But q HB (upd HB q (.ins a.A2 d.dp (uy (.ref d.ll) (.ref D) (.ref I) (.ref d.el) (.int 0) (.ref d.pl)))):=But.upd;have a8:upd HB q (.ins a.A2 d.dp (uy (.ref d.ll) (.ref D) (.ref I) (.ref d.el) (.int 0) (.ref d.pl))) q=some (.ins a.A2 d.dp (uy (.ref d.ll) (.ref D) (.ref I) (.ref d.el) (.int 0) (.ref d.pl))):=ya;generalize upd HB q (.ins a.A2 d.dp (uy (.ref d.ll) (.ref D) (.ref I) (.ref d.el) (.int 0) (.ref d.pl)))=HC at BC a8 ⊢;have SC:yv H HC:=fun b o e=>BC _ _ (SB _ _ (SA _ _ e)) (yb e Y);have aT:=SC _ _ hp;rfl';refine zg (SqL.of (SC _ _ h.el)) fun r hr0=>?_;exists hr0,HD,SD,er;have aQ:=SD _ _ a8;rfl';have ai:r≠q:=(yb a8 hr0).symm;have BE:But q HD (upd HD q (.ins a.A2 d.dp (uy (.ref d.ll) (.ref D) (.ref I) (.ref r) (.int 0) (.ref d.pl)))):=But.upd;have au:upd HD q (.ins a.A2 d.dp (uy (.ref d.ll) (.ref D) (.ref I) (.ref r) (.int 0) (.ref d.pl))) q=some (.ins a.A2 d.dp (uy (.ref d.ll) (.ref D) (.ref I) (.ref r) (.int 0) (.ref d.pl))):=ya;generalize upd HD q (.ins a.A2 d.dp (uy (.ref d.ll) (.ref D) (.ref I) (.ref r) (.int 0) (.ref d.pl)))=HE at BE au ⊢;have SE:yv H HE:=fun b o e=>BE _ _ (SD _ _ (SC _ _ e)) (yb e Y);have aK:=SE _ _ hp;rfl';have BF:But q HE (upd HE q (.ins a.A2 d.dp (uy (.ref d.ll) (.ref D) (.ref I) (.ref r) (.int X.nd) (.ref d.pl)))):=But.upd;have a6:upd HE q (.ins a.A2 d.dp (uy (.ref d.ll) (.ref D) (.ref I) (.ref r) (.int X.nd) (.ref d.pl))) q=some (.ins a.A2 d.dp (uy (.ref d.ll) (.ref D) (.ref I) (.ref r) (.int X.nd) (.ref d.pl))):=ya;generalize upd HE q (.ins a.A2 d.dp (uy (.ref d.ll) (.ref D) (.ref I) (.ref r) (.int X.nd) (.ref d.pl)))=HF at BF a6 ⊢;have ad:But q HD HF:=BE.trans BF;have aa:But q HB HF:=(BC.trans (But.of SD)).trans ad;have M:But q G HF:=(BA.trans (But.of SB)).trans aa;have SF:yv H HF:=fun b o e=>M _ _ (N _ _ (S1 _ _ e)) (yb e Y);have a5:=M _ _ gD al;have a2:=ad _ _ er ai;have aq:=aa _ _ MB.o a7;have ae:=aa _ _ MB.l ak
 have a9:∀ j,j < u.n->¬ O2 j q:=fun j x w=>by
  have e:=S.oO j q x w;rw [R] at e;cases e
 have af:Bks K a HF u.n bk dx u.lk dd u.kd u.ps f2 O2 m:=S.B.frame (O2:=fun c=>c=q) (fun c o e ne=>M c o e ne) (fun j c x w z=>a9 j x (z ▸ w)) (fun j x z=>by
  have e:=S.oB j x;rw [z,R] at e
  cases e) (fun t xs e=>by
  rcases e with (e | ⟨o,e⟩) | e
  .exact .inl (.inl (M _ _ e (fun z=>by rw [z,ah] at e; cases e)))
  .exact .inl (.inr ⟨o,M _ _ e (fun z=>by rw [z,ah] at e; cases e)⟩)
  .exact .inr e)
 have aB:yj1 u.n u.kd f2 X.g:=fun i hi k=>by
  rw [gf i hi];exact h.ag i hi k
 rfl';exists q,d.dp,d.ll,D,I,r,d.pl,X.nd,X.sg,u.n,m,bk,dx,u.lk,dd,u.kd,u.ps,f2,O2,X.g,rfl,a6,a5,a2,af,aB,n6,by omega,a9,fun pl sl f' O' H' av ar ab B' as ax a4 F' L'=>?_
 have a3:∀ j c,j < u.n->O2 j c->∃ o,G c=some o:=fun j c x w=>let ⟨o,ho,_⟩:=(S.B.b j x).own c w; ⟨o,ho⟩
 have am:∀ j,j < u.n->¬ O2 j I:=fun j x w=>by
  obtain ⟨o,ho⟩:=a3 j I x w;rw [BA _ _ ho a7] at J;cases J
 have nl:=fun {l:Addr} {xs:List V} (e:HF l=some (.lst xs))=>af.nlst e;have L:d.ll≠q:=fun z=>by rw [z,R] at U; cases U
 have Z:=M _ _ (N _ _ U) L
 have SH:yv H H':=fun c o e=>F' c o (SF c o e) (yb e Y) fun j x w=>by
  have e2:=S.oO j c x w;rw [S1 _ _ e] at e2;cases e2
 rfl';refine k q ⟨d.dp,d.ll,D,I,aw,l3,r,pl,u.n,bk,dx,u.lk,dd,sl,u.kd,u.ps⟩ f' O' H' Y ⟨av,F' _ _ a5 al (nl a5),F' _ _ a2 ai (nl a2),⟨F' _ _ aq a7 am,F' _ _ ae ak (nl ae)⟩,h.wok,ar,B',as,ax,fun j x w=>?_,fun j x w=>?_,n1,n6⟩ ⟨F' _ _ Z L (nl Z),fun z=>?_,tp,a1.same SH⟩ rfl rfl rfl rfl (fun j c x w=>?_) (fun j x=>S1.free (S.oB j x)) (SA.free J) (fun l hl=>?_) SH
 .rcases a4 j q x w with v | v
  .exact a9 j x v
  .rw [a6] at v;cases v
 .rcases a4 j I x w with v | v
  .exact am j x v
  .rw [aq] at v;cases v
 .have e:=BC _ _ (SB _ _ (BA _ _ (N _ _ U) L)) L;rw [show d.ll=r from z,hr0] at e;cases e
 .rcases a4 j c x w with v | v
  .exact S1.free (S.oO j c x v)
  .exact SF.free v
 .rcases hl with z | z | z | z | z
  .rw [z];exact S1.free hD
  .rw [z];exact SC.free hr0
  .rw [z];exact SA.free a0
  .rw [z];exact SF.free ab
  .rw [z];exact S0.free aA
#synth yv8 ["sign"] ys7
inductive yel (K:W.Frag) (vs:List V) (H:Hp) (Q:VK) (E':XK):Prop
 | mk (s:Int) (_:vs=[.int s]) (_:∀ r H',H r=none->H' r=some (.lst ((b8 s).map V.int))->yv H H'->Q (.ref r) H')
def yu3:vk P w K mg Γ CX0 1 a.Js a.Jt ["sign"] (yel K):=by
 exists T.N0.F.ok,yv8,r;obtain ⟨p,rfl,k⟩:=h;exists 1,0,yc (yp (wn (js:=[0]) (ys:=["sign"]) rfl (ydx (yb6 rfl T.Hc)) (fun C u g t=>(yn wa (yn y0 (pv 1) (pv 0)) yg)) rfl rfl (hyc:=(all_cons rfl yx)) (hrel:=(all_cons rfl yx))));exists a.Bm,rfl,⟨_,T.Ct H⟩,fun D d=>?_;refine Ģ (wV p) (T.Ct H) d (fun i y g j f b=>?_) (fun g f b=>?_)
 .obtain ⟨c,m,rfl,o⟩:∃ c,0 < c/\y=V.int c/\c <= 128:=by
   have l:=cR j;simp only [cT,List.not_mem_nil,or_false] at l;rcases l with rfl | rfl | rfl | rfl | rfl | rfl | rfl | rfl <;> exact ⟨_,by decide,rfl,by decide⟩
  rfl';exact Mp.done d (by show 8 < sizeLine; decide) j f b rfl
 .exact k D g d b f
#synth yjb ["text","bits","sign"] ["text"] ysj
inductive yv6 (K:W.Frag) (vs:List V) (H:Hp) (Q:VK) (E':XK):Prop
 | mk (t:Addr) (ns:List Int) (_:vs=[.ref t]) (_:H t=some (.lst (ns.map V.int))) (_:Sgs ns) (_:ns.length <= 1000) (_:∀ r H',H r=none->H' r=some (.lst ((dec ns).map V.int))->yv H H'->Q (.ref r) H')
def ymv:vk P w K mg Γ CX0 5 a.Ju a.Jv ["text"] (yv6 K):=by
 exists T.Gh.F.ok,yjb,S;obtain ⟨t,f,rfl,R,U,hz,k⟩:=h;exists 1,2,ye (yo (i:=1) yjb.nd rfl (Or.inl rfl) (xh ua)) (ye (ur PassesOwn.never rfl (wv (xr (yfj T) S.m T.Es vh (pa1 (pv 0)))) (wl (i:=2) yjb.nd rfl (Or.inl rfl)) (ye (yt (Č PySem.F.plainAttrs_list PySem.F.slot_list_append PySem.F.type_list_append xg (pv 1) (pa1 yg))) (yc (yt (Č PySem.F.plainAttrs_list PySem.F.slot_list_extend PySem.F.type_list_extend yf5 (pv 1) (pa1 (xw (yu3 T) S.m T.N0 (pa1 (pv 2))))))))) (ye (yt (Č PySem.F.plainAttrs_list PySem.F.slot_list_append PySem.F.type_list_append xg (pv 1) (pa1 yg))) (yc (yp (pv 1)))));exists by walk_at "len",fun r hr0=>?_
 exists hr0,H1,S1,hr1;rfl';exists .ref t,_,rfl,.lst (S1 _ _ R),.inr ⟨f.map V.int,η (S1 _ _ R) U hz,fun c H2 n j O=>?_⟩;have D:=S1.trans O;refine ⟨c,rfl,⟨_,SqL.of j⟩,zf (K:=K) (a:=c) (xs:=f.map V.int) (fun i σ2 G=>∃ v,σ2=[some (.ref t),some (.ref r),v]/\G r=some (.lst ((yav (f.take i)).map V.int))/\G c=some (.lst (f.map V.int))/\yv H G)
  ⟨_,rfl,O _ _ hr1,j,D⟩ (by rintro i σ2 G _ ⟨_,_,_,z,_⟩; exact SqL.of z) ?_ ?_⟩
 .rintro i y σ2 G hi ⟨v,rfl,d,u,J⟩;obtain ⟨z,rfl,X,I,Z⟩:=jm hi;have p:c≠r:=fun e=>by rw [e,hr1] at n; cases n
  have B:(List.map V.int (yav (f.take i))).length <= 9000:=by rw [cA,jb,cX]; omega
  rfl';refine Ì d ?_;rfl';refine xy d (vd (by omega)) ?_;have x:yv H (upd G r (.lst (List.map V.int (yav (f.take i))++[V.int 1]))):=fun b o e=>yf (yb e hr0) (J b o e);have l:upd G r (.lst (List.map V.int (yav (f.take i))++[V.int 1])) c=some (.lst (f.map V.int)):=yf p u;have g:upd G r (.lst (List.map V.int (yav (f.take i))++[V.int 1])) r=some (.lst (List.map V.int (yav (f.take i)++[1]))):=by rw [ya,cM]; rfl
  generalize upd G r (.lst (List.map V.int (yav (f.take i))++[V.int 1]))=G1 at x l g ⊢;rfl';refine Ì g ?_;rfl';exists z,rfl,fun q G2 a0 C N=>?_;rfl';have L:=N _ _ g;exists r,q,_,_,rfl,rfl,L,C,Æ (by rw [cA,cA,cF,yn1]; rw [cA] at B; show _+1+8 <= _; omega),?_;rfl';exists _,rfl,?_,?_,fun b o e=>yf (yb e hr0) (N _ _ (x b o e))
  .rw [ya,Ã I,Ű,yl4,du];rfl
  .exact yf p (N _ _ l)
 .rintro σ2 G ⟨v,rfl,d,u,J⟩;rw [cA,dN] at d;rfl';refine Ì d ?_;rfl';refine xy d (vd (by rw [cA,jb]; omega)) ?_;rfl';refine k r _ hr0 ?_ fun b o e=>yf (yb e hr0) (J b o e);rw [ya,ymd,cM];rfl
#synth yjl ["number","size","places"] ["number","size"] yto
inductive yep  (vs:List V) (H:Hp) (Q:VK) (E':XK):Prop
 | mk (n:Int) (k:Nat) (_:vs=[.int n,.int k]) (_:k <= 100000) (_:∀ t H',H t=none->H' t=some (.lst ((wr k n).map V.int))->yv H H'->Q (.ref t) H')
def yxx:vk P w K mg Γ CX0 1 a.Jw a.Jx ["number","size"] yep:=by
 exists T.N2.F.ok,yjl,B;obtain ⟨n,d,rfl,C,k⟩:=h;exists 2,1,ye (yo (i:=2) yjl.nd rfl (Or.inl rfl) (xh ua)) (ye (zj PassesOwn.never (yu ĝ (pcB yr T.Ac (pa1 (pv 2))) (pv 1) (yz _)) (ye (yt (Č PySem.F.plainAttrs_list PySem.F.slot_list_append PySem.F.type_list_append xg (pv 2) (pa1 (yn wa (pv 0) yg)))) (yc (yo (i:=0) yjl.nd rfl (Or.inl rfl) (yn y0 (pv 0) yg))))) (ye (yt (yjn PySem.F.plainAttrs_list PySem.F.slot_list_reverse PySem.F.type_list_reverse ģ (pv 2))) (yc (yp (pv 2)))));exists by walk_at "len",fun t j=>?_
 rfl';exists fun m σ' r=>∃ (f:Int) (c:List Int),σ'=[some (.int f),some (.int d),some (.ref t)]/\r t=some (.lst (c.map V.int))/\yv H r/\c++lo (d - c.length) f=lo d n/\c.length <= d/\m=d - c.length,⟨_,n,[],rfl,ya,y8 j,rfl,cV _,rfl⟩,?_;rintro m σ2 G ⟨f,c,rfl,g,u,l,D,rfl⟩;rfl';refine ue (SqL.of g) ?_;rw [cA];rfl';refine uu (fun y=>?_) (fun y=>?_)
 .refine yam ?_;rfl';refine Ì g ?_;rfl';refine xy g (by rw [cA]; exact vd (by omega)) ?_;rfl';exists _,?_,f / 256,c++[f % 256],rfl,(ya.trans (by rw [yks])),fun b o e=>?_,?_,?_,rfl
  .rw [cF];show d - (c.length+1) < d - c.length;omega
  .rw [yk (yb e j)];exact u b o e
  .have p:d - c.length=d - (c++[f % 256]).length+1:=by
    rw [cF];show d - c.length=d - (c.length+1)+1;omega
   rw [p] at l;rw [<- l,du];rfl
  .rw [cF];show c.length+1 <= d;omega
 .rfl';have p:d - c.length=0:=by omega
  rw [p] at l;have v:c=lo d n:=by rw [<- l]; simp [lo]
  refine Ì g ?_;refine ű g ?_;rfl';refine k t _ j ?_ fun b o e=>?_
  .rw [ya,yqf,v];rfl
  .rw [yk (yb e j)];exact u b o e
#synth yzw ["low","unit"] yts
inductive ė  (vs:List V) (H:Hp) (Q:VK) (E':XK):Prop
 | mk (l e:Int) (_:vs=[.int l,.int e]) (_:0 < e) (_:e < 2 ^ 63) (_:Q (.int (blk l e)) H)
def yoo:vk P w K mg Γ CX0 1 a.Jy a.Jz ["low","unit"] ė:=by
 exists T.Gi.F.ok,yzw,g;obtain ⟨l,e,rfl,f,i,k⟩:=h;exists 2,0,yc (yp (yn y0 (yn u7 (yn vj (pv 0) (pv 1)) yg) (pv 1)));exact k
#synth yw6 ["self"] yth
inductive yo4 (C:Addr) (vs:List V) (H:Hp) (Q:VK) (E':XK):Prop
 | mk (p dx:Addr) (_:vs=[.ref p]) (_:H p=some (.ins C dx [])) (_:∀ H',H' p=some (.ins C dx (z9 s0))->But p H H'->Q .non H')
def ymx:vk P w K mg Γ CX0 1 a.Fj a.K1 ["self"] (yo4 a.A4):=by
 exists T.Di.F.ok,yw6,j;obtain ⟨p,c,rfl,f,k⟩:=h;exists 1,0,ye (yy (pv 0) yg rfl) (ye (yy (pv 0) (ve rfl T.E8) rfl) (yc (yy (pv 0) (ve rfl T.Ey) rfl)));exists p,_,c,_,rfl,f,T.Ah,T.Bt,by show 0 < 1000; decide,?_
 rfl';exists p,_,c,_,rfl,ya,T.Ah,T.At,by show 1 < 1000; decide,?_
 rfl';exists p,_,c,_,rfl,ya,T.Ah,T.B9,by show 2 < 1000; decide,?_
 have e:ji "size" (.int 5) (ji "width" (.int 1099511627776) (ji "low" (.int 0) []))=z9 s0:=by
  rw [wo,vi nLW wo,vi nLS (vi nWS wo)];rfl
 refine k _ (ya.trans (congrArg (fun l=>some (HO.ins a.A4 c l)) e)) fun b o h n=>?_;rw [yk n,yk n,yk n];exact h
#synth yu8 ["self","chance"] ysd
inductive yyl (C:Addr) (vs:List V) (H:Hp) (Q:VK) (E':XK):Prop
 | mk (p dx:Addr) (x:Sn) (c:Int) (_:vs=[.ref p,.int c]) (_:H p=some (.ins C dx (z9 x))) (_:Ch c) (_:Q (.int (cut x.2.1 c)) H)
def yof:vk P w K mg Γ CX0 1 a.K2 a.K3 ["self","chance"] (yyl a.A4):=by
 exists T.Dj.F.ok,yu8,l;obtain ⟨p,d,x,c,rfl,j,⟨i,g⟩,k⟩:=h;exists 2,0,yc (yp (yn y0 (yn wu (ym (pv 0) rfl) (pv 1)) (ve rfl T.Cq)));exact k
#synth yoe ["self","chance","bit","cut"] ["self","chance","bit"] ytc
inductive yhi (K:W.Frag) (C Nc Nb:Addr) (vs:List V) (H:Hp) (Q:VK) (E:XK):Prop
 | mk (p dx:Addr) (x:Sn) (vc vb:V) (n m:String) (_:vs=[.ref p,vc,vb]) (_:H p=some (.ins C dx (z9 x))) (_:Ok x) (_:xo K H vc (.type n)) (_:xo K H vb (.type m)) (_:(chV vc=false->E (.ref Nc) none H)) (_:(chV vc=true->Þ vb=false->E (.ref Nb) none H)) (_:∀ c b:Int,vc=.int c->vb=.int b->Ch c->0 <= b->b <= 1->∀ H',H' p=some (.ins C dx (z9 (nar x c b)))->But p H H'->Q .non H')
def yn4:vk P w K mg Γ (CXe P w) 4 a.K4 a.K5 ["self","chance","bit"] (yhi K a.A4 a.D8 a.C0):=by
 exists T.Dk.F.okE,yoe,v;obtain ⟨p,g,x,G,D,n,m,rfl,I,J,tc,U,k1,k2,k⟩:=h;exists _,(ye (yt (xr (ysi T) v.m T.Nr y7 (pa1 (pv 1)))) (ye (yt (xr (Ċ T) v.m T.Cj y7 (pa1 (pv 2)))) (ye (yo (i:=3) yoe.nd rfl (Or.inl rfl) (xf (pv 0) T.Ah T.Dj.m (yof T) v.m T.Dj.B .nil vx (pa1 (pv 1)))) (ye (jr (wd (yu xz (pv 2) yg (yz _)) (yc (yy (pv 0) (pv 3) rfl)) (ye (yy (pv 0) (yn vj (ym (pv 0) rfl) (pv 3)) rfl) (yc (yy (pv 0) (yn u7 (ym (pv 0) rfl) (pv 3)) rfl))))) (yc (PS.nox (zj PassesOwn.never (yu ĝ (ym (pv 0) rfl) (ve rfl T.E9) (yz _)) (ye (yy (pv 0) (yn wu (ym (pv 0) rfl) yg) rfl) (ye (yy (pv 0) (yn wu (ym (pv 0) rfl) yg) rfl) (yc (yy (pv 0) (yn vj (ym (pv 0) rfl) yg) rfl))))))))))),?_;exists 3,1;have l:=J.w0;have o:=J.w1;rfl';exists G,n,rfl,tc,fun f=>?_,k1;rfl';exists D,m,rfl,U,fun u=>?_,k2 f;obtain ⟨c,rfl,L,Y⟩:=yb5 f;obtain ⟨b,rfl,W,b1⟩:=ycp u;have j:Ch c:=⟨L,Y⟩;have k:=k c b rfl rfl j W b1;rfl';exists p,g,_,rfl,I,lkN _ (by right) (by right) (by right),?_;rfl';exists p,g,x,c,rfl,I,j,?_;rfl';obtain ⟨O,a2,a3⟩:=yan l o j;refine yju (fun σ' e=>∃ y:Sn,σ'=[some (.ref p),some (.int c),some (.int b),some (.int (cut x.2.1 c))]/\e p=some (.ins a.A4 g (z9 y))/\8388608 <= y.2.1/\y.2.1 <= 1099511627776/\ren y.1 y.2.1 y.2.2=nar x c b/\But p H e) ?_ ?_
 .rfl';refine uu (fun d=>?_) (fun d=>?_)
  .rfl';exists _,rfl,ya,O,Int.le_of_lt a3,?_,But.upd;unfold nar
   (rw [if_pos d]) <;> rfl
  .rfl';exists _,rfl,ya,a2,?_,?_,But.upd.trans But.upd
   .show x.2.1 - cut x.2.1 c <= _;omega
   .unfold nar
    (rw [if_neg d]) <;> rfl
 .rintro σ' e ⟨y,rfl,r,N,Z,y3,S⟩;rfl';exists fun m σ' e=>∃ y:Sn,σ'=[some (.ref p),some (.int c),some (.int b),some (.int (cut x.2.1 c))]/\e p=some (.ins a.A4 g (z9 y))/\8388608 <= y.2.1/\y.2.1 <= 1099511627776/\ren y.1 y.2.1 y.2.2=nar x c b/\But p H e/\m=(4294967296 - y.2.1).toNat,⟨_,y,rfl,r,N,Z,y3,S,rfl⟩,?_;rintro m σ2 H2 ⟨z,rfl,hz,M,z2,q,C,rfl⟩;rfl';refine uu (fun d=>?_) (fun d=>?_)
  .refine yam ?_;rfl';exists _,?_,(z.1 * 256,z.2.1 * 256,z.2.2+1),rfl,ya,?_,?_,(yj8 d M).trans q,((C.trans But.upd).trans But.upd).trans But.upd,rfl
   .show (4294967296 - z.2.1 * 256).toNat < (4294967296 - z.2.1).toNat;omega
   .show 8388608 <= z.2.1 * 256;omega
   .show z.2.1 * 256 <= 1099511627776;omega
  .rw [yqc d] at q;refine k _ ?_ C;rw [<- q];exact hz
#synth yxv ["self","unit"] yss
inductive ylg (C:Addr) (vs:List V) (H:Hp) (Q:VK) (E':XK):Prop
 | mk (p dx:Addr) (x:Sn) (j:Nat) (_:vs=[.ref p,.int (pw j)]) (_:H p=some (.ins C dx (z9 x))) (_:j <= 6) (_:Q (.bl (decide (yfs x.1 x.2.1 j))) H)
def ywx:vk P w K mg Γ CX0 2 a.K6 a.K7 ["self","unit"] (ylg a.A4):=by
 exists T.Gj.F.ok,yxv,e;obtain ⟨p,d,x,j,rfl,l,g,k⟩:=h;exists _,(yc (yp (x4 zq (yn wu (yn vj (xw (yoo T) e.m T.Gi (pac (ym (pv 0) rfl) (pa1 (pv 1)))) yg) (pv 1)) (yn vj (ym (pv 0) rfl) (ym (pv 0) rfl)) (yz _)))),?_;exists 2,0;have n:=ydm g;have c:=uq j;rfl';exists _,_,rfl,c,by omega,?_
 rfl';exact k
#synth yaf ["self","unit","size"] ["self"] ytw
inductive ypi (C:Addr) (vs:List V) (H:Hp) (Q:VK) (E':XK):Prop
 | mk (p dx:Addr) (x:Sn) (_:vs=[.ref p]) (_:H p=some (.ins C dx (z9 x))) (_:OkS x) (_:sz x <= 100000) (_:∀ t H',H t=none->H' t=some (.lst ((tL x).map V.int))->yv H H'->Q (.ref t) H')
def ynj:vk P w K mg Γ CX0 3 a.K8 a.K9 ["self"] (ypi a.A4):=by
 exists T.Dl.F.ok,yaf,g;obtain ⟨p,d,x,rfl,o,l,D,k⟩:=h;exists 1,2,ye (yo (i:=1) yaf.nd rfl (Or.inl rfl) yg) (ye (yo (i:=2) yaf.nd rfl (Or.inl rfl) (ym (pv 0) rfl)) (ye (zj PassesOwn.never (xt (xf (pv 0) T.Ah T.Gj.m (ywx T) g.m T.Gj.B .nil vx (pa1 (yn wu (pv 1) yg)))) (ye (yo (i:=1) yaf.nd rfl (Or.inl rfl) (yn wu (pv 1) yg)) (yc (yo (i:=2) yaf.nd rfl (Or.inl rfl) (yn u7 (pv 2) yg))))) (yc (yp (xw (yxx T) g.m T.N2 (pac (xw (yoo T) g.m T.Gi (pac (ym (pv 0) rfl) (pa1 (pv 1)))) (pa1 (pv 2))))))));exists fun m σ' v=>v=H/\∃ j:Nat,σ'=[some (.ref p),some (.int (pw j)),some (.int (x.2.2 - j))]/\j <= 5/\tel x.1 x.2.1 (5 - j) j=tK x/\m=6 - j,⟨_,rfl,0,by simp [pw],by decide,rfl,rfl⟩,?_;rintro m σ2 I ⟨rfl,j,rfl,z,n,rfl⟩;have G:=ydm (show j <= 6 by omega);have q:=uq j;rfl';exists p,d,_,rfl,o,lkN _ (by right) (by right) (by right),?_;rfl';exists p,d,x,j+1,rfl,o,by omega,?_
 rfl';refine uu (fun b=>?_) (fun b=>?_)
 .refine yam ?_;rfl';have u:=ynq l.ok.w1 b;exists _,?_,rfl,j+1,?_,u,?_,rfl
  .show 6 - (j+1) < 6 - j;omega
  .have c:x.2.2 - (j:Int) - 1=x.2.2 - ((j+1:Nat):Int):=by omega
   rw [c];rfl
  .rw [yln b,<- n]
   congr 1
   omega
 .have f:j=tK x:=by rw [<- n,yqk b]
  subst f;rfl';exists _,_,rfl,q,by omega,?_
  rfl';have y:=l.sz;have C:=(yti l).2;have c:x.2.2 - (tK x:Int)=((sz x - tK x:Nat):Int):=by omega
  rw [c];exists _,_,rfl,by omega,k
#synth yzd ["self","place"] yst
inductive yeg (C:Addr) (vs:List V) (H:Hp) (Q:VK) (E':XK):Prop
 | mk (p dx pd:Addr) (v1 v2 v3:V) (d:List Int) (k:Nat) (_:vs=[.ref p,.int k]) (_:H p=some (.ins C dx (yjz (.ref pd) v1 v2 v3))) (_:H pd=some (.lst (d.map V.int))) (_:Q (.int ((d[k]?).getD 0)) H)
def ywr:vk P w K mg Γ CX0 1 a.Kd a.Ke ["self","place"] (yeg a.Ag):=by
 exists T.Gk.F.ok,yzd,t;obtain ⟨p,l,i,g,q,f,d,j,rfl,r,c,k⟩:=h;exists 2,0,yc (yp (μ (yu ĝ (pv 1) (pcB yr T.Ac (pa1 (ym (pv 0) rfl))) (yz _)) (ud xv (ym (pv 0) rfl) (pv 1) (fun _ _=>rfl)) yg));refine ue (SqL.of c) ?_;rw [cA];rfl';refine uu (fun n=>?_) (fun n=>?_)
 .have e:j < d.length:=by omega
  rw [cC e] at k;rfl';exact Ú (SqL.of c) (xa (by rw [cG,cC e]; rfl)) k
 .rw [dn (by omega)] at k;rfl';exact k
#synth yyn ["self"] ytr
inductive yhl (C D:Addr) (vs:List V) (H:Hp) (Q:VK) (E':XK):Prop
 | mk (p dx pd ps ds:Addr) (d:List Int) (x:Sn) (r:Nat) (_:vs=[.ref p]) (_:H p=some (.ins C dx (yjz (.ref pd) (.ref ps) (.int (rn d r)) (.int r)))) (_:H pd=some (.lst (d.map V.int))) (_:H ps=some (.ins D ds (z9 x))) (_:p≠ps) (_:OkS x) (_:r <= sz x) (_:∀ H',H' p=some (.ins C dx (yjz (.ref pd) (.ref ps) (.int (rn d (sz x))) (.int x.2.2)))->But p H H'->Q .non H')
def ync:vk P w K mg Γ CX0 2 a.Kb a.Kc ["self"] (yhl a.Ag a.A4):=by
 exists T.Dm.F.ok,yyn,L;obtain ⟨p,g,e,l,q,d,x,r,rfl,t,I,u,n,M,i,k⟩:=h;exists _,(yc (zj PassesOwn.never (yu ĝ (ym (pv 0) rfl) (ym (ym (pv 0) rfl) rfl) (yz _)) (ye (yy (pv 0) (yn vj (yn wu (ym (pv 0) rfl) yg) (xf (pv 0) T.Bu T.Gk.m (ywr T) L.m T.Gk.B .nil vx (pa1 (ym (pv 0) rfl)))) rfl) (yc (yy (pv 0) (yn vj (ym (pv 0) rfl) yg) rfl))))),?_;exists 1,0;have J:=M.sz;exists fun m σ' o=>∃ r:Nat,σ'=[some (.ref p)]/\o p=some (.ins a.Ag g (yjz (.ref e) (.ref l) (.int (rn d r)) (.int r)))/\r <= sz x/\But p H o/\m=sz x - r,⟨_,r,rfl,t,i,But.refl,rfl⟩,?_;rintro m σ2 N ⟨r,rfl,b,D,c,rfl⟩;have z:N l=some (.ins a.A4 q (z9 x)):=c _ _ u n.symm;have f:=c.lst t I;rfl';refine uu (fun y=>?_) (fun y=>?_)
 .refine yam ?_;rfl';exists p,g,e,_,_,_,d,r,rfl,b,f,?_;rfl';exists _,?_,r+1,rfl,?_,by omega,(c.trans But.upd).trans But.upd,rfl
  .omega
  .rw [ya];rfl
 .have G:r=sz x:=by omega
  subst G;rfl';refine k _ ?_ c;rw [<- J];exact b
#synth yxo ["self","data"] ytu
inductive yf3 (K:W.Frag) (a:Ads) (vs:List V) (H:Hp) (Q:VK) (E:XK):Prop
 | mk (p dx:Addr) (v:V) (n:String) (_:vs=[.ref p,v]) (_:H p=some (.ins a.Ag dx [])) (_:xo K H v (.type n)) (_:((Bad K H v n 12000/\∀ H',yv H H'->E (.ref a.En) none H')\/∃ d:List Int,vav K H v (d.map V.int) 12000/\∀ pd ps ds H',H pd=none->H ps=none->yfu a H' p dx pd ps ds d s0->But p H H'->Q .non H'))
def yvh:vk P w K mg Γ (CXe P w) 5 a.Fk a.Ka ["self","data"] (yf3 K a):=by
 exists T.Ef.F.okE,yxo,O;obtain ⟨p,r,v,n,rfl,U,ty,h⟩:=h;exists 2,0,ye (yy (pv 0) (xr (vbc T) O.m T.Pn y7 (pa1 (pv 1))) rfl) (ye (yy (pv 0) (ug T.Of (ymx T) O.m rfl T.Oe T.Di.B .nil vx) rfl) (ye (yy (pv 0) yg rfl) (ye (yy (pv 0) yg rfl) (yc (yt (vo (pv 0) T.Bu T.Dm.m (ync T) O.m T.Dm.B .nil vx))))));exists v,n,rfl,ty,?_;rcases h with ⟨Y,k⟩ | ⟨d,Z,k⟩
 .exact .inl ⟨Y,k⟩
 .refine .inr ⟨d.map V.int,Z,fun g C l L S=>?_⟩;have a0:=S _ _ U;have f:g≠p:=fun z=>by rw [z,U] at l; cases l
  rfl';have J:But p H (upd C p (.ins a.Ag r ([("data",V.ref g)]:List (Str × V)))):=(But.of S).trans But.upd;have j:upd C p (.ins a.Ag r ([("data",V.ref g)]:List (Str × V))) p=some (.ins a.Ag r ([("data",V.ref g)]:List (Str × V))):=ya;have u:upd C p (.ins a.Ag r ([("data",V.ref g)]:List (Str × V))) g=some (.lst (d.map V.int)):=yf f L;generalize upd C p (.ins a.Ag r ([("data",V.ref g)]:List (Str × V)))=H2 at J j u ⊢;intro t M i nds ne;exists t,M,rfl,ya,fun R x B3=>⟨rfl,?_⟩;have D:yv H2 R:=fun b o e=>B3 b o (by rw [yk (yb e i),yk (yb e nds)]; exact e) (yb e i);have a1:=D _ _ j;have y:=D _ _ u;have c:p≠t:=yb j i
  have G:H t=none:=by
   cases e:H t with
   | none=>rfl
   | some o=>exact absurd (J _ _ e c.symm) (by rw [i]; exact fun z=>nomatch z)
  rfl';exists p,r,g,t,M,d,s0,0,rfl,ya,?_,?_,c,vcs,cV _,fun W I B4=>?_
  .exact yf f (yf f (yf f y))
  .exact yf c.symm (yf c.symm (yf c.symm x))
  .rfl';have q:But p R W:=((But.upd.trans But.upd).trans But.upd).trans B4;exact k g t M W l G ⟨I,q _ _ y f,q _ _ x c.symm,c⟩ ((J.trans (But.of D)).trans q)
#synth yne ["self","chance","bit"] ["self","chance"] yr7
inductive yk1 (K:W.Frag) (a:Ads) (vs:List V) (H:Hp) (Q:VK) (E:XK):Prop
 | mk (p dx pd ps ds:Addr) (d:List Int) (x:Sn) (v:V) (n:String) (_:vs=[.ref p,v]) (_:yfu a H p dx pd ps ds d x) (_:OkS x) (_:xo K H v (.type n)) (_:(chV v=false->E (.ref a.D8) none H)) (_:∀ c:Int,v=.int c->Ch c->∀ H',yfu a H' p dx pd ps ds d (nar x c (Ý d x c))->yj2 p ps H H'->Q (.int (Ý d x c)) H')
def yu4 {x:Sn} {c b:Int} (h:Ok x) (hc:Ch c):sz x <= sz (nar x c b):=by
 obtain ⟨r,e⟩:=vao (if b=1 then x.1 else x.1+cut x.2.1 c) (if b=1 then cut x.2.1 c else x.2.1 - cut x.2.1 c) x.2.2
 have a:nar x c b=ren (if b=1 then x.1 else x.1+cut x.2.1 c) (if b=1 then cut x.2.1 c else x.2.1 - cut x.2.1 c) x.2.2:=by
  unfold nar
  split <;> rfl
 rw [a,e];unfold sz;dsimp only;omega
def yvw:vk P w K mg Γ (CXe P w) 5 a.Kg a.Kh ["self","chance"] (yk1 K a):=by
 exists T.Gm.F.okE,yne,y;obtain ⟨p,L,D,l,q,d,x,v,n,rfl,o,C,ty,k1,k⟩:=h;exists 2,1,ye (yt (xr (ysi T) y.m T.Nr y7 (pa1 (pv 1)))) (ye (jr (yo (i:=2) yne.nd rfl (Or.inl rfl) (μ (yu ĝ (ym (pv 0) rfl) (yn vj (ym (ym (pv 0) rfl) rfl) (xf (ym (pv 0) rfl) T.Ah T.Dj.m (yof T) y.m T.Dj.B .nil vx (pa1 (pv 1)))) (yz _)) yg yg))) (ye (yt (vg (ym (pv 0) rfl) T.Ah T.Dk.m (yn4 T) y.m T.Dk.B .nil y7 (pac (pv 1) (pa1 (pv 2))))) (ye (yt (vo (pv 0) T.Bu T.Dm.m (ync T) y.m T.Dm.B .nil vx)) (yc (yp (pv 2))))));exists v,n,rfl,ty,fun Y=>?_,k1;obtain ⟨c,rfl,U,c2⟩:=yb5 Y;have r:Ch c:=⟨U,c2⟩;have k:=k c rfl r;have J:=o.me;have e:=o.sp;rfl';refine yju (fun σ' R=>σ'=[some (.ref p),some (.int c),some (.int (Ý d x c))]/\H=R) ?_ ?_
 .rfl';exists l,q,_,rfl,e,lkN _ (by right) (by right) (by right),?_;rfl';exists l,q,x,c,rfl,e,r,?_;rfl';unfold Ý;refine uu (fun u=>?_) (fun u=>?_)
  .rw [if_pos u];rfl';exists rfl,rfl
  .rw [if_neg u];rfl';exists rfl,rfl
 .rintro σ' R ⟨rfl,rfl⟩;have O:=ŋ d x c;generalize u:Ý d x c=b at O k ⊢;rfl';exists l,q,_,rfl,e,lkN _ (by right) (by right) (by right),?_;rfl';exists l,q,x,.int c,.int b,_,_,rfl,e,C.ok,.int c,.int b,(fun z=>by rw [ydq r] at z; cases z),(fun _ z=>by rw [ybw (by omega) (by omega)] at z; cases z),fun S X ec Z _ _ _ H1 t M=>?_;obtain rfl:c=S:=V.int.inj ec;obtain rfl:b=X:=V.int.inj Z;have f:=M _ _ J o.ne;have g:=M.lst e o.dt;rfl';have j:H1 p=some (.ins a.Ag L (yjz (.ref D) (.ref l) (.int (rn d (sz x))) (.int ((sz x:Nat):Int)))):=by rw [C.sz]; exact f
  exists p,L,D,l,q,d,nar x c b,sz x,rfl,j,g,t,o.ne,yb0 C r,yu4 C.ok r,fun H2 G I=>?_;rfl';exact k H2 ⟨G,I.lst f g,I _ _ t o.ne.symm,o.ne⟩ (M.two'.trans I.two)
#synth yu1 ["self"] ysr
inductive yg3 (a:Ads) (vs:List V) (H:Hp) (Q:VK) (E':XK):Prop
 | mk (p dx pd ps ds:Addr) (d:List Int) (x:Sn) (_:vs=[.ref p]) (_:yfu a H p dx pd ps ds d x) (_:OkS x) (_:sz x <= tMx) (_:∀ t H',H t=none->H' t=some (.lst ((tL x).map V.int))->yv H H'->Q (.ref t) H')
def yy4:vk P w K mg Γ CX0 4 a.Ki a.Kj ["self"] (yg3 a):=by
 exists T.Gn.F.ok,yu1,o;obtain ⟨p,n,i,f,c,d,x,rfl,g,r,j,k⟩:=h;have l:=g.me;have b:=g.sp;exists 1,0,yc (yp (vo (ym (pv 0) rfl) T.Ah T.Dl.m (ynj T) o.m T.Dl.B .nil vx));exists f,c,_,rfl,b,lkN _ (by right) (by right) (by right),?_;rfl';exists f,c,x,rfl,b,r,j,k
#synth yxk ["thing"] ys4
def Ż (K:W.Frag):Sp:=fun vs H Q _=>(vs=[.non]/\∀ r H',H r=none->H' r=some (.lst [])->yv H H'->Q (.ref r) H')\/∃ (l:Addr) (n:Nat) (tx:Nat->Addr) (tt:Nat->List Int),vs=[.ref l]/\H l=some (.lst (refs tx n))/\n <= 1000/\(∀ i,i < n->ux H (tx i) (tt i) 1000) /\
 ∀ r (cx:Nat->Addr) H',H r=none->H' r=some (.lst (refs cx n))->(∀ i,i < n->H (cx i)=none/\H' (cx i)=some (.lst ((tt i).map V.int)))->yv H H'->Q (.ref r) H'
def yu0:vk P w K mg Γ CX0 5 a.Kk a.Kl ["thing"] (Ż K):=by
 refine T.N3.F.ok yxk (fun vs H Q E h=>?_) (fun Y A R s H vs Q E W h=>?_)
 .rcases h with ⟨rfl,_⟩ | ⟨l,n,x,M,rfl,_⟩ <;> rfl
 .rcases h with ⟨rfl,k⟩ | ⟨l,n,x,M,rfl,L,hn,Z,k⟩
  .exists _,(ye (wd (yu yi4 (pv 0) ub (yz _)) (yc (yp (xh ua))) y6) (ye (wd (xp (xt (pcB wj T.A7 (pac (pv 0) (pa1 (z7 (T:="list") rfl T.Ad (by right))))))) (yc ŏ) y6) (yc (yp (wn (js:=[]) (ys:=[]) rfl (wv (pv 0)) (fun C s2 H2 fp=>(xr (yfj T) W.m T.Es vh (pa1 (pv 0)))) rfl rfl (hyc:=yx) (hrel:=yx)))))),?_;refine yj (σ':=[some _]) rfl ?_;rfl';refine vbe ?_;rfl';exists by walk_at "len",fun r p=>?_
   exact k r _ p ya (y8 p)
  .exists _,(ye (wd (yu yi4 (pv 0) ub (yz _)) (yc (yp (xh ua))) y6) (ye (wd (xp (xt (pcB wj T.A7 (pac (pv 0) (pa1 (z7 (T:="list") rfl T.Ad (by right))))))) (yc ŏ) y6) (yc (yp (wn (js:=[]) (ys:=[]) rfl (wv (pv 0)) (fun C s2 H2 fp=>(xr (yfj T) W.m T.Es vh (pa1 (pv 0)))) rfl rfl (hyc:=yx) (hrel:=yx)))))),?_;refine yj (σ':=[some _]) rfl ?_;rfl'
   refine yce (fun z=>nomatch z) ?_
   rfl';refine Ü (.lst L) (ylb _ _) ?_;rfl';exists l,rfl,⟨_,SqL.of L⟩,fun D N=>?_;refine u5 (K:=K) (xs:=refs x n) (fun i G=>∃ f:Nat->Addr,G D=some (.lst (refs f i))/\(∀ j,j < i->H (f j)=none/\G (f j)=some (.lst ((M j).map V.int))/\f j≠D)/\yv H G)
    ⟨fun _=>0,ya,fun j v=>absurd v (cY j),y8 N⟩ (fun i G _ ⟨_,_,_,S⟩=>SqL.of (S _ _ L)) (fun i y G X B z=>?_) (fun G z=>?_)
   .obtain ⟨f,u,g,S⟩:=z;obtain ⟨rfl,O⟩:=zi X;have d:=(Z i O).same S;rfl';exists .ref (x i),_,rfl,.lst d.l,.inr ⟨(M i).map V.int,η d.l d.s d.z,fun c G2 q I J=>?_⟩;have U:c≠D:=(yb u q).symm;refine xm (n:=(refs x n).length) (J _ _ u) (vd (by rw [vy]; omega)) B ?_;exists upN f i c,?_,fun j v=>?_,fun b o e=>yf (yb e N) (J _ _ (S b o e))
    .rw [ya,zv,w9]
     congr 3
     exact uz fun j v=>(wx v).symm
    .by_cases z:j=i
     .rw [z,w9];exists S.free q,yf U I,U
     .have t:j < i:=by omega
      rw [wx t];obtain ⟨g1,g2,g3⟩:=g j t;exists g1,yf g3 (J _ _ g2),g3
   .obtain ⟨f,u,g,S⟩:=z;rw [vy] at u g;exact k D f G N u (fun i B=>⟨(g i B).1,(g i B).2.1⟩) S
def ygj {H:Hp} {lx:V} {N w:Nat} {lt:Nat->Addr} {tt:Nat->List Int} {Q:VK} {E:XK} (h:yuf H lx N w lt tt) (hw:w <= 1000) (hN:N <= 1000)
  (k:∀ r (cx:Nat->Addr) H',H r=none->H' r=some (.lst (refs cx N))->(∀ i,i < N->H (cx i)=none/\H' (cx i)=some (.lst ((tt i).map V.int)))->yv H H'->Q (.ref r) H'):Ż K [lx] H Q E:=by
 obtain ⟨⟨rfl,rfl⟩ | ⟨e,rfl,f⟩,b⟩:=h
 .exact .inl ⟨rfl,fun r H' c d S=>k r (fun _=>0) H' c d (fun i a=>absurd a (cY i)) S⟩
 .exact .inr ⟨e,N,lt,tt,rfl,f,hN,fun i a=>⟨(b i a).l,(b i a).s,dh (b i a).z hw⟩,k⟩
structure vey (H H':Hp) (r:Addr) (m:Nat) (tu cl:Nat->Addr) (mx:Nat->Int) (cs:Nat->List Int) (bt:Nat->Int):Prop where
 r0:H r=none
 r:H' r=some (.lst (refs tu m))
 t:∀ j,j < m->H' (tu j)=some (.tup [.int (mx j),.ref (cl j),.int (bt j)])
 c:∀ j,j < m->H (cl j)=none/\H' (cl j)=some (.lst ((cs j).map V.int))
#synth yit ["foreteller","texts","text","bit"] ["foreteller","texts"] ysw
inductive yk8 (K:W.Frag) (a:Ads) (vs:List V) (H:Hp) (Q:VK) (E':XK):Prop
 | mk (p:Addr) (A:FA) (X:FX) (f:Nat->List Int->Option Slt) (O:Nat->Addr->Prop) (m:Nat) (tl:Addr) (n w:Nat) (tx:Nat->Addr) (tt:Nat->List Int) (_:vs=[.ref p,.ref tl]) (_:uv K a H p A X f O m) (_:X.sg=[]) (_:X.nd=0) (_:H tl=some (.lst (refs tx n))) (_:tl≠A.el) (_:(∀ i,i < n->ux H (tx i) (tt i) w/\tx i≠A.el)) (_:w <= 1000) (_:m+6 * (n * (9 * w+1))+20 < 1000000) (_:∀ (ml el pl:Addr) (sl:Nat->Addr) (f':Nat->List Int->Option Slt) (O':Nat->Addr->Prop) (m':Nat) (H':Hp),uv K a H' p (A.re ml el pl sl) (X.run A (Ď tt n)) f' O' m'->m' <= m+6 * (n * (9 * w+1))->FGo p A O H H' el O'->(X.run A (Ď tt n)).sg=[]->(X.run A (Ď tt n)).nd=0->Q .non H')
def yxd:vk P w K mg Γ CX0 7 a.Km a.Kn ["foreteller","texts"] (yk8 K a):=by
 exists T.N4.F.ok,yit,hr;obtain ⟨p,c,X,f,O,m,tl,n,w,tx,d,rfl,hF,aj,a8,a3,ak,al,hw,hm,k⟩:=h;exists 2,2,yc (ur PassesOwn.never rfl (wv (pv 1)) (wl (i:=2) yit.nd rfl (Or.inl rfl)) (yc (ur PassesOwn.never rfl (wv (xw (ymv T) hr.m T.Gh (pa1 (pv 2)))) (wl (i:=3) yit.nd rfl (Or.inl rfl)) (yc (yt (xf (pv 0) T.Ae T.Cn.m (yjc T) hr.m T.Cn.B .nil vx (pa1 (pv 3))))))));refine ⟨tl,rfl,⟨_,SqL.of a3⟩,zf (K:=K) (a:=tl) (xs:=refs tx n) (fun i σ2 G=>∃ (v1 N:Option V) (Z v Y:Addr) (U:Nat->Addr) (f':Nat->List Int->Option Slt) (O':Nat->Addr->Prop) (m':Nat),σ2=[some (.ref p),some (.ref tl),v1,N]/\uv K a G p (c.re Z v Y U) (X.run c (Ď d i)) f' O' m'/\m' <= m+6 * (i * (9 * w+1))/\FGo p c O H G v O'/\(X.run c (Ď d i)).sg=[]/\(X.run c (Ď d i)).nd=0)
  ⟨_,_,c.ml,c.el,c.pl,c.sl,f,O,m,rfl,hF,Nat.le_add_right _ _,FGo.refl,aj,a8⟩ (by rintro i σ2 G _ ⟨_,_,_,_,_,_,_,_,_,_,_,_,go,_,_⟩; exact SqL.of ((go.kpa hF).lst a3 ak)) ?_ ?_⟩
 .rintro i y σ2 G hy ⟨v1,N,Z,v,Y,U,f1,O1,m1,rfl,q,L,r,o,g⟩;obtain ⟨rfl,a4⟩:=zi hy;obtain ⟨R,am⟩:=al i a4;have a2:=(r.kpa hF).lst R.l am;have C:=R.s;have hz:=R.z
  have a5:i * (9 * w+1)+(9 * w+1) <= n * (9 * w+1):=by
   have:(i+1) * (9 * w+1) <= n * (9 * w+1):=Nat.mul_le_mul_right _ a4;rw [Nat.add_mul,Nat.one_mul] at this;exact this
  have as:=xq (d i);rfl';exists tx i,d i,rfl,a2,C,by omega,fun bt G1 a1 t S1=>?_
  have u:=q.same S1;have ad:bt≠v:=(yb q.el a1).symm;refine ⟨bt,rfl,⟨_,SqL.of t⟩,zf (K:=K) (a:=bt) (xs:=(dec (d i)).map V.int) (fun j σ2 G'=>∃ (N:Option V) (ml' el' pl':Addr) (sl':Nat->Addr) (f':Nat->List Int->Option Slt) (O':Nat->Addr->Prop),σ2=[some (.ref p),some (.ref tl),some (.ref (tx i)),N]/\uv K a G' p (c.re ml' el' pl' sl') ((X.run c (Ď d i)).run c ((dec (d i)).take j)) f' O' (m1+6 * j)/\FGo p (c.re Z v Y U) O1 G1 G' el' O'/\TxE (d i) j ((X.run c (Ď d i)).run c ((dec (d i)).take j)).sg ((X.run c (Ď d i)).run c ((dec (d i)).take j)).nd)
   ⟨_,Z,v,Y,U,f1,O1,rfl,u,FGo.refl,.inl ⟨cV _,by show yau _ _ (X.run c (Ď d i)).sg (X.run c (Ď d i)).nd; rw [o,g]; exact yau.zero _⟩⟩ (by rintro j σ2 G' _ ⟨_,_,_,_,_,_,_,_,_,go,_⟩; exact SqL.of ((go.kpa u).lst t ad)) ?_ ?_⟩
  .rintro j y σ3 G' hy ⟨N,J,D,M,S,f2,O2,rfl,e,I,W⟩;obtain ⟨b,rfl,ac,hb,hj⟩:=jm hy;obtain ⟨b0,b1⟩:=jg _ b ac;obtain ⟨a0,ao⟩:=W.next C hb;obtain ⟨a7,ar⟩:=a0.nd C;have au:=a0.len;have aq:=e.me;rfl';exists p,c.re J D M S,_,f2,O2,m1+6 * j,b,rfl,e,b0,b1,by omega,a7,by omega,fun a6 ag af a9 f3 O3 G3 aa ab an ae ai _=>?_
   rfl';have n6:=e.n6;exists _,a6,ag,af,a9,f3,O3,rfl,?_,I.trans ⟨aa,an,ae,ai⟩,?_
   .rw [jd hb];exact ab.up (by show m1+6 * j+c.n <= _; have:c.n <= 6:=n6; omega)
   .rw [jd hb];exact ao
  .rintro σ3 G' ⟨N,J,D,M,S,f2,O2,rfl,e,I,W⟩;rw [cA] at e W;rw [dN] at e W;have er:X.run c (Ď d (i+1))=(X.run c (Ď d i)).run c (dec (d i)):=j5 c _ _ X;rw [<- er] at e W
   have x:(X.run c (Ď d (i+1))).sg=[]/\(X.run c (Ď d (i+1))).nd=0:=by
    rcases W with ⟨h,_⟩ | ⟨_,h⟩
    .omega
    .exact h
   rfl';exists _,_,J,D,M,S,f2,O2,_,rfl,e,by rw [Nat.add_mul,Nat.one_mul]; omega,r.trans (FGo.ahead S1 I),x.1,x.2
 .rintro σ2 G ⟨v1,N,Z,v,Y,U,f1,O1,m1,rfl,q,L,r,o,g⟩;rw [vy] at q L o g;rfl';exact k Z v Y U f1 O1 m1 G q L r o g
def snK (mx bt:Nat->Int):Nat->Sn
 | 0=>s0
 | k+1=>nar (snK mx bt k) (mx k) (bt k)
theorem ο {mx:Nat->Int}:∀ m,(∀ j,j < m->Ch (mx j))->OkS (snK mx bt m)/\(snK mx bt m).2.2 <= 5+2 * (m:Int)
 | 0,_=>⟨vcs,by show (5:Int) <= 5+2 * ((0:Nat):Int); decide⟩
 | m+1,h=>by
  obtain ⟨a,e⟩:=ο m fun j d=>h j (by omega);exists yb0 a (h m (by omega)),?_;have:=yza (c:=mx m) (b:=bt m) a.ok;show (nar (snK mx bt m) (mx m) (bt m)).2.2 <= _;omega
theorem û {mx my bu:Nat->Int}:∀ m,(∀ j,j < m->mx j=my j/\bt j=bu j)->snK mx bt m=snK my bu m
 | 0,_=>rfl
 | m+1,h=>by
  show nar (snK mx bt m) (mx m) (bt m)=nar (snK my bu m) (my m) (bu m);rw [û m fun j a=>h j (by omega),(h m (by omega)).1,(h m (by omega)).2]
def FGo.but {A:FA} {H H1 H2:Hp} {el:Addr} {o':HO} (h:FGo p A O H H1 el O') (hq:H q=none) (B:But q H1 H2) (hq2:H2 q=some o'):FGo p A O H H2 el O' :=
 ⟨h.he,h.hO,fun c o e f b a d=>B _ _ (h.fr c o e f b a d) (yb e hq),fun c o e=>let ⟨o1,w⟩:=h.live c o e; ⟨o1,B _ _ w (yb e hq)⟩⟩
def uv.but {H H':Hp} {A:FA} {X:FX} {f:Nat->List Int->Option Slt} {m:Nat} {fs:List (Str × V)} (h:uv K a H p A X f O m) (hq:H q=some (.ins C dq fs)) (hl:fs.length=3) (nO:∀ i,i < A.n->¬ O i q) (B:But q H H'):uv K a H' p A X f O m:=by
 refine h.frame (O2:=fun c=>c=q) (fun c o e j=>B c o e j) (fun z=>x9 h.me hq (by rw [hl]; show ¬ (6=3); decide) z) (fun z=>x9 h.mx.o hq (by rw [hl]; show ¬ (1=3); decide) z) (fun i d z=>x9 (h.B.b i d).me hq (by rw [hl]; show ¬ (2=3); decide) z) (fun i c d w z=>nO i d (z ▸ w)) (fun l g _ e=>B.lst hq e) (fun t g e=>?_);rcases e with (e | ⟨o,e⟩) | e
 .exact .inl (.inl (B _ _ e (fun z=>by rw [z,hq] at e; cases e)))
 .exact .inl (.inr ⟨o,B _ _ e (fun z=>by rw [z,hq] at e; cases e)⟩)
 .exact .inr e
theorem yok (A:FA) (ml el pl:Addr) (sl:Nat->Addr):∀ (bs:List Int) (X:FX),X.run (A.re ml el pl sl) bs=X.run A bs
 | [],_=>rfl
 | b :: r,X=>yok A ml el pl sl r (X.see A b)
def yea (A:FA) (X:FX) (ts:List Int) (k:Nat):Int:=yoz (X.run A ((dec ts).take k)).ws ((X.run A ((dec ts).take k)).cs A)
#synth yjf ["foreteller","text","span","bit"] ["foreteller","text"] ys0
inductive yc4 (K:W.Frag) (a:Ads) (vs:List V) (H:Hp) (Q:VK) (E':XK):Prop
 | mk (p:Addr) (A:FA) (X:FX) (f:Nat->List Int->Option Slt) (O:Nat->Addr->Prop) (m:Nat) (tx:Addr) (ts:List Int) (_:vs=[.ref p,.ref tx]) (_:uv K a H p A X f O m) (_:X.sg=[]) (_:X.nd=0) (_:ux H tx ts 1000) (_:tx≠A.el) (_:m+6 * (dec ts).length+20 < 1000000) (_:∀ (r ml el pl:Addr) (sl:Nat->Addr) (f':Nat->List Int->Option Slt) (O':Nat->Addr->Prop) (m':Nat) (H':Hp),H r=none->H' r=some (.lst ((tL (snK (yea A X ts) (wb ts) (dec ts).length)).map V.int))->uv K a H' p (A.re ml el pl sl) (X.run A (dec ts)) f' O' m'->m' <= m+6 * (dec ts).length->FGo p A O H H' el O'->Q (.ref r) H')
def yi9:vk P w K mg Γ CX0 7 a.Ko a.Kp ["foreteller","text"] (yc4 K a):=by
 exists T.Eg.F.ok,yjf,hr;obtain ⟨p,c,X,f,O,m,tx,d,rfl,hF,ax,ag,a1,aI,hm,k⟩:=h;have aF:=xq d;have hz:=a1.z;have Y:=a1.s;refine yh (yo (i:=2) yjf.nd rfl (Or.inl rfl) (ug T.Of (ymx T) hr.m rfl T.Oe T.Di.B .nil vx)) ?_;refine yh (ur PassesOwn.never rfl (wv (xw (ymv T) hr.m T.Gh (pa1 (pv 1)))) (wl (i:=3) yjf.nd rfl (Or.inl rfl)) (ye (yt (vg (pv 2) T.Ah T.Dk.m (yn4 T) hr.m T.Dk.B .nil vh (pac (vo (pv 0) T.Ae T.Dh.m (ynm T) hr.m T.Dh.B .nil vx) (pa1 (pv 3))))) (yc (yt (xf (pv 0) T.Ae T.Cn.m (yjc T) hr.m T.Cn.B .nil vx (pa1 (pv 3))))))) ?_;exists 2,2,yc (yp (vo (pv 2) T.Ah T.Dl.m (ynj T) hr.m T.Dl.B .nil vx));intro q U nq aq aG;have SQ:yv H (upd (upd H U (.own q)) q (.ins a.A4 U [])):=fun b o e=>by rw [yk (yb e nq),yk (yb e aq)]; exact e
 exists q,U,rfl,ya,fun H1 aw B1=>⟨rfl,?_⟩;have S1:yv H H1:=fun b o e=>B1 b o (SQ b o e) (yb e nq);rfl';exists tx,d,rfl,S1 _ _ a1.l,Y,by omega,fun bt H2 a7 S S2=>?_
 have a8:=S1.trans S2;have av:=hF.same a8;have am:bt≠c.el:=(yb (hF.same S1).el a7).symm
 have az:∀ i,i < c.n->¬ O i q:=fun i Z w=>by
  obtain ⟨o,ho,_⟩:=(hF.B.b i Z).own q w;rw [nq] at ho;cases ho
 refine ⟨bt,rfl,⟨_,SqL.of S⟩,zf (K:=K) (a:=bt) (xs:=(dec d).map V.int) (fun j σ2 G=>∃ (v:Option V) (ml el pl:Addr) (sl:Nat->Addr) (f':Nat->List Int->Option Slt) (O':Nat->Addr->Prop),σ2=[some (.ref p),some (.ref tx),some (.ref q),v]/\uv K a G p (c.re ml el pl sl) (X.run c ((dec d).take j)) f' O' (m+6 * j)/\FGo p c O H G el O'/\TxE d j (X.run c ((dec d).take j)).sg (X.run c ((dec d).take j)).nd/\G q=some (.ins a.A4 U (z9 (snK (yea c X d) (wb d) j)))/\(∀ i,i < c.n->¬ O' i q)/\(G bt=some (.lst ((dec d).map V.int))/\bt≠el)/\(∀ i,i < j->Ch (yea c X d i)))
  ⟨_,c.ml,c.el,c.pl,c.sl,f,O,rfl,av,FGo.refl.same a8,.inl ⟨cV _,by show yau _ _ X.sg X.nd; rw [ax,ag]; exact yau.zero _⟩,S2 _ _ aw,az,⟨S,am⟩,fun i Z=>absurd Z (cY i)⟩ (by rintro j σ2 G _ ⟨_,_,_,_,_,_,_,_,_,_,_,_,_,z,_⟩; exact SqL.of z.1) ?_ ?_⟩
 .rintro j y σ2 G hy ⟨v,D,x,L,J,f1,O1,rfl,g,go,hT,u,R,⟨a3,W⟩,I⟩;obtain ⟨b,rfl,ak,hb,hj⟩:=jm hy;obtain ⟨b0,b1⟩:=jg _ b ak;obtain ⟨a4,aA⟩:=hT.next Y hb;obtain ⟨af,aE⟩:=a4.nd Y;have aH:=a4.len;have a6:wb d j=b:=by unfold wb; rw [hb]; rfl
  have aB:=g.me;have aa:Ch (yea c X d j):=yin g.n1 g.wok g.cok;have ao:=ydq aa;have as:=ybw b0 b1;obtain ⟨a0,ae⟩:=ο (mx:=yea c X d) (bt:=wb d) j I;rfl';exists q,U,_,rfl,u,lkN _ (by right) (by right) (by right),?_;rfl';exists p,c.re D x L J,_,f1,O1,_,rfl,g,fun G1 N=>?_;rfl';exists q,U,_,.int (yea c X d j),.int b,_,_,rfl,N _ _ u,a0.ok,.int _,.int _,fun z=>(by rw [ao] at z; cases z),fun _ z=>(by rw [as] at z; cases z),fun c' b' ec eb _ _ _ G2 C B2=>?_;cases ec;cases eb;have t:=(g.same N).but (N _ _ u) rfl R B2;have al:FGo p c O H G2 x O1:=(go.same N).but nq B2 C;have M:G2 bt=some (.lst ((dec d).map V.int)):=B2.lst (N _ _ u) (N _ _ a3);have aD:=t.me;have n6:=g.n6;rfl';exists p,c.re D x L J,_,f1,O1,m+6 * j,b,rfl,t,b0,b1,by omega,af,by omega,fun ad a9 an ah f3 O3 G3 ai aj ab a5 au _=>?_
  have ac:FGo p (c.re D x L J) O1 G2 G3 a9 O3:=⟨ai,ab,a5,au⟩;have a2:=ac.kpa t;rfl';exists _,ad,a9,an,ah,f3,O3,rfl,?_,al.trans ac,?_,?_,fun i Z w=>?_,⟨(a2 _ _ M rfl W).2,(a2 _ _ M rfl W).1⟩,fun i Z=>?_
  .rw [jd hb];exact aj.up (by show m+6 * j+c.n <= _; have:c.n <= 6:=n6; omega)
  .rw [jd hb];exact aA
  .have e:snK (yea c X d) (wb d) (j+1)=nar (snK (yea c X d) (wb d) j) (yea c X d j) b:=by show nar _ _ (wb d j)=_; rw [a6]
   rw [e];exact a5 _ _ C (x9 C t.me (show ¬ (3=6) by decide)) (x9 C t.mx.o (show ¬ (3=1) by decide)) (fun z=>by have e:=t.el; rw [<- z,C] at e; cases e) R
  .rcases ab i q Z w with v | v
   .exact R i Z v
   .rw [C] at v;cases v
  .by_cases z:i=j
   .rw [z];exact aa
   .exact I i (by omega)
 .rintro σ2 G ⟨v,D,x,L,J,f1,O1,rfl,g,go,hT,u,R,_,I⟩;rw [cA] at g u I;rw [dN] at g;obtain ⟨a0,ae⟩:=ο (mx:=yea c X d) (bt:=wb d) (dec d).length I;rfl';exists q,U,_,rfl,u,lkN _ (by right) (by right) (by right),?_;rfl';exists q,U,_,rfl,u,a0,by show Int.toNat _ <= 100000; omega,fun r G1 ay ap N=>?_
  exact k r D x L J f1 O1 _ G1 (go.free ay) ap (g.same N) (cE _) (go.same N)
#synth yiv ["looks","text","learned","foreteller","signs"] ["looks","text","learned"] yfk
inductive yev (K:W.Frag) (vs:List V) (H:Hp) (Q:VK) (E':XK):Prop
 | mk (L tx:Addr) (lx:V) (n:Nat) (lk:Nat->Addr) (kd:Nat->Fin 3) (tp:Nat->Addr) (ps:Nat->List Int) (ts:List Int) (N w:Nat) (lt:Nat->Addr) (tt:Nat->List Int) (_:vs=[.ref L,.ref tx,lx]) (_:vex H L tx lx n lk kd tp ps ts N w lt tt) (_:ts.length <= 1000) (_:∀ r H',H r=none->H' r=some (.lst ((tL (snK (jl n kd ps (Ď tt N) ts) (wb ts) (dec ts).length)).map V.int))->yv H H'->Q (.ref r) H')
def ymy:vk P w K mg Γ CX0 8 a.D7 a.Kq ["looks","text","learned"] (yev K):=by
 exists T.O9.ok,yiv,J;obtain ⟨L,tx,lx,n,lk,kd,tp,ps,y,N,w,lt,Y,rfl,d,I,k⟩:=h;have ad:=d.b;have n1:=d.n1;have n6:=d.n6;have ac:=xq y;refine yh (yo (i:=3) yiv.nd rfl (Or.inl rfl) (uk T.Qd (yjd T) J.m rfl T.Qc T.D1.B .nil vh (pa1 (pv 0)))) ?_;refine yh (yo (i:=4) yiv.nd rfl (Or.inl rfl) (xr (yfj T) J.m T.Es vh (pa1 (pv 1)))) ?_;refine yh (yt (xw (yxd T) J.m T.N4 (pac (pv 3) (pa1 (xw (yu0 T) J.m T.N3 (pa1 (pv 2))))))) ?_;exists 3,2,yc (yp (xw (yi9 T) J.m T.Eg (pac (pv 3) (pa1 (pv 4)))));intro p D np a3 a9;have Z:yv H (upd (upd H D (.own p)) p (.ins a.A2 D [])):=fun b o e=>by rw [yk (yb e np),yk (yb e a3)]; exact e
 exists p,D,.ref L,rfl,ya,.inr ⟨L,n,lk,kd,tp,ps,rfl,Z _ _ d.l,n1,n6,d.r.same Z,fun A f O H1 N1 B1=>⟨rfl,?_⟩⟩;obtain ⟨M,rfl,rfl,rfl,rfl,oO,oB,oM,oL⟩:=N1;have S1:yv H H1:=fun b o e=>B1 b o (Z b o e) (yb e np);have g:∀ {c:Addr},upd (upd H D (.own p)) p (.ins a.A2 D []) c=none->H c=none:=fun h=>Z.free h;have X:H A.el=none:=g (oL A.el (.inr (.inl rfl)));rfl';exists .ref tx,_,rfl,.lst (S1 _ _ d.t.l),.inr ⟨y.map V.int,η (S1 _ _ d.t.l) d.t.s d.t.z,fun sg H2 R U S2=>?_⟩;have x:=S1.trans S2;have q:=M.same S2;have a1:sg≠A.el:=(yb M.el R).symm;rfl';refine ygj (d.lr.same x) d.w1 d.N1 fun a2 cx H3 h0 h3 hx S3=>?_;rfl';exists p,A,FX0 A.n A.kd,f,O,6,a2,N,w,cx,Y,rfl,q.same S3,rfl,rfl,h3,(yb q.el h0).symm,fun i C=>⟨⟨(hx i C).2,(d.lr.2 i C).s,(d.lr.2 i C).z⟩,(yb q.el (hx i C).1).symm⟩,d.w1,by omega,fun ml el pl sl f1 O1 m1 H4 G ah u W F=>?_
 have u:=FGo.ahead S3 u;have a6:=u.kpa q;have v:=a6 _ _ U rfl a1
 have eX:∀ i,yea (A.re ml el pl sl) ((FX0 A.n A.kd).run A (Ď Y N)) y i=jl A.n A.kd A.ps (Ď Y N) y i:=fun i=>by
  unfold jl yea fX;rw [yok,<- ą A,<- ą A];rfl
 generalize hX:(FX0 A.n A.kd).run A (Ď Y N)=XX at G W F eX;rfl';exists p,A.re ml el pl sl,XX,f1,O1,m1,sg,y,rfl,G,W,F,⟨v.2,d.t.s,I⟩,v.1,by omega,fun r aa a8 ab ae f2 O2 m2 H5 a5 S af ag a0=>?_
 have go:=u.trans a0;rw [û _ fun j _=>⟨eX j,rfl⟩] at S;refine k r H5 (x.free (u.free a5)) S fun c o e=>go.fr c o (x _ _ e) (fun z=>?_) (fun z=>?_) (fun z=>?_) (fun i C w'=>?_)
 .rw [z,np] at e;cases e
 .rw [z,g oM] at e;cases e
 .rw [z,X] at e;cases e
 .rw [g (oO i c C w')] at e;cases e
structure RGo (p q s:Addr) (A:FA) (O:Nat->Addr->Prop) (H H':Hp) (ml el:Addr) (O':Nat->Addr->Prop):Prop where
 hm:ml=A.ml\/H ml=none
 he:el=A.el\/H el=none
 hO:∀ j c,j < A.n->O' j c->O j c\/H c=none
 fr:∀ c o,H c=some o->c≠p->c≠A.mp->c≠A.el->c≠q->c≠s->(∀ j,j < A.n->¬ O j c)->H' c=some o
 live:∀ c o,H c=some o->∃ o',H' c=some o'
def RGo.free {s:Addr} {A:FA} {H H':Hp} {ml el c:Addr} (h:RGo p q s A O H H' ml el O') (hc:H' c=none):H c=none:=by
 cases e:H c with
 | none=>rfl
 | some o =>
  obtain ⟨a,w⟩:=h.live c o e;rw [hc] at w;cases w
def RGo.refl {s:Addr} {A:FA} {H:Hp}:RGo p q s A O H H A.ml A.el O:=⟨.inl rfl,.inl rfl,fun _ _ _ w=>.inl w,fun _ _ e _ _ _ _ _ _=>e,fun _ o e=>⟨o,e⟩⟩
theorem RGo.trans {s:Addr} {A:FA} {O1:Nat->Addr->Prop} {H H1 H2:Hp} {ml el pl ml2 el2:Addr} {sl:Nat->Addr} (h:RGo p q s A O H H1 ml el O1) (k:RGo p q s (A.re ml el pl sl) O1 H1 H2 ml2 el2 O2):RGo p q s A O H H2 ml2 el2 O2:=by
 exists ?_,?_,fun j c a w=>?_,fun c o e g b i l f d=>?_,fun c o e=>?_
 .rcases k.hm with z | z
  .rcases h.hm with y | y
   .exact .inl (z.trans y)
   .exact .inr (by rw [show ml2=ml from z]; exact y)
  .exact .inr (h.free z)
 .rcases k.he with z | z
  .rcases h.he with y | y
   .exact .inl (z.trans y)
   .exact .inr (by rw [show el2=el from z]; exact y)
  .exact .inr (h.free z)
 .rcases k.hO j c a w with v | v
  .exact h.hO j c a v
  .exact .inr (h.free v)
 .refine k.fr c o (h.fr c o e g b i l f d) g b (fun z=>?_) l f (fun j a w=>?_)
  .rcases h.he with y | y
   .exact i (z.trans y)
   .rw [show c=el from z,y] at e;cases e
  .rcases h.hO j c a w with v | v
   .exact d j a v
   .rw [e] at v;cases v
 .obtain ⟨m,n⟩:=h.live c o e;exact k.live c m n
def RGo.same {s:Addr} {A:FA} {H H1 H2:Hp} {ml el:Addr} (h:RGo p q s A O H H1 ml el O') (S:yv H1 H2):RGo p q s A O H H2 ml el O' :=
 ⟨h.hm,h.he,h.hO,fun c o e f a g i d b=>S _ _ (h.fr c o e f a g i d b),fun c o e=>let ⟨o',w⟩:=h.live c o e; ⟨o',S _ _ w⟩⟩
structure j7 (K:W.Frag) (a:Ads) (H:Hp) (p:Addr) (A:FA) (X:FX) (f:Nat->List Int->Option Slt) (O:Nat->Addr->Prop) (m:Nat) (q dx pd s ds:Addr) (d:List Int) (x:Sn):Prop where
 ft:uv K a H p A X f O m
 sk:yfu a H q dx pd s ds d x
 ok:OkS x
 nO:∀ i,i < A.n->¬ O i q/\¬ O i s
 nd:pd≠A.el
theorem j7.same {H H':Hp} {A:FA} {X:FX} {f:Nat->List Int->Option Slt} {m:Nat} {dx pd s:Addr} {d:List Int} {x:Sn} (h:j7 K a H p A X f O m q dx pd s ds d x) (S:yv H H'):j7 K a H' p A X f O m q dx pd s ds d x:=⟨h.ft.same S,h.sk.same S,h.ok,h.nO,h.nd⟩
def chX (A:FA) (X:FX):Int:=yoz X.ws (X.cs A)
def uv.but2 {H H':Hp} {A:FA} {X:FX} {f:Nat->List Int->Option Slt} {m:Nat} {dx pd s:Addr} {d:List Int} {x:Sn} (h:j7 K a H p A X f O m q dx pd s ds d x) (B:yj2 q s H H'):uv K a H' p A X f O m:=by
 have j:=h.sk.me;have k:=h.sk.sp;refine h.ft.frame (O2:=fun c=>c=q\/c=s) (fun c o e n=>B c o e (fun z=>n (.inl z)) (fun z=>n (.inr z))) (fun z=>?_) (fun z=>?_) (fun i g z=>?_) (fun i c g w z=>?_) (fun l r _ e=>h.sk.lst B e) (fun t r e=>?_)
 .rcases z with z | z
  .exact x9 h.ft.me j (show ¬ (6=4) by decide) z
  .exact x9 h.ft.me k (show ¬ (6=3) by decide) z
 .rcases z with z | z
  .exact x9 h.ft.mx.o j (show ¬ (1=4) by decide) z
  .exact x9 h.ft.mx.o k (show ¬ (1=3) by decide) z
 .rcases z with z | z
  .exact x9 (h.ft.B.b i g).me j (show ¬ (2=4) by decide) z
  .exact x9 (h.ft.B.b i g).me k (show ¬ (2=3) by decide) z
 .rcases z with z | z
  .exact (h.nO i g).1 (z ▸ w)
  .exact (h.nO i g).2 (z ▸ w)
 .rcases e with (e | ⟨o,e⟩) | e
  .exact .inl (.inl (h.sk.tup B e))
  .exact .inl (.inr ⟨o,B _ _ e (ww e j (by intro z; cases z)) (ww e k (by intro z; cases z))⟩)
  .exact .inr e
#synth yon ["foreteller","seeker","bit"] ["foreteller","seeker"] ysh
inductive ydf (K:W.Frag) (a:Ads) (vs:List V) (H:Hp) (Q:VK) (E':XK):Prop
 | mk (p:Addr) (A:FA) (X:FX) (f:Nat->List Int->Option Slt) (O:Nat->Addr->Prop) (m:Nat) (q dx pd s ds:Addr) (d:List Int) (x:Sn) (_:vs=[.ref p,.ref q]) (_:j7 K a H p A X f O m q dx pd s ds d x) (_:m+20 < 1000000) (_:0 <= X.nd) (_:X.sg.length <= 100000) (_:∀ (ml el pl:Addr) (sl:Nat->Addr) (f':Nat->List Int->Option Slt) (O':Nat->Addr->Prop) (H':Hp),j7 K a H' p (A.re ml el pl sl) (X.see A (Ý d x (chX A X))) f' O' (m+A.n) q dx pd s ds d (nar x (chX A X) (Ý d x (chX A X)))->RGo p q s A O H H' ml el O'->Q (.int (Ý d x (chX A X))) H')
def yow:vk P w K mg Γ CX0 7 a.Ks a.Kt ["foreteller","seeker"] (ydf K a):=by
 exists T.Gp.F.ok,yon,hr;obtain ⟨p,t,X,f,O,m,q,dx,W,u,ds,d,x,rfl,n,hm,a1,Y,k⟩:=h;have hp:=n.ft.me;have hq:=n.sk.me;have J:Ch (chX t X):=yin n.ft.n1 n.ft.wok n.ft.cok;have a0:=ydq J;exists 2,1,ye (yo (i:=2) yon.nd rfl (Or.inl rfl) (vg (pv 1) T.Bu T.Gm.m (yvw T) hr.m T.Gm.B .nil vh (pa1 (vo (pv 0) T.Ae T.Dh.m (ynm T) hr.m T.Dh.B .nil vx)))) (ye (yt (xf (pv 0) T.Ae T.Cn.m (yjc T) hr.m T.Cn.B .nil vx (pa1 (pv 2)))) (yc (yp (pv 2))));exists p,t,X,f,O,m,rfl,n.ft,fun H1 G=>?_;have R:=n.same G;rfl';exists q,dx,W,u,ds,d,x,.int (chX t X),_,rfl,R.sk,n.ok,.int _,fun z=>(by rw [a0] at z; cases z),fun c' ec _ H2 g D=>?_;cases ec;have l:=uv.but2 R D;have a9:=l.me
 obtain ⟨b0,b1⟩:0 <= Ý d x (chX t X)/\Ý d x (chX t X) <= 1:=by
  rcases ŋ d x (chX t X) with e | e <;> (rw [e]; decide)
 generalize hb:Ý d x (chX t X)=b at b0 b1 g k;rfl';exists p,t,X,f,O,m,b,rfl,l,b0,b1,hm,a1,Y,fun L N pl sl f' O' H3 he a4 hO U lv r=>?_;have Z:q≠p:=x9 g.me l.me (show ¬ (4=6) by decide);have a7:q≠t.mp:=x9 g.me l.mx.o (show ¬ (4=1) by decide);have a2:u≠p:=x9 g.sp l.me (show ¬ (3=6) by decide);have a5:u≠t.mp:=x9 g.sp l.mx.o (show ¬ (3=1) by decide)
 have I:∀ {c C dc:Addr} {fs:List (Str × V)},H2 c=some (.ins C dc fs)->c≠t.el:=fun e z=>by
  have e2:=l.el;rw [<- z,e] at e2;cases e2
 have S:=U _ _ g.me Z a7 (I g.me) fun i y=>(n.nO i y).1;have M:=U _ _ g.sp a2 a5 (I g.sp) fun i y=>(n.nO i y).2;have a3:H3 W=some (.lst (d.map V.int)):=U _ _ g.dt (fun z=>by have e:=g.dt; rw [z,l.me] at e; cases e) (fun z=>by have e:=g.dt; rw [z,l.mx.o] at e; cases e) n.nd (l.B.nlst g.dt);rfl';refine k L N pl sl f' O' H3 ⟨a4,⟨S,a3,M,g.ne⟩,yb0 n.ok J,fun i y=>⟨fun w=>?_,fun w=>?_⟩,?_⟩ ⟨.inr ?_,?_,fun j c hj w=>?_,fun c o e c1 c2 c3 c4 c5 no=>?_,fun c o e=>?_⟩
 .rcases hO i q y w with v | v
  .exact (n.nO i y).1 v
  .rw [g.me] at v;cases v
 .rcases hO i u y w with v | v
  .exact (n.nO i y).2 v
  .rw [g.sp] at v;cases v
 .rcases he with z | z
  .rw [show (t.re L N pl sl).el=t.el from z];exact n.nd
  .exact yb g.dt z
 .cases e:H L with
  | none=>rfl
  | some o =>
   by_cases z1:L=q
   .rw [z1,g.me] at r;cases r
   by_cases z2:L=u
   .rw [z2,g.sp] at r;cases r
   rw [D _ _ (G _ _ e) z1 z2] at r;cases r
 .rcases he with z | z
  .exact .inl z
  .refine .inr ?_
   cases e:H N with
   | none=>rfl
   | some o =>
    by_cases z1:N=q
    .rw [z1,g.me] at z;cases z
    by_cases z2:N=u
    .rw [z2,g.sp] at z;cases z
    rw [D _ _ (G _ _ e) z1 z2] at z;cases z
 .rcases hO j c hj w with v | v
  .exact .inl v
  .refine .inr ?_
   cases e:H c with
   | none=>rfl
   | some o =>
    by_cases z1:c=q
    .rw [z1,g.me] at v;cases v
    by_cases z2:c=u
    .rw [z2,g.sp] at v;cases v
    rw [D _ _ (G _ _ e) z1 z2] at v;cases v
 .exact U c o (D _ _ (G _ _ e) c4 c5) c1 c2 c3 no
 .by_cases z1:c=q
  .exists _,z1 ▸ S
  by_cases z2:c=u
  .exists _,z2 ▸ M
  exact lv c o (D _ _ (G _ _ e) z1 z2)
def rnx (A:FA) (d:List Int) (S:FX × Sn):FX × Sn:=(S.1.see A (Ý d S.2 (chX A S.1)),nar S.2 (chX A S.1) (Ý d S.2 (chX A S.1)))
def rst (A:FA) (d:List Int) (S:FX × Sn):Nat->FX × Sn
 | 0=>S
 | n+1=>rnx A d (rst A d S n)
def χ (A:FA) (d:List Int) (S:FX × Sn) (n:Nat):Int:=Ý d (rst A d S n).2 (chX A (rst A d S n).1)
def ym7 (A:FA) (d:List Int) (S:FX × Sn) (n:Nat):χ A d S n=0\/χ A d S n=1:=ŋ _ _ _
theorem ybx (A:FA) (d:List Int) (S:FX × Sn) (k:Nat):∀ n,rst A d (rst A d S k) n=rst A d S (k+n)
 | 0=>rfl
 | n+1=>congrArg (rnx A d) (ybx A d S k n)
theorem yiw (A:FA) (d:List Int) (S:FX × Sn) (ml el pl:Addr) (sl:Nat->Addr):∀ n,rst (A.re ml el pl sl) d S n=rst A d S n
 | 0=>rfl
 | n+1=>by
  show rnx (A.re ml el pl sl) d (rst (A.re ml el pl sl) d S n)=_;rw [yiw A d S ml el pl sl n];rfl
def yzh (A:FA) (X:FX) (b:Int) (h:0 <= X.nd) (hb:0 <= b):0 <= (X.see A b).nd:=by
 show 0 <= ndN X.nd b;unfold ndN
 split
 .split <;> omega
 .split <;> omega
def yyd (A:FA) (X:FX) (b:Int):(X.see A b).sg.length <= X.sg.length+1:=by
 show (sgN X.sg X.nd b).length <= _;unfold sgN
 split
 .split
  .rw [cF]; exact cE _
  .omega
 .split
  .omega
  .exact cV _
theorem ydt (A:FA) (d:List Int) (S:FX × Sn) (h:0 <= S.1.nd):∀ n,0 <= (rst A d S n).1.nd
 | 0=>h
 | n+1=>yzh A _ _ (ydt A d S h n) (by rcases ym7 A d S n with e | e <;> (unfold χ at e; rw [e]; decide))
theorem yd1 (A:FA) (d:List Int) (S:FX × Sn):∀ n,(rst A d S n).1.sg.length <= S.1.sg.length+n
 | 0=>cE _
 | n+1=>dh (yyd A _ _) (Nat.succ_le_succ (yd1 A d S n))
theorem j7.app {H:Hp} {R:Addr} {A:FA} {X:FX} {f:Nat->List Int->Option Slt} {m:Nat} {dx pd s:Addr} {d:List Int} {x:Sn} {xs ys:List V} (h:j7 K a H p A X f O m q dx pd s ds d x) (hR:H R=some (.lst xs)) (hq:∀ q,(q=A.bl\/q=A.el\/q=A.ml\/q=A.pl)->q≠R) (np:pd≠R):j7 K a (upd H R (.lst ys)) p A X f O m q dx pd s ds d x:=by
 exists h.ft.app hR hq,⟨yf (fun z=>?_) h.sk.me,yf np h.sk.dt,yf (fun z=>?_) h.sk.sp,h.sk.ne⟩,h.ok,h.nO,h.nd
 .have e:=h.sk.me;rw [z,hR] at e;cases e
 .have e:=h.sk.sp;rw [z,hR] at e;cases e
def j7.notN {H:Hp} {R:Addr} {A:FA} {X:FX} {f:Nat->List Int->Option Slt} {m:Nat} {dx pd s:Addr} {d:List Int} {x:Sn} (h:j7 K a H p A X f O m q dx pd s ds d x) (hR:H R=some (.lst (xs.map V.int))) (nm:R≠A.ml) (ne:R≠A.el):∀ q,(q=A.bl\/q=A.el\/q=A.ml\/q=A.pl)->q≠R:=fun q j z=>by
 have i:=h.ft.n1
 have b:∀ (g:Nat->Addr),xs.map V.int=refs g A.n->False:=fun g e=>by
  have c:(refs g A.n)[0]?=some (V.ref (g 0)):=yyo i;rw [<- e,cG] at c
  cases w:xs[0]? with
  | none=>rw [w] at c; cases c
  | some y=>rw [w] at c; cases c
 rcases j with y | y | y | y
 .have e:=h.ft.bl;rw [<- y,z,hR] at e;exact b _ (HO.lst.inj (cS e))
 .exact ne (z.symm.trans y)
 .exact nm (z.symm.trans y)
 .have e:=h.ft.pl;rw [<- y,z,hR] at e;exact b _ (HO.lst.inj (cS e))
def RGo.app {s R:Addr} {A:FA} {H H1:Hp} {ml el:Addr} {o':HO} (h:RGo p q s A O H H1 ml el O') (hR:H R=none):RGo p q s A O H (upd H1 R o') ml el O' :=
 ⟨h.hm,h.he,h.hO,fun c o e f a g i d b=>yf (yb e hR) (h.fr c o e f a g i d b),fun c o e=>let ⟨o1,w⟩:=h.live c o e; ⟨o1,yf (yb e hR) w⟩⟩
def wB (i:Nat):Int:=([128,64,32,16,8,4,2,1]:List Int)[i]?.getD 0
def vbz (i:Nat):0 <= wB i/\wB i <= 128:=by
 rcases i with _ | _ | _ | _ | _ | _ | _ | _ | i
 .exists by decide,by decide
 .exists by decide,by decide
 .exists by decide,by decide
 .exists by decide,by decide
 .exists by decide,by decide
 .exists by decide,by decide
 .exists by decide,by decide
 .exists by decide,by decide
 .exists by show (0:Int) <= 0; decide,by show (0:Int) <= 128; decide
def sgB (A:FA) (d:List Int) (S:FX × Sn) (i:Nat):List Int:=(List.range i).map fun j=>wB j * χ A d S j
def yko (A:FA) (d:List Int) (S:FX × Sn) (i:Nat):sgB A d S (i+1)=sgB A d S i++[wB i * χ A d S i]:=by
 unfold sgB;rw [List.range_succ,cM];rfl
#synth yv3 ["foreteller","seeker"] ytj
inductive ŵ (K:W.Frag) (a:Ads) (vs:List V) (H:Hp) (Q:VK) (E':XK):Prop
 | mk (p:Addr) (A:FA) (S:FX × Sn) (f:Nat->List Int->Option Slt) (O:Nat->Addr->Prop) (m:Nat) (q dx pd s ds:Addr) (d:List Int) (_:vs=[.ref p,.ref q]) (_:j7 K a H p A S.1 f O m q dx pd s ds d S.2) (_:m+80 < 1000000) (_:0 <= S.1.nd) (_:S.1.sg.length <= 90000) (_:∀ (ml el pl:Addr) (sl:Nat->Addr) (f':Nat->List Int->Option Slt) (O':Nat->Addr->Prop) (H':Hp),j7 K a H' p (A.re ml el pl sl) (rst A d S 8).1 f' O' (m+8 * A.n) q dx pd s ds d (rst A d S 8).2->RGo p q s A O H H' ml el O'->Q (.int (sgB A d S 8).sum) H')
def yxp:vk P w K mg Γ CX0 8 a.Ku a.Kv ["foreteller","seeker"] (ŵ K a):=by
 exists T.N5.F.ok,yv3,hr;obtain ⟨p,b,S,f,O,m,q,dx,pd,Z,ds,d,rfl,N,hm,a2,a8,k⟩:=h;have n6:=N.ft.n6;exists 2,0,yc (yp (pcB (θ rfl) T.Dv (pa1 (wn (js:=[1,0]) (ys:=["seeker","foreteller"]) rfl (ydx (yb6 rfl T.Hc)) (fun C s2 H2 fp=>(yn wu (pv 0) (xw (yow T) hr.m T.Gp (pac (pv 2) (pa1 (pv 1)))))) rfl rfl (hyc:=(all_cons rfl (all_cons rfl yx))) (hrel:=(all_cons rfl (all_cons rfl yx)))))));exists a.Bm,rfl,⟨_,T.Ct H⟩,fun D Y=>?_;refine Ų (xs:=[.int 128,.int 64,.int 32,.int 16,.int 8,.int 4,.int 2,.int 1]) (fun i G=>∃ (r x U:Addr) (X:Nat->Addr) (f':Nat->List Int->Option Slt) (O':Nat->Addr->Prop),j7 K a G p (b.re r x U X) (rst b d S i).1 f' O' (m+i * b.n) q dx pd Z ds d (rst b d S i).2/\RGo p q Z b O H G r x O'/\G D=some (.lst ((sgB b d S i).map V.int))/\D≠r/\D≠x) ?_ (fun i G _ _=>T.Ct G) ?_ ?_
 .have S1:yv H (upd H D (.lst [])):=y8 Y;exists b.ml,b.el,b.pl,b.sl,f,O,?_,RGo.refl.same S1,ya,(yb N.ft.mx.l Y).symm,(yb N.ft.el Y).symm;rw [Nat.zero_mul];exact N.same S1
 .rintro i y G j a3 ⟨r,x,U,X,f1,O1,e,u,c,I,t⟩;have hi:i < 8:=a3
  obtain rfl:y=V.int (wB i):=by
   rcases i with _ | _ | _ | _ | _ | _ | _ | _ | i
   .exact (cS j).symm
   .exact (cS j).symm
   .exact (cS j).symm
   .exact (cS j).symm
   .exact (cS j).symm
   .exact (cS j).symm
   .exact (cS j).symm
   .exact (cS j).symm
   .omega
  have aa:i * b.n <= 8 * b.n:=Nat.mul_le_mul_right _ (by omega);obtain ⟨a6,ab⟩:=vbz i;have a0:=ydt b d S a2 i;have a9:=yd1 b d S i;rfl';exists p,b.re r x U X,(rst b d S i).1,f1,O1,m+i * b.n,q,dx,pd,Z,ds,d,(rst b d S i).2,rfl,e,by omega,a0,by omega,fun R M a1 a5 f2 O2 G2 L g=>?_
  have v:G2 D=some (.lst ((sgB b d S i).map V.int)):=g.fr _ _ c (ww c e.ft.me (by intro z; cases z)) (ww c e.ft.mx.o (by intro z; cases z)) t (ww c e.sk.me (by intro z; cases z)) (ww c e.sk.sp (by intro z; cases z)) (e.ft.B.nlst c)
  have W:D≠R:=by
   rcases g.hm with z | z
   .rw [z]; exact I
   .exact yb c z
  have J:D≠M:=by
   rcases g.he with z | z
   .rw [z]; exact t
   .exact yb c z
  exists wB i,_,rfl,rfl,.inl ⟨by omega,by omega⟩,?_;exists _,v,?_,8 - (i+1),by show 8 - (i+1) < 8 - i; omega,rfl,hi,R,M,a1,a5,f2,O2,?_,?_,?_,W,J
  .unfold sgB;rw [cA,cA,da];exact Nat.lt_trans hi (by decide)
  .rw [show m+(i+1) * b.n=m+i * b.n+b.n by rw [Nat.succ_mul,Nat.add_assoc]];exact j7.app L v (L.notN v W J) (yb N.sk.dt Y)
  .exact (u.trans g).app Y
  .rw [yko,cM];exact ya
 .rintro G ⟨r,x,U,X,f1,O1,e,u,c,I,t⟩;rfl';exists D,sgB b d S 8,rfl,SqL.of c,?_;rfl';exact k r x U X f1 O1 G e u
theorem j7.up {H:Hp} {A:FA} {X:FX} {f:Nat->List Int->Option Slt} {m:Nat} {dx pd s:Addr} {d:List Int} {x:Sn} (h:j7 K a H p A X f O m q dx pd s ds d x) (hm:m <= m'):j7 K a H p A X f O m' q dx pd s ds d x:=⟨h.ft.up hm,h.sk,h.ok,h.nO,h.nd⟩
def yqt (A:FA) (d:List Int) (S:FX × Sn) (ml el pl:Addr) (sl:Nat->Addr) (n:Nat):χ (A.re ml el pl sl) d S n=χ A d S n:=by
 unfold χ;rw [yiw];rfl
def yw3 (A:FA) (d:List Int) (S:FX × Sn) (ml el pl:Addr) (sl:Nat->Addr) (n:Nat):sgB (A.re ml el pl sl) d S n=sgB A d S n:=by
 unfold sgB;exact List.map_congr_left fun j _=>by rw [yqt]
def rsg (A:FA) (d:List Int) (S:FX × Sn) (k:Nat):Int:=(sgB A d (rst A d S (9 * k+1)) 8).sum
def rtx (A:FA) (d:List Int) (S:FX × Sn) (k:Nat):List Int:=(List.range k).map (rsg A d S)
def ylm (A:FA) (d:List Int) (S:FX × Sn) (k:Nat):rtx A d S (k+1)=rtx A d S k++[rsg A d S k]:=by
 unfold rtx;rw [List.range_succ,cM];rfl
def yhx (A:FA) (d:List Int) (S:FX × Sn) (k:Nat):(rtx A d S k).length=k:=by
 unfold rtx;rw [cA,da]
section
variable {G:Hp} {A:FA} {S:FX × Sn} {f:Nat->List Int->Option Slt} {m n:Nat} {dx pd s ml el pl:Addr} {sl:Nat->Addr} {d:List Int} {Q:VK} {E:XK}
def yyh (hR:j7 K a G p (A.re ml el pl sl) (rst A d S n).1 f O m q dx pd s ds d (rst A d S n).2) (hm:m+20 < 1000000) (nd0:0 <= S.1.nd) (hsg:S.1.sg.length+n <= 100000)
  (k:∀ (ml2 el2 pl2:Addr) (sl2:Nat->Addr) (f':Nat->List Int->Option Slt) (O':Nat->Addr->Prop) (H':Hp),j7 K a H' p (A.re ml2 el2 pl2 sl2) (rst A d S (n+1)).1 f' O' (m+6) q dx pd s ds d (rst A d S (n+1)).2->RGo p q s (A.re ml el pl sl) O G H' ml2 el2 O'->Q (.int (χ A d S n)) H'):ydf K a [.ref p,.ref q] G Q E :=
 ⟨p,A.re ml el pl sl,(rst A d S n).1,f,O,m,q,dx,pd,s,ds,d,(rst A d S n).2,rfl,hR,hm,ydt A d S nd0 n,dh (yd1 A d S n) hsg,fun ml2 el2 pl2 sl2 f' O' H' b c=>k ml2 el2 pl2 sl2 f' O' H' (j7.up b (Nat.add_le_add_left hR.ft.n6 m)) c⟩
def yq5 (hR:j7 K a G p (A.re ml el pl sl) (rst A d S n).1 f O m q dx pd s ds d (rst A d S n).2) (hm:m+80 < 1000000) (nd0:0 <= S.1.nd) (hsg:S.1.sg.length+n <= 90000)
  (k:∀ (ml2 el2 pl2:Addr) (sl2:Nat->Addr) (f':Nat->List Int->Option Slt) (O':Nat->Addr->Prop) (H':Hp),j7 K a H' p (A.re ml2 el2 pl2 sl2) (rst A d S (n+8)).1 f' O' (m+48) q dx pd s ds d (rst A d S (n+8)).2->RGo p q s (A.re ml el pl sl) O G H' ml2 el2 O'->Q (.int (sgB A d (rst A d S n) 8).sum) H'):ŵ K a [.ref p,.ref q] G Q E:=by
 exists p,A.re ml el pl sl,rst A d S n,f,O,m,q,dx,pd,s,ds,d,rfl,hR,hm,ydt A d S nd0 n,dh (yd1 A d S n) hsg,fun ml2 el2 pl2 sl2 f' O' H' b c=>?_;have e:A.n <= 6:=hR.ft.n6;have b:=j7.up b (show m+8 * A.n <= m+48 by omega);rw [yiw,ybx] at b;rw [yw3];exact k ml2 el2 pl2 sl2 f' O' H' b c
end
#synth ynz ["foreteller","seeker","most","text"] ["foreteller","seeker","most"] yr2
inductive yfv (K:W.Frag) (a:Ads) (vs:List V) (H:Hp) (Q:VK) (E:XK):Prop
 | mk (p:Addr) (A:FA) (S:FX × Sn) (f:Nat->List Int->Option Slt) (O:Nat->Addr->Prop) (m:Nat) (q dx pd s ds:Addr) (d:List Int) (mo:Nat) (_:vs=[.ref p,.ref q,.int mo]) (_:j7 K a H p A S.1 f O m q dx pd s ds d S.2) (_:mo <= 1000) (_:m+54 * mo+200 < 1000000) (_:0 <= S.1.nd) (_:S.1.sg.length <= 10000) (_:(∀ (N:Nat) (r ml el pl:Addr) (sl:Nat->Addr) (f':Nat->List Int->Option Slt) (O':Nat->Addr->Prop) (H':Hp),N <= mo->(∀ j,j < N->χ A d S (9 * j)=1)->χ A d S (9 * N)=0->H r=none->H' r=some (.lst ((rtx A d S N).map V.int))->r≠el->j7 K a H' p (A.re ml el pl sl) (rst A d S (9 * N+1)).1 f' O' (m+54 * N+6) q dx pd s ds d (rst A d S (9 * N+1)).2->RGo p q s A O H H' ml el O'->Q (.ref r) H')) (_:((∀ j,j <= mo->χ A d S (9 * j)=1)->∀ (ml el:Addr) (O':Nat->Addr->Prop) (H':Hp),RGo p q s A O H H' ml el O'->E (.ref a.Ep) none H'))
def yv1:vk P w K mg Γ (CXe P w) 9 a.Kw a.Kx ["foreteller","seeker","most"] (yfv K a):=by
 exists T.N6.F.okE,ynz,hr;obtain ⟨p,g,S,f,O,m,q,dx,pd,W,ds,d,mo,rfl,hR,ak,hm,a1,am,kQ,kE⟩:=h;exists 3,1,ye (yo (i:=3) ynz.nd rfl (Or.inl rfl) (xh ua)) (ye (zj PassesOwn.leaving (yu xz (xw (yow T) hr.m T.Gp (pac (pv 0) (pa1 (pv 1)))) yg (yz _)) (ye (wd (yu xz (pcB yr T.Ac (pa1 (pv 3))) (pv 2) (yz _)) (yc (wz rfl T.Qv T.Pw (pa1 wy))) y6) (yc (yt (Č PySem.F.plainAttrs_list PySem.F.slot_list_append PySem.F.type_list_append xg (pv 3) (pa1 (xw (yxp T) hr.m T.N5 (pac (pv 0) (pa1 (pv 1)))))))))) (yc (yp (pv 3))));exists by walk_at "len",fun r hr0=>?_
 exists hr0,H1,S1,hr1;have a9:pd≠r:=yb hR.sk.dt hr0;rfl'
 refine ⟨fun w σ' G=>∃ (N:Nat) (D I Z:Addr) (sl:Nat->Addr) (f':Nat->List Int->Option Slt) (O':Nat->Addr->Prop),σ'=[some (.ref p),some (.ref q),some (.int mo),some (.ref r)]/\N <= mo/\(∀ j,j < N->χ g d S (9 * j)=1)/\j7 K a G p (g.re D I Z sl) (rst g d S (9 * N)).1 f' O' (m+54 * N) q dx pd W ds d (rst g d S (9 * N)).2/\RGo p q W g O H G D I O'/\G r=some (.lst ((rtx g d S N).map V.int))/\r≠D/\r≠I/\w=mo - N,
  ⟨_,0,g.ml,g.el,g.pl,g.sl,f,O,rfl,cV _,fun j hj=>absurd hj (cY j),hR.same S1,RGo.refl.same S1,hr1,(yb hR.ft.mx.l hr0).symm,(yb hR.ft.el hr0).symm,rfl⟩,?_⟩
 rintro w σ2 G ⟨N,D,I,Z,sl,f1,O1,rfl,hN,a6,e,ab,aj,J,y,rfl⟩;rfl';refine yyh e (by omega) a1 (by omega) fun u n ad ai f2 O2 G2 M k=>?_
 have v:∀ {G G2:Hp} {D I Z u n:Addr} {sl:Nat->Addr} {X:FX} {f1:Nat->List Int->Option Slt} {O1 O2:Nat->Addr->Prop} {m x} {xs:List V},j7 K a G p (g.re D I Z sl) X f1 O1 m q dx pd W ds d x->RGo p q W (g.re D I Z sl) O1 G G2 u n O2->G r=some (.lst xs)->r≠D->r≠I->G2 r=some (.lst xs)/\r≠u/\r≠n:=fun e k c J y=>by
  exists k.fr _ _ c (ww c e.ft.me (by intro z; cases z)) (ww c e.ft.mx.o (by intro z; cases z)) y (ww c e.sk.me (by intro z; cases z)) (ww c e.sk.sp (by intro z; cases z)) (e.ft.B.nlst c),?_,?_
  .rcases k.hm with z | z
   .rw [z]; exact J
   .exact yb c z
  .rcases k.he with z | z
   .rw [z]; exact y
   .exact yb c z
 obtain ⟨C,aa,R⟩:=v e k aj J y;have t:=ab.trans k;have a2:=ym7 g d S (9 * N);generalize ag:χ g d S (9 * N)=b at a2;rfl';refine uu (fun hb=>?_) (fun hb=>?_)
 .subst hb
  have a5:∀ j,j < N+1->χ g d S (9 * j)=1:=fun j hj=>by
   by_cases z:j=N
   .rw [z]; exact ag
   .exact a6 j (by omega)
  refine yam ?_;rfl';refine ue (SqL.of C) ?_;rw [cA,yhx];rfl';refine uu (fun hc=>?_) (fun hc=>?_)
  .have an:N=mo:=by omega
   rfl';exists by walk_at "len",kE (fun j hj=>a5 j (by omega)) u n O2 G2 t
  .rfl';refine Ì C ?_;rfl';refine yq5 M (by omega) a1 (by omega) fun a7 ae a8 af f3 O3 G3 U a3=>?_;obtain ⟨L,Y,a4⟩:=v M a3 C aa R;have a0:=t.trans a3;rfl';refine xy L (vd (by rw [cA,yhx]; omega)) ?_;rfl';exists _,?_,N+1,a7,ae,a8,af,f3,O3,rfl,by omega,a5,?_,a0.app hr0,?_,Y,a4,rfl
   .omega
   .exact j7.app U L (U.notN L Y a4) a9
   .rw [ya,ylm,cM];rfl
 .have ac:χ g d S (9 * N)=0:=by omega
  rfl';exact kQ N r u n ad ai f2 O2 G2 hN a6 ac hr0 C R M t
def yp6 (x:Sn) (c b:Int):(nar x c b).2.2 <= x.2.2+2:=by
 unfold nar ren
 (repeat' split) <;> (dsimp only; omega)
theorem yn2 (A:FA) (d:List Int) (S:FX × Sn):∀ n:Nat,(rst A d S n).2.2.2 <= S.2.2.2+2 * (n:Int)
 | 0=>by show S.2.2.2 <= S.2.2.2+2 * ((0:Nat):Int); omega
 | n+1=>by
  have a:=yn2 A d S n;have b:=yp6 (rst A d S n).2 (chX A (rst A d S n).1) (Ý d (rst A d S n).2 (chX A (rst A d S n).1));show (nar (rst A d S n).2 (chX A (rst A d S n).1) (Ý d (rst A d S n).2 (chX A (rst A d S n).1))).2.2 <= _;omega
structure ROk (A:FA) (d:List Int) (S:FX × Sn) (N:Nat):Prop where
 b1:∀ j,j < N->χ A d S (9 * j)=1
 b0:χ A d S (9 * N)=0
 tk:d.take (tL (rst A d S (9 * N+1)).2).length=tL (rst A d S (9 * N+1)).2
def ROk.uniq {A:FA} {d:List Int} {S:FX × Sn} {N M:Nat} (h:ROk A d S N) (b1:∀ j,j < M->χ A d S (9 * j)=1) (b0:χ A d S (9 * M)=0):M=N:=by
 rcases Nat.lt_trichotomy M N with z | z | z
 .have e:=h.b1 M z;rw [b0] at e;cases e
 .exact z
 .have e:=b1 N z;rw [h.b0] at e;cases e
def rTL (A:FA) (d:List Int) (S:FX × Sn) (N:Nat):Nat:=(tL (rst A d S (9 * N+1)).2).length
def RGo.fgo {s:Addr} {A:FA} {H0 H H':Hp} {ml el:Addr} (S:yv H0 H) (hq:H0 q=none) (hs:H0 s=none) (h:RGo p q s A O H H' ml el O'):FGo p A O H0 H' el O' :=
 ⟨h.he.imp id S.free,fun j c g w=>(h.hO j c g w).imp id S.free,fun c o e d a f b=>h.fr c o (S _ _ e) d a f (yb e hq) (yb e hs) b,fun c o e=>h.live c o (S _ _ e)⟩
#synth ydy ["foreteller","data","most","seeker","text","own"] ["foreteller","data","most"] ysn
inductive ź (K:W.Frag) (a:Ads) (vs:List V) (H:Hp) (Q:VK) (E:XK):Prop
 | mk (p:Addr) (A:FA) (X:FX) (f:Nat->List Int->Option Slt) (O:Nat->Addr->Prop) (m:Nat) (dt:Addr) (d:List Int) (mo:Nat) (_:vs=[.ref p,.ref dt,.int mo]) (_:uv K a H p A X f O m) (_:H dt=some (.lst (d.map V.int))) (_:dt≠A.el) (_:Byt d) (_:d.length <= 12000) (_:mo <= 1000) (_:m+54 * mo+200 < 1000000) (_:0 <= X.nd) (_:X.sg.length <= 10000) (_:(∀ (N:Nat) (t r el:Addr) (O':Nat->Addr->Prop) (H':Hp),N <= mo->ROk A d (X,s0) N->H t=none->H r=none->H' t=some (.tup [.ref r,.int (rTL A d (X,s0) N)])->H' r=some (.lst ((rtx A d (X,s0) N).map V.int))->FGo p A O H H' el O'->(r≠el/\∃ ml pl sl f',uv K a H' p (A.re ml el pl sl) (rst A d (X,s0) (9 * N+1)).1 f' O' (m+54 * N+6))->Q (.ref t) H')) (_:((∀ N,N <= mo->¬ ROk A d (X,s0) N)->∀ (el:Addr) (O':Nat->Addr->Prop) (H':Hp),FGo p A O H H' el O'->E (.ref a.Ep) none H'))
def yvr:vk P w K mg Γ (CXe P w) 10 a.Ky a.Kz ["foreteller","data","most"] (ź K a):=by
 exists T.N7.F.okE,ydy,hr;obtain ⟨p,l,X,f,O,m,dt,d,mo,rfl,hF,x,a6,a8,a9,a1,hm,ab,a3,kQ,kE⟩:=h;refine yh (yo (i:=3) ydy.nd rfl (Or.inl rfl) (uk T.Ru (yvh T) hr.m rfl T.Rt T.Ef.B .nil y7 (pa1 (pv 1)))) ?_;refine yh (yo (i:=4) ydy.nd rfl (Or.inl rfl) (xr (yv1 T) hr.m T.N6 y7 (pac (pv 0) (pac (pv 3) (pa1 (pv 2)))))) ?_;refine yh (yo (i:=5) ydy.nd rfl (Or.inl rfl) (vo (pv 3) T.Bu T.Gn.m (yy4 T) hr.m T.Gn.B .nil vx)) ?_;refine yh (wd (yu (yd0 hr.units) (xx Ç (pv 1) zl (zn (pcB yr T.Ac (pa1 (pv 5))))) (pv 5) (yz _)) (yc (wz rfl T.Qv T.Pw (pa1 wy))) y6) ?_;exists 3,3,yc (yp (yak (pac (pv 4) (pa1 (pcB yr T.Ac (pa1 (pv 5)))))));intro q G U ad ai;have J:yv H (upd (upd H G (.own q)) q (.ins a.Ag G [])):=fun b o e=>by rw [yk (yb e U),yk (yb e ad)]; exact e
 exists q,G,.ref dt,_,rfl,ya,.lst (J _ _ x),.inr ⟨d,yk9 (J _ _ x) a8 a9,fun Z ps ds H1 Y I a7 B1=>⟨rfl,?_⟩⟩;have S1:yv H H1:=fun b o e=>B1 b o (J b o e) (yb e U);have y:H ps=none:=J.free I;have ac:H Z=none:=J.free Y
 have nO:∀ {c:Addr},H c=none->∀ i,i < l.n->¬ O i c:=fun D i hi w=>by
  obtain ⟨o,ho,_⟩:=(hF.B.b i hi).own _ w;rw [D] at ho;cases ho
 have hR:j7 K a H1 p l X f O m q G Z ps ds d s0:=⟨hF.same S1,a7,vcs,fun i hi=>⟨nO U i hi,nO y i hi⟩,(yb hF.el ac).symm⟩;rfl';exists p,l,(X,s0),f,O,m,q,G,Z,ps,ds,d,mo,rfl,hR,a1,hm,ab,a3,fun N r ml el pl sl f2 O2 H2 hN S L a5 aa a4 j v=>?_,fun R ml el O2 H2 v=>?_
 .have a2:=yn2 l d (X,s0) (9 * N+1);have a0:((X,s0):FX × Sn).2.2.2=5:=rfl;rw [a0] at a2;have go:=v.fgo S1 U y;have ah:=j.sk.me;have W:H2 dt=some (.lst (d.map V.int)):=(go.kpa hF).lst x a6;rfl';exists q,G,Z,ps,ds,d,_,rfl,j.sk,j.ok,by show Int.toNat _ <= 100000; omega,fun w H3 ag C S3=>?_
  rfl';refine ue (SqL.of C) ?_;rw [cA];rfl';refine yfm (SqL.of (S3 _ _ W)) fun u hu=>?_;have ec:ycl (d.map V.int) none (some (((tL (rst l d (X,s0) (9 * N+1)).2).length:Nat):Int))=(d.take (tL (rst l d (X,s0) (9 * N+1)).2).length).map V.int:=by rw [List.map_take]; exact ß _
  rw [ec];exists hu,H4,S4,hu4;have z:=go.same (S3.trans S4);rfl';refine vck _ _ (SqL.of hu4) (SqL.of (S4 _ _ C)) ?_;by_cases D:d.take (tL (rst l d (X,s0) (9 * N+1)).2).length=tL (rst l d (X,s0) (9 * N+1)).2
  .rw [cK D];rfl';refine ue (SqL.of (S4 _ _ C)) ?_;rw [cA];rfl';exists by walk_at "len",fun t g=>?_
   refine kQ N t r el O2 _ hN ⟨S,L,D⟩ (z.free g) (S1.free a5) ya (z5 g ((S3.trans S4) _ _ aa)) (z.same (y8 g)) ⟨a4,ml,pl,sl,f2,((j.ft.same (S3.trans S4)).same (y8 g))⟩
  .rw [cP D];rfl';exists by walk_at "len",kE (fun M hM k=>D (by rw [k.uniq S L]; exact k.tk)) el O2 _ z
 .exact kE (fun M hM k=>by have e:=R M hM; rw [k.b0] at e; cases e) el O2 H2 (v.fgo S1 U y)
structure vez (H:Hp) (L dt:Addr) (lx:V) (n:Nat) (lk:Nat->Addr) (kd:Nat->Fin 3) (tp:Nat->Addr) (ps:Nat->List Int) (d:List Int) (mo N w:Nat) (lt:Nat->Addr) (tt:Nat->List Int):Prop where
 l:H L=some (.lst (refs lk n))
 n1:1 <= n
 n6:n <= 6
 r:xu H n lk kd tp ps
 dat:H dt=some (.lst (d.map V.int))
 by':Byt d
 dl:d.length <= 12000
 mo1:mo <= 1000
 lr:yuf H lx N w lt tt
 w1:w <= 1000
 N1:N <= 1000
 b:6+6 * (N * (9 * w+1))+54 * mo+200 < 1000000
def rS (n:Nat) (kd:Nat->Fin 3) (ps:Nat->List Int) (pre:List Int):FX × Sn:=((FX0 n kd).run (fa0 n ps) pre,s0)
theorem j3 (A:FA) (d:List Int) (S:FX × Sn):∀ k,rst A d S k=rst (fa0 A.n A.ps) d S k
 | 0=>rfl
 | k+1=>by
  show rnx A d (rst A d S k)=rnx (fa0 A.n A.ps) d (rst (fa0 A.n A.ps) d S k);rw [j3 A d S k];rfl
def ν (A:FA) (d:List Int) (S:FX × Sn) (k:Nat):χ A d S k=χ (fa0 A.n A.ps) d S k:=by
 unfold χ;rw [j3];rfl
def yrd (A:FA) (d:List Int) (S:FX × Sn) (k:Nat):rsg A d S k=rsg (fa0 A.n A.ps) d S k:=by
 unfold rsg sgB;rw [j3];exact congrArg List.sum (List.map_congr_left fun j _=>by rw [ν])
def yqz (A:FA) (d:List Int) (S:FX × Sn) (k:Nat):rtx A d S k=rtx (fa0 A.n A.ps) d S k:=by
 unfold rtx;exact List.map_congr_left fun j _=>yrd A d S j
def yrf (A:FA) (d:List Int) (S:FX × Sn) (k:Nat):rTL A d S k=rTL (fa0 A.n A.ps) d S k:=by
 unfold rTL;rw [j3]
theorem ROk.fa0 {A:FA} {d:List Int} {S:FX × Sn} {N:Nat}:ROk A d S N ↔ ROk (fa0 A.n A.ps) d S N:=by
 constructor
 .intro h;exists fun j a=>by rw [<- ν]; exact h.b1 j a,by rw [<- ν]; exact h.b0,by rw [<- j3]; exact h.tk
 .intro h;exists fun j a=>by rw [ν]; exact h.b1 j a,by rw [ν]; exact h.b0,by rw [j3]; exact h.tk
def ymz {mx:Nat->Int} {d:List Int} (hd:Byt d) {m:Nat} (hc:∀ j,j < m->Ch (mx j)) (hb:∀ j,j < m->bt j=0\/bt j=1) (i:InS d (snK mx bt m)):∀ k,k < m->bt k=Ý d (snK mx bt k) (mx k)/\InS d (snK mx bt k):=by
 induction m with
 | zero=>exact fun k b=>absurd b (cY k)
 | succ m ih =>
  have f:=(ο (mx:=mx) (bt:=bt) m fun j c=>hc j (by omega)).1;obtain ⟨a,e⟩:=yq4 hd f (hc m (by omega)) (hb m (by omega)) i;intro k b;by_cases z:k=m
  .rw [z];exists e,a
  .exact ih (fun j c=>hc j (by omega)) (fun j c=>hb j (by omega)) a k (by omega)
def yz4 {k:Nat} (h:k < (dec ts).length):wb ts k=0\/wb ts k=1:=by
 obtain ⟨a,b⟩:=yll ts k h;omega
def yjo (x:Sn):Byt (tL x):=fun b a=>ypf _ _ b a
theorem ã {n:Nat} {kd:Nat->Fin 3} {ps:Nat->List Int} {pre d:List Int} (hd:Byt d) (hc:∀ j,j < (dec ts).length->Ch (jl n kd ps pre ts j)) (hi:InS d (snK (jl n kd ps pre ts) (wb ts) (dec ts).length)):∀ k,k <= (dec ts).length->rst (fa0 n ps) d (rS n kd ps pre) k=(fX n kd ps pre ts k,snK (jl n kd ps pre ts) (wb ts) k)
 | 0,_=>rfl
 | k+1,hk=>by
  have a:=(ymz hd hc (fun j b=>yz4 b) hi k (by omega)).1;have e:(dec ts)[k]?=some (wb ts k):=by unfold wb; rw [cC (by omega)]; rfl
  show rnx (fa0 n ps) d (rst (fa0 n ps) d (rS n kd ps pre) k)=_;rw [ã hd hc hi k (by omega)];show ((fX n kd ps pre ts k).see (fa0 n ps) (Ý d (snK (jl n kd ps pre ts) (wb ts) k) (jl n kd ps pre ts k)),nar (snK (jl n kd ps pre ts) (wb ts) k) (jl n kd ps pre ts k) (Ý d (snK (jl n kd ps pre ts) (wb ts) k) (jl n kd ps pre ts k)))=(fX n kd ps pre ts (k+1),nar (snK (jl n kd ps pre ts) (wb ts) k) (jl n kd ps pre ts k) (wb ts k));rw [<- a]
  have c:fX n kd ps pre ts (k+1)=(fX n kd ps pre ts k).see (fa0 n ps) (wb ts k):=by
   unfold fX;rw [jd e]
  rw [c]
def yhd {n:Nat} {kd:Nat->Fin 3} {ps:Nat->List Int} {pre d:List Int} (hd:Byt d) (hc:∀ j,j < (dec ts).length->Ch (jl n kd ps pre ts j)) (hi:InS d (snK (jl n kd ps pre ts) (wb ts) (dec ts).length)) (k:Nat) (hk:k < (dec ts).length):χ (fa0 n ps) d (rS n kd ps pre) k=wb ts k:=by
 have a:=(ymz hd hc (fun j b=>yz4 b) hi k hk).1;unfold χ;rw [ã hd hc hi k (by omega)];exact a.symm
def Á (t:Int) (r:List Int) (k:Nat):wb (t :: r) (k+9)=wb r k:=rfl
def yem (t:Int) (r:List Int):∀ i,i < 8->wb (t :: r) (1+i)=t / wB i % 2:=fun i a=>by
 rcases i with _ | _ | _ | _ | _ | _ | _ | _ | i
 .rfl
 .rfl
 .rfl
 .rfl
 .rfl
 .rfl
 .rfl
 .rfl
 .omega
theorem þ:∀ (ts:List Int) (j:Nat) (hj:j < ts.length),wb ts (9 * j)=1/\∀ i,i < 8->wb ts (9 * j+1+i)=ts[j] / wB i % 2
 | [],j,hj=>absurd hj (cY j)
 | t :: r,0,_=>⟨rfl,fun i a=>by rw [show 9 * 0+1+i=1+i by omega]; exact yem t r i a⟩
 | t :: r,j+1,hj=>by
  obtain ⟨b,c⟩:=þ r j (by simpa using hj);exists ?_,fun i a=>?_
  .rw [show 9 * (j+1)=9 * j+9 by omega,Á];exact b
  .rw [show 9 * (j+1)+1+i=9 * j+1+i+9 by omega,Á];exact c i a
theorem ydj:∀ ts:List Int,wb ts (9 * ts.length)=0
 | []=>rfl
 | t :: r=>by
  rw [show 9 * (t :: r).length=9 * r.length+9 by rw [de]; omega,Á];exact ydj r
def yk0 (A:FA) (d:List Int) (S:FX × Sn) (c i:Nat):χ A d (rst A d S c) i=χ A d S (c+i):=by
 unfold χ;rw [ybx]
def yf6 {n:Nat} {kd:Nat->Fin 3} {ps:Nat->List Int} {pre d:List Int} (hts:Sgs ts) (hd:Byt d) (hc:∀ j,j < (dec ts).length->Ch (jl n kd ps pre ts j)) (hl:(tL (snK (jl n kd ps pre ts) (wb ts) (dec ts).length)).length <= d.length) (h:d.take (tL (snK (jl n kd ps pre ts) (wb ts) (dec ts).length)).length=tL (snK (jl n kd ps pre ts) (wb ts) (dec ts).length)) :
  ROk (fa0 n ps) d (rS n kd ps pre) ts.length/\rtx (fa0 n ps) d (rS n kd ps pre) ts.length=ts/\rTL (fa0 n ps) d (rS n kd ps pre) ts.length=(tL (snK (jl n kd ps pre ts) (wb ts) (dec ts).length)).length:=by
 have l:=(ο (bt:=wb ts) _ hc).1;have a:=yic hd l hl h;have b:=xq ts
 have g:rst (fa0 n ps) d (rS n kd ps pre) (9 * ts.length+1)=(fX n kd ps pre ts (dec ts).length,snK (jl n kd ps pre ts) (wb ts) (dec ts).length):=by
  rw [<- b];exact ã hd hc a _ (cE _)
 have c:=yhd hd hc a;exists ⟨fun j p=>?_,?_,?_⟩,?_,?_
 .rw [c _ (by omega)];exact (þ ts j p).1
 .rw [c _ (by omega)];exact ydj ts
 .rw [g];exact h
 .show (List.range ts.length).map (rsg (fa0 n ps) d (rS n kd ps pre))=ts;refine List.ext_getElem (by rw [cA,da]) fun j q k=>?_;rw [dY,List.getElem_range];have f:=hts ts[j] (dw k);have m:=(þ ts j k).2
  have e:∀ i,i < 8->wB i * χ (fa0 n ps) d (rst (fa0 n ps) d (rS n kd ps pre) (9 * j+1)) i=wB i * (ts[j] / wB i % 2):=fun i a=>by
   rw [yk0,c _ (by omega),m i a]
  have o:sgB (fa0 n ps) d (rst (fa0 n ps) d (rS n kd ps pre) (9 * j+1)) 8=(List.range 8).map fun i=>wB i * (ts[j] / wB i % 2):=by
   unfold sgB;exact List.map_congr_left fun i a=>e i (dI.mp a)
  unfold rsg;rw [o];exact vcp f.1 f.2
 .unfold rTL;rw [g]
def Œ {ys:List Int} (h1:Byt xs) (h2:Byt ys):Byt (xs++ys):=fun b a=>by
 rcases c7.mp a with h | h
 .exact h1 b h
 .exact h2 b h
def τ (n:Nat) (kd:Nat->Fin 3) (ps:Nat->List Int) (pre ts:List Int):List Int:=tL (snK (jl n kd ps pre ts) (wb ts) (dec ts).length)
def yj5 {n:Nat} {kd:Nat->Fin 3} {ps:Nat->List Int} {pre:List Int} (n1:1 <= n) (n6:n <= 6) (hp:yaz pre) (hz:ts.length <= 300):(τ n kd ps pre ts).length <= 5500:=by
 have a:=xq ts;obtain ⟨b,c⟩:=ο (mx:=jl n kd ps pre ts) (bt:=wb ts) (dec ts).length fun j _=>Ŗ n1 n6 hp j;unfold τ;rw [yiq];have:sz (snK (jl n kd ps pre ts) (wb ts) (dec ts).length) <= 5500:=by show Int.toNat _ <= 5500; omega
 omega
def ykv {n:Nat} {kd:Nat->Fin 3} {ps:Nat->List Int} {pre bs:List Int} (n1:1 <= n) (n6:n <= 6) (hp:yaz pre) (hts:Sgs ts) (hb:Byt bs) :
  ROk (fa0 n ps) (τ n kd ps pre ts++bs) (rS n kd ps pre) ts.length/\rtx (fa0 n ps) (τ n kd ps pre ts++bs) (rS n kd ps pre) ts.length=ts/\rTL (fa0 n ps) (τ n kd ps pre ts++bs) (rS n kd ps pre) ts.length=(τ n kd ps pre ts).length :=
 yf6 hts (Œ (yjo _) hb) (fun j _=>Ŗ n1 n6 hp j) (by rw [cF]; exact Nat.le_add_right _ _) List.take_left
def yq6 {n:Nat} {kd:Nat->Fin 3} {ps:Nat->List Int} {pre bs:List Int} (n1:1 <= n) (n6:n <= 6) (hp:yaz pre) (hb:Byt bs):(rst (fa0 n ps) (τ n kd ps pre ts++bs) (rS n kd ps pre) (9 * ts.length+1)).1=((FX0 n kd).run (fa0 n ps) pre).run (fa0 n ps) (dec ts):=by
 have a:∀ j,j < (dec ts).length->Ch (jl n kd ps pre ts j):=fun j _=>Ŗ n1 n6 hp j;have b:Byt (τ n kd ps pre ts++bs):=Œ (yjo _) hb;have c:=yic b (ο (bt:=wb ts) _ a).1 (by rw [cF]; exact Nat.le_add_right _ _) List.take_left;rw [<- xq ts,ã b a c _ (cE _)];unfold fX;rw [dN]
def vby {x:Sn} {c b:Int} (h:Ok x) (hc:Ch c):(nar x c b).2.1 < 1099511627776:=by
 obtain ⟨e,f,d⟩:=yan h.w0 h.w1 hc;have a:=h.w1;unfold nar ren
 (repeat' split) <;> (dsimp only at *; omega)
def yls {n:Nat} {kd:Nat->Fin 3} {ps:Nat->List Int} {pre:List Int} (n1:1 <= n) (n6:n <= 6) (hp:yaz pre):1 <= (τ n kd ps pre ts).length:=by
 have e:=xq ts;obtain ⟨m,f⟩:∃ m,(dec ts).length=m+1:=⟨9 * ts.length,by omega⟩;unfold τ;rw [yiq,f];have a:∀ j,j < m+1->Ch (jl n kd ps pre ts j):=fun j _=>Ŗ n1 n6 hp j;have d:=(ο (bt:=wb ts) m fun j k=>a j (by omega)).1;have c:=(ο (bt:=wb ts) (m+1) a).1;have h:(snK (jl n kd ps pre ts) (wb ts) (m+1)).2.1 < 1099511627776:=vby (x:=snK (jl n kd ps pre ts) (wb ts) m) (b:=wb ts m) d.ok (a m (by omega));have i:=yhy (Ś c.ok);have l:=c.sz5;have g:pw (tK (snK (jl n kd ps pre ts) (wb ts) (m+1))) < pw 5:=by rw [pw5]; omega
 have:=vad g;omega
def Ù (L:List (List Int)):List Int:=(L.map dec).flatten
def õ (L:List (List Int)) (t:List Int):Ù (L++[t])=Ù L++dec t:=by
 unfold Ù;rw [cM,List.flatten_append];simp
def ö (L:List (List Int)):yaz (Ù L):=fun b a=>by
 unfold Ù at a;obtain ⟨l,c,a⟩:=List.mem_flatten.mp a;obtain ⟨t,_,rfl⟩:=cI.mp c;exact jg t b a
def ykn {A:FA} {X:FX} (hts:Sgs ts) (h1:X.sg=[]) (h2:X.nd=0):(X.run A (dec ts)).sg=[]/\(X.run A (dec ts)).nd=0:=by
 have a:∀ k,k <= (dec ts).length->TxE ts k (X.run A ((dec ts).take k)).sg (X.run A ((dec ts).take k)).nd:=by
  intro k
  induction k with
  | zero =>
   intro _;exact .inl ⟨cV _,by show yau _ _ X.sg X.nd; rw [h1,h2]; exact yau.zero _⟩
  | succ k ih =>
   intro d;have b:(dec ts)[k]?=some ((dec ts)[k]'(by omega)):=cC _;rw [jd b];exact ((ih (by omega)).next hts b).2
 have e:=a _ (cE _);rw [dN] at e;have c:=xq ts;rcases e with ⟨h,_⟩ | ⟨_,h⟩
 .omega
 .exact h
def yuj (p:Addr) (A:FA) (O:Nat->Addr->Prop):Addr->Prop:=fun c=>c=p\/c=A.mp\/(∃ j,j < A.n/\c=A.bk j)\/(∃ j,j < A.n/\O j c)\/c=A.el
def FZ (K:W.Frag) (a:Ads) (H:Hp) (p:Addr) (n:Nat) (kd:Nat->Fin 3) (ps:Nat->List Int) (pre:List Int) (M:Nat) (W:Addr->Prop):Prop :=
 ∃ A f O m,uv K a H p A ((FX0 n kd).run (fa0 n ps) pre) f O m/\m <= M/\yuh H A/\A.n=n/\A.kd=kd/\A.ps=ps/\((FX0 n kd).run (fa0 n ps) pre).sg=[]/\((FX0 n kd).run (fa0 n ps) pre).nd=0/\∀ c,W c ↔ yuj p A O c
def yup:HO->Bool
 | .ins _ _ _=>true
 | .dT _=>true
 | .dK _=>true
 | .frz _ (.dK _)=>true
 | _=>false
def vdj (o:Option HO):Prop:=(∃ ys,o=some (.lst ys))\/∃ ys,o=some (.tup ys)/\ys.length≠2
def WSh (H:Hp) (W:Addr->Prop):Prop:=∀ c,W c->∃ o,H c=some o/\(yup o=true\/∃ xs,o=.lst xs/\∀ x∈xs,(∃ s,x=V.str s)\/x=V.non\/∃ q,x=V.ref q/\vdj (H q))
def yrk {o:HO} (h:yuo o=true):yup o=true:=by
 cases o <;> first | rfl | cases h
section
variable {H H':Hp} {n:Nat} {kd:Nat->Fin 3} {ps:Nat->List Int} {pre:List Int} {M:Nat} {W:Addr->Prop}
def FZ.sh (h:FZ K a H p n kd ps pre M W):WSh H W:=fun c w=>by
 obtain ⟨A,f,O,m,d,_,_,_,_,_,l,_,e⟩:=h;rcases (e c).mp w with z | z | ⟨j,g,z⟩ | ⟨j,g,z⟩ | z
 .exists _,by rw [z]; exact d.me,.inl rfl
 .exists _,by rw [z]; exact d.mx.o,.inl rfl
 .exists _,by rw [z]; exact (d.B.b j g).me,.inl rfl
 .obtain ⟨o,r,k⟩:=(d.B.b j g).own c z;exists o,r,.inl (yrk k)
 .have i:=d.el;rw [l] at i;exists _,by rw [z]; exact i,.inr ⟨_,rfl,fun x q=>by cases q⟩
def FZ.live (h:FZ K a H p n kd ps pre M W):∀ c,W c->∃ o,H c=some o:=fun c w=>let ⟨o,e,_⟩:=h.sh c w; ⟨o,e⟩
theorem FZ.same (h:FZ K a H p n kd ps pre M W) (S:yv H H'):FZ K a H' p n kd ps pre M W:=by
 obtain ⟨A,f,O,m,d,b,c,r⟩:=h;exists A,f,O,m,d.same S,b,c.same S,r
def FZ.up (h:FZ K a H p n kd ps pre M W) {M':Nat} (hM:M <= M'):FZ K a H p n kd ps pre M' W:=by
 obtain ⟨A,f,O,m,c,b,r⟩:=h;exists A,f,O,m,c,dh b hM,r
theorem WSh.tup (h:WSh H W) {c:Addr} {xs:List V} (e:H c=some (.tup xs)):¬ W c:=fun w=>by
 obtain ⟨o,a,z | ⟨b,z,_⟩⟩:=h c w
 .rw [e] at a; cases a; cases z
 .rw [e,z] at a; cases a
def WSh.ints (h:WSh H W) {c:Addr} {ns:List Int} (e:H c=some (.lst (ns.map V.int))) (hn:1 <= ns.length):¬ W c:=fun w=>by
 obtain ⟨o,a,z | ⟨b,z,q⟩⟩:=h c w
 .rw [e] at a; cases a; cases z
 .rw [e,z] at a;cases a
  cases ns with
  | nil=>cases hn
  | cons x r=>rcases q (.int x) dm with ⟨_,z⟩ | z | ⟨_,z,_⟩ <;> cases z
theorem WSh.refs (h:WSh H W) {c:Addr} {g:Nat->Addr} {k:Nat} (e:H c=some (.lst (Law.refs g k))) (hk:1 <= k) (hg:¬ vdj (H (g 0))):¬ W c:=fun w=>by
 obtain ⟨o,a,z | ⟨d,z,q⟩⟩:=h c w
 .rw [e] at a; cases a; cases z
 .rw [e,z] at a;cases a;rcases q (.ref (g 0)) (cR (yrg hk)) with ⟨_,z⟩ | z | ⟨f,z,b⟩
  .cases z
  .cases z
  .cases z; exact hg b
theorem FZ.frame (h:FZ K a H p n kd ps pre M W) (sh:WSh H W2) (dj:∀ c,W c->¬ W2 c) (fr:∀ c o,H c=some o->¬ W2 c->H' c=some o):FZ K a H' p n kd ps pre M W:=by
 obtain ⟨A,f,O,m,j,T,v,Q,N,U,L,S,q⟩:=h;have k:=j.n1;obtain ⟨Z,d⟩:=v.2.2
 have F:¬ W2 A.ll:=sh.refs v.1 k fun z=>by
  obtain ⟨G,e,s,_⟩:=d 0 k;cases e;rw [s] at z;rcases z with ⟨_,z⟩ | ⟨_,z,z2⟩
  .cases z
  .cases z; exact z2 rfl
 have E:¬ W2 A.bl:=sh.refs j.bl k fun z=>by rw [(j.B.b 0 k).me] at z; rcases z with ⟨_,z⟩ | ⟨_,z,_⟩ <;> cases z
 have y:¬ W2 A.pl:=sh.refs j.pl k fun z=>by
  obtain ⟨_,⟨dq,P⟩,_,_⟩:=j.slot k;obtain ⟨C,fs,Y⟩:=π a dq (((FX0 n kd).run (fa0 n ps) pre).g 0 (((FX0 n kd).run (fa0 n ps) pre).key A 0));rw [P,Y] at z;rcases z with ⟨_,z⟩ | ⟨_,z,_⟩ <;> cases z
 have D:¬ W2 A.ml:=sh.ints j.mx.l (by rw [j.wok.len]; exact k);exists A,f,O,m,j.frame (O2:=W2) (fun c o e J=>fr c o e J) (dj _ ((q _).mpr (.inl rfl))) (dj _ ((q _).mpr (.inr (.inl rfl)))) (fun i r=>dj _ ((q _).mpr (.inr (.inr (.inl ⟨i,r,rfl⟩))))) (fun i c r w=>dj _ ((q _).mpr (.inr (.inr (.inr (.inl ⟨i,r,w⟩)))))) (fun l X x e=>fr _ _ e ?_) (fun t X e=>?_),T,⟨fr _ _ v.1 F,v.2.1,Z,fun i r=>?_⟩,Q,N,U,L,S,q
 .rcases x with z | z | z | z
  .rw [z]; exact E
  .rw [z]; exact dj _ ((q _).mpr (.inr (.inr (.inr (.inr rfl)))))
  .rw [z]; exact D
  .rw [z]; exact y
 .rcases e with (e | ⟨o,e⟩) | e
  .exact .inl (.inl (fr _ _ e (sh.tup e)))
  .refine .inl (.inr ⟨o,fr _ _ e fun w=>?_⟩);obtain ⟨o',u,z | ⟨ys,z,_⟩⟩:=sh t w
   .rw [e] at u; cases u; cases z
   .rw [e,z] at u; cases u
  .exact .inr e
 .obtain ⟨G,z,s,I,R⟩:=d i r;exists G,z,fr _ _ s (sh.tup s),fr _ _ I (sh.tup I),R
def FZ.went {A:FA} {f f':Nat->List Int->Option Slt} {m:Nat} {X:FX} {ml el pl:Addr} {sl:Nat->Addr} (hF:uv K a H p A ((FX0 A.n A.kd).run (fa0 A.n A.ps) pre) f O m) (hl:yuh H A) (hX:X=(FX0 A.n A.kd).run (fa0 A.n A.ps) (pre++dec ts)) (hts:Sgs ts) (h4:((FX0 A.n A.kd).run (fa0 A.n A.ps) pre).sg=[]) (h5:((FX0 A.n A.kd).run (fa0 A.n A.ps) pre).nd=0)
  (hF':uv K a H' p (A.re ml el pl sl) X f' O' m') (go:FGo p A O H H' el O') (e6:∀ c,W c ↔ yuj p A O c):FZ K a H' p A.n A.kd A.ps (pre++dec ts) m' (yuj p (A.re ml el pl sl) O')/\Go W H H' (yuj p (A.re ml el pl sl) O'):=by
 subst hX;have h:=go.kpa hF;have d:=ykn (A:=fa0 A.n A.ps) hts h4 h5;exists ⟨_,f',O',m',hF',cE _,⟨(h _ _ hl.1 rfl hl.2.1).2,(h _ _ hl.1 rfl hl.2.1).1,?_⟩,rfl,rfl,rfl,by rw [j5]; exact d.1,by rw [j5]; exact d.2,fun c=>Iff.rfl⟩,⟨fun c o e s=>?_,fun c w=>?_,go.live⟩
 .obtain ⟨x,r⟩:=hl.2.2;exists x,fun i t=>?_;obtain ⟨u,z,l,q,B⟩:=r i t;have k:∀ {c:Addr} {xs:List V},H c=some (.tup xs)->c≠A.el:=fun e z=>by rw [z,hF.el] at e; cases e
  exists u,z,(h _ _ l rfl (k l)).2,(h _ _ q rfl (k q)).2,B
 .have b:¬ yuj p A O c:=fun w=>s ((e6 c).mpr w);exact go.fr c o e (fun z=>b (.inl z)) (fun z=>b (.inr (.inl z))) (fun z=>b (.inr (.inr (.inr (.inr z))))) fun j g w=>b (.inr (.inr (.inr (.inl ⟨j,g,w⟩))))
 .rcases w with z | z | ⟨j,g,z⟩ | ⟨j,g,z⟩ | z
  .exact .inl ((e6 c).mpr (.inl z))
  .exact .inl ((e6 c).mpr (.inr (.inl z)))
  .exact .inl ((e6 c).mpr (.inr (.inr (.inl ⟨j,g,z⟩))))
  .rcases go.hO j c g z with v | v
   .exact .inl ((e6 c).mpr (.inr (.inr (.inr (.inl ⟨j,g,v⟩)))))
   .exact .inr v
  .rcases go.he with y | y
   .exact .inl ((e6 c).mpr (.inr (.inr (.inr (.inr (show c=A.el from Eq.trans z y))))))
   .exact .inr (by rw [show c=el from z]; exact y)
def FZ.read {Q:VK} {E:XK} {dt:Addr} {bs:List Int} {mo:Nat} (h:FZ K a H p n kd ps pre M W) (hb:yaz pre) (hts:Sgs ts) (hdt:H dt=some (.lst ((τ n kd ps pre ts++bs).map V.int))) (ndt:¬ W dt) (hbs:Byt bs) (hdl:(τ n kd ps pre ts++bs).length <= 12000) (hz:ts.length <= mo) (hmo:mo <= 1000) (hM:M+54 * mo+200 < 1000000)
  (k:∀ t r W' H',H t=none->H r=none->H' t=some (.tup [.ref r,.int ((τ n kd ps pre ts).length:Nat)])->H' r=some (.lst (ts.map V.int))->FZ K a H' p n kd ps (pre++dec ts) (M+6 * (dec ts).length) W'->Go W H H' W'->¬ W' r->Q (.ref t) H'):ź K a [.ref p,.ref dt,.int mo] H Q E:=by
 obtain ⟨A,f,O,m,l,hm,hl,rfl,rfl,rfl,L,T,R⟩:=h;obtain ⟨q,G,D⟩:=ykv (kd:=A.kd) (ps:=A.ps) (pre:=pre) (bs:=bs) l.n1 l.n6 hb hts hbs;have F:Byt (τ A.n A.kd A.ps pre ts++bs):=Œ (yjo _) hbs;exists p,A,_,f,O,m,dt,_,mo,rfl,l,hdt,fun z=>ndt ((R _).mpr (.inr (.inr (.inr (.inr z))))),F,hdl,hmo,by omega,by rw [T]; decide,by rw [L]; exact cV _,fun N t r I Z H' hN i u y s d Y c=>?_,fun C I Z H' Y=>?_
 .rw [ROk.fa0] at i;obtain rfl:N=ts.length:=q.uniq i.b1 i.b0;rw [yrf] at s;rw [yqz] at d;have s:H' t=some (.tup [.ref r,.int (rTL (fa0 A.n A.ps) (τ A.n A.kd A.ps pre ts++bs) (rS A.n A.kd A.ps pre) ts.length)]):=s;have d:H' r=some (.lst ((rtx (fa0 A.n A.ps) (τ A.n A.kd A.ps pre ts++bs) (rS A.n A.kd A.ps pre) ts.length).map V.int)):=d;rw [D] at s;rw [G] at d;obtain ⟨x,S,P,X,f',c⟩:=c;have J:=xq ts
  have eX:(rst A (τ A.n A.kd A.ps pre ts++bs) ((FX0 A.n A.kd).run (fa0 A.n A.ps) pre,s0) (9 * ts.length+1)).1=(FX0 A.n A.kd).run (fa0 A.n A.ps) (pre++dec ts):=by
   rw [j3,j5];exact yq6 l.n1 l.n6 hb hbs
  obtain ⟨z,g⟩:=FZ.went l hl eX hts L T c Y R;refine k t r _ H' u y s d (z.up (by omega)) g fun w=>?_;rcases w with w | w | ⟨j,v,w⟩ | ⟨j,v,w⟩ | w
  .have e:=c.me;rw [<- w,d] at e;cases e
  .have e:=c.mx.o;rw [show r=(A.re S I P X).mp from w] at d;rw [d] at e;cases e
  .have e:=(c.B.b j v).me;rw [show r=(A.re S I P X).bk j from w] at d;rw [d] at e;cases e
  .obtain ⟨o,U,hi⟩:=(c.B.b j v).own _ w;rw [d] at U;cases U;cases hi
  .exact x w
 .exact (C ts.length hz (by rw [ROk.fa0]; exact q)).elim
def FZ.press {Q:VK} {E:XK} {tx:Addr} (h:FZ K a H p n kd ps pre M W) (htx:ux H tx ts 1000) (ntx:¬ W tx) (hM:M+6 * (dec ts).length+20 < 1000000)
  (k:∀ r W' H',H r=none->H' r=some (.lst ((τ n kd ps pre ts).map V.int))->FZ K a H' p n kd ps (pre++dec ts) (M+6 * (dec ts).length) W'->Go W H H' W'->Q (.ref r) H'):yc4 K a [.ref p,.ref tx] H Q E:=by
 obtain ⟨A,f,O,m,l,F,u,rfl,rfl,rfl,d,o,i⟩:=h;exists p,A,_,f,O,m,tx,ts,rfl,l,d,o,htx,fun z=>ntx ((i _).mpr (.inr (.inr (.inr (.inr z))))),by omega,fun r B G y D x C I H' b w c q v=>?_
 have t:((FX0 A.n A.kd).run (fa0 A.n A.ps) pre).run A (dec ts)=(FX0 A.n A.kd).run (fa0 A.n A.ps) (pre++dec ts):=by rw [j5]; exact ą A _ _
 obtain ⟨z,g⟩:=FZ.went l u t htx.s d o c v i;refine k r _ H' b ?_ (z.up (by omega)) g;rw [w];have e:snK (yea A ((FX0 A.n A.kd).run (fa0 A.n A.ps) pre) ts) (wb ts) (dec ts).length=snK (jl A.n A.kd A.ps pre ts) (wb ts) (dec ts).length:=û _ fun j _=>⟨by unfold jl yea fX; rw [ą A]; rfl,rfl⟩;rw [e];rfl
end
def nmL (L:List (Str × List Int)):List V:=L.map fun x=>V.str x.1
def yck (H:Hp) (U:Addr->Prop):List (Str × List Int)->List V->Prop
 | [],ks=>ks=[]
 | x :: r,ks=>∃ k ks',ks=k :: ks'/\(k=.non\/∃ q,k=.ref q/\H q=some (.lst (x.2.map V.int))/\¬ U q)/\yck H U r ks'
theorem yck.len {H:Hp} :∀ {L:List (Str × List Int)} {ks:List V},yck H U L ks->ks.length=L.length
 | [],_,h=>by rw [show _=_ from h]; rfl
 | _ :: r,_,⟨_,_,e,_,h⟩=>by rw [e,de,de,h.len]
theorem yck.mono {H H':Hp} (f:∀ q xs,H q=some (.lst xs)->¬ U q->H' q=some (.lst xs)/\¬ U' q):∀ {L:List (Str × List Int)} {ks:List V},yck H U L ks->yck H' U' L ks
 | [],_,h=>h
 | _ :: _,_,⟨k,ks',e,z,h⟩=>⟨k,ks',e,z.imp id fun ⟨q,e,b,a⟩=>⟨q,e,f q _ b a⟩,h.mono f⟩
theorem yck.snoc {H:Hp} {nm:Str} {t:List Int} {k:V} (hk:k=.non\/∃ q,k=.ref q/\H q=some (.lst (t.map V.int))/\¬ U q):∀ {L:List (Str × List Int)} {ks:List V},yck H U L ks->yck H U (L++[(nm,t)]) (ks++[k])
 | [],_,h=>by rw [show _=_ from h]; exists k,[],rfl,hk,rfl
 | _ :: _,_,⟨k',ks',e,z,h⟩=>⟨k',ks'++[k],by rw [e]; rfl,z,h.snoc hk⟩
theorem yck.mem {H:Hp} :∀ {L:List (Str × List Int)} {ks:List V},yck H U L ks->∀ x∈ks,x=.non\/∃ q ys,x=.ref q/\H q=some (.lst ys)/\¬ U q
 | [],_,h,x,hx=>by rw [show _=_ from h] at hx; cases hx
 | _ :: _,_,⟨k,ks',e,z,h⟩,x,hx=>by
  rw [e] at hx;rcases cT.mp hx with y | y
  .rw [y];exact z.imp id fun ⟨q,e,b,a⟩=>⟨q,_,e,b,a⟩
  .exact h.mem x y
def ChW (ll tl:Addr) (W:Addr->Prop):Addr->Prop:=fun c=>c=ll\/c=tl\/W c
structure j8 (K:W.Frag) (a:Ads) (H:Hp) (c dc p ll tl:Addr) (n:Nat) (kd:Nat->Fin 3) (ps:Nat->List Int) (L:List (Str × List Int)) (ks:List V) (M:Nat) (W:Addr->Prop):Prop where
 me:H c=some (.ins a.A1 dc (z6 (.ref p) (.ref ll) (.ref tl)))
 fz:FZ K a H p n kd ps (Ù (L.map (·.2))) M W
 hl:H ll=some (.lst (nmL L))
 ht:H tl=some (.lst ks)
 tx:yck H (ChW ll tl W) L ks
 nc:¬ W c
 nll:¬ W ll
 ntl:¬ W tl
 ne:ll≠tl
def FZ.new {H:Hp} {dp l:Addr} {n:Nat} {lk:Nat->Addr} {kd:Nat->Fin 3} {ps:Nat->List Int} {Q:VK} {E:XK} (np:H p=none) (ndp:H dp=none) (hl:H l=some (.lst (refs lk n))) (n1:1 <= n) (n6:n <= 6) (r:xu H n lk kd tp ps)
  (k:∀ W H',FZ K a H' p n kd ps [] 6 W->(∀ c,W c->H c=none)->yv H H'->(∀ y xs H'',H y=some (.lst xs)->But y H' H''->FZ K a H'' p n kd ps [] 6 W)->Q .non H'):ycq K a [.ref p,.ref l] (upd (upd H dp (.own p)) p (.ins a.A2 dp [])) Q E:=by
 have d:yv H (upd (upd H dp (.own p)) p (.ins a.A2 dp [])):=fun b o e=>by rw [yk (yb e np),yk (yb e ndp)]; exact e
 exists p,dp,.ref l,rfl,ya,.inr ⟨l,n,lk,kd,tp,ps,rfl,d _ _ hl,n1,n6,r.same d,fun A f O I X Z=>?_⟩;have B:yv H I:=fun b o e=>Z b o (d b o e) (yb e np);obtain ⟨h,rfl,rfl,rfl,rfl,M,S,L,P,m,u,J⟩:=X;refine k (yuj p A O) I ⟨A,f,O,6,h,cE _,⟨m,u,tp,r.same B⟩,rfl,rfl,rfl,rfl,rfl,fun c=>Iff.rfl⟩ (fun c w=>?_) B (fun y xs H2 N b=>?_)
 .rcases w with z | z | ⟨j,D,z⟩ | ⟨j,D,z⟩ | z
  .rw [z]; exact np
  .rw [z]; exact d.free L
  .rw [z]; exact d.free (S j D)
  .exact d.free (M j c D z)
  .exact d.free (P c (.inr (.inl z)))
 .have g:∀ {x:Addr},H x=none->x≠y:=fun {x} e z=>by rw [z,N] at e; cases e
  have q:=B _ _ N;have C:∀ {x:Addr} {v:List V},I x=some (.tup v)->x≠y:=fun {x v} e z=>by rw [z,q] at e; cases e
  exists A,f,O,6,h.frame (O2:=fun c=>c=y) (fun c o e U=>b c o e U) (g np) (g (d.free L)) (fun i s=>g (d.free (S i s))) (fun i c s w=>g (d.free (M i c s w))) (fun l v F e=>b _ _ e (g (d.free (P l F)))) (fun t v e=>?_),cE _,⟨b _ _ m (g (d.free J)),u,tp,fun i s=>?_⟩,rfl,rfl,rfl,rfl,rfl,fun c=>Iff.rfl
  .rcases e with (e | ⟨o,e⟩) | e
   .exact .inl (.inl (b _ _ e (C e)))
   .exact .inl (.inr ⟨o,b _ _ e (fun z=>by rw [z,q] at e; cases e)⟩)
   .exact .inr e
  .obtain ⟨G,e,R,T,Y⟩:=r.same B i s;exists G,e,b _ _ R (C R),b _ _ T (C T),Y
@[irreducible] def yo2 (c:Nat):Bool:=!(Builtin.Str.occurrences "abcdefghijklmnopqrstuvwxyz" ⟨#[c]⟩ 0 (Str.length "abcdefghijklmnopqrstuvwxyz") 1).isEmpty
def nmS (x:Str):Bool:=decide (1 <= (x.length:Int)) && (decide ((x.length:Int) <= 8) && x.cps.toList.all yo2)
def nmV:V->Bool
 | .str x=>nmS x
 | _=>false
def yps (x:Str):(List.range x.cps.size).map (fun i=>V.bl (yo2 (x.cps.toList.getD i 0)))=(x.cps.toList.map yo2).map V.bl:=by
 rw [df];refine List.ext_getElem? fun i=>?_;rw [cG,cG];by_cases hi:i < x.cps.size
 .rw [dS hi,cC (by rw [dC]; exact hi),d5,d5,dL,cC (by rw [dC]; exact hi),Option.getD_some,Function.comp_apply]
 .rw [dn (by rw [da]; omega),dn (by rw [dC]; omega),Option.map_none,Option.map_none]
def yxz {x:Str} (h1:(1:Int) <= (x.length:Int)) (h8:(x.length:Int) <= 8):nmV (.str x)=(x.cps.toList.map yo2).all id:=by
 have e:nmV (.str x)=nmS x:=by unfold nmV; rfl
 rw [e];unfold nmS;rw [cK h1,cK h8,List.all_map,Function.id_comp,Bool.true_and,Bool.true_and]
def ywd {x:Str} (h8:¬ (x.length:Int) <= 8):nmV (.str x)=false:=by
 have e:nmV (.str x)=nmS x:=by unfold nmV; rfl
 rw [e];unfold nmS;rw [cP h8,Bool.false_and,Bool.and_false]
def yyx {x:Str} (h1:¬ (1:Int) <= (x.length:Int)):nmV (.str x)=false:=by
 have e:nmV (.str x)=nmS x:=by unfold nmV; rfl
 rw [e];unfold nmS;rw [cP h1,Bool.false_and]
def yx5 {x:V} (h:nmV x=true):∃ b,x=.str b/\nmS b=true:=by
 cases x with
 | str b=>exact ⟨b,rfl,h⟩
 | _=>cases h
def yb2 {x:Str} (h:nmS x=true):x.length <= 8:=by
 unfold nmS at h;simp only [db,decide_eq_true_eq] at h;have:=h.2.1;omega
def smS:Str:=Str.ofString "abcdefghijklmnopqrstuvwxyz"
def yij:smS.length=26:=by right
def yy1:∀ i,i < 26->smS.cps[i]?=some (97+i):=by right
def ys3 {i:Int} (h0:0 <= i) (h1:i < 26):smS.cps[i.toNat]?=some (97+i.toNat):=yy1 _ (by omega)
def yzu:∀ i,i < 26->yo2 (97+i)=true:=by right
def ycj (l:List Nat):Prop:=∀ c,c∈l->97 <= c/\c < 123
def ycj.app {l m:List Nat} (h:ycj l) (g:ycj m):ycj (l++m):=fun c a=>(c7.mp a).elim (h c) (g c)
def ycj.one {c:Nat} (h:97 <= c/\c < 123):ycj [c]:=fun d a=>by rw [cQ.mp a]; exact h
theorem ycj.take {l:List Nat} (h:ycj l) (k:Nat):ycj (l.take k):=fun c a=>h c (dz a)
theorem ycj.drop {l:List Nat} (h:ycj l) (k:Nat):ycj (l.drop k):=fun c a=>h c (List.mem_of_mem_drop a)
def vab {x:Str} (h:ycj x.cps.toList) (h1:1 <= x.cps.toList.length) (h8:x.cps.toList.length <= 8):nmS x=true/\PyData.strOk x=true:=by
 have e:x.length=x.cps.toList.length:=by simp [Str.length]
 exists ?_,?_
 .unfold nmS;rw [cK (by omega),cK (by omega),Bool.true_and,Bool.true_and,List.all_eq_true];intro c a;obtain ⟨d,b⟩:=h c a;have:=yzu (c - 97) (by omega)
  rwa [show 97+(c - 97)=c by omega] at this
 .unfold PyData.strOk;rw [<- Array.all_toList,List.all_eq_true];intro c a;obtain ⟨d,b⟩:=h c a;exact cK (by omega)
def Ă (x y:Str):(x++y).cps.toList=x.cps.toList++y.cps.toList:=by rw [PySem.Str.cps_append,Array.toList_append]
def ā (x:Str):x.length=x.cps.toList.length:=by simp [Str.length]
def yud (z:Str) (j:Nat) (c:Nat):Str:=Txt.slice z none (some (j:Int))++⟨#[c]⟩++Txt.slice z (some (j:Int)) none
def á {z:Str} {c:Nat} (hj:j <= z.length):(yud z j c).cps.toList=z.cps.toList.take j++[c]++z.cps.toList.drop j:=by
 unfold yud;rw [Ă,Ă,ylc hj,yer hj]
def ypk {z:Str} {c:Nat} (hj:j <= z.length) (hz:ycj z.cps.toList) (hc:97 <= c/\c < 123) (h7:z.length <= 7):nmS (yud z j c)=true/\PyData.strOk (yud z j c)=true:=by
 have e:=ā z;refine vab ?_ ?_ ?_
 .rw [á hj];exact ((hz.take j).app (.one hc)).app (hz.drop j)
 .rw [á hj]; simp; omega
 .rw [á hj,cF,cF,cX,dP,dE]; omega
def yk3 {z:Str} {c d:Nat} (hj:j <= z.length) (e:yud z j c=yud z j d):c=d:=by
 have h:=congrArg (fun x:Str=>x.cps.toList) e;simp only [á hj] at h;rw [du,du] at h;have a:=List.append_cancel_left h;simp at a;exact a
theorem ý {H:Hp}:∀ ns:List Str,yfr K H (ns.map V.str) (ns.map PyData.str)
 | []=>.nil
 | n :: r=>.cons (.str n) (ý r)
theorem í:∀ ns:List Str,(∀ x,x∈ns->PyData.strOk x=true)->PyData.canLayAll0 (ns.map PyData.str)=true
 | [],_=>rfl
 | x :: r,h=>by simp [PyData.canLayAll0,PyData.canLay0,h x dm,í r fun y a=>h y (dy _ a)]
theorem Ĭ:∀ ns:List Str,PyData.depthAll (ns.map PyData.str)=0
 | []=>rfl
 | _ :: r=>by simp [PyData.depthAll,PyData.depth,Ĭ r]
def ô (ns:List Str) (h:∀ x,x∈ns->PyData.strOk x=true):SeqAt.shaped (.list (ns.map PyData.str))=true:=by
 simp [SeqAt.shaped,PyData.canLay0,PyData.depth,í ns h,Ĭ]
theorem î:∀ ns ms:List Str,PyData.eqvAll (ns.map PyData.str) (ms.map PyData.str)=decide (ns=ms)
 | [],[]=>by simp [PyData.eqvAll]
 | [],_ :: _=>by simp [PyData.eqvAll]
 | _ :: _,[]=>by simp [PyData.eqvAll]
 | a :: r,b :: t=>by
  simp only [di,PyData.eqvAll,PyData.eqv,î r t];by_cases h:a=b <;> by_cases h':r=t <;> simp [h,h']
def yno {g:Bool->Bool} {H:Hp} {Q:VK} {a b:Addr} (ns ms:List Str) (hn:∀ x,x∈ns->PyData.strOk x=true) (hm:∀ x,x∈ms->PyData.strOk x=true) (ha:SqL K H a (ns.map V.str)) (hb:SqL K H b (ms.map V.str)) (h:Q (.bl (g (decide (ns=ms)))) H):vaz K g (.ref a) (.ref b) H Q :=
 ⟨_,_,.lst ha (ý ns),.lst hb (ý ms),ô ns hn,ô ms hm,by rw [PyData.eqv,î]; exact h⟩
structure Pc where
 nm:Str
 bs:Option Str
 path:List (Str × List Int)
 tx:List Int
 ob:Addr
 od:Addr
 dl:Addr
def baV:Option Str->V
 | none=>.non
 | some b=>.str b
def Pc.by (n:Nat) (kd:Nat->Fin 3) (ps:Nat->List Int) (q:Pc):List Int:=τ n kd ps (Ù (q.path.map (·.2))) q.tx
def pcs (P:List Pc):List (Key × V):=P.map fun q=>(.inr q.nm,.ref q.ob)
def To (P:List Pc):Option Str->List (Str × List Int)->Prop
 | none,L=>L=[]
 | some b,L=>∃ r,r∈P/\r.nm=b/\L=r.path++[(b,r.tx)]
structure ŝ (a:Ads) (H:Hp) (d:Addr) (n:Nat) (kd:Nat->Fin 3) (ps:Nat->List Int) (w:Nat) (P:List Pc):Prop where
 dk:H d=some (.dK (pcs P))
 ob:∀ q,q∈P->H q.ob=some (.ins a.A8 q.od (ă (baV q.bs) (.ref q.dl)))/\H q.dl=some (.lst ((q.by n kd ps).map V.int))
 nd:(P.map (·.nm)).Nodup
 wf:∀ q,q∈P->To P q.bs q.path
 sz:∀ q,q∈P->Sgs q.tx/\q.tx.length <= w/\q.path.length <= 60/\(∀ x,x∈q.path->Sgs x.2/\x.2.length <= w)
 z:P.length <= 60
 nm:∀ q,q∈P->nmS q.nm=true/\PyData.strOk q.nm=true
theorem yjs:∀ {P:List Pc} {r:Pc},(P.map (·.nm)).Nodup->r∈P->ut (pcs P) (.inr r.nm)=some (.ref r.ob)
 | q :: P,r,hn,hr=>by
  have a:=dR.mp hn;by_cases e:q.nm=r.nm
  .rcases cT.mp hr with z | z
   .subst z;unfold ut pcs;rw [di,List.find?_cons_of_pos (by simp)];rfl
   .exact absurd (cI.mpr ⟨r,z,e.symm⟩) a.1
  .rcases cT.mp hr with z | z
   .exact absurd (by rw [z]) e
   .unfold ut pcs;rw [di,List.find?_cons_of_neg (by simpa using e)];exact yjs a.2 z
def ym2 {P:List Pc} {x:Str} (h:∀ q,q∈P->q.nm≠x):ut (pcs P) (.inr x)=none:=by
 unfold ut pcs;rw [List.find?_eq_none.mpr fun y a=>?_]
 .rfl
 .obtain ⟨q,b,e⟩:=cI.mp a;rw [<- e];simpa using h q b
def ŝ.same {H H':Hp} {d:Addr} {n:Nat} {kd:Nat->Fin 3} {ps:Nat->List Int} {w:Nat} {P:List Pc} (h:ŝ a H d n kd ps w P) (S:yv H H'):ŝ a H' d n kd ps w P :=
 ⟨S _ _ h.dk,fun q b=>⟨S _ _ (h.ob q b).1,S _ _ (h.ob q b).2⟩,h.nd,h.wf,h.sz,h.z,h.nm⟩
def yqj (x:Str) (t:List Int) (S:List (Str × List Int)):(nmL ((x,t) :: S)).reverse=(nmL S).reverse++[.str x]:=by
 unfold nmL;rw [di,List.reverse_cons]
def To.len {H:Hp} {d:Addr} {n:Nat} {kd:Nat->Fin 3} {ps:Nat->List Int} {w:Nat} {P:List Pc} {x:Option Str} (h:ŝ a H d n kd ps w P) (t:To P x L):L.length <= 61:=by
 cases x with
 | none=>rw [show L=[] from t]; exact cV _
 | some b =>
  obtain ⟨r,c,_,e⟩:=t;have:=(h.sz r c).2.2.1;rw [e,cF,dE];omega
def ŝ.get {H:Hp} {d:Addr} {n:Nat} {kd:Nat->Fin 3} {ps:Nat->List Int} {w:Nat} {P:List Pc} {r:Pc} (h:ŝ a H d n kd ps w P) (hr:r∈P):ď H d (.str r.nm) (some (.ref r.ob)):=by
 rw [<- yjs h.nd hr];exact ď.k (k:=.inr r.nm) h.dk
theorem vaf:∀ {P:List Pc} {q r:Pc},(P.map (·.nm)).Nodup->q∈P->r∈P->q.nm=r.nm->q=r
 | x :: P,q,r,hn,hq,hr,e=>by
  have a:=dR.mp hn;rcases cT.mp hq with z | z <;> rcases cT.mp hr with y | y
  .rw [z,y]
  .exact absurd (cI.mpr ⟨r,y,by rw [<- e,z]⟩) a.1
  .exact absurd (cI.mpr ⟨q,z,by rw [e,y]⟩) a.1
  .exact vaf a.2 z y e
def To.uniq {P:List Pc} {x:Option Str} (hn:(P.map (·.nm)).Nodup) (h:To P x L) (g:To P x M):L=M:=by
 cases x with
 | none=>rw [show L=[] from h,show M=[] from g]
 | some b =>
  obtain ⟨r,c,i,f⟩:=h;obtain ⟨q,d,a,e⟩:=g;obtain rfl:=vaf hn c d (i.trans a.symm);rw [f,e]
theorem To.pre {P:List Pc} (wf:∀ q,q∈P->To P q.bs q.path) {b:Str} {t:List Int} {A:List (Str × List Int)}:∀ (m:Nat) {x:Option Str} {B:List (Str × List Int)},B.length <= m->To P x (A++[(b,t)]++B)->To P (some b) (A++[(b,t)])
 | m,none,B,_,h=>by
  have e:=congrArg List.length (show A++[(b,t)]++B=[] from h);rw [cF,cF] at e;simp at e
 | m,some c,B,hm,⟨r,hr,e1,e2⟩=>by
  rcases List.eq_nil_or_concat B with z | ⟨i,y,z⟩
  .subst z;rw [d6] at e2;have a:=List.append_inj' e2 rfl;obtain ⟨f,g⟩:=a;cases g;exists r,hr,e1,by rw [f]
  .subst z;rw [List.concat_eq_append] at e2 hm;rw [<- du] at e2;have a:=(List.append_inj' e2 rfl).1
   cases m with
   | zero=>rw [cF] at hm; simp at hm
   | succ m =>
    have d:=wf r hr;rw [<- a] at d;exact To.pre wf m (by rw [cF,dE] at hm; omega) d
def To.ahead {P:List Pc} (hn:(P.map (·.nm)).Nodup) (wf:∀ q,q∈P->To P q.bs q.path) {x y:Option Str} (h:To P x L) (g:To P y M) (e:nmL L=(nmL M).take L.length):L=M.take L.length:=by
 cases x with
 | none=>rw [show L=[] from h]; rfl
 | some b =>
  obtain ⟨r,m,o,f⟩:=id h;have n:L.length=r.path.length+1:=by rw [f,cF,dE]
  have c:=congrArg List.length e;unfold nmL at c;rw [cX,cA,cA] at c;have a:r.path.length < M.length:=by omega
  have i:M=M.take r.path.length++[M[r.path.length]]++M.drop (r.path.length+1):=by
   rw [du,List.singleton_append,<- d8 a,List.take_append_drop]
  have j:(M[r.path.length]).1=b:=by
   have z:=congrArg (fun l=>l[r.path.length]?) e;unfold nmL at z;simp only [cG,List.getElem?_take] at z;rw [if_pos (by omega),f,dM (cE _),Nat.sub_self,cC a] at z;simp at z;exact z.symm
  have g2:=g;rw [i] at g2;have d:M[r.path.length]=(b,(M[r.path.length]).2):=by rw [<- j]
  rw [d] at g2;have g3:=To.pre wf _ (cE _) g2;have k:=To.uniq hn h g3;rw [k,<- d,<- dr a]
  congr 1
  rw [cX];omega
def ŝ.getNo {H:Hp} {d:Addr} {n:Nat} {kd:Nat->Fin 3} {ps:Nat->List Int} {w:Nat} {P:List Pc} {x:Str} (h:ŝ a H d n kd ps w P) (hx:∀ q,q∈P->q.nm≠x):ď H d (.str x) none:=by
 rw [<- ym2 hx];exact ď.k (k:=.inr x) h.dk
def yz8 (P:List Pc) (b:Str):(∃ r,r∈P/\r.nm=b)\/∀ q,q∈P->q.nm≠b:=by
 by_cases h:∃ r,r∈P/\r.nm=b
 .exact .inl h
 .exact .inr fun q a e=>h ⟨q,a,e⟩
theorem To.sz {H:Hp} {d:Addr} {n:Nat} {kd:Nat->Fin 3} {ps:Nat->List Int} {w:Nat} {P:List Pc} {x:Option Str} (h:ŝ a H d n kd ps w P) (t:To P x L):∀ y,y∈L->Sgs y.2/\y.2.length <= w:=by
 cases x with
 | none=>intro y c; rw [show L=[] from t] at c; cases c
 | some b =>
  obtain ⟨r,i,_,e⟩:=t;obtain ⟨g,j,_,f⟩:=h.sz r i;intro y c;rw [e] at c;rcases c7.mp c with z | z
  .exact f y z
  .rw [cQ.mp z];exists g,j
def To.at' {P:List Pc} (wf:∀ q,q∈P->To P q.bs q.path) {x:Option Str} (t:To P x L) (hj:j < L.length):∃ r,r∈P/\L[j]=(r.nm,r.tx)/\r.path=L.take j/\To P (some r.nm) (L.take (j+1)):=by
 have f:L=L.take j++[(L[j].1,L[j].2)]++L.drop (j+1):=by
  rw [du,List.singleton_append,<- d8 hj,List.take_append_drop]
 rw [f] at t;have c:=To.pre wf _ (cE _) t;obtain ⟨r,e,d,g⟩:=id c;obtain ⟨b,a⟩:=List.append_inj' g rfl
 cases r with | mk nm bs path tx ob od dl =>
 simp only at d b a;subst d;have h:L[j].2=tx:=by cases a; rfl
 exists _,e,?_,b.symm,?_
 .show L[j]=(L[j].1,tx); rw [<- h]
 .rw [dr hj]; exact c
def To.nms {P:List Pc} (wf:∀ q,q∈P->To P q.bs q.path) {x:Option Str} (t:To P x L) {y:Str × List Int} (hy:y∈L):∃ r,r∈P/\r.nm=y.1:=by
 obtain ⟨j,b,e⟩:=List.mem_iff_getElem.mp hy;obtain ⟨r,c,a,_⟩:=t.at' wf b;exists r,c,by rw [<- e,a]
def To.ok {H:Hp} {d:Addr} {n:Nat} {kd:Nat->Fin 3} {ps:Nat->List Int} {w:Nat} {P:List Pc} {x:Option Str} (h:ŝ a H d n kd ps w P) (t:To P x L):∀ y,y∈L.map (·.1)->PyData.strOk y=true:=fun y b=>by
 obtain ⟨u,f,rfl⟩:=cI.mp b;obtain ⟨r,c,e⟩:=t.nms h.wf f;rw [<- e];exact (h.nm r c).2
def Ą (L:List (Str × List Int)):nmL L=(L.map (·.1)).map V.str:=by
 unfold nmL;rw [df];rfl
def ycy (L:List (Str × List Int)) (k:Nat):(nmL L).take k=nmL (L.take k):=by
 unfold nmL;rw [List.map_take]
def ŗ (L:List (Str × List Int)):(nmL L).length=L.length:=cA _
def yy0 (h:L.map (·.1)=M.map (·.1)):nmL L=nmL M:=by rw [Ą,Ą,h]
theorem yc1 {w:Nat}:∀ L:List (List Int),(∀ x,x∈L->x.length <= w)->(Ù L).length <= L.length * (9 * w+1)
 | [],_=>cV _
 | t :: L,h=>by
  have e:Ù (t :: L)=dec t++Ù L:=rfl;have c:=h t dm;have d:=yc1 L fun x a=>h x (dy _ a);have b:=xq t;rw [e,cF,de,Nat.succ_mul];omega
def txi (L:List (Str × List Int)) (i:Nat):List Int:=(L.map (·.2)).getD i []
def mOf (L:List (Str × List Int)):Nat:=6+6 * (Ù (L.map (·.2))).length
def NK (H:Hp) (ks ks':List V):Prop:=∀ q,V.ref q∈ks'->V.ref q∈ks\/H q=none
def NK.refl {H:Hp} {ks:List V}:NK H ks ks:=fun _ h=>.inl h
def NK.nil {H:Hp} {ks:List V}:NK H ks []:=fun _ h=>nomatch h
def NK.trans {H H1:Hp} {k1 k2 k3:List V} (h:NK H k1 k2) (g:NK H1 k2 k3) (f:∀ q,H1 q=none->H q=none):NK H k1 k3:=fun q a=>(g q a).elim (h q) fun z=>.inr (f q z)
def NK.app {H:Hp} {ks ks':List V} {v:V} (h:NK H ks ks') (g:∀ q,v=.ref q->H q=none):NK H ks (ks'++[v]):=fun q a=>(c7.mp a).elim (h q) fun z=>.inr (g q (cQ.mp z).symm)
def StW (c cl ct:Addr) (U:Addr->Prop):Addr->Prop:=fun x=>x=c\/ChW cl ct U x
structure j6 (K:W.Frag) (a:Ads) (H:Hp) (st ds ll d c dc p cl ct:Addr) (lk tp:Nat->Addr) (n:Nat) (kd:Nat->Fin 3) (ps:Nat->List Int) (mo w:Nat) (P:List Pc) (L:List (Str × List Int)) (ks:List V) (U:Addr->Prop):Prop where
 me:H st=some (.ins a.A0 ds (xc (.ref ll) (.int mo) (.ref d) (.ref c)))
 n1:1 <= n
 n6:n <= 6
 lo:H ll=some (.lst (refs lk n))
 row:xu H n lk kd tp ps
 pz:ŝ a H d n kd ps w P
 ch:j8 K a H c dc p cl ct n kd ps L ks (mOf L) U
 nw:∀ x,(x=st\/x=ll\/x=d\/∃ q,q∈P/\(x=q.ob\/x=q.dl))->¬ StW c cl ct U x
 mo1:mo <= 1000
 wm:w <= mo/\w <= 200
 way:∃ x,To P x L
def j8.but {H H':Hp} {c ll:Addr} {n:Nat} {kd:Nat->Fin 3} {ps:Nat->List Int} {ks:List V} {M:Nat} {W:Addr->Prop} (h:j8 K a H c dc p ll tl n kd ps L ks M W) {fs:List (Str × V)} (hq:H q=some (.ins C dq fs)) (nq:¬ StW c ll tl W q) (B:But q H H'):j8 K a H' c dc p ll tl n kd ps L ks M W:=by
 have b:∀ {x:Addr} {d:List V},H x=some (.lst d)->x≠q:=fun {x d} e z=>by rw [z,hq] at e; cases e
 exists B _ _ h.me fun z=>nq (.inl z.symm),h.fz.frame (W2:=fun x=>x=q) (fun x z=>⟨.ins C dq fs,by rw [show x=q from z]; exact hq,.inl rfl⟩) (fun x w z=>nq (.inr (.inr (.inr (by rw [<- show x=q from z]; exact w))))) (fun x o e g=>B x o e g),B _ _ h.hl (b h.hl),B _ _ h.ht (b h.ht),h.tx.mono fun x d e f=>⟨B _ _ e (b e),f⟩,h.nc,h.nll,h.ntl,h.ne
def ydk (L:List (Str × List Int)) (x:Str) (t:List Int):mOf (L++[(x,t)])=mOf L+6 * (dec t).length:=by
 unfold mOf;rw [cM,show List.map (fun x:Str × List Int=>x.2) [(x,t)]=[t] from rfl,õ,cF];omega
def yje {w:Nat} (h:∀ y,y∈L->y.2.length <= w) (hw:w <= 200) (hl:L.length <= 61):mOf L <= 660000:=by
 have c:=yc1 (w:=w) (L.map (·.2)) fun x a=>by
  obtain ⟨y,b,rfl⟩:=cI.mp a;exact h y b
 rw [cA] at c;have d:L.length * (9 * w+1) <= 61 * 1801:=Nat.mul_le_mul hl (by omega);unfold mOf;omega
def StO (st c cl ct:Addr) (U:Addr->Prop):Addr->Prop:=fun y=>y=st\/StW c cl ct U y
def Go.or {W Y:Addr->Prop} {H H':Hp} (g:Go W H H' W'):Go (fun x=>Y x\/W x) H H' (fun x=>Y x\/W' x) :=
 ⟨fun c o e a=>g.fr c o e fun w=>a (.inr w),fun c w=>w.elim (fun y=>.inl (.inl y)) fun w=>(g.nw c w).imp .inr id,g.lv⟩
def j8.noTup {H:Hp} {c ll:Addr} {n:Nat} {kd:Nat->Fin 3} {ps:Nat->List Int} {ks:List V} {M:Nat} {W:Addr->Prop} (h:j8 K a H c dc p ll tl n kd ps L ks M W) {x:Addr} {xs:List V} (e:H x=some (.tup xs)):¬ StW c ll tl W x:=fun w=>by
 rcases w with z | z | z | z
 .rw [z,h.me] at e; cases e
 .rw [z,h.hl] at e; cases e
 .rw [z,h.ht] at e; cases e
 .exact h.fz.sh.tup e z
theorem j8.same {H H':Hp} {c ll:Addr} {n:Nat} {kd:Nat->Fin 3} {ps:Nat->List Int} {ks:List V} {M:Nat} {W:Addr->Prop} (h:j8 K a H c dc p ll tl n kd ps L ks M W) (S:yv H H'):j8 K a H' c dc p ll tl n kd ps L ks M W :=
 ⟨S _ _ h.me,h.fz.same S,S _ _ h.hl,S _ _ h.ht,h.tx.mono fun _ _ e b=>⟨S _ _ e,b⟩,h.nc,h.nll,h.ntl,h.ne⟩
def ŝ.fr {H H':Hp} {d:Addr} {n:Nat} {kd:Nat->Fin 3} {ps:Nat->List Int} {w:Nat} {P:List Pc} (h:ŝ a H d n kd ps w P) (f:∀ x o,H x=some o->(x=d\/∃ q,q∈P/\(x=q.ob\/x=q.dl))->H' x=some o):ŝ a H' d n kd ps w P :=
 ⟨f _ _ h.dk (.inl rfl),fun q b=>⟨f _ _ (h.ob q b).1 (.inr ⟨q,b,.inl rfl⟩),f _ _ (h.ob q b).2 (.inr ⟨q,b,.inr rfl⟩)⟩,h.nd,h.wf,h.sz,h.z,h.nm⟩
def xu.fr {H H':Hp} {n:Nat} {lk:Nat->Addr} {kd:Nat->Fin 3} {ps:Nat->List Int} (h:xu H n lk kd tp ps) (f:∀ x xs,H x=some (.tup xs)->H' x=some (.tup xs)):xu H' n lk kd tp ps:=fun i d=>by
 obtain ⟨q,e,b,c,a⟩:=h i d;exists q,e,f _ _ b,f _ _ c,a
section
variable {H H':Hp} {st ll d c ct:Addr} {lk:Nat->Addr} {n:Nat} {kd:Nat->Fin 3} {ps:Nat->List Int} {mo w:Nat} {P:List Pc} {ks:List V}
theorem j6.same (h:j6 K a H st ds ll d c dc p cl ct lk tp n kd ps mo w P L ks U) (S:yv H H'):j6 K a H' st ds ll d c dc p cl ct lk tp n kd ps mo w P L ks U :=
 ⟨S _ _ h.me,h.n1,h.n6,S _ _ h.lo,h.row.same S,h.pz.same S,h.ch.same S,h.nw,h.mo1,h.wm,h.way⟩
def j6.lv (h:j6 K a H st ds ll d c dc p cl ct lk tp n kd ps mo w P L ks U):∀ x,(x=st\/x=ll\/x=d\/∃ q,q∈P/\(x=q.ob\/x=q.dl))->∃ o,H x=some o:=fun x e=>by
 rcases e with z | z | z | ⟨q,b,z | z⟩
 .exists _,by rw [z]; exact h.me
 .exists _,by rw [z]; exact h.lo
 .exists _,by rw [z]; exact h.pz.dk
 .exists _,by rw [z]; exact (h.pz.ob q b).1
 .exists _,by rw [z]; exact (h.pz.ob q b).2
def j6.lvO (h:j6 K a H st ds ll d c dc p cl ct lk tp n kd ps mo w P L ks U):∀ x,StO st c cl ct U x->∃ o,H x=some o:=fun x b=>by
 rcases b with z | z | z | z | z
 .exists _,by rw [z]; exact h.me
 .exists _,by rw [z]; exact h.ch.me
 .exists _,by rw [z]; exact h.ch.hl
 .exists _,by rw [z]; exact h.ch.ht
 .exact h.ch.fz.live x z
def j6.go (h:j6 K a H st ds ll d c dc p cl ct lk tp n kd ps mo w P L ks U) {ks':List V} (hc:j8 K a H' c dc p cl ct n kd ps M ks' (mOf M) U') (g:Go (ChW cl ct U) H H' (ChW cl ct U')) (way:∃ x,To P x M):j6 K a H' st ds ll d c dc p cl ct lk tp n kd ps mo w P M ks' U'/\Go (StO st c cl ct U) H H' (StO st c cl ct U'):=by
 have g1:Go (StW c cl ct U) H H' (StW c cl ct U'):=g.or (Y:=fun x=>x=c);have f:∀ x o,H x=some o->(x=st\/x=ll\/x=d\/∃ q,q∈P/\(x=q.ob\/x=q.dl))->H' x=some o:=fun x o e b=>g1.fr x o e (h.nw x b);exists ⟨f _ _ h.me (.inl rfl),h.n1,h.n6,f _ _ h.lo (.inr (.inl rfl)),h.row.fr fun x i e=>g1.fr _ _ e (h.ch.noTup e),h.pz.fr fun x o e z=>f x o e (.inr (.inr z)),hc,g1.apart (fun x b=>h.lv x b) h.nw,h.mo1,h.wm,way⟩,g1.or (Y:=fun x=>x=st)
structure StB (a:Ads) (H:Hp) (st ds ll d:Addr) (vc:V) (lk tp:Nat->Addr) (n:Nat) (kd:Nat->Fin 3) (ps:Nat->List Int) (mo w:Nat) (P:List Pc):Prop where
 me:H st=some (.ins a.A0 ds (xc (.ref ll) (.int mo) (.ref d) vc))
 n1:1 <= n
 n6:n <= 6
 lo:H ll=some (.lst (refs lk n))
 row:xu H n lk kd tp ps
 pz:ŝ a H d n kd ps w P
 mo1:mo <= 1000
 wm:w <= mo/\w <= 200
def j6.b (h:j6 K a H st ds ll d c dc p cl ct lk tp n kd ps mo w P L ks U):StB a H st ds ll d (.ref c) lk tp n kd ps mo w P:=⟨h.me,h.n1,h.n6,h.lo,h.row,h.pz,h.mo1,h.wm⟩
def StB.lv {vc:V} (h:StB a H st ds ll d vc lk tp n kd ps mo w P):∀ x,(x=st\/x=ll\/x=d\/∃ q,q∈P/\(x=q.ob\/x=q.dl))->∃ o,H x=some o:=fun x c=>by
 rcases c with z | z | z | ⟨q,b,z | z⟩
 .exists _,by rw [z]; exact h.me
 .exists _,by rw [z]; exact h.lo
 .exists _,by rw [z]; exact h.pz.dk
 .exists _,by rw [z]; exact (h.pz.ob q b).1
 .exists _,by rw [z]; exact (h.pz.ob q b).2
def Go.wide {W:Addr->Prop} (g:Go W H H' W') (f:∀ x,W x->W2 x):Go W2 H H' W':=⟨fun c o e a=>g.fr c o e fun w=>a (f c w),fun c w=>(g.nw c w).imp (f c) id,g.lv⟩
def StB.re {vc:V} (h:StB a H st ds ll d vc lk tp n kd ps mo w P) {dc' p':Addr} {HE:Hp} (nc:H c'=none) (ndc:H dc'=none) (hch:j8 K a HE c' dc' p' cl' ct' n kd ps [] [] 6 U') (hnew:∀ x,ChW cl' ct' U' x->(upd (upd H dc' (.own c')) c' (.ins a.A1 dc' [])) x=none) (BE:But c' (upd (upd H dc' (.own c')) c' (.ins a.A1 dc' [])) HE) :
  j6 K a (upd HE st (.ins a.A0 ds (xc (.ref ll) (.int mo) (.ref d) (.ref c')))) st ds ll d c' dc' p' cl' ct' lk tp n kd ps mo w P [] [] U'/\Go (fun y=>y=st) H (upd HE st (.ins a.A0 ds (xc (.ref ll) (.int mo) (.ref d) (.ref c')))) (StO st c' cl' ct' U')/\yv H HE/\∀ x,StW c' cl' ct' U' x->H x=none:=by
 have l:yv H (upd (upd H dc' (.own c')) c' (.ins a.A1 dc' [])):=fun b o e=>by rw [yk (yb e nc),yk (yb e ndc)]; exact e
 have f:yv H HE:=fun b o e=>BE _ _ (l _ _ e) (yb e nc)
 have k:∀ x,StW c' cl' ct' U' x->H x=none:=fun x w=>by
  rcases w with z | z
  .rw [z]; exact nc
  .exact l.free (hnew x z)
 have g:∀ {x:Addr} {o:HO},H x=some o->¬ StW c' cl' ct' U' x:=fun {x o} e w=>by rw [k x w] at e; cases e
 have c:=h.me;have m:∀ {x:Addr} {j:List V},H x=some (.lst j)->x≠st:=fun {x j} e z=>by rw [z,c] at e; cases e
 exists ⟨ya,h.n1,h.n6,yf (m h.lo) (f _ _ h.lo),h.row.fr fun x j e=>yf (fun z=>by rw [z,c] at e; cases e) (f _ _ e),⟨yf (fun z=>?_) (f _ _ h.pz.dk),fun q i=>⟨yf (fun z=>?_) (f _ _ (h.pz.ob q i).1),yf (m (h.pz.ob q i).2) (f _ _ (h.pz.ob q i).2)⟩,h.pz.nd,h.pz.wf,h.pz.sz,h.pz.z,h.pz.nm⟩,hch.but (f _ _ c) (g c) But.upd,fun x s=>?_,h.mo1,h.wm,⟨none,rfl⟩⟩,⟨fun x o e p=>yf p (f _ _ e),fun x w=>?_,fun x o e=>?_⟩,f,k
 .have e:=h.pz.dk; rw [z,c] at e; cases e
 .have e:=(h.pz.ob q i).1;rw [z,c] at e;injection e with e;injection e with _ _ e;have r:=congrArg List.length e;exact absurd (show (4:Nat)=2 from r) (by decide)
 .obtain ⟨o,e⟩:=h.lv x s;exact g e
 .rcases w with z | z
  .exact .inl z
  .exact .inr (k x z)
 .by_cases z:x=st
  .exists _,by rw [z]; exact ya
  .exists o,yf z (f _ _ e)
theorem j6.re (h:j6 K a H st ds ll d c dc p cl ct lk tp n kd ps mo w P L ks U) {dc' p':Addr} {HE:Hp} (nc:H c'=none) (ndc:H dc'=none) (hch:j8 K a HE c' dc' p' cl' ct' n kd ps [] [] 6 U') (hnew:∀ x,ChW cl' ct' U' x->(upd (upd H dc' (.own c')) c' (.ins a.A1 dc' [])) x=none) (BE:But c' (upd (upd H dc' (.own c')) c' (.ins a.A1 dc' [])) HE) :
  j6 K a (upd HE st (.ins a.A0 ds (xc (.ref ll) (.int mo) (.ref d) (.ref c')))) st ds ll d c' dc' p' cl' ct' lk tp n kd ps mo w P [] [] U'/\Go (StO st c cl ct U) H (upd HE st (.ins a.A0 ds (xc (.ref ll) (.int mo) (.ref d) (.ref c')))) (StO st c' cl' ct' U')/\yv H HE/\∀ x,StW c' cl' ct' U' x->H x=none:=by
 obtain ⟨f,g,e⟩:=h.b.re nc ndc hch hnew BE;exists f,g.wide fun _ z=>.inl z,e
def To.less {b:Str} {x:Option Str} (h:To P x M) (hx:x≠some b):To (P.filter fun q=>decide (q.nm≠b)) x M:=by
 cases x with
 | none=>exact h
 | some y =>
  obtain ⟨r,d,a,c⟩:=h;exists r,List.mem_filter.mpr ⟨d,cK fun z=>hx ?_⟩,a,c;rw [<- a,z]
def ykf (b:Str):∀ P:List Pc,Û (pcs P) (.inr b)=pcs (P.filter fun q=>decide (q.nm≠b)):=fun P=>by
 unfold Û pcs;rw [List.filter_map]
 congr 1
 refine List.filter_congr fun q _=>?_;by_cases e:q.nm=b
 .simp [e]
 .simp [e]
def StB.drop {vc:V} (h:StB a H st ds ll d vc lk tp n kd ps mo w P) {b:Str} (hb:∀ q,q∈P->q.bs≠some b):StB a (upd H d (.dK (Û (pcs P) (.inr b)))) st ds ll d vc lk tp n kd ps mo w (P.filter fun q=>decide (q.nm≠b)):=by
 have j:=h.pz.dk;have f:∀ {x:Addr} {o:HO},H x=some o->o≠.dK (pcs P)->(upd H d (.dK (Û (pcs P) (.inr b)))) x=some o:=fun {x o} e i=>yf (fun z=>by rw [z,j] at e; cases e; exact i rfl) e;have g:∀ {q:Pc},q∈(P.filter fun q=>decide (q.nm≠b))->q∈P:=fun c=>(List.mem_filter.mp c).1
 exists f h.me (fun z=>nomatch z),h.n1,h.n6,f h.lo (fun z=>nomatch z),h.row.fr fun x k e=>f e (fun z=>nomatch z),⟨by rw [<- ykf]; exact ya,fun q c=>⟨f (h.pz.ob q (g c)).1 (fun z=>nomatch z),f (h.pz.ob q (g c)).2 (fun z=>nomatch z)⟩,h.pz.nd.sublist (List.filter_sublist.map _),fun q c=>(h.pz.wf q (g c)).less (hb q (g c)),fun q c=>h.pz.sz q (g c),dh (List.length_filter_le _ _) h.pz.z,fun q c=>h.pz.nm q (g c)⟩,h.mo1,h.wm
end
def ifI {tc:TT} {ts te:TS} {D:Ö} {σ:St} {H:Hp} (C:Prop) (h:∀ Qb:Bool->Hp->Prop,(C->Qb true H)->Qb false H->tc σ H Qb) (hT:C->ts D σ H) (hF:te D σ H):va1 tc ts te D σ H :=
 h _ (fun c=>by show (if true=true then _ else _); rw [if_pos rfl]; exact hT c) (by show (if false=true then _ else _); rw [if_neg (by decide)]; exact hF)
structure Pd where
 nm:Str
 bs:Option Str
 path:List (Str × List Int)
 tx:List Int
def Pc.pd (q:Pc):Pd:=⟨q.nm,q.bs,q.path,q.tx⟩
structure Cf where
 n:Nat
 kd:Nat->Fin 3
 ps:Nat->List Int
 mo:Nat
 w:Nat
def Pd.by (C:Cf) (q:Pd):List Int:=τ C.n C.kd C.ps (Ù (q.path.map (·.2))) q.tx
def ToD (P:List Pd):Option Str->List (Str × List Int)->Prop
 | none,L=>L=[]
 | some b,L=>∃ r,r∈P/\r.nm=b/\L=r.path++[(b,r.tx)]
def Ā {Q:List Pc} {x:Option Str} :ToD (Q.map Pc.pd) x L ↔ To Q x L:=by
 cases x with
 | none=>exact Iff.rfl
 | some b =>
  exists fun ⟨r,a,e⟩=>?_,fun ⟨r,a,e⟩=>⟨_,cI.mpr ⟨r,a,rfl⟩,e⟩;obtain ⟨q,c,rfl⟩:=cI.mp a;exact ⟨q,c,e⟩
def okN (x:Str):Prop:=nmS x=true/\PyData.strOk x=true
def WD (d st c cl ct:Addr) (U:Addr->Prop):Addr->Prop:=fun y=>y=d\/StO st c cl ct U y
structure Sx where
 w:Addr->Prop
 f:Addr->Prop
def vax (d st c cl ct:Addr) (U:Addr->Prop) (ll:Addr) (Q:List Pc) (ks:List V):Sx :=
 ⟨WD d st c cl ct U,fun y=>WD d st c cl ct U y\/y=ll\/(∃ q,q∈Q/\(y=q.ob\/y=q.dl))\/V.ref y∈ks⟩
inductive Sto (K:W.Frag) (a:Ads) (H:Hp) (st:Addr) (C:Cf) (P:List Pd) (X:Sx):Prop
 | mk (ds ll d c dc p cl ct:Addr) (lk tp:Nat->Addr) (Q:List Pc) (L:List (Str × List Int)) (ks:List V) (U:Addr->Prop) (s:j6 K a H st ds ll d c dc p cl ct lk tp C.n C.kd C.ps C.mo C.w Q L ks U) (e:Q.map Pc.pd=P) (x:X=vax d st c cl ct U ll Q ks)
structure Gx (X:Sx) (H H':Hp) (Y:Sx):Prop where
 g:Go X.w H H' Y.w
 f:∀ y,Y.f y->X.f y\/H y=none
theorem Gx.same {X Y:Sx} {H H1 H2:Hp} (h:Gx X H H1 Y) (S:yv H1 H2):Gx X H H2 Y:=⟨h.g.same S,h.f⟩
theorem Gx.ahead {X Y:Sx} {H H1 H2:Hp} (S:yv H H1) (h:Gx X H1 H2 Y):Gx X H H2 Y:=⟨h.g.ahead S,fun y w=>(h.f y w).imp id S.free⟩
theorem Gx.trans {X Y Z:Sx} {H H1 H2:Hp} (h:Gx X H H1 Y) (k:Gx Y H1 H2 Z):Gx X H H2 Z:=⟨h.g.trans k.g,fun y w=>(k.f y w).elim (h.f y) fun e=>.inr (h.g.free e)⟩
def Kf (H:Hp) (X:Sx) (x:Addr) (o:HO):Prop:=H x=some o/\¬ X.f x
section
variable {B H H':Hp} {st:Addr} {C:Cf} {P:List Pd} {X Y:Sx}
theorem Sto.same (h:Sto K a H st C P X) (S:yv H H'):Sto K a H' st C P X:=by
 obtain ⟨b,l,d,c,m,p,k,j,f,g,Q,L,i,U,s,e,x⟩:=h;exists b,l,d,c,m,p,k,j,f,g,Q,L,i,U,s.same S,e,x
def Sto.live (h:Sto K a H st C P X):∀ y,X.f y->∃ o,H y=some o:=fun y g=>by
 obtain ⟨i,r,d,c,u,p,n,l,j,t,Q,L,m,U,s,rfl,rfl⟩:=h;rcases g with (z | z) | z | ⟨q,b,z⟩ | z
 .exists _,by rw [z]; exact s.pz.dk
 .exact s.lvO y z
 .exists _,by rw [z]; exact s.lo
 .exact s.lv y (.inr (.inr (.inr ⟨q,b,z⟩)))
 .rcases s.ch.tx.mem _ z with e | ⟨q,k,e,b,_⟩
  .cases e
  .cases e; exists _,b
def Sto.wf (h:Sto K a H st C P X):∀ y,X.w y->X.f y:=fun y b=>by
 obtain ⟨e,m,d,c,n,p,k,j,g,i,Q,L,l,U,s,rfl,rfl⟩:=h;exact .inl b
theorem Sto.ins (h:Sto K a H st C P X):∃ ds vl vm vp vc,H st=some (.ins a.A0 ds (xc vl vm vp vc)):=by
 obtain ⟨ds,j,d,c,k,p,i,g,b,e,Q,L,f,U,s,rfl,rfl⟩:=h;exists _,_,_,_,_,s.me
def vbn (Q:List Pc):(Q.map Pc.pd).map (·.nm)=Q.map (·.nm):=by rw [df]; rfl
theorem Sto.nd (h:Sto K a H st C P X):(P.map (·.nm)).Nodup:=by
 obtain ⟨b,k,d,c,l,p,j,i,e,f,Q,L,g,U,s,rfl,rfl⟩:=h;rw [vbn];exact s.pz.nd
theorem Sto.z (h:Sto K a H st C P X):P.length <= 60:=by
 obtain ⟨b,k,d,c,l,p,j,i,e,f,Q,L,g,U,s,rfl,rfl⟩:=h;rw [cA];exact s.pz.z
theorem Sto.nm (h:Sto K a H st C P X):∀ q,q∈P->okN q.nm:=fun q e=>by
 obtain ⟨f,m,d,c,n,p,l,k,i,j,Q,L,g,U,s,rfl,rfl⟩:=h;obtain ⟨r,b,rfl⟩:=cI.mp e;exact s.pz.nm r b
def Sto.to (h:Sto K a H st C P X):∀ q,q∈P->ToD P q.bs q.path:=fun q e=>by
 obtain ⟨f,m,d,c,n,p,l,k,i,j,Q,L,g,U,s,rfl,rfl⟩:=h;obtain ⟨r,b,rfl⟩:=cI.mp e;exact Ā.mpr (s.pz.wf r b)
def Sto.cf (h:Sto K a H st C P X):1 <= C.n/\C.n <= 6/\C.mo <= 1000/\C.w <= C.mo/\C.w <= 200:=by
 obtain ⟨b,k,d,c,l,p,j,i,e,f,Q,L,g,U,s,rfl,rfl⟩:=h;exists s.n1,s.n6,s.mo1,s.wm.1,s.wm.2
theorem Sto.frame (h:Sto K a H st C P X) (sh:WSh H W2) (dj:∀ y,X.f y->¬ W2 y) (fr:∀ y o,H y=some o->¬ W2 y->H' y=some o):Sto K a H' st C P X:=by
 obtain ⟨t,m,d,c,F,p,i,g,u,A,Q,L,l,U,s,rfl,rfl⟩:=h;have f:∀ {y:Addr} {o:HO},H y=some o->(vax d st c i g U m Q l).f y->H' y=some o:=fun {y o} e w=>fr y o e (dj y w);exists t,m,d,c,F,p,i,g,u,A,Q,L,l,U,⟨f s.me (.inl (.inr (.inl rfl))),s.n1,s.n6,f s.lo (.inr (.inl rfl)),s.row.fr fun y G e=>fr _ _ e (sh.tup e),s.pz.fr fun y o e z=>f e (z.elim (fun z=>.inl (.inl z)) fun z=>.inr (.inr (.inl z))),⟨f s.ch.me (.inl (.inr (.inr (.inl rfl)))),s.ch.fz.frame sh (fun y w=>dj y (.inl (.inr (.inr (.inr (.inr (.inr w))))))) fr,f s.ch.hl (.inl (.inr (.inr (.inr (.inl rfl))))),f s.ch.ht (.inl (.inr (.inr (.inr (.inr (.inl rfl)))))),?_,s.ch.nc,s.ch.nll,s.ch.ntl,s.ch.ne⟩,s.nw,s.mo1,s.wm,s.way⟩,rfl,rfl
 have j:∀ {L:List (Str × List Int)} {b:List V},(∀ v,v∈b->v∈l)->yck H (ChW i g U) L b->yck H' (ChW i g U) L b:=by
  intro L
  induction L with
  | nil=>intro b _ h; exact h
  | cons y r ih =>
   rintro b n ⟨k,D,rfl,z,h⟩;exists k,D,rfl,z.imp id fun ⟨q,e,B,E⟩=>⟨q,e,f B (.inr (.inr (.inr ?_))),E⟩,ih (fun v x=>n v (dy _ x)) h;rw [<- e];exact n _ dm
 exact j (fun _ h=>h) s.ch.tx
def Sto.but (h:Sto K a H st C P X) (sh:WSh H fun z=>z=y) (ny:¬ X.f y) (b:But y H H'):Sto K a H' st C P X :=
 h.frame sh (fun z w e=>ny (by rw [<- e]; exact w)) fun z o e c=>b z o e c
def WSh.mu {o:HO} (e:H y=some o) (ho:yup o=true):WSh H fun z=>z=y:=fun z w=>⟨o,by rw [w]; exact e,.inl ho⟩
def Kf.go {x:Addr} {o:HO} (h:Kf H X x o) (s:Sto K a H st C P X) (g:Gx X H H' Y):Kf H' Y x o :=
 ⟨g.g.fr _ _ h.1 fun w=>h.2 (s.wf _ w),fun w=>(g.f x w).elim h.2 fun e=>by rw [h.1] at e; cases e⟩
def Kf.same {x:Addr} {o:HO} (h:Kf H X x o) (S:yv H H'):Kf H' X x o:=⟨S _ _ h.1,h.2⟩
def Kf.new {x:Addr} {o:HO} (s:Sto K a H st C P X) (hx:H x=none) (e:H' x=some o):Kf H' X x o:=⟨e,fun w=>by
 obtain ⟨c,b⟩:=s.live x w;rw [hx] at b;cases b⟩
def Kf.but {x:Addr} {o:HO} (h:Kf H X x o) (ne:x≠y) (b:But y H H'):Kf H' X x o:=⟨b _ _ h.1 ne,h.2⟩
def Gx.bs (s:Sto K a H st C P X) (g:Gx X H H' Y) (S:yv B H) (nb:∀ y,X.f y->B y=none):yv B H'/\∀ y,Y.f y->B y=none :=
 ⟨fun y o e=>g.g.fr _ _ (S _ _ e) (fun w=>by rw [nb y (s.wf y w)] at e; cases e),fun y w=>(g.f y w).elim (nb y) S.free⟩
def Gx.of {d c ct ll:Addr} {Q Q':List Pc} {ks ks':List V} (g:Go (WD d st c cl ct U) H H' (WD d st c' cl' ct' U')) (nk:NK H ks ks') (hq:∀ q,q∈Q'->q∈Q\/(H q.ob=none/\H q.dl=none)):Gx (vax d st c cl ct U ll Q ks) H H' (vax d st c' cl' ct' U' ll Q' ks'):=by
 exists g,fun y w=>?_;rcases w with z | z | ⟨q,h,z⟩ | z
 .exact (g.nw y z).imp .inl id
 .exact .inl (.inr (.inl z))
 .rcases hq q h with a | ⟨b,e⟩
  .exact .inl (.inr (.inr (.inl ⟨q,a,z⟩)))
  .rcases z with z | z
   .rw [z]; exact .inr b
   .rw [z]; exact .inr e
 .exact (nk y z).imp (fun z=>.inr (.inr (.inr z))) id
end
theorem yio:∀ {P:List Pd} {q r:Pd},(P.map (·.nm)).Nodup->q∈P->r∈P->q.nm=r.nm->q=r
 | x :: P,q,r,hn,hq,hr,e=>by
  have a:=dR.mp hn;rcases cT.mp hq with z | z <;> rcases cT.mp hr with y | y
  .rw [z,y]
  .exact absurd (cI.mpr ⟨r,y,by rw [<- e,z]⟩) a.1
  .exact absurd (cI.mpr ⟨q,z,by rw [e,y]⟩) a.1
  .exact yio a.2 z y e
def ToD.uniq {P:List Pd} {x:Option Str} (hn:(P.map (·.nm)).Nodup) (h:ToD P x L) (g:ToD P x M):L=M:=by
 cases x with
 | none=>rw [show L=[] from h,show M=[] from g]
 | some b =>
  obtain ⟨r,c,i,f⟩:=h;obtain ⟨q,d,a,e⟩:=g;obtain rfl:=yio hn c d (i.trans a.symm);rw [f,e]
theorem yht {α:Type} [DecidableEq α]:∀ {l m:List α},l.Nodup->(∀ x,x∈l->x∈m)->l.length <= m.length
 | [],_,_,_=>cV _
 | x :: l,m,hn,h=>by
  have a:=dR.mp hn;have c:=h x dm;have d:l.length <= (m.erase x).length:=yht a.2 fun y b=>(List.mem_erase_of_ne (fun e=>a.1 (by rw [<- e]; exact b))).mpr (h y (dy _ b));rw [List.length_erase_of_mem c] at d;have:=List.length_pos_of_mem c;rw [de];omega
def Pd.pc (q:Pd):Pc:=⟨q.nm,q.bs,q.path,q.tx,0,0,0⟩
def yzz (P:List Pd):(P.map Pd.pc).map Pc.pd=P:=by
 rw [df];exact List.map_id _
structure PdW (P:List Pd):Prop where
 nd:(P.map (·.nm)).Nodup
 wf:∀ q,q∈P->ToD P q.bs q.path
theorem ToD.pc {P:List Pd} {x:Option Str} (h:ToD P x L):To (P.map Pd.pc) x L:=Ā.mp (by rw [yzz]; exact h)
theorem ToD.at {P:List Pd} (w:PdW P) {x:Option Str} (t:ToD P x L) (hj:j < L.length):∃ r,r∈P/\L[j]=(r.nm,r.tx)/\r.path=L.take j/\ToD P (some r.nm) (L.take (j+1)):=by
 obtain ⟨r,c,b,f,e⟩:=To.at' (fun q d=>by
  obtain ⟨u,a,rfl⟩:=cI.mp d;exact (w.wf u a).pc) t.pc hj
 obtain ⟨u,a,rfl⟩:=cI.mp c;exists u,a,b,f,?_;have:=Ā.mpr e;rw [yzz] at this;exact this
def ToD.len {P:List Pd} (w:PdW P) {x:Option Str} (t:ToD P x L):L.length <= P.length:=by
 have h:=yht (l:=L.map (·.1)) (m:=P.map (·.nm)) ?_ ?_
 .rw [cA,cA] at h;exact h
 .refine List.pairwise_iff_getElem.mpr fun i j d a o e=>?_;rw [cA] at d a;rw [dY,dY] at e;obtain ⟨r,c,b,f,_⟩:=t.at w d;obtain ⟨u,g,g1,g2,_⟩:=t.at w a;rw [b,g1] at e;have:=yio w.nd c g e;rw [this,g2] at f;have p:=congrArg List.length f;rw [cX,cX] at p;omega
 .intro y n;obtain ⟨z,k,rfl⟩:=cI.mp n;obtain ⟨j,a,rfl⟩:=List.mem_iff_getElem.mp k;obtain ⟨r,c,b,_⟩:=t.at w a;rw [b];exact cI.mpr ⟨r,c,rfl⟩
def Sto.pw {H:Hp} {st:Addr} {C:Cf} {P:List Pd} {X:Sx} (h:Sto K a H st C P X):PdW P:=⟨h.nd,h.to⟩
structure Bs (B H:Hp) (X:Sx):Prop where
 s:yv B H
 n:∀ y,X.f y->B y=none
def Bs.same {B H H':Hp} {X:Sx} (h:Bs B H X) (S:yv H H'):Bs B H' X:=⟨h.s.trans S,h.n⟩
def Bs.go {B H H':Hp} {st:Addr} {C:Cf} {P:List Pd} {X Y:Sx} (h:Bs B H X) (s:Sto K a H st C P X) (g:Gx X H H' Y):Bs B H' Y:=⟨(g.bs s h.s h.n).1,(g.bs s h.s h.n).2⟩
def Bs.but {B H H':Hp} {X:Sx} (h:Bs B H X) (ny:B y=none) (b:But y H H'):Bs B H' X:=⟨fun x o e=>b _ _ (h.s _ _ e) (yb e ny),h.n⟩
def Bs.kf {B H:Hp} {X:Sx} {x:Addr} {o:HO} (h:Bs B H X) (e:B x=some o):Kf H X x o:=⟨h.s _ _ e,fun w=>by rw [h.n x w] at e; cases e⟩
def ywp {ns:List Str} (h:ns.Nodup) {hi:i < ns.length} {hj:j < ns.length} (e:ns[i]=ns[j]):i=j:=by
 have a:=List.pairwise_iff_getElem.mp h;rcases Nat.lt_trichotomy i j with z | z | z
 .exact absurd e (a i j hi hj z)
 .exact z
 .exact absurd e.symm (a j i hj hi z)
def yyq {P:List Pd} {ns:List Str} {b:Str} (h:P.map (·.nm)=ns.take i) (hj:j < i) (hb:ns[j]?=some b):∃ r,r∈P/\r.nm=b:=by
 have e:b∈P.map (·.nm):=by
  rw [h];exact cR (i:=j) (by rw [List.getElem?_take,if_pos hj]; exact hb)
 obtain ⟨r,a,e⟩:=cI.mp e;exact ⟨r,a,e⟩
def yqe {P:List Pd} {ns:List Str} (hnd:ns.Nodup) (h:P.map (·.nm)=ns.take i) (hi:i < ns.length):P.length=i/\∀ q,q∈P->q.nm≠ns[i]:=by
 exists ?_,fun q d e=>?_
 .have e:=congrArg List.length h;rw [cA,cX] at e;omega
 .have c:q.nm∈ns.take i:=by rw [<- h]; exact cI.mpr ⟨q,d,rfl⟩
  obtain ⟨j,b,a⟩:=List.mem_iff_getElem.mp c;rw [List.getElem_take] at a;rw [cX] at b;have:=ywp hnd (a.trans e);omega
def Bs.mk' {H:Hp} {st:Addr} {C:Cf} {P:List Pd} {X:Sx} (_:Sto K a H st C P X) (md:Addr):∃ B:Hp,Bs B H X/\B md=none/\∀ x o,H x=some o->¬ X.f x->x≠md->B x=some o:=by
 classical
 exists fun x=>if X.f x\/x=md then none else H x,⟨fun y o e=>?_,fun y w=>?_⟩,?_,fun x o e c b=>?_
 .by_cases z:X.f y\/y=md
  .rw [if_pos z] at e; cases e
  .rw [if_neg z] at e; exact e
 .exact if_pos (.inl w)
 .exact if_pos (.inr rfl)
 .show (if X.f x\/x=md then none else H x)=some o;rw [if_neg fun z=>z.elim c b];exact e
def mdK (tu:Str->Addr) (P:List Pd):List (Key × V):=P.map fun q=>(.inr q.nm,.ref (tu q.nm))
theorem ym3 (tu:Str->Addr):∀ {P:List Pd} {q:Pd},q∈P->ut (mdK tu P) (.inr q.nm)=some (.ref (tu q.nm))
 | r :: P,q,hq=>by
  unfold ut mdK;rw [di];by_cases e:r.nm=q.nm
  .rw [List.find?_cons_of_pos (by simp [e]),<- e];rfl
  .rw [List.find?_cons_of_neg (by simpa using e)];rcases cT.mp hq with z | z
   .exact absurd (by rw [z]) e
   .exact ym3 tu z
def yjm (tu:Str->Addr) {P:List Pd} {b:Str} (h:∀ q,q∈P->q.nm≠b):ut (mdK tu P) (.inr b)=none:=by
 unfold ut mdK;rw [List.find?_eq_none.mpr fun y a=>?_]
 .rfl
 .obtain ⟨q,c,e⟩:=cI.mp a;rw [<- e];simpa using h q c
def DkF (H:Hp) (md:Addr) (kvs:List (Key × V)):Prop:=H md=some (.dK kvs)\/∃ o,H md=some (.frz o (.dK kvs))
def DkF.get {H:Hp} {kvs:List (Key × V)} (h:DkF H md kvs) (b:Str):ď H md (.str b) (ut kvs (.inr b)):=.inl ⟨kvs,.inr b,h,rfl,rfl⟩
structure Mdl (H:Hp) (X:Sx) (md:Addr) (P:List Pd) (tu tx:Str->Addr):Prop where
 d:DkF H md (mdK tu P)
 n:¬ X.f md
 t:∀ q,q∈P->Kf H X (tu q.nm) (.tup [.ref (tx q.nm),baV q.bs])
 x:∀ q,q∈P->Kf H X (tx q.nm) (.lst (q.tx.map V.int))
theorem Mdl.same {H H':Hp} {X:Sx} {P:List Pd} {tx:Str->Addr} (h:Mdl H X md P tu tx) (S:yv H H'):Mdl H' X md P tu tx:=⟨h.d.imp (S _ _) fun ⟨o,e⟩=>⟨o,S _ _ e⟩,h.n,fun q a=>(h.t q a).same S,fun q a=>(h.x q a).same S⟩
theorem Mdl.go {H H':Hp} {st:Addr} {C:Cf} {P P2:List Pd} {X Y:Sx} {tx:Str->Addr} (h:Mdl H X md P tu tx) (s:Sto K a H st C P2 X) (g:Gx X H H' Y):Mdl H' Y md P tu tx:=⟨h.d.imp (fun e=>(Kf.go ⟨e,h.n⟩ s g).1) fun ⟨o,e⟩=>⟨o,(Kf.go ⟨e,h.n⟩ s g).1⟩,(h.d.elim (fun e=>(Kf.go ⟨e,h.n⟩ s g).2) fun ⟨o,e⟩=>(Kf.go ⟨e,h.n⟩ s g).2),fun q b=>(h.t q b).go s g,fun q b=>(h.x q b).go s g⟩
theorem Mdl.but {H H':Hp} {X:Sx} {P:List Pd} {tx:Str->Addr} (h:Mdl H X md P tu tx) {o:HO} (hy:H y=some o) (ho:yup o=true) (ne:md≠y) (b:But y H H'):Mdl H' X md P tu tx :=
 ⟨h.d.imp (fun e=>b _ _ e ne) fun ⟨o,e⟩=>⟨o,b _ _ e ne⟩,h.n,fun q a=>(h.t q a).but (fun z=>by have e:=(h.t q a).1; rw [z,hy] at e; cases e; cases ho) b,fun q a=>(h.x q a).but (fun z=>by have e:=(h.x q a).1; rw [z,hy] at e; cases e; cases ho) b⟩
theorem Mdl.get {H:Hp} {X:Sx} {P:List Pd} {tx:Str->Addr} (h:Mdl H X md P tu tx) {q:Pd} (hq:q∈P):ď H md (.str q.nm) (some (.ref (tu q.nm))):=by
 rw [<- ym3 tu hq];exact h.d.get q.nm
def upS (g:Str->Addr) (b:Str) (x:Addr):Str->Addr:=fun s=>if s=b then x else g s
def yd5 {g:Str->Addr} {b:Str} {x:Addr}:upS g b x b=x:=if_pos rfl
def ydp {g:Str->Addr} {b s:Str} {x:Addr} (h:s≠b):upS g b x s=g s:=if_neg h
def ō (tu:Str->Addr) (P:List Pd):((mdK tu P).map fun p=>kV p.1)=(P.map (·.nm)).map V.str:=by
 unfold mdK;rw [df,df];rfl
def yie {P:List Pd} {q:Pd} {t:Addr} (hno:∀ r,r∈P->r.nm≠q.nm):ω (mdK tu P) (.inr q.nm) (.ref t)=mdK (upS tu q.nm t) (P++[q]):=by
 rw [zh _ (yjm tu hno)];unfold mdK;rw [cM,List.map_singleton,yd5]
 congr 1
 exact List.map_congr_left fun r a=>by rw [ydp (hno r a)]
theorem yab (tu:Str->Addr):∀ {A B:List Pd},((A++B).map (·.nm)).Nodup->Ñ (mdK tu A) (mdK tu B)=mdK tu (A++B)
 | A,[],_=>by rw [d6]; rfl
 | A,q :: B,h=>by
  have b:∀ r,r∈A->r.nm≠q.nm:=fun r a e=>by
   rw [cM,List.nodup_append] at h;exact h.2.2 _ (cI.mpr ⟨r,a,rfl⟩) _ dm e
  have e:ω (mdK tu A) (.inr q.nm) (.ref (tu q.nm))=mdK tu (A++[q]):=by
   rw [zh _ (yjm tu b)];unfold mdK;rw [cM,List.map_singleton]
  have:=yab tu (A:=A++[q]) (B:=B) (by rw [du]; exact h);rw [du] at this;show Ñ (ω (mdK tu A) (.inr q.nm) (.ref (tu q.nm))) (mdK tu B)=_;rw [e];exact this
def Mdl.put {H:Hp} {X:Sx} {t:Addr} {P:List Pd} {tx:Str->Addr} {q:Pd} (h:Mdl H X md P tu tx) (hd:H md=some (.dK (mdK tu P))) (hno:∀ r,r∈P->r.nm≠q.nm) (ht:Kf H X t (.tup [.ref y,baV q.bs])) (hy:Kf H X y (.lst (q.tx.map V.int))) :
  Mdl (upd H md (.dK (mdK (upS tu q.nm t) (P++[q])))) X md (P++[q]) (upS tu q.nm t) (upS tx q.nm y):=by
 have f:∀ {x:Addr} {o:HO},yup o=false->Kf H X x o->Kf (upd H md (.dK (mdK (upS tu q.nm t) (P++[q])))) X x o:=fun {x o} b k=>k.but (fun z=>by have e:=k.1; rw [z,hd] at e; cases e; cases b) But.upd;exists .inl ya,h.n,fun r a=>?_,fun r a=>?_
 .rcases c7.mp a with z | z
  .rw [ydp (hno r z),ydp (hno r z)];exact f rfl (h.t r z)
  .obtain rfl:=cQ.mp z;rw [yd5,yd5];exact f rfl ht
 .rcases c7.mp a with z | z
  .rw [ydp (hno r z)];exact f rfl (h.x r z)
  .obtain rfl:=cQ.mp z;rw [yd5];exact f rfl hy
def lnV (tx:Str->Addr) (L:List (Str × List Int)):List V:=L.map fun y=>V.ref (tx y.1)
def lnA (tx:Str->Addr) (L:List (Str × List Int)) (i:Nat):Addr:=tx (L.getD i (⟨#[]⟩,[])).1
def yl1 (tx:Str->Addr) (L:List (Str × List Int)):lnV tx L=refs (lnA tx L) L.length:=by
 refine List.ext_getElem? fun i=>?_;unfold lnV refs;rw [cG,cG];rcases Nat.lt_or_ge i L.length with h | h
 .rw [cC h,dS h];unfold lnA;simp [dL,cC h]
 .rw [dn h,dn (by rw [da]; exact h)];rfl
def Mdl.ln {H:Hp} {X:Sx} {P:List Pd} {tx:Str->Addr} (h:Mdl H X md P tu tx) (w:PdW P) {x:Option Str} (t:ToD P x L) (hi:i < L.length):Kf H X (lnA tx L i) (.lst ((txi L i).map V.int)):=by
 obtain ⟨r,b,a,_⟩:=t.at w hi;have e:=h.x r b;unfold lnA txi;rw [dL,cC hi,dL,cG,cC hi,a];exact e
theorem ycw (L:List (Str × List Int)):∀ i,i <= L.length->Ď (txi L) i=Ù ((L.map (·.2)).take i)
 | 0,_=>rfl
 | i+1,h=>by
  have a:i < (L.map (·.2)).length:=by rw [cA]; omega
  rw [dr a,õ,<- ycw L i (by omega)];show _++dec (txi L i)=_;unfold txi;rw [dL,cC a];rfl
def ygk (L:List (Str × List Int)):Ď (txi L) L.length=Ù (L.map (·.2)):=by
 rw [ycw L _ (cE _),dA (by rw [cA]; exact cE _)]
#synth yuv ["self","looks"] ysc
inductive yha (K:W.Frag) (a:Ads) (vs:List V) (H:Hp) (Q:VK) (E':XK):Prop
 | mk (c dc l:Addr) (n:Nat) (lk tp:Nat->Addr) (kd:Nat->Fin 3) (ps:Nat->List Int) (_:vs=[.ref c,.ref l]) (_:H c=some (.ins a.A1 dc [])) (_:H l=some (.lst (refs lk n))) (_:1 <= n) (_:n <= 6) (_:xu H n lk kd tp ps) (_:∀ (p ll tl:Addr) (W:Addr->Prop) (H':Hp),j8 K a H' c dc p ll tl n kd ps [] [] 6 W->(∀ x,ChW ll tl W x->H x=none)->But c H H'->(∀ y xs H'',H y=some (.lst xs)->But y H' H''->j8 K a H'' c dc p ll tl n kd ps [] [] 6 W)->Q .non H')
def yix:vk P w K mg Γ (CXe P w) 8 a.Fl a.L1 ["self","looks"] (yha K a):=by
 exists T.D2.F.okE,yuv,hr;obtain ⟨c,f,l,n,lk,tp,kd,ps,rfl,U,hl,n1,n6,a0,k⟩:=h;refine yh (yy (pv 0) (uk T.Qd (yjd T) hr.m rfl T.Qc T.D1.B .nil y7 (pa1 (pv 1))) rfl) ?_;refine yh (yy (pv 0) (xh ua) rfl) ?_;exists 2,0,yc (yy (pv 0) (xh ua) rfl);intro p dp np a1 a7;refine FZ.new np a1 hl n1 n6 a0 fun W D Y nW S1 a2=>⟨rfl,?_⟩;have G:=S1 _ _ U;rfl';have v:upd D c (HO.ins a.A1 f ([("foreteller",V.ref p)]:List (Str × V))) c=some (HO.ins a.A1 f ([("foreteller",V.ref p)]:List (Str × V))):=ya;have L:But c D (upd D c (HO.ins a.A1 f ([("foreteller",V.ref p)]:List (Str × V)))):=But.upd;generalize upd D c (HO.ins a.A1 f ([("foreteller",V.ref p)]:List (Str × V)))=Z at v L ⊢;exists by walk_at "len",fun j hll=>?_
 exists hll,HB,SB,eB;have a6:=SB _ _ v;rfl';have u:upd HB c (HO.ins a.A1 f ([("foreteller",V.ref p),("links",V.ref j)]:List (Str × V))) c=some (HO.ins a.A1 f ([("foreteller",V.ref p),("links",V.ref j)]:List (Str × V))):=ya;have M:But c HB (upd HB c (HO.ins a.A1 f ([("foreteller",V.ref p),("links",V.ref j)]:List (Str × V)))):=But.upd;generalize upd HB c (HO.ins a.A1 f ([("foreteller",V.ref p),("links",V.ref j)]:List (Str × V)))=HC at u M ⊢;exists by walk_at "len",fun C htl=>?_
 exists htl,HD,SD,eD;have a8:=SD _ _ u;rfl';have i:j≠c:=(yb v hll).symm;have g:C≠c:=(yb u htl).symm;have S:HC j=some (.lst []):=M _ _ eB i
 have J:∀ {x:Addr},x≠c->Z x=none->H x=none:=fun {x} d e=>by
  cases z:H x with
  | none=>rfl
  | some o=>rw [L _ _ (S1 _ _ z) d] at e; cases e
 have X:∀ {x:Addr},x≠c->HC x=none->Z x=none:=fun {x} d e=>by
  cases z:Z x with
  | none=>rfl
  | some o=>rw [M _ _ (SB _ _ z) d] at e; cases e
 have t:But c D (upd HD c (HO.ins a.A1 f (z6 (.ref p) (.ref j) (.ref C)))):=fun x o e d=>yf d (SD _ _ (M _ _ (SB _ _ (L _ _ e d)) d))
 have q:∀ x,W x->x≠c:=fun x w z=>by
  have e:=nW x w;rw [z,U] at e;cases e
 have I:H j=none:=J i hll;have O:H C=none:=J g (X g htl)
 have N:¬ W j:=fun w=>by
  obtain ⟨o,e⟩:=Y.live _ w;rw [L _ _ e i] at hll;cases hll
 have R:¬ W C:=fun w=>by
  obtain ⟨o,e⟩:=Y.live _ w;rw [M _ _ (SB _ _ (L _ _ e g)) g] at htl;cases htl
 refine k p j C W (upd HD c (HO.ins a.A1 f (z6 (.ref p) (.ref j) (.ref C)))) ⟨ya,?_,?_,?_,rfl,fun w=>q c w rfl,N,R,yb S htl⟩ (fun x w=>?_) (fun x o e d=>t x o (S1 _ _ e) d) (fun y xs H2 r b=>?_)
 .exact Y.frame (W2:=fun x=>x=c) (fun x z=>⟨.ins a.A1 f [],by rw [show x=c from z]; exact G,.inl rfl⟩) (fun x w z=>q x w z) (fun x o e d=>t x o e d)
 .exact yf i (SD _ _ S)
 .exact yf g eD
 .rcases w with z | z | z
  .rw [z]; exact I
  .rw [z]; exact O
  .exact nW x z
 .have a3:c≠y:=fun z=>by rw [<- z,U] at r; cases r
  have bG:But y D (upd H2 c (.ins a.A1 f [])):=fun x o e d=>by
   by_cases z:x=c
   .rw [z,ya]; rw [z,G] at e; exact e
   .exact yf z (b _ _ (t x o e z) d)
  exists b _ _ ya a3,(a2 y xs _ r bG).frame (W2:=fun x=>x=c) (fun x z=>⟨.ins a.A1 f [],by rw [show x=c from z]; exact ya,.inl rfl⟩) (fun x w z=>q x w z) (fun x o e d=>by rw [yk d] at e; exact e),b _ _ (yf i (SD _ _ S)) (fun z=>by rw [<- z,I] at r; cases r),b _ _ (yf g eD) (fun z=>by rw [<- z,O] at r; cases r),rfl,fun w=>q c w rfl,N,R,yb S htl
#synth yxy ["self","name","text"] ysv
inductive yk7 (a:Ads) (vs:List V) (H:Hp) (Q:VK) (E':XK):Prop
 | mk (c dc:Addr) (vf:V) (ll tl:Addr) (x y:V) (xs ys:List V) (_:vs=[.ref c,x,y]) (_:H c=some (.ins a.A1 dc (z6 vf (.ref ll) (.ref tl)))) (_:H ll=some (.lst xs)) (_:H tl=some (.lst ys)) (_:ll≠tl) (_:xs.length <= 10000) (_:ys.length <= 10000) (_:Q .non (upd (upd H ll (.lst (xs++[x]))) tl (.lst (ys++[y]))))
def yov:vk P w K mg Γ CX0 1 a.L3 a.L6 ["self","name","text"] (yk7 a):=by
 exists T.Dn.F.ok,yxy,v;obtain ⟨c,n,m,d,i,x,y,g,l,rfl,f,j,p,q,u,B,k⟩:=h;exists 3,0,ye (yt (Č PySem.F.plainAttrs_list PySem.F.slot_list_append PySem.F.type_list_append xg (ym (pv 0) rfl) (pa1 (pv 1)))) (yc (yt (Č PySem.F.plainAttrs_list PySem.F.slot_list_append PySem.F.type_list_append xg (ym (pv 0) rfl) (pa1 (pv 2)))));refine Ì j ?_;rfl';refine xy j (vd (by omega)) ?_;have o:(upd H d (.lst (g++[x]))) c=some (.ins a.A1 n (z6 m (.ref d) (.ref i))):=by rw [yk (fun z=>by rw [z,j] at f; cases f)]; exact f
 rfl';have b:(upd H d (.lst (g++[x]))) i=some (.lst l):=by rw [yk q.symm]; exact p
 refine Ì b ?_;rfl';refine xy b (vd (by omega)) ?_;rfl';exact k
def j8.grow {H H1:Hp} {c ll:Addr} {n:Nat} {kd:Nat->Fin 3} {ps:Nat->List Int} {ks:List V} {M M':Nat} {W:Addr->Prop} (h:j8 K a H c dc p ll tl n kd ps L ks M W) {nm:Str} {t:List Int} {k:V} (hf:FZ K a H1 p n kd ps (Ù (L.map (·.2))++dec t) M' W') (g:Go W H H1 W') (hk:k=.non\/∃ q,k=.ref q/\H1 q=some (.lst (t.map V.int))/\¬ ChW ll tl W' q) :
  j8 K a (upd (upd H1 ll (.lst (nmL L++[V.str nm]))) tl (.lst (ks++[k]))) c dc p ll tl n kd ps (L++[(nm,t)]) (ks++[k]) M' W'/\Go (ChW ll tl W) H (upd (upd H1 ll (.lst (nmL L++[V.str nm]))) tl (.lst (ks++[k]))) (ChW ll tl W'):=by
 have s:=g.fr _ _ h.hl h.nll;have r:=g.fr _ _ h.ht h.ntl;have A:=g.fr _ _ h.me h.nc;have i:∀ {x:Addr} {o:HO},H x=some o->¬ W x->¬ W' x:=fun {x o} e d w=>(g.nw x w).elim d fun z=>by rw [e] at z; cases z
 have D:=i h.hl h.nll;have B:=i h.ht h.ntl
 have f:∀ x o,H1 x=some o->¬ (x=ll\/x=tl)->(upd (upd H1 ll (.lst (nmL L++[V.str nm]))) tl (.lst (ks++[k]))) x=some o:=fun x o e d=>by
  rw [yk (fun z=>d (.inr z)),yk (fun z=>d (.inl z))]; exact e
 have v:c≠ll:=fun z=>by have e:=h.me; rw [z,h.hl] at e; cases e
 have l:c≠tl:=fun z=>by have e:=h.me; rw [z,h.ht] at e; cases e
 exists ⟨f _ _ A fun z=>z.elim v l,?_,?_,ya,?_,i h.me h.nc,D,B,h.ne⟩,⟨fun x o e d=>?_,fun x w=>?_,fun x o e=>?_⟩
 .have F:Ù ((L++[(nm,t)]).map (·.2))=Ù (L.map (·.2))++dec t:=by rw [cM]; exact õ _ _
  rw [F];refine hf.frame (W2:=fun x=>x=ll\/x=tl) (fun x w=>?_) (fun x w z=>?_) fun x o e d=>f x o e d
  .rcases w with z | z
   .exists _,by rw [show x=ll from z]; exact s,.inr ⟨_,rfl,fun y j=>?_⟩
    obtain ⟨u,_,e⟩:=cI.mp j;exact .inl ⟨u.1,e.symm⟩
   .exists _,by rw [show x=tl from z]; exact r,.inr ⟨_,rfl,fun y j=>.inr ?_⟩
    exact (h.tx.mem y j).imp id fun ⟨q,E,e,m,b⟩=>⟨q,e,.inl ⟨E,g.fr q _ m fun w=>b (.inr (.inr w))⟩⟩
  .rcases z with z | z
   .rw [z] at w; exact D w
   .rw [z] at w; exact B w
 .rw [yk h.ne,ya];unfold nmL;rw [cM];rfl
 .refine yck.snoc ?_ (h.tx.mono fun q I e b=>⟨f q _ (g.fr q _ e fun w=>b (.inr (.inr w))) fun z=>b (z.imp id .inl),fun w=>?_⟩)
  .refine hk.imp id fun ⟨q,e,m,b⟩=>⟨q,e,f q _ m fun z=>b (z.imp id .inl),b⟩
  .rcases w with w | w | w
   .exact b (.inl w)
   .exact b (.inr (.inl w))
   .exact i e (fun w=>b (.inr (.inr w))) w
 .exact f x o (g.fr x o e fun w=>d (.inr (.inr w))) fun z=>d (z.imp id .inl)
 .rcases w with w | w | w
  .exact .inl (.inl w)
  .exact .inl (.inr (.inl w))
  .exact (g.nw x w).imp (fun w=>.inr (.inr w)) id
 .obtain ⟨C,G⟩:=g.lv x o e;by_cases z2:x=tl
  .exists _,by rw [z2]; exact ya
  .by_cases z1:x=ll
   .exists _,by rw [z1,yk h.ne]; exact ya
   .exists C,f x C G fun z=>z.elim z1 z2
#synth yn5 ["self","name","text","data"] ["self","name","text"] yrw
inductive yfb (K:W.Frag) (a:Ads) (vs:List V) (H:Hp) (Q:VK) (E':XK):Prop
 | mk (c dc p ll tl:Addr) (n:Nat) (kd:Nat->Fin 3) (ps:Nat->List Int) (L:List (Str × List Int)) (ks:List V) (M:Nat) (W:Addr->Prop) (tx:Addr) (nm:Str) (ts:List Int) (_:vs=[.ref c,.str nm,.ref tx]) (_:j8 K a H c dc p ll tl n kd ps L ks M W) (_:L.length <= 1000) (_:ux H tx ts 1000) (_:¬ W tx) (_:M+6 * (dec ts).length+20 < 1000000) (_:∀ (r:Addr) (W':Addr->Prop) (H':Hp),H r=none->H' r=some (.lst ((τ n kd ps (Ù (L.map (·.2))) ts).map V.int))->j8 K a H' c dc p ll tl n kd ps (L++[(nm,ts)]) (ks++[.non]) (M+6 * (dec ts).length) W'->Go (ChW ll tl W) H H' (ChW ll tl W')->Q (.ref r) H')
def yxf:vk P w K mg Γ CX0 8 a.L7 a.L8 ["self","name","text"] (yfb K a):=by
 exists T.Gq.F.ok,yn5,y;obtain ⟨c,v,p,x,u,n,D,X,L,O,M,W,S,nm,U,rfl,b,hz,l,j,G,k⟩:=h;have R:=b.me;have Y:=b.tx.len;exists 3,1,ye (yo (i:=3) yn5.nd rfl (Or.inl rfl) (xw (yi9 T) y.m T.Eg (pac (ym (pv 0) rfl) (pa1 (pv 2))))) (ye (yt (xf (pv 0) T.Aj T.Dn.m (yov T) y.m T.Dn.B .nil vx (pac (pv 1) (pa1 ub)))) (yc (yp (pv 3))));refine b.fz.press l j G fun r C Z d o J g=>?_;have t:=g.fr _ _ b.hl b.nll;have f:=g.fr _ _ b.ht b.ntl;have e:=g.fr _ _ b.me b.nc;rfl';exists c,v,_,x,u,_,_,_,_,rfl,e,t,f,b.ne,by unfold nmL; rw [cA]; omega,by omega,?_
 obtain ⟨z,g2⟩:=b.grow (nm:=nm) J g (.inl rfl);rfl';refine k r C _ d ?_ z g2;rw [yk (yb b.ht d).symm,yk (yb b.hl d).symm];exact o
#synth ym4 ["self","name","data","most","first"] ["self","name","data","most"] yt2
inductive yg9 (K:W.Frag) (a:Ads) (vs:List V) (H:Hp) (Q:VK) (E':XK):Prop
 | mk (c dc p ll tl:Addr) (n:Nat) (kd:Nat->Fin 3) (ps:Nat->List Int) (L:List (Str × List Int)) (ks:List V) (M:Nat) (W:Addr->Prop) (dt:Addr) (nm:Str) (ts bs:List Int) (mo:Nat) (_:vs=[.ref c,.str nm,.ref dt,.int mo]) (_:j8 K a H c dc p ll tl n kd ps L ks M W) (_:L.length <= 1000) (_:Sgs ts) (_:H dt=some (.lst ((τ n kd ps (Ù (L.map (·.2))) ts++bs).map V.int))) (_:¬ W dt) (_:Byt bs) (_:(τ n kd ps (Ù (L.map (·.2))) ts++bs).length <= 12000) (_:ts.length <= mo) (_:mo <= 1000) (_:M+54 * mo+200 < 1000000) (_:∀ (q:Addr) (W':Addr->Prop) (H':Hp),H q=none->j8 K a H' c dc p ll tl n kd ps (L++[(nm,ts)]) (ks++[.ref q]) (M+6 * (dec ts).length) W'->Go (ChW ll tl W) H H' (ChW ll tl W')->Q (.int ((τ n kd ps (Ù (L.map (·.2))) ts).length:Nat)) H')
def ywc:vk P w K mg Γ (CXe P w) 11 a.L9 a.La ["self","name","data","most"] (yg9 K a):=by
 exists T.Gr.F.okE,ym4,Z;obtain ⟨c,S,p,j,f,n,R,ps,L,X,M,W,dt,nm,Y,bs,mo,rfl,b,hz,l,D,v,y,I,G,o,hM,k⟩:=h;have a1:=b.me;have a2:=b.tx.len;exists 4,1,ye (yo (i:=4) ym4.nd rfl (Or.inl rfl) (xr (yvr T) Z.m T.N7 y7 (pac (ym (pv 0) rfl) (pac (pv 2) (pa1 (pv 3)))))) (ye (yt (xf (pv 0) T.Aj T.Dn.m (yov T) Z.m T.Dn.B .nil vx (pac (pv 1) (pa1 (ud z8 (pv 4) yg (fun _ _=>rfl)))))) (yc (yp (ud z8 (pv 4) yg (fun _ _=>rfl)))));refine b.fz.read (ö _) l D v y I G o hM fun t q O H1 e d U hq hf g nq=>?_;have N:=g.fr _ _ b.hl b.nll;have u:=g.fr _ _ b.ht b.ntl;have r:=g.fr _ _ b.me b.nc;rfl';exists t,_,0,_,rfl,rfl,SqT.of U,rfl,?_;rfl';exists c,S,_,j,f,_,_,_,_,rfl,r,N,u,b.ne,by unfold nmL; rw [cA]; omega,by omega,?_
 have C:¬ ChW j f O q:=fun w=>by
  rcases w with w | w | w
  .exact yb b.hl d w.symm
  .exact yb b.ht d w.symm
  .exact nq w
 obtain ⟨z,g2⟩:=b.grow (nm:=nm) hf g (.inr ⟨q,rfl,hq,C⟩)
 have x:(upd (upd H1 j (.lst (nmL L++[V.str nm]))) f (.lst (X++[V.ref q]))) t=some (.tup [.ref q,.int ((τ n R ps (Ù (L.map (·.2))) Y).length:Nat)]):=by
  rw [yk (yb b.ht e).symm,yk (yb b.hl e).symm];exact U
 rfl';exists t,_,1,_,rfl,rfl,SqT.of x,rfl,?_;exact k q O _ d z g2
def FZ.fork {H:Hp} {n:Nat} {kd:Nat->Fin 3} {ps:Nat->List Int} {pre:List Int} {M:Nat} {W:Addr->Prop} {Q:VK} {E:XK} (h:FZ K a H p n kd ps pre M W) (hM:M+20 < 1000000)
  (k:∀ q W' H',FZ K a H' q n kd ps pre (M+6) W'->(∀ c,W' c->H c=none)->yv H H'->Q (.ref q) H'):ydi K a [.ref p] H Q E:=by
 obtain ⟨A,f,O,m,o,I,y,rfl,rfl,rfl,u,B,G⟩:=h;have J:=o.n6;exists p,A,_,f,O,m,rfl,o,y,by omega,fun q i s l H' D e d g F x L t C r v S=>k q (yuj q i l) H' ⟨i,s,l,m+A.n,e,by omega,d,g,F,x,u,B,fun c=>Iff.rfl⟩ (fun c w=>?_) S
 rcases w with z | z | ⟨j,b,z⟩ | ⟨j,b,z⟩ | z
 .rw [z]; exact D
 .rw [z]; exact r
 .rw [z]; exact C j (by rw [<- g]; exact b)
 .exact t j c (by rw [<- g]; exact b) z
 .exact v c (.inr (.inl z))
#synth yzj ["self","text"] ysk
inductive yge (K:W.Frag) (a:Ads) (vs:List V) (H:Hp) (Q:VK) (E':XK):Prop
 | mk (c dc p ll tl:Addr) (n:Nat) (kd:Nat->Fin 3) (ps:Nat->List Int) (L:List (Str × List Int)) (ks:List V) (M:Nat) (W:Addr->Prop) (tx:Addr) (ts:List Int) (_:vs=[.ref c,.ref tx]) (_:j8 K a H c dc p ll tl n kd ps L ks M W) (_:ux H tx ts 1000) (_:M+60000 < 1000000) (_:∀ H',yv H H'->Q (.int ((τ n kd ps (Ù (L.map (·.2))) ts).length:Nat)) H')
def yod:vk P w K mg Γ CX0 9 a.Lb a.Lc ["self","text"] (yge K a):=by
 exists T.Do.F.ok,yzj,I;obtain ⟨c,X,p,Z,U,n,R,ps,L,ks,M,W,tx,D,rfl,i,b,hM,k⟩:=h;have a0:=i.me;have a1:=xq D;have hz:=b.z
 obtain ⟨v,C,j,t,N,u,J,hp⟩:∃ v C j t N u J,H p=some (.ins a.A2 v (uy C j t N u J)):=by
  obtain ⟨A,f,O,m,hF,_⟩:=i.fz;exists _,_,_,_,_,_,_,hF.me
 exists 2,0,yc (yp (pcB yr T.Ac (pa1 (xw (yi9 T) I.m T.Eg (pac (vo (ym (pv 0) rfl) T.Ae T.Gg.m (yzq T) I.m T.Gg.B .nil vx) (pa1 (pv 1)))))));refine i.fz.fork (by omega) fun q W' H1 hf G y=>?_;rfl';refine hf.press (b.same y) (fun w=>by have e:=G _ w; rw [b.l] at e; cases e) (by omega) fun r W2 H2 Y d _ g2=>?_;rfl';refine ue (SqL.of d) ?_;rw [cA];exact k H2 fun x o e=>g2.fr _ _ (y _ _ e) fun w=>by rw [G _ w] at e; cases e
#synth yyf ["thing"] yty
inductive ygs (K:W.Frag) (vs:List V) (H:Hp) (Q:VK) (E':XK):Prop
 | mk (x n:_) (_:vs=[x]) (_:xo K H x (.type n)) (_:(∀ s,x=.str s->s.length <= 100000)) (_:∀ H',yv H H'->Q (.bl (nmV x)) H')
def yxj:vk P w K mg Γ CX0 1 a.Ld a.Le ["thing"] (ygs K):=by
 exists T.N8.F.ok,yyf,r;obtain ⟨x,n,rfl,b,d,k⟩:=h;exists 1,0,yc (yp (u8 (pcB wj T.A7 (pac (pv 0) (pa1 (z7 (T:="str") rfl T.Nq (by right))))) (u8 (ι zq zq yg (pcB Ï T.Ac (pa1 (pv 0))) (ve rfl T.Dy)) (jo (pcB (jc rfl) T.D4 (pa1 (wn (js:=[]) (ys:=[]) rfl (yyt (pv 0)) (fun C u v t=>(x4 yho (pv 0) (ypx rfl T.Nv) (by with_unfolding_all rfl))) rfl rfl (hyc:=yx) (hrel:=yx))))))));refine Ü b (yde b) ?_;rfl';by_cases hn:n="str"
 .obtain ⟨s',rfl⟩:∃ s',x=.str s':=by
   cases b with
   | str s'=>exists s',rfl
   | _=>exact absurd hn (by decide)
  have d:=d s' rfl;rw [cK hn];refine yaw ?_;rfl';exists s',rfl,dh d (by decide),?_;refine ⟨1,(s'.length:Int),rfl,rfl,_,rfl,?_⟩;by_cases h1:(1:Int) <= (s'.length:Int)
  .refine Ŝ h1 ?_;exists (s'.length:Int),8,rfl,rfl,_,rfl,?_;by_cases h8:(s'.length:Int) <= 8
   .refine Ŝ h8 ?_;rfl';exists s',rfl,fun D j=>?_;refine yhn (fun i=>.bl (yo2 (s'.cps.toList.getD i 0))) j (fun i c G l m S g=>?_) (fun G S g=>?_)
    .rfl';exists _,_,rfl,rfl,?_;refine Mp.doneR j (Nat.lt_of_le_of_lt (show s'.cps.size <= 100000 from d) (by decide)) m S g ?_
     have o:s'.cps.toList.getD i 0=c:=by
      rw [dL,Array.getElem?_toList,l]; rfl
     rw [o];unfold yo2;rfl
    .rfl';exists D,s'.cps.toList.map yo2,rfl,?_,?_
     .refine SqL.of (g.trans ?_);rw [yps]
     .have e:=yxz h1 h8;rw [<- e];exact k _ S
   .have e:=ywd h8;rw [e] at k;exact yce h8 (k _ (yv.refl _))
  .have e:=yyx h1;rw [e] at k;refine yce h1 ?_;exists _,rfl,yat (k _ (yv.refl _))
 .have e:nmV x=false:=by
   cases b with
   | str s'=>exact absurd rfl hn
   | _=>rfl
  rw [cP hn];rw [e] at k;exact yat (k _ (yv.refl _))
#synth yzm ["thing"] yt6
inductive yj6 (K:W.Frag) (C:Addr) (vs:List V) (H:Hp) (Q:VK) (E:XK):Prop
 | mk (x n:_) (_:vs=[x]) (_:xo K H x (.type n)) (_:(∀ s,x=.str s->s.length <= 100000)) (_:(nmV x=true->∀ H',yv H H'->Q x H')) (_:(nmV x=false->∀ H',yv H H'->E (.ref C) none H'))
def yi8:vk P w K mg Γ (CXe P w) 2 a.Lf a.Lg ["thing"] (yj6 K a.Ak):=by
 exists T.Eh.F.okE,yzm,i;obtain ⟨x,n,rfl,d,e,f,g⟩:=h;exists 1,0,ye (wd (xp (xt (xw (yxj T) i.m T.N8 (pa1 (pv 0))))) (yc (wz rfl T.Oh T.Du (pa1 wy))) y6) (yc (yp (pv 0)));exists x,n,rfl,d,e,fun l c=>?_;rfl'
 cases hx:nmV x with
 | false =>
  rfl';exists by walk_at "len",g hx _ c
 | true =>
  rfl';exact f hx _ c
#synth yx7 ["thing"] yrq
inductive ylf (K:W.Frag) (C:Addr) (vs:List V) (H:Hp) (Q:VK) (E:XK):Prop
 | mk (x n:_) (_:vs=[x]) (_:xo K H x (.type n)) (_:(∀ s,x=.str s->s.length <= 100000)) (_:((x=.non\/nmV x=true)->∀ H',yv H H'->Q .non H')) (_:(x≠.non->nmV x=false->∀ H',yv H H'->E (.ref C) none H'))
def yut:vk P w K mg Γ (CXe P w) 3 a.Lh a.Li ["thing"] (ylf K a.Ak):=by
 exists T.N9.F.okE,yx7,k;obtain ⟨x,n,rfl,g,i,e,j⟩:=h;exists 1,0,yc (wd (yu É (pv 0) ub (yz _)) (yc (yt (xr (yi8 T) k.m T.Eh y7 (pa1 (pv 0))))) y6);by_cases hx:x=.non
 .subst hx;rfl';exact e (.inl rfl) _ (yv.refl _)
 .rfl';rw [cP hx];refine yaw ?_;rfl';exists x,n,rfl,g,i,fun c f d=>?_,fun c f d=>j hx c f d;rfl';exact e (.inr c) _ d
#synth ywe ["self","base","data"] yrs
inductive yj4 (a:Ads) (vs:List V) (H:Hp) (Q:VK) (E':XK):Prop
 | mk (p dp:Addr) (x y:V) (_:vs=[.ref p,x,y]) (_:H p=some (.ins a.A8 dp [])) (_:∀ H',H' p=some (.ins a.A8 dp (ă x y))->But p H H'->Q .non H')
def ywq:vk P w K mg Γ CX0 1 a.Fm a.Lj ["self","base","data"] (yj4 a):=by
 exists T.Ei.F.ok,ywe,j;obtain ⟨p,b,x,y,rfl,i,k⟩:=h;exists 3,0,ye (yy (pv 0) (pv 1) rfl) (yc (yy (pv 0) (pv 2) rfl));have c:upd H p (HO.ins a.A8 b ([("base",x)]:List (Str × V))) p=some (HO.ins a.A8 b ([("base",x)]:List (Str × V))):=ya;have e:But p H (upd H p (HO.ins a.A8 b ([("base",x)]:List (Str × V)))):=But.upd;generalize upd H p (HO.ins a.A8 b ([("base",x)]:List (Str × V)))=l at c e ⊢;rfl';exact k _ ya (e.trans But.upd)
#synth ywf ["self","looks","most"] yfp
inductive ż (K:W.Frag) (a:Ads) (vs:List V) (H:Hp) (Q:VK) (E':XK):Prop
 | mk (p ds l:Addr) (mo w:Nat) (n:Nat) (lk tp:Nat->Addr) (kd:Nat->Fin 3) (ps:Nat->List Int) (_:vs=[.ref p,.ref l,.int mo]) (_:H p=some (.ins a.A0 ds [])) (_:H l=some (.lst (refs lk n))) (_:1 <= n) (_:n <= 6) (_:xu H n lk kd tp ps) (_:mo <= 1000) (_:w <= mo) (_:w <= 200) (_:∀ (ll d c dc q cl ct:Addr) (U:Addr->Prop) (H':Hp),j6 K a H' p ds ll d c dc q cl ct lk tp n kd ps mo w [] [] [] U->(∀ x,StW c cl ct U x->H x=none)->H ll=none->H d=none->But p H H'->(∀ y xs H'',H y=some (.lst xs)->But y H' H''->j6 K a H'' p ds ll d c dc q cl ct lk tp n kd ps mo w [] [] [] U)->Q .non H')
def ywb:vk P w K mg Γ (CXe P w) 10 a.Cz a.Lk ["self","looks","most"] (ż K a):=by
 exists T.Qn.okE,ywf,hr;obtain ⟨p,j,l,C,w,n,lk,tp,kd,ps,rfl,R,hl,J,n6,O,Y,a4,a8,k⟩:=h;refine yh (yy (pv 0) (xr (ynk T) hr.m T.G8 y7 (pa1 (pv 1))) rfl) ?_;refine yh (yt (xr (vcd T) hr.m T.Po y7 (pa1 (pv 2)))) ?_;refine yh (yy (pv 0) (pv 2) rfl) ?_;refine yh (yy (pv 0) à rfl) ?_;exists 3,0,yc (yy (pv 0) (uk T.Eu (yix T) hr.m rfl T.Et T.D2.B .nil y7 (pa1 (ym (pv 0) rfl))) rfl);refine .inr ⟨l,refs lk n,List.replicate (refs lk n).length true,rfl,hl,by rw [vy]; omega,O.lks.bs,fun _ g H1 v a6 t=>?_,fun no=>absurd ⟨by rw [vy]; exact J,by rw [vy]; exact n6,yh4 _⟩ no⟩;have aj:=t _ _ R;rfl';have ac:upd H1 p (HO.ins a.A0 j ([("looks",V.ref g)]:List (Str × V))) p=some (HO.ins a.A0 j ([("looks",V.ref g)]:List (Str × V))):=ya;have BA:But p H1 (upd H1 p (HO.ins a.A0 j ([("looks",V.ref g)]:List (Str × V)))):=But.upd;generalize upd H1 p (HO.ins a.A0 j ([("looks",V.ref g)]:List (Str × V)))=HA at ac BA ⊢;exists .int C,"int",rfl,.int _,fun _=>?_,fun z=>by rw [yux Y] at z; cases z
 rfl';have a0:upd HA p (HO.ins a.A0 j ([("looks",V.ref g),("most",V.int C)]:List (Str × V))) p=some (HO.ins a.A0 j ([("looks",V.ref g),("most",V.int C)]:List (Str × V))):=ya;have BB:But p HA (upd HA p (HO.ins a.A0 j ([("looks",V.ref g),("most",V.int C)]:List (Str × V)))):=But.upd;generalize upd HA p (HO.ins a.A0 j ([("looks",V.ref g),("most",V.int C)]:List (Str × V)))=HB at a0 BB ⊢;intro d hd0;exists hd0,HC,SC,eC;have ah:=SC _ _ a0;rfl';have r:upd HC p (HO.ins a.A0 j ([("looks",V.ref g),("most",V.int C),("pieces",V.ref d)]:List (Str × V))) p=some (HO.ins a.A0 j ([("looks",V.ref g),("most",V.int C),("pieces",V.ref d)]:List (Str × V))):=ya;have BD:But p HC (upd HC p (HO.ins a.A0 j ([("looks",V.ref g),("most",V.int C),("pieces",V.ref d)]:List (Str × V)))):=But.upd;generalize upd HC p (HO.ins a.A0 j ([("looks",V.ref g),("most",V.int C),("pieces",V.ref d)]:List (Str × V)))=X at r BD ⊢;have L:∀ x o,H1 x=some o->x≠p->X x=some o:=fun x o e u=>BD _ _ (SC _ _ (BB _ _ (BA _ _ e u) u)) u
 have K0:∀ x,x≠p->X x=none->H x=none:=fun x u e=>by
  cases z:H x with
  | none=>rfl
  | some o=>rw [L _ _ (t _ _ z) u] at e; cases e
 have Z:g≠p:=(yb R v).symm;have D:d≠p:=(yb a0 hd0).symm;have F:=L _ _ a6 Z;have N:X d=some (.dK []):=BD _ _ eC D
 have ad:xu X n lk kd tp ps:=fun i hi=>by
  obtain ⟨q,e,M,S,h3⟩:=O i hi;exists q,e,L _ _ (t _ _ M) (ww M R (by intro z; cases z)),L _ _ (t _ _ S) (ww S R (by intro z; cases z)),h3
 exists p,_,j,_,_,rfl,r,T.A3,T.Am,rfl,?_;rfl';intro c dc nc aa al;have SQ:yv X (upd (upd X dc (.own c)) c (.ins a.A1 dc [])):=fun b o e=>by rw [yk (yb e nc),yk (yb e aa)]; exact e
 exists c,dc,g,n,lk,tp,kd,ps,rfl,ya,SQ _ _ F,J,n6,ad.same SQ,fun q cl ct U HE ae a3 BE af=>⟨rfl,?_⟩;have I:yv X HE:=fun b o e=>BE _ _ (SQ _ _ e) (yb e nc);have a7:=I _ _ r
 have W:∀ x,StW c cl ct U x->X x=none:=fun x w=>by
  rcases w with z | z
  .rw [z]; exact nc
  .exact SQ.free (a3 x z)
 have a1:¬ StW c cl ct U p:=fun w=>by have e:=W _ w; rw [r] at e; cases e
 have a2:H d=none:=by
  cases z:H d with
  | none=>rfl
  | some o=>rw [BB _ _ (BA _ _ (t _ _ z) D) D] at hd0; cases hd0
 rfl';refine k g d c dc q cl ct U _ ⟨ya,J,n6,yf Z (I _ _ F),fun i hi=>?_,⟨yf D (I _ _ N),fun q f=>(by cases f),List.nodup_nil,fun q f=>(by cases f),fun q f=>(by cases f),cV _,fun q f=>(by cases f)⟩,ae.but a7 a1 But.upd,fun x hx w=>?_,Y,⟨a4,a8⟩,⟨none,rfl⟩⟩ (fun x w=>?_) v ?_ (fun x o e u=>yf u (I _ _ (L _ _ (t _ _ e) u))) (fun y xs H2 G b=>?_)
 .obtain ⟨q,e,M,S,h3⟩:=O i hi;have J:=ww M R (by intro z; cases z);have n2:=ww S R (by intro z; cases z);exists q,e,yf J (I _ _ (L _ _ (t _ _ M) J)),yf n2 (I _ _ (L _ _ (t _ _ S) n2)),h3
 .have e:=W _ w;rcases hx with z | z | z | ⟨q,f,_⟩
  .rw [z,r] at e; cases e
  .rw [z,F] at e; cases e
  .rw [z,N] at e; cases e
  .cases f
 .exact K0 x (fun z=>a1 (z ▸ w)) (W x w)
 .exact a2
 .have a5:p≠y:=fun z=>by rw [<- z,R] at G; cases G
  have ab:=SQ _ _ (L _ _ (t _ _ G) a5.symm)
  have bG:But y HE (upd H2 p (HO.ins a.A0 j ([("looks",V.ref g),("most",V.int C),("pieces",V.ref d)]:List (Str × V)))):=fun x o e u=>by
   by_cases z:x=p
   .rw [z,ya]; rw [z,a7] at e; exact e
   .exact yf z (b _ _ (yf z e) u)
  have a9:=af y xs _ ab bG;have ak:=t _ _ G;exists b _ _ ya a5,J,n6,b _ _ (yf Z (I _ _ F)) (fun z=>by rw [<- z,v] at G; cases G),fun i hi=>?_,⟨b _ _ (yf D (I _ _ N)) (fun z=>by rw [<- z,a2] at G; cases G),fun q f=>(by cases f),List.nodup_nil,fun q f=>(by cases f),fun q f=>(by cases f),cV _,fun q f=>(by cases f)⟩,a9.but ya a1 (fun x o e u=>by rw [yk u] at e; exact e),fun x hx w=>?_,Y,⟨a4,a8⟩,⟨none,rfl⟩
  .obtain ⟨q,e,M,S,h3⟩:=O i hi;have J:=ww M R (by intro z; cases z);have n2:=ww S R (by intro z; cases z);exists q,e,b _ _ (yf J (I _ _ (L _ _ (t _ _ M) J))) (ww M G (by intro z; cases z)),b _ _ (yf n2 (I _ _ (L _ _ (t _ _ S) n2))) (ww S G (by intro z; cases z)),h3
  .have e:=W _ w;rcases hx with z | z | z | ⟨q,f,_⟩
   .rw [z,r] at e; cases e
   .rw [z,F] at e; cases e
   .rw [z,N] at e; cases e
   .cases f
def Sto.new {H:Hp} {st l:Addr} {mo w n:Nat} {lk:Nat->Addr} {kd:Nat->Fin 3} {ps:Nat->List Int} {Q:VK} {E:XK} (hst0:H st=none) (hds0:H ds=none) (hlo:H l=some (.lst (refs lk n))) (n1:1 <= n) (n6:n <= 6) (hR:xu H n lk kd tp ps) (m1:mo <= 1000) (wm:w <= mo) (w2:w <= 200)
  (k:∀ X H',Sto K a H' st ⟨n,kd,ps,mo,w⟩ [] X->yv H H'->(∀ y,X.f y->H y=none)->(∀ y xs H'',H y=some (.lst xs)->But y H' H''->Sto K a H'' st ⟨n,kd,ps,mo,w⟩ [] X)->Q .non H'):ż K a [.ref st,.ref l,.int mo] (upd (upd H ds (.own st)) st (.ins a.A0 ds [])) Q E:=by
 have g:yv H (upd (upd H ds (.own st)) st (.ins a.A0 ds [])):=fun b o e=>by rw [yk (yb e hst0),yk (yb e hds0)]; exact e
 exists st,ds,l,mo,w,n,lk,tp,kd,ps,rfl,ya,g _ _ hlo,n1,n6,hR.same g,m1,wm,w2,fun v d c x p u t U A s j h r B i=>k _ A ⟨ds,v,d,c,x,p,u,t,lk,tp,[],[],[],U,s,rfl,rfl⟩ (fun y o e=>B _ _ (g _ _ e) (yb e hst0)) (fun y m=>?_) fun y xs C m b=>⟨ds,v,d,c,x,p,u,t,lk,tp,[],[],[],U,i y xs C (g _ _ m) b,rfl,rfl⟩;rcases m with (z | z | z) | z | ⟨q,hq,_⟩ | z
 .rw [z]; exact g.free r
 .rw [z]; exact hst0
 .exact g.free (j y z)
 .rw [z]; exact g.free h
 .cases hq
 .cases z
#synth yxe ["self"] ytz
inductive ydd (a:Ads) (vs:List V) (H:Hp) (Q:VK) (E':XK):Prop
 | mk (st ds d:Addr) (vl vm vc:V) (P:List Pc) (_:vs=[.ref st]) (_:H st=some (.ins a.A0 ds (xc vl vm (.ref d) vc))) (_:H d=some (.dK (pcs P))) (_:P.length <= 60) (_:∀ l H',H l=none->H' l=some (.lst (P.map fun q=>V.str q.nm))->yv H H'->Q (.ref l) H')
def yoy:vk P w K mg Γ CX0 1 a.Lm a.Ln ["self"] (ydd a):=by
 exists T.Dp.F.ok,yxe,v;obtain ⟨j,g,d,r,o,t,P,rfl,f,m,u,k⟩:=h;exists 1,0,yc (yp (pcT (ja rfl) T.Ad (pa1 (ym (pv 0) rfl))));exists d,_,rfl,m,fun l b=>?_;have e:(pcs P).map (fun p=>kV p.1)=P.map fun q=>V.str q.nm:=by unfold pcs; rw [df]; rfl
 rw [e];exact k l _ b ya (y8 b)
def Sto.names {H:Hp} {st:Addr} {C:Cf} {P:List Pd} {X:Sx} {Q:VK} {E:XK} (h:Sto K a H st C P X) (k:∀ l H',H l=none->H' l=some (.lst (P.map fun q=>V.str q.nm))->yv H H'->Q (.ref l) H'):ydd a [.ref st] H Q E:=by
 obtain ⟨e,r,d,c,t,p,o,n,i,m,b,L,j,U,s,rfl,rfl⟩:=h;exists st,e,d,_,_,_,b,rfl,s.me,s.pz.dk,s.pz.z,fun l H' f g S=>k l H' f ?_ S;rw [df];exact g
#synth yxs ["self","text"] yr3
inductive ypn (a:Ads) (vs:List V) (H:Hp) (Q:VK) (E:XK):Prop
 | mk (st ds tx:Addr) (vl vp vc:V) (mo:Int) (xs:List V) (_:vs=[.ref st,.ref tx]) (_:H st=some (.ins a.A0 ds (xc vl (.int mo) vp vc))) (_:H tx=some (.lst xs)) (_:((xs.length:Int) <= mo->Q .non H)) (_:(¬ (xs.length:Int) <= mo->E (.ref a.A9) none H))
def yn3:vk P w K mg Γ (CXe P w) 1 a.Lq a.Lr ["self","text"] (ypn a):=by
 exists T.Dq.F.okE,yxs,t;obtain ⟨l,e,n,f,g,r,q,o,rfl,d,c,k,m⟩:=h;exists 2,0,yc (wd (yu ycf (pcB yr T.Ac (pa1 (pv 1))) (ym (pv 0) rfl) (yz _)) (yc (wz rfl T.Ek T.Cw (pa1 wy))) y6);refine ue (SqL.of c) ?_;rfl';refine uu (fun i=>?_) (fun i=>?_)
 .rfl';exists by walk_at "len",m (by omega)
 .exact k (by omega)
#synth yy3 ["self","name"] yr0
inductive yzs (K:W.Frag) (a:Ads) (vs:List V) (H:Hp) (Q:VK) (E:XK):Prop
 | mk (st ds d:Addr) (vl vm vc:V) (n:Nat) (kd:Nat->Fin 3) (ps:Nat->List Int) (w:Nat) (P:List Pc) (x:V) (nt:String) (_:vs=[.ref st,x]) (_:H st=some (.ins a.A0 ds (xc vl vm (.ref d) vc))) (_:ŝ a H d n kd ps w P) (_:xo K H x (.type nt)) (_:(∀ s,x=.str s->s.length <= 100000)) (_:(nmV x=false->∀ H',yv H H'->E (.ref a.Ak) none H')) (_:(∀ b,x=.str b->nmS b=true->(∀ q,q∈P->q.nm≠b)->∀ H',yv H H'->E (.ref a.Af) none H')) (_:(∀ r,r∈P->x=.str r.nm->nmS r.nm=true->∀ H',yv H H'->Q (.ref r.ob) H'))
def yni:vk P w K mg Γ (CXe P w) 3 a.Lu a.Lv ["self","name"] (yzs K a):=by
 exists T.Dr.F.okE,yy3,k;obtain ⟨y,J,d,I,G,B,n,u,O,w,P,x,l,rfl,g,R,D,L,M,N,v⟩:=h;exists 2,0,ye (wd (yiu (Ŷ (za k) (xr (yi8 T) k.m T.Eh y7 (pa1 (pv 1))) (ym (pv 0) rfl))) (yc (wz rfl T.Nt T.Cy (pa1 wy))) y6) (yc (yp (x8 (za k) (ym (pv 0) rfl) (pv 1) (fun _ _=>rfl))));exists x,l,rfl,D,L,fun i q f=>?_,fun i q f=>M i q f;obtain ⟨b,rfl,p⟩:=yx5 i;have t:=f _ _ g;have e:=R.same f;rfl';rcases yz8 P b with ⟨r,c,rfl⟩ | o
 .exists d,_,rfl,e.get c,?_;exists false,rfl,yat ?_;rfl';exists d,_,rfl,e.get c,?_;exact v r c rfl p _ f
 .exists d,_,rfl,e.getNo o,?_;exists true,rfl,yaw ?_;rfl';exists by walk_at "len",N b rfl p o _ f
#synth yw2 ["self","name","base"] ysq
inductive yp8 (K:W.Frag) (a:Ads) (vs:List V) (H:Hp) (Q:VK) (E:XK):Prop
 | mk (st ds d:Addr) (vl vm vc:V) (n:Nat) (kd:Nat->Fin 3) (ps:Nat->List Int) (w:Nat) (P:List Pc) (b:Str) (x:Option Str) (_:vs=[.ref st,.str b,baV x]) (_:H st=some (.ins a.A0 ds (xc vl vm (.ref d) vc))) (_:ŝ a H d n kd ps w P) (_:(∀ y,x=some y->nmS y=true/\y.length <= 100000)) (_:((∃ r,r∈P/\r.nm=b)->E (.ref a.Ax) none H)) (_:((∀ q,q∈P->q.nm≠b)->(∀ y,x=some y->(∀ q,q∈P->q.nm≠y)->∀ H',yv H H'->E (.ref a.Af) none H')/\(∀ L,To P x L->(P.length=60->∀ H',yv H H'->E (.ref a.C9) none H')/\(P.length≠60->∀ H',yv H H'->Q .non H'))))
def yu9:vk P w K mg Γ (CXe P w) 4 a.Ls a.Lt ["self","name","base"] (yp8 K a):=by
 exists T.Gs.F.okE,yw2,M;obtain ⟨C,L,d,J,I,D,n,v,N,w,P,b,x,rfl,f,g,hx,Y,Z⟩:=h;exists 3,0,ye (wd (yiu (ywm (za M) (pv 1) (ym (pv 0) rfl))) (yc (wz rfl T.Pt T.Ev (pa1 wy))) y6) (ye (wd (yu É (pv 2) ub (yz _)) (yc (yt (vg (pv 0) T.A3 T.Dr.m (yni T) M.m T.Dr.B .nil y7 (pa1 (pv 2))))) y6) (yc (wd (yu xz (pcB ü T.Ac (pa1 (ym (pv 0) rfl))) (ve rfl T.Ea) (yz _)) (yc (wz rfl T.Qe T.Hf (pa1 wy))) y6)));rcases yz8 P b with ⟨r,c,rfl⟩ | u
 .exists d,_,rfl,g.get c,?_;exists true,rfl,yaw ?_;rfl';exists by walk_at "len",Y ⟨r,c,rfl⟩
 .exists d,_,rfl,g.getNo u,?_;exists false,rfl,yat ?_;obtain ⟨R,G⟩:=Z u;have X:(pcs P).length=P.length:=cA _;rfl'
  cases x with
  | none =>
   refine yj3 (fun _=>?_) (fun z=>absurd rfl z);obtain ⟨l,k⟩:=G [] rfl;rfl';exists d,_,rfl,g.dk,?_;rfl';refine uu (fun j=>?_) (fun j=>?_)
   .rfl';exists by walk_at "len",l (by omega) _ (yv.refl _)
   .rfl';exact k (by omega) _ (yv.refl _)
  | some y =>
   refine yj3 (fun z=>nomatch z) (fun _=>?_)
   obtain ⟨q,o⟩:=hx y rfl;rfl';exists C,L,d,J,I,D,n,v,N,w,P,.str y,"str",rfl,f,g,.str y,(fun s e=>by cases e; exact o),(fun z=>by rw [show nmV (.str y)=nmS y from rfl,q] at z; cases z),(fun b e _ p H' S=>by cases e; exact R y rfl p H' S),fun r c e _ H1 i=>?_;obtain rfl:y=r.nm:=by cases e; rfl
   obtain ⟨l,k⟩:=G _ ⟨r,c,rfl,rfl⟩;have O:=i _ _ f;rfl';exists d,_,rfl,i _ _ g.dk,?_;rfl';refine uu (fun j=>?_) (fun j=>?_)
   .rfl';exists by walk_at "len",l (by omega) _ i
   .rfl';exact k (by omega) _ i
#synth yji ["self","name","links"] ["self","name"] ysl
inductive ykp (a:Ads) (vs:List V) (H:Hp) (Q:VK) (E':XK):Prop
 | mk (st ds d:Addr) (vl vm vc:V) (n:Nat) (kd:Nat->Fin 3) (ps:Nat->List Int) (w:Nat) (P:List Pc) (x:Option Str) (L:List (Str × List Int)) (_:vs=[.ref st,baV x]) (_:H st=some (.ins a.A0 ds (xc vl vm (.ref d) vc))) (_:ŝ a H d n kd ps w P) (_:To P x L) (_:∀ (l:Addr) (H':Hp),H l=none->H' l=some (.lst (nmL L))->yv H H'->Q (.ref l) H')
def yxb:vk P w K mg Γ CX0 1 a.Lx a.Ly ["self","name"] (ykp a):=by
 exists T.Gt.F.ok,yji,hr;obtain ⟨J,ds,d,vl,vm,Z,n,W,ps,w,P,x,L,rfl,u,C,O,k⟩:=h;exists 2,1,ye (yo (i:=2) yji.nd rfl (Or.inl rfl) (xh ua)) (ye (zj PassesOwn.never (yu É (pv 1) ub (yz _)) (ye (yt (Č PySem.F.plainAttrs_list PySem.F.slot_list_append PySem.F.type_list_append xg (pv 2) (pa1 (pv 1)))) (yc (yo (i:=1) yji.nd rfl (Or.inl rfl) (ym (x8 (za hr) (ym (pv 0) rfl) (pv 1) (fun _ _=>rfl)) rfl))))) (ye (yt (yjn PySem.F.plainAttrs_list PySem.F.slot_list_reverse PySem.F.type_list_reverse ģ (pv 2))) (yc (yp (pv 2)))));exists by walk_at "len",fun l c=>?_
 rfl'
 refine ⟨fun m σ' G=>∃ (y:Option Str) (R S:List (Str × List Int)),σ'=[some (.ref J),some (baV y),some (.ref l)]/\To P y R/\R++S=L/\G l=some (.lst (nmL S).reverse)/\yv H G/\m=R.length,
  ⟨_,x,L,[],rfl,O,d6 L,ya,y8 c,rfl⟩,?_⟩
 rintro m σ2 G ⟨y,R,S,rfl,N,f,g,B,rfl⟩;have M:=B _ _ u;have Y:=C.same B;have D:=To.len C O;have a0:S.length <= 61:=by rw [<- f,cF] at D; omega
 rfl'
 cases y with
 | none =>
  refine yj3 (fun _=>?_) (fun z=>absurd rfl z);have e:S=L:=by rw [show R=[] from N] at f; exact f
  rfl';refine Ì g ?_;rfl';refine ű g ?_;rw [List.reverse_reverse,e];rfl';exact k l _ c ya fun b o z=>yf (yb z c) (B _ _ z)
 | some b =>
  refine yj3 (fun z=>nomatch z) (fun _=>?_)
  obtain ⟨r,p,rfl,q⟩:=N;exists _,fun σ' H' z=>z,?_;rfl';refine Ì g ?_;rfl';refine xy g (vd (by unfold nmL; rw [List.length_reverse,cA]; omega)) ?_;have j:yv H (upd G l (HO.lst ((nmL S).reverse++[baV (some r.nm)]))):=fun b o e=>yf (yb e c) (B _ _ e);have t:upd G l (HO.lst ((nmL S).reverse++[baV (some r.nm)])) l=some (HO.lst ((nmL S).reverse++[baV (some r.nm)])):=ya;generalize upd G l (HO.lst ((nmL S).reverse++[baV (some r.nm)]))=G' at j t ⊢;have U:=j _ _ u;have v:=C.same j;have a1:=(v.ob r p).1;rfl';exists d,_,rfl,v.get p,?_;rfl';exists r.path.length,?_,r.bs,r.path,(r.nm,r.tx) :: S,rfl,C.wf r p,?_,?_,j,rfl
  .rw [q,cF,dE];omega
  .rw [<- f,q,du];rfl
  .rw [yqj];exact t
#synth yik ["self","name","links","link"] ["self","name"] ys9
inductive ġ (K:W.Frag) (a:Ads) (vs:List V) (H:Hp) (Q:VK) (E':XK):Prop
 | mk (st ds ll d c dc p cl ct:Addr) (lk tp:Nat->Addr) (n:Nat) (kd:Nat->Fin 3) (ps:Nat->List Int) (mo w:Nat) (P:List Pc) (L:List (Str × List Int)) (ks:List V) (U:Addr->Prop) (x:Option Str) (L':List (Str × List Int)) (_:vs=[.ref st,baV x]) (_:j6 K a H st ds ll d c dc p cl ct lk tp n kd ps mo w P L ks U) (_:To P x L') (_:∀ (c' dc' p' cl' ct':Addr) (ks':List V) (U':Addr->Prop) (H':Hp),j6 K a H' st ds ll d c' dc' p' cl' ct' lk tp n kd ps mo w P L' ks' U'->Go (StO st c cl ct U) H H' (StO st c' cl' ct' U')->NK H ks ks'->(V.non∈ks'->V.non∈ks.take L'.length)->Q (.ref c') H')
def yir:vk P w K mg Γ (CXe P w) 12 a.Lz a.M0 ["self","name"] (ġ K a):=by
 exists T.Co.F.okE,yik,hr;obtain ⟨R,ds,ll,d,c,dc,p,cl,ct,lk,tp,n,kd,ps,mo,w,P,L,ks,U,x,t,rfl,N,hL,k⟩:=h;have a8:=N.me;refine yh (yo (i:=2) yik.nd rfl (Or.inl rfl) (xf (pv 0) T.A3 T.Gt.m (yxb T) hr.m T.Gt.B .nil vx (pa1 (pv 1)))) ?_;refine yh (jr (wd (yu (yd0 hr.units) (ym (ym (pv 0) rfl) rfl) (xx Ç (pv 2) zl (zn (pcB yr T.Ac (pa1 (ym (ym (pv 0) rfl) rfl))))) (yz _)) (yc (yy (pv 0) (uk T.Eu (yix T) hr.m rfl T.Et T.D2.B .nil y7 (pa1 (ym (pv 0) rfl))) rfl)) y6)) ?_;refine yh (PS.nox (ur PassesOwn.never rfl (wv (xx Ç (pv 2) (zn (pcB yr T.Ac (pa1 (ym (ym (pv 0) rfl) rfl)))) zl)) (wl (i:=3) yik.nd rfl (Or.inl rfl)) (yc (yt (vg (ym (pv 0) rfl) T.Aj T.Gr.m (ywc T) hr.m T.Gr.B .nil vh (pac (pv 3) (pac (ym (x8 (za hr) (ym (pv 0) rfl) (pv 3) (fun _ _=>rfl)) rfl) (pa1 (ym (pv 0) rfl))))))))) ?_;exists 2,2,yc (yp (ym (pv 0) rfl));exists R,ds,d,_,_,_,n,kd,ps,w,P,x,t,rfl,a8,N.pz,hL,fun l H1 aB ac S1=>?_;have av:=S1 _ _ a8;have a7:=N.same S1;have aA:=a7.ch.me;have a6:=a7.ch.hl;obtain ⟨y,hy⟩:=N.way;have ar:=To.len N.pz hL;have ax:=To.len N.pz hy;rfl';exists fun σ2 G=>∃ (W O p2 f j:Addr) (M:List V) (U2:Addr->Prop) (C:List (Str × List Int)),σ2=[some (.ref R),some (baV x),some (.ref l),none]/\j6 K a G R ds ll d W O p2 f j lk tp n kd ps mo w P C M U2/\Go (StO R c cl ct U) H G (StO R W f j U2)/\C=t.take C.length/\C.length <= t.length/\G l=some (.lst (nmL t))/\NK H ks M/\(V.non∈M->V.non∈ks.take t.length),?_,?_
 .rfl';refine ue (SqL.of a6) ?_;rfl';refine yfm (SqL.of ac) fun q hq0=>?_;rw [ŗ,ß,ycy];exists hq0,H2,S2,e2;have a5:=S1.trans S2;have I:=N.same a5;have a3:=I.me;have Z:=S2 _ _ ac;rw [Ą] at e2;have a4:=I.ch.hl;rw [Ą] at a4;refine yno _ _ (hy.ok N.pz) (fun z hz=>hL.ok N.pz z (by obtain ⟨u,hu,rfl⟩:=cI.mp hz; exact cI.mpr ⟨u,dz hu,rfl⟩)) (SqL.of a4) (SqL.of e2) ?_;by_cases he:L.map (·.1)=(t.take L.length).map (·.1)
  .rw [cK he];exists false,rfl,yat ?_;have e3:=To.ahead N.pz.nd N.pz.wf hy hL (by rw [ycy]; exact yy0 he);have e4:=congrArg List.length e3;rw [cX] at e4;exists c,dc,p,cl,ct,ks,U,L,rfl,I,Go.refl.same a5,e3,by omega,Z,.refl,fun z=>by rw [dA (by rw [N.ch.tx.len]; omega)]; exact z
  .rw [cP he];exists true,rfl,yaw ?_;rfl';intro c' a2 nc ad aD;have SQ:yv H2 (upd (upd H2 a2 (.own c')) c' (.ins a.A1 a2 [])):=fun b o e=>by rw [yk (yb e nc),yk (yb e ad)]; exact e
   exists c',a2,ll,n,lk,tp,kd,ps,rfl,ya,SQ _ _ I.lo,I.n1,I.n6,I.row.same SQ,fun p' ap am U' HE Y a9 BE _=>⟨rfl,?_⟩;obtain ⟨hR,gR,SE,hN⟩:=I.re nc ad Y a9 BE;have au:=SE _ _ a3;rfl'
   exists c',a2,p',ap,am,[],U',[],rfl,hR,gR.ahead a5,rfl,cV _,yf (fun z=>by rw [z,a3] at Z; cases Z) (SE _ _ Z),.nil,fun z=>nomatch z
 .rintro σ2 G ⟨W,O,p2,f,j,M,U2,C,rfl,hG,go,ag,an,ai,af,aj⟩;have aw:=hG.me;have aC:=hG.ch.me;have ae:=hG.ch.hl;rfl';refine ue (SqL.of ae) ?_;rfl';refine yfm (SqL.of ai) fun q hq0=>?_;rw [ŗ,ydb];have S1:=y8 (o:=(HO.lst ((nmL t).drop C.length))) hq0;have e1:upd G q (HO.lst ((nmL t).drop C.length)) q=some (HO.lst ((nmL t).drop C.length)):=ya;generalize upd G q (HO.lst ((nmL t).drop C.length))=G1 at S1 e1 ⊢
  have ao:∀ S F,Go (StO R W f j U2) G1 F (StO R W f j S)->j6 K a G R ds ll d W O p2 f j lk tp n kd ps mo w P C M U2->F q=some (HO.lst ((nmL t).drop C.length)):=fun S F g hG=>g.fr _ _ e1 fun w=>by
   obtain ⟨o,e⟩:=hG.lvO q w;rw [hq0] at e;cases e
  exists q,rfl,⟨_,SqL.of e1⟩,zf (K:=K) (a:=q) (xs:=(nmL t).drop C.length) (fun i σ2 F=>∃ (v:Option V) (D:List V) (S:Addr->Prop),σ2=[some (.ref R),some (baV x),some (.ref l),v]/\j6 K a F R ds ll d W O p2 f j lk tp n kd ps mo w P (t.take (C.length+i)) D S/\Go (StO R W f j U2) G1 F (StO R W f j S)/\NK G1 M D/\(V.non∈D->V.non∈M)) ?_ ?_ ?_ ?_
  .rw [Nat.add_zero,<- ag];exists none,M,U2,rfl,hG.same S1,Go.refl,.refl,id
  .rintro i σ2 F _ ⟨v,D,S,rfl,J,g,X,a1⟩;exact SqL.of (ao S F g hG)
  .rintro i z σ2 F hz ⟨v,D,S,rfl,J,g,X,a1⟩
   have hj:C.length+i < t.length:=by
    rcases Nat.lt_or_ge (C.length+i) t.length with z | z
    .exact z
    .rw [dn (by rw [dP,ŗ]; omega)] at hz;cases hz
   obtain ⟨r,a0,e3,e4,e5⟩:=hL.at' N.pz.wf hj
   obtain rfl:z=.str r.nm:=by
    rw [List.getElem?_drop,Ą,df,cG,cC hj,e3] at hz;cases hz;rfl
   have ab:=J.me;have az:=J.ch.me;obtain ⟨as,aa⟩:=J.pz.ob r a0;rfl';exists d,_,rfl,J.pz.get a0,?_;rfl';have ak:=J.pz.sz r a0;have hb:=J.wm;have hm:=yje (L:=t.take (C.length+i)) (w:=w) (fun y hy=>(hL.sz N.pz y (dz hy)).2) hb.2 (by rw [cX]; omega);have ah:=J.mo1;have aE:=yj5 (n:=n) (kd:=kd) (ps:=ps) (pre:=Ù ((t.take (C.length+i)).map (·.2))) (ts:=r.tx) J.n1 J.n6 (ö _) (by omega);exists W,O,p2,f,j,n,kd,ps,t.take (C.length+i),D,mOf (t.take (C.length+i)),S,r.dl,r.nm,r.tx,[],mo,rfl,J.ch,by rw [cX]; omega,ak.1,?_,fun w=>J.nw r.dl (.inr (.inr (.inr ⟨r,a0,.inr rfl⟩))) (.inr (.inr (.inr w))),(fun b hb=>by cases hb),by rw [d6]; omega,by omega,ah,by omega,fun q3 U4 F2 aq Y g2=>?_
   .rw [d6,<- e4];exact aa
   rw [<- ydk,<- e3,<- dr hj] at Y;obtain ⟨h4,g4⟩:=J.go Y g2 ⟨_,e5⟩;rfl';exists _,_,U4,rfl,h4,g.trans g4,X.app (fun q e=>by cases e; exact g.free aq),fun z=>a1 ((c7.mp z).elim id fun y=>by cases cQ.mp y)
  .rintro σ2 F ⟨v,D,S,rfl,J,g,X,a1⟩;rw [dP,ŗ,Nat.add_sub_cancel' an,dN] at J;have ab:=J.me;rfl';exact k W O p2 f j D S F J (go.trans (g.ahead S1)) (af.trans X fun q e=>go.free (S1.free e)) fun z=>aj (a1 z)
def j8.lvW {H:Hp} {c ll:Addr} {n:Nat} {kd:Nat->Fin 3} {ps:Nat->List Int} {ks:List V} {M:Nat} {W:Addr->Prop} (h:j8 K a H c dc p ll tl n kd ps L ks M W):∀ x,StW c ll tl W x->∃ o,H x=some o:=fun x b=>by
 rcases b with z | z | z | z
 .exists _,by rw [z]; exact h.me
 .exists _,by rw [z]; exact h.hl
 .exists _,by rw [z]; exact h.ht
 .exact h.fz.live x z
def j8.butM {H H':Hp} {c ll:Addr} {n:Nat} {kd:Nat->Fin 3} {ps:Nat->List Int} {ks:List V} {M:Nat} {W:Addr->Prop} (h:j8 K a H c dc p ll tl n kd ps L ks M W) {o:HO} (hq:H q=some o) (ho:yup o=true) (nq:¬ StW c ll tl W q) (B:But q H H'):j8 K a H' c dc p ll tl n kd ps L ks M W:=by
 have b:∀ {x:Addr} {d:List V},H x=some (.lst d)->x≠q:=fun {x d} e z=>by rw [z,hq] at e; cases e; cases ho
 exists B _ _ h.me fun z=>nq (.inl z.symm),h.fz.frame (W2:=fun x=>x=q) (fun x z=>⟨o,by rw [show x=q from z]; exact hq,.inl ho⟩) (fun x w z=>nq (.inr (.inr (.inr (by rw [<- show x=q from z]; exact w))))) (fun x o e g=>B x o e g),B _ _ h.hl (b h.hl),B _ _ h.ht (b h.ht),h.tx.mono fun x d e f=>⟨B _ _ e (b e),f⟩,h.nc,h.nll,h.ntl,h.ne
def To.more {P:List Pc} {q:Pc} {x:Option Str} (h:To P x L):To (P++[q]) x L:=by
 cases x with
 | none=>exact h
 | some b =>
  obtain ⟨r,a,e⟩:=h;exists r,dJ _ a,e
section
variable {H H1 H2 H3:Hp} {st ll d c ct:Addr} {lk:Nat->Addr} {n:Nat} {kd:Nat->Fin 3} {ps:Nat->List Int} {mo w:Nat} {P:List Pc} {ks ks':List V}
def j6.put (h:j6 K a H st ds ll d c dc p cl ct lk tp n kd ps mo w P L ks U) {b:Str} {x:Option Str} {r ob od:Addr} (hc:j8 K a H1 c dc p cl ct n kd ps (L++[(b,ts)]) ks' (mOf L+6 * (dec ts).length) U') (g:Go (ChW cl ct U) H H1 (ChW cl ct U')) (hr0:H r=none) (hr:H1 r=some (.lst ((τ n kd ps (Ù (L.map (·.2))) ts).map V.int))) (hob0:H1 ob=none) (S:yv H1 H2) (hob:H2 ob=some (.ins a.A8 od (ă (baV x) (.ref r))))
  (hL:To P x L) (hL6:L.length <= 60) (hts:Sgs ts) (htz:ts.length <= w) (hb1:nmS b=true) (hb2:PyData.strOk b=true) (hno:∀ q,q∈P->q.nm≠b) (hP:P.length < 60) :
  j6 K a (upd H2 d (.dK (pcs (P++[⟨b,x,L,ts,ob,od,r⟩])))) st ds ll d c dc p cl ct lk tp n kd ps mo w (P++[⟨b,x,L,ts,ob,od,r⟩]) (L++[(b,ts)]) ks' U'/\Go (fun y=>y=d\/StO st c cl ct U y) H (upd H2 d (.dK (pcs (P++[⟨b,x,L,ts,ob,od,r⟩])))) (fun y=>y=d\/StO st c cl ct U' y):=by
 have g1:Go (StW c cl ct U) H H1 (StW c cl ct U'):=g.or (Y:=fun x=>x=c);have f:∀ x o,H x=some o->(x=st\/x=ll\/x=d\/∃ q,q∈P/\(x=q.ob\/x=q.dl))->H2 x=some o:=fun x o e D=>S _ _ (g1.fr x o e (h.nw x D));have l:=f _ _ h.me (.inl rfl);have m:=f _ _ h.lo (.inr (.inl rfl));have j:=f _ _ h.pz.dk (.inr (.inr (.inl rfl)));have u:=g1.apart (fun x D=>h.lv x D) h.nw;have t:xu H2 n lk kd tp ps:=h.row.fr fun x I e=>S _ _ (g1.fr _ _ e (h.ch.noTup e));have v:j8 K a H2 c dc p cl ct n kd ps (L++[(b,ts)]) ks' (mOf (L++[(b,ts)])) U':=by rw [ydk]; exact hc.same S
 have C:¬ StW c cl ct U' ob:=fun z=>by
  obtain ⟨o,e⟩:=hc.lvW ob z;rw [hob0] at e;cases e
 have G:¬ StW c cl ct U' r:=fun z=>by
  rcases z with z | z | z | z
  .rw [z,h.ch.me] at hr0; cases hr0
  .rw [z,h.ch.hl] at hr0; cases hr0
  .rw [z,h.ch.ht] at hr0; cases hr0
  .exact hc.fz.sh.ints hr (yls h.n1 h.n6 (ö _)) z
 exists ⟨yf (fun z=>by rw [z,j] at l; cases l) l,h.n1,h.n6,yf (fun z=>by rw [z,j] at m; cases m) m,t.fr fun x I e=>yf (fun z=>by rw [z,j] at e; cases e) e,⟨ya,fun q i=>?_,?_,fun q i=>?_,fun q i=>?_,?_,fun q i=>?_⟩,v.butM j rfl (u d (.inr (.inr (.inl rfl)))) But.upd,fun y s=>?_,h.mo1,h.wm,⟨some b,_,cZ _ (cQ.mpr rfl),rfl,rfl⟩⟩,⟨fun y o e E=>?_,fun y z=>?_,fun y o e=>?_⟩
 .rcases c7.mp i with z | z
  .have A:=f _ _ (h.pz.ob q z).1 (.inr (.inr (.inr ⟨q,z,.inl rfl⟩)));have k:=f _ _ (h.pz.ob q z).2 (.inr (.inr (.inr ⟨q,z,.inr rfl⟩)));exists yf (fun z=>by rw [z,j] at A; cases A) A,yf (fun z=>by rw [z,j] at k; cases k) k
  .obtain rfl:=cQ.mp z;have k:=S _ _ hr;exists yf (fun z=>by rw [show ob=d from z,j] at hob; cases hob) hob,yf (fun z=>by rw [show r=d from z,j] at k; cases k) k
 .rw [cM];refine List.nodup_append.mpr ⟨h.pz.nd,(by simp),fun y s z F e=>?_⟩;obtain ⟨q,i,rfl⟩:=cI.mp s;rw [List.map_singleton,cQ] at F;exact hno q i (e.trans F)
 .rcases c7.mp i with z | z
  .exact (h.pz.wf q z).more
  .obtain rfl:=cQ.mp z;exact hL.more
 .rcases c7.mp i with z | z
  .exact h.pz.sz q z
  .obtain rfl:=cQ.mp z;exists hts,htz,hL6,fun y s=>hL.sz h.pz y s
 .rw [cF,dE]; omega
 .rcases c7.mp i with z | z
  .exact h.pz.nm q z
  .obtain rfl:=cQ.mp z;exists hb1,hb2
 .rcases s with z | z | z | ⟨q,i,z⟩
  .exact u y (.inl z)
  .exact u y (.inr (.inl z))
  .exact u y (.inr (.inr (.inl z)))
  .rcases c7.mp i with B | B
   .exact u y (.inr (.inr (.inr ⟨q,B,z⟩)))
   .obtain rfl:=cQ.mp B;rcases z with z | z
    .rw [z]; exact C
    .rw [z]; exact G
 .exact yf (fun z=>E (.inl z)) (S _ _ (g1.fr y o e fun z=>E (.inr (.inr z))))
 .rcases z with z | z | z
  .exact .inl (.inl z)
  .exact .inl (.inr (.inl z))
  .exact (g1.nw y z).imp (fun z=>.inr (.inr z)) id
 .obtain ⟨M,J⟩:=g1.lv y o e;by_cases z:y=d
  .exists _,by rw [z]; exact ya
  .exists M,yf z (S _ _ J)
end
#synth yjg ["self","name","text","base","signs","data"] ["self","name","text","base"] yfi
inductive yi0 (K:W.Frag) (a:Ads) (vs:List V) (H:Hp) (Q:VK) (E:XK):Prop
 | mk (st ds ll d c dc p cl ct:Addr) (lk tp:Nat->Addr) (n:Nat) (kd:Nat->Fin 3) (ps:Nat->List Int) (mo w:Nat) (P:List Pc) (L:List (Str × List Int)) (ks:List V) (U:Addr->Prop) (b:Str) (x:Option Str) (tx:Addr) (ts:List Int) (_:vs=[.ref st,.str b,.ref tx,baV x]) (_:j6 K a H st ds ll d c dc p cl ct lk tp n kd ps mo w P L ks U) (_:nmS b=true) (_:PyData.strOk b=true) (_:ux H tx ts 1000) (_:(∀ y,x=some y->nmS y=true)) (_:P.length < 60) (_:(mo < ts.length->∀ H',yv H H'->E (.ref a.A9) none H')) (_:(ts.length <= mo->(∃ r,r∈P/\r.nm=b)->∀ H',yv H H'->E (.ref a.Ax) none H')) (_:(ts.length <= mo->(∀ q,q∈P->q.nm≠b)->∀ y,x=some y->(∀ q,q∈P->q.nm≠y)->∀ H',yv H H'->E (.ref a.Af) none H')) (_:(ts.length <= mo->(∀ q,q∈P->q.nm≠b)->∀ L',To P x L'->ts.length <= w/\L'.length <= 60 /\
 ∀ (ob od dl c' dc' p' cl' ct':Addr) (ks':List V) (U':Addr->Prop) (H':Hp),j6 K a H' st ds ll d c' dc' p' cl' ct' lk tp n kd ps mo w (P++[⟨b,x,L',ts,ob,od,dl⟩]) (L'++[(b,ts)]) ks' U'->H ob=none->H dl=none->Go (fun y=>y=d\/StO st c cl ct U y) H H' (fun y=>y=d\/StO st c' cl' ct' U' y)->NK H ks ks'->Q .non H'))
def ynd:vk P w K mg Γ (CXe P w) 13 a.D0 a.Lo ["self","name","text","base"] (yi0 K a):=by
 exists T.Qp.okE,yjg,v;obtain ⟨W,ds,ll,d,c,dc,p,cl,ct,lk,tp,n,kd,ps,mo,w,P,L,ks,U,b,x,tx,ts,rfl,O,N,ap,D,I,ag,kL,kT,kN,k⟩:=h;have aw:=O.me;refine yh (yt (xr (yi8 T) v.m T.Eh y7 (pa1 (pv 1)))) ?_;refine yh (yo (i:=4) yjg.nd rfl (Or.inl rfl) (xr (yfj T) v.m T.Es y7 (pa1 (pv 2)))) ?_;refine yh (yt (xr (yut T) v.m T.N9 y7 (pa1 (pv 3)))) ?_;refine yh (yt (vg (pv 0) T.A3 T.Dq.m (yn3 T) v.m T.Dq.B .nil y7 (pa1 (pv 4)))) ?_;refine yh (yt (vg (pv 0) T.A3 T.Gs.m (yu9 T) v.m T.Gs.B .nil y7 (pac (pv 1) (pa1 (pv 3))))) ?_;refine yh (yo (i:=5) yjg.nd rfl (Or.inl rfl) (xf (vg (pv 0) T.A3 T.Co.m (yir T) v.m T.Co.B .nil y7 (pa1 (pv 3))) T.Aj T.Gq.m (yxf T) v.m T.Gq.B .nil vx (pac (pv 1) (pa1 (pv 4))))) ?_;exists _,(yc (È (za v) (ym (pv 0) rfl) (pv 1) (ÿ T.Pq (ywq T) v.m rfl T.Pp T.Ei.B .nil vx (pac (pv 3) (pa1 (pv 5)))) rfl)),?_;exists 4,2;have av:=yb2 N;have F:∀ y,x=some y->nmS y=true/\y.length <= 8:=fun y e=>⟨I y e,yb2 (I y e)⟩;have ab:=O.wm;have as:=O.mo1;rfl';exists .str b,"str",rfl,.str b,(fun s e=>by cases e; omega),fun _ H1 S1=>?_,fun z=>by rw [show nmV (.str b)=nmS b from rfl,N] at z; cases z
 have f:=D.same S1;rfl';exists .ref tx,_,rfl,.lst f.l,.inr ⟨ts.map V.int,η f.l f.s (by have:=f.z; omega),fun sg H2 a4 a7 S2=>?_⟩;rfl'
 have R:∃ nt,xo K H2 (baV x) (.type nt):=by
  cases x with
  | none=>exists _,.non
  | some y=>exists _,.str y
 obtain ⟨nt,R⟩:=R
 have an:baV x=.non\/nmV (baV x)=true:=by
  cases x with
  | none=>exact .inl rfl
  | some y=>exact .inr (F y rfl).1
 exists baV x,nt,rfl,R,(fun s e=>?_),fun _ H3 S3=>?_,fun z1 z2=>absurd an fun z=>z.elim z1 fun z=>by rw [z2] at z; cases z
 .cases x with
  | none=>cases e
  | some y=>cases e; have:=(F _ rfl).2; omega
 have t:=S1.trans (S2.trans S3);have a5:=O.same t;have M:=a5.me;have J:=S3 _ _ a7;rfl';exists W,ds,sg,_,_,_,mo,_,rfl,M,J,fun u=>?_,fun z=>kL (by rw [cA] at z; omega) _ t;have u:ts.length <= mo:=by rw [cA] at u; omega
 rfl';exists W,ds,d,_,_,_,n,kd,ps,w,P,b,x,rfl,M,a5.pz,(fun y e=>⟨(F y e).1,by have:=(F y e).2; omega⟩),(fun hx=>kT u hx _ t),fun C=>⟨fun y e af H4 S4=>kN u C y e af _ (t.trans S4),fun L' hL=>⟨fun z=>absurd z (by omega),fun _ H4 S4=>?_⟩⟩;obtain ⟨ah,ao,k⟩:=k u C L' hL;have j:=t.trans S4;have a6:=O.same j;have aq:=a6.me;have G:=S4 _ _ J;rfl';exists W,ds,ll,d,c,dc,p,cl,ct,lk,tp,n,kd,ps,mo,w,P,L,ks,U,x,L',rfl,a6,hL,fun c' aa p' Z X ad U' H5 S g5 ai _=>?_;have aA:=S.ch.me
 have a2:¬ StO W c cl ct U sg:=fun z=>by
  obtain ⟨o,e⟩:=O.lvO sg z;rw [S1.free a4] at e;cases e
 have a1:=g5.fr _ _ G a2;have a3:¬ StO W c' Z X U' sg:=fun z=>(g5.nw sg z).elim a2 fun e=>by rw [G] at e; cases e
 have hm:=yje (L:=L') (w:=w) (fun y hy=>(hL.sz O.pz y hy).2) ab.2 (by omega);have ax:=xq ts;have az:=D.z;rfl';exists c',aa,p',Z,X,n,kd,ps,L',ad,mOf L',U',sg,b,ts,rfl,S.ch,by omega,⟨a1,D.s,by omega⟩,fun z=>a3 (.inr (.inr (.inr (.inr z)))),by omega,fun r U6 H6 a9 am ak g6=>?_
 have ae:=g6.fr _ _ S.me fun z=>S.nw W (.inl rfl) (.inr z);have aj:=g6.fr _ _ S.pz.dk fun z=>S.nw d (.inr (.inr (.inl rfl))) (.inr z);rfl';intro ob od g a8 ay;have SQ:yv H6 (upd (upd H6 od (.own ob)) ob (.ins a.A8 od [])):=fun b o e=>by rw [yk (yb e g),yk (yb e a8)]; exact e
 exists ob,od,baV x,.ref r,rfl,ya,fun H7 a0 B7=>⟨rfl,?_⟩;have S7:yv H6 H7:=fun y o e=>B7 _ _ (SQ _ _ e) (yb e g);have ar:=S7 _ _ ae;rfl';exists d,_,rfl,yfq.k (k:=.inr b) (S7 _ _ aj) (vd (by unfold pcs; rw [cA]; omega)),?_;rw [zh _ (ym2 C)];obtain ⟨z1,z2⟩:=S.put (x:=x) ak g6 a9 am g S7 a0 hL ao D.s ah N ap C ag;have e8:pcs (P++[⟨b,x,L',ts,ob,od,r⟩])=pcs P++[(.inr b,.ref ob)]:=by unfold pcs; rw [cM]; rfl
 rw [e8] at z1 z2;have ac:∀ {y:Addr},H6 y=none->H y=none:=fun {y} e=>j.free (g5.free (g6.free e))
 exact k ob od r c' aa p' Z X _ U6 _ z1 (ac g) (j.free (g5.free a9)) (((g5.ahead j).or (Y:=fun y=>y=d)).trans z2) ((NK.refl.trans ai fun _ e=>j.free e).app fun q e=>nomatch e)
def Sto.putE {H:Hp} {st:Addr} {C:Cf} {P:List Pd} {X:Sx} {Q:VK} {E:XK} (h:Sto K a H st C P X) {b:Str} {x:Option Str} {tx:Addr} (hb:okN b) (htx:ux H tx ts 1000) (hx:∀ y,x=some y->nmS y=true) (hP:P.length < 60)
  (kL:C.mo < ts.length->∀ H',yv H H'->E (.ref a.A9) none H') (kT:ts.length <= C.mo->(∃ r,r∈P/\r.nm=b)->∀ H',yv H H'->E (.ref a.Ax) none H') (kN:ts.length <= C.mo->(∀ q,q∈P->q.nm≠b)->∀ y,x=some y->(∀ q,q∈P->q.nm≠y)->∀ H',yv H H'->E (.ref a.Af) none H')
  (k:ts.length <= C.mo->(∀ q,q∈P->q.nm≠b)->∀ L,ToD P x L->ts.length <= C.w/\L.length <= 60/\∀ Y H',Sto K a H' st C (P++[⟨b,x,L,ts⟩]) Y->Gx X H H' Y->Q .non H'):yi0 K a [.ref st,.str b,.ref tx,baV x] H Q E:=by
 obtain ⟨I,F,d,c,Z,p,cl,O,G,J,i,S,ks,U,s,rfl,rfl⟩:=h;rw [cA] at hP
 have B:∀ {z:Str},(∀ q,q∈i->q.nm≠z)->∀ q,q∈i.map Pc.pd->q.nm≠z:=fun {z} hz q t=>by
  obtain ⟨u,N,rfl⟩:=cI.mp t;exact hz u N
 exists st,I,F,d,c,Z,p,cl,O,G,J,C.n,C.kd,C.ps,C.mo,C.w,i,S,ks,U,b,x,tx,ts,rfl,s,hb.1,hb.2,htx,hx,hP,kL,(fun f ⟨r,hr,e⟩=>kT f ⟨r.pd,cI.mpr ⟨r,hr,rfl⟩,e⟩),(fun f D y e h3=>kN f (B D) y e (B h3)),fun f D L hL=>?_;obtain ⟨k1,k2,k⟩:=k f (B D) L (Ā.mpr hL);exists k1,k2,fun ob od dl M v R A j l U' H' T m o g nk=>k _ H' ⟨I,F,d,M,v,R,A,j,G,J,_,_,l,U',T,by rw [cM]; rfl,rfl⟩ (Gx.of g nk fun q t=>?_);rcases c7.mp t with z | z
 .exact .inl z
 .rw [cQ.mp z];exact .inr ⟨m,o⟩
def Sto.put {H:Hp} {st:Addr} {C:Cf} {P:List Pd} {X:Sx} {Q:VK} {E:XK} (h:Sto K a H st C P X) {b:Str} {x:Option Str} {tx:Addr} (hb:okN b) (htx:ux H tx ts C.w) (hL:ToD P x L) (hno:∀ q,q∈P->q.nm≠b) (hP:P.length < 60)
  (k:∀ Y H',Sto K a H' st C (P++[⟨b,x,L,ts⟩]) Y->Gx X H H' Y->Q .non H'):yi0 K a [.ref st,.str b,.ref tx,baV x] H Q E:=by
 have j:=h.cf;have i:=htx.z
 have d:∀ y,x=some y->∃ r,r∈P/\r.nm=y:=fun y e=>by
  subst e;obtain ⟨r,c,e,_⟩:=hL;exact ⟨r,c,e⟩
 refine h.putE hb ⟨htx.l,htx.s,by omega⟩ (fun y e=>?_) hP (fun z=>absurd z (by omega)) (fun _ ⟨r,c,e⟩=>absurd e (hno r c)) (fun _ _ y e g=>?_) fun _ _ m f=>⟨i,?_,?_⟩
 .obtain ⟨r,c,e⟩:=d y e;rw [<- e];exact (h.nm r c).1
 .obtain ⟨r,c,e⟩:=d y e;exact absurd e (g r c)
 .have:=f.len h.pw;omega
 .rw [ToD.uniq h.nd f hL];exact k
def yxl (x:Option Str) (b:Str):va3 (baV x) (.str b)=true/\decide (baV x=.str b)=decide (x=some b):=by
 cases x with
 | none=>exists rfl,by rw [cP (fun z=>nomatch z),cP (fun z=>nomatch z)]
 | some y =>
  exists rfl,?_;by_cases e:y=b
  .rw [cK (by rw [e]; rfl),cK (by rw [e])]
  .rw [cP (fun z=>e (by cases z; rfl)),cP (fun z=>e (by cases z; rfl))]
#synth yyz ["self","name"] ytl
inductive yh2 (K:W.Frag) (a:Ads) (vs:List V) (H:Hp) (Q:VK) (E:XK):Prop
 | mk (st ds ll d c dc p cl ct:Addr) (lk tp:Nat->Addr) (n:Nat) (kd:Nat->Fin 3) (ps:Nat->List Int) (mo w:Nat) (P:List Pc) (L:List (Str × List Int)) (ks:List V) (U:Addr->Prop) (x:V) (nt:String) (_:vs=[.ref st,x]) (_:j6 K a H st ds ll d c dc p cl ct lk tp n kd ps mo w P L ks U) (_:xo K H x (.type nt)) (_:(∀ s,x=.str s->s.length <= 100000)) (_:(nmV x=false->∀ H',yv H H'->E (.ref a.Ak) none H')) (_:(∀ b,x=.str b->nmS b=true->(∀ q,q∈P->q.nm≠b)->∀ H',yv H H'->E (.ref a.Af) none H')) (_:(∀ r,r∈P->x=.str r.nm->(∃ q,q∈P/\q.bs=some r.nm)->∀ H',yv H H'->E (.ref a.Bb) none H')) (_:(∀ r,r∈P->x=.str r.nm->(∀ q,q∈P->q.bs≠some r.nm) ->
 ∀ (c' dc' p' cl' ct':Addr) (U':Addr->Prop) (H':Hp),j6 K a H' st ds ll d c' dc' p' cl' ct' lk tp n kd ps mo w (P.filter fun q=>decide (q.nm≠r.nm)) [] [] U'->Go (fun y=>y=d\/StO st c cl ct U y) H H' (fun y=>y=d\/StO st c' cl' ct' U' y)->Q .non H'))
def yxr:vk P w K mg Γ (CXe P w) 10 a.M4 a.M5 ["self","name"] (yh2 K a):=by
 exists T.Gu.F.okE,yyz,hr;obtain ⟨st,ds,ll,d,c,dc,p,cl,ct,lk,tp,n,kd,ps,mo,w,P,L,ks,U,x,nt,rfl,hS,ty,hz,k1,k2,k3,k4⟩:=h;have a0:=hS.me;exists 2,0,ye (yt (vg (pv 0) T.A3 T.Dr.m (yni T) hr.m T.Dr.B .nil y7 (pa1 (pv 1)))) (ye (wd (xt (pcB (ykd rfl) T.Oj (pa1 (yh3 (wn (js:=[1]) (ys:=["name"]) rfl (ypd (ym (pv 0) rfl)) (fun C s2 H2 fp=>(x4 xz (yb4 (K:=K) rfl (pv 0) rfl) (pv 1) (yz _))) rfl rfl (hyc:=(all_cons rfl yx)) (hrel:=(all_cons rfl yx))))))) (yc (wz rfl T.Pu T.Ew (pa1 wy))) y6) (ye (yt (ykg (ym (pv 0) rfl) (pv 1) ⟨rfl,rfl,rfl,rfl⟩)) (yc (yy (pv 0) (uk T.Eu (yix T) hr.m rfl T.Et T.D2.B .nil y7 (pa1 (ym (pv 0) rfl))) rfl))));exists st,ds,d,_,_,_,n,kd,ps,w,P,x,nt,rfl,a0,hS.pz,ty,hz,k1,k2,fun r I e hb H1 S1=>?_;subst e;have f:=hS.same S1;have a7:=f.me;rfl';have j:=f.pz.dk;exists d,pcs P,rfl,j,fun o D hD=>?_;have O:(pcs P).length=P.length:=cA _;have aa:=f.pz.z;have a4:D≠d:=fun z=>by rw [z,ya] at hD; cases hD
 refine yej (fun i G=>G D=some (.lst ((P.take i).map fun q=>V.bl (decide (q.bs=some r.nm))))/\yv (upd H1 d (.frz o (.dK (pcs P)))) G) ⟨ya,y8 hD⟩ (fun i G _ z=>z.2 _ _ ya) (fun i kk v G t hi z=>?_) (fun G z=>?_)
 .obtain ⟨gD,S⟩:=z;rw [O] at hi;have M:P[i]?=some P[i]:=cC hi;unfold pcs at t;rw [cG,M] at t;obtain rfl:v=.ref (P[i]).ob:=by cases t; rfl
  have J:=(f.pz.ob _ (dw hi)).1;have a8:=S _ _ (yf (fun z=>by rw [z,j] at J; cases J) J);rfl';obtain ⟨b1,b2⟩:=yxl (P[i]).bs r.nm;exists b1,?_;rw [b2];refine xm (n:=(pcs P).length) gD (vd (by rw [cA,cX]; omega)) (by omega) ⟨?_,fun y o e=>yf (yb e hD) (S _ _ e)⟩;rw [ya,dr hi,cM];rfl
 .obtain ⟨gD,S⟩:=z;rw [O,dN] at gD;exists d,o,.dK (pcs P),(fun o u e=>by rw [j] at e; cases e),S _ _ ya,?_
  have S3:yv H1 (upd G d (.dK (pcs P))):=fun y o' e=>by
   by_cases z:y=d
   .rw [z,ya]; rw [z,j] at e; exact e
   .exact yf z (S _ _ (yf z e))
  have W:(upd G d (.dK (pcs P))) D=some (.lst ((P.map fun q=>decide (q.bs=some r.nm)).map V.bl)):=yf a4 (by rw [gD,df]; rfl);generalize upd G d (.dK (pcs P))=H3 at S3 W ⊢;have g:=f.same S3;have a9:=g.me;rfl';exists D,_,rfl,SqL.of W,?_;by_cases hu:∃ q,q∈P/\q.bs=some r.nm
  .have e:(P.map fun q=>decide (q.bs=some r.nm)).any id=true:=by
    obtain ⟨q,M,e⟩:=hu;exact List.any_eq_true.mpr ⟨true,cI.mpr ⟨q,M,cK e⟩,rfl⟩
   rw [e];exists true,rfl,yaw ?_;rfl';exists by walk_at "len",k3 r I rfl hu _ (S1.trans S3)
  .have N:∀ q,q∈P->q.bs≠some r.nm:=fun q M e=>hu ⟨q,M,e⟩
   have e:(P.map fun q=>decide (q.bs=some r.nm)).any id=false:=by
    rw [List.any_map,List.any_eq_false];intro q M;simpa using N q M
   rw [e];exists false,rfl,yat ?_;rfl';exists d,rfl,.inl ⟨_,.of g.pz.dk⟩,?_;rfl';exists pcs P,.inr r.nm,_,g.pz.dk,rfl,yjs g.pz.nd I,?_;have l:=g.b.drop N
   have gA:Go (fun y=>y=d\/StO st c cl ct U y) H3 (upd H3 d (.dK (Û (pcs P) (.inr r.nm)))) (fun y=>y=d\/StO st c cl ct U y):=⟨fun y o e no=>yf (fun z=>no (.inl z)) e,fun y z=>.inl z,fun y o e=>by
    by_cases z:y=d
    .exists _,by rw [z]; exact ya
    .exact ⟨o,yf z e⟩⟩
   generalize upd H3 d (.dK (Û (pcs P) (.inr r.nm)))=H4 at l gA ⊢;have X:=l.me;rfl';intro c' k nc Z ac;have SQ:yv H4 (upd (upd H4 k (.own c')) c' (.ins a.A1 k [])):=fun b o e=>by rw [yk (yb e nc),yk (yb e Z)]; exact e
   exists c',k,ll,n,lk,tp,kd,ps,rfl,ya,SQ _ _ l.lo,l.n1,l.n6,l.row.same SQ,fun p' a5 a3 U' HE a1 R BE _=>⟨rfl,?_⟩;obtain ⟨hR,gR,SE,hN⟩:=l.re nc Z a1 R BE;have a6:=SE _ _ X;rfl';exact k4 r I rfl N c' k p' a5 a3 U' _ hR ((gA.ahead (S1.trans S3)).trans ((gR.or (Y:=fun y=>y=d)).wide fun y z=>z.imp id .inl))
def yg5 (Q:List Pc) (b:Str):(Q.filter fun q=>decide (q.nm≠b)).map Pc.pd=(Q.map Pc.pd).filter fun q=>decide (q.nm≠b):=by
 rw [List.filter_map];rfl
def Sto.drop {H:Hp} {st:Addr} {C:Cf} {P:List Pd} {X:Sx} {Q:VK} {E:XK} (h:Sto K a H st C P X) {b:Str} (hb:nmS b=true) (k1:(∀ q,q∈P->q.nm≠b)->∀ H',yv H H'->E (.ref a.Af) none H') (k2:∀ r,r∈P->r.nm=b->(∃ q,q∈P/\q.bs=some b)->∀ H',yv H H'->E (.ref a.Bb) none H')
  (k3:∀ r,r∈P->r.nm=b->(∀ q,q∈P->q.bs≠some b)->∀ Y H',Sto K a H' st C (P.filter fun q=>decide (q.nm≠b)) Y->Gx X H H' Y->Q .non H'):yh2 K a [.ref st,.str b] H Q E:=by
 obtain ⟨A,v,d,c,M,p,R,G,y,B,D,J,O,U,s,rfl,rfl⟩:=h;have N:=yb2 hb;exists st,A,v,d,c,M,p,R,G,y,B,C.n,C.kd,C.ps,C.mo,C.w,D,J,O,U,.str b,"str",rfl,s,.str _,(fun x e=>by cases e; omega),(fun z=>by rw [show nmV (.str b)=nmS b from rfl,hb] at z; cases z),(fun T e _ k=>?_),(fun r m e i=>?_),fun r m e i F l I o j S H' L g=>?_
 .cases e;refine k1 fun q f=>?_;obtain ⟨u,i,rfl⟩:=cI.mp f;exact k u i
 .cases e;obtain ⟨q,f,e⟩:=i;exact k2 r.pd (cI.mpr ⟨r,m,rfl⟩) rfl ⟨q.pd,cI.mpr ⟨q,f,rfl⟩,e⟩
 .cases e;refine k3 r.pd (cI.mpr ⟨r,m,rfl⟩) rfl (fun q f=>?_) _ H' ⟨A,v,d,F,l,I,o,j,y,B,_,_,[],S,L,yg5 _ _,rfl⟩ (Gx.of g NK.nil fun q f=>.inl (List.mem_filter.mp f).1);obtain ⟨u,t,rfl⟩:=cI.mp f;exact i u t
def Sto.chainto {H:Hp} {st:Addr} {C:Cf} {P:List Pd} {X:Sx} {Q:VK} {E:XK} (h:Sto K a H st C P X) {x:Option Str} (hL:ToD P x L)
  (k:∀ c dc p cl ct ks M W Y H',Sto K a H' st C P Y->Gx X H H' Y->j8 K a H' c dc p cl ct C.n C.kd C.ps L ks M W->M <= 660000->Q (.ref c) H'):ġ K a [.ref st,baV x] H Q E:=by
 obtain ⟨l,u,d,c,dc,p,cl,ct,o,r,A,G,ks,U,s,rfl,rfl⟩:=h;have t:=Ā.mp hL;exists st,l,u,d,c,dc,p,cl,ct,o,r,C.n,C.kd,C.ps,C.mo,C.w,A,G,ks,U,x,L,rfl,s,t,fun j e v i f b m H' z g D _=>k j e v i f b _ m _ H' ⟨l,u,d,j,e,v,i,f,o,r,_,_,b,m,z,rfl,rfl⟩ (Gx.of (g.or (Y:=fun y=>y=d)) D fun q F=>.inl F) z.ch ?_;exact yje (w:=C.w) (fun y B=>(t.sz s.pz y B).2) s.wm.2 (To.len s.pz t)
def szD (C:Cf) (ts:List Int) (q:Pd):Nat:=(τ C.n C.kd C.ps (Ù ((q.path++[(q.nm,q.tx)]).map (·.2))) ts).length
def bsF (f:Pd->Nat):List Pd->Option Str->Nat->Option Str
 | [],b,_=>b
 | q :: P,b,m=>if f q < m then bsF f P (some q.nm) (f q) else bsF f P b m
def ě (C:Cf) (P:List Pd) (ts:List Int):Option Str:=bsF (szD C ts) P none (τ C.n C.kd C.ps [] ts).length
#synth Ð ["self","text","signs","best","fewest","name","size"] ["self","text"] ysf
inductive yqi (K:W.Frag) (a:Ads) (vs:List V) (H:Hp) (Q:VK) (E:XK):Prop
 | mk (st:Addr) (C:Cf) (P:List Pd) (X:Sx) (tx:Addr) (ts:List Int) (_:vs=[.ref st,.ref tx]) (_:Sto K a H st C P X) (_:ux H tx ts 1000) (_:(C.mo < ts.length->∀ H',yv H H'->E (.ref a.A9) none H')) (_:(ts.length <= C.mo->∀ Y H',Sto K a H' st C P Y->Gx X H H' Y->Q (baV (ě C P ts)) H'))
def ĉ:vk P w K mg Γ (CXe P w) 13 a.M6 a.M7 ["self","text"] (yqi K a):=by
 exists T.B6.F.okE,Ð,N;obtain ⟨S,C,P,X,tx,f,rfl,hS,n,kL,k⟩:=h;have ae:=hS.cf;have ag:=hS.z;refine yh (yo (i:=2) Ð.nd rfl (Or.inl rfl) (xr (yfj T) N.m T.Es y7 (pa1 (pv 1)))) ?_;refine yh (yt (vg (pv 0) T.A3 T.Dq.m (yn3 T) N.m T.Dq.B .nil y7 (pa1 (pv 2)))) ?_;refine yh (yo (i:=3) Ð.nd rfl (Or.inl rfl) ub) ?_;refine yh (yo (i:=4) Ð.nd rfl (Or.inl rfl) (xf (vg (pv 0) T.A3 T.Co.m (yir T) N.m T.Co.B .nil y7 (pa1 ub)) T.Aj T.Do.m (yod T) N.m T.Do.B .nil vx (pa1 (pv 2)))) ?_;refine yh (PS.nox (ur PassesOwn.never rfl (wv (vo (pv 0) T.A3 T.Dp.m (yoy T) N.m T.Dp.B .nil vx)) (wl (i:=5) Ð.nd rfl (Or.inl rfl)) (ye (yo (i:=6) Ð.nd rfl (Or.inl rfl) (xf (vg (pv 0) T.A3 T.Co.m (yir T) N.m T.Co.B .nil vh (pa1 (pv 5))) T.Aj T.Do.m (yod T) N.m T.Do.B .nil vx (pa1 (pv 2)))) (yc (wd (yu ĝ (pv 6) (pv 4) (yz _)) (ye (yo (i:=3) Ð.nd rfl (Or.inl rfl) (pv 5)) (yc (yo (i:=4) Ð.nd rfl (Or.inl rfl) (pv 6)))) y6))))) ?_;exists 2,5,yc (yp (pv 3));exists .ref tx,_,rfl,.lst n.l,.inr ⟨f.map V.int,η n.l n.s (by have:=n.z; omega),fun O H1 a2 v S1=>?_⟩;have G:=hS.same S1
 obtain ⟨ds,vl,vp,vc,a1⟩:∃ ds vl vp vc,H1 S=some (.ins a.A0 ds (xc vl (.int C.mo) vp vc)):=by
  obtain ⟨ds,ll,d,c,dc,p,cl,ct,lk,tp,Qs,L0,ks,U,s,_,_⟩:=G;exists _,_,_,_,s.me
 have a4:Kf H1 X O (.lst (f.map V.int)):=Kf.new hS a2 v;rfl';exists S,ds,O,_,_,_,C.mo,_,rfl,a1,v,fun I=>?_,fun z=>kL (by rw [cA] at z; omega) _ S1;have I:f.length <= C.mo:=by rw [cA] at I; omega
 have k:=k I;rfl';refine G.chainto (x:=none) (L:=[]) rfl fun c dc p cl ct ks M W Y H2 D g2 o hM=>?_;have e:=a4.go G g2;have a5:=o.me;rfl';exists c,dc,p,cl,ct,_,_,_,_,ks,M,W,O,f,rfl,o,⟨e.1,n.s,by omega⟩,by omega,fun H3 t=>?_
 have j:=D.same t;have a0:=e.same t;have g3:=(g2.same t).ahead S1;obtain ⟨ap,al,ao,af,ai,ac⟩:=j.ins;rfl';refine j.names fun l H4 a9 a3 S4=>?_;have a6:Kf H4 Y l (.lst (P.map fun q=>V.str q.nm)):=Kf.new j a9 a3;exists l,rfl,⟨_,SqL.of a3⟩,zf (K:=K) (a:=l) (xs:=P.map fun q=>V.str q.nm) (fun i σ2 F=>∃ (b:Option Str) (m:Nat) (v5 v6:Option V) (Z:Sx),σ2=[some (.ref S),some (.ref tx),some (.ref O),some (baV b),some (.int (m:Nat)),v5,v6]/\Sto K a F S C P Z/\Gx X H F Z/\Kf F Z O (.lst (f.map V.int))/\Kf F Z l (.lst (P.map fun q=>V.str q.nm))/\bsF (szD C f) (P.drop i) b m=ě C P f) ?_ ?_ ?_ ?_
 .exists none,_,none,none,Y,rfl,j.same S4,g3.same S4,a0.same S4,a6,rfl
 .rintro i σ2 F _ ⟨b,m,v5,v6,Z,rfl,J,g,y,u,r⟩;exact SqL.of u.1
 .rintro i z σ2 F hz ⟨b,m,v5,v6,Z,rfl,J,g,y,u,r⟩;rw [cG] at hz;obtain ⟨q,hq,rfl⟩:=ed.mp hz;have a7:i < P.length:=(cO.mp hq).1;have a8:=cR hq;rw [d8 a7,(cO.mp hq).2] at r;obtain ⟨ak,aj,an,ad,am,ab⟩:=J.ins;rfl';refine J.chainto (x:=some q.nm) (L:=q.path++[(q.nm,q.tx)]) ⟨q,a8,rfl,rfl⟩ fun c dc p cl ct ks M W Y2 F2 D g2 o hM=>?_;have e:=y.go J g2;have R:=u.go J g2;have a5:=o.me;rfl';exists c,dc,p,cl,ct,_,_,_,_,ks,M,W,O,f,rfl,o,⟨e.1,n.s,by omega⟩,by omega,fun F3 t=>?_
  have j:=D.same t;have g3:=(g.trans g2).same t;rfl';have r:(if szD C f q < m then bsF (szD C f) (P.drop (i+1)) (some q.nm) (szD C f q) else bsF (szD C f) (P.drop (i+1)) b m)=ě C P f:=r;by_cases hlt:szD C f q < m
  .rw [if_pos hlt] at r;refine uu (fun _=>?_) (fun z=>absurd (show ((szD C f q:Nat):Int) < (m:Int) by omega) z);rfl';exists some q.nm,szD C f q,_,_,Y2,rfl,j,g3,e.same t,R.same t,r
  .rw [if_neg hlt] at r;refine uu (fun z=>absurd (show ((szD C f q:Nat):Int) < (m:Int) from z) (by omega)) (fun _=>?_);exists b,m,_,_,Y2,rfl,j,g3,e.same t,R.same t,r
 .rintro σ2 F ⟨b,m,v5,v6,Z,rfl,J,g,y,u,r⟩;rw [cA,List.drop_length] at r;rfl';rw [show b=ě C P f from r];exact k Z F J g
#synth yjk ["_law_script","_law_k","_law_cell"] ["_law_script","_law_k"] yr8
inductive yvk (K:W.Frag) (vs:List V) (H:Hp) (Q:VK) (E':XK):Prop
 | mk (l:Addr) (ns:List Int) (j:Nat) (_:vs=[.ref l,.int j]) (_:SqL K H l (ns.map V.int)) (_:j <= 1000) (_:∀ n:Int,0 <= n->n < 2147483647->Q (.int n) H)
def yaj:vk P w K mg Γ CX0 1 a.M8 a.M9 ["_law_script","_law_k"] (yvk K):=by
 exists T.D3.F.ok,yjk,q;obtain ⟨l,e,j,rfl,f,u,k⟩:=h;exists 2,1,ye (yo (i:=2) yjk.nd rfl (Or.inl rfl) yg) (ye (jr (wd (yu ĝ (pv 1) (pcB yr T.Ac (pa1 (pv 0))) (yz _)) (yc (yo (i:=2) yjk.nd rfl (Or.inl rfl) (yn wa (ud xv (pv 0) (pv 1) (fun _ _=>rfl)) yg))) y6)) (yc (yp (yn wa (yn wu (yn vj (yn vj (yn vj (yn wu (pv 2) (pv 2)) (yn wu yg (pv 2))) (yn wu (yn wu yg (pv 1)) (pv 1))) yg) yg) yg))));refine yju (fun σ' G=>H=G/\∃ c:Int,σ'=[some (.ref l),some (.int j),some (.int c)]/\0 <= c/\c < 2147483629) ?_ ?_
 .rfl';refine ue f ?_;rw [cA];rfl';refine uu (fun m=>?_) (fun m=>?_)
  .have b:j < e.length:=by omega
   rfl';refine Ú (v:=V.int e[j]) f (xa (by rw [cG,cC b]; rfl)) ?_;rfl';exists rfl,_,rfl,dF _ (by decide),dv _ (by decide)
  .rfl';exists rfl,0,rfl,by decide,by decide
 .rintro σ' G ⟨rfl,c,rfl,t,o⟩;have r:(0:Int) <= (j:Int)/\(j:Int) <= 1000:=by omega
  have p:(0:Int) <= 5 * (j:Int)/\5 * (j:Int) <= 5000:=by omega
  rfl';exact k _ (dF _ (by decide)) (dv _ (by decide))
#synth Õ ["_law_cell","_law_most","_law_many","_law_looks_here","_law_k","_law_marks","_law_places"] ["_law_cell","_law_most"] ys6
inductive yky  (vs:List V) (H:Hp) (Q:VK) (E':XK):Prop
 | mk (c:Int) (m:Nat) (_:vs=[.int c,.int m]) (_:0 <= c) (_:c < 2147483647) (_:1 <= m) (_:m <= 6) (_:∀ r (n:Nat) (lk:Nat->Addr) (kd:Nat->Fin 3) (tp:Nat->Addr) (ps:Nat->List Int) H',H r=none->H' r=some (.lst (refs lk n))->1 <= n->n <= 6->xu H' n lk kd tp ps->yv H H'->Q (.ref r) H')
def yye:vk P w K mg Γ CX0 1 a.Ma a.Mb ["_law_cell","_law_most"] yky:=by
 exists T.Na.F.ok,Õ,hr;obtain ⟨c,m,rfl,Y,W,m1,m6,k⟩:=h;have mp:(0:Int) < (m:Int):=by omega
 exists 2,5,ye (yo (i:=2) Õ.nd rfl (Or.inl rfl) (yn vj yg (yn wa (pv 0) (pv 1)))) (ye (yo (i:=3) Õ.nd rfl (Or.inl rfl) (xh ua)) (ye (ur PassesOwn.never rfl (zw rfl T.Bg (pa1 (pv 2))) (wl (i:=4) Õ.nd rfl (Or.inl rfl)) (ye (yo (i:=0) Õ.nd rfl (Or.inl rfl) (yn wa (yn vj (yn vj (yn wu (pv 0) yg) (yn wu yg (pv 4))) yg) yg)) (ye (yo (i:=5) Õ.nd rfl (Or.inr rfl) (yn ynl (yn wa (yn y0 (pv 0) yg) yg) (yn wa (yn y0 (pv 0) yg) yg))) (ye (jr (wd (yu xz (yn wa (yn y0 (pv 0) yg) yg) yg (yz _)) (yc (yo (i:=5) Õ.nd rfl (Or.inr rfl) (yn wa (yn y0 (pv 0) yg) yg))) y6)) (ye (yli (i:=6) (js:=[5]) (ys:=["_law_marks"]) Õ.nd rfl rfl rfl (ygv rfl T.Bg (pac yg (pa1 yg))) (fun C s2 H2 fp=>(yu xz (yn ynl (yn ynf (pv 1) (yn u7 (pv 0) yg)) yg) yg (yz _))) (fun C s2 H2 fp=>(pv 0)) rfl rfl (hyc:=(all_cons rfl yx)) (hrel:=(all_cons rfl yx))) (yc (yt (Č PySem.F.plainAttrs_list PySem.F.slot_list_append PySem.F.type_list_append xg (pv 3) (pa1 (yak (pac (ud xv (xh (pac wy (pac wy (pa1 wy)))) (yn wa (pv 0) yg) (fun _ _=>rfl)) (pa1 (pcT γ T.Ci (pa1 (xx Ç (pv 6) zl (zn yg)))))))))))))))) (yc (yp (pv 3)))))
 obtain ⟨n,hn,n1,n6⟩:∃ n:Nat,1+c % (m:Int)=(n:Int)/\1 <= n/\n <= 6:=by
  have h0:=dF c (show (m:Int)≠0 by omega);have h1:=dv c mp;exists (1+c % (m:Int)).toNat,by omega,by omega,by omega
 rw [hn];exists by walk_at "len",fun L hL0=>?_
 exists hL0,H1,S1,hL1;rfl';refine ⟨_,rfl,by omega,by omega,δ (n:=n) (fun i σ2 G=>∃ (c:Int) (v1 v2 X:Option V) (r:Nat->Addr) (B:Nat->Fin 3) (R:Nat->Addr) (U:Nat->List Int),σ2=[some (.int c),some (.int m),some (.int n),some (.ref L),v1,v2,X]/\0 <= c/\c < 2147483647/\G L=some (.lst (refs r i))/\xu G i r B R U/\yv H G)
  ⟨c,_,_,_,fun _=>0,fun _=>0,fun _=>0,fun _=>[],rfl,Y,W,hL1,fun j l=>absurd l (cY j),S1⟩ ?_ ?_⟩
 .clear hn Y W c;rintro i σ2 G hi ⟨c,v1,v2,X,r,B,R,U,rfl,Y,W,gL,gR,SG⟩;rfl';have d0:0 <= (c * 48271+11 * (0+(i:Int))+7) % 2147483647:=dF _ (by decide);have d1:(c * 48271+11 * (0+(i:Int))+7) % 2147483647 < 2147483647:=dv _ (by decide);generalize (c * 48271+11 * (0+(i:Int))+7) % 2147483647=d at d0 d1 ⊢;refine yju (fun σ' v=>G=v/\∃ mk:Int,σ'=[some (.int d),some (.int m),some (.int n),some (.ref L),some (.int (0+(i:Int))),some (.int mk),X]) ?_ ?_
  .rfl';refine uu (fun Z=>?_) (fun Z=>?_)
   .rfl';exists rfl,_,rfl
   .rfl';exists rfl,_,rfl
  rintro σ' v ⟨rfl,mk,rfl⟩;rfl';refine ⟨1,9,rfl,⟨by decide,by decide,by decide,by decide⟩,fun D hD=>?_⟩
  refine ybg (lo:=1) (n:=8) (fun j v=>∃ f:List Int,v D=some (.lst (f.map V.int))/\(∀ p∈f,1 <= p/\p <= (j:Int))/\f.Pairwise (· < ·)/\f.length <= j/\yv G v) ⟨[],ya,fun _ z=>(nomatch z),List.Pairwise.nil,cE _,y8 hD⟩ (fun j v l z=>?_) (fun G3 z=>?_)
  .obtain ⟨f,h1,h2,h3,h4,S⟩:=z;rfl';refine i_I (by omega) ?_;rfl';refine uu (fun Z=>?_) (fun Z=>?_)
   .rfl';refine xm (n:=8) h1 (vd (by rw [cA]; omega)) l ?_;exists f++[1+(j:Int)],by rw [ya,cM]; rfl,fun p O=>?_,?_,by rw [cF]; show _+1 <= _; omega,fun b o e=>yf (yb e hD) (S b o e)
    .rcases c7.mp O with h | h
     .have:=h2 p h;omega
     .rw [cQ.mp h];omega
    .refine List.pairwise_append.mpr ⟨h3,List.pairwise_singleton _ _,fun x hx y hy=>?_⟩;rw [cQ.mp hy];have:=h2 x hx;omega
   .exact ų (n:=8) l ⟨f,h1,fun p O=>by have:=h2 p O; omega,h3,by omega,S⟩
  obtain ⟨f,a1,O,hw,_,S3⟩:=z;have N:=S3 _ _ gL;rfl';refine Ì N ?_;rfl';exists by walk_at "len",fun q2 hq2=>?_
  exists hq2,G4,T4,hq4;rfl';obtain ⟨kk,hk⟩:=ypp d;refine Ú (SqL.of hq4) hk ?_;rfl';refine yfm (SqL.of (T4 _ _ a1)) fun u hu=>?_;have ec:ycl (f.map V.int) none (some 4)=(f.take 4).map V.int:=by rw [List.map_take]; exact ß 4
  rw [ec];exists hu,G5,T5,hu5;exists u,_,rfl,.inl ⟨SqL.of hu5,fun J htp=>?_⟩;exists htp,G6,T6,htp6;rfl';exists by walk_at "len",fun t ht=>?_
  exists ht,G7,T7,ht7;have M:=T4.trans (T5.trans (T6.trans T7));have q:=M _ _ N;have I:=S3.trans M;rfl';refine xy q (vd (by rw [vy]; omega)) ?_;have g7:LkG G7 (.ref t) kk J (f.take 4):=⟨t,rfl,ht7,T7 _ _ htp6,ygl (by rw [cX]; omega) (fun p h=>O p (dz h)) hw.take⟩;rfl';exists d,_,_,_,upN r i t,upN B i kk,upN R i J,upN U i (f.take 4),rfl,d0,d1,?_,fun j l=>?_,fun b o e=>yf (yb e hL0) (I _ _ (SG b o e))
  .rw [ya,zv,w9]
   congr 3
   exact uz fun j l=>(wx l).symm
  .by_cases z:j=i
   .subst z;rw [w9,w9,w9,w9];exact g7.upd q
   .have g:j < i:=by omega
    rw [wx g,wx g,wx g,wx g];exact ((gR j g).same I).upd q
 .rintro σ2 G ⟨c,v1,v2,X,r,B,R,U,rfl,Y,W,gL,gR,SG⟩;rfl';exact k L n r B R U G hL0 gL n1 n6 gR SG
def yte (ts:List Int):Prop:=ts.length=5/\ts.Nodup/\∀ t,t∈ts->0 <= t/\t < 5
def ypz {mu e:Int} (h1:1 <= mu) (h3:mu <= 3):yte ((List.range 5).map fun i:Nat=>((0+(i:Int)) * mu+e) % 5):=by
 exists rfl,?_,fun t c=>?_
 .refine List.pairwise_map.mpr (List.nodup_range.imp_of_mem fun {a b} d g j=>?_);have f:=dI.mp d;have h:=dI.mp g;obtain rfl | rfl | rfl:mu=1\/mu=2\/mu=3:=by omega
  .omega
  .omega
  .omega
 .obtain ⟨i,_,rfl⟩:=cI.mp c;omega
def yf8:yte ((List.range 5).map fun i=>((i:Nat):Int)):=by
 exists rfl,?_,fun t c=>?_
 .exact List.pairwise_map.mpr (List.nodup_range.imp fun {a b} e=>by omega)
 .obtain ⟨i,d,rfl⟩:=cI.mp c;have:=dI.mp d;omega
def gI (f:Int->Str):V->V
 | .int t=>.str (f t)
 | v=>v
def ym9 (f:Int->Str) (ts:List Int):(ts.map V.int).map (gI f)=(ts.map f).map V.str:=by
 rw [df,df];rfl
def nmR (c k:Nat):Str:=⟨(List.replicate k c).toArray⟩
def yxm {z:Str} {c k:Nat} (h:z.cps.toList=(List.replicate k [c]).flatten):z=nmR c k:=by
 have e:(List.replicate k [c]).flatten=List.replicate k c:=by
  clear h
  induction k with
  | zero=>rfl
  | succ k ih=>rw [dB,List.flatten_cons,dB,List.singleton_append,ih]
 rw [e] at h
 cases z with | mk cps =>
 unfold nmR
 congr 1
 exact Array.toList_inj.mp (by simpa using h)
def ifS {tc:TT} {ts te:TS} {D:Ö} {σ:St} {H:Hp} (h:∀ Qb:Bool->Hp->Prop,(∀ H',yv H H'->Qb true H')->(∀ H',yv H H'->Qb false H')->tc σ H Qb) (hT:∀ H',yv H H'->ts D σ H') (hF:∀ H',yv H H'->te D σ H'):va1 tc ts te D σ H :=
 h _ (fun H' S=>by show (if true=true then _ else _); rw [if_pos rfl]; exact hT H' S) (fun H' S=>by show (if false=true then _ else _); rw [if_neg (by decide)]; exact hF H' S)
#synth jq ["_law_cell","_law_small","_law_odd","_law_turn","_law_base","_law_k","_law_at"] ["_law_cell"] ytx
inductive ygn (K:W.Frag) (vs:List V) (H:Hp) (Q:VK) (E':XK):Prop
 | mk (c:Int) (_:vs=[.int c]) (_:0 <= c) (_:c < 2147483647) (_:∀ (r:Addr) (ns:List Str) (H':Hp),H r=none->H' r=some (.lst (ns.map V.str))->yv H H'->ns.length=5->ns.Nodup->(∀ x,x∈ns->nmS x=true/\PyData.strOk x=true)->Q (.ref r) H')
def yzr:vk P w K mg Γ CX0 1 a.Mc a.Me ["_law_cell"] (ygn K):=by
 exists T.Nd.F.ok,jq,hr;obtain ⟨c,rfl,c0,c1,k⟩:=h;refine yh (yo (i:=1) jq.nd rfl (Or.inr rfl) wy) ?_;refine yh (yo (i:=2) jq.nd rfl (Or.inr rfl) (yn wa (pv 0) yg)) ?_;refine yh (yo (i:=0) jq.nd rfl (Or.inr rfl) (yn y0 (pv 0) yg)) ?_;refine yh (yct (i:=3) (js:=[0]) (ys:=["_law_cell"]) jq.nd rfl rfl rfl (zw rfl T.Bg (pa1 yg)) (fun C s2 H2 fp=>(yn wa (yn vj (yn wu (pv 0) (yn vj yg (yn wa (yn y0 (pv 1) yg) yg))) (yn y0 (pv 1) yg)) yg)) rfl rfl (hyc:=(all_cons rfl yx)) (hrel:=(all_cons rfl yx))) ?_;refine yh (jr (wd (PW.pt (č (yu ĝ (pcB ybk T.Ac (pa1 (pcT (yfy rfl) T.Ol (pa1 (pv 3))))) yg (yz _)) (Ĉ (yu xz (yn wa (yn y0 (pv 0) yg) yg) yg (yz _))))) (yc (yo (i:=3) jq.nd rfl (Or.inl rfl) (pcT (yfd rfl) T.Ad (pa1 (pcT yl3 T.Bg (pa1 yg)))))) y6)) ?_;refine yh (wd (yu xz (yn wa (pv 0) yg) yg (yz _)) (yc (yp (wn (js:=[1,2,0]) (ys:=["_law_small","_law_odd","_law_cell"]) rfl (wv (pv 3)) (fun C s2 H2 fp=>(yn yez (jw (pv 1) (pv 2) (fun _ _=>rfl)) (yn vj (yn vj (pv 0) yg) (yn wa (yn y0 (pv 3) yg) yg)))) rfl rfl (hyc:=(all_cons rfl (all_cons rfl (all_cons rfl yx)))) (hrel:=(all_cons rfl (all_cons rfl (all_cons rfl yx))))))) y6) ?_;refine yh (yo (i:=4) jq.nd rfl (Or.inr rfl) wy) ?_;refine yh (ur PassesOwn.never rfl (zw rfl T.Bg (pa1 (yn wa (yn y0 (pv 0) yg) yg))) (wl (i:=5) jq.nd rfl (Or.inl rfl)) (yc (yo (i:=4) jq.nd rfl (Or.inr rfl) (yn Â (pv 4) (jw (pv 1) (yn wa (yn y0 (yn wu (pv 0) (yn vj (pv 5) yg)) yg) yg) (fun _ _=>rfl)))))) ?_;refine yh (yo (i:=6) jq.nd rfl (Or.inr rfl) (yn wa (yn y0 (pv 0) yg) (yn vj (pcB Ï T.Ac (pa1 (pv 4))) yg))) ?_;exists 1,6,yc (yp (wn (js:=[1,2,4,6]) (ys:=["_law_small","_law_odd","_law_base","_law_at"]) rfl (wv (pv 3)) (fun C s2 H2 fp=>(yn Â (yn Â (xx (r:=vct) ynx (pv 3) zl (zn (pv 4))) (jw (pv 1) (yn vj (pv 2) (pv 0)) (fun _ _=>rfl))) (xx (r:=vct) ynx (pv 3) (zn (pv 4)) zl))) rfl rfl (hyc:=(all_cons rfl (all_cons rfl (all_cons rfl (all_cons rfl yx))))) (hrel:=(all_cons rfl (all_cons rfl (all_cons rfl (all_cons rfl yx)))))));obtain ⟨o,ho,a3⟩:∃ o:Nat,c % 22=(o:Int)/\o <= 21:=⟨(c % 22).toNat,by omega,by omega⟩;obtain ⟨d,R,a6,a7⟩:∃ d:Int,c / 22=d/\0 <= d/\d < 2147483647:=⟨c / 22,rfl,by omega,by omega⟩;rw [ho,R];clear c0 c1 ho R c;exists _,rfl,by decide,by decide,fun D f=>?_
 refine Ş (n:=5) (fun i=>V.int (((0+(i:Int)) * (1+d / 3 % 3)+d / 9) % 5)) f (fun i G hi S Y=>?_) (fun G S Y=>?_)
 .rfl';exact Mp.doneR f (vd (by decide)) hi S Y rfl
 have I:G D=some (.lst (((List.range 5).map fun i:Nat=>((0+(i:Int)) * (1+d / 3 % 3)+d / 9) % 5).map V.int)):=by rw [Y,df]; rfl
 have g:=ypz (mu:=1+d / 3 % 3) (e:=d / 9) (by omega) (by omega);generalize ((List.range 5).map fun i:Nat=>((0+(i:Int)) * (1+d / 3 % 3)+d / 9) % 5)=N at I g;rfl';exists fun σ2 F=>∃ (O:Addr) (N:List Int),σ2=[some (.int d),some (.str smS),some (.int o),some (.ref O),none,none,none]/\F O=some (.lst (N.map V.int))/\yte N/\yv H F,?_,?_
 .refine ifS (fun Qb qT qF=>?_) (fun H1 S1=>?_) (fun H1 S1=>?_)
  .rfl';exists D,N,rfl,SqL.of I,by rw [g.1]; decide,fun q hq=>?_
   exists hq,G1,S1,e1;rfl';exists q,_,rfl,e1,?_;rfl';refine uu (fun J=>qT _ S1) (fun J=>?_);rfl';by_cases Z:d / 16 % 5=0
   .rw [cK Z];exact qT _ S1
   .rw [cP Z];exact qF _ S1
  .rfl';refine ⟨5,rfl,by decide,fun q hq=>?_⟩;exists hq,G1,S2,e1;rfl';exists q,5,rfl,e1,by decide,fun l hl=>?_
   exists hl,G2,S3,e2;rfl';exists l,(List.range 5).map fun i=>((i:Nat):Int),rfl,by rw [e2,df]; rfl,yf8,S.trans (S1.trans (S2.trans S3))
  .exists D,N,rfl,S1 _ _ I,g,S.trans S1
 clear Y I g f S G N D;rintro σ2 G ⟨O,N,rfl,u,⟨t5,tn,L⟩,S⟩;rfl';refine uu (fun J=>?_) (fun J=>?_)
 .rfl';exists O,rfl,⟨_,SqL.of u⟩,fun D f=>?_;refine zb (gI fun t=>nmR (97+o) (t+1+d / 4 % 3).toNat) (SqL.of u) f (fun i y F U M p=>?_) (fun F M p=>?_)
  .rw [cG] at U;obtain ⟨t,m,rfl⟩:=ed.mp U;have a0:=L t (cR m);rfl';exists smS,_,_,rfl,rfl,by omega,by omega,by rw [yij]; omega,ys3 (by omega) (by omega),?_
   rw [show ((o:Int)).toNat=o from rfl];rfl';exists _,_,rfl,rfl,by omega,by omega,by show 1 <= _; decide,fun z X=>?_
   obtain rfl:=yxm X;exact Mp.done f (vd (by rw [cA]; omega)) (by rw [cG,m]; rfl) M p rfl
  .rw [ym9] at p;refine k D _ F (S.free f) p (S.trans M) (by rw [cA,t5]) ?_ fun x hx=>?_
   .refine List.pairwise_map.mpr (tn.imp_of_mem fun {a b} ha hb ne e=>ne ?_);have h2:=L a ha;have Z:=L b hb;have e2:=congrArg (fun x:Str=>x.cps.toList.length) e;simp [nmR] at e2;omega
   .obtain ⟨t,m,rfl⟩:=cI.mp hx;have h2:=L t m;refine vab (fun c hc=>?_) ?_ ?_
    .have e:c∈List.replicate (t+1+d / 4 % 3).toNat (97+o):=hc;have:=d9 e;omega
    .simp [nmR]; omega
    .simp [nmR]; omega
 .obtain ⟨l7,a1,hl⟩:∃ l:Nat,d / 4 % 8=(l:Int)/\l <= 7:=⟨(d / 4 % 8).toNat,by omega,by omega⟩;rfl';rw [a1];refine ⟨_,rfl,by omega,by omega,δ (n:=l7) (fun i σ2 F=>∃ (z:Str) (v:Option V),σ2=[some (.int d),some (.str smS),some (.int o),some (.ref O),some (.str z),v,none]/\ycj z.cps.toList/\z.length=i/\G=F)
   ⟨_,_,rfl,(fun c hc=>by cases (show c∈[] from hc)),rfl,rfl⟩ ?_ ?_⟩
  .rintro i σ2 F hi ⟨z,v,rfl,X,B,rfl⟩;rfl';have h0:=dF (d * (0+(i:Int)+3) / 7) (show (26:Int)≠0 by decide);have J:=dv (d * (0+(i:Int)+3) / 7) (show (0:Int) < 26 by decide);generalize d * (0+(i:Int)+3) / 7 % 26=q at h0 J ⊢;exists smS,q,97+q.toNat,rfl,rfl,h0,by omega,by rw [yij]; exact J,ys3 h0 J,?_
   exists z,_,rfl,rfl,?_,?_
   .rw [B,sizeLine_eq];show i+1 <= _;omega
   .rfl';exists _,_,rfl,?_,?_,rfl
    .rw [Ă];exact X.app (.one (by omega))
    .rw [ā,Ă,cF,<- ā,B];rfl
  .rintro σ2 F ⟨z,v,rfl,X,B,rfl⟩;rfl';exists z,rfl,by rw [B,sizeLine_eq]; omega,?_
   rfl'
   obtain ⟨j,hj,W⟩:∃ j:Nat,d / 32 % ((z.length:Int)+1)=(j:Int)/\j <= z.length:=by
    have h0:=dF (d / 32) (show ((z.length:Int)+1)≠0 by omega);have J:=dv (d / 32) (show 0 < ((z.length:Int)+1) by omega);exists (d / 32 % ((z.length:Int)+1)).toNat,by omega,by omega
   rw [hj];exists O,rfl,⟨_,SqL.of u⟩,fun D f=>?_;refine zb (gI fun t=>yud z j (97+(o+t.toNat))) (SqL.of u) f (fun i y F U M p=>?_) (fun F M p=>?_)
   .rw [cG] at U;obtain ⟨t,m,rfl⟩:=ed.mp U;have a0:=L t (cR m);rfl';have a8:=Txt.slice_le z none (some (j:Int));have a4:=Txt.slice_le z (some (j:Int)) none;exists z,rfl,by rw [sizeLine_eq]; omega,?_
    rfl';have ei:((o:Int)+t).toNat=o+t.toNat:=by omega
    exists smS,_,_,rfl,rfl,by omega,by omega,by rw [yij]; omega,ys3 (by omega) (by omega),?_
    rw [ei];exists _,_,rfl,rfl,by rw [sizeLine_eq]; show _+1 <= _; omega,?_
    rfl';exists z,rfl,by rw [sizeLine_eq]; omega,?_
    exists _,_,rfl,rfl,?_,?_
    .rw [sizeLine_eq,ā,Ă,cF,<- ā];show _+1+_ <= _;omega
    .exact Mp.done f (vd (by rw [cA]; omega)) (by rw [cG,m]; rfl) M p rfl
   .rw [ym9] at p;refine k D _ F (S.free f) p (S.trans M) (by rw [cA,t5]) ?_ fun x hx=>?_
    .refine List.pairwise_map.mpr (tn.imp_of_mem fun {a b} ha hb ne e=>ne ?_);have h2:=L a ha;have Z:=L b hb;have:=yk3 W e;omega
    .obtain ⟨t,m,rfl⟩:=cI.mp hx;have h2:=L t m;exact ypk W X (by omega) (by omega)
#synth yja ["_law_model_here","_law_base","_law_learned"] ["_law_model_here","_law_base"] ytv
inductive yfw  (vs:List V) (H:Hp) (Q:VK) (E':XK):Prop
 | mk (md:Addr) (P:List Pd) (X:Sx) (tu tx:Str->Addr) (x:Option Str) (L:List (Str × List Int)) (_:vs=[.ref md,baV x]) (_:Mdl H X md P tu tx) (_:PdW P) (_:P.length <= 1000) (_:ToD P x L) (_:∀ l H',H l=none->H' l=some (.lst (lnV tx L))->yv H H'->Q (.ref l) H')
def yya:vk P w K mg Γ CX0 1 a.Mf a.Mg ["_law_model_here","_law_base"] yfw:=by
 exists T.Nf.F.ok,yja,W;obtain ⟨C,P,X,tu,c,x,L,rfl,M,N,Y,U,k⟩:=h;exists 2,1,ye (yo (i:=2) yja.nd rfl (Or.inl rfl) (xh ua)) (ye (zj PassesOwn.never (yu É (pv 1) ub (yz _)) (ye (yt (Č PySem.F.plainAttrs_list PySem.F.slot_list_insert PySem.F.type_list_insert yg6 (pv 2) (pac yg (pa1 (ud z8 (x8 (za W) (pv 0) (pv 1) (fun _ _=>rfl)) yg (fun _ _=>rfl)))))) (yc (yo (i:=1) yja.nd rfl (Or.inl rfl) (ud z8 (x8 (za W) (pv 0) (pv 1) (fun _ _=>rfl)) yg (fun _ _=>rfl)))))) (yc (yp (pv 2))));exists by walk_at "len",fun l p=>?_
 rfl'
 refine ⟨fun m σ' G=>∃ (y:Option Str) (R S:List (Str × List Int)),σ'=[some (.ref C),some (baV y),some (.ref l)]/\ToD P y R/\R++S=L/\G l=some (.lst (lnV c S))/\yv H G/\m=R.length,
  ⟨_,x,L,[],rfl,U,d6 L,ya,y8 p,rfl⟩,?_⟩
 rintro m σ2 G ⟨y,R,S,rfl,O,f,g,I,rfl⟩;have B:=M.same I;have D:=U.len N;have a0:S.length <= 1000:=by rw [<- f,cF] at D; omega
 rfl'
 cases y with
 | none =>
  refine yj3 (fun _=>?_) (fun z=>absurd rfl z);have e:S=L:=by rw [show R=[] from O] at f; exact f
  rfl';rw [e] at g;exact k l _ p g I
 | some b =>
  refine yj3 (fun z=>nomatch z) (fun _=>?_)
  obtain ⟨r,d,rfl,u⟩:=O;exists _,fun σ' H' z=>z,?_;rfl';refine Ì g ?_;rfl';exists C,_,rfl,B.get d,?_;rfl';refine ś (SqT.of (B.t r d).1) (xa (j:=0) rfl) ?_;rfl';exists l,_,_,0,rfl,rfl,g,cV _,by unfold lnV; rw [cA]; omega,?_
  have q:yv H (upd G l (.lst ((lnV c S).take 0++V.ref (c r.nm) :: (lnV c S).drop 0))):=fun b o e=>yf (yb e p) (I _ _ e);have v:upd G l (.lst ((lnV c S).take 0++V.ref (c r.nm) :: (lnV c S).drop 0)) l=some (.lst (lnV c ((r.nm,r.tx) :: S))):=ya;generalize upd G l (.lst ((lnV c S).take 0++V.ref (c r.nm) :: (lnV c S).drop 0))=G' at q v ⊢;have n:=M.same q;rfl';exists C,_,rfl,n.get d,?_;rfl';refine ś (SqT.of (n.t r d).1) (xa (j:=1) rfl) ?_;rfl';exists r.path.length,?_,r.bs,r.path,(r.nm,r.tx) :: S,rfl,N.wf r d,?_,v,q,rfl
  .rw [u,cF,dE];omega
  .rw [<- f,u,du];rfl
#synth yap ["_law_cells","_law_size","_law_some","_law_text","_law_k","_law_at","_law_step"] ["_law_cells","_law_size","_law_some"] yuc
inductive yhb (K:W.Frag) (vs:List V) (H:Hp) (Q:VK) (E':XK):Prop
 | mk (l so:Addr) (ns ss:List Int) (z:Nat) (_:vs=[.ref l,.int z,.ref so]) (_:SqL K H l (ns.map V.int)) (_:ns.length <= 63) (_:H so=some (.lst (ss.map V.int))) (_:1 <= ss.length) (_:ss.length <= 4) (_:Sgs ss) (_:z <= 3) (_:∀ r (ts:List Int) H',H r=none->H' r=some (.lst (ts.map V.int))->Sgs ts->ts.length=z->yv H H'->Q (.ref r) H')
def ymo:vk P w K mg Γ CX0 1 a.Mh a.Mi ["_law_cells","_law_size","_law_some"] (yhb K):=by
 exists T.Gv.F.ok,yap,hr;obtain ⟨l,so,J,c,z,rfl,hl,a1,L,s1,s4,M,hz,k⟩:=h;have D:=M c[0] (dw s1);have O:atI (c.map V.int) 0=some (V.int c[0]):=xa (j:=0) (by rw [cG,cC s1]; rfl);generalize c[0]=s0 at D O;refine yh (yo (i:=3) yap.nd rfl (Or.inl rfl) (yn yiy (xh (pa1 (ud xv (pv 2) yg (fun _ _=>rfl)))) (pv 1))) ?_;refine yh (ur PassesOwn.never rfl (zw rfl T.Bg (pa1 (pcB yr T.Ac (pa1 (pv 0))))) (wl (i:=4) yap.nd rfl (Or.inl rfl)) (yc (wd (yu ycf (pv 1) yg (yz _)) (ye (yo (i:=5) yap.nd rfl (Or.inl rfl) (yn wa (pv 4) (pv 1))) (ye (yo (i:=6) yap.nd rfl (Or.inl rfl) (yn wa (yn y0 (ud xv (pv 0) (pv 4) (fun _ _=>rfl)) yg) (pcB yr T.Ac (pa1 (pv 2))))) (yc (yzk (ud xv (pv 2) (yn wa (yn vj (yn vj (pv 6) (ud xv (pv 3) (pv 5) (fun _ _=>rfl))) (pv 4)) (pcB yr T.Ac (pa1 (pv 2)))) (fun _ _=>rfl)) (yv2 (pv 3) (pv 5) ylu))))) y6))) ?_;exists 3,4,yc (yp (pv 3));refine Ú (SqL.of L) O ?_;rfl';exists by walk_at "len",fun u hu=>?_
 exists hu,H1,S1,hu1;rfl';exists u,z,_,rfl,rfl,hu1,by omega,by omega,Æ (by show 1 * (z:Int).toNat <= 16000000; omega),fun g hg0=>?_
 rw [ø];exists hg0,H2,S2,hg2;have ez:((z:Nat):Int).toNat=z:=by omega
 rw [ez] at hg2;have N:=S1.trans S2;have B:H g=none:=S1.free hg0;rfl';refine ue (N.seq hl) ?_;rw [cA];rfl';exists _,rfl,by omega,by omega,δ (n:=J.length) (fun i σ2 G=>∃ (Z v2 W:Option V) (d:List Int),σ2=[some (.ref l),some (.int z),some (.ref so),some (.ref g),Z,v2,W]/\G g=some (.lst (d.map V.int))/\Sgs d/\d.length=z/\yv H G) ⟨_,_,_,_,rfl,hg2,fun x X=>by rw [d9 X]; exact D,dW,N⟩ ?_ ?_
 .rintro i σ2 G hi ⟨Z,v2,W,d,rfl,m,p,r,C⟩;have e0:(0:Int)+(i:Int)=(i:Int):=Int.zero_add _;rw [e0];rfl';refine uu (fun Y=>?_) (fun _=>?_)
  .have Y:(0:Int) < (z:Int):=Y
   obtain ⟨j,hj,a3⟩:∃ j:Nat,(i:Int) % (z:Int)=(j:Int)/\j < z:=by
    have h0:=dF (i:Int) (show (z:Int)≠0 by omega);have h1:=dv (i:Int) Y;exists ((i:Int) % (z:Int)).toNat,by omega,by omega
   have U:j < d.length:=by omega
   have I:atI (d.map V.int) (j:Int)=some (V.int d[j]):=xa (by rw [cG,cC U]; rfl);have S:atI (J.map V.int) (i:Int)=some (V.int J[i]):=xa (by rw [cG,cC hi]; rfl);generalize d[j]=q at I;generalize J[i]=t at S;have f:=C _ _ L;rfl';rw [hj];refine Ú (C.seq hl) S ?_;rfl';refine ue (SqL.of f) ?_;rw [cA];rfl';refine Ú (SqL.of m) I ?_;rfl';refine ue (SqL.of f) ?_;rw [cA];rfl'
   obtain ⟨w,hw,R⟩:∃ w:Nat,(t / 3 % (c.length:Int)+q+(i:Int)) % (c.length:Int)=(w:Int)/\w < c.length:=by
    have h0:=dF (t / 3 % (c.length:Int)+q+(i:Int)) (show (c.length:Int)≠0 by omega);have h1:=dv (t / 3 % (c.length:Int)+q+(i:Int)) (show 0 < (c.length:Int) by omega);exists ((t / 3 % (c.length:Int)+q+(i:Int)) % (c.length:Int)).toNat,by omega,by omega
   rw [hw];refine Ú (v:=.int c[w]) (SqL.of f) (xa (by rw [cG,cC R]; rfl)) ?_;have hy:=M c[w] (dw R);generalize c[w]=y at hy ⊢;rfl';exists g,_,_,j,rfl,rfl,m,?_,?_
   .unfold ixN;rw [if_pos (by omega),if_pos (by rw [cA]; omega)];rfl
   .exists _,_,_,d.set j y,rfl,by rw [ya,List.map_set],fun x X=>?_,by rw [List.length_set]; exact r,fun b o e=>yf (yb e B) (C b o e)
    rcases List.mem_or_eq_of_mem_set X with h | h
    .exact p x h
    .rw [h];exact hy
  .exists _,_,_,d,rfl,m,p,r,C
 .rintro σ2 G ⟨Z,v2,W,d,rfl,m,p,r,C⟩;rfl';exact k g d G B m p r C
#synth yi6 ["_law_store","_law_text","_law_word"] ["_law_store","_law_text"] yru
inductive yl5 (K:W.Frag) (a:Ads) (vs:List V) (H:Hp) (Q:VK) (E':XK):Prop
 | mk (st:Addr) (C:Cf) (P:List Pd) (X:Sx) (tx:Addr) (ts:List Int) (_:vs=[.ref st,.ref tx]) (_:Sto K a H st C P X) (_:ux H tx ts 1000) (_:C.mo < ts.length) (_:∀ H',yv H H'->Q (.bl true) H')
def ywl:vk P w K mg Γ CX0 14 a.Mj a.Ml ["_law_store","_law_text"] (yl5 K a):=by
 exists T.Ng.F.ok,yi6,r;obtain ⟨d,C,P,X,f,g,rfl,e,b,j,k⟩:=h;obtain ⟨I,G,D,v,u,n⟩:=e.ins;exists 2,1,ye (yo (i:=2) yi6.nd rfl (Or.inl rfl) wy) (ye (ypy (fun o t=>(yc (yt (vg (pv 0) T.A3 T.B6.m (ĉ T) r.m T.B6.B .nil yk4 (pa1 (pv 1)))))) ⟨rfl,rfl⟩ (yq1 rfl T.Ek (fun o x=>(yc (yo (i:=2) yi6.nd rfl (Or.inl rfl) wy))) yyb)) (yc (yp (x4 xz (pv 2) wy (yz _)))));refine yu2 ?_;rfl';exists d,C,P,X,f,g,rfl,e,b,fun _ y q=>?_,fun z=>absurd z (by omega);refine vbb T.Ao ?_;rfl';exists rfl,?_;rw [cK rfl];exact k _ q
def ToD.mono {P P':List Pd} {x:Option Str} (h:ToD P x L) (m:∀ r,r∈P->r∈P'):ToD P' x L:=by
 cases x with
 | none=>exact h
 | some b =>
  obtain ⟨r,a,e⟩:=h;exists r,m r a,e
structure Md (P:List Pd):Prop where
 nd:(P.map (·.nm)).Nodup
 st:∀ i q,P[i]?=some q->ToD (P.take i) q.bs q.path
 ok:∀ q,q∈P->okN q.nm/\Sgs q.tx/\q.tx.length <= 3
def Md.nil:Md []:=⟨List.nodup_nil,fun i q h=>(nomatch h),fun q h=>(nomatch h)⟩
def Md.pw {P:List Pd} (h:Md P):PdW P:=⟨h.nd,fun q b=>by
 obtain ⟨i,c⟩:=List.getElem?_of_mem b;exact (h.st i q c).mono fun r a=>dz a⟩
theorem Md.take {P:List Pd} (h:Md P) (n:Nat):Md (P.take n):=by
 exists ?_,fun i q a=>?_,fun q b=>h.ok q (dz b)
 .rw [List.map_take];exact h.nd.sublist (List.take_sublist _ _)
 .rw [List.getElem?_take] at a;by_cases z:i < n
  .rw [if_pos z] at a;rw [List.take_take,Nat.min_eq_left (Nat.le_of_lt z)];exact h.st i q a
  .rw [if_neg z] at a;cases a
def Md.put {P:List Pd} {q:Pd} (h:Md P) (no:∀ r,r∈P->r.nm≠q.nm) (t:ToD P q.bs q.path) (ok:okN q.nm/\Sgs q.tx/\q.tx.length <= 3):Md (P++[q]):=by
 exists ?_,fun i r a=>?_,fun r b=>?_
 .rw [cM,List.nodup_append];exists h.nd,List.pairwise_singleton _ _,fun x c y d e=>?_;obtain ⟨r,b,rfl⟩:=cI.mp c;rw [cQ.mp d] at e;exact no r b e
 .rcases Nat.lt_or_ge i P.length with z | z
  .rw [List.getElem?_append_left z] at a;rw [List.take_append_of_le_length (Nat.le_of_lt z)];exact h.st i r a
  .rw [dM z] at a
   have e:i=P.length:=by
    rcases Nat.eq_zero_or_pos (i - P.length) with y | y
    .omega
    .rw [dn (by show 1 <= _; omega)] at a;cases a
   subst e;rw [Nat.sub_self] at a;cases a;rw [List.take_left']
   .exact t
   .rfl
 .rcases c7.mp b with z | z
  .exact h.ok r z
  .rw [cQ.mp z];exact ok
def X00:Sx:=⟨fun _=>False,fun _=>False⟩
def kf0 {H:Hp} {x:Addr} {o:HO} (h:H x=some o):Kf H X00 x o:=⟨h,id⟩
#synth Ó ["_law_script","_law_names_here","_law_some","_law_model_here","_law_k","_law_cell","_law_base","_law_size","_law_text"] ["_law_script","_law_names_here","_law_some"] yrx
inductive yp4 (K:W.Frag) (vs:List V) (H:Hp) (Q:VK) (E':XK):Prop
 | mk (l nl so:Addr) (zs ss:List Int) (ns:List Str) (_:vs=[.ref l,.ref nl,.ref so]) (_:SqL K H l (zs.map V.int)) (_:H nl=some (.lst (ns.map V.str))) (_:ns.length=5) (_:ns.Nodup) (_:(∀ x,x∈ns->okN x)) (_:H so=some (.lst (ss.map V.int))) (_:1 <= ss.length) (_:ss.length <= 4) (_:Sgs ss) (_:∀ P md tu tx H',Md P->P.length <= 3->H md=none->H' md=some (.dK (mdK tu P))->Mdl H' X00 md P tu tx->yv H H'->Q (.ref md) H')
def yxc:vk P w K mg Γ CX0 2 a.Mm a.Mn ["_law_script","_law_names_here","_law_some"] (yp4 K):=by
 exists T.Nh.F.ok,Ó,J;obtain ⟨l,nl,S,zs,ss,g,rfl,hl,M,n5,a5,a0,a3,s1,s4,a2,k⟩:=h;refine yh (yo (i:=3) Ó.nd rfl (Or.inl rfl) à) ?_;refine yh (ur PassesOwn.never rfl (zw rfl T.Bg (pa1 (yn wa (xw (yaj T) J.m T.D3 (pac (pv 0) (pa1 yg))) yg))) (wl (i:=4) Ó.nd rfl (Or.inl rfl)) (ye (yo (i:=5) Ó.nd rfl (Or.inl rfl) (xw (yaj T) J.m T.D3 (pac (pv 0) (pa1 (yn vj yg (pv 4)))))) (ye (yo (i:=6) Ó.nd rfl (Or.inl rfl) ub) (ye (jr (wd (PW.pt (yil (yu ycf (pv 4) yg (yz _)) (yb3 (yu xz (yn wa (pv 5) yg) yg (yz _))))) (yc (yo (i:=6) Ó.nd rfl (Or.inl rfl) (ud xv (pv 1) (yn wa (yn y0 (pv 5) yg) (pv 4)) (fun _ _=>rfl)))) y6)) (ye (yo (i:=7) Ó.nd rfl (Or.inl rfl) (yn wa (yn y0 (pv 5) yg) yg)) (ye (yo (i:=8) Ó.nd rfl (Or.inl rfl) (xw (ymo T) J.m T.Gv (pac (xh (pac (yn y0 (pv 5) yg) (pac (yn y0 (pv 5) yg) (pa1 (yn y0 (pv 5) yg))))) (pac (pv 7) (pa1 (pv 2)))))) (yc (È (za J) (pv 3) (ud xv (pv 1) (pv 4) (fun _ _=>rfl)) (yak (pac (pv 8) (pa1 (pv 6)))) rfl)))))))) ?_;exists 3,6,yc (yp (pv 3));intro I hmd0;exists hmd0,H1,S1,hmd1;rfl';exists l,zs,2,rfl,S1.seq hl,by decide,fun c9 ae ac=>?_
 obtain ⟨m,hm,m3⟩:∃ m:Nat,c9 % 4=(m:Int)/\m <= 3:=⟨(c9 % 4).toNat,by omega,by omega⟩;rfl';rw [hm];refine ⟨_,rfl,by omega,by omega,δ (n:=m) (fun i σ2 G=>∃ (P:List Pd) (O U:Str->Addr) (v4 v5 v6 W X:Option V),σ2=[some (.ref l),some (.ref nl),some (.ref S),some (.ref I),v4,v5,v6,W,X]/\Md P/\yv H G/\Mdl G X00 I P O U/\G I=some (.dK (mdK O P))/\P.map (·.nm)=g.take i)
  ⟨[],fun _=>0,fun _=>0,_,_,_,_,_,rfl,.nil,S1,⟨.inl hmd1,id,(fun q hq=>by cases hq),(fun q hq=>by cases hq)⟩,hmd1,rfl⟩ ?_ ?_⟩
 .clear S1 hmd1;rintro i σ2 G hi ⟨P,O,U,v4,v5,v6,W,X,rfl,C,D,hM,B,R⟩;have p:i < g.length:=by omega
  obtain ⟨a9,c⟩:=yqe a5 R p;rfl';exists l,zs,3+i,by rw [show ((3+i:Nat):Int)=3+(0+(i:Int)) by omega]; rfl,D.seq hl,by omega,fun d ad a8=>?_
  rfl';exists fun σ2 F=>G=F/\∃ x:Option Str,σ2=[some (.ref l),some (.ref nl),some (.ref S),some (.ref I),some (.int (0+(i:Int))),some (.int d),some (baV x),W,X]/\∀ b,x=some b->∃ r,r∈P/\r.nm=b,?_,?_
  .refine ifI (0 < i) (fun Qb qT qF=>?_) (fun i0=>?_) ?_
   .rfl';refine uu (fun h1=>?_) (fun h1=>qF);rfl';by_cases h3:d % 2=1
    .rw [cK h3];exact qT (by omega)
    .rw [cP h3];exact qF
   .rfl'
    obtain ⟨j,hj,a4⟩:∃ j:Nat,d / 2 % (0+(i:Int))=(j:Int)/\j < i:=by
     have h0:=dF (d / 2) (show (0+(i:Int))≠0 by omega);have h1:=dv (d / 2) (show 0 < (0+(i:Int)) by omega);exists (d / 2 % (0+(i:Int))).toNat,by omega,by omega
    rw [hj];have N:j < g.length:=by omega
    refine Ú (v:=.str g[j]) (SqL.of (D _ _ M)) (xa (by rw [cG,cC N]; rfl)) ?_;rfl';exists rfl,some g[j],rfl,fun b e=>yyq R a4 (by rw [cC N]; exact e)
   .exists rfl,none,rfl,fun b e=>by cases e
  rintro σ2 F ⟨rfl,x,rfl,hx⟩
  obtain ⟨L,hL⟩:∃ L,ToD P x L:=by
   cases x with
   | none=>exists [],rfl
   | some b =>
    obtain ⟨r,J,e⟩:=hx b rfl;exists _,r,J,e,rfl
  rfl';exists by walk_at "len",fun c3 hc3=>?_
  exists hc3,G1,T1,hc31;obtain ⟨z,hz,z2⟩:∃ z:Nat,d / 8 % 3=(z:Int)/\z <= 2:=⟨(d / 8 % 3).toNat,by omega,by omega⟩;rfl';rw [hz];exists c3,S,[d / 32,d / 1000,d / 70000],ss,z,rfl,SqL.of hc31,(by show 3 <= 63; decide),T1 _ _ (D _ _ a3),s1,s4,a2,by omega,fun y ts G2 a7 a1 Y ab T2=>?_
  have Z:=T1.trans T2;rfl';exists by walk_at "len",fun t ht0=>?_
  exists ht0,G3,T3,ht3;have f:=Z.trans T3;have u:=f _ _ B;rfl';refine Ú (v:=.str g[i]) (SqL.of (f _ _ (D _ _ M))) (by rw [Int.zero_add]; exact xa (by rw [cG,cC p]; rfl)) ?_;rfl';exists I,_,rfl,yfq.k (k:=.inr g[i]) u (vd (by unfold mdK; rw [cA]; omega)),?_;rw [yie (q:=⟨g[i],x,L,ts⟩) c];exists _,_,_,_,_,_,_,_,rfl,C.put c hL ⟨a0 _ (dw p),Y,by show ts.length <= 3; omega⟩,fun b o e=>yf (yb e hmd0) (f _ _ (D _ _ e)),(hM.same f).put u c (kf0 ht3) (kf0 (T3 _ _ a1)),ya,?_;rw [cM,R,List.take_succ,cC p];rfl
 .rintro σ2 G ⟨P,O,U,v4,v5,v6,W,X,rfl,C,D,hM,B,R⟩;rfl';refine k P I O U G C ?_ hmd0 B hM D;have e:=congrArg List.length R;rw [cA,cX] at e;omega
theorem Mdl.frz {H:Hp} {X:Sx} {P:List Pd} {tx:Str->Addr} (h:Mdl H X md P tu tx) (hd:H md=some (.dK (mdK tu P))) (o:Obj):Mdl (upd H md (.frz o (.dK (mdK tu P)))) X md P tu tx :=
 ⟨.inr ⟨o,ya⟩,h.n,fun q a=>(h.t q a).but (fun z=>by have e:=(h.t q a).1; rw [z,hd] at e; cases e) But.upd,fun q a=>(h.x q a).but (fun z=>by have e:=(h.x q a).1; rw [z,hd] at e; cases e) But.upd⟩
def yjh {P:List Pd} {kk:Key} {v:V} (h:(mdK tu P)[i]?=some (kk,v)):∃ q,P[i]?=some q/\kk=.inr q.nm/\v=.ref (tu q.nm):=by
 unfold mdK at h;rw [cG] at h;obtain ⟨q,a,e⟩:=ed.mp h;cases e;exact ⟨q,a,rfl,rfl⟩
def Mdl.lr {H:Hp} {X:Sx} {P:List Pd} {tx:Str->Addr} (h:Mdl H X md P tu tx) (w:Md P) {x:Option Str} (t:ToD P x L) {ln:Addr} (hln:H ln=some (.lst (lnV tx L))):yuf H (.ref ln) L.length 3 (lnA tx L) (txi L):=by
 exists .inr ⟨ln,rfl,by rw [<- yl1]; exact hln⟩,fun i a=>?_;obtain ⟨r,d,c,_⟩:=t.at w.pw a;have b:=w.ok r d
 have e:txi L i=r.tx:=by
  unfold txi;rw [dL,cG,cC a,c];rfl
 exists (h.ln w.pw t a).1,?_,?_
 .rw [e]; exact b.2.1
 .rw [e]; exact b.2.2
#synth Ć ["_law_looks_here","_law_model_here","_law_text","_law_due","_law_least","_law_name","_law_size"] ["_law_looks_here","_law_model_here","_law_text"] yt0
inductive yzp (K:W.Frag) (vs:List V) (H:Hp) (Q:VK) (E':XK):Prop
 | mk (lo md t:Addr) (n:Nat) (lk tp:Nat->Addr) (kd:Nat->Fin 3) (ps:Nat->List Int) (P:List Pd) (X:Sx) (tu tx:Str->Addr) (ts:List Int) (mo w:Nat) (_:vs=[.ref lo,.ref md,.ref t]) (_:H lo=some (.lst (refs lk n))) (_:1 <= n) (_:n <= 6) (_:xu H n lk kd tp ps) (_:Mdl H X md P tu tx) (_:H md=some (.dK (mdK tu P))) (_:Md P) (_:P.length <= 10) (_:ux H t ts 3) (_:∀ H',yv H H'->Q (baV (ě ⟨n,kd,ps,mo,w⟩ P ts)) H')
def ydz:vk P w K mg Γ CX0 9 a.Mo a.Mq ["_law_looks_here","_law_model_here","_law_text"] (yzp K):=by
 exists T.Ds.F.ok,Ć,hr;obtain ⟨lo,I,t,n,lk,tp,f,x,P,X,R,tx,p,y,w,rfl,J,n1,n6,hR,hM,B,L,aa,S,k⟩:=h;have ad:=S.z;refine yh (yo (i:=3) Ć.nd rfl (Or.inl rfl) ub) ?_;refine yh (yo (i:=4) Ć.nd rfl (Or.inl rfl) (pcB yr T.Ac (pa1 (yb7 (ymy T) hr.m rfl T.Q5 T.O9.kp T.Q4 .nil vx (pac (pv 0) (pac (pv 2) (pa1 (xh ua)))))))) ?_;refine yh (ybv (ur PassesOwn.never rfl (yb1 (pv 1)) (wl (i:=5) Ć.nd rfl (Or.inl rfl)) (ye (yo (i:=6) Ć.nd rfl (Or.inl rfl) (pcB yr T.Ac (pa1 (yb7 (ymy T) hr.m rfl T.Q5 T.O9.kp T.Q4 .nil vx (pac (pv 0) (pac (pv 2) (pa1 (xw (yya T) hr.m T.Nf (pac (pv 1) (pa1 (pv 5))))))))))) (yc (wd (yu ĝ (pv 6) (pv 4) (yz _)) (ye (yo (i:=4) Ć.nd rfl (Or.inl rfl) (pv 6)) (yc (yo (i:=3) Ć.nd rfl (Or.inl rfl) (pv 5)))) y6))))) ?_;exists 3,4,yc (yp (pv 3));exists by walk_at "len",fun e0 he0=>?_
 exists he0,H1,S1,he1;rfl';exists lo,t,.ref e0,n,lk,f,tp,x,p,0,3,fun _=>0,fun _=>[],rfl,⟨S1 _ _ J,n1,n6,hR.same S1,⟨S1 _ _ S.l,S.s,by omega⟩,⟨.inr ⟨e0,rfl,he1⟩,fun i hi=>absurd hi (cY i)⟩,by decide,by decide,by omega⟩,by omega,fun r H2 a3 N S2=>?_
 rfl';refine ue (SqL.of N) ?_;rw [cA];have g:=S1.trans S2;have a7:=hM.same g;have C:=g _ _ B;rfl';exists I,mdK R P,rfl,C,fun o=>?_;refine ydl (o:=o) (d:=I) (kvs:=mdK R P) (fun i σ2 F=>∃ (b:Option Str) (m:Nat) (v5 v6:Option V),σ2=[some (.ref lo),some (.ref I),some (.ref t),some (baV b),some (.int (m:Nat)),v5,v6]/\yv (upd H2 I (.frz o (.dK (mdK R P)))) F/\bsF (szD ⟨n,f,x,y,w⟩ p) (P.drop i) b m=ě ⟨n,f,x,y,w⟩ P p)
  ⟨none,_,none,none,rfl,fun _ _ e=>e,rfl⟩ ?_ ?_ ?_
 .rintro i σ2 F _ ⟨b,m,v5,v6,rfl,O,D⟩;exact O _ _ ya
 .rintro i kk v σ2 F a1 ⟨b,m,v5,v6,rfl,O,D⟩;obtain ⟨q,hq,rfl,rfl⟩:=yjh a1;have a4:i < P.length:=(cO.mp hq).1;have a5:=cR hq;rw [d8 a4,(cO.mp hq).2] at D;have U:=(a7.frz C o).same O;have M:ToD P (some q.nm) (q.path++[(q.nm,q.tx)]):=⟨q,a5,rfl,rfl⟩;have ac:=M.len L.pw;have a0:lo≠I:=fun z=>by rw [z,B] at J; cases J
  have nt:t≠I:=fun z=>by have e:=S.l; rw [z,B] at e; cases e
  rfl';exists I,P,X,R,tx,some q.nm,q.path++[(q.nm,q.tx)],rfl,U,L.pw,by omega,M,fun ln F1 a9 W T1=>?_
  have Z:=U.same T1;have G:=O.trans T1;rfl';exists lo,t,.ref ln,n,lk,f,tp,x,p,(q.path++[(q.nm,q.tx)]).length,3,_,_,rfl,⟨G _ _ (yf a0 (g _ _ J)),n1,n6,?_,⟨G _ _ (yf nt (g _ _ S.l)),S.s,by omega⟩,Z.lr L M W,by decide,by omega,by omega⟩,by omega,fun r F2 a3 N T2=>?_
  .intro j hj;obtain ⟨a2,z,h1,h2,h3⟩:=hR j hj;have ne:∀ {c:Addr} {xs:List V},H c=some (.tup xs)->c≠I:=fun e z=>by rw [z,B] at e; cases e
   exists a2,z,G _ _ (yf (ne h1) (g _ _ h1)),G _ _ (yf (ne h2) (g _ _ h2)),h3
  rfl';refine ue (SqL.of N) ?_;rw [cA,ygk];rfl';have D:(if szD ⟨n,f,x,y,w⟩ p q < m then bsF (szD ⟨n,f,x,y,w⟩ p) (P.drop (i+1)) (some q.nm) (szD ⟨n,f,x,y,w⟩ p q) else bsF (szD ⟨n,f,x,y,w⟩ p) (P.drop (i+1)) b m)=ě ⟨n,f,x,y,w⟩ P p:=D;have Y:=G.trans T2;by_cases hlt:szD ⟨n,f,x,y,w⟩ p q < m
  .rw [if_pos hlt] at D;refine uu (fun _=>?_) (fun z=>absurd (show ((szD ⟨n,f,x,y,w⟩ p q:Nat):Int) < (m:Int) by omega) z);rfl';exists some q.nm,szD ⟨n,f,x,y,w⟩ p q,_,_,rfl,Y,D
  .rw [if_neg hlt] at D;refine uu (fun z=>absurd (show ((szD ⟨n,f,x,y,w⟩ p q:Nat):Int) < (m:Int) from z) (by omega)) (fun _=>?_);exists b,m,_,_,rfl,Y,D
 .rintro σ2 F ⟨b,m,v5,v6,rfl,O,D⟩;have a8:(mdK R P).length=P.length:=cA _;rw [a8,List.drop_length] at D;exists I,o,.dK (mdK R P),(fun o u e=>by rw [C] at e; cases e),O _ _ ya,?_;rfl';rw [show b=ě ⟨n,f,x,y,w⟩ P p from D];refine k _ fun c o' e=>?_;by_cases z:c=I
  .rw [z,ya];rw [z,B] at e;exact e
  .exact yf z (O _ _ (yf z (g _ _ e)))
def ξ (x y:Option Str):va3 (baV x) (baV y)=true:=by cases x <;> cases y <;> rfl
def Md.init {P:List Pd} {q:Pd} (h:Md (P++[q])):Md P/\(∀ r,r∈P->r.nm≠q.nm)/\(∀ r,r∈P++[q]->r.bs≠some q.nm)/\((P++[q]).filter fun r=>decide (r.nm≠q.nm))=P:=by
 have f:=h.nd;rw [cM,List.nodup_append] at f;have b:∀ r,r∈P->r.nm≠q.nm:=fun r a=>f.2.2 _ (cI.mpr ⟨r,a,rfl⟩) _ dm;have d:=h.take P.length;rw [List.take_left' rfl] at d;exists d,b,fun r a e=>?_,?_
 .obtain ⟨i,c⟩:=List.getElem?_of_mem a;have k:=(cO.mp c).1;rw [cF,dE] at k;have t:=h.st i r c;rw [e,List.take_append_of_le_length (by omega)] at t;obtain ⟨u,j,g,_⟩:=t;exact b u (dz j) g
 .rw [List.filter_append,List.filter_eq_self.mpr fun r a=>cK (b r a),List.filter_cons_of_neg (by simp)];exact d6 _
#synth yjr ["_law_store","_law_looks_here","_law_model_here","_law_text","_law_last","_law_left"] ["_law_store","_law_looks_here","_law_model_here","_law_text"] yr9
inductive ygz (K:W.Frag) (a:Ads) (vs:List V) (H:Hp) (Q:VK) (E':XK):Prop
 | mk (st lo md t:Addr) (n:Nat) (lk tp:Nat->Addr) (kd:Nat->Fin 3) (ps:Nat->List Int) (P:List Pd) (q:Pd) (X:Sx) (tu tx:Str->Addr) (ts:List Int) (B:Hp) (_:vs=[.ref st,.ref lo,.ref md,.ref t]) (_:Sto K a H st ⟨n,kd,ps,4,4⟩ (P++[q]) X) (_:Bs B H X) (_:B lo=some (.lst (refs lk n))) (_:1 <= n) (_:n <= 6) (_:xu B n lk kd tp ps) (_:ux B t ts 3) (_:B md=none) (_:Mdl H X md (P++[q]) tu tx) (_:H md=some (.dK (mdK tu (P++[q])))) (_:Md (P++[q])) (_:P.length <= 3) (_:∀ H',Q (.bl true) H')
def yzi:vk P w K mg Γ CX0 14 a.Mr a.Ms ["_law_store","_law_looks_here","_law_model_here","_law_text"] (ygz K a):=by
 exists T.Ni.F.ok,yjr,d;obtain ⟨st,lo,J,t,n,lk,tp,kd,ps,P,q,X,b,tx,I,B,rfl,hS,hB,av,n1,n6,hR,U,aU,hM,a6,a9,aR,k⟩:=h;obtain ⟨an,a2,aE,a3⟩:=a9.init;have a8:=(a9.ok q (cZ _ dm)).1;have aL:=U.z;refine yh (yo (i:=4) yjr.nd rfl (Or.inr rfl) (ud xv (pcT (ja rfl) T.Ad (pa1 (pv 2))) (yz5 yng yg) (fun _ _=>rfl))) ?_;refine yh (yt (vg (pv 0) T.A3 T.Gu.m (yxr T) d.m T.Gu.B .nil vh (pa1 (pv 4)))) ?_;refine yh (yo (i:=5) yjr.nd rfl (Or.inl rfl) (pcT (yeb rfl) T.Hh (pa1 (yh3 (yla (js:=[2,4]) (ys:=["_law_model_here","_law_last"]) rfl (yb1 (pv 2)) (fun C s2 H2 fp=>(yu yjw (pv 0) (pv 2) (yz _))) (fun C s2 H2 fp=>(yak (pac (pv 0) (pa1 (x8 (za d) (pv 1) (pv 0) (fun _ _=>rfl)))))) rfl rfl (hyc:=(all_cons rfl (all_cons rfl yx))) (hrel:=(all_cons rfl (all_cons rfl yx)))))))) ?_;refine yh (wd (yu yjw (vg (pv 0) T.A3 T.B6.m (ĉ T) d.m T.B6.B .nil vh (pa1 (pv 3))) (xw (ydz T) d.m T.Ds (pac (pv 1) (pac (pv 5) (pa1 (pv 3))))) (yz _)) (yc (yp ych)) y6) ?_;refine yh (È (za d) (pv 5) (pv 4) (yak (pac (pv 3) (pa1 ub))) rfl) ?_;refine yh (yt (vg (pv 0) T.A3 T.Q6 (ynd T) d.m T.Qa (show wg [V.non] _ from (.cons rfl .nil)) vh (pac (pv 4) (pa1 (pcT vt T.Ad (pa1 (pv 3))))))) ?_;exists 4,2,yc (yp (x4 xz (vg (pv 0) T.A3 T.B6.m (ĉ T) d.m T.B6.B .nil vh (pa1 (pv 3))) (xw (ydz T) d.m T.Ds (pac (pv 1) (pac (pv 5) (pa1 (pv 3))))) (yz _)));exists J,_,rfl,a6,fun l hl0=>?_;rw [ō];exists hl0,H1,S1,hl1;rfl';have a5:H1 l=some (.lst ((P.map (·.nm)).map V.str++[V.str q.nm])):=by rw [hl1,cM,cM]; rfl
 refine Ú (v:=.str q.nm) (SqL.of a5) (ylp _ _) ?_;have g:=hS.same S1;obtain ⟨ds,vl,vm,vp,vc,ax⟩:=g.ins;rfl';refine g.drop a8.1 (fun no=>absurd rfl (no q (cZ _ dm))) (fun r d e ⟨u,hu,eu⟩=>absurd eu (aE u hu)) (fun r d e _ Y H2 a1 g2=>?_);rw [a3] at a1;have ai:=(hB.same S1).go g g2;have ae:=(hM.same S1).go g g2;have f:=(Kf.go ⟨S1 _ _ a6,hM.n⟩ g g2).1;clear hS hB hM a6 g g2 S1 hl1 a5 hl0 ax H1 H X;rfl';exists J,_,rfl,f,fun o D hD=>?_;have aG:(mdK b (P++[q])).length=P.length+1:=by unfold mdK; rw [cA,cF]; rfl
 have a7:D≠J:=fun z=>by rw [z,ya] at hD; cases hD
 have aN:H2 D=none:=by rw [yk a7] at hD; exact hD
 refine ye3 (fun i G=>∃ M:List (Addr × Key × V),G D=some (.lst (M.map fun t=>V.ref t.1))/\(∀ t∈M,G t.1=some (.tup [kV t.2.1,t.2.2]))/\M.map (·.2)=mdK b (((P++[q]).take i).filter fun r=>decide (r.nm≠q.nm))/\M.length <= i/\yv (upd H2 J (.frz o (.dK (mdK b (P++[q]))))) G)
  ⟨[],ya,(fun t h=>nomatch h),rfl,cE _,y8 hD⟩ (by rintro i G _ ⟨_,_,_,_,_,SG⟩; exact SG _ _ ya) (fun i kk v G aJ hi ⟨M,gD,gt,ge,gl,SG⟩=>?_) (fun G ⟨M,gD,gt,ge,gl,SG⟩=>?_)
 .obtain ⟨r,d,rfl,rfl⟩:=yjh aJ;have ay:=cR d;have au:i < (P++[q]).length:=(cO.mp d).1;have aZ:=(a9.ok r ay).1;rfl';exists rfl,?_;by_cases hin:r.nm=q.nm
  .rw [cK (show kV (.inr r.nm)=V.str q.nm by rw [hin]; rfl)];exists _,rfl,yat ?_;refine ų hi ⟨M,gD,gt,?_,by omega,SG⟩;rw [ge,dr au,List.filter_append,(cO.mp d).2,List.filter_cons_of_neg (by simpa using hin)];simp
  .rw [cP (show ¬ kV (.inr r.nm)=V.str q.nm from fun z=>hin (V.str.inj z))];exists _,rfl,yaw ?_;have aF:=(ae.frz f o).same SG;rfl';exists J,_,rfl,aF.get ay,?_;rfl';exists by walk_at "len",fun p af=>?_
   have T2:=y8 (o:=(HO.tup [kV (Sum.inr r.nm),V.ref (b r.nm)])) af;have aq:upd G p (HO.tup [kV (Sum.inr r.nm),V.ref (b r.nm)]) p=some (HO.tup [kV (Sum.inr r.nm),V.ref (b r.nm)]):=ya;generalize upd G p (HO.tup [kV (Sum.inr r.nm),V.ref (b r.nm)])=G2 at T2 aq ⊢;refine xm (T2 _ _ gD) (vd (by rw [cA]; omega)) hi ⟨M++[(p,.inr r.nm,.ref (b r.nm))],?_,fun t N=>?_,?_,by rw [cF,dE]; omega,fun y o e=>yf (yb e hD) (T2 _ _ (SG _ _ e))⟩
   .rw [ya,cM];rfl
   .have nD:t.1≠D:=fun z=>by
     rcases c7.mp N with y | y
     .have e:=T2 _ _ (gt t y);rw [z,T2 _ _ gD] at e;cases e
     .rw [cQ.mp y] at z;rw [show p=D from z,gD] at af;cases af
    rw [yk nD];rcases c7.mp N with y | y
    .exact T2 _ _ (gt t y)
    .rw [cQ.mp y];exact aq
   .rw [cM,ge,dr au,List.filter_append,(cO.mp d).2,List.filter_cons_of_pos (by simpa using hin)];unfold mdK;rw [cM];rfl
 rw [aG,dA (by rw [cF]; exact cE _),a3] at ge;exists J,o,.dK (mdK b (P++[q])),(fun o u e=>by rw [f] at e; cases e),SG _ _ ya,?_
 have S3:yv H2 (upd G J (.dK (mdK b (P++[q])))):=fun c o' e=>by
  by_cases z:c=J
  .rw [z,ya];rw [z,f] at e;exact e
  .exact yf z (SG _ _ (yf z e))
 have ac:upd G J (.dK (mdK b (P++[q]))) D=some (.lst (M.map fun t=>V.ref t.1)):=yf a7 gD;have am:∀ t∈M,upd G J (.dK (mdK b (P++[q]))) t.1=some (.tup [kV t.2.1,t.2.2]):=fun t N=>yf (fun z=>by have e:=gt t N; rw [z,SG _ _ ya] at e; cases e) (gt t N);generalize upd G J (.dK (mdK b (P++[q])))=H3 at S3 ac am ⊢;rfl';exists D,M,rfl,ac,am,by omega,fun lf hlf0=>?_
 rw [ge,show Ñ [] (mdK b P)=mdK b P from yab b (A:=[]) an.nd];exists hlf0,H4,S4,hlf4;have T4:=S3.trans S4;have j:=a1.same T4;have aj:=ai.same T4;have ab:=ae.same T4;have aa:Mdl H4 Y lf P b tx:=⟨.inl hlf4,(Kf.new (a1.same S3) hlf0 hlf4).2,fun r d=>ab.t r (dJ _ d),fun r d=>ab.x r (dJ _ d)⟩;have aI:B lf=none:=ai.s.free (S3.free hlf0);clear a1 ai ae f S3 S4 gD gt ge gl SG ac am hlf0 T4 ab aN a7;obtain ⟨ds,vl,vm,vp,vc,az⟩:=j.ins;rfl';exists st,_,P,Y,t,_,rfl,j,⟨aj.s _ _ U.l,U.s,by omega⟩,fun z=>absurd (show 4 < _ from z) (by omega),fun _ Z H5 aC g5=>?_;have W:=aj.go j g5;have al:=aa.go j g5;have a0:=(Kf.go ⟨hlf4,aa.n⟩ j g5).1;rfl';exists lo,lf,t,n,lk,tp,kd,ps,P,Z,b,tx,_,4,4,rfl,W.s _ _ av,n1,n6,hR.same W.s,al,a0,an,by omega,U.same W.s,fun H6 S6=>?_
 exists ξ _ _,?_;rw [cK rfl];have aw:=aC.same S6;have aH:=W.same S6;have aD:=al.same S6;have ar:=S6 _ _ a0;clear j aj aa aC W al a0 hlf4 az g5 S6;rfl';exists by walk_at "len",fun u hu0=>?_
 exists hu0,H7,S7,hu7;have O:=S7 _ _ ar;rfl';exists lf,_,rfl,yfq.k (k:=.inr q.nm) O (vd (by unfold mdK; rw [cA]; omega)),?_;rw [yie (q:=⟨q.nm,none,[],I⟩) a2];have aA:=aH.same S7;have ak:=(aD.same S7).put (q:=⟨q.nm,none,[],I⟩) O a2 (Kf.new aw hu0 hu7) (aA.kf U.l);have b8:But lf H7 (upd H7 lf (.dK (mdK (upS b q.nm u) (P++[⟨q.nm,none,[],I⟩])))):=But.upd;have ad:=(aw.same S7).but (WSh.mu O rfl) aD.n b8;have ah:=aA.but aI b8;have a4:upd H7 lf (.dK (mdK (upS b q.nm u) (P++[⟨q.nm,none,[],I⟩]))) lf=some (.dK (mdK (upS b q.nm u) (P++[⟨q.nm,none,[],I⟩]))):=ya;generalize upd H7 lf (.dK (mdK (upS b q.nm u) (P++[⟨q.nm,none,[],I⟩])))=H8 at ak ad ah a4 ⊢;clear b8;obtain ⟨aX,aW,aV,aS,aY,aQ⟩:=ad.ins;rfl';exists t,_,rfl,.inl (SqL.of (ah.s _ _ U.l)),fun w hw0=>?_;exists hw0,H9,S9,hw9;have R:=ad.same S9;obtain ⟨ds,vl,vm,vp,vc,aO⟩:=R.ins;rfl';refine R.put (x:=none) (L:=[]) a8 ⟨hw9,U.s,by show _ <= 4; omega⟩ rfl a2 (by omega) fun Z2 HA S gA=>?_;have aB:=(ah.same S9).go R gA;have ap:=(ak.same S9).go R gA;have ao:=(Kf.go ⟨S9 _ _ a4,ak.n⟩ R gA).1;obtain ⟨ds,vl,vm,vp,vc,aP⟩:=S.ins;rfl';exists st,_,_,Z2,t,_,rfl,S,⟨aB.s _ _ U.l,U.s,by omega⟩,fun z=>absurd (show 4 < _ from z) (by omega),fun _ Z3 HC b0 gC=>?_;have ag:=aB.go S gC;have aM:=ap.go S gC;have as:=(Kf.go ⟨ao,ap.n⟩ S gC).1;rfl';exists lo,lf,t,n,lk,tp,kd,ps,_,Z3,_,_,_,4,4,rfl,ag.s _ _ av,n1,n6,hR.same ag.s,aM,as,an.put a2 rfl ⟨a8,U.s,aL⟩,by rw [cF]; show P.length+1 <= 10; omega,U.same ag.s,fun HD SD=>?_
 exists ξ _ _,?_;rw [cK rfl];exact k _
#synth uo ["_law_script","_law_way","_law_looks_here","_law_names_here","_law_some","_law_model_here","_law_text","_law_store","_law_there","_law_name","_law_due","_law_handed","_law_found"] ["_law_script"] yua
inductive ydw (K:W.Frag) (vs:List V) (H:Hp) (Q:VK) (E':XK):Prop
 | mk (l:Addr) (ns:List Int) (_:vs=[.ref l]) (_:SqL K H l (ns.map V.int)) (_:ns.length <= 63) (_:∀ H',Q (.bl true) H')
def yys:vk P w K mg Γ CX0 15 a.O6 a.Fn ["_law_script"] (ydw K):=by
 exists T.Gw.F.ok,uo,C;obtain ⟨l,zs,rfl,hS,c5,k⟩:=h;refine yh (yo (i:=1) uo.nd rfl (Or.inl rfl) (xw (yaj T) C.m T.D3 (pac (pv 0) (pa1 yg)))) ?_;refine yh (yo (i:=2) uo.nd rfl (Or.inl rfl) (xw (yye T) C.m T.Na (pac (xw (yaj T) C.m T.D3 (pac (pv 0) (pa1 yg))) (pa1 (yn vj yg (pcT ygi T.Nn (pa1 (x4 xz (yn wa (pv 1) yg) yg (yz _))))))))) ?_;refine yh (yo (i:=3) uo.nd rfl (Or.inl rfl) (xw (yzr T) C.m T.Nd (pa1 (yn y0 (xw (yaj T) C.m T.D3 (pac (pv 0) (pa1 yg))) yg)))) ?_;refine yh (yo (i:=4) uo.nd rfl (Or.inl rfl) (xx Ç (xh (pac (yn wa (pv 1) yg) (pac (yn wa (yn y0 (pv 1) yg) yg) (pac yg (pa1 yg))))) zl (zn (yn vj yg (yn wa (yn y0 (pv 1) yg) yg))))) ?_;refine yh (yo (i:=5) uo.nd rfl (Or.inl rfl) (xw (yxc T) C.m T.Nh (pac (pv 0) (pac (pv 3) (pa1 (pv 4)))))) ?_;refine yh (yo (i:=6) uo.nd rfl (Or.inl rfl) (xw (ymo T) C.m T.Gv (pac (xx Ç (pv 0) (zn yg) zl) (pac (yn wa (yn y0 (pv 1) yg) yg) (pa1 (pv 4)))))) ?_;refine yh (jr (wd (PW.pt (yil (yu ycf (pcB ü T.Ac (pa1 (pv 5))) yg (yz _)) (yb3 (yu xz (yn wa (yn y0 (pv 1) yg) yg) yg (yz _))))) (yc (yo (i:=6) uo.nd rfl (Or.inl rfl) (pcT vt T.Ad (pa1 (ud z8 (x8 (za C) (pv 5) (ud xv (pcT (ja rfl) T.Ad (pa1 (pv 5))) (yn wa (yn y0 (pv 1) yg) (pcB ü T.Ac (pa1 (pv 5)))) (fun _ _=>rfl)) (fun _ _=>rfl)) yg (fun _ _=>rfl)))))) y6)) ?_;refine yh (yo (i:=7) uo.nd rfl (Or.inl rfl) (uk T.Ps (ywb T) C.m rfl T.Pr T.Qo .nil vh (pac (pv 2) (pa1 yg)))) ?_;refine yh (yo (i:=8) uo.nd rfl (Or.inl rfl) à) ?_;refine yh (wd (yu É (vg (pv 7) T.A3 T.B6.m (ĉ T) C.m T.B6.B .nil vh (pa1 (pcT vt T.Ad (pa1 (pv 6))))) ub (yz _)) (yc (yp ych)) y6) ?_;refine yh (ybv (ur PassesOwn.never rfl (yb1 (pv 5)) (wl (i:=9) uo.nd rfl (Or.inl rfl)) (ye (yt (vg (pv 7) T.A3 T.Q6 (ynd T) C.m T.Qq .nil vh (pac (pv 9) (pac (pcT vt T.Ad (pa1 (ud z8 (x8 (za C) (pv 5) (pv 9) (fun _ _=>rfl)) yg (fun _ _=>rfl)))) (pa1 (ud z8 (x8 (za C) (pv 5) (pv 9) (fun _ _=>rfl)) yg (fun _ _=>rfl))))))) (ye (È (za C) (pv 8) (pv 9) (x8 (za C) (pv 5) (pv 9) (fun _ _=>rfl)) rfl) (yc (wd (yu yjw (vg (pv 7) T.A3 T.B6.m (ĉ T) C.m T.B6.B .nil vh (pa1 (pcT vt T.Ad (pa1 (pv 6))))) (xw (ydz T) C.m T.Ds (pac (pv 2) (pac (pv 8) (pa1 (pv 6))))) (yz _)) (yc (yp ych)) y6)))))) ?_;refine yh (yo (i:=10) uo.nd rfl (Or.inl rfl) (xw (ydz T) C.m T.Ds (pac (pv 2) (pac (pv 5) (pa1 (pv 6)))))) ?_;refine yh (yo (i:=11) uo.nd rfl (Or.inl rfl) (pcT vt T.Ad (pa1 (pv 6)))) ?_;refine yh (yo (i:=12) uo.nd rfl (Or.inl rfl) (vg (pv 7) T.A3 T.B6.m (ĉ T) C.m T.B6.B .nil vh (pa1 (pv 11)))) ?_;refine yh (jr (wd (PW.pt (č (yu yjw (pv 12) (pv 10) (yz _)) (č (yu (yd0 C.units) (pv 11) (pv 6) (yz _)) (Ĉ (PW.pt (yil (yu yi4 (pv 10) ub (yz _)) (yb3 (yu É (pv 12) ub (yz _))))))))) (yc (yp ych)) y6)) ?_;refine yh (wd (xp (xt (xw (ywl T) C.m T.Ng (pac (pv 7) (pa1 (yn yn7 (pv 6) (yn yiy (xh (pa1 yg)) (yn u7 yg (pcB yr T.Ac (pa1 (pv 6))))))))))) (yc (yp ych)) y6) ?_;refine yh (wd (PW.pt (č (yu (yd0 C.units) (vo (pv 7) T.A3 T.Dp.m (yoy T) C.m T.Dp.B .nil vx) (pcT (ja rfl) T.Ad (pa1 (pv 5))) (yz _)) (Ĉ (yu yjw (vg (pv 7) T.A3 T.B6.m (ĉ T) C.m T.B6.B .nil vh (pa1 (pv 11))) (pv 10) (yz _))))) (yc (yp ych)) y6) ?_;exists 1,12,yc (yp (vcg (x4 (yqn C.units) (pv 5) à (yz _)) (jo (xw (yzi T) C.m T.Ni (pac (pv 7) (pac (pv 2) (pac (pv 5) (pa1 (pv 6)))))))));exists l,zs,0,rfl,hS,by decide,fun I c6 c9=>?_
 rfl';exists l,zs,1,rfl,hS,by decide,fun c2 bX bP=>?_
 rfl';refine .inr ⟨_,rfl,?_⟩
 obtain ⟨m2,bU,bM,bQ⟩:∃ m:Nat,(1+if decide (I % 4=1)=true then 1 else 0:Int)=(m:Int)/\1 <= m/\m <= 6:=by
  by_cases z:I % 4=1
  .exact ⟨2,by rw [cK z]; rfl,by decide,by decide⟩
  .exact ⟨1,by rw [cP z]; rfl,by decide,by decide⟩
 rfl';rw [bU];exists c2,m2,rfl,bX,bP,bM,bQ,fun lo n lk kd tp ps H1 bj aJ n1 n6 bf S1=>?_;rfl';exists l,zs,2,rfl,S1.seq hS,by decide,fun c3 cr cv=>?_
 rfl';exists _,rfl,by omega,by omega,fun nl ns H2 bD aD S2 n5 bO bV=>?_
 rfl';exists by walk_at "len",fun q4 hq40=>?_
 exists hq40,H3,S3,hq43;obtain ⟨w4,bZ,cp,cm⟩:∃ w:Nat,2+I / 65536 % 3=(w:Int)/\2 <= w/\w <= 4:=⟨(2+I / 65536 % 3).toNat,by omega,by omega,by omega⟩;rfl';rw [bZ];refine yfm (SqL.of hq43) fun so hso0=>?_;rw [ß,show [V.int (I % 256),V.int (I / 256 % 256),V.int 255,V.int 0]=[I % 256,I / 256 % 256,255,0].map V.int from rfl,<- List.map_take]
 have aT:Sgs ([I % 256,I / 256 % 256,255,0].take w4):=fun x hx=>by
  have h0:=dz hx;simp only [cT,List.not_mem_nil,or_false] at h0;rcases h0 with z | z | z | z <;> rw [z] <;> omega
 have ao:1 <= ([I % 256,I / 256 % 256,255,0].take w4).length/\([I % 256,I / 256 % 256,255,0].take w4).length <= 4:=by
  rw [cX];show 1 <= min w4 4/\min w4 4 <= 4;omega
 generalize [I % 256,I / 256 % 256,255,0].take w4=ss at aT ao ⊢;exists hso0,H4,S4,hso4;have aq:=S3.trans S4;have ba:=aq.seq (S2.seq (S1.seq hS));have aI:=aq _ _ aD;have aE:=aq _ _ (S2 _ _ aJ);have bt:=(bf.same S2).same aq;clear hS S1 S2 S3 S4 aq bj aJ bf bD aD hq40 hq43 hso0 H3 H2 H1;rfl';exists l,nl,so,zs,ss,ns,rfl,ba,aI,n5,bO,bV,hso4,ao.1,ao.2,aT,fun P p J tx H5 U bm bb ay ae S5=>?_;have b0:(mdK J P).length=P.length:=cA _;have bs:=S5.seq ba;rfl';refine yfm bs fun cs hcs0=>?_;rw [show (some (6:Int))=some ((6:Nat):Int) from rfl,ydb,<- List.map_drop];exists hcs0,H6,S6,hcs6;obtain ⟨z4,bA,bx⟩:∃ z:Nat,I / 200000 % 4=(z:Int)/\z <= 3:=⟨(I / 200000 % 4).toNat,by omega,by omega⟩;rfl';rw [bA];exists cs,so,_,ss,z4,rfl,SqL.of hcs6,by rw [dP]; omega,S6 _ _ (S5 _ _ hso4),ao.1,ao.2,aT,bx,fun t N H7 bK bg bc c4 S7=>?_
 have as:=S6.trans S7;have a1:=ae.same as;have b:=as _ _ ay;have aL:=as _ _ (S5 _ _ aE);have bF:=(bt.same S5).same as;have aP:ux H7 t N 3:=⟨bg,bc,by omega⟩;clear ba aI aE bt bb ae ay S5 bs hcs0 hcs6 S6 S7 as bK bg bc c4 hso4 bA bx z4 H6 H5 H4;rfl';exists fun σ2 G=>∃ (t:Addr) (N:List Int),σ2=[some (.ref l),some (.int I),some (.ref lo),some (.ref nl),some (.ref so),some (.ref p),some (.ref t),none,none,none,none,none,none]/\yv H7 G/\ux G t N 3,?_,?_
 .refine ifI (0 < P.length) (fun Qb qT qF=>?_) (fun i0=>?_) ?_
  .rfl';exists p,_,rfl,b,?_;rw [b0];rfl';refine uu (fun h1=>?_) (fun h1=>qF);rfl';by_cases h3:I / 1000000 % 3=1
   .rw [cK h3];exact qT (by omega)
   .rw [cP h3];exact qF
  .rfl';exists p,_,rfl,b,fun kl hkl0=>?_;rw [ō];exists hkl0,H8,S8,hkl8;rfl';exists p,_,rfl,S8 _ _ b,?_;rw [b0];rfl'
   obtain ⟨w,hw,bn⟩:∃ w:Nat,I / 3000000 % (P.length:Int)=(w:Int)/\w < P.length:=by
    have h0:=dF (I / 3000000) (show (P.length:Int)≠0 by omega);have h1:=dv (I / 3000000) (show 0 < (P.length:Int) by omega);exists (I / 3000000 % (P.length:Int)).toNat,by omega,by omega
   rw [hw];refine Ú (v:=.str (P[w]).nm) (SqL.of hkl8) (xa (by rw [cG,cG,cC bn]; rfl)) ?_;have L:=dw bn;generalize P[w]=q at L ⊢;have b1:=a1.same S8;rfl';exists p,_,rfl,b1.get L,?_;rfl';refine ś (SqT.of (b1.t q L).1) (xa (j:=0) rfl) ?_;rfl';exists tx q.nm,_,rfl,.inl (SqL.of (b1.x q L).1),fun t2 ht20=>?_;exists ht20,H9,S9,ht29;rfl';exists t2,q.tx,rfl,S8.trans S9,ht29,(U.ok q L).2.1,(U.ok q L).2.2
  .exists t,N,rfl,fun _ _ e=>e,aP
 clear aP t N;rintro σ2 G ⟨t,N,rfl,SG,ac⟩;have ah:=a1.same SG;have M:=SG _ _ b;have a0:=SG _ _ aL;have aW:=bF.same SG;have ct:=ac.z;clear a1 b aL bF SG H7;rfl';intro st ds az aB bS;refine Sto.new (mo:=4) (w:=4) az aB a0 n1 n6 aW (by decide) (by decide) (by decide) fun X H3 a2 S3 bE _=>⟨rfl,?_⟩;have nX:∀ {y:Addr} {o:HO},G y=some o->¬ X.f y:=fun {y o} e z=>by rw [bE y z] at e; cases e
 have ad:Mdl H3 X p P J tx:=⟨.inl (S3 _ _ M),nX M,fun q L=>⟨S3 _ _ (ah.t q L).1,nX (ah.t q L).1⟩,fun q L=>⟨S3 _ _ (ah.x q L).1,nX (ah.x q L).1⟩⟩;have aj:=S3 _ _ M;obtain ⟨B,a5,aU,bz⟩:=Bs.mk' a2 p;have bk:∀ {y:Addr} {o:HO},G y=some o->y≠p->B y=some o:=fun {y o} e ne=>bz y o (S3 _ _ e) (nX e) ne;have ag:=bk a0 (fun z=>by rw [z,M] at a0; cases a0);have D:ux B t N 3:=⟨bk ac.l (fun z=>by have e:=ac.l; rw [z,M] at e; cases e),ac.s,ac.z⟩
 have aS:xu B n lk kd tp ps:=fun j hj=>by
  obtain ⟨bL,z,h1,h2,h3⟩:=aW j hj;have ne:∀ {c:Addr} {xs:List V},G c=some (.tup xs)->c≠p:=fun e z=>by rw [z,M] at e; cases e
  exists bL,z,bk h1 (ne h1),bk h2 (ne h2),h3
 clear bk bz nX ah M a0 aW ac az aB bS bE S3;rfl';intro th hth0;exists hth0,H4,S4,hth4;have W:=a2.same S4;have b9:=a5.same S4;have aZ:=ad.same S4;have aF:=S4 _ _ aj;have bJ:¬ X.f th:=(Kf.new a2 hth0 hth4).2;have bR:B th=none:=a5.s.free hth0;have aV:th≠p:=fun z=>by rw [z,aj] at hth0; cases hth0
 clear a2 a5 ad aj hth0 S4;obtain ⟨cw,cl,cz,ch,cq,bu⟩:=W.ins;rfl';refine zg (SqL.of (b9.s _ _ D.l)) fun c0 hc00=>?_;exists hc00,H5,S5,hc05;have a3:=W.same S5;rfl';exists st,_,[],X,c0,N,rfl,a3,⟨hc05,D.s,by omega⟩,fun z=>absurd (show 4 < _ from z) (by omega),fun _ Y H6 br g6=>?_;have bq:=(b9.same S5).go a3 g6;have aX:=(aZ.same S5).go a3 g6;have a4:=(Kf.go ⟨S5 _ _ aF,aZ.n⟩ a3 g6).1;have aO:=Kf.go ⟨S5 _ _ hth4,bJ⟩ a3 g6;clear W b9 aZ aF bJ hth4 bu hc00 hc05 a3 S5 g6;rfl';refine yj3 (fun _=>?_) (fun z=>absurd rfl z);rfl';exists p,mdK J P,rfl,a4,fun o=>?_;refine ydl (o:=o) (d:=p) (kvs:=mdK J P) (fun i σ2 F=>∃ (X:Sx) (v9:Option V),σ2=[some (.ref l),some (.int I),some (.ref lo),some (.ref nl),some (.ref so),some (.ref p),some (.ref t),some (.ref st),some (.ref th),v9,none,none,none]/\Sto K a F st ⟨n,kd,ps,4,4⟩ (P.take i) X/\Bs B F X/\Mdl F X p P J tx/\F p=some (.frz o (.dK (mdK J P)))/\Kf F X th (.dK (mdK J (P.take i))))
  ⟨Y,none,rfl,br.but (WSh.mu a4 rfl) aX.n But.upd,bq.but aU But.upd,aX.frz a4 o,ya,aO.but aV But.upd⟩ ?_ ?_ ?_
 .rintro i σ2 F _ ⟨X,v9,rfl,hS,hB,hM,hf,af⟩;exact hf
 .rintro i kk v σ2 F bT ⟨X,v9,rfl,hS,hB,hM,hf,af⟩;obtain ⟨q,L,rfl,rfl⟩:=yjh bT;have bN:i < P.length:=(cO.mp L).1;have bW:P[i]=q:=(cO.mp L).2;have a6:=cR L;have bh:=U.ok q a6;have b2:P.take (i+1)=P.take i++[q]:=by rw [dr bN,bW]
  have bH:=U.take (i+1);have bi:=bH;rw [b2] at bi;obtain ⟨_,aN,_,_⟩:=bi.init;obtain ⟨ds,vl,vm,vp,vc,bo⟩:=hS.ins;rfl';exists p,_,rfl,hM.get a6,?_;rfl';refine ś (SqT.of (hM.t q a6).1) (xa (j:=0) rfl) ?_;rfl';refine zg (SqL.of (hM.x q a6).1) fun y hy0=>?_;exists hy0,F1,T1,hy1;have av:=hM.same T1;rfl';exists p,_,rfl,av.get a6,?_;rfl';refine ś (SqT.of (av.t q a6).1) (xa (j:=1) rfl) ?_;have ab:=hS.same T1;rfl';refine ab.put bh.1 ⟨hy1,bh.2.1,by show _ <= 4; omega⟩ (U.st i q L) aN (by rw [cX]; omega) fun Y F2 aR g2=>?_;have bC:=(hB.same T1).go ab g2;have b5:=av.go ab g2;have bd:=(Kf.go ⟨T1 _ _ hf,hM.n⟩ ab g2).1;have R:=(af.same T1).go ab g2;rw [<- b2] at aR;clear hS hB hM hf af bo hy0 hy1 T1 av ab g2;rfl';exists p,_,rfl,b5.get a6,?_;rfl';exists th,_,rfl,yfq.k (k:=.inr q.nm) R.1 (vd (by unfold mdK; rw [cA,cX]; omega)),?_
  have eK:ω (mdK J (P.take i)) (.inr q.nm) (.ref (J q.nm))=mdK J (P.take (i+1)):=by
   rw [zh _ (yjm J aN),b2];unfold mdK;rw [cM,List.map_singleton]
  rw [eK];have b3:But th F2 (upd F2 th (.dK (mdK J (P.take (i+1))))):=But.upd;have a2:=aR.but (WSh.mu R.1 rfl) R.2 b3;have a5:=bC.but bR b3;have ad:=b5.but R.1 rfl aV.symm b3;have bp:=b3 _ _ bd aV.symm;have aA:Kf (upd F2 th (.dK (mdK J (P.take (i+1))))) Y th (.dK (mdK J (P.take (i+1)))):=⟨ya,R.2⟩;generalize upd F2 th (.dK (mdK J (P.take (i+1))))=F3 at a2 a5 ad bp aA ⊢;clear aR bC b5 bd R b3 eK;obtain ⟨ds,vl,vm,vp,vc,bo⟩:=a2.ins;rfl';refine zg (SqL.of (a5.s _ _ D.l)) fun c0 hc00=>?_;exists hc00,F4,T4,hc04;have W:=a2.same T4;rfl';exists st,_,_,Y,c0,N,rfl,W,⟨hc04,D.s,by omega⟩,fun z=>absurd (show 4 < _ from z) (by omega),fun _ Z F5 a3 g5=>?_;have ax:=(a5.same T4).go W g5;have ae:=(ad.same T4).go W g5;have b4:=(Kf.go ⟨T4 _ _ bp,ad.n⟩ W g5).1;have a9:=(aA.same T4).go W g5;rfl';exists lo,th,t,n,lk,tp,kd,ps,P.take (i+1),Z,J,tx,N,4,4,rfl,ax.s _ _ ag,n1,n6,aS.same ax.s,⟨.inl a9.1,a9.2,fun r C=>ae.t r (dz C),fun r C=>ae.x r (dz C)⟩,a9.1,bH,by rw [cX]; omega,D.same ax.s,fun F6 T6=>?_
  exists ξ _ _,?_;rw [cK rfl];rfl';exists Z,_,rfl,a3.same T6,ax.same T6,ae.same T6,T6 _ _ b4,a9.same T6
 clear br bq aX aO;rintro σ2 F ⟨X,v9,rfl,hS,hB,hM,hf,af⟩;rw [b0,dN] at hS;exists p,o,.dK (mdK J P),(fun o u e=>by rw [a4] at e; cases e),hf,?_;have b7:But p F (upd F p (.dK (mdK J P))):=But.upd;have ar:=hS.but (WSh.mu hf rfl) hM.n b7;have a7:=hB.but aU b7;have a1:Mdl (upd F p (.dK (mdK J P))) X p P J tx:=⟨.inl ya,hM.n,fun q L=>(hM.t q L).but (fun z=>by have e:=(hM.t q L).1; rw [z,hf] at e; cases e) b7,fun q L=>(hM.x q L).but (fun z=>by have e:=(hM.x q L).1; rw [z,hf] at e; cases e) b7⟩;have b:upd F p (.dK (mdK J P)) p=some (.dK (mdK J P)):=ya;generalize upd F p (.dK (mdK J P))=H7 at ar a7 a1 b ⊢;clear hS hB hM hf af b7 a4;obtain ⟨co,ci,cg,cd,cx,bw⟩:=ar.ins;rfl';exists lo,p,t,n,lk,tp,kd,ps,P,X,J,tx,N,4,4,rfl,a7.s _ _ ag,n1,n6,aS.same a7.s,a1,b,U,by omega,D.same a7.s,fun H8 S8=>?_
 have bB:=a7.same S8;rfl';refine zg (SqL.of (bB.s _ _ D.l)) fun hd hhd0=>?_;exists hhd0,H9,S9,hhd9;have ai:=S8.trans S9;have O:=ar.same ai;have aw:=a7.same ai;have aa:=a1.same ai;have S:=ai _ _ b;have ap:Kf H9 X hd (.lst (N.map V.int)):=Kf.new (ar.same S8) hhd0 hhd9;clear ar a7 a1 b S8 S9 hhd0 hhd9 ai bB bw;obtain ⟨cu,ce,cn,cc,cy,bl⟩:=O.ins;rfl';exists st,_,_,X,hd,N,rfl,O,⟨ap.1,D.s,by omega⟩,fun z=>absurd (show 4 < _ from z) (by omega),fun _ Z HA b6 gA=>?_;have am:=aw.go O gA;have bG:=aa.go O gA;have aG:=(Kf.go ⟨S,aa.n⟩ O gA).1;have an:=ap.go O gA;clear O aw aa S ap gA bl;rfl';exists fun σ2 F=>HA=F/\σ2=[some (V.ref l),some (V.int I),some (V.ref lo),some (V.ref nl),some (V.ref so),some (V.ref p),some (V.ref t),some (V.ref st),some (V.ref th),v9,some (baV (ě ⟨n,kd,ps,4,4⟩ P N)),some (V.ref hd),some (baV (ě ⟨n,kd,ps,4,4⟩ P N))],?_,?_
 .rfl';exists ξ _ _,?_;rw [cK rfl];rfl';refine vb0 (d:=.list (N.map PyData.int)) (k:=1) (Sd.lst (SqL.of an.1) (Sds.ints _)) (Sd.lst (SqL.of (am.s _ _ D.l)) (Sds.ints _)) (by decide) ?_;rfl';refine uu (fun hn=>?_) (fun hn=>⟨rfl,rfl⟩);rfl';exact yj3 (fun _=>⟨rfl,rfl⟩) (fun z=>absurd hn z)
 rintro σ2 F ⟨rfl,rfl⟩;rfl';exists by walk_at "len",fun u hu0=>?_
 exists hu0,HC,SC,huC;rfl';refine ue (SqL.of (SC _ _ (am.s _ _ D.l))) ?_;rw [cA];obtain ⟨f5,b4,c8⟩:∃ f5:Nat,5 - (N.length:Int)=(f5:Int)/\N.length+f5=5:=⟨(5 - (N.length:Int)).toNat,by omega,by omega⟩;rfl';rw [b4];exists u,f5,_,rfl,rfl,huC,by omega,by omega,Æ (by show 1 * (f5:Int).toNat <= 16000000; omega),fun g hg0=>?_
 rw [ø,show ((f5:Nat):Int).toNat=f5 by omega];exists hg0,HD,SD,hgD;have S2:=SC.trans SD;rfl';exists t,g,_,_,rfl,rfl,S2 _ _ (am.s _ _ D.l),hgD,Æ (by rw [cA,cA,dW]; omega),fun c hc0=>?_;rw [<- cM];exists hc0,HE,SE,hcE;have S3:=S2.trans SE;rfl';exists st,_,P,Z,c,_,rfl,b6.same S3,⟨hcE,fun x hx=>?_,by rw [cF,dW]; omega⟩,by show 4 < _; rw [cF,dW]; omega,fun HF SF=>?_
 .rcases c7.mp hx with z | z
  .exact D.s x z
  .rw [d9 z];decide
 have S4:=S3.trans SF;have au:=b6.same S4;have be:=am.same S4;have aY:=bG.same S4;have ak:=S4 _ _ aG;have aM:=an.same S4;clear b6 am bG aG an S2 S3 S4 SC SD SE SF hcE hc0 hgD hg0 huC hu0;obtain ⟨cb,ca,cj,cf,ck,aK⟩:=au.ins;rfl';refine au.names fun nm H7 bv aQ S7=>?_;rfl';exists p,_,rfl,S7 _ _ ak,fun q2 hq20=>?_;rw [ō];exists hq20,H8,S8,hq28;have aH:H8 nm=some (.lst ((P.map (·.nm)).map V.str)):=by rw [S8 _ _ aQ,df]; rfl
 have aC:∀ x,x∈P.map (·.nm)->PyData.strOk x=true:=fun x hx=>by
  obtain ⟨q,L,rfl⟩:=cI.mp hx;exact (U.ok q L).1.2
 refine yno _ _ aC aC (SqL.of aH) (SqL.of hq28) ?_;rw [cK rfl];have a8:=S7.trans S8;have al:=au.same a8;have bI:=a8 _ _ aK;rfl';exists st,_,_,Z,hd,N,rfl,al,⟨a8 _ _ aM.1,D.s,by omega⟩,fun z=>absurd (show 4 < _ from z) (by omega),fun _ Z2 H9 O g9=>?_;have aw:=(be.same a8).go al g9;have aa:=(aY.same a8).go al g9;have S:=(Kf.go ⟨a8 _ _ ak,aY.n⟩ al g9).1;clear au be aY ak aM aK al bI g9 S7 S8 a8 aH hq28 hq20 aQ bv;rfl';exists ξ _ _,?_;rw [cK rfl];rfl';intro e0 he00;exists he00,HG,SG,heG;rfl';exists p,e0,_,rfl,rfl,SG _ _ S,heG,?_;rcases List.eq_nil_or_concat P with e | ⟨P',q,e⟩
 .rw [e];rfl';exact k _
 .rw [List.concat_eq_append] at e;rw [e] at O aa S U bm;rw [e,show (mdK J (P'++[q])).isEmpty=false by unfold mdK; rw [cM]; simp];rfl';exists st,lo,p,t,n,lk,tp,kd,ps,P',q,Z2,J,tx,N,B,rfl,O.same SG,aw.same SG,ag,n1,n6,aS,D,aU,aa.same SG,SG _ _ S,U,by rw [cF] at bm; omega,k
end
variable {P:List Pd} {X Y:Sx}
def all_mk {l:W.OpenLaw} {w:World} {K:W.Frag} {h:Heap} {mg:Str->Option Value} (X:K.In h) (G:h.Ns mainGlobals mg) (hfa:mg "law"=some (.ref fa))
  (Pz:GV K "Even" (.ref A6))
  (Om:GV K "Quick" (.ref A5))
  (Qj:GV K "Run" (.ref Ab))
  (Q0:GV K "Book" (.ref Aa))
  (R3:GV K "Mixer" (.ref Bh))
  (R4:GV K "Foreteller" (.ref A2))
  (Q1:GV K "Span" (.ref A4))
  (R5:GV K "Seeker" (.ref Ag))
  (On:GV K "Chain" (.ref A1))
  (Oo:GV K "Piece" (.ref A8))
  (Op:GV K "Store" (.ref A0))
  (R6:GV K "NoText" (.ref Fo))
  (R7:GV K "NoBytes" (.ref En))
  (Nw:GV K "NoMost" (.ref B0))
  (R8:GV K "NoChance" (.ref D8))
  (R9:GV K "NoBit" (.ref C0))
  (Ra:GV K "NoLooks" (.ref Eo))
  (Rb:GV K "NoPress" (.ref Ep))
  (Ny:GV K "NoName" (.ref Ak))
  (Hj:GV K "TooLong" (.ref A9))
  (Oq:GV K "Taken" (.ref Ax))
  (Q2:GV K "Full" (.ref C9))
  (Hk:GV K "NoPiece" (.ref Af))
  (Os:GV K "InUse" (.ref Bb))
  (Fp:Dgf K mg "is_whole" vcv Oz P0)
  (Pk:Dgf K mg "is_bit" vda P1 P3)
  (Pl:Dgf K mg "is_chance" vcy P4 P5)
  (Pm:Dgf K mg "is_sign" vc1 P6 P7)
  (O8:Dgf K mg "is_list_of_signs" vdb P8 P9)
  (Es:Dgf K mg "checked_text" vcw Pa Pb)
  (Pn:Dgf K mg "checked_bytes" vc2 Pe Pf)
  (Po:Dgf K mg "check_most" vc5 Pg Ph)
  (Nr:Dgf K mg "check_chance" vdc Pi Pj)
  (Cj:Dgf K mg "check_bit" ytp Ht Hu)
  (Mt:Dgf K mg "gives" ys5 Hv Hw)
  (D9:Dgm K A6 "__init__" "Even.__init__" ys2 Fd Hx)
  (Fq:Dgm K A6 "chance" "Even.chance" yt9 Hy Hz)
  (Fr:Dgm K A6 "seen" "Even.seen" yr1 I0 I1)
  (Fs:Dgm K A6 "twin" "Even.twin" ys1 I2 I3)
  (Da:Dgm K A5 "__init__" "Quick.__init__" yt8 Fe I4)
  (Ft:Dgm K A5 "chance" "Quick.chance" ytm I5 I6)
  (Fu:Dgm K A5 "seen" "Quick.seen" ytg I7 I8)
  (Fv:Dgm K A5 "twin" "Quick.twin" yta I9 Ia)
  (Db:Dgm K Ab "__init__" "Run.__init__" yr4 Ff Ib)
  (Fw:Dgm K Ab "chance" "Run.chance" yrt Ic Ie)
  (Fx:Dgm K Ab "seen" "Run.seen" ysz If Ig)
  (Fz:Dgm K Ab "twin" "Run.twin" yrv Ih Ii)
  (Mu:Dgf K mg "slot_of" yrz Ij Ik)
  (Mv:Dgf K mg "is_kind" ytf Il Im)
  (Mw:Dgf K mg "is_place" yt3 Io Ip)
  (Mx:Dgf K mg "are_places" ysx Iq Ir)
  (G0:Dgf K mg "is_look" yry Is Iu)
  (G8:Dgf K mg "checked_looks" yub Iv Iw)
  (My:Dgf K mg "sign_back" yso Ix Iy)
  (Mz:Dgf K mg "context_of" ytt Iz J0)
  (Dc:Dgm K Aa "__init__" "Book.__init__" ytk Fg J1)
  (G9:Dgm K Aa "slot_at" "Book.slot_at" ytq J2 J3)
  (Ga:Dgm K Aa "twin" "Book.twin" yr6 J4 J5)
  (Dd:Dgm K Bh "__init__" "Mixer.__init__" ysy Fh J6)
  (Gb:Dgm K Bh "mixed" "Mixer.mixed" yt7 J7 J8)
  (Gc:Dgm K Bh "learn" "Mixer.learn" ysa J9 Ja)
  (Gd:Dgm K Bh "twin" "Mixer.twin" yt4 Jb Jc)
  (D1:Dgm K A2 "__init__" "Foreteller.__init__" yrr Fi Jd)
  (Cm:Dgm K A2 "arrive" "Foreteller.arrive" yrp Je Jf)
  (De:Dgm K A2 "chances" "Foreteller.chances" ysb Jg Jh)
  (Dh:Dgm K A2 "chance" "Foreteller.chance" ytb Ji Jj)
  (Cn:Dgm K A2 "see" "Foreteller.see" yt5 Jk Jl)
  (Ge:Dgm K A2 "step" "Foreteller.step" ytd Jm Jn)
  (Gf:Dgm K A2 "step_in_sign" "Foreteller.step_in_sign" yr5 Jo Jp)
  (Gg:Dgm K A2 "fork" "Foreteller.fork" ys8 Jq Jr)
  (N0:Dgf K mg "bits_of" ys7 Js Jt)
  (Gh:Dgf K mg "decisions_of" ysj Ju Jv)
  (N2:Dgf K mg "written" yto Jw Jx)
  (Gi:Dgf K mg "first_block" yts Jy Jz)
  (Di:Dgm K A4 "__init__" "Span.__init__" yth Fj K1)
  (Dj:Dgm K A4 "cut" "Span.cut" ysd K2 K3)
  (Dk:Dgm K A4 "narrow" "Span.narrow" ytc K4 K5)
  (Gj:Dgm K A4 "holds_block" "Span.holds_block" yss K6 K7)
  (Dl:Dgm K A4 "told" "Span.told" ytw K8 K9)
  (Ef:Dgm K Ag "__init__" "Seeker.__init__" ytu Fk Ka)
  (Dm:Dgm K Ag "follow" "Seeker.follow" ytr Kb Kc)
  (Gk:Dgm K Ag "byte_at" "Seeker.byte_at" yst Kd Ke)
  (Gm:Dgm K Ag "bit" "Seeker.bit" yr7 Kg Kh)
  (Gn:Dgm K Ag "told" "Seeker.told" ysr Ki Kj)
  (N3:Dgf K mg "checked_learned" ys4 Kk Kl)
  (N4:Dgf K mg "teach" ysw Km Kn)
  (Eg:Dgf K mg "press_by" ys0 Ko Kp)
  (Rc:W.nsIn K mainGlobals "pressed"=some (some (.ref D7)))
  (Re:K.lookup D7=some ⟨oc_q64,od_q64,.func (W.fnOf "pressed" "pressed" (w6 yfk) (wk yfk) (yd yfk) (.ref Kr) kV_q64 dc_q64 pm_q64 an_q64 cd_q64 ct_q64),sl_q64⟩)
  (Ot:K.lookup Kr=some ⟨.type "tuple",Do_q64,.seq #[.none] Dn_q64,Ds_q64⟩)
  (Rf:W.codeIn K cd_q64 "pressed"=true)
  (Rg:W.keepIn K (.ref D7)=true)
  (Gp:Dgf K mg "bit_by" ysh Ks Kt)
  (N5:Dgf K mg "sign_by" ytj Ku Kv)
  (N6:Dgf K mg "text_by" yr2 Kw Kx)
  (N7:Dgf K mg "read_by" ysn Ky Kz)
  (D2:Dgm K A1 "__init__" "Chain.__init__" ysc Fl L1)
  (Dn:Dgm K A1 "grow" "Chain.grow" ysv L3 L6)
  (Gq:Dgm K A1 "press" "Chain.press" yrw L7 L8)
  (Gr:Dgm K A1 "read" "Chain.read" yt2 L9 La)
  (Do:Dgm K A1 "size_with" "Chain.size_with" ysk Lb Lc)
  (N8:Dgf K mg "is_name" yty Ld Le)
  (Eh:Dgf K mg "checked_name" yt6 Lf Lg)
  (N9:Dgf K mg "check_base" yrq Lh Li)
  (Ei:Dgm K A8 "__init__" "Piece.__init__" yrs Fm Lj)
  (Rh:W.findIn K (.ref A0) "__init__"=some (some (.ref Cz)))
  (Ri:W.isFn K (.ref Cz)=true)
  (Rj:K.lookup Cz=some ⟨oc_q78,od_q78,.func (W.fnOf "__init__" "Store.__init__" (w6 yfp) (wk yfp) (yd yfp) (.ref Ll) kV_q78 dc_q78 pm_q78 an_q78 cd_q78 ct_q78),sl_q78⟩)
  (Ou:K.lookup Ll=some ⟨.type "tuple",Do_q78,.seq #[.int 1000 Cl] Dn_q78,Ds_q78⟩)
  (Rk:W.codeIn K cd_q78 "Store.__init__"=true)
  (Rl:W.keepIn K (.ref Cz)=true)
  (Dp:Dgm K A0 "names" "Store.names" ytz Lm Ln)
  (Rm:W.findIn K (.ref A0) "put"=some (some (.ref D0)))
  (Rn:W.isFn K (.ref D0)=true)
  (Ro:K.lookup D0=some ⟨oc_q80,od_q80,.func (W.fnOf "put" "Store.put" (w6 yfi) (wk yfi) (yd yfi) (.ref Lp) kV_q80 dc_q80 pm_q80 an_q80 cd_q80 ct_q80),sl_q80⟩)
  (Ov:K.lookup Lp=some ⟨.type "tuple",Do_q80,.seq #[.none] Dn_q80,Ds_q80⟩)
  (Rp:W.codeIn K cd_q80 "Store.put"=true)
  (Q9:W.keepIn K (.ref D0)=true)
  (Dq:Dgm K A0 "check_length" "Store.check_length" yr3 Lq Lr)
  (Gs:Dgm K A0 "check_room" "Store.check_room" ysq Ls Lt)
  (Dr:Dgm K A0 "piece_at" "Store.piece_at" yr0 Lu Lv)
  (Gt:Dgm K A0 "links_to" "Store.links_to" ysl Lx Ly)
  (Co:Dgm K A0 "chain_to" "Store.chain_to" ys9 Lz M0)
  (Gu:Dgm K A0 "drop" "Store.drop" ytl M4 M5)
  (B6:Dgm K A0 "best_base" "Store.best_base" ysf M6 M7)
  (D3:Dgf K mg "_law_mixed" yr8 M8 M9)
  (Na:Dgf K mg "_law_looks" ys6 Ma Mb)
  (Nd:Dgf K mg "_law_names" ytx Mc Me)
  (Nf:Dgf K mg "_law_learned_of" ytv Mf Mg)
  (Gv:Dgf K mg "_law_signs" yuc Mh Mi)
  (Ng:Dgf K mg "_law_too_long" yru Mj Ml)
  (Nh:Dgf K mg "_law_model" yrx Mm Mn)
  (Ds:Dgf K mg "_law_due_best" yt0 Mo Mq)
  (Ni:Dgf K mg "_law_put_again" yr9 Mr Ms)
  (Gw:Dgf K mg "law" yua O6 Fn)
  (Hl:KC K A6)
  (Al:FN K A6 "noughts")
  (B8:FN K A6 "ones")
  (Ez:KC K A5)
  (Ap:FN K A5 "held")
  (Ow:KC K Ab)
  (Bn:FN K Ab "last")
  (Aq:FN K Ab "length")
  (Hm:KC K Aa)
  (Bv:FN K Aa "look")
  (Ar:FN K Aa "slots")
  (Qk:KC K Bh)
  (C2:FN K Bh "kept")
  (Ql:KC K A2)
  (Aw:FN K A2 "looks")
  (Bo:FN K A2 "books")
  (Bp:FN K A2 "mixer")
  (Bq:FN K A2 "ended")
  (Br:FN K A2 "place")
  (As:FN K A2 "present")
  (Hn:KC K A4)
  (Bt:FN K A4 "low")
  (At:FN K A4 "width")
  (B9:FN K A4 "size")
  (Qm:KC K Ag)
  (Ce:FN K Ag "data")
  (Cg:FN K Ag "span")
  (Ba:FN K Ag "number")
  (Au:FN K Ag "reached")
  (F0:KC K A1)
  (Ai:FN K A1 "foreteller")
  (Ay:FN K A1 "links")
  (Az:FN K A1 "texts")
  (F7:KC K A8)
  (Bd:FN K A8 "base")
  (Be:FN K A8 "data")
  (F8:KC K A0)
  (Am:FN K A0 "looks")
  (Bf:FN K A0 "most")
  (Av:FN K A0 "pieces")
  (An:FN K A0 "chain")
  (Qw:XCls K Fo)
  (Qf:XMk K Fo)
  (Qx:XCls K En)
  (Qg:XMk K En)
  (Gy:XCls K B0)
  (Dt:XMk K B0)
  (Qy:XCls K D8)
  (Qh:XMk K D8)
  (Qz:XCls K C0)
  (Qi:XMk K C0)
  (R0:XCls K Eo)
  (Pv:XMk K Eo)
  (R1:XCls K Ep)
  (Pw:XMk K Ep)
  (Gz:XCls K Ak)
  (Du:XMk K Ak)
  (El:XCls K A9)
  (Cw:XMk K A9)
  (Nl:XCls K Ax)
  (Ev:XMk K Ax)
  (Oi:XCls K C9)
  (Hf:XMk K C9)
  (Em:XCls K Af)
  (Cy:XMk K Af)
  (Nm:XCls K Bb)
  (Ew:XMk K Bb)
  (Ho:W.subIn K (.ref A9) (.type "BaseException")=some true)
  (Hq:W.hasDictIn K A9=true)
  (Hr:W.typeIn K (.ref A9)=some (.type "type"))
  (Ao:W.subIn K (.ref A9) (.ref A9)=some true)
  (A7:GZ K "isinstance")
  (Nn:GZ K "int")
  (Hg:GZ K "bool")
  (Ad:GZ K "list")
  (D4:GZ K "all")
  (Ac:GZ K "len")
  (No:GZ K "min")
  (Np:GZ K "max")
  (Nq:GZ K "str")
  (Ci:GZ K "tuple")
  (Ha:GZ K "zip")
  (Dv:GZ K "sum")
  (Oj:GZ K "any")
  (Bg:GZ K "range")
  (Ol:GZ K "set")
  (Hh:GZ K "dict")
  (Q3:GV K "LEAST" (.int 32768 Er))
  (Rq:GV K "ONE" (.int 16777216 O7))
  (F9:GV K "MOST_SIGNS" (.int 1000 C3))
  (Fa:GV K "MOST_BYTES" (.int 12000 C4))
  (Dz:GV K "MOST_COUNTED" (.int 255 Bi))
  (Hs:GV K "FARTHEST" (.int 8 Ck))
  (Eb:GV K "MOST_PLACES" (.int 4 Bw))
  (Fb:GV K "MOST_LOOKS" (.int 6 C5))
  (Nz:GV K "NO_SIGN" (.int 256 Cu))
  (E4:GV K "FIRST_WEIGHT" (.int 1099511627776 Bj))
  (Hd:GV K "OWN_PARTS" (.int 31 Ca))
  (E5:GV K "MOST_FIGURES" (.int 48 Bk))
  (He:GV K "NODES_END" (.int 256 Cb))
  (Ec:GV K "FIRST_WIDTH" (.int 1099511627776 Bx))
  (Fc:GV K "FIRST_SIZE" (.int 5 C6))
  (Ed:GV K "LEAST_WIDTH" (.int 4294967296 By))
  (E6:GV K "MOST_LETTERS" (.int 8 Bl))
  (O0:GV K "LETTERS" (.str "abcdefghijklmnopqrstuvwxyz" Cv))
  (Ee:GV K "MOST_PIECES" (.int 60 Bz))
  (Ox:GV K "KINDS" (.ref Cd))
  (Oy:K.lookup Cd=some ⟨.type "tuple",wd_KINDS,.seq #[.str "even" wt_KINDS_0,.str "quick" wt_KINDS_1,.str "run" wt_KINDS_2] wn_KINDS,ws_KINDS⟩)
  (O4:GV K "WORTHS" (.ref Bm))
  (O5:K.lookup Bm=some ⟨.type "tuple",wd_WORTHS,.seq #[.int 128 wt_WORTHS_0,.int 64 wt_WORTHS_1,.int 32 wt_WORTHS_2,.int 16 wt_WORTHS_3,.int 8 wt_WORTHS_4,.int 4 wt_WORTHS_5,.int 2 wt_WORTHS_6,.int 1 wt_WORTHS_7] wn_WORTHS,ws_WORTHS⟩)
 :∃ fd:FuncData,(∀ (s:Shared) (v:Value),BindsTo s fd ⟨[v],[]⟩ [("_law_script",v)])/\∀ Γ:Heap,K.In Γ->Γ.Ns mainGlobals mg->vk l.prog w K mg Γ CX0 15 fa fd ["_law_script"] (ydw K):=by
 have e:=hfa.symm.trans Gw.m;cases e;have c:=yb8 (st:=yfk) Re Rf Rg;have a:=yb8 (st:=yfp) Rj Rk Rl;have b:=yb8 (st:=yfi) Ro Rp Q9;have T:Txt K mg ⟨Oz,P0,P1,P3,P4,P5,P6,P7,P8,P9,Pa,Pb,Pe,Pf,Pg,Ph,Pi,Pj,Ht,Hu,Hv,Hw,Fd,Hx,Hy,Hz,I0,I1,I2,I3,Fe,I4,I5,I6,I7,I8,I9,Ia,Ff,Ib,Ic,Ie,If,Ig,Ih,Ii,Ij,Ik,Il,Im,Io,Ip,Iq,Ir,Is,Iu,Iv,Iw,Ix,Iy,Iz,J0,Fg,J1,J2,J3,J4,J5,Fh,J6,J7,J8,J9,Ja,Jb,Jc,Fi,Jd,Je,Jf,Jg,Jh,Ji,Jj,Jk,Jl,Jm,Jn,Jo,Jp,Jq,Jr,Js,Jt,Ju,Jv,Jw,Jx,Jy,Jz,Fj,K1,K2,K3,K4,K5,K6,K7,K8,K9,Fk,Ka,Kb,Kc,Kd,Ke,Kg,Kh,Ki,Kj,Kk,Kl,Km,Kn,Ko,Kp,D7,_,Kr,Ks,Kt,Ku,Kv,Kw,Kx,Ky,Kz,Fl,L1,L3,L6,L7,L8,L9,La,Lb,Lc,Ld,Le,Lf,Lg,Lh,Li,Fm,Lj,Cz,_,Ll,Cl,Lm,Ln,D0,_,Lp,Lq,Lr,Ls,Lt,Lu,Lv,Lx,Ly,Lz,M0,M4,M5,M6,M7,M8,M9,Ma,Mb,Mc,Me,Mf,Mg,Mh,Mi,Mj,Ml,Mm,Mn,Mo,Mq,Mr,Ms,fa,Fn,A6,A5,Ab,Aa,Bh,A2,A4,Ag,A1,A8,A0,Fo,En,B0,D8,C0,Eo,Ep,Ak,A9,Ax,C9,Af,Bb,Er,O7,C3,C4,Bi,Ck,Bw,C5,Cu,Bj,Ca,Bk,Cb,Bx,C6,By,Bl,Cv,Bz,Cd,Bm⟩:=⟨
  Fp.d1 fun _ _ _ _ _ _ _=>rfl,
  Pk.d1 fun _ _ _ _ _ _ _=>rfl,
  Pl.d1 fun _ _ _ _ _ _ _=>rfl,
  Pm.d1 fun _ _ _ _ _ _ _=>rfl,
  O8.d2 fun _ _ _ _ _ _ _ _=>rfl,
  Es.d1 fun _ _ _ _ _ _ _=>rfl,
  Pn.d1 fun _ _ _ _ _ _ _=>rfl,
  Po.d1 fun _ _ _ _ _ _ _=>rfl,
  Nr.d1 fun _ _ _ _ _ _ _=>rfl,
  Cj.d1 fun _ _ _ _ _ _ _=>rfl,
  Mt.d2 fun _ _ _ _ _ _ _ _=>rfl,
  D9.d1 fun _ _ _ _ _ _ _=>rfl,
  Fq.d1 fun _ _ _ _ _ _ _=>rfl,
  Fr.d2 fun _ _ _ _ _ _ _ _=>rfl,
  Fs.d1 fun _ _ _ _ _ _ _=>rfl,
  Da.d1 fun _ _ _ _ _ _ _=>rfl,
  Ft.d1 fun _ _ _ _ _ _ _=>rfl,
  Fu.d2 fun _ _ _ _ _ _ _ _=>rfl,
  Fv.d1 fun _ _ _ _ _ _ _=>rfl,
  Db.d1 fun _ _ _ _ _ _ _=>rfl,
  Fw.d1 fun _ _ _ _ _ _ _=>rfl,
  Fx.d2 fun _ _ _ _ _ _ _ _=>rfl,
  Fz.d1 fun _ _ _ _ _ _ _=>rfl,
  Mu.d1 fun _ _ _ _ _ _ _=>rfl,
  Mv.d1 fun _ _ _ _ _ _ _=>rfl,
  Mw.d1 fun _ _ _ _ _ _ _=>rfl,
  Mx.d1 fun _ _ _ _ _ _ _=>rfl,
  G0.d1 fun _ _ _ _ _ _ _=>rfl,
  G8.d1 fun _ _ _ _ _ _ _=>rfl,
  My.d2 fun _ _ _ _ _ _ _ _=>rfl,
  Mz.d3 fun _ _ _ _ _ _ _ _ _=>rfl,
  Dc.d2 fun _ _ _ _ _ _ _ _=>rfl,
  G9.d3 fun _ _ _ _ _ _ _ _ _=>rfl,
  Ga.d1 fun _ _ _ _ _ _ _=>rfl,
  Dd.d2 fun _ _ _ _ _ _ _ _=>rfl,
  Gb.d2 fun _ _ _ _ _ _ _ _=>rfl,
  Gc.d3 fun _ _ _ _ _ _ _ _ _=>rfl,
  Gd.d1 fun _ _ _ _ _ _ _=>rfl,
  D1.d2 fun _ _ _ _ _ _ _ _=>rfl,
  Cm.d1 fun _ _ _ _ _ _ _=>rfl,
  De.d1 fun _ _ _ _ _ _ _=>rfl,
  Dh.d1 fun _ _ _ _ _ _ _=>rfl,
  Cn.d2 fun _ _ _ _ _ _ _ _=>rfl,
  Ge.d2 fun _ _ _ _ _ _ _ _=>rfl,
  Gf.d2 fun _ _ _ _ _ _ _ _=>rfl,
  Gg.d1 fun _ _ _ _ _ _ _=>rfl,
  N0.d1 fun _ _ _ _ _ _ _=>rfl,
  Gh.d1 fun _ _ _ _ _ _ _=>rfl,
  N2.d2 fun _ _ _ _ _ _ _ _=>rfl,
  Gi.d2 fun _ _ _ _ _ _ _ _=>rfl,
  Di.d1 fun _ _ _ _ _ _ _=>rfl,
  Dj.d2 fun _ _ _ _ _ _ _ _=>rfl,
  Dk.d3 fun _ _ _ _ _ _ _ _ _=>rfl,
  Gj.d2 fun _ _ _ _ _ _ _ _=>rfl,
  Dl.d1 fun _ _ _ _ _ _ _=>rfl,
  Ef.d2 fun _ _ _ _ _ _ _ _=>rfl,
  Dm.d1 fun _ _ _ _ _ _ _=>rfl,
  Gk.d2 fun _ _ _ _ _ _ _ _=>rfl,
  Gm.d2 fun _ _ _ _ _ _ _ _=>rfl,
  Gn.d1 fun _ _ _ _ _ _ _=>rfl,
  N3.d1 fun _ _ _ _ _ _ _=>rfl,
  N4.d2 fun _ _ _ _ _ _ _ _=>rfl,
  Eg.d2 fun _ _ _ _ _ _ _ _=>rfl,
  c,
  yax.binds (ps:=["looks","text","learned"]) (ds:=[.none]) (j:=2) rfl c Ot rfl fun _ _ _ _ _ _ d f=>match d,f with | [_,_],_=>⟨_,rfl,rfl⟩,
  yax.binds (ps:=["looks","text","learned"]) (ds:=[]) (j:=3) rfl c Ot rfl fun _ _ _ _ _ _ d f=>match d,f with | [_,_,_],_=>⟨_,rfl,rfl⟩,
  W.mg_of X G Rc,
  Gp.d2 fun _ _ _ _ _ _ _ _=>rfl,
  N5.d2 fun _ _ _ _ _ _ _ _=>rfl,
  N6.d3 fun _ _ _ _ _ _ _ _ _=>rfl,
  N7.d3 fun _ _ _ _ _ _ _ _ _=>rfl,
  D2.d2 fun _ _ _ _ _ _ _ _=>rfl,
  Dn.d3 fun _ _ _ _ _ _ _ _ _=>rfl,
  Gq.d3 fun _ _ _ _ _ _ _ _ _=>rfl,
  Gr.d4 fun _ _ _ _ _ _ _ _ _ _=>rfl,
  Do.d2 fun _ _ _ _ _ _ _ _=>rfl,
  N8.d1 fun _ _ _ _ _ _ _=>rfl,
  Eh.d1 fun _ _ _ _ _ _ _=>rfl,
  N9.d1 fun _ _ _ _ _ _ _=>rfl,
  Ei.d3 fun _ _ _ _ _ _ _ _ _=>rfl,
  a,
  yax.binds (ps:=["self","looks","most"]) (ds:=[.int 1000 Cl]) (j:=2) rfl a Ou rfl fun _ _ _ _ _ _ d f=>match d,f with | [_,_],_=>⟨_,rfl,rfl⟩,
  yax.binds (ps:=["self","looks","most"]) (ds:=[]) (j:=3) rfl a Ou rfl fun _ _ _ _ _ _ d f=>match d,f with | [_,_,_],_=>⟨_,rfl,rfl⟩,
  Dp.d1 fun _ _ _ _ _ _ _=>rfl,
  b,
  yax.binds (ps:=["self","name","text","base"]) (ds:=[.none]) (j:=3) rfl b Ov rfl fun _ _ _ _ _ _ d f=>match d,f with | [_,_,_],_=>⟨_,rfl,rfl⟩,
  yax.binds (ps:=["self","name","text","base"]) (ds:=[]) (j:=4) rfl b Ov rfl fun _ _ _ _ _ _ d f=>match d,f with | [_,_,_,_],_=>⟨_,rfl,rfl⟩,
  ⟨Rm,Rn,Q9⟩,
  Dq.d2 fun _ _ _ _ _ _ _ _=>rfl,
  Gs.d3 fun _ _ _ _ _ _ _ _ _=>rfl,
  Dr.d2 fun _ _ _ _ _ _ _ _=>rfl,
  Gt.d2 fun _ _ _ _ _ _ _ _=>rfl,
  Co.d2 fun _ _ _ _ _ _ _ _=>rfl,
  Gu.d2 fun _ _ _ _ _ _ _ _=>rfl,
  B6.d2 fun _ _ _ _ _ _ _ _=>rfl,
  D3.d2 fun _ _ _ _ _ _ _ _=>rfl,
  Na.d2 fun _ _ _ _ _ _ _ _=>rfl,
  Nd.d1 fun _ _ _ _ _ _ _=>rfl,
  Nf.d2 fun _ _ _ _ _ _ _ _=>rfl,
  Gv.d3 fun _ _ _ _ _ _ _ _ _=>rfl,
  Ng.d2 fun _ _ _ _ _ _ _ _=>rfl,
  Nh.d3 fun _ _ _ _ _ _ _ _ _=>rfl,
  Ds.d3 fun _ _ _ _ _ _ _ _ _=>rfl,
  Ni.d4 fun _ _ _ _ _ _ _ _ _ _=>rfl,
  Gw.d1 fun _ _ _ _ _ _ _=>rfl,
  Hl.cls,
  W.mg_of X G Pz,
  ⟨Hl.mk',D9.m.1,D9.m.2,Hl.kc⟩,
  Al,
  B8,
  Ez.cls,
  W.mg_of X G Om,
  ⟨Ez.mk',Da.m.1,Da.m.2,Ez.kc⟩,
  Ap,
  Ow.cls,
  W.mg_of X G Qj,
  ⟨Ow.mk',Db.m.1,Db.m.2,Ow.kc⟩,
  Bn,
  Aq,
  Hm.cls,
  W.mg_of X G Q0,
  ⟨Hm.mk',Dc.m.1,Dc.m.2,Hm.kc⟩,
  Bv,
  Ar,
  Qk.cls,
  W.mg_of X G R3,
  ⟨Qk.mk',Dd.m.1,Dd.m.2,Qk.kc⟩,
  C2,
  Ql.cls,
  W.mg_of X G R4,
  ⟨Ql.mk',D1.m.1,D1.m.2,Ql.kc⟩,
  Aw,
  Bo,
  Bp,
  Bq,
  Br,
  As,
  Hn.cls,
  W.mg_of X G Q1,
  ⟨Hn.mk',Di.m.1,Di.m.2,Hn.kc⟩,
  Bt,
  At,
  B9,
  Qm.cls,
  W.mg_of X G R5,
  ⟨Qm.mk',Ef.m.1,Ef.m.2,Qm.kc⟩,
  Ce,
  Cg,
  Ba,
  Au,
  F0.cls,
  W.mg_of X G On,
  ⟨F0.mk',D2.m.1,D2.m.2,F0.kc⟩,
  Ai,
  Ay,
  Az,
  F7.cls,
  W.mg_of X G Oo,
  ⟨F7.mk',Ei.m.1,Ei.m.2,F7.kc⟩,
  Bd,
  Be,
  F8.cls,
  W.mg_of X G Op,
  ⟨F8.mk',Rh,Ri,F8.kc⟩,
  Am,
  Bf,
  Av,
  An,
  W.mg_of X G R6,
  W.mg_of X G R7,
  W.mg_of X G Nw,
  W.mg_of X G R8,
  W.mg_of X G R9,
  W.mg_of X G Ra,
  W.mg_of X G Rb,
  W.mg_of X G Ny,
  W.mg_of X G Hj,
  W.mg_of X G Oq,
  W.mg_of X G Q2,
  W.mg_of X G Hk,
  W.mg_of X G Os,
  Qw,
  Qf,
  Qx,
  Qg,
  Gy,
  Dt,
  Qy,
  Qh,
  Qz,
  Qi,
  R0,
  Pv,
  R1,
  Pw,
  Gz,
  Du,
  El,
  Cw,
  Nl,
  Ev,
  Oi,
  Hf,
  Em,
  Cy,
  Nm,
  Ew,
  ywa Ho Hq Hr Ao,
  W.mg_none_of X G A7,
  W.mg_none_of X G Nn,
  W.mg_none_of X G Hg,
  W.mg_none_of X G Ad,
  W.mg_none_of X G D4,
  W.mg_none_of X G Ac,
  W.mg_none_of X G No,
  W.mg_none_of X G Np,
  W.mg_none_of X G Nq,
  W.mg_none_of X G Ci,
  W.mg_none_of X G Ha,
  W.mg_none_of X G Dv,
  W.mg_none_of X G Oj,
  W.mg_none_of X G Bg,
  W.mg_none_of X G Ol,
  W.mg_none_of X G Hh,
  W.mg_of X G Q3,
  W.mg_of X G Rq,
  W.mg_of X G F9,
  W.mg_of X G Fa,
  W.mg_of X G Dz,
  W.mg_of X G Hs,
  W.mg_of X G Eb,
  W.mg_of X G Fb,
  W.mg_of X G Nz,
  W.mg_of X G E4,
  W.mg_of X G Hd,
  W.mg_of X G E5,
  W.mg_of X G He,
  W.mg_of X G Ec,
  W.mg_of X G Fc,
  W.mg_of X G Ed,
  W.mg_of X G E6,
  W.mg_of X G O0,
  W.mg_of X G Ee,
  W.mg_of X G Ox,
  fun H=>.inr ⟨_,_,_,Oy,rfl,rfl,(by show 3 <= sizeLine; decide),(.cons ⟨_,rfl⟩ (.cons ⟨_,rfl⟩ (.cons ⟨_,rfl⟩ .nil)))⟩,
  W.mg_of X G O4,
  fun H=>.inr ⟨_,_,_,O5,rfl,rfl,(by show 8 <= sizeLine; decide),(.cons ⟨_,rfl⟩ (.cons ⟨_,rfl⟩ (.cons ⟨_,rfl⟩ (.cons ⟨_,rfl⟩ (.cons ⟨_,rfl⟩ (.cons ⟨_,rfl⟩ (.cons ⟨_,rfl⟩ (.cons ⟨_,rfl⟩ .nil))))))))⟩⟩
 exists Fn,fun s v=>?_,fun Γ _ _=>yys T;obtain ⟨_,_,_,_,_,_,_,_,_,rfl,_,_⟩:=Gw.F.ex;exact .of_eq rfl
def walk {l:W.OpenLaw} {q:Program} {loose:List Str} {XP:(Str->Option Value)->Heap->Prop} {YP:World->Heap->Prop} {d:DefRec} {K:Params->W.Frag} (hn:l.most=some 63) (hdf:d.params.defaults=[])
  (hY:∀ (w:World) (h:Heap),YP w h->(K w.params).In h)
  (F:∀ (w:World) (mg:Str->Option Value) (fa:Addr) (h:Heap),(K w.params).In h->h.Ns mainGlobals mg->mg d.name=some (.ref fa) ->
   ∃ fd:FuncData,(∀ (s:Shared) (u:Value),BindsTo s fd ⟨[u],[]⟩ [("_law_script",u)])/\∀ Γ:Heap,(K w.params).In Γ->Γ.Ns mainGlobals mg->vk l.prog w (K w.params) mg Γ CX0 15 fa fd ["_law_script"] (ydw (K w.params))) :
  W.WalkO q loose XP YP l.row.toRowW d [] (fun f vs=>PySem.call f vs) :=
 L2.walk_of (n:=63) (k:=15) (x:="_law_script") (CX:=fun _=>CX0) (sp:=fun w=>ydw (K w.params)) hn (by decide) hdf ⟨rfl,by decide,by decide⟩ hY F (fun _ _ a e c _ b=>⟨a,e,rfl,b,c,fun _=>rfl⟩) fun _ _ _ _ _ z=>z
end Law
open PySem PySem.W PyProof.Rows
set_option maxRecDepth 100000 in
set_option maxHeartbeats 0 in
theorem PySem.Challenge.cw_foretell_k43_best_base_holds : PySem.Challenge.rw_foretell_k43_best_base.Holds := by
 refine H0.2 ?_
 unfold H0
 dsimp only []
 k_fill
 refine Law.walk (l := PySem.Challenge.rw_foretell_k43_best_base) rfl rfl (fun w h Y => PySem.W.kIn_of Y) ?F
 case F =>
  intro w mg fa h KX G hmg
  refine' Law.all_mk KX G hmg ?_ ?_ ?_ ?_ ?_ ?_ ?_ ?_ ?_ ?_ ?_ ?_ ?_ ?_ ?_ ?_ ?_ ?_ ?_ ?_ ?_ ?_ ?_ ?_ ?_ ?_ ?_ ?_ ?_ ?_ ?_ ?_ ?_ ?_ ?_ ?_ ?_ ?_ ?_ ?_ ?_ ?_ ?_ ?_ ?_ ?_ ?_ ?_ ?_ ?_ ?_ ?_ ?_ ?_ ?_ ?_ ?_ ?_ ?_ ?_ ?_ ?_ ?_ ?_ ?_ ?_ ?_ ?_ ?_ ?_ ?_ ?_ ?_ ?_ ?_ ?_ ?_ ?_ ?_ ?_ ?_ ?_ ?_ ?_ ?_ ?_ ?_ ?_ ?_ ?_ ?_ ?_ ?_ ?_ ?_ ?_ ?_ ?_ ?_ ?_ ?_ ?_ ?_ ?_ ?_ ?_ ?_ ?_ ?_ ?_ ?_ ?_ ?_ ?_ ?_ ?_ ?_ ?_ ?_ ?_ ?_ ?_ ?_ ?_ ?_ ?_ ?_ ?_ ?_ ?_ ?_ ?_ ?_ ?_ ?_ ?_ ?_ ?_ ?_ ?_ ?_ ?_ ?_ ?_ ?_ ?_ ?_ ?_ ?_ ?_ ?_ ?_ ?_ ?_ ?_ ?_ ?_ ?_ ?_ ?_ ?_ ?_ ?_ ?_ ?_ ?_ ?_ ?_ ?_ ?_ ?_ ?_ ?_ ?_ ?_ ?_ ?_ ?_ ?_ ?_ ?_ ?_ ?_ ?_ ?_ ?_ ?_ ?_ ?_ ?_ ?_ ?_ ?_ ?_ ?_ ?_ ?_ ?_ ?_ ?_ ?_ ?_ ?_ ?_ ?_ ?_ ?_ ?_ ?_ ?_ ?_ ?_ ?_ ?_ ?_ ?_ ?_ ?_ ?_ ?_ ?_ ?_ ?_ ?_ ?_ ?_ ?_ ?_ ?_ ?_ ?_ ?_ ?_ ?_ ?_ ?_ ?_ ?_ ?_ ?_ ?_ ?_ ?_ ?_ ?_
  any_goals first | (refine' L2.dgf_mk KX G ?_ ?_ ?_ ?_; any_goals k_is; done) | (refine' L2.dgm_mk ?_ ?_ ?_ ?_ ?_; any_goals k_is; done) | (refine' L2.XCls.mk ?_ ?_ ?_ ?_ ?_ ?_ ?_ ?_ <;> k_is) | (refine' L2.KC.mk ?_ ?_ ?_ ?_ ?_ ?_ <;> k_is) | k_is | kit_is | k_exc | (with_reducible show _ = _; first | k_is | k_exc)
#print axioms PySem.Challenge.cw_foretell_k43_best_base_holds
