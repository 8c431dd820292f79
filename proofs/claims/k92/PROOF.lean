import PyProof.Rows.All
import Wide.All
import OpenK.AllK
import Wide.FinOn
import PyProof.EqAt
import PyProof.EqKinds
import PyProof.TupleCall
import Lean
import PySem.Challenge.RW_foretell_k92_whole_store
set_option Elab.async false
set_option linter.all false
set_option hygiene false
set_option bootstrap.genMatcherCode false
set_option compiler.extract_closed false
set_option maxRecDepth 100000
set_option maxHeartbeats 0
local macro_rules | `(tactic| exists $ts,*)=>`(tactic| refine ⟨$ts,*⟩)
local macro_rules | `(tactic| omega)=>`(tactic| first | with_reducible assumption | lia | omega (config:={}))
open Lean.Parser.Tactic in
local macro_rules | `(tactic| let $p:term := $e)=>do
 let s<-p.raw.rewriteBottomUpM fun x=>do
  if x.isOfKind `Lean.Parser.Term.anonymousCtor then
   let ps<-x[1].getSepArgs.mapM fun y=>`(rcasesPatLo| $(⟨y⟩):rcasesPat)
   return (<-`(rcasesPat| ⟨$[$ps:rcasesPatLo],*⟩)).raw
  else if x.isIdent then return (<-`(rcasesPat| $(⟨x⟩):ident)).raw
  else if x.isOfKind `Lean.Parser.Term.hole then return (<-`(rcasesPat| _)).raw
  else return x
 `(tactic| obtain $(⟨s⟩):rcasesPat:=$e)
namespace PySem.W.Fast
local macro_rules
 | `(#synth $k:ident $ns*)=>do return Lean.mkNullNode ((<-(ns.foldl (fun c n=>c.push (n.raw.isNatLit?.get!+c.back?.getD 0)) #[]).mapM fun n=>`(theorem $(Lean.mkIdent (.mkSimple s!"tw{((`H0).str s!"{k.getId}_{n}").hash}")) : True:=⟨⟩)).map (·.raw))
 | `(#synth $k:ident)=>`(theorem $(Lean.mkIdent (.mkSimple s!"tw{k.getId.hash}")) : True:=⟨⟩)
#synth PySem.Challenge.pw_foretell_k92_whole_store
#synth heap 39 7 1333
#synth tree 47 23 15 15 15 15 15 15 15 15 15 15 15 15 48 45 37 43 43 50 45 51 47 85 29 65 58 84 51 42 140 86 79
#synth view 39
#synth sts 49 22 15 15 15 15 15 15 15 15 15 15 15 15 48 45 37 43 43 50 45 51 47 85 29 65 58 84 51 42 229
#synth o 43 2 1 3 2 2 1 1 1 1 1 1 1 1 2 1 1 1 1 1 1 1 1 2 1 1 1 1 2 1 1 1 1 1 1 1 2 1 1 1 1 2 1 1 1 1 1 1 1 2 1 1 1 1 2 1 1 1 1 1 1 1 2 1 1 1 1 2 1 1 1 1 1 1 1 2 1 1 1 1 2 1 1 1 1 1 1 1 2 1 1 1 1 2 1 1 1 1 1 1 1 2 1 1 1 1 2 1 1 1 1 1 1 1 2 1 1 1 1 2 1 1 1 1 1 1 1 2 1 1 1 1 2 1 1 1 1 1 1 1 2 1 1 1 1 2 1 1 1 1 1 1 1 2 1 1 1 1 2 1 1 1 1 1 1 1 2 1 1 1 1 2 1 1 1 1 1 1 1 2 1 1 1 1 2 1 1 1 1 1 1 1 2 1 1 1 1 1 2 1 1 1 1 1 2 1 1 1 1 1 2 1 1 1 1 1 2 1 1 1 2 2 1 1 1 1 1 2 1 1 1 1 1 2 1 1 1 1 1 2 1 1 1 1 1 2 1 1 1 1 1 2 1 1 1 1 1 1 2 1 1 1 2 1 1 2 1 1 1 1 1 2 1 1 1 1 1 2 1 1 1 1 1 1 1 1 1 1 1 1 2 1 1 1 1 2 1 1 2 1 1 1 1 1 2 1 1 1 1 1 2 1 1 1 1 1 2 1 1 1 1 1 1 1 1 1 1 2 1 1 1 1 2 1 1 2 1 1 1 1 1 2 1 1 1 1 1 2 1 1 1 1 1 2 1 1 1 1 1 1 1 1 1 1 2 1 1 1 1 2 1 1 2 1 1 1 1 1 2 1 1 1 1 1 2 1 1 1 1 1 2 1 1 1 1 1 1 1 1 1 1 2 1 1 1 1 1 2 2 1 1 1 1 1 2 1 1 1 1 1 2 1 1 1 2 1 1 1 1 1 2 1 1 1 2 1 1 1 1 1 2 1 1 1 2 1 1 1 2 1 1 2 1 1 1 1 1 2 1 1 1 1 1 2 1 1 1 1 1 2 1 1 1 1 1 2 1 1 1 1 1 1 1 1 1 1 1 1 2 1 1 1 2 1 1 2 1 1 1 1 1 2 1 1 1 1 1 2 1 1 1 2 1 1 1 2 1 1 1 1 1 1 1 1 1 1 1 1 2 1 1 1 2 1 1 2 1 1 1 2 1 1 1 2 1 1 1 2 1 1 1 1 1 2 1 1 1 1 1 2 1 1 1 1 1 2 1 1 1 1 1 2 1 1 1 1 1 2 1 1 1 1 1 2 1 1 1 1 1 2 1 1 1 1 1 1 1 1 1 1 2 1 2 1 1 1 2 1 1 1 1 1 2 1 1 1 1 1 2 1 1 1 1 1 2 1 1 1 2 1 1 2 1 1 1 1 1 2 1 1 1 1 1 2 1 1 1 1 1 2 1 1 1 1 1 2 1 1 1 1 1 2 1 1 1 1 1 2 1 1 1 1 1 1 1 1 1 1 1 1 2 1 1 1 2 1 1 2 1 1 1 1 1 2 1 1 1 1 1 2 1 1 1 1 1 2 1 1 1 1 1 2 1 1 1 1 1 2 1 1 1 1 1 1 1 1 1 1 1 1 2 2 1 1 1 2 1 1 1 1 1 2 1 1 1 1 1 1 2 1 1 1 2 1 1 1 1 1 1 2 1 1 1 1 1 2 1 1 1 1 1 2 1 1 1 2 1 1 1 1 1 2 1 1 1 1 1 1 2 1 1 1 1 1 1 2 1 1 1 1 1 2 1 1 1 2 1 1 2 1 1 1 1 1 2 1 1 1 1 1 2 1 1 1 1 1 2 1 1 1 1 1 2 1 1 1 1 1 1 1 1 1 1 1 1 2 2 1 1 1 2 1 1 1 1 1 2 1 1 1 1 1 1 1 1 2 1 1 2 1 1 1 1 1 1 1 1 1 1 1 1 2 1 1 1 2 1 1 1 2 1 1 1 1 1 2 1 1 1 1 1 2 1 1 1 1 1 2 1 1 1 1 1 1 2 1 1 1 1 1 2 1 1 1 1 1 2 1 1 1 1 1 2 1 1 1 1 1 2 1 1 1 1 1 2 1 1 1 1 1 2 1 1 1 1 1 2 1 1 1 2 1 1 1 1 1 2 1 1 1 1 1 2 1 1 1 1 1 2 1 1 1 1 1 2 1 1 1 2 1 1 1 1 1 1 1 1 1 1 1 2 1 1 1 2 1 1 1 2 1 1 1 1 1 2 1 1 1 1 1 2 1 1 1 1 1 2 1 1 1 1 1 1 2 1 1 1 1 1 2 1 1 1 1 1 2 1 1 1 1 1 2 1 1 1 1 1 2 1 1 1 1 1 2 1 1 1 1 1 2 1 1 1 4 2 2 1 1 1 1 1 2 1 1 1 2 1 1 1 2 1 1 1 2 1 1 1 1 1 2 1 1 1 2 1 1 1 1 1 2 1 1 1 1 1 2 1 1 1 1 1 2 1 1 1 2 1 1 1 1 1 2 1 1 1 1
#synth env 41
end PySem.W.Fast
section
open PySem PySem.W PyProof.Rows
local macro_rules | `(tactic| refine $f:ident $as*)=>do
 unless f.getId==`PySem.W.holds_open do Lean.Macro.throwUnsupported
 `(tactic| (refine ($f $as*); case $(Lean.mkIdent `hc):ident=>exact $(Lean.mkIdent `hP)))
set_option maxRecDepth 100000 in
set_option maxHeartbeats 0 in
def H0:PSigma fun P:Prop=>P->PySem.Challenge.rw_foretell_k92_whole_store.Holds:=by
 refine' ⟨_,fun hP=>?_⟩
 rotate_left
 w_on; o_law; k_head
 w_witness2
end
section
open PySem PySem.Spec PyProof.Rows
def be:type_of% @List.length_map:=@List.length_map
def bf:type_of% @wpAny_bind:=@wpAny_bind
def bg:type_of% @List.getElem?_eq_getElem:=@List.getElem?_eq_getElem
def bi:type_of% @Heap.get?_push_of_some:=@Heap.get?_push_of_some
def bj:type_of% @Nat.le_refl:=@Nat.le_refl
def bn:type_of% @List.getElem?_map:=@List.getElem?_map
def bo:type_of% @wpAny_pure:=@wpAny_pure
def bp:type_of% @List.length_append:=@List.length_append
def bq:type_of% @List.mem_map:=@List.mem_map
def br:type_of% @decide_eq_true:=@decide_eq_true
def bv:type_of% @List.getElem?_eq_some_iff:=@List.getElem?_eq_some_iff
def bw:type_of% @Heap.lt_size:=@Heap.lt_size
def bx:type_of% @List.size_toArray:=@List.size_toArray
def bz:type_of% @Heap.get?_push_size:=@Heap.get?_push_size
def bA:type_of% @List.mem_of_getElem?:=@List.mem_of_getElem?
def bB:type_of% @List.mem_cons:=@List.mem_cons
def bC:type_of% @decide_eq_false:=@decide_eq_false
def bD:type_of% @Option.some.inj:=@Option.some.inj
def bE:type_of% @List.mem_singleton:=@List.mem_singleton
def bF:type_of% @List.map_append:=@List.map_append
def bH:type_of% @List.length_take:=@List.length_take
def bI:type_of% @Nat.not_lt_zero:=@Nat.not_lt_zero
def bJ:type_of% @Nat.zero_le:=@Nat.zero_le
def bK:type_of% @List.take_succ_eq_append_getElem:=@List.take_succ_eq_append_getElem
def bL:type_of% @Bool.false_ne_true:=@Bool.false_ne_true
def bM:type_of% @List.mem_cons_of_mem:=@List.mem_cons_of_mem
def bN:type_of% @List.mem_cons_self:=@List.mem_cons_self
def bO:type_of% @List.mem_append:=@List.mem_append
def bP:type_of% @Nat.le_trans:=@Nat.le_trans
def bQ:type_of% @Nat.ne_of_lt:=@Nat.ne_of_lt
def bR:type_of% @List.map_map:=@List.map_map
def bS:type_of% @List.mem_append_right:=@List.mem_append_right
def bT:type_of% @List.map_cons:=@List.map_cons
def bU:type_of% @List.length_range:=@List.length_range
def bV:type_of% @Bool.and_eq_true:=@Bool.and_eq_true
def bW:type_of% @List.length_cons:=@List.length_cons
def bX:type_of% @Int.mul_le_mul_of_nonneg_left:=@Int.mul_le_mul_of_nonneg_left
def bY:type_of% @List.take_length:=@List.take_length
def bZ:type_of% @Nat.lt_of_lt_of_le:=@Nat.lt_of_lt_of_le
def cb:type_of% @Int.mul_le_mul_of_nonneg_right:=@Int.mul_le_mul_of_nonneg_right
def cc:type_of% @List.getElem_mem:=@List.getElem_mem
def ce:type_of% @List.getElem?_eq_none:=@List.getElem?_eq_none
def cg:type_of% @Int.emod_lt_of_pos:=@Int.emod_lt_of_pos
def ci:type_of% @List.length_singleton:=@List.length_singleton
def cj:type_of% @List.getD_eq_getElem?_getD:=@List.getD_eq_getElem?_getD
def ck:type_of% @List.eq_nil_of_length_eq_zero:=@List.eq_nil_of_length_eq_zero
def cm:type_of% @List.take_of_length_le:=@List.take_of_length_le
def cn:type_of% @Int.emod_nonneg:=@Int.emod_nonneg
def cr:type_of% @List.replicate_succ:=@List.replicate_succ
def cu:type_of% @Array.length_toList:=@Array.length_toList
def cw:type_of% @wpAny_field:=@wpAny_field
def cy:type_of% @List.append_assoc:=@List.append_assoc
def cz:type_of% @List.mem_range:=@List.mem_range
def cA:type_of% @List.mem_filter:=@List.mem_filter
def cB:type_of% @List.eq_of_mem_replicate:=@List.eq_of_mem_replicate
def cC:type_of% @Option.map_eq_some_iff:=@Option.map_eq_some_iff
def cD:type_of% @wpAny_truthy_bool:=@wpAny_truthy_bool
def cE:type_of% @List.getElem?_range:=@List.getElem?_range
def cF:type_of% @List.length_replicate:=@List.length_replicate
def cG:type_of% @List.mem_of_mem_take:=@List.mem_of_mem_take
def cH:type_of% @List.length_drop:=@List.length_drop
def cI:type_of% @List.getElem?_append_right:=@List.getElem?_append_right
def cJ:type_of% @List.nodup_cons:=@List.nodup_cons
def cK:type_of% @List.getElem_map:=@List.getElem_map
def cL:type_of% @List.find?_cons_of_neg:=@List.find?_cons_of_neg
def cM:type_of% @wpAny_mono:=@wpAny_mono
def cN:type_of% @Option.map_some:=@Option.map_some
def cO:type_of% @List.append_nil:=@List.append_nil
def cP:type_of% @Nat.lt_irrefl:=@Nat.lt_irrefl
def cQ:type_of% @List.drop_eq_getElem_cons:=@List.drop_eq_getElem_cons
def cR:type_of% @beq_eq_false_iff_ne:=@beq_eq_false_iff_ne
def cS:type_of% @List.find?_cons_of_pos:=@List.find?_cons_of_pos
def cT:type_of% @List.any_eq_true:=@List.any_eq_true
end
abbrev Β:=Nat->PySem.Addr->Prop
abbrev Δ:=PySem.Value->PySem.Shared->Prop
abbrev Ε:=PySem.Str->Option PySem.Value
abbrev Η:=List (PySem.Str×List Int)
abbrev Θ:=List (PySem.Addr×PySem.Obj)
abbrev Λ:=Nat->List Int
abbrev Μ:=Nat->PySem.Addr
abbrev Ν:=PySem.Addr->Prop
abbrev Ξ:=Nat->Fin 3
abbrev Ο:=List PySem.Value
abbrev Ρ:=List Int
abbrev Τ:=List PySem.Str
abbrev Φ:=Option PySem.Str
abbrev Χ:=List PySem.Addr
abbrev xr:=PySem.W.Frag
abbrev x0:=PySem.Addr
abbrev qa:=PySem.Shared
abbrev qb:=PySem.Value
abbrev qc:=PySem.Stmt
abbrev qd:=PySem.World
abbrev qe:=PySem.Around
abbrev qf:=PySem.Heap
abbrev qg:=PySem.Expr
abbrev qh:=PySem.Program
abbrev qi:=List
abbrev qj:=Option
section
set_option tactic.hygienic false
namespace L2
open PySem PySem.Spec PyProof.Rows
variable{C a:x0}{op:CmpOp}{e tg:qg}{fd:FuncData}{h':qf}{pins:Θ}{kw:qi (Str×qb)}{fp:Χ}{es:qi qg}{body:qi qc}{us:Ο}{M:Model}{i t':Nat}{p:Pos}{P:qh}{s':qa}{mA:Ε}{u:qb}{E Q:Δ}
abbrev Key:=Sum Int Str
def ygs:Key->qb->Bool
 | .inl k,v=>Value.isInt k v
 | .inr x,v=>Value.isStrOf x v
def vge(w:qd):Key->Int
 | .inl k=>hashInt k
 | .inr x=>hashStr w x
theorem xa:∀{k:Key}{v:qb},ygs k v=true->(∃i t,k=Sum.inl i/\v=Value.int i t)\/(∃x t,k=Sum.inr x/\v=Value.str x t)
 | .inl i,v,h=>by
  let⟨t,e⟩:=Value.isInt_shape (k:=i) (v:=v) h;exact .inl ⟨i,t,rfl,e⟩
 | .inr x,v,h=>by
  let⟨t,e⟩:=Value.isStrOf_shape (x:=x) (v:=v) h;exact .inr ⟨x,t,rfl,e⟩
def yh4(i:Int)(t:Tok):ygs (.inl i) (.int i t)=true:=by simp[ygs,Value.isInt]
def yir(x:Str)(t:Tok):ygs (.inr x) (.str x t)=true:=by simp[ygs,Value.isStrOf]
def yxz(a b:Int):decide ((Sum.inl a:Key)=Sum.inl b)=(a == b):=by
 by_cases e:a=b
 .subst e;simp
 .have h:¬(Sum.inl a:Key)=Sum.inl b:=λq=>e (Sum.inl.inj q);rw[bC h];exact(cR.mpr e).symm
def yy2(a b:Str):decide ((Sum.inr a:Key)=Sum.inr b)=decide (a=b):=by
 by_cases e:a=b
 .subst e;simp
 .have h:¬(Sum.inr a:Key)=Sum.inr b:=λq=>e (Sum.inr.inj q);rw[bC h,bC e]
def yzp(a:Int)(b:Str):decide ((Sum.inl a:Key)=Sum.inr b)=false:=bC (λq=>nomatch q)
def yzt(a:Str)(b:Int):decide ((Sum.inr a:Key)=Sum.inl b)=false:=bC (λq=>nomatch q)
def wk(prog:qh)(w:qd):PySem.KeyKind prog w Key where
 is:=ygs
 hash:=vge w
 inj:=λv a b ha hb=>by
  rcases xa ha with⟨i,t,rfl,rfl⟩|⟨x,t,rfl,rfl⟩
  .rcases xa hb with⟨j,u,rfl,e⟩|⟨y,u,rfl,e⟩
   .injection e with e1 _;rw[e1]
   .exact nomatch e
  .rcases xa hb with⟨j,u,rfl,e⟩|⟨y,u,rfl,e⟩
   .exact nomatch e
   .injection e with e1 _;rw[e1]
 byValue:=λk v h=>by
  rcases xa h with⟨i,t,rfl,rfl⟩|⟨x,t,rfl,rfl⟩<;>rfl
 pyHash:=λhv h=>by
  rcases xa hv with⟨i,t,rfl,rfl⟩|⟨x,t,rfl,rfl⟩
  .exact wpAny_pyHash_int h
  .exact wpAny_pyHash_str h
 eqBool:=λhu hv h=>by
  rcases xa hu with⟨i,t,rfl,rfl⟩|⟨x,t,rfl,rfl⟩
  .rcases xa hv with⟨j,u,rfl,rfl⟩|⟨y,u,rfl,rfl⟩
   .rw[yxz]at h;exact wpAny_eqBool_int h
   .rw[yzp]at h;exact SeqAt.EqAt.int_str i t y u _ _ _ _ h
  .rcases xa hv with⟨j,u,rfl,rfl⟩|⟨y,u,rfl,rfl⟩
   .rw[yzt]at h;exact SeqAt.EqAt.str_int x t j u _ _ _ _ h
   .rw[yy2]at h;exact wpAny_eqBool_str h
 «strs»:=λk x t v h=>by
  rcases xa h with⟨i,u,rfl,e⟩|⟨y,u,rfl,e⟩
  .exact nomatch e
  .injection e with e1 _;subst e1;cases v<;>rfl
def ycm(prog:qh)(w:qd)(i:Int)(t:Tok):(wk prog w).is (.inl i) (.int i t)=true:=yh4 i t
def ycs(prog:qh)(w:qd)(x:Str)(t:Tok):(wk prog w).is (.inr x) (.str x t)=true:=yir x t
inductive V where
 |non|bl (b:Bool)|int (i:Int)|str (x:Str)|byt (b:Array UInt8)|flt (b:UInt64)|ref (a:x0)|ty (n:String)
 deriving DecidableEq
abbrev _root_.Ι:=qi (Str×V)
abbrev _root_.Κ:=qi (Key×V)
abbrev _root_.Υ:=qi V
abbrev _root_.Ψ:=qj V
variable{vs xs ys:Υ}{v y:V}
def xk:V->qb->Prop
 | .non,u=>u=Value.none
 | .bl b,u=>u=Value.bool b
 | .int i,u=>∃t,u=Value.int i t
 | .str x,u=>∃t,u=Value.str x t
 | .byt b,u=>∃t,u=Value.bytes b t
 | .flt b,u=>∃t,u=Value.float b t
 | .ref a,u=>u=Value.ref a
 | .ty n,u=>u=Value.type n
abbrev wu:qi V->qi qb->Prop:=Paired xk
theorem wu.length(r:wu xs us):xs.length=us.length:=Paired.length r
theorem wu.get:∀{xs:Υ}{us:Ο}{i:Nat}{x:V},wu xs us->xs[i]?=some x->∃u,us[i]?=some u/\xk x u
 |_,_,_,_,.nil,e=>by simp at e
 |_,_,0,_,.cons r _,e=>by simp at e;subst e;exists _,rfl,r
 |_,_,i+1,x,.cons _ t,e=>by
  let⟨u,b,a⟩:=wu.get (i:=i) (x:=x) t (by simpa using e);exists u,by simpa using b,a
theorem wu.set{x:V}(r:xk x u):∀{xs:Υ}{us:Ο}(i:Nat),wu xs us->wu (xs.set i x) (us.set i u)
 |_,_,_,.nil=>.nil
 |_,_,0,.cons _ t=>.cons r t
 |_,_,i+1,.cons q t=>.cons q (wu.set r i t)
def wu.append{ws:Ο}(h:wu xs us)(s:wu ys ws):wu (xs++ys) (us++ws):=by
 induction h with
 |nil=>exact s
 |cons r t ih=>exact .cons r ih
theorem wu.take:∀{xs:Υ}{us:Ο}(n:Nat),wu xs us->wu (xs.take n) (us.take n)
 |_,_,0,_=>.nil
 |_,_,_+1,.nil=>.nil
 |_,_,n+1,.cons r t=>.cons r (wu.take n t)
theorem wu.drop:∀{xs:Υ}{us:Ο}(n:Nat),wu xs us->wu (xs.drop n) (us.drop n)
 |_,_,0,r=>r
 |_,_,_+1,.nil=>.nil
 |_,_,n+1,.cons _ t=>wu.drop n t
def yb8:qj V->qj qb->Prop
 |some v,some u=>xk v u
 |none,none=>True
 |_,_=>False
def KV{κ:Type}:qi (κ×V)->qi (κ×qb)->Prop:=Paired λ(p:κ×V)(q:κ×qb)=>p.1=q.1/\xk p.2 q.2
def kV:Key->V
 | .inl i=>.int i
 | .inr x=>.str x
inductive HO where
 |lst (xs:Υ)
 |tup (xs:Υ)
 |dK (kvs:Κ)|dT (kvs:qi (qi Key×V))
 |set (S:Int->Bool) (n:Nat)
 |ins (C dx:x0) (fs:Ι)
 |own (x:x0)
 |xd (fs:Ι)
 |met (f x:x0)
 |rng (lo hi:Int)
 |frz (o:Obj) (u:HO)
 |tbl (ps:Array qb)
 |ext (φ:qf->Prop)
abbrev Hp:=x0->qj HO
variable{H H':Hp}
def upd(H:Hp)(a:x0)(o:HO):Hp:=λb=>if b=a then some o else H b
def ya{o:HO}:upd H a o a=some o:=by unfold upd;rw[if_pos rfl]
def yk{b:x0}{o:HO}(h:b≠a):upd H a o b=H b:=by unfold upd;rw[if_neg h]
def wz{b:x0}{o u:HO}(h:H a=some o)(h':H b=some u)(d:o≠u):a≠b:=by intro e;subst e;rw[h]at h';exact d (bD h')
def yb{b:x0}{o:HO}(h:H a=some o)(h':H b=none):a≠b:=by intro e;subst e;rw[h]at h';cases h'
section
variable(P:qh)(w:qd)
def w9(H:Hp)(h:qf)(a:x0):HO->Prop
 | .lst xs=>xs.length<=sizeLine/\∃(its:Ο)(n:Nat),wu xs its/\h.get? a=some { cls:=.type "list",data:=.seq its.toArray n}
 | .tup xs=>xs.length<=sizeLine/\∃its:Ο,wu xs its/\IsTup h a its.toArray
 | .dK kvs=>kvs.length<=sizeLine/\(a == sysModules)=false/\∃vs,KV kvs vs/\h.DictOf (wk P w) a vs
 | .dT kvs=>kvs.length<=sizeLine/\(a == sysModules)=false/\∃xs:qi (qi Key×x0×qb),
   Paired (λ(p:qi Key×V)(q:qi Key×x0×qb)=>p.1=q.1/\H q.2.1=some (.tup (p.1.map kV))/\xk p.2 q.2.2) kvs xs/\
   ∃o es ep,h.get? a=some o/\o.ExactDict/\o.data=.dict es ep/\es.toList=xs.map (entryOfKey (tupleKind (wk P w)))/\(xs.map (·.1)).Nodup
 | .set S n=>h.SetOf (intKind P w) a S n
 | .ins C dx fs=>H dx=some (.own a)/\fs.length<=1000/\dx≠a/\h.get? a=some (W.instObj C dx)/\
   ∃mA,h.Ns1 dx mA/\(∀f,yb8 (fs.lookup f) (mA f))/\PySem.Within mA (fs.map (·.1))
 | .own _=>∃o,h.get? a=some o
 | .xd fs=>∃mA,h.Ns1 a mA/\∀f,yb8 (fs.lookup f) (mA f)
 | .rng lo hi=>∃t u v,h.get? a=some { cls:=.type "range",data:=.fields #[.int lo t,.int hi u,.int 1 v]}
 | .frz o u=>h.get? a=some o/\w9 H h a u
 | .tbl ps=>h.get? a=some { cls:=.none,data:=.fields ps}
 | .met f x=>h.get? a=some (W.methodObj (.ref f) (.ref x))
 | .ext φ=>φ h/\(∃o,h.get? a=some o)/\∀h1 h2:qf,φ h1->(∀o,h1.get? a=some o->h2.get? a=some o)->φ h2
def HOk(H:Hp)(h:qf):Prop:=∀a o,H a=some o->w9 P w H h a o
end
section
variable{w:qd}{h:qf}{o:HO}
theorem w9.lt(x:w9 P w H h a o):a<h.objs.size:=by
 cases o with
 |lst xs=>let⟨_,_,_,_,e⟩:=x;exact bw e
 |tup xs=>let⟨_,_,_,p⟩:=x;exact p.lt
 |dK kvs=>let⟨_,_,_,_,o,_,_,e,_⟩:=x;exact bw e
 |dT kvs=>let⟨_,_,_,_,o,_,_,e,_⟩:=x;exact bw e
 |set S n=>let⟨o,_,_,_,e,_⟩:=x;exact bw e
 |ins C dx fs=>let⟨_,_,_,e,_⟩:=x;exact bw e
 |own y=>let⟨_,e⟩:=x;exact bw e
 |xd fs=>let⟨_,⟨_,_,_,e,_⟩,_⟩:=x;exact bw e
 |rng lo hi=>let⟨_,_,_,e⟩:=x;exact bw e
 |frz ob u=>let⟨e,_⟩:=x;exact bw e
 |tbl ps=>exact bw (show h.get? a=some _ from x)
 |met f y=>exact bw (show h.get? a=some _ from x)
 |ext φ=>let⟨_,⟨_,e⟩,_⟩:=x;exact bw e
def Paired.mapP{α β:Type}{F G:α->β->Prop}{l₁:qi α}{l₂:qi β}(h:Paired F l₁ l₂)(f:∀a b,F a b->G a b):Paired G l₁ l₂:=by
 induction h with
 |nil=>exact .nil
 |cons r t ih=>exact .cons (f _ _ r) ih
def w9.stay(x:w9 P w H h a o)(k:∀b u,(b=a\/H b=some (.own a))->h.get? b=some u->h'.get? b=some u)
  (ho:∀b,H b=some (.own a)->H' b=some (.own a)) (ht:∀b xs,H b=some (.tup xs)->H' b=some (.tup xs)):w9 P w H' h' a o:=by
 induction o with
 |lst xs=>let⟨z,j,n,r,e⟩:=x;exists z,j,n,r,k _ _ (.inl rfl) e
 |tup xs=>let⟨z,j,r,ob,e,c⟩:=x;exists z,j,r,ob,k _ _ (.inl rfl) e,c
 |dK kvs=>let⟨z,y,A,r,ob,i,g,e,c⟩:=x;exists z,y,A,r,ob,i,g,k _ _ (.inl rfl) e,c
 |dT kvs =>
  let⟨z,y,xs,r,ob,i,g,e,c⟩:=x;exists z,y,xs,Paired.mapP r λp q z=>⟨z.1,ht _ _ z.2.1,z.2.2⟩,ob,i,g,k _ _ (.inl rfl) e,c
 |set S n=>let⟨ob,i,g,t,e,c⟩:=x;exists ob,i,g,t,k _ _ (.inl rfl) e,c
 |ins C dx fs =>
  let⟨d,z,D,e,l,⟨m,i,g,B,c⟩,r⟩:=x;exists ho _ d,z,D,k _ _ (.inl rfl) e,l,⟨m,i,g,k _ _ (.inr d) B,c⟩,r
 |own y=>let⟨ob,e⟩:=x;exists ob,k _ _ (.inl rfl) e
 |xd fs=>let⟨l,⟨m,i,g,e,c⟩,r⟩:=x;exists l,⟨m,i,g,k _ _ (.inl rfl) e,c⟩,r
 |rng lo hi=>let⟨t,u,v,e⟩:=x;exists t,u,v,k _ _ (.inl rfl) e
 |frz ob u ih=>let⟨e,q⟩:=x;exists k _ _ (.inl rfl) e,ih q
 |tbl ps =>
  have e:h.get? a=some { cls:=.none,data:=.fields ps}:=x;show h'.get? a=some { cls:=.none,data:=.fields ps};exact k a _ (.inl rfl) e
 |met f y =>
  have e:h.get? a=some (W.methodObj (.ref f) (.ref y)):=x;show h'.get? a=some (W.methodObj (.ref f) (.ref y));exact k a _ (.inl rfl) e
 |ext φ=>let⟨p,⟨o,e⟩,s⟩:=x;exists s _ _ p λo q=>k _ _ (.inl rfl) q,⟨o,k _ _ (.inl rfl) e⟩,s
theorem HOk.lt(x:HOk P w H h)(e:H a=some o):a<h.objs.size:=(x a o e).lt
def HOk.fresh(x:HOk P w H h)(e:h.objs.size<=a):H a=none:=by
 cases q:H a with
 |none=>rfl
 |some u=>exact absurd (bZ (x.lt q) e) (cP _)
def HOk.kept(x:HOk P w H h)(k:∀b u,h.get? b=some u->h'.get? b=some u):HOk P w H h':=λa o e =>
 (x a o e).stay (λb u Z q=>k b u q) (λZ q=>q) λZ Z q=>q
def HOk.laid(x:HOk P w H h)(k:∀b u,h.get? b=some u->h'.get? b=some u)(hp:h.objs.size<=a)(new:w9 P w (upd H a o) h' a o):HOk P w (upd H a o) h':=λb u e=>by
 have d:=x.fresh hp;by_cases hb:b=a
 .subst hb;rw[ya]at e;cases e;exact new
 .rw[yk hb]at e;exact(x b u e).stay (λc v Z q=>k c v q) (λc q=>by rw[yk (yb q d)];exact q) λc f q=>by rw[yk (yb q d)];exact q
end
def Rd(H:Hp)(a:x0)(u:HO):Prop:=H a=some u\/∃o,H a=some (.frz o u)
def Rd.of{u:HO}(h:H a=some u):Rd H a u:=.inl h
def Rd.ok{w:qd}{h:qf}{u:HO}(r:Rd H a u)(x:HOk P w H h):w9 P w H h a u:=by
 rcases r with r|⟨o,r⟩
 .exact x a u r
 .obtain⟨_,q⟩:=x a _ r;exact q
def Mut:qj HO->Prop
 |some (.lst _)=>True
 |some (.dK _)=>True
 |some (.dT _)=>True
 |some (.set _ _)=>True
 |some (.ins _ _ _)=>True
 |some (.ext _)=>True
 |_=>False
section
variable{w:qd}{h:qf}{x e:x0}{o':HO}
def HOk.write(ok:HOk P w H h)(mu:Mut (H x))(he:e=x\/H e=some (.own x))(k:∀b u,b≠e->h.get? b=some u->h'.get? b=some u)(heo:∃u,h'.get? e=some u)
  (new:w9 P w (upd H x o') h' x o'):HOk P w (upd H x o') h':=λb u q=>by
 have a:∀c y,H c=some (.own y)->c≠x:=λc y r z=>by subst z;rw[r]at mu;exact mu
 have d:∀c g,H c=some (.tup g)->c≠x:=λc g r z=>by subst z;rw[r]at mu;exact mu
 by_cases hb:b=x
 .subst hb;rw[ya]at q;cases q;exact new
 .rw[yk hb]at q;by_cases hbe:b=e
  .have i:H b=some (.own x):=by
    rcases he with z|z
    .exact absurd (hbe.trans z) hb
    .rw[hbe];exact z
   rw[q]at i;cases i;let⟨v,j⟩:=heo;exists v,by rw[hbe];exact j
  .refine(ok b u q).stay (λc v f r=>k c v ?_ r) (λc r=>by rw[yk (a c b r)];exact r) λc g r=>by rw[yk (d c g r)];exact r
   rcases f with rfl|f
   .exact hbe
   .rintro rfl;rcases he with z|z
    .exact a c b f z
    .rw[f]at z;cases z;exact hb rfl
end
structure Un(fs ex:Χ)(H H':Hp)(h h':qf):Prop where
 keep:∀b o,h.get? b=some o->H b=none->b∉fs->b∉ex->h'.get? b=some o
 slot:∀b o,h.get? b=some o->H b=none->b∈fs->b∉ex->∃sl,h'.get? b=some {o with slots:=sl}
 free:∀b o,h.get? b=some o->H b=none->b∉ex->H' b=none
 there:∀b o,h.get? b=some o->b∉ex->∃o',h'.get? b=some o'
 tups:∀b xs,H b=some (.tup xs)->H' b=some (.tup xs)
 frzs:∀b o u,H b=some (.frz o u)->H' b=some (.frz o u)
 tbls:∀b ps,H b=some (.tbl ps)->∃more,H' b=some (.tbl (ps++more))
section
variable{fs fs' ex ex':Χ}{H1 H2:Hp}{h h1 h2:qf}{x e:x0}{o:HO}
def Un.any(u:Un fs ex H H1 h h1){b:x0}{ob:Obj}(q:h.get? b=some ob)(n:H b=none)(hx:b∉ex):∃sl,h1.get? b=some {ob with slots:=sl}:=by
 by_cases hb:b∈fs
 .exact u.slot b ob q n hb hx
 .exists ob.slots,u.keep b ob q n hb hx
def Un.kept(k:∀b u,h.get? b=some u->h'.get? b=some u):Un fs ex H H h h' :=
 ⟨λb a q Z Z Z=>k b a q,λb a q Z Z Z=>⟨a.slots,k b a q⟩,λZ Z Z n Z=>n,λb a q Z=>⟨a,k b a q⟩,λZ Z q=>q,λZ Z Z q=>q,λZ c q=>⟨#[],by rw[q];simp⟩⟩
def Un.refl:Un fs ex H H h h:=Un.kept λZ Z q=>q
def Un.laid(k:∀b u,h.get? b=some u->h'.get? b=some u)(hp:h.objs.size<=a)(hn:H a=none):Un fs ex H (upd H a o) h h' where
 keep:=λb u q Z Z Z=>k b u q
 slot:=λb u q Z Z Z=>⟨u.slots,k b u q⟩
 free:=λb u q n Z=>by rw[yk (bQ (bZ (bw q) hp))];exact n
 there:=λb u q Z=>⟨u,k b u q⟩
 tups:=λb c q=>by rw[yk (yb q hn)];exact q
 frzs:=λb u c q=>by rw[yk (yb q hn)];exact q
 tbls:=λb d q=>⟨#[],by rw[yk (yb q hn),q];simp⟩
def Un.write(mu:Mut (H x))(he:e=x\/H e=some (.own x))(k:∀b u,b≠e->h.get? b=some u->h'.get? b=some u)(heo:∃u,h'.get? e=some u):Un fs ex H (upd H x o) h h':=by
 have d:∀b,H b=none->b≠x:=λb n z=>by subst z;rw[n]at mu;exact mu
 have c:∀b,H b=none->b≠e:=λb n z=>by
  subst z;rcases he with r|r
  .exact d b n r
  .rw[n]at r;cases r
 have a:∀b u,H b=some u->¬Mut (some u)->b≠x:=λb u q g z=>by subst z;rw[q]at mu;exact g mu
 refine⟨λb u q n Z Z=>k b u (c b n) q,λb u q n Z Z=>⟨u.slots,k b u (c b n) q⟩,λb u q n Z=>by rw[yk (d b n)];exact n,λb u q Z=>?_,
  λb f q=>by rw[yk (a b _ q λz=>z)];exact q,λb u f q=>by rw[yk (a b _ q λz=>z)];exact q,λb i q=>⟨#[],by rw[yk (a b _ q λz=>z),q];simp⟩⟩
 by_cases hbe:b=e
 .subst hbe;exact heo
 .exists u,k b u hbe q
end
def trk(h:qf)(H:Hp):Χ:=(List.range h.objs.size).filter λa=>(H a).isSome
def yny(h:qf)(H:Hp):qf:=W.hideAll h (trk h H)
def yh3(h:qf)(H:Hp):(yny h H).objs.size=h.objs.size:=W.hideAll_size _ _
def ylr{h:qf}{b:x0}{o:Obj}(e:h.get? b=some o)(n:H b=none):(yny h H).get? b=some o :=
 W.hideAll_get _ e λa=>by
  have q:(H b).isSome=true:=(cA.mp a).2;rw[n]at q;simp at q
def yrn{h:qf}{b:x0}{o:Obj}(e:(yny h H).get? b=some o):h.get? b=some o/\H b=none:=by
 have a:h.get? b=some o:=W.of_hideAll (trk h H) e;exists a,?_
 cases q:H b with
 |none=>rfl
 |some x =>
  have c:b∈trk h H:=cA.mpr ⟨cz.mpr (bw a),by simp[q]⟩;have z:(yny h H).get? b=none:=W.hideAll_none (trk h H) c;rw[z]at e;cases e
def yth(g h:qf)(L:x0):Θ:=(List.range h.objs.size).filterMap λa=>if a=L\/(g.get? a).isSome=true then none else (h.get? a).map λo=>(a,o)
def Ā(g h:qf)(L d:x0):Θ:=(yth g h L).filter λp=>decide (p.1≠d)
structure Mod(K:xr)(mg:Ε)(base:qf):Prop where
 kin:K.In base
 glob:base.Ns mainGlobals mg
 blt:∃mb,base.Ns builtinsNs mb/\∀x:Str,x≠"__name__"->mb x=bootBuiltins x
 nolimit:base.NoLimit
structure Cx where
 prog:qh
 w:qd
 K:xr
 mg:Ε
 base:qf
 A:qe
 N:Τ
 s₀:qa
 H₀:Hp
 env:Env
 outer:qi Env
 stack:qi Env
 ex:Χ
 fn:Str->Bool
 calm:Bool
 pn:Θ
 xe:Δ
variable{X:Cx}
def frs(l:qi Env):Χ:=l.filterMap (·.frame)
abbrev Cx.fs(X:Cx):Χ:=frs X.outer
def Vis(sc:Scope)(x:Str):Prop:=sc.names.lookup x=some .local\/sc.names.lookup x=some .cell\/sc.names.lookup x=some .free
def Loc(sc:Scope)(x:Str):Prop:=sc.names.lookup x=some .local\/sc.names.lookup x=some .cell
def vgg(env:Env)(h:qf)(m:Ε)(x:Str)(u:qb):Prop :=
 (env.kindOf x=some .local/\m x=some u)\/((env.kindOf x=some .cell\/env.kindOf x=some .free)/\∃c,env.cells.lookup x=some c/\h.IsCell c (some u))
structure Cx.Ok(X:Cx):Prop where
 mod:Mod X.K X.mg X.base
 kind:X.env.scope.kind=.function
 glob:X.env.globals=mainGlobals
 blt:X.env.builtins=builtinsNs
 above:X.s₀.heap.objs.size<=X.env.locals
 inj:∀x y c,X.env.cells.lookup x=some c->X.env.cells.lookup y=some c->x=y
 has:∀x,(X.env.kindOf x=some .cell\/X.env.kindOf x=some .free)->∃c,X.env.cells.lookup x=some c
 cab:∀x c,X.fn x=true->X.env.cells.lookup x=some c->X.s₀.heap.objs.size<=c
 hd:X.calm=true->X.A.handled=none
 frames:X.A.frames=some X.stack
 stk:X.stack=X.outer\/(X.stack=X.env::X.outer/\X.env.frame=some X.env.locals)
 exf:∀b∈X.ex,b≠X.env.locals/\∀x c,X.env.cells.lookup x=some c->c≠b
 bs:∀b o,X.base.get? b=some o->X.s₀.heap.get? b=some o/\X.H₀ b=none
 bsz:X.base.objs.size<=X.s₀.heap.objs.size
 noex:∀b o,X.base.get? b=some o->b∉X.ex
 exfs:∀b∈X.ex,b∉X.fs
 funs:X.s₀.heap.FunFrames X.base X.outer
 frf:∀b∈X.fs,X.H₀ b=none
structure Inv(X:Cx)(pins:Θ)(σ:qi (Ψ))(H:Hp)(s:qa):Prop where
 ok:X.Ok
 os:s.os=X.s₀.os
 bare:AllBare s.gens
 base:Un X.fs X.ex X.H₀ H X.s₀.heap s.heap
 loc:∃m,s.heap.Ns X.env.locals m/\∀(i:Nat)(x:Str)(v:V),X.N[i]?=some x->σ[i]?=some (some v)->Vis X.env.scope x->∃u,xk v u/\vgg X.env s.heap m x u
 cell:∀x c,X.env.cells.lookup x=some c->∃v,s.heap.IsCell c v
 free:H X.env.locals=none
 freeC:∀x c,X.env.cells.lookup x=some c->H c=none
 pin:∀p∈X.pn++pins,s.heap.get? p.1=some p.2/\H p.1=none/\p.1≠X.env.locals/\p.1∉X.fs/\∀v,p.2.data≠.cell v
 hok:HOk X.prog X.w H s.heap
 len:σ.length=X.N.length
section
variable{σ:qi (Ψ)}{s:qa}
def Cx.Ok.nofr(ok:X.Ok){b:x0}{o:Obj}(e:X.base.get? b=some o):b∉X.fs:=λa=>by
 have:=(ok.funs.mem a).1;rw[e]at this;cases this
theorem Inv.bs(I:Inv X pins σ H s):∀b o,X.base.get? b=some o->s.heap.get? b=some o/\H b=none:=λb o e =>
 ⟨I.base.keep b o (I.ok.bs b o e).1 (I.ok.bs b o e).2 (I.ok.nofr e) (I.ok.noex b o e),I.base.free b o (I.ok.bs b o e).1 (I.ok.bs b o e).2 (I.ok.noex b o e)⟩
def Inv.bk(I:Inv X pins σ H s):∀b o,X.base.get? b=some o->s.heap.get? b=some o:=λb o e=>(I.bs b o e).1
theorem Inv.mod(I:Inv X pins σ H s):Mod X.K X.mg X.base:=I.ok.mod
def Inv.kIn(I:Inv X pins σ H s):X.K.In s.heap:=I.ok.mod.kin.keeps I.bk
theorem Inv.lt(I:Inv X pins σ H s):X.env.locals<s.heap.objs.size:=let ⟨_,hn,_⟩:=I.loc;hn.lt
def Inv.sz(I:Inv X pins σ H s):X.s₀.heap.objs.size<=s.heap.objs.size:=bP I.ok.above (Nat.le_of_lt I.lt)
def Inv.nofs(I:Inv X pins σ H s)(h:s.heap.objs.size<=a):a∉X.fs:=λc=>by
 let⟨_,o,b,_⟩:=I.ok.funs.mem c;exact absurd (bZ (bw b) (bP I.sz h)) (cP _)
def Inv.cne(I:Inv X pins σ H s):∀x c,X.env.cells.lookup x=some c->c≠X.env.locals:=λx c e z=>by
 let⟨v,o,d,f⟩:=I.cell x c e;let⟨m,⟨g,i,h,b,a,_⟩,_⟩:=I.loc;rw[z,b]at d;cases d;rw[a]at f;cases f
theorem Inv.funs(I:Inv X pins σ H s):s.heap.FunFrames X.base X.outer:=by
 have f:∀(l:qi Env),(∀b∈frs l,b∈X.fs)->X.s₀.heap.FunFrames X.base l->s.heap.FunFrames X.base l:=by
  intro l
  induction l with
  |nil=>intro _ _;trivial
  |cons env r ih =>
   intro g i;let⟨k,⟨L,o,d,m,j,n⟩,h⟩:=i;have a:L∈X.fs:=g L (by unfold frs;rw[List.filterMap_cons,d];exact bN);let⟨p,e⟩:=I.base.slot L o j (I.ok.frf L a) a λz=>I.ok.exfs L z a;exists k,⟨L,_,d,m,e,n⟩,ih (λb c=>g b (by unfold frs;rw[List.filterMap_cons,d];exact bM _ c)) h
 exact f X.outer (λZ c=>c) I.ok.funs
theorem Inv.stack(I:Inv X pins σ H s):s.heap.FunFrames X.base X.stack:=by
 rcases I.ok.stk with e|⟨e,b⟩
 .rw[e];exact I.funs
 .rw[e];let⟨m,a,_⟩:=I.loc;refine .cons (by rw[I.ok.kind];decide) b a ?_ I.funs;exact Heap.get?_none_of_le (bP I.ok.bsz I.ok.above)
def Inv.stkSub(I:Inv X pins σ H s):∀b∈frs X.stack,b∈X.env.locals::X.fs:=λb a=>by
 rcases I.ok.stk with e|⟨e,c⟩
 .rw[e]at a;exact bM _ a
 .rw[e]at a;unfold frs at a;rw[List.filterMap_cons,c]at a;exact a
def Inv.stkFree(I:Inv X pins σ H s):∀b∈frs X.stack,H b=none:=λb a=>by
 rcases bB.mp (I.stkSub b a)with e|a
 .rw[e];exact I.free
 .obtain⟨_,o,c,_⟩:=I.ok.funs.mem a;exact I.base.free b o c (I.ok.frf b a) λz=>I.ok.exfs b z a
def Inv.step{g':Array GenState}{d':Drawn}{ch:Χ}(I:Inv X pins σ H s)
  (hch:∀b∈ch,(b∈X.ex\/X.s₀.heap.objs.size<=b)/\b≠X.env.locals/\(∀x c,X.env.cells.lookup x=some c->c≠b)/\∀p∈X.pn++pins,p.1≠b)
  (keep:∀b o,b≠X.env.locals->b∉X.fs->b∉ch->s.heap.get? b=some o->H b=none->h'.get? b=some o)
  (slot:∀b o,b≠X.env.locals->b∈X.fs->b∉ch->s.heap.get? b=some o->H b=none->∃sl,h'.get? b=some {o with slots:=sl}) (free:∀b o,b∉ch->s.heap.get? b=some o->H b=none->H' b=none)
  (there:∀b o,b∉ch->s.heap.get? b=some o->∃o',h'.get? b=some o')
  (tups:∀b xs,H b=some (.tup xs)->H' b=some (.tup xs)) (frzs:∀b o u,H b=some (.frz o u)->H' b=some (.frz o u)) (tbls:∀b ps,H b=some (.tbl ps)->∃more,H' b=some (.tbl (ps++more)))
  (ns:∀m,s.heap.Ns X.env.locals m->h'.Ns X.env.locals m) (hok:HOk X.prog X.w H' h') (hg:AllBare g'):
  Inv X pins σ H' {s with heap:=h',gens:=g',drawn:=d',toks:=t'}:=by
 have A:∀b o,X.s₀.heap.get? b=some o->b≠X.env.locals:=λb o e=>bQ (bZ (bw e) I.ok.above)
 have j:∀b o,X.s₀.heap.get? b=some o->b∉X.ex->b∉ch:=λb o e a t=>by
  rcases (hch b t).1 with z|z
  .exact a z
  .exact absurd (bZ (bw e) z) (cP _)
 have g:∀x c,X.env.cells.lookup x=some c->∀v,s.heap.IsCell c v->h'.IsCell c v:=λx c e v ⟨o,y,C⟩=>by
  have f:c∉ch:=λz=>(hch c z).2.2.1 x c e rfl;by_cases hc:c∈X.fs
  .obtain⟨sl,q⟩:=slot c o (I.cne x c e) hc f y (I.freeC x c e);exists _,q,C
  .exists o,keep c o (I.cne x c e) hc f y (I.freeC x c e),C
 exists I.ok,I.os,hg,⟨λb o e n t a=>?_,λb o e n t a=>?_,λb o e n a=>?_,λb o e a=>?_,λb xs e=>tups b xs (I.base.tups b xs e),λb o xs e=>frzs b o xs (I.base.frzs b o xs e),λb ps e=>?_⟩,?_,λx c e=>?_,?_,λx c e=>?_,λp G=>?_,hok,I.len
 .exact keep b o (A b o e) t (j b o e a) (I.base.keep b o e n t a) (I.base.free b o e n a)
 .obtain⟨sl,h⟩:=I.base.slot b o e n t a;let⟨D,B⟩:=slot b _ (A b o e) t (j b o e a) h (I.base.free b o e n a);exists D,B
 .obtain⟨o',h⟩:=I.base.there b o e a;exact free b o' (j b o e a) h (I.base.free b o e n a)
 .obtain⟨o',h⟩:=I.base.there b o e a;exact there b o' (j b o e a) h
 .obtain⟨J,h⟩:=I.base.tbls b ps e;let⟨M,B⟩:=tbls b _ h;exists J++M,by rw[B,Array.append_assoc]
 .obtain⟨m,L,N⟩:=I.loc;exists m,ns m L,λi x v h B K=>?_;let⟨u,r,l⟩:=N i x v h B K;exists u,r,?_;rcases l with l|⟨k,c,e,z⟩
  .exact .inl l
  .exact .inr ⟨k,c,e,g x c e _ z⟩
 .obtain⟨v,z⟩:=I.cell x c e;exists v,g x c e v z
 .obtain⟨m,⟨o,_,_,y,_⟩,_⟩:=I.loc;exact free _ o (λz=>(hch _ z).2.1 rfl) y I.free
 .obtain⟨v,o,y,C⟩:=I.cell x c e;exact free c o (λz=>(hch c z).2.2.1 x c e rfl) y (I.freeC x c e)
 .obtain⟨e,n,E,F,d⟩:=I.pin p G;have f:p.1∉ch:=λz=>(hch p.1 z).2.2.2 p G rfl;exists keep p.1 p.2 E F f e n,free p.1 p.2 f e n,E,F,d
def Inv.un(I:Inv X pins σ H s)(u:Un X.fs [] H H' s.heap h')(hok:HOk X.prog X.w H' h'):Inv X pins σ H' {s with heap:=h',toks:=t'}:=by
 let⟨m,⟨o,t,q,g,r⟩,_⟩:=id I.loc;let⟨l,h⟩:=u.any g I.free (by simp)
 exact I.step (g':=s.gens) (d':=s.drawn) (ch:=[]) (λZ z=>nomatch z) (λb o Z c Z e n=>u.keep b o e n c (by simp)) (λb o Z c Z e n=>u.slot b o e n c (by simp)) (λb o Z e n=>u.free b o e n (by simp)) (λb o Z e=>u.there b o e (by simp)) u.tups u.frzs u.tbls (λk j=>by
  let⟨p,d,f,a,i⟩:=j;rw[g]at a;cases a;exact⟨_,d,f,h,i⟩) hok I.bare
def Inv.call{g':Array GenState}{d':Drawn}{ch:Χ}(I:Inv X pins σ H s)(u:Un (frs X.stack) ch H H' s.heap h')(hok:HOk X.prog X.w H' h')(hg:AllBare g')
  (hch:∀b∈ch,(b∈X.ex\/X.s₀.heap.objs.size<=b)/\b≠X.env.locals/\(∀x c,X.env.cells.lookup x=some c->c≠b)/\∀p∈X.pn++pins,p.1≠b):
  Inv X pins σ H' {s with heap:=h',gens:=g',drawn:=d',toks:=t'}:=by
 let⟨m,⟨o,A,y,i,r⟩,_⟩:=id I.loc;let⟨t,f⟩:=u.any i I.free λz=>(hch _ z).2.1 rfl
 exact I.step (ch:=ch) hch (λb o f j a e n=>u.keep b o e n (λz=>(bB.mp (I.stkSub b z)).elim f j) a) (λb o Z Z a e n=>u.any e n a) (λb o a e n=>u.free b o e n a) (λb o a e=>u.there b o e a) u.tups u.frzs u.tbls (λq l=>by
  let⟨v,g,h,d,k⟩:=l;rw[i]at d;cases d;exact⟨_,g,h,f,k⟩) hok hg
def Inv.turned{it:x0}(I:Inv X pins σ H s)(k:∀b o,b≠it->s.heap.get? b=some o->h'.get? b=some o)(hn:H it=none)(hL:it≠X.env.locals)
  (h1:it∈X.ex\/X.s₀.heap.objs.size<=it) (h2:∀x c,X.env.cells.lookup x=some c->c≠it) (h3:∀p∈X.pn++pins,p.1≠it):Inv X pins σ H {s with heap:=h',toks:=t'}:=by
 have d:∀b u,H b=some u->b≠it:=λb u e z=>by rw[z,hn]at e;cases e
 refine I.step (g':=s.gens) (d':=s.drawn) (ch:=[it]) (λb f=>?_) (λb o Z Z a e Z=>k b o (λz=>a (by simp[z])) e) (λb o Z Z a e Z=>⟨o.slots,k b o (λz=>a (by simp[z])) e⟩) (λZ Z Z Z n=>n)
  (λb o a e=>⟨o,k b o (λz=>a (by simp[z])) e⟩) (λZ Z e=>e) (λZ Z Z e=>e) (λb l e=>⟨#[],by rw[e];simp⟩) (λm h=>?_) (λb u e=>?_) I.bare
 .have e:b=it:=by simpa using f
  subst e;exact⟨h1,hL,h2,h3⟩
 .obtain⟨o,j,i,g,r⟩:=h;exists o,j,i,k _ o (Ne.symm hL) g,r
 .refine(I.hok b u e).stay (λc v a q=>k c v ?_ q) (λZ q=>q) λZ Z q=>q;rcases a with z|z
  .rw[z];exact d b u e
  .exact d c _ z
def Inv.tok(I:Inv X pins σ H s)(t:Nat):Inv X pins σ H {s with toks:=t}:=I.un (h':=s.heap) (t':=t) Un.refl I.hok
theorem Inv.kept(I:Inv X pins σ H s)(k:∀b u,s.heap.get? b=some u->h'.get? b=some u):Inv X pins σ H {s with heap:=h',toks:=t'}:=I.un (Un.kept k) (I.hok.kept k)
theorem Inv.laid{o:HO}(I:Inv X pins σ H s)(k:∀b u,s.heap.get? b=some u->h'.get? b=some u)(hp:s.heap.objs.size<=a)(new:w9 X.prog X.w (upd H a o) h' a o):
  Inv X pins σ (upd H a o) {s with heap:=h',toks:=t'}:=I.un (Un.laid k hp (I.hok.fresh hp)) (I.hok.laid k hp new)
theorem Inv.write{x e:x0}{o:HO}(I:Inv X pins σ H s)(mu:Mut (H x))(he:e=x\/H e=some (.own x))(k:∀b u,b≠e->s.heap.get? b=some u->h'.get? b=some u)(heo:∃u,h'.get? e=some u)
  (new:w9 X.prog X.w (upd H x o) h' x o):Inv X pins σ (upd H x o) {s with heap:=h',toks:=t'}:=I.un (Un.write mu he k heo) (I.hok.write mu he k heo new)
def Inv.pins_of{pins':Θ}(I:Inv X pins σ H s)(h:∀p∈pins',s.heap.get? p.1=some p.2/\H p.1=none/\p.1≠X.env.locals/\p.1∉X.fs/\∀v,p.2.data≠.cell v):Inv X pins' σ H s :=
 ⟨I.ok,I.os,I.bare,I.base,I.loc,I.cell,I.free,I.freeC,λp a=>(bO.mp a).elim (λz=>I.pin p (List.mem_append_left _ z)) (h p),I.hok,I.len⟩
def yd7{N:Τ}(hN:N.Nodup){j:Nat}{x:Str}(a:N[i]?=some x)(b:N[j]?=some x):i=j:=by let⟨f,c⟩:=bv.mp a;let⟨e,d⟩:=bv.mp b;exact(List.getElem_inj hN).mp (c.trans d.symm)
def È{A:qe}{x:Str}{Q:Unit->qa->Prop}(I:Inv X pins σ H s)(hN:X.N.Nodup)(hi:X.N[i]?=some x)(hx:Loc X.env.scope x)(r:xk v u)
  (h:∀s',Inv X pins (σ.set i (some v)) H s'->(∃a,Heap.SameBut a s.heap s'.heap/\(a=X.env.locals\/X.env.cells.lookup x=some a))->Q () s') (hf:X.fn x=true\/X.env.scope.names.lookup x=some .local:=by first|exact .inl rfl|exact .inr rfl|assumption):wpAny M A (storeName X.env x u) Q E s:=by
 let⟨m,hn,hl⟩:=id I.loc;have L:(X.env.scope.kind == .class || (X.env.scope.kind == .module && X.env.locals != X.env.globals))=false:=by rw[I.ok.kind];rfl
 have hiσ:i<σ.length:=by rw[I.len];exact(bv.mp hi).1
 have J:=I.cne
 have l:∀{a:x0}{K:qf},(∃o,s.heap.get? a=some o/\H a=none)->Heap.SameBut a s.heap K->HOk X.prog X.w H K:=λ{a K}ha f b ob e=>by
  let⟨_,_,B⟩:=ha;refine(I.hok b ob e).stay (λc S t q=>(f.2 c ?_).trans q) (λN q=>q) λN N q=>q;rintro rfl;rcases t with rfl|t
  .rw[B]at e;cases e
  .rw[B]at t;cases t
 rcases hx with D|D
 .refine wpAny_storeName_local D hn (λK a0 f=>?_) L;let⟨oL,_,_,Z,_⟩:=id hn;refine h _ ⟨I.ok,I.os,I.bare,⟨λb o e n F hx=>?_,λb o e n F hx=>?_,I.base.free,λb o e hx=>?_,I.base.tups,I.base.frzs,I.base.tbls⟩,⟨_,a0,λj y v' g C Y=>?_⟩,λy c e=>?_,I.free,I.freeC,λp hp=>?_,l ⟨oL,Z,I.free⟩ f,by simpa using I.len⟩ ⟨_,f,.inl rfl⟩
  .exact(f.2 b (bQ (bZ (bw e) I.ok.above))).trans (I.base.keep b o e n F hx)
  .obtain⟨W,g⟩:=I.base.slot b o e n F hx;exists W,(f.2 b (bQ (bZ (bw e) I.ok.above))).trans g
  .obtain⟨o',g⟩:=I.base.there b o e hx;exists o',(f.2 b (bQ (bZ (bw e) I.ok.above))).trans g
  .by_cases hj:j=i
   .subst hj;rw[hi]at g;cases g;rw[List.getElem?_set_self hiσ]at C;cases C;exists u,r,.inl ⟨D,by simp⟩
   .rw[List.getElem?_set_ne (Ne.symm hj)]at C;let⟨u',r',q⟩:=hl j y v' g C Y;exists u',r',?_;rcases q with⟨k,e⟩|⟨k,c,e,z⟩
    .refine .inl ⟨k,?_⟩;have:y≠x:=λe=>hj (yd7 hN g (e ▸ hi));simp[this,e]
    .exact .inr ⟨k,c,e,z.sameBut f (J y c e)⟩
  .obtain⟨S,z⟩:=I.cell y c e;exists S,z.sameBut f (J y c e)
  .obtain⟨e,n,T,nf,d⟩:=I.pin p hp;exists(f.2 p.1 T).trans e,n,T,nf,d
 .have G:X.fn x=true:=by
   rcases hf with z|z
   .exact z
   .rw[z]at D;cases D
  let⟨c,t⟩:=I.ok.has x (.inl D);let⟨S,z⟩:=I.cell x c t;refine wpAny_storeName_cell I.ok.kind D t z (λK R f=>?_);let⟨oc,O,P⟩:=id z;refine h {s with heap:=K} ⟨I.ok,I.os,I.bare,⟨λb o e n F hx=>?_,λb o e n F hx=>?_,I.base.free,λb o e hx=>?_,I.base.tups,I.base.frzs,I.base.tbls⟩,⟨m,hn.sameBut f (Ne.symm (J x c t)),λj y v' g C Y=>?_⟩,λy U e=>?_,I.free,I.freeC,λp hp=>?_,l ⟨oc,O,I.freeC x c t⟩ f,by simpa using I.len⟩ ⟨c,f,.inr t⟩
  .exact(f.2 b (bQ (bZ (bw e) (I.ok.cab x c G t)))).trans (I.base.keep b o e n F hx)
  .obtain⟨W,g⟩:=I.base.slot b o e n F hx;exists W,(f.2 b (bQ (bZ (bw e) (I.ok.cab x c G t)))).trans g
  .obtain⟨o',g⟩:=I.base.there b o e hx;exists o',(f.2 b (bQ (bZ (bw e) (I.ok.cab x c G t)))).trans g
  .by_cases hj:j=i
   .subst hj;rw[hi]at g;cases g;rw[List.getElem?_set_self hiσ]at C;cases C;exists u,r,.inr ⟨.inl D,c,t,R⟩
   .rw[List.getElem?_set_ne (Ne.symm hj)]at C;let⟨u',r',q⟩:=hl j y v' g C Y;exists u',r',?_;rcases q with q|⟨k,U,e,z'⟩
    .exact .inl q
    .refine .inr ⟨k,U,e,z'.sameBut f ?_⟩;rintro rfl;exact hj (yd7 hN g (I.ok.inj _ _ _ e t ▸ hi))
  .by_cases hcc:U=c
   .subst hcc;exists _,R
   .obtain⟨w2,z2⟩:=I.cell y U e;exists w2,z2.sameBut f hcc
  .obtain⟨e,n,T,nf,d⟩:=I.pin p hp;exists(f.2 p.1 ?_).trans e,n,T,nf,d;intro q;rw[q,O]at e;have q':oc=p.2:=bD e;exact d S (by rw[<- q'];exact P)
def yd1{A:qe}{x:Str}{Q:Unit->qa->Prop}(I:Inv X pins σ H s)(hN:X.N.Nodup)(hi:X.N[i]?=some x)(hx:Loc X.env.scope x)(r:xk v u)
  (h:∀s',Inv X pins (σ.set i (some v)) H s'->Q () s') (hf:X.fn x=true\/X.env.scope.names.lookup x=some .local:=by first|exact .inl rfl|exact .inr rfl|assumption):wpAny M A (storeName X.env x u) Q E s :=
 È I hN hi hx r (λs' a Z=>h s' a) hf
def Inv.call'{ch:Χ}(I:Inv X pins σ H s)(ho:s'.os=s.os)(u:Un (frs X.stack) ch H H' s.heap s'.heap)(hok:HOk X.prog X.w H' s'.heap)(hg:AllBare s'.gens)
  (hch:∀b∈ch,(b∈X.ex\/X.s₀.heap.objs.size<=b)/\b≠X.env.locals/\(∀x c,X.env.cells.lookup x=some c->c≠b)/\∀p∈X.pn++pins,p.1≠b):Inv X pins σ H' s':=by let⟨d,g',d',t',a⟩:=s';have e:a=s.os:=ho;subst e;exact I.call (g':=g') (t':=t') (d':=d') u hok hg hch
end
abbrev XK:=qb->qj x0->Hp->Prop
abbrev St:=qi (Ψ)
abbrev _root_.Ζ:=St->Hp->Prop
variable{σ:St}
abbrev VK:=V->Hp->Prop
abbrev TE:=St->Hp->VK->Prop
variable{ta te:TE}
abbrev TT:=St->Hp->(Bool->Hp->Prop)->Prop
abbrev TA:=St->Hp->(qi V->Hp->Prop)->Prop
structure ā where
 nx:Ζ
 rt:VK
 bk:Ζ:=λZ Z=>False
 ct:Ζ:=λZ Z=>False
abbrev TS:=ā->St->Hp->Prop
def EP(X:Cx)(pins:Θ)(σ:St)(Q:VK)(u:qb)(s':qa):Prop:=∃v H',Inv X pins σ H' s'/\xk v u/\Q v H'
def TP(X:Cx)(pins:Θ)(σ:St)(Q:Bool->Hp->Prop)(b:Bool)(s':qa):Prop:=∃H',Inv X pins σ H' s'/\Q b H'
def AP(X:Cx)(pins:Θ)(σ:St)(Q:qi V->Hp->Prop)(us:Ο)(s':qa):Prop:=∃vs H',Inv X pins σ H' s'/\wu vs us/\Q vs H'
def SP(X:Cx)(pins:Θ)(D:ā)(f:Flow)(s':qa):Prop :=
 match f with
 | .next=>∃σ' H',Inv X pins σ' H' s'/\D.nx σ' H'
 | .brk=>∃σ' H',Inv X pins σ' H' s'/\D.bk σ' H'
 | .cont=>∃σ' H',Inv X pins σ' H' s'/\D.ct σ' H'
 | .ret u=>∃v σ' H',Inv X pins σ' H' s'/\xk v u/\D.rt v H'
structure PE(X:Cx)(e:qg)(t:TE):Prop where
 go:∀(pins:Θ)(s:qa)(σ:St)(H:Hp)(Q:VK),Inv X pins σ H s->t σ H Q->wpAny (model X.prog X.w) X.A (eval e X.env) (EP X pins σ Q) X.xe s
instance {X:Cx}{e:qg}{t:TE}:CoeFun (PE X e t) (λZ=>∀(pins:Θ)(s:qa)(σ:St)(H:Hp)(Q:VK),Inv X pins σ H s->t σ H Q->wpAny (model X.prog X.w) X.A (eval e X.env) (EP X pins σ Q) X.xe s):=⟨PE.go⟩
structure PT(X:Cx)(e:qg)(t:TT):Prop where
 go:∀(pins:Θ)(s:qa)(σ:St)(H:Hp)(Q:Bool->Hp->Prop),Inv X pins σ H s->t σ H Q->wpAny (model X.prog X.w) X.A (isTrue e X.env (eval e X.env)) (TP X pins σ Q) X.xe s
instance {X:Cx}{e:qg}{t:TT}:CoeFun (PT X e t) (λZ=>∀(pins:Θ)(s:qa)(σ:St)(H:Hp)(Q:Bool->Hp->Prop),Inv X pins σ H s->t σ H Q->wpAny (model X.prog X.w) X.A (isTrue e X.env (eval e X.env)) (TP X pins σ Q) X.xe s):=⟨PT.go⟩
def PW(X:Cx)(e:qg)(t:TT):Prop :=
 ∀(whole:Sem qb)(pins:Θ)(s:qa)(σ:St)(H:Hp)(Q:Bool->Hp->Prop),Inv X pins σ H s->t σ H Q->wpAny (model X.prog X.w) X.A (isTrue e X.env whole) (TP X pins σ Q) X.xe s
def PW.pt{t:TT}(h:PW X e t):PT X e t:=⟨h _⟩
structure PA(X:Cx)(es:qi qg)(t:TA):Prop where
 go:∀(pos:Pos)(pins:Θ)(s:qa)(σ:St)(H:Hp)(Q:qi V->Hp->Prop),Inv X pins σ H s->t σ H Q->wpAny (model X.prog X.w) X.A (spliced (backTo pos (starEach es X.env))) (AP X pins σ Q) X.xe s
instance {X:Cx}{es:qi qg}{t:TA}:CoeFun (PA X es t) (λZ=>∀(pos:Pos)(pins:Θ)(s:qa)(σ:St)(H:Hp)(Q:qi V->Hp->Prop),Inv X pins σ H s->t σ H Q->wpAny (model X.prog X.w) X.A (spliced (backTo pos (starEach es X.env))) (AP X pins σ Q) X.xe s):=⟨PA.go⟩
structure PS(X:Cx)(st:qc)(t:TS):Prop where
 go:∀(pins:Θ)(s:qa)(σ:St)(H:Hp)(D:ā),Inv X pins σ H s->t D σ H->wpAny (model X.prog X.w) X.A (exec st X.env) (SP X pins D) X.xe s
instance {X:Cx}{st:qc}{t:TS}:CoeFun (PS X st t) (λZ=>∀(pins:Θ)(s:qa)(σ:St)(H:Hp)(D:ā),Inv X pins σ H s->t D σ H->wpAny (model X.prog X.w) X.A (exec st X.env) (SP X pins D) X.xe s):=⟨PS.go⟩
structure PSs(X:Cx)(st:qi qc)(t:TS):Prop where
 go:∀(pins:Θ)(s:qa)(σ:St)(H:Hp)(D:ā),Inv X pins σ H s->t D σ H->wpAny (model X.prog X.w) X.A (execs st X.env) (SP X pins D) X.xe s
instance {X:Cx}{st:qi qc}{t:TS}:CoeFun (PSs X st t) (λZ=>∀(pins:Θ)(s:qa)(σ:St)(H:Hp)(D:ā),Inv X pins σ H s->t D σ H->wpAny (model X.prog X.w) X.A (execs st X.env) (SP X pins D) X.xe s):=⟨PSs.go⟩
def thn{α:Type}{t:Sem α}{Q Q':α->qa->Prop}{A:qe}{s:qa}(h:wpAny M A t Q E s)(hQ:∀a s,Q a s->Q' a s):wpAny M A t Q' E s:=cM h hQ λZ Z x=>x
section
def ves(i:Nat):TE:=λσ H Q=>∃v,σ[i]?=some (some v)/\Q v H
def tC(v:V):TE:=λZ H Q=>Q v H
def yxg{x:Str}{pos:Pos}(hN:X.N[i]?=some x)(hv:Vis X.env.scope x)(hd:(x == ("__debug__":Str))=false:=by decide)(hcd:(x == ("__classdict__":Str))=false:=by decide):PE X (.Name x pos) (ves i):=by
 refine .mk λf s σ H Q I h=>?_;let⟨v,e,h⟩:=h;let⟨m,n,j⟩:=I.loc;let⟨u,r,l⟩:=j i x v hN e hv;have b:EP X f σ Q u s:=⟨v,H,I,r,h⟩;rcases l with⟨d,k⟩|⟨d,c,g,a⟩
 .exact wpAny_Name (wpAny_loadName_local I.ok.kind d n k b) hd
 .rcases d with d|d
  .exact wpAny_Name (wpAny_loadName_cell I.ok.kind d g a b) hd
  .exact wpAny_Name (wpAny_loadName_free I.ok.kind d g a b hcd) hd
def yg{i j pos}:PE X (.Constant (.int i) j pos) (tC (.int i)):=.mk λZ Z Z H Z I h=>wpAny_Constant_int ⟨.int i,H,I.tok _,⟨_,rfl⟩,h⟩
def ı{b j pos}:PE X (.Constant (.bool b) j pos) (tC (.bl b)):=.mk λZ Z Z H Z I h=>Constant_bool ⟨.bl b,H,I,rfl,h⟩
def zf{j pos}:PE X (.Constant .none j pos) (tC .non):=.mk λZ Z Z H Z I h=>Constant_none ⟨.non,H,I,rfl,h⟩
def wx{x j pos}:PE X (.Constant (.str x) j pos) (tC (.str x)):=.mk λZ Z Z H Z I h=>Calls.Constant_str ⟨.str x,H,I.tok _,⟨_,rfl⟩,h⟩
def Gl(X:Cx)(x:Str):Prop:=X.env.kindOf x=some .globalImplicit
def Á{s:qa}{x:Str}{pos:Pos}(I:Inv X pins σ H s)(hg:Gl X x)(hm:X.mg x=some u)(h:Q u s)
  (hd:(x == ("__debug__":Str))=false:=by decide):wpAny (model X.prog X.w) X.A (eval (.Name x pos) X.env) Q E s :=
 Calls.Name_function_global I.ok.kind hg (Calls.loadGlobal_global (by rw[I.ok.glob];exact I.mod.glob.keeps I.bk) hm h) hd
def Į{s:qa}{x:Str}{pos:Pos}(I:Inv X pins σ H s)(hg:Gl X x)(hm:X.mg x=none)(hv:bootBuiltins x=some u)(h:Q u s)
  (hn:x≠"__name__":=by decide) (hd:(x == ("__debug__":Str))=false:=by decide):wpAny (model X.prog X.w) X.A (eval (.Name x pos) X.env) Q E s:=by let⟨c,b,a⟩:=I.mod.blt;exact Calls.Name_function_global I.ok.kind hg (Calls.loadGlobal_builtin (by rw[I.ok.glob];exact I.mod.glob.keeps I.bk) hm (by rw[I.ok.blt];exact b.keeps I.bk) ((a x hn).trans hv) h) hd
def yc9{x:Str}{pos:Pos}(hg:Gl X x)(hm:X.mg x=some u)(r:xk v u)(hd:(x == ("__debug__":Str))=false:=by decide):PE X (.Name x pos) (tC v):=.mk
 λZ Z Z H Z I h=>Á I hg hm ⟨v,H,I,r,h⟩ hd
def ysq{x:Str}{pos:Pos}(hg:Gl X x)(hm:X.mg x=none)(hv:bootBuiltins x=some u)(r:xk v u)(hn:x≠"__name__":=by decide)(hd:(x == ("__debug__":Str))=false:=by decide):PE X (.Name x pos) (tC v):=.mk
 λZ Z Z H Z I h=>Į I hg hm hv ⟨v,H,I,r,h⟩ hn hd
variable{a b:qg}{tb:TE}{pos:Pos}
def PC(X:Cx)(op:CmpOp)(a b:qg)(t:TE):Prop :=
 ∀(pins:Θ)(s:qa)(σ:St)(H:Hp)(Q:VK),Inv X pins σ H s->t σ H Q ->
  wpAny (model X.prog X.w) X.A (eval a X.env) (λv s₁=>wpAny (model X.prog X.w) X.A (eval b X.env) (λu s₂=>wpAny (model X.prog X.w) X.A (compareOp op v u) (EP X pins σ Q) X.xe s₂) X.xe s₁) X.xe s
def tB(t:TE):TT:=λσ H Q=>t σ H λx H1=>∃c,x=.bl c/\Q c H1
def ybu{t:TE}(h:PC X op a b t)(h1:behindInMarks op b=false:=by first|exact nobehind _ (by decide) (by decide)|rfl):PT X (.Compare a [op] [b] pos) (tB t):=by refine .mk λe s σ H Q I j=>?_;refine wpAny_isTrue_Compare1 (thn (h e s σ H _ I j) λv n h1=>thn h1 λu m l=>thn l λc o h'=>?_) h1;let⟨x,g,k,f,i⟩:=h';let⟨d,rfl,q⟩:=i;cases f;exact cD ⟨g,k,q⟩
def xo{t:TE}(h:PE X e t)(he:∀whole,isTrue e X.env whole=(do let v <- whole;standAt e.pos;holding [v] (truthy v)):=by intro _;rfl):PT X e (tB t):=by refine .mk λa s σ H Q I f=>?_;refine isTrue_plain (thn (h a s σ H _ I f) λv j h'=>?_) (he _);let⟨x,c,i,b,g⟩:=h';let⟨d,rfl,q⟩:=g;cases b;exact cD ⟨c,i,q⟩
variable{tA tB':TT}{Ā:qi qg}
def vfs(t u:TT):TT:=λσ H Q=>t σ H λc H1=>if c=true then u σ H1 Q else Q false H1
def tOr(t u:TT):TT:=λσ H Q=>t σ H λc H1=>if c=true then Q true H1 else u σ H1 Q
def vfm(t:TT):TT:=λσ H Q=>t σ H λc H1=>Q (!c) H1
def ω(ha:PT X a tA):PW X (.BoolOp .And [a] pos) tA:=by
 intro f b s σ H Q I h;refine isTrue_and (thn (ha b s σ H Q I h) λc d e=>?_)
 cases c with
 |true=>exact isTrue_and_nil e
 |false=>exact e
def ð(ha:PT X a tA):PW X (.BoolOp .Or [a] pos) tA:=by
 intro f b s σ H Q I h;refine isTrue_or (thn (ha b s σ H Q I h) λc d e=>?_)
 cases c with
 |false=>exact isTrue_or_nil e
 |true=>exact e
def Ī(ha:PT X a tA)(hb:PW X (.BoolOp .And (b::Ā) pos) tB'):PW X (.BoolOp .And (a::b::Ā) pos) (vfs tA tB'):=by
 intro i d s σ H Q I h;refine isTrue_and (thn (ha d s σ H _ I h) λc j ⟨e,g,f⟩=>?_)
 cases c with
 |true=>exact hb i d j σ e Q g f
 |false=>exact⟨e,g,f⟩
def İ(ha:PT X a tA)(hb:PW X (.BoolOp .Or (b::Ā) pos) tB'):PW X (.BoolOp .Or (a::b::Ā) pos) (tOr tA tB'):=by
 intro i d s σ H Q I h;refine isTrue_or (thn (ha d s σ H _ I h) λc j ⟨e,g,f⟩=>?_)
 cases c with
 |true=>exact⟨e,g,f⟩
 |false=>exact hb i d j σ e Q g f
def xn(ha:PT X a tA):PT X (.UnaryOp .Not a pos) (vfm tA):=by refine .mk λb s σ H Q I h=>?_;exact isTrue_not (ha b s σ H (λc d=>Q (!c) d) I h)
def vb8(ta tb:TE):TE:=λσ H Q=>ta σ H λx H1=>∃c,x=.bl c/\if c=true then tb σ H1 Q else Q (.bl false) H1
def vbt(ta:TE):TE:=λσ H Q=>ta σ H λx H1=>∃c,x=.bl c/\Q (.bl (!c)) H1
def Ô{op}{t:TE}(h:PE X a t):PE X (.BoolOp op [a] pos) t:=.mk λb s σ H Q I c=>BoolOp_one (h b s σ H Q I c)
def z7(ha:PE X a ta)(hb:PE X (.BoolOp .And (b::Ā) pos) tb):PE X (.BoolOp .And (a::b::Ā) pos) (vb8 ta tb):=by
 refine .mk λd s σ H Q I h=>?_;refine BoolOp_and (thn (ha d s σ H _ I h) λv j h'=>?_);let⟨x,f,g,i,e⟩:=h';let⟨c,rfl,e⟩:=e;cases i;refine cD ?_
 cases c with
 |true=>exact hb d j σ f Q g e
 |false=>exists .bl false,f,g,rfl,e
def yx9(ha:PE X a ta):PE X (.UnaryOp .Not a pos) (vbt ta):=by refine .mk λb s σ H Q I h=>?_;refine UnaryOp_ (thn (ha b s σ H _ I h) λv i h'=>?_);let⟨x,f,g,e,d⟩:=h';let⟨c,rfl,d⟩:=d;cases e;exact not_of (cD ⟨.bl (!c),f,g,rfl,d⟩)
def tIf(t:TT)(ta tb:TE):TE:=λσ H Q=>t σ H λc H1=>if c=true then ta σ H1 Q else tb σ H1 Q
def Ï{c:qg}(hc:PT X c tA)(ha:PE X a ta)(hb:PE X b tb):PE X (.IfExp c a b pos) (tIf tA ta tb):=by
 refine .mk λe s σ H Q I h=>?_;refine wpAny_IfExp (thn (hc e s σ H _ I h) λd j ⟨f,i,g⟩=>?_)
 cases d with
 |true=>exact ha e j σ f Q i g
 |false=>exact hb e j σ f Q i g
end
def SqL(K:xr)(H:Hp)(a:x0)(xs:Υ):Prop :=
 Rd H a (.lst xs) \/
  ∃(o:Obj)(its:Array qb)(n:Nat),K.lookup a=some o/\o.cls=.type "list"/\o.dict=none/\o.data=.seq its n/\its.size<=sizeLine/\wu xs its.toList
def SqT(K:xr)(H:Hp)(a:x0)(xs:Υ):Prop :=
 Rd H a (.tup xs) \/
  ∃(o:Obj)(its:Array qb)(n:Nat),K.lookup a=some o/\o.cls=.type "tuple"/\o.data=.seq its n/\its.size<=sizeLine/\wu xs its.toList
def vf0:qb->qj V
 | .none=>some .non
 | .bool b=>some (.bl b)
 | .int i _=>some (.int i)
 | .str x _=>some (.str x)
 | .bytes b _=>some (.byt b)
 | .float b _=>some (.flt b)
 | .ref a=>some (.ref a)
 | .type n=>some (.ty n)
 |_=>none
def xk.abs{x:V}(r:xk x u):vf0 u=some x:=by
 cases x with
 |non=>cases r;rfl
 |bl _=>cases r;rfl
 |int _=>let⟨t,rfl⟩:=r;rfl
 |str _=>let⟨t,rfl⟩:=r;rfl
 |byt _=>let⟨t,rfl⟩:=r;rfl
 |flt _=>let⟨t,rfl⟩:=r;rfl
 |ref _=>cases r;rfl
 |ty _=>cases r;rfl
def xk.inj{x:V}(r:xk x u)(q:xk y u):x=y:=bD (r.abs.symm.trans q.abs)
theorem wu.inj(h:wu xs us)(k:wu ys us):xs=ys:=by
 induction h generalizing ys with
 |nil=>cases k;rfl
 |cons r t ih =>
  cases k with
  |cons r' t'=>rw[r.inj r',ih t']
section
variable{s:qa}
def SqL.of{K:xr}(h:H a=some (.lst xs)):SqL K H a xs:=.inl (.inl h)
def SqT.of{K:xr}(h:H a=some (.tup xs)):SqT K H a xs:=.inl (.inl h)
def Inv.list(I:Inv X pins σ H s)(h:SqL X.K H a xs):∃its:Ο,wu xs its/\PlainL s.heap a its.toArray/\xs.length<=sizeLine:=by
 rcases h with h|⟨o,its,n,c,b,d,f,g,r⟩
 .obtain⟨z,its,n,r,e⟩:=h.ok I.hok;exists its,r,⟨_,n,e,rfl,rfl,rfl⟩,z
 .exists its.toList,r,⟨o,n,I.kIn a o c,b,d,by simpa using f⟩,?_;have e:=r.length;simp only[cu]at e;omega
def Inv.tuple(I:Inv X pins σ H s)(h:SqT X.K H a xs):∃its:Ο,wu xs its/\IsTup s.heap a its.toArray/\xs.length<=sizeLine:=by
 rcases h with h|⟨o,its,n,d,b,c,f,r⟩
 .obtain⟨z,its,r,p⟩:=h.ok I.hok;exact⟨its,r,p,z⟩
 .exists its.toList,r,⟨o,I.kIn a o d,b,n,by simpa using c⟩,?_;have e:=r.length;simp only[cu]at e;omega
def Inv.list_inj(I:Inv X pins σ H s)(h:SqL X.K H a xs)(h':SqL X.K H a ys):xs=ys:=by
 let⟨c,r,⟨o,n,e,_,_,d⟩,_⟩:=I.list h;let⟨b,i,⟨j,k,g,_,_,f⟩,_⟩:=I.list h';rw[e]at g;cases g;rw[d]at f;injection f with d1 _;have:c=b:=by simpa using congrArg Array.toList d1
 subst this;exact r.inj i
def Inv.tuple_inj(I:Inv X pins σ H s)(h:SqT X.K H a xs)(h':SqT X.K H a ys):xs=ys:=by
 let⟨c,r,⟨o,e,_,n,d⟩,_⟩:=I.tuple h;let⟨b,i,⟨j,g,_,k,f⟩,_⟩:=I.tuple h';rw[e]at g;cases g;rw[d]at f;injection f with d1 _;have:c=b:=by simpa using congrArg Array.toList d1
 subst this;exact r.inj i
end
abbrev Cx.wish(X:Cx)(E:Δ):Cx:={X with xe:=E}
abbrev Cx.nox(X:Cx):Cx:=X.wish λZ Z=>False
theorem Cx.Ok.wish(ok:X.Ok)(E:Δ):(X.wish E).Ok :=
 ⟨ok.mod,ok.kind,ok.glob,ok.blt,ok.above,ok.inj,ok.has,ok.cab,ok.hd,ok.frames,ok.stk,ok.exf,ok.bs,ok.bsz,ok.noex,ok.exfs,ok.funs,ok.frf⟩
def Cx.Ok.unwish(ok:(X.wish E).Ok):X.Ok :=
 ⟨ok.mod,ok.kind,ok.glob,ok.blt,ok.above,ok.inj,ok.has,ok.cab,ok.hd,ok.frames,ok.stk,ok.exf,ok.bs,ok.bsz,ok.noex,ok.exfs,ok.funs,ok.frf⟩
section
variable{s:qa}
theorem Inv.wish(I:Inv X pins σ H s)(E:Δ):Inv (X.wish E) pins σ H s:=⟨I.ok.wish E,I.os,I.bare,I.base,I.loc,I.cell,I.free,I.freeC,I.pin,I.hok,I.len⟩
theorem Inv.unwish(I:Inv (X.wish E) pins σ H s):Inv X pins σ H s:=⟨I.ok.unwish,I.os,I.bare,I.base,I.loc,I.cell,I.free,I.freeC,I.pin,I.hok,I.len⟩
theorem SP.unwish{D:ā}{f:Flow}(h:SP (X.wish E) pins D f s'):SP X pins D f s':=by
 cases f with
 |next=>let⟨σ',a,I,q⟩:=h;exact⟨σ',a,I.unwish,q⟩
 |brk=>let⟨σ',a,I,q⟩:=h;exact⟨σ',a,I.unwish,q⟩
 |cont=>let⟨σ',a,I,q⟩:=h;exact⟨σ',a,I.unwish,q⟩
 |ret u=>let⟨v,σ',a,I,r,q⟩:=h;exists v,σ',a,I.unwish,r,q
theorem PSs.nox{st:qi qc}{t:TS}(h:PSs X.nox st t):PSs X st t:=.mk λa s σ H D I b =>
 cM (h a s σ H D (I.wish _) b) (λZ Z q=>q.unwish) λZ Z z=>False.elim z
end
section
variable{st:qc}{Ā:qi qc}{t u:TS}{pos:Pos}
def vca:TS:=λD σ H=>D.nx σ H
def vet(t u:TS):TS:=λD σ H=>t {D with nx:=u D} σ H
def y6:PSs X [] vca:=.mk λZ Z σ H Z I h=>wpAny_execs_nil ⟨σ,H,I,h⟩
def ye(h1:PS X st t)(h2:PSs X Ā u):PSs X (st::Ā) (vet t u):=by
 refine .mk λa s σ H D I h=>?_;refine wpAny_execs_cons (thn (h1 a s σ H {D with nx:=u D} I h) λf d q=>?_)
 cases f with
 |next =>
  let⟨σ',c,b,q⟩:=q;exact h2 a d σ' c D b q
 |ret v=>exact q
 |brk=>exact q
 |cont=>exact q
def yc(h1:PS X st t):PSs X [st] t:=by
 refine .mk λa s σ H D I h=>?_;refine wpAny_execs_cons (thn (h1 a s σ H D I h) λf b q=>?_)
 cases f with
 |next=>exact wpAny_execs_nil q
 |ret v=>exact q
 |brk=>exact q
 |cont=>exact q
def Inv.quiet{s:qa}(I:Inv X pins σ H s):interactive X.env=false:=by simp[interactive,I.ok.kind]
def vbz(te:TE):TS:=λD σ H=>te σ H λZ H1=>D.nx σ H1
def yw(he:PE X e te)(hs:swapsWith e none pos.line X.env=pure false:=by rfl):PS X (.Expr e pos) (vbz te):=by refine .mk λa s σ H D I h=>?_;exact wpAny_Expr_any (thn (he a s σ H _ I h) λv g ⟨x,b,d,f,c⟩=>⟨σ,b,d,c⟩) I.quiet hs
def vff(te:TE):TS:=λD σ H=>te σ H D.rt
def yq(he:PE X e te):PS X (.Return (some e) pos) (vff te):=by refine .mk λa s σ H D I h=>?_;exact wpAny_Return_some (thn (he a s σ H _ I h) λv g ⟨x,c,f,b,d⟩=>⟨x,σ,c,f,b,d⟩)
def vcu(c:TT)(t u:TS):TS:=λD σ H=>c σ H λb H1=>if b=true then t D σ H1 else u D σ H1
def wa{c:qg}{a b:qi qc}{tc:TT}(hc:PT X c tc)(ha:PSs X a t)(hb:PSs X b u):PS X (.If c a b pos) (vcu tc t u):=by
 refine .mk λe s σ H D I h=>?_;refine wpAny_If (thn (hc e s σ H _ I h) λd j ⟨f,i,g⟩=>?_)
 cases d with
 |true=>exact ha e j σ f D i g
 |false=>exact hb e j σ f D i g
def vbn:TS:=λZ Z Z=>False
def Ż:PS X st vbn:=.mk λZ Z Z Z Z Z h=>h.elim
end
abbrev TG:=V->St->Hp->(Ζ)->Prop
abbrev TGs:=qi V->St->Hp->(Ζ)->Prop
def PG(X:Cx)(target:qg)(t:TG):Prop :=
 ∀(pins:Θ)(s:qa)(σ:St)(H:Hp)(v:V)(u:qb)(Q:Ζ),Inv X pins σ H s->xk v u->t v σ H Q ->
  wpAny (model X.prog X.w) X.A (assign target X.env u) (λZ s'=>∃σ' H',Inv X pins σ' H' s'/\Q σ' H') X.xe s
def PGs(X:Cx)(ts:qi qg)(t:TGs):Prop :=
 ∀(pins:Θ)(s:qa)(σ:St)(H:Hp)(vs:Υ)(us:Ο)(Q:Ζ),Inv X pins σ H s->wu vs us->t vs σ H Q ->
  wpAny (model X.prog X.w) X.A (assignInOrder ((assignEach ts X.env).map (·.2)) us) (λZ s'=>∃σ' H',Inv X pins σ' H' s'/\Q σ' H') X.xe s
abbrev vcz:=V->V->V->Hp->(Hp->Prop)->Prop
def vfj(X:Cx)(t:vcz):Prop :=
 ∀(pins:Θ)(s:qa)(σ:St)(H:Hp)(o i v:V)(ov iv u:qb)(Q:Hp->Prop),Inv X pins σ H s->xk o ov->xk i iv->xk v u->t o i v H Q ->
  wpAny (model X.prog X.w) X.A (setItem ov iv u) (λZ s'=>∃H',Inv X pins σ H' s'/\Q H') X.xe s
section
variable{pos:Pos}
def w8(i:Nat):TG:=λv σ H Q=>Q (σ.set i (some v)) H
def vk{x:Str}(hN:X.N.Nodup)(hi:X.N[i]?=some x)(hx:Loc X.env.scope x)(hf:X.fn x=true\/X.env.scope.names.lookup x=some .local:=by first|exact .inl rfl|exact .inr rfl|assumption):PG X (.Name x pos) (w8 i):=by intro a s σ H v u Q I r h;exact wpAny_assign_Name (yd1 I hN hi hx r (λc b=>⟨_,H,b,h⟩) hf)
def ylf:TGs:=λvs σ H Q=>vs=[]/\Q σ H
def zh(t:TG)(u:TGs):TGs:=λvs σ H Q=>∃v r,vs=v::r/\t v σ H λσ' H'=>u r σ' H' Q
def À:PGs X [] ylf:=by intro a s σ H b c Q I r h;let⟨e,h⟩:=h;subst e;cases r;exact assignInOrder_nil ⟨σ,H,I,h⟩
def xf{t:TG}{u:TGs}(h1:PG X e t)(h2:PGs X es u)
  (hs:(assignEach (e::es) X.env).map (·.2)=assign e X.env::(assignEach es X.env).map (·.2):=by rfl):PGs X (e::es) (zh t u):=by
 intro a s σ H i k Q I r h;let⟨v,j,b,h⟩:=h;subst b
 cases r with
 |cons r rr =>
  rw[hs];refine assignInOrder_cons (thn (h1 a s σ H _ _ _ I r h) λZ g ⟨σ1,c,f,d⟩=>?_);exact h2 a g σ1 c _ _ Q f rr d
def ywe(K:xr)(n:Nat)(t:TGs):TG:=λv σ H Q=>∃a xs,v=.ref a/\SqT K H a xs/\xs.length=n/\t xs σ H Q
def ĭ{k:Nat}{t:TGs}{n:Nat}(hc:X.calm=true)(h:PGs X es t)
  (hn:(assignEach es X.env).length=n:=by rfl) (hst:(assignEach es X.env).findIdx? (·.1)=none:=by rfl):PG X (.Tuple es k pos) (ywe X.K n t):=by intro c s σ H v u Q I r d;let⟨a,m,g,l,i,d⟩:=d;subst g;cases r;let⟨p,f,j,y⟩:=I.tuple l;refine assign_Tuple_tuple (I.ok.hd hc) j (by simp[hn,<- i,f.length]) hst λw x=>?_;have q:Inv X c σ H {s with heap:=w}:=I.kept (t':=s.toks) λb o e=>x b o (bQ (bw e)) e;exact h c _ σ H m _ Q q (by simpa using f) d
def vfp(to ti:TE)(t:vcz):TG:=λv σ H Q=>to σ H λo H1=>ti σ H1 λi H2=>t o i v H2 λH3=>Q σ H3
def yyx{o i:qg}{to ti:TE}{t:vcz}(ho:PE X o to)(hi:PE X i ti)(hs:vfj X t)
  (ha:∀v,assign (.Subscript o i pos) X.env v=(do
   let ov <- holding [v] (eval o X.env)
   let iv <- holding [v,ov] (eval i X.env)
   standAt pos
   holding [v,ov,iv] (setItem ov iv v)
   release [v,ov,iv] []):=by intro _;rfl):PG X (.Subscript o i pos) (vfp to ti t):=by intro a s σ H v u Q I r h;rw[ha];refine bf (wpAny_holding (thn (ho a s σ H _ I h) λov q h'=>?_));let⟨x,g,l,c,j⟩:=h';refine bf (wpAny_holding (thn (hi a q σ g _ l j) λiv n h'=>?_));let⟨y,m,d,k,e⟩:=h';refine bf (wpAny_standAt (bf (wpAny_holding (thn (hs a n σ m x y v ov iv u _ d c k r e) λZ w ⟨f,p,b⟩=>?_))));exact wpAny_release ⟨σ,f,p,b⟩
def ywp(te:TE)(g:TG):TS:=λD σ H=>te σ H λx H1=>g x σ H1 D.nx
def yow{g:TG}(he:PE X e te)(hg:PG X tg g)(hs:swapsWithSole [tg] e pos.line X.env=pure false:=by rfl)(hw:swappedStores [tg] e X.env=pure none:=by rfl)
  (h1:(assignEach [tg] X.env).map (·.2)=[assign tg X.env]:=by rfl):PS X (.Assign [tg] e pos) (ywp te g):=by refine .mk λa s σ H D I h=>?_;refine wpAny_Assign_stores (thn (he a s σ H _ I h) λv i h'=>?_) hs hw;let⟨x,c,f,b,d⟩:=h';rw[h1];exact thn (hg a i σ c x v _ f b d) λZ j q=>q
def yo{x:Str}{pos':Pos}(hN:X.N.Nodup)(hi:X.N[i]?=some x)(hx:Loc X.env.scope x)(he:PE X e te)(hs:swapsWith e (some (.Name x pos')) pos.line X.env=pure false:=by rfl)(hf:X.fn x=true\/X.env.scope.names.lookup x=some .local:=by first|exact .inl rfl|exact .inr rfl|assumption):
  PS X (.Assign [.Name x pos'] e pos) (ywp te (w8 i)):=by refine .mk λa s σ H D I h=>?_;refine wpAny_Assign_Name (thn (he a s σ H _ I h) λv k h'=>?_) hs;let⟨y,d,g,b,f⟩:=h';exact yd1 g hN hi hx b (λj c=>⟨_,d,c,f⟩) hf
end
section
variable{pos:Pos}
def yyn(c:TT)(tb:TS):TS:=λD σ H=>∃W:Nat->St->Hp->Prop,(∃m,W m σ H)/\∀m σ H,W m σ H ->
 c σ H λb H1=>if b=true then ∃N:Ζ,(∀σ' H',N σ' H'->∃m',m'<m/\W m' σ' H')/\tb {D with nx:=N,ct:=N,bk:=D.nx} σ H1 else D.nx σ H1
def jd{c:qg}{tc:TT}{tb:TS}(hp:PassesOwn (model X.prog X.w) X.A X.env X.xe)(hc:PT X c tc)(hb:PSs X body tb):PS X (.While c body [] pos) (yyn tc tb):=by
 refine .mk λa s σ H D I h=>?_;let⟨W,⟨x,C⟩,d⟩:=h;refine wpAny_While (codeAny_whileLoop (λn z=>∃σ' H',Inv X a σ' H' z/\W n σ' H') ?_ x ⟨σ,H,I,C⟩);rintro n E ⟨σ1,p,u,y⟩;refine wpAny_passesOwn hp (thn (hc a E σ1 p _ u (d n σ1 p y)) λb B ⟨t,q,i⟩=>?_)
 cases b with
 |true =>
  let⟨N,r,i⟩:=i;rw[if_pos rfl];refine wpAny_passesOwn hp (thn (hb a B σ1 t _ q i) λf F g=>?_)
  cases f with
  |next =>
   let⟨σ3,e,m,k⟩:=g;let⟨j,o,l⟩:=r σ3 e k;exists j,o,σ3,e,m,l
  |cont =>
   let⟨σ3,e,m,k⟩:=g;let⟨j,o,l⟩:=r σ3 e k;exists j,o,σ3,e,m,l
  |brk=>exact g
  |ret v=>exact g
 |false =>
  rw[if_neg bL];exact wpAny_execs_nil ⟨σ1,t,q,i⟩
end
structure It where
 go:Nat->Hp->Prop
 yld:Nat->Hp->V->Hp->Prop
 stop:Nat->Hp->Prop
def yb9(X:Cx)(pins:Θ)(H:Hp)(b:x0):Prop :=
 H b=none/\b≠X.env.locals/\b∉X.fs/\(b∈X.ex\/X.s₀.heap.objs.size<=b)/\(∀x c,X.env.cells.lookup x=some c->c≠b)/\∀p∈X.pn++pins,p.1≠b
def Inv.fpOk{s:qa}{b:x0}(I:Inv X pins σ H s)(hb:s.heap.objs.size<=b)(hn:H' b=none):yb9 X pins H' b:=by
 exists hn,Nat.ne_of_gt (bZ I.lt hb),I.nofs hb,.inr (bP I.sz hb),λx c e z=>?_,λp a z=>?_
 .obtain⟨v,q⟩:=I.cell x c e;exact absurd (bZ q.lt (by rw[z];exact hb)) (cP _)
 .exact absurd (bZ (bw (I.pin p a).1) (by rw[z];exact hb)) (cP _)
structure yfi(P:qh)(w:qd)(K:xr)(tg:qg)(J:It)(fp:Χ)(it:x0)(tn:Nat->qf->Prop):Prop where
 mem:it∈fp
 obj:∀i h,tn i h->∀b∈fp,∃o,h.get? b=some o/\∀v,o.data≠.cell v
 keep:∀i h h',tn i h->(∀b∈fp,∀o,h.get? b=some o->h'.get? b=some o)->tn i h'
 item:∀(X:Cx),X.prog=P->X.w=w->X.K=K->X.calm=true->∀(i:Nat)(pins:Θ)(s:qa)(σ:St)(H:Hp)(E:Δ),Inv X pins σ H s->(∀b∈fp,yb9 X pins H b)->tn i s.heap->J.go i H ->
  wpAny (model P w) X.A (pyNext (.ref it)) (λr s1=>∃u,r=some u/\
   wpAny (model P w) X.A (letOwnedTupleGo tg (.ref it) u) (λZ s2=>∃x H',Inv X pins σ H' s2/\xk x u/\J.yld i H x H'/\tn (i+1) s2.heap/\∀b∈fp,H' b=none) E s1) E s
 done:∀(X:Cx),X.prog=P->X.w=w->X.K=K->X.calm=true->∀(i:Nat)(pins:Θ)(s:qa)(σ:St)(H:Hp)(E:Δ),Inv X pins σ H s->(∀b∈fp,yb9 X pins H b)->tn i s.heap->J.stop i H ->
  wpAny (model P w) X.A (pyNext (.ref it)) (λr s1=>r=none/\Inv X pins σ H s1) E s
 self:∀(A:qe)(i:Nat)(s:qa)(Q:Δ)(E:Δ),tn i s.heap->Q (.ref it) s->wpAny (model P w) A (pyIter (.ref it)) Q E s
abbrev TI:=St->Hp->(It->Hp->Prop)->Prop
def PIE(X:Cx)(pins:Θ)(σ:St)(tg:qg)(R:It->Hp->Prop)(itv:qb)(s2:qa):Prop :=
 ∃(it:x0)(fp:Χ)(tn:Nat->qf->Prop)(J:It)(H':Hp),itv=.ref it/\Inv X pins σ H' s2/\yfi X.prog X.w X.K tg J fp it tn/\tn 0 s2.heap/\(∀b∈fp,yb9 X pins H' b)/\R J H'
def PI(X:Cx)(tg iter:qg)(wi:TI):Prop :=
 ∀(pins:Θ)(s:qa)(σ:St)(H:Hp)(R:It->Hp->Prop),Inv X pins σ H s->wi σ H R ->
  wpAny (model X.prog X.w) X.A (eval iter X.env) (λv s1=>wpAny (model X.prog X.w) X.A (pyIter v) (PIE X pins σ tg R) X.xe s1) X.xe s
def ygz{A:qe}{s:qa}{it:x0}{o:Obj}{n:String}{vs:Array qb}{Q:Unit->qa->Prop}(ho:s.heap.get? it=some o)(hc:o.cls=.type n)(hd:o.data=.fields vs)
  (hn:["enumerate","zip","dict_itemiterator","dict_reverseitemiterator","odict_iterator","itertools.zip_longest","itertools.pairwise"].contains n=false) (hQ:Q () s):wpAny M A (letOwnedTupleGo tg (.ref it) u) Q E s:=by
 unfold letOwnedTupleGo
 cases tg<;>first
  |exact bo hQ
  | (cases u<;>first
    |exact bo hQ
    | (refine bf (wpAny_load ho ?_)
       rw[hc,hd];show wpAny M A (if (["enumerate","zip","dict_itemiterator","dict_reverseitemiterator","odict_iterator","itertools.zip_longest","itertools.pairwise"].contains n && vs[0]? == some (rawInt _))=true then _ else _) Q E s;rw[if_neg (by intro h;rw[hn,Bool.false_and]at h;cases h)];exact bo hQ))
def Itl(K:xr)(a:x0):It :=
 ⟨λi H=>∃xs x,SqL K H a xs/\xs[i]?=some x,λi H x H'=>H'=H/\∀xs,SqL K H a xs->xs[i]?=some x,λi H=>∃xs,SqL K H a xs/\xs.length<=i⟩
def Itt(K:xr)(a:x0):It :=
 ⟨λi H=>∃xs x,SqT K H a xs/\xs[i]?=some x,λi H x H'=>H'=H/\∀xs,SqT K H a xs->xs[i]?=some x,λi H=>∃xs,SqT K H a xs/\xs.length<=i⟩
def Itr(lo:Int)(n:Nat):It:=⟨λi Z=>i<n,λi H x H'=>H'=H/\x=.int (lo+i),λi Z=>n<=i⟩
def yie{w:qd}{K:xr}(a it:x0):yfi P w K tg (Itl K a) [it] it (λi h=>h.IsListIter it a i) where
 mem:=by simp
 obj:=λi h f b j=>by
  have e:b=it:=by simpa using j
  subst e;let⟨o,e,c,d⟩:=f;exists o,e,λv z=>by rw[d]at z;cases z
 keep:=λi h n f k=>f.at λo e=>k it (by simp) o e
 item:=by
  intro X A y C N i g s σ H E I q f r;subst A y C;let⟨R,x,m,M⟩:=r;let⟨B,J,p,Y⟩:=I.list m;let⟨u,S,ru⟩:=J.get M;let⟨D,G,U,t,L,F⟩:=q it (by simp);refine wpAny_pyNext_list_item f p.isList (x:=u) (by simpa using S) λn l Z=>?_;have Q:Inv X g σ H {s with heap:=n}:=I.turned (t':=s.toks) (λb o j e=>(Z.2 b j).trans e) D G t L F;let⟨o,e,c,d⟩:=id l;exists u,rfl,ygz (s:={s with heap:=n}) e c d (by decide) ⟨x,H,Q,ru,⟨rfl,λys O=>by rw[I.list_inj O m];exact M⟩,l,λb j=>(q b j).1⟩
 done:=by
  intro X A y C N i g s σ H E I q f r;subst A y C;let⟨R,m,M⟩:=r;let⟨B,J,p,Y⟩:=I.list m;let⟨D,G,U,t,L,F⟩:=q it (by simp);have hl:=J.length;exact wpAny_pyNext_list_end (I.ok.hd N) f p.isList (by simp;omega) λn T=>⟨rfl,I.turned (t':=s.toks) (λb o j e=>T b o j e) D G t L F⟩
 self:=λW W W W W f h=>wpAny_pyIter_listiter f h
def yfs{w:qd}{K:xr}(a it:x0):yfi P w K tg (Itt K a) [it] it (λi h=>h.IsTupleIter it a i) where
 mem:=by simp
 obj:=λi h f b l=>by
  have e:b=it:=by simpa using l
  subst e;let⟨o,e,c,d⟩:=f;exists o,e,λv z=>by rw[d]at z;cases z
 keep:=λi h q f k=>f.at λo e=>k it (by simp) o e
 item:=by
  intro X B A C N i g s σ H E I r f t;subst B A C;let⟨R,x,n,M⟩:=t;let⟨j,J,p,Y⟩:=I.tuple n;let⟨u,S,ru⟩:=J.get M;let⟨D,G,U,y,L,F⟩:=r it (by simp);refine wpAny_pyNext_tuple_item f (show s.heap.IsTuple a j.toArray from p) (x:=u) (by simpa using S) λq m Z=>?_;have Q:Inv X g σ H {s with heap:=q}:=I.turned (t':=s.toks) (λb o l e=>(Z.2 b l).trans e) D G y L F;let⟨o,e,c,d⟩:=id m;exists u,rfl,ygz (s:={s with heap:=q}) e c d (by decide) ⟨x,H,Q,ru,⟨rfl,λys O=>by rw[I.tuple_inj O n];exact M⟩,m,λb l=>(r b l).1⟩
 done:=by
  intro X B A C N i g s σ H E I r f t;subst B A C;let⟨R,n,M⟩:=t;let⟨j,J,p,Y⟩:=I.tuple n;let⟨D,G,U,y,L,F⟩:=r it (by simp);have hl:=J.length;exact wpAny_pyNext_tuple_end (I.ok.hd N) f (show s.heap.IsTuple a j.toArray from p) (by simp;omega) λq T=>⟨rfl,I.turned (t':=s.toks) (λb o l e=>T b o l e) D G y L F⟩
 self:=λW W W W W f h=>wpAny_pyIter_tupleiter f h
def yfm{w:qd}{K:xr}(it:x0)(lo:Int)(n:Nat):yfi P w K tg (Itr lo n) [it] it (λi h=>IsRangeIter h it (lo+(i:Nat)*1) ((n:Int)-(i:Nat)) 1) where
 mem:=by simp
 obj:=λi h a b d=>by
  have e:b=it:=by simpa using d
  subst e
  exact⟨_,a,λv z=>by
   have D:Data.fields _=Data.cell v:=z;cases D⟩
 keep:=λi h g a k=>k it (by simp) _ a
 item:=by
  intro X r q u m i c s σ H E I j a l;subst r q u;let⟨x,A,M,p,B,y⟩:=j it (by simp);have W:=Walks.range (prog:=X.prog) (w:=X.w) (I.ok.hd m) it lo 1 n;refine W.item i s _ _ l a λv g C J f F=>?_;let⟨t,rfl⟩:=J;have G:Inv X c σ H {s with heap:=g,toks:=C}:=I.turned (λb o d e=>F b o (by simpa using d) e) x A p B y;exists _,rfl,ygz (s:={s with heap:=g,toks:=C}) (n:="range_iterator") f rfl rfl (by decide) ⟨.int (lo+i),H,G,⟨t,?_⟩,⟨rfl,rfl⟩,f,λb d=>(j b d).1⟩;rw[Int.mul_one]
 done:=by
  intro X r q u m i c s σ H E I j a l;subst r q u;let⟨x,A,M,p,B,y⟩:=j it (by simp);exact wpAny_pyNext_range_end (I.ok.hd m) a (by have:n<=i:=l;omega) λg L=>⟨rfl,I.turned (t':=s.toks) (λb o d e=>L b o d e) x A p B y⟩
 self:=λZ Z Z Z Z a h=>wpAny_pyIter_rangeiter a h
def vb4(K:xr)(tl:TE):TI:=λσ H R=>tl σ H λx H1=>∃a,x=.ref a/\(∃xs,SqL K H1 a xs)/\R (Itl K a) H1
def vfk(K:xr)(tl:TE):TI:=λσ H R=>tl σ H λx H1=>∃a,x=.ref a/\(∃xs,SqT K H1 a xs)/\R (Itt K a) H1
def vx{l:qg}{tl:TE}(hl:PE X l tl):PI X tg l (vb4 X.K tl):=by
 intro c s σ H R I h;refine thn (hl c s σ H _ I h) λv f h'=>?_;let⟨x,k,d,i,m⟩:=h';let⟨a,e,⟨t,j⟩,q⟩:=m;subst e;cases i;let⟨n,u,p,r⟩:=d.list j;refine wpAny_pyIter_list p.isList ?_;exists f.heap.objs.size,[f.heap.objs.size],_,_,k,rfl,d.kept (t':=f.toks) λb o e=>bi _ e,yie a _,⟨_,bz _ rfl,rfl,rfl⟩,λb g=>?_,q;have e:b=f.heap.objs.size:=by simpa using g
 subst e;exact d.fpOk (bj _) (d.hok.fresh (bj _))
def ye3{l:qg}{tl:TE}(hl:PE X l tl):PI X tg l (vfk X.K tl):=by
 intro c s σ H R I h;refine thn (hl c s σ H _ I h) λv d h'=>?_;let⟨x,m,f,j,n⟩:=h';let⟨a,e,⟨t,k⟩,q⟩:=n;subst e;cases j;let⟨g,u,p,r⟩:=f.tuple k;refine wpAny_pyIter_tuple (show d.heap.IsTuple a g.toArray from p) ?_;exists d.heap.objs.size,[d.heap.objs.size],_,_,m,rfl,f.kept (t':=d.toks) λb o e=>bi _ e,yfs a _,⟨_,bz _ rfl,rfl,rfl⟩,λb i=>?_,q;have e:b=d.heap.objs.size:=by simpa using i
 subst e;exact f.fpOk (bj _) (f.hok.fresh (bj _))
def yd3{s:qa}{R:It->Hp->Prop}{lo hi:Int}{t u v:Tok}{tk:Nat}(I:Inv X pins σ H s)(h1:-(2^62)<=lo)(h2:lo<2^62)(h3:-(2^62)<=hi)(h4:hi<2^62)
  (q:R (Itr lo (hi-lo).toNat) H):wpAny (model X.prog X.w) X.A (pyIter (.ref s.heap.objs.size)) (PIE X pins σ tg R) E {s with heap:=s.heap.push { cls:=.type "range",data:=.fields #[.int lo t,.int hi u,.int 1 v]},toks:=tk}:=by
 refine wpAny_pyIter_range (IsRange.new ..) (small_one h1 h2 h3 h4) ?_;have a:Inv X pins σ H {s with heap:=s.heap.push { cls:=.type "range",data:=.fields #[.int lo t,.int hi u,.int 1 v]},toks:=tk}:=I.kept λb o e=>bi _ e
 refine⟨(s.heap.push { cls:=.type "range",data:=.fields #[.int lo t,.int hi u,.int 1 v]}).objs.size,[(s.heap.push { cls:=.type "range",data:=.fields #[.int lo t,.int hi u,.int 1 v]}).objs.size],_,_,H,rfl,
  a.kept (t':=tk) λb o e=>bi _ e,yfm _ lo (hi-lo).toNat,?_,λb d=>?_,q⟩
 .have c:lo+((0:Nat):Int)*1=lo:=by simp
  have f:(((hi-lo).toNat:Nat):Int)-((0:Nat):Int)=Builtin.Range.rangeSize lo hi 1:=by rw[rangeSize_one];split<;>omega
  show IsRangeIter _ _ (lo+((0:Nat):Int)*1) ((((hi-lo).toNat:Nat):Int)-((0:Nat):Int)) 1;rw[c,f];exact bz _ rfl
 .have e:b=(s.heap.push { cls:=.type "range",data:=.fields #[.int lo t,.int hi u,.int 1 v]}).objs.size:=by simpa using d
  subst e;exact a.fpOk (bj _) (a.hok.fresh (bj _))
def vci(ta:TA):TI:=λσ H R=>ta σ H λvs H1=>∃j:Int,vs=[.int j]/\-(2^62)<=j/\j<2^62/\R (Itr 0 j.toNat) H1
def vb2(ta:TA):TI:=λσ H R=>ta σ H λvs H1=>∃i j:Int,vs=[.int i,.int j]/\(-(2^62)<=i/\i<2^62/\-(2^62)<=j/\j<2^62)/\R (Itr i (j-i).toNat) H1
def Æ{a:qg}{ta:TA}{pos:Pos}(hg:Gl X "range")(hm:X.mg "range"=none)(ha:PA X [a] ta)(hs:starEach [a] X.env=[(false,eval a X.env)]:=by rfl):PI X tg (.Call (.Name "range" p) [a] [] pos) (vci ta):=by
 intro b s σ H R I h;refine Call_ (Į I hg hm boot_range (PyProof.Rows.callWith_type1 (thn (ha pos b s σ H _ I h) λl m h'=>?_) hs rfl));let⟨i,k,g,d,c⟩:=h';let⟨j,e,c,f,q⟩:=c;subst e
 cases d with
 |cons r rr =>
  cases rr;let⟨t,rfl⟩:=r;exact call_range_1 (yd3 g (by omega) (by omega) c f (by simpa using q))
def ybh{a b:qg}{ta:TA}{pos:Pos}(hg:Gl X "range")(hm:X.mg "range"=none)(ha:PA X [a,b] ta)(hs:starEach [a,b] X.env=[(false,eval a X.env),(false,eval b X.env)]:=by rfl)(hs2:starEach [b] X.env=[(false,eval b X.env)]:=by rfl):
  PI X tg (.Call (.Name "range" p) [a,b] [] pos) (vb2 ta):=by
 intro c s σ H R I h;refine Call_ (Į I hg hm boot_range (PyProof.Rows.callWith_type1 (thn (ha pos c s σ H _ I h) λo v h'=>?_) (by rw[hs,hs2]) (by rw[hs2];rfl)));let⟨n,u,l,g,d⟩:=h';let⟨i,j,e,⟨d,k,f,m⟩,q⟩:=d;subst e
 cases g with
 |cons r rr =>
  cases rr with
  |cons r' rr =>
   cases rr;let⟨t,rfl⟩:=r;let⟨w,rfl⟩:=r';exact call_range_2 (yd3 l d k f m q)
def vfh(wi:TI)(g:TG)(tb:TS):TS:=λD σ H=>wi σ H λJ H1=>∃W:Nat->Nat->St->Hp->Prop,(∃m,W 0 m σ H1)/\∀i m σ H,W i m σ H ->
 (J.stop i H/\D.nx σ H)\/(J.go i H/\∃N:Ζ,(∀σ' H',N σ' H'->∃m',m'<m/\W (i+1) m' σ' H')/\∀x H',J.yld i H x H'->g x σ H' λσ2 H2=>tb {D with nx:=N,ct:=N,bk:=D.nx} σ2 H2)
def yeq(fp:Χ)(h:qf):Θ:=fp.filterMap λb=>(h.get? b).map λo=>(b,o)
def u6{h:qf}{b:x0}{o:Obj}(hb:b∈fp)(e:h.get? b=some o):(b,o)∈yeq fp h:=List.mem_filterMap.mpr ⟨b,hb,by rw[e];rfl⟩
def yg8{h:qf}{p:x0×Obj}(hp:p∈yeq fp h):p.1∈fp/\h.get? p.1=some p.2:=by
 let⟨b,c,e⟩:=List.mem_filterMap.mp hp
 cases q:h.get? b with
 |none=>rw[q]at e;cases e
 |some o =>
  rw[q]at e;have a:(b,o)=p:=bD e;subst a;exists c,q
def Inv.pinned{s:qa}(I:Inv X pins σ H s)(hf:∀b∈fp,yb9 X pins H b)(ho:∀b∈fp,∃o,s.heap.get? b=some o/\∀v,o.data≠.cell v):Inv X (pins++yeq fp s.heap) σ H s :=
 I.pins_of λp h=>(bO.mp h).elim (λz=>I.pin p (bS _ z)) λz=>by
  let⟨a,e⟩:=yg8 z;let⟨f,i,g,_⟩:=hf p.1 a;let⟨o,c,d⟩:=ho p.1 a;rw[e]at c;cases c;exists e,f,i,g,d
def Inv.unpinned{pl:Θ}{s:qa}(I:Inv X (pins++pl) σ H s):Inv X pins σ H s:=I.pins_of λp a=>I.pin p (bS _ (List.mem_append_left _ a))
def xz{iter:qg}{wi:TI}{g:TG}{tb:TS}{pos:Pos}(hp:PassesOwn (model X.prog X.w) X.A X.env X.xe)(hc:X.calm=true)(hi:PI X tg iter wi)(hg:PG X tg g)(hb:PSs X body tb)
  (hs:∀x,foldedSetIterable iter X.env x=pure x:=by intro _;rfl):PS X (.For tg iter body [] pos) (vfh wi g tb):=by
 refine .mk λa s σ H D I h=>?_;refine wpAny_For (thn (hi a s σ H _ I h) λv s1 h1=>thn h1 λa0 s2 h2=>?_) hs;let⟨it,C,U,J,H2,e,I2,T,M,f2,W,⟨m0,w0⟩,z⟩:=h2;subst e;have l:∀{H':Hp},(∀b∈C,H' b=none)->∀b∈C,yb9 X a H' b:=λhn b hb=>⟨hn b hb,(f2 b hb).2⟩;refine codeAny_forLoop_any (λn R=>∃i σ' H',Inv X a σ' H' R/\U i R.heap/\(∀b∈C,H' b=none)/\W i n σ' H') ?_ m0 ⟨0,σ,H2,I2,M,λb hb=>(f2 b hb).1,w0⟩;rintro n Z ⟨i,σ3,G,S,E,B,w3⟩;rcases z i n σ3 G w3 with⟨F,qn⟩|⟨go,N,hN,y⟩
 .refine wpAny_passesOwn hp (thn (T.done X rfl rfl rfl hc i a Z σ3 G X.xe S (l B) E F) λr s4 ⟨K,I4⟩=>?_);subst K;exact wpAny_execs_nil ⟨σ3,G,I4,qn⟩
 .refine wpAny_passesOwn hp (thn (T.item X rfl rfl rfl hc i a Z σ3 G X.xe S (l B) E go) λr s4 ⟨u,K,h4⟩=>?_);subst K;refine wpAny_passesOwn hp (thn h4 λw Q h'=>?_);let⟨x,Y,I5,r5,y5,q,O⟩:=h';have P:=I5.pinned (l O) (T.obj _ _ q);refine wpAny_passesOwn hp (thn (hg _ Q σ3 Y x u _ P r5 (y x Y y5)) λw s6 ⟨σ6,H6,I6,q6⟩=>?_);refine wpAny_passesOwn hp (thn (hb _ s6 σ6 H6 _ I6 q6) λf L p=>?_)
  have k:∀{σ7:St}{c:Hp},Inv X (a++yeq C Q.heap) σ7 c L->N σ7 c->∃m,m<n/\∃i σ' H',Inv X a σ' H' L/\U i L.heap/\(∀b∈C,H' b=none)/\W i m σ' H':=λ{σ7 c}j t=>by
   let⟨m',hm,w7⟩:=hN σ7 c t;exists m',hm,i+1,σ7,c,j.unpinned,T.keep _ _ _ q λb hb o e=>(j.pin (b,o) (bS _ (bS _ (u6 hb e)))).1,λb hb=>?_,w7;let⟨o,e,d⟩:=T.obj _ _ q b hb;exact(j.pin (b,o) (bS _ (bS _ (u6 hb e)))).2.1
  cases f with
  |next=>let⟨σ7,c,j,t⟩:=p;exact k j t
  |cont=>let⟨σ7,c,j,t⟩:=p;exact k j t
  |brk=>let⟨σ7,c,j,p⟩:=p;exact⟨σ7,c,j.unpinned,p⟩
  |ret v=>let⟨x7,σ7,c,j,r7,p⟩:=p;exists x7,σ7,c,j.unpinned,r7,p
def x8{K:xr}{g:TG}{tb:TS}{D:ā}(Pv:Nat->St->Hp->Prop)(h0:Pv 0 σ H)(hl:∀i σ H,i<=xs.length->Pv i σ H->SqL K H a xs)
  (hs:∀i x σ H,xs[i]?=some x->Pv i σ H->g x σ H λσ2 H2=>tb {D with nx:=Pv (i+1),ct:=Pv (i+1),bk:=D.nx} σ2 H2) (hd:∀σ H,Pv xs.length σ H->D.nx σ H):
  ∃W:Nat->Nat->St->Hp->Prop,(∃m,W 0 m σ H)/\∀i m σ H,W i m σ H ->
   ((Itl K a).stop i H/\D.nx σ H)\/((Itl K a).go i H/\∃N:Ζ,(∀σ' H',N σ' H'->∃m',m'<m/\W (i+1) m' σ' H')/\∀x H',(Itl K a).yld i H x H'->g x σ H' λσ2 H2=>tb {D with nx:=N,ct:=N,bk:=D.nx} σ2 H2):=by
 exists λi m σ H=>m=xs.length-i/\i<=xs.length/\Pv i σ H,⟨xs.length,by simp,bJ _,h0⟩,?_;rintro i m σ H ⟨rfl,c,p⟩;have q:=hl i σ H c p;by_cases hlt:i<xs.length
 .refine .inr ⟨⟨xs,xs[i],q,by simp[hlt]⟩,Pv (i+1),λσ' H' b=>⟨xs.length-(i+1),by omega,rfl,hlt,b⟩,λx H' y=>?_⟩;let⟨e,y⟩:=y;subst e;exact hs i x σ _ (y xs q) p
 .have e:i=xs.length:=by omega
  subst e;exact .inl ⟨⟨xs,q,bj _⟩,hd σ H p⟩
def É{lo:Int}{n:Nat}{g:TG}{tb:TS}{D:ā}(Pv:Nat->St->Hp->Prop)(h0:Pv 0 σ H)
  (hs:∀i σ H,i<n->Pv i σ H->g (.int (lo+i)) σ H λσ2 H2=>tb {D with nx:=Pv (i+1),ct:=Pv (i+1),bk:=D.nx} σ2 H2) (hd:∀σ H,Pv n σ H->D.nx σ H):
  ∃W:Nat->Nat->St->Hp->Prop,(∃m,W 0 m σ H)/\∀i m σ H,W i m σ H ->
   ((Itr lo n).stop i H/\D.nx σ H)\/((Itr lo n).go i H/\∃N:Ζ,(∀σ' H',N σ' H'->∃m',m'<m/\W (i+1) m' σ' H')/\∀x H',(Itr lo n).yld i H x H'->g x σ H' λσ2 H2=>tb {D with nx:=N,ct:=N,bk:=D.nx} σ2 H2):=by
 exists λi m σ H=>m=n-i/\i<=n/\Pv i σ H,⟨n,by simp,bJ _,h0⟩,?_;rintro i m σ H ⟨rfl,b,p⟩;by_cases hlt:i<n
 .refine .inr ⟨hlt,Pv (i+1),λσ' H' a=>⟨n-(i+1),by omega,rfl,hlt,a⟩,λx H' y=>?_⟩;let⟨e,y⟩:=y;subst e y;exact hs i σ _ hlt p
 .have e:i=n:=by omega
  subst e;exact .inl ⟨bj _,hd σ H p⟩
abbrev R2:=V->V->Hp->VK->Prop
def OpR(X:Cx)(f:qb->qb->Sem qb)(r:R2):Prop :=
 ∀(pins:Θ)(s:qa)(σ:St)(H:Hp)(x y:V)(v u:qb)(Q:VK),Inv X pins σ H s->xk x v->xk y u->r x y H Q ->
  wpAny (model X.prog X.w) X.A (f v u) (EP X pins σ Q) X.xe s
def UnR(X:Cx)(f:qb->Sem qb)(r:V->Hp->VK->Prop):Prop :=
 ∀(pins:Θ)(s:qa)(σ:St)(H:Hp)(x:V)(v:qb)(Q:VK),Inv X pins σ H s->xk x v->r x H Q ->
  wpAny (model X.prog X.w) X.A (f v) (EP X pins σ Q) X.xe s
def zi(X:Cx)(f:qb)(r:qi V->Hp->VK->Prop):Prop :=
 ∀(pins:Θ)(s:qa)(σ:St)(H:Hp)(xs:Υ)(us:Ο)(Q:VK),Inv X pins σ H s->wu xs us->r xs H Q ->
  wpAny (model X.prog X.w) X.A (call f us) (EP X pins σ Q) X.xe s
def tOp(r:R2)(ta tb:TE):TE:=λσ H Q=>ta σ H λx H1=>tb σ H1 λy H2=>r x y H2 Q
def tUn(r:V->Hp->VK->Prop)(ta:TE):TE:=λσ H Q=>ta σ H λx H1=>r x H1 Q
def rI(C:Int->Int->Prop)(g:Int->Int->V):R2:=λx y H Q=>∃i j,x=.int i/\y=.int j/\C i j/\Q (g i j) H
def rI0(g:Int->Int->V):R2:=λx y H Q=>∃i j,x=.int i/\y=.int j/\Q (g i j) H
def rU(g:Int->V):V->Hp->VK->Prop:=λx H Q=>∃i,x=.int i/\Q (g i) H
section
variable{a b c:qg}{tb tc:TE}{pos:Pos}
def vcx(ha:PE X a ta)(hb:PE X b tb){s:qa}{R:V->V->Hp->Prop}(I:Inv X pins σ H s)
  (h:ta σ H λx H1=>tb σ H1 λy H2=>R x y H2) {Q:Δ} {f:qb->qb->Sem qb}
  (hf:∀v u s2 x y H2,Inv X pins σ H2 s2->xk x v->xk y u->R x y H2->wpAny (model X.prog X.w) X.A (f v u) Q X.xe s2):
  wpAny (model X.prog X.w) X.A (eval a X.env) (λv s₁=>wpAny (model X.prog X.w) X.A (eval b X.env) (λu s₂=>wpAny (model X.prog X.w) X.A (f v u) Q X.xe s₂) X.xe s₁) X.xe s:=by refine thn (ha pins s σ H _ I h) λv k h'=>?_;let⟨x,H1,j,c,g⟩:=h';refine thn (hb pins k σ H1 _ j g) λu s2 h'=>?_;let⟨y,H2,d,i,e⟩:=h';exact hf v u s2 x y H2 d c i e
def ym{op:Operator}{r:R2}(ho:OpR X (binaryOp op) r)(ha:PE X a ta)(hb:PE X b tb):PE X (.BinOp a op b pos) (tOp r ta tb):=by refine .mk λc s σ H Q I h=>?_;exact wpAny_BinOp (vcx ha hb I h λv u g x y f d i e q=>ho c g σ f x y v u Q d i e q)
def vcp{op:UnaryOp}{r:V->Hp->VK->Prop}(ho:UnR X (unaryOp op) r)(ha:PE X a ta):PE X (.UnaryOp op a pos) (tUn r ta):=by refine .mk λb s σ H Q I h=>?_;exact UnaryOp_ (thn (ha b s σ H _ I h) λv g ⟨x,d,f,c,e⟩=>ho b g σ d x v Q f c e)
def opI{f:qb->qb->Sem qb}{C:Int->Int->Prop}{g:Int->Int->Int}
  (rule:∀(i j:Int)(t u:Tok)(s:qa)(Q:Δ)(E:Δ),C i j->Q (.int (g i j) s.toks) {s with toks:=s.toks+1}->wpAny (model X.prog X.w) X.A (f (.int i t) (.int j u)) Q E s):
  OpR X f (rI C λi j=>.int (g i j)):=by intro a s σ H x y v u Q I d c h;let⟨i,j,rfl,rfl,b,q⟩:=h;let⟨t,rfl⟩:=d;let⟨e,rfl⟩:=c;exact rule i j t e s _ _ b ⟨.int (g i j),H,I.tok _,⟨_,rfl⟩,q⟩
def veo{f:qb->qb->Sem qb}{g:Int->Int->Int}
  (rule:∀(i j:Int)(t u:Tok)(s:qa)(Q:Δ)(E:Δ),Q (.int (g i j) s.toks) {s with toks:=s.toks+1}->wpAny (model X.prog X.w) X.A (f (.int i t) (.int j u)) Q E s):
  OpR X f (rI0 λi j=>.int (g i j)):=by intro a s σ H x y v u Q I d b h;let⟨i,j,rfl,rfl,q⟩:=h;let⟨t,rfl⟩:=d;let⟨c,rfl⟩:=b;exact rule i j t c s _ _ ⟨.int (g i j),H,I.tok _,⟨_,rfl⟩,q⟩
def vc5{f:qb->qb->Sem qb}{g:Int->Int->Bool}
  (rule:∀(i j:Int)(t u:Tok)(s:qa)(Q:Δ)(E:Δ),Q (.bool (g i j)) s->wpAny (model X.prog X.w) X.A (f (.int i t) (.int j u)) Q E s):
  OpR X f (rI0 λi j=>.bl (g i j)):=by intro a s σ H x y v u Q I d b h;let⟨i,j,rfl,rfl,q⟩:=h;let⟨t,rfl⟩:=d;let⟨c,rfl⟩:=b;exact rule i j t c s _ _ ⟨.bl (g i j),H,I,rfl,q⟩
def ve4(i j:Int):Prop:=(-(2^64)<i/\i<2^64)\/(-(2^64)<j/\j<2^64)
def ve4.ok{i j:Int}(h:ve4 i j):IntMulOk i j:=by
 rcases h with⟨b,a⟩|⟨b,a⟩
 .exact .of_left (intBits_le_64 b a)
 .exact .of_right (intBits_le_64 b a)
def yf2(k:Nat):(0:Int)<=2^k:=by rw[two_pow_cast];exact Int.natCast_nonneg _
def wc:OpR X (binaryOp .Add) (rI0 λi j=>.int (i+j)):=veo λZ Z Z Z Z Z Z q=>add_int q
def zy:OpR X (binaryOp .Sub) (rI0 λi j=>.int (i-j)):=veo λZ Z Z Z Z Z Z q=>sub_int q
def wq:OpR X (binaryOp .Mult) (rI ve4 λi j=>.int (i*j)):=opI λZ Z Z Z Z Z Z a q=>mul_int q a.ok
def vo:OpR X (binaryOp .Mod) (rI (λZ j=>0<j) λi j=>.int (i%j)):=opI λi j Z Z Z Z Z a q=>by
 have b:(0:Int)<j:=a;exact mod_int' (by omega) (by rw[Int.fmod_eq_emod_of_nonneg i (by omega)];exact q)
def yo6:OpR X (binaryOp .RShift) (rI (λZ j=>0<=j) λi j=>.int (i/2^j.toNat)):=opI λi j Z Z Z Z Z a q =>
 rshift_int a (by rw[Int.fdiv_eq_ediv_of_nonneg i (yf2 _)];exact q)
def yn6:OpR X (binaryOp .BitAnd) (rI0 λi j=>.int (Builtin.bitAnd i j)):=veo λZ Z Z Z Z Z Z q=>and_int q
def unI{f:qb->Sem qb}{g:Int->Int}
  (rule:∀(i:Int)(t:Tok)(s:qa)(Q:Δ)(E:Δ),Q (.int (g i) s.toks) {s with toks:=s.toks+1}->wpAny (model X.prog X.w) X.A (f (.int i t)) Q E s):
  UnR X f (rU λi=>.int (g i)):=by intro a s σ H x v Q I b h;let⟨i,rfl,q⟩:=h;let⟨t,rfl⟩:=b;exact rule i t s _ _ ⟨.int (g i),H,I.tok _,⟨_,rfl⟩,q⟩
def yo0:UnR X (unaryOp .USub) (rU λi=>.int (-i)):=unI λZ Z Z Z Z q=>neg_int q
end
def vex:V->V->Bool
 | .non,.non=>true| .non,.int _=>true| .int _,.non=>true| .non,.bl _=>true| .bl _,.non=>true| .non,.str _=>true| .str _,.non=>true
 | .int _,.int _=>true| .bl _,.bl _=>true| .str _,.str _=>true| .byt _,.byt _=>true
 | .int _,.str _=>true| .str _,.int _=>true| .bl _,.str _=>true| .str _,.bl _=>true
 |_,_=>false
def rEq:R2:=λx y H Q=>vex x y=true/\Q (.bl (decide (x=y))) H
def yrq{i j:Int}:decide (V.int i=V.int j)=(i == j):=by rw[Bool.eq_iff_iff];simp
def yyg{i j:Bool}:decide (V.bl i=V.bl j)=(i == j):=by rw[Bool.eq_iff_iff];simp
def ysi{i j:Str}:decide (V.str i=V.str j)=(i == j):=by rw[Bool.eq_iff_iff];simp
def yrw{i j:Array UInt8}:decide (V.byt i=V.byt j)=(i.toList == j.toList):=by rw[Bool.eq_iff_iff];cases i;cases j;simp
section
variable{a b c:qg}{tb tc:TE}{pos:Pos}
def uf{s:qa}{Q:VK}{k k':Bool}(I:Inv X pins σ H s)(q:Q (.bl k) H)(e:k=k'):EP X pins σ Q (.bool k') s:=by subst e;exists .bl k,H,I,rfl,q
def xq:OpR X (compareOp .Eq) rEq:=by
 intro e s σ H x y v u Q I d a h;let⟨c,q⟩:=h
 cases x with
 |non =>
  cases d
  cases y with
  |non=>cases a;exact PySem.EqNone.eq_none_none (uf I q (by simp))
  |bl j=>cases a;exact PySem.EqNone.eq_none_bool (uf I q (by simp))
  |int j=>let⟨b,rfl⟩:=a;exact PySem.EqNone.eq_none_int (uf I q (by simp))
  |str j=>let⟨b,rfl⟩:=a;exact PySem.EqNone.eq_none_str (uf I q (by simp))
  |_=>exact absurd (show false=true from c) bL
 |bl i =>
  cases d
  cases y with
  |non=>cases a;exact PySem.EqNone.eq_bool_none (uf I q (by simp))
  |bl j=>cases a;exact eq_bool (uf I q yyg)
  |str j=>let⟨b,rfl⟩:=a;exact PySem.EqMixed.eq_bool_str (uf I q (by simp))
  |_=>exact absurd (show false=true from c) bL
 |int i =>
  let⟨t,rfl⟩:=d
  cases y with
  |non=>cases a;exact PySem.EqNone.eq_int_none (uf I q (by simp))
  |int j=>let⟨b,rfl⟩:=a;exact eq_int (uf I q yrq)
  |str j=>let⟨b,rfl⟩:=a;exact PySem.EqMixed.eq_int_str (uf I q (by simp))
  |_=>exact absurd (show false=true from c) bL
 |str i =>
  let⟨t,rfl⟩:=d
  cases y with
  |non=>cases a;exact PySem.EqNone.eq_str_none (uf I q (by simp))
  |bl j=>cases a;exact PySem.EqMixed.eq_str_bool (uf I q (by simp))
  |int j=>let⟨b,rfl⟩:=a;exact PySem.EqMixed.eq_str_int (uf I q (by simp))
  |str j=>let⟨b,rfl⟩:=a;exact eq_str (uf I q ysi)
  |_=>exact absurd (show false=true from c) bL
 |byt i =>
  let⟨t,rfl⟩:=d
  cases y with
  |byt j=>let⟨b,rfl⟩:=a;exact W.eq_bytes (uf I q yrw)
  |_=>exact absurd (show false=true from c) bL
 |_=>cases y<;>exact absurd (show false=true from c) bL
def ó:OpR X (compareOp .Lt) (rI0 λi j=>.bl (decide (i<j))):=vc5 λZ Z Z Z Z Z Z q=>lt_int q
def jg:OpR X (compareOp .LtE) (rI0 λi j=>.bl (decide (i<=j))):=vc5 λZ Z Z Z Z Z Z q=>le_int q
def yb6:OpR X (compareOp .Gt) (rI0 λi j=>.bl (decide (j<i))):=vc5 λZ Z Z Z Z Z Z q=>gt_int q
def vdt:OpR X (compareOp .GtE) (rI0 λi j=>.bl (decide (j<=i))):=vc5 λZ Z Z Z Z Z Z q=>ge_int q
def yht:OpR X (compareOp .In) (λx y H Q=>∃i j,x=.str i/\y=.str j/\Q (.bl (!(Builtin.Str.occurrences j i 0 j.length 1).isEmpty)) H):=by intro a s σ H x y v u Q I c b h;let⟨i,j,rfl,rfl,q⟩:=h;let⟨t,rfl⟩:=c;let⟨d,rfl⟩:=b;exact in_str (uf I q rfl)
def yep:OpR X (compareOp .Is) (λx y H Q=>y=.non/\Q (.bl (decide (x=.non))) H):=by
 intro a s σ H x y v u Q I b c h;let⟨rfl,q⟩:=h;cases c;refine is_none_gen (uf I q ?_)
 cases x<;>first
  |(cases b;rfl)
  |(let⟨t,rfl⟩:=b;rfl)
def yac:OpR X (compareOp .IsNot) (λx y H Q=>y=.non/\Q (.bl (!decide (x=.non))) H):=by
 intro a s σ H x y v u Q I b c h;let⟨rfl,q⟩:=h;cases c;refine isnot_none_gen (uf I q ?_)
 cases x<;>first
  |(cases b;rfl)
  |(let⟨t,rfl⟩:=b;rfl)
def yx(b:qg)(h:op≠.In:=by decide)(h2:op≠.NotIn:=by decide):behindInMarks op b=false:=by
 have a:(op == CmpOp.In)=false:=by cases op<;>first|rfl|exact absurd rfl h
 have c:(op == CmpOp.NotIn)=false:=by cases op<;>first|rfl|exact absurd rfl h2
 cases b<;>simp[behindInMarks,a,c]
def xv{r:R2}(ho:OpR X (compareOp op) r)(ha:PE X a ta)(hb:PE X b tb)(hm:behindInMarks op b=false):PE X (.Compare a [op] [b] pos) (tOp r ta tb):=by refine .mk λc s σ H Q I h=>?_;exact wpAny_Compare1 (vcx ha hb I h λv u g x y f d i e q=>ho c g σ f x y v u Q d i e q) hm
def yvf(t:TE):TT:=λσ H Q=>t σ H λx H'=>∃k,x=.bl k/\Q k H'
def yr{r:R2}(ho:OpR X (compareOp op) r)(ha:PE X a ta)(hb:PE X b tb)(hm:behindInMarks op b=false):PT X (.Compare a [op] [b] pos) (yvf (tOp r ta tb)):=by
 refine .mk λd s σ H Q I h=>?_
 refine wpAny_isTrue_Compare1 (thn (ha d s σ H _ I h) λv B ⟨x,n,q,g,o⟩=>thn (hb d B σ n _ q o) λu w ⟨y,t,i,p,l⟩ =>
  thn (ho d w σ t x y v u _ i g p l) λc C ⟨z,m,A,j,k,e,f⟩=>?_) hm
 subst e;cases j;exact cD ⟨m,A,f⟩
def yk0(r r':R2)(ta tb tc:TE):TE:=λσ H Q=>ta σ H λx H1=>tb σ H1 λy H2=>r x y H2 λz H3=>∃k,z=.bl k/\
 (if k=true then tc σ H3 λw' H4=>r' y w' H4 Q else Q (.bl false) H3)
def Î{op':CmpOp}{r r':R2}(ho:OpR X (compareOp op) r)(ho':OpR X (compareOp op') r')(ha:PE X a ta)(hb:PE X b tb)(hc:PE X c tc)
  (hm:lastMarks [op,op'] [b,c]=false:=by with_unfolding_all rfl):PE X (.Compare a [op,op'] [b,c] pos) (yk0 r r' ta tb tc):=by
 refine .mk λf s σ H Q I h=>?_
 refine Compare_chain (thn (ha f s σ H _ I h) λv M ⟨x,n,p,w,o⟩=>chain_link (thn (hb f M σ n _ p o) λu G ⟨y,F,D,l,K⟩ =>
  thn (ho f G σ F x y v u _ D w l K) λd J ⟨z,i,g,E,k,e,j⟩=>?_)) hm
 subst e;cases E;refine cD ?_
 cases k with
 |false=>exact ite_ff ⟨.bl false,i,g,rfl,j⟩
 |true=>exact ite_tt (chain_last (thn (hc f J σ i _ g j) λA B ⟨m,t,C,L,q⟩=>ho' f B σ t y m u A Q C l L q))
def yab{op':CmpOp}{r r':R2}(ho:OpR X (compareOp op) r)(ho':OpR X (compareOp op') r')(ha:PE X a ta)(hb:PE X b tb)(hc:PE X c tc)
  (hm:lastMarks [op,op'] [b,c]=false:=by with_unfolding_all rfl):PT X (.Compare a [op,op'] [b,c] pos) (yvf (yk0 r r' ta tb tc)):=by
 refine .mk λf s σ H Q I h=>?_
 refine isTrue_chain (thn (ha f s σ H _ I h) λv U ⟨x,o,t,B,p⟩=>test_link (thn (hb f U σ o _ t p) λu O ⟨y,N,K,l,R⟩ =>
  thn (ho f O σ N x y v u _ K B l R) λd P ⟨z,i,g,L,k,e,j⟩=>?_)) hm
 subst e;cases L;refine cD ?_
 cases k with
 |false =>
  let⟨Z,F,D⟩:=j;cases F;exact ite_ff ⟨i,g,D⟩
 |true =>
  refine ite_tt (test_last (thn (hc f P σ i _ g j) λC E ⟨m,A,J,S,w⟩=>thn (ho' f E σ A y m u C _ J l S w) λY W h'=>?_));let⟨z2,M,q,n,k2,T,G⟩:=h';subst T;cases n;exact cD ⟨M,q,G⟩
def ybz:(sizeLine:Nat)<2^63:=by rw[sizeLine_eq];decide
def ß:OpR X (binaryOp .Add) (λx y H Q=>∃i j,x=.str i/\y=.str j/\i.length+j.length<=sizeLine/\Q (.str (i++j)) H):=by intro a s σ H x y v u Q I d c h;let⟨i,j,rfl,rfl,b,q⟩:=h;let⟨t,rfl⟩:=d;let⟨e,rfl⟩:=c;exact add_str (λe f=>⟨.str (i++j),H,I.tok _,⟨_,rfl⟩,q⟩) b
def yli(b:qg):Prop:=∀o i,subscripted b false o i=operate [o,i] (getItem o i)
def ο(ha:PE X a ta)(hb:PE X b tb)(hs:yli b):
  PE X (.Subscript a b pos) (tOp (λx y H Q=>∃z i c,x=.str z/\y=.int i/\0<=i/\i<2^63/\i<z.length/\z.cps[i.toNat]?=some c/\Q (.str ⟨#[c]⟩) H) ta tb):=by
 refine .mk λd s σ H Q I h=>?_;refine Subscript_ (vcx ha hb I h λv u o x y n j r l q=>?_);let⟨z,i,c,rfl,rfl,g,m,w,k,q⟩:=q;let⟨t,rfl⟩:=r;let⟨A,rfl⟩:=l;have e:seqIndex? i z.length=some i.toNat:=PySem.StrLaws.seqIndex_nonneg g w
 exact tail_any (typeIs_str o z t) slot_str_getitem.lookup (getItem_str (c:=c) (by
  have f:decide (i< -(2^63:Int))=false:=bC (by omega);have p:decide (i ≥ 2^63)=false:=bC (by omega);rw[f,p]<;>rfl) (by rw[e];exact k) ⟨.str ⟨#[c]⟩,n,j.tok _,⟨_,rfl⟩,q⟩) (hs _ _)
def γ{x:V}(r:wu [x] us):∃u,us=[u]/\xk x u:=by
 cases r with
 |cons r1 r2=>cases r2;exists _,rfl,r1
def yue{x:V}(r:wu [x,y] us):∃u w',us=[u,w']/\xk x u/\xk y w':=by
 cases r with
 |cons r1 r2 =>
  cases r2 with
  |cons r3 r4=>cases r4;exists _,_,rfl,r1,r3
def ē(hc:X.calm=true):zi X (.builtin "max") (λxs H Q=>∃i j,xs=[.int i,.int j]/\Q (.int (if j > i then j else i)) H):=by
 intro a s σ H xs d Q I r h;let⟨i,j,rfl,q⟩:=h;let⟨u,c,rfl,⟨t,rfl⟩,⟨f,rfl⟩⟩:=yue r;refine max_two_ints (I.ok.hd hc) λe b k=>⟨_,H,I.kept k,?_,q⟩;by_cases hj:j > i
 .rw[if_pos hj,if_pos hj];exists _,rfl
 .rw[if_neg hj,if_neg hj];exists _,rfl
def Ė(hc:X.calm=true):zi X (.builtin "min") (λxs H Q=>∃i j,xs=[.int i,.int j]/\Q (.int (if j<i then j else i)) H):=by
 intro a s σ H xs d Q I r h;let⟨i,j,rfl,q⟩:=h;let⟨u,c,rfl,⟨t,rfl⟩,⟨f,rfl⟩⟩:=yue r;refine min_two_ints (I.ok.hd hc) λe b k=>⟨_,H,I.kept k,?_,q⟩;by_cases hj:j<i
 .rw[if_pos hj,if_pos hj];exists _,rfl
 .rw[if_neg hj,if_neg hj];exists _,rfl
def yhr:zi X (.type "int") (λxs H Q=>(∃i,xs=[.int i]/\Q (.int i) H)\/∃k,xs=[.bl k]/\Q (.int (if k then 1 else 0)) H):=by
 intro a s σ H xs c Q I r h;rcases h with⟨i,rfl,q⟩|⟨k,rfl,q⟩
 .obtain⟨u,rfl,t,rfl⟩:=γ r;exact call_int_int ⟨.int i,H,I,⟨_,rfl⟩,q⟩
 .obtain⟨u,rfl,b⟩:=γ r;cases b;exact call_int_bool ⟨.int (if k then 1 else 0),H,I.tok _,⟨_,rfl⟩,q⟩
end
structure ywg(h:qf)(x dx C:x0)(mA:Ε):Prop where
 obj:h.get? x=some (W.instObj C dx)
 ns:h.Ns1 dx mA
 ne:dx≠x
set_option tactic.hygienic true in
def yh8{h:qf}{dx:x0}(n:h.Ns1 dx mA):∃od,h.get? dx=some od/\∀name,W.lookIn name od=some (mA name):=by
 let⟨o,c,l,f,k,i,_,g⟩:=n;exists o,f,λname=>?_;have e:=g name;unfold nsFind findBy at e;rw[<- Array.find?_toList]at e;unfold W.lookIn;rw[k];dsimp only
 split
 .rename_i y q
  rw[q]at e;exact congrArg some e
 .rename_i q
  rw[q]at e
  have a:c.toList.any (·.refKey)=false:=by
   rw[List.any_eq_false];intro y d;let⟨z,t,b⟩:=i y (Array.mem_toList_iff.mp d);simp[DictEntry.refKey,b]
  have j:¬c.toList.any (·.refKey)=true:=by rw[a];exact bL
  rw[if_neg j];exact congrArg some e
def ywg.look{h:qf}{x dx:x0}(I:ywg h x dx C mA):∃od,W.InstAt h x (W.instObj C dx) C (some od)/\∀name,W.lookIn name od=some (mA name) :=
 let ⟨od,ho,hl⟩:=yh8 I.ns
 ⟨od,⟨I.obj,rfl,rfl,ho⟩,hl⟩
section
variable{prog:qh}{w:qd}{A:qe}{s:qa}{K:xr}{x dx f:x0}{name:Str}{v:qb}
def ysa{expr:Bool}(X:K.In s.heap)(I:ywg s.heap x dx C mA)(hg:W.plainGet K C name=true)(hh:W.hasDictIn K C=true)
  (ha:W.findIn K (.ref C) name=some none) (hv:mA name=some v) (hv':W.handedIn v=true) (h:Q v {s with toks:=s.toks+1}):
  wpAny (model prog w) A (getAttr (.ref x) name expr) Q E s:=by let⟨b,J,a⟩:=I.look;exact W.get_value X J (W.plainGet_of hg).1 (W.findObj_own hh ha rfl (by rw[a,hv])) hv' h
def ymg{pl:Sem Bool}{Q:qb×qi qb->qa->Prop}(X:K.In s.heap)(I:ywg s.heap x dx C mA)(hg:W.plainGet K C name=true)
  (hf:W.findIn K (.ref C) name=some (some (.ref f))) (ht:W.isFn K (.ref f)=true) (hv:mA name=none) (h:Q (.ref f,[.ref x]) s):
  wpAny (model prog w) A (getMethod (.ref x) name pl) Q E s:=by let⟨b,J,a⟩:=I.look;exact W.method_fn X J (W.plainGet_of hg).1 (W.plainGet_of hg).2 hf (beq_iff_eq.mp ht) (by show (W.lookIn name b).map (·.isSome)=some false;rw[a,hv];rfl) h
def yso{ns:Τ}{Q:Unit->qa->Prop}(X:K.In s.heap)(I:ywg s.heap x dx C mA)
  (hs:W.findIn K (.ref C) "__setattr__"=some (some (.builtin "object.__setattr__"))) (hp:W.plainOver K C=true) (ht:W.takerIn K C name=some none) (hh:W.hasDictIn K C=true)
  (hw:PySem.Within mA ns) (hsz:ns.length<=sizeLine)
  (h:∀h',ywg h' x dx C (λy=>if y=name then some v else mA y)->Heap.SameBut dx s.heap h'->Q () {s with heap:=h',toks:=s.toks+2}):
  wpAny (model prog w) A (setAttr (.ref x) name v) Q E s:=by let⟨o,J,n⟩:=I.look;refine W.set_plain X J hs (W.osa_open (s:={s with toks:=s.toks+1}) (r:=none) X J hp ht λb=>?_);let⟨p,j,f⟩:=W.any_some hh;have m:s.heap.get? x=some ⟨.ref C,some dx,.plain,#[]⟩:=I.obj;refine bf (bo (bf (bf (wpAny_loadPart m (bf (W.Looks.here (s:={s with toks:=s.toks+1}) (W.looks_clsIn X j) ?_))))));rw[f];refine bo (a:=some dx) (bf (bo (bf ?_)));refine wpAny_nsSet1 (s:={s with toks:=s.toks+1}) I.ns λh' d c=>?_;let⟨q,l,k,e,i,g⟩:=d.count (PySem.Within.cons name v hw);refine bf (wpAny_lookBehind e (by rw[i];exact pastItsLine_dict (bP g (by rw[bW];omega))) ?_);exact bo (h _ ⟨(c.2 _ (Ne.symm I.ne)).trans I.obj,d,I.ne⟩ c)
def ydw{R:Result->qa->Prop}{vs:Ο}(X:K.In s.heap)(hm:W.makesIn K C=true)
  (hi:W.findIn K (.ref C) "__init__"=some (some (.ref f))) (hf:W.typeIn K (.ref f)=some (.type "function"))
  (h:codeAny (model prog w) (A.under (.builtin "type.__call__" ⟨.ref C::vs,kw⟩)) (.call (.ref f) ⟨.ref (s.heap.objs.size+1)::vs,kw⟩) (W.InitBack (s.heap.objs.size+1) R)
   {s with heap:=(s.heap.push W.emptyDict).push (W.instObj C s.heap.objs.size)}):
  codeAny (model prog w) A (.call (.ref C) ⟨vs,kw⟩) R s:=by let⟨c,g,d,t,b⟩:=s;exact W.make_core (W.makes_of X hm) (W.looks_findIn X hi) (λa=>W.bind_fn X a hf) (.inl rfl) h
end
def j9(f:Str)(v:V):qi (Str×V)->qi (Str×V)
 |[]=>[(f,v)]
 |(g,x)::r=>if g=f then (g,v)::r else (g,x)::j9 f v r
theorem č(f g:Str)(v:V):∀fs:Ι,(j9 f v fs).lookup g=if g=f then some v else fs.lookup g
 |[]=>by
  show List.lookup g [(f,v)]=_;by_cases h:g=f
  .have a:(g == f)=true:=beq_iff_eq.mpr h;simp only[List.lookup,a,if_pos h]
  .have a:(g == f)=false:=cR.mpr h;simp only[List.lookup,a,if_neg h]
 |(k,x)::r=>by
  have b:=č f g v r;rw[show j9 f v ((k,x)::r)=(if k=f then (k,v)::r else (k,x)::j9 f v r)from rfl];by_cases hk:k=f
  .rw[if_pos hk];by_cases h:g=k
   .have a:(g == k)=true:=beq_iff_eq.mpr h;simp only[List.lookup,a,if_pos (h.trans hk)]
   .have a:(g == k)=false:=cR.mpr h;simp only[List.lookup,a,if_neg (λe:g=f=>h (e.trans hk.symm))]
  .rw[if_neg hk];by_cases h:g=k
   .have a:(g == k)=true:=beq_iff_eq.mpr h;simp only[List.lookup,a,if_neg (λe:g=f=>hk (h.symm.trans e))]
   .have a:(g == k)=false:=cR.mpr h;simp only[List.lookup,a];exact b
theorem ĕ(f:Str)(v:V):∀fs:Ι,f∈(j9 f v fs).map (·.1)/\∀g,g∈fs.map (·.1)->g∈(j9 f v fs).map (·.1)
 |[]=>⟨by simp[j9],λg h=>by simp at h⟩
 |(k,x)::r=>by
  let⟨a,b⟩:=ĕ f v r;rw[show j9 f v ((k,x)::r)=(if k=f then (k,v)::r else (k,x)::j9 f v r)from rfl];by_cases hk:k=f
  .rw[if_pos hk];subst hk;exists by simp,λg h=>by simpa using h
  .rw[if_neg hk];exists ?_,λg h=>?_
   .rw[bT];exact bM _ a
   .rw[bT]at h⊢;rcases bB.mp h with e|e
    .exact bB.mpr (.inl e)
    .exact bM _ (b g e)
theorem Ē(f:Str)(v:V):∀fs:Ι,(j9 f v fs).length<=fs.length+1
 |[]=>by simp[j9]
 |(k,x)::r=>by
  have a:=Ē f v r;rw[show j9 f v ((k,x)::r)=(if k=f then (k,v)::r else (k,x)::j9 f v r)from rfl];by_cases hk:k=f
  .rw[if_pos hk,bW,bW];omega
  .rw[if_neg hk,bW,bW];omega
def yb8.some_of{o:qj qb}(r:yb8 (some v) o):∃u,o=some u/\xk v u:=by
 cases o with
 |none=>exact(show False from r).elim
 |some u=>exact⟨u,rfl,r⟩
def yb8.none_of{o:qj qb}(r:yb8 none o):o=none:=by
 cases o with
 |none=>rfl
 |some u=>exact(show False from r).elim
def yip(r:xk v u):W.handedIn u=true:=by
 cases v with
 |non=>cases (show u=Value.none from r);rfl
 |bl b=>cases (show u=Value.bool b from r);rfl
 |int i=>let⟨t,e⟩:=(show ∃t,u=Value.int i t from r);cases e;rfl
 |str x=>let⟨t,e⟩:=(show ∃t,u=Value.str x t from r);cases e;rfl
 |byt b=>let⟨t,e⟩:=(show ∃t,u=Value.bytes b t from r);cases e;rfl
 |flt b=>let⟨t,e⟩:=(show ∃t,u=Value.float b t from r);cases e;rfl
 |ref a=>cases (show u=Value.ref a from r);rfl
 |ty n=>cases (show u=Value.type n from r);rfl
section
variable{w:qd}{h:qf}{dx:x0}{fs fs':Ι}
def yaf(hok:HOk P w H h)(e:H a=some (.ins C dx fs)):∃mA,ywg h a dx C mA/\(∀f,yb8 (fs.lookup f) (mA f))/\PySem.Within mA (fs.map (·.1))/\fs.length<=1000/\H dx=some (.own a):=by let⟨d,z,c,b,mA,n,r,q⟩:=(show w9 P w H h a (.ins C dx fs)from hok a _ e);exists mA,⟨b,n,c⟩,r,q,z,d
end
structure Cls(K:xr)(C:x0):Prop where
 pg:W.plainGet K C Str.empty=true
 hd:W.hasDictIn K C=true
 po:W.plainOver K C=true
 sa:W.findIn K (.ref C) "__setattr__"=some (some (.builtin "object.__setattr__"))
def Cls.get{K:xr}(c:Cls K C)(f:Str):W.plainGet K C f=true:=c.pg
def vj(K:xr)(C:x0)(f:Str):Prop:=W.findIn K (.ref C) f=some none
def vj.taker{K:xr}{f:Str}(n:vj K C f):W.takerIn K C f=some none:=by unfold W.takerIn;rw[show W.findIn K (.ref C) f=some none from n];rfl
structure Con(K:xr)(C:x0)(f:Str)(v:V)(u:qb):Prop where
 at_:W.findIn K (.ref C) f=some (some u)
 rel:xk v u
 get:W.specialIn K u "__get__"=some none
 cp:W.copiedNames.contains f=false
structure yv9(K:xr)(C:x0)(m:Str)(f:x0):Prop where
 at_:W.findIn K (.ref C) m=some (some (.ref f))
 fn:W.isFn K (.ref f)=true
 kp:W.keepIn K (.ref f)=true
section
variable{s:qa}{dx:x0}{fs:Ι}{f:Str}{A:qe}
def ygc{b:Bool}(I:Inv X pins σ H s)(e:H a=some (.ins C dx fs))(c:Cls X.K C)(n:vj X.K C f)(l:fs.lookup f=some v)
  (h:∀u s',Inv X pins σ H s'->xk v u->Q u s'):wpAny (model X.prog X.w) A (getAttr (.ref a) f b) Q E s:=by let⟨i,O,r,_,_,_⟩:=yaf I.hok e;let⟨u,g,d⟩:=yb8.some_of (v:=v) (o:=i f) (by rw[<- l];exact r f);exact ysa I.kIn O (c.get f) c.hd n g (yip d) (h u _ (I.tok _) d)
def á{m:Str}{g:x0}{pl:Sem Bool}{Q:qb×qi qb->qa->Prop}(I:Inv X pins σ H s)(e:H a=some (.ins C dx fs))(c:Cls X.K C)(k:yv9 X.K C m g)(l:fs.lookup m=none)
  (h:Q (.ref g,[.ref a]) s):wpAny (model X.prog X.w) A (getMethod (.ref a) m pl) Q E s:=by let⟨d,O,r,_,_,_⟩:=yaf I.hok e;have b:d m=none:=yb8.none_of (by rw[<- l];exact r m);exact ymg I.kIn O (c.get m) k.at_ k.fn b h
def yf0{Q:Unit->qa->Prop}(I:Inv X pins σ H s)(e:H a=some (.ins C dx fs))(c:Cls X.K C)(n:vj X.K C f)(hl:fs.length<1000)(ry:xk y u)
  (h:∀s',Inv X pins σ (upd H a (.ins C dx (j9 f y fs))) s'->Q () s'):wpAny (model X.prog X.w) A (setAttr (.ref a) f u) Q E s:=by
 let⟨i,O,r,k,_,j⟩:=yaf I.hok e;have l:(fs.map (·.1)).length<=sizeLine:=by rw[be,sizeLine_eq];omega
 refine yso I.kIn O c.sa c.po n.taker c.hd k l λv d t=>h _ ?_;have B:∃o,v.get? dx=some o:=let ⟨o,_,_,e',_⟩:=d.ns;⟨o,e'⟩;refine I.write (x:=a) (e:=dx) (by rw[e];exact True.intro) (.inr j) (λb q m z=>(t.2 b m).trans z) B ?_;exists by rw[yk O.ne];exact j,?_,O.ne,d.obj,_,d.ns,λg=>?_,λg p=>?_
 .have:=Ē f y fs;omega
 .show yb8 ((j9 f y fs).lookup g) (if g=f then some u else i g);rw[č];by_cases q:g=f
  .rw[if_pos q,if_pos q];exact ry
  .rw[if_neg q,if_neg q];exact r g
 .by_cases q:g=f
  .rw[q];exact(ĕ f y fs).1
  .refine(ĕ f y fs).2 g (k g λz=>p ?_);show (if g=f then some u else i g)=none;rw[if_neg q];exact z
def Inv.made(I:Inv X pins σ H s):Inv X pins σ (upd (upd H s.heap.objs.size (.own (s.heap.objs.size+1))) (s.heap.objs.size+1) (.ins C s.heap.objs.size []))
  {s with heap:=(s.heap.push W.emptyDict).push (W.instObj C s.heap.objs.size)}:=by
 have c:(s.heap.push W.emptyDict).get? s.heap.objs.size=some W.emptyDict:=bz s.heap rfl
 have j:((s.heap.push W.emptyDict).push (W.instObj C s.heap.objs.size)).get? (s.heap.objs.size+1)=some (W.instObj C s.heap.objs.size):=by
  have:=bz (s.heap.push W.emptyDict) (o:=W.instObj C s.heap.objs.size) rfl
  rwa[Heap.size_push]at this
 have g:(s.heap.push W.emptyDict).Ns s.heap.objs.size (λZ=>none):=⟨W.emptyDict,#[],_,c,rfl,(λe h=>absurd h (by simp)),λZ=>rfl⟩;have i:=I.laid (a:=s.heap.objs.size) (o:=.own (s.heap.objs.size+1)) (h':=s.heap.push W.emptyDict) (t':=s.toks) (λb u q=>bi _ q) (bj _) ⟨_,c⟩;refine i.laid (a:=s.heap.objs.size+1) (o:=.ins C s.heap.objs.size []) (t':=s.toks) (λb u q=>bi _ q) (Nat.le_of_eq (Heap.size_push _ _)) ?_;have d:s.heap.objs.size≠s.heap.objs.size+1:=bQ (Nat.lt_succ_self _);exists by rw[yk d,ya],bJ _,d,j,λZ=>none,(Heap.Ns1.of_empty g).at λo q=>bi _ q,λZ=>True.intro,λy f=>absurd rfl f
def yrd{prog:qh}{w:qd}{env:Env}{pos:Pos}(hb:attributeBase e f env (eval e env)=eval e env)
  (h:wpAny (model prog w) A (eval e env) (λo s₁=>wpAny (model prog w) A (getAttr o f true) Q E s₁) E s):wpAny (model prog w) A (eval (.Attribute e f pos) env) Q E s :=
 Attribute_any_ h (by rw[arm_eval_Attribute,hb])
end
def vfa(K:xr)(ta:TE)(f:Str):TE:=λσ H Q=>ta σ H λx H1=>∃a C dx fs v,x=.ref a/\H1 a=some (.ins C dx fs)/\Cls K C/\vj K C f/\fs.lookup f=some v/\Q v H1
def vfo(K:xr)(ta tv:TE)(f:Str):TS:=λD σ H=>tv σ H λy H1=>ta σ H1 λx H2=>∃a C dx fs,x=.ref a/\H2 a=some (.ins C dx fs)/\Cls K C/\vj K C f/\fs.length<1000/\
 D.nx σ (upd H2 a (.ins C dx (j9 f y fs)))
section
variable{o value:qg}{f:Str}{pos pos' tpos:Pos}{tv:TE}
def yn(he:PE X e ta)(hb:attributeBase e f X.env (eval e X.env)=eval e X.env):PE X (.Attribute e f pos) (vfa X.K ta f):=by refine .mk λb s σ H Q I h=>?_;refine yrd hb (thn (he b s σ H _ I h) λu p h'=>?_);let⟨x,i,j,m,a,C,w,t,v,d,k,c,n,l,q⟩:=h';subst d;obtain rfl:u=Value.ref a:=m;exact ygc j k c n l λy r g o=>⟨v,i,g,o,q⟩
def y9(ha:PE X o ta)(hv:PE X value tv)(hs:swapsWith value (some (.Attribute o f pos')) pos.line X.env=pure false):PS X (.Assign [.Attribute o f pos'] value pos) (vfo X.K ta tv f):=by refine .mk λb s σ H D I h=>?_;refine plainObj_wpAny_Assign_Attribute (thn (hv b s σ H _ I h) λu v ⟨y,k,p,m,q⟩=>thn (ha b v σ k _ p q) λd A h'=>?_) hs;let⟨x,w,g,i,a,C,B,z,e,r,c,n,l,j⟩:=h';subst e;obtain rfl:d=Value.ref a:=i;exact yf0 g r c n l m λE t=>⟨σ,_,t,j⟩
end
section
variable{s:qa}{A:qe}{c:qb}{b:Bool}
inductive ue(K:xr)(H:Hp):V->qb->Prop where
 |non:ue K H .non (.type "NoneType")
 |bl (x:Bool):ue K H (.bl x) (.type "bool")
 |int (i:Int):ue K H (.int i) (.type "int")
 |str (x:Str):ue K H (.str x) (.type "str")
 |flt (x:UInt64):ue K H (.flt x) (.type "float")
 |lst {a:x0} {xs:Υ} (e:H a=some (.lst xs)):ue K H (.ref a) (.type "list")
 |frz {a:x0} {o:Obj} {xs:Υ} (e:H a=some (.frz o (.lst xs))):ue K H (.ref a) (.type "list")
 |tup {a:x0} {xs:Υ} (e:H a=some (.tup xs)):ue K H (.ref a) (.type "tuple")
 |dK {a:x0} {kvs:Κ} (e:H a=some (.dK kvs)):ue K H (.ref a) (.type "dict")
 |dT {a:x0} {kvs:qi (qi Key×V)} (e:H a=some (.dT kvs)):ue K H (.ref a) (.type "dict")
 |ins {a C dx:x0} {fs:Ι} (e:H a=some (.ins C dx fs)) (cl:Cls K C) (ha:W.findIn K (.ref C) "__class__"=some (some (.builtin "object.__class__")))
   (hn:W.specialIn K (.builtin "object.__class__") "__get__"=some (some (.builtin "getset_descriptor.__get__"))) (htk:W.takesIn K (.builtin "object.__class__")=some true)
   (hm:W.mroIn K C (.type "object")=some true):ue K H (.ref a) (.ref C)
def yiu{x:V}{t:qb}(I:Inv X pins σ H s)(rx:xk x u)(ty:ue X.K H x t)(e:W.kitOne X.K t c=some b)(h:∀tk,Q (.bool b) {s with toks:=tk}):
  wpAny (model X.prog X.w) A (call (.builtin "isinstance") [u,c]) Q E s:=by
 cases ty with
 |non=>cases (show u=Value.none from rx);exact W.kia_one W.kitx_none I.kIn True.intro e (λz=>nomatch z) h
 |bl y=>cases (show u=Value.bool y from rx);exact W.kia_one W.kitx_bool I.kIn True.intro e (λz=>nomatch z) h
 |int i=>let⟨t,q⟩:=(show ∃t,u=Value.int i t from rx);cases q;exact W.kia_one W.kitx_int I.kIn True.intro e (λz=>nomatch z) h
 |str y=>let⟨t,q⟩:=(show ∃t,u=Value.str y t from rx);cases q;exact W.kia_one W.kitx_str I.kIn True.intro e (λz=>nomatch z) h
 |flt y=>let⟨t,q⟩:=(show ∃t,u=Value.float y t from rx);cases q;exact W.kia_one W.kitx_float I.kIn True.intro e (λz=>nomatch z) h
 | @lst a xs ea =>
  cases (show u=Value.ref a from rx);let⟨_,_,n,_,d⟩:=(show w9 X.prog X.w H s.heap a (.lst xs)from I.hok a _ ea)
  exact W.kia_one W.kitx_list I.kIn ⟨_,d,rfl⟩ e (λz=>nomatch z) h
 | @frz a ob xs ea =>
  cases (show u=Value.ref a from rx);let⟨_,_,_,n,_,d⟩:=(show w9 X.prog X.w H s.heap a (.frz ob (.lst xs))from I.hok a _ ea)
  exact W.kia_one W.kitx_list I.kIn ⟨_,d,rfl⟩ e (λz=>nomatch z) h
 | @tup a xs ea =>
  cases (show u=Value.ref a from rx);let⟨_,_,_,p⟩:=(show w9 X.prog X.w H s.heap a (.tup xs)from I.hok a _ ea);let⟨o,d,f,_⟩:=p
  exact W.kia_one W.kitx_tuple I.kIn ⟨o,d,f⟩ e (λz=>nomatch z) h
 | @dK a kvs ea =>
  cases (show u=Value.ref a from rx);let⟨_,_,l,_,p⟩:=(show w9 X.prog X.w H s.heap a (.dK kvs)from I.hok a _ ea);let⟨o,j,g,d,f,_⟩:=p
  exact W.kia_one W.kitx_dict I.kIn ⟨o,d,f.1⟩ e (λz=>nomatch z) h
 | @dT a kvs ea =>
  cases (show u=Value.ref a from rx);let⟨_,_,xs,_,o,j,g,d,f,_⟩:=(show w9 X.prog X.w H s.heap a (.dT kvs)from I.hok a _ ea)
  exact W.kia_one W.kitx_dict I.kIn ⟨o,d,f.1⟩ e (λz=>nomatch z) h
 | @ins a C dx fs ea cl ha hn htk hm =>
  cases (show u=Value.ref a from rx);let⟨k,O,_⟩:=yaf I.hok ea;let⟨m,J,_⟩:=O.look
  exact W.kia_one (W.kitx_own (cl.get _) cl.hd ha hn htk hm) I.kIn J e (λz=>nomatch z) h
end
structure jh(k:Nat)(A:qe):Prop where
 hd:A.handled=none
 dp:A.depth+3*k+5<recursionLimit
 un:A.units+16*k+200<cLine
def jh.mono{j k:Nat}{A:qe}(r:jh k A)(h:j<=k):jh j A:=⟨r.hd,by have:=r.dp;omega,by have:=r.un;omega⟩
theorem jh.deeper{k:Nat}{A:qe}(r:jh (k+1) A)(env:Env):jh k (A.deeper env) :=
 ⟨r.hd,by have:=r.dp;show A.depth+1+3*k+5<_;omega,by have:=r.un;show A.units+3+16*k+200<_;omega⟩
def yfx{A:qe}:(A.under (.builtin "type.__call__" ⟨.ref C::us,kw⟩)).depth=A.depth+1:=by first|rfl|simp[Around.under,Code.weight,Code.isCreation,Code.isGuard,Code.isCaller,Code.frames,Code.isFrame,guardIds]
def yfv{A:qe}:(A.under (.builtin "type.__call__" ⟨.ref C::us,kw⟩)).units=A.units+1:=by first|rfl|simp[Around.under,Code.cUnits,Code.frames,Code.isFrame]
def jh.make{k:Nat}{A:qe}(r:jh (k+1) A)(C:x0)(us:Ο)(kw:qi (Str×qb)):jh k (A.under (.builtin "type.__call__" ⟨.ref C::us,kw⟩)) :=
 ⟨r.hd,by have:=r.dp;rw[yfx];omega,by have:=r.un;rw[yfv];omega⟩
theorem jh.depth{k:Nat}{A:qe}(r:jh k A):A.depth<recursionLimit:=by have:=r.dp;omega
theorem jh.units{k:Nat}{A:qe}(r:jh k A):A.units+64<cLine:=by have:=r.un;omega
def ylb:TA:=λZ H Q=>Q [] H
def ynw(ta:TE)(tr:TA):TA:=λσ H Q=>ta σ H λx H1=>tr σ H1 λxs H2=>Q (x::xs) H2
section
variable{t:TA}{pos:Pos}
def uo:PA X [] ylb:=.mk λZ Z Z Z H Q I h=>Calls.spliced_nil ⟨[],H,I,.nil,h⟩
def yjm(ha:PE X e te)(hr:PA X es t)(hs:starEach (e::es) X.env=(false,eval e X.env)::starEach es X.env:=by rfl):PA X (e::es) (ynw te t):=by refine .mk λb a s σ H Q I h=>?_;rw[hs];show wpAny _ _ (spliced ((false,eval e X.env)::backTo b (starEach es X.env))) _ _ s;refine Calls.spliced_cons (thn (ha a s σ H _ I h) λu n h'=>?_);let⟨x,g,l,c,i⟩:=h';exact thn (hr b a n σ g _ l i) λp o ⟨j,m,d,k,f⟩=>⟨x::j,m,d,.cons c k,f⟩
def vfz(t:TA):TE:=λσ H Q=>t σ H λxs H1=>xs.length<=sizeLine/\∀p,H1 p=none->Q (.ref p) (upd H1 p (.tup xs))
def vfl(t:TA):TE:=λσ H Q=>t σ H λxs H1=>xs.length<=sizeLine/\∀p,H1 p=none->Q (.ref p) (upd H1 p (.lst xs))
def ī{x1}(h:PA X es t):PE X (.Tuple es x1 pos) (vfz t):=by refine .mk λa s σ H Q I g=>?_;refine wpAny_Tuple_spliced (thn (h pos a s σ H _ I g) λk c ⟨i,d,f,r,z,q⟩=>⟨by rw[<- r.length];exact z,?_⟩);have j:d c.heap.objs.size=none:=f.hok.fresh (bj _);exists .ref c.heap.objs.size,upd d c.heap.objs.size (.tup i),f.laid (t':=c.toks) (λb u e=>bi _ e) (bj _) ?_,rfl,q _ j;exists z,k,r,⟨_,bz _ rfl,rfl,_,rfl⟩
def xc(h:PA X es t):PE X (.List es pos) (vfl t):=by refine .mk λa s σ H Q I g=>?_;refine wpAny_List_spliced (thn (h pos a s σ H _ I g) λk c ⟨i,d,f,r,z,q⟩=>⟨by rw[<- r.length];exact z,?_⟩);have j:d c.heap.objs.size=none:=f.hok.fresh (bj _);exists .ref c.heap.objs.size,upd d c.heap.objs.size (.lst i),f.laid (t':=c.toks) (λb u e=>bi _ e) (bj _) ?_,rfl,q _ j;exists z,k,0,r,bz _ rfl
end
abbrev Sp:=qi V->Hp->VK->XK->Prop
abbrev CXT:=qi Env->Hp->qa->XK->qb->qa->Prop
variable{CX:CXT}
structure ywb(P:qh)(w:qd)(K:xr)(mg:Ε)(base:qf)(A:qe)(outer:qi Env)(s:qa)(H:Hp):Prop where
 frames:A.frames=some outer
 mod:Mod K mg base
 bs:∀b o,base.get? b=some o->s.heap.get? b=some o/\H b=none
 bsz:base.objs.size<=s.heap.objs.size
 funs:s.heap.FunFrames base outer
 frf:∀b∈frs outer,H b=none
 hok:HOk P w H s.heap
 bare:AllBare s.gens
def CE(outer:qi Env)(P:qh)(w:qd)(H:Hp)(s:qa)(Q:VK)(u:qb)(s':qa):Prop :=
 ∃v H',s'.os=s.os/\AllBare s'.gens/\Un (frs outer) [] H H' s.heap s'.heap/\HOk P w H' s'.heap/\xk v u/\Q v H'
def CR(CX:CXT)(outer:qi Env)(P:qh)(w:qd)(H:Hp)(s:qa)(Q:VK)(E:XK)(r:Result)(s':qa):Prop :=
 match r with
 | .ok (.ret u)=>CE outer P w H s Q u s'
 | .ok _=>False
 | .error e=>CX outer H s E e s'
structure vz(P:qh)(w:qd)(K:xr)(mg:Ε)(base:qf)(CX:CXT)(k:Nat)(f:x0)(fd:FuncData)(ps:Τ)(sp:Sp):Prop where
 len:∀vs H Q E,sp vs H Q E->vs.length=ps.length
 run:∀(A:qe)(outer:qi Env)(s:qa)(H:Hp)(args:Args)(us:Ο)(vs:Υ)(Q:VK)(E:XK),jh k A->ywb P w K mg base A outer s H->BindsTo s fd args (ps.zip us)->wu vs us->sp vs H Q E ->
  codeAny (model P w) A (.call (.ref f) args) (CR CX outer P w H s Q E) s
def ywb.make{w:qd}{K:xr}{mg:Ε}{base:qf}{A:qe}{outer:qi Env}{s:qa}(e:ywb P w K mg base A outer s H)(C:x0)(us:Ο)(kw:qi (Str×qb)):
  ywb P w K mg base (A.under (.builtin "type.__call__" ⟨.ref C::us,kw⟩)) outer s H:=⟨by first|exact e.frames|(simpa[Around.under,Code.envs,Code.isFrame,pushEnvs]using e.frames),e.mod,e.bs,e.bsz,e.funs,e.frf,e.hok,e.bare⟩
section
variable{s:qa}
def Inv.env0(I:Inv X pins σ H s):ywb X.prog X.w X.K X.mg X.base X.A X.stack s H :=
 ⟨I.ok.frames,I.ok.mod,I.bs,bP I.ok.bsz I.sz,I.stack,I.stkFree,I.hok,I.bare⟩
def Inv.after{Q:VK}(I:Inv X pins σ H s)(h:CE X.stack X.prog X.w H s Q u s'):EP X pins σ Q u s':=by let⟨v,j,i,a,k,c,r,q⟩:=h;let⟨f,g,d,t,e⟩:=s';obtain rfl:e=s.os:=i;exists v,j,I.call (h':=f) (g':=g) (d':=d) (t':=t) (ch:=[]) k c a (λb z=>absurd z (by simp)),r,q
end
def yuw(sp:Sp)(dvs:Υ)(E:XK)(t:TA):TE:=λσ H Q=>t σ H λvs H1=>sp (vs++dvs) H1 Q E
def ŀ(C:x0)(m:Str)(sp:Sp)(dvs:Υ)(E:XK)(ta:TE)(t:TA):TE:=λσ H Q=>ta σ H λx H1=>∃a dx fs,x=.ref a/\H1 a=some (.ins C dx fs)/\fs.lookup m=none/\
 t σ H1 λvs H2=>sp (x::(vs++dvs)) H2 Q E
def yvd(C:x0)(sp:Sp)(dvs:Υ)(E:XK)(t:TA):TE:=λσ H Q=>t σ H λvs H1=>∀x dx,H1 x=none->H1 dx=none->dx≠x ->
 sp (.ref x::(vs++dvs)) (upd (upd H1 dx (.own x)) x (.ins C dx [])) (λv H2=>v=.non/\Q (.ref x) H2) E
def xw(K:xr)(fd:FuncData)(ps:Τ)(ds:Ο):Prop :=
 ∀(s:qa)(us:Ο),K.In s.heap->(us++ds).length=ps.length->BindsTo s fd ⟨us,[]⟩ (ps.zip (us++ds))
def xw.all{K:xr}{ps:Τ}(h:∀us:Ο,us.length=ps.length->bindArgs fd ⟨us,[]⟩=pure (ps.zip us)):xw K fd ps []:=λs us Z a=>by
 rw[cO]at a⊢;exact .of_eq (h us a)
def ï(CX:CXT)(X:Cx)(E:XK):Prop:=∀(pins:Θ)(σ:St)(H:Hp)(s:qa)(e:qb)(s':qa),Inv X pins σ H s->CX X.stack H s E e s'->X.xe e s'
section
variable{k:Nat}{f:x0}{ps:Τ}{sp:Sp}{dvs:Υ}{ds:Ο}{E:XK}{x m:Str}{pos apos:Pos}{o:qg}{t:TA}
def ykb{s:qa}{Q:VK}(F:vz X.prog X.w X.K X.mg X.base CX k f fd ps sp)(hr:jh k X.A)(hb:xw X.K fd ps ds)(hd:wu dvs ds)(hx:ï CX X E)
  (I:Inv X pins σ H s) (r:wu vs us) (h:sp (vs++dvs) H Q E):wpAny (model X.prog X.w) X.A (call (.ref f) us) (EP X pins σ Q) X.xe s:=by
 have b:wu (vs++dvs) (us++ds):=r.append hd;have c:(us++ds).length=ps.length:=by rw[<- b.length];exact F.len _ _ _ _ h
 refine wpAny_call (codeAny_mono (F.run X.A X.stack s H ⟨us,[]⟩ (us++ds) (vs++dvs) Q E hr I.env0 (hb s us I.kIn c) b h) λr d a=>?_)
 cases r with
 |error e=>exact hx pins σ H s e d I a
 |ok fl =>
  cases fl with
  |ret u=>exact I.after a
  |next=>exact False.elim a
  |brk=>exact False.elim a
  |cont=>exact False.elim a
def yag(F:vz X.prog X.w X.K X.mg X.base CX k f fd ps sp)(hr:jh k X.A)(hg:Gl X x)(hm:X.mg x=some (.ref f))(hk:W.keepIn X.K (.ref f)=true)(hb:xw X.K fd ps ds)(hd:wu dvs ds)(hx:ï CX X E)
  (ha:PA X (e::es) t) (hdb:(x == ("__debug__":Str))=false:=by decide) (he:starEach (e::es) X.env=(false,eval e X.env)::starEach es X.env:=by rfl) (hpl:(backTo pos (starEach es X.env)).any (·.1)=false:=by rfl):
  PE X (.Call (.Name x p) (e::es) [] pos) (yuw sp dvs E t):=by refine .mk λa s σ H Q I h=>?_;refine wpAny_Call_Name_kw (Á I hg hm ?_ hdb);refine W.callWith_K (h₀:=X.base) I.ok.mod.kin hk (thn (ha pos a s σ H _ I h) λg i ⟨c,d,b,r,q⟩=>⟨b.kIn,?_⟩) he hpl;exact ykb F hr hb hd hx b r q
def xg{pl:Sem Bool}(he:PE X o ta)(c:Cls X.K C)(hm:yv9 X.K C m f)(F:vz X.prog X.w X.K X.mg X.base CX k f fd ps sp)(hr:jh k X.A)(hb:xw X.K fd ps ds)(hd:wu dvs ds)(hx:ï CX X E)(ha:PA X (e::es) t)
  (hst:starEach (e::es) X.env=(false,eval e X.env)::starEach es X.env:=by rfl) (hpl:(backTo pos (starEach es X.env)).any (·.1)=false:=by rfl)
  (ht:eval (.Call (.Attribute o m apos) (e::es) [] pos) X.env=(do
   let ov <- eval o X.env
   standAt apos.atName
   let (f,first) <- holding [ov] (getMethod ov m pl)
   callWith pos f first (backTo pos (starEach (e::es) X.env)) (backToKw pos (keywordEach [] X.env))):=by rfl):
  PE X (.Call (.Attribute o m apos) (e::es) [] pos) (ŀ C m sp dvs E ta t):=by
 refine .mk λb s σ H Q I h=>?_;refine W.methodCall_KW (pl:=pl) (thn (he b s σ H _ I h) λu y h'=>?_) ht;let⟨x,n,g,v,a,G,B,i,p,l,q⟩:=h';subst i;obtain rfl:u=Value.ref a:=v;refine á g p c hm l ?_
 refine W.callWith_K (first:=[.ref a]) (h₀:=X.base) I.ok.mod.kin hm.kp (thn (ha pos b y σ n _ g q) λus D ⟨vs,z,d,r,j⟩=>⟨d.kIn,?_⟩) hst hpl
 exact ykb (us:=.ref a::us) (vs:=.ref a::vs) F hr hb hd hx d (.cons rfl r) j
def vv{pl:Sem Bool}(he:PE X o ta)(c:Cls X.K C)(hm:yv9 X.K C m f)(F:vz X.prog X.w X.K X.mg X.base CX k f fd ps sp)(hr:jh k X.A)(hb:xw X.K fd ps ds)(hd:wu dvs ds)(hx:ï CX X E)
  (ht:eval (.Call (.Attribute o m apos) [] [] pos) X.env=(do
   let ov <- eval o X.env
   standAt apos.atName
   let (f,first) <- holding [ov] (getMethod ov m pl)
   callWith pos f first (backTo pos (starEach [] X.env)) (backToKw pos (keywordEach [] X.env))):=by rfl):
  PE X (.Call (.Attribute o m apos) [] [] pos) (ŀ C m sp dvs E ta ylb):=by
 refine .mk λb s σ H Q I h=>?_;refine W.methodCall_KW (pl:=pl) (thn (he b s σ H _ I h) λu r h'=>?_) ht;let⟨x,j,d,i,a,p,n,e,g,l,q⟩:=h';subst e;obtain rfl:u=Value.ref a:=i;refine á d g c hm l ?_
 exact W.callWith_K0 (first:=[.ref a]) d.kIn hm.kp (ykb (us:=[.ref a]) (vs:=[.ref a]) F hr hb hd hx d (.cons rfl .nil) q)
structure Mk(K:xr)(C f:x0):Prop where
 makes:W.makesIn K C=true
 init:W.findIn K (.ref C) "__init__"=some (some (.ref f))
 fn:W.isFn K (.ref f)=true
 kp:W.keepIn K (.ref C)=true
def ydr{s:qa}{Q:VK}(M:Mk X.K C f)(F:vz X.prog X.w X.K X.mg X.base CX k f fd ps sp)(hr:jh (k+1) X.A)(hb:xw X.K fd ps ds)(hd:wu dvs ds)
  (hx:ï CX X E) (I:Inv X pins σ H s) (r:wu vs us)
  (h:∀x dx,H x=none->H dx=none->dx≠x->sp (.ref x::(vs++dvs)) (upd (upd H dx (.own x)) x (.ins C dx [])) (λv H2=>v=.non/\Q (.ref x) H2) E):
  wpAny (model X.prog X.w) X.A (call (.ref C) us) (EP X pins σ Q) X.xe s:=by
 have c:=h (s.heap.objs.size+1) s.heap.objs.size (I.hok.fresh (Nat.le_succ _)) (I.hok.fresh (bj _)) (bQ (Nat.lt_succ_self _));have b:=Inv.made (C:=C) I;have d:wu (V.ref (s.heap.objs.size+1)::(vs++dvs)) (Value.ref (s.heap.objs.size+1)::(us++ds)):=.cons rfl (r.append hd)
 have i:(Value.ref (s.heap.objs.size+1)::us++ds).length=ps.length:=by
  have e:=d.length;rw[F.len _ _ _ _ c]at e;exact e.symm
 refine wpAny_call (ydw (f:=f) I.kIn M.makes M.init (beq_iff_eq.mp M.fn) (codeAny_mono (F.run _ X.stack _ _ ⟨Value.ref (s.heap.objs.size+1)::us,[]⟩ (Value.ref (s.heap.objs.size+1)::(us++ds)) _ _ E (hr.make C us [])
  (b.env0.make C us []) (hb _ (Value.ref (s.heap.objs.size+1)::us) b.kIn i) d c) λr l a=>?_))
 cases r with
 |error e=>exact hx pins σ _ _ e l b a
 |ok fl =>
  cases fl with
  |ret u =>
   let⟨v,m,o,n,j,g⟩:=b.after a;subst j;exists n,⟨V.ref (s.heap.objs.size+1),m,o,rfl,g⟩
  |next=>exact False.elim a
  |brk=>exact False.elim a
  |cont=>exact False.elim a
def Ğ(M:Mk X.K C f)(F:vz X.prog X.w X.K X.mg X.base CX k f fd ps sp)(hr:jh (k+1) X.A)(hg:Gl X x)(hm:X.mg x=some (.ref C))(hb:xw X.K fd ps ds)(hd:wu dvs ds)(hx:ï CX X E)
  (ha:PA X (e::es) t) (hdb:(x == ("__debug__":Str))=false:=by decide) (he:starEach (e::es) X.env=(false,eval e X.env)::starEach es X.env:=by rfl) (hpl:(backTo pos (starEach es X.env)).any (·.1)=false:=by rfl):
  PE X (.Call (.Name x p) (e::es) [] pos) (yvd C sp dvs E t):=by refine .mk λa s σ H Q I h=>?_;refine wpAny_Call_Name_kw (Á I hg hm ?_ hdb);refine W.callWith_K (h₀:=X.base) I.ok.mod.kin M.kp (thn (ha pos a s σ H _ I h) λg i ⟨c,d,b,r,q⟩=>⟨b.kIn,?_⟩) he hpl;exact ydr M F hr hb hd hx b r q
def zk(M:Mk X.K C f)(F:vz X.prog X.w X.K X.mg X.base CX k f fd ps sp)(hr:jh (k+1) X.A)(hg:Gl X x)(hm:X.mg x=some (.ref C))(hb:xw X.K fd ps ds)(hd:wu dvs ds)(hx:ï CX X E)
  (hdb:(x == ("__debug__":Str))=false:=by decide):PE X (.Call (.Name x p) [] [] pos) (yvd C sp dvs E ylb):=by refine .mk λa s σ H Q I h=>?_;refine wpAny_Call_Name_kw (Á I hg hm ?_ hdb);exact W.callWith_K0 I.kIn M.kp (ydr (us:=[]) M F hr hb hd hx I .nil h)
end
section
variable{k:Nat}{f:x0}{ps ks:Τ}{sp:Sp}{E:XK}{x m:Str}{pos apos kpos:Pos}{o:qg}{kws:qi Keyword}{t tk:TA}{nm:Φ}
structure vfd(K:xr)(fd:FuncData)(ps ks:Τ)(g:qi qb->qi qb->qi qb)(gV:qi V->qi V->qi V):Prop where
 to:∀(s:qa)(us ws:Ο),K.In s.heap->(g us ws).length=ps.length->BindsTo s fd ⟨us,ks.zip ws⟩ (ps.zip (g us ws))
 rel:∀{vs:Υ}{us:Ο}{zs:Υ}{ws:Ο},wu vs us->wu zs ws->wu (gV vs zs) (g us ws)
variable{g:qi qb->qi qb->qi qb}{gV:qi V->qi V->qi V}
end
structure yi(N P:Τ)(sc:Scope):Prop where
 kind:sc.kind=.function
 co:sc.isCoroutine=false
 gen:sc.isGenerator=false
 nd:N.Nodup
 pre:N.take P.length=P
 par:∀x∈P,sc.names.lookup x=some .local\/sc.names.lookup x=some .cell
 nofree:∀y∈sc.names,y.2≠.free
theorem ybc{kindOf:Str->qj NameKind}{x:Str}:∀{binds:qi (Str×qb)}{m:Ε},(∀v,(x,v)∉binds)->bindL kindOf binds m x=m x
 |[],_,_=>rfl
 |(n,v)::r,m,h=>by
  unfold bindL;rw[ybc λw a=>h w (bM _ a)]
  split
  .have:x≠n:=by rintro rfl;exact h v bN
   simp[this]
  .rfl
theorem ybn{kindOf:Str->qj NameKind}{x:Str}:∀{binds:qi (Str×qb)}{m:Ε},(∀v,(x,v)∉binds)->bindC kindOf binds m x=m x
 |[],_,_=>rfl
 |(n,v)::r,m,h=>by
  unfold bindC;rw[ybn λw a=>h w (bM _ a)]
  split
  .rfl
  .have:x≠n:=by rintro rfl;exact h v bN
   simp[this]
theorem ya7{kindOf:Str->qj NameKind}{x:Str}{v:qb}:∀{P:Τ}{vs:Ο}{i:Nat}{m:Ε},P.Nodup->P[i]?=some x->vs[i]?=some v->kindOf x=some .local ->
  bindL kindOf (P.zip vs) m x=some v
 |[],_,_,_,_,h,_,_=>by simp at h
 |_::_,[],_,_,_,_,h,_=>by simp at h
 |p::P,w::vs,0,m,nd,h1,h2,hk=>by
  simp at h1 h2;subst h1;subst h2;show bindL kindOf ((p,w)::P.zip vs) m p=_;unfold bindL;rw[ybc λv a=>(cJ.mp nd).1 (List.of_mem_zip a).1,if_pos hk];simp
 |p::P,w::vs,i+1,m,nd,h1,h2,hk=>by
  show bindL kindOf ((p,w)::P.zip vs) m x=_;unfold bindL;exact ya7 (i:=i) (cJ.mp nd).2 (by simpa using h1) (by simpa using h2) hk
theorem ybd{kindOf:Str->qj NameKind}{x:Str}{v:qb}:∀{P:Τ}{vs:Ο}{i:Nat}{m:Ε},P.Nodup->P[i]?=some x->vs[i]?=some v->kindOf x≠some .local ->
  bindC kindOf (P.zip vs) m x=some v
 |[],_,_,_,_,h,_,_=>by simp at h
 |_::_,[],_,_,_,_,h,_=>by simp at h
 |p::P,w::vs,0,m,nd,h1,h2,hk=>by
  simp at h1 h2;subst h1;subst h2;show bindC kindOf ((p,w)::P.zip vs) m p=_;unfold bindC;rw[ybn λv a=>(cJ.mp nd).1 (List.of_mem_zip a).1,if_neg hk];simp
 |p::P,w::vs,i+1,m,nd,h1,h2,hk=>by
  show bindC kindOf ((p,w)::P.zip vs) m x=_;unfold bindC;exact ybd (i:=i) (cJ.mp nd).2 (by simpa using h1) (by simpa using h2) hk
def é(N:Τ)(vs:Υ):St:=vs.map some++List.replicate (N.length-vs.length) none
def vy(CX:CXT)(P:qh)(w:qd)(K:xr)(mg:Ε)(base:qf)(N:Τ)(qual:Str)(scope:Scope)(f:x0)(cd:qb)(A:qe)(outer:qi Env)(s:qa)(H:Hp)(E:XK):Cx where
 prog:=P
 w:=w
 K:=K
 mg:=mg
 base:=base
 A:=A.deeper (envOfC qual scope s.heap.objs.size f cd)
 N:=N
 s₀:=s
 H₀:=H
 env:=envOfC qual scope s.heap.objs.size f cd
 outer:=outer
 stack:=envOfC qual scope s.heap.objs.size f cd::outer
 ex:=[]
 calm:=true
 fn:=λZ=>true
 pn:=[]
 xe:=λe s'=>wpAny (model P w) (A.deeper (envOfC qual scope s.heap.objs.size f cd)) (leaving (envOfC qual scope s.heap.objs.size f cd) e) (λZ s''=>CX outer H s E e s'') (λe' s''=>CX outer H s E e' s'') s'
def ydq{sc:Scope}{n:Nat}{x:Str}(h:sc.names.lookup x=some .cell):∃c,(cellsFrom n sc.names []).lookup x=some c:=by have q:=W.cellsFrom_some sc.names n [] (.inl h);exact Option.isSome_iff_exists.mp q
def yhg{w:qd}{K:xr}{mg:Ε}{base:qf}{N ps:Τ}{qual:Str}{scope:Scope}{f:x0}{cd:qb}{A:qe}{outer:qi Env}{s s1:qa}{E:XK} 
  (S:yi N ps scope) (hd:A.handled=none) (e0:ywb P w K mg base A outer s H) (hl:vs.length=ps.length) (r:wu vs us)
  (x:InCallC s s.heap.objs.size (bindL (envOfC qual scope s.heap.objs.size f cd).kindOf (ps.zip us) λZ=>none) (cellsFrom (s.heap.objs.size+1) scope.names []) (bindC (envOfC qual scope s.heap.objs.size f cd).kindOf (ps.zip us) λZ=>none) s1):
  Inv (vy CX P w K mg base N qual scope f cd A outer s H E) [] (é N vs) H s1:=by
 have D:ps.length<=N.length:=by have:=congrArg List.length S.pre;rw[bH]at this;omega
 let⟨t,I,rfl,B⟩:=x.done;have j:∀b:x0,b∉(vy CX P w K mg base N qual scope f cd A outer s H E).ex:=λb z=>absurd (show b∈([]:Χ)from z) (by simp)
 refine⟨⟨e0.mod,S.kind,rfl,rfl,bj _,λy z c t d=>?_,λy g=>?_,λy c Z h=>?_,λZ=>hd,Around.frames_deeper e0.frames,.inr ⟨rfl,rfl⟩,λb z=>absurd z (j b),e0.bs,e0.bsz,λb Z Z=>j b,λb z=>absurd z (j b),e0.funs,e0.frf⟩,
  rfl,e0.bare,Un.kept B,⟨_,x.toInCall.ns,λi y v t d J=>?_⟩,λy c h=>⟨_,x.cell y c h⟩,e0.hok.fresh (bj _),λy c h=>?_,λp l=>absurd (show p∈([]:Θ)from l) (by simp),e0.hok.kept B,?_⟩
 .exact name_of_addr x.apart (PySem.mem_of_lookup t) (PySem.mem_of_lookup d)
 .have g:scope.names.lookup y=some .cell\/scope.names.lookup y=some .free:=g;rcases g with g|g
  .exact ydq g
  .exact absurd rfl (S.nofree _ (PySem.mem_of_lookup g))
 .exact Nat.le_of_lt (x.above y c (PySem.mem_of_lookup h))
 .have o:i<vs.length:=by
   unfold é at d;by_cases o:i<vs.length
   .exact o
   .rw[cI (by simpa using o)]at d;rw[List.getElem?_replicate]at d
    split at d<;>cases d
  have G:vs[i]?=some v:=by
   unfold é at d;rw[List.getElem?_append_left (by simpa using o),bn]at d
   cases e:vs[i]? with
   |none=>rw[e]at d;cases d
   |some a=>rw[e]at d;cases d;rfl
  let⟨u,C,F⟩:=r.get G
  have l:ps[i]?=some y:=by
   rw[<- S.pre,List.getElem?_take_of_lt (by omega)];exact t
  have m:ps.Nodup:=by rw[<- S.pre];exact S.nd.sublist (List.take_sublist _ _)
  exists u,F,?_;rcases S.par y (bA l)with k|k
  .exact .inl ⟨k,ya7 m l C k⟩
  .obtain⟨c,e⟩:=ydq (n:=s.heap.objs.size+1) k;refine .inr ⟨.inl k,c,e,?_⟩;have q:=x.cell y c e;rw[ybd m l C (by show scope.names.lookup y≠_;rw[k];decide)]at q;exact q
 .exact e0.hok.fresh (Nat.le_of_lt (x.above y c (PySem.mem_of_lookup h)))
 .unfold é;show _=N.length;rw[bp,be,cF];omega
def ynu{w:qd}{K:xr}{mg:Ε}{base:qf}{k:Nat}{f:x0}{name qual:Str}{params:Arguments}{scope:Scope}{dV kV doc pm cdv ct oc:qb}{an od:qj x0}
  {osl:Array (qj qb)} {N ps:Τ} {sp:Sp} (lk:K.lookup f=some ⟨oc,od,.func (W.fnOf name qual params body scope dV kV doc pm an cdv ct),osl⟩) (hcd:W.codeIn K cdv qual=true) (S:yi N ps scope)
  (len:∀vs H Q E,sp vs H Q E->vs.length=ps.length)
  (hbody:∀(A:qe)(outer:qi Env)(s:qa)(H:Hp)(vs:Υ)(Q:VK)(E:XK),jh k (A.deeper (envOfC qual scope s.heap.objs.size f cdv))->sp vs H Q E ->
   ∃t,PSs (vy CX P w K mg base N qual scope f cdv A outer s H E) body t/\t { nx:=λZ H'=>Q .non H',rt:=Q} (é N vs) H):
  vz P w K mg base CX (k+1) f (W.fnOf name qual params body scope dV kV doc pm an cdv ct) ps sp:=by
 exists len,λA outer s H z L vs Q E i d M r g=>?_;have R:=len _ _ _ _ g;have p:K.In s.heap:=d.mod.kin.keeps λb o e=>(d.bs b o e).1;have j:s.heap.NoLimit:=d.mod.nolimit.keeps λb o e=>(d.bs b o e).1
 have a:∀y∈ps.zip L,scope.names.lookup y.1=some .local\/(scope.names.lookup y.1=some .cell/\((cellsFrom (s.heap.objs.size+1) scope.names []).lookup y.1).isSome=true):=λ⟨n,v⟩ C=>by
  rcases S.par n (List.of_mem_zip C).1 with q|q
  .exact .inl q
  .exact .inr ⟨q,W.cellsFrom_some _ _ _ (.inl q)⟩
 refine codeAny_call_function i.depth (p _ _ lk) rfl S.co S.gen rfl (W.codeRec_of p hcd) (M _ _ _ _ ?_);refine wpAny_newFunctionEnv_cells S.kind a λT G B x=>?_;subst G;exists j.keeps x.toInCall.keep,codeAny_func ?_;let⟨t,O,F⟩:=hbody A outer s H vs Q E (i.deeper _) g;have I:Inv (vy CX P w K mg base N qual scope f cdv A outer s H E) [] (é N vs) H B:=yhg S i.hd d R r x;refine cM (O [] B (é N vs) H _ I F) (λD l c=>?_) λe l c=>c
 have h:∀{σ':St}{H':Hp}{v:V}{u:qb},Inv (vy CX P w K mg base N qual scope f cdv A outer s H E) [] σ' H' l->xk v u->Q v H'->CE outer P w H s Q u l :=
  λ{σ' H' v u}J m q=>⟨v,H',J.os,J.bare,J.base,J.hok,m,q⟩
 cases D with
 |ret u =>
  let⟨v,σ',H',J,m,q⟩:=c;exact h J m q
 |next =>
  let⟨σ',H',J,q⟩:=c;exact h (v:=V.non) (u:=Value.none) J rfl q
 |brk =>
  let⟨_,_,_,q⟩:=c;exact False.elim q
 |cont =>
  let⟨_,_,_,q⟩:=c;exact False.elim q
section
variable{x:Str}{pos:Pos}{t:TA}{id T:String}{r:qi V->Hp->VK->Prop}
def tCB(r:qi V->Hp->VK->Prop)(t:TA):TE:=λσ H Q=>t σ H λvs H1=>r vs H1 Q
def ymw(hc:zi X (.builtin id) r)(hg:Gl X x)(hm:X.mg x=none)(hv:bootBuiltins x=some (.builtin id))(ha:PA X (e::es) t)(hn:x≠"__name__":=by decide)(hdb:(x == ("__debug__":Str))=false:=by decide)
  (he:starEach (e::es) X.env=(false,eval e X.env)::starEach es X.env:=by rfl) (hpl:(backTo pos (starEach es X.env)).any (·.1)=false:=by rfl):PE X (.Call (.Name x p) (e::es) [] pos) (tCB r t):=by refine .mk λa s σ H Q I h=>?_;refine wpAny_Call_Name_kw (Į I hg hm hv ?_ hn hdb);exact PyProof.Rows.callWith_builtin1 (thn (ha pos a s σ H _ I h) λi j ⟨c,d,g,b,f⟩=>hc a j σ d c i Q g b f) he hpl
def yio(hc:zi X (.type T) r)(hg:Gl X x)(hm:X.mg x=none)(hv:bootBuiltins x=some (.type T))(ha:PA X (e::es) t)(hn:x≠"__name__":=by decide)(hdb:(x == ("__debug__":Str))=false:=by decide)
  (he:starEach (e::es) X.env=(false,eval e X.env)::starEach es X.env:=by rfl) (hpl:(backTo pos (starEach es X.env)).any (·.1)=false:=by rfl):PE X (.Call (.Name x p) (e::es) [] pos) (tCB r t):=by refine .mk λa s σ H Q I h=>?_;refine wpAny_Call_Name_kw (Į I hg hm hv ?_ hn hdb);exact PyProof.Rows.callWith_type1 (thn (ha pos a s σ H _ I h) λi j ⟨c,d,g,b,f⟩=>hc a j σ d c i Q g b f) he hpl
end
end L2
namespace HT
open PySem PyProof.Rows
section
open PySem.SeqAt
open PySem.AutoSeq1 (wpAny_loadPart')
open PySem.MeetsSeq PySem.MeetsSeq2 PySem.MeetsSeq3
end
section
variable{prog:qh}{w:qd}{A:qe}{E:Δ}{s:qa}
def sIx(n d:Nat):qj Int->Nat
 |none=>d
 |some v=>if v<0 then (v+(n:Int)).toNat else min v.toNat n
def sIx_none(n d:Nat):sIx n d none=d:=rfl
def sIx_nat(n d k:Nat):sIx n d (some (k:Int))=min k n:=by show (if (k:Int)<0 then ((k:Int)+(n:Int)).toNat else min (k:Int).toNat n)=min k n;rw[if_neg (by omega),Int.toNat_natCast]
def vaj(n d:Nat)(hd:d<=n)(o:qj Int):sIx n d o<=n:=by
 cases o with
 |none=>exact hd
 |some v =>
  show (if v<0 then (v+(n:Int)).toNat else min v.toNat n)<=n;by_cases hv:v<0
  .rw[if_pos hv];omega
  .rw[if_neg hv];exact Nat.min_le_right _ _
def yi5(v:Int)(n d:Nat):(if v<0 then max (v+(n:Int)) 0 else min v (n:Int))=((sIx n d (some v):Nat):Int):=by
 show (if v<0 then max (v+(n:Int)) 0 else min v (n:Int))=(((if v<0 then (v+(n:Int)).toNat else min v.toNat n):Nat):Int);by_cases hv:v<0
 .simp only[if_pos hv];omega
 .simp only[if_neg hv];omega
def ygd(lo hi:qj Int)(n:Nat):Builtin.Slice.sliceAdjust lo hi 1 (n:Int)=(((sIx n 0 lo:Nat):Int),((sIx n n hi:Nat):Int)):=by
 have a:¬((1:Int)<0):=by omega
 unfold Builtin.Slice.sliceAdjust;simp only[a,if_false];refine Prod.ext ?_ ?_
 .cases lo with
  |none=>rfl
  |some v=>exact yi5 v n 0
 .cases hi with
  |none=>rfl
  |some v=>exact yi5 v n n
def ygn(i j:Nat):Builtin.Slice.slicePlaces (i:Int) (j:Int) 1=j-i:=by
 unfold Builtin.Slice.slicePlaces;have a:(1:Int) > 0:=by omega
 simp only[a,if_true,Int.ediv_one]
 split<;>omega
def ŋ{v:qb}{o:qj Int}{Q:qj Int->qa->Prop}(p:IsPart v o)(h:Q o s):wpAny (model prog w) A (Builtin.Slice.slicePartIndex v) Q E s:=by
 cases p with
 |none=>exact slicePart_none h
 |int i t=>exact slicePart_int h
def ji{sl:x0}{vl vu:qb}{lo hi:qj Int}{n:Nat}{Q:Int×Int×Nat->qa->Prop}(hs:s.heap.IsSliceOf sl vl vu .none)(pl:IsPart vl lo)(pu:IsPart vu hi)
  (h:Q (((sIx n 0 lo:Nat):Int),1,sIx n n hi-sIx n 0 lo) s):wpAny (model prog w) A (Builtin.Slice.sliceApplied (.ref sl) (pure (n:Int))) Q E s:=by
 let⟨d,a,c,b⟩:=id hs;unfold Builtin.Slice.sliceApplied Builtin.Slice.sliceFields;refine bf (bf (cw a b (x:=vl) rfl (bf (cw a b (x:=vu) rfl (bf (cw a b (x:=.none) rfl (bo ?_)))))));refine bf (slicePart_none ?_);show wpAny _ _ (if ((1:Int) == 0)=true then _ else _) _ _ s;rw[if_neg (by decide)];refine bf (ŋ pl (bf (ŋ pu (bf (bo ?_)))))
 show wpAny _ _ (match Builtin.Slice.sliceAdjust lo hi 1 (n:Int)with|(lo,hi)=>pure (lo,(1:Int),Builtin.Slice.slicePlaces lo hi 1)) _ _ s
 rw[ygd lo hi n];show wpAny _ _ (pure (((sIx n 0 lo:Nat):Int),(1:Int),Builtin.Slice.slicePlaces ((sIx n 0 lo:Nat):Int) ((sIx n n hi:Nat):Int) 1)) _ _ s;rw[ygn];exact bo h
def ymn(xs:Array qb)(i k:Nat):((List.range k).filterMap λ(m:Nat)=>xs[((i:Int)+(m:Int)*1).toNat]?).toArray=((xs.toList.drop i).take k).toArray:=by
 have e:(λ(m:Nat)=>xs[((i:Int)+(m:Int)*1).toNat]?)=λm=>xs[i+m]?:=by
  funext m
  have:((i:Int)+(m:Int)*1).toNat=i+m:=by omega
  rw[this]
 rw[e];have:=pick_run xs i k;rw[List.filterMap_map]at this;have a:((λx=>xs[x]?) ∘ λx=>i+x)=λm=>xs[i+m]?:=rfl;rw[a]at this;rw[this]
def getItem_tuple_cut{t sl:x0}{items:Array qb}{vl vu:qb}{lo hi:qj Int}{Q:Δ}(ht:IsTup s.heap t items)(hs:s.heap.IsSliceOf sl vl vu .none)(pl:IsPart vl lo)(pu:IsPart vu hi)
  (hw:¬(sIx items.size 0 lo=0/\sIx items.size items.size hi=items.size))
  (h:Q (.ref s.heap.objs.size) {s with heap:=s.heap.push { cls:=.type "tuple",data:=.seq ((items.toList.drop (sIx items.size 0 lo)).take (sIx items.size items.size hi-sIx items.size 0 lo)).toArray} })
  (hsz:items.size<=sizeLine):wpAny (model prog w) A (getItem (.ref t) (.ref sl)) Q E s:=by
 have a:sizeOk (.seq ((items.toList.drop (sIx items.size 0 lo)).take (sIx items.size items.size hi-sIx items.size 0 lo)).toArray):=by
  show ((items.toList.drop (sIx items.size 0 lo)).take (sIx items.size items.size hi-sIx items.size 0 lo)).toArray.size<=sizeLine;rw[bx,bH,cH,cu];omega
 have k:sIx items.size items.size hi<=items.size:=vaj _ _ (bj _) hi;let⟨f,e,c,g⟩:=id hs;have d:s.TypeIs (.ref sl) "slice":=⟨f,e,c⟩;unfold getItem
 try with_reducible refine wpAny_holding ?_
 first|refine bf (bo ?_)|skip
 refine bf (wpAny_sequenceKey ht.typeIs (by decide) ?_);refine bf (wpAny_callSpecial?_slot (name:=Str.ofString "__getitem__") ht.typeIs PyProof.Rows.slot_tuple_getitem
  (wpAny_call_entry PyProof.Rows.slot_tuple_getitem ht.typeIs entry_tuple_getitem ?_ (args_tuple_getitem _ _)))
 show wpAny _ _ (Builtin.Tuple.tupleItemsOf (.ref t) >>=_) _ _ s;refine bf (tupleItemsOf_ ht ?_);refine bf (wpAny_typeOf d ?_);rw[if_pos (by decide)];refine bf (ji hs pl pu ?_)
 have b:¬((((sIx items.size 0 lo:Nat):Int) == 0 && (1:Int) == 1 && (sIx items.size items.size hi-sIx items.size 0 lo) == items.size)=true):=by
  intro q;rw[bV,bV]at q;have j:((sIx items.size 0 lo:Nat):Int)=0:=eq_of_beq q.1.1;have i:sIx items.size items.size hi-sIx items.size 0 lo=items.size:=eq_of_beq q.2;exact hw ⟨by omega,by omega⟩
 show wpAny _ _ (if (((sIx items.size 0 lo:Nat):Int) == 0 && (1:Int) == 1 && (sIx items.size items.size hi-sIx items.size 0 lo) == items.size)=true then _ else _) _ _ s;rw[if_neg b,ymn]
 first
  |exact bf (m:=Builtin.Tuple.tupleExact _) (wpAny_newObj_type (bo ⟨_,rfl,bo h⟩) a)
  |exact bf (m:=Builtin.Tuple.tupleExact _) (wpAny_newObj_type (bf (bo (bo ⟨_,rfl,bo h⟩))) a)
  |exact bf (bf (m:=Builtin.Tuple.tupleExact _) (wpAny_newObj_type (bo (bo ⟨_,rfl,bo h⟩)) a))
  |exact bf (bf (m:=Builtin.Tuple.tupleExact _) (wpAny_newObj_type (bo ⟨_,rfl,bo h⟩) a))
end
end HT
namespace L2
open PySem PySem.Spec PyProof.Rows
variable{pins:Θ}{its us:Ο}{v:qb}
abbrev TO:=St->Hp->(qj Int->Hp->Prop)->Prop
def PO(X:Cx)(e:qj qg)(t:TO):Prop :=
 ∀(pins:Θ)(s:qa)(σ:St)(H:Hp)(Q:qj Int->Hp->Prop),Inv X pins σ H s->t σ H Q ->
  wpAny (model X.prog X.w) X.A (evalPart e X.env) (λu s'=>∃o H',Inv X pins σ H' s'/\IsPart u o/\Q o H') X.xe s
def yi1:TO:=λZ H Q=>Q none H
def vby(t:TE):TO:=λσ H Q=>t σ H λx H1=>∃i,x=.int i/\Q (some i) H1
def ygh{ns:Ρ}:∀{us:Ο},wu (ns.map V.int) us->IntsAre us ns:=by
 induction ns with
 |nil=>intro us r;rw[List.map_nil]at r;cases r;exact .nil
 |cons n ns ih =>
  intro us r;rw[bT]at r
  cases r with
  |cons r1 r2 =>
   let⟨t,e⟩:=r1;subst e;exact .cons n t (ih r2)
section
variable{X:Cx}{e:qg}{te:TE}{lo hi:qj qg}{tl th:TO}{pos p2:Pos}
def uv:PO X none yi1:=by intro a s σ H Q I h;rw[evalPart_none];exact bo ⟨none,H,I,.none,h⟩
def uk(h:PE X e te):PO X (some e) (vby te):=by intro a s σ H Q I d;rw[evalPart_some];refine thn (h a s σ H _ I d) λu j h'=>?_;let⟨x,c,g,b,f⟩:=h';let⟨i,rfl,q⟩:=f;let⟨t,rfl⟩:=b;exists some i,c,g,.int i t,q
def SlR(X:Cx)(r:V->qj Int->qj Int->Hp->VK->Prop):Prop :=
 ∀(pins:Θ)(s:qa)(σ:St)(H:Hp)(x:V)(v vl vu:qb)(lo hi:qj Int)(sl:x0)(Q:VK),Inv X pins σ H s->xk x v->s.heap.IsSliceOf sl vl vu .none->IsPart vl lo->IsPart vu hi->r x lo hi H Q ->
  ∃T id,typeLookup (.type T) "__getitem__"=pure (some (.builtin id))/\s.TypeIs v T/\wpAny (model X.prog X.w) X.A (getItem v (.ref sl)) (EP X pins σ Q) X.xe s
def SlR.or{r r':V->qj Int->qj Int->Hp->VK->Prop}(h:SlR X r)(h':SlR X r'):SlR X (λx lo hi H Q=>r x lo hi H Q\/r' x lo hi H Q):=by
 intro a s σ H x v c b lo hi d Q I f g e i q;rcases q with q|q
 .exact h a s σ H x v c b lo hi d Q I f g e i q
 .exact h' a s σ H x v c b lo hi d Q I f g e i q
def tSl(r:V->qj Int->qj Int->Hp->VK->Prop)(te:TE)(tl th:TO):TE:=λσ H Q=>te σ H λx H1=>tl σ H1 λl H2=>th σ H2 λu H3=>r x l u H3 Q
def ub{r:V->qj Int->qj Int->Hp->VK->Prop}(hr:SlR X r)(he:PE X e te)(hl:PO X lo tl)(hu:PO X hi th):PE X (.Subscript e (.Slice lo hi none p2) pos) (tSl r te tl th):=by refine .mk λa s σ H Q I h=>?_;refine Subscript_ (thn (he a s σ H _ I h) λv J h'=>?_);let⟨x,j,m,n,k⟩:=h';refine wpAny_Slice (thn (hl a J σ j _ m k) λf C ⟨l,B,z,o,F⟩=>thn (hu a C σ B _ z F) λd c h'=>?_);let⟨u,g,p,D,E⟩:=h';rw[evalPart_none];refine bo ?_;have t:Inv X a σ g {c with heap:=c.heap.push { cls:=.type "slice",data:=.fields #[f,d,.none]} }:=p.kept (t':=c.toks) λb K q=>bi _ q;let⟨T,id,G,y,i⟩:=hr a {c with heap:=c.heap.push { cls:=.type "slice",data:=.fields #[f,d,.none]} } σ g x v f d l u c.heap.objs.size Q t n (Heap.IsSliceOf.new ..) o D E;show wpAny (model X.prog X.w) X.A (subscriptTail e (.Slice lo hi none p2) v (.ref c.heap.objs.size)) (EP X a σ Q) X.xe {c with heap:=c.heap.push { cls:=.type "slice",data:=.fields #[f,d,.none]} };exact tail_any (ops:=[.ref c.heap.objs.size,v]) y G i (by with_unfolding_all rfl)
def ydl(xs:Υ)(lo hi:qj Int):Υ:=(xs.drop (HT.sIx xs.length 0 lo)).take (HT.sIx xs.length xs.length hi-HT.sIx xs.length 0 lo)
def ċ(xs:Υ)(lo hi:qj Int):(ydl xs lo hi).length<=xs.length:=by unfold ydl;rw[bH,cH];omega
def vgf(K:xr):V->qj Int->qj Int->Hp->VK->Prop:=λx lo hi H Q=>∃a xs,x=.ref a/\SqT K H a xs/\
 ¬(HT.sIx xs.length 0 lo=0/\HT.sIx xs.length xs.length hi=xs.length)/\∀p,H p=none->Q (.ref p) (upd H p (.tup (ydl xs lo hi)))
def vbm:SlR X (vgf X.K):=by
 intro i s σ H x v w u lo f y Q I m t k p h;let⟨a,d,rfl,n,l,q⟩:=h;cases m;let⟨e,r,j,g⟩:=I.tuple n;have c:e.toArray.size=d.length:=by rw[bx];exact r.length.symm
 refine⟨"tuple",_,PyProof.Rows.slot_tuple_getitem.lookup,j.typeIs,?_⟩;refine HT.getItem_tuple_cut j t k p (by rw[c];exact l) ?_ (by rw[c];exact g);rw[c];exists .ref s.heap.objs.size,_,I.laid (t':=s.toks) (o:=.tup (ydl d lo f)) (λb z q=>bi _ q) (bj _) ?_,rfl,q _ (I.hok.fresh (bj _));exists bP (ċ d lo f) g,_,(r.drop (HT.sIx d.length 0 lo)).take (HT.sIx d.length d.length f-HT.sIx d.length 0 lo),IsTup.new _ _
end
def ixN(n:Nat)(i:Int):qj Nat:=if 0<=i then (if i<n then some i.toNat else none)else if -(n:Int)<=i then some (i+n).toNat else none
def atI{α:Type}(xs:qi α)(i:Int):qj α:=(ixN xs.length i).bind λj=>xs[j]?
def yi8{n:Nat}{i:Int}{j:Nat}(h:ixN n i=some j):seqIndex? i n=some j/\j<n/\-(n:Int)<=i/\i<n:=by
 unfold ixN at h;by_cases h0:0<=i
 .rw[if_pos h0]at h;by_cases h1:i<n
  .rw[if_pos h1]at h;have e:i.toNat=j:=bD h;exists by rw[seqIndex_of h0 h1,e],by omega,by omega,h1
  .rw[if_neg h1]at h;cases h
 .rw[if_neg h0]at h;by_cases h1:-(n:Int)<=i
  .rw[if_pos h1]at h;have e:(i+n).toNat=j:=bD h;exists by rw[seqIndex_neg (by omega) h1,e],by omega,h1,by omega
  .rw[if_neg h1]at h;cases h
def yje{α:Type}{xs:qi α}{i:Int}{v:α}(h:atI xs i=some v):∃j,seqIndex? i xs.length=some j/\xs[j]?=some v/\j<xs.length/\-(xs.length:Int)<=i/\i<xs.length:=by
 unfold atI at h
 cases e:ixN xs.length i with
 |none=>rw[e]at h;cases h
 |some j =>
  rw[e]at h;let⟨c,a,b,d⟩:=yi8 e;exists j,c,h,a,b,d
def vq{α:Type}{xs:qi α}{j:Nat}{v:α}(h:xs[j]?=some v):atI xs (j:Int)=some v:=by
 have a:j<xs.length:=(bv.mp h).1
 have e:ixN xs.length (j:Int)=some j:=by
  unfold ixN;rw[if_pos (by omega),if_pos (by omega)];simp
 unfold atI;rw[e];exact h
def yno{α:Type}(xs:qi α)(v:α):atI (xs++[v]) (-1)=some v:=by
 have a:(xs++[v]).length=xs.length+1:=by simp
 have e:ixN (xs++[v]).length (-1)=some xs.length:=by
  unfold ixN;rw[a,if_neg (by decide),if_pos (by omega)]
  congr 1
  omega
 unfold atI;rw[e];show (xs++[v])[xs.length]?=some v;simp
def ys7(b:qg):Prop:=∀o i,subscripted b false o i=operate [o,i] (getItem o i)
def IxR(X:Cx)(r:R2):Prop :=
 ∀(value slice:qg)(pins:Θ)(s:qa)(σ:St)(H:Hp)(x y:V)(v u:qb)(Q:VK),Inv X pins σ H s->xk x v->xk y u->r x y H Q ->
  subscripted slice false v u=operate [v,u] (getItem v u)->wpAny (model X.prog X.w) X.A (subscriptTail value slice v u) (EP X pins σ Q) X.xe s
def MtR(X:Cx)(id:String)(r:V->qi V->Hp->VK->Prop):Prop :=
 ∀(pins:Θ)(s:qa)(σ:St)(H:Hp)(x:V)(xs:Υ)(v:qb)(us:Ο)(Q:VK),Inv X pins σ H s->xk x v->wu xs us->r x xs H Q ->
  wpAny (model X.prog X.w) X.A (call (.builtin id) (v::us)) (EP X pins σ Q) X.xe s
section
variable{X:Cx}{a b:qg}{ta tb:TE}{pos:Pos}
def xi{r:R2}(hr:IxR X r)(ha:PE X a ta)(hb:PE X b tb)(hs:ys7 b):PE X (.Subscript a b pos) (tOp r ta tb):=by refine .mk λc s σ H Q I h=>?_;exact Subscript_ (vcx ha hb I h λv u g x y f d i e q=>hr a b c g σ f x y v u Q d i e q (hs _ _))
def vcs(K:xr):R2:=λx y H Q=>∃p xs i v,x=.ref p/\y=.int i/\SqL K H p xs/\atI xs i=some v/\Q v H
def ywk(K:xr):R2:=λx y H Q=>∃p xs i v,x=.ref p/\y=.int i/\SqT K H p xs/\atI xs i=some v/\Q v H
def xl:IxR X (vcs X.K):=by
 intro d l a s σ H x y v u Q I J D h m;let⟨p,L,i,z,rfl,rfl,o,B,q⟩:=h;cases J;let⟨t,rfl⟩:=D;let⟨g,r,f,N⟩:=I.list o;let⟨j,c,E,O,G,C⟩:=yje B;let⟨w,n,k⟩:=r.get E;have F:=r.length;have M:=ybz;have b:EP X a σ Q w s:=⟨z,H,I,k,q⟩;by_cases h0:0<=i
 .have e:i.toNat=j:=by
   rw[seqIndex_of h0 C]at c;exact bD c
  exact item_listR f.isList h0 (by omega) (by rw[e];simpa using n) b m
 .have e:(i+(g.toArray.size:Int)).toNat=j:=by
   rw[seqIndex_neg (by omega) G]at c;rw[bx,<- F];exact bD c
  exact subscriptTail_builtinR (x:=w) f.isList.typeIs slot_list_getitem.lookup
   (wpAny_getItem_list_neg (Q:=λr A=>r=w/\EP X a σ Q r A) f.isList (by omega) (by rw[bx]<;>omega) (by omega) (by rw[e];simpa using n) ⟨rfl,b⟩) m
def xp:IxR X (ywk X.K):=by
 intro b e a s σ H x y v u Q I E A h g;let⟨p,F,i,z,rfl,rfl,k,o,q⟩:=h;cases E;let⟨t,rfl⟩:=A;let⟨n,r,f,L⟩:=I.tuple k;let⟨j,C,B,N,M,J⟩:=yje o;let⟨w,l,c⟩:=r.get B;have D:=r.length;have G:=ybz;have d:EP X a σ Q w s:=⟨z,H,I,c,q⟩;exact subscriptTail_builtinR (x:=w) f.typeIs slot_tuple_getitem.lookup
  (getItem_tuple (j:=j) (Q:=λr m=>r=w/\EP X a σ Q r m) f (by omega) (by omega) (by rw[bx,<- D];exact C) (by simpa using l) ⟨rfl,d⟩) g
def ygl(its:Ο)(n j:Nat)(u:qb):Obj.mapSeq (·.setIfInBounds j u) { cls:=.type "list",data:=.seq its.toArray n}={ cls:=.type "list",data:=.seq (its.set j u).toArray n}:=by simp[Obj.mapSeq]
theorem Inv.lst{σ:St}{H:Hp}{s:qa}{p:x0}{xs:Υ}(I:Inv X pins σ H s)(h:H p=some (.lst xs)):
  ∃(its:Ο)(n:Nat),wu xs its/\s.heap.get? p=some { cls:=.type "list",data:=.seq its.toArray n}/\xs.length<=sizeLine:=by let⟨z,its,n,r,e⟩:=I.hok p _ h;exists its,n,r,e,z
def Inv.lstUpd{σ:St}{H:Hp}{s:qa}{p:x0}{xs ys:Υ}{its':Ο}{n n':Nat}{f:Obj->Obj}(I:Inv X pins σ H s)(h:H p=some (.lst xs))
  (ho:s.heap.get? p=some { cls:=.type "list",data:=.seq its.toArray n}) (hf:f { cls:=.type "list",data:=.seq its.toArray n}={ cls:=.type "list",data:=.seq its'.toArray n'}) (r:wu ys its') (hz:ys.length<=sizeLine) (t:Nat):
  Inv X pins σ (upd H p (.lst ys)) {s with heap:=s.heap.update p f,toks:=t}:=by
 have e:(s.heap.update p f).get? p=some { cls:=.type "list",data:=.seq its'.toArray n'}:=by
  rw[Heap.get?_update_self f ho (by rw[hf]<;>rfl),hf]
 refine I.write (x:=p) (e:=p) (by rw[h];trivial) (.inl rfl) (λb u a q=>(Heap.get?_update_other _ _ (Ne.symm a)).trans q) ⟨_,e⟩ ?_;exists hz,its',n',r,e
def vdq:V->V->V->Hp->(Hp->Prop)->Prop:=λo i v H Q=>∃p xs k j,o=.ref p/\i=.int k/\H p=some (.lst xs)/\ixN xs.length k=some j/\Q (upd H p (.lst (xs.set j v)))
def ylp:vfj X vdq:=by
 intro a s σ H o i v E F u Q I A z C h;let⟨p,y,k,j,rfl,rfl,l,x,q⟩:=h;cases A;let⟨t,rfl⟩:=z;let⟨b,n,r,e,B⟩:=I.lst l;let⟨c,G,w,m⟩:=yi8 x;have f:=r.length;have D:=ybz
 have g:Inv X a σ (upd H p (.lst (y.set j v))) {s with heap:=s.heap.update p (Obj.mapSeq (·.setIfInBounds j u))} :=
  I.lstUpd l e (ygl b n j u) (r.set C j) (by rw[List.length_set];exact B) s.toks
 by_cases h0:0<=k
 .have d:k.toNat=j:=by
   rw[seqIndex_of h0 m]at c;exact bD c
  exact W.ki_setAt e h0 (by omega) (by rw[bx,<- f];exact m) (by rw[d];exact⟨_,g,q⟩)
 .have d:(k+(b.toArray.size:Int)).toNat=j:=by
   rw[seqIndex_neg (by omega) w]at c;rw[bx,<- f];exact bD c
  exact W.ki_setBack e (by omega) (by rw[bx,<- f];exact w) (by omega) (by rw[d];exact⟨_,g,q⟩)
def ya2(lo hi:qj Int)(n:Nat):(sliceBounds lo hi none n).1=((HT.sIx n 0 lo:Nat):Int)/\(sliceBounds lo hi none n).2.1=((HT.sIx n n hi:Nat):Int)/\(sliceBounds lo hi none n).2.2=1:=by
 exists ?_,?_,rfl
 .cases lo with
  |none=>simp[sliceBounds,HT.sIx]
  |some i =>
   simp only[sliceBounds,HT.sIx,Option.getD_none,show (1:Int) > 0 by decide,if_true];by_cases h:i<0
   .simp only[h,if_true]<;>omega
   .simp only[h,if_false]<;>omega
 .cases hi with
  |none=>simp[sliceBounds,HT.sIx]
  |some i =>
   simp only[sliceBounds,HT.sIx,Option.getD_none,show (1:Int) > 0 by decide,if_true];by_cases h:i<0
   .simp only[h,if_true]<;>omega
   .simp only[h,if_false]<;>omega
def ű(its:Ο)(lo hi:qj Int):slicePick its.toArray lo hi none=((its.drop (HT.sIx its.length 0 lo)).take (HT.sIx its.length its.length hi-HT.sIx its.length 0 lo)).toArray:=by let⟨c,a,b⟩:=ya2 lo hi its.toArray.size;unfold slicePick;rw[c,a,b];simp only[sliceRange_one,pick_run,bx]<;>rfl
def vft(K:xr):V->qj Int->qj Int->Hp->VK->Prop:=λx lo hi H Q=>∃a xs,x=.ref a/\SqL K H a xs/\∀p,H p=none->Q (.ref p) (upd H p (.lst (ydl xs lo hi)))
def jr:SlR X (vft X.K):=by intro f s σ H x v u t lo e w Q I l p j n h;let⟨a,c,rfl,m,q⟩:=h;cases l;let⟨k,r,g,i⟩:=I.list m;have d:=r.length;refine⟨"list",_,slot_list_getitem.lookup,g.isList.typeIs,?_⟩;refine wpAny_getItem_list_slice g.isList p j n .none (by simp) ?_ (by rw[bx]<;>omega);rw[ű,<- d];exists .ref s.heap.objs.size,_,I.laid (t':=s.toks) (o:=.lst (ydl c lo e)) (λb y q=>bi _ q) (bj _) ?_,rfl,q _ (I.hok.fresh (bj _));exists bP (ċ c lo e) i,_,0,(r.drop (HT.sIx c.length 0 lo)).take (HT.sIx c.length c.length e-HT.sIx c.length 0 lo),bz _ rfl
def Ł:V->Bool
 | .non=>true
 | .bl _=>true
 | .int _=>true
 | .str _=>true
 |_=>false
def eqV:V->V->Bool
 | .non,.non=>true
 | .bl a,.bl b=>a == b
 | .bl a,.int b=>(if a then 1 else 0) == b
 | .int a,.bl b=>a == (if b then 1 else 0)
 | .int a,.int b=>a == b
 | .str a,.str b=>a == b
 |_,_=>false
def vbe{A:qe}{s:qa}{y x:V}{u:qb}(ry:xk y u)(rx:xk x v)(fy:Ł y=true)(fx:Ł x=true):SeqAt.EqAt A s u v (eqV y x):=by
 cases y with
 |non =>
  cases ry
  cases x with
  |non=>cases rx;exact SeqAt.EqAt.same _
  |bl b=>cases rx;exact SeqAt.EqAt.none_bool b
  |int b=>let⟨t,rfl⟩:=rx;exact SeqAt.EqAt.none_int b t
  |str b=>let⟨t,rfl⟩:=rx;exact SeqAt.EqAt.none_str b t
  |_=>exact absurd (show false=true from fx) bL
 |bl a =>
  cases ry
  cases x with
  |non=>cases rx;exact SeqAt.EqAt.bool_none a
  |bl b=>cases rx;exact SeqAt.EqAt.bool_bool a b
  |int b=>let⟨t,rfl⟩:=rx;exact SeqAt.EqAt.bool_int a b t
  |str b=>let⟨t,rfl⟩:=rx;exact SeqAt.EqAt.bool_str a b t
  |_=>exact absurd (show false=true from fx) bL
 |int a =>
  let⟨c,rfl⟩:=ry
  cases x with
  |non=>cases rx;exact SeqAt.EqAt.int_none a c
  |bl b=>cases rx;exact SeqAt.EqAt.int_bool a c b
  |int b=>let⟨t,rfl⟩:=rx;exact SeqAt.EqAt.int_int a c b t
  |str b=>let⟨t,rfl⟩:=rx;exact SeqAt.EqAt.int_str a c b t
  |_=>exact absurd (show false=true from fx) bL
 |str a =>
  let⟨c,rfl⟩:=ry
  cases x with
  |non=>cases rx;exact SeqAt.EqAt.str_none a c
  |bl b=>cases rx;exact SeqAt.EqAt.str_bool a c b
  |int b=>let⟨t,rfl⟩:=rx;exact SeqAt.EqAt.str_int a c b t
  |str b=>let⟨t,rfl⟩:=rx;exact SeqAt.EqAt.str_str a c b t
  |_=>exact absurd (show false=true from fx) bL
 |_=>exact absurd (show false=true from fy) bL
def eqU(x:V)(u:qb):Bool:=match u with
 | .none=>eqV .non x
 | .bool b=>eqV (.bl b) x
 | .int i _=>eqV (.int i) x
 | .str z _=>eqV (.str z) x
 |_=>false
def yom{x y:V}{u:qb}(r:xk y u)(f:Ł y=true):eqU x u=eqV y x:=by
 cases y with
 |non=>cases r;rfl
 |bl b=>cases r;rfl
 |int i=>let⟨t,rfl⟩:=r;rfl
 |str z=>let⟨t,rfl⟩:=r;rfl
 |_=>exact absurd (show false=true from f) bL
theorem ğ{x:V}:∀{xs:Υ}{us:Ο},wu xs us->xs.all Ł=true->us.any (eqU x)=xs.any λy=>eqV y x
 |_,_,.nil,_=>rfl
 |y::xs,u::us,.cons r t,f=>by
  rw[List.all_cons,bV]at f;rw[List.any_cons,List.any_cons,yom r f.1,ğ t f.2]
theorem Ó{A:qe}{s:qa}{x:V}(rx:xk x v)(fx:Ł x=true):∀{xs:Υ}{us:Ο},wu xs us->xs.all Ł=true->∀u∈us,SeqAt.EqAt A s u v (eqU x u)
 |_,_,.nil,_=>λu a=>by cases a
 |y::xs,u::us,.cons r t,f=>λb a=>by
  rw[List.all_cons,bV]at f;rcases bB.mp a with rfl|a
  .rw[yom r f.1];exact vbe r rx f.1 fx
  .exact Ó rx fx t f.2 b a
def inV(x:V)(xs:Υ):Bool:=xs.any λy=>eqV y x
def rIn(K:xr)(neg:Bool):R2:=λx y H Q=>∃p xs,y=.ref p/\(SqL K H p xs\/SqT K H p xs)/\Ł x=true/\xs.all Ł=true/\Q (.bl (if neg then !inV x xs else inV x xs)) H
def yhh:OpR X (compareOp .In) (rIn X.K false):=by
 intro f s σ H x y v u Q I g k h;let⟨p,l,rfl,b,i,c,q⟩:=h;cases k;rcases b with b|b
 .obtain⟨a,r,d,j⟩:=I.list b;refine SeqAt.in_listAt (eqU x) d.isList (λw e=>Ó g i r c w (by simpa using e)) ⟨.bl _,H,I,rfl,?_⟩;rw[show a.toArray.any (eqU x)=a.any (eqU x) by simp,ğ r c];exact q
 .obtain⟨a,r,d,j⟩:=I.tuple b;refine SeqAt.in_tupleAt (eqU x) d (λw e=>Ó g i r c w (by simpa using e)) ⟨.bl _,H,I,rfl,?_⟩;rw[show a.toArray.any (eqU x)=a.any (eqU x) by simp,ğ r c];exact q
def ya1:OpR X (compareOp .NotIn) (rIn X.K true):=by
 intro f s σ H x y v u Q I g k h;let⟨p,l,rfl,b,i,c,q⟩:=h;cases k;rcases b with b|b
 .obtain⟨a,r,d,j⟩:=I.list b;refine SeqAt.notIn_listAt (eqU x) d.isList (λw e=>Ó g i r c w (by simpa using e)) ⟨.bl _,H,I,rfl,?_⟩;rw[show a.toArray.any (eqU x)=a.any (eqU x) by simp,ğ r c];exact q
 .obtain⟨a,r,d,j⟩:=I.tuple b;refine SeqAt.notIn_tupleAt (eqU x) d (λw e=>Ó g i r c w (by simpa using e)) ⟨.bl _,H,I,rfl,?_⟩;rw[show a.toArray.any (eqU x)=a.any (eqU x) by simp,ğ r c];exact q
def yp:zi X (.builtin "len") (λxs H Q=>∃p ys,xs=[.ref p]/\(SqL X.K H p ys\/SqT X.K H p ys)/\Q (.int ys.length) H):=by
 intro f s σ H xs k Q I r h;let⟨p,ys,rfl,b,q⟩:=h;let⟨u,rfl,i⟩:=γ r;cases i;have j:=ybz;rcases b with b|b
 .obtain⟨e,c,d,g⟩:=I.list b;have a:=c.length;exact Calls.call_len_list d.isList (by simp only[bx]<;>omega) ⟨.int ys.length,H,I.tok _,⟨s.toks+1,by rw[bx,a]⟩,q⟩
 .obtain⟨e,c,d,g⟩:=I.tuple b;have a:=c.length;exact len_tuple d (by simp only[bx]<;>omega) ⟨.int ys.length,H,I.tok _,⟨s.toks+1,by rw[bx,a]⟩,q⟩
def ë:zi X (.builtin "len") (λxs H Q=>∃z,xs=[.str z]/\z.length<=sizeLine/\Q (.int z.length) H):=by intro a s σ H xs d Q I r h;let⟨z,rfl,b,q⟩:=h;let⟨u,rfl,t,rfl⟩:=γ r;have c:=ybz;exact len_str (by omega) ⟨.int z.length,H,I.tok _,⟨_,rfl⟩,q⟩
def w6:zi X (.type "list") (λxs H Q=>∃p ys,xs=[.ref p]/\(SqL X.K H p ys\/SqT X.K H p ys)/\∀l,H l=none->Q (.ref l) (upd H l (.lst ys))):=by
 intro i s σ H xs B Q I r h;let⟨p,ys,rfl,m,q⟩:=h;let⟨u,rfl,A⟩:=γ r;cases A;have k:∀(a:Ο),wu ys a->ys.length<=sizeLine->∀(c:qf)(f:Nat),(∀b o',s.heap.get? b=some o'->c.get? b=some o') ->
   c.get? s.heap.objs.size=some { cls:=.type "list",dict:=none,data:=.seq a.toArray f,slots:=#[]}->EP X i σ Q (.ref s.heap.objs.size) {s with heap:=c}:=λa d g c f j e =>
  ⟨.ref s.heap.objs.size,_,I.laid (t':=s.toks) j (bj _) (show w9 X.prog X.w _ c _ (.lst ys)from ⟨g,a,f,d,e⟩),rfl,q _ (I.hok.fresh (bj _))⟩
 rcases m with m|m
 .obtain⟨a,d,y,g⟩:=I.list m;have t:=d.length;let⟨o,v,x,n,z⟩:=y.isList;exact call_list_seq p (.inl rfl) v x z (λc f j e=>k a d g c f j e) (by simp only[bx]<;>omega)
 .obtain⟨a,d,y,g⟩:=I.tuple m;have t:=d.length;let⟨o,v,x,n,z⟩:=y;exact call_list_seq p (.inr rfl) v x z (λc f j e=>k a d g c f j e) (by simp only[bx]<;>omega)
def Å:zi X (.type "tuple") (λxs H Q=>∃p ys,xs=[.ref p]/\((SqL X.K H p ys/\∀l,H l=none->Q (.ref l) (upd H l (.tup ys)))\/(SqT X.K H p ys/\Q (.ref p) H))):=by
 intro a s σ H xs x Q I r h;let⟨p,ys,rfl,h⟩:=h;let⟨u,rfl,v⟩:=γ r;cases v;rcases h with⟨g,q⟩|⟨g,q⟩
 .obtain⟨c,f,i,j⟩:=I.list g;have m:=f.length;refine call_tuple_list i.isList (λd n=>?_) (by simp only[bx]<;>omega);have k:Inv X a σ H {s with heap:=d}:=I.kept (t':=s.toks) n
  have t:Inv X a σ (upd H d.objs.size (.tup ys)) {s with heap:=d.push { cls:=.type "tuple",data:=.seq c.toArray} } :=
   k.laid (t':=s.toks) (λb o e=>bi _ e) (bj _) (show w9 X.prog X.w _ _ _ (.tup ys)from ⟨j,c,f,IsTup.new _ _⟩)
  exists .ref d.objs.size,_,t,rfl,q _ (k.hok.fresh (bj _))
 .obtain⟨c,f,i,j⟩:=I.tuple g;exact call_tuple_same i ⟨.ref p,H,I,rfl,q⟩
def tyV(K:xr)(T:String)(x:V)(H:Hp):Prop:=match x with
 | .str _=>T="str"
 | .int _=>T="int"
 | .ref p=>(T="list"/\∃xs,SqL K H p xs)\/(T="tuple"/\∃o,K.lookup p=some o/\o.cls=.type "tuple"/\o.dict=none) \/
   (T="dict"/\((∃kvs,H p=some (.dK kvs))\/∃kvs,H p=some (.dT kvs)))\/(T="set"/\∃S n,H p=some (.set S n))
 |_=>False
def yp8{σ:St}{H:Hp}{s:qa}{T:String}{x:V}(I:Inv X pins σ H s)(r:xk x v)(ty:tyV X.K T x H):
  s.TypeIs v T/\∀a,v=.ref a->∃ob,s.heap.get? a=some ob/\ob.dict=none:=by
 cases x with
 |str z =>
  let⟨t,rfl⟩:=r;cases (show T="str" from ty)
  exists typeIs_str s z t,λZ e=>nomatch e
 |int i =>
  let⟨t,rfl⟩:=r;cases (show T="int" from ty)
  exists typeIs_int s i t,λZ e=>nomatch e
 |ref p =>
  cases r;rcases ty with⟨rfl,q,k⟩|⟨rfl,o,b,l,h⟩|⟨rfl,b⟩|⟨rfl,S,n,b⟩
  .obtain⟨m,_,j,_⟩:=I.list k;exists j.isList.typeIs,λa e=>?_;cases e;let⟨o,n,e,c,h,_⟩:=j;exact⟨o,e,h⟩
  .exists⟨o,I.kIn p o b,l⟩,λa e=>?_;cases e;exists o,I.kIn _ o b,h
  .have z:∃o,s.heap.get? p=some o/\o.ExactDict:=by
    rcases b with⟨f,b⟩|⟨f,b⟩
    .obtain⟨_,_,_,_,o,_,_,e,d,_⟩:=I.hok p _ b;exact⟨o,e,d⟩
    .obtain⟨_,_,_,_,o,_,_,e,d,_⟩:=I.hok p _ b;exact⟨o,e,d⟩
   let⟨o,e,d⟩:=z;exists⟨o,e,d.1⟩,λa g=>?_;cases g;exact⟨o,e,d.2.1⟩
  .obtain⟨o,_,_,_,e,d,_⟩:=I.hok p _ b;exists⟨o,e,d.1⟩,λa g=>?_;cases g;exact⟨o,e,d.2.1⟩
 |_=>exact False.elim ty
def vfr(K:xr)(T:String)(r:V->qi V->Hp->VK->Prop)(to:TE):TE:=λσ H Q=>to σ H λx H1=>tyV K T x H1/\r x [] H1 Q
def tBM(K:xr)(T:String)(r:V->qi V->Hp->VK->Prop)(to:TE)(t:TA):TE:=λσ H Q=>to σ H λx H1=>tyV K T x H1/\t σ H1 λxs H2=>r x xs H2 Q
variable{o e:qg}{es:qi qg}{to:TE}{t:TA}{name:Str}{apos cpos:Pos}{T id:String}{r:V->qi V->Hp->VK->Prop}
def ykp(pa:PlainAttrs T)(slot:Slot T name id)(hty:typeOf (.builtin id)=pure (.type "method_descriptor"))(hm:MtR X id r)(ho:PE X o to)
  (hbase:attributeBase o name X.env (eval o X.env)=eval o X.env:=by rfl) (hline:(apos.endLine == cpos.line)=true:=by rfl):PE X (.Call (.Attribute o name apos) [] [] cpos) (vfr X.K T r to):=by refine .mk λa s σ H Q I h=>?_;refine wpAny_Call_method0_late hbase hline (thn (ho a s σ H _ I h) λv d h'=>?_);let⟨x,f,c,b,e,g⟩:=h';let⟨j,i⟩:=yp8 c b e;exists T,id,pa,slot,hty,j,i,Calls.callWith_builtin rfl (PySem.evalArgs_none (hm a d σ f x [] v [] Q c b .nil g))
def è(pa:PlainAttrs T)(slot:Slot T name id)(hty:typeOf (.builtin id)=pure (.type "method_descriptor"))(hm:MtR X id r)(ho:PE X o to)(ha:PA X (e::es) t)
  (hbase:attributeBase o name X.env (eval o X.env)=eval o X.env:=by rfl)
  (hfew:((backTo cpos (starEach (e::es) X.env)).all (λx=>!x.1) && (backToKw cpos (keywordEach [] X.env)).all (λx=>x.1.isSome)
   && decide ((e::es).length+([]:qi Keyword).length+(if ([]:qi Keyword).isEmpty then 0 else 1)<30))=true:=by rfl)
  (hline:(apos.endLine == cpos.line)=true:=by rfl) (hs:starEach (e::es) X.env=(false,eval e X.env)::starEach es X.env:=by rfl) (hplain:(backTo cpos (starEach es X.env)).any (·.1)=false:=by rfl):
  PE X (.Call (.Attribute o name apos) (e::es) [] cpos) (tBM X.K T r to t):=by refine .mk λa s σ H Q I h=>?_;refine wpAny_Call_method_late hbase hfew hline rfl (thn (ho a s σ H _ I h) λv j h'=>?_);let⟨x,l,d,b,k,m⟩:=h';let⟨y,w⟩:=yp8 d b k;exists T,id,pa,slot,hty,y,w,?_;have c:=ha cpos a j σ l _ d m;rw[hs]at c⊢;refine Calls.callWith_builtin (by show (false || (backTo cpos (starEach es X.env)).any (·.1))=false;rw[hplain]<;>rfl) (Calls.evalArgs_plain ?_);exact thn c λu q ⟨g,p,f,n,i⟩=>hm a q σ p x g v u Q f b n i
end
def MtM(X:Cx)(id:String)(r:V->qi V->Hp->VK->Prop):Prop :=
 ∀(pins:Θ)(s:qa)(σ:St)(H:Hp)(x:V)(xs:Υ)(v:qb)(us:Ο)(Q:VK),Inv X pins σ H s->xk x v->wu xs us->r x xs H Q ->
  wpAny (model X.prog X.w) X.A (call (.builtin id) (v::us)) (EP X pins σ Q) X.xe s
def wu.one{x:V}(h:wu [x] us):∃u,us=[u]/\xk x u:=by
 cases h with
 |cons r t=>cases t;exists _,rfl,r
theorem wu.zero:∀{us:Ο},wu [] us->us=[]
 |_,.nil=>rfl
theorem wu.reverse{xs:Υ}(h:wu xs us):wu xs.reverse us.reverse:=by
 induction h with
 |nil=>exact .nil
 |cons r t ih=>rw[List.reverse_cons,List.reverse_cons];exact wu.append ih (.cons r .nil)
theorem wu.rep{xs:Υ}(h:wu xs us):∀k:Nat,wu (List.replicate k xs).flatten (List.replicate k us).flatten
 |0=>.nil
 |k+1=>by
  rw[cr,cr,List.flatten_cons,List.flatten_cons];exact wu.append h (wu.rep h k)
theorem ybp(its:Ο):∀(k:Nat)(acc:Ο),
  List.foldl (λx1 x2=>x1++x2) acc.toArray (List.replicate k its.toArray)=(acc++(List.replicate k its).flatten).toArray
 |0,acc=>by simp
 |k+1,acc=>by
  have e:acc.toArray++its.toArray=(acc++its).toArray:=by simp
  have a:(acc++its)++(List.replicate k its).flatten=acc++(List.replicate (k+1) its).flatten:=by
   rw[cr,List.flatten_cons,cy]
  rw[<- a,<- ybp its k (acc++its),<- e,cr,List.foldl_cons]
section
variable{X:Cx}{σ:St}{H:Hp}{s:qa}{l b:x0}{xs ys zs:Υ}
def Inv.lset{its':Ο}{n:Nat}{f:Array qb->Array qb}{t':Nat}(I:Inv X pins σ H s)(hH:H l=some (.lst xs))
  (e:s.heap.get? l=some { cls:=.type "list",data:=.seq its.toArray n}) (hf:f its.toArray=its'.toArray) (hv:wu ys its') (hz:ys.length<=sizeLine):
  Inv X pins σ (upd H l (.lst ys)) {s with heap:=s.heap.update l (Obj.mapSeq f),toks:=t'}:=by have q:=PySem.IsL.update e f;rw[hf]at q;refine I.write (x:=l) (e:=l) (by rw[hH];exact trivial) (.inl rfl) (λc u b a=>(Heap.get?_update_other s.heap (Obj.mapSeq f) (Ne.symm b)).trans a) ⟨_,q⟩ ?_;exists hz,its',_,hv,q
def Inv.lnew{t':Nat}(I:Inv X pins σ H s)(hv:wu ys its)(hz:ys.length<=sizeLine):
  Inv X pins σ (upd H s.heap.objs.size (.lst ys)) {s with heap:=s.heap.push { cls:=.type "list",data:=.seq its.toArray},toks:=t'} :=
 I.laid (λZ Z q=>bi _ q) (bj _) ⟨hz,its,0,hv,bz _ rfl⟩
theorem Inv.fresh(I:Inv X pins σ H s):H s.heap.objs.size=none:=I.hok.fresh (bj _)
def Inv.lstM(I:Inv X pins σ H s)(hH:H l=some (.lst xs)):xs.length<=sizeLine/\∃(its:Ο)(n:Nat),wu xs its/\xs.length=its.length/\s.heap.get? l=some { cls:=.type "list",data:=.seq its.toArray n}:=by let⟨z,its,n,r,e⟩:=I.hok l _ hH;exists z,its,n,r,r.length,e
def yen{n:Nat}(h:n<=sizeLine):Builtin.List.listTooLong n=false:=by unfold Builtin.List.listTooLong;exact bC (by omega)
end
section
variable{X:Cx}
def yi7:V->qi V->Hp->VK->Prop:=λx vs H Q=>∃l xs y,x=.ref l/\vs=[y]/\H l=some (.lst xs)/\xs.length<sizeLine/\Q .non (upd H l (.lst (xs++[y])))
def xh:MtM X "list.append" yi7:=by intro b s σ H x k v o Q I f d h;let⟨l,m,y,rfl,rfl,c,i,q⟩:=h;cases f;let⟨u,rfl,g⟩:=d.one;let⟨z,a,n,r,j,e⟩:=I.lstM c;refine call_meets F.slot_list_append ⟨_,e,rfl⟩ F.entry_list_append (F.args_list_append_2 _ _) (PySem.list_append l a.toArray n u (by rw[bx];omega)) ⟨e,?_⟩;exists .non,_,I.lset (its':=a++[u]) c e (by simp) (r.append (.cons g .nil)) ?_,rfl,q;rw[bp,ci];omega
def yrh:V->qi V->Hp->VK->Prop:=λx vs H Q=>∃l b xs zs,x=.ref l/\vs=[.ref b]/\H l=some (.lst xs)/\H b=some (.lst zs)/\xs.length+zs.length<=sizeLine/\Q .non (upd H l (.lst (xs++zs)))
def yhu:MtM X "list.extend" yrh:=by
 intro g s σ H x A v C Q I w p h;let⟨l,b,B,D,rfl,rfl,i,j,E,q⟩:=h;cases w;let⟨u,rfl,y⟩:=p.one;cases y;let⟨z,c,n,r,G,e⟩:=I.lstM i;let⟨J,a,k,m,o,t⟩:=I.lstM j;have f:c.toArray.size+a.toArray.size<=sizeLine:=by rw[bx,bx];omega
 have d:¬(!c.toArray.isEmpty && Builtin.List.listTooLong (c.toArray.size+a.toArray.size))=true:=by
  rw[yen f,Bool.and_false];exact bL
 refine call_meets F.slot_list_extend ⟨_,e,rfl⟩ F.entry_list_extend (F.args_list_extend_2 _ _)
  (AutoSeq1.list_extend_list_list_0 l c.toArray n b a.toArray k d (by rw[bx];omega) (by omega)) ⟨e,t,?_⟩
 exists .non,_,I.lset (its':=c++a) i e (by simp) (r.append m) ?_,rfl,q;rw[bp];omega
def yed:V->qi V->Hp->VK->Prop:=λx vs H Q=>∃l xs,x=.ref l/\vs=[]/\H l=some (.lst xs)/\Q .non (upd H l (.lst xs.reverse))
def ō:MtM X "list.reverse" yed:=by intro c s σ H x j v m Q I g f h;let⟨l,k,rfl,rfl,d,q⟩:=h;cases g;have b:=f.zero;subst b;let⟨z,a,n,r,i,e⟩:=I.lstM d;refine call_meets F.slot_list_reverse ⟨_,e,rfl⟩ F.entry_list_reverse (F.args_list_reverse_1 _) (AutoSeq1.list_reverse_list_0 l a.toArray n (by rw[bx];omega)) ⟨e,?_⟩;exists .non,_,I.lset (its':=a.reverse) d e (by simp) r.reverse ?_,rfl,q;rw[List.length_reverse];omega
def vgk:R2:=λx y H Q=>∃l b xs zs,x=.ref l/\y=.ref b/\H l=some (.lst xs)/\H b=some (.lst zs)/\xs.length+zs.length<=sizeLine/\∀p,H p=none->Q (.ref p) (upd H p (.lst (xs++zs)))
def ykz:OpR X (binaryOp .Add) vgk:=by
 intro d s σ H x y v u Q I p i h;let⟨l,b,B,D,rfl,rfl,g,f,t,q⟩:=h;cases p;cases i;let⟨z,c,n,r,w,e⟩:=I.lstM g;let⟨C,a,A,j,k,m⟩:=I.lstM f;refine PySem.P.add_list e m ?_ (by rw[bx,bx];omega);have o:c.toArray++a.toArray=(c++a).toArray:=by simp
 rw[o];exists .ref _,_,I.lnew (t':=s.toks) (r.append j) (by rw[bp];omega),rfl,q _ I.fresh
def vf6:R2:=λx y H Q=>∃l k xs,x=.ref l/\y=.int k/\H l=some (.lst xs)/\-(2^63)<=k/\k<2^63/\xs.length*k.toNat<=sizeLine/\
 ∀p,H p=none->Q (.ref p) (upd H p (.lst (List.replicate k.toNat xs).flatten))
def yq8{α:Type}(xs:qi α)(k:Nat):(List.replicate k xs).flatten.length=k*xs.length:=by
 induction k with
 |zero=>simp
 |succ k ih=>rw[cr,List.flatten_cons,bp,ih,Nat.succ_mul,Nat.add_comm]
def yb3:OpR X (binaryOp .Mult) vf6:=by
 intro p s σ H x y v u Q I K C h;let⟨l,k,L,rfl,rfl,J,E,D,w,q⟩:=h;cases K;let⟨t,rfl⟩:=C;let⟨z,b,n,r,G,e⟩:=I.lstM J;have i:b.toArray.size*k.toNat<=sizeLine:=by rw[bx,<- G];exact w
 have f:¬b.toArray.size*k.toNat > (2^63-1)/8:=by
  have:(sizeLine:Nat)<=(2^63-1)/8:=by decide
  omega
 have g:¬(!Builtin.List.listFitsIndex k)=true:=by
  rw[fitsIndex_both E D];exact bL
 have c:¬Builtin.List.listTooLong (b.toArray.size*k.toNat)=true:=by
  rw[yen i];exact bL
 have d:List.foldl (λo j=>o++j) #[] (List.replicate (if b.toArray.isEmpty=true then 0 else k.toNat) b.toArray)=(List.replicate k.toNat b).flatten.toArray:=by
  have B:∀m:Nat,List.foldl (λo j=>o++j) #[] (List.replicate m b.toArray)=(List.replicate m b).flatten.toArray:=λm=>by
   have:=ybp b m [];rw[List.nil_append]at this;exact this
  rw[B]
  cases b with
  |nil=>simp
  |cons a r'=>rw[if_neg (by simp)]
 refine wpAny_binaryOp_repeat_ref (T:="list") (U:="int") (by decide) ⟨_,e,rfl⟩ (λA=>typeIs_int A k t) noFill_list_mul F.fills_int_mul F.slot_int_rmul repeat_list F.slot_int_index.lookup
  (call_meets F.slot_int_rmul (typeIs_int s k t) F.entry_int_rmul (F.args_int_rmul_2 _ _) (int___rmul___int_list k t l b.toArray n)
   ⟨e,rfl,⟨_,e,rfl⟩,call_meets F.slot_list_mul ⟨_,e,rfl⟩ F.entry_list_mul (F.args_list_mul_2 _ _) (AutoListH.list___mul___list_int_3 l b.toArray n k t g f c) ⟨e,?_⟩⟩)
 rw[d];exists .ref _,_,I.lnew (t':=s.toks) (r.rep k.toNat) (by rw[yq8,Nat.mul_comm];exact w),rfl,q _ I.fresh
end
end L2
namespace Att
open PySem PySem.W PySem.Calls PyProof.Rows
def ć{P:Params}{h:qf}:∀(ns:Ρ)(vs:Ο),WellAll P h vs (ns.map WData.int)->IntsAre vs ns:=by
 intro ns
 induction ns with
 |nil =>
  intro vs w;rw[List.map_nil]at w;cases w;exact .nil
 |cons n ns ih =>
  intro vs w;rw[bT]at w
  cases w with
  |cons a b =>
   cases a;exact .cons _ _ (ih _ b)
def yhn{l:OpenLaw}{n:Nat}(hn:l.most=some n){P:Params}{h:qf}{args:qi WData}{vals:Ο}
  (hpre:l.row.toRowW.claim.pre args=true) (hwl:WellAll P h vals args):
  ∃a vs ns,vals=[Value.ref a]/\args=[WData.list (ns.map WData.int)]/\h.get? a=some { cls:=.type "list",data:=.seq vs.toArray}/\IntsAre vs ns/\ns.length<=n:=by
 have f:WShape.hasAll [] args [.list .int]=true:=(pre_splitW hpre).1;have g:l.pre.holds [] { args:=args}=true:=(pre_splitW hpre).2;let⟨d,r,rfl,m,k⟩:=hasAllW_cons f;obtain rfl:=hasAllW_nil k;let⟨o,rfl,j⟩:=hasW_list m;let⟨ns,rfl⟩:=items_int j
 have b:ns.length<=n:=by
  unfold OpenLaw.pre at g
  have c:(WTm.not (.lt (.lit (.int (n:Int))) (.len (.arg 0)))).holds [] { args:=[.list (ns.map .int)]}=true:=by
   have c:=(holds_andW g).1;rw[hn]at c;exact c
  have e:=condW_of c (w_not (w_lt w_lit (w_len_list (w_arg rfl))));rw[be]at e;refine Nat.le_of_not_lt λq=>?_;have i:(n:Int)<((ns.length:Nat):Int):=by omega
  first
   |(rw[br i]at e;exact absurd e (by decide))
   |(simp at e;omega)
 cases hwl with
 |cons w1 w2 =>
  cases w2
  cases w1 with
  |list ho hall=>exists _,_,ns,rfl,rfl,ho,ć ns _ hall,b
def yhz(l:OpenLaw)(args:qi WData):l.row.toRowW.claim.post args (.bool true) args=true :=
 postW_of (r:=l.row.toRowW) (X:=(true == true))
  (show WShape.has [] (.bool true) .bool=true by first|rfl|decide|simp[WShape.has,WShape.arms,WShape.armsAll])
  (show (WTm.eq .res (.lit (.bool true))).value [] { args:=args,res:=some (.bool true),after:=args}=some (.bool (true == true))from w_eq_bool (w_res rfl) w_lit) rfl
def attach_call{l:OpenLaw}{n:Nat}{q:qh}{loose:Τ}{XP:(Ε)->qf->Prop}{YP:qd->qf->Prop}{d:DefRec}
  (hn:l.most=some n) (hdf:d.params.defaults=[])
  (call:∀(w:qd)(s₀ s₁:qa)(mg mb:Ε)(fa:x0)(o:Obj)(pm cd doc:qb)(a:x0)(vs:Ο)(ns:Ρ),
   Ground q loose [] XP w s₀ mg mb s₁.heap->YP w s₁.heap ->
   s₁.heap.get? fa=some o->o.data=.func (docDef d.name d.params d.body d.scope pm cd doc)->s₁.heap.CodeRec cd d.name->mg d.name=some (.ref fa) ->
   s₁.heap.get? a=some { cls:=.type "list",data:=.seq vs.toArray}->IntsAre vs ns->ns.length<=n->s₁.gens=#[] ->
   codeAny (model l.prog w) callerA (.call (.ref fa) ⟨[.ref a],[]⟩) (λr s'=>r=.ok (.ret (.bool true))/\OldK s₁.heap s'.heap/\s'.os=s₁.os/\AllBare s'.gens) s₁):
  WalkO q loose XP YP l.row.toRowW d [] (λf vs=>PySem.call f vs):=by
 intro w s₀ s₁ mg mb G Y fa o pm cd doc C kV z y i m j v p t H c k u h D;obtain rfl:C=.none:=Dflts.none m hdf;obtain rfl:kV=.none:=Dflts.noKw m;let⟨a,vs,ns,rfl,rfl,e,b,g⟩:=yhn hn c h;refine enter_call (codeAny_mono (call w s₀ s₁ mg mb fa o pm cd doc a vs ns G Y z (fd_plain y) i j e b g v) λr s' x=>?_);let⟨rfl,B,F,E⟩:=x
 exists .inl ⟨.bool true,.bool true,[],rfl,λZ=>rfl,.bool true,yhz l _,λZ=>⟨List.Pairwise.nil,λZ A=>(nomatch A)⟩⟩,B,F,E
section
variable{prog:qh}{w:qd}{A:qe}{E:Δ}{s:qa}{K:Frag}
def vfc(h:qf)(L d:x0):Θ:=(List.range h.objs.size).filterMap λa=>if a=L\/a=d then none else (h.get? a).map λo=>(a,o)
end
end Att
namespace L2
open PySem PySem.Spec PyProof.Rows
variable{C a p:x0}{fd:FuncData}{qual:Str}{T:String}
theorem ya8:∀{vs:Ο}{ns:Ρ},IntsAre vs ns->wu (ns.map V.int) vs
 |_,_,.nil=>.nil
 |_,_,.cons n t h=>.cons ⟨t,rfl⟩ (ya8 h)
def vfb(H:Hp):Prop:=∀b,H b=none\/∃o xs,H b=some (.frz o (.lst xs))
def ynk{P:qh}{w:qd}{K:xr}{mg mb:Ε}{CX:CXT}{k:Nat}{fa:x0}{x:Str}{sp:Sp}{s₁:qa}{vs:Ο}{ns:Ρ}
  (KX:K.In s₁.heap) (hns:s₁.heap.Ns mainGlobals mg) (hb:s₁.heap.Ns builtinsNs mb) (hbb:∀x:Str,x≠"__name__"->mb x=bootBuiltins x) (hlim:s₁.heap.NoLimit) (hg:s₁.gens=#[])
  (ha:s₁.heap.get? a=some { cls:=.type "list",data:=.seq vs.toArray}) (hi:IntsAre vs ns) (hl:ns.length<=sizeLine) (hr:jh k callerA)
  (F:∀base:qf,K.In base->base.Ns mainGlobals mg->vz P w K mg base CX k fa fd [x] sp) (hbind:∀(s:qa)(u:qb),BindsTo s fd ⟨[u],[]⟩ [(x,u)])
  (hsp:∀H:Hp,vfb H->SqL K H a (ns.map V.int)->sp [.ref a] H (λv W=>v=.bl true) λW W W=>False)
  (hCX:∀H e s',CX [] H s₁ (λW W W=>False) e s'->False):
  codeAny (model P w) callerA (.call (.ref fa) ⟨[.ref a],[]⟩) (λr s'=>r=.ok (.ret (.bool true))/\OldK s₁.heap s'.heap/\s'.os=s₁.os/\AllBare s'.gens) s₁:=by
 have J:=ya8 hi;have j:=hi.length;have g:∀H:Hp,vfb H->SqL K H a (ns.map V.int)->HOk P w H s₁.heap->(∀b,H b≠none->b=a)->(H a≠none->K.lookup a=none) ->
   codeAny (model P w) callerA (.call (.ref fa) ⟨[.ref a],[]⟩) (λr s'=>r=.ok (.ret (.bool true))/\OldK s₁.heap s'.heap/\s'.os=s₁.os/\AllBare s'.gens) s₁:=by
  intro H E S B I R;have c:∀{b:x0}{o:Obj},s₁.heap.get? b=some o->H b=none->(yny s₁.heap H).get? b=some o:=λe n=>ylr e n
  have C:∀{b:x0}{o:Obj}{A:Array DictEntry}{t:Nat},s₁.heap.get? b=some o->o.data=.dict A t->H b=none:=λ{b o A t}e d=>by
   cases q:H b with
   |none=>rfl
   |some u =>
    have D:b=a:=I b (by rw[q];simp);subst D;rw[ha]at e;cases e;have N:Data.seq vs.toArray _=Data.dict A t:=d;cases N
  have f:∀{b:x0}{m:Ε},s₁.heap.Ns b m->(yny s₁.heap H).Ns b m:=λ{b m} ⟨o,A,t,e,d,r⟩=>⟨o,A,t,c e (C e d),d,r⟩
  have p:K.In (yny s₁.heap H):=λb o e=>c (KX b o e) (by
   cases q:H b with
   |none=>rfl
   |some u =>
    have D:b=a:=I b (by rw[q];simp);subst D;rw[R (by rw[q];simp)]at e;cases e)
  have U:Mod K mg (yny s₁.heap H):=⟨p,f hns,⟨mb,f hb,hbb⟩,let ⟨mc,h1,h2⟩:=hlim;⟨mc,f h1,h2⟩⟩;have M:ywb P w K mg (yny s₁.heap H) callerA [] s₁ H:=⟨rfl,U,λb o e=>yrn e,Nat.le_of_eq (yh3 _ _),trivial,λb hb=>absurd (show b∈([]:Χ)from hb) (by simp),B,.of_eq hg⟩;refine codeAny_mono ((F _ p (f hns)).run callerA [] s₁ H ⟨[.ref a],[]⟩ [.ref a] [.ref a] _ _ hr M (hbind s₁ (.ref a)) (.cons rfl .nil) (hsp H E S)) λr s' h=>?_
  cases r with
  |error e=>exact(hCX H e s' h).elim
  |ok fl =>
   cases fl with
   |next=>exact False.elim h
   |brk=>exact False.elim h
   |cont=>exact False.elim h
   |ret u =>
    let⟨v,H',os,l,L,y,O,q⟩:=h;have Q:v=.bl true:=q;subst Q;obtain rfl:u=Value.bool true:=O;exists rfl,OldK.of_keep λb o e=>?_,os,l
    cases q:H b with
    |none=>exact L.keep b o e q (by intro z;exact absurd (show b∈([]:Χ)from z) (by simp)) (by simp)
    |some u =>
     rcases E b with z|⟨T,Z,z⟩
     .rw[q]at z;cases z
     .have X:=L.frzs b T _ z;let⟨G,_⟩:=B b _ z;let⟨Y,_⟩:=y b _ X;rw[e]at G;cases G;exact Y
 cases hk:K.lookup a with
 |some o =>
  have e:=KX a o hk;rw[ha]at e;cases e;refine g (λW=>none) (λW=>.inl rfl) (.inr ⟨_,vs.toArray,_,hk,rfl,rfl,rfl,by rw[bx,j];exact hl,by simpa using J⟩) (λb u z=>by have i:(none:qj HO)=some u:=z;cases i) (λb z=>absurd rfl z) λz=>absurd rfl z
 |none =>
  refine g (λb=>if b=a then some (.frz { cls:=.type "list",data:=.seq vs.toArray} (.lst (ns.map V.int)))else none) (λb=>?_) (.inl (.inr ⟨{ cls:=.type "list",data:=.seq vs.toArray},if_pos rfl⟩)) (λb u z=>?_) (λb z=>?_) λW=>hk
  .by_cases hb:b=a
   .exact .inr ⟨_,_,if_pos hb⟩
   .exact .inl (if_neg hb)
  .by_cases hb:b=a
   .have i:=(if_pos hb).symm.trans z;cases i;subst hb;exists ha,by rw[be];exact hl,vs,_,J,ha
   .have i:=(if_neg hb).symm.trans z;cases i
  .by_cases hb:b=a
   .exact hb
   .exact absurd (if_neg hb) z
def walk_of{l:W.OpenLaw}{n k:Nat}{q:qh}{loose:Τ}{XP:(Ε)->qf->Prop}{YP:qd->qf->Prop}{d:DefRec}{K:Params->xr}{CX:qd->CXT}{sp:qd->Sp}{x:Str}
  (hn:l.most=some n) (hn2:n<=sizeLine) (hdf:d.params.defaults=[]) (hr:jh k callerA)
  (hY:∀(w:qd)(h:qf),YP w h->(K w.params).In h)
  (F:∀(w:qd)(mg:Ε)(fa:x0)(h:qf),(K w.params).In h->h.Ns mainGlobals mg->mg d.name=some (.ref fa) ->
   ∃fd:FuncData,(∀(s:qa)(u:qb),BindsTo s fd ⟨[u],[]⟩ [(x,u)])/\
    ∀base:qf,(K w.params).In base->base.Ns mainGlobals mg->vz l.prog w (K w.params) mg base (CX w) k fa fd [x] (sp w))
  (hsp:∀(w:qd)(H:Hp)(a:x0)(ns:Ρ),ns.length<=n->vfb H->SqL (K w.params) H a (ns.map V.int)->sp w [.ref a] H (λv Z=>v=.bl true) λZ Z Z=>False)
  (hCX:∀(w:qd)(H:Hp)(s:qa)(e:qb)(s':qa),CX w [] H s (λZ Z Z=>False) e s'->False):
  W.WalkO q loose XP YP l.row.toRowW d [] (λf vs=>PySem.call f vs):=by refine Att.attach_call hn hdf λw s₀ s₁ mg D fa o I J z a vs ns G Y E L r m j i c y=>?_;have p:=hY w _ Y;let⟨fd,t,A⟩:=F w mg fa _ p G.T.g m;exact ynk p G.T.g G.T.b G.T.builtins G.T.nolimit y j i (bP c hn2) hr A t (λH C B=>hsp w H a ns c C B) λH e s'=>hCX w H s₁ e s'
def yy(s:qc)(j:Nat):qc:=match s with
 | .ClassDef _ _ _ body _ _ _ _ _ _ _=>body.getD j (.Pass ⟨0,0,0,0⟩)
 |_=>.Pass ⟨0,0,0,0⟩
def wt(s:qc):Arguments:=match s with
 | .FunctionDef _ a _ _ _ _ _ _ _ _=>a
 |_=>{ posonlyargs:=[],args:=[],vararg:=none,kwonlyargs:=[],kw_defaults:=[],kwarg:=none,defaults:=[]}
def wd(s:qc):qi qc:=match s with
 | .FunctionDef _ _ b _ _ _ _ _ _ _=>b
 |_=>[]
def yd(s:qc):Scope:=match s with
 | .FunctionDef _ _ _ _ _ _ sc _ _ _=>sc
 |_=>{ kind:=.function,names:=[],isGenerator:=false,isCoroutine:=false}
abbrev CX0:CXT:=λZ Z Z Z Z Z=>False
abbrev E0:XK:=λZ Z Z=>False
def v7{X:Cx}:ï CX0 X E0:=λZ Z Z Z Z Z Z h=>h.elim
structure Fun(K:xr)(x qual:Str)(st:qc)(f:x0)(fd:FuncData):Prop where
 ex:∃(oc:qb)(od:qj x0)(kV doc pm:qb)(an:qj x0)(cdv ct:qb)(osl:Array (qj qb)),
  fd=W.fnOf x qual (wt st) (wd st) (yd st) .none kV doc pm an cdv ct/\K.lookup f=some ⟨oc,od,.func fd,osl⟩/\W.codeIn K cdv qual=true
 kp:W.keepIn K (.ref f)=true
section
variable{P:qh}{w:qd}{K:xr}{mg:Ε}{base:qf}
def Fun.ok{x:Str}{st:qc}{f:x0}{N ps:Τ}{k:Nat}{sp:Sp}(F:Fun K x qual st f fd)(S:yi N ps (yd st))(len:∀vs H Q E,sp vs H Q E->vs.length=ps.length)
  (hbody:∀(cdv:qb)(A:qe)(outer:qi Env)(s:qa)(H:Hp)(vs:Υ)(Q:VK)(E:XK),jh k (A.deeper (envOfC qual (yd st) s.heap.objs.size f cdv))->sp vs H Q E ->
   ∃t,PSs (vy CX0 P w K mg base N qual (yd st) f cdv A outer s H E).nox (wd st) t/\t { nx:=λZ H'=>Q .non H',rt:=Q} (é N vs) H):vz P w K mg base CX0 (k+1) f fd ps sp:=by let⟨n,i,kV,e,j,l,cdv,m,d,rfl,g,a⟩:=F.ex;refine ynu g a S len λA outer s H vs Q E c b=>?_;let⟨t,h,q⟩:=hbody cdv A outer s H vs Q E c b;exact⟨t,h.nox,q⟩
def Fun.binds{x:Str}{st:qc}{f:x0}{ps:Τ}(F:Fun K x qual st f fd)
  (h:∀(kV doc pm:qb)(an:qj x0)(cdv ct:qb)(us:Ο),us.length=ps.length->bindArgs (W.fnOf x qual (wt st) (wd st) (yd st) .none kV doc pm an cdv ct) ⟨us,[]⟩=pure (ps.zip us)):xw K fd ps []:=by let⟨e,c,kV,doc,pm,an,cdv,ct,b,rfl,d,a⟩:=F.ex;exact .all (h kV doc pm an cdv ct)
def ypj{x:Str}{st:qc}{f:x0}{oc:qb}{od an:qj x0}{osl:Array (qj qb)}{kV doc pm cdv ct:qb}(l:K.lookup f=some ⟨oc,od,.func (W.fnOf x qual (wt st) (wd st) (yd st) .none kV doc pm an cdv ct),osl⟩)
  (c:W.codeIn K cdv qual=true) (k:W.keepIn K (.ref f)=true):Fun K x qual st f (W.fnOf x qual (wt st) (wd st) (yd st) .none kV doc pm an cdv ct):=⟨⟨oc,od,kV,doc,pm,an,cdv,ct,osl,rfl,l,c⟩,k⟩
end
def zg{A:qe}{k:Nat}(hr:jh k A):A.units+1<cLine:=Nat.lt_of_le_of_lt (Nat.add_le_add_left (by decide:1<=64) _) hr.units
section
variable{X:Cx}
def pv(i:Nat){x:Str}{pos:Pos}(hN:X.N[i]?=some x:=by rfl)(hv:Vis X.env.scope x:=by first|exact Or.inl rfl|exact Or.inr (Or.inl rfl)|exact Or.inr (Or.inr rfl))(hd:(x == ("__debug__":Str))=false:=by decide)
  (hcd:(x == ("__classdict__":Str))=false:=by decide):PE X (.Name x pos) (ves i):=yxg hN hv hd hcd
end
def ĳ{A B:Prop}(h:B):if false=true then A else B:=by rw[if_neg bL];exact h
def ł{A B:Prop}(h:A):if true=true then A else B:=by rw[if_pos rfl];exact h
def yv(H H':Hp):Prop:=∀b o,H b=some o->H' b=some o
def yv.refl(H:Hp):yv H H:=λZ Z h=>h
def yv.trans{H H1 H2:Hp}(a:yv H H1)(b:yv H1 H2):yv H H2:=λc o h=>b c o (a c o h)
def yv.free{H H':Hp}(e:yv H H'){l:x0}(h:H' l=Option.none):H l=Option.none:=by
 cases q:H l with
 |none=>rfl
 |some o =>
  rw[e l o q]at h;cases h
def yv.seq{K:xr}{H H':Hp}{xs:Υ}(e:yv H H')(h:SqL K H a xs):SqL K H' a xs:=by
 rcases h with(h|⟨o,h⟩)|h
 .exact .inl (.inl (e _ _ h))
 .exact .inl (.inr ⟨o,e _ _ h⟩)
 .exact .inr h
section
variable{X:Cx}
def wv:zi X (.builtin "isinstance") (λxs H Q=>∃x cv t c k,xs=[x,cv]/\xk cv c/\(∀u,xk cv u->u=c)/\ue X.K H x t/\W.kitOne X.K t c=some k/\Q (.bl k) H):=by intro a s σ H xs l Q I r h;let⟨x,cv,t,c,k,rfl,_,f,g,e,q⟩:=h;let⟨u,j,rfl,i,b⟩:=yue r;obtain rfl:=f j b;exact yiu I i g e λd=>⟨.bl k,H,I.tok d,rfl,q⟩
def jw{x:Str}{pos:Pos}(hg:Gl X x)(hm:X.mg x=none)(hv:bootBuiltins x=some (.type T))(hn:x≠"__name__":=by decide)(hd:(x == ("__debug__":Str))=false:=by decide):PE X (.Name x pos) (tC (.ty T)):=ysq hg hm hv rfl hn hd
def vn{x:Str}{i:Int}{t:Tok}{pos:Pos}(hg:Gl X x)(hm:X.mg x=some (.int i t))(hd:(x == ("__debug__":Str))=false:=by decide):PE X (.Name x pos) (tC (.int i)):=yc9 hg hm ⟨t,rfl⟩ hd
def ydb{x:Str}{pos:Pos}(hg:Gl X x)(hm:X.mg x=some (.ref C))(hd:(x == ("__debug__":Str))=false:=by decide):PE X (.Name x pos) (tC (.ref C)):=yc9 hg hm rfl hd
mutual
inductive RdV(K:xr)(H:Hp):V->PyData->Prop
 |non:RdV K H .non .none
 |bl (b:_):RdV K H (.bl b) (.bool b)
 |int (i:_):RdV K H (.int i) (.int i)
 |str (x:_):RdV K H (.str x) (.str x)
 |lst {a xs ds:_}:SqL K H a xs->yqk K H xs ds->RdV K H (.ref a) (.list ds)
 |tup {a xs ds:_}:SqT K H a xs->yqk K H xs ds->RdV K H (.ref a) (.tuple ds)
inductive yqk(K:xr)(H:Hp):qi V->qi PyData->Prop
 |nil:yqk K H [] []
 |cons {x xs d ds:_}:RdV K H x d->yqk K H xs ds->yqk K H (x::xs) (d::ds)
end
def RdV.reads{pins:Θ}{σ:St}{H:Hp}{s:qa}(I:Inv X pins σ H s){x:V}{d:PyData}{u:qb}(h:RdV X.K H x d):xk x u->∃as,Reads s.heap u d as:=by
 refine RdV.rec (motive_1:=λx d Z=>∀u,xk x u->∃as,Reads s.heap u d as) (motive_2:=λe g Z=>∀f,wu e f->∃as,ReadsAll s.heap f g as) ?_ ?_ ?_ ?_ ?_ ?_ ?_ ?_ h u
 .intro u r;cases r;exists _,.none
 .intro b u r;cases r;exists _,.bool _
 .intro i u r;let⟨t,rfl⟩:=r;exists _,.int _ _
 .intro i u r;let⟨t,rfl⟩:=r;exists _,.str _ _
 .intro a e g k w l u r;cases r;let⟨m,p,⟨o,n,v,q,D,j⟩,z⟩:=I.list k;let⟨as,c⟩:=l _ p;exists _,.list v q j (by simpa using c)
 .intro a e g k w l u r;cases r;let⟨m,p,⟨o,v,q,n,j⟩,z⟩:=I.tuple k;let⟨as,c⟩:=l _ p;exists _,.tuple v q j (by simpa using c)
 .intro f r;cases r;exists _,.nil
 .intro x e d g h w B A f r
  cases r with
  |cons r rs =>
   let⟨as,c⟩:=B _ r;let⟨C,y⟩:=A _ rs;exists _,.cons c y
def ywn(K:xr)(g:Bool->Bool):R2:=λx y H Q=>∃d e,RdV K H x d/\RdV K H y e/\SeqAt.shaped d=true/\SeqAt.shaped e=true/\Q (.bl (g (PyData.eqv d e))) H
def ŗ(hu:X.A.units+64<cLine):OpR X (compareOp .Eq) (ywn X.K λb=>b):=by intro a s σ H x y v u Q I k i h;let⟨d,e,m,l,f,j,q⟩:=h;let⟨o,g⟩:=m.reads I k;let⟨n,c⟩:=l.reads I i;exact eq_dataH g c f j hu ⟨.bl _,H,I,rfl,q⟩
def Õ(hu:X.A.units+64<cLine):OpR X (compareOp .NotEq) (ywn X.K λb=>!b):=by intro a s σ H x y v u Q I k i h;let⟨d,e,m,l,f,j,q⟩:=h;let⟨o,g⟩:=m.reads I k;let⟨n,c⟩:=l.reads I i;exact ne_dataH g c f j hu ⟨.bl _,H,I,rfl,q⟩
theorem Ç{K:xr}{H:Hp}:∀ns:Ρ,yqk K H (ns.map V.int) (ns.map PyData.int)
 |[]=>.nil
 |n::r=>.cons (.int n) (Ç r)
theorem ξ:∀ns:Ρ,PyData.canLayAll0 (ns.map PyData.int)=true
 |[]=>rfl
 |_::r=>by simp[PyData.canLayAll0,PyData.canLay0,ξ r]
theorem à:∀ns:Ρ,PyData.depthAll (ns.map PyData.int)=0
 |[]=>rfl
 |_::r=>by simp[PyData.depthAll,PyData.depth,à r]
def ŏ(ns:Ρ):SeqAt.shaped (.list (ns.map PyData.int))=true:=by simp[SeqAt.shaped,PyData.canLay0,PyData.depth,ξ,à]
theorem z8:∀ns ms:Ρ,PyData.eqvAll (ns.map PyData.int) (ms.map PyData.int)=decide (ns=ms)
 |[],[]=>by simp[PyData.eqvAll]
 |[],_::_=>by simp[PyData.eqvAll]
 |_::_,[]=>by simp[PyData.eqvAll]
 |a::r,b::t=>by
  simp only[bT,PyData.eqvAll,PyData.eqv,z8 r t];by_cases h:a=b<;>by_cases h':r=t<;>simp[h,h']
def yal{K:xr}{g:Bool->Bool}{H:Hp}{Q:VK}{b:x0}(ns ms:Ρ)(ha:SqL K H a (ns.map V.int))(hb:SqL K H b (ms.map V.int))(h:Q (.bl (g (decide (ns=ms)))) H):ywn K g (.ref a) (.ref b) H Q :=
 ⟨_,_,.lst ha (Ç ns),.lst hb (Ç ms),ŏ ns,ŏ ms,by rw[PyData.eqv,z8];exact h⟩
def vee(_ j:Int):Prop:=0<j/\j<2^200
def vd:OpR X (binaryOp .FloorDiv) (rI vee λi j=>.int (i/j)):=opI λi j Z Z Z Z Z b q=>by
 let⟨d,c⟩:=b;refine floordiv_int (by omega) ?_ (.inl (PyProof.noPylong_of_log2 ?_))
 .rw[Int.fdiv_eq_ediv_of_nonneg _ (by omega)];exact q
 .have e:j.natAbs<2^200:=by omega
  have a:j.natAbs≠0:=by omega
  have:=(Nat.log2_lt a).mpr e;omega
def vfn(t:TS):TS:=λD σ H=>∃M:Ζ,t {D with nx:=M} σ H/\∀σ' H',M σ' H'->D.nx σ' H'
def jx{st:qc}{t:TS}(h:PS X st t):PS X st (vfn t):=by
 refine .mk λa s σ H D I ⟨M,e,d⟩=>?_;refine thn (h a s σ H {D with nx:=M} I e) λf g q=>?_
 cases f with
 |next =>
  let⟨σ',b,c,q⟩:=q;exists σ',b,c,d σ' b q
 |ret v=>exact q
 |brk=>exact q
 |cont=>exact q
end
def wn(nx:Ζ)(σ:St)(H:Hp):Prop:=nx σ H
section
variable{K:xr}{σ:St}{H:Hp}{Q:VK}{QB:Bool->Hp->Prop}{QL:qi V->Hp->Prop}{v x y:V}{i j:Int}{b:Bool}{ta tb tc te:TE}{t u:TS}{tA tB':TT}{tr:TA}{D:ā}
 {nx bk ct:Ζ} {rt:VK} {A B:Prop}
def yj{N:Τ}{vs:Υ}{σ':St}(e:é N vs=σ')(h:t D σ' H):t D (é N vs) H:=by rw[e];exact h
def yvs{k:Nat}(e:σ[k]?=some (some v))(h:Q v H):ves k σ H Q:=⟨v,e,h⟩
def i_c(h:Q v H):tC v σ H Q:=h
def vf1{r:R2}(h:ta σ H λx H1=>tb σ H1 λy H2=>r x y H2 Q):tOp r ta tb σ H Q:=h
def vgc{r:V->Hp->VK->Prop}(h:ta σ H λx H1=>r x H1 Q):tUn r ta σ H Q:=h
def vgj{g:Int->Int->V}(h:Q (g i j) H):rI0 g (.int i) (.int j) H Q:=⟨i,j,rfl,rfl,h⟩
def i_I{C:Int->Int->Prop}{g:Int->Int->V}(hc:C i j)(h:Q (g i j) H):rI C g (.int i) (.int j) H Q:=⟨i,j,rfl,rfl,hc,h⟩
def i_U{g:Int->V}(h:Q (g i) H):rU g (.int i) H Q:=⟨i,rfl,h⟩
def vd2(h:Q (.bl (decide (i=j))) H):rEq (.int i) (.int j) H Q:=⟨rfl,by
 have e:decide (V.int i=V.int j)=decide (i=j):=by simp
 rw[e];exact h⟩
def vau(h:ta σ H λx H'=>∃k,x=.bl k/\QB k H'):yvf ta σ H QB:=h
def vga(h:ta σ H λx H'=>∃k,x=.bl k/\QB k H'):tB ta σ H QB:=h
def vgm{P:Bool->Prop}(h:P b):∃k,V.bl b=V.bl k/\P k:=⟨b,rfl,h⟩
def yr2{r r':R2}(h:ta σ H λx H1=>tb σ H1 λy H2=>r x y H2 λz H3=>∃k,z=.bl k/\(if k=true then tc σ H3 λw' H4=>r' y w' H4 Q else Q (.bl false) H3)):yk0 r r' ta tb tc σ H Q:=h
def yzb(h:ta σ H λx H1=>∃c,x=.bl c/\if c=true then tb σ H1 Q else Q (.bl false) H1):vb8 ta tb σ H Q:=h
def vbl(h:ta σ H λx H1=>∃c,x=.bl c/\Q (.bl (!c)) H1):vbt ta σ H Q:=h
def vek{t1 t2:TT}(h:t1 σ H λc H1=>if c=true then t2 σ H1 QB else QB false H1):vfs t1 t2 σ H QB:=h
def vf9{t1 t2:TT}(h:t1 σ H λc H1=>if c=true then QB true H1 else t2 σ H1 QB):tOr t1 t2 σ H QB:=h
def vdx{t1:TT}(h:t1 σ H λc H1=>QB (!c) H1):vfm t1 σ H QB:=h
def vd0(h:tA σ H λc H1=>if c=true then ta σ H1 Q else tb σ H1 Q):tIf tA ta tb σ H Q:=h
structure Nx(u nx:Ζ):Prop where
 go:∀σ H,u σ H->nx σ H
def yky(h:∀nx bk ct:Ζ,Nx (u D) nx->Nx D.bk bk->Nx D.ct ct->t ⟨nx,D.rt,bk,ct⟩ σ H):vet t u D σ H:=h (u D) D.bk D.ct ⟨λZ Z z=>z⟩ ⟨λZ Z z=>z⟩ ⟨λZ Z z=>z⟩
def vcy{u nx:Ζ}(h:Nx u nx)(q:u σ H):nx σ H:=h.go _ _ q
def ypn(h:nx σ H):vca ⟨nx,rt,bk,ct⟩ σ H:=h
def vec(h:te σ H rt):vff te ⟨nx,rt,bk,ct⟩ σ H:=h
def yzr(h:te σ H λZ H1=>nx σ H1):vbz te ⟨nx,rt,bk,ct⟩ σ H:=h
def vf7(h:tA σ H λc H1=>if c=true then t D σ H1 else u D σ H1):vcu tA t u D σ H:=h
def yk6(M:Ζ)(h1:t ⟨M,rt,bk,ct⟩ σ H)(h2:∀σ' H',M σ' H'->nx σ' H'):vfn t ⟨nx,rt,bk,ct⟩ σ H:=⟨M,h1,h2⟩
def vd3{g:TG}(h:te σ H λx H1=>g x σ H1 nx):ywp te g ⟨nx,rt,bk,ct⟩ σ H:=h
def vbj{sp:Sp}{dvs:Υ}{E:XK}(h:tr σ H λvs H1=>sp (vs++dvs) H1 Q E):yuw sp dvs E tr σ H Q:=h
def vaa(h:ta σ H λx H1=>tr σ H1 λxs H2=>QL (x::xs) H2):ynw ta tr σ H QL:=h
def vdp(h:QL [] H):ylb σ H QL:=h
def vgl{r:qi V->Hp->VK->Prop}(h:tr σ H λvs H1=>r vs H1 Q):tCB r tr σ H Q:=h
def vc7(h:tr σ H λxs H1=>xs.length<=sizeLine/\∀p,H1 p=none->Q (.ref p) (upd H1 p (.tup xs))):vfz tr σ H Q:=h
def veg(h:tr σ H λxs H1=>xs.length<=sizeLine/\∀p,H1 p=none->Q (.ref p) (upd H1 p (.lst xs))):vfl tr σ H Q:=h
def Ĩ{m:Str}{sp:Sp}{dvs:Υ}{E:XK}(h:ta σ H λx H1=>∃a dx fs,x=.ref a/\H1 a=some (.ins C dx fs)/\fs.lookup m=none/\tr σ H1 λvs H2=>sp (x::(vs++dvs)) H2 Q E):ŀ C m sp dvs E ta tr σ H Q:=h
def vc8{f:Str}(h:ta σ H λx H1=>∃a C dx fs v,x=.ref a/\H1 a=some (.ins C dx fs)/\Cls K C/\vj K C f/\fs.lookup f=some v/\Q v H1):vfa K ta f σ H Q:=h
def yw5{f:Str}(h:tb σ H λy H1=>ta σ H1 λx H2=>∃a C dx fs,x=.ref a/\H2 a=some (.ins C dx fs)/\Cls K C/\vj K C f/\fs.length<1000/\wn nx σ (upd H2 a (.ins C dx (j9 f y fs)))):vfo K ta tb f ⟨nx,rt,bk,ct⟩ σ H:=h
def vgd{r:V->qj Int->qj Int->Hp->VK->Prop}{tl th:TO}(h:te σ H λx H1=>tl σ H1 λl H2=>th σ H2 λu H3=>r x l u H3 Q):tSl r te tl th σ H Q:=h
def ynl{QO:qj Int->Hp->Prop}(h:QO none H):yi1 σ H QO:=h
def van{QO:qj Int->Hp->Prop}(h:ta σ H λx H1=>∃i,x=.int i/\QO (some i) H1):vby ta σ H QO:=h
def vd1{P:Int->Prop}(h:P i):∃k,V.int i=V.int k/\P k:=⟨i,rfl,h⟩
def vam(h:A):V.non=V.non/\A:=⟨rfl,h⟩
def g0{a0:Ψ}{r:St}{N:Ζ}(h:N (some v::r) H):w8 0 v (a0::r) H N:=h
def g1{a0 a1:Ψ}{r:St}{N:Ζ}(h:N (a0::some v::r) H):w8 1 v (a0::a1::r) H N:=h
def g2{a0 a1 a2:Ψ}{r:St}{N:Ζ}(h:N (a0::a1::some v::r) H):w8 2 v (a0::a1::a2::r) H N:=h
def g3{a0 a1 a2 a3:Ψ}{r:St}{N:Ζ}(h:N (a0::a1::a2::some v::r) H):w8 3 v (a0::a1::a2::a3::r) H N:=h
def g4{a0 a1 a2 a3 a4:Ψ}{r:St}{N:Ζ}(h:N (a0::a1::a2::a3::some v::r) H):w8 4 v (a0::a1::a2::a3::a4::r) H N:=h
def g5{a0 a1 a2 a3 a4 a5:Ψ}{r:St}{N:Ζ}(h:N (a0::a1::a2::a3::a4::some v::r) H):w8 5 v (a0::a1::a2::a3::a4::a5::r) H N:=h
def g6{a0 a1 a2 a3 a4 a5 a6:Ψ}{r:St}{N:Ζ}(h:N (a0::a1::a2::a3::a4::a5::some v::r) H):w8 6 v (a0::a1::a2::a3::a4::a5::a6::r) H N:=h
def g7{a0 a1 a2 a3 a4 a5 a6 a7:Ψ}{r:St}{N:Ζ}(h:N (a0::a1::a2::a3::a4::a5::a6::some v::r) H):w8 7 v (a0::a1::a2::a3::a4::a5::a6::a7::r) H N:=h
def g8{a0 a1 a2 a3 a4 a5 a6 a7 a8:Ψ}{r:St}{N:Ζ}(h:N (a0::a1::a2::a3::a4::a5::a6::a7::some v::r) H):w8 8 v (a0::a1::a2::a3::a4::a5::a6::a7::a8::r) H N:=h
def g9{a0 a1 a2 a3 a4 a5 a6 a7 a8 a9:Ψ}{r:St}{N:Ζ}(h:N (a0::a1::a2::a3::a4::a5::a6::a7::a8::some v::r) H):w8 9 v (a0::a1::a2::a3::a4::a5::a6::a7::a8::a9::r) H N:=h
def g10{a0 a1 a2 a3 a4 a5 a6 a7 a8 a9 a10:Ψ}{r:St}{N:Ζ}(h:N (a0::a1::a2::a3::a4::a5::a6::a7::a8::a9::some v::r) H):w8 10 v (a0::a1::a2::a3::a4::a5::a6::a7::a8::a9::a10::r) H N:=h
def g11{a0 a1 a2 a3 a4 a5 a6 a7 a8 a9 a10 a11:Ψ}{r:St}{N:Ζ}(h:N (a0::a1::a2::a3::a4::a5::a6::a7::a8::a9::a10::some v::r) H):w8 11 v (a0::a1::a2::a3::a4::a5::a6::a7::a8::a9::a10::a11::r) H N:=h
def Ĭ{n:Nat}{tg:TGs}{xs:Υ}{N:Ζ}(hq:SqT K H a xs)(hl:xs.length=n)(h:tg xs σ H N):ywe K n tg (.ref a) σ H N:=⟨a,xs,rfl,hq,hl,h⟩
def yre{tg:TG}{us:TGs}{r:Υ}{N:Ζ}(h:tg v σ H λσ' H'=>us r σ' H' N):zh tg us (v::r) σ H N:=⟨v,r,rfl,h⟩
def yyr{N:Ζ}(h:N σ H):ylf [] σ H N:=⟨rfl,h⟩
def ur{p:Prop}[Decidable p](h1:p->A)(h2:¬p->B):if decide p=true then A else B:=by
 by_cases h:p
 .rw[if_pos (br h)];exact h1 h
 .rw[if_neg (by simp[h])];exact h2 h
def yam{p:Prop}[Decidable p](hp:p)(h:A):if decide p=true then A else B:=by rw[if_pos (br hp)];exact h
def ydk{p:Prop}[Decidable p](hp:¬p)(h:B):if decide p=true then A else B:=by rw[if_neg (by simp[hp])];exact h
def yu5{p:Prop}[Decidable p](hp:p)(h:B):if (!decide p)=true then A else B:=by rw[if_neg (by simp[hp])];exact h
def yvi{p:Prop}[Decidable p](hp:¬p)(h:A):if (!decide p)=true then A else B:=by rw[if_pos (by simp[hp])];exact h
def yqm{p:Prop}[Decidable p](h1:p->B)(h2:¬p->A):if (!decide p)=true then A else B:=by
 by_cases h:p
 .exact yu5 h (h1 h)
 .exact yvi h (h2 h)
def ven(h:B):if (!true)=true then A else B:=ĳ h
def vdy(h:A):if (!false)=true then A else B:=ł h
def ved{α:Type}{z:α}[Decidable (z=z)](h:A):if decide (z=z)=true then A else B:=yam rfl h
def x3{f:Str}{r:Ι}:List.lookup f ((f,v)::r)=some v:=by simp[List.lookup]
def wg{f g:Str}{r:Ι}{o:Ψ}(h:¬f=g)(e:List.lookup f r=o):List.lookup f ((g,v)::r)=o:=by
 have a:(f == g)=false:=by simp[h]
 simp[List.lookup,a,e]
def θ{f:Str}:List.lookup f ([]:Ι)=none:=rfl
def jk{f:Str}{r:Ι}:j9 f v ((f,x)::r)=(f,v)::r:=by simp[j9]
def vw{f g:Str}{r r':Ι}(h:¬g=f)(e:j9 f v r=r'):j9 f v ((g,x)::r)=(g,x)::r':=by simp[j9,h,e]
def wy{f:Str}:j9 f v []=[(f,v)]:=rfl
def u8{c:x0}{o o':HO}(hn:H a=none)(h:H c=some o):upd H a o' c=some o:=by rw[yk (yb h hn)];exact h
def yf{c:x0}{o o':HO}(hn:c≠a)(h:H c=some o):upd H a o' c=some o:=by rw[yk hn];exact h
def y7{o:HO}(hn:H a=none):yv H (upd H a o):=λZ Z h=>u8 hn h
def yv.tup{H':Hp}{xs:Υ}(e:yv H H')(h:SqT K H a xs):SqT K H' a xs:=by
 rcases h with(h|⟨o,h⟩)|h
 .exact .inl (.inl (e _ _ h))
 .exact .inl (.inr ⟨o,e _ _ h⟩)
 .exact .inr h
def ybr{tb:TS}{W:Nat->St->Hp->Prop}{m:Nat}(h:tb ⟨λσ' H'=>∃m',m'<m/\W m' σ' H',rt,nx,λσ' H'=>∃m',m'<m/\W m' σ' H'⟩ σ H):
  ∃N:Ζ,(∀σ' H',N σ' H'->∃m',m'<m/\W m' σ' H')/\tb ⟨N,rt,nx,N⟩ σ H:=⟨_,λZ Z q=>q,h⟩
def vat{sp:Sp}{dvs:Υ}{E:XK}(h:tr σ H λvs H1=>∀x dx,H1 x=none->H1 dx=none->dx≠x->sp (.ref x::(vs++dvs)) (upd (upd H1 dx (.own x)) x (.ins C dx [])) (λv H2=>v=.non/\Q (.ref x) H2) E):yvd C sp dvs E tr σ H Q:=h
def vgp{r:V->qi V->Hp->VK->Prop}(h:ta σ H λx H1=>tyV K T x H1/\tr σ H1 λxs H2=>r x xs H2 Q):tBM K T r ta tr σ H Q:=h
def vdo{r:V->qi V->Hp->VK->Prop}(h:ta σ H λx H1=>tyV K T x H1/\r x [] H1 Q):vfr K T r ta σ H Q:=h
def Â{xs:Υ}(h:H p=some (.lst xs))(k:A):tyV K "list" (.ref p) H/\A:=⟨.inl ⟨rfl,_,SqL.of h⟩,k⟩
def x9{l:x0}{xs:Υ}(h:H l=some (.lst xs))(hz:xs.length<sizeLine)(k:Q .non (upd H l (.lst (xs++[y])))):yi7 (.ref l) [y] H Q:=⟨l,xs,y,rfl,rfl,h,hz,k⟩
def ybk{l:x0}{xs:Υ}(h:H l=some (.lst xs))(k:Q .non (upd H l (.lst xs.reverse))):yed (.ref l) [] H Q:=⟨l,xs,rfl,rfl,h,k⟩
def x5{ys:Υ}{P:qi V->Prop}(h:SqL K H p ys)(k:P ys):∃p' ys',[V.ref p]=[V.ref p']/\(SqL K H p' ys'\/SqT K H p' ys')/\P ys':=⟨p,ys,rfl,.inl h,k⟩
def ypw{ys:Υ}{P:qi V->Prop}(h:SqT K H p ys)(k:P ys):∃p' ys',[V.ref p]=[V.ref p']/\(SqL K H p' ys'\/SqT K H p' ys')/\P ys':=⟨p,ys,rfl,.inr h,k⟩
def û{ys:Υ}{P:qi V->Prop}(h:SqL K H p ys)(k:P ys):∃p' ys',[V.ref p]=[V.ref p']/\(SqL K H p' ys'\/SqT K H p' ys')/\P ys':=⟨p,ys,rfl,.inl h,k⟩
def jy{xs:Υ}(h:SqL K H p xs)(e:atI xs i=some v)(k:Q v H):vcs K (.ref p) (.int i) H Q:=⟨p,xs,i,v,rfl,rfl,h,e,k⟩
def zt{xs:Υ}(h:SqT K H p xs)(e:atI xs i=some v)(k:Q v H):ywk K (.ref p) (.int i) H Q:=⟨p,xs,i,v,rfl,rfl,h,e,k⟩
def yb4{xs:Υ}{lo hi:qj Int}(h:SqL K H p xs)(k:∀q,H q=none->Q (.ref q) (upd H q (.lst (ydl xs lo hi)))):vft K (.ref p) lo hi H Q:=⟨p,xs,rfl,h,k⟩
def ja{xs:Υ}(n:Nat):ydl xs none (some (n:Int))=xs.take n:=by
 unfold ydl;rw[HT.sIx_none,HT.sIx_nat,List.drop_zero,Nat.sub_zero];rcases Nat.le_total n xs.length with h|h
 .rw[Nat.min_eq_left h]
 .rw[Nat.min_eq_right h,cm (bj _),cm h]
def vdu{wi:TI}{g:TG}{tb:TS}(h:wi σ H λJ H1=>∃W:Nat->Nat->St->Hp->Prop,(∃m,W 0 m σ H1)/\∀i m σ H,W i m σ H ->
  (J.stop i H/\D.nx σ H)\/(J.go i H/\∃N:Ζ,(∀σ' H',N σ' H'->∃m',m'<m/\W (i+1) m' σ' H')/\∀x H',J.yld i H x H'->g x σ H' λσ2 H2=>tb {D with nx:=N,ct:=N,bk:=D.nx} σ2 H2)):vfh wi g tb D σ H:=h
def ys8{R:It->Hp->Prop}(h:ta σ H λx H1=>∃a,x=.ref a/\(∃xs,SqL K H1 a xs)/\R (Itl K a) H1):vb4 K ta σ H R:=h
def yw6{R:It->Hp->Prop}(h:ta σ H λx H1=>∃a,x=.ref a/\(∃xs,SqT K H1 a xs)/\R (Itt K a) H1):vfk K ta σ H R:=h
def ysp{R:It->Hp->Prop}(h:tr σ H λvs H1=>∃j:Int,vs=[.int j]/\-(2^62)<=j/\j<2^62/\R (Itr 0 j.toNat) H1):vci tr σ H R:=h
def ò{n m:String}{k:Bool}{P:Bool->Prop}(ty:ue K H x (.type n))(e:W.kitOne K (.type n) (.type m)=some k)(h:P k):
  ∃x' cv t c k',[x,V.ty m]=[x',cv]/\xk cv c/\(∀u,xk cv u->u=c)/\ue K H x' t/\W.kitOne K t c=some k'/\P k':=⟨x,.ty m,.type n,.type m,k,rfl,rfl,λZ r=>r,ty,e,h⟩
def ysd(h:nx σ H):wn nx σ H:=h
end
def yot:V->Bool
 | .int _=>true
 | .bl _=>true
 |_=>false
def yjo:V->Bool
 | .bl _=>true
 |_=>false
def ζ:V->Bool
 | .int _=>true
 |_=>false
def yni(K:xr)(n:String):W.kitOne K (.type n) (.type n)=some true:=by unfold W.kitOne;rw[if_pos (by simp)]
def ysz{K:xr}{H:Hp}{x:V}{n:String}(ty:ue K H x (.type n)):W.kitOne K (.type n) (.type "int")=some (yot x):=by cases ty<;>rfl
def ymo{K:xr}{H:Hp}{x:V}{n:String}(ty:ue K H x (.type n)):W.kitOne K (.type n) (.type "bool")=some (yjo x):=by cases ty<;>rfl
end L2
namespace SpanMath
def Ch(c:Int):Prop:=32768<=c/\c<=16744448
def ren(l w s:Int):Int×Int×Int :=
 if w<4294967296 then (if w*256<4294967296 then (l*65536,w*65536,s+2)else (l*256,w*256,s+1))else (l,w,s)
def cut(w c:Int):Int:=w*c/16777216
def nar(x:Int×Int×Int)(c b:Int):Int×Int×Int :=
 if b=1 then ren x.1 (cut x.2.1 c) x.2.2 else ren (x.1+cut x.2.1 c) (x.2.1-cut x.2.1 c) x.2.2
def s0:Int×Int×Int:=(0,1099511627776,5)
def ylk{l w s:Int}(h:w<4294967296)(h2:8388608<=w):ren (l*256) (w*256) (s+1)=ren l w s:=by
 unfold ren;rw[if_pos h];by_cases h3:w*256<4294967296
 .rw[if_pos h3,if_pos h3,if_neg (by omega)];refine Prod.ext ?_ (Prod.ext ?_ ?_)
  .show l*256*256=l*65536;omega
  .show w*256*256=w*65536;omega
  .show s+1+1=s+2;omega
 .rw[if_neg h3,if_neg h3]
def ys9{l w s:Int}(h:¬w<4294967296):ren l w s=(l,w,s):=by unfold ren;rw[if_neg h]
def Ś{w c:Int}(hw:4294967296<=w)(hw2:w<=1099511627776)(hc:Ch c):8388608<=cut w c/\8388608<=w-cut w c/\cut w c<1099511627776:=by let⟨b,a⟩:=hc;have d:w*32768<=w*c:=bX b (by omega);have e:w*c<=w*16744448:=bX a (by omega);unfold cut;generalize w*c=p at d e⊢;omega
structure Ok(x:Int×Int×Int):Prop where
 l0:0<=x.1
 w0:4294967296<=x.2.1
 w1:x.2.1<=1099511627776
 z:5<=x.2.2
def ok0:Ok s0:=⟨by decide,by decide,by decide,by decide⟩
def yn3{l w s:Int}(h0:0<=l)(h1:8388608<=w)(h2:w<=1099511627776)(h3:5<=s):Ok (ren l w s):=by
 unfold ren
 split
 .split
  .exists by show 0<=l*65536;omega,by show _<=w*65536;omega,by show w*65536<=_;omega,by show 5<=s+2;omega
  .exists by show 0<=l*256;omega,by show _<=w*256;omega,by show w*256<=_;omega,by show 5<=s+1;omega
 .exists h0,by show _<=w;omega,h2,h3
def yy0{x:Int×Int×Int}{c b:Int}(h:Ok x)(hc:Ch c):Ok (nar x c b):=by
 let⟨d,a,e⟩:=Ś h.w0 h.w1 hc;have:=h.l0;have:=h.w0;have:=h.w1;have:=h.z;unfold nar
 split
 .exact yn3 (by omega) (by omega) (by omega) (by omega)
 .exact yn3 (by omega) (by omega) (by omega) (by omega)
end SpanMath
namespace SpanMath
def pw:Nat->Int
 |0=>1
 |k+1=>pw k*256
theorem ug:∀k,0<pw k
 |0=>by decide
 |k+1=>by have:=ug k;show 0<pw k*256;omega
theorem ŕ(a:Nat):∀b,pw (a+b)=pw a*pw b
 |0=>by simp[pw]
 |b+1=>by
  show pw (a+b)*256=pw a*(pw b*256);rw[ŕ a b,Int.mul_assoc]
def yjn{a b:Nat}(h:a<=b):pw a<=pw b:=by
 let⟨c,rfl⟩:=Nat.exists_eq_add_of_le h;rw[ŕ];have e:=ug a;have d:=ug c
 calc pw a=pw a*1:=by omega
  _<=pw a*pw c:=bX (by omega) (by omega)
def vbv{a b:Nat}(h:pw a<pw b):a<b:=by apply Nat.lt_of_not_le;intro q;have:=yjn q;omega
def lo:Nat->Int->qi Int
 |0,_=>[]
 |k+1,n=>n%256::lo k (n/256)
def wr(k:Nat)(n:Int):Ρ:=(lo k n).reverse
theorem yp1:∀k n,(lo k n).length=k
 |0,_=>rfl
 |k+1,n=>by simp[lo,yp1 k]
def yxl(k:Nat)(n:Int):(wr k n).length=k:=by simp[wr,yp1]
theorem yjh:∀k n,∀x∈lo k n,0<=x/\x<=255
 |0,_,x,h=>by simp[lo]at h
 |k+1,n,x,h=>by
  simp only[lo,bB]at h;rcases h with rfl|h
  .omega
  .exact yjh k _ x h
def ysc(k:Nat)(n:Int):∀x∈wr k n,0<=x/\x<=255:=λx h=>yjh k n x (by simpa[wr]using h)
def ys2(k:Nat)(n:Int):wr (k+1) n=wr k (n/256)++[n%256]:=by simp[wr,lo]
def val(xs:Ρ):Int:=xs.foldl (λa b=>a*256+b) 0
def yeg(xs:Ρ)(b:Int):val (xs++[b])=val xs*256+b:=by simp[val,List.foldl_append]
theorem ypz:∀(k:Nat)(n:Int),0<=n->n<pw k->val (wr k n)=n
 |0,n,h0,h1=>by
  have:n<1:=h1;have:n=0:=by omega
  subst this;rfl
 |k+1,n,h0,h1=>by
  have a:n<pw k*256:=h1;rw[ys2,yeg,ypz k (n/256) (by omega) (by omega)];omega
def vf2:Nat->Int->Int->Nat
 |0,_,_=>0
 |n+1,a,b=>if a=b then 0 else vf2 n (a/256) (b/256)+1
end SpanMath
namespace SpanMath
abbrev Sn:=Int×Int×Int
def sz(x:Sn):Nat:=x.2.2.toNat
structure OkS(x:Sn):Prop where
 ok:Ok x
 top:x.1+x.2.1<=pw (sz x)
theorem OkS.sz{x:Sn}(h:OkS x):((sz x:Nat):Int)=x.2.2:=by have:=h.ok.z;unfold SpanMath.sz;omega
def OkS.sz5{x:Sn}(h:OkS x):5<=SpanMath.sz x:=by have:=h.ok.z;unfold SpanMath.sz;omega
def vep:OkS s0:=⟨ok0,by decide⟩
structure Sub(x y:Sn)(r:Nat):Prop where
 z:sz y=sz x+r
 l:x.1*pw r<=y.1
 h:y.1+y.2.1<=(x.1+x.2.1)*pw r
def ydg{l w s:Int}(hs:0<=s):∃r,Sub (l,w,s) (ren l w s) r/\(ren l w s).2.1=w*pw r/\(ren l w s).1=l*pw r:=by
 unfold ren
 split
 .split
  .refine⟨2,⟨?_,?_,?_⟩,?_,?_⟩
   .show (s+2).toNat=s.toNat+2;omega
   .show l*(1*256*256)<=l*65536;omega
   .show l*65536+w*65536<=(l+w)*(1*256*256);omega
   .show w*65536=w*(1*256*256);omega
   .show l*65536=l*(1*256*256);omega
  .refine⟨1,⟨?_,?_,?_⟩,?_,?_⟩
   .show (s+1).toNat=s.toNat+1;omega
   .show l*(1*256)<=l*256;omega
   .show l*256+w*256<=(l+w)*(1*256);omega
   .show w*256=w*(1*256);omega
   .show l*256=l*(1*256);omega
 .refine⟨0,⟨?_,?_,?_⟩,?_,?_⟩
  .rfl
  .show l*1<=l;omega
  .show l+w<=(l+w)*1;omega
  .show w=w*1;omega
  .show l=l*1;omega
def ytf{x:Sn}{c b:Int}(h:Ok x)(hc:Ch c):∃r,Sub x (nar x c b) r:=by
 let⟨k,i,j⟩:=Ś h.w0 h.w1 hc;have g:=h.l0;have f:=h.z;unfold nar
 split
 .obtain⟨r,⟨e,d,a⟩,_⟩:=ydg (l:=x.1) (w:=cut x.2.1 c) (s:=x.2.2) (by omega);exists r,e,d,Int.le_trans a (cb ?_ (Int.le_of_lt (ug r)));show x.1+cut x.2.1 c<=x.1+x.2.1;omega
 .obtain⟨r,⟨e,d,a⟩,_⟩:=ydg (l:=x.1+cut x.2.1 c) (w:=x.2.1-cut x.2.1 c) (s:=x.2.2) (by omega);exists r,e,Int.le_trans (cb ?_ (Int.le_of_lt (ug r))) d,Int.le_trans a (cb ?_ (Int.le_of_lt (ug r)))
  .show x.1<=x.1+cut x.2.1 c;omega
  .show x.1+cut x.2.1 c+(x.2.1-cut x.2.1 c)<=x.1+x.2.1;omega
def yc6{x:Sn}{c b:Int}(h:OkS x)(hc:Ch c):OkS (nar x c b):=by exists yy0 h.ok hc,?_;let⟨r,q⟩:=ytf (b:=b) h.ok hc;rw[q.z,ŕ];exact Int.le_trans q.h (cb h.top (Int.le_of_lt (ug r)))
def blk(l e:Int):Int:=(l+e-1)/e
def Ŝ(l w:Int)(k:Nat):Prop:=(blk l (pw k)+1)*pw k<=l+w
instance (l w:Int)(k:Nat):Decidable (Ŝ l w k):=inferInstanceAs (Decidable ((blk l (pw k)+1)*pw k<=l+w))
def yki(l:Int){e:Int}(h:0<e):l<=blk l e*e/\blk l e*e<l+e:=by unfold blk;have a:=Int.emod_add_mul_ediv (l+e-1) e;have b:=cn (l+e-1) (show e≠0 by omega);have c:=cg (l+e-1) h;rw[Int.mul_comm]at a;generalize (l+e-1)/e*e=q at a⊢;omega
def yjj{l w:Int}{k:Nat}(h:Ŝ l w k):pw k<=w:=by have a:=yki l (ug k);unfold Ŝ at h;rw[Int.add_mul]at h;omega
def yl8{l w:Int}{k:Nat}(h:¬Ŝ l w k):w<2*pw k:=by have a:=yki l (ug k);unfold Ŝ at h;rw[Int.add_mul]at h;omega
def tel(l w:Int):Nat->Nat->Nat
 |0,k=>k
 |f+1,k=>if Ŝ l w (k+1)then tel l w f (k+1)else k
def ymv{l w:Int}{f k:Nat}(h:Ŝ l w (k+1)):tel l w f (k+1)=tel l w (f+1) k:=by rw[tel,if_pos h]
def ys5{l w:Int}{f k:Nat}(h:¬Ŝ l w (k+1)):tel l w f k=k:=by
 cases f with
 |zero=>rfl
 |succ f=>rw[tel,if_neg h]
set_option tactic.hygienic true in
theorem yeh{l w:Int}:∀{f k:Nat},Ŝ l w k->Ŝ l w (tel l w f k)
 |0,_,h=>h
 |f+1,k,h=>by
  unfold tel
  split
  .rename_i q;exact yeh q
  .exact h
def pw5:pw 5=1099511627776:=by decide
def yk5{l w:Int}{k:Nat}(hw:w<=1099511627776)(h:Ŝ l w k):k<=5:=by have b:=yjj h;rw[<- pw5]at hw;have a:pw k<pw 6:=Int.lt_of_le_of_lt (Int.le_trans b hw) (by decide);have:=vbv a;omega
theorem yjb{l w:Int}(hw:w<=1099511627776):∀{f k:Nat},f+k=5->¬Ŝ l w (tel l w f k+1)
 |0,k,e=>by
  intro h;have:=yk5 hw h;simp only[tel]at this;omega
 |f+1,k,e=>by
  unfold tel
  split
  .exact yjb hw (by omega)
  .assumption
def tK(x:Sn):Nat:=tel x.1 x.2.1 5 0
def tCn(x:Sn):Int:=blk x.1 (pw (tK x))
def tL(x:Sn):Ρ:=wr (sz x-tK x) (tCn x)
def vdl{x:Sn}(h:Ok x):Ŝ x.1 x.2.1 0:=by have:=h.w0;show ((x.1+1-1)/1+1)*1<=x.1+x.2.1;omega
def yai{x:Sn}(h:Ok x):Ŝ x.1 x.2.1 (tK x):=yeh (vdl h)
def yxn{x:Sn}(h:Ok x):¬Ŝ x.1 x.2.1 (tK x+1):=yjb h.w1 rfl
def ynq{x:Sn}(h:OkS x):tK x<=5/\tK x<=sz x:=by have b:=yk5 h.ok.w1 (yai h.ok);have a:=h.sz5;omega
def yex(x:Sn):(tL x).length=sz x-tK x:=yxl _ _
def yyi{x:Sn}(h:Ok x):0<=tCn x:=by have:=h.l0;have:=ug (tK x);exact Int.ediv_nonneg (by omega) (by omega)
def yzi{x:Sn}(h:OkS x):tCn x<pw (sz x-tK x):=by have b:(tCn x+1)*pw (tK x)<=x.1+x.2.1:=yai h.ok;have a:=h.top;have e:sz x-tK x+tK x=sz x:=Nat.sub_add_cancel (ynq h).2;rw[<- e,ŕ]at a;have c:=Int.le_of_mul_le_mul_right (Int.le_trans b a) (ug (tK x));omega
def vax{x:Sn}(h:OkS x):val (tL x)=tCn x:=ypz _ _ (yyi h.ok) (yzi h)
def gv(c b:Int):Int:=if b=1 then c else 16777216-c
def ywm(n:Nat)(g o:Int)(x:Sn):Prop:=0<g/\0<o/\g*pw (sz x)*(8388608-n)<=o*x.2.1*8388608
def vdw:ywm 0 1 1 s0:=⟨by decide,by decide,by decide⟩
def vdf{g p o w m z:Int}(hz:0<=z)(h:g*p*m<=o*w*8388608):g*(p*z)*m<=o*(w*z)*8388608:=by
 have b:=cb h hz
 have a:g*(p*z)*m=g*p*m*z:=by
  rw[<- Int.mul_assoc g p z,Int.mul_assoc (g*p) z m,Int.mul_comm z m,<- Int.mul_assoc]
 have c:o*(w*z)*8388608=o*w*8388608*z:=by
  rw[<- Int.mul_assoc o w z,Int.mul_assoc (o*w) z,Int.mul_comm z,<- Int.mul_assoc]
 rw[a,c];exact b
def yil{n:Nat}{g o:Int}{x:Sn}{c b:Int}(hn:n<1000000)(h:OkS x)(hc:Ch c)(p:ywm n g o x):ywm (n+1) (g*gv c b) (o*16777216) (nar x c b):=by
 let⟨F,W,H⟩:=p;let⟨a1,Y,U⟩:=Ś h.ok.w0 h.ok.w1 hc;have S:=h.ok.w0;let⟨Z,R⟩:=hc;have X:=h.ok.z;have A:cut x.2.1 c*16777216<=x.2.1*c:=by unfold cut;omega
 have D:x.2.1*c<cut x.2.1 c*16777216+16777216:=by unfold cut;omega
 have T:=ug (sz x)
 have u:0<g*gv c b/\∃a,(nar x c b=if b=1 then ren x.1 a x.2.2 else ren (x.1+cut x.2.1 c) a x.2.2)/\g*gv c b*pw (sz x)*(8388608-(n+1:Nat))<=o*16777216*a*8388608:=by
  have i:0<=g*pw (sz x):=Int.mul_nonneg (by omega) (by omega);have j:0<=o:=by omega
  unfold gv nar;by_cases hb:b=1
  .rw[if_pos hb,if_pos hb];exists Int.mul_pos F (by omega),cut x.2.1 c,by rw[if_pos hb],?_
   have f:g*pw (sz x)*(8388608-n)*c<=o*x.2.1*8388608*c:=cb H (by omega);have C:x.2.1*c*8388608<=cut x.2.1 c*16777216*8388609:=by omega
   have e:o*(x.2.1*c*8388608)<=o*(cut x.2.1 c*16777216*8388609):=bX C j
   have d:g*pw (sz x)*c*((8388608-(n+1:Nat))*8388609)<=g*pw (sz x)*c*((8388608-n)*8388608) :=
    bX (by omega) (Int.mul_nonneg i (by omega))
   have t:g*c*pw (sz x)=g*pw (sz x)*c:=by rw[Int.mul_assoc,Int.mul_comm c,<- Int.mul_assoc]
   rw[t];have L:g*pw (sz x)*c*((8388608-(n+1:Nat))*8388609)=g*pw (sz x)*c*(8388608-(n+1:Nat))*8388609:=by rw[<- Int.mul_assoc]
   have E:g*pw (sz x)*c*((8388608-n)*8388608)=g*pw (sz x)*(8388608-n)*c*8388608:=by
    rw[<- Int.mul_assoc,Int.mul_assoc (g*pw (sz x)) c,Int.mul_comm c,<- Int.mul_assoc]
   have m:o*(x.2.1*c*8388608)=o*x.2.1*c*8388608:=by rw[<- Int.mul_assoc,<- Int.mul_assoc]
   have B:o*x.2.1*8388608*c=o*x.2.1*c*8388608:=by rw[Int.mul_assoc,Int.mul_comm 8388608,<- Int.mul_assoc]
   have v:o*(cut x.2.1 c*16777216*8388609)=o*cut x.2.1 c*16777216*8388609:=by rw[<- Int.mul_assoc,<- Int.mul_assoc]
   have y:o*16777216*cut x.2.1 c*8388608=o*cut x.2.1 c*16777216*8388608:=by rw[Int.mul_assoc o,Int.mul_comm 16777216,<- Int.mul_assoc]
   rw[L,E]at d;rw[m,v]at e;rw[B]at f;rw[y];generalize g*pw (sz x)*c*(8388608-(n+1:Nat))=N at d⊢;generalize g*pw (sz x)*(8388608-n)*c=P at f d;generalize o*x.2.1*c=O at f e;generalize o*cut x.2.1 c=J at e⊢;omega
  .rw[if_neg hb,if_neg hb];exists Int.mul_pos F (by omega),x.2.1-cut x.2.1 c,by rw[if_neg hb],?_
   have G:0<=16777216-c:=by omega
   have f:g*pw (sz x)*(8388608-n)*(16777216-c)<=o*x.2.1*8388608*(16777216-c):=cb H G;have C:x.2.1*(16777216-c)<=(x.2.1-cut x.2.1 c)*16777216:=by rw[Int.mul_sub];omega
   have e:o*(x.2.1*(16777216-c))<=o*((x.2.1-cut x.2.1 c)*16777216):=bX C j
   have d:g*pw (sz x)*(16777216-c)*(8388608-(n+1:Nat))<=g*pw (sz x)*(16777216-c)*(8388608-n) :=
    bX (by omega) (Int.mul_nonneg i G)
   have t:g*(16777216-c)*pw (sz x)=g*pw (sz x)*(16777216-c):=by rw[Int.mul_assoc,Int.mul_comm (16777216-c),<- Int.mul_assoc]
   rw[t]
   have E:g*pw (sz x)*(16777216-c)*(8388608-n)=g*pw (sz x)*(8388608-n)*(16777216-c):=by
    rw[Int.mul_assoc,Int.mul_comm (16777216-c),<- Int.mul_assoc]
   have m:o*(x.2.1*(16777216-c))=o*x.2.1*(16777216-c):=by rw[<- Int.mul_assoc]
   have B:o*x.2.1*8388608*(16777216-c)=o*x.2.1*(16777216-c)*8388608:=by rw[Int.mul_assoc,Int.mul_comm 8388608,<- Int.mul_assoc]
   have v:o*((x.2.1-cut x.2.1 c)*16777216)=o*(x.2.1-cut x.2.1 c)*16777216:=by rw[<- Int.mul_assoc]
   have y:o*16777216*(x.2.1-cut x.2.1 c)*8388608=o*(x.2.1-cut x.2.1 c)*16777216*8388608:=by rw[Int.mul_assoc o,Int.mul_comm 16777216,<- Int.mul_assoc]
   rw[E]at d;rw[m,v]at e;rw[B]at f;rw[y];generalize g*pw (sz x)*(16777216-c)*(8388608-(n+1:Nat))=N at d⊢;generalize g*pw (sz x)*(8388608-n)*(16777216-c)=P at f d;generalize o*x.2.1*(16777216-c)=O at f e;generalize o*(x.2.1-cut x.2.1 c)=J at e⊢;omega
 let⟨M,a,K,Q⟩:=u;exists M,by omega,?_
 rw[K]
 have k:∀l:Int,g*gv c b*pw (sz (ren l a x.2.2))*(8388608-(n+1:Nat))<=o*16777216*(ren l a x.2.2).2.1*8388608:=λl=>by
  let⟨r,q,I,_⟩:=ydg (l:=l) (w:=a) (s:=x.2.2) (by omega);rw[q.z,I,ŕ];exact vdf (Int.le_of_lt (ug r)) Q
 split
 .exact k _
 .exact k _
def ysg{n:Nat}{g o:Int}{x:Sn}(hn:n<1000000)(h:OkS x)(p:ywm n g o x):g*pw (sz x-tK x)<1024*o:=by
 let⟨m,i,a⟩:=p;have r:=yl8 (yxn h.ok)
 have b:x.2.1<512*pw (tK x):=by
  have e:pw (tK x+1)=pw (tK x)*256:=rfl;omega
 have e:sz x-tK x+tK x=sz x:=Nat.sub_add_cancel (ynq h).2;have f:=ug (tK x);rw[<- e,ŕ]at a
 have c:o*x.2.1*8388608<o*(512*pw (tK x))*8388608:=by
  have:=Int.mul_lt_mul_of_pos_left b i;omega
 have d:g*(pw (sz x-tK x)*pw (tK x))*(8388608-n)=g*pw (sz x-tK x)*(8388608-n)*pw (tK x):=by
  rw[<- Int.mul_assoc,Int.mul_assoc (g*pw (sz x-tK x)) (pw (tK x)),Int.mul_comm (pw (tK x)),<- Int.mul_assoc]
 have k:o*(512*pw (tK x))*8388608=o*512*8388608*pw (tK x):=by
  rw[<- Int.mul_assoc,Int.mul_assoc (o*512) (pw (tK x)),Int.mul_comm (pw (tK x)),<- Int.mul_assoc]
 rw[d]at a;rw[k]at c;have l:=Int.lt_of_mul_lt_mul_right (Int.lt_of_le_of_lt a c) (Int.le_of_lt f)
 have j:g*pw (sz x-tK x)*(8388608-n)<1024*o*(8388608-n):=by
  refine Int.lt_of_lt_of_le l ?_;have:o*(512*8388608)<=o*(1024*(8388608-n)):=bX (by omega) (by omega);have q:o*(1024*(8388608-n))=1024*o*(8388608-n):=by rw[<- Int.mul_assoc,Int.mul_comm o]
  omega
 exact Int.lt_of_mul_lt_mul_right j (by omega)
end SpanMath
namespace L2
open PySem PySem.Spec PyProof.Rows
def yew(J:It)(te:TE)(D:x0)(R:Hp->Prop)(H1:Hp):Prop:=∃W:Nat->Nat->Hp->Prop,(∃m,W 0 m (upd H1 D (.lst [])))/\
 ∀i m H2,W i m H2->(J.stop i H2/\R H2)\/(J.go i H2/\∀x H3,J.yld i H2 x H3->te [some x] H3 λy H4=>∃ys,H4 D=some (.lst ys)/\ys.length<sizeLine/\∃m',m'<m/\W (i+1) m' (upd H4 D (.lst (ys++[y]))))
section
variable{X:Cx}{iter elt:qg}{x:Str}{px pos:Pos}{scope:Scope}{te:TE}{wi:TI}{pins:Θ}{σ:St}
def vc0{α:Type}{t:Sem α}{Q Q':α->qa->Prop}{M:Model}{A:qe}{E:Δ}{s:qa}(h:wpAny M A t Q (λZ Z=>False) s)(hQ:∀a s,Q a s->Q' a s):wpAny M A t Q' E s:=cM h hQ λZ Z z=>z.elim
def cW(n:Nat)(Pv:Nat->Hp->Prop)(i m:Nat)(H:Hp):Prop:=m=n-i/\i<=n/\Pv i H
def ul{K:xr}{a D:x0}{xs:Υ}{R:Hp->Prop}{H1:Hp}(Pv:Nat->Hp->Prop)(h0:Pv 0 (upd H1 D (.lst [])))(hl:∀i H,i<=xs.length->Pv i H->SqL K H a xs)
  (hs:∀i x H,xs[i]?=some x->i<xs.length->Pv i H->te [some x] H λy H4=>∃ys,H4 D=some (.lst ys)/\ys.length<sizeLine/\∃m',m'<xs.length-i/\cW xs.length Pv (i+1) m' (upd H4 D (.lst (ys++[y]))))
  (hd:∀H,Pv xs.length H->R H):yew (Itl K a) te D R H1:=by
 exists cW xs.length Pv,⟨xs.length,by simp,bJ _,h0⟩,?_;rintro i m H ⟨rfl,b,p⟩;have q:=hl i H b p;by_cases hlt:i<xs.length
 .refine .inr ⟨⟨xs,xs[i],q,by simp[hlt]⟩,λx c y=>?_⟩;let⟨e,y⟩:=y;subst e;exact hs i x _ (y xs q) hlt p
 .have e:i=xs.length:=by omega
  subst e;exact .inl ⟨⟨xs,q,bj _⟩,hd H p⟩
def we{n i:Nat}{Pv:Nat->Hp->Prop}{D:x0}{ys:Υ}{y:V}{H4:Hp}(hD:H4 D=some (.lst ys))(hl:ys.length<sizeLine)(hi:i<n)(p:Pv (i+1) (upd H4 D (.lst (ys++[y])))):
  ∃ys,H4 D=some (.lst ys)/\ys.length<sizeLine/\∃m',m'<n-i/\cW n Pv (i+1) m' (upd H4 D (.lst (ys++[y]))):=⟨ys,hD,hl,n-(i+1),by omega,rfl,hi,p⟩
end
end L2
namespace L2
open PySem
def yc5:qg->Bool
 | .Starred _ _=>false
 |_=>true
def yiz{e:qg}{es:qi qg}{env:Env}(h:yc5 e=true):starEach (e::es) env=(false,eval e env)::starEach es env:=by cases e<;>first|rfl|cases h
end L2
namespace L2
open PySem PySem.Spec PyProof.Rows
variable{C a:x0}{e:qg}{h':qf}{pins:Θ}{P:qh}{scope:Scope}{qual:Str}{cd u:qb}{E Q:Δ}
structure XCls(K:xr)(C:x0):Prop where
 hd:W.hasDictIn K C=true
 ga:W.findIn K (.ref C) "__getattribute__"=some (some (.builtin "BaseException.__getattribute__"))
 gt:W.findIn K (.ref C) "__getattr__"=some none
 ca:W.findIn K (.ref C) "__class__"=some (some (.builtin "object.__class__"))
 gg:W.specialIn K (.builtin "object.__class__") "__get__"=some (some (.builtin "getset_descriptor.__get__"))
 tk:W.takesIn K (.builtin "object.__class__")=some true
 mo:W.mroIn K C (.type "object")=some true
 mb:W.mroIn K C (.type "BaseException")=some true
def w9.there{w:qd}{H:Hp}{h:qf}{o:HO}(x:w9 P w H h a o):∃ob,h.get? a=some ob:=by
 cases o with
 |lst xs=>let⟨_,_,_,_,e⟩:=x;exists _,e
 |tup xs=>let⟨_,_,_,ob,e,_⟩:=x;exists _,e
 |dK kvs=>let⟨_,_,_,_,ob,_,_,e,_⟩:=x;exists _,e
 |dT kvs=>let⟨_,_,_,_,ob,_,_,e,_⟩:=x;exists _,e
 |set S n=>let⟨ob,_,_,_,e,_⟩:=x;exists _,e
 |ins C dx fs=>let⟨_,_,_,e,_⟩:=x;exists _,e
 |own y=>exact x
 |xd fs=>let⟨_,⟨_,_,_,e,_⟩,_⟩:=x;exists _,e
 |rng lo hi=>let⟨_,_,_,e⟩:=x;exists _,e
 |frz ob u=>let⟨e,_⟩:=x;exists _,e
 |tbl ps=>exists _,(show h.get? a=some _ from x)
 |met f y=>exists _,(show h.get? a=some _ from x)
 |ext φ=>let⟨_,e,_⟩:=x;exact e
def HOk.none_of{w:qd}{H:Hp}{h:qf}(x:HOk P w H h)(e:h.get? a=none):H a=none:=by
 cases q:H a with
 |none=>rfl
 |some u =>
  let⟨b,z⟩:=(x a u q).there;rw[e]at z;cases z
def Fy(X:Cx)(pins:Θ)(H:Hp)(b:x0):Prop :=
 H b=none/\b≠X.env.locals/\b∉X.fs/\(b∈X.ex\/X.s₀.heap.get? b=none)/\(∀y c,X.env.cells.lookup y=some c->c≠b)/\∀p∈X.pn++pins,p.1≠b
section
variable{X:Cx}{σ:St}{H H':Hp}{s:qa}{b x T:x0}
def ye5(I:Inv X pins σ H s)(hb:s.heap.get? b=none)(hn:H' b=none):Fy X pins H' b:=by
 exists hn,?_,?_,?_,?_,?_
 .rintro rfl;let⟨_,⟨_,_,_,e,_⟩,_⟩:=I.loc;rw[hb]at e;cases e
 .intro z;let⟨_,o,e,_⟩:=I.funs.mem z;rw[hb]at e;cases e
 .by_cases hx:b∈X.ex
  .exact .inl hx
  .refine .inr ?_
   cases q:X.s₀.heap.get? b with
   |none=>rfl
   |some o =>
    let⟨_,e⟩:=I.base.there b o q hx;rw[hb]at e;cases e
 .rintro y c e rfl;let⟨_,_,q,_⟩:=I.cell y c e;rw[hb]at q;cases q
 .intro p a z;have q:=(I.pin p a).1;rw[z,hb]at q;cases q
def Inv.fly(I:Inv X pins σ H s)(hx:Fy X pins H x)(hT:Fy X pins H T)
  (keep:∀b o,b≠x->b≠T->b∉frs X.stack->s.heap.get? b=some o->h'.get? b=some o)
  (slot:∀b o,b∈frs X.stack->s.heap.get? b=some o->∃sl,h'.get? b=some {o with slots:=sl}):Inv X pins σ H {s with heap:=h'}:=by
 have f:∀{y b o},Fy X pins H y->X.s₀.heap.get? b=some o->b∉X.ex->b≠y:=λ{y b o}J e a z=>by
  subst z;rcases J.2.2.2.1 with q|q
  .exact a q
  .rw[e]at q;cases q
 have h:∀b o,b≠x->b≠T->s.heap.get? b=some o->∃sl,h'.get? b=some {o with slots:=sl}:=λb o P O e=>by
  by_cases z:b∈frs X.stack
  .exact slot b o z e
  .exists o.slots,keep b o P O z e
 have g:∀y c,X.env.cells.lookup y=some c->∀v,s.heap.IsCell c v->h'.IsCell c v:=λy c e v ⟨o,D,N⟩=>by
  let⟨sl,q⟩:=h c o (hx.2.2.2.2.1 y c e) (hT.2.2.2.2.1 y c e) D;exists _,q,N
 exists I.ok,I.os,I.bare,⟨λb o e n A a=>?_,λb o e n A a=>?_,I.base.free,λb o e a=>?_,I.base.tups,I.base.frzs,I.base.tbls⟩,?_,λy c e=>?_,I.free,I.freeC,λp C=>?_,λb u e=>?_,I.len
 .refine keep b o (f hx e a) (f hT e a) (λz=>?_) (I.base.keep b o e n A a);rcases bB.mp (I.stkSub b z)with q|q
  .exact absurd q (bQ (bZ (bw e) I.ok.above))
  .exact A q
 .obtain⟨sl,j⟩:=I.base.slot b o e n A a;let⟨t,w⟩:=h b _ (f hx e a) (f hT e a) j;exists t,w
 .obtain⟨Y,j⟩:=I.base.there b o e a;let⟨t,w⟩:=h b _ (f hx e a) (f hT e a) j;exists _,w
 .obtain⟨m,L,R⟩:=I.loc;exists m,?_,λi y v j w K=>?_
  .obtain⟨o,Q,M,D,r⟩:=L;let⟨sl,q⟩:=h _ o (Ne.symm hx.2.1) (Ne.symm hT.2.1) D;exists _,Q,M,q,r
  .obtain⟨u,r,l⟩:=R i y v j w K;exists u,r,?_;rcases l with l|⟨k,c,e,z⟩
   .exact .inl l
   .exact .inr ⟨k,c,e,g y c e _ z⟩
 .obtain⟨v,z⟩:=I.cell y c e;exists v,g y c e v z
 .obtain⟨e,n,F,G,d⟩:=I.pin p C;exists keep p.1 p.2 (hx.2.2.2.2.2 p C) (hT.2.2.2.2.2 p C) (λz=>?_) e,n,F,G,d;rcases bB.mp (I.stkSub _ z)with q|q
  .exact F q
  .exact G q
 .have E:∀c v,H c=some v->c≠x/\c≠T/\c∉frs X.stack:=λc v q =>
   ⟨λz=>(by rw[z,hx.1]at q;cases q),λz=>(by rw[z,hT.1]at q;cases q),λz=>(by rw[I.stkFree c z]at q;cases q)⟩
  refine(I.hok b u e).stay (λc v B q=>?_) (λZ q=>q) λZ Z q=>q
  obtain⟨S,W,U⟩:c≠x/\c≠T/\c∉frs X.stack:=by
   rcases B with rfl|B
   .exact E _ _ e
   .exact E _ _ B
  exact keep c v S W U q
def Trd(h:qf)(x T:x0)(C fl:qb):Prop :=
 ∃oe vs oT ts a0,h.get? x=some oe/\(oe.cls=C/\vs[0]?=some a0)/\oe.data=.fields vs/\vs[1]?=some (.ref T)/\T≠x/\h.get? T=some oT/\oT.data=.fields ts/\ts[3]?=some fl
def hid(s:qa)(X:Cx)(x T:x0):qf:=W.hideAll s.heap (x::T::frs X.stack)
def yo9:(hid s X x T).StaysIn s.heap:=λZ Z e=>W.of_hideAll _ e
def vb7:(hid s X x T).get? x=none:=W.hideAll_none _ (.head _)
def vel:(hid s X x T).get? T=none:=W.hideAll_none _ (.tail _ (.head _))
def ypi(I:Inv X pins σ H s):s.heap.FunFrames (hid s X x T) X.stack :=
 W.funFrames_hide I.stack λb c a d=>.tail _ (.tail _ (List.mem_filterMap.mpr ⟨b,c,d⟩))
def va2{C fl:qb}(t:Trd s.heap x T C fl):∃a0,s.heap.TracedAtW (hid s X x T) x C a0 fl:=by let⟨j,d,c,e,a0,k,i,g,b,l,a,f,h⟩:=t;exists a0,j,d,T,c,e,k,i,g,b,vel,l,a,f,h
def ybi{C a0 fl:qb}(I:Inv X pins σ H s)(hx:Fy X pins H x)(hT:Fy X pins H T)(k1:(hid s X x T).StaysIn h')(k2:h'.FunFrames (hid s X x T) X.stack)(k3:h'.TracedAtW (hid s X x T) x C a0 fl)
  (k4:∀b o,s.heap.get? b=some o->(∀vs,o.data≠.fields vs)->∃sl,h'.get? b=some {o with slots:=sl}):
  Inv X pins σ H {s with heap:=h'}/\∃T',Fy X pins H T'/\Trd h' x T' C fl:=by
 exists I.fly hx hT (λb o t i h e=>k1 b o (W.hideAll_get _ e λz=>?_)) λb o l e=>?_,?_
 .rcases bB.mp z with z|z
  .exact t z
  .rcases bB.mp z with z|z
   .exact i z
   .exact h z
 .obtain⟨_,n,a,c⟩:=I.stack.mem l;rw[e]at a;cases a;exact k4 b o e c
 .obtain⟨k,vs,T',v,y,r,p,w,u,j,d,f,g,A⟩:=k3;exists T',?_,k,vs,v,y,a0,r,p,w,u,d,f,g,A;by_cases q:T'=T
  .rw[q];exact hT
  .cases e:s.heap.get? T' with
   |none=>exact ye5 I e (I.hok.none_of e)
   |some o =>
    have z:T'∈frs X.stack:=Classical.byContradiction λz=>by
     have:=W.hideAll_get (x::T::frs X.stack) e (λm=>by
      rcases bB.mp m with m|m
      .exact d m
      .rcases bB.mp m with m|m
       .exact q m
       .exact z m)
     rw[show (W.hideAll s.heap (x::T::frs X.stack)).get? T'=none from j]at this;cases this
    let⟨_,n,a,c⟩:=k2.mem z;rw[f]at a;cases a;exact absurd g (c _)
end
def CXe(P:qh)(w:qd):CXT:=λouter H s E e s'=>∃x T C H',e=.ref x/\s'.os=s.os/\AllBare s'.gens/\Un (frs outer) [] H H' s.heap s'.heap/\HOk P w H' s'.heap/\
 (H' x=none/\s.heap.get? x=none)/\(H' T=none/\s.heap.get? T=none)/\Trd s'.heap x T C .none/\E C none H'
def yak(X:Cx)(Ex:St->XK):Prop:=∀(pins:Θ)(σ:St)(H:Hp)(s':qa)(x T:x0)(C:qb),Inv X pins σ H s'->Fy X pins H x->Fy X pins H T->Trd s'.heap x T C .none->Ex σ C none H->X.xe (.ref x) s'
def yz{w:qd}{K:xr}{mg:Ε}{base:qf}{N:Τ}{f:x0}{A:qe}{outer:qi Env}{s:qa}{H:Hp}{E:XK}:
  yak (vy (CXe P w) P w K mg base N qual scope f cd A outer s H E) (λZ=>E):=by intro c σ e m x T C I i u j q;show wpAny _ _ (leaving _ _) _ _ _;let⟨v,p⟩:=va2 (X:=vy (CXe P w) P w K mg base N qual scope f cd A outer s H E) j;refine wpAny_leaving_nextW (base:=hid m (vy (CXe P w) P w K mg base N qual scope f cd A outer s H E) x T) (L:=s.heap.objs.size) I.ok.frames (ypi I) rfl p yo9 vb7 λy ⟨k,t,n,o⟩=>?_;let⟨d,r,g,l⟩:=ybi I i u k t n o;have a:∀{b},Fy (vy (CXe P w) P w K mg base N qual scope f cd A outer s H E) c e b->e b=none/\s.heap.get? b=none:=λh=>⟨h.1,h.2.2.2.1.resolve_left (by intro z;cases z)⟩;exists x,r,C,e,rfl,d.os,d.bare,d.base,d.hok,a i,a g,l,q
def yl7{w:qd}{K:xr}{mg:Ε}{base:qf}{N:Τ}{f:x0}{A:qe}{outer:qi Env}{s:qa}{H:Hp}{E:XK}
  {pins:Θ} {σ:St} {H1:Hp} {s1:qa} {h':qf} {x:x0} {C:qb} {vs:Ο} (I:Inv (vy (CXe P w) P w K mg base N qual scope f cd A outer s H E) pins σ H1 s1) (m:Heap.MadeExcOf s1.heap h' x C vs) (q:E C none H1):
  (vy (CXe P w) P w K mg base N qual scope f cd A outer s H E).xe (.ref x) {s1 with heap:=h'}:=by
 let⟨t,k,_,_⟩:=m.there;have d:Fy (vy (CXe P w) P w K mg base N qual scope f cd A outer s H E) pins H1 x:=ye5 I m.new (I.hok.none_of m.new);have g:Inv (vy (CXe P w) P w K mg base N qual scope f cd A outer s H E) pins σ H1 {s1 with heap:=h'}:=I.kept (t':=s1.toks) m.keeps;show wpAny _ _ (leaving _ _) _ _ _
 refine wpAny_leaving_firstW (base:=hid {s1 with heap:=h'} (vy (CXe P w) P w K mg base N qual scope f cd A outer s H E) x x) (L:=s.heap.objs.size) (a0:=.ref t) g.ok.frames (ypi g) rfl k yo9 vb7 rfl rfl rfl λn ⟨o,l,i,j⟩=>?_
 let⟨c,p,e,t'⟩:=ybi g d d o l i j;have a:∀{b},Fy (vy (CXe P w) P w K mg base N qual scope f cd A outer s H E) pins H1 b->H1 b=none/\s.heap.get? b=none:=λh=>⟨h.1,h.2.2.2.1.resolve_left (by intro z;cases z)⟩;exists x,p,C,H1,rfl,c.os,c.bare,c.base,c.hok,a d,a e,t',q
def yku(sp:Sp)(dvs:Υ)(Ex:St->XK)(t:TA):TE:=λσ H Q=>t σ H λvs H1=>sp (vs++dvs) H1 Q (Ex σ)
def yb1(C:x0)(m:Str)(sp:Sp)(dvs:Υ)(Ex:St->XK)(ta:TE)(t:TA):TE:=λσ H Q=>ta σ H λx H1=>∃a dx fs,x=.ref a/\H1 a=some (.ins C dx fs)/\fs.lookup m=none/\
 t σ H1 λvs H2=>sp (x::(vs++dvs)) H2 Q (Ex σ)
def yqh(C:x0)(sp:Sp)(dvs:Υ)(Ex:St->XK)(t:TA):TE:=λσ H Q=>t σ H λvs H1=>∀x dx,H1 x=none->H1 dx=none->dx≠x ->
 sp (.ref x::(vs++dvs)) (upd (upd H1 dx (.own x)) x (.ins C dx [])) (λv H2=>v=.non/\Q (.ref x) H2) (Ex σ)
section
variable{X:Cx}{k:Nat}{f:x0}{fd:FuncData}{ps:Τ}{sp:Sp}{dvs:Υ}{ds:Ο}{Ex:St->XK}{x m:Str}{p pos apos:Pos}{o:qg}{es:qi qg}{ta:TE}{t:TA}
def Inv.came{σ:St}{H:Hp}{s s':qa}{v:qb}(I:Inv X pins σ H s)(hc:yak X Ex)(h:CXe X.prog X.w X.stack H s (Ex σ) v s'):X.xe v s':=by let⟨y,T,D,i,rfl,g,a,j,c,d,e,f,q⟩:=h;exact hc pins σ i s' y T D (I.call' g j c a λb z=>absurd z (by simp)) (ye5 I d.2 d.1) (ye5 I e.2 e.1) f q
def yjc{σ:St}{H:Hp}{s:qa}{Q:VK}{us:Ο}{vs:Υ}(F:vz X.prog X.w X.K X.mg X.base (CXe X.prog X.w) k f fd ps sp)(hr:jh k X.A)(hb:xw X.K fd ps ds)(hd:wu dvs ds)(hc:yak X Ex)
  (I:Inv X pins σ H s) (r:wu vs us) (h:sp (vs++dvs) H Q (Ex σ)):wpAny (model X.prog X.w) X.A (call (.ref f) us) (EP X pins σ Q) X.xe s:=by
 have b:wu (vs++dvs) (us++ds):=r.append hd;have c:(us++ds).length=ps.length:=by rw[<- b.length];exact F.len _ _ _ _ h
 refine wpAny_call (codeAny_mono (F.run X.A X.stack s H ⟨us,[]⟩ (us++ds) (vs++dvs) Q (Ex σ) hr I.env0 (hb s us I.kIn c) b h) λr d a=>?_)
 cases r with
 |error e=>exact I.came hc a
 |ok fl =>
  cases fl with
  |ret u=>exact I.after a
  |next=>exact False.elim a
  |brk=>exact False.elim a
  |cont=>exact False.elim a
def ö(F:vz X.prog X.w X.K X.mg X.base (CXe X.prog X.w) k f fd ps sp)(hr:jh k X.A)(hg:Gl X x)(hm:X.mg x=some (.ref f))(hk:W.keepIn X.K (.ref f)=true)(hb:xw X.K fd ps ds)(hd:wu dvs ds)(hc:yak X Ex)
  (ha:PA X (e::es) t) (hdb:(x == ("__debug__":Str))=false:=by decide) (he:starEach (e::es) X.env=(false,eval e X.env)::starEach es X.env:=by rfl) (hpl:(backTo pos (starEach es X.env)).any (·.1)=false:=by rfl):
  PE X (.Call (.Name x p) (e::es) [] pos) (yku sp dvs Ex t):=by refine .mk λa s σ H Q I h=>?_;refine wpAny_Call_Name_kw (Á I hg hm ?_ hdb);refine W.callWith_K (h₀:=X.base) I.ok.mod.kin hk (thn (ha pos a s σ H _ I h) λg i ⟨c,d,b,r,q⟩=>⟨b.kIn,?_⟩) he hpl;exact yjc F hr hb hd hc b r q
def vh{pl:Sem Bool}(he:PE X o ta)(c:Cls X.K C)(hm:yv9 X.K C m f)(F:vz X.prog X.w X.K X.mg X.base (CXe X.prog X.w) k f fd ps sp)(hr:jh k X.A)(hb:xw X.K fd ps ds)(hd:wu dvs ds)(hc:yak X Ex)(ha:PA X (e::es) t)
  (hst:starEach (e::es) X.env=(false,eval e X.env)::starEach es X.env:=by rfl) (hpl:(backTo pos (starEach es X.env)).any (·.1)=false:=by rfl)
  (ht:eval (.Call (.Attribute o m apos) (e::es) [] pos) X.env=(do
   let ov <- eval o X.env
   standAt apos.atName
   let (f,first) <- holding [ov] (getMethod ov m pl)
   callWith pos f first (backTo pos (starEach (e::es) X.env)) (backToKw pos (keywordEach [] X.env))):=by rfl):
  PE X (.Call (.Attribute o m apos) (e::es) [] pos) (yb1 C m sp dvs Ex ta t):=by
 refine .mk λb s σ H Q I h=>?_;refine W.methodCall_KW (pl:=pl) (thn (he b s σ H _ I h) λu y h'=>?_) ht;let⟨x,n,g,v,a,E,B,i,p,l,q⟩:=h';subst i;obtain rfl:u=Value.ref a:=v;refine á g p c hm l ?_
 refine W.callWith_K (first:=[.ref a]) (h₀:=X.base) I.ok.mod.kin hm.kp (thn (ha pos b y σ n _ g q) λus D ⟨vs,z,d,r,j⟩=>⟨d.kIn,?_⟩) hst hpl
 exact yjc (us:=.ref a::us) (vs:=.ref a::vs) F hr hb hd hc d (.cons rfl r) j
def yg6{σ:St}{H:Hp}{s:qa}{Q:VK}{us:Ο}{vs:Υ}(M:Mk X.K C f)(F:vz X.prog X.w X.K X.mg X.base (CXe X.prog X.w) k f fd ps sp)(hr:jh (k+1) X.A)(hb:xw X.K fd ps ds)(hd:wu dvs ds)
  (hc:yak X Ex) (I:Inv X pins σ H s) (r:wu vs us)
  (h:∀x dx,H x=none->H dx=none->dx≠x->sp (.ref x::(vs++dvs)) (upd (upd H dx (.own x)) x (.ins C dx [])) (λv H2=>v=.non/\Q (.ref x) H2) (Ex σ)):
  wpAny (model X.prog X.w) X.A (call (.ref C) us) (EP X pins σ Q) X.xe s:=by
 have c:=h (s.heap.objs.size+1) s.heap.objs.size (I.hok.fresh (Nat.le_succ _)) (I.hok.fresh (bj _)) (bQ (Nat.lt_succ_self _));have b:=Inv.made (C:=C) I;have d:wu (V.ref (s.heap.objs.size+1)::(vs++dvs)) (Value.ref (s.heap.objs.size+1)::(us++ds)):=.cons rfl (r.append hd)
 have i:(Value.ref (s.heap.objs.size+1)::us++ds).length=ps.length:=by
  have e:=d.length;rw[F.len _ _ _ _ c]at e;exact e.symm
 refine wpAny_call (ydw (f:=f) I.kIn M.makes M.init (beq_iff_eq.mp M.fn) (codeAny_mono (F.run _ X.stack _ _ ⟨Value.ref (s.heap.objs.size+1)::us,[]⟩ (Value.ref (s.heap.objs.size+1)::(us++ds)) _ _ (Ex σ) (hr.make C us [])
  (b.env0.make C us []) (hb _ (Value.ref (s.heap.objs.size+1)::us) b.kIn i) d c) λr o a=>?_))
 cases r with
 |error e=>exact b.came hc a
 |ok fl =>
  cases fl with
  |ret u =>
   let⟨v,l,n,m,j,g⟩:=b.after a;subst j;exists m,⟨V.ref (s.heap.objs.size+1),l,n,rfl,g⟩
  |next=>exact False.elim a
  |brk=>exact False.elim a
  |cont=>exact False.elim a
def ua(M:Mk X.K C f)(F:vz X.prog X.w X.K X.mg X.base (CXe X.prog X.w) k f fd ps sp)(hr:jh (k+1) X.A)(hg:Gl X x)(hm:X.mg x=some (.ref C))(hb:xw X.K fd ps ds)(hd:wu dvs ds)(hc:yak X Ex)
  (ha:PA X (e::es) t) (hdb:(x == ("__debug__":Str))=false:=by decide) (he:starEach (e::es) X.env=(false,eval e X.env)::starEach es X.env:=by rfl) (hpl:(backTo pos (starEach es X.env)).any (·.1)=false:=by rfl):
  PE X (.Call (.Name x p) (e::es) [] pos) (yqh C sp dvs Ex t):=by refine .mk λa s σ H Q I h=>?_;refine wpAny_Call_Name_kw (Á I hg hm ?_ hdb);refine W.callWith_K (h₀:=X.base) I.ok.mod.kin M.kp (thn (ha pos a s σ H _ I h) λg i ⟨c,d,b,r,q⟩=>⟨b.kIn,?_⟩) he hpl;exact yg6 M F hr hb hd hc b r q
end
theorem PS.nox{X:Cx}{st:qc}{t:TS}(h:PS X.nox st t):PS X st t:=.mk λa s σ H D I b =>
 cM (h a s σ H D (I.wish _) b) (λZ Z q=>q.unwish) λZ Z z=>False.elim z
section
variable{w:qd}{K:xr}{mg:Ε}{base:qf}
def vg{X:Cx}:yak X (λZ Z Z Z=>False):=λZ Z Z Z Z Z Z Z Z Z Z q=>q.elim
def Fun.okE{x:Str}{st:qc}{f:x0}{fd:FuncData}{N ps:Τ}{k:Nat}{sp:Sp}(F:Fun K x qual st f fd)(S:yi N ps (yd st))(len:∀vs H Q E,sp vs H Q E->vs.length=ps.length)
  (hbody:∀(cdv:qb)(A:qe)(outer:qi Env)(s:qa)(H:Hp)(vs:Υ)(Q:VK)(E:XK),jh k (A.deeper (envOfC qual (yd st) s.heap.objs.size f cdv))->sp vs H Q E ->
   ∃t,PSs (vy (CXe P w) P w K mg base N qual (yd st) f cdv A outer s H E) (wd st) t/\t { nx:=λZ H'=>Q .non H',rt:=Q} (é N vs) H):vz P w K mg base (CXe P w) (k+1) f fd ps sp:=by let⟨m,h,kV,e,i,j,cdv,l,d,rfl,g,a⟩:=F.ex;exact ynu g a S len λA outer s H vs Q E c b=>hbody cdv A outer s H vs Q E c b
end
abbrev bmV:Ο:=[.type "ValueError",.type "Exception",.type "BaseException",.type "object"]
abbrev XMk(K:xr)(C:x0):Prop:=W.excIn K C bmV "ValueError.__new__"=true
set_option tactic.hygienic true in
def yr3{K:xr}{h:qf}{bmB:Ο}{newId:String}(X:K.In h)(q:W.excIn K C bmB newId=true):
  ∃bm N nm qn bs hdct sn sub ab col dd k0 k1 k2 k3 k5 mN,h.get? C=some (excClassObj nm qn C N bs bm hdct sn sub ab col dd k0 k1 k2 k3 k5 newId)/\h.Ns N mN/\mN "__init__"=none/\OwnTail h bmB bm:=by
 unfold W.excIn at q
 split at q
 .rename_i dd cd sl ho
  split at q
  .rename_i C' bm k0 k1 k2 k3 n k5 hm d
   simp only[bV,beq_iff_eq,Bool.not_eq_true']at q;let⟨⟨⟨⟨⟨rfl,rfl⟩,a⟩,e⟩,b⟩,c⟩:=q;let⟨nm,bs,g,f,qn,j,sn,sub,ab,col,i⟩:=cd;dsimp only at hm a b c;subst hm a;let⟨l⟩:=sl;have d:l=[k0,k1,k2,k3,some (.builtin n),k5]:=d;subst d;exists bm,f,nm,qn,bs,j,sn,sub,ab,col,dd,k0,k1,k2,k3,k5,_,X _ _ ho,.of_isNs (W.isNs_of_in X b),W.nsMap_none_of_in X b c,W.tail_of_in X e
  .cases q
 .cases q
def yoe(E:XK)(C:x0)(t:TA):TS:=λZ σ H=>t σ H λvs H1=>vs.length<=sizeLine/\E (.ref C) none H1
def xb{w:qd}{K:xr}{mg:Ε}{base:qf}{N:Τ}{f:x0}{A:qe}{outer:qi Env}{s:qa}{H:Hp}{E:XK}
  {C:x0} {x:Str} {np cpos pos:Pos} {e₀:qg} {Ā:qi qg} {t:TA} (hg:Gl (vy (CXe P w) P w K mg base N qual scope f cd A outer s H E) x) (hm:mg x=some (.ref C)) (hC:XMk K C)
  (ha:PA (vy (CXe P w) P w K mg base N qual scope f cd A outer s H E) (e₀::Ā) t)
  (he:starEach (e₀::Ā) (envOfC qual scope s.heap.objs.size f cd)=(false,eval e₀ (envOfC qual scope s.heap.objs.size f cd))::starEach Ā (envOfC qual scope s.heap.objs.size f cd):=by rfl)
  (hplain:(backTo cpos (starEach Ā (envOfC qual scope s.heap.objs.size f cd))).any (·.1)=false:=by rfl) (hdb:(x == ("__debug__":Str))=false:=by decide):
  PS (vy (CXe P w) P w K mg base N qual scope f cd A outer s H E) (.Raise (some (.Call (.Name x np) (e₀::Ā) [] cpos)) none pos) (yoe E C t):=by
 refine .mk λa u σ o D I h=>?_;let⟨p,l,nm,q,bs,hdct,sn,sub,ab,col,dd,k0,k1,k2,k3,k5,mN,g,k,d,T⟩:=yr3 I.mod.kin hC;refine wpAny_Raise_call_subT (C:=C) (nm:=nm) (q:=q) (N:=l) (bs:=bs) (bm:=p) (hdct:=hdct) (sn:=sn) (sub:=sub) (ab:=ab) (col:=col) (dd:=dd) (k0:=k0) (k1:=k1) (k2:=k2) (k3:=k3) (k5:=k5)
  F.excBase_ValueError (mN:=mN) (T.hasType F.excBase_ValueError.hasBase) (I.ok.hd rfl) (by
   show (backTo cpos (starEach (e₀::Ā) (envOfC qual scope s.heap.objs.size f cd))).any (·.1)=false;rw[he];show (false || (backTo cpos (starEach Ā (envOfC qual scope s.heap.objs.size f cd))).any (·.1))=false;rw[hplain];rfl) d (Á I hg hm ⟨rfl,?_⟩ hdb)
 have i:=ha cpos a u σ o _ I h;have c:starEach (e₀::Ā) (vy (CXe P w) P w K mg base N qual scope f cd A outer s H E).env=(false,eval e₀ (vy (CXe P w) P w K mg base N qual scope f cd A outer s H E).env)::starEach Ā (vy (CXe P w) P w K mg base N qual scope f cd A outer s H E).env:=he;rw[c]at i⊢;refine Calls.evalArgs_plain (cM i (by rintro v s₂ ⟨z,B,b,r,j,n⟩;exact⟨rfl,by rw[<- r.length];exact j,b.bk _ _ g,k.keeps b.bk,T.keeps b.bk,λG y m=>yl7 b m n⟩) λZ Z y=>y)
section
variable{X:Cx}{σ:St}{H:Hp}{s:qa}{x T:x0}
abbrev Cx.pnd(X:Cx)(pn:Θ):Cx:={X with pn:=pn}
def XT(Y:Cx)(Ex:St->XK)(e:qb)(s':qa):Prop:=∃pins σ H x T C,e=.ref x/\Inv Y pins σ H s'/\Fy Y pins H x/\Fy Y pins H T/\Trd s'.heap x T C .none/\Ex σ C none H
abbrev Cx.tr(X:Cx)(pn:Θ)(Ex:St->XK):Cx:=(X.pnd pn).wish (XT (X.pnd pn) Ex)
end
variable{X:Cx}
def ā.un(D:ā)(i:Nat):ā:=⟨λσ H=>D.nx (σ.set i none) H,D.rt,λσ H=>D.bk (σ.set i none) H,λσ H=>D.ct (σ.set i none) H⟩
section
variable{σ:St}{H:Hp}{Q:VK}{tr:TA}{ta:TE}{nx:Ζ}{rt:VK}{bk ct:Ζ}{ts:TS}
def ytd{sp:Sp}{dvs:Υ}{Ex:St->XK}(h:tr σ H λvs H1=>sp (vs++dvs) H1 Q (Ex σ)):yku sp dvs Ex tr σ H Q:=h
def yad{m:Str}{sp:Sp}{dvs:Υ}{Ex:St->XK}(h:ta σ H λx H1=>∃a dx fs,x=.ref a/\H1 a=some (.ins C dx fs)/\fs.lookup m=none/\tr σ H1 λvs H2=>sp (x::(vs++dvs)) H2 Q (Ex σ)):yb1 C m sp dvs Ex ta tr σ H Q:=h
def ysy{sp:Sp}{dvs:Υ}{Ex:St->XK}(h:tr σ H λvs H1=>∀x dx,H1 x=none->H1 dx=none->dx≠x->sp (.ref x::(vs++dvs)) (upd (upd H1 dx (.own x)) x (.ins C dx [])) (λv H2=>v=.non/\Q (.ref x) H2) (Ex σ)):yqh C sp dvs Ex tr σ H Q:=h
def ysx{E:XK}{D:ā}(h:tr σ H λvs H1=>vs.length<=sizeLine/\E (.ref C) none H1):yoe E C tr D σ H:=h
end
section
variable{κ:Type}[DecidableEq κ]
def zn(kvs:qi (κ×V))(k:κ):Ψ:=(kvs.find? λkv=>decide (kv.1=k)).map (·.2)
def ń(kvs:qi (κ×V))(k:κ)(v:V):qi (κ×V) :=
 if (kvs.any λkv=>decide (kv.1=k))=true then kvs.map (λkv=>if kv.1=k then (kv.1,v)else kv)else kvs++[(k,v)]
def Ø(kvs:qi (κ×V))(k:κ):qi (κ×V):=kvs.filter λkv=>decide (kv.1≠k)
def xt{p:κ×V}{r:qi (κ×V)}{k:κ}(e:p.1=k):zn (p::r) k=some p.2:=by simp[zn,List.find?_cons,e]
def xu{p:κ×V}{r:qi (κ×V)}{k:κ}(e:¬p.1=k):zn (p::r) k=zn r k:=by simp[zn,List.find?_cons,e]
theorem je(k:κ):∀kvs:qi (κ×V),(kvs.any λkv=>decide (kv.1=k))=(zn kvs k).isSome
 |[]=>rfl
 |p::r=>by
  rw[List.any_cons];by_cases e:p.1=k
  .simp only[xt e,br e,Bool.true_or,Option.isSome_some]
  .rw[xu e,bC e,Bool.false_or];exact je k r
theorem yee(k j:κ)(y:V):∀kvs:qi (κ×V),zn (kvs.map λkv=>if kv.1=k then (kv.1,y)else kv) j=(zn kvs j).map λx=>if j=k then y else x
 |[]=>rfl
 |p::r=>by
  have a:=yee k j y r;rw[bT];by_cases h:p.1=k
  .rw[if_pos h];by_cases e:p.1=j
   .rw[xt (p:=(p.1,y)) e,xt e,cN,if_pos (e.symm.trans h)]
   .rw[xu (p:=(p.1,y)) e,xu e,a]
  .rw[if_neg h];by_cases e:p.1=j
   .rw[xt (p:=p) e,xt e,cN,if_neg (λz=>h (e.trans z))]
   .rw[xu (p:=p) e,xu e,a]
theorem ybo(k j:κ)(y:V):∀kvs:qi (κ×V),zn kvs k=none->zn (kvs++[(k,y)]) j=if j=k then some y else zn kvs j
 |[],_=>by
  by_cases e:k=j
  .rw[if_pos e.symm];exact xt (p:=(k,y)) e
  .rw[if_neg (λz=>e z.symm)];exact xu (p:=(k,y)) e
 |p::r,hn=>by
  rw[List.cons_append];have a:¬p.1=k:=λz=>by rw[xt z]at hn;cases hn
  rw[xu a]at hn;have b:=ybo k j y r hn;by_cases e:p.1=j
  .rw[xt e,xt e,if_neg (λz=>a (e.trans z))]
  .rw[xu e,xu e,b]
def j6(kvs:qi (κ×V))(k j:κ)(y:V):zn (ń kvs k y) j=if j=k then some y else zn kvs j:=by
 unfold ń;by_cases a:(kvs.any λb=>decide (b.1=k))=true
 .rw[if_pos a,yee];rw[je]at a;by_cases e:j=k
  .obtain⟨x,c⟩:=Option.isSome_iff_exists.mp a;rw[if_pos e,e,c,cN,if_pos rfl]
  .rw[if_neg e]
   cases zn kvs j with
   |none=>rfl
   |some x=>rw[cN,if_neg e]
 .rw[if_neg a];refine ybo k j y kvs ?_;rw[je]at a
  cases q:zn kvs k with
  |none=>rfl
  |some x=>rw[q]at a;exact(a rfl).elim
def Č(kvs:qi (κ×V))(k:κ)(v:V):(ń kvs k v).length<=kvs.length+1:=by
 unfold ń
 split
 .rw[be];omega
 .rw[bp,bW,List.length_nil];omega
def Ò{kvs:qi (κ×V)}{k:κ}(v:V)(h:zn kvs k=none):ń kvs k v=kvs++[(k,v)]:=by unfold ń;rw[je,h];exact if_neg (by decide)
def yb8.isSome_eq{o:Ψ}{u:qj qb}(r:yb8 o u):o.isSome=u.isSome:=by
 cases o with
 |none=>cases u with
  |none=>rfl
  |some _=>exact(show False from r).elim
 |some _=>cases u with
  |none=>exact(show False from r).elim
  |some _=>rfl
def KV.val{kvs:qi (κ×V)}{vs:qi (κ×qb)}(r:KV kvs vs)(k:κ):yb8 (zn kvs k) (valueAt vs k):=by
 unfold KV at r
 induction r with
 |nil=>exact True.intro
 | @cons p q ps qs h t ih =>
  let⟨c,d⟩:=h;by_cases e:p.1=k
  .have a:q.1=k:=c.symm.trans e;have b:valueAt (q::qs) k=some q.2:=by simp[valueAt,List.find?_cons,a]
   rw[xt e,b];exact d
  .have a:¬q.1=k:=λz=>e (c.trans z);have b:valueAt (q::qs) k=valueAt qs k:=by simp[valueAt,List.find?_cons,a]
   rw[xu e,b];exact ih
theorem KV.any{kvs:qi (κ×V)}{vs:qi (κ×qb)}(r:KV kvs vs)(k:κ):(kvs.any λkv=>decide (kv.1=k))=vs.any λkv=>decide (kv.1=k):=by
 unfold KV at r
 induction r with
 |nil=>rfl
 |cons h t ih=>rw[List.any_cons,List.any_cons,ih,h.1]
def KV.repl{kvs:qi (κ×V)}{vs:qi (κ×qb)}(r:KV kvs vs)(k:κ){y:V}(ry:xk y u):
  KV (kvs.map λkv=>if kv.1=k then (kv.1,y)else kv) (vs.map λkv=>if kv.1=k then (kv.1,u)else kv):=by
 unfold KV at r⊢
 induction r with
 |nil=>exact .nil
 | @cons p q ps qs h t ih =>
  rw[bT,bT];refine .cons ?_ ih;let⟨a,b⟩:=h;by_cases e:p.1=k
  .rw[if_pos e,if_pos (a.symm.trans e)];exists a,ry
  .rw[if_neg e,if_neg (λz=>e (a.trans z))];exists a,b
def KV.put{kvs:qi (κ×V)}{vs:qi (κ×qb)}(r:KV kvs vs)(k:κ){y:V}(ry:xk y u):KV (ń kvs k y) (stored vs k u):=by
 unfold ń stored;rw[r.any k];by_cases e:(vs.any λa=>decide (a.1=k))=true
 .rw[if_pos e,if_pos e];exact r.repl k ry
 .rw[if_neg e,if_neg e];exact Paired.snoc r ⟨rfl,ry⟩
def KV.drop{kvs:qi (κ×V)}{vs:qi (κ×qb)}(r:KV kvs vs)(k:κ):KV (Ø kvs k) (without vs k):=by
 unfold KV at r⊢;unfold Ø without
 induction r with
 |nil=>exact .nil
 | @cons p q ps qs h t ih =>
  let⟨c,f⟩:=h;rw[List.filter_cons,List.filter_cons];by_cases e:p.1=k
  .have a:¬decide (p.1≠k)=true:=by simp[e]
   have b:¬decide (q.1≠k)=true:=by simp[c.symm.trans e]
   rw[if_neg a,if_neg b];exact ih
  .have d:¬q.1=k:=λz=>e (c.trans z);have a:decide (p.1≠k)=true:=by simp[e]
   have b:decide (q.1≠k)=true:=by simp[d]
   rw[if_pos a,if_pos b];exact .cons ⟨c,f⟩ ih
theorem KV.length{kvs:qi (κ×V)}{vs:qi (κ×qb)}(r:KV kvs vs):kvs.length=vs.length:=Paired.length r
def ymz(kvs:qi (κ×V))(k:κ):(Ø kvs k).length<=kvs.length:=List.length_filter_le _ _
end
def yg0{w:qd}{k:Key}(r:xk (kV k) u):(wk P w).is k u=true:=by
 cases k with
 |inl i=>let⟨t,e⟩:=(show ∃t,u=Value.int i t from r);subst e;exact ycm P w i t
 |inr x=>let⟨t,e⟩:=(show ∃t,u=Value.str x t from r);subst e;exact ycs P w x t
theorem ybe{w:qd}:∀{ks:qi Key}{us:Ο},wu (ks.map kV) us->ItemsAre (wk P w) ks us
 |[],_,r=>by rw[List.map_nil]at r;cases r;exact .nil
 |k::ks,_,r=>by
  rw[bT]at r
  cases r with
  |cons h t=>exact .cons (yg0 h) (ybe t)
abbrev KT(H:Hp):qi (qi Key×V)->qi (qi Key×x0×qb)->Prop:=Paired λp q=>p.1=q.1/\H q.2.1=some (.tup (p.1.map kV))/\xk p.2 q.2.2
def KT.val{H:Hp}{kvs:qi (qi Key×V)}{xs:qi (qi Key×x0×qb)}(r:KT H kvs xs)(k:qi Key):yb8 (zn kvs k) ((atKey xs k).map (·.2)):=by
 induction r with
 |nil=>exact True.intro
 | @cons p q ps qs h t ih =>
  let⟨c,_,d⟩:=h;by_cases e:p.1=k
  .have a:q.1=k:=c.symm.trans e;have b:atKey (q::qs) k=some q.2:=by simp[atKey,List.find?_cons,a]
   rw[xt e,b];exact d
  .have a:¬q.1=k:=λz=>e (c.trans z);have b:atKey (q::qs) k=atKey qs k:=by simp[atKey,List.find?_cons,a]
   rw[xu e,b];exact ih
def KT.repl{H:Hp}{kvs:qi (qi Key×V)}{xs:qi (qi Key×x0×qb)}(r:KT H kvs xs)(k:qi Key){y:V}(ry:xk y u):
  KT H (kvs.map λkv=>if kv.1=k then (kv.1,y)else kv) (xs.map (putAt k u)):=by
 induction r with
 |nil=>exact .nil
 | @cons p q ps qs h t ih =>
  rw[bT,bT];refine .cons ?_ ih;let⟨a,b,c⟩:=h;unfold putAt;by_cases e:p.1=k
  .rw[if_pos e,if_pos (a.symm.trans e)];exact⟨a,b,ry⟩
  .rw[if_neg e,if_neg (λz=>e (a.trans z))];exact⟨a,b,c⟩
def KT.put{H:Hp}{kvs:qi (qi Key×V)}{xs:qi (qi Key×x0×qb)}(r:KT H kvs xs)(k:qi Key){b:x0}{y:V}(hb:H b=some (.tup (k.map kV)))(ry:xk y u):
  KT H (ń kvs k y) (storedH xs k b u):=by
 have e:(kvs.any λa=>decide (a.1=k))=(atKey xs k).isSome:=by
  rw[je,(r.val k).isSome_eq,Option.isSome_map]
 unfold ń storedH;rw[e];by_cases q:(atKey xs k).isSome=true
 .rw[if_pos q,if_pos q];exact r.repl k ry
 .rw[if_neg q,if_neg q];exact Paired.snoc r ⟨rfl,hb,ry⟩
def KT.keeps{H H':Hp}{kvs:qi (qi Key×V)}{xs:qi (qi Key×x0×qb)}(r:KT H kvs xs)(ht:∀b ys,H b=some (.tup ys)->H' b=some (.tup ys)):KT H' kvs xs :=
 Paired.mapP r λZ Z z=>⟨z.1,ht _ _ z.2.1,z.2.2⟩
section
variable{w:qd}{H:Hp}{h:qf}
def vbr{u:HO}(ok:HOk P w H h)(e:Rd H a u):w9 P w H h a u:=e.ok ok
def ydj{kvs:Κ}(ok:HOk P w H h)(e:Rd H a (.dK kvs)):kvs.length<=sizeLine/\(a == sysModules)=false/\∃vs,KV kvs vs/\h.DictOf (wk P w) a vs :=
 show w9 P w H h a (.dK kvs)from vbr ok e
def vcm{kvs:Κ}(ok:HOk P w H h)(e:H a=some (.dK kvs)):kvs.length<=sizeLine/\(a == sysModules)=false/\∃vs,KV kvs vs/\h.DictOf (wk P w) a vs:=ydj ok (.inl e)
def ybv{ks:qi Key}(ok:HOk P w H h)(e:H a=some (.tup (ks.map kV))):(tupleKind (wk P w)).is h ks a:=by let⟨_,b,r,o,f,c,n,d⟩:=(show w9 P w H h a (.tup (ks.map kV))from ok a _ e);exists o,b.toArray,n,f,c,d,by simpa using ybe r
def yg1{kvs:qi (qi Key×V)}(ok:HOk P w H h)(e:Rd H a (.dT kvs)):kvs.length<=sizeLine/\(a == sysModules)=false/\
  ∃xs,KT H kvs xs/\h.DictOfH (tupleKind (wk P w)) a xs:=by
 let⟨z,y,xs,r,o,d,i,k,j,g,f,n⟩:=(show w9 P w H h a (.dT kvs)from vbr ok e);exists z,y,xs,r,o,d,i,k,j,g,f,λx b=>?_,n
 have c:∀{l:qi (qi Key×V)}{m:qi (qi Key×x0×qb)},KT H l m->∀x∈m,(tupleKind (wk P w)).is h x.1 x.2.1:=by
  intro l m q
  induction q with
  |nil=>intro x b;exact nomatch b
  | @cons p q ps qs hq t ih =>
   intro x b;rcases bB.mp b with e|b
   .subst e;exact ybv ok (by rw[<- hq.1];exact hq.2.1)
   .exact ih x b
 exact c r x b
def vef{kvs:qi (qi Key×V)}(ok:HOk P w H h)(e:H a=some (.dT kvs)):kvs.length<=sizeLine/\(a == sysModules)=false/\
  ∃xs,KT H kvs xs/\h.DictOfH (tupleKind (wk P w)) a xs:=yg1 ok (.inl e)
end
def Ĳ(H:Hp)(a:x0)(y:V)(r:Ψ):Prop :=
 (∃kvs k,Rd H a (.dK kvs)/\y=kV k/\r=zn kvs k)\/∃kvs k b,Rd H a (.dT kvs)/\y=.ref b/\H b=some (.tup (k.map kV))/\r=zn kvs k
def yla(H:Hp)(a:x0)(y v:V)(H':Hp):Prop :=
 (∃kvs k,H a=some (.dK kvs)/\y=kV k/\kvs.length<sizeLine/\H'=upd H a (.dK (ń kvs k v))) \/
 ∃kvs k b,H a=some (.dT kvs)/\y=.ref b/\H b=some (.tup (k.map kV))/\kvs.length<sizeLine/\H'=upd H a (.dT (ń kvs k v))
theorem Ĳ.k{H:Hp}{kvs:Κ}{k:Key}(e:H a=some (.dK kvs)):Ĳ H a (kV k) (zn kvs k):=.inl ⟨kvs,k,.inl e,rfl,rfl⟩
def Ĳ.t{H:Hp}{b:x0}{kvs:qi (qi Key×V)}{k:qi Key}(e:H a=some (.dT kvs))(eb:H b=some (.tup (k.map kV))):Ĳ H a (.ref b) (zn kvs k):=.inr ⟨kvs,k,b,.inl e,rfl,eb,rfl⟩
theorem yla.k{H:Hp}{kvs:Κ}{k:Key}{v:V}(e:H a=some (.dK kvs))(hl:kvs.length<sizeLine):yla H a (kV k) v (upd H a (.dK (ń kvs k v))):=.inl ⟨kvs,k,e,rfl,hl,rfl⟩
def yla.t{H:Hp}{b:x0}{kvs:qi (qi Key×V)}{k:qi Key}{v:V}(e:H a=some (.dT kvs))(eb:H b=some (.tup (k.map kV)))(hl:kvs.length<sizeLine):
  yla H a (.ref b) v (upd H a (.dT (ń kvs k v))):=.inr ⟨kvs,k,b,e,rfl,eb,hl,rfl⟩
section
variable{σ:St}{H:Hp}{s:qa}{y v:V}{r:qb}{o:Ψ}{A:qe}
def Inv.big(I:Inv X pins σ H s):sysModules<s.heap.objs.size:=by have h:mainGlobals<s.heap.objs.size:=(I.mod.glob.keeps I.bk).lt;exact Nat.lt_trans (by decide) h
def yit(hu:A.units+1<cLine)(I:Inv X pins σ H s)(g:Ĳ H a y (some v))(ry:xk y u)(h:∀w' s',Inv X pins σ H s'->xk v w'->Q w' s'):
  wpAny (model X.prog X.w) A (getItem (.ref a) u) Q E s:=by
 rcases g with⟨f,k,e,n,l⟩|⟨f,k,b,e,n,B,l⟩
 .subst n;let⟨z,x,r,c,m⟩:=ydj I.hok e;let⟨w',j,d⟩:=yb8.some_of (v:=v) (o:=valueAt r k) (by rw[l];exact c.val k);exact wpAny_getItem_of (yg0 ry) m.mapOf j (h w' _ (I.tok _) d)
 .subst n;cases (show u=Value.ref b from ry);let⟨z,x,t,c,m⟩:=yg1 I.hok e;let⟨w',j,d⟩:=yb8.some_of (v:=v) (o:=(atKey t k).map (·.2)) (by rw[l];exact c.val k);let⟨p,q,i⟩:=cC.mp j;refine wpAny_getItem_heap (tupleKind_room_in1 hu) (ybv I.hok B) m q ?_;rw[i];exact h w' _ (I.tok _) d
def vf5(hu:A.units+1<cLine)(I:Inv X pins σ H s)(g:Ĳ H a y o)(ry:xk y u)(h:∀s',Inv X pins σ H s'->Q (.bool o.isSome) s'):
  wpAny (model X.prog X.w) A (compareOp .In u (.ref a)) Q E s:=by
 rcases g with⟨d,k,e,i,l⟩|⟨d,k,b,e,i,m,l⟩
 .subst i;let⟨z,j,n,c,f⟩:=ydj I.hok e;refine wpAny_in_of (yg0 ry) j f.mapOf ?_;rw[<- (c.val k).isSome_eq,<- l];exact h _ (I.tok _)
 .subst i;cases (show u=Value.ref b from ry);let⟨z,j,p,c,f⟩:=yg1 I.hok e;refine wpAny_in_heap (tupleKind_room_in1 hu) (ybv I.hok m) j f ?_;have q:=(c.val k).isSome_eq;rw[Option.isSome_map]at q;rw[<- q,<- l];exact h _ (I.tok _)
def yqu(hu:A.units+1<cLine)(I:Inv X pins σ H s)(g:Ĳ H a y o)(ry:xk y u)(h:∀s',Inv X pins σ H s'->Q (.bool (!o.isSome)) s'):
  wpAny (model X.prog X.w) A (compareOp .NotIn u (.ref a)) Q E s:=by
 rcases g with⟨d,k,e,i,l⟩|⟨d,k,b,e,i,m,l⟩
 .subst i;let⟨z,j,n,c,f⟩:=ydj I.hok e;refine wpAny_notIn_of (yg0 ry) j f.mapOf ?_;rw[<- (c.val k).isSome_eq,<- l];exact h _ (I.tok _)
 .subst i;cases (show u=Value.ref b from ry);let⟨z,j,p,c,f⟩:=yg1 I.hok e;refine wpAny_notIn_heap (tupleKind_room_in1 hu) (ybv I.hok m) j f ?_;have q:=(c.val k).isSome_eq;rw[Option.isSome_map]at q;rw[<- q,<- l];exact h _ (I.tok _)
def yda{t':Nat}{ob:HO}(I:Inv X pins σ H s)(mu:Mut (H a))(hs:Heap.SameBut a s.heap h')(he:∃q,h'.get? a=some q)(new:w9 X.prog X.w (upd H a ob) h' a ob):
  Inv X pins σ (upd H a ob) {s with heap:=h',toks:=t'} :=
 I.write (x:=a) (e:=a) mu (.inl rfl) (λb q c z=>(hs.2 b c).trans z) he new
def yoj{w:qd}{H':Hp}{kvs:Κ}{vs:qi (Key×qb)}(z:kvs.length<=sizeLine)(hd:(a == sysModules)=false)(rel:KV kvs vs)(dd:h'.DictOf (wk P w) a vs):
  w9 P w H' h' a (.dK kvs):=⟨z,hd,vs,rel,dd⟩
def yhd{H':Hp}{Q:Unit->qa->Prop}(hu:A.units+1<cLine)(I:Inv X pins σ H s)(g:yla H a y v H')(ry:xk y u)(rv:xk v r)(h:∀s',Inv X pins σ H' s'->Q () s'):
  wpAny (model X.prog X.w) A (setItem (.ref a) u r) Q E s:=by
 rcases g with⟨f,k,e,B,l,x⟩|⟨f,k,b,e,B,D,l,x⟩
 .subst B x;let⟨z,o,G,d,m⟩:=vcm I.hok e;have p:G.length<=sizeLine:=by rw[<- d.length];exact z
  have t:(ń f k v).length<=sizeLine:=by have:=Č f k v;omega
  refine wpAny_setItem_pairs (hsz:=p) (yg0 ry) m λC i n=>h _ ?_;have K:∃q,C.get? a=some q:=let ⟨q,_,_,j,_⟩:=i;⟨q,j⟩;exact yda I (by rw[e];exact True.intro) n K (yoj t o (d.put k rv) i)
 .subst B x;cases (show u=Value.ref b from ry);let⟨z,o,J,d,m⟩:=vef I.hok e;have p:J.length<=sizeLine:=by rw[<- Paired.length d];exact z
  have t:(ń f k v).length<=sizeLine:=by have:=Č f k v;omega
  refine wpAny_setItem_heap (hsz:=p) (tupleKind_room_in1 hu) (ybv I.hok D) m λC i n=>h _ ?_;let⟨q,O,L,j,N,R,P,_,M⟩:=i;refine yda I (by rw[e];exact True.intro) n ⟨q,j⟩ ⟨t,o,_,(d.put k D rv).keeps λc S F=>?_,q,O,L,j,N,R,P,M⟩
  rw[yk (wz F e (λz=>nomatch z))]
  exact F
end
section
variable{σ:St}{H:Hp}{s:qa}{kvs:Κ}{k:Key}{A:qe}
def vds{v:V}{more:Ο}(I:Inv X pins σ H s)(e:H a=some (.dK kvs))(ry:xk (kV k) u)(l:zn kvs k=some v)(hm:more=[]\/∃x,more=[x])
  (h:∀w' s',Inv X pins σ (upd H a (.dK (Ø kvs k))) s'->xk v w'->Q w' s'):wpAny (model X.prog X.w) A (call (.builtin "dict.pop") (.ref a::u::more)) Q E s:=by
 let⟨z,y,f,b,g⟩:=vcm I.hok e;let⟨w',m,d⟩:=yb8.some_of (v:=v) (o:=valueAt f k) (by rw[<- l];exact b.val k)
 have j:(keyPart u).isSome=true:=by
  cases k with
  |inl i=>let⟨t,q⟩:=(show ∃t,u=Value.int i t from ry);subst q;rfl
  |inr x=>let⟨t,q⟩:=(show ∃t,u=Value.str x t from ry);subst q;rfl
 have p:argsOk "dict.pop" ⟨.ref a::u::more,[]⟩:=by
  rcases hm with q|⟨x,q⟩
  .subst q;exact PySem.F.args_dict_pop_2 _ _
  .subst q;exact PySem.F.args_dict_pop_3 _ _ _
 refine call_meetsIn PySem.F.slot_dict_pop g.typeIs PySem.F.entry_dict_pop p (meets_dict_pop_there (wk X.prog X.w) a (yg0 ry) more hm j)
  ⟨f,w',g,by rw[<- b.length];exact z,m,λr c B=>h w' _ ?_ d⟩
 have n:∃q,r.get? a=some q:=let ⟨q,_,_,hq,_⟩:=c;⟨q,hq⟩;exact yda I (by rw[e];exact True.intro) B n (yoj (bP (ymz kvs k) z) y (b.drop k) c)
def vdn(I:Inv X pins σ H s)(e:Rd H a (.dK kvs))(h:∀t s',Inv X pins σ H s'->Q (.int kvs.length t) s'):wpAny (model X.prog X.w) A (call (.builtin "len") [.ref a]) Q E s:=by let⟨z,d,f,b,c⟩:=ydj I.hok e;refine call_len_dict d c (by rw[<- b.length];rw[sizeLine_eq]at z;omega) ?_;rw[<- b.length];exact h _ _ (I.tok _)
end
def vfi(i:qg):Prop:=∀ov iv,subscripted i false ov iv=operate [ov,iv] (getItem ov iv)
def yqw{prog:qh}{w:qd}{A:qe}{s:qa}{env:Env}{value slice:qg}{pos:Pos}{T id:String} 
  (hl:typeLookup (.type T) "__getitem__"=pure (some (.builtin id))) (hs:vfi slice)
  (h:wpAny (model prog w) A (eval value env) (λo s₁=>wpAny (model prog w) A (eval slice env) (λi s₂=>s₂.TypeIs o T/\wpAny (model prog w) A (getItem o i) Q E s₂) E s₁) E s):
  wpAny (model prog w) A (eval (.Subscript value slice pos) env) Q E s:=by
 refine Subscript_ (cM h (λo s₁ h₁=>cM h₁ (λi s₂ h₂=>?_) λZ Z x=>x) λZ Z x=>x);let⟨b,h₂⟩:=h₂;unfold subscriptTail;refine bf ?_;rw[getitemInPython_of_ne b.not_modules];refine bf (wpAny_specialOf b hl ?_)
 have a:wpAny (model prog w) A (subscripted slice false o i) (λr s₃=>wpAny (model prog w) A (letTemporaryGo value o r >>=λZ=>pure r) Q E s₃) E s₂:=by
  rw[hs o i];exact wpAny_operating (cM h₂ (λr s₃ h₃=>bf (wpAny_letTemporaryGo (bo h₃))) λZ Z x=>x)
 first
  |exact bo (bf a)
  |exact bf (bo (bf a))
  |exact bf a
def ycj{σ:St}{H:Hp}{s:qa}{y:V}{o:Ψ}(I:Inv X pins σ H s)(g:Ĳ H a y o):s.TypeIs (.ref a) "dict":=by
 rcases g with⟨c,k,e,_,_⟩|⟨c,k,b,e,_,_,_⟩
 .obtain⟨_,_,f,_,d⟩:=ydj I.hok e;exact d.typeIs
 .obtain⟨_,_,h,_,d⟩:=yg1 I.hok e;exact d.typeIs
def vcl(td ty:TE):TE:=λσ H Q=>td σ H λx H1=>ty σ H1 λy H2=>∃a v,x=.ref a/\Ĳ H2 a y (some v)/\Q v H2
def vfy(ty td:TE):TE:=λσ H Q=>ty σ H λy H1=>td σ H1 λx H2=>∃a o,x=.ref a/\Ĳ H2 a y o/\Q (.bl o.isSome) H2
def yiy(ty td:TE):TE:=λσ H Q=>ty σ H λy H1=>td σ H1 λx H2=>∃a o,x=.ref a/\Ĳ H2 a y o/\Q (.bl (!o.isSome)) H2
def vbx(td ty tv:TE):TS:=λD σ H=>tv σ H λv H1=>td σ H1 λx H2=>ty σ H2 λy H3=>∃a H4,x=.ref a/\yla H3 a y v H4/\D.nx σ H4
section
variable{o i value:qg}{pos pos' tpos:Pos}{td ty tv:TE}
def uc(hu:X.A.units+1<cLine)(ho:PE X o td)(hi:PE X i ty)(hs:vfi i):PE X (.Subscript o i pos) (vcl td ty):=by refine .mk λb s σ H Q I h=>?_;refine yqw PySem.F.slot_dict_getitem.lookup hs (thn (ho b s σ H _ I h) λu r ⟨x,j,m,p,k⟩=>thn (hi b r σ j _ m k) λz w h'=>?_);let⟨y,n,d,l,a,v,e,g,f⟩:=h';subst e;obtain rfl:u=Value.ref a:=p;exists ycj d g,yit hu d g l λt B q c=>⟨v,n,q,c,f⟩
def vak(hu:X.A.units+1<cLine)(hi:PE X i ty)(ho:PE X o td):PC X .In i o (vfy ty td):=by intro b s σ H Q I h;refine thn (hi b s σ H _ I h) λv r ⟨y,j,m,l,k⟩=>thn (ho b r σ j _ m k) λu t h'=>?_;let⟨x,n,e,p,a,c,d,g,f⟩:=h';subst d;obtain rfl:u=Value.ref a:=p;exact vf5 hu e g l λw q=>⟨.bl c.isSome,n,q,rfl,f⟩
def Ê(hu:X.A.units+1<cLine)(hi:PE X i ty)(ho:PE X o td):PC X .NotIn i o (yiy ty td):=by intro b s σ H Q I h;refine thn (hi b s σ H _ I h) λv r ⟨y,j,m,l,k⟩=>thn (ho b r σ j _ m k) λu t h'=>?_;let⟨x,n,e,p,a,c,d,g,f⟩:=h';subst d;obtain rfl:u=Value.ref a:=p;exact yqu hu e g l λw q=>⟨.bl (!c.isSome),n,q,rfl,f⟩
def yah(hu:X.A.units+1<cLine)(ho:PE X o td)(hi:PE X i ty)(hv:PE X value tv)(hs:swapsWith value (some (.Subscript o i pos')) pos.line X.env=pure false):
  PS X (.Assign [.Subscript o i pos'] value pos) (vbx td ty tv):=by refine .mk λb s σ H D I h=>?_;refine wpAny_Assign_Subscript (thn (hv b s σ H _ I h) λr C ⟨v,c,e,z,d⟩=>thn (ho b C σ c _ e d) λu p ⟨x,n,l,B,w⟩=>thn (hi b p σ n _ l w) λG J h'=>?_) hs;let⟨y,F,j,m,a,f,t,g,q⟩:=h';subst t;obtain rfl:u=Value.ref a:=B;exact yhd hu j g m z λE k=>⟨σ,f,k,q⟩
end
def ym9{w:qd}{H:Hp}(h:qf)(hb:sysModules<h.objs.size):w9 P w H (h.push { cls:=.type "dict",data:=.dict #[]}) h.objs.size (.dK []) :=
 ⟨bJ _,cR.mpr (Ne.symm (bQ hb)),[],.nil,Heap.DictOf.new h⟩
def ynh{w:qd}{H:Hp}(h:qf)(hb:sysModules<h.objs.size):w9 P w H (h.push { cls:=.type "dict",data:=.dict #[]}) h.objs.size (.dT []) :=
 ⟨bJ _,cR.mpr (Ne.symm (bQ hb)),[],.nil,_,#[],0,bz _ rfl,⟨rfl,rfl,rfl⟩,rfl,rfl,List.nodup_nil⟩
def ypa:TE:=λZ H Q=>∀p,H p=none->Q (.ref p) (upd H p (.dK []))
def ype:TE:=λZ H Q=>∀p,H p=none->Q (.ref p) (upd H p (.dT []))
section
variable{pos:Pos}
def yd8:PE X (.Dict [] [] pos) ypa:=.mk λb s σ H Q I h =>
 wpAny_Dict_empty ⟨.ref s.heap.objs.size,_,I.laid (a:=s.heap.objs.size) (o:=.dK []) (t':=s.toks) (λZ Z q=>bi _ q) (bj _) (ym9 s.heap I.big),rfl,h _ (I.hok.fresh (bj _))⟩
def yd6:PE X (.Dict [] [] pos) ype:=.mk λb s σ H Q I h =>
 wpAny_Dict_empty ⟨.ref s.heap.objs.size,_,I.laid (a:=s.heap.objs.size) (o:=.dT []) (t':=s.toks) (λZ Z q=>bi _ q) (bj _) (ynh s.heap I.big),rfl,h _ (I.hok.fresh (bj _))⟩
end
structure M1(X:Cx)(o:qg)(m:Str)(apos:Pos)(e:qg)(cpos:Pos):Prop where
 base:attributeBase o m X.env (eval o X.env)=eval o X.env
 few:((backTo cpos (starEach [e] X.env)).all (λx=>!x.1) && (backToKw cpos (keywordEach [] X.env)).all (λx=>x.1.isSome)
  && decide (([e]:qi qg).length+([]:qi Keyword).length+(if ([]:qi Keyword).isEmpty then 0 else 1)<30))=true
 line:(apos.endLine == cpos.line)=true
 trees:backTo cpos (starEach [e] X.env)=[(false,eval e X.env)]
structure M2(X:Cx)(o:qg)(m:Str)(apos:Pos)(e f:qg)(cpos:Pos):Prop where
 base:attributeBase o m X.env (eval o X.env)=eval o X.env
 few:((backTo cpos (starEach [e,f] X.env)).all (λx=>!x.1) && (backToKw cpos (keywordEach [] X.env)).all (λx=>x.1.isSome)
  && decide (([e,f]:qi qg).length+([]:qi Keyword).length+(if ([]:qi Keyword).isEmpty then 0 else 1)<30))=true
 line:(apos.endLine == cpos.line)=true
 trees:backTo cpos (starEach [e,f] X.env)=[(false,eval e X.env),(false,eval f X.env)]
def IsD(H:Hp)(a:x0):Prop:=(∃kvs,Rd H a (.dK kvs))\/∃kvs,Rd H a (.dT kvs)
def yz0{σ:St}{H:Hp}{s:qa}(I:Inv X pins σ H s)(d:IsD H a):
  s.TypeIs (.ref a) "dict"/\(∀b,Value.ref a=.ref b->∃ob,s.heap.get? b=some ob/\ob.dict=none)/\(a == sysModules)=false:=by
 rcases d with⟨f,e⟩|⟨f,e⟩
 .obtain⟨_,i,j,_,c⟩:=ydj I.hok e;exists c.typeIs,λb q=>?_,i;cases q;let⟨ob,_,_,h,g,_⟩:=c;exact⟨ob,h,g.2.1⟩
 .obtain⟨_,i,k,_,c⟩:=yg1 I.hok e;exists c.typeIs,λb q=>?_,i;cases q;let⟨ob,_,_,h,g,_⟩:=c;exact⟨ob,h,g.2.1⟩
def yph(td ty:TE):TE:=λσ H Q=>td σ H λx H1=>∃a,x=.ref a/\IsD H1 a/\ty σ H1 λy H2=>∃kvs k v,H2 a=some (.dK kvs)/\y=kV k/\zn kvs k=some v/\Q v (upd H2 a (.dK (Ø kvs k)))
section
variable{o f:qg}{apos cpos:Pos}{td ty tx:TE}
def yec(ho:PE X o td)(he:PE X e ty)(m:M1 X o "pop" apos e cpos):PE X (.Call (.Attribute o "pop" apos) [e] [] cpos) (yph td ty):=by refine .mk λb s σ H Q I h=>?_;refine wpAny_Call_method m.base m.few m.line PySem.F.plainAttrs_dict PySem.F.slot_dict_pop PySem.F.type_dict_pop (thn (ho b s σ H _ I h) λu C h'=>?_);let⟨x,g,f,A,a,t,d,i⟩:=h';subst t;obtain rfl:u=Value.ref a:=A;let⟨z,D,_⟩:=yz0 f d;exists z,D,?_;rw[m.trees];refine Calls.callWith_builtin rfl (Calls.evalArgs_plain (Calls.spliced_cons (thn (he b C σ g _ f i) λK J ⟨y,G,p,q,n,k,v,r,B,l,w⟩=>Calls.spliced_nil ?_)));subst B;exact vds p r q l (.inl rfl) λE L j c=>⟨v,_,j,c,w⟩
end
@[irreducible] def QE(X:Cx)(e:qg)(t:TE):Prop:=PE X e t
@[irreducible] def QSs(X:Cx)(st:qi qc)(t:TS):Prop:=PSs X st t
@[irreducible] def QS(X:Cx)(st:qc)(t:TS):Prop:=PS X st t
section
variable{te:TE}{pos:Pos}{ts us:TS}{st:qc}{Ā:qi qc}
def yh{R:TS->Prop}(h1:PS X st ts)(h2:∃us,PSs X Ā us/\R (vet ts us)):∃t,PSs X (st::Ā) t/\R t:=let ⟨_,a,b⟩:=h2;⟨_,ye h1 a,b⟩
end
theorem ž:∀{bs:qi Bool}{us:Ο},wu (bs.map V.bl) us->us=bs.map Value.bool
 |[],_,.nil=>rfl
 |b::r,_,.cons a t=>by rw[show _=Value.bool b from a,ž t];rfl
def yhq(bs:qi Bool):((List.range bs.length).all λi=>(bs[i]?).getD true)=bs.all id:=by
 rw[Bool.eq_iff_iff,List.all_eq_true,List.all_eq_true]
 constructor
 .intro h b c;let⟨i,a,rfl⟩:=List.getElem_of_mem c;have:=h i (cz.mpr a);rw[bg a]at this;exact this
 .intro h i a;have a:=cz.mp a;rw[bg a];exact h _ (cc a)
def j5(hc:X.calm=true):zi X (.builtin "all") (λxs H Q=>∃p bs,xs=[.ref p]/\SqL X.K H p (List.map V.bl bs)/\Q (.bl (bs.all id)) H):=by
 intro g s σ H xs z Q I r h;let⟨p,bs,rfl,k,q⟩:=h;let⟨u,rfl,w⟩:=γ r;cases w;let⟨n,j,m,D⟩:=I.list k;obtain rfl:=ž j;have d:=m.isList;have f:p<s.heap.objs.size:=by let⟨_,e,_⟩:=d;exact bw e
 refine call_all_walk (wpAny_pyIter_list d ?_)
 refine⟨s.heap.objs.size,[s.heap.objs.size,p],[s.heap.objs.size],(bs.map Value.bool).toArray.size,_,_,λi=>(bs[i]?).getD true,rfl,Walks.list (A:=X.A.in1) (show X.A.handled=none from I.ok.hd hc) _ p (bQ f) (bs.map Value.bool).toArray,
  ⟨⟨_,bz _ rfl,rfl,rfl⟩,d.push _⟩,λi v y E C a c=>?_,λB o l=>?_⟩
 .have a:(bs.map Value.bool)[i]?=some v:=by simpa using a
  rw[bn]at a
  cases e:bs[i]? with
  |none=>rw[e]at a;cases a
  |some b =>
   dsimp only at c;rw[e]at a c;cases a;exact cD c
 .have e:((List.range (bs.map Value.bool).toArray.size).all λi=>(bs[i]?).getD true)=bs.all id:=by
   rw[bx,be];exact yhq bs
  rw[e];exists .bl (bs.all id),H,I.kept (t':=o) λb x e=>l b x (λt=>?_) (bi _ e),rfl,q;rw[bE.mp t]at e;exact cP _ (bw e)
set_option tactic.hygienic true in
theorem zq{env:Env}:∀{names:qi (Str×NameKind)}{x:Str}{k:NameKind},
  (names.map λ(n,k)=>if (k == NameKind.free && env.scope.kind == .function && env.kindOf n == some .cell)then (n,NameKind.cell)else (n,k)).lookup x=some k->∃k0,(x,k0)∈names/\(k=k0\/k0=.free)
 |[],_,_,h=>by simp at h
 |(n,k1)::r,x,k,h=>by
  rw[bT]at h;by_cases hx:x=n
  .subst hx;exists k1,.head _,?_;dsimp only at h
   split at h
   .rename_i hc
    simp only[bV,beq_iff_eq]at hc;exact .inr hc.1.1
   .simp[List.lookup]at h;exact .inl h.symm
  .have:(x == n)=false:=by simpa using hx
   have a:(r.map λ(n,k)=>if (k == NameKind.free && env.scope.kind == .function && env.kindOf n == some .cell)then (n,NameKind.cell)else (n,k)).lookup x=some k:=by
    dsimp only at h
    split at h<;>simpa[List.lookup,this]using h
   let⟨k0,m,q⟩:=zq a;exists k0,.tail _ m,q
def ñ(ys:Τ)(env:Env):qi (Str×x0):=ys.map λy=>(y,(env.cells.lookup y).getD 0)
theorem ydt{env:Env}:∀{ys:Τ}{y:Str}{c:x0},(ñ ys env).lookup y=some c->y∈ys/\c=(env.cells.lookup y).getD 0
 |[],_,_,h=>by simp[ñ]at h
 |z::r,y,c,h=>by
  by_cases hy:y=z
  .subst hy;simp[ñ,List.lookup]at h;exists .head _,h.symm
  .have a:(y == z)=false:=by simpa using hy
   have b:(ñ r env).lookup y=some c:=by simpa[ñ,List.lookup,a]using h
   let⟨m,e⟩:=ydt b;exists .tail _ m,e
theorem Ÿ{env:Env}:∀{ys:Τ}{y:Str},y∈ys->(ñ ys env).lookup y=some ((env.cells.lookup y).getD 0)
 |z::r,y,h=>by
  by_cases hy:y=z
  .subst hy;simp[ñ,List.lookup]
  .have a:(y == z)=false:=by simpa using hy
   have b:y∈r:=by
    rcases bB.mp h with q|q
    .exact absurd q hy
    .exact q
   have:=Ÿ (env:=env) b;simpa[ñ,List.lookup,a]using this
abbrev Cx.compF(X:Cx)(scope:Scope)(ys:Τ)(C:x0)(x:Str)(s2:qa)(H2:Hp)(fp:Χ):Cx :=
 {X with N:=x::ys,s₀:=s2,H₀:=H2,env:=compEnvC scope (ñ ys X.env) C X.env,outer:=X.stack,ex:=fp,fn:=λZ=>false,pn:=[],xe:=λZ Z=>False}
def za(J:It)(te:TE)(fr:St)(D:x0)(R:Hp->Prop)(H1:Hp):Prop:=∃W:Nat->Nat->Hp->Prop,(∃m,W 0 m (upd H1 D (.lst [])))/\
 ∀i m H2,W i m H2->(J.stop i H2/\R H2)\/(J.go i H2/\∀x H3,J.yld i H2 x H3->te (some x::fr) H3 λy H4=>∃ys,H4 D=some (.lst ys)/\ys.length<sizeLine/\∃m',m'<m/\W (i+1) m' (upd H4 D (.lst (ys++[y]))))
def ud(js:qi Nat)(σ:St):St:=js.map λj=>(σ[j]?).getD none
def ykv(wi:TI)(te:TE)(js:qi Nat):TE:=λσ H Q=>wi σ H λJ H1=>∀D,H1 D=none->za J te (ud js σ) D (λH2=>Q (.ref D) H2) H1
section
variable{iter elt:qg}{x:Str}{px pos:Pos}{te:TE}{wi:TI}{σ:St}{ys:Τ}{js:qi Nat}
def yse{H:Hp}{Q:VK}(h:wi σ H λJ H1=>∀D,H1 D=none->za J te (ud js σ) D (λH2=>Q (.ref D) H2) H1):ykv wi te js σ H Q:=h
def j3{K:xr}{D:x0}{xs:Υ}{fr:St}{R:Hp->Prop}{H1:Hp}(Pv:Nat->Hp->Prop)(h0:Pv 0 (upd H1 D (.lst [])))(hl:∀i H,i<=xs.length->Pv i H->SqL K H a xs)
  (hs:∀i x H,xs[i]?=some x->i<xs.length->Pv i H->te (some x::fr) H λy H4=>∃ys,H4 D=some (.lst ys)/\ys.length<sizeLine/\∃m',m'<xs.length-i/\cW xs.length Pv (i+1) m' (upd H4 D (.lst (ys++[y]))))
  (hd:∀H,Pv xs.length H->R H):za (Itl K a) te fr D R H1:=by
 exists cW xs.length Pv,⟨xs.length,by simp,bJ _,h0⟩,?_;rintro i m H ⟨rfl,b,p⟩;have q:=hl i H b p;by_cases hlt:i<xs.length
 .refine .inr ⟨⟨xs,xs[i],q,by simp[hlt]⟩,λx c y=>?_⟩;let⟨e,y⟩:=y;subst e;exact hs i x _ (y xs q) hlt p
 .have e:i=xs.length:=by omega
  subst e;exact .inl ⟨⟨xs,q,bj _⟩,hd H p⟩
def ycb{lo:Int}{n:Nat}{D:x0}{fr:St}{R:Hp->Prop}{H1:Hp}(Pv:Nat->Hp->Prop)(h0:Pv 0 (upd H1 D (.lst [])))
  (hs:∀i H,i<n->Pv i H->te (some (.int (lo+i))::fr) H λy H4=>∃ys,H4 D=some (.lst ys)/\ys.length<sizeLine/\∃m',m'<n-i/\cW n Pv (i+1) m' (upd H4 D (.lst (ys++[y]))))
  (hd:∀H,Pv n H->R H):za (Itr lo n) te fr D R H1:=by
 exists cW n Pv,⟨n,by simp,bJ _,h0⟩,?_;rintro i m H ⟨rfl,b,p⟩;by_cases hlt:i<n
 .refine .inr ⟨hlt,λx a y=>?_⟩;let⟨e,y⟩:=y;subst e y;exact hs i _ hlt p
 .have e:i=n:=by omega
  subst e;exact .inl ⟨bj _,hd H p⟩
end
end L2
namespace L2
def yt{α:Type}{P:α->Prop}:∀y∈([]:qi α),P y:=λZ h=>nomatch h
def all_cons{α:Type}{P:α->Prop}{y:α}{r:qi α}(h:P y)(t:∀z∈r,P z):∀z∈y::r,P z:=λz a=>by
 rcases bB.mp a with e|a
 .exact e ▸ h
 .exact t z a
end L2
namespace L2
open PySem PySem.Spec PyProof.Rows
section
variable{X:Cx}
theorem Ž:∀{ns:Ρ}{us:Ο},wu (ns.map V.int) us->∃xs:Array (Int×Tok),us.toArray=intItems xs/\xs.toList.map (·.1)=ns
 |[],_,.nil=>⟨#[],by simp[intItems],rfl⟩
 |n::r,_,.cons (l₂:=us) a t=>by
  let⟨d,rfl⟩:=a;let⟨xs,c,b⟩:=Ž t;exists((n,d)::xs.toList).toArray,?_,by simp[b]
  have:us=(intItems xs).toList:=by rw[<- c]
  rw[this];simp[intItems]
def Ì(hc:X.calm=true):zi X (.builtin "sum") (λvs H Q=>∃p ns,vs=[.ref p]/\SqL X.K H p (List.map V.int ns)/\Q (.int ns.sum) H):=by intro a s σ H o t Q I r h;let⟨p,ns,rfl,g,q⟩:=h;let⟨u,rfl,m⟩:=γ r;cases m;let⟨j,d,i,n⟩:=I.list g;let⟨b,c,l⟩:=Ž d;have f:s.heap.IsList p (intItems b):=c ▸ i.isList;refine sum_intListG (I.ok.hd hc) f λv e t' k=>?_;rw[preSum_eq,cm (by simp),l];exists .int ns.sum,H,I.kept (t':=e) k,⟨_,rfl⟩,q
end
variable{it:x0}{fp:Χ}{i:Nat}{tn:Nat->qf->Prop}{s2:qa}
section
variable{X:Cx}{e:qg}{t1 t2:TE}
def yn0(t1 t2:TE):TE:=λσ H Q=>t1 σ H Q\/t2 σ H Q
def Ŗ(h1:PE X e t1)(h2:PE X e t2):PE X e (yn0 t1 t2):=by
 refine .mk λa s σ H Q I h=>?_;rcases h with h|h
 .exact h1 a s σ H Q I h
 .exact h2 a s σ H Q I h
def ś{σ:St}{H:Hp}{Q:VK}(h:t1 σ H Q):yn0 t1 t2 σ H Q:=.inl h
def Ö{σ:St}{H:Hp}{Q:VK}(h:t2 σ H Q):yn0 t1 t2 σ H Q:=.inr h
end
def y8{H:Hp}{p:x0}{o:HO}{A:Hp->Prop}(hp:H p=none)(h:∀H',yv H H'->H' p=some o->A H'):A (upd H p o):=h _ (y7 hp) ya
def yu{α:Type}{H:Hp}{p:x0}{o:HO}{A:Hp->α->Prop}{Q:α}(hp:H p=none)(h:∀H',yv H H'->H' p=some o->A H' Q):A (upd H p o) Q:=h _ (y7 hp) ya
section
variable{K:xr}{a D:x0}{xs:Υ}{te:TE}{fr:St}{R:Hp->Prop}{H1:Hp}
def ybm(Pv:Nat->Hp->Prop)(h0:Pv 0 (upd H1 D (.lst [])))(hl:∀i H,i<=xs.length->Pv i H->SqT K H a xs)
  (hs:∀i x H,xs[i]?=some x->i<xs.length->Pv i H->te (some x::fr) H λy H4=>∃ys,H4 D=some (.lst ys)/\ys.length<sizeLine/\∃m',m'<xs.length-i/\cW xs.length Pv (i+1) m' (upd H4 D (.lst (ys++[y]))))
  (hd:∀H,Pv xs.length H->R H):za (Itt K a) te fr D R H1:=by
 exists cW xs.length Pv,⟨xs.length,by simp,bJ _,h0⟩,?_;rintro i m H ⟨rfl,b,p⟩;have q:=hl i H b p;by_cases hlt:i<xs.length
 .refine .inr ⟨⟨xs,xs[i],q,by simp[hlt]⟩,λx c y=>?_⟩;let⟨e,y⟩:=y;subst e;exact hs i x _ (y xs q) hlt p
 .have e:i=xs.length:=by omega
  subst e;exact .inl ⟨⟨xs,q,bj _⟩,hd H p⟩
def ymd(Pv:Nat->Hp->Prop)(h0:Pv 0 (upd H1 D (.lst [])))(hl:∀i H,i<=xs.length->Pv i H->SqT K H a xs)
  (hs:∀i x H,xs[i]?=some x->i<xs.length->Pv i H->te [some x] H λy H4=>∃ys,H4 D=some (.lst ys)/\ys.length<sizeLine/\∃m',m'<xs.length-i/\cW xs.length Pv (i+1) m' (upd H4 D (.lst (ys++[y]))))
  (hd:∀H,Pv xs.length H->R H):yew (Itt K a) te D R H1:=by
 exists cW xs.length Pv,⟨xs.length,by simp,bJ _,h0⟩,?_;rintro i m H ⟨rfl,b,p⟩;have q:=hl i H b p;by_cases hlt:i<xs.length
 .refine .inr ⟨⟨xs,xs[i],q,by simp[hlt]⟩,λx c y=>?_⟩;let⟨e,y⟩:=y;subst e;exact hs i x _ (y xs q) hlt p
 .have e:i=xs.length:=by omega
  subst e;exact .inl ⟨⟨xs,q,bj _⟩,hd H p⟩
def Mp(H1:Hp)(D:x0)(f:Nat->V)(i:Nat)(H:Hp):Prop:=yv H1 H/\H D=some (.lst ((List.range i).map f))
def Mp.zero{f:Nat->V}(hD:H1 D=none):Mp H1 D f 0 (upd H1 D (.lst [])):=⟨y7 hD,ya⟩
def Mp.step{f:Nat->V}{n:Nat}{H4:Hp}{y:V}(hD:H1 D=none)(hn:n<sizeLine)(hi:i<n)(S:yv H1 H4)(h4:H4 D=some (.lst ((List.range i).map f)))(e:y=f i):
  ∃ys,H4 D=some (.lst ys)/\ys.length<sizeLine/\∃m',m'<n-i/\cW n (Mp H1 D f) (i+1) m' (upd H4 D (.lst (ys++[y]))):=by
 refine we (n:=n) h4 (by rw[be,bU];omega) hi ⟨?_,?_⟩
 .intro b o a;rw[yk (yb a hD)];exact S b o a
 .rw[ya,List.range_succ,bF,e];rfl
def Ě{f:Nat->V}{g:V->V}(h:∀i x,xs[i]?=some x->f i=g x):(List.range xs.length).map f=xs.map g:=by
 refine List.ext_getElem? λi=>?_;rw[bn,bn];by_cases hi:i<xs.length
 .rw[cE hi,bg hi];show some (f i)=some (g xs[i]);rw[h i _ (bg hi)]
 .rw[ce (by rw[bU];omega),ce (by omega)];rfl
def ofG(g:V->V)(xs:Υ)(i:Nat):V:=((xs[i]?).map g).getD .non
def yfd{g:V->V}{x:V}(h:xs[i]?=some x):ofG g xs i=g x:=by unfold ofG;rw[h];rfl
def MpK(H1:Hp)(D:x0)(f:Nat->V)(n i:Nat):VK:=λy H4=>∃ys,H4 D=some (.lst ys)/\ys.length<sizeLine/\∃m',m'<n-i/\cW n (Mp H1 D f) (i+1) m' (upd H4 D (.lst (ys++[y])))
def Mp.done{g:V->V}{x y:V}{H4:Hp}(hD:H1 D=none)(hn:xs.length<sizeLine)(hx:xs[i]?=some x)(S:yv H1 H4)(h4:H4 D=some (.lst ((List.range i).map (ofG g xs))))(e:y=g x):MpK H1 D (ofG g xs) xs.length i y H4:=by
 have a:i<xs.length:=by
  rcases Nat.lt_or_ge i xs.length with q|q
  .exact q
  .rw[ce q]at hx;cases hx
 exact Mp.step hD hn a S h4 (e.trans (yfd hx).symm)
def Mp.doneR{f:Nat->V}{n:Nat}{y:V}{H4:Hp}(hD:H1 D=none)(hn:n<sizeLine)(hi:i<n)(S:yv H1 H4)(h4:H4 D=some (.lst ((List.range i).map f)))(e:y=f i):MpK H1 D f n i y H4:=Mp.step hD hn hi S h4 e
def z9(g:V->V)(hq:SqL K H1 a xs)(hD:H1 D=none)
  (hs:∀i x H,xs[i]?=some x->yv H1 H->H D=some (.lst ((List.range i).map (ofG g xs)))->te (some x::fr) H (MpK H1 D (ofG g xs) xs.length i))
  (hd:∀H,yv H1 H->H D=some (.lst (xs.map g))->R H):za (Itl K a) te fr D R H1 :=
 j3 (Mp H1 D (ofG g xs)) (Mp.zero hD) (λZ Z Z p=>p.1.seq hq) (λi x H b c p=>hs i x H b p.1 p.2)
  λH p=>hd H p.1 (by rw[<- Ě (f:=ofG g xs) λi x=>yfd];exact p.2)
def Ň(g:V->V)(hq:SqT K H1 a xs)(hD:H1 D=none)
  (hs:∀i x H,xs[i]?=some x->yv H1 H->H D=some (.lst ((List.range i).map (ofG g xs)))->te (some x::fr) H (MpK H1 D (ofG g xs) xs.length i))
  (hd:∀H,yv H1 H->H D=some (.lst (xs.map g))->R H):za (Itt K a) te fr D R H1 :=
 ybm (Mp H1 D (ofG g xs)) (Mp.zero hD) (λZ Z Z p=>p.1.tup hq) (λi x H b c p=>hs i x H b p.1 p.2)
  λH p=>hd H p.1 (by rw[<- Ě (f:=ofG g xs) λi x=>yfd];exact p.2)
def yho(g:V->V)(hq:SqT K H1 a xs)(hD:H1 D=none)
  (hs:∀i x H,xs[i]?=some x->yv H1 H->H D=some (.lst ((List.range i).map (ofG g xs)))->te [some x] H (MpK H1 D (ofG g xs) xs.length i))
  (hd:∀H,yv H1 H->H D=some (.lst (xs.map g))->R H):yew (Itt K a) te D R H1 :=
 ymd (Mp H1 D (ofG g xs)) (Mp.zero hD) (λZ Z Z p=>p.1.tup hq) (λi x H b c p=>hs i x H b p.1 p.2)
  λH p=>hd H p.1 (by rw[<- Ě (f:=ofG g xs) λi x=>yfd];exact p.2)
def ya4{lo:Int}{n:Nat}(f:Nat->V)(hD:H1 D=none)
  (hs:∀i H,i<n->yv H1 H->H D=some (.lst ((List.range i).map f))->te (some (.int (lo+i))::fr) H (MpK H1 D f n i))
  (hd:∀H,yv H1 H->H D=some (.lst ((List.range n).map f))->R H):za (Itr lo n) te fr D R H1 :=
 ycb (Mp H1 D f) (Mp.zero hD) (λi H a p=>hs i H a p.1 p.2) λH p=>hd H p.1 p.2
def ysj{tr:TA}{σ:St}{H:Hp}{R:It->Hp->Prop}(h:tr σ H λvs H1=>∃i j:Int,vs=[.int i,.int j]/\(-(2^62)<=i/\i<2^62/\-(2^62)<=j/\j<2^62)/\R (Itr i (j-i).toNat) H1):vb2 tr σ H R:=h
end
structure Mk0(K:xr)(C:x0):Prop where
 makes:W.makesIn K C=true
 init:W.findIn K (.ref C) "__init__"=some (some (.builtin "object.__init__"))
 kp:W.keepIn K (.ref C)=true
abbrev Cx.compT(X:Cx)(scope:Scope)(ys:Τ)(C:x0)(xs:Τ)(s2:qa)(H2:Hp)(fp:Χ):Cx :=
 {X with N:=xs++ys,s₀:=s2,H₀:=H2,env:=compEnvC scope (ñ ys X.env) C X.env,outer:=X.stack,ex:=fp,fn:=λZ=>false,pn:=[],xe:=λZ Z=>False}
variable{X:Cx}
def ju(J:It)(g:TG)(te:TE)(n:Nat)(fr:St)(D:x0)(R:Hp->Prop)(H1:Hp):Prop:=∃W:Nat->Nat->Hp->Prop,(∃m,W 0 m (upd H1 D (.lst [])))/\
 ∀i m H2,W i m H2->(J.stop i H2/\R H2)\/(J.go i H2/\∀x H3 pre,J.yld i H2 x H3->List.length pre=n->g x (pre++fr) H3 λσ' H'=>(∃pre',List.length pre'=n/\σ'=pre'++fr)/\te σ' H' λy H4=>∃ys,H4 D=some (.lst ys)/\ys.length<sizeLine/\∃m',m'<m/\W (i+1) m' (upd H4 D (.lst (ys++[y]))))
def yj0(wi:TI)(g:TG)(te:TE)(n:Nat)(js:qi Nat):TE:=λσ H Q=>wi σ H λJ H1=>∀D,H1 D=none->ju J g te n (ud js σ) D (λH2=>Q (.ref D) H2) H1
def PTs(X:Cx)(ifs:qi qg)(t:TT):Prop:=∀(pins:Θ)(s:qa)(σ:St)(H:Hp)(Q:Bool->Hp->Prop),Inv X pins σ H s->t σ H Q ->
 wpAny (model X.prog X.w) X.A (forIn ifs true λc r=>if r=true then do let ok <- isTrue c X.env (eval c X.env);pure (ForInStep.yield ok)else pure (ForInStep.yield r)) (TP X pins σ Q) X.xe s
def vfw:TT:=λZ H Q=>Q true H
def yq3:PTs X [] vfw:=λZ Z σ H Z I h=>bo ⟨H,I,h⟩
def yqs{c:qg}{t:TT}(h:PT X c t):PTs X [c] t:=λa s σ H Q I q=>wpAny_tests_one (h a s σ H Q I q)
def yiv(J:It)(g:TG)(tt:TT)(te:TE)(n:Nat)(fr:St)(D:x0)(R:Hp->Prop)(H1:Hp):Prop:=∃W:Nat->Nat->Hp->Prop,(∃m,W 0 m (upd H1 D (.lst [])))/\
 ∀i m H2,W i m H2->(J.stop i H2/\R H2)\/(J.go i H2/\∀x H3 pre,J.yld i H2 x H3->List.length pre=n->g x (pre++fr) H3 λσ' H'=>(∃pre',List.length pre'=n/\σ'=pre'++fr)/\tt σ' H' λb H4=>if b=true then te σ' H4 (λy H5=>∃ys,H5 D=some (.lst ys)/\ys.length<sizeLine/\∃m',m'<m/\W (i+1) m' (upd H5 D (.lst (ys++[y]))))else ∃m',m'<m/\W (i+1) m' H4)
section
variable{iter elt tg:qg}{xs:Τ}{g:TG}{pos:Pos}{scope:Scope}{te:TE}{wi:TI}{ifs:qi qg}{tt:TT}{pins:Θ}{σ:St}{ys:Τ}{js:qi Nat}
def Ō{H2:Hp}{J:It}(hc:X.calm=true)
  (ht:∀(C:x0)(s2:qa)(H2:Hp)(fp:Χ),PTs (X.compT scope ys C xs s2 H2 fp) ifs tt) (he:∀(C:x0)(s2:qa)(H2:Hp)(fp:Χ),PE (X.compT scope ys C xs s2 H2 fp) elt te)
  (hgt:∀(C:x0)(s2:qa)(H2:Hp)(fp:Χ),PG (X.compT scope ys C xs s2 H2 fp) tg g)
  (hcell:∀y∈scope.names,y.2≠.cell) (hkind:scope.kind=.function)
  (hfr:∀y∈scope.names,y.2=.free->y.1∈ys) (hyc:∀y∈ys,X.env.kindOf y=some .cell) (hrel:∀y∈ys,(relabel scope X.env).names.lookup y=some .cell) (hjs:js.map (λj=>X.N[j]?)=ys.map some)
  (I2:Inv X pins σ H2 s2) (T:yfi X.prog X.w X.K tg J fp it tn) (st2:tn 0 s2.heap) (f2:∀b∈fp,yb9 X pins H2 b)
  {R:x0->Hp->Prop} (h:∀D,H2 D=none->yiv J g tt te xs.length (ud js σ) D (R D) H2) {RR:qb->x0->Result->qa->Prop} {E:Δ}
  (hR:∀(D C:x0)(H':Hp)(s':qa)(m:Ε),yb9 X pins H' C->s'.heap.Ns C m->Inv X pins σ H' s'->R D H'->RR (.ref D) C (.ok .next) s'):
  wpAny (model X.prog X.w) X.A (newList []) (λacc s₃=>wpAny (model X.prog X.w) X.A (newFunctionEnv scope X.env.globals (ñ ys X.env) [] X.env.qual none .none (some X.env)) (λcenv s₄ =>
   codeAny (model X.prog X.w) X.A (.compStart (.ListComp elt [⟨tg,iter,ifs,0⟩] scope pos) 0 (.ref it) acc {cenv with scope:=relabel scope X.env}) (RR acc cenv.locals) s₄) E s₃) E s2:=by
 have k:∀y c,(ñ ys X.env).lookup y=some c->X.env.cells.lookup y=some c:=λy c e=>by
  let⟨m,rfl⟩:=ydt e;let⟨c',q⟩:=I2.ok.has y (.inl (hyc y m));rw[q];rfl
 refine wpAny_newObj_type (wpAny_newFunctionEnv hcell (by intro y hy;simp at hy) (λh₁ hns₁ hsb₁=>?_) hkind);dsimp only at hns₁ hsb₁⊢;generalize Z:s2.heap.push { cls:=.type "list",dict:=none,data:=.seq ([]:Ο).toArray}=G at hns₁ hsb₁⊢;have hC:G.objs.size=s2.heap.objs.size+1:=by rw[<- Z,Heap.size_push]
 have a3:s2.heap.objs.size≠G.objs.size:=by rw[hC];exact bQ (Nat.lt_succ_self _)
 have M:s2.heap.objs.size<=G.objs.size:=by rw[hC];exact Nat.le_succ _
 have f:∀b,b<s2.heap.objs.size->b≠G.objs.size/\b≠s2.heap.objs.size:=λb a=>⟨by rw[hC];exact bQ (Nat.lt_succ_of_lt a),bQ a⟩;have F:∀b o,s2.heap.get? b=some o->h₁.get? b=some o:=λb o e=>hsb₁.extBut b o (f b (bw e)).1 (bi _ (Z ▸ bi _ e));have a0:h₁.get? s2.heap.objs.size=some { cls:=.type "list",data:=.seq ([]:Ο).toArray}:=hsb₁.extBut _ _ a3 (bi _ (Z ▸ bz _ rfl));have U:∀b∈fp,b<s2.heap.objs.size:=λb a=>let ⟨_,e,_⟩:=T.obj 0 _ st2 b a;bw e;have a4:∀b∈fp,b∉frs X.stack:=λb a z=>(bB.mp (I2.stkSub b z)).elim (f2 b a).2.1 (f2 b a).2.2.1;have nC:H2 G.objs.size=none:=I2.hok.fresh M;have nD:H2 s2.heap.objs.size=none:=I2.hok.fresh (bj _)
 have t:∀y c,(ñ ys X.env).lookup y=some c->∃v o,s2.heap.get? c=some o/\o.data=.cell v:=λy c e=>by
  let⟨v,o,q1,q2⟩:=I2.cell y c (k y c e);exact⟨v,o,q1,q2⟩
 have ac:(X.compT scope ys G.objs.size xs s2 H2 fp).Ok:=by
  exists I2.ok.mod,hkind,I2.ok.glob,I2.ok.blt,M,λy z c e Y=>I2.ok.inj y z c (k y c e) (k z c Y),λy e=>?_,λy c z e=>(by cases z),I2.ok.hd,I2.ok.frames,.inl rfl,λb a=>⟨(f b (U b a)).1,λy c e=>(f2 b a).2.2.2.2.1 y c (k y c e)⟩,I2.bs,?_,λb o e a=>?_,λb a=>a4 b a,I2.stack,I2.stkFree
  .have Y:(relabel scope X.env).names.lookup y=some .cell\/(relabel scope X.env).names.lookup y=some .free:=e
   have a8:y∈ys:=by
    rcases Y with Y|Y
    .obtain⟨k0,m,q⟩:=zq Y;rcases q with q|q
     .exact absurd q.symm (hcell _ m)
     .exact hfr _ m q
    .obtain⟨k0,m,q⟩:=zq Y;rcases q with q|q
     .exact hfr _ m q.symm
     .exact hfr _ m q
   exists _,Ÿ a8
  .exact bP I2.ok.bsz I2.sz
  .rcases (f2 b a).2.2.2.1 with z|z
   .exact I2.ok.noex b o e z
   .exact absurd (bZ (bw (I2.ok.bs b o e).1) z) (cP _)
 have a7:(ud js σ).length=ys.length:=by
  have:=congrArg List.length hjs;simpa[ud]using this
 have I3:∀tk,Inv (X.compT scope ys G.objs.size xs s2 H2 fp) [] (List.replicate xs.length none++ud js σ) (upd H2 s2.heap.objs.size (.lst [])) {s2 with heap:=h₁,toks:=tk}:=λtk =>
  ⟨ac,rfl,I2.bare,Un.laid F (bj _) nD,⟨_,hns₁,λi y v e1 P e3=>by
    by_cases hi0:i<xs.length
    .rw[List.getElem?_append_left (by simpa using hi0),List.getElem?_replicate,if_pos hi0]at P;cases P
    .obtain⟨i,rfl⟩:∃i',i=xs.length+i':=⟨i-xs.length,by omega⟩;have e1:ys[i]?=some y:=by rw[cI (by omega)]at e1;simpa using e1
     have P:(ud js σ)[i]?=some (some v):=by rw[cI (by simp)]at P;simpa using P
     have hy:y∈ys:=bA e1;have S:=congrArg (λl=>l[i]?) hjs;simp only[bn,e1,cN]at S
     cases q:js[i]? with
     |none=>rw[q]at S;cases S
     |some j =>
      rw[q]at S;have S:X.N[j]?=some y:=by simpa using S
      have es:σ[j]?=some (some v):=by
       simp only[ud,bn,q,cN,Option.some.injEq]at P
       cases r:σ[j]? with
       |none=>rw[r]at P;cases P
       |some w'=>rw[r]at P;rw[show w'=some v from P]
      let⟨m0,_,a9⟩:=I2.loc;let⟨u,ru,lk⟩:=a9 j y v S es (.inr (.inl (hyc y hy)));exists u,ru,.inr ⟨.inl (hrel y hy),?_⟩;rcases lk with⟨k1,_⟩|⟨_,c,ec,o,ho,hd⟩
      .rw[hyc y hy]at k1;cases k1
      .exists c,?_,o,F c o ho,hd;show (ñ ys X.env).lookup y=some c;rw[Ÿ hy,ec]
       rfl⟩,λy c e=>(by
    let⟨v,o,q1,q2⟩:=t y c e
    exact⟨v,o,F c o q1,q2⟩),(by show upd H2 s2.heap.objs.size _ G.objs.size=none;rw[yk a3.symm];exact nC),λy c e=>(by
    let⟨v,o,q1,q2⟩:=t y c e;show upd H2 s2.heap.objs.size _ c=none;rw[yk (f c (bw q1)).2]
    exact I2.freeC y c (k y c e)),λp hp=>(by simp at hp),
   I2.hok.laid F (bj _) ⟨bJ _,[],_,.nil,a0⟩,by show (List.replicate xs.length none++ud js σ).length=(xs++ys).length;simp[a7]⟩
 have L:∀{H':Hp},(∀b∈fp,H' b=none)->∀b∈fp,yb9 (X.compT scope ys G.objs.size xs s2 H2 fp) [] H' b:=λhn b a=>⟨hn b a,(f b (U b a)).1,a4 b a,.inl a,λy c e=>(f2 b a).2.2.2.2.1 y c (k y c e),λp hp=>(by simp at hp)⟩
 have Q:∀tk,codeAny (model X.prog X.w) X.A (.compLoop (.ListComp elt [⟨tg,iter,ifs,0⟩] scope pos) 0 (.ref it) (.ref s2.heap.objs.size) (compEnvC scope (ñ ys X.env) G.objs.size X.env)) (RR (.ref s2.heap.objs.size) G.objs.size) {s2 with heap:=h₁,toks:=tk}:=by
  intro tk;let⟨W,⟨m0,w0⟩,a1⟩:=h s2.heap.objs.size nD;refine codeAny_loop rfl (λn s'=>∃i v H',List.length v=xs.length/\Inv (X.compT scope ys G.objs.size xs s2 H2 fp) [] (v++ud js σ) H' s'/\tn i s'.heap/\(∀b∈fp,H' b=none)/\W i n H') (λn s' hI=>?_) m0
   ⟨0,List.replicate xs.length none,_,by simp,I3 tk,T.keep 0 _ _ st2 (λb a o e=>F b o e),λb a=>(by rw[yk (f b (U b a)).2];exact(f2 b a).1),w0⟩
  let⟨i,v,H',hv,I,st,fr,w⟩:=hI;show wpAny _ _ ((compTurn (.ListComp elt [⟨tg,iter,ifs,0⟩] scope pos) 0 (.ref it) (.ref s2.heap.objs.size) (compEnvC scope (ñ ys X.env) G.objs.size X.env)).onRaise (λx=>do noteFrame x (compEnvC scope (ñ ys X.env) G.objs.size X.env);theTreesLotGoes x)) _ _ s';refine wpAny_noted ?_;rw[compTurn_list];refine bf (wpAny_standAt (bf ?_));rcases a1 i n H' w with⟨a6,q⟩|⟨go,a5⟩
  .refine thn (T.done (X.compT scope ys G.objs.size xs s2 H2 fp) rfl rfl rfl hc i [] s' (v++ud js σ) H' _ I (L fr) st a6) λr s4 ⟨hr,I4⟩=>?_;subst hr;refine bo ?_;let⟨m,hn,_⟩:=I4.loc;exact hR _ _ H' s4 m (I2.fpOk M I4.free) hn (I2.call' (ch:=fp) I4.os I4.base I4.hok I4.bare λb a=>⟨(f2 b a).2.2.2.1,(f2 b a).2.1,(f2 b a).2.2.2.2.1,(f2 b a).2.2.2.2.2⟩) q
  .refine thn (T.item (X.compT scope ys G.objs.size xs s2 H2 fp) rfl rfl rfl hc i [] s' (v++ud js σ) H' _ I (L fr) st go) λr s4 ⟨u,hr,h4⟩=>?_;subst hr;refine bf (thn h4 λN s5 ⟨y,H5,I5,r5,y5,H,aa⟩=>bf ?_);have ab:=I5.pinned (L aa) (T.obj _ _ H);refine vc0 (hgt _ _ _ _ _ s5 (v++ud js σ) H5 y u _ ab r5 (a5 y H5 v y5 hv)) λN s6 ⟨σ',H6,I6,⟨B,a2,ep⟩,q6⟩=>?_;subst ep;refine bf (vc0 (ht _ _ _ _ _ s6 (B++ud js σ) H6 _ I6 q6) λb s7 ⟨H7,I7,q7⟩=>?_)
   cases b with
   |false =>
    let⟨m',hm,w'⟩:=q7
    have O:∀b∈fp,∀o,s5.heap.get? b=some o->s7.heap.get? b=some o/\H7 b=none:=λb a o e =>
     ⟨(I7.pin (b,o) (bS _ (bS _ (u6 a e)))).1,(I7.pin (b,o) (bS _ (bS _ (u6 a e)))).2.1⟩
    refine bo ⟨rfl,m',hm,i+1,B,_,a2,I7.unpinned,T.keep _ _ _ H λb a o e=>(O b a o e).1,λb a=>?_,w'⟩;let⟨o,e,d⟩:=T.obj _ _ H b a;exact(O b a o e).2
   |true =>
    refine bf (bf (vc0 (he _ _ _ _ _ s7 (B++ud js σ) H7 _ I7 q7) λu2 s7 ⟨y2,H7,I7,r7,zs,hD,hl,m',hm,w'⟩=>bf ?_));refine vc0 (xh _ s7 (B++ud js σ) H7 (.ref s2.heap.objs.size) [y2] (.ref s2.heap.objs.size) [u2] (λN H8=>H8=upd H7 s2.heap.objs.size (.lst (zs++[y2]))) I7 rfl (.cons r7 .nil) ⟨_,zs,y2,rfl,rfl,hD,hl,rfl⟩) λN s8 h'=>?_;let⟨_,H8,I8,_,e8⟩:=h';subst e8
    have O:∀b∈fp,∀o,s5.heap.get? b=some o->s8.heap.get? b=some o/\upd H7 s2.heap.objs.size (HO.lst (zs++[y2])) b=none:=λb a o e =>
     ⟨(I8.pin (b,o) (bS _ (bS _ (u6 a e)))).1,(I8.pin (b,o) (bS _ (bS _ (u6 a e)))).2.1⟩
    refine bo (bo ⟨rfl,m',hm,i+1,B,_,a2,I8.unpinned,T.keep _ _ _ H λb a o e=>(O b a o e).1,λb a=>?_,w'⟩);let⟨o,e,d⟩:=T.obj _ _ H b a;exact(O b a o e).2
 exact codeAny_compStart_list (Q _) (T.self X.A 0 _ _ _ (T.keep 0 _ _ st2 (λb a o e=>F b o e)) (Q _))
def Þ{H2:Hp}{J:It}(hc:X.calm=true)
  (he:∀(C:x0)(s2:qa)(H2:Hp)(fp:Χ),PE (X.compT scope ys C xs s2 H2 fp) elt te)
  (hgt:∀(C:x0)(s2:qa)(H2:Hp)(fp:Χ),PG (X.compT scope ys C xs s2 H2 fp) tg g)
  (hcell:∀y∈scope.names,y.2≠.cell) (hkind:scope.kind=.function)
  (hfr:∀y∈scope.names,y.2=.free->y.1∈ys) (hyc:∀y∈ys,X.env.kindOf y=some .cell) (hrel:∀y∈ys,(relabel scope X.env).names.lookup y=some .cell) (hjs:js.map (λj=>X.N[j]?)=ys.map some)
  (I2:Inv X pins σ H2 s2) (T:yfi X.prog X.w X.K tg J fp it tn) (st2:tn 0 s2.heap) (f2:∀b∈fp,yb9 X pins H2 b)
  {R:x0->Hp->Prop} (h:∀D,H2 D=none->ju J g te xs.length (ud js σ) D (R D) H2) {RR:qb->x0->Result->qa->Prop} {E:Δ}
  (hR:∀(D C:x0)(H':Hp)(s':qa)(m:Ε),yb9 X pins H' C->s'.heap.Ns C m->Inv X pins σ H' s'->R D H'->RR (.ref D) C (.ok .next) s'):
  wpAny (model X.prog X.w) X.A (newList []) (λacc s₃=>wpAny (model X.prog X.w) X.A (newFunctionEnv scope X.env.globals (ñ ys X.env) [] X.env.qual none .none (some X.env)) (λcenv s₄ =>
   codeAny (model X.prog X.w) X.A (.compStart (.ListComp elt [⟨tg,iter,[],0⟩] scope pos) 0 (.ref it) acc {cenv with scope:=relabel scope X.env}) (RR acc cenv.locals) s₄) E s₃) E s2 :=
 Ō (tt:=vfw) hc (λZ Z Z Z=>yq3) he hgt hcell hkind hfr hyc hrel hjs I2 T st2 f2 (λD l=>by
  let⟨W,k,c⟩:=h D l;exists W,k,λi m H w=>(c i m H w).imp id λ⟨n,a⟩=>⟨n,λx f d y e=>?_⟩;exact a x f d y e) hR
def yaa(hc:X.calm=true)(hi:PI X tg iter wi)(he:∀(C:x0)(s2:qa)(H2:Hp)(fp:Χ),PE (X.compT scope ys C xs s2 H2 fp) elt te)(hjs:js.map (λj=>X.N[j]?)=ys.map some)
  (hgt:∀(C:x0)(s2:qa)(H2:Hp)(fp:Χ),PG (X.compT scope ys C xs s2 H2 fp) tg g)
  (hclos:closureFor scope X.env=pure (ñ ys X.env)) (hyc:∀y∈ys,X.env.kindOf y=some .cell) (hrel:∀y∈ys,(relabel scope X.env).names.lookup y=some .cell)
  (hfr:∀y∈scope.names,y.2=.free->y.1∈ys:=by decide+kernel) (hcell:∀y∈scope.names,y.2≠.cell:=by decide+kernel) (hkind:scope.kind=.function:=by rfl)
  (hnames:∀y∈scope.names,y.2=.local->scope.names.lookup y.1=some .local:=by decide+kernel) (hs:∀x,foldedSetIterable iter X.env x=pure x:=by intro _;rfl):
  PE X (.ListComp elt [⟨tg,iter,[],0⟩] scope pos) (yj0 wi g te xs.length js):=by refine .mk λa s σ H Q I h=>?_;rw[eval_ListComp];refine wpAny_comprehension_free (use:=none) rfl hs hclos hkind hnames (thn (hi a s σ H _ I h) λv G z=>thn z λr s2 B=>?_);let⟨K,fp,E,J,H2,e,l,T,d,i,h⟩:=B;subst e;refine Þ (R:=λD c=>Q (.ref D) c) (RR:=compPost (model X.prog X.w) X.A X.xe none (EP X a σ Q)) hc he hgt hcell hkind hfr hyc hrel hjs l T d i h ?_;intro D C c p m f u n q;exists m,u,λF t=>⟨.ref D,c,?_,rfl,q⟩;exact n.turned (t':=p.toks) (λb o k e=>t.extBut b o k e) f.1 f.2.1 f.2.2.2.1 f.2.2.2.2.1 f.2.2.2.2.2
def yrp{H:Hp}{Q:VK}{n:Nat}(h:wi σ H λJ H1=>∀D,H1 D=none->ju J g te n (ud js σ) D (λH2=>Q (.ref D) H2) H1):yj0 wi g te n js σ H Q:=h
end
section
variable{iter elt:qg}{x:Str}{px pos:Pos}{scope:Scope}{te:TE}{wi:TI}{pins:Θ}{σ:St}{ys:Τ}{js:qi Nat}
def jb{pre:qi (Ψ)}{n:Nat}(h:List.length pre=n+1):∃v t,pre=v::t/\List.length t=n:=by
 cases pre with
 |nil=>cases h
 |cons v t=>exists v,t,rfl,Nat.succ.inj h
def ywv{J:It}{fr:St}{D:x0}{R:Hp->Prop}{H1:Hp}(h:za J te fr D R H1):ju J (w8 0) te 1 fr D R H1:=by let⟨W,g,e⟩:=h;exists W,g,λi m j w=>(e i m j w).imp id λ⟨k,y⟩=>⟨k,λx f d b c=>?_⟩;let⟨z,t,rfl,a⟩:=jb c;obtain rfl:=List.length_eq_zero_iff.mp a;exists⟨[some x],rfl,rfl⟩,y x f b
def Ő{H2:Hp}{J:It}(hc:X.calm=true)
  (he:∀(C:x0)(s2:qa)(H2:Hp)(fp:Χ),PE (X.compF scope ys C x s2 H2 fp) elt te)
  (hcell:∀y∈scope.names,y.2≠.cell) (hkind:scope.kind=.function) (hx:scope.names.lookup x=some .local) (hnd:(x::ys).Nodup)
  (hfr:∀y∈scope.names,y.2=.free->y.1∈ys) (hyc:∀y∈ys,X.env.kindOf y=some .cell) (hrel:∀y∈ys,(relabel scope X.env).names.lookup y=some .cell) (hjs:js.map (λj=>X.N[j]?)=ys.map some)
  (I2:Inv X pins σ H2 s2) (T:yfi X.prog X.w X.K (.Name x px) J fp it tn) (st2:tn 0 s2.heap) (f2:∀b∈fp,yb9 X pins H2 b)
  {R:x0->Hp->Prop} (h:∀D,H2 D=none->za J te (ud js σ) D (R D) H2) {RR:qb->x0->Result->qa->Prop} {E:Δ}
  (hR:∀(D C:x0)(H':Hp)(s':qa)(m:Ε),yb9 X pins H' C->s'.heap.Ns C m->Inv X pins σ H' s'->R D H'->RR (.ref D) C (.ok .next) s'):
  wpAny (model X.prog X.w) X.A (newList []) (λacc s₃=>wpAny (model X.prog X.w) X.A (newFunctionEnv scope X.env.globals (ñ ys X.env) [] X.env.qual none .none (some X.env)) (λcenv s₄ =>
   codeAny (model X.prog X.w) X.A (.compStart (.ListComp elt [⟨.Name x px,iter,[],0⟩] scope pos) 0 (.ref it) acc {cenv with scope:=relabel scope X.env}) (RR acc cenv.locals) s₄) E s₃) E s2 :=
 Þ (tg:=.Name x px) (xs:=[x]) (g:=w8 0) hc he (λC s2 H2 fp=>vk (i:=0) hnd rfl (Or.inl (lookup_relabel_local hx)) (Or.inr (lookup_relabel_local hx))) hcell hkind hfr hyc hrel hjs I2 T st2 f2 (λD a=>ywv (h D a)) hR
def wb(hc:X.calm=true)(hi:PI X (.Name x px) iter wi)(he:∀(C:x0)(s2:qa)(H2:Hp)(fp:Χ),PE (X.compF scope ys C x s2 H2 fp) elt te)(hjs:js.map (λj=>X.N[j]?)=ys.map some)
  (hclos:closureFor scope X.env=pure (ñ ys X.env)) (hnd:(x::ys).Nodup:=by decide) (hyc:∀y∈ys,X.env.kindOf y=some .cell) (hrel:∀y∈ys,(relabel scope X.env).names.lookup y=some .cell)
  (hfr:∀y∈scope.names,y.2=.free->y.1∈ys:=by decide+kernel) (hcell:∀y∈scope.names,y.2≠.cell:=by decide+kernel) (hkind:scope.kind=.function:=by rfl)
  (hnames:∀y∈scope.names,y.2=.local->scope.names.lookup y.1=some .local:=by decide+kernel) (hx:scope.names.lookup x=some .local:=by rfl) (hs:∀x,foldedSetIterable iter X.env x=pure x:=by intro _;rfl):
  PE X (.ListComp elt [⟨.Name x px,iter,[],0⟩] scope pos) (ykv wi te js):=by refine .mk λa s σ H Q I h=>?_;rw[eval_ListComp];refine wpAny_comprehension_free (use:=none) rfl hs hclos hkind hnames (thn (hi a s σ H _ I h) λv F u=>thn u λp s2 z=>?_);let⟨G,fp,B,J,H2,e,k,T,d,g,h⟩:=z;subst e;refine Ő (R:=λD c=>Q (.ref D) c) (RR:=compPost (model X.prog X.w) X.A X.xe none (EP X a σ Q)) hc he hcell hkind hx hnd hfr hyc hrel hjs k T d g h ?_;intro D C c n m f t l q;exists m,t,λE r=>⟨.ref D,c,?_,rfl,q⟩;exact l.turned (t':=n.toks) (λb o i e=>r.extBut b o i e) f.1 f.2.1 f.2.2.2.1 f.2.2.2.2.1 f.2.2.2.2.2
def yd5{y:Str}{py spos:Pos}(hN:X.N.Nodup)(hy:X.N[i]?=some y)(hl:X.env.scope.names.lookup y=some .local)(hc:X.calm=true)(hi:PI X (.Name x px) iter wi)
  (he:∀(C:x0)(s2:qa)(H2:Hp)(fp:Χ),PE (X.compF scope ys C x s2 H2 fp) elt te) (hjs:js.map (λj=>X.N[j]?)=ys.map some)
  (hclos:closureFor scope X.env=pure (ñ ys X.env)) (hyc:∀y∈ys,X.env.kindOf y=some .cell) (hrel:∀y∈ys,(relabel scope X.env).names.lookup y=some .cell)
  (hsw:swapsWith (.ListComp elt [⟨.Name x px,iter,[],0⟩] scope pos) (some (.Name y py)) spos.line X.env=pure true:=by rfl) (hnd:(x::ys).Nodup:=by decide)
  (hfr:∀y∈scope.names,y.2=.free->y.1∈ys:=by decide+kernel) (hcell:∀y∈scope.names,y.2≠.cell:=by decide+kernel) (hkind:scope.kind=.function:=by rfl)
  (hnames:∀y∈scope.names,y.2=.local->scope.names.lookup y.1=some .local:=by decide+kernel) (hx:scope.names.lookup x=some .local:=by rfl) (hs:∀x,foldedSetIterable iter X.env x=pure x:=by intro _;rfl):
  PS X (.Assign [.Name y py] (.ListComp elt [⟨.Name x px,iter,[],0⟩] scope pos) spos) (ywp (ykv wi te js) (w8 i)):=by
 refine .mk λa s σ H l I h=>?_;rw[exec_Assign_Name_used _ _ _ _ hsw];refine bf (wpAny_standAt (bf ?_));show wpAny _ X.A (do let _ <- comprehension (.ListComp elt [⟨.Name x px,iter,[],0⟩] scope pos) scope X.env _ (newList []) false (eval iter X.env) (some (assign (.Name y py) X.env))) _ _ s;refine bf (cM (wpAny_comprehension_free (use:=some (assign (.Name y py) X.env)) (Q:=λZ d=>SP X a l .next d) rfl hs hclos hkind hnames (thn (hi a s σ H _ I h) λv U L=>thn L λB s2 K=>?_)) (λZ d E=>bo (bo E)) λZ Z e=>e);let⟨S,fp,P,J,H2,e,G,T,p,M,h⟩:=K;subst e;refine Ő (R:=λD n=>w8 i (.ref D) σ n l.nx) (RR:=compPost (model X.prog X.w) X.A X.xe (some (assign (.Name y py) X.env)) (λZ d=>SP X a l .next d)) hc he hcell hkind hx hnd hfr hyc hrel hjs G T p M h ?_;intro D C n d m f F u q;refine wpAny_assign_Name (È (v:=V.ref D) u hN hy (Or.inl hl) rfl (λr k g=>?_) (Or.inr hl));exists m,?_,λO t=>⟨_,n,?_,q⟩
 .obtain⟨b,t,c⟩:=g;refine F.sameBut t λz=>?_;rcases c with c|c
  .exact f.2.1 (z.trans c)
  .exact f.2.2.2.2.1 y b c z.symm
 .exact k.turned (t':=r.toks) (λb o c e=>t.extBut b o c e) f.1 f.2.1 f.2.2.2.1 f.2.2.2.2.1 f.2.2.2.2.2
end
end L2
namespace L2
open PySem PySem.Spec PyProof.Rows
section
variable{prog:qh}{w:qd}{A:qe}{E:Δ}{s:qa}
def π{it l:x0}{i:Nat}{items}{x:qb}{Q:Δ}(hit:s.heap.IsTupleIter it l i)(hl:s.heap.IsTuple l items)(hx:items[i]?=some x)
  (hQ:∀h',h'.IsTupleIter it l (i+1)->Heap.SameBut it s.heap h'->Q x {s with heap:=h'}):wpAny (model prog w) A (Builtin.SmallTypes.nextOf (.ref it)) Q E s:=by let⟨g,b,c,a⟩:=id hit;let⟨h,e,_,f,d⟩:=hl;unfold Builtin.SmallTypes.nextOf;refine bf (wpAny_callSpecial?_slot (name:=Str.ofString "__next__") hit.typeIs slot_tupleiter_next (wpAny_call_entry slot_tupleiter_next hit.typeIs entry_tupleiter_next ?_ (args_tupleiter_next _)));show wpAny _ _ (field (.ref it) 0 >>=_) _ _ s;refine bf (cw b a (x:=.ref l) rfl ?_);show wpAny _ _ (if (Value.ref l == Value.none)=true then _ else _) _ _ s;rw[if_neg (show ¬((Value.ref l == Value.none)=true)from bL)];show wpAny _ _ (field (.ref it) 1 >>=_) _ _ s;refine bf (cw b a (x:=.int i 0) rfl ?_);show wpAny _ _ (seqItems? (.ref l) >>=_) _ _ s;refine bf (wpAny_seqItems e d ?_);simp only[Int.toNat_natCast,hx];refine bf (wpAny_setField b a (by simp) (bo ⟨x,rfl,bo (hQ _ ⟨_,Heap.get?_update_self _ b (Obj.isFreed_of_fields (Obj.data_mapFields a _)),(Obj.cls_mapFields ..).trans c,?_⟩ (Heap.SameBut.update ..))⟩));rw[Obj.data_mapFields a];simp[rawInt]
def Đ{it l:x0}{i:Nat}{items}{Q:Δ}(hh:A.handled=none)(hit:s.heap.IsTupleIter it l i)(hl:s.heap.IsTuple l items)(hx:items[i]?=none)
  (hE:∀h' e,Heap.ExtBut it s.heap h'->(∃o,h'.get? e=some o/\o.cls=.type "StopIteration")->E (.ref e) {s with heap:=h'}):wpAny (model prog w) A (Builtin.SmallTypes.nextOf (.ref it)) Q E s:=by
 let⟨j,b,g,c⟩:=id hit;let⟨k,f,_,h,d⟩:=hl;unfold Builtin.SmallTypes.nextOf;refine bf (wpAny_callSpecial?_slot (name:=Str.ofString "__next__") hit.typeIs slot_tupleiter_next (wpAny_call_entry slot_tupleiter_next hit.typeIs entry_tupleiter_next ?_ (args_tupleiter_next _)))
 (show wpAny _ _ (field (.ref it) 0 >>=_) _ _ s);refine bf (cw b c (x:=.ref l) rfl ?_)
 (show wpAny _ _ (if (Value.ref l == Value.none)=true then _ else _) _ _ s);rw[if_neg (show ¬((Value.ref l == Value.none)=true)from bL)]
 (show wpAny _ _ (field (.ref it) 1 >>=_) _ _ s);refine bf (cw b c (x:=.int i 0) rfl ?_)
 (show wpAny _ _ (seqItems? (.ref l) >>=_) _ _ s);refine bf (wpAny_seqItems f d ?_)
 simp only[Int.toNat_natCast,hx];refine bf (wpAny_rule (bf (wpAny_setField b c (by simp) ?_)))
 (show wpAny _ _ (newExc (.type "StopIteration") [] >>=_) _ _ _);refine bf ?_
 simp only[newExc,newTuple];refine bf (wpAny_newObj_type ?_ (by size_fits))
 refine bf (m:=firstArgMember _ _) (wpAny_of_eq (a:=Value.none) (by first|rfl|(simp only[firstArgMember];rfl)) (wpAny_newObj_type ?_ (by size_fits)))
 simp only[raiseNew];refine bf (wpAny_handled ?_)
 (first|rw[show A.in1.handled=none from hh]|rw[hh]);refine bf (bo (wpAny_throw ?_))
 exact hE _ _ (((Heap.SameBut.update _ ..).extBut.push _).push _) ⟨_,bz _ rfl,rfl⟩
end
section
open AutoSeq1 (wpAny_loadPart')
set_option maxRecDepth 100000
end
end L2
namespace L2
open PySem PySem.Spec PyProof.Rows
end L2
namespace L2
section
variable{σ:St}{H:Hp}{Q:VK}{td ty tx tv:TE}
def yw8(h:td σ H λx H1=>ty σ H1 λy H2=>∃a v,x=.ref a/\Ĳ H2 a y (some v)/\Q v H2):vcl td ty σ H Q:=h
def vei(h:ty σ H λy H1=>td σ H1 λx H2=>∃a o,x=.ref a/\Ĳ H2 a y o/\Q (.bl o.isSome) H2):vfy ty td σ H Q:=h
def ym0(h:ty σ H λy H1=>td σ H1 λx H2=>∃a o,x=.ref a/\Ĳ H2 a y o/\Q (.bl (!o.isSome)) H2):yiy ty td σ H Q:=h
def yxf{nx bk ct:Ζ}{rt:VK}(h:tv σ H λv H1=>td σ H1 λx H2=>ty σ H2 λy H3=>∃a H4,x=.ref a/\yla H3 a y v H4/\nx σ H4):vbx td ty tv ⟨nx,rt,bk,ct⟩ σ H:=h
def yq5(h:∀p,H p=none->Q (.ref p) (upd H p (.dT []))):ype σ H Q:=h
end
end L2
namespace L2
open PySem PySem.Spec PyProof.Rows
variable{i1 i2 l1 l2:x0}{xs ys:Array qb}{elts:qi qg}{i k1 k2:Nat}{tpos:Pos}{a:qb}
def Itz(K:xr)(a b:x0):It :=
 ⟨λi H=>∃xs ys x y,SqL K H a xs/\SqL K H b ys/\xs[i]?=some x/\ys[i]?=some y,
  λi H v H'=>∃t x y,v=.ref t/\H t=none/\H'=upd H t (.tup [x,y])/\(∀xs,SqL K H a xs->xs[i]?=some x)/\(∀ys,SqL K H b ys->ys[i]?=some y),
  λi H=>∃xs ys,SqL K H a xs/\SqL K H b ys/\(xs.length<=i\/ys.length<=i)⟩
structure Zap(z TI TO i1 i2:x0):Prop where
 a1:TI≠z
 a2:TO≠z
 a3:i1≠z
 a4:i2≠z
 a5:TI≠TO
 a6:TI≠i1
 a7:TI≠i2
 a8:TO≠i1
 a9:TO≠i2
 b1:i1≠i2
def Zst(z TI TO i1 i2 l1 l2:x0)(i:Nat)(h:qf):Prop:=IsZip h z TI TO .none/\IsPair h TI (.ref i1) (.ref i2)/\(∃a b,IsPair h TO a b)/\h.IsListIter i1 l1 i/\h.IsListIter i2 l2 i
def zl{h:qf}{a b:x0}{o o':Obj}(e:h.get? a=some o)(e':h.get? b=some o')(n:o.cls≠o'.cls):a≠b:=by rintro rfl;rw[e]at e';cases e';exact n rfl
def ypf(z:Nat):Zap (z+4) (z+2) (z+3) z (z+1):=by constructor<;>(show (_:Nat)≠(_:Nat);omega)
def nT{a b:String}(h:Value.type a≠Value.type b):Value.type a≠Value.type b:=h
def Zap.apart{X:Cx}{pins:Θ}{σ:St}{H:Hp}{s:qa}{z TI TO:x0}{xs ys:Ο}(d:Zap z TI TO i1 i2)(st:Zst z TI TO i1 i2 l1 l2 i s.heap)(p:PlainL s.heap l1 xs.toArray)(q:PlainL s.heap l2 ys.toArray)(_:Inv X pins σ H s):ZipApart z TI TO i1 i2 l1 l2:=by
 let⟨j,o,⟨a,b,c⟩,⟨r,k,l,_⟩,⟨t,n,m,_⟩⟩:=st;let⟨u,f,e,_⟩:=p.isList;let⟨v,h,g,_⟩:=q.isList
 exact⟨d.a1,d.a2,d.a3,d.a4,d.a5,d.a6,d.a7,d.a8,d.a9,d.b1,
  zl f j (by rw[e];exact nT (by decide)),zl f c (by rw[e];exact nT (by decide)),zl f k (by rw[e,l];decide),zl f n (by rw[e,m];decide),
  zl h j (by rw[g];exact nT (by decide)),zl h c (by rw[g];exact nT (by decide)),zl h k (by rw[g,l];decide),zl h n (by rw[g,m];decide)⟩
def ymj{P:qh}{w:qd}{K:xr}{x1}(l1 l2 z TI TO i1 i2:x0)(d:Zap z TI TO i1 i2):
  yfi P w K (.Tuple elts x1 tpos) (Itz K l1 l2) [z,TI,TO,i1,i2] z (Zst z TI TO i1 i2 l1 l2) where
 mem:=by simp
 obj:=λi h G b g=>by
  let⟨O,j,⟨_,_,m⟩,⟨o1,e1,_,d1⟩,⟨o2,e2,_,d2⟩⟩:=G;simp only[bB,List.not_mem_nil,or_false]at g;rcases g with rfl|rfl|rfl|rfl|rfl
  .exists _,O,λv z=>by cases z
  .exists _,j,λv z=>by cases z
  .exists _,m,λv z=>by cases z
  .exists o1,e1,λv z=>by rw[d1]at z;cases z
  .exists o2,e2,λv z=>by rw[d2]at z;cases z
 keep:=λi h U G k=>by
  let⟨O,j,⟨a,b,m⟩,h1,h2⟩:=G;exists k z (by simp) _ O,k TI (by simp) _ j,⟨a,b,k TO (by simp) _ m⟩,h1.at λo e=>k i1 (by simp) o e,h2.at λo e=>k i2 (by simp) o e
 item:=by
  intro X hP hw hK hc i N s σ H E I F G hg;subst hP hw hK;let⟨xs,ys,x,y,T,M,B,hy⟩:=hg;let⟨a9,rv,p,ac⟩:=I.list T;let⟨a7,R,p',Z⟩:=I.list M;let⟨u,hu,ru⟩:=rv.get B;let⟨u',ab,aa⟩:=R.get hy;have D:=d.apart G p p' I;let⟨O,j,⟨va,vb,m⟩,L,J⟩:=G;refine wpAny_pyNext_zip_item D O j m L J p.isList p'.isList (x:=u) (y:=u') (by simpa using hu) (by simpa using ab) λU a1 a2 a3 a4 a5 a6 hk=>?_;exists _,rfl,wpAny_letOwnedTupleGo_zip a1 λr a0 l=>?_;have C:H s.heap.objs.size=none:=I.hok.fresh (bj _);have lz:z<s.heap.objs.size:=bw O;have lo:TO<s.heap.objs.size:=bw m;have lI:TI<s.heap.objs.size:=bw j;have af:i1<s.heap.objs.size:=by let⟨o,e,_⟩:=id L;exact bw e
  have ae:i2<s.heap.objs.size:=by let⟨o,e,_⟩:=id J;exact bw e
  have keep:∀b o,b≠z->b≠TO->b≠i1->b≠i2->s.heap.get? b=some o->r.get? b=some o:=λb o Y n2 n3 n4 e=>(l.2 b Y).trans (hk b o Y n2 n3 n4 e);have a8:r.get? s.heap.objs.size=some { cls:=.type "tuple",data:=.seq #[u,u']}:=(l.2 _ (Nat.ne_of_gt lz)).trans a5;have nt:∀{b v},H b=some v->b≠z/\b≠TO/\b≠i1/\b≠i2:=λ{b v}e=>⟨yb e (F z (by simp)).1,yb e (F TO (by simp)).1,yb e (F i1 (by simp)).1,yb e (F i2 (by simp)).1⟩
  have S:HOk X.prog X.w (upd H s.heap.objs.size (.tup [x,y])) r:=λb o e=>by
   by_cases g:b=s.heap.objs.size
   .subst g;rw[ya]at e;cases e;exists by show 2<=sizeLine;decide,[u,u'],.cons ru (.cons aa .nil),⟨_,a8,rfl,_,rfl⟩
   .rw[yk g]at e;refine(I.hok b o e).stay (λc v t q=>?_) (λc q=>by rw[yk (yb q C)];exact q) λc ys q=>by rw[yk (yb q C)];exact q
    obtain⟨Y,n2,n3,n4⟩:c≠z/\c≠TO/\c≠i1/\c≠i2:=by
     rcases t with rfl|t
     .exact nt e
     .exact nt t
    exact keep c v Y n2 n3 n4 q
  have un:Un (frs X.stack) [z,TI,TO,i1,i2] H (upd H s.heap.objs.size (.tup [x,y])) s.heap r:=by
   have Q:∀{b o},b∉[z,TI,TO,i1,i2]->s.heap.get? b=some o->r.get? b=some o:=λ{b o}g e=>keep b o (λq=>g (by simp[q])) (λq=>g (by simp[q])) (λq=>g (by simp[q])) (λq=>g (by simp[q])) e
   refine⟨λb o e n W B=>Q B e,λb o e n W B=>⟨o.slots,Q B e⟩,λb o e n W=>by rw[yk (bQ (bw e))];exact n,λb o e B=>⟨o,Q B e⟩,
    λb ys e=>by rw[yk (yb e C)];exact e,λb o v e=>by rw[yk (yb e C)];exact e,λb ps e=>⟨#[],by rw[yk (yb e C),e];simp⟩⟩
  have I1:Inv X N σ (upd H s.heap.objs.size (.tup [x,y])) {s with heap:=r}:=I.call' (s':={s with heap:=r}) rfl un S I.bare λb g=>by
   have f:=F b g;exact⟨f.2.2.2.1,f.2.1,f.2.2.2.2.1,f.2.2.2.2.2⟩
  exists .ref s.heap.objs.size,_,I1,rfl,⟨_,x,y,rfl,C,rfl,λzs h=>by rw[I.list_inj h T];exact B,λzs h=>by rw[I.list_inj h M];exact hy⟩,?_,λb g=>?_
  .exists a0,keep _ _ D.TIz D.TITO D.TIi1 D.TIi2 j,⟨u,u',(l.2 _ D.TOz).trans a2⟩,a3.at λo e=>(l.2 _ D.i1z).trans e,a4.at λo e=>(l.2 _ D.i2z).trans e
  .rw[yk (λq=>?_)]
   .exact(F b g).1
   .have T:b<s.heap.objs.size:=by
     simp only[bB,List.not_mem_nil,or_false]at g;rcases g with rfl|rfl|rfl|rfl|rfl<;>assumption
    exact absurd q (bQ T)
 done:=by
  intro X hP hw hK hc i N s σ H E I F G hg;subst hP hw hK;let⟨xs,ys,T,M,B⟩:=hg;let⟨a9,rv,p,ac⟩:=I.list T;let⟨a7,R,p',Z⟩:=I.list M;have D:=d.apart G p p' I;let⟨O,j,⟨va,vb,m⟩,L,J⟩:=G;have hl:=rv.length;have ad:=R.length;refine wpAny_pyNext_zip_end (show X.A.handled=none from I.ok.hd hc) D O j m L J p.isList p'.isList (by simp;omega) λU hk=>⟨rfl,?_⟩;have nt:∀{b v},H b=some v->b≠z/\b≠TO/\b≠i1/\b≠i2:=λ{b v}e=>⟨yb e (F z (by simp)).1,yb e (F TO (by simp)).1,yb e (F i1 (by simp)).1,yb e (F i2 (by simp)).1⟩
  have S:HOk X.prog X.w H U:=λb o e=>by
   refine(I.hok b o e).stay (λc v t q=>?_) (λc q=>q) λc ys q=>q
   obtain⟨Y,n2,n3,n4⟩:c≠z/\c≠TO/\c≠i1/\c≠i2:=by
    rcases t with rfl|t
    .exact nt e
    .exact nt t
   exact hk c v Y n2 n3 n4 q
  have un:Un (frs X.stack) [z,TI,TO,i1,i2] H H s.heap U:=by
   have Q:∀{b o},b∉[z,TI,TO,i1,i2]->s.heap.get? b=some o->U.get? b=some o:=λ{b o}g e=>hk b o (λq=>g (by simp[q])) (λq=>g (by simp[q])) (λq=>g (by simp[q])) (λq=>g (by simp[q])) e;exists λb o e n W B=>Q B e,λb o e n W B=>⟨o.slots,Q B e⟩,λb o e n W=>n,λb o e B=>⟨o,Q B e⟩,λb ys e=>e,λb o v e=>e,λb ps e=>⟨#[],by rw[e];simp⟩
  exact I.call' (s':={s with heap:=U}) rfl un S I.bare λb g=>by
   have f:=F b g;exact⟨f.2.2.2.1,f.2.1,f.2.2.2.2.1,f.2.2.2.2.2⟩
 self:=λW W W W W G h=>wpAny_pyIter_zip G.1 h
section
variable{X:Cx}
def vfq(K:xr)(ta:TA):TI:=λσ H R=>ta σ H λvs H1=>∃a b,vs=[.ref a,.ref b]/\(∃xs ys,SqL K H1 a xs/\SqL K H1 b ys)/\R (Itz K a b) H1
def ypb{x1}{l m:qg}{ta:TA}{p pos:Pos}(hg:Gl X "zip")(hm:X.mg "zip"=none)(ha:PA X [l,m] ta)(hs:starEach [l,m] X.env=[(false,eval l X.env),(false,eval m X.env)]:=by rfl)(hs2:starEach [m] X.env=[(false,eval m X.env)]:=by rfl):
  PI X (.Tuple elts x1 tpos) (.Call (.Name "zip" p) [l,m] [] pos) (vfq X.K ta):=by
 intro f s σ H R I h;refine Call_ (Į I hg hm (show bootBuiltins "zip"=some (.type "zip") by decide+kernel) (PyProof.Rows.callWith_type1 (thn (ha pos f s σ H _ I h) λM c h'=>?_) (by rw[hs,hs2]) (by rw[hs2];rfl)));let⟨J,v,d,x,w⟩:=h';let⟨a,b,e,⟨L,O,y,i⟩,q⟩:=w;subst e
 cases x with
 |cons r rr =>
  cases rr with
  |cons r' rr =>
   cases rr;cases r;cases r';let⟨B,P,A,o⟩:=d.list y;let⟨u,z,t,G⟩:=d.list i;refine call_zip_2 A.isList t.isList λN o n j E D F C=>?_;refine wpAny_pyIter_zip o ?_;have k:Zap (c.heap.objs.size+4) (c.heap.objs.size+2) (c.heap.objs.size+3) c.heap.objs.size (c.heap.objs.size+1):=ypf _;exists c.heap.objs.size+4,[c.heap.objs.size+4,c.heap.objs.size+2,c.heap.objs.size+3,c.heap.objs.size,c.heap.objs.size+1],_,_,v,rfl,d.kept (t':=c.toks) C,ymj a b _ _ _ _ _ k,⟨o,n,⟨_,_,j⟩,E,D⟩,λb g=>?_,q
   have g:c.heap.objs.size<=b:=by
    simp only[bB,List.not_mem_nil,or_false]at g;rcases g with rfl|rfl|rfl|rfl|rfl<;>omega
   exact d.fpOk g (d.hok.fresh g)
def ywy{K:xr}{ta:TA}{σ:St}{H:Hp}{R:It->Hp->Prop}(h:ta σ H λvs H1=>∃a b,vs=[.ref a,.ref b]/\(∃xs ys,SqL K H1 a xs/\SqL K H1 b ys)/\R (Itz K a b) H1):vfq K ta σ H R:=h
end
def Ŋ{K:xr}{a b D:x0}{xs ys:Υ}{g:TG}{te:TE}{n:Nat}{fr:St}{R:Hp->Prop}{H1:Hp}(f:Nat->V)(hq:SqL K H1 a xs)(hq':SqL K H1 b ys)(hl:ys.length=xs.length)(hD:H1 D=none)
  (hs:∀i x y H t pre,xs[i]?=some x->ys[i]?=some y->yv H1 H->H D=some (.lst ((List.range i).map f))->H t=none->List.length pre=n->g (.ref t) (pre++fr) (upd H t (.tup [x,y])) λσ' H'=>(∃pre',List.length pre'=n/\σ'=pre'++fr)/\te σ' H' (MpK H1 D f xs.length i))
  (hd:∀H,yv H1 H->H D=some (.lst ((List.range xs.length).map f))->R H):ju (Itz K a b) g te n fr D R H1:=by
 exists cW xs.length (Mp H1 D f),⟨xs.length,by simp,bJ _,Mp.zero hD⟩,?_;rintro i m H ⟨rfl,o,p⟩;have q:=p.1.seq hq;have c:=p.1.seq hq';by_cases hlt:i<xs.length
 .refine .inr ⟨⟨xs,ys,xs[i],ys[i]'(by omega),q,c,by simp[hlt],by simp[hl,hlt]⟩,λy H' pre k j=>?_⟩;let⟨t,x,y,rfl,h,rfl,l,d⟩:=k;exact hs i x y H t pre (l xs q) (d ys c) p.1 p.2 h j
 .have e:i=xs.length:=by omega
  subst e;exact .inl ⟨⟨xs,ys,q,c,.inl (bj _)⟩,hd H p.1 p.2⟩
section
variable{X:Cx}{iter elt tg:qg}{xs:Τ}{g:TG}{pos:Pos}{scope:Scope}{te:TE}{wi:TI}{ys:Τ}{js:qi Nat}
def ym6{y:Str}{py spos:Pos}(hN:X.N.Nodup)(hy:X.N[i]?=some y)(hl:X.env.scope.names.lookup y=some .local)(hc:X.calm=true)(hi:PI X tg iter wi)
  (he:∀(C:x0)(s2:qa)(H2:Hp)(fp:Χ),PE (X.compT scope ys C xs s2 H2 fp) elt te) (hjs:js.map (λj=>X.N[j]?)=ys.map some)
  (hgt:∀(C:x0)(s2:qa)(H2:Hp)(fp:Χ),PG (X.compT scope ys C xs s2 H2 fp) tg g)
  (hclos:closureFor scope X.env=pure (ñ ys X.env)) (hyc:∀y∈ys,X.env.kindOf y=some .cell) (hrel:∀y∈ys,(relabel scope X.env).names.lookup y=some .cell)
  (hsw:swapsWith (.ListComp elt [⟨tg,iter,[],0⟩] scope pos) (some (.Name y py)) spos.line X.env=pure true:=by rfl)
  (hfr:∀y∈scope.names,y.2=.free->y.1∈ys:=by decide+kernel) (hcell:∀y∈scope.names,y.2≠.cell:=by decide+kernel) (hkind:scope.kind=.function:=by rfl)
  (hnames:∀y∈scope.names,y.2=.local->scope.names.lookup y.1=some .local:=by decide+kernel) (hs:∀x,foldedSetIterable iter X.env x=pure x:=by intro _;rfl):
  PS X (.Assign [.Name y py] (.ListComp elt [⟨tg,iter,[],0⟩] scope pos) spos) (ywp (yj0 wi g te xs.length js) (w8 i)):=by
 refine .mk λa s σ H n I h=>?_;rw[exec_Assign_Name_used _ _ _ _ hsw];refine bf (wpAny_standAt (bf ?_));show wpAny _ X.A (do let _ <- comprehension (.ListComp elt [⟨tg,iter,[],0⟩] scope pos) scope X.env _ (newList []) false (eval iter X.env) (some (assign (.Name y py) X.env))) _ _ s;refine bf (cM (wpAny_comprehension_free (use:=some (assign (.Name y py) X.env)) (Q:=λZ d=>SP X a n .next d) rfl hs hclos hkind hnames (thn (hi a s σ H _ I h) λv W M=>thn M λE s2 L=>?_)) (λZ d F=>bo (bo F)) λZ Z e=>e);let⟨U,fp,S,J,H2,e,K,T,r,O,h⟩:=L;subst e;refine Þ (R:=λD p=>w8 i (.ref D) σ p n.nx) (RR:=compPost (model X.prog X.w) X.A X.xe (some (assign (.Name y py) X.env)) (λZ d=>SP X a n .next d)) hc he hgt hcell hkind hfr hyc hrel hjs K T r O h ?_;intro D C p d m f G B q;refine wpAny_assign_Name (È (v:=V.ref D) B hN hy (Or.inl hl) rfl (λt l k=>?_) (Or.inr hl));exists m,?_,λP u=>⟨_,p,?_,q⟩
 .obtain⟨b,u,c⟩:=k;refine G.sameBut u λz=>?_;rcases c with c|c
  .exact f.2.1 (z.trans c)
  .exact f.2.2.2.2.1 y b c z.symm
 .exact l.turned (t':=t.toks) (λb o c e=>u.extBut b o c e) f.1 f.2.1 f.2.2.2.1 f.2.2.2.2.1 f.2.2.2.2.2
end
section
variable{X:Cx}
def onI(f:Int->Int):V->V
 | .int i=>.int (f i)
 |v=>v
def yi4(f:Int->Int)(ns:Ρ):(ns.map V.int).map (onI f)=(ns.map f).map V.int:=by rw[bR,bR];rfl
def ykn{pre:qi (Ψ)}(h:List.length pre=2):∃v1 v2,pre=[v1,v2]:=by let⟨v1,t,rfl,b⟩:=jb h;let⟨v2,t,rfl,a⟩:=jb b;exists v1,v2,by rw[List.length_eq_zero_iff.mp a]
end
def yx7{to ti:TE}{t:vcz}{v:V}{σ:St}{H:Hp}{Q:Ζ}(h:to σ H λo H1=>ti σ H1 λi H2=>t o i v H2 λH3=>Q σ H3):vfp to ti t v σ H Q:=h
section
variable{X:Cx}
def vcb:V->qi V->Hp->VK->Prop:=λx vs H Q=>∃i:Int,x=.int i/\vs=[]/\Q (.int (Builtin.Int.intBits i:Nat)) H
def ysk:MtR X "int.bit_length" vcb:=by intro b s σ H x e v f Q I d c h;let⟨i,rfl,rfl,q⟩:=h;let⟨t,rfl⟩:=d;have a:=c.zero;subst a;exact PyProof.Rows.call_int_bit_length ⟨.int _,H,I.tok _,⟨_,rfl⟩,q⟩
def var{K:xr}{i:Int}{H:Hp}{Q:VK}(h:Q (.int (Builtin.Int.intBits i:Nat)) H):tyV K "int" (.int i) H/\vcb (.int i) [] H Q:=⟨rfl,i,rfl,rfl,h⟩
end
section
variable{prog:qh}{w:qd}{A:qe}{E:Δ}{s:qa}
def ymy{z TI TO:x0}{x y b:qb}{Q:Δ}(D:ZipApart z TI TO i1 i2 l1 l2)(hz:IsZip s.heap z TI TO .none)(hTI:IsPair s.heap TI (.ref i1) (.ref i2))(hTO:IsPair s.heap TO a b)
  (h1:s.heap.IsTupleIter i1 l1 k1) (h2:s.heap.IsTupleIter i2 l2 k2) (hl1:s.heap.IsTuple l1 xs) (hl2:s.heap.IsTuple l2 ys) (hx:xs[k1]?=some x) (hy:ys[k2]?=some y)
  (hQ:∀h',IsZip h' z TI TO (rawInt s.heap.objs.size)->IsPair h' TO x y->h'.IsTupleIter i1 l1 (k1+1)->h'.IsTupleIter i2 l2 (k2+1)->IsPair h' s.heap.objs.size x y->h'.objs.size=s.heap.objs.size+1->(∀c o,c≠z->c≠TO->c≠i1->c≠i2->s.heap.get? c=some o->h'.get? c=some o)->Q (.ref s.heap.objs.size) {s with heap:=h'}):
  wpAny (model prog w) A (Builtin.«zip.__next__» ⟨[.ref z],[]⟩) (λfin s'=>∃v,fin=.done (.ret v)/\Q v s') E s:=by
 (show wpAny _ _ (field (.ref z) 2 >>=_) _ _ _);refine bf (cw hz rfl (x:=.bool false) rfl ?_)
 (show wpAny _ _ (field (.ref z) 3 >>=_) _ _ _);refine bf (cw hz rfl (x:=.ref TI) rfl ?_);refine bf (wpAny_seqItems hTI rfl ?_)
 (show wpAny _ _ (Builtin.SmallTypes.ownedTupleIsFree (.ref z) >>=_) _ _ _);refine bf ?_;unfold Builtin.SmallTypes.ownedTupleIsFree
 refine bf (cw hz rfl (x:=.none) rfl (bo ?_));simp only[if_true];refine bf (wpAny_rule ?_);refine bf (cw hz rfl (x:=.ref TO) rfl ?_);refine bf (wpAny_setField_rec hz (by simp) λh₁ hz₁ hs₁=>?_)
 replace hz₁:IsZip h₁ z TI TO .ellipsis:=hz₁;refine bf ?_;simp only[List.zipIdx_cons,List.zipIdx_nil,List.forIn_cons,List.forIn_nil]
 refine bf (bf (wpAny_onRaise ?_));(show wpAny _ _ (Builtin.SmallTypes.nextOf (.ref i1) >>=_) _ _ _);refine bf (π (h1.at λo e=>hs₁.extBut _ _ D.i1z e) (hl1.extBut hs₁.extBut D.l1z) hx λh₂ h1₂ hs₂=>bo ?_);have hTO₂:IsPair h₂ TO a b:=hs₂.extBut _ _ D.TOi1 (hs₁.extBut _ _ D.TOz hTO);refine bf (wpAny_seqItems hTO₂ rfl ?_);refine bf (wpAny_updateSeq_pair hTO₂ λh₃ hTO₃ hs₃=>?_);replace hTO₃:IsPair h₃ TO x b:=hTO₃;refine bf (wpAny_letGo (bo ?_));refine bf (bf (wpAny_onRaise ?_));(show wpAny _ _ (Builtin.SmallTypes.nextOf (.ref i2) >>=_) _ _ _);refine bf (π (h2.at λo e=>hs₃.extBut _ _ D.TOi2.symm (hs₂.extBut _ _ D.i12.symm (hs₁.extBut _ _ D.i2z e))) (((hl2.extBut hs₁.extBut D.l2z).extBut hs₂.extBut D.l2i1).extBut hs₃.extBut D.l2TO) hy λh₄ h2₄ hs₄=>bo ?_);have hTO₄:IsPair h₄ TO x b:=hs₄.extBut _ _ D.TOi2 hTO₃;refine bf (wpAny_seqItems hTO₄ rfl ?_);refine bf (wpAny_updateSeq_pair hTO₄ λh₅ hTO₅ hs₅=>?_);replace hTO₅:IsPair h₅ TO x y:=hTO₅;refine bf (wpAny_letGo (bo (bo ?_)));refine bf (wpAny_seqItems hTO₅ rfl ?_);refine bf (wpAny_newTuple ?_);have g:h₅.objs.size=s.heap.objs.size:=by(rw[hs₅.1,hs₄.1,hs₃.1,hs₂.1,hs₁.1])
 have hz₅:IsZip h₅ z TI TO .ellipsis:=(hs₅.extBut _ _ D.TOz.symm (hs₄.extBut _ _ D.i2z.symm (hs₃.extBut _ _ D.TOz.symm (hs₂.extBut _ _ D.i1z.symm hz₁))));have hk₅:∀c o,c≠z->c≠TO->c≠i1->c≠i2->s.heap.get? c=some o->h₅.get? c=some o:=λc o f j m l e=>hs₅.extBut _ _ j (hs₄.extBut _ _ l (hs₃.extBut _ _ j (hs₂.extBut _ _ m (hs₁.extBut _ _ f e))));have h1₅:h₅.IsTupleIter i1 l1 (k1+1):=h1₂.at λo e=>hs₅.extBut _ _ D.TOi1.symm (hs₄.extBut _ _ D.i12 (hs₃.extBut _ _ D.TOi1.symm e));have h2₅:h₅.IsTupleIter i2 l2 (k2+1):=h2₄.at λo e=>hs₅.extBut _ _ D.TOi2.symm e;have d:z<h₅.objs.size:=(bw hz₅)
 (show wpAny _ _ (Builtin.SmallTypes.ownedTupleHandOut (.ref z) (.ref h₅.objs.size) >>=_) _ _ _);refine bf ?_;unfold Builtin.SmallTypes.ownedTupleHandOut
 have hz₆:IsZip (h₅.push { cls:=.type "tuple",data:=.seq #[x,y]}) z TI TO .ellipsis:=(bi _ hz₅);refine bf (wpAny_setField_rec hz₆ (by simp) λh₇ hz₇ hs₇=>?_);replace hz₇:IsZip h₇ z TI TO (rawInt h₅.objs.size):=hz₇;refine wpAny_setField_rec hz₇ (by simp) λh₈ hz₈ hs₈=>?_;replace hz₈:IsZip h₈ z TI TO (rawInt h₅.objs.size):=hz₈;have k:∀c o,c≠z->h₅.get? c=some o->h₈.get? c=some o:=(λc o f e=>hs₈.extBut _ _ f (hs₇.extBut _ _ f (bi _ e)));have hT₈:IsPair h₈ h₅.objs.size x y:=(hs₈.extBut _ _ (Nat.ne_of_gt d) (hs₇.extBut _ _ (Nat.ne_of_gt d) (bz _ rfl)));have i:h₈.objs.size=h₅.objs.size+1:=by(rw[hs₈.1,hs₇.1,Heap.size_push])
 (rw[g]at hz₈ hT₈ i);refine bo ⟨_,rfl,?_⟩;show Q (.ref h₅.objs.size) _;rw[g]
 exact hQ h₈ hz₈ (k _ _ D.TOz hTO₅) (h1₅.at λo e=>k _ o D.i1z e) (h2₅.at λo e=>k _ o D.i2z e) hT₈ i (λc o f j m l e=>k c o f (hk₅ c o f j m l e))
def yrj{z TI TO:x0}{b:qb}{Q:Fin->qa->Prop}(hh:A.handled=none)(D:ZipApart z TI TO i1 i2 l1 l2)(hz:IsZip s.heap z TI TO .none)(hTI:IsPair s.heap TI (.ref i1) (.ref i2))(hTO:IsPair s.heap TO a b)
  (h1:s.heap.IsTupleIter i1 l1 k1) (h2:s.heap.IsTupleIter i2 l2 k2) (hl1:s.heap.IsTuple l1 xs) (hl2:s.heap.IsTuple l2 ys) (hend:xs[k1]?=none\/ys[k2]?=none)
  (hE:∀h' e,(∀c o,c≠z->c≠TO->c≠i1->c≠i2->s.heap.get? c=some o->h'.get? c=some o)->(∃o,h'.get? e=some o/\o.cls=.type "StopIteration")->E (.ref e) {s with heap:=h'}):wpAny (model prog w) A (Builtin.«zip.__next__» ⟨[.ref z],[]⟩) Q E s:=by
 (show wpAny _ _ (field (.ref z) 2 >>=_) _ _ _);refine bf (cw hz rfl (x:=.bool false) rfl ?_)
 (show wpAny _ _ (field (.ref z) 3 >>=_) _ _ _);refine bf (cw hz rfl (x:=.ref TI) rfl ?_);refine bf (wpAny_seqItems hTI rfl ?_)
 (show wpAny _ _ (Builtin.SmallTypes.ownedTupleIsFree (.ref z) >>=_) _ _ _);refine bf ?_;unfold Builtin.SmallTypes.ownedTupleIsFree
 refine bf (cw hz rfl (x:=.none) rfl (bo ?_));simp only[if_true];refine bf (wpAny_rule ?_);refine bf (cw hz rfl (x:=.ref TO) rfl ?_);refine bf (wpAny_setField_rec hz (by simp) λh₁ hz₁ hs₁=>?_)
 replace hz₁:IsZip h₁ z TI TO .ellipsis:=hz₁;refine bf ?_;simp only[List.zipIdx_cons,List.zipIdx_nil,List.forIn_cons,List.forIn_nil]
 refine bf (bf (wpAny_onRaise ?_));(show wpAny _ _ (Builtin.SmallTypes.nextOf (.ref i1) >>=_) _ _ _)
 cases hx:xs[k1]? with
 |none =>
  refine bf (Đ hh (h1.at λo e=>hs₁.extBut _ _ D.i1z e) (hl1.extBut hs₁.extBut D.l1z) hx λh₂ e hs₂ j=>?_);let⟨k,d,f⟩:=j;have hz₂:IsZip h₂ z TI TO .ellipsis:=hs₂ _ _ D.i1z.symm hz₁;have g:e≠z:=(λx=>by(subst x;rw[hz₂]at d;cases d;simp at f));exact wpAny_setField_rec hz₂ (by simp) λh₃ Z hs₃=>hE h₃ e (λc o i Z l Z x=>hs₃.extBut _ _ i (hs₂ _ _ l (hs₁.extBut _ _ i x))) ⟨k,hs₃.extBut _ _ g d,f⟩
 |some x =>
  have m:ys[k2]?=none:=by(rcases hend with h|h;(rw[hx]at h;cases h);exact h)
  refine bf (π (h1.at λo e=>hs₁.extBut _ _ D.i1z e) (hl1.extBut hs₁.extBut D.l1z) hx λh₂ h1₂ hs₂=>bo ?_);have hTO₂:IsPair h₂ TO a b:=(hs₂.extBut _ _ D.TOi1 (hs₁.extBut _ _ D.TOz hTO));refine bf (wpAny_seqItems hTO₂ rfl ?_);refine bf (wpAny_updateSeq_pair hTO₂ λh₃ hTO₃ hs₃=>?_);refine bf (wpAny_letGo (bo ?_));refine bf (bf (wpAny_onRaise ?_));(show wpAny _ _ (Builtin.SmallTypes.nextOf (.ref i2) >>=_) _ _ _);refine bf (Đ hh (h2.at λo e=>hs₃.extBut _ _ D.TOi2.symm (hs₂.extBut _ _ D.i12.symm (hs₁.extBut _ _ D.i2z e))) (((hl2.extBut hs₁.extBut D.l2z).extBut hs₂.extBut D.l2i1).extBut hs₃.extBut D.l2TO) m λh₄ e hs₄ j=>?_);let⟨k,d,f⟩:=j;have hz₄:IsZip h₄ z TI TO .ellipsis:=hs₄ _ _ D.i2z.symm (hs₃.extBut _ _ D.TOz.symm (hs₂.extBut _ _ D.i1z.symm hz₁));have g:e≠z:=(λx=>by(subst x;rw[hz₄]at d;cases d;simp at f));exact wpAny_setField_rec hz₄ (by simp) λh₅ Z hs₅=>hE h₅ e (λc o i p l n x=>hs₅.extBut _ _ i (hs₄ _ _ n (hs₃.extBut _ _ p (hs₂.extBut _ _ l (hs₁.extBut _ _ i x))))) ⟨k,hs₅.extBut _ _ g d,f⟩
def ynd{z TI TO:x0}{x y b:qb}{Q:qj qb->qa->Prop}(D:ZipApart z TI TO i1 i2 l1 l2)(hz:IsZip s.heap z TI TO .none)(hTI:IsPair s.heap TI (.ref i1) (.ref i2))(hTO:IsPair s.heap TO a b)
  (h1:s.heap.IsTupleIter i1 l1 k1) (h2:s.heap.IsTupleIter i2 l2 k2) (hl1:s.heap.IsTuple l1 xs) (hl2:s.heap.IsTuple l2 ys) (hx:xs[k1]?=some x) (hy:ys[k2]?=some y)
  (hQ:∀h',IsZip h' z TI TO (rawInt s.heap.objs.size)->IsPair h' TO x y->h'.IsTupleIter i1 l1 (k1+1)->h'.IsTupleIter i2 l2 (k2+1)->IsPair h' s.heap.objs.size x y->h'.objs.size=s.heap.objs.size+1->(∀c o,c≠z->c≠TO->c≠i1->c≠i2->s.heap.get? c=some o->h'.get? c=some o)->Q (some (.ref s.heap.objs.size)) {s with heap:=h'}):
  wpAny (model prog w) A (pyNext (.ref z)) Q E s:=by
 have d:s.TypeIs (.ref z) "zip":=(⟨_,hz,rfl⟩);unfold pyNext;exact bf (wpAny_attempt (wpAny_callSpecial?_slot (name:=Str.ofString "__next__") d F.slot_zip_next (wpAny_call_entry F.slot_zip_next d F.entry_zip_next
   (ymy D hz hTI hTO h1 h2 hl1 hl2 hx hy λh' k f g j i e h=>bo (hQ h' k f g j i e h)) (F.args_zip_next_1 _))))
def ylm{z TI TO:x0}{b:qb}{Q:qj qb->qa->Prop}(hh:A.handled=none)(D:ZipApart z TI TO i1 i2 l1 l2)(hz:IsZip s.heap z TI TO .none)(hTI:IsPair s.heap TI (.ref i1) (.ref i2))(hTO:IsPair s.heap TO a b)
  (h1:s.heap.IsTupleIter i1 l1 k1) (h2:s.heap.IsTupleIter i2 l2 k2) (hl1:s.heap.IsTuple l1 xs) (hl2:s.heap.IsTuple l2 ys) (hend:xs[k1]?=none\/ys[k2]?=none)
  (hQ:∀h',(∀c o,c≠z->c≠TO->c≠i1->c≠i2->s.heap.get? c=some o->h'.get? c=some o)->Q none {s with heap:=h'}):wpAny (model prog w) A (pyNext (.ref z)) Q E s:=by
 have d:s.TypeIs (.ref z) "zip":=(⟨_,hz,rfl⟩);unfold pyNext;refine bf (wpAny_attempt (wpAny_callSpecial?_slot (name:=Str.ofString "__next__") d F.slot_zip_next (wpAny_call_entry F.slot_zip_next d F.entry_zip_next
  (yrj hh D hz hTI hTO h1 h2 hl1 hl2 hend λh' e h i=>?_) (F.args_zip_next_1 _))))
 let⟨o,f,g⟩:=i;refine bf (wpAny_isInstance (T:="StopIteration") (b:=true) ⟨o,f,g⟩ isSubtype_stop ?_);exact bo (hQ _ h)
end
abbrev zT1(h:qf)(l1:x0):qf:=h.push { cls:=.type "tuple_iterator",data:=.fields #[.ref l1,.int 0 0]}
abbrev zT2(h:qf)(l1 l2:x0):qf:=(zT1 h l1).push { cls:=.type "tuple_iterator",data:=.fields #[.ref l2,.int 0 0]}
abbrev zT3(h:qf)(l1 l2:x0):qf:=(zT2 h l1 l2).push { cls:=.type "tuple",data:=.seq #[.ref h.objs.size,.ref (zT1 h l1).objs.size]}
abbrev zT4(h:qf)(l1 l2:x0):qf:=(zT3 h l1 l2).push { cls:=.type "tuple",data:=.seq #[.none,.none]}
abbrev zT5(h:qf)(l1 l2:x0):qf:=(zT4 h l1 l2).push { cls:=.type "zip",data:=.fields #[.none,.bool false,.bool false,.ref (zT2 h l1 l2).objs.size,.ref (zT3 h l1 l2).objs.size]}
def yss(l1 l2:x0)(xs ys:Array qb):Meets (Builtin.«zip.__new__» ⟨[.type "zip",.ref l1,.ref l2],[]⟩) (λZ R s=>s.heap.IsTuple l1 xs/\s.heap.IsTuple l2 ys/\R (.ok (.ret (.ref (zT4 s.heap l1 l2).objs.size))) {s with heap:=zT5 s.heap l1 l2}) :=
 .of_wp λf w A R s h=>by
  let⟨k,g,d,j,l⟩:=s;let⟨a,e,h⟩:=h;have i:=sub_zip;have c:Heap.IsTuple (Shared.heap ⟨k,g,d,j,l⟩) l1 xs:=a;have b:Heap.IsTuple (Shared.heap ⟨k.push { cls:=.type "tuple_iterator",data:=.fields #[.ref l1,.int 0 0]},g,d,j,l⟩) l2 ys:=Heap.IsTuple.push e _
  wp_walk using wpAny_pyIter_tuple c,wpAny_pyIter_tuple b
  exists _,rfl,h
section
variable{prog:qh}{w:qd}{A:qe}{E:Δ}{s:qa}
def ynp{Q:Δ}(hl1:s.heap.IsTuple l1 xs)(hl2:s.heap.IsTuple l2 ys)
  (h:∀h',IsZip h' (s.heap.objs.size+4) (s.heap.objs.size+2) (s.heap.objs.size+3) .none->IsPair h' (s.heap.objs.size+2) (.ref s.heap.objs.size) (.ref (s.heap.objs.size+1))->IsPair h' (s.heap.objs.size+3) .none .none->h'.IsTupleIter s.heap.objs.size l1 0->h'.IsTupleIter (s.heap.objs.size+1) l2 0 ->
   (∀c o,s.heap.get? c=some o->h'.get? c=some o)->Q (.ref (s.heap.objs.size+4)) {s with heap:=h'}):wpAny (model prog w) A (call (.type "zip") [.ref l1,.ref l2]) Q E s:=by
 refine callType_new F.called_zip (by decide) (F.typeCall_zip_2 _ _) (F.newCall_zip_2 _ _) (λd=>F.args_object_init_3 d _ _) F.entry_zip_new (yss l1 l2 xs ys) ⟨hl1,hl2,?_⟩;have a:(zT1 s.heap l1).objs.size=s.heap.objs.size+1:=Heap.size_push ..;have e:(zT2 s.heap l1 l2).objs.size=s.heap.objs.size+2:=by rw[Heap.size_push,a]
 have b:(zT3 s.heap l1 l2).objs.size=s.heap.objs.size+3:=by rw[Heap.size_push,e]
 have f:(zT4 s.heap l1 l2).objs.size=s.heap.objs.size+4:=by rw[Heap.size_push,b]
 have g5:(zT5 s.heap l1 l2).get? (zT4 s.heap l1 l2).objs.size=some _:=bz _ rfl;have g4:(zT5 s.heap l1 l2).get? (zT3 s.heap l1 l2).objs.size=some _:=bi _ (bz _ rfl);have g3:(zT5 s.heap l1 l2).get? (zT2 s.heap l1 l2).objs.size=some _:=bi _ (bi _ (bz _ rfl));have g2:(zT5 s.heap l1 l2).get? (zT1 s.heap l1).objs.size=some _:=bi _ (bi _ (bi _ (bz _ rfl)));have g1:(zT5 s.heap l1 l2).get? s.heap.objs.size=some _:=(bi _ (bi _ (bi _ (bi _ (bz _ rfl)))));show _/\_;rw[e,b,f]at g5;rw[a,e]at g3;rw[b]at g4;rw[a]at g2;rw[f];exists⟨_,g5,rfl⟩,h _ g5 g3 g4 ⟨_,g1,rfl,rfl⟩ ⟨_,g2,rfl,rfl⟩ λc o x=>(bi _ (bi _ (bi _ (bi _ (bi _ x)))))
end
def vcv(K:xr)(a b:x0):It :=
 ⟨λi H=>∃xs ys x y,SqT K H a xs/\SqT K H b ys/\xs[i]?=some x/\ys[i]?=some y,
  λi H v H'=>∃t x y,v=.ref t/\H t=none/\H'=upd H t (.tup [x,y])/\(∀xs,SqT K H a xs->xs[i]?=some x)/\(∀ys,SqT K H b ys->ys[i]?=some y),
  λi H=>∃xs ys,SqT K H a xs/\SqT K H b ys/\(xs.length<=i\/ys.length<=i)⟩
def vfu(z TI TO i1 i2 l1 l2:x0)(i:Nat)(h:qf):Prop:=IsZip h z TI TO .none/\IsPair h TI (.ref i1) (.ref i2)/\(∃a b,IsPair h TO a b)/\h.IsTupleIter i1 l1 i/\h.IsTupleIter i2 l2 i
def Zap.apartT{X:Cx}{H:Hp}{s:qa}{z TI TO:x0}{xs ys:Ο}{us vs:Υ}(d:Zap z TI TO i1 i2)(st:vfu z TI TO i1 i2 l1 l2 i s.heap)(p:s.heap.IsTuple l1 xs.toArray)(q:s.heap.IsTuple l2 ys.toArray)(hn:H TO=none)(hK:X.K.lookup TO=none)
  (hq:SqT X.K H l1 us) (hq':SqT X.K H l2 vs):ZipApart z TI TO i1 i2 l1 l2:=by
 let⟨k,w,⟨a,b,v⟩,⟨x,m,r,_⟩,⟨A,u,t,_⟩⟩:=st;let⟨y,f,e,_⟩:=p;let⟨B,j,g,_⟩:=q
 have c:∀{l:x0}{n:Υ},SqT X.K H l n->l≠TO:=λ{l n}h=>by
  rintro rfl;rcases h with(h|⟨o,h⟩)|⟨_,_,_,h,_⟩
  .rw[hn]at h;cases h
  .rw[hn]at h;cases h
  .rw[hK]at h;cases h
 exact⟨d.a1,d.a2,d.a3,d.a4,d.a5,d.a6,d.a7,d.a8,d.a9,d.b1,
  zl f k (by rw[e];exact nT (by decide)),c hq,zl f m (by rw[e,r];decide),zl f u (by rw[e,t];decide),
  zl j k (by rw[g];exact nT (by decide)),c hq',zl j m (by rw[g,r];decide),zl j u (by rw[g,t];decide)⟩
def yh1{P:qh}{w:qd}{K:xr}{x1}(l1 l2 z TI TO i1 i2:x0)(d:Zap z TI TO i1 i2)(hKT:K.lookup TO=none):
  yfi P w K (.Tuple elts x1 tpos) (vcv K l1 l2) [z,TI,TO,i1,i2] z (vfu z TI TO i1 i2 l1 l2) where
 mem:=by simp
 obj:=λi h J b g=>by
  let⟨R,j,⟨_,_,m⟩,⟨o1,e1,_,d1⟩,⟨o2,e2,_,d2⟩⟩:=J;simp only[bB,List.not_mem_nil,or_false]at g;rcases g with rfl|rfl|rfl|rfl|rfl
  .exists _,R,λv z=>by cases z
  .exists _,j,λv z=>by cases z
  .exists _,m,λv z=>by cases z
  .exists o1,e1,λv z=>by rw[d1]at z;cases z
  .exists o2,e2,λv z=>by rw[d2]at z;cases z
 keep:=λi h h' J k=>by
  let⟨R,j,⟨a,b,m⟩,h1,h2⟩:=J;exists k z (by simp) _ R,k TI (by simp) _ j,⟨a,b,k TO (by simp) _ m⟩,h1.at λo e=>k i1 (by simp) o e,h2.at λo e=>k i2 (by simp) o e
 item:=by
  intro X hP hw hK hc i O s σ H E I C J hg;subst hP hw hK;let⟨xs,ys,x,y,Q,G,B,hy⟩:=hg;let⟨U,rv,p0,ab⟩:=I.tuple Q;let⟨L,T,Y,a0⟩:=I.tuple G;have p:s.heap.IsTuple l1 U.toArray:=p0;have p':s.heap.IsTuple l2 L.toArray:=Y;let⟨u,hu,ru⟩:=rv.get B;let⟨u',aa,a9⟩:=T.get hy;have D:=d.apartT J p p' (C TO (by simp)).1 hKT Q G;let⟨R,j,⟨va,vb,m⟩,N,M⟩:=J;refine ynd D R j m N M p p' (x:=u) (y:=u') (by simpa using hu) (by simpa using aa) λh' a1 a2 a3 a4 a5 a6 hk=>?_;exists _,rfl,wpAny_letOwnedTupleGo_zip a1 λr a7 l=>?_;have F:H s.heap.objs.size=none:=I.hok.fresh (bj _);have lz:z<s.heap.objs.size:=bw R;have lo:TO<s.heap.objs.size:=bw m;have lI:TI<s.heap.objs.size:=bw j;have ae:i1<s.heap.objs.size:=by let⟨o,e,_⟩:=id N;exact bw e
  have ad:i2<s.heap.objs.size:=by let⟨o,e,_⟩:=id M;exact bw e
  have keep:∀b o,b≠z->b≠TO->b≠i1->b≠i2->s.heap.get? b=some o->r.get? b=some o:=λb o n1 n2 n3 n4 e=>(l.2 b n1).trans (hk b o n1 n2 n3 n4 e);have a8:r.get? s.heap.objs.size=some { cls:=.type "tuple",data:=.seq #[u,u']}:=(l.2 _ (Nat.ne_of_gt lz)).trans a5;have nt:∀{b v},H b=some v->b≠z/\b≠TO/\b≠i1/\b≠i2:=λ{b v}e=>⟨yb e (C z (by simp)).1,yb e (C TO (by simp)).1,yb e (C i1 (by simp)).1,yb e (C i2 (by simp)).1⟩
  have Z:HOk X.prog X.w (upd H s.heap.objs.size (.tup [x,y])) r:=λb o e=>by
   by_cases g:b=s.heap.objs.size
   .subst g;rw[ya]at e;cases e;exists by show 2<=sizeLine;decide,[u,u'],.cons ru (.cons a9 .nil),⟨_,a8,rfl,_,rfl⟩
   .rw[yk g]at e;refine(I.hok b o e).stay (λc v t q=>?_) (λc q=>by rw[yk (yb q F)];exact q) λc ys q=>by rw[yk (yb q F)];exact q
    obtain⟨n1,n2,n3,n4⟩:c≠z/\c≠TO/\c≠i1/\c≠i2:=by
     rcases t with rfl|t
     .exact nt e
     .exact nt t
    exact keep c v n1 n2 n3 n4 q
  have un:Un (frs X.stack) [z,TI,TO,i1,i2] H (upd H s.heap.objs.size (.tup [x,y])) s.heap r:=by
   have S:∀{b o},b∉[z,TI,TO,i1,i2]->s.heap.get? b=some o->r.get? b=some o:=λ{b o}g e=>keep b o (λq=>g (by simp[q])) (λq=>g (by simp[q])) (λq=>g (by simp[q])) (λq=>g (by simp[q])) e
   refine⟨λb o e n W B=>S B e,λb o e n W B=>⟨o.slots,S B e⟩,λb o e n W=>by rw[yk (bQ (bw e))];exact n,λb o e B=>⟨o,S B e⟩,
    λb ys e=>by rw[yk (yb e F)];exact e,λb o v e=>by rw[yk (yb e F)];exact e,λb ps e=>⟨#[],by rw[yk (yb e F),e];simp⟩⟩
  have I1:Inv X O σ (upd H s.heap.objs.size (.tup [x,y])) {s with heap:=r}:=I.call' (s':={s with heap:=r}) rfl un Z I.bare λb g=>by
   have f:=C b g;exact⟨f.2.2.2.1,f.2.1,f.2.2.2.2.1,f.2.2.2.2.2⟩
  exists .ref s.heap.objs.size,_,I1,rfl,⟨_,x,y,rfl,F,rfl,λzs h=>by rw[I.tuple_inj h Q];exact B,λzs h=>by rw[I.tuple_inj h G];exact hy⟩,?_,λb g=>?_
  .exists a7,keep _ _ D.TIz D.TITO D.TIi1 D.TIi2 j,⟨u,u',(l.2 _ D.TOz).trans a2⟩,a3.at λo e=>(l.2 _ D.i1z).trans e,a4.at λo e=>(l.2 _ D.i2z).trans e
  .rw[yk (λq=>?_)]
   .exact(C b g).1
   .have Q:b<s.heap.objs.size:=by
     simp only[bB,List.not_mem_nil,or_false]at g;rcases g with rfl|rfl|rfl|rfl|rfl<;>assumption
    exact absurd q (bQ Q)
 done:=by
  intro X hP hw hK hc i O s σ H E I C J hg;subst hP hw hK;let⟨xs,ys,Q,G,B⟩:=hg;let⟨U,rv,p0,ab⟩:=I.tuple Q;let⟨L,T,Y,a0⟩:=I.tuple G;have p:s.heap.IsTuple l1 U.toArray:=p0;have p':s.heap.IsTuple l2 L.toArray:=Y;have D:=d.apartT J p p' (C TO (by simp)).1 hKT Q G;let⟨R,j,⟨va,vb,m⟩,N,M⟩:=J;have hl:=rv.length;have ac:=T.length;refine ylm (show X.A.handled=none from I.ok.hd hc) D R j m N M p p' (by simp;omega) λh' hk=>⟨rfl,?_⟩;have nt:∀{b v},H b=some v->b≠z/\b≠TO/\b≠i1/\b≠i2:=λ{b v}e=>⟨yb e (C z (by simp)).1,yb e (C TO (by simp)).1,yb e (C i1 (by simp)).1,yb e (C i2 (by simp)).1⟩
  have Z:HOk X.prog X.w H h':=λb o e=>by
   refine(I.hok b o e).stay (λc v t q=>?_) (λc q=>q) λc ys q=>q
   obtain⟨n1,n2,n3,n4⟩:c≠z/\c≠TO/\c≠i1/\c≠i2:=by
    rcases t with rfl|t
    .exact nt e
    .exact nt t
   exact hk c v n1 n2 n3 n4 q
  have un:Un (frs X.stack) [z,TI,TO,i1,i2] H H s.heap h':=by
   have S:∀{b o},b∉[z,TI,TO,i1,i2]->s.heap.get? b=some o->h'.get? b=some o:=λ{b o}g e=>hk b o (λq=>g (by simp[q])) (λq=>g (by simp[q])) (λq=>g (by simp[q])) (λq=>g (by simp[q])) e;exists λb o e n W B=>S B e,λb o e n W B=>⟨o.slots,S B e⟩,λb o e n W=>n,λb o e B=>⟨o,S B e⟩,λb ys e=>e,λb o v e=>e,λb ps e=>⟨#[],by rw[e];simp⟩
  exact I.call' (s':={s with heap:=h'}) rfl un Z I.bare λb g=>by
   have f:=C b g;exact⟨f.2.2.2.1,f.2.1,f.2.2.2.2.1,f.2.2.2.2.2⟩
 self:=λW W W W W J h=>wpAny_pyIter_zip J.1 h
section
variable{X:Cx}
def vb6(K:xr)(ta:TA):TI:=λσ H R=>ta σ H λvs H1=>∃a b,vs=[.ref a,.ref b]/\(∃xs ys,SqT K H1 a xs/\SqT K H1 b ys)/\R (vcv K a b) H1
def yq7{x1}{l m:qg}{ta:TA}{p pos:Pos}(hg:Gl X "zip")(hm:X.mg "zip"=none)(ha:PA X [l,m] ta)(hs:starEach [l,m] X.env=[(false,eval l X.env),(false,eval m X.env)]:=by rfl)(hs2:starEach [m] X.env=[(false,eval m X.env)]:=by rfl):
  PI X (.Tuple elts x1 tpos) (.Call (.Name "zip" p) [l,m] [] pos) (vb6 X.K ta):=by
 intro f s σ H R I h;refine Call_ (Į I hg hm (show bootBuiltins "zip"=some (.type "zip") by decide+kernel) (PyProof.Rows.callWith_type1 (thn (ha pos f s σ H _ I h) λN c h'=>?_) (by rw[hs,hs2]) (by rw[hs2];rfl)));let⟨L,y,d,A,z⟩:=h';let⟨a,b,e,⟨M,P,B,j⟩,q⟩:=z;subst e
 cases A with
 |cons r rr =>
  cases rr with
  |cons r' rr =>
   cases rr;cases r;cases r';let⟨n,Q,D,w⟩:=d.tuple B;let⟨i,C,x,J⟩:=d.tuple j;refine ynp (show c.heap.IsTuple a n.toArray from D) (show c.heap.IsTuple b i.toArray from x) λO w v k G F E=>?_;refine wpAny_pyIter_zip w ?_
   have u:X.K.lookup (c.heap.objs.size+3)=none:=by
    cases hl:X.K.lookup (c.heap.objs.size+3)with
    |none=>rfl
    |some o=>exact absurd (bw (d.kIn _ o hl)) (Nat.not_lt.mpr (Nat.le_add_right _ _))
   have t:Zap (c.heap.objs.size+4) (c.heap.objs.size+2) (c.heap.objs.size+3) c.heap.objs.size (c.heap.objs.size+1):=ypf _;exists c.heap.objs.size+4,[c.heap.objs.size+4,c.heap.objs.size+2,c.heap.objs.size+3,c.heap.objs.size,c.heap.objs.size+1],_,_,y,rfl,d.kept (t':=c.toks) E,yh1 a b _ _ _ _ _ t u,⟨w,v,⟨_,_,k⟩,G,F⟩,λb g=>?_,q
   have g:c.heap.objs.size<=b:=by
    simp only[bB,List.not_mem_nil,or_false]at g;rcases g with rfl|rfl|rfl|rfl|rfl<;>omega
   exact d.fpOk g (d.hok.fresh g)
def yqv{K:xr}{ta:TA}{σ:St}{H:Hp}{R:It->Hp->Prop}(h:ta σ H λvs H1=>∃a b,vs=[.ref a,.ref b]/\(∃xs ys,SqT K H1 a xs/\SqT K H1 b ys)/\R (vcv K a b) H1):vb6 K ta σ H R:=h
end
def yce{K:xr}{a b D:x0}{xs ys:Υ}{g:TG}{te:TE}{n m:Nat}{fr:St}{R:Hp->Prop}{H1:Hp}(f:Nat->V)(hq:SqT K H1 a xs)(hq':SqT K H1 b ys)(h1:m<=xs.length)(h2:m<=ys.length)(h3:xs.length<=m\/ys.length<=m)(hD:H1 D=none)
  (hs:∀i x y H t pre,i<m->xs[i]?=some x->ys[i]?=some y->yv H1 H->H D=some (.lst ((List.range i).map f))->H t=none->List.length pre=n->g (.ref t) (pre++fr) (upd H t (.tup [x,y])) λσ' H'=>(∃pre',List.length pre'=n/\σ'=pre'++fr)/\te σ' H' (MpK H1 D f m i))
  (hd:∀H,yv H1 H->H D=some (.lst ((List.range m).map f))->R H):ju (vcv K a b) g te n fr D R H1:=by
 exists cW m (Mp H1 D f),⟨m,by simp,bJ _,Mp.zero hD⟩,?_;rintro i j H ⟨rfl,r,p⟩;have q:=p.1.tup hq;have c:=p.1.tup hq';by_cases hlt:i<m
 .refine .inr ⟨⟨xs,ys,xs[i]'(by omega),ys[i]'(by omega),q,c,bg _,bg _⟩,λy H' pre l k=>?_⟩;let⟨t,x,y,rfl,h,rfl,o,d⟩:=l;exact hs i x y H t pre hlt (o xs q) (d ys c) p.1 p.2 h k
 .have e:i=m:=by omega
  subst e;exact .inl ⟨⟨xs,ys,q,c,h3⟩,hd H p.1 p.2⟩
end L2
namespace L2
open PySem PySem.Spec PyProof.Rows HT
section
variable{prog:qh}{w:qd}{A:qe}{E:Δ}{s:qa}
def ycy{t sl:x0}{items:Array qb}{vl vu:qb}{lo hi:qj Int}{Q:Δ}(ht:IsTup s.heap t items)(hs:s.heap.IsSliceOf sl vl vu .none)(pl:IsPart vl lo)(pu:IsPart vu hi)
  (hw:sIx items.size 0 lo=0/\sIx items.size items.size hi=items.size) (h:Q (.ref t) s):wpAny (model prog w) A (getItem (.ref t) (.ref sl)) Q E s:=by
 let⟨e,d,b,f⟩:=id hs;have c:s.TypeIs (.ref sl) "slice":=⟨e,d,b⟩;unfold getItem
 try with_reducible refine wpAny_holding ?_
 first|refine bf (bo ?_)|skip
 refine bf (wpAny_sequenceKey ht.typeIs (by decide) ?_);refine bf (wpAny_callSpecial?_slot (name:=Str.ofString "__getitem__") ht.typeIs PyProof.Rows.slot_tuple_getitem
  (wpAny_call_entry PyProof.Rows.slot_tuple_getitem ht.typeIs entry_tuple_getitem ?_ (args_tuple_getitem _ _)))
 show wpAny _ _ (Builtin.Tuple.tupleItemsOf (.ref t) >>=_) _ _ s;refine bf (tupleItemsOf_ ht ?_);refine bf (wpAny_typeOf c ?_);rw[if_pos (by decide)];refine bf (ji hs pl pu ?_)
 have a:(((sIx items.size 0 lo:Nat):Int) == 0 && (1:Int) == 1 && (sIx items.size items.size hi-sIx items.size 0 lo) == items.size)=true:=by
  rw[hw.1,hw.2];simp
 show wpAny _ _ (if (((sIx items.size 0 lo:Nat):Int) == 0 && (1:Int) == 1 && (sIx items.size items.size hi-sIx items.size 0 lo) == items.size)=true then _ else _) _ _ s;rw[if_pos a];refine bf (m:=Builtin.Tuple.tupleIsExact _) ?_;unfold Builtin.Tuple.tupleIsExact;refine bf (wpAny_typeOf ht.typeIs (bo ?_));show wpAny _ _ (if (Value.type "tuple" == Value.type "tuple")=true then _ else _) _ _ s;rw[if_pos (by decide)]
 first
  |exact bf (wpAny_rule (bo ⟨_,rfl,bo h⟩))
  |exact bf (wpAny_rule (bf (bo (bo ⟨_,rfl,bo h⟩))))
  |exact bf (bf (wpAny_rule (bo (bo ⟨_,rfl,bo h⟩))))
end
section
variable{X:Cx}
def vea(K:xr):V->qj Int->qj Int->Hp->VK->Prop:=λx lo hi H Q=>∃a xs,x=.ref a/\SqT K H a xs/\(HT.sIx xs.length 0 lo=0/\HT.sIx xs.length xs.length hi=xs.length)/\Q (.ref a) H
def yq2:SlR X (vea X.K):=by
 intro d s σ H x v p n lo u t Q I j m g l h;let⟨a,f,rfl,k,i,q⟩:=h;cases j;let⟨c,r,e,o⟩:=I.tuple k;have b:c.toArray.size=f.length:=by rw[bx];exact r.length.symm
 exact⟨"tuple",_,PyProof.Rows.slot_tuple_getitem.lookup,e.typeIs,ycy e m g l (by rw[b];exact i) ⟨.ref a,H,I,rfl,q⟩⟩
end
end L2
namespace L2
open PySem PySem.Spec PyProof.Rows PySem.SeqAt
open AutoSeq1 (wpAny_loadPart')
end L2
namespace L2
open PySem PySem.Spec PyProof.Rows
variable{C D it:x0}{tg:qg}{fd:FuncData}{pins:Θ}{ep i j:Nat}{P:qh}{p0 p1 p2 p3 qual:Str}{ov:qb}{Q:Δ}
def yc7{X:Cx}{K:xr}{e:qg}{f:Str}{pos:Pos}{ta:TE}(hK:X.K=K)(he:PE X e ta)(hb:attributeBase e f X.env (eval e X.env)=eval e X.env):PE X (.Attribute e f pos) (vfa K ta f):=hK ▸ yn he hb
def χ(J:It)(tc:TT)(te:TE)(fr:St)(D:x0)(R:Hp->Prop)(H1:Hp):Prop:=∃W:Nat->Nat->Hp->Prop,(∃m,W 0 m (upd H1 D (.lst [])))/\
 ∀i m H2,W i m H2->(J.stop i H2/\R H2)\/(J.go i H2/\∀x H3,J.yld i H2 x H3->tc (some x::fr) H3 λb H4=>if b=true then te (some x::fr) H4 (λy H5=>∃ys,H5 D=some (.lst ys)/\ys.length<sizeLine/\∃m',m'<m/\W (i+1) m' (upd H5 D (.lst (ys++[y]))))else ∃m',m'<m/\W (i+1) m' H4)
def yks(wi:TI)(tc:TT)(te:TE)(js:qi Nat):TE:=λσ H Q=>wi σ H λJ H1=>∀D,H1 D=none->χ J tc te (ud js σ) D (λH2=>Q (.ref D) H2) H1
section
variable{X:Cx}{iter elt cnd:qg}{tc:TT}{x:Str}{px pos:Pos}{scope:Scope}{te:TE}{wi:TI}{σ:St}{ys:Τ}{js:qi Nat}
def yya{J:It}{fr:St}{R:Hp->Prop}{H1:Hp}(h:χ J tc te fr D R H1):yiv J (w8 0) tc te 1 fr D R H1:=by let⟨W,g,e⟩:=h;exists W,g,λi m j w=>(e i m j w).imp id λ⟨k,y⟩=>⟨k,λx f d b c=>?_⟩;let⟨z,t,rfl,a⟩:=jb c;obtain rfl:=List.length_eq_zero_iff.mp a;exists⟨[some x],rfl,rfl⟩,y x f b
def Ŏ{s2:qa}{H2:Hp}{fp:Χ}{tn:Nat->qf->Prop}{J:It}(hc:X.calm=true)
  (ht:∀(C:x0)(s2:qa)(H2:Hp)(fp:Χ),PT (X.compF scope ys C x s2 H2 fp) cnd tc) (he:∀(C:x0)(s2:qa)(H2:Hp)(fp:Χ),PE (X.compF scope ys C x s2 H2 fp) elt te)
  (hcell:∀y∈scope.names,y.2≠.cell) (hkind:scope.kind=.function) (hx:scope.names.lookup x=some .local) (hnd:(x::ys).Nodup)
  (hfr:∀y∈scope.names,y.2=.free->y.1∈ys) (hyc:∀y∈ys,X.env.kindOf y=some .cell) (hrel:∀y∈ys,(relabel scope X.env).names.lookup y=some .cell) (hjs:js.map (λj=>X.N[j]?)=ys.map some)
  (I2:Inv X pins σ H2 s2) (T:yfi X.prog X.w X.K (.Name x px) J fp it tn) (st2:tn 0 s2.heap) (f2:∀b∈fp,yb9 X pins H2 b)
  {R:x0->Hp->Prop} (h:∀D,H2 D=none->χ J tc te (ud js σ) D (R D) H2) {RR:qb->x0->Result->qa->Prop} {E:Δ}
  (hR:∀(D C:x0)(H':Hp)(s':qa)(m:Ε),yb9 X pins H' C->s'.heap.Ns C m->Inv X pins σ H' s'->R D H'->RR (.ref D) C (.ok .next) s'):
  wpAny (model X.prog X.w) X.A (newList []) (λacc s₃=>wpAny (model X.prog X.w) X.A (newFunctionEnv scope X.env.globals (ñ ys X.env) [] X.env.qual none .none (some X.env)) (λcenv s₄ =>
   codeAny (model X.prog X.w) X.A (.compStart (.ListComp elt [⟨.Name x px,iter,[cnd],0⟩] scope pos) 0 (.ref it) acc {cenv with scope:=relabel scope X.env}) (RR acc cenv.locals) s₄) E s₃) E s2 :=
 Ō (tg:=.Name x px) (xs:=[x]) (g:=w8 0) hc (λC s2 H2 fp=>yqs (ht C s2 H2 fp)) he (λC s2 H2 fp=>vk (i:=0) hnd rfl (Or.inl (lookup_relabel_local hx)) (Or.inr (lookup_relabel_local hx))) hcell hkind hfr hyc hrel hjs I2 T st2 f2 (λD a=>yya (h D a)) hR
def yeb(hc:X.calm=true)(hi:PI X (.Name x px) iter wi)(ht:∀(C:x0)(s2:qa)(H2:Hp)(fp:Χ),PT (X.compF scope ys C x s2 H2 fp) cnd tc)(he:∀(C:x0)(s2:qa)(H2:Hp)(fp:Χ),PE (X.compF scope ys C x s2 H2 fp) elt te)(hjs:js.map (λj=>X.N[j]?)=ys.map some)
  (hclos:closureFor scope X.env=pure (ñ ys X.env)) (hnd:(x::ys).Nodup:=by decide) (hyc:∀y∈ys,X.env.kindOf y=some .cell) (hrel:∀y∈ys,(relabel scope X.env).names.lookup y=some .cell)
  (hfr:∀y∈scope.names,y.2=.free->y.1∈ys:=by decide+kernel) (hcell:∀y∈scope.names,y.2≠.cell:=by decide+kernel) (hkind:scope.kind=.function:=by rfl)
  (hnames:∀y∈scope.names,y.2=.local->scope.names.lookup y.1=some .local:=by decide+kernel) (hx:scope.names.lookup x=some .local:=by rfl) (hs:∀x,foldedSetIterable iter X.env x=pure x:=by intro _;rfl):
  PE X (.ListComp elt [⟨.Name x px,iter,[cnd],0⟩] scope pos) (yks wi tc te js):=by refine .mk λa s σ H Q I h=>?_;rw[eval_ListComp];refine wpAny_comprehension_free (use:=none) rfl hs hclos hkind hnames (thn (hi a s σ H _ I h) λv F u=>thn u λp s2 z=>?_);let⟨G,fp,B,J,H2,e,k,T,d,g,h⟩:=z;subst e;refine Ŏ (R:=λD c=>Q (.ref D) c) (RR:=compPost (model X.prog X.w) X.A X.xe none (EP X a σ Q)) hc ht he hcell hkind hx hnd hfr hyc hrel hjs k T d g h ?_;intro D C c n m f t l q;exists m,t,λE r=>⟨.ref D,c,?_,rfl,q⟩;exact l.turned (t':=n.toks) (λb o i e=>r.extBut b o i e) f.1 f.2.1 f.2.2.2.1 f.2.2.2.2.1 f.2.2.2.2.2
def ż{y:Str}{py spos:Pos}(hN:X.N.Nodup)(hy:X.N[i]?=some y)(hl:X.env.scope.names.lookup y=some .local)(hc:X.calm=true)(hi:PI X (.Name x px) iter wi)
  (ht:∀(C:x0)(s2:qa)(H2:Hp)(fp:Χ),PT (X.compF scope ys C x s2 H2 fp) cnd tc) (he:∀(C:x0)(s2:qa)(H2:Hp)(fp:Χ),PE (X.compF scope ys C x s2 H2 fp) elt te) (hjs:js.map (λj=>X.N[j]?)=ys.map some)
  (hclos:closureFor scope X.env=pure (ñ ys X.env)) (hyc:∀y∈ys,X.env.kindOf y=some .cell) (hrel:∀y∈ys,(relabel scope X.env).names.lookup y=some .cell)
  (hsw:swapsWith (.ListComp elt [⟨.Name x px,iter,[cnd],0⟩] scope pos) (some (.Name y py)) spos.line X.env=pure true:=by rfl) (hnd:(x::ys).Nodup:=by decide)
  (hfr:∀y∈scope.names,y.2=.free->y.1∈ys:=by decide+kernel) (hcell:∀y∈scope.names,y.2≠.cell:=by decide+kernel) (hkind:scope.kind=.function:=by rfl)
  (hnames:∀y∈scope.names,y.2=.local->scope.names.lookup y.1=some .local:=by decide+kernel) (hx:scope.names.lookup x=some .local:=by rfl) (hs:∀x,foldedSetIterable iter X.env x=pure x:=by intro _;rfl):
  PS X (.Assign [.Name y py] (.ListComp elt [⟨.Name x px,iter,[cnd],0⟩] scope pos) spos) (ywp (yks wi tc te js) (w8 i)):=by
 refine .mk λa s σ H l I h=>?_;rw[exec_Assign_Name_used _ _ _ _ hsw];refine bf (wpAny_standAt (bf ?_));show wpAny _ X.A (do let _ <- comprehension (.ListComp elt [⟨.Name x px,iter,[cnd],0⟩] scope pos) scope X.env _ (newList []) false (eval iter X.env) (some (assign (.Name y py) X.env))) _ _ s;refine bf (cM (wpAny_comprehension_free (use:=some (assign (.Name y py) X.env)) (Q:=λZ d=>SP X a l .next d) rfl hs hclos hkind hnames (thn (hi a s σ H _ I h) λv U L=>thn L λB s2 K=>?_)) (λZ d E=>bo (bo E)) λZ Z e=>e);let⟨S,fp,P,J,H2,e,G,T,p,M,h⟩:=K;subst e;refine Ŏ (R:=λD n=>w8 i (.ref D) σ n l.nx) (RR:=compPost (model X.prog X.w) X.A X.xe (some (assign (.Name y py) X.env)) (λZ d=>SP X a l .next d)) hc ht he hcell hkind hx hnd hfr hyc hrel hjs G T p M h ?_;intro D C n d m f F u q;refine wpAny_assign_Name (È (v:=V.ref D) u hN hy (Or.inl hl) rfl (λr k g=>?_) (Or.inr hl));exists m,?_,λO t=>⟨_,n,?_,q⟩
 .obtain⟨b,t,c⟩:=g;refine F.sameBut t λz=>?_;rcases c with c|c
  .exact f.2.1 (z.trans c)
  .exact f.2.2.2.2.1 y b c z.symm
 .exact k.turned (t':=r.toks) (λb o c e=>t.extBut b o c e) f.1 f.2.1 f.2.2.2.1 f.2.2.2.2.1 f.2.2.2.2.2
def ys4{H:Hp}{Q:VK}(h:wi σ H λJ H1=>∀D,H1 D=none->χ J tc te (ud js σ) D (λH2=>Q (.ref D) H2) H1):yks wi tc te js σ H Q:=h
def yc4{lo:Int}{n:Nat}{fr:St}{R:Hp->Prop}{H1:Hp}(Pv:Nat->Hp->Prop)(h0:Pv 0 (upd H1 D (.lst [])))
  (hs:∀i H,i<n->Pv i H->tc (some (.int (lo+i))::fr) H λb H4=>if b=true then te (some (.int (lo+i))::fr) H4 (λy H5=>∃ys,H5 D=some (.lst ys)/\ys.length<sizeLine/\∃m',m'<n-i/\cW n Pv (i+1) m' (upd H5 D (.lst (ys++[y]))))else ∃m',m'<n-i/\cW n Pv (i+1) m' H4)
  (hd:∀H,Pv n H->R H):χ (Itr lo n) tc te fr D R H1:=by
 exists cW n Pv,⟨n,by simp,bJ _,h0⟩,?_;rintro i m H ⟨rfl,c,p⟩;by_cases hlt:i<n
 .refine .inr ⟨hlt,λx a y=>?_⟩;let⟨e,y⟩:=y;subst e y;exact hs i _ hlt p
 .have e:i=n:=by omega
  subst e;exact .inl ⟨bj _,hd H p⟩
def jp{n:Nat}{Pv:Nat->Hp->Prop}{H4:Hp}(hi:i<n)(p:Pv (i+1) H4):∃m',m'<n-i/\cW n Pv (i+1) m' H4:=⟨n-(i+1),by omega,rfl,hi,p⟩
end
structure ê(K:xr)(x qual:Str)(st:qc)(D:x0)(f:x0)(fd:FuncData):Prop where
 ex:∃(oc:qb)(od:qj x0)(kV doc pm:qb)(an:qj x0)(cdv ct:qb)(osl:Array (qj qb)),
  fd=W.fnOf x qual (wt st) (wd st) (yd st) (.ref D) kV doc pm an cdv ct/\K.lookup f=some ⟨oc,od,.func fd,osl⟩/\W.codeIn K cdv qual=true
 kp:W.keepIn K (.ref f)=true
section
variable{w:qd}{K:xr}{mg:Ε}{base:qf}
def ê.ok{x:Str}{st:qc}{f:x0}{N ps:Τ}{k:Nat}{sp:Sp}(F:ê K x qual st D f fd)(S:yi N ps (yd st))(len:∀vs H Q E,sp vs H Q E->vs.length=ps.length)
  (hbody:∀(cdv:qb)(A:qe)(outer:qi Env)(s:qa)(H:Hp)(vs:Υ)(Q:VK)(E:XK),jh k (A.deeper (envOfC qual (yd st) s.heap.objs.size f cdv))->sp vs H Q E ->
   ∃t,PSs (vy CX0 P w K mg base N qual (yd st) f cdv A outer s H E).nox (wd st) t/\t { nx:=λZ H'=>Q .non H',rt:=Q} (é N vs) H):vz P w K mg base CX0 (k+1) f fd ps sp:=by let⟨n,i,kV,e,j,l,cdv,m,d,rfl,g,a⟩:=F.ex;refine ynu g a S len λA outer s H vs Q E c b=>?_;let⟨t,h,q⟩:=hbody cdv A outer s H vs Q E c b;exact⟨t,h.nox,q⟩
def ê.okE{x:Str}{st:qc}{f:x0}{N ps:Τ}{k:Nat}{sp:Sp}(F:ê K x qual st D f fd)(S:yi N ps (yd st))(len:∀vs H Q E,sp vs H Q E->vs.length=ps.length)
  (hbody:∀(cdv:qb)(A:qe)(outer:qi Env)(s:qa)(H:Hp)(vs:Υ)(Q:VK)(E:XK),jh k (A.deeper (envOfC qual (yd st) s.heap.objs.size f cdv))->sp vs H Q E ->
   ∃t,PSs (vy (CXe P w) P w K mg base N qual (yd st) f cdv A outer s H E) (wd st) t/\t { nx:=λZ H'=>Q .non H',rt:=Q} (é N vs) H):vz P w K mg base (CXe P w) (k+1) f fd ps sp:=by let⟨m,h,kV,e,i,j,cdv,l,d,rfl,g,a⟩:=F.ex;exact ynu g a S len λA outer s H vs Q E c b=>hbody cdv A outer s H vs Q E c b
def ve7:Nat->(qi qb->Prop)->Prop
 |0,C=>C []
 |n+1,C=>∀a,ve7 n λt=>C (a::t)
def yrc:∀{n:Nat}{C:qi qb->Prop}{us:Ο},ve7 n C->us.length=n->C us:=by
 intro n C us
 induction us generalizing n C with
 |nil=>intro h e;subst e;exact h
 |cons a t ih=>intro h e;subst e;exact ih (h a) rfl
def ê.binds{x:Str}{st:qc}{f:x0}{ps:Τ}{ds:Ο}{o:Obj}{its:Array qb}{n:Nat}(hj:j+ds.length=ps.length)(F:ê K x qual st D f fd)(hD:K.lookup D=some o)(ho:o.data=.seq its n)
  (h:∀(kV doc pm:qb)(an:qj x0)(cdv ct:qb),ve7 j λus =>
   ∃k:qj (Array qb)->Sem (qi (Str×qb)),bindArgs (W.fnOf x qual (wt st) (wd st) (yd st) (.ref D) kV doc pm an cdv ct) ⟨us,[]⟩=(seqItems? (.ref D) >>=k)/\k (some its)=pure (ps.zip (us++ds))):xw K fd ps ds:=by let⟨m,i,kV,doc,pm,an,cdv,ct,c,rfl,l,b⟩:=F.ex;intro s us d a;let⟨k,g,e⟩:=yrc (us:=us) (h kV doc pm an cdv ct) (by rw[bp]at a;omega);exact BindsTo.of_defaults rfl (d _ _ hD) ho g e
def â{x:Str}{st:qc}{f:x0}{oc:qb}{od an:qj x0}{osl:Array (qj qb)}{kV doc pm cdv ct:qb}(l:K.lookup f=some ⟨oc,od,.func (W.fnOf x qual (wt st) (wd st) (yd st) (.ref D) kV doc pm an cdv ct),osl⟩)
  (c:W.codeIn K cdv qual=true) (k:W.keepIn K (.ref f)=true):ê K x qual st D f (W.fnOf x qual (wt st) (wd st) (yd st) (.ref D) kV doc pm an cdv ct):=⟨⟨oc,od,kV,doc,pm,an,cdv,ct,osl,rfl,l,c⟩,k⟩
end
def ygf{K:xr}{a:x0}{xs:Υ}{g:TG}{te:TE}{n:Nat}{fr:St}{R:Hp->Prop}{H1:Hp}(Pv:Nat->Hp->Prop)(h0:Pv 0 (upd H1 D (.lst [])))(hl:∀i H,i<=xs.length->Pv i H->SqL K H a xs)
  (hs:∀i x H pre,xs[i]?=some x->i<xs.length->Pv i H->List.length pre=n->g x (pre++fr) H λσ' H'=>(∃pre',List.length pre'=n/\σ'=pre'++fr)/\te σ' H' λy H4=>∃ys,H4 D=some (.lst ys)/\ys.length<sizeLine/\∃m',m'<xs.length-i/\cW xs.length Pv (i+1) m' (upd H4 D (.lst (ys++[y]))))
  (hd:∀H,Pv xs.length H->R H):ju (Itl K a) g te n fr D R H1:=by
 exists cW xs.length Pv,⟨xs.length,by simp,bJ _,h0⟩,?_;rintro i m H ⟨rfl,b,p⟩;have q:=hl i H b p;by_cases hlt:i<xs.length
 .refine .inr ⟨⟨xs,xs[i],q,by simp[hlt]⟩,λx H' pre y c=>?_⟩;let⟨e,y⟩:=y;subst e;exact hs i x _ pre (y xs q) hlt p c
 .have e:i=xs.length:=by omega
  subst e;exact .inl ⟨⟨xs,q,bj _⟩,hd H p⟩
def yqz(K:xr):qi V->Hp->VK->Prop:=λxs H Q=>∃p ys,xs=[.ref p]/\(SqL K H p ys\/SqT K H p ys)/\∀l,H l=none->Q (.ref l) (upd H l (.lst ys))
def yln{pre:qi (Ψ)}(h:List.length pre=3):∃v1 v2 v3,pre=[v1,v2,v3]:=by let⟨v1,t,rfl,c⟩:=jb h;let⟨v2,t,rfl,a⟩:=jb c;let⟨v3,t,rfl,b⟩:=jb a;exists v1,v2,v3,by rw[List.length_eq_zero_iff.mp b]
section
variable{X:Cx}{body suite:qi qc}{b₀:qc}{tx n:Str}{np hpos pos:Pos}{tb:(St->XK)->TS}{ts:TS}
abbrev THs:=ā->St->x0->x0->Hp->Prop
end
structure Dg(K:xr)(x q:Str)(st:qc)(f:x0)(fd:FuncData)(M:Prop):Prop where
 F:Fun K x q st f fd
 m:M
structure Df(K:xr)(x q:Str)(st:qc)(ps:Τ)(f:x0)(fd:FuncData)(M:Prop):Prop where
 F:Fun K x q st f fd
 B:xw K fd ps []
 m:M
def Ń{α:Type}{n:Nat}{a:qi α}(h:a.length=n+1):∃x r,a=x::r/\r.length=n:=by
 cases a with
 |nil=>cases h
 |cons x r=>exists x,r,rfl,Nat.succ.inj h
abbrev Dgf(K:xr)(mg:Ε)(x:Str)(st:qc)(f:x0)(fd:FuncData):Prop:=Dg K x x st f fd (mg x=some (.ref f))
abbrev Dgm(K:xr)(C:x0)(x q:Str)(st:qc)(f:x0)(fd:FuncData):Prop:=Dg K x q st f fd (yv9 K C x f)
abbrev Dff(K:xr)(mg:Ε)(x:Str)(st:qc)(ps:Τ)(f:x0)(fd:FuncData):Prop:=Df K x x st ps f fd (mg x=some (.ref f))
abbrev Dfm(K:xr)(C:x0)(x q:Str)(st:qc)(ps:Τ)(f:x0)(fd:FuncData):Prop:=Df K x q st ps f fd (yv9 K C x f)
section
variable{K:xr}{mg:Ε}{h:qf}{x q:Str}{st:qc}{f:x0}{M:Prop}{oc kV doc pm cdv ct:qb}{od an:qj x0}{osl:Array (qj qb)}
def dgf_mk(X:K.In h)(G:h.Ns mainGlobals mg)(a:W.nsIn K mainGlobals x=some (some (.ref f)))(l:K.lookup f=some ⟨oc,od,.func (W.fnOf x x (wt st) (wd st) (yd st) .none kV doc pm an cdv ct),osl⟩)
  (c:W.codeIn K cdv x=true) (k:W.keepIn K (.ref f)=true):Dgf K mg x st f (W.fnOf x x (wt st) (wd st) (yd st) .none kV doc pm an cdv ct):=⟨ypj l c k,W.mg_of X G a⟩
def dgm_mk(a:W.findIn K (.ref C) x=some (some (.ref f)))(i:W.isFn K (.ref f)=true)(l:K.lookup f=some ⟨oc,od,.func (W.fnOf x q (wt st) (wd st) (yd st) .none kV doc pm an cdv ct),osl⟩)
  (c:W.codeIn K cdv q=true) (k:W.keepIn K (.ref f)=true):Dgm K C x q st f (W.fnOf x q (wt st) (wd st) (yd st) .none kV doc pm an cdv ct):=⟨ypj l c k,a,i,k⟩
def Dg.d1(D:Dg K x q st f fd M)(h:∀(kV doc pm:qb)(an:qj x0)(cdv ct:qb)(u0:qb),bindArgs (W.fnOf x q (wt st) (wd st) (yd st) .none kV doc pm an cdv ct) ⟨[u0],[]⟩=pure [(p0,u0)]:=by intros;rfl):Df K x q st [p0] f fd M :=
 ⟨D.F,D.F.binds λkV doc pm an cdv ct d a=>(by
  let⟨u0,c,rfl,b⟩:=Ń a;obtain rfl:=ck b;exact h kV doc pm an cdv ct u0),D.m⟩
def Dg.d2(D:Dg K x q st f fd M)(h:∀(kV doc pm:qb)(an:qj x0)(cdv ct:qb)(u0 u1:qb),bindArgs (W.fnOf x q (wt st) (wd st) (yd st) .none kV doc pm an cdv ct) ⟨[u0,u1],[]⟩=pure [(p0,u0),(p1,u1)]:=by intros;rfl):Df K x q st [p0,p1] f fd M :=
 ⟨D.F,D.F.binds λkV doc pm an cdv ct g a=>(by
  let⟨u0,e,rfl,c⟩:=Ń a;let⟨u1,d,rfl,b⟩:=Ń c;obtain rfl:=ck b;exact h kV doc pm an cdv ct u0 u1),D.m⟩
def Dg.d3(D:Dg K x q st f fd M)(h:∀(kV doc pm:qb)(an:qj x0)(cdv ct:qb)(u0 u1 u2:qb),bindArgs (W.fnOf x q (wt st) (wd st) (yd st) .none kV doc pm an cdv ct) ⟨[u0,u1,u2],[]⟩=pure [(p0,u0),(p1,u1),(p2,u2)]:=by intros;rfl):Df K x q st [p0,p1,p2] f fd M :=
 ⟨D.F,D.F.binds λkV doc pm an cdv ct j a=>(by
  let⟨u0,g,rfl,d⟩:=Ń a;let⟨u1,e,rfl,c⟩:=Ń d;let⟨u2,i,rfl,b⟩:=Ń c;obtain rfl:=ck b;exact h kV doc pm an cdv ct u0 u1 u2),D.m⟩
def Dg.d4(D:Dg K x q st f fd M)(h:∀(kV doc pm:qb)(an:qj x0)(cdv ct:qb)(u0 u1 u2 u3:qb),bindArgs (W.fnOf x q (wt st) (wd st) (yd st) .none kV doc pm an cdv ct) ⟨[u0,u1,u2,u3],[]⟩=pure [(p0,u0),(p1,u1),(p2,u2),(p3,u3)]:=by intros;rfl):Df K x q st [p0,p1,p2,p3] f fd M :=
 ⟨D.F,D.F.binds λkV doc pm an cdv ct l a=>(by
  let⟨u0,i,rfl,e⟩:=Ń a;let⟨u1,g,rfl,d⟩:=Ń e;let⟨u2,k,rfl,c⟩:=Ń d;let⟨u3,j,rfl,b⟩:=Ń c;obtain rfl:=ck b;exact h kV doc pm an cdv ct u0 u1 u2 u3),D.m⟩
def Dg.d5{p4:Str}(D:Dg K x q st f fd M)(h:∀(kV doc pm:qb)(an:qj x0)(cdv ct:qb)(u0 u1 u2 u3 u4:qb),bindArgs (W.fnOf x q (wt st) (wd st) (yd st) .none kV doc pm an cdv ct) ⟨[u0,u1,u2,u3,u4],[]⟩=pure [(p0,u0),(p1,u1),(p2,u2),(p3,u3),(p4,u4)]:=by intros;rfl):Df K x q st [p0,p1,p2,p3,p4] f fd M :=
 ⟨D.F,D.F.binds λkV doc pm an cdv ct o a=>(by
  let⟨u0,j,rfl,g⟩:=Ń a;let⟨u1,i,rfl,e⟩:=Ń g;let⟨u2,l,rfl,d⟩:=Ń e;let⟨u3,k,rfl,b⟩:=Ń d;let⟨u4,n,rfl,c⟩:=Ń b;obtain rfl:=ck c;exact h kV doc pm an cdv ct u0 u1 u2 u3 u4),D.m⟩
def Dg.d6{p4 p5:Str}(D:Dg K x q st f fd M)(h:∀(kV doc pm:qb)(an:qj x0)(cdv ct:qb)(u0 u1 u2 u3 u4 u5:qb),bindArgs (W.fnOf x q (wt st) (wd st) (yd st) .none kV doc pm an cdv ct) ⟨[u0,u1,u2,u3,u4,u5],[]⟩=pure [(p0,u0),(p1,u1),(p2,u2),(p3,u3),(p4,u4),(p5,u5)]:=by intros;rfl):Df K x q st [p0,p1,p2,p3,p4,p5] f fd M :=
 ⟨D.F,D.F.binds λkV doc pm an cdv ct r a=>(by
  let⟨u0,l,rfl,i⟩:=Ń a;let⟨u1,j,rfl,g⟩:=Ń i;let⟨u2,o,rfl,e⟩:=Ń g;let⟨u3,n,rfl,b⟩:=Ń e;let⟨u4,p,rfl,c⟩:=Ń b;let⟨u5,k,rfl,d⟩:=Ń c;obtain rfl:=ck d;exact h kV doc pm an cdv ct u0 u1 u2 u3 u4 u5),D.m⟩
end
structure KC(K:xr)(C:x0):Prop where
 pg:W.plainGet K C Str.empty=true
 hd:W.hasDictIn K C=true
 po:W.plainOver K C=true
 sa:W.findIn K (.ref C) "__setattr__"=some (some (.builtin "object.__setattr__"))
 mk':W.makesIn K C=true
 kc:W.keepIn K (.ref C)=true
def KC.cls{K:xr}(h:KC K C):Cls K C:=⟨h.pg,h.hd,h.po,h.sa⟩
abbrev GV(K:xr)(x:Str)(v:qb):Prop:=W.nsIn K mainGlobals x=some (some v)
abbrev GZ(K:xr)(x:Str):Prop:=W.nsIn K mainGlobals x=some none
abbrev FN(K:xr)(C:x0)(x:Str):Prop:=W.findIn K (.ref C) x=some none
section
variable{K:xr}{H:Hp}{p dx:x0}{fs fs':Ι}{v:V}{nm:Str}{P:V->Prop}{nx:Ζ}{σ:St}
abbrev RdX(K:xr)(H:Hp)(p:x0)(nm:Str)(P:V->Prop):Prop:=∃a' C dx fs v,V.ref p=.ref a'/\H a'=some (.ins C dx fs)/\Cls K C/\vj K C nm/\fs.lookup nm=some v/\P v
abbrev StX(K:xr)(H:Hp)(p:x0)(nm:Str)(v:V)(nx:Ζ)(σ:St):Prop:=∃a' C dx fs,V.ref p=.ref a'/\H a'=some (.ins C dx fs)/\Cls K C/\vj K C nm/\fs.length<1000/\wn nx σ (upd H a' (.ins C dx (j9 nm v fs)))
abbrev MtX(H:Hp)(p C:x0)(nm:Str)(R:Prop):Prop:=∃a dx fs,V.ref p=.ref a/\H a=some (.ins C dx fs)/\fs.lookup nm=none/\R
def rdX(hp:H p=some (.ins C dx fs))(c:Cls K C)(n:vj K C nm)(l:fs.lookup nm=some v)(h:P v):RdX K H p nm P:=⟨p,C,dx,fs,v,rfl,hp,c,n,l,h⟩
def stX(hp:H p=some (.ins C dx fs))(c:Cls K C)(n:vj K C nm)(l:fs.length<1000)(e:j9 nm v fs=fs')(h:wn nx σ (upd H p (.ins C dx fs'))):StX K H p nm v nx σ:=⟨p,C,dx,fs,rfl,hp,c,n,l,by rw[e];exact h⟩
def gRd(h:RdX K H p nm P):RdX K H p nm P:=h
def gSt(h:StX K H p nm v nx σ):StX K H p nm v nx σ:=h
def gMt{R:Prop}(h:MtX H p C nm R):MtX H p C nm R:=h
def lt0:([]:Ι).length<1000:=by show 0<1000;decide
def lt1{a:Str×V}:[a].length<1000:=by show 1<1000;decide
def lt2{a b:Str×V}:[a,b].length<1000:=by show 2<1000;decide
def lt3{a b c:Str×V}:[a,b,c].length<1000:=by show 3<1000;decide
def lt4{a b c d:Str×V}:[a,b,c,d].length<1000:=by show 4<1000;decide
def lt5{a b c d e:Str×V}:[a,b,c,d,e].length<1000:=by show 5<1000;decide
def lt6{a b c d e f:Str×V}:[a,b,c,d,e,f].length<1000:=by show 6<1000;decide
theorem vb0:∀{fs:Ι},nm∉fs.map (·.1)->fs.lookup nm=none
 |[],_=>rfl
 |(g,v)::r,h=>wg (λe=>h (by rw[e];exact bN)) (vb0 λm=>h (bM _ m))
def mtX{R:Prop}{N:Τ}(hp:H p=some (.ins C dx fs))(k:fs.map (·.1)=N)(n:nm∉N)(h:R):MtX H p C nm R:=⟨p,dx,fs,rfl,hp,vb0 (by rw[k];exact n),h⟩
def wl{N P:Τ}{sc:Scope}(h:(sc.kind=.function/\sc.isCoroutine=false/\sc.isGenerator=false)/\N.Nodup/\N.take P.length=P/\(∀x∈P,sc.names.lookup x=some .local\/sc.names.lookup x=some .cell)/\∀y∈sc.names,y.2≠.free):yi N P sc:=⟨h.1.1,h.1.2.1,h.1.2.2,h.2.1,h.2.2.1,h.2.2.2.1,h.2.2.2.2⟩
end
section
variable{prog:qh}{w:qd}{A:qe}{E:Δ}{s:qa}{d:x0}{od:Obj}{es:Array DictEntry}
def ygo(hne:(d == sysModules)=false)(h0:s.heap.get? d=some od)(hx:od.ExactDict)
  (k:Q (.ref s.heap.objs.size) {s with heap:=s.heap.push { cls:=.type "dict_items",data:=.fields #[.ref d]} }):wpAny (model prog w) A (call (.builtin "dict.items") [.ref d]) Q E s:=by have a:s.TypeIs (.ref d) "dict":=⟨od,h0,hx.1⟩;refine wpAny_call_entry F.slot_dict_items a F.entry_dict_items ?_ (F.args_dict_items_1 _);unfold Builtin.«dict.items» Builtin.Dict.noArgs;refine bf (bf (wpAny_notOrdered_dict a ?_));show wpAny _ _ (pure d) _ _ s;refine bo ?_;show wpAny _ _ (Builtin.Dict.showsAll d >>=_) _ _ s;unfold Builtin.Dict.showsAll;rw[if_neg (by rw[hne];decide)];exact bf (bo (bf (wpAny_newObj_type (bo ⟨_,rfl,k⟩))))
def yfr{v:x0}(hv:s.heap.IsItemsView v d)(h0:s.heap.get? d=some od)(hd:od.data=.dict es ep)
  (k:Q (.ref s.heap.objs.size) {s with heap:=s.heap.push { cls:=.type "dict_itemiterator",data:=.fields #[.none,.bool false,.ref d,.int 0 0,.int es.size 0,.int ep 0,.none,.none]} }):wpAny (model prog w) A (pyIter (.ref v)) Q E s:=by let⟨c,a,e,b⟩:=id hv;refine wpAny_pyIter_slot hv.typeIs F.slot_dict_items_iter (wpAny_call_entry F.slot_dict_items_iter hv.typeIs F.entry_dict_items_iter ?_ (F.args_dict_items_iter_1 _));unfold Builtin.«dict_items.__iter__» Builtin.Dict_items.dictOf Builtin.Dict_items.newIterator;refine bf (bo (bf (bf (cw a b (x:=.ref d) rfl (bo (bf (bf (wpAny_dictEntries h0 hd (bf (wpAny_dictEpoch h0 hd ?_))))))))));simp only[show Builtin.Dict_items.ownsTuple "dict_itemiterator"=true by decide,if_true];refine wpAny_newObj_type (bo ⟨_,rfl,"dict_itemiterator",_,⟨_,bz _ rfl,rfl⟩,F.slot_dict_itemiterator_next.lookup,?_⟩) (by simp only[sizeOk,Builtin.Dict_items.ownedTupleFields,bx,bp,bW,List.length_nil,sizeLine_eq];omega);simpa[rawInt,Builtin.Dict_items.ownedTupleFields]using k
def ygg{ok:qb}{Q:qj qb->qa->Prop}(hi:IsItemIter s.heap it d i es.size ep ok ov)(h0:s.heap.get? d=some od)(hd:od.data=.dict es ep)(hlt:i<es.size)
  (k:∀h',IsItemIterOut h' it d (i+1) es.size ep es[i].key es[i].val s.heap.objs.size->h'.get? s.heap.objs.size=some { cls:=.type "tuple",data:=.seq #[es[i].key,es[i].val]}->(∀b o,b≠it->s.heap.get? b=some o->h'.get? b=some o)->Q (some (.ref s.heap.objs.size)) {s with heap:=h'}):
  wpAny (model prog w) A (pyNext (.ref it)) Q E s:=by
 let⟨a,g,l,j,h⟩:=s;have c:Shared.TypeIs ⟨a,g,l,j,h⟩ (.ref it) "dict_itemiterator":=⟨_,hi,rfl⟩;have I:it<a.objs.size:=bw hi;have M:a.objs.size≠it:=Nat.ne_of_gt I;unfold pyNext;refine bf (wpAny_attempt (wpAny_callSpecial?_slot (name:=Str.ofString "__next__") c F.slot_dict_itemiterator_next (wpAny_call_entry F.slot_dict_itemiterator_next c F.entry_dict_itemiterator_next ?_ (F.args_dict_itemiterator_next_1 _))));refine bf (bo (bf (bf ?_)))
 first|refine bf (wpAny_typeNameOfWhole_itemiter c (bo ?_))|refine bf (wpAny_typeNameOf_itemiter c (bo ?_))
 refine bf (wpAny_fieldsOf hi rfl ?_);simp only[show Builtin.Dict_items.ownsTuple "dict_itemiterator"=true by decide,if_true];show wpAny _ _ (if (Value.ref d == Value.none)=true then _ else _) _ _ _;rw[if_neg (show ¬(Value.ref d == Value.none)=true from bL)];refine bf (bo (bf (wpAny_dictEntries h0 hd ?_)));rw[if_neg (by simp)];refine bf (bo (bf (wpAny_dictEpoch h0 hd ?_)));rw[if_neg (by simp)];refine bo ?_;simp only[show ¬((i:Int)<0) by omega,if_false,Int.toNat_natCast,Array.getElem?_eq_getElem hlt];refine bf ?_
 first|refine bf (wpAny_typeNameOfWhole_itemiter c (bo ?_))|refine bf (wpAny_typeNameOf_itemiter c (bo ?_))
 refine bf (wpAny_isOneOf_itemiter c ?_);show wpAny _ _ (setField (.ref it) 3 (rawInt ((i:Int)+1)) >>=_) _ _ ⟨a,g,l,j,h⟩;refine bf (wpAny_setField_rec hi (by simp) λg1 f m=>?_)
 replace m:Heap.SameBut it a g1:=m
 replace f:IsItemIter g1 it d (i+1) es.size ep ok ov:=by unfold IsItemIter;rw[show ((i+1:Nat):Int)=(i:Int)+1 by omega];simpa[rawInt]using f
 have B:Shared.TypeIs ⟨g1,g,l,j,h⟩ (.ref it) "dict_itemiterator":=⟨_,f,rfl⟩;refine bf (wpAny_holding (bf (wpAny_isOneOf_itemiter B (bf (wpAny_isOneOf_itemiter B ?_)))));show wpAny _ _ (Builtin.Dict_items.pairFromOwner (.ref it) 6 es[i].key es[i].val) _ _ ⟨g1,g,l,j,h⟩;unfold Builtin.Dict_items.pairFromOwner;refine bf (wpAny_newTuple ?_);have p:IsItemIter (g1.push { cls:=.type "tuple",data:=.seq #[es[i].key,es[i].val]}) it d (i+1) es.size ep ok ov:=bi _ f;generalize u:g1.push { cls:=.type "tuple",data:=.seq #[es[i].key,es[i].val]}=g2 at p;have D:g1.objs.size=a.objs.size:=m.1;have L:g2.get? a.objs.size=some { cls:=.type "tuple",data:=.seq #[es[i].key,es[i].val]}:=by rw[<- u,<- D];exact bz _ rfl
 have K:∀b o,b≠it->a.get? b=some o->g2.get? b=some o:=λb o J e=>by rw[<- u];exact bi _ (m.extBut b o J e)
 show wpAny _ _ (Builtin.Dict_items.ownedTupleIsFree (.ref it) >>=_) _ _ ⟨g2,g,l,j,h⟩;rw[D];clear u f m B D g1;unfold Builtin.Dict_items.ownedTupleIsFree;refine bf (bf (cw p rfl (x:=.none) rfl (bo ?_)));simp only[if_true];refine bf (cw p rfl (x:=ok) rfl (bf (cw p rfl (x:=ov) rfl ?_)));refine bf (wpAny_setField_rec p (by simp) λg3 v z=>?_)
 replace z:Heap.SameBut it g2 g3:=z
 replace v:IsItemIter g3 it d (i+1) es.size ep es[i].key ov:=v
 refine bf (wpAny_setField_rec v (by simp) λg4 G t=>?_)
 replace t:Heap.SameBut it g3 g4:=t
 replace G:IsItemIter g4 it d (i+1) es.size ep es[i].key es[i].val:=G
 refine bf (wpAny_setField_rec G (by simp) λg5 r q=>?_)
 replace q:Heap.SameBut it g4 g5:=q
 replace r:IsItemIterOut g5 it d (i+1) es.size ep es[i].key es[i].val a.objs.size:=r
 refine bf (wpAny_setField_rec r (by simp) λg6 y C=>?_)
 replace C:Heap.SameBut it g5 g6:=C
 replace y:IsItemIterOut g6 it d (i+1) es.size ep es[i].key es[i].val a.objs.size:=y
 have H:∀b o,b≠it->g2.get? b=some o->g6.get? b=some o:=λb o n e=>C.extBut b o n (q.extBut b o n (t.extBut b o n (z.extBut b o n e)));exact bf (wpAny_letGo (bo (bo ⟨_,rfl,bo (k g6 y (H _ _ M L) λb o n e=>H b o n (K b o n e))⟩)))
def yii{ok:qb}{Q:qj qb->qa->Prop}(hh:A.handled=none)(hi:IsItemIter s.heap it d i es.size ep ok ov)(h0:s.heap.get? d=some od)(hd:od.data=.dict es ep)(hge:es.size<=i)
  (k:∀h',Heap.ExtBut it s.heap h'->Q none {s with heap:=h'}):wpAny (model prog w) A (pyNext (.ref it)) Q E s:=by
 have c:s.TypeIs (.ref it) "dict_itemiterator":=⟨_,hi,rfl⟩;unfold pyNext;refine bf (wpAny_attempt (wpAny_callSpecial?_slot (name:=Str.ofString "__next__") c F.slot_dict_itemiterator_next (wpAny_call_entry F.slot_dict_itemiterator_next c F.entry_dict_itemiterator_next ?_ (F.args_dict_itemiterator_next_1 _))));refine bf (bo (bf (bf ?_)))
 first|refine bf (wpAny_typeNameOfWhole_itemiter c (bo ?_))|refine bf (wpAny_typeNameOf_itemiter c (bo ?_))
 refine bf (wpAny_fieldsOf hi rfl ?_);simp only[show Builtin.Dict_items.ownsTuple "dict_itemiterator"=true by decide,if_true];show wpAny _ _ (if (Value.ref d == Value.none)=true then _ else _) _ _ s;rw[if_neg (show ¬(Value.ref d == Value.none)=true from bL)];refine bf (bo (bf (wpAny_dictEntries h0 hd ?_)));rw[if_neg (by simp)];refine bf (bo (bf (wpAny_dictEpoch h0 hd ?_)));rw[if_neg (by simp)];refine bo ?_;simp only[show ¬((i:Int)<0) by omega,if_false,Int.toNat_natCast,Array.getElem?_eq_none hge];refine bf ?_
 first|refine bf (wpAny_typeNameOfWhole_itemiter c (bo ?_))|refine bf (wpAny_typeNameOf_itemiter c (bo ?_))
 show wpAny _ _ (setField (.ref it) 2 .none >>=_) _ _ s;refine bf (wpAny_setField hi rfl (by simp) ?_);show wpAny _ _ (newExc (.type "StopIteration") [] >>=_) _ _ _;refine bf ?_;simp only[newExc,newTuple];refine bf (wpAny_newObj_type ?_ (by size_fits))
 refine bf (m:=firstArgMember _ _) (wpAny_of_eq (a:=Value.none) (by first|rfl|(simp only[firstArgMember];rfl)) (wpAny_newObj_type ?_ (by size_fits)))
 simp only[raiseNew];refine bf (wpAny_handled ?_);rw[show A.in1.handled=none from hh];refine bf (bo (wpAny_throw ?_));exact bf (wpAny_isInstance (T:="StopIteration") (b:=true) ⟨_,bz _ rfl,rfl⟩ isSubtype_stop (bo (k _ (((Heap.SameBut.update ..).extBut.push _).push _))))
def yfl{n:Nat}{ok:qb}(hi:IsItemIter s.heap it d i n ep ok ov)(k:Q (.ref it) s):wpAny (model prog w) A (pyIter (.ref it)) Q E s:=by have a:s.TypeIs (.ref it) "dict_itemiterator":=⟨_,hi,rfl⟩;refine wpAny_pyIter_slot a F.slot_dict_itemiterator_iter (wpAny_call_entry F.slot_dict_itemiterator_iter a (show entryFor table "dict_itemiterator.__iter__"=some Builtin.«dict_keyiterator.__iter__» from entryFor_alias (id':="dict_keyiterator.__iter__") (by kernel_rfl) rfl (by decide+kernel) (by kernel_rfl)) ?_ (F.args_dict_itemiterator_iter_1 _));show wpAny _ _ (ret (.ref it)) _ _ s;exact bo ⟨_,rfl,"dict_itemiterator",_,a,F.slot_dict_itemiterator_next.lookup,k⟩
end
def Inv.freeze{X:Cx}{σ:St}{H:Hp}{s:qa}{d:x0}{u:HO}{o:Obj}(I:Inv X pins σ H s)(hd:H d=some u)(mu:Mut (some u))(ho:s.heap.get? d=some o):Inv X pins σ (upd H d (.frz o u)) s:=by
 have h:∀{b},H b=none->b≠d:=λn z=>by rw[z,hd]at n;cases n
 have a:∀{b v},H b=some v->¬Mut (some v)->b≠d:=λe n z=>by rw[z,hd]at e;cases e;exact n mu
 exists I.ok,I.os,I.bare,⟨I.base.keep,I.base.slot,λb i e n A=>?_,I.base.there,λb w e=>?_,λb i v e=>?_,λb r e=>?_⟩,I.loc,I.cell,?_,λx c e=>?_,λp k=>?_,λb v e=>?_,I.len
 .have z:=I.base.free b i e n A;rw[yk (h z)];exact z
 .have z:=I.base.tups b w e;rw[yk (a z id)];exact z
 .have z:=I.base.frzs b i v e;rw[yk (a z id)];exact z
 .obtain⟨m,z⟩:=I.base.tbls b r e;exists m,by rw[yk (a z id)];exact z
 .rw[yk (h I.free)];exact I.free
 .rw[yk (h (I.freeC x c e))];exact I.freeC x c e
 .obtain⟨t,j,l⟩:=I.pin p k;exists t,by rw[yk (h j)];exact j,l
 .have f:∀{c y},H c=some (.own y)->upd H d (.frz o u) c=some (.own y):=λq=>by rw[yk (a q id)];exact q
  have g:∀{c y},H c=some (.tup y)->upd H d (.frz o u) c=some (.tup y):=λq=>by rw[yk (a q id)];exact q
  by_cases hb:b=d
  .subst hb;rw[ya]at e;cases e;exists ho,(I.hok b _ hd).stay (λZ Z Z q=>q) (λZ q=>f q) λZ Z q=>g q
  .rw[yk hb]at e;exact(I.hok b v e).stay (λZ Z Z q=>q) (λZ q=>f q) λZ Z q=>g q
def Inv.thaw{X:Cx}{σ:St}{H:Hp}{s:qa}{d:x0}{u:HO}{o:Obj}(I:Inv X pins σ H s)(h0:∀o u,X.H₀ d≠some (.frz o u))(hd:H d=some (.frz o u)):Inv X pins σ (upd H d u) s:=by
 have h:∀{b},H b=none->b≠d:=λn z=>by rw[z,hd]at n;cases n
 exists I.ok,I.os,I.bare,⟨I.base.keep,I.base.slot,λb g e n A=>?_,I.base.there,λb t e=>?_,λb g u e=>?_,λb k e=>?_⟩,I.loc,I.cell,?_,λx c e=>?_,λp j=>?_,λb v e=>?_,I.len
 .have z:=I.base.free b g e n A;rw[yk (h z)];exact z
 .have z:=I.base.tups b t e;rw[yk (wz z hd (by intro w;cases w))];exact z
 .rw[yk (λz=>h0 g u (by rw[<- z];exact e))];exact I.base.frzs b g u e
 .obtain⟨m,z⟩:=I.base.tbls b k e;exists m,by rw[yk (wz z hd (by intro w;cases w))];exact z
 .rw[yk (h I.free)];exact I.free
 .rw[yk (h (I.freeC x c e))];exact I.freeC x c e
 .obtain⟨r,i,l⟩:=I.pin p j;exists r,by rw[yk (h i)];exact i,l
 .have a:∀{c y},H c=some (.own y)->upd H d u c=some (.own y):=λq=>by rw[yk (wz q hd (by intro w;cases w))];exact q
  have f:∀{c y},H c=some (.tup y)->upd H d u c=some (.tup y):=λq=>by rw[yk (wz q hd (by intro w;cases w))];exact q
  by_cases hb:b=d
  .subst hb;rw[ya]at e;cases e;exact(I.hok b _ hd).2.stay (λZ Z Z q=>q) (λZ q=>a q) λZ Z q=>f q
  .rw[yk hb]at e;exact(I.hok b v e).stay (λZ Z Z q=>q) (λZ q=>a q) λZ Z q=>f q
def Iti(o:Obj)(d:x0)(kvs:qi (qi Key×V)):It :=
 ⟨λi H=>H d=some (.frz o (.dT kvs))/\i<kvs.length,
  λi H x H'=>∃t kt key v,x=.ref t/\H t=none/\H'=upd H t (.tup [.ref kt,v])/\kvs[i]?=some (key,v)/\H kt=some (.tup (key.map kV)),
  λi H=>H d=some (.frz o (.dT kvs))/\kvs.length<=i⟩
theorem xy{α β:Type}{F:α->β->Prop}:∀{l₁:qi α}{l₂:qi β},Paired F l₁ l₂->l₁.length=l₂.length
 |_,_,.nil=>rfl
 |_,_,.cons _ t=>congrArg (·+1) (xy t)
def ybf{α β:Type}{F:α->β->Prop}{l₁:qi α}{l₂:qi β}(h:Paired F l₁ l₂):∀{i:Nat}{y:β},l₂[i]?=some y->∃x,l₁[i]?=some x/\F x y:=by
 induction h with
 |nil=>intro i y e;cases e
 |cons r t ih =>
  intro i y e
  cases i with
  |zero=>cases e;exists _,rfl,r
  |succ j=>exact ih e
def yf7{w:qd}{K:xr}{elts:qi qg}{x1}{tpos:Pos}{o:Obj}{es:Array DictEntry}{kvs:qi (qi Key×V)}(d it:x0)(ho:o.data=.dict es ep)(hs:es.size=kvs.length):
  yfi P w K (.Tuple elts x1 tpos) (Iti o d kvs) [it] it (λi h=>∃ok ov,IsItemIter h it d i es.size ep ok ov) where
 mem:=by simp
 obj:=λi h l b g=>by
  have e:b=it:=by simpa using g
  subst e;let⟨_,_,e⟩:=l;exists _,e,λv z=>by cases z
 keep:=λi h h' ⟨ok,ov,l⟩ k=>⟨ok,ov,k it (by simp) _ l⟩
 item:=by
  intro X T S U hc i m s σ H E I G ⟨ok,ov,l⟩ ⟨Y,j⟩;subst T S U;let⟨M,f1,f2,f3,f4,f5⟩:=G it (by simp);let⟨N,_,_,L,r,o',a3,a4,D,_,A,O,_⟩:=(show w9 X.prog X.w H s.heap d (.frz o (.dT kvs))from I.hok d _ Y);rw[N]at D;cases D;rw[ho]at A;cases A;have hl:i<es.size:=by omega
  have he:es[i]=entryOfKey (tupleKind (wk X.prog X.w)) (L[i]'(by rw[<- (xy r)];exact j)):=by
   have e1:es.toList[i]?=some es[i]:=by simp[hl]
   rw[O,bn,bg (by rw[<- (xy r)];exact j)]at e1;exact(bD e1).symm
  let⟨⟨B,v⟩,Q,k1,k2,k3⟩:=ybf r (bg (by rw[<- (xy r)];exact j));have p:es[i].key=.ref (L[i]'(by rw[<- (xy r)];exact j)).2.1:=by rw[he];rfl
  have C:es[i].val=(L[i]'(by rw[<- (xy r)];exact j)).2.2:=by rw[he];rfl
  rw[<- C]at k3;generalize (L[i]'(by rw[<- (xy r)];exact j)).2.1=y at p k2;refine ygg l N ho hl λh' a1 a2 hk=>⟨_,rfl,wpAny_letOwnedTupleGo_items a1 λt b1 b2=>?_⟩;rw[p]at a2;have a:H s.heap.objs.size=none:=I.hok.fresh (bj _);have lI:it<s.heap.objs.size:=bw l;have keep:∀b o,b≠it->s.heap.get? b=some o->t.get? b=some o:=λb o n e=>(b2.2 b n).trans (hk b o n e);have F:t.get? s.heap.objs.size=some { cls:=.type "tuple",data:=.seq #[.ref y,es[i].val]}:=(b2.2 _ (Nat.ne_of_gt lI)).trans a2
  have Z:HOk X.prog X.w (upd H s.heap.objs.size (.tup [.ref y,v])) t:=λb u e=>by
   by_cases g:b=s.heap.objs.size
   .subst g;rw[ya]at e;cases e;exists by show 2<=sizeLine;decide,[.ref y,es[i].val],.cons rfl (.cons k3 .nil),⟨_,F,rfl,_,rfl⟩
   .rw[yk g]at e;refine(I.hok b u e).stay (λc z x q=>keep c z ?_ q) (λc q=>by rw[yk (yb q a)];exact q) λc ys q=>by rw[yk (yb q a)];exact q
    rcases x with rfl|x
    .exact yb e M
    .exact yb x M
  have un:Un (frs X.stack) [it] H (upd H s.heap.objs.size (.tup [.ref y,v])) s.heap t:=by
   have R:∀{b z},b∉[it]->s.heap.get? b=some z->t.get? b=some z:=λ{b z}g e=>keep b z (λq=>g (by simp[q])) e;exists λb z e n W J=>R J e,λb z e n W J=>⟨z.slots,R J e⟩,λb z e n W=>by rw[yk (bQ (bw e))];exact n,λb z e J=>⟨z,R J e⟩,λb ys e=>by rw[yk (yb e a)];exact e,λb z u e=>by rw[yk (yb e a)];exact e,λb ps e=>⟨#[],by rw[yk (yb e a),e];simp⟩
  have I1:Inv X m σ (upd H s.heap.objs.size (.tup [.ref y,v])) {s with heap:=t}:=I.call' (s':={s with heap:=t}) rfl un Z I.bare λb g=>by
   have f:=G b g;exact⟨f.2.2.2.1,f.2.1,f.2.2.2.2.1,f.2.2.2.2.2⟩
  exists .ref s.heap.objs.size,_,I1,rfl,⟨_,y,B,v,rfl,a,rfl,Q,by rw[show B=_ from k1]at k2⊢;exact k2⟩,⟨_,_,b1⟩,λb g=>?_;rw[yk (λq=>?_)]
  .exact(G b g).1
  .have e:b=it:=by simpa using g
   rw[e]at q;exact absurd q (bQ lI)
 done:=by
  intro X T S U hc i m s σ H E I G ⟨ok,ov,l⟩ ⟨Y,a0⟩;subst T S U;let⟨M,f1,f2,f3,f4,f5⟩:=G it (by simp);let⟨N,_⟩:=(show w9 X.prog X.w H s.heap d (.frz o (.dT kvs))from I.hok d _ Y);exact yii (I.ok.hd hc) l N ho (by omega) λh' eb=>⟨rfl,I.turned (t':=s.toks) (λb o g e=>eb b o g e) M f1 f3 f4 f5⟩
 self:=λW W W W W ⟨_,_,l⟩ h=>yfl l h
section
variable{X:Cx}
def ypx(to:TE):TI:=λσ H R=>to σ H λx H1=>∃d kvs,x=.ref d/\H1 d=some (.dT kvs)/\∀o,R (Iti o d kvs) (upd H1 d (.frz o (.dT kvs)))
def ym8{elts:qi qg}{x1}{tpos:Pos}{o:qg}{to:TE}{apos cpos:Pos}(ho:PE X o to)(hbase:attributeBase o "items" X.env (eval o X.env)=eval o X.env:=by rfl)(hline:(apos.endLine == cpos.line)=true:=by rfl):
  PI X (.Tuple elts x1 tpos) (.Call (.Attribute o "items" apos) [] [] cpos) (ypx to):=by
 intro f s σ H R I h;refine wpAny_Call_method0_late hbase hline (thn (ho f s σ H _ I h) λv j h'=>?_);let⟨x,y,r,B,z⟩:=h';let⟨d,g,rfl,u,q⟩:=z;cases B;let⟨_,l,J,A,k,E,K,c,n,t,G,_⟩:=(show w9 X.prog X.w y j.heap d (.dT g)from r.hok d _ u);refine⟨"dict","dict.items",F.plainAttrs_dict,F.slot_dict_items,F.type_dict_items,⟨k,c,n.1⟩,λa D=>by cases D;exact⟨k,c,n.2.1⟩,Calls.callWith_builtin rfl (PySem.evalArgs_none (ygo l c n ?_))⟩;refine yfr ⟨_,bz _ rfl,rfl,rfl⟩ (bi _ c) t ?_;have m:=r.freeze u trivial c;have p:E.size=g.length:=by rw[(xy A),<- cu,G,be]
 exists _,[_],_,_,_,rfl,m.kept (t':=j.toks) λb o e=>bi _ (bi _ e),yf7 d _ t p,⟨_,_,bz _ rfl⟩,λb C=>?_,q k;have e:b=(j.heap.push { cls:=.type "dict_items",data:=.fields #[.ref d]}).objs.size:=by simpa using C
 have i:j.heap.objs.size<=b:=by rw[e,Heap.size_push];omega
 exact m.fpOk i (m.hok.fresh i)
def ylw{to:TE}{σ:St}{H:Hp}{R:It->Hp->Prop}(h:to σ H λx H1=>∃d kvs,x=.ref d/\H1 d=some (.dT kvs)/\∀o,R (Iti o d kvs) (upd H1 d (.frz o (.dT kvs)))):ypx to σ H R:=h
def vb9(H:Hp)(D:ā):ā:={D with nx:=λσ' H'=>∃d o u,(∀o u,H d≠some (.frz o u))/\H' d=some (.frz o u)/\D.nx σ' (upd H' d u)}
def vcc(t:TS):TS:=λD σ H=>t (vb9 H D) σ H
def ħ{st:qc}{t:TS}(h:PS X st t):PS X st (vcc t):=by
 refine .mk λa s σ H D I q=>?_;refine thn (h a s σ H _ I q) λf i z=>?_
 cases f with
 |next =>
  let⟨σ',j,J,d,o,b,c,g,k⟩:=z;exists σ',_,J.thaw (λo u e=>c o u (I.base.frzs d o u e)) g,k
 |brk=>exact z
 |cont=>exact z
 |ret u=>exact z
def vao{t:TS}{D:ā}{σ:St}{H:Hp}(h:t (vb9 H D) σ H):vcc t D σ H:=h
end
def yhx{o:Obj}{d:x0}{kvs:qi (qi Key×V)}{g:TG}{tb:TS}{D:ā}{σ:St}{H:Hp}(Pv:Nat->St->Hp->Prop)(h0:Pv 0 σ H)(hl:∀i σ H,i<=kvs.length->Pv i σ H->H d=some (.frz o (.dT kvs)))
  (hs:∀i key v σ H t kt,kvs[i]?=some (key,v)->Pv i σ H->H t=none->H kt=some (.tup (key.map kV))->g (.ref t) σ (upd H t (.tup [.ref kt,v])) λσ2 H2=>tb {D with nx:=Pv (i+1),ct:=Pv (i+1),bk:=D.nx} σ2 H2) (hd:∀σ H,Pv kvs.length σ H->D.nx σ H):
  ∃W:Nat->Nat->St->Hp->Prop,(∃m,W 0 m σ H)/\∀i m σ H,W i m σ H ->
   ((Iti o d kvs).stop i H/\D.nx σ H)\/((Iti o d kvs).go i H/\∃N:Ζ,(∀σ' H',N σ' H'->∃m',m'<m/\W (i+1) m' σ' H')/\∀x H',(Iti o d kvs).yld i H x H'->g x σ H' λσ2 H2=>tb {D with nx:=N,ct:=N,bk:=D.nx} σ2 H2):=by
 exists λi m σ H=>m=kvs.length-i/\i<=kvs.length/\Pv i σ H,⟨kvs.length,by simp,bJ _,h0⟩,?_;rintro i m σ H ⟨rfl,h,p⟩;have q:=hl i σ H h p;by_cases hlt:i<kvs.length
 .refine .inr ⟨⟨q,hlt⟩,Pv (i+1),λσ' H' f=>⟨kvs.length-(i+1),by omega,rfl,hlt,f⟩,λx H' y=>?_⟩;let⟨t,kt,key,v,rfl,c,rfl,a,b⟩:=y;exact hs i key v σ H t kt a p c b
 .have e:i=kvs.length:=by omega
  subst e;exact .inl ⟨⟨q,bj _⟩,hd σ H p⟩
def Its(x:Str):It:=⟨λi Z=>i<x.cps.size,λi H v H'=>H'=H/\∃c,x.cps[i]?=some c/\v=.str ⟨#[c]⟩,λi Z=>i=x.cps.size⟩
def ydn{w:qd}{K:xr}{ty:String}(x:Str)(t:Tok)(it:x0)(hn:["enumerate","zip","dict_itemiterator","dict_reverseitemiterator","odict_iterator","itertools.zip_longest","itertools.pairwise"].contains ty=false)
  (W:∀A:qe,A.handled=none->Walks P w A it [it] [it] x.cps.size (SignAt x) (λi h=>h.IsStrIter it ty x t i)) (hs:∀(A:qe)(i:Nat)(s:qa)(Q E:Δ),s.heap.IsStrIter it ty x t i->Q (.ref it) s->wpAny (model P w) A (pyIter (.ref it)) Q E s):yfi P w K tg (Its x) [it] it (λi h=>h.IsStrIter it ty x t i) where
 mem:=by simp
 obj:=λi h a b g=>by
  have e:b=it:=by simpa using g
  subst e;let⟨o,e,_,d⟩:=a;exists o,e,λv z=>by rw[d]at z;cases z
 keep:=λi h m a k=>let ⟨o,e,r⟩:=a;⟨o,k it (by simp) o e,r⟩
 item:=by
  intro X C B D q i f s σ H E I n a j;subst C B D;let⟨F,L,S,y,M,G⟩:=n it (by simp);refine(W X.A (I.ok.hd q)).item i s _ _ j a λv m J O l p=>?_;let⟨c,u,U,rfl⟩:=O;have N:Inv X f σ H {s with heap:=m,toks:=J}:=I.turned (λb o g e=>p b o (by simpa using g) e) F L y M G;let⟨o,e,T,R⟩:=id l;exists _,rfl,ygz (s:={s with heap:=m,toks:=J}) e T R hn ⟨.str ⟨#[c]⟩,H,N,⟨u,rfl⟩,⟨rfl,c,U,rfl⟩,l,λb g=>(n b g).1⟩
 done:=by
  intro X C B D q i f s σ H E I n a j;subst C B D;have j:i=x.cps.size:=j;subst j;let⟨F,L,S,y,M,G⟩:=n it (by simp);exact(W X.A (I.ok.hd q)).done s _ _ a λm J p=>⟨rfl,I.turned (λb o g e=>p b o (by simpa using g) e) F L y M G⟩
 self:=λA i s Q E a h=>hs A i s Q E a h
section
variable{X:Cx}
def vfx(tl:TE):TI:=λσ H R=>tl σ H λv H1=>∃x,v=.str x/\R (Its x) H1
def vah{l:qg}{tl:TE}(hl:PE X l tl):PI X tg l (vfx tl):=by
 intro a s σ H R I h;refine thn (hl a s σ H _ I h) λv c h'=>?_;let⟨y,j,f,m,x,e,q⟩:=h';subst e;let⟨t,rfl⟩:=m
 have d:∀{ob:Obj},∀b∈[c.heap.objs.size],yb9 X a j b:=λ{_}b k=>by
  have e:b=c.heap.objs.size:=by simpa using k
  subst e;exact f.fpOk (bj _) (f.hok.fresh (bj _))
 cases ha:x.cps.all (· <128)
 .refine wpAny_pyIter_wide ha ?_;exists c.heap.objs.size,[c.heap.objs.size],_,_,j,rfl,f.kept (t':=c.toks) λb o e=>bi _ e,ydn x t _ (by decide) (λA i=>Walks.strWide i _ x t) (λZ Z Z Z Z g h=>wpAny_pyIter_striter_wide g h),⟨_,bz _ rfl,rfl,rfl⟩,d (ob:=default),q
 .refine wpAny_pyIter_ascii ha ?_;exists c.heap.objs.size,[c.heap.objs.size],_,_,j,rfl,f.kept (t':=c.toks) λb o e=>bi _ e,ydn x t _ (by decide) (λA i=>Walks.strAscii i _ x t) (λZ Z Z Z Z g h=>wpAny_pyIter_striter_ascii g h),⟨_,bz _ rfl,rfl,rfl⟩,d (ob:=default),q
def yz7{tl:TE}{σ:St}{H:Hp}{R:It->Hp->Prop}(h:tl σ H λv H1=>∃x,v=.str x/\R (Its x) H1):vfx tl σ H R:=h
def yr9{x:Str}{k:Str}{t:Tok}{pos:Pos}(hg:Gl X x)(hm:X.mg x=some (.str k t))(hd:(x == ("__debug__":Str))=false:=by decide):PE X (.Name x pos) (tC (.str k)):=yc9 hg hm ⟨t,rfl⟩ hd
end
def yig{x:Str}{te:TE}{R:Hp->Prop}{H1:Hp}(f:Nat->V)(hD:H1 D=none)
  (hs:∀i c H,x.cps[i]?=some c->i<x.cps.size->yv H1 H->H D=some (.lst ((List.range i).map f))->te [some (.str ⟨#[c]⟩)] H (MpK H1 D f x.cps.size i)) (hd:∀H,yv H1 H->H D=some (.lst ((List.range x.cps.size).map f))->R H):yew (Its x) te D R H1:=by
 exists cW x.cps.size (Mp H1 D f),⟨x.cps.size,by simp,bJ _,Mp.zero hD⟩,?_;rintro i m H ⟨rfl,d,p⟩;by_cases hlt:i<x.cps.size
 .refine .inr ⟨hlt,λv b y=>?_⟩;let⟨rfl,c,a,rfl⟩:=y;exact hs i c _ a hlt p.1 p.2
 .have e:i=x.cps.size:=by omega
  subst e;exact .inl ⟨rfl,hd H p.1 p.2⟩
def Itk(o:Obj)(d:x0)(kvs:Κ):It :=
 ⟨λi H=>H d=some (.frz o (.dK kvs))/\i<kvs.length,λi H x H'=>H'=H/\∃k v,kvs[i]?=some (k,v)/\x=kV k,λi H=>H d=some (.frz o (.dK kvs))/\kvs.length<=i⟩
def Itv(o:Obj)(d:x0)(kvs:Κ):It :=
 ⟨λi H=>H d=some (.frz o (.dK kvs))/\i<kvs.length,λi H x H'=>H'=H/\∃k,kvs[i]?=some (k,x),λi H=>H d=some (.frz o (.dK kvs))/\kvs.length<=i⟩
def vce{w:qd}{k:Key}{u:qb}(r:(wk P w).is k u=true):xk (kV k) u:=by rcases xa r with⟨i,t,rfl,rfl⟩|⟨x,t,rfl,rfl⟩<;>exact⟨t,rfl⟩
def KV.get{kvs:Κ}{vs:qi (Key×qb)}(r:KV kvs vs){k:Key}{u:qb}(h:vs[i]?=some (k,u)):∃v,kvs[i]?=some (k,v)/\xk v u:=by let⟨⟨b,v⟩,e,a,c⟩:=ybf r h;have a:b=k:=a;exists v,by rw[e,a],c
def yix{xs:Υ}{us:Ο}(hl:xs.length=us.length)(h:∀(i:Nat)u,us[i]?=some u->∃x,xs[i]?=some x/\xk x u):wu xs us:=by
 induction xs generalizing us with
 |nil =>
  cases us with
  |nil=>exact .nil
  |cons u us=>cases hl
 |cons x xs ih =>
  cases us with
  |nil=>cases hl
  |cons u us =>
   let⟨y,e,r⟩:=h 0 u rfl;cases e;exact .cons r (ih (Nat.succ.inj hl) λi u a=>h (i+1) u a)
def ye9{X:Cx}{σ:St}{H:Hp}{s:qa}{d:x0}{kvs:Κ}{o:Obj}{es:Array DictEntry}(I:Inv X pins σ H s)(hd:H d=some (.frz o (.dK kvs)))(ho:o.data=.dict es ep):∃vs,KV kvs vs/\s.heap.DictAt (wk X.prog X.w) d vs ep:=by let⟨c,_,_,vs,r,i,e,h,a,g,b,f⟩:=(show w9 X.prog X.w H s.heap d (.frz o (.dK kvs))from I.hok d _ hd);rw[c]at a;cases a;rw[ho]at b;cases b;exists vs,r,o,es,c,g,ho,f
def ybg{w:qd}{K:xr}{o:Obj}{es:Array DictEntry}{kvs:Κ}(d it:x0)(hne:d≠it)(ho:o.data=.dict es ep):yfi P w K tg (Itk o d kvs) [it] it (λi h=>h.IsKeyIter it d i kvs.length ep) where
 mem:=by simp
 obj:=λi h a b f=>by
  have e:b=it:=by simpa using f
  subst e;let⟨o,e,_,d⟩:=a;exists o,e,λv z=>by rw[d]at z;cases z
 keep:=λi h j a k=>a.at λo e=>k it (by simp) o e
 item:=by
  intro X t q u n i c s σ H E I m a ⟨B,Y⟩;subst t q u;let⟨C,F,Z,p,J,D⟩:=m it (by simp);let⟨L,r,G⟩:=ye9 I B ho;have l:=r.length;have W:=Walks.dictKeys (knd:=wk X.prog X.w) (prog:=X.prog) (w:=X.w) (A:=X.A) (I.ok.hd n) it d hne L ep;refine W.item i s _ _ (by omega) ⟨by rw[<- l];exact a,G⟩ λv j M T g O=>?_;let⟨k,x,hx,S⟩:=T;let⟨y,N,_⟩:=r.get hx;have Q:Inv X c σ H {s with heap:=j,toks:=M}:=I.turned (λb o f e=>O b o (by simpa using f) e) C F p J D;let⟨o',U,c',R⟩:=id g.1;exists _,rfl,ygz (s:={s with heap:=j,toks:=M}) U c' R (by decide) ⟨kV k,H,Q,vce S,⟨rfl,k,y,N,rfl⟩,by rw[l];exact g.1,λb f=>(m b f).1⟩
 done:=by
  intro X t q u n i c s σ H E I m a ⟨B,a0⟩;subst t q u;let⟨C,F,Z,p,J,D⟩:=m it (by simp);let⟨L,r,G⟩:=ye9 I B ho;have l:=r.length;exact wpAny_pyNext_dict_end (I.ok.hd n) (by rw[<- l];exact a) G (by rw[List.getElem?_eq_none_iff];omega) λj eb=>⟨rfl,I.turned (t':=s.toks) (λb o f e=>eb b o f e) C F p J D⟩
 self:=λv v v v v a h=>wpAny_pyIter_keyiter a h
def yhv{w:qd}{K:xr}{o:Obj}{es:Array DictEntry}{kvs:Κ}(d it:x0)(hne:d≠it)(ho:o.data=.dict es ep):yfi P w K tg (Itv o d kvs) [it] it (λi h=>h.IsValIter it d i kvs.length ep) where
 mem:=by simp
 obj:=λi h a b f=>by
  have e:b=it:=by simpa using f
  subst e;let⟨o,e,_,d⟩:=a;exists o,e,λv z=>by rw[d]at z;cases z
 keep:=λi h j a k=>a.at λo e=>k it (by simp) o e
 item:=by
  intro X t q u n i c s σ H E I m a ⟨x,T⟩;subst t q u;let⟨B,D,Y,p,G,C⟩:=m it (by simp);let⟨J,r,F⟩:=ye9 I x ho;have l:=r.length;have W:=Walks.dictValues (knd:=wk X.prog X.w) (prog:=X.prog) (w:=X.w) (A:=X.A) (I.ok.hd n) it d hne J ep;refine W.item i s _ _ (by omega) ⟨by rw[<- l];exact a,F⟩ λv j L R g N=>?_;let⟨k,hx⟩:=R;let⟨y,M,U⟩:=r.get hx;have O:Inv X c σ H {s with heap:=j,toks:=L}:=I.turned (λb o f e=>N b o (by simpa using f) e) B D p G C;let⟨o',S,c',Q⟩:=id g.1;exists _,rfl,ygz (s:={s with heap:=j,toks:=L}) S c' Q (by decide) ⟨y,H,O,U,⟨rfl,k,M⟩,by rw[l];exact g.1,λb f=>(m b f).1⟩
 done:=by
  intro X t q u n i c s σ H E I m a ⟨x,a0⟩;subst t q u;let⟨B,D,Y,p,G,C⟩:=m it (by simp);let⟨J,r,F⟩:=ye9 I x ho;have l:=r.length;exact wpAny_pyNext_values_end (I.ok.hd n) (by rw[<- l];exact a) F (by rw[List.getElem?_eq_none_iff];omega) λj Z=>⟨rfl,I.turned (t':=s.toks) (λb o f e=>Z b o f e) B D p G C⟩
 self:=λv v v v v a h=>wpAny_pyIter_valiter a h
section
variable{X:Cx}
def vbs(to:TE):TI:=λσ H R=>to σ H λx H1=>∃d kvs,x=.ref d/\H1 d=some (.dK kvs)/\∀o,R (Itk o d kvs) (upd H1 d (.frz o (.dK kvs)))
def vcn(to:TE):TI:=λσ H R=>to σ H λx H1=>∃d kvs,x=.ref d/\H1 d=some (.dK kvs)/\∀o,R (Itv o d kvs) (upd H1 d (.frz o (.dK kvs)))
def yae{l:qg}{to:TE}(hl:PE X l to):PI X tg l (vbs to):=by
 intro c s σ H R I h;refine thn (hl c s σ H _ I h) λv a h'=>?_;let⟨x,y,m,A,d,i,e,n,q⟩:=h';subst e;cases A;let⟨_,g,t,r,k,E,B,f,z,p,u⟩:=(show w9 X.prog X.w y a.heap d (.dK i)from m.hok d _ n);have D:a.heap.DictAt (wk X.prog X.w) d t B:=⟨k,E,f,z,p,u⟩;refine wpAny_pyIter_dict g D ?_;have j:=m.freeze n trivial f;exists a.heap.objs.size,[a.heap.objs.size],_,_,_,rfl,j.kept (t':=a.toks) λb o e=>bi _ e,ybg d _ (bQ (bw f)) p,⟨_,bz _ rfl,rfl,by rw[r.length];rfl⟩,λb C=>?_,q k;have e:b=a.heap.objs.size:=by simpa using C
 subst e;exact j.fpOk (bj _) (j.hok.fresh (bj _))
def yjg{l:qg}{to:TE}{apos cpos:Pos}(hl:PE X l to)(hbase:attributeBase l "values" X.env (eval l X.env)=eval l X.env:=by rfl)(hline:(apos.endLine == cpos.line)=true:=by rfl):PI X tg (.Call (.Attribute l "values" apos) [] [] cpos) (vcn to):=by
 intro g s σ H R I h;refine wpAny_Call_method0_late hbase hline (thn (hl g s σ H _ I h) λv c h'=>?_);let⟨x,D,z,E,d,kvs,e,A,q⟩:=h';subst e;cases E;let⟨_,p,m,r,k,K,ep,f,n,B,C⟩:=(show w9 X.prog X.w D c.heap d (.dK kvs)from z.hok d _ A);have u:c.heap.DictAt (wk X.prog X.w) d m ep:=⟨k,K,f,n,B,C⟩;refine⟨"dict","dict.values",F.plainAttrs_dict,F.slot_dict_values,F.type_dict_values,⟨k,f,n.1⟩,λa J=>by cases J;exact⟨k,f,n.2.1⟩,Calls.callWith_builtin rfl (PySem.evalArgs_none (call_meetsIn F.slot_dict_values u.dictOf.typeIs F.entry_dict_values (F.args_dict_values_1 _) (meets_dict_values (wk X.prog X.w) d p) ⟨⟨m,u.dictOf⟩,?_⟩))⟩;refine wpAny_pyIter_values (knd:=wk X.prog X.w) (d:=d) (kvs:=m) (ep:=ep) ⟨_,bz _ rfl,rfl,rfl⟩ (u.push _) ?_;have t:=z.freeze A trivial f;have j:(c.heap.push { cls:=.type "dict_values",data:=.fields #[.ref d]}).objs.size=c.heap.objs.size+1:=Heap.size_push ..;have y:d<c.heap.objs.size:=bw f;exists _,[_],_,_,_,rfl,t.kept (t':=c.toks) λb o e=>bi _ (bi _ e),yhv d _ (show d≠(c.heap.push _).objs.size by rw[j];exact bQ (Nat.lt_succ_of_lt y)) B,⟨_,bz _ rfl,rfl,by rw[r.length];rfl⟩,λb G=>?_,q k;have e:b=(c.heap.push { cls:=.type "dict_values",data:=.fields #[.ref d]}).objs.size:=by simpa using G
 have i:c.heap.objs.size<=b:=by rw[e,j];omega
 exact t.fpOk i (t.hok.fresh i)
def ysf{to:TE}{σ:St}{H:Hp}{R:It->Hp->Prop}(h:to σ H λx H1=>∃d kvs,x=.ref d/\H1 d=some (.dK kvs)/\∀o,R (Itk o d kvs) (upd H1 d (.frz o (.dK kvs)))):vbs to σ H R:=h
def yrm{to:TE}{σ:St}{H:Hp}{R:It->Hp->Prop}(h:to σ H λx H1=>∃d kvs,x=.ref d/\H1 d=some (.dK kvs)/\∀o,R (Itv o d kvs) (upd H1 d (.frz o (.dK kvs)))):vcn to σ H R:=h
def yon(t:TE):TE:=λσ H Q=>t σ H λv H'=>∃d o u,(∀o u,H d≠some (.frz o u))/\H' d=some (.frz o u)/\Q v (upd H' d u)
def yjl{e:qg}{t:TE}(h:PE X e t):PE X e (yon t):=.mk λa s σ H Q I q=>thn (h a s σ H _ I q) λv g z=>by
 let⟨x,f,J,r,d,o,u,b,c,k⟩:=z;exists x,_,J.thaw (λo u e=>b o u (I.base.frzs d o u e)) c,r,k
def yq4{t:TE}{σ:St}{H:Hp}{Q:VK}(h:t σ H λv H'=>∃d o u,(∀o u,H d≠some (.frz o u))/\H' d=some (.frz o u)/\Q v (upd H' d u)):yon t σ H Q:=h
def yzn:qi V->Hp->VK->Prop:=λxs H Q=>∃d kvs,xs=[.ref d]/\H d=some (.dK kvs)/\∀l,H l=none->Q (.ref l) (upd H l (.lst (kvs.map λp=>kV p.1)))
def uy(hc:X.calm=true):zi X (.type "list") yzn:=by
 intro g s σ H O P Q I r h;let⟨d,kvs,rfl,D,q⟩:=h;let⟨u,rfl,L⟩:=γ r;cases L;let⟨j,c,f,r,n,J,ep,o,t,K,m⟩:=(show w9 X.prog X.w H s.heap d (.dK kvs)from I.hok d _ D);have G:s.heap.DictAt (wk X.prog X.w) d f ep:=⟨n,J,o,t,K,m⟩;refine W.kdl_call (W.kdl_dict (knd:=wk X.prog X.w) (kvs:=f) (ep:=ep) c) (I.ok.hd hc) G (by rw[<- r.length];exact j) λC E a M z e b=>?_
 have B:wu (kvs.map λp=>kV p.1) a.toList:=yix (by have S:=b.1;have R:=r.length;have T:a.toList.length=a.size:=cu;rw[be];omega) λi v F=>by
  let⟨k,x,N,A⟩:=b.2 i v (by rw[<- Array.getElem?_toList];exact F);let⟨y,l,_⟩:=r.get N;exists kV k,by rw[bn,l];rfl,vce A
 exists .ref s.heap.objs.size,_,I.laid (t':=E) z (bj _) (show w9 X.prog X.w _ C _ (.lst _)from ⟨by rw[be];exact j,a.toList,M,B,by rw[Array.toArray_toList];exact e⟩),rfl,q _ (I.hok.fresh (bj _))
end
def ÿ{o:Obj}{d:x0}{kvs:Κ}{g:TG}{tb:TS}{D:ā}{σ:St}{H:Hp}(Pv:Nat->St->Hp->Prop)(h0:Pv 0 σ H)(hl:∀i σ H,i<=kvs.length->Pv i σ H->H d=some (.frz o (.dK kvs)))
  (hs:∀i k v σ H,kvs[i]?=some (k,v)->Pv i σ H->g (kV k) σ H λσ2 H2=>tb {D with nx:=Pv (i+1),ct:=Pv (i+1),bk:=D.nx} σ2 H2) (hd:∀σ H,Pv kvs.length σ H->D.nx σ H):
  ∃W:Nat->Nat->St->Hp->Prop,(∃m,W 0 m σ H)/\∀i m σ H,W i m σ H ->
   ((Itk o d kvs).stop i H/\D.nx σ H)\/((Itk o d kvs).go i H/\∃N:Ζ,(∀σ' H',N σ' H'->∃m',m'<m/\W (i+1) m' σ' H')/\∀x H',(Itk o d kvs).yld i H x H'->g x σ H' λσ2 H2=>tb {D with nx:=N,ct:=N,bk:=D.nx} σ2 H2):=by
 exists λi m σ H=>m=kvs.length-i/\i<=kvs.length/\Pv i σ H,⟨kvs.length,by simp,bJ _,h0⟩,?_;rintro i m σ H ⟨rfl,c,p⟩;have q:=hl i σ H c p;by_cases hlt:i<kvs.length
 .refine .inr ⟨⟨q,hlt⟩,Pv (i+1),λσ' H' b=>⟨kvs.length-(i+1),by omega,rfl,hlt,b⟩,λx H' y=>?_⟩;let⟨rfl,k,v,a,rfl⟩:=y;exact hs i k v σ _ a p
 .have e:i=kvs.length:=by omega
  subst e;exact .inl ⟨⟨q,bj _⟩,hd σ H p⟩
def Œ{o:Obj}{d:x0}{kvs:Κ}{te:TE}{fr:St}{R:Hp->Prop}{H1:Hp}(Pv:Nat->Hp->Prop)(h0:Pv 0 (upd H1 D (.lst [])))(hl:∀i H,i<=kvs.length->Pv i H->H d=some (.frz o (.dK kvs)))
  (hs:∀i k v H,kvs[i]?=some (k,v)->i<kvs.length->Pv i H->te (some v::fr) H λy H4=>∃ys,H4 D=some (.lst ys)/\ys.length<sizeLine/\∃m',m'<kvs.length-i/\cW kvs.length Pv (i+1) m' (upd H4 D (.lst (ys++[y])))) (hd:∀H,Pv kvs.length H->R H):za (Itv o d kvs) te fr D R H1:=by
 exists cW kvs.length Pv,⟨kvs.length,by simp,bJ _,h0⟩,?_;rintro i m H ⟨rfl,b,p⟩;have q:=hl i H b p;by_cases hlt:i<kvs.length
 .refine .inr ⟨⟨q,hlt⟩,λx c y=>?_⟩;let⟨rfl,k,a⟩:=y;exact hs i k x _ a hlt p
 .have e:i=kvs.length:=by omega
  subst e;exact .inl ⟨⟨q,bj _⟩,hd H p⟩
def isN:V->Bool
 | .non=>true
 |_=>false
def vcq:qb->Bool
 | .none=>true
 |_=>false
def vgh(K:xr):R2:=λx y H Q=>∃p xs,x=.non/\y=.ref p/\SqL K H p xs/\(∀z∈xs,z=.non\/∃q ys,z=.ref q/\SqL K H q ys)/\Q (.bl (xs.any isN)) H
theorem yjq:∀{xs:Υ}{us:Ο},wu xs us->(∀z∈xs,z=.non\/∃q,z=.ref q)->us.any vcq=xs.any isN
 |_,_,.nil,_=>rfl
 |y::xs,u::us,.cons r t,f=>by
  rw[List.any_cons,List.any_cons,yjq t λz a=>f z (bM _ a)]
  congr 1
  rcases f y bN with rfl|⟨q,rfl⟩
  .cases r;rfl
  .cases r;rfl
def va4{X:Cx}(hu:X.A.units+64<cLine):OpR X (compareOp .In) (vgh X.K):=by
 intro m s σ H x y v u Q I G D h;let⟨p,c,rfl,rfl,B,d,q⟩:=h;cases G;cases D;let⟨b,r,C,F⟩:=I.list B
 have g:∀{c:Υ}{j:Ο},wu c j->(∀z∈c,z=.non\/∃q n,z=.ref q/\SqL X.K H q n)->∀w∈j,SeqAt.EqAt X.A.in1 s w .none (vcq w):=by
  intro c j E
  induction E with
  |nil=>intro _ w a;cases a
  |cons r1 t ih =>
   intro f w a;rcases bB.mp a with rfl|a
   .rcases f _ bN with rfl|⟨J,n,rfl,l⟩
    .cases r1;exact SeqAt.EqAt.same _
    .cases r1;let⟨o,_,k,_⟩:=I.list l;exact SeqAt.EqAt.list_none k.isList (by show X.A.units+1<cLine;omega)
   .exact ih (λz d=>f z (bM _ d)) w a
 refine SeqAt.in_listAt vcq C.isList (λw a=>g r d w (by simpa using a)) ⟨.bl _,H,I,rfl,?_⟩;rw[show b.toArray.any vcq=b.any vcq by simp,yjq r λz i=>(d z i).imp id λ⟨q,_,e,_⟩=>⟨q,e⟩];exact q
def jo{X:Cx}:zi X (.builtin "len") (λxs H Q=>∃a kvs,xs=[V.ref a]/\H a=some (.dK kvs)/\Q (.int kvs.length) H):=by intro b s σ H xs g Q I r h;let⟨a,kvs,rfl,e,q⟩:=h;let⟨u,rfl,d⟩:=γ r;cases d;exact vdn I (.of e) λt f c=>⟨.int kvs.length,H,c,⟨t,rfl⟩,q⟩
def ysb{σ:St}{H:Hp}{Q:VK}(h:∀p,H p=none->Q (.ref p) (upd H p (.dK []))):ypa σ H Q:=h
def yro{td ty:TE}{σ:St}{H:Hp}{Q:VK}(h:td σ H λx H1=>∃a,x=.ref a/\IsD H1 a/\ty σ H1 λy H2=>∃kvs k v,H2 a=some (.dK kvs)/\y=kV k/\zn kvs k=some v/\Q v (upd H2 a (.dK (Ø kvs k)))):yph td ty σ H Q:=h
def yis(bs:qi Bool):((List.range bs.length).any λi=>(bs[i]?).getD false)=bs.any id:=by
 rw[Bool.eq_iff_iff,cT,cT]
 constructor
 .rintro ⟨i,a,h⟩;have a:=cz.mp a;rw[bg a]at h;exists _,cc a,h
 .rintro ⟨b,c,h⟩;let⟨i,a,rfl⟩:=List.getElem_of_mem c;exists i,cz.mpr a,by rw[bg a];exact h
def yl6{X:Cx}(hc:X.calm=true):zi X (.builtin "any") (λxs H Q=>∃p bs,xs=[.ref p]/\SqL X.K H p (List.map V.bl bs)/\Q (.bl (bs.any id)) H):=by
 intro g s σ H xs z Q I r h;let⟨p,bs,rfl,k,q⟩:=h;let⟨u,rfl,w⟩:=γ r;cases w;let⟨n,j,m,D⟩:=I.list k;obtain rfl:=ž j;have d:=m.isList;have f:p<s.heap.objs.size:=by let⟨_,e,_⟩:=d;exact bw e
 refine call_any_walk (wpAny_pyIter_list d ?_)
 refine⟨s.heap.objs.size,[s.heap.objs.size,p],[s.heap.objs.size],(bs.map Value.bool).toArray.size,_,_,λi=>(bs[i]?).getD false,rfl,Walks.list (A:=X.A.in1) (show X.A.handled=none from I.ok.hd hc) _ p (bQ f) (bs.map Value.bool).toArray,
  ⟨⟨_,bz _ rfl,rfl,rfl⟩,d.push _⟩,λi v y E C a c=>?_,λB o l=>?_⟩
 .have a:(bs.map Value.bool)[i]?=some v:=by simpa using a
  rw[bn]at a
  cases e:bs[i]? with
  |none=>rw[e]at a;cases a
  |some b =>
   dsimp only at c;rw[e]at a c;cases a;exact cD c
 .have e:((List.range (bs.map Value.bool).toArray.size).any λi=>(bs[i]?).getD false)=bs.any id:=by rw[bx,be];exact yis bs
  rw[e];exists .bl (bs.any id),H,I.kept (t':=o) λb x e=>l b x (λt=>?_) (bi _ e),rfl,q;rw[bE.mp t]at e;exact cP _ (bw e)
section
variable{X:Cx}
def ve9:V->qj Int->qj Int->Hp->VK->Prop:=λx lo hi H Q=>∃z:Str,x=.str z/\z.length<=sizeLine/\Q (.str (Txt.slice z lo hi)) H
def yoi:SlR X ve9:=by
 intro d s σ H x v n m lo p o Q I g b f e h;let⟨z,rfl,a,q⟩:=h;let⟨t,rfl⟩:=g;refine⟨"str",_,F.slot_str_getitem.lookup,typeIs_str _ _ _,?_⟩
 cases f with
 |none =>
  cases e with
  |none=>exact wpAny_getItem_str_slice (l:=none) (u:=none) (st:=none) b rfl (post_val_or_str ⟨bP (Txt.slice_le z _ _) a,λc k=>⟨.str _,H,I.tok _,⟨_,rfl⟩,q⟩⟩)
  |int j uj=>exact wpAny_getItem_str_slice (l:=none) (u:=some (j,uj)) (st:=none) b rfl (post_val_or_str ⟨bP (Txt.slice_le z _ _) a,λc k=>⟨.str _,H,I.tok _,⟨_,rfl⟩,q⟩⟩)
 |int i ui =>
  cases e with
  |none=>exact wpAny_getItem_str_slice (l:=some (i,ui)) (u:=none) (st:=none) b rfl (post_val_or_str ⟨bP (Txt.slice_le z _ _) a,λc k=>⟨.str _,H,I.tok _,⟨_,rfl⟩,q⟩⟩)
  |int j uj=>exact wpAny_getItem_str_slice (l:=some (i,ui)) (u:=some (j,uj)) (st:=none) b rfl (post_val_or_str ⟨bP (Txt.slice_le z _ _) a,λc k=>⟨.str _,H,I.tok _,⟨_,rfl⟩,q⟩⟩)
def ylz{x:Str}(h:j<=x.length):(Txt.slice x none (some (j:Int))).cps.toList=x.cps.toList.take j:=by have e:=slice_closes_toL (x:=x) (j:=(j:Int)) (by omega) (by omega);rw[beq_iff_eq.mp e];simp
def yft{x:Str}(h:j<=x.length):(Txt.slice x (some (j:Int)) none).cps.toList=x.cps.toList.drop j:=by
 rw[slice_from_eq (b:=(x.length:Int)) (by omega) (by omega) rfl];have e:x.length=x.cps.toList.length:=by simp[Str.length]
 simp;rw[cm (by rw[cH,e];omega)]
end
section
variable{X:Cx}
def yb5(p:x0)(n:Nat)(h:qf):Prop:=∃o es ep t,h.get? p=some o/\o.ExactSet/\o.data=.set es ep t/\t.fits es.size=true/\es.size<scanBound/\es.size=n
def yb5.st{p:x0}{n:Nat}{h1 h2:qf}(s:yb5 p n h1)(k:∀o,h1.get? p=some o->h2.get? p=some o):yb5 p n h2:=by let⟨o,a,b,t,e,r⟩:=s;exists o,a,b,t,k _ e,r
def vem(K:xr):qi V->Hp->VK->Prop:=λxs H Q=>∃p ns,xs=[.ref p]/\SqL K H p (List.map V.int ns)/\ns.length<=1000/\∀q,H q=none->Q (.ref q) (upd H q (.ext (yb5 q (firstMet (λi=>ns.getD i 0) ns.length).length)))
def yhe(hc:X.calm=true):zi X (.type "set") (vem X.K):=by
 intro g s σ H N O Q I r h;let⟨p,d,rfl,z,J,q⟩:=h;let⟨u,rfl,M⟩:=γ r;cases M;let⟨c,j,A,_⟩:=I.list z;have F:IntsAre c.toArray.toList d:=ygh j
 have n:c.toArray.size=d.length:=by
  have e:=j.length;rw[be]at e;rw[bx];exact e.symm
 refine call_set_list (I.ok.hd hc) A.isList F (by rw[n];exact Nat.lt_of_le_of_lt (Nat.succ_le_succ J) (by decide)) λm D l y=>?_;rw[n]at l;let⟨o,G,C,t,e,x,L,_,_,v,E,B⟩:=l
 have f:yb5 s.heap.objs.size (firstMet (λi=>d.getD i 0) d.length).length m:=⟨o,G,C,t,e,x,L,E,v,B⟩
 exists .ref s.heap.objs.size,_,I.laid (t':=D) (λb o e=>y b o (bw e) e) (bj _) (show w9 X.prog X.w _ m _ (.ext (yb5 s.heap.objs.size _))from ⟨f,⟨o,e⟩,λZ Z a k=>a.st k⟩),rfl,q _ (I.hok.fresh (bj _))
def ycw:zi X (.builtin "len") (λxs H Q=>∃q n,xs=[.ref q]/\H q=some (.ext (yb5 q n))/\Q (.int (n:Nat)) H):=by intro a s σ H xs l Q I r h;let⟨p,n,rfl,e,q⟩:=h;let⟨u,rfl,i⟩:=γ r;cases i;let⟨o,v,m,t,g,b,f,c,k,d⟩:=(show w9 X.prog X.w H s.heap p (.ext (yb5 p n))from I.hok p _ e).1;have j:scanBound=4096:=rfl;refine call_len_set g b f c (by omega) ?_;rw[d];exists .int (n:Nat),H,I.tok _,⟨_,rfl⟩,q
def vc9:R2:=λx y H Q=>∃(z:Str)(k:Int),x=.str z/\y=.int k/\0<=k/\k<=1000/\z.length<=1000/\∀z':Str,z'.cps.toList=(List.replicate k.toNat z.cps.toList).flatten->Q (.str z') H
theorem yjk(a:Array Nat):∀(k:Nat)(b:Array Nat),((List.replicate k a).foldl (·++·) b).toList=b.toList++(List.replicate k a.toList).flatten
 |0,b=>by simp
 |k+1,b=>by
  rw[cr,List.foldl_cons,yjk a k,Array.toList_append,cr,List.flatten_cons,cy]
theorem yf1:OpR X (binaryOp .Mult) vc9:=by
 intro a s σ H x y v u Q I j f h;let⟨z,k,rfl,rfl,n,m,c,q⟩:=h;let⟨t,rfl⟩:=j;let⟨o,rfl⟩:=f;by_cases k0:k<1
 .exact P.mul_str_none k0 (by omega) ⟨.str Str.empty,H,I.tok _,⟨_,rfl⟩,q _ (by rw[show k.toNat=0 by omega];rfl)⟩
 have l:z.length*k.toNat<=1000*1000:=Nat.mul_le_mul c (by omega);refine P.mul_str (by rw[bC (by omega),bC (by omega)];rfl) (λZ Z=>?_) (λZ Z=>?_) ?_
 .have d:(z.length:Int)*k=((z.length*k.toNat:Nat):Int):=by rw[Int.natCast_mul,Int.toNat_of_nonneg (by omega)]
  have g:(z.length:Int)*k<=(2^63-1:Int):=by rw[d];omega
  exact Int.not_lt.mpr (Int.le_ediv_of_mul_le (by omega) g)
 .have:=sizeLine_eq;unfold Builtin.Str.tooLong;exact bC (by omega)
 .rw[if_neg (by omega)];by_cases h1:(k == 1 || z.length == 0)=true
  .rw[if_pos h1];exists .str z,H,I,⟨_,rfl⟩,q z ?_;rcases Bool.or_eq_true_iff.mp h1 with e|e
   .rw[beq_iff_eq.mp e];simp
   .have i:z.cps.toList=[]:=ck (by have:=beq_iff_eq.mp e;simpa[Str.length]using this);rw[i];simp
  .rw[if_neg h1];have b:=yjk z.cps k.toNat #[];exists ?_,⟨.str _,H,I.tok _,⟨_,rfl⟩,q _ b⟩
   have e:Str.length ⟨(List.replicate k.toNat z.cps).foldl (·++·) #[]⟩=k.toNat*z.cps.toList.length:=by
    show ((List.replicate k.toNat z.cps).foldl (·++·) #[]).size=_;rw[<- cu,b];simp[List.sum_replicate_nat]
   rw[e,sizeLine_eq,Nat.mul_comm];have:z.cps.toList.length=z.length:=by simp[Str.length]
   rw[this];omega
def ynv(p:x0)(n:Nat)(h:qf):Prop:=∃t u v,IsRange h p 0 (n:Int) 1 t u v
def vgn:qi V->Hp->VK->Prop:=λxs H Q=>∃n:Nat,xs=[.int n]/\n<=1000/\∀q,H q=none->Q (.ref q) (upd H q (.ext (ynv q n)))
def ynm:zi X (.type "range") vgn:=by intro d s σ H g j Q I r h;let⟨n,rfl,i,q⟩:=h;let⟨u,rfl,f⟩:=γ r;let⟨t,rfl⟩:=f;refine call_range_1 ?_;have c:=IsRange.new s.heap 0 (n:Int) 1 s.toks t (s.toks+1);exists .ref s.heap.objs.size,_,I.laid (t':=s.toks+1+1) (λb o e=>bi _ e) (bj _) (show w9 X.prog X.w _ _ _ (.ext (ynv s.heap.objs.size n))from ⟨⟨_,_,_,c⟩,⟨_,c⟩,λZ Z ⟨t,u,v,a⟩ k=>⟨t,u,v,k _ a⟩⟩),rfl,q _ (I.hok.fresh (bj _))
def yy5:qi V->Hp->VK->Prop:=λxs H Q=>∃q n,xs=[.ref q]/\H q=some (.ext (ynv q n))/\n<=1000/\∀l,H l=none->Q (.ref l) (upd H l (.lst ((List.range n).map λi=>V.int (i:Nat))))
def yfk(hc:X.calm=true):zi X (.type "list") yy5:=by
 intro f s σ H C E Q I r h;let⟨p,n,rfl,e,D,q⟩:=h;let⟨u,rfl,A⟩:=γ r;cases A;let⟨t,u,v,j⟩:=(show w9 X.prog X.w H s.heap p (.ext (ynv p n))from I.hok p _ e).1;have d:Builtin.Range.rangeSize 0 (n:Int) 1=(n:Int):=by rw[rangeSize_one];split<;>omega
 refine call_list_range (n:=n) (I.ok.hd hc) j (small_one (by omega) (by omega) (by omega) (by omega)) (by rw[d]) (by omega) λm o b B k z a=>?_
 have l:wu ((List.range n).map λi=>V.int (i:Nat)) b.toList:=yix (by have y:=a.1;have G:b.toList.length=b.size:=cu;rw[be,bU];omega) λi v g=>by
  let⟨t,rfl⟩:=a.2 i v (by rw[<- Array.getElem?_toList];exact g)
  have c:i<n:=by
   have y:=a.1;have x:=(bv.mp g).1;rw[cu]at x;omega
  exists .int (i:Nat),by rw[bn,cE c];rfl,⟨t,by rw[show (0+(i:Int)*1)=(i:Int) by omega]⟩
 have F:=sizeLine_eq;exists .ref s.heap.objs.size,_,I.laid (t':=o) k (bj _) (show w9 X.prog X.w _ m _ (.lst _)from ⟨by rw[be,bU];omega,b.toList,B,l,by rw[Array.toArray_toList];exact z⟩),rfl,q _ (I.hok.fresh (bj _))
end
section
variable{prog:qh}{w:qd}
def vd5(k:Int×qi Int):Int:=reduceHash (Builtin.Tuple.tupleHashOf [hashInt k.1,reduceHash (Builtin.Tuple.tupleHashOf (k.2.map hashInt))])
variable{A:qe}{E:Δ}{s:qa}
end
abbrev NX:=(Int×qi Int)×x0×x0
def vgi(x:NX):DictEntry:=⟨vd5 x.1,.ref x.2.1,.ref x.2.2⟩
def ND(a:x0)(xs:qi NX):HO:=.ext λh=>(a == sysModules)=false/\∃o es ep,h.get? a=some o/\o.ExactDict/\o.data=.dict es ep/\es.toList=xs.map vgi
def NKy(H:Hp)(p:x0)(k:Int×qi Int):Prop:=∃b,H p=some (.tup [.int k.1,.ref b])/\H b=some (.tup (k.2.map V.int))
structure NDt(H:Hp)(a:x0)(xs:qi NX):Prop where
 o:H a=some (ND a xs)
 k:∀x∈xs,NKy H x.2.1 x.1
 n:(xs.map (·.1)).Nodup
 l:xs.length<sizeLine
def yte:V->qi V->Hp->VK->Prop:=λx vs H Q=>∃l xs y,∃i:Nat,x=.ref l/\vs=[.int i,y]/\H l=some (.lst xs)/\i<=xs.length/\xs.length<1000000/\Q .non (upd H l (.lst (xs.take i++y::xs.drop i)))
set_option tactic.hygienic true in
def yhb{X:Cx}:MtM X "list.insert" yte:=by
 intro d s σ H x u v C Q I p o h;let⟨l,A,y,i,rfl,rfl,f,B,w,q⟩:=h;cases p
 cases o with
 |cons r1 rr =>
  cases rr with
  |cons r2 rn =>
   cases rn;let⟨t,rfl⟩:=r1
   rename_i u2
   let⟨z,a,n,r,k,e⟩:=I.lstM f;have g:(-(2^63):Int)<=(i:Int):=Int.le_trans (by decide) (Int.natCast_nonneg i);have c:(i:Int)<2^63:=Int.lt_of_lt_of_le (show (i:Int)<1000001 by omega) (by decide)
   have j:(if (i:Int)<0 then ((i:Int)+(a.toArray.size:Int)).toNat else min (i:Int).toNat a.toArray.size)=i:=by
    rw[if_neg (by omega),bx,<- k];omega
   generalize (i:Int)=x at g c j⊢;have m:=fitsIndex_both g c;have b:a.toArray.size<=sizeLine:=by rw[bx];omega
   refine call_meets PySem.F.slot_list_insert ⟨_,e,rfl⟩ PySem.F.entry_list_insert (PySem.F.args_list_insert_3 _ _ _) (PySem.AutoSeq1.list_insert_list_int_val_1 l a.toArray n x t u2 (by rw[m];exact λz=>nomatch z) b) ⟨e,?_⟩
   exists .non,_,I.lset (its':=a.take i++u2::a.drop i) f e ?_ ((r.take i).append (.cons r2 (r.drop i))) ?_,rfl,q
   .show (a.toArray.extract 0 (if x<0 then (x+(a.toArray.size:Int)).toNat else min x.toNat a.toArray.size)).push u2++a.toArray.extract (if x<0 then (x+(a.toArray.size:Int)).toNat else min x.toNat a.toArray.size)=_;rw[j];apply Array.ext';rw[Array.toList_append,Array.toList_push,Array.toList_extract,Array.toList_extract];show (List.take (i-0) (List.drop 0 a))++[u2]++List.take (a.toArray.size-i) (List.drop i a)=_;rw[Nat.sub_zero,List.drop_zero,bx,cm (l:=List.drop i a) (by rw[cH];exact bj _),cy];rfl
   .rw[bp,bH,bW,cH,sizeLine_eq];omega
def Ý{K:xr}{a:x0}{xs:Υ}{tc:TT}{te:TE}{fr:St}{R:Hp->Prop}{H1:Hp}(Pv:Nat->Hp->Prop)(h0:Pv 0 (upd H1 D (.lst [])))(hl:∀i H,i<=xs.length->Pv i H->SqL K H a xs)
  (hs:∀i x H,xs[i]?=some x->i<xs.length->Pv i H->tc (some x::fr) H λb H4=>if b=true then te (some x::fr) H4 (λy H5=>∃ys,H5 D=some (.lst ys)/\ys.length<sizeLine/\∃m',m'<xs.length-i/\cW xs.length Pv (i+1) m' (upd H5 D (.lst (ys++[y]))))else ∃m',m'<xs.length-i/\cW xs.length Pv (i+1) m' H4)
  (hd:∀H,Pv xs.length H->R H):χ (Itl K a) tc te fr D R H1:=by
 exists cW xs.length Pv,⟨xs.length,by simp,bJ _,h0⟩,?_;rintro i m H ⟨rfl,c,p⟩;have q:=hl i H c p;by_cases hlt:i<xs.length
 .refine .inr ⟨⟨xs,xs[i],q,by simp[hlt]⟩,λx d y=>?_⟩;let⟨e,y⟩:=y;subst e;exact hs i x _ (y xs q) hlt p
 .have e:i=xs.length:=by omega
  subst e;exact .inl ⟨⟨xs,q,bj _⟩,hd H p⟩
def yfo{o:Obj}{d:x0}{kvs:Κ}{tc:TT}{te:TE}{fr:St}{R:Hp->Prop}{H1:Hp}(Pv:Nat->Hp->Prop)(h0:Pv 0 (upd H1 D (.lst [])))(hl:∀i H,i<=kvs.length->Pv i H->H d=some (.frz o (.dK kvs)))
  (hs:∀i k v H,kvs[i]?=some (k,v)->i<kvs.length->Pv i H->tc (some (kV k)::fr) H λb H4=>if b=true then te (some (kV k)::fr) H4 (λy H5=>∃ys,H5 D=some (.lst ys)/\ys.length<sizeLine/\∃m',m'<kvs.length-i/\cW kvs.length Pv (i+1) m' (upd H5 D (.lst (ys++[y]))))else ∃m',m'<kvs.length-i/\cW kvs.length Pv (i+1) m' H4)
  (hd:∀H,Pv kvs.length H->R H):χ (Itk o d kvs) tc te fr D R H1:=by
 exists cW kvs.length Pv,⟨kvs.length,by simp,bJ _,h0⟩,?_;rintro i m H ⟨rfl,c,p⟩;have q:=hl i H c p;by_cases hlt:i<kvs.length
 .refine .inr ⟨⟨q,hlt⟩,λx f y=>?_⟩;let⟨rfl,k,v,a,rfl⟩:=y;exact hs i k v _ a hlt p
 .have e:i=kvs.length:=by omega
  subst e;exact .inl ⟨⟨q,bj _⟩,hd H p⟩
end L2
namespace L2
open PySem PySem.Spec PyProof.Rows PySem.SeqAt PySem.Builtin PySem.Builtin.Str
end L2
namespace L2
open PySem PySem.Spec PyProof.Rows
variable{e:qg}
def jh.m{j k:Nat}{A:qe}(r:jh k A)(h:j<=k:=by decide):jh j A:=r.mono h
section
variable{X:Cx}{es:qi qg}{te:TE}{t:TA}
def pa1(ha:PE X e te)(h:yc5 e=true:=by exact rfl):PA X [e] (ynw te ylb):=yjm ha uo (yiz h)
def pac(ha:PE X e te)(hr:PA X es t)(h:yc5 e=true:=by exact rfl):PA X (e::es) (ynw te t):=yjm ha hr (yiz h)
end
section
variable{X:Cx}{k:Nat}{f:x0}{fd:FuncData}{ps:Τ}{sp:Sp}{Ex:St->XK}{x:Str}{p pos:Pos}{es:qi qg}{t:TA}{st:qc}{id:String}{r:qi V->Hp->VK->Prop}{T:String}
def uh(F:vz X.prog X.w X.K X.mg X.base CX0 k f fd ps sp)(hr:jh k X.A)(D:Dff X.K X.mg x st ps f fd)(ha:PA X (e::es) t)(hg:Gl X x:=by exact rfl)(hdb:(x == ("__debug__":Str))=false:=by decide)
  (he:starEach (e::es) X.env=(false,eval e X.env)::starEach es X.env:=by rfl) (hpl:(backTo pos (starEach es X.env)).any (·.1)=false:=by rfl):PE X (.Call (.Name x p) (e::es) [] pos) (yuw sp [] E0 t):=yag F hr hg D.m D.F.kp D.B .nil v7 ha hdb he hpl
def x4(F:vz X.prog X.w X.K X.mg X.base (CXe X.prog X.w) k f fd ps sp)(hr:jh k X.A)(D:Dff X.K X.mg x st ps f fd)(hc:yak X Ex)(ha:PA X (e::es) t)(hg:Gl X x:=by exact rfl)(hdb:(x == ("__debug__":Str))=false:=by decide)
  (he:starEach (e::es) X.env=(false,eval e X.env)::starEach es X.env:=by rfl) (hpl:(backTo pos (starEach es X.env)).any (·.1)=false:=by rfl):PE X (.Call (.Name x p) (e::es) [] pos) (yku sp [] Ex t):=ö F hr hg D.m D.F.kp D.B .nil hc ha hdb he hpl
def pcB(hc:zi X (.builtin id) r)(hm:X.mg x=none)(ha:PA X (e::es) t)(hg:Gl X x:=by exact rfl)(hv:bootBuiltins x=some (.builtin id):=by decide+kernel)(hn:x≠"__name__":=by decide)(hdb:(x == ("__debug__":Str))=false:=by decide)
  (he:starEach (e::es) X.env=(false,eval e X.env)::starEach es X.env:=by rfl) (hpl:(backTo pos (starEach es X.env)).any (·.1)=false:=by rfl):PE X (.Call (.Name x p) (e::es) [] pos) (tCB r t):=ymw hc hg hm hv ha hn hdb he hpl
def pcT(hc:zi X (.type T) r)(hm:X.mg x=none)(ha:PA X (e::es) t)(hg:Gl X x:=by exact rfl)(hv:bootBuiltins x=some (.type T):=by decide+kernel)(hn:x≠"__name__":=by decide)(hdb:(x == ("__debug__":Str))=false:=by decide)
  (he:starEach (e::es) X.env=(false,eval e X.env)::starEach es X.env:=by rfl) (hpl:(backTo pos (starEach es X.env)).any (·.1)=false:=by rfl):PE X (.Call (.Name x p) (e::es) [] pos) (tCB r t):=yio hc hg hm hv ha hn hdb he hpl
end
section
variable{X:Cx}{tg:qg}
def yol(to:TE):TI:=λσ H R=>to σ H λx H1=>∃d kvs o,x=.ref d/\H1 d=some (.frz o (.dK kvs))/\R (Itk o d kvs) H1
def ymf{l:qg}{to:TE}(hl:PE X l to):PI X tg l (yol to):=by
 intro c s σ H R I h;refine thn (hl c s σ H _ I h) λv a h'=>?_;let⟨x,t,f,u,d,j,o,e,z,q⟩:=h';subst e;cases u;let⟨m,_,i,n,r,p,D,y,g,E,k,B⟩:=(show w9 X.prog X.w t a.heap d (.frz o (.dK j))from f.hok d _ z);obtain rfl:p=o:=by rw[m]at g;cases g;rfl
 have C:a.heap.DictAt (wk X.prog X.w) d n y:=⟨_,D,g,E,k,B⟩;refine wpAny_pyIter_dict i C ?_;exists a.heap.objs.size,[a.heap.objs.size],_,_,_,rfl,f.kept (t':=a.toks) λb o e=>bi _ e,ybg d _ (bQ (bw m)) k,⟨_,bz _ rfl,rfl,by rw[r.length];rfl⟩,λb A=>?_,q;have e:b=a.heap.objs.size:=by simpa using A
 subst e;exact f.fpOk (bj _) (f.hok.fresh (bj _))
def ylo{to:TE}{σ:St}{H:Hp}{R:It->Hp->Prop}(h:to σ H λx H1=>∃d kvs o,x=.ref d/\H1 d=some (.frz o (.dK kvs))/\R (Itk o d kvs) H1):yol to σ H R:=h
end
def yi3(K:xr):V->Hp->VK->Prop:=λx H Q=>∃a xs,x=.ref a/\SqL K H a xs/\∀p ys,H p=none->(∀y∈ys,y∈xs)->ys.length<=xs.length->Q (.ref p) (upd H p (.lst ys))
def vfe(K:xr)(te:TE)(tl th ts:TO):TE:=λσ H Q=>te σ H λx H1=>tl σ H1 λZ H2=>th σ H2 λZ H3=>ts σ H3 λk H4=>k≠some 0/\yi3 K x H4 Q
theorem ya9{xs:Υ}{us:Ο}(r:wu xs us):∀idx:qi Nat,∃ys,wu ys (idx.filterMap (us[·]?))/\∀y∈ys,y∈xs
 |[]=>⟨[],.nil,λZ h=>nomatch h⟩
 |i::idx=>by
  let⟨ys,d,c⟩:=ya9 r idx
  cases e:us[i]? with
  |none=>exists ys,by rw[List.filterMap_cons,e];exact d,c
  |some u =>
   have f:=r.length;have a:i<xs.length:=by rw[f];exact(bv.mp e).1
   let⟨j,b,q⟩:=r.get (bg a);rw[e]at b;cases b;exists xs[i]::ys,by rw[List.filterMap_cons,e];exact .cons q d,λy g=>?_
   rcases bB.mp g with z|z
   .rw[z];exact cc a
   .exact c y z
section
variable{X:Cx}{st:qg}{te:TE}{lo hi:qj qg}{tl th ts:TO}{pos p2:Pos}
def yhf(he:PE X e te)(hl:PO X lo tl)(hu:PO X hi th)(hs:PO X (some st) ts):PE X (.Subscript e (.Slice lo hi (some st) p2) pos) (vfe X.K te tl th ts):=by
 refine .mk λc s σ H Q I h=>?_;refine Subscript_ (thn (he c s σ H _ I h) λv D h'=>?_);let⟨x,E,G,M,F⟩:=h';refine wpAny_Slice (thn (hl c D σ E _ G F) λvl Z ⟨l,Y,T,O,q2⟩=>thn (hu c Z σ Y _ T q2) λy s3 ⟨u,W,P,pu,q3⟩=>thn (hs c s3 σ W _ P q3) λC g h'=>?_);let⟨k,L,S,z,R,J⟩:=h';have m:Inv X c σ L {g with heap:=g.heap.push { cls:=.type "slice",data:=.fields #[vl,y,C]} }:=S.kept (t':=g.toks) λb U q=>bi _ q;let⟨a,N,rfl,hx,q⟩:=J;cases M;let⟨d,r,t,hz⟩:=m.list hx;have i:=r.length;have f:=slicePick_size_le d.toArray l u k;rw[bx]at f;let⟨n,p,B⟩:=ya9 r (sliceRange (sliceBounds l u k d.toArray.size).1 (sliceBounds l u k d.toArray.size).2.1 (sliceBounds l u k d.toArray.size).2.2)
 have j:n.length<=N.length:=by
  rw[p.length,i];unfold slicePick at f;rw[bx]at f;simpa using f
 show wpAny (model X.prog X.w) X.A (subscriptTail e (.Slice lo hi (some st) p2) (.ref a) (.ref g.heap.objs.size)) (EP X c σ Q) X.xe _;refine tail_any (ops:=[.ref a,.ref g.heap.objs.size]) t.isList.typeIs slot_list_getitem.lookup ?_ (by with_unfolding_all rfl);refine wpAny_getItem_list_slice t.isList (Heap.IsSliceOf.new ..) O pu z R ?_ (by rw[bx]<;>omega);exists .ref _,_,m.laid (t':=g.toks) (o:=.lst n) (λb U q=>bi _ q) (bj _) ?_,rfl,q _ n (m.hok.fresh (bj _)) B j;exists by omega,_,0,p,?_
 rw[bz _ rfl];unfold slicePick;simp
def vdb{K:xr}{σ:St}{H:Hp}{Q:VK}(h:te σ H λx H1=>tl σ H1 λZ H2=>th σ H2 λZ H3=>ts σ H3 λk H4=>k≠some 0/\yi3 K x H4 Q):vfe K te tl th ts σ H Q:=h
end
def vco(K:xr):qi V->Hp->VK->Prop:=λvs H Q=>∃p ns,vs=[.ref p]/\SqL K H p (List.map V.int ns)/\ns≠[]/\∀m,m∈ns->(∀x∈ns,m<=x)->Q (.int m) H
def yg4{X:Cx}(hc:X.calm=true):zi X (.builtin "min") (vco X.K):=by
 intro i s σ H J L Q I r h;let⟨p,d,rfl,y,e,q⟩:=h;let⟨u,rfl,F⟩:=γ r;cases F;let⟨A,o,z,O⟩:=I.list y;let⟨a,n,k⟩:=Ž o;have E:s.heap.IsList p (intItems a):=n ▸ z.isList;have g:a.size=d.length:=by rw[<- k];simp
 have w:0<a.size:=by rw[g];exact List.length_pos_iff.mpr e
 have b:∀j,j<d.length->d[j]?=some (numAt a j):=λj c=>by
  have l:j<a.size:=by omega
  rw[<- k,bn];unfold numAt;simp[l]
 refine min_intList (I.ok.hd hc) E w λv M D C B=>?_;let⟨t,rfl⟩:=intItems_at C;let⟨N,m⟩:=argBest_lt (numAt a) (a.size-1);exists .int _,H,I.kept (t':=D) B,⟨_,rfl⟩,q _ (bA (b _ (by omega))) λx G=>?_;let⟨j,c⟩:=List.getElem?_of_mem G;have f:=(bv.mp c).1;rw[b j f]at c;rw[<- bD c];exact m j (by omega)
end L2
namespace MixI
def giv(c b:Int):Int:=if b=1 then c else 16777216-c
def ynt(x:Int):Nat:=if x == 0 then 0 else x.natAbs.log2+1
def shL(ws cs:Ρ)(b:Int):Ρ:=List.zipWith (λw c=>w*giv c b) ws cs
def grL(sh:Ρ):Ρ:=sh.map λs=>31*(sh.length:Int)*s+sh.sum
def tOf(s:Int):Nat:=ynt s-48
def lrn(ws cs:Ρ)(b:Int):Ρ:=(grL (shL ws cs b)).map λv=>v/2^tOf (grL (shL ws cs b)).sum
def vfv(ws cs:Ρ):Int:=(List.zipWith (λw c=>w*c) ws cs).sum
def ylc(ws cs:Ρ):Int:=vfv ws cs/ws.sum
structure WOk(k:Nat)(ws:Ρ):Prop where
 len:ws.length=k
 one:∀w∈ws,1<=w
 top:∀w∈ws,w<281474976710656
structure COk(k:Nat)(cs:Ρ):Prop where
 len:cs.length=k
 lo:∀c∈cs,32768<=c
 hi:∀c∈cs,c<=16744448
def vap{c b:Int}(h1:32768<=c)(h2:c<=16744448):32768<=giv c b:=by unfold giv;split<;>omega
def ydf{ws cs:Ρ}{b:Int}(h:ws.length=cs.length):(shL ws cs b).length=ws.length:=by unfold shL;rw[List.length_zipWith,<- h];omega
def yjf{sh:Ρ}:(grL sh).length=sh.length:=by unfold grL;rw[be]
def ysh{k:Nat}{ws cs:Ρ}{b:Int}(hw:WOk k ws)(hc:COk k cs):(lrn ws cs b).length=k:=by unfold lrn;rw[be,yjf,ydf (by rw[hw.len,hc.len]),hw.len]
theorem ņ(m d:Int):∀sh:Ρ,(sh.map λs=>m*s+d).sum=m*sh.sum+sh.length*d
 |[]=>by simp
 |s::r=>by
  simp only[bT,List.sum_cons,ņ m d r,bW,Int.natCast_add,Int.natCast_one,Int.mul_add,Int.add_mul];omega
def yst(sh:Ρ):(grL sh).sum=32*(sh.length:Int)*sh.sum:=by unfold grL;rw[ņ,Int.mul_assoc,Int.mul_assoc];generalize (sh.length:Int)*sh.sum=x;omega
theorem yj8:∀{l:Ρ},(∀x∈l,0<=x)->0<=l.sum
 |[],_=>by simp
 |a::r,h=>by
  have d:=h a (by simp);have c:=yj8 (l:=r) λx b=>h x (by simp[b]);rw[List.sum_cons];omega
theorem yox:∀{l:Ρ}{y:Int},(∀x∈l,0<=x)->y∈l->y<=l.sum
 |a::r,y,h,hy=>by
  have f:=h a (by simp);have b:∀x∈r,0<=x:=λx c=>h x (by simp[c]);have d:=yj8 b;rw[List.sum_cons];rcases bB.mp hy with e|hy
  .omega
  .have:=yox b hy;omega
theorem ykf{c:Int}:∀{l:Ρ},(∀x∈l,c<=x)->c*l.length<=l.sum
 |[],_=>by simp
 |a::r,h=>by
  have e:=h a (by simp);have d:=ykf (l:=r) λx b=>h x (by simp[b]);rw[List.sum_cons,bW,Int.natCast_add,Int.natCast_one,Int.mul_add];omega
theorem yor{c:Int}:∀{l:Ρ},(∀x∈l,x<=c)->l.sum<=c*l.length
 |[],_=>by simp
 |a::r,h=>by
  have e:=h a (by simp);have d:=yor (l:=r) λx b=>h x (by simp[b]);rw[List.sum_cons,bW,Int.natCast_add,Int.natCast_one,Int.mul_add];omega
theorem ypt{f:Int->Int}{m:Int}:∀{ws cs:Ρ},ws.length=cs.length->(∀w∈ws,0<=w)->(∀c∈cs,m<=f c)->m*ws.sum<=(List.zipWith (λw c=>w*f c) ws cs).sum
 |[],[],_,_,_=>by simp
 |w::r,c::t,h,h1,h2=>by
  have i:=ypt (f:=f) (m:=m) (ws:=r) (cs:=t) (by simpa using h) (λx b=>h1 x (by simp[b])) λx b=>h2 x (by simp[b]);have a:=bX (h2 c (by simp)) (h1 w (by simp));rw[List.zipWith_cons_cons,List.sum_cons,List.sum_cons,Int.mul_add,Int.mul_comm m w];omega
theorem yn8{f:Int->Int}{m:Int}:∀{ws cs:Ρ},ws.length=cs.length->(∀w∈ws,0<=w)->(∀c∈cs,f c<=m)->(List.zipWith (λw c=>w*f c) ws cs).sum<=m*ws.sum
 |[],[],_,_,_=>by simp
 |w::r,c::t,h,h1,h2=>by
  have i:=yn8 (f:=f) (m:=m) (ws:=r) (cs:=t) (by simpa using h) (λx b=>h1 x (by simp[b])) λx b=>h2 x (by simp[b]);have a:=bX (h2 c (by simp)) (h1 w (by simp));rw[List.zipWith_cons_cons,List.sum_cons,List.sum_cons,Int.mul_add,Int.mul_comm m w];omega
def WOk.pos{k:Nat}{ws:Ρ}(h:WOk k ws)(hk:1<=k):1<=ws.sum:=by have:=ykf (c:=1) h.one;rw[h.len]at this;omega
def WOk.small{k:Nat}{ws:Ρ}(h:WOk k ws)(hk:k<=6):ws.sum<=1688849860263936:=by have:=yor (c:=281474976710656) λx a=>Int.le_of_lt (h.top x a);rw[h.len]at this;omega
def yeu{k:Nat}{ws cs:Ρ}(hk:1<=k)(hw:WOk k ws)(hc:COk k cs):32768<=ylc ws cs/\ylc ws cs<=16744448:=by
 have e:ws.length=cs.length:=by rw[hw.len,hc.len]
 have d:∀w∈ws,0<=w:=λw h=>by have:=hw.one w h;omega
 have p:=hw.pos hk;have a:=ypt (f:=λc=>c) e d hc.lo;have b:=yn8 (f:=λc=>c) e d hc.hi;unfold ylc vfv;exists(Int.le_ediv_iff_mul_le (by omega)).mpr a,Int.le_of_lt_add_one ((Int.ediv_lt_iff_lt_mul (by omega)).mpr (by rw[Int.add_mul];omega))
def yeo(t:Nat):(2:Int)^t=((2^t:Nat):Int):=by rw[Int.natCast_pow];rfl
def yqx(t:Nat):(0:Int)<2^t:=by rw[yeo];exact Int.natCast_pos.mpr (Nat.pow_pos (by decide))
def yy3{s:Int}(h:1<=s):s<281474976710656*2^tOf s/\(tOf s=0\/140737488355328*2^tOf s<=s):=by
 have f:s.natAbs≠0:=by omega
 have e:(s.natAbs:Int)=s:=by omega
 have a:=Nat.log2_self_le f;have b:=@Nat.lt_log2_self s.natAbs;unfold tOf ynt;rw[if_neg (by simp;omega)];generalize s.natAbs.log2=L at a b⊢;rcases Nat.lt_or_ge L 48 with q|q
 .have z:L+1-48=0:=by omega
  rw[z];exists ?_,.inl rfl;have:2^(L+1)<=2^48:=Nat.pow_le_pow_right (by decide) (by omega);have c:(2:Nat)^48=281474976710656:=by decide
  rw[c]at this;rw[<- e,Int.pow_zero,Int.mul_one];omega
 .obtain⟨t,rfl⟩:∃t,L=47+t:=⟨L-47,by omega⟩;have z:47+t+1-48=t:=by omega
  rw[z,yeo];have d:(2:Nat)^(47+t)=140737488355328*2^t:=by rw[Nat.pow_add]
  have c:(2:Nat)^(47+t+1)=281474976710656*2^t:=by rw[show 47+t+1=48+t by omega,Nat.pow_add]
  rw[d]at a;rw[c]at b;generalize 2^t=T at a b⊢;exists by omega,.inr (by omega)
section
variable{k:Nat}{ws cs:Ρ}{b:Int}
def ysw(hw:WOk k ws)(hc:COk k cs):∀s∈shL ws cs b,1<=s:=by intro s a;unfold shL at a;rw[List.mem_iff_getElem]at a;let⟨i,e,rfl⟩:=a;rw[List.length_zipWith]at e;rw[List.getElem_zipWith];have d:=hw.one ws[i] (cc _);have c:=vap (b:=b) (hc.lo cs[i] (cc _)) (hc.hi cs[i] (cc _));have:=Int.mul_le_mul d c (by decide) (by omega);omega
def yz4{sh:Ρ}(h:∀s∈sh,1<=s):∀v∈grL sh,sh.sum<=v/\v<=(grL sh).sum/\0<=v:=by
 have e:=yj8 (l:=sh) λx d=>by have:=h x d;omega
 have a:∀v∈grL sh,sh.sum<=v:=λv a=>by
  unfold grL at a;let⟨s,b,rfl⟩:=bq.mp a;have:=h s b;have:0<=31*(sh.length:Int)*s:=Int.mul_nonneg (Int.mul_nonneg (by decide) (Int.natCast_nonneg _)) (by omega);omega
 exact λv c=>⟨a v c,yox (λx d=>by have:=a x d;omega) c,by have:=a v c;omega⟩
def you(hk:1<=k)(hk6:k<=6)(hw:WOk k ws)(hc:COk k cs):WOk k (lrn ws cs b):=by
 have f:(shL ws cs b).length=k:=by rw[ydf (by rw[hw.len,hc.len]),hw.len]
 have g:=ysw (b:=b) hw hc
 have p:1<=(shL ws cs b).sum:=by
  have:=ykf (c:=1) g;rw[f]at this;omega
 have j:=yz4 g;have e:=yst (shL ws cs b);rw[f]at e
 have q:1<=(grL (shL ws cs b)).sum:=by
  rw[e];have:32*(k:Int)*1<=32*(k:Int)*(shL ws cs b).sum:=bX p (by omega);omega
 have n:(grL (shL ws cs b)).sum<=192*(shL ws cs b).sum:=by
  rw[e];exact cb (by omega) (by omega)
 let⟨r,a⟩:=yy3 q;have i:=yqx (tOf (grL (shL ws cs b)).sum);exists ysh hw hc,λw h=>?_,λw h=>?_
 .obtain⟨v,d,rfl⟩:=bq.mp h;let⟨l,m,o⟩:=j v d;refine(Int.le_ediv_iff_mul_le i).mpr ?_;rcases a with a|a
  .rw[a,Int.pow_zero];omega
  .generalize (2:Int)^tOf (grL (shL ws cs b)).sum=T at*;omega
 .obtain⟨v,d,rfl⟩:=bq.mp h;let⟨l,m,o⟩:=j v d;exact(Int.ediv_lt_iff_lt_mul i).mpr (by omega)
def yif{g:Int->Int->Int}{ws cs:Ρ}(h:cs.length=ws.length):(List.range ws.length).map (λi=>g ((ws[i]?).getD 0) ((cs[i]?).getD 0))=List.zipWith g ws cs:=by
 apply List.ext_getElem
 .rw[be,bU,List.length_zipWith];omega
 .intro i a b;rw[be,bU]at a;rw[cK,List.getElem_range,List.getElem_zipWith,bg a,bg (by omega)];rfl
end
end MixI
namespace SpanMath
def rn(d:Ρ):Nat->Int
 |0=>0
 |k+1=>rn d k*256+(d[k]?).getD 0
def Byt(d:Ρ):Prop:=∀x∈d,0<=x/\x<=255
def yzu{d:Ρ}(h:Byt d)(k:Nat):0<=(d[k]?).getD 0/\(d[k]?).getD 0<=255:=by
 cases e:d[k]? with
 |none=>exists by decide,by decide
 |some x=>exact h x (bA e)
theorem yk2{d:Ρ}(h:Byt d)(k:Nat):∀r,∃q,rn d (k+r)=rn d k*pw r+q/\0<=q/\q<pw r
 |0=>⟨0,by show rn d k=rn d k*1+0;omega,by decide,by decide⟩
 |r+1=>by
  let⟨q,e,c,a⟩:=yk2 h k r;let⟨b,f⟩:=yzu h (k+r);exists q*256+(d[k+r]?).getD 0,?_,by omega,?_
  .show rn d (k+r)*256+(d[k+r]?).getD 0=rn d k*(pw r*256)+_;rw[e,<- Int.mul_assoc,Int.add_mul,Int.add_assoc]
  .show _<pw r*256;omega
def yl0{d:Ρ}(h:Byt d)(k r:Nat)(l w':Int):(l*pw r<=rn d (k+r)/\rn d (k+r)<l*pw r+w'*pw r)↔(l<=rn d k/\rn d k<l+w'):=by
 let⟨q,e,i,g⟩:=yk2 h k r;have c:=ug r;rw[e,<- Int.add_mul];generalize rn d k=v;generalize pw r=p at c i g⊢
 constructor
 .rintro ⟨a,b⟩
  constructor
  .refine Int.le_of_lt_add_one (Int.lt_of_mul_lt_mul_right (a:=p) ?_ (Int.le_of_lt c));rw[Int.add_mul,Int.one_mul];omega
  .refine Int.lt_of_mul_lt_mul_right (a:=p) ?_ (Int.le_of_lt c);omega
 .rintro ⟨a,b⟩;have j:=cb a (Int.le_of_lt c);have f:=cb (show v+1<=l+w' by omega) (Int.le_of_lt c);rw[Int.add_mul v 1 p,Int.one_mul]at f;omega
structure InS(d:Ρ)(x:Sn):Prop where
 lo:x.1<=rn d (sz x)
 hi:rn d (sz x)<x.1+x.2.1
def vb5(l w' s':Int):∃r:Nat,ren l w' s'=(l*pw r,w'*pw r,s'+r):=by
 unfold ren
 split
 .split
  .exact⟨2,rfl⟩
  .exact⟨1,rfl⟩
 .refine⟨0,?_⟩;show (l,w',s')=(l*1,w'*1,s'+0);rw[Int.mul_one,Int.mul_one,Int.add_zero]
def yn7{d:Ρ}(h:Byt d){l w' s':Int}(hs:0<=s'):InS d (ren l w' s')↔(l<=rn d s'.toNat/\rn d s'.toNat<l+w'):=by
 let⟨r,e⟩:=vb5 l w' s';rw[e]
 have c:sz (l*pw r,w'*pw r,s'+r)=s'.toNat+r:=by
  show (s'+(r:Int)).toNat=s'.toNat+r;omega
 rw[<- yl0 h s'.toNat r l w']
 constructor
 .rintro ⟨a,b⟩;rw[c]at a b;exists a,b
 .rintro ⟨a,b⟩;exists by rw[c];exact a,by rw[c];exact b
def ô(d:Ρ)(x:Sn)(c:Int):Int:=if rn d (sz x)<x.1+cut x.2.1 c then 1 else 0
def Ź(d:Ρ)(x:Sn)(c:Int):ô d x c=0\/ô d x c=1:=by
 unfold ô
 split
 .exact .inr rfl
 .exact .inl rfl
def yr8{d:Ρ}(hd:Byt d){x:Sn}{c b:Int}(h:OkS x)(hc:Ch c)(hb:b=0\/b=1)(i:InS d (nar x c b)):InS d x/\b=ô d x c:=by
 have f:=h.ok.z;let⟨k,g,j⟩:=Ś h.ok.w0 h.ok.w1 hc;unfold nar at i;rcases hb with rfl|rfl
 .rw[if_neg (by decide)]at i;let⟨e,a⟩:=(yn7 hd (by omega)).mp i;have e:x.1+cut x.2.1 c<=rn d (sz x):=e;have a:rn d (sz x)<x.1+cut x.2.1 c+(x.2.1-cut x.2.1 c):=a;exists⟨by omega,by omega⟩,?_;unfold ô;rw[if_neg (by omega)]
 .rw[if_pos rfl]at i;let⟨e,a⟩:=(yn7 hd (by omega)).mp i;have e:x.1<=rn d (sz x):=e;have a:rn d (sz x)<x.1+cut x.2.1 c:=a;exists⟨by omega,by omega⟩,?_;unfold ô;rw[if_pos a]
theorem ypy:∀(k:Nat)(d:Ρ),k<=d.length->rn d k=val (d.take k)
 |0,_,_=>rfl
 |k+1,d,h=>by
  have a:k<d.length:=by omega
  have e:d.take (k+1)=d.take k++[d[k]]:=by rw[List.take_succ,bg a];rfl
  rw[e,yeg,<- ypy k d (by omega)];show rn d k*256+_=_;rw[bg a];rfl
def yaj{d:Ρ}(hd:Byt d){x:Sn}(h:OkS x)(hl:(tL x).length<=d.length)(hp:d.take (tL x).length=tL x):InS d x:=by
 have g:=ynq h
 have e:rn d (sz x-tK x)=tCn x:=by
  rw[<- yex x,ypy _ _ hl,hp,vax h]
 let⟨q,b,j,i⟩:=yk2 hd (sz x-tK x) (tK x);have f:sz x-tK x+tK x=sz x:=by omega
 rw[f,e]at b;have a:=yai h.ok;have c:=(yki x.1 (ug (tK x))).1;unfold Ŝ at a;have a:(tCn x+1)*pw (tK x)<=x.1+x.2.1:=a;have c:x.1<=tCn x*pw (tK x):=c;rw[Int.add_mul,Int.one_mul]at a;exists by rw[b];omega,by rw[b];omega
end SpanMath
namespace Law
local macro_rules | `(tactic| ext)=>`(tactic| walk_at "rd")
local macro_rules | `(tactic| right)=>`(tactic| decide +kernel)
open PySem L2
set_option hygiene true in
local macro_rules | `(tactic| exists $n:num,$s:str)=>do
 let ts<-((s.getString.splitOn " ").map fun x=>Lean.mkIdent (((if n.getNat<4 then `_root_.Law else `_root_.L2) ++ x.toName:Lean.Name))).toArray.mapM fun x=>match n.getNat%4 with
  | 0=>`(Lean.Parser.Tactic.tacticSeq| refine $x ?_)
  | 1=>`(Lean.Parser.Tactic.tacticSeq| (with_reducible refine' $x (by assumption) ?q ?_; (case q=>first | assumption | exact ya)))
  | 2=>`(Lean.Parser.Tactic.tacticSeq| (with_reducible refine' $x ?q ?_; (case q=>first | assumption | exact ya)))
  | _=>`(Lean.Parser.Tactic.tacticSeq| (with_reducible refine' $x ?q ?n ?_; (case q=>first | assumption | exact ya); (case n=>with_unfolding_all decide +kernel)))
 `(tactic| first $[| $ts:tacticSeq]*)
local macro_rules | `(tactic| exists $n:num,$m:num)=>do
 let xs:=Array.replicate n.getNat (<-`(some _))++Array.replicate m.getNat (<-`(none))
 `(tactic| (try dsimp only [vy]; refine yj (σ':=[$xs,*]) rfl ?_))
local macro_rules | `(tactic| exists $h:ident,$a:ident,$b:ident,$c:ident)=>`(tactic| with_reducible first | refine yu $h fun $a $b $c=>?_ | refine y8 $h fun $a $b $c=>?_)
local macro_rules | `(tactic| exists $n:num,$m:num,$t)=>`(tactic| (refine ⟨_,$t,?_⟩;exists $n,$m;ext))
local macro_rules | `(tactic| left)=>`(tactic| first | (cases h; subst_vars; rfl) | repeat first | (obtain ⟨e,_⟩:=h; subst e; rfl) | obtain ⟨_,h⟩:=h)
local macro_rules | `(tactic| exists $a:ident,$b:ident,$c:ident)=>`(tactic| (refine $a $b (fun ϟ H Q E h=>?_) (fun ϟ A ϟ s H ϟ Q E $c h=>?_); left))
local macro_rules | `(tactic| walk_at "side")=>`(tactic| first | exact ⟨by decide,by decide⟩ | (show (0:Int) < _; first | decide | omega) | exact Or.inl ⟨by omega,by omega⟩ | exact Or.inr ⟨by omega,by omega⟩ | exact ⟨by omega,by omega⟩ | exact ⟨by decide,by decide,by decide⟩)
local macro_rules | `(tactic| walk_at "len")=>`(tactic| first | decide | (simp only [bW,List.length_nil]; decide))
local macro_rules | `(tactic| walk_at "rd1")=>`(tactic| with_reducible first
 | exists 4,"vgm vd1 var vam"
 | ((fail_if_success constructor); walk_at "rd2"))
local macro_rules | `(tactic| walk_at "o")=>`(tactic| refine yky fun ϟ ϟ ϟ ϟ ϟ ϟ=>?_)
set_option hygiene true in
local macro_rules | `(tactic| walk_at "rd2")=>`(tactic| with_reducible first
 | walk_at "o"
 | refine vcy (by assumption) ?_
 | (refine' yvs ?rdv ?_; (case rdv=>with_unfolding_all rfl))
 | exists 4,"i_c vf1 vgj vau vga vf7 vd3 vec ypn yzr vbj ytd yad ysy ysx vaa vdp vgl vd2 yr2 yzb vbl vek vf9 vdx vd0 vc7 veg Ĩ vat vgp vdo vc8 yw5 vgd vdb ynl van vgc i_U g0 g1 g2 g3 g4 g5 g6 g7 g8 g9 g10 g11 yre yyr ł ĳ ven vdy vdu ys8 yw6 yse ysp ysj ywy yqv yx7 vao yq4 yz7 ysf ylo yrm ysb yro ylw yrp ys4 yw8 vei ym0 yxf yq5 ysd"
 | (refine' i_shlC ?rdp ?rdq ?_; (case rdp=>with_unfolding_all exact ⟨by decide,by decide,by decide⟩); (case rdq=>with_unfolding_all decide))
 | (refine' i_powC ?rdp ?rdq ?_; (case rdp=>with_unfolding_all exact ⟨by decide,by decide,by decide⟩); (case rdq=>with_unfolding_all decide))
 | (refine i_I ?rdc ?_; (case rdc=>with_unfolding_all walk_at "side")))
local macro_rules | `(tactic| walk_at "rd")=>`(tactic| repeat walk_at "rd1")
variable{D c' cl cl' ct' dc dq ds md p q tl y:x0}{U U' W' W2:Ν}{L M:Η}{ts xs:Ρ}{i j m':Nat}{tp:Μ}{O O' O2:Β}{bt:Nat->Int}{R:Prop}{tu:Str->x0}
def top(i:Nat):qc:=PySem.Challenge.pw_foretell_k92_whole_store.main.body.getD i (.Pass ⟨0,0,0,0⟩)
abbrev ve3:qc:=top 21
abbrev ve1:qc:=top 22
abbrev veu:qc:=top 23
abbrev vev:qc:=top 24
abbrev ve2:qc:=top 25
abbrev vey:qc:=top 26
abbrev ver:qc:=top 27
abbrev ve6:qc:=top 28
abbrev ve8:qc:=top 29
abbrev yvb:qc:=top 30
abbrev yu2:qc:=top 31
abbrev ytn:qc:=yy (top 36) 0
abbrev yuv:qc:=yy (top 36) 1
abbrev ytv:qc:=yy (top 36) 2
abbrev yvr:qc:=yy (top 36) 3
abbrev yvk:qc:=yy (top 37) 0
abbrev yvx:qc:=yy (top 37) 1
abbrev yui:qc:=yy (top 37) 2
abbrev yuz:qc:=yy (top 37) 3
abbrev yt9:qc:=yy (top 38) 0
abbrev yv3:qc:=yy (top 38) 1
abbrev yux:qc:=yy (top 38) 2
abbrev yvt:qc:=yy (top 38) 3
abbrev yuo:qc:=top 39
abbrev yuu:qc:=top 45
abbrev yvj:qc:=top 46
abbrev yvu:qc:=top 47
abbrev yt8:qc:=top 48
abbrev ytm:qc:=top 49
abbrev yu0:qc:=top 50
abbrev yt6:qc:=top 51
abbrev yvy:qc:=yy (top 52) 0
abbrev yv7:qc:=yy (top 52) 2
abbrev yu1:qc:=yy (top 52) 4
abbrev ytx:qc:=yy (top 57) 0
abbrev yt0:qc:=yy (top 57) 2
abbrev yva:qc:=yy (top 57) 3
abbrev yuy:qc:=yy (top 57) 4
abbrev ytl:qc:=yy (top 60) 0
abbrev yvq:qc:=yy (top 60) 1
abbrev yvp:qc:=yy (top 60) 2
abbrev yus:qc:=yy (top 60) 3
abbrev yv1:qc:=yy (top 60) 7
abbrev yv2:qc:=yy (top 60) 8
abbrev yvo:qc:=yy (top 60) 9
abbrev yuh:qc:=yy (top 60) 10
abbrev ytw:qc:=top 63
abbrev yub:qc:=top 64
abbrev yvm:qc:=top 69
abbrev yv5:qc:=top 70
abbrev yv4:qc:=yy (top 71) 0
abbrev yvv:qc:=yy (top 71) 2
abbrev yt5:qc:=yy (top 71) 3
abbrev yun:qc:=yy (top 71) 5
abbrev yu8:qc:=yy (top 71) 6
abbrev yty:qc:=yy (top 73) 0
abbrev yu6:qc:=yy (top 73) 1
abbrev yt3:qc:=yy (top 73) 2
abbrev yu9:qc:=yy (top 73) 3
abbrev yud:qc:=yy (top 73) 5
abbrev yt7:qc:=top 75
abbrev yvc:qc:=top 76
abbrev yvg:qc:=top 77
abbrev ygx:qc:=top 78
abbrev yuq:qc:=top 80
abbrev ygy:qc:=top 81
abbrev yto:qc:=top 82
abbrev yt1:qc:=top 83
abbrev yur:qc:=top 84
abbrev yt4:qc:=top 85
abbrev ygu:qc:=top 86
abbrev ygv:qc:=top 87
abbrev yts:qc:=yy (top 89) 0
abbrev yve:qc:=yy (top 89) 1
abbrev yua:qc:=yy (top 89) 2
abbrev ytz:qc:=yy (top 89) 3
abbrev ytr:qc:=yy (top 89) 4
abbrev yut:qc:=top 94
abbrev yv8:qc:=top 95
abbrev ytp:qc:=top 96
abbrev yuk:qc:=yy (top 97) 0
abbrev ygw:qc:=yy (top 98) 0
abbrev yul:qc:=yy (top 98) 3
abbrev ygr:qc:=yy (top 98) 4
abbrev yt2:qc:=yy (top 98) 6
abbrev yv0:qc:=yy (top 98) 7
abbrev ytq:qc:=yy (top 98) 8
abbrev yvh:qc:=yy (top 98) 9
abbrev yup:qc:=yy (top 98) 10
abbrev yuj:qc:=yy (top 98) 11
abbrev yum:qc:=yy (top 98) 12
abbrev yug:qc:=yy (top 98) 13
abbrev yvn:qc:=yy (top 98) 16
abbrev yvw:qc:=yy (top 98) 17
abbrev yuc:qc:=top 100
abbrev yv6:qc:=top 101
abbrev yu3:qc:=top 102
abbrev yvl:qc:=top 103
abbrev ytt:qc:=top 104
abbrev ykq:qc:=top 105
abbrev yk3:qc:=top 106
abbrev yka:qc:=top 107
abbrev yj3:qc:=top 108
abbrev ykr:qc:=top 109
abbrev yjv:qc:=top 110
abbrev yuf:qc:=top 111
set_option genInjectivity false in
set_option genSizeOfSpec false in
structure Ads where
 (Q2 Q3 Q4 Q5 Q6 Q7 Q8 Q9 Qa Ip Iq Gg Ir Is Iu Gh Iv Iw Ix Gi Iy Iz J0 J1 J2 J3 J4 J5 J6 J7 J8 Gj J9 Ja Gk Jb Jc Jd Gm Je Jf Jg Jh Ji Jj Jk Jl Jm Jn Jo Gn Jp Jq Jr Js Gp Jt Ju Jv Jw Jx Jy Jz Di K1 K3 Dj K4 K5 K6 K7 K8 Dk K9 Dl Ka Gq Kb Kc Kd Ke Kg Kh Ki Gr D9 Kj Kk Da Kl Km Kn Ko Kp Kq Kr Ks Kt Ku Kv Kw Kx Ky Kz L1 Fa Fb Fc Fd Fe Ff P1 A6 A5 Ad Ab Bf A2 A4 Ae A1 A8 A0 Gs Fg Az Dm By Fh Dn Ah Ai Aw C7 A9 B9 Ci Bg:x0)
 (Qc Qd Qe Qf Qg Qh Qi Qj Qk L6 L7 L8 L9 La Lb Lc Ld Le Lf Lg Lh Li Lj Lk Ll Lm Ln Lo Lp Lq Lr Ls Lt Lu Lv Lx Ly Lz M0 M4 M5 M6 M7 M8 M9 Ma Mb Mc Md Me Mf Mg Mh Mi Mj Ml Mm Mn Mo Mq Mr Ms Mt Mu Mv Mw Mx My Mz N0 Gt Gu N2 N3 N4 N5 N6 N7 N8 N9 Na Nd Nf Ng Nh Ni Nj Nk Nl Nm Nn No Np Nq Nr Nt Nu Nv Nw Fi Fj Fk Fl Fm Fn Gv:FuncData)
 (Cp Cq Cr Fo P3 C1 C2 Bh Co Bu C3 D5 Bi C8 Bj C9 Bv C4 Bw Bk D6 Bx:Tok)
variable{a:Ads}
structure Txt(K:xr)(mg:Ε)(a:Ads):Prop where
 Gw:Dff K mg "is_whole" ve3 ["thing"] a.Q2 a.Qc
 Ql:Dff K mg "is_bit" ve1 ["thing"] a.Q3 a.Qd
 Qm:Dff K mg "is_chance" veu ["thing"] a.Q4 a.Qe
 Qn:Dff K mg "is_sign" vev ["thing"] a.Q5 a.Qf
 P4:Dff K mg "is_list_of_signs" ve2 ["thing","most"] a.Q6 a.Qg
 Fp:Dff K mg "checked_text" vey ["thing"] a.Q7 a.Qh
 P5:Dff K mg "checked_bytes" ver ["thing"] a.Q8 a.Qi
 P6:Dff K mg "check_most" ve6 ["thing"] a.Q9 a.Qj
 Op:Dff K mg "check_chance" ve8 ["thing"] a.Qa a.Qk
 Cm:Dff K mg "check_bit" yvb ["thing"] a.Ip a.L6
 Ny:Dff K mg "gives" yu2 ["chance","bit"] a.Iq a.L7
 Do:Dfm K a.A6 "__init__" "Even.__init__" ytn ["self"] a.Gg a.L8
 Gy:Dfm K a.A6 "chance" "Even.chance" yuv ["self"] a.Ir a.L9
 Gz:Dfm K a.A6 "seen" "Even.seen" ytv ["self","bit"] a.Is a.La
 Ha:Dfm K a.A6 "twin" "Even.twin" yvr ["self"] a.Iu a.Lb
 Dp:Dfm K a.A5 "__init__" "Quick.__init__" yvk ["self"] a.Gh a.Lc
 Hb:Dfm K a.A5 "chance" "Quick.chance" yvx ["self"] a.Iv a.Ld
 Hc:Dfm K a.A5 "seen" "Quick.seen" yui ["self","bit"] a.Iw a.Le
 Hd:Dfm K a.A5 "twin" "Quick.twin" yuz ["self"] a.Ix a.Lf
 Dq:Dfm K a.Ad "__init__" "Run.__init__" yt9 ["self"] a.Gi a.Lg
 He:Dfm K a.Ad "chance" "Run.chance" yv3 ["self"] a.Iy a.Lh
 Hf:Dfm K a.Ad "seen" "Run.seen" yux ["self","bit"] a.Iz a.Li
 Hg:Dfm K a.Ad "twin" "Run.twin" yvt ["self"] a.J0 a.Lj
 Nz:Dff K mg "slot_of" yuo ["kind"] a.J1 a.Lk
 O0:Dff K mg "is_kind" yuu ["thing"] a.J2 a.Ll
 O4:Dff K mg "is_place" yvj ["thing"] a.J3 a.Lm
 O5:Dff K mg "are_places" yvu ["thing"] a.J4 a.Ln
 Hh:Dff K mg "is_look" yt8 ["thing"] a.J5 a.Lo
 Hi:Dff K mg "checked_looks" ytm ["thing"] a.J6 a.Lp
 O6:Dff K mg "sign_back" yu0 ["signs","place"] a.J7 a.Lq
 O7:Dff K mg "context_of" yt6 ["look","signs","node"] a.J8 a.Lr
 Dr:Dfm K a.Ab "__init__" "Book.__init__" yvy ["self","look"] a.Gj a.Ls
 Hj:Dfm K a.Ab "slot_at" "Book.slot_at" yv7 ["self","signs","node"] a.J9 a.Lt
 Hk:Dfm K a.Ab "twin" "Book.twin" yu1 ["self"] a.Ja a.Lu
 Ds:Dfm K a.Bf "__init__" "Mixer.__init__" ytx ["self","many"] a.Gk a.Lv
 Hl:Dfm K a.Bf "mixed" "Mixer.mixed" yt0 ["self","chances"] a.Jb a.Lx
 Hm:Dfm K a.Bf "learn" "Mixer.learn" yva ["self","chances","bit"] a.Jc a.Ly
 Hn:Dfm K a.Bf "twin" "Mixer.twin" yuy ["self"] a.Jd a.Lz
 Cn:Dfm K a.A2 "__init__" "Foreteller.__init__" ytl ["self","looks"] a.Gm a.M0
 Cs:Dfm K a.A2 "arrive" "Foreteller.arrive" yvq ["self"] a.Je a.M4
 Ct:Dfm K a.A2 "chances" "Foreteller.chances" yvp ["self"] a.Jf a.M5
 Cu:Dfm K a.A2 "chance" "Foreteller.chance" yus ["self"] a.Jg a.M6
 Ca:Dfm K a.A2 "see" "Foreteller.see" yv1 ["self","bit"] a.Jh a.M7
 Ho:Dfm K a.A2 "step" "Foreteller.step" yv2 ["self","bit"] a.Ji a.M8
 Hq:Dfm K a.A2 "step_in_sign" "Foreteller.step_in_sign" yvo ["self","bit"] a.Jj a.M9
 Hr:Dfm K a.A2 "fork" "Foreteller.fork" yuh ["self"] a.Jk a.Ma
 O8:Dff K mg "bits_of" ytw ["sign"] a.Jl a.Mb
 Eu:Dff K mg "decisions_of" yub ["text"] a.Jm a.Mc
 O9:Dff K mg "written" yvm ["number","size"] a.Jn a.Md
 Hs:Dff K mg "first_block" yv5 ["low","unit"] a.Jo a.Me
 Dt:Dfm K a.A4 "__init__" "Span.__init__" yv4 ["self"] a.Gn a.Mf
 Du:Dfm K a.A4 "cut" "Span.cut" yvv ["self","chance"] a.Jp a.Mg
 Dv:Dfm K a.A4 "narrow" "Span.narrow" yt5 ["self","chance","bit"] a.Jq a.Mh
 Ht:Dfm K a.A4 "holds_block" "Span.holds_block" yun ["self","unit"] a.Jr a.Mi
 Dw:Dfm K a.A4 "told" "Span.told" yu8 ["self"] a.Js a.Mj
 Ev:Dfm K a.Ae "__init__" "Seeker.__init__" yty ["self","data"] a.Gp a.Ml
 Dx:Dfm K a.Ae "follow" "Seeker.follow" yu6 ["self"] a.Jt a.Mm
 Hu:Dfm K a.Ae "byte_at" "Seeker.byte_at" yt3 ["self","place"] a.Ju a.Mn
 Hv:Dfm K a.Ae "bit" "Seeker.bit" yu9 ["self","chance"] a.Jv a.Mo
 Hw:Dfm K a.Ae "told" "Seeker.told" yud ["self"] a.Jw a.Mq
 Ew:Dff K mg "checked_learned" yt7 ["thing"] a.Jx a.Mr
 Ex:Dff K mg "teach" yvc ["foreteller","texts"] a.Jy a.Ms
 Oa:Dff K mg "rows_of" yvg ["looks","text","learned"] a.Jz a.Mt
 R4:ê K "foretold" "foretold" ygx a.K1 a.Di a.Mu
 Tt:xw K a.Mu ["looks","text","learned"] [.none]
 Rq:xw K a.Mu ["looks","text","learned"] []
 Rr:mg "foretold"=some (.ref a.Di)
 Ey:Dff K mg "press_by" yuq ["foreteller","text"] a.K3 a.Mv
 P7:ê K "pressed" "pressed" ygy a.K4 a.Dj a.Mw
 Rf:xw K a.Mw ["looks","text","learned"] [.none]
 Rs:xw K a.Mw ["looks","text","learned"] []
 R5:mg "pressed"=some (.ref a.Dj)
 Hx:Dff K mg "bit_by" yto ["foreteller","seeker"] a.K5 a.Mx
 Ob:Dff K mg "sign_by" yt1 ["foreteller","seeker"] a.K6 a.My
 Oc:Dff K mg "text_by" yur ["foreteller","seeker","most"] a.K7 a.Mz
 Hy:Dff K mg "read_by" yt4 ["foreteller","data","most"] a.K8 a.N0
 P8:ê K "read_first" "read_first" ygu a.K9 a.Dk a.Gt
 Tu:xw K a.Gt ["looks","data","most","learned"] [.none]
 Tv:xw K a.Gt ["looks","data","most","learned"] [.int 1000 a.Cp,.none]
 R6:xw K a.Gt ["looks","data","most","learned"] []
 R7:mg "read_first"=some (.ref a.Dk)
 R8:ê K "read" "read" ygv a.Ka a.Dl a.Gu
 Tw:xw K a.Gu ["looks","data","most","learned"] [.none]
 Tx:xw K a.Gu ["looks","data","most","learned"] [.int 1000 a.Cq,.none]
 Rt:xw K a.Gu ["looks","data","most","learned"] []
 Ru:mg "read"=some (.ref a.Dl)
 Cv:Dfm K a.A1 "__init__" "Chain.__init__" yts ["self","looks"] a.Gq a.N2
 Dy:Dfm K a.A1 "grow" "Chain.grow" yve ["self","name","text"] a.Kb a.N3
 Hz:Dfm K a.A1 "press" "Chain.press" yua ["self","name","text"] a.Kc a.N4
 I0:Dfm K a.A1 "read" "Chain.read" ytz ["self","name","data","most"] a.Kd a.N5
 Dz:Dfm K a.A1 "size_with" "Chain.size_with" ytr ["self","text"] a.Ke a.N6
 Od:Dff K mg "is_name" yut ["thing"] a.Kg a.N7
 Ez:Dff K mg "checked_name" yv8 ["thing"] a.Kh a.N8
 Oe:Dff K mg "check_base" ytp ["thing"] a.Ki a.N9
 F0:Dfm K a.A8 "__init__" "Piece.__init__" yuk ["self","base","data"] a.Gr a.Na
 Rv:ê K "__init__" "Store.__init__" ygw a.Kj a.D9 a.Nd
 Ty:xw K a.Nd ["self","looks","most"] [.int 1000 a.Cr]
 Rw:xw K a.Nd ["self","looks","most"] []
 Cw:Dfm K a.A0 "names" "Store.names" yul ["self"] a.Kk a.Nf
 Rx:ê K "put" "Store.put" ygr a.Kl a.Da a.Ng
 Tz:xw K a.Ng ["self","name","text","base"] [.none]
 R9:xw K a.Ng ["self","name","text","base"] []
 Ra:yv9 K a.A0 "put" a.Da
 E4:Dfm K a.A0 "check_length" "Store.check_length" yt2 ["self","text"] a.Km a.Nh
 I1:Dfm K a.A0 "check_room" "Store.check_room" yv0 ["self","name","base"] a.Kn a.Ni
 Cb:Dfm K a.A0 "piece_at" "Store.piece_at" ytq ["self","name"] a.Ko a.Nj
 E5:Dfm K a.A0 "links_to" "Store.links_to" yvh ["self","name"] a.Kp a.Nk
 Cc:Dfm K a.A0 "chain_to" "Store.chain_to" yup ["self","name"] a.Kq a.Nl
 I2:Dfm K a.A0 "texts_to" "Store.texts_to" yuj ["self","name"] a.Kr a.Nm
 E6:Dfm K a.A0 "text_of" "Store.text_of" yum ["self","name"] a.Ks a.Nn
 Cd:Dfm K a.A0 "bytes_of" "Store.bytes_of" yug ["self","name"] a.Kt a.No
 E7:Dfm K a.A0 "drop" "Store.drop" yvn ["self","name"] a.Ku a.Np
 E8:Dfm K a.A0 "best_base" "Store.best_base" yvw ["self","text"] a.Kv a.Nq
 E9:Dff K mg "_law_mixed" yuc ["_law_script","_law_k"] a.Kw a.Nr
 Of:Dff K mg "_law_looks" yv6 ["_law_cell","_law_most"] a.Kx a.Nt
 Og:Dff K mg "_law_text" yu3 ["_law_cells","_law_size","_law_way"] a.Ky a.Nu
 Oh:Dff K mg "_law_names" yvl ["_law_cell"] a.Kz a.Nv
 Ea:Dff K mg "_law_learned_of" ytt ["_law_model","_law_base"] a.L1 a.Nw
 Fq:Dff K mg "_law_deed" ykq ["_law_store","_law_model","_law_names_here","_law_script","_law_k"] a.Fa a.Fi
 Fr:Dff K mg "_law_bound" yk3 ["_law_told","_law_data"] a.Fb a.Fj
 Fs:Dff K mg "_law_whole" yka ["_law_store","_law_looks_here","_law_model","_law_name","_law_most","_law_behind"] a.Fc a.Fk
 Ft:Dff K mg "_law_apart" yj3 ["_law_store","_law_model"] a.Fd a.Fl
 Fu:Dff K mg "_law_best" ykr ["_law_store","_law_model","_law_text_here"] a.Fe a.Fm
 Fv:Dff K mg "_law_best_now" yjv ["_law_store","_law_looks_here","_law_model","_law_text_here"] a.Ff a.Fn
 I3:Dff K mg "law" yuf ["_law_script"] a.P1 a.Gv
 Ba:Cls K a.A6
 P9:mg "Even"=some (.ref a.A6)
 Pa:Mk K a.A6 a.Gg
 Al:vj K a.A6 "noughts"
 B0:vj K a.A6 "ones"
 Bz:Cls K a.A5
 Oi:mg "Quick"=some (.ref a.A5)
 Oj:Mk K a.A5 a.Gh
 Ao:vj K a.A5 "held"
 C5:Cls K a.Ad
 Rb:mg "Run"=some (.ref a.Ad)
 Rc:Mk K a.Ad a.Gi
 Bl:vj K a.Ad "last"
 Ap:vj K a.Ad "length"
 C6:Cls K a.Ab
 Pb:mg "Book"=some (.ref a.Ab)
 Pe:Mk K a.Ab a.Gj
 Bt:vj K a.Ab "look"
 Aq:vj K a.Ab "slots"
 F6:Cls K a.Bf
 Ry:mg "Mixer"=some (.ref a.Bf)
 Rz:Mk K a.Bf a.Gk
 C0:vj K a.Bf "kept"
 Ac:Cls K a.A2
 Pf:mg "Foreteller"=some (.ref a.A2)
 Pg:Mk K a.A2 a.Gm
 Av:vj K a.A2 "looks"
 Bm:vj K a.A2 "books"
 Bn:vj K a.A2 "mixer"
 Bo:vj K a.A2 "ended"
 Bp:vj K a.A2 "place"
 Ar:vj K a.A2 "present"
 Ag:Cls K a.A4
 Ph:mg "Span"=some (.ref a.A4)
 Pi:Mk K a.A4 a.Gn
 Bq:vj K a.A4 "low"
 As:vj K a.A4 "width"
 B6:vj K a.A4 "size"
 Br:Cls K a.Ae
 U0:mg "Seeker"=some (.ref a.Ae)
 U1:Mk K a.Ae a.Gp
 Cj:vj K a.Ae "data"
 Ck:vj K a.Ae "span"
 B8:vj K a.Ae "number"
 At:vj K a.Ae "reached"
 Ak:Cls K a.A1
 Dd:mg "Chain"=some (.ref a.A1)
 De:Mk K a.A1 a.Gq
 Aj:vj K a.A1 "foreteller"
 Ax:vj K a.A1 "links"
 Ay:vj K a.A1 "texts"
 Cy:Cls K a.A8
 Qo:mg "Piece"=some (.ref a.A8)
 Qp:Mk K a.A8 a.Gr
 Bb:vj K a.A8 "base"
 Bc:vj K a.A8 "data"
 A3:Cls K a.A0
 Qq:mg "Store"=some (.ref a.A0)
 Qr:Mk K a.A0 a.D9
 Am:vj K a.A0 "looks"
 Bd:vj K a.A0 "most"
 Au:vj K a.A0 "pieces"
 An:vj K a.A0 "chain"
 U5:mg "NoText"=some (.ref a.Gs)
 U7:mg "NoBytes"=some (.ref a.Fg)
 Pj:mg "NoMost"=some (.ref a.Az)
 U8:mg "NoChance"=some (.ref a.Dm)
 U9:mg "NoBit"=some (.ref a.By)
 Sa:mg "NoLooks"=some (.ref a.Fh)
 Rg:mg "NoPress"=some (.ref a.Dn)
 Pk:mg "NoName"=some (.ref a.Ah)
 Oq:mg "TooLong"=some (.ref a.Ai)
 Qt:mg "Taken"=some (.ref a.Aw)
 Rh:mg "Full"=some (.ref a.C7)
 Os:mg "NoPiece"=some (.ref a.A9)
 Qu:mg "InUse"=some (.ref a.B9)
 Sb:XCls K a.Gs
 Ri:XMk K a.Gs
 Sc:XCls K a.Fg
 Rj:XMk K a.Fg
 I4:XCls K a.Az
 Eb:XMk K a.Az
 Se:XCls K a.Dm
 Rk:XMk K a.Dm
 Sf:XCls K a.By
 Rl:XMk K a.By
 Sg:XCls K a.Fh
 Qv:XMk K a.Fh
 Sh:XCls K a.Dn
 Pl:XMk K a.Dn
 I5:XCls K a.Ah
 Ec:XMk K a.Ah
 F7:XCls K a.Ai
 D7:XMk K a.Ai
 Ol:XCls K a.Aw
 Fw:XMk K a.Aw
 Pm:XCls K a.C7
 Ic:XMk K a.C7
 F8:XCls K a.A9
 D8:XMk K a.A9
 Om:XCls K a.B9
 Fx:XMk K a.B9
 A7:mg "isinstance"=none
 On:mg "int"=none
 Ie:mg "bool"=none
 Af:mg "list"=none
 Db:mg "all"=none
 Aa:mg "len"=none
 F9:mg "min"=none
 I6:mg "max"=none
 Oo:mg "str"=none
 Cl:mg "tuple"=none
 I7:mg "zip"=none
 Ed:mg "sum"=none
 Pn:mg "any"=none
 Be:mg "range"=none
 Po:mg "set"=none
 Dh:mg "LEAST"=some (.int 32768 a.Fo)
 Ce:mg "ONE"=some (.int 16777216 a.P3)
 Cz:mg "MOST_SIGNS"=some (.int 1000 a.C1)
 Fz:mg "MOST_BYTES"=some (.int 12000 a.C2)
 Cg:mg "MOST_COUNTED"=some (.int 255 a.Bh)
 If:mg "FARTHEST"=some (.int 8 a.Co)
 El:mg "MOST_PLACES"=some (.int 4 a.Bu)
 D0:mg "MOST_LOOKS"=some (.int 6 a.C3)
 Ot:mg "NO_SIGN"=some (.int 256 a.D5)
 Ee:mg "FIRST_WEIGHT"=some (.int 1099511627776 a.Bi)
 I8:mg "OWN_PARTS"=some (.int 31 a.C8)
 Ef:mg "MOST_FIGURES"=some (.int 48 a.Bj)
 Dc:mg "NODES_END"=some (.int 256 a.C9)
 Em:mg "FIRST_WIDTH"=some (.int 1099511627776 a.Bv)
 G0:mg "FIRST_SIZE"=some (.int 5 a.C4)
 En:mg "LEAST_WIDTH"=some (.int 4294967296 a.Bw)
 Eg:mg "MOST_LETTERS"=some (.int 8 a.Bk)
 Ou:mg "LETTERS"=some (.str "abcdefghijklmnopqrstuvwxyz" a.D6)
 Eo:mg "MOST_PIECES"=some (.int 60 a.Bx)
 Qw:mg "KINDS"=some (.ref a.Ci)
 Qx:∀H,SqT K H a.Ci [V.str "even",V.str "quick",V.str "run"]
 I9:mg "WORTHS"=some (.ref a.Bg)
 D4:∀H,SqT K H a.Bg [V.int 128,V.int 64,V.int 32,V.int 16,V.int 8,V.int 4,V.int 2,V.int 1]
section
variable{P:qh}{w:qd}{K:xr}{mg:Ε}{Γ:qf}
def zx(v0 v1:V):Ι:=[("noughts",v0),("ones",v1)]
section
variable{H:Hp}{dx:x0}{v0 v1 v:V}{P:V->Prop}{nx:Ζ}{σ:St}
section
variable(T:Txt K mg a)(hp:H p=some (.ins a.A6 dx (zx v0 v1)))
include T hp
def Ć(h:P v0):RdX K H p "noughts" P:=rdX hp T.Ba T.Al x3 h
def ă(h:wn nx σ (upd H p (.ins a.A6 dx (zx v v1)))):StX K H p "noughts" v nx σ:=stX hp T.Ba T.Al lt2 jk h
def yas(h:P v1):RdX K H p "ones" P:=rdX hp T.Ba T.B0 (wg (by right) x3) h
def ya5(h:wn nx σ (upd H p (.ins a.A6 dx (zx v0 v)))):StX K H p "ones" v nx σ:=stX hp T.Ba T.B0 lt2 (vw (by right) jk) h
end
def ĉ(T:Txt K mg a)(hp:H p=some (.ins a.A6 dx []))(h:wn nx σ (upd H p (.ins a.A6 dx [("noughts",v)]))):StX K H p "noughts" v nx σ:=stX hp T.Ba T.Al lt0 wy h
def ya3(T:Txt K mg a)(hp:H p=some (.ins a.A6 dx [("noughts",v0)]))(h:wn nx σ (upd H p (.ins a.A6 dx (zx v0 v)))):StX K H p "ones" v nx σ:=stX hp T.Ba T.B0 lt1 (vw (by right) wy) h
def ļ:(zx v0 v1).lookup ("chance":Str)=none:=(wg (by right) (wg (by right) θ))
def yax:(zx v0 v1).lookup ("seen":Str)=none:=(wg (by right) (wg (by right) θ))
def yau:(zx v0 v1).lookup ("twin":Str)=none:=(wg (by right) (wg (by right) θ))
end
def u9(v0:V):Ι:=[("held",v0)]
section
variable{H:Hp}{dx:x0}{v0 v:V}{P:V->Prop}{nx:Ζ}{σ:St}
section
variable(T:Txt K mg a)(hp:H p=some (.ins a.A5 dx (u9 v0)))
include T hp
def Š(h:P v0):RdX K H p "held" P:=rdX hp T.Bz T.Ao x3 h
def Ŭ(h:wn nx σ (upd H p (.ins a.A5 dx (u9 v)))):StX K H p "held" v nx σ:=stX hp T.Bz T.Ao lt1 jk h
end
def ū(T:Txt K mg a)(hp:H p=some (.ins a.A5 dx []))(h:wn nx σ (upd H p (.ins a.A5 dx (u9 v)))):StX K H p "held" v nx σ:=stX hp T.Bz T.Ao lt0 wy h
def Ĉ:(u9 v0).lookup ("chance":Str)=none:=(wg (by right) θ)
def ŵ:(u9 v0).lookup ("seen":Str)=none:=(wg (by right) θ)
def Ů:(u9 v0).lookup ("twin":Str)=none:=(wg (by right) θ)
end
def ç(v0 v1:V):Ι:=[("last",v0),("length",v1)]
section
variable{H:Hp}{dx:x0}{v0 v1 v:V}{P:V->Prop}{nx:Ζ}{σ:St}
section
variable(T:Txt K mg a)(hp:H p=some (.ins a.Ad dx (ç v0 v1)))
include T hp
def ycn(h:P v0):RdX K H p "last" P:=rdX hp T.C5 T.Bl x3 h
def ycx(h:wn nx σ (upd H p (.ins a.Ad dx (ç v v1)))):StX K H p "last" v nx σ:=stX hp T.C5 T.Bl lt2 jk h
def ŧ(h:P v1):RdX K H p "length" P:=rdX hp T.C5 T.Ap (wg (by right) x3) h
def Ŧ(h:wn nx σ (upd H p (.ins a.Ad dx (ç v0 v)))):StX K H p "length" v nx σ:=stX hp T.C5 T.Ap lt2 (vw (by right) jk) h
end
def ycc(T:Txt K mg a)(hp:H p=some (.ins a.Ad dx []))(h:wn nx σ (upd H p (.ins a.Ad dx [("last",v)]))):StX K H p "last" v nx σ:=stX hp T.C5 T.Bl lt0 wy h
def Ų(T:Txt K mg a)(hp:H p=some (.ins a.Ad dx [("last",v0)]))(h:wn nx σ (upd H p (.ins a.Ad dx (ç v0 v)))):StX K H p "length" v nx σ:=stX hp T.C5 T.Ap lt1 (vw (by right) wy) h
def š:(ç v0 v1).lookup ("chance":Str)=none:=(wg (by right) (wg (by right) θ))
def ycf:(ç v0 v1).lookup ("seen":Str)=none:=(wg (by right) (wg (by right) θ))
def ycg:(ç v0 v1).lookup ("twin":Str)=none:=(wg (by right) (wg (by right) θ))
end
def ybx(v0 v1:V):Ι:=[("look",v0),("slots",v1)]
section
variable{H:Hp}{dx:x0}{v0 v1 v:V}{P:V->Prop}{nx:Ζ}{σ:St}
section
variable(T:Txt K mg a)(hp:H p=some (.ins a.Ab dx (ybx v0 v1)))
include T hp
def yay(h:P v0):RdX K H p "look" P:=rdX hp T.C6 T.Bt x3 h
def Ŵ(h:P v1):RdX K H p "slots" P:=rdX hp T.C6 T.Aq (wg (by right) x3) h
def ţ(h:wn nx σ (upd H p (.ins a.Ab dx (ybx v0 v)))):StX K H p "slots" v nx σ:=stX hp T.C6 T.Aq lt2 (vw (by right) jk) h
end
def yaw(T:Txt K mg a)(hp:H p=some (.ins a.Ab dx []))(h:wn nx σ (upd H p (.ins a.Ab dx [("look",v)]))):StX K H p "look" v nx σ:=stX hp T.C6 T.Bt lt0 wy h
def Ū(T:Txt K mg a)(hp:H p=some (.ins a.Ab dx [("look",v0)]))(h:wn nx σ (upd H p (.ins a.Ab dx (ybx v0 v)))):StX K H p "slots" v nx σ:=stX hp T.C6 T.Aq lt1 (vw (by right) wy) h
def yrb{C:x0}{nm:Str}(hp:H p=some (.ins C dx (ybx v0 v1)))(n:nm∉(["look","slots"]:Τ))(h:R):MtX H p C nm R:=mtX hp rfl n h
end
def vcr(v0:V):Ι:=[("kept",v0)]
section
variable{H:Hp}{dx:x0}{v0 v:V}{P:V->Prop}{nx:Ζ}{σ:St}
section
variable(T:Txt K mg a)(hp:H p=some (.ins a.Bf dx (vcr v0)))
include T hp
def yga(h:P v0):RdX K H p "kept" P:=rdX hp T.F6 T.C0 x3 h
def yf5(h:wn nx σ (upd H p (.ins a.Bf dx (vcr v)))):StX K H p "kept" v nx σ:=stX hp T.F6 T.C0 lt1 jk h
end
def yf8(T:Txt K mg a)(hp:H p=some (.ins a.Bf dx []))(h:wn nx σ (upd H p (.ins a.Bf dx (vcr v)))):StX K H p "kept" v nx σ:=stX hp T.F6 T.C0 lt0 wy h
def vd4{C:x0}{nm:Str}(hp:H p=some (.ins C dx (vcr v0)))(n:nm∉(["kept"]:Τ))(h:R):MtX H p C nm R:=mtX hp rfl n h
end
def zu(v0 v1 v2 v3 v4 v5:V):Ι:=[("looks",v0),("books",v1),("mixer",v2),("ended",v3),("place",v4),("present",v5)]
section
variable{H:Hp}{dx:x0}{v0 v1 v2 v3 v4 v5 v:V}{P:V->Prop}{nx:Ζ}{σ:St}
section
variable(T:Txt K mg a)(hp:H p=some (.ins a.A2 dx (zu v0 v1 v2 v3 v4 v5)))
include T hp
def ycl(h:P v0):RdX K H p "looks" P:=rdX hp T.Ac T.Av x3 h
def yc3(h:P v1):RdX K H p "books" P:=rdX hp T.Ac T.Bm (wg (by right) x3) h
def ycd(h:wn nx σ (upd H p (.ins a.A2 dx (zu v0 v v2 v3 v4 v5)))):StX K H p "books" v nx σ:=stX hp T.Ac T.Bm lt6 (vw (by right) jk) h
def ycp(h:P v2):RdX K H p "mixer" P:=rdX hp T.Ac T.Bn (wg (by right) (wg (by right) x3)) h
def yc1(h:wn nx σ (upd H p (.ins a.A2 dx (zu v0 v1 v v3 v4 v5)))):StX K H p "mixer" v nx σ:=stX hp T.Ac T.Bn lt6 (vw (by right) (vw (by right) jk)) h
def ycq(h:P v3):RdX K H p "ended" P:=rdX hp T.Ac T.Bo (wg (by right) (wg (by right) (wg (by right) x3))) h
def ych(h:wn nx σ (upd H p (.ins a.A2 dx (zu v0 v1 v2 v v4 v5)))):StX K H p "ended" v nx σ:=stX hp T.Ac T.Bo lt6 (vw (by right) (vw (by right) (vw (by right) jk))) h
def yct(h:P v4):RdX K H p "place" P:=rdX hp T.Ac T.Bp (wg (by right) (wg (by right) (wg (by right) (wg (by right) x3)))) h
def yc0(h:wn nx σ (upd H p (.ins a.A2 dx (zu v0 v1 v2 v3 v v5)))):StX K H p "place" v nx σ:=stX hp T.Ac T.Bp lt6 (vw (by right) (vw (by right) (vw (by right) (vw (by right) jk)))) h
def Ű(h:P v5):RdX K H p "present" P:=rdX hp T.Ac T.Ar (wg (by right) (wg (by right) (wg (by right) (wg (by right) (wg (by right) x3))))) h
def Ţ(h:wn nx σ (upd H p (.ins a.A2 dx (zu v0 v1 v2 v3 v4 v)))):StX K H p "present" v nx σ:=stX hp T.Ac T.Ar lt6 (vw (by right) (vw (by right) (vw (by right) (vw (by right) (vw (by right) jk))))) h
end
def ycu(T:Txt K mg a)(hp:H p=some (.ins a.A2 dx []))(h:wn nx σ (upd H p (.ins a.A2 dx [("looks",v)]))):StX K H p "looks" v nx σ:=stX hp T.Ac T.Av lt0 wy h
def ycv(T:Txt K mg a)(hp:H p=some (.ins a.A2 dx [("looks",v0)]))(h:wn nx σ (upd H p (.ins a.A2 dx [("looks",v0),("books",v)]))):StX K H p "books" v nx σ:=stX hp T.Ac T.Bm lt1 (vw (by right) wy) h
def yck(T:Txt K mg a)(hp:H p=some (.ins a.A2 dx [("looks",v0),("books",v1)]))(h:wn nx σ (upd H p (.ins a.A2 dx [("looks",v0),("books",v1),("mixer",v)]))):StX K H p "mixer" v nx σ:=stX hp T.Ac T.Bn lt2 (vw (by right) (vw (by right) wy)) h
def ycr(T:Txt K mg a)(hp:H p=some (.ins a.A2 dx [("looks",v0),("books",v1),("mixer",v2)]))(h:wn nx σ (upd H p (.ins a.A2 dx [("looks",v0),("books",v1),("mixer",v2),("ended",v)]))):StX K H p "ended" v nx σ:=stX hp T.Ac T.Bo lt3 (vw (by right) (vw (by right) (vw (by right) wy))) h
def yco(T:Txt K mg a)(hp:H p=some (.ins a.A2 dx [("looks",v0),("books",v1),("mixer",v2),("ended",v3)]))(h:wn nx σ (upd H p (.ins a.A2 dx [("looks",v0),("books",v1),("mixer",v2),("ended",v3),("place",v)]))):StX K H p "place" v nx σ:=stX hp T.Ac T.Bp lt4 (vw (by right) (vw (by right) (vw (by right) (vw (by right) wy)))) h
def Ŷ(T:Txt K mg a)(hp:H p=some (.ins a.A2 dx [("looks",v0),("books",v1),("mixer",v2),("ended",v3),("place",v4)]))(h:wn nx σ (upd H p (.ins a.A2 dx (zu v0 v1 v2 v3 v4 v)))):StX K H p "present" v nx σ:=stX hp T.Ac T.Ar lt5 (vw (by right) (vw (by right) (vw (by right) (vw (by right) (vw (by right) wy))))) h
def vdi{C:x0}{nm:Str}(hp:H p=some (.ins C dx (zu v0 v1 v2 v3 v4 v5)))(n:nm∉(["looks","books","mixer","ended","place","present"]:Τ))(h:R):MtX H p C nm R:=mtX hp rfl n h
end
def yle(v0 v1 v2 v3:V):Ι:=[("data",v0),("span",v1),("number",v2),("reached",v3)]
section
variable{H:Hp}{dx:x0}{v0 v1 v2 v3 v:V}{P:V->Prop}{nx:Ζ}{σ:St}
section
variable(T:Txt K mg a)(hp:H p=some (.ins a.Ae dx (yle v0 v1 v2 v3)))
include T hp
def ygk(h:P v0):RdX K H p "data" P:=rdX hp T.Br T.Cj x3 h
def yf9(h:P v1):RdX K H p "span" P:=rdX hp T.Br T.Ck (wg (by right) x3) h
def ya0(h:P v2):RdX K H p "number" P:=rdX hp T.Br T.B8 (wg (by right) (wg (by right) x3)) h
def yat(h:wn nx σ (upd H p (.ins a.Ae dx (yle v0 v1 v v3)))):StX K H p "number" v nx σ:=stX hp T.Br T.B8 lt4 (vw (by right) (vw (by right) jk)) h
def Ť(h:P v3):RdX K H p "reached" P:=rdX hp T.Br T.At (wg (by right) (wg (by right) (wg (by right) x3))) h
def ŭ(h:wn nx σ (upd H p (.ins a.Ae dx (yle v0 v1 v2 v)))):StX K H p "reached" v nx σ:=stX hp T.Br T.At lt4 (vw (by right) (vw (by right) (vw (by right) jk))) h
end
def yf6(T:Txt K mg a)(hp:H p=some (.ins a.Ae dx []))(h:wn nx σ (upd H p (.ins a.Ae dx [("data",v)]))):StX K H p "data" v nx σ:=stX hp T.Br T.Cj lt0 wy h
def yfj(T:Txt K mg a)(hp:H p=some (.ins a.Ae dx [("data",v0)]))(h:wn nx σ (upd H p (.ins a.Ae dx [("data",v0),("span",v)]))):StX K H p "span" v nx σ:=stX hp T.Br T.Ck lt1 (vw (by right) wy) h
def yav(T:Txt K mg a)(hp:H p=some (.ins a.Ae dx [("data",v0),("span",v1)]))(h:wn nx σ (upd H p (.ins a.Ae dx [("data",v0),("span",v1),("number",v)]))):StX K H p "number" v nx σ:=stX hp T.Br T.B8 lt2 (vw (by right) (vw (by right) wy)) h
def ŝ(T:Txt K mg a)(hp:H p=some (.ins a.Ae dx [("data",v0),("span",v1),("number",v2)]))(h:wn nx σ (upd H p (.ins a.Ae dx (yle v0 v1 v2 v)))):StX K H p "reached" v nx σ:=stX hp T.Br T.At lt3 (vw (by right) (vw (by right) (vw (by right) wy))) h
def vd9{C:x0}{nm:Str}(hp:H p=some (.ins C dx (yle v0 v1 v2 v3)))(n:nm∉(["data","span","number","reached"]:Τ))(h:R):MtX H p C nm R:=mtX hp rfl n h
end
def jq(v0 v1 v2:V):Ι:=[("foreteller",v0),("links",v1),("texts",v2)]
section
variable{H:Hp}{dx:x0}{v0 v1 v2 v:V}{P:V->Prop}{nx:Ζ}{σ:St}
section
variable(T:Txt K mg a)(hp:H p=some (.ins a.A1 dx (jq v0 v1 v2)))
include T hp
def ν(h:P v0):RdX K H p "foreteller" P:=rdX hp T.Ak T.Aj x3 h
def Ľ(h:P v1):RdX K H p "links" P:=rdX hp T.Ak T.Ax (wg (by right) x3) h
def ĺ(h:P v2):RdX K H p "texts" P:=rdX hp T.Ak T.Ay (wg (by right) (wg (by right) x3)) h
end
def μ(T:Txt K mg a)(hp:H p=some (.ins a.A1 dx []))(h:wn nx σ (upd H p (.ins a.A1 dx [("foreteller",v)]))):StX K H p "foreteller" v nx σ:=stX hp T.Ak T.Aj lt0 wy h
def ĸ(T:Txt K mg a)(hp:H p=some (.ins a.A1 dx [("foreteller",v0)]))(h:wn nx σ (upd H p (.ins a.A1 dx [("foreteller",v0),("links",v)]))):StX K H p "links" v nx σ:=stX hp T.Ak T.Ax lt1 (vw (by right) wy) h
def Ĺ(T:Txt K mg a)(hp:H p=some (.ins a.A1 dx [("foreteller",v0),("links",v1)]))(h:wn nx σ (upd H p (.ins a.A1 dx (jq v0 v1 v)))):StX K H p "texts" v nx σ:=stX hp T.Ak T.Ay lt2 (vw (by right) (vw (by right) wy)) h
def ymh{C:x0}{nm:Str}(hp:H p=some (.ins C dx (jq v0 v1 v2)))(n:nm∉(["foreteller","links","texts"]:Τ))(h:R):MtX H p C nm R:=mtX hp rfl n h
end
def Ģ(v0 v1:V):Ι:=[("base",v0),("data",v1)]
section
variable{H:Hp}{dx:x0}{v0 v1 v:V}{P:V->Prop}{nx:Ζ}{σ:St}
section
variable(T:Txt K mg a)(hp:H p=some (.ins a.A8 dx (Ģ v0 v1)))
include T hp
def Ũ(h:P v0):RdX K H p "base" P:=rdX hp T.Cy T.Bb x3 h
def ų(h:P v1):RdX K H p "data" P:=rdX hp T.Cy T.Bc (wg (by right) x3) h
end
def ũ(T:Txt K mg a)(hp:H p=some (.ins a.A8 dx []))(h:wn nx σ (upd H p (.ins a.A8 dx [("base",v)]))):StX K H p "base" v nx σ:=stX hp T.Cy T.Bb lt0 wy h
def Ş(T:Txt K mg a)(hp:H p=some (.ins a.A8 dx [("base",v0)]))(h:wn nx σ (upd H p (.ins a.A8 dx (Ģ v0 v)))):StX K H p "data" v nx σ:=stX hp T.Cy T.Bc lt1 (vw (by right) wy) h
end
def xj(v0 v1 v2 v3:V):Ι:=[("looks",v0),("most",v1),("pieces",v2),("chain",v3)]
section
variable{H:Hp}{dx:x0}{v0 v1 v2 v3 v:V}{P:V->Prop}{nx:Ζ}{σ:St}
section
variable(T:Txt K mg a)(hp:H p=some (.ins a.A0 dx (xj v0 v1 v2 v3)))
include T hp
def Ķ(h:P v0):RdX K H p "looks" P:=rdX hp T.A3 T.Am x3 h
def ť(h:P v1):RdX K H p "most" P:=rdX hp T.A3 T.Bd (wg (by right) x3) h
def Ą(h:P v2):RdX K H p "pieces" P:=rdX hp T.A3 T.Au (wg (by right) (wg (by right) x3)) h
def ľ(h:P v3):RdX K H p "chain" P:=rdX hp T.A3 T.An (wg (by right) (wg (by right) (wg (by right) x3))) h
def Ļ(h:wn nx σ (upd H p (.ins a.A0 dx (xj v0 v1 v2 v)))):StX K H p "chain" v nx σ:=stX hp T.A3 T.An lt4 (vw (by right) (vw (by right) (vw (by right) jk))) h
end
def ķ(T:Txt K mg a)(hp:H p=some (.ins a.A0 dx []))(h:wn nx σ (upd H p (.ins a.A0 dx [("looks",v)]))):StX K H p "looks" v nx σ:=stX hp T.A3 T.Am lt0 wy h
def ş(T:Txt K mg a)(hp:H p=some (.ins a.A0 dx [("looks",v0)]))(h:wn nx σ (upd H p (.ins a.A0 dx [("looks",v0),("most",v)]))):StX K H p "most" v nx σ:=stX hp T.A3 T.Bd lt1 (vw (by right) wy) h
def Ċ(T:Txt K mg a)(hp:H p=some (.ins a.A0 dx [("looks",v0),("most",v1)]))(h:wn nx σ (upd H p (.ins a.A0 dx [("looks",v0),("most",v1),("pieces",v)]))):StX K H p "pieces" v nx σ:=stX hp T.A3 T.Au lt2 (vw (by right) (vw (by right) wy)) h
def ĵ(T:Txt K mg a)(hp:H p=some (.ins a.A0 dx [("looks",v0),("most",v1),("pieces",v2)]))(h:wn nx σ (upd H p (.ins a.A0 dx (xj v0 v1 v2 v)))):StX K H p "chain" v nx σ:=stX hp T.A3 T.An lt3 (vw (by right) (vw (by right) (vw (by right) wy))) h
def ynj{C:x0}{nm:Str}(hp:H p=some (.ins C dx (xj v0 v1 v2 v3)))(n:nm∉(["looks","most","pieces","chain"]:Τ))(h:R):MtX H p C nm R:=mtX hp rfl n h
end
local macro_rules | `(tactic| walk_at "f1")=>`(tactic| first
 | exists 1,"Ć yas Š ycn ŧ yay Ŵ yga ycl yc3 ycp ycq yct Ű ygk yf9 ya0 Ť ν Ľ ĺ Ũ ų Ķ ť Ą ľ")
local macro_rules | `(tactic| walk_at "f2")=>`(tactic| first
 | exists 1,"ă ĉ ya5 ya3 Ŭ ū ycx ycc Ŧ Ų yaw ţ Ū yf5 yf8 ycu ycd ycv yc1 yck ych ycr yc0 yco Ţ Ŷ yf6 yfj yat yav ŭ ŝ μ ĸ Ĺ ũ Ş ķ ş Ċ Ļ ĵ")
local macro_rules | `(tactic| walk_at "f3")=>`(tactic| first
 | exists 3,"yrb vd4 vdi vd9 ymh ynj")
local macro_rules | `(tactic| walk_at "rd1")=>`(tactic| first | ((with_reducible refine gRd ?_); walk_at "f1") | ((with_reducible refine gSt ?_); walk_at "f2") | ((with_reducible refine gMt ?_); walk_at "f3"))
open SpanMath
def But(p:x0)(H H':Hp):Prop:=∀b o,H b=some o->b≠p->H' b=some o
def But.refl{H:Hp}:But p H H:=λZ Z h Z=>h
def But.of{H H':Hp}(s:yv H H'):But p H H':=λb o h Z=>s b o h
def But.trans{H H1 H2:Hp}(x:But p H H1)(y:But p H1 H2):But p H H2:=λb o h n=>y b o (x b o h n) n
theorem But.upd{H:Hp}{o:HO}:But p H (L2.upd H p o):=λb u h n=>by rw[yk n];exact h
theorem But.lst{l C dx:x0}{fs:Ι}{H H':Hp}{xs:Υ}(e:But p H H')(hp:H p=some (.ins C dx fs))(h:H l=some (.lst xs)):H' l=some (.lst xs):=e _ _ h (wz h hp (by intro z;cases z))
def zw{x:V}(h:ζ x=true):∃i,x=.int i:=by
 cases x with
 |int i=>exists i,rfl
 |_=>cases h
def õ:V->Bool
 | .int i=>decide (0<=i) && decide (i<=1)
 |_=>false
def chV:V->Bool
 | .int i=>decide (32768<=i) && decide (i<=16744448)
 |_=>false
inductive ywr(K:xr)(vs:Υ)(H:Hp)(Q:VK)(E':XK):Prop
 |mk(x n:_)(_:vs=[x])(_:ue K H x (.type n))(_:Q (.bl (ζ x)) H)
def jz(x:Sn):Ι:=[("low",.int x.1),("width",.int x.2.1),("size",.int x.2.2)]
def nWL:¬(("width":Str)="low"):=by right
def nLW:¬(("low":Str)="width"):=by right
def nSL:¬(("size":Str)="low"):=by right
def nLS:¬(("low":Str)="size"):=by right
def nSW:¬(("size":Str)="width"):=by right
def nWS:¬(("width":Str)="size"):=by right
def lkL(x:Sn):(jz x).lookup ("low":Str)=some (.int x.1):=x3
def lkW(x:Sn):(jz x).lookup ("width":Str)=some (.int x.2.1):=wg nWL x3
def lkS(x:Sn):(jz x).lookup ("size":Str)=some (.int x.2.2):=wg nSL (wg nSW x3)
def lkN(x:Sn){m:Str}(h1:¬m="low")(h2:¬m="width")(h3:¬m="size"):(jz x).lookup m=none:=wg h1 (wg h2 (wg h3 θ))
def pfL(x:Sn)(v:Int):j9 "low" (.int v) (jz x)=jz (v,x.2.1,x.2.2):=jk
def pfW(x:Sn)(v:Int):j9 "width" (.int v) (jz x)=jz (x.1,v,x.2.2):=vw nLW jk
def pfS(x:Sn)(v:Int):j9 "size" (.int v) (jz x)=jz (x.1,x.2.1,v):=vw nLS (vw nWS jk)
section
variable{H:Hp}{dx:x0}{x:Sn}{P:V->Prop}{nx:Ζ}{σ:St}{v:Int}
def rdL(T:Txt K mg a)(hp:H p=some (.ins a.A4 dx (jz x)))(h:P (.int x.1)):
  ∃a' C dx fs v,V.ref p=.ref a'/\H a'=some (.ins C dx fs)/\Cls K C/\vj K C "low"/\fs.lookup ("low":Str)=some v/\P v:=⟨p,_,dx,_,_,rfl,hp,T.Ag,T.Bq,lkL x,h⟩
def rdW(T:Txt K mg a)(hp:H p=some (.ins a.A4 dx (jz x)))(h:P (.int x.2.1)):
  ∃a' C dx fs v,V.ref p=.ref a'/\H a'=some (.ins C dx fs)/\Cls K C/\vj K C "width"/\fs.lookup ("width":Str)=some v/\P v:=⟨p,_,dx,_,_,rfl,hp,T.Ag,T.As,lkW x,h⟩
def rdS(T:Txt K mg a)(hp:H p=some (.ins a.A4 dx (jz x)))(h:P (.int x.2.2)):
  ∃a' C dx fs v,V.ref p=.ref a'/\H a'=some (.ins C dx fs)/\Cls K C/\vj K C "size"/\fs.lookup ("size":Str)=some v/\P v:=⟨p,_,dx,_,_,rfl,hp,T.Ag,T.B6,lkS x,h⟩
def vf3(T:Txt K mg a)(hp:H p=some (.ins a.A4 dx (jz x)))(h:wn nx σ (upd H p (.ins a.A4 dx (jz (v,x.2.1,x.2.2))))):
  ∃a' C dx fs,V.ref p=.ref a'/\H a'=some (.ins C dx fs)/\Cls K C/\vj K C "low"/\fs.length<1000/\wn nx σ (upd H a' (.ins C dx (j9 "low" (.int v) fs))):=⟨p,_,dx,jz x,rfl,hp,T.Ag,T.Bq,by show 3<1000;decide,by rw[pfL];exact h⟩
def vgr(T:Txt K mg a)(hp:H p=some (.ins a.A4 dx (jz x)))(h:wn nx σ (upd H p (.ins a.A4 dx (jz (x.1,v,x.2.2))))):
  ∃a' C dx fs,V.ref p=.ref a'/\H a'=some (.ins C dx fs)/\Cls K C/\vj K C "width"/\fs.length<1000/\wn nx σ (upd H a' (.ins C dx (j9 "width" (.int v) fs))):=⟨p,_,dx,jz x,rfl,hp,T.Ag,T.As,by show 3<1000;decide,by rw[pfW];exact h⟩
def vgo(T:Txt K mg a)(hp:H p=some (.ins a.A4 dx (jz x)))(h:wn nx σ (upd H p (.ins a.A4 dx (jz (x.1,x.2.1,v))))):
  ∃a' C dx fs,V.ref p=.ref a'/\H a'=some (.ins C dx fs)/\Cls K C/\vj K C "size"/\fs.length<1000/\wn nx σ (upd H a' (.ins C dx (j9 "size" (.int v) fs))):=⟨p,_,dx,jz x,rfl,hp,T.Ag,T.B6,by show 3<1000;decide,by rw[pfS];exact h⟩
end
set_option hygiene true in
local macro_rules | `(tactic| walk_at "rd1")=>`(tactic| first
 | exists 1,"rdL rdW rdS vf3 vgr"
 | (with_reducible refine' vgo (by assumption) ?rdh ?_; (case rdh=>first | assumption | exact ya)))
inductive Slt where
 |ev (n o:Int)
 |qk (h:Int)
 |rn (l n:Int)
abbrev _root_.Α:=Nat->qi Int->qj Slt
def Slt.ok:Slt->Prop
 | .ev n o=>0<=n/\0<=o/\n+o<=255
 | .qk h=>32768<=h/\h<=16744448
 | .rn l n=>0<=l/\l<=1/\0<=n/\n<=255
def ì(n:Int):Int:=(2*n+1)*16777216/(2*n+2)
def Slt.due:Slt->Int
 | .ev n o=>(2*o+1)*16777216/(2*(n+o)+2)
 | .qk h=>h
 | .rn l n=>if l=1 then ì n else 16777216-ì n
def ydi(n o:Int):Slt:=if 255<n+o then .ev ((n+1)/2) ((o+1)/2)else .ev n o
def yfe(m:Int):Int:=if 16744448<(if 32768 > m then 32768 else m)then 16744448 else (if 32768 > m then 32768 else m)
def Slt.see:Slt->Int->Slt
 | .ev n o,b=>if b=1 then ydi n (o+1)else ydi (n+1) o
 | .qk h,b=>.qk (yfe (if b=1 then h+(16777216-h)/16 else h-h/16))
 | .rn l n,b=>if b=l then .rn l (if 255<n+1 then 255 else n+1)else .rn b 1
def oS(a:Ads)(dx:x0):Slt->HO
 | .ev n o=>.ins a.A6 dx (zx (.int n) (.int o))
 | .qk h=>.ins a.A5 dx (u9 (.int h))
 | .rn l n=>.ins a.Ad dx (ç (.int l) (.int n))
def ydz{n o:Int}(h1:0<=n)(h2:0<=o)(h3:n+o<=256):(ydi n o).ok:=by
 unfold ydi
 split
 .exists by omega,by omega,by omega
 .exists h1,h2,by omega
def yiq(m:Int):32768<=yfe m/\yfe m<=16744448:=by
 unfold yfe
 split<;>split<;>omega
def Slt.see_ok{s:Slt}{b:Int}(h:s.ok)(b0:0<=b)(b1:b<=1):(s.see b).ok:=by
 cases s with
 |ev n o =>
  let⟨c,a,d⟩:=h;unfold Slt.see;dsimp only
  split
  .exact ydz c (by omega) (by omega)
  .exact ydz (by omega) a (by omega)
 |qk h0=>exact yiq _
 |rn l n =>
  let⟨c,a,d,e⟩:=h;unfold Slt.see;dsimp only
  split
  .refine⟨c,a,?_,?_⟩<;>split<;>omega
  .exists b0,b1,by decide,by decide
def kdS:Fin 3->Str
 |0=>"even"
 |1=>"quick"
 |2=>"run"
def kd0:Fin 3->Slt
 |0=>.ev 0 0
 |1=>.qk 8388608
 |2=>.rn 1 0
def yp2(k:Fin 3):(kd0 k).ok:=by
 match k with
 |0=>exists by decide,by decide,by decide
 |1=>exists by decide,by decide
 |2=>exists by decide,by decide,by decide,by decide
def yz1{b:Int}(b0:0<=b)(b1:b<=1):õ (.int b)=true:=by simp only[õ,bV,decide_eq_true_eq];omega
def yfc{x:V}(h:õ x=true):∃b:Int,x=.int b/\0<=b/\b<=1:=by
 cases x with
 |int i =>
  simp only[õ,bV,decide_eq_true_eq]at h;exact⟨i,rfl,h.1,h.2⟩
 |_=>cases h
inductive ŷ(C:x0)(F:Ι)(vs:Υ)(H:Hp)(Q:VK)(E':XK):Prop
 |mk(p dx:x0)(_:vs=[.ref p])(_:H p=some (.ins C dx []))(_:∀H',H' p=some (.ins C dx F)->But p H H'->Q .non H')
inductive uz(o:x0->Slt->HO)(g:Slt->Prop)(vs:Υ)(H:Hp)(Q:VK)(E':XK):Prop
 |mk(p dx:x0)(s:Slt)(_:vs=[.ref p])(_:g s)(_:s.ok)(_:H p=some (o dx s))(_:Q (.int s.due) H)
inductive j8(K:xr)(o:x0->Slt->HO)(g:Slt->Prop)(C:x0)(vs:Υ)(H:Hp)(Q:VK)(E:XK):Prop
 |mk(p dx:x0)(s:Slt)(x:V)(n:String)(_:vs=[.ref p,x])(_:g s)(_:s.ok)(_:H p=some (o dx s))(_:ue K H x (.type n))(_:(∀b:Int,x=.int b->0<=b->b<=1->∀H',H' p=some (o dx (s.see b))->But p H H'->Q .non H'))(_:(õ x=false->E (.ref C) none H))
def ywq:Slt->Prop
 | .ev _ _=>True
 |_=>False
def ywo:Slt->Prop
 | .qk _=>True
 |_=>False
def ywl:Slt->Prop
 | .rn _ _=>True
 |_=>False
def yaq(bs:Ρ):Prop:=∀b∈bs,0<=b/\b<=1
def jf{n:Nat}(h:n<=16000000):n<=sizeLine:=bP h (by decide)
def ve{n:Nat}(h:n<=16000000):n<sizeLine:=Nat.lt_of_le_of_lt h (by decide)
def z6{ns:Ρ}{x:V}(h:(ns.map V.int)[i]?=some x):∃n,x=.int n/\n∈ns/\ns[i]?=some n/\i<ns.length:=by
 rw[bn]at h
 cases e:ns[i]? with
 |none=>rw[e]at h;cases h
 |some n =>
  rw[e]at h
  have a:i<ns.length:=by
   rcases Nat.lt_or_ge i ns.length with q|q
   .exact q
   .rw[ce q]at e;cases e
  exists n,(bD h).symm,bA e,rfl,a
def zv{l:Ρ}{q:Int}(h:l[i]?=some q):l.take (i+1)=l.take i++[q]:=by rw[List.take_add_one,h];rfl
def ym3{ys:Ρ}(h1:yaq xs)(h2:yaq ys):yaq (xs++ys):=λb a=>by
 rcases bO.mp a with h|h
 .exact h1 b h
 .exact h2 b h
def jm(c:Int)(n:Nat):(List.replicate n [V.int c]).flatten=(List.replicate n c).map V.int:=by
 induction n with
 |zero=>rfl
 |succ n ih=>rw[cr,List.flatten_cons,ih,cr];rfl
def yql(sg:Ρ)(p:Int):Int:=if p<=sg.length then (atI sg (-p)).getD 256 else 256
def ytg{α β:Type}(f:α->β)(xs:qi α)(i:Int):atI (xs.map f) i=(atI xs i).map f:=by
 unfold atI;rw[be]
 cases ixN xs.length i with
 |none=>rfl
 |some j =>
  show (xs.map f)[j]?=(xs[j]?).map f;rw[bn]
def ync{sg:Ρ}{p:Int}(h1:1<=p)(h2:p<=sg.length):∃c,atI sg (-p)=some c/\c∈sg:=by
 unfold atI ixN;rw[if_neg (by omega)];by_cases h:-(sg.length:Int)<= -p
 .rw[if_pos (by omega)];have a:((-p+(sg.length:Int)).toNat)<sg.length:=by omega
  exists _,bg a,cc a
 .omega
def Slt.kind:Slt->Fin 3
 | .ev _ _=>0
 | .qk _=>1
 | .rn _ _=>2
def ymm(s:Slt)(b:Int):(s.see b).kind=s.kind:=by
 cases s with
 |ev n o =>
  unfold Slt.see ydi;dsimp only
  split<;>split<;>rfl
 |qk h=>rfl
 |rn l n =>
  unfold Slt.see;dsimp only
  split<;>rfl
def ynf(k:Fin 3):(kd0 k).kind=k:=by
 match k with
 |0=>rfl
 |1=>rfl
 |2=>rfl
def ε(a:Ads)(dx:x0)(s:Slt):∃C fs,oS a dx s=.ins C dx fs:=by cases s<;>exact⟨_,_,rfl⟩
def yey{s:Slt}(h:s.ok):32768<=s.due/\s.due<=16744448:=by
 cases s with
 |ev n o =>
  let⟨d,c,b⟩:=h;unfold Slt.due;dsimp only;have a:(0:Int)<2*(n+o)+2:=by omega
  constructor
  .rw[Int.le_ediv_iff_mul_le a];omega
  .have:(2*o+1)*16777216/(2*(n+o)+2)<16744449:=by
    rw[Int.ediv_lt_iff_lt_mul a];omega
   omega
 |qk h0=>exact h
 |rn l n =>
  let⟨d,c,b,e⟩:=h;have a:(0:Int)<2*n+2:=by omega
  have g1:8388608<=ì n:=by
   unfold ì;rw[Int.le_ediv_iff_mul_le a];omega
  have g2:ì n<16744449:=by
   unfold ì;rw[Int.ediv_lt_iff_lt_mul a];omega
  unfold Slt.due;dsimp only
  split<;>omega
def yia{dx:x0}{s:Slt}{ta:TE}{σ:St}{H:Hp}{Q:VK}{E1 E2 E3:XK}(hta:∀Q':VK,Q' (.ref p) H->ta σ H Q')(hp:H p=some (oS a dx s))(ok:s.ok)(h:Q (.int s.due) H):
  yn0 (ŀ a.A6 "chance" (uz (oS a) ywq) [] E1 ta ylb) (yn0 (ŀ a.A5 "chance" (uz (oS a) ywo) [] E2 ta ylb) (ŀ a.Ad "chance" (uz (oS a) ywl) [] E3 ta ylb)) σ H Q:=by
 cases s with
 |ev n o=>exact ś (Ĩ (hta _ ⟨p,dx,_,rfl,hp,ļ,p,dx,.ev n o,rfl,trivial,ok,hp,h⟩))
 |qk h0=>exact Ö (ś (Ĩ (hta _ ⟨p,dx,_,rfl,hp,Ĉ,p,dx,.qk h0,rfl,trivial,ok,hp,h⟩)))
 |rn l n=>exact Ö (Ö (Ĩ (hta _ ⟨p,dx,_,rfl,hp,š,p,dx,.rn l n,rfl,trivial,ok,hp,h⟩)))
def yra{dx:x0}{s:Slt}{ta:TE}{t:TA}{σ:St}{H:Hp}{Q:VK}{E1 E2 E3:St->XK}{x:V}{n:String}(hta:∀Q':VK,Q' (.ref p) H->ta σ H Q')(ht:∀Q':qi V->Hp->Prop,Q' [x] H->t σ H Q')(hp:H p=some (oS a dx s))(ok:s.ok)(ty:ue K H x (.type n))
  (h:∀b:Int,x=.int b->0<=b->b<=1->∀H',H' p=some (oS a dx (s.see b))->But p H H'->Q .non H') (h1:õ x=false->E1 σ (.ref a.By) none H) (h2:õ x=false->E2 σ (.ref a.By) none H) (h3:õ x=false->E3 σ (.ref a.By) none H):
  yn0 (yb1 a.A6 "seen" (j8 K (oS a) ywq a.By) [] E1 ta t) (yn0 (yb1 a.A5 "seen" (j8 K (oS a) ywo a.By) [] E2 ta t) (yb1 a.Ad "seen" (j8 K (oS a) ywl a.By) [] E3 ta t)) σ H Q:=by
 cases s with
 |ev n o=>exact ś (yad (hta _ ⟨p,dx,_,rfl,hp,yax,ht _ ⟨p,dx,.ev n o,x,_,rfl,trivial,ok,hp,ty,h,h1⟩⟩))
 |qk h0=>exact Ö (ś (yad (hta _ ⟨p,dx,_,rfl,hp,ŵ,ht _ ⟨p,dx,.qk h0,x,_,rfl,trivial,ok,hp,ty,h,h2⟩⟩)))
 |rn l n=>exact Ö (Ö (yad (hta _ ⟨p,dx,_,rfl,hp,ycf,ht _ ⟨p,dx,.rn l n,x,_,rfl,trivial,ok,hp,ty,h,h3⟩⟩)))
def vai{x:Sn}{c b:Int}(h:Ok x):(nar x c b).2.2<=x.2.2+2:=by
 unfold nar ren;have:=h.z
 (repeat' split)<;>(dsimp only;omega)
abbrev tMx:Nat:=100000
def yd9{k:Nat}(h:k<=6):pw k<=281474976710656:=Int.le_trans (yjn h) (by decide)
def yl2(xs:Ρ)(y:Int):xs.map V.int++[V.int y]=(xs++[y]).map V.int:=by simp
def ytk(xs:Ρ):(xs.map V.int).reverse=xs.reverse.map V.int:=by simp
def gvv(c b:Int):Int:=if b=1 then c else 16777216-c
def ydh{x:V}(h:chV x=true):∃c,x=.int c/\32768<=c/\c<=16744448:=by
 cases x with
 |int i =>
  simp only[chV,bV,decide_eq_true_eq]at h;exact⟨i,rfl,h.1,h.2⟩
 |_=>cases h
def yej{x:V}(h:õ x=true):∃b,x=.int b/\0<=b/\b<=1:=by
 cases x with
 |int i =>
  simp only[õ,bV,decide_eq_true_eq]at h;exact⟨i,rfl,h.1,h.2⟩
 |_=>cases h
def ye0{c:Int}(h:Ch c):chV (.int c)=true:=by let⟨b,a⟩:=h;simp only[chV,bV,decide_eq_true_eq];omega
def ydc{b:Int}(h1:0<=b)(h2:b<=1):õ (.int b)=true:=by simp only[õ,bV,decide_eq_true_eq];omega
def yi9{xs:Υ}{i:Int}(h0:0<=i)(h1:i<xs.length):∃v,v∈xs/\atI xs i=some v:=by
 obtain⟨j,rfl⟩:∃j:Nat,i=(j:Int):=⟨i.toNat,by omega⟩;have a:j<xs.length:=by omega
 exists xs[j],cc a,vq (bg a)
def Ŕ{H H':Hp}{v:V}{n:String}(S:yv H H')(t:ue K H v (.type n)):ue K H' v (.type n):=by
 cases t with
 |non=>exact .non
 |bl b=>exact .bl b
 |int i=>exact .int i
 |str x=>exact .str x
 |flt x=>exact .flt x
 |lst e=>exact .lst (S _ _ e)
 |frz e=>exact .frz (S _ _ e)
 |tup e=>exact .tup (S _ _ e)
 |dK e=>exact .dK (S _ _ e)
 |dT e=>exact .dT (S _ _ e)
def sgV:V->Bool
 | .int i=>decide (0<=i) && decide (i<=255)
 |_=>false
def ynr(K:xr)(H:Hp)(xs:Υ):Prop:=∀y∈xs,∃k:String,ue K H y (.type k)
def œ{H:Hp}(ns:Ρ):ynr K H (ns.map V.int):=λy a=>by
 let⟨i,_,rfl⟩:=bq.mp a;exists _,.int i
def Bad(K:xr)(H:Hp)(x:V)(n:String)(m:Int):Prop:=n≠"list"\/∃p xs,x=.ref p/\H p=some (.lst xs)/\ynr K H xs/\xs.length<=100000/\(decide ((xs.length:Int)<=m) && xs.all sgV)=false
def vct(K:xr)(H:Hp)(x:V)(xs:Υ)(m:Int):Prop:=∃p,x=.ref p/\H p=some (.lst xs)/\ynr K H xs/\xs.length<=100000/\(decide ((xs.length:Int)<=m) && xs.all sgV)=true
def yrf{H:Hp}{x:V}{n:String}(ty:ue K H x (.type n)):W.kitOne K (.type n) (.type "list")=some (decide (n="list")):=by cases ty<;>rfl
def ylt{n:Nat}(h:n<=100000):n<sizeLine:=Nat.lt_of_le_of_lt h (by decide)
def yl4{xs:Υ}(n:Nat):ydl xs (some (n:Int)) none=xs.drop n:=by
 unfold ydl;rw[HT.sIx_nat,HT.sIx_none];by_cases h:n<=xs.length
 .rw[Nat.min_eq_left h,cm (by rw[cH];exact bj _)]
 .rw[Nat.min_eq_right (by omega),Nat.sub_self,List.take_zero,List.drop_of_length_le (by omega)]
def yjp{ns:Ρ}(h:∀i∈ns,0<=i/\i<=255):(ns.map V.int).all sgV=true:=by rw[List.all_map,List.all_eq_true];intro i c;let⟨b,a⟩:=h i c;simp[sgV,b,a]
inductive ő(K:xr)(C:x0)(m:Int)(vs:Υ)(H:Hp)(Q:VK)(E:XK):Prop
 |mk(x n:_)(_:vs=[x])(_:ue K H x (.type n))(_:((Bad K H x n m/\∀H',yv H H'->E (.ref C) none H')\/∃xs,vct K H x xs m/\∀r H',H r=none->H' r=some (.lst xs)->yv H H'->Q (.ref r) H'))
def ylg(p q:x0)(H H':Hp):Prop:=∀b o,H b=some o->b≠p->b≠q->H' b=some o
def But.two{H H':Hp}(h:But p H H'):ylg p q H H':=λb o e n Z=>h b o e n
def But.two'{H H':Hp}(h:But q H H'):ylg p q H H':=λb o e Z n=>h b o e n
def ylg.trans{H H1 H2:Hp}(x:ylg p q H H1)(y:ylg p q H1 H2):ylg p q H H2:=λb o h n m=>y b o (x b o h n m) n m
structure yg3(a:Ads)(H:Hp)(p dx pd ps ds:x0)(d:Ρ)(x:Sn):Prop where
 me:H p=some (.ins a.Ae dx (yle (.ref pd) (.ref ps) (.int (rn d (sz x))) (.int x.2.2)))
 dt:H pd=some (.lst (d.map V.int))
 sp:H ps=some (.ins a.A4 ds (jz x))
 ne:p≠ps
def yg3.same{H H':Hp}{dx pd ps:x0}{d:Ρ}{x:Sn}(h:yg3 a H p dx pd ps ds d x)(S:yv H H'):yg3 a H' p dx pd ps ds d x:=⟨S _ _ h.me,S _ _ h.dt,S _ _ h.sp,h.ne⟩
section
variable{H H':Hp}{dx pd ps:x0}{d:Ρ}{x:Sn}
theorem yg3.lst(h:yg3 a H p dx pd ps ds d x)(B:ylg p ps H H'){l:x0}{xs:Υ}(e:H l=some (.lst xs)):H' l=some (.lst xs):=B _ _ e (wz e h.me (by intro z;cases z)) (wz e h.sp (by intro z;cases z))
theorem yg3.tup(h:yg3 a H p dx pd ps ds d x)(B:ylg p ps H H'){l:x0}{xs:Υ}(e:H l=some (.tup xs)):H' l=some (.tup xs):=B _ _ e (wz e h.me (by intro z;cases z)) (wz e h.sp (by intro z;cases z))
end
def ydv{H:Hp}{d:Ρ}(h:H p=some (.lst (d.map V.int)))(hb:Byt d)(hz:d.length<=12000):vct K H (.ref p) (d.map V.int) 12000 :=
 ⟨p,rfl,h,œ d,by rw[be];omega,by rw[yjp hb,be,br (by omega)];rfl⟩
def Sgs(ns:Ρ):Prop:=∀i∈ns,0<=i/\i<=255
def wth:Ρ:=[128,64,32,16,8,4,2,1]
def b8(s:Int):Ρ:=wth.map (λw=>s/w%2)
def dec:qi Int->qi Int
 |[]=>[0]
 |s::r=>(1::b8 s)++dec r
def nds:Int->qi Int->qi Int
 |_,[]=>[]
 |n,b::r=>n::nds (2*n+b) r
def yca:qi Int->qi Int
 |[]=>[]
 |s::r=>(1::b8 s)++yca r
theorem yns:∀ns,dec ns=yca ns++[0]
 |[]=>rfl
 |s::r=>by simp[dec,yca,yns r]
theorem ybb(s:Int):∀ns,yca (ns++[s])=yca ns++(1::b8 s)
 |[]=>by simp[yca]
 |t::r=>by simp[yca,ybb s r]
def yqg(s:Int):(b8 s).length=8:=rfl
theorem j7:∀ns:Ρ,(yca ns).length=9*ns.length
 |[]=>rfl
 |s::r=>by
  show ((1::b8 s)++yca r).length=9*(r.length+1);rw[bp,j7 r];show 9+_=_;omega
def yq1(s:Int):yaq (b8 s):=λb a=>by
 let⟨w,_,rfl⟩:=bq.mp a;have c:0<=s/w%2:=cn _ (by decide);have d:s/w%2<2:=cg _ (by decide);exists c,by omega
theorem jc:∀ns,yaq (dec ns)
 |[]=>λb a=>by rw[bE.mp a];decide
 |s::r=>by
  refine ym3 (λb a=>?_) (jc r);rcases bB.mp a with rfl|a
  .decide
  .exact yq1 s b a
def yvz{s:Int}(h0:0<=s)(h1:s<=255):128*(s/128%2)+(64*(s/64%2)+(32*(s/32%2)+(16*(s/16%2)+(8*(s/8%2)+(4*(s/4%2)+(2*(s/2%2)+(1*(s/1%2)+0)))))))=s:=by
 have h:∀n:Nat,n<256->128*((n:Int)/128%2)+(64*((n:Int)/64%2)+(32*((n:Int)/32%2)+(16*((n:Int)/16%2)+(8*((n:Int)/8%2)+(4*((n:Int)/4%2)+(2*((n:Int)/2%2)+(1*((n:Int)/1%2)+0)))))))=(n:Int):=by right
 let⟨n,rfl⟩:=Int.eq_ofNat_of_zero_le h0;exact h n (by omega)
def wV(s:Int):V->V
 | .int w=>.int (s/w%2)
 |_=>.non
def Ñ{H:Hp}{d:Ρ}(h:H p=some (.lst (d.map V.int)))(hb:Sgs d)(hz:d.length<=1000):vct K H (.ref p) (d.map V.int) 1000 :=
 ⟨p,rfl,h,œ d,by rw[be];omega,by rw[yjp hb,be,br (by omega)];rfl⟩
def yl9(xs ys:Ρ):xs.map V.int++ys.map V.int=(xs++ys).map V.int:=by simp
def xm(ns:Ρ):(dec ns).length=9*ns.length+1:=by rw[yns,bp,j7];rfl
def Ă(f:qi Int->qj Slt)(k:Ρ)(s:Slt):qi Int->qj Slt:=λj=>if j=k then some s else f j
def ywh:HO->Bool
 | .ins _ _ _=>true
 | .dT _=>true
 |_=>false
def kI(k:Ρ):qi Key:=k.map Sum.inl
def yz3(k:Ρ):(kI k).map kV=k.map V.int:=by unfold kI;rw[bR];rfl
def ybt{j k:Ρ}(h:kI j=kI k):j=k:=by
 unfold kI at h
 induction j generalizing k with
 |nil =>
  cases k with
  |nil=>rfl
  |cons _ _=>cases h
 |cons x r ih =>
  cases k with
  |nil=>cases h
  |cons y s =>
   injection h with h1 h2;injection h1 with h1;rw[h1,ih h2]
def yn1(H:Hp)(d:x0):Prop:=∀kvs,H d=some (.dT kvs)->(kvs.map (·.1)).Nodup/\∀q∈kvs,∃k,q.1=kI k
def yn1.mv{H H':Hp}{d:x0}{kvs:qi (qi Key×V)}(h:yn1 H d)(h1:H d=some (.dT kvs))(h2:H' d=some (.dT kvs)):yn1 H' d:=λa e=>by
 rw[h2]at e;cases e;exact h kvs h1
def ymc{kvs:qi (qi Key×V)}{k:qi Key}(h:zn kvs k=none):k∉kvs.map (·.1):=λm=>by
 let⟨p,b,e⟩:=bq.mp m;have a:=je k kvs;rw[h]at a;exact List.any_eq_false.mp a p b (br e)
def yn1.snoc{H':Hp}{d:x0}{kvs:qi (qi Key×V)}{k:Ρ}{v:V}(h:(kvs.map (·.1)).Nodup/\∀q∈kvs,∃k,q.1=kI k)(hn:zn kvs (kI k)=none)(h2:H' d=some (.dT (ń kvs (kI k) v))):yn1 H' d:=λa e=>by
 rw[h2,Ò _ hn]at e;cases e;rw[bF];exists List.nodup_append.mpr ⟨h.1,cJ.mpr ⟨List.not_mem_nil,List.nodup_nil⟩,λx b y c z=>?_⟩,λq f=>?_
 .rw[z,bE.mp c]at b;exact ymc hn b
 .rcases bO.mp f with w|w
  .exact h.2 q w
  .rw[bE.mp w];exists k,rfl
structure Û(a:Ads)(H:Hp)(p dx lk d:x0)(kd:Fin 3)(f:qi Int->qj Slt)(O:Ν)(m:Nat):Prop where
 me:H p=some (.ins a.Ab dx (ybx (.ref lk) (.ref d)))
 own:∀b,O b->∃o,H b=some o/\ywh o=true
 np:¬O p
 dO:O d
 ky:yn1 H d
 tb:∃(kvs:qi (qi Key×V))(loc:qi Int->x0×x0),H d=some (.dT kvs)/\kvs.length<=m/\(∀k,f k=none->zn kvs (kI k)=none)/\
  (∀k s,f k=some s->zn kvs (kI k)=some (.ref (loc k).1)/\H (loc k).1=some (oS a (loc k).2 s)/\s.ok/\s.kind=kd/\O (loc k).1)/\(∀k j s t,f k=some s->f j=some t->(loc k).1=(loc j).1->k=j)
def ynx(O:Ν)(H H':Hp):Prop:=∀b o,H b=some o->¬O b->H' b=some o
section
variable{H H':Hp}{dx lk d:x0}{kd:Fin 3}{f:qi Int->qj Slt}{O:Ν}{m:Nat}
def Û.frame(h:Û a H p dx lk d kd f O m){O2:Ν}(B:ynx O2 H H')(dj:∀b,O b->¬O2 b)(hp:¬O2 p):Û a H' p dx lk d kd f O m:=by
 let⟨e,c,g,v,w,n,z⟩:=h.tb;exists B _ _ h.me hp,λb j=>?_,h.np,h.dO,h.ky.mv g (B _ _ g (dj _ h.dO)),e,c,B _ _ g (dj _ h.dO),v,w,λk s t=>?_,z
 .obtain⟨o,q,x⟩:=h.own b j;exists o,B _ _ q (dj b j),x
 .obtain⟨u,r,l,y,i⟩:=n k s t;exists u,B _ _ r (dj _ i),l,y,i
def Û.same(h:Û a H p dx lk d kd f O m)(S:yv H H'):Û a H' p dx lk d kd f O m:=h.frame (O2:=λZ=>False) (λb o e Z=>S b o e) (λZ Z z=>z) (λz=>z)
end
inductive j4(o:x0->Slt->HO)(g:Slt->Prop)(vs:Υ)(H:Hp)(Q:VK)(E':XK):Prop
 |mk(p dx:x0)(s:Slt)(_:vs=[.ref p])(_:g s)(_:H p=some (o dx s))(_:∀q dq H',H q=none->H' q=some (o dq s)->yv H H'->Q (.ref q) H')
def ysn{dx:x0}{s:Slt}{ta:TE}{σ:St}{H:Hp}{Q:VK}{E1 E2 E3:XK}(hta:∀Q':VK,Q' (.ref p) H->ta σ H Q')(hp:H p=some (oS a dx s))(h:∀q dq H',H q=none->H' q=some (oS a dq s)->yv H H'->Q (.ref q) H'):
  yn0 (ŀ a.A6 "twin" (j4 (oS a) ywq) [] E1 ta ylb) (yn0 (ŀ a.A5 "twin" (j4 (oS a) ywo) [] E2 ta ylb) (ŀ a.Ad "twin" (j4 (oS a) ywl) [] E3 ta ylb)) σ H Q:=by
 cases s with
 |ev n o=>exact ś (Ĩ (hta _ ⟨p,dx,_,rfl,hp,yau,p,dx,.ev n o,rfl,trivial,hp,h⟩))
 |qk h0=>exact Ö (ś (Ĩ (hta _ ⟨p,dx,_,rfl,hp,Ů,p,dx,.qk h0,rfl,trivial,hp,h⟩)))
 |rn l n=>exact Ö (Ö (Ĩ (hta _ ⟨p,dx,_,rfl,hp,ycg,p,dx,.rn l n,rfl,trivial,hp,h⟩)))
def å{H H1:Hp}{o o':HO}(nq:H q=none)(nd:H dq=none)(B:But q (upd (upd H dq o) q o') H1):yv H H1:=λb u e=>B b u (by rw[yk (yb e nq),yk (yb e nd)];exact e) (yb e nq)
open MixI
structure yg2(a:Ads)(p dx l:x0)(ws:Ρ)(H:Hp):Prop where
 o:H p=some (.ins a.Bf dx (vcr (.ref l)))
 l:H l=some (.lst (ws.map V.int))
def yg2.same{dx l:x0}{ws:Ρ}{H H':Hp}(m:yg2 a p dx l ws H)(S:yv H H'):yg2 a p dx l ws H':=⟨S _ _ m.o,S _ _ m.l⟩
def yzv{k:Nat}{cs:Ρ}(h:COk k cs){c:Int}(hm:c∈cs):Ch c:=⟨h.lo c hm,h.hi c hm⟩
def yoy{g:Int->Int->Int}{ws cs:Ρ}(h:cs.length=ws.length):(List.range (ws.map V.int).length).map (λi=>V.int (g ((ws[i]?).getD 0) ((cs[i]?).getD 0)))=(List.zipWith g ws cs).map V.int:=by rw[be,<- yif h,bR];rfl
def ydx{H:Hp}{xs ys:Υ}(h:H D=some (.lst xs))(e:xs=ys):H D=some (.lst ys):=e ▸ h
inductive yik(K:xr)(a:Ads)(vs:Υ)(H:Hp)(Q:VK)(E':XK):Prop
 |mk(p dx l c:x0)(ws cs:Ρ)(k:Nat)(_:vs=[.ref p,.ref c])(_:1<=k)(_:k<=6)(_:WOk k ws)(_:COk k cs)(_:yg2 a p dx l ws H)(_:SqL K H c (cs.map V.int))(_:∀H',yv H H'->Q (.int (ylc ws cs)) H')
inductive yh9(K:xr)(a:Ads)(C:x0)(vs:Υ)(H:Hp)(Q:VK)(E:XK):Prop
 |mk(p dx l c:x0)(ws cs:Ρ)(k:Nat)(x:V)(n:String)(_:vs=[.ref p,.ref c,x])(_:1<=k)(_:k<=6)(_:WOk k ws)(_:COk k cs)(_:yg2 a p dx l ws H)(_:SqL K H c (cs.map V.int))(_:ue K H x (.type n))(_:(∀b:Int,x=.int b->0<=b->b<=1->∀l' H',H l'=none->yg2 a p dx l' (lrn ws cs b) H'->But p H H'->Q .non H'))(_:(õ x=false->E (.ref C) none H))
inductive yqp(a:Ads)(vs:Υ)(H:Hp)(Q:VK)(E':XK):Prop
 |mk(p dx l:x0)(ws:Ρ)(_:vs=[.ref p])(_:yg2 a p dx l ws H)(_:∀r H',H r=none->H' r=some (.lst (ws.map V.int))->yv H H'->Q (.ref r) H')
inductive ylj(a:Ads)(vs:Υ)(H:Hp)(Q:VK)(E':XK):Prop
 |mk(p dx:x0)(k:Nat)(_:vs=[.ref p,.int k])(_:1<=k)(_:k<=6)(_:H p=some (.ins a.Bf dx []))(_:∀l H',H l=none->yg2 a p dx l (List.replicate k 1099511627776) H'->But p H H'->Q .non H')
def yk7:V->Bool
 | .str s=>inV (.str s) [V.str "even",V.str "quick",V.str "run"]
 |_=>false
def plV:V->Bool
 | .int i=>decide (1<=i) && decide (i<=8)
 |_=>false
def ltV:V->V->Bool
 | .int i,.int j=>decide (i<j)
 |_,_=>false
def veq(xs:Υ):Bool:=(List.zipWith ltV xs xs.tail).all id
def jt(xs:Υ):Bool:=decide (xs.length<=4) && xs.all plV && veq xs
def PlB(K:xr)(H:Hp)(x:V)(b:Bool):Prop:=(∃n,ue K H x (.type n)/\n≠"tuple"/\b=false)\/∃t xs,x=.ref t/\H t=some (.tup xs)/\xs.length<=1000/\(∀y∈xs,∃n:String,ue K H y (.type n))/\b=jt xs
def LkB(K:xr)(H:Hp)(x:V)(b:Bool):Prop:=(∃n,ue K H x (.type n)/\n≠"tuple"/\b=false) \/
 ∃t xs,x=.ref t/\H t=some (.tup xs)/\((xs.length≠2/\b=false)\/∃y z n,xs=[y,z]/\ue K H y (.type n)/\((yk7 y=false/\b=false)\/(yk7 y=true/\PlB K H z b)))
def PlB.same{H H':Hp}{x:V}{b:Bool}(h:PlB K H x b)(S:yv H H'):PlB K H' x b:=by
 rcases h with⟨n,t,j,e⟩|⟨t,i,e,f,a,c,d⟩
 .exact .inl ⟨n,Ŕ S t,j,e⟩
 .exact .inr ⟨t,i,e,S _ _ f,a,λy g=>let ⟨n,z⟩:=c y g;⟨n,Ŕ S z⟩,d⟩
theorem LkB.same{H H':Hp}{x:V}{b:Bool}(h:LkB K H x b)(S:yv H H'):LkB K H' x b:=by
 rcases h with⟨n,t,f,e⟩|⟨t,d,e,a,h⟩
 .exact .inl ⟨n,Ŕ S t,f,e⟩
 .refine .inr ⟨t,d,e,S _ _ a,?_⟩;rcases h with h|⟨y,z,n,g,c,h⟩
  .exact .inl h
  .refine .inr ⟨y,z,n,g,Ŕ S c,?_⟩;rcases h with h|⟨j,i⟩
   .exact .inl h
   .exact .inr ⟨j,i.same S⟩
def ý{H:Hp}{x:V}{n:String}(ty:ue K H x (.type n)):W.kitOne K (.type n) (.type "tuple")=some (decide (n="tuple")):=by cases ty<;>rfl
def ydy{H:Hp}{x:V}{n:String}(ty:ue K H x (.type n)):W.kitOne K (.type n) (.type "str")=some (decide (n="str")):=by cases ty<;>rfl
def yea{H:Hp}{x:V}{n:String}(ty:ue K H x (.type n)):W.kitOne K (.type n) (.type "list")=some (decide (n="list")):=by cases ty<;>rfl
def yqr{xs:Υ}{y:V}(h:xs.tail[i]?=some y):xs[i+1]?=some y:=by
 cases xs with
 |nil=>simp at h
 |cons x r=>simpa using h
def yg9(xs:Υ):(List.range xs.tail.length).map (λi=>V.bl (ltV ((xs[i]?).getD .non) ((xs.tail[i]?).getD .non)))=(List.zipWith ltV xs xs.tail).map V.bl:=by
 apply List.ext_getElem
 .rw[be,bU,be,List.length_zipWith,List.length_tail];omega
 .intro i a c;rw[be,bU]at a;have b:i<xs.length:=by rw[List.length_tail]at a;omega
  rw[cK,List.getElem_range,cK,List.getElem_zipWith,bg a,bg b];rfl
def yi6{t u:x0}{xs:Υ}{te:TE}{fr:St}{R:Hp->Prop}{H1:Hp}(hint:∀y∈xs,∃i:Int,y=.int i)(hl:xs.length<=1000)(ht:SqT K H1 t xs)(hu:SqT K H1 u xs.tail)(hD:H1 D=none)
  (hte:∀(i j:Int)(σ':St)(H':Hp)(Q':VK),Q' (.bl (decide (i<j))) H'->te (some (.int i)::some (.int j)::σ') H' Q') (hR:∀H,yv H1 H->H D=some (.lst ((List.zipWith ltV xs xs.tail).map V.bl))->R H):
  ju (vcv K t u) (ywe K 2 (zh (w8 0) (zh (w8 1) ylf))) te 2 fr D R H1:=by
 refine yce (m:=xs.tail.length) (λi=>V.bl (ltV ((xs[i]?).getD .non) ((xs.tail[i]?).getD .non))) ht hu (by rw[List.length_tail];omega) (bj _) (.inr (bj _)) hD (λi x y h l w z r n k a g e=>?_) (λh k a=>?_)
 .obtain⟨s,v,rfl⟩:=ykn e;let⟨c,rfl⟩:=hint x (bA r);let⟨d,rfl⟩:=hint y (bA (yqr n));have p:=k.trans (y7 (o:=HO.tup [V.int c,V.int d]) g);have b:=u8 (o':=HO.tup [V.int c,V.int d]) g a;have f:upd h l (HO.tup [V.int c,V.int d]) l=some (.tup [V.int c,V.int d]):=ya;generalize upd h l (HO.tup [V.int c,V.int d])=q at p b f;refine Ĭ (SqT.of f) rfl ?_;show zh (w8 0) (zh (w8 1) ylf) [V.int c,V.int d] (s::v::fr) q _;ext;exists⟨[some (.int c),some (.int d)],rfl,rfl⟩,?_;refine hte c d fr q _ ?_;refine Mp.doneR hD (ve (by rw[List.length_tail];omega)) z p b ?_;rw[r,n];rfl
 .exact hR h k (by rw[<- yg9];exact a)
def yqy(xs:Υ):ydl xs (some 1) none=xs.tail:=by
 unfold ydl
 have e:HT.sIx xs.length 0 (some 1)=min 1 xs.length:=by
  have:=HT.sIx_nat xs.length 0 1;simpa using this
 rw[HT.sIx_none,e]
 cases xs with
 |nil=>rfl
 |cons x r=>simp
def yna{n:Nat}(bs:qi Bool)(h:n=bs.length):(List.range n).map (λi=>V.bl ((bs[i]?).getD false))=bs.map V.bl:=by
 subst h;apply List.ext_getElem
 .rw[be,bU,be]
 .intro i a b;rw[be,bU]at a;rw[cK,List.getElem_range,cK,bg a];rfl
def ve0(K:xr)(H:Hp)(xs:Υ)(bs:qi Bool):Prop:=xs.length=bs.length/\∀(i:Nat)(y:V)(b:Bool),xs[i]?=some y->bs[i]?=some b->LkB K H y b
def LkG(H:Hp)(v:V)(kd:Fin 3)(tp:x0)(ps:Ρ):Prop:=∃lk,v=.ref lk/\H lk=some (.tup [.str (kdS kd),.ref tp])/\H tp=some (.tup (ps.map V.int))/\jt (ps.map V.int)=true
def LkG.same{H H':Hp}{v:V}{kd:Fin 3}{tp:x0}{ps:Ρ}(h:LkG H v kd tp ps)(S:yv H H'):LkG H' v kd tp ps:=by let⟨c,e,d,a,b⟩:=h;exists c,e,S _ _ d,S _ _ a,b
def ys6(kd:Fin 3):yk7 (.str (kdS kd))=true:=by
 match kd with
 |0=>rfl
 |1=>rfl
 |2=>rfl
def yf4{xs:Υ}(h:jt xs=true):xs.length<=4:=by unfold jt at h;rw[bV,bV]at h;exact of_decide_eq_true h.1.1
def LkG.tells{H:Hp}{v:V}{kd:Fin 3}{tp:x0}{ps:Ρ}(h:LkG H v kd tp ps):LkB K H v true:=by let⟨d,e,f,c,a⟩:=h;have:=yf4 a;refine .inr ⟨d,_,e,f,.inr ⟨_,_,"str",rfl,.str _,.inr ⟨ys6 kd,.inr ⟨tp,_,rfl,c,by omega,λy b=>?_,a.symm⟩⟩⟩⟩;let⟨i,_,rfl⟩:=bq.mp b;exists _,.int i
theorem yqd:∀{ps:Ρ},ps.Pairwise (· < ·)->veq (ps.map V.int)=true
 |[],_=>rfl
 |[_],_=>rfl
 |p::q::r,h=>by
  have b:p<q:=(List.pairwise_cons.mp h).1 q (by simp);have a:=yqd (List.pairwise_cons.mp h).2;unfold veq at a⊢;simp only[bT,List.tail_cons,List.zipWith_cons_cons,List.all_cons]at a⊢;rw[show ltV (V.int p) (V.int q)=true from br b];simpa using a
def yh5{ps:Ρ}(h1:ps.length<=4)(h2:∀p∈ps,1<=p/\p<=8)(h3:ps.Pairwise (· < ·)):jt (ps.map V.int)=true:=by unfold jt;rw[be,br h1,yqd h3,Bool.true_and,Bool.and_true,List.all_eq_true];intro y a;let⟨i,b,rfl⟩:=bq.mp a;have:=h2 i b;show (decide (1<=i) && decide (i<=8))=true;rw[br this.1,br this.2];rfl
def Lks(H:Hp)(xs:Υ):Prop:=∀y∈xs,∃kd tp ps,LkG H y kd tp ps
def Lks.bs{H:Hp}{xs:Υ}(h:Lks H xs):ve0 K H xs (List.replicate xs.length true):=by
 exists by rw[cF],λi y b d c=>?_
 have a:b=true:=cB (bA c);let⟨g,f,e,z⟩:=h y (bA d);rw[a];exact z.tells
def yji(n:Nat):(List.replicate n true).all id=true:=by simp
def vgb(K:xr)(H:Hp)(x:V):Prop:=(∃n,ue K H x (.type n)/\n≠"list")\/∃l xs bs,x=.ref l/\H l=some (.lst xs)/\xs.length<=1000/\ve0 K H xs bs/\¬(1<=xs.length/\xs.length<=6/\bs.all id=true)
theorem LkG.upd{H:Hp}{v:V}{kd:Fin 3}{tp l:x0}{ps:Ρ}{xs ys:Υ}(h:LkG H v kd tp ps)(hl:H l=some (.lst xs)):LkG (L2.upd H l (.lst ys)) v kd tp ps:=by let⟨d,e,b,a,c⟩:=h;exists d,e,yf (wz b hl (by intro z;cases z)) b,yf (wz a hl (by intro z;cases z)) a,c
def upN{α:Type}(g:Nat->α)(n:Nat)(x:α):Nat->α:=λj=>if j=n then x else g j
def wo{α:Type}{g:Nat->α}{n:Nat}{x:α}:upN g n x n=x:=if_pos rfl
def wj{α:Type}{g:Nat->α}{n:Nat}{x:α}(h:j<n):upN g n x j=g j:=if_neg (by omega)
def ytc(c:Int):∃kk:Fin 3,atI [V.str "even",V.str "quick",V.str "run"] (c%3)=some (V.str (kdS kk)):=by
 have a:0<=c%3:=cn _ (by decide);have b:c%3<3:=cg _ (by decide);generalize c%3=z at a b;obtain rfl|rfl|rfl:z=0\/z=1\/z=2:=by omega
 .exact⟨0,rfl⟩
 .exact⟨1,rfl⟩
 .exact⟨2,rfl⟩
def ux(H:Hp)(n:Nat)(lk:Μ)(kd:Ξ)(tp:Μ)(ps:Λ):Prop:=∀i,i<n->LkG H (.ref (lk i)) (kd i) (tp i) (ps i)
theorem ux.same{H H':Hp}{n:Nat}{lk:Μ}{kd:Ξ}{ps:Λ}(h:ux H n lk kd tp ps)(S:yv H H'):ux H' n lk kd tp ps:=λi a=>(h i a).same S
structure Sd(K:xr)(H:Hp)(v:V)(d:PyData)(k:Nat):Prop where
 rd:RdV K H v d
 lay:d.canLay0=true
 dep:d.depth<=k
 eq:PyData.eqv d d=true
structure Sds(K:xr)(H:Hp)(xs:Υ)(ds:qi PyData)(k:Nat):Prop where
 rd:yqk K H xs ds
 lay:PyData.canLayAll0 ds=true
 dep:PyData.depthAll ds<=k
 eq:PyData.eqvAll ds ds=true
theorem Sd.int{H:Hp}(i:Int){k:Nat}:Sd K H (.int i) (.int i) k:=⟨.int i,by simp[PyData.canLay0],by simp[PyData.depth],by simp[PyData.eqv]⟩
theorem Sds.nil{H:Hp}{k:Nat}:Sds K H [] [] k:=⟨.nil,rfl,bJ _,by simp[PyData.eqvAll]⟩
theorem Sds.cons{H:Hp}{v:V}{d:PyData}{xs:Υ}{ds:qi PyData}{k:Nat}(h:Sd K H v d k)(r:Sds K H xs ds k):Sds K H (v::xs) (d::ds) k:=by
 exists .cons h.rd r.rd,by simp[PyData.canLayAll0,h.lay,r.lay],?_,by simp[PyData.eqvAll,h.eq,r.eq]
 have b:=h.dep;have a:=r.dep;simp only[PyData.depthAll];omega
def Sds.ints{H:Hp}(ns:Ρ){k:Nat}:Sds K H (ns.map V.int) (ns.map PyData.int) k:=⟨Ç ns,ξ ns,by rw[à];exact bJ _,by rw[z8,br rfl]⟩
theorem Sd.lst{H:Hp}{xs:Υ}{ds:qi PyData}{k:Nat}(h:SqL K H p xs)(r:Sds K H xs ds k):Sd K H (.ref p) (.list ds) (k+1):=by
 exists .lst h r.rd,by simp[PyData.canLay0,r.lay],?_,by simp[PyData.eqv,r.eq]
 have a:=r.dep;simp only[PyData.depth];omega
theorem Sd.tup{H:Hp}{xs:Υ}{ds:qi PyData}{k:Nat}(h:SqT K H p xs)(r:Sds K H xs ds k):Sd K H (.ref p) (.tuple ds) (k+1):=by
 exists .tup h r.rd,by simp[PyData.canLay0,r.lay],?_,by simp[PyData.eqv,r.eq]
 have a:=r.dep;simp only[PyData.depth];omega
def vd7{g:Bool->Bool}{H:Hp}{Q:VK}{x y:V}{d:PyData}{k:Nat}(h1:Sd K H x d k)(h2:Sd K H y d k)(hk:k<=60)(h:Q (.bl (g true)) H):ywn K g x y H Q:=by
 have a:SeqAt.shaped d=true:=by
  unfold SeqAt.shaped;rw[bV];exists h1.lay,br (by have:=h1.dep;omega)
 exists d,d,h1.rd,h2.rd,a,a,by rw[h1.eq];exact h
local macro_rules | `(#synth $n:ident $a $b)=>`(theorem $n : yi $a $a (yd $b):=wl (by decide +kernel)) | `(#synth $n:ident $a $b $c)=>`(theorem $n : yi $a $b (yd $c):=wl (by decide +kernel))
#synth vd8 ["thing"] ve3
inductive yc2(K:xr)(vs:Υ)(H:Hp)(Q:VK)(E':XK):Prop
 |mk(x n:_)(_:vs=[x])(_:ue K H x (.type n))(_:Q (.bl (ζ x)) H)
variable(T:Txt K mg a)
def yk8:vz P w K mg Γ CX0 1 a.Q2 a.Qc ["thing"] (yc2 K):=by
 exists T.Gw.F.ok,vd8,g;let⟨x,n,rfl,b,k⟩:=h;exists 1,0,yc (yq (z7 (pcB wv T.A7 (pac (pv 0) (pa1 (jw (T:="int") rfl T.On (by right))))) (Ô (yx9 (pcB wv T.A7 (pac (pv 0) (pa1 (jw (T:="bool") rfl T.Ie (by right)))))))));refine ò b (ysz b) ?_;ext
 cases hx:yot x with
 |false =>
  have e:ζ x=false:=by
   cases x<;>first|rfl|cases hx
  rw[e]at k;exact ĳ k
 |true =>
  have e:ζ x=!yjo x:=by
   cases x<;>first|rfl|cases hx
  rw[e]at k;refine ł ?_;ext;refine ò b (ymo b) ?_;ext;exact k
#synth veh ["thing"] ve1
inductive yhw(K:xr)(vs:Υ)(H:Hp)(Q:VK)(E':XK):Prop
 |mk(x n:_)(_:vs=[x])(_:ue K H x (.type n))(_:Q (.bl (õ x)) H)
def vdz:vz P w K mg Γ CX0 2 a.Q3 a.Qd ["thing"] (yhw K):=by
 exists T.Ql.F.ok,veh,d;let⟨x,n,rfl,j,k⟩:=h;exists 1,0,yc (yq (z7 (uh (yk8 T) d.m T.Gw (pa1 (pv 0))) (Ô (Î jg jg yg (pv 0) yg))));exists x,n,rfl,j,?_;ext
 cases hx:ζ x with
 |false =>
  have e:õ x=false:=by
   cases x<;>first|rfl|cases hx
  rw[e]at k;exact ĳ k
 |true =>
  let⟨i,rfl⟩:=zw hx;refine ł ?_;ext;refine ur (λb=>?_) (λb=>?_)
  .ext;have e:õ (.int i)=decide (i<=1):=by simp[õ,b]
   rw[e]at k;exact k
  .have e:õ (.int i)=false:=by simp[õ,b]
   rw[e]at k;exact k
#synth vde ["thing"] veu
inductive yaz(K:xr)(vs:Υ)(H:Hp)(Q:VK)(E':XK):Prop
 |mk(x n:_)(_:vs=[x])(_:ue K H x (.type n))(_:Q (.bl (chV x)) H)
def veb:vz P w K mg Γ CX0 2 a.Q4 a.Qe ["thing"] (yaz K):=by
 exists T.Qm.F.ok,vde,d;let⟨x,n,rfl,j,k⟩:=h;exists 1,0,yc (yq (z7 (uh (yk8 T) d.m T.Gw (pa1 (pv 0))) (Ô (Î jg jg (vn rfl T.Dh) (pv 0) (ym zy (vn rfl T.Ce) (vn rfl T.Dh))))));exists x,n,rfl,j,?_;ext
 cases hx:ζ x with
 |false =>
  have e:chV x=false:=by
   cases x<;>first|rfl|cases hx
  rw[e]at k;exact ĳ k
 |true =>
  let⟨i,rfl⟩:=zw hx;refine ł ?_;ext;refine ur (λb=>?_) (λb=>?_)
  .ext;have e:chV (.int i)=decide (i<=16777216-32768):=by simp[chV,b]
   rw[e]at k;exact k
  .have e:chV (.int i)=false:=by simp[chV,b]
   rw[e]at k;exact k
#synth vej ["thing"] vev
inductive ygb(K:xr)(vs:Υ)(H:Hp)(Q:VK)(E':XK):Prop
 |mk(x n:_)(_:vs=[x])(_:ue K H x (.type n))(_:Q (.bl (sgV x)) H)
def vda:vz P w K mg Γ CX0 2 a.Q5 a.Qf ["thing"] (ygb K):=by
 exists T.Qn.F.ok,vej,d;let⟨x,n,rfl,j,k⟩:=h;exists 1,0,yc (yq (z7 (uh (yk8 T) d.m T.Gw (pa1 (pv 0))) (Ô (Î jg jg yg (pv 0) yg))));exists x,n,rfl,j,?_;ext
 cases hx:ζ x with
 |false =>
  have e:sgV x=false:=by
   cases x<;>first|rfl|cases hx
  rw[e]at k;exact ĳ k
 |true =>
  let⟨i,rfl⟩:=zw hx;refine ł ?_;ext;refine ur (λb=>?_) (λb=>?_)
  .ext;have e:sgV (.int i)=decide (i<=255):=by simp[sgV,b]
   rw[e]at k;exact k
  .have e:sgV (.int i)=false:=by simp[sgV,b]
   rw[e]at k;exact k
#synth vdc ["thing","most"] ve2
inductive va0(K:xr)(vs:Υ)(H:Hp)(Q:VK)(E':XK):Prop
 |mk(x n m:_)(_:vs=[x,.int m])(_:ue K H x (.type n))(_:((Bad K H x n m/\∀H',yv H H'->Q (.bl false) H')\/∃xs,vct K H x xs m/\∀H',yv H H'->Q (.bl true) H'))
def vcj:vz P w K mg Γ CX0 3 a.Q6 a.Qg ["thing","most"] (va0 K):=by
 exists T.P4.F.ok,vdc,O;let⟨x,n,m,rfl,u,h⟩:=h
 have B:(n≠"list"/\∀d,yv H d->Q (.bl false) d)\/∃p xs,x=.ref p/\H p=some (.lst xs)/\ynr K H xs/\xs.length<=100000/\∀d,yv H d->Q (.bl (decide ((xs.length:Int)<=m) && xs.all sgV)) d:=by
  rcases h with⟨h|⟨p,xs,e,c,t,l,J⟩,k⟩|⟨xs,⟨p,e,c,t,l,J⟩,k⟩
  .exact .inl ⟨h,k⟩
  .exact .inr ⟨p,xs,e,c,t,l,λd S=>by rw[J];exact k d S⟩
  .exact .inr ⟨p,xs,e,c,t,l,λd S=>by rw[J];exact k d S⟩
 exists 2,0,yc (yq (z7 (pcB wv T.A7 (pac (pv 0) (pa1 (jw (T:="list") rfl T.Af (by right))))) (z7 (xv jg (pcB yp T.Aa (pa1 (pv 0))) (pv 1) (yx _)) (Ô (pcB (j5 rfl) T.Db (pa1 (wb (js:=[]) (ys:=[]) rfl (vx (pv 0)) (λC s2 Z fp=>(uh (vda T) O.m T.Qn (pa1 (pv 0)))) rfl rfl (hyc:=yt) (hrel:=yt))))))));refine ò u (yrf u) ?_;ext;rcases B with⟨G,k⟩|⟨p,xs,rfl,c,U,l,k⟩
 .refine ydk G ?_;ext;exact k _ (yv.refl _)
 .have G:n="list":=by
   cases u with
   |lst e=>rfl
   |frz e=>rfl
   |tup e=>rw[c]at e;cases e
   |dK e=>rw[c]at e;cases e
   |dT e=>rw[c]at e;cases e
  refine yam G ?_;ext;refine x5 (SqL.of c) ?_;ext;refine ur (λL=>?_) (λL=>?_)
  .rw[br L,Bool.true_and]at k;ext;exists p,rfl,⟨_,SqL.of c⟩,λD I=>?_;have Y:p≠D:=yb c I;refine ul (K:=K) (a:=p) (xs:=xs) (λi g=>g D=some (.lst (((xs.take i).map sgV).map V.bl))/\yv H g)
    ⟨ya,y7 I⟩ (λi g F q=>SqL.of (q.2 _ _ c)) ?_ ?_
   .rintro i y g N M ⟨f,j⟩;ext;let⟨X,v⟩:=U y (bA N);exists y,X,rfl,Ŕ j v,?_;refine we f (by rw[be,be,bH];exact ylt (by omega)) M ⟨ya.trans ?_,λb o e=>yf (λz=>?_) (j _ _ e)⟩
    .rw[List.take_succ,N];simp
    .subst z;rw[I]at e;cases e
   .rintro g ⟨f,j⟩;ext;exists D,_,rfl,SqL.of f,?_;rw[cm (bj _),List.all_map];exact k _ j
  .rw[bC L,Bool.false_and]at k;ext;exact k _ (yv.refl _)
#synth vc6 ["thing"] vey
def ygt:vz P w K mg Γ (CXe P w) 4 a.Q7 a.Qh ["thing"] (ő K a.Gs 1000):=by
 exists T.Fp.F.okE,vc6,g;let⟨x,n,rfl,q,h⟩:=h;exists 1,0,ye (wa (xn (xo (uh (vcj T) g.m T.P4 (pac (pv 0) (pa1 (vn rfl T.Cz)))))) (yc (xb rfl T.U5 T.Ri (pa1 wx))) y6) (yc (yq (pcT w6 T.Af (pa1 (pv 0)))));exists x,n,_,rfl,q,?_;rcases h with⟨i,k⟩|⟨f,e,k⟩
 .refine .inl ⟨i,λt b=>?_⟩;ext;exists by walk_at "len",k _ b
 .refine .inr ⟨f,e,λt b=>?_⟩;let⟨p,rfl,j,_⟩:=e;ext;exists p,f,rfl,.inl (SqL.of (b _ _ j)),λr c=>?_;exact k r _ (b.free c) ya (b.trans (y7 c))
#synth vdm ["thing"] ver
def vcf:vz P w K mg Γ (CXe P w) 4 a.Q8 a.Qi ["thing"] (ő K a.Fg 12000):=by
 exists T.P5.F.okE,vdm,g;let⟨x,n,rfl,q,h⟩:=h;exists 1,0,ye (wa (xn (xo (uh (vcj T) g.m T.P4 (pac (pv 0) (pa1 (vn rfl T.Fz)))))) (yc (xb rfl T.U7 T.Rj (pa1 wx))) y6) (yc (yq (pcT w6 T.Af (pa1 (pv 0)))));exists x,n,_,rfl,q,?_;rcases h with⟨i,k⟩|⟨f,e,k⟩
 .refine .inl ⟨i,λt b=>?_⟩;ext;exists by walk_at "len",k _ b
 .refine .inr ⟨f,e,λt b=>?_⟩;let⟨p,rfl,j,_⟩:=e;ext;exists p,f,rfl,.inl (SqL.of (b _ _ j)),λr c=>?_;exact k r _ (b.free c) ya (b.trans (y7 c))
#synth vdk ["thing"] ve6
def ywd:V->Bool
 | .int i=>decide (0<=i) && decide (i<=1000)
 |_=>false
def ypq{m:Nat}(h:m<=1000):ywd (.int m)=true:=by show (decide ((0:Int)<=m) && decide ((m:Int)<=1000))=true;rw[br (by omega),br (by omega)];rfl
inductive ylu(K:xr)(C:x0)(vs:Υ)(H:Hp)(Q:VK)(E:XK):Prop
 |mk(x n:_)(_:vs=[x])(_:ue K H x (.type n))(_:(ywd x=true->Q .non H))(_:(ywd x=false->E (.ref C) none H))
def vcg:vz P w K mg Γ (CXe P w) 2 a.Q9 a.Qj ["thing"] (ylu K a.Az):=by
 exists T.P6.F.okE,vdk,g;let⟨x,n,rfl,l,o,d⟩:=h;exists 1,0,yc (wa (PW.pt (İ (xn (xo (uh (yk8 T) g.m T.Gw (pa1 (pv 0))))) (ð (xn (yab jg jg yg (pv 0) (vn rfl T.Cz)))))) (yc (xb rfl T.Pj T.Eb (pa1 wx))) y6);exists x,n,rfl,l,?_;ext
 cases hx:ζ x with
 |false =>
  have e:ywd x=false:=by
   cases x<;>first|rfl|cases hx
  ext;exists by walk_at "len",d e
 |true =>
  let⟨i,rfl⟩:=zw hx;ext;refine ur (λb=>?_) (λb=>?_)
  .ext;refine yqm (λf=>?_) (λf=>?_)
   .ext;exact o (by simp[ywd,b,f])
   .ext;exists by walk_at "len",d (by simp[ywd,f])
  .ext;exists by walk_at "len",d (by simp[ywd,b])
#synth vd6 ["thing"] ve8
inductive ą(K:xr)(C:x0)(vs:Υ)(H:Hp)(Q:VK)(E:XK):Prop
 |mk(x n:_)(_:vs=[x])(_:ue K H x (.type n))(_:(chV x=true->Q .non H))(_:(chV x=false->E (.ref C) none H))
def ytu:vz P w K mg Γ (CXe P w) 3 a.Qa a.Qk ["thing"] (ą K a.Dm):=by
 exists T.Op.F.okE,vd6,c;let⟨x,n,rfl,f,i,g⟩:=h;exists 1,0,yc (wa (xn (xo (uh (veb T) c.m T.Qm (pa1 (pv 0))))) (yc (xb rfl T.U8 T.Rk (pa1 wx))) y6);exists x,n,rfl,f,?_;ext
 cases hx:chV x with
 |false =>
  ext;exists by walk_at "len",g hx
 |true =>
  ext;exact i hx
#synth yx8 ["thing"] yvb
inductive yar(K:xr)(C:x0)(vs:Υ)(H:Hp)(Q:VK)(E:XK):Prop
 |mk(x n:_)(_:vs=[x])(_:ue K H x (.type n))(_:(õ x=true->Q .non H))(_:(õ x=false->E (.ref C) none H))
def ĩ:vz P w K mg Γ (CXe P w) 3 a.Ip a.L6 ["thing"] (yar K a.By):=by
 exists T.Cm.F.okE,yx8,c;let⟨x,n,rfl,f,i,g⟩:=h;exists 1,0,yc (wa (xn (xo (uh (vdz T) c.m T.Ql (pa1 (pv 0))))) (yc (xb rfl T.U9 T.Rl (pa1 wx))) y6);exists x,n,rfl,f,?_;ext
 cases hx:õ x with
 |false =>
  ext;exists by walk_at "len",g hx
 |true =>
  ext;exact i hx
#synth va6 ["chance","bit"] yu2
inductive ynn(K:xr)(C D:x0)(vs:Υ)(H:Hp)(Q:VK)(E:XK):Prop
 |mk(x n y m:_)(_:vs=[x,y])(_:ue K H x (.type n))(_:ue K H y (.type m))(_:(chV x=false->E (.ref C) none H))(_:(chV x=true->õ y=false->E (.ref D) none H))(_:(∀c b,x=.int c->y=.int b->chV x=true->õ y=true->Q (.int (gvv c b)) H))
def yyt:vz P w K mg Γ (CXe P w) 4 a.Iq a.L7 ["chance","bit"] (ynn K a.Dm a.By):=by
 exists T.Ny.F.okE,va6,g;let⟨x,n,y,m,rfl,t,p,r,q,o⟩:=h;exists 2,0,ye (yw (x4 (ytu T) g.m T.Op yz (pa1 (pv 0)))) (ye (yw (x4 (ĩ T) g.m T.Cm yz (pa1 (pv 1)))) (yc (yq (Ï (yr xq (pv 1) yg (yx _)) (pv 0) (ym zy (vn rfl T.Ce) (pv 0))))));exists x,n,rfl,t,λf=>?_,r;ext;exists y,m,rfl,p,λi=>?_,q f;let⟨c,rfl,u,v⟩:=ydh f;let⟨b,rfl,B,z⟩:=yej i;ext;have k:=o c b rfl rfl f i;unfold gvv at k;refine ur (λd=>?_) (λd=>?_)
 .rw[if_pos d]at k;ext;exact k
 .rw[if_neg d]at k;ext;exact k
#synth vav ["self"] ytn
def yo2:vz P w K mg Γ CX0 1 a.Gg a.L8 ["self"] (ŷ a.A6 (zx (.int 0) (.int 0))):=by exists T.Do.F.ok,vav,f;let⟨p,e,rfl,g,k⟩:=h;exists 1,0,ye (y9 (pv 0) yg rfl) (yc (y9 (pv 0) yg rfl));exact k _ ya (But.upd.trans But.upd)
#synth yyf ["self"] yuv
def vae:vz P w K mg Γ CX0 1 a.Ir a.L9 ["self"] (uz (oS a) ywq):=by
 exists T.Gy.F.ok,yyf,l;let⟨p,e,i,rfl,d,j,c,k⟩:=h
 cases i with
 |ev n o =>
  let⟨r,q,m⟩:=j;have c:H p=some (.ins a.A6 e (zx (.int n) (.int o))):=c;exists 1,0,yc (yq (ym vd (ym wq (ym wc (ym wq yg (yn (pv 0) rfl)) yg) (vn rfl T.Ce)) (ym wc (ym wq yg (ym wc (yn (pv 0) rfl) (yn (pv 0) rfl))) yg)));exact k
 |qk _=>exact d.elim
 |rn _ _=>exact d.elim
#synth ywz ["self","bit"] ytv
def yzz:vz P w K mg Γ (CXe P w) 4 a.Is a.La ["self","bit"] (j8 K (oS a) ywq a.By):=by
 exists T.Gz.F.okE,ywz,j;let⟨p,g,v,x,r,rfl,f,u,i,q,t,C⟩:=h
 cases v with
 |ev n o =>
  let⟨I,G,J⟩:=u;have i:H p=some (.ins a.A6 g (zx (.int n) (.int o))):=i;exists 2,0,ye (yw (x4 (ĩ T) j.m T.Cm yz (pa1 (pv 1)))) (ye (wa (yr xq (pv 1) yg (yx _)) (yc (y9 (pv 0) (ym wc (yn (pv 0) rfl) yg) rfl)) (yc (y9 (pv 0) (ym wc (yn (pv 0) rfl) yg) rfl))) (yc (wa (yr yb6 (ym wc (yn (pv 0) rfl) (yn (pv 0) rfl)) (vn rfl T.Cg) (yx _)) (ye (y9 (pv 0) (ym vd (ym wc (yn (pv 0) rfl) yg) yg) rfl) (yc (y9 (pv 0) (ym vd (ym wc (yn (pv 0) rfl) yg) yg) rfl))) y6)));exists x,r,rfl,q,λD=>?_,C;let⟨b,rfl,B,y⟩:=yfc D;have k:=t b rfl B y;unfold Slt.see at k;dsimp only at k;ext;refine ur (λe=>?_) (λe=>?_)
  .rw[if_pos e]at k;unfold ydi at k;ext;refine ur (λc=>?_) (λc=>?_)
   .rw[if_pos c]at k;ext;exact k _ ya ((But.upd.trans But.upd).trans But.upd)
   .rw[if_neg c]at k;ext;exact k _ ya But.upd
  .rw[if_neg e]at k;unfold ydi at k;ext;refine ur (λc=>?_) (λc=>?_)
   .rw[if_pos c]at k;ext;exact k _ ya ((But.upd.trans But.upd).trans But.upd)
   .rw[if_neg c]at k;ext;exact k _ ya But.upd
 |qk _=>exact f.elim
 |rn _ _=>exact f.elim
#synth yob ["self","made"] ["self"] yvr
def yyp:vz P w K mg Γ CX0 3 a.Iu a.Lb ["self"] (j4 (oS a) ywq):=by
 exists T.Ha.F.ok,yob,y;let⟨p,x,s,rfl,v,d,k⟩:=h
 cases s with
 |qk _=>exact v.elim
 |rn _ _=>exact v.elim
 |ev n o =>
 have d:H p=some (.ins a.A6 x (zx (.int n) (.int o))):=d;exists 1,1,ye (yo (i:=1) yob.nd rfl (Or.inl rfl) (zk T.Pa (yo2 T) y.m rfl T.P9 T.Do.B .nil v7)) (ye (y9 (pv 1) (yn (pv 0) rfl) rfl) (ye (y9 (pv 1) (yn (pv 0) rfl) rfl) (yc (yq (pv 1)))));intro q f c r L;exists q,f,rfl,ya,λJ z G=>⟨rfl,?_⟩;have t:=å c r G;have l:=t _ _ d;have j:p≠q:=yb d c;ext;have I:=yf (o':=HO.ins a.A6 f (zx (.int n) (.int 0))) j l;ext;exact k q f _ c ya λb u e=>yf (yb e c) (yf (yb e c) (t _ _ e))
#synth va5 ["self"] yvk
def ypc:vz P w K mg Γ CX0 1 a.Gh a.Lc ["self"] (ŷ a.A5 (u9 (.int 8388608))):=by exists T.Dp.F.ok,va5,f;let⟨p,e,rfl,g,k⟩:=h;exists 1,0,yc (y9 (pv 0) (ym vd (vn rfl T.Ce) yg) rfl);exact k _ ya But.upd
#synth yzy ["self"] yvx
def va8:vz P w K mg Γ CX0 1 a.Iv a.Ld ["self"] (uz (oS a) ywo):=by
 exists T.Hb.F.ok,yzy,j;let⟨p,e,i,rfl,d,l,c,k⟩:=h
 cases i with
 |qk h0 =>
  have c:H p=some (.ins a.A5 e (u9 (.int h0))):=c;exists 1,0,yc (yq (yn (pv 0) rfl));exact k
 |ev _ _=>exact d.elim
 |rn _ _=>exact d.elim
#synth yj4 ["self","bit","moved"] ["self","bit"] yui
def vbc:vz P w K mg Γ (CXe P w) 4 a.Iw a.Le ["self","bit"] (j8 K (oS a) ywo a.By):=by
 exists T.Hc.F.okE,yj4,j;let⟨p,f,u,x,q,rfl,e,t,g,o,r,B⟩:=h
 cases u with
 |qk h0 =>
  let⟨G,D⟩:=t;have g:H p=some (.ins a.A5 f (u9 (.int h0))):=g;exists 2,1,ye (yw (x4 (ĩ T) j.m T.Cm yz (pa1 (pv 1)))) (ye (wa (yr xq (pv 1) yg (yx _)) (yc (yo (i:=2) yj4.nd rfl (Or.inl rfl) (ym wc (yn (pv 0) rfl) (ym vd (ym zy (vn rfl T.Ce) (yn (pv 0) rfl)) yg)))) (yc (yo (i:=2) yj4.nd rfl (Or.inl rfl) (ym zy (yn (pv 0) rfl) (ym vd (yn (pv 0) rfl) yg))))) (yc (y9 (pv 0) (pcB (Ė rfl) T.F9 (pac (pcB (ē rfl) T.I6 (pac (pv 2) (pa1 (vn rfl T.Dh)))) (pa1 (ym zy (vn rfl T.Ce) (vn rfl T.Dh))))) rfl)));exists x,q,rfl,o,λC=>?_,B;let⟨b,rfl,z,v⟩:=yfc C;have k:=r b rfl z v;unfold Slt.see at k;dsimp only at k;ext;refine ur (λd=>?_) (λd=>?_)
  .rw[if_pos d]at k;ext;exists _,_,rfl,?_;ext;exists _,_,rfl,?_;ext;exact k _ ya But.upd
  .rw[if_neg d]at k;ext;exists _,_,rfl,?_;ext;exists _,_,rfl,?_;ext;exact k _ ya But.upd
 |ev _ _=>exact e.elim
 |rn _ _=>exact e.elim
#synth yo3 ["self","made"] ["self"] yuz
def vaw:vz P w K mg Γ CX0 3 a.Ix a.Lf ["self"] (j4 (oS a) ywo):=by
 exists T.Hd.F.ok,yo3,r;let⟨p,o,s,rfl,n,c,k⟩:=h
 cases s with
 |ev _ _=>exact n.elim
 |rn _ _=>exact n.elim
 |qk h0 =>
 have c:H p=some (.ins a.A5 o (u9 (.int h0))):=c;exists 1,1,ye (yo (i:=1) yo3.nd rfl (Or.inl rfl) (zk T.Oj (ypc T) r.m rfl T.Oi T.Dp.B .nil v7)) (ye (y9 (pv 1) (yn (pv 0) rfl) rfl) (yc (yq (pv 1))));intro q j g f D;exists q,j,rfl,ya,λC t z=>⟨rfl,?_⟩;have l:=å g f z;have y:=l _ _ c;ext;exact k q j _ g ya λb u e=>yf (yb e g) (l _ _ e)
#synth va1 ["self"] yt9
def yqb:vz P w K mg Γ CX0 1 a.Gi a.Lg ["self"] (ŷ a.Ad (ç (.int 1) (.int 0))):=by exists T.Dq.F.ok,va1,f;let⟨p,e,rfl,g,k⟩:=h;exists 1,0,ye (y9 (pv 0) yg rfl) (yc (y9 (pv 0) yg rfl));exact k _ ya (But.upd.trans But.upd)
#synth yp4 ["self","given"] ["self"] yv3
def yw2:vz P w K mg Γ CX0 1 a.Iy a.Lh ["self"] (uz (oS a) ywl):=by
 exists T.He.F.ok,yp4,q;let⟨p,f,m,rfl,e,o,d,k⟩:=h
 cases m with
 |rn l n =>
  let⟨v,u,t,r⟩:=o;have d:H p=some (.ins a.Ad f (ç (.int l) (.int n))):=d;exists 1,1,ye (yo (i:=1) yp4.nd rfl (Or.inl rfl) (ym vd (ym wq (ym wc (ym wq yg (yn (pv 0) rfl)) yg) (vn rfl T.Ce)) (ym wc (ym wq yg (yn (pv 0) rfl)) yg))) (yc (yq (Ï (yr xq (yn (pv 0) rfl) yg (yx _)) (pv 1) (ym zy (vn rfl T.Ce) (pv 1)))));have k:Q (.int (if l=1 then ì n else 16777216-ì n)) H:=k;refine ur (λb=>?_) (λb=>?_)
  .rw[if_pos b]at k;ext;exact k
  .rw[if_neg b]at k;ext;exact k
 |ev _ _=>exact e.elim
 |qk _=>exact e.elim
#synth yye ["self","bit"] yux
def yzs:vz P w K mg Γ (CXe P w) 4 a.Iz a.Li ["self","bit"] (j8 K (oS a) ywl a.By):=by
 exists T.Hf.F.okE,yye,i;let⟨p,f,u,x,q,rfl,e,t,g,o,r,B⟩:=h
 cases u with
 |rn l n =>
  let⟨G,D,J,I⟩:=t;have g:H p=some (.ins a.Ad f (ç (.int l) (.int n))):=g;exists 2,0,ye (yw (x4 (ĩ T) i.m T.Cm yz (pa1 (pv 1)))) (yc (wa (yr xq (pv 1) (yn (pv 0) rfl) (yx _)) (yc (y9 (pv 0) (pcB (Ė rfl) T.F9 (pac (ym wc (yn (pv 0) rfl) yg) (pa1 (vn rfl T.Cg)))) rfl)) (ye (y9 (pv 0) (pv 1) rfl) (yc (y9 (pv 0) yg rfl)))));exists x,q,rfl,o,λC=>?_,B;let⟨b,rfl,z,v⟩:=yfc C;have k:=r b rfl z v;unfold Slt.see at k;dsimp only at k;ext;refine ur (λd=>?_) (λd=>?_)
  .rw[if_pos d]at k;ext;exists _,_,rfl,?_;ext;exact k _ ya But.upd
  .rw[if_neg d]at k;ext;exact k _ ya (But.upd.trans But.upd)
 |ev _ _=>exact e.elim
 |qk _=>exact e.elim
#synth yof ["self","made"] ["self"] yvt
def vaq:vz P w K mg Γ CX0 3 a.J0 a.Lj ["self"] (j4 (oS a) ywl):=by
 exists T.Hg.F.ok,yof,y;let⟨p,x,s,rfl,v,d,k⟩:=h
 cases s with
 |ev _ _=>exact v.elim
 |qk _=>exact v.elim
 |rn l n =>
 have d:H p=some (.ins a.Ad x (ç (.int l) (.int n))):=d;exists 1,1,ye (yo (i:=1) yof.nd rfl (Or.inl rfl) (zk T.Rc (yqb T) y.m rfl T.Rb T.Dq.B .nil v7)) (ye (y9 (pv 1) (yn (pv 0) rfl) rfl) (ye (y9 (pv 1) (yn (pv 0) rfl) rfl) (yc (yq (pv 1)))));intro q f c r L;exists q,f,rfl,ya,λJ z G=>⟨rfl,?_⟩;have t:=å c r G;have o:=t _ _ d;have j:p≠q:=yb d c;ext;have I:=yf (o':=HO.ins a.Ad f (ç (.int l) (.int 0))) j o;ext;exact k q f _ c ya λb u e=>yf (yb e c) (yf (yb e c) (t _ _ e))
#synth vag ["kind"] yuo
inductive yfn(a:Ads)(vs:Υ)(H:Hp)(Q:VK)(E':XK):Prop
 |mk(k:Fin 3)(_:vs=[.str (kdS k)])(_:∀p dx H',H p=none->H' p=some (oS a dx (kd0 k))->yv H H'->Q (.ref p) H')
def yyq:vz P w K mg Γ CX0 3 a.J1 a.Lk ["kind"] (yfn a):=by
 exists T.Nz.F.ok,vag,l;let⟨r,rfl,k⟩:=h;exists 1,0,ye (wa (yr xq (pv 0) wx (yx _)) (yc (yq (zk T.Pa (yo2 T) l.m rfl T.P9 T.Do.B .nil v7))) y6) (ye (wa (yr xq (pv 0) wx (yx _)) (yc (yq (zk T.Oj (ypc T) l.m rfl T.Oi T.Dp.B .nil v7))) y6) (ye (wa (yr xq (pv 0) wx (yx _)) (yc (yq (zk T.Rc (yqb T) l.m rfl T.Rb T.Dq.B .nil v7))) y6) (yc Ż)));exists rfl,?_
 match r with
 |0 =>
  exists _,rfl,yam rfl ?_;ext;intro p g d f q;exists p,g,rfl,ya,λj c i=>⟨rfl,?_⟩;exact k p g j d c λb o e=>i b o (by rw[yk (yb e d),yk (yb e f)];exact e) (yb e d)
 |1 =>
  exists _,rfl,ydk (by intro z;injection z with z;revert z;decide+kernel) ?_;ext;exists rfl,?_;exists _,rfl,yam rfl ?_;ext;intro p g d f q;exists p,g,rfl,ya,λj c i=>⟨rfl,?_⟩;exact k p g j d c λb o e=>i b o (by rw[yk (yb e d),yk (yb e f)];exact e) (yb e d)
 |2 =>
  exists _,rfl,ydk (by intro z;injection z with z;revert z;decide+kernel) ?_;ext;exists rfl,?_;exists _,rfl,ydk (by intro z;injection z with z;revert z;decide+kernel) ?_;ext;exists rfl,?_;exists _,rfl,yam rfl ?_;ext;intro p g d f q;exists p,g,rfl,ya,λj c i=>⟨rfl,?_⟩;exact k p g j d c λb o e=>i b o (by rw[yk (yb e d),yk (yb e f)];exact e) (yb e d)
#synth yx5 ["thing"] yuu
inductive yf3(K:xr)(vs:Υ)(H:Hp)(Q:VK)(E':XK):Prop
 |mk(x n:_)(_:vs=[x])(_:ue K H x (.type n))(_:Q (.bl (yk7 x)) H)
def yxb:vz P w K mg Γ CX0 1 a.J2 a.Ll ["thing"] (yf3 K):=by
 exists T.O0.F.ok,yx5,g;let⟨x,n,rfl,b,k⟩:=h;exists 1,0,yc (yq (z7 (pcB wv T.A7 (pac (pv 0) (pa1 (jw (T:="str") rfl T.Oo (by right))))) (Ô (xv yhh (pv 0) (ydb rfl T.Qw) (by with_unfolding_all rfl)))));refine ò b (ydy b) ?_;ext;by_cases hn:n="str"
 .obtain⟨s',rfl⟩:∃s',x=.str s':=by
   cases b with
   |str s'=>exists s',rfl
   |_=>exact absurd hn (by decide)
  rw[br hn];refine ł ?_;ext;exists a.Ci,_,rfl,.inr (T.Qx H),rfl,rfl,k
 .have e:yk7 x=false:=by
   cases b with
   |str s'=>exact absurd rfl hn
   |_=>rfl
  rw[bC hn];rw[e]at k;exact ĳ k
#synth yyc ["thing"] yvj
inductive ycz(K:xr)(vs:Υ)(H:Hp)(Q:VK)(E':XK):Prop
 |mk(x n:_)(_:vs=[x])(_:ue K H x (.type n))(_:Q (.bl (plV x)) H)
def yx3:vz P w K mg Γ CX0 2 a.J3 a.Lm ["thing"] (ycz K):=by
 exists T.O4.F.ok,yyc,d;let⟨x,n,rfl,j,k⟩:=h;exists 1,0,yc (yq (z7 (uh (yk8 T) d.m T.Gw (pa1 (pv 0))) (Ô (Î jg jg yg (pv 0) (vn rfl T.If)))));exists x,n,rfl,j,?_;ext
 cases hx:ζ x with
 |false =>
  have e:plV x=false:=by
   cases x<;>first|rfl|cases hx
  rw[e]at k;exact ĳ k
 |true =>
  let⟨i,rfl⟩:=zw hx;refine ł ?_;ext;refine ur (λb=>?_) (λb=>?_)
  .ext;have e:plV (.int i)=decide (i<=8):=by simp[plV,b]
   rw[e]at k;exact k
  .have e:plV (.int i)=false:=by simp[plV,b]
   rw[e]at k;exact k
#synth vbf ["thing"] yvu
inductive ů(K:xr)(vs:Υ)(H:Hp)(Q:VK)(E':XK):Prop
 |mk(x b:_)(_:vs=[x])(_:PlB K H x b)(_:∀H',yv H H'->Q (.bl b) H')
def yw9:vz P w K mg Γ CX0 3 a.J4 a.Ln ["thing"] (ů K):=by
 exists T.O5.F.ok,vbf,Y;let⟨x,b,rfl,hb,k⟩:=h;exists _,(ye (wa (PW.pt (İ (xn (xo (pcB wv T.A7 (pac (pv 0) (pa1 (jw (T:="tuple") rfl T.Cl (by right))))))) (İ (yr yb6 (pcB yp T.Aa (pa1 (pv 0))) (vn rfl T.El) (yx _)) (ð (xn (xo (pcB (j5 rfl) T.Db (pa1 (wb (js:=[]) (ys:=[]) rfl (ye3 (pv 0)) (λC W I X=>(uh (yx3 T) Y.m T.O4 (pa1 (pv 0)))) rfl rfl (hyc:=yt) (hrel:=yt)))))))))) (yc (yq ı)) y6) (yc (yq (pcB (j5 rfl) T.Db (pa1 (yaa (js:=[]) (ys:=[]) (xs:=["near","far"]) (g:=ywe K 2 (zh (w8 0) (zh (w8 1) ylf))) rfl (yq7 rfl T.I7 (pac (pv 0) (pa1 (ub (vbm.or yq2) (pv 0) (uk yg) uv)))) (λC W I X=>(xv ó (pv 0) (pv 1) (yx _))) rfl (λC W I X=>ĭ rfl (xf (vk (i:=0) (show List.Nodup ((["near","far"]:Τ)++([]:Τ)) by right) rfl (Or.inl rfl)) (xf (vk (i:=1) (show List.Nodup ((["near","far"]:Τ)++([]:Τ)) by right) rfl (Or.inl rfl)) À))) rfl (hyc:=yt) (hrel:=yt))))))),?_;exists 1,0;rcases hb with⟨n,S,hn,rfl⟩|⟨t,xs,rfl,G,hl,Z,rfl⟩
 .ext;refine ò S (ý S) ?_;ext;refine yvi hn ?_;ext;exact k _ (yv.refl _)
 .ext;refine ò (.tup G) (ý (.tup G)) ?_;ext;refine yu5 rfl ?_;ext;refine ypw (SqT.of G) ?_;ext;unfold jt at k;refine ur (λh4=>?_) (λh4=>?_)
  .rw[bC (by omega),Bool.false_and,Bool.false_and]at k;ext;exact k _ (yv.refl _)
  .rw[br (by omega),Bool.true_and]at k;ext;exists t,rfl,⟨_,SqT.of G⟩,λD U=>?_;refine yho (xs:=xs) (λv=>.bl (plV v)) (SqT.of G) U (λi y I J q f=>?_) (λI q f=>?_)
   .obtain⟨n,O⟩:=Z y (bA J);ext;exists y,n,rfl,Ŕ q O,?_;exact Mp.done U (ve (by omega)) J q f rfl
   have e:xs.map (λv=>V.bl (plV v))=(xs.map plV).map V.bl:=by rw[bR];rfl
   rw[e]at f;ext;exists D,_,rfl,SqL.of f,?_;rw[List.all_map];have ea:xs.all (id ∘ plV)=xs.all plV:=rfl;rw[ea];have c:=q _ _ G
   cases hp:xs.all plV with
   |false =>
    rw[hp,Bool.false_and]at k;ext;exact k _ q
   |true =>
    rw[hp,Bool.true_and]at k
    have l:∀y∈xs,∃i:Int,y=.int i:=λy hm=>by
     have:=List.all_eq_true.mp hp y hm
     cases y with
     |int i=>exists i,rfl
     |_=>cases this
    ext;by_cases hx0:xs=[]
    .refine .inr ⟨t,xs,rfl,SqT.of c,?_,?_⟩
     .subst hx0;exists rfl,rfl
     .exists t,t,rfl,⟨_,_,SqT.of c,SqT.of c⟩,λR d=>?_;refine yi6 (xs:=xs) l (by omega) (SqT.of c) (by subst hx0;exact SqT.of c) d (λi j σ' H' Q' h=>?_) (λH4 N B=>?_)
      .ext;exact h
      .ext;exists R,_,rfl,SqL.of B,k _ (q.trans N)
    .refine .inl ⟨t,xs,rfl,SqT.of c,?_,λu hu=>?_⟩
     .rintro ⟨z,_⟩
      have e1:HT.sIx xs.length 0 (some 1)=min 1 xs.length:=by
       have:=HT.sIx_nat xs.length 0 1;simpa using this
      rw[e1]at z
      cases xs with
      |nil=>exact hx0 rfl
      |cons x r=>simp at z
     .rw[yqy];have L:=y7 (o:=(HO.tup xs.tail)) hu;have p:upd I u (HO.tup xs.tail) u=some (HO.tup xs.tail):=ya;generalize upd I u (HO.tup xs.tail)=H3 at L p⊢;exists t,u,rfl,⟨_,_,SqT.of (L _ _ c),SqT.of p⟩,λR d=>?_;refine yi6 (xs:=xs) l (by omega) (SqT.of (L _ _ c)) (SqT.of p) d (λi j σ' H' Q' h=>?_) (λH4 N B=>?_)
      .ext;exact h
      .ext;exists R,_,rfl,SqL.of B,k _ (q.trans (L.trans N))
#synth va3 ["thing"] yt8
inductive yfw(K:xr)(vs:Υ)(H:Hp)(Q:VK)(E':XK):Prop
 |mk(x b:_)(_:vs=[x])(_:LkB K H x b)(_:∀H',yv H H'->Q (.bl b) H')
def yop:vz P w K mg Γ CX0 4 a.J5 a.Lo ["thing"] (yfw K):=by
 exists T.Hh.F.ok,va3,i;let⟨x,b,rfl,c,k⟩:=h;exists _,(yc (yq (z7 (pcB wv T.A7 (pac (pv 0) (pa1 (jw (T:="tuple") rfl T.Cl (by right))))) (z7 (xv xq (pcB yp T.Aa (pa1 (pv 0))) yg (yx _)) (z7 (uh (yxb T) i.m T.O0 (pa1 (xi xp (pv 0) yg (λZ Z=>rfl)))) (Ô (uh (yw9 T) i.m T.O5 (pa1 (xi xp (pv 0) yg (λZ Z=>rfl)))))))))),?_;exists 1,0;rcases c with⟨n,e,r,rfl⟩|⟨t,q,rfl,d,c⟩
 .ext;refine ò e (ý e) ?_;ext;rw[bC r];exact ĳ (k _ (yv.refl _))
 .ext;refine ò (.tup d) (ý (.tup d)) ?_;ext;refine yam rfl ?_;ext;refine ypw (SqT.of d) ?_;ext;rcases c with⟨u,rfl⟩|⟨y,z,n,rfl,e,c⟩
  .rw[bC (show ¬((q.length:Int)=2) by omega)];exact ĳ (k _ (yv.refl _))
  .refine yam rfl ?_;ext;refine zt (SqT.of d) (vq (j:=0) rfl) ?_;ext;exists y,n,rfl,e,?_;rcases c with⟨g,rfl⟩|⟨g,l⟩
   .rw[g];ext;exact k _ (yv.refl _)
   .rw[g];ext;refine zt (SqT.of d) (vq (j:=1) rfl) ?_;ext;exists z,b,rfl,l,k
#synth yxw ["thing"] ytm
def yhl(K:xr)(C:x0):Sp:=λvs H Q E=>(∃x n,vs=[x]/\ue K H x (.type n)/\n≠"list"/\E (.ref C) none H) \/
 ∃(l:x0)(xs:Υ)(bs:qi Bool),vs=[.ref l]/\H l=some (.lst xs)/\xs.length<=1000/\ve0 K H xs bs/\
  ((1<=xs.length/\xs.length<=6/\bs.all id=true)->∀r H',H r=none->H' r=some (.lst xs)->yv H H'->Q (.ref r) H')/\
  (¬(1<=xs.length/\xs.length<=6/\bs.all id=true)->∀H',yv H H'->E (.ref C) none H')
def yoz:vz P w K mg Γ (CXe P w) 5 a.J6 a.Lp ["thing"] (yhl K a.Fh):=by
 refine T.Hi.F.okE yxw (λO H Q E h=>?_) (λX A q s H O Q E G h=>?_)
 .rcases h with⟨x,n,rfl,_⟩|⟨l,xs,f,rfl,_⟩
  .rfl
  .rfl
 .rcases h with⟨x,n,rfl,I,S,k⟩|⟨l,xs,g,rfl,d,hz,o,R,B⟩
  .exists _,(ye (wa (PW.pt (İ (xn (xo (pcB wv T.A7 (pac (pv 0) (pa1 (jw (T:="list") rfl T.Af (by right))))))) (İ (xn (yab jg jg yg (pcB yp T.Aa (pa1 (pv 0))) (vn rfl T.D0))) (ð (xn (xo (pcB (j5 rfl) T.Db (pa1 (wb (js:=[]) (ys:=[]) rfl (vx (pv 0)) (λC U t Y=>(uh (yop T) G.m T.Hh (pa1 (pv 0)))) rfl rfl (hyc:=yt) (hrel:=yt)))))))))) (yc (xb rfl T.Sa T.Qv (pa1 wx))) y6) (yc (yq (pcT w6 T.Af (pa1 (pv 0)))))),?_;refine yj (σ':=[some _]) rfl ?_;ext;refine ò I (yea I) ?_;ext;refine yvi S ?_;ext;exists by walk_at "len",k
  .exists _,(ye (wa (PW.pt (İ (xn (xo (pcB wv T.A7 (pac (pv 0) (pa1 (jw (T:="list") rfl T.Af (by right))))))) (İ (xn (yab jg jg yg (pcB yp T.Aa (pa1 (pv 0))) (vn rfl T.D0))) (ð (xn (xo (pcB (j5 rfl) T.Db (pa1 (wb (js:=[]) (ys:=[]) rfl (vx (pv 0)) (λC U t Y=>(uh (yop T) G.m T.Hh (pa1 (pv 0)))) rfl rfl (hyc:=yt) (hrel:=yt)))))))))) (yc (xb rfl T.Sa T.Qv (pa1 wx))) y6) (yc (yq (pcT w6 T.Af (pa1 (pv 0)))))),?_;refine yj (σ':=[some _]) rfl ?_;ext;refine ò (.lst d) (yea (.lst d)) ?_;ext;refine yu5 rfl ?_;ext;refine x5 (SqL.of d) ?_;ext;refine ur (λW=>?_) (λW=>?_)
   .ext;refine yqm (λN=>?_) (λN=>?_)
    .ext;exists l,rfl,⟨_,SqL.of d⟩,λD J=>?_;refine ul (K:=K) (xs:=xs) (Mp H D (λi=>V.bl ((g[i]?).getD false))) (Mp.zero J) (λZ Z Z p=>p.1.seq (SqL.of d)) (λi y t u M p=>?_) (λt p=>?_)
     .obtain⟨c,b⟩:=p;have e:i<g.length:=by rw[<- o.1];exact M
      ext;exists y,g[i],rfl,(o.2 i y _ u (bg e)).same c,λZ L=>?_;refine Mp.doneR J (ve (by omega)) M (c.trans L) (L _ _ b) ?_;rw[bg e];rfl
     let⟨c,b⟩:=p;rw[yna g o.1]at b;ext;exists D,_,rfl,SqL.of b,?_;have v:=c _ _ d
     cases hp:g.all id with
     |false =>
      ext;exists by walk_at "len",B (by rw[hp];rintro ⟨_,_,z⟩;cases z) _ c
     |true =>
      ext;refine û (SqL.of v) λr j=>?_;exact R ⟨by omega,by omega,hp⟩ r _ (c.free j) ya (c.trans (y7 j))
    .ext;exists by walk_at "len",B (by omega) _ (yv.refl _)
   .ext;exists by walk_at "len",B (by omega) _ (yv.refl _)
#synth yzf ["signs","place"] yu0
inductive yme(K:xr)(vs:Υ)(H:Hp)(Q:VK)(E':XK):Prop
 |mk(l:x0)(sg:Ρ)(p:Int)(_:vs=[.ref l,.int p])(_:SqL K H l (sg.map V.int))(_:1<=p)(_:Q (.int (yql sg p)) H)
def yyd:vz P w K mg Γ CX0 1 a.J7 a.Lq ["signs","place"] (yme K):=by
 exists T.O6.F.ok,yzf,n;let⟨l,m,p,rfl,e,g,k⟩:=h;exists 2,0,yc (yq (Ï (yr jg (pv 1) (pcB yp T.Aa (pa1 (pv 0))) (yx _)) (xi xl (pv 0) (vcp yo0 (pv 1)) (λZ Z=>rfl)) (vn rfl T.Ot)));refine x5 e ?_;rw[be];ext;unfold yql at k;refine ur (λb=>?_) (λb=>?_)
 .rw[if_pos b]at k;let⟨c,f,_⟩:=ync g b;rw[f]at k;ext;exact jy e (by rw[ytg,f];rfl) k
 .rw[if_neg b]at k;ext;exact k
#synth yy4 ["look","signs","node"] yt6
def zz(K:xr)(H:Hp)(k:x0)(x:V)(ps:Ρ):Prop:=∃t,SqT K H k [x,.ref t]/\SqT K H t (ps.map V.int)/\(∀p∈ps,1<=p/\p<=8)/\ps.length<=4
def zz.same{H H':Hp}{k:x0}{x:V}{ps:Ρ}(S:yv H H')(h:zz K H k x ps):zz K H' k x ps:=by let⟨t,c,a,b,d⟩:=h;exists t,S.tup c,S.tup a,b,d
def ctx(ps sg:Ρ)(nd:Int):Ρ:=ps.map (yql sg)++[nd]
def bkV(sg:Ρ):V->V
 | .int p=>.int (yql sg p)
 |_=>.non
def yrt(sg ps:Ρ):(ps.map V.int).map (bkV sg)=(ps.map (yql sg)).map V.int:=by rw[bR,bR];rfl
inductive yfy(K:xr)(vs:Υ)(H:Hp)(Q:VK)(E':XK):Prop
 |mk(k l:x0)(x:V)(ps sg:Ρ)(nd:Int)(_:vs=[.ref k,.ref l,.int nd])(_:zz K H k x ps)(_:SqL K H l (sg.map V.int))(_:∀r H',H r=none->H' r=some (.tup ((ctx ps sg nd).map V.int))->yv H H'->Q (.ref r) H')
def yxo:vz P w K mg Γ CX0 2 a.J8 a.Lr ["look","signs","node"] (yfy K):=by
 exists T.O7.F.ok,yy4,J;let⟨W,l,x,o,g,M,rfl,⟨t,N,G,v,O⟩,R,k⟩:=h;exists 3,0,yc (yq (pcT Å T.Cl (pa1 (ym ykz (wb (js:=[1]) (ys:=["signs"]) rfl (ye3 (xi xp (pv 0) yg (λZ Z=>rfl))) (λC X I Y=>(uh (yyd T) J.m T.O6 (pac (pv 1) (pa1 (pv 0))))) rfl rfl (hyc:=(all_cons rfl yt)) (hrel:=(all_cons rfl yt))) (xc (pa1 (pv 2)))))));refine zt N (vq (j:=1) rfl) ?_;exists t,rfl,⟨_,G⟩,λD B=>?_;have q:(o.map V.int).length<sizeLine:=ve (by rw[be];omega);refine Ň (xs:=o.map V.int) (bkV g) G B (λi y I z e b=>?_) (λI e b=>?_)
 .obtain⟨p,rfl,u,_,_⟩:=z6 z;ext;exists l,g,p,rfl,e.seq R,(v p u).1,?_;exact Mp.done B q z e b rfl
 .rw[yrt]at b;ext;exists by walk_at "len",λn hn=>?_
  exists hn,H3,S3,hn3;exists D,n,_,_,rfl,rfl,S3 _ _ b,hn3,jf (by rw[be,be];show _+1<=_;omega),λc hc=>?_;exists hc,H4,S4,hc4;exists c,_,rfl,.inl ⟨SqL.of hc4,λr d=>?_⟩;have S:=e.trans (S3.trans S4);refine k r _ (S.free d) (ya.trans ?_) (S.trans (y7 d));unfold ctx;rw[bF];rfl
#synth yx6 ["self","look"] yvy
inductive yh6(a:Ads)(vs:Υ)(H:Hp)(Q:VK)(E':XK):Prop
 |mk(p dx lk:x0)(kd:Fin 3)(_:vs=[.ref p,.ref lk])(_:H p=some (.ins a.Ab dx []))(_:∀d H',H d=none->Û a H' p dx lk d kd (λZ=>none) (λb=>b=d) 0->But p H H'->Q .non H')
def yp5:vz P w K mg Γ CX0 1 a.Gj a.Ls ["self","look"] (yh6 a):=by
 exists T.Dr.F.ok,yx6,C;let⟨p,i,j,B,rfl,v,k⟩:=h;exists 2,0,ye (y9 (pv 0) (pv 1) rfl) (yc (y9 (pv 0) yd6 rfl));intro d l
 have c:H d=none:=by
  cases e:H d with
  |none=>rfl
  |some o =>
   by_cases z:d=p
   .rw[z,ya]at l;cases l
   .rw[yk z,e]at l;cases l
 have g:d≠p:=λz=>by rw[z,v]at c;cases c
 have m:=u8 (o':=HO.dT []) l (show upd H p (HO.ins a.Ab i ([("look",V.ref j)]:Ι)) p=some (HO.ins a.Ab i ([("look",V.ref j)]:Ι))from ya);have f:upd (upd H p (HO.ins a.Ab i ([("look",V.ref j)]:Ι))) d (.dT []) d=some (.dT []):=ya;have r:But p H (upd (upd H p (HO.ins a.Ab i ([("look",V.ref j)]:Ι))) d (.dT [])):=λb o e n=>by rw[yk (yb e c),yk n];exact e
 generalize upd (upd H p (HO.ins a.Ab i ([("look",V.ref j)]:Ι))) d (.dT [])=D at m f r⊢;ext
 refine k d _ c ⟨ya,λb t=>⟨HO.dT [],by cases t;exact yf g f,rfl⟩,λz=>g z.symm,rfl,λu e=>(by cases (yf g f).symm.trans e;exact⟨List.nodup_nil,λZ z=>(nomatch z)⟩),[],λZ=>(0,0),yf g f,bj _,λZ Z=>rfl,λZ Z z=>(nomatch z),λZ Z Z Z z=>(nomatch z)⟩ (r.trans But.upd)
#synth ypp ["self","signs","node","context"] ["self","signs","node"] yv7
inductive yib(K:xr)(a:Ads)(vs:Υ)(H:Hp)(Q:VK)(E':XK):Prop
 |mk(p dx lk d sl:x0)(kd:Fin 3)(f:qi Int->qj Slt)(O:Ν)(m:Nat)(ps sg:Ρ)(nd:Int)(_:vs=[.ref p,.ref sl,.int nd])(_:Û a H p dx lk d kd f O m)(_:m<1000000)(_:zz K H lk (.str (kdS kd)) ps)(_:SqL K H sl (sg.map V.int))(_:∀(q:x0)(O':Ν)(H':Hp),Û a H' p dx lk d kd (Ă f (ctx ps sg nd) ((f (ctx ps sg nd)).getD (kd0 kd))) O' (m+1)->(∀kvs,H' d=some (.dT kvs)->zn kvs (kI (ctx ps sg nd))=some (.ref q))->(∀c,O' c->O c\/H c=none)->(∀c,O c->O' c)->ynx O H H'->Q (.ref q) H')
set_option tactic.hygienic true in
def vbp:vz P w K mg Γ CX0 4 a.J9 a.Lt ["self","signs","node"] (yib K a):=by
 exists T.Hj.F.ok,ypp,W;let⟨p,dx,lk,d,sl,G,f,O,m,ps,sg,X,rfl,hb,hm,hl,hs,k⟩:=h;have aa:=hb.me;exists 3,1,ye (yo (i:=3) ypp.nd rfl (Or.inl rfl) (uh (yxo T) W.m T.O7 (pac (yn (pv 0) rfl) (pac (pv 1) (pa1 (pv 2)))))) (ye (jx (wa (ybu (Ê (zg W) (pv 3) (yn (pv 0) rfl))) (yc (yah (zg W) (yn (pv 0) rfl) (pv 3) (uh (yyq T) W.m T.Nz (pa1 (xi xp (yn (pv 0) rfl) yg (λF F=>rfl)))) rfl)) y6)) (yc (yq (uc (zg W) (yn (pv 0) rfl) (pv 3) (λF F=>rfl)))));exists lk,sl,_,ps,sg,X,rfl,hl,hs,λr H1 ad a6 Y=>?_;have l:H1 r=some (.tup ((kI (ctx ps sg X)).map kV)):=by rw[yz3];exact a6
 generalize ctx ps sg X=b at l k;have g:=hb.same Y;have y:=g.me;ext;refine yk6 (λσ' H'=>σ'=[some (.ref p),some (.ref sl),some (.int X),some (.ref r)]/\∃O',Û a H' p dx lk d G (Ă f b ((f b).getD (kd0 G))) O' (m+1)/\(∀c,O' c->O c\/H c=none)/\(∀c,O c->O' c)/\ynx O H H'/\H' r=some (.tup ((kI b).map kV))) ?_ ?_
 .obtain⟨J,n,D,h2,U,N,h5⟩:=g.tb;ext;exists d,_,rfl,Ĳ.t D l,?_
  cases hf:f b with
  |none =>
   rw[U b hf];ext;refine ł ?_;ext;let⟨t,a3,ab,_,_⟩:=hl;refine zt (Y.tup a3) (vq (j:=0) rfl) ?_;ext;exists G,rfl,λq dq H2 u a0 L=>?_;ext;have M:=L _ _ y;ext;exists d,_,rfl,yla.t (L _ _ D) (L _ _ l) (ve (by omega)),?_;have a8:=Y.trans L;have Z:q≠d:=λz=>by rw[z,D]at u;cases u
   have a5:p≠d:=λz=>g.np (z ▸ g.dO);ext;exists rfl,λc=>O c\/c=q,⟨yf a5 M,λc v=>?_,λz=>?_,.inl g.dO,yn1.snoc (g.ky J D) (U b hf) ya,ń J (kI b) (.ref q),λj=>if j=b then (q,dq)else n j,ya,?_,λj I=>?_,λj s' I=>?_,λj1 j2 s1 s2 e1 e2 x=>?_⟩,λc v=>?_,λc v=>.inl v,λc o e no=>?_,yf (wz (L _ _ l) (L _ _ D) (by intro z;cases z)) (L _ _ l)
   .rcases v with v|rfl
    .obtain⟨o,ho,hi⟩:=g.own c v;by_cases z:c=d
     .rw[z];exists _,ya,rfl
     .exists o,yf z (L _ _ ho),hi
    .obtain⟨C,fs,eo⟩:=ε a dq (kd0 G);exists _,yf Z a0,by rw[eo];rfl
   .rcases z with z|z
    .exact g.np z
    .rw[z]at y;rw[y]at u;cases u
   .rw[Ò _ (U b hf),bp];show _+1<=m+1;omega
   .unfold Ă at I
    split at I
    .cases I
    .rename_i hne
     rw[j6,if_neg λz=>hne (ybt z)];exact U j I
   .unfold Ă at I
    split at I
    .rename_i he
     subst he;cases I;dsimp only;rw[if_pos rfl,j6,if_pos rfl];exists rfl,yf Z a0,yp2 G,ynf G,.inr rfl
    .rename_i hne
     let⟨S,B,q3,q4,q5⟩:=N j s' I;dsimp only;rw[if_neg hne,j6,if_neg λz=>hne (ybt z)]
     have a4:(n j).1≠d:=by
      let⟨C,fs,eo⟩:=ε a (n j).2 s';rw[eo]at B;exact wz B D (by intro z;cases z)
     exists S,yf a4 (L _ _ B),q3,q4,.inl q5
   .unfold Ă at e1 e2;dsimp only at x;by_cases z1:j1=b
    .by_cases z2:j2=b
     .rw[z1,z2]
     .rw[if_neg z2]at e2;rw[if_pos z1,if_neg z2]at x;let⟨_,B,_⟩:=N j2 s2 e2;have x:q=(n j2).1:=x;rw[<- x,u]at B;cases B
    .rw[if_neg z1]at e1;by_cases z2:j2=b
     .rw[if_neg z1,if_pos z2]at x;let⟨_,B,_⟩:=N j1 s1 e1;have x:(n j1).1=q:=x;rw[x,u]at B;cases B
     .rw[if_neg z2]at e2;rw[if_neg z1,if_neg z2]at x;exact h5 j1 j2 s1 s2 e1 e2 x
   .rcases v with v|rfl
    .exact .inl v
    .exact .inr (Y.free u)
   .exact yf (λz=>no (z ▸ g.dO)) (a8 _ _ e)
  |some s' =>
   let⟨S,B,q3,q4,q5⟩:=N b s' hf;rw[S];ext;exists rfl,O,?_,λc v=>.inl v,λc v=>v,λc o e F=>Y _ _ e,l
   have ef:Ă f b ((some s').getD (kd0 G))=f:=by
    funext j
    unfold Ă
    split
    .rename_i z
     rw[z,hf];rfl
    .rfl
   rw[ef];exists g.me,g.own,g.np,g.dO,g.ky,J,n,D,Nat.le_succ_of_le h2,U,N,h5
 .rintro σ' H2 ⟨rfl,O',R,hO,hM,B2,a1⟩;have M:=R.me;let⟨J,n,D,h2,U,N,h5⟩:=id R.tb;have a7:Ă f b ((f b).getD (kd0 G)) b=some ((f b).getD (kd0 G)):=by unfold Ă;rw[if_pos rfl]
  let⟨S,B,q3,q4,q5⟩:=N b _ a7;ext;exists d,_,rfl,by rw[<- S];exact Ĳ.t D a1,?_
  exact k (n b).1 O' H2 R (λa9 e=>by rw[D]at e;cases e;exact S) hO hM B2
structure yqo(a:Ads)(H:Hp)(d:x0)(kd:Fin 3)(f:qi Int->qj Slt)(O:Ν)(m:Nat):Prop where
 own:∀b,O b->∃o,H b=some o/\ywh o=true
 dO:O d
 ky:yn1 H d
 tb:∃(kvs:qi (qi Key×V))(loc:qi Int->x0×x0),H d=some (.dT kvs)/\kvs.length<=m/\(∀k,f k=none->zn kvs (kI k)=none)/\
  (∀k s,f k=some s->zn kvs (kI k)=some (.ref (loc k).1)/\H (loc k).1=some (oS a (loc k).2 s)/\s.ok/\s.kind=kd/\O (loc k).1)/\(∀k j s t,f k=some s->f j=some t->(loc k).1=(loc j).1->k=j)
def yqo.same{H H':Hp}{d:x0}{kd:Fin 3}{f:qi Int->qj Slt}{O:Ν}{m:Nat}(h:yqo a H d kd f O m)(S:yv H H'):yqo a H' d kd f O m:=by
 let⟨e,c,g,v,t,l,w⟩:=h.tb;exists λb i=>?_,h.dO,h.ky.mv g (S _ _ g),e,c,S _ _ g,v,t,λk s q=>?_,w
 .obtain⟨o,n,u⟩:=h.own b i;exists o,S _ _ n,u
 .obtain⟨r,p,j⟩:=l k s q;exists r,S _ _ p,j
set_option tactic.hygienic true in
def yqo.put{H H2:Hp}{d:x0}{kd:Fin 3}{f:qi Int->qj Slt}{O:Ν}{m:Nat}{key:Ρ}{s:Slt}(h:yqo a H d kd f O m)(S:yv H H2)(nq:H q=none)(hq:H2 q=some (oS a dq s))(ok:s.ok)(hk:s.kind=kd)(hf:f key=none){kvs:qi (qi Key×V)}(hd:H2 d=some (.dT kvs)):
  yqo a (upd H2 d (.dT (ń kvs (kI key) (.ref q)))) d kd (Ă f key s) (λc=>O c\/c=q) (m+1):=by
 let⟨D,g,u,R,B,A,L⟩:=h.tb;have e:=S _ _ u;rw[hd]at e;cases e;have l:q≠d:=λz=>by rw[z,u]at nq;cases nq
 have w:=h.ky kvs u;exists λc v=>?_,.inl h.dO,yn1.snoc w (B key hf) ya,ń kvs (kI key) (.ref q),λj=>if j=key then (q,dq)else g j,ya,?_,λj i=>?_,λj E i=>?_,λt n G F r p b=>?_
 .rcases v with v|rfl
  .obtain⟨o,N,P⟩:=h.own c v;by_cases z:c=d
   .rw[z];exists _,ya,rfl
   .exists o,yf z (S _ _ N),P
  .obtain⟨C,J,y⟩:=ε a dq s;exists _,yf l hq,by rw[y];rfl
 .rw[Ò _ (B key hf),bp];show _+1<=m+1;omega
 .unfold Ă at i
  split at i
  .cases i
  .rename_i hne
   rw[j6,if_neg λz=>hne (ybt z)];exact B j i
 .unfold Ă at i
  split at i
  .rename_i he
   subst he;cases i;dsimp only;rw[if_pos rfl,j6,if_pos rfl];exists rfl,yf l hq,ok,hk,.inr rfl
  .rename_i hne
   let⟨I,k,Q,K,M⟩:=A j E i;dsimp only;rw[if_neg hne,j6,if_neg λz=>hne (ybt z)]
   have x:(g j).1≠d:=by
    let⟨C,J,y⟩:=ε a (g j).2 E;rw[y]at k;exact wz k u (by intro z;cases z)
   exists I,yf x (S _ _ k),Q,K,.inl M
 .unfold Ă at r p;dsimp only at b;by_cases z1:t=key
  .by_cases z2:n=key
   .rw[z1,z2]
   .rw[if_neg z2]at p;rw[if_pos z1,if_neg z2]at b;let⟨_,k,_⟩:=A n F p;have b:q=(g n).1:=b;rw[<- b,nq]at k;cases k
  .rw[if_neg z1]at r;by_cases z2:n=key
   .rw[if_neg z1,if_pos z2]at b;let⟨_,k,_⟩:=A t G r;have b:(g t).1=q:=b;rw[b,nq]at k;cases k
   .rw[if_neg z2]at p;rw[if_neg z1,if_neg z2]at b;exact L t n G F r p b
def yly{kvs:qi (qi Key×V)}{k:qi Key}{v:V}(h:(kvs.map (·.1)).Nodup)(hm:(k,v)∈kvs):zn kvs k=some v:=by
 induction kvs with
 |nil=>cases hm
 |cons p r ih =>
  rw[bT,cJ]at h;rcases bB.mp hm with e|hm
  .subst e;exact xt (p:=(k,v)) rfl
  .have a:¬p.1=k:=λz=>h.1 (by rw[z];exact bq.mpr ⟨_,hm,rfl⟩);rw[xu a];exact ih h.2 hm
def ſ{kvs:qi (qi Key×V)}{k j:qi Key}{v:V}(h:kvs[i]?=some (k,v)):j∈(kvs.take (i+1)).map (·.1)↔(j=k\/j∈(kvs.take i).map (·.1)):=by rw[List.take_add_one,h,bF,bO];show _\/j∈[k]↔_;rw[bE,or_comm]
def ys3{kvs:qi (qi Key×V)}{k:qi Key}{v:V}(hn:(kvs.map (·.1)).Nodup)(h:kvs[i]?=some (k,v)):k∉(kvs.take i).map (·.1):=λm=>by
 have a:i<kvs.length:=(bv.mp h).1;rw[<- List.take_append_drop i kvs,bF,List.nodup_append]at hn;refine hn.2.2 _ m k ?_ rfl;rw[cQ a,bT,(bv.mp h).2];exact bN
#synth yby ["self","slots","context","slot","made"] ["self"] yu1
inductive yg7(a:Ads)(vs:Υ)(H:Hp)(Q:VK)(E':XK):Prop
 |mk(p dx lk d:x0)(kd:Fin 3)(f:qi Int->qj Slt)(O:Ν)(m:Nat)(_:vs=[.ref p])(_:Û a H p dx lk d kd f O m)(_:m<1000000)(_:∀q dq d' O' H',H q=none->Û a H' q dq lk d' kd f O' m->(∀c,O' c->H c=none)->yv H H'->Q (.ref q) H')
def vba:vz P w K mg Γ CX0 4 a.Ja a.Lu ["self"] (yg7 a):=by
 exists T.Hk.F.ok,yby,hr;let⟨p,dx,lk,d,kd,f,O,m,rfl,hb,hm,k⟩:=h;have a9:=hb.me;let⟨g,J,h1,h2,h3,h4,h5⟩:=hb.tb;let⟨a7,af⟩:=hb.ky g h1;exists 1,4,ye (yo (i:=1) yby.nd rfl (Or.inl rfl) yd6) (ye (ħ (xz PassesOwn.never rfl (ym8 (yn (pv 0) rfl)) (ĭ rfl (xf (vk (i:=2) yby.nd rfl (Or.inl rfl)) (xf (vk (i:=3) yby.nd rfl (Or.inl rfl)) À))) (yc (yah (zg hr) (pv 1) (pv 2) (Ŗ (vv (pv 3) T.Ba T.Ha.m (yyp T) hr.m T.Ha.B .nil v7) (Ŗ (vv (pv 3) T.Bz T.Hd.m (vaw T) hr.m T.Hd.B .nil v7) (vv (pv 3) T.C5 T.Hg.m (vaq T) hr.m T.Hg.B .nil v7))) rfl)))) (ye (yo (i:=4) yby.nd rfl (Or.inl rfl) (Ğ T.Pe (yp5 T) hr.m rfl T.Pb T.Dr.B .nil v7 (pa1 (yn (pv 0) rfl)))) (ye (y9 (pv 4) (pv 1) rfl) (yc (yq (pv 4))))));intro e ge;have S1:=y7 (o:=(HO.dT [])) ge;have W:upd H e (HO.dT []) e=some (HO.dT []):=ya;generalize upd H e (HO.dT [])=H1 at S1 W⊢;have ao:=S1 _ _ a9;have aa:=S1 _ _ h1;have aq:p≠d:=λz=>hb.np (z ▸ hb.dO);have L:e≠d:=λz=>by rw[z,h1]at ge;cases ge
 ext;exists d,g,rfl,aa,λob=>?_;have ab:upd H1 d (.frz ob (.dT g)) d=some (.frz ob (.dT g)):=ya;have BF:But d H1 (upd H1 d (.frz ob (.dT g))):=But.upd;generalize upd H1 d (.frz ob (.dT g))=HF at ab BF⊢;refine yhx (λi σ2 G=>∃(v2 v3:Ψ)(Z:qi Int->qj Slt)(Y:Ν),σ2=[some (.ref p),some (.ref e),v2,v3,none]/\yqo a G e kd Z Y i/\(∀j,(kI j∈(g.take i).map (·.1)->Z j=f j)/\(kI j∉(g.take i).map (·.1)->Z j=none))/\(∀c,Y c->H c=none)/\G d=some (.frz ob (.dT g))/\But d H G)
  ⟨none,none,λF=>none,λc=>c=e,rfl,⟨λb x=>⟨.dT [],by cases x;exact BF _ _ W L,rfl⟩,rfl,λl n=>(by cases (BF _ _ W L).symm.trans n;exact⟨List.nodup_nil,λF z=>(nomatch z)⟩),[],λF=>(0,0),BF _ _ W L,bJ _,λF F=>rfl,λF F z=>(nomatch z),λF F F F z=>(nomatch z)⟩,λj=>⟨λz=>(by rw[List.take_zero]at z;cases z),λF=>rfl⟩,λc z=>by cases z;exact ge,ab,λb o n ne=>BF _ _ (S1 _ _ n) ne⟩
  (by rintro i σ2 G _ ⟨_,_,_,_,_,_,_,_,w,_⟩;exact w) ?_ ?_
 .rintro i ad v σ2 G t kt r ⟨v2,v3,Z,Y,rfl,gT,gf,gO,gd,gB⟩ gt ak;let⟨I,a2⟩:=af _ (bA r);have a2:ad=kI I:=a2;subst a2;have R:=yly a7 (bA r)
  obtain⟨s',a6⟩:∃s',f I=some s':=by
   cases z:f I with
   |none=>rw[h3 I z]at R;cases R
   |some s'=>exists s',rfl
  let⟨U,q2,q3,q4,q5⟩:=h4 I s' a6;rw[R]at U;injection U with U;subst U
  have ac:(J I).1≠d:=by
   let⟨C,fs,eo⟩:=ε a (J I).2 s';rw[eo]at q2;exact wz q2 h1 (by intro z;cases z)
  have T1:=y7 (o:=(HO.tup [V.ref kt,V.ref (J I).1])) gt;have a5:upd G t (HO.tup [V.ref kt,V.ref (J I).1]) t=some (HO.tup [V.ref kt,V.ref (J I).1]):=ya;generalize upd G t (HO.tup [V.ref kt,V.ref (J I).1])=G1 at T1 a5⊢;refine Ĭ (SqT.of a5) rfl ?_;ext;refine ysn (λQ' h=>yvs rfl h) (T1 _ _ (gB _ _ q2 ac)) λq dq G2 M a8 T2=>?_;have S2:=T1.trans T2;let⟨l,D,S,w2,w3,w4,w5⟩:=id gT.tb;have a3:Z I=none:=(gf I).2 (ys3 a7 r);have ag:=S2 _ _ gd;ext;exists e,_,rfl,yla.t (S2 _ _ S) (S2 _ _ ak) (ve (by have:=(bv.mp r).1;omega)),?_;ext;exists _,_,_,_,rfl,gT.put S2 (T1.free M) a8 q3 q4 a3 (S2 _ _ S),λj=>?_,λc hc=>?_,yf L.symm ag,λb o n ne=>yf (yb n ge) (S2 _ _ (gB _ _ n ne))
  .unfold Ă;by_cases z:j=I
   .rw[if_pos z,z];exists λF=>a6.symm,λw=>absurd ((ſ r).mpr (.inl rfl)) w
   .rw[if_neg z];exists λw=>(gf j).1 (((ſ r).mp w).resolve_left λy=>z (ybt y)),λw=>(gf j).2 λy=>w ((ſ r).mpr (.inr y))
  .rcases hc with hc|rfl
   .exact gO c hc
   .cases z:H c with
    |none=>rfl
    |some o =>
     by_cases y:c=d
     .rw[y]at M;rw[T1 _ _ gd]at M;cases M
     .rw[T1 _ _ (gB _ _ z y)]at M;cases M
 .rintro σ2 G ⟨v2,v3,Z,Y,rfl,gT,gf,gO,gd,gB⟩
  have ae:Z=f:=by
   funext j
   have gj:=gf j;rw[bY]at gj;by_cases w:kI j∈g.map (·.1)
   .exact gj.1 w
   .rw[gj.2 w]
    cases z:f j with
    |none=>rfl
    |some s' =>
     have U:=(h4 j s' z).1;have a1:=je (kI j) g;rw[U]at a1;let⟨pr,aj,n⟩:=cT.mp a1;exact absurd (bq.mpr ⟨pr,aj,of_decide_eq_true n⟩) w
  subst ae;exists d,ob,.dT g,λo u z=>(by rw[aa]at z;cases z),gd,?_
  have ST:yv H (upd G d (.dT g)):=λb o n=>by
   by_cases y:b=d
   .rw[y,ya];rw[y,h1]at n;exact n
   .rw[yk y];exact gB _ _ n y
  have a4:yqo a (upd G d (.dT g)) e kd Z Y g.length:=by
   let⟨l,D,S,w2,w3,w4,w5⟩:=gT.tb
   have nO:∀c,Y c->c≠d:=λc hc z=>by
    have:=gO c hc;rw[z,h1]at this;cases this
   exists λb x=>?_,gT.dO,gT.ky.mv S (yf L S),l,D,yf L S,w2,w3,λk s hk=>?_,w5
   .obtain⟨o,ho,hi⟩:=gT.own b x;exists o,yf (nO b x) ho,hi
   .obtain⟨U,q2,q3,q4,q5⟩:=w4 k s hk;exists U,yf (nO _ q5) q2,q3,q4,q5
  generalize upd G d (.dT g)=GT at ST a4⊢;have an:=ST _ _ a9;ext;intro q dq nq ah ap;exists q,dq,lk,kd,rfl,ya,λd2 G2 am al B2=>⟨rfl,?_⟩;have S3:=å nq ah B2;have a8:=al.me;have N:=a4.same S3;ext
  have X:¬Y q:=λw=>by
   let⟨o,ho,_⟩:=a4.own q w;rw[nq]at ho;cases ho
  let⟨l,D,S,w2,w3,w4,w5⟩:=N.tb;have a0:e≠q:=λz=>X (z ▸ N.dO);refine k q dq e Y _ (ST.free nq) ⟨ya,λb x=>?_,X,N.dO,N.ky.mv S (yf a0 S),l,D,yf a0 S,by omega,w3,λk s hk=>?_,w5⟩ gO (λb o n=>yf (λz=>by rw[z]at n;rw[ST _ _ n]at nq;cases nq) (S3 _ _ (ST _ _ n)))
  .obtain⟨o,ho,hi⟩:=N.own b x;exists o,yf (λz=>X (z ▸ x)) ho,hi
  .obtain⟨U,q2,q3,q4,q5⟩:=w4 k s hk;exists U,yf (λz=>X (z ▸ q5)) q2,q3,q4,q5
#synth yxj ["self","many"] ytx
def yn5:vz P w K mg Γ CX0 1 a.Gk a.Lv ["self","many"] (ylj a):=by
 exists T.Ds.F.ok,yxj,m;let⟨p,j,n,rfl,o,q,e,k⟩:=h;exists 2,0,yc (y9 (pv 0) (ym yb3 (xc (pa1 (vn rfl T.Ee))) (pv 1)) rfl);exists by walk_at "len",λr hr0=>?_
 exists hr0,H1,S1,e1;ext;exists r,n,_,rfl,rfl,e1,by omega,by omega,jf (by show 1*(n:Int).toNat<=16000000;omega),λl hl=>?_
 rw[jm];exists hl,H2,S2,e2;have b:=S1.trans S2;have i:=b _ _ e;ext;have d:l≠p:=λz=>by rw[z,S1 _ _ e]at hl;cases hl
 exact k l _ (S1.free hl) ⟨ya,yf d e2⟩ ((But.of b).trans But.upd)
#synth yyo ["self","chances"] yt0
def yww:vz P w K mg Γ CX0 1 a.Jb a.Lx ["self","chances"] (yik K a):=by
 exists T.Hl.F.ok,yyo,hr;let⟨p,dx,l,c,B,J,n,rfl,n1,Y,e,X,⟨hp,G⟩,M,k⟩:=h;exists _,(yc (yq (ym vd (pcB (Ì rfl) T.Ed (pa1 (yaa (js:=[]) (ys:=[]) (xs:=["weight","chance"]) (g:=ywe K 2 (zh (w8 0) (zh (w8 1) ylf))) rfl (ypb rfl T.I7 (pac (yn (pv 0) rfl) (pa1 (pv 1)))) (λC s2 r fp=>(ym wq (pv 0) (pv 1))) rfl (λC s2 r fp=>ĭ rfl (xf (vk (i:=0) (show List.Nodup ((["weight","chance"]:Τ)++([]:Τ)) by right) rfl (Or.inl rfl)) (xf (vk (i:=1) (show List.Nodup ((["weight","chance"]:Τ)++([]:Τ)) by right) rfl (Or.inl rfl)) À))) rfl (hyc:=yt) (hrel:=yt)))) (pcB (Ì rfl) T.Ed (pa1 (yn (pv 0) rfl)))))),?_;exists 2,0;have d:J.length=B.length:=by rw[e.len,X.len]
 ext;exists l,c,rfl,⟨_,_,SqL.of G,M⟩,λD N=>?_;refine Ŋ (λi=>V.int ((B[i]?).getD 0*(J[i]?).getD 0)) (SqL.of G) M (by rw[be,be,d]) N (λi x y r z U hx R q b t j=>?_) (λr q b=>?_)
 .obtain⟨v1,v2,rfl⟩:=ykn j;let⟨w,rfl,L,Z,il⟩:=z6 hx;let⟨u,rfl,um,S,_⟩:=z6 R;have w1:=e.one w L;have w2:=e.top w L;have O:=q.trans (y7 (o:=HO.tup [V.int w,V.int u]) t);have f:=u8 (o':=HO.tup [V.int w,V.int u]) t b;have m:upd r z (HO.tup [V.int w,V.int u]) z=some (.tup [V.int w,V.int u]):=ya;generalize upd r z (HO.tup [V.int w,V.int u])=H3 at O f m;refine Ĭ (SqT.of m) rfl ?_;show zh (w8 0) (zh (w8 1) ylf) [V.int w,V.int u] (v1::v2::ud [] [some (V.ref p),some (V.ref c)]) H3 _;ext;exists⟨[some (.int w),some (.int u)],rfl,rfl⟩,?_;ext;refine Mp.doneR N (ve (by rw[be,e.len];omega)) (by rw[be];exact il) O f ?_;rw[Z,S];rfl
 .have b:=ydx b (yoy (g:=λw c=>w*c) d);have a0:=q _ _ hp;have I:=q _ _ G;have p1:=e.pos n1;have p2:=e.small Y;ext;exists D,_,rfl,SqL.of b,?_;ext;exists l,_,rfl,SqL.of I,?_;ext;exact k _ q
#synth Ř ["self","chances","bit","shares","whole","own","grown","dropped"] ["self","chances","bit"] yva
def yxy:vz P w K mg Γ (CXe P w) 5 a.Jc a.Ly ["self","chances","bit"] (yh9 K a a.By):=by
 exists T.Hm.F.okE,Ř,hr;let⟨p,dx,l,c,B,I,n,x,m,rfl,n1,n6,Y,hc,⟨hp,hl⟩,hq,ty,k1,k2⟩:=h;refine yh (yw (x4 (ĩ T) hr.m T.Cm yz (pa1 (pv 2)))) ?_;refine yh (ym6 (i:=3) (js:=[2]) (ys:=["bit"]) (xs:=["weight","chance"]) (g:=ywe K 2 (zh (w8 0) (zh (w8 1) ylf))) Ř.nd rfl rfl rfl (ypb rfl T.I7 (pac (yn (pv 0) rfl) (pa1 (pv 1)))) (λC s2 M fp=>(ym wq (pv 0) (x4 (yyt T) hr.m T.Ny vg (pac (pv 1) (pa1 (pv 2)))))) rfl (λC s2 M fp=>ĭ rfl (xf (vk (i:=0) (show List.Nodup ((["weight","chance"]:Τ)++(["bit"]:Τ)) by right) rfl (Or.inl rfl)) (xf (vk (i:=1) (show List.Nodup ((["weight","chance"]:Τ)++(["bit"]:Τ)) by right) rfl (Or.inl rfl)) À))) rfl (hyc:=(all_cons rfl yt)) (hrel:=(all_cons rfl yt))) ?_;refine yh (yo (i:=4) Ř.nd rfl (Or.inr rfl) (pcB (Ì rfl) T.Ed (pa1 (pv 3)))) ?_;refine yh (yo (i:=5) Ř.nd rfl (Or.inr rfl) (ym wq (vn rfl T.I8) (pcB yp T.Aa (pa1 (pv 3))))) ?_;refine yh (yd5 (i:=6) (js:=[4,5]) (ys:=["whole","own"]) Ř.nd rfl rfl rfl (vx (pv 3)) (λC s2 M fp=>(ym wc (ym wq (pv 2) (pv 0)) (pv 1))) rfl rfl (hyc:=(all_cons rfl (all_cons rfl yt))) (hrel:=(all_cons rfl (all_cons rfl yt)))) ?_;refine yh (yo (i:=7) Ř.nd rfl (Or.inr rfl) (pcB (ē rfl) T.I6 (pac (ym zy (ykp PySem.F.plainAttrs_int PySem.F.slot_int_bit_length PySem.F.type_int_bit_length ysk (pcB (Ì rfl) T.Ed (pa1 (pv 6)))) (vn rfl T.Ef)) (pa1 yg)))) ?_;exists _,(yc (y9 (pv 0) (wb (js:=[7]) (ys:=["dropped"]) rfl (vx (pv 6)) (λC s2 M fp=>(ym yo6 (pv 0) (pv 1))) rfl rfl (hyc:=(all_cons rfl yt)) (hrel:=(all_cons rfl yt))) rfl)),?_;exists 3,5;have q:I.length=B.length:=by rw[Y.len,hc.len]
 ext;exists x,m,rfl,ty,λhx=>?_,k2;let⟨b,rfl,b0,b1⟩:=yfc hx;have k:=k1 b rfl b0 b1;ext;exists l,c,rfl,⟨_,_,SqL.of hl,hq⟩,λD hD=>?_;refine Ŋ (λi=>V.int ((B[i]?).getD 0*giv ((I[i]?).getD 0) b)) (SqL.of hl) hq (by rw[be,be,q]) hD (λi x y M tt a7 hx N S2 d a0 W=>?_) (λM S2 d=>?_)
 .obtain⟨v1,v2,rfl⟩:=ykn W;let⟨w,rfl,wm,wi,il⟩:=z6 hx;let⟨u,rfl,um,ui,_⟩:=z6 N;have w1:=Y.one w wm;have w2:=Y.top w wm;have a3:=ye0 (yzv hc um);have a6:=ydc b0 b1;have L:=S2.trans (y7 (o:=HO.tup [V.int w,V.int u]) a0);have S:=u8 (o':=HO.tup [V.int w,V.int u]) a0 d;have X:upd M tt (HO.tup [V.int w,V.int u]) tt=some (.tup [V.int w,V.int u]):=ya;generalize upd M tt (HO.tup [V.int w,V.int u])=H3 at L S X;refine Ĭ (SqT.of X) rfl ?_;show zh (w8 0) (zh (w8 1) ylf) [V.int w,V.int u] (v1::v2::ud [2] [some (V.ref p),some (V.ref c),some (V.int b),none,none,none,none,none]) H3 _;ext;exists⟨[some (.int w),some (.int u)],rfl,rfl⟩,?_;ext;exists .int u,_,.int b,_,rfl,.int u,.int b,λz=>(by rw[a3]at z;cases z),λF z=>(by rw[a6]at z;cases z),λc' b' ec eb F F=>?_;cases ec;cases eb;ext;refine Mp.doneR hD (ve (by rw[be,Y.len];omega)) (by rw[be];exact il) L S ?_;rw[wi,ui];rfl
 .have d:M D=some (.lst ((shL B I b).map V.int)):=ydx d (yoy (g:=λw c=>w*giv c b) q);have j:(shL B I b).length=n:=by rw[ydf q.symm,Y.len]
  have a5:=S2 _ _ hp;have ek:lrn B I b=(grL (shL B I b)).map λv=>v/2^tOf (grL (shL B I b)).sum:=rfl;rw[ek]at k;generalize shL B I b=J at d j k;have eg:grL J=J.map λs=>31*(n:Int)*s+J.sum:=by rw[<- j];rfl
  ext;exists D,_,rfl,SqL.of d,?_;ext;refine x5 (SqL.of d) ?_;rw[be,j];ext;exists D,rfl,⟨_,SqL.of d⟩,λG hG=>?_;refine z9 (onI λs=>31*(n:Int)*s+J.sum) (SqL.of d) hG (λi y H3 N L f=>?_) (λH3 L f=>?_)
  .obtain⟨s',rfl,_,_,il⟩:=z6 N;show tOp _ _ _ (some (V.int s')::ud [4,5] [some (V.ref p),some (V.ref c),some (V.int b),some (V.ref D),some (V.int J.sum),some (V.int (31*(n:Int))),none,none]) H3 _;ext;exact Mp.done hG (ve (by rw[be,j];omega)) N L f rfl
  .rw[yi4,<- eg]at f;have a1:(grL J).length=n:=by rw[yjf,j]
   generalize grL J=O at f k a1;have R:=L _ _ a5;ext;exists G,_,rfl,SqL.of f,?_;ext;exists _,_,rfl,?_
   have et:(if (0:Int) > ((Builtin.Int.intBits O.sum:Nat):Int)-48 then (0:Int)else ((Builtin.Int.intBits O.sum:Nat):Int)-48)=((tOf O.sum:Nat):Int):=by
    show _=(((ynt O.sum)-48:Nat):Int);have e:Builtin.Int.intBits O.sum=ynt O.sum:=rfl;rw[e]
    split<;>omega
   rw[et];generalize tOf O.sum=t at k;ext;exists G,rfl,⟨_,SqL.of f⟩,λZ U=>?_;refine z9 (onI λv=>v/2^t) (SqL.of f) U (λi y H4 N S4 r=>?_) (λH4 S4 r=>?_)
   .obtain⟨s',rfl,_,_,il⟩:=z6 N;show tOp _ _ _ (some (V.int s')::ud [7] [some (V.ref p),some (V.ref c),some (V.int b),some (V.ref D),some (V.int J.sum),some (V.int (31*(n:Int))),some (V.ref G),some (V.int (t:Int))]) H4 _;ext;refine i_I (Int.natCast_nonneg t) ?_;exact Mp.done U (ve (by rw[be,a1];omega)) N S4 r rfl
   .rw[yi4]at r;have a8:=S4 _ _ R;ext;have nz:Z≠p:=λz=>by rw[z,R]at U;cases U
    have a4:=S2.trans (L.trans S4);exact k Z _ ((S2.trans L).free U) ⟨ya,yf nz r⟩ ((But.of a4).trans But.upd)
#synth yqj ["self","made"] ["self"] yuy
inductive ylq(a:Ads)(vs:Υ)(H:Hp)(Q:VK)(E':XK):Prop
 |mk(p dx l:x0)(ws:Ρ)(_:vs=[.ref p])(_:yg2 a p dx l ws H)(_:1<=ws.length)(_:ws.length<=6)(_:∀q dq l' H',H q=none->H l'=none->yg2 a q dq l' ws H'->yv H H'->Q (.ref q) H')
def vbi:vz P w K mg Γ CX0 3 a.Jd a.Lz ["self"] (ylq a):=by
 exists T.Hn.F.ok,yqj,y;let⟨p,I,l,v,rfl,⟨L,x⟩,N,G,k⟩:=h;exists 1,1,ye (yo (i:=1) yqj.nd rfl (Or.inl rfl) (Ğ T.Rz (yn5 T) y.m rfl T.Ry T.Ds.B .nil v7 (pa1 (pcB yp T.Aa (pa1 (yn (pv 0) rfl)))))) (ye (y9 (pv 1) (pcT w6 T.Af (pa1 (yn (pv 0) rfl))) rfl) (yc (yq (pv 1))));refine x5 (SqL.of x) ?_;rw[be];ext;intro q t n j J;exists q,t,v.length,rfl,N,G,ya,λU S u M1 M=>⟨rfl,?_⟩;have d:=å n j M;have c:=M1.o;have D:=d _ _ L;ext;refine û (SqL.of (d _ _ x)) λr hr0=>?_;exists hr0,H2,S2,er;have O:=S2 _ _ c;ext;have g:r≠q:=λz=>by rw[z,c]at hr0;cases hr0
 exact k q t r _ n (d.free hr0) ⟨ya,yf g er⟩ λb o e=>yf (yb e n) (S2 _ _ (d _ _ e))
#synth yyk ["self"] yvq
def Û.sqt{H H':Hp}{dx lk d:x0}{kd:Fin 3}{f:qi Int->qj Slt}{O:Ν}{m:Nat}(h:Û a H p dx lk d kd f O m)(B:ynx O H H'){t:x0}{xs:Υ}(e:SqT K H t xs):SqT K H' t xs:=by
 have i:∀o:HO,H t=some o->ywh o=false->H' t=some o:=λo g j=>B _ _ g λz=>by
  let⟨k,b,c⟩:=h.own t z;rw[g]at b;cases b;rw[j]at c;cases c
 rcases e with(e|⟨o,e⟩)|e
 .exact .inl (.inl (i _ e rfl))
 .exact .inl (.inr ⟨o,i _ e rfl⟩)
 .exact .inr e
def Û.up{H:Hp}{dx lk d:x0}{kd:Fin 3}{f:qi Int->qj Slt}{O:Ν}{m:Nat}(h:Û a H p dx lk d kd f O m)(hm:m<=m'):Û a H p dx lk d kd f O m':=by let⟨c,b,i,g,e⟩:=h.tb;exists h.me,h.own,h.np,h.dO,h.ky,c,b,i,bP g hm,e
def zz.mvT{H H':Hp}{k:x0}{x:V}{ps:Ρ}(h:zz K H k x ps)(h1:∀t xs,SqT K H t xs->SqT K H' t xs):zz K H' k x ps:=by let⟨t,a,c,b,d⟩:=h;exists t,h1 _ _ a,h1 _ _ c,b,d
def refs(g:Μ)(n:Nat):Υ:=(List.range n).map λi=>V.ref (g i)
def vt(g:Μ)(n:Nat):(refs g n).length=n:=by unfold refs;rw[be,bU]
def uw{g:Μ}{n:Nat}{x:V}(h:(refs g n)[i]?=some x):x=.ref (g i)/\i<n:=by
 have a:i<n:=by
  have:=(bv.mp h).1;rw[vt]at this;exact this
 unfold refs at h;rw[bn,cE a]at h;exists(bD h).symm,a
def x6(g:Μ)(n:Nat):refs g (n+1)=refs g n++[.ref (g n)]:=by unfold refs;rw[List.range_succ,bF];rfl
def xx{g h:Μ}{n:Nat}(e:∀i,i<n->g i=h i):refs g n=refs h n:=by unfold refs;exact List.map_congr_left λi a=>by rw[e i (cz.mp a)]
structure Bks(K:xr)(a:Ads)(H:Hp)(n:Nat)(bk dx lk dd:Μ)(kd:Ξ)(ps:Λ)(f:Α)(O:Β)(m:Nat):Prop where
 look:∀i,i<n->zz K H (lk i) (.str (kdS (kd i))) (ps i)
 b:∀i,i<n->Û a H (bk i) (dx i) (lk i) (dd i) (kd i) (f i) (O i) m
 dj:∀i j c,i<n->j<n->i≠j->O i c->¬O j c
 nb:∀i j,i<n->j<n->¬O i (bk j)
def AtS(H:Hp)(d:x0)(k:Ρ)(q:x0):Prop:=∀kvs,H d=some (.dT kvs)->zn kvs (kI k)=some (.ref q)
def Û.slot{H:Hp}{dx lk d:x0}{kd:Fin 3}{f:qi Int->qj Slt}{O:Ν}{m:Nat}{k:Ρ}{s:Slt}(h:Û a H p dx lk d kd f O m)(hf:f k=some s)(hq:AtS H d k q):∃dq,H q=some (oS a dq s)/\s.ok/\s.kind=kd/\O q:=by let⟨b,c,r,u,t,j,v⟩:=h.tb;let⟨n,l,i,o,g⟩:=j k s hf;have e:=hq b r;rw[n]at e;injection e with e;injection e with e;subst e;exists _,l,i,o,g
def Û.told{H H':Hp}{dx lk d:x0}{kd:Fin 3}{f:qi Int->qj Slt}{O:Ν}{m:Nat}{k:Ρ}{s:Slt}{b:Int}(h:Û a H p dx lk d kd f O m)(hf:f k=some s)(hq:AtS H d k q)(b0:0<=b)(b1:b<=1)
  (h3:H' q=some (oS a dq (s.see b))) (B:But q H H'):Û a H' p dx lk d kd (Ă f k (s.see b)) O m:=by
 have x:=h.me;let⟨r,l,v,h2,F,K,I⟩:=id h.tb;let⟨G,L,q3,T,J⟩:=K k s hf;have e:=hq r v;rw[G]at e;injection e with e;injection e with e;have E:p≠q:=λz=>h.np (by rw[z,<- e];exact J)
 have u:d≠q:=λz=>by
  let⟨C,S,A⟩:=ε a (l k).2 s;rw[e,<- z,v,A]at L;cases L
 exists B _ _ x E,λc P=>?_,h.np,h.dO,h.ky.mv v (B _ _ v u),r,λj=>if j=k then (q,dq)else l j,B _ _ v u,h2,λj i=>?_,λj n i=>?_,λy D s1 Z U e2 Q=>?_
 .obtain⟨o,X,hi⟩:=h.own c P;by_cases z:c=q
  .rw[z];let⟨C,S,A⟩:=ε a dq (s.see b);exists _,h3,by rw[A];rfl
  .exists o,B _ _ X z,hi
 .refine F j ?_;unfold Ă at i
  split at i
  .cases i
  .exact i
 .unfold Ă at i;by_cases z:j=k
  .rw[if_pos z]at i;cases i;subst z;dsimp only;rw[if_pos rfl];exists by rw[G,e],h3,Slt.see_ok q3 b0 b1,(ymm s b).trans T,e ▸ J
  .rw[if_neg z]at i;let⟨p1,R,M,W,N⟩:=K j n i;dsimp only;rw[if_neg z];exists p1,B _ _ R (λw=>z (I j k n s i hf (w.trans e.symm))),M,W,N
 .have g:∀j n,Ă f k (s.see b) j=some n->∃t,f j=some t:=λj n h=>by
   unfold Ă at h;by_cases z:j=k
   .exists s,by rw[z];exact hf
   .rw[if_neg z]at h;exists n,h
  let⟨t1,Y⟩:=g y s1 U;let⟨t2,f2⟩:=g D Z e2;refine I y D t1 t2 Y f2 ?_
  have yql:∀j,(if j=k then ((q,dq):x0×x0)else l j).1=(l j).1:=λj=>by
   by_cases z:j=k
   .rw[if_pos z,z];exact e.symm
   .rw[if_neg z]
  rw[<- yql y,<- yql D];exact Q
def AtS.told{H H':Hp}{dx lk d:x0}{kd:Fin 3}{f:qi Int->qj Slt}{O:Ν}{m:Nat}{k:Ρ}(h:Û a H p dx lk d kd f O m){r:x0}(hd:d≠r)(B:But r H H')(hq:AtS H d k q):AtS H' d k q:=λi e=>by
 let⟨b,g,c,_⟩:=h.tb;rw[B _ _ c hd]at e;cases e;exact hq _ c
section
variable{H H':Hp}{n m:Nat}{bk dx lk dd:Μ}{kd:Ξ}{ps:Λ}{f:Α}
theorem Bks.frame(h:Bks K a H n bk dx lk dd kd ps f O m){O2:Ν}(B:ynx O2 H H')(dj:∀i b,i<n->O i b->¬O2 b)(hp:∀i,i<n->¬O2 (bk i))(ht:∀t xs,SqT K H t xs->SqT K H' t xs):Bks K a H' n bk dx lk dd kd ps f O m :=
 ⟨λi c=>(h.look i c).mvT ht,λi c=>(h.b i c).frame B (λb d=>dj i b c d) (hp i c),h.dj,h.nb⟩
def Bks.same(h:Bks K a H n bk dx lk dd kd ps f O m)(S:yv H H'):Bks K a H' n bk dx lk dd kd ps f O m :=
 h.frame (O2:=λZ=>False) (λb o e Z=>S b o e) (λZ Z Z Z z=>z) (λZ Z z=>z) λZ Z e=>S.tup e
def Bks.move(h:Bks K a H n bk dx lk dd kd ps f O m)(hj:j<n){f':qi Int->qj Slt}{O':Ν}(hm:m<=m')(hb:Û a H' (bk j) (dx j) (lk j) (dd j) (kd j) f' O' m')(hO:∀c,O' c->O j c\/H c=none)(B:ynx (O j) H H'):
  Bks K a H' n bk dx lk dd kd ps (λi=>if i=j then f' else f i) (λi=>if i=j then O' else O i) m':=by
 have x:=h.b j hj
 have g:∀q c,q<n->q≠j->O q c->¬O' c:=λq c C A w E=>by
  rcases hO c E with v|v
  .exact h.dj q j c C hj A w v
  .obtain⟨o,D,_⟩:=(h.b q C).own c w;rw[v]at D;cases D
 exists λi d=>(h.look i d).mvT λt F e=>x.sqt B e,λi d=>?_,λi l c d r s p k=>?_,λi l d r e=>?_
 .try dsimp only
  by_cases z:i=j
  .subst z;rw[if_pos rfl,if_pos rfl];exact hb
  .rw[if_neg z,if_neg z];exact((h.b i d).frame B (λb y=>h.dj i j b d hj z y) (h.nb j i hj d)).up hm
 .try dsimp only at p k
  by_cases z1:i=j
  .rw[if_pos z1]at p;have u:l≠j:=λw=>s (z1.trans w.symm);rw[if_neg u]at k;exact g l c r u k p
  .rw[if_neg z1]at p;by_cases u:l=j
   .rw[if_pos u]at k;exact g i c d z1 p k
   .rw[if_neg u]at k;exact h.dj i l c d r s p k
 .try dsimp only at e
  by_cases z:i=j
  .rw[if_pos z]at e;rcases hO _ e with v|v
   .exact h.nb j l hj r v
   .rw[(h.b l r).me]at v;cases v
  .rw[if_neg z]at e;exact h.nb i l d r e
def AtS.move(h:Bks K a H n bk dx lk dd kd ps f O m)(hi:i<n)(hj:j<n)(hij:i≠j)(B:ynx (O j) H H'){k:Ρ}(hq:AtS H (dd i) k q):AtS H' (dd i) k q:=λl e=>by
 let⟨c,g,d,_⟩:=(h.b i hi).tb;rw[B _ _ d (h.dj i j _ hi hj hij (h.b i hi).dO)]at e;cases e;exact hq _ d
def Bks.nlst(h:Bks K a H n bk dx lk dd kd ps f O m){l:x0}{xs:Υ}(hl:H l=some (.lst xs)):∀i,i<n->¬O i l:=λi e z=>by
 let⟨o,d,c⟩:=(h.b i e).own l z;rw[hl]at d;cases d;cases c
end
def ylh(n:Nat)(kd:Ξ)(f:Α)(g:Nat->qi Int->Slt):Prop:=∀i,i<n->∀k,(f i k).getD (kd0 (kd i))=g i k
def ylh.put{n:Nat}{kd:Ξ}{f:Α}{g:Nat->qi Int->Slt}(h:ylh n kd f g)(j:Nat)(hj:j<n)(k:Ρ):ylh n kd (λi=>if i=j then Ă (f j) k ((f j k).getD (kd0 (kd j)))else f i) g:=λi b a=>by
 dsimp only;by_cases z:i=j
 .subst z;rw[if_pos rfl];unfold Ă;by_cases w:a=k
  .rw[if_pos w,w];exact h i b k
  .rw[if_neg w];exact h i b a
 .rw[if_neg z];exact h i b a
inductive ygj(K:xr)(a:Ads)(vs:Υ)(H:Hp)(Q:VK)(E':XK):Prop
 | mk(p dp ll bl mp el pl0:x0)(nd:Int)(sg:Ρ)(n m:Nat)(bk dx lk dd:Μ)(kd:Ξ)(ps:Λ)(f:Α)(O:Β)(g:Nat->qi Int->Slt)(_:vs=[.ref p])(_:H p=some (.ins a.A2 dp (zu (.ref ll) (.ref bl) (.ref mp) (.ref el) (.int nd) (.ref pl0))))(_:H bl=some (.lst (refs bk n)))(_:H el=some (.lst (sg.map V.int)))(_:Bks K a H n bk dx lk dd kd ps f O m)(_:ylh n kd f g)(_:n<=6)(_:m+10<1000000)(_:(∀i,i<n->¬O i p))(_:∀(pl:x0)(sl:Μ)(f':Α)(O':Β)(H':Hp),H' p=some (.ins a.A2 dp (zu (.ref ll) (.ref bl) (.ref mp) (.ref el) (.int nd) (.ref pl)))->H' pl=some (.lst (refs sl n))->H pl=none ->
  Bks K a H' n bk dx lk dd kd ps f' O' (m+n)->ylh n kd f' g->(∀j,j<n->(∃s,f' j (ctx (ps j) sg nd)=some s)/\AtS H' (dd j) (ctx (ps j) sg nd) (sl j))->(∀j c,j<n->O' j c->O j c\/H c=none) ->
  (∀c o,H c=some o->c≠p->(∀j,j<n->¬O j c)->H' c=some o)->(∀c o,H c=some o->∃o',H' c=some o')->Q .non H')
def ykk:vz P w K mg Γ CX0 5 a.Je a.M4 ["self"] (ygj K a):=by
 exists T.Cs.F.ok,yyk,hr;let⟨p,dp,ll,bl,mp,el,ab,N,X,n,m,bk,dx,lk,dd,kd,M,f,O,g,rfl,hp,W,a3,hB,hA,n6,hm,np,k⟩:=h;exists 1,0,yc (y9 (pv 0) (wb (js:=[0]) (ys:=["self"]) rfl (vx (yn (pv 0) rfl)) (λC s2 H2 fp=>(xg (pv 0) T.C6 T.Hj.m (vbp T) hr.m T.Hj.B .nil v7 (pac (yc7 (K:=K) rfl (pv 1) rfl) (pa1 (yc7 (K:=K) rfl (pv 1) rfl))))) rfl rfl (hyc:=(all_cons rfl yt)) (hrel:=(all_cons rfl yt))) rfl);exists bl,rfl,⟨_,SqL.of W⟩,λD R=>?_;have a8:=hB.nlst W;have aa:=hB.nlst a3;refine j3 (K:=K) (xs:=refs bk n) (λi G=>∃(u:Μ)(L:Α)(I:Β),G D=some (.lst (refs u i))/\Bks K a G n bk dx lk dd kd M L I (m+i)/\ylh n kd L g/\(∀j,j<i->(∃s,L j (ctx (M j) X N)=some s)/\AtS G (dd j) (ctx (M j) X N) (u j))/\
  (∀j c,j<n->I j c->O j c\/H c=none)/\(∀c o,H c=some o->(∀j,j<n->¬O j c)->G c=some o)/\(∀c o,H c=some o->∃o',G c=some o'))
  ⟨λF=>0,f,O,ya,hB.same (y7 R),hA,λj d=>absurd d (bI j),λj c F z=>.inl z,λc o e F=>u8 R e,λc o e=>⟨o,u8 R e⟩⟩ (λi G F z=>?_) (λi x G hx hi z=>?_) (λG z=>?_)
 .obtain⟨_,_,_,_,_,_,_,_,w,_⟩:=z;exact SqL.of (w _ _ W a8)
 .obtain⟨u,L,I,gD,r,gA,gS,gO,Y,gL⟩:=z;let⟨rfl,l⟩:=uw hx;have J:=Y _ _ hp np;have a7:=Y _ _ a3 aa;have ah:=(r.b i l).me;show ŀ _ _ _ _ _ _ _ (some (V.ref (bk i))::ud [0] [some (V.ref p)]) G _;ext;exists bk i,dx i,lk i,dd i,el,kd i,L i,I i,m+i,M i,X,N,rfl,r.b i l,by omega,r.look i l,SqL.of a7,λq O2 G2 a5 hv a0 ag B2=>?_
  have nD:=r.nlst gD;have y:G2 D=some (.lst (refs u i)):=B2 _ _ gD (nD i l);refine we (n:=(refs bk n).length) y (ve (by rw[vt];omega)) hi ?_;have M2:=r.move l (Nat.le_succ (m+i)) a5 a0 B2;have a6:=M2.nlst y;have U:∀c o,G2 c=some o->c≠D->upd G2 D (.lst (refs u i++[V.ref q])) c=some o:=λc o e S=>yf S e
  have M3:=M2.frame (O2:=λc=>c=D) (λc o e S=>U c o e S) (λj c d w z=>a6 j d (z ▸ w)) (λj d z=>by
   have:=(M2.b j d).me;rw[z,y]at this
   cases this) (λt xs e=>by
   rcases e with(e|⟨o,e⟩)|e
   .exact .inl (.inl (U _ _ e (λz=>by rw[z,y]at e;cases e)))
   .exact .inl (.inr ⟨o,U _ _ e (λz=>by rw[z,y]at e;cases e)⟩)
   .exact .inr e)
  have up:∀j,j<n->AtS G2 (dd j) (ctx (M j) X N) (if j=i then q else u j)->AtS (upd G2 D (.lst (refs u i++[V.ref q]))) (dd j) (ctx (M j) X N) (if j=i then q else u j):=λj d h =>
   h.told (M2.b j d) (λz=>a6 j d (by rw[<- z];exact(M2.b j d).dO)) (λc o e S=>U c o e S)
  exists λj=>if j=i then q else u j,_,_,?_,M3,gA.put i l _,λj d=>?_,λj c d w=>?_,λc o e no=>?_,λc o e=>?_
  .rw[ya,x6,if_pos rfl]
   congr 3
   exact xx λj d=>(if_neg (by omega)).symm
  .by_cases z:j=i
   .subst z;exists⟨(L j (ctx (M j) X N)).getD (kd0 (kd j)),?_⟩,up j l ?_
    .try dsimp only
     rw[if_pos rfl];unfold Ă;rw[if_pos rfl]
    .rw[if_pos rfl];exact hv
   .have a1:j<n:=by omega
    let⟨⟨s',a9⟩,ae⟩:=gS j (by omega);exists⟨s',?_⟩,up j a1 ?_
    .try dsimp only
     rw[if_neg z];exact a9
    .rw[if_neg z];exact ae.move r a1 l z B2
  .try dsimp only at w
   by_cases z:j=i
   .subst z;rw[if_pos rfl]at w;rcases a0 c w with v|v
    .exact gO j c d v
    .refine .inr ?_
     cases e:H c with
     |none=>rfl
     |some o =>
      let⟨o',w'⟩:=gL c o e;rw[w']at v;cases v
   .rw[if_neg z]at w;exact gO j c d w
  .have hG:=Y c o e no
   have nc:¬I i c:=λw=>by
    rcases gO i c l w with v|v
    .exact no i l v
    .rw[e]at v;cases v
   refine U _ _ (B2 _ _ hG nc) (λz=>?_);rw[z,R]at e;cases e
  .obtain⟨o1,w1⟩:=gL c o e;have a2:c≠D:=λz=>by rw[z,R]at e;cases e
   by_cases w2:I i c
   .obtain⟨o2,af,_⟩:=a5.own c (ag c w2);exists o2,U _ _ af a2
   .exists o1,U _ _ (B2 _ _ w1 w2) a2
 .obtain⟨u,L,I,gD,r,gA,gS,gO,Y,gL⟩:=z;rw[vt]at gD r gS;have J:=Y _ _ hp np;ext;have ac:D≠p:=λz=>by rw[z,hp]at R;cases R
  have Z:But p G (upd G p (.ins a.A2 dp (zu (.ref ll) (.ref bl) (.ref mp) (.ref el) (.int N) (.ref D)))):=But.upd
  have a4:∀i,i<n->¬I i p:=λi hi w=>by
   rcases gO i p hi w with v|v
   .exact np i hi v
   .rw[hp]at v;cases v
  have M3:=r.frame (O2:=λc=>c=p) (λc o e S=>Z c o e S) (λj c d w z=>a4 j d (z ▸ w)) (λj d z=>by
   have:=(r.b j d).me;rw[z,J]at this;injection this with this;injection this with _ _ e
   exact absurd (congrArg List.length e) (show ¬(6=2) by decide)) (λt xs e=>by
   rcases e with(e|⟨o,e⟩)|e
   .exact .inl (.inl (Z _ _ e (λz=>by rw[z,J]at e;cases e)))
   .exact .inl (.inr ⟨o,Z _ _ e (λz=>by rw[z,J]at e;cases e)⟩)
   .exact .inr e)
  refine k D u L I _ ya (yf ac gD) R M3 gA (λj d=>⟨(gS j d).1,(gS j d).2.told (r.b j d) (λz=>a4 j d (by rw[<- z];exact(r.b j d).dO)) Z⟩) gO (λc o e nc no=>Z _ _ (Y c o e no) nc) λc o e=>?_;by_cases zc:c=p
  .rw[zc];exists _,ya
  .obtain⟨o1,w1⟩:=gL c o e;exists o1,Z _ _ w1 zc
structure FA where
 dp:x0
 ll:x0
 bl:x0
 mp:x0
 mx:x0
 ml:x0
 el:x0
 pl:x0
 n:Nat
 bk:Μ
 dx:Μ
 lk:Μ
 dd:Μ
 sl:Μ
 kd:Ξ
 ps:Λ
structure FX where
 g:Nat->qi Int->Slt
 ws:Ρ
 sg:Ρ
 nd:Int
def FX.key(X:FX)(A:FA)(i:Nat):Ρ:=ctx (A.ps i) X.sg X.nd
def FX.cs(X:FX)(A:FA):Ρ:=(List.range A.n).map λi=>(X.g i (X.key A i)).due
def ndN(nd b:Int):Int:=if 0<nd then (if 256<=2*nd+b then 0 else 2*nd+b)else if b=1 then 1 else nd
def sgN(sg:Ρ)(nd b:Int):Ρ:=if 0<nd then (if 256<=2*nd+b then sg++[2*nd+b-256]else sg)else if b=1 then sg else []
def FX.see(X:FX)(A:FA)(b:Int):FX:={ g:=λi k=>if k=X.key A i then (X.g i k).see b else X.g i k,ws:=lrn X.ws (X.cs A) b,sg:=sgN X.sg X.nd b,nd:=ndN X.nd b}
structure u7(K:xr)(a:Ads)(H:Hp)(p:x0)(A:FA)(X:FX)(f:Α)(O:Β)(m:Nat):Prop where
 me:H p=some (.ins a.A2 A.dp (zu (.ref A.ll) (.ref A.bl) (.ref A.mp) (.ref A.el) (.int X.nd) (.ref A.pl)))
 bl:H A.bl=some (.lst (refs A.bk A.n))
 el:H A.el=some (.lst (X.sg.map V.int))
 mx:yg2 a A.mp A.mx A.ml X.ws H
 wok:WOk A.n X.ws
 pl:H A.pl=some (.lst (refs A.sl A.n))
 B:Bks K a H A.n A.bk A.dx A.lk A.dd A.kd A.ps f O m
 ag:ylh A.n A.kd f X.g
 at':∀j,j<A.n->(∃s,f j (X.key A j)=some s)/\AtS H (A.dd j) (X.key A j) (A.sl j)
 np:∀i,i<A.n->¬O i p
 nm:∀i,i<A.n->¬O i A.mp
 n1:1<=A.n
 n6:A.n<=6
theorem u7.same{H H':Hp}{A:FA}{X:FX}{f:Α}{m:Nat}(h:u7 K a H p A X f O m)(S:yv H H'):u7 K a H' p A X f O m :=
 ⟨S _ _ h.me,S _ _ h.bl,S _ _ h.el,h.mx.same S,h.wok,S _ _ h.pl,h.B.same S,h.ag,λj c=>⟨(h.at' j c).1,λk e=>by
  let⟨d,i,g,_⟩:=(h.B.b j c).tb;rw[S _ _ g]at e;cases e;exact(h.at' j c).2 _ g⟩,h.np,h.nm,h.n1,h.n6⟩
theorem u7.slot{H:Hp}{A:FA}{X:FX}{f:Α}{m:Nat}(h:u7 K a H p A X f O m)(hj:j<A.n):
  f j (X.key A j)=some (X.g j (X.key A j))/\(∃dq,H (A.sl j)=some (oS a dq (X.g j (X.key A j))))/\(X.g j (X.key A j)).ok/\O j (A.sl j):=by let⟨⟨s,d⟩,c⟩:=h.at' j hj;have e:=h.ag j hj (X.key A j);rw[d]at e;have e:s=X.g j (X.key A j):=e;rw[<- e];let⟨dq,l,k,o,i⟩:=(h.B.b j hj).slot d c;exists d,⟨dq,l⟩,k,i
def u7.cok{H:Hp}{A:FA}{X:FX}{f:Α}{m:Nat}(h:u7 K a H p A X f O m):COk A.n (X.cs A):=by
 exists by unfold FX.cs;rw[be,bU],λc b=>?_,λc b=>?_
 .obtain⟨j,d,rfl⟩:=bq.mp b;exact(yey (h.slot (cz.mp d)).2.2.1).1
 .obtain⟨j,d,rfl⟩:=bq.mp b;exact(yey (h.slot (cz.mp d)).2.2.1).2
def LkG.at'{H:Hp}{lk tp:x0}{kd:Fin 3}{ps:Ρ}(h:LkG H (.ref lk) kd tp ps):zz K H lk (.str (kdS kd)) ps:=by
 let⟨c,e,f,d,a⟩:=h;cases e;have a:=a;unfold jt at a;rw[bV,bV,List.all_eq_true]at a;exists tp,SqT.of f,SqT.of d,λp b=>?_,by have:=of_decide_eq_true a.1.1;rw[be]at this;exact this
 have w:=a.1.2 (.int p) (bq.mpr ⟨p,b,rfl⟩);have w:(decide (1<=p) && decide (p<=8))=true:=w;rw[bV]at w;exists of_decide_eq_true w.1,of_decide_eq_true w.2
def Bks.snoc{H:Hp}{n m:Nat}{bk dx lk dd:Μ}{kd:Ξ}{ps:Λ}{f:Α}(h:Bks K a H n bk dx lk dd kd ps f O m)
  (hl:zz K H (lk n) (.str (kdS (kd n))) (ps n)) {q dq d:x0} {f':qi Int->qj Slt} {O':Ν} (hb:Û a H q dq (lk n) d (kd n) f' O' m) (dj:∀j c,j<n->O j c->¬O' c) (n1:∀j,j<n->¬O j q) (n2:∀j,j<n->¬O' (bk j)):
  Bks K a H (n+1) (upN bk n q) (upN dx n dq) lk (upN dd n d) kd ps (upN f n f') (upN O n O') m:=by
 exists λi r=>?_,λi r=>?_,λi j c r s p o l=>?_,λi j r s e=>?_
 .by_cases z:i=n
  .rw[z];exact hl
  .exact h.look i (by omega)
 .by_cases z:i=n
  .subst z;rw[wo,wo,wo,wo,wo];exact hb
  .have g:i<n:=by omega
   rw[wj g,wj g,wj g,wj g,wj g];exact h.b i g
 .by_cases z:i=n
  .subst z;have k:j<i:=by omega
   rw[wo]at o;rw[wj k]at l;exact dj j c k l o
  .have g:i<n:=by omega
   rw[wj g]at o;by_cases w:j=n
   .subst w;rw[wo]at l;exact dj i c g o l
   .have k:j<n:=by omega
    rw[wj k]at l;exact h.dj i j c g k p o l
 .by_cases z:i=n
  .subst z;rw[wo]at e;by_cases w:j=i
   .subst w;rw[wo]at e;exact hb.np e
   .have k:j<i:=by omega
    rw[wj k]at e;exact n2 j k e
  .have g:i<n:=by omega
   rw[wj g]at e;by_cases w:j=n
   .subst w;rw[wo]at e;exact n1 i g e
   .have k:j<n:=by omega
    rw[wj k]at e;exact h.nb i j g k e
def ynz(K:xr)(a:Ads)(H G:Hp)(n:Nat)(bk dx lk dd:Μ)(kd:Ξ)(ps:Λ)(f:Α)(O:Β):Prop :=
 Bks K a G n bk dx lk dd kd ps f O 0/\(∀j k,j<n->f j k=none)/\(∀j c,j<n->O j c->H c=none)/\(∀j,j<n->H (bk j)=none)
def ynz.zero{H G:Hp}{bk dx lk dd:Μ}{kd:Ξ}{ps:Λ}{f:Α}:ynz K a H G 0 bk dx lk dd kd ps f O :=
 ⟨⟨λi b=>absurd b (bI i),λi b=>absurd b (bI i),λi Z Z b=>absurd b (bI i),λi Z b=>absurd b (bI i)⟩,λi Z b=>absurd b (bI i),λi Z b=>absurd b (bI i),λi b=>absurd b (bI i)⟩
def ynz.next{H G G2:Hp}{n:Nat}{bk dx lk dd:Μ}{kd:Ξ}{ps:Λ}{f:Α}(h:ynz K a H G n bk dx lk dd kd ps f O)(hl:zz K G (lk n) (.str (kdS (kd n))) (ps n))
  (S:yv H G) {q dq d D:x0} {xs ys:Υ} (hq:G q=none) (hd:G d=none) (S2:yv G G2) (hb:Û a G2 q dq (lk n) d (kd n) (λZ=>none) (λb=>b=d) 0) (hD:G D=some (.lst xs)):
  ynz K a H (upd G2 D (.lst ys)) (n+1) (upN bk n q) (upN dx n dq) lk (upN dd n d) kd ps (upN f n λZ=>none) (upN O n λb=>b=d):=by
 let⟨p,y,v,x⟩:=h;have l:∀j c,j<n->O j c->∃o,G c=some o:=λj c g w=>let ⟨o,m,_⟩:=(p.b j g).own c w;⟨o,m⟩
 have M:=(p.same S2).snoc (hl.same S2) hb (λj c g w z=>by
  let⟨o,m⟩:=l j c g w;rw[show c=d from z,hd]at m
  cases m) (λj g w=>by
  let⟨o,m⟩:=l j q g w;rw[hq]at m
  cases m) (λj g z=>by
  have e:=(p.b j g).me;rw[show bk j=d from z,hd]at e;cases e)
 have i:=S2 _ _ hD;have u:=M.nlst i;have r:∀c o,G2 c=some o->c≠D->upd G2 D (.lst ys) c=some o:=λc o e s=>yf s e;exists M.frame (O2:=λc=>c=D) (λc o e s=>r c o e s) (λj c g w z=>u j g (z ▸ w)) (λj g z=>?_) (λt xs e=>?_),λj k g=>?_,λj c g w=>?_,λj g=>?_
 .have e:=(M.b j g).me;rw[z,i]at e;cases e
 .rcases e with(e|⟨o,e⟩)|e
  .exact .inl (.inl (r _ _ e (λz=>by rw[z,i]at e;cases e)))
  .exact .inl (.inr ⟨o,r _ _ e (λz=>by rw[z,i]at e;cases e)⟩)
  .exact .inr e
 .by_cases z:j=n
  .rw[z,wo]
  .rw[wj (by omega)];exact y j k (by omega)
 .by_cases z:j=n
  .rw[z,wo]at w;rw[show c=d from w];exact S.free hd
  .rw[wj (by omega)]at w;exact v j c (by omega) w
 .by_cases z:j=n
  .rw[z,wo];exact S.free hq
  .rw[wj (by omega)];exact x j (by omega)
def ynz.ag{H G:Hp}{n:Nat}{bk dx lk dd:Μ}{kd:Ξ}{ps:Λ}{f:Α}(h:ynz K a H G n bk dx lk dd kd ps f O):ylh n kd f (λi Z=>kd0 (kd i)):=λi b k=>by
 rw[h.2.1 i k b];rfl
def FX0(n:Nat)(kd:Ξ):FX:={ g:=λi Z=>kd0 (kd i),ws:=List.replicate n 1099511627776,sg:=[],nd:=0}
def yng{g:Μ}{n:Nat}{x:V}(h:x∈refs g n):∃i,i<n/\x=.ref (g i):=by unfold refs at h;let⟨i,a,e⟩:=bq.mp h;exists i,cz.mp a,e.symm
def ux.lks{H:Hp}{n:Nat}{lk:Μ}{kd:Ξ}{ps:Λ}(h:ux H n lk kd tp ps):Lks H (refs lk n):=λy a=>by
 let⟨i,b,rfl⟩:=yng a;exists _,_,_,h i b
theorem u7.frame{H H':Hp}{A:FA}{X:FX}{f:Α}{m:Nat}(h:u7 K a H p A X f O m){O2:Ν}(B:ynx O2 H H')(hp:¬O2 p)(hm:¬O2 A.mp)(hb:∀i,i<A.n->¬O2 (A.bk i))
  (dj:∀i c,i<A.n->O i c->¬O2 c) (hl:∀l xs,(l=A.bl\/l=A.el\/l=A.ml\/l=A.pl)->H l=some (.lst xs)->H' l=some (.lst xs)) (ht:∀t xs,SqT K H t xs->SqT K H' t xs):u7 K a H' p A X f O m :=
 ⟨B _ _ h.me hp,hl _ _ (.inl rfl) h.bl,hl _ _ (.inr (.inl rfl)) h.el,⟨B _ _ h.mx.o hm,hl _ _ (.inr (.inr (.inl rfl))) h.mx.l⟩,h.wok,hl _ _ (.inr (.inr (.inr rfl))) h.pl,h.B.frame B (λi c s w=>dj i c s w) hb ht,h.ag,λj d=>⟨(h.at' j d).1,λr e=>by
  let⟨g,q,k,_⟩:=(h.B.b j d).tb;rw[B _ _ k (dj j _ d (h.B.b j d).dO)]at e;cases e;exact(h.at' j d).2 _ k⟩,h.np,h.nm,h.n1,h.n6⟩
def yti{G:Hp}{t c:x0}{xs ys zs:Υ}(hc:G c=some (.lst ys))(e:SqT K G t xs):SqT K (upd G c (.lst zs)) t xs:=by
 rcases e with(e|⟨o,e⟩)|e
 .exact .inl (.inl (yf (wz e hc (by intro z;cases z)) e))
 .exact .inl (.inr ⟨o,yf (wz e hc (by intro z;cases z)) e⟩)
 .exact .inr e
def u7.app{H:Hp}{R:x0}{A:FA}{X:FX}{f:Α}{m:Nat}{xs ys:Υ}(h:u7 K a H p A X f O m)(hR:H R=some (.lst xs))(hq:∀q,(q=A.bl\/q=A.el\/q=A.ml\/q=A.pl)->q≠R):u7 K a (upd H R (.lst ys)) p A X f O m:=by
 refine h.frame (O2:=λc=>c=R) (λc o e g=>yf g e) (λz=>?_) (λz=>?_) (λi d z=>?_) (λi c d w z=>h.B.nlst hR i d (z ▸ w)) (λl xs w e=>yf (hq l w) e) (λt xs e=>yti hR e)
 .have e:=h.me;rw[z,hR]at e;cases e
 .have e:=h.mx.o;rw[z,hR]at e;cases e
 .have e:=(h.B.b i d).me;rw[z,hR]at e;cases e
def vb1(n:Nat)(n1:1<=n)(n6:n<=6):WOk n (List.replicate n 1099511627776):=by refine⟨cF,λw h=>?_,λw h=>?_⟩<;>(rw[cB h];decide)
#synth vas ["self","looks"] ytl
structure vf8(K:xr)(a:Ads)(H H':Hp)(p:x0)(n:Nat)(lk:Μ)(kd:Ξ)(ps:Λ)(A:FA)(f:Α)(O:Β):Prop where
 ft:u7 K a H' p A (FX0 n kd) f O 6
 en:A.n=n
 elk:A.lk=lk
 ekd:A.kd=kd
 eps:A.ps=ps
 oO:∀j c,j<n->O j c->H c=none
 oB:∀j,j<n->H (A.bk j)=none
 oM:H A.mp=none
 oL:∀l,(l=A.bl\/l=A.el\/l=A.ml\/l=A.pl)->H l=none
 lo:H' A.ll=some (.lst (refs lk n))/\A.ll≠A.el/\H A.ll=none
inductive yd0(K:xr)(a:Ads)(vs:Υ)(H:Hp)(Q:VK)(E:XK):Prop
 | mk(p dp:x0)(x:V)(_:vs=[.ref p,x])(_:H p=some (.ins a.A2 dp []))(_:((vgb K H x/\∀H',yv H H'->E (.ref a.Fh) none H')\/∃(l:x0)(n:Nat)(lk:Μ)(kd:Ξ)(tp:Μ)(ps:Λ),x=.ref l/\H l=some (.lst (refs lk n))/\1<=n/\n<=6/\ux H n lk kd tp ps/\
  ∀A f O H',vf8 K a H H' p n lk kd ps A f O->But p H H'->Q .non H'))
def yb0:vz P w K mg Γ (CXe P w) 6 a.Gm a.M0 ["self","looks"] (yd0 K a):=by
 exists T.Cn.F.okE,vas,hr;let⟨p,f,x,rfl,hp,h⟩:=h;refine yh (y9 (pv 0) (x4 (yoz T) hr.m T.Hi yz (pa1 (pv 1))) rfl) ?_;refine yh (y9 (pv 0) (wb (js:=[]) (ys:=[]) rfl (vx (yn (pv 0) rfl)) (λC s2 H2 fp=>(Ğ T.Pe (yp5 T) hr.m rfl T.Pb T.Dr.B .nil v7 (pa1 (pv 0)))) rfl rfl (hyc:=yt) (hrel:=yt)) rfl) ?_;refine yh (y9 (pv 0) (Ğ T.Rz (yn5 T) hr.m rfl T.Ry T.Ds.B .nil v7 (pa1 (pcB yp T.Aa (pa1 (yn (pv 0) rfl))))) rfl) ?_;refine yh (y9 (pv 0) (xc uo) rfl) ?_;refine yh (y9 (pv 0) yg rfl) ?_;refine yh (y9 (pv 0) (xc uo) rfl) ?_;exists 2,0,yc (yw (vv (pv 0) T.Ac T.Cs.m (ykk T) hr.m T.Cs.B .nil v7));rcases h with⟨hb,k⟩|⟨l,n,lk,kd,tp,ps,rfl,hl,n1,n6,ap,k⟩
 .rcases hb with⟨nm,ty,hn⟩|⟨l,xs,bs,rfl,hl,hz,aJ,no⟩
  .exact .inl ⟨x,nm,rfl,ty,hn,k _ (yv.refl _)⟩
  .exact .inr ⟨l,xs,bs,rfl,hl,hz,aJ,λz=>absurd z no,λF H' S=>k _ S⟩
 .refine .inr ⟨l,refs lk n,List.replicate (refs lk n).length true,rfl,hl,by rw[vt];omega,ap.lks.bs,λF g H1 aj aA S1=>?_,λno=>absurd ⟨by rw[vt];exact n1,by rw[vt];exact n6,yji _⟩ no⟩;have b0:=S1 _ _ hp;have aW:=ap.same S1;ext;have X:upd H1 p (HO.ins a.A2 f ([("looks",V.ref g)]:Ι)) p=some (HO.ins a.A2 f ([("looks",V.ref g)]:Ι)):=ya;have BA:But p H1 (upd H1 p (HO.ins a.A2 f ([("looks",V.ref g)]:Ι))):=But.upd;have a2:g≠p:=(yb hp aj).symm;have I:upd H1 p (HO.ins a.A2 f ([("looks",V.ref g)]:Ι)) g=some (.lst (refs lk n)):=yf a2 aA;generalize upd H1 p (HO.ins a.A2 f ([("looks",V.ref g)]:Ι))=HA at X BA I⊢;have a6:But p H HA:=(But.of S1).trans BA
  have aI:ux HA n lk kd tp ps:=λi hi=>by
   let⟨q,e,h1,h2,h3⟩:=ap i hi;exists q,e,a6 _ _ h1 (wz h1 hp (by intro z;cases z)),a6 _ _ h2 (wz h2 hp (by intro z;cases z)),h3
  exists p,_,f,_,_,rfl,X,T.Ac,T.Av,rfl,?_;exists g,rfl,⟨_,SqL.of I⟩,λu Z=>?_;refine ul (K:=K) (xs:=refs lk n) (λi G=>∃(bk dx dd:Μ)(f2:Α)(O2:Β),G u=some (.lst (refs bk i))/\ynz K a HA G i bk dx lk dd kd ps f2 O2/\yv HA G)
   ⟨λF=>0,λF=>0,λF=>0,λF F=>none,λF F=>False,ya,ynz.zero,y7 Z⟩ (λi G F z=>?_) (λi y G hy hi z=>?_) (λG z=>?_)
  .obtain⟨_,_,_,_,_,_,_,SG⟩:=z;exact SqL.of (SG _ _ I)
  .obtain⟨bk,dx,dd,f2,O2,ab,gN,SG⟩:=z;let⟨rfl,aH⟩:=uw hy;ext;intro q dq nq aO aY;have SQ:yv G (upd (upd G dq (.own q)) q (.ins a.Ab dq [])):=λb o e=>by rw[yk (yb e nq),yk (yb e aO)];exact e
   exists q,dq,lk i,kd i,rfl,ya,λd G2 aS aU B2=>⟨rfl,?_⟩;have au:yv G G2:=λb o e=>B2 b o (SQ b o e) (yb e nq);refine we (n:=(refs lk n).length) (au _ _ ab) (ve (by rw[vt];omega)) hi ?_;exists _,_,_,_,_,?_,gN.next ((aI i aH).same SG).at' SG nq (SQ.free aS) au aU ab,λb o e=>yf (yb e Z) (au _ _ (SG b o e));rw[ya,x6,wo]
   congr 3
   exact xx λj r=>(wj r).symm
  let⟨bk,dx,dd,f2,O2,ab,gN,SG⟩:=z;rw[vt]at ab gN;have aE:=SG _ _ X;ext;have ax:∀c o,HA c=some o->c≠p->upd G p (HO.ins a.A2 f ([("looks",V.ref g),("books",V.ref u)]:Ι)) c=some o:=λc o e J=>yf J (SG _ _ e);have aa:upd G p (HO.ins a.A2 f ([("looks",V.ref g),("books",V.ref u)]:Ι)) p=some (HO.ins a.A2 f ([("looks",V.ref g),("books",V.ref u)]:Ι)):=ya;have ad:u≠p:=(yb X Z).symm;have ak:upd G p (HO.ins a.A2 f ([("looks",V.ref g),("books",V.ref u)]:Ι)) u=some (.lst (refs bk n)):=yf ad ab;have BP:∀{fs:Ι},But p G (upd G p (HO.ins a.A2 f fs)):=But.upd
  have ae:∀j,j<n->¬O2 j p:=λj r w=>by
   have e:=gN.2.2.1 j p r w;rw[X]at e;cases e
  have az:∀{G':Hp},But p G G'->Bks K a G' n bk dx lk dd kd ps f2 O2 0:=λ{G'}B=>gN.1.frame (O2:=λc=>c=p) (λc o e J=>B c o e J) (λj c r w z=>ae j r (z ▸ w)) (λj r z=>by
   have e:=gN.2.2.2 j r;rw[z,X]at e
   cases e) (λt xs e=>by
   rcases e with(e|⟨o,e⟩)|e
   .exact .inl (.inl (B _ _ e (λz=>by rw[z,aE]at e;cases e)))
   .exact .inl (.inr ⟨o,B _ _ e (λz=>by rw[z,aE]at e;cases e)⟩)
   .exact .inr e)
  have BB:But p G (upd G p (HO.ins a.A2 f ([("looks",V.ref g),("books",V.ref u)]:Ι))):=But.upd;generalize upd G p (HO.ins a.A2 f ([("looks",V.ref g),("books",V.ref u)]:Ι))=HB at ax aa ak BB⊢;exists p,_,f,_,_,rfl,aa,T.Ac,T.Av,rfl,?_;refine x5 (SqL.of (ax _ _ I a2)) ?_;rw[vt];ext;intro D mx a8 aL aZ;have SM:yv HB (upd (upd HB mx (.own D)) D (.ins a.Bf mx [])):=λb o e=>by rw[yk (yb e a8),yk (yb e aL)];exact e
  exists D,mx,n,rfl,n1,n6,ya,λml HC aF MC BC=>⟨rfl,?_⟩;have SC:yv HB HC:=λb o e=>BC b o (SM b o e) (yb e a8);have aX:=SC _ _ aa;have ay:=SC _ _ ak;have a5:HB ml=none:=SM.free aF;have O:D≠p:=(yb aa a8).symm;have a1:ml≠p:=(yb aa a5).symm;ext;exists by walk_at "len",λM a0=>?_
  have U:M≠p:=λz=>by rw[z,ya]at a0;cases a0
  have W:HC M=none:=by rw[yk U]at a0;exact a0
  have aK:upd (upd HC p (HO.ins a.A2 f ([("looks",V.ref g),("books",V.ref u),("mixer",V.ref D)]:Ι))) M (.lst []) p=some (HO.ins a.A2 f ([("looks",V.ref g),("books",V.ref u),("mixer",V.ref D)]:Ι)):=yf U.symm ya;have al:upd (upd HC p (HO.ins a.A2 f ([("looks",V.ref g),("books",V.ref u),("mixer",V.ref D)]:Ι))) M (.lst []) M=some (.lst []):=ya;have BD:But p HC (upd (upd HC p (HO.ins a.A2 f ([("looks",V.ref g),("books",V.ref u),("mixer",V.ref D)]:Ι))) M (.lst [])):=λb o e J=>yf (yb e W) (yf J e);generalize upd (upd HC p (HO.ins a.A2 f ([("looks",V.ref g),("books",V.ref u),("mixer",V.ref D)]:Ι))) M (.lst [])=HD at aK al BD⊢;ext;exists by walk_at "len",λL Y=>?_
  have am:L≠p:=λz=>by rw[z,ya]at Y;cases Y
  have ao:HD L=none:=by rw[yk am,yk am]at Y;exact Y
  have aR:upd (upd (upd HD p (HO.ins a.A2 f ([("looks",V.ref g),("books",V.ref u),("mixer",V.ref D),("ended",V.ref M)]:Ι))) p (HO.ins a.A2 f ([("looks",V.ref g),("books",V.ref u),("mixer",V.ref D),("ended",V.ref M),("place",V.int 0)]:Ι))) L (.lst []) p=some (HO.ins a.A2 f ([("looks",V.ref g),("books",V.ref u),("mixer",V.ref D),("ended",V.ref M),("place",V.int 0)]:Ι)):=yf am.symm ya;have BE:But p HD (upd (upd (upd HD p (HO.ins a.A2 f ([("looks",V.ref g),("books",V.ref u),("mixer",V.ref D),("ended",V.ref M)]:Ι))) p (HO.ins a.A2 f ([("looks",V.ref g),("books",V.ref u),("mixer",V.ref D),("ended",V.ref M),("place",V.int 0)]:Ι))) L (.lst [])):=λb o e J=>yf (yb e ao) (yf J (yf J e));generalize upd (upd (upd HD p (HO.ins a.A2 f ([("looks",V.ref g),("books",V.ref u),("mixer",V.ref D),("ended",V.ref M)]:Ι))) p (HO.ins a.A2 f ([("looks",V.ref g),("books",V.ref u),("mixer",V.ref D),("ended",V.ref M),("place",V.int 0)]:Ι))) L (.lst [])=HE at aR BE⊢;ext;have BF:But p HE (upd HE p (.ins a.A2 f (zu (.ref g) (.ref u) (.ref D) (.ref M) (.int 0) (.ref L)))):=But.upd;have a7:upd HE p (.ins a.A2 f (zu (.ref g) (.ref u) (.ref D) (.ref M) (.int 0) (.ref L))) p=some (.ins a.A2 f (zu (.ref g) (.ref u) (.ref D) (.ref M) (.int 0) (.ref L))):=ya;generalize upd HE p (.ins a.A2 f (zu (.ref g) (.ref u) (.ref D) (.ref M) (.int 0) (.ref L)))=HF at a7 BF⊢;have af:But p HC HF:=(BD.trans BE).trans BF;have a3:But p G HF:=λb o e J=>af b o (SC _ _ (BB b o e J)) J;have aG:=af _ _ MC.o O;have aB:=af _ _ MC.l a1;have aq:=af _ _ ay ad;have as:=BF _ _ (BE _ _ al U) U;exists p,f,g,u,D,M,L,0,[],n,0,bk,dx,lk,dd,kd,ps,f2,O2,λi F=>kd0 (kd i),rfl,a7,aq,as,az a3,gN.ag,n6,by omega,ae,λpl sl f' O' H' aP aV ah B' aM aT ac F' L'=>?_
  have a9:∀{c:x0},c≠p->HF c=none->G c=none:=λ{c}J h=>by
   cases e:G c with
   |none=>rfl
   |some o=>rw[a3 _ _ e J]at h;cases h
  have an:∀j c,j<n->O2 j c->∃o,G c=some o:=λj c r w=>let ⟨o,ho,_⟩:=(gN.1.b j r).own c w;⟨o,ho⟩
  have nO:∀{c:x0}{o:HO},HF c=some o->ywh o=false->∀j,j<n->¬O2 j c:=λ{c o}e hi j r w=>by
   let⟨o',aC,aw⟩:=((az a3).b j r).own c w;rw[e]at aC;cases aC;rw[hi]at aw;cases aw
  have aD:∀j,j<n->¬O2 j D:=λj r w=>by
   let⟨o,ho⟩:=an j D r w;have e:=BB _ _ ho O;rw[a8]at e;cases e
  have N:∀{c:x0},c≠p->HA c=none->H c=none:=λ{c}J h=>by
   cases e:H c with
   |none=>rfl
   |some o=>rw[a6 _ _ e J]at h;cases h
  have R:∀{c:x0},G c=none->HA c=none:=λ{c}h=>SG.free h
  have a4:∀{c:x0},c≠p->HB c=none->G c=none:=λ{c}J h=>by
   cases e:G c with
   |none=>rfl
   |some o=>rw[BB _ _ e J]at h;cases h
  have av:∀{c:x0},HC c=none->HB c=none:=λ{c}h=>SC.free h;refine k ⟨f,g,u,D,mx,ml,M,pl,n,bk,dx,lk,dd,sl,kd,ps⟩ f' O' H' ⟨⟨aP,F' _ _ aq ad (nO aq rfl),F' _ _ as U (nO as rfl),⟨F' _ _ aG O aD,F' _ _ aB a1 (nO aB rfl)⟩,?_,aV,⟨B'.look,λi hi=>(B'.b i hi).up (by omega),B'.dj,B'.nb⟩,aM,aT,λj r w=>?_,λj r w=>?_,n1,n6⟩,rfl,rfl,rfl,rfl,λj c r w=>?_,λj r=>?_,?_,λc hc=>?_,F' _ _ (a3 _ _ (SG _ _ I) a2) a2 (nO (a3 _ _ (SG _ _ I) a2) rfl),yb (SC _ _ (BB _ _ (SG _ _ I) a2)) W,aj⟩ ?_
  .exact vb1 n n1 n6
  .rcases ac j p r w with v|v
   .exact ae j r v
   .rw[a7]at v;cases v
  .rcases ac j D r w with v|v
   .exact aD j r v
   .rw[aG]at v;cases v
  .have ar:c≠p:=λz=>by
    rw[z]at w;rcases ac j p r w with v|v
    .exact ae j r v
    .rw[a7]at v;cases v
   rcases ac j c r w with v|v
   .exact N ar (gN.2.2.1 j c r v)
   .exact N ar (R (a9 ar v))
  .have aN:bk j≠p:=λz=>by
    have e:=gN.2.2.2 j r;rw[z,X]at e;cases e
   exact N aN (gN.2.2.2 j r)
  .exact N O (R (a4 O a8))
  .rcases hc with z|z|z|z
   .rw[z];exact N ad Z
   .rw[z];exact N U (R (a4 U (av W)))
   .rw[z];exact N a1 (R (a4 a1 a5))
   .rw[z];have ai:pl≠p:=(yb a7 ah).symm;exact N ai (R (a9 ai ah))
  .intro c o e J;refine F' c o (a3 _ _ (SG _ _ (a6 c o e J)) J) J λj r w=>?_;have e2:=gN.2.2.1 j c r w;rw[a6 c o e J]at e2;cases e2
theorem yde:∀(ts:Ρ)(q j:Nat)(s:Int),ts[q]?=some s->j<=8->(dec ts)[9*q+j]?=(1::b8 s)[j]?
 |[],_,_,_,h,_=>by simp at h
 |t::r,0,j,s,h,hj=>by
  have e:t=s:=by simpa using h
  subst e;show ((1::b8 t)++dec r)[9*0+j]?=_;rw[Nat.mul_zero,Nat.zero_add,List.getElem?_append_left (by rw[bW,yqg];omega)]
 |t::r,q+1,j,s,h,hj=>by
  have b:r[q]?=some s:=by simpa using h
  show ((1::b8 t)++dec r)[9*(q+1)+j]?=_;have a:(1::b8 t).length=9:=rfl;rw[cI (by rw[a];omega),a,show 9*(q+1)+j-9=9*q+j by omega];exact yde r q j s b hj
def ys1(ts:Ρ):(dec ts)[9*ts.length]?=some 0:=by rw[yns,cI (by rw[j7];exact bj _),j7,Nat.sub_self];rfl
def yao(ts:Ρ)(k:Nat)(sg:Ρ)(nd:Int):Prop:=∃q j:Nat,k=9*q+j/\j<=8/\sg=ts.take q/\((j=0/\nd=0/\q<=ts.length)\/(1<=j/\∃s,ts[q]?=some s/\nd=(256+s)/2^(9-j)))
def vdv{s P c:Int}(h:0<=s/\s<=255)(hP:2<=P)(hc:P*(2*c)=256)(c1:1<=c/\c<=64):0<(256+s)/(2*P)/\2*((256+s)/(2*P))+s/P%2<256/\2*((256+s)/(2*P))+s/P%2=(256+s)/P:=by
 have a:(256+s)/P=s/P+2*c:=by rw[<- hc,Int.add_comm,Int.add_mul_ediv_left _ _ (by omega)]
 have b:(256+s)/(2*P)=(s/P+2*c)/2:=by rw[<- a,Int.ediv_ediv_of_nonneg (show 0<=P by omega),Int.mul_comm]
 have d:=Int.ediv_nonneg h.1 (show 0<=P by omega);have e:=Int.ediv_lt_of_lt_mul (show 0<P by omega) (show s<128*P by omega);rw[a,b];generalize s/P=y at d e;clear hc a b hP h;omega
def nd9{s:Int}(h:0<=s/\s<=255)(h1:1<=j)(hj:j<=8):0<(256+s)/2^(9-j)/\(256+s)/2^(9-j)<256:=by
 have a:∀j,j<9->1<=j->(2:Int)<=2^(9-j)/\(2:Int)^(9-j)<=256:=by decide
 let⟨b,c⟩:=a j (Nat.lt_succ_of_le hj) h1;generalize (2:Int)^(9-j)=K at b c;exists Int.le_ediv_of_mul_le (by omega) (by omega),Int.ediv_lt_of_lt_mul (by omega) (by omega)
def yao.zero(ts:Ρ):yao ts 0 [] 0:=⟨0,0,rfl,by omega,by simp,.inl ⟨rfl,rfl,bJ _⟩⟩
theorem yao.nd{k:Nat}{sg:Ρ}{nd:Int}(h:yao ts k sg nd)(hs:Sgs ts):0<=nd/\nd<256:=by
 let⟨q,j,_,e,_,h⟩:=h;rcases h with⟨_,h,_⟩|⟨d,s,c,h⟩
 .omega
 .obtain⟨a,b⟩:=nd9 (hs s (bA c)) d e;rw[h];exists Int.le_of_lt a,b
def yao.len{k:Nat}{sg:Ρ}{nd:Int}(h:yao ts k sg nd):sg.length<=ts.length:=by let⟨q,j,_,_,a,_⟩:=h;rw[a,bH];omega
def yao.next{k:Nat}{sg:Ρ}{nd b:Int}(h:yao ts k sg nd)(hs:Sgs ts)(hb:(dec ts)[k]?=some b):
  (k<9*ts.length/\yao ts (k+1) (sgN sg nd b) (ndN nd b))\/(k=9*ts.length/\sgN sg nd b=[]/\ndN nd b=0):=by
 let⟨q,j,p,w,g,h⟩:=h;rcases h with⟨v,d,B⟩|⟨C,s,a,d⟩
 .subst v;rcases Nat.lt_or_ge q ts.length with m|m
  .refine .inl ⟨by omega,?_⟩;have e:=yde ts q 0 ts[q] (bg m) (by omega);rw[<- p,hb]at e;have e:b=1:=by simpa using e
   have:=hs ts[q] (cc m);unfold sgN ndN;rw[if_neg (by omega),if_pos e,if_neg (by omega),if_pos e];exists q,1,by omega,by omega,g,.inr ⟨by omega,ts[q],bg m,?_⟩
   simp only[Nat.reduceSub,Int.reducePow];omega
  .have r:q=ts.length:=by omega
   have e:=ys1 ts;rw[<- r,show 9*q=k by omega,hb]at e;have e:b=0:=by simpa using e
   refine .inr ⟨by omega,?_,?_⟩
   .unfold sgN;rw[if_neg (by omega),if_neg (by omega)]
   .unfold ndN;rw[if_neg (by omega),if_neg (by omega)];exact d
 .have n:=hs s (bA a);have m:q<ts.length:=(bv.mp a).1;have e:=yde ts q j s a w;rw[<- p,hb]at e
  have l:some b=(b8 s)[j-1]?:=by
   obtain⟨i,rfl⟩:∃i,j=i+1:=⟨j-1,by omega⟩;simpa using e
  refine .inl ⟨by omega,?_⟩;by_cases h8:j=8
  .subst h8;have l:b=s/1%2:=bD l;simp only[Nat.reduceSub,Int.reducePow]at d;have A:2*nd+b=256+s:=by omega
   unfold sgN ndN;rw[if_pos (by omega),if_pos (by omega),if_pos (by omega),if_pos (by omega)];exists q+1,0,by omega,by omega,?_,.inl ⟨rfl,rfl,by omega⟩
   rw[g,show 2*nd+b-256=s by omega,zv a]
  .have o:0<nd/\2*nd+b<256/\2*nd+b=(256+s)/2^(9-(j+1)):=by
    have k:∀P c:Int,2<=P->P*(2*c)=256->1<=c/\c<=64->nd=(256+s)/(2*P)->b=s/P%2->0<nd/\2*nd+b<256/\2*nd+b=(256+s)/P:=λP c x y z e f=>by
     rw[e,f];exact vdv n x y z
    clear p hb e g m hs;obtain rfl|rfl|rfl|rfl|rfl|rfl|rfl:j=1\/j=2\/j=3\/j=4\/j=5\/j=6\/j=7:=by omega
    .exact k 128 1 (by decide) rfl (by decide) d (bD l)
    .exact k 64 2 (by decide) rfl (by decide) d (bD l)
    .exact k 32 4 (by decide) rfl (by decide) d (bD l)
    .exact k 16 8 (by decide) rfl (by decide) d (bD l)
    .exact k 8 16 (by decide) rfl (by decide) d (bD l)
    .exact k 4 32 (by decide) rfl (by decide) d (bD l)
    .exact k 2 64 (by decide) rfl (by decide) d (bD l)
   let⟨t,D,u⟩:=o;unfold sgN ndN;rw[if_pos t,if_neg (by omega),if_pos t,if_neg (by omega)];exists q,j+1,by omega,by omega,g,.inr ⟨by omega,s,a,u⟩
theorem u7.up{H:Hp}{A:FA}{X:FX}{f:Α}{m:Nat}(h:u7 K a H p A X f O m)(hm:m<=m'):u7 K a H p A X f O m' :=
 ⟨h.me,h.bl,h.el,h.mx,h.wok,h.pl,⟨h.B.look,λi c=>(h.B.b i c).up hm,h.B.dj,h.B.nb⟩,h.ag,h.at',h.np,h.nm,h.n1,h.n6⟩
structure Lw(K:xr)(a:Ads)(H:Hp)(p:x0)(A:FA)(X:FX)(f:Α)(O:Β)(m:Nat)(bk dx dd:Μ)(f2:Α)(O2:Β)(mp mx ml:x0)(ws:Ρ):Prop where
 ft:u7 K a H p A X f O m
 bs:Bks K a H A.n bk dx A.lk dd A.kd A.ps f2 O2 m
 mx:yg2 a mp mx ml ws H
 dj:∀i j c,i<A.n->j<A.n->O i c->¬O2 j c
 n1:∀i j,i<A.n->j<A.n->¬O i (bk j)
 n2:∀i j,i<A.n->j<A.n->¬O2 i (A.bk j)
 n3:∀i,i<A.n->¬O2 i p/\¬O2 i A.mp/\¬O2 i mp/\¬O i mp
 n4:mp≠A.mp
 n5:ml≠A.el
section
variable{H H':Hp}{A:FA}{X:FX}{f:Α}{m:Nat}{bk dx dd:Μ}{f2:Α}{mp mx ml:x0}{ws:Ρ}
def zd{C d e:x0}{fs gs:Ι}(hp:H p=some (.ins C d fs))(hq:H q=some (.ins D e gs))(hl:fs.length≠gs.length):p≠q:=λz=>by
 rw[z,hq]at hp;injection hp with hp;injection hp with _ _ e;exact hl (congrArg List.length e).symm
end
def KpA(B G:Hp)(e0 e:x0):Prop:=∀c o,B c=some o->ywh o=false->c≠e0->c≠e/\G c=some o
theorem KpA.lst{B G:Hp}{e0 e c:x0}{xs:Υ}(h:KpA B G e0 e)(hc:B c=some (.lst xs))(ne:c≠e0):G c=some (.lst xs):=(h c _ hc rfl ne).2
def TxE(ts:Ρ)(k:Nat)(sg:Ρ)(nd:Int):Prop:=(k<=9*ts.length/\yao ts k sg nd)\/(k=9*ts.length+1/\sg=[]/\nd=0)
theorem TxE.next{k:Nat}{sg:Ρ}{nd b:Int}(h:TxE ts k sg nd)(hs:Sgs ts)(hb:(dec ts)[k]?=some b):yao ts k sg nd/\TxE ts (k+1) (sgN sg nd b) (ndN nd b):=by
 rcases h with⟨c,h⟩|⟨c,_⟩
 .exists h,?_;rcases h.next hs hb with⟨e,a⟩|⟨e,a,d⟩
  .exact .inl ⟨by omega,a⟩
  .exact .inr ⟨by omega,a,d⟩
 .rw[c,ce (by rw[xm];exact bj _)]at hb;cases hb
#synth yy6 ["self"] yvp
inductive yci(K:xr)(a:Ads)(vs:Υ)(H:Hp)(Q:VK)(E':XK):Prop
 |mk(p:x0)(A:FA)(X:FX)(f:Α)(O:Β)(m:Nat)(_:vs=[.ref p])(_:u7 K a H p A X f O m)(_:∀r H',H r=none->H' r=some (.lst ((X.cs A).map V.int))->yv H H'->Q (.ref r) H')
def yju:vz P w K mg Γ CX0 2 a.Jf a.M5 ["self"] (yci K a):=by
 exists T.Ct.F.ok,yy6,e;let⟨p,c,X,f,O,m,rfl,h,k⟩:=h;have L:=h.me;have J:=h.n6;exists 1,0,yc (yq (wb (js:=[]) (ys:=[]) rfl (vx (yn (pv 0) rfl)) (λC M r R=>(Ŗ (vv (pv 0) T.Ba T.Gy.m (vae T) e.m T.Gy.B .nil v7) (Ŗ (vv (pv 0) T.Bz T.Hb.m (va8 T) e.m T.Hb.B .nil v7) (vv (pv 0) T.C5 T.He.m (yw2 T) e.m T.He.B .nil v7)))) rfl rfl (hyc:=yt) (hrel:=yt)));exists c.pl,rfl,⟨_,SqL.of h.pl⟩,λD o=>?_;refine ul (K:=K) (xs:=refs c.sl c.n) (Mp H D (λi=>V.int (X.g i (X.key c i)).due)) (Mp.zero o) (λZ Z Z q=>q.1.seq (SqL.of h.pl)) (λi y r t z q=>?_) (λr q=>?_)
 .obtain⟨d,b⟩:=q;let⟨rfl,l⟩:=uw t;let⟨_,⟨I,v⟩,x,_⟩:=h.slot l;refine yia (λN h=>yvs rfl h) (d _ _ v) x ?_;exact Mp.doneR o (ve (by rw[vt];omega)) z d b rfl
 .obtain⟨d,b⟩:=q;rw[vt]at b;refine k D _ o ?_ d;rw[b];unfold FX.cs;rw[bR];rfl
#synth yy1 ["self"] yus
inductive yfq(K:xr)(a:Ads)(vs:Υ)(H:Hp)(Q:VK)(E':XK):Prop
 |mk(p:x0)(A:FA)(X:FX)(f:Α)(O:Β)(m:Nat)(_:vs=[.ref p])(_:u7 K a H p A X f O m)(_:∀H',yv H H'->Q (.int (ylc X.ws (X.cs A))) H')
def ykm:vz P w K mg Γ CX0 3 a.Jg a.M6 ["self"] (yfq K a):=by exists T.Cu.F.ok,yy1,e;let⟨p,b,X,f,O,m,rfl,h,k⟩:=h;have u:=h.me;have i:=h.mx.o;exists 1,0,yc (yq (xg (yn (pv 0) rfl) T.F6 T.Hl.m (yww T) e.m T.Hl.B .nil v7 (pa1 (vv (pv 0) T.Ac T.Ct.m (yju T) e.m T.Ct.B .nil v7))));exists p,b,X,f,O,m,rfl,h,λr v t d g=>?_;ext;exists b.mp,b.mx,b.ml,r,X.ws,X.cs b,b.n,rfl,h.n1,h.n6,h.wok,h.cok,h.mx.same g,SqL.of d,λx q=>k _ (g.trans q)
#synth yzc ["self","bit"] yvo
inductive yr0(a:Ads)(vs:Υ)(H:Hp)(Q:VK)(E':XK):Prop
 |mk(p dp ll bl mp el pl:x0)(nd b:Int)(sg:Ρ)(_:vs=[.ref p,.int b])(_:H p=some (.ins a.A2 dp (zu (.ref ll) (.ref bl) (.ref mp) (.ref el) (.int nd) (.ref pl))))(_:H el=some (.lst (sg.map V.int)))(_:sg.length<=100000)(_:0<nd)(_:∀H',H' p=some (.ins a.A2 dp (zu (.ref ll) (.ref bl) (.ref mp) (.ref el) (.int (ndN nd b)) (.ref pl)))->H' el=some (.lst ((sgN sg nd b).map V.int))->(∀c o,H c=some o->c≠p->c≠el->H' c=some o)->Q .non H')
def yza:vz P w K mg Γ CX0 1 a.Jj a.M9 ["self","bit"] (yr0 a):=by
 exists T.Hq.F.ok,yzc,M;let⟨p,r,l,m,q,f,n,g,b,C,rfl,I,D,O,y,k⟩:=h;exists _,(ye (y9 (pv 0) (ym wc (ym wq yg (yn (pv 0) rfl)) (pv 1)) rfl) (yc (wa (yr vdt (yn (pv 0) rfl) (vn rfl T.Dc) (yx _)) (ye (yw (è PySem.F.plainAttrs_list PySem.F.slot_list_append PySem.F.type_list_append xh (yn (pv 0) rfl) (pa1 (ym zy (yn (pv 0) rfl) (vn rfl T.Dc))))) (yc (y9 (pv 0) yg rfl))) y6))),?_;exists 2,0;unfold ndN sgN at k;rw[if_pos y,if_pos y]at k;have i:f≠p:=wz D I (by intro z;cases z);ext;have j:upd H p (.ins a.A2 r (zu (.ref l) (.ref m) (.ref q) (.ref f) (.int (2*g+b)) (.ref n))) p=some (.ins a.A2 r (zu (.ref l) (.ref m) (.ref q) (.ref f) (.int (2*g+b)) (.ref n))):=ya;have d:=yf (o':=HO.ins a.A2 r (zu (.ref l) (.ref m) (.ref q) (.ref f) (.int (2*g+b)) (.ref n))) i D;have x:But p H (upd H p (.ins a.A2 r (zu (.ref l) (.ref m) (.ref q) (.ref f) (.int (2*g+b)) (.ref n)))):=But.upd;generalize upd H p (.ins a.A2 r (zu (.ref l) (.ref m) (.ref q) (.ref f) (.int (2*g+b)) (.ref n)))=N at j d x⊢;ext;refine ur (λt=>?_) (λt=>?_)
 .rw[if_pos t,if_pos t]at k;ext;refine Â d ?_;ext;refine x9 d (ve (by rw[be];omega)) ?_;have J:=yf (o':=HO.lst (List.map V.int C++[V.int (2*g+b-256)])) (Ne.symm i) j;ext;refine k _ ya ?_ λc o e u B=>yf u (yf B (x _ _ e u));rw[yk i,ya,bF];rfl
 .rw[if_neg t,if_neg t]at k;ext;exact k _ j d λc o e u B=>x _ _ e u
#synth yyz ["self","bit"] yv2
inductive ym5(a:Ads)(vs:Υ)(H:Hp)(Q:VK)(E':XK):Prop
 |mk(p dp ll bl mp el pl:x0)(nd b:Int)(sg:Ρ)(_:vs=[.ref p,.int b])(_:H p=some (.ins a.A2 dp (zu (.ref ll) (.ref bl) (.ref mp) (.ref el) (.int nd) (.ref pl))))(_:H el=some (.lst (sg.map V.int)))(_:sg.length<=100000)(_:0<=nd)(_:∀(el':x0)H',(el'=el\/H el'=none)->H' p=some (.ins a.A2 dp (zu (.ref ll) (.ref bl) (.ref mp) (.ref el') (.int (ndN nd b)) (.ref pl)))->H' el'=some (.lst ((sgN sg nd b).map V.int))->(∀c o,H c=some o->c≠p->c≠el->H' c=some o)->(∃o,H' el=some o)->Q .non H')
def yx2:vz P w K mg Γ CX0 2 a.Ji a.M8 ["self","bit"] (ym5 a):=by
 exists T.Ho.F.ok,yyz,J;let⟨p,I,u,v,D,f,C,x,b,y,rfl,l,g,R,W,k⟩:=h;exists _,(yc (wa (yr yb6 (yn (pv 0) rfl) yg (yx _)) (yc (yw (xg (pv 0) T.Ac T.Hq.m (yza T) J.m T.Hq.B .nil v7 (pa1 (pv 1))))) (yc (wa (yr xq (pv 1) yg (yx _)) (yc (y9 (pv 0) yg rfl)) (yc (y9 (pv 0) (xc uo) rfl)))))),?_;exists 2,0;have d:f≠p:=wz g l (by intro z;cases z);ext;refine ur (λj=>?_) (λj=>?_)
 .ext;exists p,I,u,v,D,f,C,x,b,y,rfl,l,g,R,j,λN O G U=>k f N (.inl rfl) O G U ⟨_,G⟩
 .unfold ndN sgN at k;rw[if_neg j,if_neg j]at k;ext;refine ur (λi=>?_) (λi=>?_)
  .rw[if_pos i,if_pos i]at k;ext;exact k f _ (.inl rfl) ya (yf d g) (λc o e t Z=>yf t e) ⟨_,yf d g⟩
  .rw[if_neg i,if_neg i]at k;ext;exists by walk_at "len",λr hr0=>?_
   exists hr0,H1,S1,e1;have M:=S1 _ _ l;ext;have q:r≠p:=λz=>by rw[z,l]at hr0;cases hr0
   exact k r _ (.inr hr0) ya (yf q e1) (λc o e t Z=>yf t (S1 _ _ e)) ⟨_,yf d (S1 _ _ g)⟩
abbrev FA.re(A:FA)(ml el pl:x0)(sl:Μ):FA:={A with ml:=ml,el:=el,pl:=pl,sl:=sl}
def FX.run(A:FA)(X:FX):qi Int->FX
 |[]=>X
 |b::r=>FX.run A (X.see A b) r
theorem τ(A:FA):∀(bs cs:Ρ)(X:FX),X.run A (bs++cs)=(X.run A bs).run A cs
 |[],_,_=>rfl
 |b::r,cs,X=>τ A r cs (X.see A b)
def ym7(A:FA)(bs:Ρ)(b:Int)(X:FX):X.run A (bs++[b])=(X.run A bs).see A b:=τ A bs [b] X
def fa0(n:Nat)(ps:Λ):FA:={ dp:=0,ll:=0,bl:=0,mp:=0,mx:=0,ml:=0,el:=0,pl:=0,n:=n,bk:=λZ=>0,dx:=λZ=>0,lk:=λZ=>0,dd:=λZ=>0,sl:=λZ=>0,kd:=λZ=>0,ps:=ps}
theorem jv(A:FA):∀(bs:Ρ)(X:FX),X.run A bs=X.run (fa0 A.n A.ps) bs
 |[],_=>rfl
 |b::r,X=>jv A r (X.see A b)
def ywj(H:Hp)(A:FA):Prop:=H A.ll=some (.lst (refs A.lk A.n))/\A.ll≠A.el/\∃tp,ux H A.n A.lk A.kd tp A.ps
theorem ywj.same{H H':Hp}{A:FA}(h:ywj H A)(S:yv H H'):ywj H' A:=⟨S _ _ h.1,h.2.1,let ⟨tp,r⟩:=h.2.2;⟨tp,r.same S⟩⟩
structure Go(W:Ν)(H H':Hp)(W':Ν):Prop where
 fr:∀c o,H c=some o->¬W c->H' c=some o
 nw:∀c,W' c->W c\/H c=none
 lv:∀c o,H c=some o->∃o',H' c=some o'
def Go.free{W:Ν}{H H':Hp}(h:Go W H H' W'){c:x0}(e:H' c=none):H c=none:=by
 cases z:H c with
 |none=>rfl
 |some o =>
  let⟨a,w⟩:=h.lv c o z;rw[e]at w;cases w
def Go.refl{W:Ν}{H:Hp}:Go W H H W:=⟨λZ Z e Z=>e,λZ w=>.inl w,λZ o e=>⟨o,e⟩⟩
def Go.trans{W W1:Ν}{H H1 H2:Hp}(h:Go W H H1 W1)(k:Go W1 H1 H2 W2):Go W H H2 W2:=by
 exists λc o e a=>k.fr c o (h.fr c o e a) λw=>?_,λc w=>?_,λc o e=>?_
 .rcases h.nw c w with v|v
  .exact a v
  .rw[e]at v;cases v
 .rcases k.nw c w with v|v
  .exact h.nw c v
  .exact .inr (h.free v)
 .obtain⟨d,b⟩:=h.lv c o e;exact k.lv c d b
def Go.same{W:Ν}{H H1 H2:Hp}(h:Go W H H1 W')(S:yv H1 H2):Go W H H2 W':=⟨λc o e a=>S _ _ (h.fr c o e a),h.nw,λc o e=>let ⟨o',w⟩:=h.lv c o e;⟨o',S _ _ w⟩⟩
def Go.ahead{W:Ν}{H H1 H2:Hp}(S:yv H H1)(h:Go W H1 H2 W'):Go W H H2 W':=⟨λc o e=>h.fr c o (S _ _ e),λc w=>(h.nw c w).imp id S.free,λc o e=>h.lv c o (S _ _ e)⟩
def Go.apart{W:Ν}{H H':Hp}(h:Go W H H' W')(hU:∀c,U c->∃o,H c=some o)(dj:∀c,U c->¬W c):∀c,U c->¬W' c:=λc u w=>by
 rcases h.nw c w with v|v
 .exact dj c u v
 .obtain⟨o,e⟩:=hU c u;rw[v]at e;cases e
section
variable{H H':Hp}{n:Nat}{kd:Ξ}{ps:Λ}{X:FX}{M:Nat}{W:Ν}
def ysu{g:Μ}(h:1<=n):(refs g n)[0]?=some (.ref (g 0)):=by unfold refs;rw[bn,cE h];rfl
end
#synth ypo ["self","bit","slot"] ["self","bit"] yv1
inductive yrz(K:xr)(a:Ads)(vs:Υ)(H:Hp)(Q:VK)(E':XK):Prop
 | mk(p:x0)(A:FA)(X:FX)(f:Α)(O:Β)(m:Nat)(b:Int)(_:vs=[.ref p,.int b])(_:u7 K a H p A X f O m)(_:0<=b)(_:b<=1)(_:m+20<1000000)(_:0<=X.nd)(_:X.sg.length<=100000)(_:∀(ml el pl:x0)(sl:Μ)(f':Α)(O':Β)(H':Hp),(el=A.el\/H el=none)->u7 K a H' p {A with ml:=ml,el:=el,pl:=pl,sl:=sl} (X.see A b) f' O' (m+A.n)->(∀j c,j<A.n->O' j c->O j c\/H c=none) ->
  (∀c o,H c=some o->c≠p->c≠A.mp->c≠A.el->(∀j,j<A.n->¬O j c)->H' c=some o)->(∀c o,H c=some o->∃o',H' c=some o')->H ml=none->Q .non H')
def yff:vz P w K mg Γ CX0 6 a.Jh a.M7 ["self","bit"] (yrz K a):=by
 exists T.Ca.F.ok,ypo,hr;let⟨p,d,X,f,O,m,b,rfl,h,b0,b1,hm,ap,aq,k⟩:=h;have hp:=h.me;have ad:=h.mx.o;have n6:=h.n6;have I:=yz1 b0 b1;refine yh (yw (x4 (ĩ T) hr.m T.Cm vg (pa1 (pv 1)))) ?_;refine yh (yw (vh (yn (pv 0) rfl) T.F6 T.Hm.m (yxy T) hr.m T.Hm.B .nil vg (pac (vv (pv 0) T.Ac T.Ct.m (yju T) hr.m T.Ct.B .nil v7) (pa1 (pv 1))))) ?_;refine yh (xz PassesOwn.never rfl (vx (yn (pv 0) rfl)) (vk (i:=2) ypo.nd rfl (Or.inl rfl)) (yc (yw (Ŗ (vh (pv 2) T.Ba T.Gz.m (yzz T) hr.m T.Gz.B .nil vg (pa1 (pv 1))) (Ŗ (vh (pv 2) T.Bz T.Hc.m (vbc T) hr.m T.Hc.B .nil vg (pa1 (pv 1))) (vh (pv 2) T.C5 T.Hf.m (yzs T) hr.m T.Hf.B .nil vg (pa1 (pv 1)))))))) ?_;refine yh (yw (xg (pv 0) T.Ac T.Ho.m (yx2 T) hr.m T.Ho.B .nil v7 (pa1 (pv 1)))) ?_;exists 2,1,yc (yw (vv (pv 0) T.Ac T.Cs.m (ykk T) hr.m T.Cs.B .nil v7));exists .int b,_,rfl,.int b,λF=>?_,λz=>(by rw[I]at z;cases z);ext;exists p,d,X,f,O,m,rfl,h,λr H1 aI ao S1=>?_;have N:=S1 _ _ ad;ext;exists d.mp,d.mx,d.ml,r,X.ws,X.cs d,d.n,.int b,_,rfl,h.n1,n6,h.wok,h.cok,h.mx.same S1,SqL.of ao,.int b,λb' e F F ml H2 a7 M2 Y=>?_,λz=>(by rw[I]at z;cases z);cases e;have L:=h.same S1
 have ac:p≠d.mp:=λz=>by
  have:=h.me;rw[z,ad]at this;injection this with this;injection this with _ _ e;exact absurd (congrArg List.length e) (show ¬(1=6) by decide)
 have am:=Y _ _ L.me ac;have ab:∀{l:x0}{xs:Υ},H1 l=some (.lst xs)->l≠d.mp:=λ{l xs}e z=>by rw[z,N]at e;cases e
 have a5:=Y _ _ L.bl (ab L.bl);have a6:=Y _ _ L.el (ab L.el);have W:=Y _ _ L.pl (ab L.pl)
 have a0:=L.B.frame (O2:=λc=>c=d.mp) (λc o e ne=>Y c o e ne) (λj c q w z=>h.nm j q (z ▸ w)) (λj q z=>by
  have:=(L.B.b j q).me;rw[z,N]at this;injection this with this;injection this with _ _ e
  exact absurd (congrArg List.length e) (show ¬(1=2) by decide)) (λt xs e=>by
  rcases e with(e|⟨o,e⟩)|e
  .exact .inl (.inl (Y _ _ e (λz=>by rw[z,N]at e;cases e)))
  .exact .inl (.inr ⟨o,Y _ _ e (λz=>by rw[z,N]at e;cases e)⟩)
  .exact .inr e)
 have an:∀j,j<d.n->(∃s,f j (X.key d j)=some s)/\AtS H2 (d.dd j) (X.key d j) (d.sl j):=λj q=>⟨(L.at' j q).1,(L.at' j q).2.told (L.B.b j q) (λz=>h.nm j q (by rw[<- z];exact(L.B.b j q).dO)) Y⟩;ext;refine⟨d.pl,rfl,⟨_,SqL.of W⟩,x8 (K:=K) (a:=d.pl) (xs:=refs d.sl d.n) (λi σ2 G=>∃(v:Ψ)(f':Α),σ2=[some (.ref p),some (.int b),v]/\Bks K a G d.n d.bk d.dx d.lk d.dd d.kd d.ps f' O m/\
   (∀j,j<d.n->∀k,(f' j k).getD (kd0 (d.kd j))=if j<i/\k=X.key d j then (X.g j k).see b else X.g j k)/\(∀j,j<d.n->(∃s,f' j (X.key d j)=some s)/\AtS G (d.dd j) (X.key d j) (d.sl j))/\(∀c o,H2 c=some o->(∀j,j<d.n->¬O j c)->G c=some o))
  ⟨_,f,rfl,a0,λj q M=>by rw[if_neg (λz=>absurd z.1 (bI j))];exact h.ag j q M,an,λc o e F=>e⟩ (by rintro i σ2 G _ ⟨_,_,_,_,_,_,w⟩;exact SqL.of (w _ _ W (a0.nlst W))) ?_ ?_⟩
 .rintro i y σ2 G hy ⟨v,f',rfl,S,gA,gS,gF⟩;let⟨rfl,D⟩:=uw hy;let⟨⟨s',a9⟩,ae⟩:=gS i D
  have es:s'=X.g i (X.key d i):=by
   have:=gA i D (X.key d i);rw[a9,if_neg (λz=>absurd z.1 (cP i))]at this;exact this
  let⟨dq,hq,ok,aG,av⟩:=(S.b i D).slot a9 ae;ext;refine yra (x:=.int b) (λQ' h=>?_) (λQ' h=>?_) hq ok (.int b) (λb' e F F G3 h3 B3=>?_) (λz=>by rw[I]at z;cases z) (λz=>by rw[I]at z;cases z) (λz=>by rw[I]at z;cases z)
  .ext;exact h
  .ext;exact h
  cases e;have ay:=(S.b i D).told a9 ae b0 b1 h3 B3;have BO:ynx (O i) G G3:=λc o e no=>B3 _ _ e λz=>no (by rw[z];exact av);have M3:=S.move D (bj m) ay (λc w=>.inl w) BO
  have eO:(λj=>if j=i then O i else O j)=O:=by
   funext j
   by_cases z:j=i
   .rw[if_pos z,z]
   .rw[if_neg z]
  rw[eO]at M3
  have ax:d.dd i≠d.sl i:=λz=>by
   let⟨aJ,aH,w1,_⟩:=(S.b i D).tb;let⟨C,fs,eo⟩:=ε a dq s';rw[z,hq,eo]at w1;cases w1
  ext;exists _,_,rfl,M3,λj q M=>?_,λj q=>?_,λc o e no=>?_
  .try dsimp only
   by_cases z:j=i
   .subst z;rw[if_pos rfl];unfold Ă;by_cases w:M=X.key d j
    .rw[if_pos w,if_pos ⟨Nat.lt_succ_self j,w⟩,w,<- es];rfl
    .rw[if_neg w,if_neg (λz=>w z.2)];have:=gA j q M;rw[if_neg (λz=>w z.2)]at this;exact this
   .rw[if_neg z,gA j q M];have:(j<i/\M=X.key d j)↔(j<i+1/\M=X.key d j):=by constructor<;>(rintro ⟨u,v⟩;exact⟨by omega,v⟩)
    by_cases w:j<i/\M=X.key d j
    .rw[if_pos w,if_pos (this.mp w)]
    .rw[if_neg w,if_neg (λz=>w (this.mpr z))]
  .try dsimp only
   by_cases z:j=i
   .subst z;rw[if_pos rfl];exists⟨s'.see b,?_⟩,ae.told (S.b j D) ax B3;unfold Ă;rw[if_pos rfl]
   .rw[if_neg z];exists(gS j q).1,(gS j q).2.move S q D z BO
  .exact BO _ _ (gF c o e no) (no i D)
 .rintro σ2 G ⟨v,f',rfl,S,gA,gS,gF⟩;rw[vt]at gA;have gp:=gF _ _ am h.np;have R:=gF _ _ a6 (a0.nlst a6);have aj:=gF _ _ a5 (a0.nlst a5);have a1:=gF _ _ M2.o h.nm;have af:=gF _ _ M2.l (a0.nlst M2.l);ext;exists p,d.dp,d.ll,d.bl,d.mp,d.el,d.pl,X.nd,b,X.sg,rfl,gp,R,aq,ap,λel H4 ai aa a3 F4 L4=>?_;have ah:∀{l:x0}{xs:Υ},G l=some (.lst xs)->l≠p:=λ{l xs}e z=>by rw[z,gp]at e;cases e
  have aB:∀j,j<d.n->¬O j p:=h.np;have ak:=S.nlst R
  have a4:=S.frame (O2:=λc=>c=p\/c=d.el) (λc o e ne=>F4 c o e (λz=>ne (.inl z)) (λz=>ne (.inr z))) (λj c q w z=>by
   rcases z with z|z
   .exact aB j q (z ▸ w)
   .exact ak j q (z ▸ w)) (λj q z=>by
   have:=(S.b j q).me;rcases z with z|z
   .rw[z,gp]at this;injection this with this;injection this with _ _ e;exact absurd (congrArg List.length e) (show ¬(6=2) by decide)
   .rw[z,R]at this
    cases this) (λt xs e=>by
   rcases e with(e|⟨o,e⟩)|e
   .exact .inl (.inl (F4 _ _ e (λz=>by rw[z,gp]at e;cases e) (λz=>by rw[z,R]at e;cases e)))
   .exact .inl (.inr ⟨o,F4 _ _ e (λz=>by rw[z,gp]at e;cases e) (λz=>by rw[z,R]at e;cases e)⟩)
   .exact .inr e)
  have az:d.bl≠d.el:=λz=>by
   have e:=h.bl;rw[z,h.el]at e;injection e with e;injection e with e;have e0:=congrArg (λl:Υ=>l[0]?) e
   have r0:(refs d.bk d.n)[0]?=some (.ref (d.bk 0)):=by
    unfold refs;rw[bn,cE h.n1];rfl
   try dsimp only at e0
   rw[r0,bn]at e0
   cases hs:X.sg[0]? with
   |none=>rw[hs]at e0;cases e0
   |some c=>rw[hs]at e0;cases e0
  have aA:ml≠d.el:=(yb L.el a7).symm;have a2:=F4 _ _ aj (ah aj) az;have au:=F4 _ _ a1 (Ne.symm ac) (λz=>by rw[z,R]at a1;cases a1);have a8:=F4 _ _ af (ah af) aA
  have Z:∀c o,H c=some o->∃o',H4 c=some o':=λc o e=>by
   by_cases zp:c=p
   .exists _,zp ▸ aa
   by_cases ze:c=d.el
   .rw[ze];exact L4
   have gc:∃o',G c=some o':=by
    by_cases zm:c=d.mp
    .exists _,zm ▸ a1
    by_cases zo:∀j,j<d.n->¬O j c
    .exists o,gF _ _ (Y _ _ (S1 _ _ e) zm) zo
    .have:∃j,j<d.n/\O j c:=Classical.byContradiction λw=>zo λj q w'=>w ⟨j,q,w'⟩;let⟨j,q,w⟩:=this;let⟨o',J,_⟩:=(S.b j q).own c w;exists o',J
   let⟨o',J⟩:=gc;exists o',F4 _ _ J zp ze
  have aw:ylh d.n d.kd f' (X.see d b).g:=λj q M=>by
   rw[gA j q M];show _=if M=X.key d j then (X.g j M).see b else X.g j M;by_cases w:M=X.key d j
   .rw[if_pos ⟨q,w⟩,if_pos w]
   .rw[if_neg (λz=>w z.2),if_neg w]
  ext;exists p,d.dp,d.ll,d.bl,d.mp,el,d.pl,ndN X.nd b,sgN X.sg X.nd b,d.n,m,d.bk,d.dx,d.lk,d.dd,d.kd,d.ps,f',O,(X.see d b).g,rfl,aa,a2,a3,a4,aw,n6,by omega,h.np,λpl sl f2 O2 H5 as al aF B5 ar aE aD F5 L5=>?_
  have U:∀{l:x0}{xs:Υ},H4 l=some (.lst xs)->l≠p:=λ{l xs}e z=>by rw[z,aa]at e;cases e
  have n2:∀j c,j<d.n->O2 j c->O j c\/H c=none:=λj c q w=>by
   rcases aD j c q w with v|v
   .exact .inl v
   .refine .inr ?_
    cases e:H c with
    |none=>rfl
    |some o =>
     let⟨o',J⟩:=Z c o e;rw[J]at v;cases v
  refine k ml el pl sl f2 O2 H5 ?_ ⟨as,F5 _ _ a2 (U a2) (a4.nlst a2),F5 _ _ a3 (U a3) (a4.nlst a3),⟨F5 _ _ au (Ne.symm ac) h.nm,F5 _ _ a8 (U a8) (a4.nlst a8)⟩,you h.n1 n6 h.wok h.cok,al,B5,ar,aE,λj q w=>?_,λj q w=>?_,h.n1,n6⟩ n2 (λc o e c1 c2 c3 no=>F5 _ _ (F4 _ _ (gF _ _ (Y _ _ (S1 _ _ e) c2) no) c1 c3) c1 no) (λc o e=>let ⟨o',w⟩:=Z c o e;L5 c o' w) (S1.free a7)
  .rcases ai with z|z
   .exact .inl z
   .refine .inr ?_
    cases e:H el with
    |none=>rfl
    |some o =>
     exfalso;by_cases zp:el=p
     .rw[zp,gp]at z;cases z
     by_cases zm:el=d.mp
     .rw[zm,a1]at z;cases z
     by_cases zo:∀j,j<d.n->¬O j el
     .rw[gF _ _ (Y _ _ (S1 _ _ e) zm) zo]at z;cases z
     .have:∃j,j<d.n/\O j el:=Classical.byContradiction λw=>zo λj q w'=>w ⟨j,q,w'⟩;let⟨j,q,w⟩:=this;let⟨o',J,_⟩:=(S.b j q).own el w;rw[J]at z;cases z
  .rcases n2 j p q w with v|v
   .exact h.np j q v
   .rw[hp]at v;cases v
  .rcases n2 j d.mp q w with v|v
   .exact h.nm j q v
   .rw[ad]at v;cases v
def zj{A:FA}{X:FX}{bs:Ρ}{k:Nat}{b:Int}(h:bs[k]?=some b):X.run A (bs.take (k+1))=(X.run A (bs.take k)).see A b:=by rw[zv h,ym7]
structure FGo(p:x0)(A:FA)(O:Β)(H H':Hp)(el:x0)(O':Β):Prop where
 he:el=A.el\/H el=none
 hO:∀j c,j<A.n->O' j c->O j c\/H c=none
 fr:∀c o,H c=some o->c≠p->c≠A.mp->c≠A.el->(∀j,j<A.n->¬O j c)->H' c=some o
 live:∀c o,H c=some o->∃o',H' c=some o'
def FGo.free{A:FA}{H H':Hp}{el c:x0}(h:FGo p A O H H' el O')(hc:H' c=none):H c=none:=by
 cases e:H c with
 |none=>rfl
 |some o =>
  let⟨a,w⟩:=h.live c o e;rw[hc]at w;cases w
def FGo.refl{A:FA}{H:Hp}:FGo p A O H H A.el O:=⟨.inl rfl,λZ Z Z w=>.inl w,λZ Z e Z Z Z Z=>e,λZ o e=>⟨o,e⟩⟩
theorem FGo.trans{A:FA}{O1:Β}{H H1 H2:Hp}{ml el pl el2:x0}{sl:Μ}(h:FGo p A O H H1 el O1)(k:FGo p (A.re ml el pl sl) O1 H1 H2 el2 O2):FGo p A O H H2 el2 O2:=by
 exists ?_,λj c a w=>?_,λc o e b d g f=>?_,λc o e=>?_
 .rcases k.he with z|z
  .rcases h.he with y|y
   .exact .inl (z.trans y)
   .exact .inr (by rw[show el2=el from z];exact y)
  .exact .inr (h.free z)
 .rcases k.hO j c a w with v|v
  .exact h.hO j c a v
  .exact .inr (h.free v)
 .refine k.fr c o (h.fr c o e b d g f) b d (λz=>?_) (λj a w=>?_)
  .rcases h.he with y|y
   .exact g (z.trans y)
   .rw[show c=el from z,y]at e;cases e
  .rcases h.hO j c a w with v|v
   .exact f j a v
   .rw[e]at v;cases v
 .obtain⟨l,i⟩:=h.live c o e;exact k.live c l i
def FGo.same{A:FA}{H H1 H2:Hp}{el:x0}(h:FGo p A O H H1 el O')(S:yv H1 H2):FGo p A O H H2 el O' :=
 ⟨h.he,h.hO,λc o e a b f d=>S _ _ (h.fr c o e a b f d),λc o e=>let ⟨o',w⟩:=h.live c o e;⟨o',S _ _ w⟩⟩
def FGo.ahead{A:FA}{H H1 H2:Hp}{el:x0}(S:yv H H1)(h:FGo p A O H1 H2 el O'):FGo p A O H H2 el O' :=
 ⟨h.he.imp id S.free,λj c a w=>(h.hO j c a w).imp id S.free,λc o e=>h.fr c o (S _ _ e),λc o e=>h.live c o (S _ _ e)⟩
def FGo.kpa{A:FA}{X:FX}{f:Α}{m:Nat}{H H':Hp}{el:x0}(hf:u7 K a H p A X f O m)(h:FGo p A O H H' el O'):KpA H H' A.el el:=λc o e i k=>by
 exists ?_,h.fr c o e (λz=>by rw[z,hf.me]at e;cases e;cases i) (λz=>by rw[z,hf.mx.o]at e;cases e;cases i) k λj l w=>?_
 .rcases h.he with z|z
  .rw[z];exact k
  .exact yb e z
 .obtain⟨n,d,g⟩:=(hf.B.b j l).own c w;rw[e]at d;cases d;rw[i]at g;cases g
def FGo.app{R:x0}{A:FA}{H H1:Hp}{el:x0}{o':HO}(h:FGo p A O H H1 el O')(hR:H R=none):FGo p A O H (upd H1 R o') el O' :=
 ⟨h.he,h.hO,λc o e a b f d=>yf (yb e hR) (h.fr c o e a b f d),λc o e=>let ⟨o',w⟩:=h.live c o e;⟨o',yf (yb e hR) w⟩⟩
def yes{g:Μ}{n:Nat}(h:1<=n):(refs g n)[0]?=some (.ref (g 0)):=by unfold refs;rw[bn,cE h];rfl
def u7.notR{G:Hp}{R:x0}{A:FA}{X:FX}{f:Α}{m:Nat}{tu:Μ}(h:u7 K a G p A X f O m)(hR:G R=some (.lst (refs tu j)))(htu:∀i,i<j->∃o,G (tu i)=some o/\ywh o=false)(nR:R≠A.el):∀q,(q=A.bl\/q=A.el\/q=A.ml\/q=A.pl)->q≠R:=λq v z=>by
 have d:=h.n1
 have c:∀(l:Υ)(x:V),l[0]?=some x->refs tu j=l->1<=j/\x=.ref (tu 0):=λl x n e=>by
  rcases Nat.eq_zero_or_pos j with w|w
  .rw[<- e,w]at n;cases n
  .rw[<- e,yes w]at n;exists w,(bD n).symm
 rcases v with y|y|y|y
 .have e:=h.bl;rw[<- y,z,hR]at e;let⟨w,e⟩:=c _ _ (yes d) (HO.lst.inj (bD e));let⟨o,k,r⟩:=htu 0 w;rw[<- V.ref.inj e,(h.B.b 0 d).me]at k;cases k;cases r
 .exact nR (z.symm.trans y)
 .have e:=h.mx.l;rw[<- y,z,hR]at e;have u:0<X.ws.length:=by rw[h.wok.len];exact d
  let⟨w,e⟩:=c _ (.int X.ws[0]) (by rw[bn,bg u];rfl) (HO.lst.inj (bD e));cases e
 .have e:=h.pl;rw[<- y,z,hR]at e;let⟨w,e⟩:=c _ _ (yes d) (HO.lst.inj (bD e));let⟨o,k,r⟩:=htu 0 w;let⟨_,⟨s,D⟩,_,_⟩:=h.slot d;let⟨C,E,t⟩:=ε a s (X.g 0 (X.key A 0));rw[<- V.ref.inj e,D,t]at k;cases k;cases r
structure jj(H:Hp)(t:x0)(ts:Ρ)(w:Nat):Prop where
 l:H t=some (.lst (ts.map V.int))
 s:Sgs ts
 z:ts.length<=w
def jj.same{H H':Hp}{t:x0}{w:Nat}(h:jj H t ts w)(S:yv H H'):jj H' t ts w:=⟨S _ _ h.l,h.s,h.z⟩
def uu(tt:Λ):Λ
 |0=>[]
 |i+1=>uu tt i++dec (tt i)
def fX(n:Nat)(kd:Ξ)(ps:Λ)(pre:Ρ)(ts:Ρ)(k:Nat):FX:=((FX0 n kd).run (fa0 n ps) pre).run (fa0 n ps) ((dec ts).take k)
def ut(n:Nat)(kd:Ξ)(ps:Λ)(pre:Ρ)(ts:Ρ)(k:Nat):Int:=ylc (fX n kd ps pre ts k).ws ((fX n kd ps pre ts k).cs (fa0 n ps))
def fCs(n:Nat)(kd:Ξ)(ps:Λ)(pre:Ρ)(ts:Ρ)(k:Nat):Ρ:=(fX n kd ps pre ts k).cs (fa0 n ps)
def vi(ts:Ρ)(k:Nat):Int:=((dec ts)[k]?).getD 0
def yl3(ts:Ρ)(k:Nat)(h:k<(dec ts).length):0<=vi ts k/\vi ts k<=1:=by unfold vi;rw[bg h];exact jc ts _ (cc h)
def ywa(H:Hp)(lx:V)(N w:Nat)(lt:Μ)(tt:Λ):Prop:=((lx=.non/\N=0)\/∃ll,lx=.ref ll/\H ll=some (.lst (refs lt N)))/\∀i,i<N->jj H (lt i) (tt i) w
theorem ywa.same{H H':Hp}{lx:V}{N w:Nat}{lt:Μ}{tt:Λ}(h:ywa H lx N w lt tt)(S:yv H H'):ywa H' lx N w lt tt :=
 ⟨h.1.imp id λ⟨a,e,z⟩=>⟨a,e,S _ _ z⟩,λi b=>(h.2 i b).same S⟩
structure vew(H:Hp)(L tx:x0)(lx:V)(n:Nat)(lk:Μ)(kd:Ξ)(tp:Μ)(ps:Λ)(ts:Ρ)(N w:Nat)(lt:Μ)(tt:Λ):Prop where
 l:H L=some (.lst (refs lk n))
 n1:1<=n
 n6:n<=6
 r:ux H n lk kd tp ps
 t:jj H tx ts 1000
 lr:ywa H lx N w lt tt
 w1:w<=1000
 N1:N<=1000
 b:6+6*(N*(9*w+1))+6*(9*ts.length+1)+20<1000000
theorem Sds.refs{H:Hp}{k:Nat}{g:Μ}{d:Nat->PyData}:∀(n:Nat),(∀i,i<n->Sd K H (.ref (g i)) (d i) k)->Sds K H (refs g n) ((List.range n).map d) k:=λn h=>by
 unfold Law.refs
 have a:∀l:qi Nat,(∀i∈l,i<n)->Sds K H (l.map λi=>V.ref (g i)) (l.map d) k:=by
  intro l
  induction l with
  |nil=>exact λZ=>.nil
  |cons i r ih=>exact λb=>.cons (h i (b i (by simp))) (ih λj c=>b j (by simp[c]))
 exact a (List.range n) λi e=>cz.mp e
structure XOk(n:Nat)(X:FX):Prop where
 w:WOk n X.ws
 s:∀i k,(X.g i k).ok
theorem XOk.cs{n:Nat}{X:FX}(h:XOk n X)(ps:Λ):COk n (X.cs (fa0 n ps)):=by
 exists by unfold FX.cs;rw[be,bU];rfl,λc a=>?_,λc a=>?_
 .obtain⟨j,_,rfl⟩:=bq.mp a;exact(yey (h.s _ _)).1
 .obtain⟨j,_,rfl⟩:=bq.mp a;exact(yey (h.s _ _)).2
theorem XOk.see{n:Nat}{X:FX}(h:XOk n X)(n1:1<=n)(n6:n<=6)(ps:Λ){b:Int}(b0:0<=b)(b1:b<=1):XOk n (X.see (fa0 n ps) b):=by
 exists you n1 n6 h.w (h.cs ps),λi k=>?_;show (if k=X.key (fa0 n ps) i then (X.g i k).see b else X.g i k).ok
 split
 .exact Slt.see_ok (h.s i k) b0 b1
 .exact h.s i k
theorem XOk.run{n:Nat}(n1:1<=n)(n6:n<=6)(ps:Λ):∀(bs:Ρ){X:FX},XOk n X->yaq bs->XOk n (X.run (fa0 n ps) bs)
 |[],_,h,_=>h
 |b::r,_,h,hb=>XOk.run n1 n6 ps r (h.see n1 n6 ps (hb b (by simp)).1 (hb b (by simp)).2) λc a=>hb c (by simp[a])
def XOk.zero{n:Nat}(n1:1<=n)(n6:n<=6)(kd:Ξ):XOk n (FX0 n kd):=⟨vb1 n n1 n6,λi Z=>yp2 (kd i)⟩
def yhp{bs:Ρ}(h:yaq bs)(k:Nat):yaq (bs.take k):=λb a=>h b (cG a)
def vbu{n:Nat}(n1:1<=n)(n6:n<=6){kd:Ξ}{ps:Λ}{pre:Ρ}(hp:yaq pre)(k:Nat):XOk n (fX n kd ps pre ts k):=by unfold fX;exact((XOk.zero n1 n6 kd).run n1 n6 ps pre hp).run n1 n6 ps _ (yhp (jc ts) k)
def æ{n:Nat}(n1:1<=n)(n6:n<=6){kd:Ξ}{ps:Λ}{pre:Ρ}(hp:yaq pre)(k:Nat):Ch (ut n kd ps pre ts k):=yeu n1 (vbu (kd:=kd) (ps:=ps) (ts:=ts) n1 n6 hp k).w ((vbu (kd:=kd) (ps:=ps) (ts:=ts) n1 n6 hp k).cs ps)
structure TwB(K:xr)(a:Ads)(H G:Hp)(n:Nat)(bk dx lk dd:Μ)(kd:Ξ)(ps:Λ)(f:Α)(O:Β)(m:Nat):Prop where
 B:Bks K a G n bk dx lk dd kd ps f O m
 oO:∀j c,j<n->O j c->H c=none
 oB:∀j,j<n->H (bk j)=none
def TwB.zero{H G:Hp}{bk dx lk dd:Μ}{kd:Ξ}{ps:Λ}{f:Α}{m:Nat}:TwB K a H G 0 bk dx lk dd kd ps f O m :=
 ⟨⟨λi b=>absurd b (bI i),λi b=>absurd b (bI i),λi Z Z b=>absurd b (bI i),λi Z b=>absurd b (bI i)⟩,λi Z b=>absurd b (bI i),λi b=>absurd b (bI i)⟩
def TwB.next{H G G2:Hp}{n m:Nat}{bk dx lk dd:Μ}{kd:Ξ}{ps:Λ}{f:Α}(h:TwB K a H G n bk dx lk dd kd ps f O m)(hl:zz K G (lk n) (.str (kdS (kd n))) (ps n))
  (S:yv H G) {q dq d D:x0} {xs ys:Υ} {f':qi Int->qj Slt} {O':Ν} (hq:G q=none) (hO:∀c,O' c->G c=none) (S2:yv G G2) (hb:Û a G2 q dq (lk n) d (kd n) f' O' m) (hD:G D=some (.lst xs)):
  TwB K a H (upd G2 D (.lst ys)) (n+1) (upN bk n q) (upN dx n dq) lk (upN dd n d) kd ps (upN f n f') (upN O n O') m:=by
 let⟨p,v,x⟩:=h;have k:∀j c,j<n->O j c->∃o,G c=some o:=λj c g w=>let ⟨o,l,_⟩:=(p.b j g).own c w;⟨o,l⟩
 have M:=(p.same S2).snoc (hl.same S2) hb (λj c g w z=>by
  let⟨o,l⟩:=k j c g w;rw[hO c z]at l
  cases l) (λj g w=>by
  let⟨o,l⟩:=k j q g w;rw[hq]at l
  cases l) (λj g z=>by
  have e:=(p.b j g).me;rw[hO _ z]at e;cases e)
 have i:=S2 _ _ hD;have u:=M.nlst i;have r:∀c o,G2 c=some o->c≠D->upd G2 D (.lst ys) c=some o:=λc o e s=>yf s e;exists M.frame (O2:=λc=>c=D) (λc o e s=>r c o e s) (λj c g w z=>u j g (z ▸ w)) (λj g z=>?_) (λt xs e=>?_),λj c g w=>?_,λj g=>?_
 .have e:=(M.b j g).me;rw[z,i]at e;cases e
 .rcases e with(e|⟨o,e⟩)|e
  .exact .inl (.inl (r _ _ e (λz=>by rw[z,i]at e;cases e)))
  .exact .inl (.inr ⟨o,r _ _ e (λz=>by rw[z,i]at e;cases e)⟩)
  .exact .inr e
 .by_cases z:j=n
  .rw[z,wo]at w;exact S.free (hO c w)
  .rw[wj (by omega)]at w;exact v j c (by omega) w
 .by_cases z:j=n
  .rw[z,wo];exact S.free hq
  .rw[wj (by omega)];exact x j (by omega)
#synth yqf ["self","made"] ["self"] yuh
inductive ydu(K:xr)(a:Ads)(vs:Υ)(H:Hp)(Q:VK)(E':XK):Prop
 |mk(p:x0)(A:FA)(X:FX)(f:Α)(O:Β)(m:Nat)(_:vs=[.ref p])(_:u7 K a H p A X f O m)(_:ywj H A)(_:m+20<1000000)(_:∀(q:x0)(A':FA)(f':Α)(O':Β)(H':Hp),H q=none->u7 K a H' q A' X f' O' (m+A.n)->ywj H' A'->A'.n=A.n->A'.kd=A.kd->A'.ps=A.ps->A'.lk=A.lk->(∀j c,j<A.n->O' j c->H c=none)->(∀j,j<A.n->H (A'.bk j)=none)->H A'.mp=none->(∀l,(l=A'.bl\/l=A'.el\/l=A'.ml\/l=A'.pl\/l=A'.ll)->H l=none)->yv H H'->Q (.ref q) H')
def yxu:vz P w K mg Γ CX0 8 a.Jk a.Ma ["self"] (ydu K a):=by
 exists T.Hr.F.ok,yqf,hr;let⟨p,u,X,f,O,m,rfl,h,⟨aE,aK,tp,Z⟩,hm,k⟩:=h;have hp:=h.me;have n1:=h.n1;have n6:=h.n6;exists 1,1,ye (yo (i:=1) yqf.nd rfl (Or.inl rfl) (ua T.Pg (yb0 T) hr.m rfl T.Pf T.Cn.B .nil vg (pa1 (yn (pv 0) rfl)))) (ye (y9 (pv 1) (wb (js:=[]) (ys:=[]) rfl (vx (yn (pv 0) rfl)) (λC s2 H2 fp=>(vv (pv 0) T.C6 T.Hk.m (vba T) hr.m T.Hk.B .nil v7)) rfl rfl (hyc:=yt) (hrel:=yt)) rfl) (ye (y9 (pv 1) (vv (yn (pv 0) rfl) T.F6 T.Hn.m (vbi T) hr.m T.Hn.B .nil v7) rfl) (ye (y9 (pv 1) (pcT w6 T.Af (pa1 (yn (pv 0) rfl))) rfl) (ye (y9 (pv 1) (yn (pv 0) rfl) rfl) (ye (yw (vv (pv 1) T.Ac T.Cs.m (ykk T) hr.m T.Cs.B .nil v7)) (yc (yq (pv 1))))))));intro q dq W al aO;have S0:yv H (upd (upd H dq (.own q)) q (.ins a.A2 dq [])):=λb o e=>by rw[yk (yb e W),yk (yb e al)];exact e
 exists q,dq,.ref u.ll,rfl,ya,.inr ⟨u.ll,u.n,u.lk,u.kd,tp,u.ps,rfl,S0 _ _ aE,n1,n6,Z.same S0,λd f1 O1 H1 N1 B1=>⟨rfl,?_⟩⟩;let⟨am,e1,e2,e3,e4,aQ,aL,aV,aM,Y,aW,ar⟩:=N1;have S1:yv H H1:=å W al B1;have h1:=h.same S1;have R:H1 q=some (.ins a.A2 d.dp (zu (.ref d.ll) (.ref d.bl) (.ref d.mp) (.ref d.el) (.int 0) (.ref d.pl))):=am.me;have aB:=h1.me;have aH:p≠q:=yb hp W;ext;exists u.bl,rfl,⟨_,SqL.of h1.bl⟩,λD hD=>?_;refine ul (K:=K) (xs:=refs u.bk u.n) (λi G=>∃(bk dx dd:Μ)(f2:Α)(O2:Β),G D=some (.lst (refs bk i))/\TwB K a H1 G i bk dx u.lk dd u.kd u.ps f2 O2 m/\(∀j,j<i->f2 j=f j)/\yv H1 G)
  ⟨λF=>0,λF=>0,λF=>0,λF F=>none,λF F=>False,ya,TwB.zero,λj x=>absurd x (bI j),y7 hD⟩ (λi G F z=>?_) (λi y G hy hi z=>?_) (λG z=>?_)
 .obtain⟨_,_,_,_,_,_,_,_,M⟩:=z;exact SqL.of (M _ _ h1.bl)
 .obtain⟨bk,dx,dd,f2,O2,gD,S,gf,M⟩:=z;let⟨rfl,ac⟩:=uw hy;have af:=(h1.B.b i ac).same M;have aF:=af.me;ext;exists u.bk i,u.dx i,u.lk i,u.dd i,u.kd i,f i,O i,m,rfl,af,by omega,λq2 aI d2 O3 G2 ad aC au S2=>?_
  refine we (n:=(refs u.bk u.n).length) (S2 _ _ gD) (ve (by rw[vt];omega)) hi ?_;exists _,_,_,_,_,?_,S.next ((h1.B.look i ac).same M) M ad au S2 aC gD,λj x=>?_,λb o e=>yf (yb e hD) (S2 _ _ (M b o e))
  .rw[ya,x6,wo]
   congr 3
   exact xx λj x=>(wj x).symm
  .by_cases z:j=i
   .rw[z,wo]
   .rw[wj (by omega)];exact gf j (by omega)
 let⟨bk,dx,dd,f2,O2,gD,S,gf,M⟩:=z;rw[vt]at gD S gf;have ae:=M _ _ R;have aT:=M _ _ aB;ext;have ah:D≠q:=λz=>by rw[z,R]at hD;cases hD
 have BA:But q G (upd G q (.ins a.A2 d.dp (zu (.ref d.ll) (.ref D) (.ref d.mp) (.ref d.el) (.int 0) (.ref d.pl)))):=But.upd;have U:upd G q (.ins a.A2 d.dp (zu (.ref d.ll) (.ref D) (.ref d.mp) (.ref d.el) (.int 0) (.ref d.pl))) q=some (.ins a.A2 d.dp (zu (.ref d.ll) (.ref D) (.ref d.mp) (.ref d.el) (.int 0) (.ref d.pl))):=ya;generalize upd G q (.ins a.A2 d.dp (zu (.ref d.ll) (.ref D) (.ref d.mp) (.ref d.el) (.int 0) (.ref d.pl)))=HA at BA U⊢;have SA:yv H HA:=λb o e=>BA _ _ (M _ _ (S1 _ _ e)) (yb e W);have hA:=h.same SA;have aP:=hA.me;have aG:=hA.mx.o;ext;exists u.mp,u.mx,u.ml,X.ws,rfl,hA.mx,by rw[h.wok.len];exact n1,by rw[h.wok.len];exact n6,λI av l3 HB J a1 MB SB=>?_
 have aS:=SB _ _ U;ext;have aa:I≠q:=(yb U J).symm;have ai:l3≠q:=(yb U a1).symm;have BC:But q HB (upd HB q (.ins a.A2 d.dp (zu (.ref d.ll) (.ref D) (.ref I) (.ref d.el) (.int 0) (.ref d.pl)))):=But.upd;have a8:upd HB q (.ins a.A2 d.dp (zu (.ref d.ll) (.ref D) (.ref I) (.ref d.el) (.int 0) (.ref d.pl))) q=some (.ins a.A2 d.dp (zu (.ref d.ll) (.ref D) (.ref I) (.ref d.el) (.int 0) (.ref d.pl))):=ya;generalize upd HB q (.ins a.A2 d.dp (zu (.ref d.ll) (.ref D) (.ref I) (.ref d.el) (.int 0) (.ref d.pl)))=HC at BC a8⊢;have SC:yv H HC:=λb o e=>BC _ _ (SB _ _ (SA _ _ e)) (yb e W);have aN:=SC _ _ hp;ext;refine û (SqL.of (SC _ _ h.el)) λr hr0=>?_;exists hr0,HD,SD,er;have aJ:=SD _ _ a8;ext;have aj:r≠q:=(yb a8 hr0).symm;have BE:But q HD (upd HD q (.ins a.A2 d.dp (zu (.ref d.ll) (.ref D) (.ref I) (.ref r) (.int 0) (.ref d.pl)))):=But.upd;have as:upd HD q (.ins a.A2 d.dp (zu (.ref d.ll) (.ref D) (.ref I) (.ref r) (.int 0) (.ref d.pl))) q=some (.ins a.A2 d.dp (zu (.ref d.ll) (.ref D) (.ref I) (.ref r) (.int 0) (.ref d.pl))):=ya;generalize upd HD q (.ins a.A2 d.dp (zu (.ref d.ll) (.ref D) (.ref I) (.ref r) (.int 0) (.ref d.pl)))=HE at BE as⊢;have SE:yv H HE:=λb o e=>BE _ _ (SD _ _ (SC _ _ e)) (yb e W);have aR:=SE _ _ hp;ext;have BF:But q HE (upd HE q (.ins a.A2 d.dp (zu (.ref d.ll) (.ref D) (.ref I) (.ref r) (.int X.nd) (.ref d.pl)))):=But.upd;have a7:upd HE q (.ins a.A2 d.dp (zu (.ref d.ll) (.ref D) (.ref I) (.ref r) (.int X.nd) (.ref d.pl))) q=some (.ins a.A2 d.dp (zu (.ref d.ll) (.ref D) (.ref I) (.ref r) (.int X.nd) (.ref d.pl))):=ya;generalize upd HE q (.ins a.A2 d.dp (zu (.ref d.ll) (.ref D) (.ref I) (.ref r) (.int X.nd) (.ref d.pl)))=HF at BF a7⊢;have ao:But q HD HF:=BE.trans BF;have a3:But q HB HF:=(BC.trans (But.of SD)).trans ao;have N:But q G HF:=(BA.trans (But.of SB)).trans a3;have SF:yv H HF:=λb o e=>N _ _ (M _ _ (S1 _ _ e)) (yb e W);have a6:=N _ _ gD ah;have a4:=ao _ _ er aj;have an:=a3 _ _ MB.o aa;have ak:=a3 _ _ MB.l ai
 have a9:∀j,j<u.n->¬O2 j q:=λj x w=>by
  have e:=S.oO j q x w;rw[R]at e;cases e
 have ap:Bks K a HF u.n bk dx u.lk dd u.kd u.ps f2 O2 m:=S.B.frame (O2:=λc=>c=q) (λc o e ne=>N c o e ne) (λj c x w z=>a9 j x (z ▸ w)) (λj x z=>by
  have e:=S.oB j x;rw[z,R]at e
  cases e) (λt xs e=>by
  rcases e with(e|⟨o,e⟩)|e
  .exact .inl (.inl (N _ _ e (λz=>by rw[z,ae]at e;cases e)))
  .exact .inl (.inr ⟨o,N _ _ e (λz=>by rw[z,ae]at e;cases e)⟩)
  .exact .inr e)
 have ay:ylh u.n u.kd f2 X.g:=λi hi k=>by
  rw[gf i hi];exact h.ag i hi k
 ext;exists q,d.dp,d.ll,D,I,r,d.pl,X.nd,X.sg,u.n,m,bk,dx,u.lk,dd,u.kd,u.ps,f2,O2,X.g,rfl,a7,a6,a4,ap,ay,n6,by omega,a9,λpl sl f' O' H' ax aD ab B' aw aA a2 F' L'=>?_
 have a5:∀j c,j<u.n->O2 j c->∃o,G c=some o:=λj c x w=>let ⟨o,ho,_⟩:=(S.B.b j x).own c w;⟨o,ho⟩
 have aq:∀j,j<u.n->¬O2 j I:=λj x w=>by
  let⟨o,ho⟩:=a5 j I x w;rw[BA _ _ ho aa]at J;cases J
 have nl:=λ{l:x0}{xs:Υ}(e:HF l=some (.lst xs))=>ap.nlst e;have L:d.ll≠q:=λz=>by rw[z,R]at Y;cases Y
 have a0:=N _ _ (M _ _ Y) L
 have SH:yv H H':=λc o e=>F' c o (SF c o e) (yb e W) λj x w=>by
  have e2:=S.oO j c x w;rw[S1 _ _ e]at e2;cases e2
 ext;refine k q ⟨d.dp,d.ll,D,I,av,l3,r,pl,u.n,bk,dx,u.lk,dd,sl,u.kd,u.ps⟩ f' O' H' W ⟨ax,F' _ _ a6 ah (nl a6),F' _ _ a4 aj (nl a4),⟨F' _ _ an aa aq,F' _ _ ak ai (nl ak)⟩,h.wok,aD,B',aw,aA,λj x w=>?_,λj x w=>?_,n1,n6⟩ ⟨F' _ _ a0 L (nl a0),λz=>?_,tp,Z.same SH⟩ rfl rfl rfl rfl (λj c x w=>?_) (λj x=>S1.free (S.oB j x)) (SA.free J) (λl hl=>?_) SH
 .rcases a2 j q x w with v|v
  .exact a9 j x v
  .rw[a7]at v;cases v
 .rcases a2 j I x w with v|v
  .exact aq j x v
  .rw[an]at v;cases v
 .have e:=BC _ _ (SB _ _ (BA _ _ (M _ _ Y) L)) L;rw[show d.ll=r from z,hr0]at e;cases e
 .rcases a2 j c x w with v|v
  .exact S1.free (S.oO j c x v)
  .exact SF.free v
 .rcases hl with z|z|z|z|z
  .rw[z];exact S1.free hD
  .rw[z];exact SC.free hr0
  .rw[z];exact SA.free a1
  .rw[z];exact SF.free ab
  .rw[z];exact S0.free ar
#synth yz2 ["sign"] ytw
inductive ygp(K:xr)(vs:Υ)(H:Hp)(Q:VK)(E':XK):Prop
 |mk(s:Int)(_:vs=[.int s])(_:∀r H',H r=none->H' r=some (.lst ((b8 s).map V.int))->yv H H'->Q (.ref r) H')
def vad:vz P w K mg Γ CX0 1 a.Jl a.Mb ["sign"] (ygp K):=by
 exists T.O8.F.ok,yz2,r;let⟨p,rfl,k⟩:=h;exists 1,0,yc (yq (wb (js:=[0]) (ys:=["sign"]) rfl (ye3 (ydb rfl T.I9)) (λC u g t=>(ym vo (ym vd (pv 1) (pv 0)) yg)) rfl rfl (hyc:=(all_cons rfl yt)) (hrel:=(all_cons rfl yt))));exists a.Bg,rfl,⟨_,T.D4 H⟩,λD f=>?_;refine Ň (wV p) (T.D4 H) f (λi y g j e b=>?_) (λg e b=>?_)
 .obtain⟨c,q,rfl,m⟩:∃c,0<c/\y=V.int c/\c<=128:=by
   have l:=bA j;simp only[bB,List.not_mem_nil,or_false]at l;rcases l with rfl|rfl|rfl|rfl|rfl|rfl|rfl|rfl<;>exact⟨_,by decide,rfl,by decide⟩
  ext;exact Mp.done f (by show 8<sizeLine;decide) j e b rfl
 .exact k D g f b e
#synth yjt ["text","bits","sign"] ["text"] yub
inductive yx1(K:xr)(vs:Υ)(H:Hp)(Q:VK)(E':XK):Prop
 |mk(t:x0)(ns:Ρ)(_:vs=[.ref t])(_:H t=some (.lst (ns.map V.int)))(_:Sgs ns)(_:ns.length<=1000)(_:∀r H',H r=none->H' r=some (.lst ((dec ns).map V.int))->yv H H'->Q (.ref r) H')
def yjz:vz P w K mg Γ CX0 5 a.Jm a.Mc ["text"] (yx1 K):=by
 exists T.Eu.F.ok,yjt,O;let⟨t,f,rfl,R,X,hz,k⟩:=h;exists 1,2,ye (yo (i:=1) yjt.nd rfl (Or.inl rfl) (xc uo)) (ye (xz PassesOwn.never rfl (vx (x4 (ygt T) O.m T.Fp vg (pa1 (pv 0)))) (vk (i:=2) yjt.nd rfl (Or.inl rfl)) (ye (yw (è PySem.F.plainAttrs_list PySem.F.slot_list_append PySem.F.type_list_append xh (pv 1) (pa1 yg))) (yc (yw (è PySem.F.plainAttrs_list PySem.F.slot_list_extend PySem.F.type_list_extend yhu (pv 1) (pa1 (uh (vad T) O.m T.O8 (pa1 (pv 2))))))))) (ye (yw (è PySem.F.plainAttrs_list PySem.F.slot_list_append PySem.F.type_list_append xh (pv 1) (pa1 yg))) (yc (yq (pv 1)))));exists by walk_at "len",λr hr0=>?_
 exists hr0,H1,S1,hr1;ext;exists .ref t,_,rfl,.lst (S1 _ _ R),.inr ⟨f.map V.int,Ñ (S1 _ _ R) X hz,λc H2 j n S=>?_⟩;have N:=S1.trans S;refine⟨c,rfl,⟨_,SqL.of n⟩,x8 (K:=K) (a:=c) (xs:=f.map V.int) (λi σ2 G=>∃v,σ2=[some (.ref t),some (.ref r),v]/\G r=some (.lst ((yca (f.take i)).map V.int))/\G c=some (.lst (f.map V.int))/\yv H G)
  ⟨_,rfl,S _ _ hr1,n,N⟩ (by rintro i σ2 G _ ⟨_,_,_,z,_⟩;exact SqL.of z) ?_ ?_⟩
 .rintro i y σ2 G Z ⟨v,rfl,d,l,L⟩;let⟨z,rfl,W,I,a1⟩:=z6 Z;have p:c≠r:=λe=>by rw[e,hr1]at j;cases j
  have B:(List.map V.int (yca (f.take i))).length<=9000:=by rw[be,j7,bH];omega
  ext;refine Â d ?_;ext;refine x9 d (ve (by omega)) ?_;have x:yv H (upd G r (.lst (List.map V.int (yca (f.take i))++[V.int 1]))):=λb o e=>yf (yb e hr0) (L b o e);have u:upd G r (.lst (List.map V.int (yca (f.take i))++[V.int 1])) c=some (.lst (f.map V.int)):=yf p l;have g:upd G r (.lst (List.map V.int (yca (f.take i))++[V.int 1])) r=some (.lst (List.map V.int (yca (f.take i)++[1]))):=by rw[ya,bF];rfl
  generalize upd G r (.lst (List.map V.int (yca (f.take i))++[V.int 1]))=G1 at x u g⊢;ext;refine Â g ?_;ext;exists z,rfl,λq G2 Y M J=>?_;ext;have C:=J _ _ g;exists r,q,_,_,rfl,rfl,C,M,jf (by rw[be,be,bp,yqg];rw[be]at B;show _+1+8<=_;omega),?_;ext;exists _,rfl,?_,?_,λb o e=>yf (yb e hr0) (J _ _ (x b o e))
  .rw[ya,zv I,ybb,yl9,cy];rfl
  .exact yf p (J _ _ u)
 .rintro σ2 G ⟨v,rfl,d,l,L⟩;rw[be,bY]at d;ext;refine Â d ?_;ext;refine x9 d (ve (by rw[be,j7];omega)) ?_;ext;refine k r _ hr0 ?_ λb o e=>yf (yb e hr0) (L b o e);rw[ya,yns,bF];rfl
#synth ykc ["number","size","places"] ["number","size"] yvm
inductive ygi  (vs:Υ) (H:Hp) (Q:VK) (E':XK):Prop
 |mk(n:Int)(k:Nat)(_:vs=[.int n,.int k])(_:k<=100000)(_:∀t H',H t=none->H' t=some (.lst ((wr k n).map V.int))->yv H H'->Q (.ref t) H')
def vbd:vz P w K mg Γ CX0 1 a.Jn a.Md ["number","size"] ygi:=by
 exists T.O9.F.ok,ykc,B;let⟨n,d,rfl,C,k⟩:=h;exists 2,1,ye (yo (i:=2) ykc.nd rfl (Or.inl rfl) (xc uo)) (ye (jd PassesOwn.never (yr ó (pcB yp T.Aa (pa1 (pv 2))) (pv 1) (yx _)) (ye (yw (è PySem.F.plainAttrs_list PySem.F.slot_list_append PySem.F.type_list_append xh (pv 2) (pa1 (ym vo (pv 0) yg)))) (yc (yo (i:=0) ykc.nd rfl (Or.inl rfl) (ym vd (pv 0) yg))))) (ye (yw (ykp PySem.F.plainAttrs_list PySem.F.slot_list_reverse PySem.F.type_list_reverse ō (pv 2))) (yc (yq (pv 2)))));exists by walk_at "len",λt j=>?_
 ext;exists λm σ' r=>∃(f:Int)(c:Ρ),σ'=[some (.int f),some (.int d),some (.ref t)]/\r t=some (.lst (c.map V.int))/\yv H r/\c++lo (d-c.length) f=lo d n/\c.length<=d/\m=d-c.length,⟨_,n,[],rfl,ya,y7 j,rfl,bJ _,rfl⟩,?_;rintro m σ2 D ⟨f,c,rfl,g,u,l,G,rfl⟩;ext;refine x5 (SqL.of g) ?_;rw[be];ext;refine ur (λv=>?_) (λv=>?_)
 .refine ybr ?_;ext;refine Â g ?_;ext;refine x9 g (by rw[be];exact ve (by omega)) ?_;ext;exists _,?_,f/256,c++[f%256],rfl,(ya.trans (by rw[yl2])),λb o e=>?_,?_,?_,rfl
  .rw[bp];show d-(c.length+1)<d-c.length;omega
  .rw[yk (yb e j)];exact u b o e
  .have p:d-c.length=d-(c++[f%256]).length+1:=by
    rw[bp];show d-c.length=d-(c.length+1)+1;omega
   rw[p]at l;rw[<- l,cy];rfl
  .rw[bp];show c.length+1<=d;omega
 .ext;have p:d-c.length=0:=by omega
  rw[p]at l;have z:c=lo d n:=by rw[<- l];simp[lo]
  refine Â g ?_;refine ybk g ?_;ext;refine k t _ j ?_ λb o e=>?_
  .rw[ya,ytk,z];rfl
  .rw[yk (yb e j)];exact u b o e
#synth yzq ["low","unit"] yv5
inductive Ĵ  (vs:Υ) (H:Hp) (Q:VK) (E':XK):Prop
 |mk(l e:Int)(_:vs=[.int l,.int e])(_:0<e)(_:e<2^63)(_:Q (.int (blk l e)) H)
def yqc:vz P w K mg Γ CX0 1 a.Jo a.Me ["low","unit"] Ĵ:=by exists T.Hs.F.ok,yzq,f;let⟨l,e,rfl,i,g,k⟩:=h;exists 2,0,yc (yq (ym vd (ym zy (ym wc (pv 0) (pv 1)) yg) (pv 1)));exact k
#synth yzg ["self"] yv4
inductive yr6(C:x0)(vs:Υ)(H:Hp)(Q:VK)(E':XK):Prop
 |mk(p dx:x0)(_:vs=[.ref p])(_:H p=some (.ins C dx []))(_:∀H',H' p=some (.ins C dx (jz s0))->But p H H'->Q .non H')
def yo8:vz P w K mg Γ CX0 1 a.Gn a.Mf ["self"] (yr6 a.A4):=by
 exists T.Dt.F.ok,yzg,j;let⟨p,c,rfl,f,k⟩:=h;exists 1,0,ye (y9 (pv 0) yg rfl) (ye (y9 (pv 0) (vn rfl T.Em) rfl) (yc (y9 (pv 0) (vn rfl T.G0) rfl)));exists p,_,c,_,rfl,f,T.Ag,T.Bq,by show 0<1000;decide,?_
 ext;exists p,_,c,_,rfl,ya,T.Ag,T.As,by show 1<1000;decide,?_
 ext;exists p,_,c,_,rfl,ya,T.Ag,T.B6,by show 2<1000;decide,?_
 have e:j9 "size" (.int 5) (j9 "width" (.int 1099511627776) (j9 "low" (.int 0) []))=jz s0:=by
  rw[wy,vw nLW wy,vw nLS (vw nWS wy)];rfl
 refine k _ (ya.trans (congrArg (λl=>some (HO.ins a.A4 c l)) e)) λb o h n=>?_;rw[yk n,yk n,yk n];exact h
#synth ywt ["self","chance"] yvv
inductive vay(C:x0)(vs:Υ)(H:Hp)(Q:VK)(E':XK):Prop
 |mk(p dx:x0)(x:Sn)(c:Int)(_:vs=[.ref p,.int c])(_:H p=some (.ins C dx (jz x)))(_:Ch c)(_:Q (.int (cut x.2.1 c)) H)
def yp0:vz P w K mg Γ CX0 1 a.Jp a.Mg ["self","chance"] (vay a.A4):=by exists T.Du.F.ok,ywt,g;let⟨p,f,x,c,rfl,i,⟨j,l⟩,k⟩:=h;exists 2,0,yc (yq (ym vd (ym wq (yn (pv 0) rfl) (pv 1)) (vn rfl T.Ce)));exact k
#synth yps ["self","chance","bit","cut"] ["self","chance","bit"] yt5
inductive yhi(K:xr)(C Nc Nb:x0)(vs:Υ)(H:Hp)(Q:VK)(E:XK):Prop
 |mk(p dx:x0)(x:Sn)(vc vb:V)(n m:String)(_:vs=[.ref p,vc,vb])(_:H p=some (.ins C dx (jz x)))(_:Ok x)(_:ue K H vc (.type n))(_:ue K H vb (.type m))(_:(chV vc=false->E (.ref Nc) none H))(_:(chV vc=true->õ vb=false->E (.ref Nb) none H))(_:∀c b:Int,vc=.int c->vb=.int b->Ch c->0<=b->b<=1->∀H',H' p=some (.ins C dx (jz (nar x c b)))->But p H H'->Q .non H')
def yo1:vz P w K mg Γ (CXe P w) 4 a.Jq a.Mh ["self","chance","bit"] (yhi K a.A4 a.Dm a.By):=by
 exists T.Dv.F.okE,yps,j;let⟨p,g,x,D,I,n,m,rfl,G,J,tc,Y,M,k2,k⟩:=h;exists _,(ye (yw (x4 (ytu T) j.m T.Op yz (pa1 (pv 1)))) (ye (yw (x4 (ĩ T) j.m T.Cm yz (pa1 (pv 2)))) (ye (yo (i:=3) yps.nd rfl (Or.inl rfl) (xg (pv 0) T.Ag T.Du.m (yp0 T) j.m T.Du.B .nil v7 (pa1 (pv 1)))) (ye (jx (wa (yr xq (pv 2) yg (yx _)) (yc (y9 (pv 0) (pv 3) rfl)) (ye (y9 (pv 0) (ym wc (yn (pv 0) rfl) (pv 3)) rfl) (yc (y9 (pv 0) (ym zy (yn (pv 0) rfl) (pv 3)) rfl))))) (yc (PS.nox (jd PassesOwn.never (yr ó (yn (pv 0) rfl) (vn rfl T.En) (yx _)) (ye (y9 (pv 0) (ym wq (yn (pv 0) rfl) yg) rfl) (ye (y9 (pv 0) (ym wq (yn (pv 0) rfl) yg) rfl) (yc (y9 (pv 0) (ym wc (yn (pv 0) rfl) yg) rfl))))))))))),?_;exists 3,1;have r:=J.w0;have q:=J.w1;ext;exists D,n,rfl,tc,λf=>?_,M;ext;exists I,m,rfl,Y,λv=>?_,k2 f;let⟨c,rfl,c1,N⟩:=ydh f;let⟨b,rfl,b0,W⟩:=yej v;have l:Ch c:=⟨c1,N⟩;have k:=k c b rfl rfl l b0 W;ext;exists p,g,_,rfl,G,lkN _ (by right) (by right) (by right),?_;ext;exists p,g,x,c,rfl,G,l,?_;ext;let⟨a1,a2,S⟩:=Ś r q l;refine yk6 (λσ' e=>∃y:Sn,σ'=[some (.ref p),some (.int c),some (.int b),some (.int (cut x.2.1 c))]/\e p=some (.ins a.A4 g (jz y))/\8388608<=y.2.1/\y.2.1<=1099511627776/\ren y.1 y.2.1 y.2.2=nar x c b/\But p H e) ?_ ?_
 .ext;refine ur (λd=>?_) (λd=>?_)
  .ext;exists _,rfl,ya,a1,Int.le_of_lt S,?_,But.upd;unfold nar
   (rw[if_pos d])<;>rfl
  .ext;exists _,rfl,ya,a2,?_,?_,But.upd.trans But.upd
   .show x.2.1-cut x.2.1 c<=_;omega
   .unfold nar
    (rw[if_neg d])<;>rfl
 .rintro σ' e ⟨y,rfl,t,U,X,O,R⟩;ext;exists λm σ' e=>∃y:Sn,σ'=[some (.ref p),some (.int c),some (.int b),some (.int (cut x.2.1 c))]/\e p=some (.ins a.A4 g (jz y))/\8388608<=y.2.1/\y.2.1<=1099511627776/\ren y.1 y.2.1 y.2.2=nar x c b/\But p H e/\m=(4294967296-y.2.1).toNat,⟨_,y,rfl,t,U,X,O,R,rfl⟩,?_;rintro m σ2 H2 ⟨z,rfl,Z,z1,z2,u,C,rfl⟩;ext;refine ur (λd=>?_) (λd=>?_)
  .refine ybr ?_;ext;exists _,?_,(z.1*256,z.2.1*256,z.2.2+1),rfl,ya,?_,?_,(ylk d z1).trans u,((C.trans But.upd).trans But.upd).trans But.upd,rfl
   .show (4294967296-z.2.1*256).toNat<(4294967296-z.2.1).toNat;omega
   .show 8388608<=z.2.1*256;omega
   .show z.2.1*256<=1099511627776;omega
  .rw[ys9 d]at u;refine k _ ?_ C;rw[<- u];exact Z
#synth yy7 ["self","unit"] yun
inductive ymt(C:x0)(vs:Υ)(H:Hp)(Q:VK)(E':XK):Prop
 |mk(p dx:x0)(x:Sn)(j:Nat)(_:vs=[.ref p,.int (pw j)])(_:H p=some (.ins C dx (jz x)))(_:j<=6)(_:Q (.bl (decide (Ŝ x.1 x.2.1 j))) H)
def yw7:vz P w K mg Γ CX0 2 a.Jr a.Mi ["self","unit"] (ymt a.A4):=by
 exists T.Ht.F.ok,yy7,c;let⟨p,g,x,j,rfl,l,i,k⟩:=h;exists _,(yc (yq (xv jg (ym wq (ym wc (uh (yqc T) c.m T.Hs (pac (yn (pv 0) rfl) (pa1 (pv 1)))) yg) (pv 1)) (ym wc (yn (pv 0) rfl) (yn (pv 0) rfl)) (yx _)))),?_;exists 2,0;have n:=yd9 i;have f:=ug j;ext;exists _,_,rfl,f,by omega,?_
 ext;exact k
#synth ybw ["self","unit","size"] ["self"] yu8
inductive yri(C:x0)(vs:Υ)(H:Hp)(Q:VK)(E':XK):Prop
 |mk(p dx:x0)(x:Sn)(_:vs=[.ref p])(_:H p=some (.ins C dx (jz x)))(_:OkS x)(_:sz x<=100000)(_:∀t H',H t=none->H' t=some (.lst ((tL x).map V.int))->yv H H'->Q (.ref t) H')
def yp6:vz P w K mg Γ CX0 3 a.Js a.Mj ["self"] (yri a.A4):=by
 exists T.Dw.F.ok,ybw,c;let⟨p,f,x,rfl,o,l,I,k⟩:=h;exists 1,2,ye (yo (i:=1) ybw.nd rfl (Or.inl rfl) yg) (ye (yo (i:=2) ybw.nd rfl (Or.inl rfl) (yn (pv 0) rfl)) (ye (jd PassesOwn.never (xo (xg (pv 0) T.Ag T.Ht.m (yw7 T) c.m T.Ht.B .nil v7 (pa1 (ym wq (pv 1) yg)))) (ye (yo (i:=1) ybw.nd rfl (Or.inl rfl) (ym wq (pv 1) yg)) (yc (yo (i:=2) ybw.nd rfl (Or.inl rfl) (ym zy (pv 2) yg))))) (yc (yq (uh (vbd T) c.m T.O9 (pac (uh (yqc T) c.m T.Hs (pac (yn (pv 0) rfl) (pa1 (pv 1)))) (pa1 (pv 2))))))));exists λm σ' r=>r=H/\∃j:Nat,σ'=[some (.ref p),some (.int (pw j)),some (.int (x.2.2-j))]/\j<=5/\tel x.1 x.2.1 (5-j) j=tK x/\m=6-j,⟨_,rfl,0,by simp[pw],by decide,rfl,rfl⟩,?_;rintro m σ2 G ⟨rfl,j,rfl,z,n,rfl⟩;have y:=yd9 (show j<=6 by omega);have v:=ug j;ext;exists p,f,_,rfl,o,lkN _ (by right) (by right) (by right),?_;ext;exists p,f,x,j+1,rfl,o,by omega,?_
 ext;refine ur (λb=>?_) (λb=>?_)
 .refine ybr ?_;ext;have t:=yk5 l.ok.w1 b;exists _,?_,rfl,j+1,?_,t,?_,rfl
  .show 6-(j+1)<6-j;omega
  .have e:x.2.2-(j:Int)-1=x.2.2-((j+1:Nat):Int):=by omega
   rw[e];rfl
  .rw[ymv b,<- n]
   congr 1
   omega
 .have g:j=tK x:=by rw[<- n,ys5 b]
  subst g;ext;exists _,_,rfl,v,by omega,?_
  ext;have C:=l.sz;have D:=(ynq l).2;have e:x.2.2-(tK x:Int)=((sz x-tK x:Nat):Int):=by omega
  rw[e];exists _,_,rfl,by omega,k
#synth vbq ["self","place"] yt3
inductive yfu(C:x0)(vs:Υ)(H:Hp)(Q:VK)(E':XK):Prop
 |mk(p dx pd:x0)(v1 v2 v3:V)(d:Ρ)(k:Nat)(_:vs=[.ref p,.int k])(_:H p=some (.ins C dx (yle (.ref pd) v1 v2 v3)))(_:H pd=some (.lst (d.map V.int)))(_:Q (.int ((d[k]?).getD 0)) H)
def vbg:vz P w K mg Γ CX0 1 a.Ju a.Mn ["self","place"] (yfu a.Ae):=by
 exists T.Hu.F.ok,vbq,r;let⟨p,i,o,f,g,q,d,n,rfl,t,e,k⟩:=h;exists 2,0,yc (yq (Ï (yr ó (pv 1) (pcB yp T.Aa (pa1 (yn (pv 0) rfl))) (yx _)) (xi xl (yn (pv 0) rfl) (pv 1) (λZ Z=>rfl)) yg));refine x5 (SqL.of e) ?_;rw[be];ext;refine ur (λj=>?_) (λj=>?_)
 .have c:n<d.length:=by omega
  rw[bg c]at k;ext;exact jy (SqL.of e) (vq (by rw[bn,bg c];rfl)) k
 .rw[ce (by omega)]at k;ext;exact k
#synth yz8 ["self"] yu6
inductive yhy(C D:x0)(vs:Υ)(H:Hp)(Q:VK)(E':XK):Prop
 |mk(p dx pd ps ds:x0)(d:Ρ)(x:Sn)(r:Nat)(_:vs=[.ref p])(_:H p=some (.ins C dx (yle (.ref pd) (.ref ps) (.int (rn d r)) (.int r))))(_:H pd=some (.lst (d.map V.int)))(_:H ps=some (.ins D ds (jz x)))(_:p≠ps)(_:OkS x)(_:r<=sz x)(_:∀H',H' p=some (.ins C dx (yle (.ref pd) (.ref ps) (.int (rn d (sz x))) (.int x.2.2)))->But p H H'->Q .non H')
def ypm:vz P w K mg Γ CX0 2 a.Jt a.Mm ["self"] (yhy a.Ae a.A4):=by
 exists T.Dx.F.ok,yz8,u;let⟨p,j,n,l,q,d,x,r,rfl,t,D,C,i,N,f,k⟩:=h;exists _,(yc (jd PassesOwn.never (yr ó (yn (pv 0) rfl) (yn (yn (pv 0) rfl) rfl) (yx _)) (ye (y9 (pv 0) (ym wc (ym wq (yn (pv 0) rfl) yg) (xg (pv 0) T.Br T.Hu.m (vbg T) u.m T.Hu.B .nil v7 (pa1 (yn (pv 0) rfl)))) rfl) (yc (y9 (pv 0) (ym wc (yn (pv 0) rfl) yg) rfl))))),?_;exists 1,0;have J:=N.sz;exists λm σ' o=>∃r:Nat,σ'=[some (.ref p)]/\o p=some (.ins a.Ae j (yle (.ref n) (.ref l) (.int (rn d r)) (.int r)))/\r<=sz x/\But p H o/\m=sz x-r,⟨_,r,rfl,t,f,But.refl,rfl⟩,?_;rintro m σ2 I ⟨r,rfl,b,v,c,rfl⟩;have z:I l=some (.ins a.A4 q (jz x)):=c _ _ C i.symm;have g:=c.lst t D;ext;refine ur (λG=>?_) (λG=>?_)
 .refine ybr ?_;ext;exists p,j,n,_,_,_,d,r,rfl,b,g,?_;ext;exists _,?_,r+1,rfl,?_,by omega,(c.trans But.upd).trans But.upd,rfl
  .omega
  .rw[ya];rfl
 .have L:r=sz x:=by omega
  subst L;ext;refine k _ ?_ c;rw[<- J];exact b
#synth yyy ["self","data"] yty
inductive yh2(K:xr)(a:Ads)(vs:Υ)(H:Hp)(Q:VK)(E:XK):Prop
 |mk(p dx:x0)(v:V)(n:String)(_:vs=[.ref p,v])(_:H p=some (.ins a.Ae dx []))(_:ue K H v (.type n))(_:((Bad K H v n 12000/\∀H',yv H H'->E (.ref a.Fg) none H')\/∃d:Ρ,vct K H v (d.map V.int) 12000/\∀pd ps ds H',H pd=none->H ps=none->yg3 a H' p dx pd ps ds d s0->But p H H'->Q .non H'))
def yyb:vz P w K mg Γ (CXe P w) 5 a.Gp a.Ml ["self","data"] (yh2 K a):=by
 exists T.Ev.F.okE,yyy,D;let⟨p,q,v,n,rfl,U,Z,h⟩:=h;exists 2,0,ye (y9 (pv 0) (x4 (vcf T) D.m T.P5 yz (pa1 (pv 1))) rfl) (ye (y9 (pv 0) (zk T.Pi (yo8 T) D.m rfl T.Ph T.Dt.B .nil v7) rfl) (ye (y9 (pv 0) yg rfl) (ye (y9 (pv 0) yg rfl) (yc (yw (vv (pv 0) T.Br T.Dx.m (ypm T) D.m T.Dx.B .nil v7))))));exists v,n,rfl,Z,?_;rcases h with⟨hb,k⟩|⟨d,Y,k⟩
 .exact .inl ⟨hb,k⟩
 .refine .inr ⟨d.map V.int,Y,λi C j I R=>?_⟩;have a1:=R _ _ U;have f:i≠p:=λz=>by rw[z,U]at j;cases j
  ext;have M:But p H (upd C p (.ins a.Ae q ([("data",V.ref i)]:Ι))):=(But.of R).trans But.upd;have r:upd C p (.ins a.Ae q ([("data",V.ref i)]:Ι)) p=some (.ins a.Ae q ([("data",V.ref i)]:Ι)):=ya;have u:upd C p (.ins a.Ae q ([("data",V.ref i)]:Ι)) i=some (.lst (d.map V.int)):=yf f I;generalize upd C p (.ins a.Ae q ([("data",V.ref i)]:Ι))=H2 at M r u⊢;intro t J g nds ne;exists t,J,rfl,ya,λW y B3=>⟨rfl,?_⟩;have L:yv H2 W:=λb o e=>B3 b o (by rw[yk (yb e g),yk (yb e nds)];exact e) (yb e g);have a0:=L _ _ r;have x:=L _ _ u;have c:p≠t:=yb r g
  have O:H t=none:=by
   cases e:H t with
   |none=>rfl
   |some o=>exact absurd (M _ _ e c.symm) (by rw[g];exact λz=>nomatch z)
  ext;exists p,q,i,t,J,d,s0,0,rfl,ya,?_,?_,c,vep,bJ _,λS N B4=>?_
  .exact yf f (yf f (yf f x))
  .exact yf c.symm (yf c.symm (yf c.symm y))
  .ext;have l:But p W S:=((But.upd.trans But.upd).trans But.upd).trans B4;exact k i t J S j O ⟨N,l _ _ x f,l _ _ y c.symm,c⟩ ((M.trans (But.of L)).trans l)
#synth yoq ["self","chance","bit"] ["self","chance"] yu9
inductive ymu(K:xr)(a:Ads)(vs:Υ)(H:Hp)(Q:VK)(E:XK):Prop
 |mk(p dx pd ps ds:x0)(d:Ρ)(x:Sn)(v:V)(n:String)(_:vs=[.ref p,v])(_:yg3 a H p dx pd ps ds d x)(_:OkS x)(_:ue K H v (.type n))(_:(chV v=false->E (.ref a.Dm) none H))(_:∀c:Int,v=.int c->Ch c->∀H',yg3 a H' p dx pd ps ds d (nar x c (ô d x c))->ylg p ps H H'->Q (.int (ô d x c)) H')
def yxm{x:Sn}{c b:Int}(h:Ok x)(hc:Ch c):sz x<=sz (nar x c b):=by
 let⟨r,e⟩:=vb5 (if b=1 then x.1 else x.1+cut x.2.1 c) (if b=1 then cut x.2.1 c else x.2.1-cut x.2.1 c) x.2.2
 have a:nar x c b=ren (if b=1 then x.1 else x.1+cut x.2.1 c) (if b=1 then cut x.2.1 c else x.2.1-cut x.2.1 c) x.2.2:=by
  unfold nar
  split<;>rfl
 rw[a,e];unfold sz;dsimp only;omega
def yxe:vz P w K mg Γ (CXe P w) 5 a.Jv a.Mo ["self","chance"] (ymu K a):=by
 exists T.Hv.F.okE,yoq,u;let⟨p,I,N,o,q,d,x,v,n,rfl,j,C,U,Y,k⟩:=h;exists 2,1,ye (yw (x4 (ytu T) u.m T.Op yz (pa1 (pv 1)))) (ye (jx (yo (i:=2) yoq.nd rfl (Or.inl rfl) (Ï (yr ó (yn (pv 0) rfl) (ym wc (yn (yn (pv 0) rfl) rfl) (xg (yn (pv 0) rfl) T.Ag T.Du.m (yp0 T) u.m T.Du.B .nil v7 (pa1 (pv 1)))) (yx _)) yg yg))) (ye (yw (vh (yn (pv 0) rfl) T.Ag T.Dv.m (yo1 T) u.m T.Dv.B .nil yz (pac (pv 1) (pa1 (pv 2))))) (ye (yw (vv (pv 0) T.Br T.Dx.m (ypm T) u.m T.Dx.B .nil v7)) (yc (yq (pv 2))))));exists v,n,rfl,U,λhv=>?_,Y;let⟨c,rfl,c1,Z⟩:=ydh hv;have r:Ch c:=⟨c1,Z⟩;have k:=k c rfl r;have G:=j.me;have e:=j.sp;ext;refine yk6 (λσ' R=>σ'=[some (.ref p),some (.int c),some (.int (ô d x c))]/\H=R) ?_ ?_
 .ext;exists o,q,_,rfl,e,lkN _ (by right) (by right) (by right),?_;ext;exists o,q,x,c,rfl,e,r,?_;ext;unfold ô;refine ur (λy=>?_) (λy=>?_)
  .rw[if_pos y];ext;exists rfl,rfl
  .rw[if_neg y];ext;exists rfl,rfl
 .rintro σ' R ⟨rfl,rfl⟩;have O:=Ź d x c;generalize y:ô d x c=b at O k⊢;ext;exists o,q,_,rfl,e,lkN _ (by right) (by right) (by right),?_;ext;exists o,q,x,.int c,.int b,_,_,rfl,e,C.ok,.int c,.int b,(λz=>by rw[ye0 r]at z;cases z),(λF z=>by rw[ydc (by omega) (by omega)]at z;cases z),λc' X ec eb F F F W t J=>?_;obtain rfl:c=c':=V.int.inj ec;obtain rfl:b=X:=V.int.inj eb;have f:=J _ _ G j.ne;have g:=J.lst e j.dt;ext;have l:W p=some (.ins a.Ae I (yle (.ref N) (.ref o) (.int (rn d (sz x))) (.int ((sz x:Nat):Int)))):=by rw[C.sz];exact f
  exists p,I,N,o,q,d,nar x c b,sz x,rfl,l,g,t,j.ne,yc6 C r,yxm C.ok r,λH2 L M=>?_;ext;exact k H2 ⟨L,M.lst f g,M _ _ t j.ne.symm,j.ne⟩ (J.two'.trans M.two)
#synth yyl ["self"] yud
inductive yhm(a:Ads)(vs:Υ)(H:Hp)(Q:VK)(E':XK):Prop
 |mk(p dx pd ps ds:x0)(d:Ρ)(x:Sn)(_:vs=[.ref p])(_:yg3 a H p dx pd ps ds d x)(_:OkS x)(_:sz x<=tMx)(_:∀t H',H t=none->H' t=some (.lst ((tL x).map V.int))->yv H H'->Q (.ref t) H')
def yy9:vz P w K mg Γ CX0 4 a.Jw a.Mq ["self"] (yhm a):=by exists T.Hw.F.ok,yyl,j;let⟨p,t,r,c,f,d,x,rfl,g,l,i,k⟩:=h;have q:=g.me;have b:=g.sp;exists 1,0,yc (yq (vv (yn (pv 0) rfl) T.Ag T.Dw.m (yp6 T) j.m T.Dw.B .nil v7));exists c,f,_,rfl,b,lkN _ (by right) (by right) (by right),?_;ext;exists c,f,x,rfl,b,l,i,k
#synth yzh ["thing"] yt7
def ybl(K:xr):Sp:=λvs H Q Z=>(vs=[.non]/\∀r H',H r=none->H' r=some (.lst [])->yv H H'->Q (.ref r) H')\/∃(l:x0)(n:Nat)(tx:Μ)(tt:Λ),vs=[.ref l]/\H l=some (.lst (refs tx n))/\n<=1000/\(∀i,i<n->jj H (tx i) (tt i) 1000)/\
 ∀r(cx:Μ)H',H r=none->H' r=some (.lst (refs cx n))->(∀i,i<n->H (cx i)=none/\H' (cx i)=some (.lst ((tt i).map V.int)))->yv H H'->Q (.ref r) H'
def yj6:vz P w K mg Γ CX0 5 a.Jx a.Mr ["thing"] (ybl K):=by
 refine T.Ew.F.ok yzh (λY H Q E h=>?_) (λa0 A I s H Y Q E U h=>?_)
 .rcases h with⟨rfl,_⟩|⟨l,n,B,O,rfl,_⟩<;>rfl
 .rcases h with⟨rfl,k⟩|⟨l,n,B,O,rfl,R,hn,Z,k⟩
  .exists _,(ye (wa (yr yep (pv 0) zf (yx _)) (yc (yq (xc uo))) y6) (ye (wa (xn (xo (pcB wv T.A7 (pac (pv 0) (pa1 (jw (T:="list") rfl T.Af (by right))))))) (yc Ż) y6) (yc (yq (wb (js:=[]) (ys:=[]) rfl (vx (pv 0)) (λC s2 H2 fp=>(x4 (ygt T) U.m T.Fp vg (pa1 (pv 0)))) rfl rfl (hyc:=yt) (hrel:=yt)))))),?_;refine yj (σ':=[some _]) rfl ?_;ext;refine ved ?_;ext;exists by walk_at "len",λr u=>?_
   exact k r _ u ya (y7 u)
  .exists _,(ye (wa (yr yep (pv 0) zf (yx _)) (yc (yq (xc uo))) y6) (ye (wa (xn (xo (pcB wv T.A7 (pac (pv 0) (pa1 (jw (T:="list") rfl T.Af (by right))))))) (yc Ż) y6) (yc (yq (wb (js:=[]) (ys:=[]) rfl (vx (pv 0)) (λC s2 H2 fp=>(x4 (ygt T) U.m T.Fp vg (pa1 (pv 0)))) rfl rfl (hyc:=yt) (hrel:=yt)))))),?_;refine yj (σ':=[some _]) rfl ?_;ext
   refine ydk (λz=>nomatch z) ?_
   ext;refine ò (.lst R) (yni _ _) ?_;ext;exists l,rfl,⟨_,SqL.of R⟩,λD L=>?_;refine ul (K:=K) (xs:=refs B n) (λi G=>∃f:Μ,G D=some (.lst (refs f i))/\(∀j,j<i->H (f j)=none/\G (f j)=some (.lst ((O j).map V.int))/\f j≠D)/\yv H G)
    ⟨λF=>0,ya,λj v=>absurd v (bI j),y7 L⟩ (λi G F ⟨_,_,_,S⟩=>SqL.of (S _ _ R)) (λi y G X x z=>?_) (λG z=>?_)
   .obtain⟨f,t,q,S⟩:=z;let⟨rfl,J⟩:=uw X;have d:=(Z i J).same S;ext;exists .ref (B i),_,rfl,.lst d.l,.inr ⟨(O i).map V.int,Ñ d.l d.s d.z,λc G2 g M N=>?_⟩;have W:c≠D:=(yb t g).symm;refine we (n:=(refs B n).length) (N _ _ t) (ve (by rw[vt];omega)) x ?_;exists upN f i c,?_,λj v=>?_,λb o e=>yf (yb e L) (N _ _ (S b o e))
    .rw[ya,x6,wo]
     congr 3
     exact xx λj v=>(wj v).symm
    .by_cases z:j=i
     .rw[z,wo];exists S.free g,yf W M,W
     .have p:j<i:=by omega
      rw[wj p];let⟨g1,g2,g3⟩:=q j p;exists g1,yf g3 (N _ _ g2),g3
   .obtain⟨f,t,q,S⟩:=z;rw[vt]at t q;exact k D f G L t (λi x=>⟨(q i x).1,(q i x).2.1⟩) S
def ė{H:Hp}{lx:V}{N w:Nat}{lt:Μ}{tt:Λ}{Q:VK}{E:XK}(h:ywa H lx N w lt tt)(hw:w<=1000)(hN:N<=1000)
  (k:∀r(cx:Μ)H',H r=none->H' r=some (.lst (refs cx N))->(∀i,i<N->H (cx i)=none/\H' (cx i)=some (.lst ((tt i).map V.int)))->yv H H'->Q (.ref r) H'):ybl K [lx] H Q E:=by
 obtain⟨⟨rfl,rfl⟩|⟨e,rfl,c⟩,b⟩:=h
 .exact .inl ⟨rfl,λr H' d f S=>k r (λZ=>0) H' d f (λi a=>absurd a (bI i)) S⟩
 .exact .inr ⟨e,N,lt,tt,rfl,c,hN,λi a=>⟨(b i a).l,(b i a).s,bP (b i a).z hw⟩,k⟩
structure vf4(H H':Hp)(r:x0)(m:Nat)(tu cl:Μ)(mx:Nat->Int)(cs:Λ)(bt:Nat->Int):Prop where
 r0:H r=none
 r:H' r=some (.lst (refs tu m))
 t:∀j,j<m->H' (tu j)=some (.tup [.int (mx j),.ref (cl j),.int (bt j)])
 c:∀j,j<m->H (cl j)=none/\H' (cl j)=some (.lst ((cs j).map V.int))
#synth ykt ["foreteller","texts","text","bit"] ["foreteller","texts"] yvc
inductive ym2(K:xr)(a:Ads)(vs:Υ)(H:Hp)(Q:VK)(E':XK):Prop
 |mk(p:x0)(A:FA)(X:FX)(f:Α)(O:Β)(m:Nat)(tl:x0)(n w:Nat)(tx:Μ)(tt:Λ)(_:vs=[.ref p,.ref tl])(_:u7 K a H p A X f O m)(_:X.sg=[])(_:X.nd=0)(_:H tl=some (.lst (refs tx n)))(_:tl≠A.el)(_:(∀i,i<n->jj H (tx i) (tt i) w/\tx i≠A.el))(_:w<=1000)(_:m+6*(n*(9*w+1))+20<1000000)(_:∀(ml el pl:x0)(sl:Μ)(f':Α)(O':Β)(m':Nat)(H':Hp),u7 K a H' p (A.re ml el pl sl) (X.run A (uu tt n)) f' O' m'->m'<=m+6*(n*(9*w+1))->FGo p A O H H' el O'->(X.run A (uu tt n)).sg=[]->(X.run A (uu tt n)).nd=0->Q .non H')
def yj5:vz P w K mg Γ CX0 7 a.Jy a.Ms ["foreteller","texts"] (ym2 K a):=by
 exists T.Ex.F.ok,ykt,hr;let⟨p,c,X,f,O,m,tl,n,w,tx,d,rfl,hF,af,ad,a3,a6,an,hw,hm,k⟩:=h;exists 2,2,yc (xz PassesOwn.never rfl (vx (pv 1)) (vk (i:=2) ykt.nd rfl (Or.inl rfl)) (yc (xz PassesOwn.never rfl (vx (uh (yjz T) hr.m T.Eu (pa1 (pv 2)))) (vk (i:=3) ykt.nd rfl (Or.inl rfl)) (yc (yw (xg (pv 0) T.Ac T.Ca.m (yff T) hr.m T.Ca.B .nil v7 (pa1 (pv 3))))))));refine⟨tl,rfl,⟨_,SqL.of a3⟩,x8 (K:=K) (a:=tl) (xs:=refs tx n) (λi σ2 G=>∃(v1 J:Ψ)(W u Z:x0)(U:Μ)(f':Α)(O':Β)(m':Nat),σ2=[some (.ref p),some (.ref tl),v1,J]/\u7 K a G p (c.re W u Z U) (X.run c (uu d i)) f' O' m'/\m'<=m+6*(i*(9*w+1))/\FGo p c O H G u O'/\(X.run c (uu d i)).sg=[]/\(X.run c (uu d i)).nd=0)
  ⟨_,_,c.ml,c.el,c.pl,c.sl,f,O,m,rfl,hF,Nat.le_add_right _ _,FGo.refl,af,ad⟩ (by rintro i σ2 G _ ⟨_,_,_,_,_,_,_,_,_,_,_,_,go,_,_⟩;exact SqL.of ((go.kpa hF).lst a3 a6)) ?_ ?_⟩
 .rintro i y σ2 G hy ⟨v1,J,W,u,Z,U,f1,O1,m1,rfl,q,L,r,o,g⟩;let⟨rfl,a0⟩:=uw hy;let⟨C,ac⟩:=an i a0;have a1:=(r.kpa hF).lst C.l ac;have M:=C.s;have hz:=C.z
  have a5:i*(9*w+1)+(9*w+1)<=n*(9*w+1):=by
   have:(i+1)*(9*w+1)<=n*(9*w+1):=Nat.mul_le_mul_right _ a0;rw[Nat.add_mul,Nat.one_mul]at this;exact this
  have aq:=xm (d i);ext;exists tx i,d i,rfl,a1,M,by omega,λbt G1 a4 x S1=>?_
  have v:=q.same S1;have ae:bt≠u:=(yb q.el a4).symm;refine⟨bt,rfl,⟨_,SqL.of x⟩,x8 (K:=K) (a:=bt) (xs:=(dec (d i)).map V.int) (λj σ2 G'=>∃(J:Ψ)(ml' el' pl':x0)(sl':Μ)(f':Α)(O':Β),σ2=[some (.ref p),some (.ref tl),some (.ref (tx i)),J]/\u7 K a G' p (c.re ml' el' pl' sl') ((X.run c (uu d i)).run c ((dec (d i)).take j)) f' O' (m1+6*j)/\FGo p (c.re W u Z U) O1 G1 G' el' O'/\TxE (d i) j ((X.run c (uu d i)).run c ((dec (d i)).take j)).sg ((X.run c (uu d i)).run c ((dec (d i)).take j)).nd)
   ⟨_,W,u,Z,U,f1,O1,rfl,v,FGo.refl,.inl ⟨bJ _,by show yao _ _ (X.run c (uu d i)).sg (X.run c (uu d i)).nd;rw[o,g];exact yao.zero _⟩⟩ (by rintro j σ2 G' _ ⟨_,_,_,_,_,_,_,_,_,go,_⟩;exact SqL.of ((go.kpa v).lst x ae)) ?_ ?_⟩
  .rintro j y σ3 G' hy ⟨J,S,I,R,D,f2,O2,rfl,e,N,Y⟩;let⟨b,rfl,ak,hb,hj⟩:=z6 hy;let⟨b0,b1⟩:=jc _ b ak;let⟨a2,ag⟩:=Y.next M hb;let⟨ah,as⟩:=a2.nd M;have ar:=a2.len;have ap:=e.me;ext;exists p,c.re S I R D,_,f2,O2,m1+6*j,b,rfl,e,b0,b1,by omega,ah,by omega,λao a9 a7 al f3 O3 G3 a8 aj ab ai aa F=>?_
   ext;have n6:=e.n6;exists _,ao,a9,a7,al,f3,O3,rfl,?_,N.trans ⟨a8,ab,ai,aa⟩,?_
   .rw[zj hb];exact aj.up (by show m1+6*j+c.n<=_;have:c.n<=6:=n6;omega)
   .rw[zj hb];exact ag
  .rintro σ3 G' ⟨J,S,I,R,D,f2,O2,rfl,e,N,Y⟩;rw[be]at e Y;rw[bY]at e Y;have er:X.run c (uu d (i+1))=(X.run c (uu d i)).run c (dec (d i)):=τ c _ _ X;rw[<- er]at e Y
   have t:(X.run c (uu d (i+1))).sg=[]/\(X.run c (uu d (i+1))).nd=0:=by
    rcases Y with⟨h,_⟩|⟨_,h⟩
    .omega
    .exact h
   ext;exists _,_,S,I,R,D,f2,O2,_,rfl,e,by rw[Nat.add_mul,Nat.one_mul];omega,r.trans (FGo.ahead S1 N),t.1,t.2
 .rintro σ2 G ⟨v1,J,W,u,Z,U,f1,O1,m1,rfl,q,L,r,o,g⟩;rw[vt]at q L o g;ext;exact k W u Z U f1 O1 m1 G q L r o g
#synth ybs ["looks","text","learned","foreteller","bits","rows","bit"] ["looks","text","learned"] yvg
inductive yrr(K:xr)(a:Ads)(vs:Υ)(H:Hp)(Q:VK)(E':XK):Prop
 |mk(L tx:x0)(lx:V)(n:Nat)(lk:Μ)(kd:Ξ)(tp:Μ)(ps:Λ)(ts:Ρ)(N w:Nat)(lt:Μ)(tt:Λ)(_:vs=[.ref L,.ref tx,lx])(_:vew H L tx lx n lk kd tp ps ts N w lt tt)(_:∀r(tu cl:Μ)H',vf4 H H' r (dec ts).length tu cl (ut n kd ps (uu tt N) ts) (fCs n kd ps (uu tt N) ts) (vi ts)->(∀k,k<(dec ts).length->Ch (ut n kd ps (uu tt N) ts k)/\WOk n (fX n kd ps (uu tt N) ts k).ws/\COk n (fCs n kd ps (uu tt N) ts k))->(∀i j,i<(dec ts).length->j<(dec ts).length->i≠j->cl i≠cl j)->yv H H'->Q (.ref r) H')
def yxp:vz P w K mg Γ CX0 8 a.Jz a.Mt ["looks","text","learned"] (yrr K a):=by
 exists T.Oa.F.ok,ybs,hr;let⟨L,tx,lx,n,lk,kd,tp,ps,u,N,w,lt,tt,rfl,q,k⟩:=h;have aA:=q.b;have n1:=q.n1;have n6:=q.n6;refine yh (yo (i:=3) ybs.nd rfl (Or.inl rfl) (ua T.Pg (yb0 T) hr.m rfl T.Pf T.Cn.B .nil vg (pa1 (pv 0)))) ?_;refine yh (yo (i:=4) ybs.nd rfl (Or.inl rfl) (uh (yjz T) hr.m T.Eu (pa1 (pv 1)))) ?_;refine yh (yw (uh (yj5 T) hr.m T.Ex (pac (pv 3) (pa1 (uh (yj6 T) hr.m T.Ew (pa1 (pv 2))))))) ?_;refine yh (yo (i:=5) ybs.nd rfl (Or.inl rfl) (xc uo)) ?_;refine yh (xz PassesOwn.never rfl (vx (pv 4)) (vk (i:=6) ybs.nd rfl (Or.inl rfl)) (ye (yw (è PySem.F.plainAttrs_list PySem.F.slot_list_append PySem.F.type_list_append xh (pv 5) (pa1 (ī (pac (vv (pv 3) T.Ac T.Cu.m (ykm T) hr.m T.Cu.B .nil v7) (pac (vv (pv 3) T.Ac T.Ct.m (yju T) hr.m T.Ct.B .nil v7) (pa1 (pv 6)))))))) (yc (yw (xg (pv 3) T.Ac T.Ca.m (yff T) hr.m T.Ca.B .nil v7 (pa1 (pv 6))))))) ?_;exists 3,4,yc (yq (pv 5));intro p dp np aP aZ;have S0:yv H (upd (upd H dp (.own p)) p (.ins a.A2 dp [])):=λb o e=>by rw[yk (yb e np),yk (yb e aP)];exact e
 exists p,dp,.ref L,rfl,ya,.inr ⟨L,n,lk,kd,tp,ps,rfl,S0 _ _ q.l,n1,n6,q.r.same S0,λA f O H1 N1 B1=>⟨rfl,?_⟩⟩;let⟨ap,rfl,rfl,rfl,rfl,oO,oB,oM,oL⟩:=N1;have S1:yv H H1:=λb o e=>B1 b o (S0 b o e) (yb e np);have Y:∀{c:x0},upd (upd H dp (.own p)) p (.ins a.A2 dp []) c=none->H c=none:=λh=>S0.free h;have aq:H A.el=none:=Y (oL A.el (.inr (.inl rfl)));ext;exists tx,u,rfl,S1 _ _ q.t.l,q.t.s,q.t.z,λbt H2 av ac S2=>?_;have a6:=S1.trans S2;have S:=ap.same S2;have al:bt≠A.el:=(yb ap.el av).symm;ext;refine ė (q.lr.same a6) q.w1 q.N1 λaQ cx H3 h0 h3 hx S3=>?_;ext;exists p,A,FX0 A.n A.kd,f,O,6,aQ,N,w,cx,tt,rfl,S.same S3,rfl,rfl,h3,(yb S.el h0).symm,λi g=>⟨⟨(hx i g).2,(q.lr.2 i g).s,(q.lr.2 i g).z⟩,(yb S.el (hx i g).1).symm⟩,q.w1,by omega,λml el pl sl f1 O1 m1 H4 a3 aG a5 an ak=>?_
 have a5:=FGo.ahead S3 a5;have a3:=a3.up aG;have ay:=(a5.kpa S).lst ac al;have aU:=xm u;have aV:=q.t.z;have au:=q.t.s;generalize hX:(FX0 A.n A.kd).run A (uu tt N)=x at a3 an ak;generalize hM:6+6*(N*(9*w+1))=M at a3 aA;ext;exists by walk_at "len",λR hR0=>?_
 exists hR0,H5,S5,hR5;have ax:H2 R=none:=a5.free hR0;ext;refine⟨bt,rfl,⟨_,SqL.of (S5 _ _ ay)⟩,x8 (K:=K) (a:=bt) (xs:=(dec u).map V.int) (λj σ2 G=>∃(v:Ψ)(ml el pl:x0)(sl:Μ)(f':Α)(O':Β)(W cl:Μ),σ2=[some (.ref L),some (.ref tx),some lx,some (.ref p),some (.ref bt),some (.ref R),v]/\
   u7 K a G p (A.re ml el pl sl) (x.run A ((dec u).take j)) f' O' (M+6*j)/\FGo p A O H2 G el O'/\TxE u j (x.run A ((dec u).take j)).sg (x.run A ((dec u).take j)).nd/\(G R=some (.lst (refs W j))/\R≠el)/\
   (∀i,i<j->G (W i)=some (.tup [.int (ylc (x.run A ((dec u).take i)).ws ((x.run A ((dec u).take i)).cs A)),.ref (cl i),.int (vi u i)])/\G (cl i)=some (.lst (((x.run A ((dec u).take i)).cs A).map V.int))/\cl i≠el/\H2 (cl i)=none/\cl i≠R)/\
   (∀i,i<j->WOk A.n (x.run A ((dec u).take i)).ws/\COk A.n ((x.run A ((dec u).take i)).cs A))/\(∀i l,i<j->l<j->i≠l->cl i≠cl l))
  ⟨_,ml,el,pl,sl,f1,O1,λF=>0,λF=>0,rfl,a3.same S5,a5.same S5,.inl ⟨bJ _,by show yao _ _ x.sg x.nd;rw[an,ak];exact yao.zero _⟩,⟨hR5,(yb a3.el hR0).symm⟩,λi g=>absurd g (bI i),λi g=>absurd g (bI i),λi F g=>absurd g (bI i)⟩
  (by rintro j σ2 G _ ⟨_,_,_,_,_,_,_,_,_,_,_,go,_⟩;exact SqL.of ((go.kpa S).lst ac al)) ?_ ?_⟩
 .rintro j y σ2 G hy ⟨v,a1,C,a2,a0,f2,O2,W,cl,rfl,hF,go,hT,⟨hR,nR⟩,d,X,Z⟩;let⟨b,rfl,aH,hb,hj⟩:=z6 hy;let⟨b0,b1⟩:=jc _ b aH;let⟨aj,aC⟩:=hT.next au hb;let⟨aD,aX⟩:=aj.nd au;have aW:=aj.len;have aK:vi u j=b:=by unfold vi;rw[hb];rfl
  have aM:=hF.me;ext;refine Â hR ?_;ext;exists p,A.re a1 C a2 a0,_,f2,O2,_,rfl,hF,λG1 T1=>?_;have aT:=T1 _ _ aM;ext;exists p,A.re a1 C a2 a0,_,f2,O2,_,rfl,hF.same T1,λc G2 a8 aO T2=>?_;ext;exists by walk_at "len",λt ht0=>?_
  exists ht0,G3,T3,ht3;have D:=T1.trans (T2.trans T3);ext;refine x9 (D _ _ hR) (ve (by rw[vt];omega)) ?_;have ao:=hF.same D;have a7:=D _ _ hR;have J:u7 K a (upd G3 R (.lst (refs W j++[V.ref t]))) p (A.re a1 C a2 a0) (x.run A ((dec u).take j)) f2 O2 (M+6*j):=ao.app a7 (ao.notR a7 (λi g=>⟨_,D _ _ (d i g).1,rfl⟩) nR);have aa:FGo p A O H2 (upd G3 R (.lst (refs W j++[V.ref t]))) C O2:=(go.same D).app ax;have as:c≠R:=(yb (T1 _ _ hR) a8).symm;have ag:c≠C:=(yb (hF.same T1).el a8).symm;have ad:upd G3 R (.lst (refs W j++[V.ref t])) c=some (.lst (((x.run A ((dec u).take j)).cs A).map V.int)):=yf as (T3 _ _ aO);have af:upd G3 R (.lst (refs W j++[V.ref t])) t=some (.tup [.int (ylc (x.run A ((dec u).take j)).ws ((x.run A ((dec u).take j)).cs A)),.ref c,.int b]):=yf (wz ht3 a7 (by intro z;cases z)) ht3
  have ae:upd G3 R (.lst (refs W j++[V.ref t])) R=some (.lst (refs (upN W j t) (j+1))):=by
   rw[ya,x6,wo]
   congr 3
   exact xx λi g=>(wj g).symm
  have Ŝ:∀i,i<j->upd G3 R (.lst (refs W j++[V.ref t])) (W i)=some (.tup [.int (ylc (x.run A ((dec u).take i)).ws ((x.run A ((dec u).take i)).cs A)),.ref (cl i),.int (vi u i)])/\upd G3 R (.lst (refs W j++[V.ref t])) (cl i)=some (.lst (((x.run A ((dec u).take i)).cs A).map V.int)):=λi g=>⟨yf (wz (D _ _ (d i g).1) a7 (by intro z;cases z)) (D _ _ (d i g).1),yf (d i g).2.2.2.2 (D _ _ (d i g).2.1)⟩;have a9:H2 c=none:=go.free (T1.free a8);have a4:∀i,i<j->cl i≠c:=λi g=>yb (T1 _ _ (d i g).2.1) a8;have ar:=hF.wok;have ai:=hF.cok;generalize upd G3 R (.lst (refs W j++[V.ref t]))=G4 at J aa ad af ae Ŝ⊢;have aY:=J.me;ext;have b3:=hF.n6;exists p,A.re a1 C a2 a0,_,f2,O2,M+6*j,b,rfl,J,b0,b1,by omega,aD,by omega,λaN ah az aI f3 O3 G5 aJ aF aR aE aB F=>?_
  have aw:FGo p (A.re a1 C a2 a0) O2 G4 G5 ah O3:=⟨aJ,aR,aE,aB⟩;have U:=aw.kpa J;have ab:=J.el;ext;exists _,aN,ah,az,aI,f3,O3,upN W j t,upN cl j c,rfl,?_,aa.trans aw,?_,⟨(U _ _ ae rfl nR).2,(U _ _ ae rfl nR).1⟩,λi g=>?_,λi g=>?_,λi l g hl aS=>?_
  .rw[zj hb];exact aF.up (by show M+6*j+A.n<=_;omega)
  .rw[zj hb];exact aC
  .by_cases z:i=j
   .rw[z,wo,wo,aK];exists(U _ _ af rfl (wz af ab (by intro z;cases z))).2,(U _ _ ad rfl ag).2,(U _ _ ad rfl ag).1,a9,as
   .have I:i<j:=by omega
    rw[wj I,wj I];let⟨o1,o2⟩:=Ŝ i I;let⟨_,_,r3,r4,r5⟩:=d i I;exists(U _ _ o1 rfl (wz o1 ab (by intro z;cases z))).2,(U _ _ o2 rfl r3).2,(U _ _ o2 rfl r3).1,r4,r5
  .by_cases z:i=j
   .rw[z];exists ar,ai
   .exact X i (by omega)
  .by_cases z:i=j
   .have am:l<j:=by omega
    rw[z,wo,wj am];exact(a4 l am).symm
   .have I:i<j:=by omega
    rw[wj I];by_cases z2:l=j
    .rw[z2,wo];exact a4 i I
    .rw[wj (by omega)];exact Z i l I (by omega) aS
 .rintro σ2 G ⟨v,a1,C,a2,a0,f2,O2,W,cl,rfl,hF,go,hT,⟨hR,nR⟩,d,X,Z⟩;rw[be]at d X Z;rw[be]at hR
  have eX:∀i,fX A.n A.kd A.ps (uu tt N) u i=x.run A ((dec u).take i):=λi=>by
   unfold fX;rw[<- jv,<- jv,hX]
  ext;refine k R W cl G ⟨a6.free ax,hR,λi g=>?_,λi g=>⟨a6.free (d i g).2.2.2.1,?_⟩⟩ (λi g=>⟨?_,?_,?_⟩) Z ?_
  .rw[(d i g).1];unfold ut;rw[eX];rfl
  .rw[(d i g).2.1];unfold fCs;rw[eX];rfl
  .unfold ut;rw[eX];exact yeu n1 (X i g).1 (X i g).2
  .rw[eX];exact(X i g).1
  .unfold fCs;rw[eX];exact(X i g).2
  .intro c o e;refine go.fr c o (a6 _ _ e) (λz=>?_) (λz=>?_) (λz=>?_) (λi g w'=>?_)
   .rw[z,np]at e;cases e
   .rw[z,Y oM]at e;cases e
   .rw[z,aq]at e;cases e
   .rw[Y (oO i c g w')]at e;cases e
#synth yws ["looks","text","learned"] ygx
structure vgq(H H':Hp)(r:x0)(m:Nat)(tu:Μ)(mx bt:Nat->Int):Prop where
 r0:H r=none
 r:H' r=some (.lst (refs tu m))
 t:∀j,j<m->H' (tu j)=some (.tup [.int (mx j),.int (bt j)])
inductive ymb(K:xr)(vs:Υ)(H:Hp)(Q:VK)(E':XK):Prop
 |mk(L tx:x0)(lx:V)(n:Nat)(lk:Μ)(kd:Ξ)(tp:Μ)(ps:Λ)(ts:Ρ)(N w:Nat)(lt:Μ)(tt:Λ)(_:vs=[.ref L,.ref tx,lx])(_:vew H L tx lx n lk kd tp ps ts N w lt tt)(_:∀r(tu:Μ)H',vgq H H' r (dec ts).length tu (ut n kd ps (uu tt N) ts) (vi ts)->(∀k,k<(dec ts).length->Ch (ut n kd ps (uu tt N) ts k)/\WOk n (fX n kd ps (uu tt N) ts k).ws/\COk n (fCs n kd ps (uu tt N) ts k))->yv H H'->Q (.ref r) H')
def ywu:vz P w K mg Γ CX0 9 a.Di a.Mu ["looks","text","learned"] (ymb K):=by
 exists T.R4.ok,yws,hr;let⟨L,tx,Z,n,lk,R,tp,M,d,N,w,lt,O,rfl,v,k⟩:=h;have hz:=v.t.z;have a2:=xm d;exists 3,0,yc (yq (yaa (js:=[]) (ys:=[]) (xs:=["chance","chances","bit"]) (g:=ywe K 3 (zh (w8 0) (zh (w8 1) (zh (w8 2) ylf)))) rfl (vx (uh (yxp T) hr.m T.Oa (pac (pv 0) (pac (pv 1) (pa1 (pv 2)))))) (λC s2 H2 fp=>(ī (pac (pv 0) (pa1 (pv 2))))) rfl (λC s2 H2 fp=>ĭ rfl (xf (vk (i:=0) (show List.Nodup ((["chance","chances","bit"]:Τ)++([]:Τ)) by right) rfl (Or.inl rfl)) (xf (vk (i:=1) (show List.Nodup ((["chance","chances","bit"]:Τ)++([]:Τ)) by right) rfl (Or.inl rfl)) (xf (vk (i:=2) (show List.Nodup ((["chance","chances","bit"]:Τ)++([]:Τ)) by right) rfl (Or.inl rfl)) À)))) rfl (hyc:=yt) (hrel:=yt)));exists L,tx,Z,n,lk,R,tp,M,d,N,w,lt,O,rfl,v,λr0 F cl H1 c p U S1=>?_;generalize ut n R M (uu O N) d=I at c p k;generalize fCs n R M (uu O N) d=cs at c p k;exists r0,rfl,⟨_,SqL.of c.r⟩,λD Y=>?_;refine ygf (K:=K) (xs:=refs F (dec d).length) (λi G=>∃q:Μ,G D=some (.lst (refs q i))/\(∀j,j<i->G (q j)=some (.tup [.int (I j),.int (vi d j)]))/\yv H1 G) ⟨λU=>0,ya,λj J=>absurd J (bI j),y7 Y⟩ (λi G U ⟨_,_,_,S⟩=>SqL.of (S _ _ c.r)) (λi x G a1 hx hi z y=>?_) (λG z=>?_)
 .obtain⟨q,u,B,S⟩:=z;let⟨rfl,X⟩:=uw hx;let⟨v1,v2,v3,rfl⟩:=yln y;refine Ĭ (SqT.of (S _ _ (c.t i X))) rfl ?_;show zh (w8 0) (zh (w8 1) (zh (w8 2) ylf)) [V.int (I i),V.ref (cl i),V.int (vi d i)] (v1::v2::v3::ud [] [some (V.ref L),some (V.ref tx),some Z]) G _;ext;exists⟨[some (.int (I i)),some (.ref (cl i)),some (.int (vi d i))],rfl,rfl⟩,?_;ext;exists by walk_at "len",λt f=>?_
  have a0:t≠D:=(yb u f).symm;have W:=u8 (o':=HO.tup [V.int (I i),V.int (vi d i)]) f u;refine we (n:=(refs F (dec d).length).length) W (ve (by rw[vt];omega)) hi ?_;exists upN q i t,?_,λj J=>?_,λb o e=>yf (yb e Y) (u8 f (S b o e))
  .rw[ya,x6,wo]
   congr 3
   exact xx λj J=>(wj J).symm
  .by_cases z:j=i
   .rw[z,wo];exact yf a0 ya
   .have l:j<i:=by omega
    rw[wj l];exact yf (wz (B j l) u (by intro z;cases z)) (u8 f (B j l))
 .obtain⟨q,u,B,S⟩:=z;rw[vt]at u B;exact k D q G ⟨S1.free Y,u,B⟩ p (S1.trans S)
def snK(mx bt:Nat->Int):Nat->Sn
 |0=>s0
 |k+1=>nar (snK mx bt k) (mx k) (bt k)
theorem z5{mx:Nat->Int}:∀m,(∀j,j<m->Ch (mx j))->OkS (snK mx bt m)/\(snK mx bt m).2.2<=5+2*(m:Int)
 |0,_=>⟨vep,by show (5:Int)<=5+2*((0:Nat):Int);decide⟩
 |m+1,h=>by
  let⟨a,d⟩:=z5 m λj e=>h j (by omega);exists yc6 a (h m (by omega)),?_;have:=vai (c:=mx m) (b:=bt m) a.ok;show (nar (snK mx bt m) (mx m) (bt m)).2.2<=_;omega
theorem Ĕ{mx my bu:Nat->Int}:∀m,(∀j,j<m->mx j=my j/\bt j=bu j)->snK mx bt m=snK my bu m
 |0,_=>rfl
 |m+1,h=>by
  show nar (snK mx bt m) (mx m) (bt m)=nar (snK my bu m) (my m) (bu m);rw[Ĕ m λj a=>h j (by omega),(h m (by omega)).1,(h m (by omega)).2]
def FGo.but{A:FA}{H H1 H2:Hp}{el:x0}{o':HO}(h:FGo p A O H H1 el O')(hq:H q=none)(B:But q H1 H2)(hq2:H2 q=some o'):FGo p A O H H2 el O' :=
 ⟨h.he,h.hO,λc o e a b f d=>B _ _ (h.fr c o e a b f d) (yb e hq),λc o e=>let ⟨o1,w⟩:=h.live c o e;⟨o1,B _ _ w (yb e hq)⟩⟩
def u7.but{H H':Hp}{C:x0}{A:FA}{X:FX}{f:Α}{m:Nat}{fs:Ι}(h:u7 K a H p A X f O m)(hq:H q=some (.ins C dq fs))(hl:fs.length=3)(nO:∀i,i<A.n->¬O i q)(B:But q H H'):u7 K a H' p A X f O m:=by
 refine h.frame (O2:=λc=>c=q) (λc o e g=>B c o e g) (λz=>zd h.me hq (by rw[hl];show ¬(6=3);decide) z) (λz=>zd h.mx.o hq (by rw[hl];show ¬(1=3);decide) z) (λi d z=>zd (h.B.b i d).me hq (by rw[hl];show ¬(2=3);decide) z) (λi c d w z=>nO i d (z ▸ w)) (λl j Z e=>B.lst hq e) (λt j e=>?_);rcases e with(e|⟨o,e⟩)|e
 .exact .inl (.inl (B _ _ e (λz=>by rw[z,hq]at e;cases e)))
 .exact .inl (.inr ⟨o,B _ _ e (λz=>by rw[z,hq]at e;cases e)⟩)
 .exact .inr e
theorem ypu(A:FA)(ml el pl:x0)(sl:Μ):∀(bs:Ρ)(X:FX),X.run (A.re ml el pl sl) bs=X.run A bs
 |[],_=>rfl
 |b::r,X=>ypu A ml el pl sl r (X.see A b)
def yfh(A:FA)(X:FX)(ts:Ρ)(k:Nat):Int:=ylc (X.run A ((dec ts).take k)).ws ((X.run A ((dec ts).take k)).cs A)
#synth yj7 ["foreteller","text","span","bit"] ["foreteller","text"] yuq
inductive yd4(K:xr)(a:Ads)(vs:Υ)(H:Hp)(Q:VK)(E':XK):Prop
 |mk(p:x0)(A:FA)(X:FX)(f:Α)(O:Β)(m:Nat)(tx:x0)(ts:Ρ)(_:vs=[.ref p,.ref tx])(_:u7 K a H p A X f O m)(_:X.sg=[])(_:X.nd=0)(_:jj H tx ts 1000)(_:tx≠A.el)(_:m+6*(dec ts).length+20<1000000)(_:∀(r ml el pl:x0)(sl:Μ)(f':Α)(O':Β)(m':Nat)(H':Hp),H r=none->H' r=some (.lst ((tL (snK (yfh A X ts) (vi ts) (dec ts).length)).map V.int))->u7 K a H' p (A.re ml el pl sl) (X.run A (dec ts)) f' O' m'->m'<=m+6*(dec ts).length->FGo p A O H H' el O'->Q (.ref r) H')
def yk1:vz P w K mg Γ CX0 7 a.K3 a.Mv ["foreteller","text"] (yd4 K a):=by
 exists T.Ey.F.ok,yj7,hr;let⟨p,c,X,f,O,m,tx,d,rfl,hF,ak,ai,a1,aE,hm,k⟩:=h;have aC:=xm d;have hz:=a1.z;have Y:=a1.s;refine yh (yo (i:=2) yj7.nd rfl (Or.inl rfl) (zk T.Pi (yo8 T) hr.m rfl T.Ph T.Dt.B .nil v7)) ?_;refine yh (xz PassesOwn.never rfl (vx (uh (yjz T) hr.m T.Eu (pa1 (pv 1)))) (vk (i:=3) yj7.nd rfl (Or.inl rfl)) (ye (yw (vh (pv 2) T.Ag T.Dv.m (yo1 T) hr.m T.Dv.B .nil vg (pac (vv (pv 0) T.Ac T.Cu.m (ykm T) hr.m T.Cu.B .nil v7) (pa1 (pv 3))))) (yc (yw (xg (pv 0) T.Ac T.Ca.m (yff T) hr.m T.Ca.B .nil v7 (pa1 (pv 3))))))) ?_;exists 2,2,yc (yq (vv (pv 2) T.Ag T.Dw.m (yp6 T) hr.m T.Dw.B .nil v7));intro q S nq as aF;have SQ:yv H (upd (upd H S (.own q)) q (.ins a.A4 S [])):=λb o e=>by rw[yk (yb e nq),yk (yb e as)];exact e
 exists q,S,rfl,ya,λH1 aw B1=>⟨rfl,?_⟩;have S1:yv H H1:=λb o e=>B1 b o (SQ b o e) (yb e nq);ext;exists tx,d,rfl,S1 _ _ a1.l,Y,by omega,λbt H2 ac W S2=>?_
 have a5:=S1.trans S2;have an:=hF.same a5;have aj:bt≠c.el:=(yb (hF.same S1).el ac).symm
 have au:∀i,i<c.n->¬O i q:=λi Z w=>by
  let⟨o,ho,_⟩:=(hF.B.b i Z).own q w;rw[nq]at ho;cases ho
 refine⟨bt,rfl,⟨_,SqL.of W⟩,x8 (K:=K) (a:=bt) (xs:=(dec d).map V.int) (λj σ2 G=>∃(v:Ψ)(ml el pl:x0)(sl:Μ)(f':Α)(O':Β),σ2=[some (.ref p),some (.ref tx),some (.ref q),v]/\u7 K a G p (c.re ml el pl sl) (X.run c ((dec d).take j)) f' O' (m+6*j)/\FGo p c O H G el O'/\TxE d j (X.run c ((dec d).take j)).sg (X.run c ((dec d).take j)).nd/\G q=some (.ins a.A4 S (jz (snK (yfh c X d) (vi d) j)))/\(∀i,i<c.n->¬O' i q)/\(G bt=some (.lst ((dec d).map V.int))/\bt≠el)/\(∀i,i<j->Ch (yfh c X d i)))
  ⟨_,c.ml,c.el,c.pl,c.sl,f,O,rfl,an,FGo.refl.same a5,.inl ⟨bJ _,by show yao _ _ X.sg X.nd;rw[ak,ai];exact yao.zero _⟩,S2 _ _ aw,au,⟨W,aj⟩,λi Z=>absurd Z (bI i)⟩ (by rintro j σ2 G _ ⟨_,_,_,_,_,_,_,_,_,_,_,_,_,z,_⟩;exact SqL.of z.1) ?_ ?_⟩
 .rintro j y σ2 G hy ⟨v,L,x,M,I,f1,O1,rfl,g,go,hT,u,R,⟨aa,U⟩,D⟩;let⟨b,rfl,aq,hb,hj⟩:=z6 hy;let⟨b0,b1⟩:=jc _ b aq;let⟨a6,al⟩:=hT.next Y hb;let⟨am,aG⟩:=a6.nd Y;have aD:=a6.len;have a8:vi d j=b:=by unfold vi;rw[hb];rfl
  have aH:=g.me;have a9:Ch (yfh c X d j):=yeu g.n1 g.wok g.cok;have ad:=ye0 a9;have av:=ydc b0 b1;let⟨a0,aA⟩:=z5 (mx:=yfh c X d) (bt:=vi d) j D;ext;exists q,S,_,rfl,u,lkN _ (by right) (by right) (by right),?_;ext;exists p,c.re L x M I,_,f1,O1,_,rfl,g,λG1 N=>?_;ext;exists q,S,_,.int (yfh c X d j),.int b,_,_,rfl,N _ _ u,a0.ok,.int _,.int _,λz=>(by rw[ad]at z;cases z),λF z=>(by rw[av]at z;cases z),λc' b' ec eb F F F G2 C B2=>?_;cases ec;cases eb;have t:=(g.same N).but (N _ _ u) rfl R B2;have ax:FGo p c O H G2 x O1:=(go.same N).but nq B2 C;have J:G2 bt=some (.lst ((dec d).map V.int)):=B2.lst (N _ _ u) (N _ _ aa);have aB:=t.me;have n6:=g.n6;ext;exists p,c.re L x M I,_,f1,O1,m+6*j,b,rfl,t,b0,b1,by omega,am,by omega,λaz a4 ae ar f3 O3 G3 af ao a7 ab ag F=>?_
  have a2:FGo p (c.re L x M I) O1 G2 G3 a4 O3:=⟨af,a7,ab,ag⟩;have a3:=a2.kpa t;ext;exists _,az,a4,ae,ar,f3,O3,rfl,?_,ax.trans a2,?_,?_,λi Z w=>?_,⟨(a3 _ _ J rfl U).2,(a3 _ _ J rfl U).1⟩,λi Z=>?_
  .rw[zj hb];exact ao.up (by show m+6*j+c.n<=_;have:c.n<=6:=n6;omega)
  .rw[zj hb];exact al
  .have e:snK (yfh c X d) (vi d) (j+1)=nar (snK (yfh c X d) (vi d) j) (yfh c X d j) b:=by show nar _ _ (vi d j)=_;rw[a8]
   rw[e];exact ab _ _ C (zd C t.me (show ¬(3=6) by decide)) (zd C t.mx.o (show ¬(3=1) by decide)) (λz=>by have e:=t.el;rw[<- z,C]at e;cases e) R
  .rcases a7 i q Z w with v|v
   .exact R i Z v
   .rw[C]at v;cases v
  .by_cases z:i=j
   .rw[z];exact a9
   .exact D i (by omega)
 .rintro σ2 G ⟨v,L,x,M,I,f1,O1,rfl,g,go,hT,u,R,_,D⟩;rw[be]at g u D;rw[bY]at g;let⟨a0,aA⟩:=z5 (mx:=yfh c X d) (bt:=vi d) (dec d).length D;ext;exists q,S,_,rfl,u,lkN _ (by right) (by right) (by right),?_;ext;exists q,S,_,rfl,u,a0,by show Int.toNat _<=100000;omega,λr G1 ap ah N=>?_
  exact k r L x M I f1 O1 _ G1 (go.free ap) ah (g.same N) (bj _) (go.same N)
#synth yjw ["looks","text","learned","foreteller","signs"] ["looks","text","learned"] ygy
inductive yfz(K:xr)(vs:Υ)(H:Hp)(Q:VK)(E':XK):Prop
 |mk(L tx:x0)(lx:V)(n:Nat)(lk:Μ)(kd:Ξ)(tp:Μ)(ps:Λ)(ts:Ρ)(N w:Nat)(lt:Μ)(tt:Λ)(_:vs=[.ref L,.ref tx,lx])(_:vew H L tx lx n lk kd tp ps ts N w lt tt)(_:ts.length<=1000)(_:∀r H',H r=none->H' r=some (.lst ((tL (snK (ut n kd ps (uu tt N) ts) (vi ts) (dec ts).length)).map V.int))->yv H H'->Q (.ref r) H')
def yo7:vz P w K mg Γ CX0 8 a.Dj a.Mw ["looks","text","learned"] (yfz K):=by
 exists T.P7.ok,yjw,D;let⟨L,tx,lx,n,lk,kd,tp,ps,C,N,w,lt,Y,rfl,d,F,k⟩:=h;have a7:=d.b;have n1:=d.n1;have n6:=d.n6;have aa:=xm C;refine yh (yo (i:=3) yjw.nd rfl (Or.inl rfl) (ua T.Pg (yb0 T) D.m rfl T.Pf T.Cn.B .nil vg (pa1 (pv 0)))) ?_;refine yh (yo (i:=4) yjw.nd rfl (Or.inl rfl) (x4 (ygt T) D.m T.Fp vg (pa1 (pv 1)))) ?_;refine yh (yw (uh (yj5 T) D.m T.Ex (pac (pv 3) (pa1 (uh (yj6 T) D.m T.Ew (pa1 (pv 2))))))) ?_;exists 3,2,yc (yq (uh (yk1 T) D.m T.Ey (pac (pv 3) (pa1 (pv 4)))));intro p U np a5 ae;have Z:yv H (upd (upd H U (.own p)) p (.ins a.A2 U [])):=λb o e=>by rw[yk (yb e np),yk (yb e a5)];exact e
 exists p,U,.ref L,rfl,ya,.inr ⟨L,n,lk,kd,tp,ps,rfl,Z _ _ d.l,n1,n6,d.r.same Z,λA f O H1 N1 B1=>⟨rfl,?_⟩⟩;let⟨R,rfl,rfl,rfl,rfl,oO,oB,oM,oL⟩:=N1;have S1:yv H H1:=λb o e=>B1 b o (Z b o e) (yb e np);have g:∀{c:x0},upd (upd H U (.own p)) p (.ins a.A2 U []) c=none->H c=none:=λh=>Z.free h;have S:H A.el=none:=g (oL A.el (.inr (.inl rfl)));ext;exists .ref tx,_,rfl,.lst (S1 _ _ d.t.l),.inr ⟨C.map V.int,Ñ (S1 _ _ d.t.l) d.t.s d.t.z,λsg H2 W G S2=>?_⟩;have x:=S1.trans S2;have q:=R.same S2;have a1:sg≠A.el:=(yb R.el W).symm;ext;refine ė (d.lr.same x) d.w1 d.N1 λa6 cx H3 h0 h3 hx S3=>?_;ext;exists p,A,FX0 A.n A.kd,f,O,6,a6,N,w,cx,Y,rfl,q.same S3,rfl,rfl,h3,(yb q.el h0).symm,λi y=>⟨⟨(hx i y).2,(d.lr.2 i y).s,(d.lr.2 i y).z⟩,(yb q.el (hx i y).1).symm⟩,d.w1,by omega,λml el pl sl f1 O1 m1 H4 X ac u M J=>?_
 have u:=FGo.ahead S3 u;have a4:=u.kpa q;have v:=a4 _ _ G rfl a1
 have eX:∀i,yfh (A.re ml el pl sl) ((FX0 A.n A.kd).run A (uu Y N)) C i=ut A.n A.kd A.ps (uu Y N) C i:=λi=>by
  unfold ut yfh fX;rw[ypu,<- jv A,<- jv A];rfl
 generalize hX:(FX0 A.n A.kd).run A (uu Y N)=XX at X M J eX;ext;exists p,A.re ml el pl sl,XX,f1,O1,m1,sg,C,rfl,X,M,J,⟨v.2,d.t.s,F⟩,v.1,by omega,λr ah a9 ag a8 f2 O2 m2 H5 a0 I ab ad a2=>?_
 have go:=u.trans a2;rw[Ĕ _ λj B=>⟨eX j,rfl⟩]at I;refine k r H5 (x.free (u.free a0)) I λc o e=>go.fr c o (x _ _ e) (λz=>?_) (λz=>?_) (λz=>?_) (λi y w'=>?_)
 .rw[z,np]at e;cases e
 .rw[z,g oM]at e;cases e
 .rw[z,S]at e;cases e
 .rw[g (oO i c y w')]at e;cases e
structure RGo(p q s:x0)(A:FA)(O:Β)(H H':Hp)(ml el:x0)(O':Β):Prop where
 hm:ml=A.ml\/H ml=none
 he:el=A.el\/H el=none
 hO:∀j c,j<A.n->O' j c->O j c\/H c=none
 fr:∀c o,H c=some o->c≠p->c≠A.mp->c≠A.el->c≠q->c≠s->(∀j,j<A.n->¬O j c)->H' c=some o
 live:∀c o,H c=some o->∃o',H' c=some o'
def RGo.free{s:x0}{A:FA}{H H':Hp}{ml el c:x0}(h:RGo p q s A O H H' ml el O')(hc:H' c=none):H c=none:=by
 cases e:H c with
 |none=>rfl
 |some o =>
  let⟨a,w⟩:=h.live c o e;rw[hc]at w;cases w
def RGo.refl{s:x0}{A:FA}{H:Hp}:RGo p q s A O H H A.ml A.el O:=⟨.inl rfl,.inl rfl,λZ Z Z w=>.inl w,λZ Z e Z Z Z Z Z Z=>e,λZ o e=>⟨o,e⟩⟩
theorem RGo.trans{s:x0}{A:FA}{O1:Β}{H H1 H2:Hp}{ml el pl ml2 el2:x0}{sl:Μ}(h:RGo p q s A O H H1 ml el O1)(k:RGo p q s (A.re ml el pl sl) O1 H1 H2 ml2 el2 O2):RGo p q s A O H H2 ml2 el2 O2:=by
 exists ?_,?_,λj c a w=>?_,λc o e f g l d b i=>?_,λc o e=>?_
 .rcases k.hm with z|z
  .rcases h.hm with y|y
   .exact .inl (z.trans y)
   .exact .inr (by rw[show ml2=ml from z];exact y)
  .exact .inr (h.free z)
 .rcases k.he with z|z
  .rcases h.he with y|y
   .exact .inl (z.trans y)
   .exact .inr (by rw[show el2=el from z];exact y)
  .exact .inr (h.free z)
 .rcases k.hO j c a w with v|v
  .exact h.hO j c a v
  .exact .inr (h.free v)
 .refine k.fr c o (h.fr c o e f g l d b i) f g (λz=>?_) d b (λj a w=>?_)
  .rcases h.he with y|y
   .exact l (z.trans y)
   .rw[show c=el from z,y]at e;cases e
  .rcases h.hO j c a w with v|v
   .exact i j a v
   .rw[e]at v;cases v
 .obtain⟨n,m⟩:=h.live c o e;exact k.live c n m
def RGo.same{s:x0}{A:FA}{H H1 H2:Hp}{ml el:x0}(h:RGo p q s A O H H1 ml el O')(S:yv H1 H2):RGo p q s A O H H2 ml el O' :=
 ⟨h.hm,h.he,h.hO,λc o e d f i b a g=>S _ _ (h.fr c o e d f i b a g),λc o e=>let ⟨o',w⟩:=h.live c o e;⟨o',S _ _ w⟩⟩
structure Ã(K:xr)(a:Ads)(H:Hp)(p:x0)(A:FA)(X:FX)(f:Α)(O:Β)(m:Nat)(q dx pd s ds:x0)(d:Ρ)(x:Sn):Prop where
 ft:u7 K a H p A X f O m
 sk:yg3 a H q dx pd s ds d x
 ok:OkS x
 nO:∀i,i<A.n->¬O i q/\¬O i s
 nd:pd≠A.el
theorem Ã.same{H H':Hp}{A:FA}{X:FX}{f:Α}{m:Nat}{dx pd s:x0}{d:Ρ}{x:Sn}(h:Ã K a H p A X f O m q dx pd s ds d x)(S:yv H H'):Ã K a H' p A X f O m q dx pd s ds d x:=⟨h.ft.same S,h.sk.same S,h.ok,h.nO,h.nd⟩
def chX(A:FA)(X:FX):Int:=ylc X.ws (X.cs A)
def u7.but2{H H':Hp}{A:FA}{X:FX}{f:Α}{m:Nat}{dx pd s:x0}{d:Ρ}{x:Sn}(h:Ã K a H p A X f O m q dx pd s ds d x)(B:ylg q s H H'):u7 K a H' p A X f O m:=by
 have j:=h.sk.me;have k:=h.sk.sp;refine h.ft.frame (O2:=λc=>c=q\/c=s) (λc o e n=>B c o e (λz=>n (.inl z)) (λz=>n (.inr z))) (λz=>?_) (λz=>?_) (λi g z=>?_) (λi c g w z=>?_) (λl r Z e=>h.sk.lst B e) (λt r e=>?_)
 .rcases z with z|z
  .exact zd h.ft.me j (show ¬(6=4) by decide) z
  .exact zd h.ft.me k (show ¬(6=3) by decide) z
 .rcases z with z|z
  .exact zd h.ft.mx.o j (show ¬(1=4) by decide) z
  .exact zd h.ft.mx.o k (show ¬(1=3) by decide) z
 .rcases z with z|z
  .exact zd (h.ft.B.b i g).me j (show ¬(2=4) by decide) z
  .exact zd (h.ft.B.b i g).me k (show ¬(2=3) by decide) z
 .rcases z with z|z
  .exact(h.nO i g).1 (z ▸ w)
  .exact(h.nO i g).2 (z ▸ w)
 .rcases e with(e|⟨o,e⟩)|e
  .exact .inl (.inl (h.sk.tup B e))
  .exact .inl (.inr ⟨o,B _ _ e (wz e j (by intro z;cases z)) (wz e k (by intro z;cases z))⟩)
  .exact .inr e
#synth yog ["foreteller","seeker","bit"] ["foreteller","seeker"] yto
inductive yef(K:xr)(a:Ads)(vs:Υ)(H:Hp)(Q:VK)(E':XK):Prop
 |mk(p:x0)(A:FA)(X:FX)(f:Α)(O:Β)(m:Nat)(q dx pd s ds:x0)(d:Ρ)(x:Sn)(_:vs=[.ref p,.ref q])(_:Ã K a H p A X f O m q dx pd s ds d x)(_:m+20<1000000)(_:0<=X.nd)(_:X.sg.length<=100000)(_:∀(ml el pl:x0)(sl:Μ)(f':Α)(O':Β)(H':Hp),Ã K a H' p (A.re ml el pl sl) (X.see A (ô d x (chX A X))) f' O' (m+A.n) q dx pd s ds d (nar x (chX A X) (ô d x (chX A X)))->RGo p q s A O H H' ml el O'->Q (.int (ô d x (chX A X))) H')
def yqe:vz P w K mg Γ CX0 7 a.K5 a.Mx ["foreteller","seeker"] (yef K a):=by
 exists T.Hx.F.ok,yog,W;let⟨p,t,X,f,O,m,q,dx,pd,u,ds,d,x,rfl,n,hm,a4,a0,k⟩:=h;have hp:=n.ft.me;have hq:=n.sk.me;have L:Ch (chX t X):=yeu n.ft.n1 n.ft.wok n.ft.cok;have Z:=ye0 L;exists 2,1,ye (yo (i:=2) yog.nd rfl (Or.inl rfl) (vh (pv 1) T.Br T.Hv.m (yxe T) W.m T.Hv.B .nil vg (pa1 (vv (pv 0) T.Ac T.Cu.m (ykm T) W.m T.Cu.B .nil v7)))) (ye (yw (xg (pv 0) T.Ac T.Ca.m (yff T) W.m T.Ca.B .nil v7 (pa1 (pv 2)))) (yc (yq (pv 2))));exists p,t,X,f,O,m,rfl,n.ft,λH1 D=>?_;have N:=n.same D;ext;exists q,dx,pd,u,ds,d,x,.int (chX t X),_,rfl,N.sk,n.ok,.int _,λz=>(by rw[Z]at z;cases z),λc' ec Y H2 g G=>?_;cases ec;have l:=u7.but2 N G;have a8:=l.me
 obtain⟨b0,b1⟩:0<=ô d x (chX t X)/\ô d x (chX t X)<=1:=by
  rcases Ź d x (chX t X)with e|e<;>(rw[e];decide)
 generalize hb:ô d x (chX t X)=b at b0 b1 g k;ext;exists p,t,X,f,O,m,b,rfl,l,b0,b1,hm,a4,a0,λM I pl sl f' O' H3 he a6 hO U lv r=>?_;have a2:q≠p:=zd g.me l.me (show ¬(4=6) by decide);have a5:q≠t.mp:=zd g.me l.mx.o (show ¬(4=1) by decide);have a7:u≠p:=zd g.sp l.me (show ¬(3=6) by decide);have a1:u≠t.mp:=zd g.sp l.mx.o (show ¬(3=1) by decide)
 have J:∀{c C dc:x0}{fs:Ι},H2 c=some (.ins C dc fs)->c≠t.el:=λe z=>by
  have e2:=l.el;rw[<- z,e]at e2;cases e2
 have S:=U _ _ g.me a2 a5 (J g.me) λi y=>(n.nO i y).1;have R:=U _ _ g.sp a7 a1 (J g.sp) λi y=>(n.nO i y).2;have a3:H3 pd=some (.lst (d.map V.int)):=U _ _ g.dt (λz=>by have e:=g.dt;rw[z,l.me]at e;cases e) (λz=>by have e:=g.dt;rw[z,l.mx.o]at e;cases e) n.nd (l.B.nlst g.dt);ext;refine k M I pl sl f' O' H3 ⟨a6,⟨S,a3,R,g.ne⟩,yc6 n.ok L,λi y=>⟨λw=>?_,λw=>?_⟩,?_⟩ ⟨.inr ?_,?_,λj c hj w=>?_,λc o e c1 c2 c3 c4 c5 no=>?_,λc o e=>?_⟩
 .rcases hO i q y w with v|v
  .exact(n.nO i y).1 v
  .rw[g.me]at v;cases v
 .rcases hO i u y w with v|v
  .exact(n.nO i y).2 v
  .rw[g.sp]at v;cases v
 .rcases he with z|z
  .rw[show (t.re M I pl sl).el=t.el from z];exact n.nd
  .exact yb g.dt z
 .cases e:H M with
  |none=>rfl
  |some o =>
   by_cases z1:M=q
   .rw[z1,g.me]at r;cases r
   by_cases z2:M=u
   .rw[z2,g.sp]at r;cases r
   rw[G _ _ (D _ _ e) z1 z2]at r;cases r
 .rcases he with z|z
  .exact .inl z
  .refine .inr ?_
   cases e:H I with
   |none=>rfl
   |some o =>
    by_cases z1:I=q
    .rw[z1,g.me]at z;cases z
    by_cases z2:I=u
    .rw[z2,g.sp]at z;cases z
    rw[G _ _ (D _ _ e) z1 z2]at z;cases z
 .rcases hO j c hj w with v|v
  .exact .inl v
  .refine .inr ?_
   cases e:H c with
   |none=>rfl
   |some o =>
    by_cases z1:c=q
    .rw[z1,g.me]at v;cases v
    by_cases z2:c=u
    .rw[z2,g.sp]at v;cases v
    rw[G _ _ (D _ _ e) z1 z2]at v;cases v
 .exact U c o (G _ _ (D _ _ e) c4 c5) c1 c2 c3 no
 .by_cases z1:c=q
  .exists _,z1 ▸ S
  by_cases z2:c=u
  .exists _,z2 ▸ R
  exact lv c o (G _ _ (D _ _ e) z1 z2)
def rnx(A:FA)(d:Ρ)(S:FX×Sn):FX×Sn:=(S.1.see A (ô d S.2 (chX A S.1)),nar S.2 (chX A S.1) (ô d S.2 (chX A S.1)))
def rst(A:FA)(d:Ρ)(S:FX×Sn):Nat->FX×Sn
 |0=>S
 |n+1=>rnx A d (rst A d S n)
def Ù(A:FA)(d:Ρ)(S:FX×Sn)(n:Nat):Int:=ô d (rst A d S n).2 (chX A (rst A d S n).1)
def yos(A:FA)(d:Ρ)(S:FX×Sn)(n:Nat):Ù A d S n=0\/Ù A d S n=1:=Ź _ _ _
theorem ydd(A:FA)(d:Ρ)(S:FX×Sn)(k:Nat):∀n,rst A d (rst A d S k) n=rst A d S (k+n)
 |0=>rfl
 |n+1=>congrArg (rnx A d) (ydd A d S k n)
theorem ykd(A:FA)(d:Ρ)(S:FX×Sn)(ml el pl:x0)(sl:Μ):∀n,rst (A.re ml el pl sl) d S n=rst A d S n
 |0=>rfl
 |n+1=>by
  show rnx (A.re ml el pl sl) d (rst (A.re ml el pl sl) d S n)=_;rw[ykd A d S ml el pl sl n];rfl
def yxx(A:FA)(X:FX)(b:Int)(h:0<=X.nd)(hb:0<=b):0<=(X.see A b).nd:=by
 show 0<=ndN X.nd b;unfold ndN
 split
 .split<;>omega
 .split<;>omega
def vbk(A:FA)(X:FX)(b:Int):(X.see A b).sg.length<=X.sg.length+1:=by
 show (sgN X.sg X.nd b).length<=_;unfold sgN
 split
 .split
  .rw[bp];exact bj _
  .omega
 .split
  .omega
  .exact bJ _
theorem ye8(A:FA)(d:Ρ)(S:FX×Sn)(h:0<=S.1.nd):∀n,0<=(rst A d S n).1.nd
 |0=>h
 |n+1=>yxx A _ _ (ye8 A d S h n) (by rcases yos A d S n with e|e<;>(unfold Ù at e;rw[e];decide))
theorem yfg(A:FA)(d:Ρ)(S:FX×Sn):∀n,(rst A d S n).1.sg.length<=S.1.sg.length+n
 |0=>bj _
 |n+1=>bP (vbk A _ _) (Nat.succ_le_succ (yfg A d S n))
theorem Ã.app{H:Hp}{R:x0}{A:FA}{X:FX}{f:Α}{m:Nat}{dx pd s:x0}{d:Ρ}{x:Sn}{xs ys:Υ}(h:Ã K a H p A X f O m q dx pd s ds d x)(hR:H R=some (.lst xs))(hq:∀q,(q=A.bl\/q=A.el\/q=A.ml\/q=A.pl)->q≠R)(np:pd≠R):Ã K a (upd H R (.lst ys)) p A X f O m q dx pd s ds d x:=by
 exists h.ft.app hR hq,⟨yf (λz=>?_) h.sk.me,yf np h.sk.dt,yf (λz=>?_) h.sk.sp,h.sk.ne⟩,h.ok,h.nO,h.nd
 .have e:=h.sk.me;rw[z,hR]at e;cases e
 .have e:=h.sk.sp;rw[z,hR]at e;cases e
def Ã.notN{H:Hp}{R:x0}{A:FA}{X:FX}{f:Α}{m:Nat}{dx pd s:x0}{d:Ρ}{x:Sn}(h:Ã K a H p A X f O m q dx pd s ds d x)(hR:H R=some (.lst (xs.map V.int)))(nm:R≠A.ml)(ne:R≠A.el):∀q,(q=A.bl\/q=A.el\/q=A.ml\/q=A.pl)->q≠R:=λq j z=>by
 have i:=h.ft.n1
 have b:∀(g:Μ),xs.map V.int=refs g A.n->False:=λg e=>by
  have c:(refs g A.n)[0]?=some (V.ref (g 0)):=yes i;rw[<- e,bn]at c
  cases w:xs[0]? with
  |none=>rw[w]at c;cases c
  |some y=>rw[w]at c;cases c
 rcases j with y|y|y|y
 .have e:=h.ft.bl;rw[<- y,z,hR]at e;exact b _ (HO.lst.inj (bD e))
 .exact ne (z.symm.trans y)
 .exact nm (z.symm.trans y)
 .have e:=h.ft.pl;rw[<- y,z,hR]at e;exact b _ (HO.lst.inj (bD e))
def RGo.app{s R:x0}{A:FA}{H H1:Hp}{ml el:x0}{o':HO}(h:RGo p q s A O H H1 ml el O')(hR:H R=none):RGo p q s A O H (upd H1 R o') ml el O' :=
 ⟨h.hm,h.he,h.hO,λc o e d f i b a g=>yf (yb e hR) (h.fr c o e d f i b a g),λc o e=>let ⟨o1,w⟩:=h.live c o e;⟨o1,yf (yb e hR) w⟩⟩
def wB(i:Nat):Int:=([128,64,32,16,8,4,2,1]:Ρ)[i]?.getD 0
def vdr(i:Nat):0<=wB i/\wB i<=128:=by
 rcases i with _|_|_|_|_|_|_|_|i
 .exists by decide,by decide
 .exists by decide,by decide
 .exists by decide,by decide
 .exists by decide,by decide
 .exists by decide,by decide
 .exists by decide,by decide
 .exists by decide,by decide
 .exists by decide,by decide
 .exists by show (0:Int)<=0;decide,by show (0:Int)<=128;decide
def sgB(A:FA)(d:Ρ)(S:FX×Sn)(i:Nat):Ρ:=(List.range i).map λj=>wB j*Ù A d S j
def yms(A:FA)(d:Ρ)(S:FX×Sn)(i:Nat):sgB A d S (i+1)=sgB A d S i++[wB i*Ù A d S i]:=by unfold sgB;rw[List.range_succ,bF];rfl
#synth yy8 ["foreteller","seeker"] yt1
inductive ybj(K:xr)(a:Ads)(vs:Υ)(H:Hp)(Q:VK)(E':XK):Prop
 |mk(p:x0)(A:FA)(S:FX×Sn)(f:Α)(O:Β)(m:Nat)(q dx pd s ds:x0)(d:Ρ)(_:vs=[.ref p,.ref q])(_:Ã K a H p A S.1 f O m q dx pd s ds d S.2)(_:m+80<1000000)(_:0<=S.1.nd)(_:S.1.sg.length<=90000)(_:∀(ml el pl:x0)(sl:Μ)(f':Α)(O':Β)(H':Hp),Ã K a H' p (A.re ml el pl sl) (rst A d S 8).1 f' O' (m+8*A.n) q dx pd s ds d (rst A d S 8).2->RGo p q s A O H H' ml el O'->Q (.int (sgB A d S 8).sum) H')
def yz6:vz P w K mg Γ CX0 8 a.K6 a.My ["foreteller","seeker"] (ybj K a):=by
 exists T.Ob.F.ok,yy8,hr;let⟨p,b,S,f,O,m,q,dx,pd,Z,ds,d,rfl,L,hm,a2,a7,k⟩:=h;have n6:=L.ft.n6;exists 2,0,yc (yq (pcB (Ì rfl) T.Ed (pa1 (wb (js:=[1,0]) (ys:=["seeker","foreteller"]) rfl (ye3 (ydb rfl T.I9)) (λC s2 H2 fp=>(ym wq (pv 0) (uh (yqe T) hr.m T.Hx (pac (pv 2) (pa1 (pv 1)))))) rfl rfl (hyc:=(all_cons rfl (all_cons rfl yt))) (hrel:=(all_cons rfl (all_cons rfl yt)))))));exists a.Bg,rfl,⟨_,T.D4 H⟩,λD R=>?_;refine ybm (xs:=[.int 128,.int 64,.int 32,.int 16,.int 8,.int 4,.int 2,.int 1]) (λi G=>∃(t r N:x0)(I:Μ)(f':Α)(O':Β),Ã K a G p (b.re t r N I) (rst b d S i).1 f' O' (m+i*b.n) q dx pd Z ds d (rst b d S i).2/\RGo p q Z b O H G t r O'/\G D=some (.lst ((sgB b d S i).map V.int))/\D≠t/\D≠r) ?_ (λi G F F=>T.D4 G) ?_ ?_
 .have S1:yv H (upd H D (.lst [])):=y7 R;exists b.ml,b.el,b.pl,b.sl,f,O,?_,RGo.refl.same S1,ya,(yb L.ft.mx.l R).symm,(yb L.ft.el R).symm;rw[Nat.zero_mul];exact L.same S1
 .rintro i y G j a1 ⟨t,r,N,I,f1,O1,e,v,c,M,x⟩;have hi:i<8:=a1
  obtain rfl:y=V.int (wB i):=by
   rcases i with _|_|_|_|_|_|_|_|i
   .exact(bD j).symm
   .exact(bD j).symm
   .exact(bD j).symm
   .exact(bD j).symm
   .exact(bD j).symm
   .exact(bD j).symm
   .exact(bD j).symm
   .exact(bD j).symm
   .omega
  have a8:i*b.n<=8*b.n:=Nat.mul_le_mul_right _ (by omega);let⟨a9,a6⟩:=vdr i;have a3:=ye8 b d S a2 i;have ab:=yfg b d S i;ext;exists p,b.re t r N I,(rst b d S i).1,f1,O1,m+i*b.n,q,dx,pd,Z,ds,d,(rst b d S i).2,rfl,e,by omega,a3,by omega,λX W a5 a4 f2 O2 G2 Y g=>?_
  have u:G2 D=some (.lst ((sgB b d S i).map V.int)):=g.fr _ _ c (wz c e.ft.me (by intro z;cases z)) (wz c e.ft.mx.o (by intro z;cases z)) x (wz c e.sk.me (by intro z;cases z)) (wz c e.sk.sp (by intro z;cases z)) (e.ft.B.nlst c)
  have J:D≠X:=by
   rcases g.hm with z|z
   .rw[z];exact M
   .exact yb c z
  have U:D≠W:=by
   rcases g.he with z|z
   .rw[z];exact x
   .exact yb c z
  exists wB i,_,rfl,rfl,.inl ⟨by omega,by omega⟩,?_;exists _,u,?_,8-(i+1),by show 8-(i+1)<8-i;omega,rfl,hi,X,W,a5,a4,f2,O2,?_,?_,?_,J,U
  .unfold sgB;rw[be,be,bU];exact Nat.lt_trans hi (by decide)
  .rw[show m+(i+1)*b.n=m+i*b.n+b.n by rw[Nat.succ_mul,Nat.add_assoc]];exact Ã.app Y u (Y.notN u J U) (yb L.sk.dt R)
  .exact(v.trans g).app R
  .rw[yms,bF];exact ya
 .rintro G ⟨t,r,N,I,f1,O1,e,v,c,M,x⟩;ext;exists D,sgB b d S 8,rfl,SqL.of c,?_;ext;exact k t r N I f1 O1 G e v
theorem Ã.up{H:Hp}{A:FA}{X:FX}{f:Α}{m:Nat}{dx pd s:x0}{d:Ρ}{x:Sn}(h:Ã K a H p A X f O m q dx pd s ds d x)(hm:m<=m'):Ã K a H p A X f O m' q dx pd s ds d x:=⟨h.ft.up hm,h.sk,h.ok,h.nO,h.nd⟩
def ysv(A:FA)(d:Ρ)(S:FX×Sn)(ml el pl:x0)(sl:Μ)(n:Nat):Ù (A.re ml el pl sl) d S n=Ù A d S n:=by unfold Ù;rw[ykd];rfl
def vaf(A:FA)(d:Ρ)(S:FX×Sn)(ml el pl:x0)(sl:Μ)(n:Nat):sgB (A.re ml el pl sl) d S n=sgB A d S n:=by unfold sgB;exact List.map_congr_left λj Z=>by rw[ysv]
def rsg(A:FA)(d:Ρ)(S:FX×Sn)(k:Nat):Int:=(sgB A d (rst A d S (9*k+1)) 8).sum
def rtx(A:FA)(d:Ρ)(S:FX×Sn)(k:Nat):Ρ:=(List.range k).map (rsg A d S)
def yl5(A:FA)(d:Ρ)(S:FX×Sn)(k:Nat):rtx A d S (k+1)=rtx A d S k++[rsg A d S k]:=by unfold rtx;rw[List.range_succ,bF];rfl
def yjr(A:FA)(d:Ρ)(S:FX×Sn)(k:Nat):(rtx A d S k).length=k:=by unfold rtx;rw[be,bU]
section
variable{G:Hp}{A:FA}{S:FX×Sn}{f:Α}{m n:Nat}{dx pd s ml el pl:x0}{sl:Μ}{d:Ρ}{Q:VK}{E:XK}
def yzx(hR:Ã K a G p (A.re ml el pl sl) (rst A d S n).1 f O m q dx pd s ds d (rst A d S n).2)(hm:m+20<1000000)(nd0:0<=S.1.nd)(hsg:S.1.sg.length+n<=100000)
  (k:∀(ml2 el2 pl2:x0)(sl2:Μ)(f':Α)(O':Β)(H':Hp),Ã K a H' p (A.re ml2 el2 pl2 sl2) (rst A d S (n+1)).1 f' O' (m+6) q dx pd s ds d (rst A d S (n+1)).2->RGo p q s (A.re ml el pl sl) O G H' ml2 el2 O'->Q (.int (Ù A d S n)) H'):yef K a [.ref p,.ref q] G Q E :=
 ⟨p,A.re ml el pl sl,(rst A d S n).1,f,O,m,q,dx,pd,s,ds,d,(rst A d S n).2,rfl,hR,hm,ye8 A d S nd0 n,bP (yfg A d S n) hsg,λml2 el2 pl2 sl2 f' O' H' c b=>k ml2 el2 pl2 sl2 f' O' H' (Ã.up c (Nat.add_le_add_left hR.ft.n6 m)) b⟩
def yrv(hR:Ã K a G p (A.re ml el pl sl) (rst A d S n).1 f O m q dx pd s ds d (rst A d S n).2)(hm:m+80<1000000)(nd0:0<=S.1.nd)(hsg:S.1.sg.length+n<=90000)
  (k:∀(ml2 el2 pl2:x0)(sl2:Μ)(f':Α)(O':Β)(H':Hp),Ã K a H' p (A.re ml2 el2 pl2 sl2) (rst A d S (n+8)).1 f' O' (m+48) q dx pd s ds d (rst A d S (n+8)).2->RGo p q s (A.re ml el pl sl) O G H' ml2 el2 O'->Q (.int (sgB A d (rst A d S n) 8).sum) H'):ybj K a [.ref p,.ref q] G Q E:=by exists p,A.re ml el pl sl,rst A d S n,f,O,m,q,dx,pd,s,ds,d,rfl,hR,hm,ye8 A d S nd0 n,bP (yfg A d S n) hsg,λml2 el2 pl2 sl2 f' O' H' b c=>?_;have e:A.n<=6:=hR.ft.n6;have b:=Ã.up b (show m+8*A.n<=m+48 by omega);rw[ykd,ydd]at b;rw[vaf];exact k ml2 el2 pl2 sl2 f' O' H' b c
end
#synth yn2 ["foreteller","seeker","most","text"] ["foreteller","seeker","most"] yur
inductive yg5(K:xr)(a:Ads)(vs:Υ)(H:Hp)(Q:VK)(E:XK):Prop
 |mk(p:x0)(A:FA)(S:FX×Sn)(f:Α)(O:Β)(m:Nat)(q dx pd s ds:x0)(d:Ρ)(mo:Nat)(_:vs=[.ref p,.ref q,.int mo])(_:Ã K a H p A S.1 f O m q dx pd s ds d S.2)(_:mo<=1000)(_:m+54*mo+200<1000000)(_:0<=S.1.nd)(_:S.1.sg.length<=10000)(_:(∀(N:Nat)(r ml el pl:x0)(sl:Μ)(f':Α)(O':Β)(H':Hp),N<=mo->(∀j,j<N->Ù A d S (9*j)=1)->Ù A d S (9*N)=0->H r=none->H' r=some (.lst ((rtx A d S N).map V.int))->r≠el->Ã K a H' p (A.re ml el pl sl) (rst A d S (9*N+1)).1 f' O' (m+54*N+6) q dx pd s ds d (rst A d S (9*N+1)).2->RGo p q s A O H H' ml el O'->Q (.ref r) H'))(_:((∀j,j<=mo->Ù A d S (9*j)=1)->∀(ml el:x0)(O':Β)(H':Hp),RGo p q s A O H H' ml el O'->E (.ref a.Dn) none H'))
def vaz:vz P w K mg Γ (CXe P w) 9 a.K7 a.Mz ["foreteller","seeker","most"] (yg5 K a):=by
 exists T.Oc.F.okE,yn2,hr;let⟨p,g,S,f,O,m,q,dx,pd,Y,ds,d,mo,rfl,hR,an,hm,a0,al,kQ,kE⟩:=h;exists 3,1,ye (yo (i:=3) yn2.nd rfl (Or.inl rfl) (xc uo)) (ye (jd PassesOwn.leaving (yr xq (uh (yqe T) hr.m T.Hx (pac (pv 0) (pa1 (pv 1)))) yg (yx _)) (ye (wa (yr xq (pcB yp T.Aa (pa1 (pv 3))) (pv 2) (yx _)) (yc (xb rfl T.Rg T.Pl (pa1 wx))) y6) (yc (yw (è PySem.F.plainAttrs_list PySem.F.slot_list_append PySem.F.type_list_append xh (pv 3) (pa1 (uh (yz6 T) hr.m T.Ob (pac (pv 0) (pa1 (pv 1)))))))))) (yc (yq (pv 3))));exists by walk_at "len",λr hr0=>?_
 exists hr0,H1,S1,hr1;have ai:pd≠r:=yb hR.sk.dt hr0;ext
 refine⟨λw σ' G=>∃(N:Nat)(I D Z:x0)(R:Μ)(f':Α)(O':Β),σ'=[some (.ref p),some (.ref q),some (.int mo),some (.ref r)]/\N<=mo/\(∀j,j<N->Ù g d S (9*j)=1)/\Ã K a G p (g.re I D Z R) (rst g d S (9*N)).1 f' O' (m+54*N) q dx pd Y ds d (rst g d S (9*N)).2/\RGo p q Y g O H G I D O'/\G r=some (.lst ((rtx g d S N).map V.int))/\r≠I/\r≠D/\w=mo-N,
  ⟨_,0,g.ml,g.el,g.pl,g.sl,f,O,rfl,bJ _,λj hj=>absurd hj (bI j),hR.same S1,RGo.refl.same S1,hr1,(yb hR.ft.mx.l hr0).symm,(yb hR.ft.el hr0).symm,rfl⟩,?_⟩
 rintro w σ2 G ⟨N,I,D,Z,R,f1,O1,rfl,hN,a2,e,aj,ab,L,C,rfl⟩;ext;refine yzx e (by omega) a0 (by omega) λv u ak af f2 O2 G2 M k=>?_
 have n:∀{G G2:Hp}{I D Z v u:x0}{R:Μ}{X:FX}{f1:Α}{O1 O2:Β}{m x}{xs:Υ},Ã K a G p (g.re I D Z R) X f1 O1 m q dx pd Y ds d x->RGo p q Y (g.re I D Z R) O1 G G2 v u O2->G r=some (.lst xs)->r≠I->r≠D->G2 r=some (.lst xs)/\r≠v/\r≠u:=λe k c L C=>by
  exists k.fr _ _ c (wz c e.ft.me (by intro z;cases z)) (wz c e.ft.mx.o (by intro z;cases z)) C (wz c e.sk.me (by intro z;cases z)) (wz c e.sk.sp (by intro z;cases z)) (e.ft.B.nlst c),?_,?_
  .rcases k.hm with z|z
   .rw[z];exact L
   .exact yb c z
  .rcases k.he with z|z
   .rw[z];exact C
   .exact yb c z
 let⟨y,aa,a3⟩:=n e k ab L C;have t:=aj.trans k;have a5:=yos g d S (9*N);generalize a8:Ù g d S (9*N)=b at a5;ext;refine ur (λhb=>?_) (λhb=>?_)
 .subst hb
  have a6:∀j,j<N+1->Ù g d S (9*j)=1:=λj hj=>by
   by_cases z:j=N
   .rw[z];exact a8
   .exact a2 j (by omega)
  refine ybr ?_;ext;refine x5 (SqL.of y) ?_;rw[be,yjr];ext;refine ur (λhc=>?_) (λhc=>?_)
  .have am:N=mo:=by omega
   ext;exists by walk_at "len",kE (λj hj=>a6 j (by omega)) v u O2 G2 t
  .ext;refine Â y ?_;ext;refine yrv M (by omega) a0 (by omega) λac ag ad ae f3 O3 G3 a1 U=>?_;let⟨J,W,a7⟩:=n M U y aa a3;have a4:=t.trans U;ext;refine x9 J (ve (by rw[be,yjr];omega)) ?_;ext;exists _,?_,N+1,ac,ag,ad,ae,f3,O3,rfl,by omega,a6,?_,a4.app hr0,?_,W,a7,rfl
   .omega
   .exact Ã.app a1 J (a1.notN J W a7) ai
   .rw[ya,yl5,bF];rfl
 .have ah:Ù g d S (9*N)=0:=by omega
  ext;exact kQ N r v u ak af f2 O2 G2 hN a2 ah hr0 y a3 M t
def yr5(x:Sn)(c b:Int):(nar x c b).2.2<=x.2.2+2:=by
 unfold nar ren
 (repeat' split)<;>(dsimp only;omega)
theorem yoc(A:FA)(d:Ρ)(S:FX×Sn):∀n:Nat,(rst A d S n).2.2.2<=S.2.2.2+2*(n:Int)
 |0=>by show S.2.2.2<=S.2.2.2+2*((0:Nat):Int);omega
 |n+1=>by
  have b:=yoc A d S n;have a:=yr5 (rst A d S n).2 (chX A (rst A d S n).1) (ô d (rst A d S n).2 (chX A (rst A d S n).1));show (nar (rst A d S n).2 (chX A (rst A d S n).1) (ô d (rst A d S n).2 (chX A (rst A d S n).1))).2.2<=_;omega
structure ROk(A:FA)(d:Ρ)(S:FX×Sn)(N:Nat):Prop where
 b1:∀j,j<N->Ù A d S (9*j)=1
 b0:Ù A d S (9*N)=0
 tk:d.take (tL (rst A d S (9*N+1)).2).length=tL (rst A d S (9*N+1)).2
def ROk.uniq{A:FA}{d:Ρ}{S:FX×Sn}{N M:Nat}(h:ROk A d S N)(b1:∀j,j<M->Ù A d S (9*j)=1)(b0:Ù A d S (9*M)=0):M=N:=by
 rcases Nat.lt_trichotomy M N with z|z|z
 .have e:=h.b1 M z;rw[b0]at e;cases e
 .exact z
 .have e:=b1 N z;rw[h.b0]at e;cases e
def rTL(A:FA)(d:Ρ)(S:FX×Sn)(N:Nat):Nat:=(tL (rst A d S (9*N+1)).2).length
def RGo.fgo{s:x0}{A:FA}{H0 H H':Hp}{ml el:x0}(S:yv H0 H)(hq:H0 q=none)(hs:H0 s=none)(h:RGo p q s A O H H' ml el O'):FGo p A O H0 H' el O' :=
 ⟨h.he.imp id S.free,λj c g w=>(h.hO j c g w).imp id S.free,λc o e a b f d=>h.fr c o (S _ _ e) a b f (yb e hq) (yb e hs) d,λc o e=>h.live c o (S _ _ e)⟩
#synth yfa ["foreteller","data","most","seeker","text","own"] ["foreteller","data","most"] yt4
inductive ya6(K:xr)(a:Ads)(vs:Υ)(H:Hp)(Q:VK)(E:XK):Prop
 |mk(p:x0)(A:FA)(X:FX)(f:Α)(O:Β)(m:Nat)(dt:x0)(d:Ρ)(mo:Nat)(_:vs=[.ref p,.ref dt,.int mo])(_:u7 K a H p A X f O m)(_:H dt=some (.lst (d.map V.int)))(_:dt≠A.el)(_:Byt d)(_:d.length<=12000)(_:mo<=1000)(_:m+54*mo+200<1000000)(_:0<=X.nd)(_:X.sg.length<=10000)(_:(∀(N:Nat)(t r el:x0)(O':Β)(H':Hp),N<=mo->ROk A d (X,s0) N->H t=none->H r=none->H' t=some (.tup [.ref r,.int (rTL A d (X,s0) N)])->H' r=some (.lst ((rtx A d (X,s0) N).map V.int))->FGo p A O H H' el O'->(r≠el/\∃ml pl sl f',u7 K a H' p (A.re ml el pl sl) (rst A d (X,s0) (9*N+1)).1 f' O' (m+54*N+6))->Q (.ref t) H'))(_:((∀N,N<=mo->¬ROk A d (X,s0) N)->∀(el:x0)(O':Β)(H':Hp),FGo p A O H H' el O'->E (.ref a.Dn) none H'))
def ypv:vz P w K mg Γ (CXe P w) 10 a.K8 a.N0 ["foreteller","data","most"] (ya6 K a):=by
 exists T.Hy.F.okE,yfa,Z;let⟨p,l,X,f,O,m,dt,d,mo,rfl,hF,C,a5,a8,ab,aa,hm,a6,a4,kQ,kE⟩:=h;refine yh (yo (i:=3) yfa.nd rfl (Or.inl rfl) (ua T.U1 (yyb T) Z.m rfl T.U0 T.Ev.B .nil yz (pa1 (pv 1)))) ?_;refine yh (yo (i:=4) yfa.nd rfl (Or.inl rfl) (x4 (vaz T) Z.m T.Oc yz (pac (pv 0) (pac (pv 3) (pa1 (pv 2)))))) ?_;refine yh (yo (i:=5) yfa.nd rfl (Or.inl rfl) (vv (pv 3) T.Br T.Hw.m (yy9 T) Z.m T.Hw.B .nil v7)) ?_;refine yh (wa (yr (Õ Z.units) (ub jr (pv 1) uv (uk (pcB yp T.Aa (pa1 (pv 5))))) (pv 5) (yx _)) (yc (xb rfl T.Rg T.Pl (pa1 wx))) y6) ?_;exists 3,3,yc (yq (ī (pac (pv 4) (pa1 (pcB yp T.Aa (pa1 (pv 5)))))));intro q D Y a9 ag;have R:yv H (upd (upd H D (.own q)) q (.ins a.Ae D [])):=λb o e=>by rw[yk (yb e Y),yk (yb e a9)];exact e
 exists q,D,.ref dt,_,rfl,ya,.lst (R _ _ C),.inr ⟨d,ydv (R _ _ C) a8 ab,λpd ps ds H1 L J a3 B1=>⟨rfl,?_⟩⟩;have S1:yv H H1:=λb o e=>B1 b o (R b o e) (yb e Y);have z:H ps=none:=R.free J;have a7:H pd=none:=R.free L
 have nO:∀{c:x0},H c=none->∀i,i<l.n->¬O i c:=λG i hi w=>by
  let⟨o,ho,_⟩:=(hF.B.b i hi).own _ w;rw[G]at ho;cases ho
 have hR:Ã K a H1 p l X f O m q D pd ps ds d s0:=⟨hF.same S1,a3,vep,λi hi=>⟨nO Y i hi,nO z i hi⟩,(yb hF.el a7).symm⟩;ext;exists p,l,(X,s0),f,O,m,q,D,pd,ps,ds,d,mo,rfl,hR,aa,hm,a6,a4,λN r ml el pl sl f2 O2 H2 hN S W ae a0 ac k v=>?_,λI ml el O2 H2 v=>?_
 .have ad:=yoc l d (X,s0) (9*N+1);have a1:((X,s0):FX×Sn).2.2.2=5:=rfl;rw[a1]at ad;have go:=v.fgo S1 Y z;have ah:=k.sk.me;have U:H2 dt=some (.lst (d.map V.int)):=(go.kpa hF).lst C a5;ext;exists q,D,pd,ps,ds,d,_,rfl,k.sk,k.ok,by show Int.toNat _<=100000;omega,λw H3 af y S3=>?_
  ext;refine x5 (SqL.of y) ?_;rw[be];ext;refine yb4 (SqL.of (S3 _ _ U)) λu hu=>?_;have ec:ydl (d.map V.int) none (some (((tL (rst l d (X,s0) (9*N+1)).2).length:Nat):Int))=(d.take (tL (rst l d (X,s0) (9*N+1)).2).length).map V.int:=by rw[List.map_take];exact ja _
  rw[ec];exists hu,H4,S4,hu4;have x:=go.same (S3.trans S4);ext;refine yal _ _ (SqL.of hu4) (SqL.of (S4 _ _ y)) ?_;by_cases G:d.take (tL (rst l d (X,s0) (9*N+1)).2).length=tL (rst l d (X,s0) (9*N+1)).2
  .rw[br G];ext;refine x5 (SqL.of (S4 _ _ y)) ?_;rw[be];ext;exists by walk_at "len",λt g=>?_
   refine kQ N t r el O2 _ hN ⟨S,W,G⟩ (x.free g) (S1.free ae) ya (u8 g ((S3.trans S4) _ _ a0)) (x.same (y7 g)) ⟨ac,ml,pl,sl,f2,((k.ft.same (S3.trans S4)).same (y7 g))⟩
  .rw[bC G];ext;exists by walk_at "len",kE (λM hM j=>G (by rw[j.uniq S W];exact j.tk)) el O2 _ x
 .exact kE (λM hM j=>by have e:=I M hM;rw[j.b0]at e;cases e) el O2 H2 (v.fgo S1 Y z)
structure vez(H:Hp)(L dt:x0)(lx:V)(n:Nat)(lk:Μ)(kd:Ξ)(tp:Μ)(ps:Λ)(d:Ρ)(mo N w:Nat)(lt:Μ)(tt:Λ):Prop where
 l:H L=some (.lst (refs lk n))
 n1:1<=n
 n6:n<=6
 r:ux H n lk kd tp ps
 dat:H dt=some (.lst (d.map V.int))
 by':Byt d
 dl:d.length<=12000
 mo1:mo<=1000
 lr:ywa H lx N w lt tt
 w1:w<=1000
 N1:N<=1000
 b:6+6*(N*(9*w+1))+54*mo+200<1000000
def rS(n:Nat)(kd:Ξ)(ps:Λ)(pre:Ρ):FX×Sn:=((FX0 n kd).run (fa0 n ps) pre,s0)
theorem ψ(A:FA)(d:Ρ)(S:FX×Sn):∀k,rst A d S k=rst (fa0 A.n A.ps) d S k
 |0=>rfl
 |k+1=>by
  show rnx A d (rst A d S k)=rnx (fa0 A.n A.ps) d (rst (fa0 A.n A.ps) d S k);rw[ψ A d S k];rfl
def Í(A:FA)(d:Ρ)(S:FX×Sn)(k:Nat):Ù A d S k=Ù (fa0 A.n A.ps) d S k:=by unfold Ù;rw[ψ];rfl
def yr4(A:FA)(d:Ρ)(S:FX×Sn)(k:Nat):rsg A d S k=rsg (fa0 A.n A.ps) d S k:=by unfold rsg sgB;rw[ψ];exact congrArg List.sum (List.map_congr_left λj Z=>by rw[Í])
def yja(A:FA)(d:Ρ)(S:FX×Sn)(k:Nat):rtx A d S k=rtx (fa0 A.n A.ps) d S k:=by unfold rtx;exact List.map_congr_left λj Z=>yr4 A d S j
def yi0(A:FA)(d:Ρ)(S:FX×Sn)(k:Nat):rTL A d S k=rTL (fa0 A.n A.ps) d S k:=by unfold rTL;rw[ψ]
theorem ROk.fa0{A:FA}{d:Ρ}{S:FX×Sn}{N:Nat}:ROk A d S N↔ROk (fa0 A.n A.ps) d S N:=by
 constructor
 .intro h;exists λj a=>by rw[<- Í];exact h.b1 j a,by rw[<- Í];exact h.b0,by rw[<- ψ];exact h.tk
 .intro h;exists λj a=>by rw[Í];exact h.b1 j a,by rw[Í];exact h.b0,by rw[ψ];exact h.tk
def yzk{s t:Int}(hs:0<=s/\s<=255)(ht:0<=t/\t<=255)(h:b8 s=b8 t):s=t:=by have a:=yvz hs.1 hs.2;have b:=yvz ht.1 ht.2;have h:[s/128%2,s/64%2,s/32%2,s/16%2,s/8%2,s/4%2,s/2%2,s/1%2]=[t/128%2,t/64%2,t/32%2,t/16%2,t/8%2,t/4%2,t/2%2,t/1%2]:=h;injection h with h0 h;injection h with h1 h;injection h with h2 h;injection h with h3 h;injection h with h4 h;injection h with h5 h;injection h with h6 h;injection h with h7 h;omega
def ye6{mx:Nat->Int}{d:Ρ}(hd:Byt d){m:Nat}(hc:∀j,j<m->Ch (mx j))(hb:∀j,j<m->bt j=0\/bt j=1)(i:InS d (snK mx bt m)):∀k,k<m->bt k=ô d (snK mx bt k) (mx k)/\InS d (snK mx bt k):=by
 induction m with
 |zero=>exact λk a=>absurd a (bI k)
 |succ m ih =>
  have e:=(z5 (mx:=mx) (bt:=bt) m λj c=>hc j (by omega)).1;let⟨b,f⟩:=yr8 hd e (hc m (by omega)) (hb m (by omega)) i;intro k a;by_cases z:k=m
  .rw[z];exists f,b
  .exact ih (λj c=>hc j (by omega)) (λj c=>hb j (by omega)) b k (by omega)
def yk9{k:Nat}(h:k<(dec ts).length):vi ts k=0\/vi ts k=1:=by let⟨a,b⟩:=yl3 ts k h;omega
def ybq(x:Sn):Byt (tL x):=λb a=>ysc _ _ b a
theorem þ{n:Nat}{kd:Ξ}{ps:Λ}{pre d:Ρ}(hd:Byt d)(hc:∀j,j<(dec ts).length->Ch (ut n kd ps pre ts j))(hi:InS d (snK (ut n kd ps pre ts) (vi ts) (dec ts).length)):∀k,k<=(dec ts).length->rst (fa0 n ps) d (rS n kd ps pre) k=(fX n kd ps pre ts k,snK (ut n kd ps pre ts) (vi ts) k)
 |0,_=>rfl
 |k+1,hk=>by
  have c:=(ye6 hd hc (λj e=>yk9 e) hi k (by omega)).1;have b:(dec ts)[k]?=some (vi ts k):=by unfold vi;rw[bg (by omega)];rfl
  show rnx (fa0 n ps) d (rst (fa0 n ps) d (rS n kd ps pre) k)=_;rw[þ hd hc hi k (by omega)];show ((fX n kd ps pre ts k).see (fa0 n ps) (ô d (snK (ut n kd ps pre ts) (vi ts) k) (ut n kd ps pre ts k)),nar (snK (ut n kd ps pre ts) (vi ts) k) (ut n kd ps pre ts k) (ô d (snK (ut n kd ps pre ts) (vi ts) k) (ut n kd ps pre ts k)))=(fX n kd ps pre ts (k+1),nar (snK (ut n kd ps pre ts) (vi ts) k) (ut n kd ps pre ts k) (vi ts k));rw[<- c]
  have a:fX n kd ps pre ts (k+1)=(fX n kd ps pre ts k).see (fa0 n ps) (vi ts k):=by
   unfold fX;rw[zj b]
  rw[a]
def yh0{n:Nat}{kd:Ξ}{ps:Λ}{pre d:Ρ}(hd:Byt d)(hc:∀j,j<(dec ts).length->Ch (ut n kd ps pre ts j))(hi:InS d (snK (ut n kd ps pre ts) (vi ts) (dec ts).length))(k:Nat)(hk:k<(dec ts).length):Ù (fa0 n ps) d (rS n kd ps pre) k=vi ts k:=by have a:=(ye6 hd hc (λj b=>yk9 b) hi k hk).1;unfold Ù;rw[þ hd hc hi k (by omega)];exact a.symm
def Ü(t:Int)(r:Ρ)(k:Nat):vi (t::r) (k+9)=vi r k:=rfl
def yfp(t:Int)(r:Ρ):∀i,i<8->vi (t::r) (1+i)=t/wB i%2:=λi a=>by
 rcases i with _|_|_|_|_|_|_|_|i
 .rfl
 .rfl
 .rfl
 .rfl
 .rfl
 .rfl
 .rfl
 .rfl
 .omega
theorem Ę:∀(ts:Ρ)(j:Nat)(hj:j<ts.length),vi ts (9*j)=1/\∀i,i<8->vi ts (9*j+1+i)=ts[j]/wB i%2
 |[],j,hj=>absurd hj (bI j)
 |t::r,0,_=>⟨rfl,λi a=>by rw[show 9*0+1+i=1+i by omega];exact yfp t r i a⟩
 |t::r,j+1,hj=>by
  let⟨c,b⟩:=Ę r j (by simpa using hj);exists ?_,λi a=>?_
  .rw[show 9*(j+1)=9*j+9 by omega,Ü];exact c
  .rw[show 9*(j+1)+1+i=9*j+1+i+9 by omega,Ü];exact b i a
theorem yel:∀ts:Ρ,vi ts (9*ts.length)=0
 |[]=>rfl
 |t::r=>by
  rw[show 9*(t::r).length=9*r.length+9 by rw[bW];omega,Ü];exact yel r
def ym4(A:FA)(d:Ρ)(S:FX×Sn)(c i:Nat):Ù A d (rst A d S c) i=Ù A d S (c+i):=by unfold Ù;rw[ydd]
def yij{n:Nat}{kd:Ξ}{ps:Λ}{pre d:Ρ}(hts:Sgs ts)(hd:Byt d)(hc:∀j,j<(dec ts).length->Ch (ut n kd ps pre ts j))(hl:(tL (snK (ut n kd ps pre ts) (vi ts) (dec ts).length)).length<=d.length)(h:d.take (tL (snK (ut n kd ps pre ts) (vi ts) (dec ts).length)).length=tL (snK (ut n kd ps pre ts) (vi ts) (dec ts).length)):
  ROk (fa0 n ps) d (rS n kd ps pre) ts.length/\rtx (fa0 n ps) d (rS n kd ps pre) ts.length=ts/\rTL (fa0 n ps) d (rS n kd ps pre) ts.length=(tL (snK (ut n kd ps pre ts) (vi ts) (dec ts).length)).length:=by
 have m:=(z5 (bt:=vi ts) _ hc).1;have a:=yaj hd m hl h;have c:=xm ts
 have f:rst (fa0 n ps) d (rS n kd ps pre) (9*ts.length+1)=(fX n kd ps pre ts (dec ts).length,snK (ut n kd ps pre ts) (vi ts) (dec ts).length):=by
  rw[<- c];exact þ hd hc a _ (bj _)
 have b:=yh0 hd hc a;exists⟨λj p=>?_,?_,?_⟩,?_,?_
 .rw[b _ (by omega)];exact(Ę ts j p).1
 .rw[b _ (by omega)];exact yel ts
 .rw[f];exact h
 .show (List.range ts.length).map (rsg (fa0 n ps) d (rS n kd ps pre))=ts;refine List.ext_getElem (by rw[be,bU]) λj q g=>?_;rw[cK,List.getElem_range];have k:=hts ts[j] (cc g);have l:=(Ę ts j g).2
  have e:∀i,i<8->wB i*Ù (fa0 n ps) d (rst (fa0 n ps) d (rS n kd ps pre) (9*j+1)) i=wB i*(ts[j]/wB i%2):=λi a=>by
   rw[ym4,b _ (by omega),l i a]
  have o:sgB (fa0 n ps) d (rst (fa0 n ps) d (rS n kd ps pre) (9*j+1)) 8=(List.range 8).map λi=>wB i*(ts[j]/wB i%2):=by
   unfold sgB;exact List.map_congr_left λi a=>e i (cz.mp a)
  unfold rsg;rw[o];exact yvz k.1 k.2
 .unfold rTL;rw[f]
theorem yke:∀{ts us:Ρ},Sgs ts->Sgs us->dec ts=(dec us).take (dec ts).length->ts=us
 |[],[],_,_,_=>rfl
 |[],u::r,_,_,h=>by
  have h:[(0:Int)]=[1]:=h;simp at h
 |t::r,[],_,_,h=>by
  have d:(dec (t::r)).length=9*(r.length+1)+1:=xm (t::r);have f:=congrArg List.length h;rw[bH,d]at f;have j:(dec ([]:Ρ)).length=1:=rfl;omega
 |t::r,u::r',ht,hu,h=>by
  have a:∀s:Int,(1::b8 s).length=9:=λZ=>rfl;have h:(1::b8 t)++dec r=((1::b8 u)++dec r').take (((1::b8 t)++dec r).length):=h;rw[bp,a,List.take_append,a,Nat.add_sub_cancel_left,cm (by rw[a];omega)]at h;let⟨i,g⟩:=List.append_inj h (by rw[a,a]);have c:=yzk (ht t (by simp)) (hu u (by simp)) (List.cons.inj i).2;have e:=yke (λx b=>ht x (by simp[b])) (λx b=>hu x (by simp[b])) g;rw[c,e]
def yr7{n:Nat}{kd:Ξ}{ps:Λ}{pre us:Ρ}(hts:Sgs ts)(hus:Sgs us)(c1:∀j,j<(dec ts).length->Ch (ut n kd ps pre ts j))(c2:∀j,j<(dec us).length->Ch (ut n kd ps pre us j))
  (h:(tL (snK (ut n kd ps pre ts) (vi ts) (dec ts).length)).take (tL (snK (ut n kd ps pre us) (vi us) (dec us).length)).length=tL (snK (ut n kd ps pre us) (vi us) (dec us).length)):ts=us:=by
 have r:=(z5 (bt:=vi ts) _ c1).1;have u:=(z5 (bt:=vi us) _ c2).1;have b:=ybq (snK (ut n kd ps pre ts) (vi ts) (dec ts).length);have i:=yaj b r (bj _) (bY);have l:=yaj b u (by have:=congrArg List.length h;rw[bH]at this;omega) h;generalize tL (snK (ut n kd ps pre ts) (vi ts) (dec ts).length)=d at b i l;have q:=ye6 b c1 (λj f=>yk9 f) i;have t:=ye6 b c2 (λj f=>yk9 f) l
 have a:∀k,k<=(dec ts).length->k<=(dec us).length->(dec ts).take k=(dec us).take k/\snK (ut n kd ps pre ts) (vi ts) k=snK (ut n kd ps pre us) (vi us) k:=by
  intro k
  induction k with
  |zero=>exact λZ Z=>⟨rfl,rfl⟩
  |succ k ih =>
   intro x w;let⟨g,p⟩:=ih (by omega) (by omega)
   have o:ut n kd ps pre ts k=ut n kd ps pre us k:=by
    unfold ut fX;rw[g]
   have m:vi ts k=vi us k:=by rw[(q k (by omega)).1,(t k (by omega)).1,p,o]
   exists ?_,?_
   .have v:(dec ts)[k]?=some (vi ts k):=by unfold vi;rw[bg (by omega)];rfl
    have s:(dec us)[k]?=some (vi us k):=by unfold vi;rw[bg (by omega)];rfl
    rw[zv v,zv s,g,m]
   .show nar _ _ _=nar _ _ _;rw[p,o,m]
 rcases Nat.le_total (dec ts).length (dec us).length with c|c
 .obtain⟨e,_⟩:=a _ (bj _) c;rw[bY]at e;exact yke hts hus e
 .obtain⟨e,_⟩:=a _ c (bj _);rw[bY]at e;exact(yke hus hts e.symm).symm
def ü{ys:Ρ}(h1:Byt xs)(h2:Byt ys):Byt (xs++ys):=λb a=>by
 rcases bO.mp a with h|h
 .exact h1 b h
 .exact h2 b h
def δ(n:Nat)(kd:Ξ)(ps:Λ)(pre ts:Ρ):Ρ:=tL (snK (ut n kd ps pre ts) (vi ts) (dec ts).length)
def yd2{n:Nat}{kd:Ξ}{ps:Λ}{pre:Ρ}(n1:1<=n)(n6:n<=6)(hp:yaq pre)(hz:ts.length<=300):(δ n kd ps pre ts).length<=5500:=by
 have c:=xm ts;let⟨a,b⟩:=z5 (mx:=ut n kd ps pre ts) (bt:=vi ts) (dec ts).length λj Z=>æ n1 n6 hp j;unfold δ;rw[yex];have:sz (snK (ut n kd ps pre ts) (vi ts) (dec ts).length)<=5500:=by show Int.toNat _<=5500;omega
 omega
def ź{n:Nat}{kd:Ξ}{ps:Λ}{pre bs:Ρ}(n1:1<=n)(n6:n<=6)(hp:yaq pre)(hts:Sgs ts)(hb:Byt bs):
  ROk (fa0 n ps) (δ n kd ps pre ts++bs) (rS n kd ps pre) ts.length/\rtx (fa0 n ps) (δ n kd ps pre ts++bs) (rS n kd ps pre) ts.length=ts/\rTL (fa0 n ps) (δ n kd ps pre ts++bs) (rS n kd ps pre) ts.length=(δ n kd ps pre ts).length :=
 yij hts (ü (ybq _) hb) (λj Z=>æ n1 n6 hp j) (by rw[bp];exact Nat.le_add_right _ _) List.take_left
def ys0{n:Nat}{kd:Ξ}{ps:Λ}{pre bs:Ρ}(n1:1<=n)(n6:n<=6)(hp:yaq pre)(hb:Byt bs):(rst (fa0 n ps) (δ n kd ps pre ts++bs) (rS n kd ps pre) (9*ts.length+1)).1=((FX0 n kd).run (fa0 n ps) pre).run (fa0 n ps) (dec ts):=by have a:∀j,j<(dec ts).length->Ch (ut n kd ps pre ts j):=λj Z=>æ n1 n6 hp j;have b:Byt (δ n kd ps pre ts++bs):=ü (ybq _) hb;have c:=yaj b (z5 (bt:=vi ts) _ a).1 (by rw[bp];exact Nat.le_add_right _ _) List.take_left;rw[<- xm ts,þ b a c _ (bj _)];unfold fX;rw[bY]
def vdj{x:Sn}{c b:Int}(h:Ok x)(hc:Ch c):(nar x c b).2.1<1099511627776:=by
 let⟨e,a,f⟩:=Ś h.w0 h.w1 hc;have d:=h.w1;unfold nar ren
 (repeat' split)<;>(dsimp only at*;omega)
def ymp{n:Nat}{kd:Ξ}{ps:Λ}{pre:Ρ}(n1:1<=n)(n6:n<=6)(hp:yaq pre):1<=(δ n kd ps pre ts).length:=by
 have d:=xm ts;obtain⟨m,f⟩:∃m,(dec ts).length=m+1:=⟨9*ts.length,by omega⟩;unfold δ;rw[yex,f];have a:∀j,j<m+1->Ch (ut n kd ps pre ts j):=λj Z=>æ n1 n6 hp j;have g:=(z5 (bt:=vi ts) m λj l=>a j (by omega)).1;have c:=(z5 (bt:=vi ts) (m+1) a).1;have i:(snK (ut n kd ps pre ts) (vi ts) (m+1)).2.1<1099511627776:=vdj (x:=snK (ut n kd ps pre ts) (vi ts) m) (b:=vi ts m) g.ok (a m (by omega));have h:=yjj (yai c.ok);have k:=c.sz5;have e:pw (tK (snK (ut n kd ps pre ts) (vi ts) (m+1)))<pw 5:=by rw[pw5];omega
 have:=vbv e;omega
def Ú(L:qi (Ρ)):Ρ:=(L.map dec).flatten
def Ĝ(L:qi (Ρ))(t:Ρ):Ú (L++[t])=Ú L++dec t:=by unfold Ú;rw[bF,List.flatten_append];simp
def jn(L:qi (Ρ)):yaq (Ú L):=λb a=>by
 unfold Ú at a;let⟨l,c,a⟩:=List.mem_flatten.mp a;let⟨t,_,rfl⟩:=bq.mp c;exact jc t b a
def yl1{A:FA}{X:FX}(hts:Sgs ts)(h1:X.sg=[])(h2:X.nd=0):(X.run A (dec ts)).sg=[]/\(X.run A (dec ts)).nd=0:=by
 have a:∀k,k<=(dec ts).length->TxE ts k (X.run A ((dec ts).take k)).sg (X.run A ((dec ts).take k)).nd:=by
  intro k
  induction k with
  |zero =>
   intro _;exact .inl ⟨bJ _,by show yao _ _ X.sg X.nd;rw[h1,h2];exact yao.zero _⟩
  |succ k ih =>
   intro d;have b:(dec ts)[k]?=some ((dec ts)[k]'(by omega)):=bg _;rw[zj b];exact((ih (by omega)).next hts b).2
 have e:=a _ (bj _);rw[bY]at e;have c:=xm ts;rcases e with⟨h,_⟩|⟨_,h⟩
 .omega
 .exact h
def ywf(p:x0)(A:FA)(O:Β):Ν:=λc=>c=p\/c=A.mp\/(∃j,j<A.n/\c=A.bk j)\/(∃j,j<A.n/\O j c)\/c=A.el
def FZ(K:xr)(a:Ads)(H:Hp)(p:x0)(n:Nat)(kd:Ξ)(ps:Λ)(pre:Ρ)(M:Nat)(W:Ν):Prop :=
 ∃A f O m,u7 K a H p A ((FX0 n kd).run (fa0 n ps) pre) f O m/\m<=M/\ywj H A/\A.n=n/\A.kd=kd/\A.ps=ps/\((FX0 n kd).run (fa0 n ps) pre).sg=[]/\((FX0 n kd).run (fa0 n ps) pre).nd=0/\∀c,W c↔ywf p A O c
def ywi:HO->Bool
 | .ins _ _ _=>true
 | .dT _=>true
 | .dK _=>true
 | .frz _ (.dK _)=>true
 |_=>false
def ve5(o:qj HO):Prop:=(∃ys,o=some (.lst ys))\/∃ys,o=some (.tup ys)/\(ys.length≠2\/∃i,ys[0]?=some (.int i))
def WSh(H:Hp)(W:Ν):Prop:=∀c,W c->∃o,H c=some o/\(ywi o=true\/∃xs,o=.lst xs/\∀x∈xs,(∃s,x=V.str s)\/x=V.non\/∃q,x=V.ref q/\ve5 (H q))
def yrs{o:HO}(h:ywh o=true):ywi o=true:=by cases o<;>first|rfl|cases h
section
variable{H H':Hp}{n:Nat}{kd:Ξ}{ps:Λ}{pre:Ρ}{M:Nat}{W:Ν}
def FZ.sh(h:FZ K a H p n kd ps pre M W):WSh H W:=λc w=>by
 let⟨A,f,O,m,d,_,_,_,_,_,q,_,e⟩:=h;rcases (e c).mp w with z|z|⟨j,g,z⟩|⟨j,g,z⟩|z
 .exists _,by rw[z];exact d.me,.inl rfl
 .exists _,by rw[z];exact d.mx.o,.inl rfl
 .exists _,by rw[z];exact(d.B.b j g).me,.inl rfl
 .obtain⟨o,l,r⟩:=(d.B.b j g).own c z;exists o,l,.inl (yrs r)
 .have i:=d.el;rw[q]at i;exists _,by rw[z];exact i,.inr ⟨_,rfl,λx k=>by cases k⟩
def FZ.live(h:FZ K a H p n kd ps pre M W):∀c,W c->∃o,H c=some o:=λc w=>let ⟨o,e,_⟩:=h.sh c w;⟨o,e⟩
theorem FZ.same(h:FZ K a H p n kd ps pre M W)(S:yv H H'):FZ K a H' p n kd ps pre M W:=by let⟨A,f,O,m,c,d,b,r⟩:=h;exists A,f,O,m,c.same S,d,b.same S,r
def FZ.up(h:FZ K a H p n kd ps pre M W){M':Nat}(hM:M<=M'):FZ K a H p n kd ps pre M' W:=by let⟨A,f,O,m,b,c,r⟩:=h;exists A,f,O,m,b,bP c hM,r
theorem WSh.tup(h:WSh H W){c:x0}{xs:Υ}(e:H c=some (.tup xs)):¬W c:=λw=>by
 obtain⟨o,a,z|⟨b,z,_⟩⟩:=h c w
 .rw[e]at a;cases a;cases z
 .rw[e,z]at a;cases a
def WSh.ints(h:WSh H W){c:x0}{ns:Ρ}(e:H c=some (.lst (ns.map V.int)))(hn:1<=ns.length):¬W c:=λw=>by
 obtain⟨o,a,z|⟨b,z,q⟩⟩:=h c w
 .rw[e]at a;cases a;cases z
 .rw[e,z]at a;cases a
  cases ns with
  |nil=>cases hn
  |cons x r=>rcases q (.int x) bN with⟨_,z⟩|z|⟨_,z,_⟩<;>cases z
theorem WSh.refs(h:WSh H W){c:x0}{g:Μ}{k:Nat}(e:H c=some (.lst (Law.refs g k)))(hk:1<=k)(hg:¬ve5 (H (g 0))):¬W c:=λw=>by
 obtain⟨o,a,z|⟨d,z,q⟩⟩:=h c w
 .rw[e]at a;cases a;cases z
 .rw[e,z]at a;cases a;rcases q (.ref (g 0)) (bA (ysu hk))with⟨_,z⟩|z|⟨f,z,b⟩
  .cases z
  .cases z
  .cases z;exact hg b
theorem FZ.frame(h:FZ K a H p n kd ps pre M W)(sh:WSh H W2)(dj:∀c,W c->¬W2 c)(fr:∀c o,H c=some o->¬W2 c->H' c=some o):FZ K a H' p n kd ps pre M W:=by
 let⟨A,f,O,m,j,Z,x,Q,e2,N,Y,T,q⟩:=h;have k:=j.n1;let⟨R,d⟩:=x.2.2
 have G:¬W2 A.ll:=sh.refs x.1 k λz=>by
  let⟨J,e,v,_⟩:=d 0 k;cases e;rw[v]at z;rcases z with⟨_,z⟩|⟨_,z,s⟩
  .cases z
  .cases z;exact s.elim (λs=>s rfl) λ⟨_,s⟩=>nomatch s
 have y:¬W2 A.bl:=sh.refs j.bl k λz=>by rw[(j.B.b 0 k).me]at z;rcases z with⟨_,z⟩|⟨_,z,_⟩<;>cases z
 have E:¬W2 A.pl:=sh.refs j.pl k λz=>by
  let⟨_,⟨L,P⟩,_,_⟩:=j.slot k;let⟨C,fs,X⟩:=ε a L (((FX0 n kd).run (fa0 n ps) pre).g 0 (((FX0 n kd).run (fa0 n ps) pre).key A 0));rw[P,X]at z;rcases z with⟨_,z⟩|⟨_,z,_⟩<;>cases z
 have F:¬W2 A.ml:=sh.ints j.mx.l (by rw[j.wok.len];exact k);exists A,f,O,m,j.frame (O2:=W2) (λc o e U=>fr c o e U) (dj _ ((q _).mpr (.inl rfl))) (dj _ ((q _).mpr (.inr (.inl rfl)))) (λi r=>dj _ ((q _).mpr (.inr (.inr (.inl ⟨i,r,rfl⟩))))) (λi c r w=>dj _ ((q _).mpr (.inr (.inr (.inr (.inl ⟨i,r,w⟩)))))) (λl S D e=>fr _ _ e ?_) (λt S e=>?_),Z,⟨fr _ _ x.1 G,x.2.1,R,λi r=>?_⟩,Q,e2,N,Y,T,q
 .rcases D with z|z|z|z
  .rw[z];exact y
  .rw[z];exact dj _ ((q _).mpr (.inr (.inr (.inr (.inr rfl)))))
  .rw[z];exact F
  .rw[z];exact E
 .rcases e with(e|⟨o,e⟩)|e
  .exact .inl (.inl (fr _ _ e (sh.tup e)))
  .refine .inl (.inr ⟨o,fr _ _ e λw=>?_⟩);obtain⟨o',u,z|⟨ys,z,_⟩⟩:=sh t w
   .rw[e]at u;cases u;cases z
   .rw[e,z]at u;cases u
  .exact .inr e
 .obtain⟨J,z,v,I,h3⟩:=d i r;exists J,z,fr _ _ v (sh.tup v),fr _ _ I (sh.tup I),h3
def FZ.went{A:FA}{f f':Α}{m:Nat}{X:FX}{ml el pl:x0}{sl:Μ}(hF:u7 K a H p A ((FX0 A.n A.kd).run (fa0 A.n A.ps) pre) f O m)(hl:ywj H A)(hX:X=(FX0 A.n A.kd).run (fa0 A.n A.ps) (pre++dec ts))(hts:Sgs ts)(h4:((FX0 A.n A.kd).run (fa0 A.n A.ps) pre).sg=[])(h5:((FX0 A.n A.kd).run (fa0 A.n A.ps) pre).nd=0)
  (hF':u7 K a H' p (A.re ml el pl sl) X f' O' m') (go:FGo p A O H H' el O') (e6:∀c,W c↔ywf p A O c):FZ K a H' p A.n A.kd A.ps (pre++dec ts) m' (ywf p (A.re ml el pl sl) O')/\Go W H H' (ywf p (A.re ml el pl sl) O'):=by
 subst hX;have h:=go.kpa hF;have d:=yl1 (A:=fa0 A.n A.ps) hts h4 h5;exists⟨_,f',O',m',hF',bj _,⟨(h _ _ hl.1 rfl hl.2.1).2,(h _ _ hl.1 rfl hl.2.1).1,?_⟩,rfl,rfl,rfl,by rw[τ];exact d.1,by rw[τ];exact d.2,λc=>Iff.rfl⟩,⟨λc o e t=>?_,λc w=>?_,go.live⟩
 .obtain⟨s,r⟩:=hl.2.2;exists s,λi x=>?_;let⟨B,z,l,k,u⟩:=r i x;have q:∀{c:x0}{xs:Υ},H c=some (.tup xs)->c≠A.el:=λe z=>by rw[z,hF.el]at e;cases e
  exists B,z,(h _ _ l rfl (q l)).2,(h _ _ k rfl (q k)).2,u
 .have b:¬ywf p A O c:=λw=>t ((e6 c).mpr w);exact go.fr c o e (λz=>b (.inl z)) (λz=>b (.inr (.inl z))) (λz=>b (.inr (.inr (.inr (.inr z))))) λj g w=>b (.inr (.inr (.inr (.inl ⟨j,g,w⟩))))
 .rcases w with z|z|⟨j,g,z⟩|⟨j,g,z⟩|z
  .exact .inl ((e6 c).mpr (.inl z))
  .exact .inl ((e6 c).mpr (.inr (.inl z)))
  .exact .inl ((e6 c).mpr (.inr (.inr (.inl ⟨j,g,z⟩))))
  .rcases go.hO j c g z with v|v
   .exact .inl ((e6 c).mpr (.inr (.inr (.inr (.inl ⟨j,g,v⟩)))))
   .exact .inr v
  .rcases go.he with y|y
   .exact .inl ((e6 c).mpr (.inr (.inr (.inr (.inr (show c=A.el from Eq.trans z y))))))
   .exact .inr (by rw[show c=el from z];exact y)
def FZ.read{Q:VK}{E:XK}{dt:x0}{bs:Ρ}{mo:Nat}(h:FZ K a H p n kd ps pre M W)(hb:yaq pre)(hts:Sgs ts)(hdt:H dt=some (.lst ((δ n kd ps pre ts++bs).map V.int)))(ndt:¬W dt)(hbs:Byt bs)(hdl:(δ n kd ps pre ts++bs).length<=12000)(hz:ts.length<=mo)(hmo:mo<=1000)(hM:M+54*mo+200<1000000)
  (k:∀t r W' H',H t=none->H r=none->H' t=some (.tup [.ref r,.int ((δ n kd ps pre ts).length:Nat)])->H' r=some (.lst (ts.map V.int))->FZ K a H' p n kd ps (pre++dec ts) (M+6*(dec ts).length) W'->Go W H H' W'->¬W' r->Q (.ref t) H'):ya6 K a [.ref p,.ref dt,.int mo] H Q E:=by
 let⟨A,f,O,m,l,hm,hl,rfl,rfl,rfl,Y,R,T⟩:=h;let⟨s,F,G⟩:=ź (kd:=A.kd) (ps:=A.ps) (pre:=pre) (bs:=bs) l.n1 l.n6 hb hts hbs;have D:Byt (δ A.n A.kd A.ps pre ts++bs):=ü (ybq _) hbs;exists p,A,_,f,O,m,dt,_,mo,rfl,l,hdt,λz=>ndt ((T _).mpr (.inr (.inr (.inr (.inr z))))),D,hdl,hmo,by omega,by rw[R];decide,by rw[Y];exact bJ _,λN t r v Z H' hN i y J q d U c=>?_,λu v Z H' U=>?_
 .rw[ROk.fa0]at i;obtain rfl:N=ts.length:=s.uniq i.b1 i.b0;rw[yi0]at q;rw[yja]at d;have q:H' t=some (.tup [.ref r,.int (rTL (fa0 A.n A.ps) (δ A.n A.kd A.ps pre ts++bs) (rS A.n A.kd A.ps pre) ts.length)]):=q;have d:H' r=some (.lst ((rtx (fa0 A.n A.ps) (δ A.n A.kd A.ps pre ts++bs) (rS A.n A.kd A.ps pre) ts.length).map V.int)):=d;rw[G]at q;rw[F]at d;let⟨I,P,S,L,f',c⟩:=c;have C:=xm ts
  have eX:(rst A (δ A.n A.kd A.ps pre ts++bs) ((FX0 A.n A.kd).run (fa0 A.n A.ps) pre,s0) (9*ts.length+1)).1=(FX0 A.n A.kd).run (fa0 A.n A.ps) (pre++dec ts):=by
   rw[ψ,τ];exact ys0 l.n1 l.n6 hb hbs
  let⟨z,g⟩:=FZ.went l hl eX hts Y R c U T;refine k t r _ H' y J q d (z.up (by omega)) g λw=>?_;rcases w with w|w|⟨j,x,w⟩|⟨j,x,w⟩|w
  .have e:=c.me;rw[<- w,d]at e;cases e
  .have e:=c.mx.o;rw[show r=(A.re P v S L).mp from w]at d;rw[d]at e;cases e
  .have e:=(c.B.b j x).me;rw[show r=(A.re P v S L).bk j from w]at d;rw[d]at e;cases e
  .obtain⟨o,X,hi⟩:=(c.B.b j x).own _ w;rw[d]at X;cases X;cases hi
  .exact I w
 .exact(u ts.length hz (by rw[ROk.fa0];exact s)).elim
def FZ.press{Q:VK}{E:XK}{tx:x0}(h:FZ K a H p n kd ps pre M W)(htx:jj H tx ts 1000)(ntx:¬W tx)(hM:M+6*(dec ts).length+20<1000000)
  (k:∀r W' H',H r=none->H' r=some (.lst ((δ n kd ps pre ts).map V.int))->FZ K a H' p n kd ps (pre++dec ts) (M+6*(dec ts).length) W'->Go W H H' W'->Q (.ref r) H'):yd4 K a [.ref p,.ref tx] H Q E:=by
 let⟨A,f,O,m,o,G,w,rfl,rfl,rfl,l,d,i⟩:=h;exists p,A,_,f,O,m,tx,ts,rfl,o,l,d,htx,λz=>ntx ((i _).mpr (.inr (.inr (.inr (.inr z))))),by omega,λr C B D y I F x H' c q b t u=>?_
 have v:((FX0 A.n A.kd).run (fa0 A.n A.ps) pre).run A (dec ts)=(FX0 A.n A.kd).run (fa0 A.n A.ps) (pre++dec ts):=by rw[τ];exact jv A _ _
 let⟨z,g⟩:=FZ.went o w v htx.s l d b u i;refine k r _ H' c ?_ (z.up (by omega)) g;rw[q];have e:snK (yfh A ((FX0 A.n A.kd).run (fa0 A.n A.ps) pre) ts) (vi ts) (dec ts).length=snK (ut A.n A.kd A.ps pre ts) (vi ts) (dec ts).length:=Ĕ _ λj Z=>⟨by unfold ut yfh fX;rw[jv A];rfl,rfl⟩;rw[e];rfl
end
def nmL(L:Η):Υ:=L.map λx=>V.str x.1
def yb7(H:Hp)(U:Ν):qi (Str×qi Int)->qi V->Prop
 |[],ks=>ks=[]
 |x::r,ks=>∃k ks',ks=k::ks'/\(k=.non\/∃q,k=.ref q/\H q=some (.lst (x.2.map V.int))/\¬U q)/\yb7 H U r ks'
theorem yb7.len{H:Hp}:∀{L:Η}{ks:Υ},yb7 H U L ks->ks.length=L.length
 |[],_,h=>by rw[show _=_ from h];rfl
 |_::r,_,⟨_,_,e,_,h⟩=>by rw[e,bW,bW,h.len]
theorem yb7.mono{H H':Hp}(f:∀q xs,H q=some (.lst xs)->¬U q->H' q=some (.lst xs)/\¬U' q):∀{L:Η}{ks:Υ},yb7 H U L ks->yb7 H' U' L ks
 |[],_,h=>h
 |_::_,_,⟨k,ks',e,z,h⟩=>⟨k,ks',e,z.imp id λ⟨q,e,b,a⟩=>⟨q,e,f q _ b a⟩,h.mono f⟩
theorem yb7.snoc{H:Hp}{nm:Str}{t:Ρ}{k:V}(hk:k=.non\/∃q,k=.ref q/\H q=some (.lst (t.map V.int))/\¬U q):∀{L:Η}{ks:Υ},yb7 H U L ks->yb7 H U (L++[(nm,t)]) (ks++[k])
 |[],_,h=>by rw[show _=_ from h];exists k,[],rfl,hk,rfl
 |_::_,_,⟨k',ks',e,z,h⟩=>⟨k',ks'++[k],by rw[e];rfl,z,h.snoc hk⟩
theorem yb7.mem{H:Hp}:∀{L:Η}{ks:Υ},yb7 H U L ks->∀x∈ks,x=.non\/∃q ys,x=.ref q/\H q=some (.lst ys)/\¬U q
 |[],_,h,x,hx=>by rw[show _=_ from h]at hx;cases hx
 |_::_,_,⟨k,ks',e,z,h⟩,x,hx=>by
  rw[e]at hx;rcases bB.mp hx with y|y
  .rw[y];exact z.imp id λ⟨q,e,b,a⟩=>⟨q,_,e,b,a⟩
  .exact h.mem x y
def ChW(ll tl:x0)(W:Ν):Ν:=λc=>c=ll\/c=tl\/W c
structure Ä(K:xr)(a:Ads)(H:Hp)(c dc p ll tl:x0)(n:Nat)(kd:Ξ)(ps:Λ)(L:Η)(ks:Υ)(M:Nat)(W:Ν):Prop where
 me:H c=some (.ins a.A1 dc (jq (.ref p) (.ref ll) (.ref tl)))
 fz:FZ K a H p n kd ps (Ú (L.map (·.2))) M W
 hl:H ll=some (.lst (nmL L))
 ht:H tl=some (.lst ks)
 tx:yb7 H (ChW ll tl W) L ks
 nc:¬W c
 nll:¬W ll
 ntl:¬W tl
 ne:ll≠tl
def FZ.new{H:Hp}{dp l:x0}{n:Nat}{lk:Μ}{kd:Ξ}{ps:Λ}{Q:VK}{E:XK}(np:H p=none)(ndp:H dp=none)(hl:H l=some (.lst (refs lk n)))(n1:1<=n)(n6:n<=6)(r:ux H n lk kd tp ps)
  (k:∀W H',FZ K a H' p n kd ps [] 6 W->(∀c,W c->H c=none)->yv H H'->(∀y xs H'',H y=some (.lst xs)->But y H' H''->FZ K a H'' p n kd ps [] 6 W)->Q .non H'):yd0 K a [.ref p,.ref l] (upd (upd H dp (.own p)) p (.ins a.A2 dp [])) Q E:=by
 have d:yv H (upd (upd H dp (.own p)) p (.ins a.A2 dp [])):=λb o e=>by rw[yk (yb e np),yk (yb e ndp)];exact e
 exists p,dp,.ref l,rfl,ya,.inr ⟨l,n,lk,kd,tp,ps,rfl,d _ _ hl,n1,n6,r.same d,λA f O C U Y=>?_⟩;have v:yv H C:=λb o e=>Y b o (d b o e) (yb e np);let⟨m,rfl,rfl,rfl,rfl,M,T,N,P,h,u,D⟩:=U;refine k (ywf p A O) C ⟨A,f,O,6,m,bj _,⟨h,u,tp,r.same v⟩,rfl,rfl,rfl,rfl,rfl,λc=>Iff.rfl⟩ (λc w=>?_) v (λy xs H2 L b=>?_)
 .rcases w with z|z|⟨j,G,z⟩|⟨j,G,z⟩|z
  .rw[z];exact np
  .rw[z];exact d.free N
  .rw[z];exact d.free (T j G)
  .exact d.free (M j c G z)
  .exact d.free (P c (.inr (.inl z)))
 .have g:∀{x:x0},H x=none->x≠y:=λ{x}e z=>by rw[z,L]at e;cases e
  have q:=v _ _ L;have I:∀{x:x0}{B:Υ},C x=some (.tup B)->x≠y:=λ{x B}e z=>by rw[z,q]at e;cases e
  exists A,f,O,6,m.frame (O2:=λc=>c=y) (λc o e X=>b c o e X) (g np) (g (d.free N)) (λi s=>g (d.free (T i s))) (λi c s w=>g (d.free (M i c s w))) (λl B F e=>b _ _ e (g (d.free (P l F)))) (λt B e=>?_),bj _,⟨b _ _ h (g (d.free D)),u,tp,λi s=>?_⟩,rfl,rfl,rfl,rfl,rfl,λc=>Iff.rfl
  .rcases e with(e|⟨o,e⟩)|e
   .exact .inl (.inl (b _ _ e (I e)))
   .exact .inl (.inr ⟨o,b _ _ e (λz=>by rw[z,q]at e;cases e)⟩)
   .exact .inr e
  .obtain⟨J,e,S,R,Z⟩:=r.same v i s;exists J,e,b _ _ S (I S),b _ _ R (I R),Z
@[irreducible] def yqn(c:Nat):Bool:=!(Builtin.Str.occurrences "abcdefghijklmnopqrstuvwxyz" ⟨#[c]⟩ 0 (Str.length "abcdefghijklmnopqrstuvwxyz") 1).isEmpty
def nmS(x:Str):Bool:=decide (1<=(x.length:Int)) && (decide ((x.length:Int)<=8) && x.cps.toList.all yqn)
def nmV:V->Bool
 | .str x=>nmS x
 |_=>false
def ysr(x:Str):(List.range x.cps.size).map (λi=>V.bl (yqn (x.cps.toList.getD i 0)))=(x.cps.toList.map yqn).map V.bl:=by
 rw[bR];refine List.ext_getElem? λi=>?_;rw[bn,bn];by_cases hi:i<x.cps.size
 .rw[cE hi,bg (by rw[cu];exact hi),cN,cN,cj,bg (by rw[cu];exact hi),Option.getD_some,Function.comp_apply]
 .rw[ce (by rw[bU];omega),ce (by rw[cu];omega),Option.map_none,Option.map_none]
def vac{x:Str}(h1:(1:Int)<=(x.length:Int))(h8:(x.length:Int)<=8):nmV (.str x)=(x.cps.toList.map yqn).all id:=by
 have e:nmV (.str x)=nmS x:=by unfold nmV;rfl
 rw[e];unfold nmS;rw[br h1,br h8,List.all_map,Function.id_comp,Bool.true_and,Bool.true_and]
def yw4{x:Str}(h8:¬(x.length:Int)<=8):nmV (.str x)=false:=by
 have e:nmV (.str x)=nmS x:=by unfold nmV;rfl
 rw[e];unfold nmS;rw[bC h8,Bool.false_and,Bool.and_false]
def yxd{x:Str}(h1:¬(1:Int)<=(x.length:Int)):nmV (.str x)=false:=by
 have e:nmV (.str x)=nmS x:=by unfold nmV;rfl
 rw[e];unfold nmS;rw[bC h1,Bool.false_and]
def yxk{x:V}(h:nmV x=true):∃b,x=.str b/\nmS b=true:=by
 cases x with
 |str b=>exact⟨b,rfl,h⟩
 |_=>cases h
def Ĥ{x:Str}(h:nmS x=true):x.length<=8:=by unfold nmS at h;simp only[bV,decide_eq_true_eq]at h;have:=h.2.1;omega
def smS:Str:=Str.ofString "abcdefghijklmnopqrstuvwxyz"
def yj1:smS.length=26:=by right
def yxa:∀i,i<26->smS.cps[i]?=some (97+i):=by right
def yu7{i:Int}(h0:0<=i)(h1:i<26):smS.cps[i.toNat]?=some (97+i.toNat):=yxa _ (by omega)
def vab:∀i,i<26->yqn (97+i)=true:=by right
def ydm(l:qi Nat):Prop:=∀c,c∈l->97<=c/\c<123
def ydm.app{l m:qi Nat}(h:ydm l)(g:ydm m):ydm (l++m):=λc a=>(bO.mp a).elim (h c) (g c)
def ydm.one{c:Nat}(h:97<=c/\c<123):ydm [c]:=λd a=>by rw[bE.mp a];exact h
theorem ydm.take{l:qi Nat}(h:ydm l)(k:Nat):ydm (l.take k):=λc a=>h c (cG a)
theorem ydm.drop{l:qi Nat}(h:ydm l)(k:Nat):ydm (l.drop k):=λc a=>h c (List.mem_of_mem_drop a)
def vck{x:Str}(h:ydm x.cps.toList)(h1:1<=x.cps.toList.length)(h8:x.cps.toList.length<=8):nmS x=true/\PyData.strOk x=true:=by
 have e:x.length=x.cps.toList.length:=by simp[Str.length]
 exists ?_,?_
 .unfold nmS;rw[br (by omega),br (by omega),Bool.true_and,Bool.true_and,List.all_eq_true];intro c a;let⟨b,d⟩:=h c a;have:=vab (c-97) (by omega)
  rwa[show 97+(c-97)=c by omega]at this
 .unfold PyData.strOk;rw[<- Array.all_toList,List.all_eq_true];intro c a;let⟨b,d⟩:=h c a;exact br (by omega)
def Ħ(x y:Str):(x++y).cps.toList=x.cps.toList++y.cps.toList:=by rw[PySem.Str.cps_append,Array.toList_append]
def ĝ(x:Str):x.length=x.cps.toList.length:=by simp[Str.length]
def ywc(z:Str)(j:Nat)(c:Nat):Str:=Txt.slice z none (some (j:Int))++⟨#[c]⟩++Txt.slice z (some (j:Int)) none
def ú{z:Str}{c:Nat}(hj:j<=z.length):(ywc z j c).cps.toList=z.cps.toList.take j++[c]++z.cps.toList.drop j:=by unfold ywc;rw[Ħ,Ħ,ylz hj,yft hj]
def yqt{z:Str}{c:Nat}(hj:j<=z.length)(hz:ydm z.cps.toList)(hc:97<=c/\c<123)(h7:z.length<=7):nmS (ywc z j c)=true/\PyData.strOk (ywc z j c)=true:=by
 have e:=ĝ z;refine vck ?_ ?_ ?_
 .rw[ú hj];exact((hz.take j).app (.one hc)).app (hz.drop j)
 .rw[ú hj];simp;omega
 .rw[ú hj,bp,bp,bH,cH,ci];omega
def yml{z:Str}{c d:Nat}(hj:j<=z.length)(e:ywc z j c=ywc z j d):c=d:=by have h:=congrArg (λx:Str=>x.cps.toList) e;simp only[ú hj]at h;rw[cy,cy]at h;have a:=List.append_cancel_left h;simp at a;exact a
theorem ę{H:Hp}:∀ns:Τ,yqk K H (ns.map V.str) (ns.map PyData.str)
 |[]=>.nil
 |n::r=>.cons (.str n) (ę r)
theorem ď:∀ns:Τ,(∀x,x∈ns->PyData.strOk x=true)->PyData.canLayAll0 (ns.map PyData.str)=true
 |[],_=>rfl
 |x::r,h=>by simp[PyData.canLayAll0,PyData.canLay0,h x bN,ď r λy a=>h y (bM _ a)]
theorem ň:∀ns:Τ,PyData.depthAll (ns.map PyData.str)=0
 |[]=>rfl
 |_::r=>by simp[PyData.depthAll,PyData.depth,ň r]
def Ď(ns:Τ)(h:∀x,x∈ns->PyData.strOk x=true):SeqAt.shaped (.list (ns.map PyData.str))=true:=by simp[SeqAt.shaped,PyData.canLay0,PyData.depth,ď ns h,ň]
theorem đ:∀ns ms:Τ,PyData.eqvAll (ns.map PyData.str) (ms.map PyData.str)=decide (ns=ms)
 |[],[]=>by simp[PyData.eqvAll]
 |[],_::_=>by simp[PyData.eqvAll]
 |_::_,[]=>by simp[PyData.eqvAll]
 |a::r,b::t=>by
  simp only[bT,PyData.eqvAll,PyData.eqv,đ r t];by_cases h:a=b<;>by_cases h':r=t<;>simp[h,h']
def yb2{g:Bool->Bool}{H:Hp}{Q:VK}{a b:x0}(ns ms:Τ)(hn:∀x,x∈ns->PyData.strOk x=true)(hm:∀x,x∈ms->PyData.strOk x=true)(ha:SqL K H a (ns.map V.str))(hb:SqL K H b (ms.map V.str))(h:Q (.bl (g (decide (ns=ms)))) H):ywn K g (.ref a) (.ref b) H Q :=
 ⟨_,_,.lst ha (ę ns),.lst hb (ę ms),Ď ns hn,Ď ms hm,by rw[PyData.eqv,đ];exact h⟩
structure Pc where
 nm:Str
 bs:Φ
 path:Η
 tx:Ρ
 ob:x0
 od:x0
 dl:x0
def baV:qj Str->V
 |none=>.non
 |some b=>.str b
def Pc.by(n:Nat)(kd:Ξ)(ps:Λ)(q:Pc):Ρ:=δ n kd ps (Ú (q.path.map (·.2))) q.tx
def pcs(P:qi Pc):Κ:=P.map λq=>(.inr q.nm,.ref q.ob)
def To(P:qi Pc):qj Str->qi (Str×qi Int)->Prop
 |none,L=>L=[]
 |some b,L=>∃r,r∈P/\r.nm=b/\L=r.path++[(b,r.tx)]
structure yap(a:Ads)(H:Hp)(d:x0)(n:Nat)(kd:Ξ)(ps:Λ)(w:Nat)(P:qi Pc):Prop where
 dk:H d=some (.dK (pcs P))
 ob:∀q,q∈P->H q.ob=some (.ins a.A8 q.od (Ģ (baV q.bs) (.ref q.dl)))/\H q.dl=some (.lst ((q.by n kd ps).map V.int))
 nd:(P.map (·.nm)).Nodup
 wf:∀q,q∈P->To P q.bs q.path
 sz:∀q,q∈P->Sgs q.tx/\q.tx.length<=w/\q.path.length<=60/\(∀x,x∈q.path->Sgs x.2/\x.2.length<=w)
 z:P.length<=60
 nm:∀q,q∈P->nmS q.nm=true/\PyData.strOk q.nm=true
theorem ykx:∀{P:qi Pc}{r:Pc},(P.map (·.nm)).Nodup->r∈P->zn (pcs P) (.inr r.nm)=some (.ref r.ob)
 |q::P,r,hn,hr=>by
  have a:=cJ.mp hn;by_cases e:q.nm=r.nm
  .rcases bB.mp hr with z|z
   .subst z;unfold zn pcs;rw[bT,cS (by simp)];rfl
   .exact absurd (bq.mpr ⟨r,z,e.symm⟩) a.1
  .rcases bB.mp hr with z|z
   .exact absurd (by rw[z]) e
   .unfold zn pcs;rw[bT,cL (by simpa using e)];exact ykx a.2 z
def yn4{P:qi Pc}{x:Str}(h:∀q,q∈P->q.nm≠x):zn (pcs P) (.inr x)=none:=by
 unfold zn pcs;rw[List.find?_eq_none.mpr λy a=>?_]
 .rfl
 .obtain⟨q,b,e⟩:=bq.mp a;rw[<- e];simpa using h q b
def yap.same{H H':Hp}{d:x0}{n:Nat}{kd:Ξ}{ps:Λ}{w:Nat}{P:qi Pc}(h:yap a H d n kd ps w P)(S:yv H H'):yap a H' d n kd ps w P :=
 ⟨S _ _ h.dk,λq b=>⟨S _ _ (h.ob q b).1,S _ _ (h.ob q b).2⟩,h.nd,h.wf,h.sz,h.z,h.nm⟩
def ysm(x:Str)(t:Ρ)(S:Η):(nmL ((x,t)::S)).reverse=(nmL S).reverse++[.str x]:=by unfold nmL;rw[bT,List.reverse_cons]
def To.len{H:Hp}{d:x0}{n:Nat}{kd:Ξ}{ps:Λ}{w:Nat}{P:qi Pc}{x:Φ}(h:yap a H d n kd ps w P)(t:To P x L):L.length<=61:=by
 cases x with
 |none=>rw[show L=[]from t];exact bJ _
 |some b =>
  let⟨r,c,_,e⟩:=t;have:=(h.sz r c).2.2.1;rw[e,bp,ci];omega
def yap.get{H:Hp}{d:x0}{n:Nat}{kd:Ξ}{ps:Λ}{w:Nat}{P:qi Pc}{r:Pc}(h:yap a H d n kd ps w P)(hr:r∈P):Ĳ H d (.str r.nm) (some (.ref r.ob)):=by rw[<- ykx h.nd hr];exact Ĳ.k (k:=.inr r.nm) h.dk
def vcd{α:Type}{f:α->Str}{P:qi α}{q r:α}(hn:(P.map f).Nodup)(hq:q∈P)(hr:r∈P)(e:f q=f r):q=r:=by
 induction P with
 |nil=>cases hq
 |cons x P ih =>
  have a:=cJ.mp hn;rcases bB.mp hq with z|z<;>rcases bB.mp hr with y|y
  .rw[z,y]
  .exact absurd (bq.mpr ⟨r,y,by rw[<- e,z]⟩) a.1
  .exact absurd (bq.mpr ⟨q,z,by rw[e,y]⟩) a.1
  .exact ih a.2 z y
def vdd{P:qi Pc}{q r:Pc}(hn:(P.map (·.nm)).Nodup)(hq:q∈P)(hr:r∈P)(e:q.nm=r.nm):q=r:=vcd hn hq hr e
def To.uniq{P:qi Pc}{x:Φ}(hn:(P.map (·.nm)).Nodup)(h:To P x L)(g:To P x M):L=M:=by
 cases x with
 |none=>rw[show L=[]from h,show M=[]from g]
 |some b =>
  let⟨r,c,a,f⟩:=h;let⟨q,d,i,e⟩:=g;obtain rfl:=vdd hn c d (a.trans i.symm);rw[f,e]
theorem To.pre{P:qi Pc}(wf:∀q,q∈P->To P q.bs q.path){b:Str}{t:Ρ}{A:Η}:∀(m:Nat){x:Φ}{B:Η},B.length<=m->To P x (A++[(b,t)]++B)->To P (some b) (A++[(b,t)])
 |m,none,B,_,h=>by
  have e:=congrArg List.length (show A++[(b,t)]++B=[]from h);rw[bp,bp]at e;simp at e
 |m,some c,B,hm,⟨r,hr,e1,e2⟩=>by
  rcases List.eq_nil_or_concat B with z|⟨i,y,z⟩
  .subst z;rw[cO]at e2;have a:=List.append_inj' e2 rfl;let⟨g,f⟩:=a;cases f;exists r,hr,e1,by rw[g]
  .subst z;rw[List.concat_eq_append]at e2 hm;rw[<- cy]at e2;have a:=(List.append_inj' e2 rfl).1
   cases m with
   |zero=>rw[bp]at hm;simp at hm
   |succ m =>
    have d:=wf r hr;rw[<- a]at d;exact To.pre wf m (by rw[bp,ci]at hm;omega) d
def To.ahead{P:qi Pc}(hn:(P.map (·.nm)).Nodup)(wf:∀q,q∈P->To P q.bs q.path){x y:Φ}(h:To P x L)(g:To P y M)(e:nmL L=(nmL M).take L.length):L=M.take L.length:=by
 cases x with
 |none=>rw[show L=[]from h];rfl
 |some b =>
  let⟨r,n,m,f⟩:=id h;have o:L.length=r.path.length+1:=by rw[f,bp,ci]
  have c:=congrArg List.length e;unfold nmL at c;rw[bH,be,be]at c;have a:r.path.length<M.length:=by omega
  have k:M=M.take r.path.length++[M[r.path.length]]++M.drop (r.path.length+1):=by
   rw[cy,List.singleton_append,<- cQ a,List.take_append_drop]
  have i:(M[r.path.length]).1=b:=by
   have z:=congrArg (λl=>l[r.path.length]?) e;unfold nmL at z;simp only[bn,List.getElem?_take]at z;rw[if_pos (by omega),f,cI (bj _),Nat.sub_self,bg a]at z;simp at z;exact z.symm
  have g2:=g;rw[k]at g2;have d:M[r.path.length]=(b,(M[r.path.length]).2):=by rw[<- i]
  rw[d]at g2;have g3:=To.pre wf _ (bj _) g2;have j:=To.uniq hn h g3;rw[j,<- d,<- bK a]
  congr 1
  rw[bH];omega
def yap.getNo{H:Hp}{d:x0}{n:Nat}{kd:Ξ}{ps:Λ}{w:Nat}{P:qi Pc}{x:Str}(h:yap a H d n kd ps w P)(hx:∀q,q∈P->q.nm≠x):Ĳ H d (.str x) none:=by rw[<- yn4 hx];exact Ĳ.k (k:=.inr x) h.dk
def vbw(P:qi Pc)(b:Str):(∃r,r∈P/\r.nm=b)\/∀q,q∈P->q.nm≠b:=by
 by_cases h:∃r,r∈P/\r.nm=b
 .exact .inl h
 .exact .inr λq a e=>h ⟨q,a,e⟩
theorem To.sz{H:Hp}{d:x0}{n:Nat}{kd:Ξ}{ps:Λ}{w:Nat}{P:qi Pc}{x:Φ}(h:yap a H d n kd ps w P)(t:To P x L):∀y,y∈L->Sgs y.2/\y.2.length<=w:=by
 cases x with
 |none=>intro y c;rw[show L=[]from t]at c;cases c
 |some b =>
  let⟨r,f,_,e⟩:=t;let⟨j,i,_,g⟩:=h.sz r f;intro y c;rw[e]at c;rcases bO.mp c with z|z
  .exact g y z
  .rw[bE.mp z];exists j,i
def To.at'{P:qi Pc}(wf:∀q,q∈P->To P q.bs q.path){x:Φ}(t:To P x L)(hj:j<L.length):∃r,r∈P/\L[j]=(r.nm,r.tx)/\r.path=L.take j/\To P (some r.nm) (L.take (j+1)):=by
 have h:L=L.take j++[(L[j].1,L[j].2)]++L.drop (j+1):=by
  rw[cy,List.singleton_append,<- cQ hj,List.take_append_drop]
 rw[h]at t;have d:=To.pre wf _ (bj _) t;let⟨r,e,a,g⟩:=id d;let⟨b,c⟩:=List.append_inj' g rfl
 cases r with|mk nm bs path tx ob od dl =>
 simp only at a b c;subst a;have f:L[j].2=tx:=by cases c;rfl
 exists _,e,?_,b.symm,?_
 .show L[j]=(L[j].1,tx);rw[<- f]
 .rw[bK hj];exact d
def To.nms{P:qi Pc}(wf:∀q,q∈P->To P q.bs q.path){x:Φ}(t:To P x L){y:Str×qi Int}(hy:y∈L):∃r,r∈P/\r.nm=y.1:=by let⟨j,c,e⟩:=List.mem_iff_getElem.mp hy;let⟨r,a,b,_⟩:=t.at' wf c;exists r,a,by rw[<- e,b]
def To.ok{H:Hp}{d:x0}{n:Nat}{kd:Ξ}{ps:Λ}{w:Nat}{P:qi Pc}{x:Φ}(h:yap a H d n kd ps w P)(t:To P x L):∀y,y∈L.map (·.1)->PyData.strOk y=true:=λy f=>by
 let⟨u,b,rfl⟩:=bq.mp f;let⟨r,c,e⟩:=t.nms h.wf b;rw[<- e];exact(h.nm r c).2
def ã(L:Η):nmL L=(L.map (·.1)).map V.str:=by unfold nmL;rw[bR];rfl
def ø(L:Η)(k:Nat):(nmL L).take k=nmL (L.take k):=by unfold nmL;rw[List.map_take]
def ρ(L:Η):(nmL L).length=L.length:=be _
def ypl(h:L.map (·.1)=M.map (·.1)):nmL L=nmL M:=by rw[ã,ã,h]
theorem yds{w:Nat}:∀L:qi (Ρ),(∀x,x∈L->x.length<=w)->(Ú L).length<=L.length*(9*w+1)
 |[],_=>bJ _
 |t::L,h=>by
  have e:Ú (t::L)=dec t++Ú L:=rfl;have d:=h t bN;have b:=yds L λx a=>h x (bM _ a);have c:=xm t;rw[e,bp,bW,Nat.succ_mul];omega
def txi(L:Η)(i:Nat):Ρ:=(L.map (·.2)).getD i []
def mOf(L:Η):Nat:=6+6*(Ú (L.map (·.2))).length
def NK(H:Hp)(ks ks':Υ):Prop:=∀q,V.ref q∈ks'->V.ref q∈ks\/H q=none
def NK.refl{H:Hp}{ks:Υ}:NK H ks ks:=λZ h=>.inl h
def NK.nil{H:Hp}{ks:Υ}:NK H ks []:=λZ h=>nomatch h
def NK.trans{H H1:Hp}{k1 k2 k3:Υ}(h:NK H k1 k2)(g:NK H1 k2 k3)(f:∀q,H1 q=none->H q=none):NK H k1 k3:=λq a=>(g q a).elim (h q) λz=>.inr (f q z)
def NK.app{H:Hp}{ks ks':Υ}{v:V}(h:NK H ks ks')(g:∀q,v=.ref q->H q=none):NK H ks (ks'++[v]):=λq a=>(bO.mp a).elim (h q) λz=>.inr (g q (bE.mp z).symm)
def StW(c cl ct:x0)(U:Ν):Ν:=λx=>x=c\/ChW cl ct U x
structure jl(K:xr)(a:Ads)(H:Hp)(st ds ll d c dc p cl ct:x0)(lk tp:Μ)(n:Nat)(kd:Ξ)(ps:Λ)(mo w:Nat)(P:qi Pc)(L:Η)(ks:Υ)(U:Ν):Prop where
 me:H st=some (.ins a.A0 ds (xj (.ref ll) (.int mo) (.ref d) (.ref c)))
 n1:1<=n
 n6:n<=6
 lo:H ll=some (.lst (refs lk n))
 row:ux H n lk kd tp ps
 pz:yap a H d n kd ps w P
 ch:Ä K a H c dc p cl ct n kd ps L ks (mOf L) U
 nw:∀x,(x=st\/x=ll\/x=d\/∃q,q∈P/\(x=q.ob\/x=q.dl))->¬StW c cl ct U x
 mo1:mo<=1000
 wm:w<=mo/\w<=200
 way:∃x,To P x L
def Ä.but{H H':Hp}{c ll:x0}{n:Nat}{kd:Ξ}{ps:Λ}{ks:Υ}{M:Nat}{W:Ν}(h:Ä K a H c dc p ll tl n kd ps L ks M W){C:x0}{fs:Ι}(hq:H q=some (.ins C dq fs))(nq:¬StW c ll tl W q)(B:But q H H'):Ä K a H' c dc p ll tl n kd ps L ks M W:=by
 have b:∀{x:x0}{d:Υ},H x=some (.lst d)->x≠q:=λ{x d}e z=>by rw[z,hq]at e;cases e
 exists B _ _ h.me λz=>nq (.inl z.symm),h.fz.frame (W2:=λx=>x=q) (λx z=>⟨.ins C dq fs,by rw[show x=q from z];exact hq,.inl rfl⟩) (λx w z=>nq (.inr (.inr (.inr (by rw[<- show x=q from z];exact w))))) (λx o e g=>B x o e g),B _ _ h.hl (b h.hl),B _ _ h.ht (b h.ht),h.tx.mono λx d e f=>⟨B _ _ e (b e),f⟩,h.nc,h.nll,h.ntl,h.ne
def yek(L:Η)(x:Str)(t:Ρ):mOf (L++[(x,t)])=mOf L+6*(dec t).length:=by unfold mOf;rw[bF,show List.map (λx:Str×qi Int=>x.2) [(x,t)]=[t]from rfl,Ĝ,bp];omega
def yjy{w:Nat}(h:∀y,y∈L->y.2.length<=w)(hw:w<=200)(hl:L.length<=61):mOf L<=660000:=by
 have b:=yds (w:=w) (L.map (·.2)) λx c=>by
  let⟨y,a,rfl⟩:=bq.mp c;exact h y a
 rw[be]at b;have d:L.length*(9*w+1)<=61*1801:=Nat.mul_le_mul hl (by omega);unfold mOf;omega
def StO(st c cl ct:x0)(U:Ν):Ν:=λy=>y=st\/StW c cl ct U y
def Go.or{W Y:Ν}{H H':Hp}(g:Go W H H' W'):Go (λx=>Y x\/W x) H H' (λx=>Y x\/W' x) :=
 ⟨λc o e a=>g.fr c o e λw=>a (.inr w),λc w=>w.elim (λy=>.inl (.inl y)) λw=>(g.nw c w).imp .inr id,g.lv⟩
def Ä.noTup{H:Hp}{c ll:x0}{n:Nat}{kd:Ξ}{ps:Λ}{ks:Υ}{M:Nat}{W:Ν}(h:Ä K a H c dc p ll tl n kd ps L ks M W){x:x0}{xs:Υ}(e:H x=some (.tup xs)):¬StW c ll tl W x:=λw=>by
 rcases w with z|z|z|z
 .rw[z,h.me]at e;cases e
 .rw[z,h.hl]at e;cases e
 .rw[z,h.ht]at e;cases e
 .exact h.fz.sh.tup e z
theorem Ä.same{H H':Hp}{c ll:x0}{n:Nat}{kd:Ξ}{ps:Λ}{ks:Υ}{M:Nat}{W:Ν}(h:Ä K a H c dc p ll tl n kd ps L ks M W)(S:yv H H'):Ä K a H' c dc p ll tl n kd ps L ks M W :=
 ⟨S _ _ h.me,h.fz.same S,S _ _ h.hl,S _ _ h.ht,h.tx.mono λZ Z e b=>⟨S _ _ e,b⟩,h.nc,h.nll,h.ntl,h.ne⟩
def yap.fr{H H':Hp}{d:x0}{n:Nat}{kd:Ξ}{ps:Λ}{w:Nat}{P:qi Pc}(h:yap a H d n kd ps w P)(f:∀x o,H x=some o->(x=d\/∃q,q∈P/\(x=q.ob\/x=q.dl))->H' x=some o):yap a H' d n kd ps w P :=
 ⟨f _ _ h.dk (.inl rfl),λq b=>⟨f _ _ (h.ob q b).1 (.inr ⟨q,b,.inl rfl⟩),f _ _ (h.ob q b).2 (.inr ⟨q,b,.inr rfl⟩)⟩,h.nd,h.wf,h.sz,h.z,h.nm⟩
def ux.fr{H H':Hp}{n:Nat}{lk:Μ}{kd:Ξ}{ps:Λ}(h:ux H n lk kd tp ps)(f:∀x xs,H x=some (.tup xs)->H' x=some (.tup xs)):ux H' n lk kd tp ps:=λi d=>by
 let⟨q,e,c,a,b⟩:=h i d;exists q,e,f _ _ c,f _ _ a,b
section
variable{H H':Hp}{st ll d c ct:x0}{lk:Μ}{n:Nat}{kd:Ξ}{ps:Λ}{mo w:Nat}{P:qi Pc}{ks:Υ}
theorem jl.same(h:jl K a H st ds ll d c dc p cl ct lk tp n kd ps mo w P L ks U)(S:yv H H'):jl K a H' st ds ll d c dc p cl ct lk tp n kd ps mo w P L ks U :=
 ⟨S _ _ h.me,h.n1,h.n6,S _ _ h.lo,h.row.same S,h.pz.same S,h.ch.same S,h.nw,h.mo1,h.wm,h.way⟩
def jl.lv(h:jl K a H st ds ll d c dc p cl ct lk tp n kd ps mo w P L ks U):∀x,(x=st\/x=ll\/x=d\/∃q,q∈P/\(x=q.ob\/x=q.dl))->∃o,H x=some o:=λx e=>by
 rcases e with z|z|z|⟨q,b,z|z⟩
 .exists _,by rw[z];exact h.me
 .exists _,by rw[z];exact h.lo
 .exists _,by rw[z];exact h.pz.dk
 .exists _,by rw[z];exact(h.pz.ob q b).1
 .exists _,by rw[z];exact(h.pz.ob q b).2
def jl.lvO(h:jl K a H st ds ll d c dc p cl ct lk tp n kd ps mo w P L ks U):∀x,StO st c cl ct U x->∃o,H x=some o:=λx b=>by
 rcases b with z|z|z|z|z
 .exists _,by rw[z];exact h.me
 .exists _,by rw[z];exact h.ch.me
 .exists _,by rw[z];exact h.ch.hl
 .exists _,by rw[z];exact h.ch.ht
 .exact h.ch.fz.live x z
def jl.go(h:jl K a H st ds ll d c dc p cl ct lk tp n kd ps mo w P L ks U){ks':Υ}(hc:Ä K a H' c dc p cl ct n kd ps M ks' (mOf M) U')(g:Go (ChW cl ct U) H H' (ChW cl ct U'))(way:∃x,To P x M):jl K a H' st ds ll d c dc p cl ct lk tp n kd ps mo w P M ks' U'/\Go (StO st c cl ct U) H H' (StO st c cl ct U'):=by have g1:Go (StW c cl ct U) H H' (StW c cl ct U'):=g.or (Y:=λx=>x=c);have f:∀x o,H x=some o->(x=st\/x=ll\/x=d\/∃q,q∈P/\(x=q.ob\/x=q.dl))->H' x=some o:=λx o e b=>g1.fr x o e (h.nw x b);exists⟨f _ _ h.me (.inl rfl),h.n1,h.n6,f _ _ h.lo (.inr (.inl rfl)),h.row.fr λx i e=>g1.fr _ _ e (h.ch.noTup e),h.pz.fr λx o e z=>f x o e (.inr (.inr z)),hc,g1.apart (λx b=>h.lv x b) h.nw,h.mo1,h.wm,way⟩,g1.or (Y:=λx=>x=st)
structure StB(a:Ads)(H:Hp)(st ds ll d:x0)(vc:V)(lk tp:Μ)(n:Nat)(kd:Ξ)(ps:Λ)(mo w:Nat)(P:qi Pc):Prop where
 me:H st=some (.ins a.A0 ds (xj (.ref ll) (.int mo) (.ref d) vc))
 n1:1<=n
 n6:n<=6
 lo:H ll=some (.lst (refs lk n))
 row:ux H n lk kd tp ps
 pz:yap a H d n kd ps w P
 mo1:mo<=1000
 wm:w<=mo/\w<=200
def jl.b(h:jl K a H st ds ll d c dc p cl ct lk tp n kd ps mo w P L ks U):StB a H st ds ll d (.ref c) lk tp n kd ps mo w P:=⟨h.me,h.n1,h.n6,h.lo,h.row,h.pz,h.mo1,h.wm⟩
def StB.lv{vc:V}(h:StB a H st ds ll d vc lk tp n kd ps mo w P):∀x,(x=st\/x=ll\/x=d\/∃q,q∈P/\(x=q.ob\/x=q.dl))->∃o,H x=some o:=λx c=>by
 rcases c with z|z|z|⟨q,b,z|z⟩
 .exists _,by rw[z];exact h.me
 .exists _,by rw[z];exact h.lo
 .exists _,by rw[z];exact h.pz.dk
 .exists _,by rw[z];exact(h.pz.ob q b).1
 .exists _,by rw[z];exact(h.pz.ob q b).2
def Go.wide{W:Ν}(g:Go W H H' W')(f:∀x,W x->W2 x):Go W2 H H' W':=⟨λc o e a=>g.fr c o e λw=>a (f c w),λc w=>(g.nw c w).imp (f c) id,g.lv⟩
def StB.re{vc:V}(h:StB a H st ds ll d vc lk tp n kd ps mo w P){dc' p':x0}{HE:Hp}(nc:H c'=none)(ndc:H dc'=none)(hch:Ä K a HE c' dc' p' cl' ct' n kd ps [] [] 6 U')(hnew:∀x,ChW cl' ct' U' x->(upd (upd H dc' (.own c')) c' (.ins a.A1 dc' [])) x=none)(BE:But c' (upd (upd H dc' (.own c')) c' (.ins a.A1 dc' [])) HE):
  jl K a (upd HE st (.ins a.A0 ds (xj (.ref ll) (.int mo) (.ref d) (.ref c')))) st ds ll d c' dc' p' cl' ct' lk tp n kd ps mo w P [] [] U'/\Go (λy=>y=st) H (upd HE st (.ins a.A0 ds (xj (.ref ll) (.int mo) (.ref d) (.ref c')))) (StO st c' cl' ct' U')/\yv H HE/\∀x,StW c' cl' ct' U' x->H x=none:=by
 have m:yv H (upd (upd H dc' (.own c')) c' (.ins a.A1 dc' [])):=λb o e=>by rw[yk (yb e nc),yk (yb e ndc)];exact e
 have f:yv H HE:=λb o e=>BE _ _ (m _ _ e) (yb e nc)
 have j:∀x,StW c' cl' ct' U' x->H x=none:=λx w=>by
  rcases w with z|z
  .rw[z];exact nc
  .exact m.free (hnew x z)
 have g:∀{x:x0}{o:HO},H x=some o->¬StW c' cl' ct' U' x:=λ{x o}e w=>by rw[j x w]at e;cases e
 have c:=h.me;have l:∀{x:x0}{k:Υ},H x=some (.lst k)->x≠st:=λ{x k}e z=>by rw[z,c]at e;cases e
 exists⟨ya,h.n1,h.n6,yf (l h.lo) (f _ _ h.lo),h.row.fr λx k e=>yf (λz=>by rw[z,c]at e;cases e) (f _ _ e),⟨yf (λz=>?_) (f _ _ h.pz.dk),λq i=>⟨yf (λz=>?_) (f _ _ (h.pz.ob q i).1),yf (l (h.pz.ob q i).2) (f _ _ (h.pz.ob q i).2)⟩,h.pz.nd,h.pz.wf,h.pz.sz,h.pz.z,h.pz.nm⟩,hch.but (f _ _ c) (g c) But.upd,λx s=>?_,h.mo1,h.wm,⟨none,rfl⟩⟩,⟨λx o e p=>yf p (f _ _ e),λx w=>?_,λx o e=>?_⟩,f,j
 .have e:=h.pz.dk;rw[z,c]at e;cases e
 .have e:=(h.pz.ob q i).1;rw[z,c]at e;injection e with e;injection e with _ _ e;have r:=congrArg List.length e;exact absurd (show (4:Nat)=2 from r) (by decide)
 .obtain⟨o,e⟩:=h.lv x s;exact g e
 .rcases w with z|z
  .exact .inl z
  .exact .inr (j x z)
 .by_cases z:x=st
  .exists _,by rw[z];exact ya
  .exists o,yf z (f _ _ e)
theorem jl.re(h:jl K a H st ds ll d c dc p cl ct lk tp n kd ps mo w P L ks U){dc' p':x0}{HE:Hp}(nc:H c'=none)(ndc:H dc'=none)(hch:Ä K a HE c' dc' p' cl' ct' n kd ps [] [] 6 U')(hnew:∀x,ChW cl' ct' U' x->(upd (upd H dc' (.own c')) c' (.ins a.A1 dc' [])) x=none)(BE:But c' (upd (upd H dc' (.own c')) c' (.ins a.A1 dc' [])) HE):
  jl K a (upd HE st (.ins a.A0 ds (xj (.ref ll) (.int mo) (.ref d) (.ref c')))) st ds ll d c' dc' p' cl' ct' lk tp n kd ps mo w P [] [] U'/\Go (StO st c cl ct U) H (upd HE st (.ins a.A0 ds (xj (.ref ll) (.int mo) (.ref d) (.ref c')))) (StO st c' cl' ct' U')/\yv H HE/\∀x,StW c' cl' ct' U' x->H x=none:=by let⟨g,e,f⟩:=h.b.re nc ndc hch hnew BE;exists g,e.wide λZ z=>.inl z,f
def To.less{b:Str}{x:Φ}(h:To P x M)(hx:x≠some b):To (P.filter λq=>decide (q.nm≠b)) x M:=by
 cases x with
 |none=>exact h
 |some y =>
  let⟨r,c,a,d⟩:=h;exists r,cA.mpr ⟨c,br λz=>hx ?_⟩,a,d;rw[<- a,z]
def ylv(b:Str):∀P:qi Pc,Ø (pcs P) (.inr b)=pcs (P.filter λq=>decide (q.nm≠b)):=λP=>by
 unfold Ø pcs;rw[List.filter_map]
 congr 1
 refine List.filter_congr λq Z=>?_;by_cases e:q.nm=b
 .simp[e]
 .simp[e]
def StB.drop{vc:V}(h:StB a H st ds ll d vc lk tp n kd ps mo w P){b:Str}(hb:∀q,q∈P->q.bs≠some b):StB a (upd H d (.dK (Ø (pcs P) (.inr b)))) st ds ll d vc lk tp n kd ps mo w (P.filter λq=>decide (q.nm≠b)):=by
 have j:=h.pz.dk;have f:∀{x:x0}{o:HO},H x=some o->o≠.dK (pcs P)->(upd H d (.dK (Ø (pcs P) (.inr b)))) x=some o:=λ{x o}e i=>yf (λz=>by rw[z,j]at e;cases e;exact i rfl) e;have g:∀{q:Pc},q∈(P.filter λq=>decide (q.nm≠b))->q∈P:=λc=>(cA.mp c).1
 exists f h.me (λz=>nomatch z),h.n1,h.n6,f h.lo (λz=>nomatch z),h.row.fr λx k e=>f e (λz=>nomatch z),⟨by rw[<- ylv];exact ya,λq c=>⟨f (h.pz.ob q (g c)).1 (λz=>nomatch z),f (h.pz.ob q (g c)).2 (λz=>nomatch z)⟩,h.pz.nd.sublist (List.filter_sublist.map _),λq c=>(h.pz.wf q (g c)).less (hb q (g c)),λq c=>h.pz.sz q (g c),bP (List.length_filter_le _ _) h.pz.z,λq c=>h.pz.nm q (g c)⟩,h.mo1,h.wm
end
def ifI{tc:TT}{ts te:TS}{D:ā}{σ:St}{H:Hp}(C:Prop)(h:∀Qb:Bool->Hp->Prop,(C->Qb true H)->Qb false H->tc σ H Qb)(hT:C->ts D σ H)(hF:te D σ H):vcu tc ts te D σ H :=
 h _ (λc=>by show (if true=true then _ else _);rw[if_pos rfl];exact hT c) (by show (if false=true then _ else _);rw[if_neg (by decide)];exact hF)
structure Pd where
 nm:Str
 bs:Φ
 path:Η
 tx:Ρ
def Pc.pd(q:Pc):Pd:=⟨q.nm,q.bs,q.path,q.tx⟩
structure Cf where
 n:Nat
 kd:Ξ
 ps:Λ
 mo:Nat
 w:Nat
def Pd.by(C:Cf)(q:Pd):Ρ:=δ C.n C.kd C.ps (Ú (q.path.map (·.2))) q.tx
def ToD(P:qi Pd):qj Str->qi (Str×qi Int)->Prop
 |none,L=>L=[]
 |some b,L=>∃r,r∈P/\r.nm=b/\L=r.path++[(b,r.tx)]
def Ġ{Q:qi Pc}{x:Φ}:ToD (Q.map Pc.pd) x L↔To Q x L:=by
 cases x with
 |none=>exact Iff.rfl
 |some b =>
  exists λ⟨r,a,e⟩=>?_,λ⟨r,a,e⟩=>⟨_,bq.mpr ⟨r,a,rfl⟩,e⟩;let⟨q,c,rfl⟩:=bq.mp a;exact⟨q,c,e⟩
def okN(x:Str):Prop:=nmS x=true/\PyData.strOk x=true
def WD(d st c cl ct:x0)(U:Ν):Ν:=λy=>y=d\/StO st c cl ct U y
structure Sx where
 w:Ν
 f:Ν
def vcw(d st c cl ct:x0)(U:Ν)(ll:x0)(Q:qi Pc)(ks:Υ):Sx :=
 ⟨WD d st c cl ct U,λy=>WD d st c cl ct U y\/y=ll\/(∃q,q∈Q/\(y=q.ob\/y=q.dl))\/V.ref y∈ks⟩
inductive Sto(K:xr)(a:Ads)(H:Hp)(st:x0)(C:Cf)(P:qi Pd)(X:Sx):Prop
 |mk(ds ll d c dc p cl ct:x0)(lk tp:Μ)(Q:qi Pc)(L:Η)(ks:Υ)(U:Ν)(s:jl K a H st ds ll d c dc p cl ct lk tp C.n C.kd C.ps C.mo C.w Q L ks U)(e:Q.map Pc.pd=P)(x:X=vcw d st c cl ct U ll Q ks)
structure Gx(X:Sx)(H H':Hp)(Y:Sx):Prop where
 g:Go X.w H H' Y.w
 f:∀y,Y.f y->X.f y\/H y=none
theorem Gx.same{X Y:Sx}{H H1 H2:Hp}(h:Gx X H H1 Y)(S:yv H1 H2):Gx X H H2 Y:=⟨h.g.same S,h.f⟩
theorem Gx.ahead{X Y:Sx}{H H1 H2:Hp}(S:yv H H1)(h:Gx X H1 H2 Y):Gx X H H2 Y:=⟨h.g.ahead S,λy w=>(h.f y w).imp id S.free⟩
theorem Gx.trans{X Y Z:Sx}{H H1 H2:Hp}(h:Gx X H H1 Y)(k:Gx Y H1 H2 Z):Gx X H H2 Z:=⟨h.g.trans k.g,λy w=>(k.f y w).elim (h.f y) λe=>.inr (h.g.free e)⟩
def Kf(H:Hp)(X:Sx)(x:x0)(o:HO):Prop:=H x=some o/\¬X.f x
section
variable{B H H':Hp}{st:x0}{C:Cf}{P:qi Pd}{X Y:Sx}
theorem Sto.same(h:Sto K a H st C P X)(S:yv H H'):Sto K a H' st C P X:=by let⟨m,f,d,c,j,p,b,k,l,g,Q,L,i,U,s,e,x⟩:=h;exists m,f,d,c,j,p,b,k,l,g,Q,L,i,U,s.same S,e,x
def Sto.live(h:Sto K a H st C P X):∀y,X.f y->∃o,H y=some o:=λy g=>by
 let⟨u,k,d,c,n,p,j,r,t,l,Q,L,m,U,s,rfl,rfl⟩:=h;rcases g with(z|z)|z|⟨q,b,z⟩|z
 .exists _,by rw[z];exact s.pz.dk
 .exact s.lvO y z
 .exists _,by rw[z];exact s.lo
 .exact s.lv y (.inr (.inr (.inr ⟨q,b,z⟩)))
 .rcases s.ch.tx.mem _ z with e|⟨q,i,e,b,_⟩
  .cases e
  .cases e;exists _,b
def Sto.wf(h:Sto K a H st C P X):∀y,X.w y->X.f y:=λy b=>by
 let⟨n,g,d,c,k,p,e,l,m,i,Q,L,j,U,s,rfl,rfl⟩:=h;exact .inl b
theorem Sto.ins(h:Sto K a H st C P X):∃ds vl vm vp vc,H st=some (.ins a.A0 ds (xj vl vm vp vc)):=by let⟨ds,e,d,c,i,p,b,j,k,f,Q,L,g,U,s,rfl,rfl⟩:=h;exists _,_,_,_,_,s.me
def vdh(Q:qi Pc):(Q.map Pc.pd).map (·.nm)=Q.map (·.nm):=by rw[bR];rfl
theorem Sto.nd(h:Sto K a H st C P X):(P.map (·.nm)).Nodup:=by let⟨l,e,d,c,i,p,b,j,k,f,Q,L,g,U,s,rfl,rfl⟩:=h;rw[vdh];exact s.pz.nd
theorem Sto.z(h:Sto K a H st C P X):P.length<=60:=by let⟨l,e,d,c,i,p,b,j,k,f,Q,L,g,U,s,rfl,rfl⟩:=h;rw[be];exact s.pz.z
theorem Sto.nm(h:Sto K a H st C P X):∀q,q∈P->okN q.nm:=λq e=>by
 let⟨n,g,d,c,k,p,f,l,m,i,Q,L,j,U,s,rfl,rfl⟩:=h;let⟨r,b,rfl⟩:=bq.mp e;exact s.pz.nm r b
def Sto.to(h:Sto K a H st C P X):∀q,q∈P->ToD P q.bs q.path:=λq e=>by
 let⟨n,g,d,c,k,p,f,l,m,i,Q,L,j,U,s,rfl,rfl⟩:=h;let⟨r,b,rfl⟩:=bq.mp e;exact Ġ.mpr (s.pz.wf r b)
theorem Sto.sz(h:Sto K a H st C P X):∀q,q∈P->Sgs q.tx/\q.tx.length<=C.w/\q.path.length<=60/\(∀x,x∈q.path->Sgs x.2/\x.2.length<=C.w):=λq e=>by
 let⟨n,g,d,c,k,p,f,l,m,i,Q,L,j,U,s,rfl,rfl⟩:=h;let⟨r,b,rfl⟩:=bq.mp e;exact s.pz.sz r b
def Sto.cf(h:Sto K a H st C P X):1<=C.n/\C.n<=6/\C.mo<=1000/\C.w<=C.mo/\C.w<=200:=by let⟨l,e,d,c,i,p,b,j,k,f,Q,L,g,U,s,rfl,rfl⟩:=h;exists s.n1,s.n6,s.mo1,s.wm.1,s.wm.2
theorem Sto.sh(h:Sto K a H st C P X):WSh H X.w:=λy g=>by
 let⟨t,k,d,c,n,p,j,o,r,l,Q,L,m,U,s,rfl,rfl⟩:=h;rcases g with z|z|z|z|z|z
 .exists _,by rw[z];exact s.pz.dk,.inl rfl
 .exists _,by rw[z];exact s.me,.inl rfl
 .exists _,by rw[z];exact s.ch.me,.inl rfl
 .exists _,by rw[z];exact s.ch.hl,.inr ⟨_,rfl,λv b=>?_⟩
  let⟨u,_,e⟩:=bq.mp b;exact .inl ⟨u.1,e.symm⟩
 .exists _,by rw[z];exact s.ch.ht,.inr ⟨_,rfl,λv b=>.inr ?_⟩
  exact(s.ch.tx.mem v b).imp id λ⟨q,f,e,i,_⟩=>⟨q,e,.inl ⟨f,i⟩⟩
 .exact s.ch.fz.sh y z
theorem Sto.frame(h:Sto K a H st C P X)(sh:WSh H W2)(dj:∀y,X.f y->¬W2 y)(fr:∀y o,H y=some o->¬W2 y->H' y=some o):Sto K a H' st C P X:=by
 let⟨F,m,d,c,x,p,g,i,E,u,Q,L,j,U,s,rfl,rfl⟩:=h;have f:∀{y:x0}{o:HO},H y=some o->(vcw d st c g i U m Q j).f y->H' y=some o:=λ{y o}e w=>fr y o e (dj y w);exists F,m,d,c,x,p,g,i,E,u,Q,L,j,U,⟨f s.me (.inl (.inr (.inl rfl))),s.n1,s.n6,f s.lo (.inr (.inl rfl)),s.row.fr λy G e=>fr _ _ e (sh.tup e),s.pz.fr λy o e z=>f e (z.elim (λz=>.inl (.inl z)) λz=>.inr (.inr (.inl z))),⟨f s.ch.me (.inl (.inr (.inr (.inl rfl)))),s.ch.fz.frame sh (λy w=>dj y (.inl (.inr (.inr (.inr (.inr (.inr w))))))) fr,f s.ch.hl (.inl (.inr (.inr (.inr (.inl rfl))))),f s.ch.ht (.inl (.inr (.inr (.inr (.inr (.inl rfl)))))),?_,s.ch.nc,s.ch.nll,s.ch.ntl,s.ch.ne⟩,s.nw,s.mo1,s.wm,s.way⟩,rfl,rfl
 have l:∀{L:Η}{b:Υ},(∀v,v∈b->v∈j)->yb7 H (ChW g i U) L b->yb7 H' (ChW g i U) L b:=by
  intro L
  induction L with
  |nil=>intro b _ h;exact h
  |cons y r ih =>
   rintro b n ⟨k,B,rfl,z,h⟩;exists k,B,rfl,z.imp id λ⟨q,e,t,D⟩=>⟨q,e,f t (.inr (.inr (.inr ?_))),D⟩,ih (λv A=>n v (bM _ A)) h;rw[<- e];exact n _ bN
 exact l (λZ h=>h) s.ch.tx
def Sto.but(h:Sto K a H st C P X)(sh:WSh H λz=>z=y)(ny:¬X.f y)(b:But y H H'):Sto K a H' st C P X :=
 h.frame sh (λz w e=>ny (by rw[<- e];exact w)) λz o e c=>b z o e c
def WSh.mu{o:HO}(e:H y=some o)(ho:ywi o=true):WSh H λz=>z=y:=λz w=>⟨o,by rw[w];exact e,.inl ho⟩
def WSh.ls{xs:Υ}(e:H y=some (.lst xs))(hx:∀x∈xs,(∃s,x=V.str s)\/x=V.non\/∃q,x=V.ref q/\ve5 (H q)):WSh H λz=>z=y:=λz w=>⟨_,by rw[w];exact e,.inr ⟨xs,rfl,hx⟩⟩
def Kf.go{x:x0}{o:HO}(h:Kf H X x o)(s:Sto K a H st C P X)(g:Gx X H H' Y):Kf H' Y x o :=
 ⟨g.g.fr _ _ h.1 λw=>h.2 (s.wf _ w),λw=>(g.f x w).elim h.2 λe=>by rw[h.1]at e;cases e⟩
def Kf.same{x:x0}{o:HO}(h:Kf H X x o)(S:yv H H'):Kf H' X x o:=⟨S _ _ h.1,h.2⟩
def Kf.new{x:x0}{o:HO}(s:Sto K a H st C P X)(hx:H x=none)(e:H' x=some o):Kf H' X x o:=⟨e,λw=>by
 let⟨c,b⟩:=s.live x w;rw[hx]at b;cases b⟩
def Kf.but{x:x0}{o:HO}(h:Kf H X x o)(ne:x≠y)(b:But y H H'):Kf H' X x o:=⟨b _ _ h.1 ne,h.2⟩
def Gx.bs(s:Sto K a H st C P X)(g:Gx X H H' Y)(S:yv B H)(nb:∀y,X.f y->B y=none):yv B H'/\∀y,Y.f y->B y=none :=
 ⟨λy o e=>g.g.fr _ _ (S _ _ e) (λw=>by rw[nb y (s.wf y w)]at e;cases e),λy w=>(g.f y w).elim (nb y) S.free⟩
def Gx.of{d c ct ll:x0}{Q Q':qi Pc}{ks ks':Υ}(g:Go (WD d st c cl ct U) H H' (WD d st c' cl' ct' U'))(nk:NK H ks ks')(hq:∀q,q∈Q'->q∈Q\/(H q.ob=none/\H q.dl=none)):Gx (vcw d st c cl ct U ll Q ks) H H' (vcw d st c' cl' ct' U' ll Q' ks'):=by
 exists g,λy w=>?_;rcases w with z|z|⟨q,h,z⟩|z
 .exact(g.nw y z).imp .inl id
 .exact .inl (.inr (.inl z))
 .rcases hq q h with b|⟨e,a⟩
  .exact .inl (.inr (.inr (.inl ⟨q,b,z⟩)))
  .rcases z with z|z
   .rw[z];exact .inr e
   .rw[z];exact .inr a
 .exact(nk y z).imp (λz=>.inr (.inr (.inr z))) id
end
def į{P:qi Pd}{q r:Pd}(hn:(P.map (·.nm)).Nodup)(hq:q∈P)(hr:r∈P)(e:q.nm=r.nm):q=r:=vcd hn hq hr e
def ToD.uniq{P:qi Pd}{x:Φ}(hn:(P.map (·.nm)).Nodup)(h:ToD P x L)(g:ToD P x M):L=M:=by
 cases x with
 |none=>rw[show L=[]from h,show M=[]from g]
 |some b =>
  let⟨r,c,a,f⟩:=h;let⟨q,d,i,e⟩:=g;obtain rfl:=į hn c d (a.trans i.symm);rw[f,e]
theorem ģ{α:Type}[DecidableEq α]:∀{l m:qi α},l.Nodup->(∀x,x∈l->x∈m)->l.length<=m.length
 |[],_,_,_=>bJ _
 |x::l,m,hn,h=>by
  have a:=cJ.mp hn;have b:=h x bN;have d:l.length<=(m.erase x).length:=ģ a.2 λy c=>(List.mem_erase_of_ne (λe=>a.1 (by rw[<- e];exact c))).mpr (h y (bM _ c));rw[List.length_erase_of_mem b]at d;have:=List.length_pos_of_mem b;rw[bW];omega
def Pd.pc(q:Pd):Pc:=⟨q.nm,q.bs,q.path,q.tx,0,0,0⟩
def vch(P:qi Pd):(P.map Pd.pc).map Pc.pd=P:=by rw[bR];exact List.map_id _
structure PdW(P:qi Pd):Prop where
 nd:(P.map (·.nm)).Nodup
 wf:∀q,q∈P->ToD P q.bs q.path
theorem ToD.pc{P:qi Pd}{x:Φ}(h:ToD P x L):To (P.map Pd.pc) x L:=Ġ.mp (by rw[vch];exact h)
theorem ToD.at{P:qi Pd}(w:PdW P){x:Φ}(t:ToD P x L)(hj:j<L.length):∃r,r∈P/\L[j]=(r.nm,r.tx)/\r.path=L.take j/\ToD P (some r.nm) (L.take (j+1)):=by
 let⟨r,b,f,e,d⟩:=To.at' (λq c=>by
  let⟨u,a,rfl⟩:=bq.mp c;exact(w.wf u a).pc) t.pc hj
 let⟨u,a,rfl⟩:=bq.mp b;exists u,a,f,e,?_;have:=Ġ.mpr d;rw[vch]at this;exact this
def ToD.len{P:qi Pd}(w:PdW P){x:Φ}(t:ToD P x L):L.length<=P.length:=by
 have h:=ģ (l:=L.map (·.1)) (m:=P.map (·.nm)) ?_ ?_
 .rw[be,be]at h;exact h
 .refine List.pairwise_iff_getElem.mpr λi j d a n e=>?_;rw[be]at d a;rw[cK,cK]at e;let⟨r,b,c,f,_⟩:=t.at w d;let⟨u,p,g1,g2,_⟩:=t.at w a;rw[c,g1]at e;have:=į w.nd b p e;rw[this,g2]at f;have o:=congrArg List.length f;rw[bH,bH]at o;omega
 .intro y k;let⟨z,g,rfl⟩:=bq.mp k;let⟨j,a,rfl⟩:=List.mem_iff_getElem.mp g;let⟨r,b,c,_⟩:=t.at w a;rw[c];exact bq.mpr ⟨r,b,rfl⟩
def Sto.pw{H:Hp}{st:x0}{C:Cf}{P:qi Pd}{X:Sx}(h:Sto K a H st C P X):PdW P:=⟨h.nd,h.to⟩
structure Bs(B H:Hp)(X:Sx):Prop where
 s:yv B H
 n:∀y,X.f y->B y=none
def Bs.same{B H H':Hp}{X:Sx}(h:Bs B H X)(S:yv H H'):Bs B H' X:=⟨h.s.trans S,h.n⟩
def Bs.go{B H H':Hp}{st:x0}{C:Cf}{P:qi Pd}{X Y:Sx}(h:Bs B H X)(s:Sto K a H st C P X)(g:Gx X H H' Y):Bs B H' Y:=⟨(g.bs s h.s h.n).1,(g.bs s h.s h.n).2⟩
def Bs.but{B H H':Hp}{X:Sx}(h:Bs B H X)(ny:B y=none)(b:But y H H'):Bs B H' X:=⟨λx o e=>b _ _ (h.s _ _ e) (yb e ny),h.n⟩
def Sto.ntup{H:Hp}{st:x0}{C:Cf}{P:qi Pd}{X:Sx}(h:Sto K a H st C P X){x:x0}{xs:Υ}(e:H x=some (.tup xs)):¬X.f x:=λw=>by
 have i:=h.sh;let⟨u,l,d,c,o,p,k,r,t,m,Q,L,n,U,s,rfl,rfl⟩:=h;rcases w with z|z|⟨q,b,z|z⟩|z
 .exact i.tup e z
 .rw[z,s.lo]at e;cases e
 .rw[z,(s.pz.ob q b).1]at e;cases e
 .rw[z,(s.pz.ob q b).2]at e;cases e
 .rcases s.ch.tx.mem _ z with g|⟨q,j,g,b,_⟩
  .cases g
  .cases g;rw[b]at e;cases e
def mdK(tu:Str->x0)(P:qi Pd):Κ:=P.map λq=>(.inr q.nm,.ref (tu q.nm))
theorem yjs(tu:Str->x0):∀{P:qi Pd}{q:Pd},q∈P->zn (mdK tu P) (.inr q.nm)=some (.ref (tu q.nm))
 |r::P,q,hq=>by
  unfold zn mdK;rw[bT];by_cases e:r.nm=q.nm
  .rw[cS (by simp[e]),<- e];rfl
  .rw[cL (by simpa using e)];rcases bB.mp hq with z|z
   .exact absurd (by rw[z]) e
   .exact yjs tu z
def ypk(tu:Str->x0){P:qi Pd}{b:Str}(h:∀q,q∈P->q.nm≠b):zn (mdK tu P) (.inr b)=none:=by
 unfold zn mdK;rw[List.find?_eq_none.mpr λy a=>?_]
 .rfl
 .obtain⟨q,c,e⟩:=bq.mp a;rw[<- e];simpa using h q c
def DkF(H:Hp)(md:x0)(kvs:Κ):Prop:=H md=some (.dK kvs)\/∃o,H md=some (.frz o (.dK kvs))
def DkF.get{H:Hp}{kvs:Κ}(h:DkF H md kvs)(b:Str):Ĳ H md (.str b) (zn kvs (.inr b)):=.inl ⟨kvs,.inr b,h,rfl,rfl⟩
structure Mdl(H:Hp)(X:Sx)(md:x0)(P:qi Pd)(tu tx:Str->x0):Prop where
 d:DkF H md (mdK tu P)
 n:¬X.f md
 t:∀q,q∈P->Kf H X (tu q.nm) (.tup [.ref (tx q.nm),baV q.bs])
 x:∀q,q∈P->Kf H X (tx q.nm) (.lst (q.tx.map V.int))
theorem Mdl.same{H H':Hp}{X:Sx}{P:qi Pd}{tx:Str->x0}(h:Mdl H X md P tu tx)(S:yv H H'):Mdl H' X md P tu tx:=⟨h.d.imp (S _ _) λ⟨o,e⟩=>⟨o,S _ _ e⟩,h.n,λq a=>(h.t q a).same S,λq a=>(h.x q a).same S⟩
theorem Mdl.go{H H':Hp}{st:x0}{C:Cf}{P P2:qi Pd}{X Y:Sx}{tx:Str->x0}(h:Mdl H X md P tu tx)(s:Sto K a H st C P2 X)(g:Gx X H H' Y):Mdl H' Y md P tu tx:=⟨h.d.imp (λe=>(Kf.go ⟨e,h.n⟩ s g).1) λ⟨o,e⟩=>⟨o,(Kf.go ⟨e,h.n⟩ s g).1⟩,(h.d.elim (λe=>(Kf.go ⟨e,h.n⟩ s g).2) λ⟨o,e⟩=>(Kf.go ⟨e,h.n⟩ s g).2),λq b=>(h.t q b).go s g,λq b=>(h.x q b).go s g⟩
def Mdl.butL{H H':Hp}{X:Sx}{P:qi Pd}{tx:Str->x0}(h:Mdl H X md P tu tx){xs:Υ}(hy:H y=some (.lst xs))(hx:∀q,q∈P->tx q.nm≠y)(b:But y H H'):Mdl H' X md P tu tx :=
 have c:∀{o:HO},H md=some o->ywi o=true->md≠y:=λ{o}e f z=>by rw[z,hy]at e;cases e;cases f
 ⟨h.d.imp (λe=>b _ _ e (c e rfl)) λ⟨o,e⟩=>⟨o,b _ _ e (c e rfl)⟩,h.n,λq a=>(h.t q a).but (λz=>by have e:=(h.t q a).1;rw[z,hy]at e;cases e) b,λq a=>(h.x q a).but (hx q a) b⟩
theorem Mdl.get{H:Hp}{X:Sx}{P:qi Pd}{tx:Str->x0}(h:Mdl H X md P tu tx){q:Pd}(hq:q∈P):Ĳ H md (.str q.nm) (some (.ref (tu q.nm))):=by rw[<- yjs tu hq];exact h.d.get q.nm
def Mdl.getNo{H:Hp}{X:Sx}{P:qi Pd}{tx:Str->x0}(h:Mdl H X md P tu tx){b:Str}(hb:∀q,q∈P->q.nm≠b):Ĳ H md (.str b) none:=by rw[<- ypk tu hb];exact h.d.get b
def upS(g:Str->x0)(b:Str)(x:x0):Str->x0:=λs=>if s=b then x else g s
def yer{g:Str->x0}{b:Str}{x:x0}:upS g b x b=x:=if_pos rfl
def yfb{g:Str->x0}{b s:Str}{x:x0}(h:s≠b):upS g b x s=g s:=if_neg h
def Ð(tu:Str->x0)(P:qi Pd):((mdK tu P).map λp=>kV p.1)=(P.map (·.nm)).map V.str:=by unfold mdK;rw[bR,bR];rfl
def yq6{P:qi Pd}{q:Pd}{t:x0}(hno:∀r,r∈P->r.nm≠q.nm):ń (mdK tu P) (.inr q.nm) (.ref t)=mdK (upS tu q.nm t) (P++[q]):=by
 rw[Ò _ (ypk tu hno)];unfold mdK;rw[bF,List.map_singleton,yer]
 congr 1
 exact List.map_congr_left λr a=>by rw[yfb (hno r a)]
def Mdl.put{H:Hp}{X:Sx}{t:x0}{P:qi Pd}{tx:Str->x0}{q:Pd}(h:Mdl H X md P tu tx)(hd:H md=some (.dK (mdK tu P)))(hno:∀r,r∈P->r.nm≠q.nm)(ht:Kf H X t (.tup [.ref y,baV q.bs]))(hy:Kf H X y (.lst (q.tx.map V.int))):
  Mdl (upd H md (.dK (mdK (upS tu q.nm t) (P++[q])))) X md (P++[q]) (upS tu q.nm t) (upS tx q.nm y):=by
 have f:∀{x:x0}{o:HO},ywi o=false->Kf H X x o->Kf (upd H md (.dK (mdK (upS tu q.nm t) (P++[q])))) X x o:=λ{x o}b k=>k.but (λz=>by have e:=k.1;rw[z,hd]at e;cases e;cases b) But.upd;exists .inl ya,h.n,λr a=>?_,λr a=>?_
 .rcases bO.mp a with z|z
  .rw[yfb (hno r z),yfb (hno r z)];exact f rfl (h.t r z)
  .obtain rfl:=bE.mp z;rw[yer,yer];exact f rfl ht
 .rcases bO.mp a with z|z
  .rw[yfb (hno r z)];exact f rfl (h.x r z)
  .obtain rfl:=bE.mp z;rw[yer];exact f rfl hy
def ymk(tu:Str->x0)(P:qi Pd)(b:Str):Ø (mdK tu P) (.inr b)=mdK tu (P.filter λq=>decide (q.nm≠b)):=by
 unfold Ø mdK;rw[List.filter_map]
 congr 1
 refine List.filter_congr λq Z=>?_;by_cases e:q.nm=b
 .simp[e]
 .simp[e]
def Mdl.drop{H:Hp}{X:Sx}{P:qi Pd}{tx:Str->x0}(h:Mdl H X md P tu tx)(hd:H md=some (.dK (mdK tu P)))(b:Str):Mdl (upd H md (.dK (mdK tu (P.filter λq=>decide (q.nm≠b))))) X md (P.filter λq=>decide (q.nm≠b)) tu tx:=by have f:∀{x:x0}{o:HO},ywi o=false->Kf H X x o->Kf (upd H md (.dK (mdK tu (P.filter λq=>decide (q.nm≠b))))) X x o:=λ{x o}c k=>k.but (λz=>by have e:=k.1;rw[z,hd]at e;cases e;cases c) But.upd;exists .inl ya,h.n,λq a=>f rfl (h.t q (cA.mp a).1),λq a=>f rfl (h.x q (cA.mp a).1)
def lnV(tx:Str->x0)(L:Η):Υ:=L.map λy=>V.ref (tx y.1)
def lnA(tx:Str->x0)(L:Η)(i:Nat):x0:=tx (L.getD i (⟨#[]⟩,[])).1
def yem(tx:Str->x0)(L:Η):lnV tx L=refs (lnA tx L) L.length:=by
 refine List.ext_getElem? λi=>?_;unfold lnV refs;rw[bn,bn];rcases Nat.lt_or_ge i L.length with h|h
 .rw[bg h,cE h];unfold lnA;simp[cj,bg h]
 .rw[ce h,ce (by rw[bU];exact h)];rfl
def Mdl.ln{H:Hp}{X:Sx}{P:qi Pd}{tx:Str->x0}(h:Mdl H X md P tu tx)(w:PdW P){x:Φ}(t:ToD P x L)(hi:i<L.length):Kf H X (lnA tx L i) (.lst ((txi L i).map V.int)):=by let⟨r,a,b,_⟩:=t.at w hi;have e:=h.x r a;unfold lnA txi;rw[cj,bg hi,cj,bn,bg hi,b];exact e
theorem ydp(L:Η):∀i,i<=L.length->uu (txi L) i=Ú ((L.map (·.2)).take i)
 |0,_=>rfl
 |i+1,h=>by
  have a:i<(L.map (·.2)).length:=by rw[be];omega
  rw[bK a,Ĝ,<- ydp L i (by omega)];show _++dec (txi L i)=_;unfold txi;rw[cj,bg a];rfl
def Ë(L:Η):uu (txi L) L.length=Ú (L.map (·.2)):=by rw[ydp L _ (bj _),cm (by rw[be];exact bj _)]
#synth ykj ["looks","data","most","learned","foreteller","row"] ["looks","data","most","learned"] ygu
inductive yim(K:xr)(a:Ads)(vs:Υ)(H:Hp)(Q:VK)(E:XK):Prop
 |mk(L dt:x0)(lx:V)(n:Nat)(lk:Μ)(kd:Ξ)(tp:Μ)(ps:Λ)(d:Ρ)(mo N w:Nat)(lt:Μ)(tt:Λ)(_:vs=[.ref L,.ref dt,.int mo,lx])(_:vez H L dt lx n lk kd tp ps d mo N w lt tt)(_:(∀(M:Nat)(t r:x0)(H':Hp),M<=mo->ROk (fa0 n ps) d (rS n kd ps (uu tt N)) M->H t=none->H r=none->H' t=some (.tup [.ref r,.int (rTL (fa0 n ps) d (rS n kd ps (uu tt N)) M)])->H' r=some (.lst ((rtx (fa0 n ps) d (rS n kd ps (uu tt N)) M).map V.int))->yv H H'->Q (.ref t) H'))(_:((∀M,M<=mo->¬ROk (fa0 n ps) d (rS n kd ps (uu tt N)) M)->∀H',yv H H'->E (.ref a.Dn) none H'))
def yp9:vz P w K mg Γ (CXe P w) 11 a.Dk a.Gt ["looks","data","most","learned"] (yim K a):=by
 exists T.P8.okE,ykj,v;let⟨L,dt,lx,n,lk,kd,tp,ps,d,mo,N,w,lt,J,rfl,g,kQ,kE⟩:=h;have a9:=g.b;have n1:=g.n1;have n6:=g.n6;have a2:=ypq g.mo1;refine yh (yo (i:=4) ykj.nd rfl (Or.inl rfl) (ua T.Pg (yb0 T) v.m rfl T.Pf T.Cn.B .nil yz (pa1 (pv 0)))) ?_;refine yh (yo (i:=5) ykj.nd rfl (Or.inl rfl) (x4 (vcf T) v.m T.P5 yz (pa1 (pv 1)))) ?_;refine yh (yw (x4 (vcg T) v.m T.P6 yz (pa1 (pv 2)))) ?_;refine yh (yw (uh (yj5 T) v.m T.Ex (pac (pv 4) (pa1 (uh (yj6 T) v.m T.Ew (pa1 (pv 3))))))) ?_;exists 4,2,yc (yq (x4 (ypv T) v.m T.Hy yz (pac (pv 4) (pac (pv 5) (pa1 (pv 2))))));intro p dp np a7 ab;have S0:yv H (upd (upd H dp (.own p)) p (.ins a.A2 dp [])):=λb o e=>by rw[yk (yb e np),yk (yb e a7)];exact e
 exists p,dp,.ref L,rfl,ya,.inr ⟨L,n,lk,kd,tp,ps,rfl,S0 _ _ g.l,n1,n6,g.r.same S0,λA f O H1 N1 B1=>⟨rfl,?_⟩⟩;let⟨X,rfl,rfl,rfl,rfl,oO,oB,oM,oL⟩:=N1;have S1:yv H H1:=λb o e=>B1 b o (S0 b o e) (yb e np);have j:∀{c:x0},upd (upd H dp (.own p)) p (.ins a.A2 dp []) c=none->H c=none:=λh=>S0.free h;have Y:H A.el=none:=j (oL A.el (.inr (.inl rfl)));ext;exists .ref dt,_,rfl,.lst (S1 _ _ g.dat),.inr ⟨d.map V.int,ydv (S1 _ _ g.dat) g.by' g.dl,λrw H2 Z U S2=>?_⟩;have x:=S1.trans S2;have k:=X.same S2;have a6:rw≠A.el:=(yb X.el Z).symm;ext;exists .int mo,_,rfl,.int _,λB=>?_,λz=>(by rw[a2]at z;cases z);ext;refine ė (g.lr.same x) g.w1 g.N1 λa8 cx H3 h0 h3 hx S3=>?_;ext;exists p,A,FX0 A.n A.kd,f,O,6,a8,N,w,cx,J,rfl,k.same S3,rfl,rfl,h3,(yb k.el h0).symm,λi R=>⟨⟨(hx i R).2,(g.lr.2 i R).s,(g.lr.2 i R).z⟩,(yb k.el (hx i R).1).symm⟩,g.w1,by omega,λml el pl sl f1 O1 m1 H4 I aa q G F=>?_
 have q:=FGo.ahead S3 q;have a4:=q.kpa k;have C:=a4 _ _ U rfl a6;have eX:(FX0 A.n A.kd).run A (uu J N)=(FX0 A.n A.kd).run (fa0 A.n A.ps) (uu J N):=jv A _ _;rw[eX]at I G F;have eS:(((FX0 A.n A.kd).run (fa0 A.n A.ps) (uu J N),s0):FX×Sn)=rS A.n A.kd A.ps (uu J N):=rfl;generalize (FX0 A.n A.kd).run (fa0 A.n A.ps) (uu J N)=XX at I G F eS
 have W:∀{D:x0}{O2:Β}{S:Hp},FGo p (A.re ml el pl sl) O1 H4 S D O2->yv H S:=λu c o e=>by
  have go:=q.trans u;refine go.fr c o (x _ _ e) (λz=>?_) (λz=>?_) (λz=>?_) (λi R w'=>?_)
  .rw[z,np]at e;cases e
  .rw[z,j oM]at e;cases e
  .rw[z,Y]at e;cases e
  .rw[j (oO i c R w')]at e;cases e
 ext;exists p,A.re ml el pl sl,XX,f1,O1,m1,rw,d,mo,rfl,I,C.2,C.1,g.by',g.dl,g.mo1,by omega,by rw[F];decide,by rw[G];exact bJ _,λM t r D O2 S hM y a5 a1 ht v u B=>?_,λa0 D O2 S u=>?_
 .rw[yi0,eS]at ht;rw[yja,eS]at v;rw[ROk.fa0,eS]at y;exact kQ M t r S hM y (x.free (q.free a5)) (x.free (q.free a1)) ht v (W u)
 .refine kE (λM hM y=>a0 M hM ?_) S (W u);rw[ROk.fa0,eS];exact y
#synth ypr ["looks","data","most","learned","first"] ["looks","data","most","learned"] ygv
inductive yq0(K:xr)(a:Ads)(vs:Υ)(H:Hp)(Q:VK)(E:XK):Prop
 |mk(L dt:x0)(lx:V)(n:Nat)(lk:Μ)(kd:Ξ)(tp:Μ)(ps:Λ)(d:Ρ)(mo N w:Nat)(lt:Μ)(tt:Λ)(_:vs=[.ref L,.ref dt,.int mo,lx])(_:vez H L dt lx n lk kd tp ps d mo N w lt tt)(_:(∀(M:Nat)(r:x0)(H':Hp),M<=mo->ROk (fa0 n ps) d (rS n kd ps (uu tt N)) M->rTL (fa0 n ps) d (rS n kd ps (uu tt N)) M=d.length->H r=none->H' r=some (.lst ((rtx (fa0 n ps) d (rS n kd ps (uu tt N)) M).map V.int))->yv H H'->Q (.ref r) H'))(_:((∀M,M<=mo->ROk (fa0 n ps) d (rS n kd ps (uu tt N)) M->rTL (fa0 n ps) d (rS n kd ps (uu tt N)) M≠d.length)->∀H',yv H H'->E (.ref a.Dn) none H'))
def ROk.le{A:FA}{d:Ρ}{S:FX×Sn}{N:Nat}(h:ROk A d S N):rTL A d S N<=d.length:=by have e:=congrArg List.length h.tk;rw[bH]at e;unfold rTL;omega
def yz5:vz P w K mg Γ (CXe P w) 12 a.Dl a.Gu ["looks","data","most","learned"] (yq0 K a):=by
 exists T.R8.okE,ypr,U;let⟨L,I,G,n,J,q,D,e,d,R,N,w,F,p,rfl,S,W,O⟩:=h;refine yh (yo (i:=4) ypr.nd rfl (Or.inl rfl) (ö (yp9 T) U.m rfl T.R7 T.P8.kp T.R6 .nil yz (pac (pv 0) (pac (pv 1) (pac (pv 2) (pa1 (pv 3))))))) ?_;refine yh (wa (yr ó (xi xp (pv 4) yg (λY Y=>rfl)) (pcB yp T.Aa (pa1 (pv 1))) (yx _)) (yc (xb rfl T.Rg T.Pl (pa1 wx))) y6) ?_;exists 4,1,yc (yq (xi xp (pv 4) yg (λY Y=>rfl)));exists L,I,G,n,J,q,D,e,d,R,N,w,F,p,rfl,S,λM t r l B b Z C c y g=>?_,λu l g=>O (λM B b=>absurd b (u M B)) l g;have x:=b.le;have z:∀f,ROk (fa0 n e) d (rS n q e (uu p N)) f->f=M:=λf o=>b.uniq o.b1 o.b0;generalize k:rTL (fa0 n e) d (rS n q e (uu p N)) M=tl at c x;ext;refine zt (SqT.of c) (vq (j:=1) rfl) ?_;ext;refine x5 (SqL.of (g _ _ S.dat)) ?_;rw[be];ext;refine ur (λY=>?_) (λY=>?_)
 .ext;exists by walk_at "len",O (λf Y o=>by rw[z f o,k];omega) l g
 .ext;refine zt (SqT.of c) (vq (j:=0) rfl) ?_;exact W M r l B b (by rw[k];omega) C y g
#synth yz9 ["self","looks"] yts
inductive yhc(K:xr)(a:Ads)(vs:Υ)(H:Hp)(Q:VK)(E':XK):Prop
 |mk(c dc l:x0)(n:Nat)(lk tp:Μ)(kd:Ξ)(ps:Λ)(_:vs=[.ref c,.ref l])(_:H c=some (.ins a.A1 dc []))(_:H l=some (.lst (refs lk n)))(_:1<=n)(_:n<=6)(_:ux H n lk kd tp ps)(_:∀(p ll tl:x0)(W:Ν)(H':Hp),Ä K a H' c dc p ll tl n kd ps [] [] 6 W->(∀x,ChW ll tl W x->H x=none)->But c H H'->(∀y xs H'',H y=some (.lst xs)->But y H' H''->Ä K a H'' c dc p ll tl n kd ps [] [] 6 W)->Q .non H')
def ye1:vz P w K mg Γ (CXe P w) 8 a.Gq a.N2 ["self","looks"] (yhc K a):=by
 exists T.Cv.F.okE,yz9,hr;let⟨c,f,l,n,lk,tp,kd,ps,rfl,X,hl,n1,n6,a2,k⟩:=h;refine yh (y9 (pv 0) (ua T.Pg (yb0 T) hr.m rfl T.Pf T.Cn.B .nil yz (pa1 (pv 1))) rfl) ?_;refine yh (y9 (pv 0) (xc uo) rfl) ?_;exists 2,0,yc (y9 (pv 0) (xc uo) rfl);intro p dp np a0 a3;refine FZ.new np a0 hl n1 n6 a2 λW C hf nW S1 a1=>⟨rfl,?_⟩;have L:=S1 _ _ X;ext;have u:upd C c (HO.ins a.A1 f ([("foreteller",V.ref p)]:Ι)) c=some (HO.ins a.A1 f ([("foreteller",V.ref p)]:Ι)):=ya;have G:But c C (upd C c (HO.ins a.A1 f ([("foreteller",V.ref p)]:Ι))):=But.upd;generalize upd C c (HO.ins a.A1 f ([("foreteller",V.ref p)]:Ι))=HA at u G⊢;exists by walk_at "len",λj hll=>?_
 exists hll,HB,SB,eB;have a4:=SB _ _ u;ext;have t:upd HB c (HO.ins a.A1 f ([("foreteller",V.ref p),("links",V.ref j)]:Ι)) c=some (HO.ins a.A1 f ([("foreteller",V.ref p),("links",V.ref j)]:Ι)):=ya;have M:But c HB (upd HB c (HO.ins a.A1 f ([("foreteller",V.ref p),("links",V.ref j)]:Ι))):=But.upd;generalize upd HB c (HO.ins a.A1 f ([("foreteller",V.ref p),("links",V.ref j)]:Ι))=HC at t M⊢;exists by walk_at "len",λD htl=>?_
 exists htl,HD,SD,eD;have a6:=SD _ _ t;ext;have i:j≠c:=(yb u hll).symm;have g:D≠c:=(yb t htl).symm;have S:HC j=some (.lst []):=M _ _ eB i
 have O:∀{x:x0},x≠c->HA x=none->H x=none:=λ{x}d e=>by
  cases z:H x with
  |none=>rfl
  |some o=>rw[G _ _ (S1 _ _ z) d]at e;cases e
 have U:∀{x:x0},x≠c->HC x=none->HA x=none:=λ{x}d e=>by
  cases z:HA x with
  |none=>rfl
  |some o=>rw[M _ _ (SB _ _ z) d]at e;cases e
 have v:But c C (upd HD c (HO.ins a.A1 f (jq (.ref p) (.ref j) (.ref D)))):=λx o e d=>yf d (SD _ _ (M _ _ (SB _ _ (G _ _ e d)) d))
 have q:∀x,W x->x≠c:=λx w z=>by
  have e:=nW x w;rw[z,X]at e;cases e
 have J:H j=none:=O i hll;have R:H D=none:=O g (U g htl)
 have N:¬W j:=λw=>by
  let⟨o,e⟩:=hf.live _ w;rw[G _ _ e i]at hll;cases hll
 have I:¬W D:=λw=>by
  let⟨o,e⟩:=hf.live _ w;rw[M _ _ (SB _ _ (G _ _ e g)) g]at htl;cases htl
 refine k p j D W (upd HD c (HO.ins a.A1 f (jq (.ref p) (.ref j) (.ref D)))) ⟨ya,?_,?_,?_,rfl,λw=>q c w rfl,N,I,yb S htl⟩ (λx w=>?_) (λx o e d=>v x o (S1 _ _ e) d) (λy xs H2 r b=>?_)
 .exact hf.frame (W2:=λx=>x=c) (λx z=>⟨.ins a.A1 f [],by rw[show x=c from z];exact L,.inl rfl⟩) (λx w z=>q x w z) (λx o e d=>v x o e d)
 .exact yf i (SD _ _ S)
 .exact yf g eD
 .rcases w with z|z|z
  .rw[z];exact J
  .rw[z];exact R
  .exact nW x z
 .have Z:c≠y:=λz=>by rw[<- z,X]at r;cases r
  have bG:But y C (upd H2 c (.ins a.A1 f [])):=λx o e d=>by
   by_cases z:x=c
   .rw[z,ya];rw[z,L]at e;exact e
   .exact yf z (b _ _ (v x o e z) d)
  exists b _ _ ya Z,(a1 y xs _ r bG).frame (W2:=λx=>x=c) (λx z=>⟨.ins a.A1 f [],by rw[show x=c from z];exact ya,.inl rfl⟩) (λx w z=>q x w z) (λx o e d=>by rw[yk d]at e;exact e),b _ _ (yf i (SD _ _ S)) (λz=>by rw[<- z,J]at r;cases r),b _ _ (yf g eD) (λz=>by rw[<- z,R]at r;cases r),rfl,λw=>q c w rfl,N,I,yb S htl
#synth yw1 ["self","name","text"] yve
inductive ynb(a:Ads)(vs:Υ)(H:Hp)(Q:VK)(E':XK):Prop
 |mk(c dc:x0)(vf:V)(ll tl:x0)(x y:V)(xs ys:Υ)(_:vs=[.ref c,x,y])(_:H c=some (.ins a.A1 dc (jq vf (.ref ll) (.ref tl))))(_:H ll=some (.lst xs))(_:H tl=some (.lst ys))(_:ll≠tl)(_:xs.length<=10000)(_:ys.length<=10000)(_:Q .non (upd (upd H ll (.lst (xs++[x]))) tl (.lst (ys++[y]))))
def yqi:vz P w K mg Γ CX0 1 a.Kb a.N3 ["self","name","text"] (ynb a):=by
 exists T.Dy.F.ok,yw1,u;let⟨c,n,m,d,j,x,y,i,l,rfl,f,e,o,t,v,B,k⟩:=h;exists 3,0,ye (yw (è PySem.F.plainAttrs_list PySem.F.slot_list_append PySem.F.type_list_append xh (yn (pv 0) rfl) (pa1 (pv 1)))) (yc (yw (è PySem.F.plainAttrs_list PySem.F.slot_list_append PySem.F.type_list_append xh (yn (pv 0) rfl) (pa1 (pv 2)))));refine Â e ?_;ext;refine x9 e (ve (by omega)) ?_;have p:(upd H d (.lst (i++[x]))) c=some (.ins a.A1 n (jq m (.ref d) (.ref j))):=by rw[yk (λz=>by rw[z,e]at f;cases f)];exact f
 ext;have b:(upd H d (.lst (i++[x]))) j=some (.lst l):=by rw[yk t.symm];exact o
 refine Â b ?_;ext;refine x9 b (ve (by omega)) ?_;ext;exact k
def Ä.grow{H H1:Hp}{c ll:x0}{n:Nat}{kd:Ξ}{ps:Λ}{ks:Υ}{M M':Nat}{W:Ν}(h:Ä K a H c dc p ll tl n kd ps L ks M W){nm:Str}{t:Ρ}{k:V}(hf:FZ K a H1 p n kd ps (Ú (L.map (·.2))++dec t) M' W')(g:Go W H H1 W')(hk:k=.non\/∃q,k=.ref q/\H1 q=some (.lst (t.map V.int))/\¬ChW ll tl W' q):
  Ä K a (upd (upd H1 ll (.lst (nmL L++[V.str nm]))) tl (.lst (ks++[k]))) c dc p ll tl n kd ps (L++[(nm,t)]) (ks++[k]) M' W'/\Go (ChW ll tl W) H (upd (upd H1 ll (.lst (nmL L++[V.str nm]))) tl (.lst (ks++[k]))) (ChW ll tl W'):=by
 have v:=g.fr _ _ h.hl h.nll;have A:=g.fr _ _ h.ht h.ntl;have r:=g.fr _ _ h.me h.nc;have i:∀{x:x0}{o:HO},H x=some o->¬W x->¬W' x:=λ{x o}e d w=>(g.nw x w).elim d λz=>by rw[e]at z;cases z
 have B:=i h.hl h.nll;have D:=i h.ht h.ntl
 have f:∀x o,H1 x=some o->¬(x=ll\/x=tl)->(upd (upd H1 ll (.lst (nmL L++[V.str nm]))) tl (.lst (ks++[k]))) x=some o:=λx o e d=>by
  rw[yk (λz=>d (.inr z)),yk (λz=>d (.inl z))];exact e
 have l:c≠ll:=λz=>by have e:=h.me;rw[z,h.hl]at e;cases e
 have m:c≠tl:=λz=>by have e:=h.me;rw[z,h.ht]at e;cases e
 exists⟨f _ _ r λz=>z.elim l m,?_,?_,ya,?_,i h.me h.nc,B,D,h.ne⟩,⟨λx o e d=>?_,λx w=>?_,λx o e=>?_⟩
 .have G:Ú ((L++[(nm,t)]).map (·.2))=Ú (L.map (·.2))++dec t:=by rw[bF];exact Ĝ _ _
  rw[G];refine hf.frame (W2:=λx=>x=ll\/x=tl) (λx w=>?_) (λx w z=>?_) λx o e d=>f x o e d
  .rcases w with z|z
   .exists _,by rw[show x=ll from z];exact v,.inr ⟨_,rfl,λy j=>?_⟩
    let⟨u,_,e⟩:=bq.mp j;exact .inl ⟨u.1,e.symm⟩
   .exists _,by rw[show x=tl from z];exact A,.inr ⟨_,rfl,λy j=>.inr ?_⟩
    exact(h.tx.mem y j).imp id λ⟨q,E,e,s,b⟩=>⟨q,e,.inl ⟨E,g.fr q _ s λw=>b (.inr (.inr w))⟩⟩
  .rcases z with z|z
   .rw[z]at w;exact B w
   .rw[z]at w;exact D w
 .rw[yk h.ne,ya];unfold nmL;rw[bF];rfl
 .refine yb7.snoc ?_ (h.tx.mono λq I e b=>⟨f q _ (g.fr q _ e λw=>b (.inr (.inr w))) λz=>b (z.imp id .inl),λw=>?_⟩)
  .refine hk.imp id λ⟨q,e,s,b⟩=>⟨q,e,f q _ s λz=>b (z.imp id .inl),b⟩
  .rcases w with w|w|w
   .exact b (.inl w)
   .exact b (.inr (.inl w))
   .exact i e (λw=>b (.inr (.inr w))) w
 .exact f x o (g.fr x o e λw=>d (.inr (.inr w))) λz=>d (z.imp id .inl)
 .rcases w with w|w|w
  .exact .inl (.inl w)
  .exact .inl (.inr (.inl w))
  .exact(g.nw x w).imp (λw=>.inr (.inr w)) id
 .obtain⟨C,F⟩:=g.lv x o e;by_cases z2:x=tl
  .exists _,by rw[z2];exact ya
  .by_cases z1:x=ll
   .exists _,by rw[z1,yk h.ne];exact ya
   .exists C,f x C F λz=>z.elim z1 z2
#synth yov ["self","name","text","data"] ["self","name","text"] yua
inductive ygq(K:xr)(a:Ads)(vs:Υ)(H:Hp)(Q:VK)(E':XK):Prop
 |mk(c dc p ll tl:x0)(n:Nat)(kd:Ξ)(ps:Λ)(L:Η)(ks:Υ)(M:Nat)(W:Ν)(tx:x0)(nm:Str)(ts:Ρ)(_:vs=[.ref c,.str nm,.ref tx])(_:Ä K a H c dc p ll tl n kd ps L ks M W)(_:L.length<=1000)(_:jj H tx ts 1000)(_:¬W tx)(_:M+6*(dec ts).length+20<1000000)(_:∀(r:x0)(W':Ν)(H':Hp),H r=none->H' r=some (.lst ((δ n kd ps (Ú (L.map (·.2))) ts).map V.int))->Ä K a H' c dc p ll tl n kd ps (L++[(nm,ts)]) (ks++[.non]) (M+6*(dec ts).length) W'->Go (ChW ll tl W) H H' (ChW ll tl W')->Q (.ref r) H')
def yxt:vz P w K mg Γ CX0 8 a.Kc a.N4 ["self","name","text"] (ygq K a):=by
 exists T.Hz.F.ok,yov,u;let⟨c,y,p,v,x,n,S,I,L,R,M,W,J,nm,Y,rfl,b,hz,f,t,U,k⟩:=h;have D:=b.me;have G:=b.tx.len;exists 3,1,ye (yo (i:=3) yov.nd rfl (Or.inl rfl) (uh (yk1 T) u.m T.Ey (pac (yn (pv 0) rfl) (pa1 (pv 2))))) (ye (yw (xg (pv 0) T.Ak T.Dy.m (yqi T) u.m T.Dy.B .nil v7 (pac (pv 1) (pa1 zf)))) (yc (yq (pv 3))));refine b.fz.press f t U λr N Z d o X g=>?_;have q:=g.fr _ _ b.hl b.nll;have j:=g.fr _ _ b.ht b.ntl;have l:=g.fr _ _ b.me b.nc;ext;exists c,y,_,v,x,_,_,_,_,rfl,l,q,j,b.ne,by unfold nmL;rw[be];omega,by omega,?_
 let⟨z,g2⟩:=b.grow (nm:=nm) X g (.inl rfl);ext;refine k r N _ d ?_ z g2;rw[yk (yb b.ht d).symm,yk (yb b.hl d).symm];exact o
#synth yok ["self","name","data","most","first"] ["self","name","data","most"] ytz
inductive yin(K:xr)(a:Ads)(vs:Υ)(H:Hp)(Q:VK)(E':XK):Prop
 |mk(c dc p ll tl:x0)(n:Nat)(kd:Ξ)(ps:Λ)(L:Η)(ks:Υ)(M:Nat)(W:Ν)(dt:x0)(nm:Str)(ts bs:Ρ)(mo:Nat)(_:vs=[.ref c,.str nm,.ref dt,.int mo])(_:Ä K a H c dc p ll tl n kd ps L ks M W)(_:L.length<=1000)(_:Sgs ts)(_:H dt=some (.lst ((δ n kd ps (Ú (L.map (·.2))) ts++bs).map V.int)))(_:¬W dt)(_:Byt bs)(_:(δ n kd ps (Ú (L.map (·.2))) ts++bs).length<=12000)(_:ts.length<=mo)(_:mo<=1000)(_:M+54*mo+200<1000000)(_:∀(q:x0)(W':Ν)(H':Hp),H q=none->Ä K a H' c dc p ll tl n kd ps (L++[(nm,ts)]) (ks++[.ref q]) (M+6*(dec ts).length) W'->Go (ChW ll tl W) H H' (ChW ll tl W')->Q (.int ((δ n kd ps (Ú (L.map (·.2))) ts).length:Nat)) H')
def yyj:vz P w K mg Γ (CXe P w) 11 a.Kd a.N5 ["self","name","data","most"] (yin K a):=by
 exists T.I0.F.okE,yok,O;let⟨c,U,p,f,j,n,Z,S,L,Y,M,W,dt,nm,ts,bs,mo,rfl,b,hz,y,J,u,C,D,N,r,hM,k⟩:=h;have a0:=b.me;have a1:=b.tx.len;exists 4,1,ye (yo (i:=4) yok.nd rfl (Or.inl rfl) (x4 (ypv T) O.m T.Hy yz (pac (yn (pv 0) rfl) (pac (pv 2) (pa1 (pv 3)))))) (ye (yw (xg (pv 0) T.Ak T.Dy.m (yqi T) O.m T.Dy.B .nil v7 (pac (pv 1) (pa1 (xi xp (pv 4) yg (λF F=>rfl)))))) (yc (yq (xi xp (pv 4) yg (λF F=>rfl)))));refine b.fz.read (jn _) y J u C D N r hM λt q X H1 e d R hq hf g nq=>?_;have I:=g.fr _ _ b.hl b.nll;have v:=g.fr _ _ b.ht b.ntl;have x:=g.fr _ _ b.me b.nc;ext;exists t,_,0,_,rfl,rfl,SqT.of R,rfl,?_;ext;exists c,U,_,f,j,_,_,_,_,rfl,x,I,v,b.ne,by unfold nmL;rw[be];omega,by omega,?_
 have l:¬ChW f j X q:=λw=>by
  rcases w with w|w|w
  .exact yb b.hl d w.symm
  .exact yb b.ht d w.symm
  .exact nq w
 let⟨z,g2⟩:=b.grow (nm:=nm) hf g (.inr ⟨q,rfl,hq,l⟩)
 have G:(upd (upd H1 f (.lst (nmL L++[V.str nm]))) j (.lst (Y++[V.ref q]))) t=some (.tup [.ref q,.int ((δ n Z S (Ú (L.map (·.2))) ts).length:Nat)]):=by
  rw[yk (yb b.ht e).symm,yk (yb b.hl e).symm];exact R
 ext;exists t,_,1,_,rfl,rfl,SqT.of G,rfl,?_;exact k q X _ d z g2
def FZ.fork{H:Hp}{n:Nat}{kd:Ξ}{ps:Λ}{pre:Ρ}{M:Nat}{W:Ν}{Q:VK}{E:XK}(h:FZ K a H p n kd ps pre M W)(hM:M+20<1000000)
  (k:∀q W' H',FZ K a H' q n kd ps pre (M+6) W'->(∀c,W' c->H c=none)->yv H H'->Q (.ref q) H'):ydu K a [.ref p] H Q E:=by
 let⟨A,f,O,m,o,L,D,rfl,rfl,rfl,B,t,J⟩:=h;have I:=o.n6;exists p,A,_,f,O,m,rfl,o,D,by omega,λq i C l H' s g d b u v G r F x y S=>k q (ywf q i l) H' ⟨i,C,l,m+A.n,g,by omega,d,b,u,v,B,t,λc=>Iff.rfl⟩ (λc w=>?_) S
 rcases w with z|z|⟨j,e,z⟩|⟨j,e,z⟩|z
 .rw[z];exact s
 .rw[z];exact x
 .rw[z];exact F j (by rw[<- b];exact e)
 .exact r j c (by rw[<- b];exact e) z
 .exact y c (.inr (.inl z))
#synth yzo ["self","text"] ytr
inductive yhs(K:xr)(a:Ads)(vs:Υ)(H:Hp)(Q:VK)(E':XK):Prop
 |mk(c dc p ll tl:x0)(n:Nat)(kd:Ξ)(ps:Λ)(L:Η)(ks:Υ)(M:Nat)(W:Ν)(tx:x0)(ts:Ρ)(_:vs=[.ref c,.ref tx])(_:Ä K a H c dc p ll tl n kd ps L ks M W)(_:jj H tx ts 1000)(_:M+60000<1000000)(_:∀H',yv H H'->Q (.int ((δ n kd ps (Ú (L.map (·.2))) ts).length:Nat)) H')
def yqa:vz P w K mg Γ CX0 9 a.Ke a.N6 ["self","text"] (yhs K a):=by
 exists T.Dz.F.ok,yzo,j;let⟨c,Z,p,R,X,n,kd,Y,L,ks,M,W,tx,N,rfl,i,b,hM,k⟩:=h;have U:=i.me;have a0:=xm N;have hz:=b.z
 obtain⟨J,C,G,v,u,t,I,hp⟩:∃J C G v u t I,H p=some (.ins a.A2 J (zu C G v u t I)):=by
  let⟨A,f,O,m,hF,_⟩:=i.fz;exists _,_,_,_,_,_,_,hF.me
 exists 2,0,yc (yq (pcB yp T.Aa (pa1 (uh (yk1 T) j.m T.Ey (pac (vv (yn (pv 0) rfl) T.Ac T.Hr.m (yxu T) j.m T.Hr.B .nil v7) (pa1 (pv 1)))))));refine i.fz.fork (by omega) λq W' H1 hf D y=>?_;ext;refine hf.press (b.same y) (λw=>by have e:=D _ w;rw[b.l]at e;cases e) (by omega) λr W2 H2 a2 d F g2=>?_;ext;refine x5 (SqL.of d) ?_;rw[be];exact k H2 λx o e=>g2.fr _ _ (y _ _ e) λw=>by rw[D _ w]at e;cases e
#synth yx4 ["thing"] yut
inductive yhj(K:xr)(vs:Υ)(H:Hp)(Q:VK)(E':XK):Prop
 |mk(x n:_)(_:vs=[x])(_:ue K H x (.type n))(_:(∀s,x=.str s->s.length<=100000))(_:∀H',yv H H'->Q (.bl (nmV x)) H')
def yyu:vz P w K mg Γ CX0 1 a.Kg a.N7 ["thing"] (yhj K):=by
 exists T.Od.F.ok,yx4,r;let⟨x,n,rfl,d,b,k⟩:=h;exists 1,0,yc (yq (z7 (pcB wv T.A7 (pac (pv 0) (pa1 (jw (T:="str") rfl T.Oo (by right))))) (z7 (Î jg jg yg (pcB ë T.Aa (pa1 (pv 0))) (vn rfl T.Eg)) (Ô (pcB (j5 rfl) T.Db (pa1 (wb (js:=[]) (ys:=[]) rfl (vah (pv 0)) (λC v u t=>(xv yht (pv 0) (yr9 rfl T.Ou) (by with_unfolding_all rfl))) rfl rfl (hyc:=yt) (hrel:=yt))))))));refine ò d (ydy d) ?_;ext;by_cases hn:n="str"
 .obtain⟨s',rfl⟩:∃s',x=.str s':=by
   cases d with
   |str s'=>exists s',rfl
   |_=>exact absurd hn (by decide)
  have b:=b s' rfl;rw[br hn];refine ł ?_;ext;exists s',rfl,bP b (by decide),?_;refine⟨1,(s'.length:Int),rfl,rfl,_,rfl,?_⟩;by_cases h1:(1:Int)<=(s'.length:Int)
  .refine yam h1 ?_;exists(s'.length:Int),8,rfl,rfl,_,rfl,?_;by_cases h8:(s'.length:Int)<=8
   .refine yam h8 ?_;ext;exists s',rfl,λD j=>?_;refine yig (λi=>.bl (yqn (s'.cps.toList.getD i 0))) j (λi c G o q S g=>?_) (λG S g=>?_)
    .ext;exists _,_,rfl,rfl,?_;refine Mp.doneR j (Nat.lt_of_le_of_lt (show s'.cps.size<=100000 from b) (by decide)) q S g ?_
     have p:s'.cps.toList.getD i 0=c:=by
      rw[cj,Array.getElem?_toList,o];rfl
     rw[p];unfold yqn;rfl
    .ext;exists D,s'.cps.toList.map yqn,rfl,?_,?_
     .refine SqL.of (g.trans ?_);rw[ysr]
     .have e:=vac h1 h8;rw[<- e];exact k _ S
   .have e:=yw4 h8;rw[e]at k;exact ydk h8 (k _ (yv.refl _))
  .have e:=yxd h1;rw[e]at k;refine ydk h1 ?_;exists _,rfl,ĳ (k _ (yv.refl _))
 .have e:nmV x=false:=by
   cases d with
   |str s'=>exact absurd rfl hn
   |_=>rfl
  rw[bC hn];rw[e]at k;exact ĳ (k _ (yv.refl _))
#synth yzl ["thing"] yv8
inductive yne(K:xr)(C:x0)(vs:Υ)(H:Hp)(Q:VK)(E:XK):Prop
 |mk(x n:_)(_:vs=[x])(_:ue K H x (.type n))(_:(∀s,x=.str s->s.length<=100000))(_:(nmV x=true->∀H',yv H H'->Q x H'))(_:(nmV x=false->∀H',yv H H'->E (.ref C) none H'))
def yj9:vz P w K mg Γ (CXe P w) 2 a.Kh a.N8 ["thing"] (yne K a.Ah):=by
 exists T.Ez.F.okE,yzl,e;let⟨x,n,rfl,i,d,k,j⟩:=h;exists 1,0,ye (wa (xn (xo (uh (yyu T) e.m T.Od (pa1 (pv 0))))) (yc (xb rfl T.Pk T.Ec (pa1 wx))) y6) (yc (yq (pv 0)));exists x,n,rfl,i,d,λl c=>?_;ext
 cases hx:nmV x with
 |false =>
  ext;exists by walk_at "len",j hx _ c
 |true =>
  ext;exact k hx _ c
#synth yw3 ["thing"] ytp
inductive ymi(K:xr)(C:x0)(vs:Υ)(H:Hp)(Q:VK)(E:XK):Prop
 |mk(x n:_)(_:vs=[x])(_:ue K H x (.type n))(_:(∀s,x=.str s->s.length<=100000))(_:((x=.non\/nmV x=true)->∀H',yv H H'->Q .non H'))(_:(x≠.non->nmV x=false->∀H',yv H H'->E (.ref C) none H'))
def va7:vz P w K mg Γ (CXe P w) 3 a.Ki a.N9 ["thing"] (ymi K a.Ah):=by
 exists T.Oe.F.okE,yw3,i;let⟨x,n,rfl,l,g,f,o⟩:=h;exists 1,0,yc (wa (yr yac (pv 0) zf (yx _)) (yc (yw (x4 (yj9 T) i.m T.Ez yz (pa1 (pv 0))))) y6);by_cases hx:x=.non
 .subst hx;ext;exact f (.inl rfl) _ (yv.refl _)
 .ext;rw[bC hx];refine ł ?_;ext;exists x,n,rfl,l,g,λd e b=>?_,λd e b=>o hx d e b;ext;exact f (.inr d) _ b
#synth yyw ["self","base","data"] yuk
inductive yls(a:Ads)(vs:Υ)(H:Hp)(Q:VK)(E':XK):Prop
 |mk(p dp:x0)(x y:V)(_:vs=[.ref p,x,y])(_:H p=some (.ins a.A8 dp []))(_:∀H',H' p=some (.ins a.A8 dp (Ģ x y))->But p H H'->Q .non H')
def yzd:vz P w K mg Γ CX0 1 a.Gr a.Na ["self","base","data"] (yls a):=by exists T.F0.F.ok,yyw,i;let⟨p,b,x,y,rfl,j,k⟩:=h;exists 3,0,ye (y9 (pv 0) (pv 1) rfl) (yc (y9 (pv 0) (pv 2) rfl));have c:upd H p (HO.ins a.A8 b ([("base",x)]:Ι)) p=some (HO.ins a.A8 b ([("base",x)]:Ι)):=ya;have e:But p H (upd H p (HO.ins a.A8 b ([("base",x)]:Ι))):=But.upd;generalize upd H p (HO.ins a.A8 b ([("base",x)]:Ι))=l at c e⊢;ext;exact k _ ya (e.trans But.upd)
#synth yxc ["self","looks","most"] ygw
inductive yba(K:xr)(a:Ads)(vs:Υ)(H:Hp)(Q:VK)(E':XK):Prop
 |mk(p ds l:x0)(mo w:Nat)(n:Nat)(lk tp:Μ)(kd:Ξ)(ps:Λ)(_:vs=[.ref p,.ref l,.int mo])(_:H p=some (.ins a.A0 ds []))(_:H l=some (.lst (refs lk n)))(_:1<=n)(_:n<=6)(_:ux H n lk kd tp ps)(_:mo<=1000)(_:w<=mo)(_:w<=200)(_:∀(ll d c dc q cl ct:x0)(U:Ν)(H':Hp),jl K a H' p ds ll d c dc q cl ct lk tp n kd ps mo w [] [] [] U->(∀x,StW c cl ct U x->H x=none)->H ll=none->H d=none->But p H H'->(∀y xs H'',H y=some (.lst xs)->But y H' H''->jl K a H'' p ds ll d c dc q cl ct lk tp n kd ps mo w [] [] [] U)->Q .non H')
def yxh:vz P w K mg Γ (CXe P w) 10 a.D9 a.Nd ["self","looks","most"] (yba K a):=by
 exists T.Rv.okE,yxc,hr;let⟨p,j,l,D,w,n,lk,tp,kd,ps,rfl,N,hl,L,n6,W,a1,a5,a3,k⟩:=h;refine yh (y9 (pv 0) (x4 (yoz T) hr.m T.Hi yz (pa1 (pv 1))) rfl) ?_;refine yh (yw (x4 (vcg T) hr.m T.P6 yz (pa1 (pv 2)))) ?_;refine yh (y9 (pv 0) (pv 2) rfl) ?_;refine yh (y9 (pv 0) yd8 rfl) ?_;exists 3,0,yc (y9 (pv 0) (ua T.De (ye1 T) hr.m rfl T.Dd T.Cv.B .nil yz (pa1 (yn (pv 0) rfl))) rfl);refine .inr ⟨l,refs lk n,List.replicate (refs lk n).length true,rfl,hl,by rw[vt];omega,W.lks.bs,λB g H1 v a2 t=>?_,λno=>absurd ⟨by rw[vt];exact L,by rw[vt];exact n6,yji _⟩ no⟩;have ak:=t _ _ N;ext;have ag:upd H1 p (HO.ins a.A0 j ([("looks",V.ref g)]:Ι)) p=some (HO.ins a.A0 j ([("looks",V.ref g)]:Ι)):=ya;have BA:But p H1 (upd H1 p (HO.ins a.A0 j ([("looks",V.ref g)]:Ι))):=But.upd;generalize upd H1 p (HO.ins a.A0 j ([("looks",V.ref g)]:Ι))=HA at ag BA⊢;exists .int D,"int",rfl,.int _,λB=>?_,λz=>by rw[ypq a1]at z;cases z
 ext;have Z:upd HA p (HO.ins a.A0 j ([("looks",V.ref g),("most",V.int D)]:Ι)) p=some (HO.ins a.A0 j ([("looks",V.ref g),("most",V.int D)]:Ι)):=ya;have BB:But p HA (upd HA p (HO.ins a.A0 j ([("looks",V.ref g),("most",V.int D)]:Ι))):=But.upd;generalize upd HA p (HO.ins a.A0 j ([("looks",V.ref g),("most",V.int D)]:Ι))=HB at Z BB⊢;intro d hd0;exists hd0,HC,SC,eC;have ah:=SC _ _ Z;ext;have r:upd HC p (HO.ins a.A0 j ([("looks",V.ref g),("most",V.int D),("pieces",V.ref d)]:Ι)) p=some (HO.ins a.A0 j ([("looks",V.ref g),("most",V.int D),("pieces",V.ref d)]:Ι)):=ya;have BD:But p HC (upd HC p (HO.ins a.A0 j ([("looks",V.ref g),("most",V.int D),("pieces",V.ref d)]:Ι))):=But.upd;generalize upd HC p (HO.ins a.A0 j ([("looks",V.ref g),("most",V.int D),("pieces",V.ref d)]:Ι))=X at r BD⊢;have I:∀x o,H1 x=some o->x≠p->X x=some o:=λx o e u=>BD _ _ (SC _ _ (BB _ _ (BA _ _ e u) u)) u
 have K0:∀x,x≠p->X x=none->H x=none:=λx u e=>by
  cases z:H x with
  |none=>rfl
  |some o=>rw[I _ _ (t _ _ z) u]at e;cases e
 have Y:g≠p:=(yb N v).symm;have C:d≠p:=(yb Z hd0).symm;have F:=I _ _ a2 Y;have M:X d=some (.dK []):=BD _ _ eC C
 have ad:ux X n lk kd tp ps:=λi hi=>by
  let⟨q,e,S,R,h3⟩:=W i hi;exists q,e,I _ _ (t _ _ S) (wz S N (by intro z;cases z)),I _ _ (t _ _ R) (wz R N (by intro z;cases z)),h3
 exists p,_,j,_,_,rfl,r,T.A3,T.Am,rfl,?_;ext;intro c dc nc af ai;have SQ:yv X (upd (upd X dc (.own c)) c (.ins a.A1 dc [])):=λb o e=>by rw[yk (yb e nc),yk (yb e af)];exact e
 exists c,dc,g,n,lk,tp,kd,ps,rfl,ya,SQ _ _ F,L,n6,ad.same SQ,λq cl ct U HE aa a6 BE ac=>⟨rfl,?_⟩;have J:yv X HE:=λb o e=>BE _ _ (SQ _ _ e) (yb e nc);have a4:=J _ _ r
 have O:∀x,StW c cl ct U x->X x=none:=λx w=>by
  rcases w with z|z
  .rw[z];exact nc
  .exact SQ.free (a6 x z)
 have a0:¬StW c cl ct U p:=λw=>by have e:=O _ w;rw[r]at e;cases e
 have a7:H d=none:=by
  cases z:H d with
  |none=>rfl
  |some o=>rw[BB _ _ (BA _ _ (t _ _ z) C) C]at hd0;cases hd0
 ext;refine k g d c dc q cl ct U _ ⟨ya,L,n6,yf Y (J _ _ F),λi hi=>?_,⟨yf C (J _ _ M),λq f=>(by cases f),List.nodup_nil,λq f=>(by cases f),λq f=>(by cases f),bJ _,λq f=>(by cases f)⟩,aa.but a4 a0 But.upd,λx hx w=>?_,a1,⟨a5,a3⟩,⟨none,rfl⟩⟩ (λx w=>?_) v ?_ (λx o e u=>yf u (J _ _ (I _ _ (t _ _ e) u))) (λy xs H2 G b=>?_)
 .obtain⟨q,e,S,R,h3⟩:=W i hi;have L:=wz S N (by intro z;cases z);have n2:=wz R N (by intro z;cases z);exists q,e,yf L (J _ _ (I _ _ (t _ _ S) L)),yf n2 (J _ _ (I _ _ (t _ _ R) n2)),h3
 .have e:=O _ w;rcases hx with z|z|z|⟨q,f,_⟩
  .rw[z,r]at e;cases e
  .rw[z,F]at e;cases e
  .rw[z,M]at e;cases e
  .cases f
 .exact K0 x (λz=>a0 (z ▸ w)) (O x w)
 .exact a7
 .have a8:p≠y:=λz=>by rw[<- z,N]at G;cases G
  have ae:=SQ _ _ (I _ _ (t _ _ G) a8.symm)
  have bG:But y HE (upd H2 p (HO.ins a.A0 j ([("looks",V.ref g),("most",V.int D),("pieces",V.ref d)]:Ι))):=λx o e u=>by
   by_cases z:x=p
   .rw[z,ya];rw[z,a4]at e;exact e
   .exact yf z (b _ _ (yf z e) u)
  have ab:=ac y xs _ ae bG;have aj:=t _ _ G;exists b _ _ ya a8,L,n6,b _ _ (yf Y (J _ _ F)) (λz=>by rw[<- z,v]at G;cases G),λi hi=>?_,⟨b _ _ (yf C (J _ _ M)) (λz=>by rw[<- z,a7]at G;cases G),λq f=>(by cases f),List.nodup_nil,λq f=>(by cases f),λq f=>(by cases f),bJ _,λq f=>(by cases f)⟩,ab.but ya a0 (λx o e u=>by rw[yk u]at e;exact e),λx hx w=>?_,a1,⟨a5,a3⟩,⟨none,rfl⟩
  .obtain⟨q,e,S,R,h3⟩:=W i hi;have L:=wz S N (by intro z;cases z);have n2:=wz R N (by intro z;cases z);exists q,e,b _ _ (yf L (J _ _ (I _ _ (t _ _ S) L))) (wz S G (by intro z;cases z)),b _ _ (yf n2 (J _ _ (I _ _ (t _ _ R) n2))) (wz R G (by intro z;cases z)),h3
  .have e:=O _ w;rcases hx with z|z|z|⟨q,f,_⟩
   .rw[z,r]at e;cases e
   .rw[z,F]at e;cases e
   .rw[z,M]at e;cases e
   .cases f
def Sto.new{H:Hp}{st l:x0}{mo w n:Nat}{lk:Μ}{kd:Ξ}{ps:Λ}{Q:VK}{E:XK}(hst0:H st=none)(hds0:H ds=none)(hlo:H l=some (.lst (refs lk n)))(n1:1<=n)(n6:n<=6)(hR:ux H n lk kd tp ps)(m1:mo<=1000)(wm:w<=mo)(w2:w<=200)
  (k:∀X H',Sto K a H' st ⟨n,kd,ps,mo,w⟩ [] X->yv H H'->(∀y,X.f y->H y=none)->(∀y xs H'',H y=some (.lst xs)->But y H' H''->Sto K a H'' st ⟨n,kd,ps,mo,w⟩ [] X)->Q .non H'):yba K a [.ref st,.ref l,.int mo] (upd (upd H ds (.own st)) st (.ins a.A0 ds [])) Q E:=by
 have g:yv H (upd (upd H ds (.own st)) st (.ins a.A0 ds [])):=λb o e=>by rw[yk (yb e hst0),yk (yb e hds0)];exact e
 exists st,ds,l,mo,w,n,lk,tp,kd,ps,rfl,ya,g _ _ hlo,n1,n6,hR.same g,m1,wm,w2,λu d c v p t x U B r j h m A s=>k _ B ⟨ds,u,d,c,v,p,t,x,lk,tp,[],[],[],U,r,rfl,rfl⟩ (λy o e=>A _ _ (g _ _ e) (yb e hst0)) (λy i=>?_) λy xs C i b=>⟨ds,u,d,c,v,p,t,x,lk,tp,[],[],[],U,s y xs C (g _ _ i) b,rfl,rfl⟩;rcases i with(z|z|z)|z|⟨q,hq,_⟩|z
 .rw[z];exact g.free m
 .rw[z];exact hst0
 .exact g.free (j y z)
 .rw[z];exact g.free h
 .cases hq
 .cases z
#synth yxv ["self"] yul
inductive ydo(a:Ads)(vs:Υ)(H:Hp)(Q:VK)(E':XK):Prop
 |mk(st ds d:x0)(vl vm vc:V)(P:qi Pc)(_:vs=[.ref st])(_:H st=some (.ins a.A0 ds (xj vl vm (.ref d) vc)))(_:H d=some (.dK (pcs P)))(_:P.length<=60)(_:∀l H',H l=none->H' l=some (.lst (P.map λq=>V.str q.nm))->yv H H'->Q (.ref l) H')
def ykl:vz P w K mg Γ CX0 1 a.Kk a.Nf ["self"] (ydo a):=by
 exists T.Cw.F.ok,yxv,v;let⟨m,r,d,g,o,n,P,rfl,f,t,u,k⟩:=h;exists 1,0,yc (yq (pcT (uy rfl) T.Af (pa1 (yn (pv 0) rfl))));exists d,_,rfl,t,λl b=>?_;have e:(pcs P).map (λp=>kV p.1)=P.map λq=>V.str q.nm:=by unfold pcs;rw[bR];rfl
 rw[e];exact k l _ b ya (y7 b)
def Sto.names{H:Hp}{st:x0}{C:Cf}{P:qi Pd}{X:Sx}{Q:VK}{E:XK}(h:Sto K a H st C P X)(k:∀l H',H l=none->H' l=some (.lst (P.map λq=>V.str q.nm))->yv H H'->Q (.ref l) H'):ydo a [.ref st] H Q E:=by let⟨g,j,d,c,o,p,i,r,t,m,b,L,n,U,s,rfl,rfl⟩:=h;exists st,g,d,_,_,_,b,rfl,s.me,s.pz.dk,s.pz.z,λl H' e f S=>k l H' e ?_ S;rw[bR];exact f
#synth yxq ["self","text"] yt2
inductive yta(a:Ads)(vs:Υ)(H:Hp)(Q:VK)(E:XK):Prop
 |mk(st ds tx:x0)(vl vp vc:V)(mo:Int)(xs:Υ)(_:vs=[.ref st,.ref tx])(_:H st=some (.ins a.A0 ds (xj vl (.int mo) vp vc)))(_:H tx=some (.lst xs))(_:((xs.length:Int)<=mo->Q .non H))(_:(¬(xs.length:Int)<=mo->E (.ref a.Ai) none H))
def yod:vz P w K mg Γ (CXe P w) 1 a.Km a.Nh ["self","text"] (yta a):=by
 exists T.E4.F.okE,yxq,t;let⟨k,r,q,f,d,l,n,m,rfl,e,c,p,o⟩:=h;exists 2,0,yc (wa (yr yb6 (pcB yp T.Aa (pa1 (pv 1))) (yn (pv 0) rfl) (yx _)) (yc (xb rfl T.Oq T.D7 (pa1 wx))) y6);refine x5 (SqL.of c) ?_;ext;refine ur (λj=>?_) (λj=>?_)
 .ext;exists by walk_at "len",o (by omega)
 .exact p (by omega)
#synth va9 ["self","name"] ytq
inductive ywx(K:xr)(a:Ads)(vs:Υ)(H:Hp)(Q:VK)(E:XK):Prop
 |mk(st ds d:x0)(vl vm vc:V)(n:Nat)(kd:Ξ)(ps:Λ)(w:Nat)(P:qi Pc)(x:V)(nt:String)(_:vs=[.ref st,x])(_:H st=some (.ins a.A0 ds (xj vl vm (.ref d) vc)))(_:yap a H d n kd ps w P)(_:ue K H x (.type nt))(_:(∀s,x=.str s->s.length<=100000))(_:(nmV x=false->∀H',yv H H'->E (.ref a.Ah) none H'))(_:(∀b,x=.str b->nmS b=true->(∀q,q∈P->q.nm≠b)->∀H',yv H H'->E (.ref a.A9) none H'))(_:(∀r,r∈P->x=.str r.nm->nmS r.nm=true->∀H',yv H H'->Q (.ref r.ob) H'))
def yez:vz P w K mg Γ (CXe P w) 3 a.Ko a.Nj ["self","name"] (ywx K a):=by
 exists T.Cb.F.okE,va9,g;let⟨B,z,d,L,R,C,n,N,G,w,P,x,p,rfl,j,D,v,J,y,O,I⟩:=h;exists 2,0,ye (wa (ybu (Ê (zg g) (x4 (yj9 T) g.m T.Ez yz (pa1 (pv 1))) (yn (pv 0) rfl))) (yc (xb rfl T.Os T.D8 (pa1 wx))) y6) (yc (yq (uc (zg g) (yn (pv 0) rfl) (pv 1) (λZ Z=>rfl))));exists x,p,rfl,v,J,λk l f=>?_,λk l f=>y k l f;let⟨b,rfl,q⟩:=yxk k;have t:=f _ _ j;have c:=D.same f;ext;rcases vbw P b with⟨r,e,rfl⟩|o
 .exists d,_,rfl,c.get e,?_;exists false,rfl,ĳ ?_;ext;exists d,_,rfl,c.get e,?_;exact I r e rfl q _ f
 .exists d,_,rfl,c.getNo o,?_;exists true,rfl,ł ?_;ext;exists by walk_at "len",O b rfl q o _ f
#synth yzj ["self","name","base"] yv0
inductive ytb(K:xr)(a:Ads)(vs:Υ)(H:Hp)(Q:VK)(E:XK):Prop
 |mk(st ds d:x0)(vl vm vc:V)(n:Nat)(kd:Ξ)(ps:Λ)(w:Nat)(P:qi Pc)(b:Str)(x:Φ)(_:vs=[.ref st,.str b,baV x])(_:H st=some (.ins a.A0 ds (xj vl vm (.ref d) vc)))(_:yap a H d n kd ps w P)(_:(∀y,x=some y->nmS y=true/\y.length<=100000))(_:((∃r,r∈P/\r.nm=b)->E (.ref a.Aw) none H))(_:((∀q,q∈P->q.nm≠b)->(∀y,x=some y->(∀q,q∈P->q.nm≠y)->∀H',yv H H'->E (.ref a.A9) none H')/\(∀L,To P x L->(P.length=60->∀H',yv H H'->E (.ref a.C7) none H')/\(P.length≠60->∀H',yv H H'->Q .non H'))))
def yzm:vz P w K mg Γ (CXe P w) 4 a.Kn a.Ni ["self","name","base"] (ytb K a):=by
 exists T.I1.F.okE,yzj,u;let⟨C,v,d,M,L,D,n,N,I,w,P,b,x,rfl,g,f,hx,U,k2⟩:=h;exists 3,0,ye (wa (ybu (vak (zg u) (pv 1) (yn (pv 0) rfl))) (yc (xb rfl T.Qt T.Fw (pa1 wx))) y6) (ye (wa (yr yac (pv 2) zf (yx _)) (yc (yw (vh (pv 0) T.A3 T.Cb.m (yez T) u.m T.Cb.B .nil yz (pa1 (pv 2))))) y6) (yc (wa (yr xq (pcB jo T.Aa (pa1 (yn (pv 0) rfl))) (vn rfl T.Eo) (yx _)) (yc (xb rfl T.Rh T.Ic (pa1 wx))) y6)));rcases vbw P b with⟨r,c,rfl⟩|G
 .exists d,_,rfl,f.get c,?_;exists true,rfl,ł ?_;ext;exists by walk_at "len",U ⟨r,c,rfl⟩
 .exists d,_,rfl,f.getNo G,?_;exists false,rfl,ĳ ?_;let⟨Y,J⟩:=k2 G;have W:(pcs P).length=P.length:=be _;ext
  cases x with
  |none =>
   refine yqm (λZ=>?_) (λz=>absurd rfl z);let⟨q,l⟩:=J [] rfl;ext;exists d,_,rfl,f.dk,?_;ext;refine ur (λj=>?_) (λj=>?_)
   .ext;exists by walk_at "len",q (by omega) _ (yv.refl _)
   .ext;exact l (by omega) _ (yv.refl _)
  |some y =>
   refine yqm (λz=>nomatch z) (λZ=>?_)
   let⟨o,p⟩:=hx y rfl;ext;exists C,v,d,M,L,D,n,N,I,w,P,.str y,"str",rfl,g,f,.str y,(λs e=>by cases e;exact p),(λz=>by rw[show nmV (.str y)=nmS y from rfl,o]at z;cases z),(λb e Z t X S=>by cases e;exact Y y rfl t X S),λr c e Z H1 i=>?_;obtain rfl:y=r.nm:=by cases e;rfl
   let⟨q,l⟩:=J _ ⟨r,c,rfl,rfl⟩;have O:=i _ _ g;ext;exists d,_,rfl,i _ _ f.dk,?_;ext;refine ur (λj=>?_) (λj=>?_)
   .ext;exists by walk_at "len",q (by omega) _ i
   .ext;exact l (by omega) _ i
#synth yj2 ["self","name","links"] ["self","name"] yvh
inductive ym1(a:Ads)(vs:Υ)(H:Hp)(Q:VK)(E':XK):Prop
 |mk(st ds d:x0)(vl vm vc:V)(n:Nat)(kd:Ξ)(ps:Λ)(w:Nat)(P:qi Pc)(x:Φ)(L:Η)(_:vs=[.ref st,baV x])(_:H st=some (.ins a.A0 ds (xj vl vm (.ref d) vc)))(_:yap a H d n kd ps w P)(_:To P x L)(_:∀(l:x0)(H':Hp),H l=none->H' l=some (.lst (nmL L))->yv H H'->Q (.ref l) H')
def yo4:vz P w K mg Γ CX0 1 a.Kp a.Nk ["self","name"] (ym1 a):=by
 exists T.E5.F.ok,yj2,W;let⟨N,ds,d,vl,vm,vc,n,kd,ps,w,P,x,L,rfl,v,B,J,k⟩:=h;exists 2,1,ye (yo (i:=2) yj2.nd rfl (Or.inl rfl) (xc uo)) (ye (jd PassesOwn.never (yr yac (pv 1) zf (yx _)) (ye (yw (è PySem.F.plainAttrs_list PySem.F.slot_list_append PySem.F.type_list_append xh (pv 2) (pa1 (pv 1)))) (yc (yo (i:=1) yj2.nd rfl (Or.inl rfl) (yn (uc (zg W) (yn (pv 0) rfl) (pv 1) (λF F=>rfl)) rfl))))) (ye (yw (ykp PySem.F.plainAttrs_list PySem.F.slot_list_reverse PySem.F.type_list_reverse ō (pv 2))) (yc (yq (pv 2)))));exists by walk_at "len",λl g=>?_
 ext
 refine⟨λm σ' G=>∃(y:Φ)(R S:Η),σ'=[some (.ref N),some (baV y),some (.ref l)]/\To P y R/\R++S=L/\G l=some (.lst (nmL S).reverse)/\yv H G/\m=R.length,
  ⟨_,x,L,[],rfl,J,cO L,ya,y7 g,rfl⟩,?_⟩
 rintro m σ2 G ⟨y,R,S,rfl,M,j,f,C,rfl⟩;have O:=C _ _ v;have Z:=B.same C;have I:=To.len B J;have a0:S.length<=61:=by rw[<- j,bp]at I;omega
 ext
 cases y with
 |none =>
  refine yqm (λF=>?_) (λz=>absurd rfl z);have e:S=L:=by rw[show R=[]from M]at j;exact j
  ext;refine Â f ?_;ext;refine ybk f ?_;rw[List.reverse_reverse,e];ext;exact k l _ g ya λb o z=>yf (yb z g) (C _ _ z)
 |some b =>
  refine yqm (λz=>nomatch z) (λF=>?_)
  let⟨r,p,rfl,t⟩:=M;exists _,λσ' H' z=>z,?_;ext;refine Â f ?_;ext;refine x9 f (ve (by unfold nmL;rw[List.length_reverse,be];omega)) ?_;have c:yv H (upd G l (HO.lst ((nmL S).reverse++[baV (some r.nm)]))):=λb o e=>yf (yb e g) (C _ _ e);have q:upd G l (HO.lst ((nmL S).reverse++[baV (some r.nm)])) l=some (HO.lst ((nmL S).reverse++[baV (some r.nm)])):=ya;generalize upd G l (HO.lst ((nmL S).reverse++[baV (some r.nm)]))=G' at c q⊢;have U:=c _ _ v;have u:=B.same c;have Y:=(u.ob r p).1;ext;exists d,_,rfl,u.get p,?_;ext;exists r.path.length,?_,r.bs,r.path,(r.nm,r.tx)::S,rfl,B.wf r p,?_,?_,c,rfl
  .rw[t,bp,ci];omega
  .rw[<- j,t,cy];rfl
  .rw[ysm];exact q
#synth yjx ["self","name","links","link"] ["self","name"] yup
inductive ŉ(K:xr)(a:Ads)(vs:Υ)(H:Hp)(Q:VK)(E':XK):Prop
 |mk(st ds ll d c dc p cl ct:x0)(lk tp:Μ)(n:Nat)(kd:Ξ)(ps:Λ)(mo w:Nat)(P:qi Pc)(L:Η)(ks:Υ)(U:Ν)(x:Φ)(L':Η)(_:vs=[.ref st,baV x])(_:jl K a H st ds ll d c dc p cl ct lk tp n kd ps mo w P L ks U)(_:To P x L')(_:∀(c' dc' p' cl' ct':x0)(ks':Υ)(U':Ν)(H':Hp),jl K a H' st ds ll d c' dc' p' cl' ct' lk tp n kd ps mo w P L' ks' U'->Go (StO st c cl ct U) H H' (StO st c' cl' ct' U')->NK H ks ks'->(V.non∈ks'->V.non∈ks.take L'.length)->Q (.ref c') H')
def ye2:vz P w K mg Γ (CXe P w) 12 a.Kq a.Nl ["self","name"] (ŉ K a):=by
 exists T.Cc.F.okE,yjx,hr;let⟨O,ds,ll,d,c,dc,p,cl,ct,lk,tp,n,kd,ps,mo,w,P,L,ks,U,x,t,rfl,N,hL,k⟩:=h;have a8:=N.me;refine yh (yo (i:=2) yjx.nd rfl (Or.inl rfl) (xg (pv 0) T.A3 T.E5.m (yo4 T) hr.m T.E5.B .nil v7 (pa1 (pv 1)))) ?_;refine yh (jx (wa (yr (Õ hr.units) (yn (yn (pv 0) rfl) rfl) (ub jr (pv 2) uv (uk (pcB yp T.Aa (pa1 (yn (yn (pv 0) rfl) rfl))))) (yx _)) (yc (y9 (pv 0) (ua T.De (ye1 T) hr.m rfl T.Dd T.Cv.B .nil yz (pa1 (yn (pv 0) rfl))) rfl)) y6)) ?_;refine yh (PS.nox (xz PassesOwn.never rfl (vx (ub jr (pv 2) (uk (pcB yp T.Aa (pa1 (yn (yn (pv 0) rfl) rfl)))) uv)) (vk (i:=3) yjx.nd rfl (Or.inl rfl)) (yc (yw (vh (yn (pv 0) rfl) T.Ak T.I0.m (yyj T) hr.m T.I0.B .nil vg (pac (pv 3) (pac (yn (uc (zg hr) (yn (pv 0) rfl) (pv 3) (λB B=>rfl)) rfl) (pa1 (yn (pv 0) rfl))))))))) ?_;exists 2,2,yc (yq (yn (pv 0) rfl));exists O,ds,d,_,_,_,n,kd,ps,w,P,x,t,rfl,a8,N.pz,hL,λl H1 az a7 S1=>?_;have ax:=S1 _ _ a8;have a9:=N.same S1;have aD:=a9.ch.me;have ae:=a9.ch.hl;let⟨y,hy⟩:=N.way;have as:=To.len N.pz hL;have av:=To.len N.pz hy;ext;exists λσ2 G=>∃(S R p2 f j:x0)(I:Υ)(U2:Ν)(C:Η),σ2=[some (.ref O),some (baV x),some (.ref l),none]/\jl K a G O ds ll d S R p2 f j lk tp n kd ps mo w P C I U2/\Go (StO O c cl ct U) H G (StO O S f j U2)/\C=t.take C.length/\C.length<=t.length/\G l=some (.lst (nmL t))/\NK H ks I/\(V.non∈I->V.non∈ks.take t.length),?_,?_
 .ext;refine x5 (SqL.of ae) ?_;ext;refine yb4 (SqL.of a7) λq hq0=>?_;rw[ρ,ja,ø];exists hq0,H2,S2,e2;have a5:=S1.trans S2;have D:=N.same a5;have a3:=D.me;have Y:=S2 _ _ a7;rw[ã]at e2;have a4:=D.ch.hl;rw[ã]at a4;refine yb2 _ _ (hy.ok N.pz) (λz hz=>hL.ok N.pz z (by let⟨u,hu,rfl⟩:=bq.mp hz;exact bq.mpr ⟨u,cG hu,rfl⟩)) (SqL.of a4) (SqL.of e2) ?_;by_cases he:L.map (·.1)=(t.take L.length).map (·.1)
  .rw[br he];exists false,rfl,ĳ ?_;have e3:=To.ahead N.pz.nd N.pz.wf hy hL (by rw[ø];exact ypl he);have e4:=congrArg List.length e3;rw[bH]at e4;exists c,dc,p,cl,ct,ks,U,L,rfl,D,Go.refl.same a5,e3,by omega,Y,.refl,λz=>by rw[cm (by rw[N.ch.tx.len];omega)];exact z
  .rw[bC he];exists true,rfl,ł ?_;ext;intro c' a0 nc ad aC;have SQ:yv H2 (upd (upd H2 a0 (.own c')) c' (.ins a.A1 a0 [])):=λb o e=>by rw[yk (yb e nc),yk (yb e ad)];exact e
   exists c',a0,ll,n,lk,tp,kd,ps,rfl,ya,SQ _ _ D.lo,D.n1,D.n6,D.row.same SQ,λp' am ao U' HE X a6 BE B=>⟨rfl,?_⟩;let⟨hR,gR,SE,hN⟩:=D.re nc ad X a6 BE;have au:=SE _ _ a3;ext
   exists c',a0,p',am,ao,[],U',[],rfl,hR,gR.ahead a5,rfl,bJ _,yf (λz=>by rw[z,a3]at Y;cases Y) (SE _ _ Y),.nil,λz=>nomatch z
 .rintro σ2 G ⟨S,R,p2,f,j,I,U2,C,rfl,hG,go,ah,ak,aj,aq,ai⟩;have ar:=hG.me;have aB:=hG.ch.me;have ac:=hG.ch.hl;ext;refine x5 (SqL.of ac) ?_;ext;refine yb4 (SqL.of aj) λq hq0=>?_;rw[ρ,yl4];have S1:=y7 (o:=(HO.lst ((nmL t).drop C.length))) hq0;have e1:upd G q (HO.lst ((nmL t).drop C.length)) q=some (HO.lst ((nmL t).drop C.length)):=ya;generalize upd G q (HO.lst ((nmL t).drop C.length))=G1 at S1 e1⊢
  have al:∀W F,Go (StO O S f j U2) G1 F (StO O S f j W)->jl K a G O ds ll d S R p2 f j lk tp n kd ps mo w P C I U2->F q=some (HO.lst ((nmL t).drop C.length)):=λW F g hG=>g.fr _ _ e1 λw=>by
   let⟨o,e⟩:=hG.lvO q w;rw[hq0]at e;cases e
  exists q,rfl,⟨_,SqL.of e1⟩,x8 (K:=K) (a:=q) (xs:=(nmL t).drop C.length) (λi σ2 F=>∃(v:Ψ)(J:Υ)(W:Ν),σ2=[some (.ref O),some (baV x),some (.ref l),v]/\jl K a F O ds ll d S R p2 f j lk tp n kd ps mo w P (t.take (C.length+i)) J W/\Go (StO O S f j U2) G1 F (StO O S f j W)/\NK G1 I J/\(V.non∈J->V.non∈I)) ?_ ?_ ?_ ?_
  .rw[Nat.add_zero,<- ah];exists none,I,U2,rfl,hG.same S1,Go.refl,.refl,id
  .rintro i σ2 F _ ⟨v,J,W,rfl,M,g,a2,a1⟩;exact SqL.of (al W F g hG)
  .rintro i z σ2 F hz ⟨v,J,W,rfl,M,g,a2,a1⟩
   have hj:C.length+i<t.length:=by
    rcases Nat.lt_or_ge (C.length+i) t.length with z|z
    .exact z
    .rw[ce (by rw[cH,ρ];omega)]at hz;cases hz
   let⟨r,Z,e3,e4,e5⟩:=hL.at' N.pz.wf hj
   obtain rfl:z=.str r.nm:=by
    rw[List.getElem?_drop,ã,bR,bn,bg hj,e3]at hz;cases hz;rfl
   have aa:=M.me;have ay:=M.ch.me;let⟨aw,ab⟩:=M.pz.ob r Z;ext;exists d,_,rfl,M.pz.get Z,?_;ext;have ag:=M.pz.sz r Z;have hb:=M.wm;have hm:=yjy (L:=t.take (C.length+i)) (w:=w) (λy hy=>(hL.sz N.pz y (cG hy)).2) hb.2 (by rw[bH];omega);have an:=M.mo1;have aA:=yd2 (n:=n) (kd:=kd) (ps:=ps) (pre:=Ú ((t.take (C.length+i)).map (·.2))) (ts:=r.tx) M.n1 M.n6 (jn _) (by omega);exists S,R,p2,f,j,n,kd,ps,t.take (C.length+i),J,mOf (t.take (C.length+i)),W,r.dl,r.nm,r.tx,[],mo,rfl,M.ch,by rw[bH];omega,ag.1,?_,λw=>M.nw r.dl (.inr (.inr (.inr ⟨r,Z,.inr rfl⟩))) (.inr (.inr (.inr w))),(λb hb=>by cases hb),by rw[cO];omega,by omega,an,by omega,λq3 U4 F2 af X g2=>?_
   .rw[cO,<- e4];exact ab
   rw[<- yek,<- e3,<- bK hj]at X;let⟨h4,g4⟩:=M.go X g2 ⟨_,e5⟩;ext;exists _,_,U4,rfl,h4,g.trans g4,a2.app (λq e=>by cases e;exact g.free af),λz=>a1 ((bO.mp z).elim id λy=>by cases bE.mp y)
  .rintro σ2 F ⟨v,J,W,rfl,M,g,a2,a1⟩;rw[cH,ρ,Nat.add_sub_cancel' ak,bY]at M;have aa:=M.me;ext;exact k S R p2 f j J W F M (go.trans (g.ahead S1)) (aq.trans a2 λq e=>go.free (S1.free e)) λz=>ai (a1 z)
def Ä.lvW{H:Hp}{c ll:x0}{n:Nat}{kd:Ξ}{ps:Λ}{ks:Υ}{M:Nat}{W:Ν}(h:Ä K a H c dc p ll tl n kd ps L ks M W):∀x,StW c ll tl W x->∃o,H x=some o:=λx b=>by
 rcases b with z|z|z|z
 .exists _,by rw[z];exact h.me
 .exists _,by rw[z];exact h.hl
 .exists _,by rw[z];exact h.ht
 .exact h.fz.live x z
def Ä.butM{H H':Hp}{c ll:x0}{n:Nat}{kd:Ξ}{ps:Λ}{ks:Υ}{M:Nat}{W:Ν}(h:Ä K a H c dc p ll tl n kd ps L ks M W){o:HO}(hq:H q=some o)(ho:ywi o=true)(nq:¬StW c ll tl W q)(B:But q H H'):Ä K a H' c dc p ll tl n kd ps L ks M W:=by
 have b:∀{x:x0}{d:Υ},H x=some (.lst d)->x≠q:=λ{x d}e z=>by rw[z,hq]at e;cases e;cases ho
 exists B _ _ h.me λz=>nq (.inl z.symm),h.fz.frame (W2:=λx=>x=q) (λx z=>⟨o,by rw[show x=q from z];exact hq,.inl ho⟩) (λx w z=>nq (.inr (.inr (.inr (by rw[<- show x=q from z];exact w))))) (λx o e g=>B x o e g),B _ _ h.hl (b h.hl),B _ _ h.ht (b h.ht),h.tx.mono λx d e f=>⟨B _ _ e (b e),f⟩,h.nc,h.nll,h.ntl,h.ne
def To.more{P:qi Pc}{q:Pc}{x:Φ}(h:To P x L):To (P++[q]) x L:=by
 cases x with
 |none=>exact h
 |some b =>
  let⟨r,a,e⟩:=h;exists r,List.mem_append_left _ a,e
section
variable{H H1 H2 H3:Hp}{st ll d c ct:x0}{lk:Μ}{n:Nat}{kd:Ξ}{ps:Λ}{mo w:Nat}{P:qi Pc}{ks ks':Υ}
def jl.put(h:jl K a H st ds ll d c dc p cl ct lk tp n kd ps mo w P L ks U){b:Str}{x:Φ}{r ob od:x0}(hc:Ä K a H1 c dc p cl ct n kd ps (L++[(b,ts)]) ks' (mOf L+6*(dec ts).length) U')(g:Go (ChW cl ct U) H H1 (ChW cl ct U'))(hr0:H r=none)(hr:H1 r=some (.lst ((δ n kd ps (Ú (L.map (·.2))) ts).map V.int)))(hob0:H1 ob=none)(S:yv H1 H2)(hob:H2 ob=some (.ins a.A8 od (Ģ (baV x) (.ref r))))
  (hL:To P x L) (hL6:L.length<=60) (hts:Sgs ts) (htz:ts.length<=w) (hb1:nmS b=true) (hb2:PyData.strOk b=true) (hno:∀q,q∈P->q.nm≠b) (hP:P.length<60):
  jl K a (upd H2 d (.dK (pcs (P++[⟨b,x,L,ts,ob,od,r⟩])))) st ds ll d c dc p cl ct lk tp n kd ps mo w (P++[⟨b,x,L,ts,ob,od,r⟩]) (L++[(b,ts)]) ks' U'/\Go (λy=>y=d\/StO st c cl ct U y) H (upd H2 d (.dK (pcs (P++[⟨b,x,L,ts,ob,od,r⟩])))) (λy=>y=d\/StO st c cl ct U' y):=by
 have g1:Go (StW c cl ct U) H H1 (StW c cl ct U'):=g.or (Y:=λx=>x=c);have f:∀x o,H x=some o->(x=st\/x=ll\/x=d\/∃q,q∈P/\(x=q.ob\/x=q.dl))->H2 x=some o:=λx o e D=>S _ _ (g1.fr x o e (h.nw x D));have k:=f _ _ h.me (.inl rfl);have l:=f _ _ h.lo (.inr (.inl rfl));have j:=f _ _ h.pz.dk (.inr (.inr (.inl rfl)));have u:=g1.apart (λx D=>h.lv x D) h.nw;have t:ux H2 n lk kd tp ps:=h.row.fr λx I e=>S _ _ (g1.fr _ _ e (h.ch.noTup e));have A:Ä K a H2 c dc p cl ct n kd ps (L++[(b,ts)]) ks' (mOf (L++[(b,ts)])) U':=by rw[yek];exact hc.same S
 have C:¬StW c cl ct U' ob:=λz=>by
  let⟨o,e⟩:=hc.lvW ob z;rw[hob0]at e;cases e
 have G:¬StW c cl ct U' r:=λz=>by
  rcases z with z|z|z|z
  .rw[z,h.ch.me]at hr0;cases hr0
  .rw[z,h.ch.hl]at hr0;cases hr0
  .rw[z,h.ch.ht]at hr0;cases hr0
  .exact hc.fz.sh.ints hr (ymp h.n1 h.n6 (jn _)) z
 exists⟨yf (λz=>by rw[z,j]at k;cases k) k,h.n1,h.n6,yf (λz=>by rw[z,j]at l;cases l) l,t.fr λx I e=>yf (λz=>by rw[z,j]at e;cases e) e,⟨ya,λq i=>?_,?_,λq i=>?_,λq i=>?_,?_,λq i=>?_⟩,A.butM j rfl (u d (.inr (.inr (.inl rfl)))) But.upd,λy s=>?_,h.mo1,h.wm,⟨some b,_,bS _ (bE.mpr rfl),rfl,rfl⟩⟩,⟨λy o e E=>?_,λy z=>?_,λy o e=>?_⟩
 .rcases bO.mp i with z|z
  .have B:=f _ _ (h.pz.ob q z).1 (.inr (.inr (.inr ⟨q,z,.inl rfl⟩)));have m:=f _ _ (h.pz.ob q z).2 (.inr (.inr (.inr ⟨q,z,.inr rfl⟩)));exists yf (λz=>by rw[z,j]at B;cases B) B,yf (λz=>by rw[z,j]at m;cases m) m
  .obtain rfl:=bE.mp z;have m:=S _ _ hr;exists yf (λz=>by rw[show ob=d from z,j]at hob;cases hob) hob,yf (λz=>by rw[show r=d from z,j]at m;cases m) m
 .rw[bF];refine List.nodup_append.mpr ⟨h.pz.nd,(by simp),λy s z F e=>?_⟩;let⟨q,i,rfl⟩:=bq.mp s;rw[List.map_singleton,bE]at F;exact hno q i (e.trans F)
 .rcases bO.mp i with z|z
  .exact(h.pz.wf q z).more
  .obtain rfl:=bE.mp z;exact hL.more
 .rcases bO.mp i with z|z
  .exact h.pz.sz q z
  .obtain rfl:=bE.mp z;exists hts,htz,hL6,λy s=>hL.sz h.pz y s
 .rw[bp,ci];omega
 .rcases bO.mp i with z|z
  .exact h.pz.nm q z
  .obtain rfl:=bE.mp z;exists hb1,hb2
 .rcases s with z|z|z|⟨q,i,z⟩
  .exact u y (.inl z)
  .exact u y (.inr (.inl z))
  .exact u y (.inr (.inr (.inl z)))
  .rcases bO.mp i with v|v
   .exact u y (.inr (.inr (.inr ⟨q,v,z⟩)))
   .obtain rfl:=bE.mp v;rcases z with z|z
    .rw[z];exact C
    .rw[z];exact G
 .exact yf (λz=>E (.inl z)) (S _ _ (g1.fr y o e λz=>E (.inr (.inr z))))
 .rcases z with z|z|z
  .exact .inl (.inl z)
  .exact .inl (.inr (.inl z))
  .exact(g1.nw y z).imp (λz=>.inr (.inr z)) id
 .obtain⟨M,J⟩:=g1.lv y o e;by_cases z:y=d
  .exists _,by rw[z];exact ya
  .exists M,yf z (S _ _ J)
end
#synth yko ["self","name","text","base","signs","data"] ["self","name","text","base"] ygr
inductive ykw(K:xr)(a:Ads)(vs:Υ)(H:Hp)(Q:VK)(E:XK):Prop
 | mk(st ds ll d c dc p cl ct:x0)(lk tp:Μ)(n:Nat)(kd:Ξ)(ps:Λ)(mo w:Nat)(P:qi Pc)(L:Η)(ks:Υ)(U:Ν)(b:Str)(x:Φ)(tx:x0)(ts:Ρ)(_:vs=[.ref st,.str b,.ref tx,baV x])(_:jl K a H st ds ll d c dc p cl ct lk tp n kd ps mo w P L ks U)(_:nmS b=true)(_:PyData.strOk b=true)(_:jj H tx ts 1000)(_:(∀y,x=some y->nmS y=true))(_:P.length<60)(_:(mo<ts.length->∀H',yv H H'->E (.ref a.Ai) none H'))(_:(ts.length<=mo->(∃r,r∈P/\r.nm=b)->∀H',yv H H'->E (.ref a.Aw) none H'))(_:(ts.length<=mo->(∀q,q∈P->q.nm≠b)->∀y,x=some y->(∀q,q∈P->q.nm≠y)->∀H',yv H H'->E (.ref a.A9) none H'))(_:(ts.length<=mo->(∀q,q∈P->q.nm≠b)->∀L',To P x L'->ts.length<=w/\L'.length<=60/\
 ∀(ob od dl c' dc' p' cl' ct':x0)(ks':Υ)(U':Ν)(H':Hp),jl K a H' st ds ll d c' dc' p' cl' ct' lk tp n kd ps mo w (P++[⟨b,x,L',ts,ob,od,dl⟩]) (L'++[(b,ts)]) ks' U'->H ob=none->H dl=none->Go (λy=>y=d\/StO st c cl ct U y) H H' (λy=>y=d\/StO st c' cl' ct' U' y)->NK H ks ks'->Q .non H'))
def yoo:vz P w K mg Γ (CXe P w) 13 a.Da a.Ng ["self","name","text","base"] (ykw K a):=by
 exists T.Rx.okE,yko,v;let⟨N,ds,ll,d,c,dc,p,cl,ct,lk,tp,n,kd,ps,mo,w,P,L,ks,U,b,x,tx,ts,rfl,Z,R,ao,D,M,al,kL,kT,kN,k⟩:=h;have ax:=Z.me;refine yh (yw (x4 (yj9 T) v.m T.Ez yz (pa1 (pv 1)))) ?_;refine yh (yo (i:=4) yko.nd rfl (Or.inl rfl) (x4 (ygt T) v.m T.Fp yz (pa1 (pv 2)))) ?_;refine yh (yw (x4 (va7 T) v.m T.Oe yz (pa1 (pv 3)))) ?_;refine yh (yw (vh (pv 0) T.A3 T.E4.m (yod T) v.m T.E4.B .nil yz (pa1 (pv 4)))) ?_;refine yh (yw (vh (pv 0) T.A3 T.I1.m (yzm T) v.m T.I1.B .nil yz (pac (pv 1) (pa1 (pv 3))))) ?_;refine yh (yo (i:=5) yko.nd rfl (Or.inl rfl) (xg (vh (pv 0) T.A3 T.Cc.m (ye2 T) v.m T.Cc.B .nil yz (pa1 (pv 3))) T.Ak T.Hz.m (yxt T) v.m T.Hz.B .nil v7 (pac (pv 1) (pa1 (pv 4))))) ?_;exists _,(yc (yah (zg v) (yn (pv 0) rfl) (pv 1) (Ğ T.Qp (yzd T) v.m rfl T.Qo T.F0.B .nil v7 (pac (pv 3) (pa1 (pv 5)))) rfl)),?_;exists 4,2;have ay:=Ĥ R;have F:∀y,x=some y->nmS y=true/\y.length<=8:=λy e=>⟨M y e,Ĥ (M y e)⟩;have ai:=Z.wm;have ar:=Z.mo1;ext;exists .str b,"str",rfl,.str b,(λs e=>by cases e;omega),λB H1 S1=>?_,λz=>by rw[show nmV (.str b)=nmS b from rfl,R]at z;cases z
 have g:=D.same S1;ext;exists .ref tx,_,rfl,.lst g.l,.inr ⟨ts.map V.int,Ñ g.l g.s (by have:=g.z;omega),λsg H2 a9 a0 S2=>?_⟩;ext
 have W:∃nt,ue K H2 (baV x) (.type nt):=by
  cases x with
  |none=>exists _,.non
  |some y=>exists _,.str y
 let⟨nt,W⟩:=W
 have ah:baV x=.non\/nmV (baV x)=true:=by
  cases x with
  |none=>exact .inl rfl
  |some y=>exact .inr (F y rfl).1
 exists baV x,nt,rfl,W,(λs e=>?_),λB H3 S3=>?_,λz1 z2=>absurd ah λz=>z.elim z1 λz=>by rw[z2]at z;cases z
 .cases x with
  |none=>cases e
  |some y=>cases e;have:=(F _ rfl).2;omega
 have j:=S1.trans (S2.trans S3);have a4:=Z.same j;have J:=a4.me;have G:=S3 _ _ a0;ext;exists N,ds,sg,_,_,_,mo,_,rfl,J,G,λt=>?_,λz=>kL (by rw[be]at z;omega) _ j;have t:ts.length<=mo:=by rw[be]at t;omega
 ext;exists N,ds,d,_,_,_,n,kd,ps,w,P,b,x,rfl,J,a4.pz,(λy e=>⟨(F y e).1,by have:=(F y e).2;omega⟩),(λhx=>kT t hx _ j),λC=>⟨λy e ak H4 S4=>kN t C y e ak _ (j.trans S4),λL' hL=>⟨λz=>absurd z (by omega),λB H4 S4=>?_⟩⟩;let⟨af,ag,k⟩:=k t C L' hL;have u:=j.trans S4;have a5:=Z.same u;have aq:=a5.me;have I:=S4 _ _ G;ext;exists N,ds,ll,d,c,dc,p,cl,ct,lk,tp,n,kd,ps,mo,w,P,L,ks,U,x,L',rfl,a5,hL,λc' aa p' S X aj U' H5 O g5 ae B=>?_;have az:=O.ch.me
 have a8:¬StO N c cl ct U sg:=λz=>by
  let⟨o,e⟩:=Z.lvO sg z;rw[S1.free a9]at e;cases e
 have a3:=g5.fr _ _ I a8;have a7:¬StO N c' S X U' sg:=λz=>(g5.nw sg z).elim a8 λe=>by rw[I]at e;cases e
 have hm:=yjy (L:=L') (w:=w) (λy hy=>(hL.sz Z.pz y hy).2) ai.2 (by omega);have av:=xm ts;have aw:=D.z;ext;exists c',aa,p',S,X,n,kd,ps,L',aj,mOf L',U',sg,b,ts,rfl,O.ch,by omega,⟨a3,D.s,by omega⟩,λz=>a7 (.inr (.inr (.inr (.inr z)))),by omega,λr U6 H6 a2 ap ab g6=>?_
 have ad:=g6.fr _ _ O.me λz=>O.nw N (.inl rfl) (.inr z);have ac:=g6.fr _ _ O.pz.dk λz=>O.nw d (.inr (.inr (.inl rfl))) (.inr z);ext;intro ob od f a6 au;have SQ:yv H6 (upd (upd H6 od (.own ob)) ob (.ins a.A8 od [])):=λb o e=>by rw[yk (yb e f),yk (yb e a6)];exact e
 exists ob,od,baV x,.ref r,rfl,ya,λH7 a1 B7=>⟨rfl,?_⟩;have S7:yv H6 H7:=λy o e=>B7 _ _ (SQ _ _ e) (yb e f);have as:=S7 _ _ ad;ext;exists d,_,rfl,yla.k (k:=.inr b) (S7 _ _ ac) (ve (by unfold pcs;rw[be];omega)),?_;rw[Ò _ (yn4 C)];let⟨z1,z2⟩:=O.put (x:=x) ab g6 a2 ap f S7 a1 hL ag D.s af R ao C al;have e8:pcs (P++[⟨b,x,L',ts,ob,od,r⟩])=pcs P++[(.inr b,.ref ob)]:=by unfold pcs;rw[bF];rfl
 rw[e8]at z1 z2;have an:∀{y:x0},H6 y=none->H y=none:=λ{y}e=>u.free (g5.free (g6.free e))
 exact k ob od r c' aa p' S X _ U6 _ z1 (an f) (u.free (g5.free a2)) (((g5.ahead u).or (Y:=λy=>y=d)).trans z2) ((NK.refl.trans ae λB e=>u.free e).app λq e=>nomatch e)
def Sto.putE{H:Hp}{st:x0}{C:Cf}{P:qi Pd}{X:Sx}{Q:VK}{E:XK}(h:Sto K a H st C P X){b:Str}{x:Φ}{tx:x0}(hb:okN b)(htx:jj H tx ts 1000)(hx:∀y,x=some y->nmS y=true)(hP:P.length<60)
  (kL:C.mo<ts.length->∀H',yv H H'->E (.ref a.Ai) none H') (kT:ts.length<=C.mo->(∃r,r∈P/\r.nm=b)->∀H',yv H H'->E (.ref a.Aw) none H') (kN:ts.length<=C.mo->(∀q,q∈P->q.nm≠b)->∀y,x=some y->(∀q,q∈P->q.nm≠y)->∀H',yv H H'->E (.ref a.A9) none H')
  (k:ts.length<=C.mo->(∀q,q∈P->q.nm≠b)->∀L,ToD P x L->ts.length<=C.w/\L.length<=60/\∀Y H',Sto K a H' st C (P++[⟨b,x,L,ts⟩]) Y->Gx X H H' Y->Q .non H'):ykw K a [.ref st,.str b,.ref tx,baV x] H Q E:=by
 let⟨G,F,d,c,dc,p,cl,ct,J,I,o,S,ks,U,s,rfl,rfl⟩:=h;rw[be]at hP
 have A:∀{z:Str},(∀q,q∈o->q.nm≠z)->∀q,q∈o.map Pc.pd->q.nm≠z:=λ{z}hz q l=>by
  let⟨u,hu,rfl⟩:=bq.mp l;exact hz u hu
 exists st,G,F,d,c,dc,p,cl,ct,J,I,C.n,C.kd,C.ps,C.mo,C.w,o,S,ks,U,b,x,tx,ts,rfl,s,hb.1,hb.2,htx,hx,hP,kL,(λf ⟨r,N,e⟩=>kT f ⟨r.pd,bq.mpr ⟨r,N,rfl⟩,e⟩),(λf m y e h3=>kN f (A m) y e (A h3)),λf m L M=>?_;let⟨O,k2,k⟩:=k f (A m) L (Ġ.mpr M);exists O,k2,λob od dl R D p' j B v Z H' T i t g nk=>k _ H' ⟨G,F,d,R,D,p',j,B,J,I,_,_,v,Z,T,by rw[bF];rfl,rfl⟩ (Gx.of g nk λq l=>?_);rcases bO.mp l with z|z
 .exact .inl z
 .rw[bE.mp z];exact .inr ⟨i,t⟩
def Sto.put{H:Hp}{st:x0}{C:Cf}{P:qi Pd}{X:Sx}{Q:VK}{E:XK}(h:Sto K a H st C P X){b:Str}{x:Φ}{tx:x0}(hb:okN b)(htx:jj H tx ts C.w)(hL:ToD P x L)(hno:∀q,q∈P->q.nm≠b)(hP:P.length<60)
  (k:∀Y H',Sto K a H' st C (P++[⟨b,x,L,ts⟩]) Y->Gx X H H' Y->Q .non H'):ykw K a [.ref st,.str b,.ref tx,baV x] H Q E:=by
 have j:=h.cf;have i:=htx.z
 have d:∀y,x=some y->∃r,r∈P/\r.nm=y:=λy e=>by
  subst e;let⟨r,c,e,_⟩:=hL;exact⟨r,c,e⟩
 refine h.putE hb ⟨htx.l,htx.s,by omega⟩ (λy e=>?_) hP (λz=>absurd z (by omega)) (λZ ⟨r,c,e⟩=>absurd e (hno r c)) (λZ Z y e g=>?_) λZ Z m f=>⟨i,?_,?_⟩
 .obtain⟨r,c,e⟩:=d y e;rw[<- e];exact(h.nm r c).1
 .obtain⟨r,c,e⟩:=d y e;exact absurd e (g r c)
 .have:=f.len h.pw;omega
 .rw[ToD.uniq h.nd f hL];exact k
theorem yb7.get{H:Hp}:∀{L:Η}{ks:Υ},yb7 H U L ks->∀{j:Nat}(hj:j<L.length),∃k,ks[j]?=some k/\(k=.non\/∃q,k=.ref q/\H q=some (.lst (L[j].2.map V.int))/\¬U q)
 |[],_,_,j,hj=>absurd hj (bI j)
 |x::r,_,⟨k,ks',e,z,h⟩,0,hj=>⟨k,by rw[e];rfl,z⟩
 |x::r,_,⟨k,ks',e,z,h⟩,j+1,hj=>by
  let⟨b,a,c⟩:=h.get (Nat.lt_of_succ_lt_succ hj);exists b,by rw[e,List.getElem?_cons_succ];exact a,c
#synth yp7 ["self","name","links"] ["self","name"] yuj
inductive ygm(K:xr)(a:Ads)(vs:Υ)(H:Hp)(Q:VK)(E':XK):Prop
 |mk(st ds ll d c dc p cl ct:x0)(lk tp:Μ)(n:Nat)(kd:Ξ)(ps:Λ)(mo w:Nat)(P:qi Pc)(L:Η)(ks:Υ)(U:Ν)(x:Φ)(L':Η)(_:vs=[.ref st,baV x])(_:jl K a H st ds ll d c dc p cl ct lk tp n kd ps mo w P L ks U)(_:To P x L')(_:∀(c' dc' p' cl' ct':x0)(L2:Η)(ks':Υ)(U':Ν)(r:x0)(cx:Μ)(H1 H':Hp),jl K a H1 st ds ll d c' dc' p' cl' ct' lk tp n kd ps mo w P L2 ks' U'->Go (StO st c cl ct U) H H1 (StO st c' cl' ct' U')->NK H ks ks'->yv H1 H'->H1 r=none->H' r=some (.lst (refs cx L'.length))->(∀i,i<L'.length->H1 (cx i)=none/\cx i≠r/\H' (cx i)=some (.lst ((txi L' i).map V.int)))->Q (.ref r) H')
def yys:vz P w K mg Γ (CXe P w) 13 a.Kr a.Nm ["self","name"] (ygm K a):=by
 exists T.I2.F.okE,yp7,hr;let⟨I,ds,ll,d,c,dc,p,cl,ct,lk,tp,n,kd,ps,mo,w,P,L,ks,U,x,g,rfl,W,hL,k⟩:=h;have ag:=W.me;refine yh (yo (i:=2) yp7.nd rfl (Or.inl rfl) (xg (pv 0) T.A3 T.E5.m (yo4 T) hr.m T.E5.B .nil v7 (pa1 (pv 1)))) ?_;refine yh (jx (wa (yr (va4 hr.units) zf (ub jr (yn (yn (pv 0) rfl) rfl) uv (uk (pcB yp T.Aa (pa1 (pv 2))))) (by with_unfolding_all rfl)) (yc (y9 (pv 0) (ua T.De (ye1 T) hr.m rfl T.Dd T.Cv.B .nil yz (pa1 (yn (pv 0) rfl))) rfl)) y6)) ?_;refine yh (jx (wa (yr (Õ hr.units) (ub jr (yn (yn (pv 0) rfl) rfl) uv (uk (pcB yp T.Aa (pa1 (pv 2))))) (pv 2) (yx _)) (yc (yw (vh (pv 0) T.A3 T.Cc.m (ye2 T) hr.m T.Cc.B .nil yz (pa1 (pv 1))))) y6)) ?_;exists 2,1,yc (yq (wb (js:=[]) (ys:=[]) rfl (vx (ub jr (yn (yn (pv 0) rfl) rfl) uv (uk (pcB yp T.Aa (pa1 (pv 2)))))) (λC s2 H2 fp=>(pcT (r:=yqz K) w6 T.Af (pa1 (pv 0)))) rfl rfl (hyc:=yt) (hrel:=yt)));exists I,ds,d,_,_,_,n,kd,ps,w,P,x,g,rfl,ag,W.pz,hL,λl H1 aq ab S1=>?_;have aD:=S1 _ _ ag;have a4:=W.same S1;have aJ:=a4.ch.me;have aC:=a4.ch.hl;have a8:=a4.ch.ht;have aA:=To.len W.pz hL;ext;exists λσ2 G=>∃(c2 a0 p2 M O:x0)(J:Υ)(U2:Ν)(L2:Η),σ2=[some (.ref I),some (baV x),some (.ref l)]/\jl K a G I ds ll d c2 a0 p2 M O lk tp n kd ps mo w P L2 J U2/\Go (StO I c cl ct U) H G (StO I c2 M O U2)/\NK H ks J/\V.non∉J.take g.length/\G l=some (.lst (nmL g))/\¬StO I c2 M O U2 l,?_,?_
 .ext;refine x5 (SqL.of ab) ?_;ext;refine yb4 (SqL.of a8) λq hq0=>?_;rw[ρ,ja];exists hq0,H2,S2,e2;have X:=S1.trans S2;have v:=W.same X;have R:=v.me;have t:=S2 _ _ ab;exists q,_,rfl,rfl,SqL.of e2,λz hz=>(W.ch.tx.mem z (cG hz)).imp id λ⟨q,ys,e,hq,_⟩=>⟨q,ys,e,SqL.of (X _ _ hq)⟩,?_;by_cases he:(ks.take g.length).any isN=true
  .rw[he];exists true,rfl,ł ?_;ext;intro c' N nc an aI;have SQ:yv H2 (upd (upd H2 N (.own c')) c' (.ins a.A1 N [])):=λb o e=>by rw[yk (yb e nc),yk (yb e an)];exact e
   exists c',N,ll,n,lk,tp,kd,ps,rfl,ya,SQ _ _ v.lo,v.n1,v.n6,v.row.same SQ,λp' a5 a6 U' HE ap aa BE B=>⟨rfl,?_⟩;let⟨hR,gR,SE,hN⟩:=v.re nc an ap aa BE;have aB:=SE _ _ R;have al:l≠I:=λz=>by rw[z,R]at t;cases t
   ext;exists c',N,p',a5,a6,[],U',[],rfl,hR,gR.ahead X,.nil,by simp,yf al (SE _ _ t),λz=>?_
   rcases z with z|z
   .exact al z
   .rw[hN l z]at t;cases t
  .rw[Bool.eq_false_iff.mpr he];exists false,rfl,ĳ ?_;exists c,dc,p,cl,ct,ks,U,L,rfl,v,Go.refl.same X,.refl,λz=>he (cT.mpr ⟨_,z,rfl⟩),t,λz=>?_;let⟨o,e⟩:=W.lvO l z;rw[aq]at e;cases e
 .rintro σ2 G ⟨c2,a0,p2,M,O,J,U2,L2,rfl,hG,go,ak,ac,ad,ar⟩;have ay:=hG.me;have aH:=hG.ch.me;have aj:=hG.ch.hl;ext;exists λσ2 F=>∃(c3 a7 p3 Z Y:x0)(f:Υ)(U3:Ν)(L3:Η),σ2=[some (.ref I),some (baV x),some (.ref l)]/\jl K a F I ds ll d c3 a7 p3 Z Y lk tp n kd ps mo w P L3 f U3/\Go (StO I c cl ct U) H F (StO I c3 Z Y U3)/\NK H ks f/\V.non∉f.take g.length/\g=L3.take g.length/\F l=some (.lst (nmL g)),?_,?_
  .ext;refine x5 (SqL.of ad) ?_;ext;refine yb4 (SqL.of aj) λq hq0=>?_;rw[ρ,ja,ø];exists hq0,G2,S2,e2;have a3:=hG.same S2;have R:=a3.me;have t:=S2 _ _ ad;let⟨y,hy⟩:=hG.way;have a1:=t;rw[ã]at e2 a1;ext;refine yb2 _ _ (λz hz=>hy.ok W.pz z (by let⟨u,hu,rfl⟩:=bq.mp hz;exact bq.mpr ⟨u,cG hu,rfl⟩)) (hL.ok W.pz) (SqL.of e2) (SqL.of a1) ?_;by_cases he:(L2.take g.length).map (·.1)=g.map (·.1)
   .rw[br he];exists false,rfl,ĳ ?_;exists c2,a0,p2,M,O,J,U2,L2,rfl,a3,go.same S2,ak,ac,To.ahead W.pz.nd W.pz.wf hL hy (by rw[ø];exact(ypl he).symm),t
   .rw[bC he];exists true,rfl,ł ?_;ext;exists I,ds,ll,d,c2,a0,p2,M,O,lk,tp,n,kd,ps,mo,w,P,L2,J,U2,x,g,rfl,a3,hL,λc' N p' a5 a6 au U' F hC gC ax hn=>?_;ext;exists c',N,p',a5,a6,au,U',g,rfl,hC,(go.same S2).trans gC,ak.trans ax (λq e=>go.free (S2.free e)),λz=>ac (hn (cG z)),(bY).symm,gC.fr _ _ t ar
  .rintro σ2 F ⟨c3,a7,p3,Z,Y,f,U3,L3,rfl,hF,ao,aw,ae,af,as⟩;have az:=hF.me;have aE:=hF.ch.me;have a9:=hF.ch.ht
   have aF:g.length<=L3.length:=by
    have e:=congrArg List.length af;rw[bH]at e;omega
   ext;refine x5 (SqL.of as) ?_;ext;refine yb4 (SqL.of a9) λq hq0=>?_;rw[ρ,ja];have S1:=y7 (o:=(HO.lst (f.take g.length))) hq0;have e1:upd F q (HO.lst (f.take g.length)) q=some (HO.lst (f.take g.length)):=ya;generalize upd F q (HO.lst (f.take g.length))=F1 at S1 e1⊢;have aG:=hF.ch.tx.len;have a2:(f.take g.length).length=g.length:=by rw[bH];omega
   have ai:=hF.same S1;exists q,rfl,⟨_,SqL.of e1⟩,λD hD=>?_;refine ul (K:=K) (xs:=f.take g.length) (λi G=>∃cx:Μ,G D=some (.lst (refs cx i))/\(∀j,j<i->F1 (cx j)=none/\G (cx j)=some (.lst ((txi g j).map V.int))/\cx j≠D)/\yv F1 G)
    ⟨λB=>0,ya,λj hj=>absurd hj (bI j),y7 hD⟩ (λi G B ⟨_,_,_,S⟩=>SqL.of (S _ _ e1)) (λi y G hy hi z=>?_) (λG z=>?_)
   .obtain⟨cx,gD,gC,S⟩:=z;rw[a2]at hi;let⟨k',ek,hk⟩:=ai.ch.tx.get (j:=i) (by omega);rw[List.getElem?_take,if_pos hi,ek]at hy;obtain rfl:k'=y:=by cases hy;rfl
    rcases hk with z|⟨q2,rfl,ah,_⟩
    .refine absurd ?_ ae;rw[<- z];exact bA (i:=i) (by rw[List.getElem?_take,if_pos hi];exact ek)
    have et:L3[i].2=txi g i:=by
     have e:=congrArg (λl=>l[i]?) af;simp only[List.getElem?_take]at e;rw[if_pos hi]at e;unfold txi;rw[cj,bn,e,bg (by omega)];rfl
    rw[et]at ah;ext;exists q2,_,rfl,.inl (SqL.of (S _ _ ah)),λc hc0=>?_;have nc:c≠D:=(yb gD hc0).symm;exists hc0,G2,S2,hc2;refine we (n:=(f.take g.length).length) (S2 _ _ gD) (ve (by rw[vt];omega)) (by omega) ?_;exists upN cx i c,?_,λj hj=>?_,λb o e=>yf (yb e hD) (S2 _ _ (S b o e))
    .rw[ya,x6,wo]
     congr 3
     exact xx λj hj=>(wj hj).symm
    .by_cases z:j=i
     .rw[z,wo];exists S.free hc0,yf nc hc2,nc
     .have am:j<i:=by omega
      rw[wj am];let⟨g1,g2,g3⟩:=gC j am;exists g1,yf g3 (S2 _ _ g2),g3
   .obtain⟨cx,gD,gC,S⟩:=z;rw[a2]at gD gC;exact k c3 a7 p3 Z Y L3 f U3 D cx F1 G ai (ao.same S1) aw S hD gD λi hi=>⟨(gC i hi).1,(gC i hi).2.2,(gC i hi).2.1⟩
#synth yyh ["self","name"] yum
inductive ě(K:xr)(a:Ads)(vs:Υ)(H:Hp)(Q:VK)(E:XK):Prop
 | mk(st ds ll d c dc p cl ct:x0)(lk tp:Μ)(n:Nat)(kd:Ξ)(ps:Λ)(mo w:Nat)(P:qi Pc)(L:Η)(ks:Υ)(U:Ν)(x:V)(nt:String)(_:vs=[.ref st,x])(_:jl K a H st ds ll d c dc p cl ct lk tp n kd ps mo w P L ks U)(_:ue K H x (.type nt))(_:(∀s,x=.str s->s.length<=100000))(_:(nmV x=false->∀H',yv H H'->E (.ref a.Ah) none H'))(_:(∀b,x=.str b->nmS b=true->(∀q,q∈P->q.nm≠b)->∀H',yv H H'->E (.ref a.A9) none H'))(_:(∀r,r∈P->x=.str r.nm ->
 ∀(c' dc' p' cl' ct':x0)(L2:Η)(ks':Υ)(U':Ν)(q:x0)(H1 H':Hp),jl K a H1 st ds ll d c' dc' p' cl' ct' lk tp n kd ps mo w P L2 ks' U'->Go (StO st c cl ct U) H H1 (StO st c' cl' ct' U')->NK H ks ks'->yv H1 H'->H1 q=none->H' q=some (.lst (r.tx.map V.int))->Q (.ref q) H'))
def yoa:vz P w K mg Γ (CXe P w) 14 a.Ks a.Nn ["self","name"] (ě K a):=by
 exists T.E6.F.okE,yyh,J;let⟨o,i,M,d,c,R,p,X,S,W,N,n,z,u,mo,w,P,L,Y,U,x,O,rfl,q,ty,hz,k1,k2,k3⟩:=h;have t:=q.me;exists 2,0,ye (yw (vh (pv 0) T.A3 T.Cb.m (yez T) J.m T.Cb.B .nil yz (pa1 (pv 1)))) (yc (yq (xi xl (vh (pv 0) T.A3 T.I2.m (yys T) J.m T.I2.B .nil yz (pa1 (pv 1))) (vcp yo0 yg) (λF F=>rfl))));exists o,i,d,_,_,_,n,z,u,w,P,x,O,rfl,t,q.pz,ty,hz,k1,k2,λr f e hb H1 k=>?_;subst e;have b:=q.same k;have Z:=b.me;ext;exists o,i,M,d,c,R,p,X,S,W,N,n,z,u,mo,w,P,L,Y,U,some r.nm,r.path++[(r.nm,r.tx)],rfl,b,⟨r,f,rfl,rfl⟩,λc' I p' j G L2 y U' l cx HB H2 h2 g2 nk SB a1 C D=>?_;ext;let⟨f1,f2,f3⟩:=D r.path.length (by rw[bp,ci];omega);refine jy (v:=.ref (cx r.path.length)) (SqL.of C) ?_ ?_
 .rw[bp,ci,x6];exact yno _ _
 .ext;refine k3 r f rfl c' I p' j G L2 y U' _ HB H2 h2 (g2.ahead k) (NK.refl.trans nk λF e=>k.free e) SB f1 ?_;rw[f3];unfold txi;simp
def Sto.textof1{H:Hp}{st:x0}{C:Cf}{P:qi Pd}{X:Sx}{Q:VK}{E:XK}(h:Sto K a H st C P X){b:Str}(hb:nmS b=true)(k1:(∀q,q∈P->q.nm≠b)->∀H',yv H H'->E (.ref a.A9) none H')
  (k2:∀r,r∈P->r.nm=b->∀Y q H1 H',Sto K a H1 st C P Y->Gx X H H1 Y->yv H1 H'->H1 q=none->H' q=some (.lst (r.tx.map V.int))->Q (.ref q) H'):ě K a [.ref st,.str b] H Q E:=by
 let⟨v,t,d,c,L,p,Z,O,B,A,R,F,ks,U,s,rfl,rfl⟩:=h;have M:=Ĥ hb;exists st,v,t,d,c,L,p,Z,O,B,A,C.n,C.kd,C.ps,C.mo,C.w,R,F,ks,U,.str b,"str",rfl,s,.str _,(λx e=>by cases e;omega),(λz=>by rw[show nmV (.str b)=nmS b from rfl,hb]at z;cases z),(λb' e W m=>?_),λr D e c' o J i k L2 l I q H1 H' G g T S j f=>?_
 .cases e;refine k1 λq f=>?_;let⟨u,N,rfl⟩:=bq.mp f;exact m u N
 .cases e;exact k2 r.pd (bq.mpr ⟨r,D,rfl⟩) rfl _ q H1 H' ⟨v,t,d,c',o,J,i,k,B,A,_,_,l,I,G,rfl,rfl⟩ (Gx.of (g.or (Y:=λy=>y=d)) T λq f=>.inl f) S j f
def Sto.textof{H:Hp}{st:x0}{C:Cf}{P:qi Pd}{X:Sx}{Q:VK}{E:XK}(h:Sto K a H st C P X){b:Str}(hb:nmS b=true)(k1:(∀q,q∈P->q.nm≠b)->∀H',yv H H'->E (.ref a.A9) none H')
  (k2:∀r,r∈P->r.nm=b->∀Y q H',Sto K a H' st C P Y->Gx X H H' Y->H q=none->Kf H' Y q (.lst (r.tx.map V.int))->Q (.ref q) H'):ě K a [.ref st,.str b] H Q E :=
 h.textof1 hb k1 λr f e Y q j H' d g1 S c i=>k2 r f e Y q H' (d.same S) (g1.same S) (g1.g.free c) (Kf.new d c i)
#synth vbo ["self","name"] yug
inductive Ņ(K:xr)(a:Ads)(vs:Υ)(H:Hp)(Q:VK)(E:XK):Prop
 |mk(st ds d:x0)(vl vm vc:V)(n:Nat)(kd:Ξ)(ps:Λ)(w:Nat)(P:qi Pc)(x:V)(nt:String)(_:vs=[.ref st,x])(_:H st=some (.ins a.A0 ds (xj vl vm (.ref d) vc)))(_:yap a H d n kd ps w P)(_:ue K H x (.type nt))(_:(∀s,x=.str s->s.length<=100000))(_:(nmV x=false->∀H',yv H H'->E (.ref a.Ah) none H'))(_:(∀b,x=.str b->nmS b=true->(∀q,q∈P->q.nm≠b)->∀H',yv H H'->E (.ref a.A9) none H'))(_:(∀r,r∈P->x=.str r.nm->nmS r.nm=true->∀l H',H l=none->H' l=some (.lst ((r.by n kd ps).map V.int))->yv H H'->Q (.ref l) H'))
def ye4:vz P w K mg Γ (CXe P w) 4 a.Kt a.No ["self","name"] (Ņ K a):=by exists T.Cd.F.okE,vbo,C;let⟨o,k,d,v,z,p,n,y,u,w,P,x,t,rfl,i,q,G,N,J,R,M⟩:=h;exists 2,0,yc (yq (pcT w6 T.Af (pa1 (yn (vh (pv 0) T.A3 T.Cb.m (yez T) C.m T.Cb.B .nil yz (pa1 (pv 1))) rfl))));exists o,k,d,v,z,p,n,y,u,w,P,x,t,rfl,i,q,G,N,J,R,λr c e L S g=>?_;let⟨I,j⟩:=(q.same g).ob r c;ext;exists r.dl,_,rfl,.inl (SqL.of j),λl b=>?_;exact M r c e L l _ (g.free b) ya (g.trans (y7 b))
def Sto.bytesof{H:Hp}{st:x0}{C:Cf}{P:qi Pd}{X:Sx}{Q:VK}{E:XK}(h:Sto K a H st C P X){b:Str}(hb:nmS b=true)(k1:(∀q,q∈P->q.nm≠b)->∀H',yv H H'->E (.ref a.A9) none H')
  (k2:∀r,r∈P->r.nm=b->∀l H',H l=none->H' l=some (.lst ((r.by C).map V.int))->yv H H'->Q (.ref l) H'):Ņ K a [.ref st,.str b] H Q E:=by
 let⟨v,A,d,c,G,p,y,J,L,B,g,D,F,U,s,rfl,rfl⟩:=h;have m:=Ĥ hb;exists st,v,d,_,_,_,C.n,C.kd,C.ps,C.w,g,.str b,"str",rfl,s.me,s.pz,.str _,(λx e=>by cases e;omega),(λz=>by rw[show nmV (.str b)=nmS b from rfl,hb]at z;cases z),(λI e Z f=>?_),λr i e Z l H' j o S=>?_
 .cases e;refine k1 λq k=>?_;let⟨u,t,rfl⟩:=bq.mp k;exact f u t
 .cases e;exact k2 r.pd (bq.mpr ⟨r,i,rfl⟩) rfl l H' j o S
def yxr(x:Φ)(b:Str):vex (baV x) (.str b)=true/\decide (baV x=.str b)=decide (x=some b):=by
 cases x with
 |none=>exists rfl,by rw[bC (λz=>nomatch z),bC (λz=>nomatch z)]
 |some y =>
  exists rfl,?_;by_cases e:y=b
  .rw[br (by rw[e];rfl),br (by rw[e])]
  .rw[bC (λz=>e (by cases z;rfl)),bC (λz=>e (by cases z;rfl))]
#synth yxi ["self","name"] yvn
inductive yiw(K:xr)(a:Ads)(vs:Υ)(H:Hp)(Q:VK)(E:XK):Prop
 | mk(st ds ll d c dc p cl ct:x0)(lk tp:Μ)(n:Nat)(kd:Ξ)(ps:Λ)(mo w:Nat)(P:qi Pc)(L:Η)(ks:Υ)(U:Ν)(x:V)(nt:String)(_:vs=[.ref st,x])(_:jl K a H st ds ll d c dc p cl ct lk tp n kd ps mo w P L ks U)(_:ue K H x (.type nt))(_:(∀s,x=.str s->s.length<=100000))(_:(nmV x=false->∀H',yv H H'->E (.ref a.Ah) none H'))(_:(∀b,x=.str b->nmS b=true->(∀q,q∈P->q.nm≠b)->∀H',yv H H'->E (.ref a.A9) none H'))(_:(∀r,r∈P->x=.str r.nm->(∃q,q∈P/\q.bs=some r.nm)->∀H',yv H H'->E (.ref a.B9) none H'))(_:(∀r,r∈P->x=.str r.nm->(∀q,q∈P->q.bs≠some r.nm) ->
 ∀(c' dc' p' cl' ct':x0)(U':Ν)(H':Hp),jl K a H' st ds ll d c' dc' p' cl' ct' lk tp n kd ps mo w (P.filter λq=>decide (q.nm≠r.nm)) [] [] U'->Go (λy=>y=d\/StO st c cl ct U y) H H' (λy=>y=d\/StO st c' cl' ct' U' y)->Q .non H'))
def ypg:vz P w K mg Γ (CXe P w) 10 a.Ku a.Np ["self","name"] (yiw K a):=by
 exists T.E7.F.okE,yxi,hr;let⟨st,ds,ll,d,c,dc,p,cl,ct,lk,tp,n,kd,ps,mo,w,P,L,ks,U,x,nt,rfl,hS,ty,hz,k1,k2,k3,k4⟩:=h;have a1:=hS.me;exists 2,0,ye (yw (vh (pv 0) T.A3 T.Cb.m (yez T) hr.m T.Cb.B .nil yz (pa1 (pv 1)))) (ye (wa (xo (pcB (yl6 rfl) T.Pn (pa1 (yjl (wb (js:=[1]) (ys:=["name"]) rfl (yjg (yn (pv 0) rfl)) (λC s2 H2 fp=>(xv xq (yc7 (K:=K) rfl (pv 0) rfl) (pv 1) (yx _))) rfl rfl (hyc:=(all_cons rfl yt)) (hrel:=(all_cons rfl yt))))))) (yc (xb rfl T.Qu T.Fx (pa1 wx))) y6) (ye (yw (yec (yn (pv 0) rfl) (pv 1) ⟨rfl,rfl,rfl,rfl⟩)) (yc (y9 (pv 0) (ua T.De (ye1 T) hr.m rfl T.Dd T.Cv.B .nil yz (pa1 (yn (pv 0) rfl))) rfl))));exists st,ds,d,_,_,_,n,kd,ps,w,P,x,nt,rfl,a1,hS.pz,ty,hz,k1,k2,λr J e hb H1 S1=>?_;subst e;have g:=hS.same S1;have a9:=g.me;ext;have j:=g.pz.dk;exists d,pcs P,rfl,j,λo D hD=>?_;have X:(pcs P).length=P.length:=be _;have aa:=g.pz.z;have a5:D≠d:=λz=>by rw[z,ya]at hD;cases hD
 refine Œ (λi G=>G D=some (.lst ((P.take i).map λq=>V.bl (decide (q.bs=some r.nm))))/\yv (upd H1 d (.frz o (.dK (pcs P)))) G) ⟨ya,y7 hD⟩ (λi G F z=>z.2 _ _ ya) (λi kk v G t hi z=>?_) (λG z=>?_)
 .obtain⟨gD,S⟩:=z;rw[X]at hi;have I:P[i]?=some P[i]:=bg hi;unfold pcs at t;rw[bn,I]at t;obtain rfl:v=.ref (P[i]).ob:=by cases t;rfl
  have l:=(g.pz.ob _ (cc hi)).1;have a6:=S _ _ (yf (λz=>by rw[z,j]at l;cases l) l);ext;let⟨b1,b2⟩:=yxr (P[i]).bs r.nm;exists b1,?_;rw[b2];refine we (n:=(pcs P).length) gD (ve (by rw[be,bH];omega)) (by omega) ⟨?_,λy o e=>yf (yb e hD) (S _ _ e)⟩;rw[ya,bK hi,bF];rfl
 .obtain⟨gD,S⟩:=z;rw[X,bY]at gD;exists d,o,.dK (pcs P),(λo u e=>by rw[j]at e;cases e),S _ _ ya,?_
  have S3:yv H1 (upd G d (.dK (pcs P))):=λy o' e=>by
   by_cases z:y=d
   .rw[z,ya];rw[z,j]at e;exact e
   .exact yf z (S _ _ (yf z e))
  have O:(upd G d (.dK (pcs P))) D=some (.lst ((P.map λq=>decide (q.bs=some r.nm)).map V.bl)):=yf a5 (by rw[gD,bR];rfl);generalize upd G d (.dK (pcs P))=H3 at S3 O⊢;have f:=g.same S3;have a7:=f.me;ext;exists D,_,rfl,SqL.of O,?_;by_cases hu:∃q,q∈P/\q.bs=some r.nm
  .have e:(P.map λq=>decide (q.bs=some r.nm)).any id=true:=by
    let⟨q,I,e⟩:=hu;exact cT.mpr ⟨true,bq.mpr ⟨q,I,br e⟩,rfl⟩
   rw[e];exists true,rfl,ł ?_;ext;exists by walk_at "len",k3 r J rfl hu _ (S1.trans S3)
  .have N:∀q,q∈P->q.bs≠some r.nm:=λq I e=>hu ⟨q,I,e⟩
   have e:(P.map λq=>decide (q.bs=some r.nm)).any id=false:=by
    rw[List.any_map,List.any_eq_false];intro q I;simpa using N q I
   rw[e];exists false,rfl,ĳ ?_;ext;exists d,rfl,.inl ⟨_,.of f.pz.dk⟩,?_;ext;exists pcs P,.inr r.nm,_,f.pz.dk,rfl,ykx f.pz.nd J,?_;have M:=f.b.drop N
   have gA:Go (λy=>y=d\/StO st c cl ct U y) H3 (upd H3 d (.dK (Ø (pcs P) (.inr r.nm)))) (λy=>y=d\/StO st c cl ct U y):=⟨λy o e no=>yf (λz=>no (.inl z)) e,λy z=>.inl z,λy o e=>by
    by_cases z:y=d
    .exists _,by rw[z];exact ya
    .exact⟨o,yf z e⟩⟩
   generalize upd H3 d (.dK (Ø (pcs P) (.inr r.nm)))=H4 at M gA⊢;have W:=M.me;ext;intro c' k nc Z ab;have SQ:yv H4 (upd (upd H4 k (.own c')) c' (.ins a.A1 k [])):=λb o e=>by rw[yk (yb e nc),yk (yb e Z)];exact e
   exists c',k,ll,n,lk,tp,kd,ps,rfl,ya,SQ _ _ M.lo,M.n1,M.n6,M.row.same SQ,λp' a2 a3 U' HE a0 R BE F=>⟨rfl,?_⟩;let⟨hR,gR,SE,hN⟩:=M.re nc Z a0 R BE;have a8:=SE _ _ W;ext;exact k4 r J rfl N c' k p' a2 a3 U' _ hR ((gA.ahead (S1.trans S3)).trans ((gR.or (Y:=λy=>y=d)).wide λy z=>z.imp id .inl))
def yhk(Q:qi Pc)(b:Str):(Q.filter λq=>decide (q.nm≠b)).map Pc.pd=(Q.map Pc.pd).filter λq=>decide (q.nm≠b):=by rw[List.filter_map];rfl
def Sto.drop{H:Hp}{st:x0}{C:Cf}{P:qi Pd}{X:Sx}{Q:VK}{E:XK}(h:Sto K a H st C P X){b:Str}(hb:nmS b=true)(k1:(∀q,q∈P->q.nm≠b)->∀H',yv H H'->E (.ref a.A9) none H')(k2:∀r,r∈P->r.nm=b->(∃q,q∈P/\q.bs=some b)->∀H',yv H H'->E (.ref a.B9) none H')
  (k3:∀r,r∈P->r.nm=b->(∀q,q∈P->q.bs≠some b)->∀Y H',Sto K a H' st C (P.filter λq=>decide (q.nm≠b)) Y->Gx X H H' Y->Q .non H'):yiw K a [.ref st,.str b] H Q E:=by
 let⟨y,v,d,c,J,p,O,M,B,A,N,D,R,U,s,rfl,rfl⟩:=h;have L:=Ĥ hb;exists st,y,v,d,c,J,p,O,M,B,A,C.n,C.kd,C.ps,C.mo,C.w,N,D,R,U,.str b,"str",rfl,s,.str _,(λx e=>by cases e;omega),(λz=>by rw[show nmV (.str b)=nmS b from rfl,hb]at z;cases z),(λT e Z o=>?_),(λr j e i=>?_),λr j e i S t I k m G H' F g=>?_
 .cases e;refine k1 λq f=>?_;let⟨u,i,rfl⟩:=bq.mp f;exact o u i
 .cases e;let⟨q,f,e⟩:=i;exact k2 r.pd (bq.mpr ⟨r,j,rfl⟩) rfl ⟨q.pd,bq.mpr ⟨q,f,rfl⟩,e⟩
 .cases e;refine k3 r.pd (bq.mpr ⟨r,j,rfl⟩) rfl (λq f=>?_) _ H' ⟨y,v,d,S,t,I,k,m,B,A,_,_,[],G,F,yhk _ _,rfl⟩ (Gx.of g NK.nil λq f=>.inl (cA.mp f).1);let⟨u,l,rfl⟩:=bq.mp f;exact i u l
def Sto.chainto{H:Hp}{st:x0}{C:Cf}{P:qi Pd}{X:Sx}{Q:VK}{E:XK}(h:Sto K a H st C P X){x:Φ}(hL:ToD P x L)
  (k:∀c dc p cl ct ks M W Y H',Sto K a H' st C P Y->Gx X H H' Y->Ä K a H' c dc p cl ct C.n C.kd C.ps L ks M W->M<=660000->Q (.ref c) H'):ŉ K a [.ref st,baV x] H Q E:=by let⟨z,l,d,c,dc,p,cl,ct,v,m,A,F,ks,U,s,rfl,rfl⟩:=h;have t:=Ġ.mp hL;exists st,z,l,d,c,dc,p,cl,ct,v,m,C.n,C.kd,C.ps,C.mo,C.w,A,F,ks,U,x,L,rfl,s,t,λo f u i b e j H' r g G Z=>k o f u i b e _ j _ H' ⟨z,l,d,o,f,u,i,b,v,m,_,_,e,j,r,rfl,rfl⟩ (Gx.of (g.or (Y:=λy=>y=d)) G λq D=>.inl D) r.ch ?_;exact yjy (w:=C.w) (λy B=>(t.sz s.pz y B).2) s.wm.2 (To.len s.pz t)
def szD(C:Cf)(ts:Ρ)(q:Pd):Nat:=(δ C.n C.kd C.ps (Ú ((q.path++[(q.nm,q.tx)]).map (·.2))) ts).length
def bsF(f:Pd->Nat):qi Pd->qj Str->Nat->qj Str
 |[],b,_=>b
 |q::P,b,m=>if f q<m then bsF f P (some q.nm) (f q)else bsF f P b m
def Ŀ(C:Cf)(P:qi Pd)(ts:Ρ):Φ:=bsF (szD C ts) P none (δ C.n C.kd C.ps [] ts).length
#synth í ["self","text","signs","best","fewest","name","size"] ["self","text"] yvw
inductive ytj(K:xr)(a:Ads)(vs:Υ)(H:Hp)(Q:VK)(E:XK):Prop
 |mk(st:x0)(C:Cf)(P:qi Pd)(X:Sx)(tx:x0)(ts:Ρ)(_:vs=[.ref st,.ref tx])(_:Sto K a H st C P X)(_:jj H tx ts 1000)(_:(C.mo<ts.length->∀H',yv H H'->E (.ref a.Ai) none H'))(_:(ts.length<=C.mo->∀Y H',Sto K a H' st C P Y->Gx X H H' Y->Q (baV (Ŀ C P ts)) H'))
def yn9:vz P w K mg Γ (CXe P w) 13 a.Kv a.Nq ["self","text"] (ytj K a):=by
 exists T.E8.F.okE,í,y;let⟨st,C,P,X,tx,f,rfl,hS,n,kL,k⟩:=h;have aj:=hS.cf;have ae:=hS.z;exists 2,5,ye (yo (i:=2) í.nd rfl (Or.inl rfl) (x4 (ygt T) y.m T.Fp yz (pa1 (pv 1)))) (ye (yw (vh (pv 0) T.A3 T.E4.m (yod T) y.m T.E4.B .nil yz (pa1 (pv 2)))) (ye (yo (i:=3) í.nd rfl (Or.inl rfl) zf) (ye (yo (i:=4) í.nd rfl (Or.inl rfl) (xg (vh (pv 0) T.A3 T.Cc.m (ye2 T) y.m T.Cc.B .nil yz (pa1 zf)) T.Ak T.Dz.m (yqa T) y.m T.Dz.B .nil v7 (pa1 (pv 2)))) (ye (PS.nox (xz PassesOwn.never rfl (vx (vv (pv 0) T.A3 T.Cw.m (ykl T) y.m T.Cw.B .nil v7)) (vk (i:=5) í.nd rfl (Or.inl rfl)) (ye (yo (i:=6) í.nd rfl (Or.inl rfl) (xg (vh (pv 0) T.A3 T.Cc.m (ye2 T) y.m T.Cc.B .nil vg (pa1 (pv 5))) T.Ak T.Dz.m (yqa T) y.m T.Dz.B .nil v7 (pa1 (pv 2)))) (yc (wa (yr ó (pv 6) (pv 4) (yx _)) (ye (yo (i:=3) í.nd rfl (Or.inl rfl) (pv 5)) (yc (yo (i:=4) í.nd rfl (Or.inl rfl) (pv 6)))) y6))))) (yc (yq (pv 3)))))));exists .ref tx,_,rfl,.lst n.l,.inr ⟨f.map V.int,Ñ n.l n.s (by have:=n.z;omega),λO H1 a1 v S1=>?_⟩;have I:=hS.same S1
 obtain⟨ds,vl,vp,vc,a2⟩:∃ds vl vp vc,H1 st=some (.ins a.A0 ds (xj vl (.int C.mo) vp vc)):=by
  let⟨ds,ll,d,c,dc,p,cl,ct,lk,tp,Qs,L0,ks,U,s,_,_⟩:=I;exists _,_,_,_,s.me
 have R:Kf H1 X O (.lst (f.map V.int)):=Kf.new hS a1 v;ext;exists st,ds,O,_,_,_,C.mo,_,rfl,a2,v,λJ=>?_,λz=>kL (by rw[be]at z;omega) _ S1;have J:f.length<=C.mo:=by rw[be]at J;omega
 have k:=k J;ext;refine I.chainto (x:=none) (L:=[]) rfl λc dc p cl ct ks M W Y H2 G g2 o hM=>?_;have e:=R.go I g2;have a9:=o.me;ext;exists c,dc,p,cl,ct,_,_,_,_,ks,M,W,O,f,rfl,o,⟨e.1,n.s,by omega⟩,by omega,λH3 t=>?_
 have j:=G.same t;have S:=e.same t;have g3:=(g2.same t).ahead S1;let⟨af,ac,al,am,ai,ab⟩:=j.ins;ext;refine j.names λl H4 a7 a0 S4=>?_;have a5:Kf H4 Y l (.lst (P.map λq=>V.str q.nm)):=Kf.new j a7 a0;exists l,rfl,⟨_,SqL.of a0⟩,x8 (K:=K) (a:=l) (xs:=P.map λq=>V.str q.nm) (λi σ2 F=>∃(b:Φ)(m:Nat)(v5 v6:Ψ)(Z:Sx),σ2=[some (.ref st),some (.ref tx),some (.ref O),some (baV b),some (.int (m:Nat)),v5,v6]/\Sto K a F st C P Z/\Gx X H F Z/\Kf F Z O (.lst (f.map V.int))/\Kf F Z l (.lst (P.map λq=>V.str q.nm))/\bsF (szD C f) (P.drop i) b m=Ŀ C P f) ?_ ?_ ?_ ?_
 .exists none,_,none,none,Y,rfl,j.same S4,g3.same S4,S.same S4,a5,rfl
 .rintro i σ2 F _ ⟨b,m,v5,v6,Z,rfl,N,g,D,u,r⟩;exact SqL.of u.1
 .rintro i z σ2 F hz ⟨b,m,v5,v6,Z,rfl,N,g,D,u,r⟩;rw[bn]at hz;let⟨q,hq,rfl⟩:=cC.mp hz;have a8:i<P.length:=(bv.mp hq).1;have a6:=bA hq;rw[cQ a8,(bv.mp hq).2]at r;let⟨ag,ak,ah,ad,ao,aa⟩:=N.ins;ext;refine N.chainto (x:=some q.nm) (L:=q.path++[(q.nm,q.tx)]) ⟨q,a6,rfl,rfl⟩ λc dc p cl ct ks M W Y2 F2 G g2 o hM=>?_;have e:=D.go N g2;have a3:=u.go N g2;have a9:=o.me;ext;exists c,dc,p,cl,ct,_,_,_,_,ks,M,W,O,f,rfl,o,⟨e.1,n.s,by omega⟩,by omega,λF3 t=>?_
  have j:=G.same t;have g3:=(g.trans g2).same t;ext;have r:(if szD C f q<m then bsF (szD C f) (P.drop (i+1)) (some q.nm) (szD C f q)else bsF (szD C f) (P.drop (i+1)) b m)=Ŀ C P f:=r;by_cases hlt:szD C f q<m
  .rw[if_pos hlt]at r;refine ur (λB=>?_) (λz=>absurd (show ((szD C f q:Nat):Int)<(m:Int) by omega) z);ext;exists some q.nm,szD C f q,_,_,Y2,rfl,j,g3,e.same t,a3.same t,r
  .rw[if_neg hlt]at r;refine ur (λz=>absurd (show ((szD C f q:Nat):Int)<(m:Int)from z) (by omega)) (λB=>?_);exists b,m,_,_,Y2,rfl,j,g3,e.same t,a3.same t,r
 .rintro σ2 F ⟨b,m,v5,v6,Z,rfl,N,g,D,u,r⟩;rw[be,List.drop_length]at r;ext;rw[show b=Ŀ C P f from r];exact k Z F N g
#synth ykh ["_law_script","_law_k","_law_cell"] ["_law_script","_law_k"] yuc
inductive yym(K:xr)(vs:Υ)(H:Hp)(Q:VK)(E':XK):Prop
 |mk(l:x0)(ns:Ρ)(j:Nat)(_:vs=[.ref l,.int j])(_:SqL K H l (ns.map V.int))(_:j<=1000)(_:∀n:Int,0<=n->n<2147483647->Q (.int n) H)
def yev:vz P w K mg Γ CX0 1 a.Kw a.Nr ["_law_script","_law_k"] (yym K):=by
 exists T.E9.F.ok,ykh,o;let⟨l,e,j,rfl,f,u,k⟩:=h;exists 2,1,ye (yo (i:=2) ykh.nd rfl (Or.inl rfl) yg) (ye (jx (wa (yr ó (pv 1) (pcB yp T.Aa (pa1 (pv 0))) (yx _)) (yc (yo (i:=2) ykh.nd rfl (Or.inl rfl) (ym vo (xi xl (pv 0) (pv 1) (λZ Z=>rfl)) yg))) y6)) (yc (yq (ym vo (ym wq (ym wc (ym wc (ym wc (ym wq (pv 2) (pv 2)) (ym wq yg (pv 2))) (ym wq (ym wq yg (pv 1)) (pv 1))) yg) yg) yg))));refine yk6 (λσ' G=>H=G/\∃c:Int,σ'=[some (.ref l),some (.int j),some (.int c)]/\0<=c/\c<2147483629) ?_ ?_
 .ext;refine x5 f ?_;rw[be];ext;refine ur (λg=>?_) (λg=>?_)
  .have d:j<e.length:=by omega
   ext;refine jy (v:=V.int e[j]) f (vq (by rw[bn,bg d];rfl)) ?_;ext;exists rfl,_,rfl,cn _ (by decide),cg _ (by decide)
  .ext;exists rfl,0,rfl,by decide,by decide
 .rintro σ' G ⟨rfl,c,rfl,r,p⟩;have q:(0:Int)<=(j:Int)/\(j:Int)<=1000:=by omega
  have t:(0:Int)<=5*(j:Int)/\5*(j:Int)<=5000:=by omega
  ext;exact k _ (cn _ (by decide)) (cg _ (by decide))
#synth î ["_law_cell","_law_most","_law_many","_law_looks_here","_law_k","_law_marks","_law_places"] ["_law_cell","_law_most"] yv6
inductive yll  (vs:Υ) (H:Hp) (Q:VK) (E':XK):Prop
 |mk(c:Int)(m:Nat)(_:vs=[.int c,.int m])(_:0<=c)(_:c<2147483647)(_:1<=m)(_:m<=6)(_:∀r(n:Nat)(lk:Μ)(kd:Ξ)(tp:Μ)(ps:Λ)H',H r=none->H' r=some (.lst (refs lk n))->1<=n->n<=6->ux H' n lk kd tp ps->yv H H'->Q (.ref r) H')
def vbb:vz P w K mg Γ CX0 1 a.Kx a.Nt ["_law_cell","_law_most"] yll:=by
 exists T.Of.F.ok,î,hr;let⟨c,m,rfl,X,Y,m1,m6,k⟩:=h;have mp:(0:Int)<(m:Int):=by omega
 exists 2,5,ye (yo (i:=2) î.nd rfl (Or.inl rfl) (ym wc yg (ym vo (pv 0) (pv 1)))) (ye (yo (i:=3) î.nd rfl (Or.inl rfl) (xc uo)) (ye (xz PassesOwn.never rfl (Æ rfl T.Be (pa1 (pv 2))) (vk (i:=4) î.nd rfl (Or.inl rfl)) (ye (yo (i:=0) î.nd rfl (Or.inl rfl) (ym vo (ym wc (ym wc (ym wq (pv 0) yg) (ym wq yg (pv 4))) yg) yg)) (ye (yo (i:=5) î.nd rfl (Or.inr rfl) (ym yn6 (ym vo (ym vd (pv 0) yg) yg) (ym vo (ym vd (pv 0) yg) yg))) (ye (jx (wa (yr xq (ym vo (ym vd (pv 0) yg) yg) yg (yx _)) (yc (yo (i:=5) î.nd rfl (Or.inr rfl) (ym vo (ym vd (pv 0) yg) yg))) y6)) (ye (ż (i:=6) (js:=[5]) (ys:=["_law_marks"]) î.nd rfl rfl rfl (ybh rfl T.Be (pac yg (pa1 yg))) (λC s2 H2 fp=>(yr xq (ym yn6 (ym yo6 (pv 1) (ym zy (pv 0) yg)) yg) yg (yx _))) (λC s2 H2 fp=>(pv 0)) rfl rfl (hyc:=(all_cons rfl yt)) (hrel:=(all_cons rfl yt))) (yc (yw (è PySem.F.plainAttrs_list PySem.F.slot_list_append PySem.F.type_list_append xh (pv 3) (pa1 (ī (pac (xi xl (xc (pac wx (pac wx (pa1 wx)))) (ym vo (pv 0) yg) (λF F=>rfl)) (pa1 (pcT Å T.Cl (pa1 (ub jr (pv 6) uv (uk yg)))))))))))))))) (yc (yq (pv 3)))))
 obtain⟨n,hn,n1,n6⟩:∃n:Nat,1+c%(m:Int)=(n:Int)/\1<=n/\n<=6:=by
  have h0:=cn c (show (m:Int)≠0 by omega);have h1:=cg c mp;exists(1+c%(m:Int)).toNat,by omega,by omega,by omega
 rw[hn];exists by walk_at "len",λL hL0=>?_
 exists hL0,H1,S1,hL1;ext;refine⟨_,rfl,by omega,by omega,É (n:=n) (λi σ2 G=>∃(c:Int)(v1 v2 W:Ψ)(r:Μ)(U:Ξ)(M:Μ)(R:Λ),σ2=[some (.int c),some (.int m),some (.int n),some (.ref L),v1,v2,W]/\0<=c/\c<2147483647/\G L=some (.lst (refs r i))/\ux G i r U M R/\yv H G)
  ⟨c,_,_,_,λF=>0,λF=>0,λF=>0,λF=>[],rfl,X,Y,hL1,λj l=>absurd l (bI j),S1⟩ ?_ ?_⟩
 .clear hn X Y c;rintro i σ2 G hi ⟨c,v1,v2,W,r,U,M,R,rfl,X,Y,Z,gR,SG⟩;ext;have d0:0<=(c*48271+11*(0+(i:Int))+7)%2147483647:=cn _ (by decide);have d1:(c*48271+11*(0+(i:Int))+7)%2147483647<2147483647:=cg _ (by decide);generalize (c*48271+11*(0+(i:Int))+7)%2147483647=d at d0 d1⊢;refine yk6 (λσ' v=>G=v/\∃mk:Int,σ'=[some (.int d),some (.int m),some (.int n),some (.ref L),some (.int (0+(i:Int))),some (.int mk),W]) ?_ ?_
  .ext;refine ur (λhb=>?_) (λhb=>?_)
   .ext;exists rfl,_,rfl
   .ext;exists rfl,_,rfl
  rintro σ' v ⟨rfl,mk,rfl⟩;ext;refine⟨1,9,rfl,⟨by decide,by decide,by decide,by decide⟩,λD hD=>?_⟩
  refine yc4 (lo:=1) (n:=8) (λj v=>∃f:Ρ,v D=some (.lst (f.map V.int))/\(∀p∈f,1<=p/\p<=(j:Int))/\f.Pairwise (· < ·)/\f.length<=j/\yv G v) ⟨[],ya,λF z=>(nomatch z),List.Pairwise.nil,bj _,y7 hD⟩ (λj v l z=>?_) (λG3 z=>?_)
  .obtain⟨f,h1,h2,h3,h4,S⟩:=z;ext;refine i_I (by omega) ?_;ext;refine ur (λhb=>?_) (λhb=>?_)
   .ext;refine we (n:=8) h1 (ve (by rw[be];omega)) l ?_;exists f++[1+(j:Int)],by rw[ya,bF];rfl,λp O=>?_,?_,by rw[bp];show _+1<=_;omega,λb o e=>yf (yb e hD) (S b o e)
    .rcases bO.mp O with h|h
     .have:=h2 p h;omega
     .rw[bE.mp h];omega
    .refine List.pairwise_append.mpr ⟨h3,List.pairwise_singleton _ _,λx hx y hy=>?_⟩;rw[bE.mp hy];have:=h2 x hx;omega
   .exact jp (n:=8) l ⟨f,h1,λp O=>by have:=h2 p O;omega,h3,by omega,S⟩
  let⟨f,a1,O,hw,_,S3⟩:=z;have B:=S3 _ _ Z;ext;refine Â B ?_;ext;exists by walk_at "len",λq2 hq2=>?_
  exists hq2,G4,T4,hq4;ext;let⟨kk,hk⟩:=ytc d;refine jy (SqL.of hq4) hk ?_;ext;refine yb4 (SqL.of (T4 _ _ a1)) λu hu=>?_;have ec:ydl (f.map V.int) none (some 4)=(f.take 4).map V.int:=by rw[List.map_take];exact ja 4
  rw[ec];exists hu,G5,T5,hu5;exists u,_,rfl,.inl ⟨SqL.of hu5,λI htp=>?_⟩;exists htp,G6,T6,htp6;ext;exists by walk_at "len",λt ht=>?_
  exists ht,G7,T7,ht7;have N:=T4.trans (T5.trans (T6.trans T7));have q:=N _ _ B;have J:=S3.trans N;ext;refine x9 q (ve (by rw[vt];omega)) ?_;have g7:LkG G7 (.ref t) kk I (f.take 4):=⟨t,rfl,ht7,T7 _ _ htp6,yh5 (by rw[bH];omega) (λp h=>O p (cG h)) hw.take⟩;ext;exists d,_,_,_,upN r i t,upN U i kk,upN M i I,upN R i (f.take 4),rfl,d0,d1,?_,λj l=>?_,λb o e=>yf (yb e hL0) (J _ _ (SG b o e))
  .rw[ya,x6,wo]
   congr 3
   exact xx λj l=>(wj l).symm
  .by_cases z:j=i
   .subst z;rw[wo,wo,wo,wo];exact g7.upd q
   .have g:j<i:=by omega
    rw[wj g,wj g,wj g,wj g];exact((gR j g).same J).upd q
 .rintro σ2 G ⟨c,v1,v2,W,r,U,M,R,rfl,X,Y,Z,gR,SG⟩;ext;exact k L n r U M R G hL0 Z n1 n6 gR SG
#synth yk4 ["_law_cells","_law_size","_law_way","_law_signs","_law_k"] ["_law_cells","_law_size","_law_way"] yu3
inductive ymr(K:xr)(vs:Υ)(H:Hp)(Q:VK)(E':XK):Prop
 |mk(l:x0)(ns:Ρ)(z:Nat)(w:Int)(_:vs=[.ref l,.int z,.int w])(_:H l=some (.lst (ns.map V.int)))(_:ns.length<=63)(_:z<=50)(_:∀r(ts:Ρ)H',H r=none->H' r=some (.lst (ts.map V.int))->Sgs ts->ts.length=z->yv H H'->Q (.ref r) H')
def yxs:vz P w K mg Γ CX0 1 a.Ky a.Nu ["_law_cells","_law_size","_law_way"] (ymr K):=by
 exists T.Og.F.ok,yk4,hr;let⟨l,ns,z,w,rfl,hl,a9,hz,k⟩:=h;exists 3,2,ye (yo (i:=3) yk4.nd rfl (Or.inr rfl) (ym yb3 (xc (pa1 yg)) (pv 1))) (ye (wa (yr xq (pv 1) yg (yx _)) (yc (yq (pv 3))) y6) (ye (xz PassesOwn.never rfl (Æ rfl T.Be (pa1 (pcB yp T.Aa (pa1 (pv 0))))) (vk (i:=4) yk4.nd rfl (Or.inl rfl)) (yc (yow (ym vo (ym wc (ym wc (ym wq (xi xl (pv 3) (ym vo (pv 4) (pv 1)) (λF F=>rfl)) yg) (ym vo (xi xl (pv 0) (pv 4) (λF F=>rfl)) yg)) (pv 4)) yg) (yyx (pv 3) (ym vo (pv 4) (pv 1)) ylp)))) (ye (wa (yr xq (ym vo (pv 2) yg) yg (yx _)) (yc (yq (ym yb3 (xc (pa1 (xi xl (pv 3) yg (λF F=>rfl)))) (pv 1)))) y6) (ye (wa (yr xq (ym vo (pv 2) yg) yg (yx _)) (yc (yq (wb (js:=[2,3]) (ys:=["_law_way","_law_signs"]) rfl (vx (pv 3)) (λC s2 H2 fp=>(xi (r:=vcs K) xl (xc (pac (xi (r:=vcs K) xl (pv 2) yg (λF F=>rfl)) (pa1 (ym vo (ym vd (pv 1) yg) yg)))) (ym vo (pv 0) yg) (λF F=>rfl))) rfl rfl (hyc:=(all_cons rfl (all_cons rfl yt))) (hrel:=(all_cons rfl (all_cons rfl yt)))))) y6) (ye (wa (yr xq (ym vo (pv 2) yg) yg (yx _)) (yc (yq (wb (js:=[]) (ys:=[]) rfl (vx (pv 3)) (λC s2 H2 fp=>(xi (r:=vcs K) xl (xc (pac yg (pac yg (pac yg (pa1 yg))))) (ym vo (pv 0) yg) (λF F=>rfl))) rfl rfl (hyc:=yt) (hrel:=yt)))) y6) (yc (yq (pv 3))))))));exists by walk_at "len",λu hu=>?_
 exists hu,H1,S1,hu1;ext;exists u,z,_,rfl,rfl,hu1,by omega,by omega,jf (by show 1*(z:Int).toNat<=16000000;omega),λg hg0=>?_
 rw[jm];exists hg0,H2,S2,hg2;have ez:((z:Nat):Int).toNat=z:=by omega
 rw[ez]at hg2;have Z:=S1.trans S2;have B:H g=none:=S1.free hg0;ext;refine ur (λhb=>?_) (λhb=>?_)
 .ext;refine k g _ _ B hg2 (λx hx=>?_) cF Z;rw[cB hx];exists by decide,by decide
 .have zp:(0:Int)<(z:Int):=by omega
  ext;refine x5 (SqL.of (Z _ _ hl)) ?_;rw[be];ext;exists _,rfl,by omega,by omega,É (n:=ns.length) (λi σ2 G=>∃(v:Ψ)(c:Ρ),σ2=[some (.ref l),some (.int z),some (.int w),some (.ref g),v]/\G g=some (.lst (c.map V.int))/\Sgs c/\c.length=z/\yv H G) ⟨_,_,rfl,hg2,λx hx=>by rw[cB hx];exact⟨by decide,by decide⟩,cF,Z⟩ ?_ ?_
  .rintro i σ2 G hi ⟨v,c,rfl,d,q,U,J⟩;have e0:(0:Int)+(i:Int)=(i:Int):=Int.zero_add _;rw[e0]
   obtain⟨j,hj,aa⟩:∃j:Nat,(i:Int)%(z:Int)=(j:Int)/\j<z:=by
    have h0:=cn (i:Int) (show (z:Int)≠0 by omega);have M:=cg (i:Int) zp;exists((i:Int)%(z:Int)).toNat,by omega,by omega
   have a4:j<c.length:=by omega
   have f:atI (c.map V.int) (j:Int)=some (V.int c[j]):=vq (by rw[bn,bg a4];rfl);have a0:atI (ns.map V.int) (i:Int)=some (V.int ns[i]):=vq (by rw[bn,bg hi];rfl);generalize c[j]=W at f;generalize ns[i]=R at a0;ext;rw[hj];refine jy (SqL.of d) f ?_;ext;refine jy (SqL.of (J _ _ hl)) a0 ?_;ext;rw[hj];have y0:0<=(W*31+R%256+(i:Int))%256:=cn _ (by decide);have y1:(W*31+R%256+(i:Int))%256<256:=cg _ (by decide);generalize (W*31+R%256+(i:Int))%256=y at y0 y1⊢;exists g,_,_,j,rfl,rfl,d,?_,?_
   .unfold ixN;rw[if_pos (by omega),if_pos (by rw[be];omega)];rfl
   .exists _,c.set j y,rfl,by rw[ya,List.map_set],λx hx=>?_,by rw[List.length_set];exact U,λb o e=>yf (yb e B) (J b o e)
    rcases List.mem_or_eq_of_mem_set hx with h|h
    .exact q x h
    .rw[h];omega
  .rintro σ2 G ⟨v,c,rfl,d,q,U,J⟩;ext;refine ur (λa5=>?_) (λa5=>?_)
   .have h0:0<c.length:=by omega
    have f:atI (c.map V.int) 0=some (V.int c[0]):=vq (j:=0) (by rw[bn,bg h0];rfl);have I:=q c[0] (cc h0);generalize c[0]=a1 at f I;ext;refine jy (SqL.of d) f ?_;ext;exists by walk_at "len",λu2 hu2=>?_
    exists hu2,G1,T1,hu21;ext;exists u2,z,_,rfl,rfl,hu21,by omega,by omega,jf (by show 1*(z:Int).toNat<=16000000;omega),λr a2=>?_
    rw[jm,ez];exact k r _ _ ((J.trans T1).free a2) ya (λx hx=>by rw[cB hx];exact I) cF (J.trans (T1.trans (y7 a2)))
   .ext;refine ur (λa7=>?_) (λa7=>?_)
    .ext;exists g,rfl,⟨_,SqL.of d⟩,λD X=>?_
     refine j3 (K:=K) (xs:=c.map V.int) (λi p=>∃m:Ρ,p D=some (.lst (m.map V.int))/\Sgs m/\m.length=i/\yv G p) ⟨[],ya,λF z=>(nomatch z),rfl,y7 X⟩ (by rintro i p _ ⟨_,_,_,_,S⟩;exact SqL.of (S _ _ d)) (λi y p N hi O=>?_) (λp O=>?_)
     .obtain⟨m,M,Y,L,S⟩:=O;let⟨x,rfl,_,_,a8⟩:=z6 N;have h0:0<c.length:=by omega
      have f:atI (c.map V.int) 0=some (V.int c[0]):=vq (j:=0) (by rw[bn,bg h0];rfl);have I:=q c[0] (cc h0);generalize c[0]=a1 at f I;ext;refine jy (SqL.of (S _ _ d)) f ?_;ext;exists by walk_at "len",λu2 hu2=>?_
      have w0:0<=w/4%256/\w/4%256<=255:=by omega
      generalize w/4%256=ww at w0;exists hu2,G1,T1,hu21;ext;let⟨v,hv,ha⟩:=yi9 (xs:=[V.int a1,V.int ww]) (i:=x%2) (cn _ (by decide)) (by show _<(2:Int);exact cg _ (by decide));refine jy (SqL.of hu21) ha ?_
      obtain⟨t,rfl,t0⟩:∃t,v=V.int t/\0<=t/\t<=255:=by
       simp only[bB,List.not_mem_nil,or_false]at hv;rcases hv with rfl|rfl
       .exists _,rfl,I
       .exists _,rfl,w0
      refine we (n:=(c.map V.int).length) (T1 _ _ M) (ve (by rw[be,L];omega)) hi ?_;exists m++[t],by rw[ya,bF];rfl,λy N=>?_,by rw[bp,L];rfl,λb o e=>yf (yb e X) (T1 _ _ (S b o e))
      rcases bO.mp N with h|h
      .exact Y y h
      .rw[bE.mp h];exact t0
     .obtain⟨m,M,Y,L,S⟩:=O;rw[be]at L;exact k D m p (J.free X) M Y (by omega) (J.trans S)
    .ext;refine ur (λa6=>?_) (λa6=>?_)
     .ext;exists g,rfl,⟨_,SqL.of d⟩,λD X=>?_
      refine ul (K:=K) (xs:=c.map V.int) (λi p=>∃m:Ρ,p D=some (.lst (m.map V.int))/\Sgs m/\m.length=i/\yv G p) ⟨[],ya,λF z=>(nomatch z),rfl,y7 X⟩ (by rintro i p _ ⟨_,_,_,_,S⟩;exact SqL.of (S _ _ d)) (λi y p N hi O=>?_) (λp O=>?_)
      .obtain⟨m,M,Y,L,S⟩:=O;let⟨x,rfl,_,_,a8⟩:=z6 N;ext;exists by walk_at "len",λu2 hu2=>?_
       exists hu2,G1,T1,hu21;ext;let⟨v,hv,ha⟩:=yi9 (xs:=[V.int 0,V.int 255,V.int 1,V.int 128]) (i:=x%4) (cn _ (by decide)) (by show _<(4:Int);exact cg _ (by decide));refine jy (SqL.of hu21) ha ?_
       obtain⟨t,rfl,t0,t1⟩:∃t,v=V.int t/\0<=t/\t<=255:=by
        simp only[bB,List.not_mem_nil,or_false]at hv;rcases hv with rfl|rfl|rfl|rfl<;>exact⟨_,rfl,by decide,by decide⟩
       refine we (n:=(c.map V.int).length) (T1 _ _ M) (ve (by rw[be,L];omega)) hi ?_;exists m++[t],by rw[ya,bF];rfl,λy N=>?_,by rw[bp,L];rfl,λb o e=>yf (yb e X) (T1 _ _ (S b o e))
       rcases bO.mp N with h|h
       .exact Y y h
       .rw[bE.mp h];exists t0,t1
      .obtain⟨m,M,Y,L,S⟩:=O;rw[be]at L;exact k D m p (J.free X) M Y (by omega) (J.trans S)
     .ext;exact k g c G B d q U J
def yu4(ts:Ρ):Prop:=ts.length=5/\ts.Nodup/\∀t,t∈ts->0<=t/\t<5
def yr1{mu e:Int}(h1:1<=mu)(h3:mu<=3):yu4 ((List.range 5).map λi:Nat=>((0+(i:Int))*mu+e)%5):=by
 exists rfl,?_,λt d=>?_
 .refine List.pairwise_map.mpr (List.nodup_range.imp_of_mem λ{a b}h c j=>?_);have f:=cz.mp h;have g:=cz.mp c;obtain rfl|rfl|rfl:mu=1\/mu=2\/mu=3:=by omega
  .omega
  .omega
  .omega
 .obtain⟨i,_,rfl⟩:=bq.mp d;omega
def yih:yu4 ((List.range 5).map λi=>((i:Nat):Int)):=by
 exists rfl,?_,λt c=>?_
 .exact List.pairwise_map.mpr (List.nodup_range.imp λ{a b}e=>by omega)
 .obtain⟨i,d,rfl⟩:=bq.mp c;have:=cz.mp d;omega
def gI(f:Int->Str):V->V
 | .int t=>.str (f t)
 |v=>v
def yo5(f:Int->Str)(ts:Ρ):(ts.map V.int).map (gI f)=(ts.map f).map V.str:=by rw[bR,bR];rfl
def nmR(c k:Nat):Str:=⟨(List.replicate k c).toArray⟩
def vbh{z:Str}{c k:Nat}(h:z.cps.toList=(List.replicate k [c]).flatten):z=nmR c k:=by
 have e:(List.replicate k [c]).flatten=List.replicate k c:=by
  clear h
  induction k with
  |zero=>rfl
  |succ k ih=>rw[cr,List.flatten_cons,cr,List.singleton_append,ih]
 rw[e]at h
 cases z with|mk cps =>
 unfold nmR
 congr 1
 exact Array.toList_inj.mp (by simpa using h)
def ifS{tc:TT}{ts te:TS}{D:ā}{σ:St}{H:Hp}(h:∀Qb:Bool->Hp->Prop,(∀H',yv H H'->Qb true H')->(∀H',yv H H'->Qb false H')->tc σ H Qb)(hT:∀H',yv H H'->ts D σ H')(hF:∀H',yv H H'->te D σ H'):vcu tc ts te D σ H :=
 h _ (λH' S=>by show (if true=true then _ else _);rw[if_pos rfl];exact hT H' S) (λH' S=>by show (if false=true then _ else _);rw[if_neg (by decide)];exact hF H' S)
#synth η ["_law_cell","_law_small","_law_odd","_law_turn","_law_base","_law_k","_law_at"] ["_law_cell"] yvl
inductive yic(K:xr)(vs:Υ)(H:Hp)(Q:VK)(E':XK):Prop
 |mk(c:Int)(_:vs=[.int c])(_:0<=c)(_:c<2147483647)(_:∀(r:x0)(ns:Τ)(H':Hp),H r=none->H' r=some (.lst (ns.map V.str))->yv H H'->ns.length=5->ns.Nodup->(∀x,x∈ns->nmS x=true/\PyData.strOk x=true)->Q (.ref r) H')
def yze:vz P w K mg Γ CX0 1 a.Kz a.Nv ["_law_cell"] (yic K):=by
 exists T.Oh.F.ok,η,hr;let⟨c,rfl,c0,c1,k⟩:=h;refine yh (yo (i:=1) η.nd rfl (Or.inr rfl) wx) ?_;refine yh (yo (i:=2) η.nd rfl (Or.inr rfl) (ym vo (pv 0) yg)) ?_;refine yh (yo (i:=0) η.nd rfl (Or.inr rfl) (ym vd (pv 0) yg)) ?_;refine yh (yd5 (i:=3) (js:=[0]) (ys:=["_law_cell"]) η.nd rfl rfl rfl (Æ rfl T.Be (pa1 yg)) (λC s2 H2 fp=>(ym vo (ym wc (ym wq (pv 0) (ym wc yg (ym vo (ym vd (pv 1) yg) yg))) (ym vd (pv 1) yg)) yg)) rfl rfl (hyc:=(all_cons rfl yt)) (hrel:=(all_cons rfl yt))) ?_;refine yh (jx (wa (PW.pt (İ (yr ó (pcB ycw T.Aa (pa1 (pcT (yhe rfl) T.Po (pa1 (pv 3))))) yg (yx _)) (ð (yr xq (ym vo (ym vd (pv 0) yg) yg) yg (yx _))))) (yc (yo (i:=3) η.nd rfl (Or.inl rfl) (pcT (yfk rfl) T.Af (pa1 (pcT ynm T.Be (pa1 yg)))))) y6)) ?_;refine yh (wa (yr xq (ym vo (pv 0) yg) yg (yx _)) (yc (yq (wb (js:=[1,2,0]) (ys:=["_law_small","_law_odd","_law_cell"]) rfl (vx (pv 3)) (λC s2 H2 fp=>(ym yf1 (ο (pv 1) (pv 2) (λC C=>rfl)) (ym wc (ym wc (pv 0) yg) (ym vo (ym vd (pv 3) yg) yg)))) rfl rfl (hyc:=(all_cons rfl (all_cons rfl (all_cons rfl yt)))) (hrel:=(all_cons rfl (all_cons rfl (all_cons rfl yt))))))) y6) ?_;refine yh (yo (i:=4) η.nd rfl (Or.inr rfl) wx) ?_;refine yh (xz PassesOwn.never rfl (Æ rfl T.Be (pa1 (ym vo (ym vd (pv 0) yg) yg))) (vk (i:=5) η.nd rfl (Or.inl rfl)) (yc (yo (i:=4) η.nd rfl (Or.inr rfl) (ym ß (pv 4) (ο (pv 1) (ym vo (ym vd (ym wq (pv 0) (ym wc (pv 5) yg)) yg) yg) (λC C=>rfl)))))) ?_;refine yh (yo (i:=6) η.nd rfl (Or.inr rfl) (ym vo (ym vd (pv 0) yg) (ym wc (pcB ë T.Aa (pa1 (pv 4))) yg))) ?_;exists 1,6,yc (yq (wb (js:=[1,2,4,6]) (ys:=["_law_small","_law_odd","_law_base","_law_at"]) rfl (vx (pv 3)) (λC s2 H2 fp=>(ym ß (ym ß (ub (r:=ve9) yoi (pv 3) uv (uk (pv 4))) (ο (pv 1) (ym wc (pv 2) (pv 0)) (λC C=>rfl))) (ub (r:=ve9) yoi (pv 3) (uk (pv 4)) uv))) rfl rfl (hyc:=(all_cons rfl (all_cons rfl (all_cons rfl (all_cons rfl yt))))) (hrel:=(all_cons rfl (all_cons rfl (all_cons rfl (all_cons rfl yt)))))));obtain⟨o,ho,a3⟩:∃o:Nat,c%22=(o:Int)/\o<=21:=⟨(c%22).toNat,by omega,by omega⟩;obtain⟨d,U,a4,a5⟩:∃d:Int,c/22=d/\0<=d/\d<2147483647:=⟨c/22,rfl,by omega,by omega⟩;rw[ho,U];clear c0 c1 ho U c;exists _,rfl,by decide,by decide,λD f=>?_
 refine ya4 (n:=5) (λi=>V.int (((0+(i:Int))*(1+d/3%3)+d/9)%5)) f (λi G hi S Z=>?_) (λG S Z=>?_)
 .ext;exact Mp.doneR f (ve (by decide)) hi S Z rfl
 have m:G D=some (.lst (((List.range 5).map λi:Nat=>((0+(i:Int))*(1+d/3%3)+d/9)%5).map V.int)):=by rw[Z,bR];rfl
 have g:=yr1 (mu:=1+d/3%3) (e:=d/9) (by omega) (by omega);generalize ((List.range 5).map λi:Nat=>((0+(i:Int))*(1+d/3%3)+d/9)%5)=N at m g;ext;exists λσ2 F=>∃(O:x0)(N:Ρ),σ2=[some (.int d),some (.str smS),some (.int o),some (.ref O),none,none,none]/\F O=some (.lst (N.map V.int))/\yu4 N/\yv H F,?_,?_
 .refine ifS (λQb qT qF=>?_) (λH1 S1=>?_) (λH1 S1=>?_)
  .ext;exists D,N,rfl,SqL.of m,by rw[g.1];decide,λq hq=>?_
   exists hq,G1,S1,e1;ext;exists q,_,rfl,e1,?_;ext;refine ur (λJ=>qT _ S1) (λJ=>?_);ext;by_cases h3:d/16%5=0
   .rw[br h3];exact qT _ S1
   .rw[bC h3];exact qF _ S1
  .ext;refine⟨5,rfl,by decide,λq hq=>?_⟩;exists hq,G1,S2,e1;ext;exists q,5,rfl,e1,by decide,λl hl=>?_
   exists hl,G2,S3,e2;ext;exists l,(List.range 5).map λi=>((i:Nat):Int),rfl,by rw[e2,bR];rfl,yih,S.trans (S1.trans (S2.trans S3))
  .exists D,N,rfl,S1 _ _ m,g,S.trans S1
 clear Z m g f S G N D;rintro σ2 G ⟨O,N,rfl,u,⟨t5,tn,L⟩,S⟩;ext;refine ur (λJ=>?_) (λJ=>?_)
 .ext;exists O,rfl,⟨_,SqL.of u⟩,λD f=>?_;refine z9 (gI λt=>nmR (97+o) (t+1+d/4%3).toNat) (SqL.of u) f (λi y F R M I=>?_) (λF M I=>?_)
  .rw[bn]at R;let⟨t,B,rfl⟩:=cC.mp R;have a2:=L t (bA B);ext;exists smS,_,_,rfl,rfl,by omega,by omega,by rw[yj1];omega,yu7 (by omega) (by omega),?_
   rw[show ((o:Int)).toNat=o from rfl];ext;exists _,_,rfl,rfl,by omega,by omega,by show 1<=_;decide,λz W=>?_
   obtain rfl:=vbh W;exact Mp.done f (ve (by rw[be];omega)) (by rw[bn,B];rfl) M I rfl
  .rw[yo5]at I;refine k D _ F (S.free f) I (S.trans M) (by rw[be,t5]) ?_ λx hx=>?_
   .refine List.pairwise_map.mpr (tn.imp_of_mem λ{a b}ha hb ne e=>ne ?_);have h2:=L a ha;have h3:=L b hb;have e2:=congrArg (λx:Str=>x.cps.toList.length) e;simp[nmR]at e2;omega
   .obtain⟨t,B,rfl⟩:=bq.mp hx;have h2:=L t B;refine vck (λc hc=>?_) ?_ ?_
    .have e:c∈List.replicate (t+1+d/4%3).toNat (97+o):=hc;have:=cB e;omega
    .simp[nmR];omega
    .simp[nmR];omega
 .obtain⟨l7,a1,hl⟩:∃l:Nat,d/4%8=(l:Int)/\l<=7:=⟨(d/4%8).toNat,by omega,by omega⟩;ext;rw[a1];refine⟨_,rfl,by omega,by omega,É (n:=l7) (λi σ2 F=>∃(z:Str)(v:Ψ),σ2=[some (.int d),some (.str smS),some (.int o),some (.ref O),some (.str z),v,none]/\ydm z.cps.toList/\z.length=i/\G=F)
   ⟨_,_,rfl,(λc hc=>by cases (show c∈[]from hc)),rfl,rfl⟩ ?_ ?_⟩
  .rintro i σ2 F hi ⟨z,v,rfl,W,p,rfl⟩;ext;have Y:=cn (d*(0+(i:Int)+3)/7) (show (26:Int)≠0 by decide);have J:=cg (d*(0+(i:Int)+3)/7) (show (0:Int)<26 by decide);generalize d*(0+(i:Int)+3)/7%26=q at Y J⊢;exists smS,q,97+q.toNat,rfl,rfl,Y,by omega,by rw[yj1];exact J,yu7 Y J,?_
   exists z,_,rfl,rfl,?_,?_
   .rw[p,sizeLine_eq];show i+1<=_;omega
   .ext;exists _,_,rfl,?_,?_,rfl
    .rw[Ħ];exact W.app (.one (by omega))
    .rw[ĝ,Ħ,bp,<- ĝ,p];rfl
  .rintro σ2 F ⟨z,v,rfl,W,p,rfl⟩;ext;exists z,rfl,by rw[p,sizeLine_eq];omega,?_
   ext
   obtain⟨j,hj,X⟩:∃j:Nat,d/32%((z.length:Int)+1)=(j:Int)/\j<=z.length:=by
    have Y:=cn (d/32) (show ((z.length:Int)+1)≠0 by omega);have J:=cg (d/32) (show 0<((z.length:Int)+1) by omega);exists(d/32%((z.length:Int)+1)).toNat,by omega,by omega
   rw[hj];exists O,rfl,⟨_,SqL.of u⟩,λD f=>?_;refine z9 (gI λt=>ywc z j (97+(o+t.toNat))) (SqL.of u) f (λi y F R M I=>?_) (λF M I=>?_)
   .rw[bn]at R;let⟨t,B,rfl⟩:=cC.mp R;have a2:=L t (bA B);ext;have a6:=Txt.slice_le z none (some (j:Int));have a8:=Txt.slice_le z (some (j:Int)) none;exists z,rfl,by rw[sizeLine_eq];omega,?_
    ext;have ei:((o:Int)+t).toNat=o+t.toNat:=by omega
    exists smS,_,_,rfl,rfl,by omega,by omega,by rw[yj1];omega,yu7 (by omega) (by omega),?_
    rw[ei];exists _,_,rfl,rfl,by rw[sizeLine_eq];show _+1<=_;omega,?_
    ext;exists z,rfl,by rw[sizeLine_eq];omega,?_
    exists _,_,rfl,rfl,?_,?_
    .rw[sizeLine_eq,ĝ,Ħ,bp,<- ĝ];show _+1+_<=_;omega
    .exact Mp.done f (ve (by rw[be];omega)) (by rw[bn,B];rfl) M I rfl
   .rw[yo5]at I;refine k D _ F (S.free f) I (S.trans M) (by rw[be,t5]) ?_ λx hx=>?_
    .refine List.pairwise_map.mpr (tn.imp_of_mem λ{a b}ha hb ne e=>ne ?_);have h2:=L a ha;have h3:=L b hb;have:=yml X e;omega
    .obtain⟨t,B,rfl⟩:=bq.mp hx;have h2:=L t B;exact yqt X W (by omega) (by omega)
#synth ykg ["_law_model","_law_base","_law_learned"] ["_law_model","_law_base"] ytt
inductive yid  (vs:Υ) (H:Hp) (Q:VK) (E':XK):Prop
 |mk(md:x0)(P:qi Pd)(X:Sx)(tu tx:Str->x0)(x:Φ)(L:Η)(_:vs=[.ref md,baV x])(_:Mdl H X md P tu tx)(_:PdW P)(_:P.length<=1000)(_:ToD P x L)(_:∀l H',H l=none->H' l=some (.lst (lnV tx L))->yv H H'->Q (.ref l) H')
def yet:vz P w K mg Γ CX0 1 a.L1 a.Nw ["_law_model","_law_base"] yid:=by
 exists T.Ea.F.ok,ykg,M;let⟨C,P,X,Y,c,x,L,rfl,W,U,a0,N,k⟩:=h;exists 2,1,ye (yo (i:=2) ykg.nd rfl (Or.inl rfl) (xc uo)) (ye (jd PassesOwn.never (yr yac (pv 1) zf (yx _)) (ye (yw (è PySem.F.plainAttrs_list PySem.F.slot_list_insert PySem.F.type_list_insert yhb (pv 2) (pac yg (pa1 (xi xp (uc (zg M) (pv 0) (pv 1) (λZ Z=>rfl)) yg (λZ Z=>rfl)))))) (yc (yo (i:=1) ykg.nd rfl (Or.inl rfl) (xi xp (uc (zg M) (pv 0) (pv 1) (λZ Z=>rfl)) yg (λZ Z=>rfl)))))) (yc (yq (pv 2))));exists by walk_at "len",λl q=>?_
 ext
 refine⟨λm σ' G=>∃(y:Φ)(R S:Η),σ'=[some (.ref C),some (baV y),some (.ref l)]/\ToD P y R/\R++S=L/\G l=some (.lst (lnV c S))/\yv H G/\m=R.length,
  ⟨_,x,L,[],rfl,N,cO L,ya,y7 q,rfl⟩,?_⟩
 rintro m σ2 G ⟨y,R,S,rfl,O,g,f,I,rfl⟩;have B:=W.same I;have J:=N.len U;have a1:S.length<=1000:=by rw[<- g,bp]at J;omega
 ext
 cases y with
 |none =>
  refine yqm (λZ=>?_) (λz=>absurd rfl z);have e:S=L:=by rw[show R=[]from O]at g;exact g
  ext;rw[e]at f;exact k l _ q f I
 |some b =>
  refine yqm (λz=>nomatch z) (λZ=>?_)
  let⟨r,d,rfl,v⟩:=O;exists _,λσ' H' z=>z,?_;ext;refine Â f ?_;ext;exists C,_,rfl,B.get d,?_;ext;refine zt (SqT.of (B.t r d).1) (vq (j:=0) rfl) ?_;ext;exists l,_,_,0,rfl,rfl,f,bJ _,by unfold lnV;rw[be];omega,?_
  have p:yv H (upd G l (.lst ((lnV c S).take 0++V.ref (c r.nm)::(lnV c S).drop 0))):=λb o e=>yf (yb e q) (I _ _ e);have u:upd G l (.lst ((lnV c S).take 0++V.ref (c r.nm)::(lnV c S).drop 0)) l=some (.lst (lnV c ((r.nm,r.tx)::S))):=ya;generalize upd G l (.lst ((lnV c S).take 0++V.ref (c r.nm)::(lnV c S).drop 0))=G' at p u⊢;have n:=W.same p;ext;exists C,_,rfl,n.get d,?_;ext;refine zt (SqT.of (n.t r d).1) (vq (j:=1) rfl) ?_;ext;exists r.path.length,?_,r.bs,r.path,(r.nm,r.tx)::S,rfl,U.wf r d,?_,u,p,rfl
  .rw[v,bp,ci];omega
  .rw[<- g,v,cy];rfl
def yei(x y:Φ):vex (baV x) (baV y)=true:=by cases x<;>cases y<;>rfl
theorem Mdl.frz{H:Hp}{X:Sx}{P:qi Pd}{tx:Str->x0}(h:Mdl H X md P tu tx)(hd:H md=some (.dK (mdK tu P)))(o:Obj):Mdl (upd H md (.frz o (.dK (mdK tu P)))) X md P tu tx :=
 ⟨.inr ⟨o,ya⟩,h.n,λq a=>(h.t q a).but (λz=>by have e:=(h.t q a).1;rw[z,hd]at e;cases e) But.upd,λq a=>(h.x q a).but (λz=>by have e:=(h.x q a).1;rw[z,hd]at e;cases e) But.upd⟩
def ř{P:qi Pd}{kk:Key}{v:V}(h:(mdK tu P)[i]?=some (kk,v)):∃q,P[i]?=some q/\kk=.inr q.nm/\v=.ref (tu q.nm):=by unfold mdK at h;rw[bn]at h;let⟨q,a,e⟩:=cC.mp h;cases e;exact⟨q,a,rfl,rfl⟩
structure K2(K:xr)(a:Ads)(B H:Hp)(st lo md:x0)(C:Cf)(P:qi Pd)(X:Sx)(lk tp:Μ)(tu tx:Str->x0):Prop where
 s:Sto K a H st C P X
 b:Bs B H X
 l:B lo=some (.lst (refs lk C.n))
 r:ux B C.n lk C.kd tp C.ps
 n:B md=none
 m:Mdl H X md P tu tx
 z:P.length<=10
 w:C.w=2/\2<=C.mo/\C.mo<=5
section
variable{B H H':Hp}{st lo:x0}{C:Cf}{P:qi Pd}{X Y:Sx}{lk:Μ}{tx:Str->x0}
theorem K2.same(h:K2 K a B H st lo md C P X lk tp tu tx)(S:yv H H'):K2 K a B H' st lo md C P X lk tp tu tx:=⟨h.s.same S,h.b.same S,h.l,h.r,h.n,h.m.same S,h.z,h.w⟩
theorem K2.go(h:K2 K a B H st lo md C P X lk tp tu tx)(s:Sto K a H' st C P Y)(g:Gx X H H' Y):K2 K a B H' st lo md C P Y lk tp tu tx:=⟨s,h.b.go h.s g,h.l,h.r,h.n,h.m.go h.s g,h.z,h.w⟩
def K2.mdA(h:K2 K a B H st lo md C P X lk tp tu tx)(g:Gx X H H' Y){o:HO}(e:H md=some o):H' md=some o:=(Kf.go ⟨e,h.m.n⟩ h.s g).1
def K2.fz(h:K2 K a B H st lo md C P X lk tp tu tx)(hd:H md=some (.dK (mdK tu P)))(o:Obj):K2 K a B (upd H md (.frz o (.dK (mdK tu P)))) st lo md C P X lk tp tu tx:=⟨h.s.but (WSh.mu hd rfl) h.m.n But.upd,h.b.but h.n But.upd,h.l,h.r,h.n,h.m.frz hd o,h.z,h.w⟩
def K2.th(h:K2 K a B H st lo md C P X lk tp tu tx){o:Obj}(hd:H md=some (.frz o (.dK (mdK tu P)))):K2 K a B (upd H md (.dK (mdK tu P))) st lo md C P X lk tp tu tx :=
 ⟨h.s.but (WSh.mu hd rfl) h.m.n But.upd,h.b.but h.n But.upd,h.l,h.r,h.n,⟨.inl ya,h.m.n,λq c=>(h.m.t q c).but (λz=>by have e:=(h.m.t q c).1;rw[z,hd]at e;cases e) But.upd,λq c=>(h.m.x q c).but (λz=>by have e:=(h.m.x q c).1;rw[z,hd]at e;cases e) But.upd⟩,h.z,h.w⟩
def K2.ok(h:K2 K a B H st lo md C P X lk tp tu tx):∀q,q∈P->okN q.nm/\Sgs q.tx/\q.tx.length<=2:=λq b=>by
 have e:=h.s.sz q b;rw[h.w.1]at e;exists h.s.nm q b,e.1,e.2.1
def K2.lr(h:K2 K a B H st lo md C P X lk tp tu tx){x:Φ}(t:ToD P x L){F:Hp}{Z:Sx}(m:Mdl F Z md P tu tx){ln:x0}(hln:F ln=some (.lst (lnV tx L))):ywa F (.ref ln) L.length 2 (lnA tx L) (txi L):=by
 exists .inr ⟨ln,rfl,by rw[<- yem];exact hln⟩,λi b=>?_;let⟨r,d,f,_⟩:=t.at h.s.pw b;have c:=h.ok r d
 have e:txi L i=r.tx:=by
  unfold txi;rw[cj,bn,bg b,f];rfl
 exists(m.ln h.s.pw t b).1,?_,?_
 .rw[e];exact c.2.1
 .rw[e];exact c.2.2
end
def vfg{tc:TT}{ts te:TS}{D:ā}{σ:St}{H:Hp}(C C':Prop)(h:∀Qb:Bool->Hp->Prop,(∀H',yv H H'->C->Qb true H')->(∀H',yv H H'->C'->Qb false H')->tc σ H Qb)(hT:∀H',yv H H'->C->ts D σ H')(hF:∀H',yv H H'->C'->te D σ H'):vcu tc ts te D σ H :=
 h _ (λH' S c=>by show (if true=true then _ else _);rw[if_pos rfl];exact hT H' S c) (λH' S c=>by show (if false=true then _ else _);rw[if_neg (by decide)];exact hF H' S c)
def ù{c:Int}{n:Nat}(h:0<n):∃w:Nat,c%(n:Int)=(w:Int)/\w<n:=by have a:=cn c (show (n:Int)≠0 by omega);have b:=cg c (show 0<(n:Int) by omega);exists(c%(n:Int)).toNat,by omega,by omega
theorem yi2{zs:Ρ}:∀ys:Υ,(∀y∈ys,y∈zs.map V.int)->∃us:Ρ,ys=us.map V.int
 |[],_=>⟨[],rfl⟩
 |y::r,h=>by
  let⟨us,e⟩:=yi2 r λz a=>h z (bM _ a);let⟨u,_,b⟩:=bq.mp (h y bN);exists u::us,by rw[e,<- b];rfl
def usd(P:qi Pd)(b:Str):Bool:=inV (.str b) (P.map λq=>baV q.bs)
def yma(P:qi Pd):(P.map λq=>baV q.bs).all Ł=true:=by rw[List.all_map,List.all_eq_true];intro q _;show Ł (baV q.bs)=true;cases q.bs<;>rfl
def yjd{P:qi Pd}{b:Str}:usd P b=true↔ ∃q,q∈P/\q.bs=some b:=by
 unfold usd inV;rw[List.any_map,cT]
 constructor
 .rintro ⟨q,a,e⟩;exists q,a,?_;revert e;show eqV (baV q.bs) (.str b)=true->_
  cases q.bs with
  |none=>intro e;cases e
  |some y=>intro e;rw[eq_of_beq (show (y == b)=true from e)]
 .rintro ⟨q,a,e⟩;exists q,a,?_;show eqV (baV q.bs) (.str b)=true;rw[e];exact beq_self_eq_true b
theorem ypd{f:Pd->Nat}:∀P:qi Pd,P≠[]->∃q,q∈P/\∀r,r∈P->f r<=f q
 |[],h=>absurd rfl h
 |[x],_=>⟨x,bN,λr a=>by rw[bE.mp a];exact bj _⟩
 |x::y::P,_=>by
  let⟨q,b,h⟩:=ypd (f:=f) (y::P) (λz=>nomatch z)
  rcases Nat.le_total (f x) (f q)with z|z
  .exists q,bM _ b,λr a=>(bB.mp a).elim (λe=>by rw[e];exact z) (h r)
  .exists x,bN,λr a=>(bB.mp a).elim (λe=>by rw[e];exact bj _) λe=>bP (h r e) z
def yrl{P:qi Pd}(w:PdW P)(h:P≠[]):(P.filter λq=>!usd P q.nm)≠[]:=by
 let⟨q,b,d⟩:=ypd (f:=λq=>q.path.length) P h;refine List.ne_nil_of_mem (cA.mpr ⟨b,?_⟩)
 cases e:usd P q.nm with
 |false=>rfl
 |true =>
  let⟨r,a,e⟩:=yjd.mp e;have t:=w.wf r a;rw[e]at t;let⟨u,i,c,g⟩:=t;obtain rfl:=į w.nd i b c;have z:=d r a;rw[g,bp,ci]at z;omega
#synth zb ["_law_store","_law_model","_law_names_here","_law_script","_law_k","_law_cell","_law_free","_law_used","_law_bare","_law_name","_law_base","_law_text_here"] ["_law_store","_law_model","_law_names_here","_law_script","_law_k"] ykq
inductive ymx(K:xr)(a:Ads)(vs:Υ)(H:Hp)(Q:VK)(E':XK):Prop
 |mk(st lo md nl l:x0)(B:Hp)(C:Cf)(P:qi Pd)(X:Sx)(lk tp:Μ)(tu tx:Str->x0)(ns:Τ)(zs:Ρ)(j:Nat)(_:vs=[.ref st,.ref md,.ref nl,.ref l,.int j])(_:K2 K a B H st lo md C P X lk tp tu tx)(_:H md=some (.dK (mdK tu P)))(_:B nl=some (.lst (ns.map V.str)))(_:ns.length=5)(_:ns.Nodup)(_:(∀x,x∈ns->okN x))(_:(∀q,q∈P->q.nm∈ns))(_:SqL K B l (zs.map V.int))(_:zs.length<=63)(_:j<=100)(_:∀(P':qi Pd)(Y:Sx)(tu' tx':Str->x0)(H':Hp),K2 K a B H' st lo md C P' Y lk tp tu' tx'->H' md=some (.dK (mdK tu' P'))->(∀q,q∈P'->q.nm∈ns)->Q (.bl true) H')
def yrk:vz P w K mg Γ CX0 15 a.Fa a.Fi ["_law_store","_law_model","_law_names_here","_law_script","_law_k"] (ymx K a):=by
 exists T.Fq.F.ok,zb,S;let⟨st,lo,d,nl,l,B,C,P,X,lk,tp,g,tx,ns,zs,j,rfl,D,a0,aD,n5,b5,aA,ac,hl,b7,hj,k⟩:=h
 have b4:P.length<=5:=by
  have e:=ģ (l:=P.map (·.nm)) (m:=ns) D.s.nd λx hx=>by
   let⟨q,I,rfl⟩:=bq.mp hx;exact ac q I
  rw[be,n5]at e;exact e
 have W:(mdK g P).length=P.length:=be _;have hw:=D.w;refine yh (yo (i:=5) zb.nd rfl (Or.inl rfl) (uh (yev T) S.m T.E9 (pac (pv 3) (pa1 (pv 4))))) ?_;refine yh (ż (i:=6) (js:=[1]) (ys:=["_law_model"]) zb.nd rfl rfl rfl (vx (pv 2)) (λC s2 H2 fp=>(ybu (Ê (zg S) (pv 0) (pv 1)))) (λC s2 H2 fp=>(pv 0)) rfl rfl (hyc:=(all_cons rfl yt)) (hrel:=(all_cons rfl yt))) ?_;refine yh (yo (i:=7) zb.nd rfl (Or.inr rfl) (yjl (wb (js:=[]) (ys:=[]) rfl (yjg (pv 1)) (λC s2 H2 fp=>(xi (r:=ywk K) xp (pv 0) yg (λ_ _=>rfl))) rfl rfl (hyc:=yt) (hrel:=yt)))) ?_;refine yh (ħ (ż (i:=8) (js:=[7]) (ys:=["_law_used"]) zb.nd rfl rfl rfl (yae (pv 1)) (λC s2 H2 fp=>(yr (r:=rIn K true) ya1 (pv 0) (pv 1) (by with_unfolding_all rfl))) (λC s2 H2 fp=>(pv 0)) rfl rfl (hyc:=(all_cons rfl yt)) (hrel:=(all_cons rfl yt)))) ?_;refine yh (wa (PW.pt (Ī (yr yb6 (pcB jo T.Aa (pa1 (pv 1))) yg (yx _)) (ω (yr xq (ym vo (pv 5) yg) yg (yx _))))) (ye (yo (i:=9) zb.nd rfl (Or.inl rfl) (xi xl (pcT (uy rfl) T.Af (pa1 (pv 1))) (ym vo (ym vd (pv 5) yg) (pcB jo T.Aa (pa1 (pv 1)))) (λ_ _=>rfl))) (yc (yq (xv (ŗ S.units) (vh (pv 0) T.A3 T.E6.m (yoa T) S.m T.E6.B .nil vg (pa1 (pv 9))) (xi xp (uc (zg S) (pv 1) (pv 9) (λ_ _=>rfl)) yg (λ_ _=>rfl)) (yx _))))) y6) ?_;refine yh (wa (PW.pt (Ī (yr yb6 (pcB yp T.Aa (pa1 (pv 8))) yg (yx _)) (ω (PW.pt (İ (yr xq (ym vo (pv 5) yg) yg (yx _)) (ð (yr (ŗ S.units) (pv 6) (xc uo) (yx _)))))))) (ye (yo (i:=9) zb.nd rfl (Or.inl rfl) (xi xl (pv 8) (ym vo (ym vd (pv 5) yg) (pcB yp T.Aa (pa1 (pv 8)))) (λ_ _=>rfl))) (ye (yw (yec (pv 1) (pv 9) ⟨rfl,rfl,rfl,rfl⟩)) (yc (yq (xv yep (vh (pv 0) T.A3 T.E7.m (ypg T) S.m T.E7.B .nil vg (pa1 (pv 9))) zf (yx _)))))) y6) ?_;refine yh (yo (i:=9) zb.nd rfl (Or.inl rfl) (xi xl (pv 6) (ym vo (ym vd (pv 5) yg) (pcB yp T.Aa (pa1 (pv 6)))) (λ_ _=>rfl))) ?_;refine yh (yo (i:=10) zb.nd rfl (Or.inl rfl) zf) ?_;refine yh (jx (wa (PW.pt (Ī (yr yb6 (pcB jo T.Aa (pa1 (pv 1))) yg (yx _)) (ω (yr yb6 (ym vo (ym vd (pv 5) yg) yg) yg (yx _))))) (yc (yo (i:=10) zb.nd rfl (Or.inl rfl) (xi xl (pcT (uy rfl) T.Af (pa1 (pv 1))) (ym vo (ym vd (pv 5) yg) (pcB jo T.Aa (pa1 (pv 1)))) (λ_ _=>rfl)))) y6)) ?_;refine yh (yo (i:=11) zb.nd rfl (Or.inl rfl) (uh (yxs T) S.m T.Og (pac (yhf (pv 3) (uk (pv 4)) uv (uk yg)) (pac (ym vo (ym vd (pv 5) yg) yg) (pa1 (ym vo (ym vd (pv 5) yg) yg)))))) ?_;refine yh (yah (zg S) (pv 1) (pv 9) (ī (pac (pv 11) (pa1 (pv 10)))) rfl) ?_;exists 5,7,yc (yq (xv yep (vh (pv 0) T.A3 T.Ra (yoo T) S.m T.R9 .nil vg (pac (pv 9) (pac (pcT w6 T.Af (pa1 (pv 11))) (pa1 (pv 10))))) zf (yx _)));exists l,zs,j,rfl,D.b.s.seq hl,by omega,λc c0 c1=>?_
 ext;exists nl,rfl,⟨_,SqL.of (D.b.s _ _ aD)⟩,λD1 aE=>?_;refine Ý (xs:=ns.map V.str) (λi G=>G D1=some (.lst (((ns.take i).filter λz=>decide (z∉P.map (·.nm))).map V.str))/\yv H G) ⟨ya,y7 aE⟩ (λi G _ z=>SqL.of (z.2 _ _ (D.b.s _ _ aD))) (λi x G hx hi z=>?_) (λH1 z=>?_)
 .obtain⟨gD,N⟩:=z;rw[bn]at hx;have ax:i<ns.length:=by rw[be]at hi;exact hi
  rw[bg ax]at hx;obtain rfl:=bD hx
  have aK:((ns.take i).filter λz=>decide (z∉P.map (·.nm))).length<=5:=by
   refine bP (List.length_filter_le _ _) ?_;rw[bH];omega
  ext;by_cases hp:ns[i]∈P.map (·.nm)
  .obtain⟨q,I,e⟩:=bq.mp hp;exists d,_,rfl,(by rw[<- e];exact(D.m.same N).get I),false,rfl,ĳ ?_;refine jp hi ⟨?_,N⟩;rw[gD,bK ax,List.filter_append,List.filter_cons_of_neg (by simpa using hp)];simp
  .exists d,_,rfl,(D.m.same N).getNo (λq I e=>hp (bq.mpr ⟨q,I,e⟩)),true,rfl,ł ?_;ext;refine we gD (ve (by rw[be];omega)) hi ⟨?_,λy o e=>yf (yb e aE) (N _ _ e)⟩;rw[ya,bK ax,List.filter_append,List.filter_cons_of_pos (by simpa using hp),bF];rfl
 let⟨ao,S1⟩:=z;rw[be,bY]at ao;have O:=S1 _ _ a0;ext;exists d,mdK g P,rfl,O,λo D2 ab=>?_;have aw:D2≠d:=λz=>by rw[z,ya]at ab;cases ab
 refine Œ (λi G=>G D2=some (.lst ((P.take i).map λq=>baV q.bs))/\yv (upd H1 d (.frz o (.dK (mdK g P)))) G) ⟨ya,y7 ab⟩ (λi G _ z=>z.2 _ _ ya) (λi kk v G ap hi z=>?_) (λG z=>?_)
 .obtain⟨gD,N⟩:=z;let⟨q,I,rfl,rfl⟩:=ř ap;have av:i<P.length:=(bv.mp I).1;have a7:=bA I;ext;refine zt (SqT.of ((((D.same S1).m.frz O o).same N).t q a7).1) (vq (j:=1) rfl) ?_;refine we (n:=(mdK g P).length) gD (ve (by rw[be,bH];omega)) hi ⟨?_,λy o e=>yf (yb e ab) (N _ _ e)⟩;rw[ya,bK av,(bv.mp I).2,bF];rfl
 let⟨gD,N⟩:=z;rw[W,bY]at gD;exists d,o,.dK (mdK g P),(λo u e=>by rw[O]at e;cases e),N _ _ ya,?_
 have S2:yv H1 (upd G d (.dK (mdK g P))):=λc o' e=>by
  by_cases z:c=d
  .rw[z,ya];rw[z,O]at e;exact e
  .exact yf z (N _ _ (yf z e))
 have aj:upd G d (.dK (mdK g P)) D2=some (.lst (P.map λq=>baV q.bs)):=yf aw gD;generalize upd G d (.dK (mdK g P))=H2 at S2 aj⊢;clear gD N ab G;have ak:=S1.trans S2;have a2:=ak _ _ a0;ext;exists d,mdK g P,rfl,a2,λo D3 a6=>?_;have aB:D3≠d:=λz=>by rw[z,ya]at a6;cases a6
 refine yfo (λi G=>G D3=some (.lst (((P.take i).filter λq=>!usd P q.nm).map λq=>V.str q.nm))/\yv (upd H2 d (.frz o (.dK (mdK g P)))) G) ⟨ya,y7 a6⟩ (λi G _ z=>z.2 _ _ ya) (λi kk v G ap hi z=>?_) (λG z=>?_)
 .obtain⟨gD,N⟩:=z;let⟨q,I,rfl,rfl⟩:=ř ap;have av:i<P.length:=(bv.mp I).1
  have aK:((P.take i).filter λq=>!usd P q.nm).length<=5:=by
   refine bP (List.length_filter_le _ _) ?_;rw[bH];omega
  have nU:D2≠d:=aw;ext;exists D2,_,rfl,.inl (SqL.of (N _ _ (yf nU aj))),rfl,yma _,?_;ext;have e1:P.take (i+1)=P.take i++[q]:=by rw[bK av,(bv.mp I).2]
  cases hu:usd P q.nm with
  |true =>
   rw[show inV (kV (.inr q.nm)) (P.map λq=>baV q.bs)=true from hu];refine ĳ ?_;refine jp hi ⟨?_,N⟩;rw[gD,e1,List.filter_append,List.filter_cons_of_neg (by rw[hu];decide)];simp
  |false =>
   rw[show inV (kV (.inr q.nm)) (P.map λq=>baV q.bs)=false from hu];refine ł ?_;ext;refine we gD (ve (by rw[be];omega)) hi ⟨?_,λy o e=>yf (yb e a6) (N _ _ e)⟩;rw[ya,e1,List.filter_append,List.filter_cons_of_pos (by rw[hu];rfl),bF];rfl
 let⟨gD,N⟩:=z;rw[W,bY]at gD;refine g8 ?_;exists d,o,.dK (mdK g P),(λo u e=>by rw[a2]at e;cases e),N _ _ ya,?_
 have S3:yv H2 (upd G d (.dK (mdK g P))):=λc o' e=>by
  by_cases z:c=d
  .rw[z,ya];rw[z,a2]at e;exact e
  .exact yf z (N _ _ (yf z e))
 have aq:upd G d (.dK (mdK g P)) D3=some (.lst ((P.filter λq=>!usd P q.nm).map λq=>V.str q.nm)):=yf aB gD;generalize upd G d (.dK (mdK g P))=H3 at S3 aq⊢;have ad:=ak.trans S3;have ah:=S3 _ _ (S2 _ _ ao);clear gD N a6 G aj aw aB a2 O ak S2 S1 S3 H1 H2 ao;refine vcy (by assumption) ?_;refine yky λ_ _ _ _ _ _=>?_;refine vfg (0<P.length) True (λQb qT qF=>?_) (λH4 S4 i0=>?_) (λH4 S4 _=>?_)
 .ext;exists d,_,rfl,ad _ _ a0,?_;rw[W];ext;refine ur (λh1=>?_) (λh1=>qF _ (yv.refl _) trivial);ext;by_cases h3:c%5=0
  .rw[br h3];exact qT _ (yv.refl _) (by omega)
  .rw[bC h3];exact qF _ (yv.refl _) trivial
 .have a4:=ad.trans S4;have ai:=a4 _ _ a0;ext;exists d,_,rfl,ai,λkl hkl0=>?_;rw[Ð];exists hkl0,H5,S5,hkl5;have f:=S5 _ _ ai;ext;exists d,_,rfl,f,?_;rw[W];ext;let⟨w,Z,J⟩:=ù (c:=c/5) i0;rw[Z];refine jy (v:=.str (P[w]).nm) (SqL.of hkl5) (vq (by rw[bn,bn,bg J];rfl)) ?_;have I:=cc J;generalize P[w]=q at I⊢;have M:=D.same (a4.trans S5);let⟨ds,vl,vm,vp,vc,aC⟩:=M.s.ins;ext;refine M.s.textof (D.ok q I).1.1 (λno=>absurd rfl (no q I)) λr S e Y tq H6 R g6 _ aR=>?_;obtain rfl:=į D.s.nd S I e;have ae:=M.go R g6;ext;exists d,_,rfl,ae.m.get I,?_;ext;refine zt (SqT.of (ae.m.t r I).1) (vq (j:=0) rfl) ?_;refine yal r.tx r.tx (SqL.of aR.1) (SqL.of (ae.m.x r I).1) ?_;rw[br rfl];exact k P Y g tx H6 ae (M.mdA g6 f) ac
 have a1:=S4 _ _ aq;have a8:=S4 _ _ ah;have a4:=ad.trans S4;clear aq ah ad S4 H3;refine ypn ?_;refine vcy (by assumption) ?_;refine yky λ_ _ _ _ _ _=>?_;refine vfg ((P.filter λq=>!usd P q.nm)≠[]) ((P.filter λq=>!usd P q.nm)=[]\/(ns.filter λz=>decide (z∉P.map (·.nm)))≠[]) (λQb qT qF=>?_) (λH5 S5 hb=>?_) (λH5 S5 hf=>?_)
 .ext;refine x5 (SqL.of a1) ?_;rw[be];ext;refine ur (λh1=>?_) (λh1=>qF _ (yv.refl _) (.inl (ck (by omega))));have aG:(P.filter λq=>!usd P q.nm)≠[]:=λz=>by rw[z]at h1;exact absurd h1 (by decide)
  ext;refine ur (λh3=>qT _ (yv.refl _) aG) (λh3=>?_);ext;exists by walk_at "len",λe0 he0=>?_
  exists he0,H5,S5,he5
  refine yb2 (ns.filter λz=>decide (z∉P.map (·.nm))) [] (λx hx=>(aA x (cA.mp hx).1).2) (λx hx=>nomatch hx) (SqL.of (S5 _ _ a8)) (SqL.of he5) ?_
  by_cases hf:(ns.filter λz=>decide (z∉P.map (·.nm)))=[]
  .rw[br hf];exists _,rfl,qT _ S5 aG
  .rw[bC hf];exists _,rfl,qF _ S5 (.inr hf)
 .have U:=a4.trans S5;have M:=D.same U;have f:=U _ _ a0;ext;refine x5 (SqL.of (S5 _ _ a1)) ?_;rw[be];have aP:=List.length_pos_iff.mpr hb;ext;let⟨w,Z,J⟩:=ù (c:=c/5) aP;rw[Z];refine jy (v:=.str ((P.filter λq=>!usd P q.nm)[w]).nm) (SqL.of (S5 _ _ a1)) (vq (by rw[bn,bg J];rfl)) ?_;have I:=cc J;generalize (P.filter λq=>!usd P q.nm)[w]=q at I⊢;let⟨a7,aH⟩:=cA.mp I;have aQ:∀r,r∈P->r.bs≠some q.nm:=λr S e=>by rw[yjd.mpr ⟨r,S,e⟩]at aH;cases aH
  ext;exists d,rfl,.inl ⟨_,.of f⟩,?_;ext;exists mdK g P,.inr q.nm,_,f,rfl,yjs g a7,?_;rw[ymk];have b6:But d H5 (upd H5 d (.dK (mdK g (P.filter λr=>decide (r.nm≠q.nm))))):=But.upd;have R:=M.s.but (WSh.mu f rfl) M.m.n b6;have ay:=M.b.but M.n b6;have al:=M.m.drop f q.nm;have ag:upd H5 d (.dK (mdK g (P.filter λr=>decide (r.nm≠q.nm)))) d=some (.dK (mdK g (P.filter λr=>decide (r.nm≠q.nm)))):=ya;generalize upd H5 d (.dK (mdK g (P.filter λr=>decide (r.nm≠q.nm))))=H6 at R ay al ag⊢;let⟨ds,vl,vm,vp,vc,aC⟩:=R.ins;ext;refine R.drop (D.ok q a7).1.1 (λno=>absurd rfl (no q a7)) (λr S e ⟨u,hu,eu⟩=>absurd eu (aQ u hu)) λr S e _ Y H7 aX g7=>?_;ext;exact k _ Y g tx H7 ⟨aX,ay.go R g7,D.l,D.r,D.n,al.go R g7,bP (List.length_filter_le _ _) D.z,D.w⟩ (Kf.go ⟨ag,al.n⟩ R g7).1 λu hu=>ac u (cA.mp hu).1
 have aF:(ns.filter λz=>decide (z∉P.map (·.nm)))≠[]:=hf.elim (λz y=>by
  have e:P=[]:=Classical.byContradiction λne=>yrl D.s.pw ne z;subst e;rw[List.filter_eq_self.mpr λx _=>by simp]at y;rw[y]at n5;cases n5) id
 have U:=a4.trans S5;have aa:=S5 _ _ a8;clear a8 a1 a4 S5 hf H4;ext;refine x5 (SqL.of aa) ?_;rw[be];have aT:=List.length_pos_iff.mpr aF;ext;let⟨w,Z,J⟩:=ù (c:=c/5) aT;rw[Z];refine jy (v:=.str ((ns.filter λz=>decide (z∉P.map (·.nm)))[w])) (SqL.of aa) (vq (by rw[bn,bg J];rfl)) ?_;have hb:=cc J;generalize (ns.filter λz=>decide (z∉P.map (·.nm)))[w]=b at hb⊢;let⟨az,aO⟩:=cA.mp hb
 have am:∀q,q∈P->q.nm≠b:=λq I e=>by
  have z:=of_decide_eq_true aO;exact z (bq.mpr ⟨q,I,e⟩)
 ext;exists λσ2 F=>∃(x:Φ)(L:Η),σ2=[some (.ref st),some (.ref d),some (.ref nl),some (.ref l),some (.int j),some (.int c),some (.ref D1),some (.ref D2),some (.ref D3),some (.str b),some (baV x),none]/\ToD P x L/\yv H F,?_,?_
 .have f:=U _ _ a0;refine ifI (0<P.length) (λQb qT qF=>?_) (λi0=>?_) ?_
  .ext;exists d,_,rfl,f,?_;rw[W];ext;refine ur (λh1=>?_) (λh1=>qF);ext;by_cases h3:0<c/40%3
   .rw[br h3];exact qT (by omega)
   .rw[bC h3];exact qF
  .ext;exists d,_,rfl,f,λkl hkl0=>?_;rw[Ð];exists hkl0,H6,S6,hkl6;ext;exists d,_,rfl,S6 _ _ f,?_;rw[W];ext;let⟨w,Z,J⟩:=ù (c:=c/120) i0;rw[Z];refine jy (v:=.str (P[w]).nm) (SqL.of hkl6) (vq (by rw[bn,bn,bg J];rfl)) ?_;ext;exists some (P[w]).nm,_,rfl,⟨P[w],cc J,rfl,rfl⟩,U.trans S6
  .exists none,[],rfl,rfl,U
 clear U aa H5;rintro σ2 F ⟨x,L,rfl,hL,SF⟩;ext;exists by decide,l,_,rfl,(D.b.s.trans SF).seq hl,λp ys hp0 aN aS=>?_
 let⟨us,rfl⟩:=yi2 ys aN;rw[be,be]at aS;exists hp0,H6,S6,hp6;obtain⟨z3,aV,b1⟩:∃z:Nat,c/1000%3=(z:Int)/\z<=2:=⟨(c/1000%3).toNat,by omega,by omega⟩;ext;rw[aV];exists p,us,z3,_,rfl,hp6,by omega,by omega,λt ts H7 aZ aW aU ba S7=>?_
 have ar:=SF.trans (S6.trans S7);ext;exists by walk_at "len",λu hu0=>?_
 exists hu0,H8,S8,hu8;have a9:=D.same (ar.trans S8);have a3:=(ar.trans S8) _ _ a0;have as:Kf H8 X t (.lst (ts.map V.int)):=(Kf.new (D.same (SF.trans S6)).s aZ aW).same S8;have aL:Kf H8 X u (.tup [.ref t,baV x]):=Kf.new (D.same ar).s hu0 hu8;ext;exists d,_,rfl,yla.k (k:=.inr b) a3 (ve (by rw[W];omega)),?_;rw[yq6 (q:=⟨b,x,L,ts⟩) am];have b9:But d H8 (upd H8 d (.dK (mdK (upS g b u) (P++[⟨b,x,L,ts⟩])))):=But.upd;have au:=a9.s.but (WSh.mu a3 rfl) a9.m.n b9;have aJ:=a9.b.but a9.n b9;have an:=a9.m.put (q:=⟨b,x,L,ts⟩) a3 am aL as;have aI:=as.but (λz=>by have e:=as.1;rw[z,a3]at e;cases e) b9;have af:upd H8 d (.dK (mdK (upS g b u) (P++[⟨b,x,L,ts⟩]))) d=some (.dK (mdK (upS g b u) (P++[⟨b,x,L,ts⟩]))):=ya;generalize upd H8 d (.dK (mdK (upS g b u) (P++[⟨b,x,L,ts⟩])))=H9 at au aJ an aI af⊢;let⟨ds,vl,vm,vp,vc,aC⟩:=au.ins;ext;refine û (SqL.of aI.1) λy hy0=>?_;exists hy0,HA,SA,hyA;have a5:=au.same SA;let⟨bb,b3,bc,bd,b2,b0⟩:=a5.ins;ext;refine a5.put (aA b az) ⟨hyA,aU,by omega⟩ hL am (by omega) λY HB aM gB=>?_;ext;exact k _ Y _ _ HB ⟨aM,(aJ.same SA).go a5 gB,D.l,D.r,D.n,(an.same SA).go a5 gB,by rw[bp];show P.length+1<=10;omega,D.w⟩ (Kf.go ⟨SA _ _ af,an.n⟩ a5 gB).1 λq I=>(bO.mp I).elim (ac q) λz=>by rw[bE.mp z];exact az
def yan(mx bt:Nat->Int):Nat->Int
 |0=>1
 |j+1=>yan mx bt j*giv (mx j) (bt j)
theorem vb3{mx:Nat->Int}:∀m:Nat,m<100000->(∀j,j<m->Ch (mx j))->ywm m (yan mx bt m) (16777216^m) (snK mx bt m)
 |0,_,_=>vdw
 |m+1,hm,hc=>by
  have c:ywm m (yan mx bt m) (16777216^m) (snK mx bt m):=vb3 m (by omega) λj d=>hc j (by omega);have a:=(z5 (bt:=bt) m λj d=>hc j (by omega)).1;have e:=yil (b:=bt m) (by omega) a (hc m (by omega)) c;rw[Int.pow_succ];exact e
theorem yp3:∀k:Nat,pw k=256^k
 |0=>rfl
 |k+1=>by
  show pw k*256=_;rw[yp3 k,Int.pow_succ]
def ylx{mx:Nat->Int}{m:Nat}(hm:m<100000)(hc:∀j,j<m->Ch (mx j)):yan mx bt m*256^(tL (snK mx bt m)).length<1024*16777216^m:=by rw[<- yp3,yex];exact ysg (by omega) (z5 m hc).1 (vb3 m hm hc)
#synth zr ["_law_told","_law_data","_law_left","_law_right","_law_chance","_law_bit","_law_byte"] ["_law_told","_law_data"] yk3
inductive yha(K:xr)(vs:Υ)(H:Hp)(Q:VK)(E':XK):Prop
 |mk(r d:x0)(m:Nat)(tu:Μ)(mx bt:Nat->Int)(ns:Ρ)(_:vs=[.ref r,.ref d])(_:H r=some (.lst (refs tu m)))(_:(∀j,j<m->H (tu j)=some (.tup [.int (mx j),.int (bt j)])/\Ch (mx j)/\(bt j=0\/bt j=1)))(_:H d=some (.lst (ns.map V.int)))(_:yan mx bt m*256^ns.length<1024*16777216^m)(_:Q (.bl true) H)
def yqq:vz P w K mg Γ CX0 1 a.Fb a.Fj ["_law_told","_law_data"] (yha K):=by
 exists T.Fr.F.ok,zr,L;let⟨r,d,m,t,b,f,v,rfl,g,p,x,q,k⟩:=h;refine yh (yo (i:=2) zr.nd rfl (Or.inl rfl) yg) ?_;refine yh (yo (i:=3) zr.nd rfl (Or.inl rfl) yg) ?_;refine yh (xz PassesOwn.never rfl (vx (pv 0)) (ĭ rfl (xf (vk (i:=4) zr.nd rfl (Or.inl rfl)) (xf (vk (i:=5) zr.nd rfl (Or.inl rfl)) À))) (ye (yo (i:=3) zr.nd rfl (Or.inl rfl) (ym wq (pv 3) (vn rfl T.Ce))) (yc (wa (yr xq (pv 5) yg (yx _)) (yc (yo (i:=2) zr.nd rfl (Or.inl rfl) (ym wq (pv 2) (pv 4)))) (yc (yo (i:=2) zr.nd rfl (Or.inl rfl) (ym wq (pv 2) (ym zy (vn rfl T.Ce) (pv 4))))))))) ?_;refine yh (xz PassesOwn.never rfl (vx (pv 1)) (vk (i:=6) zr.nd rfl (Or.inl rfl)) (yc (yo (i:=2) zr.nd rfl (Or.inl rfl) (ym wq (pv 2) yg)))) ?_;exists 2,5,yc (yq (xv ó (pv 2) (pv 3) (yx _)));exists r,rfl,⟨_,SqL.of g⟩,x8 (K:=K) (a:=r) (xs:=refs t m) (λi σ2 G=>∃(j l:Ψ),σ2=[some (.ref r),some (.ref d),some (.int (yan b f i)),some (.int (1024*16777216^i)),j,l,none]/\H=G) ⟨_,_,rfl,rfl⟩ (λi σ2 G Z ⟨_,_,_,e⟩=>by rw[<- e];exact SqL.of g) ?_ ?_
 .rintro i y σ2 G u ⟨j,l,rfl,rfl⟩;let⟨rfl,D⟩:=uw u;let⟨I,⟨N,M⟩,c⟩:=p i D;refine Ĭ (SqT.of I) rfl ?_;ext;have C:(1024:Int)*16777216^i*16777216=1024*16777216^(i+1):=by rw[Int.mul_assoc,Int.pow_succ]
  rw[C];rcases c with c|c
  .refine ur (λz=>absurd (c.symm.trans z) (by decide)) (λZ=>?_);ext;exists _,_,by show _=[_,_,some (V.int (yan b f i*giv (b i) (f i))),_,_,_,_];rw[c];rfl,rfl
  .refine ur (λZ=>?_) (λz=>absurd c z);ext;exists _,_,by show _=[_,_,some (V.int (yan b f i*giv (b i) (f i))),_,_,_,_];rw[c];rfl,rfl
 .rintro σ2 G ⟨j,l,rfl,rfl⟩;rw[vt];ext;exists d,rfl,⟨_,SqL.of x⟩,x8 (K:=K) (a:=d) (xs:=v.map V.int) (λi σ2 G=>∃(o:Ψ),σ2=[some (.ref r),some (.ref d),some (.int (yan b f m*256^i)),some (.int (1024*16777216^m)),j,l,o]/\H=G) ⟨_,by rw[Int.pow_zero,Int.mul_one],rfl⟩ (λi σ2 G Z ⟨_,_,e⟩=>by rw[<- e];exact SqL.of x) ?_ ?_
  .rintro i y σ2 G u ⟨o,rfl,rfl⟩;ext;exists _,by rw[Int.mul_assoc,<- Int.pow_succ],rfl
  .rintro σ2 G ⟨o,rfl,rfl⟩;rw[be];ext;rw[br q];exact k
#synth ĥ ["_law_store","_law_looks_here","_law_model","_law_name","_law_most","_law_behind","_law_text_here","_law_base","_law_learned","_law_data"] ["_law_store","_law_looks_here","_law_model","_law_name","_law_most","_law_behind"] yka
inductive yge(K:xr)(a:Ads)(vs:Υ)(H:Hp)(Q:VK)(E':XK):Prop
 |mk(st lo md bh:x0)(B:Hp)(C:Cf)(P:qi Pd)(X:Sx)(lk tp:Μ)(tu tx:Str->x0)(q:Pd)(bs:Ρ)(_:vs=[.ref st,.ref lo,.ref md,.str q.nm,.int (C.mo:Nat),.ref bh])(_:K2 K a B H st lo md C P X lk tp tu tx)(_:q∈P)(_:Kf H X bh (.lst (bs.map V.int)))(_:Byt bs)(_:bs.length<=10)(_:∀Y H',Sto K a H' st C P Y->Gx X H H' Y->Q (.bl true) H')
def yq9:vz P w K mg Γ CX0 15 a.Fc a.Fk ["_law_store","_law_looks_here","_law_model","_law_name","_law_most","_law_behind"] (yge K a):=by
 exists T.Fs.F.ok,ĥ,f;let⟨st,lo,md,bh,B,C,P,X,lk,tp,tu,tx,q,bs,rfl,p,I,ap,ad,aJ,k⟩:=h;let⟨n1,n6,_⟩:=p.s.cf;let⟨ab,aa,aN⟩:=p.ok q I;have ax:=p.z;have hw:=p.w;have L:=p.s.to q I;have aG:=L.len p.s.pw;have J:yaq (Ú (q.path.map (·.2))):=jn _;have aK:(q.by C).length<=5500:=yd2 n1 n6 J (by omega);have uq:∀{r:Pd},r∈P->r.nm=q.nm->r=q:=λ{r}f e=>į p.s.nd f I e;have ao:Byt (q.by C):=ybq _;refine yh (yow (uc (zg f) (pv 2) (pv 3) (λu u=>rfl)) (ĭ rfl (xf (vk (i:=6) ĥ.nd rfl (Or.inl rfl)) (xf (vk (i:=7) ĥ.nd rfl (Or.inl rfl)) À)))) ?_;refine yh (yo (i:=8) ĥ.nd rfl (Or.inl rfl) (uh (yet T) f.m T.Ea (pac (pv 2) (pa1 (pv 7))))) ?_;refine yh (yo (i:=9) ĥ.nd rfl (Or.inl rfl) (vh (pv 0) T.A3 T.Cd.m (ye4 T) f.m T.Cd.B .nil vg (pa1 (pv 3)))) ?_;refine yh (wa (PW.pt (İ (yr (Õ f.units) (vh (pv 0) T.A3 T.E6.m (yoa T) f.m T.E6.B .nil vg (pa1 (pv 3))) (pv 6) (yx _)) (ð (yr (Õ f.units) (ö (yz5 T) f.m rfl T.Ru T.R8.kp T.Rt .nil vg (pac (pv 1) (pac (pv 9) (pac (pv 4) (pa1 (pv 8)))))) (pv 6) (yx _))))) (yc (yq ı)) y6) ?_;refine yh (wa (yr (Õ f.units) (ö (yp9 T) f.m rfl T.R7 T.P8.kp T.R6 .nil vg (pac (pv 1) (pac (ym ykz (pv 9) (pv 5)) (pac (pv 4) (pa1 (pv 8)))))) (ī (pac (pv 6) (pa1 (pcB yp T.Aa (pa1 (pv 9)))))) (yx _)) (yc (yq ı)) y6) ?_;exists 6,4,yc (yq (uh (yqq T) f.m T.Fr (pac (yag (ywu T) f.m rfl T.Rr T.R4.kp T.Rq .nil v7 (pac (pv 1) (pac (pv 6) (pa1 (pv 8))))) (pa1 (pv 9)))));exists md,_,rfl,p.m.get I,?_;refine Ĭ (SqT.of (p.m.t q I).1) rfl ?_;ext;exists md,P,X,tu,tx,q.bs,q.path,rfl,p.m,p.s.pw,by omega,L,λln H1 a2 a4 S1=>?_
 have D:=p.same S1;let⟨aH,aB,aP,aD,aC,aq⟩:=D.s.ins;ext;refine D.s.bytesof ab.1 (λno=>absurd rfl (no q I)) λr f e dl H2 a0 a3 S2=>?_;obtain rfl:=uq f e;have g:=D.same S2;have Z:Kf H2 X ln (.lst (lnV tx r.path)):=(Kf.new p.s a2 a4).same S2;have U:Kf H2 X dl (.lst ((r.by C).map V.int)):=Kf.new D.s a0 a3;have a1:=(ap.same S1).same S2;let⟨ay,aO,aA,aF,aL,ac⟩:=g.s.ins;ext;refine g.s.textof ab.1 (λno=>absurd rfl (no r I)) λd ar e' Y tq H3 ak g3 af ai=>?_;obtain rfl:=uq ar e';have c:=g.go ak g3;have O:=Z.go g.s g3;have v:=U.go g.s g3;have aj:=a1.go g.s g3;have as:=g3.ahead (S1.trans S2);clear Z U a1 aq ac g D S1 S2 g3 a4 a2 a0 a3 ap af p H2 H1;ext;refine yal d.tx d.tx (SqL.of ai.1) (SqL.of (c.m.x d I).1) ?_;rw[br rfl];ext;have ri:∀{F:Hp}{dd:x0}{dt:Ρ},yv H3 F->F dd=some (.lst (dt.map V.int))->Byt dt->dt.length<=12000->vez F lo dd (.ref ln) C.n lk C.kd tp C.ps dt C.mo d.path.length 2 (lnA tx d.path) (txi d.path):=λ{F dd dt}S hd hb hz=>⟨S _ _ (c.b.s _ _ c.l),n1,n6,c.r.same (c.b.s.trans S),hd,hb,hz,by omega,c.lr L (c.m.same S) (S _ _ O.1),by decide,by omega,by omega⟩
 let⟨N,a7,a5⟩:=ź (kd:=C.kd) (ps:=C.ps) (bs:=[]) n1 n6 J aa λu z=>(nomatch z)
 rw[cO,<- Ë]at N a7 a5;have ep:δ C.n C.kd C.ps (uu (txi d.path) d.path.length) d.tx=d.by C:=by rw[Ë];rfl
 rw[ep]at N a7 a5;exists lo,dl,.ref ln,C.n,lk,C.kd,tp,C.ps,d.by C,C.mo,d.path.length,2,_,_,rfl,ri (yv.refl _) v.1 ao (by omega),λM r H4 hM y aE aI ae S4=>?_,λa6 H4 S4=>(a6 _ (by omega) N a5).elim;obtain rfl:M=d.tx.length:=N.uniq y.b1 y.b0;rw[a7]at ae;ext;refine yal d.tx d.tx (SqL.of ae) (SqL.of (S4 _ _ (c.m.x d I).1)) ?_;rw[br rfl];ext;exists dl,bh,_,_,rfl,rfl,S4 _ _ v.1,S4 _ _ aj.1,jf (by rw[be,be];omega),λcq hcq0=>?_;rw[<- bF];exists hcq0,H5,S5,hcq5;have ah:=S4.trans S5;let⟨a8,al,am⟩:=ź (kd:=C.kd) (ps:=C.ps) (bs:=bs) n1 n6 J aa ad;rw[<- Ë,ep]at a8 al am;ext;exists lo,cq,.ref ln,C.n,lk,C.kd,tp,C.ps,_,C.mo,d.path.length,2,_,_,rfl,ri ah hcq5 (ü ao ad) (by rw[bp];omega),λM t r3 H6 hM y aM aw an R S6=>?_,λa6 H6 S6=>(a6 _ (by omega) a8).elim;obtain rfl:M=d.tx.length:=a8.uniq y.b1 y.b0;rw[al]at R;rw[am]at an;have ag:=ah.trans S6;ext;refine x5 (SqL.of (ag _ _ v.1)) ?_;rw[be];ext;exists by walk_at "len",λu hu0=>?_
 exists hu0,H7,S7,hu7;have o:=ag.trans S7;have sI:∀{G:Hp}{q:x0}{xs:Ρ},G q=some (.lst (xs.map V.int))->Sd K G (.ref q) (.list (xs.map PyData.int)) 1:=λh=>Sd.lst (SqL.of h) (Sds.ints _);refine vd7 (Sd.tup (SqT.of (S7 _ _ an)) (.cons (sI (S7 _ _ R)) (.cons (Sd.int _) .nil))) (Sd.tup (SqT.of hu7) (.cons (sI (o _ _ (c.m.x d I).1)) (.cons (Sd.int _) .nil))) (by decide) ?_;ext;exists lo,tx d.nm,.ref ln,C.n,lk,C.kd,tp,C.ps,d.tx,d.path.length,2,_,_,rfl,⟨o _ _ (c.b.s _ _ c.l),n1,n6,c.r.same (c.b.s.trans o),⟨o _ _ (c.m.x d I).1,aa,by omega⟩,c.lr L (c.m.same o) (o _ _ O.1),by decide,by omega,by omega⟩,λr8 av H8 hP W S8=>?_;have a9:=o.trans S8;have az:=xm d.tx;ext;exists r8,dl,(dec d.tx).length,av,_,_,d.by C,rfl,hP.r,λj hj=>⟨hP.t j hj,(W j hj).1,yk9 hj⟩,a9 _ _ v.1,?_,k Y H8 (ak.same a9) (as.same a9);rw[<- ep];exact ylx (by omega) λj hj=>(W j hj).1
def yyv{g:Bool->Bool}{H:Hp}{Q:VK}{x y:V}{d e:PyData}{k:Nat}(h1:Sd K H x d k)(h2:Sd K H y e k)(hk:k<=60)(h:Q (.bl (g (PyData.eqv d e))) H):ywn K g x y H Q:=by
 have a:∀{x:V}{d:PyData},Sd K H x d k->SeqAt.shaped d=true:=λ{x d}h=>by
  unfold SeqAt.shaped;rw[bV];exists h.lay,br (by have:=h.dep;omega)
 exists d,e,h1.rd,h2.rd,a h1,a h2,h
def dTs(A:qi (Ρ)):qi PyData:=A.map λt=>PyData.list (t.map PyData.int)
theorem yoh:∀A B:qi (Ρ),PyData.eqvAll (dTs A) (dTs B)=decide (A=B)
 |[],[]=>by simp[dTs,PyData.eqvAll]
 |[],_::_=>by simp[dTs,PyData.eqvAll]
 |_::_,[]=>by simp[dTs,PyData.eqvAll]
 |x::r,y::t=>by
  have e:=yoh r t;unfold dTs at e⊢;simp only[bT,PyData.eqvAll,PyData.eqv,z8,e];by_cases h:x=y<;>by_cases h':r=t<;>simp[h,h']
def yrx(L:Η):(List.range L.length).map (txi L)=L.map (·.2):=by
 refine List.ext_getElem? λi=>?_;rw[bn];rcases Nat.lt_or_ge i L.length with h|h
 .rw[cE h];unfold txi;simp[cj,bg h]
 .rw[ce (by rw[bU];exact h),ce (by rw[be];exact h)];rfl
def Mdl.sd{H:Hp}{X:Sx}{l:x0}{P:qi Pd}{tx:Str->x0}(h:Mdl H X md P tu tx)(w:PdW P){x:Φ}(t:ToD P x L)(hl:H l=some (.lst (lnV tx L))):Sd K H (.ref l) (.list (dTs (L.map (·.2)))) 2:=by rw[<- yrx];unfold dTs;rw[bR];rw[yem]at hl;exact Sd.lst (SqL.of hl) (Sds.refs _ λi a=>Sd.lst (SqL.of (h.ln w t a).1) (Sds.ints _))
def vdg{C:Cf}{q r:Pd}(n1:1<=C.n)(n6:C.n<=6)(hq:Sgs q.tx)(hr:Sgs r.tx)(e:q.path.map (·.2)=r.path.map (·.2))(h:(q.by C).take (r.by C).length=r.by C):q.tx=r.tx:=by unfold Pd.by at h;rw[<- e]at h;have a:yaq (Ú (q.path.map (·.2))):=jn _;exact yr7 hq hr (λj Z=>æ n1 n6 a j) (λj Z=>æ n1 n6 a j) h
#synth ġ ["_law_store","_law_model","_law_one","_law_other","_law_data","_law_beside"] ["_law_store","_law_model"] yj3
inductive yh7(K:xr)(a:Ads)(vs:Υ)(H:Hp)(Q:VK)(E':XK):Prop
 |mk(st lo md:x0)(B:Hp)(C:Cf)(P:qi Pd)(X:Sx)(lk tp:Μ)(tu tx:Str->x0)(_:vs=[.ref st,.ref md])(_:K2 K a B H st lo md C P X lk tp tu tx)(_:H md=some (.dK (mdK tu P)))(_:∀H',yv H H'->Q (.bl true) H')
def yru:vz P w K mg Γ CX0 5 a.Fd a.Fl ["_law_store","_law_model"] (yh7 K a):=by
 exists T.Ft.F.ok,ġ,n;let⟨st,lo,l,B,C,P,X,lk,tp,L,tx,rfl,h2,R,k⟩:=h;let⟨n1,n6,_⟩:=h2.s.cf;have ag:=h2.z;have y:=h2.s.pw;have uq:∀{q r:Pd},r∈P->q∈P->r.nm=q.nm->r=q:=λ{q r}n hq e=>į h2.s.nd n hq e;refine yh (ħ (xz PassesOwn.never rfl (yae (pv 1)) (vk (i:=2) ġ.nd rfl (Or.inl rfl)) (yc (xz PassesOwn.never rfl (ymf (pv 1)) (vk (i:=3) ġ.nd rfl (Or.inl rfl)) (ye (yo (i:=4) ġ.nd rfl (Or.inl rfl) (vh (pv 0) T.A3 T.Cd.m (ye4 T) n.m T.Cd.B .nil vg (pa1 (pv 2)))) (ye (yo (i:=5) ġ.nd rfl (Or.inl rfl) (vh (pv 0) T.A3 T.Cd.m (ye4 T) n.m T.Cd.B .nil vg (pa1 (pv 3)))) (yc (wa (yr (ŗ n.units) (uh (yet T) n.m T.Ea (pac (pv 1) (pa1 (xi xp (uc (zg n) (pv 1) (pv 2) (λm m=>rfl)) yg (λm m=>rfl))))) (uh (yet T) n.m T.Ea (pac (pv 1) (pa1 (xi xp (uc (zg n) (pv 1) (pv 3) (λm m=>rfl)) yg (λm m=>rfl))))) (yx _)) (ye (wa (PW.pt (Ī (yr (ŗ n.units) (xi xp (uc (zg n) (pv 1) (pv 2) (λm m=>rfl)) yg (λm m=>rfl)) (xi xp (uc (zg n) (pv 1) (pv 3) (λm m=>rfl)) yg (λm m=>rfl)) (yx _)) (ω (yr (Õ n.units) (pv 4) (pv 5) (yx _))))) (yc (yq ı)) y6) (yc (wa (PW.pt (Ī (yr (Õ n.units) (xi xp (uc (zg n) (pv 1) (pv 2) (λm m=>rfl)) yg (λm m=>rfl)) (xi xp (uc (zg n) (pv 1) (pv 3) (λm m=>rfl)) yg (λm m=>rfl)) (yx _)) (ω (yr (ŗ n.units) (ub jr (pv 4) uv (uk (pcB yp T.Aa (pa1 (pv 5))))) (pv 5) (yx _))))) (yc (yq ı)) y6))) y6)))))))) ?_;exists 2,4,yc (yq ı);exists l,mdK L P,rfl,R,λo=>?_;have hZ:=h2.fz R o;refine ÿ (o:=o) (d:=l) (kvs:=mdK L P) (λi σ2 F=>∃(v3 N M S:Ψ),σ2=[some (.ref st),some (.ref l),v3,N,M,S]/\yv (upd H l (.frz o (.dK (mdK L P)))) F) ⟨_,_,_,_,rfl,λm m e=>e⟩ ?_ ?_ ?_
 .rintro i σ2 F _ ⟨v3,N,M,S,rfl,G⟩;exact G _ _ ya
 .rintro i kk v σ2 F a0 ⟨v3,N,M,S,rfl,G⟩;let⟨q,hq,rfl,rfl⟩:=ř a0;have f:=bA hq;have a4:=h2.ok q f;ext;exists l,mdK L P,o,rfl,G _ _ ya,?_;refine ÿ (o:=o) (d:=l) (kvs:=mdK L P) (λj σ2 F=>∃(N M S:Ψ),σ2=[some (.ref st),some (.ref l),some (.str q.nm),N,M,S]/\yv (upd H l (.frz o (.dK (mdK L P)))) F) ⟨_,_,_,rfl,G⟩ ?_ ?_ ?_
  .rintro j σ2 F _ ⟨N,M,S,rfl,G⟩;exact G _ _ ya
  .rintro j kk v σ2 F a0 ⟨N,M,S,rfl,G⟩;let⟨r,n,rfl,rfl⟩:=ř a0;have g:=bA n;have a6:=h2.ok r g;have hF:=hZ.same G;let⟨ds,vl,vm,vp,vc,ae⟩:=hF.s.ins;ext;refine hF.s.bytesof a4.1.1 (λno=>absurd rfl (no q f)) λp ac e l1 G1 a9 Y T1=>?_;obtain rfl:=uq ac f e;have O:=hF.same T1;let⟨ak,ah,al,aj,ai,ab⟩:=O.s.ins;ext;refine O.s.bytesof a6.1.1 (λno=>absurd rfl (no r g)) λD ad e2 l2 G2 a8 U T2=>?_;obtain rfl:=uq ad g e2;have I:=O.same T2;ext;exists l,_,rfl,I.m.get f,?_;ext;refine zt (SqT.of (I.m.t p f).1) (vq (j:=1) rfl) ?_;ext;exists l,P,X,L,tx,p.bs,p.path,rfl,I.m,y,by omega,y.wf p f,λa1 G3 a7 Z T3=>?_
   have J:=I.same T3;ext;exists l,_,rfl,J.m.get g,?_;ext;refine zt (SqT.of (J.m.t D g).1) (vq (j:=1) rfl) ?_;ext;exists l,P,X,L,tx,D.bs,D.path,rfl,J.m,y,by omega,y.wf D g,λa2 G4 aa W T4=>?_
   have b:=J.same T4;have a5:=T4 _ _ (T3 _ _ (T2 _ _ Y));have a3:=T4 _ _ (T3 _ _ U);have S4:=G.trans (T1.trans (T2.trans (T3.trans T4)));refine yyv (b.m.sd y (y.wf p f) (T4 _ _ Z)) (b.m.sd y (y.wf D g) W) (by decide) ?_;rw[PyData.eqv,yoh];clear hF O I J T1 T2 T3 T4 ae ab a7 Z aa W a9 Y a8 U;by_cases he:p.path.map (·.2)=D.path.map (·.2)
   .rw[br he];ext;exists l,_,rfl,b.m.get f,?_;ext;refine zt (SqT.of (b.m.t p f).1) (vq (j:=0) rfl) ?_;ext;exists l,_,rfl,b.m.get g,?_;ext;refine zt (SqT.of (b.m.t D g).1) (vq (j:=0) rfl) ?_;ext;refine yal p.tx D.tx (SqL.of (b.m.x p f).1) (SqL.of (b.m.x D g).1) ?_;by_cases ht:p.tx=D.tx
    .rw[br ht];ext;have eb:p.by C=D.by C:=by unfold Pd.by;rw[he,ht]
     refine yal _ _ (SqL.of a5) (SqL.of a3) ?_;rw[br eb];ext;exists l,_,rfl,b.m.get f,?_;ext;refine zt (SqT.of (b.m.t p f).1) (vq (j:=0) rfl) ?_;ext;exists l,_,rfl,b.m.get g,?_;ext;refine zt (SqT.of (b.m.t D g).1) (vq (j:=0) rfl) ?_;ext;refine yal p.tx D.tx (SqL.of (b.m.x p f).1) (SqL.of (b.m.x D g).1) ?_;rw[br ht];ext;exists _,_,_,rfl,S4
    .rw[bC ht];ext;exists l,_,rfl,b.m.get f,?_;ext;refine zt (SqT.of (b.m.t p f).1) (vq (j:=0) rfl) ?_;ext;exists l,_,rfl,b.m.get g,?_;ext;refine zt (SqT.of (b.m.t D g).1) (vq (j:=0) rfl) ?_;ext;refine yal p.tx D.tx (SqL.of (b.m.x p f).1) (SqL.of (b.m.x D g).1) ?_;rw[bC ht];ext;refine x5 (SqL.of a3) ?_;rw[be];ext;refine yb4 (SqL.of a5) λc hc0=>?_;rw[ja,<- List.map_take];exists hc0,G5,T5,hc5;ext;refine yal _ _ (SqL.of hc5) (SqL.of (T5 _ _ a3)) ?_;rw[bC λz=>ht (vdg n1 n6 a4.2.1 a6.2.1 he z)];ext;exists _,_,_,rfl,S4.trans T5
   .rw[bC he];ext;exists _,_,_,rfl,S4
  .rintro σ2 F ⟨N,M,S,rfl,G⟩;exists _,_,_,_,rfl,G
 .rintro σ2 F ⟨v3,N,M,S,rfl,G⟩;exists l,o,.dK (mdK L P),(λo u e=>by rw[R]at e;cases e),G _ _ ya,?_;ext;refine k _ λc o' e=>?_;by_cases z:c=l
  .rw[z,ya];rw[z,R]at e;exact e
  .exact yf z (G _ _ (yf z e))
theorem yc8(f:Pd->Nat):∀(P:qi Pd)(b:Φ)(m0:Nat)(m:Int),m∈((m0:Nat):Int)::P.map (λq=>((f q:Nat):Int))->(∀x∈((m0:Nat):Int)::P.map (λq=>((f q:Nat):Int)),m<=x)->∃z:Nat,(((m0,b)::P.map λq=>(f q,some q.nm)).find? λp=>decide (((p.1:Nat):Int)=m))=some (z,bsF f P b m0)
 |[],b,m0,m,hm,_=>by
  have e:m=(m0:Int):=bE.mp hm;exists m0,by rw[cS (by simpa using e.symm)];rfl
 |q::P,b,m0,m,hm,hx=>by
  have j:=hx _ bN;have i:m<=((f q:Nat):Int):=hx _ (bM _ bN);have d:∀x∈P.map (λq=>((f q:Nat):Int)),m<=x:=λx h=>hx x (bM _ (bM _ h));by_cases h:f q<m0
  .have g:¬((m0:Nat):Int)=m:=by omega
   let⟨z,e⟩:=yc8 f P (some q.nm) (f q) m ((bB.mp hm).elim (λe=>absurd e.symm g) id) λx a=>(bB.mp a).elim (λe=>by rw[e];exact i) (d x);exists z,?_;rw[cL (by simpa using g),bT,e];show _=some (z,if f q<m0 then _ else _);rw[if_pos h]
  .have c:m∈((m0:Nat):Int)::P.map (λq=>((f q:Nat):Int)):=by
    rcases bB.mp hm with e|e
    .rw[e];exact bN
    .rcases bB.mp e with e|e
     .have e:m=((f q:Nat):Int):=e;rw[show m=(m0:Int) by omega];exact bN
     .exact bM _ e
   let⟨z,e⟩:=yc8 f P b m0 m c λx a=>(bB.mp a).elim (λe=>by rw[e];exact j) (d x);exists z,?_;show _=some (z,if f q<m0 then _ else _);rw[if_neg h,<- e];by_cases h0:((m0:Nat):Int)=m
   .rw[cS (by simpa using h0),cS (by simpa using h0)]
   .rw[cL (by simpa using h0),cL (by simpa using h0),bT,cL (by simp;omega)]
def nm6:Τ:=[Str.ofString "a",Str.ofString "b",Str.ofString "c",Str.ofString "d",Str.ofString "e",Str.ofString "f"]
def yx0:∀x,x∈nm6->okN x:=by intro x a;unfold nm6 at a;simp only[bB,List.not_mem_nil,or_false]at a;rcases a with rfl|rfl|rfl|rfl|rfl|rfl<;>exact⟨by right,by right⟩
def prs(C:Cf)(P:qi Pd)(ts:Ρ):qi (Nat×qj Str):=((δ C.n C.kd C.ps [] ts).length,none)::P.map λq=>(szD C ts q,some q.nm)
def yzw{C:Cf}{P:qi Pd}{p:Nat×qj Str}(h:p∈prs C P ts):∃L,ToD P p.2 L/\p.1=(δ C.n C.kd C.ps (Ú (L.map (·.2))) ts).length:=by
 rcases bB.mp h with e|e
 .rw[e];exists [],rfl,rfl
 .obtain⟨q,a,rfl⟩:=bq.mp e;exists _,⟨q,a,rfl,rfl⟩,rfl
#synth ä ["_law_store","_law_model","_law_text_here","_law_best_one","_law_spare","_law_sizes","_law_base","_law_least"] ["_law_store","_law_model","_law_text_here"] ykr
inductive ymq(K:xr)(a:Ads)(vs:Υ)(H:Hp)(Q:VK)(E':XK):Prop
 |mk(st lo md t:x0)(B:Hp)(C:Cf)(P:qi Pd)(X:Sx)(lk tp:Μ)(tu tx:Str->x0)(ts:Ρ)(_:vs=[.ref st,.ref md,.ref t])(_:K2 K a B H st lo md C P X lk tp tu tx)(_:H md=some (.dK (mdK tu P)))(_:jj B t ts 2)(_:P.length<=5)(_:∀Y H',K2 K a B H' st lo md C P Y lk tp tu tx->H' md=some (.dK (mdK tu P))->Q (.bl true) H')
def yry:vz P w K mg Γ CX0 14 a.Fe a.Fm ["_law_store","_law_model","_law_text_here"] (ymq K a):=by
 exists T.Fu.F.ok,ä,W;let⟨st,lo,md,t,B,C,P,X,lk,tp,tu,tx,I,rfl,h2,aC,ht,aV,k⟩:=h;have hw:=h2.w;have b0:=ht.z;have b2:(mdK tu P).length=P.length:=be _;let⟨ds,vl,vm,vp,vc,af⟩:=h2.s.ins;refine yh (yo (i:=3) ä.nd rfl (Or.inl rfl) (vh (pv 0) T.A3 T.E8.m (yn9 T) W.m T.E8.B .nil vg (pa1 (pv 2)))) ?_;refine yh (yo (i:=4) ä.nd rfl (Or.inl rfl) (xi xl (yeb (js:=[1]) (ys:=["_law_model"]) rfl (vx (xc (pac wx (pac wx (pac wx (pac wx (pac wx (pa1 wx)))))))) (λC s2 H2 fp=>(ybu (Ê (zg W) (pv 0) (pv 1)))) (λC s2 H2 fp=>(pv 0)) rfl rfl (hyc:=(all_cons rfl yt)) (hrel:=(all_cons rfl yt))) yg (λ_ _=>rfl))) ?_;refine yh (yo (i:=5) ä.nd rfl (Or.inl rfl) (xc uo)) ?_;refine yh (xz PassesOwn.never rfl (vx (ym ykz (xc (pa1 zf)) (pcT (uy rfl) T.Af (pa1 (pv 1))))) (vk (i:=6) ä.nd rfl (Or.inl rfl)) (ye (yw (vh (pv 0) T.A3 T.Ra (yoo T) W.m T.R9 .nil vg (pac (pv 4) (pac (pv 2) (pa1 (pv 6)))))) (ye (yw (è PySem.F.plainAttrs_list PySem.F.slot_list_append PySem.F.type_list_append xh (pv 5) (pa1 (ī (pac (pcB yp T.Aa (pa1 (vh (pv 0) T.A3 T.Cd.m (ye4 T) W.m T.Cd.B .nil vg (pa1 (pv 4))))) (pa1 (pv 6))))))) (yc (yw (vh (pv 0) T.A3 T.E7.m (ypg T) W.m T.E7.B .nil vg (pa1 (pv 4)))))))) ?_;refine yh (yo (i:=7) ä.nd rfl (Or.inr rfl) (pcB (r:=vco K) (yg4 rfl) T.F9 (pa1 (wb (js:=[]) (ys:=[]) rfl (vx (pv 5)) (λC s2 H2 fp=>(xi (r:=ywk K) xp (pv 0) yg (λ_ _=>rfl))) rfl rfl (hyc:=yt) (hrel:=yt))))) ?_;exists 3,5,yc (yq (xv xq (pv 3) (xi xl (yeb (js:=[7]) (ys:=["_law_least"]) rfl (vx (pv 5)) (λC s2 H2 fp=>(yr xq (xi (r:=ywk K) xp (pv 0) yg (λ_ _=>rfl)) (pv 1) (yx _))) (λC s2 H2 fp=>(xi (r:=ywk K) xp (pv 0) yg (λ_ _=>rfl))) rfl rfl (hyc:=(all_cons rfl yt)) (hrel:=(all_cons rfl yt))) yg (λ_ _=>rfl)) (yx _)));exists st,C,P,X,t,I,rfl,h2.s,⟨h2.b.s _ _ ht.l,ht.s,by omega⟩,(λz=>absurd z (by omega)),λ_ X1 H1 J g1=>?_;have ag:=h2.go J g1;have a8:=h2.mdA g1 aC;clear h2 aC af g1 J;ext;exists by walk_at "len",λl6 ao=>?_
 have S2:=y7 (o:=(.lst [V.str (Str.ofString "a"),V.str (Str.ofString "b"),V.str (Str.ofString "c"),V.str (Str.ofString "d"),V.str (Str.ofString "e"),V.str (Str.ofString "f")])) ao;have e6:upd H1 l6 (.lst [V.str (Str.ofString "a"),V.str (Str.ofString "b"),V.str (Str.ofString "c"),V.str (Str.ofString "d"),V.str (Str.ofString "e"),V.str (Str.ofString "f")]) l6=some (.lst [V.str (Str.ofString "a"),V.str (Str.ofString "b"),V.str (Str.ofString "c"),V.str (Str.ofString "d"),V.str (Str.ofString "e"),V.str (Str.ofString "f")]):=ya;generalize upd H1 l6 (.lst [V.str (Str.ofString "a"),V.str (Str.ofString "b"),V.str (Str.ofString "c"),V.str (Str.ofString "d"),V.str (Str.ofString "e"),V.str (Str.ofString "f")])=H2 at S2 e6⊢;have e6:H2 l6=some (.lst (nm6.map V.str)):=e6;exists l6,rfl,⟨_,SqL.of e6⟩,λD hD=>?_;refine Ý (xs:=nm6.map V.str) (λi G=>G D=some (.lst (((nm6.take i).filter λz=>decide (z∉P.map (·.nm))).map V.str))/\yv H2 G) ⟨ya,y7 hD⟩ (λi G _ z=>SqL.of (z.2 _ _ e6)) (λi x G hx hi z=>?_) (λH3 z=>?_)
 .obtain⟨gD,SG⟩:=z;rw[bn]at hx;have al:i<nm6.length:=by rw[be]at hi;exact hi
  rw[bg al]at hx;obtain rfl:=bD hx
  have aI:((nm6.take i).filter λz=>decide (z∉P.map (·.nm))).length<=6:=by
   refine bP (List.length_filter_le _ _) ?_;rw[bH];have:nm6.length=6:=rfl;omega
  have hM:=ag.m.same (S2.trans SG);ext;by_cases hp:nm6[i]∈P.map (·.nm)
  .obtain⟨q,hq,e⟩:=bq.mp hp;exists md,_,rfl,(by rw[<- e];exact hM.get hq),false,rfl,ĳ ?_;refine jp hi ⟨?_,SG⟩;rw[gD,bK al,List.filter_append,List.filter_cons_of_neg (by simpa using hp)];simp
  .exists md,_,rfl,hM.getNo (λq hq e=>hp (bq.mpr ⟨q,hq,e⟩)),true,rfl,ł ?_;ext;refine we gD (ve (by rw[be];omega)) hi ⟨?_,λy o e=>yf (yb e hD) (SG _ _ e)⟩;rw[ya,bK al,List.filter_append,List.filter_cons_of_pos (by simpa using hp),bF];rfl
 let⟨a2,S3⟩:=z;rw[be,bY]at a2
 obtain⟨b,r,ad⟩:∃b r,(nm6.filter λz=>decide (z∉P.map (·.nm)))=b::r:=by
  cases e:nm6.filter λz=>decide (z∉P.map (·.nm))with
  |cons b r=>exact⟨b,r,rfl⟩
  |nil =>
   have z:=ģ (l:=nm6) (m:=P.map (·.nm)) (by right) λx hx=>by
    have y:=List.filter_eq_nil_iff.mp e x hx;simpa using y
   rw[be]at z;have:nm6.length=6:=rfl;omega
 have hb:=cA.mp (show b∈nm6.filter λz=>decide (z∉P.map (·.nm)) by rw[ad];exact bN);have ae:=yx0 b hb.1
 have ac:∀q,q∈P->q.nm≠b:=λq hq e=>by
  have z:=of_decide_eq_true hb.2;exact z (bq.mpr ⟨q,hq,e⟩)
 rw[ad]at a2;have Z:=ag.same (S2.trans S3);have U:=(S2.trans S3) _ _ a8;clear ag a8 hb ad ao hD;refine jy (SqL.of a2) (vq (j:=0) rfl) ?_;ext;exists by walk_at "len",λS hdl0=>?_
 exists hdl0,H4,S4,hdl4;refine vcy (by assumption) ?_;ext;exists by walk_at "len",λn1 hn10=>?_
 exists hn10,H5,S5,hn15;ext;exists md,_,rfl,S5 _ _ (S4 _ _ U),λkl hkl0=>?_;rw[Ð];exists hkl0,H6,S6,hkl6;exists n1,kl,_,_,rfl,rfl,S6 _ _ hn15,hkl6,jf (by rw[be,be];show 1+P.length<=_;omega),λbl hbl0=>?_
 have aP:[V.non]++(P.map (·.nm)).map V.str=(prs C P I).map λp=>baV p.2:=by
  unfold prs;rw[bT,bR,bR];rfl
 rw[aP];exists hbl0,H7,S7,hbl7;have a7:=S4.trans (S5.trans (S6.trans S7));have ak:=Z.same a7;have a0:Kf H7 X1 S (.lst []):=(Kf.new Z.s hdl0 hdl4).same (S5.trans (S6.trans S7));have a5:Kf H7 X1 bl (.lst ((prs C P I).map λp=>baV p.2)):=Kf.new (Z.same (S4.trans (S5.trans S6))).s hbl0 hbl7;have aQ:B S=none:=Z.b.s.free hdl0;have aL:∀q,q∈P->tx q.nm≠S:=λq hq z=>by have e:=(Z.m.x q hq).1;rw[z,hdl0]at e;cases e
 have aK:md≠S:=λz=>by rw[z,hdl0]at U;cases U
 have aJ:bl≠S:=λz=>by have e:=(S5.trans S6) _ _ hdl4;rw[<- z,hbl0]at e;cases e
 have aM:=Z.s.to
 have ax:∀{x:Φ}{L:Η},ToD P x L->x≠some b:=λ{x L}h e=>by
  rw[e]at h;let⟨r,W,e,_⟩:=h;exact ac r W e
 exists bl,rfl,⟨_,SqL.of hbl7⟩,x8 (K:=K) (a:=bl) (xs:=(prs C P I).map λp=>baV p.2) (λi σ2 F=>∃(Y:Sx)(c:qi (x0×Nat×qj Str))(v6:Ψ),σ2=[some (.ref st),some (.ref md),some (.ref t),some (baV (Ŀ C P I)),some (.str b),some (.ref S),v6,none]/\K2 K a B F st lo md C P Y lk tp tu tx/\F md=some (.dK (mdK tu P))/\Kf F Y bl (.lst ((prs C P I).map λp=>baV p.2))/\Kf F Y S (.lst (c.map λu=>V.ref u.1))/\(∀u∈c,F u.1=some (.tup [.int ((u.2.1:Nat):Int),baV u.2.2]))/\c.map (·.2)=(prs C P I).take i) ?_ ?_ ?_ ?_
 .exists X1,[],none,rfl,ak,a7 _ _ U,a5,a0,(λu R=>nomatch R),rfl
 .rintro i σ2 F _ ⟨Y,c,v6,rfl,f,a3,a1,M,R,he⟩;exact SqL.of a1.1
 .clear ak a0 a5 hkl6 hkl0 hn15 hn10 hdl4 hbl7 a7 S4 S5 S6 S7 a2 hbl0;rintro i y σ2 F hy ⟨Y,c,v6,rfl,f,a3,a1,M,R,he⟩;rw[bn]at hy;let⟨p,hp,rfl⟩:=cC.mp hy;let⟨L,hL,aR⟩:=yzw (bA hp);have a6:i<(prs C P I).length:=(bv.mp hp).1;have aT:(prs C P I).length<=6:=by unfold prs;rw[bW,be];omega
  have aq:c.length=i:=by
   have e:=congrArg List.length he;rw[be,bH]at e;omega
  let⟨ds,vl,vm,vp,vc,af⟩:=f.s.ins;ext;refine f.s.put ae ⟨f.b.s _ _ ht.l,ht.s,by omega⟩ hL ac (by omega) λY1 F1 J g1=>?_;have au:=f.b.go f.s g1;have an:=f.m.go f.s g1;have ay:=f.mdA g1 a3;have ap:=a1.go f.s g1;have aj:=M.go f.s g1;have am:∀u∈c,F1 u.1=some (.tup [.int ((u.2.1:Nat):Int),baV u.2.2]):=λu h=>(Kf.go ⟨R u h,f.s.ntup (R u h)⟩ f.s g1).1;have a4:(⟨b,p.2,L,I⟩:Pd)∈P++[⟨b,p.2,L,I⟩]:=bS _ bN;let⟨b5,aY,b9,b1,aZ,aH⟩:=J.ins;ext;refine Â aj.1 ?_;ext;refine J.bytesof ae.1 (λno=>absurd rfl (no _ a4)) λr W e l F2 aX az T2=>?_;obtain rfl:=į J.nd W a4 e;have hz:((⟨b,p.2,L,I⟩:Pd).by C).length=p.1:=aR.symm;refine x5 (SqL.of az) ?_;rw[be,hz];ext;exists by walk_at "len",λu hu0=>?_
  exists hu0,F3,T3,hu3;have g:=T2.trans T3;have N:=aj.same g;ext;refine x9 N.1 (ve (by rw[be];omega)) ?_;have b4:But S F3 (upd F3 S (.lst ((c.map λu=>V.ref u.1)++[V.ref u]))):=But.upd
  have d:=(J.same g).but (WSh.ls N.1 λx hx=>by
   let⟨w,hw,rfl⟩:=bq.mp hx;exact .inr (.inr ⟨w.1,rfl,.inr ⟨_,g _ _ (am w hw),.inr ⟨_,rfl⟩⟩⟩)) N.2 b4
  have av:=(au.same g).but aQ b4;have ai:=(an.same g).butL N.1 aL b4;have aA:=b4 _ _ (g _ _ ay) aK;have aw:=(ap.same g).but aJ b4;have aE:Kf (upd F3 S (.lst ((c.map λu=>V.ref u.1)++[V.ref u]))) Y1 S (.lst ((c++[(u,p)]).map λu=>V.ref u.1)):=⟨by rw[ya,bF];rfl,N.2⟩
  have ab:∀w∈c++[(u,p)],upd F3 S (.lst ((c.map λu=>V.ref u.1)++[V.ref u])) w.1=some (.tup [.int ((w.2.1:Nat):Int),baV w.2.2]):=λw hw=>by
   have e:F3 w.1=some (.tup [.int ((w.2.1:Nat):Int),baV w.2.2]):=by
    rcases bO.mp hw with z|z
    .exact g _ _ (am w z)
    .rw[bE.mp z];exact hu3
   exact b4 _ _ e λz=>by rw[z,N.1]at e;cases e
  generalize upd F3 S (.lst ((c.map λu=>V.ref u.1)++[V.ref u]))=F4 at d av ai aA aw aE ab⊢;clear b4 N aj ap ay an au am af aH g J g1 hu3 az R M a1 a3;let⟨aW,aU,b3,b6,b7,aS⟩:=d.ins;ext;refine d.drop ae.1 (λno=>absurd rfl (no _ a4)) (λr W e ⟨v,hv,ev⟩=>?_) λr W e _ Y5 F5 aD g5=>?_
  .rcases bO.mp hv with z|z
   .exact absurd ev (ax (aM v z))
   .rw[bE.mp z]at ev;exact absurd ev (ax hL)
  rw[List.filter_append,List.filter_eq_self.mpr λr W=>br (ac r W),List.filter_cons_of_neg (by simp),List.filter_nil,cO]at aD;ext;exists Y5,c++[(u,p)],_,rfl,⟨aD,av.go d g5,f.l,f.r,f.n,ai.go d g5,f.z,f.w⟩,(Kf.go ⟨aA,ai.n⟩ d g5).1,aw.go d g5,aE.go d g5,(λw hw=>(Kf.go ⟨ab w hw,d.ntup (ab w hw)⟩ d g5).1),by rw[bF,he,bK a6,(bv.mp hp).2];rfl
 .clear ak a0 a5 hkl6 hkl0 hn15 hn10 hdl4 hbl7 a7 S4 S5 S6 S7 a2 hbl0;rintro σ2 F ⟨Y,c,v6,rfl,f,a3,a1,M,R,he⟩;rw[be,bY]at he
  have aq:c.length<=6:=by
   have e:=congrArg List.length he;unfold prs at e;rw[be,bW,be]at e;omega
  have a9:∀{i:Nat}{y:V},(c.map λu=>V.ref u.1)[i]?=some y->∃u,c[i]?=some u/\y=.ref u.1:=λ{i y}h=>by
   rw[bn]at h;let⟨u,R,e⟩:=cC.mp h;exact⟨u,R,e.symm⟩
  ext;exists S,rfl,⟨_,SqL.of M.1⟩,λD1 aB=>?_;refine j3 (K:=K) (xs:=c.map λu=>V.ref u.1) (λi G=>G D1=some (.lst (((c.take i).map λu=>((u.2.1:Nat):Int)).map V.int))/\yv F G) ⟨ya,y7 aB⟩ (λi G _ z=>SqL.of (z.2 _ _ M.1)) (λi y G hy hi z=>?_) (λG1 z=>?_)
  .obtain⟨gD,SG⟩:=z;let⟨u,O,rfl⟩:=a9 hy;have a6:i<c.length:=(bv.mp O).1;ext;refine zt (SqT.of (SG _ _ (R u (bA O)))) (vq (j:=0) rfl) ?_;refine we gD (ve (by rw[be,be,bH];omega)) hi ⟨?_,λy o e=>yf (yb e aB) (SG _ _ e)⟩;rw[ya,bK a6,(bv.mp O).2,bF,bF];rfl
  let⟨aa,S1⟩:=z;rw[be,bY]at aa
  have eI:c.map (λu=>((u.2.1:Nat):Int))=(((δ C.n C.kd C.ps [] I).length:Nat):Int)::P.map λq=>((szD C I q:Nat):Int):=by
   have e:=congrArg (λl=>l.map λp:Nat×qj Str=>((p.1:Nat):Int)) he;rw[bR]at e;unfold prs at e;rw[bT,bR]at e;exact e
  rw[eI]at aa
  exists D1,_,rfl,SqL.of aa,(λz=>nomatch z),λm hm as=>?_
  let⟨z0,ah⟩:=yc8 (szD C I) P none _ m hm as;ext;exists S,rfl,⟨_,SqL.of (S1 _ _ M.1)⟩,λD2 aG=>?_;refine Ý (xs:=c.map λu=>V.ref u.1) (λi G=>G D2=some (.lst (((c.take i).filter λu=>decide (((u.2.1:Nat):Int)=m)).map λu=>baV u.2.2))/\yv G1 G) ⟨ya,y7 aG⟩ (λi G _ z=>SqL.of (z.2 _ _ (S1 _ _ M.1))) (λi y G hy hi z=>?_) (λG2 z=>?_)
  .obtain⟨gD,SG⟩:=z;let⟨u,O,rfl⟩:=a9 hy;have a6:i<c.length:=(bv.mp O).1;have ar:=SG _ _ (S1 _ _ (R u (bA O)))
   have aI:((c.take i).filter λu=>decide (((u.2.1:Nat):Int)=m)).length<=6:=by
    refine bP (List.length_filter_le _ _) ?_;rw[bH];omega
   have e1:c.take (i+1)=c.take i++[u]:=by rw[bK a6,(bv.mp O).2]
   ext;refine zt (SqT.of ar) (vq (j:=0) rfl) ?_;ext;by_cases hz:((u.2.1:Nat):Int)=m
   .rw[br hz];refine ł ?_;ext;refine zt (SqT.of ar) (vq (j:=1) rfl) ?_;refine we gD (ve (by rw[be];omega)) hi ⟨?_,λy o e=>yf (yb e aG) (SG _ _ e)⟩;rw[ya,e1,List.filter_append,List.filter_cons_of_pos (by simpa using hz),bF];rfl
   .rw[bC hz];refine ĳ ?_;refine jp hi ⟨?_,SG⟩;rw[gD,e1,List.filter_append,List.filter_cons_of_neg (by simpa using hz)];simp
  let⟨aF,S2⟩:=z;rw[be,bY]at aF
  have aO:((c.filter λu=>decide (((u.2.1:Nat):Int)=m)).map λu=>baV u.2.2)[0]?=some (baV (Ŀ C P I)):=by
   have e:(c.map (·.2)).find? (λp=>decide (((p.1:Nat):Int)=m))=some (z0,Ŀ C P I):=by rw[he];exact ah
   rw[List.find?_map]at e;let⟨u,R,e2⟩:=cC.mp e;rw[bn,<- List.head?_eq_getElem?,List.head?_filter];have R:c.find? (λu=>decide (((u.2.1:Nat):Int)=m))=some u:=R;rw[R];show some (baV u.2.2)=_;rw[e2]
  ext;refine jy (SqL.of aF) (vq (j:=0) aO) ?_;exists yei _ _,?_;rw[br rfl];have S3:=S1.trans S2;exact k Y G2 (f.same S3) (S3 _ _ a3)
#synth υ ["_law_store","_law_looks_here","_law_model","_law_text_here","_law_due","_law_least","_law_name","_law_size"] ["_law_store","_law_looks_here","_law_model","_law_text_here"] yjv
inductive yrg(K:xr)(a:Ads)(vs:Υ)(H:Hp)(Q:VK)(E':XK):Prop
 |mk(st lo md t:x0)(B:Hp)(C:Cf)(P:qi Pd)(X:Sx)(lk tp:Μ)(tu tx:Str->x0)(ts:Ρ)(_:vs=[.ref st,.ref lo,.ref md,.ref t])(_:K2 K a B H st lo md C P X lk tp tu tx)(_:H md=some (.dK (mdK tu P)))(_:jj B t ts 2)(_:∀Y H',K2 K a B H' st lo md C P Y lk tp tu tx->H' md=some (.dK (mdK tu P))->Q (.bl true) H')
def ysl:vz P w K mg Γ CX0 14 a.Ff a.Fn ["_law_store","_law_looks_here","_law_model","_law_text_here"] (yrg K a):=by
 exists T.Fv.F.ok,υ,Z;let⟨st,lo,y,t,B,C,P,X,lk,tp,D,tx,g,rfl,f,L,M,k⟩:=h;let⟨n1,n6,_⟩:=f.s.cf;have a9:=M.z;have aa:=f.z;have hw:=f.w;have a5:=f.b.s _ _ f.l;have O:=f.b.s _ _ M.l;refine yh (yo (i:=4) υ.nd rfl (Or.inl rfl) zf) ?_;refine yh (yo (i:=5) υ.nd rfl (Or.inl rfl) (pcB yp T.Aa (pa1 (yag (yo7 T) Z.m rfl T.R5 T.P7.kp T.Rf (show wu [V.non] _ from (.cons rfl .nil)) v7 (pac (pv 1) (pa1 (pv 3))))))) ?_;refine yh (ħ (xz PassesOwn.never rfl (yae (pv 2)) (vk (i:=6) υ.nd rfl (Or.inl rfl)) (ye (yo (i:=7) υ.nd rfl (Or.inl rfl) (pcB yp T.Aa (pa1 (yag (yo7 T) Z.m rfl T.R5 T.P7.kp T.Rs .nil v7 (pac (pv 1) (pac (pv 3) (pa1 (uh (yet T) Z.m T.Ea (pac (pv 2) (pa1 (pv 6))))))))))) (yc (wa (yr ó (pv 7) (pv 5) (yx _)) (ye (yo (i:=5) υ.nd rfl (Or.inl rfl) (pv 7)) (yc (yo (i:=4) υ.nd rfl (Or.inl rfl) (pv 6)))) y6))))) ?_;exists 4,4,yc (yq (xv xq (vh (pv 0) T.A3 T.E8.m (yn9 T) Z.m T.E8.B .nil vg (pa1 (pv 3))) (pv 4) (yx _)));exists lo,t,.non,C.n,lk,C.kd,tp,C.ps,g,0,2,λl=>0,λl=>[],rfl,⟨a5,n1,n6,f.r.same f.b.s,⟨O,M.s,by omega⟩,⟨.inl ⟨rfl,rfl⟩,λi hi=>absurd hi (bI i)⟩,by decide,by decide,by omega⟩,by omega,λr H2 a7 I S2=>?_
 ext;refine x5 (SqL.of I) ?_;rw[be];have W:=f.same S2;have j:=S2 _ _ L;ext;exists y,mdK D P,rfl,j,λo=>?_;refine ÿ (o:=o) (d:=y) (kvs:=mdK D P) (λi σ2 F=>∃(b:Φ)(m:Nat)(v5 v6:Ψ),σ2=[some (.ref st),some (.ref lo),some (.ref y),some (.ref t),some (baV b),some (.int (m:Nat)),v5,v6]/\yv (upd H2 y (.frz o (.dK (mdK D P)))) F/\bsF (szD C g) (P.drop i) b m=Ŀ C P g)
  ⟨none,_,none,none,rfl,λl l e=>e,rfl⟩ ?_ ?_ ?_
 .rintro i σ2 F _ ⟨b,m,v5,v6,rfl,G,p⟩;exact G _ _ ya
 .rintro i kk v σ2 F a1 ⟨b,m,v5,v6,rfl,G,p⟩;let⟨q,hq,rfl,rfl⟩:=ř a1;have a6:i<P.length:=(bv.mp hq).1;have a4:=bA hq;rw[cQ a6,(bv.mp hq).2]at p;have U:=(W.m.frz j o).same G;have J:ToD P (some q.nm) (q.path++[(q.nm,q.tx)]):=⟨q,a4,rfl,rfl⟩;have ac:=J.len f.s.pw;have nb:∀{c:x0}{u:HO},B c=some u->F c=some u:=λ{c u}e=>G _ _ (yf (λz=>by rw[z,f.n]at e;cases e) (W.b.s _ _ e));ext;exists y,P,X,D,tx,some q.nm,q.path++[(q.nm,q.tx)],rfl,U,f.s.pw,by omega,J,λln F1 a8 S R=>?_
  ext;exists lo,t,.ref ln,C.n,lk,C.kd,tp,C.ps,g,(q.path++[(q.nm,q.tx)]).length,2,_,_,rfl,⟨R _ _ (nb f.l),n1,n6,f.r.fr λx xs e=>R _ _ (nb e),⟨R _ _ (nb M.l),M.s,by omega⟩,f.lr J (U.same R) S,by decide,by omega,by omega⟩,by omega,λr F2 a7 I T2=>?_
  ext;refine x5 (SqL.of I) ?_;rw[be,Ë];ext;have p:(if szD C g q<m then bsF (szD C g) (P.drop (i+1)) (some q.nm) (szD C g q)else bsF (szD C g) (P.drop (i+1)) b m)=Ŀ C P g:=p;have N:=G.trans (R.trans T2);by_cases hlt:szD C g q<m
  .rw[if_pos hlt]at p;refine ur (λl=>?_) (λz=>absurd (show ((szD C g q:Nat):Int)<(m:Int) by omega) z);ext;exists some q.nm,szD C g q,_,_,rfl,N,p
  .rw[if_neg hlt]at p;refine ur (λz=>absurd (show ((szD C g q:Nat):Int)<(m:Int)from z) (by omega)) (λl=>?_);exists b,m,_,_,rfl,N,p
 .rintro σ2 F ⟨b,m,v5,v6,rfl,G,p⟩;have a3:(mdK D P).length=P.length:=be _;rw[a3,List.drop_length]at p;exists y,o,.dK (mdK D P),(λo u e=>by rw[j]at e;cases e),G _ _ ya,?_
  have S3:yv H (upd F y (.dK (mdK D P))):=λc o' e=>by
   by_cases z:c=y
   .rw[z,ya];rw[z,L]at e;exact e
   .exact yf z (G _ _ (yf z (S2 _ _ e)))
  generalize upd F y (.dK (mdK D P))=H3 at S3⊢;have h3:=f.same S3;let⟨ds,vl,vm,vp,vc,ab⟩:=h3.s.ins;ext;exists st,C,P,X,t,g,rfl,h3.s,⟨S3 _ _ O,M.s,by omega⟩,(λz=>absurd z (by omega)),λl Y H4 a2 g4=>?_;ext;exists yei _ _,?_;rw[show b=Ŀ C P g from p,br rfl];exact k Y H4 (h3.go a2 g4) (h3.mdA g4 (S3 _ _ L))
#synth ι ["_law_script","_law_way","_law_looks_here","_law_most","_law_names_here","_law_text_here","_law_store","_law_model","_law_k","_law_name"] ["_law_script"] yuf
inductive ye7(K:xr)(vs:Υ)(H:Hp)(Q:VK)(E':XK):Prop
 |mk(l:x0)(ns:Ρ)(_:vs=[.ref l])(_:SqL K H l (ns.map V.int))(_:ns.length<=63)(_:∀H',Q (.bl true) H')
def yw0:vz P w K mg Γ CX0 16 a.P1 a.Gv ["_law_script"] (ye7 K):=by
 exists T.I3.F.ok,ι,g;let⟨l,zs,rfl,hS,ax,k⟩:=h;refine yh (yo (i:=1) ι.nd rfl (Or.inl rfl) (uh (yev T) g.m T.E9 (pac (pv 0) (pa1 yg)))) ?_;refine yh (yo (i:=2) ι.nd rfl (Or.inl rfl) (uh (vbb T) g.m T.Of (pac (uh (yev T) g.m T.E9 (pac (pv 0) (pa1 yg))) (pa1 (ym wc yg (pcT yhr T.On (pa1 (xv xq (ym vo (pv 1) yg) yg (yx _))))))))) ?_;refine yh (yo (i:=3) ι.nd rfl (Or.inl rfl) (ym wc yg (ym vo (ym vd (pv 1) yg) yg))) ?_;refine yh (yo (i:=4) ι.nd rfl (Or.inl rfl) (uh (yze T) g.m T.Oh (pa1 (uh (yev T) g.m T.E9 (pac (pv 0) (pa1 yg)))))) ?_;refine yh (yo (i:=5) ι.nd rfl (Or.inl rfl) (ym yb3 (xc (pa1 (ym vo (ym vd (pv 1) yg) yg))) (ym vo (ym vd (pv 1) yg) yg))) ?_;refine yh (yo (i:=6) ι.nd rfl (Or.inl rfl) (ua T.Qr (yxh T) g.m rfl T.Qq T.Rw .nil vg (pac (pv 2) (pa1 (pv 3))))) ?_;refine yh (yo (i:=7) ι.nd rfl (Or.inl rfl) yd8) ?_;refine yh (xz PassesOwn.never rfl (ybh rfl T.Be (pac yg (pa1 (pcB (ē rfl) T.I6 (pac yg (pa1 (pcB (Ė rfl) T.F9 (pac yg (pa1 (pcB yp T.Aa (pa1 (pv 0)))))))))))) (vk (i:=8) ι.nd rfl (Or.inl rfl)) (ye (wa (xn (xo (uh (yrk T) g.m T.Fq (pac (pv 6) (pac (pv 7) (pac (pv 4) (pac (pv 0) (pa1 (pv 8))))))))) (yc (yq ı)) y6) (yc (wa (PW.pt (Ī (yr xq (ym vo (pv 8) yg) yg (yx _)) (ω (xn (xo (uh (ysl T) g.m T.Fv (pac (pv 6) (pac (pv 2) (pac (pv 7) (pa1 (pv 5))))))))))) (yc (yq ı)) y6)))) ?_;refine yh (wa (PW.pt (İ (yr (Õ g.units) (vv (pv 6) T.A3 T.Cw.m (ykl T) g.m T.Cw.B .nil v7) (pcT (uy rfl) T.Af (pa1 (pv 7))) (yx _)) (ð (xn (xo (uh (yru T) g.m T.Ft (pac (pv 6) (pa1 (pv 7))))))))) (yc (yq ı)) y6) ?_;refine yh (ħ (xz PassesOwn.never rfl (yae (pv 7)) (vk (i:=9) ι.nd rfl (Or.inl rfl)) (yc (wa (xn (xo (uh (yq9 T) g.m T.Fs (pac (pv 6) (pac (pv 2) (pac (pv 7) (pac (pv 9) (pac (pv 3) (pa1 (ym yb3 (xc (pa1 (ym vo (ym vd (pv 1) yg) yg))) (ym vo (ym vd (pv 1) yg) yg))))))))))) (yc (yq ı)) y6)))) ?_;refine yh (jx (wa (PW.pt (Ī (yr xq (ym vo (ym vd (pv 1) yg) yg) yg (yx _)) (ω (xn (xo (uh (yry T) g.m T.Fu (pac (pv 6) (pac (pv 7) (pa1 (pv 5)))))))))) (yc (yq ı)) y6)) ?_;exists 1,9,yc (yq (xv (ŗ g.units) (vv (pv 6) T.A3 T.Cw.m (ykl T) g.m T.Cw.B .nil v7) (pcT (uy rfl) T.Af (pa1 (pv 7))) (yx _)));exists l,zs,0,rfl,hS,by decide,λC aT aY=>?_
 ext;exists l,zs,1,rfl,hS,by decide,λc2 aR aG=>?_
 ext;refine .inr ⟨_,rfl,?_⟩
 obtain⟨m2,aD,aI,aQ⟩:∃m:Nat,(1+if decide (C%4=1)=true then 1 else 0:Int)=(m:Int)/\1<=m/\m<=6:=by
  by_cases z:C%4=1
  .exact⟨2,by rw[br z];rfl,by decide,by decide⟩
  .exact⟨1,by rw[bC z];rfl,by decide,by decide⟩
 ext;rw[aD];exists c2,m2,rfl,aR,aG,aI,aQ,λlo n U kd O ps H1 ar a3 n1 n6 ai S1=>?_;obtain⟨mo,aL,aJ,aF⟩:∃mo:Nat,2+C/4%4=(mo:Int)/\2<=mo/\mo<=5:=⟨(2+C/4%4).toNat,by omega,by omega,by omega⟩;ext;exists l,zs,2,rfl,S1.seq hS,by decide,λc3 aS aZ=>?_
 rw[aL];ext;exists _,rfl,by omega,by omega,λnl ns H2 ap aa S2 n5 aB ak=>?_
 ext;exists by walk_at "len",λu hu0=>?_
 exists hu0,H3,S3,hu3;obtain⟨z3,aM,ay⟩:∃z:Nat,C/20000%3=(z:Int)/\z<=2:=⟨(C/20000%3).toNat,by omega,by omega⟩;ext;rw[aM];exists u,z3,_,rfl,rfl,hu3,by omega,by omega,jf (by show 1*(z3:Int).toNat<=16000000;omega),λt ht0=>?_
 rw[jm,show ((z3:Nat):Int).toNat=z3 by omega];exists ht0,G,S4,ht4;have M:=S3.trans S4;have am:=M.seq (S2.seq (S1.seq hS));have av:=M _ _ aa;have a1:=M _ _ (S2 _ _ a3);have aq:=(ai.same S2).same M;have ae:jj G t (List.replicate z3 (C/16%256)) 2:=⟨ht4,λx hx=>by rw[cB hx];omega,by rw[cF];exact ay⟩;generalize List.replicate z3 (C/16%256)=ts at ae;clear hS S1 S2 S3 S4 M ar a3 ai ap aa hu0 hu3 ht0 ht4 H3 H2 H1;ext;intro D ds a8 a4 aO;refine Sto.new (mo:=mo) (w:=2) a8 a4 a1 n1 n6 aq (by omega) (by omega) (by decide) λX H5 af S5 aj B=>⟨rfl,?_⟩;ext;intro c hmd0;exists hmd0,H6,S6,hmd6
 have a0:K2 K a G H6 D lo c ⟨n,kd,ps,mo,2⟩ [] X U O (λB=>0) (λB=>0):=⟨af.same S6,⟨S5.trans S6,aj⟩,a1,aq,S5.free hmd0,⟨.inl hmd6,(Kf.new af hmd0 hmd6).2,(λq J=>nomatch J),(λq J=>nomatch J)⟩,by decide,rfl,aJ,aF⟩
 clear a8 a4 aO af S5 aj hmd0 S6;ext;refine x5 (a0.b.s.seq am) ?_;rw[be];ext;exists _,_,rfl,?_;ext;exists _,_,rfl,?_;ext
 obtain⟨m,hm,aX⟩:∃m:Nat,(if (if ((zs.length:Nat):Int)<11 then ((zs.length:Nat):Int)else 11) > 5 then (if ((zs.length:Nat):Int)<11 then ((zs.length:Nat):Int)else 11)else 5)=3+(m:Int)/\m<=8:=by
  generalize ((zs.length:Nat):Int)=y;refine⟨((if (if y<11 then y else 11) > 5 then (if y<11 then y else 11)else 5)-3).toNat,?_,?_⟩<;>(split<;>split<;>omega)
 rw[hm]
 refine⟨3,3+(m:Int),rfl,⟨by omega,by omega,by omega,by omega⟩,É (lo:=3) (n:=(3+(m:Int)-3).toNat) (λi σ2 F=>∃(P:qi Pd)(Y:Sx)(f tx:Str->x0)(v8:Ψ),σ2=[some (.ref l),some (.int C),some (.ref lo),some (.int (mo:Nat)),some (.ref nl),some (.ref t),some (.ref D),some (.ref c),v8,none]/\K2 K a G F D lo c ⟨n,kd,ps,mo,2⟩ P Y U O f tx/\F c=some (.dK (mdK f P))/\∀q,q∈P->q.nm∈ns) ⟨[],X,_,_,none,rfl,a0,hmd6,λq J=>nomatch J⟩ ?_ ?_⟩
 .clear a0 hmd6 hm;rintro i σ2 F hi ⟨P,Y,f,tx,v8,rfl,hK,L,R⟩;have aV:i<8:=by omega
  ext;rw[show (3:Int)+(i:Int)=((3+i:Nat):Int) by omega];exists D,lo,c,nl,l,G,_,P,Y,U,O,f,tx,ns,zs,3+i,rfl,hK,L,av,n5,aB,ak,R,am,ax,by omega,λP2 Y2 ad ah F2 as a6 a7=>?_
  ext;refine ur (λh3=>?_) (λh3=>?_)
  .ext;exists D,lo,c,t,G,_,P2,Y2,U,O,ad,ah,ts,rfl,as,a6,ae,λY3 F3 aA al=>?_;ext;exists P2,Y3,ad,ah,_,rfl,aA,al,a7
  .ext;exists P2,Y2,ad,ah,_,rfl,as,a6,a7
 .clear a0 hmd6 hm;rintro σ2 F ⟨P,Y,f,tx,v8,rfl,hK,L,R⟩;have aW:(mdK f P).length=P.length:=be _
  have az:P.length<=5:=by
   have e:=ģ (l:=P.map (·.nm)) (m:=ns) hK.s.nd λx hx=>by
    let⟨q,J,rfl⟩:=bq.mp hx;exact R q J
   rw[be,n5]at e;exact e
  have r:∀x,x∈P.map (·.nm)->PyData.strOk x=true:=λx hx=>by
   let⟨q,J,rfl⟩:=bq.mp hx;exact(ak _ (R q J)).2
  let⟨ds,vl,vm,vp,vc,an⟩:=hK.s.ins;ext;refine hK.s.names λnm H7 a5 a2 S7=>?_;ext;exists c,_,rfl,S7 _ _ L,λq2 hq20=>?_;rw[Ð];exists hq20,H8,S8,hq28;have a9:H8 nm=some (.lst ((P.map (·.nm)).map V.str)):=by rw[S8 _ _ a2,bR];rfl
  refine yb2 _ _ r r (SqL.of a9) (SqL.of hq28) ?_;rw[br rfl];have ag:=S7.trans S8;have ac:=hK.same ag;have N:=ag _ _ L;clear hK L an a5 a2 a9 hq20 hq28 S7 S8 ag;ext;exists D,lo,c,G,_,P,Y,U,O,f,tx,rfl,ac,N,λH9 S9=>?_;have au:=ac.same S9;have j:=S9 _ _ N;clear ac N S9;ext;exists c,mdK f P,rfl,j,λo=>?_;refine ÿ (o:=o) (d:=c) (kvs:=mdK f P) (λi σ2 F=>∃(Z:Sx)(v9:Ψ),σ2=[some (.ref l),some (.int C),some (.ref lo),some (.int (mo:Nat)),some (.ref nl),some (.ref t),some (.ref D),some (.ref c),v8,v9]/\K2 K a G F D lo c ⟨n,kd,ps,mo,2⟩ P Z U O f tx/\F c=some (.frz o (.dK (mdK f P)))) ⟨Y,none,rfl,au.fz j o,ya⟩ ?_ ?_ ?_
  .rintro i σ2 F _ ⟨Z,v9,rfl,hF,hf⟩;exact hf
  .rintro i kk v σ2 F aC ⟨Z,v9,rfl,hF,hf⟩;let⟨q,J,rfl,rfl⟩:=ř aC;have aE:=bA J;ext;exists by walk_at "len",λu hu0=>?_
   exists hu0,F1,T1,hu1;obtain⟨z4,aP,aU⟩:∃z:Nat,C/4096%3=(z:Int)/\z<=2:=⟨(C/4096%3).toNat,by omega,by omega⟩;ext;rw[aP];exists u,z4,_,rfl,rfl,hu1,by omega,by omega,jf (by show 1*(z4:Int).toNat<=16000000;omega),λbh hbh0=>?_
   rw[jm,show ((z4:Nat):Int).toNat=z4 by omega];exists hbh0,F2,T2,hbh2;have ab:=hF.same (T1.trans T2);have aK:=(T1.trans T2) _ _ hf;ext;exists D,lo,c,bh,G,_,P,Z,U,O,f,tx,q,_,rfl,ab,aE,Kf.new (hF.same T1).s hbh0 hbh2,(λx hx=>by rw[cB hx];omega),by rw[cF];omega,λZ3 F3 aH g3=>?_
   ext;exists Z3,_,rfl,ab.go aH g3,ab.mdA g3 aK
  .rintro σ2 F ⟨Z,v9,rfl,hF,hf⟩;exists c,o,.dK (mdK f P),(λo u e=>by rw[j]at e;cases e),hf,?_;have W:=hF.th hf;have p:upd F c (.dK (mdK f P)) c=some (.dK (mdK f P)):=ya;generalize upd F c (.dK (mdK f P))=HA at W p⊢;clear au j hF hf;ext;exists λσ2 F=>∃(Z:Sx),σ2=[some (.ref l),some (.int C),some (.ref lo),some (.int (mo:Nat)),some (.ref nl),some (.ref t),some (.ref D),some (.ref c),v8,v9]/\K2 K a G F D lo c ⟨n,kd,ps,mo,2⟩ P Z U O f tx/\F c=some (.dK (mdK f P)),?_,?_
   .ext;refine ur (λh3=>?_) (λh3=>?_)
    .ext;exists D,lo,c,t,G,_,P,Z,U,O,f,tx,ts,rfl,W,p,ae,az,λZ2 HB S I=>?_;ext;exact⟨Z2,rfl,S,I⟩
    .exact⟨Z,rfl,W,p⟩
   clear W p;rintro σ2 HB ⟨Z,rfl,S,I⟩;let⟨ds,vl,vm,vp,vc,an⟩:=S.s.ins;ext;refine S.s.names λnm HC a5 ao SC=>?_;ext;exists c,_,rfl,SC _ _ I,λq2 hq20=>?_;rw[Ð];exists hq20,HD,SD,hq2D;have aw:HD nm=some (.lst ((P.map (·.nm)).map V.str)):=by rw[SD _ _ ao,bR];rfl
   refine yb2 _ _ r r (SqL.of aw) (SqL.of hq2D) ?_;rw[br rfl];exact k _
end
variable{C:Cf}{P:qi Pd}{X Y:Sx}
def all_mk{l:W.OpenLaw}{w:qd}{K:xr}{h:qf}{mg:Ε}(X:K.In h)(G:h.Ns mainGlobals mg)(hfa:mg "law"=some (.ref fa))
  (Qy:GV K "Even" (.ref A6))
  (Pp:GV K "Quick" (.ref A5))
  (Rm:GV K "Run" (.ref Ad))
  (Qz:GV K "Book" (.ref Ab))
  (Si:GV K "Mixer" (.ref Bf))
  (Sj:GV K "Foreteller" (.ref A2))
  (R0:GV K "Span" (.ref A4))
  (Sk:GV K "Seeker" (.ref Ae))
  (Pq:GV K "Chain" (.ref A1))
  (Pr:GV K "Piece" (.ref A8))
  (Ps:GV K "Store" (.ref A0))
  (Sl:GV K "NoText" (.ref Gs))
  (Sm:GV K "NoBytes" (.ref Fg))
  (Ov:GV K "NoMost" (.ref Az))
  (So:GV K "NoChance" (.ref Dm))
  (Sq:GV K "NoBit" (.ref By))
  (Sr:GV K "NoLooks" (.ref Fh))
  (Ss:GV K "NoPress" (.ref Dn))
  (Ow:GV K "NoName" (.ref Ah))
  (Ig:GV K "TooLong" (.ref Ai))
  (Pt:GV K "Taken" (.ref Aw))
  (R1:GV K "Full" (.ref C7))
  (Ih:GV K "NoPiece" (.ref A9))
  (Pu:GV K "InUse" (.ref B9))
  (Gw:Dgf K mg "is_whole" ve3 Q2 Qc)
  (Ql:Dgf K mg "is_bit" ve1 Q3 Qd)
  (Qm:Dgf K mg "is_chance" veu Q4 Qe)
  (Qn:Dgf K mg "is_sign" vev Q5 Qf)
  (P4:Dgf K mg "is_list_of_signs" ve2 Q6 Qg)
  (Fp:Dgf K mg "checked_text" vey Q7 Qh)
  (P5:Dgf K mg "checked_bytes" ver Q8 Qi)
  (P6:Dgf K mg "check_most" ve6 Q9 Qj)
  (Op:Dgf K mg "check_chance" ve8 Qa Qk)
  (Cm:Dgf K mg "check_bit" yvb Ip L6)
  (Ny:Dgf K mg "gives" yu2 Iq L7)
  (Do:Dgm K A6 "__init__" "Even.__init__" ytn Gg L8)
  (Gy:Dgm K A6 "chance" "Even.chance" yuv Ir L9)
  (Gz:Dgm K A6 "seen" "Even.seen" ytv Is La)
  (Ha:Dgm K A6 "twin" "Even.twin" yvr Iu Lb)
  (Dp:Dgm K A5 "__init__" "Quick.__init__" yvk Gh Lc)
  (Hb:Dgm K A5 "chance" "Quick.chance" yvx Iv Ld)
  (Hc:Dgm K A5 "seen" "Quick.seen" yui Iw Le)
  (Hd:Dgm K A5 "twin" "Quick.twin" yuz Ix Lf)
  (Dq:Dgm K Ad "__init__" "Run.__init__" yt9 Gi Lg)
  (He:Dgm K Ad "chance" "Run.chance" yv3 Iy Lh)
  (Hf:Dgm K Ad "seen" "Run.seen" yux Iz Li)
  (Hg:Dgm K Ad "twin" "Run.twin" yvt J0 Lj)
  (Nz:Dgf K mg "slot_of" yuo J1 Lk)
  (O0:Dgf K mg "is_kind" yuu J2 Ll)
  (O4:Dgf K mg "is_place" yvj J3 Lm)
  (O5:Dgf K mg "are_places" yvu J4 Ln)
  (Hh:Dgf K mg "is_look" yt8 J5 Lo)
  (Hi:Dgf K mg "checked_looks" ytm J6 Lp)
  (O6:Dgf K mg "sign_back" yu0 J7 Lq)
  (O7:Dgf K mg "context_of" yt6 J8 Lr)
  (Dr:Dgm K Ab "__init__" "Book.__init__" yvy Gj Ls)
  (Hj:Dgm K Ab "slot_at" "Book.slot_at" yv7 J9 Lt)
  (Hk:Dgm K Ab "twin" "Book.twin" yu1 Ja Lu)
  (Ds:Dgm K Bf "__init__" "Mixer.__init__" ytx Gk Lv)
  (Hl:Dgm K Bf "mixed" "Mixer.mixed" yt0 Jb Lx)
  (Hm:Dgm K Bf "learn" "Mixer.learn" yva Jc Ly)
  (Hn:Dgm K Bf "twin" "Mixer.twin" yuy Jd Lz)
  (Cn:Dgm K A2 "__init__" "Foreteller.__init__" ytl Gm M0)
  (Cs:Dgm K A2 "arrive" "Foreteller.arrive" yvq Je M4)
  (Ct:Dgm K A2 "chances" "Foreteller.chances" yvp Jf M5)
  (Cu:Dgm K A2 "chance" "Foreteller.chance" yus Jg M6)
  (Ca:Dgm K A2 "see" "Foreteller.see" yv1 Jh M7)
  (Ho:Dgm K A2 "step" "Foreteller.step" yv2 Ji M8)
  (Hq:Dgm K A2 "step_in_sign" "Foreteller.step_in_sign" yvo Jj M9)
  (Hr:Dgm K A2 "fork" "Foreteller.fork" yuh Jk Ma)
  (O8:Dgf K mg "bits_of" ytw Jl Mb)
  (Eu:Dgf K mg "decisions_of" yub Jm Mc)
  (O9:Dgf K mg "written" yvm Jn Md)
  (Hs:Dgf K mg "first_block" yv5 Jo Me)
  (Dt:Dgm K A4 "__init__" "Span.__init__" yv4 Gn Mf)
  (Du:Dgm K A4 "cut" "Span.cut" yvv Jp Mg)
  (Dv:Dgm K A4 "narrow" "Span.narrow" yt5 Jq Mh)
  (Ht:Dgm K A4 "holds_block" "Span.holds_block" yun Jr Mi)
  (Dw:Dgm K A4 "told" "Span.told" yu8 Js Mj)
  (Ev:Dgm K Ae "__init__" "Seeker.__init__" yty Gp Ml)
  (Dx:Dgm K Ae "follow" "Seeker.follow" yu6 Jt Mm)
  (Hu:Dgm K Ae "byte_at" "Seeker.byte_at" yt3 Ju Mn)
  (Hv:Dgm K Ae "bit" "Seeker.bit" yu9 Jv Mo)
  (Hw:Dgm K Ae "told" "Seeker.told" yud Jw Mq)
  (Ew:Dgf K mg "checked_learned" yt7 Jx Mr)
  (Ex:Dgf K mg "teach" yvc Jy Ms)
  (Oa:Dgf K mg "rows_of" yvg Jz Mt)
  (Su:W.nsIn K mainGlobals "foretold"=some (some (.ref Di)))
  (Sv:K.lookup Di=some ⟨oc_q64,od_q64,.func (W.fnOf "foretold" "foretold" (wt ygx) (wd ygx) (yd ygx) (.ref K1) kV_q64 dc_q64 pm_q64 an_q64 cd_q64 ct_q64),sl_q64⟩)
  (Pv:K.lookup K1=some ⟨.type "tuple",Do_q64,.seq #[.none] Dn_q64,Ds_q64⟩)
  (Sw:W.codeIn K cd_q64 "foretold"=true)
  (Sy:W.keepIn K (.ref Di)=true)
  (Ey:Dgf K mg "press_by" yuq K3 Mv)
  (Sz:W.nsIn K mainGlobals "pressed"=some (some (.ref Dj)))
  (T0:K.lookup Dj=some ⟨oc_q66,od_q66,.func (W.fnOf "pressed" "pressed" (wt ygy) (wd ygy) (yd ygy) (.ref K4) kV_q66 dc_q66 pm_q66 an_q66 cd_q66 ct_q66),sl_q66⟩)
  (Pw:K.lookup K4=some ⟨.type "tuple",Do_q66,.seq #[.none] Dn_q66,Ds_q66⟩)
  (T8:W.codeIn K cd_q66 "pressed"=true)
  (T9:W.keepIn K (.ref Dj)=true)
  (Hx:Dgf K mg "bit_by" yto K5 Mx)
  (Ob:Dgf K mg "sign_by" yt1 K6 My)
  (Oc:Dgf K mg "text_by" yur K7 Mz)
  (Hy:Dgf K mg "read_by" yt4 K8 N0)
  (Ta:W.nsIn K mainGlobals "read_first"=some (some (.ref Dk)))
  (Tb:K.lookup Dk=some ⟨oc_q71,od_q71,.func (W.fnOf "read_first" "read_first" (wt ygu) (wd ygu) (yd ygu) (.ref K9) kV_q71 dc_q71 pm_q71 an_q71 cd_q71 ct_q71),sl_q71⟩)
  (Ii:K.lookup K9=some ⟨.type "tuple",Do_q71,.seq #[.int 1000 Cp,.none] Dn_q71,Ds_q71⟩)
  (Tc:W.codeIn K cd_q71 "read_first"=true)
  (Td:W.keepIn K (.ref Dk)=true)
  (Te:W.nsIn K mainGlobals "read"=some (some (.ref Dl)))
  (Tf:K.lookup Dl=some ⟨oc_q72,od_q72,.func (W.fnOf "read" "read" (wt ygv) (wd ygv) (yd ygv) (.ref Ka) kV_q72 dc_q72 pm_q72 an_q72 cd_q72 ct_q72),sl_q72⟩)
  (Ij:K.lookup Ka=some ⟨.type "tuple",Do_q72,.seq #[.int 1000 Cq,.none] Dn_q72,Ds_q72⟩)
  (Tg:W.codeIn K cd_q72 "read"=true)
  (Th:W.keepIn K (.ref Dl)=true)
  (Cv:Dgm K A1 "__init__" "Chain.__init__" yts Gq N2)
  (Dy:Dgm K A1 "grow" "Chain.grow" yve Kb N3)
  (Hz:Dgm K A1 "press" "Chain.press" yua Kc N4)
  (I0:Dgm K A1 "read" "Chain.read" ytz Kd N5)
  (Dz:Dgm K A1 "size_with" "Chain.size_with" ytr Ke N6)
  (Od:Dgf K mg "is_name" yut Kg N7)
  (Ez:Dgf K mg "checked_name" yv8 Kh N8)
  (Oe:Dgf K mg "check_base" ytp Ki N9)
  (F0:Dgm K A8 "__init__" "Piece.__init__" yuk Gr Na)
  (Ti:W.findIn K (.ref A0) "__init__"=some (some (.ref D9)))
  (Tj:W.isFn K (.ref D9)=true)
  (Tk:K.lookup D9=some ⟨oc_q82,od_q82,.func (W.fnOf "__init__" "Store.__init__" (wt ygw) (wd ygw) (yd ygw) (.ref Kj) kV_q82 dc_q82 pm_q82 an_q82 cd_q82 ct_q82),sl_q82⟩)
  (Px:K.lookup Kj=some ⟨.type "tuple",Do_q82,.seq #[.int 1000 Cr] Dn_q82,Ds_q82⟩)
  (Tl:W.codeIn K cd_q82 "Store.__init__"=true)
  (Tm:W.keepIn K (.ref D9)=true)
  (Cw:Dgm K A0 "names" "Store.names" yul Kk Nf)
  (Tn:W.findIn K (.ref A0) "put"=some (some (.ref Da)))
  (Tp:W.isFn K (.ref Da)=true)
  (Tq:K.lookup Da=some ⟨oc_q84,od_q84,.func (W.fnOf "put" "Store.put" (wt ygr) (wd ygr) (yd ygr) (.ref Kl) kV_q84 dc_q84 pm_q84 an_q84 cd_q84 ct_q84),sl_q84⟩)
  (Py:K.lookup Kl=some ⟨.type "tuple",Do_q84,.seq #[.none] Dn_q84,Ds_q84⟩)
  (Tr:W.codeIn K cd_q84 "Store.put"=true)
  (Re:W.keepIn K (.ref Da)=true)
  (E4:Dgm K A0 "check_length" "Store.check_length" yt2 Km Nh)
  (I1:Dgm K A0 "check_room" "Store.check_room" yv0 Kn Ni)
  (Cb:Dgm K A0 "piece_at" "Store.piece_at" ytq Ko Nj)
  (E5:Dgm K A0 "links_to" "Store.links_to" yvh Kp Nk)
  (Cc:Dgm K A0 "chain_to" "Store.chain_to" yup Kq Nl)
  (I2:Dgm K A0 "texts_to" "Store.texts_to" yuj Kr Nm)
  (E6:Dgm K A0 "text_of" "Store.text_of" yum Ks Nn)
  (Cd:Dgm K A0 "bytes_of" "Store.bytes_of" yug Kt No)
  (E7:Dgm K A0 "drop" "Store.drop" yvn Ku Np)
  (E8:Dgm K A0 "best_base" "Store.best_base" yvw Kv Nq)
  (E9:Dgf K mg "_law_mixed" yuc Kw Nr)
  (Of:Dgf K mg "_law_looks" yv6 Kx Nt)
  (Og:Dgf K mg "_law_text" yu3 Ky Nu)
  (Oh:Dgf K mg "_law_names" yvl Kz Nv)
  (Ea:Dgf K mg "_law_learned_of" ytt L1 Nw)
  (Fq:Dgf K mg "_law_deed" ykq Fa Fi)
  (Fr:Dgf K mg "_law_bound" yk3 Fb Fj)
  (Fs:Dgf K mg "_law_whole" yka Fc Fk)
  (Ft:Dgf K mg "_law_apart" yj3 Fd Fl)
  (Fu:Dgf K mg "_law_best" ykr Fe Fm)
  (Fv:Dgf K mg "_law_best_now" yjv Ff Fn)
  (I3:Dgf K mg "law" yuf P1 Gv)
  (Ik:KC K A6)
  (Al:FN K A6 "noughts")
  (B0:FN K A6 "ones")
  (G8:KC K A5)
  (Ao:FN K A5 "held")
  (Pz:KC K Ad)
  (Bl:FN K Ad "last")
  (Ap:FN K Ad "length")
  (Il:KC K Ab)
  (Bt:FN K Ab "look")
  (Aq:FN K Ab "slots")
  (Rn:KC K Bf)
  (C0:FN K Bf "kept")
  (Ro:KC K A2)
  (Av:FN K A2 "looks")
  (Bm:FN K A2 "books")
  (Bn:FN K A2 "mixer")
  (Bo:FN K A2 "ended")
  (Bp:FN K A2 "place")
  (Ar:FN K A2 "present")
  (Im:KC K A4)
  (Bq:FN K A4 "low")
  (As:FN K A4 "width")
  (B6:FN K A4 "size")
  (Rp:KC K Ae)
  (Cj:FN K Ae "data")
  (Ck:FN K Ae "span")
  (B8:FN K Ae "number")
  (At:FN K Ae "reached")
  (G9:KC K A1)
  (Aj:FN K A1 "foreteller")
  (Ax:FN K A1 "links")
  (Ay:FN K A1 "texts")
  (Ga:KC K A8)
  (Bb:FN K A8 "base")
  (Bc:FN K A8 "data")
  (Gb:KC K A0)
  (Am:FN K A0 "looks")
  (Bd:FN K A0 "most")
  (Au:FN K A0 "pieces")
  (An:FN K A0 "chain")
  (Sb:XCls K Gs)
  (Ri:XMk K Gs)
  (Sc:XCls K Fg)
  (Rj:XMk K Fg)
  (I4:XCls K Az)
  (Eb:XMk K Az)
  (Se:XCls K Dm)
  (Rk:XMk K Dm)
  (Sf:XCls K By)
  (Rl:XMk K By)
  (Sg:XCls K Fh)
  (Qv:XMk K Fh)
  (Sh:XCls K Dn)
  (Pl:XMk K Dn)
  (I5:XCls K Ah)
  (Ec:XMk K Ah)
  (F7:XCls K Ai)
  (D7:XMk K Ai)
  (Ol:XCls K Aw)
  (Fw:XMk K Aw)
  (Pm:XCls K C7)
  (Ic:XMk K C7)
  (F8:XCls K A9)
  (D8:XMk K A9)
  (Om:XCls K B9)
  (Fx:XMk K B9)
  (A7:GZ K "isinstance")
  (On:GZ K "int")
  (Ie:GZ K "bool")
  (Af:GZ K "list")
  (Db:GZ K "all")
  (Aa:GZ K "len")
  (F9:GZ K "min")
  (I6:GZ K "max")
  (Oo:GZ K "str")
  (Cl:GZ K "tuple")
  (I7:GZ K "zip")
  (Ed:GZ K "sum")
  (Pn:GZ K "any")
  (Be:GZ K "range")
  (Po:GZ K "set")
  (R3:GV K "LEAST" (.int 32768 Fo))
  (Ts:GV K "ONE" (.int 16777216 P3))
  (Gc:GV K "MOST_SIGNS" (.int 1000 C1))
  (Gd:GV K "MOST_BYTES" (.int 12000 C2))
  (Eh:GV K "MOST_COUNTED" (.int 255 Bh))
  (Io:GV K "FARTHEST" (.int 8 Co))
  (Ep:GV K "MOST_PLACES" (.int 4 Bu))
  (Ge:GV K "MOST_LOOKS" (.int 6 C3))
  (Ox:GV K "NO_SIGN" (.int 256 D5))
  (Ei:GV K "FIRST_WEIGHT" (.int 1099511627776 Bi))
  (Ia:GV K "OWN_PARTS" (.int 31 C8))
  (Ej:GV K "MOST_FIGURES" (.int 48 Bj))
  (Ib:GV K "NODES_END" (.int 256 C9))
  (Er:GV K "FIRST_WIDTH" (.int 1099511627776 Bv))
  (Gf:GV K "FIRST_SIZE" (.int 5 C4))
  (Es:GV K "LEAST_WIDTH" (.int 4294967296 Bw))
  (Ek:GV K "MOST_LETTERS" (.int 8 Bk))
  (Oy:GV K "LETTERS" (.str "abcdefghijklmnopqrstuvwxyz" D6))
  (Et:GV K "MOST_PIECES" (.int 60 Bx))
  (Q0:GV K "KINDS" (.ref Ci))
  (Q1:K.lookup Ci=some ⟨.type "tuple",wd_KINDS,.seq #[.str "even" wt_KINDS_0,.str "quick" wt_KINDS_1,.str "run" wt_KINDS_2] wn_KINDS,ws_KINDS⟩)
  (Oz:GV K "WORTHS" (.ref Bg))
  (P0:K.lookup Bg=some ⟨.type "tuple",wd_WORTHS,.seq #[.int 128 wt_WORTHS_0,.int 64 wt_WORTHS_1,.int 32 wt_WORTHS_2,.int 16 wt_WORTHS_3,.int 8 wt_WORTHS_4,.int 4 wt_WORTHS_5,.int 2 wt_WORTHS_6,.int 1 wt_WORTHS_7] wn_WORTHS,ws_WORTHS⟩)
 :∃fd:FuncData,(∀(s:qa)(v:qb),BindsTo s fd ⟨[v],[]⟩ [("_law_script",v)])/\∀Γ:qf,K.In Γ->Γ.Ns mainGlobals mg->vz l.prog w K mg Γ CX0 16 fa fd ["_law_script"] (ye7 K):=by
 have zg{x v}:=@W.mg_of _ _ _ x v X G;have zh{x}:=@W.mg_none_of _ _ _ x X G
 have e:=hfa.symm.trans I3.m;cases e;have d:=â (st:=ygx) Sv Sw Sy;have f:=â (st:=ygy) T0 T8 T9;have a:=â (st:=ygu) Tb Tc Td;have b:=â (st:=ygv) Tf Tg Th;have c:=â (st:=ygw) Tk Tl Tm;have g:=â (st:=ygr) Tq Tr Re;have T:Txt K mg ⟨Q2,Q3,Q4,Q5,Q6,Q7,Q8,Q9,Qa,Ip,Iq,Gg,Ir,Is,Iu,Gh,Iv,Iw,Ix,Gi,Iy,Iz,J0,J1,J2,J3,J4,J5,J6,J7,J8,Gj,J9,Ja,Gk,Jb,Jc,Jd,Gm,Je,Jf,Jg,Jh,Ji,Jj,Jk,Jl,Jm,Jn,Jo,Gn,Jp,Jq,Jr,Js,Gp,Jt,Ju,Jv,Jw,Jx,Jy,Jz,Di,K1,K3,Dj,K4,K5,K6,K7,K8,Dk,K9,Dl,Ka,Gq,Kb,Kc,Kd,Ke,Kg,Kh,Ki,Gr,D9,Kj,Kk,Da,Kl,Km,Kn,Ko,Kp,Kq,Kr,Ks,Kt,Ku,Kv,Kw,Kx,Ky,Kz,L1,Fa,Fb,Fc,Fd,Fe,Ff,fa,A6,A5,Ad,Ab,Bf,A2,A4,Ae,A1,A8,A0,Gs,Fg,Az,Dm,By,Fh,Dn,Ah,Ai,Aw,C7,A9,B9,Ci,Bg,Qc,Qd,Qe,Qf,Qg,Qh,Qi,Qj,Qk,L6,L7,L8,L9,La,Lb,Lc,Ld,Le,Lf,Lg,Lh,Li,Lj,Lk,Ll,Lm,Ln,Lo,Lp,Lq,Lr,Ls,Lt,Lu,Lv,Lx,Ly,Lz,M0,M4,M5,M6,M7,M8,M9,Ma,Mb,Mc,Md,Me,Mf,Mg,Mh,Mi,Mj,Ml,Mm,Mn,Mo,Mq,Mr,Ms,Mt,_,Mv,_,Mx,My,Mz,N0,_,_,N2,N3,N4,N5,N6,N7,N8,N9,Na,_,Nf,_,Nh,Ni,Nj,Nk,Nl,Nm,Nn,No,Np,Nq,Nr,Nt,Nu,Nv,Nw,Fi,Fj,Fk,Fl,Fm,Fn,Gv,Cp,Cq,Cr,Fo,P3,C1,C2,Bh,Co,Bu,C3,D5,Bi,C8,Bj,C9,Bv,C4,Bw,Bk,D6,Bx⟩:=⟨
  Gw.d1,
  Ql.d1,
  Qm.d1,
  Qn.d1,
  P4.d2,
  Fp.d1,
  P5.d1,
  P6.d1,
  Op.d1,
  Cm.d1,
  Ny.d2,
  Do.d1,
  Gy.d1,
  Gz.d2,
  Ha.d1,
  Dp.d1,
  Hb.d1,
  Hc.d2,
  Hd.d1,
  Dq.d1,
  He.d1,
  Hf.d2,
  Hg.d1,
  Nz.d1,
  O0.d1,
  O4.d1,
  O5.d1,
  Hh.d1,
  Hi.d1,
  O6.d2,
  O7.d3,
  Dr.d2,
  Hj.d3,
  Hk.d1,
  Ds.d2,
  Hl.d2,
  Hm.d3,
  Hn.d1,
  Cn.d2,
  Cs.d1,
  Ct.d1,
  Cu.d1,
  Ca.d2,
  Ho.d2,
  Hq.d2,
  Hr.d1,
  O8.d1,
  Eu.d1,
  O9.d2,
  Hs.d2,
  Dt.d1,
  Du.d2,
  Dv.d3,
  Ht.d2,
  Dw.d1,
  Ev.d2,
  Dx.d1,
  Hu.d2,
  Hv.d2,
  Hw.d1,
  Ew.d1,
  Ex.d2,
  Oa.d3,
  d,
  ê.binds (ps:=["looks","text","learned"]) (ds:=[.none]) (j:=2) rfl d Pv rfl λZ Z Z Z Z Z Z Z=>Exists.intro _ ⟨rfl,rfl⟩,
  ê.binds (ps:=["looks","text","learned"]) (ds:=[]) (j:=3) rfl d Pv rfl λZ Z Z Z Z Z Z Z Z=>Exists.intro _ ⟨rfl,rfl⟩,
  zg Su,
  Ey.d2,
  f,
  ê.binds (ps:=["looks","text","learned"]) (ds:=[.none]) (j:=2) rfl f Pw rfl λZ Z Z Z Z Z Z Z=>Exists.intro _ ⟨rfl,rfl⟩,
  ê.binds (ps:=["looks","text","learned"]) (ds:=[]) (j:=3) rfl f Pw rfl λZ Z Z Z Z Z Z Z Z=>Exists.intro _ ⟨rfl,rfl⟩,
  zg Sz,
  Hx.d2,
  Ob.d2,
  Oc.d3,
  Hy.d3,
  a,
  ê.binds (ps:=["looks","data","most","learned"]) (ds:=[.none]) (j:=3) rfl a Ii rfl λZ Z Z Z Z Z Z Z Z=>Exists.intro _ ⟨rfl,rfl⟩,
  ê.binds (ps:=["looks","data","most","learned"]) (ds:=[.int 1000 Cp,.none]) (j:=2) rfl a Ii rfl λZ Z Z Z Z Z Z Z=>Exists.intro _ ⟨rfl,rfl⟩,
  ê.binds (ps:=["looks","data","most","learned"]) (ds:=[]) (j:=4) rfl a Ii rfl λZ Z Z Z Z Z Z Z Z Z=>Exists.intro _ ⟨rfl,rfl⟩,
  zg Ta,
  b,
  ê.binds (ps:=["looks","data","most","learned"]) (ds:=[.none]) (j:=3) rfl b Ij rfl λZ Z Z Z Z Z Z Z Z=>Exists.intro _ ⟨rfl,rfl⟩,
  ê.binds (ps:=["looks","data","most","learned"]) (ds:=[.int 1000 Cq,.none]) (j:=2) rfl b Ij rfl λZ Z Z Z Z Z Z Z=>Exists.intro _ ⟨rfl,rfl⟩,
  ê.binds (ps:=["looks","data","most","learned"]) (ds:=[]) (j:=4) rfl b Ij rfl λZ Z Z Z Z Z Z Z Z Z=>Exists.intro _ ⟨rfl,rfl⟩,
  zg Te,
  Cv.d2,
  Dy.d3,
  Hz.d3,
  I0.d4,
  Dz.d2,
  Od.d1,
  Ez.d1,
  Oe.d1,
  F0.d3,
  c,
  ê.binds (ps:=["self","looks","most"]) (ds:=[.int 1000 Cr]) (j:=2) rfl c Px rfl λZ Z Z Z Z Z Z Z=>Exists.intro _ ⟨rfl,rfl⟩,
  ê.binds (ps:=["self","looks","most"]) (ds:=[]) (j:=3) rfl c Px rfl λZ Z Z Z Z Z Z Z Z=>Exists.intro _ ⟨rfl,rfl⟩,
  Cw.d1,
  g,
  ê.binds (ps:=["self","name","text","base"]) (ds:=[.none]) (j:=3) rfl g Py rfl λZ Z Z Z Z Z Z Z Z=>Exists.intro _ ⟨rfl,rfl⟩,
  ê.binds (ps:=["self","name","text","base"]) (ds:=[]) (j:=4) rfl g Py rfl λZ Z Z Z Z Z Z Z Z Z=>Exists.intro _ ⟨rfl,rfl⟩,
  ⟨Tn,Tp,Re⟩,
  E4.d2,
  I1.d3,
  Cb.d2,
  E5.d2,
  Cc.d2,
  I2.d2,
  E6.d2,
  Cd.d2,
  E7.d2,
  E8.d2,
  E9.d2,
  Of.d2,
  Og.d3,
  Oh.d1,
  Ea.d2,
  Fq.d5,
  Fr.d2,
  Fs.d6,
  Ft.d2,
  Fu.d3,
  Fv.d4,
  I3.d1,
  Ik.cls,
  zg Qy,
  ⟨Ik.mk',Do.m.1,Do.m.2,Ik.kc⟩,
  Al,
  B0,
  G8.cls,
  zg Pp,
  ⟨G8.mk',Dp.m.1,Dp.m.2,G8.kc⟩,
  Ao,
  Pz.cls,
  zg Rm,
  ⟨Pz.mk',Dq.m.1,Dq.m.2,Pz.kc⟩,
  Bl,
  Ap,
  Il.cls,
  zg Qz,
  ⟨Il.mk',Dr.m.1,Dr.m.2,Il.kc⟩,
  Bt,
  Aq,
  Rn.cls,
  zg Si,
  ⟨Rn.mk',Ds.m.1,Ds.m.2,Rn.kc⟩,
  C0,
  Ro.cls,
  zg Sj,
  ⟨Ro.mk',Cn.m.1,Cn.m.2,Ro.kc⟩,
  Av,
  Bm,
  Bn,
  Bo,
  Bp,
  Ar,
  Im.cls,
  zg R0,
  ⟨Im.mk',Dt.m.1,Dt.m.2,Im.kc⟩,
  Bq,
  As,
  B6,
  Rp.cls,
  zg Sk,
  ⟨Rp.mk',Ev.m.1,Ev.m.2,Rp.kc⟩,
  Cj,
  Ck,
  B8,
  At,
  G9.cls,
  zg Pq,
  ⟨G9.mk',Cv.m.1,Cv.m.2,G9.kc⟩,
  Aj,
  Ax,
  Ay,
  Ga.cls,
  zg Pr,
  ⟨Ga.mk',F0.m.1,F0.m.2,Ga.kc⟩,
  Bb,
  Bc,
  Gb.cls,
  zg Ps,
  ⟨Gb.mk',Ti,Tj,Gb.kc⟩,
  Am,
  Bd,
  Au,
  An,
  zg Sl,
  zg Sm,
  zg Ov,
  zg So,
  zg Sq,
  zg Sr,
  zg Ss,
  zg Ow,
  zg Ig,
  zg Pt,
  zg R1,
  zg Ih,
  zg Pu,
  Sb,
  Ri,
  Sc,
  Rj,
  I4,
  Eb,
  Se,
  Rk,
  Sf,
  Rl,
  Sg,
  Qv,
  Sh,
  Pl,
  I5,
  Ec,
  F7,
  D7,
  Ol,
  Fw,
  Pm,
  Ic,
  F8,
  D8,
  Om,
  Fx,
  zh A7,
  zh On,
  zh Ie,
  zh Af,
  zh Db,
  zh Aa,
  zh F9,
  zh I6,
  zh Oo,
  zh Cl,
  zh I7,
  zh Ed,
  zh Pn,
  zh Be,
  zh Po,
  zg R3,
  zg Ts,
  zg Gc,
  zg Gd,
  zg Eh,
  zg Io,
  zg Ep,
  zg Ge,
  zg Ox,
  zg Ei,
  zg Ia,
  zg Ej,
  zg Ib,
  zg Er,
  zg Gf,
  zg Es,
  zg Ek,
  zg Oy,
  zg Et,
  zg Q0,
  λH=>.inr ⟨_,_,_,Q1,rfl,rfl,(by show 3<=sizeLine;decide),(.cons ⟨_,rfl⟩ (.cons ⟨_,rfl⟩ (.cons ⟨_,rfl⟩ .nil)))⟩,
  zg Oz,
  λH=>.inr ⟨_,_,_,P0,rfl,rfl,(by show 8<=sizeLine;decide),(.cons ⟨_,rfl⟩ (.cons ⟨_,rfl⟩ (.cons ⟨_,rfl⟩ (.cons ⟨_,rfl⟩ (.cons ⟨_,rfl⟩ (.cons ⟨_,rfl⟩ (.cons ⟨_,rfl⟩ (.cons ⟨_,rfl⟩ .nil))))))))⟩⟩
 exists Gv,λs v=>?_,λΓ Z Z=>yw0 T;let⟨_,_,_,_,_,_,_,_,_,rfl,_,_⟩:=I3.F.ex;exact .of_eq rfl
def walk{l:W.OpenLaw}{q:qh}{loose:Τ}{XP:(Ε)->qf->Prop}{YP:qd->qf->Prop}{d:DefRec}{K:Params->xr}(hn:l.most=some 63)(hdf:d.params.defaults=[])
  (hY:∀(w:qd)(h:qf),YP w h->(K w.params).In h)
  (F:∀(w:qd)(mg:Ε)(fa:x0)(h:qf),(K w.params).In h->h.Ns mainGlobals mg->mg d.name=some (.ref fa) ->
   ∃fd:FuncData,(∀(s:qa)(u:qb),BindsTo s fd ⟨[u],[]⟩ [("_law_script",u)])/\∀Γ:qf,(K w.params).In Γ->Γ.Ns mainGlobals mg->vz l.prog w (K w.params) mg Γ CX0 16 fa fd ["_law_script"] (ye7 (K w.params))):
  W.WalkO q loose XP YP l.row.toRowW d [] (λf vs=>PySem.call f vs) :=
 L2.walk_of (n:=63) (k:=16) (x:="_law_script") (CX:=λZ=>CX0) (sp:=λw=>ye7 (K w.params)) hn (by decide) hdf ⟨rfl,by decide,by decide⟩ hY F (λZ Z a c b Z e=>⟨a,c,rfl,e,b,λZ=>rfl⟩) λZ Z Z Z Z z=>z
end Law
end
open PySem PySem.W PyProof.Rows
set_option maxRecDepth 100000 in
set_option maxHeartbeats 0 in
theorem PySem.Challenge.cw_foretell_k92_whole_store_holds : PySem.Challenge.rw_foretell_k92_whole_store.Holds := by
 refine H0.2 ?_
 unfold H0
 dsimp only []
 k_fill
 refine Law.walk (l := PySem.Challenge.rw_foretell_k92_whole_store) rfl rfl (fun w h Y => PySem.W.kIn_of Y) ?F
 case F =>
  intro w mg fa h KX G hmg
  refine' Law.all_mk KX G hmg ..
  any_goals first | (refine' L2.dgf_mk KX G ?_ ?_ ?_ ?_; any_goals k_is; done) | (refine' L2.dgm_mk ?_ ?_ ?_ ?_ ?_; any_goals k_is; done) | (refine' L2.XCls.mk ?_ ?_ ?_ ?_ ?_ ?_ ?_ ?_ <;> k_is) | (refine' L2.KC.mk ?_ ?_ ?_ ?_ ?_ ?_ <;> k_is) | k_is | kit_is | k_exc | (with_reducible show _ = _; first | k_is | k_exc)
#print axioms PySem.Challenge.cw_foretell_k92_whole_store_holds
