import PyProof.Rows.All
import Wide.All
import OpenK.KLine
import OpenK.KWalk
import OpenK.KOwn
import KE.RegKIsAll
import KE.KxText
import KE.KIntText
import KE.KDictList
import KE.KTryMore
import Wide.FinOn
import PyProof.EqAt
import PyProof.EqKinds
import PyProof.TupleCall
import Lean
import PySem.Challenge.RW_foretell_k53_desk_deeds
set_option Elab.async false
set_option linter.all false
set_option hygiene false
set_option bootstrap.genMatcherCode false
set_option compiler.extract_closed false
noncomputable section
set_option maxRecDepth 100000
set_option maxHeartbeats 0
theorem aA(_:True:=by first|exact .inl rfl|exact .inr rfl|assumption):True:=⟨⟩
theorem aB(_:True:=by decide):True:=⟨⟩
theorem aC(_:True:=by intro _;rfl):True:=⟨⟩
theorem aD(_:True:=by rfl):True:=⟨⟩
theorem aE(_:True:=by with_unfolding_all rfl):True:=⟨⟩
theorem aF(_:True:=by first|exact Or.inl rfl|exact Or.inr (Or.inl rfl)|exact Or.inr (Or.inr rfl)):True:=⟨⟩
theorem aG(_:True:=by decide+kernel):True:=⟨⟩
theorem aH(_:True:=by intros;rfl):True:=⟨⟩
theorem aI(_:True:=by exact rfl):True:=⟨⟩
local macro_rules | `(tactic| exists $ts,*)=>`(tactic| refine ⟨$ts,*⟩)
local macro_rules | `(tactic| omega)=>`(tactic| first | with_reducible assumption | lia | omega (config:={}))
open Lean.Parser.Tactic in
local macro_rules | `(tactic| let $p:term := $e)=>do
 let s<-p.raw.rewriteBottomUpM fun x=>do
  if x.isOfKind `Lean.Parser.Term.anonymousCtor then
   let ps<-x[1].getSepArgs.mapM fun y=>`(rcasesPatLo| $(⟨y⟩):rcasesPat)
   return (<-`(rcasesPat| ⟨$[$ps:rcasesPatLo],*⟩)).raw
  else if x.isIdent then return (<-`(rcasesPat| $(⟨x⟩):ident)).raw
  else if x.isOfKind `Lean.Parser.Term.hole then return (<-`(rcasesPat| _)).raw
  else return x
 `(tactic| obtain $(⟨s⟩):rcasesPat:=$e)
namespace PySem.W.Fast
local macro_rules
 | `(#synth $k:ident $ns*)=>Lean.MonadRef.withRef .missing do return Lean.mkNullNode ((<-(ns.foldl (fun c n=>c.push (n.raw.isNatLit?.get!+c.back?.getD 0)) #[]).mapM fun n=>`(theorem $(Lean.mkIdent (.mkSimple s!"tw{(k.getId.getPrefix.str s!"{k.getId.getString!}_{n}").hash}")) : True:=⟨⟩)).map (·.raw))
 | `(#synth $k:ident)=>`(theorem $(Lean.mkIdent (.mkSimple s!"tw{k.getId.hash}")) : True:=⟨⟩)
#synth PySem.Challenge.pw_foretell_k53_desk_deeds
#synth H0.heap 39 7 1533
#synth H0.tree 47 23 15 15 15 15 15 15 15 15 15 15 15 15 15 15 48 45 37 43 43 50 16 65 45 51 47 85 15 58 76 51 42 140 86 31 66 26 59 73
#synth H0.view 39
#synth H0.o 43 2 1 3 2 2 1 1 1 1 1 1 1 1 2 1 1 1 1 1 1 1 1 2 1 1 1 1 2 1 1 1 1 1 1 1 2 1 1 1 1 2 1 1 1 1 1 1 1 2 1 1 1 1 2 1 1 1 1 1 1 1 2 1 1 1 1 2 1 1 1 1 1 1 1 2 1 1 1 1 2 1 1 1 1 1 1 1 2 1 1 1 1 2 1 1 1 1 1 1 1 2 1 1 1 1 2 1 1 1 1 1 1 1 2 1 1 1 1 2 1 1 1 1 1 1 1 2 1 1 1 1 2 1 1 1 1 1 1 1 2 1 1 1 1 2 1 1 1 1 1 1 1 2 1 1 1 1 2 1 1 1 1 1 1 1 2 1 1 1 1 2 1 1 1 1 1 1 1 2 1 1 1 1 2 1 1 1 1 1 1 1 2 1 1 1 1 2 1 1 1 1 1 1 1 2 1 1 1 1 2 1 1 1 1 1 1 1 2 1 1 1 1 1 2 1 1 1 1 1 2 1 1 1 1 1 2 1 1 1 1 1 2 1 1 1 2 2 1 1 1 1 1 2 1 1 1 1 1 2 1 1 1 1 1 2 1 1 1 1 1 2 1 1 1 1 1 2 1 1 1 1 1 1 2 1 1 1 2 1 1 2 1 1 1 1 1 2 1 1 1 1 1 2 1 1 1 1 1 1 1 1 1 1 1 1 2 1 1 1 1 2 1 1 2 1 1 1 1 1 2 1 1 1 1 1 2 1 1 1 1 1 2 1 1 1 1 1 1 1 1 1 1 2 1 1 1 1 2 1 1 2 1 1 1 1 1 2 1 1 1 1 1 2 1 1 1 1 1 2 1 1 1 1 1 1 1 1 1 1 2 1 1 1 1 2 1 1 2 1 1 1 1 1 2 1 1 1 1 1 2 1 1 1 1 1 2 1 1 1 1 1 1 1 1 1 1 2 1 1 1 1 1 2 2 1 1 1 1 1 2 1 1 1 1 1 2 1 1 1 2 1 1 2 1 1 1 1 1 2 1 1 1 1 1 2 1 1 1 1 1 2 1 1 1 1 1 2 1 1 1 1 1 2 1 1 1 1 1 2 1 1 1 1 1 1 1 1 1 1 1 1 2 2 1 1 1 1 1 2 1 1 1 1 1 2 1 1 1 2 1 1 1 1 1 2 1 1 1 2 1 1 1 1 1 2 1 1 1 2 1 1 1 2 1 1 2 1 1 1 1 1 2 1 1 1 1 1 2 1 1 1 1 1 2 1 1 1 1 1 2 1 1 1 1 1 1 1 1 1 1 1 1 2 1 1 1 2 1 1 2 1 1 1 1 1 2 1 1 1 1 1 2 1 1 1 2 1 1 1 2 1 1 1 1 1 1 1 1 1 1 1 1 2 1 1 1 2 1 1 2 1 1 1 2 1 1 1 2 1 1 1 2 1 1 1 1 1 2 1 1 1 1 1 2 1 1 1 1 1 2 1 1 1 1 1 2 1 1 1 1 1 2 1 1 1 1 1 2 1 1 1 1 1 2 1 1 1 1 1 1 1 1 1 1 2 1 2 1 1 1 2 1 1 1 1 1 2 1 1 1 2 1 1 2 1 1 1 1 1 2 1 1 1 1 1 2 1 1 1 1 1 2 1 1 1 1 1 2 1 1 1 1 1 2 1 1 1 1 1 1 1 1 1 1 1 1 2 2 1 1 1 2 1 1 1 1 1 2 1 1 1 1 1 1 2 1 1 1 1 2 1 1 1 1 1 2 1 1 1 1 1 1 2 1 1 1 1 1 2 1 1 1 1 1 2 1 1 1 2 1 1 1 1 1 2 1 1 1 1 1 2 1 1 1 2 1 1 2 1 1 1 1 1 2 1 1 1 1 1 2 1 1 1 1 1 2 1 1 1 1 1 2 1 1 1 1 1 1 1 1 1 1 1 1 2 2 1 1 1 2 1 1 1 1 1 2 1 1 1 1 1 1 1 1 2 1 1 2 1 1 1 1 1 1 1 1 1 1 1 1 2 1 1 1 2 1 1 1 2 1 1 1 1 1 2 1 1 1 1 1 2 1 1 1 1 1 2 1 1 1 1 1 1 2 1 1 1 1 1 2 1 1 1 1 1 2 1 1 1 1 1 2 1 1 1 1 1 2 1 1 1 1 1 2 1 1 1 1 1 2 1 1 1 1 1 2 1 1 1 2 1 1 1 1 1 2 1 1 1 1 1 2 1 1 1 1 1 2 1 1 1 1 1 2 1 1 1 2 1 1 1 1 1 1 1 1 1 1 1 2 1 1 1 2 1 1 1 2 1 1 1 1 1 2 1 1 1 1 1 2 1 1 1 1 1 2 1 1 1 1 1 1 2 1 1 1 1 1 2 1 1 1 1 1 2 1 1 1 1 1 2 1 1 1 1 1 2 1 1 1 1 1 2 1 1 1 1 1 2 1 1 1 4 2 2 1 1 1 1 1 2 1 1 1 2 1 1 1 1 1 2 1 1 1 1 1 2 1 1 1 2 1 1 2 1 1 1 1 1 2 1 1 1 1 1 2 1 1 1 1 1 2 1 1 1 2 1 1 1 2 1 1 1 2 1 1 1 1 1 2 1 1 1 1 1 1 1 1 1 1 1 1 2 2 1 1 1 1 1 2 1 1 1 2 1 1 1 2 1 1 1 1 1 2 1 1 1 2 1 1 1 2 1 1 1 1 1 2 1 1 1 1 1 2 1 1 1 1 1 2 1 1 1 1 1 2 1 1 1 1 1 2 1 1 1 1 1 1 1 1 1 1 1 1 2 2 1 1 1 1 1 2 1 1 1 2 1 1 1 1 1 2 1 1 1 1 1 2 1 1 1 2 1 1 1 1 1 2 1 1 1 2 1 1 1 1 1 2 1 1 1 1 1 2 1 1 1 1 1 2 1 1 1 1
#synth H0.sts 49 22 15 15 15 15 15 15 15 15 15 15 15 15 15 15 48 45 37 43 43 50 16 65 45 51 47 85 15 58 76 51 42 229 28 66 26 59
#synth H0.env 41
end PySem.W.Fast
section
open PySem PySem.W PyProof.Rows
def Q0:Program:={PySem.Challenge.pw_foretell_k53_desk_deeds with main:={PySem.Challenge.pw_foretell_k53_desk_deeds.main with body:=PySem.Challenge.pw_foretell_k53_desk_deeds.main.body.drop 128}}
def Z0:List Str:=PySem.Challenge.pw_foretell_k53_desk_deeds.boundNames.filter (·!="law")
theorem H1{K:Params->Frag}{as:List Addr}(n:Nat)(e:∀P,as=(K P).map (·.1))(w:World)(s:Shared)(x:((as.take n).map s.heap.get?,(as.drop n).map s.heap.get?)=(((K w.params).take n).map (fun p=>some p.2),((K w.params).drop n).map fun p=>some p.2)):InK K w s.heap:=InK.of e w s (by
 have h:=Prod.mk.inj x
 rw [<-List.take_append_drop n as,List.map_append,h.1,h.2,<-List.map_append,List.take_append_drop])
local macro_rules | `(tactic| refine $f:ident $as*)=>do
 unless f.getId==`PySem.W.holds_open do Lean.Macro.throwUnsupported
 let h:=as[6]!.raw[3][1][0][1][1]
 let k:Lean.Term:=⟨h[0]⟩
 let a:Lean.Term:=⟨h[1]⟩
 let e:Lean.Term:=⟨h[2]⟩
 let r:=as.extract 10 as.size
 `(tactic| (refine ($f (q:=Q0) (loose:=Z0) $(as[2]!) $(as[3]!) (Yf:=fun s=>((List.take 400 $a).map s.heap.get?,(List.drop 400 $a).map s.heap.get?)) (Ya:=fun w=>((List.take 400 ($k w.params)).map (fun p=>some p.2),(List.drop 400 ($k w.params)).map fun p=>some p.2)) $(as[6]!) $(as[7]!) $(as[8]!) (H1 400 $e) $r*); case $(Lean.mkIdent `hc):ident=>exact $(Lean.mkIdent `hP)))
set_option maxRecDepth 100000 in
set_option maxHeartbeats 0 in
def H0:PSigma fun P:Prop=>P->PySem.Challenge.rw_foretell_k53_desk_deeds.Holds:=by
 refine' ⟨_,fun hP=>?_⟩
 rotate_left
 w_on; o_law; k_head
 w_witness2
end
section
open PySem PySem.Spec PyProof.Rows
def ba:type_of% @List.length_map:=@List.length_map
def bb:type_of% @wpAny_bind:=@wpAny_bind
def bc:type_of% @List.getElem?_eq_getElem:=@List.getElem?_eq_getElem
def bd:type_of% @List.length_append:=@List.length_append
def be:type_of% @Heap.get?_push_of_some:=@Heap.get?_push_of_some
def bf:type_of% @Nat.le_refl:=@Nat.le_refl
def bg:type_of% @List.mem_map:=@List.mem_map
def bh:type_of% @wpAny_pure:=@wpAny_pure
def bi:type_of% @List.getElem?_map:=@List.getElem?_map
def bn:type_of% @decide_eq_true:=@decide_eq_true
def bo:type_of% @decide_eq_false:=@decide_eq_false
def bp:type_of% @List.mem_singleton:=@List.mem_singleton
def bq:type_of% @List.mem_cons:=@List.mem_cons
def br:type_of% @Heap.get?_push_size:=@Heap.get?_push_size
def bv:type_of% @List.getElem?_eq_some_iff:=@List.getElem?_eq_some_iff
def bw:type_of% @Heap.lt_size:=@Heap.lt_size
def bx:type_of% @Option.some.inj:=@Option.some.inj
def bz:type_of% @List.map_append:=@List.map_append
def bA:type_of% @Bool.false_ne_true:=@Bool.false_ne_true
def bB:type_of% @List.mem_of_getElem?:=@List.mem_of_getElem?
def bC:type_of% @List.size_toArray:=@List.size_toArray
def bD:type_of% @Nat.not_lt_zero:=@Nat.not_lt_zero
def bE:type_of% @List.length_cons:=@List.length_cons
def bF:type_of% @Nat.le_trans:=@Nat.le_trans
def bH:type_of% @List.mem_append:=@List.mem_append
def bI:type_of% @List.getD_eq_getElem?_getD:=@List.getD_eq_getElem?_getD
def bJ:type_of% @Nat.zero_le:=@Nat.zero_le
def bK:type_of% @List.getElem?_eq_none:=@List.getElem?_eq_none
def bL:type_of% @Bool.and_eq_true:=@Bool.and_eq_true
def bM:type_of% @List.mem_cons_of_mem:=@List.mem_cons_of_mem
def bN:type_of% @List.mem_cons_self:=@List.mem_cons_self
def bO:type_of% @List.map_map:=@List.map_map
def bP:type_of% @Nat.lt_of_lt_of_le:=@Nat.lt_of_lt_of_le
def bQ:type_of% @List.length_range:=@List.length_range
def bR:type_of% @List.mem_append_right:=@List.mem_append_right
def bS:type_of% @List.map_cons:=@List.map_cons
def bT:type_of% @Nat.ne_of_lt:=@Nat.ne_of_lt
def bU:type_of% @List.length_take:=@List.length_take
def bV:type_of% @List.getElem_mem:=@List.getElem_mem
def bW:type_of% @List.append_assoc:=@List.append_assoc
def bX:type_of% @List.length_singleton:=@List.length_singleton
def bY:type_of% @List.take_succ_eq_append_getElem:=@List.take_succ_eq_append_getElem
def bZ:type_of% @List.take_of_length_le:=@List.take_of_length_le
def b7:type_of% @List.replicate_succ:=@List.replicate_succ
def b9:type_of% @wpAny_field:=@wpAny_field
def cc:type_of% @List.mem_range:=@List.mem_range
def ce:type_of% @Int.mul_le_mul_of_nonneg_right:=@Int.mul_le_mul_of_nonneg_right
def cg:type_of% @List.take_length:=@List.take_length
def ci:type_of% @Array.length_toList:=@Array.length_toList
def cj:type_of% @List.getElem?_range:=@List.getElem?_range
def ck:type_of% @Int.mul_le_mul_of_nonneg_left:=@Int.mul_le_mul_of_nonneg_left
def cn:type_of% @List.getElem?_append_right:=@List.getElem?_append_right
def cq:type_of% @wpAny_truthy_bool:=@wpAny_truthy_bool
def cr:type_of% @Int.emod_lt_of_pos:=@Int.emod_lt_of_pos
def cu:type_of% @List.length_drop:=@List.length_drop
def cy:type_of% @List.mem_of_mem_take:=@List.mem_of_mem_take
def cz:type_of% @List.eq_nil_of_length_eq_zero:=@List.eq_nil_of_length_eq_zero
def cA:type_of% @Int.emod_nonneg:=@Int.emod_nonneg
def cB:type_of% @List.nodup_cons:=@List.nodup_cons
def cC:type_of% @List.getElem_map:=@List.getElem_map
def cD:type_of% @Option.map_eq_some_iff:=@Option.map_eq_some_iff
def cE:type_of% @List.mem_filter:=@List.mem_filter
def cH:type_of% @Option.map_some:=@Option.map_some
def cI:type_of% @Nat.lt_irrefl:=@Nat.lt_irrefl
def cJ:type_of% @wpAny_mono:=@wpAny_mono
def cK:type_of% @List.getElem?_append_left:=@List.getElem?_append_left
def cM:type_of% @List.drop_eq_getElem_cons:=@List.drop_eq_getElem_cons
def cN:type_of% @beq_eq_false_iff_ne:=@beq_eq_false_iff_ne
def cO:type_of% @List.append_nil:=@List.append_nil
def cP:type_of% @List.any_eq_true:=@List.any_eq_true
end
abbrev Β:=Nat->PySem.Addr->Prop
abbrev Δ:=PySem.Value->PySem.Shared->Prop
abbrev Ε:=PySem.Str->Option PySem.Value
abbrev Η:=List (PySem.Str×List Int)
abbrev Θ:=List (PySem.Addr×PySem.Obj)
abbrev Λ:=Nat->List Int
abbrev Μ:=Nat->PySem.Addr
abbrev Ν:=PySem.Addr->Prop
abbrev Ξ:=Nat->Fin 3
abbrev Ο:=List PySem.Value
abbrev Ρ:=List Int
abbrev Τ:=List PySem.Str
abbrev Φ:=Option PySem.Str
abbrev Χ:=List PySem.Addr
abbrev z3:=PySem.W.Frag
abbrev z4:=PySem.Addr
abbrev qa:=PySem.Shared
abbrev qb:=PySem.Value
abbrev qc:=PySem.Stmt
abbrev qd:=PySem.World
abbrev qe:=PySem.Around
abbrev qf:=PySem.Heap
abbrev qg:=PySem.Expr
abbrev qh:=PySem.Program
abbrev qi:=List
abbrev qj:=Option
section
set_option tactic.hygienic false
local macro_rules | `(())=>`(by omega)
local macro_rules | `(∅)=>`(by decide)
namespace L2
open PySem PySem.Spec PyProof.Rows
variable{C a:z4}{op:CmpOp}{e tg:qg}{fd:FuncData}{h':qf}{pins:Θ}{kw:qi (Str×qb)}{fp:Χ}{es:qi qg}{body:qi qc}{us:Ο}{M:Model}{i t':Nat}{P:qh}{s':qa}{mA:Ε}{u:qb}{E Q:Δ}
abbrev Key:=Sum Int Str
noncomputable def yg1:Key->qb->Bool
 | .inl k,v=>Value.isInt k v
 | .inr x,v=>Value.isStrOf x v
noncomputable def vio(w:qd):Key->Int
 | .inl k=>hashInt k
 | .inr x=>hashStr w x
theorem xb:∀{k:Key}{v:qb},yg1 k v=true->(∃i t,k=Sum.inl i/\v=Value.int i t)\/(∃x t,k=Sum.inr x/\v=Value.str x t)
 | .inl i,v,h=>by
  let⟨t,e⟩:=Value.isInt_shape (k:=i) (v:=v) h;exact .inl ⟨i,t,rfl,e⟩
 | .inr x,v,h=>by
  let⟨t,e⟩:=Value.isStrOf_shape (x:=x) (v:=v) h;exact .inr ⟨x,t,rfl,e⟩
def yh9(i:Int)(t:Tok):yg1 (.inl i) (.int i t)=true:=by simp[yg1,Value.isInt]
def yhf(x:Str)(t:Tok):yg1 (.inr x) (.str x t)=true:=by simp[yg1,Value.isStrOf]
def yxw(a b:Int):decide ((Sum.inl a:Key)=Sum.inl b)=(a == b):=by
 by_cases e:a=b
 .subst e;simp
 .have h:¬(Sum.inl a:Key)=Sum.inl b:=λq=>e (Sum.inl.inj q);rw[bo h];exact(cN.mpr e).symm
def yyc(a b:Str):decide ((Sum.inr a:Key)=Sum.inr b)=decide (a=b):=by
 by_cases e:a=b
 .subst e;simp
 .have h:¬(Sum.inr a:Key)=Sum.inr b:=λq=>e (Sum.inr.inj q);rw[bo h,bo e]
def ywq(a:Int)(b:Str):decide ((Sum.inl a:Key)=Sum.inr b)=false:=bo (λq=>nomatch q)
def ywk(a:Str)(b:Int):decide ((Sum.inr a:Key)=Sum.inl b)=false:=bo (λq=>nomatch q)
def wu(prog:qh)(w:qd):PySem.KeyKind prog w Key where
 is:=yg1
 hash:=vio w
 inj:=λv a b ha hb=>by
  rcases xb ha with⟨i,t,rfl,rfl⟩|⟨x,t,rfl,rfl⟩
  .rcases xb hb with⟨j,u,rfl,e⟩|⟨y,u,rfl,e⟩
   .injection e with e1 _;rw[e1]
   .exact nomatch e
  .rcases xb hb with⟨j,u,rfl,e⟩|⟨y,u,rfl,e⟩
   .exact nomatch e
   .injection e with e1 _;rw[e1]
 byValue:=λk v h=>by
  rcases xb h with⟨i,t,rfl,rfl⟩|⟨x,t,rfl,rfl⟩<;>rfl
 pyHash:=λhv h=>by
  rcases xb hv with⟨i,t,rfl,rfl⟩|⟨x,t,rfl,rfl⟩
  .exact wpAny_pyHash_int h
  .exact wpAny_pyHash_str h
 eqBool:=λhu hv h=>by
  rcases xb hu with⟨i,t,rfl,rfl⟩|⟨x,t,rfl,rfl⟩
  .rcases xb hv with⟨j,u,rfl,rfl⟩|⟨y,u,rfl,rfl⟩
   .rw[yxw]at h;exact wpAny_eqBool_int h
   .rw[ywq]at h;exact SeqAt.EqAt.int_str i t y u _ _ _ _ h
  .rcases xb hv with⟨j,u,rfl,rfl⟩|⟨y,u,rfl,rfl⟩
   .rw[ywk]at h;exact SeqAt.EqAt.str_int x t j u _ _ _ _ h
   .rw[yyc]at h;exact wpAny_eqBool_str h
 «strs»:=λk x t v h=>by
  rcases xb h with⟨i,u,rfl,e⟩|⟨y,u,rfl,e⟩
  .exact nomatch e
  .injection e with e1 _;subst e1;cases v<;>rfl
def ycy(prog:qh)(w:qd)(i:Int)(t:Tok):(wu prog w).is (.inl i) (.int i t)=true:=yh9 i t
def yc9(prog:qh)(w:qd)(x:Str)(t:Tok):(wu prog w).is (.inr x) (.str x t)=true:=yhf x t
inductive V where
 |non|bl (b:Bool)|int (i:Int)|str (x:Str)|byt (b:Array UInt8)|flt (b:UInt64)|ref (a:z4)|ty (n:String)
 deriving DecidableEq
abbrev _root_.Ι:=qi (Str×V)
abbrev _root_.Κ:=qi (Key×V)
abbrev _root_.Υ:=qi V
abbrev _root_.Ψ:=qj V
variable{vs xs ys:Υ}{v y:V}
def xu:V->qb->Prop
 | .non,u=>u=Value.none
 | .bl b,u=>u=Value.bool b
 | .int i,u=>∃t,u=Value.int i t
 | .str x,u=>∃t,u=Value.str x t
 | .byt b,u=>∃t,u=Value.bytes b t
 | .flt b,u=>∃t,u=Value.float b t
 | .ref a,u=>u=Value.ref a
 | .ty n,u=>u=Value.type n
abbrev wz:qi V->qi qb->Prop:=Paired xu
theorem wz.length(r:wz xs us):xs.length=us.length:=Paired.length r
theorem wz.get:∀{xs:Υ}{us:Ο}{i:Nat}{x:V},wz xs us->xs[i]?=some x->∃u,us[i]?=some u/\xu x u
 |_,_,_,_,.nil,e=>by simp at e
 |_,_,0,_,.cons r _,e=>by simp at e;subst e;exists _,rfl,r
 |_,_,i+1,x,.cons _ t,e=>by
  let⟨u,a,b⟩:=wz.get (i:=i) (x:=x) t (by simpa using e);exists u,by simpa using a,b
def wz.append{ws:Ο}(h:wz xs us)(s:wz ys ws):wz (xs++ys) (us++ws):=by
 induction h with
 |nil=>exact s
 |cons r t ih=>exact .cons r ih
theorem wz.take:∀{xs:Υ}{us:Ο}(n:Nat),wz xs us->wz (xs.take n) (us.take n)
 |_,_,0,_=>.nil
 |_,_,_+1,.nil=>.nil
 |_,_,n+1,.cons r t=>.cons r (wz.take n t)
theorem wz.drop:∀{xs:Υ}{us:Ο}(n:Nat),wz xs us->wz (xs.drop n) (us.drop n)
 |_,_,0,r=>r
 |_,_,_+1,.nil=>.nil
 |_,_,n+1,.cons _ t=>wz.drop n t
def ych:qj V->qj qb->Prop
 |some v,some u=>xu v u
 |none,none=>True
 |_,_=>False
def KV{κ:Type}:qi (κ×V)->qi (κ×qb)->Prop:=Paired λ(p:κ×V)(q:κ×qb)=>p.1=q.1/\xu p.2 q.2
noncomputable def kV:Key->V
 | .inl i=>.int i
 | .inr x=>.str x
inductive HO where
 |lst (xs:Υ)
 |tup (xs:Υ)
 |dK (kvs:Κ)|dT (kvs:qi (qi Key×V))
 |set (S:Int->Bool) (n:Nat)
 |ins (C dx:z4) (fs:Ι)
 |own (x:z4)
 |xd (fs:Ι)
 |met (f x:z4)
 |rng (lo hi:Int)
 |frz (o:Obj) (u:HO)
 |tbl (ps:Array qb)
 |ext (φ:qf->Prop)
abbrev Hp:=z4->qj HO
variable{H H':Hp}
noncomputable def upd(H:Hp)(a:z4)(o:HO):Hp:=λb=>if b=a then some o else H b
def ya{o:HO}:upd H a o a=some o:=by unfold upd;rw[if_pos rfl]
def ym{b:z4}{o:HO}(h:b≠a):upd H a o b=H b:=by unfold upd;rw[if_neg h]
def w8{b:z4}{o u:HO}(h:H a=some o)(h':H b=some u)(d:o≠u):a≠b:=by intro e;subst e;rw[h]at h';exact d (bx h')
def yb{b:z4}{o:HO}(h:H a=some o)(h':H b=none):a≠b:=by intro e;subst e;rw[h]at h';cases h'
section
variable(P:qh)(w:qd)
def xm(H:Hp)(h:qf)(a:z4):HO->Prop
 | .lst xs=>xs.length<=sizeLine/\∃(its:Ο)(n:Nat),wz xs its/\h.get? a=some { cls:=.type "list",data:=.seq its.toArray n}
 | .tup xs=>xs.length<=sizeLine/\∃its:Ο,wz xs its/\IsTup h a its.toArray
 | .dK kvs=>kvs.length<=sizeLine/\(a == sysModules)=false/\∃vs,KV kvs vs/\h.DictOf (wu P w) a vs
 | .dT kvs=>kvs.length<=sizeLine/\(a == sysModules)=false/\∃xs:qi (qi Key×z4×qb),
   Paired (λ(p:qi Key×V)(q:qi Key×z4×qb)=>p.1=q.1/\H q.2.1=some (.tup (p.1.map kV))/\xu p.2 q.2.2) kvs xs/\
   ∃o es ep,h.get? a=some o/\o.ExactDict/\o.data=.dict es ep/\es.toList=xs.map (entryOfKey (tupleKind (wu P w)))/\(xs.map (·.1)).Nodup
 | .set S n=>h.SetOf (intKind P w) a S n
 | .ins C dx fs=>H dx=some (.own a)/\fs.length<=1000/\dx≠a/\h.get? a=some (W.instObj C dx)/\
   ∃mA,h.Ns1 dx mA/\(∀f,ych (fs.lookup f) (mA f))/\PySem.Within mA (fs.map (·.1))
 | .own _=>∃o,h.get? a=some o
 | .xd fs=>∃mA,h.Ns1 a mA/\∀f,ych (fs.lookup f) (mA f)
 | .rng lo hi=>∃t u v,h.get? a=some { cls:=.type "range",data:=.fields #[.int lo t,.int hi u,.int 1 v]}
 | .frz o u=>h.get? a=some o/\xm H h a u
 | .tbl ps=>h.get? a=some { cls:=.none,data:=.fields ps}
 | .met f x=>h.get? a=some (W.methodObj (.ref f) (.ref x))
 | .ext φ=>φ h/\(∃o,h.get? a=some o)/\∀h1 h2:qf,φ h1->(∀o,h1.get? a=some o->h2.get? a=some o)->φ h2
def HOk(H:Hp)(h:qf):Prop:=∀a o,H a=some o->xm P w H h a o
end
section
variable{w:qd}{h:qf}{o:HO}
theorem xm.lt(x:xm P w H h a o):a<h.objs.size:=by
 cases o with
 |lst xs=>let⟨_,_,_,_,e⟩:=x;exact bw e
 |tup xs=>let⟨_,_,_,p⟩:=x;exact p.lt
 |dK kvs=>let⟨_,_,_,_,o,_,_,e,_⟩:=x;exact bw e
 |dT kvs=>let⟨_,_,_,_,o,_,_,e,_⟩:=x;exact bw e
 |set S n=>let⟨o,_,_,_,e,_⟩:=x;exact bw e
 |ins C dx fs=>let⟨_,_,_,e,_⟩:=x;exact bw e
 |own y=>let⟨_,e⟩:=x;exact bw e
 |xd fs=>let⟨_,⟨_,_,_,e,_⟩,_⟩:=x;exact bw e
 |rng lo hi=>let⟨_,_,_,e⟩:=x;exact bw e
 |frz ob u=>let⟨e,_⟩:=x;exact bw e
 |tbl ps=>exact bw (show h.get? a=some _ from x)
 |met f y=>exact bw (show h.get? a=some _ from x)
 |ext φ=>let⟨_,⟨_,e⟩,_⟩:=x;exact bw e
def Paired.mapP{α β:Type}{F G:α->β->Prop}{l₁:qi α}{l₂:qi β}(h:Paired F l₁ l₂)(f:∀a b,F a b->G a b):Paired G l₁ l₂:=by
 induction h with
 |nil=>exact .nil
 |cons r t ih=>exact .cons (f _ _ r) ih
def xm.stay(x:xm P w H h a o)(k:∀b u,(b=a\/H b=some (.own a))->h.get? b=some u->h'.get? b=some u)
  (ho:∀b,H b=some (.own a)->H' b=some (.own a)) (ht:∀b xs,H b=some (.tup xs)->H' b=some (.tup xs)):xm P w H' h' a o:=by
 induction o with
 |lst xs=>let⟨z,j,n,r,e⟩:=x;exists z,j,n,r,k _ _ (.inl rfl) e
 |tup xs=>let⟨z,j,r,ob,e,c⟩:=x;exists z,j,r,ob,k _ _ (.inl rfl) e,c
 |dK kvs=>let⟨z,y,D,r,ob,g,i,e,c⟩:=x;exists z,y,D,r,ob,g,i,k _ _ (.inl rfl) e,c
 |dT kvs =>
  let⟨z,y,xs,r,ob,g,i,e,c⟩:=x;exists z,y,xs,Paired.mapP r λp q z=>⟨z.1,ht _ _ z.2.1,z.2.2⟩,ob,g,i,k _ _ (.inl rfl) e,c
 |set S n=>let⟨ob,g,i,t,e,c⟩:=x;exists ob,g,i,t,k _ _ (.inl rfl) e,c
 |ins C dx fs =>
  let⟨d,z,A,e,l,⟨m,g,i,B,c⟩,r⟩:=x;exists ho _ d,z,A,k _ _ (.inl rfl) e,l,⟨m,g,i,k _ _ (.inr d) B,c⟩,r
 |own y=>let⟨ob,e⟩:=x;exists ob,k _ _ (.inl rfl) e
 |xd fs=>let⟨l,⟨m,g,i,e,c⟩,r⟩:=x;exists l,⟨m,g,i,k _ _ (.inl rfl) e,c⟩,r
 |rng lo hi=>let⟨t,u,v,e⟩:=x;exists t,u,v,k _ _ (.inl rfl) e
 |frz ob u ih=>let⟨e,q⟩:=x;exists k _ _ (.inl rfl) e,ih q
 |tbl ps =>
  have e:h.get? a=some { cls:=.none,data:=.fields ps}:=x;show h'.get? a=some { cls:=.none,data:=.fields ps};exact k a _ (.inl rfl) e
 |met f y =>
  have e:h.get? a=some (W.methodObj (.ref f) (.ref y)):=x;show h'.get? a=some (W.methodObj (.ref f) (.ref y));exact k a _ (.inl rfl) e
 |ext φ=>let⟨p,⟨o,e⟩,s⟩:=x;exists s _ _ p λo q=>k _ _ (.inl rfl) q,⟨o,k _ _ (.inl rfl) e⟩,s
theorem HOk.lt(x:HOk P w H h)(e:H a=some o):a<h.objs.size:=(x a o e).lt
def HOk.fresh(x:HOk P w H h)(e:h.objs.size<=a):H a=none:=by
 cases q:H a with
 |none=>rfl
 |some u=>exact absurd (bP (x.lt q) e) (cI _)
def HOk.kept(x:HOk P w H h)(k:∀b u,h.get? b=some u->h'.get? b=some u):HOk P w H h':=λa o e =>
 (x a o e).stay (λb u Z q=>k b u q) (λZ q=>q) λZ Z q=>q
def HOk.laid(x:HOk P w H h)(k:∀b u,h.get? b=some u->h'.get? b=some u)(hp:h.objs.size<=a)(new:xm P w (upd H a o) h' a o):HOk P w (upd H a o) h':=λb u e=>by
 have d:=x.fresh hp;by_cases hb:b=a
 .subst hb;rw[ya]at e;cases e;exact new
 .rw[ym hb]at e;exact(x b u e).stay (λc v Z q=>k c v q) (λc q=>by rw[ym (yb q d)];exact q) λc f q=>by rw[ym (yb q d)];exact q
end
def Rd(H:Hp)(a:z4)(u:HO):Prop:=H a=some u\/∃o,H a=some (.frz o u)
def Rd.of{u:HO}(h:H a=some u):Rd H a u:=.inl h
def Rd.ok{w:qd}{h:qf}{u:HO}(r:Rd H a u)(x:HOk P w H h):xm P w H h a u:=by
 rcases r with r|⟨o,r⟩
 .exact x a u r
 .obtain⟨_,q⟩:=x a _ r;exact q
def Mut:qj HO->Prop
 |some (.lst _)=>True
 |some (.dK _)=>True
 |some (.dT _)=>True
 |some (.set _ _)=>True
 |some (.ins _ _ _)=>True
 |some (.ext _)=>True
 |_=>False
section
variable{w:qd}{h:qf}{x e:z4}{o':HO}
def HOk.write(ok:HOk P w H h)(mu:Mut (H x))(he:e=x\/H e=some (.own x))(k:∀b u,b≠e->h.get? b=some u->h'.get? b=some u)(heo:∃u,h'.get? e=some u)
  (new:xm P w (upd H x o') h' x o'):HOk P w (upd H x o') h':=λb u q=>by
 have a:∀c y,H c=some (.own y)->c≠x:=λc y r z=>by subst z;rw[r]at mu;exact mu
 have d:∀c f,H c=some (.tup f)->c≠x:=λc f r z=>by subst z;rw[r]at mu;exact mu
 by_cases hb:b=x
 .subst hb;rw[ya]at q;cases q;exact new
 .rw[ym hb]at q;by_cases hbe:b=e
  .have i:H b=some (.own x):=by
    rcases he with z|z
    .exact absurd (hbe.trans z) hb
    .rw[hbe];exact z
   rw[q]at i;cases i;let⟨v,j⟩:=heo;exists v,by rw[hbe];exact j
  .refine(ok b u q).stay (λc v g r=>k c v ?_ r) (λc r=>by rw[ym (a c b r)];exact r) λc f r=>by rw[ym (d c f r)];exact r
   rcases g with rfl|g
   .exact hbe
   .rintro rfl;rcases he with z|z
    .exact a c b g z
    .rw[g]at z;cases z;exact hb rfl
end
structure Un(fs ex:Χ)(H H':Hp)(h h':qf):Prop where
 keep:∀b o,h.get? b=some o->H b=none->b∉fs->b∉ex->h'.get? b=some o
 slot:∀b o,h.get? b=some o->H b=none->b∈fs->b∉ex->∃sl,h'.get? b=some {o with slots:=sl}
 free:∀b o,h.get? b=some o->H b=none->b∉ex->H' b=none
 there:∀b o,h.get? b=some o->b∉ex->∃o',h'.get? b=some o'
 tups:∀b xs,H b=some (.tup xs)->H' b=some (.tup xs)
 frzs:∀b o u,H b=some (.frz o u)->H' b=some (.frz o u)
 tbls:∀b ps,H b=some (.tbl ps)->∃more,H' b=some (.tbl (ps++more))
section
variable{fs fs' ex ex':Χ}{H1 H2:Hp}{h h1 h2:qf}{x e:z4}{o:HO}
def Un.any(u:Un fs ex H H1 h h1){b:z4}{ob:Obj}(q:h.get? b=some ob)(n:H b=none)(hx:b∉ex):∃sl,h1.get? b=some {ob with slots:=sl}:=by
 by_cases hb:b∈fs
 .exact u.slot b ob q n hb hx
 .exists ob.slots,u.keep b ob q n hb hx
def Un.kept(k:∀b u,h.get? b=some u->h'.get? b=some u):Un fs ex H H h h' :=
 ⟨λb a q Z Z Z=>k b a q,λb a q Z Z Z=>⟨a.slots,k b a q⟩,λZ Z Z n Z=>n,λb a q Z=>⟨a,k b a q⟩,λZ Z q=>q,λZ Z Z q=>q,λZ c q=>⟨#[],by rw[q];simp⟩⟩
def Un.refl:Un fs ex H H h h:=Un.kept λZ Z q=>q
def Un.laid(k:∀b u,h.get? b=some u->h'.get? b=some u)(hp:h.objs.size<=a)(hn:H a=none):Un fs ex H (upd H a o) h h' where
 keep:=λb u q Z Z Z=>k b u q
 slot:=λb u q Z Z Z=>⟨u.slots,k b u q⟩
 free:=λb u q n Z=>by rw[ym (bT (bP (bw q) hp))];exact n
 there:=λb u q Z=>⟨u,k b u q⟩
 tups:=λb c q=>by rw[ym (yb q hn)];exact q
 frzs:=λb u c q=>by rw[ym (yb q hn)];exact q
 tbls:=λb d q=>⟨#[],by rw[ym (yb q hn),q];simp⟩
def Un.write(mu:Mut (H x))(he:e=x\/H e=some (.own x))(k:∀b u,b≠e->h.get? b=some u->h'.get? b=some u)(heo:∃u,h'.get? e=some u):Un fs ex H (upd H x o) h h':=by
 have c:∀b,H b=none->b≠x:=λb n z=>by subst z;rw[n]at mu;exact mu
 have d:∀b,H b=none->b≠e:=λb n z=>by
  subst z;rcases he with r|r
  .exact c b n r
  .rw[n]at r;cases r
 have a:∀b u,H b=some u->¬Mut (some u)->b≠x:=λb u q g z=>by subst z;rw[q]at mu;exact g mu
 refine⟨λb u q n Z Z=>k b u (d b n) q,λb u q n Z Z=>⟨u.slots,k b u (d b n) q⟩,λb u q n Z=>by rw[ym (c b n)];exact n,λb u q Z=>?_,
  λb f q=>by rw[ym (a b _ q λz=>z)];exact q,λb u f q=>by rw[ym (a b _ q λz=>z)];exact q,λb i q=>⟨#[],by rw[ym (a b _ q λz=>z),q];simp⟩⟩
 by_cases hbe:b=e
 .subst hbe;exact heo
 .exists u,k b u hbe q
end
noncomputable def trk(h:qf)(H:Hp):Χ:=(List.range h.objs.size).filter λa=>(H a).isSome
def yoh(h:qf)(H:Hp):qf:=W.hideAll h (trk h H)
def yha(h:qf)(H:Hp):(yoh h H).objs.size=h.objs.size:=W.hideAll_size _ _
def yl1{h:qf}{b:z4}{o:Obj}(e:h.get? b=some o)(n:H b=none):(yoh h H).get? b=some o :=
 W.hideAll_get _ e λa=>by
  have q:(H b).isSome=true:=(cE.mp a).2;rw[n]at q;simp at q
def ysp{h:qf}{b:z4}{o:Obj}(e:(yoh h H).get? b=some o):h.get? b=some o/\H b=none:=by
 have a:h.get? b=some o:=W.of_hideAll (trk h H) e;exists a,?_
 cases q:H b with
 |none=>rfl
 |some x =>
  have c:b∈trk h H:=cE.mpr ⟨cc.mpr (bw a),by simp[q]⟩;have z:(yoh h H).get? b=none:=W.hideAll_none (trk h H) c;rw[z]at e;cases e
noncomputable def ys5(g h:qf)(L:z4):Θ:=(List.range h.objs.size).filterMap λa=>if a=L\/(g.get? a).isSome=true then none else (h.get? a).map λo=>(a,o)
def ρ(g h:qf)(L d:z4):Θ:=(ys5 g h L).filter λp=>decide (p.1≠d)
structure Mod(K:z3)(mg:Ε)(base:qf):Prop where
 kin:K.In base
 glob:base.Ns mainGlobals mg
 blt:∃mb,base.Ns builtinsNs mb/\∀x:Str,x≠"__name__"->mb x=bootBuiltins x
 nolimit:base.NoLimit
structure Cx where
 prog:qh
 w:qd
 K:z3
 mg:Ε
 base:qf
 A:qe
 N:Τ
 s₀:qa
 H₀:Hp
 env:Env
 outer:qi Env
 stack:qi Env
 ex:Χ
 fn:Str->Bool
 calm:Bool
 pn:Θ
 xe:Δ
variable{X:Cx}
noncomputable def frs(l:qi Env):Χ:=l.filterMap (·.frame)
abbrev Cx.fs(X:Cx):Χ:=frs X.outer
def Vis(sc:Scope)(x:Str):Prop:=sc.names.lookup x=some .local\/sc.names.lookup x=some .cell\/sc.names.lookup x=some .free
def Loc(sc:Scope)(x:Str):Prop:=sc.names.lookup x=some .local\/sc.names.lookup x=some .cell
def vh2(env:Env)(h:qf)(m:Ε)(x:Str)(u:qb):Prop :=
 (env.kindOf x=some .local/\m x=some u)\/((env.kindOf x=some .cell\/env.kindOf x=some .free)/\∃c,env.cells.lookup x=some c/\h.IsCell c (some u))
structure Cx.Ok(X:Cx):Prop where
 mod:Mod X.K X.mg X.base
 kind:X.env.scope.kind=.function
 glob:X.env.globals=mainGlobals
 blt:X.env.builtins=builtinsNs
 above:X.s₀.heap.objs.size<=X.env.locals
 inj:∀x y c,X.env.cells.lookup x=some c->X.env.cells.lookup y=some c->x=y
 has:∀x,(X.env.kindOf x=some .cell\/X.env.kindOf x=some .free)->∃c,X.env.cells.lookup x=some c
 cab:∀x c,X.fn x=true->X.env.cells.lookup x=some c->X.s₀.heap.objs.size<=c
 hd:X.calm=true->X.A.handled=none
 frames:X.A.frames=some X.stack
 stk:X.stack=X.outer\/(X.stack=X.env::X.outer/\X.env.frame=some X.env.locals)
 exf:∀b∈X.ex,b≠X.env.locals/\∀x c,X.env.cells.lookup x=some c->c≠b
 bs:∀b o,X.base.get? b=some o->X.s₀.heap.get? b=some o/\X.H₀ b=none
 bsz:X.base.objs.size<=X.s₀.heap.objs.size
 noex:∀b o,X.base.get? b=some o->b∉X.ex
 exfs:∀b∈X.ex,b∉X.fs
 funs:X.s₀.heap.FunFrames X.base X.outer
 frf:∀b∈X.fs,X.H₀ b=none
structure Inv(X:Cx)(pins:Θ)(σ:qi (Ψ))(H:Hp)(s:qa):Prop where
 ok:X.Ok
 os:s.os=X.s₀.os
 bare:AllBare s.gens
 base:Un X.fs X.ex X.H₀ H X.s₀.heap s.heap
 loc:∃m,s.heap.Ns X.env.locals m/\∀(i:Nat)(x:Str)(v:V),X.N[i]?=some x->σ[i]?=some (some v)->Vis X.env.scope x->∃u,xu v u/\vh2 X.env s.heap m x u
 cell:∀x c,X.env.cells.lookup x=some c->∃v,s.heap.IsCell c v
 free:H X.env.locals=none
 freeC:∀x c,X.env.cells.lookup x=some c->H c=none
 pin:∀p∈X.pn++pins,s.heap.get? p.1=some p.2/\H p.1=none/\p.1≠X.env.locals/\p.1∉X.fs/\∀v,p.2.data≠.cell v
 hok:HOk X.prog X.w H s.heap
 len:σ.length=X.N.length
section
variable{σ:qi (Ψ)}{s:qa}
def Cx.Ok.nofr(ok:X.Ok){b:z4}{o:Obj}(e:X.base.get? b=some o):b∉X.fs:=λa=>by
 have:=(ok.funs.mem a).1;rw[e]at this;cases this
theorem Inv.bs(I:Inv X pins σ H s):∀b o,X.base.get? b=some o->s.heap.get? b=some o/\H b=none:=λb o e =>
 ⟨I.base.keep b o (I.ok.bs b o e).1 (I.ok.bs b o e).2 (I.ok.nofr e) (I.ok.noex b o e),I.base.free b o (I.ok.bs b o e).1 (I.ok.bs b o e).2 (I.ok.noex b o e)⟩
def Inv.bk(I:Inv X pins σ H s):∀b o,X.base.get? b=some o->s.heap.get? b=some o:=λb o e=>(I.bs b o e).1
theorem Inv.mod(I:Inv X pins σ H s):Mod X.K X.mg X.base:=I.ok.mod
def Inv.kIn(I:Inv X pins σ H s):X.K.In s.heap:=I.ok.mod.kin.keeps I.bk
theorem Inv.lt(I:Inv X pins σ H s):X.env.locals<s.heap.objs.size:=let ⟨_,hn,_⟩:=I.loc;hn.lt
def Inv.sz(I:Inv X pins σ H s):X.s₀.heap.objs.size<=s.heap.objs.size:=bF I.ok.above (Nat.le_of_lt I.lt)
def Inv.nofs(I:Inv X pins σ H s)(h:s.heap.objs.size<=a):a∉X.fs:=λb=>by
 let⟨_,o,c,_⟩:=I.ok.funs.mem b;exact absurd (bP (bw c) (bF I.sz h)) (cI _)
def Inv.cne(I:Inv X pins σ H s):∀x c,X.env.cells.lookup x=some c->c≠X.env.locals:=λx c e z=>by
 let⟨v,o,f,d⟩:=I.cell x c e;let⟨m,⟨i,g,h,a,b,_⟩,_⟩:=I.loc;rw[z,a]at f;cases f;rw[b]at d;cases d
theorem Inv.funs(I:Inv X pins σ H s):s.heap.FunFrames X.base X.outer:=by
 have a:∀(l:qi Env),(∀b∈frs l,b∈X.fs)->X.s₀.heap.FunFrames X.base l->s.heap.FunFrames X.base l:=by
  intro l
  induction l with
  |nil=>intro _ _;trivial
  |cons env r ih =>
   intro g k;let⟨h,⟨L,o,f,j,n,m⟩,i⟩:=k;have d:L∈X.fs:=g L (by unfold frs;rw[List.filterMap_cons,f];exact bN);let⟨p,e⟩:=I.base.slot L o n (I.ok.frf L d) d λz=>I.ok.exfs L z d;exists h,⟨L,_,f,j,e,m⟩,ih (λb c=>g b (by unfold frs;rw[List.filterMap_cons,f];exact bM _ c)) i
 exact a X.outer (λZ c=>c) I.ok.funs
theorem Inv.stack(I:Inv X pins σ H s):s.heap.FunFrames X.base X.stack:=by
 rcases I.ok.stk with e|⟨e,b⟩
 .rw[e];exact I.funs
 .rw[e];let⟨m,a,_⟩:=I.loc;refine .cons (by rw[I.ok.kind];decide) b a ?_ I.funs;exact Heap.get?_none_of_le (bF I.ok.bsz I.ok.above)
def Inv.stkSub(I:Inv X pins σ H s):∀b∈frs X.stack,b∈X.env.locals::X.fs:=λb a=>by
 rcases I.ok.stk with e|⟨e,c⟩
 .rw[e]at a;exact bM _ a
 .rw[e]at a;unfold frs at a;rw[List.filterMap_cons,c]at a;exact a
def Inv.stkFree(I:Inv X pins σ H s):∀b∈frs X.stack,H b=none:=λb a=>by
 rcases bq.mp (I.stkSub b a)with e|a
 .rw[e];exact I.free
 .obtain⟨_,o,c,_⟩:=I.ok.funs.mem a;exact I.base.free b o c (I.ok.frf b a) λz=>I.ok.exfs b z a
def Inv.step{g':Array GenState}{d':Drawn}{ch:Χ}(I:Inv X pins σ H s)
  (hch:∀b∈ch,(b∈X.ex\/X.s₀.heap.objs.size<=b)/\b≠X.env.locals/\(∀x c,X.env.cells.lookup x=some c->c≠b)/\∀p∈X.pn++pins,p.1≠b)
  (keep:∀b o,b≠X.env.locals->b∉X.fs->b∉ch->s.heap.get? b=some o->H b=none->h'.get? b=some o)
  (slot:∀b o,b≠X.env.locals->b∈X.fs->b∉ch->s.heap.get? b=some o->H b=none->∃sl,h'.get? b=some {o with slots:=sl}) (free:∀b o,b∉ch->s.heap.get? b=some o->H b=none->H' b=none)
  (there:∀b o,b∉ch->s.heap.get? b=some o->∃o',h'.get? b=some o')
  (tups:∀b xs,H b=some (.tup xs)->H' b=some (.tup xs)) (frzs:∀b o u,H b=some (.frz o u)->H' b=some (.frz o u)) (tbls:∀b ps,H b=some (.tbl ps)->∃more,H' b=some (.tbl (ps++more)))
  (ns:∀m,s.heap.Ns X.env.locals m->h'.Ns X.env.locals m) (hok:HOk X.prog X.w H' h') (hg:AllBare g'):
  Inv X pins σ H' {s with heap:=h',gens:=g',drawn:=d',toks:=t'}:=by
 have B:∀b o,X.s₀.heap.get? b=some o->b≠X.env.locals:=λb o e=>bT (bP (bw e) I.ok.above)
 have h:∀b o,X.s₀.heap.get? b=some o->b∉X.ex->b∉ch:=λb o e a t=>by
  rcases (hch b t).1 with z|z
  .exact a z
  .exact absurd (bP (bw e) z) (cI _)
 have g:∀x c,X.env.cells.lookup x=some c->∀v,s.heap.IsCell c v->h'.IsCell c v:=λx c e v ⟨o,y,D⟩=>by
  have f:c∉ch:=λz=>(hch c z).2.2.1 x c e rfl;by_cases hc:c∈X.fs
  .obtain⟨sl,q⟩:=slot c o (I.cne x c e) hc f y (I.freeC x c e);exists _,q,D
  .exists o,keep c o (I.cne x c e) hc f y (I.freeC x c e),D
 exists I.ok,I.os,hg,⟨λb o e n t a=>?_,λb o e n t a=>?_,λb o e n a=>?_,λb o e a=>?_,λb xs e=>tups b xs (I.base.tups b xs e),λb o xs e=>frzs b o xs (I.base.frzs b o xs e),λb ps e=>?_⟩,?_,λx c e=>?_,?_,λx c e=>?_,λp G=>?_,hok,I.len
 .exact keep b o (B b o e) t (h b o e a) (I.base.keep b o e n t a) (I.base.free b o e n a)
 .obtain⟨sl,j⟩:=I.base.slot b o e n t a;let⟨C,A⟩:=slot b _ (B b o e) t (h b o e a) j (I.base.free b o e n a);exists C,A
 .obtain⟨o',j⟩:=I.base.there b o e a;exact free b o' (h b o e a) j (I.base.free b o e n a)
 .obtain⟨o',j⟩:=I.base.there b o e a;exact there b o' (h b o e a) j
 .obtain⟨J,j⟩:=I.base.tbls b ps e;let⟨K,A⟩:=tbls b _ j;exists J++K,by rw[A,Array.append_assoc]
 .obtain⟨m,M,N⟩:=I.loc;exists m,ns m M,λi x v j A L=>?_;let⟨u,r,l⟩:=N i x v j A L;exists u,r,?_;rcases l with l|⟨k,c,e,z⟩
  .exact .inl l
  .exact .inr ⟨k,c,e,g x c e _ z⟩
 .obtain⟨v,z⟩:=I.cell x c e;exists v,g x c e v z
 .obtain⟨m,⟨o,_,_,y,_⟩,_⟩:=I.loc;exact free _ o (λz=>(hch _ z).2.1 rfl) y I.free
 .obtain⟨v,o,y,D⟩:=I.cell x c e;exact free c o (λz=>(hch c z).2.2.1 x c e rfl) y (I.freeC x c e)
 .obtain⟨e,n,F,E,d⟩:=I.pin p G;have f:p.1∉ch:=λz=>(hch p.1 z).2.2.2 p G rfl;exists keep p.1 p.2 F E f e n,free p.1 p.2 f e n,F,E,d
def Inv.un(I:Inv X pins σ H s)(u:Un X.fs [] H H' s.heap h')(hok:HOk X.prog X.w H' h'):Inv X pins σ H' {s with heap:=h',toks:=t'}:=by
 let⟨m,⟨o,l,q,g,r⟩,_⟩:=id I.loc;let⟨k,j⟩:=u.any g I.free (by simp)
 exact I.step (g':=s.gens) (d':=s.drawn) (ch:=[]) (λZ z=>nomatch z) (λb o Z d Z e n=>u.keep b o e n d (by simp)) (λb o Z d Z e n=>u.slot b o e n d (by simp)) (λb o Z e n=>u.free b o e n (by simp)) (λb o Z e=>u.there b o e (by simp)) u.tups u.frzs u.tbls (λp i=>by
  let⟨t,f,c,a,h⟩:=i;rw[g]at a;cases a;exact⟨_,f,c,j,h⟩) hok I.bare
def Inv.call{g':Array GenState}{d':Drawn}{ch:Χ}(I:Inv X pins σ H s)(u:Un (frs X.stack) ch H H' s.heap h')(hok:HOk X.prog X.w H' h')(hg:AllBare g')
  (hch:∀b∈ch,(b∈X.ex\/X.s₀.heap.objs.size<=b)/\b≠X.env.locals/\(∀x c,X.env.cells.lookup x=some c->c≠b)/\∀p∈X.pn++pins,p.1≠b):
  Inv X pins σ H' {s with heap:=h',gens:=g',drawn:=d',toks:=t'}:=by
 let⟨m,⟨o,t,y,i,r⟩,_⟩:=id I.loc;let⟨q,g⟩:=u.any i I.free λz=>(hch _ z).2.1 rfl
 exact I.step (ch:=ch) hch (λb o g l a e n=>u.keep b o e n (λz=>(bq.mp (I.stkSub b z)).elim g l) a) (λb o Z Z a e n=>u.any e n a) (λb o a e n=>u.free b o e n a) (λb o a e=>u.there b o e a) u.tups u.frzs u.tbls (λv k=>by
  let⟨A,h,f,d,j⟩:=k;rw[i]at d;cases d;exact⟨_,h,f,g,j⟩) hok hg
def Inv.turned{it:z4}(I:Inv X pins σ H s)(k:∀b o,b≠it->s.heap.get? b=some o->h'.get? b=some o)(hn:H it=none)(hL:it≠X.env.locals)
  (h1:it∈X.ex\/X.s₀.heap.objs.size<=it) (h2:∀x c,X.env.cells.lookup x=some c->c≠it) (h3:∀p∈X.pn++pins,p.1≠it):Inv X pins σ H {s with heap:=h',toks:=t'}:=by
 have d:∀b u,H b=some u->b≠it:=λb u e z=>by rw[z,hn]at e;cases e
 refine I.step (g':=s.gens) (d':=s.drawn) (ch:=[it]) (λb h=>?_) (λb o Z Z a e Z=>k b o (λz=>a (by simp[z])) e) (λb o Z Z a e Z=>⟨o.slots,k b o (λz=>a (by simp[z])) e⟩) (λZ Z Z Z n=>n)
  (λb o a e=>⟨o,k b o (λz=>a (by simp[z])) e⟩) (λZ Z e=>e) (λZ Z Z e=>e) (λb l e=>⟨#[],by rw[e];simp⟩) (λm g=>?_) (λb u e=>?_) I.bare
 .have e:b=it:=by simpa using h
  subst e;exact⟨h1,hL,h2,h3⟩
 .obtain⟨o,f,i,j,r⟩:=g;exists o,f,i,k _ o (Ne.symm hL) j,r
 .refine(I.hok b u e).stay (λc v a q=>k c v ?_ q) (λZ q=>q) λZ Z q=>q;rcases a with z|z
  .rw[z];exact d b u e
  .exact d c _ z
def Inv.tok(I:Inv X pins σ H s)(t:Nat):Inv X pins σ H {s with toks:=t}:=I.un (h':=s.heap) (t':=t) Un.refl I.hok
theorem Inv.kept(I:Inv X pins σ H s)(k:∀b u,s.heap.get? b=some u->h'.get? b=some u):Inv X pins σ H {s with heap:=h',toks:=t'}:=I.un (Un.kept k) (I.hok.kept k)
theorem Inv.laid{o:HO}(I:Inv X pins σ H s)(k:∀b u,s.heap.get? b=some u->h'.get? b=some u)(hp:s.heap.objs.size<=a)(new:xm X.prog X.w (upd H a o) h' a o):
  Inv X pins σ (upd H a o) {s with heap:=h',toks:=t'}:=I.un (Un.laid k hp (I.hok.fresh hp)) (I.hok.laid k hp new)
theorem Inv.write{x e:z4}{o:HO}(I:Inv X pins σ H s)(mu:Mut (H x))(he:e=x\/H e=some (.own x))(k:∀b u,b≠e->s.heap.get? b=some u->h'.get? b=some u)(heo:∃u,h'.get? e=some u)
  (new:xm X.prog X.w (upd H x o) h' x o):Inv X pins σ (upd H x o) {s with heap:=h',toks:=t'}:=I.un (Un.write mu he k heo) (I.hok.write mu he k heo new)
def Inv.pins_of{pins':Θ}(I:Inv X pins σ H s)(h:∀p∈pins',s.heap.get? p.1=some p.2/\H p.1=none/\p.1≠X.env.locals/\p.1∉X.fs/\∀v,p.2.data≠.cell v):Inv X pins' σ H s :=
 ⟨I.ok,I.os,I.bare,I.base,I.loc,I.cell,I.free,I.freeC,λp a=>(bH.mp a).elim (λz=>I.pin p (List.mem_append_left _ z)) (h p),I.hok,I.len⟩
def yez{N:Τ}(hN:N.Nodup){j:Nat}{x:Str}(a:N[i]?=some x)(b:N[j]?=some x):i=j:=by let⟨e,c⟩:=bv.mp a;let⟨f,d⟩:=bv.mp b;exact(List.getElem_inj hN).mp (c.trans d.symm)
def Ĝ{A:qe}{x:Str}{Q:Unit->qa->Prop}(I:Inv X pins σ H s)(hN:X.N.Nodup)(hi:X.N[i]?=some x)(hx:Loc X.env.scope x)(r:xu v u)
  (h:∀s',Inv X pins (σ.set i (some v)) H s'->(∃a,Heap.SameBut a s.heap s'.heap/\(a=X.env.locals\/X.env.cells.lookup x=some a))->Q ⟨⟩ s') (hf:autoParam (X.fn x=true\/X.env.scope.names.lookup x=some .local) aA._auto_1):wpAny M A (storeName X.env x u) Q E s:=by
 let⟨m,hn,hl⟩:=id I.loc;have P:(X.env.scope.kind == .class || (X.env.scope.kind == .module && X.env.locals != X.env.globals))=false:=by rw[I.ok.kind];rfl
 have hiσ:i<σ.length:=by rw[I.len];exact(bv.mp hi).1
 have J:=I.cne
 have g:∀{a:z4}{K:qf},(∃o,s.heap.get? a=some o/\H a=none)->Heap.SameBut a s.heap K->HOk X.prog X.w H K:=λ{a K}ha f b ob e=>by
  let⟨_,_,B⟩:=ha;refine(I.hok b ob e).stay (λc S t q=>(f.2 c ?_).trans q) (λN q=>q) λN N q=>q;rintro rfl;rcases t with rfl|t
  .rw[B]at e;cases e
  .rw[B]at t;cases t
 rcases hx with D|D
 .refine wpAny_storeName_local D hn (λK a1 f=>?_) P;let⟨oL,_,_,a0,_⟩:=id hn;refine h _ ⟨I.ok,I.os,I.bare,⟨λb o e n F hx=>?_,λb o e n F hx=>?_,I.base.free,λb o e hx=>?_,I.base.tups,I.base.frzs,I.base.tbls⟩,⟨_,a1,λj y v' l C e3=>?_⟩,λy c e=>?_,I.free,I.freeC,λp hp=>?_,g ⟨oL,a0,I.free⟩ f,by simpa using I.len⟩ ⟨_,f,.inl rfl⟩
  .exact(f.2 b (bT (bP (bw e) I.ok.above))).trans (I.base.keep b o e n F hx)
  .obtain⟨W,l⟩:=I.base.slot b o e n F hx;exists W,(f.2 b (bT (bP (bw e) I.ok.above))).trans l
  .obtain⟨Z,l⟩:=I.base.there b o e hx;exists Z,(f.2 b (bT (bP (bw e) I.ok.above))).trans l
  .by_cases hj:j=i
   .subst hj;rw[hi]at l;cases l;rw[List.getElem?_set_self hiσ]at C;cases C;exists u,r,.inl ⟨D,by simp⟩
   .rw[List.getElem?_set_ne (Ne.symm hj)]at C;let⟨u',r',q⟩:=hl j y v' l C e3;exists u',r',?_;rcases q with⟨k,e⟩|⟨k,c,e,z⟩
    .refine .inl ⟨k,?_⟩;have:y≠x:=λe=>hj (yez hN l (e ▸ hi));simp[this,e]
    .exact .inr ⟨k,c,e,z.sameBut f (J y c e)⟩
  .obtain⟨S,z⟩:=I.cell y c e;exists S,z.sameBut f (J y c e)
  .obtain⟨e,n,U,Y,d⟩:=I.pin p hp;exists(f.2 p.1 U).trans e,n,U,Y,d
 .have G:X.fn x=true:=by
   rcases hf with z|z
   .exact z
   .rw[z]at D;cases D
  let⟨c,t⟩:=I.ok.has x (.inl D);let⟨S,z⟩:=I.cell x c t;refine wpAny_storeName_cell I.ok.kind D t z (λK L f=>?_);let⟨oc,R,O⟩:=id z;refine h {s with heap:=K} ⟨I.ok,I.os,I.bare,⟨λb o e n F hx=>?_,λb o e n F hx=>?_,I.base.free,λb o e hx=>?_,I.base.tups,I.base.frzs,I.base.tbls⟩,⟨m,hn.sameBut f (Ne.symm (J x c t)),λj y v' l C e3=>?_⟩,λy T e=>?_,I.free,I.freeC,λp hp=>?_,g ⟨oc,R,I.freeC x c t⟩ f,by simpa using I.len⟩ ⟨c,f,.inr t⟩
  .exact(f.2 b (bT (bP (bw e) (I.ok.cab x c G t)))).trans (I.base.keep b o e n F hx)
  .obtain⟨W,l⟩:=I.base.slot b o e n F hx;exists W,(f.2 b (bT (bP (bw e) (I.ok.cab x c G t)))).trans l
  .obtain⟨Z,l⟩:=I.base.there b o e hx;exists Z,(f.2 b (bT (bP (bw e) (I.ok.cab x c G t)))).trans l
  .by_cases hj:j=i
   .subst hj;rw[hi]at l;cases l;rw[List.getElem?_set_self hiσ]at C;cases C;exists u,r,.inr ⟨.inl D,c,t,L⟩
   .rw[List.getElem?_set_ne (Ne.symm hj)]at C;let⟨u',r',q⟩:=hl j y v' l C e3;exists u',r',?_;rcases q with q|⟨k,T,e,z'⟩
    .exact .inl q
    .refine .inr ⟨k,T,e,z'.sameBut f ?_⟩;rintro rfl;exact hj (yez hN l (I.ok.inj _ _ _ e t ▸ hi))
  .by_cases hcc:T=c
   .subst hcc;exists _,L
   .obtain⟨w2,z2⟩:=I.cell y T e;exists w2,z2.sameBut f hcc
  .obtain⟨e,n,U,Y,d⟩:=I.pin p hp;exists(f.2 p.1 ?_).trans e,n,U,Y,d;intro q;rw[q,R]at e;have q':oc=p.2:=bx e;exact d S (by rw[<- q'];exact O)
def yeh{A:qe}{x:Str}{Q:Unit->qa->Prop}(I:Inv X pins σ H s)(hN:X.N.Nodup)(hi:X.N[i]?=some x)(hx:Loc X.env.scope x)(r:xu v u)
  (h:∀s',Inv X pins (σ.set i (some v)) H s'->Q ⟨⟩ s') (hf:autoParam (X.fn x=true\/X.env.scope.names.lookup x=some .local) aA._auto_1):wpAny M A (storeName X.env x u) Q E s :=
 Ĝ I hN hi hx r (λs' a Z=>h s' a) hf
def Inv.call'{ch:Χ}(I:Inv X pins σ H s)(ho:s'.os=s.os)(u:Un (frs X.stack) ch H H' s.heap s'.heap)(hok:HOk X.prog X.w H' s'.heap)(hg:AllBare s'.gens)
  (hch:∀b∈ch,(b∈X.ex\/X.s₀.heap.objs.size<=b)/\b≠X.env.locals/\(∀x c,X.env.cells.lookup x=some c->c≠b)/\∀p∈X.pn++pins,p.1≠b):Inv X pins σ H' s':=by let⟨d,g',d',t',a⟩:=s';have e:a=s.os:=ho;subst e;exact I.call (g':=g') (t':=t') (d':=d') u hok hg hch
end
abbrev XK:=qb->qj z4->Hp->Prop
abbrev St:=qi (Ψ)
abbrev _root_.Ζ:=St->Hp->Prop
variable{σ:St}
abbrev VK:=V->Hp->Prop
abbrev TE:=St->Hp->VK->Prop
variable{ta te:TE}
abbrev TT:=St->Hp->(Bool->Hp->Prop)->Prop
abbrev TA:=St->Hp->(qi V->Hp->Prop)->Prop
structure Ĳ where
 nx:Ζ
 rt:VK
 bk:Ζ:=λZ Z=>False
 ct:Ζ:=λZ Z=>False
abbrev TS:=Ĳ->St->Hp->Prop
def EP(X:Cx)(pins:Θ)(σ:St)(Q:VK)(u:qb)(s':qa):Prop:=∃v H',Inv X pins σ H' s'/\xu v u/\Q v H'
def TP(X:Cx)(pins:Θ)(σ:St)(Q:Bool->Hp->Prop)(b:Bool)(s':qa):Prop:=∃H',Inv X pins σ H' s'/\Q b H'
def AP(X:Cx)(pins:Θ)(σ:St)(Q:qi V->Hp->Prop)(us:Ο)(s':qa):Prop:=∃vs H',Inv X pins σ H' s'/\wz vs us/\Q vs H'
def SP(X:Cx)(pins:Θ)(D:Ĳ)(f:Flow)(s':qa):Prop :=
 match f with
 | .next=>∃σ' H',Inv X pins σ' H' s'/\D.nx σ' H'
 | .brk=>∃σ' H',Inv X pins σ' H' s'/\D.bk σ' H'
 | .cont=>∃σ' H',Inv X pins σ' H' s'/\D.ct σ' H'
 | .ret u=>∃v σ' H',Inv X pins σ' H' s'/\xu v u/\D.rt v H'
structure PE(X:Cx)(e:qg)(t:TE):Prop where
 go:∀(pins:Θ)(s:qa)(σ:St)(H:Hp)(Q:VK),Inv X pins σ H s->t σ H Q->wpAny (model X.prog X.w) X.A (eval e X.env) (EP X pins σ Q) X.xe s
instance {X:Cx}{e:qg}{t:TE}:CoeFun (PE X e t) (λZ=>∀(pins:Θ)(s:qa)(σ:St)(H:Hp)(Q:VK),Inv X pins σ H s->t σ H Q->wpAny (model X.prog X.w) X.A (eval e X.env) (EP X pins σ Q) X.xe s):=⟨PE.go⟩
structure PT(X:Cx)(e:qg)(t:TT):Prop where
 go:∀(pins:Θ)(s:qa)(σ:St)(H:Hp)(Q:Bool->Hp->Prop),Inv X pins σ H s->t σ H Q->wpAny (model X.prog X.w) X.A (isTrue e X.env (eval e X.env)) (TP X pins σ Q) X.xe s
instance {X:Cx}{e:qg}{t:TT}:CoeFun (PT X e t) (λZ=>∀(pins:Θ)(s:qa)(σ:St)(H:Hp)(Q:Bool->Hp->Prop),Inv X pins σ H s->t σ H Q->wpAny (model X.prog X.w) X.A (isTrue e X.env (eval e X.env)) (TP X pins σ Q) X.xe s):=⟨PT.go⟩
def PW(X:Cx)(e:qg)(t:TT):Prop :=
 ∀(whole:Sem qb)(pins:Θ)(s:qa)(σ:St)(H:Hp)(Q:Bool->Hp->Prop),Inv X pins σ H s->t σ H Q->wpAny (model X.prog X.w) X.A (isTrue e X.env whole) (TP X pins σ Q) X.xe s
def PW.pt{t:TT}(h:PW X e t):PT X e t:=⟨h _⟩
structure PA(X:Cx)(es:qi qg)(t:TA):Prop where
 go:∀(pos:Pos)(pins:Θ)(s:qa)(σ:St)(H:Hp)(Q:qi V->Hp->Prop),Inv X pins σ H s->t σ H Q->wpAny (model X.prog X.w) X.A (spliced (backTo pos (starEach es X.env))) (AP X pins σ Q) X.xe s
instance {X:Cx}{es:qi qg}{t:TA}:CoeFun (PA X es t) (λZ=>∀(pos:Pos)(pins:Θ)(s:qa)(σ:St)(H:Hp)(Q:qi V->Hp->Prop),Inv X pins σ H s->t σ H Q->wpAny (model X.prog X.w) X.A (spliced (backTo pos (starEach es X.env))) (AP X pins σ Q) X.xe s):=⟨PA.go⟩
structure PS(X:Cx)(st:qc)(t:TS):Prop where
 go:∀(pins:Θ)(s:qa)(σ:St)(H:Hp)(D:Ĳ),Inv X pins σ H s->t D σ H->wpAny (model X.prog X.w) X.A (exec st X.env) (SP X pins D) X.xe s
instance {X:Cx}{st:qc}{t:TS}:CoeFun (PS X st t) (λZ=>∀(pins:Θ)(s:qa)(σ:St)(H:Hp)(D:Ĳ),Inv X pins σ H s->t D σ H->wpAny (model X.prog X.w) X.A (exec st X.env) (SP X pins D) X.xe s):=⟨PS.go⟩
structure PSs(X:Cx)(st:qi qc)(t:TS):Prop where
 go:∀(pins:Θ)(s:qa)(σ:St)(H:Hp)(D:Ĳ),Inv X pins σ H s->t D σ H->wpAny (model X.prog X.w) X.A (execs st X.env) (SP X pins D) X.xe s
instance {X:Cx}{st:qi qc}{t:TS}:CoeFun (PSs X st t) (λZ=>∀(pins:Θ)(s:qa)(σ:St)(H:Hp)(D:Ĳ),Inv X pins σ H s->t D σ H->wpAny (model X.prog X.w) X.A (execs st X.env) (SP X pins D) X.xe s):=⟨PSs.go⟩
def thn{α:Type}{t:Sem α}{Q Q':α->qa->Prop}{A:qe}{s:qa}(h:wpAny M A t Q E s)(hQ:∀a s,Q a s->Q' a s):wpAny M A t Q' E s:=cJ h hQ λZ Z x=>x
section
def vgo(i:Nat):TE:=λσ H Q=>∃v,σ[i]?=some (some v)/\Q v H
def tC(v:V):TE:=λZ H Q=>Q v H
def yx1{x:Str}{pos:Pos}(hN:X.N[i]?=some x)(hv:Vis X.env.scope x)(hd:autoParam ((x == ("__debug__":Str))=false) aB._auto_1)(hcd:autoParam ((x == ("__classdict__":Str))=false) aB._auto_1):PE X (.Name x pos) (vgo i):=by
 refine .mk λf s σ H Q I h=>?_;let⟨v,e,h⟩:=h;let⟨m,n,k⟩:=I.loc;let⟨u,r,l⟩:=k i x v hN e hv;have d:EP X f σ Q u s:=⟨v,H,I,r,h⟩;rcases l with⟨b,j⟩|⟨b,c,g,a⟩
 .exact wpAny_Name (wpAny_loadName_local I.ok.kind b n j d) hd
 .rcases b with b|b
  .exact wpAny_Name (wpAny_loadName_cell I.ok.kind b g a d) hd
  .exact wpAny_Name (wpAny_loadName_free I.ok.kind b g a d hcd) hd
def yh{i j pos}:PE X (.Constant (.int i) j pos) (tC (.int i)):=.mk λZ Z Z H Z I h=>wpAny_Constant_int ⟨.int i,H,I.tok _,⟨_,rfl⟩,h⟩
def yay{b j pos}:PE X (.Constant (.bool b) j pos) (tC (.bl b)):=.mk λZ Z Z H Z I h=>Constant_bool ⟨.bl b,H,I,rfl,h⟩
def uy{j pos}:PE X (.Constant .none j pos) (tC .non):=.mk λZ Z Z H Z I h=>Constant_none ⟨.non,H,I,rfl,h⟩
def vg{x j pos}:PE X (.Constant (.str x) j pos) (tC (.str x)):=.mk λZ Z Z H Z I h=>Calls.Constant_str ⟨.str x,H,I.tok _,⟨_,rfl⟩,h⟩
def Gl(X:Cx)(x:Str):Prop:=X.env.kindOf x=some .globalImplicit
def Æ{s:qa}{x:Str}{pos:Pos}(I:Inv X pins σ H s)(hg:Gl X x)(hm:X.mg x=some u)(h:Q u s)
  (hd:autoParam ((x == ("__debug__":Str))=false) aB._auto_1):wpAny (model X.prog X.w) X.A (eval (.Name x pos) X.env) Q E s :=
 Calls.Name_function_global I.ok.kind hg (Calls.loadGlobal_global (by rw[I.ok.glob];exact I.mod.glob.keeps I.bk) hm h) hd
def Į{s:qa}{x:Str}{pos:Pos}(I:Inv X pins σ H s)(hg:Gl X x)(hm:X.mg x=none)(hv:bootBuiltins x=some u)(h:Q u s)
  (hn:autoParam (x≠"__name__") aB._auto_1) (hd:autoParam ((x == ("__debug__":Str))=false) aB._auto_1):wpAny (model X.prog X.w) X.A (eval (.Name x pos) X.env) Q E s:=by let⟨c,a,b⟩:=I.mod.blt;exact Calls.Name_function_global I.ok.kind hg (Calls.loadGlobal_builtin (by rw[I.ok.glob];exact I.mod.glob.keeps I.bk) hm (by rw[I.ok.blt];exact a.keeps I.bk) ((b x hn).trans hv) h) hd
def ydi{x:Str}{pos:Pos}(hg:Gl X x)(hm:X.mg x=some u)(r:xu v u)(hd:autoParam ((x == ("__debug__":Str))=false) aB._auto_1):PE X (.Name x pos) (tC v):=.mk
 λZ Z Z H Z I h=>Æ I hg hm ⟨v,H,I,r,h⟩ hd
def ys4{x:Str}{pos:Pos}(hg:Gl X x)(hm:X.mg x=none)(hv:bootBuiltins x=some u)(r:xu v u)(hn:autoParam (x≠"__name__") aB._auto_1)(hd:autoParam ((x == ("__debug__":Str))=false) aB._auto_1):PE X (.Name x pos) (tC v):=.mk
 λZ Z Z H Z I h=>Į I hg hm hv ⟨v,H,I,r,h⟩ hn hd
variable{a b:qg}{tb:TE}{pos:Pos}
def PC(X:Cx)(op:CmpOp)(a b:qg)(t:TE):Prop :=
 ∀(pins:Θ)(s:qa)(σ:St)(H:Hp)(Q:VK),Inv X pins σ H s->t σ H Q ->
  wpAny (model X.prog X.w) X.A (eval a X.env) (λv s₁=>wpAny (model X.prog X.w) X.A (eval b X.env) (λu s₂=>wpAny (model X.prog X.w) X.A (compareOp op v u) (EP X pins σ Q) X.xe s₂) X.xe s₁) X.xe s
def tB(t:TE):TT:=λσ H Q=>t σ H λx H1=>∃c,x=.bl c/\Q c H1
def yfe{t:TE}(h:PC X op a b t)(h1:behindInMarks op b=false:=by first|exact nobehind _ ∅ ∅|rfl):PT X (.Compare a [op] [b] pos) (tB t):=by refine .mk λe s σ H Q I g=>?_;refine wpAny_isTrue_Compare1 (thn (h e s σ H _ I g) λv n h1=>thn h1 λu o f=>thn f λc m h'=>?_) h1;let⟨x,i,j,k,l⟩:=h';let⟨d,rfl,q⟩:=l;cases k;exact cq ⟨i,j,q⟩
def xy{t:TE}(h:PE X e t)(he:autoParam (∀whole,isTrue e X.env whole=(do let v <- whole;standAt e.pos;holding [v] (truthy v))) aC._auto_1):PT X e (tB t):=by refine .mk λa s σ H Q I b=>?_;refine isTrue_plain (thn (h a s σ H _ I b) λv j h'=>?_) (he _);let⟨x,c,f,g,i⟩:=h';let⟨d,rfl,q⟩:=i;cases g;exact cq ⟨c,f,q⟩
variable{tA tB':TT}{ρ:qi qg}
def vhi(t u:TT):TT:=λσ H Q=>t σ H λc H1=>if c=true then u σ H1 Q else Q false H1
def tOr(t u:TT):TT:=λσ H Q=>t σ H λc H1=>if c=true then Q true H1 else u σ H1 Q
def vhk(t:TT):TT:=λσ H Q=>t σ H λc H1=>Q (!c) H1
def yj2(ha:PT X a tA):PW X (.BoolOp .And [a] pos) tA:=by
 intro d b s σ H Q I h;refine isTrue_and (thn (ha b s σ H Q I h) λc f e=>?_)
 cases c with
 |true=>exact isTrue_and_nil e
 |false=>exact e
def į(ha:PT X a tA):PW X (.BoolOp .Or [a] pos) tA:=by
 intro d b s σ H Q I h;refine isTrue_or (thn (ha b s σ H Q I h) λc f e=>?_)
 cases c with
 |false=>exact isTrue_or_nil e
 |true=>exact e
def ykg(ha:PT X a tA)(hb:PW X (.BoolOp .And (b::ρ) pos) tB'):PW X (.BoolOp .And (a::b::ρ) pos) (vhi tA tB'):=by
 intro i d s σ H Q I h;refine isTrue_and (thn (ha d s σ H _ I h) λc j h'=>?_);let⟨e,f,g⟩:=h'
 cases c with
 |true=>exact hb i d j σ e Q f g
 |false=>exact⟨e,f,g⟩
def ł(ha:PT X a tA)(hb:PW X (.BoolOp .Or (b::ρ) pos) tB'):PW X (.BoolOp .Or (a::b::ρ) pos) (tOr tA tB'):=by
 intro i d s σ H Q I h;refine isTrue_or (thn (ha d s σ H _ I h) λc j h'=>?_);let⟨e,f,g⟩:=h'
 cases c with
 |true=>exact⟨e,f,g⟩
 |false=>exact hb i d j σ e Q f g
def xt(ha:PT X a tA):PT X (.UnaryOp .Not a pos) (vhk tA):=by refine .mk λb s σ H Q I h=>?_;exact isTrue_not (ha b s σ H (λc d=>Q (!c) d) I h)
def vcv(ta tb:TE):TE:=λσ H Q=>ta σ H λx H1=>∃c,x=.bl c/\if c=true then tb σ H1 Q else Q (.bl false) H1
def vcz(ta:TE):TE:=λσ H Q=>ta σ H λx H1=>∃c,x=.bl c/\Q (.bl (!c)) H1
def Þ{op}{t:TE}(h:PE X a t):PE X (.BoolOp op [a] pos) t:=.mk λb s σ H Q I c=>BoolOp_one (h b s σ H Q I c)
def ji(ha:PE X a ta)(hb:PE X (.BoolOp .And (b::ρ) pos) tb):PE X (.BoolOp .And (a::b::ρ) pos) (vcv ta tb):=by
 refine .mk λd s σ H Q I h=>?_;refine BoolOp_and (thn (ha d s σ H _ I h) λv j h'=>?_);let⟨x,f,g,i,e⟩:=h';let⟨c,rfl,e⟩:=e;cases i;refine cq ?_
 cases c with
 |true=>exact hb d j σ f Q g e
 |false=>exists .bl false,f,g,rfl,e
def yyh(ha:PE X a ta):PE X (.UnaryOp .Not a pos) (vcz ta):=by refine .mk λb s σ H Q I h=>?_;refine UnaryOp_ (thn (ha b s σ H _ I h) λv i h'=>?_);let⟨x,e,f,g,d⟩:=h';let⟨c,rfl,d⟩:=d;cases g;exact not_of (cq ⟨.bl (!c),e,f,rfl,d⟩)
def tIf(t:TT)(ta tb:TE):TE:=λσ H Q=>t σ H λc H1=>if c=true then ta σ H1 Q else tb σ H1 Q
def jp{c:qg}(hc:PT X c tA)(ha:PE X a ta)(hb:PE X b tb):PE X (.IfExp c a b pos) (tIf tA ta tb):=by
 refine .mk λe s σ H Q I h=>?_;refine wpAny_IfExp (thn (hc e s σ H _ I h) λd j h'=>?_);let⟨f,g,i⟩:=h'
 cases d with
 |true=>exact ha e j σ f Q g i
 |false=>exact hb e j σ f Q g i
end
def SqL(K:z3)(H:Hp)(a:z4)(xs:Υ):Prop :=
 Rd H a (.lst xs) \/
  ∃(o:Obj)(its:Array qb)(n:Nat),K.lookup a=some o/\o.cls=.type "list"/\o.dict=none/\o.data=.seq its n/\its.size<=sizeLine/\wz xs its.toList
def SqT(K:z3)(H:Hp)(a:z4)(xs:Υ):Prop :=
 Rd H a (.tup xs) \/
  ∃(o:Obj)(its:Array qb)(n:Nat),K.lookup a=some o/\o.cls=.type "tuple"/\o.data=.seq its n/\its.size<=sizeLine/\wz xs its.toList
noncomputable def vh9:qb->qj V
 | .none=>some .non
 | .bool b=>some (.bl b)
 | .int i _=>some (.int i)
 | .str x _=>some (.str x)
 | .bytes b _=>some (.byt b)
 | .float b _=>some (.flt b)
 | .ref a=>some (.ref a)
 | .type n=>some (.ty n)
 |_=>none
def xu.abs{x:V}(r:xu x u):vh9 u=some x:=by
 cases x with
 |non=>cases r;rfl
 |bl _=>cases r;rfl
 |int _=>let⟨t,rfl⟩:=r;rfl
 |str _=>let⟨t,rfl⟩:=r;rfl
 |byt _=>let⟨t,rfl⟩:=r;rfl
 |flt _=>let⟨t,rfl⟩:=r;rfl
 |ref _=>cases r;rfl
 |ty _=>cases r;rfl
def xu.inj{x:V}(r:xu x u)(q:xu y u):x=y:=bx (r.abs.symm.trans q.abs)
theorem wz.inj(h:wz xs us)(k:wz ys us):xs=ys:=by
 induction h generalizing ys with
 |nil=>cases k;rfl
 |cons r t ih =>
  cases k with
  |cons r' t'=>rw[r.inj r',ih t']
section
variable{s:qa}
def SqL.of{K:z3}(h:H a=some (.lst xs)):SqL K H a xs:=.inl (.inl h)
def SqT.of{K:z3}(h:H a=some (.tup xs)):SqT K H a xs:=.inl (.inl h)
def Inv.list(I:Inv X pins σ H s)(h:SqL X.K H a xs):∃its:Ο,wz xs its/\PlainL s.heap a its.toArray/\xs.length<=sizeLine:=by
 rcases h with h|⟨o,its,n,b,d,f,c,g,r⟩
 .obtain⟨z,its,n,r,e⟩:=h.ok I.hok;exists its,r,⟨_,n,e,rfl,rfl,rfl⟩,z
 .exists its.toList,r,⟨o,n,I.kIn a o b,d,f,by simpa using c⟩,?_;have e:=r.length;simp only[ci]at e;omega
def Inv.tuple(I:Inv X pins σ H s)(h:SqT X.K H a xs):∃its:Ο,wz xs its/\IsTup s.heap a its.toArray/\xs.length<=sizeLine:=by
 rcases h with h|⟨o,its,n,b,d,c,f,r⟩
 .obtain⟨z,its,r,p⟩:=h.ok I.hok;exact⟨its,r,p,z⟩
 .exists its.toList,r,⟨o,I.kIn a o b,d,n,by simpa using c⟩,?_;have e:=r.length;simp only[ci]at e;omega
def Inv.list_inj(I:Inv X pins σ H s)(h:SqL X.K H a xs)(h':SqL X.K H a ys):xs=ys:=by
 let⟨c,r,⟨o,n,e,_,_,d⟩,_⟩:=I.list h;let⟨b,i,⟨k,j,g,_,_,f⟩,_⟩:=I.list h';rw[e]at g;cases g;rw[d]at f;injection f with d1 _;have:c=b:=by simpa using congrArg Array.toList d1
 subst this;exact r.inj i
def Inv.tuple_inj(I:Inv X pins σ H s)(h:SqT X.K H a xs)(h':SqT X.K H a ys):xs=ys:=by
 let⟨c,r,⟨o,e,_,n,d⟩,_⟩:=I.tuple h;let⟨b,i,⟨k,g,_,j,f⟩,_⟩:=I.tuple h';rw[e]at g;cases g;rw[d]at f;injection f with d1 _;have:c=b:=by simpa using congrArg Array.toList d1
 subst this;exact r.inj i
end
noncomputable abbrev Cx.wish(X:Cx)(E:Δ):Cx:={X with xe:=E}
noncomputable abbrev Cx.nox(X:Cx):Cx:=X.wish λZ Z=>False
theorem Cx.Ok.wish(ok:X.Ok)(E:Δ):(X.wish E).Ok :=
 ⟨ok.mod,ok.kind,ok.glob,ok.blt,ok.above,ok.inj,ok.has,ok.cab,ok.hd,ok.frames,ok.stk,ok.exf,ok.bs,ok.bsz,ok.noex,ok.exfs,ok.funs,ok.frf⟩
def Cx.Ok.unwish(ok:(X.wish E).Ok):X.Ok :=
 ⟨ok.mod,ok.kind,ok.glob,ok.blt,ok.above,ok.inj,ok.has,ok.cab,ok.hd,ok.frames,ok.stk,ok.exf,ok.bs,ok.bsz,ok.noex,ok.exfs,ok.funs,ok.frf⟩
section
variable{s:qa}
theorem Inv.wish(I:Inv X pins σ H s)(E:Δ):Inv (X.wish E) pins σ H s:=⟨I.ok.wish E,I.os,I.bare,I.base,I.loc,I.cell,I.free,I.freeC,I.pin,I.hok,I.len⟩
theorem Inv.unwish(I:Inv (X.wish E) pins σ H s):Inv X pins σ H s:=⟨I.ok.unwish,I.os,I.bare,I.base,I.loc,I.cell,I.free,I.freeC,I.pin,I.hok,I.len⟩
theorem SP.unwish{D:Ĳ}{f:Flow}(h:SP (X.wish E) pins D f s'):SP X pins D f s':=by
 cases f with
 |next=>let⟨σ',a,I,q⟩:=h;exact⟨σ',a,I.unwish,q⟩
 |brk=>let⟨σ',a,I,q⟩:=h;exact⟨σ',a,I.unwish,q⟩
 |cont=>let⟨σ',a,I,q⟩:=h;exact⟨σ',a,I.unwish,q⟩
 |ret u=>let⟨v,σ',a,I,r,q⟩:=h;exists v,σ',a,I.unwish,r,q
theorem PSs.nox{st:qi qc}{t:TS}(h:PSs X.nox st t):PSs X st t:=.mk λa s σ H D I b =>
 cJ (h a s σ H D (I.wish _) b) (λZ Z q=>q.unwish) λZ Z z=>False.elim z
end
section
variable{st:qc}{ρ:qi qc}{t u:TS}{pos:Pos}
def vdj:TS:=λD σ H=>D.nx σ H
def vgn(t u:TS):TS:=λD σ H=>t {D with nx:=u D} σ H
def y7:PSs X [] vdj:=.mk λZ Z σ H Z I h=>wpAny_execs_nil ⟨σ,H,I,h⟩
def yf(h1:PS X st t)(h2:PSs X ρ u):PSs X (st::ρ) (vgn t u):=by
 refine .mk λa s σ H D I h=>?_;refine wpAny_execs_cons (thn (h1 a s σ H {D with nx:=u D} I h) λf b q=>?_)
 cases f with
 |next =>
  let⟨σ',c,d,q⟩:=q;exact h2 a b σ' c D d q
 |ret v=>exact q
 |brk=>exact q
 |cont=>exact q
def yc(h1:PS X st t):PSs X [st] t:=by
 refine .mk λa s σ H D I h=>?_;refine wpAny_execs_cons (thn (h1 a s σ H D I h) λf b q=>?_)
 cases f with
 |next=>exact wpAny_execs_nil q
 |ret v=>exact q
 |brk=>exact q
 |cont=>exact q
def Inv.quiet{s:qa}(I:Inv X pins σ H s):interactive X.env=false:=by simp[interactive,I.ok.kind]
def vcg(te:TE):TS:=λD σ H=>te σ H λZ H1=>D.nx σ H1
def yu(he:PE X e te)(hs:autoParam (swapsWith e none pos.line X.env=pure false) aD._auto_1):PS X (.Expr e pos) (vcg te):=by refine .mk λa s σ H D I h=>?_;exact wpAny_Expr_any (thn (he a s σ H _ I h) λv g ⟨x,b,c,f,d⟩=>⟨σ,b,c,d⟩) I.quiet hs
def vg8(te:TE):TS:=λD σ H=>te σ H D.rt
def yn(he:PE X e te):PS X (.Return (some e) pos) (vg8 te):=by refine .mk λa s σ H D I h=>?_;exact wpAny_Return_some (thn (he a s σ H _ I h) λv g ⟨x,b,c,d,f⟩=>⟨x,σ,b,c,d,f⟩)
def vgq(c:TT)(t u:TS):TS:=λD σ H=>c σ H λb H1=>if b=true then t D σ H1 else u D σ H1
def v9{c:qg}{a b:qi qc}{tc:TT}(hc:PT X c tc)(ha:PSs X a t)(hb:PSs X b u):PS X (.If c a b pos) (vgq tc t u):=by
 refine .mk λe s σ H D I h=>?_;refine wpAny_If (thn (hc e s σ H _ I h) λd j h'=>?_);let⟨f,g,i⟩:=h'
 cases d with
 |true=>exact ha e j σ f D g i
 |false=>exact hb e j σ f D g i
def yyb:TS:=λZ Z Z=>False
def Ò:PS X st yyb:=.mk λZ Z Z Z Z Z h=>h.elim
end
abbrev TG:=V->St->Hp->(Ζ)->Prop
abbrev TGs:=qi V->St->Hp->(Ζ)->Prop
def PG(X:Cx)(target:qg)(t:TG):Prop :=
 ∀(pins:Θ)(s:qa)(σ:St)(H:Hp)(v:V)(u:qb)(Q:Ζ),Inv X pins σ H s->xu v u->t v σ H Q ->
  wpAny (model X.prog X.w) X.A (assign target X.env u) (λZ s'=>∃σ' H',Inv X pins σ' H' s'/\Q σ' H') X.xe s
def PGs(X:Cx)(ts:qi qg)(t:TGs):Prop :=
 ∀(pins:Θ)(s:qa)(σ:St)(H:Hp)(vs:Υ)(us:Ο)(Q:Ζ),Inv X pins σ H s->wz vs us->t vs σ H Q ->
  wpAny (model X.prog X.w) X.A (assignInOrder ((assignEach ts X.env).map (·.2)) us) (λZ s'=>∃σ' H',Inv X pins σ' H' s'/\Q σ' H') X.xe s
section
variable{pos:Pos}
def xo(i:Nat):TG:=λv σ H Q=>Q (σ.set i (some v)) H
def vy{x:Str}(hN:X.N.Nodup)(hi:X.N[i]?=some x)(hx:Loc X.env.scope x)(hf:autoParam (X.fn x=true\/X.env.scope.names.lookup x=some .local) aA._auto_1):PG X (.Name x pos) (xo i):=by intro a s σ H v u Q I r h;exact wpAny_assign_Name (yeh I hN hi hx r (λc b=>⟨_,H,b,h⟩) hf)
def yle:TGs:=λvs σ H Q=>vs=[]/\Q σ H
def zq(t:TG)(u:TGs):TGs:=λvs σ H Q=>∃v r,vs=v::r/\t v σ H λσ' H'=>u r σ' H' Q
def j4:PGs X [] yle:=by intro a s σ H c b Q I r h;let⟨e,h⟩:=h;subst e;cases r;exact assignInOrder_nil ⟨σ,H,I,h⟩
def xa{t:TG}{u:TGs}(h1:PG X e t)(h2:PGs X es u)
  (hs:autoParam ((assignEach (e::es) X.env).map (·.2)=assign e X.env::(assignEach es X.env).map (·.2)) aD._auto_1):PGs X (e::es) (zq t u):=by
 intro a s σ H j i Q I r h;let⟨v,k,g,h⟩:=h;subst g
 cases r with
 |cons r rr =>
  rw[hs];refine assignInOrder_cons (thn (h1 a s σ H _ _ _ I r h) λZ f h'=>?_);let⟨σ1,b,c,d⟩:=h';exact h2 a f σ1 b _ _ Q c rr d
def yvx(K:z3)(n:Nat)(t:TGs):TG:=λv σ H Q=>∃a xs,v=.ref a/\SqT K H a xs/\xs.length=n/\t xs σ H Q
def ù{k:Nat}{t:TGs}{n:Nat}(hc:X.calm=true)(h:PGs X es t)
  (hn:autoParam ((assignEach es X.env).length=n) aD._auto_1) (hst:autoParam ((assignEach es X.env).findIdx? (·.1)=none) aD._auto_1):PG X (.Tuple es k pos) (yvx X.K n t):=by intro c s σ H v u Q I r d;let⟨a,i,p,x,m,d⟩:=d;subst p;cases r;let⟨g,f,w,y⟩:=I.tuple x;refine assign_Tuple_tuple (I.ok.hd hc) w (by simp[hn,<- m,f.length]) hst λq j=>?_;have l:Inv X c σ H {s with heap:=q}:=I.kept (t':=s.toks) λb o e=>j b o (bT (bw e)) e;exact h c _ σ H i _ Q l (by simpa using f) d
def vev(te:TE)(g:TG):TS:=λD σ H=>te σ H λx H1=>g x σ H1 D.nx
def yzp{g:TG}(he:PE X e te)(hg:PG X tg g)(hs:autoParam (swapsWithSole [tg] e pos.line X.env=pure false) aD._auto_1)(hw:autoParam (swappedStores [tg] e X.env=pure none) aD._auto_1)
  (h1:autoParam ((assignEach [tg] X.env).map (·.2)=[assign tg X.env]) aD._auto_1):PS X (.Assign [tg] e pos) (vev te g):=by refine .mk λa s σ H D I h=>?_;refine wpAny_Assign_stores (thn (he a s σ H _ I h) λv i h'=>?_) hs hw;let⟨x,b,c,d,f⟩:=h';rw[h1];exact thn (hg a i σ b x v _ c d f) λZ j q=>q
def yt{x:Str}{pos':Pos}(hN:X.N.Nodup)(hi:X.N[i]?=some x)(hx:Loc X.env.scope x)(he:PE X e te)(hs:autoParam (swapsWith e (some (.Name x pos')) pos.line X.env=pure false) aD._auto_1)(hf:autoParam (X.fn x=true\/X.env.scope.names.lookup x=some .local) aA._auto_1):
  PS X (.Assign [.Name x pos'] e pos) (vev te (xo i)):=by refine .mk λa s σ H D I h=>?_;refine wpAny_Assign_Name (thn (he a s σ H _ I h) λv j h'=>?_) hs;let⟨y,c,d,f,g⟩:=h';exact yeh d hN hi hx f (λk b=>⟨_,c,b,g⟩) hf
end
section
variable{pos:Pos}
def yxm(c:TT)(tb:TS):TS:=λD σ H=>∃W:Nat->St->Hp->Prop,(∃m,W m σ H)/\∀m σ H,W m σ H ->
 c σ H λb H1=>if b=true then ∃N:Ζ,(∀σ' H',N σ' H'->∃m',m'<m/\W m' σ' H')/\tb {D with nx:=N,ct:=N,bk:=D.nx} σ H1 else D.nx σ H1
def jm{c:qg}{tc:TT}{tb:TS}(hp:PassesOwn (model X.prog X.w) X.A X.env X.xe)(hc:PT X c tc)(hb:PSs X body tb):PS X (.While c body [] pos) (yxm tc tb):=by
 refine .mk λa s σ H D I h=>?_;let⟨W,⟨x,B⟩,d⟩:=h;refine wpAny_While (codeAny_whileLoop (λn E=>∃σ' H',Inv X a σ' H' E/\W n σ' H') ?_ x ⟨σ,H,I,B⟩);rintro n C ⟨σ1,q,y,u⟩;refine wpAny_passesOwn hp (thn (hc a C σ1 q _ y (d n σ1 q u)) λb z h'=>?_);let⟨r,p,g⟩:=h'
 cases b with
 |true =>
  let⟨N,t,g⟩:=g;rw[if_pos rfl];refine wpAny_passesOwn hp (thn (hb a z σ1 r _ p g) λf F i=>?_)
  cases f with
  |next =>
   let⟨σ3,e,m,l⟩:=i;let⟨k,j,o⟩:=t σ3 e l;exists k,j,σ3,e,m,o
  |cont =>
   let⟨σ3,e,m,l⟩:=i;let⟨k,j,o⟩:=t σ3 e l;exists k,j,σ3,e,m,o
  |brk=>exact i
  |ret v=>exact i
 |false =>
  rw[if_neg bA];exact wpAny_execs_nil ⟨σ1,r,p,g⟩
end
structure It where
 go:Nat->Hp->Prop
 yld:Nat->Hp->V->Hp->Prop
 stop:Nat->Hp->Prop
def yfu(X:Cx)(pins:Θ)(H:Hp)(b:z4):Prop :=
 H b=none/\b≠X.env.locals/\b∉X.fs/\(b∈X.ex\/X.s₀.heap.objs.size<=b)/\(∀x c,X.env.cells.lookup x=some c->c≠b)/\∀p∈X.pn++pins,p.1≠b
def Inv.fpOk{s:qa}{b:z4}(I:Inv X pins σ H s)(hb:s.heap.objs.size<=b)(hn:H' b=none):yfu X pins H' b:=by
 exists hn,Nat.ne_of_gt (bP I.lt hb),I.nofs hb,.inr (bF I.sz hb),λx c e z=>?_,λp a z=>?_
 .obtain⟨v,q⟩:=I.cell x c e;exact absurd (bP q.lt (by rw[z];exact hb)) (cI _)
 .exact absurd (bP (bw (I.pin p a).1) (by rw[z];exact hb)) (cI _)
structure ydx(P:qh)(w:qd)(K:z3)(tg:qg)(J:It)(fp:Χ)(it:z4)(tn:Nat->qf->Prop):Prop where
 mem:it∈fp
 obj:∀i h,tn i h->∀b∈fp,∃o,h.get? b=some o/\∀v,o.data≠.cell v
 keep:∀i h h',tn i h->(∀b∈fp,∀o,h.get? b=some o->h'.get? b=some o)->tn i h'
 item:∀(X:Cx),X.prog=P->X.w=w->X.K=K->X.calm=true->∀(i:Nat)(pins:Θ)(s:qa)(σ:St)(H:Hp)(E:Δ),Inv X pins σ H s->(∀b∈fp,yfu X pins H b)->tn i s.heap->J.go i H ->
  wpAny (model P w) X.A (pyNext (.ref it)) (λr s1=>∃u,r=some u/\
   wpAny (model P w) X.A (letOwnedTupleGo tg (.ref it) u) (λZ s2=>∃x H',Inv X pins σ H' s2/\xu x u/\J.yld i H x H'/\tn (i+1) s2.heap/\∀b∈fp,H' b=none) E s1) E s
 done:∀(X:Cx),X.prog=P->X.w=w->X.K=K->X.calm=true->∀(i:Nat)(pins:Θ)(s:qa)(σ:St)(H:Hp)(E:Δ),Inv X pins σ H s->(∀b∈fp,yfu X pins H b)->tn i s.heap->J.stop i H ->
  wpAny (model P w) X.A (pyNext (.ref it)) (λr s1=>r=none/\Inv X pins σ H s1) E s
 self:∀(A:qe)(i:Nat)(s:qa)(Q:Δ)(E:Δ),tn i s.heap->Q (.ref it) s->wpAny (model P w) A (pyIter (.ref it)) Q E s
abbrev TI:=St->Hp->(It->Hp->Prop)->Prop
def PIE(X:Cx)(pins:Θ)(σ:St)(tg:qg)(R:It->Hp->Prop)(itv:qb)(s2:qa):Prop :=
 ∃(it:z4)(fp:Χ)(tn:Nat->qf->Prop)(J:It)(H':Hp),itv=.ref it/\Inv X pins σ H' s2/\ydx X.prog X.w X.K tg J fp it tn/\tn 0 s2.heap/\(∀b∈fp,yfu X pins H' b)/\R J H'
def PI(X:Cx)(tg iter:qg)(wi:TI):Prop :=
 ∀(pins:Θ)(s:qa)(σ:St)(H:Hp)(R:It->Hp->Prop),Inv X pins σ H s->wi σ H R ->
  wpAny (model X.prog X.w) X.A (eval iter X.env) (λv s1=>wpAny (model X.prog X.w) X.A (pyIter v) (PIE X pins σ tg R) X.xe s1) X.xe s
def ydv{A:qe}{s:qa}{it:z4}{o:Obj}{n:String}{vs:Array qb}{Q:Unit->qa->Prop}(ho:s.heap.get? it=some o)(hc:o.cls=.type n)(hd:o.data=.fields vs)
  (hn:["enumerate","zip","dict_itemiterator","dict_reverseitemiterator","odict_iterator","itertools.zip_longest","itertools.pairwise"].contains n=false) (hQ:Q ⟨⟩ s):wpAny M A (letOwnedTupleGo tg (.ref it) u) Q E s:=by
 unfold letOwnedTupleGo
 cases tg<;>first
  |exact bh hQ
  | (cases u<;>first
    |exact bh hQ
    | (refine bb (wpAny_load ho ?_)
       rw[hc,hd];show wpAny M A (if (["enumerate","zip","dict_itemiterator","dict_reverseitemiterator","odict_iterator","itertools.zip_longest","itertools.pairwise"].contains n && vs[0]? == some (rawInt _))=true then _ else _) Q E s;rw[if_neg (by intro h;rw[hn,Bool.false_and]at h;cases h)];exact bh hQ))
noncomputable def Itl(K:z3)(a:z4):It :=
 ⟨λi H=>∃xs x,SqL K H a xs/\xs[i]?=some x,λi H x H'=>H'=H/\∀xs,SqL K H a xs->xs[i]?=some x,λi H=>∃xs,SqL K H a xs/\xs.length<=i⟩
noncomputable def Itt(K:z3)(a:z4):It :=
 ⟨λi H=>∃xs x,SqT K H a xs/\xs[i]?=some x,λi H x H'=>H'=H/\∀xs,SqT K H a xs->xs[i]?=some x,λi H=>∃xs,SqT K H a xs/\xs.length<=i⟩
def Itr(lo:Int)(n:Nat):It:=⟨λi Z=>i<n,λi H x H'=>H'=H/\x=.int (lo+i),λi Z=>n<=i⟩
def yhd{w:qd}{K:z3}(a it:z4):ydx P w K tg (Itl K a) [it] it (λi h=>h.IsListIter it a i) where
 mem:=by simp
 obj:=λi h f b j=>by
  have e:b=it:=by simpa using j
  subst e;let⟨o,e,c,d⟩:=f;exists o,e,λv z=>by rw[d]at z;cases z
 keep:=λi h n f k=>f.at λo e=>k it (by simp) o e
 item:=by
  intro X J L M N i g s σ H E I m f y;subst J L M;let⟨Q,x,q,B⟩:=y;let⟨r,G,p,Z⟩:=I.list q;let⟨u,U,ru⟩:=G.get B;let⟨F,A,O,t,D,C⟩:=m it (by simp);refine wpAny_pyNext_list_item f p.isList (x:=u) (by simpa using U) λn l S=>?_;have T:Inv X g σ H {s with heap:=n}:=I.turned (t':=s.toks) (λb o j e=>(S.2 b j).trans e) F A t D C;let⟨o,e,c,d⟩:=id l;exists u,rfl,ydv (s:={s with heap:=n}) e c d ∅ ⟨x,H,T,ru,⟨rfl,λys Y=>by rw[I.list_inj Y q];exact B⟩,l,λb j=>(m b j).1⟩
 done:=by
  intro X J L M N i g s σ H E I m f y;subst J L M;let⟨Q,q,B⟩:=y;let⟨r,G,p,Z⟩:=I.list q;let⟨F,A,O,t,D,C⟩:=m it (by simp);have hl:=G.length;exact wpAny_pyNext_list_end (I.ok.hd N) f p.isList (by simp;omega) λn R=>⟨rfl,I.turned (t':=s.toks) (λb o j e=>R b o j e) F A t D C⟩
 self:=λW W W W W f h=>wpAny_pyIter_listiter f h
def ygf{w:qd}{K:z3}(a it:z4):ydx P w K tg (Itt K a) [it] it (λi h=>h.IsTupleIter it a i) where
 mem:=by simp
 obj:=λi h f b l=>by
  have e:b=it:=by simpa using l
  subst e;let⟨o,e,c,d⟩:=f;exists o,e,λv z=>by rw[d]at z;cases z
 keep:=λi h q f k=>f.at λo e=>k it (by simp) o e
 item:=by
  intro X J L M N i g s σ H E I n f y;subst J L M;let⟨Q,x,r,B⟩:=y;let⟨j,G,p,Z⟩:=I.tuple r;let⟨u,U,ru⟩:=G.get B;let⟨F,A,O,t,D,C⟩:=n it (by simp);refine wpAny_pyNext_tuple_item f (show s.heap.IsTuple a j.toArray from p) (x:=u) (by simpa using U) λq m S=>?_;have T:Inv X g σ H {s with heap:=q}:=I.turned (t':=s.toks) (λb o l e=>(S.2 b l).trans e) F A t D C;let⟨o,e,c,d⟩:=id m;exists u,rfl,ydv (s:={s with heap:=q}) e c d ∅ ⟨x,H,T,ru,⟨rfl,λys Y=>by rw[I.tuple_inj Y r];exact B⟩,m,λb l=>(n b l).1⟩
 done:=by
  intro X J L M N i g s σ H E I n f y;subst J L M;let⟨Q,r,B⟩:=y;let⟨j,G,p,Z⟩:=I.tuple r;let⟨F,A,O,t,D,C⟩:=n it (by simp);have hl:=G.length;exact wpAny_pyNext_tuple_end (I.ok.hd N) f (show s.heap.IsTuple a j.toArray from p) (by simp;omega) λq R=>⟨rfl,I.turned (t':=s.toks) (λb o l e=>R b o l e) F A t D C⟩
 self:=λW W W W W f h=>wpAny_pyIter_tupleiter f h
def yg0{w:qd}{K:z3}(it:z4)(lo:Int)(n:Nat):ydx P w K tg (Itr lo n) [it] it (λi h=>IsRangeIter h it (lo+(i:Nat)*1) ((n:Int)-(i:Nat)) 1) where
 mem:=by simp
 obj:=λi h a b d=>by
  have e:b=it:=by simpa using d
  subst e
  exact⟨_,a,λv z=>by
   have J:Data.fields _=Data.cell v:=z;cases J⟩
 keep:=λi h j a k=>k it (by simp) _ a
 item:=by
  intro X y A B q i c s σ H E I g a m;subst y A B;let⟨x,p,D,l,u,r⟩:=g it (by simp);have W:=Walks.range (prog:=X.prog) (w:=X.w) (I.ok.hd q) it lo 1 n;refine W.item i s _ _ m a λv j C M f L=>?_;let⟨t,rfl⟩:=M;have G:Inv X c σ H {s with heap:=j,toks:=C}:=I.turned (λb o d e=>L b o (by simpa using d) e) x p l u r;exists _,rfl,ydv (s:={s with heap:=j,toks:=C}) (n:="range_iterator") f rfl rfl ∅ ⟨.int (lo+i),H,G,⟨t,?_⟩,⟨rfl,rfl⟩,f,λb d=>(g b d).1⟩;rw[Int.mul_one]
 done:=by
  intro X y A B q i c s σ H E I g a m;subst y A B;let⟨x,p,D,l,u,r⟩:=g it (by simp);exact wpAny_pyNext_range_end (I.ok.hd q) a (by have:n<=i:=m;omega) λj F=>⟨rfl,I.turned (t':=s.toks) (λb o d e=>F b o d e) x p l u r⟩
 self:=λZ Z Z Z Z a h=>wpAny_pyIter_rangeiter a h
def vcs(K:z3)(tl:TE):TI:=λσ H R=>tl σ H λx H1=>∃a,x=.ref a/\(∃xs,SqL K H1 a xs)/\R (Itl K a) H1
def vhc(K:z3)(tl:TE):TI:=λσ H R=>tl σ H λx H1=>∃a,x=.ref a/\(∃xs,SqT K H1 a xs)/\R (Itt K a) H1
def we{l:qg}{tl:TE}(hl:PE X l tl):PI X tg l (vcs X.K tl):=by
 intro c s σ H R I h;refine thn (hl c s σ H _ I h) λv f h'=>?_;let⟨x,i,d,j,m⟩:=h';let⟨a,e,⟨r,n⟩,q⟩:=m;subst e;cases j;let⟨g,t,p,u⟩:=d.list n;refine wpAny_pyIter_list p.isList ?_;exists f.heap.objs.size,[f.heap.objs.size],_,_,i,rfl,d.kept (t':=f.toks) λb o e=>be _ e,yhd a _,⟨_,br _ rfl,rfl,rfl⟩,λb k=>?_,q;have e:b=f.heap.objs.size:=by simpa using k
 subst e;exact d.fpOk (bf _) (d.hok.fresh (bf _))
def yfi{l:qg}{tl:TE}(hl:PE X l tl):PI X tg l (vhc X.K tl):=by
 intro d s σ H R I h;refine thn (hl d s σ H _ I h) λv c h'=>?_;let⟨x,i,f,j,m⟩:=h';let⟨a,e,⟨r,n⟩,q⟩:=m;subst e;cases j;let⟨g,t,p,u⟩:=f.tuple n;refine wpAny_pyIter_tuple (show c.heap.IsTuple a g.toArray from p) ?_;exists c.heap.objs.size,[c.heap.objs.size],_,_,i,rfl,f.kept (t':=c.toks) λb o e=>be _ e,ygf a _,⟨_,br _ rfl,rfl,rfl⟩,λb k=>?_,q;have e:b=c.heap.objs.size:=by simpa using k
 subst e;exact f.fpOk (bf _) (f.hok.fresh (bf _))
def ym2{s:qa}{R:It->Hp->Prop}{lo hi:Int}{t u v:Tok}{tk:Nat}(I:Inv X pins σ H s)(h1:-(2^62)<=lo)(h2:lo<2^62)(h3:-(2^62)<=hi)(h4:hi<2^62)
  (q:R (Itr lo (hi-lo).toNat) H):wpAny (model X.prog X.w) X.A (pyIter (.ref s.heap.objs.size)) (PIE X pins σ tg R) E {s with heap:=s.heap.push { cls:=.type "range",data:=.fields #[.int lo t,.int hi u,.int 1 v]},toks:=tk}:=by
 refine wpAny_pyIter_range (IsRange.new ..) (small_one h1 h2 h3 h4) ?_;have a:Inv X pins σ H {s with heap:=s.heap.push { cls:=.type "range",data:=.fields #[.int lo t,.int hi u,.int 1 v]},toks:=tk}:=I.kept λb o e=>be _ e
 refine⟨(s.heap.push { cls:=.type "range",data:=.fields #[.int lo t,.int hi u,.int 1 v]}).objs.size,[(s.heap.push { cls:=.type "range",data:=.fields #[.int lo t,.int hi u,.int 1 v]}).objs.size],_,_,H,rfl,
  a.kept (t':=tk) λb o e=>be _ e,yg0 _ lo (hi-lo).toNat,?_,λb f=>?_,q⟩
 .have c:lo+((0:Nat):Int)*1=lo:=by simp
  have d:(((hi-lo).toNat:Nat):Int)-((0:Nat):Int)=Builtin.Range.rangeSize lo hi 1:=by rw[rangeSize_one];split<;>omega
  show IsRangeIter _ _ (lo+((0:Nat):Int)*1) ((((hi-lo).toNat:Nat):Int)-((0:Nat):Int)) 1;rw[c,d];exact br _ rfl
 .have e:b=(s.heap.push { cls:=.type "range",data:=.fields #[.int lo t,.int hi u,.int 1 v]}).objs.size:=by simpa using f
  subst e;exact a.fpOk (bf _) (a.hok.fresh (bf _))
def vck(ta:TA):TI:=λσ H R=>ta σ H λvs H1=>∃j:Int,vs=[.int j]/\-(2^62)<=j/\j<2^62/\R (Itr 0 j.toNat) H1
def jf{a:qg}{ta:TA}{p pos:Pos}(hg:Gl X "range")(hm:X.mg "range"=none)(ha:PA X [a] ta)(hs:autoParam (starEach [a] X.env=[(false,eval a X.env)]) aD._auto_1):PI X tg (.Call (.Name "range" p) [a] [] pos) (vck ta):=by
 intro b s σ H R I h;refine Call_ (Į I hg hm boot_range (PyProof.Rows.callWith_type1 (thn (ha pos b s σ H _ I h) λi l h'=>?_) hs rfl));let⟨m,k,d,f,c⟩:=h';let⟨j,e,c,g,q⟩:=c;subst e
 cases f with
 |cons r rr =>
  cases rr;let⟨t,rfl⟩:=r;exact call_range_1 (ym2 d () () c g (by simpa using q))
def vg5(wi:TI)(g:TG)(tb:TS):TS:=λD σ H=>wi σ H λJ H1=>∃W:Nat->Nat->St->Hp->Prop,(∃m,W 0 m σ H1)/\∀i m σ H,W i m σ H ->
 (J.stop i H/\D.nx σ H)\/(J.go i H/\∃N:Ζ,(∀σ' H',N σ' H'->∃m',m'<m/\W (i+1) m' σ' H')/\∀x H',J.yld i H x H'->g x σ H' λσ2 H2=>tb {D with nx:=N,ct:=N,bk:=D.nx} σ2 H2)
noncomputable def yfk(fp:Χ)(h:qf):Θ:=fp.filterMap λb=>(h.get? b).map λo=>(b,o)
def za{h:qf}{b:z4}{o:Obj}(hb:b∈fp)(e:h.get? b=some o):(b,o)∈yfk fp h:=List.mem_filterMap.mpr ⟨b,hb,by rw[e];rfl⟩
def yik{h:qf}{p:z4×Obj}(hp:p∈yfk fp h):p.1∈fp/\h.get? p.1=some p.2:=by
 let⟨b,c,e⟩:=List.mem_filterMap.mp hp
 cases q:h.get? b with
 |none=>rw[q]at e;cases e
 |some o =>
  rw[q]at e;have a:(b,o)=p:=bx e;subst a;exists c,q
def Inv.pinned{s:qa}(I:Inv X pins σ H s)(hf:∀b∈fp,yfu X pins H b)(ho:∀b∈fp,∃o,s.heap.get? b=some o/\∀v,o.data≠.cell v):Inv X (pins++yfk fp s.heap) σ H s :=
 I.pins_of λp i=>(bH.mp i).elim (λz=>I.pin p (bR _ z)) λz=>by
  let⟨a,e⟩:=yik z;let⟨g,h,f,_⟩:=hf p.1 a;let⟨o,c,d⟩:=ho p.1 a;rw[e]at c;cases c;exists e,g,h,f,d
def Inv.unpinned{pl:Θ}{s:qa}(I:Inv X (pins++pl) σ H s):Inv X pins σ H s:=I.pins_of λp a=>I.pin p (bR _ (List.mem_append_left _ a))
def uk{iter:qg}{wi:TI}{g:TG}{tb:TS}{pos:Pos}(hp:PassesOwn (model X.prog X.w) X.A X.env X.xe)(hc:X.calm=true)(hi:PI X tg iter wi)(hg:PG X tg g)(hb:PSs X body tb)
  (hs:autoParam (∀x,foldedSetIterable iter X.env x=pure x) aC._auto_1):PS X (.For tg iter body [] pos) (vg5 wi g tb):=by
 refine .mk λa s σ H D I h=>?_;refine wpAny_For (thn (hi a s σ H _ I h) λv s1 h1=>thn h1 λa0 s2 h2=>?_) hs;let⟨it,B,Y,J,H2,e,I2,T,M,Q,W,⟨m0,w0⟩,F⟩:=h2;subst e;have k:∀{H':Hp},(∀b∈B,H' b=none)->∀b∈B,yfu X a H' b:=λhn b hb=>⟨hn b hb,(Q b hb).2⟩;refine codeAny_forLoop_any (λn U=>∃i σ' H',Inv X a σ' H' U/\Y i U.heap/\(∀b∈B,H' b=none)/\W i n σ' H') ?_ m0 ⟨0,σ,H2,I2,M,λb hb=>(Q b hb).1,w0⟩;rintro n R ⟨i,σ3,G,Z,C,z,w3⟩;rcases F i n σ3 G w3 with⟨y,qn⟩|⟨go,N,hN,E⟩
 .refine wpAny_passesOwn hp (thn (T.done X rfl rfl rfl hc i a R σ3 G X.xe Z (k z) C y) λr s4 ⟨L,I4⟩=>?_);subst L;exact wpAny_execs_nil ⟨σ3,G,I4,qn⟩
 .refine wpAny_passesOwn hp (thn (T.item X rfl rfl rfl hc i a R σ3 G X.xe Z (k z) C go) λr s4 h'=>?_);let⟨u,L,h4⟩:=h';subst L;refine wpAny_passesOwn hp (thn h4 λw S h'=>?_);let⟨x,H5,I5,r5,y5,q,P⟩:=h';have K:=I5.pinned (k P) (T.obj _ _ q);refine wpAny_passesOwn hp (thn (hg _ S σ3 H5 x u _ K r5 (E x H5 y5)) λw s6 h'=>?_);let⟨σ6,H6,I6,q6⟩:=h';refine wpAny_passesOwn hp (thn (hb _ s6 σ6 H6 _ I6 q6) λf O p=>?_)
  have l:∀{σ7:St}{j:Hp},Inv X (a++yfk B S.heap) σ7 j O->N σ7 j->∃m,m<n/\∃i σ' H',Inv X a σ' H' O/\Y i O.heap/\(∀b∈B,H' b=none)/\W i m σ' H':=λ{σ7 j}c t=>by
   let⟨m',hm,w7⟩:=hN σ7 j t;exists m',hm,i+1,σ7,j,c.unpinned,T.keep _ _ _ q λb hb o e=>(c.pin (b,o) (bR _ (bR _ (za hb e)))).1,λb hb=>?_,w7;let⟨o,e,d⟩:=T.obj _ _ q b hb;exact(c.pin (b,o) (bR _ (bR _ (za hb e)))).2.1
  cases f with
  |next=>let⟨σ7,j,c,t⟩:=p;exact l c t
  |cont=>let⟨σ7,j,c,t⟩:=p;exact l c t
  |brk=>let⟨σ7,j,c,p⟩:=p;exact⟨σ7,j,c.unpinned,p⟩
  |ret v=>let⟨x7,σ7,j,c,r7,p⟩:=p;exists x7,σ7,j,c.unpinned,r7,p
def xx{K:z3}{g:TG}{tb:TS}{D:Ĳ}(Pv:Nat->St->Hp->Prop)(h0:Pv 0 σ H)(hl:∀i σ H,i<=xs.length->Pv i σ H->SqL K H a xs)
  (hs:∀i x σ H,xs[i]?=some x->Pv i σ H->g x σ H λσ2 H2=>tb {D with nx:=Pv (i+1),ct:=Pv (i+1),bk:=D.nx} σ2 H2) (hd:∀σ H,Pv xs.length σ H->D.nx σ H):
  ∃W:Nat->Nat->St->Hp->Prop,(∃m,W 0 m σ H)/\∀i m σ H,W i m σ H ->
   ((Itl K a).stop i H/\D.nx σ H)\/((Itl K a).go i H/\∃N:Ζ,(∀σ' H',N σ' H'->∃m',m'<m/\W (i+1) m' σ' H')/\∀x H',(Itl K a).yld i H x H'->g x σ H' λσ2 H2=>tb {D with nx:=N,ct:=N,bk:=D.nx} σ2 H2):=by
 exists λi m σ H=>m=xs.length-i/\i<=xs.length/\Pv i σ H,⟨xs.length,by simp,bJ _,h0⟩,?_;rintro i m σ H ⟨rfl,b,p⟩;have q:=hl i σ H b p;by_cases hlt:i<xs.length
 .refine .inr ⟨⟨xs,xs[i],q,by simp[hlt]⟩,Pv (i+1),λσ' H' c=>⟨xs.length-(i+1),(),rfl,hlt,c⟩,λx H' y=>?_⟩;let⟨e,y⟩:=y;subst e;exact hs i x σ _ (y xs q) p
 .have e:i=xs.length:=()
  subst e;exact .inl ⟨⟨xs,q,bf _⟩,hd σ H p⟩
def Î{lo:Int}{n:Nat}{g:TG}{tb:TS}{D:Ĳ}(Pv:Nat->St->Hp->Prop)(h0:Pv 0 σ H)
  (hs:∀i σ H,i<n->Pv i σ H->g (.int (lo+i)) σ H λσ2 H2=>tb {D with nx:=Pv (i+1),ct:=Pv (i+1),bk:=D.nx} σ2 H2) (hd:∀σ H,Pv n σ H->D.nx σ H):
  ∃W:Nat->Nat->St->Hp->Prop,(∃m,W 0 m σ H)/\∀i m σ H,W i m σ H ->
   ((Itr lo n).stop i H/\D.nx σ H)\/((Itr lo n).go i H/\∃N:Ζ,(∀σ' H',N σ' H'->∃m',m'<m/\W (i+1) m' σ' H')/\∀x H',(Itr lo n).yld i H x H'->g x σ H' λσ2 H2=>tb {D with nx:=N,ct:=N,bk:=D.nx} σ2 H2):=by
 exists λi m σ H=>m=n-i/\i<=n/\Pv i σ H,⟨n,by simp,bJ _,h0⟩,?_;rintro i m σ H ⟨rfl,b,p⟩;by_cases hlt:i<n
 .refine .inr ⟨hlt,Pv (i+1),λσ' H' a=>⟨n-(i+1),(),rfl,hlt,a⟩,λx H' y=>?_⟩;let⟨e,y⟩:=y;subst e y;exact hs i σ _ hlt p
 .have e:i=n:=()
  subst e;exact .inl ⟨bf _,hd σ H p⟩
abbrev R2:=V->V->Hp->VK->Prop
def OpR(X:Cx)(f:qb->qb->Sem qb)(r:R2):Prop :=
 ∀(pins:Θ)(s:qa)(σ:St)(H:Hp)(x y:V)(v u:qb)(Q:VK),Inv X pins σ H s->xu x v->xu y u->r x y H Q ->
  wpAny (model X.prog X.w) X.A (f v u) (EP X pins σ Q) X.xe s
def UnR(X:Cx)(f:qb->Sem qb)(r:V->Hp->VK->Prop):Prop :=
 ∀(pins:Θ)(s:qa)(σ:St)(H:Hp)(x:V)(v:qb)(Q:VK),Inv X pins σ H s->xu x v->r x H Q ->
  wpAny (model X.prog X.w) X.A (f v) (EP X pins σ Q) X.xe s
def jy(X:Cx)(f:qb)(r:qi V->Hp->VK->Prop):Prop :=
 ∀(pins:Θ)(s:qa)(σ:St)(H:Hp)(xs:Υ)(us:Ο)(Q:VK),Inv X pins σ H s->wz xs us->r xs H Q ->
  wpAny (model X.prog X.w) X.A (call f us) (EP X pins σ Q) X.xe s
def tOp(r:R2)(ta tb:TE):TE:=λσ H Q=>ta σ H λx H1=>tb σ H1 λy H2=>r x y H2 Q
def tUn(r:V->Hp->VK->Prop)(ta:TE):TE:=λσ H Q=>ta σ H λx H1=>r x H1 Q
def rI(C:Int->Int->Prop)(g:Int->Int->V):R2:=λx y H Q=>∃i j,x=.int i/\y=.int j/\C i j/\Q (g i j) H
def rI0(g:Int->Int->V):R2:=λx y H Q=>∃i j,x=.int i/\y=.int j/\Q (g i j) H
def rU(g:Int->V):V->Hp->VK->Prop:=λx H Q=>∃i,x=.int i/\Q (g i) H
section
variable{a b c:qg}{tb tc:TE}{pos:Pos}
def vez(ha:PE X a ta)(hb:PE X b tb){s:qa}{R:V->V->Hp->Prop}(I:Inv X pins σ H s)
  (h:ta σ H λx H1=>tb σ H1 λy H2=>R x y H2) {Q:Δ} {f:qb->qb->Sem qb}
  (hf:∀v u s2 x y H2,Inv X pins σ H2 s2->xu x v->xu y u->R x y H2->wpAny (model X.prog X.w) X.A (f v u) Q X.xe s2):
  wpAny (model X.prog X.w) X.A (eval a X.env) (λv s₁=>wpAny (model X.prog X.w) X.A (eval b X.env) (λu s₂=>wpAny (model X.prog X.w) X.A (f v u) Q X.xe s₂) X.xe s₁) X.xe s:=by refine thn (ha pins s σ H _ I h) λv j h'=>?_;let⟨x,H1,e,g,i⟩:=h';refine thn (hb pins j σ H1 _ e i) λu s2 h'=>?_;let⟨y,H2,d,c,k⟩:=h';exact hf v u s2 x y H2 d g c k
def yo{op:Operator}{r:R2}(ho:OpR X (binaryOp op) r)(ha:PE X a ta)(hb:PE X b tb):PE X (.BinOp a op b pos) (tOp r ta tb):=by refine .mk λc s σ H Q I h=>?_;exact wpAny_BinOp (vez ha hb I h λv u f x y i e d g q=>ho c f σ i x y v u Q e d g q)
def yvl{op:UnaryOp}{r:V->Hp->VK->Prop}(ho:UnR X (unaryOp op) r)(ha:PE X a ta):PE X (.UnaryOp op a pos) (tUn r ta):=by refine .mk λb s σ H Q I h=>?_;exact UnaryOp_ (thn (ha b s σ H _ I h) λv g ⟨x,c,d,e,f⟩=>ho b g σ c x v Q d e f)
def opI{f:qb->qb->Sem qb}{C:Int->Int->Prop}{g:Int->Int->Int}
  (rule:∀(i j:Int)(t u:Tok)(s:qa)(Q:Δ)(E:Δ),C i j->Q (.int (g i j) s.toks) {s with toks:=s.toks+1}->wpAny (model X.prog X.w) X.A (f (.int i t) (.int j u)) Q E s):
  OpR X f (rI C λi j=>.int (g i j)):=by intro a s σ H x y v u Q I b d h;let⟨i,j,rfl,rfl,e,q⟩:=h;let⟨t,rfl⟩:=b;let⟨c,rfl⟩:=d;exact rule i j t c s _ _ e ⟨.int (g i j),H,I.tok _,⟨_,rfl⟩,q⟩
def vhw{f:qb->qb->Sem qb}{g:Int->Int->Int}
  (rule:∀(i j:Int)(t u:Tok)(s:qa)(Q:Δ)(E:Δ),Q (.int (g i j) s.toks) {s with toks:=s.toks+1}->wpAny (model X.prog X.w) X.A (f (.int i t) (.int j u)) Q E s):
  OpR X f (rI0 λi j=>.int (g i j)):=by intro a s σ H x y v u Q I b d h;let⟨i,j,rfl,rfl,q⟩:=h;let⟨t,rfl⟩:=b;let⟨c,rfl⟩:=d;exact rule i j t c s _ _ ⟨.int (g i j),H,I.tok _,⟨_,rfl⟩,q⟩
def ve0{f:qb->qb->Sem qb}{g:Int->Int->Bool}
  (rule:∀(i j:Int)(t u:Tok)(s:qa)(Q:Δ)(E:Δ),Q (.bool (g i j)) s->wpAny (model X.prog X.w) X.A (f (.int i t) (.int j u)) Q E s):
  OpR X f (rI0 λi j=>.bl (g i j)):=by intro a s σ H x y v u Q I b d h;let⟨i,j,rfl,rfl,q⟩:=h;let⟨t,rfl⟩:=b;let⟨c,rfl⟩:=d;exact rule i j t c s _ _ ⟨.bl (g i j),H,I,rfl,q⟩
def vgp(i j:Int):Prop:=(-(2^64)<i/\i<2^64)\/(-(2^64)<j/\j<2^64)
def vgp.ok{i j:Int}(h:vgp i j):IntMulOk i j:=by
 rcases h with⟨a,b⟩|⟨a,b⟩
 .exact .of_left (intBits_le_64 a b)
 .exact .of_right (intBits_le_64 a b)
def ygr(k:Nat):(0:Int)<=2^k:=by rw[two_pow_cast];exact Int.natCast_nonneg _
def wb:OpR X (binaryOp .Add) (rI0 λi j=>.int (i+j)):=vhw λZ Z Z Z Z Z Z q=>add_int q
def zy:OpR X (binaryOp .Sub) (rI0 λi j=>.int (i-j)):=vhw λZ Z Z Z Z Z Z q=>sub_int q
def xg:OpR X (binaryOp .Mult) (rI vgp λi j=>.int (i*j)):=opI λZ Z Z Z Z Z Z a q=>mul_int q a.ok
def xk:OpR X (binaryOp .Mod) (rI (λZ j=>0<j) λi j=>.int (i%j)):=opI λi j Z Z Z Z Z a q=>by
 have b:(0:Int)<j:=a;exact mod_int' () (by rw[Int.fmod_eq_emod_of_nonneg i ()];exact q)
def yzs:OpR X (binaryOp .RShift) (rI (λZ j=>0<=j) λi j=>.int (i/2^j.toNat)):=opI λi j Z Z Z Z Z a q =>
 rshift_int a (by rw[Int.fdiv_eq_ediv_of_nonneg i (ygr _)];exact q)
def unI{f:qb->Sem qb}{g:Int->Int}
  (rule:∀(i:Int)(t:Tok)(s:qa)(Q:Δ)(E:Δ),Q (.int (g i) s.toks) {s with toks:=s.toks+1}->wpAny (model X.prog X.w) X.A (f (.int i t)) Q E s):
  UnR X f (rU λi=>.int (g i)):=by intro a s σ H x v Q I b h;let⟨i,rfl,q⟩:=h;let⟨t,rfl⟩:=b;exact rule i t s _ _ ⟨.int (g i),H,I.tok _,⟨_,rfl⟩,q⟩
def yk0:UnR X (unaryOp .USub) (rU λi=>.int (-i)):=unI λZ Z Z Z Z q=>neg_int q
end
noncomputable def vgr:V->V->Bool
 | .non,.non=>true| .non,.int _=>true| .int _,.non=>true| .non,.bl _=>true| .bl _,.non=>true| .non,.str _=>true| .str _,.non=>true
 | .int _,.int _=>true| .bl _,.bl _=>true| .str _,.str _=>true| .byt _,.byt _=>true
 | .int _,.str _=>true| .str _,.int _=>true| .bl _,.str _=>true| .str _,.bl _=>true
 |_,_=>false
def rEq:R2:=λx y H Q=>vgr x y=true/\Q (.bl (decide (x=y))) H
def rNe:R2:=λx y H Q=>vgr x y=true/\Q (.bl (!decide (x=y))) H
def yjp{i j:Int}:decide (V.int i=V.int j)=(i == j):=by rw[Bool.eq_iff_iff];simp
def yo2{i j:Bool}:decide (V.bl i=V.bl j)=(i == j):=by rw[Bool.eq_iff_iff];simp
def yjt{i j:Str}:decide (V.str i=V.str j)=(i == j):=by rw[Bool.eq_iff_iff];simp
def yjd{i j:Array UInt8}:decide (V.byt i=V.byt j)=(i.toList == j.toList):=by rw[Bool.eq_iff_iff];cases i;cases j;simp
section
variable{a b c:qg}{tb tc:TE}{pos:Pos}
def wv{s:qa}{Q:VK}{k k':Bool}(I:Inv X pins σ H s)(q:Q (.bl k) H)(e:k=k'):EP X pins σ Q (.bool k') s:=by subst e;exists .bl k,H,I,rfl,q
def xl:OpR X (compareOp .Eq) rEq:=by
 intro e s σ H x y v u Q I d a h;let⟨c,q⟩:=h
 cases x with
 |non =>
  cases d
  cases y with
  |non=>cases a;exact PySem.EqNone.eq_none_none (wv I q (by simp))
  |bl j=>cases a;exact PySem.EqNone.eq_none_bool (wv I q (by simp))
  |int j=>let⟨b,rfl⟩:=a;exact PySem.EqNone.eq_none_int (wv I q (by simp))
  |str j=>let⟨b,rfl⟩:=a;exact PySem.EqNone.eq_none_str (wv I q (by simp))
  |_=>exact absurd (show false=true from c) bA
 |bl i =>
  cases d
  cases y with
  |non=>cases a;exact PySem.EqNone.eq_bool_none (wv I q (by simp))
  |bl j=>cases a;exact eq_bool (wv I q yo2)
  |str j=>let⟨b,rfl⟩:=a;exact PySem.EqMixed.eq_bool_str (wv I q (by simp))
  |_=>exact absurd (show false=true from c) bA
 |int i =>
  let⟨t,rfl⟩:=d
  cases y with
  |non=>cases a;exact PySem.EqNone.eq_int_none (wv I q (by simp))
  |int j=>let⟨b,rfl⟩:=a;exact eq_int (wv I q yjp)
  |str j=>let⟨b,rfl⟩:=a;exact PySem.EqMixed.eq_int_str (wv I q (by simp))
  |_=>exact absurd (show false=true from c) bA
 |str i =>
  let⟨t,rfl⟩:=d
  cases y with
  |non=>cases a;exact PySem.EqNone.eq_str_none (wv I q (by simp))
  |bl j=>cases a;exact PySem.EqMixed.eq_str_bool (wv I q (by simp))
  |int j=>let⟨b,rfl⟩:=a;exact PySem.EqMixed.eq_str_int (wv I q (by simp))
  |str j=>let⟨b,rfl⟩:=a;exact eq_str (wv I q yjt)
  |_=>exact absurd (show false=true from c) bA
 |byt i =>
  let⟨t,rfl⟩:=d
  cases y with
  |byt j=>let⟨b,rfl⟩:=a;exact W.eq_bytes (wv I q yjd)
  |_=>exact absurd (show false=true from c) bA
 |_=>cases y<;>exact absurd (show false=true from c) bA
def yvi:OpR X (compareOp .NotEq) rNe:=by
 intro e s σ H x y v u Q I d a h;let⟨c,q⟩:=h
 cases x with
 |non =>
  cases d
  cases y with
  |non=>cases a;exact PySem.EqNone.ne_none_none (wv I q (by simp))
  |bl j=>cases a;exact PySem.EqNone.ne_none_bool (wv I q (by simp))
  |int j=>let⟨b,rfl⟩:=a;exact PySem.EqNone.ne_none_int (wv I q (by simp))
  |str j=>let⟨b,rfl⟩:=a;exact PySem.EqNone.ne_none_str (wv I q (by simp))
  |_=>exact absurd (show false=true from c) bA
 |bl i =>
  cases d
  cases y with
  |non=>cases a;exact PySem.EqNone.ne_bool_none (wv I q (by simp))
  |bl j=>cases a;exact ne_bool (wv I q (congrArg not yo2))
  |str j=>let⟨b,rfl⟩:=a;exact PySem.EqMixed.ne_bool_str (wv I q (by simp))
  |_=>exact absurd (show false=true from c) bA
 |int i =>
  let⟨t,rfl⟩:=d
  cases y with
  |non=>cases a;exact PySem.EqNone.ne_int_none (wv I q (by simp))
  |int j=>let⟨b,rfl⟩:=a;exact ne_int (wv I q (congrArg not yjp))
  |str j=>let⟨b,rfl⟩:=a;exact PySem.EqMixed.ne_int_str (wv I q (by simp))
  |_=>exact absurd (show false=true from c) bA
 |str i =>
  let⟨t,rfl⟩:=d
  cases y with
  |non=>cases a;exact PySem.EqNone.ne_str_none (wv I q (by simp))
  |bl j=>cases a;exact PySem.EqMixed.ne_str_bool (wv I q (by simp))
  |int j=>let⟨b,rfl⟩:=a;exact PySem.EqMixed.ne_str_int (wv I q (by simp))
  |str j=>let⟨b,rfl⟩:=a;exact ne_str (wv I q (congrArg not yjt))
  |_=>exact absurd (show false=true from c) bA
 |byt i =>
  let⟨t,rfl⟩:=d
  cases y with
  |byt j=>let⟨b,rfl⟩:=a;exact W.ne_bytes (wv I q (congrArg not yjd))
  |_=>exact absurd (show false=true from c) bA
 |_=>cases y<;>exact absurd (show false=true from c) bA
def yaw:OpR X (compareOp .Lt) (rI0 λi j=>.bl (decide (i<j))):=ve0 λZ Z Z Z Z Z Z q=>lt_int q
def jr:OpR X (compareOp .LtE) (rI0 λi j=>.bl (decide (i<=j))):=ve0 λZ Z Z Z Z Z Z q=>le_int q
def ylb:OpR X (compareOp .Gt) (rI0 λi j=>.bl (decide (j<i))):=ve0 λZ Z Z Z Z Z Z q=>gt_int q
def vgm:OpR X (compareOp .GtE) (rI0 λi j=>.bl (decide (j<=i))):=ve0 λZ Z Z Z Z Z Z q=>ge_int q
def yb3:OpR X (compareOp .In) (λx y H Q=>∃i j,x=.str i/\y=.str j/\Q (.bl (!(Builtin.Str.occurrences j i 0 j.length 1).isEmpty)) H):=by intro a s σ H x y v u Q I b c h;let⟨i,j,rfl,rfl,q⟩:=h;let⟨t,rfl⟩:=b;let⟨d,rfl⟩:=c;exact in_str (wv I q rfl)
def Ś:OpR X (compareOp .Is) (λx y H Q=>y=.non/\Q (.bl (decide (x=.non))) H):=by
 intro b s σ H x y v u Q I a c h;let⟨rfl,q⟩:=h;cases c;refine is_none_gen (wv I q ?_)
 cases x<;>first
  |(cases a;rfl)
  |(let⟨t,rfl⟩:=a;rfl)
def yar:OpR X (compareOp .IsNot) (λx y H Q=>y=.non/\Q (.bl (!decide (x=.non))) H):=by
 intro b s σ H x y v u Q I a c h;let⟨rfl,q⟩:=h;cases c;refine isnot_none_gen (wv I q ?_)
 cases x<;>first
  |(cases a;rfl)
  |(let⟨t,rfl⟩:=a;rfl)
def y9(b:qg)(h:autoParam (op≠.In) aB._auto_1)(h2:autoParam (op≠.NotIn) aB._auto_1):behindInMarks op b=false:=by
 have a:(op == CmpOp.In)=false:=by cases op<;>first|rfl|exact absurd rfl h
 have c:(op == CmpOp.NotIn)=false:=by cases op<;>first|rfl|exact absurd rfl h2
 delta behindInMarks
 rw[a,c]
 cases b<;>first|rfl|(show (_ && (false || false) && _)=false;rw[Bool.false_or,Bool.and_false,Bool.false_and])
def u7{r:R2}(ho:OpR X (compareOp op) r)(ha:PE X a ta)(hb:PE X b tb)(hm:behindInMarks op b=false):PE X (.Compare a [op] [b] pos) (tOp r ta tb):=by refine .mk λc s σ H Q I h=>?_;exact wpAny_Compare1 (vez ha hb I h λv u f x y i e d g q=>ho c f σ i x y v u Q e d g q) hm
def yvn(t:TE):TT:=λσ H Q=>t σ H λx H'=>∃k,x=.bl k/\Q k H'
def yx{r:R2}(ho:OpR X (compareOp op) r)(ha:PE X a ta)(hb:PE X b tb)(hm:behindInMarks op b=false):PT X (.Compare a [op] [b] pos) (yvn (tOp r ta tb)):=by
 refine .mk λd s σ H Q I h=>?_
 refine wpAny_isTrue_Compare1 (thn (ha d s σ H _ I h) λv q ⟨x,j,l,n,p⟩=>thn (hb d q σ j _ l p) λu t ⟨y,B,i,m,w⟩ =>
  thn (ho d t σ B x y v u _ i n m w) λc C ⟨z,A,f,g,k,e,o⟩=>?_) hm
 subst e;cases g;exact cq ⟨A,f,o⟩
def yk3(r r':R2)(ta tb tc:TE):TE:=λσ H Q=>ta σ H λx H1=>tb σ H1 λy H2=>r x y H2 λz H3=>∃k,z=.bl k/\
 (if k=true then tc σ H3 λw' H4=>r' y w' H4 Q else Q (.bl false) H3)
def Ó{op':CmpOp}{r r':R2}(ho:OpR X (compareOp op) r)(ho':OpR X (compareOp op') r')(ha:PE X a ta)(hb:PE X b tb)(hc:PE X c tc)
  (hm:autoParam (lastMarks [op,op'] [b,c]=false) aE._auto_1):PE X (.Compare a [op,op'] [b,c] pos) (yk3 r r' ta tb tc):=by
 refine .mk λf s σ H Q I h=>?_
 refine Compare_chain (thn (ha f s σ H _ I h) λv L ⟨x,A,B,J,D⟩=>chain_link (thn (hb f L σ A _ B D) λu F ⟨y,M,w,i,n⟩ =>
  thn (ho f F σ M x y v u _ w J i n) λd q ⟨z,l,j,t,k,e,g⟩=>?_)) hm
 subst e;cases t;refine cq ?_
 cases k with
 |false=>exact ite_ff ⟨.bl false,l,j,rfl,g⟩
 |true=>exact ite_tt (chain_last (thn (hc f q σ l _ j g) λo K ⟨G,E,m,C,p⟩=>ho' f K σ E y G u o Q m i C p))
def yae{op':CmpOp}{r r':R2}(ho:OpR X (compareOp op) r)(ho':OpR X (compareOp op') r')(ha:PE X a ta)(hb:PE X b tb)(hc:PE X c tc)
  (hm:autoParam (lastMarks [op,op'] [b,c]=false) aE._auto_1):PT X (.Compare a [op,op'] [b,c] pos) (yvn (yk3 r r' ta tb tc)):=by
 refine .mk λf s σ H Q I h=>?_
 refine isTrue_chain (thn (ha f s σ H _ I h) λv T ⟨x,B,C,N,F⟩=>test_link (thn (hb f T σ B _ C F) λu J ⟨y,U,A,i,n⟩ =>
  thn (ho f J σ U x y v u _ A N i n) λd t ⟨z,l,j,w,k,e,g⟩=>?_)) hm
 subst e;cases w;refine cq ?_
 cases k with
 |false =>
  let⟨k',O,D⟩:=g;cases O;exact ite_ff ⟨l,j,D⟩
 |true =>
  refine ite_tt (test_last (thn (hc f t σ l _ j g) λo P ⟨K,G,m,E,p⟩=>thn (ho' f P σ G y K u o _ m i E p) λd' Y h'=>?_));let⟨W,R,M,q,Z,S,L⟩:=h';subst S;cases q;exact cq ⟨R,M,L⟩
def yb9:(sizeLine:Nat)<2^63:=by rw[sizeLine_eq];decide
def vk:OpR X (binaryOp .Add) (λx y H Q=>∃i j,x=.str i/\y=.str j/\i.length+j.length<=sizeLine/\Q (.str (i++j)) H):=by intro a s σ H x y v u Q I b e h;let⟨i,j,rfl,rfl,d,q⟩:=h;let⟨t,rfl⟩:=b;let⟨c,rfl⟩:=e;exact add_str (λc f=>⟨.str (i++j),H,I.tok _,⟨_,rfl⟩,q⟩) d
def ynf(b:qg):Prop:=∀o i,subscripted b false o i=operate [o,i] (getItem o i)
def xj(ha:PE X a ta)(hb:PE X b tb)(hs:ynf b):
  PE X (.Subscript a b pos) (tOp (λx y H Q=>∃z i c,x=.str z/\y=.int i/\0<=i/\i<2^63/\i<z.length/\z.cps[i.toNat]?=some c/\Q (.str ⟨#[c]⟩) H) ta tb):=by
 refine .mk λd s σ H Q I h=>?_;refine Subscript_ (vez ha hb I h λv u n x y w l f p q=>?_);let⟨z,i,c,rfl,rfl,j,k,g,r,q⟩:=q;let⟨t,rfl⟩:=f;let⟨A,rfl⟩:=p;have e:seqIndex? i z.length=some i.toNat:=PySem.StrLaws.seqIndex_nonneg j g
 exact tail_any (typeIs_str n z t) slot_str_getitem.lookup (getItem_str (c:=c) (by
  have o:decide (i< -(2^63:Int))=false:=bo ();have m:decide (i ≥ 2^63)=false:=bo ();rw[o,m]<;>rfl) (by rw[e];exact r) ⟨.str ⟨#[c]⟩,w,l.tok _,⟨_,rfl⟩,q⟩) (hs _ _)
def þ{x:V}(r:wz [x] us):∃u,us=[u]/\xu x u:=by
 cases r with
 |cons r1 r2=>cases r2;exists _,rfl,r1
def yvr{x:V}(r:wz [x,y] us):∃u w',us=[u,w']/\xu x u/\xu y w':=by
 cases r with
 |cons r1 r2 =>
  cases r2 with
  |cons r3 r4=>cases r4;exists _,_,rfl,r1,r3
def ğ(hc:X.calm=true):jy X (.builtin "max") (λxs H Q=>∃i j,xs=[.int i,.int j]/\Q (.int (if j > i then j else i)) H):=by
 intro a s σ H xs b Q I r h;let⟨i,j,rfl,q⟩:=h;let⟨u,e,rfl,⟨t,rfl⟩,⟨c,rfl⟩⟩:=yvr r;refine max_two_ints (I.ok.hd hc) λd f k=>⟨_,H,I.kept k,?_,q⟩;by_cases hj:j > i
 .rw[if_pos hj,if_pos hj];exists _,rfl
 .rw[if_neg hj,if_neg hj];exists _,rfl
def Ğ(hc:X.calm=true):jy X (.builtin "min") (λxs H Q=>∃i j,xs=[.int i,.int j]/\Q (.int (if j<i then j else i)) H):=by
 intro a s σ H xs b Q I r h;let⟨i,j,rfl,q⟩:=h;let⟨u,e,rfl,⟨t,rfl⟩,⟨c,rfl⟩⟩:=yvr r;refine min_two_ints (I.ok.hd hc) λd f k=>⟨_,H,I.kept k,?_,q⟩;by_cases hj:j<i
 .rw[if_pos hj,if_pos hj];exists _,rfl
 .rw[if_neg hj,if_neg hj];exists _,rfl
def yhc:jy X (.type "int") (λxs H Q=>(∃i,xs=[.int i]/\Q (.int i) H)\/∃k,xs=[.bl k]/\Q (.int (if k then 1 else 0)) H):=by
 intro a s σ H xs c Q I r h;rcases h with⟨i,rfl,q⟩|⟨k,rfl,q⟩
 .obtain⟨u,rfl,t,rfl⟩:=þ r;exact call_int_int ⟨.int i,H,I,⟨_,rfl⟩,q⟩
 .obtain⟨u,rfl,b⟩:=þ r;cases b;exact call_int_bool ⟨.int (if k then 1 else 0),H,I.tok _,⟨_,rfl⟩,q⟩
def ó:jy X (.type "str") (λxs H Q=>∃i,xs=[.int i]/\i.natAbs.log2<1920/\Q (.str (toString i)) H):=by intro a s σ H xs c Q I r h;let⟨i,rfl,b,q⟩:=h;let⟨u,rfl,t,rfl⟩:=þ r;exact PySem.P.str_of_int b ⟨.str _,H,I.tok _,⟨_,rfl⟩,q⟩
end
structure yv1(h:qf)(x dx C:z4)(mA:Ε):Prop where
 obj:h.get? x=some (W.instObj C dx)
 ns:h.Ns1 dx mA
 ne:dx≠x
set_option tactic.hygienic true in
def yhp{h:qf}{dx:z4}(n:h.Ns1 dx mA):∃od,h.get? dx=some od/\∀name,W.lookIn name od=some (mA name):=by
 let⟨o,c,l,k,j,d,_,g⟩:=n;exists o,k,λname=>?_;have e:=g name;unfold nsFind findBy at e;rw[<- Array.find?_toList]at e;unfold W.lookIn;rw[j];dsimp only
 split
 .rename_i y q
  rw[q]at e;exact congrArg some e
 .rename_i q
  rw[q]at e
  have a:c.toList.any (·.refKey)=false:=by
   rw[List.any_eq_false];intro y i;let⟨z,t,b⟩:=d y (Array.mem_toList_iff.mp i);simp[DictEntry.refKey,b]
  have f:¬c.toList.any (·.refKey)=true:=by rw[a];exact bA
  rw[if_neg f];exact congrArg some e
def yv1.look{h:qf}{x dx:z4}(I:yv1 h x dx C mA):∃od,W.InstAt h x (W.instObj C dx) C (some od)/\∀name,W.lookIn name od=some (mA name) :=
 let ⟨od,ho,hl⟩:=yhp I.ns
 ⟨od,⟨I.obj,rfl,rfl,ho⟩,hl⟩
section
variable{prog:qh}{w:qd}{A:qe}{s:qa}{K:z3}{x dx f:z4}{name:Str}{v:qb}
def yuu{expr:Bool}(X:K.In s.heap)(I:yv1 s.heap x dx C mA)(hg:W.plainGet K C name=true)(hh:W.hasDictIn K C=true)
  (ha:W.findIn K (.ref C) name=some none) (hv:mA name=some v) (hv':W.handedIn v=true) (h:Q v {s with toks:=s.toks+1}):
  wpAny (model prog w) A (getAttr (.ref x) name expr) Q E s:=by let⟨b,J,a⟩:=I.look;exact W.get_value X J (W.plainGet_of hg).1 (W.findObj_own hh ha rfl (by rw[a,hv])) hv' h
def yny{pl:Sem Bool}{Q:qb×qi qb->qa->Prop}(X:K.In s.heap)(I:yv1 s.heap x dx C mA)(hg:W.plainGet K C name=true)
  (hf:W.findIn K (.ref C) name=some (some (.ref f))) (ht:W.isFn K (.ref f)=true) (hv:mA name=none) (h:Q (.ref f,[.ref x]) s):
  wpAny (model prog w) A (getMethod (.ref x) name pl) Q E s:=by let⟨b,J,a⟩:=I.look;exact W.method_fn X J (W.plainGet_of hg).1 (W.plainGet_of hg).2 hf (beq_iff_eq.mp ht) (by show (W.lookIn name b).map (·.isSome)=some false;rw[a,hv];rfl) h
def ysu{ns:Τ}{Q:Unit->qa->Prop}(X:K.In s.heap)(I:yv1 s.heap x dx C mA)
  (hs:W.findIn K (.ref C) "__setattr__"=some (some (.builtin "object.__setattr__"))) (hp:W.plainOver K C=true) (ht:W.takerIn K C name=some none) (hh:W.hasDictIn K C=true)
  (hw:PySem.Within mA ns) (hsz:ns.length<=sizeLine)
  (h:∀h',yv1 h' x dx C (λy=>if y=name then some v else mA y)->Heap.SameBut dx s.heap h'->Q ⟨⟩ {s with heap:=h',toks:=s.toks+2}):
  wpAny (model prog w) A (setAttr (.ref x) name v) Q E s:=by let⟨q,J,p⟩:=I.look;refine W.set_plain X J hs (W.osa_open (s:={s with toks:=s.toks+1}) (r:=none) X J hp ht λb=>?_);let⟨o,m,g⟩:=W.any_some hh;have j:s.heap.get? x=some ⟨.ref C,some dx,.plain,#[]⟩:=I.obj;refine bb (bh (bb (bb (wpAny_loadPart j (bb (W.Looks.here (s:={s with toks:=s.toks+1}) (W.looks_clsIn X m) ?_))))));rw[g];refine bh (a:=some dx) (bb (bh (bb ?_)));refine wpAny_nsSet1 (s:={s with toks:=s.toks+1}) I.ns λh' d c=>?_;let⟨n,k,l,e,i,f⟩:=d.count (PySem.Within.cons name v hw);refine bb (wpAny_lookBehind e (by rw[i];exact pastItsLine_dict (bF f (by rw[bE];omega))) ?_);exact bh (h _ ⟨(c.2 _ (Ne.symm I.ne)).trans I.obj,d,I.ne⟩ c)
def yeq{R:Result->qa->Prop}{vs:Ο}(X:K.In s.heap)(hm:W.makesIn K C=true)
  (hi:W.findIn K (.ref C) "__init__"=some (some (.ref f))) (hf:W.typeIn K (.ref f)=some (.type "function"))
  (h:codeAny (model prog w) (A.under (.builtin "type.__call__" ⟨.ref C::vs,kw⟩)) (.call (.ref f) ⟨.ref (s.heap.objs.size+1)::vs,kw⟩) (W.InitBack (s.heap.objs.size+1) R)
   {s with heap:=(s.heap.push W.emptyDict).push (W.instObj C s.heap.objs.size)}):
  codeAny (model prog w) A (.call (.ref C) ⟨vs,kw⟩) R s:=by let⟨b,g,d,t,c⟩:=s;exact W.make_core (W.makes_of X hm) (W.looks_findIn X hi) (λa=>W.bind_fn X a hf) (.inl rfl) h
end
noncomputable def μ(f:Str)(v:V):qi (Str×V)->qi (Str×V)
 |[]=>[(f,v)]
 |(g,x)::r=>if g=f then (g,v)::r else (g,x)::μ f v r
theorem ĕ(f g:Str)(v:V):∀fs:Ι,(μ f v fs).lookup g=if g=f then some v else fs.lookup g
 |[]=>by
  show List.lookup g [(f,v)]=_;by_cases h:g=f
  .have a:(g == f)=true:=beq_iff_eq.mpr h;simp only[List.lookup,a,if_pos h]
  .have a:(g == f)=false:=cN.mpr h;simp only[List.lookup,a,if_neg h]
 |(k,x)::r=>by
  have b:=ĕ f g v r;rw[show μ f v ((k,x)::r)=(if k=f then (k,v)::r else (k,x)::μ f v r)from rfl];by_cases hk:k=f
  .rw[if_pos hk];by_cases h:g=k
   .have a:(g == k)=true:=beq_iff_eq.mpr h;simp only[List.lookup,a,if_pos (h.trans hk)]
   .have a:(g == k)=false:=cN.mpr h;simp only[List.lookup,a,if_neg (λe:g=f=>h (e.trans hk.symm))]
  .rw[if_neg hk];by_cases h:g=k
   .have a:(g == k)=true:=beq_iff_eq.mpr h;simp only[List.lookup,a,if_neg (λe:g=f=>hk (h.symm.trans e))]
   .have a:(g == k)=false:=cN.mpr h;simp only[List.lookup,a];exact b
theorem Ě(f:Str)(v:V):∀fs:Ι,f∈(μ f v fs).map (·.1)/\∀g,g∈fs.map (·.1)->g∈(μ f v fs).map (·.1)
 |[]=>⟨by simp[μ],λg h=>by simp at h⟩
 |(k,x)::r=>by
  let⟨a,b⟩:=Ě f v r;rw[show μ f v ((k,x)::r)=(if k=f then (k,v)::r else (k,x)::μ f v r)from rfl];by_cases hk:k=f
  .rw[if_pos hk];subst hk;exists by simp,λg h=>by simpa using h
  .rw[if_neg hk];exists ?_,λg h=>?_
   .rw[bS];exact bM _ a
   .rw[bS]at h⊢;rcases bq.mp h with e|e
    .exact bq.mpr (.inl e)
    .exact bM _ (b g e)
theorem ė(f:Str)(v:V):∀fs:Ι,(μ f v fs).length<=fs.length+1
 |[]=>by simp[μ]
 |(k,x)::r=>by
  have a:=ė f v r;rw[show μ f v ((k,x)::r)=(if k=f then (k,v)::r else (k,x)::μ f v r)from rfl];by_cases hk:k=f
  .rw[if_pos hk,bE,bE];omega
  .rw[if_neg hk,bE,bE];omega
def ych.some_of{o:qj qb}(r:ych (some v) o):∃u,o=some u/\xu v u:=by
 cases o with
 |none=>exact(show False from r).elim
 |some u=>exact⟨u,rfl,r⟩
def ych.none_of{o:qj qb}(r:ych none o):o=none:=by
 cases o with
 |none=>rfl
 |some u=>exact(show False from r).elim
def yg9(r:xu v u):W.handedIn u=true:=by
 cases v with
 |non=>cases (show u=Value.none from r);rfl
 |bl b=>cases (show u=Value.bool b from r);rfl
 |int i=>let⟨t,e⟩:=(show ∃t,u=Value.int i t from r);cases e;rfl
 |str x=>let⟨t,e⟩:=(show ∃t,u=Value.str x t from r);cases e;rfl
 |byt b=>let⟨t,e⟩:=(show ∃t,u=Value.bytes b t from r);cases e;rfl
 |flt b=>let⟨t,e⟩:=(show ∃t,u=Value.float b t from r);cases e;rfl
 |ref a=>cases (show u=Value.ref a from r);rfl
 |ty n=>cases (show u=Value.type n from r);rfl
section
variable{w:qd}{h:qf}{dx:z4}{fs fs':Ι}
def yan(hok:HOk P w H h)(e:H a=some (.ins C dx fs)):∃mA,yv1 h a dx C mA/\(∀f,ych (fs.lookup f) (mA f))/\PySem.Within mA (fs.map (·.1))/\fs.length<=1000/\H dx=some (.own a):=by let⟨d,z,b,c,mA,n,r,q⟩:=(show xm P w H h a (.ins C dx fs)from hok a _ e);exists mA,⟨c,n,b⟩,r,q,z,d
end
structure Cls(K:z3)(C:z4):Prop where
 pg:W.plainGet K C Str.empty=true
 hd:W.hasDictIn K C=true
 po:W.plainOver K C=true
 sa:W.findIn K (.ref C) "__setattr__"=some (some (.builtin "object.__setattr__"))
def Cls.get{K:z3}(c:Cls K C)(f:Str):W.plainGet K C f=true:=c.pg
def NoAttr(K:z3)(C:z4)(f:Str):Prop:=W.findIn K (.ref C) f=some none
def NoAttr.taker{K:z3}{f:Str}(n:NoAttr K C f):W.takerIn K C f=some none:=by unfold W.takerIn;rw[show W.findIn K (.ref C) f=some none from n];rfl
structure Con(K:z3)(C:z4)(f:Str)(v:V)(u:qb):Prop where
 at_:W.findIn K (.ref C) f=some (some u)
 rel:xu v u
 get:W.specialIn K u "__get__"=some none
 cp:W.copiedNames.contains f=false
structure Meth(K:z3)(C:z4)(m:Str)(f:z4):Prop where
 at_:W.findIn K (.ref C) m=some (some (.ref f))
 fn:W.isFn K (.ref f)=true
 kp:W.keepIn K (.ref f)=true
section
variable{s:qa}{dx:z4}{fs:Ι}{f:Str}{A:qe}
def yfw{b:Bool}(I:Inv X pins σ H s)(e:H a=some (.ins C dx fs))(c:Cls X.K C)(n:NoAttr X.K C f)(l:fs.lookup f=some v)
  (h:∀u s',Inv X pins σ H s'->xu v u->Q u s'):wpAny (model X.prog X.w) A (getAttr (.ref a) f b) Q E s:=by let⟨i,O,r,_,_,_⟩:=yan I.hok e;let⟨u,g,d⟩:=ych.some_of (v:=v) (o:=i f) (by rw[<- l];exact r f);exact yuu I.kIn O (c.get f) c.hd n g (yg9 d) (h u _ (I.tok _) d)
def ä{m:Str}{g:z4}{pl:Sem Bool}{Q:qb×qi qb->qa->Prop}(I:Inv X pins σ H s)(e:H a=some (.ins C dx fs))(c:Cls X.K C)(k:Meth X.K C m g)(l:fs.lookup m=none)
  (h:Q (.ref g,[.ref a]) s):wpAny (model X.prog X.w) A (getMethod (.ref a) m pl) Q E s:=by let⟨b,O,r,_,_,_⟩:=yan I.hok e;have d:b m=none:=ych.none_of (by rw[<- l];exact r m);exact yny I.kIn O (c.get m) k.at_ k.fn d h
def ygv{Q:Unit->qa->Prop}(I:Inv X pins σ H s)(e:H a=some (.ins C dx fs))(c:Cls X.K C)(n:NoAttr X.K C f)(hl:fs.length<1000)(ry:xu y u)
  (h:∀s',Inv X pins σ (upd H a (.ins C dx (μ f y fs))) s'->Q ⟨⟩ s'):wpAny (model X.prog X.w) A (setAttr (.ref a) f u) Q E s:=by
 let⟨i,O,r,j,_,k⟩:=yan I.hok e;have p:(fs.map (·.1)).length<=sizeLine:=by rw[ba,sizeLine_eq];omega
 refine ysu I.kIn O c.sa c.po n.taker c.hd j p λv d t=>h _ ?_;have B:∃o,v.get? dx=some o:=let ⟨o,_,_,e',_⟩:=d.ns;⟨o,e'⟩;refine I.write (x:=a) (e:=dx) (by rw[e];exact True.intro) (.inr k) (λb q l z=>(t.2 b l).trans z) B ?_;exists by rw[ym O.ne];exact k,?_,O.ne,d.obj,_,d.ns,λg=>?_,λg m=>?_
 .have:=ė f y fs;omega
 .show ych ((μ f y fs).lookup g) (if g=f then some u else i g);rw[ĕ];by_cases q:g=f
  .rw[if_pos q,if_pos q];exact ry
  .rw[if_neg q,if_neg q];exact r g
 .by_cases q:g=f
  .rw[q];exact(Ě f y fs).1
  .refine(Ě f y fs).2 g (j g λz=>m ?_);show (if g=f then some u else i g)=none;rw[if_neg q];exact z
def Inv.made(I:Inv X pins σ H s):Inv X pins σ (upd (upd H s.heap.objs.size (.own (s.heap.objs.size+1))) (s.heap.objs.size+1) (.ins C s.heap.objs.size []))
  {s with heap:=(s.heap.push W.emptyDict).push (W.instObj C s.heap.objs.size)}:=by
 have d:(s.heap.push W.emptyDict).get? s.heap.objs.size=some W.emptyDict:=br s.heap rfl
 have g:((s.heap.push W.emptyDict).push (W.instObj C s.heap.objs.size)).get? (s.heap.objs.size+1)=some (W.instObj C s.heap.objs.size):=by
  have:=br (s.heap.push W.emptyDict) (o:=W.instObj C s.heap.objs.size) rfl
  rwa[Heap.size_push]at this
 have h:(s.heap.push W.emptyDict).Ns s.heap.objs.size (λZ=>none):=⟨W.emptyDict,#[],_,d,rfl,(λe i=>absurd i (by simp)),λZ=>rfl⟩;have f:=I.laid (a:=s.heap.objs.size) (o:=.own (s.heap.objs.size+1)) (h':=s.heap.push W.emptyDict) (t':=s.toks) (λb u q=>be _ q) (bf _) ⟨_,d⟩;refine f.laid (a:=s.heap.objs.size+1) (o:=.ins C s.heap.objs.size []) (t':=s.toks) (λb u q=>be _ q) (Nat.le_of_eq (Heap.size_push _ _)) ?_;have c:s.heap.objs.size≠s.heap.objs.size+1:=bT (Nat.lt_succ_self _);exists by rw[ym c,ya],bJ _,c,g,λZ=>none,(Heap.Ns1.of_empty h).at λo q=>be _ q,λZ=>True.intro,λy j=>absurd rfl j
def yt2{prog:qh}{w:qd}{env:Env}{pos:Pos}(hb:attributeBase e f env (eval e env)=eval e env)
  (h:wpAny (model prog w) A (eval e env) (λo s₁=>wpAny (model prog w) A (getAttr o f true) Q E s₁) E s):wpAny (model prog w) A (eval (.Attribute e f pos) env) Q E s :=
 Attribute_any_ h (by rw[arm_eval_Attribute,hb])
end
def vgv(K:z3)(ta:TE)(f:Str):TE:=λσ H Q=>ta σ H λx H1=>∃a C dx fs v,x=.ref a/\H1 a=some (.ins C dx fs)/\Cls K C/\NoAttr K C f/\fs.lookup f=some v/\Q v H1
def vho(K:z3)(ta tv:TE)(f:Str):TS:=λD σ H=>tv σ H λy H1=>ta σ H1 λx H2=>∃a C dx fs,x=.ref a/\H2 a=some (.ins C dx fs)/\Cls K C/\NoAttr K C f/\fs.length<1000/\
 D.nx σ (upd H2 a (.ins C dx (μ f y fs)))
section
variable{o value:qg}{f:Str}{pos pos' tpos:Pos}{tv:TE}
def yk(he:PE X e ta)(hb:attributeBase e f X.env (eval e X.env)=eval e X.env):PE X (.Attribute e f pos) (vgv X.K ta f):=by refine .mk λb s σ H Q I h=>?_;refine yt2 hb (thn (he b s σ H _ I h) λu w h'=>?_);let⟨x,j,k,d,a,C,t,p,v,g,m,c,n,l,q⟩:=h';subst g;obtain rfl:u=Value.ref a:=d;exact yfw k m c n l λr y i o=>⟨v,j,i,o,q⟩
def ve(ha:PE X o ta)(hv:PE X value tv)(hs:swapsWith value (some (.Attribute o f pos')) pos.line X.env=pure false):PS X (.Assign [.Attribute o f pos'] value pos) (vho X.K ta tv f):=by refine .mk λb s σ H D I h=>?_;refine plainObj_wpAny_Assign_Attribute (thn (hv b s σ H _ I h) λu p ⟨y,j,k,v,q⟩=>thn (ha b p σ j _ k q) λr B h'=>?_) hs;let⟨x,E,i,d,a,C,A,z,g,m,c,n,l,t⟩:=h';subst g;obtain rfl:r=Value.ref a:=d;exact ygv i m c n l v λw e=>⟨σ,_,e,t⟩
end
section
variable{s:qa}{A:qe}{c:qb}{b:Bool}
inductive uh(K:z3)(H:Hp):V->qb->Prop where
 |non:uh K H .non (.type "NoneType")
 |bl (x:Bool):uh K H (.bl x) (.type "bool")
 |int (i:Int):uh K H (.int i) (.type "int")
 |str (x:Str):uh K H (.str x) (.type "str")
 |flt (x:UInt64):uh K H (.flt x) (.type "float")
 |lst {a:z4} {xs:Υ} (e:H a=some (.lst xs)):uh K H (.ref a) (.type "list")
 |frz {a:z4} {o:Obj} {xs:Υ} (e:H a=some (.frz o (.lst xs))):uh K H (.ref a) (.type "list")
 |tup {a:z4} {xs:Υ} (e:H a=some (.tup xs)):uh K H (.ref a) (.type "tuple")
 |dK {a:z4} {kvs:Κ} (e:H a=some (.dK kvs)):uh K H (.ref a) (.type "dict")
 |dT {a:z4} {kvs:qi (qi Key×V)} (e:H a=some (.dT kvs)):uh K H (.ref a) (.type "dict")
 |ins {a C dx:z4} {fs:Ι} (e:H a=some (.ins C dx fs)) (cl:Cls K C) (ha:W.findIn K (.ref C) "__class__"=some (some (.builtin "object.__class__")))
   (hn:W.specialIn K (.builtin "object.__class__") "__get__"=some (some (.builtin "getset_descriptor.__get__"))) (htk:W.takesIn K (.builtin "object.__class__")=some true)
   (hm:W.mroIn K C (.type "object")=some true):uh K H (.ref a) (.ref C)
def yhr{x:V}{t:qb}(I:Inv X pins σ H s)(rx:xu x u)(ty:uh X.K H x t)(e:W.kitOne X.K t c=some b)(h:∀tk,Q (.bool b) {s with toks:=tk}):
  wpAny (model X.prog X.w) A (call (.builtin "isinstance") [u,c]) Q E s:=by
 cases ty with
 |non=>cases (show u=Value.none from rx);exact W.kia_one W.kitx_none I.kIn True.intro e (λz=>nomatch z) h
 |bl y=>cases (show u=Value.bool y from rx);exact W.kia_one W.kitx_bool I.kIn True.intro e (λz=>nomatch z) h
 |int i=>let⟨t,q⟩:=(show ∃t,u=Value.int i t from rx);cases q;exact W.kia_one W.kitx_int I.kIn True.intro e (λz=>nomatch z) h
 |str y=>let⟨t,q⟩:=(show ∃t,u=Value.str y t from rx);cases q;exact W.kia_one W.kitx_str I.kIn True.intro e (λz=>nomatch z) h
 |flt y=>let⟨t,q⟩:=(show ∃t,u=Value.float y t from rx);cases q;exact W.kia_one W.kitx_float I.kIn True.intro e (λz=>nomatch z) h
 | @lst a xs ea =>
  cases (show u=Value.ref a from rx);let⟨_,_,n,_,d⟩:=(show xm X.prog X.w H s.heap a (.lst xs)from I.hok a _ ea)
  exact W.kia_one W.kitx_list I.kIn ⟨_,d,rfl⟩ e (λz=>nomatch z) h
 | @frz a ob xs ea =>
  cases (show u=Value.ref a from rx);let⟨_,_,_,n,_,d⟩:=(show xm X.prog X.w H s.heap a (.frz ob (.lst xs))from I.hok a _ ea)
  exact W.kia_one W.kitx_list I.kIn ⟨_,d,rfl⟩ e (λz=>nomatch z) h
 | @tup a xs ea =>
  cases (show u=Value.ref a from rx);let⟨_,_,_,p⟩:=(show xm X.prog X.w H s.heap a (.tup xs)from I.hok a _ ea);let⟨o,d,f,_⟩:=p
  exact W.kia_one W.kitx_tuple I.kIn ⟨o,d,f⟩ e (λz=>nomatch z) h
 | @dK a kvs ea =>
  cases (show u=Value.ref a from rx);let⟨_,_,l,_,p⟩:=(show xm X.prog X.w H s.heap a (.dK kvs)from I.hok a _ ea);let⟨o,g,j,d,f,_⟩:=p
  exact W.kia_one W.kitx_dict I.kIn ⟨o,d,f.1⟩ e (λz=>nomatch z) h
 | @dT a kvs ea =>
  cases (show u=Value.ref a from rx);let⟨_,_,xs,_,o,g,j,d,f,_⟩:=(show xm X.prog X.w H s.heap a (.dT kvs)from I.hok a _ ea)
  exact W.kia_one W.kitx_dict I.kIn ⟨o,d,f.1⟩ e (λz=>nomatch z) h
 | @ins a C dx fs ea cl ha hn htk hm =>
  cases (show u=Value.ref a from rx);let⟨k,O,_⟩:=yan I.hok ea;let⟨m,J,_⟩:=O.look
  exact W.kia_one (W.kitx_own (cl.get _) cl.hd ha hn htk hm) I.kIn J e (λz=>nomatch z) h
end
structure jt(k:Nat)(A:qe):Prop where
 hd:A.handled=none
 dp:A.depth+3*k+5<recursionLimit
 un:A.units+16*k+200<cLine
def jt.mono{j k:Nat}{A:qe}(r:jt k A)(h:j<=k):jt j A:=⟨r.hd,by have:=r.dp;omega,by have:=r.un;omega⟩
theorem jt.deeper{k:Nat}{A:qe}(r:jt (k+1) A)(env:Env):jt k (A.deeper env) :=
 ⟨r.hd,by have:=r.dp;show A.depth+1+3*k+5<_;omega,by have:=r.un;show A.units+3+16*k+200<_;omega⟩
def ygo{A:qe}:(A.under (.builtin "type.__call__" ⟨.ref C::us,kw⟩)).depth=A.depth+1:=by first|rfl|simp[Around.under,Code.weight,Code.isCreation,Code.isGuard,Code.isCaller,Code.frames,Code.isFrame,guardIds]
def ygm{A:qe}:(A.under (.builtin "type.__call__" ⟨.ref C::us,kw⟩)).units=A.units+1:=by first|rfl|simp[Around.under,Code.cUnits,Code.frames,Code.isFrame]
def jt.make{k:Nat}{A:qe}(r:jt (k+1) A)(C:z4)(us:Ο)(kw:qi (Str×qb)):jt k (A.under (.builtin "type.__call__" ⟨.ref C::us,kw⟩)) :=
 ⟨r.hd,by have:=r.dp;rw[ygo];omega,by have:=r.un;rw[ygm];omega⟩
theorem jt.depth{k:Nat}{A:qe}(r:jt k A):A.depth<recursionLimit:=by have:=r.dp;omega
theorem jt.units{k:Nat}{A:qe}(r:jt k A):A.units+64<cLine:=by have:=r.un;omega
def ylf:TA:=λZ H Q=>Q [] H
def yoa(ta:TE)(tr:TA):TA:=λσ H Q=>ta σ H λx H1=>tr σ H1 λxs H2=>Q (x::xs) H2
section
variable{t:TA}{pos:Pos}
def ur:PA X [] ylf:=.mk λZ Z Z Z H Q I h=>Calls.spliced_nil ⟨[],H,I,.nil,h⟩
def yje(ha:PE X e te)(hr:PA X es t)(hs:autoParam (starEach (e::es) X.env=(false,eval e X.env)::starEach es X.env) aD._auto_1):PA X (e::es) (yoa te t):=by refine .mk λb a s σ H Q I h=>?_;rw[hs];show wpAny _ _ (spliced ((false,eval e X.env)::backTo b (starEach es X.env))) _ _ s;refine Calls.spliced_cons (thn (ha a s σ H _ I h) λu l h'=>?_);let⟨x,d,g,j,k⟩:=h';exact thn (hr b a l σ d _ g k) λo p ⟨f,n,c,i,m⟩=>⟨x::f,n,c,.cons j i,m⟩
def vg7(t:TA):TE:=λσ H Q=>t σ H λxs H1=>xs.length<=sizeLine/\∀p,H1 p=none->Q (.ref p) (upd H1 p (.tup xs))
def vhp(t:TA):TE:=λσ H Q=>t σ H λxs H1=>xs.length<=sizeLine/\∀p,H1 p=none->Q (.ref p) (upd H1 p (.lst xs))
def uq{x1}(h:PA X es t):PE X (.Tuple es x1 pos) (vg7 t):=by refine .mk λa s σ H Q I k=>?_;refine wpAny_Tuple_spliced (thn (h pos a s σ H _ I k) λg c ⟨i,d,f,r,z,q⟩=>⟨by rw[<- r.length];exact z,?_⟩);have j:d c.heap.objs.size=none:=f.hok.fresh (bf _);exists .ref c.heap.objs.size,upd d c.heap.objs.size (.tup i),f.laid (t':=c.toks) (λb u e=>be _ e) (bf _) ?_,rfl,q _ j;exists z,g,r,⟨_,br _ rfl,rfl,_,rfl⟩
def wy(h:PA X es t):PE X (.List es pos) (vhp t):=by refine .mk λa s σ H Q I k=>?_;refine wpAny_List_spliced (thn (h pos a s σ H _ I k) λg c ⟨i,d,f,r,z,q⟩=>⟨by rw[<- r.length];exact z,?_⟩);have j:d c.heap.objs.size=none:=f.hok.fresh (bf _);exists .ref c.heap.objs.size,upd d c.heap.objs.size (.lst i),f.laid (t':=c.toks) (λb u e=>be _ e) (bf _) ?_,rfl,q _ j;exists z,g,0,r,br _ rfl
end
abbrev Sp:=qi V->Hp->VK->XK->Prop
abbrev CXT:=qi Env->Hp->qa->XK->qb->qa->Prop
variable{CX:CXT}
structure yv0(P:qh)(w:qd)(K:z3)(mg:Ε)(base:qf)(A:qe)(outer:qi Env)(s:qa)(H:Hp):Prop where
 frames:A.frames=some outer
 mod:Mod K mg base
 bs:∀b o,base.get? b=some o->s.heap.get? b=some o/\H b=none
 bsz:base.objs.size<=s.heap.objs.size
 funs:s.heap.FunFrames base outer
 frf:∀b∈frs outer,H b=none
 hok:HOk P w H s.heap
 bare:AllBare s.gens
def CE(outer:qi Env)(P:qh)(w:qd)(H:Hp)(s:qa)(Q:VK)(u:qb)(s':qa):Prop :=
 ∃v H',s'.os=s.os/\AllBare s'.gens/\Un (frs outer) [] H H' s.heap s'.heap/\HOk P w H' s'.heap/\xu v u/\Q v H'
def CR(CX:CXT)(outer:qi Env)(P:qh)(w:qd)(H:Hp)(s:qa)(Q:VK)(E:XK)(r:Result)(s':qa):Prop :=
 match r with
 | .ok (.ret u)=>CE outer P w H s Q u s'
 | .ok _=>False
 | .error e=>CX outer H s E e s'
structure vo(P:qh)(w:qd)(K:z3)(mg:Ε)(base:qf)(CX:CXT)(k:Nat)(f:z4)(fd:FuncData)(ps:Τ)(sp:Sp):Prop where
 len:∀vs H Q E,sp vs H Q E->vs.length=ps.length
 run:∀(A:qe)(outer:qi Env)(s:qa)(H:Hp)(args:Args)(us:Ο)(vs:Υ)(Q:VK)(E:XK),jt k A->yv0 P w K mg base A outer s H->BindsTo s fd args (ps.zip us)->wz vs us->sp vs H Q E ->
  codeAny (model P w) A (.call (.ref f) args) (CR CX outer P w H s Q E) s
def yv0.make{w:qd}{K:z3}{mg:Ε}{base:qf}{A:qe}{outer:qi Env}{s:qa}(e:yv0 P w K mg base A outer s H)(C:z4)(us:Ο)(kw:qi (Str×qb)):
  yv0 P w K mg base (A.under (.builtin "type.__call__" ⟨.ref C::us,kw⟩)) outer s H:=⟨by first|exact e.frames|(simpa[Around.under,Code.envs,Code.isFrame,pushEnvs]using e.frames),e.mod,e.bs,e.bsz,e.funs,e.frf,e.hok,e.bare⟩
section
variable{s:qa}
def Inv.env0(I:Inv X pins σ H s):yv0 X.prog X.w X.K X.mg X.base X.A X.stack s H :=
 ⟨I.ok.frames,I.ok.mod,I.bs,bF I.ok.bsz I.sz,I.stack,I.stkFree,I.hok,I.bare⟩
def Inv.after{Q:VK}(I:Inv X pins σ H s)(h:CE X.stack X.prog X.w H s Q u s'):EP X pins σ Q u s':=by let⟨v,i,k,a,j,e,r,q⟩:=h;let⟨f,g,d,t,c⟩:=s';obtain rfl:c=s.os:=k;exists v,i,I.call (h':=f) (g':=g) (d':=d) (t':=t) (ch:=[]) j e a (λb z=>absurd z (by simp)),r,q
end
def yvk(sp:Sp)(dvs:Υ)(E:XK)(t:TA):TE:=λσ H Q=>t σ H λvs H1=>sp (vs++dvs) H1 Q E
def Ŀ(C:z4)(m:Str)(sp:Sp)(dvs:Υ)(E:XK)(ta:TE)(t:TA):TE:=λσ H Q=>ta σ H λx H1=>∃a dx fs,x=.ref a/\H1 a=some (.ins C dx fs)/\fs.lookup m=none/\
 t σ H1 λvs H2=>sp (x::(vs++dvs)) H2 Q E
def yvp(C:z4)(sp:Sp)(dvs:Υ)(E:XK)(t:TA):TE:=λσ H Q=>t σ H λvs H1=>∀x dx,H1 x=none->H1 dx=none->dx≠x ->
 sp (.ref x::(vs++dvs)) (upd (upd H1 dx (.own x)) x (.ins C dx [])) (λv H2=>v=.non/\Q (.ref x) H2) E
def ul(K:z3)(fd:FuncData)(ps:Τ)(ds:Ο):Prop :=
 ∀(s:qa)(us:Ο),K.In s.heap->(us++ds).length=ps.length->BindsTo s fd ⟨us,[]⟩ (ps.zip (us++ds))
def ul.all{K:z3}{ps:Τ}(h:∀us:Ο,us.length=ps.length->bindArgs fd ⟨us,[]⟩=pure (ps.zip us)):ul K fd ps []:=λs us Z a=>by
 rw[cO]at a⊢;exact .of_eq (h us a)
def ö(CX:CXT)(X:Cx)(E:XK):Prop:=∀(pins:Θ)(σ:St)(H:Hp)(s:qa)(e:qb)(s':qa),Inv X pins σ H s->CX X.stack H s E e s'->X.xe e s'
section
variable{k:Nat}{f:z4}{ps:Τ}{sp:Sp}{dvs:Υ}{ds:Ο}{E:XK}{x m:Str}{p pos apos:Pos}{o:qg}{t:TA}
def ykr{s:qa}{Q:VK}(F:vo X.prog X.w X.K X.mg X.base CX k f fd ps sp)(hr:jt k X.A)(hb:ul X.K fd ps ds)(hd:wz dvs ds)(hx:ö CX X E)
  (I:Inv X pins σ H s) (r:wz vs us) (h:sp (vs++dvs) H Q E):wpAny (model X.prog X.w) X.A (call (.ref f) us) (EP X pins σ Q) X.xe s:=by
 have b:wz (vs++dvs) (us++ds):=r.append hd;have d:(us++ds).length=ps.length:=by rw[<- b.length];exact F.len _ _ _ _ h
 refine wpAny_call (codeAny_mono (F.run X.A X.stack s H ⟨us,[]⟩ (us++ds) (vs++dvs) Q E hr I.env0 (hb s us I.kIn d) b h) λr c a=>?_)
 cases r with
 |error e=>exact hx pins σ H s e c I a
 |ok fl =>
  cases fl with
  |ret u=>exact I.after a
  |next=>exact False.elim a
  |brk=>exact False.elim a
  |cont=>exact False.elim a
def Å(F:vo X.prog X.w X.K X.mg X.base CX k f fd ps sp)(hr:jt k X.A)(hg:Gl X x)(hm:X.mg x=some (.ref f))(hk:W.keepIn X.K (.ref f)=true)(hb:ul X.K fd ps ds)(hd:wz dvs ds)(hx:ö CX X E)
  (ha:PA X (e::es) t) (hdb:autoParam ((x == ("__debug__":Str))=false) aB._auto_1) (he:autoParam (starEach (e::es) X.env=(false,eval e X.env)::starEach es X.env) aD._auto_1) (hpl:autoParam ((backTo pos (starEach es X.env)).any (·.1)=false) aD._auto_1):
  PE X (.Call (.Name x p) (e::es) [] pos) (yvk sp dvs E t):=by refine .mk λa s σ H Q I h=>?_;refine wpAny_Call_Name_kw (Æ I hg hm ?_ hdb);refine W.callWith_K (h₀:=X.base) I.ok.mod.kin hk (thn (ha pos a s σ H _ I h) λc g ⟨i,d,b,r,q⟩=>⟨b.kIn,?_⟩) he hpl;exact ykr F hr hb hd hx b r q
def xi{pl:Sem Bool}(he:PE X o ta)(c:Cls X.K C)(hm:Meth X.K C m f)(F:vo X.prog X.w X.K X.mg X.base CX k f fd ps sp)(hr:jt k X.A)(hb:ul X.K fd ps ds)(hd:wz dvs ds)(hx:ö CX X E)(ha:PA X (e::es) t)
  (hst:autoParam (starEach (e::es) X.env=(false,eval e X.env)::starEach es X.env) aD._auto_1) (hpl:autoParam ((backTo pos (starEach es X.env)).any (·.1)=false) aD._auto_1)
  (ht:eval (.Call (.Attribute o m apos) (e::es) [] pos) X.env=(do
   let ov <- eval o X.env
   standAt apos.atName
   let (f,first) <- holding [ov] (getMethod ov m pl)
   callWith pos f first (backTo pos (starEach (e::es) X.env)) (backToKw pos (keywordEach [] X.env))):=by rfl):
  PE X (.Call (.Attribute o m apos) (e::es) [] pos) (Ŀ C m sp dvs E ta t):=by
 refine .mk λb s σ H Q I h=>?_;refine W.methodCall_KW (pl:=pl) (thn (he b s σ H _ I h) λu v h'=>?_) ht;let⟨x,n,g,i,a,B,z,j,p,l,q⟩:=h';subst j;obtain rfl:u=Value.ref a:=i;refine ä g p c hm l ?_
 refine W.callWith_K (first:=[.ref a]) (h₀:=X.base) I.ok.mod.kin hm.kp (thn (ha pos b v σ n _ g q) λus D ⟨vs,G,d,r,y⟩=>⟨d.kIn,?_⟩) hst hpl
 exact ykr (us:=.ref a::us) (vs:=.ref a::vs) F hr hb hd hx d (.cons rfl r) y
def vj{pl:Sem Bool}(he:PE X o ta)(c:Cls X.K C)(hm:Meth X.K C m f)(F:vo X.prog X.w X.K X.mg X.base CX k f fd ps sp)(hr:jt k X.A)(hb:ul X.K fd ps ds)(hd:wz dvs ds)(hx:ö CX X E)
  (ht:eval (.Call (.Attribute o m apos) [] [] pos) X.env=(do
   let ov <- eval o X.env
   standAt apos.atName
   let (f,first) <- holding [ov] (getMethod ov m pl)
   callWith pos f first (backTo pos (starEach [] X.env)) (backToKw pos (keywordEach [] X.env))):=by rfl):
  PE X (.Call (.Attribute o m apos) [] [] pos) (Ŀ C m sp dvs E ta ylf):=by
 refine .mk λb s σ H Q I h=>?_;refine W.methodCall_KW (pl:=pl) (thn (he b s σ H _ I h) λu r h'=>?_) ht;let⟨x,j,d,e,a,p,n,g,i,l,q⟩:=h';subst g;obtain rfl:u=Value.ref a:=e;refine ä d i c hm l ?_
 exact W.callWith_K0 (first:=[.ref a]) d.kIn hm.kp (ykr (us:=[.ref a]) (vs:=[.ref a]) F hr hb hd hx d (.cons rfl .nil) q)
structure Mk(K:z3)(C f:z4):Prop where
 makes:W.makesIn K C=true
 init:W.findIn K (.ref C) "__init__"=some (some (.ref f))
 fn:W.isFn K (.ref f)=true
 kp:W.keepIn K (.ref C)=true
def yd2{s:qa}{Q:VK}(M:Mk X.K C f)(F:vo X.prog X.w X.K X.mg X.base CX k f fd ps sp)(hr:jt (k+1) X.A)(hb:ul X.K fd ps ds)(hd:wz dvs ds)
  (hx:ö CX X E) (I:Inv X pins σ H s) (r:wz vs us)
  (h:∀x dx,H x=none->H dx=none->dx≠x->sp (.ref x::(vs++dvs)) (upd (upd H dx (.own x)) x (.ins C dx [])) (λv H2=>v=.non/\Q (.ref x) H2) E):
  wpAny (model X.prog X.w) X.A (call (.ref C) us) (EP X pins σ Q) X.xe s:=by
 have d:=h (s.heap.objs.size+1) s.heap.objs.size (I.hok.fresh (Nat.le_succ _)) (I.hok.fresh (bf _)) (bT (Nat.lt_succ_self _));have b:=Inv.made (C:=C) I;have c:wz (V.ref (s.heap.objs.size+1)::(vs++dvs)) (Value.ref (s.heap.objs.size+1)::(us++ds)):=.cons rfl (r.append hd)
 have o:(Value.ref (s.heap.objs.size+1)::us++ds).length=ps.length:=by
  have e:=c.length;rw[F.len _ _ _ _ d]at e;exact e.symm
 refine wpAny_call (yeq (f:=f) I.kIn M.makes M.init (beq_iff_eq.mp M.fn) (codeAny_mono (F.run _ X.stack _ _ ⟨Value.ref (s.heap.objs.size+1)::us,[]⟩ (Value.ref (s.heap.objs.size+1)::(us++ds)) _ _ E (hr.make C us [])
  (b.env0.make C us []) (hb _ (Value.ref (s.heap.objs.size+1)::us) b.kIn o) c d) λr n a=>?_))
 cases r with
 |error e=>exact hx pins σ _ _ e n b a
 |ok fl =>
  cases fl with
  |ret u =>
   let⟨v,i,g,m,j,l⟩:=b.after a;subst j;exists m,⟨V.ref (s.heap.objs.size+1),i,g,rfl,l⟩
  |next=>exact False.elim a
  |brk=>exact False.elim a
  |cont=>exact False.elim a
def À(M:Mk X.K C f)(F:vo X.prog X.w X.K X.mg X.base CX k f fd ps sp)(hr:jt (k+1) X.A)(hg:Gl X x)(hm:X.mg x=some (.ref C))(hb:ul X.K fd ps ds)(hd:wz dvs ds)(hx:ö CX X E)
  (ha:PA X (e::es) t) (hdb:autoParam ((x == ("__debug__":Str))=false) aB._auto_1) (he:autoParam (starEach (e::es) X.env=(false,eval e X.env)::starEach es X.env) aD._auto_1) (hpl:autoParam ((backTo pos (starEach es X.env)).any (·.1)=false) aD._auto_1):
  PE X (.Call (.Name x p) (e::es) [] pos) (yvp C sp dvs E t):=by refine .mk λa s σ H Q I h=>?_;refine wpAny_Call_Name_kw (Æ I hg hm ?_ hdb);refine W.callWith_K (h₀:=X.base) I.ok.mod.kin M.kp (thn (ha pos a s σ H _ I h) λc g ⟨i,d,b,r,q⟩=>⟨b.kIn,?_⟩) he hpl;exact yd2 M F hr hb hd hx b r q
def zw(M:Mk X.K C f)(F:vo X.prog X.w X.K X.mg X.base CX k f fd ps sp)(hr:jt (k+1) X.A)(hg:Gl X x)(hm:X.mg x=some (.ref C))(hb:ul X.K fd ps ds)(hd:wz dvs ds)(hx:ö CX X E)
  (hdb:autoParam ((x == ("__debug__":Str))=false) aB._auto_1):PE X (.Call (.Name x p) [] [] pos) (yvp C sp dvs E ylf):=by refine .mk λa s σ H Q I h=>?_;refine wpAny_Call_Name_kw (Æ I hg hm ?_ hdb);exact W.callWith_K0 I.kIn M.kp (yd2 (us:=[]) M F hr hb hd hx I .nil h)
end
section
variable{k:Nat}{f:z4}{ps ks:Τ}{sp:Sp}{E:XK}{x m:Str}{p pos apos kpos:Pos}{o:qg}{kws:qi Keyword}{t tk:TA}{nm:Φ}
structure vg3(K:z3)(fd:FuncData)(ps ks:Τ)(g:qi qb->qi qb->qi qb)(gV:qi V->qi V->qi V):Prop where
 to:∀(s:qa)(us ws:Ο),K.In s.heap->(g us ws).length=ps.length->BindsTo s fd ⟨us,ks.zip ws⟩ (ps.zip (g us ws))
 rel:∀{vs:Υ}{us:Ο}{zs:Υ}{ws:Ο},wz vs us->wz zs ws->wz (gV vs zs) (g us ws)
variable{g:qi qb->qi qb->qi qb}{gV:qi V->qi V->qi V}
end
structure yi(N P:Τ)(sc:Scope):Prop where
 kind:sc.kind=.function
 co:sc.isCoroutine=false
 gen:sc.isGenerator=false
 nd:N.Nodup
 pre:N.take P.length=P
 par:∀x∈P,sc.names.lookup x=some .local\/sc.names.lookup x=some .cell
 nofree:∀y∈sc.names,y.2≠.free
theorem ybp{kindOf:Str->qj NameKind}{x:Str}:∀{binds:qi (Str×qb)}{m:Ε},(∀v,(x,v)∉binds)->bindL kindOf binds m x=m x
 |[],_,_=>rfl
 |(n,v)::r,m,h=>by
  unfold bindL;rw[ybp λw a=>h w (bM _ a)]
  split
  .have:x≠n:=by rintro rfl;exact h v bN
   simp[this]
  .rfl
theorem ybv{kindOf:Str->qj NameKind}{x:Str}:∀{binds:qi (Str×qb)}{m:Ε},(∀v,(x,v)∉binds)->bindC kindOf binds m x=m x
 |[],_,_=>rfl
 |(n,v)::r,m,h=>by
  unfold bindC;rw[ybv λw a=>h w (bM _ a)]
  split
  .rfl
  .have:x≠n:=by rintro rfl;exact h v bN
   simp[this]
theorem ybx{kindOf:Str->qj NameKind}{x:Str}{v:qb}:∀{P:Τ}{vs:Ο}{i:Nat}{m:Ε},P.Nodup->P[i]?=some x->vs[i]?=some v->kindOf x=some .local ->
  bindL kindOf (P.zip vs) m x=some v
 |[],_,_,_,_,h,_,_=>by simp at h
 |_::_,[],_,_,_,_,h,_=>by simp at h
 |p::P,w::vs,0,m,nd,h1,h2,hk=>by
  simp at h1 h2;subst h1;subst h2;show bindL kindOf ((p,w)::P.zip vs) m p=_;unfold bindL;rw[ybp λv a=>(cB.mp nd).1 (List.of_mem_zip a).1,if_pos hk];simp
 |p::P,w::vs,i+1,m,nd,h1,h2,hk=>by
  show bindL kindOf ((p,w)::P.zip vs) m x=_;unfold bindL;exact ybx (i:=i) (cB.mp nd).2 (by simpa using h1) (by simpa using h2) hk
theorem ybm{kindOf:Str->qj NameKind}{x:Str}{v:qb}:∀{P:Τ}{vs:Ο}{i:Nat}{m:Ε},P.Nodup->P[i]?=some x->vs[i]?=some v->kindOf x≠some .local ->
  bindC kindOf (P.zip vs) m x=some v
 |[],_,_,_,_,h,_,_=>by simp at h
 |_::_,[],_,_,_,_,h,_=>by simp at h
 |p::P,w::vs,0,m,nd,h1,h2,hk=>by
  simp at h1 h2;subst h1;subst h2;show bindC kindOf ((p,w)::P.zip vs) m p=_;unfold bindC;rw[ybv λv a=>(cB.mp nd).1 (List.of_mem_zip a).1,if_neg hk];simp
 |p::P,w::vs,i+1,m,nd,h1,h2,hk=>by
  show bindC kindOf ((p,w)::P.zip vs) m x=_;unfold bindC;exact ybm (i:=i) (cB.mp nd).2 (by simpa using h1) (by simpa using h2) hk
noncomputable def ð(N:Τ)(vs:Υ):St:=vs.map some++List.replicate (N.length-vs.length) none
noncomputable def vt(CX:CXT)(P:qh)(w:qd)(K:z3)(mg:Ε)(base:qf)(N:Τ)(qual:Str)(scope:Scope)(f:z4)(cd:qb)(A:qe)(outer:qi Env)(s:qa)(H:Hp)(E:XK):Cx where
 prog:=P
 w:=w
 K:=K
 mg:=mg
 base:=base
 A:=A.deeper (envOfC qual scope s.heap.objs.size f cd)
 N:=N
 s₀:=s
 H₀:=H
 env:=envOfC qual scope s.heap.objs.size f cd
 outer:=outer
 stack:=envOfC qual scope s.heap.objs.size f cd::outer
 ex:=[]
 calm:=true
 fn:=λZ=>true
 pn:=[]
 xe:=λe s'=>wpAny (model P w) (A.deeper (envOfC qual scope s.heap.objs.size f cd)) (leaving (envOfC qual scope s.heap.objs.size f cd) e) (λZ s''=>CX outer H s E e s'') (λe' s''=>CX outer H s E e' s'') s'
def yei{sc:Scope}{n:Nat}{x:Str}(h:sc.names.lookup x=some .cell):∃c,(cellsFrom n sc.names []).lookup x=some c:=by have q:=W.cellsFrom_some sc.names n [] (.inl h);exact Option.isSome_iff_exists.mp q
def yh2{w:qd}{K:z3}{mg:Ε}{base:qf}{N ps:Τ}{qual:Str}{scope:Scope}{f:z4}{cd:qb}{A:qe}{outer:qi Env}{s s1:qa}{E:XK} 
  (S:yi N ps scope) (hd:A.handled=none) (e0:yv0 P w K mg base A outer s H) (hl:vs.length=ps.length) (r:wz vs us)
  (x:InCallC s s.heap.objs.size (bindL (envOfC qual scope s.heap.objs.size f cd).kindOf (ps.zip us) λZ=>none) (cellsFrom (s.heap.objs.size+1) scope.names []) (bindC (envOfC qual scope s.heap.objs.size f cd).kindOf (ps.zip us) λZ=>none) s1):
  Inv (vt CX P w K mg base N qual scope f cd A outer s H E) [] (ð N vs) H s1:=by
 have F:ps.length<=N.length:=by have:=congrArg List.length S.pre;rw[bU]at this;omega
 let⟨o,J,rfl,B⟩:=x.done;have g:∀b:z4,b∉(vt CX P w K mg base N qual scope f cd A outer s H E).ex:=λb z=>absurd (show b∈([]:Χ)from z) (by simp)
 refine⟨⟨e0.mod,S.kind,rfl,rfl,bf _,λy z c o d=>?_,λy j=>?_,λy c Z h=>?_,λZ=>hd,Around.frames_deeper e0.frames,.inr ⟨rfl,rfl⟩,λb z=>absurd z (g b),e0.bs,e0.bsz,λb Z Z=>g b,λb z=>absurd z (g b),e0.funs,e0.frf⟩,
  rfl,e0.bare,Un.kept B,⟨_,x.toInCall.ns,λi y v o d I=>?_⟩,λy c h=>⟨_,x.cell y c h⟩,e0.hok.fresh (bf _),λy c h=>?_,λp m=>absurd (show p∈([]:Θ)from m) (by simp),e0.hok.kept B,?_⟩
 .exact name_of_addr x.apart (PySem.mem_of_lookup o) (PySem.mem_of_lookup d)
 .have j:scope.names.lookup y=some .cell\/scope.names.lookup y=some .free:=j;rcases j with j|j
  .exact yei j
  .exact absurd rfl (S.nofree _ (PySem.mem_of_lookup j))
 .exact Nat.le_of_lt (x.above y c (PySem.mem_of_lookup h))
 .have t:i<vs.length:=by
   unfold ð at d;by_cases t:i<vs.length
   .exact t
   .rw[cn (by simpa using t)]at d;rw[List.getElem?_replicate]at d
    split at d<;>cases d
  have G:vs[i]?=some v:=by
   unfold ð at d;rw[cK (by simpa using t),bi]at d
   cases e:vs[i]? with
   |none=>rw[e]at d;cases d
   |some a=>rw[e]at d;cases d;rfl
  let⟨u,C,D⟩:=r.get G
  have m:ps[i]?=some y:=by
   rw[<- S.pre,List.getElem?_take_of_lt ()];exact o
  have l:ps.Nodup:=by rw[<- S.pre];exact S.nd.sublist (List.take_sublist _ _)
  exists u,D,?_;rcases S.par y (bB m)with k|k
  .exact .inl ⟨k,ybx l m C k⟩
  .obtain⟨c,e⟩:=yei (n:=s.heap.objs.size+1) k;refine .inr ⟨.inl k,c,e,?_⟩;have q:=x.cell y c e;rw[ybm l m C (by show scope.names.lookup y≠_;rw[k];decide)]at q;exact q
 .exact e0.hok.fresh (Nat.le_of_lt (x.above y c (PySem.mem_of_lookup h)))
 .unfold ð;show _=N.length;rw[bd,ba,List.length_replicate];omega
def yn6{w:qd}{K:z3}{mg:Ε}{base:qf}{k:Nat}{f:z4}{name qual:Str}{params:Arguments}{scope:Scope}{dV kV doc pm cdv ct oc:qb}{an od:qj z4}
  {osl:Array (qj qb)} {N ps:Τ} {sp:Sp} (lk:K.lookup f=some ⟨oc,od,.func (W.fnOf name qual params body scope dV kV doc pm an cdv ct),osl⟩) (hcd:W.codeIn K cdv qual=true) (S:yi N ps scope)
  (len:∀vs H Q E,sp vs H Q E->vs.length=ps.length)
  (hbody:∀(A:qe)(outer:qi Env)(s:qa)(H:Hp)(vs:Υ)(Q:VK)(E:XK),jt k (A.deeper (envOfC qual scope s.heap.objs.size f cdv))->sp vs H Q E ->
   ∃t,PSs (vt CX P w K mg base N qual scope f cdv A outer s H E) body t/\t { nx:=λZ H'=>Q .non H',rt:=Q} (ð N vs) H):
  vo P w K mg base CX (k+1) f (W.fnOf name qual params body scope dV kV doc pm an cdv ct) ps sp:=by
 exists len,λA outer s H p O vs Q E l g D r h=>?_;have L:=len _ _ _ _ h;have z:K.In s.heap:=g.mod.kin.keeps λb o e=>(g.bs b o e).1;have i:s.heap.NoLimit:=g.mod.nolimit.keeps λb o e=>(g.bs b o e).1
 have a:∀y∈ps.zip O,scope.names.lookup y.1=some .local\/(scope.names.lookup y.1=some .cell/\((cellsFrom (s.heap.objs.size+1) scope.names []).lookup y.1).isSome=true):=λ⟨n,v⟩ G=>by
  rcases S.par n (List.of_mem_zip G).1 with q|q
  .exact .inl q
  .exact .inr ⟨q,W.cellsFrom_some _ _ _ (.inl q)⟩
 refine codeAny_call_function l.depth (z _ _ lk) rfl S.co S.gen rfl (W.codeRec_of z hcd) (D _ _ _ _ ?_);refine wpAny_newFunctionEnv_cells S.kind a λC F B x=>?_;subst F;exists i.keeps x.toInCall.keep,codeAny_func ?_;let⟨t,T,M⟩:=hbody A outer s H vs Q E (l.deeper _) h;have I:Inv (vt CX P w K mg base N qual scope f cdv A outer s H E) [] (ð N vs) H B:=yh2 S l.hd g L r x;refine cJ (T [] B (ð N vs) H _ I M) (λR m c=>?_) λe m c=>c
 have d:∀{σ':St}{H':Hp}{v:V}{u:qb},Inv (vt CX P w K mg base N qual scope f cdv A outer s H E) [] σ' H' m->xu v u->Q v H'->CE outer P w H s Q u m :=
  λ{σ' H' v u}J j q=>⟨v,H',J.os,J.bare,J.base,J.hok,j,q⟩
 cases R with
 |ret u =>
  let⟨v,σ',H',J,j,q⟩:=c;exact d J j q
 |next =>
  let⟨σ',H',J,q⟩:=c;exact d (v:=V.non) (u:=Value.none) J rfl q
 |brk =>
  let⟨_,_,_,q⟩:=c;exact False.elim q
 |cont =>
  let⟨_,_,_,q⟩:=c;exact False.elim q
section
variable{x:Str}{p pos:Pos}{t:TA}{id T:String}{r:qi V->Hp->VK->Prop}
def tCB(r:qi V->Hp->VK->Prop)(t:TA):TE:=λσ H Q=>t σ H λvs H1=>r vs H1 Q
def ynl(hc:jy X (.builtin id) r)(hg:Gl X x)(hm:X.mg x=none)(hv:bootBuiltins x=some (.builtin id))(ha:PA X (e::es) t)(hn:autoParam (x≠"__name__") aB._auto_1)(hdb:autoParam ((x == ("__debug__":Str))=false) aB._auto_1)
  (he:autoParam (starEach (e::es) X.env=(false,eval e X.env)::starEach es X.env) aD._auto_1) (hpl:autoParam ((backTo pos (starEach es X.env)).any (·.1)=false) aD._auto_1):PE X (.Call (.Name x p) (e::es) [] pos) (tCB r t):=by refine .mk λa s σ H Q I h=>?_;refine wpAny_Call_Name_kw (Į I hg hm hv ?_ hn hdb);exact PyProof.Rows.callWith_builtin1 (thn (ha pos a s σ H _ I h) λb i ⟨j,c,d,f,g⟩=>hc a i σ c j b Q d f g) he hpl
def yhn(hc:jy X (.type T) r)(hg:Gl X x)(hm:X.mg x=none)(hv:bootBuiltins x=some (.type T))(ha:PA X (e::es) t)(hn:autoParam (x≠"__name__") aB._auto_1)(hdb:autoParam ((x == ("__debug__":Str))=false) aB._auto_1)
  (he:autoParam (starEach (e::es) X.env=(false,eval e X.env)::starEach es X.env) aD._auto_1) (hpl:autoParam ((backTo pos (starEach es X.env)).any (·.1)=false) aD._auto_1):PE X (.Call (.Name x p) (e::es) [] pos) (tCB r t):=by refine .mk λa s σ H Q I h=>?_;refine wpAny_Call_Name_kw (Į I hg hm hv ?_ hn hdb);exact PyProof.Rows.callWith_type1 (thn (ha pos a s σ H _ I h) λb i ⟨j,c,d,f,g⟩=>hc a i σ c j b Q d f g) he hpl
end
end L2
namespace HT
open PySem PyProof.Rows
section
open PySem.SeqAt
open PySem.AutoSeq1 (wpAny_loadPart')
open PySem.MeetsSeq PySem.MeetsSeq2 PySem.MeetsSeq3
end
section
variable{prog:qh}{w:qd}{A:qe}{E:Δ}{s:qa}
noncomputable def sIx(n d:Nat):qj Int->Nat
 |none=>d
 |some v=>if v<0 then (v+(n:Int)).toNat else min v.toNat n
def sIx_none(n d:Nat):sIx n d none=d:=rfl
def sIx_nat(n d k:Nat):sIx n d (some (k:Int))=min k n:=by show (if (k:Int)<0 then ((k:Int)+(n:Int)).toNat else min (k:Int).toNat n)=min k n;rw[if_neg (),Int.toNat_natCast]
def yyp(n d:Nat)(hd:d<=n)(o:qj Int):sIx n d o<=n:=by
 cases o with
 |none=>exact hd
 |some v =>
  show (if v<0 then (v+(n:Int)).toNat else min v.toNat n)<=n;by_cases hv:v<0
  .rw[if_pos hv];omega
  .rw[if_neg hv];exact Nat.min_le_right _ _
def yix(v:Int)(n d:Nat):(if v<0 then max (v+(n:Int)) 0 else min v (n:Int))=((sIx n d (some v):Nat):Int):=by
 show (if v<0 then max (v+(n:Int)) 0 else min v (n:Int))=(((if v<0 then (v+(n:Int)).toNat else min v.toNat n):Nat):Int);by_cases hv:v<0
 .simp only[if_pos hv];omega
 .simp only[if_neg hv];omega
def yf0(lo hi:qj Int)(n:Nat):Builtin.Slice.sliceAdjust lo hi 1 (n:Int)=(((sIx n 0 lo:Nat):Int),((sIx n n hi:Nat):Int)):=by
 have a:¬((1:Int)<0):=()
 unfold Builtin.Slice.sliceAdjust;simp only[a,if_false];refine Prod.ext ?_ ?_
 .cases lo with
  |none=>rfl
  |some v=>exact yix v n 0
 .cases hi with
  |none=>rfl
  |some v=>exact yix v n n
def yfx(i j:Nat):Builtin.Slice.slicePlaces (i:Int) (j:Int) 1=j-i:=by
 unfold Builtin.Slice.slicePlaces;have a:(1:Int) > 0:=()
 simp only[a,if_true,Int.ediv_one]
 split<;>omega
def Ņ{v:qb}{o:qj Int}{Q:qj Int->qa->Prop}(p:IsPart v o)(h:Q o s):wpAny (model prog w) A (Builtin.Slice.slicePartIndex v) Q E s:=by
 cases p with
 |none=>exact slicePart_none h
 |int i t=>exact slicePart_int h
def jv{sl:z4}{vl vu:qb}{lo hi:qj Int}{n:Nat}{Q:Int×Int×Nat->qa->Prop}(hs:s.heap.IsSliceOf sl vl vu .none)(pl:IsPart vl lo)(pu:IsPart vu hi)
  (h:Q (((sIx n 0 lo:Nat):Int),1,sIx n n hi-sIx n 0 lo) s):wpAny (model prog w) A (Builtin.Slice.sliceApplied (.ref sl) (pure (n:Int))) Q E s:=by
 let⟨d,a,c,b⟩:=id hs;unfold Builtin.Slice.sliceApplied Builtin.Slice.sliceFields;refine bb (bb (b9 a b (x:=vl) rfl (bb (b9 a b (x:=vu) rfl (bb (b9 a b (x:=.none) rfl (bh ?_)))))));refine bb (slicePart_none ?_);show wpAny _ _ (if ((1:Int) == 0)=true then _ else _) _ _ s;rw[if_neg ∅];refine bb (Ņ pl (bb (Ņ pu (bb (bh ?_)))))
 show wpAny _ _ (match Builtin.Slice.sliceAdjust lo hi 1 (n:Int)with|(lo,hi)=>pure (lo,(1:Int),Builtin.Slice.slicePlaces lo hi 1)) _ _ s
 rw[yf0 lo hi n];show wpAny _ _ (pure (((sIx n 0 lo:Nat):Int),(1:Int),Builtin.Slice.slicePlaces ((sIx n 0 lo:Nat):Int) ((sIx n n hi:Nat):Int) 1)) _ _ s;rw[yfx];exact bh h
def ynh(xs:Array qb)(i k:Nat):((List.range k).filterMap λ(m:Nat)=>xs[((i:Int)+(m:Int)*1).toNat]?).toArray=((xs.toList.drop i).take k).toArray:=by
 have e:(λ(m:Nat)=>xs[((i:Int)+(m:Int)*1).toNat]?)=λm=>xs[i+m]?:=by
  funext m
  have:((i:Int)+(m:Int)*1).toNat=i+m:=()
  rw[this]
 rw[e];have:=pick_run xs i k;rw[List.filterMap_map]at this;have a:((λx=>xs[x]?) ∘ λx=>i+x)=λm=>xs[i+m]?:=rfl;rw[a]at this;rw[this]
def getItem_tuple_cut{t sl:z4}{items:Array qb}{vl vu:qb}{lo hi:qj Int}{Q:Δ}(ht:IsTup s.heap t items)(hs:s.heap.IsSliceOf sl vl vu .none)(pl:IsPart vl lo)(pu:IsPart vu hi)
  (hw:¬(sIx items.size 0 lo=0/\sIx items.size items.size hi=items.size))
  (h:Q (.ref s.heap.objs.size) {s with heap:=s.heap.push { cls:=.type "tuple",data:=.seq ((items.toList.drop (sIx items.size 0 lo)).take (sIx items.size items.size hi-sIx items.size 0 lo)).toArray} })
  (hsz:items.size<=sizeLine):wpAny (model prog w) A (getItem (.ref t) (.ref sl)) Q E s:=by
 have a:sizeOk (.seq ((items.toList.drop (sIx items.size 0 lo)).take (sIx items.size items.size hi-sIx items.size 0 lo)).toArray):=by
  show ((items.toList.drop (sIx items.size 0 lo)).take (sIx items.size items.size hi-sIx items.size 0 lo)).toArray.size<=sizeLine;rw[bC,bU,cu,ci];omega
 have i:sIx items.size items.size hi<=items.size:=yyp _ _ (bf _) hi;let⟨g,b,c,f⟩:=id hs;have e:s.TypeIs (.ref sl) "slice":=⟨g,b,c⟩;unfold getItem
 try with_reducible refine wpAny_holding ?_
 first|refine bb (bh ?_)|skip
 refine bb (wpAny_sequenceKey ht.typeIs ∅ ?_);refine bb (wpAny_callSpecial?_slot (name:=Str.ofString "__getitem__") ht.typeIs PyProof.Rows.slot_tuple_getitem
  (wpAny_call_entry PyProof.Rows.slot_tuple_getitem ht.typeIs entry_tuple_getitem ?_ (args_tuple_getitem _ _)))
 show wpAny _ _ (Builtin.Tuple.tupleItemsOf (.ref t) >>=_) _ _ s;refine bb (tupleItemsOf_ ht ?_);refine bb (wpAny_typeOf e ?_);rw[if_pos ∅];refine bb (jv hs pl pu ?_)
 have d:¬((((sIx items.size 0 lo:Nat):Int) == 0 && (1:Int) == 1 && (sIx items.size items.size hi-sIx items.size 0 lo) == items.size)=true):=by
  intro q;rw[bL,bL]at q;have j:((sIx items.size 0 lo:Nat):Int)=0:=eq_of_beq q.1.1;have k:sIx items.size items.size hi-sIx items.size 0 lo=items.size:=eq_of_beq q.2;exact hw ⟨(),()⟩
 show wpAny _ _ (if (((sIx items.size 0 lo:Nat):Int) == 0 && (1:Int) == 1 && (sIx items.size items.size hi-sIx items.size 0 lo) == items.size)=true then _ else _) _ _ s;rw[if_neg d,ynh]
 first
  |exact bb (m:=Builtin.Tuple.tupleExact _) (wpAny_newObj_type (bh ⟨_,rfl,bh h⟩) a)
  |exact bb (m:=Builtin.Tuple.tupleExact _) (wpAny_newObj_type (bb (bh (bh ⟨_,rfl,bh h⟩))) a)
  |exact bb (bb (m:=Builtin.Tuple.tupleExact _) (wpAny_newObj_type (bh (bh ⟨_,rfl,bh h⟩)) a))
  |exact bb (bb (m:=Builtin.Tuple.tupleExact _) (wpAny_newObj_type (bh ⟨_,rfl,bh h⟩) a))
end
end HT
namespace L2
open PySem PySem.Spec PyProof.Rows
variable{us:Ο}{v:qb}
abbrev TO:=St->Hp->(qj Int->Hp->Prop)->Prop
def PO(X:Cx)(e:qj qg)(t:TO):Prop :=
 ∀(pins:Θ)(s:qa)(σ:St)(H:Hp)(Q:qj Int->Hp->Prop),Inv X pins σ H s->t σ H Q ->
  wpAny (model X.prog X.w) X.A (evalPart e X.env) (λu s'=>∃o H',Inv X pins σ H' s'/\IsPart u o/\Q o H') X.xe s
def yjl:TO:=λZ H Q=>Q none H
def vds(t:TE):TO:=λσ H Q=>t σ H λx H1=>∃i,x=.int i/\Q (some i) H1
section
variable{X:Cx}{e:qg}{te:TE}{lo hi:qj qg}{tl th:TO}{pos p2:Pos}
def uu:PO X none yjl:=by intro a s σ H Q I h;rw[evalPart_none];exact bh ⟨none,H,I,.none,h⟩
def uv(h:PE X e te):PO X (some e) (vds te):=by intro a s σ H Q I b;rw[evalPart_some];refine thn (h a s σ H _ I b) λu j h'=>?_;let⟨x,c,d,f,g⟩:=h';let⟨i,rfl,q⟩:=g;let⟨t,rfl⟩:=f;exists some i,c,d,.int i t,q
def SlR(X:Cx)(r:V->qj Int->qj Int->Hp->VK->Prop):Prop :=
 ∀(pins:Θ)(s:qa)(σ:St)(H:Hp)(x:V)(v vl vu:qb)(lo hi:qj Int)(sl:z4)(Q:VK),Inv X pins σ H s->xu x v->s.heap.IsSliceOf sl vl vu .none->IsPart vl lo->IsPart vu hi->r x lo hi H Q ->
  ∃T id,typeLookup (.type T) "__getitem__"=pure (some (.builtin id))/\s.TypeIs v T/\wpAny (model X.prog X.w) X.A (getItem v (.ref sl)) (EP X pins σ Q) X.xe s
def SlR.or{r r':V->qj Int->qj Int->Hp->VK->Prop}(h:SlR X r)(h':SlR X r'):SlR X (λx lo hi H Q=>r x lo hi H Q\/r' x lo hi H Q):=by
 intro a s σ H x v e g lo hi c Q I b d f i q;rcases q with q|q
 .exact h a s σ H x v e g lo hi c Q I b d f i q
 .exact h' a s σ H x v e g lo hi c Q I b d f i q
def tSl(r:V->qj Int->qj Int->Hp->VK->Prop)(te:TE)(tl th:TO):TE:=λσ H Q=>te σ H λx H1=>tl σ H1 λl H2=>th σ H2 λu H3=>r x l u H3 Q
def xw{r:V->qj Int->qj Int->Hp->VK->Prop}(hr:SlR X r)(he:PE X e te)(hl:PO X lo tl)(hu:PO X hi th):PE X (.Subscript e (.Slice lo hi none p2) pos) (tSl r te tl th):=by refine .mk λa s σ H Q I h=>?_;refine Subscript_ (thn (he a s σ H _ I h) λv F h'=>?_);let⟨x,n,o,C,t⟩:=h';refine wpAny_Slice (thn (hl a F σ n _ o t) λf y ⟨l,J,m,z,j⟩=>thn (hu a y σ J _ m j) λd c h'=>?_);let⟨u,g,E,D,p⟩:=h';rw[evalPart_none];refine bh ?_;have i:Inv X a σ g {c with heap:=c.heap.push { cls:=.type "slice",data:=.fields #[f,d,.none]} }:=E.kept (t':=c.toks) λb K q=>be _ q;let⟨T,id,B,G,k⟩:=hr a {c with heap:=c.heap.push { cls:=.type "slice",data:=.fields #[f,d,.none]} } σ g x v f d l u c.heap.objs.size Q i C (Heap.IsSliceOf.new ..) z D p;show wpAny (model X.prog X.w) X.A (subscriptTail e (.Slice lo hi none p2) v (.ref c.heap.objs.size)) (EP X a σ Q) X.xe {c with heap:=c.heap.push { cls:=.type "slice",data:=.fields #[f,d,.none]} };exact tail_any (ops:=[.ref c.heap.objs.size,v]) G B k (by with_unfolding_all rfl)
def ya0(xs:Υ)(lo hi:qj Int):Υ:=(xs.drop (HT.sIx xs.length 0 lo)).take (HT.sIx xs.length xs.length hi-HT.sIx xs.length 0 lo)
def đ(xs:Υ)(lo hi:qj Int):(ya0 xs lo hi).length<=xs.length:=by unfold ya0;rw[bU,cu];omega
def vin(K:z3):V->qj Int->qj Int->Hp->VK->Prop:=λx lo hi H Q=>∃a xs,x=.ref a/\SqT K H a xs/\
 ¬(HT.sIx xs.length 0 lo=0/\HT.sIx xs.length xs.length hi=xs.length)/\∀p,H p=none->Q (.ref p) (upd H p (.tup (ya0 xs lo hi)))
def vae:SlR X (vin X.K):=by
 intro g s σ H x v w y lo f u Q I k n p t h;let⟨a,d,rfl,m,l,q⟩:=h;cases k;let⟨e,r,j,i⟩:=I.tuple m;have c:e.toArray.size=d.length:=by rw[bC];exact r.length.symm
 refine⟨"tuple",_,PyProof.Rows.slot_tuple_getitem.lookup,j.typeIs,?_⟩;refine HT.getItem_tuple_cut j n p t (by rw[c];exact l) ?_ (by rw[c];exact i);rw[c];exists .ref s.heap.objs.size,_,I.laid (t':=s.toks) (o:=.tup (ya0 d lo f)) (λb z q=>be _ q) (bf _) ?_,rfl,q _ (I.hok.fresh (bf _));exists bF (đ d lo f) i,_,(r.drop (HT.sIx d.length 0 lo)).take (HT.sIx d.length d.length f-HT.sIx d.length 0 lo),IsTup.new _ _
end
noncomputable def ixN(n:Nat)(i:Int):qj Nat:=if 0<=i then (if i<n then some i.toNat else none)else if -(n:Int)<=i then some (i+n).toNat else none
def atI{α:Type}(xs:qi α)(i:Int):qj α:=(ixN xs.length i).bind λj=>xs[j]?
def yug{n:Nat}{i:Int}{j:Nat}(h:ixN n i=some j):seqIndex? i n=some j/\j<n/\-(n:Int)<=i/\i<n:=by
 unfold ixN at h;by_cases h0:0<=i
 .rw[if_pos h0]at h;by_cases h1:i<n
  .rw[if_pos h1]at h;have e:i.toNat=j:=bx h;exists by rw[seqIndex_of h0 h1,e],(),(),h1
  .rw[if_neg h1]at h;cases h
 .rw[if_neg h0]at h;by_cases h1:-(n:Int)<=i
  .rw[if_pos h1]at h;have e:(i+n).toNat=j:=bx h;exists by rw[seqIndex_neg () h1,e],(),h1,()
  .rw[if_neg h1]at h;cases h
def yj3{α:Type}{xs:qi α}{i:Int}{v:α}(h:atI xs i=some v):∃j,seqIndex? i xs.length=some j/\xs[j]?=some v/\j<xs.length/\-(xs.length:Int)<=i/\i<xs.length:=by
 unfold atI at h
 cases e:ixN xs.length i with
 |none=>rw[e]at h;cases h
 |some j =>
  rw[e]at h;let⟨b,d,a,c⟩:=yug e;exists j,b,h,d,a,c
def wo{α:Type}{xs:qi α}{j:Nat}{v:α}(h:xs[j]?=some v):atI xs (j:Int)=some v:=by
 have a:j<xs.length:=(bv.mp h).1
 have e:ixN xs.length (j:Int)=some j:=by
  unfold ixN;rw[if_pos (),if_pos ()];simp
 unfold atI;rw[e];exact h
def ylt{α:Type}(xs:qi α)(v:α):atI (xs++[v]) (-1)=some v:=by
 have a:(xs++[v]).length=xs.length+1:=by simp
 have e:ixN (xs++[v]).length (-1)=some xs.length:=by
  unfold ixN;rw[a,if_neg ∅,if_pos ()]
  congr 1
  omega
 unfold atI;rw[e];show (xs++[v])[xs.length]?=some v;simp
def yul(b:qg):Prop:=∀o i,subscripted b false o i=operate [o,i] (getItem o i)
def IxR(X:Cx)(r:R2):Prop :=
 ∀(value slice:qg)(pins:Θ)(s:qa)(σ:St)(H:Hp)(x y:V)(v u:qb)(Q:VK),Inv X pins σ H s->xu x v->xu y u->r x y H Q ->
  subscripted slice false v u=operate [v,u] (getItem v u)->wpAny (model X.prog X.w) X.A (subscriptTail value slice v u) (EP X pins σ Q) X.xe s
def MtR(X:Cx)(id:String)(r:V->qi V->Hp->VK->Prop):Prop :=
 ∀(pins:Θ)(s:qa)(σ:St)(H:Hp)(x:V)(xs:Υ)(v:qb)(us:Ο)(Q:VK),Inv X pins σ H s->xu x v->wz xs us->r x xs H Q ->
  wpAny (model X.prog X.w) X.A (call (.builtin id) (v::us)) (EP X pins σ Q) X.xe s
section
variable{X:Cx}{a b:qg}{ta tb:TE}{pos:Pos}
def xz{r:R2}(hr:IxR X r)(ha:PE X a ta)(hb:PE X b tb)(hs:yul b):PE X (.Subscript a b pos) (tOp r ta tb):=by refine .mk λc s σ H Q I h=>?_;exact Subscript_ (vez ha hb I h λv u f x y i e d g q=>hr a b c f σ i x y v u Q e d g q (hs _ _))
def ve3(K:z3):R2:=λx y H Q=>∃p xs i v,x=.ref p/\y=.int i/\SqL K H p xs/\atI xs i=some v/\Q v H
def vgz(K:z3):R2:=λx y H Q=>∃p xs i v,x=.ref p/\y=.int i/\SqT K H p xs/\atI xs i=some v/\Q v H
def xf:IxR X (ve3 X.K):=by
 intro d l a s σ H x y v u Q I C E h n;let⟨p,L,i,z,rfl,rfl,G,B,q⟩:=h;cases C;let⟨t,rfl⟩:=E;let⟨e,r,f,O⟩:=I.list G;let⟨j,c,A,N,o,D⟩:=yj3 B;let⟨w,m,k⟩:=r.get A;have F:=r.length;have M:=yb9;have b:EP X a σ Q w s:=⟨z,H,I,k,q⟩;by_cases h0:0<=i
 .have g:i.toNat=j:=by
   rw[seqIndex_of h0 D]at c;exact bx c
  exact item_listR f.isList h0 () (by rw[g];simpa using m) b n
 .have g:(i+(e.toArray.size:Int)).toNat=j:=by
   rw[seqIndex_neg () o]at c;rw[bC,<- F];exact bx c
  exact subscriptTail_builtinR (x:=w) f.isList.typeIs slot_list_getitem.lookup
   (wpAny_getItem_list_neg (Q:=λr J=>r=w/\EP X a σ Q r J) f.isList () (by rw[bC]<;>omega) () (by rw[g];simpa using m) ⟨rfl,b⟩) n
def jw:IxR X (vgz X.K):=by
 intro b e a s σ H x y v u Q I n B h A;let⟨p,F,i,z,rfl,rfl,D,m,q⟩:=h;cases n;let⟨t,rfl⟩:=B;let⟨g,r,f,N⟩:=I.tuple D;let⟨j,o,l,M,G,J⟩:=yj3 m;let⟨w,k,d⟩:=r.get l;have C:=r.length;have L:=yb9;have c:EP X a σ Q w s:=⟨z,H,I,d,q⟩;exact subscriptTail_builtinR (x:=w) f.typeIs slot_tuple_getitem.lookup
  (getItem_tuple (j:=j) (Q:=λr E=>r=w/\EP X a σ Q r E) f () () (by rw[bC,<- C];exact o) (by simpa using k) ⟨rfl,c⟩) A
def ya6(lo hi:qj Int)(n:Nat):(sliceBounds lo hi none n).1=((HT.sIx n 0 lo:Nat):Int)/\(sliceBounds lo hi none n).2.1=((HT.sIx n n hi:Nat):Int)/\(sliceBounds lo hi none n).2.2=1:=by
 exists ?_,?_,rfl
 .cases lo with
  |none=>simp[sliceBounds,HT.sIx]
  |some i =>
   simp only[sliceBounds,HT.sIx,Option.getD_none,show (1:Int) > 0 by decide,if_true];by_cases h:i<0
   .simp only[h,if_true]<;>omega
   .simp only[h,if_false]<;>omega
 .cases hi with
  |none=>simp[sliceBounds,HT.sIx]
  |some i =>
   simp only[sliceBounds,HT.sIx,Option.getD_none,show (1:Int) > 0 by decide,if_true];by_cases h:i<0
   .simp only[h,if_true]<;>omega
   .simp only[h,if_false]<;>omega
def ů(its:Ο)(lo hi:qj Int):slicePick its.toArray lo hi none=((its.drop (HT.sIx its.length 0 lo)).take (HT.sIx its.length its.length hi-HT.sIx its.length 0 lo)).toArray:=by let⟨b,c,a⟩:=ya6 lo hi its.toArray.size;unfold slicePick;rw[b,c,a];simp only[sliceRange_one,pick_run,bC]<;>rfl
def vg6(K:z3):V->qj Int->qj Int->Hp->VK->Prop:=λx lo hi H Q=>∃a xs,x=.ref a/\SqL K H a xs/\∀p,H p=none->Q (.ref p) (upd H p (.lst (ya0 xs lo hi)))
def z8:SlR X (vg6 X.K):=by intro f s σ H x v u w lo e t Q I i l m p h;let⟨a,c,rfl,k,q⟩:=h;cases i;let⟨j,r,g,n⟩:=I.list k;have d:=r.length;refine⟨"list",_,slot_list_getitem.lookup,g.isList.typeIs,?_⟩;refine wpAny_getItem_list_slice g.isList l m p .none (by simp) ?_ (by rw[bC]<;>omega);rw[ů,<- d];exists .ref s.heap.objs.size,_,I.laid (t':=s.toks) (o:=.lst (ya0 c lo e)) (λb y q=>be _ q) (bf _) ?_,rfl,q _ (I.hok.fresh (bf _));exists bF (đ c lo e) n,_,0,(r.drop (HT.sIx c.length 0 lo)).take (HT.sIx c.length c.length e-HT.sIx c.length 0 lo),br _ rfl
noncomputable def yax:V->Bool
 | .non=>true
 | .bl _=>true
 | .int _=>true
 | .str _=>true
 |_=>false
noncomputable def eqV:V->V->Bool
 | .non,.non=>true
 | .bl a,.bl b=>a == b
 | .bl a,.int b=>(if a then 1 else 0) == b
 | .int a,.bl b=>a == (if b then 1 else 0)
 | .int a,.int b=>a == b
 | .str a,.str b=>a == b
 |_,_=>false
def yze{A:qe}{s:qa}{y x:V}{u:qb}(ry:xu y u)(rx:xu x v)(fy:yax y=true)(fx:yax x=true):SeqAt.EqAt A s u v (eqV y x):=by
 cases y with
 |non =>
  cases ry
  cases x with
  |non=>cases rx;exact SeqAt.EqAt.same _
  |bl b=>cases rx;exact SeqAt.EqAt.none_bool b
  |int b=>let⟨t,rfl⟩:=rx;exact SeqAt.EqAt.none_int b t
  |str b=>let⟨t,rfl⟩:=rx;exact SeqAt.EqAt.none_str b t
  |_=>exact absurd (show false=true from fx) bA
 |bl a =>
  cases ry
  cases x with
  |non=>cases rx;exact SeqAt.EqAt.bool_none a
  |bl b=>cases rx;exact SeqAt.EqAt.bool_bool a b
  |int b=>let⟨t,rfl⟩:=rx;exact SeqAt.EqAt.bool_int a b t
  |str b=>let⟨t,rfl⟩:=rx;exact SeqAt.EqAt.bool_str a b t
  |_=>exact absurd (show false=true from fx) bA
 |int a =>
  let⟨c,rfl⟩:=ry
  cases x with
  |non=>cases rx;exact SeqAt.EqAt.int_none a c
  |bl b=>cases rx;exact SeqAt.EqAt.int_bool a c b
  |int b=>let⟨t,rfl⟩:=rx;exact SeqAt.EqAt.int_int a c b t
  |str b=>let⟨t,rfl⟩:=rx;exact SeqAt.EqAt.int_str a c b t
  |_=>exact absurd (show false=true from fx) bA
 |str a =>
  let⟨c,rfl⟩:=ry
  cases x with
  |non=>cases rx;exact SeqAt.EqAt.str_none a c
  |bl b=>cases rx;exact SeqAt.EqAt.str_bool a c b
  |int b=>let⟨t,rfl⟩:=rx;exact SeqAt.EqAt.str_int a c b t
  |str b=>let⟨t,rfl⟩:=rx;exact SeqAt.EqAt.str_str a c b t
  |_=>exact absurd (show false=true from fx) bA
 |_=>exact absurd (show false=true from fy) bA
def eqU(x:V)(u:qb):Bool:=match u with
 | .none=>eqV .non x
 | .bool b=>eqV (.bl b) x
 | .int i _=>eqV (.int i) x
 | .str z _=>eqV (.str z) x
 |_=>false
def yqk{x y:V}{u:qb}(r:xu y u)(f:yax y=true):eqU x u=eqV y x:=by
 cases y with
 |non=>cases r;rfl
 |bl b=>cases r;rfl
 |int i=>let⟨t,rfl⟩:=r;rfl
 |str z=>let⟨t,rfl⟩:=r;rfl
 |_=>exact absurd (show false=true from f) bA
theorem ydh{x:V}:∀{xs:Υ}{us:Ο},wz xs us->xs.all yax=true->us.any (eqU x)=xs.any λy=>eqV y x
 |_,_,.nil,_=>rfl
 |y::xs,u::us,.cons r t,f=>by
  rw[List.all_cons,bL]at f;rw[List.any_cons,List.any_cons,yqk r f.1,ydh t f.2]
theorem yab{A:qe}{s:qa}{x:V}(rx:xu x v)(fx:yax x=true):∀{xs:Υ}{us:Ο},wz xs us->xs.all yax=true->∀u∈us,SeqAt.EqAt A s u v (eqU x u)
 |_,_,.nil,_=>λu a=>by cases a
 |y::xs,u::us,.cons r t,f=>λb a=>by
  rw[List.all_cons,bL]at f;rcases bq.mp a with rfl|a
  .rw[yqk r f.1];exact yze r rx f.1 fx
  .exact yab rx fx t f.2 b a
def inV(x:V)(xs:Υ):Bool:=xs.any λy=>eqV y x
def rIn(K:z3)(neg:Bool):R2:=λx y H Q=>∃p xs,y=.ref p/\(SqL K H p xs\/SqT K H p xs)/\yax x=true/\xs.all yax=true/\Q (.bl (if neg then !inV x xs else inV x xs)) H
def ybs:OpR X (compareOp .In) (rIn X.K false):=by
 intro i s σ H x y v u Q I f k h;let⟨p,l,rfl,b,g,c,q⟩:=h;cases k;rcases b with b|b
 .obtain⟨a,r,e,j⟩:=I.list b;refine SeqAt.in_listAt (eqU x) e.isList (λw d=>yab f g r c w (by simpa using d)) ⟨.bl _,H,I,rfl,?_⟩;rw[show a.toArray.any (eqU x)=a.any (eqU x) by simp,ydh r c];exact q
 .obtain⟨a,r,e,j⟩:=I.tuple b;refine SeqAt.in_tupleAt (eqU x) e (λw d=>yab f g r c w (by simpa using d)) ⟨.bl _,H,I,rfl,?_⟩;rw[show a.toArray.any (eqU x)=a.any (eqU x) by simp,ydh r c];exact q
def yp:jy X (.builtin "len") (λxs H Q=>∃p ys,xs=[.ref p]/\(SqL X.K H p ys\/SqT X.K H p ys)/\Q (.int ys.length) H):=by
 intro f s σ H xs j Q I r h;let⟨p,ys,rfl,b,q⟩:=h;let⟨u,rfl,g⟩:=þ r;cases g;have k:=yb9;rcases b with b|b
 .obtain⟨c,d,e,i⟩:=I.list b;have a:=d.length;exact Calls.call_len_list e.isList (by simp only[bC]<;>omega) ⟨.int ys.length,H,I.tok _,⟨s.toks+1,by rw[bC,a]⟩,q⟩
 .obtain⟨c,d,e,i⟩:=I.tuple b;have a:=d.length;exact len_tuple e (by simp only[bC]<;>omega) ⟨.int ys.length,H,I.tok _,⟨s.toks+1,by rw[bC,a]⟩,q⟩
def zu:jy X (.builtin "len") (λxs H Q=>∃z,xs=[.str z]/\z.length<=sizeLine/\Q (.int z.length) H):=by intro a s σ H xs d Q I r h;let⟨z,rfl,b,q⟩:=h;let⟨u,rfl,t,rfl⟩:=þ r;have c:=yb9;exact len_str () ⟨.int z.length,H,I.tok _,⟨_,rfl⟩,q⟩
def wg:jy X (.type "list") (λxs H Q=>∃p ys,xs=[.ref p]/\(SqL X.K H p ys\/SqT X.K H p ys)/\∀l,H l=none->Q (.ref l) (upd H l (.lst ys))):=by
 intro m s σ H xs B Q I r h;let⟨p,ys,rfl,j,q⟩:=h;let⟨u,rfl,A⟩:=þ r;cases A;have i:∀(a:Ο),wz ys a->ys.length<=sizeLine->∀(c:qf)(f:Nat),(∀b o',s.heap.get? b=some o'->c.get? b=some o') ->
   c.get? s.heap.objs.size=some { cls:=.type "list",dict:=none,data:=.seq a.toArray f,slots:=#[]}->EP X m σ Q (.ref s.heap.objs.size) {s with heap:=c}:=λa d k c f t e =>
  ⟨.ref s.heap.objs.size,_,I.laid (t':=s.toks) t (bf _) (show xm X.prog X.w _ c _ (.lst ys)from ⟨k,a,f,d,e⟩),rfl,q _ (I.hok.fresh (bf _))⟩
 rcases j with j|j
 .obtain⟨a,d,v,k⟩:=I.list j;have g:=d.length;let⟨o,z,x,n,y⟩:=v.isList;exact call_list_seq p (.inl rfl) z x y (λc f t e=>i a d k c f t e) (by simp only[bC]<;>omega)
 .obtain⟨a,d,v,k⟩:=I.tuple j;have g:=d.length;let⟨o,z,x,n,y⟩:=v;exact call_list_seq p (.inr rfl) z x y (λc f t e=>i a d k c f t e) (by simp only[bC]<;>omega)
def Ÿ:jy X (.type "tuple") (λxs H Q=>∃p ys,xs=[.ref p]/\((SqL X.K H p ys/\∀l,H l=none->Q (.ref l) (upd H l (.tup ys)))\/(SqT X.K H p ys/\Q (.ref p) H))):=by
 intro a s σ H xs x Q I r h;let⟨p,ys,rfl,h⟩:=h;let⟨u,rfl,n⟩:=þ r;cases n;rcases h with⟨i,q⟩|⟨i,q⟩
 .obtain⟨c,f,g,k⟩:=I.list i;have m:=f.length;refine call_tuple_list g.isList (λd v=>?_) (by simp only[bC]<;>omega);have j:Inv X a σ H {s with heap:=d}:=I.kept (t':=s.toks) v
  have t:Inv X a σ (upd H d.objs.size (.tup ys)) {s with heap:=d.push { cls:=.type "tuple",data:=.seq c.toArray} } :=
   j.laid (t':=s.toks) (λb o e=>be _ e) (bf _) (show xm X.prog X.w _ _ _ (.tup ys)from ⟨k,c,f,IsTup.new _ _⟩)
  exists .ref d.objs.size,_,t,rfl,q _ (j.hok.fresh (bf _))
 .obtain⟨c,f,g,k⟩:=I.tuple i;exact call_tuple_same g ⟨.ref p,H,I,rfl,q⟩
def tyV(K:z3)(T:String)(x:V)(H:Hp):Prop:=match x with
 | .str _=>T="str"
 | .int _=>T="int"
 | .ref p=>(T="list"/\∃xs,SqL K H p xs)\/(T="tuple"/\∃o,K.lookup p=some o/\o.cls=.type "tuple"/\o.dict=none) \/
   (T="dict"/\((∃kvs,H p=some (.dK kvs))\/∃kvs,H p=some (.dT kvs)))\/(T="set"/\∃S n,H p=some (.set S n))
 |_=>False
def yql{pins:Θ}{σ:St}{H:Hp}{s:qa}{T:String}{x:V}(I:Inv X pins σ H s)(r:xu x v)(ty:tyV X.K T x H):
  s.TypeIs v T/\∀a,v=.ref a->∃ob,s.heap.get? a=some ob/\ob.dict=none:=by
 cases x with
 |str z =>
  let⟨t,rfl⟩:=r;cases (show T="str" from ty)
  exists typeIs_str s z t,λZ e=>nomatch e
 |int i =>
  let⟨t,rfl⟩:=r;cases (show T="int" from ty)
  exists typeIs_int s i t,λZ e=>nomatch e
 |ref p =>
  cases r;rcases ty with⟨rfl,q,l⟩|⟨rfl,o,b,m,h⟩|⟨rfl,b⟩|⟨rfl,S,n,b⟩
  .obtain⟨k,_,j,_⟩:=I.list l;exists j.isList.typeIs,λa e=>?_;cases e;let⟨o,n,e,c,h,_⟩:=j;exact⟨o,e,h⟩
  .exists⟨o,I.kIn p o b,m⟩,λa e=>?_;cases e;exists o,I.kIn _ o b,h
  .have z:∃o,s.heap.get? p=some o/\o.ExactDict:=by
    rcases b with⟨f,b⟩|⟨f,b⟩
    .obtain⟨_,_,_,_,o,_,_,e,d,_⟩:=I.hok p _ b;exact⟨o,e,d⟩
    .obtain⟨_,_,_,_,o,_,_,e,d,_⟩:=I.hok p _ b;exact⟨o,e,d⟩
   let⟨o,e,d⟩:=z;exists⟨o,e,d.1⟩,λa g=>?_;cases g;exact⟨o,e,d.2.1⟩
  .obtain⟨o,_,_,_,e,d,_⟩:=I.hok p _ b;exists⟨o,e,d.1⟩,λa g=>?_;cases g;exact⟨o,e,d.2.1⟩
 |_=>exact False.elim ty
def vhq(K:z3)(T:String)(r:V->qi V->Hp->VK->Prop)(to:TE):TE:=λσ H Q=>to σ H λx H1=>tyV K T x H1/\r x [] H1 Q
def tBM(K:z3)(T:String)(r:V->qi V->Hp->VK->Prop)(to:TE)(t:TA):TE:=λσ H Q=>to σ H λx H1=>tyV K T x H1/\t σ H1 λxs H2=>r x xs H2 Q
variable{o e:qg}{es:qi qg}{to:TE}{t:TA}{name:Str}{apos cpos:Pos}{T id:String}{r:V->qi V->Hp->VK->Prop}
def yfl(pa:PlainAttrs T)(slot:Slot T name id)(hty:typeOf (.builtin id)=pure (.type "method_descriptor"))(hm:MtR X id r)(ho:PE X o to)
  (hbase:autoParam (attributeBase o name X.env (eval o X.env)=eval o X.env) aD._auto_1) (hline:autoParam ((apos.endLine == cpos.line)=true) aD._auto_1):PE X (.Call (.Attribute o name apos) [] [] cpos) (vhq X.K T r to):=by refine .mk λa s σ H Q I h=>?_;refine wpAny_Call_method0_late hbase hline (thn (ho a s σ H _ I h) λv i h'=>?_);let⟨x,f,b,c,j,g⟩:=h';let⟨d,e⟩:=yql b c j;exists T,id,pa,slot,hty,d,e,Calls.callWith_builtin rfl (PySem.evalArgs_none (hm a i σ f x [] v [] Q b c .nil g))
def ug(pa:PlainAttrs T)(slot:Slot T name id)(hty:typeOf (.builtin id)=pure (.type "method_descriptor"))(hm:MtR X id r)(ho:PE X o to)(ha:PA X (e::es) t)
  (hbase:autoParam (attributeBase o name X.env (eval o X.env)=eval o X.env) aD._auto_1)
  (hfew:((backTo cpos (starEach (e::es) X.env)).all (λx=>!x.1) && (backToKw cpos (keywordEach [] X.env)).all (λx=>x.1.isSome)
   && decide ((e::es).length+([]:qi Keyword).length+(if ([]:qi Keyword).isEmpty then 0 else 1)<30))=true:=by rfl)
  (hline:autoParam ((apos.endLine == cpos.line)=true) aD._auto_1) (hs:autoParam (starEach (e::es) X.env=(false,eval e X.env)::starEach es X.env) aD._auto_1) (hplain:autoParam ((backTo cpos (starEach es X.env)).any (·.1)=false) aD._auto_1):
  PE X (.Call (.Attribute o name apos) (e::es) [] cpos) (tBM X.K T r to t):=by refine .mk λa s σ H Q I h=>?_;refine wpAny_Call_method_late hbase hfew hline rfl (thn (ho a s σ H _ I h) λv n h'=>?_);let⟨x,k,b,c,y,m⟩:=h';let⟨f,i⟩:=yql b c y;exists T,id,pa,slot,hty,f,i,?_;have d:=ha cpos a n σ k _ b m;rw[hs]at d⊢;refine Calls.callWith_builtin (by show (false || (backTo cpos (starEach es X.env)).any (·.1))=false;rw[hplain]<;>rfl) (Calls.evalArgs_plain ?_);exact thn d λg p ⟨q,w,j,l,u⟩=>hm a p σ w x q v g Q j c l u
end
def MtM(X:Cx)(id:String)(r:V->qi V->Hp->VK->Prop):Prop :=
 ∀(pins:Θ)(s:qa)(σ:St)(H:Hp)(x:V)(xs:Υ)(v:qb)(us:Ο)(Q:VK),Inv X pins σ H s->xu x v->wz xs us->r x xs H Q ->
  wpAny (model X.prog X.w) X.A (call (.builtin id) (v::us)) (EP X pins σ Q) X.xe s
def wz.one{x:V}(h:wz [x] us):∃u,us=[u]/\xu x u:=by
 cases h with
 |cons r t=>cases t;exists _,rfl,r
theorem wz.zero:∀{us:Ο},wz [] us->us=[]
 |_,.nil=>rfl
theorem wz.reverse{xs:Υ}(h:wz xs us):wz xs.reverse us.reverse:=by
 induction h with
 |nil=>exact .nil
 |cons r t ih=>rw[List.reverse_cons,List.reverse_cons];exact wz.append ih (.cons r .nil)
theorem wz.rep{xs:Υ}(h:wz xs us):∀k:Nat,wz (List.replicate k xs).flatten (List.replicate k us).flatten
 |0=>.nil
 |k+1=>by
  rw[b7,b7,List.flatten_cons,List.flatten_cons];exact wz.append h (wz.rep h k)
theorem ybo(its:Ο):∀(k:Nat)(acc:Ο),
  List.foldl (λx1 x2=>x1++x2) acc.toArray (List.replicate k its.toArray)=(acc++(List.replicate k its).flatten).toArray
 |0,acc=>by simp
 |k+1,acc=>by
  have e:acc.toArray++its.toArray=(acc++its).toArray:=by simp
  have a:(acc++its)++(List.replicate k its).flatten=acc++(List.replicate (k+1) its).flatten:=by
   rw[b7,List.flatten_cons,bW]
  rw[<- a,<- ybo its k (acc++its),<- e,b7,List.foldl_cons]
section
variable{X:Cx}{pins:Θ}{σ:St}{H:Hp}{s:qa}{l b:z4}{xs ys zs:Υ}
def Inv.lset{its its':Ο}{n:Nat}{f:Array qb->Array qb}{t':Nat}(I:Inv X pins σ H s)(hH:H l=some (.lst xs))
  (e:s.heap.get? l=some { cls:=.type "list",data:=.seq its.toArray n}) (hf:f its.toArray=its'.toArray) (hv:wz ys its') (hz:ys.length<=sizeLine):
  Inv X pins σ (upd H l (.lst ys)) {s with heap:=s.heap.update l (Obj.mapSeq f),toks:=t'}:=by have q:=PySem.IsL.update e f;rw[hf]at q;refine I.write (x:=l) (e:=l) (by rw[hH];exact trivial) (.inl rfl) (λc u b a=>(Heap.get?_update_other s.heap (Obj.mapSeq f) (Ne.symm b)).trans a) ⟨_,q⟩ ?_;exists hz,its',_,hv,q
def Inv.lnew{its:Ο}{t':Nat}(I:Inv X pins σ H s)(hv:wz ys its)(hz:ys.length<=sizeLine):
  Inv X pins σ (upd H s.heap.objs.size (.lst ys)) {s with heap:=s.heap.push { cls:=.type "list",data:=.seq its.toArray},toks:=t'} :=
 I.laid (λZ Z q=>be _ q) (bf _) ⟨hz,its,0,hv,br _ rfl⟩
theorem Inv.fresh(I:Inv X pins σ H s):H s.heap.objs.size=none:=I.hok.fresh (bf _)
def Inv.lstM(I:Inv X pins σ H s)(hH:H l=some (.lst xs)):xs.length<=sizeLine/\∃(its:Ο)(n:Nat),wz xs its/\xs.length=its.length/\s.heap.get? l=some { cls:=.type "list",data:=.seq its.toArray n}:=by let⟨z,its,n,r,e⟩:=I.hok l _ hH;exists z,its,n,r,r.length,e
def yed{n:Nat}(h:n<=sizeLine):Builtin.List.listTooLong n=false:=by unfold Builtin.List.listTooLong;exact bo ()
end
section
variable{X:Cx}
def yj4:V->qi V->Hp->VK->Prop:=λx vs H Q=>∃l xs y,x=.ref l/\vs=[y]/\H l=some (.lst xs)/\xs.length<sizeLine/\Q .non (upd H l (.lst (xs++[y])))
def wk:MtM X "list.append" yj4:=by intro c s σ H x m v i Q I d f h;let⟨l,j,y,rfl,rfl,b,k,q⟩:=h;cases d;let⟨u,rfl,g⟩:=f.one;let⟨z,a,n,r,o,e⟩:=I.lstM b;refine call_meets F.slot_list_append ⟨_,e,rfl⟩ F.entry_list_append (F.args_list_append_2 _ _) (PySem.list_append l a.toArray n u (by rw[bC];omega)) ⟨e,?_⟩;exists .non,_,I.lset (its':=a++[u]) b e (by simp) (r.append (.cons g .nil)) ?_,rfl,q;rw[bd,bX];omega
def ysw:V->qi V->Hp->VK->Prop:=λx vs H Q=>∃l b xs zs,x=.ref l/\vs=[.ref b]/\H l=some (.lst xs)/\H b=some (.lst zs)/\xs.length+zs.length<=sizeLine/\Q .non (upd H l (.lst (xs++zs)))
def Í:MtM X "list.extend" ysw:=by
 intro i s σ H x C v G Q I m k h;let⟨l,b,A,E,rfl,rfl,g,p,J,q⟩:=h;cases m;let⟨u,rfl,y⟩:=k.one;cases y;let⟨z,c,n,r,D,e⟩:=I.lstM g;let⟨B,a,t,o,j,w⟩:=I.lstM p;have f:c.toArray.size+a.toArray.size<=sizeLine:=by rw[bC,bC];omega
 have d:¬(!c.toArray.isEmpty && Builtin.List.listTooLong (c.toArray.size+a.toArray.size))=true:=by
  rw[yed f,Bool.and_false];exact bA
 refine call_meets F.slot_list_extend ⟨_,e,rfl⟩ F.entry_list_extend (F.args_list_extend_2 _ _)
  (AutoSeq1.list_extend_list_list_0 l c.toArray n b a.toArray t d (by rw[bC];omega) ()) ⟨e,w,?_⟩
 exists .non,_,I.lset (its':=c++a) g e (by simp) (r.append o) ?_,rfl,q;rw[bd];omega
def yej:V->qi V->Hp->VK->Prop:=λx vs H Q=>∃l xs,x=.ref l/\vs=[]/\H l=some (.lst xs)/\Q .non (upd H l (.lst xs.reverse))
def œ:MtM X "list.reverse" yej:=by intro d s σ H x k v i Q I f g h;let⟨l,j,rfl,rfl,c,q⟩:=h;cases f;have b:=g.zero;subst b;let⟨z,a,n,r,m,e⟩:=I.lstM c;refine call_meets F.slot_list_reverse ⟨_,e,rfl⟩ F.entry_list_reverse (F.args_list_reverse_1 _) (AutoSeq1.list_reverse_list_0 l a.toArray n (by rw[bC];omega)) ⟨e,?_⟩;exists .non,_,I.lset (its':=a.reverse) c e (by simp) r.reverse ?_,rfl,q;rw[List.length_reverse];omega
def vip:R2:=λx y H Q=>∃l b xs zs,x=.ref l/\y=.ref b/\H l=some (.lst xs)/\H b=some (.lst zs)/\xs.length+zs.length<=sizeLine/\∀p,H p=none->Q (.ref p) (upd H p (.lst (xs++zs)))
def û:OpR X (binaryOp .Add) vip:=by
 intro d s σ H x y v u Q I f p h;let⟨l,b,t,D,rfl,rfl,i,k,C,q⟩:=h;cases f;cases p;let⟨z,c,n,r,A,e⟩:=I.lstM i;let⟨w,a,B,j,g,o⟩:=I.lstM k;refine PySem.P.add_list e o ?_ (by rw[bC,bC];omega);have m:c.toArray++a.toArray=(c++a).toArray:=by simp
 rw[m];exists .ref _,_,I.lnew (t':=s.toks) (r.append j) (by rw[bd];omega),rfl,q _ I.fresh
def vh3:R2:=λx y H Q=>∃l k xs,x=.ref l/\y=.int k/\H l=some (.lst xs)/\-(2^63)<=k/\k<2^63/\xs.length*k.toNat<=sizeLine/\
 ∀p,H p=none->Q (.ref p) (upd H p (.lst (List.replicate k.toNat xs).flatten))
def ytx{α:Type}(xs:qi α)(k:Nat):(List.replicate k xs).flatten.length=k*xs.length:=by
 induction k with
 |zero=>simp
 |succ k ih=>rw[b7,List.flatten_cons,bd,ih,Nat.succ_mul,Nat.add_comm]
def yz8:OpR X (binaryOp .Mult) vh3:=by
 intro w s σ H x y v u Q I D J h;let⟨l,k,L,rfl,rfl,A,E,B,p,q⟩:=h;cases D;let⟨t,rfl⟩:=J;let⟨z,b,n,r,K,e⟩:=I.lstM A;have f:b.toArray.size*k.toNat<=sizeLine:=by rw[bC,<- K];exact p
 have d:¬b.toArray.size*k.toNat > (2^63-1)/8:=by
  have:(sizeLine:Nat)<=(2^63-1)/8:=∅
  omega
 have g:¬(!Builtin.List.listFitsIndex k)=true:=by
  rw[fitsIndex_both E B];exact bA
 have c:¬Builtin.List.listTooLong (b.toArray.size*k.toNat)=true:=by
  rw[yed f];exact bA
 have i:List.foldl (λj o=>j++o) #[] (List.replicate (if b.toArray.isEmpty=true then 0 else k.toNat) b.toArray)=(List.replicate k.toNat b).flatten.toArray:=by
  have C:∀m:Nat,List.foldl (λj o=>j++o) #[] (List.replicate m b.toArray)=(List.replicate m b).flatten.toArray:=λm=>by
   have:=ybo b m [];rw[List.nil_append]at this;exact this
  rw[C]
  cases b with
  |nil=>simp
  |cons a r'=>rw[if_neg (by simp)]
 refine wpAny_binaryOp_repeat_ref (T:="list") (U:="int") ∅ ⟨_,e,rfl⟩ (λG=>typeIs_int G k t) noFill_list_mul F.fills_int_mul F.slot_int_rmul repeat_list F.slot_int_index.lookup
  (call_meets F.slot_int_rmul (typeIs_int s k t) F.entry_int_rmul (F.args_int_rmul_2 _ _) (int___rmul___int_list k t l b.toArray n)
   ⟨e,rfl,⟨_,e,rfl⟩,call_meets F.slot_list_mul ⟨_,e,rfl⟩ F.entry_list_mul (F.args_list_mul_2 _ _) (AutoListH.list___mul___list_int_3 l b.toArray n k t g d c) ⟨e,?_⟩⟩)
 rw[i];exists .ref _,_,I.lnew (t':=s.toks) (r.rep k.toNat) (by rw[ytx,Nat.mul_comm];exact p),rfl,q _ I.fresh
end
end L2
namespace Att
open PySem PySem.W PySem.Calls PyProof.Rows
def ċ{P:Params}{h:qf}:∀(ns:Ρ)(vs:Ο),WellAll P h vs (ns.map WData.int)->IntsAre vs ns:=by
 intro ns
 induction ns with
 |nil =>
  intro vs w;rw[List.map_nil]at w;cases w;exact .nil
 |cons n ns ih =>
  intro vs w;rw[bS]at w
  cases w with
  |cons a b =>
   cases a;exact .cons _ _ (ih _ b)
def yh3{l:OpenLaw}{n:Nat}(hn:l.most=some n){P:Params}{h:qf}{args:qi WData}{vals:Ο}
  (hpre:l.row.toRowW.claim.pre args=true) (hwl:WellAll P h vals args):
  ∃a vs ns,vals=[Value.ref a]/\args=[WData.list (ns.map WData.int)]/\h.get? a=some { cls:=.type "list",data:=.seq vs.toArray}/\IntsAre vs ns/\ns.length<=n:=by
 have f:WShape.hasAll [] args [.list .int]=true:=(pre_splitW hpre).1;have g:l.pre.holds [] { args:=args}=true:=(pre_splitW hpre).2;let⟨d,r,rfl,i,j⟩:=hasAllW_cons f;obtain rfl:=hasAllW_nil j;let⟨o,rfl,m⟩:=hasW_list i;let⟨ns,rfl⟩:=items_int m
 have b:ns.length<=n:=by
  unfold OpenLaw.pre at g
  have c:(WTm.not (.lt (.lit (.int (n:Int))) (.len (.arg 0)))).holds [] { args:=[.list (ns.map .int)]}=true:=by
   have c:=(holds_andW g).1;rw[hn]at c;exact c
  have e:=condW_of c (w_not (w_lt w_lit (w_len_list (w_arg rfl))));rw[ba]at e;refine Nat.le_of_not_lt λq=>?_;have k:(n:Int)<((ns.length:Nat):Int):=()
  first
   |(rw[bn k]at e;exact absurd e ∅)
   |(simp at e;omega)
 cases hwl with
 |cons w1 w2 =>
  cases w2
  cases w1 with
  |list ho hall=>exists _,_,ns,rfl,rfl,ho,ċ ns _ hall,b
def yh4(l:OpenLaw)(args:qi WData):l.row.toRowW.claim.post args (.bool true) args=true :=
 postW_of (r:=l.row.toRowW) (X:=(true == true))
  (show WShape.has [] (.bool true) .bool=true by first|rfl|decide|simp[WShape.has,WShape.arms,WShape.armsAll])
  (show (WTm.eq .res (.lit (.bool true))).value [] { args:=args,res:=some (.bool true),after:=args}=some (.bool (true == true))from w_eq_bool (w_res rfl) w_lit) rfl
def attach_call{l:OpenLaw}{n:Nat}{q:qh}{loose:Τ}{XP:(Ε)->qf->Prop}{YP:qd->qf->Prop}{d:DefRec}
  (hn:l.most=some n) (hdf:d.params.defaults=[])
  (call:∀(w:qd)(s₀ s₁:qa)(mg mb:Ε)(fa:z4)(o:Obj)(pm cd doc:qb)(a:z4)(vs:Ο)(ns:Ρ),
   Ground q loose [] XP w s₀ mg mb s₁.heap->YP w s₁.heap ->
   s₁.heap.get? fa=some o->o.data=.func (docDef d.name d.params d.body d.scope pm cd doc)->s₁.heap.CodeRec cd d.name->mg d.name=some (.ref fa) ->
   s₁.heap.get? a=some { cls:=.type "list",data:=.seq vs.toArray}->IntsAre vs ns->ns.length<=n->s₁.gens=#[] ->
   codeAny (model l.prog w) callerA (.call (.ref fa) ⟨[.ref a],[]⟩) (λr s'=>r=.ok (.ret (.bool true))/\OldK s₁.heap s'.heap/\s'.os=s₁.os/\AllBare s'.gens) s₁):
  WalkO q loose XP YP l.row.toRowW d [] (λf vs=>PySem.call f vs):=by
 intro w s₀ s₁ mg mb G Y fa o pm cd doc z kV B A i m h y t k H c p F j u;obtain rfl:z=.none:=Dflts.none m hdf;obtain rfl:kV=.none:=Dflts.noKw m;let⟨a,vs,ns,rfl,rfl,g,b,e⟩:=yh3 hn c j;refine enter_call (codeAny_mono (call w s₀ s₁ mg mb fa o pm cd doc a vs ns G Y B (fd_plain A) i h g b e y) λr s' D=>?_);let⟨rfl,C,E,x⟩:=D
 exists .inl ⟨.bool true,.bool true,[],rfl,λZ=>rfl,.bool true,yh4 l _,λZ=>⟨List.Pairwise.nil,λZ v=>(nomatch v)⟩⟩,C,E,x
section
variable{prog:qh}{w:qd}{A:qe}{E:Δ}{s:qa}{K:Frag}
noncomputable def vg2(h:qf)(L d:z4):Θ:=(List.range h.objs.size).filterMap λa=>if a=L\/a=d then none else (h.get? a).map λo=>(a,o)
end
end Att
namespace L2
open PySem PySem.Spec PyProof.Rows
variable{C a:z4}{fd:FuncData}{st:qc}{qual:Str}{T:String}
theorem yb1:∀{vs:Ο}{ns:Ρ},IntsAre vs ns->wz (ns.map V.int) vs
 |_,_,.nil=>.nil
 |_,_,.cons n t h=>.cons ⟨t,rfl⟩ (yb1 h)
def vgt(H:Hp):Prop:=∀b,H b=none\/∃o xs,H b=some (.frz o (.lst xs))
def ymj{P:qh}{w:qd}{K:z3}{mg mb:Ε}{CX:CXT}{k:Nat}{fa:z4}{x:Str}{sp:Sp}{s₁:qa}{vs:Ο}{ns:Ρ}
  (KX:K.In s₁.heap) (hns:s₁.heap.Ns mainGlobals mg) (hb:s₁.heap.Ns builtinsNs mb) (hbb:∀x:Str,x≠"__name__"->mb x=bootBuiltins x) (hlim:s₁.heap.NoLimit) (hg:s₁.gens=#[])
  (ha:s₁.heap.get? a=some { cls:=.type "list",data:=.seq vs.toArray}) (hi:IntsAre vs ns) (hl:ns.length<=sizeLine) (hr:jt k callerA)
  (F:∀base:qf,K.In base->base.Ns mainGlobals mg->vo P w K mg base CX k fa fd [x] sp) (hbind:∀(s:qa)(u:qb),BindsTo s fd ⟨[u],[]⟩ [(x,u)])
  (hsp:∀H:Hp,vgt H->SqL K H a (ns.map V.int)->sp [.ref a] H (λv W=>v=.bl true) λW W W=>False)
  (hCX:∀H e s',CX [] H s₁ (λW W W=>False) e s'->False):
  codeAny (model P w) callerA (.call (.ref fa) ⟨[.ref a],[]⟩) (λr s'=>r=.ok (.ret (.bool true))/\OldK s₁.heap s'.heap/\s'.os=s₁.os/\AllBare s'.gens) s₁:=by
 have I:=yb1 hi;have t:=hi.length;have g:∀H:Hp,vgt H->SqL K H a (ns.map V.int)->HOk P w H s₁.heap->(∀b,H b≠none->b=a)->(H a≠none->K.lookup a=none) ->
   codeAny (model P w) callerA (.call (.ref fa) ⟨[.ref a],[]⟩) (λr s'=>r=.ok (.ret (.bool true))/\OldK s₁.heap s'.heap/\s'.os=s₁.os/\AllBare s'.gens) s₁:=by
  intro H G O A J Y;have c:∀{b:z4}{o:Obj},s₁.heap.get? b=some o->H b=none->(yoh s₁.heap H).get? b=some o:=λe n=>yl1 e n
  have D:∀{b:z4}{o:Obj}{y:Array DictEntry}{B:Nat},s₁.heap.get? b=some o->o.data=.dict y B->H b=none:=λ{b o y B}e d=>by
   cases q:H b with
   |none=>rfl
   |some u =>
    have C:b=a:=J b (by rw[q];simp);subst C;rw[ha]at e;cases e;have U:Data.seq vs.toArray _=Data.dict y B:=d;cases U
  have f:∀{b:z4}{m:Ε},s₁.heap.Ns b m->(yoh s₁.heap H).Ns b m:=λ{b m} ⟨o,y,B,e,d,r⟩=>⟨o,y,B,c e (D e d),d,r⟩
  have p:K.In (yoh s₁.heap H):=λb o e=>c (KX b o e) (by
   cases q:H b with
   |none=>rfl
   |some u =>
    have C:b=a:=J b (by rw[q];simp);subst C;rw[Y (by rw[q];simp)]at e;cases e)
  have S:Mod K mg (yoh s₁.heap H):=⟨p,f hns,⟨mb,f hb,hbb⟩,let ⟨mc,h1,h2⟩:=hlim;⟨mc,f h1,h2⟩⟩;have R:yv0 P w K mg (yoh s₁.heap H) callerA [] s₁ H:=⟨rfl,S,λb o e=>ysp e,Nat.le_of_eq (yha _ _),trivial,λb hb=>absurd (show b∈([]:Χ)from hb) (by simp),A,.of_eq hg⟩;refine codeAny_mono ((F _ p (f hns)).run callerA [] s₁ H ⟨[.ref a],[]⟩ [.ref a] [.ref a] _ _ hr R (hbind s₁ (.ref a)) (.cons rfl .nil) (hsp H G O)) λr s' h=>?_
  cases r with
  |error e=>exact(hCX H e s' h).elim
  |ok fl =>
   cases fl with
   |next=>exact False.elim h
   |brk=>exact False.elim h
   |cont=>exact False.elim h
   |ret u =>
    let⟨v,H',os,i,L,l,T,q⟩:=h;have Q:v=.bl true:=q;subst Q;obtain rfl:u=Value.bool true:=T;exists rfl,OldK.of_keep λb o e=>?_,os,i
    cases q:H b with
    |none=>exact L.keep b o e q (by intro z;exact absurd (show b∈([]:Χ)from z) (by simp)) (by simp)
    |some u =>
     rcases G b with z|⟨N,Z,z⟩
     .rw[q]at z;cases z
     .have M:=L.frzs b N _ z;let⟨E,_⟩:=A b _ z;let⟨X,_⟩:=l b _ M;rw[e]at E;cases E;exact X
 cases hk:K.lookup a with
 |some o =>
  have e:=KX a o hk;rw[ha]at e;cases e;refine g (λW=>none) (λW=>.inl rfl) (.inr ⟨_,vs.toArray,_,hk,rfl,rfl,rfl,by rw[bC,t];exact hl,by simpa using I⟩) (λb u z=>by have j:(none:qj HO)=some u:=z;cases j) (λb z=>absurd rfl z) λz=>absurd rfl z
 |none =>
  refine g (λb=>if b=a then some (.frz { cls:=.type "list",data:=.seq vs.toArray} (.lst (ns.map V.int)))else none) (λb=>?_) (.inl (.inr ⟨{ cls:=.type "list",data:=.seq vs.toArray},if_pos rfl⟩)) (λb u z=>?_) (λb z=>?_) λW=>hk
  .by_cases hb:b=a
   .exact .inr ⟨_,_,if_pos hb⟩
   .exact .inl (if_neg hb)
  .by_cases hb:b=a
   .have j:=(if_pos hb).symm.trans z;cases j;subst hb;exists ha,by rw[ba];exact hl,vs,_,I,ha
   .have j:=(if_neg hb).symm.trans z;cases j
  .by_cases hb:b=a
   .exact hb
   .exact absurd (if_neg hb) z
def walk_of{l:W.OpenLaw}{n k:Nat}{q:qh}{loose:Τ}{XP:(Ε)->qf->Prop}{YP:qd->qf->Prop}{d:DefRec}{K:Params->z3}{CX:qd->CXT}{sp:qd->Sp}{x:Str}
  (hn:l.most=some n) (hn2:n<=sizeLine) (hdf:d.params.defaults=[]) (hr:jt k callerA)
  (hY:∀(w:qd)(h:qf),YP w h->(K w.params).In h)
  (F:∀(w:qd)(mg:Ε)(fa:z4)(h:qf),(K w.params).In h->h.Ns mainGlobals mg->mg d.name=some (.ref fa) ->
   ∃fd:FuncData,(∀(s:qa)(u:qb),BindsTo s fd ⟨[u],[]⟩ [(x,u)])/\
    ∀base:qf,(K w.params).In base->base.Ns mainGlobals mg->vo l.prog w (K w.params) mg base (CX w) k fa fd [x] (sp w))
  (hsp:∀(w:qd)(H:Hp)(a:z4)(ns:Ρ),ns.length<=n->vgt H->SqL (K w.params) H a (ns.map V.int)->sp w [.ref a] H (λv Z=>v=.bl true) λZ Z Z=>False)
  (hCX:∀(w:qd)(H:Hp)(s:qa)(e:qb)(s':qa),CX w [] H s (λZ Z Z=>False) e s'->False):
  W.WalkO q loose XP YP l.row.toRowW d [] (λf vs=>PySem.call f vs):=by refine Att.attach_call hn hdf λw s₀ s₁ mg D fa o I E A a vs ns G Y L J t m j i c C=>?_;have p:=hY w _ Y;let⟨fd,y,z⟩:=F w mg fa _ p G.T.g m;exact ymj p G.T.g G.T.b G.T.builtins G.T.nolimit C j i (bF c hn2) hr z y (λH B r=>hsp w H a ns c B r) λH e s'=>hCX w H s₁ e s'
noncomputable def yw(s:qc)(j:Nat):qc:=match s with
 | .ClassDef _ _ _ body _ _ _ _ _ _ _=>body.getD j (.Pass ⟨0,0,0,0⟩)
 |_=>.Pass ⟨0,0,0,0⟩
noncomputable def xn(s:qc):Arguments:=match s with
 | .FunctionDef _ a _ _ _ _ _ _ _ _=>a
 |_=>{ posonlyargs:=[],args:=[],vararg:=none,kwonlyargs:=[],kw_defaults:=[],kwarg:=none,defaults:=[]}
noncomputable def w6(s:qc):qi qc:=match s with
 | .FunctionDef _ _ b _ _ _ _ _ _ _=>b
 |_=>[]
noncomputable def yd(s:qc):Scope:=match s with
 | .FunctionDef _ _ _ _ _ _ sc _ _ _=>sc
 |_=>{ kind:=.function,names:=[],isGenerator:=false,isCoroutine:=false}
abbrev CX0:CXT:=λZ Z Z Z Z Z=>False
abbrev E0:XK:=λZ Z Z=>False
def vn{X:Cx}:ö CX0 X E0:=λZ Z Z Z Z Z Z h=>h.elim
structure Fun(K:z3)(x qual:Str)(st:qc)(f:z4)(fd:FuncData):Prop where
 ex:∃(oc:qb)(od:qj z4)(kV doc pm:qb)(an:qj z4)(cdv ct:qb)(osl:Array (qj qb)),
  fd=W.fnOf x qual (xn st) (w6 st) (yd st) .none kV doc pm an cdv ct/\K.lookup f=some ⟨oc,od,.func fd,osl⟩/\W.codeIn K cdv qual=true
 kp:W.keepIn K (.ref f)=true
section
variable{P:qh}{w:qd}{K:z3}{mg:Ε}{base:qf}
def Fun.ok{x:Str}{f:z4}{N ps:Τ}{k:Nat}{sp:Sp}(F:Fun K x qual st f fd)(S:yi N ps (yd st))(len:∀vs H Q E,sp vs H Q E->vs.length=ps.length)
  (hbody:∀(cdv:qb)(A:qe)(outer:qi Env)(s:qa)(H:Hp)(vs:Υ)(Q:VK)(E:XK),jt k (A.deeper (envOfC qual (yd st) s.heap.objs.size f cdv))->sp vs H Q E ->
   ∃t,PSs (vt CX0 P w K mg base N qual (yd st) f cdv A outer s H E).nox (w6 st) t/\t { nx:=λZ H'=>Q .non H',rt:=Q} (ð N vs) H):vo P w K mg base CX0 (k+1) f fd ps sp:=by let⟨j,m,kV,c,n,i,cdv,l,d,rfl,g,a⟩:=F.ex;refine yn6 g a S len λA outer s H vs Q E e b=>?_;let⟨t,h,q⟩:=hbody cdv A outer s H vs Q E e b;exact⟨t,h.nox,q⟩
def Fun.binds{x:Str}{f:z4}{ps:Τ}(F:Fun K x qual st f fd)
  (h:∀(kV doc pm:qb)(an:qj z4)(cdv ct:qb)(us:Ο),us.length=ps.length->bindArgs (W.fnOf x qual (xn st) (w6 st) (yd st) .none kV doc pm an cdv ct) ⟨us,[]⟩=pure (ps.zip us)):ul K fd ps []:=by let⟨c,d,kV,doc,pm,an,cdv,ct,b,rfl,e,a⟩:=F.ex;exact .all (h kV doc pm an cdv ct)
def yoy{x:Str}{f:z4}{oc:qb}{od an:qj z4}{osl:Array (qj qb)}{kV doc pm cdv ct:qb}(l:K.lookup f=some ⟨oc,od,.func (W.fnOf x qual (xn st) (w6 st) (yd st) .none kV doc pm an cdv ct),osl⟩)
  (c:W.codeIn K cdv qual=true) (k:W.keepIn K (.ref f)=true):Fun K x qual st f (W.fnOf x qual (xn st) (w6 st) (yd st) .none kV doc pm an cdv ct):=⟨⟨oc,od,kV,doc,pm,an,cdv,ct,osl,rfl,l,c⟩,k⟩
end
def É{A:qe}{k:Nat}(hr:jt k A):A.units+1<cLine:=Nat.lt_of_le_of_lt (Nat.add_le_add_left (by decide:1<=64) _) hr.units
section
variable{X:Cx}
def pv(i:Nat){x:Str}{pos:Pos}(hN:autoParam (X.N[i]?=some x) aD._auto_1)(hv:autoParam (Vis X.env.scope x) aF._auto_1)(hd:autoParam ((x == ("__debug__":Str))=false) aB._auto_1)
  (hcd:autoParam ((x == ("__classdict__":Str))=false) aB._auto_1):PE X (.Name x pos) (vgo i):=yx1 hN hv hd hcd
end
def jc{A B:Prop}(h:B):if false=true then A else B:=by rw[if_neg bA];exact h
def ν{A B:Prop}(h:A):if true=true then A else B:=by rw[if_pos rfl];exact h
def yr(H H':Hp):Prop:=∀b o,H b=some o->H' b=some o
def yr.refl(H:Hp):yr H H:=λZ Z h=>h
def yr.trans{H H1 H2:Hp}(a:yr H H1)(b:yr H1 H2):yr H H2:=λc o h=>b c o (a c o h)
def yr.free{H H':Hp}(e:yr H H'){l:z4}(h:H' l=Option.none):H l=Option.none:=by
 cases q:H l with
 |none=>rfl
 |some o =>
  rw[e l o q]at h;cases h
def yr.seq{K:z3}{H H':Hp}{xs:Υ}(e:yr H H')(h:SqL K H a xs):SqL K H' a xs:=by
 rcases h with(h|⟨o,h⟩)|h
 .exact .inl (.inl (e _ _ h))
 .exact .inl (.inr ⟨o,e _ _ h⟩)
 .exact .inr h
section
variable{X:Cx}
def wn:jy X (.builtin "isinstance") (λxs H Q=>∃x cv t c k,xs=[x,cv]/\xu cv c/\(∀u,xu cv u->u=c)/\uh X.K H x t/\W.kitOne X.K t c=some k/\Q (.bl k) H):=by intro a s σ H xs l Q I r h;let⟨x,cv,t,c,k,rfl,_,i,j,e,q⟩:=h;let⟨u,f,rfl,b,g⟩:=yvr r;obtain rfl:=i f g;exact yhr I b j e λd=>⟨.bl k,H,I.tok d,rfl,q⟩
def jj{x:Str}{pos:Pos}(hg:Gl X x)(hm:X.mg x=none)(hv:bootBuiltins x=some (.type T))(hn:autoParam (x≠"__name__") aB._auto_1)(hd:autoParam ((x == ("__debug__":Str))=false) aB._auto_1):PE X (.Name x pos) (tC (.ty T)):=ys4 hg hm hv rfl hn hd
def vz{x:Str}{i:Int}{t:Tok}{pos:Pos}(hg:Gl X x)(hm:X.mg x=some (.int i t))(hd:autoParam ((x == ("__debug__":Str))=false) aB._auto_1):PE X (.Name x pos) (tC (.int i)):=ydi hg hm ⟨t,rfl⟩ hd
def yal{x:Str}{pos:Pos}(hg:Gl X x)(hm:X.mg x=some (.ref C))(hd:autoParam ((x == ("__debug__":Str))=false) aB._auto_1):PE X (.Name x pos) (tC (.ref C)):=ydi hg hm rfl hd
mutual
inductive RdV(K:z3)(H:Hp):V->PyData->Prop
 |non:RdV K H .non .none
 |bl (b:_):RdV K H (.bl b) (.bool b)
 |int (i:_):RdV K H (.int i) (.int i)
 |str (x:_):RdV K H (.str x) (.str x)
 |lst {a xs ds:_}:SqL K H a xs->yrz K H xs ds->RdV K H (.ref a) (.list ds)
 |tup {a xs ds:_}:SqT K H a xs->yrz K H xs ds->RdV K H (.ref a) (.tuple ds)
inductive yrz(K:z3)(H:Hp):qi V->qi PyData->Prop
 |nil:yrz K H [] []
 |cons {x xs d ds:_}:RdV K H x d->yrz K H xs ds->yrz K H (x::xs) (d::ds)
end
def RdV.reads{pins:Θ}{σ:St}{H:Hp}{s:qa}(I:Inv X pins σ H s){x:V}{d:PyData}{u:qb}(h:RdV X.K H x d):xu x u->∃as,Reads s.heap u d as:=by
 refine RdV.rec (motive_1:=λx d Z=>∀u,xu x u->∃as,Reads s.heap u d as) (motive_2:=λe g Z=>∀f,wz e f->∃as,ReadsAll s.heap f g as) ?_ ?_ ?_ ?_ ?_ ?_ ?_ ?_ h u
 .intro u r;cases r;exists _,.none
 .intro b u r;cases r;exists _,.bool _
 .intro i u r;let⟨t,rfl⟩:=r;exists _,.int _ _
 .intro i u r;let⟨t,rfl⟩:=r;exists _,.str _ _
 .intro a e g v w m u r;cases r;let⟨k,q,⟨o,n,j,l,D,p⟩,A⟩:=I.list v;let⟨as,c⟩:=m _ q;exists _,.list j l p (by simpa using c)
 .intro a e g v w m u r;cases r;let⟨k,q,⟨o,j,l,n,p⟩,A⟩:=I.tuple v;let⟨as,c⟩:=m _ q;exists _,.tuple j l p (by simpa using c)
 .intro f r;cases r;exists _,.nil
 .intro x e d g h w y z f r
  cases r with
  |cons r rs =>
   let⟨as,c⟩:=y _ r;let⟨C,B⟩:=z _ rs;exists _,.cons c B
def vgy(K:z3)(g:Bool->Bool):R2:=λx y H Q=>∃d e,RdV K H x d/\RdV K H y e/\SeqAt.shaped d=true/\SeqAt.shaped e=true/\Q (.bl (g (PyData.eqv d e))) H
def yk1(hu:X.A.units+64<cLine):OpR X (compareOp .NotEq) (vgy X.K λb=>!b):=by intro a s σ H x y v u Q I c l h;let⟨d,e,f,g,j,k,q⟩:=h;let⟨o,i⟩:=f.reads I c;let⟨n,m⟩:=g.reads I l;exact ne_dataH i m j k hu ⟨.bl _,H,I,rfl,q⟩
theorem Ĥ{K:z3}{H:Hp}:∀ns:Ρ,yrz K H (ns.map V.int) (ns.map PyData.int)
 |[]=>.nil
 |n::r=>.cons (.int n) (Ĥ r)
theorem ē:∀ns:Ρ,PyData.canLayAll0 (ns.map PyData.int)=true
 |[]=>rfl
 |_::r=>by simp[PyData.canLayAll0,PyData.canLay0,ē r]
theorem ň:∀ns:Ρ,PyData.depthAll (ns.map PyData.int)=0
 |[]=>rfl
 |_::r=>by simp[PyData.depthAll,PyData.depth,ň r]
def Ŕ(ns:Ρ):SeqAt.shaped (.list (ns.map PyData.int))=true:=by simp[SeqAt.shaped,PyData.canLay0,PyData.depth,ē,ň]
theorem Ĕ:∀ns ms:Ρ,PyData.eqvAll (ns.map PyData.int) (ms.map PyData.int)=decide (ns=ms)
 |[],[]=>by simp[PyData.eqvAll]
 |[],_::_=>by simp[PyData.eqvAll]
 |_::_,[]=>by simp[PyData.eqvAll]
 |a::r,b::t=>by
  simp only[bS,PyData.eqvAll,PyData.eqv,Ĕ r t];by_cases h:a=b<;>by_cases h':r=t<;>simp[h,h']
def ve8{K:z3}{g:Bool->Bool}{H:Hp}{Q:VK}{b:z4}(ns ms:Ρ)(ha:SqL K H a (ns.map V.int))(hb:SqL K H b (ms.map V.int))(h:Q (.bl (g (decide (ns=ms)))) H):vgy K g (.ref a) (.ref b) H Q :=
 ⟨_,_,.lst ha (Ĥ ns),.lst hb (Ĥ ms),Ŕ ns,Ŕ ms,by rw[PyData.eqv,Ĕ];exact h⟩
def vgf(_ j:Int):Prop:=0<j/\j<2^200
def vq:OpR X (binaryOp .FloorDiv) (rI vgf λi j=>.int (i/j)):=opI λi j Z Z Z Z Z b q=>by
 let⟨c,d⟩:=b;refine floordiv_int () ?_ (.inl (PyProof.noPylong_of_log2 ?_))
 .rw[Int.fdiv_eq_ediv_of_nonneg _ ()];exact q
 .have e:j.natAbs<2^200:=()
  have a:j.natAbs≠0:=()
  have:=(Nat.log2_lt a).mpr e;omega
def vhh(t:TS):TS:=λD σ H=>∃M:Ζ,t {D with nx:=M} σ H/\∀σ' H',M σ' H'->D.nx σ' H'
def Ĭ{t:TS}(h:PS X st t):PS X st (vhh t):=by
 refine .mk λa s σ H D I h'=>?_;let⟨M,c,d⟩:=h';refine thn (h a s σ H {D with nx:=M} I c) λf g q=>?_
 cases f with
 |next =>
  let⟨σ',b,e,q⟩:=q;exists σ',b,e,d σ' b q
 |ret v=>exact q
 |brk=>exact q
 |cont=>exact q
end
def wt(nx:Ζ)(σ:St)(H:Hp):Prop:=nx σ H
section
variable{K:z3}{σ:St}{H:Hp}{Q:VK}{QB:Bool->Hp->Prop}{QL:qi V->Hp->Prop}{v x y:V}{i j:Int}{b:Bool}{ta tb tc te:TE}{t u:TS}{tA tB':TT}{tr:TA}{D:Ĳ}
 {nx bk ct:Ζ} {rt:VK} {A B:Prop}
def yj{N:Τ}{vs:Υ}{σ':St}(e:ð N vs=σ')(h:t D σ' H):t D (ð N vs) H:=by rw[e];exact h
def yvo{k:Nat}(e:σ[k]?=some (some v))(h:Q v H):vgo k σ H Q:=⟨v,e,h⟩
def i_c(h:Q v H):tC v σ H Q:=h
def vih{r:R2}(h:ta σ H λx H1=>tb σ H1 λy H2=>r x y H2 Q):tOp r ta tb σ H Q:=h
def vij{r:V->Hp->VK->Prop}(h:ta σ H λx H1=>r x H1 Q):tUn r ta σ H Q:=h
def vil{g:Int->Int->V}(h:Q (g i j) H):rI0 g (.int i) (.int j) H Q:=⟨i,j,rfl,rfl,h⟩
def i_I{C:Int->Int->Prop}{g:Int->Int->V}(hc:C i j)(h:Q (g i j) H):rI C g (.int i) (.int j) H Q:=⟨i,j,rfl,rfl,hc,h⟩
def i_U{g:Int->V}(h:Q (g i) H):rU g (.int i) H Q:=⟨i,rfl,h⟩
def vff(h:Q (.bl (decide (i=j))) H):rEq (.int i) (.int j) H Q:=⟨rfl,by
 have e:decide (V.int i=V.int j)=decide (i=j):=by simp
 rw[e];exact h⟩
def yws(h:ta σ H λx H'=>∃k,x=.bl k/\QB k H'):yvn ta σ H QB:=h
def vh4(h:ta σ H λx H'=>∃k,x=.bl k/\QB k H'):tB ta σ H QB:=h
def vim{P:Bool->Prop}(h:P b):∃k,V.bl b=V.bl k/\P k:=⟨b,rfl,h⟩
def yue{r r':R2}(h:ta σ H λx H1=>tb σ H1 λy H2=>r x y H2 λz H3=>∃k,z=.bl k/\(if k=true then tc σ H3 λw' H4=>r' y w' H4 Q else Q (.bl false) H3)):yk3 r r' ta tb tc σ H Q:=h
def van(h:ta σ H λx H1=>∃c,x=.bl c/\if c=true then tb σ H1 Q else Q (.bl false) H1):vcv ta tb σ H Q:=h
def vam(h:ta σ H λx H1=>∃c,x=.bl c/\Q (.bl (!c)) H1):vcz ta σ H Q:=h
def vfj{t1 t2:TT}(h:t1 σ H λc H1=>if c=true then t2 σ H1 QB else QB false H1):vhi t1 t2 σ H QB:=h
def vh5{t1 t2:TT}(h:t1 σ H λc H1=>if c=true then QB true H1 else t2 σ H1 QB):tOr t1 t2 σ H QB:=h
def vf5{t1:TT}(h:t1 σ H λc H1=>QB (!c) H1):vhk t1 σ H QB:=h
def vfk(h:tA σ H λc H1=>if c=true then ta σ H1 Q else tb σ H1 Q):tIf tA ta tb σ H Q:=h
structure Nx(u nx:Ζ):Prop where
 go:∀σ H,u σ H->nx σ H
def yok(h:∀nx bk ct:Ζ,Nx (u D) nx->Nx D.bk bk->Nx D.ct ct->t ⟨nx,D.rt,bk,ct⟩ σ H):vgn t u D σ H:=h (u D) D.bk D.ct ⟨λZ Z z=>z⟩ ⟨λZ Z z=>z⟩ ⟨λZ Z z=>z⟩
def ylg{u nx:Ζ}(h:Nx u nx)(q:u σ H):nx σ H:=h.go _ _ q
def va5(h:nx σ H):vdj ⟨nx,rt,bk,ct⟩ σ H:=h
def vfc(h:te σ H rt):vg8 te ⟨nx,rt,bk,ct⟩ σ H:=h
def va7(h:te σ H λZ H1=>nx σ H1):vcg te ⟨nx,rt,bk,ct⟩ σ H:=h
def via(h:tA σ H λc H1=>if c=true then t D σ H1 else u D σ H1):vgq tA t u D σ H:=h
def yob(M:Ζ)(h1:t ⟨M,rt,bk,ct⟩ σ H)(h2:∀σ' H',M σ' H'->nx σ' H'):vhh t ⟨nx,rt,bk,ct⟩ σ H:=⟨M,h1,h2⟩
def vgk{g:TG}(h:te σ H λx H1=>g x σ H1 nx):vev te g ⟨nx,rt,bk,ct⟩ σ H:=h
def yzv{sp:Sp}{dvs:Υ}{E:XK}(h:tr σ H λvs H1=>sp (vs++dvs) H1 Q E):yvk sp dvs E tr σ H Q:=h
def yxr(h:ta σ H λx H1=>tr σ H1 λxs H2=>QL (x::xs) H2):yoa ta tr σ H QL:=h
def vfb(h:QL [] H):ylf σ H QL:=h
def vie{r:qi V->Hp->VK->Prop}(h:tr σ H λvs H1=>r vs H1 Q):tCB r tr σ H Q:=h
def vgb(h:tr σ H λxs H1=>xs.length<=sizeLine/\∀p,H1 p=none->Q (.ref p) (upd H1 p (.tup xs))):vg7 tr σ H Q:=h
def vge(h:tr σ H λxs H1=>xs.length<=sizeLine/\∀p,H1 p=none->Q (.ref p) (upd H1 p (.lst xs))):vhp tr σ H Q:=h
def ĭ{m:Str}{sp:Sp}{dvs:Υ}{E:XK}(h:ta σ H λx H1=>∃a dx fs,x=.ref a/\H1 a=some (.ins C dx fs)/\fs.lookup m=none/\tr σ H1 λvs H2=>sp (x::(vs++dvs)) H2 Q E):Ŀ C m sp dvs E ta tr σ H Q:=h
def vgi{f:Str}(h:ta σ H λx H1=>∃a C dx fs v,x=.ref a/\H1 a=some (.ins C dx fs)/\Cls K C/\NoAttr K C f/\fs.lookup f=some v/\Q v H1):vgv K ta f σ H Q:=h
def vai{f:Str}(h:tb σ H λy H1=>ta σ H1 λx H2=>∃a C dx fs,x=.ref a/\H2 a=some (.ins C dx fs)/\Cls K C/\NoAttr K C f/\fs.length<1000/\wt nx σ (upd H2 a (.ins C dx (μ f y fs)))):vho K ta tb f ⟨nx,rt,bk,ct⟩ σ H:=h
def vid{r:V->qj Int->qj Int->Hp->VK->Prop}{tl th:TO}(h:te σ H λx H1=>tl σ H1 λl H2=>th σ H2 λu H3=>r x l u H3 Q):tSl r te tl th σ H Q:=h
def ylz{QO:qj Int->Hp->Prop}(h:QO none H):yjl σ H QO:=h
def yyw{QO:qj Int->Hp->Prop}(h:ta σ H λx H1=>∃i,x=.int i/\QO (some i) H1):vds ta σ H QO:=h
def vf8{P:Int->Prop}(h:P i):∃k,V.int i=V.int k/\P k:=⟨i,rfl,h⟩
def vat(h:A):V.non=V.non/\A:=⟨rfl,h⟩
def g0{a0:Ψ}{r:St}{N:Ζ}(h:N (some v::r) H):xo 0 v (a0::r) H N:=h
def g1{a0 a1:Ψ}{r:St}{N:Ζ}(h:N (a0::some v::r) H):xo 1 v (a0::a1::r) H N:=h
def g2{a0 a1 a2:Ψ}{r:St}{N:Ζ}(h:N (a0::a1::some v::r) H):xo 2 v (a0::a1::a2::r) H N:=h
def g3{a0 a1 a2 a3:Ψ}{r:St}{N:Ζ}(h:N (a0::a1::a2::some v::r) H):xo 3 v (a0::a1::a2::a3::r) H N:=h
def g4{a0 a1 a2 a3 a4:Ψ}{r:St}{N:Ζ}(h:N (a0::a1::a2::a3::some v::r) H):xo 4 v (a0::a1::a2::a3::a4::r) H N:=h
def g5{a0 a1 a2 a3 a4 a5:Ψ}{r:St}{N:Ζ}(h:N (a0::a1::a2::a3::a4::some v::r) H):xo 5 v (a0::a1::a2::a3::a4::a5::r) H N:=h
def g6{a0 a1 a2 a3 a4 a5 a6:Ψ}{r:St}{N:Ζ}(h:N (a0::a1::a2::a3::a4::a5::some v::r) H):xo 6 v (a0::a1::a2::a3::a4::a5::a6::r) H N:=h
def g7{a0 a1 a2 a3 a4 a5 a6 a7:Ψ}{r:St}{N:Ζ}(h:N (a0::a1::a2::a3::a4::a5::a6::some v::r) H):xo 7 v (a0::a1::a2::a3::a4::a5::a6::a7::r) H N:=h
def g8{a0 a1 a2 a3 a4 a5 a6 a7 a8:Ψ}{r:St}{N:Ζ}(h:N (a0::a1::a2::a3::a4::a5::a6::a7::some v::r) H):xo 8 v (a0::a1::a2::a3::a4::a5::a6::a7::a8::r) H N:=h
def ü{n:Nat}{tg:TGs}{xs:Υ}{N:Ζ}(hq:SqT K H a xs)(hl:xs.length=n)(h:tg xs σ H N):yvx K n tg (.ref a) σ H N:=⟨a,xs,rfl,hq,hl,h⟩
def yth{tg:TG}{us:TGs}{r:Υ}{N:Ζ}(h:tg v σ H λσ' H'=>us r σ' H' N):zq tg us (v::r) σ H N:=⟨v,r,rfl,h⟩
def ywg{N:Ζ}(h:N σ H):yle [] σ H N:=⟨rfl,h⟩
def zn{p:Prop}[Decidable p](h1:p->A)(h2:¬p->B):if decide p=true then A else B:=by
 by_cases h:p
 .rw[if_pos (bn h)];exact h1 h
 .rw[if_neg (by simp[h])];exact h2 h
def yav{p:Prop}[Decidable p](hp:p)(h:A):if decide p=true then A else B:=by rw[if_pos (bn hp)];exact h
def ydu{p:Prop}[Decidable p](hp:¬p)(h:B):if decide p=true then A else B:=by rw[if_neg (by simp[hp])];exact h
def yvq{p:Prop}[Decidable p](hp:p)(h:B):if (!decide p)=true then A else B:=by rw[if_neg (by simp[hp])];exact h
def yvh{p:Prop}[Decidable p](hp:¬p)(h:A):if (!decide p)=true then A else B:=by rw[if_pos (by simp[hp])];exact h
def yr1{p:Prop}[Decidable p](h1:p->B)(h2:¬p->A):if (!decide p)=true then A else B:=by
 by_cases h:p
 .exact yvq h (h1 h)
 .exact yvh h (h2 h)
def ve6(h:B):if (!true)=true then A else B:=jc h
def vf0(h:A):if (!false)=true then A else B:=ν h
def vfm{α:Type}{z:α}[Decidable (z=z)](h:A):if decide (z=z)=true then A else B:=yav rfl h
def ue{f:Str}{r:Ι}:List.lookup f ((f,v)::r)=some v:=by simp[List.lookup]
def wl{f g:Str}{r:Ι}{o:Ψ}(h:¬f=g)(e:List.lookup f r=o):List.lookup f ((g,v)::r)=o:=by
 have a:(f == g)=false:=by simp[h]
 simp[List.lookup,a,e]
def ο{f:Str}:List.lookup f ([]:Ι)=none:=rfl
def jz{f:Str}{r:Ι}:μ f v ((f,x)::r)=(f,v)::r:=by simp[μ]
def wa{f g:Str}{r r':Ι}(h:¬g=f)(e:μ f v r=r'):μ f v ((g,x)::r)=(g,x)::r':=by simp[μ,h,e]
def ww{f:Str}:μ f v []=[(f,v)]:=rfl
def zi{c:z4}{o o':HO}(hn:H a=none)(h:H c=some o):upd H a o' c=some o:=by rw[ym (yb h hn)];exact h
def ye{c:z4}{o o':HO}(hn:c≠a)(h:H c=some o):upd H a o' c=some o:=by rw[ym hn];exact h
def yz{o:HO}(hn:H a=none):yr H (upd H a o):=λZ Z h=>zi hn h
def yr.tup{H':Hp}{xs:Υ}(e:yr H H')(h:SqT K H a xs):SqT K H' a xs:=by
 rcases h with(h|⟨o,h⟩)|h
 .exact .inl (.inl (e _ _ h))
 .exact .inl (.inr ⟨o,e _ _ h⟩)
 .exact .inr h
def ycb{tb:TS}{W:Nat->St->Hp->Prop}{m:Nat}(h:tb ⟨λσ' H'=>∃m',m'<m/\W m' σ' H',rt,nx,λσ' H'=>∃m',m'<m/\W m' σ' H'⟩ σ H):
  ∃N:Ζ,(∀σ' H',N σ' H'->∃m',m'<m/\W m' σ' H')/\tb ⟨N,rt,nx,N⟩ σ H:=⟨_,λZ Z q=>q,h⟩
def yzg{sp:Sp}{dvs:Υ}{E:XK}(h:tr σ H λvs H1=>∀x dx,H1 x=none->H1 dx=none->dx≠x->sp (.ref x::(vs++dvs)) (upd (upd H1 dx (.own x)) x (.ins C dx [])) (λv H2=>v=.non/\Q (.ref x) H2) E):yvp C sp dvs E tr σ H Q:=h
def vir{r:V->qi V->Hp->VK->Prop}(h:ta σ H λx H1=>tyV K T x H1/\tr σ H1 λxs H2=>r x xs H2 Q):tBM K T r ta tr σ H Q:=h
def ve9{r:V->qi V->Hp->VK->Prop}(h:ta σ H λx H1=>tyV K T x H1/\r x [] H1 Q):vhq K T r ta σ H Q:=h
def u8{p:z4}{xs:Υ}(h:H p=some (.lst xs))(k:A):tyV K "list" (.ref p) H/\A:=⟨.inl ⟨rfl,_,SqL.of h⟩,k⟩
def w9{l:z4}{xs:Υ}(h:H l=some (.lst xs))(hz:xs.length<sizeLine)(k:Q .non (upd H l (.lst (xs++[y])))):yj4 (.ref l) [y] H Q:=⟨l,xs,y,rfl,rfl,h,hz,k⟩
def ybh{l:z4}{xs:Υ}(h:H l=some (.lst xs))(k:Q .non (upd H l (.lst xs.reverse))):yej (.ref l) [] H Q:=⟨l,xs,rfl,rfl,h,k⟩
def u5{p:z4}{ys:Υ}{P:qi V->Prop}(h:SqL K H p ys)(k:P ys):∃p' ys',[V.ref p]=[V.ref p']/\(SqL K H p' ys'\/SqT K H p' ys')/\P ys':=⟨p,ys,rfl,.inl h,k⟩
def yqb{p:z4}{ys:Υ}{P:qi V->Prop}(h:SqT K H p ys)(k:P ys):∃p' ys',[V.ref p]=[V.ref p']/\(SqL K H p' ys'\/SqT K H p' ys')/\P ys':=⟨p,ys,rfl,.inr h,k⟩
def Õ{p:z4}{ys:Υ}{P:qi V->Prop}(h:SqL K H p ys)(k:P ys):∃p' ys',[V.ref p]=[V.ref p']/\(SqL K H p' ys'\/SqT K H p' ys')/\P ys':=⟨p,ys,rfl,.inl h,k⟩
def zr{p:z4}{xs:Υ}(h:SqL K H p xs)(e:atI xs i=some v)(k:Q v H):ve3 K (.ref p) (.int i) H Q:=⟨p,xs,i,v,rfl,rfl,h,e,k⟩
def Ł{p:z4}{xs:Υ}(h:SqT K H p xs)(e:atI xs i=some v)(k:Q v H):vgz K (.ref p) (.int i) H Q:=⟨p,xs,i,v,rfl,rfl,h,e,k⟩
def ŀ{p:z4}{xs:Υ}{lo hi:qj Int}(h:SqL K H p xs)(k:∀q,H q=none->Q (.ref q) (upd H q (.lst (ya0 xs lo hi)))):vg6 K (.ref p) lo hi H Q:=⟨p,xs,rfl,h,k⟩
def ι{xs:Υ}(n:Nat):ya0 xs none (some (n:Int))=xs.take n:=by
 unfold ya0;rw[HT.sIx_none,HT.sIx_nat,List.drop_zero,Nat.sub_zero];rcases Nat.le_total n xs.length with h|h
 .rw[Nat.min_eq_left h]
 .rw[Nat.min_eq_right h,bZ (bf _),bZ h]
def ve7{wi:TI}{g:TG}{tb:TS}(h:wi σ H λJ H1=>∃W:Nat->Nat->St->Hp->Prop,(∃m,W 0 m σ H1)/\∀i m σ H,W i m σ H ->
  (J.stop i H/\D.nx σ H)\/(J.go i H/\∃N:Ζ,(∀σ' H',N σ' H'->∃m',m'<m/\W (i+1) m' σ' H')/\∀x H',J.yld i H x H'->g x σ H' λσ2 H2=>tb {D with nx:=N,ct:=N,bk:=D.nx} σ2 H2)):vg5 wi g tb D σ H:=h
def yu6{R:It->Hp->Prop}(h:ta σ H λx H1=>∃a,x=.ref a/\(∃xs,SqL K H1 a xs)/\R (Itl K a) H1):vcs K ta σ H R:=h
def yzb{R:It->Hp->Prop}(h:ta σ H λx H1=>∃a,x=.ref a/\(∃xs,SqT K H1 a xs)/\R (Itt K a) H1):vhc K ta σ H R:=h
def yuk{R:It->Hp->Prop}(h:tr σ H λvs H1=>∃j:Int,vs=[.int j]/\-(2^62)<=j/\j<2^62/\R (Itr 0 j.toNat) H1):vck tr σ H R:=h
def à{n m:String}{k:Bool}{P:Bool->Prop}(ty:uh K H x (.type n))(e:W.kitOne K (.type n) (.type m)=some k)(h:P k):
  ∃x' cv t c k',[x,V.ty m]=[x',cv]/\xu cv c/\(∀u,xu cv u->u=c)/\uh K H x' t/\W.kitOne K t c=some k'/\P k':=⟨x,.ty m,.type n,.type m,k,rfl,rfl,λZ r=>r,ty,e,h⟩
def ysc(h:nx σ H):wt nx σ H:=h
end
noncomputable def yot:V->Bool
 | .int _=>true
 | .bl _=>true
 |_=>false
noncomputable def yi2:V->Bool
 | .bl _=>true
 |_=>false
noncomputable def ξ:V->Bool
 | .int _=>true
 |_=>false
def yeb(K:z3)(n:String):W.kitOne K (.type n) (.type n)=some true:=by unfold W.kitOne;rw[if_pos (by simp)]
def yr8{K:z3}{H:Hp}{x:V}{n:String}(ty:uh K H x (.type n)):W.kitOne K (.type n) (.type "int")=some (yot x):=by cases ty<;>rfl
def yms{K:z3}{H:Hp}{x:V}{n:String}(ty:uh K H x (.type n)):W.kitOne K (.type n) (.type "bool")=some (yi2 x):=by cases ty<;>rfl
end L2
namespace SpanMath
def Ch(c:Int):Prop:=32768<=c/\c<=16744448
noncomputable def ren(l w s:Int):Int×Int×Int :=
 if w<4294967296 then (if w*256<4294967296 then (l*65536,w*65536,s+2)else (l*256,w*256,s+1))else (l,w,s)
noncomputable def cut(w c:Int):Int:=w*c/16777216
def nar(x:Int×Int×Int)(c b:Int):Int×Int×Int :=
 if b=1 then ren x.1 (cut x.2.1 c) x.2.2 else ren (x.1+cut x.2.1 c) (x.2.1-cut x.2.1 c) x.2.2
noncomputable def s0:Int×Int×Int:=(0,1099511627776,5)
def ymd{l w s:Int}(h:w<4294967296)(h2:8388608<=w):ren (l*256) (w*256) (s+1)=ren l w s:=by
 unfold ren;rw[if_pos h];by_cases h3:w*256<4294967296
 .rw[if_pos h3,if_pos h3,if_neg ()];refine Prod.ext ?_ (Prod.ext ?_ ?_)
  .show l*256*256=l*65536;omega
  .show w*256*256=w*65536;omega
  .show s+1+1=s+2;omega
 .rw[if_neg h3,if_neg h3]
def ys2{l w s:Int}(h:¬w<4294967296):ren l w s=(l,w,s):=by unfold ren;rw[if_neg h]
def ycc{w c:Int}(hw:4294967296<=w)(hw2:w<=1099511627776)(hc:Ch c):8388608<=cut w c/\8388608<=w-cut w c/\cut w c<1099511627776:=by let⟨a,d⟩:=hc;have e:w*32768<=w*c:=ck a ();have b:w*c<=w*16744448:=ck d ();unfold cut;generalize w*c=p at e b⊢;omega
structure Ok(x:Int×Int×Int):Prop where
 l0:0<=x.1
 w0:4294967296<=x.2.1
 w1:x.2.1<=1099511627776
 z:5<=x.2.2
def ok0:Ok s0:=⟨∅,∅,∅,∅⟩
def yos{l w s:Int}(h0:0<=l)(h1:8388608<=w)(h2:w<=1099511627776)(h3:5<=s):Ok (ren l w s):=by
 unfold ren
 split
 .split
  .exists by show 0<=l*65536;omega,by show _<=w*65536;omega,by show w*65536<=_;omega,by show 5<=s+2;omega
  .exists by show 0<=l*256;omega,by show _<=w*256;omega,by show w*256<=_;omega,by show 5<=s+1;omega
 .exists h0,by show _<=w;omega,h2,h3
def va1{x:Int×Int×Int}{c b:Int}(h:Ok x)(hc:Ch c):Ok (nar x c b):=by
 let⟨d,a,e⟩:=ycc h.w0 h.w1 hc;have:=h.l0;have:=h.w0;have:=h.w1;have:=h.z;unfold nar
 split
 .exact yos () () () ()
 .exact yos () () () ()
end SpanMath
namespace SpanMath
noncomputable def pw:Nat->Int
 |0=>1
 |k+1=>pw k*256
theorem zz:∀k,0<pw k
 |0=>by decide
 |k+1=>by have:=zz k;show 0<pw k*256;omega
theorem yfh(a:Nat):∀b,pw (a+b)=pw a*pw b
 |0=>by simp[pw]
 |b+1=>by
  show pw (a+b)*256=pw a*(pw b*256);rw[yfh a b,Int.mul_assoc]
def yjo{a b:Nat}(h:a<=b):pw a<=pw b:=by
 let⟨c,rfl⟩:=Nat.exists_eq_add_of_le h;rw[yfh];have d:=zz a;have e:=zz c
 calc pw a=pw a*1:=()
  _<=pw a*pw c:=ck () ()
def vb5{a b:Nat}(h:pw a<pw b):a<b:=by apply Nat.lt_of_not_le;intro q;have:=yjo q;omega
noncomputable def lo:Nat->Int->qi Int
 |0,_=>[]
 |k+1,n=>n%256::lo k (n/256)
def wr(k:Nat)(n:Int):Ρ:=(lo k n).reverse
theorem ypl:∀k n,(lo k n).length=k
 |0,_=>rfl
 |k+1,n=>by simp[lo,ypl k]
def yy4(k:Nat)(n:Int):(wr k n).length=k:=by simp[wr,ypl]
theorem yji:∀k n,∀x∈lo k n,0<=x/\x<=255
 |0,_,x,h=>by simp[lo]at h
 |k+1,n,x,h=>by
  simp only[lo,bq]at h;rcases h with rfl|h
  .omega
  .exact yji k _ x h
def yr9(k:Nat)(n:Int):∀x∈wr k n,0<=x/\x<=255:=λx h=>yji k n x (by simpa[wr]using h)
def yt1(k:Nat)(n:Int):wr (k+1) n=wr k (n/256)++[n%256]:=by simp[wr,lo]
noncomputable def val(xs:Ρ):Int:=xs.foldl (λa b=>a*256+b) 0
def ye0(xs:Ρ)(b:Int):val (xs++[b])=val xs*256+b:=by simp[val,List.foldl_append]
theorem ypr:∀(k:Nat)(n:Int),0<=n->n<pw k->val (wr k n)=n
 |0,n,h0,h1=>by
  have:n<1:=h1;have:n=0:=()
  subst this;rfl
 |k+1,n,h0,h1=>by
  have a:n<pw k*256:=h1;rw[yt1,ye0,ypr k (n/256) () ()];omega
noncomputable def vig:Nat->Int->Int->Nat
 |0,_,_=>0
 |n+1,a,b=>if a=b then 0 else vig n (a/256) (b/256)+1
end SpanMath
namespace SpanMath
abbrev Sn:=Int×Int×Int
noncomputable def sz(x:Sn):Nat:=x.2.2.toNat
structure OkS(x:Sn):Prop where
 ok:Ok x
 top:x.1+x.2.1<=pw (sz x)
theorem OkS.sz{x:Sn}(h:OkS x):((sz x:Nat):Int)=x.2.2:=by have:=h.ok.z;unfold SpanMath.sz;omega
def OkS.sz5{x:Sn}(h:OkS x):5<=SpanMath.sz x:=by have:=h.ok.z;unfold SpanMath.sz;omega
def vgu:OkS s0:=⟨ok0,∅⟩
structure Sub(x y:Sn)(r:Nat):Prop where
 z:sz y=sz x+r
 l:x.1*pw r<=y.1
 h:y.1+y.2.1<=(x.1+x.2.1)*pw r
def yi0{l w s:Int}(hs:0<=s):∃r,Sub (l,w,s) (ren l w s) r/\(ren l w s).2.1=w*pw r/\(ren l w s).1=l*pw r:=by
 unfold ren
 split
 .split
  .refine⟨2,⟨?_,?_,?_⟩,?_,?_⟩
   .show (s+2).toNat=s.toNat+2;omega
   .show l*(1*256*256)<=l*65536;omega
   .show l*65536+w*65536<=(l+w)*(1*256*256);omega
   .show w*65536=w*(1*256*256);omega
   .show l*65536=l*(1*256*256);omega
  .refine⟨1,⟨?_,?_,?_⟩,?_,?_⟩
   .show (s+1).toNat=s.toNat+1;omega
   .show l*(1*256)<=l*256;omega
   .show l*256+w*256<=(l+w)*(1*256);omega
   .show w*256=w*(1*256);omega
   .show l*256=l*(1*256);omega
 .refine⟨0,⟨?_,?_,?_⟩,?_,?_⟩
  .rfl
  .show l*1<=l;omega
  .show l+w<=(l+w)*1;omega
  .show w=w*1;omega
  .show l=l*1;omega
def ysk{x:Sn}{c b:Int}(h:Ok x)(hc:Ch c):∃r,Sub x (nar x c b) r:=by
 let⟨k,g,i⟩:=ycc h.w0 h.w1 hc;have f:=h.l0;have j:=h.z;unfold nar
 split
 .obtain⟨r,⟨d,e,a⟩,_⟩:=yi0 (l:=x.1) (w:=cut x.2.1 c) (s:=x.2.2) ();exists r,d,e,Int.le_trans a (ce ?_ (Int.le_of_lt (zz r)));show x.1+cut x.2.1 c<=x.1+x.2.1;omega
 .obtain⟨r,⟨d,e,a⟩,_⟩:=yi0 (l:=x.1+cut x.2.1 c) (w:=x.2.1-cut x.2.1 c) (s:=x.2.2) ();exists r,d,Int.le_trans (ce ?_ (Int.le_of_lt (zz r))) e,Int.le_trans a (ce ?_ (Int.le_of_lt (zz r)))
  .show x.1<=x.1+cut x.2.1 c;omega
  .show x.1+cut x.2.1 c+(x.2.1-cut x.2.1 c)<=x.1+x.2.1;omega
def ydp{x:Sn}{c b:Int}(h:OkS x)(hc:Ch c):OkS (nar x c b):=by exists va1 h.ok hc,?_;let⟨r,q⟩:=ysk (b:=b) h.ok hc;rw[q.z,yfh];exact Int.le_trans q.h (ce h.top (Int.le_of_lt (zz r)))
noncomputable def blk(l e:Int):Int:=(l+e-1)/e
def hold(l w:Int)(k:Nat):Prop:=(blk l (pw k)+1)*pw k<=l+w
instance (l w:Int)(k:Nat):Decidable (hold l w k):=inferInstanceAs (Decidable ((blk l (pw k)+1)*pw k<=l+w))
def yp4(l:Int){e:Int}(h:0<e):l<=blk l e*e/\blk l e*e<l+e:=by unfold blk;have a:=Int.emod_add_mul_ediv (l+e-1) e;have c:=cA (l+e-1) (show e≠0 by omega);have b:=cr (l+e-1) h;rw[Int.mul_comm]at a;generalize (l+e-1)/e*e=q at a⊢;omega
def yjr{l w:Int}{k:Nat}(h:hold l w k):pw k<=w:=by have a:=yp4 l (zz k);unfold hold at h;rw[Int.add_mul]at h;omega
noncomputable def tel(l w:Int):Nat->Nat->Nat
 |0,k=>k
 |f+1,k=>if hold l w (k+1)then tel l w f (k+1)else k
def ym4{l w:Int}{f k:Nat}(h:hold l w (k+1)):tel l w f (k+1)=tel l w (f+1) k:=by rw[tel,if_pos h]
def ytq{l w:Int}{f k:Nat}(h:¬hold l w (k+1)):tel l w f k=k:=by
 cases f with
 |zero=>rfl
 |succ f=>rw[tel,if_neg h]
set_option tactic.hygienic true in
theorem yen{l w:Int}:∀{f k:Nat},hold l w k->hold l w (tel l w f k)
 |0,_,h=>h
 |f+1,k,h=>by
  unfold tel
  split
  .rename_i q;exact yen q
  .exact h
def pw5:pw 5=1099511627776:=∅
def yov{l w:Int}{k:Nat}(hw:w<=1099511627776)(h:hold l w k):k<=5:=by have a:=yjr h;rw[<- pw5]at hw;have b:pw k<pw 6:=Int.lt_of_le_of_lt (Int.le_trans a hw) ∅;have:=vb5 b;omega
def tK(x:Sn):Nat:=tel x.1 x.2.1 5 0
def tCn(x:Sn):Int:=blk x.1 (pw (tK x))
def tL(x:Sn):Ρ:=wr (sz x-tK x) (tCn x)
def vgd{x:Sn}(h:Ok x):hold x.1 x.2.1 0:=by have:=h.w0;show ((x.1+1-1)/1+1)*1<=x.1+x.2.1;omega
def yat{x:Sn}(h:Ok x):hold x.1 x.2.1 (tK x):=yen (vgd h)
def yvm{x:Sn}(h:OkS x):tK x<=5/\tK x<=sz x:=by have a:=yov h.ok.w1 (yat h.ok);have b:=h.sz5;omega
def yka(x:Sn):(tL x).length=sz x-tK x:=yy4 _ _
def yz3{x:Sn}(h:Ok x):0<=tCn x:=by have:=h.l0;have:=zz (tK x);exact Int.ediv_nonneg () ()
def yxv{x:Sn}(h:OkS x):tCn x<pw (sz x-tK x):=by have b:(tCn x+1)*pw (tK x)<=x.1+x.2.1:=yat h.ok;have a:=h.top;have e:sz x-tK x+tK x=sz x:=Nat.sub_add_cancel (yvm h).2;rw[<- e,yfh]at a;have c:=Int.le_of_mul_le_mul_right (Int.le_trans b a) (zz (tK x));omega
def yxk{x:Sn}(h:OkS x):val (tL x)=tCn x:=ypr _ _ (yz3 h.ok) (yxv h)
end SpanMath
namespace L2
open PySem PySem.Spec PyProof.Rows
def yfr(J:It)(te:TE)(D:z4)(R:Hp->Prop)(H1:Hp):Prop:=∃W:Nat->Nat->Hp->Prop,(∃m,W 0 m (upd H1 D (.lst [])))/\
 ∀i m H2,W i m H2->(J.stop i H2/\R H2)\/(J.go i H2/\∀x H3,J.yld i H2 x H3->te [some x] H3 λy H4=>∃ys,H4 D=some (.lst ys)/\ys.length<sizeLine/\∃m',m'<m/\W (i+1) m' (upd H4 D (.lst (ys++[y]))))
section
variable{X:Cx}{iter elt:qg}{x:Str}{px pos:Pos}{scope:Scope}{te:TE}{wi:TI}{pins:Θ}{σ:St}
def ve2{α:Type}{t:Sem α}{Q Q':α->qa->Prop}{M:Model}{A:qe}{E:Δ}{s:qa}(h:wpAny M A t Q (λZ Z=>False) s)(hQ:∀a s,Q a s->Q' a s):wpAny M A t Q' E s:=cJ h hQ λZ Z z=>z.elim
def cW(n:Nat)(Pv:Nat->Hp->Prop)(i m:Nat)(H:Hp):Prop:=m=n-i/\i<=n/\Pv i H
def zf{K:z3}{a D:z4}{xs:Υ}{R:Hp->Prop}{H1:Hp}(Pv:Nat->Hp->Prop)(h0:Pv 0 (upd H1 D (.lst [])))(hl:∀i H,i<=xs.length->Pv i H->SqL K H a xs)
  (hs:∀i x H,xs[i]?=some x->i<xs.length->Pv i H->te [some x] H λy H4=>∃ys,H4 D=some (.lst ys)/\ys.length<sizeLine/\∃m',m'<xs.length-i/\cW xs.length Pv (i+1) m' (upd H4 D (.lst (ys++[y]))))
  (hd:∀H,Pv xs.length H->R H):yfr (Itl K a) te D R H1:=by
 exists cW xs.length Pv,⟨xs.length,by simp,bJ _,h0⟩,?_;rintro i m H ⟨rfl,b,p⟩;have q:=hl i H b p;by_cases hlt:i<xs.length
 .refine .inr ⟨⟨xs,xs[i],q,by simp[hlt]⟩,λx c y=>?_⟩;let⟨e,y⟩:=y;subst e;exact hs i x _ (y xs q) hlt p
 .have e:i=xs.length:=()
  subst e;exact .inl ⟨⟨xs,q,bf _⟩,hd H p⟩
def x8{n i:Nat}{Pv:Nat->Hp->Prop}{D:z4}{ys:Υ}{y:V}{H4:Hp}(hD:H4 D=some (.lst ys))(hl:ys.length<sizeLine)(hi:i<n)(p:Pv (i+1) (upd H4 D (.lst (ys++[y])))):
  ∃ys,H4 D=some (.lst ys)/\ys.length<sizeLine/\∃m',m'<n-i/\cW n Pv (i+1) m' (upd H4 D (.lst (ys++[y]))):=⟨ys,hD,hl,n-(i+1),(),rfl,hi,p⟩
end
end L2
namespace L2
open PySem
noncomputable def yde:qg->Bool
 | .Starred _ _=>false
 |_=>true
def yjj{e:qg}{es:qi qg}{env:Env}(h:yde e=true):starEach (e::es) env=(false,eval e env)::starEach es env:=by cases e<;>first|rfl|cases h
end L2
namespace L2
open PySem PySem.Spec PyProof.Rows
variable{C a:z4}{e:qg}{h':qf}{pins:Θ}{P:qh}{scope:Scope}{st:qc}{qual:Str}{cd u:qb}{E Q:Δ}
structure XCls(K:z3)(C:z4):Prop where
 hd:W.hasDictIn K C=true
 ga:W.findIn K (.ref C) "__getattribute__"=some (some (.builtin "BaseException.__getattribute__"))
 gt:W.findIn K (.ref C) "__getattr__"=some none
 ca:W.findIn K (.ref C) "__class__"=some (some (.builtin "object.__class__"))
 gg:W.specialIn K (.builtin "object.__class__") "__get__"=some (some (.builtin "getset_descriptor.__get__"))
 tk:W.takesIn K (.builtin "object.__class__")=some true
 mo:W.mroIn K C (.type "object")=some true
 mb:W.mroIn K C (.type "BaseException")=some true
def xm.there{w:qd}{H:Hp}{h:qf}{o:HO}(x:xm P w H h a o):∃ob,h.get? a=some ob:=by
 cases o with
 |lst xs=>let⟨_,_,_,_,e⟩:=x;exists _,e
 |tup xs=>let⟨_,_,_,ob,e,_⟩:=x;exists _,e
 |dK kvs=>let⟨_,_,_,_,ob,_,_,e,_⟩:=x;exists _,e
 |dT kvs=>let⟨_,_,_,_,ob,_,_,e,_⟩:=x;exists _,e
 |set S n=>let⟨ob,_,_,_,e,_⟩:=x;exists _,e
 |ins C dx fs=>let⟨_,_,_,e,_⟩:=x;exists _,e
 |own y=>exact x
 |xd fs=>let⟨_,⟨_,_,_,e,_⟩,_⟩:=x;exists _,e
 |rng lo hi=>let⟨_,_,_,e⟩:=x;exists _,e
 |frz ob u=>let⟨e,_⟩:=x;exists _,e
 |tbl ps=>exists _,(show h.get? a=some _ from x)
 |met f y=>exists _,(show h.get? a=some _ from x)
 |ext φ=>let⟨_,e,_⟩:=x;exact e
def HOk.none_of{w:qd}{H:Hp}{h:qf}(x:HOk P w H h)(e:h.get? a=none):H a=none:=by
 cases q:H a with
 |none=>rfl
 |some u =>
  let⟨b,z⟩:=(x a u q).there;rw[e]at z;cases z
def Fy(X:Cx)(pins:Θ)(H:Hp)(b:z4):Prop :=
 H b=none/\b≠X.env.locals/\b∉X.fs/\(b∈X.ex\/X.s₀.heap.get? b=none)/\(∀y c,X.env.cells.lookup y=some c->c≠b)/\∀p∈X.pn++pins,p.1≠b
section
variable{X:Cx}{σ:St}{H H':Hp}{s:qa}{b x T:z4}
def yfs(I:Inv X pins σ H s)(hb:s.heap.get? b=none)(hn:H' b=none):Fy X pins H' b:=by
 exists hn,?_,?_,?_,?_,?_
 .rintro rfl;let⟨_,⟨_,_,_,e,_⟩,_⟩:=I.loc;rw[hb]at e;cases e
 .intro z;let⟨_,o,e,_⟩:=I.funs.mem z;rw[hb]at e;cases e
 .by_cases hx:b∈X.ex
  .exact .inl hx
  .refine .inr ?_
   cases q:X.s₀.heap.get? b with
   |none=>rfl
   |some o =>
    let⟨_,e⟩:=I.base.there b o q hx;rw[hb]at e;cases e
 .rintro y c e rfl;let⟨_,_,q,_⟩:=I.cell y c e;rw[hb]at q;cases q
 .intro p a z;have q:=(I.pin p a).1;rw[z,hb]at q;cases q
def Inv.fly(I:Inv X pins σ H s)(hx:Fy X pins H x)(hT:Fy X pins H T)
  (keep:∀b o,b≠x->b≠T->b∉frs X.stack->s.heap.get? b=some o->h'.get? b=some o)
  (slot:∀b o,b∈frs X.stack->s.heap.get? b=some o->∃sl,h'.get? b=some {o with slots:=sl}):Inv X pins σ H {s with heap:=h'}:=by
 have a:∀{y b o},Fy X pins H y->X.s₀.heap.get? b=some o->b∉X.ex->b≠y:=λ{y b o}S e f z=>by
  subst z;rcases S.2.2.2.1 with q|q
  .exact f q
  .rw[e]at q;cases q
 have h:∀b o,b≠x->b≠T->s.heap.get? b=some o->∃sl,h'.get? b=some {o with slots:=sl}:=λb o N M e=>by
  by_cases z:b∈frs X.stack
  .exact slot b o z e
  .exists o.slots,keep b o N M z e
 have g:∀y c,X.env.cells.lookup y=some c->∀v,s.heap.IsCell c v->h'.IsCell c v:=λy c e v ⟨o,C,L⟩=>by
  let⟨sl,q⟩:=h c o (hx.2.2.2.2.1 y c e) (hT.2.2.2.2.1 y c e) C;exists _,q,L
 exists I.ok,I.os,I.bare,⟨λb o e n A f=>?_,λb o e n A f=>?_,I.base.free,λb o e f=>?_,I.base.tups,I.base.frzs,I.base.tbls⟩,?_,λy c e=>?_,I.free,I.freeC,λp D=>?_,λb u e=>?_,I.len
 .refine keep b o (a hx e f) (a hT e f) (λz=>?_) (I.base.keep b o e n A f);rcases bq.mp (I.stkSub b z)with q|q
  .exact absurd q (bT (bP (bw e) I.ok.above))
  .exact A q
 .obtain⟨sl,t⟩:=I.base.slot b o e n A f;let⟨j,w⟩:=h b _ (a hx e f) (a hT e f) t;exists j,w
 .obtain⟨Y,t⟩:=I.base.there b o e f;let⟨j,w⟩:=h b _ (a hx e f) (a hT e f) t;exists _,w
 .obtain⟨m,R,U⟩:=I.loc;exists m,?_,λi y v t w Q=>?_
  .obtain⟨o,O,P,C,r⟩:=R;let⟨sl,q⟩:=h _ o (Ne.symm hx.2.1) (Ne.symm hT.2.1) C;exists _,O,P,q,r
  .obtain⟨u,r,l⟩:=U i y v t w Q;exists u,r,?_;rcases l with l|⟨k,c,e,z⟩
   .exact .inl l
   .exact .inr ⟨k,c,e,g y c e _ z⟩
 .obtain⟨v,z⟩:=I.cell y c e;exists v,g y c e v z
 .obtain⟨e,n,F,E,d⟩:=I.pin p D;exists keep p.1 p.2 (hx.2.2.2.2.2 p D) (hT.2.2.2.2.2 p D) (λz=>?_) e,n,F,E,d;rcases bq.mp (I.stkSub _ z)with q|q
  .exact F q
  .exact E q
 .have G:∀c v,H c=some v->c≠x/\c≠T/\c∉frs X.stack:=λc v q =>
   ⟨λz=>(by rw[z,hx.1]at q;cases q),λz=>(by rw[z,hT.1]at q;cases q),λz=>(by rw[I.stkFree c z]at q;cases q)⟩
  refine(I.hok b u e).stay (λc v B q=>?_) (λZ q=>q) λZ Z q=>q
  obtain⟨K,J,W⟩:c≠x/\c≠T/\c∉frs X.stack:=by
   rcases B with rfl|B
   .exact G _ _ e
   .exact G _ _ B
  exact keep c v K J W q
def Trd(h:qf)(x T:z4)(C fl:qb):Prop :=
 ∃oe vs oT ts a0,h.get? x=some oe/\(oe.cls=C/\vs[0]?=some a0)/\oe.data=.fields vs/\vs[1]?=some (.ref T)/\T≠x/\h.get? T=some oT/\oT.data=.fields ts/\ts[3]?=some fl
def hid(s:qa)(X:Cx)(x T:z4):qf:=W.hideAll s.heap (x::T::frs X.stack)
def yqn:(hid s X x T).StaysIn s.heap:=λZ Z e=>W.of_hideAll _ e
def vdy:(hid s X x T).get? x=none:=W.hideAll_none _ (.head _)
def vfg:(hid s X x T).get? T=none:=W.hideAll_none _ (.tail _ (.head _))
def yro(I:Inv X pins σ H s):s.heap.FunFrames (hid s X x T) X.stack :=
 W.funFrames_hide I.stack λb d a c=>.tail _ (.tail _ (List.mem_filterMap.mpr ⟨b,d,c⟩))
def yxp{C fl:qb}(t:Trd s.heap x T C fl):∃a0,s.heap.TracedAtW (hid s X x T) x C a0 fl:=by let⟨e,h,k,i,a0,a,b,c,d,f,g,j,l⟩:=t;exists a0,e,h,T,k,i,a,b,c,d,vfg,f,g,j,l
def ybe{C a0 fl:qb}(I:Inv X pins σ H s)(hx:Fy X pins H x)(hT:Fy X pins H T)(k1:(hid s X x T).StaysIn h')(k2:h'.FunFrames (hid s X x T) X.stack)(k3:h'.TracedAtW (hid s X x T) x C a0 fl)
  (k4:∀b o,s.heap.get? b=some o->(∀vs,o.data≠.fields vs)->∃sl,h'.get? b=some {o with slots:=sl}):
  Inv X pins σ H {s with heap:=h'}/\∃T',Fy X pins H T'/\Trd h' x T' C fl:=by
 exists I.fly hx hT (λb o t u w e=>k1 b o (W.hideAll_get _ e λz=>?_)) λb o k e=>?_,?_
 .rcases bq.mp z with z|z
  .exact t z
  .rcases bq.mp z with z|z
   .exact u z
   .exact w z
 .obtain⟨_,n,a,c⟩:=I.stack.mem k;rw[e]at a;cases a;exact k4 b o e c
 .obtain⟨j,vs,T',v,l,p,i,y,h,r,g,d,f,A⟩:=k3;exists T',?_,j,vs,v,l,a0,p,i,y,h,g,d,f,A;by_cases q:T'=T
  .rw[q];exact hT
  .cases e:s.heap.get? T' with
   |none=>exact yfs I e (I.hok.none_of e)
   |some o =>
    have z:T'∈frs X.stack:=Classical.byContradiction λz=>by
     have:=W.hideAll_get (x::T::frs X.stack) e (λm=>by
      rcases bq.mp m with m|m
      .exact g m
      .rcases bq.mp m with m|m
       .exact q m
       .exact z m)
     rw[show (W.hideAll s.heap (x::T::frs X.stack)).get? T'=none from r]at this;cases this
    let⟨_,n,a,c⟩:=k2.mem z;rw[d]at a;cases a;exact absurd f (c _)
end
def CXe(P:qh)(w:qd):CXT:=λouter H s E e s'=>∃x T C H',e=.ref x/\s'.os=s.os/\AllBare s'.gens/\Un (frs outer) [] H H' s.heap s'.heap/\HOk P w H' s'.heap/\
 (H' x=none/\s.heap.get? x=none)/\(H' T=none/\s.heap.get? T=none)/\Trd s'.heap x T C .none/\E C none H'
def yau(X:Cx)(Ex:St->XK):Prop:=∀(pins:Θ)(σ:St)(H:Hp)(s':qa)(x T:z4)(C:qb),Inv X pins σ H s'->Fy X pins H x->Fy X pins H T->Trd s'.heap x T C .none->Ex σ C none H->X.xe (.ref x) s'
def yv{w:qd}{K:z3}{mg:Ε}{base:qf}{N:Τ}{f:z4}{A:qe}{outer:qi Env}{s:qa}{H:Hp}{E:XK}:
  yau (vt (CXe P w) P w K mg base N qual scope f cd A outer s H E) (λZ=>E):=by intro a σ e t x T C I h l u q;show wpAny _ _ (leaving _ _) _ _ _;let⟨v,o⟩:=yxp (X:=vt (CXe P w) P w K mg base N qual scope f cd A outer s H E) u;refine wpAny_leaving_nextW (base:=hid t (vt (CXe P w) P w K mg base N qual scope f cd A outer s H E) x T) (L:=s.heap.objs.size) I.ok.frames (yro I) rfl o yqn vdy λy h'=>?_;let⟨m,p,r,j⟩:=h';let⟨d,n,g,k⟩:=ybe I h l m p r j;have c:∀{b},Fy (vt (CXe P w) P w K mg base N qual scope f cd A outer s H E) a e b->e b=none/\s.heap.get? b=none:=λi=>⟨i.1,i.2.2.2.1.resolve_left (by intro z;cases z)⟩;exists x,n,C,e,rfl,d.os,d.bare,d.base,d.hok,c h,c g,k,q
def ymq{w:qd}{K:z3}{mg:Ε}{base:qf}{N:Τ}{f:z4}{A:qe}{outer:qi Env}{s:qa}{H:Hp}{E:XK}
  {pins:Θ} {σ:St} {H1:Hp} {s1:qa} {h':qf} {x:z4} {C:qb} {vs:Ο} (I:Inv (vt (CXe P w) P w K mg base N qual scope f cd A outer s H E) pins σ H1 s1) (m:Heap.MadeExcOf s1.heap h' x C vs) (q:E C none H1):
  (vt (CXe P w) P w K mg base N qual scope f cd A outer s H E).xe (.ref x) {s1 with heap:=h'}:=by
 let⟨t,l,_,_⟩:=m.there;have e:Fy (vt (CXe P w) P w K mg base N qual scope f cd A outer s H E) pins H1 x:=yfs I m.new (I.hok.none_of m.new);have g:Inv (vt (CXe P w) P w K mg base N qual scope f cd A outer s H E) pins σ H1 {s1 with heap:=h'}:=I.kept (t':=s1.toks) m.keeps;show wpAny _ _ (leaving _ _) _ _ _
 refine wpAny_leaving_firstW (base:=hid {s1 with heap:=h'} (vt (CXe P w) P w K mg base N qual scope f cd A outer s H E) x x) (L:=s.heap.objs.size) (a0:=.ref t) g.ok.frames (yro g) rfl l yqn vdy rfl rfl rfl λn ⟨i,j,o,k⟩=>?_
 let⟨c,p,d,t'⟩:=ybe g e e i j o k;have a:∀{b},Fy (vt (CXe P w) P w K mg base N qual scope f cd A outer s H E) pins H1 b->H1 b=none/\s.heap.get? b=none:=λh=>⟨h.1,h.2.2.2.1.resolve_left (by intro z;cases z)⟩;exists x,p,C,H1,rfl,c.os,c.bare,c.base,c.hok,a e,a d,t',q
def yks(sp:Sp)(dvs:Υ)(Ex:St->XK)(t:TA):TE:=λσ H Q=>t σ H λvs H1=>sp (vs++dvs) H1 Q (Ex σ)
def yb7(C:z4)(m:Str)(sp:Sp)(dvs:Υ)(Ex:St->XK)(ta:TE)(t:TA):TE:=λσ H Q=>ta σ H λx H1=>∃a dx fs,x=.ref a/\H1 a=some (.ins C dx fs)/\fs.lookup m=none/\
 t σ H1 λvs H2=>sp (x::(vs++dvs)) H2 Q (Ex σ)
def yom(C:z4)(sp:Sp)(dvs:Υ)(Ex:St->XK)(t:TA):TE:=λσ H Q=>t σ H λvs H1=>∀x dx,H1 x=none->H1 dx=none->dx≠x ->
 sp (.ref x::(vs++dvs)) (upd (upd H1 dx (.own x)) x (.ins C dx [])) (λv H2=>v=.non/\Q (.ref x) H2) (Ex σ)
section
variable{X:Cx}{k:Nat}{f:z4}{fd:FuncData}{ps:Τ}{sp:Sp}{dvs:Υ}{ds:Ο}{Ex:St->XK}{x m:Str}{p pos apos:Pos}{o:qg}{es:qi qg}{ta:TE}{t:TA}
def Inv.came{σ:St}{H:Hp}{s s':qa}{v:qb}(I:Inv X pins σ H s)(hc:yau X Ex)(h:CXe X.prog X.w X.stack H s (Ex σ) v s'):X.xe v s':=by let⟨y,T,D,g,rfl,i,a,j,c,e,d,f,q⟩:=h;exact hc pins σ g s' y T D (I.call' i j c a λb z=>absurd z (by simp)) (yfs I e.2 e.1) (yfs I d.2 d.1) f q
def yjx{σ:St}{H:Hp}{s:qa}{Q:VK}{us:Ο}{vs:Υ}(F:vo X.prog X.w X.K X.mg X.base (CXe X.prog X.w) k f fd ps sp)(hr:jt k X.A)(hb:ul X.K fd ps ds)(hd:wz dvs ds)(hc:yau X Ex)
  (I:Inv X pins σ H s) (r:wz vs us) (h:sp (vs++dvs) H Q (Ex σ)):wpAny (model X.prog X.w) X.A (call (.ref f) us) (EP X pins σ Q) X.xe s:=by
 have b:wz (vs++dvs) (us++ds):=r.append hd;have c:(us++ds).length=ps.length:=by rw[<- b.length];exact F.len _ _ _ _ h
 refine wpAny_call (codeAny_mono (F.run X.A X.stack s H ⟨us,[]⟩ (us++ds) (vs++dvs) Q (Ex σ) hr I.env0 (hb s us I.kIn c) b h) λr d a=>?_)
 cases r with
 |error e=>exact I.came hc a
 |ok fl =>
  cases fl with
  |ret u=>exact I.after a
  |next=>exact False.elim a
  |brk=>exact False.elim a
  |cont=>exact False.elim a
def ym9(F:vo X.prog X.w X.K X.mg X.base (CXe X.prog X.w) k f fd ps sp)(hr:jt k X.A)(hg:Gl X x)(hm:X.mg x=some (.ref f))(hk:W.keepIn X.K (.ref f)=true)(hb:ul X.K fd ps ds)(hd:wz dvs ds)(hc:yau X Ex)
  (ha:PA X (e::es) t) (hdb:autoParam ((x == ("__debug__":Str))=false) aB._auto_1) (he:autoParam (starEach (e::es) X.env=(false,eval e X.env)::starEach es X.env) aD._auto_1) (hpl:autoParam ((backTo pos (starEach es X.env)).any (·.1)=false) aD._auto_1):
  PE X (.Call (.Name x p) (e::es) [] pos) (yks sp dvs Ex t):=by refine .mk λa s σ H Q I h=>?_;refine wpAny_Call_Name_kw (Æ I hg hm ?_ hdb);refine W.callWith_K (h₀:=X.base) I.ok.mod.kin hk (thn (ha pos a s σ H _ I h) λc g ⟨i,d,b,r,q⟩=>⟨b.kIn,?_⟩) he hpl;exact yjx F hr hb hd hc b r q
def y8{pl:Sem Bool}(he:PE X o ta)(c:Cls X.K C)(hm:Meth X.K C m f)(F:vo X.prog X.w X.K X.mg X.base (CXe X.prog X.w) k f fd ps sp)(hr:jt k X.A)(hb:ul X.K fd ps ds)(hd:wz dvs ds)(hc:yau X Ex)(ha:PA X (e::es) t)
  (hst:autoParam (starEach (e::es) X.env=(false,eval e X.env)::starEach es X.env) aD._auto_1) (hpl:autoParam ((backTo pos (starEach es X.env)).any (·.1)=false) aD._auto_1)
  (ht:eval (.Call (.Attribute o m apos) (e::es) [] pos) X.env=(do
   let ov <- eval o X.env
   standAt apos.atName
   let (f,first) <- holding [ov] (getMethod ov m pl)
   callWith pos f first (backTo pos (starEach (e::es) X.env)) (backToKw pos (keywordEach [] X.env))):=by rfl):
  PE X (.Call (.Attribute o m apos) (e::es) [] pos) (yb7 C m sp dvs Ex ta t):=by
 refine .mk λb s σ H Q I h=>?_;refine W.methodCall_KW (pl:=pl) (thn (he b s σ H _ I h) λu v h'=>?_) ht;let⟨x,n,g,i,a,B,z,j,p,l,q⟩:=h';subst j;obtain rfl:u=Value.ref a:=i;refine ä g p c hm l ?_
 refine W.callWith_K (first:=[.ref a]) (h₀:=X.base) I.ok.mod.kin hm.kp (thn (ha pos b v σ n _ g q) λus D ⟨vs,E,d,r,y⟩=>⟨d.kIn,?_⟩) hst hpl
 exact yjx (us:=.ref a::us) (vs:=.ref a::vs) F hr hb hd hc d (.cons rfl r) y
def yhe{σ:St}{H:Hp}{s:qa}{Q:VK}{us:Ο}{vs:Υ}(M:Mk X.K C f)(F:vo X.prog X.w X.K X.mg X.base (CXe X.prog X.w) k f fd ps sp)(hr:jt (k+1) X.A)(hb:ul X.K fd ps ds)(hd:wz dvs ds)
  (hc:yau X Ex) (I:Inv X pins σ H s) (r:wz vs us)
  (h:∀x dx,H x=none->H dx=none->dx≠x->sp (.ref x::(vs++dvs)) (upd (upd H dx (.own x)) x (.ins C dx [])) (λv H2=>v=.non/\Q (.ref x) H2) (Ex σ)):
  wpAny (model X.prog X.w) X.A (call (.ref C) us) (EP X pins σ Q) X.xe s:=by
 have d:=h (s.heap.objs.size+1) s.heap.objs.size (I.hok.fresh (Nat.le_succ _)) (I.hok.fresh (bf _)) (bT (Nat.lt_succ_self _));have b:=Inv.made (C:=C) I;have c:wz (V.ref (s.heap.objs.size+1)::(vs++dvs)) (Value.ref (s.heap.objs.size+1)::(us++ds)):=.cons rfl (r.append hd)
 have n:(Value.ref (s.heap.objs.size+1)::us++ds).length=ps.length:=by
  have e:=c.length;rw[F.len _ _ _ _ d]at e;exact e.symm
 refine wpAny_call (yeq (f:=f) I.kIn M.makes M.init (beq_iff_eq.mp M.fn) (codeAny_mono (F.run _ X.stack _ _ ⟨Value.ref (s.heap.objs.size+1)::us,[]⟩ (Value.ref (s.heap.objs.size+1)::(us++ds)) _ _ (Ex σ) (hr.make C us [])
  (b.env0.make C us []) (hb _ (Value.ref (s.heap.objs.size+1)::us) b.kIn n) c d) λr o a=>?_))
 cases r with
 |error e=>exact b.came hc a
 |ok fl =>
  cases fl with
  |ret u =>
   let⟨v,i,g,m,j,l⟩:=b.after a;subst j;exists m,⟨V.ref (s.heap.objs.size+1),i,g,rfl,l⟩
  |next=>exact False.elim a
  |brk=>exact False.elim a
  |cont=>exact False.elim a
def ux(M:Mk X.K C f)(F:vo X.prog X.w X.K X.mg X.base (CXe X.prog X.w) k f fd ps sp)(hr:jt (k+1) X.A)(hg:Gl X x)(hm:X.mg x=some (.ref C))(hb:ul X.K fd ps ds)(hd:wz dvs ds)(hc:yau X Ex)
  (ha:PA X (e::es) t) (hdb:autoParam ((x == ("__debug__":Str))=false) aB._auto_1) (he:autoParam (starEach (e::es) X.env=(false,eval e X.env)::starEach es X.env) aD._auto_1) (hpl:autoParam ((backTo pos (starEach es X.env)).any (·.1)=false) aD._auto_1):
  PE X (.Call (.Name x p) (e::es) [] pos) (yom C sp dvs Ex t):=by refine .mk λa s σ H Q I h=>?_;refine wpAny_Call_Name_kw (Æ I hg hm ?_ hdb);refine W.callWith_K (h₀:=X.base) I.ok.mod.kin M.kp (thn (ha pos a s σ H _ I h) λc g ⟨i,d,b,r,q⟩=>⟨b.kIn,?_⟩) he hpl;exact yhe M F hr hb hd hc b r q
end
theorem PS.nox{X:Cx}{t:TS}(h:PS X.nox st t):PS X st t:=.mk λa s σ H D I b =>
 cJ (h a s σ H D (I.wish _) b) (λZ Z q=>q.unwish) λZ Z z=>False.elim z
section
variable{w:qd}{K:z3}{mg:Ε}{base:qf}
def vw{X:Cx}:yau X (λZ Z Z Z=>False):=λZ Z Z Z Z Z Z Z Z Z Z q=>q.elim
def Fun.okE{x:Str}{f:z4}{fd:FuncData}{N ps:Τ}{k:Nat}{sp:Sp}(F:Fun K x qual st f fd)(S:yi N ps (yd st))(len:∀vs H Q E,sp vs H Q E->vs.length=ps.length)
  (hbody:∀(cdv:qb)(A:qe)(outer:qi Env)(s:qa)(H:Hp)(vs:Υ)(Q:VK)(E:XK),jt k (A.deeper (envOfC qual (yd st) s.heap.objs.size f cdv))->sp vs H Q E ->
   ∃t,PSs (vt (CXe P w) P w K mg base N qual (yd st) f cdv A outer s H E) (w6 st) t/\t { nx:=λZ H'=>Q .non H',rt:=Q} (ð N vs) H):vo P w K mg base (CXe P w) (k+1) f fd ps sp:=by let⟨i,l,kV,c,m,h,cdv,j,d,rfl,g,a⟩:=F.ex;exact yn6 g a S len λA outer s H vs Q E e b=>hbody cdv A outer s H vs Q E e b
end
abbrev bmV:Ο:=[.type "ValueError",.type "Exception",.type "BaseException",.type "object"]
abbrev XMk(K:z3)(C:z4):Prop:=W.excIn K C bmV "ValueError.__new__"=true
set_option tactic.hygienic true in
def ysj{K:z3}{h:qf}{bmB:Ο}{newId:String}(X:K.In h)(q:W.excIn K C bmB newId=true):
  ∃bm N nm qn bs hdct sn sub ab col dd k0 k1 k2 k3 k5 mN,h.get? C=some (excClassObj nm qn C N bs bm hdct sn sub ab col dd k0 k1 k2 k3 k5 newId)/\h.Ns N mN/\mN "__init__"=none/\OwnTail h bmB bm:=by
 unfold W.excIn at q
 split at q
 .rename_i dd cd sl ho
  split at q
  .rename_i C' bm k0 k1 k2 k3 n k5 hm d
   simp only[bL,beq_iff_eq,Bool.not_eq_true']at q;let⟨⟨⟨⟨⟨rfl,rfl⟩,a⟩,i⟩,b⟩,c⟩:=q;let⟨nm,bs,g,f,qn,j,sn,sub,ab,col,e⟩:=cd;dsimp only at hm a b c;subst hm a;let⟨l⟩:=sl;have d:l=[k0,k1,k2,k3,some (.builtin n),k5]:=d;subst d;exists bm,f,nm,qn,bs,j,sn,sub,ab,col,dd,k0,k1,k2,k3,k5,_,X _ _ ho,.of_isNs (W.isNs_of_in X b),W.nsMap_none_of_in X b c,W.tail_of_in X i
  .cases q
 .cases q
def yqu(E:XK)(C:z4)(t:TA):TS:=λZ σ H=>t σ H λvs H1=>vs.length<=sizeLine/\E (.ref C) none H1
def wx{w:qd}{K:z3}{mg:Ε}{base:qf}{N:Τ}{f:z4}{A:qe}{outer:qi Env}{s:qa}{H:Hp}{E:XK}
  {C:z4} {x:Str} {np cpos pos:Pos} {e₀:qg} {ρ:qi qg} {t:TA} (hg:Gl (vt (CXe P w) P w K mg base N qual scope f cd A outer s H E) x) (hm:mg x=some (.ref C)) (hC:XMk K C)
  (ha:PA (vt (CXe P w) P w K mg base N qual scope f cd A outer s H E) (e₀::ρ) t)
  (he:autoParam (starEach (e₀::ρ) (envOfC qual scope s.heap.objs.size f cd)=(false,eval e₀ (envOfC qual scope s.heap.objs.size f cd))::starEach ρ (envOfC qual scope s.heap.objs.size f cd)) aD._auto_1)
  (hplain:autoParam ((backTo cpos (starEach ρ (envOfC qual scope s.heap.objs.size f cd))).any (·.1)=false) aD._auto_1) (hdb:autoParam ((x == ("__debug__":Str))=false) aB._auto_1):
  PS (vt (CXe P w) P w K mg base N qual scope f cd A outer s H E) (.Raise (some (.Call (.Name x np) (e₀::ρ) [] cpos)) none pos) (yqu E C t):=by
 refine .mk λa n σ j D I h=>?_;let⟨k,l,nm,q,bs,hdct,sn,sub,ab,col,dd,k0,k1,k2,k3,k5,mN,d,u,c,T⟩:=ysj I.mod.kin hC;refine wpAny_Raise_call_subT (C:=C) (nm:=nm) (q:=q) (N:=l) (bs:=bs) (bm:=k) (hdct:=hdct) (sn:=sn) (sub:=sub) (ab:=ab) (col:=col) (dd:=dd) (k0:=k0) (k1:=k1) (k2:=k2) (k3:=k3) (k5:=k5)
  F.excBase_ValueError (mN:=mN) (T.hasType F.excBase_ValueError.hasBase) (I.ok.hd rfl) (by
   show (backTo cpos (starEach (e₀::ρ) (envOfC qual scope s.heap.objs.size f cd))).any (·.1)=false;rw[he];show (false || (backTo cpos (starEach ρ (envOfC qual scope s.heap.objs.size f cd))).any (·.1))=false;rw[hplain];rfl) c (Æ I hg hm ⟨rfl,?_⟩ hdb)
 have i:=ha cpos a n σ j _ I h;have g:starEach (e₀::ρ) (vt (CXe P w) P w K mg base N qual scope f cd A outer s H E).env=(false,eval e₀ (vt (CXe P w) P w K mg base N qual scope f cd A outer s H E).env)::starEach ρ (vt (CXe P w) P w K mg base N qual scope f cd A outer s H E).env:=he;rw[g]at i⊢;refine Calls.evalArgs_plain (cJ i (by rintro z s₂ ⟨v,G,b,r,p,o⟩;exact⟨rfl,by rw[<- r.length];exact p,b.bk _ _ d,u.keeps b.bk,T.keeps b.bk,λB y m=>ymq b m o⟩) λZ Z y=>y)
section
variable{X:Cx}{σ:St}{H:Hp}{s:qa}{x T:z4}
noncomputable abbrev Cx.pnd(X:Cx)(pn:Θ):Cx:={X with pn:=pn}
def XT(Y:Cx)(Ex:St->XK)(e:qb)(s':qa):Prop:=∃pins σ H x T C,e=.ref x/\Inv Y pins σ H s'/\Fy Y pins H x/\Fy Y pins H T/\Trd s'.heap x T C .none/\Ex σ C none H
noncomputable abbrev Cx.tr(X:Cx)(pn:Θ)(Ex:St->XK):Cx:=(X.pnd pn).wish (XT (X.pnd pn) Ex)
end
variable{X:Cx}
noncomputable def Ĳ.un(D:Ĳ)(i:Nat):Ĳ:=⟨λσ H=>D.nx (σ.set i none) H,D.rt,λσ H=>D.bk (σ.set i none) H,λσ H=>D.ct (σ.set i none) H⟩
section
variable{σ:St}{H:Hp}{Q:VK}{tr:TA}{ta:TE}{nx:Ζ}{rt:VK}{bk ct:Ζ}{ts:TS}
def yvc{sp:Sp}{dvs:Υ}{Ex:St->XK}(h:tr σ H λvs H1=>sp (vs++dvs) H1 Q (Ex σ)):yks sp dvs Ex tr σ H Q:=h
def yap{m:Str}{sp:Sp}{dvs:Υ}{Ex:St->XK}(h:ta σ H λx H1=>∃a dx fs,x=.ref a/\H1 a=some (.ins C dx fs)/\fs.lookup m=none/\tr σ H1 λvs H2=>sp (x::(vs++dvs)) H2 Q (Ex σ)):yb7 C m sp dvs Ex ta tr σ H Q:=h
def yui{sp:Sp}{dvs:Υ}{Ex:St->XK}(h:tr σ H λvs H1=>∀x dx,H1 x=none->H1 dx=none->dx≠x->sp (.ref x::(vs++dvs)) (upd (upd H1 dx (.own x)) x (.ins C dx [])) (λv H2=>v=.non/\Q (.ref x) H2) (Ex σ)):yom C sp dvs Ex tr σ H Q:=h
def ys8{E:XK}{D:Ĳ}(h:tr σ H λvs H1=>vs.length<=sizeLine/\E (.ref C) none H1):yqu E C tr D σ H:=h
end
section
variable{κ:Type}[DecidableEq κ]
noncomputable def z5(kvs:qi (κ×V))(k:κ):Ψ:=(kvs.find? λkv=>decide (kv.1=k)).map (·.2)
noncomputable def Ń(kvs:qi (κ×V))(k:κ)(v:V):qi (κ×V) :=
 if (kvs.any λkv=>decide (kv.1=k))=true then kvs.map (λkv=>if kv.1=k then (kv.1,v)else kv)else kvs++[(k,v)]
noncomputable def ß(kvs:qi (κ×V))(k:κ):qi (κ×V):=kvs.filter λkv=>decide (kv.1≠k)
def ua{p:κ×V}{r:qi (κ×V)}{k:κ}(e:p.1=k):z5 (p::r) k=some p.2:=by simp[z5,List.find?_cons,e]
def uc{p:κ×V}{r:qi (κ×V)}{k:κ}(e:¬p.1=k):z5 (p::r) k=z5 r k:=by simp[z5,List.find?_cons,e]
theorem jl(k:κ):∀kvs:qi (κ×V),(kvs.any λkv=>decide (kv.1=k))=(z5 kvs k).isSome
 |[]=>rfl
 |p::r=>by
  rw[List.any_cons];by_cases e:p.1=k
  .simp only[ua e,bn e,Bool.true_or,Option.isSome_some]
  .rw[uc e,bo e,Bool.false_or];exact jl k r
theorem yec(k j:κ)(y:V):∀kvs:qi (κ×V),z5 (kvs.map λkv=>if kv.1=k then (kv.1,y)else kv) j=(z5 kvs j).map λx=>if j=k then y else x
 |[]=>rfl
 |p::r=>by
  have a:=yec k j y r;rw[bS];by_cases h:p.1=k
  .rw[if_pos h];by_cases e:p.1=j
   .rw[ua (p:=(p.1,y)) e,ua e,cH,if_pos (e.symm.trans h)]
   .rw[uc (p:=(p.1,y)) e,uc e,a]
  .rw[if_neg h];by_cases e:p.1=j
   .rw[ua (p:=p) e,ua e,cH,if_neg (λz=>h (e.trans z))]
   .rw[uc (p:=p) e,uc e,a]
theorem ybf(k j:κ)(y:V):∀kvs:qi (κ×V),z5 kvs k=none->z5 (kvs++[(k,y)]) j=if j=k then some y else z5 kvs j
 |[],_=>by
  by_cases e:k=j
  .rw[if_pos e.symm];exact ua (p:=(k,y)) e
  .rw[if_neg (λz=>e z.symm)];exact uc (p:=(k,y)) e
 |p::r,hn=>by
  rw[List.cons_append];have a:¬p.1=k:=λz=>by rw[ua z]at hn;cases hn
  rw[uc a]at hn;have b:=ybf k j y r hn;by_cases e:p.1=j
  .rw[ua e,ua e,if_neg (λz=>a (e.trans z))]
  .rw[uc e,uc e,b]
def ε(kvs:qi (κ×V))(k j:κ)(y:V):z5 (Ń kvs k y) j=if j=k then some y else z5 kvs j:=by
 unfold Ń;by_cases a:(kvs.any λc=>decide (c.1=k))=true
 .rw[if_pos a,yec];rw[jl]at a;by_cases e:j=k
  .obtain⟨x,b⟩:=Option.isSome_iff_exists.mp a;rw[if_pos e,e,b,cH,if_pos rfl]
  .rw[if_neg e]
   cases z5 kvs j with
   |none=>rfl
   |some x=>rw[cH,if_neg e]
 .rw[if_neg a];refine ybf k j y kvs ?_;rw[jl]at a
  cases q:z5 kvs k with
  |none=>rfl
  |some x=>rw[q]at a;exact(a rfl).elim
def Ę(kvs:qi (κ×V))(k:κ)(v:V):(Ń kvs k v).length<=kvs.length+1:=by
 unfold Ń
 split
 .rw[ba];omega
 .rw[bd,bE,List.length_nil];omega
def Ú{kvs:qi (κ×V)}{k:κ}(v:V)(h:z5 kvs k=none):Ń kvs k v=kvs++[(k,v)]:=by unfold Ń;rw[jl,h];exact if_neg ∅
def ych.isSome_eq{o:Ψ}{u:qj qb}(r:ych o u):o.isSome=u.isSome:=by
 cases o with
 |none=>cases u with
  |none=>rfl
  |some _=>exact(show False from r).elim
 |some _=>cases u with
  |none=>exact(show False from r).elim
  |some _=>rfl
def KV.val{kvs:qi (κ×V)}{vs:qi (κ×qb)}(r:KV kvs vs)(k:κ):ych (z5 kvs k) (valueAt vs k):=by
 unfold KV at r
 induction r with
 |nil=>exact True.intro
 | @cons p q ps qs h t ih =>
  let⟨c,d⟩:=h;by_cases e:p.1=k
  .have a:q.1=k:=c.symm.trans e;have b:valueAt (q::qs) k=some q.2:=by simp[valueAt,List.find?_cons,a]
   rw[ua e,b];exact d
  .have a:¬q.1=k:=λz=>e (c.trans z);have b:valueAt (q::qs) k=valueAt qs k:=by simp[valueAt,List.find?_cons,a]
   rw[uc e,b];exact ih
theorem KV.any{kvs:qi (κ×V)}{vs:qi (κ×qb)}(r:KV kvs vs)(k:κ):(kvs.any λkv=>decide (kv.1=k))=vs.any λkv=>decide (kv.1=k):=by
 unfold KV at r
 induction r with
 |nil=>rfl
 |cons h t ih=>rw[List.any_cons,List.any_cons,ih,h.1]
def KV.repl{kvs:qi (κ×V)}{vs:qi (κ×qb)}(r:KV kvs vs)(k:κ){y:V}(ry:xu y u):
  KV (kvs.map λkv=>if kv.1=k then (kv.1,y)else kv) (vs.map λkv=>if kv.1=k then (kv.1,u)else kv):=by
 unfold KV at r⊢
 induction r with
 |nil=>exact .nil
 | @cons p q ps qs h t ih =>
  rw[bS,bS];refine .cons ?_ ih;let⟨a,b⟩:=h;by_cases e:p.1=k
  .rw[if_pos e,if_pos (a.symm.trans e)];exists a,ry
  .rw[if_neg e,if_neg (λz=>e (a.trans z))];exists a,b
def KV.put{kvs:qi (κ×V)}{vs:qi (κ×qb)}(r:KV kvs vs)(k:κ){y:V}(ry:xu y u):KV (Ń kvs k y) (stored vs k u):=by
 unfold Ń stored;rw[r.any k];by_cases e:(vs.any λa=>decide (a.1=k))=true
 .rw[if_pos e,if_pos e];exact r.repl k ry
 .rw[if_neg e,if_neg e];exact Paired.snoc r ⟨rfl,ry⟩
def KV.drop{kvs:qi (κ×V)}{vs:qi (κ×qb)}(r:KV kvs vs)(k:κ):KV (ß kvs k) (without vs k):=by
 unfold KV at r⊢;unfold ß without
 induction r with
 |nil=>exact .nil
 | @cons p q ps qs h t ih =>
  let⟨c,f⟩:=h;rw[List.filter_cons,List.filter_cons];by_cases e:p.1=k
  .have a:¬decide (p.1≠k)=true:=by simp[e]
   have b:¬decide (q.1≠k)=true:=by simp[c.symm.trans e]
   rw[if_neg a,if_neg b];exact ih
  .have d:¬q.1=k:=λz=>e (c.trans z);have a:decide (p.1≠k)=true:=by simp[e]
   have b:decide (q.1≠k)=true:=by simp[d]
   rw[if_pos a,if_pos b];exact .cons ⟨c,f⟩ ih
theorem KV.length{kvs:qi (κ×V)}{vs:qi (κ×qb)}(r:KV kvs vs):kvs.length=vs.length:=Paired.length r
def yl7(kvs:qi (κ×V))(k:κ):(ß kvs k).length<=kvs.length:=List.length_filter_le _ _
end
def yg2{w:qd}{k:Key}(r:xu (kV k) u):(wu P w).is k u=true:=by
 cases k with
 |inl i=>let⟨t,e⟩:=(show ∃t,u=Value.int i t from r);subst e;exact ycy P w i t
 |inr x=>let⟨t,e⟩:=(show ∃t,u=Value.str x t from r);subst e;exact yc9 P w x t
theorem yb0{w:qd}:∀{ks:qi Key}{us:Ο},wz (ks.map kV) us->ItemsAre (wu P w) ks us
 |[],_,r=>by rw[List.map_nil]at r;cases r;exact .nil
 |k::ks,_,r=>by
  rw[bS]at r
  cases r with
  |cons h t=>exact .cons (yg2 h) (yb0 t)
abbrev KT(H:Hp):qi (qi Key×V)->qi (qi Key×z4×qb)->Prop:=Paired λp q=>p.1=q.1/\H q.2.1=some (.tup (p.1.map kV))/\xu p.2 q.2.2
def KT.val{H:Hp}{kvs:qi (qi Key×V)}{xs:qi (qi Key×z4×qb)}(r:KT H kvs xs)(k:qi Key):ych (z5 kvs k) ((atKey xs k).map (·.2)):=by
 induction r with
 |nil=>exact True.intro
 | @cons p q ps qs h t ih =>
  let⟨c,_,d⟩:=h;by_cases e:p.1=k
  .have a:q.1=k:=c.symm.trans e;have b:atKey (q::qs) k=some q.2:=by simp[atKey,List.find?_cons,a]
   rw[ua e,b];exact d
  .have a:¬q.1=k:=λz=>e (c.trans z);have b:atKey (q::qs) k=atKey qs k:=by simp[atKey,List.find?_cons,a]
   rw[uc e,b];exact ih
def KT.repl{H:Hp}{kvs:qi (qi Key×V)}{xs:qi (qi Key×z4×qb)}(r:KT H kvs xs)(k:qi Key){y:V}(ry:xu y u):
  KT H (kvs.map λkv=>if kv.1=k then (kv.1,y)else kv) (xs.map (putAt k u)):=by
 induction r with
 |nil=>exact .nil
 | @cons p q ps qs h t ih =>
  rw[bS,bS];refine .cons ?_ ih;let⟨a,b,c⟩:=h;unfold putAt;by_cases e:p.1=k
  .rw[if_pos e,if_pos (a.symm.trans e)];exact⟨a,b,ry⟩
  .rw[if_neg e,if_neg (λz=>e (a.trans z))];exact⟨a,b,c⟩
def KT.put{H:Hp}{kvs:qi (qi Key×V)}{xs:qi (qi Key×z4×qb)}(r:KT H kvs xs)(k:qi Key){b:z4}{y:V}(hb:H b=some (.tup (k.map kV)))(ry:xu y u):
  KT H (Ń kvs k y) (storedH xs k b u):=by
 have e:(kvs.any λa=>decide (a.1=k))=(atKey xs k).isSome:=by
  rw[jl,(r.val k).isSome_eq,Option.isSome_map]
 unfold Ń storedH;rw[e];by_cases q:(atKey xs k).isSome=true
 .rw[if_pos q,if_pos q];exact r.repl k ry
 .rw[if_neg q,if_neg q];exact Paired.snoc r ⟨rfl,hb,ry⟩
def KT.keeps{H H':Hp}{kvs:qi (qi Key×V)}{xs:qi (qi Key×z4×qb)}(r:KT H kvs xs)(ht:∀b ys,H b=some (.tup ys)->H' b=some (.tup ys)):KT H' kvs xs :=
 Paired.mapP r λZ Z z=>⟨z.1,ht _ _ z.2.1,z.2.2⟩
section
variable{w:qd}{H:Hp}{h:qf}
def vc5{u:HO}(ok:HOk P w H h)(e:Rd H a u):xm P w H h a u:=e.ok ok
def ydt{kvs:Κ}(ok:HOk P w H h)(e:Rd H a (.dK kvs)):kvs.length<=sizeLine/\(a == sysModules)=false/\∃vs,KV kvs vs/\h.DictOf (wu P w) a vs :=
 show xm P w H h a (.dK kvs)from vc5 ok e
def vdx{kvs:Κ}(ok:HOk P w H h)(e:H a=some (.dK kvs)):kvs.length<=sizeLine/\(a == sysModules)=false/\∃vs,KV kvs vs/\h.DictOf (wu P w) a vs:=ydt ok (.inl e)
def yb5{ks:qi Key}(ok:HOk P w H h)(e:H a=some (.tup (ks.map kV))):(tupleKind (wu P w)).is h ks a:=by let⟨_,b,r,o,d,f,n,c⟩:=(show xm P w H h a (.tup (ks.map kV))from ok a _ e);exists o,b.toArray,n,d,f,c,by simpa using yb0 r
def yg4{kvs:qi (qi Key×V)}(ok:HOk P w H h)(e:Rd H a (.dT kvs)):kvs.length<=sizeLine/\(a == sysModules)=false/\
  ∃xs,KT H kvs xs/\h.DictOfH (tupleKind (wu P w)) a xs:=by
 let⟨z,y,xs,r,o,g,k,d,f,j,i,n⟩:=(show xm P w H h a (.dT kvs)from vc5 ok e);exists z,y,xs,r,o,g,k,d,f,j,i,λx b=>?_,n
 have c:∀{l:qi (qi Key×V)}{m:qi (qi Key×z4×qb)},KT H l m->∀x∈m,(tupleKind (wu P w)).is h x.1 x.2.1:=by
  intro l m q
  induction q with
  |nil=>intro x b;exact nomatch b
  | @cons p q ps qs hq t ih =>
   intro x b;rcases bq.mp b with e|b
   .subst e;exact yb5 ok (by rw[<- hq.1];exact hq.2.1)
   .exact ih x b
 exact c r x b
def vfs{kvs:qi (qi Key×V)}(ok:HOk P w H h)(e:H a=some (.dT kvs)):kvs.length<=sizeLine/\(a == sysModules)=false/\
  ∃xs,KT H kvs xs/\h.DictOfH (tupleKind (wu P w)) a xs:=yg4 ok (.inl e)
end
def İ(H:Hp)(a:z4)(y:V)(r:Ψ):Prop :=
 (∃kvs k,Rd H a (.dK kvs)/\y=kV k/\r=z5 kvs k)\/∃kvs k b,Rd H a (.dT kvs)/\y=.ref b/\H b=some (.tup (k.map kV))/\r=z5 kvs k
def yli(H:Hp)(a:z4)(y v:V)(H':Hp):Prop :=
 (∃kvs k,H a=some (.dK kvs)/\y=kV k/\kvs.length<sizeLine/\H'=upd H a (.dK (Ń kvs k v))) \/
 ∃kvs k b,H a=some (.dT kvs)/\y=.ref b/\H b=some (.tup (k.map kV))/\kvs.length<sizeLine/\H'=upd H a (.dT (Ń kvs k v))
theorem İ.k{H:Hp}{kvs:Κ}{k:Key}(e:H a=some (.dK kvs)):İ H a (kV k) (z5 kvs k):=.inl ⟨kvs,k,.inl e,rfl,rfl⟩
def İ.t{H:Hp}{b:z4}{kvs:qi (qi Key×V)}{k:qi Key}(e:H a=some (.dT kvs))(eb:H b=some (.tup (k.map kV))):İ H a (.ref b) (z5 kvs k):=.inr ⟨kvs,k,b,.inl e,rfl,eb,rfl⟩
theorem yli.k{H:Hp}{kvs:Κ}{k:Key}{v:V}(e:H a=some (.dK kvs))(hl:kvs.length<sizeLine):yli H a (kV k) v (upd H a (.dK (Ń kvs k v))):=.inl ⟨kvs,k,e,rfl,hl,rfl⟩
def yli.t{H:Hp}{b:z4}{kvs:qi (qi Key×V)}{k:qi Key}{v:V}(e:H a=some (.dT kvs))(eb:H b=some (.tup (k.map kV)))(hl:kvs.length<sizeLine):
  yli H a (.ref b) v (upd H a (.dT (Ń kvs k v))):=.inr ⟨kvs,k,b,e,rfl,eb,hl,rfl⟩
section
variable{σ:St}{H:Hp}{s:qa}{y v:V}{r:qb}{o:Ψ}{A:qe}
def Inv.big(I:Inv X pins σ H s):sysModules<s.heap.objs.size:=by have h:mainGlobals<s.heap.objs.size:=(I.mod.glob.keeps I.bk).lt;exact Nat.lt_trans ∅ h
def yij(hu:A.units+1<cLine)(I:Inv X pins σ H s)(g:İ H a y (some v))(ry:xu y u)(h:∀w' s',Inv X pins σ H s'->xu v w'->Q w' s'):
  wpAny (model X.prog X.w) A (getItem (.ref a) u) Q E s:=by
 rcases g with⟨j,k,e,i,l⟩|⟨j,k,b,e,i,r,l⟩
 .subst i;let⟨z,B,t,d,n⟩:=ydt I.hok e;let⟨w',f,c⟩:=ych.some_of (v:=v) (o:=valueAt t k) (by rw[l];exact d.val k);exact wpAny_getItem_of (yg2 ry) n.mapOf f (h w' _ (I.tok _) c)
 .subst i;cases (show u=Value.ref b from ry);let⟨z,B,q,d,n⟩:=yg4 I.hok e;let⟨w',f,c⟩:=ych.some_of (v:=v) (o:=(atKey q k).map (·.2)) (by rw[l];exact d.val k);let⟨p,x,m⟩:=cD.mp f;refine wpAny_getItem_heap (tupleKind_room_in1 hu) (yb5 I.hok r) n x ?_;rw[m];exact h w' _ (I.tok _) c
def vhy(hu:A.units+1<cLine)(I:Inv X pins σ H s)(g:İ H a y o)(ry:xu y u)(h:∀s',Inv X pins σ H s'->Q (.bool o.isSome) s'):
  wpAny (model X.prog X.w) A (compareOp .In u (.ref a)) Q E s:=by
 rcases g with⟨f,k,e,d,l⟩|⟨f,k,b,e,d,m,l⟩
 .subst d;let⟨z,j,p,c,i⟩:=ydt I.hok e;refine wpAny_in_of (yg2 ry) j i.mapOf ?_;rw[<- (c.val k).isSome_eq,<- l];exact h _ (I.tok _)
 .subst d;cases (show u=Value.ref b from ry);let⟨z,j,n,c,i⟩:=yg4 I.hok e;refine wpAny_in_heap (tupleKind_room_in1 hu) (yb5 I.hok m) j i ?_;have q:=(c.val k).isSome_eq;rw[Option.isSome_map]at q;rw[<- q,<- l];exact h _ (I.tok _)
def yu1(hu:A.units+1<cLine)(I:Inv X pins σ H s)(g:İ H a y o)(ry:xu y u)(h:∀s',Inv X pins σ H s'->Q (.bool (!o.isSome)) s'):
  wpAny (model X.prog X.w) A (compareOp .NotIn u (.ref a)) Q E s:=by
 rcases g with⟨f,k,e,d,l⟩|⟨f,k,b,e,d,m,l⟩
 .subst d;let⟨z,j,p,c,i⟩:=ydt I.hok e;refine wpAny_notIn_of (yg2 ry) j i.mapOf ?_;rw[<- (c.val k).isSome_eq,<- l];exact h _ (I.tok _)
 .subst d;cases (show u=Value.ref b from ry);let⟨z,j,n,c,i⟩:=yg4 I.hok e;refine wpAny_notIn_heap (tupleKind_room_in1 hu) (yb5 I.hok m) j i ?_;have q:=(c.val k).isSome_eq;rw[Option.isSome_map]at q;rw[<- q,<- l];exact h _ (I.tok _)
def ydj{t':Nat}{ob:HO}(I:Inv X pins σ H s)(mu:Mut (H a))(hs:Heap.SameBut a s.heap h')(he:∃q,h'.get? a=some q)(new:xm X.prog X.w (upd H a ob) h' a ob):
  Inv X pins σ (upd H a ob) {s with heap:=h',toks:=t'} :=
 I.write (x:=a) (e:=a) mu (.inl rfl) (λb q c z=>(hs.2 b c).trans z) he new
def yp9{w:qd}{H':Hp}{kvs:Κ}{vs:qi (Key×qb)}(z:kvs.length<=sizeLine)(hd:(a == sysModules)=false)(rel:KV kvs vs)(dd:h'.DictOf (wu P w) a vs):
  xm P w H' h' a (.dK kvs):=⟨z,hd,vs,rel,dd⟩
def yig{H':Hp}{Q:Unit->qa->Prop}(hu:A.units+1<cLine)(I:Inv X pins σ H s)(g:yli H a y v H')(ry:xu y u)(rv:xu v r)(h:∀s',Inv X pins σ H' s'->Q ⟨⟩ s'):
  wpAny (model X.prog X.w) A (setItem (.ref a) u r) Q E s:=by
 rcases g with⟨d,k,e,o,l,t⟩|⟨d,k,b,e,o,C,l,t⟩
 .subst o t;let⟨z,m,K,f,B⟩:=vdx I.hok e;have x:K.length<=sizeLine:=by rw[<- f.length];exact z
  have p:(Ń d k v).length<=sizeLine:=by have:=Ę d k v;omega
  refine wpAny_setItem_pairs (hsz:=x) (yg2 ry) B λF i n=>h _ ?_;have M:∃q,F.get? a=some q:=let ⟨q,_,_,j,_⟩:=i;⟨q,j⟩;exact ydj I (by rw[e];exact True.intro) n M (yp9 p m (f.put k rv) i)
 .subst o t;cases (show u=Value.ref b from ry);let⟨z,m,G,f,B⟩:=vfs I.hok e;have x:G.length<=sizeLine:=by rw[<- Paired.length f];exact z
  have p:(Ń d k v).length<=sizeLine:=by have:=Ę d k v;omega
  refine wpAny_setItem_heap (hsz:=x) (tupleKind_room_in1 hu) (yb5 I.hok C) B λF i n=>h _ ?_;let⟨q,N,O,j,L,R,J,_,P⟩:=i;refine ydj I (by rw[e];exact True.intro) n ⟨q,j⟩ ⟨p,m,_,(f.put k C rv).keeps λc S D=>?_,q,N,O,j,L,R,J,P⟩
  rw[ym (w8 D e (λz=>nomatch z))]
  exact D
end
section
variable{σ:St}{H:Hp}{s:qa}{kvs:Κ}{k:Key}{A:qe}
def vf3{v:V}{more:Ο}(I:Inv X pins σ H s)(e:H a=some (.dK kvs))(ry:xu (kV k) u)(l:z5 kvs k=some v)(hm:more=[]\/∃x,more=[x])
  (h:∀w' s',Inv X pins σ (upd H a (.dK (ß kvs k))) s'->xu v w'->Q w' s'):wpAny (model X.prog X.w) A (call (.builtin "dict.pop") (.ref a::u::more)) Q E s:=by
 let⟨z,B,f,b,g⟩:=vdx I.hok e;let⟨w',j,d⟩:=ych.some_of (v:=v) (o:=valueAt f k) (by rw[<- l];exact b.val k)
 have y:(keyPart u).isSome=true:=by
  cases k with
  |inl i=>let⟨t,q⟩:=(show ∃t,u=Value.int i t from ry);subst q;rfl
  |inr x=>let⟨t,q⟩:=(show ∃t,u=Value.str x t from ry);subst q;rfl
 have p:argsOk "dict.pop" ⟨.ref a::u::more,[]⟩:=by
  rcases hm with q|⟨x,q⟩
  .subst q;exact PySem.F.args_dict_pop_2 _ _
  .subst q;exact PySem.F.args_dict_pop_3 _ _ _
 refine call_meetsIn PySem.F.slot_dict_pop g.typeIs PySem.F.entry_dict_pop p (meets_dict_pop_there (wu X.prog X.w) a (yg2 ry) more hm y)
  ⟨f,w',g,by rw[<- b.length];exact z,j,λr c m=>h w' _ ?_ d⟩
 have n:∃q,r.get? a=some q:=let ⟨q,_,_,hq,_⟩:=c;⟨q,hq⟩;exact ydj I (by rw[e];exact True.intro) m n (yp9 (bF (yl7 kvs k) z) B (b.drop k) c)
def vfi(I:Inv X pins σ H s)(e:Rd H a (.dK kvs))(h:∀t s',Inv X pins σ H s'->Q (.int kvs.length t) s'):wpAny (model X.prog X.w) A (call (.builtin "len") [.ref a]) Q E s:=by let⟨z,d,f,b,c⟩:=ydt I.hok e;refine call_len_dict d c (by rw[<- b.length];rw[sizeLine_eq]at z;omega) ?_;rw[<- b.length];exact h _ _ (I.tok _)
end
def vhb(i:qg):Prop:=∀ov iv,subscripted i false ov iv=operate [ov,iv] (getItem ov iv)
def yuw{prog:qh}{w:qd}{A:qe}{s:qa}{env:Env}{value slice:qg}{pos:Pos}{T id:String} 
  (hl:typeLookup (.type T) "__getitem__"=pure (some (.builtin id))) (hs:vhb slice)
  (h:wpAny (model prog w) A (eval value env) (λo s₁=>wpAny (model prog w) A (eval slice env) (λi s₂=>s₂.TypeIs o T/\wpAny (model prog w) A (getItem o i) Q E s₂) E s₁) E s):
  wpAny (model prog w) A (eval (.Subscript value slice pos) env) Q E s:=by
 refine Subscript_ (cJ h (λo s₁ h₁=>cJ h₁ (λi s₂ h₂=>?_) λZ Z x=>x) λZ Z x=>x);let⟨b,h₂⟩:=h₂;unfold subscriptTail;refine bb ?_;rw[getitemInPython_of_ne b.not_modules];refine bb (wpAny_specialOf b hl ?_)
 have a:wpAny (model prog w) A (subscripted slice false o i) (λr s₃=>wpAny (model prog w) A (letTemporaryGo value o r >>=λZ=>pure r) Q E s₃) E s₂:=by
  rw[hs o i];exact wpAny_operating (cJ h₂ (λr s₃ h₃=>bb (wpAny_letTemporaryGo (bh h₃))) λZ Z x=>x)
 first
  |exact bh (bb a)
  |exact bb (bh (bb a))
  |exact bb a
def yc5{σ:St}{H:Hp}{s:qa}{y:V}{o:Ψ}(I:Inv X pins σ H s)(g:İ H a y o):s.TypeIs (.ref a) "dict":=by
 rcases g with⟨c,k,e,_,_⟩|⟨c,k,b,e,_,_,_⟩
 .obtain⟨_,_,f,_,d⟩:=ydt I.hok e;exact d.typeIs
 .obtain⟨_,_,h,_,d⟩:=yg4 I.hok e;exact d.typeIs
def vdc(td ty:TE):TE:=λσ H Q=>td σ H λx H1=>ty σ H1 λy H2=>∃a v,x=.ref a/\İ H2 a y (some v)/\Q v H2
def vhj(ty td:TE):TE:=λσ H Q=>ty σ H λy H1=>td σ H1 λx H2=>∃a o,x=.ref a/\İ H2 a y o/\Q (.bl o.isSome) H2
def yjc(ty td:TE):TE:=λσ H Q=>ty σ H λy H1=>td σ H1 λx H2=>∃a o,x=.ref a/\İ H2 a y o/\Q (.bl (!o.isSome)) H2
def vb6(td ty tv:TE):TS:=λD σ H=>tv σ H λv H1=>td σ H1 λx H2=>ty σ H2 λy H3=>∃a H4,x=.ref a/\yli H3 a y v H4/\D.nx σ H4
section
variable{o i value:qg}{pos pos' tpos:Pos}{td ty tv:TE}
def Ç(hu:X.A.units+1<cLine)(ho:PE X o td)(hi:PE X i ty)(hs:vhb i):PE X (.Subscript o i pos) (vdc td ty):=by refine .mk λb s σ H Q I h=>?_;refine yuw PySem.F.slot_dict_getitem.lookup hs (thn (ho b s σ H _ I h) λu p ⟨x,k,l,e,n⟩=>thn (hi b p σ k _ l n) λz w h'=>?_);let⟨y,r,d,m,a,v,j,g,q⟩:=h';subst j;obtain rfl:u=Value.ref a:=e;exists yc5 d g,yij hu d g m λB t f c=>⟨v,r,f,c,q⟩
def yrv(hu:X.A.units+1<cLine)(hi:PE X i ty)(ho:PE X o td):PC X .In i o (vhj ty td):=by intro b s σ H Q I h;refine thn (hi b s σ H _ I h) λw m ⟨y,j,k,q,l⟩=>thn (ho b m σ j _ k l) λu v h'=>?_;let⟨x,r,f,c,a,n,e,g,p⟩:=h';subst e;obtain rfl:u=Value.ref a:=c;exact vhy hu f g q λt d=>⟨.bl n.isSome,r,d,rfl,p⟩
def ybz(hu:X.A.units+1<cLine)(hi:PE X i ty)(ho:PE X o td):PC X .NotIn i o (yjc ty td):=by intro b s σ H Q I h;refine thn (hi b s σ H _ I h) λw m ⟨y,j,k,q,l⟩=>thn (ho b m σ j _ k l) λu v h'=>?_;let⟨x,r,f,c,a,n,e,g,p⟩:=h';subst e;obtain rfl:u=Value.ref a:=c;exact yu1 hu f g q λt d=>⟨.bl (!n.isSome),r,d,rfl,p⟩
def yao(hu:X.A.units+1<cLine)(ho:PE X o td)(hi:PE X i ty)(hv:PE X value tv)(hs:swapsWith value (some (.Subscript o i pos')) pos.line X.env=pure false):
  PS X (.Assign [.Subscript o i pos'] value pos) (vb6 td ty tv):=by refine .mk λb s σ H D I h=>?_;refine wpAny_Assign_Subscript (thn (hv b s σ H _ I h) λr B ⟨v,j,k,q,m⟩=>thn (ho b B σ j _ k m) λu p ⟨x,C,f,t,d⟩=>thn (hi b p σ C _ f d) λF E h'=>?_) hs;let⟨y,J,z,w,a,n,e,g,l⟩:=h';subst e;obtain rfl:u=Value.ref a:=t;exact yig hu z g w q λG c=>⟨σ,n,c,l⟩
end
def yl5{w:qd}{H:Hp}(h:qf)(hb:sysModules<h.objs.size):xm P w H (h.push { cls:=.type "dict",data:=.dict #[]}) h.objs.size (.dK []) :=
 ⟨bJ _,cN.mpr (Ne.symm (bT hb)),[],.nil,Heap.DictOf.new h⟩
def ync{w:qd}{H:Hp}(h:qf)(hb:sysModules<h.objs.size):xm P w H (h.push { cls:=.type "dict",data:=.dict #[]}) h.objs.size (.dT []) :=
 ⟨bJ _,cN.mpr (Ne.symm (bT hb)),[],.nil,_,#[],0,br _ rfl,⟨rfl,rfl,rfl⟩,rfl,rfl,List.nodup_nil⟩
def yon:TE:=λZ H Q=>∀p,H p=none->Q (.ref p) (upd H p (.dK []))
def yo3:TE:=λZ H Q=>∀p,H p=none->Q (.ref p) (upd H p (.dT []))
section
variable{pos:Pos}
def yee:PE X (.Dict [] [] pos) yon:=.mk λb s σ H Q I h =>
 wpAny_Dict_empty ⟨.ref s.heap.objs.size,_,I.laid (a:=s.heap.objs.size) (o:=.dK []) (t':=s.toks) (λZ Z q=>be _ q) (bf _) (yl5 s.heap I.big),rfl,h _ (I.hok.fresh (bf _))⟩
def yd8:PE X (.Dict [] [] pos) yo3:=.mk λb s σ H Q I h =>
 wpAny_Dict_empty ⟨.ref s.heap.objs.size,_,I.laid (a:=s.heap.objs.size) (o:=.dT []) (t':=s.toks) (λZ Z q=>be _ q) (bf _) (ync s.heap I.big),rfl,h _ (I.hok.fresh (bf _))⟩
end
structure M1(X:Cx)(o:qg)(m:Str)(apos:Pos)(e:qg)(cpos:Pos):Prop where
 base:attributeBase o m X.env (eval o X.env)=eval o X.env
 few:((backTo cpos (starEach [e] X.env)).all (λx=>!x.1) && (backToKw cpos (keywordEach [] X.env)).all (λx=>x.1.isSome)
  && decide (([e]:qi qg).length+([]:qi Keyword).length+(if ([]:qi Keyword).isEmpty then 0 else 1)<30))=true
 line:(apos.endLine == cpos.line)=true
 trees:backTo cpos (starEach [e] X.env)=[(false,eval e X.env)]
structure M2(X:Cx)(o:qg)(m:Str)(apos:Pos)(e f:qg)(cpos:Pos):Prop where
 base:attributeBase o m X.env (eval o X.env)=eval o X.env
 few:((backTo cpos (starEach [e,f] X.env)).all (λx=>!x.1) && (backToKw cpos (keywordEach [] X.env)).all (λx=>x.1.isSome)
  && decide (([e,f]:qi qg).length+([]:qi Keyword).length+(if ([]:qi Keyword).isEmpty then 0 else 1)<30))=true
 line:(apos.endLine == cpos.line)=true
 trees:backTo cpos (starEach [e,f] X.env)=[(false,eval e X.env),(false,eval f X.env)]
def IsD(H:Hp)(a:z4):Prop:=(∃kvs,Rd H a (.dK kvs))\/∃kvs,Rd H a (.dT kvs)
def vah{σ:St}{H:Hp}{s:qa}(I:Inv X pins σ H s)(d:IsD H a):
  s.TypeIs (.ref a) "dict"/\(∀b,Value.ref a=.ref b->∃ob,s.heap.get? b=some ob/\ob.dict=none)/\(a == sysModules)=false:=by
 rcases d with⟨h,e⟩|⟨h,e⟩
 .obtain⟨_,i,k,_,c⟩:=ydt I.hok e;exists c.typeIs,λb q=>?_,i;cases q;let⟨ob,_,_,f,g,_⟩:=c;exact⟨ob,f,g.2.1⟩
 .obtain⟨_,i,j,_,c⟩:=yg4 I.hok e;exists c.typeIs,λb q=>?_,i;cases q;let⟨ob,_,_,f,g,_⟩:=c;exact⟨ob,f,g.2.1⟩
def yrr(td ty:TE):TE:=λσ H Q=>td σ H λx H1=>∃a,x=.ref a/\IsD H1 a/\ty σ H1 λy H2=>∃kvs k v,H2 a=some (.dK kvs)/\y=kV k/\z5 kvs k=some v/\Q v (upd H2 a (.dK (ß kvs k)))
section
variable{o f:qg}{apos cpos:Pos}{td ty tx:TE}
def ydz(ho:PE X o td)(he:PE X e ty)(m:M1 X o "pop" apos e cpos):PE X (.Call (.Attribute o "pop" apos) [e] [] cpos) (yrr td ty):=by refine .mk λb s σ H Q I h=>?_;refine wpAny_Call_method m.base m.few m.line PySem.F.plainAttrs_dict PySem.F.slot_dict_pop PySem.F.type_dict_pop (thn (ho b s σ H _ I h) λu D h'=>?_);let⟨x,n,f,r,a,i,d,q⟩:=h';subst i;obtain rfl:u=Value.ref a:=r;let⟨t,A,_⟩:=vah f d;exists t,A,?_;rw[m.trees];refine Calls.callWith_builtin rfl (Calls.evalArgs_plain (Calls.spliced_cons (thn (he b D σ n _ f q) λJ K ⟨y,L,j,z,p,k,v,C,w,l,g⟩=>Calls.spliced_nil ?_)));subst w;exact vf3 j C z l (.inl rfl) λE G B c=>⟨v,_,B,c,g⟩
end
@[irreducible] def QE(X:Cx)(e:qg)(t:TE):Prop:=PE X e t
@[irreducible] def QSs(X:Cx)(st:qi qc)(t:TS):Prop:=PSs X st t
@[irreducible] def QS(X:Cx)(st:qc)(t:TS):Prop:=PS X st t
section
variable{te:TE}{pos:Pos}{ts us:TS}{ρ:qi qc}
def yg{R:TS->Prop}(h1:PS X st ts)(h2:∃us,PSs X ρ us/\R (vgn ts us)):∃t,PSs X (st::ρ) t/\R t:=let ⟨_,a,b⟩:=h2;⟨_,yf h1 a,b⟩
end
theorem yad:∀{bs:qi Bool}{us:Ο},wz (bs.map V.bl) us->us=bs.map Value.bool
 |[],_,.nil=>rfl
 |b::r,_,.cons a t=>by rw[show _=Value.bool b from a,yad t];rfl
def yiw(bs:qi Bool):((List.range bs.length).all λi=>(bs[i]?).getD true)=bs.all id:=by
 rw[Bool.eq_iff_iff,List.all_eq_true,List.all_eq_true]
 constructor
 .intro h b c;let⟨i,a,rfl⟩:=List.getElem_of_mem c;have:=h i (cc.mpr a);rw[bc a]at this;exact this
 .intro h i a;have a:=cc.mp a;rw[bc a];exact h _ (bV a)
def jo(hc:X.calm=true):jy X (.builtin "all") (λxs H Q=>∃p bs,xs=[.ref p]/\SqL X.K H p (List.map V.bl bs)/\Q (.bl (bs.all id)) H):=by
 intro g s σ H xs D Q I r h;let⟨p,bs,rfl,w,q⟩:=h;let⟨u,rfl,o⟩:=þ r;cases o;let⟨j,t,m,E⟩:=I.list w;obtain rfl:=yad t;have f:=m.isList;have d:p<s.heap.objs.size:=by let⟨_,e,_⟩:=f;exact bw e
 refine call_all_walk (wpAny_pyIter_list f ?_)
 refine⟨s.heap.objs.size,[s.heap.objs.size,p],[s.heap.objs.size],(bs.map Value.bool).toArray.size,_,_,λi=>(bs[i]?).getD true,rfl,Walks.list (A:=X.A.in1) (show X.A.handled=none from I.ok.hd hc) _ p (bT d) (bs.map Value.bool).toArray,
  ⟨⟨_,br _ rfl,rfl,rfl⟩,f.push _⟩,λi v B z y a c=>?_,λC n l=>?_⟩
 .have a:(bs.map Value.bool)[i]?=some v:=by simpa using a
  rw[bi]at a
  cases e:bs[i]? with
  |none=>rw[e]at a;cases a
  |some b =>
   dsimp only at c;rw[e]at a c;cases a;exact cq c
 .have e:((List.range (bs.map Value.bool).toArray.size).all λi=>(bs[i]?).getD true)=bs.all id:=by
   rw[bC,ba];exact yiw bs
  rw[e];exists .bl (bs.all id),H,I.kept (t':=n) λb x e=>l b x (λk=>?_) (be _ e),rfl,q;rw[bp.mp k]at e;exact cI _ (bw e)
set_option tactic.hygienic true in
theorem z6{env:Env}:∀{names:qi (Str×NameKind)}{x:Str}{k:NameKind},
  (names.map λ(n,k)=>if (k == NameKind.free && env.scope.kind == .function && env.kindOf n == some .cell)then (n,NameKind.cell)else (n,k)).lookup x=some k->∃k0,(x,k0)∈names/\(k=k0\/k0=.free)
 |[],_,_,h=>by simp at h
 |(n,k1)::r,x,k,h=>by
  rw[bS]at h;by_cases hx:x=n
  .subst hx;exists k1,.head _,?_;dsimp only at h
   split at h
   .rename_i hc
    simp only[bL,beq_iff_eq]at hc;exact .inr hc.1.1
   .simp[List.lookup]at h;exact .inl h.symm
  .have:(x == n)=false:=by simpa using hx
   have a:(r.map λ(n,k)=>if (k == NameKind.free && env.scope.kind == .function && env.kindOf n == some .cell)then (n,NameKind.cell)else (n,k)).lookup x=some k:=by
    dsimp only at h
    split at h<;>simpa[List.lookup,this]using h
   let⟨k0,m,q⟩:=z6 a;exists k0,.tail _ m,q
noncomputable def ı(ys:Τ)(env:Env):qi (Str×z4):=ys.map λy=>(y,(env.cells.lookup y).getD 0)
theorem yd9{env:Env}:∀{ys:Τ}{y:Str}{c:z4},(ı ys env).lookup y=some c->y∈ys/\c=(env.cells.lookup y).getD 0
 |[],_,_,h=>by simp[ı]at h
 |z::r,y,c,h=>by
  by_cases hy:y=z
  .subst hy;simp[ı,List.lookup]at h;exists .head _,h.symm
  .have a:(y == z)=false:=by simpa using hy
   have b:(ı r env).lookup y=some c:=by simpa[ı,List.lookup,a]using h
   let⟨m,e⟩:=yd9 b;exists .tail _ m,e
theorem yah{env:Env}:∀{ys:Τ}{y:Str},y∈ys->(ı ys env).lookup y=some ((env.cells.lookup y).getD 0)
 |z::r,y,h=>by
  by_cases hy:y=z
  .subst hy;simp[ı,List.lookup]
  .have b:(y == z)=false:=by simpa using hy
   have a:y∈r:=by
    rcases bq.mp h with q|q
    .exact absurd q hy
    .exact q
   have:=yah (env:=env) a;simpa[ı,List.lookup,b]using this
abbrev Cx.compF(X:Cx)(scope:Scope)(ys:Τ)(C:z4)(x:Str)(s2:qa)(H2:Hp)(fp:Χ):Cx :=
 {X with N:=x::ys,s₀:=s2,H₀:=H2,env:=compEnvC scope (ı ys X.env) C X.env,outer:=X.stack,ex:=fp,fn:=λZ=>false,pn:=[],xe:=λZ Z=>False}
def u6(J:It)(te:TE)(fr:St)(D:z4)(R:Hp->Prop)(H1:Hp):Prop:=∃W:Nat->Nat->Hp->Prop,(∃m,W 0 m (upd H1 D (.lst [])))/\
 ∀i m H2,W i m H2->(J.stop i H2/\R H2)\/(J.go i H2/\∀x H3,J.yld i H2 x H3->te (some x::fr) H3 λy H4=>∃ys,H4 D=some (.lst ys)/\ys.length<sizeLine/\∃m',m'<m/\W (i+1) m' (upd H4 D (.lst (ys++[y]))))
noncomputable def uz(js:qi Nat)(σ:St):St:=js.map λj=>(σ[j]?).getD none
def yk6(wi:TI)(te:TE)(js:qi Nat):TE:=λσ H Q=>wi σ H λJ H1=>∀D,H1 D=none->u6 J te (uz js σ) D (λH2=>Q (.ref D) H2) H1
section
variable{iter elt:qg}{x:Str}{px pos:Pos}{te:TE}{wi:TI}{σ:St}{ys:Τ}{js:qi Nat}
def ytk{H:Hp}{Q:VK}(h:wi σ H λJ H1=>∀D,H1 D=none->u6 J te (uz js σ) D (λH2=>Q (.ref D) H2) H1):yk6 wi te js σ H Q:=h
def Ō{K:z3}{D:z4}{xs:Υ}{fr:St}{R:Hp->Prop}{H1:Hp}(Pv:Nat->Hp->Prop)(h0:Pv 0 (upd H1 D (.lst [])))(hl:∀i H,i<=xs.length->Pv i H->SqL K H a xs)
  (hs:∀i x H,xs[i]?=some x->i<xs.length->Pv i H->te (some x::fr) H λy H4=>∃ys,H4 D=some (.lst ys)/\ys.length<sizeLine/\∃m',m'<xs.length-i/\cW xs.length Pv (i+1) m' (upd H4 D (.lst (ys++[y]))))
  (hd:∀H,Pv xs.length H->R H):u6 (Itl K a) te fr D R H1:=by
 exists cW xs.length Pv,⟨xs.length,by simp,bJ _,h0⟩,?_;rintro i m H ⟨rfl,b,p⟩;have q:=hl i H b p;by_cases hlt:i<xs.length
 .refine .inr ⟨⟨xs,xs[i],q,by simp[hlt]⟩,λx c y=>?_⟩;let⟨e,y⟩:=y;subst e;exact hs i x _ (y xs q) hlt p
 .have e:i=xs.length:=()
  subst e;exact .inl ⟨⟨xs,q,bf _⟩,hd H p⟩
def ycz{lo:Int}{n:Nat}{D:z4}{fr:St}{R:Hp->Prop}{H1:Hp}(Pv:Nat->Hp->Prop)(h0:Pv 0 (upd H1 D (.lst [])))
  (hs:∀i H,i<n->Pv i H->te (some (.int (lo+i))::fr) H λy H4=>∃ys,H4 D=some (.lst ys)/\ys.length<sizeLine/\∃m',m'<n-i/\cW n Pv (i+1) m' (upd H4 D (.lst (ys++[y]))))
  (hd:∀H,Pv n H->R H):u6 (Itr lo n) te fr D R H1:=by
 exists cW n Pv,⟨n,by simp,bJ _,h0⟩,?_;rintro i m H ⟨rfl,a,p⟩;by_cases hlt:i<n
 .refine .inr ⟨hlt,λx b y=>?_⟩;let⟨e,y⟩:=y;subst e y;exact hs i _ hlt p
 .have e:i=n:=()
  subst e;exact .inl ⟨bf _,hd H p⟩
end
end L2
namespace L2
def yy{α:Type}{P:α->Prop}:∀y∈([]:qi α),P y:=λZ h=>nomatch h
def all_cons{α:Type}{P:α->Prop}{y:α}{r:qi α}(h:P y)(t:∀z∈r,P z):∀z∈y::r,P z:=λz a=>by
 rcases bq.mp a with e|a
 .exact e ▸ h
 .exact t z a
end L2
namespace L2
open PySem PySem.Spec PyProof.Rows
section
variable{X:Cx}
theorem yep:∀{ns:Ρ}{us:Ο},wz (ns.map V.int) us->∃xs:Array (Int×Tok),us.toArray=intItems xs/\xs.toList.map (·.1)=ns
 |[],_,.nil=>⟨#[],by simp[intItems],rfl⟩
 |n::r,_,.cons (l₂:=us) a t=>by
  let⟨d,rfl⟩:=a;let⟨xs,b,c⟩:=yep t;exists((n,d)::xs.toList).toArray,?_,by simp[c]
  have:us=(intItems xs).toList:=by rw[<- b]
  rw[this];simp[intItems]
def Ñ(hc:X.calm=true):jy X (.builtin "sum") (λvs H Q=>∃p ns,vs=[.ref p]/\SqL X.K H p (List.map V.int ns)/\Q (.int ns.sum) H):=by intro a s σ H o n Q I r h;let⟨p,ns,rfl,m,q⟩:=h;let⟨u,rfl,b⟩:=þ r;cases b;let⟨d,e,g,v⟩:=I.list m;let⟨k,j,f⟩:=yep e;have i:s.heap.IsList p (intItems k):=j ▸ g.isList;refine sum_intListG (I.ok.hd hc) i λt l t' c=>?_;rw[preSum_eq,bZ (by simp),f];exists .int ns.sum,H,I.kept (t':=l) c,⟨_,rfl⟩,q
end
variable{it:z4}{fp:Χ}{i:Nat}{tn:Nat->qf->Prop}{s2:qa}
section
variable{X:Cx}{e:qg}{t1 t2:TE}
def yoi(t1 t2:TE):TE:=λσ H Q=>t1 σ H Q\/t2 σ H Q
def Ş(h1:PE X e t1)(h2:PE X e t2):PE X e (yoi t1 t2):=by
 refine .mk λa s σ H Q I h=>?_;rcases h with h|h
 .exact h1 a s σ H Q I h
 .exact h2 a s σ H Q I h
def ş{σ:St}{H:Hp}{Q:VK}(h:t1 σ H Q):yoi t1 t2 σ H Q:=.inl h
def Û{σ:St}{H:Hp}{Q:VK}(h:t2 σ H Q):yoi t1 t2 σ H Q:=.inr h
end
def vbb(i j:Int):Prop:=∃k:Nat,i.natAbs<2^k/\j.natAbs<2^k/\k<=2^20
def ytf{X:Cx}:OpR X (binaryOp .Mult) (rI vbb λi j=>.int (i*j)):=opI λZ Z Z Z Z Z Z c q=>mul_int q (by
 let⟨k,b,d,a⟩:=c;exact IntMulOk.of_bits (bF (PyProof.Rows.intBits_le b) a) (bF (PyProof.Rows.intBits_le d) a))
def yxl{i j:Int}{H:Hp}{Q:VK}(k:Nat)(h1:i.natAbs<2^k)(h2:j.natAbs<2^k)(h3:k<=2^20)(h:Q (.int (i*j)) H):rI vbb (λi j=>.int (i*j)) (.int i) (.int j) H Q:=⟨i,j,rfl,rfl,⟨k,h1,h2,h3⟩,h⟩
def y6{H:Hp}{p:z4}{o:HO}{A:Hp->Prop}(hp:H p=none)(h:∀H',yr H H'->H' p=some o->A H'):A (upd H p o):=h _ (yz hp) ya
def yq{α:Type}{H:Hp}{p:z4}{o:HO}{A:Hp->α->Prop}{Q:α}(hp:H p=none)(h:∀H',yr H H'->H' p=some o->A H' Q):A (upd H p o) Q:=h _ (yz hp) ya
section
variable{K:z3}{a D:z4}{xs:Υ}{te:TE}{fr:St}{R:Hp->Prop}{H1:Hp}
def yby(Pv:Nat->Hp->Prop)(h0:Pv 0 (upd H1 D (.lst [])))(hl:∀i H,i<=xs.length->Pv i H->SqT K H a xs)
  (hs:∀i x H,xs[i]?=some x->i<xs.length->Pv i H->te (some x::fr) H λy H4=>∃ys,H4 D=some (.lst ys)/\ys.length<sizeLine/\∃m',m'<xs.length-i/\cW xs.length Pv (i+1) m' (upd H4 D (.lst (ys++[y]))))
  (hd:∀H,Pv xs.length H->R H):u6 (Itt K a) te fr D R H1:=by
 exists cW xs.length Pv,⟨xs.length,by simp,bJ _,h0⟩,?_;rintro i m H ⟨rfl,b,p⟩;have q:=hl i H b p;by_cases hlt:i<xs.length
 .refine .inr ⟨⟨xs,xs[i],q,by simp[hlt]⟩,λx c y=>?_⟩;let⟨e,y⟩:=y;subst e;exact hs i x _ (y xs q) hlt p
 .have e:i=xs.length:=()
  subst e;exact .inl ⟨⟨xs,q,bf _⟩,hd H p⟩
def ymg(Pv:Nat->Hp->Prop)(h0:Pv 0 (upd H1 D (.lst [])))(hl:∀i H,i<=xs.length->Pv i H->SqT K H a xs)
  (hs:∀i x H,xs[i]?=some x->i<xs.length->Pv i H->te [some x] H λy H4=>∃ys,H4 D=some (.lst ys)/\ys.length<sizeLine/\∃m',m'<xs.length-i/\cW xs.length Pv (i+1) m' (upd H4 D (.lst (ys++[y]))))
  (hd:∀H,Pv xs.length H->R H):yfr (Itt K a) te D R H1:=by
 exists cW xs.length Pv,⟨xs.length,by simp,bJ _,h0⟩,?_;rintro i m H ⟨rfl,b,p⟩;have q:=hl i H b p;by_cases hlt:i<xs.length
 .refine .inr ⟨⟨xs,xs[i],q,by simp[hlt]⟩,λx c y=>?_⟩;let⟨e,y⟩:=y;subst e;exact hs i x _ (y xs q) hlt p
 .have e:i=xs.length:=()
  subst e;exact .inl ⟨⟨xs,q,bf _⟩,hd H p⟩
def Mp(H1:Hp)(D:z4)(f:Nat->V)(i:Nat)(H:Hp):Prop:=yr H1 H/\H D=some (.lst ((List.range i).map f))
def Mp.zero{f:Nat->V}(hD:H1 D=none):Mp H1 D f 0 (upd H1 D (.lst [])):=⟨yz hD,ya⟩
def Mp.step{f:Nat->V}{n:Nat}{H4:Hp}{y:V}(hD:H1 D=none)(hn:n<sizeLine)(hi:i<n)(S:yr H1 H4)(h4:H4 D=some (.lst ((List.range i).map f)))(e:y=f i):
  ∃ys,H4 D=some (.lst ys)/\ys.length<sizeLine/\∃m',m'<n-i/\cW n (Mp H1 D f) (i+1) m' (upd H4 D (.lst (ys++[y]))):=by
 refine x8 (n:=n) h4 (by rw[ba,bQ];omega) hi ⟨?_,?_⟩
 .intro b o a;rw[ym (yb a hD)];exact S b o a
 .rw[ya,List.range_succ,bz,e];rfl
def Ġ{f:Nat->V}{g:V->V}(h:∀i x,xs[i]?=some x->f i=g x):(List.range xs.length).map f=xs.map g:=by
 refine List.ext_getElem? λi=>?_;rw[bi,bi];by_cases hi:i<xs.length
 .rw[cj hi,bc hi];show some (f i)=some (g xs[i]);rw[h i _ (bc hi)]
 .rw[bK (by rw[bQ];omega),bK ()];rfl
noncomputable def ofG(g:V->V)(xs:Υ)(i:Nat):V:=((xs[i]?).map g).getD .non
def ye3{g:V->V}{x:V}(h:xs[i]?=some x):ofG g xs i=g x:=by unfold ofG;rw[h];rfl
def MpK(H1:Hp)(D:z4)(f:Nat->V)(n i:Nat):VK:=λy H4=>∃ys,H4 D=some (.lst ys)/\ys.length<sizeLine/\∃m',m'<n-i/\cW n (Mp H1 D f) (i+1) m' (upd H4 D (.lst (ys++[y])))
def Mp.done{g:V->V}{x y:V}{H4:Hp}(hD:H1 D=none)(hn:xs.length<sizeLine)(hx:xs[i]?=some x)(S:yr H1 H4)(h4:H4 D=some (.lst ((List.range i).map (ofG g xs))))(e:y=g x):MpK H1 D (ofG g xs) xs.length i y H4:=by
 have a:i<xs.length:=by
  rcases Nat.lt_or_ge i xs.length with q|q
  .exact q
  .rw[bK q]at hx;cases hx
 exact Mp.step hD hn a S h4 (e.trans (ye3 hx).symm)
def Mp.doneR{f:Nat->V}{n:Nat}{y:V}{H4:Hp}(hD:H1 D=none)(hn:n<sizeLine)(hi:i<n)(S:yr H1 H4)(h4:H4 D=some (.lst ((List.range i).map f)))(e:y=f i):MpK H1 D f n i y H4:=Mp.step hD hn hi S h4 e
def zd(g:V->V)(hq:SqL K H1 a xs)(hD:H1 D=none)
  (hs:∀i x H,xs[i]?=some x->yr H1 H->H D=some (.lst ((List.range i).map (ofG g xs)))->te (some x::fr) H (MpK H1 D (ofG g xs) xs.length i))
  (hd:∀H,yr H1 H->H D=some (.lst (xs.map g))->R H):u6 (Itl K a) te fr D R H1 :=
 Ō (Mp H1 D (ofG g xs)) (Mp.zero hD) (λZ Z Z p=>p.1.seq hq) (λi x H b c p=>hs i x H b p.1 p.2)
  λH p=>hd H p.1 (by rw[<- Ġ (f:=ofG g xs) λi x=>ye3];exact p.2)
def ŏ(g:V->V)(hq:SqT K H1 a xs)(hD:H1 D=none)
  (hs:∀i x H,xs[i]?=some x->yr H1 H->H D=some (.lst ((List.range i).map (ofG g xs)))->te (some x::fr) H (MpK H1 D (ofG g xs) xs.length i))
  (hd:∀H,yr H1 H->H D=some (.lst (xs.map g))->R H):u6 (Itt K a) te fr D R H1 :=
 yby (Mp H1 D (ofG g xs)) (Mp.zero hD) (λZ Z Z p=>p.1.tup hq) (λi x H b c p=>hs i x H b p.1 p.2)
  λH p=>hd H p.1 (by rw[<- Ġ (f:=ofG g xs) λi x=>ye3];exact p.2)
def yhx(g:V->V)(hq:SqT K H1 a xs)(hD:H1 D=none)
  (hs:∀i x H,xs[i]?=some x->yr H1 H->H D=some (.lst ((List.range i).map (ofG g xs)))->te [some x] H (MpK H1 D (ofG g xs) xs.length i))
  (hd:∀H,yr H1 H->H D=some (.lst (xs.map g))->R H):yfr (Itt K a) te D R H1 :=
 ymg (Mp H1 D (ofG g xs)) (Mp.zero hD) (λZ Z Z p=>p.1.tup hq) (λi x H b c p=>hs i x H b p.1 p.2)
  λH p=>hd H p.1 (by rw[<- Ġ (f:=ofG g xs) λi x=>ye3];exact p.2)
def õ{lo:Int}{n:Nat}(f:Nat->V)(hD:H1 D=none)
  (hs:∀i H,i<n->yr H1 H->H D=some (.lst ((List.range i).map f))->te (some (.int (lo+i))::fr) H (MpK H1 D f n i))
  (hd:∀H,yr H1 H->H D=some (.lst ((List.range n).map f))->R H):u6 (Itr lo n) te fr D R H1 :=
 ycz (Mp H1 D f) (Mp.zero hD) (λi H a p=>hs i H a p.1 p.2) λH p=>hd H p.1 p.2
end
structure Mk0(K:z3)(C:z4):Prop where
 makes:W.makesIn K C=true
 init:W.findIn K (.ref C) "__init__"=some (some (.builtin "object.__init__"))
 kp:W.keepIn K (.ref C)=true
abbrev Cx.compT(X:Cx)(scope:Scope)(ys:Τ)(C:z4)(xs:Τ)(s2:qa)(H2:Hp)(fp:Χ):Cx :=
 {X with N:=xs++ys,s₀:=s2,H₀:=H2,env:=compEnvC scope (ı ys X.env) C X.env,outer:=X.stack,ex:=fp,fn:=λZ=>false,pn:=[],xe:=λZ Z=>False}
variable{X:Cx}
def j6(J:It)(g:TG)(te:TE)(n:Nat)(fr:St)(D:z4)(R:Hp->Prop)(H1:Hp):Prop:=∃W:Nat->Nat->Hp->Prop,(∃m,W 0 m (upd H1 D (.lst [])))/\
 ∀i m H2,W i m H2->(J.stop i H2/\R H2)\/(J.go i H2/\∀x H3 pre,J.yld i H2 x H3->List.length pre=n->g x (pre++fr) H3 λσ' H'=>(∃pre',List.length pre'=n/\σ'=pre'++fr)/\te σ' H' λy H4=>∃ys,H4 D=some (.lst ys)/\ys.length<sizeLine/\∃m',m'<m/\W (i+1) m' (upd H4 D (.lst (ys++[y]))))
def yj7(wi:TI)(g:TG)(te:TE)(n:Nat)(js:qi Nat):TE:=λσ H Q=>wi σ H λJ H1=>∀D,H1 D=none->j6 J g te n (uz js σ) D (λH2=>Q (.ref D) H2) H1
def PTs(X:Cx)(ifs:qi qg)(t:TT):Prop:=∀(pins:Θ)(s:qa)(σ:St)(H:Hp)(Q:Bool->Hp->Prop),Inv X pins σ H s->t σ H Q ->
 wpAny (model X.prog X.w) X.A (forIn ifs true λc r=>if r=true then do let ok <- isTrue c X.env (eval c X.env);pure (ForInStep.yield ok)else pure (ForInStep.yield r)) (TP X pins σ Q) X.xe s
def vht:TT:=λZ H Q=>Q true H
def yvf:PTs X [] vht:=λZ Z σ H Z I h=>bh ⟨H,I,h⟩
def ys6(J:It)(g:TG)(tt:TT)(te:TE)(n:Nat)(fr:St)(D:z4)(R:Hp->Prop)(H1:Hp):Prop:=∃W:Nat->Nat->Hp->Prop,(∃m,W 0 m (upd H1 D (.lst [])))/\
 ∀i m H2,W i m H2->(J.stop i H2/\R H2)\/(J.go i H2/\∀x H3 pre,J.yld i H2 x H3->List.length pre=n->g x (pre++fr) H3 λσ' H'=>(∃pre',List.length pre'=n/\σ'=pre'++fr)/\tt σ' H' λb H4=>if b=true then te σ' H4 (λy H5=>∃ys,H5 D=some (.lst ys)/\ys.length<sizeLine/\∃m',m'<m/\W (i+1) m' (upd H5 D (.lst (ys++[y]))))else ∃m',m'<m/\W (i+1) m' H4)
section
variable{iter elt tg:qg}{xs:Τ}{g:TG}{pos:Pos}{scope:Scope}{te:TE}{wi:TI}{ifs:qi qg}{tt:TT}{pins:Θ}{σ:St}{ys:Τ}{js:qi Nat}
def yfz{H2:Hp}{J:It}(hc:X.calm=true)
  (ht:∀(C:z4)(s2:qa)(H2:Hp)(fp:Χ),PTs (X.compT scope ys C xs s2 H2 fp) ifs tt) (he:∀(C:z4)(s2:qa)(H2:Hp)(fp:Χ),PE (X.compT scope ys C xs s2 H2 fp) elt te)
  (hgt:∀(C:z4)(s2:qa)(H2:Hp)(fp:Χ),PG (X.compT scope ys C xs s2 H2 fp) tg g)
  (hcell:∀y∈scope.names,y.2≠.cell) (hkind:scope.kind=.function)
  (hfr:∀y∈scope.names,y.2=.free->y.1∈ys) (hyc:∀y∈ys,X.env.kindOf y=some .cell) (hrel:∀y∈ys,(relabel scope X.env).names.lookup y=some .cell) (hjs:js.map (λj=>X.N[j]?)=ys.map some)
  (I2:Inv X pins σ H2 s2) (T:ydx X.prog X.w X.K tg J fp it tn) (st2:tn 0 s2.heap) (f2:∀b∈fp,yfu X pins H2 b)
  {R:z4->Hp->Prop} (h:∀D,H2 D=none->ys6 J g tt te xs.length (uz js σ) D (R D) H2) {RR:qb->z4->Result->qa->Prop} {E:Δ}
  (hR:∀(D C:z4)(H':Hp)(s':qa)(m:Ε),yfu X pins H' C->s'.heap.Ns C m->Inv X pins σ H' s'->R D H'->RR (.ref D) C (.ok .next) s'):
  wpAny (model X.prog X.w) X.A (newList []) (λacc s₃=>wpAny (model X.prog X.w) X.A (newFunctionEnv scope X.env.globals (ı ys X.env) [] X.env.qual none .none (some X.env)) (λcenv s₄ =>
   codeAny (model X.prog X.w) X.A (.compStart (.ListComp elt [⟨tg,iter,ifs,0⟩] scope pos) 0 (.ref it) acc {cenv with scope:=relabel scope X.env}) (RR acc cenv.locals) s₄) E s₃) E s2:=by
 have k:∀y c,(ı ys X.env).lookup y=some c->X.env.cells.lookup y=some c:=λy c e=>by
  let⟨m,rfl⟩:=yd9 e;let⟨c',q⟩:=I2.ok.has y (.inl (hyc y m));rw[q];rfl
 refine wpAny_newObj_type (wpAny_newFunctionEnv hcell (by intro y hy;simp at hy) (λh₁ hns₁ hsb₁=>?_) hkind);dsimp only at hns₁ hsb₁⊢;generalize Z:s2.heap.push { cls:=.type "list",dict:=none,data:=.seq ([]:Ο).toArray}=G at hns₁ hsb₁⊢;have hC:G.objs.size=s2.heap.objs.size+1:=by rw[<- Z,Heap.size_push]
 have a2:s2.heap.objs.size≠G.objs.size:=by rw[hC];exact bT (Nat.lt_succ_self _)
 have L:s2.heap.objs.size<=G.objs.size:=by rw[hC];exact Nat.le_succ _
 have f:∀b,b<s2.heap.objs.size->b≠G.objs.size/\b≠s2.heap.objs.size:=λb a=>⟨by rw[hC];exact bT (Nat.lt_succ_of_lt a),bT a⟩;have F:∀b o,s2.heap.get? b=some o->h₁.get? b=some o:=λb o e=>hsb₁.extBut b o (f b (bw e)).1 (be _ (Z ▸ be _ e));have a3:h₁.get? s2.heap.objs.size=some { cls:=.type "list",data:=.seq ([]:Ο).toArray}:=hsb₁.extBut _ _ a2 (be _ (Z ▸ br _ rfl));have U:∀b∈fp,b<s2.heap.objs.size:=λb a=>let ⟨_,e,_⟩:=T.obj 0 _ st2 b a;bw e;have a6:∀b∈fp,b∉frs X.stack:=λb a z=>(bq.mp (I2.stkSub b z)).elim (f2 b a).2.1 (f2 b a).2.2.1;have nC:H2 G.objs.size=none:=I2.hok.fresh L;have nD:H2 s2.heap.objs.size=none:=I2.hok.fresh (bf _)
 have B:∀y c,(ı ys X.env).lookup y=some c->∃v o,s2.heap.get? c=some o/\o.data=.cell v:=λy c e=>by
  let⟨v,o,q1,q2⟩:=I2.cell y c (k y c e);exact⟨v,o,q1,q2⟩
 have a9:(X.compT scope ys G.objs.size xs s2 H2 fp).Ok:=by
  exists I2.ok.mod,hkind,I2.ok.glob,I2.ok.blt,L,λy z c e Y=>I2.ok.inj y z c (k y c e) (k z c Y),λy e=>?_,λy c z e=>(by cases z),I2.ok.hd,I2.ok.frames,.inl rfl,λb a=>⟨(f b (U b a)).1,λy c e=>(f2 b a).2.2.2.2.1 y c (k y c e)⟩,I2.bs,?_,λb o e a=>?_,λb a=>a6 b a,I2.stack,I2.stkFree
  .have Y:(relabel scope X.env).names.lookup y=some .cell\/(relabel scope X.env).names.lookup y=some .free:=e
   have a8:y∈ys:=by
    rcases Y with Y|Y
    .obtain⟨k0,m,q⟩:=z6 Y;rcases q with q|q
     .exact absurd q.symm (hcell _ m)
     .exact hfr _ m q
    .obtain⟨k0,m,q⟩:=z6 Y;rcases q with q|q
     .exact hfr _ m q.symm
     .exact hfr _ m q
   exists _,yah a8
  .exact bF I2.ok.bsz I2.sz
  .rcases (f2 b a).2.2.2.1 with z|z
   .exact I2.ok.noex b o e z
   .exact absurd (bP (bw (I2.ok.bs b o e).1) z) (cI _)
 have a4:(uz js σ).length=ys.length:=by
  have:=congrArg List.length hjs;simpa[uz]using this
 have I3:∀tk,Inv (X.compT scope ys G.objs.size xs s2 H2 fp) [] (List.replicate xs.length none++uz js σ) (upd H2 s2.heap.objs.size (.lst [])) {s2 with heap:=h₁,toks:=tk}:=λtk =>
  ⟨a9,rfl,I2.bare,Un.laid F (bf _) nD,⟨_,hns₁,λi y v e1 P e3=>by
    by_cases hi0:i<xs.length
    .rw[cK (by simpa using hi0),List.getElem?_replicate,if_pos hi0]at P;cases P
    .obtain⟨i,rfl⟩:∃i',i=xs.length+i':=⟨i-xs.length,()⟩;have e1:ys[i]?=some y:=by rw[cn ()]at e1;simpa using e1
     have P:(uz js σ)[i]?=some (some v):=by rw[cn (by simp)]at P;simpa using P
     have hy:y∈ys:=bB e1;have S:=congrArg (λl=>l[i]?) hjs;simp only[bi,e1,cH]at S
     cases q:js[i]? with
     |none=>rw[q]at S;cases S
     |some j =>
      rw[q]at S;have S:X.N[j]?=some y:=by simpa using S
      have es:σ[j]?=some (some v):=by
       simp only[uz,bi,q,cH,Option.some.injEq]at P
       cases r:σ[j]? with
       |none=>rw[r]at P;cases P
       |some w'=>rw[r]at P;rw[show w'=some v from P]
      let⟨m0,_,ac⟩:=I2.loc;let⟨u,ru,lk⟩:=ac j y v S es (.inr (.inl (hyc y hy)));exists u,ru,.inr ⟨.inl (hrel y hy),?_⟩;rcases lk with⟨k1,_⟩|⟨_,c,ec,o,ho,hd⟩
      .rw[hyc y hy]at k1;cases k1
      .exists c,?_,o,F c o ho,hd;show (ı ys X.env).lookup y=some c;rw[yah hy,ec]
       rfl⟩,λy c e=>(by
    let⟨v,o,q1,q2⟩:=B y c e
    exact⟨v,o,F c o q1,q2⟩),(by show upd H2 s2.heap.objs.size _ G.objs.size=none;rw[ym a2.symm];exact nC),λy c e=>(by
    let⟨v,o,q1,q2⟩:=B y c e;show upd H2 s2.heap.objs.size _ c=none;rw[ym (f c (bw q1)).2]
    exact I2.freeC y c (k y c e)),λp hp=>(by simp at hp),
   I2.hok.laid F (bf _) ⟨bJ _,[],_,.nil,a3⟩,by show (List.replicate xs.length none++uz js σ).length=(xs++ys).length;simp[a4]⟩
 have O:∀{H':Hp},(∀b∈fp,H' b=none)->∀b∈fp,yfu (X.compT scope ys G.objs.size xs s2 H2 fp) [] H' b:=λhn b a=>⟨hn b a,(f b (U b a)).1,a6 b a,.inl a,λy c e=>(f2 b a).2.2.2.2.1 y c (k y c e),λp hp=>(by simp at hp)⟩
 have Q:∀tk,codeAny (model X.prog X.w) X.A (.compLoop (.ListComp elt [⟨tg,iter,ifs,0⟩] scope pos) 0 (.ref it) (.ref s2.heap.objs.size) (compEnvC scope (ı ys X.env) G.objs.size X.env)) (RR (.ref s2.heap.objs.size) G.objs.size) {s2 with heap:=h₁,toks:=tk}:=by
  intro tk;let⟨W,⟨m0,w0⟩,a1⟩:=h s2.heap.objs.size nD;refine codeAny_loop rfl (λn s'=>∃i v H',List.length v=xs.length/\Inv (X.compT scope ys G.objs.size xs s2 H2 fp) [] (v++uz js σ) H' s'/\tn i s'.heap/\(∀b∈fp,H' b=none)/\W i n H') (λn s' hI=>?_) m0
   ⟨0,List.replicate xs.length none,_,by simp,I3 tk,T.keep 0 _ _ st2 (λb a o e=>F b o e),λb a=>(by rw[ym (f b (U b a)).2];exact(f2 b a).1),w0⟩
  let⟨i,v,H',hv,I,st,fr,w⟩:=hI;show wpAny _ _ ((compTurn (.ListComp elt [⟨tg,iter,ifs,0⟩] scope pos) 0 (.ref it) (.ref s2.heap.objs.size) (compEnvC scope (ı ys X.env) G.objs.size X.env)).onRaise (λx=>do noteFrame x (compEnvC scope (ı ys X.env) G.objs.size X.env);theTreesLotGoes x)) _ _ s';refine wpAny_noted ?_;rw[compTurn_list];refine bb (wpAny_standAt (bb ?_));rcases a1 i n H' w with⟨a7,q⟩|⟨go,a5⟩
  .refine thn (T.done (X.compT scope ys G.objs.size xs s2 H2 fp) rfl rfl rfl hc i [] s' (v++uz js σ) H' _ I (O fr) st a7) λr s4 ⟨hr,I4⟩=>?_;subst hr;refine bh ?_;let⟨m,hn,_⟩:=I4.loc;exact hR _ _ H' s4 m (I2.fpOk L I4.free) hn (I2.call' (ch:=fp) I4.os I4.base I4.hok I4.bare λb a=>⟨(f2 b a).2.2.2.1,(f2 b a).2.1,(f2 b a).2.2.2.2.1,(f2 b a).2.2.2.2.2⟩) q
  .refine thn (T.item (X.compT scope ys G.objs.size xs s2 H2 fp) rfl rfl rfl hc i [] s' (v++uz js σ) H' _ I (O fr) st go) λr s4 h'=>?_;let⟨u,hr,h4⟩:=h';subst hr;refine bb (thn h4 λN s5 ⟨y,H5,I5,r5,y5,M,ab⟩=>bb ?_);have aa:=I5.pinned (O ab) (T.obj _ _ M);refine ve2 (hgt _ _ _ _ _ s5 (v++uz js σ) H5 y u _ aa r5 (a5 y H5 v y5 hv)) λN s6 ⟨σ',H6,I6,⟨t,a0,ep⟩,q6⟩=>?_;subst ep;refine bb (ve2 (ht _ _ _ _ _ s6 (t++uz js σ) H6 _ I6 q6) λb s7 h'=>?_);let⟨H7,I7,q7⟩:=h'
   cases b with
   |false =>
    let⟨m',hm,w'⟩:=q7
    have H:∀b∈fp,∀o,s5.heap.get? b=some o->s7.heap.get? b=some o/\H7 b=none:=λb a o e =>
     ⟨(I7.pin (b,o) (bR _ (bR _ (za a e)))).1,(I7.pin (b,o) (bR _ (bR _ (za a e)))).2.1⟩
    refine bh ⟨rfl,m',hm,i+1,t,_,a0,I7.unpinned,T.keep _ _ _ M λb a o e=>(H b a o e).1,λb a=>?_,w'⟩;let⟨o,e,d⟩:=T.obj _ _ M b a;exact(H b a o e).2
   |true =>
    refine bb (bb (ve2 (he _ _ _ _ _ s7 (t++uz js σ) H7 _ I7 q7) λu2 s7 ⟨y2,H7,I7,r7,zs,hD,hl,m',hm,w'⟩=>bb ?_));refine ve2 (wk _ s7 (t++uz js σ) H7 (.ref s2.heap.objs.size) [y2] (.ref s2.heap.objs.size) [u2] (λN H8=>H8=upd H7 s2.heap.objs.size (.lst (zs++[y2]))) I7 rfl (.cons r7 .nil) ⟨_,zs,y2,rfl,rfl,hD,hl,rfl⟩) λN s8 h'=>?_;let⟨_,H8,I8,_,e8⟩:=h';subst e8
    have H:∀b∈fp,∀o,s5.heap.get? b=some o->s8.heap.get? b=some o/\upd H7 s2.heap.objs.size (HO.lst (zs++[y2])) b=none:=λb a o e =>
     ⟨(I8.pin (b,o) (bR _ (bR _ (za a e)))).1,(I8.pin (b,o) (bR _ (bR _ (za a e)))).2.1⟩
    refine bh (bh ⟨rfl,m',hm,i+1,t,_,a0,I8.unpinned,T.keep _ _ _ M λb a o e=>(H b a o e).1,λb a=>?_,w'⟩);let⟨o,e,d⟩:=T.obj _ _ M b a;exact(H b a o e).2
 exact codeAny_compStart_list (Q _) (T.self X.A 0 _ _ _ (T.keep 0 _ _ st2 (λb a o e=>F b o e)) (Q _))
def æ{H2:Hp}{J:It}(hc:X.calm=true)
  (he:∀(C:z4)(s2:qa)(H2:Hp)(fp:Χ),PE (X.compT scope ys C xs s2 H2 fp) elt te)
  (hgt:∀(C:z4)(s2:qa)(H2:Hp)(fp:Χ),PG (X.compT scope ys C xs s2 H2 fp) tg g)
  (hcell:∀y∈scope.names,y.2≠.cell) (hkind:scope.kind=.function)
  (hfr:∀y∈scope.names,y.2=.free->y.1∈ys) (hyc:∀y∈ys,X.env.kindOf y=some .cell) (hrel:∀y∈ys,(relabel scope X.env).names.lookup y=some .cell) (hjs:js.map (λj=>X.N[j]?)=ys.map some)
  (I2:Inv X pins σ H2 s2) (T:ydx X.prog X.w X.K tg J fp it tn) (st2:tn 0 s2.heap) (f2:∀b∈fp,yfu X pins H2 b)
  {R:z4->Hp->Prop} (h:∀D,H2 D=none->j6 J g te xs.length (uz js σ) D (R D) H2) {RR:qb->z4->Result->qa->Prop} {E:Δ}
  (hR:∀(D C:z4)(H':Hp)(s':qa)(m:Ε),yfu X pins H' C->s'.heap.Ns C m->Inv X pins σ H' s'->R D H'->RR (.ref D) C (.ok .next) s'):
  wpAny (model X.prog X.w) X.A (newList []) (λacc s₃=>wpAny (model X.prog X.w) X.A (newFunctionEnv scope X.env.globals (ı ys X.env) [] X.env.qual none .none (some X.env)) (λcenv s₄ =>
   codeAny (model X.prog X.w) X.A (.compStart (.ListComp elt [⟨tg,iter,[],0⟩] scope pos) 0 (.ref it) acc {cenv with scope:=relabel scope X.env}) (RR acc cenv.locals) s₄) E s₃) E s2 :=
 yfz (tt:=vht) hc (λZ Z Z Z=>yvf) he hgt hcell hkind hfr hyc hrel hjs I2 T st2 f2 (λD n=>by
  let⟨W,f,c⟩:=h D n;exists W,f,λi m H w=>(c i m H w).imp id λ⟨e,a⟩=>⟨e,λx k d y l=>?_⟩;exact a x k d y l) hR
def yaa(hc:X.calm=true)(hi:PI X tg iter wi)(he:∀(C:z4)(s2:qa)(H2:Hp)(fp:Χ),PE (X.compT scope ys C xs s2 H2 fp) elt te)(hjs:js.map (λj=>X.N[j]?)=ys.map some)
  (hgt:∀(C:z4)(s2:qa)(H2:Hp)(fp:Χ),PG (X.compT scope ys C xs s2 H2 fp) tg g)
  (hclos:closureFor scope X.env=pure (ı ys X.env)) (hyc:∀y∈ys,X.env.kindOf y=some .cell) (hrel:∀y∈ys,(relabel scope X.env).names.lookup y=some .cell)
  (hfr:autoParam (∀y∈scope.names,y.2=.free->y.1∈ys) aG._auto_1) (hcell:autoParam (∀y∈scope.names,y.2≠.cell) aG._auto_1) (hkind:autoParam (scope.kind=.function) aD._auto_1)
  (hnames:autoParam (∀y∈scope.names,y.2=.local->scope.names.lookup y.1=some .local) aG._auto_1) (hs:autoParam (∀x,foldedSetIterable iter X.env x=pure x) aC._auto_1):
  PE X (.ListComp elt [⟨tg,iter,[],0⟩] scope pos) (yj7 wi g te xs.length js):=by refine .mk λa s σ H Q I h=>?_;rw[eval_ListComp];refine wpAny_comprehension_free (use:=none) rfl hs hclos hkind hnames (thn (hi a s σ H _ I h) λv G k=>thn k λB s2 n=>?_);let⟨F,fp,E,J,H2,e,p,T,d,i,h⟩:=n;subst e;refine æ (R:=λD c=>Q (.ref D) c) (RR:=compPost (model X.prog X.w) X.A X.xe none (EP X a σ Q)) hc he hgt hcell hkind hfr hyc hrel hjs p T d i h ?_;intro D C c l m f z t q;exists m,z,λK u=>⟨.ref D,c,?_,rfl,q⟩;exact t.turned (t':=l.toks) (λb o r e=>u.extBut b o r e) f.1 f.2.1 f.2.2.2.1 f.2.2.2.2.1 f.2.2.2.2.2
def yts{H:Hp}{Q:VK}{n:Nat}(h:wi σ H λJ H1=>∀D,H1 D=none->j6 J g te n (uz js σ) D (λH2=>Q (.ref D) H2) H1):yj7 wi g te n js σ H Q:=h
end
section
variable{iter elt:qg}{x:Str}{px pos:Pos}{scope:Scope}{te:TE}{wi:TI}{pins:Θ}{σ:St}{ys:Τ}{js:qi Nat}
def θ{pre:qi (Ψ)}{n:Nat}(h:List.length pre=n+1):∃v t,pre=v::t/\List.length t=n:=by
 cases pre with
 |nil=>cases h
 |cons v t=>exists v,t,rfl,Nat.succ.inj h
def yzi{J:It}{fr:St}{D:z4}{R:Hp->Prop}{H1:Hp}(h:u6 J te fr D R H1):j6 J (xo 0) te 1 fr D R H1:=by let⟨W,d,b⟩:=h;exists W,d,λi m k w=>(b i m k w).imp id λ⟨a,y⟩=>⟨a,λx e f g j=>?_⟩;let⟨z,t,rfl,c⟩:=θ j;obtain rfl:=List.length_eq_zero_iff.mp c;exists⟨[some x],rfl,rfl⟩,y x e g
def ņ{H2:Hp}{J:It}(hc:X.calm=true)
  (he:∀(C:z4)(s2:qa)(H2:Hp)(fp:Χ),PE (X.compF scope ys C x s2 H2 fp) elt te)
  (hcell:∀y∈scope.names,y.2≠.cell) (hkind:scope.kind=.function) (hx:scope.names.lookup x=some .local) (hnd:(x::ys).Nodup)
  (hfr:∀y∈scope.names,y.2=.free->y.1∈ys) (hyc:∀y∈ys,X.env.kindOf y=some .cell) (hrel:∀y∈ys,(relabel scope X.env).names.lookup y=some .cell) (hjs:js.map (λj=>X.N[j]?)=ys.map some)
  (I2:Inv X pins σ H2 s2) (T:ydx X.prog X.w X.K (.Name x px) J fp it tn) (st2:tn 0 s2.heap) (f2:∀b∈fp,yfu X pins H2 b)
  {R:z4->Hp->Prop} (h:∀D,H2 D=none->u6 J te (uz js σ) D (R D) H2) {RR:qb->z4->Result->qa->Prop} {E:Δ}
  (hR:∀(D C:z4)(H':Hp)(s':qa)(m:Ε),yfu X pins H' C->s'.heap.Ns C m->Inv X pins σ H' s'->R D H'->RR (.ref D) C (.ok .next) s'):
  wpAny (model X.prog X.w) X.A (newList []) (λacc s₃=>wpAny (model X.prog X.w) X.A (newFunctionEnv scope X.env.globals (ı ys X.env) [] X.env.qual none .none (some X.env)) (λcenv s₄ =>
   codeAny (model X.prog X.w) X.A (.compStart (.ListComp elt [⟨.Name x px,iter,[],0⟩] scope pos) 0 (.ref it) acc {cenv with scope:=relabel scope X.env}) (RR acc cenv.locals) s₄) E s₃) E s2 :=
 æ (tg:=.Name x px) (xs:=[x]) (g:=xo 0) hc he (λC s2 H2 fp=>vy (i:=0) hnd rfl (Or.inl (lookup_relabel_local hx)) (Or.inr (lookup_relabel_local hx))) hcell hkind hfr hyc hrel hjs I2 T st2 f2 (λD a=>yzi (h D a)) hR
def vx(hc:X.calm=true)(hi:PI X (.Name x px) iter wi)(he:∀(C:z4)(s2:qa)(H2:Hp)(fp:Χ),PE (X.compF scope ys C x s2 H2 fp) elt te)(hjs:js.map (λj=>X.N[j]?)=ys.map some)
  (hclos:closureFor scope X.env=pure (ı ys X.env)) (hnd:autoParam ((x::ys).Nodup) aB._auto_1) (hyc:∀y∈ys,X.env.kindOf y=some .cell) (hrel:∀y∈ys,(relabel scope X.env).names.lookup y=some .cell)
  (hfr:autoParam (∀y∈scope.names,y.2=.free->y.1∈ys) aG._auto_1) (hcell:autoParam (∀y∈scope.names,y.2≠.cell) aG._auto_1) (hkind:autoParam (scope.kind=.function) aD._auto_1)
  (hnames:autoParam (∀y∈scope.names,y.2=.local->scope.names.lookup y.1=some .local) aG._auto_1) (hx:autoParam (scope.names.lookup x=some .local) aD._auto_1) (hs:autoParam (∀x,foldedSetIterable iter X.env x=pure x) aC._auto_1):
  PE X (.ListComp elt [⟨.Name x px,iter,[],0⟩] scope pos) (yk6 wi te js):=by refine .mk λa s σ H Q I h=>?_;rw[eval_ListComp];refine wpAny_comprehension_free (use:=none) rfl hs hclos hkind hnames (thn (hi a s σ H _ I h) λv F i=>thn i λz s2 l=>?_);let⟨E,fp,B,J,H2,e,n,T,d,g,h⟩:=l;subst e;refine ņ (R:=λD c=>Q (.ref D) c) (RR:=compPost (model X.prog X.w) X.A X.xe none (EP X a σ Q)) hc he hcell hkind hx hnd hfr hyc hrel hjs n T d g h ?_;intro D C c k m f u r q;exists m,u,λG t=>⟨.ref D,c,?_,rfl,q⟩;exact r.turned (t':=k.toks) (λb o p e=>t.extBut b o p e) f.1 f.2.1 f.2.2.2.1 f.2.2.2.2.1 f.2.2.2.2.2
def ynw{y:Str}{py spos:Pos}(hN:X.N.Nodup)(hy:X.N[i]?=some y)(hl:X.env.scope.names.lookup y=some .local)(hc:X.calm=true)(hi:PI X (.Name x px) iter wi)
  (he:∀(C:z4)(s2:qa)(H2:Hp)(fp:Χ),PE (X.compF scope ys C x s2 H2 fp) elt te) (hjs:js.map (λj=>X.N[j]?)=ys.map some)
  (hclos:closureFor scope X.env=pure (ı ys X.env)) (hyc:∀y∈ys,X.env.kindOf y=some .cell) (hrel:∀y∈ys,(relabel scope X.env).names.lookup y=some .cell)
  (hsw:autoParam (swapsWith (.ListComp elt [⟨.Name x px,iter,[],0⟩] scope pos) (some (.Name y py)) spos.line X.env=pure true) aD._auto_1) (hnd:autoParam ((x::ys).Nodup) aB._auto_1)
  (hfr:autoParam (∀y∈scope.names,y.2=.free->y.1∈ys) aG._auto_1) (hcell:autoParam (∀y∈scope.names,y.2≠.cell) aG._auto_1) (hkind:autoParam (scope.kind=.function) aD._auto_1)
  (hnames:autoParam (∀y∈scope.names,y.2=.local->scope.names.lookup y.1=some .local) aG._auto_1) (hx:autoParam (scope.names.lookup x=some .local) aD._auto_1) (hs:autoParam (∀x,foldedSetIterable iter X.env x=pure x) aC._auto_1):
  PS X (.Assign [.Name y py] (.ListComp elt [⟨.Name x px,iter,[],0⟩] scope pos) spos) (vev (yk6 wi te js) (xo i)):=by
 refine .mk λa s σ H t I h=>?_;rw[exec_Assign_Name_used _ _ _ _ hsw];refine bb (wpAny_standAt (bb ?_));show wpAny _ X.A (do let _ <- comprehension (.ListComp elt [⟨.Name x px,iter,[],0⟩] scope pos) scope X.env _ (newList []) false (eval iter X.env) (some (assign (.Name y py) X.env))) _ _ s;refine bb (cJ (wpAny_comprehension_free (use:=some (assign (.Name y py) X.env)) (Q:=λZ d=>SP X a t .next d) rfl hs hclos hkind hnames (thn (hi a s σ H _ I h) λv U G=>thn G λF s2 B=>?_)) (λZ d L=>bh (bh L)) λZ Z e=>e);let⟨S,fp,P,J,H2,e,E,T,r,u,h⟩:=B;subst e;refine ņ (R:=λD l=>xo i (.ref D) σ l t.nx) (RR:=compPost (model X.prog X.w) X.A X.xe (some (assign (.Name y py) X.env)) (λZ d=>SP X a t .next d)) hc he hcell hkind hx hnd hfr hyc hrel hjs E T r u h ?_;intro D C l d m f K M q;refine wpAny_assign_Name (Ĝ (v:=V.ref D) M hN hy (Or.inl hl) rfl (λn k p=>?_) (Or.inr hl));exists m,?_,λO g=>⟨_,l,?_,q⟩
 .obtain⟨b,g,c⟩:=p;refine K.sameBut g λz=>?_;rcases c with c|c
  .exact f.2.1 (z.trans c)
  .exact f.2.2.2.2.1 y b c z.symm
 .exact k.turned (t':=n.toks) (λb o c e=>g.extBut b o c e) f.1 f.2.1 f.2.2.2.1 f.2.2.2.2.1 f.2.2.2.2.2
end
end L2
namespace L2
open PySem PySem.Spec PyProof.Rows
variable{st:Int}
def ve4(lo st:Int)(n:Nat):It:=⟨λi Z=>i<n,λi H x H'=>H'=H/\x=.int (lo+i*st),λi Z=>n<=i⟩
def yc0{P:qh}{w:qd}{K:z3}{tg:qg}(it:z4)(lo st:Int)(n:Nat):ydx P w K tg (ve4 lo st n) [it] it (λi h=>IsRangeIter h it (lo+(i:Nat)*st) ((n:Int)-(i:Nat)) st) where
 mem:=by simp
 obj:=λi h st b c=>by
  have e:b=it:=by simpa using c
  subst e
  exact⟨_,st,λv z=>by
   have J:Data.fields _=Data.cell v:=z;cases J⟩
 keep:=λi h j st k=>k it (by simp) _ st
 item:=by
  intro X y A B q i a s σ H E I g d m;subst y A B;let⟨x,p,D,l,u,r⟩:=g it (by simp);have W:=Walks.range (prog:=X.prog) (w:=X.w) (I.ok.hd q) it lo st n;refine W.item i s _ _ m d λv j C M f L=>?_;let⟨t,rfl⟩:=M;have G:Inv X a σ H {s with heap:=j,toks:=C}:=I.turned (λb o c e=>L b o (by simpa using c) e) x p l u r;exists _,rfl,ydv (s:={s with heap:=j,toks:=C}) (n:="range_iterator") f rfl rfl ∅ ⟨.int (lo+i*st),H,G,⟨t,rfl⟩,⟨rfl,rfl⟩,f,λb c=>(g b c).1⟩
 done:=by
  intro X y A B q i a s σ H E I g d m;subst y A B;let⟨x,p,D,l,u,r⟩:=g it (by simp);exact wpAny_pyNext_range_end (I.ok.hd q) d (by have:n<=i:=m;omega) λj F=>⟨rfl,I.turned (t':=s.toks) (λb o c e=>F b o c e) x p l u r⟩
 self:=λZ Z Z Z Z st h=>wpAny_pyIter_rangeiter st h
def rgN(lo hi st:Int):Nat:=if lo<hi then ((hi-lo-1)/st+1).toNat else 0
def yp0{lo hi:Int}(hs:0<st):((rgN lo hi st:Nat):Int)=Builtin.Range.rangeSize lo hi st:=by
 unfold rgN Builtin.Range.rangeSize;rw[if_pos (show st > 0 from hs)]
 split
 .have:0<=(hi-lo-1)/st:=Int.ediv_nonneg () ();omega
 .rfl
def yiu{lo hi:Int}(hs:0<st)(hs2:st<1000000)(h1:0<=lo)(h2:lo<100000000)(h3:0<=hi)(h4:hi<100000000):Builtin.Range.small lo hi st=true:=by
 have e:=yp0 (lo:=lo) (hi:=hi) hs
 have g:(hi-lo-1)/st<=100000000:=Int.le_trans (Int.ediv_le_ediv hs (show hi-lo-1<=100000000*st by
  have:100000000*1<=100000000*st:=ck hs ∅;omega)) (by rw[Int.mul_ediv_cancel _ ()];exact Int.le_refl _)
 have b:((rgN lo hi st:Nat):Int)<=100000001:=by
  unfold rgN
  split
  .have:0<=(hi-lo-1)/st:=Int.ediv_nonneg () ();omega
  .decide
 have a:0<=((rgN lo hi st:Nat):Int):=Int.natCast_nonneg _;unfold Builtin.Range.small;rw[<- e];generalize ((rgN lo hi st:Nat):Int)=m at b a;have f:0<=m*st:=Int.mul_nonneg a ();have d:m*st<=100000001*1000000:=Int.mul_le_mul b () () ∅;have c:(m-1)*st=m*st-st:=by rw[Int.sub_mul,Int.one_mul]
 simp only[Builtin.Range.rangeFitsLong,bL,Bool.or_eq_true,decide_eq_true_eq,beq_iff_eq,show st > 0 from hs,if_true];omega
section
variable{X:Cx}{tg:qg}
def vcp(ta:TA):TI:=λσ H R=>ta σ H λvs H1=>∃i j st:Int,vs=[.int i,.int j,.int st]/\(0<=i/\i<100000000/\0<=j/\j<100000000/\0<st/\st<1000000)/\R (ve4 i st (rgN i j st)) H1
def yia{a b c:qg}{ta:TA}{p pos:Pos}(hg:Gl X "range")(hm:X.mg "range"=none)(ha:PA X [a,b,c] ta)(hs:autoParam (starEach [a,b,c] X.env=[(false,eval a X.env),(false,eval b X.env),(false,eval c X.env)]) aD._auto_1)(hs2:autoParam (starEach [b,c] X.env=[(false,eval b X.env),(false,eval c X.env)]) aD._auto_1):
  PI X tg (.Call (.Name "range" p) [a,b,c] [] pos) (vcp ta):=by
 intro g s σ H R I h;refine Call_ (Į I hg hm boot_range (PyProof.Rows.callWith_type1 (thn (ha pos g s σ H _ I h) λF k h'=>?_) (by rw[hs,hs2]) (by rw[hs2];rfl)));let⟨E,n,x,B,m⟩:=h';let⟨i,j,d,e,⟨m,v,z,w,u,C⟩,q⟩:=m;subst e
 cases B with
 |cons r rr =>
  cases rr with
  |cons r' rr =>
   cases rr with
   |cons r'' rr =>
    cases rr;let⟨t,rfl⟩:=r;let⟨t',rfl⟩:=r';let⟨f,rfl⟩:=r'';refine call_range_3 () (wpAny_pyIter_range (IsRange.new ..) (yiu u C m v z w) ?_) (.inl (PyProof.noPylong_small ()));have l:Inv X g σ n {k with heap:=k.heap.push { cls:=.type "range",data:=.fields #[.int i t,.int j t',.int d f]},toks:=k.toks}:=x.kept λb o e=>be _ e
    refine⟨(k.heap.push { cls:=.type "range",data:=.fields #[.int i t,.int j t',.int d f]}).objs.size,[(k.heap.push { cls:=.type "range",data:=.fields #[.int i t,.int j t',.int d f]}).objs.size],_,_,n,rfl,
     l.kept (t':=k.toks) λb o e=>be _ e,yc0 _ i d (rgN i j d),?_,λb y=>?_,q⟩
    .have A:i+((0:Nat):Int)*d=i:=by simp
     have D:((rgN i j d:Nat):Int)-((0:Nat):Int)=Builtin.Range.rangeSize i j d:=by rw[<- yp0 u];omega
     show IsRangeIter _ _ (i+((0:Nat):Int)*d) (((rgN i j d:Nat):Int)-((0:Nat):Int)) d;rw[A,D];exact br _ rfl
    .have e:b=(k.heap.push { cls:=.type "range",data:=.fields #[.int i t,.int j t',.int d f]}).objs.size:=by simpa using y
     subst e;exact l.fpOk (bf _) (l.hok.fresh (bf _))
def yuz{tr:TA}{σ:St}{H:Hp}{R:It->Hp->Prop}(h:tr σ H λvs H1=>∃i j st:Int,vs=[.int i,.int j,.int st]/\(0<=i/\i<100000000/\0<=j/\j<100000000/\0<st/\st<1000000)/\R (ve4 i st (rgN i j st)) H1):vcp tr σ H R:=h
def ŵ{lo:Int}{n:Nat}{D:z4}{te:TE}{fr:St}{R:Hp->Prop}{H1:Hp}(f:Nat->V)(hD:H1 D=none)
  (hs:∀i H,i<n->yr H1 H->H D=some (.lst ((List.range i).map f))->te (some (.int (lo+i*st))::fr) H (MpK H1 D f n i))
  (hd:∀H,yr H1 H->H D=some (.lst ((List.range n).map f))->R H):u6 (ve4 lo st n) te fr D R H1:=by
 exists cW n (Mp H1 D f),⟨n,by simp,bJ _,Mp.zero hD⟩,?_;rintro i m H ⟨rfl,a,p⟩;by_cases hlt:i<n
 .refine .inr ⟨hlt,λx b y=>?_⟩;let⟨e,y⟩:=y;subst e y;exact hs i _ hlt p.1 p.2
 .have e:i=n:=()
  subst e;exact .inl ⟨bf _,hd H p.1 p.2⟩
end
section
variable{prog:qh}{w:qd}{A:qe}{E:Δ}{s:qa}
def χ{it l:z4}{i:Nat}{items}{x:qb}{Q:Δ}(hit:s.heap.IsTupleIter it l i)(hl:s.heap.IsTuple l items)(hx:items[i]?=some x)
  (hQ:∀h',h'.IsTupleIter it l (i+1)->Heap.SameBut it s.heap h'->Q x {s with heap:=h'}):wpAny (model prog w) A (Builtin.SmallTypes.nextOf (.ref it)) Q E s:=by let⟨h,b,c,a⟩:=id hit;let⟨f,e,_,g,d⟩:=hl;unfold Builtin.SmallTypes.nextOf;refine bb (wpAny_callSpecial?_slot (name:=Str.ofString "__next__") hit.typeIs slot_tupleiter_next (wpAny_call_entry slot_tupleiter_next hit.typeIs entry_tupleiter_next ?_ (args_tupleiter_next _)));show wpAny _ _ (field (.ref it) 0 >>=_) _ _ s;refine bb (b9 b a (x:=.ref l) rfl ?_);show wpAny _ _ (if (Value.ref l == Value.none)=true then _ else _) _ _ s;rw[if_neg (show ¬((Value.ref l == Value.none)=true)from bA)];show wpAny _ _ (field (.ref it) 1 >>=_) _ _ s;refine bb (b9 b a (x:=.int i 0) rfl ?_);show wpAny _ _ (seqItems? (.ref l) >>=_) _ _ s;refine bb (wpAny_seqItems e d ?_);simp only[Int.toNat_natCast,hx];refine bb (wpAny_setField b a (by simp) (bh ⟨x,rfl,bh (hQ _ ⟨_,Heap.get?_update_self _ b (Obj.isFreed_of_fields (Obj.data_mapFields a _)),(Obj.cls_mapFields ..).trans c,?_⟩ (Heap.SameBut.update ..))⟩));rw[Obj.data_mapFields a];simp[rawInt]
def Ē{it l:z4}{i:Nat}{items}{Q:Δ}(hh:A.handled=none)(hit:s.heap.IsTupleIter it l i)(hl:s.heap.IsTuple l items)(hx:items[i]?=none)
  (hE:∀h' e,Heap.ExtBut it s.heap h'->(∃o,h'.get? e=some o/\o.cls=.type "StopIteration")->E (.ref e) {s with heap:=h'}):wpAny (model prog w) A (Builtin.SmallTypes.nextOf (.ref it)) Q E s:=by
 let⟨k,b,g,c⟩:=id hit;let⟨h,f,_,j,d⟩:=hl;unfold Builtin.SmallTypes.nextOf;refine bb (wpAny_callSpecial?_slot (name:=Str.ofString "__next__") hit.typeIs slot_tupleiter_next (wpAny_call_entry slot_tupleiter_next hit.typeIs entry_tupleiter_next ?_ (args_tupleiter_next _)))
 (show wpAny _ _ (field (.ref it) 0 >>=_) _ _ s);refine bb (b9 b c (x:=.ref l) rfl ?_)
 (show wpAny _ _ (if (Value.ref l == Value.none)=true then _ else _) _ _ s);rw[if_neg (show ¬((Value.ref l == Value.none)=true)from bA)]
 (show wpAny _ _ (field (.ref it) 1 >>=_) _ _ s);refine bb (b9 b c (x:=.int i 0) rfl ?_)
 (show wpAny _ _ (seqItems? (.ref l) >>=_) _ _ s);refine bb (wpAny_seqItems f d ?_)
 simp only[Int.toNat_natCast,hx];refine bb (wpAny_rule (bb (wpAny_setField b c (by simp) ?_)))
 (show wpAny _ _ (newExc (.type "StopIteration") [] >>=_) _ _ _);refine bb ?_
 simp only[newExc,newTuple];refine bb (wpAny_newObj_type ?_ (by size_fits))
 refine bb (m:=firstArgMember _ _) (wpAny_of_eq (a:=Value.none) (by first|rfl|(simp only[firstArgMember];rfl)) (wpAny_newObj_type ?_ (by size_fits)))
 simp only[raiseNew];refine bb (wpAny_handled ?_)
 (first|rw[show A.in1.handled=none from hh]|rw[hh]);refine bb (bh (wpAny_throw ?_))
 exact hE _ _ (((Heap.SameBut.update _ ..).extBut.push _).push _) ⟨_,br _ rfl,rfl⟩
end
section
open AutoSeq1 (wpAny_loadPart')
set_option maxRecDepth 100000
end
end L2
namespace L2
open PySem PySem.Spec PyProof.Rows
end L2
namespace L2
section
variable{σ:St}{H:Hp}{Q:VK}{td ty tx tv:TE}
def va6(h:td σ H λx H1=>ty σ H1 λy H2=>∃a v,x=.ref a/\İ H2 a y (some v)/\Q v H2):vdc td ty σ H Q:=h
def vf4(h:ty σ H λy H1=>td σ H1 λx H2=>∃a o,x=.ref a/\İ H2 a y o/\Q (.bl o.isSome) H2):vhj ty td σ H Q:=h
def ymv(h:ty σ H λy H1=>td σ H1 λx H2=>∃a o,x=.ref a/\İ H2 a y o/\Q (.bl (!o.isSome)) H2):yjc ty td σ H Q:=h
def yw1{nx bk ct:Ζ}{rt:VK}(h:tv σ H λv H1=>td σ H1 λx H2=>ty σ H2 λy H3=>∃a H4,x=.ref a/\yli H3 a y v H4/\nx σ H4):vb6 td ty tv ⟨nx,rt,bk,ct⟩ σ H:=h
def ys9(h:∀p,H p=none->Q (.ref p) (upd H p (.dT []))):yo3 σ H Q:=h
end
end L2
namespace L2
open PySem PySem.Spec PyProof.Rows
variable{i1 i2 l1 l2:z4}{xs ys:Array qb}{elts:qi qg}{i k1 k2:Nat}{tpos:Pos}{P:qh}{a:qb}
def vg1(Sq:Hp->z4->qi V->Prop)(a b:z4):It :=
 ⟨λi H=>∃xs ys x y,Sq H a xs/\Sq H b ys/\xs[i]?=some x/\ys[i]?=some y,
  λi H v H'=>∃t x y,v=.ref t/\H t=none/\H'=upd H t (.tup [x,y])/\(∀xs,Sq H a xs->xs[i]?=some x)/\(∀ys,Sq H b ys->ys[i]?=some y),
  λi H=>∃xs ys,Sq H a xs/\Sq H b ys/\(xs.length<=i\/ys.length<=i)⟩
abbrev Itz(K:z3)(a b:z4):It:=vg1 (SqL K) a b
structure Zap(z TI TO i1 i2:z4):Prop where
 a1:TI≠z
 a2:TO≠z
 a3:i1≠z
 a4:i2≠z
 a5:TI≠TO
 a6:TI≠i1
 a7:TI≠i2
 a8:TO≠i1
 a9:TO≠i2
 b1:i1≠i2
def ves(Ii:qf->z4->z4->Nat->Prop)(z TI TO i1 i2 l1 l2:z4)(i:Nat)(h:qf):Prop:=IsZip h z TI TO .none/\IsPair h TI (.ref i1) (.ref i2)/\(∃a b,IsPair h TO a b)/\Ii h i1 l1 i/\Ii h i2 l2 i
abbrev Zst:=ves Heap.IsListIter
def zx{h:qf}{a b:z4}{o o':Obj}(e:h.get? a=some o)(e':h.get? b=some o')(n:o.cls≠o'.cls):a≠b:=by rintro rfl;rw[e]at e';cases e';exact n rfl
def yo6(z:Nat):Zap (z+4) (z+2) (z+3) z (z+1):=by constructor<;>(show (_:Nat)≠(_:Nat);omega)
def nT{a b:String}(h:Value.type a≠Value.type b):Value.type a≠Value.type b:=h
def Zap.apart{X:Cx}{pins:Θ}{σ:St}{H:Hp}{s:qa}{z TI TO:z4}{xs ys:Ο}(d:Zap z TI TO i1 i2)(st:Zst z TI TO i1 i2 l1 l2 i s.heap)(p:PlainL s.heap l1 xs.toArray)(q:PlainL s.heap l2 ys.toArray)(_:Inv X pins σ H s):ZipApart z TI TO i1 i2 l1 l2:=by
 let⟨n,o,⟨a,b,c⟩,⟨t,m,j,_⟩,⟨v,l,k,_⟩⟩:=st;let⟨r,e,g,_⟩:=p.isList;let⟨u,f,h,_⟩:=q.isList
 exact⟨d.a1,d.a2,d.a3,d.a4,d.a5,d.a6,d.a7,d.a8,d.a9,d.b1,
  zx e n (by rw[g];exact nT ∅),zx e c (by rw[g];exact nT ∅),zx e m (by rw[g,j];decide),zx e l (by rw[g,k];decide),
  zx f n (by rw[h];exact nT ∅),zx f c (by rw[h];exact nT ∅),zx f m (by rw[h,j];decide),zx f l (by rw[h,k];decide)⟩
structure ZK(K:z3)(Sq:Hp->z4->qi V->Prop)(Ii:qf->z4->z4->Nat->Prop)(z TI TO i1 i2 l1 l2:z4):Prop where
 ob:∀{h:qf}{i l:z4}{k:Nat},Ii h i l k->∃o,h.get? i=some o/\∃fs,o.data=.fields fs
 kp:∀{h h':qf}{i l:z4}{k:Nat},Ii h i l k->(∀o,h.get? i=some o->h'.get? i=some o)->Ii h' i l k
 inj:∀{X:Cx}{pins:Θ}{σ:St}{H:Hp}{s:qa}{l:z4}{xs ys:Υ},X.K=K->Inv X pins σ H s->Sq H l xs->Sq H l ys->xs=ys
 nx:∀{X:Cx}{pins:Θ}{σ:St}{H:Hp}{s:qa}{E:Δ}{i:Nat}{xs ys:Υ}{x y:V},X.K=K->Inv X pins σ H s->H TO=none->ves Ii z TI TO i1 i2 l1 l2 i s.heap->Sq H l1 xs->Sq H l2 ys->xs[i]?=some x->ys[i]?=some y ->
  ∃u u',xu x u/\xu y u'/\ZipApart z TI TO i1 i2 l1 l2/\∀Q:qj qb->qa->Prop,(∀h',IsZip h' z TI TO (rawInt s.heap.objs.size)->IsPair h' TO u u'->Ii h' i1 l1 (i+1)->Ii h' i2 l2 (i+1)->IsPair h' s.heap.objs.size u u'->h'.objs.size=s.heap.objs.size+1->(∀c o,c≠z->c≠TO->c≠i1->c≠i2->s.heap.get? c=some o->h'.get? c=some o)->Q (some (.ref s.heap.objs.size)) {s with heap:=h'})->wpAny (model X.prog X.w) X.A (pyNext (.ref z)) Q E s
 sp:∀{X:Cx}{pins:Θ}{σ:St}{H:Hp}{s:qa}{E:Δ}{i:Nat}{xs ys:Υ},X.K=K->X.calm=true->Inv X pins σ H s->H TO=none->ves Ii z TI TO i1 i2 l1 l2 i s.heap->Sq H l1 xs->Sq H l2 ys->(xs.length<=i\/ys.length<=i) ->
  ∀Q:qj qb->qa->Prop,(∀h',(∀c o,c≠z->c≠TO->c≠i1->c≠i2->s.heap.get? c=some o->h'.get? c=some o)->Q none {s with heap:=h'})->wpAny (model X.prog X.w) X.A (pyNext (.ref z)) Q E s
def ybt{w:qd}{K:z3}{x1}{Sq:Hp->z4->qi V->Prop}{Ii:qf->z4->z4->Nat->Prop}{z TI TO:z4}(zk:ZK K Sq Ii z TI TO i1 i2 l1 l2):
  ydx P w K (.Tuple elts x1 tpos) (vg1 Sq l1 l2) [z,TI,TO,i1,i2] z (ves Ii z TI TO i1 i2 l1 l2) where
 mem:=by simp
 obj:=λi h B b d=>by
  let⟨Y,r,⟨_,_,A⟩,h1,h2⟩:=B;let⟨o1,e1,_,d1⟩:=zk.ob h1;let⟨o2,e2,_,d2⟩:=zk.ob h2;simp only[bq,List.not_mem_nil,or_false]at d;rcases d with rfl|rfl|rfl|rfl|rfl
  .exists _,Y,λv z=>by cases z
  .exists _,r,λv z=>by cases z
  .exists _,A,λv z=>by cases z
  .exists o1,e1,λv z=>by rw[d1]at z;cases z
  .exists o2,e2,λv z=>by rw[d2]at z;cases z
 keep:=λi h M B k=>by
  let⟨Y,r,⟨a,b,A⟩,h1,h2⟩:=B;exists k z (by simp) _ Y,k TI (by simp) _ r,⟨a,b,k TO (by simp) _ A⟩,zk.kp h1 λo e=>k i1 (by simp) o e,zk.kp h2 λo e=>k i2 (by simp) o e
 item:=by
  intro X hP hw hK hc i F s σ H E I p B hg;subst hP hw hK;let⟨xs,Z,x,y,N,C,j,hy⟩:=hg;let⟨u,u',ru,a0,D,nx⟩:=zk.nx (E:=E) rfl I (p TO (by simp)).1 B N C j hy;let⟨Y,r,⟨va,vb,A⟩,a7,a8⟩:=B;refine nx _ λM a1 a2 a3 a4 a5 a6 hk=>?_;exists _,rfl,wpAny_letOwnedTupleGo_zip a1 λm Q g=>?_;have t:H s.heap.objs.size=none:=I.hok.fresh (bf _);have lz:z<s.heap.objs.size:=bw Y;have lo:TO<s.heap.objs.size:=bw A;have lI:TI<s.heap.objs.size:=bw r;have aa:i1<s.heap.objs.size:=by let⟨o,e,_⟩:=zk.ob a7;exact bw e
  have a9:i2<s.heap.objs.size:=by let⟨o,e,_⟩:=zk.ob a8;exact bw e
  have keep:∀b o,b≠z->b≠TO->b≠i1->b≠i2->s.heap.get? b=some o->m.get? b=some o:=λb o L T U S e=>(g.2 b L).trans (hk b o L T U S e);have O:m.get? s.heap.objs.size=some { cls:=.type "tuple",data:=.seq #[u,u']}:=(g.2 _ (Nat.ne_of_gt lz)).trans a5;have R:∀{b v},H b=some v->b≠z/\b≠TO/\b≠i1/\b≠i2:=λ{b v}e=>⟨yb e (p z (by simp)).1,yb e (p TO (by simp)).1,yb e (p i1 (by simp)).1,yb e (p i2 (by simp)).1⟩
  have G:HOk X.prog X.w (upd H s.heap.objs.size (.tup [x,y])) m:=λb o e=>by
   by_cases d:b=s.heap.objs.size
   .subst d;rw[ya]at e;cases e;exists by show 2<=sizeLine;decide,[u,u'],.cons ru (.cons a0 .nil),⟨_,O,rfl,_,rfl⟩
   .rw[ym d]at e;refine(I.hok b o e).stay (λc v l q=>?_) (λc q=>by rw[ym (yb q t)];exact q) λc Z q=>by rw[ym (yb q t)];exact q
    obtain⟨L,T,U,S⟩:c≠z/\c≠TO/\c≠i1/\c≠i2:=by
     rcases l with rfl|l
     .exact R e
     .exact R l
    exact keep c v L T U S q
  have un:Un (frs X.stack) [z,TI,TO,i1,i2] H (upd H s.heap.objs.size (.tup [x,y])) s.heap m:=by
   have J:∀{b o},b∉[z,TI,TO,i1,i2]->s.heap.get? b=some o->m.get? b=some o:=λ{b o}d e=>keep b o (λq=>d (by simp[q])) (λq=>d (by simp[q])) (λq=>d (by simp[q])) (λq=>d (by simp[q])) e
   refine⟨λb o e n W j=>J j e,λb o e n W j=>⟨o.slots,J j e⟩,λb o e n W=>by rw[ym (bT (bw e))];exact n,λb o e j=>⟨o,J j e⟩,
    λb Z e=>by rw[ym (yb e t)];exact e,λb o v e=>by rw[ym (yb e t)];exact e,λb ps e=>⟨#[],by rw[ym (yb e t),e];simp⟩⟩
  have I1:Inv X F σ (upd H s.heap.objs.size (.tup [x,y])) {s with heap:=m}:=I.call' (s':={s with heap:=m}) rfl un G I.bare λb d=>by
   have f:=p b d;exact⟨f.2.2.2.1,f.2.1,f.2.2.2.2.1,f.2.2.2.2.2⟩
  exists .ref s.heap.objs.size,_,I1,rfl,⟨_,x,y,rfl,t,rfl,λzs h=>by rw[zk.inj rfl I h N];exact j,λzs h=>by rw[zk.inj rfl I h C];exact hy⟩,?_,λb d=>?_
  .exists Q,keep _ _ D.TIz D.TITO D.TIi1 D.TIi2 r,⟨u,u',(g.2 _ D.TOz).trans a2⟩,zk.kp a3 λo e=>(g.2 _ D.i1z).trans e,zk.kp a4 λo e=>(g.2 _ D.i2z).trans e
  .rw[ym (λq=>?_)]
   .exact(p b d).1
   .have N:b<s.heap.objs.size:=by
     simp only[bq,List.not_mem_nil,or_false]at d;rcases d with rfl|rfl|rfl|rfl|rfl<;>assumption
    exact absurd q (bT N)
 done:=by
  intro X hP hw hK hc i F s σ H E I p B hg;subst hP hw hK;let⟨xs,Z,N,C,j⟩:=hg;refine zk.sp rfl hc I (p TO (by simp)).1 B N C j _ λM hk=>⟨rfl,?_⟩;have R:∀{b v},H b=some v->b≠z/\b≠TO/\b≠i1/\b≠i2:=λ{b v}e=>⟨yb e (p z (by simp)).1,yb e (p TO (by simp)).1,yb e (p i1 (by simp)).1,yb e (p i2 (by simp)).1⟩
  have G:HOk X.prog X.w H M:=λb o e=>by
   refine(I.hok b o e).stay (λc v l q=>?_) (λc q=>q) λc Z q=>q
   obtain⟨L,T,U,S⟩:c≠z/\c≠TO/\c≠i1/\c≠i2:=by
    rcases l with rfl|l
    .exact R e
    .exact R l
   exact hk c v L T U S q
  have un:Un (frs X.stack) [z,TI,TO,i1,i2] H H s.heap M:=by
   have J:∀{b o},b∉[z,TI,TO,i1,i2]->s.heap.get? b=some o->M.get? b=some o:=λ{b o}d e=>hk b o (λq=>d (by simp[q])) (λq=>d (by simp[q])) (λq=>d (by simp[q])) (λq=>d (by simp[q])) e;exists λb o e n W j=>J j e,λb o e n W j=>⟨o.slots,J j e⟩,λb o e n W=>n,λb o e j=>⟨o,J j e⟩,λb Z e=>e,λb o v e=>e,λb ps e=>⟨#[],by rw[e];simp⟩
  exact I.call' (s':={s with heap:=M}) rfl un G I.bare λb d=>by
   have f:=p b d;exact⟨f.2.2.2.1,f.2.1,f.2.2.2.2.1,f.2.2.2.2.2⟩
 self:=λW W W W W B h=>wpAny_pyIter_zip B.1 h
def ymw{w:qd}{K:z3}{x1}(l1 l2 z TI TO i1 i2:z4)(d:Zap z TI TO i1 i2):
  ydx P w K (.Tuple elts x1 tpos) (Itz K l1 l2) [z,TI,TO,i1,i2] z (Zst z TI TO i1 i2 l1 l2):=ybt ⟨λ⟨o,e,_,d⟩=>⟨o,e,_,d⟩,λh f=>h.at f,λ{X a σ H s l R T}C I h g=>by subst C;exact I.list_inj h g,λ{X a σ H s E i R T x y}C I W t M n S hy=>by
  subst C;let⟨F,L,p,N⟩:=I.list M;let⟨r,q,B,v⟩:=I.list n;let⟨u,Z,ru⟩:=L.get S;let⟨u',J,G⟩:=q.get hy;have D:=d.apart t p B I;let⟨O,b,⟨Y,vb,j⟩,c,m⟩:=t
  exact⟨u,u',ru,G,D,λQ k=>wpAny_pyNext_zip_item D O b j c m p.isList B.isList (by simpa using Z) (by simpa using J) k⟩,λ{X a σ H s E i R T}C U I W t M n S Q k=>by
  subst C;let⟨F,L,p,N⟩:=I.list M;let⟨r,q,B,v⟩:=I.list n;have D:=d.apart t p B I;let⟨O,b,⟨Y,vb,j⟩,c,m⟩:=t;have hl:=L.length;have a0:=q.length;exact wpAny_pyNext_zip_end (show X.A.handled=none from I.ok.hd U) D O b j c m p.isList B.isList (by simp;omega) k⟩
section
variable{X:Cx}
def vhf(K:z3)(ta:TA):TI:=λσ H R=>ta σ H λvs H1=>∃a b,vs=[.ref a,.ref b]/\(∃xs ys,SqL K H1 a xs/\SqL K H1 b ys)/\R (Itz K a b) H1
def yp3{x1}{l m:qg}{ta:TA}{p pos:Pos}(hg:Gl X "zip")(hm:X.mg "zip"=none)(ha:PA X [l,m] ta)(hs:autoParam (starEach [l,m] X.env=[(false,eval l X.env),(false,eval m X.env)]) aD._auto_1)(hs2:autoParam (starEach [m] X.env=[(false,eval m X.env)]) aD._auto_1):
  PI X (.Tuple elts x1 tpos) (.Call (.Name "zip" p) [l,m] [] pos) (vhf X.K ta):=by
 intro g s σ H R I h;refine Call_ (Į I hg hm (show bootBuiltins "zip"=some (.type "zip") by decide+kernel) (PyProof.Rows.callWith_type1 (thn (ha pos g s σ H _ I h) λP c h'=>?_) (by rw[hs,hs2]) (by rw[hs2];rfl)));let⟨L,y,d,C,z⟩:=h';let⟨a,b,e,⟨J,M,D,n⟩,q⟩:=z;subst e
 cases C with
 |cons r rr =>
  cases rr with
  |cons r' rr =>
   cases rr;cases r;cases r';let⟨v,N,A,t⟩:=d.list D;let⟨u,G,o,E⟩:=d.list n;refine call_zip_2 A.isList o.isList λO t i j B x F w=>?_;refine wpAny_pyIter_zip t ?_;have k:Zap (c.heap.objs.size+4) (c.heap.objs.size+2) (c.heap.objs.size+3) c.heap.objs.size (c.heap.objs.size+1):=yo6 _;exists c.heap.objs.size+4,[c.heap.objs.size+4,c.heap.objs.size+2,c.heap.objs.size+3,c.heap.objs.size,c.heap.objs.size+1],_,_,y,rfl,d.kept (t':=c.toks) w,ymw a b _ _ _ _ _ k,⟨t,i,⟨_,_,j⟩,B,x⟩,λb f=>?_,q
   have f:c.heap.objs.size<=b:=by
    simp only[bq,List.not_mem_nil,or_false]at f;rcases f with rfl|rfl|rfl|rfl|rfl<;>omega
   exact d.fpOk f (d.hok.fresh f)
def yys{K:z3}{ta:TA}{σ:St}{H:Hp}{R:It->Hp->Prop}(h:ta σ H λvs H1=>∃a b,vs=[.ref a,.ref b]/\(∃xs ys,SqL K H1 a xs/\SqL K H1 b ys)/\R (Itz K a b) H1):vhf K ta σ H R:=h
end
def ő{K:z3}{a b D:z4}{xs ys:Υ}{g:TG}{te:TE}{n:Nat}{fr:St}{R:Hp->Prop}{H1:Hp}(f:Nat->V)(hq:SqL K H1 a xs)(hq':SqL K H1 b ys)(hl:ys.length=xs.length)(hD:H1 D=none)
  (hs:∀i x y H t pre,xs[i]?=some x->ys[i]?=some y->yr H1 H->H D=some (.lst ((List.range i).map f))->H t=none->List.length pre=n->g (.ref t) (pre++fr) (upd H t (.tup [x,y])) λσ' H'=>(∃pre',List.length pre'=n/\σ'=pre'++fr)/\te σ' H' (MpK H1 D f xs.length i))
  (hd:∀H,yr H1 H->H D=some (.lst ((List.range xs.length).map f))->R H):j6 (Itz K a b) g te n fr D R H1:=by
 exists cW xs.length (Mp H1 D f),⟨xs.length,by simp,bJ _,Mp.zero hD⟩,?_;rintro i m H ⟨rfl,o,p⟩;have q:=p.1.seq hq;have c:=p.1.seq hq';by_cases hlt:i<xs.length
 .refine .inr ⟨⟨xs,ys,xs[i],ys[i]'(),q,c,by simp[hlt],by simp[hl,hlt]⟩,λy H' pre j l=>?_⟩;let⟨t,x,y,rfl,d,rfl,h,k⟩:=j;exact hs i x y H t pre (h xs q) (k ys c) p.1 p.2 d l
 .have e:i=xs.length:=()
  subst e;exact .inl ⟨⟨xs,ys,q,c,.inl (bf _)⟩,hd H p.1 p.2⟩
section
variable{X:Cx}{iter elt tg:qg}{xs:Τ}{g:TG}{pos:Pos}{scope:Scope}{te:TE}{wi:TI}{ys:Τ}{js:qi Nat}
def yn2{y:Str}{py spos:Pos}(hN:X.N.Nodup)(hy:X.N[i]?=some y)(hl:X.env.scope.names.lookup y=some .local)(hc:X.calm=true)(hi:PI X tg iter wi)
  (he:∀(C:z4)(s2:qa)(H2:Hp)(fp:Χ),PE (X.compT scope ys C xs s2 H2 fp) elt te) (hjs:js.map (λj=>X.N[j]?)=ys.map some)
  (hgt:∀(C:z4)(s2:qa)(H2:Hp)(fp:Χ),PG (X.compT scope ys C xs s2 H2 fp) tg g)
  (hclos:closureFor scope X.env=pure (ı ys X.env)) (hyc:∀y∈ys,X.env.kindOf y=some .cell) (hrel:∀y∈ys,(relabel scope X.env).names.lookup y=some .cell)
  (hsw:autoParam (swapsWith (.ListComp elt [⟨tg,iter,[],0⟩] scope pos) (some (.Name y py)) spos.line X.env=pure true) aD._auto_1)
  (hfr:autoParam (∀y∈scope.names,y.2=.free->y.1∈ys) aG._auto_1) (hcell:autoParam (∀y∈scope.names,y.2≠.cell) aG._auto_1) (hkind:autoParam (scope.kind=.function) aD._auto_1)
  (hnames:autoParam (∀y∈scope.names,y.2=.local->scope.names.lookup y.1=some .local) aG._auto_1) (hs:autoParam (∀x,foldedSetIterable iter X.env x=pure x) aC._auto_1):
  PS X (.Assign [.Name y py] (.ListComp elt [⟨tg,iter,[],0⟩] scope pos) spos) (vev (yj7 wi g te xs.length js) (xo i)):=by
 refine .mk λa s σ H u I h=>?_;rw[exec_Assign_Name_used _ _ _ _ hsw];refine bb (wpAny_standAt (bb ?_));show wpAny _ X.A (do let _ <- comprehension (.ListComp elt [⟨tg,iter,[],0⟩] scope pos) scope X.env _ (newList []) false (eval iter X.env) (some (assign (.Name y py) X.env))) _ _ s;refine bb (cJ (wpAny_comprehension_free (use:=some (assign (.Name y py) X.env)) (Q:=λZ d=>SP X a u .next d) rfl hs hclos hkind hnames (thn (hi a s σ H _ I h) λv W K=>thn K λG s2 E=>?_)) (λZ d M=>bh (bh M)) λZ Z e=>e);let⟨U,fp,S,J,H2,e,F,T,t,B,h⟩:=E;subst e;refine æ (R:=λD n=>xo i (.ref D) σ n u.nx) (RR:=compPost (model X.prog X.w) X.A X.xe (some (assign (.Name y py) X.env)) (λZ d=>SP X a u .next d)) hc he hgt hcell hkind hfr hyc hrel hjs F T t B h ?_;intro D C n d m f L O q;refine wpAny_assign_Name (Ĝ (v:=V.ref D) O hN hy (Or.inl hl) rfl (λp l r=>?_) (Or.inr hl));exists m,?_,λP k=>⟨_,n,?_,q⟩
 .obtain⟨b,k,c⟩:=r;refine L.sameBut k λz=>?_;rcases c with c|c
  .exact f.2.1 (z.trans c)
  .exact f.2.2.2.2.1 y b c z.symm
 .exact l.turned (t':=p.toks) (λb o c e=>k.extBut b o c e) f.1 f.2.1 f.2.2.2.1 f.2.2.2.2.1 f.2.2.2.2.2
end
section
variable{X:Cx}
noncomputable def onI(f:Int->Int):V->V
 | .int i=>.int (f i)
 |v=>v
def yi9(f:Int->Int)(ns:Ρ):(ns.map V.int).map (onI f)=(ns.map f).map V.int:=by rw[bO,bO];rfl
def yj6{pre:qi (Ψ)}(h:List.length pre=2):∃v1 v2,pre=[v1,v2]:=by let⟨v1,t,rfl,a⟩:=θ h;let⟨v2,t,rfl,b⟩:=θ a;exists v1,v2,by rw[List.length_eq_zero_iff.mp b]
end
section
variable{X:Cx}
def vbz:V->qi V->Hp->VK->Prop:=λx vs H Q=>∃i:Int,x=.int i/\vs=[]/\Q (.int (Builtin.Int.intBits i:Nat)) H
def yi5:MtR X "int.bit_length" vbz:=by intro b s σ H x f v e Q I c d h;let⟨i,rfl,rfl,q⟩:=h;let⟨t,rfl⟩:=c;have a:=d.zero;subst a;exact PyProof.Rows.call_int_bit_length ⟨.int _,H,I.tok _,⟨_,rfl⟩,q⟩
def yzr{K:z3}{i:Int}{H:Hp}{Q:VK}(h:Q (.int (Builtin.Int.intBits i:Nat)) H):tyV K "int" (.int i) H/\vbz (.int i) [] H Q:=⟨rfl,i,rfl,rfl,h⟩
end
section
variable{prog:qh}{w:qd}{A:qe}{E:Δ}{s:qa}
def ylq{z TI TO:z4}{x y b:qb}{Q:Δ}(D:ZipApart z TI TO i1 i2 l1 l2)(hz:IsZip s.heap z TI TO .none)(hTI:IsPair s.heap TI (.ref i1) (.ref i2))(hTO:IsPair s.heap TO a b)
  (h1:s.heap.IsTupleIter i1 l1 k1) (h2:s.heap.IsTupleIter i2 l2 k2) (hl1:s.heap.IsTuple l1 xs) (hl2:s.heap.IsTuple l2 ys) (hx:xs[k1]?=some x) (hy:ys[k2]?=some y)
  (hQ:∀h',IsZip h' z TI TO (rawInt s.heap.objs.size)->IsPair h' TO x y->h'.IsTupleIter i1 l1 (k1+1)->h'.IsTupleIter i2 l2 (k2+1)->IsPair h' s.heap.objs.size x y->h'.objs.size=s.heap.objs.size+1->(∀c o,c≠z->c≠TO->c≠i1->c≠i2->s.heap.get? c=some o->h'.get? c=some o)->Q (.ref s.heap.objs.size) {s with heap:=h'}):
  wpAny (model prog w) A (Builtin.«zip.__next__» ⟨[.ref z],[]⟩) (λfin s'=>∃v,fin=.done (.ret v)/\Q v s') E s:=by
 (show wpAny _ _ (field (.ref z) 2 >>=_) _ _ _);refine bb (b9 hz rfl (x:=.bool false) rfl ?_)
 (show wpAny _ _ (field (.ref z) 3 >>=_) _ _ _);refine bb (b9 hz rfl (x:=.ref TI) rfl ?_);refine bb (wpAny_seqItems hTI rfl ?_)
 (show wpAny _ _ (Builtin.SmallTypes.ownedTupleIsFree (.ref z) >>=_) _ _ _);refine bb ?_;unfold Builtin.SmallTypes.ownedTupleIsFree
 refine bb (b9 hz rfl (x:=.none) rfl (bh ?_));simp only[if_true];refine bb (wpAny_rule ?_);refine bb (b9 hz rfl (x:=.ref TO) rfl ?_);refine bb (wpAny_setField_rec hz (by simp) λh₁ hz₁ hs₁=>?_)
 replace hz₁:IsZip h₁ z TI TO .ellipsis:=hz₁;refine bb ?_;simp only[List.zipIdx_cons,List.zipIdx_nil,List.forIn_cons,List.forIn_nil]
 refine bb (bb (wpAny_onRaise ?_));(show wpAny _ _ (Builtin.SmallTypes.nextOf (.ref i1) >>=_) _ _ _);refine bb (χ (h1.at λo e=>hs₁.extBut _ _ D.i1z e) (hl1.extBut hs₁.extBut D.l1z) hx λh₂ h1₂ hs₂=>bh ?_);have hTO₂:IsPair h₂ TO a b:=hs₂.extBut _ _ D.TOi1 (hs₁.extBut _ _ D.TOz hTO);refine bb (wpAny_seqItems hTO₂ rfl ?_);refine bb (wpAny_updateSeq_pair hTO₂ λh₃ hTO₃ hs₃=>?_);replace hTO₃:IsPair h₃ TO x b:=hTO₃;refine bb (wpAny_letGo (bh ?_));refine bb (bb (wpAny_onRaise ?_));(show wpAny _ _ (Builtin.SmallTypes.nextOf (.ref i2) >>=_) _ _ _);refine bb (χ (h2.at λo e=>hs₃.extBut _ _ D.TOi2.symm (hs₂.extBut _ _ D.i12.symm (hs₁.extBut _ _ D.i2z e))) (((hl2.extBut hs₁.extBut D.l2z).extBut hs₂.extBut D.l2i1).extBut hs₃.extBut D.l2TO) hy λh₄ h2₄ hs₄=>bh ?_);have hTO₄:IsPair h₄ TO x b:=hs₄.extBut _ _ D.TOi2 hTO₃;refine bb (wpAny_seqItems hTO₄ rfl ?_);refine bb (wpAny_updateSeq_pair hTO₄ λh₅ hTO₅ hs₅=>?_);replace hTO₅:IsPair h₅ TO x y:=hTO₅;refine bb (wpAny_letGo (bh (bh ?_)));refine bb (wpAny_seqItems hTO₅ rfl ?_);refine bb (wpAny_newTuple ?_);have g:h₅.objs.size=s.heap.objs.size:=by(rw[hs₅.1,hs₄.1,hs₃.1,hs₂.1,hs₁.1])
 have hz₅:IsZip h₅ z TI TO .ellipsis:=(hs₅.extBut _ _ D.TOz.symm (hs₄.extBut _ _ D.i2z.symm (hs₃.extBut _ _ D.TOz.symm (hs₂.extBut _ _ D.i1z.symm hz₁))));have hk₅:∀c o,c≠z->c≠TO->c≠i1->c≠i2->s.heap.get? c=some o->h₅.get? c=some o:=λc o f j m l e=>hs₅.extBut _ _ j (hs₄.extBut _ _ l (hs₃.extBut _ _ j (hs₂.extBut _ _ m (hs₁.extBut _ _ f e))));have h1₅:h₅.IsTupleIter i1 l1 (k1+1):=h1₂.at λo e=>hs₅.extBut _ _ D.TOi1.symm (hs₄.extBut _ _ D.i12 (hs₃.extBut _ _ D.TOi1.symm e));have h2₅:h₅.IsTupleIter i2 l2 (k2+1):=h2₄.at λo e=>hs₅.extBut _ _ D.TOi2.symm e;have d:z<h₅.objs.size:=(bw hz₅)
 (show wpAny _ _ (Builtin.SmallTypes.ownedTupleHandOut (.ref z) (.ref h₅.objs.size) >>=_) _ _ _);refine bb ?_;unfold Builtin.SmallTypes.ownedTupleHandOut
 have hz₆:IsZip (h₅.push { cls:=.type "tuple",data:=.seq #[x,y]}) z TI TO .ellipsis:=(be _ hz₅);refine bb (wpAny_setField_rec hz₆ (by simp) λh₇ hz₇ hs₇=>?_);replace hz₇:IsZip h₇ z TI TO (rawInt h₅.objs.size):=hz₇;refine wpAny_setField_rec hz₇ (by simp) λh₈ hz₈ hs₈=>?_;replace hz₈:IsZip h₈ z TI TO (rawInt h₅.objs.size):=hz₈;have k:∀c o,c≠z->h₅.get? c=some o->h₈.get? c=some o:=(λc o f e=>hs₈.extBut _ _ f (hs₇.extBut _ _ f (be _ e)));have hT₈:IsPair h₈ h₅.objs.size x y:=(hs₈.extBut _ _ (Nat.ne_of_gt d) (hs₇.extBut _ _ (Nat.ne_of_gt d) (br _ rfl)));have i:h₈.objs.size=h₅.objs.size+1:=by(rw[hs₈.1,hs₇.1,Heap.size_push])
 (rw[g]at hz₈ hT₈ i);refine bh ⟨_,rfl,?_⟩;show Q (.ref h₅.objs.size) _;rw[g]
 exact hQ h₈ hz₈ (k _ _ D.TOz hTO₅) (h1₅.at λo e=>k _ o D.i1z e) (h2₅.at λo e=>k _ o D.i2z e) hT₈ i (λc o f j m l e=>k c o f (hk₅ c o f j m l e))
def yus{z TI TO:z4}{b:qb}{Q:Fin->qa->Prop}(hh:A.handled=none)(D:ZipApart z TI TO i1 i2 l1 l2)(hz:IsZip s.heap z TI TO .none)(hTI:IsPair s.heap TI (.ref i1) (.ref i2))(hTO:IsPair s.heap TO a b)
  (h1:s.heap.IsTupleIter i1 l1 k1) (h2:s.heap.IsTupleIter i2 l2 k2) (hl1:s.heap.IsTuple l1 xs) (hl2:s.heap.IsTuple l2 ys) (hend:xs[k1]?=none\/ys[k2]?=none)
  (hE:∀h' e,(∀c o,c≠z->c≠TO->c≠i1->c≠i2->s.heap.get? c=some o->h'.get? c=some o)->(∃o,h'.get? e=some o/\o.cls=.type "StopIteration")->E (.ref e) {s with heap:=h'}):wpAny (model prog w) A (Builtin.«zip.__next__» ⟨[.ref z],[]⟩) Q E s:=by
 (show wpAny _ _ (field (.ref z) 2 >>=_) _ _ _);refine bb (b9 hz rfl (x:=.bool false) rfl ?_)
 (show wpAny _ _ (field (.ref z) 3 >>=_) _ _ _);refine bb (b9 hz rfl (x:=.ref TI) rfl ?_);refine bb (wpAny_seqItems hTI rfl ?_)
 (show wpAny _ _ (Builtin.SmallTypes.ownedTupleIsFree (.ref z) >>=_) _ _ _);refine bb ?_;unfold Builtin.SmallTypes.ownedTupleIsFree
 refine bb (b9 hz rfl (x:=.none) rfl (bh ?_));simp only[if_true];refine bb (wpAny_rule ?_);refine bb (b9 hz rfl (x:=.ref TO) rfl ?_);refine bb (wpAny_setField_rec hz (by simp) λh₁ hz₁ hs₁=>?_)
 replace hz₁:IsZip h₁ z TI TO .ellipsis:=hz₁;refine bb ?_;simp only[List.zipIdx_cons,List.zipIdx_nil,List.forIn_cons,List.forIn_nil]
 refine bb (bb (wpAny_onRaise ?_));(show wpAny _ _ (Builtin.SmallTypes.nextOf (.ref i1) >>=_) _ _ _)
 cases hx:xs[k1]? with
 |none =>
  refine bb (Ē hh (h1.at λo e=>hs₁.extBut _ _ D.i1z e) (hl1.extBut hs₁.extBut D.l1z) hx λh₂ e hs₂ k=>?_);let⟨j,d,f⟩:=k;have hz₂:IsZip h₂ z TI TO .ellipsis:=hs₂ _ _ D.i1z.symm hz₁;have g:e≠z:=(λx=>by(subst x;rw[hz₂]at d;cases d;simp at f));exact wpAny_setField_rec hz₂ (by simp) λh₃ Z hs₃=>hE h₃ e (λc o i Z l Z x=>hs₃.extBut _ _ i (hs₂ _ _ l (hs₁.extBut _ _ i x))) ⟨j,hs₃.extBut _ _ g d,f⟩
 |some x =>
  have n:ys[k2]?=none:=by(rcases hend with h|h;(rw[hx]at h;cases h);exact h)
  refine bb (χ (h1.at λo e=>hs₁.extBut _ _ D.i1z e) (hl1.extBut hs₁.extBut D.l1z) hx λh₂ h1₂ hs₂=>bh ?_);have hTO₂:IsPair h₂ TO a b:=(hs₂.extBut _ _ D.TOi1 (hs₁.extBut _ _ D.TOz hTO));refine bb (wpAny_seqItems hTO₂ rfl ?_);refine bb (wpAny_updateSeq_pair hTO₂ λh₃ hTO₃ hs₃=>?_);refine bb (wpAny_letGo (bh ?_));refine bb (bb (wpAny_onRaise ?_));(show wpAny _ _ (Builtin.SmallTypes.nextOf (.ref i2) >>=_) _ _ _);refine bb (Ē hh (h2.at λo e=>hs₃.extBut _ _ D.TOi2.symm (hs₂.extBut _ _ D.i12.symm (hs₁.extBut _ _ D.i2z e))) (((hl2.extBut hs₁.extBut D.l2z).extBut hs₂.extBut D.l2i1).extBut hs₃.extBut D.l2TO) n λh₄ e hs₄ k=>?_);let⟨j,d,f⟩:=k;have hz₄:IsZip h₄ z TI TO .ellipsis:=hs₄ _ _ D.i2z.symm (hs₃.extBut _ _ D.TOz.symm (hs₂.extBut _ _ D.i1z.symm hz₁));have g:e≠z:=(λx=>by(subst x;rw[hz₄]at d;cases d;simp at f));exact wpAny_setField_rec hz₄ (by simp) λh₅ Z hs₅=>hE h₅ e (λc o i m l p x=>hs₅.extBut _ _ i (hs₄ _ _ p (hs₃.extBut _ _ m (hs₂.extBut _ _ l (hs₁.extBut _ _ i x))))) ⟨j,hs₅.extBut _ _ g d,f⟩
def ynm{z TI TO:z4}{x y b:qb}{Q:qj qb->qa->Prop}(D:ZipApart z TI TO i1 i2 l1 l2)(hz:IsZip s.heap z TI TO .none)(hTI:IsPair s.heap TI (.ref i1) (.ref i2))(hTO:IsPair s.heap TO a b)
  (h1:s.heap.IsTupleIter i1 l1 k1) (h2:s.heap.IsTupleIter i2 l2 k2) (hl1:s.heap.IsTuple l1 xs) (hl2:s.heap.IsTuple l2 ys) (hx:xs[k1]?=some x) (hy:ys[k2]?=some y)
  (hQ:∀h',IsZip h' z TI TO (rawInt s.heap.objs.size)->IsPair h' TO x y->h'.IsTupleIter i1 l1 (k1+1)->h'.IsTupleIter i2 l2 (k2+1)->IsPair h' s.heap.objs.size x y->h'.objs.size=s.heap.objs.size+1->(∀c o,c≠z->c≠TO->c≠i1->c≠i2->s.heap.get? c=some o->h'.get? c=some o)->Q (some (.ref s.heap.objs.size)) {s with heap:=h'}):
  wpAny (model prog w) A (pyNext (.ref z)) Q E s:=by
 have d:s.TypeIs (.ref z) "zip":=(⟨_,hz,rfl⟩);unfold pyNext;exact bb (wpAny_attempt (wpAny_callSpecial?_slot (name:=Str.ofString "__next__") d F.slot_zip_next (wpAny_call_entry F.slot_zip_next d F.entry_zip_next
   (ylq D hz hTI hTO h1 h2 hl1 hl2 hx hy λh' k e i f g h j=>bh (hQ h' k e i f g h j)) (F.args_zip_next_1 _))))
def ynk{z TI TO:z4}{b:qb}{Q:qj qb->qa->Prop}(hh:A.handled=none)(D:ZipApart z TI TO i1 i2 l1 l2)(hz:IsZip s.heap z TI TO .none)(hTI:IsPair s.heap TI (.ref i1) (.ref i2))(hTO:IsPair s.heap TO a b)
  (h1:s.heap.IsTupleIter i1 l1 k1) (h2:s.heap.IsTupleIter i2 l2 k2) (hl1:s.heap.IsTuple l1 xs) (hl2:s.heap.IsTuple l2 ys) (hend:xs[k1]?=none\/ys[k2]?=none)
  (hQ:∀h',(∀c o,c≠z->c≠TO->c≠i1->c≠i2->s.heap.get? c=some o->h'.get? c=some o)->Q none {s with heap:=h'}):wpAny (model prog w) A (pyNext (.ref z)) Q E s:=by
 have d:s.TypeIs (.ref z) "zip":=(⟨_,hz,rfl⟩);unfold pyNext;refine bb (wpAny_attempt (wpAny_callSpecial?_slot (name:=Str.ofString "__next__") d F.slot_zip_next (wpAny_call_entry F.slot_zip_next d F.entry_zip_next
  (yus hh D hz hTI hTO h1 h2 hl1 hl2 hend λh' e f g=>?_) (F.args_zip_next_1 _))))
 let⟨o,i,h⟩:=g;refine bb (wpAny_isInstance (T:="StopIteration") (b:=true) ⟨o,i,h⟩ isSubtype_stop ?_);exact bh (hQ _ f)
end
noncomputable abbrev zT1(h:qf)(l1:z4):qf:=h.push { cls:=.type "tuple_iterator",data:=.fields #[.ref l1,.int 0 0]}
abbrev zT2(h:qf)(l1 l2:z4):qf:=(zT1 h l1).push { cls:=.type "tuple_iterator",data:=.fields #[.ref l2,.int 0 0]}
abbrev zT3(h:qf)(l1 l2:z4):qf:=(zT2 h l1 l2).push { cls:=.type "tuple",data:=.seq #[.ref h.objs.size,.ref (zT1 h l1).objs.size]}
abbrev zT4(h:qf)(l1 l2:z4):qf:=(zT3 h l1 l2).push { cls:=.type "tuple",data:=.seq #[.none,.none]}
abbrev zT5(h:qf)(l1 l2:z4):qf:=(zT4 h l1 l2).push { cls:=.type "zip",data:=.fields #[.none,.bool false,.bool false,.ref (zT2 h l1 l2).objs.size,.ref (zT3 h l1 l2).objs.size]}
def yuq(l1 l2:z4)(xs ys:Array qb):Meets (Builtin.«zip.__new__» ⟨[.type "zip",.ref l1,.ref l2],[]⟩) (λZ R s=>s.heap.IsTuple l1 xs/\s.heap.IsTuple l2 ys/\R (.ok (.ret (.ref (zT4 s.heap l1 l2).objs.size))) {s with heap:=zT5 s.heap l1 l2}) :=
 .of_wp λi w A R s h=>by
  let⟨l,g,d,k,j⟩:=s;let⟨e,a,h⟩:=h;have f:=sub_zip;have b:Heap.IsTuple (Shared.heap ⟨l,g,d,k,j⟩) l1 xs:=e;have c:Heap.IsTuple (Shared.heap ⟨l.push { cls:=.type "tuple_iterator",data:=.fields #[.ref l1,.int 0 0]},g,d,k,j⟩) l2 ys:=Heap.IsTuple.push a _
  wp_walk using wpAny_pyIter_tuple b,wpAny_pyIter_tuple c
  exists _,rfl,h
section
variable{prog:qh}{w:qd}{A:qe}{E:Δ}{s:qa}
def ymc{Q:Δ}(hl1:s.heap.IsTuple l1 xs)(hl2:s.heap.IsTuple l2 ys)
  (h:∀h',IsZip h' (s.heap.objs.size+4) (s.heap.objs.size+2) (s.heap.objs.size+3) .none->IsPair h' (s.heap.objs.size+2) (.ref s.heap.objs.size) (.ref (s.heap.objs.size+1))->IsPair h' (s.heap.objs.size+3) .none .none->h'.IsTupleIter s.heap.objs.size l1 0->h'.IsTupleIter (s.heap.objs.size+1) l2 0 ->
   (∀c o,s.heap.get? c=some o->h'.get? c=some o)->Q (.ref (s.heap.objs.size+4)) {s with heap:=h'}):wpAny (model prog w) A (call (.type "zip") [.ref l1,.ref l2]) Q E s:=by
 refine callType_new F.called_zip ∅ (F.typeCall_zip_2 _ _) (F.newCall_zip_2 _ _) (λd=>F.args_object_init_3 d _ _) F.entry_zip_new (yuq l1 l2 xs ys) ⟨hl1,hl2,?_⟩;have b:(zT1 s.heap l1).objs.size=s.heap.objs.size+1:=Heap.size_push ..;have a:(zT2 s.heap l1 l2).objs.size=s.heap.objs.size+2:=by rw[Heap.size_push,b]
 have e:(zT3 s.heap l1 l2).objs.size=s.heap.objs.size+3:=by rw[Heap.size_push,a]
 have f:(zT4 s.heap l1 l2).objs.size=s.heap.objs.size+4:=by rw[Heap.size_push,e]
 have g5:(zT5 s.heap l1 l2).get? (zT4 s.heap l1 l2).objs.size=some _:=br _ rfl;have g4:(zT5 s.heap l1 l2).get? (zT3 s.heap l1 l2).objs.size=some _:=be _ (br _ rfl);have g3:(zT5 s.heap l1 l2).get? (zT2 s.heap l1 l2).objs.size=some _:=be _ (be _ (br _ rfl));have g2:(zT5 s.heap l1 l2).get? (zT1 s.heap l1).objs.size=some _:=be _ (be _ (be _ (br _ rfl)));have g1:(zT5 s.heap l1 l2).get? s.heap.objs.size=some _:=(be _ (be _ (be _ (be _ (br _ rfl)))));show _/\_;rw[a,e,f]at g5;rw[b,a]at g3;rw[e]at g4;rw[b]at g2;rw[f];exists⟨_,g5,rfl⟩,h _ g5 g3 g4 ⟨_,g1,rfl,rfl⟩ ⟨_,g2,rfl,rfl⟩ λc o x=>(be _ (be _ (be _ (be _ (be _ x)))))
end
abbrev vey(K:z3)(a b:z4):It:=vg1 (SqT K) a b
abbrev vha:=ves Heap.IsTupleIter
def Zap.apartT{X:Cx}{H:Hp}{s:qa}{z TI TO:z4}{xs ys:Ο}{us vs:Υ}(d:Zap z TI TO i1 i2)(st:vha z TI TO i1 i2 l1 l2 i s.heap)(p:s.heap.IsTuple l1 xs.toArray)(q:s.heap.IsTuple l2 ys.toArray)(hn:H TO=none)(hK:X.K.lookup TO=none)
  (hq:SqT X.K H l1 us) (hq':SqT X.K H l2 vs):ZipApart z TI TO i1 i2 l1 l2:=by
 let⟨u,w,⟨a,b,v⟩,⟨y,t,k,_⟩,⟨B,r,m,_⟩⟩:=st;let⟨x,e,j,_⟩:=p;let⟨A,f,g,_⟩:=q
 have c:∀{l:z4}{n:Υ},SqT X.K H l n->l≠TO:=λ{l n}h=>by
  rintro rfl;rcases h with(h|⟨o,h⟩)|⟨_,_,_,h,_⟩
  .rw[hn]at h;cases h
  .rw[hn]at h;cases h
  .rw[hK]at h;cases h
 exact⟨d.a1,d.a2,d.a3,d.a4,d.a5,d.a6,d.a7,d.a8,d.a9,d.b1,
  zx e u (by rw[j];exact nT ∅),c hq,zx e t (by rw[j,k];decide),zx e r (by rw[j,m];decide),
  zx f u (by rw[g];exact nT ∅),c hq',zx f t (by rw[g,k];decide),zx f r (by rw[g,m];decide)⟩
def yhi{w:qd}{K:z3}{x1}(l1 l2 z TI TO i1 i2:z4)(d:Zap z TI TO i1 i2)(hKT:K.lookup TO=none):
  ydx P w K (.Tuple elts x1 tpos) (vey K l1 l2) [z,TI,TO,i1,i2] z (vha z TI TO i1 i2 l1 l2):=ybt ⟨λ⟨o,e,_,d⟩=>⟨o,e,_,d⟩,λh f=>h.at f,λ{X j σ H s l xs ys}G I h g=>by subst G;exact I.tuple_inj h g,λ{X j σ H s E i xs ys x y}G I N v F c S hy=>by
  subst G;let⟨b,M,p,O⟩:=I.tuple F;let⟨a,t,C,B⟩:=I.tuple c;let⟨u,Y,ru⟩:=M.get S;let⟨u',L,J⟩:=t.get hy;have D:=d.apartT (xs:=b) (ys:=a) v p C N hKT F c;let⟨R,m,⟨U,vb,q⟩,n,r⟩:=v
  exact⟨u,u',ru,J,D,λQ k=>ynm (xs:=b.toArray) (ys:=a.toArray) D R m q n r p C (by simpa using Y) (by simpa using L) k⟩,λ{X j σ H s E i xs ys}G T I N v F c S Q k=>by
  subst G;let⟨b,M,p,O⟩:=I.tuple F;let⟨a,t,C,B⟩:=I.tuple c;have D:=d.apartT (xs:=b) (ys:=a) v p C N hKT F c;let⟨R,m,⟨U,vb,q⟩,n,r⟩:=v;have hl:=M.length;have Z:=t.length;exact ynk (xs:=b.toArray) (ys:=a.toArray) (show X.A.handled=none from I.ok.hd T) D R m q n r p C (by simp;omega) k⟩
section
variable{X:Cx}
def vef(K:z3)(ta:TA):TI:=λσ H R=>ta σ H λvs H1=>∃a b,vs=[.ref a,.ref b]/\(∃xs ys,SqT K H1 a xs/\SqT K H1 b ys)/\R (vey K a b) H1
def yt7{x1}{l m:qg}{ta:TA}{p pos:Pos}(hg:Gl X "zip")(hm:X.mg "zip"=none)(ha:PA X [l,m] ta)(hs:autoParam (starEach [l,m] X.env=[(false,eval l X.env),(false,eval m X.env)]) aD._auto_1)(hs2:autoParam (starEach [m] X.env=[(false,eval m X.env)]) aD._auto_1):
  PI X (.Tuple elts x1 tpos) (.Call (.Name "zip" p) [l,m] [] pos) (vef X.K ta):=by
 intro i s σ H R I h;refine Call_ (Į I hg hm (show bootBuiltins "zip"=some (.type "zip") by decide+kernel) (PyProof.Rows.callWith_type1 (thn (ha pos i s σ H _ I h) λQ c h'=>?_) (by rw[hs,hs2]) (by rw[hs2];rfl)));let⟨M,A,d,E,B⟩:=h';let⟨a,b,e,⟨L,N,F,v⟩,q⟩:=B;subst e
 cases E with
 |cons r rr =>
  cases rr with
  |cons r' rr =>
   cases rr;cases r;cases r';let⟨j,O,C,x⟩:=d.tuple F;let⟨f,J,w,G⟩:=d.tuple v;refine ymc (show c.heap.IsTuple a j.toArray from C) (show c.heap.IsTuple b f.toArray from w) λP x k n D z y=>?_;refine wpAny_pyIter_zip x ?_
   have u:X.K.lookup (c.heap.objs.size+3)=none:=by
    cases hl:X.K.lookup (c.heap.objs.size+3)with
    |none=>rfl
    |some o=>exact absurd (bw (d.kIn _ o hl)) (Nat.not_lt.mpr (Nat.le_add_right _ _))
   have t:Zap (c.heap.objs.size+4) (c.heap.objs.size+2) (c.heap.objs.size+3) c.heap.objs.size (c.heap.objs.size+1):=yo6 _;exists c.heap.objs.size+4,[c.heap.objs.size+4,c.heap.objs.size+2,c.heap.objs.size+3,c.heap.objs.size,c.heap.objs.size+1],_,_,A,rfl,d.kept (t':=c.toks) y,yhi a b _ _ _ _ _ t u,⟨x,k,⟨_,_,n⟩,D,z⟩,λb g=>?_,q
   have g:c.heap.objs.size<=b:=by
    simp only[bq,List.not_mem_nil,or_false]at g;rcases g with rfl|rfl|rfl|rfl|rfl<;>omega
   exact d.fpOk g (d.hok.fresh g)
def yto{K:z3}{ta:TA}{σ:St}{H:Hp}{R:It->Hp->Prop}(h:ta σ H λvs H1=>∃a b,vs=[.ref a,.ref b]/\(∃xs ys,SqT K H1 a xs/\SqT K H1 b ys)/\R (vey K a b) H1):vef K ta σ H R:=h
end
def yc7{K:z3}{a b D:z4}{xs ys:Υ}{g:TG}{te:TE}{n m:Nat}{fr:St}{R:Hp->Prop}{H1:Hp}(f:Nat->V)(hq:SqT K H1 a xs)(hq':SqT K H1 b ys)(h1:m<=xs.length)(h2:m<=ys.length)(h3:xs.length<=m\/ys.length<=m)(hD:H1 D=none)
  (hs:∀i x y H t pre,i<m->xs[i]?=some x->ys[i]?=some y->yr H1 H->H D=some (.lst ((List.range i).map f))->H t=none->List.length pre=n->g (.ref t) (pre++fr) (upd H t (.tup [x,y])) λσ' H'=>(∃pre',List.length pre'=n/\σ'=pre'++fr)/\te σ' H' (MpK H1 D f m i))
  (hd:∀H,yr H1 H->H D=some (.lst ((List.range m).map f))->R H):j6 (vey K a b) g te n fr D R H1:=by
 exists cW m (Mp H1 D f),⟨m,by simp,bJ _,Mp.zero hD⟩,?_;rintro i j H ⟨rfl,r,p⟩;have q:=p.1.tup hq;have c:=p.1.tup hq';by_cases hlt:i<m
 .refine .inr ⟨⟨xs,ys,xs[i]'(),ys[i]'(),q,c,bc _,bc _⟩,λy H' pre k o=>?_⟩;let⟨t,x,y,rfl,d,rfl,h,l⟩:=k;exact hs i x y H t pre hlt (h xs q) (l ys c) p.1 p.2 d o
 .have e:i=m:=()
  subst e;exact .inl ⟨⟨xs,ys,q,c,h3⟩,hd H p.1 p.2⟩
end L2
namespace L2
open PySem PySem.Spec PyProof.Rows HT
section
variable{prog:qh}{w:qd}{A:qe}{E:Δ}{s:qa}
def yc2{t sl:z4}{items:Array qb}{vl vu:qb}{lo hi:qj Int}{Q:Δ}(ht:IsTup s.heap t items)(hs:s.heap.IsSliceOf sl vl vu .none)(pl:IsPart vl lo)(pu:IsPart vu hi)
  (hw:sIx items.size 0 lo=0/\sIx items.size items.size hi=items.size) (h:Q (.ref t) s):wpAny (model prog w) A (getItem (.ref t) (.ref sl)) Q E s:=by
 let⟨f,b,c,e⟩:=id hs;have d:s.TypeIs (.ref sl) "slice":=⟨f,b,c⟩;unfold getItem
 try with_reducible refine wpAny_holding ?_
 first|refine bb (bh ?_)|skip
 refine bb (wpAny_sequenceKey ht.typeIs ∅ ?_);refine bb (wpAny_callSpecial?_slot (name:=Str.ofString "__getitem__") ht.typeIs PyProof.Rows.slot_tuple_getitem
  (wpAny_call_entry PyProof.Rows.slot_tuple_getitem ht.typeIs entry_tuple_getitem ?_ (args_tuple_getitem _ _)))
 show wpAny _ _ (Builtin.Tuple.tupleItemsOf (.ref t) >>=_) _ _ s;refine bb (tupleItemsOf_ ht ?_);refine bb (wpAny_typeOf d ?_);rw[if_pos ∅];refine bb (jv hs pl pu ?_)
 have a:(((sIx items.size 0 lo:Nat):Int) == 0 && (1:Int) == 1 && (sIx items.size items.size hi-sIx items.size 0 lo) == items.size)=true:=by
  rw[hw.1,hw.2];simp
 show wpAny _ _ (if (((sIx items.size 0 lo:Nat):Int) == 0 && (1:Int) == 1 && (sIx items.size items.size hi-sIx items.size 0 lo) == items.size)=true then _ else _) _ _ s;rw[if_pos a];refine bb (m:=Builtin.Tuple.tupleIsExact _) ?_;unfold Builtin.Tuple.tupleIsExact;refine bb (wpAny_typeOf ht.typeIs (bh ?_));show wpAny _ _ (if (Value.type "tuple" == Value.type "tuple")=true then _ else _) _ _ s;rw[if_pos ∅]
 first
  |exact bb (wpAny_rule (bh ⟨_,rfl,bh h⟩))
  |exact bb (wpAny_rule (bb (bh (bh ⟨_,rfl,bh h⟩))))
  |exact bb (bb (wpAny_rule (bh (bh ⟨_,rfl,bh h⟩))))
end
section
variable{X:Cx}
def vfx(K:z3):V->qj Int->qj Int->Hp->VK->Prop:=λx lo hi H Q=>∃a xs,x=.ref a/\SqT K H a xs/\(HT.sIx xs.length 0 lo=0/\HT.sIx xs.length xs.length hi=xs.length)/\Q (.ref a) H
def yss:SlR X (vfx X.K):=by
 intro d s σ H x v o u lo p n Q I f k l m h;let⟨a,i,rfl,j,g,q⟩:=h;cases f;let⟨c,r,e,t⟩:=I.tuple j;have b:c.toArray.size=i.length:=by rw[bC];exact r.length.symm
 exact⟨"tuple",_,PyProof.Rows.slot_tuple_getitem.lookup,e.typeIs,yc2 e k l m (by rw[b];exact g) ⟨.ref a,H,I,rfl,q⟩⟩
end
end L2
namespace L2
open PySem PySem.Spec PyProof.Rows PySem.SeqAt
open AutoSeq1 (wpAny_loadPart')
end L2
namespace L2
open PySem PySem.Spec PyProof.Rows
variable{D it:z4}{e tg:qg}{fd:FuncData}{pins:Θ}{ep i j:Nat}{an:qj z4}{apos cpos:Pos}{P:qh}{st:qc}{p0 p1 p2 qual:Str}{cdv doc ov pm:qb}{Q:Δ}
def ydo{X:Cx}{K:z3}{f:Str}{pos:Pos}{ta:TE}(hK:X.K=K)(he:PE X e ta)(hb:attributeBase e f X.env (eval e X.env)=eval e X.env):PE X (.Attribute e f pos) (vgv K ta f):=hK ▸ yk he hb
structure ylj(K:z3)(x qual:Str)(st:qc)(D:z4)(f:z4)(fd:FuncData):Prop where
 ex:∃(oc:qb)(od:qj z4)(kV doc pm:qb)(an:qj z4)(cdv ct:qb)(osl:Array (qj qb)),
  fd=W.fnOf x qual (xn st) (w6 st) (yd st) (.ref D) kV doc pm an cdv ct/\K.lookup f=some ⟨oc,od,.func fd,osl⟩/\W.codeIn K cdv qual=true
 kp:W.keepIn K (.ref f)=true
section
variable{w:qd}{K:z3}{mg:Ε}{base:qf}
def ylj.ok{x:Str}{f:z4}{N ps:Τ}{k:Nat}{sp:Sp}(F:ylj K x qual st D f fd)(S:yi N ps (yd st))(len:∀vs H Q E,sp vs H Q E->vs.length=ps.length)
  (hbody:∀(cdv:qb)(A:qe)(outer:qi Env)(s:qa)(H:Hp)(vs:Υ)(Q:VK)(E:XK),jt k (A.deeper (envOfC qual (yd st) s.heap.objs.size f cdv))->sp vs H Q E ->
   ∃t,PSs (vt CX0 P w K mg base N qual (yd st) f cdv A outer s H E).nox (w6 st) t/\t { nx:=λZ H'=>Q .non H',rt:=Q} (ð N vs) H):vo P w K mg base CX0 (k+1) f fd ps sp:=by let⟨j,m,kV,c,n,i,cdv,l,d,rfl,g,a⟩:=F.ex;refine yn6 g a S len λA outer s H vs Q E e b=>?_;let⟨t,h,q⟩:=hbody cdv A outer s H vs Q E e b;exact⟨t,h.nox,q⟩
def ylj.okE{x:Str}{f:z4}{N ps:Τ}{k:Nat}{sp:Sp}(F:ylj K x qual st D f fd)(S:yi N ps (yd st))(len:∀vs H Q E,sp vs H Q E->vs.length=ps.length)
  (hbody:∀(cdv:qb)(A:qe)(outer:qi Env)(s:qa)(H:Hp)(vs:Υ)(Q:VK)(E:XK),jt k (A.deeper (envOfC qual (yd st) s.heap.objs.size f cdv))->sp vs H Q E ->
   ∃t,PSs (vt (CXe P w) P w K mg base N qual (yd st) f cdv A outer s H E) (w6 st) t/\t { nx:=λZ H'=>Q .non H',rt:=Q} (ð N vs) H):vo P w K mg base (CXe P w) (k+1) f fd ps sp:=by let⟨i,l,kV,c,m,h,cdv,j,d,rfl,g,a⟩:=F.ex;exact yn6 g a S len λA outer s H vs Q E e b=>hbody cdv A outer s H vs Q E e b
def vgx:Nat->(qi qb->Prop)->Prop
 |0,C=>C []
 |n+1,C=>∀a,vgx n λt=>C (a::t)
def ysq:∀{n:Nat}{C:qi qb->Prop}{us:Ο},vgx n C->us.length=n->C us:=by
 intro n C us
 induction us generalizing n C with
 |nil=>intro h e;subst e;exact h
 |cons a t ih=>intro h e;subst e;exact ih (h a) rfl
def bindsR{x:Str}{ps:Τ}{ds:Ο}{c:qb}{od:qj z4}{sl:Array (qj qb)}{its:Array qb}{n:Nat}{kV ct:qb}(hj:j+ds.length=ps.length)
  (h:∀(kV doc pm:qb)(an:qj z4)(cdv ct:qb),vgx j λus =>
   ∃k:qj (Array qb)->Sem (qi (Str×qb)),bindArgs (W.fnOf x qual (xn st) (w6 st) (yd st) (.ref D) kV doc pm an cdv ct) ⟨us,[]⟩=(seqItems? (.ref D) >>=k)/\k (some its)=pure (ps.zip (us++ds))) (hD:K.lookup D=some ⟨c,od,.seq its n,sl⟩):ul K (W.fnOf x qual (xn st) (w6 st) (yd st) (.ref D) kV doc pm an cdv ct) ps ds:=by intro s us b e;let⟨k,a,d⟩:=ysq (us:=us) (h kV doc pm an cdv ct) (by rw[bd]at e;omega);exact BindsTo.of_defaults rfl (b _ _ hD) rfl a d
def funD_mk{x:Str}{f:z4}{oc:qb}{od:qj z4}{osl:Array (qj qb)}{kV ct:qb}(l:K.lookup f=some ⟨oc,od,.func (W.fnOf x qual (xn st) (w6 st) (yd st) (.ref D) kV doc pm an cdv ct),osl⟩)
  (c:W.codeIn K cdv qual=true) (k:W.keepIn K (.ref f)=true):ylj K x qual st D f (W.fnOf x qual (xn st) (w6 st) (yd st) (.ref D) kV doc pm an cdv ct):=⟨⟨oc,od,kV,doc,pm,an,cdv,ct,osl,rfl,l,c⟩,k⟩
end
def yf3{K:z3}{a:z4}{xs:Υ}{g:TG}{te:TE}{n:Nat}{fr:St}{R:Hp->Prop}{H1:Hp}(Pv:Nat->Hp->Prop)(h0:Pv 0 (upd H1 D (.lst [])))(hl:∀i H,i<=xs.length->Pv i H->SqL K H a xs)
  (hs:∀i x H pre,xs[i]?=some x->i<xs.length->Pv i H->List.length pre=n->g x (pre++fr) H λσ' H'=>(∃pre',List.length pre'=n/\σ'=pre'++fr)/\te σ' H' λy H4=>∃ys,H4 D=some (.lst ys)/\ys.length<sizeLine/\∃m',m'<xs.length-i/\cW xs.length Pv (i+1) m' (upd H4 D (.lst (ys++[y]))))
  (hd:∀H,Pv xs.length H->R H):j6 (Itl K a) g te n fr D R H1:=by
 exists cW xs.length Pv,⟨xs.length,by simp,bJ _,h0⟩,?_;rintro i m H ⟨rfl,b,p⟩;have q:=hl i H b p;by_cases hlt:i<xs.length
 .refine .inr ⟨⟨xs,xs[i],q,by simp[hlt]⟩,λx H' pre y c=>?_⟩;let⟨e,y⟩:=y;subst e;exact hs i x _ pre (y xs q) hlt p c
 .have e:i=xs.length:=()
  subst e;exact .inl ⟨⟨xs,q,bf _⟩,hd H p⟩
def ysh(K:z3):qi V->Hp->VK->Prop:=λxs H Q=>∃p ys,xs=[.ref p]/\(SqL K H p ys\/SqT K H p ys)/\∀l,H l=none->Q (.ref l) (upd H l (.lst ys))
def yl6{pre:qi (Ψ)}(h:List.length pre=3):∃v1 v2 v3,pre=[v1,v2,v3]:=by let⟨v1,t,rfl,b⟩:=θ h;let⟨v2,t,rfl,c⟩:=θ b;let⟨v3,t,rfl,a⟩:=θ c;exists v1,v2,v3,by rw[List.length_eq_zero_iff.mp a]
section
variable{X:Cx}{body suite:qi qc}{b₀:qc}{tx n:Str}{np hpos pos:Pos}{tb:(St->XK)->TS}{ts:TS}
abbrev THs:=Ĳ->St->z4->z4->Hp->Prop
end
def pG{p:Prop}(h:p):p:=h
structure Dg(K:z3)(x q:Str)(st:qc)(f:z4)(fd:FuncData)(M:Prop):Prop where
 F:Fun K x q st f fd
 m:M
structure Df(K:z3)(x q:Str)(st:qc)(ps:Τ)(f:z4)(fd:FuncData)(M:Prop):Prop where
 F:Fun K x q st f fd
 B:ul K fd ps []
 m:M
def ydy{α:Type}{n:Nat}{a:qi α}(h:a.length=n+1):∃x r,a=x::r/\r.length=n:=by
 cases a with
 |nil=>cases h
 |cons x r=>exists x,r,rfl,Nat.succ.inj h
abbrev Dgf(K:z3)(mg:Ε)(x:Str)(st:qc)(f:z4)(fd:FuncData):Prop:=Dg K x x st f fd (mg x=some (.ref f))
abbrev Dgm(K:z3)(C:z4)(x q:Str)(st:qc)(f:z4)(fd:FuncData):Prop:=Dg K x q st f fd (Meth K C x f)
abbrev Dff(K:z3)(mg:Ε)(x:Str)(st:qc)(ps:Τ)(f:z4)(fd:FuncData):Prop:=Df K x x st ps f fd (mg x=some (.ref f))
abbrev Dfm(K:z3)(C:z4)(x q:Str)(st:qc)(ps:Τ)(f:z4)(fd:FuncData):Prop:=Df K x q st ps f fd (Meth K C x f)
section
variable{K:z3}{mg:Ε}{h:qf}{x q:Str}{f C:z4}{M:Prop}{oc kV ct:qb}{od:qj z4}{osl:Array (qj qb)}
def dgf_mk(X:K.In h)(G:h.Ns mainGlobals mg)(a:W.nsIn K mainGlobals x=some (some (.ref f)))(l:K.lookup f=some ⟨oc,od,.func (W.fnOf x x (xn st) (w6 st) (yd st) .none kV doc pm an cdv ct),osl⟩)
  (c:W.codeIn K cdv x=true) (k:W.keepIn K (.ref f)=true):Dgf K mg x st f (W.fnOf x x (xn st) (w6 st) (yd st) .none kV doc pm an cdv ct):=⟨yoy l c k,W.mg_of X G a⟩
def dgm_mk(a:W.findIn K (.ref C) x=some (some (.ref f)))(i:W.isFn K (.ref f)=true)(l:K.lookup f=some ⟨oc,od,.func (W.fnOf x q (xn st) (w6 st) (yd st) .none kV doc pm an cdv ct),osl⟩)
  (c:W.codeIn K cdv q=true) (k:W.keepIn K (.ref f)=true):Dgm K C x q st f (W.fnOf x q (xn st) (w6 st) (yd st) .none kV doc pm an cdv ct):=⟨yoy l c k,a,i,k⟩
def Dg.d1(D:Dg K x q st f fd M)(h:autoParam (∀(kV doc pm:qb)(an:qj z4)(cdv ct:qb)(u0:qb),bindArgs (W.fnOf x q (xn st) (w6 st) (yd st) .none kV doc pm an cdv ct) ⟨[u0],[]⟩=pure [(p0,u0)]) aH._auto_1):Df K x q st [p0] f fd M :=
 ⟨D.F,D.F.binds λkV doc pm an cdv ct d b=>(by
  let⟨u0,c,rfl,a⟩:=ydy b;obtain rfl:=cz a;exact h kV doc pm an cdv ct u0),D.m⟩
def Dg.d2(D:Dg K x q st f fd M)(h:autoParam (∀(kV doc pm:qb)(an:qj z4)(cdv ct:qb)(u0 u1:qb),bindArgs (W.fnOf x q (xn st) (w6 st) (yd st) .none kV doc pm an cdv ct) ⟨[u0,u1],[]⟩=pure [(p0,u0),(p1,u1)]) aH._auto_1):Df K x q st [p0,p1] f fd M :=
 ⟨D.F,D.F.binds λkV doc pm an cdv ct d c=>(by
  let⟨u0,g,rfl,a⟩:=ydy c;let⟨u1,e,rfl,b⟩:=ydy a;obtain rfl:=cz b;exact h kV doc pm an cdv ct u0 u1),D.m⟩
def Dg.d3(D:Dg K x q st f fd M)(h:autoParam (∀(kV doc pm:qb)(an:qj z4)(cdv ct:qb)(u0 u1 u2:qb),bindArgs (W.fnOf x q (xn st) (w6 st) (yd st) .none kV doc pm an cdv ct) ⟨[u0,u1,u2],[]⟩=pure [(p0,u0),(p1,u1),(p2,u2)]) aH._auto_1):Df K x q st [p0,p1,p2] f fd M :=
 ⟨D.F,D.F.binds λkV doc pm an cdv ct e d=>(by
  let⟨u0,j,rfl,a⟩:=ydy d;let⟨u1,i,rfl,c⟩:=ydy a;let⟨u2,g,rfl,b⟩:=ydy c;obtain rfl:=cz b;exact h kV doc pm an cdv ct u0 u1 u2),D.m⟩
def Dg.d4{p3:Str}(D:Dg K x q st f fd M)(h:autoParam (∀(kV doc pm:qb)(an:qj z4)(cdv ct:qb)(u0 u1 u2 u3:qb),bindArgs (W.fnOf x q (xn st) (w6 st) (yd st) .none kV doc pm an cdv ct) ⟨[u0,u1,u2,u3],[]⟩=pure [(p0,u0),(p1,u1),(p2,u2),(p3,u3)]) aH._auto_1):Df K x q st [p0,p1,p2,p3] f fd M :=
 ⟨D.F,D.F.binds λkV doc pm an cdv ct g e=>(by
  let⟨u0,l,rfl,a⟩:=ydy e;let⟨u1,k,rfl,d⟩:=ydy a;let⟨u2,j,rfl,b⟩:=ydy d;let⟨u3,i,rfl,c⟩:=ydy b;obtain rfl:=cz c;exact h kV doc pm an cdv ct u0 u1 u2 u3),D.m⟩
def Dg.d5{p3 p4:Str}(D:Dg K x q st f fd M)(h:autoParam (∀(kV doc pm:qb)(an:qj z4)(cdv ct:qb)(u0 u1 u2 u3 u4:qb),bindArgs (W.fnOf x q (xn st) (w6 st) (yd st) .none kV doc pm an cdv ct) ⟨[u0,u1,u2,u3,u4],[]⟩=pure [(p0,u0),(p1,u1),(p2,u2),(p3,u3),(p4,u4)]) aH._auto_1):Df K x q st [p0,p1,p2,p3,p4] f fd M :=
 ⟨D.F,D.F.binds λkV doc pm an cdv ct i g=>(by
  let⟨u0,n,rfl,a⟩:=ydy g;let⟨u1,l,rfl,e⟩:=ydy a;let⟨u2,k,rfl,b⟩:=ydy e;let⟨u3,j,rfl,d⟩:=ydy b;let⟨u4,o,rfl,c⟩:=ydy d;obtain rfl:=cz c;exact h kV doc pm an cdv ct u0 u1 u2 u3 u4),D.m⟩
end
def yqs{K:z3}{W:z4}{od:qj z4}{its:Array qb}{n:Nat}{sl:Array (qj qb)}{xs:Υ}(l:K.lookup W=some ⟨.type "tuple",od,.seq its n,sl⟩)(hz:its.size<=sizeLine)(hv:wz xs its.toList):∀H,SqT K H W xs:=λZ=>.inr ⟨_,_,_,l,rfl,rfl,hz,hv⟩
structure KC(K:z3)(C:z4):Prop where
 pg:W.plainGet K C Str.empty=true
 hd:W.hasDictIn K C=true
 po:W.plainOver K C=true
 sa:W.findIn K (.ref C) "__setattr__"=some (some (.builtin "object.__setattr__"))
 mk':W.makesIn K C=true
 kc:W.keepIn K (.ref C)=true
section
variable{K:z3}{H:Hp}{p C dx:z4}{fs fs':Ι}{v:V}{nm:Str}{P:V->Prop}{nx:Ζ}{σ:St}
abbrev RdX(K:z3)(H:Hp)(p:z4)(nm:Str)(P:V->Prop):Prop:=∃a' C dx fs v,V.ref p=.ref a'/\H a'=some (.ins C dx fs)/\Cls K C/\NoAttr K C nm/\fs.lookup nm=some v/\P v
abbrev StX(K:z3)(H:Hp)(p:z4)(nm:Str)(v:V)(nx:Ζ)(σ:St):Prop:=∃a' C dx fs,V.ref p=.ref a'/\H a'=some (.ins C dx fs)/\Cls K C/\NoAttr K C nm/\fs.length<1000/\wt nx σ (upd H a' (.ins C dx (μ nm v fs)))
abbrev MtX(H:Hp)(p C:z4)(nm:Str)(R:Prop):Prop:=∃a dx fs,V.ref p=.ref a/\H a=some (.ins C dx fs)/\fs.lookup nm=none/\R
def rdX(hp:H p=some (.ins C dx fs))(c:Cls K C)(n:NoAttr K C nm)(l:fs.lookup nm=some v)(h:P v):RdX K H p nm P:=⟨p,C,dx,fs,v,rfl,hp,c,n,l,h⟩
def stX(hp:H p=some (.ins C dx fs))(c:Cls K C)(n:NoAttr K C nm)(l:fs.length<1000)(e:μ nm v fs=fs')(h:wt nx σ (upd H p (.ins C dx fs'))):StX K H p nm v nx σ:=⟨p,C,dx,fs,rfl,hp,c,n,l,by rw[e];exact h⟩
def gRd(h:RdX K H p nm P):RdX K H p nm P:=h
def gSt(h:StX K H p nm v nx σ):StX K H p nm v nx σ:=h
def gMt{R:Prop}(h:MtX H p C nm R):MtX H p C nm R:=h
def lt0:([]:Ι).length<1000:=by show 0<1000;decide
def lt1{a:Str×V}:[a].length<1000:=by show 1<1000;decide
def lt2{a b:Str×V}:[a,b].length<1000:=by show 2<1000;decide
def lt3{a b c:Str×V}:[a,b,c].length<1000:=by show 3<1000;decide
def lt4{a b c d:Str×V}:[a,b,c,d].length<1000:=by show 4<1000;decide
def lt5{a b c d e:Str×V}:[a,b,c,d,e].length<1000:=by show 5<1000;decide
def lt6{a b c d e f:Str×V}:[a,b,c,d,e,f].length<1000:=by show 6<1000;decide
theorem vb1:∀{fs:Ι},nm∉fs.map (·.1)->fs.lookup nm=none
 |[],_=>rfl
 |(g,v)::r,h=>wl (λe=>h (by rw[e];exact bN)) (vb1 λm=>h (bM _ m))
def mtX{R:Prop}{N:Τ}(hp:H p=some (.ins C dx fs))(k:fs.map (·.1)=N)(n:nm∉N)(h:R):MtX H p C nm R:=⟨p,dx,fs,rfl,hp,vb1 (by rw[k];exact n),h⟩
def wc{N P:Τ}{sc:Scope}(h:(sc.kind=.function/\sc.isCoroutine=false/\sc.isGenerator=false)/\N.Nodup/\N.take P.length=P/\(∀x∈P,sc.names.lookup x=some .local\/sc.names.lookup x=some .cell)/\∀y∈sc.names,y.2≠.free):yi N P sc:=⟨h.1.1,h.1.2.1,h.1.2.2,h.2.1,h.2.2.1,h.2.2.2.1,h.2.2.2.2⟩
end
section
variable{prog:qh}{w:qd}{A:qe}{E:Δ}{s:qa}{d:z4}{od:Obj}{es:Array DictEntry}
def yf1(hne:(d == sysModules)=false)(h0:s.heap.get? d=some od)(hx:od.ExactDict)
  (k:Q (.ref s.heap.objs.size) {s with heap:=s.heap.push { cls:=.type "dict_items",data:=.fields #[.ref d]} }):wpAny (model prog w) A (call (.builtin "dict.items") [.ref d]) Q E s:=by have a:s.TypeIs (.ref d) "dict":=⟨od,h0,hx.1⟩;refine wpAny_call_entry F.slot_dict_items a F.entry_dict_items ?_ (F.args_dict_items_1 _);unfold Builtin.«dict.items» Builtin.Dict.noArgs;refine bb (bb (wpAny_notOrdered_dict a ?_));show wpAny _ _ (pure d) _ _ s;refine bh ?_;show wpAny _ _ (Builtin.Dict.showsAll d >>=_) _ _ s;unfold Builtin.Dict.showsAll;rw[if_neg (by rw[hne];decide)];exact bb (bh (bb (wpAny_newObj_type (bh ⟨_,rfl,k⟩))))
def yf8{v:z4}(hv:s.heap.IsItemsView v d)(h0:s.heap.get? d=some od)(hd:od.data=.dict es ep)
  (k:Q (.ref s.heap.objs.size) {s with heap:=s.heap.push { cls:=.type "dict_itemiterator",data:=.fields #[.none,.bool false,.ref d,.int 0 0,.int es.size 0,.int ep 0,.none,.none]} }):wpAny (model prog w) A (pyIter (.ref v)) Q E s:=by let⟨e,a,c,b⟩:=id hv;refine wpAny_pyIter_slot hv.typeIs F.slot_dict_items_iter (wpAny_call_entry F.slot_dict_items_iter hv.typeIs F.entry_dict_items_iter ?_ (F.args_dict_items_iter_1 _));unfold Builtin.«dict_items.__iter__» Builtin.Dict_items.dictOf Builtin.Dict_items.newIterator;refine bb (bh (bb (bb (b9 a b (x:=.ref d) rfl (bh (bb (bb (wpAny_dictEntries h0 hd (bb (wpAny_dictEpoch h0 hd ?_))))))))));simp only[show Builtin.Dict_items.ownsTuple "dict_itemiterator"=true by decide,if_true];refine wpAny_newObj_type (bh ⟨_,rfl,"dict_itemiterator",_,⟨_,br _ rfl,rfl⟩,F.slot_dict_itemiterator_next.lookup,?_⟩) (by simp only[sizeOk,Builtin.Dict_items.ownedTupleFields,bC,bd,bE,List.length_nil,sizeLine_eq];omega);simpa[rawInt,Builtin.Dict_items.ownedTupleFields]using k
def yf4{ok:qb}{Q:qj qb->qa->Prop}(hi:IsItemIter s.heap it d i es.size ep ok ov)(h0:s.heap.get? d=some od)(hd:od.data=.dict es ep)(hlt:i<es.size)
  (k:∀h',IsItemIterOut h' it d (i+1) es.size ep es[i].key es[i].val s.heap.objs.size->h'.get? s.heap.objs.size=some { cls:=.type "tuple",data:=.seq #[es[i].key,es[i].val]}->(∀b o,b≠it->s.heap.get? b=some o->h'.get? b=some o)->Q (some (.ref s.heap.objs.size)) {s with heap:=h'}):
  wpAny (model prog w) A (pyNext (.ref it)) Q E s:=by
 let⟨a,g,p,j,h⟩:=s;have c:Shared.TypeIs ⟨a,g,p,j,h⟩ (.ref it) "dict_itemiterator":=⟨_,hi,rfl⟩;have L:it<a.objs.size:=bw hi;have I:a.objs.size≠it:=Nat.ne_of_gt L;unfold pyNext;refine bb (wpAny_attempt (wpAny_callSpecial?_slot (name:=Str.ofString "__next__") c F.slot_dict_itemiterator_next (wpAny_call_entry F.slot_dict_itemiterator_next c F.entry_dict_itemiterator_next ?_ (F.args_dict_itemiterator_next_1 _))));refine bb (bh (bb (bb ?_)))
 first|refine bb (wpAny_typeNameOfWhole_itemiter c (bh ?_))|refine bb (wpAny_typeNameOf_itemiter c (bh ?_))
 refine bb (wpAny_fieldsOf hi rfl ?_);show wpAny _ _ (if (Value.ref d == Value.none)=true then _ else _) _ _ _;rw[if_neg (show ¬(Value.ref d == Value.none)=true from bA)];refine bb (bh (bb (wpAny_dictEntries h0 hd ?_)));rw[if_neg (by simp)];refine bb (bh (bb (wpAny_dictEpoch h0 hd ?_)));rw[if_neg (by simp)];refine bh ?_;simp only[show ¬((i:Int)<0) by omega,if_false,Int.toNat_natCast,Array.getElem?_eq_getElem hlt];refine bb ?_
 first|refine bb (wpAny_typeNameOfWhole_itemiter c (bh ?_))|refine bb (wpAny_typeNameOf_itemiter c (bh ?_))
 refine bb (wpAny_isOneOf_itemiter c ?_);show wpAny _ _ (setField (.ref it) 3 (rawInt ((i:Int)+1)) >>=_) _ _ ⟨a,g,p,j,h⟩;refine bb (wpAny_setField_rec hi (by simp) λg1 m f=>?_)
 replace f:Heap.SameBut it a g1:=f
 replace m:IsItemIter g1 it d (i+1) es.size ep ok ov:=by unfold IsItemIter;rw[show ((i+1:Nat):Int)=(i:Int)+1 by omega];simpa[rawInt]using m
 have q:Shared.TypeIs ⟨g1,g,p,j,h⟩ (.ref it) "dict_itemiterator":=⟨_,m,rfl⟩;refine bb (wpAny_holding (bb (wpAny_isOneOf_itemiter q (bb (wpAny_isOneOf_itemiter q ?_)))));show wpAny _ _ (Builtin.Dict_items.pairFromOwner (.ref it) 6 es[i].key es[i].val) _ _ ⟨g1,g,p,j,h⟩;unfold Builtin.Dict_items.pairFromOwner;refine bb (wpAny_newTuple ?_);have l:IsItemIter (g1.push { cls:=.type "tuple",data:=.seq #[es[i].key,es[i].val]}) it d (i+1) es.size ep ok ov:=be _ m;generalize C:g1.push { cls:=.type "tuple",data:=.seq #[es[i].key,es[i].val]}=g2 at l;have r:g1.objs.size=a.objs.size:=f.1;have M:g2.get? a.objs.size=some { cls:=.type "tuple",data:=.seq #[es[i].key,es[i].val]}:=by rw[<- C,<- r];exact br _ rfl
 have K:∀b o,b≠it->a.get? b=some o->g2.get? b=some o:=λb o J e=>by rw[<- C];exact be _ (f.extBut b o J e)
 show wpAny _ _ (Builtin.Dict_items.ownedTupleIsFree (.ref it) >>=_) _ _ ⟨g2,g,p,j,h⟩;rw[r];clear C m f q r g1;unfold Builtin.Dict_items.ownedTupleIsFree;refine bb (bb (b9 l rfl (x:=.none) rfl (bh ?_)));simp only[if_true];refine bb (b9 l rfl (x:=ok) rfl (bb (b9 l rfl (x:=ov) rfl ?_)));refine bb (wpAny_setField_rec l (by simp) λg3 y t=>?_)
 replace t:Heap.SameBut it g2 g3:=t
 replace y:IsItemIter g3 it d (i+1) es.size ep es[i].key ov:=y
 refine bb (wpAny_setField_rec y (by simp) λg4 z G=>?_)
 replace G:Heap.SameBut it g3 g4:=G
 replace z:IsItemIter g4 it d (i+1) es.size ep es[i].key es[i].val:=z
 refine bb (wpAny_setField_rec z (by simp) λg5 u B=>?_)
 replace B:Heap.SameBut it g4 g5:=B
 replace u:IsItemIterOut g5 it d (i+1) es.size ep es[i].key es[i].val a.objs.size:=u
 refine bb (wpAny_setField_rec u (by simp) λg6 v D=>?_)
 replace D:Heap.SameBut it g5 g6:=D
 replace v:IsItemIterOut g6 it d (i+1) es.size ep es[i].key es[i].val a.objs.size:=v
 have H:∀b o,b≠it->g2.get? b=some o->g6.get? b=some o:=λb o n e=>D.extBut b o n (B.extBut b o n (G.extBut b o n (t.extBut b o n e)));exact bb (wpAny_letGo (bh (bh ⟨_,rfl,bh (k g6 v (H _ _ I M) λb o n e=>H b o n (K b o n e))⟩)))
def yh7{ok:qb}{Q:qj qb->qa->Prop}(hh:A.handled=none)(hi:IsItemIter s.heap it d i es.size ep ok ov)(h0:s.heap.get? d=some od)(hd:od.data=.dict es ep)(hge:es.size<=i)
  (k:∀h',Heap.ExtBut it s.heap h'->Q none {s with heap:=h'}):wpAny (model prog w) A (pyNext (.ref it)) Q E s:=by
 have c:s.TypeIs (.ref it) "dict_itemiterator":=⟨_,hi,rfl⟩;unfold pyNext;refine bb (wpAny_attempt (wpAny_callSpecial?_slot (name:=Str.ofString "__next__") c F.slot_dict_itemiterator_next (wpAny_call_entry F.slot_dict_itemiterator_next c F.entry_dict_itemiterator_next ?_ (F.args_dict_itemiterator_next_1 _))));refine bb (bh (bb (bb ?_)))
 first|refine bb (wpAny_typeNameOfWhole_itemiter c (bh ?_))|refine bb (wpAny_typeNameOf_itemiter c (bh ?_))
 refine bb (wpAny_fieldsOf hi rfl ?_);simp only[show Builtin.Dict_items.ownsTuple "dict_itemiterator"=true by decide,if_true];show wpAny _ _ (if (Value.ref d == Value.none)=true then _ else _) _ _ s;rw[if_neg (show ¬(Value.ref d == Value.none)=true from bA)];refine bb (bh (bb (wpAny_dictEntries h0 hd ?_)));rw[if_neg (by simp)];refine bb (bh (bb (wpAny_dictEpoch h0 hd ?_)));rw[if_neg (by simp)];refine bh ?_;simp only[show ¬((i:Int)<0) by omega,if_false,Int.toNat_natCast,Array.getElem?_eq_none hge];refine bb ?_
 first|refine bb (wpAny_typeNameOfWhole_itemiter c (bh ?_))|refine bb (wpAny_typeNameOf_itemiter c (bh ?_))
 show wpAny _ _ (setField (.ref it) 2 .none >>=_) _ _ s;refine bb (wpAny_setField hi rfl (by simp) ?_);show wpAny _ _ (newExc (.type "StopIteration") [] >>=_) _ _ _;refine bb ?_;simp only[newExc,newTuple];refine bb (wpAny_newObj_type ?_ (by size_fits))
 refine bb (m:=firstArgMember _ _) (wpAny_of_eq (a:=Value.none) (by first|rfl|(simp only[firstArgMember];rfl)) (wpAny_newObj_type ?_ (by size_fits)))
 simp only[raiseNew];refine bb (wpAny_handled ?_);rw[show A.in1.handled=none from hh];refine bb (bh (wpAny_throw ?_));exact bb (wpAny_isInstance (T:="StopIteration") (b:=true) ⟨_,br _ rfl,rfl⟩ isSubtype_stop (bh (k _ (((Heap.SameBut.update ..).extBut.push _).push _))))
def yga{n:Nat}{ok:qb}(hi:IsItemIter s.heap it d i n ep ok ov)(k:Q (.ref it) s):wpAny (model prog w) A (pyIter (.ref it)) Q E s:=by have a:s.TypeIs (.ref it) "dict_itemiterator":=⟨_,hi,rfl⟩;refine wpAny_pyIter_slot a F.slot_dict_itemiterator_iter (wpAny_call_entry F.slot_dict_itemiterator_iter a (show entryFor table "dict_itemiterator.__iter__"=some Builtin.«dict_keyiterator.__iter__» from entryFor_alias (id':="dict_keyiterator.__iter__") (by kernel_rfl) rfl (by decide+kernel) (by kernel_rfl)) ?_ (F.args_dict_itemiterator_iter_1 _));show wpAny _ _ (ret (.ref it)) _ _ s;exact bh ⟨_,rfl,"dict_itemiterator",_,a,F.slot_dict_itemiterator_next.lookup,k⟩
end
def Inv.freeze{X:Cx}{σ:St}{H:Hp}{s:qa}{d:z4}{u:HO}{o:Obj}(I:Inv X pins σ H s)(hd:H d=some u)(mu:Mut (some u))(ho:s.heap.get? d=some o):Inv X pins σ (upd H d (.frz o u)) s:=by
 have h:∀{b},H b=none->b≠d:=λn z=>by rw[z,hd]at n;cases n
 have g:∀{b v},H b=some v->¬Mut (some v)->b≠d:=λe n z=>by rw[z,hd]at e;cases e;exact n mu
 exists I.ok,I.os,I.bare,⟨I.base.keep,I.base.slot,λb i e n l=>?_,I.base.there,λb k e=>?_,λb i v e=>?_,λb r e=>?_⟩,I.loc,I.cell,?_,λx c e=>?_,λp w=>?_,λb v e=>?_,I.len
 .have z:=I.base.free b i e n l;rw[ym (h z)];exact z
 .have z:=I.base.tups b k e;rw[ym (g z id)];exact z
 .have z:=I.base.frzs b i v e;rw[ym (g z id)];exact z
 .obtain⟨m,z⟩:=I.base.tbls b r e;exists m,by rw[ym (g z id)];exact z
 .rw[ym (h I.free)];exact I.free
 .rw[ym (h (I.freeC x c e))];exact I.freeC x c e
 .obtain⟨A,j,t⟩:=I.pin p w;exists A,by rw[ym (h j)];exact j,t
 .have a:∀{c y},H c=some (.own y)->upd H d (.frz o u) c=some (.own y):=λq=>by rw[ym (g q id)];exact q
  have f:∀{c y},H c=some (.tup y)->upd H d (.frz o u) c=some (.tup y):=λq=>by rw[ym (g q id)];exact q
  by_cases hb:b=d
  .subst hb;rw[ya]at e;cases e;exists ho,(I.hok b _ hd).stay (λZ Z Z q=>q) (λZ q=>a q) λZ Z q=>f q
  .rw[ym hb]at e;exact(I.hok b v e).stay (λZ Z Z q=>q) (λZ q=>a q) λZ Z q=>f q
def Inv.thaw{X:Cx}{σ:St}{H:Hp}{s:qa}{d:z4}{u:HO}{o:Obj}(I:Inv X pins σ H s)(h0:∀o u,X.H₀ d≠some (.frz o u))(hd:H d=some (.frz o u)):Inv X pins σ (upd H d u) s:=by
 have g:∀{b},H b=none->b≠d:=λn z=>by rw[z,hd]at n;cases n
 exists I.ok,I.os,I.bare,⟨I.base.keep,I.base.slot,λb h e n k=>?_,I.base.there,λb j e=>?_,λb h u e=>?_,λb l e=>?_⟩,I.loc,I.cell,?_,λx c e=>?_,λp t=>?_,λb v e=>?_,I.len
 .have z:=I.base.free b h e n k;rw[ym (g z)];exact z
 .have z:=I.base.tups b j e;rw[ym (w8 z hd (by intro w;cases w))];exact z
 .rw[ym (λz=>h0 h u (by rw[<- z];exact e))];exact I.base.frzs b h u e
 .obtain⟨m,z⟩:=I.base.tbls b l e;exists m,by rw[ym (w8 z hd (by intro w;cases w))];exact z
 .rw[ym (g I.free)];exact I.free
 .rw[ym (g (I.freeC x c e))];exact I.freeC x c e
 .obtain⟨A,i,r⟩:=I.pin p t;exists A,by rw[ym (g i)];exact i,r
 .have a:∀{c y},H c=some (.own y)->upd H d u c=some (.own y):=λq=>by rw[ym (w8 q hd (by intro w;cases w))];exact q
  have f:∀{c y},H c=some (.tup y)->upd H d u c=some (.tup y):=λq=>by rw[ym (w8 q hd (by intro w;cases w))];exact q
  by_cases hb:b=d
  .subst hb;rw[ya]at e;cases e;exact(I.hok b _ hd).2.stay (λZ Z Z q=>q) (λZ q=>a q) λZ Z q=>f q
  .rw[ym hb]at e;exact(I.hok b v e).stay (λZ Z Z q=>q) (λZ q=>a q) λZ Z q=>f q
def Iti(o:Obj)(d:z4)(kvs:qi (qi Key×V)):It :=
 ⟨λi H=>H d=some (.frz o (.dT kvs))/\i<kvs.length,
  λi H x H'=>∃t kt key v,x=.ref t/\H t=none/\H'=upd H t (.tup [.ref kt,v])/\kvs[i]?=some (key,v)/\H kt=some (.tup (key.map kV)),
  λi H=>H d=some (.frz o (.dT kvs))/\kvs.length<=i⟩
theorem uf{α β:Type}{F:α->β->Prop}:∀{l₁:qi α}{l₂:qi β},Paired F l₁ l₂->l₁.length=l₂.length
 |_,_,.nil=>rfl
 |_,_,.cons _ t=>congrArg (·+1) (uf t)
def ybu{α β:Type}{F:α->β->Prop}{l₁:qi α}{l₂:qi β}(h:Paired F l₁ l₂):∀{i:Nat}{y:β},l₂[i]?=some y->∃x,l₁[i]?=some x/\F x y:=by
 induction h with
 |nil=>intro i y e;cases e
 |cons r t ih =>
  intro i y e
  cases i with
  |zero=>cases e;exists _,rfl,r
  |succ j=>exact ih e
def ygd{w:qd}{K:z3}{elts:qi qg}{x1}{tpos:Pos}{o:Obj}{es:Array DictEntry}{kvs:qi (qi Key×V)}(d it:z4)(ho:o.data=.dict es ep)(hs:es.size=kvs.length):
  ydx P w K (.Tuple elts x1 tpos) (Iti o d kvs) [it] it (λi h=>∃ok ov,IsItemIter h it d i es.size ep ok ov) where
 mem:=by simp
 obj:=λi h l b a=>by
  have e:b=it:=by simpa using a
  subst e;let⟨_,_,e⟩:=l;exists _,e,λv z=>by cases z
 keep:=λi h h' ⟨ok,ov,l⟩ k=>⟨ok,ov,k it (by simp) _ l⟩
 item:=by
  intro X U Z hK hc i m s σ H E I D ⟨ok,ov,l⟩ ⟨Q,j⟩;subst U Z hK;let⟨N,f1,f2,f3,f4,f5⟩:=D it (by simp);let⟨M,_,_,L,x,o',a0,a3,B,_,F,O,_⟩:=(show xm X.prog X.w H s.heap d (.frz o (.dT kvs))from I.hok d _ Q);rw[M]at B;cases B;rw[ho]at F;cases F;have hl:i<es.size:=()
  have he:es[i]=entryOfKey (tupleKind (wu X.prog X.w)) (L[i]'(by rw[<- (uf x)];exact j)):=by
   have e1:es.toList[i]?=some es[i]:=by simp[hl]
   rw[O,bi,bc (by rw[<- (uf x)];exact j)]at e1;exact(bx e1).symm
  let⟨⟨J,v⟩,R,k1,S,k3⟩:=ybu x (bc (by rw[<- (uf x)];exact j));have p:es[i].key=.ref (L[i]'(by rw[<- (uf x)];exact j)).2.1:=by rw[he];rfl
  have G:es[i].val=(L[i]'(by rw[<- (uf x)];exact j)).2.2:=by rw[he];rfl
  rw[<- G]at k3;generalize (L[i]'(by rw[<- (uf x)];exact j)).2.1=y at p S;refine yf4 l M ho hl λh' a1 a2 hk=>⟨_,rfl,wpAny_letOwnedTupleGo_items a1 λt b1 b2=>?_⟩;rw[p]at a2;have g:H s.heap.objs.size=none:=I.hok.fresh (bf _);have lI:it<s.heap.objs.size:=bw l;have keep:∀b o,b≠it->s.heap.get? b=some o->t.get? b=some o:=λb o n e=>(b2.2 b n).trans (hk b o n e);have A:t.get? s.heap.objs.size=some { cls:=.type "tuple",data:=.seq #[.ref y,es[i].val]}:=(b2.2 _ (Nat.ne_of_gt lI)).trans a2
  have T:HOk X.prog X.w (upd H s.heap.objs.size (.tup [.ref y,v])) t:=λb u e=>by
   by_cases a:b=s.heap.objs.size
   .subst a;rw[ya]at e;cases e;exists by show 2<=sizeLine;decide,[.ref y,es[i].val],.cons rfl (.cons k3 .nil),⟨_,A,rfl,_,rfl⟩
   .rw[ym a]at e;refine(I.hok b u e).stay (λc z r q=>keep c z ?_ q) (λc q=>by rw[ym (yb q g)];exact q) λc ys q=>by rw[ym (yb q g)];exact q
    rcases r with rfl|r
    .exact yb e N
    .exact yb r N
  have un:Un (frs X.stack) [it] H (upd H s.heap.objs.size (.tup [.ref y,v])) s.heap t:=by
   have Y:∀{b z},b∉[it]->s.heap.get? b=some z->t.get? b=some z:=λ{b z}a e=>keep b z (λq=>a (by simp[q])) e;exists λb z e n W C=>Y C e,λb z e n W C=>⟨z.slots,Y C e⟩,λb z e n W=>by rw[ym (bT (bw e))];exact n,λb z e C=>⟨z,Y C e⟩,λb ys e=>by rw[ym (yb e g)];exact e,λb z u e=>by rw[ym (yb e g)];exact e,λb ps e=>⟨#[],by rw[ym (yb e g),e];simp⟩
  have I1:Inv X m σ (upd H s.heap.objs.size (.tup [.ref y,v])) {s with heap:=t}:=I.call' (s':={s with heap:=t}) rfl un T I.bare λb a=>by
   have f:=D b a;exact⟨f.2.2.2.1,f.2.1,f.2.2.2.2.1,f.2.2.2.2.2⟩
  exists .ref s.heap.objs.size,_,I1,rfl,⟨_,y,J,v,rfl,g,rfl,R,by rw[show J=_ from k1]at S⊢;exact S⟩,⟨_,_,b1⟩,λb a=>?_;rw[ym (λq=>?_)]
  .exact(D b a).1
  .have e:b=it:=by simpa using a
   rw[e]at q;exact absurd q (bT lI)
 done:=by
  intro X U Z hK hc i m s σ H E I D ⟨ok,ov,l⟩ ⟨Q,a4⟩;subst U Z hK;let⟨N,f1,f2,f3,f4,f5⟩:=D it (by simp);let⟨M,_⟩:=(show xm X.prog X.w H s.heap d (.frz o (.dT kvs))from I.hok d _ Q);exact yh7 (I.ok.hd hc) l M ho () λh' eb=>⟨rfl,I.turned (t':=s.toks) (λb o a e=>eb b o a e) N f1 f3 f4 f5⟩
 self:=λW W W W W ⟨_,_,l⟩ h=>yga l h
section
variable{X:Cx}
def yq0(to:TE):TI:=λσ H R=>to σ H λx H1=>∃d kvs,x=.ref d/\H1 d=some (.dT kvs)/\∀o,R (Iti o d kvs) (upd H1 d (.frz o (.dT kvs)))
def yme{elts:qi qg}{x1}{tpos:Pos}{o:qg}{to:TE}(ho:PE X o to)(hbase:autoParam (attributeBase o "items" X.env (eval o X.env)=eval o X.env) aD._auto_1)(hline:autoParam ((apos.endLine == cpos.line)=true) aD._auto_1):
  PI X (.Tuple elts x1 tpos) (.Call (.Attribute o "items" apos) [] [] cpos) (yq0 to):=by
 intro i s σ H R I h;refine wpAny_Call_method0_late hbase hline (thn (ho i s σ H _ I h) λv j h'=>?_);let⟨x,y,t,C,B⟩:=h';let⟨d,c,rfl,r,q⟩:=B;cases C;let⟨_,k,J,z,n,D,K,g,l,u,G,_⟩:=(show xm X.prog X.w y j.heap d (.dT c)from t.hok d _ r);refine⟨"dict","dict.items",F.plainAttrs_dict,F.slot_dict_items,F.type_dict_items,⟨n,g,l.1⟩,λa E=>by cases E;exact⟨n,g,l.2.1⟩,Calls.callWith_builtin rfl (PySem.evalArgs_none (yf1 k g l ?_))⟩;refine yf8 ⟨_,br _ rfl,rfl,rfl⟩ (be _ g) u ?_;have m:=t.freeze r trivial g;have p:D.size=c.length:=by rw[(uf z),<- ci,G,ba]
 exists _,[_],_,_,_,rfl,m.kept (t':=j.toks) λb o e=>be _ (be _ e),ygd d _ u p,⟨_,_,br _ rfl⟩,λb A=>?_,q n;have e:b=(j.heap.push { cls:=.type "dict_items",data:=.fields #[.ref d]}).objs.size:=by simpa using A
 have f:j.heap.objs.size<=b:=by rw[e,Heap.size_push];omega
 exact m.fpOk f (m.hok.fresh f)
def ymb{to:TE}{σ:St}{H:Hp}{R:It->Hp->Prop}(h:to σ H λx H1=>∃d kvs,x=.ref d/\H1 d=some (.dT kvs)/\∀o,R (Iti o d kvs) (upd H1 d (.frz o (.dT kvs)))):yq0 to σ H R:=h
def ver(H:Hp)(D:Ĳ):Ĳ:={D with nx:=λσ' H'=>∃d o u,(∀o u,H d≠some (.frz o u))/\H' d=some (.frz o u)/\D.nx σ' (upd H' d u)}
def vbq(t:TS):TS:=λD σ H=>t (ver H D) σ H
def yiy{t:TS}(h:PS X st t):PS X st (vbq t):=by
 refine .mk λa s σ H D I q=>?_;refine thn (h a s σ H _ I q) λf j z=>?_
 cases f with
 |next =>
  let⟨σ',i,J,d,o,b,c,g,k⟩:=z;exists σ',_,J.thaw (λo u e=>c o u (I.base.frzs d o u e)) g,k
 |brk=>exact z
 |cont=>exact z
 |ret u=>exact z
def yyo{t:TS}{D:Ĳ}{σ:St}{H:Hp}(h:t (ver H D) σ H):vbq t D σ H:=h
end
def yh6{o:Obj}{d:z4}{kvs:qi (qi Key×V)}{g:TG}{tb:TS}{D:Ĳ}{σ:St}{H:Hp}(Pv:Nat->St->Hp->Prop)(h0:Pv 0 σ H)(hl:∀i σ H,i<=kvs.length->Pv i σ H->H d=some (.frz o (.dT kvs)))
  (hs:∀i key v σ H t kt,kvs[i]?=some (key,v)->Pv i σ H->H t=none->H kt=some (.tup (key.map kV))->g (.ref t) σ (upd H t (.tup [.ref kt,v])) λσ2 H2=>tb {D with nx:=Pv (i+1),ct:=Pv (i+1),bk:=D.nx} σ2 H2) (hd:∀σ H,Pv kvs.length σ H->D.nx σ H):
  ∃W:Nat->Nat->St->Hp->Prop,(∃m,W 0 m σ H)/\∀i m σ H,W i m σ H ->
   ((Iti o d kvs).stop i H/\D.nx σ H)\/((Iti o d kvs).go i H/\∃N:Ζ,(∀σ' H',N σ' H'->∃m',m'<m/\W (i+1) m' σ' H')/\∀x H',(Iti o d kvs).yld i H x H'->g x σ H' λσ2 H2=>tb {D with nx:=N,ct:=N,bk:=D.nx} σ2 H2):=by
 exists λi m σ H=>m=kvs.length-i/\i<=kvs.length/\Pv i σ H,⟨kvs.length,by simp,bJ _,h0⟩,?_;rintro i m σ H ⟨rfl,c,p⟩;have q:=hl i σ H c p;by_cases hlt:i<kvs.length
 .refine .inr ⟨⟨q,hlt⟩,Pv (i+1),λσ' H' f=>⟨kvs.length-(i+1),(),rfl,hlt,f⟩,λx H' y=>?_⟩;let⟨t,kt,key,v,rfl,h,rfl,a,b⟩:=y;exact hs i key v σ H t kt a p h b
 .have e:i=kvs.length:=()
  subst e;exact .inl ⟨⟨q,bf _⟩,hd σ H p⟩
noncomputable def Its(x:Str):It:=⟨λi Z=>i<x.cps.size,λi H v H'=>H'=H/\∃c,x.cps[i]?=some c/\v=.str ⟨#[c]⟩,λi Z=>i=x.cps.size⟩
def yd7{w:qd}{K:z3}{ty:String}(x:Str)(t:Tok)(it:z4)(hn:["enumerate","zip","dict_itemiterator","dict_reverseitemiterator","odict_iterator","itertools.zip_longest","itertools.pairwise"].contains ty=false)
  (W:∀A:qe,A.handled=none->Walks P w A it [it] [it] x.cps.size (SignAt x) (λi h=>h.IsStrIter it ty x t i)) (hs:∀(A:qe)(i:Nat)(s:qa)(Q E:Δ),s.heap.IsStrIter it ty x t i->Q (.ref it) s->wpAny (model P w) A (pyIter (.ref it)) Q E s):ydx P w K tg (Its x) [it] it (λi h=>h.IsStrIter it ty x t i) where
 mem:=by simp
 obj:=λi h a b g=>by
  have e:b=it:=by simpa using g
  subst e;let⟨o,e,_,d⟩:=a;exists o,e,λv z=>by rw[d]at z;cases z
 keep:=λi h n a k=>let ⟨o,e,r⟩:=a;⟨o,k it (by simp) o e,r⟩
 item:=by
  intro X J L M y i f s σ H E I m a j;subst J L M;let⟨D,q,N,p,C,B⟩:=m it (by simp);refine(W X.A (I.ok.hd y)).item i s _ _ j a λv n F U l G=>?_;let⟨c,u,S,rfl⟩:=U;have T:Inv X f σ H {s with heap:=n,toks:=F}:=I.turned (λb o g e=>G b o (by simpa using g) e) D q p C B;let⟨o,e,O,R⟩:=id l;exists _,rfl,ydv (s:={s with heap:=n,toks:=F}) e O R hn ⟨.str ⟨#[c]⟩,H,T,⟨u,rfl⟩,⟨rfl,c,S,rfl⟩,l,λb g=>(m b g).1⟩
 done:=by
  intro X J L M y i f s σ H E I m a j;subst J L M;have j:i=x.cps.size:=j;subst j;let⟨D,q,N,p,C,B⟩:=m it (by simp);exact(W X.A (I.ok.hd y)).done s _ _ a λn F G=>⟨rfl,I.turned (λb o g e=>G b o (by simpa using g) e) D q p C B⟩
 self:=λA i s Q E a h=>hs A i s Q E a h
section
variable{X:Cx}
def vhn(tl:TE):TI:=λσ H R=>tl σ H λv H1=>∃x,v=.str x/\R (Its x) H1
def yfq{l:qg}{tl:TE}(hl:PE X l tl):PI X tg l (vhn tl):=by
 intro c s σ H R I h;refine thn (hl c s σ H _ I h) λv a h'=>?_;let⟨y,i,f,k,x,e,q⟩:=h';subst e;let⟨t,rfl⟩:=k
 have d:∀{ob:Obj},∀b∈[a.heap.objs.size],yfu X c i b:=λ{_}b m=>by
  have e:b=a.heap.objs.size:=by simpa using m
  subst e;exact f.fpOk (bf _) (f.hok.fresh (bf _))
 cases ha:x.cps.all (· <128)
 .refine wpAny_pyIter_wide ha ?_;exists a.heap.objs.size,[a.heap.objs.size],_,_,i,rfl,f.kept (t':=a.toks) λb o e=>be _ e,yd7 x t _ ∅ (λA j=>Walks.strWide j _ x t) (λZ Z Z Z Z g h=>wpAny_pyIter_striter_wide g h),⟨_,br _ rfl,rfl,rfl⟩,d (ob:=default),q
 .refine wpAny_pyIter_ascii ha ?_;exists a.heap.objs.size,[a.heap.objs.size],_,_,i,rfl,f.kept (t':=a.toks) λb o e=>be _ e,yd7 x t _ ∅ (λA j=>Walks.strAscii j _ x t) (λZ Z Z Z Z g h=>wpAny_pyIter_striter_ascii g h),⟨_,br _ rfl,rfl,rfl⟩,d (ob:=default),q
def va0{tl:TE}{σ:St}{H:Hp}{R:It->Hp->Prop}(h:tl σ H λv H1=>∃x,v=.str x/\R (Its x) H1):vhn tl σ H R:=h
def ja{x:Str}{k:Str}{t:Tok}{pos:Pos}(hg:Gl X x)(hm:X.mg x=some (.str k t))(hd:autoParam ((x == ("__debug__":Str))=false) aB._auto_1):PE X (.Name x pos) (tC (.str k)):=ydi hg hm ⟨t,rfl⟩ hd
end
def Ð{x:Str}{te:TE}{R:Hp->Prop}{H1:Hp}(f:Nat->V)(hD:H1 D=none)
  (hs:∀i c H,x.cps[i]?=some c->i<x.cps.size->yr H1 H->H D=some (.lst ((List.range i).map f))->te [some (.str ⟨#[c]⟩)] H (MpK H1 D f x.cps.size i)) (hd:∀H,yr H1 H->H D=some (.lst ((List.range x.cps.size).map f))->R H):yfr (Its x) te D R H1:=by
 exists cW x.cps.size (Mp H1 D f),⟨x.cps.size,by simp,bJ _,Mp.zero hD⟩,?_;rintro i m H ⟨rfl,b,p⟩;by_cases hlt:i<x.cps.size
 .refine .inr ⟨hlt,λv d y=>?_⟩;let⟨rfl,c,a,rfl⟩:=y;exact hs i c _ a hlt p.1 p.2
 .have e:i=x.cps.size:=()
  subst e;exact .inl ⟨rfl,hd H p.1 p.2⟩
def Itk(o:Obj)(d:z4)(kvs:Κ):It :=
 ⟨λi H=>H d=some (.frz o (.dK kvs))/\i<kvs.length,λi H x H'=>H'=H/\∃k v,kvs[i]?=some (k,v)/\x=kV k,λi H=>H d=some (.frz o (.dK kvs))/\kvs.length<=i⟩
noncomputable def Itv(o:Obj)(d:z4)(kvs:Κ):It :=
 ⟨λi H=>H d=some (.frz o (.dK kvs))/\i<kvs.length,λi H x H'=>H'=H/\∃k,kvs[i]?=some (k,x),λi H=>H d=some (.frz o (.dK kvs))/\kvs.length<=i⟩
def vcw{w:qd}{k:Key}{u:qb}(r:(wu P w).is k u=true):xu (kV k) u:=by rcases xb r with⟨i,t,rfl,rfl⟩|⟨x,t,rfl,rfl⟩<;>exact⟨t,rfl⟩
def KV.get{kvs:Κ}{vs:qi (Key×qb)}(r:KV kvs vs){k:Key}{u:qb}(h:vs[i]?=some (k,u)):∃v,kvs[i]?=some (k,v)/\xu v u:=by let⟨⟨b,v⟩,e,a,c⟩:=ybu r h;have a:b=k:=a;exists v,by rw[e,a],c
def ytl{xs:Υ}{us:Ο}(hl:xs.length=us.length)(h:∀(i:Nat)u,us[i]?=some u->∃x,xs[i]?=some x/\xu x u):wz xs us:=by
 induction xs generalizing us with
 |nil =>
  cases us with
  |nil=>exact .nil
  |cons u us=>cases hl
 |cons x xs ih =>
  cases us with
  |nil=>cases hl
  |cons u us =>
   let⟨y,e,r⟩:=h 0 u rfl;cases e;exact .cons r (ih (Nat.succ.inj hl) λi u a=>h (i+1) u a)
def yfg{X:Cx}{σ:St}{H:Hp}{s:qa}{d:z4}{kvs:Κ}{o:Obj}{es:Array DictEntry}(I:Inv X pins σ H s)(hd:H d=some (.frz o (.dK kvs)))(ho:o.data=.dict es ep):∃vs,KV kvs vs/\s.heap.DictAt (wu X.prog X.w) d vs ep:=by let⟨a,_,_,vs,r,i,g,e,c,f,b,h⟩:=(show xm X.prog X.w H s.heap d (.frz o (.dK kvs))from I.hok d _ hd);rw[a]at c;cases c;rw[ho]at b;cases b;exists vs,r,o,es,a,f,ho,h
def yhk{w:qd}{K:z3}{o:Obj}{es:Array DictEntry}{kvs:Κ}(d it:z4)(hne:d≠it)(ho:o.data=.dict es ep):ydx P w K tg (Itk o d kvs) [it] it (λi h=>h.IsKeyIter it d i kvs.length ep) where
 mem:=by simp
 obj:=λi h a b f=>by
  have e:b=it:=by simpa using f
  subst e;let⟨o,e,_,d⟩:=a;exists o,e,λv z=>by rw[d]at z;cases z
 keep:=λi h l a k=>a.at λo e=>k it (by simp) o e
 item:=by
  intro X D G J q i c s σ H E I j a ⟨t,Y⟩;subst D G J;let⟨C,p,N,n,B,u⟩:=j it (by simp);let⟨L,r,F⟩:=yfg I t ho;have m:=r.length;have W:=Walks.dictKeys (knd:=wu X.prog X.w) (prog:=X.prog) (w:=X.w) (A:=X.A) (I.ok.hd q) it d hne L ep;refine W.item i s _ _ () ⟨by rw[<- m];exact a,F⟩ λv l M hv g U=>?_;let⟨k,x,R,Q⟩:=hv;let⟨y,hy,_⟩:=r.get R;have S:Inv X c σ H {s with heap:=l,toks:=M}:=I.turned (λb o f e=>U b o (by simpa using f) e) C p n B u;let⟨o',Z,T,d'⟩:=id g.1;exists _,rfl,ydv (s:={s with heap:=l,toks:=M}) Z T d' ∅ ⟨kV k,H,S,vcw Q,⟨rfl,k,y,hy,rfl⟩,by rw[m];exact g.1,λb f=>(j b f).1⟩
 done:=by
  intro X D G J q i c s σ H E I j a ⟨t,a0⟩;subst D G J;let⟨C,p,N,n,B,u⟩:=j it (by simp);let⟨L,r,F⟩:=yfg I t ho;have m:=r.length;exact wpAny_pyNext_dict_end (I.ok.hd q) (by rw[<- m];exact a) F (by rw[List.getElem?_eq_none_iff];omega) λl O=>⟨rfl,I.turned (t':=s.toks) (λb o f e=>O b o f e) C p n B u⟩
 self:=λv v v v v a h=>wpAny_pyIter_keyiter a h
def yim{w:qd}{K:z3}{o:Obj}{es:Array DictEntry}{kvs:Κ}(d it:z4)(hne:d≠it)(ho:o.data=.dict es ep):ydx P w K tg (Itv o d kvs) [it] it (λi h=>h.IsValIter it d i kvs.length ep) where
 mem:=by simp
 obj:=λi h a b f=>by
  have e:b=it:=by simpa using f
  subst e;let⟨o,e,_,d⟩:=a;exists o,e,λv z=>by rw[d]at z;cases z
 keep:=λi h l a k=>a.at λo e=>k it (by simp) o e
 item:=by
  intro X C F G q i c s σ H E I j a ⟨t,T⟩;subst C F G;let⟨B,p,M,n,x,u⟩:=j it (by simp);let⟨J,r,D⟩:=yfg I t ho;have m:=r.length;have W:=Walks.dictValues (knd:=wu X.prog X.w) (prog:=X.prog) (w:=X.w) (A:=X.A) (I.ok.hd q) it d hne J ep;refine W.item i s _ _ () ⟨by rw[<- m];exact a,D⟩ λv l L hv g S=>?_;let⟨k,O⟩:=hv;let⟨y,Z,Y⟩:=r.get O;have Q:Inv X c σ H {s with heap:=l,toks:=L}:=I.turned (λb o f e=>S b o (by simpa using f) e) B p n x u;let⟨o',U,R,d'⟩:=id g.1;exists _,rfl,ydv (s:={s with heap:=l,toks:=L}) U R d' ∅ ⟨y,H,Q,Y,⟨rfl,k,Z⟩,by rw[m];exact g.1,λb f=>(j b f).1⟩
 done:=by
  intro X C F G q i c s σ H E I j a ⟨t,a0⟩;subst C F G;let⟨B,p,M,n,x,u⟩:=j it (by simp);let⟨J,r,D⟩:=yfg I t ho;have m:=r.length;exact wpAny_pyNext_values_end (I.ok.hd q) (by rw[<- m];exact a) D (by rw[List.getElem?_eq_none_iff];omega) λl N=>⟨rfl,I.turned (t':=s.toks) (λb o f e=>N b o f e) B p n x u⟩
 self:=λv v v v v a h=>wpAny_pyIter_valiter a h
section
variable{X:Cx}
def vd5(to:TE):TI:=λσ H R=>to σ H λx H1=>∃d kvs,x=.ref d/\H1 d=some (.dK kvs)/\∀o,R (Itk o d kvs) (upd H1 d (.frz o (.dK kvs)))
def vd3(to:TE):TI:=λσ H R=>to σ H λx H1=>∃d kvs,x=.ref d/\H1 d=some (.dK kvs)/\∀o,R (Itv o d kvs) (upd H1 d (.frz o (.dK kvs)))
def ysd{l:qg}{to:TE}(hl:PE X l to):PI X tg l (vd5 to):=by
 intro c s σ H R I h;refine thn (hl c s σ H _ I h) λv a h'=>?_;let⟨x,u,m,A,d,i,e,k,q⟩:=h';subst e;cases A;let⟨_,f,t,r,n,B,C,j,z,p,D⟩:=(show xm X.prog X.w u a.heap d (.dK i)from m.hok d _ k);have E:a.heap.DictAt (wu X.prog X.w) d t C:=⟨n,B,j,z,p,D⟩;refine wpAny_pyIter_dict f E ?_;have g:=m.freeze k trivial j;exists a.heap.objs.size,[a.heap.objs.size],_,_,_,rfl,g.kept (t':=a.toks) λb o e=>be _ e,yhk d _ (bT (bw j)) p,⟨_,br _ rfl,rfl,by rw[r.length];rfl⟩,λb y=>?_,q n;have e:b=a.heap.objs.size:=by simpa using y
 subst e;exact g.fpOk (bf _) (g.hok.fresh (bf _))
def yju{l:qg}{to:TE}(hl:PE X l to)(hbase:autoParam (attributeBase l "values" X.env (eval l X.env)=eval l X.env) aD._auto_1)(hline:autoParam ((apos.endLine == cpos.line)=true) aD._auto_1):PI X tg (.Call (.Attribute l "values" apos) [] [] cpos) (vd3 to):=by
 intro j s σ H R I h;refine wpAny_Call_method0_late hbase hline (thn (hl j s σ H _ I h) λv c h'=>?_);let⟨x,C,A,E,d,kvs,e,z,q⟩:=h';subst e;cases E;let⟨_,m,n,r,k,G,ep,g,t,B,J⟩:=(show xm X.prog X.w C c.heap d (.dK kvs)from A.hok d _ z);have y:c.heap.DictAt (wu X.prog X.w) d n ep:=⟨k,G,g,t,B,J⟩;refine⟨"dict","dict.values",F.plainAttrs_dict,F.slot_dict_values,F.type_dict_values,⟨k,g,t.1⟩,λa K=>by cases K;exact⟨k,g,t.2.1⟩,Calls.callWith_builtin rfl (PySem.evalArgs_none (call_meetsIn F.slot_dict_values y.dictOf.typeIs F.entry_dict_values (F.args_dict_values_1 _) (meets_dict_values (wu X.prog X.w) d m) ⟨⟨n,y.dictOf⟩,?_⟩))⟩;refine wpAny_pyIter_values (knd:=wu X.prog X.w) (d:=d) (kvs:=n) (ep:=ep) ⟨_,br _ rfl,rfl,rfl⟩ (y.push _) ?_;have p:=A.freeze z trivial g;have i:(c.heap.push { cls:=.type "dict_values",data:=.fields #[.ref d]}).objs.size=c.heap.objs.size+1:=Heap.size_push ..;have u:d<c.heap.objs.size:=bw g;exists _,[_],_,_,_,rfl,p.kept (t':=c.toks) λb o e=>be _ (be _ e),yim d _ (show d≠(c.heap.push _).objs.size by rw[i];exact bT (Nat.lt_succ_of_lt u)) B,⟨_,br _ rfl,rfl,by rw[r.length];rfl⟩,λb D=>?_,q k;have e:b=(c.heap.push { cls:=.type "dict_values",data:=.fields #[.ref d]}).objs.size:=by simpa using D
 have f:c.heap.objs.size<=b:=by rw[e,i];omega
 exact p.fpOk f (p.hok.fresh f)
def yu4{to:TE}{σ:St}{H:Hp}{R:It->Hp->Prop}(h:to σ H λx H1=>∃d kvs,x=.ref d/\H1 d=some (.dK kvs)/\∀o,R (Itk o d kvs) (upd H1 d (.frz o (.dK kvs)))):vd5 to σ H R:=h
def ytc{to:TE}{σ:St}{H:Hp}{R:It->Hp->Prop}(h:to σ H λx H1=>∃d kvs,x=.ref d/\H1 d=some (.dK kvs)/\∀o,R (Itv o d kvs) (upd H1 d (.frz o (.dK kvs)))):vd3 to σ H R:=h
def ypz(t:TE):TE:=λσ H Q=>t σ H λv H'=>∃d o u,(∀o u,H d≠some (.frz o u))/\H' d=some (.frz o u)/\Q v (upd H' d u)
def yi8{t:TE}(h:PE X e t):PE X e (ypz t):=.mk λa s σ H Q I q=>thn (h a s σ H _ I q) λv g z=>by
 let⟨x,f,J,r,d,o,u,b,c,k⟩:=z;exists x,_,J.thaw (λo u e=>b o u (I.base.frzs d o u e)) c,r,k
def yun{t:TE}{σ:St}{H:Hp}{Q:VK}(h:t σ H λv H'=>∃d o u,(∀o u,H d≠some (.frz o u))/\H' d=some (.frz o u)/\Q v (upd H' d u)):ypz t σ H Q:=h
def vau:qi V->Hp->VK->Prop:=λxs H Q=>∃d kvs,xs=[.ref d]/\H d=some (.dK kvs)/\∀l,H l=none->Q (.ref l) (upd H l (.lst (kvs.map λp=>kV p.1)))
def γ(hc:X.calm=true):jy X (.type "list") vau:=by
 intro j s σ H O S Q I r h;let⟨d,kvs,rfl,l,q⟩:=h;let⟨u,rfl,B⟩:=þ r;cases B;let⟨g,c,f,r,F,C,ep,A,o,M,D⟩:=(show xm X.prog X.w H s.heap d (.dK kvs)from I.hok d _ l);have G:s.heap.DictAt (wu X.prog X.w) d f ep:=⟨F,C,A,o,M,D⟩;refine W.kdl_call (W.kdl_dict (knd:=wu X.prog X.w) (kvs:=f) (ep:=ep) c) (I.ok.hd hc) G (by rw[<- r.length];exact g) λJ z a t K e b=>?_
 have N:wz (kvs.map λp=>kV p.1) a.toList:=ytl (by have R:=b.1;have P:=r.length;have T:a.toList.length=a.size:=ci;rw[ba];omega) λi v E=>by
  let⟨k,x,n,m⟩:=b.2 i v (by rw[<- Array.getElem?_toList];exact E);let⟨y,L,_⟩:=r.get n;exists kV k,by rw[bi,L];rfl,vcw m
 exists .ref s.heap.objs.size,_,I.laid (t':=z) K (bf _) (show xm X.prog X.w _ J _ (.lst _)from ⟨by rw[ba];exact g,a.toList,t,N,by rw[Array.toArray_toList];exact e⟩),rfl,q _ (I.hok.fresh (bf _))
end
def ym6{o:Obj}{d:z4}{kvs:Κ}{g:TG}{tb:TS}{D:Ĳ}{σ:St}{H:Hp}(Pv:Nat->St->Hp->Prop)(h0:Pv 0 σ H)(hl:∀i σ H,i<=kvs.length->Pv i σ H->H d=some (.frz o (.dK kvs)))
  (hs:∀i k v σ H,kvs[i]?=some (k,v)->Pv i σ H->g (kV k) σ H λσ2 H2=>tb {D with nx:=Pv (i+1),ct:=Pv (i+1),bk:=D.nx} σ2 H2) (hd:∀σ H,Pv kvs.length σ H->D.nx σ H):
  ∃W:Nat->Nat->St->Hp->Prop,(∃m,W 0 m σ H)/\∀i m σ H,W i m σ H ->
   ((Itk o d kvs).stop i H/\D.nx σ H)\/((Itk o d kvs).go i H/\∃N:Ζ,(∀σ' H',N σ' H'->∃m',m'<m/\W (i+1) m' σ' H')/\∀x H',(Itk o d kvs).yld i H x H'->g x σ H' λσ2 H2=>tb {D with nx:=N,ct:=N,bk:=D.nx} σ2 H2):=by
 exists λi m σ H=>m=kvs.length-i/\i<=kvs.length/\Pv i σ H,⟨kvs.length,by simp,bJ _,h0⟩,?_;rintro i m σ H ⟨rfl,b,p⟩;have q:=hl i σ H b p;by_cases hlt:i<kvs.length
 .refine .inr ⟨⟨q,hlt⟩,Pv (i+1),λσ' H' c=>⟨kvs.length-(i+1),(),rfl,hlt,c⟩,λx H' y=>?_⟩;let⟨rfl,k,v,a,rfl⟩:=y;exact hs i k v σ _ a p
 .have e:i=kvs.length:=()
  subst e;exact .inl ⟨⟨q,bf _⟩,hd σ H p⟩
def Ň{o:Obj}{d:z4}{kvs:Κ}{te:TE}{fr:St}{R:Hp->Prop}{H1:Hp}(Pv:Nat->Hp->Prop)(h0:Pv 0 (upd H1 D (.lst [])))(hl:∀i H,i<=kvs.length->Pv i H->H d=some (.frz o (.dK kvs)))
  (hs:∀i k v H,kvs[i]?=some (k,v)->i<kvs.length->Pv i H->te (some v::fr) H λy H4=>∃ys,H4 D=some (.lst ys)/\ys.length<sizeLine/\∃m',m'<kvs.length-i/\cW kvs.length Pv (i+1) m' (upd H4 D (.lst (ys++[y])))) (hd:∀H,Pv kvs.length H->R H):u6 (Itv o d kvs) te fr D R H1:=by
 exists cW kvs.length Pv,⟨kvs.length,by simp,bJ _,h0⟩,?_;rintro i m H ⟨rfl,b,p⟩;have q:=hl i H b p;by_cases hlt:i<kvs.length
 .refine .inr ⟨⟨q,hlt⟩,λx c y=>?_⟩;let⟨rfl,k,a⟩:=y;exact hs i k x _ a hlt p
 .have e:i=kvs.length:=()
  subst e;exact .inl ⟨⟨q,bf _⟩,hd H p⟩
noncomputable def isN:V->Bool
 | .non=>true
 |_=>false
noncomputable def vet:qb->Bool
 | .none=>true
 |_=>false
def vib(K:z3):R2:=λx y H Q=>∃p xs,x=.non/\y=.ref p/\SqL K H p xs/\(∀z∈xs,z=.non\/∃q ys,z=.ref q/\SqL K H q ys)/\Q (.bl (xs.any isN)) H
theorem yjw:∀{xs:Υ}{us:Ο},wz xs us->(∀z∈xs,z=.non\/∃q,z=.ref q)->us.any vet=xs.any isN
 |_,_,.nil,_=>rfl
 |y::xs,u::us,.cons r t,f=>by
  rw[List.any_cons,List.any_cons,yjw t λz a=>f z (bM _ a)]
  congr 1
  rcases f y bN with rfl|⟨q,rfl⟩
  .cases r;rfl
  .cases r;rfl
def yym{X:Cx}(hu:X.A.units+64<cLine):OpR X (compareOp .In) (vib X.K):=by
 intro o s σ H x y v u Q I D E h;let⟨p,c,rfl,rfl,F,d,q⟩:=h;cases D;cases E;let⟨b,r,C,G⟩:=I.list F
 have l:∀{c:Υ}{i:Ο},wz c i->(∀z∈c,z=.non\/∃q n,z=.ref q/\SqL X.K H q n)->∀w∈i,SeqAt.EqAt X.A.in1 s w .none (vet w):=by
  intro c i B
  induction B with
  |nil=>intro _ w a;cases a
  |cons r1 t ih =>
   intro f w a;rcases bq.mp a with rfl|a
   .rcases f _ bN with rfl|⟨J,n,rfl,g⟩
    .cases r1;exact SeqAt.EqAt.same _
    .cases r1;let⟨m,_,k,_⟩:=I.list g;exact SeqAt.EqAt.list_none k.isList (by show X.A.units+1<cLine;omega)
   .exact ih (λz d=>f z (bM _ d)) w a
 refine SeqAt.in_listAt vet C.isList (λw a=>l r d w (by simpa using a)) ⟨.bl _,H,I,rfl,?_⟩;rw[show b.toArray.any vet=b.any vet by simp,yjw r λz j=>(d z j).imp id λ⟨q,_,e,_⟩=>⟨q,e⟩];exact q
def yhw{X:Cx}:jy X (.builtin "len") (λxs H Q=>∃a kvs,xs=[V.ref a]/\H a=some (.dK kvs)/\Q (.int kvs.length) H):=by intro b s σ H xs g Q I r h;let⟨a,kvs,rfl,e,q⟩:=h;let⟨u,rfl,c⟩:=þ r;cases c;exact vfi I (.of e) λt f d=>⟨.int kvs.length,H,d,⟨t,rfl⟩,q⟩
def ysb{σ:St}{H:Hp}{Q:VK}(h:∀p,H p=none->Q (.ref p) (upd H p (.dK []))):yon σ H Q:=h
def ytj{td ty:TE}{σ:St}{H:Hp}{Q:VK}(h:td σ H λx H1=>∃a,x=.ref a/\IsD H1 a/\ty σ H1 λy H2=>∃kvs k v,H2 a=some (.dK kvs)/\y=kV k/\z5 kvs k=some v/\Q v (upd H2 a (.dK (ß kvs k)))):yrr td ty σ H Q:=h
def yh8(bs:qi Bool):((List.range bs.length).any λi=>(bs[i]?).getD false)=bs.any id:=by
 rw[Bool.eq_iff_iff,cP,cP]
 constructor
 .rintro ⟨i,a,h⟩;have a:=cc.mp a;rw[bc a]at h;exists _,bV a,h
 .rintro ⟨b,c,h⟩;let⟨i,a,rfl⟩:=List.getElem_of_mem c;exists i,cc.mpr a,by rw[bc a];exact h
def ymp{X:Cx}(hc:X.calm=true):jy X (.builtin "any") (λxs H Q=>∃p bs,xs=[.ref p]/\SqL X.K H p (List.map V.bl bs)/\Q (.bl (bs.any id)) H):=by
 intro g s σ H xs D Q I r h;let⟨p,bs,rfl,w,q⟩:=h;let⟨u,rfl,o⟩:=þ r;cases o;let⟨j,t,m,E⟩:=I.list w;obtain rfl:=yad t;have f:=m.isList;have d:p<s.heap.objs.size:=by let⟨_,e,_⟩:=f;exact bw e
 refine call_any_walk (wpAny_pyIter_list f ?_)
 refine⟨s.heap.objs.size,[s.heap.objs.size,p],[s.heap.objs.size],(bs.map Value.bool).toArray.size,_,_,λi=>(bs[i]?).getD false,rfl,Walks.list (A:=X.A.in1) (show X.A.handled=none from I.ok.hd hc) _ p (bT d) (bs.map Value.bool).toArray,
  ⟨⟨_,br _ rfl,rfl,rfl⟩,f.push _⟩,λi v B z y a c=>?_,λC n l=>?_⟩
 .have a:(bs.map Value.bool)[i]?=some v:=by simpa using a
  rw[bi]at a
  cases e:bs[i]? with
  |none=>rw[e]at a;cases a
  |some b =>
   dsimp only at c;rw[e]at a c;cases a;exact cq c
 .have e:((List.range (bs.map Value.bool).toArray.size).any λi=>(bs[i]?).getD false)=bs.any id:=by rw[bC,ba];exact yh8 bs
  rw[e];exists .bl (bs.any id),H,I.kept (t':=n) λb x e=>l b x (λk=>?_) (be _ e),rfl,q;rw[bp.mp k]at e;exact cI _ (bw e)
section
variable{X:Cx}
def vgs:V->qj Int->qj Int->Hp->VK->Prop:=λx lo hi H Q=>∃z:Str,x=.str z/\z.length<=sizeLine/\Q (.str (Txt.slice z lo hi)) H
def yo9:SlR X vgs:=by
 intro d s σ H x v n p lo o m Q I f a g e h;let⟨z,rfl,b,q⟩:=h;let⟨t,rfl⟩:=f;refine⟨"str",_,F.slot_str_getitem.lookup,typeIs_str _ _ _,?_⟩
 cases g with
 |none =>
  cases e with
  |none=>exact wpAny_getItem_str_slice (l:=none) (u:=none) (st:=none) a rfl (post_val_or_str ⟨bF (Txt.slice_le z _ _) b,λc k=>⟨.str _,H,I.tok _,⟨_,rfl⟩,q⟩⟩)
  |int j uj=>exact wpAny_getItem_str_slice (l:=none) (u:=some (j,uj)) (st:=none) a rfl (post_val_or_str ⟨bF (Txt.slice_le z _ _) b,λc k=>⟨.str _,H,I.tok _,⟨_,rfl⟩,q⟩⟩)
 |int i ui =>
  cases e with
  |none=>exact wpAny_getItem_str_slice (l:=some (i,ui)) (u:=none) (st:=none) a rfl (post_val_or_str ⟨bF (Txt.slice_le z _ _) b,λc k=>⟨.str _,H,I.tok _,⟨_,rfl⟩,q⟩⟩)
  |int j uj=>exact wpAny_getItem_str_slice (l:=some (i,ui)) (u:=some (j,uj)) (st:=none) a rfl (post_val_or_str ⟨bF (Txt.slice_le z _ _) b,λc k=>⟨.str _,H,I.tok _,⟨_,rfl⟩,q⟩⟩)
def ymt{x:Str}(h:j<=x.length):(Txt.slice x none (some (j:Int))).cps.toList=x.cps.toList.take j:=by have e:=slice_closes_toL (x:=x) (j:=(j:Int)) () ();rw[beq_iff_eq.mp e];simp
def ygj{x:Str}(h:j<=x.length):(Txt.slice x (some (j:Int)) none).cps.toList=x.cps.toList.drop j:=by
 rw[slice_from_eq (b:=(x.length:Int)) () () rfl];have e:x.length=x.cps.toList.length:=by simp[Str.length]
 simp;rw[bZ (by rw[cu,e];omega)]
end
section
variable{X:Cx}
def vgj:R2:=λx y H Q=>∃(z:Str)(k:Int),x=.str z/\y=.int k/\0<=k/\k<=2000/\z.length<=1000/\∀z':Str,z'.cps.toList=(List.replicate k.toNat z.cps.toList).flatten->Q (.str z') H
theorem yjv(a:Array Nat):∀(k:Nat)(b:Array Nat),((List.replicate k a).foldl (·++·) b).toList=b.toList++(List.replicate k a.toList).flatten
 |0,b=>by simp
 |k+1,b=>by
  rw[b7,List.foldl_cons,yjv a k,Array.toList_append,b7,List.flatten_cons,bW]
theorem Ő:OpR X (binaryOp .Mult) vgj:=by
 intro a s σ H x y v u Q I c i h;let⟨z,k,rfl,rfl,o,m,j,q⟩:=h;let⟨t,rfl⟩:=c;let⟨n,rfl⟩:=i;by_cases k0:k<1
 .exact P.mul_str_none k0 () ⟨.str Str.empty,H,I.tok _,⟨_,rfl⟩,q _ (by rw[show k.toNat=0 by omega];rfl)⟩
 have l:z.length*k.toNat<=1000*2000:=Nat.mul_le_mul j ();refine P.mul_str (by rw[bo (),bo ()];rfl) (λZ Z=>?_) (λZ Z=>?_) ?_
 .have d:(z.length:Int)*k=((z.length*k.toNat:Nat):Int):=by rw[Int.natCast_mul,Int.toNat_of_nonneg ()]
  have f:(z.length:Int)*k<=(2^63-1:Int):=by rw[d];omega
  exact Int.not_lt.mpr (Int.le_ediv_of_mul_le () f)
 .have:=sizeLine_eq;unfold Builtin.Str.tooLong;exact bo ()
 .rw[if_neg ()];by_cases h1:(k == 1 || z.length == 0)=true
  .rw[if_pos h1];exists .str z,H,I,⟨_,rfl⟩,q z ?_;rcases Bool.or_eq_true_iff.mp h1 with e|e
   .rw[beq_iff_eq.mp e];simp
   .have g:z.cps.toList=[]:=cz (by have:=beq_iff_eq.mp e;simpa[Str.length]using this);rw[g];simp
  .rw[if_neg h1];have b:=yjv z.cps k.toNat #[];exists ?_,⟨.str _,H,I.tok _,⟨_,rfl⟩,q _ b⟩
   have e:Str.length ⟨(List.replicate k.toNat z.cps).foldl (·++·) #[]⟩=k.toNat*z.cps.toList.length:=by
    show ((List.replicate k.toNat z.cps).foldl (·++·) #[]).size=_;rw[<- ci,b];simp[List.sum_replicate_nat]
   rw[e,sizeLine_eq,Nat.mul_comm];have:z.cps.toList.length=z.length:=by simp[Str.length]
   rw[this];omega
end
section
variable{prog:qh}{w:qd}
noncomputable def vfr(k:Int×qi Int):Int:=reduceHash (Builtin.Tuple.tupleHashOf [hashInt k.1,reduceHash (Builtin.Tuple.tupleHashOf (k.2.map hashInt))])
variable{A:qe}{E:Δ}{s:qa}
end
abbrev NX:=(Int×qi Int)×z4×z4
def vik(x:NX):DictEntry:=⟨vfr x.1,.ref x.2.1,.ref x.2.2⟩
def ND(a:z4)(xs:qi NX):HO:=.ext λh=>(a == sysModules)=false/\∃o es ep,h.get? a=some o/\o.ExactDict/\o.data=.dict es ep/\es.toList=xs.map vik
def NKy(H:Hp)(p:z4)(k:Int×qi Int):Prop:=∃b,H p=some (.tup [.int k.1,.ref b])/\H b=some (.tup (k.2.map V.int))
structure NDt(H:Hp)(a:z4)(xs:qi NX):Prop where
 o:H a=some (ND a xs)
 k:∀x∈xs,NKy H x.2.1 x.1
 n:(xs.map (·.1)).Nodup
 l:xs.length<sizeLine
def yqi{X:Cx}{K:z3}{o:qg}{es:qi qg}{to:TE}{t:TA}{name:Str}{T id:String}{r:V->qi V->Hp->VK->Prop}(hK:X.K=K)(pa:PlainAttrs T)(slot:Slot T name id)(hty:typeOf (.builtin id)=pure (.type "method_descriptor"))(hm:MtR X id r)(ho:PE X o to)(ha:PA X (e::es) t)
  (hbase:autoParam (attributeBase o name X.env (eval o X.env)=eval o X.env) aD._auto_1)
  (hfew:((backTo cpos (starEach (e::es) X.env)).all (λx=>!x.1) && (backToKw cpos (keywordEach [] X.env)).all (λx=>x.1.isSome)
   && decide ((e::es).length+([]:qi Keyword).length+(if ([]:qi Keyword).isEmpty then 0 else 1)<30))=true:=by rfl)
  (hline:autoParam ((apos.endLine == cpos.line)=true) aD._auto_1) (hs:autoParam (starEach (e::es) X.env=(false,eval e X.env)::starEach es X.env) aD._auto_1) (hplain:autoParam ((backTo cpos (starEach es X.env)).any (·.1)=false) aD._auto_1):
  PE X (.Call (.Attribute o name apos) (e::es) [] cpos) (tBM K T r to t):=hK ▸ ug pa slot hty hm ho ha hbase hfew hline hs hplain
end L2
namespace L2
open PySem PySem.Spec PyProof.Rows PySem.SeqAt PySem.Builtin PySem.Builtin.Str
noncomputable def isS(b:Str):qb->Bool
 | .str x _=>decide (x=b)
 |_=>false
def vhv(ns:Τ)(b:Str)(j:Nat):Prop:=ns[j]?=some b/\∀m,m<j->ns[m]?≠some b
theorem ykx(b:Str):∀{ns:Τ}{vs:Ο},wz (ns.map V.str) vs->∀(j:Nat)(h:j<vs.length),isS b vs[j]=decide (ns[j]?=some b)
 |[],_,.nil,j,h=>absurd h (bD j)
 |x::ns,_,.cons r rs,j,h=>by
  let⟨t,rfl⟩:=r
  cases j with
  |zero =>
   show decide (x=b)=decide (some x=some b);simp
  |succ j=>exact ykx b rs j (Nat.lt_of_succ_lt_succ h)
theorem yrh(b:Str)(u:Tok):∀{ns:Τ}{vs:Ο},wz (ns.map V.str) vs->∀y,y∈vs->MeetsSeq.EqGives y (.str b u) (isS b y)
 |[],_,.nil,y,h=>nomatch h
 |x::ns,_,.cons r rs,y,h=>by
  let⟨t,rfl⟩:=r;rcases bq.mp h with rfl|h
  .exact λZ Z Z Z Z Z h=>wpAny_eqBool_str h
  .exact yrh b u rs y h
section
variable{X:Cx}
def yu0(K:z3):V->qi V->Hp->VK->Prop:=λx vs H Q=>∃l ns b j,x=.ref l/\vs=[.str b]/\SqL K H l (List.map V.str ns)/\vhv ns b j/\Q (.int (j:Nat)) H
def yho:MtR X "list.index" (yu0 X.K):=by
 intro A s σ H x S v T Q I M J h;let⟨l,e,b,j,rfl,rfl,O,⟨w,f⟩,q⟩:=h;cases M;let⟨u,rfl,C⟩:=J.one;let⟨t,rfl⟩:=C;let⟨a,r,G,z⟩:=I.list O;let⟨⟨L,U,i,B⟩,n,o,k,d,c⟩:=G;simp only at k d c;subst k d c;have p:e.length=a.length:=by rw[<- r.length,ba]
 have N:j<e.length:=(bv.mp w).1;have D:=yb9;have R:e.length<=sizeLine:=by rw[ba]at z;exact z
 refine call_meets PySem.F.slot_list_index ⟨_,o,rfl⟩ PySem.F.entry_list_index (PySem.F.args_list_index_2 _ _)
  (list_indexAt l a.toArray n none B (.str b t) (isS b) j (by rw[bC];omega) () ?_ ?_) ⟨o,λy P=>(yrh b t r y (by simpa using P)).at _ _,.int j,H,I.tok _,⟨_,rfl⟩,q⟩
 .show isS b a[j]=true;rw[ykx b r j ()];exact bn w
 .intro m E g;show isS b a[m]=false;rw[ykx b r m (by simpa using E)];exact bo (f m g)
def ydr:V->qi V->Hp->VK->Prop:=λx vs H Q=>∃y b,∃i:Nat,∃ρ,x=.str y/\vs=[.str b]/\occurrences y b 0 y.length 1=i::ρ/\Q (.int i) H
def ybr:MtR X "str.index" ydr:=by intro a s σ H x j v g Q I c e h;let⟨y,b,i,ρ,rfl,rfl,d,q⟩:=h;let⟨t,rfl⟩:=c;let⟨u,rfl,f⟩:=e.one;let⟨k,rfl⟩:=f;exact SC.index d ⟨.int i,H,I.tok _,⟨_,rfl⟩,q⟩
end
def vfa(t:z4)(o:Obj)(n:Nat)(x y z b:Str)(tx ty tz u:Tok)(hc:o.cls=.type "tuple")(hd:o.data=.seq #[.str x tx,.str y ty,.str z tz] n)(k:Nat)(hk:(x=b/\k=0)\/(x≠b/\y=b/\k=1)\/(x≠b/\y≠b/\z=b/\k=2)):
  Meets (Builtin.«tuple.index» ⟨[.ref t,.str b u],[]⟩) (λZ R s=>s.heap.get? t=some o/\R (.ok (.ret (.int (k:Nat) s.toks))) {s with toks:=s.toks+1}) :=
 .of_wp λa w A R s h=>by
  let⟨F,g,H,K,J⟩:=s;let⟨m,h⟩:=h;let⟨c,d,I,G⟩:=o;simp only at hc hd;subst hc hd;unfold Builtin.«tuple.index»;simp only[Std.Legacy.Range.forIn_eq_forIn_range',Std.Legacy.Range.size,Nat.sub_zero,Nat.add_sub_cancel,Nat.div_one]
  have f:∀{c:Bool}{q r:Str}{B v:Tok},decide (q=r)=c->∀{Q:Bool->qa->Prop}{E:Δ}{A:qe}{s:qa},Q c s->wpAny (model a w) A (eqBool (.str q B) (.str r v)) Q E s:=by
   intro c q r B v e Q E A s h;exact wpAny_eqBool_str (by rw[e];exact h)
  rcases hk with⟨i,rfl⟩|⟨i,l,rfl⟩|⟨i,l,C,rfl⟩
  .have j:∀{Q:Bool->qa->Prop}{E:Δ}{A:qe}{s:qa},Q true s->wpAny (model a w) A (eqBool (#[Value.str x tx,Value.str y ty,Value.str z tz][0]) (Value.str b u)) Q E s:=λh=>f (bn i) h
   wp_walk using AutoSeq1.wpAny_loadPart' m,j
   exists _,rfl,h
  .have j:∀{Q:Bool->qa->Prop}{E:Δ}{A:qe}{s:qa},Q false s->wpAny (model a w) A (eqBool (#[Value.str x tx,Value.str y ty,Value.str z tz][0]) (Value.str b u)) Q E s:=λh=>f (bo i) h;have p:∀{Q:Bool->qa->Prop}{E:Δ}{A:qe}{s:qa},Q true s->wpAny (model a w) A (eqBool (#[Value.str x tx,Value.str y ty,Value.str z tz][1]) (Value.str b u)) Q E s:=λh=>f (bn l) h
   wp_walk using AutoSeq1.wpAny_loadPart' m,j,p
   exists _,rfl,h
  .have j:∀{Q:Bool->qa->Prop}{E:Δ}{A:qe}{s:qa},Q false s->wpAny (model a w) A (eqBool (#[Value.str x tx,Value.str y ty,Value.str z tz][0]) (Value.str b u)) Q E s:=λh=>f (bo i) h;have p:∀{Q:Bool->qa->Prop}{E:Δ}{A:qe}{s:qa},Q false s->wpAny (model a w) A (eqBool (#[Value.str x tx,Value.str y ty,Value.str z tz][1]) (Value.str b u)) Q E s:=λh=>f (bo l) h;have D:∀{Q:Bool->qa->Prop}{E:Δ}{A:qe}{s:qa},Q true s->wpAny (model a w) A (eqBool (#[Value.str x tx,Value.str y ty,Value.str z tz][2]) (Value.str b u)) Q E s:=λh=>f (bn C) h
   wp_walk using AutoSeq1.wpAny_loadPart' m,j,p,D
   exists _,rfl,h
section
variable{X:Cx}
def ytu(K:z3):V->qi V->Hp->VK->Prop:=λx vs H Q=>∃y0 y1 y2 b t,∃k:Nat,x=.ref t/\vs=[.str b]/\SqT K H t [.str y0,.str y1,.str y2]/\((y0=b/\k=0)\/(y0≠b/\y1=b/\k=1)\/(y0≠b/\y1≠b/\y2=b/\k=2))/\Q (.int (k:Nat)) H
def yh0:MtR X "tuple.index" (ytu X.K):=by
 intro d s σ H x E v G Q I y w h;let⟨g,A,l,b,t,k,rfl,rfl,D,j,q⟩:=h;cases y;let⟨u,rfl,C⟩:=w.one;let⟨B,rfl⟩:=C;let⟨e,r,p,J⟩:=I.tuple D;let⟨o,c,a,n,i⟩:=p
 cases r with
 |cons r0 r=>cases r with
  |cons r1 r=>cases r with
   |cons r2 r =>
    cases r;let⟨m,rfl⟩:=r0;let⟨z,rfl⟩:=r1;let⟨f,rfl⟩:=r2;exact call_meets PySem.F.slot_tuple_index ⟨_,c,a⟩ PySem.F.entry_tuple_index (PySem.F.args_tuple_index_2 _ _) (vfa t o n g A l b m z f B a i k j) ⟨c,.int k,H,I.tok _,⟨_,rfl⟩,q⟩
end
end L2
namespace L2
open PySem PySem.Spec PyProof.Rows
def jt.m{j k:Nat}{A:qe}(r:jt k A)(h:autoParam (j<=k) aB._auto_1):jt j A:=r.mono h
section
variable{X:Cx}{e:qg}{es:qi qg}{te:TE}{t:TA}
def pa1(ha:PE X e te)(h:autoParam (yde e=true) aI._auto_1):PA X [e] (yoa te ylf):=yje ha ur (yjj h)
def pac(ha:PE X e te)(hr:PA X es t)(h:autoParam (yde e=true) aI._auto_1):PA X (e::es) (yoa te t):=yje ha hr (yjj h)
end
section
variable{X:Cx}{k:Nat}{f:z4}{fd:FuncData}{ps:Τ}{sp:Sp}{Ex:St->XK}{x:Str}{p pos:Pos}{e:qg}{es:qi qg}{t:TA}{st:qc}{id:String}{r:qi V->Hp->VK->Prop}{T:String}
def xp(F:vo X.prog X.w X.K X.mg X.base CX0 k f fd ps sp)(hr:jt k X.A)(D:Dff X.K X.mg x st ps f fd)(ha:PA X (e::es) t)(hg:autoParam (Gl X x) aI._auto_1)(hdb:autoParam ((x == ("__debug__":Str))=false) aB._auto_1)
  (he:autoParam (starEach (e::es) X.env=(false,eval e X.env)::starEach es X.env) aD._auto_1) (hpl:autoParam ((backTo pos (starEach es X.env)).any (·.1)=false) aD._auto_1):PE X (.Call (.Name x p) (e::es) [] pos) (yvk sp [] E0 t):=Å F hr hg D.m D.F.kp D.B .nil vn ha hdb he hpl
def uo(F:vo X.prog X.w X.K X.mg X.base (CXe X.prog X.w) k f fd ps sp)(hr:jt k X.A)(D:Dff X.K X.mg x st ps f fd)(hc:yau X Ex)(ha:PA X (e::es) t)(hg:autoParam (Gl X x) aI._auto_1)(hdb:autoParam ((x == ("__debug__":Str))=false) aB._auto_1)
  (he:autoParam (starEach (e::es) X.env=(false,eval e X.env)::starEach es X.env) aD._auto_1) (hpl:autoParam ((backTo pos (starEach es X.env)).any (·.1)=false) aD._auto_1):PE X (.Call (.Name x p) (e::es) [] pos) (yks sp [] Ex t):=ym9 F hr hg D.m D.F.kp D.B .nil hc ha hdb he hpl
def pcB(hc:jy X (.builtin id) r)(hm:X.mg x=none)(ha:PA X (e::es) t)(hg:autoParam (Gl X x) aI._auto_1)(hv:autoParam (bootBuiltins x=some (.builtin id)) aG._auto_1)(hn:autoParam (x≠"__name__") aB._auto_1)(hdb:autoParam ((x == ("__debug__":Str))=false) aB._auto_1)
  (he:autoParam (starEach (e::es) X.env=(false,eval e X.env)::starEach es X.env) aD._auto_1) (hpl:autoParam ((backTo pos (starEach es X.env)).any (·.1)=false) aD._auto_1):PE X (.Call (.Name x p) (e::es) [] pos) (tCB r t):=ynl hc hg hm hv ha hn hdb he hpl
def pcT(hc:jy X (.type T) r)(hm:X.mg x=none)(ha:PA X (e::es) t)(hg:autoParam (Gl X x) aI._auto_1)(hv:autoParam (bootBuiltins x=some (.type T)) aG._auto_1)(hn:autoParam (x≠"__name__") aB._auto_1)(hdb:autoParam ((x == ("__debug__":Str))=false) aB._auto_1)
  (he:autoParam (starEach (e::es) X.env=(false,eval e X.env)::starEach es X.env) aD._auto_1) (hpl:autoParam ((backTo pos (starEach es X.env)).any (·.1)=false) aD._auto_1):PE X (.Call (.Name x p) (e::es) [] pos) (tCB r t):=yhn hc hg hm hv ha hn hdb he hpl
end
end L2
namespace L2
open PySem PySem.Spec PyProof.Rows
open PySem.Builtin PySem.Builtin.Str in
def yno{prog:qh}{w:qd}{A:qe}{E:Δ}{s:qa}{x y:Str}{t u:Tok}{Q:Δ}(hy:(y.length == 0)=false)
  (hq:∀l k,l.map (·.1)=Txt.split x y->Q (.ref s.heap.objs.size) {s with heap:=s.heap.push { cls:=.type "list",data:=.seq (strValues l).toArray},toks:=k})
  (hsz:x.length<=sizeLine) (hsz2:(partsBetween x (occurrences x y 0 x.length (x.length+1)) y.length).length<=sizeLine):
  wpAny (model prog w) A (call (.builtin "str.split") [.str x t,.str y u]) Q E s:=by
 cases h1:(decide (x.length<y.length) || decide (strKind x<strKind y))
 .cases hf:(occurrences x y 0 x.length (x.length+1)).isEmpty
  .refine call_meets F.slot_str_split (typeIs_str _ _ _) F.entry_str_split (F.args_str_split_2 _ _) (meets_str_split_sep x y t u h1 hy hf hsz hsz2) ?_;show wants Q E _ {s with toks:=_,heap:=s.heap.push { cls:=.type "list",data:=.seq (strsFrom s.toks (partsBetween x (occurrences x y 0 x.length (x.length+1)) y.length)).toArray} };rw[strsFrom_eq];exact hq (numbered s.toks _) _ ((numbered_texts _ _).trans ((if_neg (ne_true_of_eq_false h1)).trans (if_neg (ne_true_of_eq_false hf))).symm)
  .exact call_meets F.slot_str_split (typeIs_str _ _ _) F.entry_str_split (F.args_str_split_2 _ _) (meets_str_split_not_found x y t u h1 hy hf)
    (hq [(x,t)] s.toks ((if_neg (ne_true_of_eq_false h1)).trans (if_pos hf)).symm)
 .exact call_meets F.slot_str_split (typeIs_str _ _ _) F.entry_str_split (F.args_str_split_2 _ _) (meets_str_split_cannot_occur x y t u h1)
   (hq [(x,t)] s.toks (if_pos h1).symm)
section
variable{X:Cx}
def yy3:V->qi V->Hp->VK->Prop:=λx vs H Q=>∃s y:Str,x=.str s/\vs=[.str y]/\(y.length == 0)=false/\s.length<=100000/\∀l,H l=none->Q (.ref l) (upd H l (.lst ((Txt.split s y).map V.str)))
theorem yb2:∀l:qi (Str×Tok),wz ((l.map (·.1)).map V.str) (strValues l)
 |[]=>.nil
 |(x,t)::l=>.cons ⟨t,rfl⟩ (yb2 l)
def yml:MtR X "str.split" yy3:=by
 intro a s σ H x r v m Q I c g h;let⟨z,y,rfl,rfl,i,n,q⟩:=h;let⟨t,rfl⟩:=c;let⟨u,rfl,f⟩:=g.one;let⟨A,rfl⟩:=f;have p:sizeLine ≥ 100002:=∅
 have j:(Builtin.Str.partsBetween z (Builtin.Str.occurrences z y 0 z.length (z.length+1)) y.length).length<=sizeLine:=by
  rw[len_partsBetween];have:=StrLaws.occ_length_le z y 0 z.length (z.length+1);omega
 refine yno i (λl k e=>?_) () j;have d:=split_le z y;exists .ref _,_,I.laid (t':=k) (o:=.lst ((Txt.split z y).map V.str)) (λb w q=>be _ q) (bf _) ?_,rfl,q _ (I.hok.fresh (bf _));exists by rw[ba];omega,_,0,by rw[<- e];exact yb2 l,?_
 rw[br _ rfl]
def yz7(K:z3):V->qi V->Hp->VK->Prop:=λx vs H Q=>∃(sp:Str)(l:z4)(ys:Τ),x=.str sp/\vs=[.ref l]/\SqL K H l (ys.map V.str)/\(ys.map (·.length)).sum+ys.length*sp.length<=1000000/\Q (.str (Str.join sp ys)) H
def vfz{ys:Τ}{vs:Ο}(h:wz (ys.map V.str) vs):StrsAre vs ys:=by
 induction ys generalizing vs with
 |nil=>cases h;exact .nil
 |cons c cs ih =>
  cases h with
  |cons r t =>
   let⟨u,rfl⟩:=r;exact .cons _ _ (ih t)
def Ą:MtR X "str.join" (yz7 X.K):=by
 intro b s σ H x A v w Q I c j h;let⟨g,l,ys,rfl,rfl,p,z,q⟩:=h;let⟨t,rfl⟩:=c;let⟨u,rfl,m⟩:=j.one;cases m;let⟨e,r,⟨o,n,d,f,y,i⟩,_⟩:=I.list p;refine join_list (ys:=ys) ⟨o,d,f,n,i⟩ (vfz r) ?_ λa k=>⟨.str (Str.join g ys),H,I.tok _,⟨a,?_⟩,q⟩
 .have:sizeLine ≥ 1000000:=∅
  omega
 .show Value.str (Builtin.Str.glued _ _) a=_;rw[StrLaws.glued_eq_join]
end
noncomputable def jL(c:Nat):qi (qi Nat)->qi Nat
 |[]=>[]
 |[w]=>w
 |w::v::r=>w++c::jL c (v::r)
theorem Ù(c:Nat):∀ws:Τ,(Str.join ⟨#[c]⟩ ws).cps.toList=jL c (ws.map λw=>w.cps.toList)
 |[]=>rfl
 |[w]=>rfl
 |w::v::r=>by
  show (w++⟨#[c]⟩++Str.join ⟨#[c]⟩ (v::r)).cps.toList=w.cps.toList++c::jL c ((v::r).map λw=>w.cps.toList);rw[Str.cps_append,Str.cps_append,Array.toList_append,Array.toList_append,Ù c (v::r),bW];rfl
theorem yer{c:Nat}{x y:qi Nat}:∀{a b:qi Nat},c∉a->c∉b->a++c::x=b++c::y->a=b/\x=y
 |[],[],_,_,e=>⟨rfl,(List.cons.inj e).2⟩
 |[],d::b,_,hb,e=>absurd (by rw[(List.cons.inj e).1];exact bN) hb
 |d::a,[],ha,_,e=>absurd (by rw[<- (List.cons.inj e).1];exact bN) ha
 |d::a,f::b,ha,hb,e=>by
  let⟨g,i⟩:=List.cons.inj e;let⟨h,j⟩:=yer (λz=>ha (bM _ z)) (λz=>hb (bM _ z)) i;exists by rw[g,h],j
theorem yqc{c:Nat}:∀{as bs:qi (qi Nat)},as≠[]->bs≠[]->(∀a∈as,c∉a)->(∀b∈bs,c∉b)->jL c as=jL c bs->as=bs
 |[],_,h,_,_,_,_=>absurd rfl h
 |_,[],_,h,_,_,_=>absurd rfl h
 |[a],[b],_,_,_,_,e=>by rw[show a=b from e]
 |[a],b::d::r,_,_,ha,_,e=>absurd (by rw[show a=b++c::jL c (d::r)from e];simp) (ha a bN)
 |a::d::r,[b],_,_,_,hb,e=>absurd (by rw[show b=a++c::jL c (d::r)from e.symm];simp) (hb b bN)
 |a::d::r,b::f::q,_,_,ha,hb,e=>by
  let⟨i,j⟩:=yer (ha a bN) (hb b bN) (show a++c::jL c (d::r)=b++c::jL c (f::q)from e);rw[i,yqc (List.cons_ne_nil _ _) (List.cons_ne_nil _ _) (λx g=>ha x (bM _ g)) (λx g=>hb x (bM _ g)) j]
def ë{x y:Str}(h:x.cps.toList=y.cps.toList):x=y:=by
 cases x with|mk a =>
 cases y with|mk b =>
 congr 1
 exact Array.toList_inj.mp h
def yf9{c:Nat}{ws:Τ}(hne:ws≠[])(h:∀w∈ws,c∉w.cps.toList):Txt.split (Str.join ⟨#[c]⟩ ws) ⟨#[c]⟩=ws:=by
 have e:=congrArg (λz:Str=>z.cps.toList) (StrLaws.join_split (Str.join ⟨#[c]⟩ ws) ⟨#[c]⟩);simp only[Ù]at e;have f:=yqc ?_ ?_ ?_ ?_ e
 .have d:∀{l m:Τ},(l.map λw=>w.cps.toList)=(m.map λw=>w.cps.toList)->l=m:=by
   intro l
   induction l with
   |nil=>intro m e;cases m with
    |nil=>rfl
    |cons _ _=>cases e
   |cons x l ih=>intro m e;cases m with
    |nil=>cases e
    |cons y m =>
     let⟨k,i⟩:=List.cons.inj e;rw[ë k,ih i]
  exact d f
 .intro z;have:=split_pos (Str.join ⟨#[c]⟩ ws) ⟨#[c]⟩;have n:=congrArg List.length z;rw[ba,List.length_nil]at n;omega
 .intro z;exact hne (List.map_eq_nil_iff.mp z)
 .intro a o;let⟨p,g,rfl⟩:=bg.mp o;exact StrLaws.split_free _ c p g
 .intro b j;let⟨p,g,rfl⟩:=bg.mp j;exact h p g
end L2
namespace MixI
noncomputable def giv(c b:Int):Int:=if b=1 then c else 16777216-c
noncomputable def yn7(x:Int):Nat:=if x == 0 then 0 else x.natAbs.log2+1
def shL(ws cs:Ρ)(b:Int):Ρ:=List.zipWith (λw c=>w*giv c b) ws cs
noncomputable def grL(sh:Ρ):Ρ:=sh.map λs=>31*(sh.length:Int)*s+sh.sum
def tOf(s:Int):Nat:=yn7 s-48
def lrn(ws cs:Ρ)(b:Int):Ρ:=(grL (shL ws cs b)).map λv=>v/2^tOf (grL (shL ws cs b)).sum
noncomputable def vhu(ws cs:Ρ):Int:=(List.zipWith (λw c=>w*c) ws cs).sum
def ylc(ws cs:Ρ):Int:=vhu ws cs/ws.sum
structure WOk(k:Nat)(ws:Ρ):Prop where
 len:ws.length=k
 one:∀w∈ws,1<=w
 top:∀w∈ws,w<281474976710656
structure COk(k:Nat)(cs:Ρ):Prop where
 len:cs.length=k
 lo:∀c∈cs,32768<=c
 hi:∀c∈cs,c<=16744448
def ykv{c b:Int}(h1:32768<=c)(h2:c<=16744448):32768<=giv c b:=by unfold giv;split<;>omega
def yqx{c b:Int}(h1:32768<=c)(h2:c<=16744448):giv c b<=16744448:=by unfold giv;split<;>omega
def ydm{ws cs:Ρ}{b:Int}(h:ws.length=cs.length):(shL ws cs b).length=ws.length:=by unfold shL;rw[List.length_zipWith,<- h];omega
def yjf{sh:Ρ}:(grL sh).length=sh.length:=by unfold grL;rw[ba]
def yt5{k:Nat}{ws cs:Ρ}{b:Int}(hw:WOk k ws)(hc:COk k cs):(lrn ws cs b).length=k:=by unfold lrn;rw[ba,yjf,ydm (by rw[hw.len,hc.len]),hw.len]
theorem Ŏ(m d:Int):∀sh:Ρ,(sh.map λs=>m*s+d).sum=m*sh.sum+sh.length*d
 |[]=>by simp
 |s::r=>by
  simp only[bS,List.sum_cons,Ŏ m d r,bE,Int.natCast_add,Int.natCast_one,Int.mul_add,Int.add_mul];omega
def yub(sh:Ρ):(grL sh).sum=32*(sh.length:Int)*sh.sum:=by unfold grL;rw[Ŏ,Int.mul_assoc,Int.mul_assoc];generalize (sh.length:Int)*sh.sum=x;omega
theorem ykb:∀{l:Ρ},(∀x∈l,0<=x)->0<=l.sum
 |[],_=>by simp
 |a::r,h=>by
  have c:=h a (by simp);have d:=ykb (l:=r) λx b=>h x (by simp[b]);rw[List.sum_cons];omega
theorem yq5:∀{l:Ρ}{y:Int},(∀x∈l,0<=x)->y∈l->y<=l.sum
 |a::r,y,h,hy=>by
  have d:=h a (by simp);have b:∀x∈r,0<=x:=λx c=>h x (by simp[c]);have f:=ykb b;rw[List.sum_cons];rcases bq.mp hy with e|hy
  .omega
  .have:=yq5 b hy;omega
theorem ykh{c:Int}:∀{l:Ρ},(∀x∈l,c<=x)->c*l.length<=l.sum
 |[],_=>by simp
 |a::r,h=>by
  have d:=h a (by simp);have e:=ykh (l:=r) λx b=>h x (by simp[b]);rw[List.sum_cons,bE,Int.natCast_add,Int.natCast_one,Int.mul_add];omega
theorem yqq{c:Int}:∀{l:Ρ},(∀x∈l,x<=c)->l.sum<=c*l.length
 |[],_=>by simp
 |a::r,h=>by
  have d:=h a (by simp);have e:=yqq (l:=r) λx b=>h x (by simp[b]);rw[List.sum_cons,bE,Int.natCast_add,Int.natCast_one,Int.mul_add];omega
theorem yp5{f:Int->Int}{m:Int}:∀{ws cs:Ρ},ws.length=cs.length->(∀w∈ws,0<=w)->(∀c∈cs,m<=f c)->m*ws.sum<=(List.zipWith (λw c=>w*f c) ws cs).sum
 |[],[],_,_,_=>by simp
 |w::r,c::t,h,h1,h2=>by
  have i:=yp5 (f:=f) (m:=m) (ws:=r) (cs:=t) (by simpa using h) (λx b=>h1 x (by simp[b])) λx b=>h2 x (by simp[b]);have a:=ck (h2 c (by simp)) (h1 w (by simp));rw[List.zipWith_cons_cons,List.sum_cons,List.sum_cons,Int.mul_add,Int.mul_comm m w];omega
theorem yri{f:Int->Int}{m:Int}:∀{ws cs:Ρ},ws.length=cs.length->(∀w∈ws,0<=w)->(∀c∈cs,f c<=m)->(List.zipWith (λw c=>w*f c) ws cs).sum<=m*ws.sum
 |[],[],_,_,_=>by simp
 |w::r,c::t,h,h1,h2=>by
  have i:=yri (f:=f) (m:=m) (ws:=r) (cs:=t) (by simpa using h) (λx b=>h1 x (by simp[b])) λx b=>h2 x (by simp[b]);have a:=ck (h2 c (by simp)) (h1 w (by simp));rw[List.zipWith_cons_cons,List.sum_cons,List.sum_cons,Int.mul_add,Int.mul_comm m w];omega
def WOk.pos{k:Nat}{ws:Ρ}(h:WOk k ws)(hk:1<=k):1<=ws.sum:=by have:=ykh (c:=1) h.one;rw[h.len]at this;omega
def WOk.small{k:Nat}{ws:Ρ}(h:WOk k ws)(hk:k<=6):ws.sum<=1688849860263936:=by have:=yqq (c:=281474976710656) λx a=>Int.le_of_lt (h.top x a);rw[h.len]at this;omega
def ye9{k:Nat}{ws cs:Ρ}(hk:1<=k)(hw:WOk k ws)(hc:COk k cs):32768<=ylc ws cs/\ylc ws cs<=16744448:=by
 have e:ws.length=cs.length:=by rw[hw.len,hc.len]
 have d:∀w∈ws,0<=w:=λw h=>by have:=hw.one w h;omega
 have p:=hw.pos hk;have a:=yp5 (f:=λc=>c) e d hc.lo;have b:=yri (f:=λc=>c) e d hc.hi;unfold ylc vhu;exists(Int.le_ediv_iff_mul_le ()).mpr a,Int.le_of_lt_add_one ((Int.ediv_lt_iff_lt_mul ()).mpr (by rw[Int.add_mul];omega))
def yes(t:Nat):(2:Int)^t=((2^t:Nat):Int):=by rw[Int.natCast_pow];rfl
def yuc(t:Nat):(0:Int)<2^t:=by rw[yes];exact Int.natCast_pos.mpr (Nat.pow_pos ∅)
def ywc{s:Int}(h:1<=s):s<281474976710656*2^tOf s/\(tOf s=0\/140737488355328*2^tOf s<=s):=by
 have f:s.natAbs≠0:=()
 have e:(s.natAbs:Int)=s:=()
 have a:=Nat.log2_self_le f;have b:=@Nat.lt_log2_self s.natAbs;unfold tOf yn7;rw[if_neg (by simp;omega)];generalize s.natAbs.log2=L at a b⊢;rcases Nat.lt_or_ge L 48 with q|q
 .have z:L+1-48=0:=()
  rw[z];exists ?_,.inl rfl;have:2^(L+1)<=2^48:=Nat.pow_le_pow_right ∅ ();have c:(2:Nat)^48=281474976710656:=∅
  rw[c]at this;rw[<- e,Int.pow_zero,Int.mul_one];omega
 .obtain⟨t,rfl⟩:∃t,L=47+t:=⟨L-47,()⟩;have z:47+t+1-48=t:=()
  rw[z,yes];have d:(2:Nat)^(47+t)=140737488355328*2^t:=by rw[Nat.pow_add]
  have c:(2:Nat)^(47+t+1)=281474976710656*2^t:=by rw[show 47+t+1=48+t by omega,Nat.pow_add]
  rw[d]at a;rw[c]at b;generalize 2^t=T at a b⊢;exists by omega,.inr ()
section
variable{k:Nat}{ws cs:Ρ}{b:Int}
def yt4(hw:WOk k ws)(hc:COk k cs):∀s∈shL ws cs b,1<=s:=by intro s a;unfold shL at a;rw[List.mem_iff_getElem]at a;let⟨i,e,rfl⟩:=a;rw[List.length_zipWith]at e;rw[List.getElem_zipWith];have c:=hw.one ws[i] (bV _);have d:=ykv (b:=b) (hc.lo cs[i] (bV _)) (hc.hi cs[i] (bV _));have:=Int.mul_le_mul c d ∅ ();omega
def yxh{sh:Ρ}(h:∀s∈sh,1<=s):∀v∈grL sh,sh.sum<=v/\v<=(grL sh).sum/\0<=v:=by
 have e:=ykb (l:=sh) λx c=>by have:=h x c;omega
 have a:∀v∈grL sh,sh.sum<=v:=λv a=>by
  unfold grL at a;let⟨s,d,rfl⟩:=bg.mp a;have:=h s d;have:0<=31*(sh.length:Int)*s:=Int.mul_nonneg (Int.mul_nonneg ∅ (Int.natCast_nonneg _)) ();omega
 exact λv b=>⟨a v b,yq5 (λx c=>by have:=a x c;omega) b,by have:=a v b;omega⟩
def ypj(hk:1<=k)(hk6:k<=6)(hw:WOk k ws)(hc:COk k cs):WOk k (lrn ws cs b):=by
 have j:(shL ws cs b).length=k:=by rw[ydm (by rw[hw.len,hc.len]),hw.len]
 have f:=yt4 (b:=b) hw hc
 have q:1<=(shL ws cs b).sum:=by
  have:=ykh (c:=1) f;rw[j]at this;omega
 have g:=yxh f;have d:=yub (shL ws cs b);rw[j]at d
 have l:1<=(grL (shL ws cs b)).sum:=by
  rw[d];have:32*(k:Int)*1<=32*(k:Int)*(shL ws cs b).sum:=ck q ();omega
 have o:(grL (shL ws cs b)).sum<=192*(shL ws cs b).sum:=by
  rw[d];exact ce () ()
 let⟨r,a⟩:=ywc l;have i:=yuc (tOf (grL (shL ws cs b)).sum);exists yt5 hw hc,λw h=>?_,λw h=>?_
 .obtain⟨v,e,rfl⟩:=bg.mp h;let⟨n,m,p⟩:=g v e;refine(Int.le_ediv_iff_mul_le i).mpr ?_;rcases a with a|a
  .rw[a,Int.pow_zero];omega
  .generalize (2:Int)^tOf (grL (shL ws cs b)).sum=T at*;omega
 .obtain⟨v,e,rfl⟩:=bg.mp h;let⟨n,m,p⟩:=g v e;exact(Int.ediv_lt_iff_lt_mul i).mpr ()
def yir{g:Int->Int->Int}{ws cs:Ρ}(h:cs.length=ws.length):(List.range ws.length).map (λi=>g ((ws[i]?).getD 0) ((cs[i]?).getD 0))=List.zipWith g ws cs:=by
 apply List.ext_getElem
 .rw[ba,bQ,List.length_zipWith];omega
 .intro i a b;rw[ba,bQ]at a;rw[cC,List.getElem_range,List.getElem_zipWith,bc a,bc ()];rfl
end
end MixI
namespace SpanMath
noncomputable def rn(d:Ρ):Nat->Int
 |0=>0
 |k+1=>rn d k*256+(d[k]?).getD 0
def Byt(d:Ρ):Prop:=∀x∈d,0<=x/\x<=255
def vak{d:Ρ}(h:Byt d)(k:Nat):0<=(d[k]?).getD 0/\(d[k]?).getD 0<=255:=by
 cases e:d[k]? with
 |none=>exists by decide,∅
 |some x=>exact h x (bB e)
theorem yko{d:Ρ}(h:Byt d)(k:Nat):∀r,∃q,rn d (k+r)=rn d k*pw r+q/\0<=q/\q<pw r
 |0=>⟨0,by show rn d k=rn d k*1+0;omega,∅,∅⟩
 |r+1=>by
  let⟨q,e,b,f⟩:=yko h k r;let⟨a,c⟩:=vak h (k+r);exists q*256+(d[k+r]?).getD 0,?_,(),?_
  .show rn d (k+r)*256+(d[k+r]?).getD 0=rn d k*(pw r*256)+_;rw[e,<- Int.mul_assoc,Int.add_mul,Int.add_assoc]
  .show _<pw r*256;omega
def ylx{d:Ρ}(h:Byt d)(k r:Nat)(l w':Int):(l*pw r<=rn d (k+r)/\rn d (k+r)<l*pw r+w'*pw r)↔(l<=rn d k/\rn d k<l+w'):=by
 let⟨q,e,f,g⟩:=yko h k r;have c:=zz r;rw[e,<- Int.add_mul];generalize rn d k=v;generalize pw r=p at c f g⊢
 constructor
 .rintro ⟨a,b⟩
  constructor
  .refine Int.le_of_lt_add_one (Int.lt_of_mul_lt_mul_right (a:=p) ?_ (Int.le_of_lt c));rw[Int.add_mul,Int.one_mul];omega
  .refine Int.lt_of_mul_lt_mul_right (a:=p) ?_ (Int.le_of_lt c);omega
 .rintro ⟨a,b⟩;have j:=ce a (Int.le_of_lt c);have i:=ce (show v+1<=l+w' by omega) (Int.le_of_lt c);rw[Int.add_mul v 1 p,Int.one_mul]at i;omega
structure InS(d:Ρ)(x:Sn):Prop where
 lo:x.1<=rn d (sz x)
 hi:rn d (sz x)<x.1+x.2.1
def vcr(l w' s':Int):∃r:Nat,ren l w' s'=(l*pw r,w'*pw r,s'+r):=by
 unfold ren
 split
 .split
  .exact⟨2,rfl⟩
  .exact⟨1,rfl⟩
 .refine⟨0,?_⟩;show (l,w',s')=(l*1,w'*1,s'+0);rw[Int.mul_one,Int.mul_one,Int.add_zero]
def yrx{d:Ρ}(h:Byt d){l w' s':Int}(hs:0<=s'):InS d (ren l w' s')↔(l<=rn d s'.toNat/\rn d s'.toNat<l+w'):=by
 let⟨r,e⟩:=vcr l w' s';rw[e]
 have c:sz (l*pw r,w'*pw r,s'+r)=s'.toNat+r:=by
  show (s'+(r:Int)).toNat=s'.toNat+r;omega
 rw[<- ylx h s'.toNat r l w']
 constructor
 .rintro ⟨a,b⟩;rw[c]at a b;exists a,b
 .rintro ⟨a,b⟩;exists by rw[c];exact a,by rw[c];exact b
def Ā(d:Ρ)(x:Sn)(c:Int):Int:=if rn d (sz x)<x.1+cut x.2.1 c then 1 else 0
def ſ(d:Ρ)(x:Sn)(c:Int):Ā d x c=0\/Ā d x c=1:=by
 unfold Ā
 split
 .exact .inr rfl
 .exact .inl rfl
def ysg{d:Ρ}(hd:Byt d){x:Sn}{c b:Int}(h:OkS x)(hc:Ch c)(hb:b=0\/b=1)(i:InS d (nar x c b)):InS d x/\b=Ā d x c:=by
 have j:=h.ok.z;let⟨k,f,g⟩:=ycc h.ok.w0 h.ok.w1 hc;unfold nar at i;rcases hb with rfl|rfl
 .rw[if_neg ∅]at i;let⟨e,a⟩:=(yrx hd ()).mp i;have e:x.1+cut x.2.1 c<=rn d (sz x):=e;have a:rn d (sz x)<x.1+cut x.2.1 c+(x.2.1-cut x.2.1 c):=a;exists⟨(),()⟩,?_;unfold Ā;rw[if_neg ()]
 .rw[if_pos rfl]at i;let⟨e,a⟩:=(yrx hd ()).mp i;have e:x.1<=rn d (sz x):=e;have a:rn d (sz x)<x.1+cut x.2.1 c:=a;exists⟨(),()⟩,?_;unfold Ā;rw[if_pos a]
theorem yp2:∀(k:Nat)(d:Ρ),k<=d.length->rn d k=val (d.take k)
 |0,_,_=>rfl
 |k+1,d,h=>by
  have a:k<d.length:=()
  have e:d.take (k+1)=d.take k++[d[k]]:=by rw[List.take_succ,bc a];rfl
  rw[e,ye0,<- yp2 k d ()];show rn d k*256+_=_;rw[bc a];rfl
def yjs{d:Ρ}(hd:Byt d){x:Sn}(h:OkS x)(hl:(tL x).length<=d.length)(hp:d.take (tL x).length=tL x):InS d x:=by
 have g:=yvm h
 have f:rn d (sz x-tK x)=tCn x:=by
  rw[<- yka x,yp2 _ _ hl,hp,yxk h]
 let⟨q,b,i,j⟩:=yko hd (sz x-tK x) (tK x);have e:sz x-tK x+tK x=sz x:=()
 rw[e,f]at b;have a:=yat h.ok;have c:=(yp4 x.1 (zz (tK x))).1;unfold hold at a;have a:(tCn x+1)*pw (tK x)<=x.1+x.2.1:=a;have c:x.1<=tCn x*pw (tK x):=c;rw[Int.add_mul,Int.one_mul]at a;exists by rw[b];omega,by rw[b];omega
end SpanMath
namespace Law
local macro_rules | `(tactic| ext)=>`(tactic| walk_at "rd")
local macro_rules | `(tactic| right)=>`(tactic| decide +kernel)
open PySem L2
set_option genInjectivity false
set_option genSizeOf false
set_option hygiene true in
local macro_rules | `(tactic| exists $n:num,$s:str)=>do
 let ts<-((s.getString.splitOn " ").map fun x=>Lean.mkIdent (((if n.getNat<4 then `_root_.Law else `_root_.L2) ++ x.toName:Lean.Name))).toArray.mapM fun x=>match n.getNat%4 with
  | 0=>`(Lean.Parser.Tactic.tacticSeq| refine $x ?_)
  | 1=>`(Lean.Parser.Tactic.tacticSeq| (with_reducible refine' $x (by assumption) ?q ?_; (case q=>first | assumption | exact ya)))
  | 2=>`(Lean.Parser.Tactic.tacticSeq| (with_reducible refine' $x ?q ?_; (case q=>first | assumption | exact ya)))
  | _=>`(Lean.Parser.Tactic.tacticSeq| (with_reducible refine' $x ?q ?n ?_; (case q=>first | assumption | exact ya); (case n=>with_unfolding_all decide +kernel)))
 `(tactic| first $[| $ts:tacticSeq]*)
local macro_rules | `(tactic| exists $n:num,$m:num)=>do
 let xs:=Array.replicate n.getNat (<-`(some _))++Array.replicate m.getNat (<-`(none))
 `(tactic| (try dsimp only [vt]; refine yj (σ':=[$xs,*]) rfl ?_))
local macro_rules | `(tactic| exists $h:ident,$a:ident,$b:ident,$c:ident)=>`(tactic| with_reducible first | refine yq $h fun $a $b $c=>?_ | refine y6 $h fun $a $b $c=>?_)
local macro_rules | `(tactic| exists $n:num,$m:num,$t)=>`(tactic| (refine ⟨_,$t,?_⟩;exists $n,$m;ext))
local macro_rules | `(tactic| left)=>`(tactic| first | (cases h; subst_vars; rfl) | repeat first | (obtain ⟨e,_⟩:=h; subst e; rfl) | obtain ⟨_,h⟩:=h)
local macro_rules | `(tactic| exists $a:ident,$b:ident,$c:ident)=>`(tactic| (refine $a $b (fun ϟ H Q E h=>?_) (fun ϟ A ϟ s H ϟ Q E $c h=>?_); left))
local macro_rules | `(tactic| walk_at "side")=>`(tactic| first | exact ⟨∅,∅⟩ | (show (0:Int) < _; first | decide | omega) | exact Or.inl ⟨(),()⟩ | exact Or.inr ⟨(),()⟩ | exact ⟨(),()⟩ | exact ⟨∅,∅,∅⟩)
local macro_rules | `(tactic| walk_at "len")=>`(tactic| first | decide | (simp only [bE,List.length_nil]; decide))
local macro_rules | `(tactic| walk_at "rd1")=>`(tactic| with_reducible first
 | exists 4,"vim vf8 yzr vat"
 | ((fail_if_success constructor); walk_at "rd2"))
local macro_rules | `(tactic| walk_at "o")=>`(tactic| refine yok fun ϟ ϟ ϟ ϟ ϟ ϟ=>?_)
set_option hygiene true in
local macro_rules | `(tactic| walk_at "rd2")=>`(tactic| with_reducible first
 | walk_at "o"
 | refine ylg (by assumption) ?_
 | (refine' yvo ?rdv ?_; (case rdv=>with_unfolding_all rfl))
 | exists 4,"i_c vih vil yws vh4 via vgk vfc va5 va7 yzv yvc yap yui ys8 yxr vfb vie vff yue van vam vfj vh5 vf5 vfk vgb vge ĭ yzg vir ve9 vgi vai vid ylz yyw vij i_U g0 g1 g2 g3 g4 g5 g6 g7 g8 yth ywg ν jc ve6 vf0 ve7 yu6 yzb ytk yuk yuz yys yto yyo yun va0 yu4 ytc ysb ytj ymb yts va6 vf4 ymv yw1 ys9 ysc"
 | (refine' i_shlC ?rdp ?rdq ?_; (case rdp=>with_unfolding_all exact ⟨∅,∅,∅⟩); (case rdq=>with_unfolding_all decide))
 | (refine' i_powC ?rdp ?rdq ?_; (case rdp=>with_unfolding_all exact ⟨∅,∅,∅⟩); (case rdq=>with_unfolding_all decide))
 | (refine i_I ?rdc ?_; (case rdc=>with_unfolding_all walk_at "side")))
local macro_rules | `(tactic| walk_at "rd")=>`(tactic| repeat walk_at "rd1")
variable{D c' cl cl' ct' dc dq ds md q st tl y:z4}{U U' W' W2:Ν}{L M:Η}{ts xs:Ρ}{i j m':Nat}{tp:Μ}{O O' O2:Β}{bt:Nat->Int}{R:Prop}{tu:Str->z4}
noncomputable def top(i:Nat):qc:=PySem.Challenge.pw_foretell_k53_desk_deeds.main.body.getD i (.Pass ⟨0,0,0,0⟩)
abbrev vhr:qc:=top 23
abbrev vhd:qc:=top 24
abbrev vg4:qc:=top 25
abbrev vg9:qc:=top 26
abbrev vhs:qc:=top 27
abbrev vhx:qc:=top 28
abbrev vhe:qc:=top 29
abbrev vhg:qc:=top 30
abbrev vhm:qc:=top 31
abbrev veg:qc:=top 32
abbrev vbj:qc:=top 33
abbrev vej:qc:=yw (top 38) 0
abbrev vci:qc:=yw (top 38) 1
abbrev vem:qc:=yw (top 38) 2
abbrev vbh:qc:=yw (top 38) 3
abbrev vbe:qc:=yw (top 39) 0
abbrev vcu:qc:=yw (top 39) 1
abbrev vdi:qc:=yw (top 39) 2
abbrev vdt:qc:=yw (top 39) 3
abbrev vdw:qc:=yw (top 40) 0
abbrev vcx:qc:=yw (top 40) 1
abbrev vco:qc:=yw (top 40) 2
abbrev ved:qc:=yw (top 40) 3
abbrev vb0:qc:=top 41
abbrev vek:qc:=top 46
abbrev vb2:qc:=top 47
abbrev vdb:qc:=yw (top 48) 0
abbrev vb7:qc:=yw (top 48) 2
abbrev vc7:qc:=yw (top 48) 3
abbrev vbn:qc:=yw (top 48) 5
abbrev vcn:qc:=yw (top 48) 6
abbrev vbp:qc:=top 54
abbrev vec:qc:=top 55
abbrev veh:qc:=top 56
abbrev vb4:qc:=top 57
abbrev vd4:qc:=top 58
abbrev vdz:qc:=top 59
abbrev vc9:qc:=top 60
abbrev vel:qc:=yw (top 61) 0
abbrev vcl:qc:=yw (top 61) 2
abbrev vbm:qc:=yw (top 61) 4
abbrev vdd:qc:=yw (top 66) 0
abbrev vdq:qc:=yw (top 66) 2
abbrev vcf:qc:=yw (top 66) 3
abbrev vdr:qc:=yw (top 66) 4
abbrev vdp:qc:=yw (top 69) 0
abbrev vbk:qc:=yw (top 69) 1
abbrev vcq:qc:=yw (top 69) 2
abbrev vei:qc:=yw (top 69) 3
abbrev vd0:qc:=yw (top 69) 7
abbrev vch:qc:=yw (top 69) 8
abbrev vcc:qc:=yw (top 69) 9
abbrev vc4:qc:=yw (top 69) 10
abbrev vd1:qc:=top 72
abbrev vbt:qc:=top 73
abbrev ven:qc:=yw (top 75) 0
abbrev vdv:qc:=yw (top 75) 1
abbrev vcj:qc:=yw (top 75) 2
abbrev vdl:qc:=yw (top 75) 3
abbrev vc6:qc:=yw (top 75) 5
abbrev vbu:qc:=top 78
abbrev vdf:qc:=top 79
abbrev vbf:qc:=top 80
abbrev vbo:qc:=top 81
abbrev vc0:qc:=top 82
abbrev vbl:qc:=top 84
abbrev vb8:qc:=top 85
abbrev vcb:qc:=top 86
abbrev vcd:qc:=top 87
abbrev vct:qc:=top 88
abbrev vbr:qc:=top 89
abbrev vbs:qc:=yw (top 91) 0
abbrev vd9:qc:=yw (top 91) 1
abbrev vd6:qc:=yw (top 91) 2
abbrev vce:qc:=yw (top 91) 3
abbrev vbg:qc:=yw (top 91) 4
abbrev vdu:qc:=top 96
abbrev vc8:qc:=top 97
abbrev vdm:qc:=top 98
abbrev vcm:qc:=yw (top 99) 0
abbrev vbi:qc:=yw (top 100) 0
abbrev vdg:qc:=yw (top 100) 1
abbrev vdk:qc:=yw (top 100) 2
abbrev vea:qc:=yw (top 100) 3
abbrev vc1:qc:=yw (top 100) 4
abbrev vb9:qc:=yw (top 100) 6
abbrev veo:qc:=yw (top 100) 7
abbrev vca:qc:=yw (top 100) 8
abbrev vdn:qc:=yw (top 100) 9
abbrev vb3:qc:=yw (top 100) 10
abbrev vbd:qc:=yw (top 100) 11
abbrev vbw:qc:=yw (top 100) 12
abbrev veb:qc:=yw (top 100) 13
abbrev vda:qc:=yw (top 100) 14
abbrev vep:qc:=yw (top 100) 15
abbrev vbv:qc:=yw (top 100) 16
abbrev vd2:qc:=yw (top 100) 17
abbrev vd7:qc:=top 103
abbrev vbx:qc:=top 104
abbrev yqf:qc:=top 105
abbrev yox:qc:=top 106
abbrev yq7:qc:=top 108
abbrev yp7:qc:=top 113
abbrev yow:qc:=top 114
abbrev yqh:qc:=top 115
abbrev yrw:qc:=yw (top 116) 0
abbrev yrs:qc:=yw (top 116) 1
abbrev yq9:qc:=yw (top 116) 2
abbrev ypu:qc:=yw (top 116) 3
abbrev ypi:qc:=yw (top 116) 4
abbrev yrl:qc:=yw (top 116) 5
abbrev yor:qc:=top 118
abbrev yqt:qc:=top 119
abbrev yqz:qc:=top 120
abbrev yoj:qc:=top 121
abbrev ypm:qc:=top 122
abbrev yop:qc:=top 123
abbrev yre:qc:=top 124
abbrev ypw:qc:=top 125
abbrev yqo:qc:=top 126
abbrev you:qc:=top 127
abbrev vbc:qc:=top 128
set_option genInjectivity false in
set_option genSizeOfSpec false in
structure Ads where
 {Rf Rg Rh Ri Rj Rk Rl Rm Rn L9 La Ge Lb Lc Ld Gf Le Lf Lg Gg Lh Li Lj Lk Ll Lm Gh Ln Lo Lp Lq Lr Ls Lt Lu Lv Lx Ly Gi Lz M0 Gj M4 M5 M6 Gk M7 M8 M9 Ma Mb Mc Md Me Mf Gm Mg Mh Mi Mj Ml Mm Mn Gn Ro Gp Rp Mo Gq Rq Mq Mr Ms Mt Gr Mu Mv Mw Mx My Mz N2 Gs Gt Rr N3 N4 N5 Gu Rs N6 N7 N8 N9 Na Nd Nf Ng Nh Ni Nj Nk Nl Nm Gv Gw Gy Gz Ha Hb Eu R1 Hc Hd He Hf Hg Hh Hi Hj Hk Hl Hm Hn Ho Hq Hr Nn Ab A9 Af Ac Bp A3 A6 Ai A2 Aa A0 Ah Kp Hs Bx Ev Bm Ht Hu Aj Am Aw Dl A4 Bk Fq Hv Cb Bl Bd:z4}
 {Rt Ru Rv Rw Rx Ry Rz Sa Sb No Np Nq Nr Nt Nu Nv Nw Ny Nz O0 O4 O5 O6 O7 O8 O9 Oa Ob Oc Od Oe Of Og Oh Oi Oj Ol Om On Oo Op Oq Os Ot Ou Ov Ow Ox Oy Oz P0 P1 P3 P4 P5 P6 P7 P8 P9 Pa Pb Pe Pf Fe Ff Pg Fg Ph Pi Pj Pk Pl Pm Pn Po Pp Pq Pr Ps Pt Fh Pu Pv Pw Fi Px Py Pz Q1 Q2 Q3 Q4 Q5 Q6 Q7 Q8 Q9 Qa Qc Hw Hx Hy Hz I0 I1 Dm I2 I3 I4 I5 I6 I7 I8 I9 Ia Ib Ic Ie If Ig Ih Ii:FuncData}
 {Ij Fr Kq Sc Dn Do Co D5 Dp D6 Ew D7 Dq Fs Cp Dw Cq Dx By Cr Ft D8 Dr Cs Fu R3 Ex Ey Ez Dy Dz E4 E5 E6 E7 E8 E9:Tok}
 {Fv:qj z4}
 {Ik Fw:Nat}
 {Il Fx:Array (qj qb)}
variable{a:Ads}
structure Txt(K:z3)(mg:Ε)(a:Ads):Prop where
 Fz:Dff K mg "is_whole" vhr ["thing"] a.Rf a.Rt
 Se:Dff K mg "is_bit" vhd ["thing"] a.Rg a.Ru
 Sf:Dff K mg "is_chance" vg4 ["thing"] a.Rh a.Rv
 Sh:Dff K mg "is_sign" vg9 ["thing"] a.Ri a.Rw
 R4:Dff K mg "is_list_of_signs" vhs ["thing","most"] a.Rj a.Rx
 F0:Dff K mg "checked_text" vhx ["thing"] a.Rk a.Ry
 Si:Dff K mg "checked_bytes" vhe ["thing"] a.Rl a.Rz
 Sj:Dff K mg "check_most" vhg ["thing"] a.Rm a.Sa
 Kr:Dff K mg "check_chance" vhm ["thing"] a.Rn a.Sb
 Ci:Dff K mg "check_bit" veg ["thing"] a.L9 a.No
 Im:Dff K mg "gives" vbj ["chance","bit"] a.La a.Np
 Io:Dfm K a.Ab "__init__" "Even.__init__" vej ["self"] a.Ge a.Nq
 Ip:Dfm K a.Ab "chance" "Even.chance" vci ["self"] a.Lb a.Nr
 Iq:Dfm K a.Ab "seen" "Even.seen" vem ["self","bit"] a.Lc a.Nt
 Ir:Dfm K a.Ab "twin" "Even.twin" vbh ["self"] a.Ld a.Nu
 Is:Dfm K a.A9 "__init__" "Quick.__init__" vbe ["self"] a.Gf a.Nv
 Iu:Dfm K a.A9 "chance" "Quick.chance" vcu ["self"] a.Le a.Nw
 Iv:Dfm K a.A9 "seen" "Quick.seen" vdi ["self","bit"] a.Lf a.Ny
 Iw:Dfm K a.A9 "twin" "Quick.twin" vdt ["self"] a.Lg a.Nz
 Ix:Dfm K a.Af "__init__" "Run.__init__" vdw ["self"] a.Gg a.O0
 Iy:Dfm K a.Af "chance" "Run.chance" vcx ["self"] a.Lh a.O4
 Iz:Dfm K a.Af "seen" "Run.seen" vco ["self","bit"] a.Li a.O5
 J0:Dfm K a.Af "twin" "Run.twin" ved ["self"] a.Lj a.O6
 Qd:Dff K mg "slot_of" vb0 ["kind"] a.Lk a.O7
 J1:Dff K mg "written" vek ["number","size"] a.Ll a.O8
 J2:Dff K mg "first_block" vb2 ["low","unit"] a.Lm a.O9
 J3:Dfm K a.A6 "__init__" "Span.__init__" vdb ["self"] a.Gh a.Oa
 Ea:Dfm K a.A6 "cut" "Span.cut" vb7 ["self","chance"] a.Ln a.Ob
 Eb:Dfm K a.A6 "narrow" "Span.narrow" vc7 ["self","chance","bit"] a.Lo a.Oc
 J4:Dfm K a.A6 "holds_block" "Span.holds_block" vbn ["self","unit"] a.Lp a.Od
 Ec:Dfm K a.A6 "told" "Span.told" vcn ["self"] a.Lq a.Oe
 Qe:Dff K mg "is_kind" vbp ["thing"] a.Lr a.Of
 Qf:Dff K mg "is_place" vec ["thing"] a.Ls a.Og
 Qg:Dff K mg "are_places" veh ["thing"] a.Lt a.Oh
 J5:Dff K mg "is_look" vb4 ["thing"] a.Lu a.Oi
 J6:Dff K mg "checked_looks" vd4 ["thing"] a.Lv a.Oj
 Qh:Dff K mg "sign_back" vdz ["signs","place"] a.Lx a.Ol
 Qi:Dff K mg "context_of" vc9 ["look","signs","node"] a.Ly a.Om
 J7:Dfm K a.Ac "__init__" "Book.__init__" vel ["self","look"] a.Gi a.On
 J8:Dfm K a.Ac "slot_at" "Book.slot_at" vcl ["self","signs","node"] a.Lz a.Oo
 J9:Dfm K a.Ac "twin" "Book.twin" vbm ["self"] a.M0 a.Op
 Ja:Dfm K a.Bp "__init__" "Mixer.__init__" vdd ["self","many"] a.Gj a.Oq
 Jb:Dfm K a.Bp "mixed" "Mixer.mixed" vdq ["self","chances"] a.M4 a.Os
 Jc:Dfm K a.Bp "learn" "Mixer.learn" vcf ["self","chances","bit"] a.M5 a.Ot
 Jd:Dfm K a.Bp "twin" "Mixer.twin" vdr ["self"] a.M6 a.Ou
 Ed:Dfm K a.A3 "__init__" "Foreteller.__init__" vdp ["self","looks"] a.Gk a.Ov
 Ct:Dfm K a.A3 "arrive" "Foreteller.arrive" vbk ["self"] a.M7 a.Ow
 Cu:Dfm K a.A3 "chances" "Foreteller.chances" vcq ["self"] a.M8 a.Ox
 Cv:Dfm K a.A3 "chance" "Foreteller.chance" vei ["self"] a.M9 a.Oy
 Bz:Dfm K a.A3 "see" "Foreteller.see" vd0 ["self","bit"] a.Ma a.Oz
 Je:Dfm K a.A3 "step" "Foreteller.step" vch ["self","bit"] a.Mb a.P0
 Jf:Dfm K a.A3 "step_in_sign" "Foreteller.step_in_sign" vcc ["self","bit"] a.Mc a.P1
 Jg:Dfm K a.A3 "fork" "Foreteller.fork" vc4 ["self"] a.Md a.P3
 Qj:Dff K mg "bits_of" vd1 ["sign"] a.Me a.P4
 Fj:Dff K mg "decisions_of" vbt ["text"] a.Mf a.P5
 Qk:Dfm K a.Ai "__init__" "Seeker.__init__" ven ["self","data"] a.Gm a.P6
 Ee:Dfm K a.Ai "follow" "Seeker.follow" vdv ["self"] a.Mg a.P7
 Jh:Dfm K a.Ai "byte_at" "Seeker.byte_at" vcj ["self","place"] a.Mh a.P8
 Ji:Dfm K a.Ai "bit" "Seeker.bit" vdl ["self","chance"] a.Mi a.P9
 Jj:Dfm K a.Ai "told" "Seeker.told" vc6 ["self"] a.Mj a.Pa
 Jk:Dff K mg "checked_learned" vbu ["thing"] a.Ml a.Pb
 Jl:Dff K mg "teach" vdf ["foreteller","texts"] a.Mm a.Pe
 Ql:Dff K mg "rows_of" vbf ["looks","text","learned"] a.Mn a.Pf
 Qm:ylj K "foretold" "foretold" vbo a.Ro a.Gn a.Fe
 Te:ul K a.Fe ["looks","text","learned"] [.none]
 Sk:ul K a.Fe ["looks","text","learned"] []
 Sl:mg "foretold"=some (.ref a.Gn)
 Jm:ylj K "cost" "cost" vc0 a.Rp a.Gp a.Ff
 Tf:ul K a.Ff ["looks","text","learned"] [.none]
 Qn:ul K a.Ff ["looks","text","learned"] []
 Qo:mg "cost"=some (.ref a.Gp)
 Fk:Dff K mg "press_by" vbl ["foreteller","text"] a.Mo a.Pg
 Fl:ylj K "pressed" "pressed" vb8 a.Rq a.Gq a.Fg
 Tg:ul K a.Fg ["looks","text","learned"] [.none]
 Jn:ul K a.Fg ["looks","text","learned"] []
 Jo:mg "pressed"=some (.ref a.Gq)
 Jp:Dff K mg "bit_by" vcb ["foreteller","seeker"] a.Mq a.Ph
 Qp:Dff K mg "sign_by" vcd ["foreteller","seeker"] a.Mr a.Pi
 Qq:Dff K mg "text_by" vct ["foreteller","seeker","most"] a.Ms a.Pj
 Qr:Dff K mg "read_by" vbr ["foreteller","data","most"] a.Mt a.Pk
 Ef:Dfm K a.A2 "__init__" "Chain.__init__" vbs ["self","looks"] a.Gr a.Pl
 Eg:Dfm K a.A2 "grow" "Chain.grow" vd9 ["self","name","text"] a.Mu a.Pm
 Jq:Dfm K a.A2 "press" "Chain.press" vd6 ["self","name","text"] a.Mv a.Pn
 Jr:Dfm K a.A2 "read" "Chain.read" vce ["self","name","data","most"] a.Mw a.Po
 Eh:Dfm K a.A2 "size_with" "Chain.size_with" vbg ["self","text"] a.Mx a.Pp
 Qt:Dff K mg "is_name" vdu ["thing"] a.My a.Pq
 Fm:Dff K mg "checked_name" vc8 ["thing"] a.Mz a.Pr
 Qu:Dff K mg "check_base" vdm ["thing"] a.N2 a.Ps
 Qv:Dfm K a.Aa "__init__" "Piece.__init__" vcm ["self","base","data"] a.Gs a.Pt
 Sm:ylj K "__init__" "Store.__init__" vbi a.Rr a.Gt a.Fh
 Th:ul K a.Fh ["self","looks","most"] [.int 1000 a.Ij]
 So:ul K a.Fh ["self","looks","most"] []
 Ei:Dfm K a.A0 "told_looks" "Store.told_looks" vdg ["self"] a.N3 a.Pu
 Js:Dfm K a.A0 "most_signs" "Store.most_signs" vdk ["self"] a.N4 a.Pv
 C0:Dfm K a.A0 "names" "Store.names" vea ["self"] a.N5 a.Pw
 Sq:ylj K "put" "Store.put" vc1 a.Rs a.Gu a.Fi
 Ti:ul K a.Fi ["self","name","text","base"] [.none]
 Sr:ul K a.Fi ["self","name","text","base"] []
 Ss:Meth K a.A0 "put" a.Gu
 Ej:Dfm K a.A0 "check_length" "Store.check_length" vb9 ["self","text"] a.N6 a.Px
 Jt:Dfm K a.A0 "check_room" "Store.check_room" veo ["self","name","base"] a.N7 a.Py
 Au:Dfm K a.A0 "piece_at" "Store.piece_at" vca ["self","name"] a.N8 a.Pz
 Ek:Dfm K a.A0 "links_to" "Store.links_to" vdn ["self","name"] a.N9 a.Q1
 C1:Dfm K a.A0 "chain_to" "Store.chain_to" vb3 ["self","name"] a.Na a.Q2
 El:Dfm K a.A0 "texts_to" "Store.texts_to" vbd ["self","name"] a.Nd a.Q3
 Em:Dfm K a.A0 "text_of" "Store.text_of" vbw ["self","name"] a.Nf a.Q4
 En:Dfm K a.A0 "bytes_of" "Store.bytes_of" veb ["self","name"] a.Ng a.Q5
 Eo:Dfm K a.A0 "base_of" "Store.base_of" vda ["self","name"] a.Nh a.Q6
 Ju:Dfm K a.A0 "learned_of" "Store.learned_of" vep ["self","name"] a.Ni a.Q7
 Jv:Dfm K a.A0 "drop" "Store.drop" vbv ["self","name"] a.Nj a.Q8
 Jw:Dfm K a.A0 "best_base" "Store.best_base" vd2 ["self","text"] a.Nk a.Q9
 Qw:Dff K mg "look_bytes" vd7 ["look"] a.Nl a.Qa
 Qx:Dff K mg "name_bytes" vbx ["name"] a.Nm a.Qc
 Jx:Dff K mg "base_bytes" yqf ["store","name"] a.Gv a.Hw
 Jy:Dff K mg "shelf_of" yox ["store"] a.Gw a.Hx
 Jz:Dff K mg "opened" yq7 ["data"] a.Gy a.Hy
 Cw:Dff K mg "hex_of" yp7 ["signs"] a.Gz a.Hz
 Ds:Dff K mg "signs_by" yow ["word"] a.Ha a.I0
 F6:Dff K mg "shown" yqh ["base"] a.Hb a.I1
 R5:ylj K "__init__" "Desk.__init__" yrw a.R1 a.Eu a.Dm
 Ks:ul K a.Dm ["self","looks","most"] [.int 1000 a.Fr]
 R6:ul K a.Dm ["self","looks","most"] []
 An:Dfm K a.Ah "say" "Desk.say" yrs ["self","row"] a.Hc a.I2
 F7:Dfm K a.Ah "say_alone" "Desk.say_alone" yq9 ["self","verb"] a.Hd a.I3
 F8:Dfm K a.Ah "say_with" "Desk.say_with" ypu ["self","verb","word"] a.He a.I4
 Cy:Dfm K a.Ah "lay" "Desk.lay" ypi ["self","name","word","base"] a.Hf a.I5
 F9:Dfm K a.Ah "cost_of" "Desk.cost_of" yrl ["self","name"] a.Hg a.I6
 Be:Dff K mg "_law_mixed" yor ["_law_script","_law_k"] a.Hh a.I7
 K1:Dff K mg "_law_names" yqt ["_law_cell"] a.Hi a.I8
 K2:Dff K mg "_law_looks" yqz ["_law_script"] a.Hj a.I9
 Fa:Dff K mg "_law_text" yoj ["_law_cell","_law_more"] a.Hk a.Ia
 Cc:Dff K mg "_law_hex" ypm ["_law_signs"] a.Hl a.Ib
 Fb:Dff K mg "_law_learned" yop ["_law_pieces","_law_base"] a.Hm a.Ic
 K4:Dff K mg "_law_deed" yre ["_law_desk","_law_pieces","_law_names_here","_law_cell","_law_text_here"] a.Hn a.Ie
 K5:Dff K mg "_law_dues" ypw ["_law_looks_here","_law_pieces","_law_sought"] a.Ho a.If
 K6:Dff K mg "_law_looked" yqo ["_law_desk","_law_dues_here","_law_cell"] a.Hq a.Ig
 K7:Dff K mg "_law_best" you ["_law_looks_here","_law_pieces","_law_text_here"] a.Hr a.Ih
 K8:Dff K mg "law" vbc ["_law_script"] a.Nn a.Ii
 Ao:Cls K a.Ab
 K9:mg "Even"=some (.ref a.Ab)
 Ka:Mk K a.Ab a.Ge
 Ap:NoAttr K a.Ab "noughts"
 Bf:NoAttr K a.Ab "ones"
 Av:Cls K a.A9
 Fn:mg "Quick"=some (.ref a.A9)
 Fo:Mk K a.A9 a.Gf
 Ax:NoAttr K a.A9 "held"
 Ay:Cls K a.Af
 Qy:mg "Run"=some (.ref a.Af)
 Qz:Mk K a.Af a.Gg
 Bq:NoAttr K a.Af "last"
 Az:NoAttr K a.Af "length"
 B0:Cls K a.Ac
 Kb:mg "Book"=some (.ref a.Ac)
 Kc:Mk K a.Ac a.Gi
 Cj:NoAttr K a.Ac "look"
 B6:NoAttr K a.Ac "slots"
 Dd:Cls K a.Bp
 Su:mg "Mixer"=some (.ref a.Bp)
 Sv:Mk K a.Bp a.Gj
 Cd:NoAttr K a.Bp "kept"
 A8:Cls K a.A3
 Kt:mg "Foreteller"=some (.ref a.A3)
 Ku:Mk K a.A3 a.Gk
 B8:NoAttr K a.A3 "looks"
 Br:NoAttr K a.A3 "books"
 Bt:NoAttr K a.A3 "mixer"
 Bu:NoAttr K a.A3 "ended"
 Bv:NoAttr K a.A3 "place"
 B9:NoAttr K a.A3 "present"
 Ae:Cls K a.A6
 Kd:mg "Span"=some (.ref a.A6)
 Ke:Mk K a.A6 a.Gh
 Bw:NoAttr K a.A6 "low"
 Ba:NoAttr K a.A6 "width"
 Bg:NoAttr K a.A6 "size"
 Aq:Cls K a.Ai
 Tj:mg "Seeker"=some (.ref a.Ai)
 Tk:Mk K a.Ai a.Gm
 De:NoAttr K a.Ai "data"
 Dh:NoAttr K a.Ai "span"
 Bh:NoAttr K a.Ai "number"
 Bb:NoAttr K a.Ai "reached"
 Ag:Cls K a.A2
 Cl:mg "Chain"=some (.ref a.A2)
 Cm:Mk K a.A2 a.Gr
 Ar:NoAttr K a.A2 "foreteller"
 Bn:NoAttr K a.A2 "links"
 Bo:NoAttr K a.A2 "texts"
 C2:Cls K a.Aa
 Kv:mg "Piece"=some (.ref a.Aa)
 Kw:Mk K a.Aa a.Gs
 C3:NoAttr K a.Aa "base"
 C4:NoAttr K a.Aa "data"
 A1:Cls K a.A0
 Kx:mg "Store"=some (.ref a.A0)
 Ky:Mk K a.A0 a.Gt
 As:NoAttr K a.A0 "looks"
 C5:NoAttr K a.A0 "most"
 Bi:NoAttr K a.A0 "pieces"
 At:NoAttr K a.A0 "chain"
 Ak:Cls K a.Ah
 Kg:mg "Desk"=some (.ref a.Ah)
 Kh:Mk K a.Ah a.Eu
 C6:NoAttr K a.Ah "store"
 Tl:mg "NoText"=some (.ref a.Kp)
 Tm:mg "NoBytes"=some (.ref a.Hs)
 Ki:mg "NoMost"=some (.ref a.Bx)
 Tn:mg "NoChance"=some (.ref a.Ev)
 Tp:mg "NoBit"=some (.ref a.Bm)
 Sw:mg "NoLooks"=some (.ref a.Ht)
 Sy:mg "NoPress"=some (.ref a.Hu)
 Kj:mg "NoName"=some (.ref a.Aj)
 G0:mg "TooLong"=some (.ref a.Am)
 Kz:mg "Taken"=some (.ref a.Aw)
 R7:mg "Full"=some (.ref a.Dl)
 G8:mg "NoPiece"=some (.ref a.A4)
 L1:mg "InUse"=some (.ref a.Bk)
 Ra:mg "NoShelf"=some (.ref a.Fq)
 Sz:mg "Reader"=some (.ref a.Hv)
 Ce:mg "NoWords"=some (.ref a.Cb)
 Tv:XCls K a.Kp
 Tq:XMk K a.Kp
 Tw:XCls K a.Hs
 Tr:XMk K a.Hs
 T0:XCls K a.Bx
 Kk:XMk K a.Bx
 Tx:XCls K a.Ev
 Ts:XMk K a.Ev
 Ty:XCls K a.Bm
 Tt:XMk K a.Bm
 Tz:XCls K a.Ht
 T8:XMk K a.Ht
 U0:XCls K a.Hu
 T9:XMk K a.Hu
 Ta:XCls K a.Aj
 Kl:XMk K a.Aj
 Rb:XCls K a.Am
 G9:XMk K a.Am
 Tc:XCls K a.Aw
 L6:XMk K a.Aw
 Tu:XCls K a.Dl
 R8:XMk K a.Dl
 Rc:XCls K a.A4
 Ga:XMk K a.A4
 Td:XCls K a.Bk
 L7:XMk K a.Bk
 Re:XCls K a.Cb
 Cg:XMk K a.Cb
 A5:mg "isinstance"=none
 R0:mg "int"=none
 R9:mg "bool"=none
 Ad:mg "list"=none
 Cz:mg "all"=none
 A7:mg "len"=none
 Km:mg "min"=none
 Kn:mg "max"=none
 Di:mg "str"=none
 Dt:mg "tuple"=none
 Ko:mg "zip"=none
 Ep:mg "sum"=none
 Tb:mg "any"=none
 Bc:mg "range"=none
 Cn:mg "LEAST"=some (.int 32768 a.Kq)
 C7:mg "ONE"=some (.int 16777216 a.Sc)
 C8:mg "MOST_SIGNS"=some (.int 1000 a.Dn)
 Du:mg "MOST_BYTES"=some (.int 12000 a.Do)
 Bj:mg "MOST_COUNTED"=some (.int 255 a.Co)
 D9:mg "FIRST_WIDTH"=some (.int 1099511627776 a.D5)
 Dv:mg "FIRST_SIZE"=some (.int 5 a.Dp)
 Da:mg "LEAST_WIDTH"=some (.int 4294967296 a.D6)
 Fc:mg "FARTHEST"=some (.int 8 a.Ew)
 Db:mg "MOST_PLACES"=some (.int 4 a.D7)
 C9:mg "MOST_LOOKS"=some (.int 6 a.Dq)
 Gb:mg "NO_SIGN"=some (.int 256 a.Fs)
 D0:mg "FIRST_WEIGHT"=some (.int 1099511627776 a.Cp)
 Er:mg "OWN_PARTS"=some (.int 31 a.Dw)
 D1:mg "MOST_FIGURES"=some (.int 48 a.Cq)
 Ck:mg "NODES_END"=some (.int 256 a.Dx)
 Ca:mg "FIGURES_telling"=some (.int 24 a.By)
 D4:mg "MOST_LETTERS"=some (.int 8 a.Cr)
 Dj:mg "LETTERS"=some (.str "abcdefghijklmnopqrstuvwxyz" a.Ft)
 Dc:mg "MOST_PIECES"=some (.int 60 a.D8)
 L8:mg "MOST_SHELF"=some (.int 1000000 a.Dr)
 Al:mg "FIGURES_desk"=some (.str "0123456789abcdef" a.Cs)
 Gc:mg "NO_BASE"=some (.str "-" a.Fu)
 Fd:mg "DONE"=some (.str "ok" a.R3)
 Fp:mg "KINDS"=some (.ref a.Bl)
 Es:K.lookup a.Bl=some ⟨.type "tuple",none,.seq #[.str "even" a.Ex,.str "quick" a.Ey,.str "run" a.Ez] a.Ik,a.Il⟩
 Et:mg "WORTHS"=some (.ref a.Bd)
 Gd:K.lookup a.Bd=some ⟨.type "tuple",a.Fv,.seq #[.int 128 a.Dy,.int 64 a.Dz,.int 32 a.E4,.int 16 a.E5,.int 8 a.E6,.int 4 a.E7,.int 2 a.E8,.int 1 a.E9] a.Fw,a.Fx⟩
def Txt.w_KINDS{K:z3}{mg:Ε}(T:Txt K mg a):∀H,SqT K H a.Bl [V.str "even",V.str "quick",V.str "run"]:=yqs T.Es (by show 3<=sizeLine;decide) (.cons ⟨_,rfl⟩ (.cons ⟨_,rfl⟩ (.cons ⟨_,rfl⟩ .nil)))
def Txt.wy_KINDS{K:z3}{mg:Ε}(T:Txt K mg a):∃o,K.lookup a.Bl=some o/\o.cls=.type "tuple"/\o.dict=none:=⟨_,T.Es,rfl,rfl⟩
def Txt.w_WORTHS{K:z3}{mg:Ε}(T:Txt K mg a):∀H,SqT K H a.Bd [V.int 128,V.int 64,V.int 32,V.int 16,V.int 8,V.int 4,V.int 2,V.int 1]:=yqs T.Gd (by show 8<=sizeLine;decide) (.cons ⟨_,rfl⟩ (.cons ⟨_,rfl⟩ (.cons ⟨_,rfl⟩ (.cons ⟨_,rfl⟩ (.cons ⟨_,rfl⟩ (.cons ⟨_,rfl⟩ (.cons ⟨_,rfl⟩ (.cons ⟨_,rfl⟩ .nil))))))))
section
variable{P:qh}{w:qd}{K:z3}{mg:Ε}{Γ:qf}
noncomputable def jh(v0 v1:V):Ι:=[("noughts",v0),("ones",v1)]
section
variable{H:Hp}{p dx:z4}{v0 v1 v:V}{P:V->Prop}{nx:Ζ}{σ:St}
section
variable(T:Txt K mg a)(hp:H p=some (.ins a.Ab dx (jh v0 v1)))
include T hp
def Ď(h:P v0):RdX K H p "noughts" P:=rdX hp T.Ao T.Ap ue h
def č(h:wt nx σ (upd H p (.ins a.Ab dx (jh v v1)))):StX K H p "noughts" v nx σ:=stX hp T.Ao T.Ap lt2 jz h
def ya7(h:P v1):RdX K H p "ones" P:=rdX hp T.Ao T.Bf (wl (by right) ue) h
def ya3(h:wt nx σ (upd H p (.ins a.Ab dx (jh v0 v)))):StX K H p "ones" v nx σ:=stX hp T.Ao T.Bf lt2 (wa (by right) jz) h
end
def Č(T:Txt K mg a)(hp:H p=some (.ins a.Ab dx []))(h:wt nx σ (upd H p (.ins a.Ab dx [("noughts",v)]))):StX K H p "noughts" v nx σ:=stX hp T.Ao T.Ap lt0 ww h
def ybd(T:Txt K mg a)(hp:H p=some (.ins a.Ab dx [("noughts",v0)]))(h:wt nx σ (upd H p (.ins a.Ab dx (jh v0 v)))):StX K H p "ones" v nx σ:=stX hp T.Ao T.Bf lt1 (wa (by right) ww) h
def Ľ:(jh v0 v1).lookup ("chance":Str)=none:=(wl (by right) (wl (by right) ο))
def ya2:(jh v0 v1).lookup ("seen":Str)=none:=(wl (by right) (wl (by right) ο))
def ya9:(jh v0 v1).lookup ("twin":Str)=none:=(wl (by right) (wl (by right) ο))
end
noncomputable def zj(v0:V):Ι:=[("held",v0)]
section
variable{H:Hp}{p dx:z4}{v0 v:V}{P:V->Prop}{nx:Ζ}{σ:St}
section
variable(T:Txt K mg a)(hp:H p=some (.ins a.A9 dx (zj v0)))
include T hp
def ū(h:P v0):RdX K H p "held" P:=rdX hp T.Av T.Ax ue h
def Ų(h:wt nx σ (upd H p (.ins a.A9 dx (zj v)))):StX K H p "held" v nx σ:=stX hp T.Av T.Ax lt1 jz h
end
def Ŧ(T:Txt K mg a)(hp:H p=some (.ins a.A9 dx []))(h:wt nx σ (upd H p (.ins a.A9 dx (zj v)))):StX K H p "held" v nx σ:=stX hp T.Av T.Ax lt0 ww h
def Ĉ:(zj v0).lookup ("chance":Str)=none:=(wl (by right) ο)
def Ż:(zj v0).lookup ("seen":Str)=none:=(wl (by right) ο)
def Ů:(zj v0).lookup ("twin":Str)=none:=(wl (by right) ο)
end
noncomputable def ñ(v0 v1:V):Ι:=[("last",v0),("length",v1)]
section
variable{H:Hp}{p dx:z4}{v0 v1 v:V}{P:V->Prop}{nx:Ζ}{σ:St}
section
variable(T:Txt K mg a)(hp:H p=some (.ins a.Af dx (ñ v0 v1)))
include T hp
def ycw(h:P v0):RdX K H p "last" P:=rdX hp T.Ay T.Bq ue h
def yc3(h:wt nx σ (upd H p (.ins a.Af dx (ñ v v1)))):StX K H p "last" v nx σ:=stX hp T.Ay T.Bq lt2 jz h
def ų(h:P v1):RdX K H p "length" P:=rdX hp T.Ay T.Az (wl (by right) ue) h
def ž(h:wt nx σ (upd H p (.ins a.Af dx (ñ v0 v)))):StX K H p "length" v nx σ:=stX hp T.Ay T.Az lt2 (wa (by right) jz) h
end
def yc6(T:Txt K mg a)(hp:H p=some (.ins a.Af dx []))(h:wt nx σ (upd H p (.ins a.Af dx [("last",v)]))):StX K H p "last" v nx σ:=stX hp T.Ay T.Bq lt0 ww h
def š(T:Txt K mg a)(hp:H p=some (.ins a.Af dx [("last",v0)]))(h:wt nx σ (upd H p (.ins a.Af dx (ñ v0 v)))):StX K H p "length" v nx σ:=stX hp T.Ay T.Az lt1 (wa (by right) ww) h
def Ū:(ñ v0 v1).lookup ("chance":Str)=none:=(wl (by right) (wl (by right) ο))
def yda:(ñ v0 v1).lookup ("seen":Str)=none:=(wl (by right) (wl (by right) ο))
def ycp:(ñ v0 v1).lookup ("twin":Str)=none:=(wl (by right) (wl (by right) ο))
end
noncomputable def yb8(v0 v1:V):Ι:=[("look",v0),("slots",v1)]
section
variable{H:Hp}{p dx:z4}{v0 v1 v:V}{P:V->Prop}{nx:Ζ}{σ:St}
section
variable(T:Txt K mg a)(hp:H p=some (.ins a.Ac dx (yb8 v0 v1)))
include T hp
def ya8(h:P v0):RdX K H p "look" P:=rdX hp T.B0 T.Cj ue h
def Ũ(h:P v1):RdX K H p "slots" P:=rdX hp T.B0 T.B6 (wl (by right) ue) h
def Ť(h:wt nx σ (upd H p (.ins a.Ac dx (yb8 v0 v)))):StX K H p "slots" v nx σ:=stX hp T.B0 T.B6 lt2 (wa (by right) jz) h
end
def yba(T:Txt K mg a)(hp:H p=some (.ins a.Ac dx []))(h:wt nx σ (upd H p (.ins a.Ac dx [("look",v)]))):StX K H p "look" v nx σ:=stX hp T.B0 T.Cj lt0 ww h
def Ž(T:Txt K mg a)(hp:H p=some (.ins a.Ac dx [("look",v0)]))(h:wt nx σ (upd H p (.ins a.Ac dx (yb8 v0 v)))):StX K H p "slots" v nx σ:=stX hp T.B0 T.B6 lt1 (wa (by right) ww) h
def ysl{C:z4}{nm:Str}(hp:H p=some (.ins C dx (yb8 v0 v1)))(n:nm∉(["look","slots"]:Τ))(h:R):MtX H p C nm R:=mtX hp rfl n h
end
noncomputable def vex(v0:V):Ι:=[("kept",v0)]
section
variable{H:Hp}{p dx:z4}{v0 v:V}{P:V->Prop}{nx:Ζ}{σ:St}
section
variable(T:Txt K mg a)(hp:H p=some (.ins a.Bp dx (vex v0)))
include T hp
def ygs(h:P v0):RdX K H p "kept" P:=rdX hp T.Dd T.Cd ue h
def ygh(h:wt nx σ (upd H p (.ins a.Bp dx (vex v)))):StX K H p "kept" v nx σ:=stX hp T.Dd T.Cd lt1 jz h
end
def ygn(T:Txt K mg a)(hp:H p=some (.ins a.Bp dx []))(h:wt nx σ (upd H p (.ins a.Bp dx (vex v)))):StX K H p "kept" v nx σ:=stX hp T.Dd T.Cd lt0 ww h
def vfw{C:z4}{nm:Str}(hp:H p=some (.ins C dx (vex v0)))(n:nm∉(["kept"]:Τ))(h:R):MtX H p C nm R:=mtX hp rfl n h
end
noncomputable def jb(v0 v1 v2 v3 v4 v5:V):Ι:=[("looks",v0),("books",v1),("mixer",v2),("ended",v3),("place",v4),("present",v5)]
section
variable{H:Hp}{p dx:z4}{v0 v1 v2 v3 v4 v5 v:V}{P:V->Prop}{nx:Ζ}{σ:St}
section
variable(T:Txt K mg a)(hp:H p=some (.ins a.A3 dx (jb v0 v1 v2 v3 v4 v5)))
include T hp
def ycn(h:P v0):RdX K H p "looks" P:=rdX hp T.A8 T.B8 ue h
def ycq(h:P v1):RdX K H p "books" P:=rdX hp T.A8 T.Br (wl (by right) ue) h
def yc8(h:wt nx σ (upd H p (.ins a.A3 dx (jb v0 v v2 v3 v4 v5)))):StX K H p "books" v nx σ:=stX hp T.A8 T.Br lt6 (wa (by right) jz) h
def ydd(h:P v2):RdX K H p "mixer" P:=rdX hp T.A8 T.Bt (wl (by right) (wl (by right) ue)) h
def yc1(h:wt nx σ (upd H p (.ins a.A3 dx (jb v0 v1 v v3 v4 v5)))):StX K H p "mixer" v nx σ:=stX hp T.A8 T.Bt lt6 (wa (by right) (wa (by right) jz)) h
def ycm(h:P v3):RdX K H p "ended" P:=rdX hp T.A8 T.Bu (wl (by right) (wl (by right) (wl (by right) ue))) h
def ycv(h:wt nx σ (upd H p (.ins a.A3 dx (jb v0 v1 v2 v v4 v5)))):StX K H p "ended" v nx σ:=stX hp T.A8 T.Bu lt6 (wa (by right) (wa (by right) (wa (by right) jz))) h
def yc4(h:P v4):RdX K H p "place" P:=rdX hp T.A8 T.Bv (wl (by right) (wl (by right) (wl (by right) (wl (by right) ue)))) h
def ydb(h:wt nx σ (upd H p (.ins a.A3 dx (jb v0 v1 v2 v3 v v5)))):StX K H p "place" v nx σ:=stX hp T.A8 T.Bv lt6 (wa (by right) (wa (by right) (wa (by right) (wa (by right) jz)))) h
def ŭ(h:P v5):RdX K H p "present" P:=rdX hp T.A8 T.B9 (wl (by right) (wl (by right) (wl (by right) (wl (by right) (wl (by right) ue))))) h
def ź(h:wt nx σ (upd H p (.ins a.A3 dx (jb v0 v1 v2 v3 v4 v)))):StX K H p "present" v nx σ:=stX hp T.A8 T.B9 lt6 (wa (by right) (wa (by right) (wa (by right) (wa (by right) (wa (by right) jz))))) h
end
def ycx(T:Txt K mg a)(hp:H p=some (.ins a.A3 dx []))(h:wt nx σ (upd H p (.ins a.A3 dx [("looks",v)]))):StX K H p "looks" v nx σ:=stX hp T.A8 T.B8 lt0 ww h
def ycu(T:Txt K mg a)(hp:H p=some (.ins a.A3 dx [("looks",v0)]))(h:wt nx σ (upd H p (.ins a.A3 dx [("looks",v0),("books",v)]))):StX K H p "books" v nx σ:=stX hp T.A8 T.Br lt1 (wa (by right) ww) h
def yco(T:Txt K mg a)(hp:H p=some (.ins a.A3 dx [("looks",v0),("books",v1)]))(h:wt nx σ (upd H p (.ins a.A3 dx [("looks",v0),("books",v1),("mixer",v)]))):StX K H p "mixer" v nx σ:=stX hp T.A8 T.Bt lt2 (wa (by right) (wa (by right) ww)) h
def yct(T:Txt K mg a)(hp:H p=some (.ins a.A3 dx [("looks",v0),("books",v1),("mixer",v2)]))(h:wt nx σ (upd H p (.ins a.A3 dx [("looks",v0),("books",v1),("mixer",v2),("ended",v)]))):StX K H p "ended" v nx σ:=stX hp T.A8 T.Bu lt3 (wa (by right) (wa (by right) (wa (by right) ww))) h
def ycr(T:Txt K mg a)(hp:H p=some (.ins a.A3 dx [("looks",v0),("books",v1),("mixer",v2),("ended",v3)]))(h:wt nx σ (upd H p (.ins a.A3 dx [("looks",v0),("books",v1),("mixer",v2),("ended",v3),("place",v)]))):StX K H p "place" v nx σ:=stX hp T.A8 T.Bv lt4 (wa (by right) (wa (by right) (wa (by right) (wa (by right) ww)))) h
def Ź(T:Txt K mg a)(hp:H p=some (.ins a.A3 dx [("looks",v0),("books",v1),("mixer",v2),("ended",v3),("place",v4)]))(h:wt nx σ (upd H p (.ins a.A3 dx (jb v0 v1 v2 v3 v4 v)))):StX K H p "present" v nx σ:=stX hp T.A8 T.B9 lt5 (wa (by right) (wa (by right) (wa (by right) (wa (by right) (wa (by right) ww))))) h
def vf7{C:z4}{nm:Str}(hp:H p=some (.ins C dx (jb v0 v1 v2 v3 v4 v5)))(n:nm∉(["looks","books","mixer","ended","place","present"]:Τ))(h:R):MtX H p C nm R:=mtX hp rfl n h
end
noncomputable def ylh(v0 v1 v2 v3:V):Ι:=[("data",v0),("span",v1),("number",v2),("reached",v3)]
section
variable{H:Hp}{p dx:z4}{v0 v1 v2 v3 v:V}{P:V->Prop}{nx:Ζ}{σ:St}
section
variable(T:Txt K mg a)(hp:H p=some (.ins a.Ai dx (ylh v0 v1 v2 v3)))
include T hp
def ygg(h:P v0):RdX K H p "data" P:=rdX hp T.Aq T.De ue h
def ygu(h:P v1):RdX K H p "span" P:=rdX hp T.Aq T.Dh (wl (by right) ue) h
def ybc(h:P v2):RdX K H p "number" P:=rdX hp T.Aq T.Bh (wl (by right) (wl (by right) ue)) h
def ya4(h:wt nx σ (upd H p (.ins a.Ai dx (ylh v0 v1 v v3)))):StX K H p "number" v nx σ:=stX hp T.Aq T.Bh lt4 (wa (by right) (wa (by right) jz)) h
def ŷ(h:P v3):RdX K H p "reached" P:=rdX hp T.Aq T.Bb (wl (by right) (wl (by right) (wl (by right) ue))) h
def ť(h:wt nx σ (upd H p (.ins a.Ai dx (ylh v0 v1 v2 v)))):StX K H p "reached" v nx σ:=stX hp T.Aq T.Bb lt4 (wa (by right) (wa (by right) (wa (by right) jz))) h
end
def yf7(T:Txt K mg a)(hp:H p=some (.ins a.Ai dx []))(h:wt nx σ (upd H p (.ins a.Ai dx [("data",v)]))):StX K H p "data" v nx σ:=stX hp T.Aq T.De lt0 ww h
def ygb(T:Txt K mg a)(hp:H p=some (.ins a.Ai dx [("data",v0)]))(h:wt nx σ (upd H p (.ins a.Ai dx [("data",v0),("span",v)]))):StX K H p "span" v nx σ:=stX hp T.Aq T.Dh lt1 (wa (by right) ww) h
def ya1(T:Txt K mg a)(hp:H p=some (.ins a.Ai dx [("data",v0),("span",v1)]))(h:wt nx σ (upd H p (.ins a.Ai dx [("data",v0),("span",v1),("number",v)]))):StX K H p "number" v nx σ:=stX hp T.Aq T.Bh lt2 (wa (by right) (wa (by right) ww)) h
def ű(T:Txt K mg a)(hp:H p=some (.ins a.Ai dx [("data",v0),("span",v1),("number",v2)]))(h:wt nx σ (upd H p (.ins a.Ai dx (ylh v0 v1 v2 v)))):StX K H p "reached" v nx σ:=stX hp T.Aq T.Bb lt3 (wa (by right) (wa (by right) (wa (by right) ww))) h
def vfd{C:z4}{nm:Str}(hp:H p=some (.ins C dx (ylh v0 v1 v2 v3)))(n:nm∉(["data","span","number","reached"]:Τ))(h:R):MtX H p C nm R:=mtX hp rfl n h
end
noncomputable def j5(v0 v1 v2:V):Ι:=[("foreteller",v0),("links",v1),("texts",v2)]
section
variable{H:Hp}{p dx:z4}{v0 v1 v2 v:V}{P:V->Prop}{nx:Ζ}{σ:St}
section
variable(T:Txt K mg a)(hp:H p=some (.ins a.A2 dx (j5 v0 v1 v2)))
include T hp
def υ(h:P v0):RdX K H p "foreteller" P:=rdX hp T.Ag T.Ar ue h
def ķ(h:P v1):RdX K H p "links" P:=rdX hp T.Ag T.Bn (wl (by right) ue) h
def ľ(h:P v2):RdX K H p "texts" P:=rdX hp T.Ag T.Bo (wl (by right) (wl (by right) ue)) h
end
def τ(T:Txt K mg a)(hp:H p=some (.ins a.A2 dx []))(h:wt nx σ (upd H p (.ins a.A2 dx [("foreteller",v)]))):StX K H p "foreteller" v nx σ:=stX hp T.Ag T.Ar lt0 ww h
def ļ(T:Txt K mg a)(hp:H p=some (.ins a.A2 dx [("foreteller",v0)]))(h:wt nx σ (upd H p (.ins a.A2 dx [("foreteller",v0),("links",v)]))):StX K H p "links" v nx σ:=stX hp T.Ag T.Bn lt1 (wa (by right) ww) h
def Ķ(T:Txt K mg a)(hp:H p=some (.ins a.A2 dx [("foreteller",v0),("links",v1)]))(h:wt nx σ (upd H p (.ins a.A2 dx (j5 v0 v1 v)))):StX K H p "texts" v nx σ:=stX hp T.Ag T.Bo lt2 (wa (by right) (wa (by right) ww)) h
def ynu{C:z4}{nm:Str}(hp:H p=some (.ins C dx (j5 v0 v1 v2)))(n:nm∉(["foreteller","links","texts"]:Τ))(h:R):MtX H p C nm R:=mtX hp rfl n h
end
noncomputable def Ī(v0 v1:V):Ι:=[("base",v0),("data",v1)]
section
variable{H:Hp}{p dx:z4}{v0 v1 v:V}{P:V->Prop}{nx:Ζ}{σ:St}
section
variable(T:Txt K mg a)(hp:H p=some (.ins a.Aa dx (Ī v0 v1)))
include T hp
def Ŭ(h:P v0):RdX K H p "base" P:=rdX hp T.C2 T.C3 ue h
def Ŵ(h:P v1):RdX K H p "data" P:=rdX hp T.C2 T.C4 (wl (by right) ue) h
end
def ũ(T:Txt K mg a)(hp:H p=some (.ins a.Aa dx []))(h:wt nx σ (upd H p (.ins a.Aa dx [("base",v)]))):StX K H p "base" v nx σ:=stX hp T.C2 T.C3 lt0 ww h
def Ţ(T:Txt K mg a)(hp:H p=some (.ins a.Aa dx [("base",v0)]))(h:wt nx σ (upd H p (.ins a.Aa dx (Ī v0 v)))):StX K H p "data" v nx σ:=stX hp T.C2 T.C4 lt1 (wa (by right) ww) h
end
noncomputable def xc(v0 v1 v2 v3:V):Ι:=[("looks",v0),("most",v1),("pieces",v2),("chain",v3)]
section
variable{H:Hp}{p dx:z4}{v0 v1 v2 v3 v:V}{P:V->Prop}{nx:Ζ}{σ:St}
section
variable(T:Txt K mg a)(hp:H p=some (.ins a.A0 dx (xc v0 v1 v2 v3)))
include T hp
def Ļ(h:P v0):RdX K H p "looks" P:=rdX hp T.A1 T.As ue h
def ţ(h:P v1):RdX K H p "most" P:=rdX hp T.A1 T.C5 (wl (by right) ue) h
def ĉ(h:P v2):RdX K H p "pieces" P:=rdX hp T.A1 T.Bi (wl (by right) (wl (by right) ue)) h
def Ĵ(h:P v3):RdX K H p "chain" P:=rdX hp T.A1 T.At (wl (by right) (wl (by right) (wl (by right) ue))) h
def ĺ(h:wt nx σ (upd H p (.ins a.A0 dx (xc v0 v1 v2 v)))):StX K H p "chain" v nx σ:=stX hp T.A1 T.At lt4 (wa (by right) (wa (by right) (wa (by right) jz))) h
end
def ĸ(T:Txt K mg a)(hp:H p=some (.ins a.A0 dx []))(h:wt nx σ (upd H p (.ins a.A0 dx [("looks",v)]))):StX K H p "looks" v nx σ:=stX hp T.A1 T.As lt0 ww h
def Ű(T:Txt K mg a)(hp:H p=some (.ins a.A0 dx [("looks",v0)]))(h:wt nx σ (upd H p (.ins a.A0 dx [("looks",v0),("most",v)]))):StX K H p "most" v nx σ:=stX hp T.A1 T.C5 lt1 (wa (by right) ww) h
def ď(T:Txt K mg a)(hp:H p=some (.ins a.A0 dx [("looks",v0),("most",v1)]))(h:wt nx σ (upd H p (.ins a.A0 dx [("looks",v0),("most",v1),("pieces",v)]))):StX K H p "pieces" v nx σ:=stX hp T.A1 T.Bi lt2 (wa (by right) (wa (by right) ww)) h
def ĵ(T:Txt K mg a)(hp:H p=some (.ins a.A0 dx [("looks",v0),("most",v1),("pieces",v2)]))(h:wt nx σ (upd H p (.ins a.A0 dx (xc v0 v1 v2 v)))):StX K H p "chain" v nx σ:=stX hp T.A1 T.At lt3 (wa (by right) (wa (by right) (wa (by right) ww))) h
def ylm{C:z4}{nm:Str}(hp:H p=some (.ins C dx (xc v0 v1 v2 v3)))(n:nm∉(["looks","most","pieces","chain"]:Τ))(h:R):MtX H p C nm R:=mtX hp rfl n h
end
noncomputable def ś(v0:V):Ι:=[("store",v0)]
section
variable{H:Hp}{p dx:z4}{v0 v:V}{P:V->Prop}{nx:Ζ}{σ:St}
section
variable(T:Txt K mg a)(hp:H p=some (.ins a.Ah dx (ś v0)))
include T hp
def ŧ(h:P v0):RdX K H p "store" P:=rdX hp T.Ak T.C6 ue h
end
def ż(T:Txt K mg a)(hp:H p=some (.ins a.Ah dx []))(h:wt nx σ (upd H p (.ins a.Ah dx (ś v)))):StX K H p "store" v nx σ:=stX hp T.Ak T.C6 lt0 ww h
def yty{C:z4}{nm:Str}(hp:H p=some (.ins C dx (ś v0)))(n:nm∉(["store"]:Τ))(h:R):MtX H p C nm R:=mtX hp rfl n h
end
local macro_rules | `(tactic| walk_at "f1")=>`(tactic| first
 | exists 1,"Ď ya7 ū ycw ų ya8 Ũ ygs ycn ycq ydd ycm yc4 ŭ ygg ygu ybc ŷ υ ķ ľ Ŭ Ŵ Ļ ţ ĉ Ĵ ŧ")
local macro_rules | `(tactic| walk_at "f2")=>`(tactic| first
 | exists 1,"č Č ya3 ybd Ų Ŧ yc3 yc6 ž š yba Ť Ž ygh ygn ycx yc8 ycu yc1 yco ycv yct ydb ycr ź Ź yf7 ygb ya4 ya1 ť ű τ ļ Ķ ũ Ţ ĸ Ű ď ĺ ĵ ż")
local macro_rules | `(tactic| walk_at "f3")=>`(tactic| first
 | exists 3,"ysl vfw vf7 vfd ynu ylm yty")
local macro_rules | `(tactic| walk_at "rd1")=>`(tactic| first | ((with_reducible refine gRd ?_); walk_at "f1") | ((with_reducible refine gSt ?_); walk_at "f2") | ((with_reducible refine gMt ?_); walk_at "f3"))
open SpanMath
def But(p:z4)(H H':Hp):Prop:=∀b o,H b=some o->b≠p->H' b=some o
def But.refl{p:z4}{H:Hp}:But p H H:=λZ Z h Z=>h
def But.of{p:z4}{H H':Hp}(s:yr H H'):But p H H':=λb o h Z=>s b o h
def But.trans{p:z4}{H H1 H2:Hp}(x:But p H H1)(y:But p H1 H2):But p H H2:=λb o h n=>y b o (x b o h n) n
theorem But.upd{p:z4}{H:Hp}{o:HO}:But p H (L2.upd H p o):=λb u h n=>by rw[ym n];exact h
theorem But.lst{p l C dx:z4}{fs:Ι}{H H':Hp}{xs:Υ}(e:But p H H')(hp:H p=some (.ins C dx fs))(h:H l=some (.lst xs)):H' l=some (.lst xs):=e _ _ h (w8 h hp (by intro z;cases z))
def jd{x:V}(h:ξ x=true):∃i,x=.int i:=by
 cases x with
 |int i=>exists i,rfl
 |_=>cases h
noncomputable def ÿ:V->Bool
 | .int i=>decide (0<=i) && decide (i<=1)
 |_=>false
noncomputable def chV:V->Bool
 | .int i=>decide (32768<=i) && decide (i<=16744448)
 |_=>false
inductive yv5(K:z3)(vs:Υ)(H:Hp)(Q:VK)(E':XK):Prop
 |mk(x n:_)(_:vs=[x])(_:uh K H x (.type n))(_:Q (.bl (ξ x)) H)
noncomputable def j9(x:Sn):Ι:=[("low",.int x.1),("width",.int x.2.1),("size",.int x.2.2)]
def nWL:¬(("width":Str)="low"):=by right
def nLW:¬(("low":Str)="width"):=by right
def nSL:¬(("size":Str)="low"):=by right
def nLS:¬(("low":Str)="size"):=by right
def nSW:¬(("size":Str)="width"):=by right
def nWS:¬(("width":Str)="size"):=by right
def lkL(x:Sn):(j9 x).lookup ("low":Str)=some (.int x.1):=ue
def lkW(x:Sn):(j9 x).lookup ("width":Str)=some (.int x.2.1):=wl nWL ue
def lkS(x:Sn):(j9 x).lookup ("size":Str)=some (.int x.2.2):=wl nSL (wl nSW ue)
def lkN(x:Sn){m:Str}(h1:¬m="low")(h2:¬m="width")(h3:¬m="size"):(j9 x).lookup m=none:=wl h1 (wl h2 (wl h3 ο))
def pfL(x:Sn)(v:Int):μ "low" (.int v) (j9 x)=j9 (v,x.2.1,x.2.2):=jz
def pfW(x:Sn)(v:Int):μ "width" (.int v) (j9 x)=j9 (x.1,v,x.2.2):=wa nLW jz
def pfS(x:Sn)(v:Int):μ "size" (.int v) (j9 x)=j9 (x.1,x.2.1,v):=wa nLS (wa nWS jz)
section
variable{H:Hp}{p dx:z4}{x:Sn}{P:V->Prop}{nx:Ζ}{σ:St}{v:Int}
def rdL(T:Txt K mg a)(hp:H p=some (.ins a.A6 dx (j9 x)))(h:P (.int x.1)):
  ∃a' C dx fs v,V.ref p=.ref a'/\H a'=some (.ins C dx fs)/\Cls K C/\NoAttr K C "low"/\fs.lookup ("low":Str)=some v/\P v:=⟨p,_,dx,_,_,rfl,hp,T.Ae,T.Bw,lkL x,h⟩
def rdW(T:Txt K mg a)(hp:H p=some (.ins a.A6 dx (j9 x)))(h:P (.int x.2.1)):
  ∃a' C dx fs v,V.ref p=.ref a'/\H a'=some (.ins C dx fs)/\Cls K C/\NoAttr K C "width"/\fs.lookup ("width":Str)=some v/\P v:=⟨p,_,dx,_,_,rfl,hp,T.Ae,T.Ba,lkW x,h⟩
def rdS(T:Txt K mg a)(hp:H p=some (.ins a.A6 dx (j9 x)))(h:P (.int x.2.2)):
  ∃a' C dx fs v,V.ref p=.ref a'/\H a'=some (.ins C dx fs)/\Cls K C/\NoAttr K C "size"/\fs.lookup ("size":Str)=some v/\P v:=⟨p,_,dx,_,_,rfl,hp,T.Ae,T.Bg,lkS x,h⟩
def vh1(T:Txt K mg a)(hp:H p=some (.ins a.A6 dx (j9 x)))(h:wt nx σ (upd H p (.ins a.A6 dx (j9 (v,x.2.1,x.2.2))))):
  ∃a' C dx fs,V.ref p=.ref a'/\H a'=some (.ins C dx fs)/\Cls K C/\NoAttr K C "low"/\fs.length<1000/\wt nx σ (upd H a' (.ins C dx (μ "low" (.int v) fs))):=⟨p,_,dx,j9 x,rfl,hp,T.Ae,T.Bw,by show 3<1000;decide,by rw[pfL];exact h⟩
def vif(T:Txt K mg a)(hp:H p=some (.ins a.A6 dx (j9 x)))(h:wt nx σ (upd H p (.ins a.A6 dx (j9 (x.1,v,x.2.2))))):
  ∃a' C dx fs,V.ref p=.ref a'/\H a'=some (.ins C dx fs)/\Cls K C/\NoAttr K C "width"/\fs.length<1000/\wt nx σ (upd H a' (.ins C dx (μ "width" (.int v) fs))):=⟨p,_,dx,j9 x,rfl,hp,T.Ae,T.Ba,by show 3<1000;decide,by rw[pfW];exact h⟩
def vh8(T:Txt K mg a)(hp:H p=some (.ins a.A6 dx (j9 x)))(h:wt nx σ (upd H p (.ins a.A6 dx (j9 (x.1,x.2.1,v))))):
  ∃a' C dx fs,V.ref p=.ref a'/\H a'=some (.ins C dx fs)/\Cls K C/\NoAttr K C "size"/\fs.length<1000/\wt nx σ (upd H a' (.ins C dx (μ "size" (.int v) fs))):=⟨p,_,dx,j9 x,rfl,hp,T.Ae,T.Bg,by show 3<1000;decide,by rw[pfS];exact h⟩
end
set_option hygiene true in
local macro_rules | `(tactic| walk_at "rd1")=>`(tactic| first
 | exists 1,"rdL rdW rdS vh1 vif"
 | (with_reducible refine' vh8 (by assumption) ?rdh ?_; (case rdh=>first | assumption | exact ya)))
inductive Slt where
 |ev (n o:Int)
 |qk (h:Int)
 |rn (l n:Int)
abbrev _root_.Α:=Nat->qi Int->qj Slt
def Slt.ok:Slt->Prop
 | .ev n o=>0<=n/\0<=o/\n+o<=255
 | .qk h=>32768<=h/\h<=16744448
 | .rn l n=>0<=l/\l<=1/\0<=n/\n<=255
noncomputable def ú(n:Int):Int:=(2*n+1)*16777216/(2*n+2)
def Slt.due:Slt->Int
 | .ev n o=>(2*o+1)*16777216/(2*(n+o)+2)
 | .qk h=>h
 | .rn l n=>if l=1 then ú n else 16777216-ú n
noncomputable def ydw(n o:Int):Slt:=if 255<n+o then .ev ((n+1)/2) ((o+1)/2)else .ev n o
noncomputable def ye6(m:Int):Int:=if 16744448<(if 32768 > m then 32768 else m)then 16744448 else (if 32768 > m then 32768 else m)
def Slt.see:Slt->Int->Slt
 | .ev n o,b=>if b=1 then ydw n (o+1)else ydw (n+1) o
 | .qk h,b=>.qk (ye6 (if b=1 then h+(16777216-h)/16 else h-h/16))
 | .rn l n,b=>if b=l then .rn l (if 255<n+1 then 255 else n+1)else .rn b 1
def oS(a:Ads)(dx:z4):Slt->HO
 | .ev n o=>.ins a.Ab dx (jh (.int n) (.int o))
 | .qk h=>.ins a.A9 dx (zj (.int h))
 | .rn l n=>.ins a.Af dx (ñ (.int l) (.int n))
def yd0{n o:Int}(h1:0<=n)(h2:0<=o)(h3:n+o<=256):(ydw n o).ok:=by
 unfold ydw
 split
 .exists by omega,(),()
 .exists h1,h2,()
def yif(m:Int):32768<=ye6 m/\ye6 m<=16744448:=by
 unfold ye6
 split<;>split<;>omega
def Slt.see_ok{s:Slt}{b:Int}(h:s.ok)(b0:0<=b)(b1:b<=1):(s.see b).ok:=by
 cases s with
 |ev n o =>
  let⟨a,c,d⟩:=h;unfold Slt.see;dsimp only
  split
  .exact yd0 a () ()
  .exact yd0 () c ()
 |qk h0=>exact yif _
 |rn l n =>
  let⟨a,c,d,e⟩:=h;unfold Slt.see;dsimp only
  split
  .refine⟨a,c,?_,?_⟩<;>split<;>omega
  .exists b0,b1,∅,∅
noncomputable def kdS:Fin 3->Str
 |0=>"even"
 |1=>"quick"
 |2=>"run"
def kd0:Fin 3->Slt
 |0=>.ev 0 0
 |1=>.qk 8388608
 |2=>.rn 1 0
def yrn(k:Fin 3):(kd0 k).ok:=by
 match k with
 |0=>exists by decide,∅,∅
 |1=>exists by decide,∅
 |2=>exists by decide,∅,∅,∅
def yxj{b:Int}(b0:0<=b)(b1:b<=1):ÿ (.int b)=true:=by simp only[ÿ,bL,decide_eq_true_eq];omega
def yft{x:V}(h:ÿ x=true):∃b:Int,x=.int b/\0<=b/\b<=1:=by
 cases x with
 |int i =>
  simp only[ÿ,bL,decide_eq_true_eq]at h;exact⟨i,rfl,h.1,h.2⟩
 |_=>cases h
inductive yag(C:z4)(F:Ι)(vs:Υ)(H:Hp)(Q:VK)(E':XK):Prop
 |mk(p dx:z4)(_:vs=[.ref p])(_:H p=some (.ins C dx []))(_:∀H',H' p=some (.ins C dx F)->But p H H'->Q .non H')
inductive u9(o:z4->Slt->HO)(g:Slt->Prop)(vs:Υ)(H:Hp)(Q:VK)(E':XK):Prop
 |mk(p dx:z4)(s:Slt)(_:vs=[.ref p])(_:g s)(_:s.ok)(_:H p=some (o dx s))(_:Q (.int s.due) H)
inductive ζ(K:z3)(o:z4->Slt->HO)(g:Slt->Prop)(C:z4)(vs:Υ)(H:Hp)(Q:VK)(E:XK):Prop
 |mk(p dx:z4)(s:Slt)(x:V)(n:String)(_:vs=[.ref p,x])(_:g s)(_:s.ok)(_:H p=some (o dx s))(_:uh K H x (.type n))(_:(∀b:Int,x=.int b->0<=b->b<=1->∀H',H' p=some (o dx (s.see b))->But p H H'->Q .non H'))(_:(ÿ x=false->E (.ref C) none H))
def yv3:Slt->Prop
 | .ev _ _=>True
 |_=>False
def yv2:Slt->Prop
 | .qk _=>True
 |_=>False
def yv4:Slt->Prop
 | .rn _ _=>True
 |_=>False
def yck(bs:Ρ):Prop:=∀b∈bs,0<=b/\b<=1
def wd{n:Nat}(h:n<=16000000):n<=sizeLine:=bF h ∅
def vh{n:Nat}(h:n<=16000000):n<sizeLine:=Nat.lt_of_le_of_lt h ∅
def jk{ns:Ρ}{x:V}(h:(ns.map V.int)[i]?=some x):∃n,x=.int n/\n∈ns/\ns[i]?=some n/\i<ns.length:=by
 rw[bi]at h
 cases e:ns[i]? with
 |none=>rw[e]at h;cases h
 |some n =>
  rw[e]at h
  have a:i<ns.length:=by
   rcases Nat.lt_or_ge i ns.length with q|q
   .exact q
   .rw[bK q]at e;cases e
  exists n,(bx h).symm,bB e,rfl,a
def ç{l:Ρ}{q:Int}(h:l[i]?=some q):l.take (i+1)=l.take i++[q]:=by rw[List.take_add_one,h];rfl
def ynn{ys:Ρ}(h1:yck xs)(h2:yck ys):yck (xs++ys):=λb a=>by
 rcases bH.mp a with h|h
 .exact h1 b h
 .exact h2 b h
def yih(c:Int)(n:Nat):(List.replicate n [V.int c]).flatten=(List.replicate n c).map V.int:=by
 induction n with
 |zero=>rfl
 |succ n ih=>rw[b7,List.flatten_cons,ih,b7];rfl
def yr0(sg:Ρ)(p:Int):Int:=if p<=sg.length then (atI sg (-p)).getD 256 else 256
def ys0{α β:Type}(f:α->β)(xs:qi α)(i:Int):atI (xs.map f) i=(atI xs i).map f:=by
 unfold atI;rw[ba]
 cases ixN xs.length i with
 |none=>rfl
 |some j =>
  show (xs.map f)[j]?=(xs[j]?).map f;rw[bi]
def ymk{sg:Ρ}{p:Int}(h1:1<=p)(h2:p<=sg.length):∃c,atI sg (-p)=some c/\c∈sg:=by
 unfold atI ixN;rw[if_neg ()];by_cases h:-(sg.length:Int)<= -p
 .rw[if_pos ()];have a:((-p+(sg.length:Int)).toNat)<sg.length:=()
  exists _,bc a,bV a
 .omega
def Slt.kind:Slt->Fin 3
 | .ev _ _=>0
 | .qk _=>1
 | .rn _ _=>2
def ynj(s:Slt)(b:Int):(s.see b).kind=s.kind:=by
 cases s with
 |ev n o =>
  unfold Slt.see ydw;dsimp only
  split<;>split<;>rfl
 |qk h=>rfl
 |rn l n =>
  unfold Slt.see;dsimp only
  split<;>rfl
def yn3(k:Fin 3):(kd0 k).kind=k:=by
 match k with
 |0=>rfl
 |1=>rfl
 |2=>rfl
def π(a:Ads)(dx:z4)(s:Slt):∃C fs,oS a dx s=.ins C dx fs:=by cases s<;>exact⟨_,_,rfl⟩
def yfa{s:Slt}(h:s.ok):32768<=s.due/\s.due<=16744448:=by
 cases s with
 |ev n o =>
  let⟨b,c,d⟩:=h;unfold Slt.due;dsimp only;have a:(0:Int)<2*(n+o)+2:=()
  constructor
  .rw[Int.le_ediv_iff_mul_le a];omega
  .have:(2*o+1)*16777216/(2*(n+o)+2)<16744449:=by
    rw[Int.ediv_lt_iff_lt_mul a];omega
   omega
 |qk h0=>exact h
 |rn l n =>
  let⟨b,c,d,e⟩:=h;have a:(0:Int)<2*n+2:=()
  have g1:8388608<=ú n:=by
   unfold ú;rw[Int.le_ediv_iff_mul_le a];omega
  have g2:ú n<16744449:=by
   unfold ú;rw[Int.ediv_lt_iff_lt_mul a];omega
  unfold Slt.due;dsimp only
  split<;>omega
def yhq{p dx:z4}{s:Slt}{ta:TE}{σ:St}{H:Hp}{Q:VK}{E1 E2 E3:XK}(hta:∀Q':VK,Q' (.ref p) H->ta σ H Q')(hp:H p=some (oS a dx s))(ok:s.ok)(h:Q (.int s.due) H):
  yoi (Ŀ a.Ab "chance" (u9 (oS a) yv3) [] E1 ta ylf) (yoi (Ŀ a.A9 "chance" (u9 (oS a) yv2) [] E2 ta ylf) (Ŀ a.Af "chance" (u9 (oS a) yv4) [] E3 ta ylf)) σ H Q:=by
 cases s with
 |ev n o=>exact ş (ĭ (hta _ ⟨p,dx,_,rfl,hp,Ľ,p,dx,.ev n o,rfl,trivial,ok,hp,h⟩))
 |qk h0=>exact Û (ş (ĭ (hta _ ⟨p,dx,_,rfl,hp,Ĉ,p,dx,.qk h0,rfl,trivial,ok,hp,h⟩)))
 |rn l n=>exact Û (Û (ĭ (hta _ ⟨p,dx,_,rfl,hp,Ū,p,dx,.rn l n,rfl,trivial,ok,hp,h⟩)))
def yso{p dx:z4}{s:Slt}{ta:TE}{t:TA}{σ:St}{H:Hp}{Q:VK}{E1 E2 E3:St->XK}{x:V}{n:String}(hta:∀Q':VK,Q' (.ref p) H->ta σ H Q')(ht:∀Q':qi V->Hp->Prop,Q' [x] H->t σ H Q')(hp:H p=some (oS a dx s))(ok:s.ok)(ty:uh K H x (.type n))
  (h:∀b:Int,x=.int b->0<=b->b<=1->∀H',H' p=some (oS a dx (s.see b))->But p H H'->Q .non H') (h1:ÿ x=false->E1 σ (.ref a.Bm) none H) (h2:ÿ x=false->E2 σ (.ref a.Bm) none H) (h3:ÿ x=false->E3 σ (.ref a.Bm) none H):
  yoi (yb7 a.Ab "seen" (ζ K (oS a) yv3 a.Bm) [] E1 ta t) (yoi (yb7 a.A9 "seen" (ζ K (oS a) yv2 a.Bm) [] E2 ta t) (yb7 a.Af "seen" (ζ K (oS a) yv4 a.Bm) [] E3 ta t)) σ H Q:=by
 cases s with
 |ev n o=>exact ş (yap (hta _ ⟨p,dx,_,rfl,hp,ya2,ht _ ⟨p,dx,.ev n o,x,_,rfl,trivial,ok,hp,ty,h,h1⟩⟩))
 |qk h0=>exact Û (ş (yap (hta _ ⟨p,dx,_,rfl,hp,Ż,ht _ ⟨p,dx,.qk h0,x,_,rfl,trivial,ok,hp,ty,h,h2⟩⟩)))
 |rn l n=>exact Û (Û (yap (hta _ ⟨p,dx,_,rfl,hp,yda,ht _ ⟨p,dx,.rn l n,x,_,rfl,trivial,ok,hp,ty,h,h3⟩⟩)))
def yww{x:Sn}{c b:Int}(h:Ok x):(nar x c b).2.2<=x.2.2+2:=by
 unfold nar ren;have:=h.z
 (repeat' split)<;>(dsimp only;omega)
noncomputable abbrev tMx:Nat:=100000
def yeg{k:Nat}(h:k<=6):pw k<=281474976710656:=Int.le_trans (yjo h) ∅
def ynx(xs:Ρ)(y:Int):xs.map V.int++[V.int y]=(xs++[y]).map V.int:=by simp
def ysx(xs:Ρ):(xs.map V.int).reverse=xs.reverse.map V.int:=by simp
noncomputable def gvv(c b:Int):Int:=if b=1 then c else 16777216-c
def ydq{x:V}(h:chV x=true):∃c,x=.int c/\32768<=c/\c<=16744448:=by
 cases x with
 |int i =>
  simp only[chV,bL,decide_eq_true_eq]at h;exact⟨i,rfl,h.1,h.2⟩
 |_=>cases h
def yef{x:V}(h:ÿ x=true):∃b,x=.int b/\0<=b/\b<=1:=by
 cases x with
 |int i =>
  simp only[ÿ,bL,decide_eq_true_eq]at h;exact⟨i,rfl,h.1,h.2⟩
 |_=>cases h
def ycf{c:Int}(h:Ch c):chV (.int c)=true:=by let⟨a,b⟩:=h;simp only[chV,bL,decide_eq_true_eq];omega
def yaq{b:Int}(h1:0<=b)(h2:b<=1):ÿ (.int b)=true:=by simp only[ÿ,bL,decide_eq_true_eq];omega
def Ř{H H':Hp}{v:V}{n:String}(S:yr H H')(t:uh K H v (.type n)):uh K H' v (.type n):=by
 cases t with
 |non=>exact .non
 |bl b=>exact .bl b
 |int i=>exact .int i
 |str x=>exact .str x
 |flt x=>exact .flt x
 |lst e=>exact .lst (S _ _ e)
 |frz e=>exact .frz (S _ _ e)
 |tup e=>exact .tup (S _ _ e)
 |dK e=>exact .dK (S _ _ e)
 |dT e=>exact .dT (S _ _ e)
noncomputable def sgV:V->Bool
 | .int i=>decide (0<=i) && decide (i<=255)
 |_=>false
def yn9(K:z3)(H:Hp)(xs:Υ):Prop:=∀y∈xs,∃k:String,uh K H y (.type k)
def ŕ{H:Hp}(ns:Ρ):yn9 K H (ns.map V.int):=λy a=>by
 let⟨i,_,rfl⟩:=bg.mp a;exists _,.int i
def Bad(K:z3)(H:Hp)(x:V)(n:String)(m:Int):Prop:=n≠"list"\/∃p xs,x=.ref p/\H p=some (.lst xs)/\yn9 K H xs/\xs.length<=100000/\(decide ((xs.length:Int)<=m) && xs.all sgV)=false
def veu(K:z3)(H:Hp)(x:V)(xs:Υ)(m:Int):Prop:=∃p,x=.ref p/\H p=some (.lst xs)/\yn9 K H xs/\xs.length<=100000/\(decide ((xs.length:Int)<=m) && xs.all sgV)=true
def yr5{H:Hp}{x:V}{n:String}(ty:uh K H x (.type n)):W.kitOne K (.type n) (.type "list")=some (decide (n="list")):=by cases ty<;>rfl
def ymy{n:Nat}(h:n<=100000):n<sizeLine:=Nat.lt_of_le_of_lt h ∅
def yl2{xs:Υ}(n:Nat):ya0 xs (some (n:Int)) none=xs.drop n:=by
 unfold ya0;rw[HT.sIx_nat,HT.sIx_none];by_cases h:n<=xs.length
 .rw[Nat.min_eq_left h,bZ (by rw[cu];exact bf _)]
 .rw[Nat.min_eq_right (),Nat.sub_self,List.take_zero,List.drop_of_length_le ()]
def yj1{ns:Ρ}(h:∀i∈ns,0<=i/\i<=255):(ns.map V.int).all sgV=true:=by rw[List.all_map,List.all_eq_true];intro i b;let⟨a,c⟩:=h i b;simp[sgV,a,c]
inductive ŋ(K:z3)(C:z4)(m:Int)(vs:Υ)(H:Hp)(Q:VK)(E:XK):Prop
 |mk(x n:_)(_:vs=[x])(_:uh K H x (.type n))(_:((Bad K H x n m/\∀H',yr H H'->E (.ref C) none H')\/∃xs,veu K H x xs m/\∀r H',H r=none->H' r=some (.lst xs)->yr H H'->Q (.ref r) H'))
def yll(p q:z4)(H H':Hp):Prop:=∀b o,H b=some o->b≠p->b≠q->H' b=some o
def But.two{p:z4}{H H':Hp}(h:But p H H'):yll p q H H':=λb o e n Z=>h b o e n
def But.two'{p:z4}{H H':Hp}(h:But q H H'):yll p q H H':=λb o e Z n=>h b o e n
def yll.trans{p:z4}{H H1 H2:Hp}(x:yll p q H H1)(y:yll p q H1 H2):yll p q H H2:=λb o h n m=>y b o (x b o h n m) n m
structure yg6(a:Ads)(H:Hp)(p dx pd ps ds:z4)(d:Ρ)(x:Sn):Prop where
 me:H p=some (.ins a.Ai dx (ylh (.ref pd) (.ref ps) (.int (rn d (sz x))) (.int x.2.2)))
 dt:H pd=some (.lst (d.map V.int))
 sp:H ps=some (.ins a.A6 ds (j9 x))
 ne:p≠ps
def yg6.same{H H':Hp}{p dx pd ps:z4}{d:Ρ}{x:Sn}(h:yg6 a H p dx pd ps ds d x)(S:yr H H'):yg6 a H' p dx pd ps ds d x:=⟨S _ _ h.me,S _ _ h.dt,S _ _ h.sp,h.ne⟩
section
variable{H H':Hp}{p dx pd ps:z4}{d:Ρ}{x:Sn}
theorem yg6.lst(h:yg6 a H p dx pd ps ds d x)(B:yll p ps H H'){l:z4}{xs:Υ}(e:H l=some (.lst xs)):H' l=some (.lst xs):=B _ _ e (w8 e h.me (by intro z;cases z)) (w8 e h.sp (by intro z;cases z))
theorem yg6.tup(h:yg6 a H p dx pd ps ds d x)(B:yll p ps H H'){l:z4}{xs:Υ}(e:H l=some (.tup xs)):H' l=some (.tup xs):=B _ _ e (w8 e h.me (by intro z;cases z)) (w8 e h.sp (by intro z;cases z))
end
def yl8{H:Hp}{p:z4}{d:Ρ}(h:H p=some (.lst (d.map V.int)))(hb:Byt d)(hz:d.length<=12000):veu K H (.ref p) (d.map V.int) 12000 :=
 ⟨p,rfl,h,ŕ d,by rw[ba];omega,by rw[yj1 hb,ba,bn ()];rfl⟩
def Sgs(ns:Ρ):Prop:=∀i∈ns,0<=i/\i<=255
noncomputable def wth:Ρ:=[128,64,32,16,8,4,2,1]
def b8(s:Int):Ρ:=wth.map (λw=>s/w%2)
def dec:qi Int->qi Int
 |[]=>[0]
 |s::r=>(1::b8 s)++dec r
noncomputable def nds:Int->qi Int->qi Int
 |_,[]=>[]
 |n,b::r=>n::nds (2*n+b) r
def ycj:qi Int->qi Int
 |[]=>[]
 |s::r=>(1::b8 s)++ycj r
theorem yn5:∀ns,dec ns=ycj ns++[0]
 |[]=>rfl
 |s::r=>by simp[dec,ycj,yn5 r]
theorem ybq(s:Int):∀ns,ycj (ns++[s])=ycj ns++(1::b8 s)
 |[]=>by simp[ycj]
 |t::r=>by simp[ycj,ybq s r]
def ypn(s:Int):(b8 s).length=8:=rfl
theorem δ:∀ns:Ρ,(ycj ns).length=9*ns.length
 |[]=>rfl
 |s::r=>by
  show ((1::b8 s)++ycj r).length=9*(r.length+1);rw[bd,δ r];show 9+_=_;omega
def ytz(s:Int):yck (b8 s):=λb a=>by
 let⟨w,_,rfl⟩:=bg.mp a;have c:0<=s/w%2:=cA _ ∅;have d:s/w%2<2:=cr _ ∅;exists c,()
theorem jq:∀ns,yck (dec ns)
 |[]=>λb a=>by rw[bp.mp a];decide
 |s::r=>by
  refine ynn (λb a=>?_) (jq r);rcases bq.mp a with rfl|a
  .decide
  .exact ytz s b a
def vga{s:Int}(h0:0<=s)(h1:s<=255):128*(s/128%2)+(64*(s/64%2)+(32*(s/32%2)+(16*(s/16%2)+(8*(s/8%2)+(4*(s/4%2)+(2*(s/2%2)+(1*(s/1%2)+0)))))))=s:=by
 have h:∀n:Nat,n<256->128*((n:Int)/128%2)+(64*((n:Int)/64%2)+(32*((n:Int)/32%2)+(16*((n:Int)/16%2)+(8*((n:Int)/8%2)+(4*((n:Int)/4%2)+(2*((n:Int)/2%2)+(1*((n:Int)/1%2)+0)))))))=(n:Int):=by right
 let⟨n,rfl⟩:=Int.eq_ofNat_of_zero_le h0;exact h n ()
noncomputable def wV(s:Int):V->V
 | .int w=>.int (s/w%2)
 |_=>.non
def Ö{H:Hp}{p:z4}{d:Ρ}(h:H p=some (.lst (d.map V.int)))(hb:Sgs d)(hz:d.length<=1000):veu K H (.ref p) (d.map V.int) 1000 :=
 ⟨p,rfl,h,ŕ d,by rw[ba];omega,by rw[yj1 hb,ba,bn ()];rfl⟩
def ynz(xs ys:Ρ):xs.map V.int++ys.map V.int=(xs++ys).map V.int:=by simp
def xr(ns:Ρ):(dec ns).length=9*ns.length+1:=by rw[yn5,bd,δ];rfl
noncomputable def ć(f:qi Int->qj Slt)(k:Ρ)(s:Slt):qi Int->qj Slt:=λj=>if j=k then some s else f j
noncomputable def yvs:HO->Bool
 | .ins _ _ _=>true
 | .dT _=>true
 |_=>false
noncomputable def kI(k:Ρ):qi Key:=k.map Sum.inl
def vaq(k:Ρ):(kI k).map kV=k.map V.int:=by unfold kI;rw[bO];rfl
def yb6{j k:Ρ}(h:kI j=kI k):j=k:=by
 unfold kI at h
 induction j generalizing k with
 |nil =>
  cases k with
  |nil=>rfl
  |cons _ _=>cases h
 |cons x r ih =>
  cases k with
  |nil=>cases h
  |cons y s =>
   injection h with h1 h2;injection h1 with h1;rw[h1,ih h2]
def yod(H:Hp)(d:z4):Prop:=∀kvs,H d=some (.dT kvs)->(kvs.map (·.1)).Nodup/\∀q∈kvs,∃k,q.1=kI k
def yod.mv{H H':Hp}{d:z4}{kvs:qi (qi Key×V)}(h:yod H d)(h1:H d=some (.dT kvs))(h2:H' d=some (.dT kvs)):yod H' d:=λa e=>by
 rw[h2]at e;cases e;exact h kvs h1
def ynv{kvs:qi (qi Key×V)}{k:qi Key}(h:z5 kvs k=none):k∉kvs.map (·.1):=λm=>by
 let⟨p,b,e⟩:=bg.mp m;have a:=jl k kvs;rw[h]at a;exact List.any_eq_false.mp a p b (bn e)
def yod.snoc{H':Hp}{d:z4}{kvs:qi (qi Key×V)}{k:Ρ}{v:V}(h:(kvs.map (·.1)).Nodup/\∀q∈kvs,∃k,q.1=kI k)(hn:z5 kvs (kI k)=none)(h2:H' d=some (.dT (Ń kvs (kI k) v))):yod H' d:=λb e=>by
 rw[h2,Ú _ hn]at e;cases e;rw[bz];exists List.nodup_append.mpr ⟨h.1,cB.mpr ⟨List.not_mem_nil,List.nodup_nil⟩,λx a y f z=>?_⟩,λq c=>?_
 .rw[z,bp.mp f]at a;exact ynv hn a
 .rcases bH.mp c with w|w
  .exact h.2 q w
  .rw[bp.mp w];exists k,rfl
structure ã(a:Ads)(H:Hp)(p dx lk d:z4)(kd:Fin 3)(f:qi Int->qj Slt)(O:Ν)(m:Nat):Prop where
 me:H p=some (.ins a.Ac dx (yb8 (.ref lk) (.ref d)))
 own:∀b,O b->∃o,H b=some o/\yvs o=true
 np:¬O p
 dO:O d
 ky:yod H d
 tb:∃(kvs:qi (qi Key×V))(loc:qi Int->z4×z4),H d=some (.dT kvs)/\kvs.length<=m/\(∀k,f k=none->z5 kvs (kI k)=none)/\
  (∀k s,f k=some s->z5 kvs (kI k)=some (.ref (loc k).1)/\H (loc k).1=some (oS a (loc k).2 s)/\s.ok/\s.kind=kd/\O (loc k).1)/\(∀k j s t,f k=some s->f j=some t->(loc k).1=(loc j).1->k=j)
def yof(O:Ν)(H H':Hp):Prop:=∀b o,H b=some o->¬O b->H' b=some o
section
variable{H H':Hp}{p dx lk d:z4}{kd:Fin 3}{f:qi Int->qj Slt}{O:Ν}{m:Nat}
def ã.frame(h:ã a H p dx lk d kd f O m){O2:Ν}(B:yof O2 H H')(dj:∀b,O b->¬O2 b)(hp:¬O2 p):ã a H' p dx lk d kd f O m:=by
 let⟨e,g,c,n,q,r,v⟩:=h.tb;exists B _ _ h.me hp,λb i=>?_,h.np,h.dO,h.ky.mv c (B _ _ c (dj _ h.dO)),e,g,B _ _ c (dj _ h.dO),n,q,λk s l=>?_,v
 .obtain⟨o,z,w⟩:=h.own b i;exists o,B _ _ z (dj b i),w
 .obtain⟨u,y,t,x,j⟩:=r k s l;exists u,B _ _ y (dj _ j),t,x,j
def ã.same(h:ã a H p dx lk d kd f O m)(S:yr H H'):ã a H' p dx lk d kd f O m:=h.frame (O2:=λZ=>False) (λb o e Z=>S b o e) (λZ Z z=>z) (λz=>z)
end
inductive η(o:z4->Slt->HO)(g:Slt->Prop)(vs:Υ)(H:Hp)(Q:VK)(E':XK):Prop
 |mk(p dx:z4)(s:Slt)(_:vs=[.ref p])(_:g s)(_:H p=some (o dx s))(_:∀q dq H',H q=none->H' q=some (o dq s)->yr H H'->Q (.ref q) H')
def ytw{p dx:z4}{s:Slt}{ta:TE}{σ:St}{H:Hp}{Q:VK}{E1 E2 E3:XK}(hta:∀Q':VK,Q' (.ref p) H->ta σ H Q')(hp:H p=some (oS a dx s))(h:∀q dq H',H q=none->H' q=some (oS a dq s)->yr H H'->Q (.ref q) H'):
  yoi (Ŀ a.Ab "twin" (η (oS a) yv3) [] E1 ta ylf) (yoi (Ŀ a.A9 "twin" (η (oS a) yv2) [] E2 ta ylf) (Ŀ a.Af "twin" (η (oS a) yv4) [] E3 ta ylf)) σ H Q:=by
 cases s with
 |ev n o=>exact ş (ĭ (hta _ ⟨p,dx,_,rfl,hp,ya9,p,dx,.ev n o,rfl,trivial,hp,h⟩))
 |qk h0=>exact Û (ş (ĭ (hta _ ⟨p,dx,_,rfl,hp,Ů,p,dx,.qk h0,rfl,trivial,hp,h⟩)))
 |rn l n=>exact Û (Û (ĭ (hta _ ⟨p,dx,_,rfl,hp,ycp,p,dx,.rn l n,rfl,trivial,hp,h⟩)))
def í{H H1:Hp}{o o':HO}(nq:H q=none)(nd:H dq=none)(B:But q (upd (upd H dq o) q o') H1):yr H H1:=λb u e=>B b u (by rw[ym (yb e nq),ym (yb e nd)];exact e) (yb e nq)
open MixI
structure yg7(a:Ads)(p dx l:z4)(ws:Ρ)(H:Hp):Prop where
 o:H p=some (.ins a.Bp dx (vex (.ref l)))
 l:H l=some (.lst (ws.map V.int))
def yg7.same{p dx l:z4}{ws:Ρ}{H H':Hp}(m:yg7 a p dx l ws H)(S:yr H H'):yg7 a p dx l ws H':=⟨S _ _ m.o,S _ _ m.l⟩
def ywe{k:Nat}{cs:Ρ}(h:COk k cs){c:Int}(hm:c∈cs):Ch c:=⟨h.lo c hm,h.hi c hm⟩
def ypy{g:Int->Int->Int}{ws cs:Ρ}(h:cs.length=ws.length):(List.range (ws.map V.int).length).map (λi=>V.int (g ((ws[i]?).getD 0) ((cs[i]?).getD 0)))=(List.zipWith g ws cs).map V.int:=by rw[ba,<- yir h,bO];rfl
def yeu{H:Hp}{xs ys:Υ}(h:H D=some (.lst xs))(e:xs=ys):H D=some (.lst ys):=e ▸ h
inductive yie(K:z3)(a:Ads)(vs:Υ)(H:Hp)(Q:VK)(E':XK):Prop
 |mk(p dx l c:z4)(ws cs:Ρ)(k:Nat)(_:vs=[.ref p,.ref c])(_:1<=k)(_:k<=6)(_:WOk k ws)(_:COk k cs)(_:yg7 a p dx l ws H)(_:SqL K H c (cs.map V.int))(_:∀H',yr H H'->Q (.int (ylc ws cs)) H')
inductive yhh(K:z3)(a:Ads)(C:z4)(vs:Υ)(H:Hp)(Q:VK)(E:XK):Prop
 |mk(p dx l c:z4)(ws cs:Ρ)(k:Nat)(x:V)(n:String)(_:vs=[.ref p,.ref c,x])(_:1<=k)(_:k<=6)(_:WOk k ws)(_:COk k cs)(_:yg7 a p dx l ws H)(_:SqL K H c (cs.map V.int))(_:uh K H x (.type n))(_:(∀b:Int,x=.int b->0<=b->b<=1->∀l' H',H l'=none->yg7 a p dx l' (lrn ws cs b) H'->But p H H'->Q .non H'))(_:(ÿ x=false->E (.ref C) none H))
inductive yr4(a:Ads)(vs:Υ)(H:Hp)(Q:VK)(E':XK):Prop
 |mk(p dx l:z4)(ws:Ρ)(_:vs=[.ref p])(_:yg7 a p dx l ws H)(_:∀r H',H r=none->H' r=some (.lst (ws.map V.int))->yr H H'->Q (.ref r) H')
inductive ynr(a:Ads)(vs:Υ)(H:Hp)(Q:VK)(E':XK):Prop
 |mk(p dx:z4)(k:Nat)(_:vs=[.ref p,.int k])(_:1<=k)(_:k<=6)(_:H p=some (.ins a.Bp dx []))(_:∀l H',H l=none->yg7 a p dx l (List.replicate k 1099511627776) H'->But p H H'->Q .non H')
def yk8:V->Bool
 | .str s=>inV (.str s) [V.str "even",V.str "quick",V.str "run"]
 |_=>false
noncomputable def plV:V->Bool
 | .int i=>decide (1<=i) && decide (i<=8)
 |_=>false
noncomputable def ltV:V->V->Bool
 | .int i,.int j=>decide (i<j)
 |_,_=>false
def vg0(xs:Υ):Bool:=(List.zipWith ltV xs xs.tail).all id
def zh(xs:Υ):Bool:=decide (xs.length<=4) && xs.all plV && vg0 xs
def PlB(K:z3)(H:Hp)(x:V)(b:Bool):Prop:=(∃n,uh K H x (.type n)/\n≠"tuple"/\b=false)\/∃t xs,x=.ref t/\H t=some (.tup xs)/\xs.length<=1000/\(∀y∈xs,∃n:String,uh K H y (.type n))/\b=zh xs
def LkB(K:z3)(H:Hp)(x:V)(b:Bool):Prop:=(∃n,uh K H x (.type n)/\n≠"tuple"/\b=false) \/
 ∃t xs,x=.ref t/\H t=some (.tup xs)/\((xs.length≠2/\b=false)\/∃y z n,xs=[y,z]/\uh K H y (.type n)/\((yk8 y=false/\b=false)\/(yk8 y=true/\PlB K H z b)))
def PlB.same{H H':Hp}{x:V}{b:Bool}(h:PlB K H x b)(S:yr H H'):PlB K H' x b:=by
 rcases h with⟨n,t,g,e⟩|⟨t,a,e,j,f,i,d⟩
 .exact .inl ⟨n,Ř S t,g,e⟩
 .exact .inr ⟨t,a,e,S _ _ j,f,λy c=>let ⟨n,z⟩:=i y c;⟨n,Ř S z⟩,d⟩
theorem LkB.same{H H':Hp}{x:V}{b:Bool}(h:LkB K H x b)(S:yr H H'):LkB K H' x b:=by
 rcases h with⟨n,t,g,e⟩|⟨t,d,e,i,h⟩
 .exact .inl ⟨n,Ř S t,g,e⟩
 .refine .inr ⟨t,d,e,S _ _ i,?_⟩;rcases h with h|⟨y,z,n,f,j,h⟩
  .exact .inl h
  .refine .inr ⟨y,z,n,f,Ř S j,?_⟩;rcases h with h|⟨a,c⟩
   .exact .inl h
   .exact .inr ⟨a,c.same S⟩
def Ć{H:Hp}{x:V}{n:String}(ty:uh K H x (.type n)):W.kitOne K (.type n) (.type "tuple")=some (decide (n="tuple")):=by cases ty<;>rfl
def yd3{H:Hp}{x:V}{n:String}(ty:uh K H x (.type n)):W.kitOne K (.type n) (.type "str")=some (decide (n="str")):=by cases ty<;>rfl
def yel{H:Hp}{x:V}{n:String}(ty:uh K H x (.type n)):W.kitOne K (.type n) (.type "list")=some (decide (n="list")):=by cases ty<;>rfl
def ytp{xs:Υ}{y:V}(h:xs.tail[i]?=some y):xs[i+1]?=some y:=by
 cases xs with
 |nil=>simp at h
 |cons x r=>simpa using h
def yib(xs:Υ):(List.range xs.tail.length).map (λi=>V.bl (ltV ((xs[i]?).getD .non) ((xs.tail[i]?).getD .non)))=(List.zipWith ltV xs xs.tail).map V.bl:=by
 apply List.ext_getElem
 .rw[ba,bQ,ba,List.length_zipWith,List.length_tail];omega
 .intro i a c;rw[ba,bQ]at a;have b:i<xs.length:=by rw[List.length_tail]at a;omega
  rw[cC,List.getElem_range,cC,List.getElem_zipWith,bc a,bc b];rfl
def yjn{t u:z4}{xs:Υ}{te:TE}{fr:St}{R:Hp->Prop}{H1:Hp}(hint:∀y∈xs,∃i:Int,y=.int i)(hl:xs.length<=1000)(ht:SqT K H1 t xs)(hu:SqT K H1 u xs.tail)(hD:H1 D=none)
  (hte:∀(i j:Int)(σ':St)(H':Hp)(Q':VK),Q' (.bl (decide (i<j))) H'->te (some (.int i)::some (.int j)::σ') H' Q') (hR:∀H,yr H1 H->H D=some (.lst ((List.zipWith ltV xs xs.tail).map V.bl))->R H):
  j6 (vey K t u) (yvx K 2 (zq (xo 0) (zq (xo 1) yle))) te 2 fr D R H1:=by
 refine yc7 (m:=xs.tail.length) (λi=>V.bl (ltV ((xs[i]?).getD .non) ((xs.tail[i]?).getD .non))) ht hu (by rw[List.length_tail];omega) (bf _) (.inr (bf _)) hD (λi x y h l z w n r k a e f=>?_) (λh k a=>?_)
 .obtain⟨v,s,rfl⟩:=yj6 f;let⟨c,rfl⟩:=hint x (bB n);let⟨d,rfl⟩:=hint y (bB (ytp r));have p:=k.trans (yz (o:=HO.tup [V.int c,V.int d]) e);have g:=zi (o':=HO.tup [V.int c,V.int d]) e a;have b:upd h l (HO.tup [V.int c,V.int d]) l=some (.tup [V.int c,V.int d]):=ya;generalize upd h l (HO.tup [V.int c,V.int d])=q at p g b;refine ü (SqT.of b) rfl ?_;show zq (xo 0) (zq (xo 1) yle) [V.int c,V.int d] (v::s::fr) q _;ext;exists⟨[some (.int c),some (.int d)],rfl,rfl⟩,?_;refine hte c d fr q _ ?_;refine Mp.doneR hD (vh (by rw[List.length_tail];omega)) w p g ?_;rw[n,r];rfl
 .exact hR h k (by rw[<- yib];exact a)
def yi1(xs:Υ):ya0 xs (some 1) none=xs.tail:=by
 unfold ya0
 have e:HT.sIx xs.length 0 (some 1)=min 1 xs.length:=by
  have:=HT.sIx_nat xs.length 0 1;simpa using this
 rw[HT.sIx_none,e]
 cases xs with
 |nil=>rfl
 |cons x r=>simp
def ymi{n:Nat}(bs:qi Bool)(h:n=bs.length):(List.range n).map (λi=>V.bl ((bs[i]?).getD false))=bs.map V.bl:=by
 subst h;apply List.ext_getElem
 .rw[ba,bQ,ba]
 .intro i a b;rw[ba,bQ]at a;rw[cC,List.getElem_range,cC,bc a];rfl
def vgw(K:z3)(H:Hp)(xs:Υ)(bs:qi Bool):Prop:=xs.length=bs.length/\∀(i:Nat)(y:V)(b:Bool),xs[i]?=some y->bs[i]?=some b->LkB K H y b
def LkG(H:Hp)(v:V)(kd:Fin 3)(tp:z4)(ps:Ρ):Prop:=∃lk,v=.ref lk/\H lk=some (.tup [.str (kdS kd),.ref tp])/\H tp=some (.tup (ps.map V.int))/\zh (ps.map V.int)=true
def LkG.same{H H':Hp}{v:V}{kd:Fin 3}{tp:z4}{ps:Ρ}(h:LkG H v kd tp ps)(S:yr H H'):LkG H' v kd tp ps:=by let⟨d,e,b,c,a⟩:=h;exists d,e,S _ _ b,S _ _ c,a
def yva(kd:Fin 3):yk8 (.str (kdS kd))=true:=by
 match kd with
 |0=>rfl
 |1=>rfl
 |2=>rfl
def je{xs:Υ}(h:zh xs=true):xs.length<=4:=by unfold zh at h;rw[bL,bL]at h;exact of_decide_eq_true h.1.1
def LkG.tells{H:Hp}{v:V}{kd:Fin 3}{tp:z4}{ps:Ρ}(h:LkG H v kd tp ps):LkB K H v true:=by let⟨d,e,b,c,a⟩:=h;have:=je a;refine .inr ⟨d,_,e,b,.inr ⟨_,_,"str",rfl,.str _,.inr ⟨yva kd,.inr ⟨tp,_,rfl,c,(),λy f=>?_,a.symm⟩⟩⟩⟩;let⟨i,_,rfl⟩:=bg.mp f;exists _,.int i
theorem yps:∀{ps:Ρ},ps.Pairwise (· < ·)->vg0 (ps.map V.int)=true
 |[],_=>rfl
 |[_],_=>rfl
 |p::q::r,h=>by
  have b:p<q:=(List.pairwise_cons.mp h).1 q (by simp);have a:=yps (List.pairwise_cons.mp h).2;unfold vg0 at a⊢;simp only[bS,List.tail_cons,List.zipWith_cons_cons,List.all_cons]at a⊢;rw[show ltV (V.int p) (V.int q)=true from bn b];simpa using a
def yhj{ps:Ρ}(h1:ps.length<=4)(h2:∀p∈ps,1<=p/\p<=8)(h3:ps.Pairwise (· < ·)):zh (ps.map V.int)=true:=by unfold zh;rw[ba,bn h1,yps h3,Bool.true_and,Bool.and_true,List.all_eq_true];intro y b;let⟨i,a,rfl⟩:=bg.mp b;have:=h2 i a;show (decide (1<=i) && decide (i<=8))=true;rw[bn this.1,bn this.2];rfl
def Lks(H:Hp)(xs:Υ):Prop:=∀y∈xs,∃kd tp ps,LkG H y kd tp ps
def Lks.bs{H:Hp}{xs:Υ}(h:Lks H xs):vgw K H xs (List.replicate xs.length true):=by
 exists by rw[List.length_replicate],λi y b a c=>?_
 have d:b=true:=List.eq_of_mem_replicate (bB c);let⟨e,g,f,z⟩:=h y (bB a);rw[d];exact z.tells
def yj0(n:Nat):(List.replicate n true).all id=true:=by simp
def vic(K:z3)(H:Hp)(x:V):Prop:=(∃n,uh K H x (.type n)/\n≠"list")\/∃l xs bs,x=.ref l/\H l=some (.lst xs)/\xs.length<=1000/\vgw K H xs bs/\¬(1<=xs.length/\xs.length<=6/\bs.all id=true)
theorem LkG.upd{H:Hp}{v:V}{kd:Fin 3}{tp l:z4}{ps:Ρ}{xs ys:Υ}(h:LkG H v kd tp ps)(hl:H l=some (.lst xs)):LkG (L2.upd H l (.lst ys)) v kd tp ps:=by let⟨d,e,a,b,c⟩:=h;exists d,e,ye (w8 a hl (by intro z;cases z)) a,ye (w8 b hl (by intro z;cases z)) b,c
noncomputable def upN{α:Type}(g:Nat->α)(n:Nat)(x:α):Nat->α:=λj=>if j=n then x else g j
def wq{α:Type}{g:Nat->α}{n:Nat}{x:α}:upN g n x n=x:=if_pos rfl
def wj{α:Type}{g:Nat->α}{n:Nat}{x:α}(h:j<n):upN g n x j=g j:=if_neg ()
def yut(c:Int):∃kk:Fin 3,atI [V.str "even",V.str "quick",V.str "run"] (c%3)=some (V.str (kdS kk)):=by
 have b:0<=c%3:=cA _ ∅;have a:c%3<3:=cr _ ∅;generalize c%3=z at b a;obtain rfl|rfl|rfl:z=0\/z=1\/z=2:=()
 .exact⟨0,rfl⟩
 .exact⟨1,rfl⟩
 .exact⟨2,rfl⟩
def x9(H:Hp)(n:Nat)(lk:Μ)(kd:Ξ)(tp:Μ)(ps:Λ):Prop:=∀i,i<n->LkG H (.ref (lk i)) (kd i) (tp i) (ps i)
theorem x9.same{H H':Hp}{n:Nat}{lk:Μ}{kd:Ξ}{ps:Λ}(h:x9 H n lk kd tp ps)(S:yr H H'):x9 H' n lk kd tp ps:=λi a=>(h i a).same S
structure Sd(K:z3)(H:Hp)(v:V)(d:PyData)(k:Nat):Prop where
 rd:RdV K H v d
 lay:d.canLay0=true
 dep:d.depth<=k
 eq:PyData.eqv d d=true
structure Sds(K:z3)(H:Hp)(xs:Υ)(ds:qi PyData)(k:Nat):Prop where
 rd:yrz K H xs ds
 lay:PyData.canLayAll0 ds=true
 dep:PyData.depthAll ds<=k
 eq:PyData.eqvAll ds ds=true
local macro_rules | `(#synth $n:ident $a $b)=>`(theorem $n : yi $a $a (yd $b):=wc (by decide +kernel)) | `(#synth $n:ident $a $b $c)=>`(theorem $n : yi $a $b (yd $c):=wc (by decide +kernel))
#synth vfp ["thing"] vhr
inductive ydc(K:z3)(vs:Υ)(H:Hp)(Q:VK)(E':XK):Prop
 |mk(x n:_)(_:vs=[x])(_:uh K H x (.type n))(_:Q (.bl (ξ x)) H)
variable(T:Txt K mg a)
def yk9:vo P w K mg Γ CX0 1 a.Rf a.Rt ["thing"] (ydc K):=by
 exists T.Fz.F.ok,vfp,g;let⟨x,n,rfl,b,k⟩:=h;exists 1,0,yc (yn (ji (pcB wn T.A5 (pac (pv 0) (pa1 (jj (T:="int") rfl T.R0 (by right))))) (Þ (yyh (pcB wn T.A5 (pac (pv 0) (pa1 (jj (T:="bool") rfl T.R9 (by right)))))))));refine à b (yr8 b) ?_;ext
 cases hx:yot x with
 |false =>
  have e:ξ x=false:=by
   cases x<;>first|rfl|cases hx
  rw[e]at k;exact jc k
 |true =>
  have e:ξ x=!yi2 x:=by
   cases x<;>first|rfl|cases hx
  rw[e]at k;refine ν ?_;ext;refine à b (yms b) ?_;ext;exact k
#synth vfu ["thing"] vhd
inductive yin(K:z3)(vs:Υ)(H:Hp)(Q:VK)(E':XK):Prop
 |mk(x n:_)(_:vs=[x])(_:uh K H x (.type n))(_:Q (.bl (ÿ x)) H)
def vfq:vo P w K mg Γ CX0 2 a.Rg a.Ru ["thing"] (yin K):=by
 exists T.Se.F.ok,vfu,g;let⟨x,n,rfl,j,k⟩:=h;exists 1,0,yc (yn (ji (xp (yk9 T) g.m T.Fz (pa1 (pv 0))) (Þ (Ó jr jr yh (pv 0) yh))));exists x,n,rfl,j,?_;ext
 cases hx:ξ x with
 |false =>
  have e:ÿ x=false:=by
   cases x<;>first|rfl|cases hx
  rw[e]at k;exact jc k
 |true =>
  let⟨i,rfl⟩:=jd hx;refine ν ?_;ext;refine zn (λb=>?_) (λb=>?_)
  .ext;have e:ÿ (.int i)=decide (i<=1):=by simp[ÿ,b]
   rw[e]at k;exact k
  .have e:ÿ (.int i)=false:=by simp[ÿ,b]
   rw[e]at k;exact k
#synth vf1 ["thing"] vg4
inductive ya5(K:z3)(vs:Υ)(H:Hp)(Q:VK)(E':XK):Prop
 |mk(x n:_)(_:vs=[x])(_:uh K H x (.type n))(_:Q (.bl (chV x)) H)
def vgl:vo P w K mg Γ CX0 2 a.Rh a.Rv ["thing"] (ya5 K):=by
 exists T.Sf.F.ok,vf1,g;let⟨x,n,rfl,j,k⟩:=h;exists 1,0,yc (yn (ji (xp (yk9 T) g.m T.Fz (pa1 (pv 0))) (Þ (Ó jr jr (vz rfl T.Cn) (pv 0) (yo zy (vz rfl T.C7) (vz rfl T.Cn))))));exists x,n,rfl,j,?_;ext
 cases hx:ξ x with
 |false =>
  have e:chV x=false:=by
   cases x<;>first|rfl|cases hx
  rw[e]at k;exact jc k
 |true =>
  let⟨i,rfl⟩:=jd hx;refine ν ?_;ext;refine zn (λb=>?_) (λb=>?_)
  .ext;have e:chV (.int i)=decide (i<=16777216-32768):=by simp[chV,b]
   rw[e]at k;exact k
  .have e:chV (.int i)=false:=by simp[chV,b]
   rw[e]at k;exact k
#synth vgg ["thing"] vg9
inductive ygk(K:z3)(vs:Υ)(H:Hp)(Q:VK)(E':XK):Prop
 |mk(x n:_)(_:vs=[x])(_:uh K H x (.type n))(_:Q (.bl (sgV x)) H)
def vf6:vo P w K mg Γ CX0 2 a.Ri a.Rw ["thing"] (ygk K):=by
 exists T.Sh.F.ok,vgg,g;let⟨x,n,rfl,j,k⟩:=h;exists 1,0,yc (yn (ji (xp (yk9 T) g.m T.Fz (pa1 (pv 0))) (Þ (Ó jr jr yh (pv 0) yh))));exists x,n,rfl,j,?_;ext
 cases hx:ξ x with
 |false =>
  have e:sgV x=false:=by
   cases x<;>first|rfl|cases hx
  rw[e]at k;exact jc k
 |true =>
  let⟨i,rfl⟩:=jd hx;refine ν ?_;ext;refine zn (λb=>?_) (λb=>?_)
  .ext;have e:sgV (.int i)=decide (i<=255):=by simp[sgV,b]
   rw[e]at k;exact k
  .have e:sgV (.int i)=false:=by simp[sgV,b]
   rw[e]at k;exact k
#synth vf2 ["thing","most"] vhs
inductive yz6(K:z3)(vs:Υ)(H:Hp)(Q:VK)(E':XK):Prop
 |mk(x n m:_)(_:vs=[x,.int m])(_:uh K H x (.type n))(_:((Bad K H x n m/\∀H',yr H H'->Q (.bl false) H')\/∃xs,veu K H x xs m/\∀H',yr H H'->Q (.bl true) H'))
def vdh:vo P w K mg Γ CX0 3 a.Rj a.Rx ["thing","most"] (yz6 K):=by
 exists T.R4.F.ok,vf2,W;let⟨x,n,m,rfl,B,h⟩:=h
 have J:(n≠"list"/\∀d,yr H d->Q (.bl false) d)\/∃p xs,x=.ref p/\H p=some (.lst xs)/\yn9 K H xs/\xs.length<=100000/\∀d,yr H d->Q (.bl (decide ((xs.length:Int)<=m) && xs.all sgV)) d:=by
  rcases h with⟨h|⟨p,xs,e,c,t,l,v⟩,k⟩|⟨xs,⟨p,e,c,t,l,v⟩,k⟩
  .exact .inl ⟨h,k⟩
  .exact .inr ⟨p,xs,e,c,t,l,λd S=>by rw[v];exact k d S⟩
  .exact .inr ⟨p,xs,e,c,t,l,λd S=>by rw[v];exact k d S⟩
 exists 2,0,yc (yn (ji (pcB wn T.A5 (pac (pv 0) (pa1 (jj (T:="list") rfl T.Ad (by right))))) (ji (u7 jr (pcB yp T.A7 (pa1 (pv 0))) (pv 1) (y9 _)) (Þ (pcB (jo rfl) T.Cz (pa1 (vx (js:=[]) (ys:=[]) rfl (we (pv 0)) (λC s2 H2 Z=>(xp (vf6 T) W.m T.Sh (pa1 (pv 0)))) rfl rfl (hyc:=yy) (hrel:=yy))))))));refine à B (yr5 B) ?_;ext;rcases J with⟨L,k⟩|⟨p,xs,rfl,c,O,l,k⟩
 .refine ydu L ?_;ext;exact k _ (yr.refl _)
 .have L:n="list":=by
   cases B with
   |lst e=>rfl
   |frz e=>rfl
   |tup e=>rw[c]at e;cases e
   |dK e=>rw[c]at e;cases e
   |dT e=>rw[c]at e;cases e
  refine yav L ?_;ext;refine u5 (SqL.of c) ?_;ext;refine zn (λr=>?_) (λr=>?_)
  .rw[bn r,Bool.true_and]at k;ext;exists p,rfl,⟨_,SqL.of c⟩,λD u=>?_;have Y:p≠D:=yb c u;refine zf (K:=K) (a:=p) (xs:=xs) (λi g=>g D=some (.lst (((xs.take i).map sgV).map V.bl))/\yr H g)
    ⟨ya,yz u⟩ (λi g F q=>SqL.of (q.2 _ _ c)) ?_ ?_
   .rintro i y g N G ⟨f,j⟩;ext;let⟨X,I⟩:=O y (bB N);exists y,X,rfl,Ř j I,?_;refine x8 f (by rw[ba,ba,bU];exact ymy ()) G ⟨ya.trans ?_,λb o e=>ye (λz=>?_) (j _ _ e)⟩
    .rw[List.take_succ,N];simp
    .subst z;rw[u]at e;cases e
   .rintro g ⟨f,j⟩;ext;exists D,_,rfl,SqL.of f,?_;rw[bZ (bf _),List.all_map];exact k _ j
  .rw[bo r,Bool.false_and]at k;ext;exact k _ (yr.refl _)
#synth vfe ["thing"] vhx
def yg3:vo P w K mg Γ (CXe P w) 4 a.Rk a.Ry ["thing"] (ŋ K a.Kp 1000):=by
 exists T.F0.F.okE,vfe,o;let⟨x,n,rfl,t,h⟩:=h;exists 1,0,yf (v9 (xt (xy (xp (vdh T) o.m T.R4 (pac (pv 0) (pa1 (vz rfl T.C8)))))) (yc (wx rfl T.Tl T.Tq (pa1 vg))) y7) (yc (yn (pcT wg T.Ad (pa1 (pv 0)))));exists x,n,_,rfl,t,?_;rcases h with⟨i,k⟩|⟨e,f,k⟩
 .refine .inl ⟨i,λg c=>?_⟩;ext;exists by walk_at "len",k _ c
 .refine .inr ⟨e,f,λg c=>?_⟩;let⟨p,rfl,q,_⟩:=f;ext;exists p,e,rfl,.inl (SqL.of (c _ _ q)),λr b=>?_;exact k r _ (c.free b) ya (c.trans (yz b))
#synth ve5 ["thing"] vhe
def vfn:vo P w K mg Γ (CXe P w) 4 a.Rl a.Rz ["thing"] (ŋ K a.Hs 12000):=by
 exists T.Si.F.okE,ve5,o;let⟨x,n,rfl,t,h⟩:=h;exists 1,0,yf (v9 (xt (xy (xp (vdh T) o.m T.R4 (pac (pv 0) (pa1 (vz rfl T.Du)))))) (yc (wx rfl T.Tm T.Tr (pa1 vg))) y7) (yc (yn (pcT wg T.Ad (pa1 (pv 0)))));exists x,n,_,rfl,t,?_;rcases h with⟨i,k⟩|⟨e,f,k⟩
 .refine .inl ⟨i,λg c=>?_⟩;ext;exists by walk_at "len",k _ c
 .refine .inr ⟨e,f,λg c=>?_⟩;let⟨p,rfl,q,_⟩:=f;ext;exists p,e,rfl,.inl (SqL.of (c _ _ q)),λr b=>?_;exact k r _ (c.free b) ya (c.trans (yz b))
#synth vfo ["thing"] vhg
noncomputable def yvu:V->Bool
 | .int i=>decide (0<=i) && decide (i<=1000)
 |_=>false
def yy8{m:Nat}(h:m<=1000):yvu (.int m)=true:=by show (decide ((0:Int)<=m) && decide ((m:Int)<=1000))=true;rw[bn (),bn ()];rfl
inductive yl3(K:z3)(C:z4)(vs:Υ)(H:Hp)(Q:VK)(E:XK):Prop
 |mk(x n:_)(_:vs=[x])(_:uh K H x (.type n))(_:(yvu x=true->Q .non H))(_:(yvu x=false->E (.ref C) none H))
def vfl:vo P w K mg Γ (CXe P w) 2 a.Rm a.Sa ["thing"] (yl3 K a.Bx):=by
 exists T.Sj.F.okE,vfo,k;let⟨x,n,rfl,o,l,f⟩:=h;exists 1,0,yc (v9 (PW.pt (ł (xt (xy (xp (yk9 T) k.m T.Fz (pa1 (pv 0))))) (į (xt (yae jr jr yh (pv 0) (vz rfl T.C8)))))) (yc (wx rfl T.Ki T.Kk (pa1 vg))) y7);exists x,n,rfl,o,?_;ext
 cases hx:ξ x with
 |false =>
  have e:yvu x=false:=by
   cases x<;>first|rfl|cases hx
  ext;exists by walk_at "len",f e
 |true =>
  let⟨i,rfl⟩:=jd hx;ext;refine zn (λc=>?_) (λc=>?_)
  .ext;refine yr1 (λb=>?_) (λb=>?_)
   .ext;exact l (by simp[yvu,c,b])
   .ext;exists by walk_at "len",f (by simp[yvu,b])
  .ext;exists by walk_at "len",f (by simp[yvu,c])
#synth vfy ["thing"] vhm
inductive Ċ(K:z3)(C:z4)(vs:Υ)(H:Hp)(Q:VK)(E:XK):Prop
 |mk(x n:_)(_:vs=[x])(_:uh K H x (.type n))(_:(chV x=true->Q .non H))(_:(chV x=false->E (.ref C) none H))
def yvg:vo P w K mg Γ (CXe P w) 3 a.Rn a.Sb ["thing"] (Ċ K a.Ev):=by
 exists T.Kr.F.okE,vfy,f;let⟨x,n,rfl,i,g,c⟩:=h;exists 1,0,yc (v9 (xt (xy (xp (vgl T) f.m T.Sf (pa1 (pv 0))))) (yc (wx rfl T.Tn T.Ts (pa1 vg))) y7);exists x,n,rfl,i,?_;ext
 cases hx:chV x with
 |false =>
  ext;exists by walk_at "len",c hx
 |true =>
  ext;exact g hx
#synth yxz ["thing"] veg
inductive ybb(K:z3)(C:z4)(vs:Υ)(H:Hp)(Q:VK)(E:XK):Prop
 |mk(x n:_)(_:vs=[x])(_:uh K H x (.type n))(_:(ÿ x=true->Q .non H))(_:(ÿ x=false->E (.ref C) none H))
def ī:vo P w K mg Γ (CXe P w) 3 a.L9 a.No ["thing"] (ybb K a.Bm):=by
 exists T.Ci.F.okE,yxz,f;let⟨x,n,rfl,i,g,c⟩:=h;exists 1,0,yc (v9 (xt (xy (xp (vfq T) f.m T.Se (pa1 (pv 0))))) (yc (wx rfl T.Tp T.Tt (pa1 vg))) y7);exists x,n,rfl,i,?_;ext
 cases hx:ÿ x with
 |false =>
  ext;exists by walk_at "len",c hx
 |true =>
  ext;exact g hx
#synth yw3 ["chance","bit"] vbj
inductive ym3(K:z3)(C D:z4)(vs:Υ)(H:Hp)(Q:VK)(E:XK):Prop
 |mk(x n y m:_)(_:vs=[x,y])(_:uh K H x (.type n))(_:uh K H y (.type m))(_:(chV x=false->E (.ref C) none H))(_:(chV x=true->ÿ y=false->E (.ref D) none H))(_:(∀c b,x=.int c->y=.int b->chV x=true->ÿ y=true->Q (.int (gvv c b)) H))
def yo0:vo P w K mg Γ (CXe P w) 4 a.La a.Np ["chance","bit"] (ym3 K a.Ev a.Bm):=by
 exists T.Im.F.okE,yw3,g;let⟨x,n,y,m,rfl,j,t,r,l,q⟩:=h;exists 2,0,yf (yu (uo (yvg T) g.m T.Kr yv (pa1 (pv 0)))) (yf (yu (uo (ī T) g.m T.Ci yv (pa1 (pv 1)))) (yc (yn (jp (yx xl (pv 1) yh (y9 _)) (pv 0) (yo zy (vz rfl T.C7) (pv 0))))));exists x,n,rfl,j,λd=>?_,r;ext;exists y,m,rfl,t,λi=>?_,l d;let⟨c,rfl,u,v⟩:=ydq d;let⟨b,rfl,B,z⟩:=yef i;ext;have k:=q c b rfl rfl d i;unfold gvv at k;refine zn (λe=>?_) (λe=>?_)
 .rw[if_pos e]at k;ext;exact k
 .rw[if_neg e]at k;ext;exact k
#synth yxf ["self"] vej
def yqd:vo P w K mg Γ CX0 1 a.Ge a.Nq ["self"] (yag a.Ab (jh (.int 0) (.int 0))):=by exists T.Io.F.ok,yxf,f;let⟨p,c,rfl,g,k⟩:=h;exists 1,0,yf (ve (pv 0) yh rfl) (yc (ve (pv 0) yh rfl));exact k _ ya (But.upd.trans But.upd)
#synth yzu ["self"] vci
def yzn:vo P w K mg Γ CX0 1 a.Lb a.Nr ["self"] (u9 (oS a) yv3):=by
 exists T.Ip.F.ok,yzu,r;let⟨p,c,j,rfl,d,f,e,k⟩:=h
 cases j with
 |ev n o =>
  let⟨l,m,q⟩:=f;have e:H p=some (.ins a.Ab c (jh (.int n) (.int o))):=e;exists 1,0,yc (yn (yo vq (yo xg (yo wb (yo xg yh (yk (pv 0) rfl)) yh) (vz rfl T.C7)) (yo wb (yo xg yh (yo wb (yk (pv 0) rfl) (yk (pv 0) rfl))) yh)));exact k
 |qk _=>exact d.elim
 |rn _ _=>exact d.elim
#synth yzl ["self","bit"] vem
def yyd:vo P w K mg Γ (CXe P w) 4 a.Lc a.Nt ["self","bit"] (ζ K (oS a) yv3 a.Bm):=by
 exists T.Iq.F.okE,yzl,u;let⟨p,f,D,x,j,rfl,g,z,i,y,v,B⟩:=h
 cases D with
 |ev n o =>
  let⟨I,G,J⟩:=z;have i:H p=some (.ins a.Ab f (jh (.int n) (.int o))):=i;exists 2,0,yf (yu (uo (ī T) u.m T.Ci yv (pa1 (pv 1)))) (yf (v9 (yx xl (pv 1) yh (y9 _)) (yc (ve (pv 0) (yo wb (yk (pv 0) rfl) yh) rfl)) (yc (ve (pv 0) (yo wb (yk (pv 0) rfl) yh) rfl))) (yc (v9 (yx ylb (yo wb (yk (pv 0) rfl) (yk (pv 0) rfl)) (vz rfl T.Bj) (y9 _)) (yf (ve (pv 0) (yo vq (yo wb (yk (pv 0) rfl) yh) yh) rfl) (yc (ve (pv 0) (yo vq (yo wb (yk (pv 0) rfl) yh) yh) rfl))) y7)));exists x,j,rfl,y,λr=>?_,B;let⟨b,rfl,l,C⟩:=yft r;have k:=v b rfl l C;unfold Slt.see at k;dsimp only at k;ext;refine zn (λd=>?_) (λd=>?_)
  .rw[if_pos d]at k;unfold ydw at k;ext;refine zn (λc=>?_) (λc=>?_)
   .rw[if_pos c]at k;ext;exact k _ ya ((But.upd.trans But.upd).trans But.upd)
   .rw[if_neg c]at k;ext;exact k _ ya But.upd
  .rw[if_neg d]at k;unfold ydw at k;ext;refine zn (λc=>?_) (λc=>?_)
   .rw[if_pos c]at k;ext;exact k _ ya ((But.upd.trans But.upd).trans But.upd)
   .rw[if_neg c]at k;ext;exact k _ ya But.upd
 |qk _=>exact g.elim
 |rn _ _=>exact g.elim
#synth yrm ["self","made"] ["self"] vbh
def va2:vo P w K mg Γ CX0 3 a.Ld a.Nu ["self"] (η (oS a) yv3):=by
 exists T.Ir.F.ok,yrm,G;let⟨p,v,s,rfl,x,d,k⟩:=h
 cases s with
 |qk _=>exact x.elim
 |rn _ _=>exact x.elim
 |ev n o =>
 have d:H p=some (.ins a.Ab v (jh (.int n) (.int o))):=d;exists 1,1,yf (yt (i:=1) yrm.nd rfl (Or.inl rfl) (zw T.Ka (yqd T) G.m rfl T.K9 T.Io.B .nil vn)) (yf (ve (pv 1) (yk (pv 0) rfl) rfl) (yf (ve (pv 1) (yk (pv 0) rfl) rfl) (yc (yn (pv 1)))));intro q g c r L;exists q,g,rfl,ya,λJ I y=>⟨rfl,?_⟩;have t:=í c r y;have f:=t _ _ d;have l:p≠q:=yb d c;ext;have z:=ye (o':=HO.ins a.Ab g (jh (.int n) (.int 0))) l f;ext;exact k q g _ c ya λb u e=>ye (yb e c) (ye (yb e c) (t _ _ e))
#synth yy0 ["self"] vbe
def yqw:vo P w K mg Γ CX0 1 a.Gf a.Nv ["self"] (yag a.A9 (zj (.int 8388608))):=by exists T.Is.F.ok,yy0,f;let⟨p,c,rfl,g,k⟩:=h;exists 1,0,yc (ve (pv 0) (yo vq (vz rfl T.C7) yh) rfl);exact k _ ya But.upd
#synth yye ["self"] vcu
def ywb:vo P w K mg Γ CX0 1 a.Le a.Nw ["self"] (u9 (oS a) yv2):=by
 exists T.Iu.F.ok,yye,l;let⟨p,c,i,rfl,d,j,e,k⟩:=h
 cases i with
 |qk h0 =>
  have e:H p=some (.ins a.A9 c (zj (.int h0))):=e;exists 1,0,yc (yn (yk (pv 0) rfl));exact k
 |ev _ _=>exact d.elim
 |rn _ _=>exact d.elim
#synth ykj ["self","bit","moved"] ["self","bit"] vdi
def ywx:vo P w K mg Γ (CXe P w) 4 a.Lf a.Ny ["self","bit"] (ζ K (oS a) yv2 a.Bm):=by
 exists T.Iv.F.okE,ykj,t;let⟨p,e,C,x,j,rfl,f,y,g,v,u,z⟩:=h
 cases C with
 |qk h0 =>
  let⟨G,D⟩:=y;have g:H p=some (.ins a.A9 e (zj (.int h0))):=g;exists 2,1,yf (yu (uo (ī T) t.m T.Ci yv (pa1 (pv 1)))) (yf (v9 (yx xl (pv 1) yh (y9 _)) (yc (yt (i:=2) ykj.nd rfl (Or.inl rfl) (yo wb (yk (pv 0) rfl) (yo vq (yo zy (vz rfl T.C7) (yk (pv 0) rfl)) yh)))) (yc (yt (i:=2) ykj.nd rfl (Or.inl rfl) (yo zy (yk (pv 0) rfl) (yo vq (yk (pv 0) rfl) yh))))) (yc (ve (pv 0) (pcB (Ğ rfl) T.Km (pac (pcB (ğ rfl) T.Kn (pac (pv 2) (pa1 (vz rfl T.Cn)))) (pa1 (yo zy (vz rfl T.C7) (vz rfl T.Cn))))) rfl)));exists x,j,rfl,v,λq=>?_,z;let⟨b,rfl,l,B⟩:=yft q;have k:=u b rfl l B;unfold Slt.see at k;dsimp only at k;ext;refine zn (λc=>?_) (λc=>?_)
  .rw[if_pos c]at k;ext;exists _,_,rfl,?_;ext;exists _,_,rfl,?_;ext;exact k _ ya But.upd
  .rw[if_neg c]at k;ext;exists _,_,rfl,?_;ext;exists _,_,rfl,?_;ext;exact k _ ya But.upd
 |ev _ _=>exact f.elim
 |rn _ _=>exact f.elim
#synth ypq ["self","made"] ["self"] vdt
def yxo:vo P w K mg Γ CX0 3 a.Lg a.Nz ["self"] (η (oS a) yv2):=by
 exists T.Iw.F.ok,ypq,y;let⟨p,n,s,rfl,o,c,k⟩:=h
 cases s with
 |ev _ _=>exact o.elim
 |rn _ _=>exact o.elim
 |qk h0 =>
 have c:H p=some (.ins a.A9 n (zj (.int h0))):=c;exists 1,1,yf (yt (i:=1) ypq.nd rfl (Or.inl rfl) (zw T.Fo (yqw T) y.m rfl T.Fn T.Is.B .nil vn)) (yf (ve (pv 1) (yk (pv 0) rfl) rfl) (yc (yn (pv 1))));intro q l f g D;exists q,l,rfl,ya,λC z t=>⟨rfl,?_⟩;have j:=í f g t;have r:=j _ _ c;ext;exact k q l _ f ya λb u e=>ye (yb e f) (j _ _ e)
#synth yxt ["self"] vdw
def ypd:vo P w K mg Γ CX0 1 a.Gg a.O0 ["self"] (yag a.Af (ñ (.int 1) (.int 0))):=by exists T.Ix.F.ok,yxt,f;let⟨p,c,rfl,g,k⟩:=h;exists 1,0,yf (ve (pv 0) yh rfl) (yc (ve (pv 0) yh rfl));exact k _ ya (But.upd.trans But.upd)
#synth yrb ["self","given"] ["self"] vcx
def va9:vo P w K mg Γ CX0 1 a.Lh a.O4 ["self"] (u9 (oS a) yv4):=by
 exists T.Iy.F.ok,yrb,v;let⟨p,d,o,rfl,e,g,f,k⟩:=h
 cases o with
 |rn l n =>
  let⟨q,r,t,u⟩:=g;have f:H p=some (.ins a.Af d (ñ (.int l) (.int n))):=f;exists 1,1,yf (yt (i:=1) yrb.nd rfl (Or.inl rfl) (yo vq (yo xg (yo wb (yo xg yh (yk (pv 0) rfl)) yh) (vz rfl T.C7)) (yo wb (yo xg yh (yk (pv 0) rfl)) yh))) (yc (yn (jp (yx xl (yk (pv 0) rfl) yh (y9 _)) (pv 1) (yo zy (vz rfl T.C7) (pv 1)))));have k:Q (.int (if l=1 then ú n else 16777216-ú n)) H:=k;refine zn (λb=>?_) (λb=>?_)
  .rw[if_pos b]at k;ext;exact k
  .rw[if_neg b]at k;ext;exact k
 |ev _ _=>exact e.elim
 |qk _=>exact e.elim
#synth yv9 ["self","bit"] vco
def ywi:vo P w K mg Γ (CXe P w) 4 a.Li a.O5 ["self","bit"] (ζ K (oS a) yv4 a.Bm):=by
 exists T.Iz.F.okE,yv9,t;let⟨p,e,C,x,i,rfl,f,y,g,v,u,z⟩:=h
 cases C with
 |rn l n =>
  let⟨I,G,J,D⟩:=y;have g:H p=some (.ins a.Af e (ñ (.int l) (.int n))):=g;exists 2,0,yf (yu (uo (ī T) t.m T.Ci yv (pa1 (pv 1)))) (yc (v9 (yx xl (pv 1) (yk (pv 0) rfl) (y9 _)) (yc (ve (pv 0) (pcB (Ğ rfl) T.Km (pac (yo wb (yk (pv 0) rfl) yh) (pa1 (vz rfl T.Bj)))) rfl)) (yf (ve (pv 0) (pv 1) rfl) (yc (ve (pv 0) yh rfl)))));exists x,i,rfl,v,λq=>?_,z;let⟨b,rfl,j,B⟩:=yft q;have k:=u b rfl j B;unfold Slt.see at k;dsimp only at k;ext;refine zn (λc=>?_) (λc=>?_)
  .rw[if_pos c]at k;ext;exists _,_,rfl,?_;ext;exact k _ ya But.upd
  .rw[if_neg c]at k;ext;exact k _ ya (But.upd.trans But.upd)
 |ev _ _=>exact f.elim
 |qk _=>exact f.elim
#synth yrc ["self","made"] ["self"] ved
def yz9:vo P w K mg Γ CX0 3 a.Lj a.O6 ["self"] (η (oS a) yv4):=by
 exists T.J0.F.ok,yrc,G;let⟨p,v,s,rfl,x,d,k⟩:=h
 cases s with
 |ev _ _=>exact x.elim
 |qk _=>exact x.elim
 |rn l n =>
 have d:H p=some (.ins a.Af v (ñ (.int l) (.int n))):=d;exists 1,1,yf (yt (i:=1) yrc.nd rfl (Or.inl rfl) (zw T.Qz (ypd T) G.m rfl T.Qy T.Ix.B .nil vn)) (yf (ve (pv 1) (yk (pv 0) rfl) rfl) (yf (ve (pv 1) (yk (pv 0) rfl) rfl) (yc (yn (pv 1)))));intro q g c r L;exists q,g,rfl,ya,λJ I y=>⟨rfl,?_⟩;have t:=í c r y;have f:=t _ _ d;have o:p≠q:=yb d c;ext;have z:=ye (o':=HO.ins a.Af g (ñ (.int l) (.int 0))) o f;ext;exact k q g _ c ya λb u e=>ye (yb e c) (ye (yb e c) (t _ _ e))
#synth yzy ["kind"] vb0
inductive ygt(a:Ads)(vs:Υ)(H:Hp)(Q:VK)(E':XK):Prop
 |mk(k:Fin 3)(_:vs=[.str (kdS k)])(_:∀p dx H',H p=none->H' p=some (oS a dx (kd0 k))->yr H H'->Q (.ref p) H')
def vay:vo P w K mg Γ CX0 3 a.Lk a.O7 ["kind"] (ygt a):=by
 exists T.Qd.F.ok,yzy,n;let⟨r,rfl,k⟩:=h;exists 1,0,yf (v9 (yx xl (pv 0) vg (y9 _)) (yc (yn (zw T.Ka (yqd T) n.m rfl T.K9 T.Io.B .nil vn))) y7) (yf (v9 (yx xl (pv 0) vg (y9 _)) (yc (yn (zw T.Fo (yqw T) n.m rfl T.Fn T.Is.B .nil vn))) y7) (yf (v9 (yx xl (pv 0) vg (y9 _)) (yc (yn (zw T.Qz (ypd T) n.m rfl T.Qy T.Ix.B .nil vn))) y7) (yc Ò)));exists rfl,?_
 match r with
 |0 =>
  exists _,rfl,yav rfl ?_;ext;intro p g d f q;exists p,g,rfl,ya,λj c i=>⟨rfl,?_⟩;exact k p g j d c λb o e=>i b o (by rw[ym (yb e d),ym (yb e f)];exact e) (yb e d)
 |1 =>
  exists _,rfl,ydu (by intro z;injection z with z;revert z;decide+kernel) ?_;ext;exists rfl,?_;exists _,rfl,yav rfl ?_;ext;intro p g d f q;exists p,g,rfl,ya,λj c i=>⟨rfl,?_⟩;exact k p g j d c λb o e=>i b o (by rw[ym (yb e d),ym (yb e f)];exact e) (yb e d)
 |2 =>
  exists _,rfl,ydu (by intro z;injection z with z;revert z;decide+kernel) ?_;ext;exists rfl,?_;exists _,rfl,ydu (by intro z;injection z with z;revert z;decide+kernel) ?_;ext;exists rfl,?_;exists _,rfl,yav rfl ?_;ext;intro p g d f q;exists p,g,rfl,ya,λj c i=>⟨rfl,?_⟩;exact k p g j d c λb o e=>i b o (by rw[ym (yb e d),ym (yb e f)];exact e) (yb e d)
#synth ykw ["number","size","places"] ["number","size"] vek
inductive ygz  (vs:Υ) (H:Hp) (Q:VK) (E':XK):Prop
 |mk(n:Int)(k:Nat)(_:vs=[.int n,.int k])(_:k<=100000)(_:∀t H',H t=none->H' t=some (.lst ((wr k n).map V.int))->yr H H'->Q (.ref t) H')
def yo7:vo P w K mg Γ CX0 1 a.Ll a.O8 ["number","size"] ygz:=by
 exists T.J1.F.ok,ykw,C;let⟨n,d,rfl,B,k⟩:=h;exists 2,1,yf (yt (i:=2) ykw.nd rfl (Or.inl rfl) (wy ur)) (yf (jm PassesOwn.never (yx yaw (pcB yp T.A7 (pa1 (pv 2))) (pv 1) (y9 _)) (yf (yu (ug PySem.F.plainAttrs_list PySem.F.slot_list_append PySem.F.type_list_append wk (pv 2) (pa1 (yo xk (pv 0) yh)))) (yc (yt (i:=0) ykw.nd rfl (Or.inl rfl) (yo vq (pv 0) yh))))) (yf (yu (yfl PySem.F.plainAttrs_list PySem.F.slot_list_reverse PySem.F.type_list_reverse œ (pv 2))) (yc (yn (pv 2)))));exists by walk_at "len",λt l=>?_
 ext;exists λm σ' r=>∃(f:Int)(c:Ρ),σ'=[some (.int f),some (.int d),some (.ref t)]/\r t=some (.lst (c.map V.int))/\yr H r/\c++lo (d-c.length) f=lo d n/\c.length<=d/\m=d-c.length,⟨_,n,[],rfl,ya,yz l,rfl,bJ _,rfl⟩,?_;rintro m σ2 G ⟨f,c,rfl,g,u,j,D,rfl⟩;ext;refine u5 (SqL.of g) ?_;rw[ba];ext;refine zn (λv=>?_) (λv=>?_)
 .refine ycb ?_;ext;refine u8 g ?_;ext;refine w9 g (by rw[ba];exact vh ()) ?_;ext;exists _,?_,f/256,c++[f%256],rfl,(ya.trans (by rw[ynx])),λb o e=>?_,?_,?_,rfl
  .rw[bd];show d-(c.length+1)<d-c.length;omega
  .rw[ym (yb e l)];exact u b o e
  .have q:d-c.length=d-(c++[f%256]).length+1:=by
    rw[bd];show d-c.length=d-(c.length+1)+1;omega
   rw[q]at j;rw[<- j,bW];rfl
  .rw[bd];show c.length+1<=d;omega
 .ext;have q:d-c.length=0:=()
  rw[q]at j;have x:c=lo d n:=by rw[<- j];simp[lo]
  refine u8 g ?_;refine ybh g ?_;ext;refine k t _ l ?_ λb o e=>?_
  .rw[ya,ysx,x];rfl
  .rw[ym (yb e l)];exact u b o e
#synth yyt ["low","unit"] vb2
inductive Ĺ  (vs:Υ) (H:Hp) (Q:VK) (E':XK):Prop
 |mk(l e:Int)(_:vs=[.int l,.int e])(_:0<e)(_:e<2^63)(_:Q (.int (blk l e)) H)
def yry:vo P w K mg Γ CX0 1 a.Lm a.O9 ["low","unit"] Ĺ:=by exists T.J2.F.ok,yyt,i;let⟨l,e,rfl,f,g,k⟩:=h;exists 2,0,yc (yn (yo vq (yo zy (yo wb (pv 0) (pv 1)) yh) (pv 1)));exact k
#synth yw6 ["self"] vdb
inductive ysi(C:z4)(vs:Υ)(H:Hp)(Q:VK)(E':XK):Prop
 |mk(p dx:z4)(_:vs=[.ref p])(_:H p=some (.ins C dx []))(_:∀H',H' p=some (.ins C dx (j9 s0))->But p H H'->Q .non H')
def yrg:vo P w K mg Γ CX0 1 a.Gh a.Oa ["self"] (ysi a.A6):=by
 exists T.J3.F.ok,yw6,j;let⟨p,c,rfl,i,k⟩:=h;exists 1,0,yf (ve (pv 0) yh rfl) (yf (ve (pv 0) (vz rfl T.D9) rfl) (yc (ve (pv 0) (vz rfl T.Dv) rfl)));exists p,_,c,_,rfl,i,T.Ae,T.Bw,by show 0<1000;decide,?_
 ext;exists p,_,c,_,rfl,ya,T.Ae,T.Ba,by show 1<1000;decide,?_
 ext;exists p,_,c,_,rfl,ya,T.Ae,T.Bg,by show 2<1000;decide,?_
 have e:μ "size" (.int 5) (μ "width" (.int 1099511627776) (μ "low" (.int 0) []))=j9 s0:=by
  rw[ww,wa nLW ww,wa nLS (wa nWS ww)];rfl
 refine k _ (ya.trans (congrArg (λl=>some (HO.ins a.A6 c l)) e)) λb o h n=>?_;rw[ym n,ym n,ym n];exact h
#synth ywm ["self","chance"] vb7
inductive vaw(C:z4)(vs:Υ)(H:Hp)(Q:VK)(E':XK):Prop
 |mk(p dx:z4)(x:Sn)(c:Int)(_:vs=[.ref p,.int c])(_:H p=some (.ins C dx (j9 x)))(_:Ch c)(_:Q (.int (cut x.2.1 c)) H)
def yrq:vo P w K mg Γ CX0 1 a.Ln a.Ob ["self","chance"] (vaw a.A6):=by exists T.Ea.F.ok,ywm,j;let⟨p,d,x,c,rfl,l,⟨g,i⟩,k⟩:=h;exists 2,0,yc (yn (yo vq (yo xg (yk (pv 0) rfl) (pv 1)) (vz rfl T.C7)));exact k
#synth yq1 ["self","chance","bit","cut"] ["self","chance","bit"] vc7
inductive yhy(K:z3)(C Nc Nb:z4)(vs:Υ)(H:Hp)(Q:VK)(E:XK):Prop
 |mk(p dx:z4)(x:Sn)(vc vb:V)(n m:String)(_:vs=[.ref p,vc,vb])(_:H p=some (.ins C dx (j9 x)))(_:Ok x)(_:uh K H vc (.type n))(_:uh K H vb (.type m))(_:(chV vc=false->E (.ref Nc) none H))(_:(chV vc=true->ÿ vb=false->E (.ref Nb) none H))(_:∀c b:Int,vc=.int c->vb=.int b->Ch c->0<=b->b<=1->∀H',H' p=some (.ins C dx (j9 (nar x c b)))->But p H H'->Q .non H')
def yol:vo P w K mg Γ (CXe P w) 4 a.Lo a.Oc ["self","chance","bit"] (yhy K a.A6 a.Ev a.Bm):=by
 exists T.Eb.F.okE,yq1,q;let⟨p,f,x,I,D,n,m,rfl,G,C,U,M,k1,k2,k⟩:=h;exists _,(yf (yu (uo (yvg T) q.m T.Kr yv (pa1 (pv 1)))) (yf (yu (uo (ī T) q.m T.Ci yv (pa1 (pv 2)))) (yf (yt (i:=3) yq1.nd rfl (Or.inl rfl) (xi (pv 0) T.Ae T.Ea.m (yrq T) q.m T.Ea.B .nil vn (pa1 (pv 1)))) (yf (Ĭ (v9 (yx xl (pv 2) yh (y9 _)) (yc (ve (pv 0) (pv 3) rfl)) (yf (ve (pv 0) (yo wb (yk (pv 0) rfl) (pv 3)) rfl) (yc (ve (pv 0) (yo zy (yk (pv 0) rfl) (pv 3)) rfl))))) (yc (PS.nox (jm PassesOwn.never (yx yaw (yk (pv 0) rfl) (vz rfl T.Da) (y9 _)) (yf (ve (pv 0) (yo xg (yk (pv 0) rfl) yh) rfl) (yf (ve (pv 0) (yo xg (yk (pv 0) rfl) yh) rfl) (yc (ve (pv 0) (yo wb (yk (pv 0) rfl) yh) rfl))))))))))),?_;exists 3,1;have v:=C.w0;have j:=C.w1;ext;exists I,n,rfl,U,λg=>?_,k1;ext;exists D,m,rfl,M,λo=>?_,k2 g;let⟨c,rfl,L,W⟩:=ydq g;let⟨b,rfl,N,b1⟩:=yef o;have l:Ch c:=⟨L,W⟩;have k:=k c b rfl rfl l N b1;ext;exists p,f,_,rfl,G,lkN _ (by right) (by right) (by right),?_;ext;exists p,f,x,c,rfl,G,l,?_;ext;let⟨S,Y,a3⟩:=ycc v j l;refine yob (λσ' e=>∃y:Sn,σ'=[some (.ref p),some (.int c),some (.int b),some (.int (cut x.2.1 c))]/\e p=some (.ins a.A6 f (j9 y))/\8388608<=y.2.1/\y.2.1<=1099511627776/\ren y.1 y.2.1 y.2.2=nar x c b/\But p H e) ?_ ?_
 .ext;refine zn (λd=>?_) (λd=>?_)
  .ext;exists _,rfl,ya,S,Int.le_of_lt a3,?_,But.upd;unfold nar
   (rw[if_pos d])<;>rfl
  .ext;exists _,rfl,ya,Y,?_,?_,But.upd.trans But.upd
   .show x.2.1-cut x.2.1 c<=_;omega
   .unfold nar
    (rw[if_neg d])<;>rfl
 .rintro σ' e ⟨y,rfl,r,y1,X,y3,y4⟩;ext;exists λm σ' e=>∃y:Sn,σ'=[some (.ref p),some (.int c),some (.int b),some (.int (cut x.2.1 c))]/\e p=some (.ins a.A6 f (j9 y))/\8388608<=y.2.1/\y.2.1<=1099511627776/\ren y.1 y.2.1 y.2.2=nar x c b/\But p H e/\m=(4294967296-y.2.1).toNat,⟨_,y,rfl,r,y1,X,y3,y4,rfl⟩,?_;rintro m σ2 H2 ⟨z,rfl,hz,O,z2,u,J,rfl⟩;ext;refine zn (λd=>?_) (λd=>?_)
  .refine ycb ?_;ext;exists _,?_,(z.1*256,z.2.1*256,z.2.2+1),rfl,ya,?_,?_,(ymd d O).trans u,((J.trans But.upd).trans But.upd).trans But.upd,rfl
   .show (4294967296-z.2.1*256).toNat<(4294967296-z.2.1).toNat;omega
   .show 8388608<=z.2.1*256;omega
   .show z.2.1*256<=1099511627776;omega
  .rw[ys2 d]at u;refine k _ ?_ J;rw[<- u];exact hz
#synth yzc ["self","unit"] vbn
inductive yl0(C:z4)(vs:Υ)(H:Hp)(Q:VK)(E':XK):Prop
 |mk(p dx:z4)(x:Sn)(j:Nat)(_:vs=[.ref p,.int (pw j)])(_:H p=some (.ins C dx (j9 x)))(_:j<=6)(_:Q (.bl (decide (hold x.1 x.2.1 j))) H)
def yxy:vo P w K mg Γ CX0 2 a.Lp a.Od ["self","unit"] (yl0 a.A6):=by
 exists T.J4.F.ok,yzc,i;let⟨p,d,x,j,rfl,n,c,k⟩:=h;exists _,(yc (yn (u7 jr (yo xg (yo wb (xp (yry T) i.m T.J2 (pac (yk (pv 0) rfl) (pa1 (pv 1)))) yh) (pv 1)) (yo wb (yk (pv 0) rfl) (yk (pv 0) rfl)) (y9 _)))),?_;exists 2,0;have l:=yeg c;have f:=zz j;ext;exists _,_,rfl,f,(),?_
 ext;exact k
#synth yb4 ["self","unit","size"] ["self"] vcn
inductive yu3(C:z4)(vs:Υ)(H:Hp)(Q:VK)(E':XK):Prop
 |mk(p dx:z4)(x:Sn)(_:vs=[.ref p])(_:H p=some (.ins C dx (j9 x)))(_:OkS x)(_:sz x<=100000)(_:∀t H',H t=none->H' t=some (.lst ((tL x).map V.int))->yr H H'->Q (.ref t) H')
def yo1:vo P w K mg Γ CX0 3 a.Lq a.Oe ["self"] (yu3 a.A6):=by
 exists T.Ec.F.ok,yb4,f;let⟨p,c,x,rfl,n,d,D,k⟩:=h;exists 1,2,yf (yt (i:=1) yb4.nd rfl (Or.inl rfl) yh) (yf (yt (i:=2) yb4.nd rfl (Or.inl rfl) (yk (pv 0) rfl)) (yf (jm PassesOwn.never (xy (xi (pv 0) T.Ae T.J4.m (yxy T) f.m T.J4.B .nil vn (pa1 (yo xg (pv 1) yh)))) (yf (yt (i:=1) yb4.nd rfl (Or.inl rfl) (yo xg (pv 1) yh)) (yc (yt (i:=2) yb4.nd rfl (Or.inl rfl) (yo zy (pv 2) yh))))) (yc (yn (xp (yo7 T) f.m T.J1 (pac (xp (yry T) f.m T.J2 (pac (yk (pv 0) rfl) (pa1 (pv 1)))) (pa1 (pv 2))))))));exists λm σ' t=>t=H/\∃j:Nat,σ'=[some (.ref p),some (.int (pw j)),some (.int (x.2.2-j))]/\j<=5/\tel x.1 x.2.1 (5-j) j=tK x/\m=6-j,⟨_,rfl,0,by simp[pw],∅,rfl,rfl⟩,?_;rintro m σ2 I ⟨rfl,j,rfl,C,o,rfl⟩;have y:=yeg (show j<=6 by omega);have r:=zz j;ext;exists p,c,_,rfl,n,lkN _ (by right) (by right) (by right),?_;ext;exists p,c,x,j+1,rfl,n,(),?_
 ext;refine zn (λb=>?_) (λb=>?_)
 .refine ycb ?_;ext;have v:=yov d.ok.w1 b;exists _,?_,rfl,j+1,?_,v,?_,rfl
  .show 6-(j+1)<6-j;omega
  .have e:x.2.2-(j:Int)-1=x.2.2-((j+1:Nat):Int):=()
   rw[e];rfl
  .rw[ym4 b,<- o]
   congr 1
   omega
 .have g:j=tK x:=by rw[<- o,ytq b]
  subst g;ext;exists _,_,rfl,r,(),?_
  ext;have z:=d.sz;have G:=(yvm d).2;have e:x.2.2-(tK x:Int)=((sz x-tK x:Nat):Int):=()
  rw[e];exists _,_,rfl,(),k
#synth yyz ["thing"] vbp
inductive ygc(K:z3)(vs:Υ)(H:Hp)(Q:VK)(E':XK):Prop
 |mk(x n:_)(_:vs=[x])(_:uh K H x (.type n))(_:Q (.bl (yk8 x)) H)
def yx0:vo P w K mg Γ CX0 1 a.Lr a.Of ["thing"] (ygc K):=by
 exists T.Qe.F.ok,yyz,g;let⟨x,n,rfl,b,k⟩:=h;exists 1,0,yc (yn (ji (pcB wn T.A5 (pac (pv 0) (pa1 (jj (T:="str") rfl T.Di (by right))))) (Þ (u7 ybs (pv 0) (yal rfl T.Fp) (by with_unfolding_all rfl)))));refine à b (yd3 b) ?_;ext;by_cases hn:n="str"
 .obtain⟨s',rfl⟩:∃s',x=.str s':=by
   cases b with
   |str s'=>exists s',rfl
   |_=>exact absurd hn ∅
  rw[bn hn];refine ν ?_;ext;exists a.Bl,_,rfl,.inr (T.w_KINDS H),rfl,rfl,k
 .have e:yk8 x=false:=by
   cases b with
   |str s'=>exact absurd rfl hn
   |_=>rfl
  rw[bo hn];rw[e]at k;exact jc k
#synth ywu ["thing"] vec
inductive ycl(K:z3)(vs:Υ)(H:Hp)(Q:VK)(E':XK):Prop
 |mk(x n:_)(_:vs=[x])(_:uh K H x (.type n))(_:Q (.bl (plV x)) H)
def yz5:vo P w K mg Γ CX0 2 a.Ls a.Og ["thing"] (ycl K):=by
 exists T.Qf.F.ok,ywu,g;let⟨x,n,rfl,j,k⟩:=h;exists 1,0,yc (yn (ji (xp (yk9 T) g.m T.Fz (pa1 (pv 0))) (Þ (Ó jr jr yh (pv 0) (vz rfl T.Fc)))));exists x,n,rfl,j,?_;ext
 cases hx:ξ x with
 |false =>
  have e:plV x=false:=by
   cases x<;>first|rfl|cases hx
  rw[e]at k;exact jc k
 |true =>
  let⟨i,rfl⟩:=jd hx;refine ν ?_;ext;refine zn (λb=>?_) (λb=>?_)
  .ext;have e:plV (.int i)=decide (i<=8):=by simp[plV,b]
   rw[e]at k;exact k
  .have e:plV (.int i)=false:=by simp[plV,b]
   rw[e]at k;exact k
#synth ywo ["thing"] veh
inductive Ŷ(K:z3)(vs:Υ)(H:Hp)(Q:VK)(E':XK):Prop
 |mk(x b:_)(_:vs=[x])(_:PlB K H x b)(_:∀H',yr H H'->Q (.bl b) H')
def yxn:vo P w K mg Γ CX0 3 a.Lt a.Oh ["thing"] (Ŷ K):=by
 exists T.Qg.F.ok,ywo,hr;let⟨x,b,rfl,hb,k⟩:=h;exists _,(yf (v9 (PW.pt (ł (xt (xy (pcB wn T.A5 (pac (pv 0) (pa1 (jj (T:="tuple") rfl T.Dt (by right))))))) (ł (yx ylb (pcB yp T.A7 (pa1 (pv 0))) (vz rfl T.Db) (y9 _)) (į (xt (xy (pcB (jo rfl) T.Cz (pa1 (vx (js:=[]) (ys:=[]) rfl (yfi (pv 0)) (λC X I U=>(xp (yz5 T) hr.m T.Qf (pa1 (pv 0)))) rfl rfl (hyc:=yy) (hrel:=yy)))))))))) (yc (yn yay)) y7) (yc (yn (pcB (jo rfl) T.Cz (pa1 (yaa (js:=[]) (ys:=[]) (xs:=["near","far"]) (g:=yvx K 2 (zq (xo 0) (zq (xo 1) yle))) rfl (yt7 rfl T.Ko (pac (pv 0) (pa1 (xw (vae.or yss) (pv 0) (uv yh) uu)))) (λC X I U=>(u7 yaw (pv 0) (pv 1) (y9 _))) rfl (λC X I U=>ù rfl (xa (vy (i:=0) (show List.Nodup ((["near","far"]:Τ)++([]:Τ)) by right) rfl (Or.inl rfl)) (xa (vy (i:=1) (show List.Nodup ((["near","far"]:Τ)++([]:Τ)) by right) rfl (Or.inl rfl)) j4))) rfl (hyc:=yy) (hrel:=yy))))))),?_;exists 1,0;rcases hb with⟨n,W,hn,rfl⟩|⟨t,xs,rfl,G,hl,hy,rfl⟩
 .ext;refine à W (Ć W) ?_;ext;refine yvh hn ?_;ext;exact k _ (yr.refl _)
 .ext;refine à (.tup G) (Ć (.tup G)) ?_;ext;refine yvq rfl ?_;ext;refine yqb (SqT.of G) ?_;ext;unfold zh at k;refine zn (λZ=>?_) (λZ=>?_)
  .rw[bo (),Bool.false_and,Bool.false_and]at k;ext;exact k _ (yr.refl _)
  .rw[bn (),Bool.true_and]at k;ext;exists t,rfl,⟨_,SqT.of G⟩,λD S=>?_;refine yhx (xs:=xs) (λv=>.bl (plV v)) (SqT.of G) S (λi y I J B f=>?_) (λI B f=>?_)
   .obtain⟨n,M⟩:=hy y (bB J);ext;exists y,n,rfl,Ř B M,?_;exact Mp.done S (vh ()) J B f rfl
   have e:xs.map (λv=>V.bl (plV v))=(xs.map plV).map V.bl:=by rw[bO];rfl
   rw[e]at f;ext;exists D,_,rfl,SqL.of f,?_;rw[List.all_map];have ea:xs.all (id ∘ plV)=xs.all plV:=rfl;rw[ea];have c:=B _ _ G
   cases hp:xs.all plV with
   |false =>
    rw[hp,Bool.false_and]at k;ext;exact k _ B
   |true =>
    rw[hp,Bool.true_and]at k
    have l:∀y∈xs,∃i:Int,y=.int i:=λy Y=>by
     have:=List.all_eq_true.mp hp y Y
     cases y with
     |int i=>exists i,rfl
     |_=>cases this
    ext;by_cases hx0:xs=[]
    .refine .inr ⟨t,xs,rfl,SqT.of c,?_,?_⟩
     .subst hx0;exists rfl,rfl
     .exists t,t,rfl,⟨_,_,SqT.of c,SqT.of c⟩,λO d=>?_;refine yjn (xs:=xs) l () (SqT.of c) (by subst hx0;exact SqT.of c) d (λi j σ' H' Q' h=>?_) (λH4 N q=>?_)
      .ext;exact h
      .ext;exists O,_,rfl,SqL.of q,k _ (B.trans N)
    .refine .inl ⟨t,xs,rfl,SqT.of c,?_,λu hu=>?_⟩
     .rintro ⟨z,_⟩
      have e1:HT.sIx xs.length 0 (some 1)=min 1 xs.length:=by
       have:=HT.sIx_nat xs.length 0 1;simpa using this
      rw[e1]at z
      cases xs with
      |nil=>exact hx0 rfl
      |cons x r=>simp at z
     .rw[yi1];have L:=yz (o:=(HO.tup xs.tail)) hu;have p:upd I u (HO.tup xs.tail) u=some (HO.tup xs.tail):=ya;generalize upd I u (HO.tup xs.tail)=H3 at L p⊢;exists t,u,rfl,⟨_,_,SqT.of (L _ _ c),SqT.of p⟩,λO d=>?_;refine yjn (xs:=xs) l () (SqT.of (L _ _ c)) (SqT.of p) d (λi j σ' H' Q' h=>?_) (λH4 N q=>?_)
      .ext;exact h
      .ext;exists O,_,rfl,SqL.of q,k _ (B.trans (L.trans N))
#synth vav ["thing"] vb4
inductive yf6(K:z3)(vs:Υ)(H:Hp)(Q:VK)(E':XK):Prop
 |mk(x b:_)(_:vs=[x])(_:LkB K H x b)(_:∀H',yr H H'->Q (.bl b) H')
def yp1:vo P w K mg Γ CX0 4 a.Lu a.Oi ["thing"] (yf6 K):=by
 exists T.J5.F.ok,vav,i;let⟨x,b,rfl,d,k⟩:=h;exists _,(yc (yn (ji (pcB wn T.A5 (pac (pv 0) (pa1 (jj (T:="tuple") rfl T.Dt (by right))))) (ji (u7 xl (pcB yp T.A7 (pa1 (pv 0))) yh (y9 _)) (ji (xp (yx0 T) i.m T.Qe (pa1 (xz jw (pv 0) yh (λZ Z=>rfl)))) (Þ (xp (yxn T) i.m T.Qg (pa1 (xz jw (pv 0) yh (λZ Z=>rfl)))))))))),?_;exists 1,0;rcases d with⟨n,e,q,rfl⟩|⟨t,l,rfl,c,d⟩
 .ext;refine à e (Ć e) ?_;ext;rw[bo q];exact jc (k _ (yr.refl _))
 .ext;refine à (.tup c) (Ć (.tup c)) ?_;ext;refine yav rfl ?_;ext;refine yqb (SqT.of c) ?_;ext;rcases d with⟨u,rfl⟩|⟨y,z,n,rfl,e,d⟩
  .rw[bo (show ¬((l.length:Int)=2) by omega)];exact jc (k _ (yr.refl _))
  .refine yav rfl ?_;ext;refine Ł (SqT.of c) (wo (j:=0) rfl) ?_;ext;exists y,n,rfl,e,?_;rcases d with⟨f,rfl⟩|⟨f,r⟩
   .rw[f];ext;exact k _ (yr.refl _)
   .rw[f];ext;refine Ł (SqT.of c) (wo (j:=1) rfl) ?_;ext;exists z,b,rfl,r,k
#synth yz1 ["thing"] vd4
def yit(K:z3)(C:z4):Sp:=λvs H Q E=>(∃x n,vs=[x]/\uh K H x (.type n)/\n≠"list"/\E (.ref C) none H) \/
 ∃(l:z4)(xs:Υ)(bs:qi Bool),vs=[.ref l]/\H l=some (.lst xs)/\xs.length<=1000/\vgw K H xs bs/\
  ((1<=xs.length/\xs.length<=6/\bs.all id=true)->∀r H',H r=none->H' r=some (.lst xs)->yr H H'->Q (.ref r) H')/\
  (¬(1<=xs.length/\xs.length<=6/\bs.all id=true)->∀H',yr H H'->E (.ref C) none H')
def ypt:vo P w K mg Γ (CXe P w) 5 a.Lv a.Oj ["thing"] (yit K a.Ht):=by
 refine T.J6.F.okE yz1 (λN H Q E h=>?_) (λR A v s H N Q E J h=>?_)
 .rcases h with⟨x,n,rfl,_⟩|⟨l,xs,f,rfl,_⟩
  .rfl
  .rfl
 .rcases h with⟨x,n,rfl,L,X,k⟩|⟨l,xs,e,rfl,d,hz,u,S,t⟩
  .exists _,(yf (v9 (PW.pt (ł (xt (xy (pcB wn T.A5 (pac (pv 0) (pa1 (jj (T:="list") rfl T.Ad (by right))))))) (ł (xt (yae jr jr yh (pcB yp T.A7 (pa1 (pv 0))) (vz rfl T.C9))) (į (xt (xy (pcB (jo rfl) T.Cz (pa1 (vx (js:=[]) (ys:=[]) rfl (we (pv 0)) (λC Y B O=>(xp (yp1 T) J.m T.J5 (pa1 (pv 0)))) rfl rfl (hyc:=yy) (hrel:=yy)))))))))) (yc (wx rfl T.Sw T.T8 (pa1 vg))) y7) (yc (yn (pcT wg T.Ad (pa1 (pv 0)))))),?_;refine yj (σ':=[some _]) rfl ?_;ext;refine à L (yel L) ?_;ext;refine yvh X ?_;ext;exists by walk_at "len",k
  .exists _,(yf (v9 (PW.pt (ł (xt (xy (pcB wn T.A5 (pac (pv 0) (pa1 (jj (T:="list") rfl T.Ad (by right))))))) (ł (xt (yae jr jr yh (pcB yp T.A7 (pa1 (pv 0))) (vz rfl T.C9))) (į (xt (xy (pcB (jo rfl) T.Cz (pa1 (vx (js:=[]) (ys:=[]) rfl (we (pv 0)) (λC Y B O=>(xp (yp1 T) J.m T.J5 (pa1 (pv 0)))) rfl rfl (hyc:=yy) (hrel:=yy)))))))))) (yc (wx rfl T.Sw T.T8 (pa1 vg))) y7) (yc (yn (pcT wg T.Ad (pa1 (pv 0)))))),?_;refine yj (σ':=[some _]) rfl ?_;ext;refine à (.lst d) (yel (.lst d)) ?_;ext;refine yvq rfl ?_;ext;refine u5 (SqL.of d) ?_;ext;refine zn (λU=>?_) (λU=>?_)
   .ext;refine yr1 (λW=>?_) (λW=>?_)
    .ext;exists l,rfl,⟨_,SqL.of d⟩,λD I=>?_;refine zf (K:=K) (xs:=xs) (Mp H D (λi=>V.bl ((e[i]?).getD false))) (Mp.zero I) (λZ Z Z p=>p.1.seq (SqL.of d)) (λi y B q M p=>?_) (λB p=>?_)
     .obtain⟨c,b⟩:=p;have j:i<e.length:=by rw[<- u.1];exact M
      ext;exists y,e[i],rfl,(u.2 i y _ q (bc j)).same c,λZ G=>?_;refine Mp.doneR I (vh ()) M (c.trans G) (G _ _ b) ?_;rw[bc j];rfl
     let⟨c,b⟩:=p;rw[ymi e u.1]at b;ext;exists D,_,rfl,SqL.of b,?_;have o:=c _ _ d
     cases hp:e.all id with
     |false =>
      ext;exists by walk_at "len",t (by rw[hp];rintro ⟨_,_,z⟩;cases z) _ c
     |true =>
      ext;refine Õ (SqL.of o) λr g=>?_;exact S ⟨(),(),hp⟩ r _ (c.free g) ya (c.trans (yz g))
    .ext;exists by walk_at "len",t () _ (yr.refl _)
   .ext;exists by walk_at "len",t () _ (yr.refl _)
#synth yzq ["signs","place"] vdz
inductive yl4(K:z3)(vs:Υ)(H:Hp)(Q:VK)(E':XK):Prop
 |mk(l:z4)(sg:Ρ)(p:Int)(_:vs=[.ref l,.int p])(_:SqL K H l (sg.map V.int))(_:1<=p)(_:Q (.int (yr0 sg p)) H)
def yza:vo P w K mg Γ CX0 1 a.Lx a.Ol ["signs","place"] (yl4 K):=by
 exists T.Qh.F.ok,yzq,n;let⟨l,g,p,rfl,e,m,k⟩:=h;exists 2,0,yc (yn (jp (yx jr (pv 1) (pcB yp T.A7 (pa1 (pv 0))) (y9 _)) (xz xf (pv 0) (yvl yk0 (pv 1)) (λZ Z=>rfl)) (vz rfl T.Gb)));refine u5 e ?_;rw[ba];ext;unfold yr0 at k;refine zn (λb=>?_) (λb=>?_)
 .rw[if_pos b]at k;let⟨c,f,_⟩:=ymk m b;rw[f]at k;ext;exact zr e (by rw[ys0,f];rfl) k
 .rw[if_neg b]at k;ext;exact k
#synth yw8 ["look","signs","node"] vc9
def jg(K:z3)(H:Hp)(k:z4)(x:V)(ps:Ρ):Prop:=∃t,SqT K H k [x,.ref t]/\SqT K H t (ps.map V.int)/\(∀p∈ps,1<=p/\p<=8)/\ps.length<=4
def jg.same{H H':Hp}{k:z4}{x:V}{ps:Ρ}(S:yr H H')(h:jg K H k x ps):jg K H' k x ps:=by let⟨t,b,d,a,c⟩:=h;exists t,S.tup b,S.tup d,a,c
def ctx(ps sg:Ρ)(nd:Int):Ρ:=ps.map (yr0 sg)++[nd]
def bkV(sg:Ρ):V->V
 | .int p=>.int (yr0 sg p)
 |_=>.non
def ytb(sg ps:Ρ):(ps.map V.int).map (bkV sg)=(ps.map (yr0 sg)).map V.int:=by rw[bO,bO];rfl
inductive ygw(K:z3)(vs:Υ)(H:Hp)(Q:VK)(E':XK):Prop
 |mk(k l:z4)(x:V)(ps sg:Ρ)(nd:Int)(_:vs=[.ref k,.ref l,.int nd])(_:jg K H k x ps)(_:SqL K H l (sg.map V.int))(_:∀r H',H r=none->H' r=some (.tup ((ctx ps sg nd).map V.int))->yr H H'->Q (.ref r) H')
def yy5:vo P w K mg Γ CX0 2 a.Ly a.Om ["look","signs","node"] (ygw K):=by
 exists T.Qi.F.ok,yw8,O;let⟨W,l,x,o,u,J,rfl,⟨t,M,G,v,U⟩,R,k⟩:=h;exists 3,0,yc (yn (pcT Ÿ T.Dt (pa1 (yo û (vx (js:=[1]) (ys:=["signs"]) rfl (yfi (xz jw (pv 0) yh (λZ Z=>rfl))) (λC Y I X=>(xp (yza T) O.m T.Qh (pac (pv 1) (pa1 (pv 0))))) rfl rfl (hyc:=(all_cons rfl yy)) (hrel:=(all_cons rfl yy))) (wy (pa1 (pv 2)))))));refine Ł M (wo (j:=1) rfl) ?_;exists t,rfl,⟨_,G⟩,λD z=>?_;have f:(o.map V.int).length<sizeLine:=vh (by rw[ba];omega);refine ŏ (xs:=o.map V.int) (bkV u) G z (λi y I B e b=>?_) (λI e b=>?_)
 .obtain⟨p,rfl,g,_,_⟩:=jk B;ext;exists l,u,p,rfl,e.seq R,(v p g).1,?_;exact Mp.done z f B e b rfl
 .rw[ytb]at b;ext;exists by walk_at "len",λn hn=>?_
  exists hn,H3,S3,hn3;exists D,n,_,_,rfl,rfl,S3 _ _ b,hn3,wd (by rw[ba,ba];show _+1<=_;omega),λc hc=>?_;exists hc,H4,S4,hc4;exists c,_,rfl,.inl ⟨SqL.of hc4,λr d=>?_⟩;have S:=e.trans (S3.trans S4);refine k r _ (S.free d) (ya.trans ?_) (S.trans (yz d));unfold ctx;rw[bz];rfl
#synth ywh ["self","look"] vel
inductive yhv(a:Ads)(vs:Υ)(H:Hp)(Q:VK)(E':XK):Prop
 |mk(p dx lk:z4)(kd:Fin 3)(_:vs=[.ref p,.ref lk])(_:H p=some (.ins a.Ac dx []))(_:∀d H',H d=none->ã a H' p dx lk d kd (λZ=>none) (λb=>b=d) 0->But p H H'->Q .non H')
def yp8:vo P w K mg Γ CX0 1 a.Gi a.On ["self","look"] (yhv a):=by
 exists T.J7.F.ok,ywh,D;let⟨p,i,j,t,rfl,B,k⟩:=h;exists 2,0,yf (ve (pv 0) (pv 1) rfl) (yc (ve (pv 0) yd8 rfl));intro d l
 have g:H d=none:=by
  cases e:H d with
  |none=>rfl
  |some o =>
   by_cases z:d=p
   .rw[z,ya]at l;cases l
   .rw[ym z,e]at l;cases l
 have c:d≠p:=λz=>by rw[z,B]at g;cases g
 have q:=zi (o':=HO.dT []) l (show upd H p (HO.ins a.Ac i ([("look",V.ref j)]:Ι)) p=some (HO.ins a.Ac i ([("look",V.ref j)]:Ι))from ya);have f:upd (upd H p (HO.ins a.Ac i ([("look",V.ref j)]:Ι))) d (.dT []) d=some (.dT []):=ya;have r:But p H (upd (upd H p (HO.ins a.Ac i ([("look",V.ref j)]:Ι))) d (.dT [])):=λb o e n=>by rw[ym (yb e g),ym n];exact e
 generalize upd (upd H p (HO.ins a.Ac i ([("look",V.ref j)]:Ι))) d (.dT [])=C at q f r⊢;ext
 refine k d _ g ⟨ya,λb v=>⟨HO.dT [],by cases v;exact ye c f,rfl⟩,λz=>c z.symm,rfl,λu e=>(by cases (ye c f).symm.trans e;exact⟨List.nodup_nil,λZ z=>(nomatch z)⟩),[],λZ=>(0,0),ye c f,bf _,λZ Z=>rfl,λZ Z z=>(nomatch z),λZ Z Z Z z=>(nomatch z)⟩ (r.trans But.upd)
#synth ypp ["self","signs","node","context"] ["self","signs","node"] vcl
inductive yh1(K:z3)(a:Ads)(vs:Υ)(H:Hp)(Q:VK)(E':XK):Prop
 |mk(p dx lk d sl:z4)(kd:Fin 3)(f:qi Int->qj Slt)(O:Ν)(m:Nat)(ps sg:Ρ)(nd:Int)(_:vs=[.ref p,.ref sl,.int nd])(_:ã a H p dx lk d kd f O m)(_:m<1000000)(_:jg K H lk (.str (kdS kd)) ps)(_:SqL K H sl (sg.map V.int))(_:∀(q:z4)(O':Ν)(H':Hp),ã a H' p dx lk d kd (ć f (ctx ps sg nd) ((f (ctx ps sg nd)).getD (kd0 kd))) O' (m+1)->(∀kvs,H' d=some (.dT kvs)->z5 kvs (kI (ctx ps sg nd))=some (.ref q))->(∀c,O' c->O c\/H c=none)->(∀c,O c->O' c)->yof O H H'->Q (.ref q) H')
set_option tactic.hygienic true in
def yxa:vo P w K mg Γ CX0 4 a.Lz a.Oo ["self","signs","node"] (yh1 K a):=by
 exists T.J8.F.ok,ypp,hr;let⟨p,dx,lk,d,sl,G,f,O,m,ps,sg,X,rfl,hb,hm,hl,hs,k⟩:=h;have ac:=hb.me;exists 3,1,yf (yt (i:=3) ypp.nd rfl (Or.inl rfl) (xp (yy5 T) hr.m T.Qi (pac (yk (pv 0) rfl) (pac (pv 1) (pa1 (pv 2)))))) (yf (Ĭ (v9 (yfe (ybz (É hr) (pv 3) (yk (pv 0) rfl))) (yc (yao (É hr) (yk (pv 0) rfl) (pv 3) (xp (vay T) hr.m T.Qd (pa1 (xz jw (yk (pv 0) rfl) yh (λF F=>rfl)))) rfl)) y7)) (yc (yn (Ç (É hr) (yk (pv 0) rfl) (pv 3) (λF F=>rfl)))));exists lk,sl,_,ps,sg,X,rfl,hl,hs,λr H1 ab a6 W=>?_;have l:H1 r=some (.tup ((kI (ctx ps sg X)).map kV)):=by rw[vaq];exact a6
 generalize ctx ps sg X=b at l k;have g:=hb.same W;have x:=g.me;ext;refine yob (λσ' H'=>σ'=[some (.ref p),some (.ref sl),some (.int X),some (.ref r)]/\∃Y,ã a H' p dx lk d G (ć f b ((f b).getD (kd0 G))) Y (m+1)/\(∀c,Y c->O c\/H c=none)/\(∀c,O c->Y c)/\yof O H H'/\H' r=some (.tup ((kI b).map kV))) ?_ ?_
 .obtain⟨I,n,D,h2,U,N,h5⟩:=g.tb;ext;exists d,_,rfl,İ.t D l,?_
  cases hf:f b with
  |none =>
   rw[U b hf];ext;refine ν ?_;ext;let⟨t,a5,ad,_,_⟩:=hl;refine Ł (W.tup a5) (wo (j:=0) rfl) ?_;ext;exists G,rfl,λq dq H2 u Z L=>?_;ext;have M:=L _ _ x;ext;exists d,_,rfl,yli.t (L _ _ D) (L _ _ l) (vh ()),?_;have a8:=W.trans L;have a0:q≠d:=λz=>by rw[z,D]at u;cases u
   have a2:p≠d:=λz=>g.np (z ▸ g.dO);ext;exists rfl,λc=>O c\/c=q,⟨ye a2 M,λc v=>?_,λz=>?_,.inl g.dO,yod.snoc (g.ky I D) (U b hf) ya,Ń I (kI b) (.ref q),λj=>if j=b then (q,dq)else n j,ya,?_,λj J=>?_,λj s' J=>?_,λj1 j2 s1 s2 e1 e2 B=>?_⟩,λc v=>?_,λc v=>.inl v,λc o e no=>?_,ye (w8 (L _ _ l) (L _ _ D) (by intro z;cases z)) (L _ _ l)
   .rcases v with v|rfl
    .obtain⟨o,ho,hi⟩:=g.own c v;by_cases z:c=d
     .rw[z];exists _,ya,rfl
     .exists o,ye z (L _ _ ho),hi
    .obtain⟨C,fs,eo⟩:=π a dq (kd0 G);exists _,ye a0 Z,by rw[eo];rfl
   .rcases z with z|z
    .exact g.np z
    .rw[z]at x;rw[x]at u;cases u
   .rw[Ú _ (U b hf),bd];show _+1<=m+1;omega
   .unfold ć at J
    split at J
    .cases J
    .rename_i hne
     rw[ε,if_neg λz=>hne (yb6 z)];exact U j J
   .unfold ć at J
    split at J
    .rename_i he
     subst he;cases J;dsimp only;rw[if_pos rfl,ε,if_pos rfl];exists rfl,ye a0 Z,yrn G,yn3 G,.inr rfl
    .rename_i hne
     let⟨S,y,q3,q4,q5⟩:=N j s' J;dsimp only;rw[if_neg hne,ε,if_neg λz=>hne (yb6 z)]
     have a3:(n j).1≠d:=by
      let⟨C,fs,eo⟩:=π a (n j).2 s';rw[eo]at y;exact w8 y D (by intro z;cases z)
     exists S,ye a3 (L _ _ y),q3,q4,.inl q5
   .unfold ć at e1 e2;dsimp only at B;by_cases z1:j1=b
    .by_cases z2:j2=b
     .rw[z1,z2]
     .rw[if_neg z2]at e2;rw[if_pos z1,if_neg z2]at B;let⟨_,y,_⟩:=N j2 s2 e2;have B:q=(n j2).1:=B;rw[<- B,u]at y;cases y
    .rw[if_neg z1]at e1;by_cases z2:j2=b
     .rw[if_neg z1,if_pos z2]at B;let⟨_,y,_⟩:=N j1 s1 e1;have B:(n j1).1=q:=B;rw[B,u]at y;cases y
     .rw[if_neg z2]at e2;rw[if_neg z1,if_neg z2]at B;exact h5 j1 j2 s1 s2 e1 e2 B
   .rcases v with v|rfl
    .exact .inl v
    .exact .inr (W.free u)
   .exact ye (λz=>no (z ▸ g.dO)) (a8 _ _ e)
  |some s' =>
   let⟨S,y,q3,q4,q5⟩:=N b s' hf;rw[S];ext;exists rfl,O,?_,λc v=>.inl v,λc v=>v,λc o e F=>W _ _ e,l
   have ef:ć f b ((some s').getD (kd0 G))=f:=by
    funext j
    unfold ć
    split
    .rename_i z
     rw[z,hf];rfl
    .rfl
   rw[ef];exists g.me,g.own,g.np,g.dO,g.ky,I,n,D,Nat.le_succ_of_le h2,U,N,h5
 .rintro σ' H2 ⟨rfl,Y,R,hO,hM,B2,a1⟩;have M:=R.me;let⟨I,n,D,h2,U,N,h5⟩:=id R.tb;have a4:ć f b ((f b).getD (kd0 G)) b=some ((f b).getD (kd0 G)):=by unfold ć;rw[if_pos rfl]
  let⟨S,y,q3,q4,q5⟩:=N b _ a4;ext;exists d,_,rfl,by rw[<- S];exact İ.t D a1,?_
  exact k (n b).1 Y H2 R (λa9 e=>by rw[D]at e;cases e;exact S) hO hM B2
structure yr3(a:Ads)(H:Hp)(d:z4)(kd:Fin 3)(f:qi Int->qj Slt)(O:Ν)(m:Nat):Prop where
 own:∀b,O b->∃o,H b=some o/\yvs o=true
 dO:O d
 ky:yod H d
 tb:∃(kvs:qi (qi Key×V))(loc:qi Int->z4×z4),H d=some (.dT kvs)/\kvs.length<=m/\(∀k,f k=none->z5 kvs (kI k)=none)/\
  (∀k s,f k=some s->z5 kvs (kI k)=some (.ref (loc k).1)/\H (loc k).1=some (oS a (loc k).2 s)/\s.ok/\s.kind=kd/\O (loc k).1)/\(∀k j s t,f k=some s->f j=some t->(loc k).1=(loc j).1->k=j)
def yr3.same{H H':Hp}{d:z4}{kd:Fin 3}{f:qi Int->qj Slt}{O:Ν}{m:Nat}(h:yr3 a H d kd f O m)(S:yr H H'):yr3 a H' d kd f O m:=by
 let⟨e,g,c,j,l,n,t⟩:=h.tb;exists λb p=>?_,h.dO,h.ky.mv c (S _ _ c),e,g,S _ _ c,j,l,λk s i=>?_,t
 .obtain⟨o,w,u⟩:=h.own b p;exists o,S _ _ w,u
 .obtain⟨r,v,q⟩:=n k s i;exists r,S _ _ v,q
set_option tactic.hygienic true in
def yr3.put{H H2:Hp}{d:z4}{kd:Fin 3}{f:qi Int->qj Slt}{O:Ν}{m:Nat}{key:Ρ}{s:Slt}(h:yr3 a H d kd f O m)(S:yr H H2)(nq:H q=none)(hq:H2 q=some (oS a dq s))(ok:s.ok)(hk:s.kind=kd)(hf:f key=none){kvs:qi (qi Key×V)}(hd:H2 d=some (.dT kvs)):
  yr3 a (upd H2 d (.dT (Ń kvs (kI key) (.ref q)))) d kd (ć f key s) (λc=>O c\/c=q) (m+1):=by
 let⟨D,g,u,R,B,v,P⟩:=h.tb;have e:=S _ _ u;rw[hd]at e;cases e;have l:q≠d:=λz=>by rw[z,u]at nq;cases nq
 have A:=h.ky kvs u;exists λc x=>?_,.inl h.dO,yod.snoc A (B key hf) ya,Ń kvs (kI key) (.ref q),λj=>if j=key then (q,dq)else g j,ya,?_,λj k=>?_,λj E k=>?_,λr p F G t n b=>?_
 .rcases x with x|rfl
  .obtain⟨o,J,Q⟩:=h.own c x;by_cases z:c=d
   .rw[z];exists _,ya,rfl
   .exists o,ye z (S _ _ J),Q
  .obtain⟨C,N,y⟩:=π a dq s;exists _,ye l hq,by rw[y];rfl
 .rw[Ú _ (B key hf),bd];show _+1<=m+1;omega
 .unfold ć at k
  split at k
  .cases k
  .rename_i hne
   rw[ε,if_neg λz=>hne (yb6 z)];exact B j k
 .unfold ć at k
  split at k
  .rename_i he
   subst he;cases k;dsimp only;rw[if_pos rfl,ε,if_pos rfl];exists rfl,ye l hq,ok,hk,.inr rfl
  .rename_i hne
   let⟨L,i,K,I,M⟩:=v j E k;dsimp only;rw[if_neg hne,ε,if_neg λz=>hne (yb6 z)]
   have w:(g j).1≠d:=by
    let⟨C,N,y⟩:=π a (g j).2 E;rw[y]at i;exact w8 i u (by intro z;cases z)
   exists L,ye w (S _ _ i),K,I,.inl M
 .unfold ć at t n;dsimp only at b;by_cases z1:r=key
  .by_cases z2:p=key
   .rw[z1,z2]
   .rw[if_neg z2]at n;rw[if_pos z1,if_neg z2]at b;let⟨_,i,_⟩:=v p G n;have b:q=(g p).1:=b;rw[<- b,nq]at i;cases i
  .rw[if_neg z1]at t;by_cases z2:p=key
   .rw[if_neg z1,if_pos z2]at b;let⟨_,i,_⟩:=v r F t;have b:(g r).1=q:=b;rw[b,nq]at i;cases i
   .rw[if_neg z2]at n;rw[if_neg z1,if_neg z2]at b;exact P r p F G t n b
def ynt{kvs:qi (qi Key×V)}{k:qi Key}{v:V}(h:(kvs.map (·.1)).Nodup)(hm:(k,v)∈kvs):z5 kvs k=some v:=by
 induction kvs with
 |nil=>cases hm
 |cons p r ih =>
  rw[bS,cB]at h;rcases bq.mp hm with e|hm
  .subst e;exact ua (p:=(k,v)) rfl
  .have a:¬p.1=k:=λz=>h.1 (by rw[z];exact bg.mpr ⟨_,hm,rfl⟩);rw[uc a];exact ih h.2 hm
def yai{kvs:qi (qi Key×V)}{k j:qi Key}{v:V}(h:kvs[i]?=some (k,v)):j∈(kvs.take (i+1)).map (·.1)↔(j=k\/j∈(kvs.take i).map (·.1)):=by rw[List.take_add_one,h,bz,bH];show _\/j∈[k]↔_;rw[bp,or_comm]
def yur{kvs:qi (qi Key×V)}{k:qi Key}{v:V}(hn:(kvs.map (·.1)).Nodup)(h:kvs[i]?=some (k,v)):k∉(kvs.take i).map (·.1):=λm=>by
 have a:i<kvs.length:=(bv.mp h).1;rw[<- List.take_append_drop i kvs,bz,List.nodup_append]at hn;refine hn.2.2 _ m k ?_ rfl;rw[cM a,bS,(bv.mp h).2];exact bN
#synth yca ["self","slots","context","slot","made"] ["self"] vbm
inductive yg8(a:Ads)(vs:Υ)(H:Hp)(Q:VK)(E':XK):Prop
 |mk(p dx lk d:z4)(kd:Fin 3)(f:qi Int->qj Slt)(O:Ν)(m:Nat)(_:vs=[.ref p])(_:ã a H p dx lk d kd f O m)(_:m<1000000)(_:∀q dq d' O' H',H q=none->ã a H' q dq lk d' kd f O' m->(∀c,O' c->H c=none)->yr H H'->Q (.ref q) H')
def yy2:vo P w K mg Γ CX0 4 a.M0 a.Op ["self"] (yg8 a):=by
 exists T.J9.F.ok,yca,hr;let⟨p,dx,lk,d,kd,f,O,m,rfl,hb,hm,k⟩:=h;have aa:=hb.me;let⟨g,M,h1,h2,h3,h4,h5⟩:=hb.tb;let⟨a4,ab⟩:=hb.ky g h1;refine yg (yt (i:=1) yca.nd rfl (Or.inl rfl) yd8) ?_;refine yg (yiy (uk PassesOwn.never rfl (yme (yk (pv 0) rfl)) (ù rfl (xa (vy (i:=2) yca.nd rfl (Or.inl rfl)) (xa (vy (i:=3) yca.nd rfl (Or.inl rfl)) j4))) (yc (yao (É hr) (pv 1) (pv 2) (Ş (vj (pv 3) T.Ao T.Ir.m (va2 T) hr.m T.Ir.B .nil vn) (Ş (vj (pv 3) T.Av T.Iw.m (yxo T) hr.m T.Iw.B .nil vn) (vj (pv 3) T.Ay T.J0.m (yz9 T) hr.m T.J0.B .nil vn))) rfl)))) ?_;refine yg (yt (i:=4) yca.nd rfl (Or.inl rfl) (À T.Kc (yp8 T) hr.m rfl T.Kb T.J7.B .nil vn (pa1 (yk (pv 0) rfl)))) ?_;refine yg (ve (pv 4) (pv 1) rfl) ?_;exists 1,4,yc (yn (pv 4));intro e ge;have S1:=yz (o:=(HO.dT [])) ge;have W:upd H e (HO.dT []) e=some (HO.dT []):=ya;generalize upd H e (HO.dT [])=H1 at S1 W⊢;have al:=S1 _ _ aa;have a8:=S1 _ _ h1;have ao:p≠d:=λz=>hb.np (z ▸ hb.dO);have J:e≠d:=λz=>by rw[z,h1]at ge;cases ge
 ext;exists d,g,rfl,a8,λob=>?_;have a6:upd H1 d (.frz ob (.dT g)) d=some (.frz ob (.dT g)):=ya;have BF:But d H1 (upd H1 d (.frz ob (.dT g))):=But.upd;generalize upd H1 d (.frz ob (.dT g))=HF at a6 BF⊢;refine yh6 (λi σ2 G=>∃(v2 v3:Ψ)(fi:qi Int->qj Slt)(Y:Ν),σ2=[some (.ref p),some (.ref e),v2,v3,none]/\yr3 a G e kd fi Y i/\(∀j,(kI j∈(g.take i).map (·.1)->fi j=f j)/\(kI j∉(g.take i).map (·.1)->fi j=none))/\(∀c,Y c->H c=none)/\G d=some (.frz ob (.dT g))/\But d H G)
  ⟨none,none,λF=>none,λc=>c=e,rfl,⟨λb x=>⟨.dT [],by cases x;exact BF _ _ W J,rfl⟩,rfl,λl n=>(by cases (BF _ _ W J).symm.trans n;exact⟨List.nodup_nil,λF z=>(nomatch z)⟩),[],λF=>(0,0),BF _ _ W J,bJ _,λF F=>rfl,λF F z=>(nomatch z),λF F F F z=>(nomatch z)⟩,λj=>⟨λz=>(by rw[List.take_zero]at z;cases z),λF=>rfl⟩,λc z=>by cases z;exact ge,a6,λb o n ne=>BF _ _ (S1 _ _ n) ne⟩
  (by rintro i σ2 G _ ⟨_,_,_,_,_,_,_,_,w,_⟩;exact w) ?_ ?_
 .rintro i ad v σ2 G t kt r ⟨v2,v3,fi,Y,rfl,gT,gf,gO,gd,gB⟩ gt af;let⟨I,a0⟩:=ab _ (bB r);have a0:ad=kI I:=a0;subst a0;have N:=ynt a4 (bB r)
  obtain⟨s',a9⟩:∃s',f I=some s':=by
   cases z:f I with
   |none=>rw[h3 I z]at N;cases N
   |some s'=>exists s',rfl
  let⟨U,q2,q3,q4,q5⟩:=h4 I s' a9;rw[N]at U;injection U with U;subst U
  have ah:(M I).1≠d:=by
   let⟨C,fs,eo⟩:=π a (M I).2 s';rw[eo]at q2;exact w8 q2 h1 (by intro z;cases z)
  have T1:=yz (o:=(HO.tup [V.ref kt,V.ref (M I).1])) gt;have a5:upd G t (HO.tup [V.ref kt,V.ref (M I).1]) t=some (HO.tup [V.ref kt,V.ref (M I).1]):=ya;generalize upd G t (HO.tup [V.ref kt,V.ref (M I).1])=G1 at T1 a5⊢;refine ü (SqT.of a5) rfl ?_;ext;refine ytw (λQ' h=>yvo rfl h) (T1 _ _ (gB _ _ q2 ah)) λq dq G2 L a7 T2=>?_;have S2:=T1.trans T2;let⟨l,D,S,w2,w3,w4,w5⟩:=id gT.tb;have a3:fi I=none:=(gf I).2 (yur a4 r);have aj:=S2 _ _ gd;ext;exists e,_,rfl,yli.t (S2 _ _ S) (S2 _ _ af) (vh (by have:=(bv.mp r).1;omega)),?_;ext;exists _,_,_,_,rfl,gT.put S2 (T1.free L) a7 q3 q4 a3 (S2 _ _ S),λj=>?_,λc hc=>?_,ye J.symm aj,λb o n ne=>ye (yb n ge) (S2 _ _ (gB _ _ n ne))
  .unfold ć;by_cases z:j=I
   .rw[if_pos z,z];exists λF=>a9.symm,λw=>absurd ((yai r).mpr (.inl rfl)) w
   .rw[if_neg z];exists λw=>(gf j).1 (((yai r).mp w).resolve_left λy=>z (yb6 y)),λw=>(gf j).2 λy=>w ((yai r).mpr (.inr y))
  .rcases hc with hc|rfl
   .exact gO c hc
   .cases z:H c with
    |none=>rfl
    |some o =>
     by_cases y:c=d
     .rw[y]at L;rw[T1 _ _ gd]at L;cases L
     .rw[T1 _ _ (gB _ _ z y)]at L;cases L
 .rintro σ2 G ⟨v2,v3,fi,Y,rfl,gT,gf,gO,gd,gB⟩
  have ag:fi=f:=by
   funext j
   have gj:=gf j;rw[cg]at gj;by_cases w:kI j∈g.map (·.1)
   .exact gj.1 w
   .rw[gj.2 w]
    cases z:f j with
    |none=>rfl
    |some s' =>
     have U:=(h4 j s' z).1;have a1:=jl (kI j) g;rw[U]at a1;let⟨pr,ai,n⟩:=cP.mp a1;exact absurd (bg.mpr ⟨pr,ai,of_decide_eq_true n⟩) w
  subst ag;exists d,ob,.dT g,λo u z=>(by rw[a8]at z;cases z),gd,?_
  have ST:yr H (upd G d (.dT g)):=λb o n=>by
   by_cases y:b=d
   .rw[y,ya];rw[y,h1]at n;exact n
   .rw[ym y];exact gB _ _ n y
  have a2:yr3 a (upd G d (.dT g)) e kd fi Y g.length:=by
   let⟨l,D,S,w2,w3,w4,w5⟩:=gT.tb
   have nO:∀c,Y c->c≠d:=λc hc z=>by
    have:=gO c hc;rw[z,h1]at this;cases this
   exists λb x=>?_,gT.dO,gT.ky.mv S (ye J S),l,D,ye J S,w2,w3,λk s hk=>?_,w5
   .obtain⟨o,ho,hi⟩:=gT.own b x;exists o,ye (nO b x) ho,hi
   .obtain⟨U,q2,q3,q4,q5⟩:=w4 k s hk;exists U,ye (nO _ q5) q2,q3,q4,q5
  generalize upd G d (.dT g)=GT at ST a2⊢;have am:=ST _ _ aa;ext;intro q dq nq ac aq;exists q,dq,lk,kd,rfl,ya,λd2 G2 an ae B2=>⟨rfl,?_⟩;have S3:=í nq ac B2;have a7:=ae.me;have R:=a2.same S3;ext
  have X:¬Y q:=λw=>by
   let⟨o,ho,_⟩:=a2.own q w;rw[nq]at ho;cases ho
  let⟨l,D,S,w2,w3,w4,w5⟩:=R.tb;have Z:e≠q:=λz=>X (z ▸ R.dO);refine k q dq e Y _ (ST.free nq) ⟨ya,λb x=>?_,X,R.dO,R.ky.mv S (ye Z S),l,D,ye Z S,(),w3,λk s hk=>?_,w5⟩ gO (λb o n=>ye (λz=>by rw[z]at n;rw[ST _ _ n]at nq;cases nq) (S3 _ _ (ST _ _ n)))
  .obtain⟨o,ho,hi⟩:=R.own b x;exists o,ye (λz=>X (z ▸ x)) ho,hi
  .obtain⟨U,q2,q3,q4,q5⟩:=w4 k s hk;exists U,ye (λz=>X (z ▸ q5)) q2,q3,q4,q5
#synth yxx ["self","many"] vdd
def ypf:vo P w K mg Γ CX0 1 a.Gj a.Oq ["self","many"] (ynr a):=by
 exists T.Ja.F.ok,yxx,q;let⟨p,f,n,rfl,o,m,e,k⟩:=h;exists 2,0,yc (ve (pv 0) (yo yz8 (wy (pa1 (vz rfl T.D0))) (pv 1)) rfl);exists by walk_at "len",λr hr0=>?_
 exists hr0,H1,S1,e1;ext;exists r,n,_,rfl,rfl,e1,(),(),wd (by show 1*(n:Int).toNat<=16000000;omega),λl hl=>?_
 rw[yih];exists hl,H2,S2,e2;have b:=S1.trans S2;have g:=b _ _ e;ext;have d:l≠p:=λz=>by rw[z,S1 _ _ e]at hl;cases hl
 exact k l _ (S1.free hl) ⟨ya,ye d e2⟩ ((But.of b).trans But.upd)
#synth ywv ["self","chances"] vdq
def yyu:vo P w K mg Γ CX0 1 a.M4 a.Os ["self","chances"] (yie K a):=by
 exists T.Jb.F.ok,ywv,hr;let⟨p,S,l,c,I,B,n,rfl,n1,U,e,Y,⟨hp,G⟩,O,k⟩:=h;exists _,(yc (yn (yo vq (pcB (Ñ rfl) T.Ep (pa1 (yaa (js:=[]) (ys:=[]) (xs:=["weight","chance"]) (g:=yvx K 2 (zq (xo 0) (zq (xo 1) yle))) rfl (yp3 rfl T.Ko (pac (yk (pv 0) rfl) (pa1 (pv 1)))) (λC s2 t fp=>(yo xg (pv 0) (pv 1))) rfl (λC s2 t fp=>ù rfl (xa (vy (i:=0) (show List.Nodup ((["weight","chance"]:Τ)++([]:Τ)) by right) rfl (Or.inl rfl)) (xa (vy (i:=1) (show List.Nodup ((["weight","chance"]:Τ)++([]:Τ)) by right) rfl (Or.inl rfl)) j4))) rfl (hyc:=yy) (hrel:=yy)))) (pcB (Ñ rfl) T.Ep (pa1 (yk (pv 0) rfl)))))),?_;exists 2,0;have d:B.length=I.length:=by rw[e.len,Y.len]
 ext;exists l,c,rfl,⟨_,_,SqL.of G,O⟩,λD M=>?_;refine ő (λi=>V.int ((I[i]?).getD 0*(B[i]?).getD 0)) (SqL.of G) O (by rw[ba,ba,d]) M (λi x y t z a2 Z hy r b m f=>?_) (λt r b=>?_)
 .obtain⟨v1,R,rfl⟩:=yj6 f;let⟨w,rfl,N,X,il⟩:=jk Z;let⟨u,rfl,um,ui,_⟩:=jk hy;have w1:=e.one w N;have w2:=e.top w N;have L:=r.trans (yz (o:=HO.tup [V.int w,V.int u]) m);have q:=zi (o':=HO.tup [V.int w,V.int u]) m b;have j:upd t z (HO.tup [V.int w,V.int u]) z=some (.tup [V.int w,V.int u]):=ya;generalize upd t z (HO.tup [V.int w,V.int u])=H3 at L q j;refine ü (SqT.of j) rfl ?_;show zq (xo 0) (zq (xo 1) yle) [V.int w,V.int u] (v1::R::uz [] [some (V.ref p),some (V.ref c)]) H3 _;ext;exists⟨[some (.int w),some (.int u)],rfl,rfl⟩,?_;ext;refine Mp.doneR M (vh (by rw[ba,e.len];omega)) (by rw[ba];exact il) L q ?_;rw[X,ui];rfl
 .have b:=yeu b (ypy (g:=λw c=>w*c) d);have a1:=r _ _ hp;have v:=r _ _ G;have p1:=e.pos n1;have p2:=e.small U;ext;exists D,_,rfl,SqL.of b,?_;ext;exists l,_,rfl,SqL.of v,?_;ext;exact k _ r
#synth Ŗ ["self","chances","bit","shares","whole","own","grown","dropped"] ["self","chances","bit"] vcf
def yzj:vo P w K mg Γ (CXe P w) 5 a.M5 a.Ot ["self","chances","bit"] (yhh K a a.Bm):=by
 exists T.Jc.F.okE,Ŗ,hr;let⟨p,dx,l,c,B,r,n,x,m,rfl,n1,n6,hw,hc,⟨hp,hl⟩,hq,ty,k1,k2⟩:=h;refine yg (yu (uo (ī T) hr.m T.Ci yv (pa1 (pv 2)))) ?_;refine yg (yn2 (i:=3) (js:=[2]) (ys:=["bit"]) (xs:=["weight","chance"]) (g:=yvx K 2 (zq (xo 0) (zq (xo 1) yle))) Ŗ.nd rfl rfl rfl (yp3 rfl T.Ko (pac (yk (pv 0) rfl) (pa1 (pv 1)))) (λC s2 M fp=>(yo xg (pv 0) (uo (yo0 T) hr.m T.Im vw (pac (pv 1) (pa1 (pv 2)))))) rfl (λC s2 M fp=>ù rfl (xa (vy (i:=0) (show List.Nodup ((["weight","chance"]:Τ)++(["bit"]:Τ)) by right) rfl (Or.inl rfl)) (xa (vy (i:=1) (show List.Nodup ((["weight","chance"]:Τ)++(["bit"]:Τ)) by right) rfl (Or.inl rfl)) j4))) rfl (hyc:=(all_cons rfl yy)) (hrel:=(all_cons rfl yy))) ?_;refine yg (yt (i:=4) Ŗ.nd rfl (Or.inr rfl) (pcB (Ñ rfl) T.Ep (pa1 (pv 3)))) ?_;refine yg (yt (i:=5) Ŗ.nd rfl (Or.inr rfl) (yo xg (vz rfl T.Er) (pcB yp T.A7 (pa1 (pv 3))))) ?_;refine yg (ynw (i:=6) (js:=[4,5]) (ys:=["whole","own"]) Ŗ.nd rfl rfl rfl (we (pv 3)) (λC s2 M fp=>(yo wb (yo xg (pv 2) (pv 0)) (pv 1))) rfl rfl (hyc:=(all_cons rfl (all_cons rfl yy))) (hrel:=(all_cons rfl (all_cons rfl yy)))) ?_;refine yg (yt (i:=7) Ŗ.nd rfl (Or.inr rfl) (pcB (ğ rfl) T.Kn (pac (yo zy (yfl PySem.F.plainAttrs_int PySem.F.slot_int_bit_length PySem.F.type_int_bit_length yi5 (pcB (Ñ rfl) T.Ep (pa1 (pv 6)))) (vz rfl T.D1)) (pa1 yh)))) ?_;exists _,(yc (ve (pv 0) (vx (js:=[7]) (ys:=["dropped"]) rfl (we (pv 6)) (λC s2 M fp=>(yo yzs (pv 0) (pv 1))) rfl rfl (hyc:=(all_cons rfl yy)) (hrel:=(all_cons rfl yy))) rfl)),?_;exists 3,5;have q:r.length=B.length:=by rw[hw.len,hc.len]
 ext;exists x,m,rfl,ty,λhx=>?_,k2;let⟨b,rfl,b0,b1⟩:=yft hx;have k:=k1 b rfl b0 b1;ext;exists l,c,rfl,⟨_,_,SqL.of hl,hq⟩,λD hD=>?_;refine ő (λi=>V.int ((B[i]?).getD 0*giv ((r[i]?).getD 0) b)) (SqL.of hl) hq (by rw[ba,ba,q]) hD (λi x y M tt a7 hx O S2 d U R=>?_) (λM S2 d=>?_)
 .obtain⟨v1,v2,rfl⟩:=yj6 R;let⟨w,rfl,wm,wi,il⟩:=jk hx;let⟨u,rfl,um,ui,_⟩:=jk O;have w1:=hw.one w wm;have w2:=hw.top w wm;have a1:=ycf (ywe hc um);have a2:=yaq b0 b1;have J:=S2.trans (yz (o:=HO.tup [V.int w,V.int u]) U);have W:=zi (o':=HO.tup [V.int w,V.int u]) U d;have S:upd M tt (HO.tup [V.int w,V.int u]) tt=some (.tup [V.int w,V.int u]):=ya;generalize upd M tt (HO.tup [V.int w,V.int u])=H3 at J W S;refine ü (SqT.of S) rfl ?_;show zq (xo 0) (zq (xo 1) yle) [V.int w,V.int u] (v1::v2::uz [2] [some (V.ref p),some (V.ref c),some (V.int b),none,none,none,none,none]) H3 _;ext;exists⟨[some (.int w),some (.int u)],rfl,rfl⟩,?_;ext;exists .int u,_,.int b,_,rfl,.int u,.int b,λz=>(by rw[a1]at z;cases z),λF z=>(by rw[a2]at z;cases z),λc' b' ec eb F F=>?_;cases ec;cases eb;ext;refine Mp.doneR hD (vh (by rw[ba,hw.len];omega)) (by rw[ba];exact il) J W ?_;rw[wi,ui];rfl
 .have d:M D=some (.lst ((shL B r b).map V.int)):=yeu d (ypy (g:=λw c=>w*giv c b) q);have j:(shL B r b).length=n:=by rw[ydm q.symm,hw.len]
  have a4:=S2 _ _ hp;have ek:lrn B r b=(grL (shL B r b)).map λv=>v/2^tOf (grL (shL B r b)).sum:=rfl;rw[ek]at k;generalize shL B r b=L at d j k;have eg:grL L=L.map λs=>31*(n:Int)*s+L.sum:=by rw[<- j];rfl
  ext;exists D,_,rfl,SqL.of d,?_;ext;refine u5 (SqL.of d) ?_;rw[ba,j];ext;exists D,rfl,⟨_,SqL.of d⟩,λG hG=>?_;refine zd (onI λs=>31*(n:Int)*s+L.sum) (SqL.of d) hG (λi y H3 O J f=>?_) (λH3 J f=>?_)
  .obtain⟨s',rfl,_,_,il⟩:=jk O;show tOp _ _ _ (some (V.int s')::uz [4,5] [some (V.ref p),some (V.ref c),some (V.int b),some (V.ref D),some (V.int L.sum),some (V.int (31*(n:Int))),none,none]) H3 _;ext;exact Mp.done hG (vh (by rw[ba,j];omega)) O J f rfl
  .rw[yi9,<- eg]at f;have X:(grL L).length=n:=by rw[yjf,j]
   generalize grL L=N at f k X;have Y:=J _ _ a4;ext;exists G,_,rfl,SqL.of f,?_;ext;exists _,_,rfl,?_
   have et:(if (0:Int) > ((Builtin.Int.intBits N.sum:Nat):Int)-48 then (0:Int)else ((Builtin.Int.intBits N.sum:Nat):Int)-48)=((tOf N.sum:Nat):Int):=by
    show _=(((yn7 N.sum)-48:Nat):Int);have e:Builtin.Int.intBits N.sum=yn7 N.sum:=rfl;rw[e]
    split<;>omega
   rw[et];generalize tOf N.sum=t at k;ext;exists G,rfl,⟨_,SqL.of f⟩,λZ hZ=>?_;refine zd (onI λv=>v/2^t) (SqL.of f) hZ (λi y H4 O S4 I=>?_) (λH4 S4 I=>?_)
   .obtain⟨s',rfl,_,_,il⟩:=jk O;show tOp _ _ _ (some (V.int s')::uz [7] [some (V.ref p),some (V.ref c),some (V.int b),some (V.ref D),some (V.int L.sum),some (V.int (31*(n:Int))),some (V.ref G),some (V.int (t:Int))]) H4 _;ext;refine i_I (Int.natCast_nonneg t) ?_;exact Mp.done hZ (vh (by rw[ba,X];omega)) O S4 I rfl
   .rw[yi9]at I;have a5:=S4 _ _ Y;ext;have nz:Z≠p:=λz=>by rw[z,Y]at hZ;cases hZ
    have a0:=S2.trans (J.trans S4);exact k Z _ ((S2.trans J).free hZ) ⟨ya,ye nz I⟩ ((But.of a0).trans But.upd)
#synth yru ["self","made"] ["self"] vdr
inductive ym1(a:Ads)(vs:Υ)(H:Hp)(Q:VK)(E':XK):Prop
 |mk(p dx l:z4)(ws:Ρ)(_:vs=[.ref p])(_:yg7 a p dx l ws H)(_:1<=ws.length)(_:ws.length<=6)(_:∀q dq l' H',H q=none->H l'=none->yg7 a q dq l' ws H'->yr H H'->Q (.ref q) H')
def yx5:vo P w K mg Γ CX0 3 a.M6 a.Ou ["self"] (ym1 a):=by
 exists T.Jd.F.ok,yru,L;let⟨p,C,l,x,rfl,⟨O,v⟩,N,D,k⟩:=h;exists 1,1,yf (yt (i:=1) yru.nd rfl (Or.inl rfl) (À T.Sv (ypf T) L.m rfl T.Su T.Ja.B .nil vn (pa1 (pcB yp T.A7 (pa1 (yk (pv 0) rfl)))))) (yf (ve (pv 1) (pcT wg T.Ad (pa1 (yk (pv 0) rfl))) rfl) (yc (yn (pv 1))));refine u5 (SqL.of v) ?_;rw[ba];ext;intro q u n g M;exists q,u,x.length,rfl,N,D,ya,λS U t M1 y=>⟨rfl,?_⟩;have d:=í n g y;have c:=M1.o;have R:=d _ _ O;ext;refine Õ (SqL.of (d _ _ v)) λr hr0=>?_;exists hr0,H2,S2,er;have I:=S2 _ _ c;ext;have f:r≠q:=λz=>by rw[z,c]at hr0;cases hr0
 exact k q u r _ n (d.free hr0) ⟨ya,ye f er⟩ λb o e=>ye (yb e n) (S2 _ _ (d _ _ e))
#synth va8 ["self"] vbk
def ã.sqt{H H':Hp}{p dx lk d:z4}{kd:Fin 3}{f:qi Int->qj Slt}{O:Ν}{m:Nat}(h:ã a H p dx lk d kd f O m)(B:yof O H H'){t:z4}{xs:Υ}(e:SqT K H t xs):SqT K H' t xs:=by
 have g:∀o:HO,H t=some o->yvs o=false->H' t=some o:=λo i j=>B _ _ i λz=>by
  let⟨k,c,b⟩:=h.own t z;rw[i]at c;cases c;rw[j]at b;cases b
 rcases e with(e|⟨o,e⟩)|e
 .exact .inl (.inl (g _ e rfl))
 .exact .inl (.inr ⟨o,g _ e rfl⟩)
 .exact .inr e
def ã.up{H:Hp}{p dx lk d:z4}{kd:Fin 3}{f:qi Int->qj Slt}{O:Ν}{m:Nat}(h:ã a H p dx lk d kd f O m)(hm:m<=m'):ã a H p dx lk d kd f O m':=by let⟨b,c,e,g,i⟩:=h.tb;exists h.me,h.own,h.np,h.dO,h.ky,b,c,e,bF g hm,i
def jg.mvT{H H':Hp}{k:z4}{x:V}{ps:Ρ}(h:jg K H k x ps)(h1:∀t xs,SqT K H t xs->SqT K H' t xs):jg K H' k x ps:=by let⟨t,a,c,b,d⟩:=h;exists t,h1 _ _ a,h1 _ _ c,b,d
noncomputable def refs(g:Μ)(n:Nat):Υ:=(List.range n).map λi=>V.ref (g i)
def vi(g:Μ)(n:Nat):(refs g n).length=n:=by unfold refs;rw[ba,bQ]
def uw{g:Μ}{n:Nat}{x:V}(h:(refs g n)[i]?=some x):x=.ref (g i)/\i<n:=by
 have a:i<n:=by
  have:=(bv.mp h).1;rw[vi]at this;exact this
 unfold refs at h;rw[bi,cj a]at h;exists(bx h).symm,a
def x0(g:Μ)(n:Nat):refs g (n+1)=refs g n++[.ref (g n)]:=by unfold refs;rw[List.range_succ,bz];rfl
def xv{g h:Μ}{n:Nat}(e:∀i,i<n->g i=h i):refs g n=refs h n:=by unfold refs;exact List.map_congr_left λi a=>by rw[e i (cc.mp a)]
structure Bks(K:z3)(a:Ads)(H:Hp)(n:Nat)(bk dx lk dd:Μ)(kd:Ξ)(ps:Λ)(f:Α)(O:Β)(m:Nat):Prop where
 look:∀i,i<n->jg K H (lk i) (.str (kdS (kd i))) (ps i)
 b:∀i,i<n->ã a H (bk i) (dx i) (lk i) (dd i) (kd i) (f i) (O i) m
 dj:∀i j c,i<n->j<n->i≠j->O i c->¬O j c
 nb:∀i j,i<n->j<n->¬O i (bk j)
def AtS(H:Hp)(d:z4)(k:Ρ)(q:z4):Prop:=∀kvs,H d=some (.dT kvs)->z5 kvs (kI k)=some (.ref q)
def ã.slot{H:Hp}{p dx lk d:z4}{kd:Fin 3}{f:qi Int->qj Slt}{O:Ν}{m:Nat}{k:Ρ}{s:Slt}(h:ã a H p dx lk d kd f O m)(hf:f k=some s)(hq:AtS H d k q):∃dq,H q=some (oS a dq s)/\s.ok/\s.kind=kd/\O q:=by let⟨b,n,c,t,u,g,v⟩:=h.tb;let⟨j,l,i,r,o⟩:=g k s hf;have e:=hq b c;rw[j]at e;injection e with e;injection e with e;subst e;exists _,l,i,r,o
def ã.told{H H':Hp}{p dx lk d:z4}{kd:Fin 3}{f:qi Int->qj Slt}{O:Ν}{m:Nat}{k:Ρ}{s:Slt}{b:Int}(h:ã a H p dx lk d kd f O m)(hf:f k=some s)(hq:AtS H d k q)(b0:0<=b)(b1:b<=1)
  (h3:H' q=some (oS a dq (s.see b))) (B:But q H H'):ã a H' p dx lk d kd (ć f k (s.see b)) O m:=by
 have A:=h.me;let⟨u,l,v,S,D,G,L⟩:=id h.tb;let⟨J,I,T,R,K⟩:=G k s hf;have e:=hq u v;rw[J]at e;injection e with e;injection e with e;have E:p≠q:=λz=>h.np (by rw[z,<- e];exact K)
 have r:d≠q:=λz=>by
  let⟨C,X,y⟩:=π a (l k).2 s;rw[e,<- z,v,y]at I;cases I
 exists B _ _ A E,λc P=>?_,h.np,h.dO,h.ky.mv v (B _ _ v r),u,λj=>if j=k then (q,dq)else l j,B _ _ v r,S,λj i=>?_,λj n i=>?_,λx F s1 s2 W e2 el=>?_
 .obtain⟨o,Q,Z⟩:=h.own c P;by_cases z:c=q
  .rw[z];let⟨C,X,y⟩:=π a dq (s.see b);exists _,h3,by rw[y];rfl
  .exists o,B _ _ Q z,Z
 .refine D j ?_;unfold ć at i
  split at i
  .cases i
  .exact i
 .unfold ć at i;by_cases z:j=k
  .rw[if_pos z]at i;cases i;subst z;dsimp only;rw[if_pos rfl];exists by rw[J,e],h3,Slt.see_ok T b0 b1,(ynj s b).trans R,e ▸ K
  .rw[if_neg z]at i;let⟨p1,U,p3,p4,p5⟩:=G j n i;dsimp only;rw[if_neg z];exists p1,B _ _ U (λw=>z (L j k n s i hf (w.trans e.symm))),p3,p4,p5
 .have g:∀j n,ć f k (s.see b) j=some n->∃t,f j=some t:=λj n h=>by
   unfold ć at h;by_cases z:j=k
   .exists s,by rw[z];exact hf
   .rw[if_neg z]at h;exists n,h
  let⟨Y,N⟩:=g x s1 W;let⟨t2,M⟩:=g F s2 e2;refine L x F Y t2 N M ?_
  have yr0:∀j,(if j=k then ((q,dq):z4×z4)else l j).1=(l j).1:=λj=>by
   by_cases z:j=k
   .rw[if_pos z,z];exact e.symm
   .rw[if_neg z]
  rw[<- yr0 x,<- yr0 F];exact el
def AtS.told{H H':Hp}{p dx lk d:z4}{kd:Fin 3}{f:qi Int->qj Slt}{O:Ν}{m:Nat}{k:Ρ}(h:ã a H p dx lk d kd f O m){r:z4}(hd:d≠r)(B:But r H H')(hq:AtS H d k q):AtS H' d k q:=λg e=>by
 let⟨c,i,b,_⟩:=h.tb;rw[B _ _ b hd]at e;cases e;exact hq _ b
section
variable{H H':Hp}{n m:Nat}{bk dx lk dd:Μ}{kd:Ξ}{ps:Λ}{f:Α}
theorem Bks.frame(h:Bks K a H n bk dx lk dd kd ps f O m){O2:Ν}(B:yof O2 H H')(dj:∀i b,i<n->O i b->¬O2 b)(hp:∀i,i<n->¬O2 (bk i))(ht:∀t xs,SqT K H t xs->SqT K H' t xs):Bks K a H' n bk dx lk dd kd ps f O m :=
 ⟨λi c=>(h.look i c).mvT ht,λi c=>(h.b i c).frame B (λb d=>dj i b c d) (hp i c),h.dj,h.nb⟩
def Bks.same(h:Bks K a H n bk dx lk dd kd ps f O m)(S:yr H H'):Bks K a H' n bk dx lk dd kd ps f O m :=
 h.frame (O2:=λZ=>False) (λb o e Z=>S b o e) (λZ Z Z Z z=>z) (λZ Z z=>z) λZ Z e=>S.tup e
def Bks.move(h:Bks K a H n bk dx lk dd kd ps f O m)(hj:j<n){f':qi Int->qj Slt}{O':Ν}(hm:m<=m')(hb:ã a H' (bk j) (dx j) (lk j) (dd j) (kd j) f' O' m')(hO:∀c,O' c->O j c\/H c=none)(B:yof (O j) H H'):
  Bks K a H' n bk dx lk dd kd ps (λi=>if i=j then f' else f i) (λi=>if i=j then O' else O i) m':=by
 have x:=h.b j hj
 have g:∀q c,q<n->q≠j->O q c->¬O' c:=λq c C y w E=>by
  rcases hO c E with v|v
  .exact h.dj q j c C hj y w v
  .obtain⟨o,D,_⟩:=(h.b q C).own c w;rw[v]at D;cases D
 exists λi d=>(h.look i d).mvT λt F e=>x.sqt B e,λi d=>?_,λi l c d r s p k=>?_,λi l d r e=>?_
 .try dsimp only
  by_cases z:i=j
  .subst z;rw[if_pos rfl,if_pos rfl];exact hb
  .rw[if_neg z,if_neg z];exact((h.b i d).frame B (λb A=>h.dj i j b d hj z A) (h.nb j i hj d)).up hm
 .try dsimp only at p k
  by_cases z1:i=j
  .rw[if_pos z1]at p;have u:l≠j:=λw=>s (z1.trans w.symm);rw[if_neg u]at k;exact g l c r u k p
  .rw[if_neg z1]at p;by_cases u:l=j
   .rw[if_pos u]at k;exact g i c d z1 p k
   .rw[if_neg u]at k;exact h.dj i l c d r s p k
 .try dsimp only at e
  by_cases z:i=j
  .rw[if_pos z]at e;rcases hO _ e with v|v
   .exact h.nb j l hj r v
   .rw[(h.b l r).me]at v;cases v
  .rw[if_neg z]at e;exact h.nb i l d r e
def AtS.move(h:Bks K a H n bk dx lk dd kd ps f O m)(hi:i<n)(hj:j<n)(hij:i≠j)(B:yof (O j) H H'){k:Ρ}(hq:AtS H (dd i) k q):AtS H' (dd i) k q:=λg e=>by
 let⟨d,l,c,_⟩:=(h.b i hi).tb;rw[B _ _ c (h.dj i j _ hi hj hij (h.b i hi).dO)]at e;cases e;exact hq _ c
def Bks.nlst(h:Bks K a H n bk dx lk dd kd ps f O m){l:z4}{xs:Υ}(hl:H l=some (.lst xs)):∀i,i<n->¬O i l:=λi e z=>by
 let⟨o,d,c⟩:=(h.b i e).own l z;rw[hl]at d;cases d;cases c
end
def ylk(n:Nat)(kd:Ξ)(f:Α)(g:Nat->qi Int->Slt):Prop:=∀i,i<n->∀k,(f i k).getD (kd0 (kd i))=g i k
def ylk.put{n:Nat}{kd:Ξ}{f:Α}{g:Nat->qi Int->Slt}(h:ylk n kd f g)(j:Nat)(hj:j<n)(k:Ρ):ylk n kd (λi=>if i=j then ć (f j) k ((f j k).getD (kd0 (kd j)))else f i) g:=λi b a=>by
 dsimp only;by_cases z:i=j
 .subst z;rw[if_pos rfl];unfold ć;by_cases w:a=k
  .rw[if_pos w,w];exact h i b k
  .rw[if_neg w];exact h i b a
 .rw[if_neg z];exact h i b a
inductive ygy(K:z3)(a:Ads)(vs:Υ)(H:Hp)(Q:VK)(E':XK):Prop
 | mk(p dp ll bl mp el pl0:z4)(nd:Int)(sg:Ρ)(n m:Nat)(bk dx lk dd:Μ)(kd:Ξ)(ps:Λ)(f:Α)(O:Β)(g:Nat->qi Int->Slt)(_:vs=[.ref p])(_:H p=some (.ins a.A3 dp (jb (.ref ll) (.ref bl) (.ref mp) (.ref el) (.int nd) (.ref pl0))))(_:H bl=some (.lst (refs bk n)))(_:H el=some (.lst (sg.map V.int)))(_:Bks K a H n bk dx lk dd kd ps f O m)(_:ylk n kd f g)(_:n<=6)(_:m+10<1000000)(_:(∀i,i<n->¬O i p))(_:∀(pl:z4)(sl:Μ)(f':Α)(O':Β)(H':Hp),H' p=some (.ins a.A3 dp (jb (.ref ll) (.ref bl) (.ref mp) (.ref el) (.int nd) (.ref pl)))->H' pl=some (.lst (refs sl n))->H pl=none ->
  Bks K a H' n bk dx lk dd kd ps f' O' (m+n)->ylk n kd f' g->(∀j,j<n->(∃s,f' j (ctx (ps j) sg nd)=some s)/\AtS H' (dd j) (ctx (ps j) sg nd) (sl j))->(∀j c,j<n->O' j c->O j c\/H c=none) ->
  (∀c o,H c=some o->c≠p->(∀j,j<n->¬O j c)->H' c=some o)->(∀c o,H c=some o->∃o',H' c=some o')->Q .non H')
def yki:vo P w K mg Γ CX0 5 a.M7 a.Ow ["self"] (ygy K a):=by
 exists T.Ct.F.ok,va8,hr;let⟨p,dp,ll,bl,mp,el,a8,N,U,n,m,Y,dx,lk,dd,kd,M,f,O,g,rfl,hp,X,a6,hB,hA,n6,hm,np,k⟩:=h;exists 1,0,yc (ve (pv 0) (vx (js:=[0]) (ys:=["self"]) rfl (we (yk (pv 0) rfl)) (λC s2 H2 fp=>(xi (pv 0) T.B0 T.J8.m (yxa T) hr.m T.J8.B .nil vn (pac (ydo (K:=K) rfl (pv 1) rfl) (pa1 (ydo (K:=K) rfl (pv 1) rfl))))) rfl rfl (hyc:=(all_cons rfl yy)) (hrel:=(all_cons rfl yy))) rfl);exists bl,rfl,⟨_,SqL.of X⟩,λD L=>?_;have ad:=hB.nlst X;have ab:=hB.nlst a6;refine Ō (K:=K) (xs:=refs Y n) (λi G=>∃(u:Μ)(R:Α)(I:Β),G D=some (.lst (refs u i))/\Bks K a G n Y dx lk dd kd M R I (m+i)/\ylk n kd R g/\(∀j,j<i->(∃s,R j (ctx (M j) U N)=some s)/\AtS G (dd j) (ctx (M j) U N) (u j))/\
  (∀j c,j<n->I j c->O j c\/H c=none)/\(∀c o,H c=some o->(∀j,j<n->¬O j c)->G c=some o)/\(∀c o,H c=some o->∃o',G c=some o'))
  ⟨λF=>0,f,O,ya,hB.same (yz L),hA,λj d=>absurd d (bD j),λj c F z=>.inl z,λc o e F=>zi L e,λc o e=>⟨o,zi L e⟩⟩ (λi G F z=>?_) (λi x G hx hi z=>?_) (λG z=>?_)
 .obtain⟨_,_,_,_,_,_,_,_,w,_⟩:=z;exact SqL.of (w _ _ X ad)
 .obtain⟨u,R,I,gD,r,gA,gS,gO,Z,gL⟩:=z;let⟨rfl,l⟩:=uw hx;have J:=Z _ _ hp np;have a7:=Z _ _ a6 ab;have ai:=(r.b i l).me;show Ŀ _ _ _ _ _ _ _ (some (V.ref (Y i))::uz [0] [some (V.ref p)]) G _;ext;exists Y i,dx i,lk i,dd i,el,kd i,R i,I i,m+i,M i,U,N,rfl,r.b i l,(),r.look i l,SqL.of a7,λq O2 G2 a2 hv a4 ac B2=>?_
  have nD:=r.nlst gD;have y:G2 D=some (.lst (refs u i)):=B2 _ _ gD (nD i l);refine x8 (n:=(refs Y n).length) y (vh (by rw[vi];omega)) hi ?_;have M2:=r.move l (Nat.le_succ (m+i)) a2 a4 B2;have a5:=M2.nlst y;have S:∀c o,G2 c=some o->c≠D->upd G2 D (.lst (refs u i++[V.ref q])) c=some o:=λc o e W=>ye W e
  have M3:=M2.frame (O2:=λc=>c=D) (λc o e W=>S c o e W) (λj c d w z=>a5 j d (z ▸ w)) (λj d z=>by
   have:=(M2.b j d).me;rw[z,y]at this
   cases this) (λt xs e=>by
   rcases e with(e|⟨o,e⟩)|e
   .exact .inl (.inl (S _ _ e (λz=>by rw[z,y]at e;cases e)))
   .exact .inl (.inr ⟨o,S _ _ e (λz=>by rw[z,y]at e;cases e)⟩)
   .exact .inr e)
  have up:∀j,j<n->AtS G2 (dd j) (ctx (M j) U N) (if j=i then q else u j)->AtS (upd G2 D (.lst (refs u i++[V.ref q]))) (dd j) (ctx (M j) U N) (if j=i then q else u j):=λj d h =>
   h.told (M2.b j d) (λz=>a5 j d (by rw[<- z];exact(M2.b j d).dO)) (λc o e W=>S c o e W)
  exists λj=>if j=i then q else u j,_,_,?_,M3,gA.put i l _,λj d=>?_,λj c d w=>?_,λc o e no=>?_,λc o e=>?_
  .rw[ya,x0,if_pos rfl]
   congr 3
   exact xv λj d=>(if_neg ()).symm
  .by_cases z:j=i
   .subst z;exists⟨(R j (ctx (M j) U N)).getD (kd0 (kd j)),?_⟩,up j l ?_
    .try dsimp only
     rw[if_pos rfl];unfold ć;rw[if_pos rfl]
    .rw[if_pos rfl];exact hv
   .have a3:j<n:=()
    let⟨⟨s',ae⟩,a9⟩:=gS j ();exists⟨s',?_⟩,up j a3 ?_
    .try dsimp only
     rw[if_neg z];exact ae
    .rw[if_neg z];exact a9.move r a3 l z B2
  .try dsimp only at w
   by_cases z:j=i
   .subst z;rw[if_pos rfl]at w;rcases a4 c w with v|v
    .exact gO j c d v
    .refine .inr ?_
     cases e:H c with
     |none=>rfl
     |some o =>
      let⟨o',w'⟩:=gL c o e;rw[w']at v;cases v
   .rw[if_neg z]at w;exact gO j c d w
  .have hG:=Z c o e no
   have nc:¬I i c:=λw=>by
    rcases gO i c l w with v|v
    .exact no i l v
    .rw[e]at v;cases v
   refine S _ _ (B2 _ _ hG nc) (λz=>?_);rw[z,L]at e;cases e
  .obtain⟨o1,w1⟩:=gL c o e;have a0:c≠D:=λz=>by rw[z,L]at e;cases e
   by_cases w2:I i c
   .obtain⟨o2,af,_⟩:=a2.own c (ac c w2);exists o2,S _ _ af a0
   .exists o1,S _ _ (B2 _ _ w1 w2) a0
 .obtain⟨u,R,I,gD,r,gA,gS,gO,Z,gL⟩:=z;rw[vi]at gD r gS;have J:=Z _ _ hp np;ext;have aa:D≠p:=λz=>by rw[z,hp]at L;cases L
  have BP:But p G (upd G p (.ins a.A3 dp (jb (.ref ll) (.ref bl) (.ref mp) (.ref el) (.int N) (.ref D)))):=But.upd
  have a1:∀i,i<n->¬I i p:=λi hi w=>by
   rcases gO i p hi w with v|v
   .exact np i hi v
   .rw[hp]at v;cases v
  have M3:=r.frame (O2:=λc=>c=p) (λc o e W=>BP c o e W) (λj c d w z=>a1 j d (z ▸ w)) (λj d z=>by
   have:=(r.b j d).me;rw[z,J]at this;injection this with this;injection this with _ _ e
   exact absurd (congrArg List.length e) (show ¬(6=2) by decide)) (λt xs e=>by
   rcases e with(e|⟨o,e⟩)|e
   .exact .inl (.inl (BP _ _ e (λz=>by rw[z,J]at e;cases e)))
   .exact .inl (.inr ⟨o,BP _ _ e (λz=>by rw[z,J]at e;cases e)⟩)
   .exact .inr e)
  refine k D u R I _ ya (ye aa gD) L M3 gA (λj d=>⟨(gS j d).1,(gS j d).2.told (r.b j d) (λz=>a1 j d (by rw[<- z];exact(r.b j d).dO)) BP⟩) gO (λc o e nc no=>BP _ _ (Z c o e no) nc) λc o e=>?_;by_cases zc:c=p
  .rw[zc];exists _,ya
  .obtain⟨o1,w1⟩:=gL c o e;exists o1,BP _ _ w1 zc
structure FA where
 dp:z4
 ll:z4
 bl:z4
 mp:z4
 mx:z4
 ml:z4
 el:z4
 pl:z4
 n:Nat
 bk:Μ
 dx:Μ
 lk:Μ
 dd:Μ
 sl:Μ
 kd:Ξ
 ps:Λ
structure FX where
 g:Nat->qi Int->Slt
 ws:Ρ
 sg:Ρ
 nd:Int
def FX.key(X:FX)(A:FA)(i:Nat):Ρ:=ctx (A.ps i) X.sg X.nd
noncomputable def FX.cs(X:FX)(A:FA):Ρ:=(List.range A.n).map λi=>(X.g i (X.key A i)).due
noncomputable def ndN(nd b:Int):Int:=if 0<nd then (if 256<=2*nd+b then 0 else 2*nd+b)else if b=1 then 1 else nd
noncomputable def sgN(sg:Ρ)(nd b:Int):Ρ:=if 0<nd then (if 256<=2*nd+b then sg++[2*nd+b-256]else sg)else if b=1 then sg else []
def FX.see(X:FX)(A:FA)(b:Int):FX:={ g:=λi k=>if k=X.key A i then (X.g i k).see b else X.g i k,ws:=lrn X.ws (X.cs A) b,sg:=sgN X.sg X.nd b,nd:=ndN X.nd b}
structure zb(K:z3)(a:Ads)(H:Hp)(p:z4)(A:FA)(X:FX)(f:Α)(O:Β)(m:Nat):Prop where
 me:H p=some (.ins a.A3 A.dp (jb (.ref A.ll) (.ref A.bl) (.ref A.mp) (.ref A.el) (.int X.nd) (.ref A.pl)))
 bl:H A.bl=some (.lst (refs A.bk A.n))
 el:H A.el=some (.lst (X.sg.map V.int))
 mx:yg7 a A.mp A.mx A.ml X.ws H
 wok:WOk A.n X.ws
 pl:H A.pl=some (.lst (refs A.sl A.n))
 B:Bks K a H A.n A.bk A.dx A.lk A.dd A.kd A.ps f O m
 ag:ylk A.n A.kd f X.g
 at':∀j,j<A.n->(∃s,f j (X.key A j)=some s)/\AtS H (A.dd j) (X.key A j) (A.sl j)
 np:∀i,i<A.n->¬O i p
 nm:∀i,i<A.n->¬O i A.mp
 n1:1<=A.n
 n6:A.n<=6
theorem zb.same{H H':Hp}{p:z4}{A:FA}{X:FX}{f:Α}{m:Nat}(h:zb K a H p A X f O m)(S:yr H H'):zb K a H' p A X f O m :=
 ⟨S _ _ h.me,S _ _ h.bl,S _ _ h.el,h.mx.same S,h.wok,S _ _ h.pl,h.B.same S,h.ag,λj c=>⟨(h.at' j c).1,λi e=>by
  let⟨g,k,d,_⟩:=(h.B.b j c).tb;rw[S _ _ d]at e;cases e;exact(h.at' j c).2 _ d⟩,h.np,h.nm,h.n1,h.n6⟩
theorem zb.slot{H:Hp}{p:z4}{A:FA}{X:FX}{f:Α}{m:Nat}(h:zb K a H p A X f O m)(hj:j<A.n):
  f j (X.key A j)=some (X.g j (X.key A j))/\(∃dq,H (A.sl j)=some (oS a dq (X.g j (X.key A j))))/\(X.g j (X.key A j)).ok/\O j (A.sl j):=by let⟨⟨s,d⟩,c⟩:=h.at' j hj;have e:=h.ag j hj (X.key A j);rw[d]at e;have e:s=X.g j (X.key A j):=e;rw[<- e];let⟨dq,i,k,o,l⟩:=(h.B.b j hj).slot d c;exists d,⟨dq,i⟩,k,l
def zb.cok{H:Hp}{p:z4}{A:FA}{X:FX}{f:Α}{m:Nat}(h:zb K a H p A X f O m):COk A.n (X.cs A):=by
 exists by unfold FX.cs;rw[ba,bQ],λc b=>?_,λc b=>?_
 .obtain⟨j,d,rfl⟩:=bg.mp b;exact(yfa (h.slot (cc.mp d)).2.2.1).1
 .obtain⟨j,d,rfl⟩:=bg.mp b;exact(yfa (h.slot (cc.mp d)).2.2.1).2
def LkG.at'{H:Hp}{lk tp:z4}{kd:Fin 3}{ps:Ρ}(h:LkG H (.ref lk) kd tp ps):jg K H lk (.str (kdS kd)) ps:=by
 let⟨c,e,b,d,a⟩:=h;cases e;have a:=a;unfold zh at a;rw[bL,bL,List.all_eq_true]at a;exists tp,SqT.of b,SqT.of d,λp f=>?_,by have:=of_decide_eq_true a.1.1;rw[ba]at this;exact this
 have w:=a.1.2 (.int p) (bg.mpr ⟨p,f,rfl⟩);have w:(decide (1<=p) && decide (p<=8))=true:=w;rw[bL]at w;exists of_decide_eq_true w.1,of_decide_eq_true w.2
def Bks.snoc{H:Hp}{n m:Nat}{bk dx lk dd:Μ}{kd:Ξ}{ps:Λ}{f:Α}(h:Bks K a H n bk dx lk dd kd ps f O m)
  (hl:jg K H (lk n) (.str (kdS (kd n))) (ps n)) {q dq d:z4} {f':qi Int->qj Slt} {O':Ν} (hb:ã a H q dq (lk n) d (kd n) f' O' m) (dj:∀j c,j<n->O j c->¬O' c) (n1:∀j,j<n->¬O j q) (n2:∀j,j<n->¬O' (bk j)):
  Bks K a H (n+1) (upN bk n q) (upN dx n dq) lk (upN dd n d) kd ps (upN f n f') (upN O n O') m:=by
 exists λi r=>?_,λi r=>?_,λi j c r s p o l=>?_,λi j r s e=>?_
 .by_cases z:i=n
  .rw[z];exact hl
  .exact h.look i ()
 .by_cases z:i=n
  .subst z;rw[wq,wq,wq,wq,wq];exact hb
  .have g:i<n:=()
   rw[wj g,wj g,wj g,wj g,wj g];exact h.b i g
 .by_cases z:i=n
  .subst z;have k:j<i:=()
   rw[wq]at o;rw[wj k]at l;exact dj j c k l o
  .have g:i<n:=()
   rw[wj g]at o;by_cases w:j=n
   .subst w;rw[wq]at l;exact dj i c g o l
   .have k:j<n:=()
    rw[wj k]at l;exact h.dj i j c g k p o l
 .by_cases z:i=n
  .subst z;rw[wq]at e;by_cases w:j=i
   .subst w;rw[wq]at e;exact hb.np e
   .have k:j<i:=()
    rw[wj k]at e;exact n2 j k e
  .have g:i<n:=()
   rw[wj g]at e;by_cases w:j=n
   .subst w;rw[wq]at e;exact n1 i g e
   .have k:j<n:=()
    rw[wj k]at e;exact h.nb i j g k e
def yoe(K:z3)(a:Ads)(H G:Hp)(n:Nat)(bk dx lk dd:Μ)(kd:Ξ)(ps:Λ)(f:Α)(O:Β):Prop :=
 Bks K a G n bk dx lk dd kd ps f O 0/\(∀j k,j<n->f j k=none)/\(∀j c,j<n->O j c->H c=none)/\(∀j,j<n->H (bk j)=none)
def yoe.zero{H G:Hp}{bk dx lk dd:Μ}{kd:Ξ}{ps:Λ}{f:Α}:yoe K a H G 0 bk dx lk dd kd ps f O :=
 ⟨⟨λi b=>absurd b (bD i),λi b=>absurd b (bD i),λi Z Z b=>absurd b (bD i),λi Z b=>absurd b (bD i)⟩,λi Z b=>absurd b (bD i),λi Z b=>absurd b (bD i),λi b=>absurd b (bD i)⟩
def yoe.next{H G G2:Hp}{n:Nat}{bk dx lk dd:Μ}{kd:Ξ}{ps:Λ}{f:Α}(h:yoe K a H G n bk dx lk dd kd ps f O)(hl:jg K G (lk n) (.str (kdS (kd n))) (ps n))
  (S:yr H G) {q dq d D:z4} {xs ys:Υ} (hq:G q=none) (hd:G d=none) (S2:yr G G2) (hb:ã a G2 q dq (lk n) d (kd n) (λZ=>none) (λb=>b=d) 0) (hD:G D=some (.lst xs)):
  yoe K a H (upd G2 D (.lst ys)) (n+1) (upN bk n q) (upN dx n dq) lk (upN dd n d) kd ps (upN f n λZ=>none) (upN O n λb=>b=d):=by
 let⟨p,u,v,y⟩:=h;have l:∀j c,j<n->O j c->∃o,G c=some o:=λj c g w=>let ⟨o,m,_⟩:=(p.b j g).own c w;⟨o,m⟩
 have M:=(p.same S2).snoc (hl.same S2) hb (λj c g w z=>by
  let⟨o,m⟩:=l j c g w;rw[show c=d from z,hd]at m
  cases m) (λj g w=>by
  let⟨o,m⟩:=l j q g w;rw[hq]at m
  cases m) (λj g z=>by
  have e:=(p.b j g).me;rw[show bk j=d from z,hd]at e;cases e)
 have i:=S2 _ _ hD;have x:=M.nlst i;have s:∀c o,G2 c=some o->c≠D->upd G2 D (.lst ys) c=some o:=λc o e r=>ye r e;exists M.frame (O2:=λc=>c=D) (λc o e r=>s c o e r) (λj c g w z=>x j g (z ▸ w)) (λj g z=>?_) (λt xs e=>?_),λj k g=>?_,λj c g w=>?_,λj g=>?_
 .have e:=(M.b j g).me;rw[z,i]at e;cases e
 .rcases e with(e|⟨o,e⟩)|e
  .exact .inl (.inl (s _ _ e (λz=>by rw[z,i]at e;cases e)))
  .exact .inl (.inr ⟨o,s _ _ e (λz=>by rw[z,i]at e;cases e)⟩)
  .exact .inr e
 .by_cases z:j=n
  .rw[z,wq]
  .rw[wj ()];exact u j k ()
 .by_cases z:j=n
  .rw[z,wq]at w;rw[show c=d from w];exact S.free hd
  .rw[wj ()]at w;exact v j c () w
 .by_cases z:j=n
  .rw[z,wq];exact S.free hq
  .rw[wj ()];exact y j ()
def yoe.ag{H G:Hp}{n:Nat}{bk dx lk dd:Μ}{kd:Ξ}{ps:Λ}{f:Α}(h:yoe K a H G n bk dx lk dd kd ps f O):ylk n kd f (λi Z=>kd0 (kd i)):=λi b k=>by
 rw[h.2.1 i k b];rfl
def FX0(n:Nat)(kd:Ξ):FX:={ g:=λi Z=>kd0 (kd i),ws:=List.replicate n 1099511627776,sg:=[],nd:=0}
def ymz{g:Μ}{n:Nat}{x:V}(h:x∈refs g n):∃i,i<n/\x=.ref (g i):=by unfold refs at h;let⟨i,a,e⟩:=bg.mp h;exists i,cc.mp a,e.symm
def x9.lks{H:Hp}{n:Nat}{lk:Μ}{kd:Ξ}{ps:Λ}(h:x9 H n lk kd tp ps):Lks H (refs lk n):=λy b=>by
 let⟨i,a,rfl⟩:=ymz b;exists _,_,_,h i a
theorem zb.frame{H H':Hp}{p:z4}{A:FA}{X:FX}{f:Α}{m:Nat}(h:zb K a H p A X f O m){O2:Ν}(B:yof O2 H H')(hp:¬O2 p)(hm:¬O2 A.mp)(hb:∀i,i<A.n->¬O2 (A.bk i))
  (dj:∀i c,i<A.n->O i c->¬O2 c) (hl:∀l xs,(l=A.bl\/l=A.el\/l=A.ml\/l=A.pl)->H l=some (.lst xs)->H' l=some (.lst xs)) (ht:∀t xs,SqT K H t xs->SqT K H' t xs):zb K a H' p A X f O m :=
 ⟨B _ _ h.me hp,hl _ _ (.inl rfl) h.bl,hl _ _ (.inr (.inl rfl)) h.el,⟨B _ _ h.mx.o hm,hl _ _ (.inr (.inr (.inl rfl))) h.mx.l⟩,h.wok,hl _ _ (.inr (.inr (.inr rfl))) h.pl,h.B.frame B (λi c r w=>dj i c r w) hb ht,h.ag,λj d=>⟨(h.at' j d).1,λq e=>by
  let⟨k,s,g,_⟩:=(h.B.b j d).tb;rw[B _ _ g (dj j _ d (h.B.b j d).dO)]at e;cases e;exact(h.at' j d).2 _ g⟩,h.np,h.nm,h.n1,h.n6⟩
def ysv{G:Hp}{t c:z4}{xs ys zs:Υ}(hc:G c=some (.lst ys))(e:SqT K G t xs):SqT K (upd G c (.lst zs)) t xs:=by
 rcases e with(e|⟨o,e⟩)|e
 .exact .inl (.inl (ye (w8 e hc (by intro z;cases z)) e))
 .exact .inl (.inr ⟨o,ye (w8 e hc (by intro z;cases z)) e⟩)
 .exact .inr e
def zb.app{H:Hp}{p R:z4}{A:FA}{X:FX}{f:Α}{m:Nat}{xs ys:Υ}(h:zb K a H p A X f O m)(hR:H R=some (.lst xs))(hq:∀q,(q=A.bl\/q=A.el\/q=A.ml\/q=A.pl)->q≠R):zb K a (upd H R (.lst ys)) p A X f O m:=by
 refine h.frame (O2:=λc=>c=R) (λc o e g=>ye g e) (λz=>?_) (λz=>?_) (λi d z=>?_) (λi c d w z=>h.B.nlst hR i d (z ▸ w)) (λl xs w e=>ye (hq l w) e) (λt xs e=>ysv hR e)
 .have e:=h.me;rw[z,hR]at e;cases e
 .have e:=h.mx.o;rw[z,hR]at e;cases e
 .have e:=(h.B.b i d).me;rw[z,hR]at e;cases e
def vdo(n:Nat)(n1:1<=n)(n6:n<=6):WOk n (List.replicate n 1099511627776):=by refine⟨List.length_replicate,λw h=>?_,λw h=>?_⟩<;>(rw[List.eq_of_mem_replicate h];decide)
#synth yyx ["self","looks"] vdp
structure vh7(K:z3)(a:Ads)(H H':Hp)(p:z4)(n:Nat)(lk:Μ)(kd:Ξ)(ps:Λ)(A:FA)(f:Α)(O:Β):Prop where
 ft:zb K a H' p A (FX0 n kd) f O 6
 en:A.n=n
 elk:A.lk=lk
 ekd:A.kd=kd
 eps:A.ps=ps
 oO:∀j c,j<n->O j c->H c=none
 oB:∀j,j<n->H (A.bk j)=none
 oM:H A.mp=none
 oL:∀l,(l=A.bl\/l=A.el\/l=A.ml\/l=A.pl)->H l=none
 lo:H' A.ll=some (.lst (refs lk n))/\A.ll≠A.el/\H A.ll=none
inductive yd5(K:z3)(a:Ads)(vs:Υ)(H:Hp)(Q:VK)(E:XK):Prop
 | mk(p dp:z4)(x:V)(_:vs=[.ref p,x])(_:H p=some (.ins a.A3 dp []))(_:((vic K H x/\∀H',yr H H'->E (.ref a.Ht) none H')\/∃(l:z4)(n:Nat)(lk:Μ)(kd:Ξ)(tp:Μ)(ps:Λ),x=.ref l/\H l=some (.lst (refs lk n))/\1<=n/\n<=6/\x9 H n lk kd tp ps/\
  ∀A f O H',vh7 K a H H' p n lk kd ps A f O->But p H H'->Q .non H'))
def yfm:vo P w K mg Γ (CXe P w) 6 a.Gk a.Ov ["self","looks"] (yd5 K a):=by
 exists T.Ed.F.okE,yyx,hr;let⟨p,f,x,rfl,hp,h⟩:=h;refine yg (ve (pv 0) (uo (ypt T) hr.m T.J6 yv (pa1 (pv 1))) rfl) ?_;refine yg (ve (pv 0) (vx (js:=[]) (ys:=[]) rfl (we (yk (pv 0) rfl)) (λC s2 H2 fp=>(À T.Kc (yp8 T) hr.m rfl T.Kb T.J7.B .nil vn (pa1 (pv 0)))) rfl rfl (hyc:=yy) (hrel:=yy)) rfl) ?_;refine yg (ve (pv 0) (À T.Sv (ypf T) hr.m rfl T.Su T.Ja.B .nil vn (pa1 (pcB yp T.A7 (pa1 (yk (pv 0) rfl))))) rfl) ?_;refine yg (ve (pv 0) (wy ur) rfl) ?_;refine yg (ve (pv 0) yh rfl) ?_;refine yg (ve (pv 0) (wy ur) rfl) ?_;exists 2,0,yc (yu (vj (pv 0) T.A8 T.Ct.m (yki T) hr.m T.Ct.B .nil vn));rcases h with⟨hb,k⟩|⟨l,n,lk,kd,tp,ps,rfl,hl,n1,n6,as,k⟩
 .rcases hb with⟨nm,ty,hn⟩|⟨l,xs,bs,rfl,hl,hz,aR,no⟩
  .exact .inl ⟨x,nm,rfl,ty,hn,k _ (yr.refl _)⟩
  .exact .inr ⟨l,xs,bs,rfl,hl,hz,aR,λz=>absurd z no,λF H' S=>k _ S⟩
 .refine .inr ⟨l,refs lk n,List.replicate (refs lk n).length true,rfl,hl,by rw[vi];omega,as.lks.bs,λF g H1 ak aC S1=>?_,λno=>absurd ⟨by rw[vi];exact n1,by rw[vi];exact n6,yj0 _⟩ no⟩;have aX:=S1 _ _ hp;have aW:=as.same S1;ext;have W:upd H1 p (HO.ins a.A3 f ([("looks",V.ref g)]:Ι)) p=some (HO.ins a.A3 f ([("looks",V.ref g)]:Ι)):=ya;have BA:But p H1 (upd H1 p (HO.ins a.A3 f ([("looks",V.ref g)]:Ι))):=But.upd;have a3:g≠p:=(yb hp ak).symm;have I:upd H1 p (HO.ins a.A3 f ([("looks",V.ref g)]:Ι)) g=some (.lst (refs lk n)):=ye a3 aC;generalize upd H1 p (HO.ins a.A3 f ([("looks",V.ref g)]:Ι))=HA at W BA I⊢;have a7:But p H HA:=(But.of S1).trans BA
  have aV:x9 HA n lk kd tp ps:=λi hi=>by
   let⟨q,e,h1,h2,h3⟩:=as i hi;exists q,e,a7 _ _ h1 (w8 h1 hp (by intro z;cases z)),a7 _ _ h2 (w8 h2 hp (by intro z;cases z)),h3
  exists p,_,f,_,_,rfl,W,T.A8,T.B8,rfl,?_;exists g,rfl,⟨_,SqL.of I⟩,λu Z=>?_;refine zf (K:=K) (xs:=refs lk n) (λi G=>∃(bk dx dd:Μ)(f2:Α)(O2:Β),G u=some (.lst (refs bk i))/\yoe K a HA G i bk dx lk dd kd ps f2 O2/\yr HA G)
   ⟨λF=>0,λF=>0,λF=>0,λF F=>none,λF F=>False,ya,yoe.zero,yz Z⟩ (λi G F z=>?_) (λi y G hy hi z=>?_) (λG z=>?_)
  .obtain⟨_,_,_,_,_,_,_,SG⟩:=z;exact SqL.of (SG _ _ I)
  .obtain⟨bk,dx,dd,f2,O2,a5,gN,SG⟩:=z;let⟨rfl,aK⟩:=uw hy;ext;intro q dq nq aH b1;have SQ:yr G (upd (upd G dq (.own q)) q (.ins a.Ac dq [])):=λb o e=>by rw[ym (yb e nq),ym (yb e aH)];exact e
   exists q,dq,lk i,kd i,rfl,ya,λd G2 aQ aN B2=>⟨rfl,?_⟩;have an:yr G G2:=λb o e=>B2 b o (SQ b o e) (yb e nq);refine x8 (n:=(refs lk n).length) (an _ _ a5) (vh (by rw[vi];omega)) hi ?_;exists _,_,_,_,_,?_,gN.next ((aV i aK).same SG).at' SG nq (SQ.free aQ) an aN a5,λb o e=>ye (yb e Z) (an _ _ (SG b o e));rw[ya,x0,wq]
   congr 3
   exact xv λj r=>(wj r).symm
  let⟨bk,dx,dd,f2,O2,a5,gN,SG⟩:=z;rw[vi]at a5 gN;have aF:=SG _ _ W;ext;have aG:∀c o,HA c=some o->c≠p->upd G p (HO.ins a.A3 f ([("looks",V.ref g),("books",V.ref u)]:Ι)) c=some o:=λc o e J=>ye J (SG _ _ e);have ab:upd G p (HO.ins a.A3 f ([("looks",V.ref g),("books",V.ref u)]:Ι)) p=some (HO.ins a.A3 f ([("looks",V.ref g),("books",V.ref u)]:Ι)):=ya;have af:u≠p:=(yb W Z).symm;have al:upd G p (HO.ins a.A3 f ([("looks",V.ref g),("books",V.ref u)]:Ι)) u=some (.lst (refs bk n)):=ye af a5;have BP:∀{fs:Ι},But p G (upd G p (HO.ins a.A3 f fs)):=But.upd
  have ac:∀j,j<n->¬O2 j p:=λj r w=>by
   have e:=gN.2.2.1 j p r w;rw[W]at e;cases e
  have aA:∀{G':Hp},But p G G'->Bks K a G' n bk dx lk dd kd ps f2 O2 0:=λ{G'}B=>gN.1.frame (O2:=λc=>c=p) (λc o e J=>B c o e J) (λj c r w z=>ac j r (z ▸ w)) (λj r z=>by
   have e:=gN.2.2.2 j r;rw[z,W]at e
   cases e) (λt xs e=>by
   rcases e with(e|⟨o,e⟩)|e
   .exact .inl (.inl (B _ _ e (λz=>by rw[z,aF]at e;cases e)))
   .exact .inl (.inr ⟨o,B _ _ e (λz=>by rw[z,aF]at e;cases e)⟩)
   .exact .inr e)
  have BB:But p G (upd G p (HO.ins a.A3 f ([("looks",V.ref g),("books",V.ref u)]:Ι))):=But.upd;generalize upd G p (HO.ins a.A3 f ([("looks",V.ref g),("books",V.ref u)]:Ι))=HB at aG ab al BB⊢;exists p,_,f,_,_,rfl,ab,T.A8,T.B8,rfl,?_;refine u5 (SqL.of (aG _ _ I a3)) ?_;rw[vi];ext;intro D mx aa aI b0;have SM:yr HB (upd (upd HB mx (.own D)) D (.ins a.Bp mx [])):=λb o e=>by rw[ym (yb e aa),ym (yb e aI)];exact e
  exists D,mx,n,rfl,n1,n6,ya,λml HC ax MC BC=>⟨rfl,?_⟩;have SC:yr HB HC:=λb o e=>BC b o (SM b o e) (yb e aa);have aZ:=SC _ _ ab;have aD:=SC _ _ al;have a6:HB ml=none:=SM.free ax;have N:D≠p:=(yb ab aa).symm;have Y:ml≠p:=(yb ab a6).symm;ext;exists by walk_at "len",λM a1=>?_
  have X:M≠p:=λz=>by rw[z,ya]at a1;cases a1
  have U:HC M=none:=by rw[ym X]at a1;exact a1
  have aT:upd (upd HC p (HO.ins a.A3 f ([("looks",V.ref g),("books",V.ref u),("mixer",V.ref D)]:Ι))) M (.lst []) p=some (HO.ins a.A3 f ([("looks",V.ref g),("books",V.ref u),("mixer",V.ref D)]:Ι)):=ye X.symm ya;have aj:upd (upd HC p (HO.ins a.A3 f ([("looks",V.ref g),("books",V.ref u),("mixer",V.ref D)]:Ι))) M (.lst []) M=some (.lst []):=ya;have BD:But p HC (upd (upd HC p (HO.ins a.A3 f ([("looks",V.ref g),("books",V.ref u),("mixer",V.ref D)]:Ι))) M (.lst [])):=λb o e J=>ye (yb e U) (ye J e);generalize upd (upd HC p (HO.ins a.A3 f ([("looks",V.ref g),("books",V.ref u),("mixer",V.ref D)]:Ι))) M (.lst [])=HD at aT aj BD⊢;ext;exists by walk_at "len",λL a0=>?_
  have ar:L≠p:=λz=>by rw[z,ya]at a0;cases a0
  have ap:HD L=none:=by rw[ym ar,ym ar]at a0;exact a0
  have aJ:upd (upd (upd HD p (HO.ins a.A3 f ([("looks",V.ref g),("books",V.ref u),("mixer",V.ref D),("ended",V.ref M)]:Ι))) p (HO.ins a.A3 f ([("looks",V.ref g),("books",V.ref u),("mixer",V.ref D),("ended",V.ref M),("place",V.int 0)]:Ι))) L (.lst []) p=some (HO.ins a.A3 f ([("looks",V.ref g),("books",V.ref u),("mixer",V.ref D),("ended",V.ref M),("place",V.int 0)]:Ι)):=ye ar.symm ya;have BE:But p HD (upd (upd (upd HD p (HO.ins a.A3 f ([("looks",V.ref g),("books",V.ref u),("mixer",V.ref D),("ended",V.ref M)]:Ι))) p (HO.ins a.A3 f ([("looks",V.ref g),("books",V.ref u),("mixer",V.ref D),("ended",V.ref M),("place",V.int 0)]:Ι))) L (.lst [])):=λb o e J=>ye (yb e ap) (ye J (ye J e));generalize upd (upd (upd HD p (HO.ins a.A3 f ([("looks",V.ref g),("books",V.ref u),("mixer",V.ref D),("ended",V.ref M)]:Ι))) p (HO.ins a.A3 f ([("looks",V.ref g),("books",V.ref u),("mixer",V.ref D),("ended",V.ref M),("place",V.int 0)]:Ι))) L (.lst [])=HE at aJ BE⊢;ext;have BF:But p HE (upd HE p (.ins a.A3 f (jb (.ref g) (.ref u) (.ref D) (.ref M) (.int 0) (.ref L)))):=But.upd;have a4:upd HE p (.ins a.A3 f (jb (.ref g) (.ref u) (.ref D) (.ref M) (.int 0) (.ref L))) p=some (.ins a.A3 f (jb (.ref g) (.ref u) (.ref D) (.ref M) (.int 0) (.ref L))):=ya;generalize upd HE p (.ins a.A3 f (jb (.ref g) (.ref u) (.ref D) (.ref M) (.int 0) (.ref L)))=HF at a4 BF⊢;have ae:But p HC HF:=(BD.trans BE).trans BF;have a2:But p G HF:=λb o e J=>ae b o (SC _ _ (BB b o e J)) J;have ay:=ae _ _ MC.o N;have aE:=ae _ _ MC.l Y;have au:=ae _ _ aD af;have aq:=BF _ _ (BE _ _ aj X) X;exists p,f,g,u,D,M,L,0,[],n,0,bk,dx,lk,dd,kd,ps,f2,O2,λi F=>kd0 (kd i),rfl,a4,au,aq,aA a2,gN.ag,n6,(),ac,λpl sl f' O' H' aO aP ai B' aS aL ad F' L'=>?_
  have a9:∀{c:z4},c≠p->HF c=none->G c=none:=λ{c}J h=>by
   cases e:G c with
   |none=>rfl
   |some o=>rw[a2 _ _ e J]at h;cases h
  have am:∀j c,j<n->O2 j c->∃o,G c=some o:=λj c r w=>let ⟨o,ho,_⟩:=(gN.1.b j r).own c w;⟨o,ho⟩
  have nO:∀{c:z4}{o:HO},HF c=some o->yvs o=false->∀j,j<n->¬O2 j c:=λ{c o}e hi j r w=>by
   let⟨o',av,aw⟩:=((aA a2).b j r).own c w;rw[e]at av;cases av;rw[hi]at aw;cases aw
  have aB:∀j,j<n->¬O2 j D:=λj r w=>by
   let⟨o,ho⟩:=am j D r w;have e:=BB _ _ ho N;rw[aa]at e;cases e
  have R:∀{c:z4},c≠p->HA c=none->H c=none:=λ{c}J h=>by
   cases e:H c with
   |none=>rfl
   |some o=>rw[a7 _ _ e J]at h;cases h
  have O:∀{c:z4},G c=none->HA c=none:=λ{c}h=>SG.free h
  have a8:∀{c:z4},c≠p->HB c=none->G c=none:=λ{c}J h=>by
   cases e:G c with
   |none=>rfl
   |some o=>rw[BB _ _ e J]at h;cases h
  have az:∀{c:z4},HC c=none->HB c=none:=λ{c}h=>SC.free h;refine k ⟨f,g,u,D,mx,ml,M,pl,n,bk,dx,lk,dd,sl,kd,ps⟩ f' O' H' ⟨⟨aO,F' _ _ au af (nO au rfl),F' _ _ aq X (nO aq rfl),⟨F' _ _ ay N aB,F' _ _ aE Y (nO aE rfl)⟩,?_,aP,⟨B'.look,λi hi=>(B'.b i hi).up (),B'.dj,B'.nb⟩,aS,aL,λj r w=>?_,λj r w=>?_,n1,n6⟩,rfl,rfl,rfl,rfl,λj c r w=>?_,λj r=>?_,?_,λc hc=>?_,F' _ _ (a2 _ _ (SG _ _ I) a3) a3 (nO (a2 _ _ (SG _ _ I) a3) rfl),yb (SC _ _ (BB _ _ (SG _ _ I) a3)) U,ak⟩ ?_
  .exact vdo n n1 n6
  .rcases ad j p r w with v|v
   .exact ac j r v
   .rw[a4]at v;cases v
  .rcases ad j D r w with v|v
   .exact aB j r v
   .rw[ay]at v;cases v
  .have ao:c≠p:=λz=>by
    rw[z]at w;rcases ad j p r w with v|v
    .exact ac j r v
    .rw[a4]at v;cases v
   rcases ad j c r w with v|v
   .exact R ao (gN.2.2.1 j c r v)
   .exact R ao (O (a9 ao v))
  .have aM:bk j≠p:=λz=>by
    have e:=gN.2.2.2 j r;rw[z,W]at e;cases e
   exact R aM (gN.2.2.2 j r)
  .exact R N (O (a8 N aa))
  .rcases hc with z|z|z|z
   .rw[z];exact R af Z
   .rw[z];exact R X (O (a8 X (az U)))
   .rw[z];exact R Y (O (a8 Y a6))
   .rw[z];have ah:pl≠p:=(yb a4 ai).symm;exact R ah (O (a9 ah ai))
  .intro c o e J;refine F' c o (a2 _ _ (SG _ _ (a7 c o e J)) J) J λj r w=>?_;have e2:=gN.2.2.1 j c r w;rw[a7 c o e J]at e2;cases e2
theorem ydk:∀(ts:Ρ)(q j:Nat)(s:Int),ts[q]?=some s->j<=8->(dec ts)[9*q+j]?=(1::b8 s)[j]?
 |[],_,_,_,h,_=>by simp at h
 |t::r,0,j,s,h,hj=>by
  have e:t=s:=by simpa using h
  subst e;show ((1::b8 t)++dec r)[9*0+j]?=_;rw[Nat.mul_zero,Nat.zero_add,cK (by rw[bE,ypn];omega)]
 |t::r,q+1,j,s,h,hj=>by
  have b:r[q]?=some s:=by simpa using h
  show ((1::b8 t)++dec r)[9*(q+1)+j]?=_;have a:(1::b8 t).length=9:=rfl;rw[cn (by rw[a];omega),a,show 9*(q+1)+j-9=9*q+j by omega];exact ydk r q j s b hj
def yu8(ts:Ρ):(dec ts)[9*ts.length]?=some 0:=by rw[yn5,cn (by rw[δ];exact bf _),δ,Nat.sub_self];rfl
def yaz(ts:Ρ)(k:Nat)(sg:Ρ)(nd:Int):Prop:=∃q j:Nat,k=9*q+j/\j<=8/\sg=ts.take q/\((j=0/\nd=0/\q<=ts.length)\/(1<=j/\∃s,ts[q]?=some s/\nd=(256+s)/2^(9-j)))
def vft{s P c:Int}(h:0<=s/\s<=255)(hP:2<=P)(hc:P*(2*c)=256)(c1:1<=c/\c<=64):0<(256+s)/(2*P)/\2*((256+s)/(2*P))+s/P%2<256/\2*((256+s)/(2*P))+s/P%2=(256+s)/P:=by
 have a:(256+s)/P=s/P+2*c:=by rw[<- hc,Int.add_comm,Int.add_mul_ediv_left _ _ ()]
 have b:(256+s)/(2*P)=(s/P+2*c)/2:=by rw[<- a,Int.ediv_ediv_of_nonneg (show 0<=P by omega),Int.mul_comm]
 have e:=Int.ediv_nonneg h.1 (show 0<=P by omega);have d:=Int.ediv_lt_of_lt_mul (show 0<P by omega) (show s<128*P by omega);rw[a,b];generalize s/P=y at e d;clear hc a b hP h;omega
def nd9{s:Int}(h:0<=s/\s<=255)(h1:1<=j)(hj:j<=8):0<(256+s)/2^(9-j)/\(256+s)/2^(9-j)<256:=by
 have a:∀j,j<9->1<=j->(2:Int)<=2^(9-j)/\(2:Int)^(9-j)<=256:=∅
 let⟨b,c⟩:=a j (Nat.lt_succ_of_le hj) h1;generalize (2:Int)^(9-j)=K at b c;exists Int.le_ediv_of_mul_le () (),Int.ediv_lt_of_lt_mul () ()
def yaz.zero(ts:Ρ):yaz ts 0 [] 0:=⟨0,0,rfl,(),by simp,.inl ⟨rfl,rfl,bJ _⟩⟩
theorem yaz.nd{k:Nat}{sg:Ρ}{nd:Int}(h:yaz ts k sg nd)(hs:Sgs ts):0<=nd/\nd<256:=by
 let⟨q,j,_,e,_,h⟩:=h;rcases h with⟨_,h,_⟩|⟨d,s,c,h⟩
 .omega
 .obtain⟨a,b⟩:=nd9 (hs s (bB c)) d e;rw[h];exists Int.le_of_lt a,b
def yaz.len{k:Nat}{sg:Ρ}{nd:Int}(h:yaz ts k sg nd):sg.length<=ts.length:=by let⟨q,j,_,_,a,_⟩:=h;rw[a,bU];omega
def yaz.next{k:Nat}{sg:Ρ}{nd b:Int}(h:yaz ts k sg nd)(hs:Sgs ts)(hb:(dec ts)[k]?=some b):
  (k<9*ts.length/\yaz ts (k+1) (sgN sg nd b) (ndN nd b))\/(k=9*ts.length/\sgN sg nd b=[]/\ndN nd b=0):=by
 let⟨q,j,p,v,l,h⟩:=h;rcases h with⟨u,d,D⟩|⟨A,s,a,d⟩
 .subst u;rcases Nat.lt_or_ge q ts.length with m|m
  .refine .inl ⟨(),?_⟩;have e:=ydk ts q 0 ts[q] (bc m) ();rw[<- p,hb]at e;have e:b=1:=by simpa using e
   have:=hs ts[q] (bV m);unfold sgN ndN;rw[if_neg (),if_pos e,if_neg (),if_pos e];exists q,1,(),(),l,.inr ⟨(),ts[q],bc m,?_⟩
   simp only[Nat.reduceSub,Int.reducePow];omega
  .have r:q=ts.length:=()
   have e:=yu8 ts;rw[<- r,show 9*q=k by omega,hb]at e;have e:b=0:=by simpa using e
   refine .inr ⟨(),?_,?_⟩
   .unfold sgN;rw[if_neg (),if_neg ()]
   .unfold ndN;rw[if_neg (),if_neg ()];exact d
 .have n:=hs s (bB a);have m:q<ts.length:=(bv.mp a).1;have e:=ydk ts q j s a v;rw[<- p,hb]at e
  have g:some b=(b8 s)[j-1]?:=by
   obtain⟨i,rfl⟩:∃i,j=i+1:=⟨j-1,()⟩;simpa using e
  refine .inl ⟨(),?_⟩;by_cases h8:j=8
  .subst h8;have g:b=s/1%2:=bx g;simp only[Nat.reduceSub,Int.reducePow]at d;have B:2*nd+b=256+s:=()
   unfold sgN ndN;rw[if_pos (),if_pos (),if_pos (),if_pos ()];exists q+1,0,(),(),?_,.inl ⟨rfl,rfl,()⟩
   rw[l,show 2*nd+b-256=s by omega,ç a]
  .have o:0<nd/\2*nd+b<256/\2*nd+b=(256+s)/2^(9-(j+1)):=by
    have k:∀P c:Int,2<=P->P*(2*c)=256->1<=c/\c<=64->nd=(256+s)/(2*P)->b=s/P%2->0<nd/\2*nd+b<256/\2*nd+b=(256+s)/P:=λP c x y z e f=>by
     rw[e,f];exact vft n x y z
    clear p hb e l m hs;obtain rfl|rfl|rfl|rfl|rfl|rfl|rfl:j=1\/j=2\/j=3\/j=4\/j=5\/j=6\/j=7:=()
    .exact k 128 1 ∅ rfl ∅ d (bx g)
    .exact k 64 2 ∅ rfl ∅ d (bx g)
    .exact k 32 4 ∅ rfl ∅ d (bx g)
    .exact k 16 8 ∅ rfl ∅ d (bx g)
    .exact k 8 16 ∅ rfl ∅ d (bx g)
    .exact k 4 32 ∅ rfl ∅ d (bx g)
    .exact k 2 64 ∅ rfl ∅ d (bx g)
   let⟨t,C,w⟩:=o;unfold sgN ndN;rw[if_pos t,if_neg (),if_pos t,if_neg ()];exists q,j+1,(),(),l,.inr ⟨(),s,a,w⟩
theorem zb.up{H:Hp}{p:z4}{A:FA}{X:FX}{f:Α}{m:Nat}(h:zb K a H p A X f O m)(hm:m<=m'):zb K a H p A X f O m' :=
 ⟨h.me,h.bl,h.el,h.mx,h.wok,h.pl,⟨h.B.look,λi c=>(h.B.b i c).up hm,h.B.dj,h.B.nb⟩,h.ag,h.at',h.np,h.nm,h.n1,h.n6⟩
structure Lw(K:z3)(a:Ads)(H:Hp)(p:z4)(A:FA)(X:FX)(f:Α)(O:Β)(m:Nat)(bk dx dd:Μ)(f2:Α)(O2:Β)(mp mx ml:z4)(ws:Ρ):Prop where
 ft:zb K a H p A X f O m
 bs:Bks K a H A.n bk dx A.lk dd A.kd A.ps f2 O2 m
 mx:yg7 a mp mx ml ws H
 dj:∀i j c,i<A.n->j<A.n->O i c->¬O2 j c
 n1:∀i j,i<A.n->j<A.n->¬O i (bk j)
 n2:∀i j,i<A.n->j<A.n->¬O2 i (A.bk j)
 n3:∀i,i<A.n->¬O2 i p/\¬O2 i A.mp/\¬O2 i mp/\¬O i mp
 n4:mp≠A.mp
 n5:ml≠A.el
section
variable{H H':Hp}{p:z4}{A:FA}{X:FX}{f:Α}{m:Nat}{bk dx dd:Μ}{f2:Α}{mp mx ml:z4}{ws:Ρ}
def zl{C d e:z4}{fs gs:Ι}(hp:H p=some (.ins C d fs))(hq:H q=some (.ins D e gs))(hl:fs.length≠gs.length):p≠q:=λz=>by
 rw[z,hq]at hp;injection hp with hp;injection hp with _ _ e;exact hl (congrArg List.length e).symm
end
def KpA(B G:Hp)(e0 e:z4):Prop:=∀c o,B c=some o->yvs o=false->c≠e0->c≠e/\G c=some o
theorem KpA.lst{B G:Hp}{e0 e c:z4}{xs:Υ}(h:KpA B G e0 e)(hc:B c=some (.lst xs))(ne:c≠e0):G c=some (.lst xs):=(h c _ hc rfl ne).2
def TxE(ts:Ρ)(k:Nat)(sg:Ρ)(nd:Int):Prop:=(k<=9*ts.length/\yaz ts k sg nd)\/(k=9*ts.length+1/\sg=[]/\nd=0)
theorem TxE.next{k:Nat}{sg:Ρ}{nd b:Int}(h:TxE ts k sg nd)(hs:Sgs ts)(hb:(dec ts)[k]?=some b):yaz ts k sg nd/\TxE ts (k+1) (sgN sg nd b) (ndN nd b):=by
 rcases h with⟨c,h⟩|⟨c,_⟩
 .exists h,?_;rcases h.next hs hb with⟨e,a⟩|⟨e,a,d⟩
  .exact .inl ⟨(),a⟩
  .exact .inr ⟨(),a,d⟩
 .rw[c,bK (by rw[xr];exact bf _)]at hb;cases hb
#synth yzt ["self"] vcq
inductive ycs(K:z3)(a:Ads)(vs:Υ)(H:Hp)(Q:VK)(E':XK):Prop
 |mk(p:z4)(A:FA)(X:FX)(f:Α)(O:Β)(m:Nat)(_:vs=[.ref p])(_:zb K a H p A X f O m)(_:∀r H',H r=none->H' r=some (.lst ((X.cs A).map V.int))->yr H H'->Q (.ref r) H')
def ykm:vo P w K mg Γ CX0 2 a.M8 a.Ox ["self"] (ycs K a):=by
 exists T.Cu.F.ok,yzt,j;let⟨p,c,X,f,O,m,rfl,h,k⟩:=h;have N:=h.me;have I:=h.n6;exists 1,0,yc (yn (vx (js:=[]) (ys:=[]) rfl (we (yk (pv 0) rfl)) (λC R r M=>(Ş (vj (pv 0) T.Ao T.Ip.m (yzn T) j.m T.Ip.B .nil vn) (Ş (vj (pv 0) T.Av T.Iu.m (ywb T) j.m T.Iu.B .nil vn) (vj (pv 0) T.Ay T.Iy.m (va9 T) j.m T.Iy.B .nil vn)))) rfl rfl (hyc:=yy) (hrel:=yy)));exists c.pl,rfl,⟨_,SqL.of h.pl⟩,λD e=>?_;refine zf (K:=K) (xs:=refs c.sl c.n) (Mp H D (λi=>V.int (X.g i (X.key c i)).due)) (Mp.zero e) (λZ Z Z q=>q.1.seq (SqL.of h.pl)) (λi y r G x q=>?_) (λr q=>?_)
 .obtain⟨d,b⟩:=q;let⟨rfl,l⟩:=uw G;let⟨_,⟨L,v⟩,z,_⟩:=h.slot l;refine yhq (λJ h=>yvo rfl h) (d _ _ v) z ?_;exact Mp.doneR e (vh (by rw[vi];omega)) x d b rfl
 .obtain⟨d,b⟩:=q;rw[vi]at b;refine k D _ e ?_ d;rw[b];unfold FX.cs;rw[bO];rfl
#synth yzo ["self"] vei
inductive ygi(K:z3)(a:Ads)(vs:Υ)(H:Hp)(Q:VK)(E':XK):Prop
 |mk(p:z4)(A:FA)(X:FX)(f:Α)(O:Β)(m:Nat)(_:vs=[.ref p])(_:zb K a H p A X f O m)(_:∀H',yr H H'->Q (.int (ylc X.ws (X.cs A))) H')
def ykq:vo P w K mg Γ CX0 3 a.M9 a.Oy ["self"] (ygi K a):=by exists T.Cv.F.ok,yzo,g;let⟨p,b,X,f,O,m,rfl,h,k⟩:=h;have v:=h.me;have j:=h.mx.o;exists 1,0,yc (yn (xi (yk (pv 0) rfl) T.Dd T.Jb.m (yyu T) g.m T.Jb.B .nil vn (pa1 (vj (pv 0) T.A8 T.Cu.m (ykm T) g.m T.Cu.B .nil vn))));exists p,b,X,f,O,m,rfl,h,λr u i c e=>?_;ext;exists b.mp,b.mx,b.ml,r,X.ws,X.cs b,b.n,rfl,h.n1,h.n6,h.wok,h.cok,h.mx.same e,SqL.of c,λx l=>k _ (e.trans l)
#synth yzh ["self","bit"] vcc
inductive yt9(a:Ads)(vs:Υ)(H:Hp)(Q:VK)(E':XK):Prop
 |mk(p dp ll bl mp el pl:z4)(nd b:Int)(sg:Ρ)(_:vs=[.ref p,.int b])(_:H p=some (.ins a.A3 dp (jb (.ref ll) (.ref bl) (.ref mp) (.ref el) (.int nd) (.ref pl))))(_:H el=some (.lst (sg.map V.int)))(_:sg.length<=100000)(_:0<nd)(_:∀H',H' p=some (.ins a.A3 dp (jb (.ref ll) (.ref bl) (.ref mp) (.ref el) (.int (ndN nd b)) (.ref pl)))->H' el=some (.lst ((sgN sg nd b).map V.int))->(∀c o,H c=some o->c≠p->c≠el->H' c=some o)->Q .non H')
def vag:vo P w K mg Γ CX0 1 a.Mc a.P1 ["self","bit"] (yt9 a):=by
 exists T.Jf.F.ok,yzh,N;let⟨p,m,l,n,r,j,q,f,b,D,rfl,J,B,O,y,k⟩:=h;exists _,(yf (ve (pv 0) (yo wb (yo xg yh (yk (pv 0) rfl)) (pv 1)) rfl) (yc (v9 (yx vgm (yk (pv 0) rfl) (vz rfl T.Ck) (y9 _)) (yf (yu (ug PySem.F.plainAttrs_list PySem.F.slot_list_append PySem.F.type_list_append wk (yk (pv 0) rfl) (pa1 (yo zy (yk (pv 0) rfl) (vz rfl T.Ck))))) (yc (ve (pv 0) yh rfl))) y7))),?_;exists 2,0;unfold ndN sgN at k;rw[if_pos y,if_pos y]at k;have g:j≠p:=w8 B J (by intro z;cases z);ext;have i:upd H p (.ins a.A3 m (jb (.ref l) (.ref n) (.ref r) (.ref j) (.int (2*f+b)) (.ref q))) p=some (.ins a.A3 m (jb (.ref l) (.ref n) (.ref r) (.ref j) (.int (2*f+b)) (.ref q))):=ya;have d:=ye (o':=HO.ins a.A3 m (jb (.ref l) (.ref n) (.ref r) (.ref j) (.int (2*f+b)) (.ref q))) g B;have v:But p H (upd H p (.ins a.A3 m (jb (.ref l) (.ref n) (.ref r) (.ref j) (.int (2*f+b)) (.ref q)))):=But.upd;generalize upd H p (.ins a.A3 m (jb (.ref l) (.ref n) (.ref r) (.ref j) (.int (2*f+b)) (.ref q)))=M at i d v⊢;ext;refine zn (λt=>?_) (λt=>?_)
 .rw[if_pos t,if_pos t]at k;ext;refine u8 d ?_;ext;refine w9 d (vh (by rw[ba];omega)) ?_;have L:=ye (o':=HO.lst (List.map V.int D++[V.int (2*f+b-256)])) (Ne.symm g) i;ext;refine k _ ya ?_ λc o e u C=>ye u (ye C (v _ _ e u));rw[ym g,ya,bz];rfl
 .rw[if_neg t,if_neg t]at k;ext;exact k _ i d λc o e u C=>v _ _ e u
#synth yxq ["self","bit"] vch
inductive ymr(a:Ads)(vs:Υ)(H:Hp)(Q:VK)(E':XK):Prop
 |mk(p dp ll bl mp el pl:z4)(nd b:Int)(sg:Ρ)(_:vs=[.ref p,.int b])(_:H p=some (.ins a.A3 dp (jb (.ref ll) (.ref bl) (.ref mp) (.ref el) (.int nd) (.ref pl))))(_:H el=some (.lst (sg.map V.int)))(_:sg.length<=100000)(_:0<=nd)(_:∀(el':z4)H',(el'=el\/H el'=none)->H' p=some (.ins a.A3 dp (jb (.ref ll) (.ref bl) (.ref mp) (.ref el') (.int (ndN nd b)) (.ref pl)))->H' el'=some (.lst ((sgN sg nd b).map V.int))->(∀c o,H c=some o->c≠p->c≠el->H' c=some o)->(∃o,H' el=some o)->Q .non H')
def vab:vo P w K mg Γ CX0 2 a.Mb a.P0 ["self","bit"] (ymr a):=by
 exists T.Je.F.ok,yxq,N;let⟨p,y,x,C,G,i,D,u,b,I,rfl,l,g,U,W,k⟩:=h;exists _,(yc (v9 (yx ylb (yk (pv 0) rfl) yh (y9 _)) (yc (yu (xi (pv 0) T.A8 T.Jf.m (vag T) N.m T.Jf.B .nil vn (pa1 (pv 1))))) (yc (v9 (yx xl (pv 1) yh (y9 _)) (yc (ve (pv 0) yh rfl)) (yc (ve (pv 0) (wy ur) rfl)))))),?_;exists 2,0;have d:i≠p:=w8 g l (by intro z;cases z);ext;refine zn (λj=>?_) (λj=>?_)
 .ext;exists p,y,x,C,G,i,D,u,b,I,rfl,l,g,U,j,λL O v S=>k i L (.inl rfl) O v S ⟨_,v⟩
 .unfold ndN sgN at k;rw[if_neg j,if_neg j]at k;ext;refine zn (λf=>?_) (λf=>?_)
  .rw[if_pos f,if_pos f]at k;ext;exact k i _ (.inl rfl) ya (ye d g) (λc o e n Z=>ye n e) ⟨_,ye d g⟩
  .rw[if_neg f,if_neg f]at k;ext;exists by walk_at "len",λr hr0=>?_
   exists hr0,H1,S1,e1;have R:=S1 _ _ l;ext;have t:r≠p:=λz=>by rw[z,l]at hr0;cases hr0
   exact k r _ (.inr hr0) ya (ye t e1) (λc o e n Z=>ye n (S1 _ _ e)) ⟨_,ye d (S1 _ _ g)⟩
noncomputable abbrev FA.re(A:FA)(ml el pl:z4)(sl:Μ):FA:={A with ml:=ml,el:=el,pl:=pl,sl:=sl}
noncomputable def FX.run(A:FA)(X:FX):qi Int->FX
 |[]=>X
 |b::r=>FX.run A (X.see A b) r
theorem Á(A:FA):∀(bs cs:Ρ)(X:FX),X.run A (bs++cs)=(X.run A bs).run A cs
 |[],_,_=>rfl
 |b::r,cs,X=>Á A r cs (X.see A b)
def ylv(A:FA)(bs:Ρ)(b:Int)(X:FX):X.run A (bs++[b])=(X.run A bs).see A b:=Á A bs [b] X
noncomputable def fa0(n:Nat)(ps:Λ):FA:={ dp:=0,ll:=0,bl:=0,mp:=0,mx:=0,ml:=0,el:=0,pl:=0,n:=n,bk:=λZ=>0,dx:=λZ=>0,lk:=λZ=>0,dd:=λZ=>0,sl:=λZ=>0,kd:=λZ=>0,ps:=ps}
theorem Ã(A:FA):∀(bs:Ρ)(X:FX),X.run A bs=X.run (fa0 A.n A.ps) bs
 |[],_=>rfl
 |b::r,X=>Ã A r (X.see A b)
def yvv(H:Hp)(A:FA):Prop:=H A.ll=some (.lst (refs A.lk A.n))/\A.ll≠A.el/\∃tp,x9 H A.n A.lk A.kd tp A.ps
theorem yvv.same{H H':Hp}{A:FA}(h:yvv H A)(S:yr H H'):yvv H' A:=⟨S _ _ h.1,h.2.1,let ⟨tp,r⟩:=h.2.2;⟨tp,r.same S⟩⟩
structure Go(W:Ν)(H H':Hp)(W':Ν):Prop where
 fr:∀c o,H c=some o->¬W c->H' c=some o
 nw:∀c,W' c->W c\/H c=none
 lv:∀c o,H c=some o->∃o',H' c=some o'
def Go.free{W:Ν}{H H':Hp}(h:Go W H H' W'){c:z4}(e:H' c=none):H c=none:=by
 cases z:H c with
 |none=>rfl
 |some o =>
  let⟨a,w⟩:=h.lv c o z;rw[e]at w;cases w
def Go.refl{W:Ν}{H:Hp}:Go W H H W:=⟨λZ Z e Z=>e,λZ w=>.inl w,λZ o e=>⟨o,e⟩⟩
def Go.trans{W W1:Ν}{H H1 H2:Hp}(h:Go W H H1 W1)(k:Go W1 H1 H2 W2):Go W H H2 W2:=by
 exists λc o e a=>k.fr c o (h.fr c o e a) λw=>?_,λc w=>?_,λc o e=>?_
 .rcases h.nw c w with v|v
  .exact a v
  .rw[e]at v;cases v
 .rcases k.nw c w with v|v
  .exact h.nw c v
  .exact .inr (h.free v)
 .obtain⟨b,d⟩:=h.lv c o e;exact k.lv c b d
def Go.same{W:Ν}{H H1 H2:Hp}(h:Go W H H1 W')(S:yr H1 H2):Go W H H2 W':=⟨λc o e a=>S _ _ (h.fr c o e a),h.nw,λc o e=>let ⟨o',w⟩:=h.lv c o e;⟨o',S _ _ w⟩⟩
def Go.ahead{W:Ν}{H H1 H2:Hp}(S:yr H H1)(h:Go W H1 H2 W'):Go W H H2 W':=⟨λc o e=>h.fr c o (S _ _ e),λc w=>(h.nw c w).imp id S.free,λc o e=>h.lv c o (S _ _ e)⟩
def Go.apart{W:Ν}{H H':Hp}(h:Go W H H' W')(hU:∀c,U c->∃o,H c=some o)(dj:∀c,U c->¬W c):∀c,U c->¬W' c:=λc u w=>by
 rcases h.nw c w with v|v
 .exact dj c u v
 .obtain⟨o,e⟩:=hU c u;rw[v]at e;cases e
section
variable{H H':Hp}{p:z4}{n:Nat}{kd:Ξ}{ps:Λ}{X:FX}{M:Nat}{W:Ν}
def yve{g:Μ}(h:1<=n):(refs g n)[0]?=some (.ref (g 0)):=by unfold refs;rw[bi,cj h];rfl
end
#synth yrf ["self","bit","slot"] ["self","bit"] vd0
inductive yuy(K:z3)(a:Ads)(vs:Υ)(H:Hp)(Q:VK)(E':XK):Prop
 | mk(p:z4)(A:FA)(X:FX)(f:Α)(O:Β)(m:Nat)(b:Int)(_:vs=[.ref p,.int b])(_:zb K a H p A X f O m)(_:0<=b)(_:b<=1)(_:m+20<1000000)(_:0<=X.nd)(_:X.sg.length<=100000)(_:∀(ml el pl:z4)(sl:Μ)(f':Α)(O':Β)(H':Hp),(el=A.el\/H el=none)->zb K a H' p {A with ml:=ml,el:=el,pl:=pl,sl:=sl} (X.see A b) f' O' (m+A.n)->(∀j c,j<A.n->O' j c->O j c\/H c=none) ->
  (∀c o,H c=some o->c≠p->c≠A.mp->c≠A.el->(∀j,j<A.n->¬O j c)->H' c=some o)->(∀c o,H c=some o->∃o',H' c=some o')->H ml=none->Q .non H')
def yfo:vo P w K mg Γ CX0 6 a.Ma a.Oz ["self","bit"] (yuy K a):=by
 exists T.Bz.F.ok,yrf,hr;let⟨p,d,X,f,O,m,b,rfl,h,b0,b1,hm,aq,ar,k⟩:=h;have hp:=h.me;have af:=h.mx.o;have n6:=h.n6;have I:=yxj b0 b1;refine yg (yu (uo (ī T) hr.m T.Ci vw (pa1 (pv 1)))) ?_;refine yg (yu (y8 (yk (pv 0) rfl) T.Dd T.Jc.m (yzj T) hr.m T.Jc.B .nil vw (pac (vj (pv 0) T.A8 T.Cu.m (ykm T) hr.m T.Cu.B .nil vn) (pa1 (pv 1))))) ?_;refine yg (uk PassesOwn.never rfl (we (yk (pv 0) rfl)) (vy (i:=2) yrf.nd rfl (Or.inl rfl)) (yc (yu (Ş (y8 (pv 2) T.Ao T.Iq.m (yyd T) hr.m T.Iq.B .nil vw (pa1 (pv 1))) (Ş (y8 (pv 2) T.Av T.Iv.m (ywx T) hr.m T.Iv.B .nil vw (pa1 (pv 1))) (y8 (pv 2) T.Ay T.Iz.m (ywi T) hr.m T.Iz.B .nil vw (pa1 (pv 1)))))))) ?_;refine yg (yu (xi (pv 0) T.A8 T.Je.m (vab T) hr.m T.Je.B .nil vn (pa1 (pv 1)))) ?_;exists 2,1,yc (yu (vj (pv 0) T.A8 T.Ct.m (yki T) hr.m T.Ct.B .nil vn));exists .int b,_,rfl,.int b,λF=>?_,λz=>(by rw[I]at z;cases z);ext;exists p,d,X,f,O,m,rfl,h,λr H1 aK aD S1=>?_;have M:=S1 _ _ af;ext;exists d.mp,d.mx,d.ml,r,X.ws,X.cs d,d.n,.int b,_,rfl,h.n1,n6,h.wok,h.cok,h.mx.same S1,SqL.of aD,.int b,λb' e F F ml H2 a6 M2 U=>?_,λz=>(by rw[I]at z;cases z);cases e;have L:=h.same S1
 have ac:p≠d.mp:=λz=>by
  have:=h.me;rw[z,af]at this;injection this with this;injection this with _ _ e;exact absurd (congrArg List.length e) (show ¬(1=6) by decide)
 have aA:=U _ _ L.me ac;have ab:∀{l:z4}{xs:Υ},H1 l=some (.lst xs)->l≠d.mp:=λ{l xs}e z=>by rw[z,M]at e;cases e
 have a7:=U _ _ L.bl (ab L.bl);have a8:=U _ _ L.el (ab L.el);have Y:=U _ _ L.pl (ab L.pl)
 have W:=L.B.frame (O2:=λc=>c=d.mp) (λc o e ne=>U c o e ne) (λj c q w z=>h.nm j q (z ▸ w)) (λj q z=>by
  have:=(L.B.b j q).me;rw[z,M]at this;injection this with this;injection this with _ _ e
  exact absurd (congrArg List.length e) (show ¬(1=2) by decide)) (λt xs e=>by
  rcases e with(e|⟨o,e⟩)|e
  .exact .inl (.inl (U _ _ e (λz=>by rw[z,M]at e;cases e)))
  .exact .inl (.inr ⟨o,U _ _ e (λz=>by rw[z,M]at e;cases e)⟩)
  .exact .inr e)
 have aB:∀j,j<d.n->(∃s,f j (X.key d j)=some s)/\AtS H2 (d.dd j) (X.key d j) (d.sl j):=λj q=>⟨(L.at' j q).1,(L.at' j q).2.told (L.B.b j q) (λz=>h.nm j q (by rw[<- z];exact(L.B.b j q).dO)) U⟩;ext;refine⟨d.pl,rfl,⟨_,SqL.of Y⟩,xx (K:=K) (a:=d.pl) (xs:=refs d.sl d.n) (λi σ2 G=>∃(v:Ψ)(f':Α),σ2=[some (.ref p),some (.int b),v]/\Bks K a G d.n d.bk d.dx d.lk d.dd d.kd d.ps f' O m/\
   (∀j,j<d.n->∀k,(f' j k).getD (kd0 (d.kd j))=if j<i/\k=X.key d j then (X.g j k).see b else X.g j k)/\(∀j,j<d.n->(∃s,f' j (X.key d j)=some s)/\AtS G (d.dd j) (X.key d j) (d.sl j))/\(∀c o,H2 c=some o->(∀j,j<d.n->¬O j c)->G c=some o))
  ⟨_,f,rfl,W,λj q N=>by rw[if_neg (λz=>absurd z.1 (bD j))];exact h.ag j q N,aB,λc o e F=>e⟩ (by rintro i σ2 G _ ⟨_,_,_,_,_,_,w⟩;exact SqL.of (w _ _ Y (W.nlst Y))) ?_ ?_⟩
 .rintro i y σ2 G hy ⟨v,f',rfl,S,gA,gS,gF⟩;let⟨rfl,D⟩:=uw hy;let⟨⟨s',ad⟩,aa⟩:=gS i D
  have es:s'=X.g i (X.key d i):=by
   have:=gA i D (X.key d i);rw[ad,if_neg (λz=>absurd z.1 (cI i))]at this;exact this
  let⟨dq,hq,ok,aI,aE⟩:=(S.b i D).slot ad aa;ext;refine yso (x:=.int b) (λQ' h=>?_) (λQ' h=>?_) hq ok (.int b) (λb' e F F G3 h3 B3=>?_) (λz=>by rw[I]at z;cases z) (λz=>by rw[I]at z;cases z) (λz=>by rw[I]at z;cases z)
  .ext;exact h
  .ext;exact h
  cases e;have ap:=(S.b i D).told ad aa b0 b1 h3 B3;have BO:yof (O i) G G3:=λc o e no=>B3 _ _ e λz=>no (by rw[z];exact aE);have M3:=S.move D (bf m) ap (λc w=>.inl w) BO
  have eO:(λj=>if j=i then O i else O j)=O:=by
   funext j
   by_cases z:j=i
   .rw[if_pos z,z]
   .rw[if_neg z]
  rw[eO]at M3
  have ao:d.dd i≠d.sl i:=λz=>by
   let⟨aH,aL,w1,_⟩:=(S.b i D).tb;let⟨C,fs,eo⟩:=π a dq s';rw[z,hq,eo]at w1;cases w1
  ext;exists _,_,rfl,M3,λj q N=>?_,λj q=>?_,λc o e no=>?_
  .try dsimp only
   by_cases z:j=i
   .subst z;rw[if_pos rfl];unfold ć;by_cases w:N=X.key d j
    .rw[if_pos w,if_pos ⟨Nat.lt_succ_self j,w⟩,w,<- es];rfl
    .rw[if_neg w,if_neg (λz=>w z.2)];have:=gA j q N;rw[if_neg (λz=>w z.2)]at this;exact this
   .rw[if_neg z,gA j q N];have:(j<i/\N=X.key d j)↔(j<i+1/\N=X.key d j):=by constructor<;>(rintro ⟨u,v⟩;exact⟨(),v⟩)
    by_cases w:j<i/\N=X.key d j
    .rw[if_pos w,if_pos (this.mp w)]
    .rw[if_neg w,if_neg (λz=>w (this.mpr z))]
  .try dsimp only
   by_cases z:j=i
   .subst z;rw[if_pos rfl];exists⟨s'.see b,?_⟩,aa.told (S.b j D) ao B3;unfold ć;rw[if_pos rfl]
   .rw[if_neg z];exists(gS j q).1,(gS j q).2.move S q D z BO
  .exact BO _ _ (gF c o e no) (no i D)
 .rintro σ2 G ⟨v,f',rfl,S,gA,gS,gF⟩;rw[vi]at gA;have gp:=gF _ _ aA h.np;have R:=gF _ _ a8 (W.nlst a8);have aj:=gF _ _ a7 (W.nlst a7);have a0:=gF _ _ M2.o h.nm;have ak:=gF _ _ M2.l (W.nlst M2.l);ext;exists p,d.dp,d.ll,d.bl,d.mp,d.el,d.pl,X.nd,b,X.sg,rfl,gp,R,ar,aq,λel H4 ai ae a4 F4 L4=>?_;have al:∀{l:z4}{xs:Υ},G l=some (.lst xs)->l≠p:=λ{l xs}e z=>by rw[z,gp]at e;cases e
  have am:∀j,j<d.n->¬O j p:=h.np;have ah:=S.nlst R
  have a3:=S.frame (O2:=λc=>c=p\/c=d.el) (λc o e ne=>F4 c o e (λz=>ne (.inl z)) (λz=>ne (.inr z))) (λj c q w z=>by
   rcases z with z|z
   .exact am j q (z ▸ w)
   .exact ah j q (z ▸ w)) (λj q z=>by
   have:=(S.b j q).me;rcases z with z|z
   .rw[z,gp]at this;injection this with this;injection this with _ _ e;exact absurd (congrArg List.length e) (show ¬(6=2) by decide)
   .rw[z,R]at this
    cases this) (λt xs e=>by
   rcases e with(e|⟨o,e⟩)|e
   .exact .inl (.inl (F4 _ _ e (λz=>by rw[z,gp]at e;cases e) (λz=>by rw[z,R]at e;cases e)))
   .exact .inl (.inr ⟨o,F4 _ _ e (λz=>by rw[z,gp]at e;cases e) (λz=>by rw[z,R]at e;cases e)⟩)
   .exact .inr e)
  have ax:d.bl≠d.el:=λz=>by
   have e:=h.bl;rw[z,h.el]at e;injection e with e;injection e with e;have e0:=congrArg (λl:Υ=>l[0]?) e
   have r0:(refs d.bk d.n)[0]?=some (.ref (d.bk 0)):=by
    unfold refs;rw[bi,cj h.n1];rfl
   try dsimp only at e0
   rw[r0,bi]at e0
   cases hs:X.sg[0]? with
   |none=>rw[hs]at e0;cases e0
   |some c=>rw[hs]at e0;cases e0
  have as:ml≠d.el:=(yb L.el a6).symm;have a5:=F4 _ _ aj (al aj) ax;have aw:=F4 _ _ a0 (Ne.symm ac) (λz=>by rw[z,R]at a0;cases a0);have a9:=F4 _ _ ak (al ak) as
  have a2:∀c o,H c=some o->∃Z,H4 c=some Z:=λc o e=>by
   by_cases zp:c=p
   .exists _,zp ▸ ae
   by_cases ze:c=d.el
   .rw[ze];exact L4
   have gc:∃Z,G c=some Z:=by
    by_cases zm:c=d.mp
    .exists _,zm ▸ a0
    by_cases zo:∀j,j<d.n->¬O j c
    .exists o,gF _ _ (U _ _ (S1 _ _ e) zm) zo
    .have:∃j,j<d.n/\O j c:=Classical.byContradiction λw=>zo λj q w'=>w ⟨j,q,w'⟩;let⟨j,q,w⟩:=this;let⟨Z,J,_⟩:=(S.b j q).own c w;exists Z,J
   let⟨Z,J⟩:=gc;exists Z,F4 _ _ J zp ze
  have aC:ylk d.n d.kd f' (X.see d b).g:=λj q N=>by
   rw[gA j q N];show _=if N=X.key d j then (X.g j N).see b else X.g j N;by_cases w:N=X.key d j
   .rw[if_pos ⟨q,w⟩,if_pos w]
   .rw[if_neg (λz=>w z.2),if_neg w]
  ext;exists p,d.dp,d.ll,d.bl,d.mp,el,d.pl,ndN X.nd b,sgN X.sg X.nd b,d.n,m,d.bk,d.dx,d.lk,d.dd,d.kd,d.ps,f',O,(X.see d b).g,rfl,ae,a5,a4,a3,aC,n6,(),h.np,λpl sl f2 O2 H5 av au aG B5 ay an az F5 L5=>?_
  have a1:∀{l:z4}{xs:Υ},H4 l=some (.lst xs)->l≠p:=λ{l xs}e z=>by rw[z,ae]at e;cases e
  have n2:∀j c,j<d.n->O2 j c->O j c\/H c=none:=λj c q w=>by
   rcases az j c q w with v|v
   .exact .inl v
   .refine .inr ?_
    cases e:H c with
    |none=>rfl
    |some o =>
     let⟨Z,J⟩:=a2 c o e;rw[J]at v;cases v
  refine k ml el pl sl f2 O2 H5 ?_ ⟨av,F5 _ _ a5 (a1 a5) (a3.nlst a5),F5 _ _ a4 (a1 a4) (a3.nlst a4),⟨F5 _ _ aw (Ne.symm ac) h.nm,F5 _ _ a9 (a1 a9) (a3.nlst a9)⟩,ypj h.n1 n6 h.wok h.cok,au,B5,ay,an,λj q w=>?_,λj q w=>?_,h.n1,n6⟩ n2 (λc o e c1 c2 c3 no=>F5 _ _ (F4 _ _ (gF _ _ (U _ _ (S1 _ _ e) c2) no) c1 c3) c1 no) (λc o e=>let ⟨Z,w⟩:=a2 c o e;L5 c Z w) (S1.free a6)
  .rcases ai with z|z
   .exact .inl z
   .refine .inr ?_
    cases e:H el with
    |none=>rfl
    |some o =>
     exfalso;by_cases zp:el=p
     .rw[zp,gp]at z;cases z
     by_cases zm:el=d.mp
     .rw[zm,a0]at z;cases z
     by_cases zo:∀j,j<d.n->¬O j el
     .rw[gF _ _ (U _ _ (S1 _ _ e) zm) zo]at z;cases z
     .have:∃j,j<d.n/\O j el:=Classical.byContradiction λw=>zo λj q w'=>w ⟨j,q,w'⟩;let⟨j,q,w⟩:=this;let⟨Z,J,_⟩:=(S.b j q).own el w;rw[J]at z;cases z
  .rcases n2 j p q w with v|v
   .exact h.np j q v
   .rw[hp]at v;cases v
  .rcases n2 j d.mp q w with v|v
   .exact h.nm j q v
   .rw[af]at v;cases v
def zv{A:FA}{X:FX}{bs:Ρ}{k:Nat}{b:Int}(h:bs[k]?=some b):X.run A (bs.take (k+1))=(X.run A (bs.take k)).see A b:=by rw[ç h,ylv]
structure FGo(p:z4)(A:FA)(O:Β)(H H':Hp)(el:z4)(O':Β):Prop where
 he:el=A.el\/H el=none
 hO:∀j c,j<A.n->O' j c->O j c\/H c=none
 fr:∀c o,H c=some o->c≠p->c≠A.mp->c≠A.el->(∀j,j<A.n->¬O j c)->H' c=some o
 live:∀c o,H c=some o->∃o',H' c=some o'
def FGo.free{p:z4}{A:FA}{H H':Hp}{el c:z4}(h:FGo p A O H H' el O')(hc:H' c=none):H c=none:=by
 cases e:H c with
 |none=>rfl
 |some o =>
  let⟨a,w⟩:=h.live c o e;rw[hc]at w;cases w
def FGo.refl{p:z4}{A:FA}{H:Hp}:FGo p A O H H A.el O:=⟨.inl rfl,λZ Z Z w=>.inl w,λZ Z e Z Z Z Z=>e,λZ o e=>⟨o,e⟩⟩
theorem FGo.trans{p:z4}{A:FA}{O1:Β}{H H1 H2:Hp}{ml el pl el2:z4}{sl:Μ}(h:FGo p A O H H1 el O1)(k:FGo p (A.re ml el pl sl) O1 H1 H2 el2 O2):FGo p A O H H2 el2 O2:=by
 exists ?_,λj c a w=>?_,λc o e b d g f=>?_,λc o e=>?_
 .rcases k.he with z|z
  .rcases h.he with y|y
   .exact .inl (z.trans y)
   .exact .inr (by rw[show el2=el from z];exact y)
  .exact .inr (h.free z)
 .rcases k.hO j c a w with v|v
  .exact h.hO j c a v
  .exact .inr (h.free v)
 .refine k.fr c o (h.fr c o e b d g f) b d (λz=>?_) (λj a w=>?_)
  .rcases h.he with y|y
   .exact g (z.trans y)
   .rw[show c=el from z,y]at e;cases e
  .rcases h.hO j c a w with v|v
   .exact f j a v
   .rw[e]at v;cases v
 .obtain⟨l,i⟩:=h.live c o e;exact k.live c l i
def FGo.same{p:z4}{A:FA}{H H1 H2:Hp}{el:z4}(h:FGo p A O H H1 el O')(S:yr H1 H2):FGo p A O H H2 el O' :=
 ⟨h.he,h.hO,λc o e a f b d=>S _ _ (h.fr c o e a f b d),λc o e=>let ⟨o',w⟩:=h.live c o e;⟨o',S _ _ w⟩⟩
def FGo.ahead{p:z4}{A:FA}{H H1 H2:Hp}{el:z4}(S:yr H H1)(h:FGo p A O H1 H2 el O'):FGo p A O H H2 el O' :=
 ⟨h.he.imp id S.free,λj c a w=>(h.hO j c a w).imp id S.free,λc o e=>h.fr c o (S _ _ e),λc o e=>h.live c o (S _ _ e)⟩
def FGo.kpa{p:z4}{A:FA}{X:FX}{f:Α}{m:Nat}{H H':Hp}{el:z4}(hf:zb K a H p A X f O m)(h:FGo p A O H H' el O'):KpA H H' A.el el:=λc o e i k=>by
 exists ?_,h.fr c o e (λz=>by rw[z,hf.me]at e;cases e;cases i) (λz=>by rw[z,hf.mx.o]at e;cases e;cases i) k λj l w=>?_
 .rcases h.he with z|z
  .rw[z];exact k
  .exact yb e z
 .obtain⟨n,g,d⟩:=(hf.B.b j l).own c w;rw[e]at g;cases g;rw[i]at d;cases d
def FGo.app{p R:z4}{A:FA}{H H1:Hp}{el:z4}{o':HO}(h:FGo p A O H H1 el O')(hR:H R=none):FGo p A O H (upd H1 R o') el O' :=
 ⟨h.he,h.hO,λc o e a f b d=>ye (yb e hR) (h.fr c o e a f b d),λc o e=>let ⟨o',w⟩:=h.live c o e;⟨o',ye (yb e hR) w⟩⟩
def ye2{g:Μ}{n:Nat}(h:1<=n):(refs g n)[0]?=some (.ref (g 0)):=by unfold refs;rw[bi,cj h];rfl
def zb.notR{G:Hp}{p R:z4}{A:FA}{X:FX}{f:Α}{m:Nat}{tu:Μ}(h:zb K a G p A X f O m)(hR:G R=some (.lst (refs tu j)))(htu:∀i,i<j->∃o,G (tu i)=some o/\yvs o=false)(nR:R≠A.el):∀q,(q=A.bl\/q=A.el\/q=A.ml\/q=A.pl)->q≠R:=λq D z=>by
 have k:=h.n1
 have c:∀(l:Υ)(x:V),l[0]?=some x->refs tu j=l->1<=j/\x=.ref (tu 0):=λl x n e=>by
  rcases Nat.eq_zero_or_pos j with w|w
  .rw[<- e,w]at n;cases n
  .rw[<- e,ye2 w]at n;exists w,(bx n).symm
 rcases D with y|y|y|y
 .have e:=h.bl;rw[<- y,z,hR]at e;let⟨w,e⟩:=c _ _ (ye2 k) (HO.lst.inj (bx e));let⟨o,d,r⟩:=htu 0 w;rw[<- V.ref.inj e,(h.B.b 0 k).me]at d;cases d;cases r
 .exact nR (z.symm.trans y)
 .have e:=h.mx.l;rw[<- y,z,hR]at e;have v:0<X.ws.length:=by rw[h.wok.len];exact k
  let⟨w,e⟩:=c _ (.int X.ws[0]) (by rw[bi,bc v];rfl) (HO.lst.inj (bx e));cases e
 .have e:=h.pl;rw[<- y,z,hR]at e;let⟨w,e⟩:=c _ _ (ye2 k) (HO.lst.inj (bx e));let⟨o,d,r⟩:=htu 0 w;let⟨_,⟨s,u⟩,_,_⟩:=h.slot k;let⟨C,E,t⟩:=π a s (X.g 0 (X.key A 0));rw[<- V.ref.inj e,u,t]at d;cases d;cases r
structure j8(H:Hp)(t:z4)(ts:Ρ)(w:Nat):Prop where
 l:H t=some (.lst (ts.map V.int))
 s:Sgs ts
 z:ts.length<=w
def j8.same{H H':Hp}{t:z4}{w:Nat}(h:j8 H t ts w)(S:yr H H'):j8 H' t ts w:=⟨S _ _ h.l,h.s,h.z⟩
def j3(tt:Λ):Λ
 |0=>[]
 |i+1=>j3 tt i++dec (tt i)
def fX(n:Nat)(kd:Ξ)(ps:Λ)(pre:Ρ)(ts:Ρ)(k:Nat):FX:=((FX0 n kd).run (fa0 n ps) pre).run (fa0 n ps) ((dec ts).take k)
def zt(n:Nat)(kd:Ξ)(ps:Λ)(pre:Ρ)(ts:Ρ)(k:Nat):Int:=ylc (fX n kd ps pre ts k).ws ((fX n kd ps pre ts k).cs (fa0 n ps))
def fCs(n:Nat)(kd:Ξ)(ps:Λ)(pre:Ρ)(ts:Ρ)(k:Nat):Ρ:=(fX n kd ps pre ts k).cs (fa0 n ps)
def vv(ts:Ρ)(k:Nat):Int:=((dec ts)[k]?).getD 0
def yet(ts:Ρ)(k:Nat)(h:k<(dec ts).length):0<=vv ts k/\vv ts k<=1:=by unfold vv;rw[bc h];exact jq ts _ (bV h)
def yvw(H:Hp)(lx:V)(N w:Nat)(lt:Μ)(tt:Λ):Prop:=((lx=.non/\N=0)\/∃ll,lx=.ref ll/\H ll=some (.lst (refs lt N)))/\∀i,i<N->j8 H (lt i) (tt i) w
theorem yvw.same{H H':Hp}{lx:V}{N w:Nat}{lt:Μ}{tt:Λ}(h:yvw H lx N w lt tt)(S:yr H H'):yvw H' lx N w lt tt :=
 ⟨h.1.imp id λ⟨a,e,z⟩=>⟨a,e,S _ _ z⟩,λi b=>(h.2 i b).same S⟩
structure vew(H:Hp)(L tx:z4)(lx:V)(n:Nat)(lk:Μ)(kd:Ξ)(tp:Μ)(ps:Λ)(ts:Ρ)(N w:Nat)(lt:Μ)(tt:Λ):Prop where
 l:H L=some (.lst (refs lk n))
 n1:1<=n
 n6:n<=6
 r:x9 H n lk kd tp ps
 t:j8 H tx ts 1000
 lr:yvw H lx N w lt tt
 w1:w<=1000
 N1:N<=1000
 b:6+6*(N*(9*w+1))+6*(9*ts.length+1)+20<1000000
structure XOk(n:Nat)(X:FX):Prop where
 w:WOk n X.ws
 s:∀i k,(X.g i k).ok
theorem XOk.cs{n:Nat}{X:FX}(h:XOk n X)(ps:Λ):COk n (X.cs (fa0 n ps)):=by
 exists by unfold FX.cs;rw[ba,bQ];rfl,λc a=>?_,λc a=>?_
 .obtain⟨j,_,rfl⟩:=bg.mp a;exact(yfa (h.s _ _)).1
 .obtain⟨j,_,rfl⟩:=bg.mp a;exact(yfa (h.s _ _)).2
theorem XOk.see{n:Nat}{X:FX}(h:XOk n X)(n1:1<=n)(n6:n<=6)(ps:Λ){b:Int}(b0:0<=b)(b1:b<=1):XOk n (X.see (fa0 n ps) b):=by
 exists ypj n1 n6 h.w (h.cs ps),λi k=>?_;show (if k=X.key (fa0 n ps) i then (X.g i k).see b else X.g i k).ok
 split
 .exact Slt.see_ok (h.s i k) b0 b1
 .exact h.s i k
theorem XOk.run{n:Nat}(n1:1<=n)(n6:n<=6)(ps:Λ):∀(bs:Ρ){X:FX},XOk n X->yck bs->XOk n (X.run (fa0 n ps) bs)
 |[],_,h,_=>h
 |b::r,_,h,hb=>XOk.run n1 n6 ps r (h.see n1 n6 ps (hb b (by simp)).1 (hb b (by simp)).2) λc a=>hb c (by simp[a])
def XOk.zero{n:Nat}(n1:1<=n)(n6:n<=6)(kd:Ξ):XOk n (FX0 n kd):=⟨vdo n n1 n6,λi Z=>yrn (kd i)⟩
def yhm{bs:Ρ}(h:yck bs)(k:Nat):yck (bs.take k):=λb a=>h b (cy a)
def veq{n:Nat}(n1:1<=n)(n6:n<=6){kd:Ξ}{ps:Λ}{pre:Ρ}(hp:yck pre)(k:Nat):XOk n (fX n kd ps pre ts k):=by unfold fX;exact((XOk.zero n1 n6 kd).run n1 n6 ps pre hp).run n1 n6 ps _ (yhm (jq ts) k)
def Ħ{n:Nat}(n1:1<=n)(n6:n<=6){kd:Ξ}{ps:Λ}{pre:Ρ}(hp:yck pre)(k:Nat):Ch (zt n kd ps pre ts k):=ye9 n1 (veq (kd:=kd) (ps:=ps) (ts:=ts) n1 n6 hp k).w ((veq (kd:=kd) (ps:=ps) (ts:=ts) n1 n6 hp k).cs ps)
structure TwB(K:z3)(a:Ads)(H G:Hp)(n:Nat)(bk dx lk dd:Μ)(kd:Ξ)(ps:Λ)(f:Α)(O:Β)(m:Nat):Prop where
 B:Bks K a G n bk dx lk dd kd ps f O m
 oO:∀j c,j<n->O j c->H c=none
 oB:∀j,j<n->H (bk j)=none
def TwB.zero{H G:Hp}{bk dx lk dd:Μ}{kd:Ξ}{ps:Λ}{f:Α}{m:Nat}:TwB K a H G 0 bk dx lk dd kd ps f O m :=
 ⟨⟨λi b=>absurd b (bD i),λi b=>absurd b (bD i),λi Z Z b=>absurd b (bD i),λi Z b=>absurd b (bD i)⟩,λi Z b=>absurd b (bD i),λi b=>absurd b (bD i)⟩
def TwB.next{H G G2:Hp}{n m:Nat}{bk dx lk dd:Μ}{kd:Ξ}{ps:Λ}{f:Α}(h:TwB K a H G n bk dx lk dd kd ps f O m)(hl:jg K G (lk n) (.str (kdS (kd n))) (ps n))
  (S:yr H G) {q dq d D:z4} {xs ys:Υ} {f':qi Int->qj Slt} {O':Ν} (hq:G q=none) (hO:∀c,O' c->G c=none) (S2:yr G G2) (hb:ã a G2 q dq (lk n) d (kd n) f' O' m) (hD:G D=some (.lst xs)):
  TwB K a H (upd G2 D (.lst ys)) (n+1) (upN bk n q) (upN dx n dq) lk (upN dd n d) kd ps (upN f n f') (upN O n O') m:=by
 let⟨p,u,x⟩:=h;have k:∀j c,j<n->O j c->∃o,G c=some o:=λj c g w=>let ⟨o,l,_⟩:=(p.b j g).own c w;⟨o,l⟩
 have M:=(p.same S2).snoc (hl.same S2) hb (λj c g w z=>by
  let⟨o,l⟩:=k j c g w;rw[hO c z]at l
  cases l) (λj g w=>by
  let⟨o,l⟩:=k j q g w;rw[hq]at l
  cases l) (λj g z=>by
  have e:=(p.b j g).me;rw[hO _ z]at e;cases e)
 have i:=S2 _ _ hD;have v:=M.nlst i;have s:∀c o,G2 c=some o->c≠D->upd G2 D (.lst ys) c=some o:=λc o e r=>ye r e;exists M.frame (O2:=λc=>c=D) (λc o e r=>s c o e r) (λj c g w z=>v j g (z ▸ w)) (λj g z=>?_) (λt xs e=>?_),λj c g w=>?_,λj g=>?_
 .have e:=(M.b j g).me;rw[z,i]at e;cases e
 .rcases e with(e|⟨o,e⟩)|e
  .exact .inl (.inl (s _ _ e (λz=>by rw[z,i]at e;cases e)))
  .exact .inl (.inr ⟨o,s _ _ e (λz=>by rw[z,i]at e;cases e)⟩)
  .exact .inr e
 .by_cases z:j=n
  .rw[z,wq]at w;exact S.free (hO c w)
  .rw[wj ()]at w;exact u j c () w
 .by_cases z:j=n
  .rw[z,wq];exact S.free hq
  .rw[wj ()];exact x j ()
#synth yp6 ["self","made"] ["self"] vc4
inductive yek(K:z3)(a:Ads)(vs:Υ)(H:Hp)(Q:VK)(E':XK):Prop
 |mk(p:z4)(A:FA)(X:FX)(f:Α)(O:Β)(m:Nat)(_:vs=[.ref p])(_:zb K a H p A X f O m)(_:yvv H A)(_:m+20<1000000)(_:∀(q:z4)(A':FA)(f':Α)(O':Β)(H':Hp),H q=none->zb K a H' q A' X f' O' (m+A.n)->yvv H' A'->A'.n=A.n->A'.kd=A.kd->A'.ps=A.ps->A'.lk=A.lk->(∀j c,j<A.n->O' j c->H c=none)->(∀j,j<A.n->H (A'.bk j)=none)->H A'.mp=none->(∀l,(l=A'.bl\/l=A'.el\/l=A'.ml\/l=A'.pl\/l=A'.ll)->H l=none)->yr H H'->Q (.ref q) H')
def yy9:vo P w K mg Γ CX0 8 a.Md a.P3 ["self"] (yek K a):=by
 exists T.Jg.F.ok,yp6,hr;let⟨p,u,X,f,O,m,rfl,h,⟨aA,aH,tp,Z⟩,hm,k⟩:=h;have hp:=h.me;have n1:=h.n1;have n6:=h.n6;refine yg (yt (i:=1) yp6.nd rfl (Or.inl rfl) (ux T.Ku (yfm T) hr.m rfl T.Kt T.Ed.B .nil vw (pa1 (yk (pv 0) rfl)))) ?_;refine yg (ve (pv 1) (vx (js:=[]) (ys:=[]) rfl (we (yk (pv 0) rfl)) (λC s2 H2 fp=>(vj (pv 0) T.B0 T.J9.m (yy2 T) hr.m T.J9.B .nil vn)) rfl rfl (hyc:=yy) (hrel:=yy)) rfl) ?_;refine yg (ve (pv 1) (vj (yk (pv 0) rfl) T.Dd T.Jd.m (yx5 T) hr.m T.Jd.B .nil vn) rfl) ?_;refine yg (ve (pv 1) (pcT wg T.Ad (pa1 (yk (pv 0) rfl))) rfl) ?_;refine yg (ve (pv 1) (yk (pv 0) rfl) rfl) ?_;refine yg (yu (vj (pv 1) T.A8 T.Ct.m (yki T) hr.m T.Ct.B .nil vn)) ?_;exists 1,1,yc (yn (pv 1));intro q dq W ac aW;have S0:yr H (upd (upd H dq (.own q)) q (.ins a.A3 dq [])):=λb o e=>by rw[ym (yb e W),ym (yb e ac)];exact e
 exists q,dq,.ref u.ll,rfl,ya,.inr ⟨u.ll,u.n,u.lk,u.kd,tp,u.ps,rfl,S0 _ _ aA,n1,n6,Z.same S0,λd f1 O1 H1 N1 B1=>⟨rfl,?_⟩⟩;let⟨ad,e1,e2,e3,e4,aM,aR,aT,aV,U,aI,aC⟩:=N1;have S1:yr H H1:=í W ac B1;have h1:=h.same S1;have R:H1 q=some (.ins a.A3 d.dp (jb (.ref d.ll) (.ref d.bl) (.ref d.mp) (.ref d.el) (.int 0) (.ref d.pl))):=ad.me;have ar:=h1.me;have aQ:p≠q:=yb hp W;ext;exists u.bl,rfl,⟨_,SqL.of h1.bl⟩,λD hD=>?_;refine zf (K:=K) (xs:=refs u.bk u.n) (λi G=>∃(bk dx dd:Μ)(f2:Α)(O2:Β),G D=some (.lst (refs bk i))/\TwB K a H1 G i bk dx u.lk dd u.kd u.ps f2 O2 m/\(∀j,j<i->f2 j=f j)/\yr H1 G)
  ⟨λF=>0,λF=>0,λF=>0,λF F=>none,λF F=>False,ya,TwB.zero,λj x=>absurd x (bD j),yz hD⟩ (λi G F z=>?_) (λi y G hy hi z=>?_) (λG z=>?_)
 .obtain⟨_,_,_,_,_,_,_,_,N⟩:=z;exact SqL.of (N _ _ h1.bl)
 .obtain⟨bk,dx,dd,f2,O2,gD,S,gf,N⟩:=z;let⟨rfl,af⟩:=uw hy;have ak:=(h1.B.b i af).same N;have aF:=ak.me;ext;exists u.bk i,u.dx i,u.lk i,u.dd i,u.kd i,f i,O i,m,rfl,ak,(),λq2 aO d2 O3 G2 al au av S2=>?_
  refine x8 (n:=(refs u.bk u.n).length) (S2 _ _ gD) (vh (by rw[vi];omega)) hi ?_;exists _,_,_,_,_,?_,S.next ((h1.B.look i af).same N) N al av S2 au gD,λj x=>?_,λb o e=>ye (yb e hD) (S2 _ _ (N b o e))
  .rw[ya,x0,wq]
   congr 3
   exact xv λj x=>(wj x).symm
  .by_cases z:j=i
   .rw[z,wq]
   .rw[wj ()];exact gf j ()
 let⟨bk,dx,dd,f2,O2,gD,S,gf,N⟩:=z;rw[vi]at gD S gf;have ai:=N _ _ R;have aU:=N _ _ ar;ext;have aj:D≠q:=λz=>by rw[z,R]at hD;cases hD
 have BA:But q G (upd G q (.ins a.A3 d.dp (jb (.ref d.ll) (.ref D) (.ref d.mp) (.ref d.el) (.int 0) (.ref d.pl)))):=But.upd;have Y:upd G q (.ins a.A3 d.dp (jb (.ref d.ll) (.ref D) (.ref d.mp) (.ref d.el) (.int 0) (.ref d.pl))) q=some (.ins a.A3 d.dp (jb (.ref d.ll) (.ref D) (.ref d.mp) (.ref d.el) (.int 0) (.ref d.pl))):=ya;generalize upd G q (.ins a.A3 d.dp (jb (.ref d.ll) (.ref D) (.ref d.mp) (.ref d.el) (.int 0) (.ref d.pl)))=HA at BA Y⊢;have SA:yr H HA:=λb o e=>BA _ _ (N _ _ (S1 _ _ e)) (yb e W);have hA:=h.same SA;have aK:=hA.me;have aG:=hA.mx.o;ext;exists u.mp,u.mx,u.ml,X.ws,rfl,hA.mx,by rw[h.wok.len];exact n1,by rw[h.wok.len];exact n6,λI aD l3 HB L a1 MB SB=>?_
 have aL:=SB _ _ Y;ext;have a7:I≠q:=(yb Y L).symm;have ab:l3≠q:=(yb Y a1).symm;have BC:But q HB (upd HB q (.ins a.A3 d.dp (jb (.ref d.ll) (.ref D) (.ref I) (.ref d.el) (.int 0) (.ref d.pl)))):=But.upd;have a4:upd HB q (.ins a.A3 d.dp (jb (.ref d.ll) (.ref D) (.ref I) (.ref d.el) (.int 0) (.ref d.pl))) q=some (.ins a.A3 d.dp (jb (.ref d.ll) (.ref D) (.ref I) (.ref d.el) (.int 0) (.ref d.pl))):=ya;generalize upd HB q (.ins a.A3 d.dp (jb (.ref d.ll) (.ref D) (.ref I) (.ref d.el) (.int 0) (.ref d.pl)))=HC at BC a4⊢;have SC:yr H HC:=λb o e=>BC _ _ (SB _ _ (SA _ _ e)) (yb e W);have aP:=SC _ _ hp;ext;refine Õ (SqL.of (SC _ _ h.el)) λr hr0=>?_;exists hr0,HD,SD,er;have aS:=SD _ _ a4;ext;have am:r≠q:=(yb a4 hr0).symm;have BE:But q HD (upd HD q (.ins a.A3 d.dp (jb (.ref d.ll) (.ref D) (.ref I) (.ref r) (.int 0) (.ref d.pl)))):=But.upd;have ay:upd HD q (.ins a.A3 d.dp (jb (.ref d.ll) (.ref D) (.ref I) (.ref r) (.int 0) (.ref d.pl))) q=some (.ins a.A3 d.dp (jb (.ref d.ll) (.ref D) (.ref I) (.ref r) (.int 0) (.ref d.pl))):=ya;generalize upd HD q (.ins a.A3 d.dp (jb (.ref d.ll) (.ref D) (.ref I) (.ref r) (.int 0) (.ref d.pl)))=HE at BE ay⊢;have SE:yr H HE:=λb o e=>BE _ _ (SD _ _ (SC _ _ e)) (yb e W);have aJ:=SE _ _ hp;ext;have BF:But q HE (upd HE q (.ins a.A3 d.dp (jb (.ref d.ll) (.ref D) (.ref I) (.ref r) (.int X.nd) (.ref d.pl)))):=But.upd;have a9:upd HE q (.ins a.A3 d.dp (jb (.ref d.ll) (.ref D) (.ref I) (.ref r) (.int X.nd) (.ref d.pl))) q=some (.ins a.A3 d.dp (jb (.ref d.ll) (.ref D) (.ref I) (.ref r) (.int X.nd) (.ref d.pl))):=ya;generalize upd HE q (.ins a.A3 d.dp (jb (.ref d.ll) (.ref D) (.ref I) (.ref r) (.int X.nd) (.ref d.pl)))=HF at BF a9⊢;have aq:But q HD HF:=BE.trans BF;have aa:But q HB HF:=(BC.trans (But.of SD)).trans aq;have M:But q G HF:=(BA.trans (But.of SB)).trans aa;have SF:yr H HF:=λb o e=>M _ _ (N _ _ (S1 _ _ e)) (yb e W);have a6:=M _ _ gD aj;have a2:=aq _ _ er am;have ah:=aa _ _ MB.o a7;have an:=aa _ _ MB.l ab
 have a8:∀j,j<u.n->¬O2 j q:=λj x w=>by
  have e:=S.oO j q x w;rw[R]at e;cases e
 have ao:Bks K a HF u.n bk dx u.lk dd u.kd u.ps f2 O2 m:=S.B.frame (O2:=λc=>c=q) (λc o e ne=>M c o e ne) (λj c x w z=>a8 j x (z ▸ w)) (λj x z=>by
  have e:=S.oB j x;rw[z,R]at e
  cases e) (λt xs e=>by
  rcases e with(e|⟨o,e⟩)|e
  .exact .inl (.inl (M _ _ e (λz=>by rw[z,ai]at e;cases e)))
  .exact .inl (.inr ⟨o,M _ _ e (λz=>by rw[z,ai]at e;cases e)⟩)
  .exact .inr e)
 have az:ylk u.n u.kd f2 X.g:=λi hi k=>by
  rw[gf i hi];exact h.ag i hi k
 ext;exists q,d.dp,d.ll,D,I,r,d.pl,X.nd,X.sg,u.n,m,bk,dx,u.lk,dd,u.kd,u.ps,f2,O2,X.g,rfl,a9,a6,a2,ao,az,n6,(),a8,λpl sl f' O' H' aw ax ap B' aB as a5 F' L'=>?_
 have a3:∀j c,j<u.n->O2 j c->∃o,G c=some o:=λj c x w=>let ⟨o,ho,_⟩:=(S.B.b j x).own c w;⟨o,ho⟩
 have ae:∀j,j<u.n->¬O2 j I:=λj x w=>by
  let⟨o,ho⟩:=a3 j I x w;rw[BA _ _ ho a7]at L;cases L
 have nl:=λ{l:z4}{xs:Υ}(e:HF l=some (.lst xs))=>ao.nlst e;have J:d.ll≠q:=λz=>by rw[z,R]at U;cases U
 have a0:=M _ _ (N _ _ U) J
 have SH:yr H H':=λc o e=>F' c o (SF c o e) (yb e W) λj x w=>by
  have e2:=S.oO j c x w;rw[S1 _ _ e]at e2;cases e2
 ext;refine k q ⟨d.dp,d.ll,D,I,aD,l3,r,pl,u.n,bk,dx,u.lk,dd,sl,u.kd,u.ps⟩ f' O' H' W ⟨aw,F' _ _ a6 aj (nl a6),F' _ _ a2 am (nl a2),⟨F' _ _ ah a7 ae,F' _ _ an ab (nl an)⟩,h.wok,ax,B',aB,as,λj x w=>?_,λj x w=>?_,n1,n6⟩ ⟨F' _ _ a0 J (nl a0),λz=>?_,tp,Z.same SH⟩ rfl rfl rfl rfl (λj c x w=>?_) (λj x=>S1.free (S.oB j x)) (SA.free L) (λl hl=>?_) SH
 .rcases a5 j q x w with v|v
  .exact a8 j x v
  .rw[a9]at v;cases v
 .rcases a5 j I x w with v|v
  .exact ae j x v
  .rw[ah]at v;cases v
 .have e:=BC _ _ (SB _ _ (BA _ _ (N _ _ U) J)) J;rw[show d.ll=r from z,hr0]at e;cases e
 .rcases a5 j c x w with v|v
  .exact S1.free (S.oO j c x v)
  .exact SF.free v
 .rcases hl with z|z|z|z|z
  .rw[z];exact S1.free hD
  .rw[z];exact SC.free hr0
  .rw[z];exact SA.free a1
  .rw[z];exact SF.free ap
  .rw[z];exact S0.free aC
#synth yxc ["sign"] vd1
inductive ygp(K:z3)(vs:Υ)(H:Hp)(Q:VK)(E':XK):Prop
 |mk(s:Int)(_:vs=[.int s])(_:∀r H',H r=none->H' r=some (.lst ((b8 s).map V.int))->yr H H'->Q (.ref r) H')
def yv6:vo P w K mg Γ CX0 1 a.Me a.P4 ["sign"] (ygp K):=by
 exists T.Qj.F.ok,yxc,u;let⟨m,rfl,k⟩:=h;exists 1,0,yc (yn (vx (js:=[0]) (ys:=["sign"]) rfl (yfi (yal rfl T.Et)) (λC t f r=>(yo xk (yo vq (pv 1) (pv 0)) yh)) rfl rfl (hyc:=(all_cons rfl yy)) (hrel:=(all_cons rfl yy))));exists a.Bd,rfl,⟨_,T.w_WORTHS H⟩,λD g=>?_;refine ŏ (wV m) (T.w_WORTHS H) g (λi y f l d b=>?_) (λf d b=>?_)
 .obtain⟨c,o,rfl,n⟩:∃c,0<c/\y=V.int c/\c<=128:=by
   have j:=bB l;simp only[bq,List.not_mem_nil,or_false]at j;rcases j with rfl|rfl|rfl|rfl|rfl|rfl|rfl|rfl<;>exact⟨_,∅,rfl,∅⟩
  ext;exact Mp.done g (by show 8<sizeLine;decide) l d b rfl
 .exact k D f g b d
#synth ykt ["text","bits","sign"] ["text"] vbt
inductive yw2(K:z3)(vs:Υ)(H:Hp)(Q:VK)(E':XK):Prop
 |mk(t:z4)(ns:Ρ)(_:vs=[.ref t])(_:H t=some (.lst (ns.map V.int)))(_:Sgs ns)(_:ns.length<=1000)(_:∀r H',H r=none->H' r=some (.lst ((dec ns).map V.int))->yr H H'->Q (.ref r) H')
def ykn:vo P w K mg Γ CX0 5 a.Mf a.P5 ["text"] (yw2 K):=by
 exists T.Fj.F.ok,ykt,O;let⟨t,f,rfl,S,Y,hz,k⟩:=h;exists 1,2,yf (yt (i:=1) ykt.nd rfl (Or.inl rfl) (wy ur)) (yf (uk PassesOwn.never rfl (we (uo (yg3 T) O.m T.F0 vw (pa1 (pv 0)))) (vy (i:=2) ykt.nd rfl (Or.inl rfl)) (yf (yu (ug PySem.F.plainAttrs_list PySem.F.slot_list_append PySem.F.type_list_append wk (pv 1) (pa1 yh))) (yc (yu (ug PySem.F.plainAttrs_list PySem.F.slot_list_extend PySem.F.type_list_extend Í (pv 1) (pa1 (xp (yv6 T) O.m T.Qj (pa1 (pv 2))))))))) (yf (yu (ug PySem.F.plainAttrs_list PySem.F.slot_list_append PySem.F.type_list_append wk (pv 1) (pa1 yh))) (yc (yn (pv 1)))));exists by walk_at "len",λr hr0=>?_
 exists hr0,H1,S1,hr1;ext;exists .ref t,_,rfl,.lst (S1 _ _ S),.inr ⟨f.map V.int,Ö (S1 _ _ S) Y hz,λc H2 n u R=>?_⟩;have N:=S1.trans R;refine⟨c,rfl,⟨_,SqL.of u⟩,xx (K:=K) (a:=c) (xs:=f.map V.int) (λi σ2 G=>∃v,σ2=[some (.ref t),some (.ref r),v]/\G r=some (.lst ((ycj (f.take i)).map V.int))/\G c=some (.lst (f.map V.int))/\yr H G)
  ⟨_,rfl,R _ _ hr1,u,N⟩ (by rintro i σ2 G _ ⟨_,_,_,z,_⟩;exact SqL.of z) ?_ ?_⟩
 .rintro i y σ2 G Z ⟨v,rfl,d,j,D⟩;let⟨z,rfl,W,L,a0⟩:=jk Z;have l:c≠r:=λe=>by rw[e,hr1]at n;cases n
  have p:(List.map V.int (ycj (f.take i))).length<=9000:=by rw[ba,δ,bU];omega
  ext;refine u8 d ?_;ext;refine w9 d (vh ()) ?_;have x:yr H (upd G r (.lst (List.map V.int (ycj (f.take i))++[V.int 1]))):=λb o e=>ye (yb e hr0) (D b o e);have B:upd G r (.lst (List.map V.int (ycj (f.take i))++[V.int 1])) c=some (.lst (f.map V.int)):=ye l j;have g:upd G r (.lst (List.map V.int (ycj (f.take i))++[V.int 1])) r=some (.lst (List.map V.int (ycj (f.take i)++[1]))):=by rw[ya,bz];rfl
  generalize upd G r (.lst (List.map V.int (ycj (f.take i))++[V.int 1]))=G1 at x B g⊢;ext;refine u8 g ?_;ext;exists z,rfl,λq G2 a1 I J=>?_;ext;have C:=J _ _ g;exists r,q,_,_,rfl,rfl,C,I,wd (by rw[ba,ba,bd,ypn];rw[ba]at p;show _+1+8<=_;omega),?_;ext;exists _,rfl,?_,?_,λb o e=>ye (yb e hr0) (J _ _ (x b o e))
  .rw[ya,ç L,ybq,ynz,bW];rfl
  .exact ye l (J _ _ B)
 .rintro σ2 G ⟨v,rfl,d,j,D⟩;rw[ba,cg]at d;ext;refine u8 d ?_;ext;refine w9 d (vh (by rw[ba,δ];omega)) ?_;ext;refine k r _ hr0 ?_ λb o e=>ye (yb e hr0) (D b o e);rw[ya,yn5,bz];rfl
#synth yz4 ["self","place"] vcj
inductive ygq(C:z4)(vs:Υ)(H:Hp)(Q:VK)(E':XK):Prop
 |mk(p dx pd:z4)(v1 v2 v3:V)(d:Ρ)(k:Nat)(_:vs=[.ref p,.int k])(_:H p=some (.ins C dx (ylh (.ref pd) v1 v2 v3)))(_:H pd=some (.lst (d.map V.int)))(_:Q (.int ((d[k]?).getD 0)) H)
def yyi:vo P w K mg Γ CX0 1 a.Mh a.P8 ["self","place"] (ygq a.Ai):=by
 exists T.Jh.F.ok,yz4,r;let⟨p,l,o,i,f,q,d,g,rfl,t,e,k⟩:=h;exists 2,0,yc (yn (jp (yx yaw (pv 1) (pcB yp T.A7 (pa1 (yk (pv 0) rfl))) (y9 _)) (xz xf (yk (pv 0) rfl) (pv 1) (λZ Z=>rfl)) yh));refine u5 (SqL.of e) ?_;rw[ba];ext;refine zn (λj=>?_) (λj=>?_)
 .have c:g<d.length:=()
  rw[bc c]at k;ext;exact zr (SqL.of e) (wo (by rw[bi,bc c];rfl)) k
 .rw[bK ()]at k;ext;exact k
#synth yyr ["self"] vdv
inductive yip(C D:z4)(vs:Υ)(H:Hp)(Q:VK)(E':XK):Prop
 |mk(p dx pd ps ds:z4)(d:Ρ)(x:Sn)(r:Nat)(_:vs=[.ref p])(_:H p=some (.ins C dx (ylh (.ref pd) (.ref ps) (.int (rn d r)) (.int r))))(_:H pd=some (.lst (d.map V.int)))(_:H ps=some (.ins D ds (j9 x)))(_:p≠ps)(_:OkS x)(_:r<=sz x)(_:∀H',H' p=some (.ins C dx (ylh (.ref pd) (.ref ps) (.int (rn d (sz x))) (.int x.2.2)))->But p H H'->Q .non H')
def yrt:vo P w K mg Γ CX0 2 a.Mg a.P7 ["self"] (yip a.Ai a.A6):=by
 exists T.Ee.F.ok,yyr,J;let⟨p,f,g,i,t,d,x,r,rfl,q,z,L,l,C,n,k⟩:=h;exists _,(yc (jm PassesOwn.never (yx yaw (yk (pv 0) rfl) (yk (yk (pv 0) rfl) rfl) (y9 _)) (yf (ve (pv 0) (yo wb (yo xg (yk (pv 0) rfl) yh) (xi (pv 0) T.Aq T.Jh.m (yyi T) J.m T.Jh.B .nil vn (pa1 (yk (pv 0) rfl)))) rfl) (yc (ve (pv 0) (yo wb (yk (pv 0) rfl) yh) rfl))))),?_;exists 1,0;have M:=C.sz;exists λm σ' o=>∃r:Nat,σ'=[some (.ref p)]/\o p=some (.ins a.Ai f (ylh (.ref g) (.ref i) (.int (rn d r)) (.int r)))/\r<=sz x/\But p H o/\m=sz x-r,⟨_,r,rfl,q,n,But.refl,rfl⟩,?_;rintro m σ2 N ⟨r,rfl,b,u,c,rfl⟩;have v:N i=some (.ins a.A6 t (j9 x)):=c _ _ L l.symm;have e:=c.lst q z;ext;refine zn (λD=>?_) (λD=>?_)
 .refine ycb ?_;ext;exists p,f,g,_,_,_,d,r,rfl,b,e,?_;ext;exists _,?_,r+1,rfl,?_,(),(c.trans But.upd).trans But.upd,rfl
  .omega
  .rw[ya];rfl
 .have G:r=sz x:=()
  subst G;ext;refine k _ ?_ c;rw[<- M];exact b
#synth yx9 ["self","data"] ven
inductive yht(K:z3)(a:Ads)(vs:Υ)(H:Hp)(Q:VK)(E:XK):Prop
 |mk(p dx:z4)(v:V)(n:String)(_:vs=[.ref p,v])(_:H p=some (.ins a.Ai dx []))(_:uh K H v (.type n))(_:((Bad K H v n 12000/\∀H',yr H H'->E (.ref a.Hs) none H')\/∃d:Ρ,veu K H v (d.map V.int) 12000/\∀pd ps ds H',H pd=none->H ps=none->yg6 a H' p dx pd ps ds d s0->But p H H'->Q .non H'))
def yyg:vo P w K mg Γ (CXe P w) 5 a.Gm a.P6 ["self","data"] (yht K a):=by
 exists T.Qk.F.okE,yx9,J;let⟨p,j,v,n,rfl,U,ty,h⟩:=h;exists 2,0,yf (ve (pv 0) (uo (vfn T) J.m T.Si yv (pa1 (pv 1))) rfl) (yf (ve (pv 0) (zw T.Ke (yrg T) J.m rfl T.Kd T.J3.B .nil vn) rfl) (yf (ve (pv 0) yh rfl) (yf (ve (pv 0) yh rfl) (yc (yu (vj (pv 0) T.Aq T.Ee.m (yrt T) J.m T.Ee.B .nil vn))))));exists v,n,rfl,ty,?_;rcases h with⟨Z,k⟩|⟨d,Y,k⟩
 .exact .inl ⟨Z,k⟩
 .refine .inr ⟨d.map V.int,Y,λg C q L R=>?_⟩;have a2:=R _ _ U;have f:g≠p:=λz=>by rw[z,U]at q;cases q
  ext;have M:But p H (upd C p (.ins a.Ai j ([("data",V.ref g)]:Ι))):=(But.of R).trans But.upd;have r:upd C p (.ins a.Ai j ([("data",V.ref g)]:Ι)) p=some (.ins a.Ai j ([("data",V.ref g)]:Ι)):=ya;have u:upd C p (.ins a.Ai j ([("data",V.ref g)]:Ι)) g=some (.lst (d.map V.int)):=ye f L;generalize upd C p (.ins a.Ai j ([("data",V.ref g)]:Ι))=H2 at M r u⊢;intro t O i nds ne;exists t,O,rfl,ya,λW y B3=>⟨rfl,?_⟩;have D:yr H2 W:=λb o e=>B3 b o (by rw[ym (yb e i),ym (yb e nds)];exact e) (yb e i);have a1:=D _ _ r;have x:=D _ _ u;have c:p≠t:=yb r i
  have I:H t=none:=by
   cases e:H t with
   |none=>rfl
   |some o=>exact absurd (M _ _ e c.symm) (by rw[i];exact λz=>nomatch z)
  ext;exists p,j,g,t,O,d,s0,0,rfl,ya,?_,?_,c,vgu,bJ _,λS G B4=>?_
  .exact ye f (ye f (ye f x))
  .exact ye c.symm (ye c.symm (ye c.symm y))
  .ext;have l:But p W S:=((But.upd.trans But.upd).trans But.upd).trans B4;exact k g t O S q I ⟨G,l _ _ x f,l _ _ y c.symm,c⟩ ((M.trans (But.of D)).trans l)
#synth yqg ["self","chance","bit"] ["self","chance"] vdl
inductive ymh(K:z3)(a:Ads)(vs:Υ)(H:Hp)(Q:VK)(E:XK):Prop
 |mk(p dx pd ps ds:z4)(d:Ρ)(x:Sn)(v:V)(n:String)(_:vs=[.ref p,v])(_:yg6 a H p dx pd ps ds d x)(_:OkS x)(_:uh K H v (.type n))(_:(chV v=false->E (.ref a.Ev) none H))(_:∀c:Int,v=.int c->Ch c->∀H',yg6 a H' p dx pd ps ds d (nar x c (Ā d x c))->yll p ps H H'->Q (.int (Ā d x c)) H')
def vaj{x:Sn}{c b:Int}(h:Ok x)(hc:Ch c):sz x<=sz (nar x c b):=by
 let⟨r,e⟩:=vcr (if b=1 then x.1 else x.1+cut x.2.1 c) (if b=1 then cut x.2.1 c else x.2.1-cut x.2.1 c) x.2.2
 have a:nar x c b=ren (if b=1 then x.1 else x.1+cut x.2.1 c) (if b=1 then cut x.2.1 c else x.2.1-cut x.2.1 c) x.2.2:=by
  unfold nar
  split<;>rfl
 rw[a,e];unfold sz;dsimp only;omega
def yx6:vo P w K mg Γ (CXe P w) 5 a.Mi a.P9 ["self","chance"] (ymh K a):=by
 exists T.Ji.F.okE,yqg,C;let⟨p,I,J,o,q,d,x,v,n,rfl,j,u,ty,k1,k⟩:=h;exists 2,1,yf (yu (uo (yvg T) C.m T.Kr yv (pa1 (pv 1)))) (yf (Ĭ (yt (i:=2) yqg.nd rfl (Or.inl rfl) (jp (yx yaw (yk (pv 0) rfl) (yo wb (yk (yk (pv 0) rfl) rfl) (xi (yk (pv 0) rfl) T.Ae T.Ea.m (yrq T) C.m T.Ea.B .nil vn (pa1 (pv 1)))) (y9 _)) yh yh))) (yf (yu (y8 (yk (pv 0) rfl) T.Ae T.Eb.m (yol T) C.m T.Eb.B .nil yv (pac (pv 1) (pa1 (pv 2))))) (yf (yu (vj (pv 0) T.Aq T.Ee.m (yrt T) C.m T.Ee.B .nil vn)) (yc (yn (pv 2))))));exists v,n,rfl,ty,λhv=>?_,k1;let⟨c,rfl,S,Y⟩:=ydq hv;have t:Ch c:=⟨S,Y⟩;have k:=k c rfl t;have L:=j.me;have e:=j.sp;ext;refine yob (λσ' R=>σ'=[some (.ref p),some (.int c),some (.int (Ā d x c))]/\H=R) ?_ ?_
 .ext;exists o,q,_,rfl,e,lkN _ (by right) (by right) (by right),?_;ext;exists o,q,x,c,rfl,e,t,?_;ext;unfold Ā;refine zn (λy=>?_) (λy=>?_)
  .rw[if_pos y];ext;exists rfl,rfl
  .rw[if_neg y];ext;exists rfl,rfl
 .rintro σ' R ⟨rfl,rfl⟩;have G:=ſ d x c;generalize y:Ā d x c=b at G k⊢;ext;exists o,q,_,rfl,e,lkN _ (by right) (by right) (by right),?_;ext;exists o,q,x,.int c,.int b,_,_,rfl,e,u.ok,.int c,.int b,(λz=>by rw[ycf t]at z;cases z),(λF z=>by rw[yaq () ()]at z;cases z),λc' b' W U F F F Z r D=>?_;obtain rfl:c=c':=V.int.inj W;obtain rfl:b=b':=V.int.inj U;have f:=D _ _ L j.ne;have g:=D.lst e j.dt;ext;have l:Z p=some (.ins a.Ai I (ylh (.ref J) (.ref o) (.int (rn d (sz x))) (.int ((sz x:Nat):Int)))):=by rw[u.sz];exact f
  exists p,I,J,o,q,d,nar x c b,sz x,rfl,l,g,r,j.ne,ydp u t,vaj u.ok t,λH2 O M=>?_;ext;exact k H2 ⟨O,M.lst f g,M _ _ r j.ne.symm,j.ne⟩ (D.two'.trans M.two)
#synth vax ["self"] vc6
inductive yio(a:Ads)(vs:Υ)(H:Hp)(Q:VK)(E':XK):Prop
 |mk(p dx pd ps ds:z4)(d:Ρ)(x:Sn)(_:vs=[.ref p])(_:yg6 a H p dx pd ps ds d x)(_:OkS x)(_:sz x<=tMx)(_:∀t H',H t=none->H' t=some (.lst ((tL x).map V.int))->yr H H'->Q (.ref t) H')
def yw9:vo P w K mg Γ CX0 4 a.Mj a.Pa ["self"] (yio a):=by exists T.Jj.F.ok,vax,q;let⟨p,l,t,c,f,d,x,rfl,g,i,j,k⟩:=h;have r:=g.me;have b:=g.sp;exists 1,0,yc (yn (vj (yk (pv 0) rfl) T.Ae T.Ec.m (yo1 T) q.m T.Ec.B .nil vn));exists c,f,_,rfl,b,lkN _ (by right) (by right) (by right),?_;ext;exists c,f,x,rfl,b,i,j,k
#synth yyy ["thing"] vbu
def ybj(K:z3):Sp:=λvs H Q Z=>(vs=[.non]/\∀r H',H r=none->H' r=some (.lst [])->yr H H'->Q (.ref r) H')\/∃(l:z4)(n:Nat)(tx:Μ)(tt:Λ),vs=[.ref l]/\H l=some (.lst (refs tx n))/\n<=1000/\(∀i,i<n->j8 H (tx i) (tt i) 1000)/\
 ∀r(cx:Μ)H',H r=none->H' r=some (.lst (refs cx n))->(∀i,i<n->H (cx i)=none/\H' (cx i)=some (.lst ((tt i).map V.int)))->yr H H'->Q (.ref r) H'
def ypg:vo P w K mg Γ CX0 5 a.Ml a.Pb ["thing"] (ybj K):=by
 refine T.Jk.F.ok yyy (λX H Q E h=>?_) (λZ A R s H X Q E W h=>?_)
 .rcases h with⟨rfl,_⟩|⟨l,n,v,J,rfl,_⟩<;>rfl
 .rcases h with⟨rfl,k⟩|⟨l,n,v,J,rfl,N,hn,ht,k⟩
  .exists _,(yf (v9 (yx Ś (pv 0) uy (y9 _)) (yc (yn (wy ur))) y7) (yf (v9 (xt (xy (pcB wn T.A5 (pac (pv 0) (pa1 (jj (T:="list") rfl T.Ad (by right))))))) (yc Ò) y7) (yc (yn (vx (js:=[]) (ys:=[]) rfl (we (pv 0)) (λC s2 H2 Y=>(uo (yg3 T) W.m T.F0 vw (pa1 (pv 0)))) rfl rfl (hyc:=yy) (hrel:=yy)))))),?_;refine yj (σ':=[some _]) rfl ?_;ext;refine vfm ?_;ext;exists by walk_at "len",λr q=>?_
   exact k r _ q ya (yz q)
  .exists _,(yf (v9 (yx Ś (pv 0) uy (y9 _)) (yc (yn (wy ur))) y7) (yf (v9 (xt (xy (pcB wn T.A5 (pac (pv 0) (pa1 (jj (T:="list") rfl T.Ad (by right))))))) (yc Ò) y7) (yc (yn (vx (js:=[]) (ys:=[]) rfl (we (pv 0)) (λC s2 H2 Y=>(uo (yg3 T) W.m T.F0 vw (pa1 (pv 0)))) rfl rfl (hyc:=yy) (hrel:=yy)))))),?_;refine yj (σ':=[some _]) rfl ?_;ext
   refine ydu (λz=>nomatch z) ?_
   ext;refine à (.lst N) (yeb _ _) ?_;ext;exists l,rfl,⟨_,SqL.of N⟩,λD I=>?_;refine zf (K:=K) (xs:=refs v n) (λi G=>∃f:Μ,G D=some (.lst (refs f i))/\(∀j,j<i->H (f j)=none/\G (f j)=some (.lst ((J j).map V.int))/\f j≠D)/\yr H G)
    ⟨λZ=>0,ya,λj x=>absurd x (bD j),yz I⟩ (by rintro i G _ ⟨_,_,_,S⟩;exact SqL.of (S _ _ N)) (λi y G hy B z=>?_) (λG z=>?_)
   .obtain⟨f,u,t,S⟩:=z;let⟨rfl,M⟩:=uw hy;have d:=(ht i M).same S;ext;exists .ref (v i),_,rfl,.lst d.l,.inr ⟨(J i).map V.int,Ö d.l d.s d.z,λc G2 p L O=>?_⟩;have U:c≠D:=(yb u p).symm;refine x8 (n:=(refs v n).length) (O _ _ u) (vh (by rw[vi];omega)) B ?_;exists upN f i c,?_,λj x=>?_,λb o e=>ye (yb e I) (O _ _ (S b o e))
    .rw[ya,x0,wq]
     congr 3
     exact xv λj x=>(wj x).symm
    .by_cases z:j=i
     .rw[z,wq];exists S.free p,ye U L,U
     .have g:j<i:=()
      rw[wj g];let⟨g1,g2,g3⟩:=t j g;exists g1,ye g3 (O _ _ g2),g3
   .obtain⟨f,u,t,S⟩:=z;rw[vi]at u t;exact k D f G I u (λi B=>⟨(t i B).1,(t i B).2.1⟩) S
def ybl{H:Hp}{lx:V}{N w:Nat}{lt:Μ}{tt:Λ}{Q:VK}{E:XK}(h:yvw H lx N w lt tt)(hw:w<=1000)(hN:N<=1000)
  (k:∀r(cx:Μ)H',H r=none->H' r=some (.lst (refs cx N))->(∀i,i<N->H (cx i)=none/\H' (cx i)=some (.lst ((tt i).map V.int)))->yr H H'->Q (.ref r) H'):ybj K [lx] H Q E:=by
 obtain⟨⟨rfl,rfl⟩|⟨e,rfl,f⟩,b⟩:=h
 .exact .inl ⟨rfl,λr H' d c S=>k r (λZ=>0) H' d c (λi a=>absurd a (bD i)) S⟩
 .exact .inr ⟨e,N,lt,tt,rfl,f,hN,λi a=>⟨(b i a).l,(b i a).s,bF (b i a).z hw⟩,k⟩
structure vii(H H':Hp)(r:z4)(m:Nat)(tu cl:Μ)(mx:Nat->Int)(cs:Λ)(bt:Nat->Int):Prop where
 r0:H r=none
 r:H' r=some (.lst (refs tu m))
 t:∀j,j<m->H' (tu j)=some (.tup [.int (mx j),.ref (cl j),.int (bt j)])
 c:∀j,j<m->H (cl j)=none/\H' (cl j)=some (.lst ((cs j).map V.int))
#synth yke ["foreteller","texts","text","bit"] ["foreteller","texts"] vdf
inductive yl9(K:z3)(a:Ads)(vs:Υ)(H:Hp)(Q:VK)(E':XK):Prop
 |mk(p:z4)(A:FA)(X:FX)(f:Α)(O:Β)(m:Nat)(tl:z4)(n w:Nat)(tx:Μ)(tt:Λ)(_:vs=[.ref p,.ref tl])(_:zb K a H p A X f O m)(_:X.sg=[])(_:X.nd=0)(_:H tl=some (.lst (refs tx n)))(_:tl≠A.el)(_:(∀i,i<n->j8 H (tx i) (tt i) w/\tx i≠A.el))(_:w<=1000)(_:m+6*(n*(9*w+1))+20<1000000)(_:∀(ml el pl:z4)(sl:Μ)(f':Α)(O':Β)(m':Nat)(H':Hp),zb K a H' p (A.re ml el pl sl) (X.run A (j3 tt n)) f' O' m'->m'<=m+6*(n*(9*w+1))->FGo p A O H H' el O'->(X.run A (j3 tt n)).sg=[]->(X.run A (j3 tt n)).nd=0->Q .non H')
def yqr:vo P w K mg Γ CX0 7 a.Mm a.Pe ["foreteller","texts"] (yl9 K a):=by
 exists T.Jl.F.ok,yke,hr;let⟨p,c,X,f,O,m,tl,n,w,tx,d,rfl,hF,ab,a8,a4,af,ah,hw,hm,k⟩:=h;exists 2,2,yc (uk PassesOwn.never rfl (we (pv 1)) (vy (i:=2) yke.nd rfl (Or.inl rfl)) (yc (uk PassesOwn.never rfl (we (xp (ykn T) hr.m T.Fj (pa1 (pv 2)))) (vy (i:=3) yke.nd rfl (Or.inl rfl)) (yc (yu (xi (pv 0) T.A8 T.Bz.m (yfo T) hr.m T.Bz.B .nil vn (pa1 (pv 3))))))));refine⟨tl,rfl,⟨_,SqL.of a4⟩,xx (K:=K) (a:=tl) (xs:=refs tx n) (λi σ2 G=>∃(v1 M:Ψ)(Z u Y:z4)(W:Μ)(f':Α)(O':Β)(m':Nat),σ2=[some (.ref p),some (.ref tl),v1,M]/\zb K a G p (c.re Z u Y W) (X.run c (j3 d i)) f' O' m'/\m'<=m+6*(i*(9*w+1))/\FGo p c O H G u O'/\(X.run c (j3 d i)).sg=[]/\(X.run c (j3 d i)).nd=0)
  ⟨_,_,c.ml,c.el,c.pl,c.sl,f,O,m,rfl,hF,Nat.le_add_right _ _,FGo.refl,ab,a8⟩ (by rintro i σ2 G _ ⟨_,_,_,_,_,_,_,_,_,_,_,_,go,_,_⟩;exact SqL.of ((go.kpa hF).lst a4 af)) ?_ ?_⟩
 .rintro i y σ2 G hy ⟨v1,M,Z,u,Y,W,f1,O1,m1,rfl,q,S,r,o,g⟩;let⟨rfl,a1⟩:=uw hy;let⟨R,aa⟩:=ah i a1;have a3:=(r.kpa hF).lst R.l aa;have N:=R.s;have hz:=R.z
  have a5:i*(9*w+1)+(9*w+1)<=n*(9*w+1):=by
   have:(i+1)*(9*w+1)<=n*(9*w+1):=Nat.mul_le_mul_right _ a1;rw[Nat.add_mul,Nat.one_mul]at this;exact this
  have ar:=xr (d i);ext;exists tx i,d i,rfl,a3,N,(),λbt G1 a0 t S1=>?_
  have x:=q.same S1;have am:bt≠u:=(yb q.el a0).symm;refine⟨bt,rfl,⟨_,SqL.of t⟩,xx (K:=K) (a:=bt) (xs:=(dec (d i)).map V.int) (λj σ2 G'=>∃(M:Ψ)(ml' el' pl':z4)(sl':Μ)(f':Α)(O':Β),σ2=[some (.ref p),some (.ref tl),some (.ref (tx i)),M]/\zb K a G' p (c.re ml' el' pl' sl') ((X.run c (j3 d i)).run c ((dec (d i)).take j)) f' O' (m1+6*j)/\FGo p (c.re Z u Y W) O1 G1 G' el' O'/\TxE (d i) j ((X.run c (j3 d i)).run c ((dec (d i)).take j)).sg ((X.run c (j3 d i)).run c ((dec (d i)).take j)).nd)
   ⟨_,Z,u,Y,W,f1,O1,rfl,x,FGo.refl,.inl ⟨bJ _,by show yaz _ _ (X.run c (j3 d i)).sg (X.run c (j3 d i)).nd;rw[o,g];exact yaz.zero _⟩⟩ (by rintro j σ2 G' _ ⟨_,_,_,_,_,_,_,_,_,go,_⟩;exact SqL.of ((go.kpa x).lst t am)) ?_ ?_⟩
  .rintro j y σ3 G' hy ⟨M,D,I,L,J,f2,O2,rfl,e,C,U⟩;let⟨b,rfl,ae,hb,hj⟩:=jk hy;let⟨b0,b1⟩:=jq _ b ae;let⟨a2,ak⟩:=U.next N hb;let⟨aj,aq⟩:=a2.nd N;have au:=a2.len;have as:=e.me;ext;exists p,c.re D I L J,_,f2,O2,m1+6*j,b,rfl,e,b0,b1,(),aj,(),λac an al ai f3 O3 G3 a7 a6 ag ad a9 F=>?_
   ext;have n6:=e.n6;exists _,ac,an,al,ai,f3,O3,rfl,?_,C.trans ⟨a7,ag,ad,a9⟩,?_
   .rw[zv hb];exact a6.up (by show m1+6*j+c.n<=_;have:c.n<=6:=n6;omega)
   .rw[zv hb];exact ak
  .rintro σ3 G' ⟨M,D,I,L,J,f2,O2,rfl,e,C,U⟩;rw[ba]at e U;rw[cg]at e U;have er:X.run c (j3 d (i+1))=(X.run c (j3 d i)).run c (dec (d i)):=Á c _ _ X;rw[<- er]at e U
   have v:(X.run c (j3 d (i+1))).sg=[]/\(X.run c (j3 d (i+1))).nd=0:=by
    rcases U with⟨h,_⟩|⟨_,h⟩
    .omega
    .exact h
   ext;exists _,_,D,I,L,J,f2,O2,_,rfl,e,by rw[Nat.add_mul,Nat.one_mul];omega,r.trans (FGo.ahead S1 C),v.1,v.2
 .rintro σ2 G ⟨v1,M,Z,u,Y,W,f1,O1,m1,rfl,q,S,r,o,g⟩;rw[vi]at q S o g;ext;exact k Z u Y W f1 O1 m1 G q S r o g
#synth ycd ["looks","text","learned","foreteller","bits","rows","bit"] ["looks","text","learned"] vbf
inductive ytn(K:z3)(a:Ads)(vs:Υ)(H:Hp)(Q:VK)(E':XK):Prop
 |mk(L tx:z4)(lx:V)(n:Nat)(lk:Μ)(kd:Ξ)(tp:Μ)(ps:Λ)(ts:Ρ)(N w:Nat)(lt:Μ)(tt:Λ)(_:vs=[.ref L,.ref tx,lx])(_:vew H L tx lx n lk kd tp ps ts N w lt tt)(_:∀r(tu cl:Μ)H',vii H H' r (dec ts).length tu cl (zt n kd ps (j3 tt N) ts) (fCs n kd ps (j3 tt N) ts) (vv ts)->(∀k,k<(dec ts).length->Ch (zt n kd ps (j3 tt N) ts k)/\WOk n (fX n kd ps (j3 tt N) ts k).ws/\COk n (fCs n kd ps (j3 tt N) ts k))->(∀i j,i<(dec ts).length->j<(dec ts).length->i≠j->cl i≠cl j)->yr H H'->Q (.ref r) H')
def ywt:vo P w K mg Γ CX0 8 a.Mn a.Pf ["looks","text","learned"] (ytn K a):=by
 exists T.Ql.F.ok,ycd,hr;let⟨L,tx,lx,n,lk,kd,tp,ps,u,N,w,lt,tt,rfl,q,k⟩:=h;have aA:=q.b;have n1:=q.n1;have n6:=q.n6;refine yg (yt (i:=3) ycd.nd rfl (Or.inl rfl) (ux T.Ku (yfm T) hr.m rfl T.Kt T.Ed.B .nil vw (pa1 (pv 0)))) ?_;refine yg (yt (i:=4) ycd.nd rfl (Or.inl rfl) (xp (ykn T) hr.m T.Fj (pa1 (pv 1)))) ?_;refine yg (yu (xp (yqr T) hr.m T.Jl (pac (pv 3) (pa1 (xp (ypg T) hr.m T.Jk (pa1 (pv 2))))))) ?_;refine yg (yt (i:=5) ycd.nd rfl (Or.inl rfl) (wy ur)) ?_;refine yg (uk PassesOwn.never rfl (we (pv 4)) (vy (i:=6) ycd.nd rfl (Or.inl rfl)) (yf (yu (ug PySem.F.plainAttrs_list PySem.F.slot_list_append PySem.F.type_list_append wk (pv 5) (pa1 (uq (pac (vj (pv 3) T.A8 T.Cv.m (ykq T) hr.m T.Cv.B .nil vn) (pac (vj (pv 3) T.A8 T.Cu.m (ykm T) hr.m T.Cu.B .nil vn) (pa1 (pv 6)))))))) (yc (yu (xi (pv 3) T.A8 T.Bz.m (yfo T) hr.m T.Bz.B .nil vn (pa1 (pv 6))))))) ?_;exists 3,4,yc (yn (pv 5));intro p dp np aN b3;have S0:yr H (upd (upd H dp (.own p)) p (.ins a.A3 dp [])):=λb o e=>by rw[ym (yb e np),ym (yb e aN)];exact e
 exists p,dp,.ref L,rfl,ya,.inr ⟨L,n,lk,kd,tp,ps,rfl,S0 _ _ q.l,n1,n6,q.r.same S0,λA f O H1 N1 B1=>⟨rfl,?_⟩⟩;let⟨an,rfl,rfl,rfl,rfl,oO,oB,oM,oL⟩:=N1;have S1:yr H H1:=λb o e=>B1 b o (S0 b o e) (yb e np);have X:∀{c:z4},upd (upd H dp (.own p)) p (.ins a.A3 dp []) c=none->H c=none:=λh=>S0.free h;have ay:H A.el=none:=X (oL A.el (.inr (.inl rfl)));ext;exists tx,u,rfl,S1 _ _ q.t.l,q.t.s,q.t.z,λbt H2 ah aa S2=>?_;have a9:=S1.trans S2;have U:=an.same S2;have aq:bt≠A.el:=(yb an.el ah).symm;ext;refine ybl (q.lr.same a9) q.w1 q.N1 λaS cx H3 h0 h3 hx S3=>?_;ext;exists p,A,FX0 A.n A.kd,f,O,6,aS,N,w,cx,tt,rfl,U.same S3,rfl,rfl,h3,(yb U.el h0).symm,λi g=>⟨⟨(hx i g).2,(q.lr.2 i g).s,(q.lr.2 i g).z⟩,(yb U.el (hx i g).1).symm⟩,q.w1,(),λml el pl sl f1 O1 m1 H4 a3 aG a4 ap am=>?_
 have a4:=FGo.ahead S3 a4;have a3:=a3.up aG;have ao:=(a4.kpa U).lst aa aq;have aZ:=xr u;have aY:=q.t.z;have av:=q.t.s;generalize hX:(FX0 A.n A.kd).run A (j3 tt N)=x at a3 ap am;generalize hM:6+6*(N*(9*w+1))=M at a3 aA;ext;exists by walk_at "len",λR hR0=>?_
 exists hR0,H5,S5,hR5;have ai:H2 R=none:=a4.free hR0;ext;refine⟨bt,rfl,⟨_,SqL.of (S5 _ _ ao)⟩,xx (K:=K) (a:=bt) (xs:=(dec u).map V.int) (λj σ2 G=>∃(v:Ψ)(ml el pl:z4)(sl:Μ)(f':Α)(O':Β)(W cl:Μ),σ2=[some (.ref L),some (.ref tx),some lx,some (.ref p),some (.ref bt),some (.ref R),v]/\
   zb K a G p (A.re ml el pl sl) (x.run A ((dec u).take j)) f' O' (M+6*j)/\FGo p A O H2 G el O'/\TxE u j (x.run A ((dec u).take j)).sg (x.run A ((dec u).take j)).nd/\(G R=some (.lst (refs W j))/\R≠el)/\
   (∀i,i<j->G (W i)=some (.tup [.int (ylc (x.run A ((dec u).take i)).ws ((x.run A ((dec u).take i)).cs A)),.ref (cl i),.int (vv u i)])/\G (cl i)=some (.lst (((x.run A ((dec u).take i)).cs A).map V.int))/\cl i≠el/\H2 (cl i)=none/\cl i≠R)/\
   (∀i,i<j->WOk A.n (x.run A ((dec u).take i)).ws/\COk A.n ((x.run A ((dec u).take i)).cs A))/\(∀i l,i<j->l<j->i≠l->cl i≠cl l))
  ⟨_,ml,el,pl,sl,f1,O1,λF=>0,λF=>0,rfl,a3.same S5,a4.same S5,.inl ⟨bJ _,by show yaz _ _ x.sg x.nd;rw[ap,am];exact yaz.zero _⟩,⟨hR5,(yb a3.el hR0).symm⟩,λi g=>absurd g (bD i),λi g=>absurd g (bD i),λi F g=>absurd g (bD i)⟩
  (by rintro j σ2 G _ ⟨_,_,_,_,_,_,_,_,_,_,_,go,_⟩;exact SqL.of ((go.kpa U).lst aa aq)) ?_ ?_⟩
 .rintro j y σ2 G hy ⟨v,a1,S,a0,a2,f2,O2,W,cl,rfl,hF,go,hT,⟨hR,nR⟩,d,Y,Z⟩;let⟨b,rfl,aB,hb,hj⟩:=jk hy;let⟨b0,b1⟩:=jq _ b aB;let⟨ak,aI⟩:=hT.next av hb;let⟨aH,aX⟩:=ak.nd av;have b2:=ak.len;have aL:vv u j=b:=by unfold vv;rw[hb];rfl
  have aO:=hF.me;ext;refine u8 hR ?_;ext;exists p,A.re a1 S a0 a2,_,f2,O2,_,rfl,hF,λG1 T1=>?_;have aT:=T1 _ _ aO;ext;exists p,A.re a1 S a0 a2,_,f2,O2,_,rfl,hF.same T1,λc G2 a7 aP T2=>?_;ext;exists by walk_at "len",λt ht0=>?_
  exists ht0,G3,T3,ht3;have I:=T1.trans (T2.trans T3);ext;refine w9 (I _ _ hR) (vh (by rw[vi];omega)) ?_;have ag:=hF.same I;have a6:=I _ _ hR;have J:zb K a (upd G3 R (.lst (refs W j++[V.ref t]))) p (A.re a1 S a0 a2) (x.run A ((dec u).take j)) f2 O2 (M+6*j):=ag.app a6 (ag.notR a6 (λi g=>⟨_,I _ _ (d i g).1,rfl⟩) nR);have ab:FGo p A O H2 (upd G3 R (.lst (refs W j++[V.ref t]))) S O2:=(go.same I).app ai;have aw:c≠R:=(yb (T1 _ _ hR) a7).symm;have as:c≠S:=(yb (hF.same T1).el a7).symm;have ad:upd G3 R (.lst (refs W j++[V.ref t])) c=some (.lst (((x.run A ((dec u).take j)).cs A).map V.int)):=ye aw (T3 _ _ aP);have af:upd G3 R (.lst (refs W j++[V.ref t])) t=some (.tup [.int (ylc (x.run A ((dec u).take j)).ws ((x.run A ((dec u).take j)).cs A)),.ref c,.int b]):=ye (w8 ht3 a6 (by intro z;cases z)) ht3
  have ae:upd G3 R (.lst (refs W j++[V.ref t])) R=some (.lst (refs (upN W j t) (j+1))):=by
   rw[ya,x0,wq]
   congr 3
   exact xv λi g=>(wj g).symm
  have hold:∀i,i<j->upd G3 R (.lst (refs W j++[V.ref t])) (W i)=some (.tup [.int (ylc (x.run A ((dec u).take i)).ws ((x.run A ((dec u).take i)).cs A)),.ref (cl i),.int (vv u i)])/\upd G3 R (.lst (refs W j++[V.ref t])) (cl i)=some (.lst (((x.run A ((dec u).take i)).cs A).map V.int)):=λi g=>⟨ye (w8 (I _ _ (d i g).1) a6 (by intro z;cases z)) (I _ _ (d i g).1),ye (d i g).2.2.2.2 (I _ _ (d i g).2.1)⟩;have a8:H2 c=none:=go.free (T1.free a7);have a5:∀i,i<j->cl i≠c:=λi g=>yb (T1 _ _ (d i g).2.1) a7;have al:=hF.wok;have au:=hF.cok;generalize upd G3 R (.lst (refs W j++[V.ref t]))=G4 at J ab ad af ae hold⊢;have aV:=J.me;ext;have aU:=hF.n6;exists p,A.re a1 S a0 a2,_,f2,O2,M+6*j,b,rfl,J,b0,b1,(),aH,(),λaz ax aJ aF f3 O3 G5 aD aC aK aM aQ F=>?_
  have aj:FGo p (A.re a1 S a0 a2) O2 G4 G5 ax O3:=⟨aD,aK,aM,aQ⟩;have D:=aj.kpa J;have ac:=J.el;ext;exists _,az,ax,aJ,aF,f3,O3,upN W j t,upN cl j c,rfl,?_,ab.trans aj,?_,⟨(D _ _ ae rfl nR).2,(D _ _ ae rfl nR).1⟩,λi g=>?_,λi g=>?_,λi l g hl aE=>?_
  .rw[zv hb];exact aC.up (by show M+6*j+A.n<=_;omega)
  .rw[zv hb];exact aI
  .by_cases z:i=j
   .rw[z,wq,wq,aL];exists(D _ _ af rfl (w8 af ac (by intro z;cases z))).2,(D _ _ ad rfl as).2,(D _ _ ad rfl as).1,a8,aw
   .have C:i<j:=()
    rw[wj C,wj C];let⟨o1,o2⟩:=hold i C;let⟨_,_,r3,r4,r5⟩:=d i C;exists(D _ _ o1 rfl (w8 o1 ac (by intro z;cases z))).2,(D _ _ o2 rfl r3).2,(D _ _ o2 rfl r3).1,r4,r5
  .by_cases z:i=j
   .rw[z];exists al,au
   .exact Y i ()
  .by_cases z:i=j
   .have ar:l<j:=()
    rw[z,wq,wj ar];exact(a5 l ar).symm
   .have C:i<j:=()
    rw[wj C];by_cases z2:l=j
    .rw[z2,wq];exact a5 i C
    .rw[wj ()];exact Z i l C () aE
 .rintro σ2 G ⟨v,a1,S,a0,a2,f2,O2,W,cl,rfl,hF,go,hT,⟨hR,nR⟩,d,Y,Z⟩;rw[ba]at d Y Z;rw[ba]at hR
  have eX:∀i,fX A.n A.kd A.ps (j3 tt N) u i=x.run A ((dec u).take i):=λi=>by
   unfold fX;rw[<- Ã,<- Ã,hX]
  ext;refine k R W cl G ⟨a9.free ai,hR,λi g=>?_,λi g=>⟨a9.free (d i g).2.2.2.1,?_⟩⟩ (λi g=>⟨?_,?_,?_⟩) Z ?_
  .rw[(d i g).1];unfold zt;rw[eX];rfl
  .rw[(d i g).2.1];unfold fCs;rw[eX];rfl
  .unfold zt;rw[eX];exact ye9 n1 (Y i g).1 (Y i g).2
  .rw[eX];exact(Y i g).1
  .unfold fCs;rw[eX];exact(Y i g).2
  .intro c o e;refine go.fr c o (a9 _ _ e) (λz=>?_) (λz=>?_) (λz=>?_) (λi g w'=>?_)
   .rw[z,np]at e;cases e
   .rw[z,X oM]at e;cases e
   .rw[z,ay]at e;cases e
   .rw[X (oO i c g w')]at e;cases e
#synth yyl ["looks","text","learned"] vbo
structure viq(H H':Hp)(r:z4)(m:Nat)(tu:Μ)(mx bt:Nat->Int):Prop where
 r0:H r=none
 r:H' r=some (.lst (refs tu m))
 t:∀j,j<m->H' (tu j)=some (.tup [.int (mx j),.int (bt j)])
inductive ymu(K:z3)(vs:Υ)(H:Hp)(Q:VK)(E':XK):Prop
 |mk(L tx:z4)(lx:V)(n:Nat)(lk:Μ)(kd:Ξ)(tp:Μ)(ps:Λ)(ts:Ρ)(N w:Nat)(lt:Μ)(tt:Λ)(_:vs=[.ref L,.ref tx,lx])(_:vew H L tx lx n lk kd tp ps ts N w lt tt)(_:∀r(tu:Μ)H',viq H H' r (dec ts).length tu (zt n kd ps (j3 tt N) ts) (vv ts)->(∀k,k<(dec ts).length->Ch (zt n kd ps (j3 tt N) ts k)/\WOk n (fX n kd ps (j3 tt N) ts k).ws/\COk n (fCs n kd ps (j3 tt N) ts k))->yr H H'->Q (.ref r) H')
def yzd:vo P w K mg Γ CX0 9 a.Gn a.Fe ["looks","text","learned"] (ymu K):=by
 exists T.Qm.ok,yyl,hr;let⟨L,U,Z,n,lk,M,tp,R,c,N,w,lt,I,rfl,F,k⟩:=h;have hz:=F.t.z;have a3:=xr c;exists 3,0,yc (yn (yaa (js:=[]) (ys:=[]) (xs:=["chance","chances","bit"]) (g:=yvx K 3 (zq (xo 0) (zq (xo 1) (zq (xo 2) yle)))) rfl (we (xp (ywt T) hr.m T.Ql (pac (pv 0) (pac (pv 1) (pa1 (pv 2)))))) (λC s2 H2 fp=>(uq (pac (pv 0) (pa1 (pv 2))))) rfl (λC s2 H2 fp=>ù rfl (xa (vy (i:=0) (show List.Nodup ((["chance","chances","bit"]:Τ)++([]:Τ)) by right) rfl (Or.inl rfl)) (xa (vy (i:=1) (show List.Nodup ((["chance","chances","bit"]:Τ)++([]:Τ)) by right) rfl (Or.inl rfl)) (xa (vy (i:=2) (show List.Nodup ((["chance","chances","bit"]:Τ)++([]:Τ)) by right) rfl (Or.inl rfl)) j4)))) rfl (hyc:=yy) (hrel:=yy)));exists L,U,Z,n,lk,M,tp,R,c,N,w,lt,I,rfl,F,λr0 B cl H1 d p C S1=>?_;generalize zt n M R (j3 I N) c=O at d p k;generalize fCs n M R (j3 I N) c=cs at d p k;exists r0,rfl,⟨_,SqL.of d.r⟩,λD W=>?_;refine yf3 (K:=K) (xs:=refs B (dec c).length) (λi G=>∃q:Μ,G D=some (.lst (refs q i))/\(∀j,j<i->G (q j)=some (.tup [.int (O j),.int (vv c j)]))/\yr H1 G) ⟨λC=>0,ya,λj J=>absurd J (bD j),yz W⟩ (by rintro i G _ ⟨_,_,_,S⟩;exact SqL.of (S _ _ d.r)) (λi x G a4 hx hi z v=>?_) (λG z=>?_)
 .obtain⟨q,u,y,S⟩:=z;let⟨rfl,Y⟩:=uw hx;let⟨v1,v2,v3,rfl⟩:=yl6 v;refine ü (SqT.of (S _ _ (d.t i Y))) rfl ?_;show zq (xo 0) (zq (xo 1) (zq (xo 2) yle)) [V.int (O i),V.ref (cl i),V.int (vv c i)] (v1::v2::v3::uz [] [some (V.ref L),some (V.ref U),some Z]) G _;ext;exists⟨[some (.int (O i)),some (.ref (cl i)),some (.int (vv c i))],rfl,rfl⟩,?_;ext;exists by walk_at "len",λt f=>?_
  have X:t≠D:=(yb u f).symm;have a1:=zi (o':=HO.tup [V.int (O i),V.int (vv c i)]) f u;refine x8 (n:=(refs B (dec c).length).length) a1 (vh (by rw[vi];omega)) hi ?_;exists upN q i t,?_,λj J=>?_,λb o e=>ye (yb e W) (zi f (S b o e))
  .rw[ya,x0,wq]
   congr 3
   exact xv λj J=>(wj J).symm
  .by_cases z:j=i
   .rw[z,wq];exact ye X ya
   .have l:j<i:=()
    rw[wj l];exact ye (w8 (y j l) u (by intro z;cases z)) (zi f (y j l))
 .obtain⟨q,u,y,S⟩:=z;rw[vi]at u y;exact k D q G ⟨S1.free W,u,y⟩ p (S1.trans S)
#synth Ŝ ["looks","text","learned","steps","given","chance","bit"] ["looks","text","learned"] vc0
def ï(mx bt:Nat->Int):Nat->Int
 |0=>1
 |j+1=>ï mx bt j*giv (mx j) (bt j)
theorem yac{mx:Nat->Int}:∀(m:Nat),(∀j,j<m->Ch (mx j))->1<=ï mx bt m/\ï mx bt m<=16777216^m
 |0,_=>⟨Int.le_refl 1,by rw[Int.pow_zero];exact Int.le_refl 1⟩
 |m+1,h=>by
  obtain⟨e,d⟩:1<=ï mx bt m/\ï mx bt m<=16777216^m:=yac m λj f=>h j ();let⟨a,c⟩:=h m ();have g1:=ykv (b:=bt m) a c;have g2:=yqx (b:=bt m) a c;show 1<=ï mx bt m*giv (mx m) (bt m)/\ï mx bt m*giv (mx m) (bt m)<=16777216^(m+1);exists ?_,?_
  .have:=Int.mul_le_mul e (show 1<=giv (mx m) (bt m) by omega) () ();simpa using this
  .rw[Int.pow_succ];exact Int.mul_le_mul d () () (Int.le_trans () d)
def ō{x:Int}{m:Nat}(h1:1<=x)(h2:x<=16777216^m):x.natAbs<2^(24*m+1):=by
 have e:(16777216:Int)^m=((2^(24*m):Nat):Int):=by
  rw[Nat.pow_mul];simp
 rw[e]at h2;have:x.natAbs<=2^(24*m):=()
 exact Nat.lt_of_le_of_lt this (Nat.pow_lt_pow_right ∅ ())
noncomputable def yvj(m:Nat)(G:Int):Int:=24*(m:Int)+1-(Builtin.Int.intBits G:Nat)
inductive ys7(K:z3)(vs:Υ)(H:Hp)(Q:VK)(E':XK):Prop
 |mk(L tx:z4)(lx:V)(n:Nat)(lk:Μ)(kd:Ξ)(tp:Μ)(ps:Λ)(ts:Ρ)(N w:Nat)(lt:Μ)(tt:Λ)(_:vs=[.ref L,.ref tx,lx])(_:vew H L tx lx n lk kd tp ps ts N w lt tt)(_:∀H',yr H H'->Q (.int (yvj (dec ts).length (ï (zt n kd ps (j3 tt N) ts) (vv ts) (dec ts).length))) H')
def yoq:vo P w K mg Γ CX0 10 a.Gp a.Ff ["looks","text","learned"] (ys7 K):=by
 exists T.Jm.ok,Ŝ,O;let⟨L,q,C,n,M,D,S,I,c,N,w,R,x,rfl,l,k⟩:=h;have hz:=l.t.z;have a1:=xr c;refine yg (yt (i:=3) Ŝ.nd rfl (Or.inl rfl) (Å (yzd T) O.m rfl T.Sl T.Qm.kp T.Sk .nil vn (pac (pv 0) (pac (pv 1) (pa1 (pv 2)))))) ?_;refine yg (yt (i:=4) Ŝ.nd rfl (Or.inl rfl) yh) ?_;refine yg (uk PassesOwn.never rfl (we (pv 3)) (ù rfl (xa (vy (i:=5) Ŝ.nd rfl (Or.inl rfl)) (xa (vy (i:=6) Ŝ.nd rfl (Or.inl rfl)) j4))) (yc (yt (i:=4) Ŝ.nd rfl (Or.inl rfl) (yo ytf (pv 4) (uo (yo0 T) O.m T.Im vw (pac (pv 5) (pa1 (pv 6)))))))) ?_;exists 3,4,yc (yn (yo zy (yo wb (yo xg (vz rfl T.Ca) (pcB yp T.A7 (pa1 (pv 3)))) yh) (yfl PySem.F.plainAttrs_int PySem.F.slot_int_bit_length PySem.F.type_int_bit_length yi5 (pv 4))));exists L,q,C,n,M,D,S,I,c,N,w,R,x,rfl,l,λr X H1 o d U=>?_;generalize zt n D I (j3 x N) c=mx at o d k;ext;exists r,rfl,⟨_,SqL.of o.r⟩,xx (K:=K) (a:=r) (xs:=refs X (dec c).length) (λi σ2 G=>H1=G/\∃v p:Ψ,σ2=[some (.ref L),some (.ref q),some C,some (.ref r),some (.int (ï mx (vv c) i)),v,p]) ⟨rfl,_,_,rfl⟩ (λi σ2 G F ⟨e,_⟩=>e ▸ SqL.of o.r) ?_ ?_
 .rintro i y σ2 G hy ⟨rfl,v,p,rfl⟩;let⟨rfl,f⟩:=uw hy;have g:=(d i f).1;let⟨W,b1⟩:=yet c i f;have u:=ycf g;have B:=yaq W b1;let⟨p1,p2⟩:=yac (mx:=mx) (bt:=vv c) i λj hj=>(d j ()).1;refine ü (SqT.of (o.t i f)) rfl ?_;ext;exists .int (mx i),_,.int (vv c i),_,rfl,.int _,.int _,λz=>(by rw[u]at z;cases z),λF z=>(by rw[B]at z;cases z),λc' b' Z Y F F=>?_;cases Z;cases Y;have g1:=ykv (b:=vv c i) g.1 g.2;have g2:=yqx (b:=vv c i) g.1 g.2;ext;refine yxl (24*i+25) ?_ ?_ ?_ ?_
  .exact bP (ō p1 p2) (Nat.pow_le_pow_right ∅ ())
  .have:(giv (mx i) (vv c i)).natAbs<2^25:=()
   exact bP this (Nat.pow_le_pow_right ∅ ())
  .omega
  ext;exists rfl,_,_,rfl
 .rintro σ2 G ⟨rfl,v,p,rfl⟩;rw[vi];ext;refine u5 (SqL.of o.r) ?_;rw[vi];ext;exact k _ U
def snK(mx bt:Nat->Int):Nat->Sn
 |0=>s0
 |k+1=>nar (snK mx bt k) (mx k) (bt k)
theorem Ý{mx:Nat->Int}:∀m,(∀j,j<m->Ch (mx j))->OkS (snK mx bt m)/\(snK mx bt m).2.2<=5+2*(m:Int)
 |0,_=>⟨vgu,by show (5:Int)<=5+2*((0:Nat):Int);decide⟩
 |m+1,h=>by
  let⟨a,d⟩:=Ý m λj e=>h j ();exists ydp a (h m ()),?_;have:=yww (c:=mx m) (b:=bt m) a.ok;show (nar (snK mx bt m) (mx m) (bt m)).2.2<=_;omega
theorem Ģ{mx my bu:Nat->Int}:∀m,(∀j,j<m->mx j=my j/\bt j=bu j)->snK mx bt m=snK my bu m
 |0,_=>rfl
 |m+1,h=>by
  show nar (snK mx bt m) (mx m) (bt m)=nar (snK my bu m) (my m) (bu m);rw[Ģ m λj a=>h j (),(h m ()).1,(h m ()).2]
def FGo.but{p:z4}{A:FA}{H H1 H2:Hp}{el:z4}{o':HO}(h:FGo p A O H H1 el O')(hq:H q=none)(B:But q H1 H2)(hq2:H2 q=some o'):FGo p A O H H2 el O' :=
 ⟨h.he,h.hO,λc o e a f b d=>B _ _ (h.fr c o e a f b d) (yb e hq),λc o e=>let ⟨o1,w⟩:=h.live c o e;⟨o1,B _ _ w (yb e hq)⟩⟩
def zb.but{H H':Hp}{p C:z4}{A:FA}{X:FX}{f:Α}{m:Nat}{fs:Ι}(h:zb K a H p A X f O m)(hq:H q=some (.ins C dq fs))(hl:fs.length=3)(nO:∀i,i<A.n->¬O i q)(B:But q H H'):zb K a H' p A X f O m:=by
 refine h.frame (O2:=λc=>c=q) (λc o e g=>B c o e g) (λz=>zl h.me hq (by rw[hl];show ¬(6=3);decide) z) (λz=>zl h.mx.o hq (by rw[hl];show ¬(1=3);decide) z) (λi d z=>zl (h.B.b i d).me hq (by rw[hl];show ¬(2=3);decide) z) (λi c d w z=>nO i d (z ▸ w)) (λl j Z e=>B.lst hq e) (λt j e=>?_);rcases e with(e|⟨o,e⟩)|e
 .exact .inl (.inl (B _ _ e (λz=>by rw[z,hq]at e;cases e)))
 .exact .inl (.inr ⟨o,B _ _ e (λz=>by rw[z,hq]at e;cases e)⟩)
 .exact .inr e
theorem yqj(A:FA)(ml el pl:z4)(sl:Μ):∀(bs:Ρ)(X:FX),X.run (A.re ml el pl sl) bs=X.run A bs
 |[],_=>rfl
 |b::r,X=>yqj A ml el pl sl r (X.see A b)
def yfv(A:FA)(X:FX)(ts:Ρ)(k:Nat):Int:=ylc (X.run A ((dec ts).take k)).ws ((X.run A ((dec ts).take k)).cs A)
#synth ykp ["foreteller","text","span","bit"] ["foreteller","text"] vbl
inductive yem(K:z3)(a:Ads)(vs:Υ)(H:Hp)(Q:VK)(E':XK):Prop
 |mk(p:z4)(A:FA)(X:FX)(f:Α)(O:Β)(m:Nat)(tx:z4)(ts:Ρ)(_:vs=[.ref p,.ref tx])(_:zb K a H p A X f O m)(_:X.sg=[])(_:X.nd=0)(_:j8 H tx ts 1000)(_:tx≠A.el)(_:m+6*(dec ts).length+20<1000000)(_:∀(r ml el pl:z4)(sl:Μ)(f':Α)(O':Β)(m':Nat)(H':Hp),H r=none->H' r=some (.lst ((tL (snK (yfv A X ts) (vv ts) (dec ts).length)).map V.int))->zb K a H' p (A.re ml el pl sl) (X.run A (dec ts)) f' O' m'->m'<=m+6*(dec ts).length->FGo p A O H H' el O'->Q (.ref r) H')
def ykl:vo P w K mg Γ CX0 7 a.Mo a.Pg ["foreteller","text"] (yem K a):=by
 exists T.Fk.F.ok,ykp,hr;let⟨p,c,X,f,O,m,tx,d,rfl,hF,ai,ag,Y,aC,hm,k⟩:=h;have aD:=xr d;have hz:=Y.z;have a0:=Y.s;refine yg (yt (i:=2) ykp.nd rfl (Or.inl rfl) (zw T.Ke (yrg T) hr.m rfl T.Kd T.J3.B .nil vn)) ?_;refine yg (uk PassesOwn.never rfl (we (xp (ykn T) hr.m T.Fj (pa1 (pv 1)))) (vy (i:=3) ykp.nd rfl (Or.inl rfl)) (yf (yu (y8 (pv 2) T.Ae T.Eb.m (yol T) hr.m T.Eb.B .nil vw (pac (vj (pv 0) T.A8 T.Cv.m (ykq T) hr.m T.Cv.B .nil vn) (pa1 (pv 3))))) (yc (yu (xi (pv 0) T.A8 T.Bz.m (yfo T) hr.m T.Bz.B .nil vn (pa1 (pv 3))))))) ?_;exists 2,2,yc (yn (vj (pv 2) T.Ae T.Ec.m (yo1 T) hr.m T.Ec.B .nil vn));intro q W nq ae aH;have SQ:yr H (upd (upd H W (.own q)) q (.ins a.A6 W [])):=λb o e=>by rw[ym (yb e nq),ym (yb e ae)];exact e
 exists q,W,rfl,ya,λH1 ap B1=>⟨rfl,?_⟩;have S1:yr H H1:=λb o e=>B1 b o (SQ b o e) (yb e nq);ext;exists tx,d,rfl,S1 _ _ Y.l,a0,(),λbt H2 a1 S S2=>?_
 have ab:=S1.trans S2;have ax:=hF.same ab;have av:bt≠c.el:=(yb (hF.same S1).el a1).symm
 have aw:∀i,i<c.n->¬O i q:=λi hi w=>by
  let⟨o,ho,_⟩:=(hF.B.b i hi).own q w;rw[nq]at ho;cases ho
 refine⟨bt,rfl,⟨_,SqL.of S⟩,xx (K:=K) (a:=bt) (xs:=(dec d).map V.int) (λj σ2 G=>∃(v:Ψ)(ml el pl:z4)(sl:Μ)(f':Α)(O':Β),σ2=[some (.ref p),some (.ref tx),some (.ref q),v]/\zb K a G p (c.re ml el pl sl) (X.run c ((dec d).take j)) f' O' (m+6*j)/\FGo p c O H G el O'/\TxE d j (X.run c ((dec d).take j)).sg (X.run c ((dec d).take j)).nd/\G q=some (.ins a.A6 W (j9 (snK (yfv c X d) (vv d) j)))/\(∀i,i<c.n->¬O' i q)/\(G bt=some (.lst ((dec d).map V.int))/\bt≠el)/\(∀i,i<j->Ch (yfv c X d i)))
  ⟨_,c.ml,c.el,c.pl,c.sl,f,O,rfl,ax,FGo.refl.same ab,.inl ⟨bJ _,by show yaz _ _ X.sg X.nd;rw[ai,ag];exact yaz.zero _⟩,S2 _ _ ap,aw,⟨S,av⟩,λi hi=>absurd hi (bD i)⟩ (by rintro j σ2 G _ ⟨_,_,_,_,_,_,_,_,_,_,_,_,_,z,_⟩;exact SqL.of z.1) ?_ ?_⟩
 .rintro j y σ2 G hy ⟨v,I,C,D,L,f1,O1,rfl,g,go,hT,u,N,⟨a7,U⟩,M⟩;let⟨b,rfl,am,hb,hj⟩:=jk hy;let⟨b0,b1⟩:=jq _ b am;let⟨a2,as⟩:=hT.next a0 hb;let⟨ar,aB⟩:=a2.nd a0;have aF:=a2.len;have aa:vv d j=b:=by unfold vv;rw[hb];rfl
  have aG:=g.me;have a6:Ch (yfv c X d j):=ye9 g.n1 g.wok g.cok;have ao:=ycf a6;have ak:=yaq b0 b1;let⟨Z,af⟩:=Ý (mx:=yfv c X d) (bt:=vv d) j M;ext;exists q,W,_,rfl,u,lkN _ (by right) (by right) (by right),?_;ext;exists p,c.re I C D L,_,f1,O1,_,rfl,g,λG1 R=>?_;ext;exists q,W,_,.int (yfv c X d j),.int b,_,_,rfl,R _ _ u,Z.ok,.int _,.int _,λz=>(by rw[ao]at z;cases z),λF z=>(by rw[ak]at z;cases z),λc' b' ec eb F F F G2 x B2=>?_;cases ec;cases eb;have t:=(g.same R).but (R _ _ u) rfl N B2;have aj:FGo p c O H G2 C O1:=(go.same R).but nq B2 x;have J:G2 bt=some (.lst ((dec d).map V.int)):=B2.lst (R _ _ u) (R _ _ a7);have aE:=t.me;have n6:=g.n6;ext;exists p,c.re I C D L,_,f1,O1,m+6*j,b,rfl,t,b0,b1,(),ar,(),λal a9 au an f3 O3 G3 ad ac a4 a3 ah F=>?_
  have a8:FGo p (c.re I C D L) O1 G2 G3 a9 O3:=⟨ad,a4,a3,ah⟩;have a5:=a8.kpa t;ext;exists _,al,a9,au,an,f3,O3,rfl,?_,aj.trans a8,?_,?_,λi hi w=>?_,⟨(a5 _ _ J rfl U).2,(a5 _ _ J rfl U).1⟩,λi hi=>?_
  .rw[zv hb];exact ac.up (by show m+6*j+c.n<=_;have:c.n<=6:=n6;omega)
  .rw[zv hb];exact as
  .have e:snK (yfv c X d) (vv d) (j+1)=nar (snK (yfv c X d) (vv d) j) (yfv c X d j) b:=by show nar _ _ (vv d j)=_;rw[aa]
   rw[e];exact a3 _ _ x (zl x t.me (show ¬(3=6) by decide)) (zl x t.mx.o (show ¬(3=1) by decide)) (λz=>by have e:=t.el;rw[<- z,x]at e;cases e) N
  .rcases a4 i q hi w with v|v
   .exact N i hi v
   .rw[x]at v;cases v
  .by_cases z:i=j
   .rw[z];exact a6
   .exact M i ()
 .rintro σ2 G ⟨v,I,C,D,L,f1,O1,rfl,g,go,hT,u,N,_,M⟩;rw[ba]at g u M;rw[cg]at g;let⟨Z,af⟩:=Ý (mx:=yfv c X d) (bt:=vv d) (dec d).length M;ext;exists q,W,_,rfl,u,lkN _ (by right) (by right) (by right),?_;ext;exists q,W,_,rfl,u,Z,by show Int.toNat _<=100000;omega,λr G1 aq ay R=>?_
  exact k r I C D L f1 O1 _ G1 (go.free aq) ay (g.same R) (bf _) (go.same R)
#synth yku ["looks","text","learned","foreteller","signs"] ["looks","text","learned"] vb8
inductive yf5(K:z3)(vs:Υ)(H:Hp)(Q:VK)(E':XK):Prop
 |mk(L tx:z4)(lx:V)(n:Nat)(lk:Μ)(kd:Ξ)(tp:Μ)(ps:Λ)(ts:Ρ)(N w:Nat)(lt:Μ)(tt:Λ)(_:vs=[.ref L,.ref tx,lx])(_:vew H L tx lx n lk kd tp ps ts N w lt tt)(_:ts.length<=1000)(_:∀r H',H r=none->H' r=some (.lst ((tL (snK (zt n kd ps (j3 tt N) ts) (vv ts) (dec ts).length)).map V.int))->yr H H'->Q (.ref r) H')
def ykc:vo P w K mg Γ CX0 8 a.Gq a.Fg ["looks","text","learned"] (yf5 K):=by
 exists T.Fl.ok,yku,W;let⟨L,tx,lx,n,lk,kd,tp,ps,y,N,w,lt,I,rfl,d,Y,k⟩:=h;have a7:=d.b;have n1:=d.n1;have n6:=d.n6;have af:=xr y;refine yg (yt (i:=3) yku.nd rfl (Or.inl rfl) (ux T.Ku (yfm T) W.m rfl T.Kt T.Ed.B .nil vw (pa1 (pv 0)))) ?_;refine yg (yt (i:=4) yku.nd rfl (Or.inl rfl) (uo (yg3 T) W.m T.F0 vw (pa1 (pv 1)))) ?_;refine yg (yu (xp (yqr T) W.m T.Jl (pac (pv 3) (pa1 (xp (ypg T) W.m T.Jk (pa1 (pv 2))))))) ?_;exists 3,2,yc (yn (xp (ykl T) W.m T.Fk (pac (pv 3) (pa1 (pv 4)))));intro p G np a3 ah;have Z:yr H (upd (upd H G (.own p)) p (.ins a.A3 G [])):=λb o e=>by rw[ym (yb e np),ym (yb e a3)];exact e
 exists p,G,.ref L,rfl,ya,.inr ⟨L,n,lk,kd,tp,ps,rfl,Z _ _ d.l,n1,n6,d.r.same Z,λA f O H1 N1 B1=>⟨rfl,?_⟩⟩;let⟨F,rfl,rfl,rfl,rfl,oO,oB,oM,oL⟩:=N1;have S1:yr H H1:=λb o e=>B1 b o (Z b o e) (yb e np);have g:∀{c:z4},upd (upd H G (.own p)) p (.ins a.A3 G []) c=none->H c=none:=λh=>Z.free h;have X:H A.el=none:=g (oL A.el (.inr (.inl rfl)));ext;exists .ref tx,_,rfl,.lst (S1 _ _ d.t.l),.inr ⟨y.map V.int,Ö (S1 _ _ d.t.l) d.t.s d.t.z,λsg H2 S U S2=>?_⟩;have x:=S1.trans S2;have q:=F.same S2;have a2:sg≠A.el:=(yb F.el S).symm;ext;refine ybl (d.lr.same x) d.w1 d.N1 λa6 cx H3 h0 h3 hx S3=>?_;ext;exists p,A,FX0 A.n A.kd,f,O,6,a6,N,w,cx,I,rfl,q.same S3,rfl,rfl,h3,(yb q.el h0).symm,λi C=>⟨⟨(hx i C).2,(d.lr.2 i C).s,(d.lr.2 i C).z⟩,(yb q.el (hx i C).1).symm⟩,d.w1,(),λml el pl sl f1 O1 m1 H4 J ae u R D=>?_
 have u:=FGo.ahead S3 u;have a4:=u.kpa q;have v:=a4 _ _ U rfl a2
 have eX:∀i,yfv (A.re ml el pl sl) ((FX0 A.n A.kd).run A (j3 I N)) y i=zt A.n A.kd A.ps (j3 I N) y i:=λi=>by
  unfold zt yfv fX;rw[yqj,<- Ã A,<- Ã A];rfl
 generalize hX:(FX0 A.n A.kd).run A (j3 I N)=XX at J R D eX;ext;exists p,A.re ml el pl sl,XX,f1,O1,m1,sg,y,rfl,J,R,D,⟨v.2,d.t.s,Y⟩,v.1,(),λr ab ac ag ad f2 O2 m2 H5 a1 M a9 aa a0=>?_
 have go:=u.trans a0;rw[Ģ _ λj B=>⟨eX j,rfl⟩]at M;refine k r H5 (x.free (u.free a1)) M λc o e=>go.fr c o (x _ _ e) (λz=>?_) (λz=>?_) (λz=>?_) (λi C w'=>?_)
 .rw[z,np]at e;cases e
 .rw[z,g oM]at e;cases e
 .rw[z,X]at e;cases e
 .rw[g (oO i c C w')]at e;cases e
structure RGo(p q s:z4)(A:FA)(O:Β)(H H':Hp)(ml el:z4)(O':Β):Prop where
 hm:ml=A.ml\/H ml=none
 he:el=A.el\/H el=none
 hO:∀j c,j<A.n->O' j c->O j c\/H c=none
 fr:∀c o,H c=some o->c≠p->c≠A.mp->c≠A.el->c≠q->c≠s->(∀j,j<A.n->¬O j c)->H' c=some o
 live:∀c o,H c=some o->∃o',H' c=some o'
def RGo.free{p s:z4}{A:FA}{H H':Hp}{ml el c:z4}(h:RGo p q s A O H H' ml el O')(hc:H' c=none):H c=none:=by
 cases e:H c with
 |none=>rfl
 |some o =>
  let⟨a,w⟩:=h.live c o e;rw[hc]at w;cases w
def RGo.refl{p s:z4}{A:FA}{H:Hp}:RGo p q s A O H H A.ml A.el O:=⟨.inl rfl,.inl rfl,λZ Z Z w=>.inl w,λZ Z e Z Z Z Z Z Z=>e,λZ o e=>⟨o,e⟩⟩
theorem RGo.trans{p s:z4}{A:FA}{O1:Β}{H H1 H2:Hp}{ml el pl ml2 el2:z4}{sl:Μ}(h:RGo p q s A O H H1 ml el O1)(k:RGo p q s (A.re ml el pl sl) O1 H1 H2 ml2 el2 O2):RGo p q s A O H H2 ml2 el2 O2:=by
 exists ?_,?_,λj c a w=>?_,λc o e b d i l g f=>?_,λc o e=>?_
 .rcases k.hm with z|z
  .rcases h.hm with y|y
   .exact .inl (z.trans y)
   .exact .inr (by rw[show ml2=ml from z];exact y)
  .exact .inr (h.free z)
 .rcases k.he with z|z
  .rcases h.he with y|y
   .exact .inl (z.trans y)
   .exact .inr (by rw[show el2=el from z];exact y)
  .exact .inr (h.free z)
 .rcases k.hO j c a w with v|v
  .exact h.hO j c a v
  .exact .inr (h.free v)
 .refine k.fr c o (h.fr c o e b d i l g f) b d (λz=>?_) l g (λj a w=>?_)
  .rcases h.he with y|y
   .exact i (z.trans y)
   .rw[show c=el from z,y]at e;cases e
  .rcases h.hO j c a w with v|v
   .exact f j a v
   .rw[e]at v;cases v
 .obtain⟨n,m⟩:=h.live c o e;exact k.live c n m
def RGo.same{p s:z4}{A:FA}{H H1 H2:Hp}{ml el:z4}(h:RGo p q s A O H H1 ml el O')(S:yr H1 H2):RGo p q s A O H H2 ml el O' :=
 ⟨h.hm,h.he,h.hO,λc o e a b g i f d=>S _ _ (h.fr c o e a b g i f d),λc o e=>let ⟨o',w⟩:=h.live c o e;⟨o',S _ _ w⟩⟩
structure Ë(K:z3)(a:Ads)(H:Hp)(p:z4)(A:FA)(X:FX)(f:Α)(O:Β)(m:Nat)(q dx pd s ds:z4)(d:Ρ)(x:Sn):Prop where
 ft:zb K a H p A X f O m
 sk:yg6 a H q dx pd s ds d x
 ok:OkS x
 nO:∀i,i<A.n->¬O i q/\¬O i s
 nd:pd≠A.el
theorem Ë.same{H H':Hp}{p:z4}{A:FA}{X:FX}{f:Α}{m:Nat}{dx pd s:z4}{d:Ρ}{x:Sn}(h:Ë K a H p A X f O m q dx pd s ds d x)(S:yr H H'):Ë K a H' p A X f O m q dx pd s ds d x:=⟨h.ft.same S,h.sk.same S,h.ok,h.nO,h.nd⟩
def chX(A:FA)(X:FX):Int:=ylc X.ws (X.cs A)
def zb.but2{H H':Hp}{p:z4}{A:FA}{X:FX}{f:Α}{m:Nat}{dx pd s:z4}{d:Ρ}{x:Sn}(h:Ë K a H p A X f O m q dx pd s ds d x)(B:yll q s H H'):zb K a H' p A X f O m:=by
 have k:=h.sk.me;have j:=h.sk.sp;refine h.ft.frame (O2:=λc=>c=q\/c=s) (λc o e n=>B c o e (λz=>n (.inl z)) (λz=>n (.inr z))) (λz=>?_) (λz=>?_) (λi g z=>?_) (λi c g w z=>?_) (λl r Z e=>h.sk.lst B e) (λt r e=>?_)
 .rcases z with z|z
  .exact zl h.ft.me k (show ¬(6=4) by decide) z
  .exact zl h.ft.me j (show ¬(6=3) by decide) z
 .rcases z with z|z
  .exact zl h.ft.mx.o k (show ¬(1=4) by decide) z
  .exact zl h.ft.mx.o j (show ¬(1=3) by decide) z
 .rcases z with z|z
  .exact zl (h.ft.B.b i g).me k (show ¬(2=4) by decide) z
  .exact zl (h.ft.B.b i g).me j (show ¬(2=3) by decide) z
 .rcases z with z|z
  .exact(h.nO i g).1 (z ▸ w)
  .exact(h.nO i g).2 (z ▸ w)
 .rcases e with(e|⟨o,e⟩)|e
  .exact .inl (.inl (h.sk.tup B e))
  .exact .inl (.inr ⟨o,B _ _ e (w8 e k (by intro z;cases z)) (w8 e j (by intro z;cases z))⟩)
  .exact .inr e
#synth yqe ["foreteller","seeker","bit"] ["foreteller","seeker"] vcb
inductive yd1(K:z3)(a:Ads)(vs:Υ)(H:Hp)(Q:VK)(E':XK):Prop
 |mk(p:z4)(A:FA)(X:FX)(f:Α)(O:Β)(m:Nat)(q dx pd s ds:z4)(d:Ρ)(x:Sn)(_:vs=[.ref p,.ref q])(_:Ë K a H p A X f O m q dx pd s ds d x)(_:m+20<1000000)(_:0<=X.nd)(_:X.sg.length<=100000)(_:∀(ml el pl:z4)(sl:Μ)(f':Α)(O':Β)(H':Hp),Ë K a H' p (A.re ml el pl sl) (X.see A (Ā d x (chX A X))) f' O' (m+A.n) q dx pd s ds d (nar x (chX A X) (Ā d x (chX A X)))->RGo p q s A O H H' ml el O'->Q (.int (Ā d x (chX A X))) H')
def ypv:vo P w K mg Γ CX0 7 a.Mq a.Ph ["foreteller","seeker"] (yd1 K a):=by
 exists T.Jp.F.ok,yqe,hr;let⟨p,r,X,f,O,m,q,dx,pd,u,ds,d,x,rfl,n,hm,a2,a1,k⟩:=h;have hp:=n.ft.me;have hq:=n.sk.me;have I:Ch (chX r X):=ye9 n.ft.n1 n.ft.wok n.ft.cok;have a0:=ycf I;exists 2,1,yf (yt (i:=2) yqe.nd rfl (Or.inl rfl) (y8 (pv 1) T.Aq T.Ji.m (yx6 T) hr.m T.Ji.B .nil vw (pa1 (vj (pv 0) T.A8 T.Cv.m (ykq T) hr.m T.Cv.B .nil vn)))) (yf (yu (xi (pv 0) T.A8 T.Bz.m (yfo T) hr.m T.Bz.B .nil vn (pa1 (pv 2)))) (yc (yn (pv 2))));exists p,r,X,f,O,m,rfl,n.ft,λH1 D=>?_;have M:=n.same D;ext;exists q,dx,pd,u,ds,d,x,.int (chX r X),_,rfl,M.sk,n.ok,.int _,λz=>(by rw[a0]at z;cases z),λc' ec F H2 g G=>?_;cases ec;have l:=zb.but2 M G;have a8:=l.me
 obtain⟨b0,b1⟩:0<=Ā d x (chX r X)/\Ā d x (chX r X)<=1:=by
  rcases ſ d x (chX r X)with e|e<;>(rw[e];decide)
 generalize hb:Ā d x (chX r X)=b at b0 b1 g k;ext;exists p,r,X,f,O,m,b,rfl,l,b0,b1,hm,a2,a1,λS R pl sl f' O' H3 he W hO U lv t=>?_;have Y:q≠p:=zl g.me l.me (show ¬(4=6) by decide);have a3:q≠r.mp:=zl g.me l.mx.o (show ¬(4=1) by decide);have a4:u≠p:=zl g.sp l.me (show ¬(3=6) by decide);have a6:u≠r.mp:=zl g.sp l.mx.o (show ¬(3=1) by decide)
 have J:∀{c C dc:z4}{fs:Ι},H2 c=some (.ins C dc fs)->c≠r.el:=λe z=>by
  have e2:=l.el;rw[<- z,e]at e2;cases e2
 have L:=U _ _ g.me Y a3 (J g.me) λi y=>(n.nO i y).1;have N:=U _ _ g.sp a4 a6 (J g.sp) λi y=>(n.nO i y).2;have Z:H3 pd=some (.lst (d.map V.int)):=U _ _ g.dt (λz=>by have e:=g.dt;rw[z,l.me]at e;cases e) (λz=>by have e:=g.dt;rw[z,l.mx.o]at e;cases e) n.nd (l.B.nlst g.dt);ext;refine k S R pl sl f' O' H3 ⟨W,⟨L,Z,N,g.ne⟩,ydp n.ok I,λi y=>⟨λw=>?_,λw=>?_⟩,?_⟩ ⟨.inr ?_,?_,λj c hj w=>?_,λc o e c1 c2 c3 c4 c5 no=>?_,λc o e=>?_⟩
 .rcases hO i q y w with v|v
  .exact(n.nO i y).1 v
  .rw[g.me]at v;cases v
 .rcases hO i u y w with v|v
  .exact(n.nO i y).2 v
  .rw[g.sp]at v;cases v
 .rcases he with z|z
  .rw[show (r.re S R pl sl).el=r.el from z];exact n.nd
  .exact yb g.dt z
 .cases e:H S with
  |none=>rfl
  |some o =>
   by_cases z1:S=q
   .rw[z1,g.me]at t;cases t
   by_cases z2:S=u
   .rw[z2,g.sp]at t;cases t
   rw[G _ _ (D _ _ e) z1 z2]at t;cases t
 .rcases he with z|z
  .exact .inl z
  .refine .inr ?_
   cases e:H R with
   |none=>rfl
   |some o =>
    by_cases z1:R=q
    .rw[z1,g.me]at z;cases z
    by_cases z2:R=u
    .rw[z2,g.sp]at z;cases z
    rw[G _ _ (D _ _ e) z1 z2]at z;cases z
 .rcases hO j c hj w with v|v
  .exact .inl v
  .refine .inr ?_
   cases e:H c with
   |none=>rfl
   |some o =>
    by_cases z1:c=q
    .rw[z1,g.me]at v;cases v
    by_cases z2:c=u
    .rw[z2,g.sp]at v;cases v
    rw[G _ _ (D _ _ e) z1 z2]at v;cases v
 .exact U c o (G _ _ (D _ _ e) c4 c5) c1 c2 c3 no
 .by_cases z1:c=q
  .exists _,z1 ▸ L
  by_cases z2:c=u
  .exists _,z2 ▸ N
  exact lv c o (G _ _ (D _ _ e) z1 z2)
def rnx(A:FA)(d:Ρ)(S:FX×Sn):FX×Sn:=(S.1.see A (Ā d S.2 (chX A S.1)),nar S.2 (chX A S.1) (Ā d S.2 (chX A S.1)))
def rst(A:FA)(d:Ρ)(S:FX×Sn):Nat->FX×Sn
 |0=>S
 |n+1=>rnx A d (rst A d S n)
def á(A:FA)(d:Ρ)(S:FX×Sn)(n:Nat):Int:=Ā d (rst A d S n).2 (chX A (rst A d S n).1)
def ypo(A:FA)(d:Ρ)(S:FX×Sn)(n:Nat):á A d S n=0\/á A d S n=1:=ſ _ _ _
theorem ydn(A:FA)(d:Ρ)(S:FX×Sn)(k:Nat):∀n,rst A d (rst A d S k) n=rst A d S (k+n)
 |0=>rfl
 |n+1=>congrArg (rnx A d) (ydn A d S k n)
theorem ykd(A:FA)(d:Ρ)(S:FX×Sn)(ml el pl:z4)(sl:Μ):∀n,rst (A.re ml el pl sl) d S n=rst A d S n
 |0=>rfl
 |n+1=>by
  show rnx (A.re ml el pl sl) d (rst (A.re ml el pl sl) d S n)=_;rw[ykd A d S ml el pl sl n];rfl
def yya(A:FA)(X:FX)(b:Int)(h:0<=X.nd)(hb:0<=b):0<=(X.see A b).nd:=by
 show 0<=ndN X.nd b;unfold ndN
 split
 .split<;>omega
 .split<;>omega
def yyv(A:FA)(X:FX)(b:Int):(X.see A b).sg.length<=X.sg.length+1:=by
 show (sgN X.sg X.nd b).length<=_;unfold sgN
 split
 .split
  .rw[bd];exact bf _
  .omega
 .split
  .omega
  .exact bJ _
theorem yfn(A:FA)(d:Ρ)(S:FX×Sn)(h:0<=S.1.nd):∀n,0<=(rst A d S n).1.nd
 |0=>h
 |n+1=>yya A _ _ (yfn A d S h n) (by rcases ypo A d S n with e|e<;>(unfold á at e;rw[e];decide))
theorem yfj(A:FA)(d:Ρ)(S:FX×Sn):∀n,(rst A d S n).1.sg.length<=S.1.sg.length+n
 |0=>bf _
 |n+1=>bF (yyv A _ _) (Nat.succ_le_succ (yfj A d S n))
theorem Ë.app{H:Hp}{p R:z4}{A:FA}{X:FX}{f:Α}{m:Nat}{dx pd s:z4}{d:Ρ}{x:Sn}{xs ys:Υ}(h:Ë K a H p A X f O m q dx pd s ds d x)(hR:H R=some (.lst xs))(hq:∀q,(q=A.bl\/q=A.el\/q=A.ml\/q=A.pl)->q≠R)(np:pd≠R):Ë K a (upd H R (.lst ys)) p A X f O m q dx pd s ds d x:=by
 exists h.ft.app hR hq,⟨ye (λz=>?_) h.sk.me,ye np h.sk.dt,ye (λz=>?_) h.sk.sp,h.sk.ne⟩,h.ok,h.nO,h.nd
 .have e:=h.sk.me;rw[z,hR]at e;cases e
 .have e:=h.sk.sp;rw[z,hR]at e;cases e
def Ë.notN{H:Hp}{p R:z4}{A:FA}{X:FX}{f:Α}{m:Nat}{dx pd s:z4}{d:Ρ}{x:Sn}(h:Ë K a H p A X f O m q dx pd s ds d x)(hR:H R=some (.lst (xs.map V.int)))(nm:R≠A.ml)(ne:R≠A.el):∀q,(q=A.bl\/q=A.el\/q=A.ml\/q=A.pl)->q≠R:=λq j z=>by
 have i:=h.ft.n1
 have b:∀(g:Μ),xs.map V.int=refs g A.n->False:=λg e=>by
  have c:(refs g A.n)[0]?=some (V.ref (g 0)):=ye2 i;rw[<- e,bi]at c
  cases w:xs[0]? with
  |none=>rw[w]at c;cases c
  |some y=>rw[w]at c;cases c
 rcases j with y|y|y|y
 .have e:=h.ft.bl;rw[<- y,z,hR]at e;exact b _ (HO.lst.inj (bx e))
 .exact ne (z.symm.trans y)
 .exact nm (z.symm.trans y)
 .have e:=h.ft.pl;rw[<- y,z,hR]at e;exact b _ (HO.lst.inj (bx e))
def RGo.app{p s R:z4}{A:FA}{H H1:Hp}{ml el:z4}{o':HO}(h:RGo p q s A O H H1 ml el O')(hR:H R=none):RGo p q s A O H (upd H1 R o') ml el O' :=
 ⟨h.hm,h.he,h.hO,λc o e a b g i f d=>ye (yb e hR) (h.fr c o e a b g i f d),λc o e=>let ⟨o1,w⟩:=h.live c o e;⟨o1,ye (yb e hR) w⟩⟩
noncomputable def wB(i:Nat):Int:=([128,64,32,16,8,4,2,1]:Ρ)[i]?.getD 0
def vf9(i:Nat):0<=wB i/\wB i<=128:=by
 rcases i with _|_|_|_|_|_|_|_|i
 .exists by decide,∅
 .exists by decide,∅
 .exists by decide,∅
 .exists by decide,∅
 .exists by decide,∅
 .exists by decide,∅
 .exists by decide,∅
 .exists by decide,∅
 .exists by show (0:Int)<=0;decide,by show (0:Int)<=128;decide
def sgB(A:FA)(d:Ρ)(S:FX×Sn)(i:Nat):Ρ:=(List.range i).map λj=>wB j*á A d S j
def yly(A:FA)(d:Ρ)(S:FX×Sn)(i:Nat):sgB A d S (i+1)=sgB A d S i++[wB i*á A d S i]:=by unfold sgB;rw[List.range_succ,bz];rfl
#synth vao ["foreteller","seeker"] vcd
inductive ybi(K:z3)(a:Ads)(vs:Υ)(H:Hp)(Q:VK)(E':XK):Prop
 |mk(p:z4)(A:FA)(S:FX×Sn)(f:Α)(O:Β)(m:Nat)(q dx pd s ds:z4)(d:Ρ)(_:vs=[.ref p,.ref q])(_:Ë K a H p A S.1 f O m q dx pd s ds d S.2)(_:m+80<1000000)(_:0<=S.1.nd)(_:S.1.sg.length<=90000)(_:∀(ml el pl:z4)(sl:Μ)(f':Α)(O':Β)(H':Hp),Ë K a H' p (A.re ml el pl sl) (rst A d S 8).1 f' O' (m+8*A.n) q dx pd s ds d (rst A d S 8).2->RGo p q s A O H H' ml el O'->Q (.int (sgB A d S 8).sum) H')
def yv8:vo P w K mg Γ CX0 8 a.Mr a.Pi ["foreteller","seeker"] (ybi K a):=by
 exists T.Qp.F.ok,vao,hr;let⟨p,b,S,f,O,m,q,dx,pd,Z,ds,d,rfl,R,hm,a2,a7,k⟩:=h;have n6:=R.ft.n6;exists 2,0,yc (yn (pcB (Ñ rfl) T.Ep (pa1 (vx (js:=[1,0]) (ys:=["seeker","foreteller"]) rfl (yfi (yal rfl T.Et)) (λC s2 H2 fp=>(yo xg (pv 0) (xp (ypv T) hr.m T.Jp (pac (pv 2) (pa1 (pv 1)))))) rfl rfl (hyc:=(all_cons rfl (all_cons rfl yy))) (hrel:=(all_cons rfl (all_cons rfl yy)))))));exists a.Bd,rfl,⟨_,T.w_WORTHS H⟩,λD N=>?_;refine yby (xs:=[.int 128,.int 64,.int 32,.int 16,.int 8,.int 4,.int 2,.int 1]) (λi G=>∃(v u U:z4)(I:Μ)(f':Α)(O':Β),Ë K a G p (b.re v u U I) (rst b d S i).1 f' O' (m+i*b.n) q dx pd Z ds d (rst b d S i).2/\RGo p q Z b O H G v u O'/\G D=some (.lst ((sgB b d S i).map V.int))/\D≠v/\D≠u) ?_ (λi G F F=>T.w_WORTHS G) ?_ ?_
 .have S1:yr H (upd H D (.lst [])):=yz N;exists b.ml,b.el,b.pl,b.sl,f,O,?_,RGo.refl.same S1,ya,(yb R.ft.mx.l N).symm,(yb R.ft.el N).symm;rw[Nat.zero_mul];exact R.same S1
 .rintro i y G j a0 ⟨v,u,U,I,f1,O1,e,r,c,L,x⟩;have hi:i<8:=a0
  obtain rfl:y=V.int (wB i):=by
   rcases i with _|_|_|_|_|_|_|_|i
   .exact(bx j).symm
   .exact(bx j).symm
   .exact(bx j).symm
   .exact(bx j).symm
   .exact(bx j).symm
   .exact(bx j).symm
   .exact(bx j).symm
   .exact(bx j).symm
   .omega
  have a9:i*b.n<=8*b.n:=Nat.mul_le_mul_right _ ();let⟨aa,ab⟩:=vf9 i;have a5:=yfn b d S a2 i;have a6:=yfj b d S i;ext;exists p,b.re v u U I,(rst b d S i).1,f1,O1,m+i*b.n,q,dx,pd,Z,ds,d,(rst b d S i).2,rfl,e,(),a5,(),λY J a3 a1 f2 O2 G2 W g=>?_
  have t:G2 D=some (.lst ((sgB b d S i).map V.int)):=g.fr _ _ c (w8 c e.ft.me (by intro z;cases z)) (w8 c e.ft.mx.o (by intro z;cases z)) x (w8 c e.sk.me (by intro z;cases z)) (w8 c e.sk.sp (by intro z;cases z)) (e.ft.B.nlst c)
  have X:D≠Y:=by
   rcases g.hm with z|z
   .rw[z];exact L
   .exact yb c z
  have M:D≠J:=by
   rcases g.he with z|z
   .rw[z];exact x
   .exact yb c z
  exists wB i,_,rfl,rfl,.inl ⟨(),()⟩,?_;exists _,t,?_,8-(i+1),by show 8-(i+1)<8-i;omega,rfl,hi,Y,J,a3,a1,f2,O2,?_,?_,?_,X,M
  .unfold sgB;rw[ba,ba,bQ];exact Nat.lt_trans hi ∅
  .rw[show m+(i+1)*b.n=m+i*b.n+b.n by rw[Nat.succ_mul,Nat.add_assoc]];exact Ë.app W t (W.notN t X M) (yb R.sk.dt N)
  .exact(r.trans g).app N
  .rw[yly,bz];exact ya
 .rintro G ⟨v,u,U,I,f1,O1,e,r,c,L,x⟩;ext;exists D,sgB b d S 8,rfl,SqL.of c,?_;ext;exact k v u U I f1 O1 G e r
theorem Ë.up{H:Hp}{p:z4}{A:FA}{X:FX}{f:Α}{m:Nat}{dx pd s:z4}{d:Ρ}{x:Sn}(h:Ë K a H p A X f O m q dx pd s ds d x)(hm:m<=m'):Ë K a H p A X f O m' q dx pd s ds d x:=⟨h.ft.up hm,h.sk,h.ok,h.nO,h.nd⟩
def ytr(A:FA)(d:Ρ)(S:FX×Sn)(ml el pl:z4)(sl:Μ)(n:Nat):á (A.re ml el pl sl) d S n=á A d S n:=by unfold á;rw[ykd];rfl
def yxi(A:FA)(d:Ρ)(S:FX×Sn)(ml el pl:z4)(sl:Μ)(n:Nat):sgB (A.re ml el pl sl) d S n=sgB A d S n:=by unfold sgB;exact List.map_congr_left λj Z=>by rw[ytr]
def rsg(A:FA)(d:Ρ)(S:FX×Sn)(k:Nat):Int:=(sgB A d (rst A d S (9*k+1)) 8).sum
def rtx(A:FA)(d:Ρ)(S:FX×Sn)(k:Nat):Ρ:=(List.range k).map (rsg A d S)
def ylp(A:FA)(d:Ρ)(S:FX×Sn)(k:Nat):rtx A d S (k+1)=rtx A d S k++[rsg A d S k]:=by unfold rtx;rw[List.range_succ,bz];rfl
def yj5(A:FA)(d:Ρ)(S:FX×Sn)(k:Nat):(rtx A d S k).length=k:=by unfold rtx;rw[ba,bQ]
section
variable{G:Hp}{p:z4}{A:FA}{S:FX×Sn}{f:Α}{m n:Nat}{dx pd s ml el pl:z4}{sl:Μ}{d:Ρ}{Q:VK}{E:XK}
def vaz(hR:Ë K a G p (A.re ml el pl sl) (rst A d S n).1 f O m q dx pd s ds d (rst A d S n).2)(hm:m+20<1000000)(nd0:0<=S.1.nd)(hsg:S.1.sg.length+n<=100000)
  (k:∀(ml2 el2 pl2:z4)(sl2:Μ)(f':Α)(O':Β)(H':Hp),Ë K a H' p (A.re ml2 el2 pl2 sl2) (rst A d S (n+1)).1 f' O' (m+6) q dx pd s ds d (rst A d S (n+1)).2->RGo p q s (A.re ml el pl sl) O G H' ml2 el2 O'->Q (.int (á A d S n)) H'):yd1 K a [.ref p,.ref q] G Q E :=
 ⟨p,A.re ml el pl sl,(rst A d S n).1,f,O,m,q,dx,pd,s,ds,d,(rst A d S n).2,rfl,hR,hm,yfn A d S nd0 n,bF (yfj A d S n) hsg,λml2 el2 pl2 sl2 f' O' H' b c=>k ml2 el2 pl2 sl2 f' O' H' (Ë.up b (Nat.add_le_add_left hR.ft.n6 m)) c⟩
def ysy(hR:Ë K a G p (A.re ml el pl sl) (rst A d S n).1 f O m q dx pd s ds d (rst A d S n).2)(hm:m+80<1000000)(nd0:0<=S.1.nd)(hsg:S.1.sg.length+n<=90000)
  (k:∀(ml2 el2 pl2:z4)(sl2:Μ)(f':Α)(O':Β)(H':Hp),Ë K a H' p (A.re ml2 el2 pl2 sl2) (rst A d S (n+8)).1 f' O' (m+48) q dx pd s ds d (rst A d S (n+8)).2->RGo p q s (A.re ml el pl sl) O G H' ml2 el2 O'->Q (.int (sgB A d (rst A d S n) 8).sum) H'):ybi K a [.ref p,.ref q] G Q E:=by exists p,A.re ml el pl sl,rst A d S n,f,O,m,q,dx,pd,s,ds,d,rfl,hR,hm,yfn A d S nd0 n,bF (yfj A d S n) hsg,λml2 el2 pl2 sl2 f' O' H' b c=>?_;have e:A.n<=6:=hR.ft.n6;have b:=Ë.up b (show m+8*A.n<=m+48 by omega);rw[ykd,ydn]at b;rw[yxi];exact k ml2 el2 pl2 sl2 f' O' H' b c
end
#synth ypa ["foreteller","seeker","most","text"] ["foreteller","seeker","most"] vct
inductive yhg(K:z3)(a:Ads)(vs:Υ)(H:Hp)(Q:VK)(E:XK):Prop
 |mk(p:z4)(A:FA)(S:FX×Sn)(f:Α)(O:Β)(m:Nat)(q dx pd s ds:z4)(d:Ρ)(mo:Nat)(_:vs=[.ref p,.ref q,.int mo])(_:Ë K a H p A S.1 f O m q dx pd s ds d S.2)(_:mo<=1000)(_:m+54*mo+200<1000000)(_:0<=S.1.nd)(_:S.1.sg.length<=10000)(_:(∀(N:Nat)(r ml el pl:z4)(sl:Μ)(f':Α)(O':Β)(H':Hp),N<=mo->(∀j,j<N->á A d S (9*j)=1)->á A d S (9*N)=0->H r=none->H' r=some (.lst ((rtx A d S N).map V.int))->r≠el->Ë K a H' p (A.re ml el pl sl) (rst A d S (9*N+1)).1 f' O' (m+54*N+6) q dx pd s ds d (rst A d S (9*N+1)).2->RGo p q s A O H H' ml el O'->Q (.ref r) H'))(_:((∀j,j<=mo->á A d S (9*j)=1)->∀(ml el:z4)(O':Β)(H':Hp),RGo p q s A O H H' ml el O'->E (.ref a.Hu) none H'))
def ywj:vo P w K mg Γ (CXe P w) 9 a.Ms a.Pj ["foreteller","seeker","most"] (yhg K a):=by
 exists T.Qq.F.okE,ypa,hr;let⟨p,g,S,f,O,m,q,dx,pd,s',ds,d,mo,rfl,hR,an,hm,a3,al,kQ,kE⟩:=h;exists 3,1,yf (yt (i:=3) ypa.nd rfl (Or.inl rfl) (wy ur)) (yf (jm PassesOwn.leaving (yx xl (xp (ypv T) hr.m T.Jp (pac (pv 0) (pa1 (pv 1)))) yh (y9 _)) (yf (v9 (yx xl (pcB yp T.A7 (pa1 (pv 3))) (pv 2) (y9 _)) (yc (wx rfl T.Sy T.T9 (pa1 vg))) y7) (yc (yu (ug PySem.F.plainAttrs_list PySem.F.slot_list_append PySem.F.type_list_append wk (pv 3) (pa1 (xp (yv8 T) hr.m T.Qp (pac (pv 0) (pa1 (pv 1)))))))))) (yc (yn (pv 3))));exists by walk_at "len",λr hr0=>?_
 exists hr0,H1,S1,hr1;have aj:pd≠r:=yb hR.sk.dt hr0;ext
 refine⟨λw σ' G=>∃(N:Nat)(I D pl:z4)(U:Μ)(f':Α)(O':Β),σ'=[some (.ref p),some (.ref q),some (.int mo),some (.ref r)]/\N<=mo/\(∀j,j<N->á g d S (9*j)=1)/\Ë K a G p (g.re I D pl U) (rst g d S (9*N)).1 f' O' (m+54*N) q dx pd s' ds d (rst g d S (9*N)).2/\RGo p q s' g O H G I D O'/\G r=some (.lst ((rtx g d S N).map V.int))/\r≠I/\r≠D/\w=mo-N,
  ⟨_,0,g.ml,g.el,g.pl,g.sl,f,O,rfl,bJ _,λj hj=>absurd hj (bD j),hR.same S1,RGo.refl.same S1,hr1,(yb hR.ft.mx.l hr0).symm,(yb hR.ft.el hr0).symm,rfl⟩,?_⟩
 rintro w σ2 G ⟨N,I,D,pl,U,f1,O1,rfl,hN,a0,e,a9,ag,J,C,rfl⟩;ext;refine vaz e () a3 () λu n ad a8 f2 O2 R M k=>?_
 have v:∀{G R:Hp}{I D pl u n:z4}{U:Μ}{X:FX}{f1:Α}{O1 O2:Β}{m x}{xs:Υ},Ë K a G p (g.re I D pl U) X f1 O1 m q dx pd s' ds d x->RGo p q s' (g.re I D pl U) O1 G R u n O2->G r=some (.lst xs)->r≠I->r≠D->R r=some (.lst xs)/\r≠u/\r≠n:=λe k c J C=>by
  exists k.fr _ _ c (w8 c e.ft.me (by intro z;cases z)) (w8 c e.ft.mx.o (by intro z;cases z)) C (w8 c e.sk.me (by intro z;cases z)) (w8 c e.sk.sp (by intro z;cases z)) (e.ft.B.nlst c),?_,?_
  .rcases k.hm with z|z
   .rw[z];exact J
   .exact yb c z
  .rcases k.he with z|z
   .rw[z];exact C
   .exact yb c z
 let⟨y,ac,Y⟩:=v e k ag J C;have t:=a9.trans k;have a5:=ypo g d S (9*N);generalize a7:á g d S (9*N)=b at a5;ext;refine zn (λhb=>?_) (λhb=>?_)
 .subst hb
  have Z:∀j,j<N+1->á g d S (9*j)=1:=λj hj=>by
   by_cases z:j=N
   .rw[z];exact a7
   .exact a0 j ()
  refine ycb ?_;ext;refine u5 (SqL.of y) ?_;rw[ba,yj5];ext;refine zn (λhc=>?_) (λhc=>?_)
  .have ak:N=mo:=()
   ext;exists by walk_at "len",kE (λj hj=>Z j ()) u n O2 R t
  .ext;refine u8 y ?_;ext;refine ysy M () a3 () λaf ae ab ai f3 O3 G3 W a2=>?_;let⟨L,a4,a6⟩:=v M a2 y ac Y;have a1:=t.trans a2;ext;refine w9 L (vh (by rw[ba,yj5];omega)) ?_;ext;exists _,?_,N+1,af,ae,ab,ai,f3,O3,rfl,(),Z,?_,a1.app hr0,?_,a4,a6,rfl
   .omega
   .exact Ë.app W L (W.notN L a4 a6) aj
   .rw[ya,ylp,bz];rfl
 .have aa:á g d S (9*N)=0:=()
  ext;exact kQ N r u n ad a8 f2 O2 R hN a0 aa hr0 y Y M t
def yr6(x:Sn)(c b:Int):(nar x c b).2.2<=x.2.2+2:=by
 unfold nar ren
 (repeat' split)<;>(dsimp only;omega)
theorem yrk(A:FA)(d:Ρ)(S:FX×Sn):∀n:Nat,(rst A d S n).2.2.2<=S.2.2.2+2*(n:Int)
 |0=>by show S.2.2.2<=S.2.2.2+2*((0:Nat):Int);omega
 |n+1=>by
  have a:=yrk A d S n;have b:=yr6 (rst A d S n).2 (chX A (rst A d S n).1) (Ā d (rst A d S n).2 (chX A (rst A d S n).1));show (nar (rst A d S n).2 (chX A (rst A d S n).1) (Ā d (rst A d S n).2 (chX A (rst A d S n).1))).2.2<=_;omega
structure ROk(A:FA)(d:Ρ)(S:FX×Sn)(N:Nat):Prop where
 b1:∀j,j<N->á A d S (9*j)=1
 b0:á A d S (9*N)=0
 tk:d.take (tL (rst A d S (9*N+1)).2).length=tL (rst A d S (9*N+1)).2
def ROk.uniq{A:FA}{d:Ρ}{S:FX×Sn}{N M:Nat}(h:ROk A d S N)(b1:∀j,j<M->á A d S (9*j)=1)(b0:á A d S (9*M)=0):M=N:=by
 rcases Nat.lt_trichotomy M N with z|z|z
 .have e:=h.b1 M z;rw[b0]at e;cases e
 .exact z
 .have e:=b1 N z;rw[h.b0]at e;cases e
def rTL(A:FA)(d:Ρ)(S:FX×Sn)(N:Nat):Nat:=(tL (rst A d S (9*N+1)).2).length
def RGo.fgo{p s:z4}{A:FA}{H0 H H':Hp}{ml el:z4}(S:yr H0 H)(hq:H0 q=none)(hs:H0 s=none)(h:RGo p q s A O H H' ml el O'):FGo p A O H0 H' el O' :=
 ⟨h.he.imp id S.free,λj c f w=>(h.hO j c f w).imp id S.free,λc o e a b g d=>h.fr c o (S _ _ e) a b g (yb e hq) (yb e hs) d,λc o e=>h.live c o (S _ _ e)⟩
#synth ye5 ["foreteller","data","most","seeker","text","own"] ["foreteller","data","most"] vbr
inductive ybk(K:z3)(a:Ads)(vs:Υ)(H:Hp)(Q:VK)(E:XK):Prop
 |mk(p:z4)(A:FA)(X:FX)(f:Α)(O:Β)(m:Nat)(dt:z4)(d:Ρ)(mo:Nat)(_:vs=[.ref p,.ref dt,.int mo])(_:zb K a H p A X f O m)(_:H dt=some (.lst (d.map V.int)))(_:dt≠A.el)(_:Byt d)(_:d.length<=12000)(_:mo<=1000)(_:m+54*mo+200<1000000)(_:0<=X.nd)(_:X.sg.length<=10000)(_:(∀(N:Nat)(t r el:z4)(O':Β)(H':Hp),N<=mo->ROk A d (X,s0) N->H t=none->H r=none->H' t=some (.tup [.ref r,.int (rTL A d (X,s0) N)])->H' r=some (.lst ((rtx A d (X,s0) N).map V.int))->FGo p A O H H' el O'->(r≠el/\∃ml pl sl f',zb K a H' p (A.re ml el pl sl) (rst A d (X,s0) (9*N+1)).1 f' O' (m+54*N+6))->Q (.ref t) H'))(_:((∀N,N<=mo->¬ROk A d (X,s0) N)->∀(el:z4)(O':Β)(H':Hp),FGo p A O H H' el O'->E (.ref a.Hu) none H'))
def yy6:vo P w K mg Γ (CXe P w) 10 a.Mt a.Pk ["foreteller","data","most"] (ybk K a):=by
 exists T.Qr.F.okE,ye5,hr;let⟨p,l,X,f,O,m,dt,d,mo,rfl,hF,z,a5,ab,a8,ac,hm,a9,a6,kQ,kE⟩:=h;refine yg (yt (i:=3) ye5.nd rfl (Or.inl rfl) (ux T.Tk (yyg T) hr.m rfl T.Tj T.Qk.B .nil yv (pa1 (pv 1)))) ?_;refine yg (yt (i:=4) ye5.nd rfl (Or.inl rfl) (uo (ywj T) hr.m T.Qq yv (pac (pv 0) (pac (pv 3) (pa1 (pv 2)))))) ?_;refine yg (yt (i:=5) ye5.nd rfl (Or.inl rfl) (vj (pv 3) T.Aq T.Jj.m (yw9 T) hr.m T.Jj.B .nil vn)) ?_;refine yg (v9 (yx (yk1 hr.units) (xw z8 (pv 1) uu (uv (pcB yp T.A7 (pa1 (pv 5))))) (pv 5) (y9 _)) (yc (wx rfl T.Sy T.T9 (pa1 vg))) y7) ?_;exists 3,3,yc (yn (uq (pac (pv 4) (pa1 (pcB yp T.A7 (pa1 (pv 5)))))));intro q G Y a4 ah;have R:yr H (upd (upd H G (.own q)) q (.ins a.Ai G [])):=λb o e=>by rw[ym (yb e Y),ym (yb e a4)];exact e
 exists q,G,.ref dt,_,rfl,ya,.lst (R _ _ z),.inr ⟨d,yl8 (R _ _ z) ab a8,λpd ps ds H1 W U a2 B1=>⟨rfl,?_⟩⟩;have Z:yr H H1:=λb o e=>B1 b o (R b o e) (yb e Y);have C:H ps=none:=R.free U;have a0:H pd=none:=R.free W
 have nO:∀{c:z4},H c=none->∀i,i<l.n->¬O i c:=λD i hi w=>by
  let⟨o,ho,_⟩:=(hF.B.b i hi).own _ w;rw[D]at ho;cases ho
 have hR:Ë K a H1 p l X f O m q G pd ps ds d s0:=⟨hF.same Z,a2,vgu,λi hi=>⟨nO Y i hi,nO C i hi⟩,(yb hF.el a0).symm⟩;ext;exists p,l,(X,s0),f,O,m,q,G,pd,ps,ds,d,mo,rfl,hR,ac,hm,a9,a6,λN r ml el pl sl f2 O2 H2 hN I J a7 a1 a3 j x=>?_,λS ml el O2 H2 x=>?_
 .have ae:=yrk l d (X,s0) (9*N+1);have aa:((X,s0):FX×Sn).2.2.2=5:=rfl;rw[aa]at ae;have go:=x.fgo Z Y C;have af:=j.sk.me;have L:H2 dt=some (.lst (d.map V.int)):=(go.kpa hF).lst z a5;ext;exists q,G,pd,ps,ds,d,_,rfl,j.sk,j.ok,by show Int.toNat _<=100000;omega,λw H3 ai v S3=>?_
  ext;refine u5 (SqL.of v) ?_;rw[ba];ext;refine ŀ (SqL.of (S3 _ _ L)) λu hu=>?_;have ec:ya0 (d.map V.int) none (some (((tL (rst l d (X,s0) (9*N+1)).2).length:Nat):Int))=(d.take (tL (rst l d (X,s0) (9*N+1)).2).length).map V.int:=by rw[List.map_take];exact ι _
  rw[ec];exists hu,H4,S4,hu4;have y:=go.same (S3.trans S4);ext;refine ve8 _ _ (SqL.of hu4) (SqL.of (S4 _ _ v)) ?_;by_cases D:d.take (tL (rst l d (X,s0) (9*N+1)).2).length=tL (rst l d (X,s0) (9*N+1)).2
  .rw[bn D];ext;refine u5 (SqL.of (S4 _ _ v)) ?_;rw[ba];ext;exists by walk_at "len",λt g=>?_
   refine kQ N t r el O2 _ hN ⟨I,J,D⟩ (y.free g) (Z.free a7) ya (zi g ((S3.trans S4) _ _ a1)) (y.same (yz g)) ⟨a3,ml,pl,sl,f2,((j.ft.same (S3.trans S4)).same (yz g))⟩
  .rw[bo D];ext;exists by walk_at "len",kE (λM hM k=>D (by rw[k.uniq I J];exact k.tk)) el O2 _ y
 .exact kE (λM hM k=>by have e:=S M hM;rw[k.b0]at e;cases e) el O2 H2 (x.fgo Z Y C)
structure vit(H:Hp)(L dt:z4)(lx:V)(n:Nat)(lk:Μ)(kd:Ξ)(tp:Μ)(ps:Λ)(d:Ρ)(mo N w:Nat)(lt:Μ)(tt:Λ):Prop where
 l:H L=some (.lst (refs lk n))
 n1:1<=n
 n6:n<=6
 r:x9 H n lk kd tp ps
 dat:H dt=some (.lst (d.map V.int))
 by':Byt d
 dl:d.length<=12000
 mo1:mo<=1000
 lr:yvw H lx N w lt tt
 w1:w<=1000
 N1:N<=1000
 b:6+6*(N*(9*w+1))+54*mo+200<1000000
def rS(n:Nat)(kd:Ξ)(ps:Λ)(pre:Ρ):FX×Sn:=((FX0 n kd).run (fa0 n ps) pre,s0)
theorem ω(A:FA)(d:Ρ)(S:FX×Sn):∀k,rst A d S k=rst (fa0 A.n A.ps) d S k
 |0=>rfl
 |k+1=>by
  show rnx A d (rst A d S k)=rnx (fa0 A.n A.ps) d (rst (fa0 A.n A.ps) d S k);rw[ω A d S k];rfl
def Ô(A:FA)(d:Ρ)(S:FX×Sn)(k:Nat):á A d S k=á (fa0 A.n A.ps) d S k:=by unfold á;rw[ω];rfl
def ytm(A:FA)(d:Ρ)(S:FX×Sn)(k:Nat):rsg A d S k=rsg (fa0 A.n A.ps) d S k:=by unfold rsg sgB;rw[ω];exact congrArg List.sum (List.map_congr_left λj Z=>by rw[Ô])
def ysf(A:FA)(d:Ρ)(S:FX×Sn)(k:Nat):rtx A d S k=rtx (fa0 A.n A.ps) d S k:=by unfold rtx;exact List.map_congr_left λj Z=>ytm A d S j
def ytd(A:FA)(d:Ρ)(S:FX×Sn)(k:Nat):rTL A d S k=rTL (fa0 A.n A.ps) d S k:=by unfold rTL;rw[ω]
theorem ROk.fa0{A:FA}{d:Ρ}{S:FX×Sn}{N:Nat}:ROk A d S N↔ROk (fa0 A.n A.ps) d S N:=by
 constructor
 .intro h;exists λj a=>by rw[<- Ô];exact h.b1 j a,by rw[<- Ô];exact h.b0,by rw[<- ω];exact h.tk
 .intro h;exists λj a=>by rw[Ô];exact h.b1 j a,by rw[Ô];exact h.b0,by rw[ω];exact h.tk
def yoo{mx:Nat->Int}{d:Ρ}(hd:Byt d){m:Nat}(hc:∀j,j<m->Ch (mx j))(hb:∀j,j<m->bt j=0\/bt j=1)(i:InS d (snK mx bt m)):∀k,k<m->bt k=Ā d (snK mx bt k) (mx k)/\InS d (snK mx bt k):=by
 induction m with
 |zero=>exact λk b=>absurd b (bD k)
 |succ m ih =>
  have e:=(Ý (mx:=mx) (bt:=bt) m λj c=>hc j ()).1;let⟨a,f⟩:=ysg hd e (hc m ()) (hb m ()) i;intro k b;by_cases z:k=m
  .rw[z];exists f,a
  .exact ih (λj c=>hc j ()) (λj c=>hb j ()) a k ()
def vde{k:Nat}(h:k<(dec ts).length):vv ts k=0\/vv ts k=1:=by let⟨b,a⟩:=yet ts k h;omega
def ř(x:Sn):Byt (tL x):=λb a=>yr9 _ _ b a
theorem ą{n:Nat}{kd:Ξ}{ps:Λ}{pre d:Ρ}(hd:Byt d)(hc:∀j,j<(dec ts).length->Ch (zt n kd ps pre ts j))(hi:InS d (snK (zt n kd ps pre ts) (vv ts) (dec ts).length)):∀k,k<=(dec ts).length->rst (fa0 n ps) d (rS n kd ps pre) k=(fX n kd ps pre ts k,snK (zt n kd ps pre ts) (vv ts) k)
 |0,_=>rfl
 |k+1,hk=>by
  have b:=(yoo hd hc (λj e=>vde e) hi k ()).1;have c:(dec ts)[k]?=some (vv ts k):=by unfold vv;rw[bc ()];rfl
  show rnx (fa0 n ps) d (rst (fa0 n ps) d (rS n kd ps pre) k)=_;rw[ą hd hc hi k ()];show ((fX n kd ps pre ts k).see (fa0 n ps) (Ā d (snK (zt n kd ps pre ts) (vv ts) k) (zt n kd ps pre ts k)),nar (snK (zt n kd ps pre ts) (vv ts) k) (zt n kd ps pre ts k) (Ā d (snK (zt n kd ps pre ts) (vv ts) k) (zt n kd ps pre ts k)))=(fX n kd ps pre ts (k+1),nar (snK (zt n kd ps pre ts) (vv ts) k) (zt n kd ps pre ts k) (vv ts k));rw[<- b]
  have a:fX n kd ps pre ts (k+1)=(fX n kd ps pre ts k).see (fa0 n ps) (vv ts k):=by
   unfold fX;rw[zv c]
  rw[a]
def yiv{n:Nat}{kd:Ξ}{ps:Λ}{pre d:Ρ}(hd:Byt d)(hc:∀j,j<(dec ts).length->Ch (zt n kd ps pre ts j))(hi:InS d (snK (zt n kd ps pre ts) (vv ts) (dec ts).length))(k:Nat)(hk:k<(dec ts).length):á (fa0 n ps) d (rS n kd ps pre) k=vv ts k:=by have a:=(yoo hd hc (λj b=>vde b) hi k hk).1;unfold á;rw[ą hd hc hi k ()];exact a.symm
def å(t:Int)(r:Ρ)(k:Nat):vv (t::r) (k+9)=vv r k:=rfl
def yfy(t:Int)(r:Ρ):∀i,i<8->vv (t::r) (1+i)=t/wB i%2:=λi a=>by
 rcases i with _|_|_|_|_|_|_|_|i
 .rfl
 .rfl
 .rfl
 .rfl
 .rfl
 .rfl
 .rfl
 .rfl
 .omega
theorem ġ:∀(ts:Ρ)(j:Nat)(hj:j<ts.length),vv ts (9*j)=1/\∀i,i<8->vv ts (9*j+1+i)=ts[j]/wB i%2
 |[],j,hj=>absurd hj (bD j)
 |t::r,0,_=>⟨rfl,λi a=>by rw[show 9*0+1+i=1+i by omega];exact yfy t r i a⟩
 |t::r,j+1,hj=>by
  let⟨b,c⟩:=ġ r j (by simpa using hj);exists ?_,λi a=>?_
  .rw[show 9*(j+1)=9*j+9 by omega,å];exact b
  .rw[show 9*(j+1)+1+i=9*j+1+i+9 by omega,å];exact c i a
theorem yex:∀ts:Ρ,vv ts (9*ts.length)=0
 |[]=>rfl
 |t::r=>by
  rw[show 9*(t::r).length=9*r.length+9 by rw[bE];omega,å];exact yex r
def ym0(A:FA)(d:Ρ)(S:FX×Sn)(c i:Nat):á A d (rst A d S c) i=á A d S (c+i):=by unfold á;rw[ydn]
def yhs{n:Nat}{kd:Ξ}{ps:Λ}{pre d:Ρ}(hts:Sgs ts)(hd:Byt d)(hc:∀j,j<(dec ts).length->Ch (zt n kd ps pre ts j))(hl:(tL (snK (zt n kd ps pre ts) (vv ts) (dec ts).length)).length<=d.length)(h:d.take (tL (snK (zt n kd ps pre ts) (vv ts) (dec ts).length)).length=tL (snK (zt n kd ps pre ts) (vv ts) (dec ts).length)):
  ROk (fa0 n ps) d (rS n kd ps pre) ts.length/\rtx (fa0 n ps) d (rS n kd ps pre) ts.length=ts/\rTL (fa0 n ps) d (rS n kd ps pre) ts.length=(tL (snK (zt n kd ps pre ts) (vv ts) (dec ts).length)).length:=by
 have o:=(Ý (bt:=vv ts) _ hc).1;have a:=yjs hd o hl h;have c:=xr ts
 have k:rst (fa0 n ps) d (rS n kd ps pre) (9*ts.length+1)=(fX n kd ps pre ts (dec ts).length,snK (zt n kd ps pre ts) (vv ts) (dec ts).length):=by
  rw[<- c];exact ą hd hc a _ (bf _)
 have b:=yiv hd hc a;exists⟨λj m=>?_,?_,?_⟩,?_,?_
 .rw[b _ ()];exact(ġ ts j m).1
 .rw[b _ ()];exact yex ts
 .rw[k];exact h
 .show (List.range ts.length).map (rsg (fa0 n ps) d (rS n kd ps pre))=ts;refine List.ext_getElem (by rw[ba,bQ]) λj q f=>?_;rw[cC,List.getElem_range];have g:=hts ts[j] (bV f);have p:=(ġ ts j f).2
  have e:∀i,i<8->wB i*á (fa0 n ps) d (rst (fa0 n ps) d (rS n kd ps pre) (9*j+1)) i=wB i*(ts[j]/wB i%2):=λi a=>by
   rw[ym0,b _ (),p i a]
  have l:sgB (fa0 n ps) d (rst (fa0 n ps) d (rS n kd ps pre) (9*j+1)) 8=(List.range 8).map λi=>wB i*(ts[j]/wB i%2):=by
   unfold sgB;exact List.map_congr_left λi a=>e i (cc.mp a)
  unfold rsg;rw[l];exact vga g.1 g.2
 .unfold rTL;rw[k]
def yaf{ys:Ρ}(h1:Byt xs)(h2:Byt ys):Byt (xs++ys):=λb a=>by
 rcases bH.mp a with h|h
 .exact h1 b h
 .exact h2 b h
def â(n:Nat)(kd:Ξ)(ps:Λ)(pre ts:Ρ):Ρ:=tL (snK (zt n kd ps pre ts) (vv ts) (dec ts).length)
def ā{n:Nat}{kd:Ξ}{ps:Λ}{pre:Ρ}(n1:1<=n)(n6:n<=6)(hp:yck pre)(hz:ts.length<=300):(â n kd ps pre ts).length<=5500:=by
 have c:=xr ts;let⟨b,a⟩:=Ý (mx:=zt n kd ps pre ts) (bt:=vv ts) (dec ts).length λj Z=>Ħ n1 n6 hp j;unfold â;rw[yka];have:sz (snK (zt n kd ps pre ts) (vv ts) (dec ts).length)<=5500:=by show Int.toNat _<=5500;omega
 omega
def ynp{n:Nat}{kd:Ξ}{ps:Λ}{pre bs:Ρ}(n1:1<=n)(n6:n<=6)(hp:yck pre)(hts:Sgs ts)(hb:Byt bs):
  ROk (fa0 n ps) (â n kd ps pre ts++bs) (rS n kd ps pre) ts.length/\rtx (fa0 n ps) (â n kd ps pre ts++bs) (rS n kd ps pre) ts.length=ts/\rTL (fa0 n ps) (â n kd ps pre ts++bs) (rS n kd ps pre) ts.length=(â n kd ps pre ts).length :=
 yhs hts (yaf (ř _) hb) (λj Z=>Ħ n1 n6 hp j) (by rw[bd];exact Nat.le_add_right _ _) List.take_left
def ytg{n:Nat}{kd:Ξ}{ps:Λ}{pre bs:Ρ}(n1:1<=n)(n6:n<=6)(hp:yck pre)(hb:Byt bs):(rst (fa0 n ps) (â n kd ps pre ts++bs) (rS n kd ps pre) (9*ts.length+1)).1=((FX0 n kd).run (fa0 n ps) pre).run (fa0 n ps) (dec ts):=by have a:∀j,j<(dec ts).length->Ch (zt n kd ps pre ts j):=λj Z=>Ħ n1 n6 hp j;have b:Byt (â n kd ps pre ts++bs):=yaf (ř _) hb;have c:=yjs b (Ý (bt:=vv ts) _ a).1 (by rw[bd];exact Nat.le_add_right _ _) List.take_left;rw[<- xr ts,ą b a c _ (bf _)];unfold fX;rw[cg]
def vfh{x:Sn}{c b:Int}(h:Ok x)(hc:Ch c):(nar x c b).2.1<1099511627776:=by
 let⟨e,d,f⟩:=ycc h.w0 h.w1 hc;have a:=h.w1;unfold nar ren
 (repeat' split)<;>(dsimp only at*;omega)
def yne{n:Nat}{kd:Ξ}{ps:Λ}{pre:Ρ}(n1:1<=n)(n6:n<=6)(hp:yck pre):1<=(â n kd ps pre ts).length:=by
 have f:=xr ts;obtain⟨m,d⟩:∃m,(dec ts).length=m+1:=⟨9*ts.length,()⟩;unfold â;rw[yka,d];have a:∀j,j<m+1->Ch (zt n kd ps pre ts j):=λj Z=>Ħ n1 n6 hp j;have g:=(Ý (bt:=vv ts) m λj k=>a j ()).1;have c:=(Ý (bt:=vv ts) (m+1) a).1;have i:(snK (zt n kd ps pre ts) (vv ts) (m+1)).2.1<1099511627776:=vfh (x:=snK (zt n kd ps pre ts) (vv ts) m) (b:=vv ts m) g.ok (a m ());have h:=yjr (yat c.ok);have l:=c.sz5;have e:pw (tK (snK (zt n kd ps pre ts) (vv ts) (m+1)))<pw 5:=by rw[pw5];omega
 have:=vb5 e;omega
def Ê(L:qi (Ρ)):Ρ:=(L.map dec).flatten
def ģ(L:qi (Ρ))(t:Ρ):Ê (L++[t])=Ê L++dec t:=by unfold Ê;rw[bz,List.flatten_append];simp
def zg(L:qi (Ρ)):yck (Ê L):=λb a=>by
 unfold Ê at a;let⟨l,c,a⟩:=List.mem_flatten.mp a;let⟨t,_,rfl⟩:=bg.mp c;exact jq t b a
def ylw{A:FA}{X:FX}(hts:Sgs ts)(h1:X.sg=[])(h2:X.nd=0):(X.run A (dec ts)).sg=[]/\(X.run A (dec ts)).nd=0:=by
 have a:∀k,k<=(dec ts).length->TxE ts k (X.run A ((dec ts).take k)).sg (X.run A ((dec ts).take k)).nd:=by
  intro k
  induction k with
  |zero =>
   intro _;exact .inl ⟨bJ _,by show yaz _ _ X.sg X.nd;rw[h1,h2];exact yaz.zero _⟩
  |succ k ih =>
   intro d;have b:(dec ts)[k]?=some ((dec ts)[k]'()):=bc _;rw[zv b];exact((ih ()).next hts b).2
 have e:=a _ (bf _);rw[cg]at e;have c:=xr ts;rcases e with⟨h,_⟩|⟨_,h⟩
 .omega
 .exact h
def yvy(p:z4)(A:FA)(O:Β):Ν:=λc=>c=p\/c=A.mp\/(∃j,j<A.n/\c=A.bk j)\/(∃j,j<A.n/\O j c)\/c=A.el
def FZ(K:z3)(a:Ads)(H:Hp)(p:z4)(n:Nat)(kd:Ξ)(ps:Λ)(pre:Ρ)(M:Nat)(W:Ν):Prop :=
 ∃A f O m,zb K a H p A ((FX0 n kd).run (fa0 n ps) pre) f O m/\m<=M/\yvv H A/\A.n=n/\A.kd=kd/\A.ps=ps/\((FX0 n kd).run (fa0 n ps) pre).sg=[]/\((FX0 n kd).run (fa0 n ps) pre).nd=0/\∀c,W c↔yvy p A O c
noncomputable def yr2:HO->Bool
 | .ins _ _ _=>true
 | .dT _=>true
 | .dK _=>true
 | .frz _ (.dK _)=>true
 |_=>false
def vhl(o:qj HO):Prop:=(∃ys,o=some (.lst ys))\/∃ys,o=some (.tup ys)/\(ys.length≠2\/∃i,ys[0]?=some (.int i))
noncomputable def vh0:V->Bool
 | .non=>true
 | .bl _=>true
 |_=>false
def WSh(H:Hp)(W:Ν):Prop:=∀c,W c->∃o,H c=some o/\(yr2 o=true\/∃xs,o=.lst xs/\∀x∈xs,(∃s,x=V.str s)\/vh0 x=true\/∃q,x=V.ref q/\vhl (H q))
def yt0{o:HO}(h:yvs o=true):yr2 o=true:=by cases o<;>first|rfl|cases h
section
variable{H H':Hp}{p:z4}{n:Nat}{kd:Ξ}{ps:Λ}{pre:Ρ}{M:Nat}{W:Ν}
def FZ.sh(h:FZ K a H p n kd ps pre M W):WSh H W:=λc w=>by
 let⟨A,f,O,m,d,_,_,_,_,_,q,_,e⟩:=h;rcases (e c).mp w with z|z|⟨j,g,z⟩|⟨j,g,z⟩|z
 .exists _,by rw[z];exact d.me,.inl rfl
 .exists _,by rw[z];exact d.mx.o,.inl rfl
 .exists _,by rw[z];exact(d.B.b j g).me,.inl rfl
 .obtain⟨o,r,l⟩:=(d.B.b j g).own c z;exists o,r,.inl (yt0 l)
 .have i:=d.el;rw[q]at i;exists _,by rw[z];exact i,.inr ⟨_,rfl,λx k=>by cases k⟩
def FZ.live(h:FZ K a H p n kd ps pre M W):∀c,W c->∃o,H c=some o:=λc w=>let ⟨o,e,_⟩:=h.sh c w;⟨o,e⟩
theorem FZ.same(h:FZ K a H p n kd ps pre M W)(S:yr H H'):FZ K a H' p n kd ps pre M W:=by let⟨A,f,O,m,c,b,d,r⟩:=h;exists A,f,O,m,c.same S,b,d.same S,r
def FZ.up(h:FZ K a H p n kd ps pre M W){M':Nat}(hM:M<=M'):FZ K a H p n kd ps pre M' W:=by let⟨A,f,O,m,c,b,r⟩:=h;exists A,f,O,m,c,bF b hM,r
theorem WSh.tup(h:WSh H W){c:z4}{xs:Υ}(e:H c=some (.tup xs)):¬W c:=λw=>by
 obtain⟨o,a,z|⟨b,z,_⟩⟩:=h c w
 .rw[e]at a;cases a;cases z
 .rw[e,z]at a;cases a
def WSh.ints(h:WSh H W){c:z4}{ns:Ρ}(e:H c=some (.lst (ns.map V.int)))(hn:1<=ns.length):¬W c:=λw=>by
 obtain⟨o,a,z|⟨b,z,q⟩⟩:=h c w
 .rw[e]at a;cases a;cases z
 .rw[e,z]at a;cases a
  cases ns with
  |nil=>cases hn
  |cons x r=>rcases q (.int x) bN with⟨_,z⟩|z|⟨_,z,_⟩<;>cases z
theorem WSh.refs(h:WSh H W){c:z4}{g:Μ}{k:Nat}(e:H c=some (.lst (Law.refs g k)))(hk:1<=k)(hg:¬vhl (H (g 0))):¬W c:=λw=>by
 obtain⟨o,a,z|⟨d,z,q⟩⟩:=h c w
 .rw[e]at a;cases a;cases z
 .rw[e,z]at a;cases a;rcases q (.ref (g 0)) (bB (yve hk))with⟨_,z⟩|z|⟨f,z,b⟩
  .cases z
  .cases z
  .cases z;exact hg b
theorem FZ.frame(h:FZ K a H p n kd ps pre M W)(sh:WSh H W2)(dj:∀c,W c->¬W2 c)(fr:∀c o,H c=some o->¬W2 c->H' c=some o):FZ K a H' p n kd ps pre M W:=by
 let⟨A,f,O,m,j,N,x,T,e2,Y,P,S,q⟩:=h;have k:=j.n1;let⟨tp,d⟩:=x.2.2
 have G:¬W2 A.ll:=sh.refs x.1 k λz=>by
  let⟨I,e,v,_⟩:=d 0 k;cases e;rw[v]at z;rcases z with⟨_,z⟩|⟨_,z,r⟩
  .cases z
  .cases z;exact r.elim (λr=>r rfl) λ⟨_,r⟩=>nomatch r
 have D:¬W2 A.bl:=sh.refs j.bl k λz=>by rw[(j.B.b 0 k).me]at z;rcases z with⟨_,z⟩|⟨_,z,_⟩<;>cases z
 have F:¬W2 A.pl:=sh.refs j.pl k λz=>by
  let⟨_,⟨Q,X⟩,_,_⟩:=j.slot k;let⟨C,fs,R⟩:=π a Q (((FX0 n kd).run (fa0 n ps) pre).g 0 (((FX0 n kd).run (fa0 n ps) pre).key A 0));rw[X,R]at z;rcases z with⟨_,z⟩|⟨_,z,_⟩<;>cases z
 have y:¬W2 A.ml:=sh.ints j.mx.l (by rw[j.wok.len];exact k);exists A,f,O,m,j.frame (O2:=W2) (λc o e U=>fr c o e U) (dj _ ((q _).mpr (.inl rfl))) (dj _ ((q _).mpr (.inr (.inl rfl)))) (λi s=>dj _ ((q _).mpr (.inr (.inr (.inl ⟨i,s,rfl⟩))))) (λi c s w=>dj _ ((q _).mpr (.inr (.inr (.inr (.inl ⟨i,s,w⟩)))))) (λl L E e=>fr _ _ e ?_) (λt L e=>?_),N,⟨fr _ _ x.1 G,x.2.1,tp,λi s=>?_⟩,T,e2,Y,P,S,q
 .rcases E with z|z|z|z
  .rw[z];exact D
  .rw[z];exact dj _ ((q _).mpr (.inr (.inr (.inr (.inr rfl)))))
  .rw[z];exact y
  .rw[z];exact F
 .rcases e with(e|⟨o,e⟩)|e
  .exact .inl (.inl (fr _ _ e (sh.tup e)))
  .refine .inl (.inr ⟨o,fr _ _ e λw=>?_⟩);obtain⟨o',u,z|⟨ys,z,_⟩⟩:=sh t w
   .rw[e]at u;cases u;cases z
   .rw[e,z]at u;cases u
  .exact .inr e
 .obtain⟨I,z,v,J,Z⟩:=d i s;exists I,z,fr _ _ v (sh.tup v),fr _ _ J (sh.tup J),Z
def FZ.went{A:FA}{f f':Α}{m:Nat}{X:FX}{ml el pl:z4}{sl:Μ}(hF:zb K a H p A ((FX0 A.n A.kd).run (fa0 A.n A.ps) pre) f O m)(hl:yvv H A)(hX:X=(FX0 A.n A.kd).run (fa0 A.n A.ps) (pre++dec ts))(hts:Sgs ts)(h4:((FX0 A.n A.kd).run (fa0 A.n A.ps) pre).sg=[])(h5:((FX0 A.n A.kd).run (fa0 A.n A.ps) pre).nd=0)
  (hF':zb K a H' p (A.re ml el pl sl) X f' O' m') (go:FGo p A O H H' el O') (e6:∀c,W c↔yvy p A O c):FZ K a H' p A.n A.kd A.ps (pre++dec ts) m' (yvy p (A.re ml el pl sl) O')/\Go W H H' (yvy p (A.re ml el pl sl) O'):=by
 subst hX;have h:=go.kpa hF;have d:=ylw (A:=fa0 A.n A.ps) hts h4 h5;exists⟨_,f',O',m',hF',bf _,⟨(h _ _ hl.1 rfl hl.2.1).2,(h _ _ hl.1 rfl hl.2.1).1,?_⟩,rfl,rfl,rfl,by rw[Á];exact d.1,by rw[Á];exact d.2,λc=>Iff.rfl⟩,⟨λc o e s=>?_,λc w=>?_,go.live⟩
 .obtain⟨x,r⟩:=hl.2.2;exists x,λi u=>?_;let⟨B,z,k,l,t⟩:=r i u;have q:∀{c:z4}{xs:Υ},H c=some (.tup xs)->c≠A.el:=λe z=>by rw[z,hF.el]at e;cases e
  exists B,z,(h _ _ k rfl (q k)).2,(h _ _ l rfl (q l)).2,t
 .have b:¬yvy p A O c:=λw=>s ((e6 c).mpr w);exact go.fr c o e (λz=>b (.inl z)) (λz=>b (.inr (.inl z))) (λz=>b (.inr (.inr (.inr (.inr z))))) λj g w=>b (.inr (.inr (.inr (.inl ⟨j,g,w⟩))))
 .rcases w with z|z|⟨j,g,z⟩|⟨j,g,z⟩|z
  .exact .inl ((e6 c).mpr (.inl z))
  .exact .inl ((e6 c).mpr (.inr (.inl z)))
  .exact .inl ((e6 c).mpr (.inr (.inr (.inl ⟨j,g,z⟩))))
  .rcases go.hO j c g z with v|v
   .exact .inl ((e6 c).mpr (.inr (.inr (.inr (.inl ⟨j,g,v⟩)))))
   .exact .inr v
  .rcases go.he with y|y
   .exact .inl ((e6 c).mpr (.inr (.inr (.inr (.inr (show c=A.el from Eq.trans z y))))))
   .exact .inr (by rw[show c=el from z];exact y)
def FZ.read{Q:VK}{E:XK}{dt:z4}{bs:Ρ}{mo:Nat}(h:FZ K a H p n kd ps pre M W)(hb:yck pre)(hts:Sgs ts)(hdt:H dt=some (.lst ((â n kd ps pre ts++bs).map V.int)))(ndt:¬W dt)(hbs:Byt bs)(hdl:(â n kd ps pre ts++bs).length<=12000)(hz:ts.length<=mo)(hmo:mo<=1000)(hM:M+54*mo+200<1000000)
  (k:∀t r W' H',H t=none->H r=none->H' t=some (.tup [.ref r,.int ((â n kd ps pre ts).length:Nat)])->H' r=some (.lst (ts.map V.int))->FZ K a H' p n kd ps (pre++dec ts) (M+6*(dec ts).length) W'->Go W H H' W'->¬W' r->Q (.ref t) H'):ybk K a [.ref p,.ref dt,.int mo] H Q E:=by
 let⟨A,f,O,m,l,hm,hl,rfl,rfl,rfl,P,S,X⟩:=h;let⟨q,G,v⟩:=ynp (kd:=A.kd) (ps:=A.ps) (pre:=pre) (bs:=bs) l.n1 l.n6 hb hts hbs;have I:Byt (â A.n A.kd A.ps pre ts++bs):=yaf (ř _) hbs;exists p,A,_,f,O,m,dt,_,mo,rfl,l,hdt,λz=>ndt ((X _).mpr (.inr (.inr (.inr (.inr z))))),I,hdl,hmo,(),by rw[S];decide,by rw[P];exact bJ _,λN t r J Z H' hN i u C s d U c=>?_,λD J Z H' U=>?_
 .rw[ROk.fa0]at i;obtain rfl:N=ts.length:=q.uniq i.b1 i.b0;rw[ytd]at s;rw[ysf]at d;have s:H' t=some (.tup [.ref r,.int (rTL (fa0 A.n A.ps) (â A.n A.kd A.ps pre ts++bs) (rS A.n A.kd A.ps pre) ts.length)]):=s;have d:H' r=some (.lst ((rtx (fa0 A.n A.ps) (â A.n A.kd A.ps pre ts++bs) (rS A.n A.kd A.ps pre) ts.length).map V.int)):=d;rw[v]at s;rw[G]at d;let⟨x,Y,T,L,f',c⟩:=c;have y:=xr ts
  have eX:(rst A (â A.n A.kd A.ps pre ts++bs) ((FX0 A.n A.kd).run (fa0 A.n A.ps) pre,s0) (9*ts.length+1)).1=(FX0 A.n A.kd).run (fa0 A.n A.ps) (pre++dec ts):=by
   rw[ω,Á];exact ytg l.n1 l.n6 hb hbs
  let⟨z,g⟩:=FZ.went l hl eX hts P S c U X;refine k t r _ H' u C s d (z.up ()) g λw=>?_;rcases w with w|w|⟨j,F,w⟩|⟨j,F,w⟩|w
  .have e:=c.me;rw[<- w,d]at e;cases e
  .have e:=c.mx.o;rw[show r=(A.re Y J T L).mp from w]at d;rw[d]at e;cases e
  .have e:=(c.B.b j F).me;rw[show r=(A.re Y J T L).bk j from w]at d;rw[d]at e;cases e
  .obtain⟨o,R,hi⟩:=(c.B.b j F).own _ w;rw[d]at R;cases R;cases hi
  .exact x w
 .exact(D ts.length hz (by rw[ROk.fa0];exact q)).elim
def FZ.press{Q:VK}{E:XK}{tx:z4}(h:FZ K a H p n kd ps pre M W)(htx:j8 H tx ts 1000)(ntx:¬W tx)(hM:M+6*(dec ts).length+20<1000000)
  (k:∀r W' H',H r=none->H' r=some (.lst ((â n kd ps pre ts).map V.int))->FZ K a H' p n kd ps (pre++dec ts) (M+6*(dec ts).length) W'->Go W H H' W'->Q (.ref r) H'):yem K a [.ref p,.ref tx] H Q E:=by
 let⟨A,f,O,m,o,y,v,rfl,rfl,rfl,d,i,l⟩:=h;exists p,A,_,f,O,m,tx,ts,rfl,o,d,i,htx,λz=>ntx ((l _).mpr (.inr (.inr (.inr (.inr z))))),(),λr G F D x I B C H' c q b u t=>?_
 have w:((FX0 A.n A.kd).run (fa0 A.n A.ps) pre).run A (dec ts)=(FX0 A.n A.kd).run (fa0 A.n A.ps) (pre++dec ts):=by rw[Á];exact Ã A _ _
 let⟨z,g⟩:=FZ.went o v w htx.s d i b t l;refine k r _ H' c ?_ (z.up ()) g;rw[q];have e:snK (yfv A ((FX0 A.n A.kd).run (fa0 A.n A.ps) pre) ts) (vv ts) (dec ts).length=snK (zt A.n A.kd A.ps pre ts) (vv ts) (dec ts).length:=Ģ _ λj Z=>⟨by unfold zt yfv fX;rw[Ã A];rfl,rfl⟩;rw[e];rfl
end
noncomputable def nmL(L:Η):Υ:=L.map λx=>V.str x.1
def yci(H:Hp)(U:Ν):qi (Str×qi Int)->qi V->Prop
 |[],ks=>ks=[]
 |x::r,ks=>∃k ks',ks=k::ks'/\(k=.non\/∃q,k=.ref q/\H q=some (.lst (x.2.map V.int))/\¬U q)/\yci H U r ks'
theorem yci.len{H:Hp}:∀{L:Η}{ks:Υ},yci H U L ks->ks.length=L.length
 |[],_,h=>by rw[show _=_ from h];rfl
 |_::r,_,⟨_,_,e,_,h⟩=>by rw[e,bE,bE,h.len]
theorem yci.mono{H H':Hp}(f:∀q xs,H q=some (.lst xs)->¬U q->H' q=some (.lst xs)/\¬U' q):∀{L:Η}{ks:Υ},yci H U L ks->yci H' U' L ks
 |[],_,h=>h
 |_::_,_,⟨k,ks',e,z,h⟩=>⟨k,ks',e,z.imp id λ⟨q,e,b,a⟩=>⟨q,e,f q _ b a⟩,h.mono f⟩
theorem yci.snoc{H:Hp}{nm:Str}{t:Ρ}{k:V}(hk:k=.non\/∃q,k=.ref q/\H q=some (.lst (t.map V.int))/\¬U q):∀{L:Η}{ks:Υ},yci H U L ks->yci H U (L++[(nm,t)]) (ks++[k])
 |[],_,h=>by rw[show _=_ from h];exists k,[],rfl,hk,rfl
 |_::_,_,⟨k',ks',e,z,h⟩=>⟨k',ks'++[k],by rw[e];rfl,z,h.snoc hk⟩
theorem yci.mem{H:Hp}:∀{L:Η}{ks:Υ},yci H U L ks->∀x∈ks,x=.non\/∃q ys,x=.ref q/\H q=some (.lst ys)/\¬U q
 |[],_,h,x,hx=>by rw[show _=_ from h]at hx;cases hx
 |_::_,_,⟨k,ks',e,z,h⟩,x,hx=>by
  rw[e]at hx;rcases bq.mp hx with y|y
  .rw[y];exact z.imp id λ⟨q,e,b,a⟩=>⟨q,_,e,b,a⟩
  .exact h.mem x y
def ChW(ll tl:z4)(W:Ν):Ν:=λc=>c=ll\/c=tl\/W c
structure Ì(K:z3)(a:Ads)(H:Hp)(c dc p ll tl:z4)(n:Nat)(kd:Ξ)(ps:Λ)(L:Η)(ks:Υ)(M:Nat)(W:Ν):Prop where
 me:H c=some (.ins a.A2 dc (j5 (.ref p) (.ref ll) (.ref tl)))
 fz:FZ K a H p n kd ps (Ê (L.map (·.2))) M W
 hl:H ll=some (.lst (nmL L))
 ht:H tl=some (.lst ks)
 tx:yci H (ChW ll tl W) L ks
 nc:¬W c
 nll:¬W ll
 ntl:¬W tl
 ne:ll≠tl
def FZ.new{H:Hp}{p dp l:z4}{n:Nat}{lk:Μ}{kd:Ξ}{ps:Λ}{Q:VK}{E:XK}(np:H p=none)(ndp:H dp=none)(hl:H l=some (.lst (refs lk n)))(n1:1<=n)(n6:n<=6)(r:x9 H n lk kd tp ps)
  (k:∀W H',FZ K a H' p n kd ps [] 6 W->(∀c,W c->H c=none)->yr H H'->(∀y xs H'',H y=some (.lst xs)->But y H' H''->FZ K a H'' p n kd ps [] 6 W)->Q .non H'):yd5 K a [.ref p,.ref l] (upd (upd H dp (.own p)) p (.ins a.A3 dp [])) Q E:=by
 have d:yr H (upd (upd H dp (.own p)) p (.ins a.A3 dp [])):=λb o e=>by rw[ym (yb e np),ym (yb e ndp)];exact e
 exists p,dp,.ref l,rfl,ya,.inr ⟨l,n,lk,kd,tp,ps,rfl,d _ _ hl,n1,n6,r.same d,λA f O F Y U=>?_⟩;have v:yr H F:=λb o e=>U b o (d b o e) (yb e np);let⟨h,rfl,rfl,rfl,rfl,L,M,P,T,u,q,I⟩:=Y;refine k (yvy p A O) F ⟨A,f,O,6,h,bf _,⟨u,q,tp,r.same v⟩,rfl,rfl,rfl,rfl,rfl,λc=>Iff.rfl⟩ (λc w=>?_) v (λy xs H2 S b=>?_)
 .rcases w with z|z|⟨j,J,z⟩|⟨j,J,z⟩|z
  .rw[z];exact np
  .rw[z];exact d.free P
  .rw[z];exact d.free (M j J)
  .exact d.free (L j c J z)
  .exact d.free (T c (.inr (.inl z)))
 .have g:∀{x:z4},H x=none->x≠y:=λ{x}e z=>by rw[z,S]at e;cases e
  have m:=v _ _ S;have D:∀{x:z4}{B:Υ},F x=some (.tup B)->x≠y:=λ{x B}e z=>by rw[z,m]at e;cases e
  exists A,f,O,6,h.frame (O2:=λc=>c=y) (λc o e X=>b c o e X) (g np) (g (d.free P)) (λi s=>g (d.free (M i s))) (λi c s w=>g (d.free (L i c s w))) (λl B G e=>b _ _ e (g (d.free (T l G)))) (λt B e=>?_),bf _,⟨b _ _ u (g (d.free I)),q,tp,λi s=>?_⟩,rfl,rfl,rfl,rfl,rfl,λc=>Iff.rfl
  .rcases e with(e|⟨o,e⟩)|e
   .exact .inl (.inl (b _ _ e (D e)))
   .exact .inl (.inr ⟨o,b _ _ e (λz=>by rw[z,m]at e;cases e)⟩)
   .exact .inr e
  .obtain⟨C,e,R,N,Z⟩:=r.same v i s;exists C,e,b _ _ R (D R),b _ _ N (D N),Z
@[irreducible] def yog(c:Nat):Bool:=!(Builtin.Str.occurrences "abcdefghijklmnopqrstuvwxyz" ⟨#[c]⟩ 0 (Str.length "abcdefghijklmnopqrstuvwxyz") 1).isEmpty
noncomputable def nmS(x:Str):Bool:=decide (1<=(x.length:Int)) && (decide ((x.length:Int)<=8) && x.cps.toList.all yog)
def nmV:V->Bool
 | .str x=>nmS x
 |_=>false
def ytv(x:Str):(List.range x.cps.size).map (λi=>V.bl (yog (x.cps.toList.getD i 0)))=(x.cps.toList.map yog).map V.bl:=by
 rw[bO];refine List.ext_getElem? λi=>?_;rw[bi,bi];by_cases hi:i<x.cps.size
 .rw[cj hi,bc (by rw[ci];exact hi),cH,cH,bI,bc (by rw[ci];exact hi),Option.getD_some,Function.comp_apply]
 .rw[bK (by rw[bQ];omega),bK (by rw[ci];omega),Option.map_none,Option.map_none]
def va3{x:Str}(h1:(1:Int)<=(x.length:Int))(h8:(x.length:Int)<=8):nmV (.str x)=(x.cps.toList.map yog).all id:=by
 have e:nmV (.str x)=nmS x:=by unfold nmV;rfl
 rw[e];unfold nmS;rw[bn h1,bn h8,List.all_map,Function.id_comp,Bool.true_and,Bool.true_and]
def yy1{x:Str}(h8:¬(x.length:Int)<=8):nmV (.str x)=false:=by
 have e:nmV (.str x)=nmS x:=by unfold nmV;rfl
 rw[e];unfold nmS;rw[bo h8,Bool.false_and,Bool.and_false]
def yx7{x:Str}(h1:¬(1:Int)<=(x.length:Int)):nmV (.str x)=false:=by
 have e:nmV (.str x)=nmS x:=by unfold nmV;rfl
 rw[e];unfold nmS;rw[bo h1,Bool.false_and]
def vaa{x:V}(h:nmV x=true):∃b,x=.str b/\nmS b=true:=by
 cases x with
 |str b=>exact⟨b,rfl,h⟩
 |_=>cases h
def xq{x:Str}(h:nmS x=true):x.length<=8:=by unfold nmS at h;simp only[bL,decide_eq_true_eq]at h;have:=h.2.1;omega
noncomputable def smS:Str:=Str.ofString "abcdefghijklmnopqrstuvwxyz"
def yce:smS.length=26:=by right
def vas:∀i,i<26->smS.cps[i]?=some (97+i):=by right
def yla{i:Int}(h0:0<=i)(h1:i<26):smS.cps[i.toNat]?=some (97+i.toNat):=vas _ ()
def yy7:∀i,i<26->yog (97+i)=true:=by right
def ĳ(l:qi Nat):Prop:=∀c,c∈l->97<=c/\c<123
def ĳ.app{l m:qi Nat}(h:ĳ l)(g:ĳ m):ĳ (l++m):=λc a=>(bH.mp a).elim (h c) (g c)
def ĳ.one{c:Nat}(h:97<=c/\c<123):ĳ [c]:=λd a=>by rw[bp.mp a];exact h
theorem ĳ.take{l:qi Nat}(h:ĳ l)(k:Nat):ĳ (l.take k):=λc a=>h c (cy a)
theorem ĳ.drop{l:qi Nat}(h:ĳ l)(k:Nat):ĳ (l.drop k):=λc a=>h c (List.mem_of_mem_drop a)
def vcy{x:Str}(h:ĳ x.cps.toList)(h1:1<=x.cps.toList.length)(h8:x.cps.toList.length<=8):nmS x=true/\PyData.strOk x=true:=by
 have e:x.length=x.cps.toList.length:=by simp[Str.length]
 exists ?_,?_
 .unfold nmS;rw[bn (),bn (),Bool.true_and,Bool.true_and,List.all_eq_true];intro c a;let⟨d,b⟩:=h c a;have:=yy7 (c-97) ()
  rwa[show 97+(c-97)=c by omega]at this
 .unfold PyData.strOk;rw[<- Array.all_toList,List.all_eq_true];intro c a;let⟨d,b⟩:=h c a;exact bn ()
def xh(x y:Str):(x++y).cps.toList=x.cps.toList++y.cps.toList:=by rw[PySem.Str.cps_append,Array.toList_append]
def z9(x:Str):x.length=x.cps.toList.length:=by simp[Str.length]
noncomputable def yoc(z:Str)(j:Nat)(c:Nat):Str:=Txt.slice z none (some (j:Int))++⟨#[c]⟩++Txt.slice z (some (j:Int)) none
def Ø{z:Str}{c:Nat}(hj:j<=z.length):(yoc z j c).cps.toList=z.cps.toList.take j++[c]++z.cps.toList.drop j:=by unfold yoc;rw[xh,xh,ymt hj,ygj hj]
def yu7{z:Str}{c:Nat}(hj:j<=z.length)(hz:ĳ z.cps.toList)(hc:97<=c/\c<123)(h7:z.length<=7):nmS (yoc z j c)=true/\PyData.strOk (yoc z j c)=true:=by
 have e:=z9 z;refine vcy ?_ ?_ ?_
 .rw[Ø hj];exact((hz.take j).app (.one hc)).app (hz.drop j)
 .rw[Ø hj];simp;omega
 .rw[Ø hj,bd,bd,bU,cu,bX];omega
def ym7{z:Str}{c d:Nat}(hj:j<=z.length)(e:yoc z j c=yoc z j d):c=d:=by have h:=congrArg (λx:Str=>x.cps.toList) e;simp only[Ø hj]at h;rw[bW,bW]at h;have a:=List.append_cancel_left h;simp at a;exact a
def yhz{z:Str}(hj:j<=z.length)(o m:Nat):((List.range m).map λi=>yoc z j (97+o+i)).Nodup :=
 List.Pairwise.map (R:=λa b=>a≠b) _ (λa b h e=>h (by have:=ym7 hj e;omega)) List.nodup_range
theorem ĝ{H:Hp}:∀ns:Τ,yrz K H (ns.map V.str) (ns.map PyData.str)
 |[]=>.nil
 |n::r=>.cons (.str n) (ĝ r)
theorem ę:∀ns:Τ,(∀x,x∈ns->PyData.strOk x=true)->PyData.canLayAll0 (ns.map PyData.str)=true
 |[],_=>rfl
 |x::r,h=>by simp[PyData.canLayAll0,PyData.canLay0,h x bN,ę r λy a=>h y (bM _ a)]
theorem Ŋ:∀ns:Τ,PyData.depthAll (ns.map PyData.str)=0
 |[]=>rfl
 |_::r=>by simp[PyData.depthAll,PyData.depth,Ŋ r]
def Đ(ns:Τ)(h:∀x,x∈ns->PyData.strOk x=true):SeqAt.shaped (.list (ns.map PyData.str))=true:=by simp[SeqAt.shaped,PyData.canLay0,PyData.depth,ę ns h,Ŋ]
theorem Ė:∀ns ms:Τ,PyData.eqvAll (ns.map PyData.str) (ms.map PyData.str)=decide (ns=ms)
 |[],[]=>by simp[PyData.eqvAll]
 |[],_::_=>by simp[PyData.eqvAll]
 |_::_,[]=>by simp[PyData.eqvAll]
 |a::r,b::t=>by
  simp only[bS,PyData.eqvAll,PyData.eqv,Ė r t];by_cases h:a=b<;>by_cases h':r=t<;>simp[h,h']
def ype{g:Bool->Bool}{H:Hp}{Q:VK}{a b:z4}(ns ms:Τ)(hn:∀x,x∈ns->PyData.strOk x=true)(hm:∀x,x∈ms->PyData.strOk x=true)(ha:SqL K H a (ns.map V.str))(hb:SqL K H b (ms.map V.str))(h:Q (.bl (g (decide (ns=ms)))) H):vgy K g (.ref a) (.ref b) H Q :=
 ⟨_,_,.lst ha (ĝ ns),.lst hb (ĝ ms),Đ ns hn,Đ ms hm,by rw[PyData.eqv,Ė];exact h⟩
structure Pc where
 nm:Str
 bs:Φ
 path:Η
 tx:Ρ
 ob:z4
 od:z4
 dl:z4
noncomputable def baV:qj Str->V
 |none=>.non
 |some b=>.str b
def Pc.by(n:Nat)(kd:Ξ)(ps:Λ)(q:Pc):Ρ:=â n kd ps (Ê (q.path.map (·.2))) q.tx
noncomputable def pcs(P:qi Pc):Κ:=P.map λq=>(.inr q.nm,.ref q.ob)
def To(P:qi Pc):qj Str->qi (Str×qi Int)->Prop
 |none,L=>L=[]
 |some b,L=>∃r,r∈P/\r.nm=b/\L=r.path++[(b,r.tx)]
structure Š(a:Ads)(H:Hp)(d:z4)(n:Nat)(kd:Ξ)(ps:Λ)(w:Nat)(P:qi Pc):Prop where
 dk:H d=some (.dK (pcs P))
 ob:∀q,q∈P->H q.ob=some (.ins a.Aa q.od (Ī (baV q.bs) (.ref q.dl)))/\H q.dl=some (.lst ((q.by n kd ps).map V.int))
 nd:(P.map (·.nm)).Nodup
 wf:∀q,q∈P->To P q.bs q.path
 sz:∀q,q∈P->Sgs q.tx/\q.tx.length<=w/\q.path.length<=60/\(∀x,x∈q.path->Sgs x.2/\x.2.length<=w)
 z:P.length<=60
 nm:∀q,q∈P->nmS q.nm=true/\PyData.strOk q.nm=true
theorem yky:∀{P:qi Pc}{r:Pc},(P.map (·.nm)).Nodup->r∈P->z5 (pcs P) (.inr r.nm)=some (.ref r.ob)
 |q::P,r,hn,hr=>by
  have a:=cB.mp hn;by_cases e:q.nm=r.nm
  .rcases bq.mp hr with z|z
   .subst z;unfold z5 pcs;rw[bS,List.find?_cons_of_pos (by simp)];rfl
   .exact absurd (bg.mpr ⟨r,z,e.symm⟩) a.1
  .rcases bq.mp hr with z|z
   .exact absurd (by rw[z]) e
   .unfold z5 pcs;rw[bS,List.find?_cons_of_neg (by simpa using e)];exact yky a.2 z
def ypk{P:qi Pc}{x:Str}(h:∀q,q∈P->q.nm≠x):z5 (pcs P) (.inr x)=none:=by
 unfold z5 pcs;rw[List.find?_eq_none.mpr λy a=>?_]
 .rfl
 .obtain⟨q,b,e⟩:=bg.mp a;rw[<- e];simpa using h q b
def Š.same{H H':Hp}{d:z4}{n:Nat}{kd:Ξ}{ps:Λ}{w:Nat}{P:qi Pc}(h:Š a H d n kd ps w P)(S:yr H H'):Š a H' d n kd ps w P :=
 ⟨S _ _ h.dk,λq b=>⟨S _ _ (h.ob q b).1,S _ _ (h.ob q b).2⟩,h.nd,h.wf,h.sz,h.z,h.nm⟩
def ysa(x:Str)(t:Ρ)(S:Η):(nmL ((x,t)::S)).reverse=(nmL S).reverse++[.str x]:=by unfold nmL;rw[bS,List.reverse_cons]
def To.len{H:Hp}{d:z4}{n:Nat}{kd:Ξ}{ps:Λ}{w:Nat}{P:qi Pc}{x:Φ}(h:Š a H d n kd ps w P)(t:To P x L):L.length<=61:=by
 cases x with
 |none=>rw[show L=[]from t];exact bJ _
 |some b =>
  let⟨r,c,_,e⟩:=t;have:=(h.sz r c).2.2.1;rw[e,bd,bX];omega
def Š.get{H:Hp}{d:z4}{n:Nat}{kd:Ξ}{ps:Λ}{w:Nat}{P:qi Pc}{r:Pc}(h:Š a H d n kd ps w P)(hr:r∈P):İ H d (.str r.nm) (some (.ref r.ob)):=by rw[<- yky h.nd hr];exact İ.k (k:=.inr r.nm) h.dk
def vd8{α:Type}{f:α->Str}{P:qi α}{q r:α}(hn:(P.map f).Nodup)(hq:q∈P)(hr:r∈P)(e:f q=f r):q=r:=by
 induction P with
 |nil=>cases hq
 |cons x P ih =>
  have a:=cB.mp hn;rcases bq.mp hq with z|z<;>rcases bq.mp hr with y|y
  .rw[z,y]
  .exact absurd (bg.mpr ⟨r,y,by rw[<- e,z]⟩) a.1
  .exact absurd (bg.mpr ⟨q,z,by rw[e,y]⟩) a.1
  .exact ih a.2 z y
def vfv{P:qi Pc}{q r:Pc}(hn:(P.map (·.nm)).Nodup)(hq:q∈P)(hr:r∈P)(e:q.nm=r.nm):q=r:=vd8 hn hq hr e
def To.uniq{P:qi Pc}{x:Φ}(hn:(P.map (·.nm)).Nodup)(h:To P x L)(g:To P x M):L=M:=by
 cases x with
 |none=>rw[show L=[]from h,show M=[]from g]
 |some b =>
  let⟨r,f,e,c⟩:=h;let⟨q,i,a,d⟩:=g;obtain rfl:=vfv hn f i (e.trans a.symm);rw[c,d]
theorem To.pre{P:qi Pc}(wf:∀q,q∈P->To P q.bs q.path){b:Str}{t:Ρ}{A:Η}:∀(m:Nat){x:Φ}{B:Η},B.length<=m->To P x (A++[(b,t)]++B)->To P (some b) (A++[(b,t)])
 |m,none,B,_,h=>by
  have e:=congrArg List.length (show A++[(b,t)]++B=[]from h);rw[bd,bd]at e;simp at e
 |m,some c,B,hm,⟨r,hr,e1,e2⟩=>by
  rcases List.eq_nil_or_concat B with z|⟨i,y,z⟩
  .subst z;rw[cO]at e2;have a:=List.append_inj' e2 rfl;let⟨f,g⟩:=a;cases g;exists r,hr,e1,by rw[f]
  .subst z;rw[List.concat_eq_append]at e2 hm;rw[<- bW]at e2;have a:=(List.append_inj' e2 rfl).1
   cases m with
   |zero=>rw[bd]at hm;simp at hm
   |succ m =>
    have d:=wf r hr;rw[<- a]at d;exact To.pre wf m (by rw[bd,bX]at hm;omega) d
def To.ahead{P:qi Pc}(hn:(P.map (·.nm)).Nodup)(wf:∀q,q∈P->To P q.bs q.path){x y:Φ}(h:To P x L)(g:To P y M)(e:nmL L=(nmL M).take L.length):L=M.take L.length:=by
 cases x with
 |none=>rw[show L=[]from h];rfl
 |some b =>
  let⟨r,o,n,c⟩:=id h;have m:L.length=r.path.length+1:=by rw[c,bd,bX]
  have d:=congrArg List.length e;unfold nmL at d;rw[bU,ba,ba]at d;have a:r.path.length<M.length:=()
  have i:M=M.take r.path.length++[M[r.path.length]]++M.drop (r.path.length+1):=by
   rw[bW,List.singleton_append,<- cM a,List.take_append_drop]
  have k:(M[r.path.length]).1=b:=by
   have z:=congrArg (λl=>l[r.path.length]?) e;unfold nmL at z;simp only[bi,List.getElem?_take]at z;rw[if_pos (),c,cn (bf _),Nat.sub_self,bc a]at z;simp at z;exact z.symm
  have g2:=g;rw[i]at g2;have f:M[r.path.length]=(b,(M[r.path.length]).2):=by rw[<- k]
  rw[f]at g2;have g3:=To.pre wf _ (bf _) g2;have j:=To.uniq hn h g3;rw[j,<- f,<- bY a]
  congr 1
  rw[bU];omega
def Š.getNo{H:Hp}{d:z4}{n:Nat}{kd:Ξ}{ps:Λ}{w:Nat}{P:qi Pc}{x:Str}(h:Š a H d n kd ps w P)(hx:∀q,q∈P->q.nm≠x):İ H d (.str x) none:=by rw[<- ypk hx];exact İ.k (k:=.inr x) h.dk
def vee(P:qi Pc)(b:Str):(∃r,r∈P/\r.nm=b)\/∀q,q∈P->q.nm≠b:=by
 by_cases h:∃r,r∈P/\r.nm=b
 .exact .inl h
 .exact .inr λq a e=>h ⟨q,a,e⟩
theorem To.sz{H:Hp}{d:z4}{n:Nat}{kd:Ξ}{ps:Λ}{w:Nat}{P:qi Pc}{x:Φ}(h:Š a H d n kd ps w P)(t:To P x L):∀y,y∈L->Sgs y.2/\y.2.length<=w:=by
 cases x with
 |none=>intro y c;rw[show L=[]from t]at c;cases c
 |some b =>
  let⟨r,j,_,e⟩:=t;let⟨f,g,_,i⟩:=h.sz r j;intro y c;rw[e]at c;rcases bH.mp c with z|z
  .exact i y z
  .rw[bp.mp z];exists f,g
def To.at'{P:qi Pc}(wf:∀q,q∈P->To P q.bs q.path){x:Φ}(t:To P x L)(hj:j<L.length):∃r,r∈P/\L[j]=(r.nm,r.tx)/\r.path=L.take j/\To P (some r.nm) (L.take (j+1)):=by
 have f:L=L.take j++[(L[j].1,L[j].2)]++L.drop (j+1):=by
  rw[bW,List.singleton_append,<- cM hj,List.take_append_drop]
 rw[f]at t;have d:=To.pre wf _ (bf _) t;let⟨r,h,b,e⟩:=id d;let⟨a,c⟩:=List.append_inj' e rfl
 cases r with|mk nm bs path tx ob od dl =>
 simp only at b a c;subst b;have g:L[j].2=tx:=by cases c;rfl
 exists _,h,?_,a.symm,?_
 .show L[j]=(L[j].1,tx);rw[<- g]
 .rw[bY hj];exact d
def To.nms{P:qi Pc}(wf:∀q,q∈P->To P q.bs q.path){x:Φ}(t:To P x L){y:Str×qi Int}(hy:y∈L):∃r,r∈P/\r.nm=y.1:=by let⟨j,c,e⟩:=List.mem_iff_getElem.mp hy;let⟨r,a,b,_⟩:=t.at' wf c;exists r,a,by rw[<- e,b]
def To.ok{H:Hp}{d:z4}{n:Nat}{kd:Ξ}{ps:Λ}{w:Nat}{P:qi Pc}{x:Φ}(h:Š a H d n kd ps w P)(t:To P x L):∀y,y∈L.map (·.1)->PyData.strOk y=true:=λy c=>by
 let⟨u,b,rfl⟩:=bg.mp c;let⟨r,f,e⟩:=t.nms h.wf b;rw[<- e];exact(h.nm r f).2
def è(L:Η):nmL L=(L.map (·.1)).map V.str:=by unfold nmL;rw[bO];rfl
def ă(L:Η)(k:Nat):(nmL L).take k=nmL (L.take k):=by unfold nmL;rw[List.map_take]
def Â(L:Η):(nmL L).length=L.length:=ba _
def yo8(h:L.map (·.1)=M.map (·.1)):nmL L=nmL M:=by rw[è,è,h]
theorem yd4{w:Nat}:∀L:qi (Ρ),(∀x,x∈L->x.length<=w)->(Ê L).length<=L.length*(9*w+1)
 |[],_=>bJ _
 |t::L,h=>by
  have e:Ê (t::L)=dec t++Ê L:=rfl;have b:=h t bN;have c:=yd4 L λx a=>h x (bM _ a);have d:=xr t;rw[e,bd,bE,Nat.succ_mul];omega
noncomputable def txi(L:Η)(i:Nat):Ρ:=(L.map (·.2)).getD i []
def mOf(L:Η):Nat:=6+6*(Ê (L.map (·.2))).length
def NK(H:Hp)(ks ks':Υ):Prop:=∀q,V.ref q∈ks'->V.ref q∈ks\/H q=none
def NK.refl{H:Hp}{ks:Υ}:NK H ks ks:=λZ h=>.inl h
def NK.nil{H:Hp}{ks:Υ}:NK H ks []:=λZ h=>nomatch h
def NK.trans{H H1:Hp}{k1 k2 k3:Υ}(h:NK H k1 k2)(g:NK H1 k2 k3)(f:∀q,H1 q=none->H q=none):NK H k1 k3:=λq a=>(g q a).elim (h q) λz=>.inr (f q z)
def NK.app{H:Hp}{ks ks':Υ}{v:V}(h:NK H ks ks')(g:∀q,v=.ref q->H q=none):NK H ks (ks'++[v]):=λq a=>(bH.mp a).elim (h q) λz=>.inr (g q (bp.mp z).symm)
def StW(c cl ct:z4)(U:Ν):Ν:=λx=>x=c\/ChW cl ct U x
structure ju(K:z3)(a:Ads)(H:Hp)(st ds ll d c dc p cl ct:z4)(lk tp:Μ)(n:Nat)(kd:Ξ)(ps:Λ)(mo w:Nat)(P:qi Pc)(L:Η)(ks:Υ)(U:Ν):Prop where
 me:H st=some (.ins a.A0 ds (xc (.ref ll) (.int mo) (.ref d) (.ref c)))
 n1:1<=n
 n6:n<=6
 lo:H ll=some (.lst (refs lk n))
 row:x9 H n lk kd tp ps
 pz:Š a H d n kd ps w P
 ch:Ì K a H c dc p cl ct n kd ps L ks (mOf L) U
 nw:∀x,(x=st\/x=ll\/x=d\/∃q,q∈P/\(x=q.ob\/x=q.dl))->¬StW c cl ct U x
 mo1:mo<=1000
 wm:w<=mo/\w<=200
 way:∃x,To P x L
def Ì.but{H H':Hp}{c p ll:z4}{n:Nat}{kd:Ξ}{ps:Λ}{ks:Υ}{M:Nat}{W:Ν}(h:Ì K a H c dc p ll tl n kd ps L ks M W){C:z4}{fs:Ι}(hq:H q=some (.ins C dq fs))(nq:¬StW c ll tl W q)(B:But q H H'):Ì K a H' c dc p ll tl n kd ps L ks M W:=by
 have b:∀{x:z4}{d:Υ},H x=some (.lst d)->x≠q:=λ{x d}e z=>by rw[z,hq]at e;cases e
 exists B _ _ h.me λz=>nq (.inl z.symm),h.fz.frame (W2:=λx=>x=q) (λx z=>⟨.ins C dq fs,by rw[show x=q from z];exact hq,.inl rfl⟩) (λx w z=>nq (.inr (.inr (.inr (by rw[<- show x=q from z];exact w))))) (λx o e f=>B x o e f),B _ _ h.hl (b h.hl),B _ _ h.ht (b h.ht),h.tx.mono λx d e g=>⟨B _ _ e (b e),g⟩,h.nc,h.nll,h.ntl,h.ne
def yd6(L:Η)(x:Str)(t:Ρ):mOf (L++[(x,t)])=mOf L+6*(dec t).length:=by unfold mOf;rw[bz,show List.map (λx:Str×qi Int=>x.2) [(x,t)]=[t]from rfl,ģ,bd];omega
def ykk{w:Nat}(h:∀y,y∈L->y.2.length<=w)(hw:w<=200)(hl:L.length<=61):mOf L<=660000:=by
 have b:=yd4 (w:=w) (L.map (·.2)) λx a=>by
  let⟨y,c,rfl⟩:=bg.mp a;exact h y c
 rw[ba]at b;have d:L.length*(9*w+1)<=61*1801:=Nat.mul_le_mul hl ();unfold mOf;omega
def StO(st c cl ct:z4)(U:Ν):Ν:=λy=>y=st\/StW c cl ct U y
def Go.or{W Y:Ν}{H H':Hp}(g:Go W H H' W'):Go (λx=>Y x\/W x) H H' (λx=>Y x\/W' x) :=
 ⟨λc o e a=>g.fr c o e λw=>a (.inr w),λc w=>w.elim (λy=>.inl (.inl y)) λw=>(g.nw c w).imp .inr id,g.lv⟩
def Ì.noTup{H:Hp}{c p ll:z4}{n:Nat}{kd:Ξ}{ps:Λ}{ks:Υ}{M:Nat}{W:Ν}(h:Ì K a H c dc p ll tl n kd ps L ks M W){x:z4}{xs:Υ}(e:H x=some (.tup xs)):¬StW c ll tl W x:=λw=>by
 rcases w with z|z|z|z
 .rw[z,h.me]at e;cases e
 .rw[z,h.hl]at e;cases e
 .rw[z,h.ht]at e;cases e
 .exact h.fz.sh.tup e z
theorem Ì.same{H H':Hp}{c p ll:z4}{n:Nat}{kd:Ξ}{ps:Λ}{ks:Υ}{M:Nat}{W:Ν}(h:Ì K a H c dc p ll tl n kd ps L ks M W)(S:yr H H'):Ì K a H' c dc p ll tl n kd ps L ks M W :=
 ⟨S _ _ h.me,h.fz.same S,S _ _ h.hl,S _ _ h.ht,h.tx.mono λZ Z e b=>⟨S _ _ e,b⟩,h.nc,h.nll,h.ntl,h.ne⟩
def Š.fr{H H':Hp}{d:z4}{n:Nat}{kd:Ξ}{ps:Λ}{w:Nat}{P:qi Pc}(h:Š a H d n kd ps w P)(f:∀x o,H x=some o->(x=d\/∃q,q∈P/\(x=q.ob\/x=q.dl))->H' x=some o):Š a H' d n kd ps w P :=
 ⟨f _ _ h.dk (.inl rfl),λq b=>⟨f _ _ (h.ob q b).1 (.inr ⟨q,b,.inl rfl⟩),f _ _ (h.ob q b).2 (.inr ⟨q,b,.inr rfl⟩)⟩,h.nd,h.wf,h.sz,h.z,h.nm⟩
def x9.fr{H H':Hp}{n:Nat}{lk:Μ}{kd:Ξ}{ps:Λ}(h:x9 H n lk kd tp ps)(f:∀x xs,H x=some (.tup xs)->H' x=some (.tup xs)):x9 H' n lk kd tp ps:=λi c=>by
 let⟨q,e,b,d,a⟩:=h i c;exists q,e,f _ _ b,f _ _ d,a
section
variable{H H':Hp}{ll d c p ct:z4}{lk:Μ}{n:Nat}{kd:Ξ}{ps:Λ}{mo w:Nat}{P:qi Pc}{ks:Υ}
theorem ju.same(h:ju K a H st ds ll d c dc p cl ct lk tp n kd ps mo w P L ks U)(S:yr H H'):ju K a H' st ds ll d c dc p cl ct lk tp n kd ps mo w P L ks U :=
 ⟨S _ _ h.me,h.n1,h.n6,S _ _ h.lo,h.row.same S,h.pz.same S,h.ch.same S,h.nw,h.mo1,h.wm,h.way⟩
def ju.lv(h:ju K a H st ds ll d c dc p cl ct lk tp n kd ps mo w P L ks U):∀x,(x=st\/x=ll\/x=d\/∃q,q∈P/\(x=q.ob\/x=q.dl))->∃o,H x=some o:=λx e=>by
 rcases e with z|z|z|⟨q,b,z|z⟩
 .exists _,by rw[z];exact h.me
 .exists _,by rw[z];exact h.lo
 .exists _,by rw[z];exact h.pz.dk
 .exists _,by rw[z];exact(h.pz.ob q b).1
 .exists _,by rw[z];exact(h.pz.ob q b).2
def ju.lvO(h:ju K a H st ds ll d c dc p cl ct lk tp n kd ps mo w P L ks U):∀x,StO st c cl ct U x->∃o,H x=some o:=λx b=>by
 rcases b with z|z|z|z|z
 .exists _,by rw[z];exact h.me
 .exists _,by rw[z];exact h.ch.me
 .exists _,by rw[z];exact h.ch.hl
 .exists _,by rw[z];exact h.ch.ht
 .exact h.ch.fz.live x z
def ju.go(h:ju K a H st ds ll d c dc p cl ct lk tp n kd ps mo w P L ks U){ks':Υ}(hc:Ì K a H' c dc p cl ct n kd ps M ks' (mOf M) U')(g:Go (ChW cl ct U) H H' (ChW cl ct U'))(way:∃x,To P x M):ju K a H' st ds ll d c dc p cl ct lk tp n kd ps mo w P M ks' U'/\Go (StO st c cl ct U) H H' (StO st c cl ct U'):=by have g1:Go (StW c cl ct U) H H' (StW c cl ct U'):=g.or (Y:=λx=>x=c);have f:∀x o,H x=some o->(x=st\/x=ll\/x=d\/∃q,q∈P/\(x=q.ob\/x=q.dl))->H' x=some o:=λx o e b=>g1.fr x o e (h.nw x b);exists⟨f _ _ h.me (.inl rfl),h.n1,h.n6,f _ _ h.lo (.inr (.inl rfl)),h.row.fr λx i e=>g1.fr _ _ e (h.ch.noTup e),h.pz.fr λx o e z=>f x o e (.inr (.inr z)),hc,g1.apart (λx b=>h.lv x b) h.nw,h.mo1,h.wm,way⟩,g1.or (Y:=λx=>x=st)
structure StB(a:Ads)(H:Hp)(st ds ll d:z4)(vc:V)(lk tp:Μ)(n:Nat)(kd:Ξ)(ps:Λ)(mo w:Nat)(P:qi Pc):Prop where
 me:H st=some (.ins a.A0 ds (xc (.ref ll) (.int mo) (.ref d) vc))
 n1:1<=n
 n6:n<=6
 lo:H ll=some (.lst (refs lk n))
 row:x9 H n lk kd tp ps
 pz:Š a H d n kd ps w P
 mo1:mo<=1000
 wm:w<=mo/\w<=200
def ju.b(h:ju K a H st ds ll d c dc p cl ct lk tp n kd ps mo w P L ks U):StB a H st ds ll d (.ref c) lk tp n kd ps mo w P:=⟨h.me,h.n1,h.n6,h.lo,h.row,h.pz,h.mo1,h.wm⟩
def StB.lv{vc:V}(h:StB a H st ds ll d vc lk tp n kd ps mo w P):∀x,(x=st\/x=ll\/x=d\/∃q,q∈P/\(x=q.ob\/x=q.dl))->∃o,H x=some o:=λx c=>by
 rcases c with z|z|z|⟨q,b,z|z⟩
 .exists _,by rw[z];exact h.me
 .exists _,by rw[z];exact h.lo
 .exists _,by rw[z];exact h.pz.dk
 .exists _,by rw[z];exact(h.pz.ob q b).1
 .exists _,by rw[z];exact(h.pz.ob q b).2
def Go.wide{W:Ν}(g:Go W H H' W')(f:∀x,W x->W2 x):Go W2 H H' W':=⟨λc o e a=>g.fr c o e λw=>a (f c w),λc w=>(g.nw c w).imp (f c) id,g.lv⟩
def StB.re{vc:V}(h:StB a H st ds ll d vc lk tp n kd ps mo w P){dc' p':z4}{HE:Hp}(nc:H c'=none)(ndc:H dc'=none)(hch:Ì K a HE c' dc' p' cl' ct' n kd ps [] [] 6 U')(hnew:∀x,ChW cl' ct' U' x->(upd (upd H dc' (.own c')) c' (.ins a.A2 dc' [])) x=none)(BE:But c' (upd (upd H dc' (.own c')) c' (.ins a.A2 dc' [])) HE):
  ju K a (upd HE st (.ins a.A0 ds (xc (.ref ll) (.int mo) (.ref d) (.ref c')))) st ds ll d c' dc' p' cl' ct' lk tp n kd ps mo w P [] [] U'/\Go (λy=>y=st) H (upd HE st (.ins a.A0 ds (xc (.ref ll) (.int mo) (.ref d) (.ref c')))) (StO st c' cl' ct' U')/\yr H HE/\∀x,StW c' cl' ct' U' x->H x=none:=by
 have m:yr H (upd (upd H dc' (.own c')) c' (.ins a.A2 dc' [])):=λb o e=>by rw[ym (yb e nc),ym (yb e ndc)];exact e
 have f:yr H HE:=λb o e=>BE _ _ (m _ _ e) (yb e nc)
 have k:∀x,StW c' cl' ct' U' x->H x=none:=λx w=>by
  rcases w with z|z
  .rw[z];exact nc
  .exact m.free (hnew x z)
 have g:∀{x:z4}{o:HO},H x=some o->¬StW c' cl' ct' U' x:=λ{x o}e w=>by rw[k x w]at e;cases e
 have c:=h.me;have l:∀{x:z4}{j:Υ},H x=some (.lst j)->x≠st:=λ{x j}e z=>by rw[z,c]at e;cases e
 exists⟨ya,h.n1,h.n6,ye (l h.lo) (f _ _ h.lo),h.row.fr λx j e=>ye (λz=>by rw[z,c]at e;cases e) (f _ _ e),⟨ye (λz=>?_) (f _ _ h.pz.dk),λq i=>⟨ye (λz=>?_) (f _ _ (h.pz.ob q i).1),ye (l (h.pz.ob q i).2) (f _ _ (h.pz.ob q i).2)⟩,h.pz.nd,h.pz.wf,h.pz.sz,h.pz.z,h.pz.nm⟩,hch.but (f _ _ c) (g c) But.upd,λx r=>?_,h.mo1,h.wm,⟨none,rfl⟩⟩,⟨λx o e p=>ye p (f _ _ e),λx w=>?_,λx o e=>?_⟩,f,k
 .have e:=h.pz.dk;rw[z,c]at e;cases e
 .have e:=(h.pz.ob q i).1;rw[z,c]at e;injection e with e;injection e with _ _ e;have s:=congrArg List.length e;exact absurd (show (4:Nat)=2 from s) ∅
 .obtain⟨o,e⟩:=h.lv x r;exact g e
 .rcases w with z|z
  .exact .inl z
  .exact .inr (k x z)
 .by_cases z:x=st
  .exists _,by rw[z];exact ya
  .exists o,ye z (f _ _ e)
theorem ju.re(h:ju K a H st ds ll d c dc p cl ct lk tp n kd ps mo w P L ks U){dc' p':z4}{HE:Hp}(nc:H c'=none)(ndc:H dc'=none)(hch:Ì K a HE c' dc' p' cl' ct' n kd ps [] [] 6 U')(hnew:∀x,ChW cl' ct' U' x->(upd (upd H dc' (.own c')) c' (.ins a.A2 dc' [])) x=none)(BE:But c' (upd (upd H dc' (.own c')) c' (.ins a.A2 dc' [])) HE):
  ju K a (upd HE st (.ins a.A0 ds (xc (.ref ll) (.int mo) (.ref d) (.ref c')))) st ds ll d c' dc' p' cl' ct' lk tp n kd ps mo w P [] [] U'/\Go (StO st c cl ct U) H (upd HE st (.ins a.A0 ds (xc (.ref ll) (.int mo) (.ref d) (.ref c')))) (StO st c' cl' ct' U')/\yr H HE/\∀x,StW c' cl' ct' U' x->H x=none:=by let⟨f,g,e⟩:=h.b.re nc ndc hch hnew BE;exists f,g.wide λZ z=>.inl z,e
def To.less{b:Str}{x:Φ}(h:To P x M)(hx:x≠some b):To (P.filter λq=>decide (q.nm≠b)) x M:=by
 cases x with
 |none=>exact h
 |some y =>
  let⟨r,c,a,d⟩:=h;exists r,cE.mpr ⟨c,bn λz=>hx ?_⟩,a,d;rw[<- a,z]
def ymm(b:Str):∀P:qi Pc,ß (pcs P) (.inr b)=pcs (P.filter λq=>decide (q.nm≠b)):=λP=>by
 unfold ß pcs;rw[List.filter_map]
 congr 1
 refine List.filter_congr λq Z=>?_;by_cases e:q.nm=b
 .simp[e]
 .simp[e]
def StB.drop{vc:V}(h:StB a H st ds ll d vc lk tp n kd ps mo w P){b:Str}(hb:∀q,q∈P->q.bs≠some b):StB a (upd H d (.dK (ß (pcs P) (.inr b)))) st ds ll d vc lk tp n kd ps mo w (P.filter λq=>decide (q.nm≠b)):=by
 have j:=h.pz.dk;have f:∀{x:z4}{o:HO},H x=some o->o≠.dK (pcs P)->(upd H d (.dK (ß (pcs P) (.inr b)))) x=some o:=λ{x o}e i=>ye (λz=>by rw[z,j]at e;cases e;exact i rfl) e;have g:∀{q:Pc},q∈(P.filter λq=>decide (q.nm≠b))->q∈P:=λc=>(cE.mp c).1
 exists f h.me (λz=>nomatch z),h.n1,h.n6,f h.lo (λz=>nomatch z),h.row.fr λx k e=>f e (λz=>nomatch z),⟨by rw[<- ymm];exact ya,λq c=>⟨f (h.pz.ob q (g c)).1 (λz=>nomatch z),f (h.pz.ob q (g c)).2 (λz=>nomatch z)⟩,h.pz.nd.sublist (List.filter_sublist.map _),λq c=>(h.pz.wf q (g c)).less (hb q (g c)),λq c=>h.pz.sz q (g c),bF (List.length_filter_le _ _) h.pz.z,λq c=>h.pz.nm q (g c)⟩,h.mo1,h.wm
end
structure Pd where
 nm:Str
 bs:Φ
 path:Η
 tx:Ρ
noncomputable def Pc.pd(q:Pc):Pd:=⟨q.nm,q.bs,q.path,q.tx⟩
structure Cf where
 n:Nat
 kd:Ξ
 ps:Λ
 mo:Nat
 w:Nat
def Pd.by(C:Cf)(q:Pd):Ρ:=â C.n C.kd C.ps (Ê (q.path.map (·.2))) q.tx
def ToD(P:qi Pd):qj Str->qi (Str×qi Int)->Prop
 |none,L=>L=[]
 |some b,L=>∃r,r∈P/\r.nm=b/\L=r.path++[(b,r.tx)]
def Ĩ{Q:qi Pc}{x:Φ}:ToD (Q.map Pc.pd) x L↔To Q x L:=by
 cases x with
 |none=>exact Iff.rfl
 |some b =>
  exists λh'=>?_,λ⟨r,a,e⟩=>⟨_,bg.mpr ⟨r,a,rfl⟩,e⟩;let⟨r,a,e⟩:=h';let⟨q,c,rfl⟩:=bg.mp a;exact⟨q,c,e⟩
def okN(x:Str):Prop:=nmS x=true/\PyData.strOk x=true
def WD(d st c cl ct:z4)(U:Ν):Ν:=λy=>y=d\/StO st c cl ct U y
structure Sx where
 w:Ν
 f:Ν
noncomputable def yvt(d st c cl ct:z4)(U:Ν)(ll:z4)(Q:qi Pc)(ks:Υ):Sx :=
 ⟨WD d st c cl ct U,λy=>WD d st c cl ct U y\/y=ll\/(∃q,q∈Q/\(y=q.ob\/y=q.dl))\/V.ref y∈ks⟩
inductive Sto(K:z3)(a:Ads)(H:Hp)(st:z4)(C:Cf)(P:qi Pd)(X:Sx):Prop
 |mk(ds ll d c dc p cl ct:z4)(lk tp:Μ)(Q:qi Pc)(L:Η)(ks:Υ)(U:Ν)(s:ju K a H st ds ll d c dc p cl ct lk tp C.n C.kd C.ps C.mo C.w Q L ks U)(e:Q.map Pc.pd=P)(x:X=yvt d st c cl ct U ll Q ks)
structure Gx(X:Sx)(H H':Hp)(Y:Sx):Prop where
 g:Go X.w H H' Y.w
 f:∀y,Y.f y->X.f y\/H y=none
theorem Gx.same{X Y:Sx}{H H1 H2:Hp}(h:Gx X H H1 Y)(S:yr H1 H2):Gx X H H2 Y:=⟨h.g.same S,h.f⟩
theorem Gx.ahead{X Y:Sx}{H H1 H2:Hp}(S:yr H H1)(h:Gx X H1 H2 Y):Gx X H H2 Y:=⟨h.g.ahead S,λy w=>(h.f y w).imp id S.free⟩
theorem Gx.trans{X Y Z:Sx}{H H1 H2:Hp}(h:Gx X H H1 Y)(k:Gx Y H1 H2 Z):Gx X H H2 Z:=⟨h.g.trans k.g,λy w=>(k.f y w).elim (h.f y) λe=>.inr (h.g.free e)⟩
def Kf(H:Hp)(X:Sx)(x:z4)(o:HO):Prop:=H x=some o/\¬X.f x
section
variable{B H H':Hp}{C:Cf}{P:qi Pd}{X Y:Sx}
theorem Sto.same(h:Sto K a H st C P X)(S:yr H H'):Sto K a H' st C P X:=by let⟨i,f,d,c,m,p,k,g,l,j,Q,L,b,U,s,e,x⟩:=h;exists i,f,d,c,m,p,k,g,l,j,Q,L,b,U,s.same S,e,x
def Sto.live(h:Sto K a H st C P X):∀y,X.f y->∃o,H y=some o:=λy g=>by
 let⟨l,j,d,c,u,p,r,m,t,n,Q,L,i,U,s,rfl,rfl⟩:=h;rcases g with(z|z)|z|⟨q,b,z⟩|z
 .exists _,by rw[z];exact s.pz.dk
 .exact s.lvO y z
 .exists _,by rw[z];exact s.lo
 .exact s.lv y (.inr (.inr (.inr ⟨q,b,z⟩)))
 .rcases s.ch.tx.mem _ z with e|⟨q,k,e,b,_⟩
  .cases e
  .cases e;exists _,b
def Sto.wf(h:Sto K a H st C P X):∀y,X.w y->X.f y:=λy b=>by
 let⟨i,g,d,c,n,p,l,j,m,k,Q,L,e,U,s,rfl,rfl⟩:=h;exact .inl b
theorem Sto.ins(h:Sto K a H st C P X):∃ds vl vm vp vc,H st=some (.ins a.A0 ds (xc vl vm vp vc)):=by let⟨ds,e,d,c,k,p,i,f,j,g,Q,L,b,U,s,rfl,rfl⟩:=h;exists _,_,_,_,_,s.me
def vgc(Q:qi Pc):(Q.map Pc.pd).map (·.nm)=Q.map (·.nm):=by rw[bO];rfl
theorem Sto.nd(h:Sto K a H st C P X):(P.map (·.nm)).Nodup:=by let⟨g,e,d,c,l,p,j,f,k,i,Q,L,b,U,s,rfl,rfl⟩:=h;rw[vgc];exact s.pz.nd
theorem Sto.z(h:Sto K a H st C P X):P.length<=60:=by let⟨g,e,d,c,l,p,j,f,k,i,Q,L,b,U,s,rfl,rfl⟩:=h;rw[ba];exact s.pz.z
theorem Sto.nm(h:Sto K a H st C P X):∀q,q∈P->okN q.nm:=λq b=>by
 let⟨i,g,d,c,n,p,l,j,m,k,Q,L,f,U,s,rfl,rfl⟩:=h;let⟨r,e,rfl⟩:=bg.mp b;exact s.pz.nm r e
def Sto.to(h:Sto K a H st C P X):∀q,q∈P->ToD P q.bs q.path:=λq b=>by
 let⟨i,g,d,c,n,p,l,j,m,k,Q,L,f,U,s,rfl,rfl⟩:=h;let⟨r,e,rfl⟩:=bg.mp b;exact Ĩ.mpr (s.pz.wf r e)
theorem Sto.sz(h:Sto K a H st C P X):∀q,q∈P->Sgs q.tx/\q.tx.length<=C.w/\q.path.length<=60/\(∀x,x∈q.path->Sgs x.2/\x.2.length<=C.w):=λq b=>by
 let⟨i,g,d,c,n,p,l,j,m,k,Q,L,f,U,s,rfl,rfl⟩:=h;let⟨r,e,rfl⟩:=bg.mp b;exact s.pz.sz r e
def Sto.cf(h:Sto K a H st C P X):1<=C.n/\C.n<=6/\C.mo<=1000/\C.w<=C.mo/\C.w<=200:=by let⟨g,e,d,c,l,p,j,f,k,i,Q,L,b,U,s,rfl,rfl⟩:=h;exists s.n1,s.n6,s.mo1,s.wm.1,s.wm.2
theorem Sto.sh(h:Sto K a H st C P X):WSh H X.w:=λy i=>by
 let⟨l,k,d,c,t,p,o,m,r,n,Q,L,j,U,s,rfl,rfl⟩:=h;rcases i with z|z|z|z|z|z
 .exists _,by rw[z];exact s.pz.dk,.inl rfl
 .exists _,by rw[z];exact s.me,.inl rfl
 .exists _,by rw[z];exact s.ch.me,.inl rfl
 .exists _,by rw[z];exact s.ch.hl,.inr ⟨_,rfl,λv b=>?_⟩
  let⟨u,_,e⟩:=bg.mp b;exact .inl ⟨u.1,e.symm⟩
 .exists _,by rw[z];exact s.ch.ht,.inr ⟨_,rfl,λv b=>.inr ?_⟩
  exact(s.ch.tx.mem v b).imp (λe=>by rw[e];rfl) λ⟨q,f,e,g,_⟩=>⟨q,e,.inl ⟨f,g⟩⟩
 .exact s.ch.fz.sh y z
theorem Sto.frame(h:Sto K a H st C P X)(sh:WSh H W2)(dj:∀y,X.f y->¬W2 y)(fr:∀y o,H y=some o->¬W2 y->H' y=some o):Sto K a H' st C P X:=by
 let⟨B,n,d,c,F,p,i,g,E,D,Q,L,l,U,s,rfl,rfl⟩:=h;have f:∀{y:z4}{o:HO},H y=some o->(yvt d st c i g U n Q l).f y->H' y=some o:=λ{y o}e w=>fr y o e (dj y w);exists B,n,d,c,F,p,i,g,E,D,Q,L,l,U,⟨f s.me (.inl (.inr (.inl rfl))),s.n1,s.n6,f s.lo (.inr (.inl rfl)),s.row.fr λy G e=>fr _ _ e (sh.tup e),s.pz.fr λy o e z=>f e (z.elim (λz=>.inl (.inl z)) λz=>.inr (.inr (.inl z))),⟨f s.ch.me (.inl (.inr (.inr (.inl rfl)))),s.ch.fz.frame sh (λy w=>dj y (.inl (.inr (.inr (.inr (.inr (.inr w))))))) fr,f s.ch.hl (.inl (.inr (.inr (.inr (.inl rfl))))),f s.ch.ht (.inl (.inr (.inr (.inr (.inr (.inl rfl)))))),?_,s.ch.nc,s.ch.nll,s.ch.ntl,s.ch.ne⟩,s.nw,s.mo1,s.wm,s.way⟩,rfl,rfl
 have j:∀{L:Η}{b:Υ},(∀v,v∈b->v∈l)->yci H (ChW i g U) L b->yci H' (ChW i g U) L b:=by
  intro L
  induction L with
  |nil=>intro b _ h;exact h
  |cons y r ih =>
   rintro b m ⟨k,t,rfl,z,h⟩;exists k,t,rfl,z.imp id λ⟨q,e,x,A⟩=>⟨q,e,f x (.inr (.inr (.inr ?_))),A⟩,ih (λv u=>m v (bM _ u)) h;rw[<- e];exact m _ bN
 exact j (λZ h=>h) s.ch.tx
def Sto.but(h:Sto K a H st C P X)(sh:WSh H λz=>z=y)(ny:¬X.f y)(b:But y H H'):Sto K a H' st C P X :=
 h.frame sh (λz w e=>ny (by rw[<- e];exact w)) λz o e c=>b z o e c
def WSh.mu{o:HO}(e:H y=some o)(ho:yr2 o=true):WSh H λz=>z=y:=λz w=>⟨o,by rw[w];exact e,.inl ho⟩
def Kf.go{x:z4}{o:HO}(h:Kf H X x o)(s:Sto K a H st C P X)(g:Gx X H H' Y):Kf H' Y x o :=
 ⟨g.g.fr _ _ h.1 λw=>h.2 (s.wf _ w),λw=>(g.f x w).elim h.2 λe=>by rw[h.1]at e;cases e⟩
def Kf.same{x:z4}{o:HO}(h:Kf H X x o)(S:yr H H'):Kf H' X x o:=⟨S _ _ h.1,h.2⟩
def Kf.new{x:z4}{o:HO}(s:Sto K a H st C P X)(hx:H x=none)(e:H' x=some o):Kf H' X x o:=⟨e,λw=>by
 let⟨c,b⟩:=s.live x w;rw[hx]at b;cases b⟩
def Kf.but{x:z4}{o:HO}(h:Kf H X x o)(ne:x≠y)(b:But y H H'):Kf H' X x o:=⟨b _ _ h.1 ne,h.2⟩
def Gx.of{d c ct ll:z4}{Q Q':qi Pc}{ks ks':Υ}(g:Go (WD d st c cl ct U) H H' (WD d st c' cl' ct' U'))(nk:NK H ks ks')(hq:∀q,q∈Q'->q∈Q\/(H q.ob=none/\H q.dl=none)):Gx (yvt d st c cl ct U ll Q ks) H H' (yvt d st c' cl' ct' U' ll Q' ks'):=by
 exists g,λy w=>?_;rcases w with z|z|⟨q,h,z⟩|z
 .exact(g.nw y z).imp .inl id
 .exact .inl (.inr (.inl z))
 .rcases hq q h with b|⟨a,e⟩
  .exact .inl (.inr (.inr (.inl ⟨q,b,z⟩)))
  .rcases z with z|z
   .rw[z];exact .inr a
   .rw[z];exact .inr e
 .exact(nk y z).imp (λz=>.inr (.inr (.inr z))) id
end
def ŝ{P:qi Pd}{q r:Pd}(hn:(P.map (·.nm)).Nodup)(hq:q∈P)(hr:r∈P)(e:q.nm=r.nm):q=r:=vd8 hn hq hr e
def ToD.uniq{P:qi Pd}{x:Φ}(hn:(P.map (·.nm)).Nodup)(h:ToD P x L)(g:ToD P x M):L=M:=by
 cases x with
 |none=>rw[show L=[]from h,show M=[]from g]
 |some b =>
  let⟨r,f,e,c⟩:=h;let⟨q,i,a,d⟩:=g;obtain rfl:=ŝ hn f i (e.trans a.symm);rw[c,d]
theorem ydl{α:Type}[DecidableEq α]:∀{l m:qi α},l.Nodup->(∀x,x∈l->x∈m)->l.length<=m.length
 |[],_,_,_=>bJ _
 |x::l,m,hn,h=>by
  have a:=cB.mp hn;have b:=h x bN;have d:l.length<=(m.erase x).length:=ydl a.2 λy c=>(List.mem_erase_of_ne (λe=>a.1 (by rw[<- e];exact c))).mpr (h y (bM _ c));rw[List.length_erase_of_mem b]at d;have:=List.length_pos_of_mem b;rw[bE];omega
noncomputable def Pd.pc(q:Pd):Pc:=⟨q.nm,q.bs,q.path,q.tx,0,0,0⟩
def vby(P:qi Pd):(P.map Pd.pc).map Pc.pd=P:=by rw[bO];exact List.map_id _
structure PdW(P:qi Pd):Prop where
 nd:(P.map (·.nm)).Nodup
 wf:∀q,q∈P->ToD P q.bs q.path
theorem ToD.pc{P:qi Pd}{x:Φ}(h:ToD P x L):To (P.map Pd.pc) x L:=Ĩ.mp (by rw[vby];exact h)
theorem ToD.at{P:qi Pd}(w:PdW P){x:Φ}(t:ToD P x L)(hj:j<L.length):∃r,r∈P/\L[j]=(r.nm,r.tx)/\r.path=L.take j/\ToD P (some r.nm) (L.take (j+1)):=by
 let⟨r,e,b,c,d⟩:=To.at' (λq f=>by
  let⟨u,a,rfl⟩:=bg.mp f;exact(w.wf u a).pc) t.pc hj
 let⟨u,a,rfl⟩:=bg.mp e;exists u,a,b,c,?_;have:=Ĩ.mpr d;rw[vby]at this;exact this
def ToD.len{P:qi Pd}(w:PdW P){x:Φ}(t:ToD P x L):L.length<=P.length:=by
 have h:=ydl (l:=L.map (·.1)) (m:=P.map (·.nm)) ?_ ?_
 .rw[ba,ba]at h;exact h
 .refine List.pairwise_iff_getElem.mpr λi j f a p e=>?_;rw[ba]at f a;rw[cC,cC]at e;let⟨r,c,b,d,_⟩:=t.at w f;let⟨u,o,g1,g2,_⟩:=t.at w a;rw[b,g1]at e;have:=ŝ w.nd c o e;rw[this,g2]at d;have n:=congrArg List.length d;rw[bU,bU]at n;omega
 .intro y g;let⟨z,k,rfl⟩:=bg.mp g;let⟨j,a,rfl⟩:=List.mem_iff_getElem.mp k;let⟨r,c,b,_⟩:=t.at w a;rw[b];exact bg.mpr ⟨r,c,rfl⟩
def Sto.pw{H:Hp}{C:Cf}{P:qi Pd}{X:Sx}(h:Sto K a H st C P X):PdW P:=⟨h.nd,h.to⟩
structure Bs(B H:Hp)(X:Sx):Prop where
 s:yr B H
 n:∀y,X.f y->B y=none
def Bs.same{B H H':Hp}{X:Sx}(h:Bs B H X)(S:yr H H'):Bs B H' X:=⟨h.s.trans S,h.n⟩
def Bs.but{B H H':Hp}{X:Sx}(h:Bs B H X)(ny:B y=none)(b:But y H H'):Bs B H' X:=⟨λx o e=>b _ _ (h.s _ _ e) (yb e ny),h.n⟩
def Sto.ntup{H:Hp}{C:Cf}{P:qi Pd}{X:Sx}(h:Sto K a H st C P X){x:z4}{xs:Υ}(e:H x=some (.tup xs)):¬X.f x:=λw=>by
 have i:=h.sh;let⟨m,k,d,c,u,p,r,n,t,o,Q,L,j,U,s,rfl,rfl⟩:=h;rcases w with z|z|⟨q,b,z|z⟩|z
 .exact i.tup e z
 .rw[z,s.lo]at e;cases e
 .rw[z,(s.pz.ob q b).1]at e;cases e
 .rw[z,(s.pz.ob q b).2]at e;cases e
 .rcases s.ch.tx.mem _ z with g|⟨q,l,g,b,_⟩
  .cases g
  .cases g;rw[b]at e;cases e
noncomputable def mdK(tu:Str->z4)(P:qi Pd):Κ:=P.map λq=>(.inr q.nm,.ref (tu q.nm))
theorem yk7(tu:Str->z4):∀{P:qi Pd}{q:Pd},q∈P->z5 (mdK tu P) (.inr q.nm)=some (.ref (tu q.nm))
 |r::P,q,hq=>by
  unfold z5 mdK;rw[bS];by_cases e:r.nm=q.nm
  .rw[List.find?_cons_of_pos (by simp[e]),<- e];rfl
  .rw[List.find?_cons_of_neg (by simpa using e)];rcases bq.mp hq with z|z
   .exact absurd (by rw[z]) e
   .exact yk7 tu z
def yq3(tu:Str->z4){P:qi Pd}{b:Str}(h:∀q,q∈P->q.nm≠b):z5 (mdK tu P) (.inr b)=none:=by
 unfold z5 mdK;rw[List.find?_eq_none.mpr λy a=>?_]
 .rfl
 .obtain⟨q,c,e⟩:=bg.mp a;rw[<- e];simpa using h q c
def DkF(H:Hp)(md:z4)(kvs:Κ):Prop:=H md=some (.dK kvs)\/∃o,H md=some (.frz o (.dK kvs))
def DkF.get{H:Hp}{kvs:Κ}(h:DkF H md kvs)(b:Str):İ H md (.str b) (z5 kvs (.inr b)):=.inl ⟨kvs,.inr b,h,rfl,rfl⟩
structure Mdl(H:Hp)(X:Sx)(md:z4)(P:qi Pd)(tu tx:Str->z4):Prop where
 d:DkF H md (mdK tu P)
 n:¬X.f md
 t:∀q,q∈P->Kf H X (tu q.nm) (.tup [.ref (tx q.nm),baV q.bs])
 x:∀q,q∈P->Kf H X (tx q.nm) (.lst (q.tx.map V.int))
theorem Mdl.same{H H':Hp}{X:Sx}{P:qi Pd}{tx:Str->z4}(h:Mdl H X md P tu tx)(S:yr H H'):Mdl H' X md P tu tx:=⟨h.d.imp (S _ _) λ⟨o,e⟩=>⟨o,S _ _ e⟩,h.n,λq a=>(h.t q a).same S,λq a=>(h.x q a).same S⟩
theorem Mdl.get{H:Hp}{X:Sx}{P:qi Pd}{tx:Str->z4}(h:Mdl H X md P tu tx){q:Pd}(hq:q∈P):İ H md (.str q.nm) (some (.ref (tu q.nm))):=by rw[<- yk7 tu hq];exact h.d.get q.nm
def Mdl.getNo{H:Hp}{X:Sx}{P:qi Pd}{tx:Str->z4}(h:Mdl H X md P tu tx){b:Str}(hb:∀q,q∈P->q.nm≠b):İ H md (.str b) none:=by rw[<- yq3 tu hb];exact h.d.get b
noncomputable def upS(g:Str->z4)(b:Str)(x:z4):Str->z4:=λs=>if s=b then x else g s
def yfd{g:Str->z4}{b:Str}{x:z4}:upS g b x b=x:=if_pos rfl
def ye8{g:Str->z4}{b s:Str}{x:z4}(h:s≠b):upS g b x s=g s:=if_neg h
def yaj(tu:Str->z4)(P:qi Pd):((mdK tu P).map λp=>kV p.1)=(P.map (·.nm)).map V.str:=by unfold mdK;rw[bO,bO];rfl
def yu2{P:qi Pd}{q:Pd}{t:z4}(hno:∀r,r∈P->r.nm≠q.nm):Ń (mdK tu P) (.inr q.nm) (.ref t)=mdK (upS tu q.nm t) (P++[q]):=by
 rw[Ú _ (yq3 tu hno)];unfold mdK;rw[bz,List.map_singleton,yfd]
 congr 1
 exact List.map_congr_left λr a=>by rw[ye8 (hno r a)]
def Mdl.put{H:Hp}{X:Sx}{t:z4}{P:qi Pd}{tx:Str->z4}{q:Pd}(h:Mdl H X md P tu tx)(hd:H md=some (.dK (mdK tu P)))(hno:∀r,r∈P->r.nm≠q.nm)(ht:Kf H X t (.tup [.ref y,baV q.bs]))(hy:Kf H X y (.lst (q.tx.map V.int))):
  Mdl (upd H md (.dK (mdK (upS tu q.nm t) (P++[q])))) X md (P++[q]) (upS tu q.nm t) (upS tx q.nm y):=by
 have f:∀{x:z4}{o:HO},yr2 o=false->Kf H X x o->Kf (upd H md (.dK (mdK (upS tu q.nm t) (P++[q])))) X x o:=λ{x o}b k=>k.but (λz=>by have e:=k.1;rw[z,hd]at e;cases e;cases b) But.upd;exists .inl ya,h.n,λr a=>?_,λr a=>?_
 .rcases bH.mp a with z|z
  .rw[ye8 (hno r z),ye8 (hno r z)];exact f rfl (h.t r z)
  .obtain rfl:=bp.mp z;rw[yfd,yfd];exact f rfl ht
 .rcases bH.mp a with z|z
  .rw[ye8 (hno r z)];exact f rfl (h.x r z)
  .obtain rfl:=bp.mp z;rw[yfd];exact f rfl hy
def yn4(tu:Str->z4)(P:qi Pd)(b:Str):ß (mdK tu P) (.inr b)=mdK tu (P.filter λq=>decide (q.nm≠b)):=by
 unfold ß mdK;rw[List.filter_map]
 congr 1
 refine List.filter_congr λq Z=>?_;by_cases e:q.nm=b
 .simp[e]
 .simp[e]
def Mdl.drop{H:Hp}{X:Sx}{P:qi Pd}{tx:Str->z4}(h:Mdl H X md P tu tx)(hd:H md=some (.dK (mdK tu P)))(b:Str):Mdl (upd H md (.dK (mdK tu (P.filter λq=>decide (q.nm≠b))))) X md (P.filter λq=>decide (q.nm≠b)) tu tx:=by have f:∀{x:z4}{o:HO},yr2 o=false->Kf H X x o->Kf (upd H md (.dK (mdK tu (P.filter λq=>decide (q.nm≠b))))) X x o:=λ{x o}c k=>k.but (λz=>by have e:=k.1;rw[z,hd]at e;cases e;cases c) But.upd;exists .inl ya,h.n,λq a=>f rfl (h.t q (cE.mp a).1),λq a=>f rfl (h.x q (cE.mp a).1)
noncomputable def lnV(tx:Str->z4)(L:Η):Υ:=L.map λy=>V.ref (tx y.1)
noncomputable def lnA(tx:Str->z4)(L:Η)(i:Nat):z4:=tx (L.getD i (⟨#[]⟩,[])).1
def ye1(tx:Str->z4)(L:Η):lnV tx L=refs (lnA tx L) L.length:=by
 refine List.ext_getElem? λi=>?_;unfold lnV refs;rw[bi,bi];rcases Nat.lt_or_ge i L.length with h|h
 .rw[bc h,cj h];unfold lnA;simp[bI,bc h]
 .rw[bK h,bK (by rw[bQ];exact h)];rfl
def Mdl.ln{H:Hp}{X:Sx}{P:qi Pd}{tx:Str->z4}(h:Mdl H X md P tu tx)(w:PdW P){x:Φ}(t:ToD P x L)(hi:i<L.length):Kf H X (lnA tx L i) (.lst ((txi L i).map V.int)):=by let⟨r,a,b,_⟩:=t.at w hi;have e:=h.x r a;unfold lnA txi;rw[bI,bc hi,bI,bi,bc hi,b];exact e
theorem yey(L:Η):∀i,i<=L.length->j3 (txi L) i=Ê ((L.map (·.2)).take i)
 |0,_=>rfl
 |i+1,h=>by
  have a:i<(L.map (·.2)).length:=by rw[ba];omega
  rw[bY a,ģ,<- yey L i ()];show _++dec (txi L i)=_;unfold txi;rw[bI,bc a];rfl
def Ï(L:Η):j3 (txi L) L.length=Ê (L.map (·.2)):=by rw[yey L _ (bf _),bZ (by rw[ba];exact bf _)]
#synth ywr ["self","looks"] vbs
inductive yil(K:z3)(a:Ads)(vs:Υ)(H:Hp)(Q:VK)(E':XK):Prop
 |mk(c dc l:z4)(n:Nat)(lk tp:Μ)(kd:Ξ)(ps:Λ)(_:vs=[.ref c,.ref l])(_:H c=some (.ins a.A2 dc []))(_:H l=some (.lst (refs lk n)))(_:1<=n)(_:n<=6)(_:x9 H n lk kd tp ps)(_:∀(p ll tl:z4)(W:Ν)(H':Hp),Ì K a H' c dc p ll tl n kd ps [] [] 6 W->(∀x,ChW ll tl W x->H x=none)->But c H H'->(∀y xs H'',H y=some (.lst xs)->But y H' H''->Ì K a H'' c dc p ll tl n kd ps [] [] 6 W)->Q .non H')
def yff:vo P w K mg Γ (CXe P w) 8 a.Gr a.Pl ["self","looks"] (yil K a):=by
 exists T.Ef.F.okE,ywr,hr;let⟨c,f,l,n,lk,tp,kd,ps,rfl,Z,hl,n1,n6,a0,k⟩:=h;refine yg (ve (pv 0) (ux T.Ku (yfm T) hr.m rfl T.Kt T.Ed.B .nil yv (pa1 (pv 1))) rfl) ?_;refine yg (ve (pv 0) (wy ur) rfl) ?_;exists 2,0,yc (ve (pv 0) (wy ur) rfl);intro p dp np X a5;refine FZ.new np X hl n1 n6 a0 λW C hf nW U a1=>⟨rfl,?_⟩;have O:=U _ _ Z;ext;have r:upd C c (HO.ins a.A2 f ([("foreteller",V.ref p)]:Ι)) c=some (HO.ins a.A2 f ([("foreteller",V.ref p)]:Ι)):=ya;have M:But c C (upd C c (HO.ins a.A2 f ([("foreteller",V.ref p)]:Ι))):=But.upd;generalize upd C c (HO.ins a.A2 f ([("foreteller",V.ref p)]:Ι))=HA at r M⊢;exists by walk_at "len",λi hll=>?_
 exists hll,HB,SB,eB;have a7:=SB _ _ r;ext;have t:upd HB c (HO.ins a.A2 f ([("foreteller",V.ref p),("links",V.ref i)]:Ι)) c=some (HO.ins a.A2 f ([("foreteller",V.ref p),("links",V.ref i)]:Ι)):=ya;have N:But c HB (upd HB c (HO.ins a.A2 f ([("foreteller",V.ref p),("links",V.ref i)]:Ι))):=But.upd;generalize upd HB c (HO.ins a.A2 f ([("foreteller",V.ref p),("links",V.ref i)]:Ι))=HC at t N⊢;exists by walk_at "len",λD htl=>?_
 exists htl,HD,SD,eD;have a4:=SD _ _ t;ext;have j:i≠c:=(yb r hll).symm;have g:D≠c:=(yb t htl).symm;have S:HC i=some (.lst []):=N _ _ eB j
 have R:∀{x:z4},x≠c->HA x=none->H x=none:=λ{x}d e=>by
  cases z:H x with
  |none=>rfl
  |some o=>rw[M _ _ (U _ _ z) d]at e;cases e
 have Y:∀{x:z4},x≠c->HC x=none->HA x=none:=λ{x}d e=>by
  cases z:HA x with
  |none=>rfl
  |some o=>rw[N _ _ (SB _ _ z) d]at e;cases e
 have v:But c C (upd HD c (HO.ins a.A2 f (j5 (.ref p) (.ref i) (.ref D)))):=λx o e d=>ye d (SD _ _ (N _ _ (SB _ _ (M _ _ e d)) d))
 have q:∀x,W x->x≠c:=λx w z=>by
  have e:=nW x w;rw[z,Z]at e;cases e
 have G:H i=none:=R j hll;have J:H D=none:=R g (Y g htl)
 have L:¬W i:=λw=>by
  let⟨o,e⟩:=hf.live _ w;rw[M _ _ e j]at hll;cases hll
 have I:¬W D:=λw=>by
  let⟨o,e⟩:=hf.live _ w;rw[N _ _ (SB _ _ (M _ _ e g)) g]at htl;cases htl
 refine k p i D W (upd HD c (HO.ins a.A2 f (j5 (.ref p) (.ref i) (.ref D)))) ⟨ya,?_,?_,?_,rfl,λw=>q c w rfl,L,I,yb S htl⟩ (λx w=>?_) (λx o e d=>v x o (U _ _ e) d) (λy xs H2 u b=>?_)
 .exact hf.frame (W2:=λx=>x=c) (λx z=>⟨.ins a.A2 f [],by rw[show x=c from z];exact O,.inl rfl⟩) (λx w z=>q x w z) (λx o e d=>v x o e d)
 .exact ye j (SD _ _ S)
 .exact ye g eD
 .rcases w with z|z|z
  .rw[z];exact G
  .rw[z];exact J
  .exact nW x z
 .have a3:c≠y:=λz=>by rw[<- z,Z]at u;cases u
  have bG:But y C (upd H2 c (.ins a.A2 f [])):=λx o e d=>by
   by_cases z:x=c
   .rw[z,ya];rw[z,O]at e;exact e
   .exact ye z (b _ _ (v x o e z) d)
  exists b _ _ ya a3,(a1 y xs _ u bG).frame (W2:=λx=>x=c) (λx z=>⟨.ins a.A2 f [],by rw[show x=c from z];exact ya,.inl rfl⟩) (λx w z=>q x w z) (λx o e d=>by rw[ym d]at e;exact e),b _ _ (ye j (SD _ _ S)) (λz=>by rw[<- z,G]at u;cases u),b _ _ (ye g eD) (λz=>by rw[<- z,J]at u;cases u),rfl,λw=>q c w rfl,L,I,yb S htl
#synth var ["self","name","text"] vd9
inductive ym5(a:Ads)(vs:Υ)(H:Hp)(Q:VK)(E':XK):Prop
 |mk(c dc:z4)(vf:V)(ll tl:z4)(x y:V)(xs ys:Υ)(_:vs=[.ref c,x,y])(_:H c=some (.ins a.A2 dc (j5 vf (.ref ll) (.ref tl))))(_:H ll=some (.lst xs))(_:H tl=some (.lst ys))(_:ll≠tl)(_:xs.length<=10000)(_:ys.length<=10000)(_:Q .non (upd (upd H ll (.lst (xs++[x]))) tl (.lst (ys++[y]))))
def yq2:vo P w K mg Γ CX0 1 a.Mu a.Pm ["self","name","text"] (ym5 a):=by
 exists T.Eg.F.ok,var,B;let⟨c,n,l,d,f,x,y,e,m,rfl,j,i,t,p,v,u,k⟩:=h;exists 3,0,yf (yu (ug PySem.F.plainAttrs_list PySem.F.slot_list_append PySem.F.type_list_append wk (yk (pv 0) rfl) (pa1 (pv 1)))) (yc (yu (ug PySem.F.plainAttrs_list PySem.F.slot_list_append PySem.F.type_list_append wk (yk (pv 0) rfl) (pa1 (pv 2)))));refine u8 i ?_;ext;refine w9 i (vh ()) ?_;have o:(upd H d (.lst (e++[x]))) c=some (.ins a.A2 n (j5 l (.ref d) (.ref f))):=by rw[ym (λz=>by rw[z,i]at j;cases j)];exact j
 ext;have b:(upd H d (.lst (e++[x]))) f=some (.lst m):=by rw[ym p.symm];exact t
 refine u8 b ?_;ext;refine w9 b (vh ()) ?_;ext;exact k
def Ì.grow{H H1:Hp}{c p ll:z4}{n:Nat}{kd:Ξ}{ps:Λ}{ks:Υ}{M M':Nat}{W:Ν}(h:Ì K a H c dc p ll tl n kd ps L ks M W){nm:Str}{t:Ρ}{k:V}(hf:FZ K a H1 p n kd ps (Ê (L.map (·.2))++dec t) M' W')(g:Go W H H1 W')(hk:k=.non\/∃q,k=.ref q/\H1 q=some (.lst (t.map V.int))/\¬ChW ll tl W' q):
  Ì K a (upd (upd H1 ll (.lst (nmL L++[V.str nm]))) tl (.lst (ks++[k]))) c dc p ll tl n kd ps (L++[(nm,t)]) (ks++[k]) M' W'/\Go (ChW ll tl W) H (upd (upd H1 ll (.lst (nmL L++[V.str nm]))) tl (.lst (ks++[k]))) (ChW ll tl W'):=by
 have s:=g.fr _ _ h.hl h.nll;have j:=g.fr _ _ h.ht h.ntl;have l:=g.fr _ _ h.me h.nc;have i:∀{x:z4}{o:HO},H x=some o->¬W x->¬W' x:=λ{x o}e d w=>(g.nw x w).elim d λz=>by rw[e]at z;cases z
 have C:=i h.hl h.nll;have B:=i h.ht h.ntl
 have f:∀x o,H1 x=some o->¬(x=ll\/x=tl)->(upd (upd H1 ll (.lst (nmL L++[V.str nm]))) tl (.lst (ks++[k]))) x=some o:=λx o e d=>by
  rw[ym (λz=>d (.inr z)),ym (λz=>d (.inl z))];exact e
 have r:c≠ll:=λz=>by have e:=h.me;rw[z,h.hl]at e;cases e
 have m:c≠tl:=λz=>by have e:=h.me;rw[z,h.ht]at e;cases e
 exists⟨f _ _ l λz=>z.elim r m,?_,?_,ya,?_,i h.me h.nc,C,B,h.ne⟩,⟨λx o e d=>?_,λx w=>?_,λx o e=>?_⟩
 .have G:Ê ((L++[(nm,t)]).map (·.2))=Ê (L.map (·.2))++dec t:=by rw[bz];exact ģ _ _
  rw[G];refine hf.frame (W2:=λx=>x=ll\/x=tl) (λx w=>?_) (λx w z=>?_) λx o e d=>f x o e d
  .rcases w with z|z
   .exists _,by rw[show x=ll from z];exact s,.inr ⟨_,rfl,λy v=>?_⟩
    let⟨u,_,e⟩:=bg.mp v;exact .inl ⟨u.1,e.symm⟩
   .exists _,by rw[show x=tl from z];exact j,.inr ⟨_,rfl,λy v=>.inr ?_⟩
    exact(h.tx.mem y v).imp (λe=>by rw[e];rfl) λ⟨q,E,e,A,b⟩=>⟨q,e,.inl ⟨E,g.fr q _ A λw=>b (.inr (.inr w))⟩⟩
  .rcases z with z|z
   .rw[z]at w;exact C w
   .rw[z]at w;exact B w
 .rw[ym h.ne,ya];unfold nmL;rw[bz];rfl
 .refine yci.snoc ?_ (h.tx.mono λq I e b=>⟨f q _ (g.fr q _ e λw=>b (.inr (.inr w))) λz=>b (z.imp id .inl),λw=>?_⟩)
  .refine hk.imp id λ⟨q,e,A,b⟩=>⟨q,e,f q _ A λz=>b (z.imp id .inl),b⟩
  .rcases w with w|w|w
   .exact b (.inl w)
   .exact b (.inr (.inl w))
   .exact i e (λw=>b (.inr (.inr w))) w
 .exact f x o (g.fr x o e λw=>d (.inr (.inr w))) λz=>d (z.imp id .inl)
 .rcases w with w|w|w
  .exact .inl (.inl w)
  .exact .inl (.inr (.inl w))
  .exact(g.nw x w).imp (λw=>.inr (.inr w)) id
 .obtain⟨D,F⟩:=g.lv x o e;by_cases z2:x=tl
  .exists _,by rw[z2];exact ya
  .by_cases z1:x=ll
   .exists _,by rw[z1,ym h.ne];exact ya
   .exists D,f x D F λz=>z.elim z1 z2
#synth yqy ["self","name","text","data"] ["self","name","text"] vd6
inductive yf2(K:z3)(a:Ads)(vs:Υ)(H:Hp)(Q:VK)(E':XK):Prop
 |mk(c dc p ll tl:z4)(n:Nat)(kd:Ξ)(ps:Λ)(L:Η)(ks:Υ)(M:Nat)(W:Ν)(tx:z4)(nm:Str)(ts:Ρ)(_:vs=[.ref c,.str nm,.ref tx])(_:Ì K a H c dc p ll tl n kd ps L ks M W)(_:L.length<=1000)(_:j8 H tx ts 1000)(_:¬W tx)(_:M+6*(dec ts).length+20<1000000)(_:∀(r:z4)(W':Ν)(H':Hp),H r=none->H' r=some (.lst ((â n kd ps (Ê (L.map (·.2))) ts).map V.int))->Ì K a H' c dc p ll tl n kd ps (L++[(nm,ts)]) (ks++[.non]) (M+6*(dec ts).length) W'->Go (ChW ll tl W) H H' (ChW ll tl W')->Q (.ref r) H')
def yzz:vo P w K mg Γ CX0 8 a.Mv a.Pn ["self","name","text"] (yf2 K a):=by
 exists T.Jq.F.ok,yqy,x;let⟨c,y,p,u,v,n,U,X,L,C,M,W,D,nm,O,rfl,b,hz,j,e,S,k⟩:=h;have R:=b.me;have N:=b.tx.len;exists 3,1,yf (yt (i:=3) yqy.nd rfl (Or.inl rfl) (xp (ykl T) x.m T.Fk (pac (yk (pv 0) rfl) (pa1 (pv 2))))) (yf (yu (xi (pv 0) T.Ag T.Eg.m (yq2 T) x.m T.Eg.B .nil vn (pac (pv 1) (pa1 uy)))) (yc (yn (pv 3))));refine b.fz.press j e S λr Y Z d o I g=>?_;have f:=g.fr _ _ b.hl b.nll;have l:=g.fr _ _ b.ht b.ntl;have q:=g.fr _ _ b.me b.nc;ext;exists c,y,_,u,v,_,_,_,_,rfl,q,f,l,b.ne,by unfold nmL;rw[ba];omega,(),?_
 let⟨z,g2⟩:=b.grow (nm:=nm) I g (.inl rfl);ext;refine k r Y _ d ?_ z g2;rw[ym (yb b.ht d).symm,ym (yb b.hl d).symm];exact o
#synth ypc ["self","name","data","most","first"] ["self","name","data","most"] vce
inductive yii(K:z3)(a:Ads)(vs:Υ)(H:Hp)(Q:VK)(E':XK):Prop
 |mk(c dc p ll tl:z4)(n:Nat)(kd:Ξ)(ps:Λ)(L:Η)(ks:Υ)(M:Nat)(W:Ν)(dt:z4)(nm:Str)(ts bs:Ρ)(mo:Nat)(_:vs=[.ref c,.str nm,.ref dt,.int mo])(_:Ì K a H c dc p ll tl n kd ps L ks M W)(_:L.length<=1000)(_:Sgs ts)(_:H dt=some (.lst ((â n kd ps (Ê (L.map (·.2))) ts++bs).map V.int)))(_:¬W dt)(_:Byt bs)(_:(â n kd ps (Ê (L.map (·.2))) ts++bs).length<=12000)(_:ts.length<=mo)(_:mo<=1000)(_:M+54*mo+200<1000000)(_:∀(q:z4)(W':Ν)(H':Hp),H q=none->Ì K a H' c dc p ll tl n kd ps (L++[(nm,ts)]) (ks++[.ref q]) (M+6*(dec ts).length) W'->Go (ChW ll tl W) H H' (ChW ll tl W')->Q (.int ((â n kd ps (Ê (L.map (·.2))) ts).length:Nat)) H')
def yyj:vo P w K mg Γ (CXe P w) 11 a.Mw a.Po ["self","name","data","most"] (yii K a):=by
 exists T.Jr.F.okE,ypc,S;let⟨c,U,p,f,j,n,X,Y,L,O,M,W,dt,nm,R,bs,mo,rfl,b,hz,r,y,l,N,u,I,x,hM,k⟩:=h;have a2:=b.me;have a1:=b.tx.len;exists 4,1,yf (yt (i:=4) ypc.nd rfl (Or.inl rfl) (uo (yy6 T) S.m T.Qr yv (pac (yk (pv 0) rfl) (pac (pv 2) (pa1 (pv 3)))))) (yf (yu (xi (pv 0) T.Ag T.Eg.m (yq2 T) S.m T.Eg.B .nil vn (pac (pv 1) (pa1 (xz jw (pv 4) yh (λF F=>rfl)))))) (yc (yn (xz jw (pv 4) yh (λF F=>rfl)))));refine b.fz.read (zg _) r y l N u I x hM λt q Z H1 e d ht hq hf g nq=>?_;have v:=g.fr _ _ b.hl b.nll;have C:=g.fr _ _ b.ht b.ntl;have G:=g.fr _ _ b.me b.nc;ext;exists t,_,0,_,rfl,rfl,SqT.of ht,rfl,?_;ext;exists c,U,_,f,j,_,_,_,_,rfl,G,v,C,b.ne,by unfold nmL;rw[ba];omega,(),?_
 have o:¬ChW f j Z q:=λw=>by
  rcases w with w|w|w
  .exact yb b.hl d w.symm
  .exact yb b.ht d w.symm
  .exact nq w
 let⟨z,g2⟩:=b.grow (nm:=nm) hf g (.inr ⟨q,rfl,hq,o⟩)
 have D:(upd (upd H1 f (.lst (nmL L++[V.str nm]))) j (.lst (O++[V.ref q]))) t=some (.tup [.ref q,.int ((â n X Y (Ê (L.map (·.2))) R).length:Nat)]):=by
  rw[ym (yb b.ht e).symm,ym (yb b.hl e).symm];exact ht
 ext;exists t,_,1,_,rfl,rfl,SqT.of D,rfl,?_;exact k q Z _ d z g2
def FZ.fork{H:Hp}{p:z4}{n:Nat}{kd:Ξ}{ps:Λ}{pre:Ρ}{M:Nat}{W:Ν}{Q:VK}{E:XK}(h:FZ K a H p n kd ps pre M W)(hM:M+20<1000000)
  (k:∀q W' H',FZ K a H' q n kd ps pre (M+6) W'->(∀c,W' c->H c=none)->yr H H'->Q (.ref q) H'):yek K a [.ref p] H Q E:=by
 let⟨A,f,O,m,o,G,B,rfl,rfl,rfl,u,x,J⟩:=h;have I:=o.n6;exists p,A,_,f,O,m,rfl,o,B,(),λq l F i H' C d e b t y L r s v D S=>k q (yvy q l i) H' ⟨l,F,i,m+A.n,d,(),e,b,t,y,u,x,λc=>Iff.rfl⟩ (λc w=>?_) S
 rcases w with z|z|⟨j,g,z⟩|⟨j,g,z⟩|z
 .rw[z];exact C
 .rw[z];exact v
 .rw[z];exact s j (by rw[<- b];exact g)
 .exact r j c (by rw[<- b];exact g) z
 .exact D c (.inr (.inl z))
#synth yxu ["self","text"] vbg
inductive yhl(K:z3)(a:Ads)(vs:Υ)(H:Hp)(Q:VK)(E':XK):Prop
 |mk(c dc p ll tl:z4)(n:Nat)(kd:Ξ)(ps:Λ)(L:Η)(ks:Υ)(M:Nat)(W:Ν)(tx:z4)(ts:Ρ)(_:vs=[.ref c,.ref tx])(_:Ì K a H c dc p ll tl n kd ps L ks M W)(_:j8 H tx ts 1000)(_:M+60000<1000000)(_:∀H',yr H H'->Q (.int ((â n kd ps (Ê (L.map (·.2))) ts).length:Nat)) H')
def ypb:vo P w K mg Γ CX0 9 a.Mx a.Pp ["self","text"] (yhl K a):=by
 exists T.Eh.F.ok,yxu,G;let⟨c,dc,p,X,Y,n,kd,ps,L,R,M,W,S,D,rfl,g,b,hM,k⟩:=h;have a2:=g.me;have a1:=xr D;have hz:=b.z
 obtain⟨C,v,t,u,y,I,J,hp⟩:∃C v t u y I J,H p=some (.ins a.A3 C (jb v t u y I J)):=by
  let⟨A,f,O,m,hF,_⟩:=g.fz;exists _,_,_,_,_,_,_,hF.me
 exists 2,0,yc (yn (pcB yp T.A7 (pa1 (xp (ykl T) G.m T.Fk (pac (vj (yk (pv 0) rfl) T.A8 T.Jg.m (yy9 T) G.m T.Jg.B .nil vn) (pa1 (pv 1)))))));refine g.fz.fork () λq W' H1 Z N j=>?_;ext;refine Z.press (b.same j) (λw=>by have e:=N _ w;rw[b.l]at e;cases e) () λr W2 H2 a3 d F g2=>?_;ext;refine u5 (SqL.of d) ?_;rw[ba];exact k H2 λx o e=>g2.fr _ _ (j _ _ e) λw=>by rw[N _ w]at e;cases e
#synth yw4 ["thing"] vdu
inductive yic(K:z3)(vs:Υ)(H:Hp)(Q:VK)(E':XK):Prop
 |mk(x n:_)(_:vs=[x])(_:uh K H x (.type n))(_:(∀s,x=.str s->s.length<=100000))(_:∀H',yr H H'->Q (.bl (nmV x)) H')
def yzk:vo P w K mg Γ CX0 1 a.My a.Pq ["thing"] (yic K):=by
 exists T.Qt.F.ok,yw4,t;let⟨x,n,rfl,d,b,k⟩:=h;exists 1,0,yc (yn (ji (pcB wn T.A5 (pac (pv 0) (pa1 (jj (T:="str") rfl T.Di (by right))))) (ji (Ó jr jr yh (pcB zu T.A7 (pa1 (pv 0))) (vz rfl T.D4)) (Þ (pcB (jo rfl) T.Cz (pa1 (vx (js:=[]) (ys:=[]) rfl (yfq (pv 0)) (λC u v r=>(u7 yb3 (pv 0) (ja rfl T.Dj) (by with_unfolding_all rfl))) rfl rfl (hyc:=yy) (hrel:=yy))))))));refine à d (yd3 d) ?_;ext;by_cases hn:n="str"
 .obtain⟨s',rfl⟩:∃s',x=.str s':=by
   cases d with
   |str s'=>exists s',rfl
   |_=>exact absurd hn ∅
  have b:=b s' rfl;rw[bn hn];refine ν ?_;ext;exists s',rfl,bF b ∅,?_;refine⟨1,(s'.length:Int),rfl,rfl,_,rfl,?_⟩;by_cases h1:(1:Int)<=(s'.length:Int)
  .refine yav h1 ?_;exists(s'.length:Int),8,rfl,rfl,_,rfl,?_;by_cases h8:(s'.length:Int)<=8
   .refine yav h8 ?_;ext;exists s',rfl,λD j=>?_;refine Ð (λi=>.bl (yog (s'.cps.toList.getD i 0))) j (λi c G q l S f=>?_) (λG S f=>?_)
    .ext;exists _,_,rfl,rfl,?_;refine Mp.doneR j (Nat.lt_of_le_of_lt (show s'.cps.size<=100000 from b) ∅) l S f ?_
     have m:s'.cps.toList.getD i 0=c:=by
      rw[bI,Array.getElem?_toList,q];rfl
     rw[m];unfold yog;rfl
    .ext;exists D,s'.cps.toList.map yog,rfl,?_,?_
     .refine SqL.of (f.trans ?_);rw[ytv]
     .have e:=va3 h1 h8;rw[<- e];exact k _ S
   .have e:=yy1 h8;rw[e]at k;exact ydu h8 (k _ (yr.refl _))
  .have e:=yx7 h1;rw[e]at k;refine ydu h1 ?_;exists _,rfl,jc (k _ (yr.refl _))
 .have e:nmV x=false:=by
   cases d with
   |str s'=>exact absurd rfl hn
   |_=>rfl
  rw[bo hn];rw[e]at k;exact jc (k _ (yr.refl _))
#synth vap ["thing"] vc8
inductive yn0(K:z3)(C:z4)(vs:Υ)(H:Hp)(Q:VK)(E:XK):Prop
 |mk(x n:_)(_:vs=[x])(_:uh K H x (.type n))(_:(∀s,x=.str s->s.length<=100000))(_:(nmV x=true->∀H',yr H H'->Q x H'))(_:(nmV x=false->∀H',yr H H'->E (.ref C) none H'))
def yk4:vo P w K mg Γ (CXe P w) 2 a.Mz a.Pr ["thing"] (yn0 K a.Aj):=by
 exists T.Fm.F.okE,vap,i;let⟨x,n,rfl,k,d,j,e⟩:=h;exists 1,0,yf (v9 (xt (xy (xp (yzk T) i.m T.Qt (pa1 (pv 0))))) (yc (wx rfl T.Kj T.Kl (pa1 vg))) y7) (yc (yn (pv 0)));exists x,n,rfl,k,d,λl c=>?_;ext
 cases hx:nmV x with
 |false =>
  ext;exists by walk_at "len",e hx _ c
 |true =>
  ext;exact j hx _ c
#synth ywz ["thing"] vdm
inductive ynq(K:z3)(C:z4)(vs:Υ)(H:Hp)(Q:VK)(E:XK):Prop
 |mk(x n:_)(_:vs=[x])(_:uh K H x (.type n))(_:(∀s,x=.str s->s.length<=100000))(_:((x=.non\/nmV x=true)->∀H',yr H H'->Q .non H'))(_:(x≠.non->nmV x=false->∀H',yr H H'->E (.ref C) none H'))
def yx3:vo P w K mg Γ (CXe P w) 3 a.N2 a.Ps ["thing"] (ynq K a.Aj):=by
 exists T.Qu.F.okE,ywz,l;let⟨x,n,rfl,o,g,f,i⟩:=h;exists 1,0,yc (v9 (yx yar (pv 0) uy (y9 _)) (yc (yu (uo (yk4 T) l.m T.Fm yv (pa1 (pv 0))))) y7);by_cases hx:x=.non
 .subst hx;ext;exact f (.inl rfl) _ (yr.refl _)
 .ext;rw[bo hx];refine ν ?_;ext;exists x,n,rfl,o,g,λb e c=>?_,λb e c=>i hx b e c;ext;exact f (.inr b) _ c
#synth yxs ["self","base","data"] vcm
inductive ynb(a:Ads)(vs:Υ)(H:Hp)(Q:VK)(E':XK):Prop
 |mk(p dp:z4)(x y:V)(_:vs=[.ref p,x,y])(_:H p=some (.ins a.Aa dp []))(_:∀H',H' p=some (.ins a.Aa dp (Ī x y))->But p H H'->Q .non H')
def yzf:vo P w K mg Γ CX0 1 a.Gs a.Pt ["self","base","data"] (ynb a):=by exists T.Qv.F.ok,yxs,j;let⟨p,b,x,y,rfl,l,k⟩:=h;exists 3,0,yf (ve (pv 0) (pv 1) rfl) (yc (ve (pv 0) (pv 2) rfl));have c:upd H p (HO.ins a.Aa b ([("base",x)]:Ι)) p=some (HO.ins a.Aa b ([("base",x)]:Ι)):=ya;have e:But p H (upd H p (HO.ins a.Aa b ([("base",x)]:Ι))):=But.upd;generalize upd H p (HO.ins a.Aa b ([("base",x)]:Ι))=i at c e⊢;ext;exact k _ ya (e.trans But.upd)
#synth yw7 ["self","looks","most"] vbi
inductive ybg(K:z3)(a:Ads)(vs:Υ)(H:Hp)(Q:VK)(E':XK):Prop
 |mk(p ds l:z4)(mo w:Nat)(n:Nat)(lk tp:Μ)(kd:Ξ)(ps:Λ)(_:vs=[.ref p,.ref l,.int mo])(_:H p=some (.ins a.A0 ds []))(_:H l=some (.lst (refs lk n)))(_:1<=n)(_:n<=6)(_:x9 H n lk kd tp ps)(_:mo<=1000)(_:w<=mo)(_:w<=200)(_:∀(ll d c dc q cl ct:z4)(U:Ν)(H':Hp),ju K a H' p ds ll d c dc q cl ct lk tp n kd ps mo w [] [] [] U->(∀x,StW c cl ct U x->H x=none)->H ll=none->H d=none->But p H H'->(∀y xs H'',H y=some (.lst xs)->But y H' H''->ju K a H'' p ds ll d c dc q cl ct lk tp n kd ps mo w [] [] [] U)->Q .non H')
def ywd:vo P w K mg Γ (CXe P w) 10 a.Gt a.Fh ["self","looks","most"] (ybg K a):=by
 exists T.Sm.okE,yw7,hr;let⟨p,j,l,D,w,n,lk,tp,kd,ps,rfl,W,hl,J,n6,O,a0,a2,a4,k⟩:=h;refine yg (ve (pv 0) (uo (ypt T) hr.m T.J6 yv (pa1 (pv 1))) rfl) ?_;refine yg (yu (uo (vfl T) hr.m T.Sj yv (pa1 (pv 2)))) ?_;refine yg (ve (pv 0) (pv 2) rfl) ?_;refine yg (ve (pv 0) yee rfl) ?_;exists 3,0,yc (ve (pv 0) (ux T.Cm (yff T) hr.m rfl T.Cl T.Ef.B .nil yv (pa1 (yk (pv 0) rfl))) rfl);refine .inr ⟨l,refs lk n,List.replicate (refs lk n).length true,rfl,hl,by rw[vi];omega,O.lks.bs,λB g H1 v a3 t=>?_,λno=>absurd ⟨by rw[vi];exact J,by rw[vi];exact n6,yj0 _⟩ no⟩;have al:=t _ _ W;ext;have af:upd H1 p (HO.ins a.A0 j ([("looks",V.ref g)]:Ι)) p=some (HO.ins a.A0 j ([("looks",V.ref g)]:Ι)):=ya;have BA:But p H1 (upd H1 p (HO.ins a.A0 j ([("looks",V.ref g)]:Ι))):=But.upd;generalize upd H1 p (HO.ins a.A0 j ([("looks",V.ref g)]:Ι))=HA at af BA⊢;exists .int D,"int",rfl,.int _,λB=>?_,λz=>by rw[yy8 a0]at z;cases z
 ext;have Z:upd HA p (HO.ins a.A0 j ([("looks",V.ref g),("most",V.int D)]:Ι)) p=some (HO.ins a.A0 j ([("looks",V.ref g),("most",V.int D)]:Ι)):=ya;have BB:But p HA (upd HA p (HO.ins a.A0 j ([("looks",V.ref g),("most",V.int D)]:Ι))):=But.upd;generalize upd HA p (HO.ins a.A0 j ([("looks",V.ref g),("most",V.int D)]:Ι))=HB at Z BB⊢;intro d hd0;exists hd0,HC,SC,eC;have ak:=SC _ _ Z;ext;have r:upd HC p (HO.ins a.A0 j ([("looks",V.ref g),("most",V.int D),("pieces",V.ref d)]:Ι)) p=some (HO.ins a.A0 j ([("looks",V.ref g),("most",V.int D),("pieces",V.ref d)]:Ι)):=ya;have BD:But p HC (upd HC p (HO.ins a.A0 j ([("looks",V.ref g),("most",V.int D),("pieces",V.ref d)]:Ι))):=But.upd;generalize upd HC p (HO.ins a.A0 j ([("looks",V.ref g),("most",V.int D),("pieces",V.ref d)]:Ι))=X at r BD⊢;have G:∀x o,H1 x=some o->x≠p->X x=some o:=λx o e u=>BD _ _ (SC _ _ (BB _ _ (BA _ _ e u) u)) u
 have K0:∀x,x≠p->X x=none->H x=none:=λx u e=>by
  cases z:H x with
  |none=>rfl
  |some o=>rw[G _ _ (t _ _ z) u]at e;cases e
 have a1:g≠p:=(yb W v).symm;have C:d≠p:=(yb Z hd0).symm;have F:=G _ _ a3 a1;have N:X d=some (.dK []):=BD _ _ eC C
 have ab:x9 X n lk kd tp ps:=λi hi=>by
  let⟨q,e,S,R,h3⟩:=O i hi;exists q,e,G _ _ (t _ _ S) (w8 S W (by intro z;cases z)),G _ _ (t _ _ R) (w8 R W (by intro z;cases z)),h3
 exists p,_,j,_,_,rfl,r,T.A1,T.As,rfl,?_;ext;intro c dc nc a9 ah;have SQ:yr X (upd (upd X dc (.own c)) c (.ins a.A2 dc [])):=λb o e=>by rw[ym (yb e nc),ym (yb e a9)];exact e
 exists c,dc,g,n,lk,tp,kd,ps,rfl,ya,SQ _ _ F,J,n6,ab.same SQ,λq cl ct U HE ae a7 BE ac=>⟨rfl,?_⟩;have I:yr X HE:=λb o e=>BE _ _ (SQ _ _ e) (yb e nc);have a5:=I _ _ r
 have M:∀x,StW c cl ct U x->X x=none:=λx w=>by
  rcases w with z|z
  .rw[z];exact nc
  .exact SQ.free (a7 x z)
 have Y:¬StW c cl ct U p:=λw=>by have e:=M _ w;rw[r]at e;cases e
 have a6:H d=none:=by
  cases z:H d with
  |none=>rfl
  |some o=>rw[BB _ _ (BA _ _ (t _ _ z) C) C]at hd0;cases hd0
 ext;refine k g d c dc q cl ct U _ ⟨ya,J,n6,ye a1 (I _ _ F),λi hi=>?_,⟨ye C (I _ _ N),λq f=>(by cases f),List.nodup_nil,λq f=>(by cases f),λq f=>(by cases f),bJ _,λq f=>(by cases f)⟩,ae.but a5 Y But.upd,λx hx w=>?_,a0,⟨a2,a4⟩,⟨none,rfl⟩⟩ (λx w=>?_) v ?_ (λx o e u=>ye u (I _ _ (G _ _ (t _ _ e) u))) (λy xs H2 L b=>?_)
 .obtain⟨q,e,S,R,h3⟩:=O i hi;have J:=w8 S W (by intro z;cases z);have n2:=w8 R W (by intro z;cases z);exists q,e,ye J (I _ _ (G _ _ (t _ _ S) J)),ye n2 (I _ _ (G _ _ (t _ _ R) n2)),h3
 .have e:=M _ w;rcases hx with z|z|z|⟨q,f,_⟩
  .rw[z,r]at e;cases e
  .rw[z,F]at e;cases e
  .rw[z,N]at e;cases e
  .cases f
 .exact K0 x (λz=>Y (z ▸ w)) (M x w)
 .exact a6
 .have a8:p≠y:=λz=>by rw[<- z,W]at L;cases L
  have aa:=SQ _ _ (G _ _ (t _ _ L) a8.symm)
  have bG:But y HE (upd H2 p (HO.ins a.A0 j ([("looks",V.ref g),("most",V.int D),("pieces",V.ref d)]:Ι))):=λx o e u=>by
   by_cases z:x=p
   .rw[z,ya];rw[z,a5]at e;exact e
   .exact ye z (b _ _ (ye z e) u)
  have ad:=ac y xs _ aa bG;have ai:=t _ _ L;exists b _ _ ya a8,J,n6,b _ _ (ye a1 (I _ _ F)) (λz=>by rw[<- z,v]at L;cases L),λi hi=>?_,⟨b _ _ (ye C (I _ _ N)) (λz=>by rw[<- z,a6]at L;cases L),λq f=>(by cases f),List.nodup_nil,λq f=>(by cases f),λq f=>(by cases f),bJ _,λq f=>(by cases f)⟩,ad.but ya Y (λx o e u=>by rw[ym u]at e;exact e),λx hx w=>?_,a0,⟨a2,a4⟩,⟨none,rfl⟩
  .obtain⟨q,e,S,R,h3⟩:=O i hi;have J:=w8 S W (by intro z;cases z);have n2:=w8 R W (by intro z;cases z);exists q,e,b _ _ (ye J (I _ _ (G _ _ (t _ _ S) J))) (w8 S L (by intro z;cases z)),b _ _ (ye n2 (I _ _ (G _ _ (t _ _ R) n2))) (w8 R L (by intro z;cases z)),h3
  .have e:=M _ w;rcases hx with z|z|z|⟨q,f,_⟩
   .rw[z,r]at e;cases e
   .rw[z,F]at e;cases e
   .rw[z,N]at e;cases e
   .cases f
def Sto.new{H:Hp}{l:z4}{mo w n:Nat}{lk:Μ}{kd:Ξ}{ps:Λ}{Q:VK}{E:XK}(hst0:H st=none)(hds0:H ds=none)(hlo:H l=some (.lst (refs lk n)))(n1:1<=n)(n6:n<=6)(hR:x9 H n lk kd tp ps)(m1:mo<=1000)(wm:w<=mo)(w2:w<=200)
  (k:∀X H',Sto K a H' st ⟨n,kd,ps,mo,w⟩ [] X->yr H H'->(∀y,X.f y->H y=none)->(∀y xs H'',H y=some (.lst xs)->But y H' H''->Sto K a H'' st ⟨n,kd,ps,mo,w⟩ [] X)->Q .non H'):ybg K a [.ref st,.ref l,.int mo] (upd (upd H ds (.own st)) st (.ins a.A0 ds [])) Q E:=by
 have g:yr H (upd (upd H ds (.own st)) st (.ins a.A0 ds [])):=λb o e=>by rw[ym (yb e hst0),ym (yb e hds0)];exact e
 exists st,ds,l,mo,w,n,lk,tp,kd,ps,rfl,ya,g _ _ hlo,n1,n6,hR.same g,m1,wm,w2,λt d c x p v u U B j r h m A i=>k _ B ⟨ds,t,d,c,x,p,v,u,lk,tp,[],[],[],U,j,rfl,rfl⟩ (λy o e=>A _ _ (g _ _ e) (yb e hst0)) (λy s=>?_) λy xs C s b=>⟨ds,t,d,c,x,p,v,u,lk,tp,[],[],[],U,i y xs C (g _ _ s) b,rfl,rfl⟩;rcases s with(z|z|z)|z|⟨q,hq,_⟩|z
 .rw[z];exact g.free m
 .rw[z];exact hst0
 .exact g.free (r y z)
 .rw[z];exact g.free h
 .cases hq
 .cases z
#synth yx8 ["self"] vdg
inductive ybw(a:Ads)(vs:Υ)(H:Hp)(Q:VK)(E':XK):Prop
 |mk(st ds ll:z4)(vm vp vc:V)(xs:Υ)(_:vs=[.ref st])(_:H st=some (.ins a.A0 ds (xc (.ref ll) vm vp vc)))(_:H ll=some (.lst xs))(_:∀l H',H l=none->H' l=some (.lst xs)->yr H H'->Q (.ref l) H')
def yoz:vo P w K mg Γ CX0 1 a.N3 a.Pu ["self"] (ybw a):=by exists T.Ei.F.ok,yx8,r;let⟨f,p,e,m,i,q,g,rfl,j,d,k⟩:=h;exists 1,0,yc (yn (pcT wg T.Ad (pa1 (yk (pv 0) rfl))));exists e,_,rfl,.inl (SqL.of d),λl b=>?_;exact k l _ b ya (yz b)
def Sto.tlooks{H:Hp}{C:Cf}{P:qi Pd}{X:Sx}{Q:VK}{E:XK}(h:Sto K a H st C P X)(k:∀l lk tp H',H l=none->H' l=some (.lst (refs lk C.n))->x9 H' C.n lk C.kd tp C.ps->yr H H'->Q (.ref l) H'):ybw a [.ref st] H Q E:=by let⟨g,f,d,c,o,p,m,j,lk,tp,q,L,i,U,s,rfl,rfl⟩:=h;exists st,g,f,_,_,_,_,rfl,s.me,s.lo,λl H' e b S=>k l lk tp H' e b (s.row.same S) S
#synth yw0 ["self"] vdk
inductive yea(a:Ads)(vs:Υ)(H:Hp)(Q:VK)(E':XK):Prop
 |mk(st ds:z4)(vl vm vp vc:V)(_:vs=[.ref st])(_:H st=some (.ins a.A0 ds (xc vl vm vp vc)))(_:Q vm H)
def yw5:vo P w K mg Γ CX0 1 a.N4 a.Pv ["self"] (yea a):=by exists T.Js.F.ok,yw0,n;let⟨c,l,g,f,d,m,rfl,e,k⟩:=h;exists 1,0,yc (yn (yk (pv 0) rfl));exact k
def Sto.tmost{H:Hp}{C:Cf}{P:qi Pd}{X:Sx}{Q:VK}{E:XK}(h:Sto K a H st C P X)(k:Q (.int C.mo) H):yea a [.ref st] H Q E:=by let⟨b,f,d,c,m,p,j,g,l,i,n,L,e,U,s,rfl,rfl⟩:=h;exists st,b,_,_,_,_,rfl,s.me,k
#synth yyf ["self"] vea
inductive yew(a:Ads)(vs:Υ)(H:Hp)(Q:VK)(E':XK):Prop
 |mk(st ds d:z4)(vl vm vc:V)(P:qi Pc)(_:vs=[.ref st])(_:H st=some (.ins a.A0 ds (xc vl vm (.ref d) vc)))(_:H d=some (.dK (pcs P)))(_:P.length<=60)(_:∀l H',H l=none->H' l=some (.lst (P.map λq=>V.str q.nm))->yr H H'->Q (.ref l) H')
def ye4:vo P w K mg Γ CX0 1 a.N5 a.Pw ["self"] (yew a):=by
 exists T.C0.F.ok,yyf,v;let⟨f,r,d,j,i,o,P,rfl,g,t,u,k⟩:=h;exists 1,0,yc (yn (pcT (γ rfl) T.Ad (pa1 (yk (pv 0) rfl))));exists d,_,rfl,t,λl b=>?_;have e:(pcs P).map (λp=>kV p.1)=P.map λq=>V.str q.nm:=by unfold pcs;rw[bO];rfl
 rw[e];exact k l _ b ya (yz b)
def Sto.names{H:Hp}{C:Cf}{P:qi Pd}{X:Sx}{Q:VK}{E:XK}(h:Sto K a H st C P X)(k:∀l H',H l=none->H' l=some (.lst (P.map λq=>V.str q.nm))->yr H H'->Q (.ref l) H'):yew a [.ref st] H Q E:=by let⟨f,j,d,c,t,p,o,m,r,n,g,L,i,U,s,rfl,rfl⟩:=h;exists st,f,d,_,_,_,g,rfl,s.me,s.pz.dk,s.pz.z,λl H' e b S=>k l H' e ?_ S;rw[bO];exact b
#synth ywa ["self","text"] vb9
inductive yst(a:Ads)(vs:Υ)(H:Hp)(Q:VK)(E:XK):Prop
 |mk(st ds tx:z4)(vl vp vc:V)(mo:Int)(xs:Υ)(_:vs=[.ref st,.ref tx])(_:H st=some (.ins a.A0 ds (xc vl (.int mo) vp vc)))(_:H tx=some (.lst xs))(_:((xs.length:Int)<=mo->Q .non H))(_:(¬(xs.length:Int)<=mo->E (.ref a.Am) none H))
def yq4:vo P w K mg Γ (CXe P w) 1 a.N6 a.Px ["self","text"] (yst a):=by
 exists T.Ej.F.okE,ywa,t;let⟨d,o,f,l,g,r,j,e,rfl,i,c,p,k⟩:=h;exists 2,0,yc (v9 (yx ylb (pcB yp T.A7 (pa1 (pv 1))) (yk (pv 0) rfl) (y9 _)) (yc (wx rfl T.G0 T.G9 (pa1 vg))) y7);refine u5 (SqL.of c) ?_;ext;refine zn (λq=>?_) (λq=>?_)
 .ext;exists by walk_at "len",k ()
 .exact p ()
#synth vaf ["self","name"] vca
inductive yzw(K:z3)(a:Ads)(vs:Υ)(H:Hp)(Q:VK)(E:XK):Prop
 |mk(st ds d:z4)(vl vm vc:V)(n:Nat)(kd:Ξ)(ps:Λ)(w:Nat)(P:qi Pc)(x:V)(nt:String)(_:vs=[.ref st,x])(_:H st=some (.ins a.A0 ds (xc vl vm (.ref d) vc)))(_:Š a H d n kd ps w P)(_:uh K H x (.type nt))(_:(∀s,x=.str s->s.length<=100000))(_:(nmV x=false->∀H',yr H H'->E (.ref a.Aj) none H'))(_:(∀b,x=.str b->nmS b=true->(∀q,q∈P->q.nm≠b)->∀H',yr H H'->E (.ref a.A4) none H'))(_:(∀r,r∈P->x=.str r.nm->nmS r.nm=true->∀H',yr H H'->Q (.ref r.ob) H'))
def ŗ:vo P w K mg Γ (CXe P w) 3 a.N8 a.Pz ["self","name"] (yzw K a):=by
 exists T.Au.F.okE,vaf,g;let⟨v,N,d,M,y,I,n,J,L,w,P,x,l,rfl,j,G,C,O,B,D,R⟩:=h;exists 2,0,yf (v9 (yfe (ybz (É g) (uo (yk4 T) g.m T.Fm yv (pa1 (pv 1))) (yk (pv 0) rfl))) (yc (wx rfl T.G8 T.Ga (pa1 vg))) y7) (yc (yn (Ç (É g) (yk (pv 0) rfl) (pv 1) (λZ Z=>rfl))));exists x,l,rfl,C,O,λi o f=>?_,λi o f=>B i o f;let⟨b,rfl,p⟩:=vaa i;have t:=f _ _ j;have e:=G.same f;ext;rcases vee P b with⟨r,c,rfl⟩|q
 .exists d,_,rfl,e.get c,?_;exists false,rfl,jc ?_;ext;exists d,_,rfl,e.get c,?_;exact R r c rfl p _ f
 .exists d,_,rfl,e.getNo q,?_;exists true,rfl,ν ?_;ext;exists by walk_at "len",D b rfl p q _ f
#synth yxg ["self","name","base"] veo
inductive yuf(K:z3)(a:Ads)(vs:Υ)(H:Hp)(Q:VK)(E:XK):Prop
 |mk(st ds d:z4)(vl vm vc:V)(n:Nat)(kd:Ξ)(ps:Λ)(w:Nat)(P:qi Pc)(b:Str)(x:Φ)(_:vs=[.ref st,.str b,baV x])(_:H st=some (.ins a.A0 ds (xc vl vm (.ref d) vc)))(_:Š a H d n kd ps w P)(_:(∀y,x=some y->nmS y=true/\y.length<=100000))(_:((∃r,r∈P/\r.nm=b)->E (.ref a.Aw) none H))(_:((∀q,q∈P->q.nm≠b)->(∀y,x=some y->(∀q,q∈P->q.nm≠y)->∀H',yr H H'->E (.ref a.A4) none H')/\(∀L,To P x L->(P.length=60->∀H',yr H H'->E (.ref a.Dl) none H')/\(P.length≠60->∀H',yr H H'->Q .non H'))))
def yv7:vo P w K mg Γ (CXe P w) 4 a.N7 a.Py ["self","name","base"] (yuf K a):=by
 exists T.Jt.F.okE,yxg,D;let⟨v,O,d,N,C,I,n,J,L,w,P,b,x,rfl,f,g,U,Y,Z⟩:=h;exists 3,0,yf (v9 (yfe (yrv (É D) (pv 1) (yk (pv 0) rfl))) (yc (wx rfl T.Kz T.L6 (pa1 vg))) y7) (yf (v9 (yx yar (pv 2) uy (y9 _)) (yc (yu (y8 (pv 0) T.A1 T.Au.m (ŗ T) D.m T.Au.B .nil yv (pa1 (pv 2))))) y7) (yc (v9 (yx xl (pcB yhw T.A7 (pa1 (yk (pv 0) rfl))) (vz rfl T.Dc) (y9 _)) (yc (wx rfl T.R7 T.R8 (pa1 vg))) y7)));rcases vee P b with⟨r,c,rfl⟩|G
 .exists d,_,rfl,g.get c,?_;exists true,rfl,ν ?_;ext;exists by walk_at "len",Y ⟨r,c,rfl⟩
 .exists d,_,rfl,g.getNo G,?_;exists false,rfl,jc ?_;let⟨k3,u⟩:=Z G;have a0:(pcs P).length=P.length:=ba _;ext
  cases x with
  |none =>
   refine yr1 (λF=>?_) (λz=>absurd rfl z);let⟨l,q⟩:=u [] rfl;ext;exists d,_,rfl,g.dk,?_;ext;refine zn (λo=>?_) (λo=>?_)
   .ext;exists by walk_at "len",l () _ (yr.refl _)
   .ext;exact q () _ (yr.refl _)
  |some y =>
   refine yr1 (λz=>nomatch z) (λF=>?_)
   let⟨k,p⟩:=U y rfl;ext;exists v,O,d,N,C,I,n,J,L,w,P,.str y,"str",rfl,f,g,.str y,(λs e=>by cases e;exact p),(λz=>by rw[show nmV (.str y)=nmS y from rfl,k]at z;cases z),(λb e F j W S=>by cases e;exact k3 y rfl j W S),λr c e F H1 i=>?_;obtain rfl:y=r.nm:=by cases e;rfl
   let⟨l,q⟩:=u _ ⟨r,c,rfl,rfl⟩;have M:=i _ _ f;ext;exists d,_,rfl,i _ _ g.dk,?_;ext;refine zn (λo=>?_) (λo=>?_)
   .ext;exists by walk_at "len",l () _ i
   .ext;exact q () _ i
#synth yk5 ["self","name","links"] ["self","name"] vdn
inductive ymn(a:Ads)(vs:Υ)(H:Hp)(Q:VK)(E':XK):Prop
 |mk(st ds d:z4)(vl vm vc:V)(n:Nat)(kd:Ξ)(ps:Λ)(w:Nat)(P:qi Pc)(x:Φ)(L:Η)(_:vs=[.ref st,baV x])(_:H st=some (.ins a.A0 ds (xc vl vm (.ref d) vc)))(_:Š a H d n kd ps w P)(_:To P x L)(_:∀(l:z4)(H':Hp),H l=none->H' l=some (.lst (nmL L))->yr H H'->Q (.ref l) H')
def yq6:vo P w K mg Γ CX0 1 a.N9 a.Q1 ["self","name"] (ymn a):=by
 exists T.Ek.F.ok,yk5,hr;let⟨N,ds,d,vl,Y,vc,n,kd,ps,w,P,x,L,rfl,u,C,U,k⟩:=h;exists 2,1,yf (yt (i:=2) yk5.nd rfl (Or.inl rfl) (wy ur)) (yf (jm PassesOwn.never (yx yar (pv 1) uy (y9 _)) (yf (yu (ug PySem.F.plainAttrs_list PySem.F.slot_list_append PySem.F.type_list_append wk (pv 2) (pa1 (pv 1)))) (yc (yt (i:=1) yk5.nd rfl (Or.inl rfl) (yk (Ç (É hr) (yk (pv 0) rfl) (pv 1) (λZ Z=>rfl)) rfl))))) (yf (yu (yfl PySem.F.plainAttrs_list PySem.F.slot_list_reverse PySem.F.type_list_reverse œ (pv 2))) (yc (yn (pv 2)))));exists by walk_at "len",λl f=>?_
 ext
 refine⟨λm σ' G=>∃(y:Φ)(R S:Η),σ'=[some (.ref N),some (baV y),some (.ref l)]/\To P y R/\R++S=L/\G l=some (.lst (nmL S).reverse)/\yr H G/\m=R.length,
  ⟨_,x,L,[],rfl,U,cO L,ya,yz f,rfl⟩,?_⟩
 rintro m σ2 G ⟨y,R,S,rfl,M,c,g,B,rfl⟩;have J:=B _ _ u;have a1:=C.same B;have D:=To.len C U;have a0:S.length<=61:=by rw[<- c,bd]at D;omega
 ext
 cases y with
 |none =>
  refine yr1 (λZ=>?_) (λz=>absurd rfl z);have e:S=L:=by rw[show R=[]from M]at c;exact c
  ext;refine u8 g ?_;ext;refine ybh g ?_;rw[List.reverse_reverse,e];ext;exact k l _ f ya λb o z=>ye (yb z f) (B _ _ z)
 |some b =>
  refine yr1 (λz=>nomatch z) (λZ=>?_)
  let⟨r,p,rfl,q⟩:=M;exists _,λσ' H' z=>z,?_;ext;refine u8 g ?_;ext;refine w9 g (vh (by unfold nmL;rw[List.length_reverse,ba];omega)) ?_;have j:yr H (upd G l (HO.lst ((nmL S).reverse++[baV (some r.nm)]))):=λb o e=>ye (yb e f) (B _ _ e);have t:upd G l (HO.lst ((nmL S).reverse++[baV (some r.nm)])) l=some (HO.lst ((nmL S).reverse++[baV (some r.nm)])):=ya;generalize upd G l (HO.lst ((nmL S).reverse++[baV (some r.nm)]))=G' at j t⊢;have O:=j _ _ u;have v:=C.same j;have X:=(v.ob r p).1;ext;exists d,_,rfl,v.get p,?_;ext;exists r.path.length,?_,r.bs,r.path,(r.nm,r.tx)::S,rfl,C.wf r p,?_,?_,j,rfl
  .rw[q,bd,bX];omega
  .rw[<- c,q,bW];rfl
  .rw[ysa];exact t
#synth yj9 ["self","name","links","link"] ["self","name"] vb3
inductive ŉ(K:z3)(a:Ads)(vs:Υ)(H:Hp)(Q:VK)(E':XK):Prop
 |mk(st ds ll d c dc p cl ct:z4)(lk tp:Μ)(n:Nat)(kd:Ξ)(ps:Λ)(mo w:Nat)(P:qi Pc)(L:Η)(ks:Υ)(U:Ν)(x:Φ)(L':Η)(_:vs=[.ref st,baV x])(_:ju K a H st ds ll d c dc p cl ct lk tp n kd ps mo w P L ks U)(_:To P x L')(_:∀(c' dc' p' cl' ct':z4)(ks':Υ)(U':Ν)(H':Hp),ju K a H' st ds ll d c' dc' p' cl' ct' lk tp n kd ps mo w P L' ks' U'->Go (StO st c cl ct U) H H' (StO st c' cl' ct' U')->NK H ks ks'->(V.non∈ks'->V.non∈ks.take L'.length)->Q (.ref c') H')
def yfb:vo P w K mg Γ (CXe P w) 12 a.Na a.Q2 ["self","name"] (ŉ K a):=by
 exists T.C1.F.okE,yj9,hr;let⟨O,ds,ll,d,c,dc,p,cl,ct,lk,tp,n,kd,ps,mo,w,P,L,ks,U,x,t,rfl,N,hL,k⟩:=h;have ab:=N.me;refine yg (yt (i:=2) yj9.nd rfl (Or.inl rfl) (xi (pv 0) T.A1 T.Ek.m (yq6 T) hr.m T.Ek.B .nil vn (pa1 (pv 1)))) ?_;refine yg (Ĭ (v9 (yx (yk1 hr.units) (yk (yk (pv 0) rfl) rfl) (xw z8 (pv 2) uu (uv (pcB yp T.A7 (pa1 (yk (yk (pv 0) rfl) rfl))))) (y9 _)) (yc (ve (pv 0) (ux T.Cm (yff T) hr.m rfl T.Cl T.Ef.B .nil yv (pa1 (yk (pv 0) rfl))) rfl)) y7)) ?_;refine yg (PS.nox (uk PassesOwn.never rfl (we (xw z8 (pv 2) (uv (pcB yp T.A7 (pa1 (yk (yk (pv 0) rfl) rfl)))) uu)) (vy (i:=3) yj9.nd rfl (Or.inl rfl)) (yc (yu (y8 (yk (pv 0) rfl) T.Ag T.Jr.m (yyj T) hr.m T.Jr.B .nil vw (pac (pv 3) (pac (yk (Ç (É hr) (yk (pv 0) rfl) (pv 3) (λB B=>rfl)) rfl) (pa1 (yk (pv 0) rfl))))))))) ?_;exists 2,2,yc (yn (yk (pv 0) rfl));exists O,ds,d,_,_,_,n,kd,ps,w,P,x,t,rfl,ab,N.pz,hL,λl H1 aE a7 S1=>?_;have as:=S1 _ _ ab;have ad:=N.same S1;have aA:=ad.ch.me;have aa:=ad.ch.hl;let⟨y,hy⟩:=N.way;have ar:=To.len N.pz hL;have ax:=To.len N.pz hy;ext;exists λσ2 G=>∃(S R p2 j f:z4)(I:Υ)(U2:Ν)(C:Η),σ2=[some (.ref O),some (baV x),some (.ref l),none]/\ju K a G O ds ll d S R p2 j f lk tp n kd ps mo w P C I U2/\Go (StO O c cl ct U) H G (StO O S j f U2)/\C=t.take C.length/\C.length<=t.length/\G l=some (.lst (nmL t))/\NK H ks I/\(V.non∈I->V.non∈ks.take t.length),?_,?_
 .ext;refine u5 (SqL.of aa) ?_;ext;refine ŀ (SqL.of a7) λq hq0=>?_;rw[Â,ι,ă];exists hq0,H2,S2,e2;have a5:=S1.trans S2;have M:=N.same a5;have a4:=M.me;have X:=S2 _ _ a7;rw[è]at e2;have a3:=M.ch.hl;rw[è]at a3;refine ype _ _ (hy.ok N.pz) (λz hz=>hL.ok N.pz z (by let⟨u,hu,rfl⟩:=bg.mp hz;exact bg.mpr ⟨u,cy hu,rfl⟩)) (SqL.of a3) (SqL.of e2) ?_;by_cases he:L.map (·.1)=(t.take L.length).map (·.1)
  .rw[bn he];exists false,rfl,jc ?_;have e3:=To.ahead N.pz.nd N.pz.wf hy hL (by rw[ă];exact yo8 he);have e4:=congrArg List.length e3;rw[bU]at e4;exists c,dc,p,cl,ct,ks,U,L,rfl,M,Go.refl.same a5,e3,(),X,.refl,λz=>by rw[bZ (by rw[N.ch.tx.len];omega)];exact z
  .rw[bo he];exists true,rfl,ν ?_;ext;intro c' Y nc a6 aD;have SQ:yr H2 (upd (upd H2 Y (.own c')) c' (.ins a.A2 Y [])):=λb o e=>by rw[ym (yb e nc),ym (yb e a6)];exact e
   exists c',Y,ll,n,lk,tp,kd,ps,rfl,ya,SQ _ _ M.lo,M.n1,M.n6,M.row.same SQ,λp' ai aq U' HE a0 a9 BE B=>⟨rfl,?_⟩;let⟨hR,gR,SE,hN⟩:=M.re nc a6 a0 a9 BE;have av:=SE _ _ a4;ext
   exists c',Y,p',ai,aq,[],U',[],rfl,hR,gR.ahead a5,rfl,bJ _,ye (λz=>by rw[z,a4]at X;cases X) (SE _ _ X),.nil,λz=>nomatch z
 .rintro σ2 G ⟨S,R,p2,j,f,I,U2,C,rfl,hG,go,an,af,al,ag,ah⟩;have aw:=hG.me;have ay:=hG.ch.me;have ac:=hG.ch.hl;ext;refine u5 (SqL.of ac) ?_;ext;refine ŀ (SqL.of al) λq hq0=>?_;rw[Â,yl2];have S1:=yz (o:=(HO.lst ((nmL t).drop C.length))) hq0;have e1:upd G q (HO.lst ((nmL t).drop C.length)) q=some (HO.lst ((nmL t).drop C.length)):=ya;generalize upd G q (HO.lst ((nmL t).drop C.length))=G1 at S1 e1⊢
  have am:∀W F,Go (StO O S j f U2) G1 F (StO O S j f W)->ju K a G O ds ll d S R p2 j f lk tp n kd ps mo w P C I U2->F q=some (HO.lst ((nmL t).drop C.length)):=λW F g hG=>g.fr _ _ e1 λw=>by
   let⟨o,e⟩:=hG.lvO q w;rw[hq0]at e;cases e
  exists q,rfl,⟨_,SqL.of e1⟩,xx (K:=K) (a:=q) (xs:=(nmL t).drop C.length) (λi σ2 F=>∃(v:Ψ)(D:Υ)(W:Ν),σ2=[some (.ref O),some (baV x),some (.ref l),v]/\ju K a F O ds ll d S R p2 j f lk tp n kd ps mo w P (t.take (C.length+i)) D W/\Go (StO O S j f U2) G1 F (StO O S j f W)/\NK G1 I D/\(V.non∈D->V.non∈I)) ?_ ?_ ?_ ?_
  .rw[Nat.add_zero,<- an];exists none,I,U2,rfl,hG.same S1,Go.refl,.refl,id
  .rintro i σ2 F _ ⟨v,D,W,rfl,J,g,a2,a1⟩;exact SqL.of (am W F g hG)
  .rintro i z σ2 F hz ⟨v,D,W,rfl,J,g,a2,a1⟩
   have hj:C.length+i<t.length:=by
    rcases Nat.lt_or_ge (C.length+i) t.length with z|z
    .exact z
    .rw[bK (by rw[cu,Â];omega)]at hz;cases hz
   let⟨r,Z,e3,e4,e5⟩:=hL.at' N.pz.wf hj
   obtain rfl:z=.str r.nm:=by
    rw[List.getElem?_drop,è,bO,bi,bc hj,e3]at hz;cases hz;rfl
   have a8:=J.me;have az:=J.ch.me;let⟨au,ae⟩:=J.pz.ob r Z;ext;exists d,_,rfl,J.pz.get Z,?_;ext;have aj:=J.pz.sz r Z;have hb:=J.wm;have hm:=ykk (L:=t.take (C.length+i)) (w:=w) (λy hy=>(hL.sz N.pz y (cy hy)).2) hb.2 (by rw[bU];omega);have ao:=J.mo1;have aC:=ā (n:=n) (kd:=kd) (ps:=ps) (pre:=Ê ((t.take (C.length+i)).map (·.2))) (ts:=r.tx) J.n1 J.n6 (zg _) ();exists S,R,p2,j,f,n,kd,ps,t.take (C.length+i),D,mOf (t.take (C.length+i)),W,r.dl,r.nm,r.tx,[],mo,rfl,J.ch,by rw[bU];omega,aj.1,?_,λw=>J.nw r.dl (.inr (.inr (.inr ⟨r,Z,.inr rfl⟩))) (.inr (.inr (.inr w))),(λb hb=>by cases hb),by rw[cO];omega,(),ao,(),λq3 U4 F2 ak a0 g2=>?_
   .rw[cO,<- e4];exact ae
   rw[<- yd6,<- e3,<- bY hj]at a0;let⟨h4,g4⟩:=J.go a0 g2 ⟨_,e5⟩;ext;exists _,_,U4,rfl,h4,g.trans g4,a2.app (λq e=>by cases e;exact g.free ak),λz=>a1 ((bH.mp z).elim id λy=>by cases bp.mp y)
  .rintro σ2 F ⟨v,D,W,rfl,J,g,a2,a1⟩;rw[cu,Â,Nat.add_sub_cancel' af,cg]at J;have a8:=J.me;ext;exact k S R p2 j f D W F J (go.trans (g.ahead S1)) (ag.trans a2 λq e=>go.free (S1.free e)) λz=>ah (a1 z)
def Ì.lvW{H:Hp}{c p ll:z4}{n:Nat}{kd:Ξ}{ps:Λ}{ks:Υ}{M:Nat}{W:Ν}(h:Ì K a H c dc p ll tl n kd ps L ks M W):∀x,StW c ll tl W x->∃o,H x=some o:=λx b=>by
 rcases b with z|z|z|z
 .exists _,by rw[z];exact h.me
 .exists _,by rw[z];exact h.hl
 .exists _,by rw[z];exact h.ht
 .exact h.fz.live x z
def Ì.butM{H H':Hp}{c p ll:z4}{n:Nat}{kd:Ξ}{ps:Λ}{ks:Υ}{M:Nat}{W:Ν}(h:Ì K a H c dc p ll tl n kd ps L ks M W){o:HO}(hq:H q=some o)(ho:yr2 o=true)(nq:¬StW c ll tl W q)(B:But q H H'):Ì K a H' c dc p ll tl n kd ps L ks M W:=by
 have b:∀{x:z4}{d:Υ},H x=some (.lst d)->x≠q:=λ{x d}e z=>by rw[z,hq]at e;cases e;cases ho
 exists B _ _ h.me λz=>nq (.inl z.symm),h.fz.frame (W2:=λx=>x=q) (λx z=>⟨o,by rw[show x=q from z];exact hq,.inl ho⟩) (λx w z=>nq (.inr (.inr (.inr (by rw[<- show x=q from z];exact w))))) (λx o e f=>B x o e f),B _ _ h.hl (b h.hl),B _ _ h.ht (b h.ht),h.tx.mono λx d e g=>⟨B _ _ e (b e),g⟩,h.nc,h.nll,h.ntl,h.ne
def To.more{P:qi Pc}{q:Pc}{x:Φ}(h:To P x L):To (P++[q]) x L:=by
 cases x with
 |none=>exact h
 |some b =>
  let⟨r,a,e⟩:=h;exists r,List.mem_append_left _ a,e
section
variable{H H1 H2 H3:Hp}{ll d c p ct:z4}{lk:Μ}{n:Nat}{kd:Ξ}{ps:Λ}{mo w:Nat}{P:qi Pc}{ks ks':Υ}
def ju.put(h:ju K a H st ds ll d c dc p cl ct lk tp n kd ps mo w P L ks U){b:Str}{x:Φ}{r ob od:z4}(hc:Ì K a H1 c dc p cl ct n kd ps (L++[(b,ts)]) ks' (mOf L+6*(dec ts).length) U')(g:Go (ChW cl ct U) H H1 (ChW cl ct U'))(hr0:H r=none)(hr:H1 r=some (.lst ((â n kd ps (Ê (L.map (·.2))) ts).map V.int)))(hob0:H1 ob=none)(S:yr H1 H2)(hob:H2 ob=some (.ins a.Aa od (Ī (baV x) (.ref r))))
  (hL:To P x L) (hL6:L.length<=60) (hts:Sgs ts) (htz:ts.length<=w) (hb1:nmS b=true) (hb2:PyData.strOk b=true) (hno:∀q,q∈P->q.nm≠b) (hP:P.length<60):
  ju K a (upd H2 d (.dK (pcs (P++[⟨b,x,L,ts,ob,od,r⟩])))) st ds ll d c dc p cl ct lk tp n kd ps mo w (P++[⟨b,x,L,ts,ob,od,r⟩]) (L++[(b,ts)]) ks' U'/\Go (λy=>y=d\/StO st c cl ct U y) H (upd H2 d (.dK (pcs (P++[⟨b,x,L,ts,ob,od,r⟩])))) (λy=>y=d\/StO st c cl ct U' y):=by
 have g1:Go (StW c cl ct U) H H1 (StW c cl ct U'):=g.or (Y:=λx=>x=c);have f:∀x o,H x=some o->(x=st\/x=ll\/x=d\/∃q,q∈P/\(x=q.ob\/x=q.dl))->H2 x=some o:=λx o e B=>S _ _ (g1.fr x o e (h.nw x B));have l:=f _ _ h.me (.inl rfl);have k:=f _ _ h.lo (.inr (.inl rfl));have j:=f _ _ h.pz.dk (.inr (.inr (.inl rfl)));have u:=g1.apart (λx B=>h.lv x B) h.nw;have s:x9 H2 n lk kd tp ps:=h.row.fr λx G e=>S _ _ (g1.fr _ _ e (h.ch.noTup e));have A:Ì K a H2 c dc p cl ct n kd ps (L++[(b,ts)]) ks' (mOf (L++[(b,ts)])) U':=by rw[yd6];exact hc.same S
 have v:¬StW c cl ct U' ob:=λz=>by
  let⟨o,e⟩:=hc.lvW ob z;rw[hob0]at e;cases e
 have M:¬StW c cl ct U' r:=λz=>by
  rcases z with z|z|z|z
  .rw[z,h.ch.me]at hr0;cases hr0
  .rw[z,h.ch.hl]at hr0;cases hr0
  .rw[z,h.ch.ht]at hr0;cases hr0
  .exact hc.fz.sh.ints hr (yne h.n1 h.n6 (zg _)) z
 exists⟨ye (λz=>by rw[z,j]at l;cases l) l,h.n1,h.n6,ye (λz=>by rw[z,j]at k;cases k) k,s.fr λx G e=>ye (λz=>by rw[z,j]at e;cases e) e,⟨ya,λq i=>?_,?_,λq i=>?_,λq i=>?_,?_,λq i=>?_⟩,A.butM j rfl (u d (.inr (.inr (.inl rfl)))) But.upd,λy t=>?_,h.mo1,h.wm,⟨some b,_,bR _ (bp.mpr rfl),rfl,rfl⟩⟩,⟨λy o e E=>?_,λy z=>?_,λy o e=>?_⟩
 .rcases bH.mp i with z|z
  .have C:=f _ _ (h.pz.ob q z).1 (.inr (.inr (.inr ⟨q,z,.inl rfl⟩)));have m:=f _ _ (h.pz.ob q z).2 (.inr (.inr (.inr ⟨q,z,.inr rfl⟩)));exists ye (λz=>by rw[z,j]at C;cases C) C,ye (λz=>by rw[z,j]at m;cases m) m
  .obtain rfl:=bp.mp z;have m:=S _ _ hr;exists ye (λz=>by rw[show ob=d from z,j]at hob;cases hob) hob,ye (λz=>by rw[show r=d from z,j]at m;cases m) m
 .rw[bz];refine List.nodup_append.mpr ⟨h.pz.nd,(by simp),λy t z F e=>?_⟩;let⟨q,i,rfl⟩:=bg.mp t;rw[List.map_singleton,bp]at F;exact hno q i (e.trans F)
 .rcases bH.mp i with z|z
  .exact(h.pz.wf q z).more
  .obtain rfl:=bp.mp z;exact hL.more
 .rcases bH.mp i with z|z
  .exact h.pz.sz q z
  .obtain rfl:=bp.mp z;exists hts,htz,hL6,λy t=>hL.sz h.pz y t
 .rw[bd,bX];omega
 .rcases bH.mp i with z|z
  .exact h.pz.nm q z
  .obtain rfl:=bp.mp z;exists hb1,hb2
 .rcases t with z|z|z|⟨q,i,z⟩
  .exact u y (.inl z)
  .exact u y (.inr (.inl z))
  .exact u y (.inr (.inr (.inl z)))
  .rcases bH.mp i with D|D
   .exact u y (.inr (.inr (.inr ⟨q,D,z⟩)))
   .obtain rfl:=bp.mp D;rcases z with z|z
    .rw[z];exact v
    .rw[z];exact M
 .exact ye (λz=>E (.inl z)) (S _ _ (g1.fr y o e λz=>E (.inr (.inr z))))
 .rcases z with z|z|z
  .exact .inl (.inl z)
  .exact .inl (.inr (.inl z))
  .exact(g1.nw y z).imp (λz=>.inr (.inr z)) id
 .obtain⟨I,J⟩:=g1.lv y o e;by_cases z:y=d
  .exists _,by rw[z];exact ya
  .exists I,ye z (S _ _ J)
end
#synth yj8 ["self","name","text","base","signs","data"] ["self","name","text","base"] vc1
inductive yq8(K:z3)(a:Ads)(vs:Υ)(H:Hp)(Q:VK)(E:XK):Prop
 | mk(st ds ll d c dc p cl ct:z4)(lk tp:Μ)(n:Nat)(kd:Ξ)(ps:Λ)(mo w:Nat)(P:qi Pc)(L:Η)(ks:Υ)(U:Ν)(b:Str)(x:Φ)(tx:z4)(ts:Ρ)(_:vs=[.ref st,.str b,.ref tx,baV x])(_:ju K a H st ds ll d c dc p cl ct lk tp n kd ps mo w P L ks U)(_:nmS b=true)(_:PyData.strOk b=true)(_:j8 H tx ts 1000)(_:(∀y,x=some y->nmS y=true))(_:P.length<60)(_:(mo<ts.length->∀H',yr H H'->E (.ref a.Am) none H'))(_:(ts.length<=mo->(∃r,r∈P/\r.nm=b)->∀H',yr H H'->E (.ref a.Aw) none H'))(_:(ts.length<=mo->(∀q,q∈P->q.nm≠b)->∀y,x=some y->(∀q,q∈P->q.nm≠y)->∀H',yr H H'->E (.ref a.A4) none H'))(_:(ts.length<=mo->(∀q,q∈P->q.nm≠b)->∀L',To P x L'->ts.length<=w/\L'.length<=60/\
 ∀(ob od dl c' dc' p' cl' ct':z4)(ks':Υ)(U':Ν)(H':Hp),ju K a H' st ds ll d c' dc' p' cl' ct' lk tp n kd ps mo w (P++[⟨b,x,L',ts,ob,od,dl⟩]) (L'++[(b,ts)]) ks' U'->H ob=none->H dl=none->Go (λy=>y=d\/StO st c cl ct U y) H H' (λy=>y=d\/StO st c' cl' ct' U' y)->NK H ks ks'->Q .non H'))
def yyq:vo P w K mg Γ (CXe P w) 13 a.Gu a.Fi ["self","name","text","base"] (yq8 K a):=by
 exists T.Sq.okE,yj8,D;let⟨W,ds,ll,d,c,dc,p,cl,ct,lk,tp,n,kd,ps,mo,w,P,L,ks,U,b,x,tx,ts,rfl,R,O,ae,C,M,af,kL,kT,kN,k⟩:=h;have az:=R.me;refine yg (yu (uo (yk4 T) D.m T.Fm yv (pa1 (pv 1)))) ?_;refine yg (yt (i:=4) yj8.nd rfl (Or.inl rfl) (uo (yg3 T) D.m T.F0 yv (pa1 (pv 2)))) ?_;refine yg (yu (uo (yx3 T) D.m T.Qu yv (pa1 (pv 3)))) ?_;refine yg (yu (y8 (pv 0) T.A1 T.Ej.m (yq4 T) D.m T.Ej.B .nil yv (pa1 (pv 4)))) ?_;refine yg (yu (y8 (pv 0) T.A1 T.Jt.m (yv7 T) D.m T.Jt.B .nil yv (pac (pv 1) (pa1 (pv 3))))) ?_;refine yg (yt (i:=5) yj8.nd rfl (Or.inl rfl) (xi (y8 (pv 0) T.A1 T.C1.m (yfb T) D.m T.C1.B .nil yv (pa1 (pv 3))) T.Ag T.Jq.m (yzz T) D.m T.Jq.B .nil vn (pac (pv 1) (pa1 (pv 4))))) ?_;exists _,(yc (yao (É D) (yk (pv 0) rfl) (pv 1) (À T.Kw (yzf T) D.m rfl T.Kv T.Qv.B .nil vn (pac (pv 3) (pa1 (pv 5)))) rfl)),?_;exists 4,2;have av:=xq O;have F:∀y,x=some y->nmS y=true/\y.length<=8:=λy e=>⟨M y e,xq (M y e)⟩;have an:=R.wm;have ar:=R.mo1;ext;exists .str b,"str",rfl,.str b,(λs e=>by cases e;omega),λB H1 S1=>?_,λz=>by rw[show nmV (.str b)=nmS b from rfl,O]at z;cases z
 have f:=C.same S1;ext;exists .ref tx,_,rfl,.lst f.l,.inr ⟨ts.map V.int,Ö f.l f.s (by have:=f.z;omega),λsg H2 a6 a9 S2=>?_⟩;ext
 have X:∃nt,uh K H2 (baV x) (.type nt):=by
  cases x with
  |none=>exists _,.non
  |some y=>exists _,.str y
 let⟨nt,X⟩:=X
 have ad:baV x=.non\/nmV (baV x)=true:=by
  cases x with
  |none=>exact .inl rfl
  |some y=>exact .inr (F y rfl).1
 exists baV x,nt,rfl,X,(λs e=>?_),λB H3 S3=>?_,λz1 z2=>absurd ad λz=>z.elim z1 λz=>by rw[z2]at z;cases z
 .cases x with
  |none=>cases e
  |some y=>cases e;have:=(F _ rfl).2;omega
 have t:=S1.trans (S2.trans S3);have a8:=R.same t;have I:=a8.me;have J:=S3 _ _ a9;ext;exists W,ds,sg,_,_,_,mo,_,rfl,I,J,λj=>?_,λz=>kL (by rw[ba]at z;omega) _ t;have j:ts.length<=mo:=by rw[ba]at j;omega
 ext;exists W,ds,d,_,_,_,n,kd,ps,w,P,b,x,rfl,I,a8.pz,(λy e=>⟨(F y e).1,by have:=(F y e).2;omega⟩),(λhx=>kT j hx _ t),λv=>⟨λy e al H4 S4=>kN j v y e al _ (t.trans S4),λL' hL=>⟨λz=>absurd z (),λB H4 S4=>?_⟩⟩;let⟨ab,ag,k⟩:=k j v L' hL;have u:=t.trans S4;have a0:=R.same u;have as:=a0.me;have G:=S4 _ _ J;ext;exists W,ds,ll,d,c,dc,p,cl,ct,lk,tp,n,kd,ps,mo,w,P,L,ks,U,x,L',rfl,a0,hL,λc' a2 p' S Z ac U' H5 N g5 aj B=>?_;have au:=N.ch.me
 have a7:¬StO W c cl ct U sg:=λz=>by
  let⟨o,e⟩:=R.lvO sg z;rw[S1.free a6]at e;cases e
 have aa:=g5.fr _ _ G a7;have a4:¬StO W c' S Z U' sg:=λz=>(g5.nw sg z).elim a7 λe=>by rw[G]at e;cases e
 have hm:=ykk (L:=L') (w:=w) (λy hy=>(hL.sz R.pz y hy).2) an.2 ();have ay:=xr ts;have ax:=C.z;ext;exists c',a2,p',S,Z,n,kd,ps,L',ac,mOf L',U',sg,b,ts,rfl,N.ch,(),⟨aa,C.s,()⟩,λz=>a4 (.inr (.inr (.inr (.inr z)))),(),λr U6 H6 a5 ah am g6=>?_
 have ak:=g6.fr _ _ N.me λz=>N.nw W (.inl rfl) (.inr z);have ap:=g6.fr _ _ N.pz.dk λz=>N.nw d (.inr (.inr (.inl rfl))) (.inr z);ext;intro ob od g a1 aA;have SQ:yr H6 (upd (upd H6 od (.own ob)) ob (.ins a.Aa od [])):=λb o e=>by rw[ym (yb e g),ym (yb e a1)];exact e
 exists ob,od,baV x,.ref r,rfl,ya,λH7 a3 B7=>⟨rfl,?_⟩;have S7:yr H6 H7:=λy o e=>B7 _ _ (SQ _ _ e) (yb e g);have aq:=S7 _ _ ak;ext;exists d,_,rfl,yli.k (k:=.inr b) (S7 _ _ ap) (vh (by unfold pcs;rw[ba];omega)),?_;rw[Ú _ (ypk v)];let⟨z1,z2⟩:=N.put (x:=x) am g6 a5 ah g S7 a3 hL ag C.s ab O ae v af;have e8:pcs (P++[⟨b,x,L',ts,ob,od,r⟩])=pcs P++[(.inr b,.ref ob)]:=by unfold pcs;rw[bz];rfl
 rw[e8]at z1 z2;have ai:∀{y:z4},H6 y=none->H y=none:=λ{y}e=>u.free (g5.free (g6.free e))
 exact k ob od r c' a2 p' S Z _ U6 _ z1 (ai g) (u.free (g5.free a5)) (((g5.ahead u).or (Y:=λy=>y=d)).trans z2) ((NK.refl.trans aj λB e=>u.free e).app λq e=>nomatch e)
def Sto.putE{H:Hp}{C:Cf}{P:qi Pd}{X:Sx}{Q:VK}{E:XK}(h:Sto K a H st C P X){b:Str}{x:Φ}{tx:z4}(hb:okN b)(htx:j8 H tx ts 1000)(hx:∀y,x=some y->nmS y=true)(hP:P.length<60)
  (kL:C.mo<ts.length->∀H',yr H H'->E (.ref a.Am) none H') (kT:ts.length<=C.mo->(∃r,r∈P/\r.nm=b)->∀H',yr H H'->E (.ref a.Aw) none H') (kN:ts.length<=C.mo->(∀q,q∈P->q.nm≠b)->∀y,x=some y->(∀q,q∈P->q.nm≠y)->∀H',yr H H'->E (.ref a.A4) none H')
  (k:ts.length<=C.mo->(∀q,q∈P->q.nm≠b)->∀L,ToD P x L->ts.length<=C.w/\L.length<=60/\∀Y H',Sto K a H' st C (P++[⟨b,x,L,ts⟩]) Y->Gx X H H' Y->Q .non H'):yq8 K a [.ref st,.str b,.ref tx,baV x] H Q E:=by
 let⟨I,G,d,c,dc,p,cl,ct,F,J,D,N,M,U,s,rfl,rfl⟩:=h;rw[ba]at hP
 have v:∀{z:Str},(∀q,q∈D->q.nm≠z)->∀q,q∈D.map Pc.pd->q.nm≠z:=λ{z}hz q t=>by
  let⟨u,O,rfl⟩:=bg.mp t;exact hz u O
 exists st,I,G,d,c,dc,p,cl,ct,F,J,C.n,C.kd,C.ps,C.mo,C.w,D,N,M,U,b,x,tx,ts,rfl,s,hb.1,hb.2,htx,hx,hP,kL,(by rintro f ⟨r,R,e⟩;exact kT f ⟨r.pd,bg.mpr ⟨r,R,rfl⟩,e⟩),(λf j y e h3=>kN f (v j) y e (v h3)),λf j L hL=>?_;let⟨S,Z,k⟩:=k f (v j) L (Ĩ.mpr hL);exists S,Z,λob od dl T A p' m B o U' H' s' i l g nk=>k _ H' ⟨I,G,d,T,A,p',m,B,F,J,_,_,o,U',s',by rw[bz];rfl,rfl⟩ (Gx.of g nk λq t=>?_);rcases bH.mp t with z|z
 .exact .inl z
 .rw[bp.mp z];exact .inr ⟨i,l⟩
theorem yci.get{H:Hp}:∀{L:Η}{ks:Υ},yci H U L ks->∀{j:Nat}(hj:j<L.length),∃k,ks[j]?=some k/\(k=.non\/∃q,k=.ref q/\H q=some (.lst (L[j].2.map V.int))/\¬U q)
 |[],_,_,j,hj=>absurd hj (bD j)
 |x::r,_,⟨k,ks',e,z,h⟩,0,hj=>⟨k,by rw[e];rfl,z⟩
 |x::r,_,⟨k,ks',e,z,h⟩,j+1,hj=>by
  let⟨b,a,c⟩:=h.get (Nat.lt_of_succ_lt_succ hj);exists b,by rw[e,List.getElem?_cons_succ];exact a,c
#synth yrp ["self","name","links"] ["self","name"] vbd
inductive yge(K:z3)(a:Ads)(vs:Υ)(H:Hp)(Q:VK)(E':XK):Prop
 |mk(st ds ll d c dc p cl ct:z4)(lk tp:Μ)(n:Nat)(kd:Ξ)(ps:Λ)(mo w:Nat)(P:qi Pc)(L:Η)(ks:Υ)(U:Ν)(x:Φ)(L':Η)(_:vs=[.ref st,baV x])(_:ju K a H st ds ll d c dc p cl ct lk tp n kd ps mo w P L ks U)(_:To P x L')(_:∀(c' dc' p' cl' ct':z4)(L2:Η)(ks':Υ)(U':Ν)(r:z4)(cx:Μ)(H1 H':Hp),ju K a H1 st ds ll d c' dc' p' cl' ct' lk tp n kd ps mo w P L2 ks' U'->Go (StO st c cl ct U) H H1 (StO st c' cl' ct' U')->NK H ks ks'->yr H1 H'->H1 r=none->H' r=some (.lst (refs cx L'.length))->(∀i,i<L'.length->H1 (cx i)=none/\cx i≠r/\H' (cx i)=some (.lst ((txi L' i).map V.int)))->Q (.ref r) H')
def yrj:vo P w K mg Γ (CXe P w) 13 a.Nd a.Q3 ["self","name"] (yge K a):=by
 exists T.El.F.okE,yrp,hr;let⟨M,ds,ll,d,c,dc,p,cl,ct,lk,tp,n,kd,ps,mo,w,P,L,ks,U,x,g,rfl,R,hL,k⟩:=h;have al:=R.me;refine yg (yt (i:=2) yrp.nd rfl (Or.inl rfl) (xi (pv 0) T.A1 T.Ek.m (yq6 T) hr.m T.Ek.B .nil vn (pa1 (pv 1)))) ?_;refine yg (Ĭ (v9 (yx (yym hr.units) uy (xw z8 (yk (yk (pv 0) rfl) rfl) uu (uv (pcB yp T.A7 (pa1 (pv 2))))) (by with_unfolding_all rfl)) (yc (ve (pv 0) (ux T.Cm (yff T) hr.m rfl T.Cl T.Ef.B .nil yv (pa1 (yk (pv 0) rfl))) rfl)) y7)) ?_;refine yg (Ĭ (v9 (yx (yk1 hr.units) (xw z8 (yk (yk (pv 0) rfl) rfl) uu (uv (pcB yp T.A7 (pa1 (pv 2))))) (pv 2) (y9 _)) (yc (yu (y8 (pv 0) T.A1 T.C1.m (yfb T) hr.m T.C1.B .nil yv (pa1 (pv 1))))) y7)) ?_;exists 2,1,yc (yn (vx (js:=[]) (ys:=[]) rfl (we (xw z8 (yk (yk (pv 0) rfl) rfl) uu (uv (pcB yp T.A7 (pa1 (pv 2)))))) (λC s2 H2 fp=>(pcT (r:=ysh K) wg T.Ad (pa1 (pv 0)))) rfl rfl (hyc:=yy) (hrel:=yy)));exists M,ds,d,_,_,_,n,kd,ps,w,P,x,g,rfl,al,R.pz,hL,λl H1 au ac S1=>?_;have aB:=S1 _ _ al;have a6:=R.same S1;have aI:=a6.ch.me;have aC:=a6.ch.hl;have ak:=a6.ch.ht;have az:=To.len R.pz hL;ext;exists λσ2 G=>∃(c2 a0 p2 O N:z4)(I:Υ)(U2:Ν)(L2:Η),σ2=[some (.ref M),some (baV x),some (.ref l)]/\ju K a G M ds ll d c2 a0 p2 O N lk tp n kd ps mo w P L2 I U2/\Go (StO M c cl ct U) H G (StO M c2 O N U2)/\NK H ks I/\V.non∉I.take g.length/\G l=some (.lst (nmL g))/\¬StO M c2 O N U2 l,?_,?_
 .ext;refine u5 (SqL.of ac) ?_;ext;refine ŀ (SqL.of ak) λq hq0=>?_;rw[Â,ι];exists hq0,H2,S2,e2;have a1:=S1.trans S2;have v:=R.same a1;have W:=v.me;have t:=S2 _ _ ac;exists q,_,rfl,rfl,SqL.of e2,λz hz=>(R.ch.tx.mem z (cy hz)).imp id λ⟨q,ys,e,hq,_⟩=>⟨q,ys,e,SqL.of (a1 _ _ hq)⟩,?_;by_cases he:(ks.take g.length).any isN=true
  .rw[he];exists true,rfl,ν ?_;ext;intro c' J nc aa aK;have SQ:yr H2 (upd (upd H2 J (.own c')) c' (.ins a.A2 J [])):=λb o e=>by rw[ym (yb e nc),ym (yb e aa)];exact e
   exists c',J,ll,n,lk,tp,kd,ps,rfl,ya,SQ _ _ v.lo,v.n1,v.n6,v.row.same SQ,λp' a5 a8 U' HE as af BE B=>⟨rfl,?_⟩;let⟨hR,gR,SE,hN⟩:=v.re nc aa as af BE;have aD:=SE _ _ W;have a9:l≠M:=λz=>by rw[z,W]at t;cases t
   ext;exists c',J,p',a5,a8,[],U',[],rfl,hR,gR.ahead a1,.nil,by simp,ye a9 (SE _ _ t),λz=>?_
   rcases z with z|z
   .exact a9 z
   .rw[hN l z]at t;cases t
  .rw[Bool.eq_false_iff.mpr he];exists false,rfl,jc ?_;exists c,dc,p,cl,ct,ks,U,L,rfl,v,Go.refl.same a1,.refl,λz=>he (cP.mpr ⟨_,z,rfl⟩),t,λz=>?_;let⟨o,e⟩:=R.lvO l z;rw[au]at e;cases e
 .rintro σ2 G ⟨c2,a0,p2,O,N,I,U2,L2,rfl,hG,go,ad,aj,ao,aw⟩;have aE:=hG.me;have aF:=hG.ch.me;have am:=hG.ch.hl;ext;exists λσ2 F=>∃(c3 a4 p3 Z Y:z4)(f:Υ)(U3:Ν)(L3:Η),σ2=[some (.ref M),some (baV x),some (.ref l)]/\ju K a F M ds ll d c3 a4 p3 Z Y lk tp n kd ps mo w P L3 f U3/\Go (StO M c cl ct U) H F (StO M c3 Z Y U3)/\NK H ks f/\V.non∉f.take g.length/\g=L3.take g.length/\F l=some (.lst (nmL g)),?_,?_
  .ext;refine u5 (SqL.of ao) ?_;ext;refine ŀ (SqL.of am) λq hq0=>?_;rw[Â,ι,ă];exists hq0,G2,S2,e2;have a7:=hG.same S2;have W:=a7.me;have t:=S2 _ _ ao;let⟨y,hy⟩:=hG.way;have a3:=t;rw[è]at e2 a3;ext;refine ype _ _ (λz hz=>hy.ok R.pz z (by let⟨u,hu,rfl⟩:=bg.mp hz;exact bg.mpr ⟨u,cy hu,rfl⟩)) (hL.ok R.pz) (SqL.of e2) (SqL.of a3) ?_;by_cases he:(L2.take g.length).map (·.1)=g.map (·.1)
   .rw[bn he];exists false,rfl,jc ?_;exists c2,a0,p2,O,N,I,U2,L2,rfl,a7,go.same S2,ad,aj,To.ahead R.pz.nd R.pz.wf hL hy (by rw[ă];exact(yo8 he).symm),t
   .rw[bo he];exists true,rfl,ν ?_;ext;exists M,ds,ll,d,c2,a0,p2,O,N,lk,tp,n,kd,ps,mo,w,P,L2,I,U2,x,g,rfl,a7,hL,λc' J p' a5 a8 ap U' F hC X ay hn=>?_;ext;exists c',J,p',a5,a8,ap,U',g,rfl,hC,(go.same S2).trans X,ad.trans ay (λq e=>go.free (S2.free e)),λz=>aj (hn (cy z)),(cg).symm,X.fr _ _ t aw
  .rintro σ2 F ⟨c3,a4,p3,Z,Y,f,U3,L3,rfl,hF,ar,av,ag,ah,aq⟩;have aA:=hF.me;have aG:=hF.ch.me;have ab:=hF.ch.ht
   have aL:g.length<=L3.length:=by
    have e:=congrArg List.length ah;rw[bU]at e;omega
   ext;refine u5 (SqL.of aq) ?_;ext;refine ŀ (SqL.of ab) λq hq0=>?_;rw[Â,ι];have S1:=yz (o:=(HO.lst (f.take g.length))) hq0;have e1:upd F q (HO.lst (f.take g.length)) q=some (HO.lst (f.take g.length)):=ya;generalize upd F q (HO.lst (f.take g.length))=F1 at S1 e1⊢;have aH:=hF.ch.tx.len;have a2:(f.take g.length).length=g.length:=by rw[bU];omega
   have ae:=hF.same S1;exists q,rfl,⟨_,SqL.of e1⟩,λD hD=>?_;refine zf (K:=K) (xs:=f.take g.length) (λi G=>∃cx:Μ,G D=some (.lst (refs cx i))/\(∀j,j<i->F1 (cx j)=none/\G (cx j)=some (.lst ((txi g j).map V.int))/\cx j≠D)/\yr F1 G)
    ⟨λB=>0,ya,λj hj=>absurd hj (bD j),yz hD⟩ (by rintro i G _ ⟨_,_,_,S⟩;exact SqL.of (S _ _ e1)) (λi y G hy hi z=>?_) (λG z=>?_)
   .obtain⟨cx,gD,X,S⟩:=z;rw[a2]at hi;let⟨k',ek,hk⟩:=ae.ch.tx.get (j:=i) ();rw[List.getElem?_take,if_pos hi,ek]at hy;obtain rfl:k'=y:=by cases hy;rfl
    rcases hk with z|⟨q2,rfl,ai,_⟩
    .refine absurd ?_ ag;rw[<- z];exact bB (i:=i) (by rw[List.getElem?_take,if_pos hi];exact ek)
    have et:L3[i].2=txi g i:=by
     have e:=congrArg (λl=>l[i]?) ah;simp only[List.getElem?_take]at e;rw[if_pos hi]at e;unfold txi;rw[bI,bi,e,bc ()];rfl
    rw[et]at ai;ext;exists q2,_,rfl,.inl (SqL.of (S _ _ ai)),λc hc0=>?_;have nc:c≠D:=(yb gD hc0).symm;exists hc0,G2,S2,hc2;refine x8 (n:=(f.take g.length).length) (S2 _ _ gD) (vh (by rw[vi];omega)) () ?_;exists upN cx i c,?_,λj hj=>?_,λb o e=>ye (yb e hD) (S2 _ _ (S b o e))
    .rw[ya,x0,wq]
     congr 3
     exact xv λj hj=>(wj hj).symm
    .by_cases z:j=i
     .rw[z,wq];exists S.free hc0,ye nc hc2,nc
     .have an:j<i:=()
      rw[wj an];let⟨g1,g2,g3⟩:=X j an;exists g1,ye g3 (S2 _ _ g2),g3
   .obtain⟨cx,gD,X,S⟩:=z;rw[a2]at gD X;exact k c3 a4 p3 Z Y L3 f U3 D cx F1 G ae (ar.same S1) av S hD gD λi hi=>⟨(X i hi).1,(X i hi).2.2,(X i hi).2.1⟩
#synth vba ["self","name"] vbw
inductive ě(K:z3)(a:Ads)(vs:Υ)(H:Hp)(Q:VK)(E:XK):Prop
 | mk(st ds ll d c dc p cl ct:z4)(lk tp:Μ)(n:Nat)(kd:Ξ)(ps:Λ)(mo w:Nat)(P:qi Pc)(L:Η)(ks:Υ)(U:Ν)(x:V)(nt:String)(_:vs=[.ref st,x])(_:ju K a H st ds ll d c dc p cl ct lk tp n kd ps mo w P L ks U)(_:uh K H x (.type nt))(_:(∀s,x=.str s->s.length<=100000))(_:(nmV x=false->∀H',yr H H'->E (.ref a.Aj) none H'))(_:(∀b,x=.str b->nmS b=true->(∀q,q∈P->q.nm≠b)->∀H',yr H H'->E (.ref a.A4) none H'))(_:(∀r,r∈P->x=.str r.nm ->
 ∀(c' dc' p' cl' ct':z4)(L2:Η)(ks':Υ)(U':Ν)(q:z4)(H1 H':Hp),ju K a H1 st ds ll d c' dc' p' cl' ct' lk tp n kd ps mo w P L2 ks' U'->Go (StO st c cl ct U) H H1 (StO st c' cl' ct' U')->NK H ks ks'->yr H1 H'->H1 q=none->H' q=some (.lst (r.tx.map V.int))->Q (.ref q) H'))
def yra:vo P w K mg Γ (CXe P w) 14 a.Nf a.Q4 ["self","name"] (ě K a):=by
 exists T.Em.F.okE,vba,R;let⟨k,D,O,d,c,W,p,S,Z,M,tp,n,y,z,X,w,P,L,J,U,x,N,rfl,j,ty,hz,k1,k2,k3⟩:=h;have t:=j.me;exists 2,0,yf (yu (y8 (pv 0) T.A1 T.Au.m (ŗ T) R.m T.Au.B .nil yv (pa1 (pv 1)))) (yc (yn (xz xf (y8 (pv 0) T.A1 T.El.m (yrj T) R.m T.El.B .nil yv (pa1 (pv 1))) (yvl yk0 yh) (λF F=>rfl))));exists k,D,d,_,_,_,n,y,z,w,P,x,N,rfl,t,j.pz,ty,hz,k1,k2,λr b e hb H1 g=>?_;subst e;have f:=j.same g;have Y:=f.me;ext;exists k,D,O,d,c,W,p,S,Z,M,tp,n,y,z,X,w,P,L,J,U,some r.nm,r.path++[(r.nm,r.tx)],rfl,f,⟨r,b,rfl,rfl⟩,λc' G p' q I L2 u U' l cx HB H2 h2 g2 nk SB a0 i o=>?_;ext;let⟨f1,f2,f3⟩:=o r.path.length (by rw[bd,bX];omega);refine zr (v:=.ref (cx r.path.length)) (SqL.of i) ?_ ?_
 .rw[bd,bX,x0];exact ylt _ _
 .ext;refine k3 r b rfl c' G p' q I L2 u U' _ HB H2 h2 (g2.ahead g) (NK.refl.trans nk λF e=>g.free e) SB f1 ?_;rw[f3];unfold txi;simp
def Sto.textof1{H:Hp}{C:Cf}{P:qi Pd}{X:Sx}{Q:VK}{E:XK}(h:Sto K a H st C P X){b:Str}(hb:nmS b=true)(k1:(∀q,q∈P->q.nm≠b)->∀H',yr H H'->E (.ref a.A4) none H')
  (k2:∀r,r∈P->r.nm=b->∀Y q H1 H',Sto K a H1 st C P Y->Gx X H H1 Y->yr H1 H'->H1 q=none->H' q=some (.lst (r.tx.map V.int))->Q (.ref q) H'):ě K a [.ref st,.str b] H Q E:=by
 let⟨A,v,d,c,T,p,O,Z,t,B,L,F,D,U,s,rfl,rfl⟩:=h;have a0:=xq hb;exists st,A,v,d,c,T,p,O,Z,t,B,C.n,C.kd,C.ps,C.mo,C.w,L,F,D,U,.str b,"str",rfl,s,.str _,(λx e=>by cases e;omega),(λz=>by rw[show nmV (.str b)=nmS b from rfl,hb]at z;cases z),(λb' e W i=>?_),λr I e J l N j m L2 k M q H1 H' R g nk S o f=>?_
 .cases e;refine k1 λq f=>?_;let⟨u,G,rfl⟩:=bg.mp f;exact i u G
 .cases e;exact k2 r.pd (bg.mpr ⟨r,I,rfl⟩) rfl _ q H1 H' ⟨A,v,d,J,l,N,j,m,t,B,_,_,k,M,R,rfl,rfl⟩ (Gx.of (g.or (Y:=λy=>y=d)) nk λq f=>.inl f) S o f
def Sto.textof{H:Hp}{C:Cf}{P:qi Pd}{X:Sx}{Q:VK}{E:XK}(h:Sto K a H st C P X){b:Str}(hb:nmS b=true)(k1:(∀q,q∈P->q.nm≠b)->∀H',yr H H'->E (.ref a.A4) none H')
  (k2:∀r,r∈P->r.nm=b->∀Y q H',Sto K a H' st C P Y->Gx X H H' Y->H q=none->Kf H' Y q (.lst (r.tx.map V.int))->Q (.ref q) H'):ě K a [.ref st,.str b] H Q E :=
 h.textof1 hb k1 λr f e Y q j H' d g1 S c i=>k2 r f e Y q H' (d.same S) (g1.same S) (g1.g.free c) (Kf.new d c i)
#synth ywy ["self","name"] veb
inductive Œ(K:z3)(a:Ads)(vs:Υ)(H:Hp)(Q:VK)(E:XK):Prop
 |mk(st ds d:z4)(vl vm vc:V)(n:Nat)(kd:Ξ)(ps:Λ)(w:Nat)(P:qi Pc)(x:V)(nt:String)(_:vs=[.ref st,x])(_:H st=some (.ins a.A0 ds (xc vl vm (.ref d) vc)))(_:Š a H d n kd ps w P)(_:uh K H x (.type nt))(_:(∀s,x=.str s->s.length<=100000))(_:(nmV x=false->∀H',yr H H'->E (.ref a.Aj) none H'))(_:(∀b,x=.str b->nmS b=true->(∀q,q∈P->q.nm≠b)->∀H',yr H H'->E (.ref a.A4) none H'))(_:(∀r,r∈P->x=.str r.nm->nmS r.nm=true->∀l H',H l=none->H' l=some (.lst ((r.by n kd ps).map V.int))->yr H H'->Q (.ref l) H'))
def yo4:vo P w K mg Γ (CXe P w) 4 a.Ng a.Q5 ["self","name"] (Œ K a):=by exists T.En.F.okE,ywy,J;let⟨o,z,d,y,p,t,n,u,v,w,P,x,k,rfl,i,q,M,O,L,N,R⟩:=h;exists 2,0,yc (yn (pcT wg T.Ad (pa1 (yk (y8 (pv 0) T.A1 T.Au.m (ŗ T) J.m T.Au.B .nil yv (pa1 (pv 1))) rfl))));exists o,z,d,y,p,t,n,u,v,w,P,x,k,rfl,i,q,M,O,L,N,λr c e G S f=>?_;let⟨D,g⟩:=(q.same f).ob r c;ext;exists r.dl,_,rfl,.inl (SqL.of g),λl b=>?_;exact R r c e G l _ (f.free b) ya (f.trans (yz b))
def Sto.bytesof{H:Hp}{C:Cf}{P:qi Pd}{X:Sx}{Q:VK}{E:XK}(h:Sto K a H st C P X){b:Str}(hb:nmS b=true)(k1:(∀q,q∈P->q.nm≠b)->∀H',yr H H'->E (.ref a.A4) none H')
  (k2:∀r,r∈P->r.nm=b->∀l H',H l=none->H' l=some (.lst ((r.by C).map V.int))->yr H H'->Q (.ref l) H'):Œ K a [.ref st,.str b] H Q E:=by
 let⟨m,A,d,c,L,p,I,F,J,B,v,G,y,U,s,rfl,rfl⟩:=h;have t:=xq hb;exists st,m,d,_,_,_,C.n,C.kd,C.ps,C.w,v,.str b,"str",rfl,s.me,s.pz,.str _,(λx e=>by cases e;omega),(λz=>by rw[show nmV (.str b)=nmS b from rfl,hb]at z;cases z),(λD e Z f=>?_),λr o e Z l H' i g S=>?_
 .cases e;refine k1 λq k=>?_;let⟨u,j,rfl⟩:=bg.mp k;exact f u j
 .cases e;exact k2 r.pd (bg.mpr ⟨r,o,rfl⟩) rfl l H' i g S
#synth yz0 ["self","name"] vda
inductive ybn(K:z3)(a:Ads)(vs:Υ)(H:Hp)(Q:VK)(E:XK):Prop
 |mk(st ds d:z4)(vl vm vc:V)(n:Nat)(kd:Ξ)(ps:Λ)(w:Nat)(P:qi Pc)(x:V)(nt:String)(_:vs=[.ref st,x])(_:H st=some (.ins a.A0 ds (xc vl vm (.ref d) vc)))(_:Š a H d n kd ps w P)(_:uh K H x (.type nt))(_:(∀s,x=.str s->s.length<=100000))(_:(nmV x=false->∀H',yr H H'->E (.ref a.Aj) none H'))(_:(∀b,x=.str b->nmS b=true->(∀q,q∈P->q.nm≠b)->∀H',yr H H'->E (.ref a.A4) none H'))(_:(∀r,r∈P->x=.str r.nm->nmS r.nm=true->∀H',yr H H'->Q (baV r.bs) H'))
def yqm:vo P w K mg Γ (CXe P w) 4 a.Nh a.Q6 ["self","name"] (ybn K a):=by exists T.Eo.F.okE,yz0,D;let⟨j,u,d,t,k,o,n,p,q,w,P,x,i,rfl,c,l,I,L,G,J,M⟩:=h;exists 2,0,yc (yn (yk (y8 (pv 0) T.A1 T.Au.m (ŗ T) D.m T.Au.B .nil yv (pa1 (pv 1))) rfl));exists j,u,d,t,k,o,n,p,q,w,P,x,i,rfl,c,l,I,L,G,J,λr b e z N g=>?_;have y:=((l.same g).ob r b).1;ext;exact M r b e z _ g
def Sto.baseof{H:Hp}{C:Cf}{P:qi Pd}{X:Sx}{Q:VK}{E:XK}(h:Sto K a H st C P X){b:Str}(hb:nmS b=true)(k1:(∀q,q∈P->q.nm≠b)->∀H',yr H H'->E (.ref a.A4) none H')
  (k2:∀r,r∈P->r.nm=b->∀H',yr H H'->Q (baV r.bs) H'):ybn K a [.ref st,.str b] H Q E:=by
 let⟨j,t,d,c,G,p,D,A,F,v,m,B,o,U,s,rfl,rfl⟩:=h;have l:=xq hb;exists st,j,d,_,_,_,C.n,C.kd,C.ps,C.w,m,.str b,"str",rfl,s.me,s.pz,.str _,(λx e=>by cases e;omega),(λz=>by rw[show nmV (.str b)=nmS b from rfl,hb]at z;cases z),(λy e Z f=>?_),λr k e Z H' S=>?_
 .cases e;refine k1 λq i=>?_;let⟨u,g,rfl⟩:=bg.mp i;exact f u g
 .cases e;exact k2 r.pd (bg.mpr ⟨r,k,rfl⟩) rfl H' S
#synth vad ["self","name"] vep
inductive ô(K:z3)(a:Ads)(vs:Υ)(H:Hp)(Q:VK)(E:XK):Prop
 | mk(st ds ll d c dc p cl ct:z4)(lk tp:Μ)(n:Nat)(kd:Ξ)(ps:Λ)(mo w:Nat)(P:qi Pc)(L:Η)(ks:Υ)(U:Ν)(x:V)(nt:String)(_:vs=[.ref st,x])(_:ju K a H st ds ll d c dc p cl ct lk tp n kd ps mo w P L ks U)(_:uh K H x (.type nt))(_:(∀s,x=.str s->s.length<=100000))(_:(nmV x=false->∀H',yr H H'->E (.ref a.Aj) none H'))(_:(∀b,x=.str b->nmS b=true->(∀q,q∈P->q.nm≠b)->∀H',yr H H'->E (.ref a.A4) none H'))(_:(∀r,r∈P->x=.str r.nm ->
 ∀(c' dc' p' cl' ct':z4)(L2:Η)(ks':Υ)(U':Ν)(q:z4)(cx:Μ)(H1 H':Hp),ju K a H1 st ds ll d c' dc' p' cl' ct' lk tp n kd ps mo w P L2 ks' U'->Go (StO st c cl ct U) H H1 (StO st c' cl' ct' U')->NK H ks ks'->yr H1 H'->H1 q=none->H' q=some (.lst (refs cx r.path.length))->(∀i,i<r.path.length->H1 (cx i)=none/\cx i≠q/\H' (cx i)=some (.lst ((txi r.path i).map V.int)))->Q (.ref q) H'))
def yx2:vo P w K mg Γ (CXe P w) 14 a.Ni a.Q7 ["self","name"] (ô K a):=by exists T.Ju.F.okE,vad,S;let⟨k,D,R,d,c,X,p,W,ct,M,tp,n,y,z,Y,w,P,L,J,U,x,O,rfl,j,ty,hz,k1,k2,k3⟩:=h;have u:=j.me;exists 2,0,yc (yn (y8 (pv 0) T.A1 T.El.m (yrj T) S.m T.El.B .nil yv (pa1 (yk (y8 (pv 0) T.A1 T.Au.m (ŗ T) S.m T.Au.B .nil yv (pa1 (pv 1))) rfl))));exists k,D,d,_,_,_,n,y,z,w,P,x,O,rfl,u,j.pz,ty,hz,k1,k2,λr f e hb H1 g=>?_;subst e;have b:=j.same g;have Z:=b.me;have N:=(b.pz.ob r f).1;ext;exists k,D,R,d,c,X,p,W,ct,M,tp,n,y,z,Y,w,P,L,J,U,r.bs,r.path,rfl,b,b.pz.wf r f,λc' G p' t I L2 v U' l cx HB H2 h2 g2 nk SB o i q=>?_;exact k3 r f rfl c' G p' t I L2 v U' l cx HB H2 h2 (g2.ahead g) (NK.refl.trans nk λF e=>g.free e) SB o i q
def Sto.learnedof{H:Hp}{C:Cf}{P:qi Pd}{X:Sx}{Q:VK}{E:XK}(h:Sto K a H st C P X){b:Str}(hb:nmS b=true)(k1:(∀q,q∈P->q.nm≠b)->∀H',yr H H'->E (.ref a.A4) none H')
  (k2:∀r,r∈P->r.nm=b->∀Y q cx H',Sto K a H' st C P Y->Gx X H H' Y->H q=none->Kf H' Y q (.lst (refs cx r.path.length))->(∀i,i<r.path.length->cx i≠q/\H (cx i)=none/\Kf H' Y (cx i) (.lst ((txi r.path i).map V.int)))->Q (.ref q) H'):ô K a [.ref st,.str b] H Q E:=by
 let⟨O,m,d,c,dc,p,N,R,L,T,o,Z,J,U,s,rfl,rfl⟩:=h;have a0:=xq hb;exists st,O,m,d,c,dc,p,N,R,L,T,C.n,C.kd,C.ps,C.mo,C.w,o,Z,J,U,.str b,"str",rfl,s,.str _,(λx e=>by cases e;omega),(λz=>by rw[show nmV (.str b)=nmS b from rfl,hb]at z;cases z),(λb' e W B=>?_),λr hr e D I p' j l L2 k F q cx M H' s' g nk S v t f=>?_
 .cases e;refine k1 λq t=>?_;let⟨u,hu,rfl⟩:=bg.mp t;exact B u hu
 .cases e;have G:Sto K a M st C (o.map Pc.pd) (yvt d st D j l F m o k):=⟨O,m,d,D,I,p',j,l,L,T,_,_,k,F,s',rfl,rfl⟩;have g1:Gx (yvt d st c N R U m o J) H M (yvt d st D j l F m o k):=Gx.of (g.or (Y:=λy=>y=d)) nk λq t=>.inl t;exact k2 r.pd (bg.mpr ⟨r,hr,rfl⟩) rfl _ q cx H' (G.same S) (g1.same S) (g1.g.free v) (Kf.new G v t) λi A=>⟨(f i A).2.1,g1.g.free (f i A).1,Kf.new G (f i A).1 (f i A).2.2⟩
def yxd(x:Φ)(b:Str):vgr (baV x) (.str b)=true/\decide (baV x=.str b)=decide (x=some b):=by
 cases x with
 |none=>exists rfl,by rw[bo (λz=>nomatch z),bo (λz=>nomatch z)]
 |some y =>
  exists rfl,?_;by_cases e:y=b
  .rw[bn (by rw[e];rfl),bn (by rw[e])]
  .rw[bo (λz=>e (by cases z;rfl)),bo (λz=>e (by cases z;rfl))]
#synth vac ["self","name"] vbv
inductive yja(K:z3)(a:Ads)(vs:Υ)(H:Hp)(Q:VK)(E:XK):Prop
 | mk(st ds ll d c dc p cl ct:z4)(lk tp:Μ)(n:Nat)(kd:Ξ)(ps:Λ)(mo w:Nat)(P:qi Pc)(L:Η)(ks:Υ)(U:Ν)(x:V)(nt:String)(_:vs=[.ref st,x])(_:ju K a H st ds ll d c dc p cl ct lk tp n kd ps mo w P L ks U)(_:uh K H x (.type nt))(_:(∀s,x=.str s->s.length<=100000))(_:(nmV x=false->∀H',yr H H'->E (.ref a.Aj) none H'))(_:(∀b,x=.str b->nmS b=true->(∀q,q∈P->q.nm≠b)->∀H',yr H H'->E (.ref a.A4) none H'))(_:(∀r,r∈P->x=.str r.nm->(∃q,q∈P/\q.bs=some r.nm)->∀H',yr H H'->E (.ref a.Bk) none H'))(_:(∀r,r∈P->x=.str r.nm->(∀q,q∈P->q.bs≠some r.nm) ->
 ∀(c' dc' p' cl' ct':z4)(U':Ν)(H':Hp),ju K a H' st ds ll d c' dc' p' cl' ct' lk tp n kd ps mo w (P.filter λq=>decide (q.nm≠r.nm)) [] [] U'->Go (λy=>y=d\/StO st c cl ct U y) H H' (λy=>y=d\/StO st c' cl' ct' U' y)->Q .non H'))
def yzx:vo P w K mg Γ (CXe P w) 10 a.Nj a.Q8 ["self","name"] (yja K a):=by
 exists T.Jv.F.okE,vac,hr;let⟨st,ds,ll,d,c,dc,p,cl,ct,lk,tp,n,kd,ps,mo,w,P,L,ks,U,x,nt,rfl,hS,ty,hz,k1,k2,k3,k4⟩:=h;have a2:=hS.me;exists 2,0,yf (yu (y8 (pv 0) T.A1 T.Au.m (ŗ T) hr.m T.Au.B .nil yv (pa1 (pv 1)))) (yf (v9 (xy (pcB (ymp rfl) T.Tb (pa1 (yi8 (vx (js:=[1]) (ys:=["name"]) rfl (yju (yk (pv 0) rfl)) (λC s2 H2 fp=>(u7 xl (ydo (K:=K) rfl (pv 0) rfl) (pv 1) (y9 _))) rfl rfl (hyc:=(all_cons rfl yy)) (hrel:=(all_cons rfl yy))))))) (yc (wx rfl T.L1 T.L7 (pa1 vg))) y7) (yf (yu (ydz (yk (pv 0) rfl) (pv 1) ⟨rfl,rfl,rfl,rfl⟩)) (yc (ve (pv 0) (ux T.Cm (yff T) hr.m rfl T.Cl T.Ef.B .nil yv (pa1 (yk (pv 0) rfl))) rfl))));exists st,ds,d,_,_,_,n,kd,ps,w,P,x,nt,rfl,a2,hS.pz,ty,hz,k1,k2,λr J e hb H1 S1=>?_;subst e;have f:=hS.same S1;have a6:=f.me;ext;have k:=f.pz.dk;exists d,pcs P,rfl,k,λo D hD=>?_;have W:(pcs P).length=P.length:=ba _;have ab:=f.pz.z;have a0:D≠d:=λz=>by rw[z,ya]at hD;cases hD
 refine Ň (λi G=>G D=some (.lst ((P.take i).map λq=>V.bl (decide (q.bs=some r.nm))))/\yr (upd H1 d (.frz o (.dK (pcs P)))) G) ⟨ya,yz hD⟩ (λi G F z=>z.2 _ _ ya) (λi kk v G l hi z=>?_) (λG z=>?_)
 .obtain⟨gD,S⟩:=z;rw[W]at hi;have N:P[i]?=some P[i]:=bc hi;unfold pcs at l;rw[bi,N]at l;obtain rfl:v=.ref (P[i]).ob:=by cases l;rfl
  have I:=(f.pz.ob _ (bV hi)).1;have a8:=S _ _ (ye (λz=>by rw[z,k]at I;cases I) I);ext;let⟨b1,b2⟩:=yxd (P[i]).bs r.nm;exists b1,?_;rw[b2];refine x8 (n:=(pcs P).length) gD (vh (by rw[ba,bU];omega)) () ⟨?_,λy o e=>ye (yb e hD) (S _ _ e)⟩;rw[ya,bY hi,bz];rfl
 .obtain⟨gD,S⟩:=z;rw[W,cg]at gD;exists d,o,.dK (pcs P),(λo u e=>by rw[k]at e;cases e),S _ _ ya,?_
  have S3:yr H1 (upd G d (.dK (pcs P))):=λy o' e=>by
   by_cases z:y=d
   .rw[z,ya];rw[z,k]at e;exact e
   .exact ye z (S _ _ (ye z e))
  have X:(upd G d (.dK (pcs P))) D=some (.lst ((P.map λq=>decide (q.bs=some r.nm)).map V.bl)):=ye a0 (by rw[gD,bO];rfl);generalize upd G d (.dK (pcs P))=H3 at S3 X⊢;have g:=f.same S3;have a7:=g.me;ext;exists D,_,rfl,SqL.of X,?_;by_cases hu:∃q,q∈P/\q.bs=some r.nm
  .have e:(P.map λq=>decide (q.bs=some r.nm)).any id=true:=by
    let⟨q,N,e⟩:=hu;exact cP.mpr ⟨true,bg.mpr ⟨q,N,bn e⟩,rfl⟩
   rw[e];exists true,rfl,ν ?_;ext;exists by walk_at "len",k3 r J rfl hu _ (S1.trans S3)
  .have M:∀q,q∈P->q.bs≠some r.nm:=λq N e=>hu ⟨q,N,e⟩
   have e:(P.map λq=>decide (q.bs=some r.nm)).any id=false:=by
    rw[List.any_map,List.any_eq_false];intro q N;simpa using M q N
   rw[e];exists false,rfl,jc ?_;ext;exists d,rfl,.inl ⟨_,.of g.pz.dk⟩,?_;ext;exists pcs P,.inr r.nm,_,g.pz.dk,rfl,yky g.pz.nd J,?_;have t:=g.b.drop M
   have gA:Go (λy=>y=d\/StO st c cl ct U y) H3 (upd H3 d (.dK (ß (pcs P) (.inr r.nm)))) (λy=>y=d\/StO st c cl ct U y):=⟨λy o e no=>ye (λz=>no (.inl z)) e,λy z=>.inl z,λy o e=>by
    by_cases z:y=d
    .exists _,by rw[z];exact ya
    .exact⟨o,ye z e⟩⟩
   generalize upd H3 d (.dK (ß (pcs P) (.inr r.nm)))=H4 at t gA⊢;have Z:=t.me;ext;intro c' j nc O ac;have SQ:yr H4 (upd (upd H4 j (.own c')) c' (.ins a.A2 j [])):=λb o e=>by rw[ym (yb e nc),ym (yb e O)];exact e
   exists c',j,ll,n,lk,tp,kd,ps,rfl,ya,SQ _ _ t.lo,t.n1,t.n6,t.row.same SQ,λp' a1 a5 U' HE a3 R BE F=>⟨rfl,?_⟩;let⟨hR,gR,SE,hN⟩:=t.re nc O a3 R BE;have a9:=SE _ _ Z;ext;exact k4 r J rfl M c' j p' a1 a5 U' _ hR ((gA.ahead (S1.trans S3)).trans ((gR.or (Y:=λy=>y=d)).wide λy z=>z.imp id .inl))
def yid(Q:qi Pc)(b:Str):(Q.filter λq=>decide (q.nm≠b)).map Pc.pd=(Q.map Pc.pd).filter λq=>decide (q.nm≠b):=by rw[List.filter_map];rfl
def Sto.drop{H:Hp}{C:Cf}{P:qi Pd}{X:Sx}{Q:VK}{E:XK}(h:Sto K a H st C P X){b:Str}(hb:nmS b=true)(k1:(∀q,q∈P->q.nm≠b)->∀H',yr H H'->E (.ref a.A4) none H')(k2:∀r,r∈P->r.nm=b->(∃q,q∈P/\q.bs=some b)->∀H',yr H H'->E (.ref a.Bk) none H')
  (k3:∀r,r∈P->r.nm=b->(∀q,q∈P->q.bs≠some b)->∀Y H',Sto K a H' st C (P.filter λq=>decide (q.nm≠b)) Y->Gx X H H' Y->Q .non H'):yja K a [.ref st,.str b] H Q E:=by
 let⟨A,y,d,c,M,p,L,N,v,B,S,F,D,U,s,rfl,rfl⟩:=h;have O:=xq hb;exists st,A,y,d,c,M,p,L,N,v,B,C.n,C.kd,C.ps,C.mo,C.w,S,F,D,U,.str b,"str",rfl,s,.str _,(λx e=>by cases e;omega),(λz=>by rw[show nmV (.str b)=nmS b from rfl,hb]at z;cases z),(λT e Z j=>?_),(λr l e i=>?_),λr l e i G o J m t I H' R g=>?_
 .cases e;refine k1 λq f=>?_;let⟨u,i,rfl⟩:=bg.mp f;exact j u i
 .cases e;let⟨q,f,e⟩:=i;exact k2 r.pd (bg.mpr ⟨r,l,rfl⟩) rfl ⟨q.pd,bg.mpr ⟨q,f,rfl⟩,e⟩
 .cases e;refine k3 r.pd (bg.mpr ⟨r,l,rfl⟩) rfl (λq f=>?_) _ H' ⟨A,y,d,G,o,J,m,t,v,B,_,_,[],I,R,yid _ _,rfl⟩ (Gx.of g NK.nil λq f=>.inl (cE.mp f).1);let⟨u,k,rfl⟩:=bg.mp f;exact i u k
def Sto.chainto{H:Hp}{C:Cf}{P:qi Pd}{X:Sx}{Q:VK}{E:XK}(h:Sto K a H st C P X){x:Φ}(hL:ToD P x L)
  (k:∀c dc p cl ct ks M W Y H',Sto K a H' st C P Y->Gx X H H' Y->Ì K a H' c dc p cl ct C.n C.kd C.ps L ks M W->M<=660000->Q (.ref c) H'):ŉ K a [.ref st,baV x] H Q E:=by let⟨r,l,d,c,dc,p,cl,ct,v,u,G,B,ks,U,s,rfl,rfl⟩:=h;have t:=Ĩ.mp hL;exists st,r,l,d,c,dc,p,cl,ct,v,u,C.n,C.kd,C.ps,C.mo,C.w,G,B,ks,U,x,L,rfl,s,t,λz i o b f e m H' j g F Z=>k z i o b f e _ m _ H' ⟨r,l,d,z,i,o,b,f,v,u,_,_,e,m,j,rfl,rfl⟩ (Gx.of (g.or (Y:=λy=>y=d)) F λq A=>.inl A) j.ch ?_;exact ykk (w:=C.w) (λy D=>(t.sz s.pz y D).2) s.wm.2 (To.len s.pz t)
def szD(C:Cf)(ts:Ρ)(q:Pd):Nat:=(â C.n C.kd C.ps (Ê ((q.path++[(q.nm,q.tx)]).map (·.2))) ts).length
noncomputable def bsF(f:Pd->Nat):qi Pd->qj Str->Nat->qj Str
 |[],b,_=>b
 |q::P,b,m=>if f q<m then bsF f P (some q.nm) (f q)else bsF f P b m
def ò(C:Cf)(P:qi Pd)(ts:Ρ):Φ:=bsF (szD C ts) P none (â C.n C.kd C.ps [] ts).length
#synth ý ["self","text","signs","best","fewest","name","size"] ["self","text"] vd2
inductive ysz(K:z3)(a:Ads)(vs:Υ)(H:Hp)(Q:VK)(E:XK):Prop
 |mk(st:z4)(C:Cf)(P:qi Pd)(X:Sx)(tx:z4)(ts:Ρ)(_:vs=[.ref st,.ref tx])(_:Sto K a H st C P X)(_:j8 H tx ts 1000)(_:(C.mo<ts.length->∀H',yr H H'->E (.ref a.Am) none H'))(_:(ts.length<=C.mo->∀Y H',Sto K a H' st C P Y->Gx X H H' Y->Q (baV (ò C P ts)) H'))
def yzm:vo P w K mg Γ (CXe P w) 13 a.Nk a.Q9 ["self","text"] (ysz K a):=by
 exists T.Jw.F.okE,ý,G;let⟨S,C,P,X,tx,f,rfl,hS,n,kL,k⟩:=h;have al:=hS.cf;have ak:=hS.z;refine yg (yt (i:=2) ý.nd rfl (Or.inl rfl) (uo (yg3 T) G.m T.F0 yv (pa1 (pv 1)))) ?_;refine yg (yu (y8 (pv 0) T.A1 T.Ej.m (yq4 T) G.m T.Ej.B .nil yv (pa1 (pv 2)))) ?_;refine yg (yt (i:=3) ý.nd rfl (Or.inl rfl) uy) ?_;refine yg (yt (i:=4) ý.nd rfl (Or.inl rfl) (xi (y8 (pv 0) T.A1 T.C1.m (yfb T) G.m T.C1.B .nil yv (pa1 uy)) T.Ag T.Eh.m (ypb T) G.m T.Eh.B .nil vn (pa1 (pv 2)))) ?_;refine yg (PS.nox (uk PassesOwn.never rfl (we (vj (pv 0) T.A1 T.C0.m (ye4 T) G.m T.C0.B .nil vn)) (vy (i:=5) ý.nd rfl (Or.inl rfl)) (yf (yt (i:=6) ý.nd rfl (Or.inl rfl) (xi (y8 (pv 0) T.A1 T.C1.m (yfb T) G.m T.C1.B .nil vw (pa1 (pv 5))) T.Ag T.Eh.m (ypb T) G.m T.Eh.B .nil vn (pa1 (pv 2)))) (yc (v9 (yx yaw (pv 6) (pv 4) (y9 _)) (yf (yt (i:=3) ý.nd rfl (Or.inl rfl) (pv 5)) (yc (yt (i:=4) ý.nd rfl (Or.inl rfl) (pv 6)))) y7))))) ?_;exists 2,5,yc (yn (pv 3));exists .ref tx,_,rfl,.lst n.l,.inr ⟨f.map V.int,Ö n.l n.s (by have:=n.z;omega),λO H1 a4 v S1=>?_⟩;have J:=hS.same S1
 obtain⟨ds,vl,vp,vc,a3⟩:∃ds vl vp vc,H1 S=some (.ins a.A0 ds (xc vl (.int C.mo) vp vc)):=by
  let⟨ds,ll,d,c,dc,p,cl,ct,lk,tp,Qs,L0,ks,U,s,_,_⟩:=J;exists _,_,_,_,s.me
 have a2:Kf H1 X O (.lst (f.map V.int)):=Kf.new hS a4 v;ext;exists S,ds,O,_,_,_,C.mo,_,rfl,a3,v,λD=>?_,λz=>kL (by rw[ba]at z;omega) _ S1;have D:f.length<=C.mo:=by rw[ba]at D;omega
 have k:=k D;ext;refine J.chainto (x:=none) (L:=[]) rfl λc dc p cl ct ks M W Y H2 N g2 r hM=>?_;have e:=a2.go J g2;have aa:=r.me;ext;exists c,dc,p,cl,ct,_,_,_,_,ks,M,W,O,f,rfl,r,⟨e.1,n.s,()⟩,(),λH3 t=>?_
 have j:=N.same t;have a1:=e.same t;have g3:=(g2.same t).ahead S1;let⟨ao,ag,ad,ai,ap,ac⟩:=j.ins;ext;refine j.names λl H4 a7 a0 S4=>?_;have a5:Kf H4 Y l (.lst (P.map λq=>V.str q.nm)):=Kf.new j a7 a0;exists l,rfl,⟨_,SqL.of a0⟩,xx (K:=K) (a:=l) (xs:=P.map λq=>V.str q.nm) (λi σ2 F=>∃(b:Φ)(m:Nat)(v5 v6:Ψ)(Z:Sx),σ2=[some (.ref S),some (.ref tx),some (.ref O),some (baV b),some (.int (m:Nat)),v5,v6]/\Sto K a F S C P Z/\Gx X H F Z/\Kf F Z O (.lst (f.map V.int))/\Kf F Z l (.lst (P.map λq=>V.str q.nm))/\bsF (szD C f) (P.drop i) b m=ò C P f) ?_ ?_ ?_ ?_
 .exists none,_,none,none,Y,rfl,j.same S4,g3.same S4,a1.same S4,a5,rfl
 .rintro i σ2 F _ ⟨b,m,v5,v6,Z,rfl,I,g,y,u,o⟩;exact SqL.of u.1
 .rintro i z σ2 F hz ⟨b,m,v5,v6,Z,rfl,I,g,y,u,o⟩;rw[bi]at hz;let⟨q,hq,rfl⟩:=cD.mp hz;have a9:i<P.length:=(bv.mp hq).1;have a8:=bB hq;rw[cM a9,(bv.mp hq).2]at o;let⟨af,am,aj,an,ae,ab⟩:=I.ins;ext;refine I.chainto (x:=some q.nm) (L:=q.path++[(q.nm,q.tx)]) ⟨q,a8,rfl,rfl⟩ λc dc p cl ct ks M W Y2 F2 N g2 r hM=>?_;have e:=y.go I g2;have R:=u.go I g2;have aa:=r.me;ext;exists c,dc,p,cl,ct,_,_,_,_,ks,M,W,O,f,rfl,r,⟨e.1,n.s,()⟩,(),λF3 t=>?_
  have j:=N.same t;have g3:=(g.trans g2).same t;ext;have o:(if szD C f q<m then bsF (szD C f) (P.drop (i+1)) (some q.nm) (szD C f q)else bsF (szD C f) (P.drop (i+1)) b m)=ò C P f:=o;by_cases hlt:szD C f q<m
  .rw[if_pos hlt]at o;refine zn (λB=>?_) (λz=>absurd (show ((szD C f q:Nat):Int)<(m:Int) by omega) z);ext;exists some q.nm,szD C f q,_,_,Y2,rfl,j,g3,e.same t,R.same t,o
  .rw[if_neg hlt]at o;refine zn (λz=>absurd (show ((szD C f q:Nat):Int)<(m:Int)from z) ()) (λB=>?_);exists b,m,_,_,Y2,rfl,j,g3,e.same t,R.same t,o
 .rintro σ2 F ⟨b,m,v5,v6,Z,rfl,I,g,y,u,o⟩;rw[ba,List.drop_length]at o;ext;rw[show b=ò C P f from o];exact k Z F I g
def lkB(k:Fin 3)(p:Ρ):Ρ:=((k.val:Nat):Int)::((p.length:Nat):Int)::p
def ywn(k:Fin 3):(kdS 0=kdS k/\k.val=0)\/(kdS 0≠kdS k/\kdS 1=kdS k/\k.val=1)\/(kdS 0≠kdS k/\kdS 1≠kdS k/\kdS 2=kdS k/\k.val=2):=by revert k;decide
#synth ywp ["look"] vd7
inductive ylo  (vs:Υ) (H:Hp) (Q:VK) (E':XK):Prop
 |mk(v:V)(kd:Fin 3)(tp:z4)(ps:Ρ)(_:vs=[v])(_:LkG H v kd tp ps)(_:∀l H',H l=none->H' l=some (.lst ((lkB kd ps).map V.int))->yr H H'->Q (.ref l) H')
def ywl:vo P w K mg Γ CX0 1 a.Nl a.Qa ["look"] ylo:=by
 exists T.Qw.F.ok,ywp,q;let⟨v,d,g,l,rfl,⟨r,rfl,e,i,m⟩,k⟩:=h;have n:=je m;rw[ba]at n;exists 1,0,yc (yn (yo û (wy (pac (ug PySem.F.plainAttrs_tuple PySem.F.slot_tuple_index PySem.F.type_tuple_index yh0 (yal rfl T.Fp) (pa1 (xz jw (pv 0) yh (λZ Z=>rfl)))) (pa1 (pcB yp T.A7 (pa1 (xz jw (pv 0) yh (λZ Z=>rfl))))))) (pcT wg T.Ad (pa1 (xz jw (pv 0) yh (λZ Z=>rfl))))));exists .inr (.inl ⟨rfl,T.wy_KINDS⟩),?_;ext;refine Ł (SqT.of e) (wo (j:=0) rfl) ?_;ext;exists kdS 0,kdS 1,kdS 2,kdS d,a.Bl,d.val,rfl,rfl,T.w_KINDS H,ywn d,?_;ext;refine Ł (SqT.of e) (wo (j:=1) rfl) ?_;ext;exists g,_,rfl,.inr (SqT.of i),?_;rw[ba];ext;exists by walk_at "len",λu hu0=>?_
 exists hu0,H1,S1,hu1;ext;refine Ł (SqT.of (S1 _ _ e)) (wo (j:=1) rfl) ?_;ext;exists g,_,rfl,.inr (SqT.of (S1 _ _ i)),λw hw0=>?_;exists hw0,H2,S2,hw2;ext;exists u,w,_,_,rfl,rfl,S2 _ _ hu1,hw2,wd (by rw[ba];show 2+l.length<=_;omega),λc b=>?_;exact k c _ (S1.free (S2.free b)) ya (S1.trans (S2.trans (yz b)))
def lix(c:Nat):Nat:=(PySem.Builtin.Str.occurrences smS ⟨#[c]⟩ 0 26 1).headD 0
def yse:∀i:Fin 26,PySem.Builtin.Str.occurrences smS ⟨#[97+i.val]⟩ 0 26 1=[i.val]:=by right
def yxb{c:Nat}(h1:97<=c)(h2:c<=122):lix c=c-97:=by have e:=yse ⟨c-97,()⟩;unfold lix;rw[show 97+(⟨c-97,()⟩:Fin 26).val=c by show 97+(c-97)=c;omega]at e;rw[e];rfl
def yt6{x:Str}(h:nmS x=true){c:Nat}(hc:x.cps[i]?=some c):∃ρ,PySem.Builtin.Str.occurrences smS ⟨#[c]⟩ 0 smS.length 1=lix c::ρ:=by
 unfold nmS at h;simp only[bL,List.all_eq_true]at h;have a:=h.2.2 c (bB (by rw[Array.getElem?_toList];exact hc));unfold yog at a;have a:(!(PySem.Builtin.Str.occurrences smS ⟨#[c]⟩ 0 26 1).isEmpty)=true:=a;show ∃ρ,PySem.Builtin.Str.occurrences smS ⟨#[c]⟩ 0 26 1=_;unfold lix
 cases e:PySem.Builtin.Str.occurrences smS ⟨#[c]⟩ 0 26 1 with
 |nil=>rw[e]at a;cases a
 |cons i r=>exists r,rfl
def nmB(x:Str):Ρ:=((x.length:Nat):Int)::x.cps.toList.map λc=>((lix c:Nat):Int)
def yud(x:Str):(List.range x.cps.size).map (λi=>V.int ((lix (x.cps.toList.getD i 0):Nat):Int))=(x.cps.toList.map λc=>((lix c:Nat):Int)).map V.int:=by
 refine List.ext_getElem? λi=>?_;rw[bi,bi,bi];rcases Nat.lt_or_ge i x.cps.size with z|z
 .rw[cj z,bc (by simpa using z)];show some (V.int ((lix (x.cps.toList.getD i 0):Nat):Int))=_;rw[bI,bc (by simpa using z)];rfl
 .rw[bK (by rw[bQ];exact z),bK (by simpa using z)];rfl
#synth yxe ["name"] vbx
inductive ymf  (vs:Υ) (H:Hp) (Q:VK) (E':XK):Prop
 |mk(x:Str)(_:vs=[.str x])(_:nmS x=true)(_:∀l H',H l=none->H' l=some (.lst ((nmB x).map V.int))->yr H H'->Q (.ref l) H')
def yyn:vo P w K mg Γ CX0 1 a.Nm a.Qc ["name"] ymf:=by
 exists T.Qx.F.ok,yxe,y;let⟨x,rfl,j,k⟩:=h;have m:=xq j;have q:x.cps.size=x.length:=rfl;exists 1,0,yc (yn (yo û (wy (pa1 (pcB zu T.A7 (pa1 (pv 0))))) (vx (js:=[]) (ys:=[]) rfl (yfq (pv 0)) (λC z B v=>(yqi (K:=K) (r:=(ydr)) rfl PySem.F.plainAttrs_str PySem.F.slot_str_index PySem.F.type_str_index ybr (ja rfl T.Dj) (pa1 (pv 0)))) rfl rfl (hyc:=yy) (hrel:=yy))));exists x,rfl,bF m ∅,?_;ext;exists by walk_at "len",λu hu0=>?_
 exists hu0,H1,S1,hu1;ext;exists x,rfl,λD g=>?_;refine Ð (λi=>.int ((lix (x.cps.toList.getD i 0):Nat):Int)) g (λi c G l n S e=>?_) (λG S e=>?_)
 .obtain⟨ρ,t⟩:=yt6 j l;ext;exists rfl,?_;ext;exists smS,_,lix c,ρ,rfl,rfl,t,?_;refine Mp.doneR g (vh ()) n S e ?_;show V.int _=V.int _;rw[bI,Array.getElem?_toList,l];rfl
 .ext;have b:=S1.trans S;rw[yud]at e;exists u,D,_,_,rfl,rfl,S _ _ hu1,e,wd (by rw[ba,ba];show 1+x.cps.size<=_;omega),λc d=>?_;exact k c _ (b.free d) ya (b.trans (yz d))
noncomputable def bsN(P:qi Pd):qj Str->Int
 |none=>0
 |some b=>(((P.map (·.nm)).idxOf b:Nat):Int)+1
def ysm{ns:Τ}{b:Str}(h:b∈ns):vhv ns b (ns.idxOf b):=by
 have a:ns.idxOf b<ns.length:=List.idxOf_lt_length_iff.mpr h;exists ?_,λm d e=>?_
 .rw[bc a,List.getElem_idxOf a]
 .obtain⟨f,c⟩:=bv.mp e;have:=List.not_of_lt_findIdx (p:=(· == b)) (xs:=ns) (i:=m) d;rw[c]at this;simp at this
#synth yjy ["store","name","base"] ["store","name"] yqf
inductive yln(K:z3)(a:Ads)(vs:Υ)(H:Hp)(Q:VK)(E':XK):Prop
 |mk(st:z4)(C:Cf)(P:qi Pd)(X:Sx)(q:Pd)(_:vs=[.ref st,.str q.nm])(_:Sto K a H st C P X)(_:q∈P)(_:∀l H',H l=none->H' l=some (.lst [V.int (bsN P q.bs)])->yr H H'->Q (.ref l) H')
def yup:vo P w K mg Γ CX0 5 a.Gv a.Hw ["store","name"] (yln K a):=by
 exists T.Jx.F.ok,yjy,o;let⟨M,C,P,X,q,rfl,g,x,k⟩:=h;let⟨ds,vl,Z,vp,vc,t⟩:=g.ins;have v:=g.nm q x;exists 2,1,yf (yt (i:=2) yjy.nd rfl (Or.inl rfl) (y8 (pv 0) T.A1 T.Eo.m (yqm T) o.m T.Eo.B .nil vw (pa1 (pv 1)))) (yc (yn (wy (pa1 (jp (yx Ś (pv 2) uy (y9 _)) yh (yo wb (ug PySem.F.plainAttrs_list PySem.F.slot_list_index PySem.F.type_list_index yho (vj (pv 0) T.A1 T.C0.m (ye4 T) o.m T.C0.B .nil vn) (pa1 (pv 2))) yh))))));refine g.baseof v.1 (λR=>absurd rfl (R q x)) λr o e Y n=>?_;obtain rfl:=ŝ g.nd o x e;have y:=g.same n;have I:=n _ _ t
 cases hb:r.bs with
 |none =>
  ext;refine zn (λF=>?_) (λz=>absurd rfl z);ext;exists by walk_at "len",λl c=>?_
  refine k l _ (n.free c) ?_ (n.trans (yz c));rw[hb];exact ya
 |some b =>
  have j:=g.to r o;rw[hb]at j;let⟨u,O,S,_⟩:=j;ext
  refine zn (λz=>nomatch z) (λF=>?_)
  ext;refine y.names λG W J d U=>?_;have f:W G=some (.lst ((P.map (·.nm)).map V.str)):=by rw[d,bO];rfl
  refine u8 d ?_;ext;exists G,_,b,_,rfl,rfl,SqL.of f,ysm (bg.mpr ⟨u,O,S⟩),?_;ext;exists by walk_at "len",λl c=>?_
  have p:=n.trans U;refine k l _ (p.free c) ?_ (p.trans (yz c));rw[hb];exact ya
def pdB(C:Cf)(P:qi Pd)(q:Pd):Ρ:=nmB q.nm++[bsN P q.bs]++q.by C
def lkF(C:Cf)(i:Nat):Ρ:=((List.range i).map λj=>lkB (C.kd j) (C.ps j)).flatten
def yev(C:Cf)(i:Nat):lkF C (i+1)=lkF C i++lkB (C.kd i) (C.ps i):=by unfold lkF;rw[List.range_succ,bz,List.flatten_append,List.map_singleton,List.flatten_singleton]
def hdB(C:Cf):Ρ:=((C.n:Nat):Int)::lkF C C.n++[((C.mo:Nat):Int)/256,((C.mo:Nat):Int)%256]
def shB(C:Cf)(P:qi Pd):Ρ:=hdB C++((P.length:Nat):Int)::(P.map (pdB C P)).flatten
theorem x9.lkl{H:Hp}{C:Cf}{lk:Μ}(h:x9 H C.n lk C.kd tp C.ps):∀i,i<=C.n->(lkF C i).length<=i*6
 |0,_=>bf _
 |i+1,hi=>by
  let⟨_,_,_,_,a⟩:=h i ();have b:=je a;rw[ba]at b;rw[yev,bd];have:=h.lkl i ();show (lkF C i).length+((C.ps i).length+1+1)<=_;omega
section
variable{H:Hp}{C:Cf}{P:qi Pd}{X:Sx}
def Sto.pdl(h:Sto K a H st C P X){q:Pd}(hq:q∈P):(pdB C P q).length<=5520:=by have e:=xq (h.nm q hq).1;have d:=h.sz q hq;have b:=h.cf;have c:=ā (n:=C.n) (kd:=C.kd) (ps:=C.ps) (pre:=Ê (q.path.map (·.2))) (ts:=q.tx) b.1 b.2.1 (zg _) ();have c:(q.by C).length<=5500:=c;have b:q.nm.cps.toList.length=q.nm.length:=rfl;unfold pdB nmB;rw[bd,bd,bE,ba,b];show _+1+1+_<=_;omega
theorem Sto.pls(h:Sto K a H st C P X):∀i,i<=P.length->(((P.take i).map (pdB C P)).flatten).length<=i*5520
 |0,_=>bf _
 |i+1,hi=>by
  have b:i<P.length:=()
  rw[bY b,bz,List.flatten_append,bd];have c:=h.pls i ();have d:=h.pdl (bV b);rw[List.map_singleton,List.flatten_singleton];omega
end
def yng(C:Cf){P:qi Pd}{q:Pd}(h:P[i]?=some q):((P.take (i+1)).map (pdB C P)).flatten=((P.take i).map (pdB C P)).flatten++pdB C P q:=by rw[bY (bv.mp h).1,(bv.mp h).2,bz,List.flatten_append,List.map_singleton,List.flatten_singleton]
def wr2{m:Nat}(h:m<=1000):wr 2 (m:Int)=[(m:Int)/256,(m:Int)%256]:=by show [(m:Int)/256%256,(m:Int)%256]=_;rw[Int.emod_eq_of_lt (a:=(m:Int)/256) () ()]
#synth ê ["store","looks","names","shelf","look","name"] ["store"] yox
inductive yls(K:z3)(a:Ads)(vs:Υ)(H:Hp)(Q:VK)(E':XK):Prop
 |mk(st:z4)(C:Cf)(P:qi Pd)(X:Sx)(_:vs=[.ref st])(_:Sto K a H st C P X)(_:∀l H',H l=none->H' l=some (.lst ((shB C P).map V.int))->yr H H'->Q (.ref l) H')
def yum:vo P w K mg Γ CX0 6 a.Gw a.Hx ["store"] (yls K a):=by
 exists T.Jy.F.ok,ê,x;let⟨st,C,P,X,rfl,N,k⟩:=h;let⟨ds,vl,vm,vp,vc,af⟩:=N.ins;let⟨c1,c6,cm,cw,c2⟩:=N.cf;have az:=N.z;refine yg (yt (i:=1) ê.nd rfl (Or.inl rfl) (vj (pv 0) T.A1 T.Ei.m (yoz T) x.m T.Ei.B .nil vn)) ?_;refine yg (yt (i:=2) ê.nd rfl (Or.inl rfl) (vj (pv 0) T.A1 T.C0.m (ye4 T) x.m T.C0.B .nil vn)) ?_;refine yg (yt (i:=3) ê.nd rfl (Or.inl rfl) (wy (pa1 (pcB yp T.A7 (pa1 (pv 1)))))) ?_;refine yg (uk PassesOwn.never rfl (we (pv 1)) (vy (i:=4) ê.nd rfl (Or.inl rfl)) (yc (yu (ug PySem.F.plainAttrs_list PySem.F.slot_list_extend PySem.F.type_list_extend Í (pv 3) (pa1 (xp (ywl T) x.m T.Qw (pa1 (pv 4)))))))) ?_;refine yg (yu (ug PySem.F.plainAttrs_list PySem.F.slot_list_extend PySem.F.type_list_extend Í (pv 3) (pa1 (xp (yo7 T) x.m T.J1 (pac (vj (pv 0) T.A1 T.Js.m (yw5 T) x.m T.Js.B .nil vn) (pa1 yh)))))) ?_;refine yg (yu (ug PySem.F.plainAttrs_list PySem.F.slot_list_append PySem.F.type_list_append wk (pv 3) (pa1 (pcB yp T.A7 (pa1 (pv 2)))))) ?_;refine yg (uk PassesOwn.never rfl (we (pv 2)) (vy (i:=5) ê.nd rfl (Or.inl rfl)) (yc (yu (ug PySem.F.plainAttrs_list PySem.F.slot_list_extend PySem.F.type_list_extend Í (pv 3) (pa1 (yo û (yo û (xp (yyn T) x.m T.Qx (pa1 (pv 5))) (xp (yup T) x.m T.Jx (pac (pv 0) (pa1 (pv 5))))) (y8 (pv 0) T.A1 T.En.m (yo4 T) x.m T.En.B .nil vw (pa1 (pv 5))))))))) ?_;exists 1,5,yc (yn (pv 3));refine N.tlooks λlo lk tp H1 ao J hR S=>?_;have Z:=S _ _ af;ext;refine(N.same S).names λnm H2 a6 j R=>?_;have g:=R _ _ J;ext;refine u5 (SqL.of g) ?_;rw[vi];ext;exists by walk_at "len",λd hsh0=>?_
 exists hsh0,H3,S3,hsh3;have aq:=S.trans (R.trans S3);have a5:H d=none:=S.free (R.free hsh0);have aa:=S3 _ _ g;have W:=S3 _ _ j;have ah:=(hR.same R).same S3;have a1:H3 d=some (.lst ((((C.n:Nat):Int)::lkF C 0).map V.int)):=hsh3;have M:=hR.same R;have v:=N.same (S.trans R);clear hR hsh3 W aa ah J a6 Z;have a3:=M.lkl;ext;refine⟨lo,rfl,⟨_,SqL.of (S3 _ _ g)⟩,xx (K:=K) (a:=lo) (xs:=refs lk C.n) (λi σ2 G=>∃v4:Ψ,σ2=[some (.ref st),some (.ref lo),some (.ref nm),some (.ref d),v4,none]/\yr H2 G/\G d=some (.lst ((((C.n:Nat):Int)::lkF C i).map V.int)))
  ⟨none,rfl,S3,a1⟩ (by rintro i σ2 G _ ⟨_,_,f,_⟩;exact SqL.of (f _ _ g)) ?_ ?_⟩
 .rintro i y σ2 G hy ⟨v4,rfl,f,c⟩;let⟨rfl,hi⟩:=uw hy;have ag:=a3 i ();let⟨_,_,_,_,h3⟩:=M i hi;have h4:=je h3;rw[ba]at h4;ext;refine u8 c ?_;ext;exists .ref (lk i),C.kd i,tp i,C.ps i,rfl,(M i hi).same f,λl U aG ad D=>?_;exists d,l,_,_,rfl,rfl,D _ _ c,ad,wd (by rw[ba,ba];show (lkF C i).length+1+((C.ps i).length+1+1)<=_;omega),?_;ext;exists _,rfl,λb o e=>ye (yb e hsh0) (D _ _ (f _ _ e)),?_;rw[ya,yev,<- bz];rfl
 rintro σ2 G ⟨v4,rfl,f,c⟩;rw[vi]at c;have ag:=a3 C.n (bf _);have t:=v.same f;let⟨aH,ar,aA,av,aD,a7⟩:=t.ins;clear a1;ext;refine u8 c ?_;ext;refine t.tmost ?_;ext;exists _,2,rfl,∅,λw U aj O D=>?_
 rw[wr2 cm]at O;exists d,w,_,_,rfl,rfl,D _ _ c,O,wd (by rw[ba];show (lkF C C.n).length+1+2<=_;omega),?_;rw[<- bz];have S4:yr H2 (upd U d (.lst ((((C.n:Nat):Int)::lkF C C.n++[((C.mo:Nat):Int)/256,((C.mo:Nat):Int)%256]).map V.int))):=λb o e=>ye (yb e hsh0) (D _ _ (f _ _ e));have p:upd U d (.lst ((((C.n:Nat):Int)::lkF C C.n++[((C.mo:Nat):Int)/256,((C.mo:Nat):Int)%256]).map V.int)) d=some (.lst ((hdB C).map V.int)):=ya;generalize upd U d (.lst ((((C.n:Nat):Int)::lkF C C.n++[((C.mo:Nat):Int)/256,((C.mo:Nat):Int)%256]).map V.int))=H4 at S4 p⊢;clear c t a7 aj O D f;have as:(hdB C).length<=40:=by unfold hdB;rw[bd,bE];show _+1+2<=40;omega
 ext;refine u8 p ?_;ext;refine u5 (SqL.of (S4 _ _ j)) ?_;rw[ba];ext;refine w9 p (vh (by rw[ba];omega)) ?_;have S5:yr H2 (upd H4 d (.lst ((hdB C).map V.int++[V.int ((P.length:Nat):Int)]))):=λb o e=>ye (yb e hsh0) (S4 _ _ e)
 have L:upd H4 d (.lst ((hdB C).map V.int++[V.int ((P.length:Nat):Int)])) d=some (.lst ((hdB C++((P.length:Nat):Int)::((P.take 0).map (pdB C P)).flatten).map V.int)):=by
  rw[ya,bz];rfl
 generalize upd H4 d (.lst ((hdB C).map V.int++[V.int ((P.length:Nat):Int)]))=H5 at S5 L⊢;clear p S4;have ac:∀q,q∈P->(pdB C P q).length<=5520:=λq=>v.pdl;have ae:=v.pls;ext;refine⟨nm,rfl,⟨_,SqL.of (S5 _ _ j)⟩,xx (K:=K) (a:=nm) (xs:=P.map λq=>V.str q.nm) (λi σ2 G=>∃v5:Ψ,σ2=[some (.ref st),some (.ref lo),some (.ref nm),some (.ref d),v4,v5]/\yr H2 G/\G d=some (.lst ((hdB C++((P.length:Nat):Int)::((P.take i).map (pdB C P)).flatten).map V.int)))
  ⟨none,rfl,S5,L⟩ (by rintro i σ2 G _ ⟨_,_,f,_⟩;exact SqL.of (f _ _ j)) ?_ ?_⟩
 .rintro i y σ2 G hy ⟨v5,rfl,f,c⟩;rw[bi]at hy;let⟨q,hq,rfl⟩:=cD.mp hy;have ay:i<P.length:=(bv.mp hq).1;have aB:P[i]=q:=(bv.mp hq).2;have u:=bB hq;have a9:=v.nm q u;have au:=ae i ();have I:=ac q u;have t:=v.same f;ext;refine u8 c ?_;ext;exists q.nm,rfl,a9.1,λb1 G1 al ab T1=>?_;ext;exists st,C,P,X,q,rfl,t.same T1,u,λb2 U ak a0 D=>?_;ext;exists b1,b2,_,_,rfl,rfl,D _ _ ab,a0,wd (by rw[ba];unfold pdB at I;rw[bd,bd]at I;show _+1<=_;omega),λb3 hb30=>?_;exists hb30,G3,T3,hb33;have a4:=T1.trans (D.trans T3);have a8:=t.same a4;let⟨aF,ap,aC,aE,aw,am⟩:=a8.ins;ext;refine a8.bytesof a9.1 (λno=>absurd rfl (no q u)) λr x er b4 G4 an Y T4=>?_;obtain rfl:=ŝ N.nd x u er;ext;exists b3,b4,_,_,rfl,rfl,T4 _ _ hb33,Y,wd (by rw[bd,ba,ba];unfold pdB at I;rw[bd,bd]at I;show _+1+_<=_;omega),λb5 hb50=>?_;exists hb50,G5,T5,hb55;have a2:=a4.trans (T4.trans T5)
  have hb55:G5 b5=some (.lst ((pdB C P r).map V.int)):=by
   rw[hb55];unfold pdB;rw[bz,bz];rfl
  exists d,b5,_,_,rfl,rfl,a2 _ _ c,hb55,wd (by rw[ba,ba,bd,bE];omega),?_;ext;exists _,rfl,λb o e=>ye (yb e hsh0) (a2 _ _ (f _ _ e)),?_;rw[ya,yng C hq,<- bz,bW];rfl
 .rintro σ2 G ⟨v5,rfl,f,c⟩;rw[ba,cg]at c;ext;exact k d G a5 c (S.trans (R.trans f))
#synth yte ["data","e"] ["data"] yq7
def yiq:Sp:=λZ Z Z Z=>False
def yuv:vo P w K mg Γ CX0 1 a.Gy a.Hy ["data"] yiq:=by refine T.Jz.F.ok yte (λc H Q E h=>h.elim) (λd A b s H c Q E e h=>h.elim)
noncomputable def hxS:Str:=Str.ofString "0123456789abcdef"
def hxC(i:Nat):Nat:=hxS.cps.toList.getD i 0
def yfc:hxS.length=16:=by right
def yn8:∀i:Fin 16,hxS.cps[i.val]?=some (hxC i.val):=by right
def hx2(s:Int):Str:=⟨#[hxC (s/16).toNat,hxC (s%16).toNat]⟩
def hxV:V->V
 | .int s=>.str (hx2 s)
 |v=>v
def jx(ts:Ρ):Str:=Str.join ⟨#[]⟩ (ts.map hx2)
theorem jn:∀ts:Ρ,(jx ts).cps.toList=ts.flatMap λs=>[hxC (s/16).toNat,hxC (s%16).toNat]
 |[]=>rfl
 |[s]=>rfl
 |s::t::r=>by
  show (hx2 s++⟨#[]⟩++jx (t::r)).cps.toList=_;rw[Str.cps_append,Str.cps_append,Array.toList_append,Array.toList_append,jn (t::r)];rfl
def Ă(ts:Ρ):(jx ts).length=2*ts.length:=by
 rw[z9,jn]
 induction ts with
 |nil=>rfl
 |cons s r ih=>rw[List.flatMap_cons,bd,ih,bE];show 2+_=2*(r.length+1);omega
def yqv(ts:Ρ):((ts.map hx2).map λx:Str=>x.length).sum=2*ts.length:=by
 induction ts with
 |nil=>rfl
 |cons t r ih=>rw[bS,bS,List.sum_cons,ih,bE];show 2+_=2*(r.length+1);omega
#synth ys1 ["signs"] yp7
inductive yrd(K:z3)(vs:Υ)(H:Hp)(Q:VK)(E':XK):Prop
 |mk(l:z4)(ts:Ρ)(_:vs=[.ref l])(_:SqL K H l (ts.map V.int))(_:Byt ts)(_:ts.length<=100000)(_:∀H',yr H H'->Q (.str (jx ts)) H')
def yas:vo P w K mg Γ CX0 1 a.Gz a.Hz ["signs"] (yrd K):=by
 exists T.Cw.F.ok,ys1,v;let⟨l,d,rfl,j,n,r,k⟩:=h;exists 1,0,yc (yn (ug PySem.F.plainAttrs_str PySem.F.slot_str_join PySem.F.type_str_join Ą vg (pa1 (vx (js:=[]) (ys:=[]) rfl (we (pv 0)) (λC x z t=>(yo vk (xj (ja rfl T.Al) (yo vq (pv 0) yh) (λZ Z=>rfl)) (xj (ja rfl T.Al) (yo xk (pv 0) yh) (λZ Z=>rfl)))) rfl rfl (hyc:=yy) (hrel:=yy)))));exists rfl,?_;ext;exists l,rfl,⟨_,j⟩,λD m=>?_;refine zd hxV j m (λi y G g S b=>?_) (λG S b=>?_)
 .obtain⟨c,rfl,e,_,_⟩:=jk g;let⟨u,q⟩:=n c e;ext;exists hxS,c/16,_,rfl,rfl,(),(),by rw[yfc];omega,yn8 ⟨(c/16).toNat,()⟩,?_
  ext;exists hxS,c%16,_,rfl,rfl,(),(),by rw[yfc];omega,yn8 ⟨(c%16).toNat,()⟩,?_
  exists _,_,rfl,rfl,by show 1+1<=_;decide,?_
  exact Mp.done m (vh (by rw[ba];omega)) g S b rfl
 .ext;have b:G D=some (.lst ((d.map hx2).map V.str)):=by rw[b,bO,bO];rfl
  exists⟨#[]⟩,D,d.map hx2,rfl,rfl,SqL.of b,?_,k G S;rw[yqv];show 2*d.length+_*0<=_;omega
noncomputable def nib(ts:Ρ):qi Nat:=ts.flatMap λs=>[(s/16).toNat,(s%16).toNat]
def yjh(ts:Ρ):(jx ts).cps.toList=(nib ts).map hxC:=by rw[jn];unfold nib;rw[List.map_flatMap];rfl
def yx4(h:Byt ts):∀k,k∈nib ts->k<16:=λk a=>by
 let⟨s,b,a⟩:=List.mem_flatMap.mp a;let⟨d,c⟩:=h s b;rcases bq.mp a with rfl|a
 .omega
 .rw[bp.mp a];omega
def yua(ts:Ρ):(nib ts).length=2*ts.length:=by
 induction ts with
 |nil=>rfl
 |cons s r ih =>
  unfold nib at ih⊢;rw[List.flatMap_cons,bd,ih,bE];show 2+_=2*(r.length+1);omega
theorem yph:∀{ts:Ρ}{i:Nat}{s:Int},ts[i]?=some s->(nib ts)[2*i]?=some (s/16).toNat/\(nib ts)[2*i+1]?=some (s%16).toNat
 |t::r,0,s,h=>by
  cases h;exists rfl,rfl
 |t::r,i+1,s,h=>yph (ts:=r) (i:=i) h
def yqa:∀k:Fin 16,Builtin.Str.occurrences hxS ⟨#[hxC k.val]⟩ 0 hxS.length 1=[k.val]:=by right
#synth yjz ["word","worths"] ["word"] yow
inductive ynd  (vs:Υ) (H:Hp) (Q:VK) (E':XK):Prop
 |mk(ts:Ρ)(_:vs=[.str (jx ts)])(_:Byt ts)(_:ts.length<=40000)(_:∀l H',H l=none->H' l=some (.lst (ts.map V.int))->yr H H'->Q (.ref l) H')
def yds:vo P w K mg Γ CX0 1 a.Ha a.I0 ["word"] ynd:=by
 exists T.Ds.F.ok,yjz,hr;let⟨b,rfl,O,hz,k⟩:=h;have X:=Ă b;exists 1,1,yf (v9 (PW.pt (ł (yx xl (yo xk (pcB zu T.A7 (pa1 (pv 0))) yh) yh (y9 _)) (į (xt (xy (pcB (jo rfl) T.Cz (pa1 (vx (js:=[]) (ys:=[]) rfl (yfq (pv 0)) (λC Z H2 R=>(u7 yb3 (pv 0) (ja rfl T.Al) (by with_unfolding_all rfl))) rfl rfl (hyc:=yy) (hrel:=yy))))))))) (yc Ò) y7) (yf (yt (i:=1) yjz.nd rfl (Or.inr rfl) (vx (js:=[]) (ys:=[]) rfl (yfq (pv 0)) (λC Z H2 R=>(yqi (K:=K) (r:=(ydr)) rfl PySem.F.plainAttrs_str PySem.F.slot_str_index PySem.F.type_str_index ybr (ja rfl T.Al) (pa1 (pv 0)))) rfl rfl (hyc:=yy) (hrel:=yy))) (yc (yn (vx (js:=[1]) (ys:=["worths"]) rfl (yia rfl T.Bc (pac yh (pac (pcB yp T.A7 (pa1 (pv 1))) (pa1 yh)))) (λC Z H2 R=>(yo wb (yo xg yh (xz (r:=ve3 K) xf (pv 1) (pv 0) (λF F=>rfl))) (xz (r:=ve3 K) xf (pv 1) (yo wb (pv 0) yh) (λF F=>rfl)))) rfl rfl (hyc:=(all_cons rfl yy)) (hrel:=(all_cons rfl yy))))));exists _,rfl,wd (),?_;ext;rw[bo (show ¬(((jx b).length:Int)%2=1) by omega)];refine jc ?_;ext;have J:=yua b
 have B:(jx b).cps.size=(nib b).length:=by
  have e:=congrArg List.length (yjh b);rw[ba,ci]at e;exact e
 have p:∀{i c:Nat},(jx b).cps[i]?=some c->∃k,(nib b)[i]?=some k/\k<16/\c=hxC k:=λ{i c}e=>by
  rw[<- Array.getElem?_toList,yjh,bi]at e;let⟨k,n,rfl⟩:=cD.mp e;exists k,n,yx4 O k (bB n),rfl
 exists _,rfl,λD N=>?_;refine Ð (λF=>.bl true) N (λi c G I g S y=>?_) (λG S y=>?_)
 .obtain⟨k,n,l,rfl⟩:=p I;ext;exists _,_,rfl,rfl,?_;refine Mp.doneR N (vh ()) g S y ?_;show V.bl (!(Builtin.Str.occurrences hxS ⟨#[hxC k]⟩ 0 hxS.length 1).isEmpty)=_;rw[yqa ⟨k,l⟩];rfl
 ext;exists D,(List.range (jx b).cps.size).map λF=>true,rfl,SqL.of (by rw[y,bO];rfl),?_;rw[show ((List.range (jx b).cps.size).map λF=>true).all id=true by rw[List.all_eq_true];exact λx hx=>by let⟨_,_,e⟩:=bg.mp hx;exact e.symm];ext;exists _,rfl,λW o=>?_;refine Ð (λi=>.int (((nib b).getD i 0:Nat):Int)) o (λi c M I g u d=>?_) (λM u d=>?_)
 .obtain⟨k,n,l,rfl⟩:=p I;ext;exists rfl,?_;ext;exists hxS,_,k,[],rfl,rfl,yqa ⟨k,l⟩,?_;refine Mp.doneR o (vh ()) g u d ?_;rw[bI,n];rfl
 rw[B]at d
 have Y:M W=some (.lst ((nib b).map λk=>V.int ((k:Nat):Int))):=by
  rw[d]
  congr 2
  refine List.ext_getElem? λi=>?_;rw[bi,bi];rcases Nat.lt_or_ge i (nib b).length with z|z
  .rw[cj z,bc z];show some (V.int (((nib b).getD i 0:Nat):Int))=_;rw[bI,bc z];rfl
  .rw[bK (by rw[bQ];exact z),bK z];rfl
 ext;exists W,_,rfl,.inl (SqL.of Y),?_;rw[ba,J];ext;refine⟨0,((2*b.length:Nat):Int),2,rfl,(),λD3 f=>?_⟩;rw[show rgN 0 ((2*b.length:Nat):Int) 2=b.length by unfold rgN;split<;>omega];refine ŵ (λi=>.int (b.getD i 0)) f (λi U g t j=>?_) (λU t j=>?_)
 .have q:=bc g;let⟨n1,n2⟩:=yph q;let⟨b0,b1⟩:=O _ (bV g);have m:=t _ _ Y;ext;rw[show (0:Int)+(i:Int)*2=((2*i:Nat):Int) by omega];refine zr (v:=.int ((b[i]/16).toNat:Nat)) (SqL.of m) (wo (by rw[bi,n1];rfl)) ?_;ext;rw[show ((2*i:Nat):Int)+1=((2*i+1:Nat):Int) by omega];refine zr (v:=.int ((b[i]%16).toNat:Nat)) (SqL.of m) (wo (by rw[bi,n2];rfl)) ?_;ext;refine Mp.doneR f (vh ()) g t j ?_;rw[bI,q];show V.int _=V.int b[i]
  congr 1
  omega
 refine k D3 U (S.free (u.free f)) ?_ (S.trans (u.trans t));rw[j]
 congr 2
 refine List.ext_getElem? λi=>?_;rw[bi,bi];rcases Nat.lt_or_ge i b.length with z|z
 .rw[cj z,bc z];show some (V.int (b.getD i 0))=_;rw[bI,bc z];rfl
 .rw[bK (by rw[bQ];exact z),bK z];rfl
#synth ysr ["base"] yqh
inductive yma  (vs:Υ) (H:Hp) (Q:VK) (E':XK):Prop
 |mk(x:Φ)(_:vs=[baV x])(_:Q (.str (x.getD (Str.ofString "-"))) H)
def yjm:vo P w K mg Γ CX0 1 a.Hb a.I1 ["base"] yma:=by
 exists T.F6.F.ok,ysr,f;let⟨x,rfl,k⟩:=h;exists 1,0,yc (yn (jp (yx Ś (pv 0) uy (y9 _)) (ja rfl T.Gc) (pv 0)))
 cases x with
 |none =>
  refine zn (λZ=>?_) (λz=>absurd rfl z);ext;exact k
 |some b =>
  refine zn (λz=>nomatch z) (λZ=>?_)
  ext;exact k
noncomputable def DX(Z:Sx)(dk:z4):Sx:=⟨λy=>Z.w y\/y=dk,λy=>Z.f y\/y=dk⟩
inductive Dk(K:z3)(a:Ads)(H:Hp)(dk:z4)(C:Cf)(P:qi Pd)(X:Sx):Prop
 |mk(dd st:z4)(Z:Sx)(me:H dk=some (.ins a.Ah dd (ś (.ref st))))(s:Sto K a H st C P Z)(n:¬Z.f dk)(x:X=DX Z dk)
section
variable{H H':Hp}{dk:z4}{C:Cf}{P P':qi Pd}{X Y Z Z':Sx}
theorem Dk.same(h:Dk K a H dk C P X)(S:yr H H'):Dk K a H' dk C P X:=by let⟨b,c,Z,d,s,n,rfl⟩:=h;exists b,c,Z,S _ _ d,s.same S,n,rfl
theorem Dk.live(h:Dk K a H dk C P X):∀y,X.f y->∃o,H y=some o:=by
 let⟨c,d,Z,b,s,n,rfl⟩:=h;rintro y (w|rfl)
 .exact s.live y w
 .exists _,b
theorem Dk.wf(h:Dk K a H dk C P X):∀y,X.w y->X.f y:=by
 let⟨b,c,Z,d,s,n,rfl⟩:=h;rintro y (w|rfl)
 .exact .inl (s.wf y w)
 .exact .inr rfl
theorem Dk.frame(h:Dk K a H dk C P X)(sh:WSh H W2)(dj:∀y,X.f y->¬W2 y)(fr:∀y o,H y=some o->¬W2 y->H' y=some o):Dk K a H' dk C P X:=by let⟨b,c,Z,d,s,n,rfl⟩:=h;exists b,c,Z,fr _ _ d (dj _ (.inr rfl)),s.frame sh (λy w=>dj y (.inl w)) fr,n,rfl
theorem Dk.pw(h:Dk K a H dk C P X):PdW P:=by let⟨b,c,Z,d,s,n,rfl⟩:=h;exact s.pw
def DX.gx{o:HO}(g:Gx Z H H' Z')(e:H dk=some o):Gx (DX Z dk) H H' (DX Z' dk):=by exists⟨λc o e n=>g.g.fr _ _ e λw=>n (.inl w),λc w=>w.elim (λw=>(g.g.nw c w).imp .inl id) λw=>.inl (.inr w),g.g.lv⟩,λc w=>w.elim (λw=>(g.f c w).imp .inl id) λw=>.inl (.inr w)
def Dk.of{dd:z4}(me:H dk=some (.ins a.Ah dd (ś (.ref st))))(s:Sto K a H st C P Z)(n:¬Z.f dk)(s':Sto K a H' st C P' Z')(g:Gx Z H H' Z'):Dk K a H' dk C P' (DX Z' dk)/\Gx (DX Z dk) H H' (DX Z' dk) :=
 ⟨⟨dd,st,Z',g.g.fr _ _ me λw=>n (s.wf _ w),s',(λw=>(g.f dk w).elim n λe=>by rw[me]at e;cases e),rfl⟩,DX.gx g me⟩
end
#synth ysn ["self","looks","most"] yrw
inductive yhu(K:z3)(a:Ads)(vs:Υ)(H:Hp)(Q:VK)(E':XK):Prop
 |mk(dk dd l:z4)(mo w n:Nat)(lk tp:Μ)(kd:Ξ)(ps:Λ)(_:vs=[.ref dk,.ref l,.int mo])(_:H dk=some (.ins a.Ah dd []))(_:H l=some (.lst (refs lk n)))(_:1<=n)(_:n<=6)(_:x9 H n lk kd tp ps)(_:mo<=1000)(_:w<=mo)(_:w<=200)(_:∀X H',Dk K a H' dk ⟨n,kd,ps,mo,w⟩ [] X->But dk H H'->(∀y,X.f y->y=dk\/H y=none)->Q .non H')
def yiz:vo P w K mg Γ CX0 12 a.Eu a.Dm ["self","looks","most"] (yhu K a):=by
 exists T.R5.ok,ysn,M;let⟨p,v,l,mo,w,n,D,Y,U,W,rfl,c,S,R,x,G,C,I,O,k⟩:=h;exists 3,0,yc (ve (pv 0) (ux T.Ky (ywd T) M.m rfl T.Kx T.So .nil vw (pac (pv 1) (pa1 (pv 2)))) rfl);intro J ds j i F;refine Sto.new (mo:=mo) (w:=w) j i S R x G C I O λX Z q t d B=>⟨rfl,?_⟩;have g:=t _ _ c;have u:¬X.f p:=λz=>by rw[d p z]at c;cases c
 ext;exact k (DX X p) _ ⟨v,J,X,ya,q.but (WSh.mu g rfl) u But.upd,u,rfl⟩ (λb o e N=>ye N (t _ _ e)) λy w=>w.elim (λw=>.inr (d y w)) .inl
theorem ydg:∀{P:qi Pd},(∀q,q∈P->q.nm.length<=8)->((P.map (·.nm)).map λx:Str=>x.length).sum<=8*P.length
 |[],_=>bf _
 |q::r,h=>by
  rw[bS,bS,List.sum_cons,bE];have:=ydg (P:=r) λq a=>h q (bM _ a);have:=h q bN;omega
#synth yt8 ["self","verb"] yq9
inductive yeo(K:z3)(a:Ads)(vs:Υ)(H:Hp)(Q:VK)(E':XK):Prop
 |mk(dk:z4)(C:Cf)(P:qi Pd)(X:Sx)(v:Str)(_:vs=[.ref dk,.str v])(_:Dk K a H dk C P X)(_:((v=Str.ofString "names"/\∀H',yr H H'->Q (.str (Str.join ⟨#[32]⟩ (P.map (·.nm)))) H')\/(v=Str.ofString "shelf"/\Byt (shB C P)/\(shB C P).length<=100000/\∀H',yr H H'->Q (.str (jx (shB C P))) H')))
def yuh:vo P w K mg Γ CX0 7 a.Hd a.I3 ["self","verb"] (yeo K a):=by
 exists T.F7.F.ok,yt8,f;let⟨D,C,P,X,v,rfl,⟨S,p,Z,L,c,n,rfl⟩,h⟩:=h;let⟨R,O,J,N,M,x⟩:=c.ins;exists _,(yf (v9 (yx xl (pv 1) vg (y9 _)) (yc (yn (ug PySem.F.plainAttrs_str PySem.F.slot_str_join PySem.F.type_str_join Ą vg (pa1 (vj (yk (pv 0) rfl) T.A1 T.C0.m (ye4 T) f.m T.C0.B .nil vn))))) y7) (yf (v9 (yx xl (pv 1) vg (y9 _)) (yc (yn (xp (yas T) f.m T.Cw (pa1 (xp (yum T) f.m T.Jy (pa1 (yk (pv 0) rfl))))))) y7) (yc Ò))),?_;exists 2,0;rcases h with⟨rfl,k⟩|⟨rfl,t,j,k⟩
 .ext;exists rfl,_,rfl,?_;rw[bn rfl];refine ν ?_;ext;exists rfl,?_;ext;refine c.names λl r e b d=>?_;exists⟨#[32]⟩,l,P.map (·.nm),rfl,rfl,SqL.of (by rw[b,bO];rfl),?_,k _ d;have j:=c.z;have i:=ydg λq y=>xq (c.nm q y).1;rw[ba];show _+P.length*1<=_;omega
 .ext;exists rfl,_,rfl,?_;rw[bo ∅];refine jc ?_;ext;exists rfl,_,rfl,?_;rw[bn rfl];refine ν ?_;ext;exists p,C,P,Z,rfl,c,λl r e b d=>?_;ext;exists l,_,rfl,SqL.of b,t,j,λI G=>k I (d.trans G)
def ycg(C:Cf)(r:Pd):Int:=yvj (dec r.tx).length (ï (zt C.n C.kd C.ps (Ê (r.path.map (·.2))) r.tx) (vv r.tx) (dec r.tx).length)
def yk2(h:i<L.length):txi L i=L[i].2:=by unfold txi;rw[bI,bi,bc h];rfl
#synth yta ["self","name"] yrl
inductive yhb(K:z3)(a:Ads)(vs:Υ)(H:Hp)(Q:VK)(E:XK):Prop
 |mk(dk:z4)(C:Cf)(P:qi Pd)(X:Sx)(b:Str)(_:vs=[.ref dk,.str b])(_:Dk K a H dk C P X)(_:nmS b=true)(_:((∀q,q∈P->q.nm≠b)->∀H',yr H H'->E (.ref a.A4) none H'))(_:(∀r,r∈P->r.nm=b->∀Y H',Dk K a H' dk C P Y->Gx X H H' Y->Q (.int (ycg C r)) H'))
def yvd:vo P w K mg Γ (CXe P w) 15 a.Hg a.I6 ["self","name"] (yhb K a):=by
 exists T.F9.F.okE,yta,I;let⟨dk,C,P,X,b,rfl,⟨dd,st,Z,me,p,n,rfl⟩,hb,k1,k2⟩:=h;let⟨ds,vl,vm,vp,vc,a0⟩:=p.ins;let⟨n1,n6,_,_,w2⟩:=p.cf;exists 2,0,yc (yn (Å (yoq T) I.m rfl T.Qo T.Jm.kp T.Qn .nil vn (pac (vj (yk (pv 0) rfl) T.A1 T.Ei.m (yoz T) I.m T.Ei.B .nil vn) (pac (y8 (yk (pv 0) rfl) T.A1 T.Em.m (yra T) I.m T.Em.B .nil yv (pa1 (pv 1))) (pa1 (y8 (yk (pv 0) rfl) T.A1 T.Ju.m (yx2 T) I.m T.Ju.B .nil yv (pa1 (pv 1))))))));refine p.tlooks λl lk tp H1 O S Y u=>?_;have j:=p.same u;have a4:=u _ _ a0;have t:=u _ _ me;ext;refine j.textof hb (λU H2 S2=>k1 U H2 (u.trans S2)) λr d e Z2 q H2 c g2 ad hq=>?_;have N:=g2.g.fr _ _ t λw=>n (j.wf _ w);let⟨ac,aa,ab,a6,a7,a5⟩:=c.ins;have a9:=p.nm r d;ext;refine c.learnedof hb (λU=>absurd e (U r d)) λy J e2 Z3 q3 cx H3 M g3 a3 W R=>?_;obtain rfl:=ŝ p.nd J d (e2.trans e.symm);have k:=p.sz y d
 have D:∀{x:z4}{o:HO},H1 x=some o->¬Z.f x->H2 x=some o/\H3 x=some o:=λ{x o}e nx=>by
  have G:=Kf.go ⟨e,nx⟩ j g2;exists G.1,(G.go c g3).1
 have nl:∀{x:z4},H x=none->¬Z.f x:=λ{x}e w=>by
  let⟨o,e'⟩:=p.live x w;rw[e]at e';cases e'
 have a2:=(D S (nl O)).2;have L:x9 H3 C.n lk C.kd tp C.ps:=Y.fr λx xs e=>(D e (j.ntup e)).2;have v:=(hq.go c g3).1;ext;exists l,q,.ref q3,C.n,lk,C.kd,tp,C.ps,y.tx,y.path.length,C.w,cx,txi y.path,rfl,⟨a2,n1,n6,L,⟨v,k.1,()⟩,⟨.inr ⟨q3,rfl,W.1⟩,λi z=>⟨(R i z).2.2.1,?_,?_⟩⟩,(),(),?_⟩,λH4 S4=>?_
 .rw[yk2 z];exact(k.2.2.2 _ (bV z)).1
 .rw[yk2 z];exact(k.2.2.2 _ (bV z)).2
 .have hm:=Nat.mul_le_mul k.2.2.1 (show 9*C.w+1<=1801 by omega);omega
 .rw[Ï];let⟨h1,G⟩:=Dk.of t j n c g2;let⟨h3,h4⟩:=Dk.of N c (λw=>(g2.f dk w).elim n λe=>by rw[t]at e;cases e) M g3;exact k2 y d e _ H4 (h3.same S4) (((G.trans h4).same S4).ahead u)
inductive SW(K:z3)(a:Ads)(H:Hp)(dk:z4)(C:Cf)(P:qi Pd)(X:Sx)(Q:VK)(E:XK)(b:Str):Str->Prop
 |get (hb:nmS b=true) (k1:(∀q,q∈P->q.nm≠b)->∀H',yr H H'->E (.ref a.A4) none H') (k2:∀r,r∈P->r.nm=b->∀Y H',Dk K a H' dk C P Y->Gx X H H' Y->Q (.str (jx r.tx)) H'):SW K a H dk C P X Q E b (Str.ofString "get")
 |bytes (hb:nmS b=true) (k1:(∀q,q∈P->q.nm≠b)->∀H',yr H H'->E (.ref a.A4) none H') (k2:∀r,r∈P->r.nm=b->∀H',yr H H'->Q (.str (jx (r.by C))) H'):SW K a H dk C P X Q E b (Str.ofString "bytes")
 |bas (hb:nmS b=true) (k1:(∀q,q∈P->q.nm≠b)->∀H',yr H H'->E (.ref a.A4) none H') (k2:∀r,r∈P->r.nm=b->∀H',yr H H'->Q (.str (r.bs.getD (Str.ofString "-"))) H'):SW K a H dk C P X Q E b (Str.ofString "base")
 |cost (hb:nmS b=true) (k1:(∀q,q∈P->q.nm≠b)->∀H',yr H H'->E (.ref a.A4) none H') (k2:∀r,r∈P->r.nm=b->(ycg C r).natAbs.log2<1920/\∀Y H',Dk K a H' dk C P Y->Gx X H H' Y->Q (.str (toString (ycg C r))) H'):SW K a H dk C P X Q E b (Str.ofString "cost")
 |drop (hb:nmS b=true) (k1:(∀q,q∈P->q.nm≠b)->∀H',yr H H'->E (.ref a.A4) none H') (k2:∀r,r∈P->r.nm=b->(∃q,q∈P/\q.bs=some b)->∀H',yr H H'->E (.ref a.Bk) none H')
  (k3:∀r,r∈P->r.nm=b->(∀q,q∈P->q.bs≠some b)->∀Y H',Dk K a H' dk C (P.filter λq=>decide (q.nm≠b)) Y->Gx X H H' Y->Q (.str (Str.ofString "ok")) H'):SW K a H dk C P X Q E b (Str.ofString "drop")
 |best (ts:Ρ) (e:b=jx ts) (hs:Sgs ts) (hl:ts.length<=C.mo) (k:∀Y H',Dk K a H' dk C P Y->Gx X H H' Y->Q (.str ((ò C P ts).getD (Str.ofString "-"))) H'):SW K a H dk C P X Q E b (Str.ofString "best")
#synth yvb ["self","verb","word"] ypu
inductive yi7(K:z3)(a:Ads)(vs:Υ)(H:Hp)(Q:VK)(E:XK):Prop
 |mk(dk:z4)(C:Cf)(P:qi Pd)(X:Sx)(v b:Str)(_:vs=[.ref dk,.str v,.str b])(_:Dk K a H dk C P X)(_:SW K a H dk C P X Q E b v)
def yuo:vo P w K mg Γ (CXe P w) 16 a.He a.I4 ["self","verb","word"] (yi7 K a):=by
 exists T.F8.F.okE,yvb,f;let⟨O,C,P,X,v,b,rfl,⟨W,N,Z,y,d,n,rfl⟩,h⟩:=h;let⟨ds,vl,vm,vp,vc,a1⟩:=d.ins;have x:=d.cf;refine yg (v9 (yx xl (pv 1) vg (y9 _)) (yc (yn (xp (yas T) f.m T.Cw (pa1 (y8 (yk (pv 0) rfl) T.A1 T.Em.m (yra T) f.m T.Em.B .nil yv (pa1 (pv 2))))))) y7) ?_;refine yg (v9 (yx xl (pv 1) vg (y9 _)) (yc (yn (xp (yas T) f.m T.Cw (pa1 (y8 (yk (pv 0) rfl) T.A1 T.En.m (yo4 T) f.m T.En.B .nil yv (pa1 (pv 2))))))) y7) ?_;refine yg (v9 (yx xl (pv 1) vg (y9 _)) (yc (yn (xp (yjm T) f.m T.F6 (pa1 (y8 (yk (pv 0) rfl) T.A1 T.Eo.m (yqm T) f.m T.Eo.B .nil yv (pa1 (pv 2))))))) y7) ?_;refine yg (v9 (yx xl (pv 1) vg (y9 _)) (yc (yn (pcT ó T.Di (pa1 (y8 (pv 0) T.Ak T.F9.m (yvd T) f.m T.F9.B .nil yv (pa1 (pv 2))))))) y7) ?_;refine yg (v9 (yx xl (pv 1) vg (y9 _)) (yf (yu (y8 (yk (pv 0) rfl) T.A1 T.Jv.m (yzx T) f.m T.Jv.B .nil yv (pa1 (pv 2)))) (yc (yn (ja rfl T.Fd)))) y7) ?_;refine yg (v9 (yx xl (pv 1) vg (y9 _)) (yc (yn (xp (yjm T) f.m T.F6 (pa1 (y8 (yk (pv 0) rfl) T.A1 T.Jw.m (yzm T) f.m T.Jw.B .nil yv (pa1 (xp (yds T) f.m T.Ds (pa1 (pv 2))))))))) y7) ?_;refine yg (v9 (yx xl (pv 1) vg (y9 _)) (yf (ve (pv 0) (xp (yuv T) f.m T.Jz (pa1 (xp (yds T) f.m T.Ds (pa1 (pv 2))))) rfl) (yc (yn (ja rfl T.Fd)))) y7) ?_;exists _,(yc (wx rfl T.Ce T.Cg (pa1 vg))),?_;exists 3,0
 cases h with
 |get hb k1 k2 =>
  ext;exists rfl,_,rfl,?_;rw[bn rfl];refine ν ?_;ext;refine d.textof hb k1 λr c e Y q j p g1 a2 hq=>?_;let⟨u,t⟩:=Dk.of y d n p g1;have R:=d.sz r c;ext;exists q,r.tx,rfl,SqL.of hq.1,R.1,(),λG D=>k2 r c e _ G (u.same D) (t.same D)
 |bytes hb k1 k2 =>
  ext;exists rfl,_,rfl,?_;rw[bo ∅];refine jc ?_;ext;exists rfl,_,rfl,?_;rw[bn rfl];refine ν ?_;ext;refine d.bytesof hb k1 λr c e l j I o i=>?_;have R:=d.sz r c;have M:=ā (n:=C.n) (kd:=C.kd) (ps:=C.ps) (pre:=Ê (r.path.map (·.2))) (ts:=r.tx) x.1 x.2.1 (zg _) ();have M:(r.by C).length<=5500:=M;ext;exists l,r.by C,rfl,SqL.of o,ř _,(),λG D=>k2 r c e G (i.trans D)
 |bas hb k1 k2 =>
  ext;exists rfl,_,rfl,?_;rw[bo ∅];refine jc ?_;ext;exists rfl,_,rfl,?_;rw[bo ∅];refine jc ?_;ext;exists rfl,_,rfl,?_;rw[bn rfl];refine ν ?_;ext;refine d.baseof hb k1 λr c e j i=>?_;ext;exists r.bs,rfl,k2 r c e j i
 |cost hb k1 k2 =>
  ext;exists rfl,_,rfl,?_;rw[bo ∅];refine jc ?_;ext;exists rfl,_,rfl,?_;rw[bo ∅];refine jc ?_;ext;exists rfl,_,rfl,?_;rw[bo ∅];refine jc ?_;ext;exists rfl,_,rfl,?_;rw[bn rfl];refine ν ?_;ext;exists O,C,P,_,b,rfl,⟨W,N,Z,y,d,n,rfl⟩,hb,k1,λr c e Y j U g=>?_;let⟨z,k2⟩:=k2 r c e;exists _,rfl,z,k2 Y j U g
 |drop hb k1 k2 k3 =>
  ext;exists rfl,_,rfl,?_;rw[bo ∅];refine jc ?_;ext;exists rfl,_,rfl,?_;rw[bo ∅];refine jc ?_;ext;exists rfl,_,rfl,?_;rw[bo ∅];refine jc ?_;ext;exists rfl,_,rfl,?_;rw[bo ∅];refine jc ?_;ext;exists rfl,_,rfl,?_;rw[bn rfl];refine ν ?_;ext;refine d.drop hb k1 k2 λr c e no Y j p g1=>?_;let⟨u,t⟩:=Dk.of y d n p g1;ext;exact k3 r c e no _ _ u t
 |best ts e hs hl k =>
  subst e;ext;exists rfl,_,rfl,?_;rw[bo ∅];refine jc ?_;ext;exists rfl,_,rfl,?_;rw[bo ∅];refine jc ?_;ext;exists rfl,_,rfl,?_;rw[bo ∅];refine jc ?_;ext;exists rfl,_,rfl,?_;rw[bo ∅];refine jc ?_;ext;exists rfl,_,rfl,?_;rw[bo ∅];refine jc ?_;ext;exists rfl,_,rfl,?_;rw[bn rfl];refine ν ?_;ext;exists ts,rfl,hs,(),λl j I o i=>?_
  ext;exists N,C,P,Z,l,ts,rfl,d.same i,⟨o,hs,()⟩,(λz=>absurd z ()),λF Z2 G L g2=>?_;let⟨u,t⟩:=Dk.of (i _ _ y) (d.same i) n L g2;ext;exists _,rfl,k _ _ u (t.ahead i)
#synth yux ["self","name","word","base"] ypi
inductive ye7(K:z3)(a:Ads)(vs:Υ)(H:Hp)(Q:VK)(E:XK):Prop
 |mk(dk:z4)(C:Cf)(P:qi Pd)(X:Sx)(b:Str)(ts:Ρ)(x:Φ)(_:vs=[.ref dk,.str b,.str (jx ts),baV x])(_:Dk K a H dk C P X)(_:okN b)(_:Sgs ts)(_:ts.length<=C.w)(_:(∀y,x=some y->nmS y=true))(_:P.length<60)(_:((∃r,r∈P/\r.nm=b)->∀H',yr H H'->E (.ref a.Aw) none H'))(_:((∀q,q∈P->q.nm≠b)->∀y,x=some y->(∀q,q∈P->q.nm≠y)->∀H',yr H H'->E (.ref a.A4) none H'))(_:((∀q,q∈P->q.nm≠b)->∀L,ToD P x L->∀Y H',Dk K a H' dk C (P++[⟨b,x,L,ts⟩]) Y->Gx X H H' Y->Q (.str (Str.ofString "ok")) H'))
def yjg:vo P w K mg Γ (CXe P w) 14 a.Hf a.I5 ["self","name","word","base"] (ye7 K a):=by
 exists T.Cy.F.okE,yux,v;let⟨Y,C,P,X,b,u,x,rfl,⟨dd,st,Z,O,g,n,rfl⟩,M,f,j,I,W,kT,S,k⟩:=h;have a0:=g.cf;let⟨ds,vl,vm,vp,vc,U⟩:=g.ins;exists 4,0,yf (yu (y8 (yk (pv 0) rfl) T.A1 T.Ss (yyq T) v.m T.Sr .nil yv (pac (pv 1) (pac (xp (yds T) v.m T.Ds (pa1 (pv 2))) (pa1 (pv 3)))))) (yc (yn (ja rfl T.Fd)));exists u,rfl,f,(),λl H1 J o d=>?_
 have c:=g.same d;have hz:=g.z;ext;refine c.putE M ⟨o,f,()⟩ I W (λz=>absurd z ()) (λF z i q=>kT z i (d.trans q)) (λF z y e p i q=>S z y e p i (d.trans q)) λF p L B=>⟨j,?_,λZ' i t g2=>?_⟩
 .have:=B.len c.pw;omega
 ext;let⟨R,G⟩:=Dk.of (d _ _ O) c n t g2;exact k p L B _ _ R (G.ahead d)
#synth yjq ["self","row","words"] ["self","row"] yrs
inductive ykz(K:z3)(a:Ads)(vs:Υ)(H:Hp)(Q:VK)(E:XK):Prop
 |mk(dk dd:z4)(vd:V)(ws:Τ)(_:vs=[.ref dk,.str (Str.join ⟨#[32]⟩ ws)])(_:H dk=some (.ins a.Ah dd (ś vd)))(_:(∀w,w∈ws->32∉w.cps.toList))(_:(Str.join ⟨#[32]⟩ ws).length<=100000)(_:((∃v,ws=[v]/\∀H1,yr H H1->yeo K a [.ref dk,.str v] H1 Q E0)\/(∃v b,ws=[v,b]/\∀H1,yr H H1->yi7 K a [.ref dk,.str v,.str b] H1 Q E)\/(∃b t,ws=[Str.ofString "put",b,t]/\∀H1,yr H H1->ye7 K a [.ref dk,.str b,.str t,.non] H1 Q E)\/∃b y t,ws=[Str.ofString "put",b,Str.ofString "on",y,t]/\∀H1,yr H H1->ye7 K a [.ref dk,.str b,.str t,.str y] H1 Q E))
def ì:vo P w K mg Γ (CXe P w) 17 a.Hc a.I2 ["self","row"] (ykz K a):=by
 exists T.An.F.okE,yjq,c;let⟨k,n,p,f,rfl,x,g,o,h⟩:=h
 have e:f≠[]:=by
  rcases h with⟨v,rfl,_⟩|⟨v,b,rfl,_⟩|⟨b,t,rfl,_⟩|⟨b,y,t,rfl,_⟩<;>exact List.cons_ne_nil _ _
 refine yg (v9 (xt (xy (pcB wn T.A5 (pac (pv 1) (pa1 (jj (T:="str") rfl T.Di (by right))))))) (yc (wx rfl T.Ce T.Cg (pa1 vg))) y7) ?_;refine yg (yt (i:=2) yjq.nd rfl (Or.inl rfl) (ug PySem.F.plainAttrs_str PySem.F.slot_str_split PySem.F.type_str_split yml (pv 1) (pa1 vg))) ?_;refine yg (v9 (yx xl (pcB yp T.A7 (pa1 (pv 2))) yh (y9 _)) (yc (yn (xi (pv 0) T.Ak T.F7.m (yuh T) c.m T.F7.B .nil vn (pa1 (pv 1))))) y7) ?_;refine yg (v9 (yx xl (pcB yp T.A7 (pa1 (pv 2))) yh (y9 _)) (yc (yn (y8 (pv 0) T.Ak T.F8.m (yuo T) c.m T.F8.B .nil yv (pac (xz xf (pv 2) yh (λZ Z=>rfl)) (pa1 (xz xf (pv 2) yh (λZ Z=>rfl))))))) y7) ?_;refine yg (v9 (PW.pt (ykg (yx xl (xz xf (pv 2) yh (λZ Z=>rfl)) vg (y9 _)) (yj2 (yx xl (pcB yp T.A7 (pa1 (pv 2))) yh (y9 _))))) (yc (yn (y8 (pv 0) T.Ak T.Cy.m (yjg T) c.m T.Cy.B .nil yv (pac (xz xf (pv 2) yh (λZ Z=>rfl)) (pac (xz xf (pv 2) yh (λZ Z=>rfl)) (pa1 uy)))))) y7) ?_;refine yg (v9 (PW.pt (ykg (yx xl (xz xf (pv 2) yh (λZ Z=>rfl)) vg (y9 _)) (ykg (yx xl (pcB yp T.A7 (pa1 (pv 2))) yh (y9 _)) (yj2 (yx xl (xz xf (pv 2) yh (λZ Z=>rfl)) vg (y9 _)))))) (yc (yn (y8 (pv 0) T.Ak T.Cy.m (yjg T) c.m T.Cy.B .nil yv (pac (xz xf (pv 2) yh (λZ Z=>rfl)) (pac (xz xf (pv 2) yh (λZ Z=>rfl)) (pa1 (xz xf (pv 2) yh (λZ Z=>rfl)))))))) y7) ?_;exists 2,1,yc (wx rfl T.Ce T.Cg (pa1 vg));refine à (.str _) (yeb _ _) ?_;ext;exists rfl,?_;ext;exists _,⟨#[32]⟩,rfl,rfl,rfl,o,λl hl0=>?_;rw[yf9 e g];exists hl0,H1,S1,hl1;have u:=S1 _ _ x;rcases h with⟨v,rfl,h⟩|⟨v,b,rfl,h⟩|⟨b,t,rfl,h⟩|⟨b,y,t,rfl,h⟩
 .ext;exists l,_,rfl,.inl (SqL.of hl1),?_;ext;rw[bn (by rfl)];refine ν ?_;ext;exact h H1 S1
 .ext;exists l,_,rfl,.inl (SqL.of hl1),?_;ext;refine ylg (by assumption) ?_;ext;exists l,_,rfl,.inl (SqL.of hl1),?_;ext;rw[bn (by rfl)];refine ν ?_;ext;refine zr (v:=.str v) (SqL.of hl1) (wo (j:=0) rfl) ?_;ext;refine zr (v:=.str b) (SqL.of hl1) (wo (j:=1) rfl) ?_;ext;exact h H1 S1
 .ext;exists l,_,rfl,.inl (SqL.of hl1),?_;ext;refine ylg (by assumption) ?_;ext;exists l,_,rfl,.inl (SqL.of hl1),?_;ext;refine ylg (by assumption) ?_;ext;refine zr (v:=.str (Str.ofString "put")) (SqL.of hl1) (wo (j:=0) rfl) ?_;ext;exists rfl,_,rfl,?_;rw[bn rfl];refine ν ?_;ext;exists l,_,rfl,.inl (SqL.of hl1),?_;ext;rw[bn (by rfl)];refine ν ?_;ext;refine zr (v:=.str b) (SqL.of hl1) (wo (j:=1) rfl) ?_;ext;refine zr (v:=.str t) (SqL.of hl1) (wo (j:=2) rfl) ?_;ext;exact h H1 S1
 .ext;exists l,_,rfl,.inl (SqL.of hl1),?_;ext;refine ylg (by assumption) ?_;ext;exists l,_,rfl,.inl (SqL.of hl1),?_;ext;refine ylg (by assumption) ?_;ext;refine zr (v:=.str (Str.ofString "put")) (SqL.of hl1) (wo (j:=0) rfl) ?_;ext;exists rfl,_,rfl,?_;rw[bn rfl];refine ν ?_;ext;exists l,_,rfl,.inl (SqL.of hl1),?_;ext;refine ylg (by assumption) ?_;ext;refine zr (v:=.str (Str.ofString "put")) (SqL.of hl1) (wo (j:=0) rfl) ?_;ext;exists rfl,_,rfl,?_;rw[bn rfl];refine ν ?_;ext;exists l,_,rfl,.inl (SqL.of hl1),?_;ext;rw[bn (by rfl)];refine ν ?_;ext;refine zr (v:=.str (Str.ofString "on")) (SqL.of hl1) (wo (j:=2) rfl) ?_;ext;exists rfl,_,rfl,?_;rw[bn rfl];refine ν ?_;ext;refine zr (v:=.str b) (SqL.of hl1) (wo (j:=1) rfl) ?_;ext;refine zr (v:=.str t) (SqL.of hl1) (wo (j:=4) rfl) ?_;ext;refine zr (v:=.str y) (SqL.of hl1) (wo (j:=3) rfl) ?_;ext;exact h H1 S1
#synth ydf ["_law_script","_law_k","_law_cell"] ["_law_script","_law_k"] yor
inductive va4(K:z3)(vs:Υ)(H:Hp)(Q:VK)(E':XK):Prop
 |mk(l:z4)(ns:Ρ)(j:Nat)(_:vs=[.ref l,.int j])(_:SqL K H l (ns.map V.int))(_:j<=1000)(_:∀n:Int,0<=n->n<2147483647->Q (.int n) H)
def ψ:vo P w K mg Γ CX0 1 a.Hh a.I7 ["_law_script","_law_k"] (va4 K):=by
 exists T.Be.F.ok,ydf,t;let⟨l,b,j,rfl,f,r,k⟩:=h;exists 2,1,yf (yt (i:=2) ydf.nd rfl (Or.inl rfl) yh) (yf (Ĭ (v9 (yx yaw (pv 1) (pcB yp T.A7 (pa1 (pv 0))) (y9 _)) (yc (yt (i:=2) ydf.nd rfl (Or.inl rfl) (yo xk (xz xf (pv 0) (pv 1) (λZ Z=>rfl)) yh))) y7)) (yc (yn (yo xk (yo xg (yo wb (yo wb (yo wb (yo xg (pv 2) (pv 2)) (pv 2)) (yo xg (yo xg yh (pv 1)) (pv 1))) yh) yh) yh))));refine yob (λσ' G=>H=G/\∃c:Int,σ'=[some (.ref l),some (.int j),some (.int c)]/\0<=c/\c<2147483629) ?_ ?_
 .ext;refine u5 f ?_;rw[ba];ext;refine zn (λg=>?_) (λg=>?_)
  .have e:j<b.length:=()
   ext;refine zr (v:=V.int b[j]) f (wo (by rw[bi,bc e];rfl)) ?_;ext;exists rfl,_,rfl,cA _ ∅,cr _ ∅
  .ext;exists rfl,0,rfl,∅,∅
 .rintro σ' G ⟨rfl,c,rfl,q,o⟩;have p:(0:Int)<=(j:Int)/\(j:Int)<=1000:=()
  have u:(0:Int)<=5*(j:Int)/\5*(j:Int)<=5000:=()
  ext;exact k _ (cA _ ∅) (cr _ ∅)
noncomputable def nmR(c:Nat)(k:Nat):Str:=⟨(List.replicate k c).toArray⟩
def yqp{c k:Nat}{z:Str}(h:z.cps.toList=(List.replicate k (⟨#[c]⟩:Str).cps.toList).flatten):z=nmR c k:=by
 have e:(List.replicate k [c]).flatten=List.replicate k c:=by
  clear h
  induction k with
  |zero=>rfl
  |succ k ih=>rw[b7,List.flatten_cons,b7,List.singleton_append,ih]
 have h:z.cps.toList=(List.replicate k [c]).flatten:=h;rw[e]at h
 cases z with|mk cps =>
 unfold nmR
 congr 1
 exact Array.toList_inj.mp (by simpa using h)
def yjk{c k:Nat}(h:97<=c/\c<123):ĳ (nmR c k).cps.toList:=λd a=>by
 have e:d∈List.replicate k c:=a;rw[List.eq_of_mem_replicate e];exact h
def OkL(x:Str):Prop:=okN x/\ĳ x.cps.toList
def ypx{x:Str}(h:ĳ x.cps.toList)(h1:1<=x.cps.toList.length)(h8:x.cps.toList.length<=8):OkL x:=⟨vcy h h1 h8,h⟩
noncomputable def sz6:Ρ:=[1,3,5,6,8,7]
noncomputable def gI(f:Int->Str):V->V
 | .int t=>.str (f t)
 |v=>v
def yz2(f:Int->Str)(ts:Ρ):(ts.map V.int).map (gI f)=(ts.map f).map V.str:=by rw[bO,bO];rfl
#synth j7 ["_law_cell","_law_small","_law_odd","_law_stem","_law_k","_law_at"] ["_law_cell"] yqt
inductive yis(K:z3)(vs:Υ)(H:Hp)(Q:VK)(E':XK):Prop
 |mk(c:Int)(_:vs=[.int c])(_:0<=c)(_:c<2147483647)(_:∀(r:z4)(ns:Τ)(H':Hp),H r=none->H' r=some (.lst (ns.map V.str))->yr H H'->ns.length=6->ns.Nodup->(∀x,x∈ns->OkL x)->Q (.ref r) H')
def yti:vo P w K mg Γ CX0 1 a.Hi a.I8 ["_law_cell"] (yis K):=by
 exists T.K1.F.ok,j7,hr;let⟨c,rfl,c0,c1,k⟩:=h;refine yg (yt (i:=1) j7.nd rfl (Or.inr rfl) vg) ?_;refine yg (yt (i:=2) j7.nd rfl (Or.inr rfl) (yo xk (pv 0) yh)) ?_;refine yg (yt (i:=0) j7.nd rfl (Or.inl rfl) (yo vq (pv 0) yh)) ?_;refine yg (v9 (yx xl (yo xk (pv 0) yh) yh (y9 _)) (yc (yn (vx (js:=[1,2]) (ys:=["_law_small","_law_odd"]) rfl (we (wy (pac yh (pac yh (pac yh (pac yh (pac yh (pa1 yh)))))))) (λC s2 H2 fp=>(yo Ő (xj (pv 1) (pv 2) (λC C=>rfl)) (pv 0))) rfl rfl (hyc:=(all_cons rfl (all_cons rfl yy))) (hrel:=(all_cons rfl (all_cons rfl yy)))))) y7) ?_;refine yg (v9 (yx xl (yo xk (pv 0) yh) yh (y9 _)) (yc (yn (vx (js:=[1,2]) (ys:=["_law_small","_law_odd"]) rfl (jf rfl T.Bc (pa1 yh)) (λC s2 H2 fp=>(yo vk (xj (pv 1) (yo zy (yo wb (pv 2) yh) (pv 0)) (λC C=>rfl)) (yo Ő (xj (pv 1) (pv 2) (λC C=>rfl)) (pv 0)))) rfl rfl (hyc:=(all_cons rfl (all_cons rfl yy))) (hrel:=(all_cons rfl (all_cons rfl yy)))))) y7) ?_;refine yg (yt (i:=3) j7.nd rfl (Or.inr rfl) vg) ?_;refine yg (uk PassesOwn.never rfl (jf rfl T.Bc (pa1 (yo xk (yo vq (pv 0) yh) yh))) (vy (i:=4) j7.nd rfl (Or.inl rfl)) (yc (yt (i:=3) j7.nd rfl (Or.inr rfl) (yo vk (pv 3) (xj (pv 1) (yo xk (yo vq (yo xg (pv 0) (yo wb (pv 4) yh)) yh) yh) (λC C=>rfl)))))) ?_;refine yg (yt (i:=5) j7.nd rfl (Or.inr rfl) (yo xk (yo vq (pv 0) yh) (yo wb (pcB zu T.A7 (pa1 (pv 3))) yh))) ?_;exists 1,5,yc (yn (vx (js:=[3,1,2,5]) (ys:=["_law_stem","_law_small","_law_odd","_law_at"]) rfl (jf rfl T.Bc (pa1 yh)) (λC s2 H2 fp=>(yo vk (yo vk (xw (r:=vgs) yo9 (pv 1) uu (uv (pv 4))) (xj (pv 2) (yo wb (pv 3) (pv 0)) (λC C=>rfl))) (xw (r:=vgs) yo9 (pv 1) (uv (pv 4)) uu))) rfl rfl (hyc:=(all_cons rfl (all_cons rfl (all_cons rfl (all_cons rfl yy))))) (hrel:=(all_cons rfl (all_cons rfl (all_cons rfl (all_cons rfl yy)))))));obtain⟨o,ho,a1⟩:∃o:Nat,c%21=(o:Int)/\o<=20:=⟨(c%21).toNat,(),()⟩;rw[ho];have U:0<=c/21:=()
 have O:c/21<2147483647:=()
 generalize c/21=m at U O⊢;clear c0 c1 ho c;refine zn (λC=>?_) (λC=>?_)
 .clear U O;ext;exists by walk_at "len",λW M=>?_
  have J:=yz (o:=(HO.lst [V.int 1,V.int 3,V.int 5,V.int 6,V.int 8,V.int 7])) M;have G:upd H W (HO.lst [V.int 1,V.int 3,V.int 5,V.int 6,V.int 8,V.int 7]) W=some (HO.lst [V.int 1,V.int 3,V.int 5,V.int 6,V.int 8,V.int 7]):=ya;generalize upd H W (HO.lst [V.int 1,V.int 3,V.int 5,V.int 6,V.int 8,V.int 7])=a6 at J G⊢;exists W,rfl,⟨_,SqL.of G⟩,λD f=>?_;refine zd (xs:=sz6.map V.int) (gI λt=>nmR (97+o) t.toNat) (SqL.of G) f (λi y F hy g d=>?_) (λF g d=>?_)
  .rw[bi]at hy;let⟨t,Y,rfl⟩:=cD.mp hy;have a2:1<=t/\t<=8:=(show ∀t∈sz6,1<=t/\t<=8 by decide) t (bB Y);ext;exists smS,_,_,rfl,rfl,(),(),by rw[yce];omega,yla () (),?_
   rw[show ((o:Int)).toNat=o from rfl];ext;exists _,_,rfl,rfl,(),(),by show 1<=_;decide,λz p=>?_
   obtain rfl:=yqp p;exact Mp.done f (vh ∅) (by rw[bi,Y];rfl) g d rfl
  .rw[yz2]at d;refine k D _ F (J.free f) d (J.trans g) rfl ?_ λx L=>?_
   .refine List.pairwise_map.mpr ((show sz6.Pairwise λa b=>a≠b by decide).imp_of_mem λ{a b}ha hb ne e=>ne ?_);have h2:=(show ∀t∈sz6,1<=t/\t<=8 by decide) a ha;have h3:=(show ∀t∈sz6,1<=t/\t<=8 by decide) b hb;have X:=congrArg (λx:Str=>x.cps.toList.length) e;simp[nmR]at X;omega
   .obtain⟨t,Y,rfl⟩:=bg.mp L;have h2:=(show ∀t∈sz6,1<=t/\t<=8 by decide) t Y;exact ypx (yjk ()) (by simp[nmR];omega) (by simp[nmR];omega)
 ext;refine zn (λC=>?_) (λC=>?_)
 .clear U O;ext;exists _,rfl,∅,∅,λD f=>?_
  refine õ (lo:=0) (n:=6) (λi=>.str (⟨#[97+(o+5-i)]⟩++nmR (97+o) i)) f (λi F B g d=>?_) (λF g d=>?_)
  .ext;exists smS,_,_,rfl,rfl,(),(),by rw[yce];omega,yla () (),?_
   rw[show ((o:Int)+5-(0+(i:Int))).toNat=o+5-i by omega];ext;exists smS,_,_,rfl,rfl,(),(),by rw[yce];omega,yla () (),?_
   rw[show ((o:Int)).toNat=o from rfl];ext;exists _,_,rfl,rfl,(),(),by show 1<=_;decide,λz p=>?_
   rw[show (0+(i:Int)).toNat=i by omega]at p;obtain rfl:=yqp p;exists _,_,rfl,rfl,by rw[sizeLine_eq,z9 (nmR _ _)];simp[nmR];show 1+i<=_;omega,?_
   exact Mp.doneR f (vh ∅) B g d rfl
  .have Z:F D=some (.lst (((List.range 6).map λi=>(⟨#[97+(o+5-i)]⟩++nmR (97+o) i:Str)).map V.str)):=by rw[d,bO];rfl
   refine k D _ F f Z g rfl ?_ λx L=>?_
   .refine List.pairwise_map.mpr (List.nodup_range.imp λ{a b}ne e=>ne ?_);have X:=congrArg (λx:Str=>x.cps.toList.length) e;simp[xh,nmR]at X;exact X
   .obtain⟨i,B,rfl⟩:=bg.mp L;have h3:=cc.mp B;refine ypx ?_ ?_ ?_
    .rw[xh];exact ĳ.app (.one ()) (yjk ())
    .rw[xh,bd];show 1<=1+_;omega
    .rw[xh,bd];simp[nmR];omega
 .obtain⟨l7,N,hl⟩:∃l:Nat,m/4%8=(l:Int)/\l<=7:=⟨(m/4%8).toNat,(),()⟩;ext;rw[N];clear N U O;refine⟨_,rfl,(),(),Î (n:=l7) (λi σ2 F=>∃(z:Str)(v:Ψ),σ2=[some (.int m),some (.str smS),some (.int o),some (.str z),v,none]/\ĳ z.cps.toList/\z.length=i/\H=F)
   ⟨_,_,rfl,(λc hc=>by cases (show c∈[]from hc)),rfl,rfl⟩ ?_ ?_⟩
  .rintro i σ2 F B ⟨z,v,rfl,p,u,rfl⟩;ext;have R:=cA (m*(0+(i:Int)+3)/7) (show (26:Int)≠0 by decide);have S:=cr (m*(0+(i:Int)+3)/7) (show (0:Int)<26 by decide);generalize m*(0+(i:Int)+3)/7%26=q at R S⊢;exists smS,q,97+q.toNat,rfl,rfl,R,(),by rw[yce];exact S,yla R S,?_
   exists z,_,rfl,rfl,?_,?_
   .rw[u,sizeLine_eq];show i+1<=_;omega
   .ext;exists _,_,rfl,?_,?_,rfl
    .rw[xh];exact p.app (.one ())
    .rw[z9,xh,bd,<- z9,u];rfl
  .rintro σ2 F ⟨z,v,rfl,p,u,rfl⟩;ext;exists z,rfl,by rw[u,sizeLine_eq];omega,?_
   ext
   obtain⟨j,hj,I⟩:∃j:Nat,m/32%((z.length:Int)+1)=(j:Int)/\j<=z.length:=by
    have R:=cA (m/32) (show ((z.length:Int)+1)≠0 by omega);have S:=cr (m/32) (show 0<((z.length:Int)+1) by omega);exists(m/32%((z.length:Int)+1)).toNat,(),()
   rw[hj];clear hj;exists _,rfl,∅,∅,λD f=>?_
   refine õ (lo:=0) (n:=6) (λi=>.str (yoc z j (97+o+i))) f (λi F B g d=>?_) (λF g d=>?_)
   .ext;have a5:=Txt.slice_le z none (some (j:Int));have a3:=Txt.slice_le z (some (j:Int)) none;exists z,rfl,by rw[sizeLine_eq];omega,?_
    ext;have ei:97+((o:Int)+(0+(i:Int))).toNat=97+o+i:=()
    exists smS,_,_,rfl,rfl,(),(),by rw[yce];omega,yla () (),?_
    rw[ei];exists _,_,rfl,rfl,by rw[sizeLine_eq];show _+1<=_;omega,?_
    ext;exists z,rfl,by rw[sizeLine_eq];omega,?_
    exists _,_,rfl,rfl,?_,?_
    .rw[sizeLine_eq,z9,xh,bd,<- z9];show _+1+_<=_;omega
    .exact Mp.doneR f (vh ∅) B g d rfl
   .have Z:F D=some (.lst (((List.range 6).map λi=>yoc z j (97+o+i)).map V.str)):=by rw[d,bO];rfl
    refine k D _ F f Z g rfl (yhz I o 6) λx L=>?_;let⟨i,B,rfl⟩:=bg.mp L;have h3:=cc.mp B;exists yu7 I p () (),?_;rw[Ø I];exact((p.take j).app (.one ())).app (p.drop j)
#synth ĥ ["_law_script","_law_looks_here","_law_k","_law_cell","_law_places"] ["_law_script"] yqz
inductive ymx(K:z3)(vs:Υ)(H:Hp)(Q:VK)(E':XK):Prop
 |mk(l:z4)(zs:Ρ)(_:vs=[.ref l])(_:SqL K H l (zs.map V.int))(_:∀r(n:Nat)(lk:Μ)(kd:Ξ)(tp:Μ)(ps:Λ)H',H r=none->H' r=some (.lst (refs lk n))->1<=n->n<=6->x9 H' n lk kd tp ps->yr H H'->Q (.ref r) H')
def yt3:vo P w K mg Γ CX0 2 a.Hj a.I9 ["_law_script"] (ymx K):=by
 exists T.K2.F.ok,ĥ,hr;let⟨l,zs,rfl,hl,k⟩:=h;refine yg (yt (i:=1) ĥ.nd rfl (Or.inl rfl) (wy ur)) ?_;refine yg (uk PassesOwn.never rfl (jf rfl T.Bc (pa1 (yo wb yh (yo xk (xp (ψ T) hr.m T.Be (pac (pv 0) (pa1 yh))) yh)))) (vy (i:=2) ĥ.nd rfl (Or.inl rfl)) (yf (yt (i:=3) ĥ.nd rfl (Or.inl rfl) (xp (ψ T) hr.m T.Be (pac (pv 0) (pa1 (yo wb yh (pv 2)))))) (yf (yt (i:=4) ĥ.nd rfl (Or.inl rfl) (xz xf (wy (pac (uq ur) (pac (uq (pa1 yh)) (pac (uq (pa1 yh)) (pac (uq (pac yh (pa1 yh))) (pac (uq (pa1 (yo wb yh (yo xk (yo vq (pv 3) yh) yh)))) (pa1 (uq (pac yh (pac yh (pac yh (pa1 yh)))))))))))) (yo xk (yo vq (pv 3) yh) yh) (λF F=>rfl))) (yc (yu (ug PySem.F.plainAttrs_list PySem.F.slot_list_append PySem.F.type_list_append wk (pv 1) (pa1 (uq (pac (xz xf (wy (pac vg (pac vg (pa1 vg)))) (yo xk (pv 3) yh) (λF F=>rfl)) (pa1 (pv 4))))))))))) ?_;exists 1,4,yc (yn (pv 1));exists by walk_at "len",λL hL0=>?_
 exists hL0,H1,S1,hL1;ext;exists l,zs,0,rfl,S1.seq hl,∅,λc c0 c1=>?_
 ext;obtain⟨n,hn,n1,n6⟩:∃n:Nat,1+c%2=(n:Int)/\1<=n/\n<=6:=⟨(1+c%2).toNat,(),(),()⟩;rw[hn];refine⟨_,rfl,(),(),Î (n:=n) (λi σ2 G=>∃(X Y v4:Ψ)(u:Μ)(M:Ξ)(S:Μ)(N:Λ),σ2=[some (.ref l),some (.ref L),X,Y,v4]/\G L=some (.lst (refs u i))/\x9 G i u M S N/\yr H G)
  ⟨_,_,_,λF=>0,λF=>0,λF=>0,λF=>[],rfl,hL1,λj W=>absurd W (bD j),S1⟩ ?_ ?_⟩
 .rintro i σ2 G hi ⟨X,Y,v4,u,M,S,N,rfl,Z,gR,U⟩;ext;exists l,zs,1+i,by rw[show ((1+i:Nat):Int)=1+(0+(i:Int)) by omega];rfl,U.seq hl,(),λd d0 d1=>?_
  ext;exists by walk_at "len",λx1 xg1=>?_
  exists xg1,xH1,xS1,xe1;ext;exists by walk_at "len",λx2 xg2=>?_
  exists xg2,xH2,xS2,xe2;ext;exists by walk_at "len",λx3 xg3=>?_
  exists xg3,xH3,xS3,xe3;ext;exists by walk_at "len",λx4 xg4=>?_
  exists xg4,xH4,xS4,xe4;ext;exists by walk_at "len",λx5 xg5=>?_
  exists xg5,xH5,xS5,xe5;ext;exists by walk_at "len",λx6 xg6=>?_
  exists xg6,xH6,xS6,xe6;ext;exists by walk_at "len",λx7 xg7=>?_
  exists xg7,xH7,xS7,xe7;have B:=xS7;have xe6:=B _ _ xe6;have O:=xS6.trans B;have xe5:=O _ _ xe5;have y:=xS5.trans O;have xe4:=y _ _ xe4;have x:=xS4.trans y;have xe3:=x _ _ xe3;have J:=xS3.trans x;have xe2:=J _ _ xe2;have v:=xS2.trans J;have xe1:=v _ _ xe1;have C:=xS1.trans v;ext
  obtain⟨f,I,hv,hq,a1⟩:∃f I,atI [V.ref x1,V.ref x2,V.ref x3,V.ref x4,V.ref x5,V.ref x6] (d/24%6)=some (.ref f)/\xH7 f=some (.tup (List.map V.int I))/\zh (I.map V.int)=true:=by
   have h0:d/24%6=0\/d/24%6=1\/d/24%6=2\/d/24%6=3\/d/24%6=4\/d/24%6=5:=()
   rcases h0 with z|z|z|z|z|z<;>rw[z]
   .exists x1,[],rfl,xe1,rfl
   .exists x2,[1],rfl,xe2,rfl
   .exists x3,[2],rfl,xe3,rfl
   .exists x4,[1,2],rfl,xe4,rfl
   .exists x5,[1+d/3%8],rfl,xe5,yhj (by show 1<=4;decide) (λp hp=>?_) (List.pairwise_singleton _ _);rw[bp.mp hp];omega
   .exists x6,[1,3,5,8],rfl,xe6,rfl
  refine zr (SqL.of xe7) hv ?_;have R:=C _ _ Z;ext;refine u8 R ?_;ext;exists by walk_at "len",λq2 hq2=>?_
  exists hq2,G4,T4,hq4;ext;let⟨kk,hk⟩:=yut d;refine zr (SqL.of hq4) hk ?_;ext;exists by walk_at "len",λt ht=>?_
  exists ht,G7,T7,ht7;have r:=T4.trans T7;have q:=r _ _ R;have D:=C.trans r;ext;refine w9 q (vh (by rw[vi];omega)) ?_;have g7:LkG G7 (.ref t) kk f I:=⟨t,rfl,ht7,r _ _ hq,a1⟩;ext;exists _,_,_,upN u i t,upN M i kk,upN S i f,upN N i I,rfl,?_,λj W=>?_,λb o e=>ye (yb e hL0) (D _ _ (U b o e))
  .rw[ya,x0,wq]
   congr 3
   exact xv λj W=>(wj W).symm
  .by_cases z:j=i
   .subst z;rw[wq,wq,wq,wq];exact g7.upd q
   .have g:j<i:=()
    rw[wj g,wj g,wj g,wj g];exact((gR j g).same D).upd q
 .rintro σ2 G ⟨X,Y,v4,u,M,S,N,rfl,Z,gR,U⟩;ext;exact k L n u M S N G hL0 Z n1 n6 gR U
#synth é ["_law_cell","_law_more","_law_size","_law_text_here","_law_k"] ["_law_cell","_law_more"] yoj
inductive yni(K:z3)(vs:Υ)(H:Hp)(Q:VK)(E':XK):Prop
 |mk(c:Int)(m:Nat)(_:vs=[.int c,.int m])(_:0<=c)(_:c<2147483647)(_:m<=9)(_:∀r(ts:Ρ)H',H r=none->H' r=some (.lst (ts.map V.int))->Sgs ts->ts.length<=3+m->yr H H'->Q (.ref r) H')
def yi3:vo P w K mg Γ CX0 1 a.Hk a.Ia ["_law_cell","_law_more"] (yni K):=by
 exists T.Fa.F.ok,é,U;let⟨c,m,rfl,S,R,W,k⟩:=h;refine yg (yt (i:=2) é.nd rfl (Or.inl rfl) (yo wb (yo xk (pv 0) yh) (pv 1))) ?_;refine yg (yt (i:=0) é.nd rfl (Or.inl rfl) (yo vq (pv 0) yh)) ?_;refine yg (yt (i:=3) é.nd rfl (Or.inl rfl) (wy ur)) ?_;refine yg (uk PassesOwn.never rfl (jf rfl T.Bc (pa1 (pv 2))) (vy (i:=4) é.nd rfl (Or.inl rfl)) (yf (yu (ug PySem.F.plainAttrs_list PySem.F.slot_list_append PySem.F.type_list_append wk (pv 3) (pa1 (yo xk (pv 0) yh)))) (yc (v9 (yx ylb (yo xk (yo vq (pv 0) yh) yh) yh (y9 _)) (yc (yt (i:=0) é.nd rfl (Or.inl rfl) (yo xk (yo xg (yo vq (pv 0) yh) yh) yh))) y7)))) ?_;exists 2,3,yc (yn (pv 3));obtain⟨z,O,N⟩:∃z:Nat,c%4+(m:Int)=(z:Int)/\z<=3+m:=⟨(c%4+(m:Int)).toNat,(),()⟩;rw[O];have u:0<=c/4:=()
 have r:c/4<2147483647:=()
 generalize c/4=d at u r⊢;exists by walk_at "len",λt ht0=>?_
 exists ht0,H1,S1,ht1;ext;refine⟨_,rfl,(),(),Î (n:=z) (λi σ2 G=>∃(v:Ψ)(d:Int)(f:Ρ),σ2=[some (.int d),some (.int m),some (.int z),some (.ref t),v]/\0<=d/\d<2147483647/\G t=some (.lst (f.map V.int))/\Sgs f/\f.length=i/\yr H G)
  ⟨_,d,[],rfl,u,r,ht1,(λx C=>by cases C),rfl,S1⟩ ?_ ?_⟩
 .clear u r d;rintro i σ2 G X ⟨v,d,f,rfl,u,r,B,l,y,D⟩;ext;refine u8 B ?_;ext;refine w9 B (vh (by rw[ba];omega)) ?_
  have j:Sgs (f++[d%256]):=λx C=>by
   rcases bH.mp C with z|z
   .exact l x z
   .rw[bp.mp z];omega
  have g:(f++[d%256]).length=i+1:=by rw[bd,y];rfl
  have q:upd G t (.lst (f.map V.int++[V.int (d%256)])) t=some (.lst ((f++[d%256]).map V.int)):=by rw[ya,bz];rfl
  have p:yr H (upd G t (.lst (f.map V.int++[V.int (d%256)]))):=λb o e=>ye (yb e ht0) (D _ _ e);generalize upd G t (.lst (f.map V.int++[V.int (d%256)]))=Y at q p⊢;ext;refine zn (λM=>?_) (λM=>?_)
  .ext;exists _,_,_,rfl,cA _ ∅,cr _ ∅,q,j,g,p
  .exists _,d,_,rfl,u,r,q,j,g,p
 .rintro σ2 G ⟨v,d,f,rfl,u,r,B,l,y,D⟩;ext;exact k t f G ht0 B l () D
#synth yi6 ["_law_signs","_law_figures"] ["_law_signs"] ypm
def ĩ:vo P w K mg Γ CX0 1 a.Hl a.Ib ["_law_signs"] (yrd K):=by
 exists T.Cc.F.ok,yi6,v;let⟨l,d,rfl,j,n,r,k⟩:=h;exists 1,1,yf (yt (i:=1) yi6.nd rfl (Or.inr rfl) vg) (yc (yn (ug PySem.F.plainAttrs_str PySem.F.slot_str_join PySem.F.type_str_join Ą vg (pa1 (vx (js:=[1]) (ys:=["_law_figures"]) rfl (we (pv 0)) (λC x z t=>(yo vk (xj (pv 1) (yo vq (pv 0) yh) (λZ Z=>rfl)) (xj (pv 1) (yo xk (pv 0) yh) (λZ Z=>rfl)))) rfl rfl (hyc:=(all_cons rfl yy)) (hrel:=(all_cons rfl yy)))))));exists rfl,?_;ext;exists l,rfl,⟨_,j⟩,λD m=>?_;refine zd hxV j m (λi y G g S b=>?_) (λG S b=>?_)
 .obtain⟨c,rfl,e,_,_⟩:=jk g;let⟨u,q⟩:=n c e;ext;exists hxS,c/16,_,rfl,rfl,(),(),by rw[yfc];omega,yn8 ⟨(c/16).toNat,()⟩,?_
  ext;exists hxS,c%16,_,rfl,rfl,(),(),by rw[yfc];omega,yn8 ⟨(c%16).toNat,()⟩,?_
  exists _,_,rfl,rfl,by show 1+1<=_;decide,?_
  exact Mp.done m (vh (by rw[ba];omega)) g S b rfl
 .ext;have b:G D=some (.lst ((d.map hx2).map V.str)):=by rw[b,bO,bO];rfl
  exists⟨#[]⟩,D,d.map hx2,rfl,rfl,SqL.of b,?_,k G S;rw[yqv];show 2*d.length+_*0<=_;omega
def yo5{P:qi Pd}{kk:Key}{v:V}(h:(mdK tu P)[i]?=some (kk,v)):∃q,P[i]?=some q/\kk=.inr q.nm/\v=.ref (tu q.nm):=by unfold mdK at h;rw[bi]at h;let⟨q,a,e⟩:=cD.mp h;cases e;exact⟨q,a,rfl,rfl⟩
theorem Mdl.frz{H:Hp}{X:Sx}{P:qi Pd}{tx:Str->z4}(h:Mdl H X md P tu tx)(hd:H md=some (.dK (mdK tu P)))(o:Obj):Mdl (upd H md (.frz o (.dK (mdK tu P)))) X md P tu tx :=
 ⟨.inr ⟨o,ya⟩,h.n,λq a=>(h.t q a).but (λz=>by have e:=(h.t q a).1;rw[z,hd]at e;cases e) But.upd,λq a=>(h.x q a).but (λz=>by have e:=(h.x q a).1;rw[z,hd]at e;cases e) But.upd⟩
structure PdS(P:qi Pd):Prop where
 w:PdW P
 z:P.length<=6
 s:∀q,q∈P->Sgs q.tx/\q.tx.length<=12
def PdS.lr{P:qi Pd}{tx:Str->z4}{F:Hp}{Z:Sx}(h:PdS P){x:Φ}(t:ToD P x L)(m:Mdl F Z md P tu tx){ln:z4}(hln:F ln=some (.lst (lnV tx L))):yvw F (.ref ln) L.length 12 (lnA tx L) (txi L):=by
 exists .inr ⟨ln,rfl,by rw[<- ye1];exact hln⟩,λi a=>?_;let⟨r,c,d,_⟩:=t.at h.w a;have b:=h.s r c;have e:txi L i=r.tx:=by rw[yk2 a,d]
 exists(m.ln h.w t a).1,by rw[e];exact b.1,by rw[e];exact b.2
#synth yam ["_law_pieces","_law_base","_law_texts"] ["_law_pieces","_law_base"] yop
inductive yh5  (vs:Υ) (H:Hp) (Q:VK) (E':XK):Prop
 |mk(md:z4)(P:qi Pd)(X:Sx)(tu tx:Str->z4)(x:Φ)(L:Η)(_:vs=[.ref md,baV x])(_:Mdl H X md P tu tx)(_:PdW P)(_:P.length<=1000)(_:ToD P x L)(_:∀l H',H l=none->H' l=some (.lst (lnV tx L))->yr H H'->Q (.ref l) H')
def yi4:vo P w K mg Γ CX0 1 a.Hm a.Ic ["_law_pieces","_law_base"] yh5:=by
 exists T.Fb.F.ok,yam,N;let⟨B,P,X,Y,J,x,L,rfl,O,U,a2,W,k⟩:=h;exists 2,1,yf (yt (i:=2) yam.nd rfl (Or.inl rfl) (wy ur)) (yf (jm PassesOwn.never (yx yar (pv 1) uy (y9 _)) (yf (yt (i:=2) yam.nd rfl (Or.inl rfl) (yo û (wy (pa1 (xz jw (Ç (É N) (pv 0) (pv 1) (λZ Z=>rfl)) yh (λZ Z=>rfl)))) (pv 2))) (yc (yt (i:=1) yam.nd rfl (Or.inl rfl) (xz jw (Ç (É N) (pv 0) (pv 1) (λZ Z=>rfl)) yh (λZ Z=>rfl)))))) (yc (yn (pv 2))));exists by walk_at "len",λl d=>?_
 ext
 refine⟨λm σ' G=>∃(y:Φ)(R S:Η)(l:z4),σ'=[some (.ref B),some (baV y),some (.ref l)]/\ToD P y R/\R++S=L/\H l=none/\G l=some (.lst (lnV J S))/\yr H G/\m=R.length,
  ⟨_,x,L,[],l,rfl,W,cO L,d,ya,yz d,rfl⟩,?_⟩
 clear d l;rintro m σ2 G ⟨y,R,S,l,rfl,M,g,d,o,C,rfl⟩;have p:=O.same C;have D:=W.len U;have a1:S.length<=1000:=by rw[<- g,bd]at D;omega
 ext
 cases y with
 |none =>
  refine yr1 (λZ=>?_) (λz=>absurd rfl z);have e:S=L:=by rw[show R=[]from M]at g;exact g
  ext;rw[e]at o;exact k l _ d o C
 |some b =>
  refine yr1 (λz=>nomatch z) (λZ=>?_)
  let⟨r,f,rfl,q⟩:=M;exists _,λσ' H' z=>z,?_;ext;exists B,_,rfl,p.get f,?_;ext;refine Ł (SqT.of (p.t r f).1) (wo (j:=0) rfl) ?_;ext;exists by walk_at "len",λu hu0=>?_
  exists hu0,G1,T1,hu1;ext;exists u,l,_,_,rfl,rfl,hu1,T1 _ _ o,wd (by unfold lnV;rw[ba];show 1+_<=_;omega),λc hc0=>?_;exists hc0,G2,T2,hc2;have v:=C.trans (T1.trans T2);have n:=O.same v;ext;exists B,_,rfl,n.get f,?_;ext;refine Ł (SqT.of (n.t r f).1) (wo (j:=1) rfl) ?_;ext;exists r.path.length,?_,r.bs,r.path,(r.nm,r.tx)::S,c,rfl,U.wf r f,?_,C.free (T1.free hc0),hc2,v,rfl
  .rw[q,bd,bX];omega
  .rw[<- g,q,bW];rfl
section
variable{B H H':Hp}{dk:z4}{C:Cf}{P:qi Pd}{X Y:Sx}{tx:Str->z4}
def Kf.goW{x:z4}{o:HO}(h:Kf H X x o)(wf:∀y,X.w y->X.f y)(g:Gx X H H' Y):Kf H' Y x o :=
 ⟨g.g.fr _ _ h.1 λw=>h.2 (wf _ w),λw=>(g.f x w).elim h.2 λe=>by rw[h.1]at e;cases e⟩
theorem Mdl.goW(h:Mdl H X md P tu tx)(wf:∀y,X.w y->X.f y)(g:Gx X H H' Y):Mdl H' Y md P tu tx :=
 ⟨h.d.imp (λe=>(Kf.goW ⟨e,h.n⟩ wf g).1) λ⟨o,e⟩=>⟨o,(Kf.goW ⟨e,h.n⟩ wf g).1⟩,(h.d.elim (λe=>(Kf.goW ⟨e,h.n⟩ wf g).2) λ⟨o,e⟩=>(Kf.goW ⟨e,h.n⟩ wf g).2),λq a=>(h.t q a).goW wf g,λq a=>(h.x q a).goW wf g⟩
def Bs.goW(h:Bs B H X)(wf:∀y,X.w y->X.f y)(g:Gx X H H' Y):Bs B H' Y :=
 ⟨λy o e=>g.g.fr _ _ (h.s _ _ e) (λw=>by rw[h.n y (wf y w)]at e;cases e),λy w=>(g.f y w).elim (h.n y) λe=>h.s.free e⟩
def Dk.but(h:Dk K a H dk C P X){o:HO}(e:H y=some o)(ho:yr2 o=true)(ny:¬X.f y)(b:But y H H'):Dk K a H' dk C P X :=
 h.frame (WSh.mu e ho) (λz w q=>ny (by rw[<- q];exact w)) λz o e c=>b z o e c
end
structure K3(K:z3)(a:Ads)(B H:Hp)(dk md:z4)(C:Cf)(P:qi Pd)(X:Sx)(tu tx:Str->z4):Prop where
 s:Dk K a H dk C P X
 b:Bs B H X
 n:B md=none
 m:Mdl H X md P tu tx
 d:H md=some (.dK (mdK tu P))
 p:PdS P
 o:∀q,q∈P->OkL q.nm
theorem K3.same{B H H':Hp}{dk:z4}{C:Cf}{P:qi Pd}{X:Sx}{tx:Str->z4}(h:K3 K a B H dk md C P X tu tx)(S:yr H H'):K3 K a B H' dk md C P X tu tx:=⟨h.s.same S,h.b.same S,h.n,h.m.same S,S _ _ h.d,h.p,h.o⟩
def K3.go{B H H':Hp}{dk:z4}{C:Cf}{P:qi Pd}{X Y:Sx}{tx:Str->z4}(h:K3 K a B H dk md C P X tu tx)(s:Dk K a H' dk C P Y)(g:Gx X H H' Y):K3 K a B H' dk md C P Y tu tx :=
 ⟨s,h.b.goW h.s.wf g,h.n,h.m.goW h.s.wf g,(Kf.goW ⟨h.d,h.m.n⟩ h.s.wf g).1,h.p,h.o⟩
def ytt(b:Str)(P:qi Pd):inV (.str b) (P.map λq=>baV q.bs)=P.any λq=>decide (q.bs=some b):=by
 unfold inV;rw[List.any_map]
 congr 1
 funext q
 show eqV (baV q.bs) (.str b)=_
 cases e:q.bs with
 |none=>exact(bo (λz=>nomatch z)).symm
 |some x =>
  show (x == b)=decide (some x=some b);rw[Bool.eq_iff_iff,beq_iff_eq,decide_eq_true_iff];exists λe=>by rw[e],bx
def yns(P:qi Pd):(P.map λq=>baV q.bs).all yax=true:=by rw[List.all_eq_true];intro v a;let⟨q,_,rfl⟩:=bg.mp a;cases q.bs<;>rfl
def vhz{tc:TT}{ts te:TS}{D:Ĳ}{σ:St}{H:Hp}(C C':Prop)(h:∀Qb:Bool->Hp->Prop,(C->∀H',yr H H'->Qb true H')->(C'->∀H',yr H H'->Qb false H')->tc σ H Qb)(hT:C->∀H',yr H H'->ts D σ H')(hF:C'->∀H',yr H H'->te D σ H'):vgq tc ts te D σ H :=
 h _ (λc H' S=>by show (if true=true then _ else _);rw[if_pos rfl];exact hT c H' S) (λc H' S=>by show (if false=true then _ else _);rw[if_neg ∅];exact hF c H' S)
def yvz(v:String)(b:Str)(h:(Str.ofString (v++" ")).cps.toList=(Str.ofString v).cps.toList++[32]):Str.ofString (v++" ")++b=Str.join ⟨#[32]⟩ [Str.ofString v,b]:=ë (by
 rw[xh,Ù,h,bW];rfl)
def vh6(b t:Str):Str.ofString "put "++b++Str.ofString " "++t=Str.join ⟨#[32]⟩ [Str.ofString "put",b,t]:=ë (by
 rw[xh,xh,xh,Ù];show ([112,117,116,32]++b.cps.toList++[32])++t.cps.toList=[112,117,116]++32::(b.cps.toList++32::t.cps.toList);simp)
def vis(b y t:Str):Str.ofString "put "++b++Str.ofString " on "++y++Str.ofString " "++t=Str.join ⟨#[32]⟩ [Str.ofString "put",b,Str.ofString "on",y,t]:=ë (by
 rw[xh,xh,xh,xh,xh,Ù];show (([112,117,116,32]++b.cps.toList++[32,111,110,32])++y.cps.toList++[32])++t.cps.toList=[112,117,116]++32::(b.cps.toList++32::([111,110]++32::(y.cps.toList++32::t.cps.toList)));simp)
def Ä(ws:Τ):(Str.join ⟨#[32]⟩ ws).length<=(ws.map λw:Str=>w.length).sum+ws.length:=by rw[<- PySem.StrLaws.glued_eq_join,PySem.size_glued];show _+(ws.length-1)*1<=_;omega
def ym8{P:qi Pd}(hj:j<P.length+2):∃x:Φ,(((P.map (·.nm)).map V.str)++[V.non,V.non])[j]?=some (baV x)/\(∀b,x=some b->∃r,r∈P/\r.nm=b)/\∃L,ToD P x L:=by
 rcases Nat.lt_or_ge j P.length with h|h
 .exists some P[j].nm,?_,λb e=>⟨P[j],bV h,bx e⟩,_,P[j],bV h,rfl,rfl;rw[cK (by rw[ba,ba];exact h),bi,bi,bc h];rfl
 .exists none,?_,(λb e=>nomatch e),[],rfl
  rw[cn (by rw[ba,ba];exact h),ba,ba];obtain e|e:j-P.length=0\/j-P.length=1:=()
  .rw[e];rfl
  .rw[e];rfl
def yg5(x y:Str):(x++y).length=x.length+y.length:=by rw[z9,xh,bd,<- z9,<- z9]
def ø{b:Str}(h:ĳ b.cps.toList):32∉b.cps.toList:=λz=>by
 have:=h 32 z;omega
def ykf(ts:Ρ):32∉(jx ts).cps.toList:=λz=>by
 rw[jn]at z;let⟨s,_,b⟩:=List.mem_flatMap.mp z
 have a:∀i:Nat,hxC i≠32:=λi=>by
  rcases Nat.lt_or_ge i 16 with h|h
  .exact(by right:∀i:Fin 16,hxC i.val≠32) ⟨i,h⟩
  .unfold hxC;rw[bI,bK (by rw[show hxS.cps.toList.length=16 by right];exact h)];decide
 rcases bq.mp b with e|e
 .exact a _ e.symm
 .exact a _ (bp.mp e).symm
#synth yak ["_law_desk","_law_pieces","_law_names_here","_law_cell","_law_text_here","_law_name","_law_there","_law_base"] ["_law_desk","_law_pieces","_law_names_here","_law_cell","_law_text_here"] yre
inductive ylr(K:z3)(a:Ads)(vs:Υ)(H:Hp)(Q:VK)(E':XK):Prop
 |mk(dk md nl t:z4)(C:Cf)(P:qi Pd)(X:Sx)(tu tx:Str->z4)(ns:Τ)(ts:Ρ)(c:Int)(B:Hp)(_:vs=[.ref dk,.ref md,.ref nl,.int c,.ref t])(_:K3 K a B H dk md C P X tu tx)(_:B nl=some (.lst (ns.map V.str)))(_:ns.length=6)(_:(∀x,x∈ns->OkL x))(_:0<=c)(_:j8 B t ts 12)(_:ts.length<=C.w)(_:(∀q,q∈P->q.nm∈ns))(_:∀P' Y tu' tx' H',K3 K a B H' dk md C P' Y tu' tx'->(∀q,q∈P'->q.nm∈ns)->Q (.bl true) H')
def yr7:vo P w K mg Γ CX0 18 a.Hn a.Ie ["_law_desk","_law_pieces","_law_names_here","_law_cell","_law_text_here"] (ylr K a):=by
 exists T.K4.F.ok,yak,W;let⟨dk,M,nl,t,C,P,X,N,tx,ns,J,c,B,rfl,h3,aF,n6,as,c0,ht,ax,ac,k⟩:=h;have aC:=h3.p.z;have an:(mdK N P).length=P.length:=ba _;refine yg (yt (i:=5) yak.nd rfl (Or.inl rfl) (xz xf (pv 2) (yo xk (yo vq (pv 3) yh) yh) (λF F=>rfl))) ?_;refine yg (yt (i:=6) yak.nd rfl (Or.inl rfl) (pcT (γ rfl) T.Ad (pa1 (pv 1)))) ?_;refine yg (v9 (yfe (yrv (É W) (pv 5) (pv 1))) (yf (v9 (yx ybs (pv 5) (yi8 (vx (js:=[]) (ys:=[]) rfl (yju (pv 1)) (λC s2 H2 fp=>(xz (r:=vgz K) jw (pv 0) yh (λF F=>rfl))) rfl rfl (hyc:=yy) (hrel:=yy))) (by with_unfolding_all rfl)) (yc (yn yay)) y7) (yf (yu (ydz (pv 1) (pv 5) ⟨rfl,rfl,rfl,rfl⟩)) (yc (yn (u7 xl (y8 (pv 0) T.Ak T.An.m (ì T) W.m T.An.B .nil vw (pa1 (yo vk vg (pv 5)))) vg (y9 _)))))) y7) ?_;refine yg (yt (i:=7) yak.nd rfl (Or.inl rfl) (xz xf (yo û (pv 6) (wy (pac uy (pa1 uy)))) (yo xk (yo vq (pv 3) yh) (yo wb (pcB yp T.A7 (pa1 (pv 6))) yh)) (λF F=>rfl))) ?_;refine yg (yao (É W) (pv 1) (pv 5) (uq (pac (pv 4) (pa1 (pv 7)))) rfl) ?_;refine yg (v9 (yx Ś (pv 7) uy (y9 _)) (yc (yn (u7 xl (y8 (pv 0) T.Ak T.An.m (ì T) W.m T.An.B .nil vw (pa1 (yo vk (yo vk (yo vk vg (pv 5)) vg) (xp (ĩ T) W.m T.Cc (pa1 (pv 4)))))) vg (y9 _)))) y7) ?_;exists _,(yc (yn (u7 xl (y8 (pv 0) T.Ak T.An.m (ì T) W.m T.An.B .nil vw (pa1 (yo vk (yo vk (yo vk (yo vk (yo vk vg (pv 5)) vg) (pv 7)) vg) (xp (ĩ T) W.m T.Cc (pa1 (pv 4)))))) vg (y9 _)))),?_;exists 5,3;obtain⟨j,hj,aH⟩:∃j:Nat,c/8%6=(j:Int)/\j<6:=⟨(c/8%6).toNat,(),()⟩;have ak:j<ns.length:=()
 ext;rw[hj];refine zr (v:=.str ns[j]) (SqL.of (h3.b.s _ _ aF)) (wo (by rw[bi,bc ak];rfl)) ?_;have ad:=bV ak;generalize ns[j]=b at ad⊢;have U:=as b ad;ext;exists M,_,rfl,h3.d,λth hth0=>?_;rw[yaj];exists hth0,H1,S1,hth1;have S:=h3.same S1;clear h3 hj;by_cases hp:b∈P.map (·.nm)
 .obtain⟨q,hq,rfl⟩:=bg.mp hp;ext;exists M,_,rfl,S.m.get hq,?_;ext;refine ν ?_;refine yok λF F F F F F=>?_;have a0:=S.d;refine vhz (∃u,u∈P/\u.bs=some q.nm) (∀u,u∈P->u.bs≠some q.nm) (λQb qT qF=>?_) (λF H2 S2=>?_) (λa9 H2 S2=>?_)
  .ext;exists M,mdK N P,rfl,a0,λo D2 a6=>?_;have aD:D2≠M:=λz=>by rw[z,ya]at a6;cases a6
   refine Ň (λi G=>G D2=some (.lst ((P.take i).map λq=>baV q.bs))/\yr (upd H1 M (.frz o (.dK (mdK N P)))) G) ⟨ya,yz a6⟩ (λi G F z=>z.2 _ _ ya) (λi kk v G az hi z=>?_) (λG z=>?_)
   .obtain⟨gD,SG⟩:=z;let⟨u,D,rfl,rfl⟩:=yo5 az;have aB:i<P.length:=(bv.mp D).1;have ay:=bB D;ext;refine Ł (SqT.of (((S.m.frz a0 o).same SG).t u ay).1) (wo (j:=1) rfl) ?_;refine x8 (n:=(mdK N P).length) gD (vh (by rw[ba,bU];omega)) hi ⟨?_,λy o e=>ye (yb e a6) (SG _ _ e)⟩;rw[ya,bY aB,(bv.mp D).2,bz];rfl
   let⟨gD,SG⟩:=z;rw[an,cg]at gD;exists M,o,.dK (mdK N P),(λo u e=>by rw[a0]at e;cases e),SG _ _ ya,?_
   have S2:yr H1 (upd G M (.dK (mdK N P))):=λc o' e=>by
    by_cases z:c=M
    .rw[z,ya];rw[z,a0]at e;exact e
    .exact ye z (SG _ _ (ye z e))
   exists D2,_,rfl,.inl (SqL.of (ye aD gD)),rfl,yns _,?_;rw[ytt];by_cases D:∃u,u∈P/\u.bs=some q.nm
   .rw[cP.mpr (let ⟨u,h1,h2⟩:=D;⟨u,h1,bn h2⟩)];exists _,rfl,qT D _ S2
   .have a9:∀u,u∈P->u.bs≠some q.nm:=λu h1 h2=>D ⟨u,h1,h2⟩;rw[List.any_eq_false.mpr λu h1=>by rw[bo (a9 u h1)];decide];exists _,rfl,qF a9 _ S2
  .ext;exact k P X N tx H2 (S.same S2) ac
  .have I:=S.same S2;let⟨dd,st,Z,me,hZ,nZ,eX⟩:=id I.s;ext;exists M,rfl,.inl ⟨_,.of I.d⟩,?_;ext;exists mdK N P,.inr q.nm,_,I.d,rfl,yk7 N hq,?_;rw[yn4];have b6:But M H2 (upd H2 M (.dK (mdK N (P.filter λr=>decide (r.nm≠q.nm))))):=But.upd;have a1:=I.s.but I.d rfl I.m.n b6;have aq:=I.b.but I.n b6;have ae:=I.m.drop I.d q.nm;have ab:upd H2 M (.dK (mdK N (P.filter λr=>decide (r.nm≠q.nm)))) M=some (.dK (mdK N (P.filter λr=>decide (r.nm≠q.nm)))):=ya;generalize upd H2 M (.dK (mdK N (P.filter λr=>decide (r.nm≠q.nm))))=H6 at a1 aq ae ab⊢;clear me hZ nZ eX;let⟨dd,st,Z,me,hZ,nZ,eX⟩:=id a1;have h8:=xq U.1.1;ext;exists _,_,rfl,rfl,wd (by show 5+_<=_;omega),?_;rw[show Str.ofString "drop "++q.nm=Str.join ⟨#[32]⟩ [Str.ofString "drop",q.nm]from yvz "drop" q.nm rfl];ext;exists dk,dd,_,[Str.ofString "drop",q.nm],rfl,me,λw O=>?_,?_,.inr (.inl ⟨_,_,rfl,λH7 S7=>⟨dk,C,P,X,_,_,rfl,a1.same S7,.drop U.1.1 (λno=>absurd rfl (no q hq)) (by rintro r W e ⟨u,D,eu⟩;exact absurd eu (a9 u D)) λr W e F Y H8 R g8=>?_⟩⟩)
   .rcases bq.mp O with rfl|O
    .decide+kernel
    .rw[bp.mp O];exact ø U.2
   .refine bF (Ä _) ?_;show 4+(q.nm.length+0)+2<=_;omega
   .ext;exists rfl,?_;rw[bn rfl];have ag:=g8.ahead S7;have ah:∀u,u∈P.filter (λr=>decide (r.nm≠q.nm))->u∈P:=λu D=>(cE.mp D).1;exact k _ Y N tx H8 ⟨R,aq.goW a1.wf ag,I.n,ae.goW a1.wf ag,(Kf.goW ⟨ab,ae.n⟩ a1.wf ag).1,⟨R.pw,bF (List.length_filter_le _ _) aC,λu D=>I.p.s u (ah u D)⟩,λu D=>I.o u (ah u D)⟩ λu D=>ac u (ah u D)
 .have a7:∀q,q∈P->q.nm≠b:=λq hq e=>hp (bg.mpr ⟨q,hq,e⟩);ext;exists M,_,rfl,S.m.getNo a7,?_;ext;refine jc ?_;refine ylg (by assumption) ?_;ext;exists by walk_at "len",λu hu0=>?_
  exists hu0,H2,S2,hu2;ext;exists th,u,_,_,rfl,rfl,S2 _ _ hth1,hu2,wd (by rw[ba,ba];show _+2<=_;omega),λz hz0=>?_;exists hz0,H3,S3,hz3;have aj:=S2.trans S3;have av:=S.same aj;ext;exists th,_,rfl,.inl (SqL.of (aj _ _ hth1)),?_;rw[ba,ba];ext
  obtain⟨i,hi,ao⟩:∃i:Nat,c/48%(((P.length:Nat):Int)+2)=(i:Int)/\i<P.length+2:=by
   have h0:=cA (c/48) (show ((P.length:Nat):Int)+2≠0 by omega);have h1:=cr (c/48) (show 0<((P.length:Nat):Int)+2 by omega);exists(c/48%(((P.length:Nat):Int)+2)).toNat,(),()
  rw[hi];let⟨x,hx,am,L,hL⟩:=ym8 ao;refine zr (SqL.of hz3) (wo hx) ?_;clear hi ao hx hz3 hu2 hu0 hz0 S;ext;exists by walk_at "len",λtt htt0=>?_
  exists htt0,H4,S4,htt4;have g:=av.same S4
  have aE:¬X.f tt:=λw=>by
   let⟨o,e⟩:=av.s.live tt w;rw[htt0]at e;cases e
  have au:Kf H4 X t (.lst (J.map V.int)):=⟨g.b.s _ _ ht.l,λw=>by have e:=ht.l;rw[g.b.n t w]at e;cases e⟩;ext;exists M,_,rfl,yli.k (k:=.inr b) g.d (vh (by rw[an];omega)),?_;rw[yu2 (q:=⟨b,x,L,J⟩) a7];have b5:But M H4 (upd H4 M (.dK (mdK (upS N b tt) (P++[⟨b,x,L,J⟩])))):=But.upd;have a2:=g.s.but g.d rfl g.m.n b5;have a8:=g.b.but g.n b5;have a3:=g.m.put (q:=⟨b,x,L,J⟩) g.d a7 ⟨htt4,aE⟩ au;have a4:upd H4 M (.dK (mdK (upS N b tt) (P++[⟨b,x,L,J⟩]))) M=some (.dK (mdK (upS N b tt) (P++[⟨b,x,L,J⟩]))):=ya;have a3:Mdl (upd H4 M (.dK (mdK (upS N b tt) (P++[⟨b,x,L,J⟩])))) X M (P++[⟨b,x,L,J⟩]) (upS N b tt) (upS tx b t):=a3;generalize upd H4 M (.dK (mdK (upS N b tt) (P++[⟨b,x,L,J⟩])))=H5 at a2 a8 a3 a4⊢;have h8:=xq U.1.1;have aw:=Ă J;have aJ:=ht.z
  have aA:∀{Y:Sx}{H6 H7 H8:Hp}{L2:Η},yr H5 H6->yr H6 H7->ToD P x L2->Dk K a H8 dk C (P++[⟨b,x,L2,J⟩]) Y->Gx X H7 H8 Y->Q (.bl true) H8:=λ{Y H6 H7 H8 L2}S6 S7 ai R g8=>by
   obtain rfl:=ToD.uniq g.p.w.nd ai hL;have af:=g8.ahead (S6.trans S7);have ap:∀u,u∈P++[(⟨b,x,L2,J⟩:Pd)]->u∈P\/u=⟨b,x,L2,J⟩:=λu D=>(bH.mp D).imp id bp.mp;have a5:∀u,u∈P++[(⟨b,x,L2,J⟩:Pd)]->u.nm∈ns:=λu D=>(ap u D).elim (ac u) λe=>by rw[e];exact ad
   refine k _ Y _ _ H8 ⟨R,a8.goW a2.wf af,g.n,a3.goW a2.wf af,(Kf.goW ⟨a4,a3.n⟩ a2.wf af).1,⟨R.pw,?_,λu D=>(ap u D).elim (g.p.s u) λe=>by rw[e];exact⟨ht.s,ht.z⟩⟩,λu D=>as _ (a5 u D)⟩ a5
   have e:=ydl R.pw.nd (m:=ns) λy hy=>by
    let⟨u,D,rfl⟩:=bg.mp hy;exact a5 u D
   rw[ba,n6]at e;exact e
  have al:∀y,x=some y->nmS y=true/\ĳ y.cps.toList:=λy e=>by
   let⟨r,W,e'⟩:=am y e;have:=g.o r W;rw[e']at this;exists this.1.1,this.2
  have aa:∀{H6 H7:Hp}{Q':VK}{E':XK},yr H5 H6->yr H6 H7->(∀H8,Q (.bl true) H8->Q' (.str (Str.ofString "ok")) H8)->ye7 K a [.ref dk,.str b,.str (jx J),baV x] H7 Q' E':=λ{H6 H7 Q' E'}S6 S7 q=>by
   exists dk,C,P,X,b,J,x,rfl,(a2.same S6).same S7,U.1,ht.s,ax,λy e=>(al y e).1,(),λ⟨r,W,e⟩=>absurd e (a7 r W),λF y e no=>?_,λF L2 ai Y H8 R g8=>q H8 (aA S6 S7 ai R g8)
   let⟨r,W,e'⟩:=am y e;exact absurd e' (no r W)
  let⟨dd,st,Z,me,hZ,nZ,eX⟩:=id a2;have ar:=a8.s _ _ ht.l;clear au a3 a4 a8 b5
  cases x with
  |none =>
   refine ylg (by assumption) ?_;ext;refine zn (λF=>?_) (λz=>absurd rfl z);ext;exists _,_,rfl,rfl,wd (by show 4+_<=_;omega),?_;ext;exists _,_,rfl,rfl,wd (by rw[yg5];show 4+_+1<=_;omega),?_;ext;exists t,J,rfl,SqL.of ar,ht.s,(),λH6 S6=>?_
   exists _,_,rfl,rfl,wd (by rw[yg5,yg5,aw];show 4+_+1+_<=_;omega),?_;rw[vh6];ext;exists dk,dd,_,_,rfl,S6 _ _ me,λw O=>?_,?_,.inr (.inr (.inl ⟨b,jx J,rfl,λH7 S7=>aa S6 S7 λH8 q=>?_⟩))
   .rcases bq.mp O with rfl|O
    .decide+kernel
    rcases bq.mp O with rfl|O
    .exact ø U.2
    .rw[bp.mp O];exact ykf J
   .refine bF (Ä _) ?_;show 3+(b.length+((jx J).length+0))+3<=_;omega
   .ext;exists rfl,?_;rw[bn rfl];exact q
  |some y =>
   have hy:=al y rfl;have aK:=xq hy.1;refine ylg (by assumption) ?_;ext
   refine zn (λz=>nomatch z) (λF=>?_)
   refine ylg (by assumption) ?_;ext;exists _,_,rfl,rfl,wd (by show 4+_<=_;omega),?_;ext;exists _,_,rfl,rfl,wd (by rw[yg5];show 4+_+4<=_;omega),?_;ext;exists _,_,rfl,rfl,wd (by rw[yg5,yg5];show 4+_+4+_<=_;omega),?_;ext;exists _,_,rfl,rfl,wd (by rw[yg5,yg5,yg5];show 4+_+4+_+1<=_;omega),?_;ext;exists t,J,rfl,SqL.of ar,ht.s,(),λH6 S6=>?_
   exists _,_,rfl,rfl,wd (by rw[yg5,yg5,yg5,yg5,aw];show 4+_+4+_+1+_<=_;omega),?_;rw[vis];ext;exists dk,dd,_,_,rfl,S6 _ _ me,λw O=>?_,?_,.inr (.inr (.inr ⟨b,y,jx J,rfl,λH7 S7=>aa S6 S7 λH8 q=>?_⟩))
   .rcases bq.mp O with rfl|O
    .decide+kernel
    rcases bq.mp O with rfl|O
    .exact ø U.2
    rcases bq.mp O with rfl|O
    .decide+kernel
    rcases bq.mp O with rfl|O
    .exact ø hy.2
    .rw[bp.mp O];exact ykf J
   .refine bF (Ä _) ?_;show 3+(b.length+(2+(y.length+((jx J).length+0))))+5<=_;omega
   .ext;exists rfl,?_;rw[bn rfl];exact q
#synth È ["_law_looks_here","_law_pieces","_law_text_here","_law_found","_law_least","_law_name","_law_size"] ["_law_looks_here","_law_pieces","_law_text_here"] you
inductive ymo(K:z3)(vs:Υ)(H:Hp)(Q:VK)(E':XK):Prop
 |mk(lo md t:z4)(C:Cf)(P:qi Pd)(X:Sx)(lk tp:Μ)(tu tx:Str->z4)(ts:Ρ)(_:vs=[.ref lo,.ref md,.ref t])(_:H lo=some (.lst (refs lk C.n)))(_:1<=C.n)(_:C.n<=6)(_:x9 H C.n lk C.kd tp C.ps)(_:Mdl H X md P tu tx)(_:H md=some (.dK (mdK tu P)))(_:PdS P)(_:j8 H t ts 12)(_:∀H',yr H H'->Q (.str ((ò C P ts).getD (Str.ofString "-"))) H')
def yuj:vo P w K mg Γ CX0 9 a.Hr a.Ih ["_law_looks_here","_law_pieces","_law_text_here"] (ymo K):=by
 exists T.K7.F.ok,È,hr;let⟨lo,p,t,C,P,X,Z,tp,B,tx,f,rfl,L,n1,n6,hR,hM,J,Y,S,k⟩:=h;have a9:=S.z;have ab:=Y.z;refine yg (yt (i:=3) È.nd rfl (Or.inl rfl) vg) ?_;refine yg (yt (i:=4) È.nd rfl (Or.inl rfl) (pcB yp T.A7 (pa1 (Å (ykc T) hr.m rfl T.Jo T.Fl.kp T.Jn .nil vn (pac (pv 0) (pac (pv 2) (pa1 (wy ur)))))))) ?_;refine yg (yiy (uk PassesOwn.never rfl (ysd (pv 1)) (vy (i:=5) È.nd rfl (Or.inl rfl)) (yf (yt (i:=6) È.nd rfl (Or.inl rfl) (pcB yp T.A7 (pa1 (Å (ykc T) hr.m rfl T.Jo T.Fl.kp T.Jn .nil vn (pac (pv 0) (pac (pv 2) (pa1 (xp (yi4 T) hr.m T.Fb (pac (pv 1) (pa1 (pv 5))))))))))) (yc (v9 (yx yaw (pv 6) (pv 4) (y9 _)) (yf (yt (i:=4) È.nd rfl (Or.inl rfl) (pv 6)) (yc (yt (i:=3) È.nd rfl (Or.inl rfl) (pv 5)))) y7))))) ?_;exists 3,4,yc (yn (pv 3));exists by walk_at "len",λle hle0=>?_
 exists hle0,H1,S1,hle1;ext;exists lo,t,.ref le,C.n,Z,C.kd,tp,C.ps,f,0,12,λl=>0,λl=>[],rfl,⟨S1 _ _ L,n1,n6,hR.same S1,⟨S1 _ _ S.l,S.s,()⟩,⟨.inr ⟨le,rfl,hle1⟩,λi hi=>absurd hi (bD i)⟩,∅,∅,()⟩,(),λr H2 a2 I S2=>?_
 ext;refine u5 (SqL.of I) ?_;rw[ba];have y:=S1.trans S2;have j:=y _ _ J;have a6:=hM.same y;ext;exists p,mdK B P,rfl,j,λo=>?_;refine ym6 (o:=o) (d:=p) (kvs:=mdK B P) (λi σ2 F=>∃(b:Φ)(m:Nat)(U W:Ψ),σ2=[some (.ref lo),some (.ref p),some (.ref t),some (.str (b.getD (Str.ofString "-"))),some (.int (m:Nat)),U,W]/\yr (upd H2 p (.frz o (.dK (mdK B P)))) F/\bsF (szD C f) (P.drop i) b m=ò C P f)
  ⟨none,_,none,none,rfl,λl l e=>e,rfl⟩ ?_ ?_ ?_
 .rintro i σ2 F _ ⟨b,m,U,W,rfl,D,g⟩;exact D _ _ ya
 .rintro i kk v σ2 F a3 ⟨b,m,U,W,rfl,D,g⟩;let⟨q,hq,rfl,rfl⟩:=yo5 a3;have a4:i<P.length:=(bv.mp hq).1;have a0:=bB hq;rw[cM a4,(bv.mp hq).2]at g;have R:=(a6.frz j o).same D;have G:ToD P (some q.nm) (q.path++[(q.nm,q.tx)]):=⟨q,a0,rfl,rfl⟩;have a8:=G.len Y.w;have nb:∀{c:z4}{u:HO},yr2 u=false->H c=some u->F c=some u:=λ{c u}hu e=>D _ _ (ye (λz=>by rw[z,J]at e;cases e;cases hu) (y _ _ e));ext;exists p,P,X,B,tx,some q.nm,q.path++[(q.nm,q.tx)],rfl,R,Y.w,(),G,λln F1 a7 O N=>?_
  ext;exists lo,t,.ref ln,C.n,Z,C.kd,tp,C.ps,f,(q.path++[(q.nm,q.tx)]).length,12,_,_,rfl,⟨N _ _ (nb rfl L),n1,n6,hR.fr λx xs e=>N _ _ (nb rfl e),⟨N _ _ (nb rfl S.l),S.s,()⟩,Y.lr G (R.same N) O,∅,(),()⟩,(),λr F2 a2 I T2=>?_
  ext;refine u5 (SqL.of I) ?_;rw[ba,Ï];ext;have g:(if szD C f q<m then bsF (szD C f) (P.drop (i+1)) (some q.nm) (szD C f q)else bsF (szD C f) (P.drop (i+1)) b m)=ò C P f:=g;have M:=D.trans (N.trans T2);by_cases hlt:szD C f q<m
  .rw[if_pos hlt]at g;refine zn (λl=>?_) (λz=>absurd (show ((szD C f q:Nat):Int)<(m:Int) by omega) z);ext;exists some q.nm,szD C f q,_,_,rfl,M,g
  .rw[if_neg hlt]at g;refine zn (λz=>absurd (show ((szD C f q:Nat):Int)<(m:Int)from z) ()) (λl=>?_);exists b,m,_,_,rfl,M,g
 .rintro σ2 F ⟨b,m,U,W,rfl,D,g⟩;have a1:(mdK B P).length=P.length:=ba _;rw[a1,List.drop_length]at g;exists p,o,.dK (mdK B P),(λo u e=>by rw[j]at e;cases e),D _ _ ya,?_
  have S3:yr H (upd F p (.dK (mdK B P))):=λc o' e=>by
   by_cases z:c=p
   .rw[z,ya];rw[z,J]at e;exact e
   .exact ye z (D _ _ (ye z (y _ _ e)))
  ext;rw[show b=ò C P f from g];exact k _ S3
def ve1(C:Cf)(q:Pd):qi (qi Str×Str):=[([Str.ofString "get",q.nm],jx q.tx),([Str.ofString "bytes",q.nm],jx (q.by C)),([Str.ofString "cost",q.nm],toString (ycg C q)),([Str.ofString "base",q.nm],q.bs.getD (Str.ofString "-"))]
def ń(C:Cf)(P:qi Pd)(so:Ρ):qi (qi Str×Str) :=
 [([Str.ofString "names"],Str.join ⟨#[32]⟩ (P.map (·.nm))),([Str.ofString "best",jx so],(ò C P so).getD (Str.ofString "-"))]++P.getLast?.elim [] (ve1 C)
structure DuA(H:Hp)(l:z4)(tw:Μ)(D:qi (qi Str×Str)):Prop where
 l:H l=some (.lst (refs tw D.length))
 t:∀i d,D[i]?=some d->H (tw i)=some (.tup [.str (Str.join ⟨#[32]⟩ d.1),.str d.2])
def DuA.same{H H':Hp}{l:z4}{tw:Μ}{D:qi (qi Str×Str)}(h:DuA H l tw D)(S:yr H H'):DuA H' l tw D:=⟨S _ _ h.l,λi d e=>S _ _ (h.t i d e)⟩
def DuA.snoc{H:Hp}{l p:z4}{tw:Μ}{D:qi (qi Str×Str)}(h:DuA H l tw D)(d:qi Str×Str)(hp:H p=some (.tup [.str (Str.join ⟨#[32]⟩ d.1),.str d.2])):DuA (upd H l (.lst (refs tw D.length++[.ref p]))) l (upN tw D.length p) (D++[d]):=by
 exists ?_,λi e a=>?_
 .rw[ya,bd,bX,x0,wq]
  congr 3
  exact xv λj f=>(wj f).symm
 .by_cases z:i<D.length
  .rw[cK z]at a;rw[wj z];exact ye (λq=>by have b:=h.t i e a;rw[q,h.l]at b;cases b) (h.t i e a)
  .have c:i=D.length:=by
    have:=(bv.mp a).1;rw[bd,bX]at this;omega
   subst c;rw[List.getElem?_concat_length]at a;cases a;rw[wq];exact ye (λq=>by rw[q,h.l]at hp;cases hp) hp
def yna(P:qi Pd):ya0 ((P.map (·.nm)).map V.str) (some (-1)) none=P.getLast?.elim [] λq=>[.str q.nm]:=by
 have e:∀a:Υ,ya0 a (some (-1)) none=a.drop (a.length-1):=λa=>by
  unfold ya0;rw[HT.sIx_none,show HT.sIx a.length 0 (some (-1))=a.length-1 by unfold HT.sIx;simp;omega];exact bZ (by rw[cu];omega)
 rw[e]
 cases h:P.getLast? with
 |none=>rw[List.getLast?_eq_none_iff.mp h];rfl
 |some q =>
  let⟨A,rfl⟩:=List.getLast?_eq_some_iff.mp h;rw[bz,bz];simp
def yjb{C:Cf}{q:Pd}(n1:1<=C.n)(n6:C.n<=6)(hz:q.tx.length<=12):(ycg C q).natAbs.log2<1920:=by
 obtain⟨g1,g2⟩:1<=ï (zt C.n C.kd C.ps (Ê (q.path.map (·.2))) q.tx) (vv q.tx) (dec q.tx).length/\ï (zt C.n C.kd C.ps (Ê (q.path.map (·.2))) q.tx) (vv q.tx) (dec q.tx).length<=16777216^(dec q.tx).length:=yac _ λj Z=>Ħ n1 n6 (zg _) j;have d:=xr q.tx;unfold ycg yvj;generalize (dec q.tx).length=m at*;generalize ï _ _ m=G at*;have b:=ō g1 g2
 have e:Builtin.Int.intBits G=G.natAbs.log2+1:=by
  show (if G == 0 then 0 else G.natAbs.log2+1)=_;rw[if_neg (by simp;omega)]
 have c:=(Nat.log2_lt (show G.natAbs≠0 by omega)).mpr b;rw[e];generalize f:Int.natAbs _=N
 have a:N<2^12:=by
  show N<4096;omega
 by_cases z:N=0
 .rw[z];decide
 .have:=(Nat.log2_lt z).mpr a;omega
#synth î ["_law_looks_here","_law_pieces","_law_sought","_law_dues_here","_law_name","_law_text_here","_law_base","_law_learned_here"] ["_law_looks_here","_law_pieces","_law_sought"] ypw
inductive yn1(K:z3)(vs:Υ)(H:Hp)(Q:VK)(E':XK):Prop
 |mk(lo md t:z4)(C:Cf)(P:qi Pd)(X:Sx)(lk tp:Μ)(tu tx:Str->z4)(so:Ρ)(_:vs=[.ref lo,.ref md,.ref t])(_:H lo=some (.lst (refs lk C.n)))(_:1<=C.n)(_:C.n<=6)(_:x9 H C.n lk C.kd tp C.ps)(_:Mdl H X md P tu tx)(_:H md=some (.dK (mdK tu P)))(_:PdS P)(_:(∀q,q∈P->okN q.nm))(_:j8 H t so 12)(_:∀l tw H',H l=none->DuA H' l tw (ń C P so)->yr H H'->Q (.ref l) H')
def yu5:vo P w K mg Γ CX0 11 a.Ho a.If ["_law_looks_here","_law_pieces","_law_sought"] (yn1 K):=by
 exists T.K5.F.ok,î,W;let⟨lo,md,t,C,P,X,lk,tp,tu,M,I,rfl,a4,n1,n6,hR,hM,a9,O,aj,ht,k⟩:=h;have aA:=ht.z;have ay:=O.z;have ar:=Ă I;refine yg (yt (i:=3) î.nd rfl (Or.inl rfl) (wy (pac (uq (pac vg (pa1 (ug PySem.F.plainAttrs_str PySem.F.slot_str_join PySem.F.type_str_join Ą vg (pa1 (pcT (γ rfl) T.Ad (pa1 (pv 1)))))))) (pa1 (uq (pac (yo vk vg (xp (ĩ T) W.m T.Cc (pa1 (pv 2)))) (pa1 (xp (yuj T) W.m T.K7 (pac (pv 0) (pac (pv 1) (pa1 (pv 2)))))))))))) ?_;refine yg (uk PassesOwn.never rfl (we (xw z8 (pcT (γ rfl) T.Ad (pa1 (pv 1))) (uv (yvl yk0 yh)) uu)) (vy (i:=4) î.nd rfl (Or.inl rfl)) (yf (yzp (Ç (É W) (pv 1) (pv 4) (λm m=>rfl)) (ù rfl (xa (vy (i:=5) î.nd rfl (Or.inl rfl)) (xa (vy (i:=6) î.nd rfl (Or.inl rfl)) j4)))) (yf (yt (i:=7) î.nd rfl (Or.inl rfl) (xp (yi4 T) W.m T.Fb (pac (pv 1) (pa1 (pv 6))))) (yf (yu (ug PySem.F.plainAttrs_list PySem.F.slot_list_append PySem.F.type_list_append wk (pv 3) (pa1 (uq (pac (yo vk vg (pv 4)) (pa1 (xp (ĩ T) W.m T.Cc (pa1 (pv 5))))))))) (yf (yu (ug PySem.F.plainAttrs_list PySem.F.slot_list_append PySem.F.type_list_append wk (pv 3) (pa1 (uq (pac (yo vk vg (pv 4)) (pa1 (xp (ĩ T) W.m T.Cc (pa1 (Å (ykc T) W.m rfl T.Jo T.Fl.kp T.Jn .nil vn (pac (pv 0) (pac (pv 5) (pa1 (pv 7))))))))))))) (yf (yu (ug PySem.F.plainAttrs_list PySem.F.slot_list_append PySem.F.type_list_append wk (pv 3) (pa1 (uq (pac (yo vk vg (pv 4)) (pa1 (pcT ó T.Di (pa1 (Å (yoq T) W.m rfl T.Qo T.Jm.kp T.Qn .nil vn (pac (pv 0) (pac (pv 5) (pa1 (pv 7))))))))))))) (yc (v9 (yx Ś (pv 6) uy (y9 _)) (yc (yu (ug PySem.F.plainAttrs_list PySem.F.slot_list_append PySem.F.type_list_append wk (pv 3) (pa1 (uq (pac (yo vk vg (pv 4)) (pa1 vg))))))) (yc (yu (ug PySem.F.plainAttrs_list PySem.F.slot_list_append PySem.F.type_list_append wk (pv 3) (pa1 (uq (pac (yo vk vg (pv 4)) (pa1 (pv 6)))))))))))))))) ?_;exists 3,5,yc (yn (pv 3));exists rfl,?_;ext;exists md,_,rfl,a9,λkl hkl0=>?_;rw[yaj];exists hkl0,H1,S1,hkl1;have au:=ydg λq hq=>xq (aj q hq).1;exists⟨#[32]⟩,kl,P.map (·.nm),rfl,rfl,SqL.of hkl1,by rw[ba];show _+P.length*1<=_;omega,?_
 ext;exists by walk_at "len",λp1 hp10=>?_
 exists hp10,H2,S2,hp12;have ab:=S1.trans S2;ext;exists t,I,rfl,SqL.of (ab _ _ ht.l),ht.s,(),λH3 S3=>?_
 exists _,_,rfl,rfl,wd (by rw[ar];show 5+_<=_;omega),?_;rw[show Str.ofString "best "++jx I=Str.join ⟨#[32]⟩ [Str.ofString "best",jx I]from yvz "best" _ rfl];have g:=ab.trans S3;ext;exists lo,md,t,C,P,X,lk,tp,tu,M,I,rfl,g _ _ a4,n1,n6,hR.same g,hM.same g,g _ _ a9,O,ht.same g,λH4 S4=>?_;ext;exists by walk_at "len",λp2 hp20=>?_
 exists hp20,H5,S5,hp25;ext;exists by walk_at "len",λf hld0=>?_
 exists hld0,H6,S6,hld6;have al:=g.trans (S4.trans (S5.trans S6));have ad:=S6 _ _ (S5 _ _ (S4 _ _ (S3 _ _ hp12)));have af:=S6 _ _ hp25;have a0:H f=none:=g.free (S4.free (S5.free hld0));clear ab g S1 S2 S3 S4 S5 S6 hkl0 hkl1 hp10 hp12 hp20 hp25 hld0;ext;exists md,_,rfl,al _ _ a9,λkl hkl0=>?_;rw[yaj];exists hkl0,H7,S7,hkl7;ext;refine ŀ (SqL.of hkl7) λv Z=>?_;rw[yna];have S8:yr H7 (upd H7 v (.lst (P.getLast?.elim [] λq=>[V.str q.nm]))):=yz Z;have j:upd H7 v (.lst (P.getLast?.elim [] λq=>[V.str q.nm])) v=_:=ya;generalize upd H7 v (.lst (P.getLast?.elim [] λq=>[V.str q.nm]))=H8 at S8 j⊢;have R:=S7.trans S8;have ao:=al.trans R
 have d8:DuA H8 f (λi=>if i=0 then p1 else p2) [([Str.ofString "names"],Str.join ⟨#[32]⟩ (P.map (·.nm))),([Str.ofString "best",jx I],(ò C P I).getD (Str.ofString "-"))]:=by
  exists R _ _ hld6,λi d e=>?_
  match i,e with
  |0,e=>cases e;exact R _ _ ad
  |1,e=>cases e;exact R _ _ af
 exists v,rfl,⟨_,SqL.of j⟩,xx (K:=K) (a:=v) (xs:=P.getLast?.elim [] λq=>[.str q.nm]) (λi σ2 G=>∃(tw:Μ)(v4 v5 v6 v7:Ψ),σ2=[some (.ref lo),some (.ref md),some (.ref t),some (.ref f),v4,v5,v6,v7]/\DuA G f tw ([([Str.ofString "names"],Str.join ⟨#[32]⟩ (P.map (·.nm))),([Str.ofString "best",jx I],(ò C P I).getD (Str.ofString "-"))]++if i=0 then []else P.getLast?.elim [] (ve1 C))/\yr H G/\G v=H8 v) ⟨_,_,_,_,_,rfl,d8,ao,rfl⟩ (by rintro i σ2 G _ ⟨_,_,_,_,_,_,_,_,z⟩;exact SqL.of (z.trans j)) ?_ ?_
 .rintro i x σ2 G hx ⟨tw,v4,v5,v6,v7,rfl,dG,SG,gk⟩
  cases hl:P.getLast? with
  |none=>rw[hl]at hx;cases hx
  |some q =>
   rw[hl]at hx
   cases i with
   |succ i=>cases hx
   |zero =>
    cases hx;have p:=List.mem_of_getLast? hl;have hq:=O.s q p;have aD:=xq (aj q p).1;have L:=O.w.wf q p;have aC:=L.len O.w;have N:=hM.same SG;ext;exists md,_,rfl,N.get p,?_;ext;refine ü (SqT.of (N.t q p).1) rfl ?_;ext;exists md,P,X,tu,M,q.bs,q.path,rfl,N,O.w,(),L,λln G1 J a1 T1=>?_
    have B:=dG.same T1;have Y:=SG.trans T1;have ah:=N.same T1;have aq:ln≠f:=λz=>by rw[z]at J;rw[dG.l]at J;cases J
    have ak:v≠f:=λz=>by have e:=S7 _ _ hld6;rw[<- z,Z]at e;cases e
    have ag:G1 v=H8 v:=by rw[j]at gk⊢;exact T1 _ _ gk
    have ac:=O.lr L ah a1;have nx:∀{c:z4}{o:HO},H c=some o->c≠f:=λe z=>by rw[z,a0]at e;cases e
    have ae:=(ah.x q p).1;have an:M q.nm≠f:=nx (hM.x q p).1;generalize hD:([([Str.ofString "names"],Str.join ⟨#[32]⟩ (P.map (·.nm))),([Str.ofString "best",jx I],(ò C P I).getD (Str.ofString "-"))]:qi (qi Str×Str))=D at B⊢;have B:DuA G1 f tw D:=by rw[if_pos rfl,cO]at B;exact B
    have ap:D.length=2:=by rw[<- hD];rfl
    ext;refine u8 B.l ?_;ext;exists _,_,rfl,rfl,wd (by show 4+_<=_;omega),?_;rw[show Str.ofString "get "++q.nm=Str.join ⟨#[32]⟩ [Str.ofString "get",q.nm]from yvz "get" _ rfl];ext;exists M q.nm,q.tx,rfl,SqL.of ae,hq.1,(),λG2 T2=>?_
    ext;exists by walk_at "len",λw1 hw10=>?_
    exists hw10,G3,T3,hw13;have a5:=T2.trans T3;have d3:=B.same a5;ext;refine w9 d3.l (vh (by rw[vi];omega)) ?_;have d4:=d3.snoc ([Str.ofString "get",q.nm],jx q.tx) hw13;have b4:But f G1 (upd G3 f (.lst (refs tw D.length++[.ref w1]))):=λz o e ne=>ye ne (a5 _ _ e);generalize upd G3 f (.lst (refs tw D.length++[.ref w1]))=G4 at d4 b4⊢;clear T2 T3 a5 hw10 hw13 d3;generalize upN tw D.length w1=aa at d4;generalize a3:D++[([Str.ofString "get",q.nm],jx q.tx)]=D2 at d4;have av:D2.length=3:=by rw[<- a3,bd,ap];rfl
    ext;refine u8 d4.l ?_;ext;exists _,_,rfl,rfl,wd (by show 6+_<=_;omega),?_;rw[show Str.ofString "bytes "++q.nm=Str.join ⟨#[32]⟩ [Str.ofString "bytes",q.nm]from yvz "bytes" _ rfl];ext
    have tl:∀{F:Hp},But f G1 F->vew F lo (M q.nm) (.ref ln) C.n lk C.kd tp C.ps q.tx q.path.length 12 (lnA M q.path) (txi q.path):=λ{F}b =>
     ⟨b _ _ (Y _ _ a4) (nx a4),n1,n6,hR.fr λx xs e=>b _ _ (Y _ _ e) (nx e),⟨b _ _ ae an,hq.1,()⟩,⟨.inr ⟨ln,rfl,by rw[<- ye1];exact b _ _ a1 aq⟩,λi hi=>by
      let⟨r,W,h1,_⟩:=L.at O.w hi;have e:=(hM.ln O.w L hi).1;exact⟨b _ _ (Y _ _ e) (nx e),(ac.2 i hi).s,(ac.2 i hi).z⟩⟩,∅,(),()⟩
    exists lo,M q.nm,.ref ln,C.n,lk,C.kd,tp,C.ps,q.tx,q.path.length,12,_,_,rfl,tl b4,(),λr G5 aB ai T5=>?_
    rw[Ï]at ai;have ho:(q.by C).length<=5500:=ā n1 n6 (zg _) ();ext;exists r,q.by C,rfl,SqL.of ai,ř _,(),λG6 T6=>?_
    have am:=T5.trans T6;ext;exists by walk_at "len",λu hu0=>?_
    exists hu0,uG,uT,hu3;have a2:=am.trans uT;have ud:=d4.same a2;ext;refine w9 ud.l (vh (by rw[vi];omega)) ?_;have uD:=ud.snoc ([Str.ofString "bytes",q.nm],jx (q.by C)) hu3;have ub:But f G1 (upd uG f (.lst (refs aa D2.length++[.ref u]))):=λz o e ne=>ye ne (a2 _ _ (b4 _ _ e ne));generalize upd uG f (.lst (refs aa D2.length++[.ref u]))=uF at uD ub⊢;clear am uT a2 hu0 hu3 ud;generalize upN aa D2.length u=ut at uD;generalize a7:D2++[([Str.ofString "bytes",q.nm],jx (q.by C))]=uL at uD;have az:uL.length=4:=by rw[<- a7,bd];show _+1=_;omega
    ext;refine u8 uD.l ?_;ext;exists _,_,rfl,rfl,wd (by show 5+_<=_;omega),?_;rw[show Str.ofString "cost "++q.nm=Str.join ⟨#[32]⟩ [Str.ofString "cost",q.nm]from yvz "cost" _ rfl];ext;exists lo,M q.nm,.ref ln,C.n,lk,C.kd,tp,C.ps,q.tx,q.path.length,12,_,_,rfl,tl ub,λG7 T7=>?_;rw[Ï];ext;exists _,rfl,yjb n1 n6 hq.2,?_;ext;exists by walk_at "len",λc hc0=>?_
    exists hc0,cG,cT,hc3;have a6:=T7.trans cT;have cd:=uD.same a6;ext;refine w9 cd.l (vh (by rw[vi];omega)) ?_;have U:=cd.snoc ([Str.ofString "cost",q.nm],toString (ycg C q)) hc3;have cb:But f G1 (upd cG f (.lst (refs ut uL.length++[.ref c]))):=λz o e ne=>ye ne (a6 _ _ (ub _ _ e ne));generalize upd cG f (.lst (refs ut uL.length++[.ref c]))=cF at U cb⊢;clear T7 cT a6 hc0 hc3 cd;generalize upN ut uL.length c=ct at U;generalize a8:uL++[([Str.ofString "cost",q.nm],Str.ofString (toString (ycg C q)))]=cL at U;have ax:cL.length=5:=by rw[<- a8,bd];show _+1=_;omega
    have Sg:∀{F F2:Hp}{o:HO},But f G1 F->yr F F2->yr H (upd F2 f o)/\upd F2 f o v=H8 v:=λb S=>⟨λx o e=>ye (nx e) (S _ _ (b _ _ (Y _ _ e) (nx e))),by rw[j]at ag⊢;exact ye ak (S _ _ (b _ _ ag ak))⟩;ext
    cases hb:q.bs with
    |none =>
     refine zn (λm=>?_) (λz=>absurd rfl z);ext;refine u8 U.l ?_;ext;exists _,_,rfl,rfl,wd (by show 5+_<=_;omega),?_;rw[show Str.ofString "base "++q.nm=Str.join ⟨#[32]⟩ [Str.ofString "base",q.nm]from yvz "base" _ rfl];ext;exists by walk_at "len",λw hw0=>?_
     exists hw0,wG,wT,hw3;ext;refine w9 (U.same wT).l (vh (by rw[vi];omega)) ?_;have wD:=(U.same wT).snoc ([Str.ofString "base",q.nm],q.bs.getD (Str.ofString "-")) (by rw[hb];exact hw3);have wS:=Sg (o:=.lst (refs ct cL.length++[.ref w])) cb wT;subst a8 a7 a3 hD;exists _,_,_,_,_,rfl,wD,wS.1,wS.2
    |some y =>
     refine zn (λz=>nomatch z) (λm=>?_)
     ext;refine u8 U.l ?_;ext;exists _,_,rfl,rfl,wd (by show 5+_<=_;omega),?_;rw[show Str.ofString "base "++q.nm=Str.join ⟨#[32]⟩ [Str.ofString "base",q.nm]from yvz "base" _ rfl];ext;exists by walk_at "len",λw hw0=>?_
     exists hw0,wG,wT,hw3;ext;refine w9 (U.same wT).l (vh (by rw[vi];omega)) ?_;have wD:=(U.same wT).snoc ([Str.ofString "base",q.nm],q.bs.getD (Str.ofString "-")) (by rw[hb];exact hw3);have wS:=Sg (o:=.lst (refs ct cL.length++[.ref w])) cb wT;subst a8 a7 a3 hD;exists _,_,_,_,_,rfl,wD,wS.1,wS.2
 .rintro σ2 G ⟨tw,v4,v5,v6,v7,rfl,dG,SG,gk⟩;ext;refine k f tw G a0 ?_ SG
  cases h:P.getLast? with
  |none=>rw[h]at dG;unfold ń;rw[h];exact dG
  |some q=>rw[h]at dG;unfold ń;rw[h];exact dG
def K3.due{B H:Hp}{dk:z4}{C:Cf}{P:qi Pd}{X:Sx}{tx:Str->z4}{so:Ρ}{d:qi Str×Str}{Q:VK}{E:XK}(h:K3 K a B H dk md C P X tu tx)(n1:1<=C.n)(n6:C.n<=6)(hs:Sgs so)(hz:so.length<=C.mo)(hz2:so.length<=12)(hd:d∈ń C P so)(k:∀Y H',K3 K a B H' dk md C P Y tu tx->Q (.str d.2) H'):ykz K a [.ref dk,.str (Str.join ⟨#[32]⟩ d.1)] H Q E:=by
 let⟨I,R,Z,F,J,n,U⟩:=h.s
 have f:∀{v b:Str},32∉v.cps.toList->32∉b.cps.toList->v.length<=5->b.length<=100->(∀j,yr H j->SW K a j dk C P X Q E b v)->ykz K a [.ref dk,.str (Str.join ⟨#[32]⟩ [v,b])] H Q E:=λ{v b}N L O S g=>by
  exists dk,I,_,[v,b],rfl,F,λw t=>?_,?_,.inr (.inl ⟨v,b,rfl,λj c=>⟨dk,C,P,X,v,b,rfl,h.s.same c,g j c⟩⟩)
  .rcases bq.mp t with rfl|t
   .exact N
   .rw[bp.mp t];exact L
  .refine bF (Ä _) ?_;show (v.length+(b.length+0))+2<=_;omega
 have M:=Ă so;rcases bH.mp hd with hd|hd
 .rcases bq.mp hd with rfl|hd
  .exists dk,I,_,[Str.ofString "names"],rfl,F,λw t=>by rw[bp.mp t];decide,bF (Ä _) ∅,.inl ⟨_,rfl,λj c=>⟨dk,C,P,X,_,rfl,h.s.same c,.inl ⟨rfl,λi u=>k X i (h.same (c.trans u))⟩⟩⟩
  .rw[bp.mp hd];exact f ∅ (ykf so) ∅ () λj c=>.best so rfl hs hz λY i x g2=>by rw[bp.mp hd]at k;exact k Y i ((h.same c).go x g2)
 .cases hl:P.getLast? with
  |none=>rw[hl]at hd;cases hd
  |some q =>
   rw[hl]at hd;have D:=List.mem_of_getLast? hl;have m:=h.o q D;have T:=xq m.1.1;have A:∀{r:Pd},r∈P->r.nm=q.nm->r=q:=λl e=>ŝ J.nd l D e;have y:∀{G:Prop},(∀r,r∈P->r.nm≠q.nm)->G:=λz=>absurd rfl (z q D);have hd:d∈ve1 C q:=hd;unfold ve1 at hd;rcases bq.mp hd with rfl|hd
   .exact f ∅ (ø m.2) ∅ () λj c=>.get m.1.1 (λz=>y z) λr l e Y i x g2=>by obtain rfl:=A l e;exact k Y i ((h.same c).go x g2)
   rcases bq.mp hd with rfl|hd
   .exact f ∅ (ø m.2) ∅ () λj c=>.bytes m.1.1 (λz=>y z) λr l e i u=>by obtain rfl:=A l e;exact k X i (h.same (c.trans u))
   rcases bq.mp hd with rfl|hd
   .exact f ∅ (ø m.2) ∅ () λj c=>.cost m.1.1 (λz=>y z) λr l e=>by obtain rfl:=A l e;exists yjb n1 n6 (h.p.s _ l).2,λY i x g2=>k Y i ((h.same c).go x g2)
   .obtain rfl:=bp.mp hd;exact f ∅ (ø m.2) ∅ () λj c=>.bas m.1.1 (λz=>y z) λr l e i u=>by obtain rfl:=A l e;exact k X i (h.same (c.trans u))
def yyk{xs:Υ}(n:Nat):ya0 xs (some (n:Int)) none=xs.drop n:=by
 unfold ya0;rw[HT.sIx_none,HT.sIx_nat,bZ (by rw[cu];omega)];rcases Nat.le_total n xs.length with q|q
 .rw[Nat.min_eq_left q]
 .rw[Nat.min_eq_right q,List.drop_length,List.drop_eq_nil_of_le q]
def K3.hold{B H:Hp}{dk:z4}{C:Cf}{P:qi Pd}{X:Sx}{tx:Str->z4}(h:K3 K a B H dk md C P X tu tx){x:z4}{o:HO}(e:H x=some o)(nx:¬X.f x)(nm:x≠md):K3 K a (upd B x o) H dk md C P X tu tx :=
 { h with
  b:=⟨λy d c=>by
    by_cases z:y=x
    .rw[z,ya]at c;cases c;rw[z];exact e
    .exact h.b.s _ _ (by unfold upd at c;rw[if_neg z]at c;exact c),λy w=>by
    unfold upd;rw[if_neg λz=>nx (by rw[<- z];exact w)];exact h.b.n y w⟩
  n:=by   unfold upd;rw[if_neg λz=>nm z.symm];exact h.n}
def K3.less{B B' H:Hp}{dk:z4}{C:Cf}{P:qi Pd}{X:Sx}{tx:Str->z4}(h:K3 K a B' H dk md C P X tu tx)(S:yr B B'):K3 K a B H dk md C P X tu tx :=
 { h with
  b:=⟨λy o e=>h.b.s _ _ (S _ _ e),λy w=>S.free (h.b.n y w)⟩
  n:=S.free h.n}
#synth ħ ["_law_desk","_law_dues_here","_law_cell","_law_turn","_law_row","_law_due","_law_found"] ["_law_desk","_law_dues_here","_law_cell"] yqo
inductive ygl(K:z3)(a:Ads)(vs:Υ)(H:Hp)(Q:VK)(E':XK):Prop
 |mk(dk md l:z4)(C:Cf)(P:qi Pd)(X:Sx)(tu tx:Str->z4)(tw:Μ)(B:Hp)(so:Ρ)(c:Int)(_:vs=[.ref dk,.ref l,.int c])(_:0<=c)(_:c<2147483647)(_:1<=C.n)(_:C.n<=6)(_:Sgs so)(_:so.length<=C.mo)(_:so.length<=12)(_:K3 K a B H dk md C P X tu tx)(_:DuA B l tw (ń C P so))(_:∀Y H',K3 K a B H' dk md C P Y tu tx->Q (.bl true) H')
def yu9:vo P w K mg Γ CX0 18 a.Hq a.Ig ["_law_desk","_law_dues_here","_law_cell"] (ygl K a):=by
 exists T.K6.F.ok,ħ,hr;let⟨dk,md,l,C,P,X,tu,tx,n,B,f,c,rfl,c0,c1,n1,n6,hs,hz,a2,D,hB,k⟩:=h
 have a3:2<=(ń C P f).length/\(ń C P f).length<=6:=by
  unfold ń;rw[bd]
  cases P.getLast? with
  |none=>exists bf 2,by show 2<=6;decide
  |some q=>exists by show 2<=6;decide,bf 6
 have W:=D.b.s _ _ hB.l;refine yg (yt (i:=3) ħ.nd rfl (Or.inl rfl) (yo xk (pv 2) (pcB yp T.A7 (pa1 (pv 1))))) ?_;refine yg (uk PassesOwn.never rfl (we (yo û (xw z8 (pv 1) (uv (pv 3)) uu) (xw z8 (pv 1) uu (uv (pv 3))))) (ù rfl (xa (vy (i:=4) ħ.nd rfl (Or.inl rfl)) (xa (vy (i:=5) ħ.nd rfl (Or.inl rfl)) j4))) (yf (yt (i:=6) ħ.nd rfl (Or.inl rfl) (y8 (pv 0) T.Ak T.An.m (ì T) hr.m T.An.B .nil vw (pa1 (pv 4)))) (yc (v9 (PW.pt (ł (xt (xy (pcB wn T.A5 (pac (pv 6) (pa1 (jj (T:="str") rfl T.Di (by right))))))) (į (yx yvi (pv 6) (pv 5) (y9 _))))) (yc (yn yay)) y7)))) ?_;exists 3,4,yc (yn yay);refine u5 (SqL.of W) ?_;rw[vi];obtain⟨j,hj⟩:∃j:Nat,c%((ń C P f).length:Int)=(j:Int):=⟨(c%((ń C P f).length:Int)).toNat,(Int.toNat_of_nonneg (cA _ ())).symm⟩;ext;rw[hj];refine ŀ (SqL.of W) λs1 hs10=>?_;rw[yyk];exists hs10,H1,S1,hs11;ext;refine ŀ (SqL.of (S1 _ _ W)) λs2 hs20=>?_;rw[ι];exists hs20,H2,S2,hs22;exists s1,s2,_,_,rfl,rfl,S2 _ _ hs11,hs22,wd (by rw[cu,bU,vi];omega),λu g=>?_;have r:=S1.trans S2;have L:=(D.same (r.trans (yz (o:=.lst ((refs n (ń C P f).length).drop j++(refs n (ń C P f).length).take j)) g))).hold ya (λw=>by let⟨o,e⟩:=D.s.live _ w;have e2:=r _ _ e;rw[g]at e2;cases e2) (λz=>by have e:=r _ _ D.d;rw[<- z,g]at e;cases e);have y:B u=none:=D.b.s.free (r.free g);generalize upd H2 u (.lst ((refs n (ń C P f).length).drop j++(refs n (ń C P f).length).take j))=H4 at L⊢;exists u,rfl,⟨_,SqL.of (L.b.s _ _ ya)⟩,xx (K:=K) (a:=u) (xs:=(refs n (ń C P f).length).drop j++(refs n (ń C P f).length).take j) (λi σ2 G=>∃(Y:Sx)(N R S:Ψ),σ2=[some (.ref dk),some (.ref l),some (.int c),some (.int j),N,R,S]/\K3 K a (upd B u (.lst ((refs n (ń C P f).length).drop j++(refs n (ń C P f).length).take j))) G dk md C P Y tu tx) ⟨_,_,_,_,rfl,L⟩ (by rintro i σ2 G _ ⟨_,_,_,_,_,z⟩;exact SqL.of (z.b.s _ _ ya)) ?_ ?_
 .rintro i x σ2 G hx ⟨Y,N,R,S,rfl,v⟩
  obtain⟨d,M,a0⟩:∃d,d∈ń C P f/\∃p,x=.ref p/\B p=some (.tup [.str (Str.join ⟨#[32]⟩ d.1),.str d.2]):=by
   have I:=bB hx;have I:x∈refs n (ń C P f).length:=(bH.mp I).elim List.mem_of_mem_drop cy;unfold refs at I;let⟨i,J,rfl⟩:=bg.mp I;have J:=cc.mp J;exists _,bV J,n i,rfl,hB.t i _ (bc J)
  let⟨p,rfl,hp⟩:=a0;have O:=v.b.s _ _ (yz y _ _ hp);ext;refine ü (SqT.of O) rfl ?_;let⟨dd,st,Z,me,hZ,nZ,eX⟩:=id v.s;ext;refine v.due n1 n6 hs hz a2 M λY2 G2 U=>?_;ext;refine à (.str d.2) rfl ?_;exists true,rfl,?_;refine jc ?_;ext;exists rfl,_,rfl,?_;rw[bn rfl];refine jc ?_;exists Y2,_,_,_,rfl,U
 .rintro σ2 G ⟨Y,N,R,S,rfl,v⟩;ext;exact k Y G (v.less (yz y))
def ylu{ps:Ρ}(h:zh (ps.map V.int)=true):∀p,p∈ps->1<=p/\p<=8:=λp b=>by
 unfold zh at h;rw[bL,bL]at h;have:=(List.all_eq_true.mp h.1.2) _ (bg.mpr ⟨p,b,rfl⟩);have a:(decide (1<=p) && decide (p<=8))=true:=this;rw[bL]at a;exists of_decide_eq_true a.1,of_decide_eq_true a.2
def Sto.byt{H:Hp}{C:Cf}{P:qi Pd}{X:Sx}{lk:Μ}(h:Sto K a H st C P X)(hR:x9 H C.n lk C.kd tp C.ps)(hP:P.length<=6)(hl:∀q,q∈P->ĳ q.nm.cps.toList):(∀b,b∈shB C P->0<=b/\b<=255)/\(shB C P).length<=1000000:=by
 let⟨v,z,y,_,_⟩:=h.cf;exists λb d=>?_,?_
 .unfold shB hdB at d;rcases bH.mp d with d|d
  .rcases bH.mp d with d|d
   .rcases bq.mp d with rfl|d
    .omega
    .unfold lkF at d;let⟨l,hl,d⟩:=List.mem_flatten.mp d;let⟨i,j,rfl⟩:=bg.mp hl;have j:=cc.mp j;let⟨_,_,_,_,m⟩:=hR i j;have p:=je m;rw[ba]at p;have w:=(C.kd i).isLt;rcases bq.mp d with rfl|d
     .omega
     .rcases bq.mp d with rfl|d
      .omega
      .have:=ylu m b d;omega
   .rcases bq.mp d with rfl|d
    .omega
    .rw[bp.mp d];omega
  .rcases bq.mp d with rfl|d
   .omega
   .obtain⟨l,f,d⟩:=List.mem_flatten.mp d;let⟨q,k,rfl⟩:=bg.mp f;have A:=xq (h.nm q k).1;unfold pdB nmB at d;rcases bH.mp d with d|d
    .rcases bH.mp d with d|d
     .rcases bq.mp d with rfl|d
      .omega
      .obtain⟨c,t,rfl⟩:=bg.mp d;let⟨g,o⟩:=hl q k c t;rw[yxb g ()];omega
     .rw[bp.mp d]
      cases hbs:q.bs with
      |none=>exact(show (0:Int)<=0/\(0:Int)<=255 by decide)
      |some x =>
       have e:=h.to q k;rw[hbs]at e;let⟨u,s,r,_⟩:=e;have:=List.idxOf_lt_length_iff.mpr (show x∈P.map (·.nm)from bg.mpr ⟨u,s,r⟩);rw[ba]at this;show 0<=(((P.map (·.nm)).idxOf x:Nat):Int)+1/\(((P.map (·.nm)).idxOf x:Nat):Int)+1<=255;omega
    .exact ř _ b d
 .have g:=h.pls P.length (bf _);have o:=hR.lkl C.n (bf _);rw[cg]at g;unfold shB hdB;rw[bd,bd,bE,bE];show _+1+2+(_+1)<=_;omega
def vgh:V->qi V->Hp->VK->Prop:=λx vs H Q=>∃s y:Str,x=.str s/\vs=[.str y]/\Q (.bl (Txt.endswith s y)) H
def ys3{X:Cx}:MtR X "str.endswith" vgh:=by intro a s σ H x f v e Q I b c h;let⟨z,y,rfl,rfl,q⟩:=h;let⟨t,rfl⟩:=b;let⟨u,rfl,d⟩:=c.one;let⟨g,rfl⟩:=d;exact SC.endswith ⟨.bl _,H,I,rfl,q⟩
def ygx{C:Cf}(h:C.mo=1000):Txt.endswith (jx (shB C [])) (Str.ofString "03e800")=true:=by
 have e:jx (shB C [])=jx (((C.n:Nat):Int)::lkF C C.n)++Str.ofString "03e800":=ë (by
  rw[xh,jn,jn];unfold shB hdB;rw[h,bW,List.flatMap_append];rfl)
 rw[e];exact W.KT.ends_app _ _
open Classical in
def K3.bas{B H:Hp}{dk:z4}{C:Cf}{P:qi Pd}{X:Sx}{tx:Str->z4}(h:K3 K a B H dk md C P X tu tx):∃B',K3 K a B' H dk md C P X tu tx/\yr B B'/\∀y o,H y=some o->¬X.f y->y≠md->B' y=some o:=by
 have c:∀y o,H y=some o->¬X.f y->y≠md->(if X.f y\/y=md then none else H y)=some o:=λy o e g d=>by
  rw[if_neg λz=>z.elim g d];exact e
 exists λy=>if X.f y\/y=md then none else H y,{h with b:=⟨λy o e=>?_,λy w=>if_pos (.inl w)⟩,n:=if_pos (.inr rfl)},λy o e=>c y o (h.b.s _ _ e) (λw=>by rw[h.b.n y w]at e;cases e) (λz=>by rw[z,h.n]at e;cases e),c;have e:(if X.f y\/y=md then none else H y)=some o:=e
 split at e
 .cases e
 .exact e
theorem Dk.ntup{H:Hp}{dk:z4}{C:Cf}{P:qi Pd}{X:Sx}(h:Dk K a H dk C P X){x:z4}{xs:Υ}(e:H x=some (.tup xs)):¬X.f x:=by
 let⟨g,d,Z,c,b,n,rfl⟩:=h;rintro (w|rfl)
 .exact b.ntup e w
 .rw[c]at e;cases e
#synth Ü ["_law_script","_law_looks_here","_law_names_here","_law_more","_law_desk","_law_sought","_law_pieces","_law_k","_law_cell"] ["_law_script"] vbc
inductive yfp(K:z3)(vs:Υ)(H:Hp)(Q:VK)(E':XK):Prop
 |mk(l:z4)(ns:Ρ)(_:vs=[.ref l])(_:SqL K H l (ns.map V.int))(_:ns.length<=63)(_:∀H',Q (.bl true) H')
def ywf:vo P w K mg Γ CX0 19 a.Nn a.Ii ["_law_script"] (yfp K):=by
 exists T.K8.F.ok,Ü,v;let⟨l,O,rfl,hS,aP,k⟩:=h;refine yg (yt (i:=1) Ü.nd rfl (Or.inl rfl) (xp (yt3 T) v.m T.K2 (pa1 (pv 0)))) ?_;refine yg (yt (i:=2) Ü.nd rfl (Or.inl rfl) (xp (yti T) v.m T.K1 (pa1 (xp (ψ T) v.m T.Be (pac (pv 0) (pa1 yh)))))) ?_;refine yg (yt (i:=3) Ü.nd rfl (Or.inl rfl) (yo xg yh (pcT yhc T.R0 (pa1 (u7 xl (yo xk (xp (ψ T) v.m T.Be (pac (pv 0) (pa1 yh))) yh) yh (y9 _)))))) ?_;refine yg (yt (i:=4) Ü.nd rfl (Or.inl rfl) (À T.Kh (yiz T) v.m rfl T.Kg T.R6 .nil vn (pac (pcT wg T.Ad (pa1 (pv 1))) (pa1 (yo wb yh (pv 3)))))) ?_;refine yg (yt (i:=5) Ü.nd rfl (Or.inl rfl) (xp (yi3 T) v.m T.Fa (pac (yo vq (xp (ψ T) v.m T.Be (pac (pv 0) (pa1 yh))) yh) (pa1 (pv 3))))) ?_;refine yg (yt (i:=6) Ü.nd rfl (Or.inl rfl) yee) ?_;refine yg (v9 (PW.pt (ł (yx yvi (y8 (pv 4) T.Ak T.An.m (ì T) v.m T.An.B .nil vw (pa1 vg)) vg (y9 _)) (į (yx yvi (xp (yas T) v.m T.Cw (pa1 (wy (pac yh (pac yh (pa1 yh)))))) vg (y9 _))))) (yc (yn yay)) y7) ?_;refine yg (v9 (xt (xy (ug PySem.F.plainAttrs_str PySem.F.slot_str_endswith PySem.F.type_str_endswith ys3 (y8 (À T.Kh (yiz T) v.m rfl T.Kg T.Ks (show wz [V.int 1000] _ from (.cons ⟨_,rfl⟩ .nil)) vn (pa1 (pcT wg T.Ad (pa1 (pv 1))))) T.Ak T.An.m (ì T) v.m T.An.B .nil vw (pa1 vg)) (pa1 vg)))) (yc (yn yay)) y7) ?_;refine yg (uk PassesOwn.never rfl (jf rfl T.Bc (pa1 (pcB (Ğ rfl) T.Km (pac (xz xf (wy (pac yh (pa1 yh))) (yo vq (pv 3) yh) (λF F=>rfl)) (pa1 (pcB (ğ rfl) T.Kn (pac yh (pa1 (yo zy (pcB yp T.A7 (pa1 (pv 0))) yh))))))))) (vy (i:=7) Ü.nd rfl (Or.inl rfl)) (yf (yt (i:=8) Ü.nd rfl (Or.inl rfl) (xp (ψ T) v.m T.Be (pac (pv 0) (pa1 (yo wb yh (pv 7)))))) (yf (v9 (xt (xy (xp (yr7 T) v.m T.K4 (pac (pv 4) (pac (pv 6) (pac (pv 2) (pac (pv 8) (pa1 (xp (yi3 T) v.m T.Fa (pac (xp (ψ T) v.m T.Be (pac (xw z8 (pv 0) (uv yh) uu) (pa1 (yo wb yh (pv 7))))) (pa1 (pv 3)))))))))))) (yc (yn yay)) y7) (yc (v9 (xt (xy (xp (yu9 T) v.m T.K6 (pac (pv 4) (pac (xp (yu5 T) v.m T.K5 (pac (pv 1) (pac (pv 6) (pa1 (pv 5))))) (pa1 (yo vq (pv 8) yh))))))) (yc (yn yay)) y7))))) ?_;exists 1,8,yc (yn yay);exists l,O,rfl,hS,λlo n lk kd tp ps H1 az a4 n1 n6 ao S1=>?_;ext;exists l,O,4,rfl,S1.seq hS,∅,λc4 aI aF=>?_
 ext;exists c4,rfl,aI,aF,λnl ns H2 aq av S2 aC aR aK=>?_;have a2:=S2.seq (S1.seq hS);have N:=S2 _ _ a4;have a1:=ao.same S2;clear hS S1 S2 az a4 aq ao;ext;exists l,O,5,rfl,a2,∅,λc5 aV aQ=>?_
 ext;refine .inr ⟨_,rfl,?_⟩
 obtain⟨j,aM,aG⟩:∃j:Nat,(9*if decide (c5%8=0)=true then 1 else 0:Int)=(j:Int)/\(j=0\/j=9):=by
  by_cases z:c5%8=0
  .exact⟨9,by rw[bn z];rfl,∅⟩
  .exact⟨0,by rw[bo z];rfl,∅⟩
 ext;rw[aM];ext;refine Õ (SqL.of N) λhd hhd0=>?_;exists hhd0,H3,S3,hhd3;ext;rw[show (3+(j:Int))=((3+j:Nat):Int) by omega];intro dk dd D u M;have c:yr H3 (upd (upd H3 dd (.own dk)) dk (.ins a.Ah dd [])):=(yz u).trans (yz (by rw[ym (Ne.symm M)];exact D));exists dk,dd,hd,3+j,3+j,n,lk,tp,kd,ps,rfl,ya,c _ _ hhd3,n1,n6,a1.same (S3.trans c),(),bf _,(),λX H4 ae b4 f4=>⟨rfl,?_⟩
 have U:Bs H2 H4 X:=⟨λy o e=>b4 _ _ (c _ _ (S3 _ _ e)) (λz=>by have g:=S3 _ _ e;rw[z,D]at g;cases g),λy w=>S3.free ((f4 y w).elim (λz=>by rw[z];exact D) λz=>c.free z)⟩;clear S3 c b4 f4 D u M hhd0 hhd3;ext;exists l,O,5,rfl,U.s.seq a2,∅,λc6 aY aZ=>?_
 ext;exists c6/8,j,rfl,(),(),(),λso ts H5 L x aj aN S5=>?_
 ext;intro md hmd0;exists hmd0,H6,S6,hmd6;have ah:=S5.trans S6;have a6:=ae.same ah;have fr:∀{y:z4},H4 y=none->¬X.f y:=λe w=>by let⟨o,g⟩:=ae.live _ w;rw[e]at g;cases g
 have a3:¬X.f md:=fr (S5.free hmd0)
 have ax:K3 K a H2 H6 dk md ⟨n,kd,ps,3+j,3+j⟩ [] X (λF=>0) (λF=>0):=⟨a6,U.same ah,U.s.free (S5.free hmd0),⟨.inl hmd6,a3,λq I=>(nomatch I),λq I=>(nomatch I)⟩,hmd6,⟨a6.pw,∅,λq I=>(nomatch I)⟩,λq I=>(nomatch I)⟩
 have h6:=ax.hold (S6 _ _ x) (fr L) (λz=>by rw[z,hmd0]at x;cases x);have a5:upd H2 so (.lst (ts.map V.int)) so=_:=ya;have r:yr H2 (upd H2 so (.lst (ts.map V.int))):=yz (U.s.free L);generalize upd H2 so (.lst (ts.map V.int))=B at h6 a5 r;clear ax a3 fr a6 ah hmd6 hmd0 L x S5 S6 U ae;let⟨d1,st,Z,me,hZ,nZ,eX⟩:=id h6.s;ext;exists dk,d1,_,[Str.ofString "names"],rfl,me,λw hw=>by rw[bp.mp hw];decide,bF (Ä _) ∅,.inl ⟨_,rfl,λH7 S7=>⟨dk,_,[],X,_,rfl,h6.s.same S7,.inl ⟨rfl,λH8 S8=>?_⟩⟩⟩
 have h8:=h6.same (S7.trans S8);clear h6 S7 S8 me hZ nZ eX;ext;exists rfl,_,rfl,?_;rw[bn (show V.str (Str.join ⟨#[32]⟩ (([]:qi Pd).map (·.nm)))=V.str (Str.ofString "")from rfl)];refine jc ?_;ext;exists by walk_at "len",λhx hhx0=>?_
 exists hhx0,H9,S9,hhx9;ext;exists hx,[0,10,255],rfl,SqL.of hhx9,(λb hb=>by simp at hb;omega),∅,λaS ay=>?_
 ext;exists rfl,_,rfl,?_;rw[bn (show V.str (jx [0,10,255])=V.str (Str.ofString "000aff")from congrArg V.str (ë (by rw[jn];rfl)))];refine jc ?_;have af:=h8.same (S9.trans ay);clear h8 S9 ay hhx0 hhx9;ext;refine Õ (SqL.of (af.b.s _ _ (r _ _ N))) λhd hhd0=>?_;exists hhd0,H11,S11,hhd11;have ag:=af.same S11;clear af S11 hhd0;ext;intro dj dd R u M;have c:yr H11 (upd (upd H11 dd (.own dj)) dj (.ins a.Ah dd [])):=(yz u).trans (yz (by rw[ym (Ne.symm M)];exact R));exists dj,dd,hd,1000,12,n,lk,tp,kd,ps,rfl,ya,c _ _ hhd11,n1,n6,((a1.same r).same ag.b.s).same c,(),∅,∅,λXj aE a8 bj fj=>⟨rfl,?_⟩
 have ad:=ag.same (show yr H11 aE from λy o e=>bj _ _ (c _ _ e) (λz=>by rw[z,R]at e;cases e));clear ag c bj fj R u M hhd11;let⟨d2,st,Z,me,hZ,nZ,eX⟩:=id a8;have am:=(a1.same r).same ad.b.s
 have aL:=hZ.byt am ∅ (λq I=>nomatch I)
 have aD:(shB ⟨n,kd,ps,1000,12⟩ []).length<=100000:=by
  have aX:=x9.lkl (C:=⟨n,kd,ps,1000,12⟩) am n (bf n);unfold shB hdB;rw[bd,bd];show (lkF _ n).length+1+2+1<=_;omega
 ext;exists dj,d2,_,[Str.ofString "shelf"],rfl,me,λw hw=>by rw[bp.mp hw];decide,bF (Ä _) ∅,.inl ⟨_,rfl,λaT a7=>⟨dj,_,[],Xj,_,rfl,a8.same a7,.inr ⟨rfl,?_,?_,λb1 ai=>?_⟩⟩⟩
 .exact aL.1
 .exact aD
 have an:=ad.same (a7.trans ai);clear ad a7 ai a8 me hZ nZ eX;ext;exists rfl,?_;ext;exists _,_,rfl,rfl,true,by rw[ygx rfl],?_
 refine jc ?_;ext;exists by walk_at "len",λpq hpq0=>?_
 exists hpq0,H15,S15,hpq15;have al:=an.same S15
 obtain⟨z,hz,z0,z7⟩:∃z:Int,atI [V.int 7,V.int 4] ((j:Int)/9)=some (.int z)/\0<=z/\z<=7:=by
  rcases aG with rfl|rfl
  .exact⟨7,rfl,∅,∅⟩
  .exact⟨4,rfl,∅,∅⟩
 ext;refine zr (SqL.of hpq15) hz ?_;clear an S15 hpq0 hpq15 hz;ext;refine u5 (al.b.s.seq (r.seq a2)) ?_;rw[ba];ext;exists _,_,rfl,?_;ext;exists _,_,rfl,?_;ext
 obtain⟨m,hm,b0⟩:∃m:Nat,(if (if ((O.length:Nat):Int)-6 > 1 then ((O.length:Nat):Int)-6 else 1)<z then (if ((O.length:Nat):Int)-6 > 1 then ((O.length:Nat):Int)-6 else 1)else z)=(m:Int)/\m<=7:=by
  generalize ((O.length:Nat):Int)-6=y;refine⟨(if (if y > 1 then y else 1)<z then (if y > 1 then y else 1)else z).toNat,?_,?_⟩<;>(split<;>split<;>omega)
 rw[hm];clear hm z0 z7;have ar:=r.seq a2;have aJ:=r _ _ av;have ap:=r _ _ N;have aA:=a1.same r
 exists _,rfl,(),(),Î (n:=m) (λi σ2 G=>∃(P:qi Pd)(Y:Sx)(tu tx:Str->z4)(v7 v8:Ψ),σ2=[some (.ref l),some (.ref lo),some (.ref nl),some (.int (j:Nat)),some (.ref dk),some (.ref so),some (.ref md),v7,v8]/\K3 K a B G dk md ⟨n,kd,ps,3+j,3+j⟩ P Y tu tx/\∀q,q∈P->q.nm∈ns) ⟨[],X,_,_,_,_,rfl,al,λq I=>(nomatch I)⟩ ?_ ?_
 .rintro i σ2 G hi ⟨P,Y,tu,tx,v7,v8,rfl,h,ak⟩;ext;exists l,O,6+i,by rw[show ((6+i:Nat):Int)=6+(0+(i:Int)) by omega];rfl,h.b.s.seq ar,(),λe e0 e1=>?_
  ext;refine ŀ (h.b.s.seq ar) λcs hcs0=>?_;rw[yi1,<- List.drop_one,<- List.map_drop];exists hcs0,G1,T1,hcs1;ext;exists cs,O.drop 1,6+i,by rw[show ((6+i:Nat):Int)=6+(0+(i:Int)) by omega];rfl,SqL.of hcs1,(),λd d0 d1=>?_
  ext;exists d,j,rfl,d0,d1,(),λt us G2 a0 as aB aH T2=>?_
  have h2:=h.same (T1.trans T2);have h3:=h2.hold as (λw=>by let⟨o,g⟩:=(h.same T1).s.live _ w;rw[a0]at g;cases g) (λz=>by have g:=(h.same T1).d;rw[<- z,a0]at g;cases g);have a9:B t=none:=(h.same T1).b.s.free a0;let⟨aW,st,Z,me,hZ,nZ,eX⟩:=id h3.s;ext;exists dk,md,nl,t,_,P,Y,tu,tx,ns,us,e,_,rfl,h3,yz a9 _ _ aJ,aC,aK,e0,⟨ya,aB,()⟩,aH,ak,λP2 Y2 ab aa G3 au aw=>?_;have J:=au.less (yz a9);clear au h3 h2 h a9 a0 as T1 T2 hcs0 hcs1 me hZ nZ eX;ext;exists lo,md,so,⟨n,kd,ps,3+j,3+j⟩,P2,Y2,lk,tp,ab,aa,ts,rfl,J.b.s _ _ ap,n1,n6,aA.same J.b.s,J.m,J.d,J.p,(λq I=>(J.o q I).1),⟨J.b.s _ _ a5,aj,()⟩,λdl tw G4 W S T4=>?_;have h5:=J.same T4;let⟨B2,h6,SB,ac⟩:=h5.bas;have hdB:DuA B2 dl tw (ń ⟨n,kd,ps,3+j,3+j⟩ P2 ts):=⟨ac _ _ S.l (λw=>by let⟨o,g⟩:=J.s.live _ w;rw[W]at g;cases g) (λz=>by have g:=J.d;rw[<- z,W]at g;cases g),λi d e=>ac _ _ (S.t i d e) (h5.s.ntup (S.t i d e)) (λz=>by have g:=S.t i d e;rw[z,h5.d]at g;cases g)⟩;clear J h5 ac S T4 W;ext;exists dk,md,dl,_,P2,Y2,ab,aa,tw,B2,ts,e/4096,rfl,(),(),n1,n6,aj,aN,(),h6,hdB,λY3 G5 h7=>?_
  exists true,rfl,?_;refine jc ?_;exists P2,Y3,ab,aa,_,_,rfl,h7.less SB,aw
 .rintro σ2 G ⟨P,Y,tu,tx,v7,v8,rfl,h,ak⟩;ext;exact k G
end
variable{C:Cf}{P:qi Pd}{X Y Z:Sx}
def all_mk{l:W.OpenLaw}{w:qd}{K:z3}{mg:Ε}{fa:z4}(hfa:mg "law"=some (.ref fa))(T:Txt K mg a)
 :∃fd:FuncData,(∀(s:qa)(v:qb),BindsTo s fd ⟨[v],[]⟩ [("_law_script",v)])/\∀Γ:qf,K.In Γ->Γ.Ns mainGlobals mg->vo l.prog w K mg Γ CX0 19 fa fd ["_law_script"] (yfp K):=by have e:=hfa.symm.trans T.K8.m;obtain rfl:=Value.ref.inj (bx e);exists a.Ii,λs v=>?_,λΓ Z Z=>ywf T;let⟨_,_,_,_,_,_,_,_,_,e,_,_⟩:=T.K8.F.ex;rw[e];exact .of_eq rfl
def walk{l:W.OpenLaw}{q:qh}{loose:Τ}{XP:(Ε)->qf->Prop}{YP:qd->qf->Prop}{d:DefRec}{K:Params->z3}(hn:l.most=some 63)(hdf:d.params.defaults=[])
  (hY:∀(w:qd)(h:qf),YP w h->(K w.params).In h)
  (F:∀(w:qd)(mg:Ε)(fa:z4)(h:qf),(K w.params).In h->h.Ns mainGlobals mg->mg d.name=some (.ref fa) ->
   ∃fd:FuncData,(∀(s:qa)(u:qb),BindsTo s fd ⟨[u],[]⟩ [("_law_script",u)])/\∀Γ:qf,(K w.params).In Γ->Γ.Ns mainGlobals mg->vo l.prog w (K w.params) mg Γ CX0 19 fa fd ["_law_script"] (yfp (K w.params))):
  W.WalkO q loose XP YP l.row.toRowW d [] (λf vs=>PySem.call f vs) :=
 L2.walk_of (n:=63) (k:=19) (x:="_law_script") (CX:=λZ=>CX0) (sp:=λw=>yfp (K w.params)) hn ∅ hdf ⟨rfl,∅,∅⟩ hY F (λZ Z a c e Z b=>⟨a,c,rfl,b,e,λZ=>rfl⟩) λZ Z Z Z Z z=>z
end Law
end
open PySem PySem.W PyProof.Rows
set_option maxRecDepth 100000 in
set_option maxHeartbeats 0 in
theorem PySem.Challenge.cw_foretell_k53_desk_deeds_holds : PySem.Challenge.rw_foretell_k53_desk_deeds.Holds := by
 refine H0.2 ?_
 unfold H0
 dsimp only []
 k_fill
 refine Law.walk (l := PySem.Challenge.rw_foretell_k53_desk_deeds) rfl rfl (fun w h Y => PySem.W.kIn_of Y) ?F
 case F =>
  intro w mg fa h KX G hmg
  refine' Law.all_mk hmg (Law.Txt.mk (a := Law.Ads.mk) ..)
  any_goals (refine L2.pG ?_; try dsimp only)
  any_goals (refine L2.pG ?_; first | (refine' PySem.W.mg_of KX G ?_; k_is; done) | (refine' PySem.W.mg_none_of KX G ?_; k_is; done))
  any_goals (refine L2.pG ?_; first | (refine' L2.Dg.d1 (L2.dgf_mk KX G ?_ ?_ ?_ ?_); any_goals k_is; done) | (refine' L2.Dg.d2 (L2.dgf_mk KX G ?_ ?_ ?_ ?_); any_goals k_is; done) | (refine' L2.Dg.d3 (L2.dgf_mk KX G ?_ ?_ ?_ ?_); any_goals k_is; done) | (refine' L2.Dg.d5 (L2.dgf_mk KX G ?_ ?_ ?_ ?_); any_goals k_is; done) | (refine' L2.Dg.d1 (L2.dgm_mk ?_ ?_ ?_ ?_ ?_); any_goals k_is; done) | (refine' L2.Dg.d2 (L2.dgm_mk ?_ ?_ ?_ ?_ ?_); any_goals k_is; done) | (refine' L2.Dg.d3 (L2.dgm_mk ?_ ?_ ?_ ?_ ?_); any_goals k_is; done) | (refine' L2.Dg.d4 (L2.dgm_mk ?_ ?_ ?_ ?_ ?_); any_goals k_is; done) | (refine' L2.funD_mk ?_ ?_ ?_; any_goals k_is; done) | (refine' L2.bindsR (j := 2) ?hj ?hh ?hd; (case hd=>k_is); (case hj => rfl); (case hh => exact fun _ _ _ _ _ _ _ _ => Exists.intro _ ⟨rfl, rfl⟩); done) | (refine' L2.bindsR (j := 3) ?hj ?hh ?hd; (case hd=>k_is); (case hj => rfl); (case hh => exact fun _ _ _ _ _ _ _ _ _ => Exists.intro _ ⟨rfl, rfl⟩); done) | (refine' L2.bindsR (j := 4) ?hj ?hh ?hd; (case hd=>k_is); (case hj => rfl); (case hh => exact fun _ _ _ _ _ _ _ _ _ _ => Exists.intro _ ⟨rfl, rfl⟩); done) | (refine' L2.XCls.mk ?_ ?_ ?_ ?_ ?_ ?_ ?_ ?_ <;> k_is) | (refine' L2.Cls.mk ?_ ?_ ?_ ?_ <;> k_is) | (refine' L2.Mk.mk ?_ ?_ ?_ ?_; any_goals k_is; done) | (refine' L2.Meth.mk ?_ ?_ ?_; any_goals k_is; done) | (unfold L2.NoAttr; k_is) | k_is | kit_is | k_exc | (with_reducible show _ = _; first | k_is | k_exc))
  any_goals (refine L2.pG ?_; first | (refine' L2.funD_mk ?_ ?_ ?_; any_goals k_is; done) | (refine' L2.bindsR (j := 2) ?hj ?hh ?hd; (case hd=>k_is); (case hj => rfl); (case hh => exact fun _ _ _ _ _ _ _ _ => Exists.intro _ ⟨rfl, rfl⟩); done) | (refine' L2.bindsR (j := 3) ?hj ?hh ?hd; (case hd=>k_is); (case hj => rfl); (case hh => exact fun _ _ _ _ _ _ _ _ _ => Exists.intro _ ⟨rfl, rfl⟩); done) | (refine' L2.bindsR (j := 4) ?hj ?hh ?hd; (case hd=>k_is); (case hj => rfl); (case hh => exact fun _ _ _ _ _ _ _ _ _ _ => Exists.intro _ ⟨rfl, rfl⟩); done))
#print axioms PySem.Challenge.cw_foretell_k53_desk_deeds_holds
