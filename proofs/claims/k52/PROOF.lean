import PyProof.Rows.All
import Wide.All
import OpenK.KLine
import OpenK.KWalk
import OpenK.KOwn
import KE.RegKIsAll
import KE.KxText
import KE.KIntText
import KE.KDictList
import KE.KTryMore
import Wide.FinOn
import PyProof.EqAt
import PyProof.EqKinds
import PyProof.TupleCall
import Lean
import PySem.Challenge.RW_foretell_k52_no_shelf
set_option Elab.async false
set_option linter.all false
set_option hygiene false
set_option bootstrap.genMatcherCode false
set_option compiler.extract_closed false
noncomputable section
set_option maxRecDepth 100000
set_option maxHeartbeats 0
theorem aA(_:True:=by first|exact .inl rfl|exact .inr rfl|assumption):True:=⟨⟩
theorem aB(_:True:=by decide):True:=⟨⟩
theorem aC(_:True:=by intro _;rfl):True:=⟨⟩
theorem aD(_:True:=by rfl):True:=⟨⟩
theorem aE(_:True:=by with_unfolding_all rfl):True:=⟨⟩
theorem aF(_:True:=by first|exact Or.inl rfl|exact Or.inr (Or.inl rfl)|exact Or.inr (Or.inr rfl)):True:=⟨⟩
theorem aG(_:True:=by decide+kernel):True:=⟨⟩
theorem aH(_:True:=by intros;rfl):True:=⟨⟩
theorem aI(_:True:=by exact rfl):True:=⟨⟩
local macro_rules | `(tactic| exists $ts,*)=>`(tactic| refine ⟨$ts,*⟩)
local macro_rules | `(tactic| omega)=>`(tactic| first | with_reducible assumption | lia | omega (config:={}))
open Lean.Parser.Tactic in
local macro_rules | `(tactic| let $p:term := $e)=>do
 let s<-p.raw.rewriteBottomUpM fun x=>do
  if x.isOfKind `Lean.Parser.Term.anonymousCtor then
   let ps<-x[1].getSepArgs.mapM fun y=>`(rcasesPatLo| $(⟨y⟩):rcasesPat)
   return (<-`(rcasesPat| ⟨$[$ps:rcasesPatLo],*⟩)).raw
  else if x.isIdent then return (<-`(rcasesPat| $(⟨x⟩):ident)).raw
  else if x.isOfKind `Lean.Parser.Term.hole then return (<-`(rcasesPat| _)).raw
  else return x
 `(tactic| obtain $(⟨s⟩):rcasesPat:=$e)
namespace PySem.W.Fast
local macro_rules
 | `(#synth $k:ident $ns*)=>Lean.MonadRef.withRef .missing do return Lean.mkNullNode ((<-(ns.foldl (fun c n=>c.push (n.raw.isNatLit?.get!+c.back?.getD 0)) #[]).mapM fun n=>`(theorem $(Lean.mkIdent (.mkSimple s!"tw{(k.getId.getPrefix.str s!"{k.getId.getString!}_{n}").hash}")) : True:=⟨⟩)).map (·.raw))
 | `(#synth $k:ident)=>`(theorem $(Lean.mkIdent (.mkSimple s!"tw{k.getId.hash}")) : True:=⟨⟩)
#synth PySem.Challenge.pw_foretell_k52_no_shelf
#synth H0.heap 39 7 1376
#synth H0.tree 47 23 15 15 15 15 15 15 15 15 15 15 15 15 48 45 37 43 43 50 16 65 45 51 47 87 15 58 35 51 42 142 86 31 66 68
#synth H0.view 39
#synth H0.sts 49 22 15 15 15 15 15 15 15 15 15 15 15 15 48 45 37 43 43 50 16 65 45 51 47 87 15 58 35 51 42 231 28 66
#synth H0.o 43 2 1 3 2 2 1 1 1 1 1 1 1 1 2 1 1 1 1 1 1 1 1 2 1 1 1 1 2 1 1 1 1 1 1 1 2 1 1 1 1 2 1 1 1 1 1 1 1 2 1 1 1 1 2 1 1 1 1 1 1 1 2 1 1 1 1 2 1 1 1 1 1 1 1 2 1 1 1 1 2 1 1 1 1 1 1 1 2 1 1 1 1 2 1 1 1 1 1 1 1 2 1 1 1 1 2 1 1 1 1 1 1 1 2 1 1 1 1 2 1 1 1 1 1 1 1 2 1 1 1 1 2 1 1 1 1 1 1 1 2 1 1 1 1 2 1 1 1 1 1 1 1 2 1 1 1 1 2 1 1 1 1 1 1 1 2 1 1 1 1 2 1 1 1 1 1 1 1 2 1 1 1 1 2 1 1 1 1 1 1 1 2 1 1 1 1 1 2 1 1 1 1 1 2 1 1 1 1 1 2 1 1 1 1 1 2 1 1 1 2 2 1 1 1 1 1 2 1 1 1 1 1 2 1 1 1 1 1 2 1 1 1 1 1 2 1 1 1 1 1 2 1 1 1 1 1 1 2 1 1 1 2 1 1 2 1 1 1 1 1 2 1 1 1 1 1 2 1 1 1 1 1 1 1 1 1 1 1 1 2 1 1 1 1 2 1 1 2 1 1 1 1 1 2 1 1 1 1 1 2 1 1 1 1 1 2 1 1 1 1 1 1 1 1 1 1 2 1 1 1 1 2 1 1 2 1 1 1 1 1 2 1 1 1 1 1 2 1 1 1 1 1 2 1 1 1 1 1 1 1 1 1 1 2 1 1 1 1 2 1 1 2 1 1 1 1 1 2 1 1 1 1 1 2 1 1 1 1 1 2 1 1 1 1 1 1 1 1 1 1 2 1 1 1 1 1 2 2 1 1 1 1 1 2 1 1 1 1 1 2 1 1 1 2 1 1 2 1 1 1 1 1 2 1 1 1 1 1 2 1 1 1 1 1 2 1 1 1 1 1 2 1 1 1 1 1 2 1 1 1 1 1 2 1 1 1 1 1 1 1 1 1 1 1 1 2 2 1 1 1 1 1 2 1 1 1 1 1 2 1 1 1 2 1 1 1 1 1 2 1 1 1 2 1 1 1 1 1 2 1 1 1 2 1 1 1 2 1 1 2 1 1 1 1 1 2 1 1 1 1 1 2 1 1 1 1 1 2 1 1 1 1 1 2 1 1 1 1 1 1 1 1 1 1 1 1 2 1 1 1 2 1 1 2 1 1 1 1 1 2 1 1 1 1 1 2 1 1 1 2 1 1 1 2 1 1 1 1 1 1 1 1 1 1 1 1 2 1 1 1 2 1 1 2 1 1 1 2 1 1 1 2 1 1 1 2 1 1 1 1 1 2 1 1 1 1 1 2 1 1 1 1 1 2 1 1 1 1 1 2 1 1 1 1 1 2 1 1 1 1 1 2 1 1 1 1 1 2 1 1 1 1 1 1 1 1 1 1 1 1 2 1 2 1 1 1 2 1 1 1 1 1 2 1 1 1 2 1 1 2 1 1 1 1 1 2 1 1 1 1 1 2 1 1 1 1 1 2 1 1 1 1 1 2 1 1 1 1 1 2 1 1 1 1 1 1 1 1 1 1 1 1 2 2 1 1 1 1 1 2 1 1 1 1 1 2 1 1 1 2 1 1 1 1 1 2 1 1 1 1 1 2 1 1 1 2 1 1 2 1 1 1 1 1 2 1 1 1 1 1 2 1 1 1 1 1 2 1 1 1 1 1 2 1 1 1 1 1 1 1 1 1 1 1 1 2 2 1 1 1 2 1 1 1 1 1 2 1 1 1 1 1 1 1 1 2 1 1 2 1 1 1 1 1 1 1 1 1 1 1 1 2 1 1 1 2 1 1 1 2 1 1 1 1 1 2 1 1 1 1 1 2 1 1 1 1 1 2 1 1 1 1 1 1 2 1 1 1 1 1 2 1 1 1 1 1 2 1 1 1 1 1 2 1 1 1 1 1 2 1 1 1 1 1 2 1 1 1 1 1 2 1 1 1 1 1 2 1 1 1 2 1 1 1 1 1 2 1 1 1 1 1 2 1 1 1 1 1 2 1 1 1 1 1 2 1 1 1 1 1 2 1 1 1 1 1 1 1 1 1 1 1 2 1 1 1 2 1 1 1 2 1 1 1 1 1 2 1 1 1 1 1 2 1 1 1 1 1 2 1 1 1 1 1 1 2 1 1 1 1 1 2 1 1 1 1 1 2 1 1 1 1 1 2 1 1 1 1 1 2 1 1 1 1 1 2 1 1 1 1 1 2 1 1 1 4 2 2 1 1 1 1 1 2 1 1 1 2 1 1 1 1 1 2 1 1 1 1 1 2 1 1 1 2 1 1 2 1 1 1 1 1 2 1 1 1 1 1 2 1 1 1 1 1 2 1 1 1 2 1 1 1 2 1 1 1 2 1 1 1 1 1 2 1 1 1 1 1 1 1 1 1 1 1 1 2 2 1 1 1 1 1 2 1 1 1 1 1 2 1 1 1 2 1 1 1 1 1 2 1 1 1 1 1 2 1 1 1 1 1 2 1 1 1 1 1 2 1 1 1 1 1 2 1 1 1 1 1 2 1 1
#synth H0.env 41
end PySem.W.Fast
section
open PySem PySem.W PyProof.Rows
def Q0:Program:={PySem.Challenge.pw_foretell_k52_no_shelf with main:={PySem.Challenge.pw_foretell_k52_no_shelf.main with body:=PySem.Challenge.pw_foretell_k52_no_shelf.main.body.drop 108}}
def Z0:List Str:=PySem.Challenge.pw_foretell_k52_no_shelf.boundNames.filter (·!="law")
theorem H1{K:Params->Frag}{as:List Addr}(n:Nat)(e:∀P,as=(K P).map (·.1))(w:World)(s:Shared)(x:((as.take n).map s.heap.get?,(as.drop n).map s.heap.get?)=(((K w.params).take n).map (fun p=>some p.2),((K w.params).drop n).map fun p=>some p.2)):InK K w s.heap:=InK.of e w s (by
 have h:=Prod.mk.inj x
 rw [<-List.take_append_drop n as,List.map_append,h.1,h.2,<-List.map_append,List.take_append_drop])
local macro_rules | `(tactic| refine $f:ident $as*)=>do
 unless f.getId==`PySem.W.holds_open do Lean.Macro.throwUnsupported
 let h:=as[6]!.raw[3][1][0][1][1]
 let k:Lean.Term:=⟨h[0]⟩
 let a:Lean.Term:=⟨h[1]⟩
 let e:Lean.Term:=⟨h[2]⟩
 let r:=as.extract 10 as.size
 `(tactic| (refine ($f (q:=Q0) (loose:=Z0) $(as[2]!) $(as[3]!) (Yf:=fun s=>((List.take 400 $a).map s.heap.get?,(List.drop 400 $a).map s.heap.get?)) (Ya:=fun w=>((List.take 400 ($k w.params)).map (fun p=>some p.2),(List.drop 400 ($k w.params)).map fun p=>some p.2)) $(as[6]!) $(as[7]!) $(as[8]!) (H1 400 $e) $r*); case $(Lean.mkIdent `hc):ident=>exact $(Lean.mkIdent `hP)))
set_option maxRecDepth 100000 in
set_option maxHeartbeats 0 in
def H0:PSigma fun P:Prop=>P->PySem.Challenge.rw_foretell_k52_no_shelf.Holds:=by
 refine' ⟨_,fun hP=>?_⟩
 rotate_left
 w_on; o_law; k_head
 w_witness2
end
section
open PySem PySem.Spec PyProof.Rows
def bz:type_of% @List.length_map:=@List.length_map
def bY:type_of% @List.length_append:=@List.length_append
def cz:type_of% @wpAny_bind:=@wpAny_bind
def cA:type_of% @List.getElem?_eq_getElem:=@List.getElem?_eq_getElem
def cB:type_of% @List.length_cons:=@List.length_cons
def cD:type_of% @Heap.get?_push_of_some:=@Heap.get?_push_of_some
def cE:type_of% @Nat.le_refl:=@Nat.le_refl
def cF:type_of% @List.getElem?_eq_some_iff:=@List.getElem?_eq_some_iff
def cG:type_of% @wpAny_pure:=@wpAny_pure
def cH:type_of% @List.append_assoc:=@List.append_assoc
def cI:type_of% @List.mem_map:=@List.mem_map
def cJ:type_of% @Option.some.inj:=@Option.some.inj
def cK:type_of% @List.getElem?_map:=@List.getElem?_map
def cL:type_of% @List.length_take:=@List.length_take
def cM:type_of% @List.map_append:=@List.map_append
def cN:type_of% @List.mem_of_getElem?:=@List.mem_of_getElem?
def cO:type_of% @List.mem_append_right:=@List.mem_append_right
def cP:type_of% @Heap.lt_size:=@Heap.lt_size
def cQ:type_of% @List.length_nil:=@List.length_nil
def cR:type_of% @List.mem_singleton:=@List.mem_singleton
def cS:type_of% @List.mem_cons:=@List.mem_cons
def cT:type_of% @decide_eq_true:=@decide_eq_true
def cU:type_of% @List.size_toArray:=@List.size_toArray
def cV:type_of% @Heap.get?_push_size:=@Heap.get?_push_size
def cX:type_of% @decide_eq_false:=@decide_eq_false
def cZ:type_of% @Bool.and_eq_true:=@Bool.and_eq_true
def db:type_of% @List.mem_append:=@List.mem_append
def de:type_of% @Bool.false_ne_true:=@Bool.false_ne_true
def df:type_of% @List.length_drop:=@List.length_drop
def dg:type_of% @Nat.zero_le:=@Nat.zero_le
def dh:type_of% @Nat.lt_of_lt_of_le:=@Nat.lt_of_lt_of_le
def di:type_of% @Nat.ne_of_lt:=@Nat.ne_of_lt
def dm:type_of% @List.getElem_mem:=@List.getElem_mem
def dn:type_of% @List.take_length:=@List.take_length
def du:type_of% @Nat.not_lt_zero:=@Nat.not_lt_zero
def dv:type_of% @List.getElem?_eq_none:=@List.getElem?_eq_none
def dw:type_of% @List.length_range:=@List.length_range
def dz:type_of% @List.mem_cons_of_mem:=@List.mem_cons_of_mem
def dA:type_of% @List.mem_append_left:=@List.mem_append_left
def dB:type_of% @Nat.le_trans:=@Nat.le_trans
def dC:type_of% @List.map_cons:=@List.map_cons
def dD:type_of% @List.map_map:=@List.map_map
def dE:type_of% @List.take_of_length_le:=@List.take_of_length_le
def dF:type_of% @List.mem_of_mem_take:=@List.mem_of_mem_take
def dG:type_of% @wpAny_field:=@wpAny_field
def dH:type_of% @List.take_succ_eq_append_getElem:=@List.take_succ_eq_append_getElem
def dI:type_of% @List.length_singleton:=@List.length_singleton
def dJ:type_of% @List.getElem?_append_right:=@List.getElem?_append_right
def dL:type_of% @List.getElem_map:=@List.getElem_map
def dM:type_of% @wpAny_mono:=@wpAny_mono
def dN:type_of% @List.mem_range:=@List.mem_range
def dP:type_of% @List.replicate_succ:=@List.replicate_succ
def dQ:type_of% @List.mem_cons_self:=@List.mem_cons_self
def dR:type_of% @Int.mul_le_mul_of_nonneg_right:=@Int.mul_le_mul_of_nonneg_right
def dS:type_of% @List.getElem?_append_left:=@List.getElem?_append_left
def dU:type_of% @List.getElem?_range:=@List.getElem?_range
def dW:type_of% @List.append_nil:=@List.append_nil
def dX:type_of% @List.take_append_drop:=@List.take_append_drop
def dY:type_of% @List.map_take:=@List.map_take
def dZ:type_of% @Int.mul_le_mul_of_nonneg_left:=@Int.mul_le_mul_of_nonneg_left
def d6:type_of% @List.eq_nil_of_length_eq_zero:=@List.eq_nil_of_length_eq_zero
def d7:type_of% @wpAny_truthy_bool:=@wpAny_truthy_bool
def d8:type_of% @Option.map_some:=@Option.map_some
def d9:type_of% @Array.length_toList:=@Array.length_toList
def ed:type_of% @List.getD_eq_getElem?_getD:=@List.getD_eq_getElem?_getD
def ee:type_of% @Int.emod_lt_of_pos:=@Int.emod_lt_of_pos
def ei:type_of% @Nat.lt_irrefl:=@Nat.lt_irrefl
def ew:type_of% @Int.emod_nonneg:=@Int.emod_nonneg
def ez:type_of% @List.nodup_cons:=@List.nodup_cons
def eA:type_of% @beq_eq_false_iff_ne:=@beq_eq_false_iff_ne
def eE:type_of% @Nat.le_of_lt:=@Nat.le_of_lt
def eF:type_of% @Nat.lt_succ_self:=@Nat.lt_succ_self
end
abbrev Β:=Nat->PySem.Addr->Prop
abbrev Δ:=PySem.Value->PySem.Shared->Prop
abbrev Ε:=PySem.Str->Option PySem.Value
abbrev Η:=List (PySem.Str×List Int)
abbrev Θ:=List (PySem.Addr×PySem.Obj)
abbrev Κ:=Nat->List Int
abbrev Λ:=Nat->PySem.Addr
abbrev Μ:=PySem.Addr->Prop
abbrev Ν:=Nat->Fin 3
abbrev Ξ:=List PySem.Value
abbrev Ο:=List Int
abbrev Ρ:=List PySem.Str
abbrev Υ:=List PySem.Addr
abbrev z0:=PySem.W.Frag
abbrev xy:=PySem.Addr
abbrev qa:=PySem.Shared
abbrev qb:=PySem.Value
abbrev qc:=PySem.Stmt
abbrev qd:=PySem.World
abbrev qe:=PySem.Around
abbrev qf:=PySem.Heap
abbrev qg:=PySem.Expr
abbrev qh:=PySem.Program
abbrev qi:=List
abbrev qj:=Option
section
set_option tactic.hygienic false
local macro_rules | `(())=>`(by omega)
local macro_rules | `(∅)=>`(by decide)
namespace L2
open PySem PySem.Spec PyProof.Rows
variable{C a:xy}{op:CmpOp}{tg:qg}{fd:FuncData}{h':qf}{pins:Θ}{kw:qi (Str×qb)}{fp:Υ}{es:qi qg}{body:qi qc}{us:Ξ}{M:Model}{i t':Nat}{P:qh}{s':qa}{x:Str}{mA:Ε}{u:qb}{E Q:Δ}
abbrev Key:=Sum Int Str
noncomputable def yga:Key->qb->Bool
 | .inl k,v=>Value.isInt k v
 | .inr x,v=>Value.isStrOf x v
noncomputable def vf2(w:qd):Key->Int
 | .inl k=>hashInt k
 | .inr x=>hashStr w x
theorem wu:∀{k:Key}{v:qb},yga k v=true->(∃i t,k=Sum.inl i/\v=Value.int i t)\/(∃x t,k=Sum.inr x/\v=Value.str x t)
 | .inl i,v,h=>by
  let⟨t,e⟩:=Value.isInt_shape (k:=i) (v:=v) h;exact .inl ⟨i,t,rfl,e⟩
 | .inr x,v,h=>by
  let⟨t,e⟩:=Value.isStrOf_shape (x:=x) (v:=v) h;exact .inr ⟨x,t,rfl,e⟩
def yhx(i:Int)(t:Tok):yga (.inl i) (.int i t)=true:=by simp[yga,Value.isInt]
def yhn(x:Str)(t:Tok):yga (.inr x) (.str x t)=true:=by simp[yga,Value.isStrOf]
def yx6(a b:Int):decide ((Sum.inl a:Key)=Sum.inl b)=(a == b):=by
 by_cases e:a=b
 .subst e;simp
 .have h:¬(Sum.inl a:Key)=Sum.inl b:=λq=>e (Sum.inl.inj q);rw[cX h];exact(eA.mpr e).symm
def yvy(a b:Str):decide ((Sum.inr a:Key)=Sum.inr b)=decide (a=b):=by
 by_cases e:a=b
 .subst e;simp
 .have h:¬(Sum.inr a:Key)=Sum.inr b:=λq=>e (Sum.inr.inj q);rw[cX h,cX e]
def yyk(a:Int)(b:Str):decide ((Sum.inl a:Key)=Sum.inr b)=false:=cX (λq=>nomatch q)
def yx2(a:Str)(b:Int):decide ((Sum.inr a:Key)=Sum.inl b)=false:=cX (λq=>nomatch q)
def xn(prog:qh)(w:qd):PySem.KeyKind prog w Key where
 is:=yga
 hash:=vf2 w
 inj:=λv a b ha hb=>by
  rcases wu ha with⟨i,t,rfl,rfl⟩|⟨x,t,rfl,rfl⟩
  .rcases wu hb with⟨j,u,rfl,e⟩|⟨y,u,rfl,e⟩
   .injection e with e1 _;rw[e1]
   .exact nomatch e
  .rcases wu hb with⟨j,u,rfl,e⟩|⟨y,u,rfl,e⟩
   .exact nomatch e
   .injection e with e1 _;rw[e1]
 byValue:=λk v h=>by
  rcases wu h with⟨i,t,rfl,rfl⟩|⟨x,t,rfl,rfl⟩<;>rfl
 pyHash:=λhv h=>by
  rcases wu hv with⟨i,t,rfl,rfl⟩|⟨x,t,rfl,rfl⟩
  .exact wpAny_pyHash_int h
  .exact wpAny_pyHash_str h
 eqBool:=λhu hv h=>by
  rcases wu hu with⟨i,t,rfl,rfl⟩|⟨x,t,rfl,rfl⟩
  .rcases wu hv with⟨j,u,rfl,rfl⟩|⟨y,u,rfl,rfl⟩
   .rw[yx6]at h;exact wpAny_eqBool_int h
   .rw[yyk]at h;exact SeqAt.EqAt.int_str i t y u _ _ _ _ h
  .rcases wu hv with⟨j,u,rfl,rfl⟩|⟨y,u,rfl,rfl⟩
   .rw[yx2]at h;exact SeqAt.EqAt.str_int x t j u _ _ _ _ h
   .rw[yvy]at h;exact wpAny_eqBool_str h
 «strs»:=λk x t v h=>by
  rcases wu h with⟨i,u,rfl,e⟩|⟨y,u,rfl,e⟩
  .exact nomatch e
  .injection e with e1 _;subst e1;cases v<;>rfl
def yb4(prog:qh)(w:qd)(i:Int)(t:Tok):(xn prog w).is (.inl i) (.int i t)=true:=yhx i t
def ycd(prog:qh)(w:qd)(x:Str)(t:Tok):(xn prog w).is (.inr x) (.str x t)=true:=yhn x t
inductive V where
 |non|bl (b:Bool)|int (i:Int)|str (x:Str)|byt (b:Array UInt8)|flt (b:UInt64)|ref (a:xy)|ty (n:String)
 deriving DecidableEq
abbrev _root_.Ι:=qi (Str×V)
abbrev _root_.Τ:=qi V
variable{vs xs ys:Τ}{v y:V}
def xj:V->qb->Prop
 | .non,u=>u=Value.none
 | .bl b,u=>u=Value.bool b
 | .int i,u=>∃t,u=Value.int i t
 | .str x,u=>∃t,u=Value.str x t
 | .byt b,u=>∃t,u=Value.bytes b t
 | .flt b,u=>∃t,u=Value.float b t
 | .ref a,u=>u=Value.ref a
 | .ty n,u=>u=Value.type n
abbrev wq:qi V->qi qb->Prop:=Paired xj
theorem wq.length(r:wq xs us):xs.length=us.length:=Paired.length r
theorem wq.get:∀{xs:Τ}{us:Ξ}{i:Nat}{x:V},wq xs us->xs[i]?=some x->∃u,us[i]?=some u/\xj x u
 |_,_,_,_,.nil,e=>by simp at e
 |_,_,0,_,.cons r _,e=>by simp at e;subst e;exists _,rfl,r
 |_,_,i+1,x,.cons _ t,e=>by
  let⟨u,b,a⟩:=wq.get (i:=i) (x:=x) t (by simpa using e);exists u,by simpa using b,a
def wq.append{ws:Ξ}(h:wq xs us)(s:wq ys ws):wq (xs++ys) (us++ws):=by
 induction h with
 |nil=>exact s
 |cons r t ih=>exact .cons r ih
theorem wq.take:∀{xs:Τ}{us:Ξ}(n:Nat),wq xs us->wq (xs.take n) (us.take n)
 |_,_,0,_=>.nil
 |_,_,_+1,.nil=>.nil
 |_,_,n+1,.cons r t=>.cons r (wq.take n t)
theorem wq.drop:∀{xs:Τ}{us:Ξ}(n:Nat),wq xs us->wq (xs.drop n) (us.drop n)
 |_,_,0,r=>r
 |_,_,_+1,.nil=>.nil
 |_,_,n+1,.cons _ t=>wq.drop n t
def yb0:qj V->qj qb->Prop
 |some v,some u=>xj v u
 |none,none=>True
 |_,_=>False
def KV{κ:Type}:qi (κ×V)->qi (κ×qb)->Prop:=Paired λ(p:κ×V)(q:κ×qb)=>p.1=q.1/\xj p.2 q.2
noncomputable def kV:Key->V
 | .inl i=>.int i
 | .inr x=>.str x
inductive HO where
 |lst (xs:Τ)
 |tup (xs:Τ)
 |dK (kvs:qi (Key×V))|dT (kvs:qi (qi Key×V))
 |set (S:Int->Bool) (n:Nat)
 |ins (C dx:xy) (fs:Ι)
 |own (x:xy)
 |xd (fs:Ι)
 |met (f x:xy)
 |rng (lo hi:Int)
 |frz (o:Obj) (u:HO)
 |tbl (ps:Array qb)
 |ext (φ:qf->Prop)
abbrev Hp:=xy->qj HO
variable{H H':Hp}
noncomputable def upd(H:Hp)(a:xy)(o:HO):Hp:=λb=>if b=a then some o else H b
def ya{o:HO}:upd H a o a=some o:=by unfold upd;rw[if_pos rfl]
def yp{b:xy}{o:HO}(h:b≠a):upd H a o b=H b:=by unfold upd;rw[if_neg h]
def xw{b:xy}{o u:HO}(h:H a=some o)(h':H b=some u)(d:o≠u):a≠b:=by intro e;subst e;rw[h]at h';exact d (cJ h')
def yb{b:xy}{o:HO}(h:H a=some o)(h':H b=none):a≠b:=by intro e;subst e;rw[h]at h';cases h'
section
variable(P:qh)(w:qd)
def xl(H:Hp)(h:qf)(a:xy):HO->Prop
 | .lst xs=>xs.length<=sizeLine/\∃(its:Ξ)(n:Nat),wq xs its/\h.get? a=some { cls:=.type "list",data:=.seq its.toArray n}
 | .tup xs=>xs.length<=sizeLine/\∃its:Ξ,wq xs its/\IsTup h a its.toArray
 | .dK kvs=>kvs.length<=sizeLine/\(a == sysModules)=false/\∃vs,KV kvs vs/\h.DictOf (xn P w) a vs
 | .dT kvs=>kvs.length<=sizeLine/\(a == sysModules)=false/\∃xs:qi (qi Key×xy×qb),
   Paired (λ(p:qi Key×V)(q:qi Key×xy×qb)=>p.1=q.1/\H q.2.1=some (.tup (p.1.map kV))/\xj p.2 q.2.2) kvs xs/\
   ∃o es ep,h.get? a=some o/\o.ExactDict/\o.data=.dict es ep/\es.toList=xs.map (entryOfKey (tupleKind (xn P w)))/\(xs.map (·.1)).Nodup
 | .set S n=>h.SetOf (intKind P w) a S n
 | .ins C dx fs=>H dx=some (.own a)/\fs.length<=1000/\dx≠a/\h.get? a=some (W.instObj C dx)/\
   ∃mA,h.Ns1 dx mA/\(∀f,yb0 (fs.lookup f) (mA f))/\PySem.Within mA (fs.map (·.1))
 | .own _=>∃o,h.get? a=some o
 | .xd fs=>∃mA,h.Ns1 a mA/\∀f,yb0 (fs.lookup f) (mA f)
 | .rng lo hi=>∃t u v,h.get? a=some { cls:=.type "range",data:=.fields #[.int lo t,.int hi u,.int 1 v]}
 | .frz o u=>h.get? a=some o/\xl H h a u
 | .tbl ps=>h.get? a=some { cls:=.none,data:=.fields ps}
 | .met f x=>h.get? a=some (W.methodObj (.ref f) (.ref x))
 | .ext φ=>φ h/\(∃o,h.get? a=some o)/\∀h1 h2:qf,φ h1->(∀o,h1.get? a=some o->h2.get? a=some o)->φ h2
def HOk(H:Hp)(h:qf):Prop:=∀a o,H a=some o->xl P w H h a o
end
section
variable{w:qd}{h:qf}{o:HO}
theorem xl.lt(x:xl P w H h a o):a<h.objs.size:=by
 cases o with
 |lst xs=>let⟨_,_,_,_,e⟩:=x;exact cP e
 |tup xs=>let⟨_,_,_,p⟩:=x;exact p.lt
 |dK kvs=>let⟨_,_,_,_,o,_,_,e,_⟩:=x;exact cP e
 |dT kvs=>let⟨_,_,_,_,o,_,_,e,_⟩:=x;exact cP e
 |set S n=>let⟨o,_,_,_,e,_⟩:=x;exact cP e
 |ins C dx fs=>let⟨_,_,_,e,_⟩:=x;exact cP e
 |own y=>let⟨_,e⟩:=x;exact cP e
 |xd fs=>let⟨_,⟨_,_,_,e,_⟩,_⟩:=x;exact cP e
 |rng lo hi=>let⟨_,_,_,e⟩:=x;exact cP e
 |frz ob u=>let⟨e,_⟩:=x;exact cP e
 |tbl ps=>exact cP (show h.get? a=some _ from x)
 |met f y=>exact cP (show h.get? a=some _ from x)
 |ext φ=>let⟨_,⟨_,e⟩,_⟩:=x;exact cP e
def Paired.mapP{α β:Type}{F G:α->β->Prop}{l₁:qi α}{l₂:qi β}(h:Paired F l₁ l₂)(f:∀a b,F a b->G a b):Paired G l₁ l₂:=by
 induction h with
 |nil=>exact .nil
 |cons r t ih=>exact .cons (f _ _ r) ih
def xl.stay(x:xl P w H h a o)(k:∀b u,(b=a\/H b=some (.own a))->h.get? b=some u->h'.get? b=some u)
  (ho:∀b,H b=some (.own a)->H' b=some (.own a)) (ht:∀b xs,H b=some (.tup xs)->H' b=some (.tup xs)):xl P w H' h' a o:=by
 induction o with
 |lst xs=>let⟨z,j,n,r,e⟩:=x;exists z,j,n,r,k _ _ (.inl rfl) e
 |tup xs=>let⟨z,j,r,ob,e,c⟩:=x;exists z,j,r,ob,k _ _ (.inl rfl) e,c
 |dK kvs=>let⟨z,y,B,r,ob,g,i,e,c⟩:=x;exists z,y,B,r,ob,g,i,k _ _ (.inl rfl) e,c
 |dT kvs =>
  let⟨z,y,xs,r,ob,g,i,e,c⟩:=x;exists z,y,xs,Paired.mapP r λp q z=>⟨z.1,ht _ _ z.2.1,z.2.2⟩,ob,g,i,k _ _ (.inl rfl) e,c
 |set S n=>let⟨ob,g,i,t,e,c⟩:=x;exists ob,g,i,t,k _ _ (.inl rfl) e,c
 |ins C dx fs =>
  let⟨d,z,D,e,l,⟨m,g,i,A,c⟩,r⟩:=x;exists ho _ d,z,D,k _ _ (.inl rfl) e,l,⟨m,g,i,k _ _ (.inr d) A,c⟩,r
 |own y=>let⟨ob,e⟩:=x;exists ob,k _ _ (.inl rfl) e
 |xd fs=>let⟨l,⟨m,g,i,e,c⟩,r⟩:=x;exists l,⟨m,g,i,k _ _ (.inl rfl) e,c⟩,r
 |rng lo hi=>let⟨t,u,v,e⟩:=x;exists t,u,v,k _ _ (.inl rfl) e
 |frz ob u ih=>let⟨e,q⟩:=x;exists k _ _ (.inl rfl) e,ih q
 |tbl ps =>
  have e:h.get? a=some { cls:=.none,data:=.fields ps}:=x;show h'.get? a=some { cls:=.none,data:=.fields ps};exact k a _ (.inl rfl) e
 |met f y =>
  have e:h.get? a=some (W.methodObj (.ref f) (.ref y)):=x;show h'.get? a=some (W.methodObj (.ref f) (.ref y));exact k a _ (.inl rfl) e
 |ext φ=>let⟨p,⟨o,e⟩,s⟩:=x;exists s _ _ p λo q=>k _ _ (.inl rfl) q,⟨o,k _ _ (.inl rfl) e⟩,s
theorem HOk.lt(x:HOk P w H h)(e:H a=some o):a<h.objs.size:=(x a o e).lt
def HOk.fresh(x:HOk P w H h)(e:h.objs.size<=a):H a=none:=by
 cases q:H a with
 |none=>rfl
 |some u=>exact absurd (dh (x.lt q) e) (ei _)
def HOk.kept(x:HOk P w H h)(k:∀b u,h.get? b=some u->h'.get? b=some u):HOk P w H h':=λa o e =>
 (x a o e).stay (λb u Z q=>k b u q) (λZ q=>q) λZ Z q=>q
def HOk.laid(x:HOk P w H h)(k:∀b u,h.get? b=some u->h'.get? b=some u)(hp:h.objs.size<=a)(new:xl P w (upd H a o) h' a o):HOk P w (upd H a o) h':=λb u e=>by
 have d:=x.fresh hp;by_cases hb:b=a
 .subst hb;rw[ya]at e;cases e;exact new
 .rw[yp hb]at e;exact(x b u e).stay (λc v Z q=>k c v q) (λc q=>by rw[yp (yb q d)];exact q) λc f q=>by rw[yp (yb q d)];exact q
end
def Rd(H:Hp)(a:xy)(u:HO):Prop:=H a=some u\/∃o,H a=some (.frz o u)
def Rd.of{u:HO}(h:H a=some u):Rd H a u:=.inl h
def Rd.ok{w:qd}{h:qf}{u:HO}(r:Rd H a u)(x:HOk P w H h):xl P w H h a u:=by
 rcases r with r|⟨o,r⟩
 .exact x a u r
 .obtain⟨_,q⟩:=x a _ r;exact q
def Mut:qj HO->Prop
 |some (.lst _)=>True
 |some (.dK _)=>True
 |some (.dT _)=>True
 |some (.set _ _)=>True
 |some (.ins _ _ _)=>True
 |some (.ext _)=>True
 |_=>False
section
variable{w:qd}{h:qf}{x e:xy}{o':HO}
def HOk.write(ok:HOk P w H h)(mu:Mut (H x))(he:e=x\/H e=some (.own x))(k:∀b u,b≠e->h.get? b=some u->h'.get? b=some u)(heo:∃u,h'.get? e=some u)
  (new:xl P w (upd H x o') h' x o'):HOk P w (upd H x o') h':=λb u q=>by
 have a:∀c y,H c=some (.own y)->c≠x:=λc y r z=>by subst z;rw[r]at mu;exact mu
 have d:∀c g,H c=some (.tup g)->c≠x:=λc g r z=>by subst z;rw[r]at mu;exact mu
 by_cases hb:b=x
 .subst hb;rw[ya]at q;cases q;exact new
 .rw[yp hb]at q;by_cases hbe:b=e
  .have i:H b=some (.own x):=by
    rcases he with z|z
    .exact absurd (hbe.trans z) hb
    .rw[hbe];exact z
   rw[q]at i;cases i;let⟨v,j⟩:=heo;exists v,by rw[hbe];exact j
  .refine(ok b u q).stay (λc v f r=>k c v ?_ r) (λc r=>by rw[yp (a c b r)];exact r) λc g r=>by rw[yp (d c g r)];exact r
   rcases f with rfl|f
   .exact hbe
   .rintro rfl;rcases he with z|z
    .exact a c b f z
    .rw[f]at z;cases z;exact hb rfl
end
structure Un(fs ex:Υ)(H H':Hp)(h h':qf):Prop where
 keep:∀b o,h.get? b=some o->H b=none->b∉fs->b∉ex->h'.get? b=some o
 slot:∀b o,h.get? b=some o->H b=none->b∈fs->b∉ex->∃sl,h'.get? b=some {o with slots:=sl}
 free:∀b o,h.get? b=some o->H b=none->b∉ex->H' b=none
 there:∀b o,h.get? b=some o->b∉ex->∃o',h'.get? b=some o'
 tups:∀b xs,H b=some (.tup xs)->H' b=some (.tup xs)
 frzs:∀b o u,H b=some (.frz o u)->H' b=some (.frz o u)
 tbls:∀b ps,H b=some (.tbl ps)->∃more,H' b=some (.tbl (ps++more))
section
variable{fs fs' ex ex':Υ}{H1 H2:Hp}{h h1 h2:qf}{x e:xy}{o:HO}
def Un.any(u:Un fs ex H H1 h h1){b:xy}{ob:Obj}(q:h.get? b=some ob)(n:H b=none)(hx:b∉ex):∃sl,h1.get? b=some {ob with slots:=sl}:=by
 by_cases hb:b∈fs
 .exact u.slot b ob q n hb hx
 .exists ob.slots,u.keep b ob q n hb hx
def Un.kept(k:∀b u,h.get? b=some u->h'.get? b=some u):Un fs ex H H h h' :=
 ⟨λb a q Z Z Z=>k b a q,λb a q Z Z Z=>⟨a.slots,k b a q⟩,λZ Z Z n Z=>n,λb a q Z=>⟨a,k b a q⟩,λZ Z q=>q,λZ Z Z q=>q,λZ c q=>⟨#[],by rw[q];simp⟩⟩
def Un.refl:Un fs ex H H h h:=Un.kept λZ Z q=>q
def Un.laid(k:∀b u,h.get? b=some u->h'.get? b=some u)(hp:h.objs.size<=a)(hn:H a=none):Un fs ex H (upd H a o) h h' where
 keep:=λb u q Z Z Z=>k b u q
 slot:=λb u q Z Z Z=>⟨u.slots,k b u q⟩
 free:=λb u q n Z=>by rw[yp (di (dh (cP q) hp))];exact n
 there:=λb u q Z=>⟨u,k b u q⟩
 tups:=λb c q=>by rw[yp (yb q hn)];exact q
 frzs:=λb u c q=>by rw[yp (yb q hn)];exact q
 tbls:=λb d q=>⟨#[],by rw[yp (yb q hn),q];simp⟩
def Un.write(mu:Mut (H x))(he:e=x\/H e=some (.own x))(k:∀b u,b≠e->h.get? b=some u->h'.get? b=some u)(heo:∃u,h'.get? e=some u):Un fs ex H (upd H x o) h h':=by
 have d:∀b,H b=none->b≠x:=λb n z=>by subst z;rw[n]at mu;exact mu
 have c:∀b,H b=none->b≠e:=λb n z=>by
  subst z;rcases he with r|r
  .exact d b n r
  .rw[n]at r;cases r
 have a:∀b u,H b=some u->¬Mut (some u)->b≠x:=λb u q f z=>by subst z;rw[q]at mu;exact f mu
 refine⟨λb u q n Z Z=>k b u (c b n) q,λb u q n Z Z=>⟨u.slots,k b u (c b n) q⟩,λb u q n Z=>by rw[yp (d b n)];exact n,λb u q Z=>?_,
  λb g q=>by rw[yp (a b _ q λz=>z)];exact q,λb u g q=>by rw[yp (a b _ q λz=>z)];exact q,λb i q=>⟨#[],by rw[yp (a b _ q λz=>z),q];simp⟩⟩
 by_cases hbe:b=e
 .subst hbe;exact heo
 .exists u,k b u hbe q
end
noncomputable def trk(h:qf)(H:Hp):Υ:=(List.range h.objs.size).filter λa=>(H a).isSome
def ynd(h:qf)(H:Hp):qf:=W.hideAll h (trk h H)
def yh6(h:qf)(H:Hp):(ynd h H).objs.size=h.objs.size:=W.hideAll_size _ _
def yl6{h:qf}{b:xy}{o:Obj}(e:h.get? b=some o)(n:H b=none):(ynd h H).get? b=some o :=
 W.hideAll_get _ e λa=>by
  have q:(H b).isSome=true:=(List.mem_filter.mp a).2;rw[n]at q;simp at q
def ysa{h:qf}{b:xy}{o:Obj}(e:(ynd h H).get? b=some o):h.get? b=some o/\H b=none:=by
 have a:h.get? b=some o:=W.of_hideAll (trk h H) e;exists a,?_
 cases q:H b with
 |none=>rfl
 |some x =>
  have c:b∈trk h H:=List.mem_filter.mpr ⟨dN.mpr (cP a),by simp[q]⟩;have z:(ynd h H).get? b=none:=W.hideAll_none (trk h H) c;rw[z]at e;cases e
noncomputable def yqf(g h:qf)(L:xy):Θ:=(List.range h.objs.size).filterMap λa=>if a=L\/(g.get? a).isSome=true then none else (h.get? a).map λo=>(a,o)
def vt(g h:qf)(L d:xy):Θ:=(yqf g h L).filter λp=>decide (p.1≠d)
structure Mod(K:z0)(mg:Ε)(base:qf):Prop where
 kin:K.In base
 glob:base.Ns mainGlobals mg
 blt:∃mb,base.Ns builtinsNs mb/\∀x:Str,x≠"__name__"->mb x=bootBuiltins x
 nolimit:base.NoLimit
structure Cx where
 prog:qh
 w:qd
 K:z0
 mg:Ε
 base:qf
 A:qe
 N:Ρ
 s₀:qa
 H₀:Hp
 env:Env
 outer:qi Env
 stack:qi Env
 ex:Υ
 fn:Str->Bool
 calm:Bool
 pn:Θ
 xe:Δ
variable{X:Cx}
noncomputable def frs(l:qi Env):Υ:=l.filterMap (·.frame)
abbrev Cx.fs(X:Cx):Υ:=frs X.outer
def Vis(sc:Scope)(x:Str):Prop:=sc.names.lookup x=some .local\/sc.names.lookup x=some .cell\/sc.names.lookup x=some .free
def Loc(sc:Scope)(x:Str):Prop:=sc.names.lookup x=some .local\/sc.names.lookup x=some .cell
def vf6(env:Env)(h:qf)(m:Ε)(x:Str)(u:qb):Prop :=
 (env.kindOf x=some .local/\m x=some u)\/((env.kindOf x=some .cell\/env.kindOf x=some .free)/\∃c,env.cells.lookup x=some c/\h.IsCell c (some u))
structure Cx.Ok(X:Cx):Prop where
 mod:Mod X.K X.mg X.base
 kind:X.env.scope.kind=.function
 glob:X.env.globals=mainGlobals
 blt:X.env.builtins=builtinsNs
 above:X.s₀.heap.objs.size<=X.env.locals
 inj:∀x y c,X.env.cells.lookup x=some c->X.env.cells.lookup y=some c->x=y
 has:∀x,(X.env.kindOf x=some .cell\/X.env.kindOf x=some .free)->∃c,X.env.cells.lookup x=some c
 cab:∀x c,X.fn x=true->X.env.cells.lookup x=some c->X.s₀.heap.objs.size<=c
 hd:X.calm=true->X.A.handled=none
 frames:X.A.frames=some X.stack
 stk:X.stack=X.outer\/(X.stack=X.env::X.outer/\X.env.frame=some X.env.locals)
 exf:∀b∈X.ex,b≠X.env.locals/\∀x c,X.env.cells.lookup x=some c->c≠b
 bs:∀b o,X.base.get? b=some o->X.s₀.heap.get? b=some o/\X.H₀ b=none
 bsz:X.base.objs.size<=X.s₀.heap.objs.size
 noex:∀b o,X.base.get? b=some o->b∉X.ex
 exfs:∀b∈X.ex,b∉X.fs
 funs:X.s₀.heap.FunFrames X.base X.outer
 frf:∀b∈X.fs,X.H₀ b=none
structure Inv(X:Cx)(pins:Θ)(σ:qi (qj V))(H:Hp)(s:qa):Prop where
 ok:X.Ok
 os:s.os=X.s₀.os
 bare:AllBare s.gens
 base:Un X.fs X.ex X.H₀ H X.s₀.heap s.heap
 loc:∃m,s.heap.Ns X.env.locals m/\∀(i:Nat)(x:Str)(v:V),X.N[i]?=some x->σ[i]?=some (some v)->Vis X.env.scope x->∃u,xj v u/\vf6 X.env s.heap m x u
 cell:∀x c,X.env.cells.lookup x=some c->∃v,s.heap.IsCell c v
 free:H X.env.locals=none
 freeC:∀x c,X.env.cells.lookup x=some c->H c=none
 pin:∀p∈X.pn++pins,s.heap.get? p.1=some p.2/\H p.1=none/\p.1≠X.env.locals/\p.1∉X.fs/\∀v,p.2.data≠.cell v
 hok:HOk X.prog X.w H s.heap
 len:σ.length=X.N.length
section
variable{σ:qi (qj V)}{s:qa}
def Cx.Ok.nofr(ok:X.Ok){b:xy}{o:Obj}(e:X.base.get? b=some o):b∉X.fs:=λa=>by
 have:=(ok.funs.mem a).1;rw[e]at this;cases this
theorem Inv.bs(I:Inv X pins σ H s):∀b o,X.base.get? b=some o->s.heap.get? b=some o/\H b=none:=λb o e =>
 ⟨I.base.keep b o (I.ok.bs b o e).1 (I.ok.bs b o e).2 (I.ok.nofr e) (I.ok.noex b o e),I.base.free b o (I.ok.bs b o e).1 (I.ok.bs b o e).2 (I.ok.noex b o e)⟩
def Inv.bk(I:Inv X pins σ H s):∀b o,X.base.get? b=some o->s.heap.get? b=some o:=λb o e=>(I.bs b o e).1
theorem Inv.mod(I:Inv X pins σ H s):Mod X.K X.mg X.base:=I.ok.mod
def Inv.kIn(I:Inv X pins σ H s):X.K.In s.heap:=I.ok.mod.kin.keeps I.bk
theorem Inv.lt(I:Inv X pins σ H s):X.env.locals<s.heap.objs.size:=let ⟨_,hn,_⟩:=I.loc;hn.lt
def Inv.sz(I:Inv X pins σ H s):X.s₀.heap.objs.size<=s.heap.objs.size:=dB I.ok.above (eE I.lt)
def Inv.nofs(I:Inv X pins σ H s)(h:s.heap.objs.size<=a):a∉X.fs:=λc=>by
 let⟨_,o,b,_⟩:=I.ok.funs.mem c;exact absurd (dh (cP b) (dB I.sz h)) (ei _)
def Inv.cne(I:Inv X pins σ H s):∀x c,X.env.cells.lookup x=some c->c≠X.env.locals:=λx c e z=>by
 let⟨v,o,f,d⟩:=I.cell x c e;let⟨m,⟨g,h,i,b,a,_⟩,_⟩:=I.loc;rw[z,b]at f;cases f;rw[a]at d;cases d
theorem Inv.funs(I:Inv X pins σ H s):s.heap.FunFrames X.base X.outer:=by
 have a:∀(l:qi Env),(∀b∈frs l,b∈X.fs)->X.s₀.heap.FunFrames X.base l->s.heap.FunFrames X.base l:=by
  intro l
  induction l with
  |nil=>intro _ _;trivial
  |cons env r ih =>
   intro g j;let⟨m,⟨L,o,c,i,k,h⟩,n⟩:=j;have d:L∈X.fs:=g L (by unfold frs;rw[List.filterMap_cons,c];exact dQ);let⟨p,e⟩:=I.base.slot L o k (I.ok.frf L d) d λz=>I.ok.exfs L z d;exists m,⟨L,_,c,i,e,h⟩,ih (λb f=>g b (by unfold frs;rw[List.filterMap_cons,c];exact dz _ f)) n
 exact a X.outer (λZ f=>f) I.ok.funs
theorem Inv.stack(I:Inv X pins σ H s):s.heap.FunFrames X.base X.stack:=by
 rcases I.ok.stk with e|⟨e,b⟩
 .rw[e];exact I.funs
 .rw[e];let⟨m,a,_⟩:=I.loc;refine .cons (by rw[I.ok.kind];decide) b a ?_ I.funs;exact Heap.get?_none_of_le (dB I.ok.bsz I.ok.above)
def Inv.stkSub(I:Inv X pins σ H s):∀b∈frs X.stack,b∈X.env.locals::X.fs:=λb a=>by
 rcases I.ok.stk with e|⟨e,c⟩
 .rw[e]at a;exact dz _ a
 .rw[e]at a;unfold frs at a;rw[List.filterMap_cons,c]at a;exact a
def Inv.stkFree(I:Inv X pins σ H s):∀b∈frs X.stack,H b=none:=λb a=>by
 rcases cS.mp (I.stkSub b a)with e|a
 .rw[e];exact I.free
 .obtain⟨_,o,c,_⟩:=I.ok.funs.mem a;exact I.base.free b o c (I.ok.frf b a) λz=>I.ok.exfs b z a
def Inv.step{g':Array GenState}{d':Drawn}{ch:Υ}(I:Inv X pins σ H s)
  (hch:∀b∈ch,(b∈X.ex\/X.s₀.heap.objs.size<=b)/\b≠X.env.locals/\(∀x c,X.env.cells.lookup x=some c->c≠b)/\∀p∈X.pn++pins,p.1≠b)
  (keep:∀b o,b≠X.env.locals->b∉X.fs->b∉ch->s.heap.get? b=some o->H b=none->h'.get? b=some o)
  (slot:∀b o,b≠X.env.locals->b∈X.fs->b∉ch->s.heap.get? b=some o->H b=none->∃sl,h'.get? b=some {o with slots:=sl}) (free:∀b o,b∉ch->s.heap.get? b=some o->H b=none->H' b=none)
  (there:∀b o,b∉ch->s.heap.get? b=some o->∃o',h'.get? b=some o')
  (tups:∀b xs,H b=some (.tup xs)->H' b=some (.tup xs)) (frzs:∀b o u,H b=some (.frz o u)->H' b=some (.frz o u)) (tbls:∀b ps,H b=some (.tbl ps)->∃more,H' b=some (.tbl (ps++more)))
  (ns:∀m,s.heap.Ns X.env.locals m->h'.Ns X.env.locals m) (hok:HOk X.prog X.w H' h') (hg:AllBare g'):
  Inv X pins σ H' {s with heap:=h',gens:=g',drawn:=d',toks:=t'}:=by
 have B:∀b o,X.s₀.heap.get? b=some o->b≠X.env.locals:=λb o e=>di (dh (cP e) I.ok.above)
 have h:∀b o,X.s₀.heap.get? b=some o->b∉X.ex->b∉ch:=λb o e a t=>by
  rcases (hch b t).1 with z|z
  .exact a z
  .exact absurd (dh (cP e) z) (ei _)
 have g:∀x c,X.env.cells.lookup x=some c->∀v,s.heap.IsCell c v->h'.IsCell c v:=λx c e v ⟨o,y,C⟩=>by
  have f:c∉ch:=λz=>(hch c z).2.2.1 x c e rfl;by_cases hc:c∈X.fs
  .obtain⟨sl,q⟩:=slot c o (I.cne x c e) hc f y (I.freeC x c e);exists _,q,C
  .exists o,keep c o (I.cne x c e) hc f y (I.freeC x c e),C
 exists I.ok,I.os,hg,⟨λb o e n t a=>?_,λb o e n t a=>?_,λb o e n a=>?_,λb o e a=>?_,λb xs e=>tups b xs (I.base.tups b xs e),λb o xs e=>frzs b o xs (I.base.frzs b o xs e),λb ps e=>?_⟩,?_,λx c e=>?_,?_,λx c e=>?_,λp G=>?_,hok,I.len
 .exact keep b o (B b o e) t (h b o e a) (I.base.keep b o e n t a) (I.base.free b o e n a)
 .obtain⟨sl,j⟩:=I.base.slot b o e n t a;let⟨D,A⟩:=slot b _ (B b o e) t (h b o e a) j (I.base.free b o e n a);exists D,A
 .obtain⟨o',j⟩:=I.base.there b o e a;exact free b o' (h b o e a) j (I.base.free b o e n a)
 .obtain⟨o',j⟩:=I.base.there b o e a;exact there b o' (h b o e a) j
 .obtain⟨K,j⟩:=I.base.tbls b ps e;let⟨L,A⟩:=tbls b _ j;exists K++L,by rw[A,Array.append_assoc]
 .obtain⟨m,M,N⟩:=I.loc;exists m,ns m M,λi x v j A J=>?_;let⟨u,r,l⟩:=N i x v j A J;exists u,r,?_;rcases l with l|⟨k,c,e,z⟩
  .exact .inl l
  .exact .inr ⟨k,c,e,g x c e _ z⟩
 .obtain⟨v,z⟩:=I.cell x c e;exists v,g x c e v z
 .obtain⟨m,⟨o,_,_,y,_⟩,_⟩:=I.loc;exact free _ o (λz=>(hch _ z).2.1 rfl) y I.free
 .obtain⟨v,o,y,C⟩:=I.cell x c e;exact free c o (λz=>(hch c z).2.2.1 x c e rfl) y (I.freeC x c e)
 .obtain⟨e,n,F,E,d⟩:=I.pin p G;have f:p.1∉ch:=λz=>(hch p.1 z).2.2.2 p G rfl;exists keep p.1 p.2 F E f e n,free p.1 p.2 f e n,F,E,d
def Inv.un(I:Inv X pins σ H s)(u:Un X.fs [] H H' s.heap h')(hok:HOk X.prog X.w H' h'):Inv X pins σ H' {s with heap:=h',toks:=t'}:=by
 let⟨m,⟨o,q,t,g,r⟩,_⟩:=id I.loc;let⟨k,i⟩:=u.any g I.free (by simp)
 exact I.step (g':=s.gens) (d':=s.drawn) (ch:=[]) (λZ z=>nomatch z) (λb o Z f Z e n=>u.keep b o e n f (by simp)) (λb o Z f Z e n=>u.slot b o e n f (by simp)) (λb o Z e n=>u.free b o e n (by simp)) (λb o Z e=>u.there b o e (by simp)) u.tups u.frzs u.tbls (λl j=>by
  let⟨p,c,d,a,h⟩:=j;rw[g]at a;cases a;exact⟨_,c,d,i,h⟩) hok I.bare
def Inv.call{g':Array GenState}{d':Drawn}{ch:Υ}(I:Inv X pins σ H s)(u:Un (frs X.stack) ch H H' s.heap h')(hok:HOk X.prog X.w H' h')(hg:AllBare g')
  (hch:∀b∈ch,(b∈X.ex\/X.s₀.heap.objs.size<=b)/\b≠X.env.locals/\(∀x c,X.env.cells.lookup x=some c->c≠b)/\∀p∈X.pn++pins,p.1≠b):
  Inv X pins σ H' {s with heap:=h',gens:=g',drawn:=d',toks:=t'}:=by
 let⟨m,⟨o,y,A,i,r⟩,_⟩:=id I.loc;let⟨q,g⟩:=u.any i I.free λz=>(hch _ z).2.1 rfl
 exact I.step (ch:=ch) hch (λb o g l a e n=>u.keep b o e n (λz=>(cS.mp (I.stkSub b z)).elim g l) a) (λb o Z Z a e n=>u.any e n a) (λb o a e n=>u.free b o e n a) (λb o a e=>u.there b o e a) u.tups u.frzs u.tbls (λt k=>by
  let⟨v,f,h,d,j⟩:=k;rw[i]at d;cases d;exact⟨_,f,h,g,j⟩) hok hg
def Inv.turned{it:xy}(I:Inv X pins σ H s)(k:∀b o,b≠it->s.heap.get? b=some o->h'.get? b=some o)(hn:H it=none)(hL:it≠X.env.locals)
  (h1:it∈X.ex\/X.s₀.heap.objs.size<=it) (h2:∀x c,X.env.cells.lookup x=some c->c≠it) (h3:∀p∈X.pn++pins,p.1≠it):Inv X pins σ H {s with heap:=h',toks:=t'}:=by
 have d:∀b u,H b=some u->b≠it:=λb u e z=>by rw[z,hn]at e;cases e
 refine I.step (g':=s.gens) (d':=s.drawn) (ch:=[it]) (λb j=>?_) (λb o Z Z a e Z=>k b o (λz=>a (by simp[z])) e) (λb o Z Z a e Z=>⟨o.slots,k b o (λz=>a (by simp[z])) e⟩) (λZ Z Z Z n=>n)
  (λb o a e=>⟨o,k b o (λz=>a (by simp[z])) e⟩) (λZ Z e=>e) (λZ Z Z e=>e) (λb l e=>⟨#[],by rw[e];simp⟩) (λm i=>?_) (λb u e=>?_) I.bare
 .have e:b=it:=by simpa using j
  subst e;exact⟨h1,hL,h2,h3⟩
 .obtain⟨o,f,h,g,r⟩:=i;exists o,f,h,k _ o (Ne.symm hL) g,r
 .refine(I.hok b u e).stay (λc v a q=>k c v ?_ q) (λZ q=>q) λZ Z q=>q;rcases a with z|z
  .rw[z];exact d b u e
  .exact d c _ z
def Inv.tok(I:Inv X pins σ H s)(t:Nat):Inv X pins σ H {s with toks:=t}:=I.un (h':=s.heap) (t':=t) Un.refl I.hok
theorem Inv.kept(I:Inv X pins σ H s)(k:∀b u,s.heap.get? b=some u->h'.get? b=some u):Inv X pins σ H {s with heap:=h',toks:=t'}:=I.un (Un.kept k) (I.hok.kept k)
theorem Inv.laid{o:HO}(I:Inv X pins σ H s)(k:∀b u,s.heap.get? b=some u->h'.get? b=some u)(hp:s.heap.objs.size<=a)(new:xl X.prog X.w (upd H a o) h' a o):
  Inv X pins σ (upd H a o) {s with heap:=h',toks:=t'}:=I.un (Un.laid k hp (I.hok.fresh hp)) (I.hok.laid k hp new)
theorem Inv.write{x e:xy}{o:HO}(I:Inv X pins σ H s)(mu:Mut (H x))(he:e=x\/H e=some (.own x))(k:∀b u,b≠e->s.heap.get? b=some u->h'.get? b=some u)(heo:∃u,h'.get? e=some u)
  (new:xl X.prog X.w (upd H x o) h' x o):Inv X pins σ (upd H x o) {s with heap:=h',toks:=t'}:=I.un (Un.write mu he k heo) (I.hok.write mu he k heo new)
def Inv.pins_of{pins':Θ}(I:Inv X pins σ H s)(h:∀p∈pins',s.heap.get? p.1=some p.2/\H p.1=none/\p.1≠X.env.locals/\p.1∉X.fs/\∀v,p.2.data≠.cell v):Inv X pins' σ H s :=
 ⟨I.ok,I.os,I.bare,I.base,I.loc,I.cell,I.free,I.freeC,λp a=>(db.mp a).elim (λz=>I.pin p (dA _ z)) (h p),I.hok,I.len⟩
def ű{N:Ρ}(hN:N.Nodup){j:Nat}(a:N[i]?=some x)(b:N[j]?=some x):i=j:=by let⟨f,c⟩:=cF.mp a;let⟨e,d⟩:=cF.mp b;exact(List.getElem_inj hN).mp (c.trans d.symm)
def Ì{A:qe}{Q:Unit->qa->Prop}(I:Inv X pins σ H s)(hN:X.N.Nodup)(hi:X.N[i]?=some x)(hx:Loc X.env.scope x)(r:xj v u)
  (h:∀s',Inv X pins (σ.set i (some v)) H s'->(∃a,Heap.SameBut a s.heap s'.heap/\(a=X.env.locals\/X.env.cells.lookup x=some a))->Q ⟨⟩ s') (hf:autoParam (X.fn x=true\/X.env.scope.names.lookup x=some .local) aA._auto_1):wpAny M A (storeName X.env x u) Q E s:=by
 let⟨m,hn,hl⟩:=id I.loc;have P:(X.env.scope.kind == .class || (X.env.scope.kind == .module && X.env.locals != X.env.globals))=false:=by rw[I.ok.kind];rfl
 have hiσ:i<σ.length:=by rw[I.len];exact(cF.mp hi).1
 have G:=I.cne
 have g:∀{a:xy}{K:qf},(∃o,s.heap.get? a=some o/\H a=none)->Heap.SameBut a s.heap K->HOk X.prog X.w H K:=λ{a K}ha f b ob e=>by
  let⟨_,_,B⟩:=ha;refine(I.hok b ob e).stay (λc S t q=>(f.2 c ?_).trans q) (λN q=>q) λN N q=>q;rintro rfl;rcases t with rfl|t
  .rw[B]at e;cases e
  .rw[B]at t;cases t
 rcases hx with D|D
 .refine wpAny_storeName_local D hn (λK a0 f=>?_) P;let⟨oL,_,_,Y,_⟩:=id hn;refine h _ ⟨I.ok,I.os,I.bare,⟨λb o e n J hx=>?_,λb o e n J hx=>?_,I.base.free,λb o e hx=>?_,I.base.tups,I.base.frzs,I.base.tbls⟩,⟨_,a0,λj y v' l C e3=>?_⟩,λy c e=>?_,I.free,I.freeC,λp hp=>?_,g ⟨oL,Y,I.free⟩ f,by simpa using I.len⟩ ⟨_,f,.inl rfl⟩
  .exact(f.2 b (di (dh (cP e) I.ok.above))).trans (I.base.keep b o e n J hx)
  .obtain⟨W,l⟩:=I.base.slot b o e n J hx;exists W,(f.2 b (di (dh (cP e) I.ok.above))).trans l
  .obtain⟨o',l⟩:=I.base.there b o e hx;exists o',(f.2 b (di (dh (cP e) I.ok.above))).trans l
  .by_cases hj:j=i
   .subst hj;rw[hi]at l;cases l;rw[List.getElem?_set_self hiσ]at C;cases C;exists u,r,.inl ⟨D,by simp⟩
   .rw[List.getElem?_set_ne (Ne.symm hj)]at C;let⟨Z,r',q⟩:=hl j y v' l C e3;exists Z,r',?_;rcases q with⟨k,e⟩|⟨k,c,e,z⟩
    .refine .inl ⟨k,?_⟩;have:y≠x:=λe=>hj (ű hN l (e ▸ hi));simp[this,e]
    .exact .inr ⟨k,c,e,z.sameBut f (G y c e)⟩
  .obtain⟨S,z⟩:=I.cell y c e;exists S,z.sameBut f (G y c e)
  .obtain⟨e,n,U,nf,d⟩:=I.pin p hp;exists(f.2 p.1 U).trans e,n,U,nf,d
 .have F:X.fn x=true:=by
   rcases hf with z|z
   .exact z
   .rw[z]at D;cases D
  let⟨c,t⟩:=I.ok.has x (.inl D);let⟨S,z⟩:=I.cell x c t;refine wpAny_storeName_cell I.ok.kind D t z (λK O f=>?_);let⟨oc,R,L⟩:=id z;refine h {s with heap:=K} ⟨I.ok,I.os,I.bare,⟨λb o e n J hx=>?_,λb o e n J hx=>?_,I.base.free,λb o e hx=>?_,I.base.tups,I.base.frzs,I.base.tbls⟩,⟨m,hn.sameBut f (Ne.symm (G x c t)),λj y v' l C e3=>?_⟩,λy T e=>?_,I.free,I.freeC,λp hp=>?_,g ⟨oc,R,I.freeC x c t⟩ f,by simpa using I.len⟩ ⟨c,f,.inr t⟩
  .exact(f.2 b (di (dh (cP e) (I.ok.cab x c F t)))).trans (I.base.keep b o e n J hx)
  .obtain⟨W,l⟩:=I.base.slot b o e n J hx;exists W,(f.2 b (di (dh (cP e) (I.ok.cab x c F t)))).trans l
  .obtain⟨o',l⟩:=I.base.there b o e hx;exists o',(f.2 b (di (dh (cP e) (I.ok.cab x c F t)))).trans l
  .by_cases hj:j=i
   .subst hj;rw[hi]at l;cases l;rw[List.getElem?_set_self hiσ]at C;cases C;exists u,r,.inr ⟨.inl D,c,t,O⟩
   .rw[List.getElem?_set_ne (Ne.symm hj)]at C;let⟨Z,r',q⟩:=hl j y v' l C e3;exists Z,r',?_;rcases q with q|⟨k,T,e,z'⟩
    .exact .inl q
    .refine .inr ⟨k,T,e,z'.sameBut f ?_⟩;rintro rfl;exact hj (ű hN l (I.ok.inj _ _ _ e t ▸ hi))
  .by_cases hcc:T=c
   .subst hcc;exists _,O
   .obtain⟨w2,z2⟩:=I.cell y T e;exists w2,z2.sameBut f hcc
  .obtain⟨e,n,U,nf,d⟩:=I.pin p hp;exists(f.2 p.1 ?_).trans e,n,U,nf,d;intro q;rw[q,R]at e;have q':oc=p.2:=cJ e;exact d S (by rw[<- q'];exact L)
def ú{A:qe}{Q:Unit->qa->Prop}(I:Inv X pins σ H s)(hN:X.N.Nodup)(hi:X.N[i]?=some x)(hx:Loc X.env.scope x)(r:xj v u)
  (h:∀s',Inv X pins (σ.set i (some v)) H s'->Q ⟨⟩ s') (hf:autoParam (X.fn x=true\/X.env.scope.names.lookup x=some .local) aA._auto_1):wpAny M A (storeName X.env x u) Q E s :=
 Ì I hN hi hx r (λs' a Z=>h s' a) hf
def Inv.call'{ch:Υ}(I:Inv X pins σ H s)(ho:s'.os=s.os)(u:Un (frs X.stack) ch H H' s.heap s'.heap)(hok:HOk X.prog X.w H' s'.heap)(hg:AllBare s'.gens)
  (hch:∀b∈ch,(b∈X.ex\/X.s₀.heap.objs.size<=b)/\b≠X.env.locals/\(∀x c,X.env.cells.lookup x=some c->c≠b)/\∀p∈X.pn++pins,p.1≠b):Inv X pins σ H' s':=by let⟨d,g',d',t',a⟩:=s';have e:a=s.os:=ho;subst e;exact I.call (g':=g') (t':=t') (d':=d') u hok hg hch
end
abbrev XK:=qb->qj xy->Hp->Prop
abbrev St:=qi (qj V)
abbrev _root_.Ζ:=St->Hp->Prop
variable{σ:St}
abbrev VK:=V->Hp->Prop
abbrev TE:=St->Hp->VK->Prop
variable{ta te:TE}
abbrev TT:=St->Hp->(Bool->Hp->Prop)->Prop
abbrev TA:=St->Hp->(qi V->Hp->Prop)->Prop
structure Ŕ where
 nx:Ζ
 rt:VK
 bk:Ζ:=λZ Z=>False
 ct:Ζ:=λZ Z=>False
abbrev TS:=Ŕ->St->Hp->Prop
def EP(X:Cx)(pins:Θ)(σ:St)(Q:VK)(u:qb)(s':qa):Prop:=∃v H',Inv X pins σ H' s'/\xj v u/\Q v H'
def TP(X:Cx)(pins:Θ)(σ:St)(Q:Bool->Hp->Prop)(b:Bool)(s':qa):Prop:=∃H',Inv X pins σ H' s'/\Q b H'
def AP(X:Cx)(pins:Θ)(σ:St)(Q:qi V->Hp->Prop)(us:Ξ)(s':qa):Prop:=∃vs H',Inv X pins σ H' s'/\wq vs us/\Q vs H'
def SP(X:Cx)(pins:Θ)(D:Ŕ)(f:Flow)(s':qa):Prop :=
 match f with
 | .next=>∃σ' H',Inv X pins σ' H' s'/\D.nx σ' H'
 | .brk=>∃σ' H',Inv X pins σ' H' s'/\D.bk σ' H'
 | .cont=>∃σ' H',Inv X pins σ' H' s'/\D.ct σ' H'
 | .ret u=>∃v σ' H',Inv X pins σ' H' s'/\xj v u/\D.rt v H'
structure PE(X:Cx)(e:qg)(t:TE):Prop where
 go:∀(pins:Θ)(s:qa)(σ:St)(H:Hp)(Q:VK),Inv X pins σ H s->t σ H Q->wpAny (model X.prog X.w) X.A (eval e X.env) (EP X pins σ Q) X.xe s
instance {X:Cx}{e:qg}{t:TE}:CoeFun (PE X e t) (λZ=>∀(pins:Θ)(s:qa)(σ:St)(H:Hp)(Q:VK),Inv X pins σ H s->t σ H Q->wpAny (model X.prog X.w) X.A (eval e X.env) (EP X pins σ Q) X.xe s):=⟨PE.go⟩
structure PT(X:Cx)(e:qg)(t:TT):Prop where
 go:∀(pins:Θ)(s:qa)(σ:St)(H:Hp)(Q:Bool->Hp->Prop),Inv X pins σ H s->t σ H Q->wpAny (model X.prog X.w) X.A (isTrue e X.env (eval e X.env)) (TP X pins σ Q) X.xe s
instance {X:Cx}{e:qg}{t:TT}:CoeFun (PT X e t) (λZ=>∀(pins:Θ)(s:qa)(σ:St)(H:Hp)(Q:Bool->Hp->Prop),Inv X pins σ H s->t σ H Q->wpAny (model X.prog X.w) X.A (isTrue e X.env (eval e X.env)) (TP X pins σ Q) X.xe s):=⟨PT.go⟩
def PW(X:Cx)(e:qg)(t:TT):Prop :=
 ∀(whole:Sem qb)(pins:Θ)(s:qa)(σ:St)(H:Hp)(Q:Bool->Hp->Prop),Inv X pins σ H s->t σ H Q->wpAny (model X.prog X.w) X.A (isTrue e X.env whole) (TP X pins σ Q) X.xe s
def PW.pt{e:qg}{t:TT}(h:PW X e t):PT X e t:=⟨h _⟩
structure PA(X:Cx)(es:qi qg)(t:TA):Prop where
 go:∀(pos:Pos)(pins:Θ)(s:qa)(σ:St)(H:Hp)(Q:qi V->Hp->Prop),Inv X pins σ H s->t σ H Q->wpAny (model X.prog X.w) X.A (spliced (backTo pos (starEach es X.env))) (AP X pins σ Q) X.xe s
instance {X:Cx}{es:qi qg}{t:TA}:CoeFun (PA X es t) (λZ=>∀(pos:Pos)(pins:Θ)(s:qa)(σ:St)(H:Hp)(Q:qi V->Hp->Prop),Inv X pins σ H s->t σ H Q->wpAny (model X.prog X.w) X.A (spliced (backTo pos (starEach es X.env))) (AP X pins σ Q) X.xe s):=⟨PA.go⟩
structure PS(X:Cx)(st:qc)(t:TS):Prop where
 go:∀(pins:Θ)(s:qa)(σ:St)(H:Hp)(D:Ŕ),Inv X pins σ H s->t D σ H->wpAny (model X.prog X.w) X.A (exec st X.env) (SP X pins D) X.xe s
instance {X:Cx}{st:qc}{t:TS}:CoeFun (PS X st t) (λZ=>∀(pins:Θ)(s:qa)(σ:St)(H:Hp)(D:Ŕ),Inv X pins σ H s->t D σ H->wpAny (model X.prog X.w) X.A (exec st X.env) (SP X pins D) X.xe s):=⟨PS.go⟩
structure PSs(X:Cx)(st:qi qc)(t:TS):Prop where
 go:∀(pins:Θ)(s:qa)(σ:St)(H:Hp)(D:Ŕ),Inv X pins σ H s->t D σ H->wpAny (model X.prog X.w) X.A (execs st X.env) (SP X pins D) X.xe s
instance {X:Cx}{st:qi qc}{t:TS}:CoeFun (PSs X st t) (λZ=>∀(pins:Θ)(s:qa)(σ:St)(H:Hp)(D:Ŕ),Inv X pins σ H s->t D σ H->wpAny (model X.prog X.w) X.A (execs st X.env) (SP X pins D) X.xe s):=⟨PSs.go⟩
def thn{α:Type}{t:Sem α}{Q Q':α->qa->Prop}{A:qe}{s:qa}(h:wpAny M A t Q E s)(hQ:∀a s,Q a s->Q' a s):wpAny M A t Q' E s:=dM h hQ λZ Z x=>x
section
def vcv(i:Nat):TE:=λσ H Q=>∃v,σ[i]?=some (some v)/\Q v H
def tC(v:V):TE:=λZ H Q=>Q v H
def yyf{pos:Pos}(hN:X.N[i]?=some x)(hv:Vis X.env.scope x)(hd:autoParam ((x == ("__debug__":Str))=false) aB._auto_1)(hcd:autoParam ((x == ("__classdict__":Str))=false) aB._auto_1):PE X (.Name x pos) (vcv i):=by
 refine .mk λf s σ H Q I h=>?_;let⟨v,e,h⟩:=h;let⟨m,j,k⟩:=I.loc;let⟨u,r,l⟩:=k i x v hN e hv;have b:EP X f σ Q u s:=⟨v,H,I,r,h⟩;rcases l with⟨d,n⟩|⟨d,c,g,a⟩
 .exact wpAny_Name (wpAny_loadName_local I.ok.kind d j n b) hd
 .rcases d with d|d
  .exact wpAny_Name (wpAny_loadName_cell I.ok.kind d g a b) hd
  .exact wpAny_Name (wpAny_loadName_free I.ok.kind d g a b hcd) hd
def yc{i j pos}:PE X (.Constant (.int i) j pos) (tC (.int i)):=.mk λZ Z Z H Z I h=>wpAny_Constant_int ⟨.int i,H,I.tok _,⟨_,rfl⟩,h⟩
def ym3{b j pos}:PE X (.Constant (.bool b) j pos) (tC (.bl b)):=.mk λZ Z Z H Z I h=>Constant_bool ⟨.bl b,H,I,rfl,h⟩
def jm{j pos}:PE X (.Constant .none j pos) (tC .non):=.mk λZ Z Z H Z I h=>Constant_none ⟨.non,H,I,rfl,h⟩
def v7{x j pos}:PE X (.Constant (.str x) j pos) (tC (.str x)):=.mk λZ Z Z H Z I h=>Calls.Constant_str ⟨.str x,H,I.tok _,⟨_,rfl⟩,h⟩
def Gl(X:Cx)(x:Str):Prop:=X.env.kindOf x=some .globalImplicit
def jd{s:qa}{pos:Pos}(I:Inv X pins σ H s)(hg:Gl X x)(hm:X.mg x=some u)(h:Q u s)
  (hd:autoParam ((x == ("__debug__":Str))=false) aB._auto_1):wpAny (model X.prog X.w) X.A (eval (.Name x pos) X.env) Q E s :=
 Calls.Name_function_global I.ok.kind hg (Calls.loadGlobal_global (by rw[I.ok.glob];exact I.mod.glob.keeps I.bk) hm h) hd
def Ő{s:qa}{pos:Pos}(I:Inv X pins σ H s)(hg:Gl X x)(hm:X.mg x=none)(hv:bootBuiltins x=some u)(h:Q u s)
  (hn:autoParam (x≠"__name__") aB._auto_1) (hd:autoParam ((x == ("__debug__":Str))=false) aB._auto_1):wpAny (model X.prog X.w) X.A (eval (.Name x pos) X.env) Q E s:=by let⟨c,b,a⟩:=I.mod.blt;exact Calls.Name_function_global I.ok.kind hg (Calls.loadGlobal_builtin (by rw[I.ok.glob];exact I.mod.glob.keeps I.bk) hm (by rw[I.ok.blt];exact b.keeps I.bk) ((a x hn).trans hv) h) hd
def yda{pos:Pos}(hg:Gl X x)(hm:X.mg x=some u)(r:xj v u)(hd:autoParam ((x == ("__debug__":Str))=false) aB._auto_1):PE X (.Name x pos) (tC v):=.mk
 λZ Z Z H Z I h=>jd I hg hm ⟨v,H,I,r,h⟩ hd
def yqk{pos:Pos}(hg:Gl X x)(hm:X.mg x=none)(hv:bootBuiltins x=some u)(r:xj v u)(hn:autoParam (x≠"__name__") aB._auto_1)(hd:autoParam ((x == ("__debug__":Str))=false) aB._auto_1):PE X (.Name x pos) (tC v):=.mk
 λZ Z Z H Z I h=>Ő I hg hm hv ⟨v,H,I,r,h⟩ hn hd
variable{a b:qg}{tb:TE}{pos:Pos}
def PC(X:Cx)(op:CmpOp)(a b:qg)(t:TE):Prop :=
 ∀(pins:Θ)(s:qa)(σ:St)(H:Hp)(Q:VK),Inv X pins σ H s->t σ H Q ->
  wpAny (model X.prog X.w) X.A (eval a X.env) (λv s₁=>wpAny (model X.prog X.w) X.A (eval b X.env) (λu s₂=>wpAny (model X.prog X.w) X.A (compareOp op v u) (EP X pins σ Q) X.xe s₂) X.xe s₁) X.xe s
def tB(t:TE):TT:=λσ H Q=>t σ H λx H1=>∃c,x=.bl c/\Q c H1
def yjl{t:TE}(h:PC X op a b t)(h1:behindInMarks op b=false:=by first|exact nobehind _ ∅ ∅|rfl):PT X (.Compare a [op] [b] pos) (tB t):=by refine .mk λe s σ H Q I j=>?_;refine wpAny_isTrue_Compare1 (thn (h e s σ H _ I j) λv m h1=>thn h1 λu o i=>thn i λc n h'=>?_) h1;let⟨x,l,f,g,k⟩:=h';let⟨d,rfl,q⟩:=k;cases g;exact d7 ⟨l,f,q⟩
def zq{e:qg}{t:TE}(h:PE X e t)(he:autoParam (∀whole,isTrue e X.env whole=(do let v <- whole;standAt e.pos;holding [v] (truthy v))) aC._auto_1):PT X e (tB t):=by refine .mk λa s σ H Q I f=>?_;refine isTrue_plain (thn (h a s σ H _ I f) λv j h'=>?_) (he _);let⟨x,i,b,c,g⟩:=h';let⟨d,rfl,q⟩:=g;cases c;exact d7 ⟨i,b,q⟩
variable{tA tB':TT}{vt:qi qg}
def vfb(t u:TT):TT:=λσ H Q=>t σ H λc H1=>if c=true then u σ H1 Q else Q false H1
def tOr(t u:TT):TT:=λσ H Q=>t σ H λc H1=>if c=true then Q true H1 else u σ H1 Q
def vfh(t:TT):TT:=λσ H Q=>t σ H λc H1=>Q (!c) H1
def yim(ha:PT X a tA):PW X (.BoolOp .And [a] pos) tA:=by
 intro f b s σ H Q I h;refine isTrue_and (thn (ha b s σ H Q I h) λc d e=>?_)
 cases c with
 |true=>exact isTrue_and_nil e
 |false=>exact e
def ybm(ha:PT X a tA):PW X (.BoolOp .Or [a] pos) tA:=by
 intro f b s σ H Q I h;refine isTrue_or (thn (ha b s σ H Q I h) λc d e=>?_)
 cases c with
 |false=>exact isTrue_or_nil e
 |true=>exact e
def ynv(ha:PT X a tA)(hb:PW X (.BoolOp .And (b::vt) pos) tB'):PW X (.BoolOp .And (a::b::vt) pos) (vfb tA tB'):=by
 intro j d s σ H Q I h;refine isTrue_and (thn (ha d s σ H _ I h) λc i ⟨g,e,f⟩=>?_)
 cases c with
 |true=>exact hb j d i σ g Q e f
 |false=>exact⟨g,e,f⟩
def ybq(ha:PT X a tA)(hb:PW X (.BoolOp .Or (b::vt) pos) tB'):PW X (.BoolOp .Or (a::b::vt) pos) (tOr tA tB'):=by
 intro j d s σ H Q I h;refine isTrue_or (thn (ha d s σ H _ I h) λc i ⟨g,e,f⟩=>?_)
 cases c with
 |true=>exact⟨g,e,f⟩
 |false=>exact hb j d i σ g Q e f
def uw(ha:PT X a tA):PT X (.UnaryOp .Not a pos) (vfh tA):=by refine .mk λb s σ H Q I h=>?_;exact isTrue_not (ha b s σ H (λc d=>Q (!c) d) I h)
def vcf(ta tb:TE):TE:=λσ H Q=>ta σ H λx H1=>∃c,x=.bl c/\if c=true then tb σ H1 Q else Q (.bl false) H1
def va8(ta:TE):TE:=λσ H Q=>ta σ H λx H1=>∃c,x=.bl c/\Q (.bl (!c)) H1
def jz{op}{t:TE}(h:PE X a t):PE X (.BoolOp op [a] pos) t:=.mk λb s σ H Q I c=>BoolOp_one (h b s σ H Q I c)
def uv(ha:PE X a ta)(hb:PE X (.BoolOp .And (b::vt) pos) tb):PE X (.BoolOp .And (a::b::vt) pos) (vcf ta tb):=by
 refine .mk λd s σ H Q I h=>?_;refine BoolOp_and (thn (ha d s σ H _ I h) λv i h'=>?_);let⟨x,g,f,j,e⟩:=h';let⟨c,rfl,e⟩:=e;cases j;refine d7 ?_
 cases c with
 |true=>exact hb d i σ g Q f e
 |false=>exists .bl false,g,f,rfl,e
def yng(ha:PE X a ta):PE X (.UnaryOp .Not a pos) (va8 ta):=by refine .mk λb s σ H Q I h=>?_;refine UnaryOp_ (thn (ha b s σ H _ I h) λv i h'=>?_);let⟨x,g,e,f,d⟩:=h';let⟨c,rfl,d⟩:=d;cases f;exact not_of (d7 ⟨.bl (!c),g,e,rfl,d⟩)
def tIf(t:TT)(ta tb:TE):TE:=λσ H Q=>t σ H λc H1=>if c=true then ta σ H1 Q else tb σ H1 Q
def j8{c:qg}(hc:PT X c tA)(ha:PE X a ta)(hb:PE X b tb):PE X (.IfExp c a b pos) (tIf tA ta tb):=by
 refine .mk λe s σ H Q I h=>?_;refine wpAny_IfExp (thn (hc e s σ H _ I h) λd f ⟨j,g,i⟩=>?_)
 cases d with
 |true=>exact ha e f σ j Q g i
 |false=>exact hb e f σ j Q g i
end
def SqL(K:z0)(H:Hp)(a:xy)(xs:Τ):Prop :=
 Rd H a (.lst xs) \/
  ∃(o:Obj)(its:Array qb)(n:Nat),K.lookup a=some o/\o.cls=.type "list"/\o.dict=none/\o.data=.seq its n/\its.size<=sizeLine/\wq xs its.toList
def SqT(K:z0)(H:Hp)(a:xy)(xs:Τ):Prop :=
 Rd H a (.tup xs) \/
  ∃(o:Obj)(its:Array qb)(n:Nat),K.lookup a=some o/\o.cls=.type "tuple"/\o.data=.seq its n/\its.size<=sizeLine/\wq xs its.toList
noncomputable def vf3:qb->qj V
 | .none=>some .non
 | .bool b=>some (.bl b)
 | .int i _=>some (.int i)
 | .str x _=>some (.str x)
 | .bytes b _=>some (.byt b)
 | .float b _=>some (.flt b)
 | .ref a=>some (.ref a)
 | .type n=>some (.ty n)
 |_=>none
def xj.abs{x:V}(r:xj x u):vf3 u=some x:=by
 cases x with
 |non=>cases r;rfl
 |bl _=>cases r;rfl
 |int _=>let⟨t,rfl⟩:=r;rfl
 |str _=>let⟨t,rfl⟩:=r;rfl
 |byt _=>let⟨t,rfl⟩:=r;rfl
 |flt _=>let⟨t,rfl⟩:=r;rfl
 |ref _=>cases r;rfl
 |ty _=>cases r;rfl
def xj.inj{x:V}(r:xj x u)(q:xj y u):x=y:=cJ (r.abs.symm.trans q.abs)
theorem wq.inj(h:wq xs us)(k:wq ys us):xs=ys:=by
 induction h generalizing ys with
 |nil=>cases k;rfl
 |cons r t ih =>
  cases k with
  |cons r' t'=>rw[r.inj r',ih t']
section
variable{s:qa}
def SqL.of{K:z0}(h:H a=some (.lst xs)):SqL K H a xs:=.inl (.inl h)
def SqT.of{K:z0}(h:H a=some (.tup xs)):SqT K H a xs:=.inl (.inl h)
def Inv.list(I:Inv X pins σ H s)(h:SqL X.K H a xs):∃its:Ξ,wq xs its/\PlainL s.heap a its.toArray/\xs.length<=sizeLine:=by
 rcases h with h|⟨o,its,n,f,d,c,b,g,r⟩
 .obtain⟨z,its,n,r,e⟩:=h.ok I.hok;exists its,r,⟨_,n,e,rfl,rfl,rfl⟩,z
 .exists its.toList,r,⟨o,n,I.kIn a o f,d,c,by simpa using b⟩,?_;have e:=r.length;simp only[d9]at e;omega
def Inv.tuple(I:Inv X pins σ H s)(h:SqT X.K H a xs):∃its:Ξ,wq xs its/\IsTup s.heap a its.toArray/\xs.length<=sizeLine:=by
 rcases h with h|⟨o,its,n,d,c,b,f,r⟩
 .obtain⟨z,its,r,p⟩:=h.ok I.hok;exact⟨its,r,p,z⟩
 .exists its.toList,r,⟨o,I.kIn a o d,c,n,by simpa using b⟩,?_;have e:=r.length;simp only[d9]at e;omega
def Inv.list_inj(I:Inv X pins σ H s)(h:SqL X.K H a xs)(h':SqL X.K H a ys):xs=ys:=by
 let⟨c,r,⟨o,n,e,_,_,d⟩,_⟩:=I.list h;let⟨b,i,⟨j,k,f,_,_,g⟩,_⟩:=I.list h';rw[e]at f;cases f;rw[d]at g;injection g with d1 _;have:c=b:=by simpa using congrArg Array.toList d1
 subst this;exact r.inj i
def Inv.tuple_inj(I:Inv X pins σ H s)(h:SqT X.K H a xs)(h':SqT X.K H a ys):xs=ys:=by
 let⟨c,r,⟨o,e,_,n,d⟩,_⟩:=I.tuple h;let⟨b,i,⟨j,f,_,k,g⟩,_⟩:=I.tuple h';rw[e]at f;cases f;rw[d]at g;injection g with d1 _;have:c=b:=by simpa using congrArg Array.toList d1
 subst this;exact r.inj i
end
noncomputable abbrev Cx.wish(X:Cx)(E:Δ):Cx:={X with xe:=E}
noncomputable abbrev Cx.nox(X:Cx):Cx:=X.wish λZ Z=>False
theorem Cx.Ok.wish(ok:X.Ok)(E:Δ):(X.wish E).Ok :=
 ⟨ok.mod,ok.kind,ok.glob,ok.blt,ok.above,ok.inj,ok.has,ok.cab,ok.hd,ok.frames,ok.stk,ok.exf,ok.bs,ok.bsz,ok.noex,ok.exfs,ok.funs,ok.frf⟩
def Cx.Ok.unwish(ok:(X.wish E).Ok):X.Ok :=
 ⟨ok.mod,ok.kind,ok.glob,ok.blt,ok.above,ok.inj,ok.has,ok.cab,ok.hd,ok.frames,ok.stk,ok.exf,ok.bs,ok.bsz,ok.noex,ok.exfs,ok.funs,ok.frf⟩
section
variable{s:qa}
theorem Inv.wish(I:Inv X pins σ H s)(E:Δ):Inv (X.wish E) pins σ H s:=⟨I.ok.wish E,I.os,I.bare,I.base,I.loc,I.cell,I.free,I.freeC,I.pin,I.hok,I.len⟩
theorem Inv.unwish(I:Inv (X.wish E) pins σ H s):Inv X pins σ H s:=⟨I.ok.unwish,I.os,I.bare,I.base,I.loc,I.cell,I.free,I.freeC,I.pin,I.hok,I.len⟩
theorem SP.unwish{D:Ŕ}{f:Flow}(h:SP (X.wish E) pins D f s'):SP X pins D f s':=by
 cases f with
 |next=>let⟨σ',a,I,q⟩:=h;exact⟨σ',a,I.unwish,q⟩
 |brk=>let⟨σ',a,I,q⟩:=h;exact⟨σ',a,I.unwish,q⟩
 |cont=>let⟨σ',a,I,q⟩:=h;exact⟨σ',a,I.unwish,q⟩
 |ret u=>let⟨v,σ',a,I,r,q⟩:=h;exists v,σ',a,I.unwish,r,q
theorem PSs.nox{st:qi qc}{t:TS}(h:PSs X.nox st t):PSs X st t:=.mk λa s σ H D I b =>
 dM (h a s σ H D (I.wish _) b) (λZ Z q=>q.unwish) λZ Z z=>False.elim z
end
section
variable{st:qc}{vt:qi qc}{t u:TS}{e:qg}{pos:Pos}
def vch:TS:=λD σ H=>D.nx σ H
def vev(t u:TS):TS:=λD σ H=>t {D with nx:=u D} σ H
def y8:PSs X [] vch:=.mk λZ Z σ H Z I h=>wpAny_execs_nil ⟨σ,H,I,h⟩
def yg(h1:PS X st t)(h2:PSs X vt u):PSs X (st::vt) (vev t u):=by
 refine .mk λa s σ H D I h=>?_;refine wpAny_execs_cons (thn (h1 a s σ H {D with nx:=u D} I h) λf c q=>?_)
 cases f with
 |next =>
  let⟨σ',d,b,q⟩:=q;exact h2 a c σ' d D b q
 |ret v=>exact q
 |brk=>exact q
 |cont=>exact q
def yd(h1:PS X st t):PSs X [st] t:=by
 refine .mk λa s σ H D I h=>?_;refine wpAny_execs_cons (thn (h1 a s σ H D I h) λf b q=>?_)
 cases f with
 |next=>exact wpAny_execs_nil q
 |ret v=>exact q
 |brk=>exact q
 |cont=>exact q
def Inv.quiet{s:qa}(I:Inv X pins σ H s):interactive X.env=false:=by simp[interactive,I.ok.kind]
def vac(te:TE):TS:=λD σ H=>te σ H λZ H1=>D.nx σ H1
def yy(he:PE X e te)(hs:autoParam (swapsWith e none pos.line X.env=pure false) aD._auto_1):PS X (.Expr e pos) (vac te):=by refine .mk λa s σ H D I h=>?_;exact wpAny_Expr_any (thn (he a s σ H _ I h) λv f ⟨x,d,b,g,c⟩=>⟨σ,d,b,c⟩) I.quiet hs
def vfg(te:TE):TS:=λD σ H=>te σ H D.rt
def yt(he:PE X e te):PS X (.Return (some e) pos) (vfg te):=by refine .mk λa s σ H D I h=>?_;exact wpAny_Return_some (thn (he a s σ H _ I h) λv g ⟨x,f,b,c,d⟩=>⟨x,σ,f,b,c,d⟩)
def vfz(c:TT)(t u:TS):TS:=λD σ H=>c σ H λb H1=>if b=true then t D σ H1 else u D σ H1
def wa{c:qg}{a b:qi qc}{tc:TT}(hc:PT X c tc)(ha:PSs X a t)(hb:PSs X b u):PS X (.If c a b pos) (vfz tc t u):=by
 refine .mk λe s σ H D I h=>?_;refine wpAny_If (thn (hc e s σ H _ I h) λd f ⟨j,g,i⟩=>?_)
 cases d with
 |true=>exact ha e f σ j D g i
 |false=>exact hb e f σ j D g i
def ytt:TS:=λZ Z Z=>False
def yme:PS X st ytt:=.mk λZ Z Z Z Z Z h=>h.elim
end
abbrev TG:=V->St->Hp->(Ζ)->Prop
abbrev TGs:=qi V->St->Hp->(Ζ)->Prop
def PG(X:Cx)(target:qg)(t:TG):Prop :=
 ∀(pins:Θ)(s:qa)(σ:St)(H:Hp)(v:V)(u:qb)(Q:Ζ),Inv X pins σ H s->xj v u->t v σ H Q ->
  wpAny (model X.prog X.w) X.A (assign target X.env u) (λZ s'=>∃σ' H',Inv X pins σ' H' s'/\Q σ' H') X.xe s
def PGs(X:Cx)(ts:qi qg)(t:TGs):Prop :=
 ∀(pins:Θ)(s:qa)(σ:St)(H:Hp)(vs:Τ)(us:Ξ)(Q:Ζ),Inv X pins σ H s->wq vs us->t vs σ H Q ->
  wpAny (model X.prog X.w) X.A (assignInOrder ((assignEach ts X.env).map (·.2)) us) (λZ s'=>∃σ' H',Inv X pins σ' H' s'/\Q σ' H') X.xe s
section
variable{pos:Pos}
def xb(i:Nat):TG:=λv σ H Q=>Q (σ.set i (some v)) H
def wj(hN:X.N.Nodup)(hi:X.N[i]?=some x)(hx:Loc X.env.scope x)(hf:autoParam (X.fn x=true\/X.env.scope.names.lookup x=some .local) aA._auto_1):PG X (.Name x pos) (xb i):=by intro a s σ H v u Q I r h;exact wpAny_assign_Name (ú I hN hi hx r (λc b=>⟨_,H,b,h⟩) hf)
def ynb:TGs:=λvs σ H Q=>vs=[]/\Q σ H
def θ(t:TG)(u:TGs):TGs:=λvs σ H Q=>∃v r,vs=v::r/\t v σ H λσ' H'=>u r σ' H' Q
def æ:PGs X [] ynb:=by intro a s σ H b c Q I r h;let⟨e,h⟩:=h;subst e;cases r;exact assignInOrder_nil ⟨σ,H,I,h⟩
def xt{e:qg}{t:TG}{u:TGs}(h1:PG X e t)(h2:PGs X es u)
  (hs:autoParam ((assignEach (e::es) X.env).map (·.2)=assign e X.env::(assignEach es X.env).map (·.2)) aD._auto_1):PGs X (e::es) (θ t u):=by
 intro a s σ H i j Q I r h;let⟨v,k,c,h⟩:=h;subst c
 cases r with
 |cons r rr =>
  rw[hs];refine assignInOrder_cons (thn (h1 a s σ H _ _ _ I r h) λZ b ⟨σ1,g,d,f⟩=>?_);exact h2 a b σ1 g _ _ Q d rr f
def yte(K:z0)(n:Nat)(t:TGs):TG:=λv σ H Q=>∃a xs,v=.ref a/\SqT K H a xs/\xs.length=n/\t xs σ H Q
def Ŏ{k:Nat}{t:TGs}{n:Nat}(hc:X.calm=true)(h:PGs X es t)
  (hn:autoParam ((assignEach es X.env).length=n) aD._auto_1) (hst:autoParam ((assignEach es X.env).findIdx? (·.1)=none) aD._auto_1):PG X (.Tuple es k pos) (yte X.K n t):=by intro c s σ H v u Q I r d;let⟨a,x,m,l,w,d⟩:=d;subst m;cases r;let⟨g,f,j,y⟩:=I.tuple l;refine assign_Tuple_tuple (I.ok.hd hc) j (by simp[hn,<- w,f.length]) hst λi q=>?_;have p:Inv X c σ H {s with heap:=i}:=I.kept (t':=s.toks) λb o e=>q b o (di (cP e)) e;exact h c _ σ H x _ Q p (by simpa using f) d
def ytd(te:TE)(g:TG):TS:=λD σ H=>te σ H λx H1=>g x σ H1 D.nx
def ynu{e:qg}{g:TG}(he:PE X e te)(hg:PG X tg g)(hs:autoParam (swapsWithSole [tg] e pos.line X.env=pure false) aD._auto_1)(hw:autoParam (swappedStores [tg] e X.env=pure none) aD._auto_1)
  (h1:autoParam ((assignEach [tg] X.env).map (·.2)=[assign tg X.env]) aD._auto_1):PS X (.Assign [tg] e pos) (ytd te g):=by refine .mk λa s σ H D I h=>?_;refine wpAny_Assign_stores (thn (he a s σ H _ I h) λv b h'=>?_) hs hw;let⟨x,i,c,d,f⟩:=h';rw[h1];exact thn (hg a b σ i x v _ c d f) λZ j q=>q
def yu{e:qg}{pos':Pos}(hN:X.N.Nodup)(hi:X.N[i]?=some x)(hx:Loc X.env.scope x)(he:PE X e te)(hs:autoParam (swapsWith e (some (.Name x pos')) pos.line X.env=pure false) aD._auto_1)(hf:autoParam (X.fn x=true\/X.env.scope.names.lookup x=some .local) aA._auto_1):
  PS X (.Assign [.Name x pos'] e pos) (ytd te (xb i)):=by refine .mk λa s σ H D I h=>?_;refine wpAny_Assign_Name (thn (he a s σ H _ I h) λv j h'=>?_) hs;let⟨y,g,b,c,f⟩:=h';exact ú b hN hi hx c (λk d=>⟨_,g,d,f⟩) hf
end
section
variable{pos:Pos}
def yux(c:TT)(tb:TS):TS:=λD σ H=>∃W:Nat->St->Hp->Prop,(∃m,W m σ H)/\∀m σ H,W m σ H ->
 c σ H λb H1=>if b=true then ∃N:Ζ,(∀σ' H',N σ' H'->∃m',m'<m/\W m' σ' H')/\tb {D with nx:=N,ct:=N,bk:=D.nx} σ H1 else D.nx σ H1
def δ{c:qg}{tc:TT}{tb:TS}(hp:PassesOwn (model X.prog X.w) X.A X.env X.xe)(hc:PT X c tc)(hb:PSs X body tb):PS X (.While c body [] pos) (yux tc tb):=by
 refine .mk λa s σ H D I h=>?_;let⟨W,⟨B,y⟩,d⟩:=h;refine wpAny_While (codeAny_whileLoop (λn C=>∃σ' H',Inv X a σ' H' C/\W n σ' H') ?_ B ⟨σ,H,I,y⟩);rintro n u ⟨σ1,p,x,E⟩;refine wpAny_passesOwn hp (thn (hc a u σ1 p _ x (d n σ1 p E)) λb z ⟨q,r,g⟩=>?_)
 cases b with
 |true =>
  let⟨N,t,g⟩:=g;rw[if_pos rfl];refine wpAny_passesOwn hp (thn (hb a z σ1 q _ r g) λf F i=>?_)
  cases f with
  |next =>
   let⟨σ3,e,m,k⟩:=i;let⟨o,l,j⟩:=t σ3 e k;exists o,l,σ3,e,m,j
  |cont =>
   let⟨σ3,e,m,k⟩:=i;let⟨o,l,j⟩:=t σ3 e k;exists o,l,σ3,e,m,j
  |brk=>exact i
  |ret v=>exact i
 |false =>
  rw[if_neg de];exact wpAny_execs_nil ⟨σ1,q,r,g⟩
end
structure It where
 go:Nat->Hp->Prop
 yld:Nat->Hp->V->Hp->Prop
 stop:Nat->Hp->Prop
def Ĺ(X:Cx)(pins:Θ)(H:Hp)(b:xy):Prop :=
 H b=none/\b≠X.env.locals/\b∉X.fs/\(b∈X.ex\/X.s₀.heap.objs.size<=b)/\(∀x c,X.env.cells.lookup x=some c->c≠b)/\∀p∈X.pn++pins,p.1≠b
def Inv.fpOk{s:qa}{b:xy}(I:Inv X pins σ H s)(hb:s.heap.objs.size<=b)(hn:H' b=none):Ĺ X pins H' b:=by
 exists hn,Nat.ne_of_gt (dh I.lt hb),I.nofs hb,.inr (dB I.sz hb),λx c e z=>?_,λp a z=>?_
 .obtain⟨v,q⟩:=I.cell x c e;exact absurd (dh q.lt (by rw[z];exact hb)) (ei _)
 .exact absurd (dh (cP (I.pin p a).1) (by rw[z];exact hb)) (ei _)
structure yge(P:qh)(w:qd)(K:z0)(tg:qg)(J:It)(fp:Υ)(it:xy)(tn:Nat->qf->Prop):Prop where
 mem:it∈fp
 obj:∀i h,tn i h->∀b∈fp,∃o,h.get? b=some o/\∀v,o.data≠.cell v
 keep:∀i h h',tn i h->(∀b∈fp,∀o,h.get? b=some o->h'.get? b=some o)->tn i h'
 item:∀(X:Cx),X.prog=P->X.w=w->X.K=K->X.calm=true->∀(i:Nat)(pins:Θ)(s:qa)(σ:St)(H:Hp)(E:Δ),Inv X pins σ H s->(∀b∈fp,Ĺ X pins H b)->tn i s.heap->J.go i H ->
  wpAny (model P w) X.A (pyNext (.ref it)) (λr s1=>∃u,r=some u/\
   wpAny (model P w) X.A (letOwnedTupleGo tg (.ref it) u) (λZ s2=>∃x H',Inv X pins σ H' s2/\xj x u/\J.yld i H x H'/\tn (i+1) s2.heap/\∀b∈fp,H' b=none) E s1) E s
 done:∀(X:Cx),X.prog=P->X.w=w->X.K=K->X.calm=true->∀(i:Nat)(pins:Θ)(s:qa)(σ:St)(H:Hp)(E:Δ),Inv X pins σ H s->(∀b∈fp,Ĺ X pins H b)->tn i s.heap->J.stop i H ->
  wpAny (model P w) X.A (pyNext (.ref it)) (λr s1=>r=none/\Inv X pins σ H s1) E s
 self:∀(A:qe)(i:Nat)(s:qa)(Q:Δ)(E:Δ),tn i s.heap->Q (.ref it) s->wpAny (model P w) A (pyIter (.ref it)) Q E s
abbrev TI:=St->Hp->(It->Hp->Prop)->Prop
def PIE(X:Cx)(pins:Θ)(σ:St)(tg:qg)(R:It->Hp->Prop)(itv:qb)(s2:qa):Prop :=
 ∃(it:xy)(fp:Υ)(tn:Nat->qf->Prop)(J:It)(H':Hp),itv=.ref it/\Inv X pins σ H' s2/\yge X.prog X.w X.K tg J fp it tn/\tn 0 s2.heap/\(∀b∈fp,Ĺ X pins H' b)/\R J H'
def PI(X:Cx)(tg iter:qg)(wi:TI):Prop :=
 ∀(pins:Θ)(s:qa)(σ:St)(H:Hp)(R:It->Hp->Prop),Inv X pins σ H s->wi σ H R ->
  wpAny (model X.prog X.w) X.A (eval iter X.env) (λv s1=>wpAny (model X.prog X.w) X.A (pyIter v) (PIE X pins σ tg R) X.xe s1) X.xe s
def ym2{A:qe}{s:qa}{it:xy}{o:Obj}{n:String}{vs:Array qb}{Q:Unit->qa->Prop}(ho:s.heap.get? it=some o)(hc:o.cls=.type n)(hd:o.data=.fields vs)
  (hn:["enumerate","zip","dict_itemiterator","dict_reverseitemiterator","odict_iterator","itertools.zip_longest","itertools.pairwise"].contains n=false) (hQ:Q ⟨⟩ s):wpAny M A (letOwnedTupleGo tg (.ref it) u) Q E s:=by
 unfold letOwnedTupleGo
 cases tg<;>first
  |exact cG hQ
  | (cases u<;>first
    |exact cG hQ
    | (refine cz (wpAny_load ho ?_)
       rw[hc,hd];show wpAny M A (if (["enumerate","zip","dict_itemiterator","dict_reverseitemiterator","odict_iterator","itertools.zip_longest","itertools.pairwise"].contains n && vs[0]? == some (rawInt _))=true then _ else _) Q E s;rw[if_neg (by intro h;rw[hn,Bool.false_and]at h;cases h)];exact cG hQ))
noncomputable def Itl(K:z0)(a:xy):It :=
 ⟨λi H=>∃xs x,SqL K H a xs/\xs[i]?=some x,λi H x H'=>H'=H/\∀xs,SqL K H a xs->xs[i]?=some x,λi H=>∃xs,SqL K H a xs/\xs.length<=i⟩
noncomputable def Itt(K:z0)(a:xy):It :=
 ⟨λi H=>∃xs x,SqT K H a xs/\xs[i]?=some x,λi H x H'=>H'=H/\∀xs,SqT K H a xs->xs[i]?=some x,λi H=>∃xs,SqT K H a xs/\xs.length<=i⟩
def Itr(lo:Int)(n:Nat):It:=⟨λi Z=>i<n,λi H x H'=>H'=H/\x=.int (lo+i),λi Z=>n<=i⟩
def yg8{w:qd}{K:z0}(a it:xy):yge P w K tg (Itl K a) [it] it (λi h=>h.IsListIter it a i) where
 mem:=by simp
 obj:=λi h f b j=>by
  have e:b=it:=by simpa using j
  subst e;let⟨o,e,c,d⟩:=f;exists o,e,λv z=>by rw[d]at z;cases z
 keep:=λi h q f k=>f.at λo e=>k it (by simp) o e
 item:=by
  intro X y t C N i g s σ H E I n f F;subst y t C;let⟨T,x,m,r⟩:=F;let⟨G,J,p,U⟩:=I.list m;let⟨u,Z,R⟩:=J.get r;let⟨A,D,S,L,M,B⟩:=n it (by simp);refine wpAny_pyNext_list_item f p.isList (x:=u) (by simpa using Z) λq l sb=>?_;have O:Inv X g σ H {s with heap:=q}:=I.turned (t':=s.toks) (λb o j e=>(sb.2 b j).trans e) A D L M B;let⟨o,e,c,d⟩:=id l;exists u,rfl,ym2 (s:={s with heap:=q}) e c d ∅ ⟨x,H,O,R,⟨rfl,λys Y=>by rw[I.list_inj Y m];exact r⟩,l,λb j=>(n b j).1⟩
 done:=by
  intro X y t C N i g s σ H E I n f F;subst y t C;let⟨T,m,r⟩:=F;let⟨G,J,p,U⟩:=I.list m;let⟨A,D,S,L,M,B⟩:=n it (by simp);have hl:=J.length;exact wpAny_pyNext_list_end (I.ok.hd N) f p.isList (by simp;omega) λq Q=>⟨rfl,I.turned (t':=s.toks) (λb o j e=>Q b o j e) A D L M B⟩
 self:=λW W W W W f h=>wpAny_pyIter_listiter f h
def yf2{w:qd}{K:z0}(a it:xy):yge P w K tg (Itt K a) [it] it (λi h=>h.IsTupleIter it a i) where
 mem:=by simp
 obj:=λi h f b l=>by
  have e:b=it:=by simpa using l
  subst e;let⟨o,e,c,d⟩:=f;exists o,e,λv z=>by rw[d]at z;cases z
 keep:=λi h r f k=>f.at λo e=>k it (by simp) o e
 item:=by
  intro X A y D N i g s σ H E I q f G;subst A y D;let⟨T,x,n,t⟩:=G;let⟨j,J,p,U⟩:=I.tuple n;let⟨u,Z,R⟩:=J.get t;let⟨B,F,S,L,M,C⟩:=q it (by simp);refine wpAny_pyNext_tuple_item f (show s.heap.IsTuple a j.toArray from p) (x:=u) (by simpa using Z) λr m sb=>?_;have O:Inv X g σ H {s with heap:=r}:=I.turned (t':=s.toks) (λb o l e=>(sb.2 b l).trans e) B F L M C;let⟨o,e,c,d⟩:=id m;exists u,rfl,ym2 (s:={s with heap:=r}) e c d ∅ ⟨x,H,O,R,⟨rfl,λys Y=>by rw[I.tuple_inj Y n];exact t⟩,m,λb l=>(q b l).1⟩
 done:=by
  intro X A y D N i g s σ H E I q f G;subst A y D;let⟨T,n,t⟩:=G;let⟨j,J,p,U⟩:=I.tuple n;let⟨B,F,S,L,M,C⟩:=q it (by simp);have hl:=J.length;exact wpAny_pyNext_tuple_end (I.ok.hd N) f (show s.heap.IsTuple a j.toArray from p) (by simp;omega) λr Q=>⟨rfl,I.turned (t':=s.toks) (λb o l e=>Q b o l e) B F L M C⟩
 self:=λW W W W W f h=>wpAny_pyIter_tupleiter f h
def yfe{w:qd}{K:z0}(it:xy)(lo:Int)(n:Nat):yge P w K tg (Itr lo n) [it] it (λi h=>IsRangeIter h it (lo+(i:Nat)*1) ((n:Int)-(i:Nat)) 1) where
 mem:=by simp
 obj:=λi h a b d=>by
  have e:b=it:=by simpa using d
  subst e
  exact⟨_,a,λv z=>by
   have J:Data.fields _=Data.cell v:=z;cases J⟩
 keep:=λi h j a k=>k it (by simp) _ a
 item:=by
  intro X m l u p i c s σ H E I g a y;subst m l u;let⟨q,x,M,A,B,r⟩:=g it (by simp);have W:=Walks.range (prog:=X.prog) (w:=X.w) (I.ok.hd p) it lo 1 n;refine W.item i s _ _ y a λv j C F f L=>?_;let⟨t,rfl⟩:=F;have D:Inv X c σ H {s with heap:=j,toks:=C}:=I.turned (λb o d e=>L b o (by simpa using d) e) q x A B r;exists _,rfl,ym2 (s:={s with heap:=j,toks:=C}) (n:="range_iterator") f rfl rfl ∅ ⟨.int (lo+i),H,D,⟨t,?_⟩,⟨rfl,rfl⟩,f,λb d=>(g b d).1⟩;rw[Int.mul_one]
 done:=by
  intro X m l u p i c s σ H E I g a y;subst m l u;let⟨q,x,M,A,B,r⟩:=g it (by simp);exact wpAny_pyNext_range_end (I.ok.hd p) a (by have:n<=i:=y;omega) λj G=>⟨rfl,I.turned (t':=s.toks) (λb o d e=>G b o d e) q x A B r⟩
 self:=λZ Z Z Z Z a h=>wpAny_pyIter_rangeiter a h
def vba(K:z0)(tl:TE):TI:=λσ H R=>tl σ H λx H1=>∃a,x=.ref a/\(∃xs,SqL K H1 a xs)/\R (Itl K a) H1
def vf0(K:z0)(tl:TE):TI:=λσ H R=>tl σ H λx H1=>∃a,x=.ref a/\(∃xs,SqT K H1 a xs)/\R (Itt K a) H1
def xg{l:qg}{tl:TE}(hl:PE X l tl):PI X tg l (vba X.K tl):=by
 intro c s σ H R I h;refine thn (hl c s σ H _ I h) λv d h'=>?_;let⟨x,n,f,k,m⟩:=h';let⟨a,e,⟨u,i⟩,q⟩:=m;subst e;cases k;let⟨g,r,p,t⟩:=f.list i;refine wpAny_pyIter_list p.isList ?_;exists d.heap.objs.size,[d.heap.objs.size],_,_,n,rfl,f.kept (t':=d.toks) λb o e=>cD _ e,yg8 a _,⟨_,cV _ rfl,rfl,rfl⟩,λb j=>?_,q;have e:b=d.heap.objs.size:=by simpa using j
 subst e;exact f.fpOk (cE _) (f.hok.fresh (cE _))
def ye6{l:qg}{tl:TE}(hl:PE X l tl):PI X tg l (vf0 X.K tl):=by
 intro d s σ H R I h;refine thn (hl d s σ H _ I h) λv c h'=>?_;let⟨x,n,f,k,m⟩:=h';let⟨a,e,⟨u,i⟩,q⟩:=m;subst e;cases k;let⟨g,r,p,t⟩:=f.tuple i;refine wpAny_pyIter_tuple (show c.heap.IsTuple a g.toArray from p) ?_;exists c.heap.objs.size,[c.heap.objs.size],_,_,n,rfl,f.kept (t':=c.toks) λb o e=>cD _ e,yf2 a _,⟨_,cV _ rfl,rfl,rfl⟩,λb j=>?_,q;have e:b=c.heap.objs.size:=by simpa using j
 subst e;exact f.fpOk (cE _) (f.hok.fresh (cE _))
def ymt{s:qa}{R:It->Hp->Prop}{lo hi:Int}{t u v:Tok}{tk:Nat}(I:Inv X pins σ H s)(h1:-(2^62)<=lo)(h2:lo<2^62)(h3:-(2^62)<=hi)(h4:hi<2^62)
  (q:R (Itr lo (hi-lo).toNat) H):wpAny (model X.prog X.w) X.A (pyIter (.ref s.heap.objs.size)) (PIE X pins σ tg R) E {s with heap:=s.heap.push { cls:=.type "range",data:=.fields #[.int lo t,.int hi u,.int 1 v]},toks:=tk}:=by
 refine wpAny_pyIter_range (IsRange.new ..) (small_one h1 h2 h3 h4) ?_;have a:Inv X pins σ H {s with heap:=s.heap.push { cls:=.type "range",data:=.fields #[.int lo t,.int hi u,.int 1 v]},toks:=tk}:=I.kept λb o e=>cD _ e
 refine⟨(s.heap.push { cls:=.type "range",data:=.fields #[.int lo t,.int hi u,.int 1 v]}).objs.size,[(s.heap.push { cls:=.type "range",data:=.fields #[.int lo t,.int hi u,.int 1 v]}).objs.size],_,_,H,rfl,
  a.kept (t':=tk) λb o e=>cD _ e,yfe _ lo (hi-lo).toNat,?_,λb f=>?_,q⟩
 .have c:lo+((0:Nat):Int)*1=lo:=by simp
  have d:(((hi-lo).toNat:Nat):Int)-((0:Nat):Int)=Builtin.Range.rangeSize lo hi 1:=by rw[rangeSize_one];split<;>omega
  show IsRangeIter _ _ (lo+((0:Nat):Int)*1) ((((hi-lo).toNat:Nat):Int)-((0:Nat):Int)) 1;rw[c,d];exact cV _ rfl
 .have e:b=(s.heap.push { cls:=.type "range",data:=.fields #[.int lo t,.int hi u,.int 1 v]}).objs.size:=by simpa using f
  subst e;exact a.fpOk (cE _) (a.hok.fresh (cE _))
def vah(ta:TA):TI:=λσ H R=>ta σ H λvs H1=>∃j:Int,vs=[.int j]/\-(2^62)<=j/\j<2^62/\R (Itr 0 j.toNat) H1
def uq{a:qg}{ta:TA}{p pos:Pos}(hg:Gl X "range")(hm:X.mg "range"=none)(ha:PA X [a] ta)(hs:autoParam (starEach [a] X.env=[(false,eval a X.env)]) aD._auto_1):PI X tg (.Call (.Name "range" p) [a] [] pos) (vah ta):=by
 intro b s σ H R I h;refine Call_ (Ő I hg hm boot_range (PyProof.Rows.callWith_type1 (thn (ha pos b s σ H _ I h) λl i h'=>?_) hs rfl));let⟨k,m,f,g,c⟩:=h';let⟨j,e,c,d,q⟩:=c;subst e
 cases g with
 |cons r rr =>
  cases rr;let⟨t,rfl⟩:=r;exact call_range_1 (ymt f () () c d (by simpa using q))
def vfj(wi:TI)(g:TG)(tb:TS):TS:=λD σ H=>wi σ H λJ H1=>∃W:Nat->Nat->St->Hp->Prop,(∃m,W 0 m σ H1)/\∀i m σ H,W i m σ H ->
 (J.stop i H/\D.nx σ H)\/(J.go i H/\∃N:Ζ,(∀σ' H',N σ' H'->∃m',m'<m/\W (i+1) m' σ' H')/\∀x H',J.yld i H x H'->g x σ H' λσ2 H2=>tb {D with nx:=N,ct:=N,bk:=D.nx} σ2 H2)
noncomputable def ň(fp:Υ)(h:qf):Θ:=fp.filterMap λb=>(h.get? b).map λo=>(b,o)
def xc{h:qf}{b:xy}{o:Obj}(hb:b∈fp)(e:h.get? b=some o):(b,o)∈ň fp h:=List.mem_filterMap.mpr ⟨b,hb,by rw[e];rfl⟩
def yh0{h:qf}{p:xy×Obj}(hp:p∈ň fp h):p.1∈fp/\h.get? p.1=some p.2:=by
 let⟨b,c,e⟩:=List.mem_filterMap.mp hp
 cases q:h.get? b with
 |none=>rw[q]at e;cases e
 |some o =>
  rw[q]at e;have a:(b,o)=p:=cJ e;subst a;exists c,q
def Inv.pinned{s:qa}(I:Inv X pins σ H s)(hf:∀b∈fp,Ĺ X pins H b)(ho:∀b∈fp,∃o,s.heap.get? b=some o/\∀v,o.data≠.cell v):Inv X (pins++ň fp s.heap) σ H s :=
 I.pins_of λp f=>(db.mp f).elim (λz=>I.pin p (cO _ z)) λz=>by
  let⟨c,e⟩:=yh0 z;let⟨i,g,h,_⟩:=hf p.1 c;let⟨o,a,d⟩:=ho p.1 c;rw[e]at a;cases a;exists e,i,g,h,d
def Inv.unpinned{pl:Θ}{s:qa}(I:Inv X (pins++pl) σ H s):Inv X pins σ H s:=I.pins_of λp a=>I.pin p (cO _ (dA _ a))
def jx{iter:qg}{wi:TI}{g:TG}{tb:TS}{pos:Pos}(hp:PassesOwn (model X.prog X.w) X.A X.env X.xe)(hc:X.calm=true)(hi:PI X tg iter wi)(hg:PG X tg g)(hb:PSs X body tb)
  (hs:autoParam (∀x,foldedSetIterable iter X.env x=pure x) aC._auto_1):PS X (.For tg iter body [] pos) (vfj wi g tb):=by
 refine .mk λa s σ H D I h=>?_;refine wpAny_For (thn (hi a s σ H _ I h) λv s1 h1=>thn h1 λa0 s2 h2=>?_) hs;let⟨it,C,R,J,H2,e,I2,T,M,U,W,⟨m0,w0⟩,t⟩:=h2;subst e;have c:∀{H':Hp},(∀b∈C,H' b=none)->∀b∈C,Ĺ X a H' b:=λhn b hb=>⟨hn b hb,(U b hb).2⟩;refine codeAny_forLoop_any (λn S=>∃i σ' H',Inv X a σ' H' S/\R i S.heap/\(∀b∈C,H' b=none)/\W i n σ' H') ?_ m0 ⟨0,σ,H2,I2,M,λb hb=>(U b hb).1,w0⟩;rintro n Y ⟨i,σ3,G,Z,B,y,w3⟩;rcases t i n σ3 G w3 with⟨F,qn⟩|⟨go,N,hN,z⟩
 .refine wpAny_passesOwn hp (thn (T.done X rfl rfl rfl hc i a Y σ3 G X.xe Z (c y) B F) λr s4 ⟨O,I4⟩=>?_);subst O;exact wpAny_execs_nil ⟨σ3,G,I4,qn⟩
 .refine wpAny_passesOwn hp (thn (T.item X rfl rfl rfl hc i a Y σ3 G X.xe Z (c y) B go) λr s4 ⟨u,O,h4⟩=>?_);subst O;refine wpAny_passesOwn hp (thn h4 λw s5 h'=>?_);let⟨x,Q,I5,r5,y5,q,L⟩:=h';have K:=I5.pinned (c L) (T.obj _ _ q);refine wpAny_passesOwn hp (thn (hg _ s5 σ3 Q x u _ K r5 (z x Q y5)) λw s6 ⟨σ6,H6,I6,q6⟩=>?_);refine wpAny_passesOwn hp (thn (hb _ s6 σ6 H6 _ I6 q6) λf P p=>?_)
  have l:∀{σ7:St}{j:Hp},Inv X (a++ň C s5.heap) σ7 j P->N σ7 j->∃m,m<n/\∃i σ' H',Inv X a σ' H' P/\R i P.heap/\(∀b∈C,H' b=none)/\W i m σ' H':=λ{σ7 j}k E=>by
   let⟨m',hm,w7⟩:=hN σ7 j E;exists m',hm,i+1,σ7,j,k.unpinned,T.keep _ _ _ q λb hb o e=>(k.pin (b,o) (cO _ (cO _ (xc hb e)))).1,λb hb=>?_,w7;let⟨o,e,d⟩:=T.obj _ _ q b hb;exact(k.pin (b,o) (cO _ (cO _ (xc hb e)))).2.1
  cases f with
  |next=>let⟨σ7,j,k,E⟩:=p;exact l k E
  |cont=>let⟨σ7,j,k,E⟩:=p;exact l k E
  |brk=>let⟨σ7,j,k,p⟩:=p;exact⟨σ7,j,k.unpinned,p⟩
  |ret v=>let⟨x7,σ7,j,k,r7,p⟩:=p;exists x7,σ7,j,k.unpinned,r7,p
def zh{K:z0}{g:TG}{tb:TS}{D:Ŕ}(Pv:Nat->St->Hp->Prop)(h0:Pv 0 σ H)(hl:∀i σ H,i<=xs.length->Pv i σ H->SqL K H a xs)
  (hs:∀i x σ H,xs[i]?=some x->Pv i σ H->g x σ H λσ2 H2=>tb {D with nx:=Pv (i+1),ct:=Pv (i+1),bk:=D.nx} σ2 H2) (hd:∀σ H,Pv xs.length σ H->D.nx σ H):
  ∃W:Nat->Nat->St->Hp->Prop,(∃m,W 0 m σ H)/\∀i m σ H,W i m σ H ->
   ((Itl K a).stop i H/\D.nx σ H)\/((Itl K a).go i H/\∃N:Ζ,(∀σ' H',N σ' H'->∃m',m'<m/\W (i+1) m' σ' H')/\∀x H',(Itl K a).yld i H x H'->g x σ H' λσ2 H2=>tb {D with nx:=N,ct:=N,bk:=D.nx} σ2 H2):=by
 exists λi m σ H=>m=xs.length-i/\i<=xs.length/\Pv i σ H,⟨xs.length,by simp,dg _,h0⟩,?_;rintro i m σ H ⟨rfl,c,p⟩;have q:=hl i σ H c p;by_cases hlt:i<xs.length
 .refine .inr ⟨⟨xs,xs[i],q,by simp[hlt]⟩,Pv (i+1),λσ' H' b=>⟨xs.length-(i+1),(),rfl,hlt,b⟩,λx H' y=>?_⟩;let⟨e,y⟩:=y;subst e;exact hs i x σ _ (y xs q) p
 .have e:i=xs.length:=()
  subst e;exact .inl ⟨⟨xs,q,cE _⟩,hd σ H p⟩
def ĕ{lo:Int}{n:Nat}{g:TG}{tb:TS}{D:Ŕ}(Pv:Nat->St->Hp->Prop)(h0:Pv 0 σ H)
  (hs:∀i σ H,i<n->Pv i σ H->g (.int (lo+i)) σ H λσ2 H2=>tb {D with nx:=Pv (i+1),ct:=Pv (i+1),bk:=D.nx} σ2 H2) (hd:∀σ H,Pv n σ H->D.nx σ H):
  ∃W:Nat->Nat->St->Hp->Prop,(∃m,W 0 m σ H)/\∀i m σ H,W i m σ H ->
   ((Itr lo n).stop i H/\D.nx σ H)\/((Itr lo n).go i H/\∃N:Ζ,(∀σ' H',N σ' H'->∃m',m'<m/\W (i+1) m' σ' H')/\∀x H',(Itr lo n).yld i H x H'->g x σ H' λσ2 H2=>tb {D with nx:=N,ct:=N,bk:=D.nx} σ2 H2):=by
 exists λi m σ H=>m=n-i/\i<=n/\Pv i σ H,⟨n,by simp,dg _,h0⟩,?_;rintro i m σ H ⟨rfl,b,p⟩;by_cases hlt:i<n
 .refine .inr ⟨hlt,Pv (i+1),λσ' H' a=>⟨n-(i+1),(),rfl,hlt,a⟩,λx H' y=>?_⟩;let⟨e,y⟩:=y;subst e y;exact hs i σ _ hlt p
 .have e:i=n:=()
  subst e;exact .inl ⟨cE _,hd σ H p⟩
abbrev R2:=V->V->Hp->VK->Prop
def OpR(X:Cx)(f:qb->qb->Sem qb)(r:R2):Prop :=
 ∀(pins:Θ)(s:qa)(σ:St)(H:Hp)(x y:V)(v u:qb)(Q:VK),Inv X pins σ H s->xj x v->xj y u->r x y H Q ->
  wpAny (model X.prog X.w) X.A (f v u) (EP X pins σ Q) X.xe s
def UnR(X:Cx)(f:qb->Sem qb)(r:V->Hp->VK->Prop):Prop :=
 ∀(pins:Θ)(s:qa)(σ:St)(H:Hp)(x:V)(v:qb)(Q:VK),Inv X pins σ H s->xj x v->r x H Q ->
  wpAny (model X.prog X.w) X.A (f v) (EP X pins σ Q) X.xe s
def jo(X:Cx)(f:qb)(r:qi V->Hp->VK->Prop):Prop :=
 ∀(pins:Θ)(s:qa)(σ:St)(H:Hp)(xs:Τ)(us:Ξ)(Q:VK),Inv X pins σ H s->wq xs us->r xs H Q ->
  wpAny (model X.prog X.w) X.A (call f us) (EP X pins σ Q) X.xe s
def tOp(r:R2)(ta tb:TE):TE:=λσ H Q=>ta σ H λx H1=>tb σ H1 λy H2=>r x y H2 Q
def tUn(r:V->Hp->VK->Prop)(ta:TE):TE:=λσ H Q=>ta σ H λx H1=>r x H1 Q
def rI(C:Int->Int->Prop)(g:Int->Int->V):R2:=λx y H Q=>∃i j,x=.int i/\y=.int j/\C i j/\Q (g i j) H
def rI0(g:Int->Int->V):R2:=λx y H Q=>∃i j,x=.int i/\y=.int j/\Q (g i j) H
def rU(g:Int->V):V->Hp->VK->Prop:=λx H Q=>∃i,x=.int i/\Q (g i) H
section
variable{a b c:qg}{tb tc:TE}{pos:Pos}
def vct(ha:PE X a ta)(hb:PE X b tb){s:qa}{R:V->V->Hp->Prop}(I:Inv X pins σ H s)
  (h:ta σ H λx H1=>tb σ H1 λy H2=>R x y H2) {Q:Δ} {f:qb->qb->Sem qb}
  (hf:∀v u s2 x y H2,Inv X pins σ H2 s2->xj x v->xj y u->R x y H2->wpAny (model X.prog X.w) X.A (f v u) Q X.xe s2):
  wpAny (model X.prog X.w) X.A (eval a X.env) (λv s₁=>wpAny (model X.prog X.w) X.A (eval b X.env) (λu s₂=>wpAny (model X.prog X.w) X.A (f v u) Q X.xe s₂) X.xe s₁) X.xe s:=by refine thn (ha pins s σ H _ I h) λv c h'=>?_;let⟨x,H1,e,i,k⟩:=h';refine thn (hb pins c σ H1 _ e k) λu s2 h'=>?_;let⟨y,H2,j,g,d⟩:=h';exact hf v u s2 x y H2 j i g d
def yn{op:Operator}{r:R2}(ho:OpR X (binaryOp op) r)(ha:PE X a ta)(hb:PE X b tb):PE X (.BinOp a op b pos) (tOp r ta tb):=by refine .mk λc s σ H Q I h=>?_;exact wpAny_BinOp (vct ha hb I h λv u i x y d f g e q=>ho c i σ d x y v u Q f g e q)
def ym0{op:UnaryOp}{r:V->Hp->VK->Prop}(ho:UnR X (unaryOp op) r)(ha:PE X a ta):PE X (.UnaryOp op a pos) (tUn r ta):=by refine .mk λb s σ H Q I h=>?_;exact UnaryOp_ (thn (ha b s σ H _ I h) λv c ⟨x,g,d,e,f⟩=>ho b c σ g x v Q d e f)
def opI{f:qb->qb->Sem qb}{C:Int->Int->Prop}{g:Int->Int->Int}
  (rule:∀(i j:Int)(t u:Tok)(s:qa)(Q:Δ)(E:Δ),C i j->Q (.int (g i j) s.toks) {s with toks:=s.toks+1}->wpAny (model X.prog X.w) X.A (f (.int i t) (.int j u)) Q E s):
  OpR X f (rI C λi j=>.int (g i j)):=by intro a s σ H x y v u Q I e c h;let⟨i,j,rfl,rfl,b,q⟩:=h;let⟨t,rfl⟩:=e;let⟨d,rfl⟩:=c;exact rule i j t d s _ _ b ⟨.int (g i j),H,I.tok _,⟨_,rfl⟩,q⟩
def vfi{f:qb->qb->Sem qb}{g:Int->Int->Int}
  (rule:∀(i j:Int)(t u:Tok)(s:qa)(Q:Δ)(E:Δ),Q (.int (g i j) s.toks) {s with toks:=s.toks+1}->wpAny (model X.prog X.w) X.A (f (.int i t) (.int j u)) Q E s):
  OpR X f (rI0 λi j=>.int (g i j)):=by intro a s σ H x y v u Q I c d h;let⟨i,j,rfl,rfl,q⟩:=h;let⟨t,rfl⟩:=c;let⟨b,rfl⟩:=d;exact rule i j t b s _ _ ⟨.int (g i j),H,I.tok _,⟨_,rfl⟩,q⟩
def vcs{f:qb->qb->Sem qb}{g:Int->Int->Bool}
  (rule:∀(i j:Int)(t u:Tok)(s:qa)(Q:Δ)(E:Δ),Q (.bool (g i j)) s->wpAny (model X.prog X.w) X.A (f (.int i t) (.int j u)) Q E s):
  OpR X f (rI0 λi j=>.bl (g i j)):=by intro a s σ H x y v u Q I c d h;let⟨i,j,rfl,rfl,q⟩:=h;let⟨t,rfl⟩:=c;let⟨b,rfl⟩:=d;exact rule i j t b s _ _ ⟨.bl (g i j),H,I,rfl,q⟩
def vey(i j:Int):Prop:=(-(2^64)<i/\i<2^64)\/(-(2^64)<j/\j<2^64)
def vey.ok{i j:Int}(h:vey i j):IntMulOk i j:=by
 rcases h with⟨b,a⟩|⟨b,a⟩
 .exact .of_left (intBits_le_64 b a)
 .exact .of_right (intBits_le_64 b a)
def yfi(k:Nat):(0:Int)<=2^k:=by rw[two_pow_cast];exact Int.natCast_nonneg _
def vv:OpR X (binaryOp .Add) (rI0 λi j=>.int (i+j)):=vfi λZ Z Z Z Z Z Z q=>add_int q
def ub:OpR X (binaryOp .Sub) (rI0 λi j=>.int (i-j)):=vfi λZ Z Z Z Z Z Z q=>sub_int q
def wz:OpR X (binaryOp .Mult) (rI vey λi j=>.int (i*j)):=opI λZ Z Z Z Z Z Z a q=>mul_int q a.ok
def w5:OpR X (binaryOp .Mod) (rI (λZ j=>0<j) λi j=>.int (i%j)):=opI λi j Z Z Z Z Z a q=>by
 have b:(0:Int)<j:=a;exact mod_int' () (by rw[Int.fmod_eq_emod_of_nonneg i ()];exact q)
def yxo:OpR X (binaryOp .RShift) (rI (λZ j=>0<=j) λi j=>.int (i/2^j.toNat)):=opI λi j Z Z Z Z Z a q =>
 rshift_int a (by rw[Int.fdiv_eq_ediv_of_nonneg i (yfi _)];exact q)
def unI{f:qb->Sem qb}{g:Int->Int}
  (rule:∀(i:Int)(t:Tok)(s:qa)(Q:Δ)(E:Δ),Q (.int (g i) s.toks) {s with toks:=s.toks+1}->wpAny (model X.prog X.w) X.A (f (.int i t)) Q E s):
  UnR X f (rU λi=>.int (g i)):=by intro a s σ H x v Q I b h;let⟨i,rfl,q⟩:=h;let⟨t,rfl⟩:=b;exact rule i t s _ _ ⟨.int (g i),H,I.tok _,⟨_,rfl⟩,q⟩
def yep:UnR X (unaryOp .USub) (rU λi=>.int (-i)):=unI λZ Z Z Z Z q=>neg_int q
end
noncomputable def vf8:V->V->Bool
 | .non,.non=>true| .non,.int _=>true| .int _,.non=>true| .non,.bl _=>true| .bl _,.non=>true| .non,.str _=>true| .str _,.non=>true
 | .int _,.int _=>true| .bl _,.bl _=>true| .str _,.str _=>true| .byt _,.byt _=>true
 | .int _,.str _=>true| .str _,.int _=>true| .bl _,.str _=>true| .str _,.bl _=>true
 |_,_=>false
def rEq:R2:=λx y H Q=>vf8 x y=true/\Q (.bl (decide (x=y))) H
def yrf{i j:Int}:decide (V.int i=V.int j)=(i == j):=by rw[Bool.eq_iff_iff];simp
def yxh{i j:Bool}:decide (V.bl i=V.bl j)=(i == j):=by rw[Bool.eq_iff_iff];simp
def ysk{i j:Str}:decide (V.str i=V.str j)=(i == j):=by rw[Bool.eq_iff_iff];simp
def ysb{i j:Array UInt8}:decide (V.byt i=V.byt j)=(i.toList == j.toList):=by rw[Bool.eq_iff_iff];cases i;cases j;simp
section
variable{a b c:qg}{tb tc:TE}{pos:Pos}
def ud{s:qa}{Q:VK}{k k':Bool}(I:Inv X pins σ H s)(q:Q (.bl k) H)(e:k=k'):EP X pins σ Q (.bool k') s:=by subst e;exists .bl k,H,I,rfl,q
def xx:OpR X (compareOp .Eq) rEq:=by
 intro e s σ H x y v u Q I d a h;let⟨c,q⟩:=h
 cases x with
 |non =>
  cases d
  cases y with
  |non=>cases a;exact PySem.EqNone.eq_none_none (ud I q (by simp))
  |bl j=>cases a;exact PySem.EqNone.eq_none_bool (ud I q (by simp))
  |int j=>let⟨b,rfl⟩:=a;exact PySem.EqNone.eq_none_int (ud I q (by simp))
  |str j=>let⟨b,rfl⟩:=a;exact PySem.EqNone.eq_none_str (ud I q (by simp))
  |_=>exact absurd (show false=true from c) de
 |bl i =>
  cases d
  cases y with
  |non=>cases a;exact PySem.EqNone.eq_bool_none (ud I q (by simp))
  |bl j=>cases a;exact eq_bool (ud I q yxh)
  |str j=>let⟨b,rfl⟩:=a;exact PySem.EqMixed.eq_bool_str (ud I q (by simp))
  |_=>exact absurd (show false=true from c) de
 |int i =>
  let⟨t,rfl⟩:=d
  cases y with
  |non=>cases a;exact PySem.EqNone.eq_int_none (ud I q (by simp))
  |int j=>let⟨b,rfl⟩:=a;exact eq_int (ud I q yrf)
  |str j=>let⟨b,rfl⟩:=a;exact PySem.EqMixed.eq_int_str (ud I q (by simp))
  |_=>exact absurd (show false=true from c) de
 |str i =>
  let⟨t,rfl⟩:=d
  cases y with
  |non=>cases a;exact PySem.EqNone.eq_str_none (ud I q (by simp))
  |bl j=>cases a;exact PySem.EqMixed.eq_str_bool (ud I q (by simp))
  |int j=>let⟨b,rfl⟩:=a;exact PySem.EqMixed.eq_str_int (ud I q (by simp))
  |str j=>let⟨b,rfl⟩:=a;exact eq_str (ud I q ysk)
  |_=>exact absurd (show false=true from c) de
 |byt i =>
  let⟨t,rfl⟩:=d
  cases y with
  |byt j=>let⟨b,rfl⟩:=a;exact W.eq_bytes (ud I q ysb)
  |_=>exact absurd (show false=true from c) de
 |_=>cases y<;>exact absurd (show false=true from c) de
def ó:OpR X (compareOp .Lt) (rI0 λi j=>.bl (decide (i<j))):=vcs λZ Z Z Z Z Z Z q=>lt_int q
def jh:OpR X (compareOp .LtE) (rI0 λi j=>.bl (decide (i<=j))):=vcs λZ Z Z Z Z Z Z q=>le_int q
def yki:OpR X (compareOp .Gt) (rI0 λi j=>.bl (decide (j<i))):=vcs λZ Z Z Z Z Z Z q=>gt_int q
def vbc:OpR X (compareOp .GtE) (rI0 λi j=>.bl (decide (j<=i))):=vcs λZ Z Z Z Z Z Z q=>ge_int q
def ygp:OpR X (compareOp .In) (λx y H Q=>∃i j,x=.str i/\y=.str j/\Q (.bl (!(Builtin.Str.occurrences j i 0 j.length 1).isEmpty)) H):=by intro a s σ H x y v u Q I b c h;let⟨i,j,rfl,rfl,q⟩:=h;let⟨t,rfl⟩:=b;let⟨d,rfl⟩:=c;exact in_str (ud I q rfl)
def yvb:OpR X (compareOp .Is) (λx y H Q=>y=.non/\Q (.bl (decide (x=.non))) H):=by
 intro a s σ H x y v u Q I b c h;let⟨rfl,q⟩:=h;cases c;refine is_none_gen (ud I q ?_)
 cases x<;>first
  |(cases b;rfl)
  |(let⟨t,rfl⟩:=b;rfl)
def ycy:OpR X (compareOp .IsNot) (λx y H Q=>y=.non/\Q (.bl (!decide (x=.non))) H):=by
 intro a s σ H x y v u Q I b c h;let⟨rfl,q⟩:=h;cases c;refine isnot_none_gen (ud I q ?_)
 cases x<;>first
  |(cases b;rfl)
  |(let⟨t,rfl⟩:=b;rfl)
def y9(b:qg)(h:autoParam (op≠.In) aB._auto_1)(h2:autoParam (op≠.NotIn) aB._auto_1):behindInMarks op b=false:=by
 have a:(op == CmpOp.In)=false:=by cases op<;>first|rfl|exact absurd rfl h
 have c:(op == CmpOp.NotIn)=false:=by cases op<;>first|rfl|exact absurd rfl h2
 delta behindInMarks
 rw[a,c]
 cases b<;>first|rfl|(show (_ && (false || false) && _)=false;rw[Bool.false_or,Bool.and_false,Bool.false_and])
def jt{r:R2}(ho:OpR X (compareOp op) r)(ha:PE X a ta)(hb:PE X b tb)(hm:behindInMarks op b=false):PE X (.Compare a [op] [b] pos) (tOp r ta tb):=by refine .mk λc s σ H Q I h=>?_;exact wpAny_Compare1 (vct ha hb I h λv u i x y d f g e q=>ho c i σ d x y v u Q f g e q) hm
def ysu(t:TE):TT:=λσ H Q=>t σ H λx H'=>∃k,x=.bl k/\Q k H'
def yw{r:R2}(ho:OpR X (compareOp op) r)(ha:PE X a ta)(hb:PE X b tb)(hm:behindInMarks op b=false):PT X (.Compare a [op] [b] pos) (ysu (tOp r ta tb)):=by
 refine .mk λd s σ H Q I h=>?_
 refine wpAny_isTrue_Compare1 (thn (ha d s σ H _ I h) λv f ⟨x,A,n,o,w⟩=>thn (hb d f σ A _ n w) λu B ⟨y,j,t,p,g⟩ =>
  thn (ho d B σ j x y v u _ t o p g) λc C ⟨z,i,m,q,k,e,l⟩=>?_) hm
 subst e;cases q;exact d7 ⟨i,m,l⟩
def yjx(r r':R2)(ta tb tc:TE):TE:=λσ H Q=>ta σ H λx H1=>tb σ H1 λy H2=>r x y H2 λz H3=>∃k,z=.bl k/\
 (if k=true then tc σ H3 λw' H4=>r' y w' H4 Q else Q (.bl false) H3)
def Ô{op':CmpOp}{r r':R2}(ho:OpR X (compareOp op) r)(ho':OpR X (compareOp op') r')(ha:PE X a ta)(hb:PE X b tb)(hc:PE X c tc)
  (hm:autoParam (lastMarks [op,op'] [b,c]=false) aE._auto_1):PE X (.Compare a [op,op'] [b,c] pos) (yjx r r' ta tb tc):=by
 refine .mk λf s σ H Q I h=>?_
 refine Compare_chain (thn (ha f s σ H _ I h) λv A ⟨x,t,D,o,q⟩=>chain_link (thn (hb f A σ t _ D q) λu J ⟨y,C,F,i,B⟩ =>
  thn (ho f J σ C x y v u _ F o i B) λd M ⟨z,g,j,p,k,e,l⟩=>?_)) hm
 subst e;cases p;refine d7 ?_
 cases k with
 |false=>exact ite_ff ⟨.bl false,g,j,rfl,l⟩
 |true=>exact ite_tt (chain_last (thn (hc f M σ g _ j l) λn G ⟨K,w,m,L,E⟩=>ho' f G σ w y K u n Q m i L E))
def Ż{op':CmpOp}{r r':R2}(ho:OpR X (compareOp op) r)(ho':OpR X (compareOp op') r')(ha:PE X a ta)(hb:PE X b tb)(hc:PE X c tc)
  (hm:autoParam (lastMarks [op,op'] [b,c]=false) aE._auto_1):PT X (.Compare a [op,op'] [b,c] pos) (ysu (yjx r r' ta tb tc)):=by
 refine .mk λf s σ H Q I h=>?_
 refine isTrue_chain (thn (ha f s σ H _ I h) λv A ⟨x,t,G,o,q⟩=>test_link (thn (hb f A σ t _ G q) λu M ⟨y,D,K,i,C⟩ =>
  thn (ho f M σ D x y v u _ K o i C) λd T ⟨z,g,j,p,k,e,l⟩=>?_)) hm
 subst e;cases p;refine d7 ?_
 cases k with
 |false =>
  let⟨Z,B,U⟩:=l;cases B;exact ite_ff ⟨g,j,U⟩
 |true =>
  refine ite_tt (test_last (thn (hc f T σ g _ j l) λn L ⟨P,w,m,S,J⟩=>thn (ho' f L σ w y P u n _ m i S J) λW s5 h'=>?_));let⟨z2,F,O,E,Y,N,R⟩:=h';subst N;cases E;exact d7 ⟨F,O,R⟩
def ybo:(sizeLine:Nat)<2^63:=by rw[sizeLine_eq];decide
def ä:OpR X (binaryOp .Add) (λx y H Q=>∃i j,x=.str i/\y=.str j/\i.length+j.length<=sizeLine/\Q (.str (i++j)) H):=by intro a s σ H x y v u Q I e c h;let⟨i,j,rfl,rfl,b,q⟩:=h;let⟨t,rfl⟩:=e;let⟨d,rfl⟩:=c;exact add_str (λd f=>⟨.str (i++j),H,I.tok _,⟨_,rfl⟩,q⟩) b
def ymc(b:qg):Prop:=∀o i,subscripted b false o i=operate [o,i] (getItem o i)
def jb(ha:PE X a ta)(hb:PE X b tb)(hs:ymc b):
  PE X (.Subscript a b pos) (tOp (λx y H Q=>∃z i c,x=.str z/\y=.int i/\0<=i/\i<2^63/\i<z.length/\z.cps[i.toNat]?=some c/\Q (.str ⟨#[c]⟩) H) ta tb):=by
 refine .mk λd s σ H Q I h=>?_;refine Subscript_ (vct ha hb I h λv u w x y g p r m q=>?_);let⟨z,i,c,rfl,rfl,n,o,j,k,q⟩:=q;let⟨t,rfl⟩:=r;let⟨A,rfl⟩:=m;have e:seqIndex? i z.length=some i.toNat:=PySem.StrLaws.seqIndex_nonneg n j
 exact tail_any (typeIs_str w z t) slot_str_getitem.lookup (getItem_str (c:=c) (by
  have l:decide (i< -(2^63:Int))=false:=cX ();have f:decide (i ≥ 2^63)=false:=cX ();rw[l,f]<;>rfl) (by rw[e];exact k) ⟨.str ⟨#[c]⟩,g,p.tok _,⟨_,rfl⟩,q⟩) (hs _ _)
def ĸ{x:V}(r:wq [x] us):∃u,us=[u]/\xj x u:=by
 cases r with
 |cons r1 r2=>cases r2;exists _,rfl,r1
def ykk{x:V}(r:wq [x,y] us):∃u w',us=[u,w']/\xj x u/\xj y w':=by
 cases r with
 |cons r1 r2 =>
  cases r2 with
  |cons r3 r4=>cases r4;exists _,_,rfl,r1,r3
def ya8(hc:X.calm=true):jo X (.builtin "max") (λxs H Q=>∃i j,xs=[.int i,.int j]/\Q (.int (if j > i then j else i)) H):=by
 intro a s σ H xs b Q I r h;let⟨i,j,rfl,q⟩:=h;let⟨u,e,rfl,⟨t,rfl⟩,⟨f,rfl⟩⟩:=ykk r;refine max_two_ints (I.ok.hd hc) λc d k=>⟨_,H,I.kept k,?_,q⟩;by_cases hj:j > i
 .rw[if_pos hj,if_pos hj];exists _,rfl
 .rw[if_neg hj,if_neg hj];exists _,rfl
def ya2(hc:X.calm=true):jo X (.builtin "min") (λxs H Q=>∃i j,xs=[.int i,.int j]/\Q (.int (if j<i then j else i)) H):=by
 intro a s σ H xs b Q I r h;let⟨i,j,rfl,q⟩:=h;let⟨u,e,rfl,⟨t,rfl⟩,⟨f,rfl⟩⟩:=ykk r;refine min_two_ints (I.ok.hd hc) λc d k=>⟨_,H,I.kept k,?_,q⟩;by_cases hj:j<i
 .rw[if_pos hj,if_pos hj];exists _,rfl
 .rw[if_neg hj,if_neg hj];exists _,rfl
def yha:jo X (.type "int") (λxs H Q=>(∃i,xs=[.int i]/\Q (.int i) H)\/∃k,xs=[.bl k]/\Q (.int (if k then 1 else 0)) H):=by
 intro a s σ H xs c Q I r h;rcases h with⟨i,rfl,q⟩|⟨k,rfl,q⟩
 .obtain⟨u,rfl,t,rfl⟩:=ĸ r;exact call_int_int ⟨.int i,H,I,⟨_,rfl⟩,q⟩
 .obtain⟨u,rfl,b⟩:=ĸ r;cases b;exact call_int_bool ⟨.int (if k then 1 else 0),H,I.tok _,⟨_,rfl⟩,q⟩
end
structure ys6(h:qf)(x dx C:xy)(mA:Ε):Prop where
 obj:h.get? x=some (W.instObj C dx)
 ns:h.Ns1 dx mA
 ne:dx≠x
set_option tactic.hygienic true in
def yg9{h:qf}{dx:xy}(n:h.Ns1 dx mA):∃od,h.get? dx=some od/\∀name,W.lookIn name od=some (mA name):=by
 let⟨o,c,l,g,d,i,_,k⟩:=n;exists o,g,λname=>?_;have e:=k name;unfold nsFind findBy at e;rw[<- Array.find?_toList]at e;unfold W.lookIn;rw[d];dsimp only
 split
 .rename_i y q
  rw[q]at e;exact congrArg some e
 .rename_i q
  rw[q]at e
  have a:c.toList.any (·.refKey)=false:=by
   rw[List.any_eq_false];intro y j;let⟨z,t,b⟩:=i y (Array.mem_toList_iff.mp j);simp[DictEntry.refKey,b]
  have f:¬c.toList.any (·.refKey)=true:=by rw[a];exact de
  rw[if_neg f];exact congrArg some e
def ys6.look{h:qf}{x dx:xy}(I:ys6 h x dx C mA):∃od,W.InstAt h x (W.instObj C dx) C (some od)/\∀name,W.lookIn name od=some (mA name) :=
 let ⟨od,ho,hl⟩:=yg9 I.ns
 ⟨od,⟨I.obj,rfl,rfl,ho⟩,hl⟩
section
variable{prog:qh}{w:qd}{A:qe}{s:qa}{K:z0}{x dx f:xy}{name:Str}{v:qb}
def yr8{expr:Bool}(X:K.In s.heap)(I:ys6 s.heap x dx C mA)(hg:W.plainGet K C name=true)(hh:W.hasDictIn K C=true)
  (ha:W.findIn K (.ref C) name=some none) (hv:mA name=some v) (hv':W.handedIn v=true) (h:Q v {s with toks:=s.toks+1}):
  wpAny (model prog w) A (getAttr (.ref x) name expr) Q E s:=by let⟨b,J,a⟩:=I.look;exact W.get_value X J (W.plainGet_of hg).1 (W.findObj_own hh ha rfl (by rw[a,hv])) hv' h
def ykv{pl:Sem Bool}{Q:qb×qi qb->qa->Prop}(X:K.In s.heap)(I:ys6 s.heap x dx C mA)(hg:W.plainGet K C name=true)
  (hf:W.findIn K (.ref C) name=some (some (.ref f))) (ht:W.isFn K (.ref f)=true) (hv:mA name=none) (h:Q (.ref f,[.ref x]) s):
  wpAny (model prog w) A (getMethod (.ref x) name pl) Q E s:=by let⟨b,J,a⟩:=I.look;exact W.method_fn X J (W.plainGet_of hg).1 (W.plainGet_of hg).2 hf (beq_iff_eq.mp ht) (by show (W.lookIn name b).map (·.isSome)=some false;rw[a,hv];rfl) h
def yrp{ns:Ρ}{Q:Unit->qa->Prop}(X:K.In s.heap)(I:ys6 s.heap x dx C mA)
  (hs:W.findIn K (.ref C) "__setattr__"=some (some (.builtin "object.__setattr__"))) (hp:W.plainOver K C=true) (ht:W.takerIn K C name=some none) (hh:W.hasDictIn K C=true)
  (hw:PySem.Within mA ns) (hsz:ns.length<=sizeLine)
  (h:∀h',ys6 h' x dx C (λy=>if y=name then some v else mA y)->Heap.SameBut dx s.heap h'->Q ⟨⟩ {s with heap:=h',toks:=s.toks+2}):
  wpAny (model prog w) A (setAttr (.ref x) name v) Q E s:=by let⟨o,J,n⟩:=I.look;refine W.set_plain X J hs (W.osa_open (s:={s with toks:=s.toks+1}) (r:=none) X J hp ht λb=>?_);let⟨p,l,f⟩:=W.any_some hh;have m:s.heap.get? x=some ⟨.ref C,some dx,.plain,#[]⟩:=I.obj;refine cz (cG (cz (cz (wpAny_loadPart m (cz (W.Looks.here (s:={s with toks:=s.toks+1}) (W.looks_clsIn X l) ?_))))));rw[f];refine cG (a:=some dx) (cz (cG (cz ?_)));refine wpAny_nsSet1 (s:={s with toks:=s.toks+1}) I.ns λh' d c=>?_;let⟨q,k,j,e,g,i⟩:=d.count (PySem.Within.cons name v hw);refine cz (wpAny_lookBehind e (by rw[g];exact pastItsLine_dict (dB i (by rw[cB];omega))) ?_);exact cG (h _ ⟨(c.2 _ (Ne.symm I.ne)).trans I.obj,d,I.ne⟩ c)
def ydz{R:Result->qa->Prop}{vs:Ξ}(X:K.In s.heap)(hm:W.makesIn K C=true)
  (hi:W.findIn K (.ref C) "__init__"=some (some (.ref f))) (hf:W.typeIn K (.ref f)=some (.type "function"))
  (h:codeAny (model prog w) (A.under (.builtin "type.__call__" ⟨.ref C::vs,kw⟩)) (.call (.ref f) ⟨.ref (s.heap.objs.size+1)::vs,kw⟩) (W.InitBack (s.heap.objs.size+1) R)
   {s with heap:=(s.heap.push W.emptyDict).push (W.instObj C s.heap.objs.size)}):
  codeAny (model prog w) A (.call (.ref C) ⟨vs,kw⟩) R s:=by let⟨b,g,d,t,c⟩:=s;exact W.make_core (W.makes_of X hm) (W.looks_findIn X hi) (λa=>W.bind_fn X a hf) (.inl rfl) h
end
noncomputable def ε(f:Str)(v:V):qi (Str×V)->qi (Str×V)
 |[]=>[(f,v)]
 |(g,x)::r=>if g=f then (g,v)::r else (g,x)::ε f v r
theorem ĉ(f g:Str)(v:V):∀fs:Ι,(ε f v fs).lookup g=if g=f then some v else fs.lookup g
 |[]=>by
  show List.lookup g [(f,v)]=_;by_cases h:g=f
  .have a:(g == f)=true:=beq_iff_eq.mpr h;simp only[List.lookup,a,if_pos h]
  .have a:(g == f)=false:=eA.mpr h;simp only[List.lookup,a,if_neg h]
 |(k,x)::r=>by
  have b:=ĉ f g v r;rw[show ε f v ((k,x)::r)=(if k=f then (k,v)::r else (k,x)::ε f v r)from rfl];by_cases hk:k=f
  .rw[if_pos hk];by_cases h:g=k
   .have a:(g == k)=true:=beq_iff_eq.mpr h;simp only[List.lookup,a,if_pos (h.trans hk)]
   .have a:(g == k)=false:=eA.mpr h;simp only[List.lookup,a,if_neg (λe:g=f=>h (e.trans hk.symm))]
  .rw[if_neg hk];by_cases h:g=k
   .have a:(g == k)=true:=beq_iff_eq.mpr h;simp only[List.lookup,a,if_neg (λe:g=f=>hk (h.symm.trans e))]
   .have a:(g == k)=false:=eA.mpr h;simp only[List.lookup,a];exact b
theorem ď(f:Str)(v:V):∀fs:Ι,f∈(ε f v fs).map (·.1)/\∀g,g∈fs.map (·.1)->g∈(ε f v fs).map (·.1)
 |[]=>⟨by simp[ε],λg h=>by simp at h⟩
 |(k,x)::r=>by
  let⟨a,b⟩:=ď f v r;rw[show ε f v ((k,x)::r)=(if k=f then (k,v)::r else (k,x)::ε f v r)from rfl];by_cases hk:k=f
  .rw[if_pos hk];subst hk;exists by simp,λg h=>by simpa using h
  .rw[if_neg hk];exists ?_,λg h=>?_
   .rw[dC];exact dz _ a
   .rw[dC]at h⊢;rcases cS.mp h with e|e
    .exact cS.mpr (.inl e)
    .exact dz _ (b g e)
theorem ć(f:Str)(v:V):∀fs:Ι,(ε f v fs).length<=fs.length+1
 |[]=>by simp[ε]
 |(k,x)::r=>by
  have a:=ć f v r;rw[show ε f v ((k,x)::r)=(if k=f then (k,v)::r else (k,x)::ε f v r)from rfl];by_cases hk:k=f
  .rw[if_pos hk,cB,cB];omega
  .rw[if_neg hk,cB,cB];omega
def yb0.some_of{o:qj qb}(r:yb0 (some v) o):∃u,o=some u/\xj v u:=by
 cases o with
 |none=>exact(show False from r).elim
 |some u=>exact⟨u,rfl,r⟩
def yb0.none_of{o:qj qb}(r:yb0 none o):o=none:=by
 cases o with
 |none=>rfl
 |some u=>exact(show False from r).elim
def yhh(r:xj v u):W.handedIn u=true:=by
 cases v with
 |non=>cases (show u=Value.none from r);rfl
 |bl b=>cases (show u=Value.bool b from r);rfl
 |int i=>let⟨t,e⟩:=(show ∃t,u=Value.int i t from r);cases e;rfl
 |str x=>let⟨t,e⟩:=(show ∃t,u=Value.str x t from r);cases e;rfl
 |byt b=>let⟨t,e⟩:=(show ∃t,u=Value.bytes b t from r);cases e;rfl
 |flt b=>let⟨t,e⟩:=(show ∃t,u=Value.float b t from r);cases e;rfl
 |ref a=>cases (show u=Value.ref a from r);rfl
 |ty n=>cases (show u=Value.type n from r);rfl
section
variable{w:qd}{h:qf}{dx:xy}{fs fs':Ι}
def yaa(hok:HOk P w H h)(e:H a=some (.ins C dx fs)):∃mA,ys6 h a dx C mA/\(∀f,yb0 (fs.lookup f) (mA f))/\PySem.Within mA (fs.map (·.1))/\fs.length<=1000/\H dx=some (.own a):=by let⟨d,z,c,b,mA,n,r,q⟩:=(show xl P w H h a (.ins C dx fs)from hok a _ e);exists mA,⟨b,n,c⟩,r,q,z,d
end
structure Cls(K:z0)(C:xy):Prop where
 pg:W.plainGet K C Str.empty=true
 hd:W.hasDictIn K C=true
 po:W.plainOver K C=true
 sa:W.findIn K (.ref C) "__setattr__"=some (some (.builtin "object.__setattr__"))
def Cls.get{K:z0}(c:Cls K C)(f:Str):W.plainGet K C f=true:=c.pg
def NoAttr(K:z0)(C:xy)(f:Str):Prop:=W.findIn K (.ref C) f=some none
def NoAttr.taker{K:z0}{f:Str}(n:NoAttr K C f):W.takerIn K C f=some none:=by unfold W.takerIn;rw[show W.findIn K (.ref C) f=some none from n];rfl
structure Con(K:z0)(C:xy)(f:Str)(v:V)(u:qb):Prop where
 at_:W.findIn K (.ref C) f=some (some u)
 rel:xj v u
 get:W.specialIn K u "__get__"=some none
 cp:W.copiedNames.contains f=false
structure Meth(K:z0)(C:xy)(m:Str)(f:xy):Prop where
 at_:W.findIn K (.ref C) m=some (some (.ref f))
 fn:W.isFn K (.ref f)=true
 kp:W.keepIn K (.ref f)=true
section
variable{s:qa}{dx:xy}{fs:Ι}{f:Str}{A:qe}
def yfu{b:Bool}(I:Inv X pins σ H s)(e:H a=some (.ins C dx fs))(c:Cls X.K C)(n:NoAttr X.K C f)(l:fs.lookup f=some v)
  (h:∀u s',Inv X pins σ H s'->xj v u->Q u s'):wpAny (model X.prog X.w) A (getAttr (.ref a) f b) Q E s:=by let⟨i,O,r,_,_,_⟩:=yaa I.hok e;let⟨u,g,d⟩:=yb0.some_of (v:=v) (o:=i f) (by rw[<- l];exact r f);exact yr8 I.kIn O (c.get f) c.hd n g (yhh d) (h u _ (I.tok _) d)
def j5{m:Str}{g:xy}{pl:Sem Bool}{Q:qb×qi qb->qa->Prop}(I:Inv X pins σ H s)(e:H a=some (.ins C dx fs))(c:Cls X.K C)(k:Meth X.K C m g)(l:fs.lookup m=none)
  (h:Q (.ref g,[.ref a]) s):wpAny (model X.prog X.w) A (getMethod (.ref a) m pl) Q E s:=by let⟨d,O,r,_,_,_⟩:=yaa I.hok e;have b:d m=none:=yb0.none_of (by rw[<- l];exact r m);exact ykv I.kIn O (c.get m) k.at_ k.fn b h
def yf6{Q:Unit->qa->Prop}(I:Inv X pins σ H s)(e:H a=some (.ins C dx fs))(c:Cls X.K C)(n:NoAttr X.K C f)(hl:fs.length<1000)(ry:xj y u)
  (h:∀s',Inv X pins σ (upd H a (.ins C dx (ε f y fs))) s'->Q ⟨⟩ s'):wpAny (model X.prog X.w) A (setAttr (.ref a) f u) Q E s:=by
 let⟨i,O,r,k,_,j⟩:=yaa I.hok e;have m:(fs.map (·.1)).length<=sizeLine:=by rw[bz,sizeLine_eq];omega
 refine yrp I.kIn O c.sa c.po n.taker c.hd k m λt d v=>h _ ?_;have l:∃o,t.get? dx=some o:=let ⟨o,_,_,e',_⟩:=d.ns;⟨o,e'⟩;refine I.write (x:=a) (e:=dx) (by rw[e];exact True.intro) (.inr j) (λb q B z=>(v.2 b B).trans z) l ?_;exists by rw[yp O.ne];exact j,?_,O.ne,d.obj,_,d.ns,λg=>?_,λg p=>?_
 .have:=ć f y fs;omega
 .show yb0 ((ε f y fs).lookup g) (if g=f then some u else i g);rw[ĉ];by_cases q:g=f
  .rw[if_pos q,if_pos q];exact ry
  .rw[if_neg q,if_neg q];exact r g
 .by_cases q:g=f
  .rw[q];exact(ď f y fs).1
  .refine(ď f y fs).2 g (k g λz=>p ?_);show (if g=f then some u else i g)=none;rw[if_neg q];exact z
def Inv.made(I:Inv X pins σ H s):Inv X pins σ (upd (upd H s.heap.objs.size (.own (s.heap.objs.size+1))) (s.heap.objs.size+1) (.ins C s.heap.objs.size []))
  {s with heap:=(s.heap.push W.emptyDict).push (W.instObj C s.heap.objs.size)}:=by
 have d:(s.heap.push W.emptyDict).get? s.heap.objs.size=some W.emptyDict:=cV s.heap rfl
 have f:((s.heap.push W.emptyDict).push (W.instObj C s.heap.objs.size)).get? (s.heap.objs.size+1)=some (W.instObj C s.heap.objs.size):=by
  have:=cV (s.heap.push W.emptyDict) (o:=W.instObj C s.heap.objs.size) rfl
  rwa[Heap.size_push]at this
 have h:(s.heap.push W.emptyDict).Ns s.heap.objs.size (λZ=>none):=⟨W.emptyDict,#[],_,d,rfl,(λe g=>absurd g (by simp)),λZ=>rfl⟩;have i:=I.laid (a:=s.heap.objs.size) (o:=.own (s.heap.objs.size+1)) (h':=s.heap.push W.emptyDict) (t':=s.toks) (λb u q=>cD _ q) (cE _) ⟨_,d⟩;refine i.laid (a:=s.heap.objs.size+1) (o:=.ins C s.heap.objs.size []) (t':=s.toks) (λb u q=>cD _ q) (Nat.le_of_eq (Heap.size_push _ _)) ?_;have c:s.heap.objs.size≠s.heap.objs.size+1:=di (eF _);exists by rw[yp c,ya],dg _,c,f,λZ=>none,(Heap.Ns1.of_empty h).at λo q=>cD _ q,λZ=>True.intro,λy j=>absurd rfl j
def ysg{prog:qh}{w:qd}{env:Env}{e:qg}{pos:Pos}(hb:attributeBase e f env (eval e env)=eval e env)
  (h:wpAny (model prog w) A (eval e env) (λo s₁=>wpAny (model prog w) A (getAttr o f true) Q E s₁) E s):wpAny (model prog w) A (eval (.Attribute e f pos) env) Q E s :=
 Attribute_any_ h (by rw[arm_eval_Attribute,hb])
end
def ve3(K:z0)(ta:TE)(f:Str):TE:=λσ H Q=>ta σ H λx H1=>∃a C dx fs v,x=.ref a/\H1 a=some (.ins C dx fs)/\Cls K C/\NoAttr K C f/\fs.lookup f=some v/\Q v H1
def vfu(K:z0)(ta tv:TE)(f:Str):TS:=λD σ H=>tv σ H λy H1=>ta σ H1 λx H2=>∃a C dx fs,x=.ref a/\H2 a=some (.ins C dx fs)/\Cls K C/\NoAttr K C f/\fs.length<1000/\
 D.nx σ (upd H2 a (.ins C dx (ε f y fs)))
section
variable{o e value:qg}{f:Str}{pos pos' tpos:Pos}{tv:TE}
def yo(he:PE X e ta)(hb:attributeBase e f X.env (eval e X.env)=eval e X.env):PE X (.Attribute e f pos) (ve3 X.K ta f):=by refine .mk λb s σ H Q I h=>?_;refine ysg hb (thn (he b s σ H _ I h) λu p h'=>?_);let⟨x,o,k,j,a,C,t,w,v,g,i,c,n,l,q⟩:=h';subst g;obtain rfl:u=Value.ref a:=j;exact yfu k i c n l λr y m d=>⟨v,o,m,d,q⟩
def ve(ha:PE X o ta)(hv:PE X value tv)(hs:swapsWith value (some (.Attribute o f pos')) pos.line X.env=pure false):PS X (.Assign [.Attribute o f pos'] value pos) (vfu X.K ta tv f):=by refine .mk λb s σ H D I h=>?_;refine plainObj_wpAny_Assign_Attribute (thn (hv b s σ H _ I h) λu d ⟨y,v,p,i,q⟩=>thn (ha b d σ v _ p q) λj E h'=>?_) hs;let⟨x,w,r,m,a,C,z,A,g,k,c,n,l,e⟩:=h';subst g;obtain rfl:j=Value.ref a:=m;exact yf6 r k c n l i λB t=>⟨σ,_,t,e⟩
end
section
variable{s:qa}{A:qe}{c:qb}{b:Bool}
inductive xu(K:z0)(H:Hp):V->qb->Prop where
 |non:xu K H .non (.type "NoneType")
 |bl (x:Bool):xu K H (.bl x) (.type "bool")
 |int (i:Int):xu K H (.int i) (.type "int")
 |str (x:Str):xu K H (.str x) (.type "str")
 |flt (x:UInt64):xu K H (.flt x) (.type "float")
 |lst {a:xy} {xs:Τ} (e:H a=some (.lst xs)):xu K H (.ref a) (.type "list")
 |frz {a:xy} {o:Obj} {xs:Τ} (e:H a=some (.frz o (.lst xs))):xu K H (.ref a) (.type "list")
 |tup {a:xy} {xs:Τ} (e:H a=some (.tup xs)):xu K H (.ref a) (.type "tuple")
 |dK {a:xy} {kvs:qi (Key×V)} (e:H a=some (.dK kvs)):xu K H (.ref a) (.type "dict")
 |dT {a:xy} {kvs:qi (qi Key×V)} (e:H a=some (.dT kvs)):xu K H (.ref a) (.type "dict")
 |ins {a C dx:xy} {fs:Ι} (e:H a=some (.ins C dx fs)) (cl:Cls K C) (ha:W.findIn K (.ref C) "__class__"=some (some (.builtin "object.__class__")))
   (hn:W.specialIn K (.builtin "object.__class__") "__get__"=some (some (.builtin "getset_descriptor.__get__"))) (htk:W.takesIn K (.builtin "object.__class__")=some true)
   (hm:W.mroIn K C (.type "object")=some true):xu K H (.ref a) (.ref C)
def yhp{x:V}{t:qb}(I:Inv X pins σ H s)(rx:xj x u)(ty:xu X.K H x t)(e:W.kitOne X.K t c=some b)(h:∀tk,Q (.bool b) {s with toks:=tk}):
  wpAny (model X.prog X.w) A (call (.builtin "isinstance") [u,c]) Q E s:=by
 cases ty with
 |non=>cases (show u=Value.none from rx);exact W.kia_one W.kitx_none I.kIn True.intro e (λz=>nomatch z) h
 |bl y=>cases (show u=Value.bool y from rx);exact W.kia_one W.kitx_bool I.kIn True.intro e (λz=>nomatch z) h
 |int i=>let⟨t,q⟩:=(show ∃t,u=Value.int i t from rx);cases q;exact W.kia_one W.kitx_int I.kIn True.intro e (λz=>nomatch z) h
 |str y=>let⟨t,q⟩:=(show ∃t,u=Value.str y t from rx);cases q;exact W.kia_one W.kitx_str I.kIn True.intro e (λz=>nomatch z) h
 |flt y=>let⟨t,q⟩:=(show ∃t,u=Value.float y t from rx);cases q;exact W.kia_one W.kitx_float I.kIn True.intro e (λz=>nomatch z) h
 | @lst a xs ea =>
  cases (show u=Value.ref a from rx);let⟨_,_,n,_,d⟩:=(show xl X.prog X.w H s.heap a (.lst xs)from I.hok a _ ea)
  exact W.kia_one W.kitx_list I.kIn ⟨_,d,rfl⟩ e (λz=>nomatch z) h
 | @frz a ob xs ea =>
  cases (show u=Value.ref a from rx);let⟨_,_,_,n,_,d⟩:=(show xl X.prog X.w H s.heap a (.frz ob (.lst xs))from I.hok a _ ea)
  exact W.kia_one W.kitx_list I.kIn ⟨_,d,rfl⟩ e (λz=>nomatch z) h
 | @tup a xs ea =>
  cases (show u=Value.ref a from rx);let⟨_,_,_,p⟩:=(show xl X.prog X.w H s.heap a (.tup xs)from I.hok a _ ea);let⟨o,d,f,_⟩:=p
  exact W.kia_one W.kitx_tuple I.kIn ⟨o,d,f⟩ e (λz=>nomatch z) h
 | @dK a kvs ea =>
  cases (show u=Value.ref a from rx);let⟨_,_,k,_,p⟩:=(show xl X.prog X.w H s.heap a (.dK kvs)from I.hok a _ ea);let⟨o,g,j,d,f,_⟩:=p
  exact W.kia_one W.kitx_dict I.kIn ⟨o,d,f.1⟩ e (λz=>nomatch z) h
 | @dT a kvs ea =>
  cases (show u=Value.ref a from rx);let⟨_,_,xs,_,o,g,j,d,f,_⟩:=(show xl X.prog X.w H s.heap a (.dT kvs)from I.hok a _ ea)
  exact W.kia_one W.kitx_dict I.kIn ⟨o,d,f.1⟩ e (λz=>nomatch z) h
 | @ins a C dx fs ea cl ha hn htk hm =>
  cases (show u=Value.ref a from rx);let⟨l,O,_⟩:=yaa I.hok ea;let⟨m,J,_⟩:=O.look
  exact W.kia_one (W.kitx_own (cl.get _) cl.hd ha hn htk hm) I.kIn J e (λz=>nomatch z) h
end
structure ji(k:Nat)(A:qe):Prop where
 hd:A.handled=none
 dp:A.depth+3*k+5<recursionLimit
 un:A.units+16*k+200<cLine
def ji.mono{j k:Nat}{A:qe}(r:ji k A)(h:j<=k):ji j A:=⟨r.hd,by have:=r.dp;omega,by have:=r.un;omega⟩
theorem ji.deeper{k:Nat}{A:qe}(r:ji (k+1) A)(env:Env):ji k (A.deeper env) :=
 ⟨r.hd,by have:=r.dp;show A.depth+1+3*k+5<_;omega,by have:=r.un;show A.units+3+16*k+200<_;omega⟩
def yfg{A:qe}:(A.under (.builtin "type.__call__" ⟨.ref C::us,kw⟩)).depth=A.depth+1:=by first|rfl|simp[Around.under,Code.weight,Code.isCreation,Code.isGuard,Code.isCaller,Code.frames,Code.isFrame,guardIds]
def yfw{A:qe}:(A.under (.builtin "type.__call__" ⟨.ref C::us,kw⟩)).units=A.units+1:=by first|rfl|simp[Around.under,Code.cUnits,Code.frames,Code.isFrame]
def ji.make{k:Nat}{A:qe}(r:ji (k+1) A)(C:xy)(us:Ξ)(kw:qi (Str×qb)):ji k (A.under (.builtin "type.__call__" ⟨.ref C::us,kw⟩)) :=
 ⟨r.hd,by have:=r.dp;rw[yfg];omega,by have:=r.un;rw[yfw];omega⟩
theorem ji.depth{k:Nat}{A:qe}(r:ji k A):A.depth<recursionLimit:=by have:=r.dp;omega
theorem ji.units{k:Nat}{A:qe}(r:ji k A):A.units+64<cLine:=by have:=r.un;omega
def ykp:TA:=λZ H Q=>Q [] H
def yke(ta:TE)(tr:TA):TA:=λσ H Q=>ta σ H λx H1=>tr σ H1 λxs H2=>Q (x::xs) H2
section
variable{e:qg}{t:TA}{pos:Pos}
def u8:PA X [] ykp:=.mk λZ Z Z Z H Q I h=>Calls.spliced_nil ⟨[],H,I,.nil,h⟩
def je(ha:PE X e te)(hr:PA X es t)(hs:autoParam (starEach (e::es) X.env=(false,eval e X.env)::starEach es X.env) aD._auto_1):PA X (e::es) (yke te t):=by refine .mk λb a s σ H Q I h=>?_;rw[hs];show wpAny _ _ (spliced ((false,eval e X.env)::backTo b (starEach es X.env))) _ _ s;refine Calls.spliced_cons (thn (ha a s σ H _ I h) λu c h'=>?_);let⟨x,n,i,j,m⟩:=h';exact thn (hr b a c σ n _ i m) λo p ⟨d,g,l,k,f⟩=>⟨x::d,g,l,.cons j k,f⟩
def vfv(t:TA):TE:=λσ H Q=>t σ H λxs H1=>xs.length<=sizeLine/\∀p,H1 p=none->Q (.ref p) (upd H1 p (.tup xs))
def ves(t:TA):TE:=λσ H Q=>t σ H λxs H1=>xs.length<=sizeLine/\∀p,H1 p=none->Q (.ref p) (upd H1 p (.lst xs))
def zx{x1}(h:PA X es t):PE X (.Tuple es x1 pos) (vfv t):=by refine .mk λa s σ H Q I j=>?_;refine wpAny_Tuple_spliced (thn (h pos a s σ H _ I j) λg c ⟨k,f,d,r,z,q⟩=>⟨by rw[<- r.length];exact z,?_⟩);have i:f c.heap.objs.size=none:=d.hok.fresh (cE _);exists .ref c.heap.objs.size,upd f c.heap.objs.size (.tup k),d.laid (t':=c.toks) (λb u e=>cD _ e) (cE _) ?_,rfl,q _ i;exists z,g,r,⟨_,cV _ rfl,rfl,_,rfl⟩
def vd(h:PA X es t):PE X (.List es pos) (ves t):=by refine .mk λa s σ H Q I j=>?_;refine wpAny_List_spliced (thn (h pos a s σ H _ I j) λg c ⟨k,f,d,r,z,q⟩=>⟨by rw[<- r.length];exact z,?_⟩);have i:f c.heap.objs.size=none:=d.hok.fresh (cE _);exists .ref c.heap.objs.size,upd f c.heap.objs.size (.lst k),d.laid (t':=c.toks) (λb u e=>cD _ e) (cE _) ?_,rfl,q _ i;exists z,g,0,r,cV _ rfl
end
abbrev Sp:=qi V->Hp->VK->XK->Prop
abbrev CXT:=qi Env->Hp->qa->XK->qb->qa->Prop
variable{CX:CXT}
structure ys3(P:qh)(w:qd)(K:z0)(mg:Ε)(base:qf)(A:qe)(outer:qi Env)(s:qa)(H:Hp):Prop where
 frames:A.frames=some outer
 mod:Mod K mg base
 bs:∀b o,base.get? b=some o->s.heap.get? b=some o/\H b=none
 bsz:base.objs.size<=s.heap.objs.size
 funs:s.heap.FunFrames base outer
 frf:∀b∈frs outer,H b=none
 hok:HOk P w H s.heap
 bare:AllBare s.gens
def CE(outer:qi Env)(P:qh)(w:qd)(H:Hp)(s:qa)(Q:VK)(u:qb)(s':qa):Prop :=
 ∃v H',s'.os=s.os/\AllBare s'.gens/\Un (frs outer) [] H H' s.heap s'.heap/\HOk P w H' s'.heap/\xj v u/\Q v H'
def CR(CX:CXT)(outer:qi Env)(P:qh)(w:qd)(H:Hp)(s:qa)(Q:VK)(E:XK)(r:Result)(s':qa):Prop :=
 match r with
 | .ok (.ret u)=>CE outer P w H s Q u s'
 | .ok _=>False
 | .error e=>CX outer H s E e s'
structure vx(P:qh)(w:qd)(K:z0)(mg:Ε)(base:qf)(CX:CXT)(k:Nat)(f:xy)(fd:FuncData)(ps:Ρ)(sp:Sp):Prop where
 len:∀vs H Q E,sp vs H Q E->vs.length=ps.length
 run:∀(A:qe)(outer:qi Env)(s:qa)(H:Hp)(args:Args)(us:Ξ)(vs:Τ)(Q:VK)(E:XK),ji k A->ys3 P w K mg base A outer s H->BindsTo s fd args (ps.zip us)->wq vs us->sp vs H Q E ->
  codeAny (model P w) A (.call (.ref f) args) (CR CX outer P w H s Q E) s
def vx.imp{w:qd}{K:z0}{mg:Ε}{base:qf}{k:Nat}{f:xy}{ps:Ρ}{sp sp':Sp}(F:vx P w K mg base CX k f fd ps sp)
  (h:∀vs H Q E,sp' vs H Q E->sp vs H Q E):vx P w K mg base CX k f fd ps sp' :=
 ⟨λvs H Q E q=>F.len vs H Q E (h _ _ _ _ q),λA a s H b d vs Q E g e j i c=>F.run A a s H b d vs Q E g e j i (h _ _ _ _ c)⟩
def ys3.make{w:qd}{K:z0}{mg:Ε}{base:qf}{A:qe}{outer:qi Env}{s:qa}(e:ys3 P w K mg base A outer s H)(C:xy)(us:Ξ)(kw:qi (Str×qb)):
  ys3 P w K mg base (A.under (.builtin "type.__call__" ⟨.ref C::us,kw⟩)) outer s H:=⟨by first|exact e.frames|(simpa[Around.under,Code.envs,Code.isFrame,pushEnvs]using e.frames),e.mod,e.bs,e.bsz,e.funs,e.frf,e.hok,e.bare⟩
section
variable{s:qa}
def Inv.env0(I:Inv X pins σ H s):ys3 X.prog X.w X.K X.mg X.base X.A X.stack s H :=
 ⟨I.ok.frames,I.ok.mod,I.bs,dB I.ok.bsz I.sz,I.stack,I.stkFree,I.hok,I.bare⟩
def Inv.after{Q:VK}(I:Inv X pins σ H s)(h:CE X.stack X.prog X.w H s Q u s'):EP X pins σ Q u s':=by let⟨v,k,i,a,j,c,r,q⟩:=h;let⟨f,g,d,t,e⟩:=s';obtain rfl:e=s.os:=i;exists v,k,I.call (h':=f) (g':=g) (d':=d) (t':=t) (ch:=[]) j c a (λb z=>absurd z (by simp)),r,q
end
def ysx(sp:Sp)(dvs:Τ)(E:XK)(t:TA):TE:=λσ H Q=>t σ H λvs H1=>sp (vs++dvs) H1 Q E
def ydb(C:xy)(m:Str)(sp:Sp)(dvs:Τ)(E:XK)(ta:TE)(t:TA):TE:=λσ H Q=>ta σ H λx H1=>∃a dx fs,x=.ref a/\H1 a=some (.ins C dx fs)/\fs.lookup m=none/\
 t σ H1 λvs H2=>sp (x::(vs++dvs)) H2 Q E
def ysr(C:xy)(sp:Sp)(dvs:Τ)(E:XK)(t:TA):TE:=λσ H Q=>t σ H λvs H1=>∀x dx,H1 x=none->H1 dx=none->dx≠x ->
 sp (.ref x::(vs++dvs)) (upd (upd H1 dx (.own x)) x (.ins C dx [])) (λv H2=>v=.non/\Q (.ref x) H2) E
def zd(K:z0)(fd:FuncData)(ps:Ρ)(ds:Ξ):Prop :=
 ∀(s:qa)(us:Ξ),K.In s.heap->(us++ds).length=ps.length->BindsTo s fd ⟨us,[]⟩ (ps.zip (us++ds))
def zd.all{K:z0}{ps:Ρ}(h:∀us:Ξ,us.length=ps.length->bindArgs fd ⟨us,[]⟩=pure (ps.zip us)):zd K fd ps []:=λs us Z a=>by
 rw[dW]at a⊢;exact .of_eq (h us a)
def ë(CX:CXT)(X:Cx)(E:XK):Prop:=∀(pins:Θ)(σ:St)(H:Hp)(s:qa)(e:qb)(s':qa),Inv X pins σ H s->CX X.stack H s E e s'->X.xe e s'
section
variable{k:Nat}{f:xy}{ps:Ρ}{sp:Sp}{dvs:Τ}{ds:Ξ}{E:XK}{m:Str}{p pos apos:Pos}{e o:qg}{t:TA}
def yjr{s:qa}{Q:VK}(F:vx X.prog X.w X.K X.mg X.base CX k f fd ps sp)(hr:ji k X.A)(hb:zd X.K fd ps ds)(hd:wq dvs ds)(hx:ë CX X E)
  (I:Inv X pins σ H s) (r:wq vs us) (h:sp (vs++dvs) H Q E):wpAny (model X.prog X.w) X.A (call (.ref f) us) (EP X pins σ Q) X.xe s:=by
 have b:wq (vs++dvs) (us++ds):=r.append hd;have c:(us++ds).length=ps.length:=by rw[<- b.length];exact F.len _ _ _ _ h
 refine wpAny_call (codeAny_mono (F.run X.A X.stack s H ⟨us,[]⟩ (us++ds) (vs++dvs) Q E hr I.env0 (hb s us I.kIn c) b h) λr d a=>?_)
 cases r with
 |error e=>exact hx pins σ H s e d I a
 |ok fl =>
  cases fl with
  |ret u=>exact I.after a
  |next=>exact False.elim a
  |brk=>exact False.elim a
  |cont=>exact False.elim a
def yr6(F:vx X.prog X.w X.K X.mg X.base CX k f fd ps sp)(hr:ji k X.A)(hg:Gl X x)(hm:X.mg x=some (.ref f))(hk:W.keepIn X.K (.ref f)=true)(hb:zd X.K fd ps ds)(hd:wq dvs ds)(hx:ë CX X E)
  (ha:PA X (e::es) t) (hdb:autoParam ((x == ("__debug__":Str))=false) aB._auto_1) (he:autoParam (starEach (e::es) X.env=(false,eval e X.env)::starEach es X.env) aD._auto_1) (hpl:autoParam ((backTo pos (starEach es X.env)).any (·.1)=false) aD._auto_1):
  PE X (.Call (.Name x p) (e::es) [] pos) (ysx sp dvs E t):=by refine .mk λa s σ H Q I h=>?_;refine wpAny_Call_Name_kw (jd I hg hm ?_ hdb);refine W.callWith_K (h₀:=X.base) I.ok.mod.kin hk (thn (ha pos a s σ H _ I h) λg c ⟨d,i,b,r,q⟩=>⟨b.kIn,?_⟩) he hpl;exact yjr F hr hb hd hx b r q
def xo{pl:Sem Bool}(he:PE X o ta)(c:Cls X.K C)(hm:Meth X.K C m f)(F:vx X.prog X.w X.K X.mg X.base CX k f fd ps sp)(hr:ji k X.A)(hb:zd X.K fd ps ds)(hd:wq dvs ds)(hx:ë CX X E)(ha:PA X (e::es) t)
  (hst:autoParam (starEach (e::es) X.env=(false,eval e X.env)::starEach es X.env) aD._auto_1) (hpl:autoParam ((backTo pos (starEach es X.env)).any (·.1)=false) aD._auto_1)
  (ht:eval (.Call (.Attribute o m apos) (e::es) [] pos) X.env=(do
   let ov <- eval o X.env
   standAt apos.atName
   let (f,first) <- holding [ov] (getMethod ov m pl)
   callWith pos f first (backTo pos (starEach (e::es) X.env)) (backToKw pos (keywordEach [] X.env))):=by rfl):
  PE X (.Call (.Attribute o m apos) (e::es) [] pos) (ydb C m sp dvs E ta t):=by
 refine .mk λb s σ H Q I h=>?_;refine W.methodCall_KW (pl:=pl) (thn (he b s σ H _ I h) λu i h'=>?_) ht;let⟨x,y,d,v,a,B,D,n,p,l,q⟩:=h';subst n;obtain rfl:u=Value.ref a:=v;refine j5 d p c hm l ?_
 refine W.callWith_K (first:=[.ref a]) (h₀:=X.base) I.ok.mod.kin hm.kp (thn (ha pos b i σ y _ d q) λus G ⟨vs,z,g,r,j⟩=>⟨g.kIn,?_⟩) hst hpl
 exact yjr (us:=.ref a::us) (vs:=.ref a::vs) F hr hb hd hx g (.cons rfl r) j
def wg{pl:Sem Bool}(he:PE X o ta)(c:Cls X.K C)(hm:Meth X.K C m f)(F:vx X.prog X.w X.K X.mg X.base CX k f fd ps sp)(hr:ji k X.A)(hb:zd X.K fd ps ds)(hd:wq dvs ds)(hx:ë CX X E)
  (ht:eval (.Call (.Attribute o m apos) [] [] pos) X.env=(do
   let ov <- eval o X.env
   standAt apos.atName
   let (f,first) <- holding [ov] (getMethod ov m pl)
   callWith pos f first (backTo pos (starEach [] X.env)) (backToKw pos (keywordEach [] X.env))):=by rfl):
  PE X (.Call (.Attribute o m apos) [] [] pos) (ydb C m sp dvs E ta ykp):=by
 refine .mk λb s σ H Q I h=>?_;refine W.methodCall_KW (pl:=pl) (thn (he b s σ H _ I h) λu j h'=>?_) ht;let⟨x,r,d,i,a,n,p,e,g,l,q⟩:=h';subst e;obtain rfl:u=Value.ref a:=i;refine j5 d g c hm l ?_
 exact W.callWith_K0 (first:=[.ref a]) d.kIn hm.kp (yjr (us:=[.ref a]) (vs:=[.ref a]) F hr hb hd hx d (.cons rfl .nil) q)
structure Mk(K:z0)(C f:xy):Prop where
 makes:W.makesIn K C=true
 init:W.findIn K (.ref C) "__init__"=some (some (.ref f))
 fn:W.isFn K (.ref f)=true
 kp:W.keepIn K (.ref C)=true
def ydi{s:qa}{Q:VK}(M:Mk X.K C f)(F:vx X.prog X.w X.K X.mg X.base CX k f fd ps sp)(hr:ji (k+1) X.A)(hb:zd X.K fd ps ds)(hd:wq dvs ds)
  (hx:ë CX X E) (I:Inv X pins σ H s) (r:wq vs us)
  (h:∀x dx,H x=none->H dx=none->dx≠x->sp (.ref x::(vs++dvs)) (upd (upd H dx (.own x)) x (.ins C dx [])) (λv H2=>v=.non/\Q (.ref x) H2) E):
  wpAny (model X.prog X.w) X.A (call (.ref C) us) (EP X pins σ Q) X.xe s:=by
 have c:=h (s.heap.objs.size+1) s.heap.objs.size (I.hok.fresh (Nat.le_succ _)) (I.hok.fresh (cE _)) (di (eF _));have b:=Inv.made (C:=C) I;have d:wq (V.ref (s.heap.objs.size+1)::(vs++dvs)) (Value.ref (s.heap.objs.size+1)::(us++ds)):=.cons rfl (r.append hd)
 have j:(Value.ref (s.heap.objs.size+1)::us++ds).length=ps.length:=by
  have e:=d.length;rw[F.len _ _ _ _ c]at e;exact e.symm
 refine wpAny_call (ydz (f:=f) I.kIn M.makes M.init (beq_iff_eq.mp M.fn) (codeAny_mono (F.run _ X.stack _ _ ⟨Value.ref (s.heap.objs.size+1)::us,[]⟩ (Value.ref (s.heap.objs.size+1)::(us++ds)) _ _ E (hr.make C us [])
  (b.env0.make C us []) (hb _ (Value.ref (s.heap.objs.size+1)::us) b.kIn j) d c) λr l a=>?_))
 cases r with
 |error e=>exact hx pins σ _ _ e l b a
 |ok fl =>
  cases fl with
  |ret u =>
   let⟨v,i,m,g,o,n⟩:=b.after a;subst o;exists g,⟨V.ref (s.heap.objs.size+1),i,m,rfl,n⟩
  |next=>exact False.elim a
  |brk=>exact False.elim a
  |cont=>exact False.elim a
def ę(M:Mk X.K C f)(F:vx X.prog X.w X.K X.mg X.base CX k f fd ps sp)(hr:ji (k+1) X.A)(hg:Gl X x)(hm:X.mg x=some (.ref C))(hb:zd X.K fd ps ds)(hd:wq dvs ds)(hx:ë CX X E)
  (ha:PA X (e::es) t) (hdb:autoParam ((x == ("__debug__":Str))=false) aB._auto_1) (he:autoParam (starEach (e::es) X.env=(false,eval e X.env)::starEach es X.env) aD._auto_1) (hpl:autoParam ((backTo pos (starEach es X.env)).any (·.1)=false) aD._auto_1):
  PE X (.Call (.Name x p) (e::es) [] pos) (ysr C sp dvs E t):=by refine .mk λa s σ H Q I h=>?_;refine wpAny_Call_Name_kw (jd I hg hm ?_ hdb);refine W.callWith_K (h₀:=X.base) I.ok.mod.kin M.kp (thn (ha pos a s σ H _ I h) λg c ⟨d,i,b,r,q⟩=>⟨b.kIn,?_⟩) he hpl;exact ydi M F hr hb hd hx b r q
def Ï(M:Mk X.K C f)(F:vx X.prog X.w X.K X.mg X.base CX k f fd ps sp)(hr:ji (k+1) X.A)(hg:Gl X x)(hm:X.mg x=some (.ref C))(hb:zd X.K fd ps ds)(hd:wq dvs ds)(hx:ë CX X E)
  (hdb:autoParam ((x == ("__debug__":Str))=false) aB._auto_1):PE X (.Call (.Name x p) [] [] pos) (ysr C sp dvs E ykp):=by refine .mk λa s σ H Q I h=>?_;refine wpAny_Call_Name_kw (jd I hg hm ?_ hdb);exact W.callWith_K0 I.kIn M.kp (ydi (us:=[]) M F hr hb hd hx I .nil h)
end
section
variable{k:Nat}{f:xy}{ps ks:Ρ}{sp:Sp}{E:XK}{m:Str}{p pos apos kpos:Pos}{e o:qg}{kws:qi Keyword}{t tk:TA}{nm:qj Str}
structure ve6(K:z0)(fd:FuncData)(ps ks:Ρ)(g:qi qb->qi qb->qi qb)(gV:qi V->qi V->qi V):Prop where
 to:∀(s:qa)(us ws:Ξ),K.In s.heap->(g us ws).length=ps.length->BindsTo s fd ⟨us,ks.zip ws⟩ (ps.zip (g us ws))
 rel:∀{vs:Τ}{us:Ξ}{zs:Τ}{ws:Ξ},wq vs us->wq zs ws->wq (gV vs zs) (g us ws)
variable{g:qi qb->qi qb->qi qb}{gV:qi V->qi V->qi V}
end
structure yj(N P:Ρ)(sc:Scope):Prop where
 kind:sc.kind=.function
 co:sc.isCoroutine=false
 gen:sc.isGenerator=false
 nd:N.Nodup
 pre:N.take P.length=P
 par:∀x∈P,sc.names.lookup x=some .local\/sc.names.lookup x=some .cell
 nofree:∀y∈sc.names,y.2≠.free
theorem yax{kindOf:Str->qj NameKind}:∀{binds:qi (Str×qb)}{m:Ε},(∀v,(x,v)∉binds)->bindL kindOf binds m x=m x
 |[],_,_=>rfl
 |(n,v)::r,m,h=>by
  unfold bindL;rw[yax λw a=>h w (dz _ a)]
  split
  .have:x≠n:=by rintro rfl;exact h v dQ
   simp[this]
  .rfl
theorem yaw{kindOf:Str->qj NameKind}:∀{binds:qi (Str×qb)}{m:Ε},(∀v,(x,v)∉binds)->bindC kindOf binds m x=m x
 |[],_,_=>rfl
 |(n,v)::r,m,h=>by
  unfold bindC;rw[yaw λw a=>h w (dz _ a)]
  split
  .rfl
  .have:x≠n:=by rintro rfl;exact h v dQ
   simp[this]
theorem yaq{kindOf:Str->qj NameKind}{v:qb}:∀{P:Ρ}{vs:Ξ}{i:Nat}{m:Ε},P.Nodup->P[i]?=some x->vs[i]?=some v->kindOf x=some .local ->
  bindL kindOf (P.zip vs) m x=some v
 |[],_,_,_,_,h,_,_=>by simp at h
 |_::_,[],_,_,_,_,h,_=>by simp at h
 |p::P,w::vs,0,m,nd,h1,h2,hk=>by
  simp at h1 h2;subst h1;subst h2;show bindL kindOf ((p,w)::P.zip vs) m p=_;unfold bindL;rw[yax λv a=>(ez.mp nd).1 (List.of_mem_zip a).1,if_pos hk];simp
 |p::P,w::vs,i+1,m,nd,h1,h2,hk=>by
  show bindL kindOf ((p,w)::P.zip vs) m x=_;unfold bindL;exact yaq (i:=i) (ez.mp nd).2 (by simpa using h1) (by simpa using h2) hk
theorem yat{kindOf:Str->qj NameKind}{v:qb}:∀{P:Ρ}{vs:Ξ}{i:Nat}{m:Ε},P.Nodup->P[i]?=some x->vs[i]?=some v->kindOf x≠some .local ->
  bindC kindOf (P.zip vs) m x=some v
 |[],_,_,_,_,h,_,_=>by simp at h
 |_::_,[],_,_,_,_,h,_=>by simp at h
 |p::P,w::vs,0,m,nd,h1,h2,hk=>by
  simp at h1 h2;subst h1;subst h2;show bindC kindOf ((p,w)::P.zip vs) m p=_;unfold bindC;rw[yaw λv a=>(ez.mp nd).1 (List.of_mem_zip a).1,if_neg hk];simp
 |p::P,w::vs,i+1,m,nd,h1,h2,hk=>by
  show bindC kindOf ((p,w)::P.zip vs) m x=_;unfold bindC;exact yat (i:=i) (ez.mp nd).2 (by simpa using h1) (by simpa using h2) hk
noncomputable def ò(N:Ρ)(vs:Τ):St:=vs.map some++List.replicate (N.length-vs.length) none
noncomputable def vz(CX:CXT)(P:qh)(w:qd)(K:z0)(mg:Ε)(base:qf)(N:Ρ)(qual:Str)(scope:Scope)(f:xy)(cd:qb)(A:qe)(outer:qi Env)(s:qa)(H:Hp)(E:XK):Cx where
 prog:=P
 w:=w
 K:=K
 mg:=mg
 base:=base
 A:=A.deeper (envOfC qual scope s.heap.objs.size f cd)
 N:=N
 s₀:=s
 H₀:=H
 env:=envOfC qual scope s.heap.objs.size f cd
 outer:=outer
 stack:=envOfC qual scope s.heap.objs.size f cd::outer
 ex:=[]
 calm:=true
 fn:=λZ=>true
 pn:=[]
 xe:=λe s'=>wpAny (model P w) (A.deeper (envOfC qual scope s.heap.objs.size f cd)) (leaving (envOfC qual scope s.heap.objs.size f cd) e) (λZ s''=>CX outer H s E e s'') (λe' s''=>CX outer H s E e' s'') s'
def ydq{sc:Scope}{n:Nat}(h:sc.names.lookup x=some .cell):∃c,(cellsFrom n sc.names []).lookup x=some c:=by have q:=W.cellsFrom_some sc.names n [] (.inl h);exact Option.isSome_iff_exists.mp q
def yhs{w:qd}{K:z0}{mg:Ε}{base:qf}{N ps:Ρ}{qual:Str}{scope:Scope}{f:xy}{cd:qb}{A:qe}{outer:qi Env}{s s1:qa}{E:XK} 
  (S:yj N ps scope) (hd:A.handled=none) (e0:ys3 P w K mg base A outer s H) (hl:vs.length=ps.length) (r:wq vs us)
  (x:InCallC s s.heap.objs.size (bindL (envOfC qual scope s.heap.objs.size f cd).kindOf (ps.zip us) λZ=>none) (cellsFrom (s.heap.objs.size+1) scope.names []) (bindC (envOfC qual scope s.heap.objs.size f cd).kindOf (ps.zip us) λZ=>none) s1):
  Inv (vz CX P w K mg base N qual scope f cd A outer s H E) [] (ò N vs) H s1:=by
 have F:ps.length<=N.length:=by have:=congrArg List.length S.pre;rw[cL]at this;omega
 let⟨o,J,rfl,B⟩:=x.done;have j:∀b:xy,b∉(vz CX P w K mg base N qual scope f cd A outer s H E).ex:=λb z=>absurd (show b∈([]:Υ)from z) (by simp)
 refine⟨⟨e0.mod,S.kind,rfl,rfl,cE _,λy z c o d=>?_,λy g=>?_,λy c Z h=>?_,λZ=>hd,Around.frames_deeper e0.frames,.inr ⟨rfl,rfl⟩,λb z=>absurd z (j b),e0.bs,e0.bsz,λb Z Z=>j b,λb z=>absurd z (j b),e0.funs,e0.frf⟩,
  rfl,e0.bare,Un.kept B,⟨_,x.toInCall.ns,λi y v o d I=>?_⟩,λy c h=>⟨_,x.cell y c h⟩,e0.hok.fresh (cE _),λy c h=>?_,λp m=>absurd (show p∈([]:Θ)from m) (by simp),e0.hok.kept B,?_⟩
 .exact name_of_addr x.apart (PySem.mem_of_lookup o) (PySem.mem_of_lookup d)
 .have g:scope.names.lookup y=some .cell\/scope.names.lookup y=some .free:=g;rcases g with g|g
  .exact ydq g
  .exact absurd rfl (S.nofree _ (PySem.mem_of_lookup g))
 .exact eE (x.above y c (PySem.mem_of_lookup h))
 .have t:i<vs.length:=by
   unfold ò at d;by_cases t:i<vs.length
   .exact t
   .rw[dJ (by simpa using t)]at d;rw[List.getElem?_replicate]at d
    split at d<;>cases d
  have D:vs[i]?=some v:=by
   unfold ò at d;rw[dS (by simpa using t),cK]at d
   cases e:vs[i]? with
   |none=>rw[e]at d;cases d
   |some a=>rw[e]at d;cases d;rfl
  let⟨u,C,G⟩:=r.get D
  have m:ps[i]?=some y:=by
   rw[<- S.pre,List.getElem?_take_of_lt ()];exact o
  have l:ps.Nodup:=by rw[<- S.pre];exact S.nd.sublist (List.take_sublist _ _)
  exists u,G,?_;rcases S.par y (cN m)with k|k
  .exact .inl ⟨k,yaq l m C k⟩
  .obtain⟨c,e⟩:=ydq (n:=s.heap.objs.size+1) k;refine .inr ⟨.inl k,c,e,?_⟩;have q:=x.cell y c e;rw[yat l m C (by show scope.names.lookup y≠_;rw[k];decide)]at q;exact q
 .exact e0.hok.fresh (eE (x.above y c (PySem.mem_of_lookup h)))
 .unfold ò;show _=N.length;rw[bY,bz,List.length_replicate];omega
def ys1{w:qd}{K:z0}{mg:Ε}{base:qf}{k:Nat}{f:xy}{name qual:Str}{params:Arguments}{scope:Scope}{dV kV doc pm cdv ct oc:qb}{an od:qj xy}
  {osl:Array (qj qb)} {N ps:Ρ} {sp:Sp} (lk:K.lookup f=some ⟨oc,od,.func (W.fnOf name qual params body scope dV kV doc pm an cdv ct),osl⟩) (hcd:W.codeIn K cdv qual=true) (S:yj N ps scope)
  (len:∀vs H Q E,sp vs H Q E->vs.length=ps.length)
  (hbody:∀(A:qe)(outer:qi Env)(s:qa)(H:Hp)(vs:Τ)(Q:VK)(E:XK),ji k (A.deeper (envOfC qual scope s.heap.objs.size f cdv))->sp vs H Q E ->
   ∃t,PSs (vz CX P w K mg base N qual scope f cdv A outer s H E) body t/\t { nx:=λZ H'=>Q .non H',rt:=Q} (ò N vs) H):
  vx P w K mg base CX (k+1) f (W.fnOf name qual params body scope dV kV doc pm an cdv ct) ps sp:=by
 exists len,λA outer s H p F vs Q E l h T r g=>?_;have O:=len _ _ _ _ g;have z:K.In s.heap:=h.mod.kin.keeps λb o e=>(h.bs b o e).1;have i:s.heap.NoLimit:=h.mod.nolimit.keeps λb o e=>(h.bs b o e).1
 have a:∀y∈ps.zip F,scope.names.lookup y.1=some .local\/(scope.names.lookup y.1=some .cell/\((cellsFrom (s.heap.objs.size+1) scope.names []).lookup y.1).isSome=true):=λ⟨n,v⟩ R=>by
  rcases S.par n (List.of_mem_zip R).1 with q|q
  .exact .inl q
  .exact .inr ⟨q,W.cellsFrom_some _ _ _ (.inl q)⟩
 refine codeAny_call_function l.depth (z _ _ lk) rfl S.co S.gen rfl (W.codeRec_of z hcd) (T _ _ _ _ ?_);refine wpAny_newFunctionEnv_cells S.kind a λM G B x=>?_;subst G;exists i.keeps x.toInCall.keep,codeAny_func ?_;let⟨t,C,D⟩:=hbody A outer s H vs Q E (l.deeper _) g;have I:Inv (vz CX P w K mg base N qual scope f cdv A outer s H E) [] (ò N vs) H B:=yhs S l.hd h O r x;refine dM (C [] B (ò N vs) H _ I D) (λL j c=>?_) λe j c=>c
 have d:∀{σ':St}{H':Hp}{v:V}{u:qb},Inv (vz CX P w K mg base N qual scope f cdv A outer s H E) [] σ' H' j->xj v u->Q v H'->CE outer P w H s Q u j :=
  λ{σ' H' v u}J m q=>⟨v,H',J.os,J.bare,J.base,J.hok,m,q⟩
 cases L with
 |ret u =>
  let⟨v,σ',H',J,m,q⟩:=c;exact d J m q
 |next =>
  let⟨σ',H',J,q⟩:=c;exact d (v:=V.non) (u:=Value.none) J rfl q
 |brk =>
  let⟨_,_,_,q⟩:=c;exact False.elim q
 |cont =>
  let⟨_,_,_,q⟩:=c;exact False.elim q
section
variable{p pos:Pos}{e:qg}{t:TA}{id T:String}{r:qi V->Hp->VK->Prop}
def tCB(r:qi V->Hp->VK->Prop)(t:TA):TE:=λσ H Q=>t σ H λvs H1=>r vs H1 Q
def ylc(hc:jo X (.builtin id) r)(hg:Gl X x)(hm:X.mg x=none)(hv:bootBuiltins x=some (.builtin id))(ha:PA X (e::es) t)(hn:autoParam (x≠"__name__") aB._auto_1)(hdb:autoParam ((x == ("__debug__":Str))=false) aB._auto_1)
  (he:autoParam (starEach (e::es) X.env=(false,eval e X.env)::starEach es X.env) aD._auto_1) (hpl:autoParam ((backTo pos (starEach es X.env)).any (·.1)=false) aD._auto_1):PE X (.Call (.Name x p) (e::es) [] pos) (tCB r t):=by refine .mk λa s σ H Q I h=>?_;refine wpAny_Call_Name_kw (Ő I hg hm hv ?_ hn hdb);exact PyProof.Rows.callWith_builtin1 (thn (ha pos a s σ H _ I h) λd b ⟨c,j,f,g,i⟩=>hc a b σ j c d Q f g i) he hpl
def yhe(hc:jo X (.type T) r)(hg:Gl X x)(hm:X.mg x=none)(hv:bootBuiltins x=some (.type T))(ha:PA X (e::es) t)(hn:autoParam (x≠"__name__") aB._auto_1)(hdb:autoParam ((x == ("__debug__":Str))=false) aB._auto_1)
  (he:autoParam (starEach (e::es) X.env=(false,eval e X.env)::starEach es X.env) aD._auto_1) (hpl:autoParam ((backTo pos (starEach es X.env)).any (·.1)=false) aD._auto_1):PE X (.Call (.Name x p) (e::es) [] pos) (tCB r t):=by refine .mk λa s σ H Q I h=>?_;refine wpAny_Call_Name_kw (Ő I hg hm hv ?_ hn hdb);exact PyProof.Rows.callWith_type1 (thn (ha pos a s σ H _ I h) λd b ⟨c,j,f,g,i⟩=>hc a b σ j c d Q f g i) he hpl
end
end L2
namespace HT
open PySem PyProof.Rows
section
open PySem.SeqAt
open PySem.AutoSeq1 (wpAny_loadPart')
open PySem.MeetsSeq PySem.MeetsSeq2 PySem.MeetsSeq3
end
section
variable{prog:qh}{w:qd}{A:qe}{E:Δ}{s:qa}
noncomputable def sIx(n d:Nat):qj Int->Nat
 |none=>d
 |some v=>if v<0 then (v+(n:Int)).toNat else min v.toNat n
def sIx_none(n d:Nat):sIx n d none=d:=rfl
def sIx_nat(n d k:Nat):sIx n d (some (k:Int))=min k n:=by show (if (k:Int)<0 then ((k:Int)+(n:Int)).toNat else min (k:Int).toNat n)=min k n;rw[if_neg (),Int.toNat_natCast]
def yw9(n d:Nat)(hd:d<=n)(o:qj Int):sIx n d o<=n:=by
 cases o with
 |none=>exact hd
 |some v =>
  show (if v<0 then (v+(n:Int)).toNat else min v.toNat n)<=n;by_cases hv:v<0
  .rw[if_pos hv];omega
  .rw[if_neg hv];exact Nat.min_le_right _ _
def yil(v:Int)(n d:Nat):(if v<0 then max (v+(n:Int)) 0 else min v (n:Int))=((sIx n d (some v):Nat):Int):=by
 show (if v<0 then max (v+(n:Int)) 0 else min v (n:Int))=(((if v<0 then (v+(n:Int)).toNat else min v.toNat n):Nat):Int);by_cases hv:v<0
 .simp only[if_pos hv];omega
 .simp only[if_neg hv];omega
def yf0(lo hi:qj Int)(n:Nat):Builtin.Slice.sliceAdjust lo hi 1 (n:Int)=(((sIx n 0 lo:Nat):Int),((sIx n n hi:Nat):Int)):=by
 have a:¬((1:Int)<0):=()
 unfold Builtin.Slice.sliceAdjust;simp only[a,if_false];refine Prod.ext ?_ ?_
 .cases lo with
  |none=>rfl
  |some v=>exact yil v n 0
 .cases hi with
  |none=>rfl
  |some v=>exact yil v n n
def yf7(i j:Nat):Builtin.Slice.slicePlaces (i:Int) (j:Int) 1=j-i:=by
 unfold Builtin.Slice.slicePlaces;have a:(1:Int) > 0:=()
 simp only[a,if_true,Int.ediv_one]
 split<;>omega
def Ņ{v:qb}{o:qj Int}{Q:qj Int->qa->Prop}(p:IsPart v o)(h:Q o s):wpAny (model prog w) A (Builtin.Slice.slicePartIndex v) Q E s:=by
 cases p with
 |none=>exact slicePart_none h
 |int i t=>exact slicePart_int h
def jj{sl:xy}{vl vu:qb}{lo hi:qj Int}{n:Nat}{Q:Int×Int×Nat->qa->Prop}(hs:s.heap.IsSliceOf sl vl vu .none)(pl:IsPart vl lo)(pu:IsPart vu hi)
  (h:Q (((sIx n 0 lo:Nat):Int),1,sIx n n hi-sIx n 0 lo) s):wpAny (model prog w) A (Builtin.Slice.sliceApplied (.ref sl) (pure (n:Int))) Q E s:=by
 let⟨d,a,c,b⟩:=id hs;unfold Builtin.Slice.sliceApplied Builtin.Slice.sliceFields;refine cz (cz (dG a b (x:=vl) rfl (cz (dG a b (x:=vu) rfl (cz (dG a b (x:=.none) rfl (cG ?_)))))));refine cz (slicePart_none ?_);show wpAny _ _ (if ((1:Int) == 0)=true then _ else _) _ _ s;rw[if_neg ∅];refine cz (Ņ pl (cz (Ņ pu (cz (cG ?_)))))
 show wpAny _ _ (match Builtin.Slice.sliceAdjust lo hi 1 (n:Int)with|(lo,hi)=>pure (lo,(1:Int),Builtin.Slice.slicePlaces lo hi 1)) _ _ s
 rw[yf0 lo hi n];show wpAny _ _ (pure (((sIx n 0 lo:Nat):Int),(1:Int),Builtin.Slice.slicePlaces ((sIx n 0 lo:Nat):Int) ((sIx n n hi:Nat):Int) 1)) _ _ s;rw[yf7];exact cG h
def ymx(xs:Array qb)(i k:Nat):((List.range k).filterMap λ(m:Nat)=>xs[((i:Int)+(m:Int)*1).toNat]?).toArray=((xs.toList.drop i).take k).toArray:=by
 have e:(λ(m:Nat)=>xs[((i:Int)+(m:Int)*1).toNat]?)=λm=>xs[i+m]?:=by
  funext m
  have:((i:Int)+(m:Int)*1).toNat=i+m:=()
  rw[this]
 rw[e];have:=pick_run xs i k;rw[List.filterMap_map]at this;have a:((λx=>xs[x]?) ∘ λx=>i+x)=λm=>xs[i+m]?:=rfl;rw[a]at this;rw[this]
def getItem_tuple_cut{t sl:xy}{items:Array qb}{vl vu:qb}{lo hi:qj Int}{Q:Δ}(ht:IsTup s.heap t items)(hs:s.heap.IsSliceOf sl vl vu .none)(pl:IsPart vl lo)(pu:IsPart vu hi)
  (hw:¬(sIx items.size 0 lo=0/\sIx items.size items.size hi=items.size))
  (h:Q (.ref s.heap.objs.size) {s with heap:=s.heap.push { cls:=.type "tuple",data:=.seq ((items.toList.drop (sIx items.size 0 lo)).take (sIx items.size items.size hi-sIx items.size 0 lo)).toArray} })
  (hsz:items.size<=sizeLine):wpAny (model prog w) A (getItem (.ref t) (.ref sl)) Q E s:=by
 have a:sizeOk (.seq ((items.toList.drop (sIx items.size 0 lo)).take (sIx items.size items.size hi-sIx items.size 0 lo)).toArray):=by
  show ((items.toList.drop (sIx items.size 0 lo)).take (sIx items.size items.size hi-sIx items.size 0 lo)).toArray.size<=sizeLine;rw[cU,cL,df,d9];omega
 have j:sIx items.size items.size hi<=items.size:=yw9 _ _ (cE _) hi;let⟨g,c,b,f⟩:=id hs;have e:s.TypeIs (.ref sl) "slice":=⟨g,c,b⟩;unfold getItem
 try with_reducible refine wpAny_holding ?_
 first|refine cz (cG ?_)|skip
 refine cz (wpAny_sequenceKey ht.typeIs ∅ ?_);refine cz (wpAny_callSpecial?_slot (name:=Str.ofString "__getitem__") ht.typeIs PyProof.Rows.slot_tuple_getitem
  (wpAny_call_entry PyProof.Rows.slot_tuple_getitem ht.typeIs entry_tuple_getitem ?_ (args_tuple_getitem _ _)))
 show wpAny _ _ (Builtin.Tuple.tupleItemsOf (.ref t) >>=_) _ _ s;refine cz (tupleItemsOf_ ht ?_);refine cz (wpAny_typeOf e ?_);rw[if_pos ∅];refine cz (jj hs pl pu ?_)
 have d:¬((((sIx items.size 0 lo:Nat):Int) == 0 && (1:Int) == 1 && (sIx items.size items.size hi-sIx items.size 0 lo) == items.size)=true):=by
  intro q;rw[cZ,cZ]at q;have k:((sIx items.size 0 lo:Nat):Int)=0:=eq_of_beq q.1.1;have i:sIx items.size items.size hi-sIx items.size 0 lo=items.size:=eq_of_beq q.2;exact hw ⟨(),()⟩
 show wpAny _ _ (if (((sIx items.size 0 lo:Nat):Int) == 0 && (1:Int) == 1 && (sIx items.size items.size hi-sIx items.size 0 lo) == items.size)=true then _ else _) _ _ s;rw[if_neg d,ymx]
 first
  |exact cz (m:=Builtin.Tuple.tupleExact _) (wpAny_newObj_type (cG ⟨_,rfl,cG h⟩) a)
  |exact cz (m:=Builtin.Tuple.tupleExact _) (wpAny_newObj_type (cz (cG (cG ⟨_,rfl,cG h⟩))) a)
  |exact cz (cz (m:=Builtin.Tuple.tupleExact _) (wpAny_newObj_type (cG (cG ⟨_,rfl,cG h⟩)) a))
  |exact cz (cz (m:=Builtin.Tuple.tupleExact _) (wpAny_newObj_type (cG ⟨_,rfl,cG h⟩) a))
end
end HT
namespace L2
open PySem PySem.Spec PyProof.Rows
variable{us:Ξ}{v:qb}
abbrev TO:=St->Hp->(qj Int->Hp->Prop)->Prop
def PO(X:Cx)(e:qj qg)(t:TO):Prop :=
 ∀(pins:Θ)(s:qa)(σ:St)(H:Hp)(Q:qj Int->Hp->Prop),Inv X pins σ H s->t σ H Q ->
  wpAny (model X.prog X.w) X.A (evalPart e X.env) (λu s'=>∃o H',Inv X pins σ H' s'/\IsPart u o/\Q o H') X.xe s
def yit:TO:=λZ H Q=>Q none H
def vbv(t:TE):TO:=λσ H Q=>t σ H λx H1=>∃i,x=.int i/\Q (some i) H1
section
variable{X:Cx}{e:qg}{te:TE}{lo hi:qj qg}{tl th:TO}{pos p2:Pos}
def vo:PO X none yit:=by intro a s σ H Q I h;rw[evalPart_none];exact cG ⟨none,H,I,.none,h⟩
def vg(h:PE X e te):PO X (some e) (vbv te):=by intro a s σ H Q I d;rw[evalPart_some];refine thn (h a s σ H _ I d) λu j h'=>?_;let⟨x,g,b,c,f⟩:=h';let⟨i,rfl,q⟩:=f;let⟨t,rfl⟩:=c;exists some i,g,b,.int i t,q
def SlR(X:Cx)(r:V->qj Int->qj Int->Hp->VK->Prop):Prop :=
 ∀(pins:Θ)(s:qa)(σ:St)(H:Hp)(x:V)(v vl vu:qb)(lo hi:qj Int)(sl:xy)(Q:VK),Inv X pins σ H s->xj x v->s.heap.IsSliceOf sl vl vu .none->IsPart vl lo->IsPart vu hi->r x lo hi H Q ->
  ∃T id,typeLookup (.type T) "__getitem__"=pure (some (.builtin id))/\s.TypeIs v T/\wpAny (model X.prog X.w) X.A (getItem v (.ref sl)) (EP X pins σ Q) X.xe s
def SlR.or{r r':V->qj Int->qj Int->Hp->VK->Prop}(h:SlR X r)(h':SlR X r'):SlR X (λx lo hi H Q=>r x lo hi H Q\/r' x lo hi H Q):=by
 intro a s σ H x v g f lo hi e Q I i c d b q;rcases q with q|q
 .exact h a s σ H x v g f lo hi e Q I i c d b q
 .exact h' a s σ H x v g f lo hi e Q I i c d b q
def tSl(r:V->qj Int->qj Int->Hp->VK->Prop)(te:TE)(tl th:TO):TE:=λσ H Q=>te σ H λx H1=>tl σ H1 λl H2=>th σ H2 λu H3=>r x l u H3 Q
def yz{r:V->qj Int->qj Int->Hp->VK->Prop}(hr:SlR X r)(he:PE X e te)(hl:PO X lo tl)(hu:PO X hi th):PE X (.Subscript e (.Slice lo hi none p2) pos) (tSl r te tl th):=by refine .mk λa s σ H Q I h=>?_;refine Subscript_ (thn (he a s σ H _ I h) λv p h'=>?_);let⟨x,o,z,m,n⟩:=h';refine wpAny_Slice (thn (hl a p σ o _ z n) λf C ⟨l,y,B,D,t⟩=>thn (hu a C σ y _ B t) λd c h'=>?_);let⟨u,g,G,i,J⟩:=h';rw[evalPart_none];refine cG ?_;have j:Inv X a σ g {c with heap:=c.heap.push { cls:=.type "slice",data:=.fields #[f,d,.none]} }:=G.kept (t':=c.toks) λb K q=>cD _ q;let⟨T,id,E,k,F⟩:=hr a {c with heap:=c.heap.push { cls:=.type "slice",data:=.fields #[f,d,.none]} } σ g x v f d l u c.heap.objs.size Q j m (Heap.IsSliceOf.new ..) D i J;show wpAny (model X.prog X.w) X.A (subscriptTail e (.Slice lo hi none p2) v (.ref c.heap.objs.size)) (EP X a σ Q) X.xe {c with heap:=c.heap.push { cls:=.type "slice",data:=.fields #[f,d,.none]} };exact tail_any (ops:=[.ref c.heap.objs.size,v]) k E F (by with_unfolding_all rfl)
def Ĩ(xs:Τ)(lo hi:qj Int):Τ:=(xs.drop (HT.sIx xs.length 0 lo)).take (HT.sIx xs.length xs.length hi-HT.sIx xs.length 0 lo)
def ċ(xs:Τ)(lo hi:qj Int):(Ĩ xs lo hi).length<=xs.length:=by unfold Ĩ;rw[cL,df];omega
def vgw(K:z0):V->qj Int->qj Int->Hp->VK->Prop:=λx lo hi H Q=>∃a xs,x=.ref a/\SqT K H a xs/\
 ¬(HT.sIx xs.length 0 lo=0/\HT.sIx xs.length xs.length hi=xs.length)/\∀p,H p=none->Q (.ref p) (upd H p (.tup (Ĩ xs lo hi)))
def yv8:SlR X (vgw X.K):=by
 intro j s σ H x v y w lo f u Q I t l m k h;let⟨a,d,rfl,n,p,q⟩:=h;cases t;let⟨e,r,g,i⟩:=I.tuple n;have c:e.toArray.size=d.length:=by rw[cU];exact r.length.symm
 refine⟨"tuple",_,PyProof.Rows.slot_tuple_getitem.lookup,g.typeIs,?_⟩;refine HT.getItem_tuple_cut g l m k (by rw[c];exact p) ?_ (by rw[c];exact i);rw[c];exists .ref s.heap.objs.size,_,I.laid (t':=s.toks) (o:=.tup (Ĩ d lo f)) (λb z q=>cD _ q) (cE _) ?_,rfl,q _ (I.hok.fresh (cE _));exists dB (ċ d lo f) i,_,(r.drop (HT.sIx d.length 0 lo)).take (HT.sIx d.length d.length f-HT.sIx d.length 0 lo),IsTup.new _ _
end
noncomputable def ixN(n:Nat)(i:Int):qj Nat:=if 0<=i then (if i<n then some i.toNat else none)else if -(n:Int)<=i then some (i+n).toNat else none
def atI{α:Type}(xs:qi α)(i:Int):qj α:=(ixN xs.length i).bind λj=>xs[j]?
def yqc{n:Nat}{i:Int}{j:Nat}(h:ixN n i=some j):seqIndex? i n=some j/\j<n/\-(n:Int)<=i/\i<n:=by
 unfold ixN at h;by_cases h0:0<=i
 .rw[if_pos h0]at h;by_cases h1:i<n
  .rw[if_pos h1]at h;have e:i.toNat=j:=cJ h;exists by rw[seqIndex_of h0 h1,e],(),(),h1
  .rw[if_neg h1]at h;cases h
 .rw[if_neg h0]at h;by_cases h1:-(n:Int)<=i
  .rw[if_pos h1]at h;have e:(i+n).toNat=j:=cJ h;exists by rw[seqIndex_neg () h1,e],(),h1,()
  .rw[if_neg h1]at h;cases h
def yiw{α:Type}{xs:qi α}{i:Int}{v:α}(h:atI xs i=some v):∃j,seqIndex? i xs.length=some j/\xs[j]?=some v/\j<xs.length/\-(xs.length:Int)<=i/\i<xs.length:=by
 unfold atI at h
 cases e:ixN xs.length i with
 |none=>rw[e]at h;cases h
 |some j =>
  rw[e]at h;let⟨c,b,a,d⟩:=yqc e;exists j,c,h,b,a,d
def xf{α:Type}{xs:qi α}{j:Nat}{v:α}(h:xs[j]?=some v):atI xs (j:Int)=some v:=by
 have a:j<xs.length:=(cF.mp h).1
 have e:ixN xs.length (j:Int)=some j:=by
  unfold ixN;rw[if_pos (),if_pos ()];simp
 unfold atI;rw[e];exact h
def ylb{α:Type}(xs:qi α)(v:α):atI (xs++[v]) (-1)=some v:=by
 have a:(xs++[v]).length=xs.length+1:=by simp
 have e:ixN (xs++[v]).length (-1)=some xs.length:=by
  unfold ixN;rw[a,if_neg ∅,if_pos ()]
  congr 1
  omega
 unfold atI;rw[e];show (xs++[v])[xs.length]?=some v;simp
def yp4(b:qg):Prop:=∀o i,subscripted b false o i=operate [o,i] (getItem o i)
def IxR(X:Cx)(r:R2):Prop :=
 ∀(value slice:qg)(pins:Θ)(s:qa)(σ:St)(H:Hp)(x y:V)(v u:qb)(Q:VK),Inv X pins σ H s->xj x v->xj y u->r x y H Q ->
  subscripted slice false v u=operate [v,u] (getItem v u)->wpAny (model X.prog X.w) X.A (subscriptTail value slice v u) (EP X pins σ Q) X.xe s
def MtR(X:Cx)(id:String)(r:V->qi V->Hp->VK->Prop):Prop :=
 ∀(pins:Θ)(s:qa)(σ:St)(H:Hp)(x:V)(xs:Τ)(v:qb)(us:Ξ)(Q:VK),Inv X pins σ H s->xj x v->wq xs us->r x xs H Q ->
  wpAny (model X.prog X.w) X.A (call (.builtin id) (v::us)) (EP X pins σ Q) X.xe s
section
variable{X:Cx}{a b:qg}{ta tb:TE}{pos:Pos}
def xk{r:R2}(hr:IxR X r)(ha:PE X a ta)(hb:PE X b tb)(hs:yp4 b):PE X (.Subscript a b pos) (tOp r ta tb):=by refine .mk λc s σ H Q I h=>?_;exact Subscript_ (vct ha hb I h λv u i x y d f g e q=>hr a b c i σ d x y v u Q f g e q (hs _ _))
def ve0(K:z0):R2:=λx y H Q=>∃p xs i v,x=.ref p/\y=.int i/\SqL K H p xs/\atI xs i=some v/\Q v H
def vfo(K:z0):R2:=λx y H Q=>∃p xs i v,x=.ref p/\y=.int i/\SqT K H p xs/\atI xs i=some v/\Q v H
def wl:IxR X (ve0 X.K):=by
 intro k e a s σ H x y v u Q I J C h n;let⟨p,M,i,z,rfl,rfl,o,B,q⟩:=h;cases J;let⟨t,rfl⟩:=C;let⟨g,r,f,N⟩:=I.list o;let⟨j,c,D,L,F,A⟩:=yiw B;let⟨w,m,d⟩:=r.get D;have G:=r.length;have O:=ybo;have b:EP X a σ Q w s:=⟨z,H,I,d,q⟩;by_cases h0:0<=i
 .have l:i.toNat=j:=by
   rw[seqIndex_of h0 A]at c;exact cJ c
  exact item_listR f.isList h0 () (by rw[l];simpa using m) b n
 .have l:(i+(g.toArray.size:Int)).toNat=j:=by
   rw[seqIndex_neg () F]at c;rw[cU,<- G];exact cJ c
  exact subscriptTail_builtinR (x:=w) f.isList.typeIs slot_list_getitem.lookup
   (wpAny_getItem_list_neg (Q:=λr E=>r=w/\EP X a σ Q r E) f.isList () (by rw[cU]<;>omega) () (by rw[l];simpa using m) ⟨rfl,b⟩) n
def jl:IxR X (vfo X.K):=by
 intro e d a s σ H x y v u Q I E o h m;let⟨p,J,i,z,rfl,rfl,k,n,q⟩:=h;cases E;let⟨t,rfl⟩:=o;let⟨C,r,f,M⟩:=I.tuple k;let⟨j,g,A,G,L,F⟩:=yiw n;let⟨w,l,c⟩:=r.get A;have D:=r.length;have N:=ybo;have b:EP X a σ Q w s:=⟨z,H,I,c,q⟩;exact subscriptTail_builtinR (x:=w) f.typeIs slot_tuple_getitem.lookup
  (getItem_tuple (j:=j) (Q:=λr B=>r=w/\EP X a σ Q r B) f () () (by rw[cU,<- D];exact g) (by simpa using l) ⟨rfl,b⟩) m
def yao(lo hi:qj Int)(n:Nat):(sliceBounds lo hi none n).1=((HT.sIx n 0 lo:Nat):Int)/\(sliceBounds lo hi none n).2.1=((HT.sIx n n hi:Nat):Int)/\(sliceBounds lo hi none n).2.2=1:=by
 exists ?_,?_,rfl
 .cases lo with
  |none=>simp[sliceBounds,HT.sIx]
  |some i =>
   simp only[sliceBounds,HT.sIx,Option.getD_none,show (1:Int) > 0 by decide,if_true];by_cases h:i<0
   .simp only[h,if_true]<;>omega
   .simp only[h,if_false]<;>omega
 .cases hi with
  |none=>simp[sliceBounds,HT.sIx]
  |some i =>
   simp only[sliceBounds,HT.sIx,Option.getD_none,show (1:Int) > 0 by decide,if_true];by_cases h:i<0
   .simp only[h,if_true]<;>omega
   .simp only[h,if_false]<;>omega
def ŝ(its:Ξ)(lo hi:qj Int):slicePick its.toArray lo hi none=((its.drop (HT.sIx its.length 0 lo)).take (HT.sIx its.length its.length hi-HT.sIx its.length 0 lo)).toArray:=by let⟨c,b,a⟩:=yao lo hi its.toArray.size;unfold slicePick;rw[c,b,a];simp only[sliceRange_one,pick_run,cU]<;>rfl
def vc0(K:z0):V->qj Int->qj Int->Hp->VK->Prop:=λx lo hi H Q=>∃a xs,x=.ref a/\SqL K H a xs/\∀p,H p=none->Q (.ref p) (upd H p (.lst (Ĩ xs lo hi)))
def vn:SlR X (vc0 X.K):=by intro g s σ H x v w u lo e t Q I p j k i h;let⟨a,c,rfl,n,q⟩:=h;cases p;let⟨l,r,f,m⟩:=I.list n;have d:=r.length;refine⟨"list",_,slot_list_getitem.lookup,f.isList.typeIs,?_⟩;refine wpAny_getItem_list_slice f.isList j k i .none (by simp) ?_ (by rw[cU]<;>omega);rw[ŝ,<- d];exists .ref s.heap.objs.size,_,I.laid (t':=s.toks) (o:=.lst (Ĩ c lo e)) (λb y q=>cD _ q) (cE _) ?_,rfl,q _ (I.hok.fresh (cE _));exists dB (ċ c lo e) m,_,0,(r.drop (HT.sIx c.length 0 lo)).take (HT.sIx c.length c.length e-HT.sIx c.length 0 lo),cV _ rfl
noncomputable def ybt:V->Bool
 | .non=>true
 | .bl _=>true
 | .int _=>true
 | .str _=>true
 |_=>false
noncomputable def eqV:V->V->Bool
 | .non,.non=>true
 | .bl a,.bl b=>a == b
 | .bl a,.int b=>(if a then 1 else 0) == b
 | .int a,.bl b=>a == (if b then 1 else 0)
 | .int a,.int b=>a == b
 | .str a,.str b=>a == b
 |_,_=>false
def yyj{A:qe}{s:qa}{y x:V}{u:qb}(ry:xj y u)(rx:xj x v)(fy:ybt y=true)(fx:ybt x=true):SeqAt.EqAt A s u v (eqV y x):=by
 cases y with
 |non =>
  cases ry
  cases x with
  |non=>cases rx;exact SeqAt.EqAt.same _
  |bl b=>cases rx;exact SeqAt.EqAt.none_bool b
  |int b=>let⟨t,rfl⟩:=rx;exact SeqAt.EqAt.none_int b t
  |str b=>let⟨t,rfl⟩:=rx;exact SeqAt.EqAt.none_str b t
  |_=>exact absurd (show false=true from fx) de
 |bl a =>
  cases ry
  cases x with
  |non=>cases rx;exact SeqAt.EqAt.bool_none a
  |bl b=>cases rx;exact SeqAt.EqAt.bool_bool a b
  |int b=>let⟨t,rfl⟩:=rx;exact SeqAt.EqAt.bool_int a b t
  |str b=>let⟨t,rfl⟩:=rx;exact SeqAt.EqAt.bool_str a b t
  |_=>exact absurd (show false=true from fx) de
 |int a =>
  let⟨c,rfl⟩:=ry
  cases x with
  |non=>cases rx;exact SeqAt.EqAt.int_none a c
  |bl b=>cases rx;exact SeqAt.EqAt.int_bool a c b
  |int b=>let⟨t,rfl⟩:=rx;exact SeqAt.EqAt.int_int a c b t
  |str b=>let⟨t,rfl⟩:=rx;exact SeqAt.EqAt.int_str a c b t
  |_=>exact absurd (show false=true from fx) de
 |str a =>
  let⟨c,rfl⟩:=ry
  cases x with
  |non=>cases rx;exact SeqAt.EqAt.str_none a c
  |bl b=>cases rx;exact SeqAt.EqAt.str_bool a c b
  |int b=>let⟨t,rfl⟩:=rx;exact SeqAt.EqAt.str_int a c b t
  |str b=>let⟨t,rfl⟩:=rx;exact SeqAt.EqAt.str_str a c b t
  |_=>exact absurd (show false=true from fx) de
 |_=>exact absurd (show false=true from fy) de
def eqU(x:V)(u:qb):Bool:=match u with
 | .none=>eqV .non x
 | .bool b=>eqV (.bl b) x
 | .int i _=>eqV (.int i) x
 | .str z _=>eqV (.str z) x
 |_=>false
def yoe{x y:V}{u:qb}(r:xj y u)(f:ybt y=true):eqU x u=eqV y x:=by
 cases y with
 |non=>cases r;rfl
 |bl b=>cases r;rfl
 |int i=>let⟨t,rfl⟩:=r;rfl
 |str z=>let⟨t,rfl⟩:=r;rfl
 |_=>exact absurd (show false=true from f) de
theorem ycr{x:V}:∀{xs:Τ}{us:Ξ},wq xs us->xs.all ybt=true->us.any (eqU x)=xs.any λy=>eqV y x
 |_,_,.nil,_=>rfl
 |y::xs,u::us,.cons r t,f=>by
  rw[List.all_cons,cZ]at f;rw[List.any_cons,List.any_cons,yoe r f.1,ycr t f.2]
theorem ŷ{A:qe}{s:qa}{x:V}(rx:xj x v)(fx:ybt x=true):∀{xs:Τ}{us:Ξ},wq xs us->xs.all ybt=true->∀u∈us,SeqAt.EqAt A s u v (eqU x u)
 |_,_,.nil,_=>λu a=>by cases a
 |y::xs,u::us,.cons r t,f=>λb a=>by
  rw[List.all_cons,cZ]at f;rcases cS.mp a with rfl|a
  .rw[yoe r f.1];exact yyj r rx f.1 fx
  .exact ŷ rx fx t f.2 b a
def inV(x:V)(xs:Τ):Bool:=xs.any λy=>eqV y x
def rIn(K:z0)(neg:Bool):R2:=λx y H Q=>∃p xs,y=.ref p/\(SqL K H p xs\/SqT K H p xs)/\ybt x=true/\xs.all ybt=true/\Q (.bl (if neg then !inV x xs else inV x xs)) H
def ygk:OpR X (compareOp .In) (rIn X.K false):=by
 intro f s σ H x y v u Q I i j h;let⟨p,l,rfl,b,g,c,q⟩:=h;cases j;rcases b with b|b
 .obtain⟨a,r,d,k⟩:=I.list b;refine SeqAt.in_listAt (eqU x) d.isList (λw e=>ŷ i g r c w (by simpa using e)) ⟨.bl _,H,I,rfl,?_⟩;rw[show a.toArray.any (eqU x)=a.any (eqU x) by simp,ycr r c];exact q
 .obtain⟨a,r,d,k⟩:=I.tuple b;refine SeqAt.in_tupleAt (eqU x) d (λw e=>ŷ i g r c w (by simpa using e)) ⟨.bl _,H,I,rfl,?_⟩;rw[show a.toArray.any (eqU x)=a.any (eqU x) by simp,ycr r c];exact q
def yq:jo X (.builtin "len") (λxs H Q=>∃p ys,xs=[.ref p]/\(SqL X.K H p ys\/SqT X.K H p ys)/\Q (.int ys.length) H):=by
 intro f s σ H xs j Q I r h;let⟨p,ys,rfl,b,q⟩:=h;let⟨u,rfl,i⟩:=ĸ r;cases i;have k:=ybo;rcases b with b|b
 .obtain⟨d,e,c,g⟩:=I.list b;have a:=e.length;exact Calls.call_len_list c.isList (by simp only[cU]<;>omega) ⟨.int ys.length,H,I.tok _,⟨s.toks+1,by rw[cU,a]⟩,q⟩
 .obtain⟨d,e,c,g⟩:=I.tuple b;have a:=e.length;exact len_tuple c (by simp only[cU]<;>omega) ⟨.int ys.length,H,I.tok _,⟨s.toks+1,by rw[cU,a]⟩,q⟩
def zg:jo X (.builtin "len") (λxs H Q=>∃z,xs=[.str z]/\z.length<=sizeLine/\Q (.int z.length) H):=by intro a s σ H xs d Q I r h;let⟨z,rfl,c,q⟩:=h;let⟨u,rfl,t,rfl⟩:=ĸ r;have b:=ybo;exact len_str () ⟨.int z.length,H,I.tok _,⟨_,rfl⟩,q⟩
def wb:jo X (.type "list") (λxs H Q=>∃p ys,xs=[.ref p]/\(SqL X.K H p ys\/SqT X.K H p ys)/\∀l,H l=none->Q (.ref l) (upd H l (.lst ys))):=by
 intro k s σ H xs B Q I r h;let⟨p,ys,rfl,i,q⟩:=h;let⟨u,rfl,A⟩:=ĸ r;cases A;have m:∀(a:Ξ),wq ys a->ys.length<=sizeLine->∀(c:qf)(f:Nat),(∀b o',s.heap.get? b=some o'->c.get? b=some o') ->
   c.get? s.heap.objs.size=some { cls:=.type "list",dict:=none,data:=.seq a.toArray f,slots:=#[]}->EP X k σ Q (.ref s.heap.objs.size) {s with heap:=c}:=λa d g c f t e =>
  ⟨.ref s.heap.objs.size,_,I.laid (t':=s.toks) t (cE _) (show xl X.prog X.w _ c _ (.lst ys)from ⟨g,a,f,d,e⟩),rfl,q _ (I.hok.fresh (cE _))⟩
 rcases i with i|i
 .obtain⟨a,d,v,g⟩:=I.list i;have j:=d.length;let⟨o,z,y,n,x⟩:=v.isList;exact call_list_seq p (.inl rfl) z y x (λc f t e=>m a d g c f t e) (by simp only[cU]<;>omega)
 .obtain⟨a,d,v,g⟩:=I.tuple i;have j:=d.length;let⟨o,z,y,n,x⟩:=v;exact call_list_seq p (.inr rfl) z y x (λc f t e=>m a d g c f t e) (by simp only[cU]<;>omega)
def z9:jo X (.type "tuple") (λxs H Q=>∃p ys,xs=[.ref p]/\((SqL X.K H p ys/\∀l,H l=none->Q (.ref l) (upd H l (.tup ys)))\/(SqT X.K H p ys/\Q (.ref p) H))):=by
 intro a s σ H xs x Q I r h;let⟨p,ys,rfl,h⟩:=h;let⟨u,rfl,v⟩:=ĸ r;cases v;rcases h with⟨i,q⟩|⟨i,q⟩
 .obtain⟨c,g,f,j⟩:=I.list i;have k:=g.length;refine call_tuple_list f.isList (λd t=>?_) (by simp only[cU]<;>omega);have m:Inv X a σ H {s with heap:=d}:=I.kept (t':=s.toks) t
  have n:Inv X a σ (upd H d.objs.size (.tup ys)) {s with heap:=d.push { cls:=.type "tuple",data:=.seq c.toArray} } :=
   m.laid (t':=s.toks) (λb o e=>cD _ e) (cE _) (show xl X.prog X.w _ _ _ (.tup ys)from ⟨j,c,g,IsTup.new _ _⟩)
  exists .ref d.objs.size,_,n,rfl,q _ (m.hok.fresh (cE _))
 .obtain⟨c,g,f,j⟩:=I.tuple i;exact call_tuple_same f ⟨.ref p,H,I,rfl,q⟩
def tyV(K:z0)(T:String)(x:V)(H:Hp):Prop:=match x with
 | .str _=>T="str"
 | .int _=>T="int"
 | .ref p=>(T="list"/\∃xs,SqL K H p xs)\/(T="tuple"/\∃o,K.lookup p=some o/\o.cls=.type "tuple"/\o.dict=none) \/
   (T="dict"/\((∃kvs,H p=some (.dK kvs))\/∃kvs,H p=some (.dT kvs)))\/(T="set"/\∃S n,H p=some (.set S n))
 |_=>False
def ypp{pins:Θ}{σ:St}{H:Hp}{s:qa}{T:String}{x:V}(I:Inv X pins σ H s)(r:xj x v)(ty:tyV X.K T x H):
  s.TypeIs v T/\∀a,v=.ref a->∃ob,s.heap.get? a=some ob/\ob.dict=none:=by
 cases x with
 |str z =>
  let⟨t,rfl⟩:=r;cases (show T="str" from ty)
  exists typeIs_str s z t,λZ e=>nomatch e
 |int i =>
  let⟨t,rfl⟩:=r;cases (show T="int" from ty)
  exists typeIs_int s i t,λZ e=>nomatch e
 |ref p =>
  cases r;rcases ty with⟨rfl,q,m⟩|⟨rfl,o,b,l,g⟩|⟨rfl,b⟩|⟨rfl,S,n,b⟩
  .obtain⟨k,_,j,_⟩:=I.list m;exists j.isList.typeIs,λa e=>?_;cases e;let⟨o,n,e,c,g,_⟩:=j;exact⟨o,e,g⟩
  .exists⟨o,I.kIn p o b,l⟩,λa e=>?_;cases e;exists o,I.kIn _ o b,g
  .have z:∃o,s.heap.get? p=some o/\o.ExactDict:=by
    rcases b with⟨h,b⟩|⟨h,b⟩
    .obtain⟨_,_,_,_,o,_,_,e,d,_⟩:=I.hok p _ b;exact⟨o,e,d⟩
    .obtain⟨_,_,_,_,o,_,_,e,d,_⟩:=I.hok p _ b;exact⟨o,e,d⟩
   let⟨o,e,d⟩:=z;exists⟨o,e,d.1⟩,λa f=>?_;cases f;exact⟨o,e,d.2.1⟩
  .obtain⟨o,_,_,_,e,d,_⟩:=I.hok p _ b;exists⟨o,e,d.1⟩,λa f=>?_;cases f;exact⟨o,e,d.2.1⟩
 |_=>exact False.elim ty
def vfp(K:z0)(T:String)(r:V->qi V->Hp->VK->Prop)(to:TE):TE:=λσ H Q=>to σ H λx H1=>tyV K T x H1/\r x [] H1 Q
def tBM(K:z0)(T:String)(r:V->qi V->Hp->VK->Prop)(to:TE)(t:TA):TE:=λσ H Q=>to σ H λx H1=>tyV K T x H1/\t σ H1 λxs H2=>r x xs H2 Q
variable{o e:qg}{es:qi qg}{to:TE}{t:TA}{name:Str}{apos cpos:Pos}{T id:String}{r:V->qi V->Hp->VK->Prop}
def yjt(pa:PlainAttrs T)(slot:Slot T name id)(hty:typeOf (.builtin id)=pure (.type "method_descriptor"))(hm:MtR X id r)(ho:PE X o to)
  (hbase:autoParam (attributeBase o name X.env (eval o X.env)=eval o X.env) aD._auto_1) (hline:autoParam ((apos.endLine == cpos.line)=true) aD._auto_1):PE X (.Call (.Attribute o name apos) [] [] cpos) (vfp X.K T r to):=by refine .mk λa s σ H Q I h=>?_;refine wpAny_Call_method0_late hbase hline (thn (ho a s σ H _ I h) λv d h'=>?_);let⟨x,j,b,c,f,i⟩:=h';let⟨e,g⟩:=ypp b c f;exists T,id,pa,slot,hty,e,g,Calls.callWith_builtin rfl (PySem.evalArgs_none (hm a d σ j x [] v [] Q b c .nil i))
def jg(pa:PlainAttrs T)(slot:Slot T name id)(hty:typeOf (.builtin id)=pure (.type "method_descriptor"))(hm:MtR X id r)(ho:PE X o to)(ha:PA X (e::es) t)
  (hbase:autoParam (attributeBase o name X.env (eval o X.env)=eval o X.env) aD._auto_1)
  (hfew:((backTo cpos (starEach (e::es) X.env)).all (λx=>!x.1) && (backToKw cpos (keywordEach [] X.env)).all (λx=>x.1.isSome)
   && decide ((e::es).length+([]:qi Keyword).length+(if ([]:qi Keyword).isEmpty then 0 else 1)<30))=true:=by rfl)
  (hline:autoParam ((apos.endLine == cpos.line)=true) aD._auto_1) (hs:autoParam (starEach (e::es) X.env=(false,eval e X.env)::starEach es X.env) aD._auto_1) (hplain:autoParam ((backTo cpos (starEach es X.env)).any (·.1)=false) aD._auto_1):
  PE X (.Call (.Attribute o name apos) (e::es) [] cpos) (tBM X.K T r to t):=by refine .mk λa s σ H Q I h=>?_;refine wpAny_Call_method_late hbase hfew hline rfl (thn (ho a s σ H _ I h) λv i h'=>?_);let⟨x,g,b,c,n,w⟩:=h';let⟨m,p⟩:=ypp b c n;exists T,id,pa,slot,hty,m,p,?_;have d:=ha cpos a i σ g _ b w;rw[hs]at d⊢;refine Calls.callWith_builtin (by show (false || (backTo cpos (starEach es X.env)).any (·.1))=false;rw[hplain]<;>rfl) (Calls.evalArgs_plain ?_);exact thn d λj y ⟨f,l,q,u,k⟩=>hm a y σ l x f v j Q q c u k
end
def MtM(X:Cx)(id:String)(r:V->qi V->Hp->VK->Prop):Prop :=
 ∀(pins:Θ)(s:qa)(σ:St)(H:Hp)(x:V)(xs:Τ)(v:qb)(us:Ξ)(Q:VK),Inv X pins σ H s->xj x v->wq xs us->r x xs H Q ->
  wpAny (model X.prog X.w) X.A (call (.builtin id) (v::us)) (EP X pins σ Q) X.xe s
def wq.one{x:V}(h:wq [x] us):∃u,us=[u]/\xj x u:=by
 cases h with
 |cons r t=>cases t;exists _,rfl,r
theorem wq.zero:∀{us:Ξ},wq [] us->us=[]
 |_,.nil=>rfl
theorem wq.reverse{xs:Τ}(h:wq xs us):wq xs.reverse us.reverse:=by
 induction h with
 |nil=>exact .nil
 |cons r t ih=>rw[List.reverse_cons,List.reverse_cons];exact wq.append ih (.cons r .nil)
theorem wq.rep{xs:Τ}(h:wq xs us):∀k:Nat,wq (List.replicate k xs).flatten (List.replicate k us).flatten
 |0=>.nil
 |k+1=>by
  rw[dP,dP,List.flatten_cons,List.flatten_cons];exact wq.append h (wq.rep h k)
theorem ya4(its:Ξ):∀(k:Nat)(acc:Ξ),
  List.foldl (λx1 x2=>x1++x2) acc.toArray (List.replicate k its.toArray)=(acc++(List.replicate k its).flatten).toArray
 |0,acc=>by simp
 |k+1,acc=>by
  have e:acc.toArray++its.toArray=(acc++its).toArray:=by simp
  have a:(acc++its)++(List.replicate k its).flatten=acc++(List.replicate (k+1) its).flatten:=by
   rw[dP,List.flatten_cons,cH]
  rw[<- a,<- ya4 its k (acc++its),<- e,dP,List.foldl_cons]
section
variable{X:Cx}{pins:Θ}{σ:St}{H:Hp}{s:qa}{l b:xy}{xs ys zs:Τ}
def Inv.lset{its its':Ξ}{n:Nat}{f:Array qb->Array qb}{t':Nat}(I:Inv X pins σ H s)(hH:H l=some (.lst xs))
  (e:s.heap.get? l=some { cls:=.type "list",data:=.seq its.toArray n}) (hf:f its.toArray=its'.toArray) (hv:wq ys its') (hz:ys.length<=sizeLine):
  Inv X pins σ (upd H l (.lst ys)) {s with heap:=s.heap.update l (Obj.mapSeq f),toks:=t'}:=by have q:=PySem.IsL.update e f;rw[hf]at q;refine I.write (x:=l) (e:=l) (by rw[hH];exact trivial) (.inl rfl) (λc u b a=>(Heap.get?_update_other s.heap (Obj.mapSeq f) (Ne.symm b)).trans a) ⟨_,q⟩ ?_;exists hz,its',_,hv,q
def Inv.lnew{its:Ξ}{t':Nat}(I:Inv X pins σ H s)(hv:wq ys its)(hz:ys.length<=sizeLine):
  Inv X pins σ (upd H s.heap.objs.size (.lst ys)) {s with heap:=s.heap.push { cls:=.type "list",data:=.seq its.toArray},toks:=t'} :=
 I.laid (λZ Z q=>cD _ q) (cE _) ⟨hz,its,0,hv,cV _ rfl⟩
theorem Inv.fresh(I:Inv X pins σ H s):H s.heap.objs.size=none:=I.hok.fresh (cE _)
def Inv.lstM(I:Inv X pins σ H s)(hH:H l=some (.lst xs)):xs.length<=sizeLine/\∃(its:Ξ)(n:Nat),wq xs its/\xs.length=its.length/\s.heap.get? l=some { cls:=.type "list",data:=.seq its.toArray n}:=by let⟨z,its,n,r,e⟩:=I.hok l _ hH;exists z,its,n,r,r.length,e
def ydt{n:Nat}(h:n<=sizeLine):Builtin.List.listTooLong n=false:=by unfold Builtin.List.listTooLong;exact cX ()
end
section
variable{X:Cx}
def yiv:V->qi V->Hp->VK->Prop:=λx vs H Q=>∃l xs y,x=.ref l/\vs=[y]/\H l=some (.lst xs)/\xs.length<sizeLine/\Q .non (upd H l (.lst (xs++[y])))
def w9:MtM X "list.append" yiv:=by intro c s σ H x i v j Q I g f h;let⟨l,o,y,rfl,rfl,b,k,q⟩:=h;cases g;let⟨u,rfl,d⟩:=f.one;let⟨z,a,n,r,m,e⟩:=I.lstM b;refine call_meets F.slot_list_append ⟨_,e,rfl⟩ F.entry_list_append (F.args_list_append_2 _ _) (PySem.list_append l a.toArray n u (by rw[cU];omega)) ⟨e,?_⟩;exists .non,_,I.lset (its':=a++[u]) b e (by simp) (r.append (.cons d .nil)) ?_,rfl,q;rw[bY,dI];omega
def yr7:V->qi V->Hp->VK->Prop:=λx vs H Q=>∃l b xs zs,x=.ref l/\vs=[.ref b]/\H l=some (.lst xs)/\H b=some (.lst zs)/\xs.length+zs.length<=sizeLine/\Q .non (upd H l (.lst (xs++zs)))
def Ë:MtM X "list.extend" yr7:=by
 intro g s σ H x A v B Q I y w h;let⟨l,b,C,D,rfl,rfl,i,j,G,q⟩:=h;cases y;let⟨u,rfl,p⟩:=w.one;cases p;let⟨z,c,n,r,J,e⟩:=I.lstM i;let⟨E,a,k,t,m,o⟩:=I.lstM j;have f:c.toArray.size+a.toArray.size<=sizeLine:=by rw[cU,cU];omega
 have d:¬(!c.toArray.isEmpty && Builtin.List.listTooLong (c.toArray.size+a.toArray.size))=true:=by
  rw[ydt f,Bool.and_false];exact de
 refine call_meets F.slot_list_extend ⟨_,e,rfl⟩ F.entry_list_extend (F.args_list_extend_2 _ _)
  (AutoSeq1.list_extend_list_list_0 l c.toArray n b a.toArray k d (by rw[cU];omega) ()) ⟨e,o,?_⟩
 exists .non,_,I.lset (its':=c++a) i e (by simp) (r.append t) ?_,rfl,q;rw[bY];omega
def yeb:V->qi V->Hp->VK->Prop:=λx vs H Q=>∃l xs,x=.ref l/\vs=[]/\H l=some (.lst xs)/\Q .non (upd H l (.lst xs.reverse))
def ĺ:MtM X "list.reverse" yeb:=by intro d s σ H x i v j Q I g f h;let⟨l,m,rfl,rfl,c,q⟩:=h;cases g;have b:=f.zero;subst b;let⟨z,a,n,r,k,e⟩:=I.lstM c;refine call_meets F.slot_list_reverse ⟨_,e,rfl⟩ F.entry_list_reverse (F.args_list_reverse_1 _) (AutoSeq1.list_reverse_list_0 l a.toArray n (by rw[cU];omega)) ⟨e,?_⟩;exists .non,_,I.lset (its':=a.reverse) c e (by simp) r.reverse ?_,rfl,q;rw[List.length_reverse];omega
def vew:R2:=λx y H Q=>∃l b xs zs,x=.ref l/\y=.ref b/\H l=some (.lst xs)/\H b=some (.lst zs)/\xs.length+zs.length<=sizeLine/\∀p,H p=none->Q (.ref p) (upd H p (.lst (xs++zs)))
def vh:OpR X (binaryOp .Add) vew:=by
 intro d s σ H x y v u Q I p j h;let⟨l,b,D,t,rfl,rfl,k,g,B,q⟩:=h;cases p;cases j;let⟨z,c,n,r,C,e⟩:=I.lstM k;let⟨A,a,w,o,i,f⟩:=I.lstM g;refine PySem.P.add_list e f ?_ (by rw[cU,cU];omega);have m:c.toArray++a.toArray=(c++a).toArray:=by simp
 rw[m];exists .ref _,_,I.lnew (t':=s.toks) (r.append o) (by rw[bY];omega),rfl,q _ I.fresh
def vgv:R2:=λx y H Q=>∃l k xs,x=.ref l/\y=.int k/\H l=some (.lst xs)/\-(2^63)<=k/\k<2^63/\xs.length*k.toNat<=sizeLine/\
 ∀p,H p=none->Q (.ref p) (upd H p (.lst (List.replicate k.toNat xs).flatten))
def yr3{α:Type}(xs:qi α)(k:Nat):(List.replicate k xs).flatten.length=k*xs.length:=by
 induction k with
 |zero=>simp
 |succ k ih=>rw[dP,List.flatten_cons,bY,ih,Nat.succ_mul,Nat.add_comm]
def yjp:OpR X (binaryOp .Mult) vgv:=by
 intro p s σ H x y v u Q I K C h;let⟨l,k,L,rfl,rfl,G,A,D,w,q⟩:=h;cases K;let⟨t,rfl⟩:=C;let⟨z,b,n,r,J,e⟩:=I.lstM G;have i:b.toArray.size*k.toNat<=sizeLine:=by rw[cU,<- J];exact w
 have g:¬b.toArray.size*k.toNat > (2^63-1)/8:=by
  have:(sizeLine:Nat)<=(2^63-1)/8:=∅
  omega
 have d:¬(!Builtin.List.listFitsIndex k)=true:=by
  rw[fitsIndex_both A D];exact de
 have c:¬Builtin.List.listTooLong (b.toArray.size*k.toNat)=true:=by
  rw[ydt i];exact de
 have f:List.foldl (λo j=>o++j) #[] (List.replicate (if b.toArray.isEmpty=true then 0 else k.toNat) b.toArray)=(List.replicate k.toNat b).flatten.toArray:=by
  have B:∀m:Nat,List.foldl (λo j=>o++j) #[] (List.replicate m b.toArray)=(List.replicate m b).flatten.toArray:=λm=>by
   have:=ya4 b m [];rw[List.nil_append]at this;exact this
  rw[B]
  cases b with
  |nil=>simp
  |cons a r'=>rw[if_neg (by simp)]
 refine wpAny_binaryOp_repeat_ref (T:="list") (U:="int") ∅ ⟨_,e,rfl⟩ (λE=>typeIs_int E k t) noFill_list_mul F.fills_int_mul F.slot_int_rmul repeat_list F.slot_int_index.lookup
  (call_meets F.slot_int_rmul (typeIs_int s k t) F.entry_int_rmul (F.args_int_rmul_2 _ _) (int___rmul___int_list k t l b.toArray n)
   ⟨e,rfl,⟨_,e,rfl⟩,call_meets F.slot_list_mul ⟨_,e,rfl⟩ F.entry_list_mul (F.args_list_mul_2 _ _) (AutoListH.list___mul___list_int_3 l b.toArray n k t d g c) ⟨e,?_⟩⟩)
 rw[f];exists .ref _,_,I.lnew (t':=s.toks) (r.rep k.toNat) (by rw[yr3,Nat.mul_comm];exact w),rfl,q _ I.fresh
end
end L2
namespace Att
open PySem PySem.W PySem.Calls PyProof.Rows
def ă{P:Params}{h:qf}:∀(ns:Ο)(vs:Ξ),WellAll P h vs (ns.map WData.int)->IntsAre vs ns:=by
 intro ns
 induction ns with
 |nil =>
  intro vs w;rw[List.map_nil]at w;cases w;exact .nil
 |cons n ns ih =>
  intro vs w;rw[dC]at w
  cases w with
  |cons a b =>
   cases a;exact .cons _ _ (ih _ b)
def ygu{l:OpenLaw}{n:Nat}(hn:l.most=some n){P:Params}{h:qf}{args:qi WData}{vals:Ξ}
  (hpre:l.row.toRowW.claim.pre args=true) (hwl:WellAll P h vals args):
  ∃a vs ns,vals=[Value.ref a]/\args=[WData.list (ns.map WData.int)]/\h.get? a=some { cls:=.type "list",data:=.seq vs.toArray}/\IntsAre vs ns/\ns.length<=n:=by
 have f:WShape.hasAll [] args [.list .int]=true:=(pre_splitW hpre).1;have g:l.pre.holds [] { args:=args}=true:=(pre_splitW hpre).2;let⟨d,r,rfl,k,m⟩:=hasAllW_cons f;obtain rfl:=hasAllW_nil m;let⟨o,rfl,i⟩:=hasW_list k;let⟨ns,rfl⟩:=items_int i
 have b:ns.length<=n:=by
  unfold OpenLaw.pre at g
  have c:(WTm.not (.lt (.lit (.int (n:Int))) (.len (.arg 0)))).holds [] { args:=[.list (ns.map .int)]}=true:=by
   have c:=(holds_andW g).1;rw[hn]at c;exact c
  have e:=condW_of c (w_not (w_lt w_lit (w_len_list (w_arg rfl))));rw[bz]at e;refine Nat.le_of_not_lt λq=>?_;have j:(n:Int)<((ns.length:Nat):Int):=()
  first
   |(rw[cT j]at e;exact absurd e ∅)
   |(simp at e;omega)
 cases hwl with
 |cons w1 w2 =>
  cases w2
  cases w1 with
  |list ho hall=>exists _,_,ns,rfl,rfl,ho,ă ns _ hall,b
def ygx(l:OpenLaw)(args:qi WData):l.row.toRowW.claim.post args (.bool true) args=true :=
 postW_of (r:=l.row.toRowW) (X:=(true == true))
  (show WShape.has [] (.bool true) .bool=true by first|rfl|decide|simp[WShape.has,WShape.arms,WShape.armsAll])
  (show (WTm.eq .res (.lit (.bool true))).value [] { args:=args,res:=some (.bool true),after:=args}=some (.bool (true == true))from w_eq_bool (w_res rfl) w_lit) rfl
def attach_call{l:OpenLaw}{n:Nat}{q:qh}{loose:Ρ}{XP:(Ε)->qf->Prop}{YP:qd->qf->Prop}{d:DefRec}
  (hn:l.most=some n) (hdf:d.params.defaults=[])
  (call:∀(w:qd)(s₀ s₁:qa)(mg mb:Ε)(fa:xy)(o:Obj)(pm cd doc:qb)(a:xy)(vs:Ξ)(ns:Ο),
   Ground q loose [] XP w s₀ mg mb s₁.heap->YP w s₁.heap ->
   s₁.heap.get? fa=some o->o.data=.func (docDef d.name d.params d.body d.scope pm cd doc)->s₁.heap.CodeRec cd d.name->mg d.name=some (.ref fa) ->
   s₁.heap.get? a=some { cls:=.type "list",data:=.seq vs.toArray}->IntsAre vs ns->ns.length<=n->s₁.gens=#[] ->
   codeAny (model l.prog w) callerA (.call (.ref fa) ⟨[.ref a],[]⟩) (λr s'=>r=.ok (.ret (.bool true))/\OldK s₁.heap s'.heap/\s'.os=s₁.os/\AllBare s'.gens) s₁):
  WalkO q loose XP YP l.row.toRowW d [] (λf vs=>PySem.call f vs):=by
 intro w s₀ s₁ mg mb G Y fa o pm cd doc v kV F y i t h B k p H c m z j E;obtain rfl:v=.none:=Dflts.none t hdf;obtain rfl:kV=.none:=Dflts.noKw t;let⟨a,vs,ns,rfl,rfl,g,b,e⟩:=ygu hn c j;refine enter_call (codeAny_mono (call w s₀ s₁ mg mb fa o pm cd doc a vs ns G Y F (fd_plain y) i h g b e B) λr s' u=>?_);let⟨rfl,C,x,D⟩:=u
 exists .inl ⟨.bool true,.bool true,[],rfl,λZ=>rfl,.bool true,ygx l _,λZ=>⟨List.Pairwise.nil,λZ A=>(nomatch A)⟩⟩,C,x,D
section
variable{prog:qh}{w:qd}{A:qe}{E:Δ}{s:qa}{K:Frag}
noncomputable def ve5(h:qf)(L d:xy):Θ:=(List.range h.objs.size).filterMap λa=>if a=L\/a=d then none else (h.get? a).map λo=>(a,o)
end
end Att
namespace L2
open PySem PySem.Spec PyProof.Rows
variable{C a:xy}{fd:FuncData}{st:qc}{qual x:Str}{T:String}
theorem ybd:∀{vs:Ξ}{ns:Ο},IntsAre vs ns->wq (ns.map V.int) vs
 |_,_,.nil=>.nil
 |_,_,.cons n t h=>.cons ⟨t,rfl⟩ (ybd h)
def ve2(H:Hp):Prop:=∀b,H b=none\/∃o xs,H b=some (.frz o (.lst xs))
def ymj{P:qh}{w:qd}{K:z0}{mg mb:Ε}{CX:CXT}{k:Nat}{fa:xy}{sp:Sp}{s₁:qa}{vs:Ξ}{ns:Ο}
  (KX:K.In s₁.heap) (hns:s₁.heap.Ns mainGlobals mg) (hb:s₁.heap.Ns builtinsNs mb) (hbb:∀x:Str,x≠"__name__"->mb x=bootBuiltins x) (hlim:s₁.heap.NoLimit) (hg:s₁.gens=#[])
  (ha:s₁.heap.get? a=some { cls:=.type "list",data:=.seq vs.toArray}) (hi:IntsAre vs ns) (hl:ns.length<=sizeLine) (hr:ji k callerA)
  (F:∀base:qf,K.In base->base.Ns mainGlobals mg->vx P w K mg base CX k fa fd [x] sp) (hbind:∀(s:qa)(u:qb),BindsTo s fd ⟨[u],[]⟩ [(x,u)])
  (hsp:∀H:Hp,ve2 H->SqL K H a (ns.map V.int)->sp [.ref a] H (λv W=>v=.bl true) λW W W=>False)
  (hCX:∀H e s',CX [] H s₁ (λW W W=>False) e s'->False):
  codeAny (model P w) callerA (.call (.ref fa) ⟨[.ref a],[]⟩) (λr s'=>r=.ok (.ret (.bool true))/\OldK s₁.heap s'.heap/\s'.os=s₁.os/\AllBare s'.gens) s₁:=by
 have J:=ybd hi;have i:=hi.length;have g:∀H:Hp,ve2 H->SqL K H a (ns.map V.int)->HOk P w H s₁.heap->(∀b,H b≠none->b=a)->(H a≠none->K.lookup a=none) ->
   codeAny (model P w) callerA (.call (.ref fa) ⟨[.ref a],[]⟩) (λr s'=>r=.ok (.ret (.bool true))/\OldK s₁.heap s'.heap/\s'.os=s₁.os/\AllBare s'.gens) s₁:=by
  intro H E M B G S;have c:∀{b:xy}{o:Obj},s₁.heap.get? b=some o->H b=none->(ynd s₁.heap H).get? b=some o:=λe n=>yl6 e n
  have D:∀{b:xy}{o:Obj}{j:Array DictEntry}{p:Nat},s₁.heap.get? b=some o->o.data=.dict j p->H b=none:=λ{b o j p}e d=>by
   cases q:H b with
   |none=>rfl
   |some u =>
    have C:b=a:=G b (by rw[q];simp);subst C;rw[ha]at e;cases e;have O:Data.seq vs.toArray _=Data.dict j p:=d;cases O
  have f:∀{b:xy}{m:Ε},s₁.heap.Ns b m->(ynd s₁.heap H).Ns b m:=λ{b m} ⟨o,j,p,e,d,r⟩=>⟨o,j,p,c e (D e d),d,r⟩
  have A:K.In (ynd s₁.heap H):=λb o e=>c (KX b o e) (by
   cases q:H b with
   |none=>rfl
   |some u =>
    have C:b=a:=G b (by rw[q];simp);subst C;rw[S (by rw[q];simp)]at e;cases e)
  have T:Mod K mg (ynd s₁.heap H):=⟨A,f hns,⟨mb,f hb,hbb⟩,let ⟨mc,h1,h2⟩:=hlim;⟨mc,f h1,h2⟩⟩;have U:ys3 P w K mg (ynd s₁.heap H) callerA [] s₁ H:=⟨rfl,T,λb o e=>ysa e,Nat.le_of_eq (yh6 _ _),trivial,λb hb=>absurd (show b∈([]:Υ)from hb) (by simp),B,.of_eq hg⟩;refine codeAny_mono ((F _ A (f hns)).run callerA [] s₁ H ⟨[.ref a],[]⟩ [.ref a] [.ref a] _ _ hr U (hbind s₁ (.ref a)) (.cons rfl .nil) (hsp H E M)) λr s' h=>?_
  cases r with
  |error e=>exact(hCX H e s' h).elim
  |ok fl =>
   cases fl with
   |next=>exact False.elim h
   |brk=>exact False.elim h
   |cont=>exact False.elim h
   |ret u =>
    let⟨v,Z,os,l,L,y,N,q⟩:=h;have X:v=.bl true:=q;subst X;obtain rfl:u=Value.bool true:=N;exists rfl,OldK.of_keep λb o e=>?_,os,l
    cases q:H b with
    |none=>exact L.keep b o e q (by intro z;exact absurd (show b∈([]:Υ)from z) (by simp)) (by simp)
    |some u =>
     rcases E b with z|⟨Q,xs,z⟩
     .rw[q]at z;cases z
     .have Y:=L.frzs b Q _ z;let⟨I,_⟩:=B b _ z;let⟨R,_⟩:=y b _ Y;rw[e]at I;cases I;exact R
 cases hk:K.lookup a with
 |some o =>
  have e:=KX a o hk;rw[ha]at e;cases e;refine g (λW=>none) (λW=>.inl rfl) (.inr ⟨_,vs.toArray,_,hk,rfl,rfl,rfl,by rw[cU,i];exact hl,by simpa using J⟩) (λb u z=>by have t:(none:qj HO)=some u:=z;cases t) (λb z=>absurd rfl z) λz=>absurd rfl z
 |none =>
  refine g (λb=>if b=a then some (.frz { cls:=.type "list",data:=.seq vs.toArray} (.lst (ns.map V.int)))else none) (λb=>?_) (.inl (.inr ⟨{ cls:=.type "list",data:=.seq vs.toArray},if_pos rfl⟩)) (λb u z=>?_) (λb z=>?_) λW=>hk
  .by_cases hb:b=a
   .exact .inr ⟨_,_,if_pos hb⟩
   .exact .inl (if_neg hb)
  .by_cases hb:b=a
   .have t:=(if_pos hb).symm.trans z;cases t;subst hb;exists ha,by rw[bz];exact hl,vs,_,J,ha
   .have t:=(if_neg hb).symm.trans z;cases t
  .by_cases hb:b=a
   .exact hb
   .exact absurd (if_neg hb) z
def walk_of{l:W.OpenLaw}{n k:Nat}{q:qh}{loose:Ρ}{XP:(Ε)->qf->Prop}{YP:qd->qf->Prop}{d:DefRec}{K:Params->z0}{CX:qd->CXT}{sp:qd->Sp} 
  (hn:l.most=some n) (hn2:n<=sizeLine) (hdf:d.params.defaults=[]) (hr:ji k callerA)
  (hY:∀(w:qd)(h:qf),YP w h->(K w.params).In h)
  (F:∀(w:qd)(mg:Ε)(fa:xy)(h:qf),(K w.params).In h->h.Ns mainGlobals mg->mg d.name=some (.ref fa) ->
   ∃fd:FuncData,(∀(s:qa)(u:qb),BindsTo s fd ⟨[u],[]⟩ [(x,u)])/\
    ∀base:qf,(K w.params).In base->base.Ns mainGlobals mg->vx l.prog w (K w.params) mg base (CX w) k fa fd [x] (sp w))
  (hsp:∀(w:qd)(H:Hp)(a:xy)(ns:Ο),ns.length<=n->ve2 H->SqL (K w.params) H a (ns.map V.int)->sp w [.ref a] H (λv Z=>v=.bl true) λZ Z Z=>False)
  (hCX:∀(w:qd)(H:Hp)(s:qa)(e:qb)(s':qa),CX w [] H s (λZ Z Z=>False) e s'->False):
  W.WalkO q loose XP YP l.row.toRowW d [] (λf vs=>PySem.call f vs):=by refine Att.attach_call hn hdf λw s₀ s₁ mg E fa o I L t a vs ns G Y J D y m j i c B=>?_;have p:=hY w _ Y;let⟨fd,A,r⟩:=F w mg fa _ p G.T.g m;exact ymj p G.T.g G.T.b G.T.builtins G.T.nolimit B j i (dB c hn2) hr r A (λH z C=>hsp w H a ns c z C) λH e s'=>hCX w H s₁ e s'
noncomputable def yv(s:qc)(j:Nat):qc:=match s with
 | .ClassDef _ _ _ body _ _ _ _ _ _ _=>body.getD j (.Pass ⟨0,0,0,0⟩)
 |_=>.Pass ⟨0,0,0,0⟩
noncomputable def xh(s:qc):Arguments:=match s with
 | .FunctionDef _ a _ _ _ _ _ _ _ _=>a
 |_=>{ posonlyargs:=[],args:=[],vararg:=none,kwonlyargs:=[],kw_defaults:=[],kwarg:=none,defaults:=[]}
noncomputable def ww(s:qc):qi qc:=match s with
 | .FunctionDef _ _ b _ _ _ _ _ _ _=>b
 |_=>[]
noncomputable def ye(s:qc):Scope:=match s with
 | .FunctionDef _ _ _ _ _ _ sc _ _ _=>sc
 |_=>{ kind:=.function,names:=[],isGenerator:=false,isCoroutine:=false}
abbrev CX0:CXT:=λZ Z Z Z Z Z=>False
abbrev E0:XK:=λZ Z Z=>False
def wo{X:Cx}:ë CX0 X E0:=λZ Z Z Z Z Z Z h=>h.elim
structure Fun(K:z0)(x qual:Str)(st:qc)(f:xy)(fd:FuncData):Prop where
 ex:∃(oc:qb)(od:qj xy)(kV doc pm:qb)(an:qj xy)(cdv ct:qb)(osl:Array (qj qb)),
  fd=W.fnOf x qual (xh st) (ww st) (ye st) .none kV doc pm an cdv ct/\K.lookup f=some ⟨oc,od,.func fd,osl⟩/\W.codeIn K cdv qual=true
 kp:W.keepIn K (.ref f)=true
section
variable{P:qh}{w:qd}{K:z0}{mg:Ε}{base:qf}
def Fun.ok{f:xy}{N ps:Ρ}{k:Nat}{sp:Sp}(F:Fun K x qual st f fd)(S:yj N ps (ye st))(len:∀vs H Q E,sp vs H Q E->vs.length=ps.length)
  (hbody:∀(cdv:qb)(A:qe)(outer:qi Env)(s:qa)(H:Hp)(vs:Τ)(Q:VK)(E:XK),ji k (A.deeper (envOfC qual (ye st) s.heap.objs.size f cdv))->sp vs H Q E ->
   ∃t,PSs (vz CX0 P w K mg base N qual (ye st) f cdv A outer s H E).nox (ww st) t/\t { nx:=λZ H'=>Q .non H',rt:=Q} (ò N vs) H):vx P w K mg base CX0 (k+1) f fd ps sp:=by let⟨i,n,kV,d,j,m,cdv,l,c,rfl,e,b⟩:=F.ex;refine ys1 e b S len λA outer s H vs Q E g a=>?_;let⟨t,h,q⟩:=hbody cdv A outer s H vs Q E g a;exact⟨t,h.nox,q⟩
def Fun.binds{f:xy}{ps:Ρ}(F:Fun K x qual st f fd)
  (h:∀(kV doc pm:qb)(an:qj xy)(cdv ct:qb)(us:Ξ),us.length=ps.length->bindArgs (W.fnOf x qual (xh st) (ww st) (ye st) .none kV doc pm an cdv ct) ⟨us,[]⟩=pure (ps.zip us)):zd K fd ps []:=by let⟨c,d,kV,doc,pm,an,cdv,ct,a,rfl,e,b⟩:=F.ex;exact .all (h kV doc pm an cdv ct)
def ynq{f:xy}{oc:qb}{od an:qj xy}{osl:Array (qj qb)}{kV doc pm cdv ct:qb}(l:K.lookup f=some ⟨oc,od,.func (W.fnOf x qual (xh st) (ww st) (ye st) .none kV doc pm an cdv ct),osl⟩)
  (c:W.codeIn K cdv qual=true) (k:W.keepIn K (.ref f)=true):Fun K x qual st f (W.fnOf x qual (xh st) (ww st) (ye st) .none kV doc pm an cdv ct):=⟨⟨oc,od,kV,doc,pm,an,cdv,ct,osl,rfl,l,c⟩,k⟩
end
def Ķ{A:qe}{k:Nat}(hr:ji k A):A.units+1<cLine:=Nat.lt_of_le_of_lt (Nat.add_le_add_left (by decide:1<=64) _) hr.units
section
variable{X:Cx}
def pv(i:Nat){pos:Pos}(hN:autoParam (X.N[i]?=some x) aD._auto_1)(hv:autoParam (Vis X.env.scope x) aF._auto_1)(hd:autoParam ((x == ("__debug__":Str))=false) aB._auto_1)
  (hcd:autoParam ((x == ("__classdict__":Str))=false) aB._auto_1):PE X (.Name x pos) (vcv i):=yyf hN hv hd hcd
end
def ybw{A B:Prop}(h:B):if false=true then A else B:=by rw[if_neg de];exact h
def ybz{A B:Prop}(h:A):if true=true then A else B:=by rw[if_pos rfl];exact h
def yx(H H':Hp):Prop:=∀b o,H b=some o->H' b=some o
def yx.refl(H:Hp):yx H H:=λZ Z h=>h
def yx.trans{H H1 H2:Hp}(a:yx H H1)(b:yx H1 H2):yx H H2:=λc o h=>b c o (a c o h)
def yx.free{H H':Hp}(e:yx H H'){l:xy}(h:H' l=Option.none):H l=Option.none:=by
 cases q:H l with
 |none=>rfl
 |some o =>
  rw[e l o q]at h;cases h
def yx.seq{K:z0}{H H':Hp}{xs:Τ}(e:yx H H')(h:SqL K H a xs):SqL K H' a xs:=by
 rcases h with(h|⟨o,h⟩)|h
 .exact .inl (.inl (e _ _ h))
 .exact .inl (.inr ⟨o,e _ _ h⟩)
 .exact .inr h
section
variable{X:Cx}
def w6:jo X (.builtin "isinstance") (λxs H Q=>∃x cv t c k,xs=[x,cv]/\xj cv c/\(∀u,xj cv u->u=c)/\xu X.K H x t/\W.kitOne X.K t c=some k/\Q (.bl k) H):=by intro a s σ H xs l Q I r h;let⟨x,cv,t,c,k,rfl,_,f,i,e,q⟩:=h;let⟨u,b,rfl,j,g⟩:=ykk r;obtain rfl:=f b g;exact yhp I j i e λd=>⟨.bl k,H,I.tok d,rfl,q⟩
def τ{pos:Pos}(hg:Gl X x)(hm:X.mg x=none)(hv:bootBuiltins x=some (.type T))(hn:autoParam (x≠"__name__") aB._auto_1)(hd:autoParam ((x == ("__debug__":Str))=false) aB._auto_1):PE X (.Name x pos) (tC (.ty T)):=yqk hg hm hv rfl hn hd
def vq{i:Int}{t:Tok}{pos:Pos}(hg:Gl X x)(hm:X.mg x=some (.int i t))(hd:autoParam ((x == ("__debug__":Str))=false) aB._auto_1):PE X (.Name x pos) (tC (.int i)):=yda hg hm ⟨t,rfl⟩ hd
def w8{pos:Pos}(hg:Gl X x)(hm:X.mg x=some (.ref C))(hd:autoParam ((x == ("__debug__":Str))=false) aB._auto_1):PE X (.Name x pos) (tC (.ref C)):=yda hg hm rfl hd
mutual
inductive RdV(K:z0)(H:Hp):V->PyData->Prop
 |non:RdV K H .non .none
 |bl (b:_):RdV K H (.bl b) (.bool b)
 |int (i:_):RdV K H (.int i) (.int i)
 |str (x:_):RdV K H (.str x) (.str x)
 |lst {a xs ds:_}:SqL K H a xs->ypx K H xs ds->RdV K H (.ref a) (.list ds)
 |tup {a xs ds:_}:SqT K H a xs->ypx K H xs ds->RdV K H (.ref a) (.tuple ds)
inductive ypx(K:z0)(H:Hp):qi V->qi PyData->Prop
 |nil:ypx K H [] []
 |cons {x xs d ds:_}:RdV K H x d->ypx K H xs ds->ypx K H (x::xs) (d::ds)
end
def RdV.reads{pins:Θ}{σ:St}{H:Hp}{s:qa}(I:Inv X pins σ H s){x:V}{d:PyData}{u:qb}(h:RdV X.K H x d):xj x u->∃as,Reads s.heap u d as:=by
 refine RdV.rec (motive_1:=λx d Z=>∀u,xj x u->∃as,Reads s.heap u d as) (motive_2:=λg f Z=>∀e,wq g e->∃as,ReadsAll s.heap e f as) ?_ ?_ ?_ ?_ ?_ ?_ ?_ ?_ h u
 .intro u r;cases r;exists _,.none
 .intro b u r;cases r;exists _,.bool _
 .intro i u r;let⟨t,rfl⟩:=r;exists _,.int _ _
 .intro i u r;let⟨t,rfl⟩:=r;exists _,.str _ _
 .intro a g f m w v u r;cases r;let⟨k,p,⟨o,n,l,q,D,j⟩,A⟩:=I.list m;let⟨as,c⟩:=v _ p;exists _,.list l q j (by simpa using c)
 .intro a g f m w v u r;cases r;let⟨k,p,⟨o,l,q,n,j⟩,A⟩:=I.tuple m;let⟨as,c⟩:=v _ p;exists _,.tuple l q j (by simpa using c)
 .intro e r;cases r;exists _,.nil
 .intro x g d f h w z B e r
  cases r with
  |cons r rs =>
   let⟨as,c⟩:=z _ r;let⟨C,y⟩:=B _ rs;exists _,.cons c y
def vco(K:z0)(g:Bool->Bool):R2:=λx y H Q=>∃d e,RdV K H x d/\RdV K H y e/\SeqAt.shaped d=true/\SeqAt.shaped e=true/\Q (.bl (g (PyData.eqv d e))) H
def yuh(hu:X.A.units+64<cLine):OpR X (compareOp .Eq) (vco X.K λb=>b):=by intro a s σ H x y v u Q I l j h;let⟨d,e,i,k,c,m,q⟩:=h;let⟨o,f⟩:=i.reads I l;let⟨n,g⟩:=k.reads I j;exact eq_dataH f g c m hu ⟨.bl _,H,I,rfl,q⟩
def ybl(hu:X.A.units+64<cLine):OpR X (compareOp .NotEq) (vco X.K λb=>!b):=by intro a s σ H x y v u Q I l j h;let⟨d,e,i,k,c,m,q⟩:=h;let⟨o,f⟩:=i.reads I l;let⟨n,g⟩:=k.reads I j;exact ne_dataH f g c m hu ⟨.bl _,H,I,rfl,q⟩
theorem Ê{K:z0}{H:Hp}:∀ns:Ο,ypx K H (ns.map V.int) (ns.map PyData.int)
 |[]=>.nil
 |n::r=>.cons (.int n) (Ê r)
theorem Ã:∀ns:Ο,PyData.canLayAll0 (ns.map PyData.int)=true
 |[]=>rfl
 |_::r=>by simp[PyData.canLayAll0,PyData.canLay0,Ã r]
theorem â:∀ns:Ο,PyData.depthAll (ns.map PyData.int)=0
 |[]=>rfl
 |_::r=>by simp[PyData.depthAll,PyData.depth,â r]
def ń(ns:Ο):SeqAt.shaped (.list (ns.map PyData.int))=true:=by simp[SeqAt.shaped,PyData.canLay0,PyData.depth,Ã,â]
theorem Â:∀ns ms:Ο,PyData.eqvAll (ns.map PyData.int) (ms.map PyData.int)=decide (ns=ms)
 |[],[]=>by simp[PyData.eqvAll]
 |[],_::_=>by simp[PyData.eqvAll]
 |_::_,[]=>by simp[PyData.eqvAll]
 |a::r,b::t=>by
  simp only[dC,PyData.eqvAll,PyData.eqv,Â r t];by_cases h:a=b<;>by_cases h':r=t<;>simp[h,h']
def vdj{K:z0}{g:Bool->Bool}{H:Hp}{Q:VK}{b:xy}(ns ms:Ο)(ha:SqL K H a (ns.map V.int))(hb:SqL K H b (ms.map V.int))(h:Q (.bl (g (decide (ns=ms)))) H):vco K g (.ref a) (.ref b) H Q :=
 ⟨_,_,.lst ha (Ê ns),.lst hb (Ê ms),ń ns,ń ms,by rw[PyData.eqv,Â];exact h⟩
def veo(_ j:Int):Prop:=0<j/\j<2^200
def v6:OpR X (binaryOp .FloorDiv) (rI veo λi j=>.int (i/j)):=opI λi j Z Z Z Z Z b q=>by
 let⟨d,c⟩:=b;refine floordiv_int () ?_ (.inl (PyProof.noPylong_of_log2 ?_))
 .rw[Int.fdiv_eq_ediv_of_nonneg _ ()];exact q
 .have e:j.natAbs<2^200:=()
  have a:j.natAbs≠0:=()
  have:=(Nat.log2_lt a).mpr e;omega
def vfc(t:TS):TS:=λD σ H=>∃M:Ζ,t {D with nx:=M} σ H/\∀σ' H',M σ' H'->D.nx σ' H'
def ρ{t:TS}(h:PS X st t):PS X st (vfc t):=by
 refine .mk λa s σ H D I ⟨M,d,e⟩=>?_;refine thn (h a s σ H {D with nx:=M} I d) λf g q=>?_
 cases f with
 |next =>
  let⟨σ',b,c,q⟩:=q;exists σ',b,c,e σ' b q
 |ret v=>exact q
 |brk=>exact q
 |cont=>exact q
end
def wd(nx:Ζ)(σ:St)(H:Hp):Prop:=nx σ H
section
variable{K:z0}{σ:St}{H:Hp}{Q:VK}{QB:Bool->Hp->Prop}{QL:qi V->Hp->Prop}{v x y:V}{i j:Int}{b:Bool}{ta tb tc te:TE}{t u:TS}{tA tB':TT}{tr:TA}{D:Ŕ}
 {nx bk ct:Ζ} {rt:VK} {A B:Prop}
def yk{N:Ρ}{vs:Τ}{σ':St}(e:ò N vs=σ')(h:t D σ' H):t D (ò N vs) H:=by rw[e];exact h
def yy6{k:Nat}(e:σ[k]?=some (some v))(h:Q v H):vcv k σ H Q:=⟨v,e,h⟩
def i_c(h:Q v H):tC v σ H Q:=h
def vgi{r:R2}(h:ta σ H λx H1=>tb σ H1 λy H2=>r x y H2 Q):tOp r ta tb σ H Q:=h
def vgg{r:V->Hp->VK->Prop}(h:ta σ H λx H1=>r x H1 Q):tUn r ta σ H Q:=h
def vgo{g:Int->Int->V}(h:Q (g i j) H):rI0 g (.int i) (.int j) H Q:=⟨i,j,rfl,rfl,h⟩
def i_I{C:Int->Int->Prop}{g:Int->Int->V}(hc:C i j)(h:Q (g i j) H):rI C g (.int i) (.int j) H Q:=⟨i,j,rfl,rfl,hc,h⟩
def i_U{g:Int->V}(h:Q (g i) H):rU g (.int i) H Q:=⟨i,rfl,h⟩
def vdo(h:Q (.bl (decide (i=j))) H):rEq (.int i) (.int j) H Q:=⟨rfl,by
 have e:decide (V.int i=V.int j)=decide (i=j):=by simp
 rw[e];exact h⟩
def yu7(h:ta σ H λx H'=>∃k,x=.bl k/\QB k H'):ysu ta σ H QB:=h
def vgf(h:ta σ H λx H'=>∃k,x=.bl k/\QB k H'):tB ta σ H QB:=h
def vgq{P:Bool->Prop}(h:P b):∃k,V.bl b=V.bl k/\P k:=⟨b,rfl,h⟩
def yp2{r r':R2}(h:ta σ H λx H1=>tb σ H1 λy H2=>r x y H2 λz H3=>∃k,z=.bl k/\(if k=true then tc σ H3 λw' H4=>r' y w' H4 Q else Q (.bl false) H3)):yjx r r' ta tb tc σ H Q:=h
def yv2(h:ta σ H λx H1=>∃c,x=.bl c/\if c=true then tb σ H1 Q else Q (.bl false) H1):vcf ta tb σ H Q:=h
def yti(h:ta σ H λx H1=>∃c,x=.bl c/\Q (.bl (!c)) H1):va8 ta σ H Q:=h
def vc2{t1 t2:TT}(h:t1 σ H λc H1=>if c=true then t2 σ H1 QB else QB false H1):vfb t1 t2 σ H QB:=h
def vf5{t1 t2:TT}(h:t1 σ H λc H1=>if c=true then QB true H1 else t2 σ H1 QB):tOr t1 t2 σ H QB:=h
def vds{t1:TT}(h:t1 σ H λc H1=>QB (!c) H1):vfh t1 σ H QB:=h
def ver(h:tA σ H λc H1=>if c=true then ta σ H1 Q else tb σ H1 Q):tIf tA ta tb σ H Q:=h
structure Nx(u nx:Ζ):Prop where
 go:∀σ H,u σ H->nx σ H
def yuu(h:∀nx bk ct:Ζ,Nx (u D) nx->Nx D.bk bk->Nx D.ct ct->t ⟨nx,D.rt,bk,ct⟩ σ H):vev t u D σ H:=h (u D) D.bk D.ct ⟨λZ Z z=>z⟩ ⟨λZ Z z=>z⟩ ⟨λZ Z z=>z⟩
def vgj{u nx:Ζ}(h:Nx u nx)(q:u σ H):nx σ H:=h.go _ _ q
def yu5(h:nx σ H):vch ⟨nx,rt,bk,ct⟩ σ H:=h
def vd4(h:te σ H rt):vfg te ⟨nx,rt,bk,ct⟩ σ H:=h
def ywq(h:te σ H λZ H1=>nx σ H1):vac te ⟨nx,rt,bk,ct⟩ σ H:=h
def vgs(h:tA σ H λc H1=>if c=true then t D σ H1 else u D σ H1):vfz tA t u D σ H:=h
def ym1(M:Ζ)(h1:t ⟨M,rt,bk,ct⟩ σ H)(h2:∀σ' H',M σ' H'->nx σ' H'):vfc t ⟨nx,rt,bk,ct⟩ σ H:=⟨M,h1,h2⟩
def vd5{g:TG}(h:te σ H λx H1=>g x σ H1 nx):ytd te g ⟨nx,rt,bk,ct⟩ σ H:=h
def yyp{sp:Sp}{dvs:Τ}{E:XK}(h:tr σ H λvs H1=>sp (vs++dvs) H1 Q E):ysx sp dvs E tr σ H Q:=h
def yvn(h:ta σ H λx H1=>tr σ H1 λxs H2=>QL (x::xs) H2):yke ta tr σ H QL:=h
def vdd(h:QL [] H):ykp σ H QL:=h
def vgn{r:qi V->Hp->VK->Prop}(h:tr σ H λvs H1=>r vs H1 Q):tCB r tr σ H Q:=h
def veq(h:tr σ H λxs H1=>xs.length<=sizeLine/\∀p,H1 p=none->Q (.ref p) (upd H1 p (.tup xs))):vfv tr σ H Q:=h
def veh(h:tr σ H λxs H1=>xs.length<=sizeLine/\∀p,H1 p=none->Q (.ref p) (upd H1 p (.lst xs))):ves tr σ H Q:=h
def yez{m:Str}{sp:Sp}{dvs:Τ}{E:XK}(h:ta σ H λx H1=>∃a dx fs,x=.ref a/\H1 a=some (.ins C dx fs)/\fs.lookup m=none/\tr σ H1 λvs H2=>sp (x::(vs++dvs)) H2 Q E):ydb C m sp dvs E ta tr σ H Q:=h
def vc1{f:Str}(h:ta σ H λx H1=>∃a C dx fs v,x=.ref a/\H1 a=some (.ins C dx fs)/\Cls K C/\NoAttr K C f/\fs.lookup f=some v/\Q v H1):ve3 K ta f σ H Q:=h
def ytm{f:Str}(h:tb σ H λy H1=>ta σ H1 λx H2=>∃a C dx fs,x=.ref a/\H2 a=some (.ins C dx fs)/\Cls K C/\NoAttr K C f/\fs.length<1000/\wd nx σ (upd H2 a (.ins C dx (ε f y fs)))):vfu K ta tb f ⟨nx,rt,bk,ct⟩ σ H:=h
def vgt{r:V->qj Int->qj Int->Hp->VK->Prop}{tl th:TO}(h:te σ H λx H1=>tl σ H1 λl H2=>th σ H2 λu H3=>r x l u H3 Q):tSl r te tl th σ H Q:=h
def ymw{QO:qj Int->Hp->Prop}(h:QO none H):yit σ H QO:=h
def ywf{QO:qj Int->Hp->Prop}(h:ta σ H λx H1=>∃i,x=.int i/\QO (some i) H1):vbv ta σ H QO:=h
def vdh{P:Int->Prop}(h:P i):∃k,V.int i=V.int k/\P k:=⟨i,rfl,h⟩
def yxa(h:A):V.non=V.non/\A:=⟨rfl,h⟩
def g0{a0:qj V}{r:St}{N:Ζ}(h:N (some v::r) H):xb 0 v (a0::r) H N:=h
def g1{a0 a1:qj V}{r:St}{N:Ζ}(h:N (a0::some v::r) H):xb 1 v (a0::a1::r) H N:=h
def g2{a0 a1 a2:qj V}{r:St}{N:Ζ}(h:N (a0::a1::some v::r) H):xb 2 v (a0::a1::a2::r) H N:=h
def g3{a0 a1 a2 a3:qj V}{r:St}{N:Ζ}(h:N (a0::a1::a2::some v::r) H):xb 3 v (a0::a1::a2::a3::r) H N:=h
def g4{a0 a1 a2 a3 a4:qj V}{r:St}{N:Ζ}(h:N (a0::a1::a2::a3::some v::r) H):xb 4 v (a0::a1::a2::a3::a4::r) H N:=h
def g5{a0 a1 a2 a3 a4 a5:qj V}{r:St}{N:Ζ}(h:N (a0::a1::a2::a3::a4::some v::r) H):xb 5 v (a0::a1::a2::a3::a4::a5::r) H N:=h
def g6{a0 a1 a2 a3 a4 a5 a6:qj V}{r:St}{N:Ζ}(h:N (a0::a1::a2::a3::a4::a5::some v::r) H):xb 6 v (a0::a1::a2::a3::a4::a5::a6::r) H N:=h
def g7{a0 a1 a2 a3 a4 a5 a6 a7:qj V}{r:St}{N:Ζ}(h:N (a0::a1::a2::a3::a4::a5::a6::some v::r) H):xb 7 v (a0::a1::a2::a3::a4::a5::a6::a7::r) H N:=h
def g8{a0 a1 a2 a3 a4 a5 a6 a7 a8:qj V}{r:St}{N:Ζ}(h:N (a0::a1::a2::a3::a4::a5::a6::a7::some v::r) H):xb 8 v (a0::a1::a2::a3::a4::a5::a6::a7::a8::r) H N:=h
def g9{a0 a1 a2 a3 a4 a5 a6 a7 a8 a9:qj V}{r:St}{N:Ζ}(h:N (a0::a1::a2::a3::a4::a5::a6::a7::a8::some v::r) H):xb 9 v (a0::a1::a2::a3::a4::a5::a6::a7::a8::a9::r) H N:=h
def g10{a0 a1 a2 a3 a4 a5 a6 a7 a8 a9 a10:qj V}{r:St}{N:Ζ}(h:N (a0::a1::a2::a3::a4::a5::a6::a7::a8::a9::some v::r) H):xb 10 v (a0::a1::a2::a3::a4::a5::a6::a7::a8::a9::a10::r) H N:=h
def g11{a0 a1 a2 a3 a4 a5 a6 a7 a8 a9 a10 a11:qj V}{r:St}{N:Ζ}(h:N (a0::a1::a2::a3::a4::a5::a6::a7::a8::a9::a10::some v::r) H):xb 11 v (a0::a1::a2::a3::a4::a5::a6::a7::a8::a9::a10::a11::r) H N:=h
def g12{a0 a1 a2 a3 a4 a5 a6 a7 a8 a9 a10 a11 a12:qj V}{r:St}{N:Ζ}(h:N (a0::a1::a2::a3::a4::a5::a6::a7::a8::a9::a10::a11::some v::r) H):xb 12 v (a0::a1::a2::a3::a4::a5::a6::a7::a8::a9::a10::a11::a12::r) H N:=h
def Ģ{n:Nat}{tg:TGs}{xs:Τ}{N:Ζ}(hq:SqT K H a xs)(hl:xs.length=n)(h:tg xs σ H N):yte K n tg (.ref a) σ H N:=⟨a,xs,rfl,hq,hl,h⟩
def yq6{tg:TG}{us:TGs}{r:Τ}{N:Ζ}(h:tg v σ H λσ' H'=>us r σ' H' N):θ tg us (v::r) σ H N:=⟨v,r,rfl,h⟩
def ywd{N:Ζ}(h:N σ H):ynb [] σ H N:=⟨rfl,h⟩
def xz{p:Prop}[Decidable p](h1:p->A)(h2:¬p->B):if decide p=true then A else B:=by
 by_cases h:p
 .rw[if_pos (cT h)];exact h1 h
 .rw[if_neg (by simp[h])];exact h2 h
def ybr{p:Prop}[Decidable p](hp:p)(h:A):if decide p=true then A else B:=by rw[if_pos (cT hp)];exact h
def ygb{p:Prop}[Decidable p](hp:¬p)(h:B):if decide p=true then A else B:=by rw[if_neg (by simp[hp])];exact h
def ysq{p:Prop}[Decidable p](hp:p)(h:B):if (!decide p)=true then A else B:=by rw[if_neg (by simp[hp])];exact h
def ysy{p:Prop}[Decidable p](hp:¬p)(h:A):if (!decide p)=true then A else B:=by rw[if_pos (by simp[hp])];exact h
def yta{p:Prop}[Decidable p](h1:p->B)(h2:¬p->A):if (!decide p)=true then A else B:=by
 by_cases h:p
 .exact ysq h (h1 h)
 .exact ysy h (h2 h)
def vea(h:B):if (!true)=true then A else B:=ybw h
def vdy(h:A):if (!false)=true then A else B:=ybz h
def xv{f:Str}{r:Ι}:List.lookup f ((f,v)::r)=some v:=by simp[List.lookup]
def wc{f g:Str}{r:Ι}{o:qj V}(h:¬f=g)(e:List.lookup f r=o):List.lookup f ((g,v)::r)=o:=by
 have a:(f == g)=false:=by simp[h]
 simp[List.lookup,a,e]
def ğ{f:Str}:List.lookup f ([]:Ι)=none:=rfl
def μ{f:Str}{r:Ι}:ε f v ((f,x)::r)=(f,v)::r:=by simp[ε]
def vy{f g:Str}{r r':Ι}(h:¬g=f)(e:ε f v r=r'):ε f v ((g,x)::r)=(g,x)::r':=by simp[ε,h,e]
def wk{f:Str}:ε f v []=[(f,v)]:=rfl
def jw{c:xy}{o o':HO}(hn:H a=none)(h:H c=some o):upd H a o' c=some o:=by rw[yp (yb h hn)];exact h
def yi{c:xy}{o o':HO}(hn:c≠a)(h:H c=some o):upd H a o' c=some o:=by rw[yp hn];exact h
def y6{o:HO}(hn:H a=none):yx H (upd H a o):=λZ Z h=>jw hn h
def yx.tup{H':Hp}{xs:Τ}(e:yx H H')(h:SqT K H a xs):SqT K H' a xs:=by
 rcases h with(h|⟨o,h⟩)|h
 .exact .inl (.inl (e _ _ h))
 .exact .inl (.inr ⟨o,e _ _ h⟩)
 .exact .inr h
def ybk{tb:TS}{W:Nat->St->Hp->Prop}{m:Nat}(h:tb ⟨λσ' H'=>∃m',m'<m/\W m' σ' H',rt,nx,λσ' H'=>∃m',m'<m/\W m' σ' H'⟩ σ H):
  ∃N:Ζ,(∀σ' H',N σ' H'->∃m',m'<m/\W m' σ' H')/\tb ⟨N,rt,nx,N⟩ σ H:=⟨_,λZ Z q=>q,h⟩
def yxi{sp:Sp}{dvs:Τ}{E:XK}(h:tr σ H λvs H1=>∀x dx,H1 x=none->H1 dx=none->dx≠x->sp (.ref x::(vs++dvs)) (upd (upd H1 dx (.own x)) x (.ins C dx [])) (λv H2=>v=.non/\Q (.ref x) H2) E):ysr C sp dvs E tr σ H Q:=h
def vgl{r:V->qi V->Hp->VK->Prop}(h:ta σ H λx H1=>tyV K T x H1/\tr σ H1 λxs H2=>r x xs H2 Q):tBM K T r ta tr σ H Q:=h
def ven{r:V->qi V->Hp->VK->Prop}(h:ta σ H λx H1=>tyV K T x H1/\r x [] H1 Q):vfp K T r ta σ H Q:=h
def jp{p:xy}{xs:Τ}(h:H p=some (.lst xs))(k:A):tyV K "list" (.ref p) H/\A:=⟨.inl ⟨rfl,_,SqL.of h⟩,k⟩
def uf{l:xy}{xs:Τ}(h:H l=some (.lst xs))(hz:xs.length<sizeLine)(k:Q .non (upd H l (.lst (xs++[y])))):yiv (.ref l) [y] H Q:=⟨l,xs,y,rfl,rfl,h,hz,k⟩
def yaz{l:xy}{xs:Τ}(h:H l=some (.lst xs))(k:Q .non (upd H l (.lst xs.reverse))):yeb (.ref l) [] H Q:=⟨l,xs,rfl,rfl,h,k⟩
def uc{p:xy}{ys:Τ}{P:qi V->Prop}(h:SqL K H p ys)(k:P ys):∃p' ys',[V.ref p]=[V.ref p']/\(SqL K H p' ys'\/SqT K H p' ys')/\P ys':=⟨p,ys,rfl,.inl h,k⟩
def ypa{p:xy}{ys:Τ}{P:qi V->Prop}(h:SqT K H p ys)(k:P ys):∃p' ys',[V.ref p]=[V.ref p']/\(SqL K H p' ys'\/SqT K H p' ys')/\P ys':=⟨p,ys,rfl,.inr h,k⟩
def ydr{p:xy}{ys:Τ}{P:qi V->Prop}(h:SqL K H p ys)(k:P ys):∃p' ys',[V.ref p]=[V.ref p']/\(SqL K H p' ys'\/SqT K H p' ys')/\P ys':=⟨p,ys,rfl,.inl h,k⟩
def zb{p:xy}{xs:Τ}(h:SqL K H p xs)(e:atI xs i=some v)(k:Q v H):ve0 K (.ref p) (.int i) H Q:=⟨p,xs,i,v,rfl,rfl,h,e,k⟩
def ybs{p:xy}{xs:Τ}(h:SqT K H p xs)(e:atI xs i=some v)(k:Q v H):vfo K (.ref p) (.int i) H Q:=⟨p,xs,i,v,rfl,rfl,h,e,k⟩
def zy{p:xy}{xs:Τ}{lo hi:qj Int}(h:SqL K H p xs)(k:∀q,H q=none->Q (.ref q) (upd H q (.lst (Ĩ xs lo hi)))):vc0 K (.ref p) lo hi H Q:=⟨p,xs,rfl,h,k⟩
def x8{xs:Τ}(n:Nat):Ĩ xs none (some (n:Int))=xs.take n:=by
 unfold Ĩ;rw[HT.sIx_none,HT.sIx_nat,List.drop_zero,Nat.sub_zero];rcases Nat.le_total n xs.length with h|h
 .rw[Nat.min_eq_left h]
 .rw[Nat.min_eq_right h,dE (cE _),dE h]
def vde{wi:TI}{g:TG}{tb:TS}(h:wi σ H λJ H1=>∃W:Nat->Nat->St->Hp->Prop,(∃m,W 0 m σ H1)/\∀i m σ H,W i m σ H ->
  (J.stop i H/\D.nx σ H)\/(J.go i H/\∃N:Ζ,(∀σ' H',N σ' H'->∃m',m'<m/\W (i+1) m' σ' H')/\∀x H',J.yld i H x H'->g x σ H' λσ2 H2=>tb {D with nx:=N,ct:=N,bk:=D.nx} σ2 H2)):vfj wi g tb D σ H:=h
def yri{R:It->Hp->Prop}(h:ta σ H λx H1=>∃a,x=.ref a/\(∃xs,SqL K H1 a xs)/\R (Itl K a) H1):vba K ta σ H R:=h
def ytq{R:It->Hp->Prop}(h:ta σ H λx H1=>∃a,x=.ref a/\(∃xs,SqT K H1 a xs)/\R (Itt K a) H1):vf0 K ta σ H R:=h
def ysf{R:It->Hp->Prop}(h:tr σ H λvs H1=>∃j:Int,vs=[.int j]/\-(2^62)<=j/\j<2^62/\R (Itr 0 j.toNat) H1):vah tr σ H R:=h
def ĥ{n m:String}{k:Bool}{P:Bool->Prop}(ty:xu K H x (.type n))(e:W.kitOne K (.type n) (.type m)=some k)(h:P k):
  ∃x' cv t c k',[x,V.ty m]=[x',cv]/\xj cv c/\(∀u,xj cv u->u=c)/\xu K H x' t/\W.kitOne K t c=some k'/\P k':=⟨x,.ty m,.type n,.type m,k,rfl,rfl,λZ r=>r,ty,e,h⟩
def yqy(h:nx σ H):wd nx σ H:=h
end
noncomputable def yoa:V->Bool
 | .int _=>true
 | .bl _=>true
 |_=>false
noncomputable def yib:V->Bool
 | .bl _=>true
 |_=>false
noncomputable def χ:V->Bool
 | .int _=>true
 |_=>false
def yqa{K:z0}{H:Hp}{x:V}{n:String}(ty:xu K H x (.type n)):W.kitOne K (.type n) (.type "int")=some (yoa x):=by cases ty<;>rfl
def ylo{K:z0}{H:Hp}{x:V}{n:String}(ty:xu K H x (.type n)):W.kitOne K (.type n) (.type "bool")=some (yib x):=by cases ty<;>rfl
end L2
namespace SpanMath
def Ch(c:Int):Prop:=32768<=c/\c<=16744448
noncomputable def ren(l w s:Int):Int×Int×Int :=
 if w<4294967296 then (if w*256<4294967296 then (l*65536,w*65536,s+2)else (l*256,w*256,s+1))else (l,w,s)
noncomputable def cut(w c:Int):Int:=w*c/16777216
def nar(x:Int×Int×Int)(c b:Int):Int×Int×Int :=
 if b=1 then ren x.1 (cut x.2.1 c) x.2.2 else ren (x.1+cut x.2.1 c) (x.2.1-cut x.2.1 c) x.2.2
noncomputable def s0:Int×Int×Int:=(0,1099511627776,5)
def ylh{l w s:Int}(h:w<4294967296)(h2:8388608<=w):ren (l*256) (w*256) (s+1)=ren l w s:=by
 unfold ren;rw[if_pos h];by_cases h3:w*256<4294967296
 .rw[if_pos h3,if_pos h3,if_neg ()];refine Prod.ext ?_ (Prod.ext ?_ ?_)
  .show l*256*256=l*65536;omega
  .show w*256*256=w*65536;omega
  .show s+1+1=s+2;omega
 .rw[if_neg h3,if_neg h3]
def yp1{l w s:Int}(h:¬w<4294967296):ren l w s=(l,w,s):=by unfold ren;rw[if_neg h]
def ybg{w c:Int}(hw:4294967296<=w)(hw2:w<=1099511627776)(hc:Ch c):8388608<=cut w c/\8388608<=w-cut w c/\cut w c<1099511627776:=by let⟨e,b⟩:=hc;have a:w*32768<=w*c:=dZ e ();have d:w*c<=w*16744448:=dZ b ();unfold cut;generalize w*c=p at a d⊢;omega
structure Ok(x:Int×Int×Int):Prop where
 l0:0<=x.1
 w0:4294967296<=x.2.1
 w1:x.2.1<=1099511627776
 z:5<=x.2.2
def ok0:Ok s0:=⟨∅,∅,∅,∅⟩
def yn2{l w s:Int}(h0:0<=l)(h1:8388608<=w)(h2:w<=1099511627776)(h3:5<=s):Ok (ren l w s):=by
 unfold ren
 split
 .split
  .exists by show 0<=l*65536;omega,by show _<=w*65536;omega,by show w*65536<=_;omega,by show 5<=s+2;omega
  .exists by show 0<=l*256;omega,by show _<=w*256;omega,by show w*256<=_;omega,by show 5<=s+1;omega
 .exists h0,by show _<=w;omega,h2,h3
def ywn{x:Int×Int×Int}{c b:Int}(h:Ok x)(hc:Ch c):Ok (nar x c b):=by
 let⟨d,e,a⟩:=ybg h.w0 h.w1 hc;have:=h.l0;have:=h.w0;have:=h.w1;have:=h.z;unfold nar
 split
 .exact yn2 () () () ()
 .exact yn2 () () () ()
end SpanMath
namespace SpanMath
noncomputable def pw:Nat->Int
 |0=>1
 |k+1=>pw k*256
theorem zn:∀k,0<pw k
 |0=>by decide
 |k+1=>by have:=zn k;show 0<pw k*256;omega
theorem yey(a:Nat):∀b,pw (a+b)=pw a*pw b
 |0=>by simp[pw]
 |b+1=>by
  show pw (a+b)*256=pw a*(pw b*256);rw[yey a b,Int.mul_assoc]
def yis{a b:Nat}(h:a<=b):pw a<=pw b:=by
 let⟨c,rfl⟩:=Nat.exists_eq_add_of_le h;rw[yey];have e:=zn a;have d:=zn c
 calc pw a=pw a*1:=()
  _<=pw a*pw c:=dZ () ()
def yzs{a b:Nat}(h:pw a<pw b):a<b:=by apply Nat.lt_of_not_le;intro q;have:=yis q;omega
noncomputable def lo:Nat->Int->qi Int
 |0,_=>[]
 |k+1,n=>n%256::lo k (n/256)
def wr(k:Nat)(n:Int):Ο:=(lo k n).reverse
theorem ypo:∀k n,(lo k n).length=k
 |0,_=>rfl
 |k+1,n=>by simp[lo,ypo k]
def yxw(k:Nat)(n:Int):(wr k n).length=k:=by simp[wr,ypo]
theorem yin:∀k n,∀x∈lo k n,0<=x/\x<=255
 |0,_,x,h=>by simp[lo]at h
 |k+1,n,x,h=>by
  simp only[lo,cS]at h;rcases h with rfl|h
  .omega
  .exact yin k _ x h
def yso(k:Nat)(n:Int):∀x∈wr k n,0<=x/\x<=255:=λx h=>yin k n x (by simpa[wr]using h)
def yp8(k:Nat)(n:Int):wr (k+1) n=wr k (n/256)++[n%256]:=by simp[wr,lo]
noncomputable def val(xs:Ο):Int:=xs.foldl (λa b=>a*256+b) 0
def ydu(xs:Ο)(b:Int):val (xs++[b])=val xs*256+b:=by simp[val,List.foldl_append]
theorem yn9:∀(k:Nat)(n:Int),0<=n->n<pw k->val (wr k n)=n
 |0,n,h0,h1=>by
  have:n<1:=h1;have:n=0:=()
  subst this;rfl
 |k+1,n,h0,h1=>by
  have a:n<pw k*256:=h1;rw[yp8,ydu,yn9 k (n/256) () ()];omega
noncomputable def vgh:Nat->Int->Int->Nat
 |0,_,_=>0
 |n+1,a,b=>if a=b then 0 else vgh n (a/256) (b/256)+1
end SpanMath
namespace SpanMath
abbrev Sn:=Int×Int×Int
noncomputable def sz(x:Sn):Nat:=x.2.2.toNat
structure OkS(x:Sn):Prop where
 ok:Ok x
 top:x.1+x.2.1<=pw (sz x)
theorem OkS.sz{x:Sn}(h:OkS x):((sz x:Nat):Int)=x.2.2:=by have:=h.ok.z;unfold SpanMath.sz;omega
def OkS.sz5{x:Sn}(h:OkS x):5<=SpanMath.sz x:=by have:=h.ok.z;unfold SpanMath.sz;omega
def ve1:OkS s0:=⟨ok0,∅⟩
structure Sub(x y:Sn)(r:Nat):Prop where
 z:sz y=sz x+r
 l:x.1*pw r<=y.1
 h:y.1+y.2.1<=(x.1+x.2.1)*pw r
def yiz{l w s:Int}(hs:0<=s):∃r,Sub (l,w,s) (ren l w s) r/\(ren l w s).2.1=w*pw r/\(ren l w s).1=l*pw r:=by
 unfold ren
 split
 .split
  .refine⟨2,⟨?_,?_,?_⟩,?_,?_⟩
   .show (s+2).toNat=s.toNat+2;omega
   .show l*(1*256*256)<=l*65536;omega
   .show l*65536+w*65536<=(l+w)*(1*256*256);omega
   .show w*65536=w*(1*256*256);omega
   .show l*65536=l*(1*256*256);omega
  .refine⟨1,⟨?_,?_,?_⟩,?_,?_⟩
   .show (s+1).toNat=s.toNat+1;omega
   .show l*(1*256)<=l*256;omega
   .show l*256+w*256<=(l+w)*(1*256);omega
   .show w*256=w*(1*256);omega
   .show l*256=l*(1*256);omega
 .refine⟨0,⟨?_,?_,?_⟩,?_,?_⟩
  .rfl
  .show l*1<=l;omega
  .show l+w<=(l+w)*1;omega
  .show w=w*1;omega
  .show l=l*1;omega
def yqp{x:Sn}{c b:Int}(h:Ok x)(hc:Ch c):∃r,Sub x (nar x c b) r:=by
 let⟨f,j,k⟩:=ybg h.w0 h.w1 hc;have g:=h.l0;have i:=h.z;unfold nar
 split
 .obtain⟨r,⟨a,d,e⟩,_⟩:=yiz (l:=x.1) (w:=cut x.2.1 c) (s:=x.2.2) ();exists r,a,d,Int.le_trans e (dR ?_ (Int.le_of_lt (zn r)));show x.1+cut x.2.1 c<=x.1+x.2.1;omega
 .obtain⟨r,⟨a,d,e⟩,_⟩:=yiz (l:=x.1+cut x.2.1 c) (w:=x.2.1-cut x.2.1 c) (s:=x.2.2) ();exists r,a,Int.le_trans (dR ?_ (Int.le_of_lt (zn r))) d,Int.le_trans e (dR ?_ (Int.le_of_lt (zn r)))
  .show x.1<=x.1+cut x.2.1 c;omega
  .show x.1+cut x.2.1 c+(x.2.1-cut x.2.1 c)<=x.1+x.2.1;omega
def ycz{x:Sn}{c b:Int}(h:OkS x)(hc:Ch c):OkS (nar x c b):=by exists ywn h.ok hc,?_;let⟨r,q⟩:=yqp (b:=b) h.ok hc;rw[q.z,yey];exact Int.le_trans q.h (dR h.top (Int.le_of_lt (zn r)))
noncomputable def blk(l e:Int):Int:=(l+e-1)/e
def ygf(l w:Int)(k:Nat):Prop:=(blk l (pw k)+1)*pw k<=l+w
instance (l w:Int)(k:Nat):Decidable (ygf l w k):=inferInstanceAs (Decidable ((blk l (pw k)+1)*pw k<=l+w))
def yny(l:Int){e:Int}(h:0<e):l<=blk l e*e/\blk l e*e<l+e:=by unfold blk;have a:=Int.emod_add_mul_ediv (l+e-1) e;have c:=ew (l+e-1) (show e≠0 by omega);have b:=ee (l+e-1) h;rw[Int.mul_comm]at a;generalize (l+e-1)/e*e=q at a⊢;omega
def yig{l w:Int}{k:Nat}(h:ygf l w k):pw k<=w:=by have a:=yny l (zn k);unfold ygf at h;rw[Int.add_mul]at h;omega
noncomputable def tel(l w:Int):Nat->Nat->Nat
 |0,k=>k
 |f+1,k=>if ygf l w (k+1)then tel l w f (k+1)else k
def yle{l w:Int}{f k:Nat}(h:ygf l w (k+1)):tel l w f (k+1)=tel l w (f+1) k:=by rw[tel,if_pos h]
def yro{l w:Int}{f k:Nat}(h:¬ygf l w (k+1)):tel l w f k=k:=by
 cases f with
 |zero=>rfl
 |succ f=>rw[tel,if_neg h]
set_option tactic.hygienic true in
theorem yd9{l w:Int}:∀{f k:Nat},ygf l w k->ygf l w (tel l w f k)
 |0,_,h=>h
 |f+1,k,h=>by
  unfold tel
  split
  .rename_i q;exact yd9 q
  .exact h
def pw5:pw 5=1099511627776:=∅
def yo0{l w:Int}{k:Nat}(hw:w<=1099511627776)(h:ygf l w k):k<=5:=by have b:=yig h;rw[<- pw5]at hw;have a:pw k<pw 6:=Int.lt_of_le_of_lt (Int.le_trans b hw) ∅;have:=yzs a;omega
def tK(x:Sn):Nat:=tel x.1 x.2.1 5 0
def tCn(x:Sn):Int:=blk x.1 (pw (tK x))
def tL(x:Sn):Ο:=wr (sz x-tK x) (tCn x)
def vec{x:Sn}(h:Ok x):ygf x.1 x.2.1 0:=by have:=h.w0;show ((x.1+1-1)/1+1)*1<=x.1+x.2.1;omega
def ż{x:Sn}(h:Ok x):ygf x.1 x.2.1 (tK x):=yd9 (vec h)
def ys2{x:Sn}(h:OkS x):tK x<=5/\tK x<=sz x:=by have b:=yo0 h.ok.w1 (ż h.ok);have a:=h.sz5;omega
def yj8(x:Sn):(tL x).length=sz x-tK x:=yxw _ _
def yun{x:Sn}(h:Ok x):0<=tCn x:=by have:=h.l0;have:=zn (tK x);exact Int.ediv_nonneg () ()
def yvd{x:Sn}(h:OkS x):tCn x<pw (sz x-tK x):=by have b:(tCn x+1)*pw (tK x)<=x.1+x.2.1:=ż h.ok;have a:=h.top;have e:sz x-tK x+tK x=sz x:=Nat.sub_add_cancel (ys2 h).2;rw[<- e,yey]at a;have c:=Int.le_of_mul_le_mul_right (Int.le_trans b a) (zn (tK x));omega
def yys{x:Sn}(h:OkS x):val (tL x)=tCn x:=yn9 _ _ (yun h.ok) (yvd h)
end SpanMath
namespace L2
open PySem PySem.Spec PyProof.Rows
def yeh(J:It)(te:TE)(D:xy)(R:Hp->Prop)(H1:Hp):Prop:=∃W:Nat->Nat->Hp->Prop,(∃m,W 0 m (upd H1 D (.lst [])))/\
 ∀i m H2,W i m H2->(J.stop i H2/\R H2)\/(J.go i H2/\∀x H3,J.yld i H2 x H3->te [some x] H3 λy H4=>∃ys,H4 D=some (.lst ys)/\ys.length<sizeLine/\∃m',m'<m/\W (i+1) m' (upd H4 D (.lst (ys++[y]))))
section
variable{X:Cx}{iter elt:qg}{x:Str}{px pos:Pos}{scope:Scope}{te:TE}{wi:TI}{pins:Θ}{σ:St}
def ys4{α:Type}{t:Sem α}{Q Q':α->qa->Prop}{M:Model}{A:qe}{E:Δ}{s:qa}(h:wpAny M A t Q (λZ Z=>False) s)(hQ:∀a s,Q a s->Q' a s):wpAny M A t Q' E s:=dM h hQ λZ Z z=>z.elim
def cW(n:Nat)(Pv:Nat->Hp->Prop)(i m:Nat)(H:Hp):Prop:=m=n-i/\i<=n/\Pv i H
def jr{K:z0}{a D:xy}{xs:Τ}{R:Hp->Prop}{H1:Hp}(Pv:Nat->Hp->Prop)(h0:Pv 0 (upd H1 D (.lst [])))(hl:∀i H,i<=xs.length->Pv i H->SqL K H a xs)
  (hs:∀i x H,xs[i]?=some x->i<xs.length->Pv i H->te [some x] H λy H4=>∃ys,H4 D=some (.lst ys)/\ys.length<sizeLine/\∃m',m'<xs.length-i/\cW xs.length Pv (i+1) m' (upd H4 D (.lst (ys++[y]))))
  (hd:∀H,Pv xs.length H->R H):yeh (Itl K a) te D R H1:=by
 exists cW xs.length Pv,⟨xs.length,by simp,dg _,h0⟩,?_;rintro i m H ⟨rfl,b,p⟩;have q:=hl i H b p;by_cases hlt:i<xs.length
 .refine .inr ⟨⟨xs,xs[i],q,by simp[hlt]⟩,λx c y=>?_⟩;let⟨e,y⟩:=y;subst e;exact hs i x _ (y xs q) hlt p
 .have e:i=xs.length:=()
  subst e;exact .inl ⟨⟨xs,q,cE _⟩,hd H p⟩
def ul{n i:Nat}{Pv:Nat->Hp->Prop}{D:xy}{ys:Τ}{y:V}{H4:Hp}(hD:H4 D=some (.lst ys))(hl:ys.length<sizeLine)(hi:i<n)(p:Pv (i+1) (upd H4 D (.lst (ys++[y])))):
  ∃ys,H4 D=some (.lst ys)/\ys.length<sizeLine/\∃m',m'<n-i/\cW n Pv (i+1) m' (upd H4 D (.lst (ys++[y]))):=⟨ys,hD,hl,n-(i+1),(),rfl,hi,p⟩
end
end L2
namespace L2
open PySem
noncomputable def Ž:qg->Bool
 | .Starred _ _=>false
 |_=>true
def jc{e:qg}{es:qi qg}{env:Env}(h:Ž e=true):starEach (e::es) env=(false,eval e env)::starEach es env:=by cases e<;>first|rfl|cases h
end L2
namespace L2
open PySem PySem.Spec PyProof.Rows
variable{C D a x:xy}{vs:Array qb}{h':qf}{pins:Θ}{M:Model}{i:Nat}{oe:Obj}{d:qj xy}{P:qh}{scope:Scope}{st:qc}{qual:Str}{a0 cd u:qb}{E Q:Δ}
structure XCls(K:z0)(C:xy):Prop where
 hd:W.hasDictIn K C=true
 ga:W.findIn K (.ref C) "__getattribute__"=some (some (.builtin "BaseException.__getattribute__"))
 gt:W.findIn K (.ref C) "__getattr__"=some none
 ca:W.findIn K (.ref C) "__class__"=some (some (.builtin "object.__class__"))
 gg:W.specialIn K (.builtin "object.__class__") "__get__"=some (some (.builtin "getset_descriptor.__get__"))
 tk:W.takesIn K (.builtin "object.__class__")=some true
 mo:W.mroIn K C (.type "object")=some true
 mb:W.mroIn K C (.type "BaseException")=some true
def XCls.cl{K:z0}(c:XCls K C):(W.clsIn K C).isSome=true:=by let⟨a,h,_⟩:=W.any_some c.hd;rw[h];rfl
def exm_mk{K:z0}(h0:W.subIn K (.ref D) (.type "BaseException")=some true)(h1:W.hasDictIn K D=true)(h2:W.typeIn K (.ref D)=some (.type "type"))
  (h3:W.subIn K (.ref C) (.ref D)=some true):W.exmOne K (.ref C) (.ref D)=some true:=by let⟨a,h,_⟩:=W.any_some h1;unfold W.exmOne W.kitCls;rw[h0];dsimp only;rw[h,h2,h3];rfl
def ħ(x C:xy)(h:qf):Prop:=∃ox,h.get? x=some ox/\ox.cls=.ref C
section
variable{prog:qh}{w:qd}{A:qe}{s:qa}{K:z0}
def ħ.type{h:qf}(I:ħ x C h):W.Looks M h (typeOf (.ref x)) (.ref C):=by let⟨c,b,a⟩:=I;exact a ▸ (W.Looks.ld b).andThen .now
def XCls.finds(c:XCls K C){h:qf}(X:K.In h):W.Looks M h (Builtin.ObjectAttr.find (.ref x) (.ref C) "__class__") (.bind (.builtin "getset_descriptor.__get__") (.builtin "object.__class__")):=by have d:=W.looks_findIn (M:=M) X c.ca;have b:W.Looks M h (Builtin.ObjectAttr.getOf (some (.builtin "object.__class__"))) (some (.builtin "getset_descriptor.__get__")):=W.looks_specialIn X c.gg;have a:W.Looks M h (Builtin.ObjectAttr.dataDescriptor? (some (.builtin "object.__class__")) (some (.builtin "getset_descriptor.__get__"))) (some (.builtin "getset_descriptor.__get__",.builtin "object.__class__")):=(W.looks_takesIn X c.tk).andThen .now;exact d.andThen (b.andThen (a.andThen (W.Looks.tag .now)))
def yqr{R:Result->qa->Prop}{tp:qb}(c:XCls K C)(X:K.In s.heap)(I:ħ x C s.heap)(h:R (.ok (.ret (.ref C))) s):
  codeAny (model prog w) A (.call (.builtin "getset_descriptor.__get__") ⟨[.builtin "object.__class__",.ref x,tp],[]⟩) R s:=by
 let⟨a,g,b,t,d⟩:=s;have e:=I.type (M:=model prog w);have f:=W.looks_mroIn (M:=model prog w) X c.mo;refine codeAny_call_builtin W.KF.slot_gs.plain W.KF.entry_gs (W.KF.slot_gs.check _ _ _ _ _ _ _ _ W.KF.type_class (W.KF.args_gs _ _ _) ?_);unfold Builtin.«getset_descriptor.__get__» Builtin.Getset_descriptor.descrGet;rw[W.dga_obj];refine cz (cG ?_);unfold Builtin.Getset_descriptor.descrGetter Builtin.Getset_descriptor.descrCheckInstance Builtin.Getset_descriptor.descrNameAndClass isInstance;simp only[W.KF.owner_class]
 repeat lk
 exists Code.quiet_builtin _ (by decide+kernel),codeAny_builtin W.KF.entry_class ?_;unfold Builtin.«object.__class__» shownTypeOf
 repeat lk
 exact h
def ygr(c:XCls K C){Q:qj qb->qa->Prop}(X:K.In s.heap)(I:ħ x C s.heap)(h:Q (some (.ref C)) {s with toks:=s.toks+1}):
  wpAny (model prog w) A (getAttr? (.ref x) "__class__") Q E s:=by
 let⟨e,g,d,t,k⟩:=s;have b:=I.type (M:=model prog w);have n:=W.looks_findIn (M:=model prog w) X c.ga;have j:=W.looks_findIn (M:=model prog w) X c.gt;have o:W.Looks (model prog w) e (isInstance (.ref x) (.type "BaseException")) true:=b.andThen (W.looks_mroIn X c.mb);have p:=c.finds (x:=x) (M:=model prog w) X;unfold getAttr? getAttrBy? getAttrBy;refine cz (wpAny_mkText (cz (wpAny_attempt (wpAny_holding (cz (b.at (cz (n.at ?_))))))))
 have l:(onTheHeap (Value.ref C) && Value.builtin "BaseException.__getattribute__" == Value.builtin "object.__getattribute__")=false:=by
  have z:(Value.builtin "BaseException.__getattribute__" == Value.builtin "object.__getattribute__")=false:=by decide+kernel
  rw[z];rfl
 dsimp only;rw[l];unfold getAttrByItsOwn hookBefore;rw[if_neg de];refine cz ?_;rw[if_pos (show onTheHeap (.ref C)=true from rfl)];refine j.at ?_;refine cz (wpAny_attempt (wpAny_holding ?_));unfold callGetattribute;rw[if_neg (by simp)];unfold boundAndCalled;rw[F.attr_ValueError.ga.bind (.ref x)];refine cz (cG ?_);refine wpAny_call (codeAny_call_builtin F.attr_ValueError.ga.plain F.entry_bexc_ga ?_);have q:builtinKind "BaseException.__getattribute__"=some .slot:=by decide+kernel
 have a:splitId "BaseException.__getattribute__"=some ("BaseException","__getattribute__"):=by decide+kernel
 have i:=F.args_bexc_ga (.ref x) (.str "__class__" t);simp only[checkBuiltinCall,q,a,List.cons_append,List.nil_append];refine cz (o.at ?_);rw[if_neg (by simp)];refine wpAny_of_eq i ?_;unfold Builtin.«object.__getattribute__»;have m:slotArgs "__getattribute__" 1 ⟨[Value.ref x,Value.str "__class__" t],[]⟩=pure (Value.ref x,[Value.str "__class__" t]):=by kernel_rfl
 have f:Builtin.ObjectAttr.attrName (Value.str "__class__" t)=pure "__class__":=by kernel_rfl
 refine cz (wpAny_of_eq m ?_);dsimp only;refine cz (wpAny_of_eq f ?_);refine cz (b.at ?_);refine cz (p.at ?_);dsimp only;show wpAny _ _ (holding [_] (call _ [_,_,_]) >>=ret) _ _ _;refine cz (wpAny_holding (wpAny_call (yqr (s:=⟨e,g,d,t+1,k⟩) c X I ?_)));refine cG ?_;exact W.handed_on rfl (cG h)
set_option tactic.hygienic true in
def yik(c:XCls K C):W.KitX K (.ref x) (.ref C) (ħ x C) where
 ty:=λZ Z Z I=>I.type
 it:=λM h X Z=>by
  let⟨e,a⟩:=Option.isSome_iff_exists.mp c.cl;unfold W.clsIn at a
  split at a
  .rename_i there
   intro j l g o k q;unfold isType loadHead;exact cz (wpAny_loadPart (k _ _ (X _ _ there)) (cG q))
  .cases a
 ne:=λh f m d n i X b=>by
  let⟨e,a⟩:=Option.isSome_iff_exists.mp c.cl;refine Bool.eq_false_iff.mpr λq=>?_;obtain rfl:C=f:=Value.ref.inj (beq_iff_eq.mp q);unfold W.clsIn at a
  split at a
  .rename_i there
   cases (X _ _ there).symm.trans b
  .cases a
 ca:=λX I k=>ygr c X I k
end
section
variable{X:Cx}
def yio{σ:St}{H:Hp}{s:qa}(I:Inv X pins σ H s)(e:H x=some (.ext (ħ x C))):ħ x C s.heap:=(show xl X.prog X.w H s.heap x (.ext (ħ x C))from I.hok x _ e).1
def ys9(K:z0):qi V->Hp->VK->Prop:=λxs H Q=>∃x cv C c k,xs=[.ref x,cv]/\xj cv c/\(∀u,xj cv u->u=c)/\H x=some (.ext (ħ x C))/\XCls K C/\W.kitOne K (.ref C) c=some k/\Q (.bl k) H
def ydl:jo X (.builtin "isinstance") (ys9 X.K):=by
 intro a s σ H o m Q I r h;let⟨x,n,C,c,k,rfl,_,g,j,b,e,q⟩:=h;let⟨u,d,rfl,l,i⟩:=ykk r;obtain rfl:=g d i;obtain rfl:u=Value.ref x:=l
 exact W.kia_one (yik b) I.kIn (yio I j) e (λz=>nomatch z) λf=>⟨.bl k,H,I.tok f,rfl,q⟩
theorem Ē:∀{Cs:Υ}{us:Ξ},wq (Cs.map V.ref) us->us=Cs.map Value.ref
 |[],_,.nil=>rfl
 |C::r,_,.cons a t=>by rw[show _=Value.ref C from a,Ē t];rfl
def ysw(K:z0):qi V->Hp->VK->Prop:=λxs H Q=>∃x tp C Cs k,xs=[.ref x,.ref tp]/\H tp=some (.tup (List.map V.ref Cs))/\H x=some (.ext (ħ x C))/\XCls K C/\W.kitAny K (.ref C) (Cs.map Value.ref)=some k/\Q (.bl k) H
def ygs:jo X (.builtin "isinstance") (ysw X.K):=by
 intro d s σ H J F Q I r h;let⟨x,a,C,m,k,rfl,l,j,v,e,q⟩:=h;let⟨u,y,rfl,E,i⟩:=ykk r;obtain rfl:u=Value.ref x:=E;obtain rfl:y=Value.ref a:=i;let⟨_,D,g,p⟩:=(show xl X.prog X.w H s.heap a (.tup (m.map V.ref))from I.hok a _ l);let⟨o,b,f,n,c⟩:=p;let⟨G,L,B,t⟩:=o;dsimp only at f c;subst f c;rw[Ē g]at b
 exact W.kia_tup (yik v) I.kIn (yio I j) b e (λz=>nomatch z) λA=>⟨.bl k,H,I.tok A,rfl,q⟩
end
def TrA(base h:qf)(e:xy)(cls a0 cx:qb):Prop:=∃fl,h.TracedAtW base e cls a0 fl/\∃oe vs,h.get? e=some oe/\oe.data=.fields vs/\vs[2]?=some cx
section
variable{A:qe}{s:qa}{base:qf}{env:Env}{outer:qi Env}{L e:xy}{cls cx:qb}{Q:Unit->qa->Prop}
def yo8{head:qb}{hadNext:Bool}(hfr:A.frames=some (env::outer))(hl:s.heap.FunFrames base (env::outer))(hf:env.frame=some L)(he:s.heap.get? e=some oe)(hkb:base.StaysIn s.heap)(hen:base.get? e=none)
  (hd:oe.data=.fields vs) (hsz:1<vs.size) (h0:vs[0]?=some a0) (h2:vs[2]?=some cx)
  (h:∀h',base.StaysIn h'->h'.FunFrames base (env::outer)->TrA base h' e oe.cls a0 cx->(∀b o,s.heap.get? b=some o->(∀vs,o.data≠.fields vs)->∃sl,h'.get? b=some {o with slots:=sl})->Q ⟨⟩ {s with heap:=h'}):
  wpAny M A (do let a <- frameOf env;let pl <- entryPlaceOf L hadNext;let b <- EntryCells.newEntry head a .none (rawInt L) .none pl;setField (.ref e) 1 b) Q E s:=by
 have l:e∉(env::outer).filterMap (·.frame):=λp=>by
  let⟨_,o,x,c⟩:=hl.mem p;rw[he]at x;cases x;exact c vs hd
 refine cz (wpAny_frameOf_fun hfr hl hf λg1 m=>?_);refine cz (wpAny_entryPlaceOf λpl B=>?_);unfold EntryCells.newEntry newFields;refine cz (wpAny_newObj_type ?_ (B.sizeOk5 _ _ _ _ _));have f:g1.get? e=some oe:=(m.2.1 e l).trans he;have v:base.StaysIn g1:=λb o q=>(m.2.1 b λp=>by rw[(hl.mem p).1]at q;cases q).trans (hkb b o q);refine wpAny_setField (cD _ f) hd hsz ?_;have g:=Obj.data_mapFields hd (·.setIfInBounds 1 (Value.ref g1.objs.size));have w:g1.objs.size≠e:=Nat.ne_of_gt (cP f)
 have r:∀O:Obj,O.cls=.type "traceback"->(∃j,O.data=.fields j/\j[3]?=some (rawInt L))->Q ⟨⟩ {s with heap:=(g1.push O).update e (Obj.mapFields (·.setIfInBounds 1 (Value.ref g1.objs.size)))}:=by
  rintro O C ⟨j,y,t⟩;have i:=Heap.get?_update_self (Obj.mapFields (·.setIfInBounds 1 (Value.ref g1.objs.size))) (cD O f) (Obj.isFreed_of_fields g);have u:∀b o,b≠e->g1.get? b=some o->((g1.push O).update e (Obj.mapFields (·.setIfInBounds 1 (Value.ref g1.objs.size)))).get? b=some o:=λb o n q=>(Heap.get?_update_other _ _ (Ne.symm n)).trans (cD O q);have k:∀{b o},s.heap.get? b=some o->(∀vs,o.data≠.fields vs)->b≠e:=λ{b o}q c z=>by rw[z,he]at q;cases q;exact c vs hd
  have d:∀{b o},s.heap.get? b=some o->(∀vs,o.data≠.fields vs)->∃sl,((g1.push O).update e (Obj.mapFields (·.setIfInBounds 1 (Value.ref g1.objs.size)))).get? b=some {o with slots:=sl}:=λ{b o}q c=>by
   let⟨sl,z⟩:=m.2.2 b o q;exists sl,u b _ (k q c) z
  refine h _ (λb o q=>u b o (λz=>by rw[z,hen]at q;cases q) (v b o q)) (hl.of_keeps λb o q c=>?_) ⟨_,⟨_,_,g1.objs.size,O,j,i,⟨Obj.cls_mapFields _ _,?_⟩,g,by simp[hsz],v.fresh,w,(Heap.get?_update_other _ _ (Ne.symm w)).trans (cV g1 ?_),y,t⟩,_,_,i,g,?_⟩ λb o q c=>d q c
  .obtain⟨sl,z⟩:=d q c;exists _,z,rfl
  .rw[Array.getElem?_setIfInBounds_ne ∅];exact h0
  .exact Obj.isFreed_of_fields y
  .rw[Array.getElem?_setIfInBounds_ne ∅];exact h2
 exact r _ rfl ⟨_,rfl,by simp⟩
def vdl(hfr:A.frames=some (env::outer))(hl:s.heap.FunFrames base (env::outer))(hf:env.frame=some L)(he:s.heap.get? e=some oe)(hkb:base.StaysIn s.heap)(hen:base.get? e=none)
  (hd:oe.data=.fields vs) (h1:vs[1]?=some .none) (h0:vs[0]?=some a0) (h2:vs[2]?=some cx)
  (h:∀h',base.StaysIn h'->h'.FunFrames base (env::outer)->TrA base h' e oe.cls a0 cx->(∀b o,s.heap.get? b=some o->(∀vs,o.data≠.fields vs)->∃sl,h'.get? b=some {o with slots:=sl})->Q ⟨⟩ {s with heap:=h'}):
  wpAny M A (noteFrame (.ref e) env) Q E s:=by unfold noteFrame;simp only[hf];refine cz (dG he hd h1 ?_);rw[if_neg ∅];exact yo8 hfr hl hf he hkb hen hd (Array.getElem?_eq_some_iff.mp h1).1 h0 h2 h
def vef(hfr:A.frames=some (env::outer))(hl:s.heap.FunFrames base (env::outer))(hf:env.frame=some L)(ht:TrA base s.heap e cls a0 cx)(hkb:base.StaysIn s.heap)(hen:base.get? e=none)
  (h:∀h',base.StaysIn h'->h'.FunFrames base (env::outer)->TrA base h' e cls a0 cx->(∀b o,s.heap.get? b=some o->(∀vs,o.data≠.fields vs)->∃sl,h'.get? b=some {o with slots:=sl})->Q ⟨⟩ {s with heap:=h'}):
  wpAny M A (noteFrame (.ref e) env) Q E s:=by
 let⟨C,⟨y,vs,T,I,F,k,⟨rfl,G⟩,i,r,H,w,m,a,t⟩,j,p,l,f,B⟩:=id ht;obtain rfl:y=j:=cJ (k.symm.trans l);obtain rfl:vs=p:=Data.fields.inj (i.symm.trans f);unfold noteFrame;simp only[hf];refine cz (dG k i r ?_);rw[if_pos (by simp)];refine cz (dG m a t ?_);by_cases z:(C == rawInt L)=true
 .rw[if_pos z];exact cG (h s.heap hkb hl ht λb o q Z=>⟨o.slots,q⟩)
 rw[if_neg z];refine cz (wpAny_setField m a (Array.getElem?_eq_some_iff.mp t).1 ?_);have d:∀b,b≠T->(s.heap.update T (Obj.mapFields (·.setIfInBounds 3 Value.none))).get? b=s.heap.get? b:=λb n=>Heap.get?_update_other _ _ (Ne.symm n);generalize s.heap.update T (Obj.mapFields (·.setIfInBounds 3 Value.none))=g at d⊢;have nT:∀{b o},s.heap.get? b=some o->(∀vs,o.data≠.fields vs)->g.get? b=some o:=λ{b o}q c=>(d b λz=>by rw[z,m]at q;cases q;exact c F a).trans q;exact yo8 (s:={s with heap:=g}) hfr (hl.of_keeps λb o q c=>⟨o,nT q c,rfl⟩) hf ((d e w.symm).trans k) (λb o q=>(d b λz=>by rw[z,H]at q;cases q).trans (hkb b o q)) hen i (Array.getElem?_eq_some_iff.mp r).1 G B
  λh' v x u D=>h h' v x u λb o q c=>D b o (nT q c) c
def yqb{fm:qj xy}(hkb:base.StaysIn s.heap)(hl:s.heap.FunFrames base outer)(ht:TrA base s.heap e cls a0 cx)
  (h:∀h',base.StaysIn h'->h'.FunFrames base outer->TrA base h' e cls a0 cx->(∀b o,s.heap.get? b=some o->(∀vs,o.data≠.fields vs)->h'.get? b=some o)->Q ⟨⟩ {s with heap:=h'}):
  wpAny M A (setFlight (.ref e) fm) Q E s:=by
 let⟨_,⟨C,vs,T,F,v,u,B,t,r,x,k,m,a,y⟩,j,p,l,i,D⟩:=ht;have w:3<v.size:=(Array.getElem?_eq_some_iff.mp y).1;unfold setFlight;refine cz (dG u t r ?_);rw[if_pos (by simp)];refine wpAny_setField m a w ?_;have d:∀b,b≠T->(s.heap.update T (Obj.mapFields (·.setIfInBounds 3 (fm.elim Value.none λf=>rawInt f)))).get? b=s.heap.get? b:=λb n=>Heap.get?_update_other _ _ (Ne.symm n);have nT:∀{b o},s.heap.get? b=some o->(∀vs,o.data≠.fields vs)->b≠T:=λ{b o}q c z=>by rw[z,m]at q;cases q;exact c v a
 have g:=Obj.data_mapFields a (·.setIfInBounds 3 (fm.elim Value.none λf=>rawInt f));refine h _ (λb o q=>(d b λz=>by rw[z,x]at q;cases q).trans (hkb b o q)) (hl.of_keeps λb o q c=>⟨o,(d b (nT q c)).trans q,rfl⟩) ⟨_,⟨C,vs,T,_,_,(d e k.symm).trans u,B,t,r,x,k,Heap.get?_update_self _ m (Obj.isFreed_of_fields g),g,by simp[w];rfl⟩,j,p,(d e k.symm).trans l,i,D⟩ λb o q c=>(d b (nT q c)).trans q
end
def xl.there{w:qd}{H:Hp}{h:qf}{o:HO}(x:xl P w H h a o):∃ob,h.get? a=some ob:=by
 cases o with
 |lst xs=>let⟨_,_,_,_,e⟩:=x;exists _,e
 |tup xs=>let⟨_,_,_,ob,e,_⟩:=x;exists _,e
 |dK kvs=>let⟨_,_,_,_,ob,_,_,e,_⟩:=x;exists _,e
 |dT kvs=>let⟨_,_,_,_,ob,_,_,e,_⟩:=x;exists _,e
 |set S n=>let⟨ob,_,_,_,e,_⟩:=x;exists _,e
 |ins C dx fs=>let⟨_,_,_,e,_⟩:=x;exists _,e
 |own y=>exact x
 |xd fs=>let⟨_,⟨_,_,_,e,_⟩,_⟩:=x;exists _,e
 |rng lo hi=>let⟨_,_,_,e⟩:=x;exists _,e
 |frz ob u=>let⟨e,_⟩:=x;exists _,e
 |tbl ps=>exists _,(show h.get? a=some _ from x)
 |met f y=>exists _,(show h.get? a=some _ from x)
 |ext φ=>let⟨_,e,_⟩:=x;exact e
def HOk.none_of{w:qd}{H:Hp}{h:qf}(x:HOk P w H h)(e:h.get? a=none):H a=none:=by
 cases q:H a with
 |none=>rfl
 |some u =>
  let⟨b,z⟩:=(x a u q).there;rw[e]at z;cases z
def Fy(X:Cx)(pins:Θ)(H:Hp)(b:xy):Prop :=
 H b=none/\b≠X.env.locals/\b∉X.fs/\(b∈X.ex\/X.s₀.heap.get? b=none)/\(∀y c,X.env.cells.lookup y=some c->c≠b)/\∀p∈X.pn++pins,p.1≠b
section
variable{X:Cx}{σ:St}{H H':Hp}{s:qa}{b T:xy}
def Ō(I:Inv X pins σ H s)(hb:s.heap.get? b=none)(hn:H' b=none):Fy X pins H' b:=by
 exists hn,?_,?_,?_,?_,?_
 .rintro rfl;let⟨_,⟨_,_,_,e,_⟩,_⟩:=I.loc;rw[hb]at e;cases e
 .intro z;let⟨_,o,e,_⟩:=I.funs.mem z;rw[hb]at e;cases e
 .by_cases hx:b∈X.ex
  .exact .inl hx
  .refine .inr ?_
   cases q:X.s₀.heap.get? b with
   |none=>rfl
   |some o =>
    let⟨_,e⟩:=I.base.there b o q hx;rw[hb]at e;cases e
 .rintro y c e rfl;let⟨_,_,q,_⟩:=I.cell y c e;rw[hb]at q;cases q
 .intro p a z;have q:=(I.pin p a).1;rw[z,hb]at q;cases q
def Inv.fly(I:Inv X pins σ H s)(hx:Fy X pins H x)(hT:Fy X pins H T)
  (keep:∀b o,b≠x->b≠T->b∉frs X.stack->s.heap.get? b=some o->h'.get? b=some o)
  (slot:∀b o,b∈frs X.stack->s.heap.get? b=some o->∃sl,h'.get? b=some {o with slots:=sl}):Inv X pins σ H {s with heap:=h'}:=by
 have a:∀{y b o},Fy X pins H y->X.s₀.heap.get? b=some o->b∉X.ex->b≠y:=λ{y b o}W e f z=>by
  subst z;rcases W.2.2.2.1 with q|q
  .exact f q
  .rw[e]at q;cases q
 have h:∀b o,b≠x->b≠T->s.heap.get? b=some o->∃sl,h'.get? b=some {o with slots:=sl}:=λb o J Q e=>by
  by_cases z:b∈frs X.stack
  .exact slot b o z e
  .exists o.slots,keep b o J Q z e
 have g:∀y c,X.env.cells.lookup y=some c->∀v,s.heap.IsCell c v->h'.IsCell c v:=λy c e v ⟨o,D,M⟩=>by
  let⟨sl,q⟩:=h c o (hx.2.2.2.2.1 y c e) (hT.2.2.2.2.1 y c e) D;exists _,q,M
 exists I.ok,I.os,I.bare,⟨λb o e n A f=>?_,λb o e n A f=>?_,I.base.free,λb o e f=>?_,I.base.tups,I.base.frzs,I.base.tbls⟩,?_,λy c e=>?_,I.free,I.freeC,λp C=>?_,λb u e=>?_,I.len
 .refine keep b o (a hx e f) (a hT e f) (λz=>?_) (I.base.keep b o e n A f);rcases cS.mp (I.stkSub b z)with q|q
  .exact absurd q (di (dh (cP e) I.ok.above))
  .exact A q
 .obtain⟨sl,j⟩:=I.base.slot b o e n A f;let⟨w,t⟩:=h b _ (a hx e f) (a hT e f) j;exists w,t
 .obtain⟨Y,j⟩:=I.base.there b o e f;let⟨w,t⟩:=h b _ (a hx e f) (a hT e f) j;exists _,t
 .obtain⟨m,S,U⟩:=I.loc;exists m,?_,λi y v j t P=>?_
  .obtain⟨o,L,N,D,r⟩:=S;let⟨sl,q⟩:=h _ o (Ne.symm hx.2.1) (Ne.symm hT.2.1) D;exists _,L,N,q,r
  .obtain⟨u,r,l⟩:=U i y v j t P;exists u,r,?_;rcases l with l|⟨k,c,e,z⟩
   .exact .inl l
   .exact .inr ⟨k,c,e,g y c e _ z⟩
 .obtain⟨v,z⟩:=I.cell y c e;exists v,g y c e v z
 .obtain⟨e,n,F,E,d⟩:=I.pin p C;exists keep p.1 p.2 (hx.2.2.2.2.2 p C) (hT.2.2.2.2.2 p C) (λz=>?_) e,n,F,E,d;rcases cS.mp (I.stkSub _ z)with q|q
  .exact F q
  .exact E q
 .have G:∀c v,H c=some v->c≠x/\c≠T/\c∉frs X.stack:=λc v q =>
   ⟨λz=>(by rw[z,hx.1]at q;cases q),λz=>(by rw[z,hT.1]at q;cases q),λz=>(by rw[I.stkFree c z]at q;cases q)⟩
  refine(I.hok b u e).stay (λc v B q=>?_) (λZ q=>q) λZ Z q=>q
  obtain⟨O,R,K⟩:c≠x/\c≠T/\c∉frs X.stack:=by
   rcases B with rfl|B
   .exact G _ _ e
   .exact G _ _ B
  exact keep c v O R K q
def Trd(h:qf)(x T:xy)(C:qb)(d:qj xy):Prop :=
 ∃oe vs oT ts a0,h.get? x=some oe/\(oe.cls=C/\vs[0]?=some a0/\vs[2]?=some (d.elim Value.none Value.ref))/\oe.data=.fields vs/\vs[1]?=some (.ref T)/\T≠x/\h.get? T=some oT/\oT.data=.fields ts/\∃fl,ts[3]?=some fl
def hid(s:qa)(X:Cx)(x T:xy):qf:=W.hideAll s.heap (x::T::frs X.stack)
def yjf:(hid s X x T).StaysIn s.heap:=λZ Z e=>W.of_hideAll _ e
def yzm:(hid s X x T).get? x=none:=W.hideAll_none _ (.head _)
def vdz:(hid s X x T).get? T=none:=W.hideAll_none _ (.tail _ (.head _))
def yi9(I:Inv X pins σ H s):s.heap.FunFrames (hid s X x T) X.stack :=
 W.funFrames_hide I.stack λb d a c=>.tail _ (.tail _ (List.mem_filterMap.mpr ⟨b,d,c⟩))
def yov{C:qb}(t:Trd s.heap x T C d):∃a0,TrA (hid s X x T) s.heap x C a0 (d.elim Value.none Value.ref):=by let⟨f,b,k,j,a0,e,a,c,h,m,g,n,l,i⟩:=t;exists a0,l,⟨f,b,T,k,j,e,⟨a.1,a.2.1⟩,c,h,vdz,m,g,n,i⟩,f,b,e,c,a.2.2
def ē{C:qb}(I:Inv X pins σ H s)(hx:Fy X pins H x)(hT:Fy X pins H T)(k1:(hid s X x T).StaysIn h')(k2:h'.FunFrames (hid s X x T) X.stack)(k3:TrA (hid s X x T) h' x C a0 (d.elim Value.none Value.ref))
  (k4:∀b o,s.heap.get? b=some o->(∀vs,o.data≠.fields vs)->∃sl,h'.get? b=some {o with slots:=sl}):
  Inv X pins σ H {s with heap:=h'}/\∃T',Fy X pins H T'/\Trd h' x T' C d:=by
 exists I.fly hx hT (λb o A w B e=>k1 b o (W.hideAll_get _ e λz=>?_)) λb o K e=>?_,?_
 .rcases cS.mp z with z|z
  .exact A z
  .rcases cS.mp z with z|z
   .exact w z
   .exact B z
 .obtain⟨_,E,a,g⟩:=I.stack.mem K;rw[e]at a;cases a;exact k4 b o e g
 .obtain⟨F,⟨n,vs,T',D,J,k,p,l,G,v,j,t,r,u⟩,f,i,c,h,y⟩:=k3;obtain rfl:n=f:=cJ (k.symm.trans c);obtain rfl:vs=i:=Data.fields.inj (l.symm.trans h);exists T',?_,n,vs,D,J,a0,k,⟨p.1,p.2,y⟩,l,G,j,t,r,F,u;by_cases q:T'=T
  .rw[q];exact hT
  .cases e:s.heap.get? T' with
   |none=>exact Ō I e (I.hok.none_of e)
   |some o =>
    have z:T'∈frs X.stack:=Classical.byContradiction λz=>by
     have:=W.hideAll_get (x::T::frs X.stack) e (λm=>by
      rcases cS.mp m with m|m
      .exact j m
      .rcases cS.mp m with m|m
       .exact q m
       .exact z m)
     rw[show (W.hideAll s.heap (x::T::frs X.stack)).get? T'=none from v]at this;cases this
    let⟨_,E,a,g⟩:=k2.mem z;rw[t]at a;cases a;exact absurd r (g _)
section
variable{A:qe}{Q:Unit->qa->Prop}{env:Env}{outer:qi Env}{L:xy}{C:qb}
def uo{fm:qj xy}(I:Inv X pins σ H s)(hx:Fy X pins H x)(hT:Fy X pins H T)(tr:Trd s.heap x T C d)(k:∀s' T',Inv X pins σ H s'->Fy X pins H T'->Trd s'.heap x T' C d->Q ⟨⟩ s'):wpAny M A (setFlight (.ref x) fm) Q E s:=by let⟨m,i⟩:=yov (X:=X) tr;refine yqb (base:=hid s X x T) yjf (yi9 I) i λn g f h c=>?_;let⟨J,T',a,j⟩:=ē I hx hT g f h λb o e l=>⟨o.slots,c b o e l⟩;exact k _ T' J a j
def ė(fr:A.frames=some X.stack)(hst:X.stack=env::outer)(hf:env.frame=some L)(I:Inv X pins σ H s)(hx:Fy X pins H x)(hT:Fy X pins H T)(tr:Trd s.heap x T C d)(k:∀s' T',Inv X pins σ H s'->Fy X pins H T'->Trd s'.heap x T' C d->Q ⟨⟩ s'):wpAny M A (noteFrame (.ref x) env) Q E s:=by let⟨j,h⟩:=yov (X:=X) tr;have c:=yi9 (x:=x) (T:=T) I;rw[hst]at fr c;refine vef (base:=hid s X x T) fr c hf h yjf yzm λl f b g e=>?_;rw[<- hst]at b;let⟨J,T',a,i⟩:=ē I hx hT f b g e;exact k _ T' J a i
def yd2(fr:A.frames=some X.stack)(hst:X.stack=env::outer)(hf:env.frame=some L)(I:Inv X pins σ H s)(hx:Fy X pins H x)(he:s.heap.get? x=some oe)(hd:oe.data=.fields vs)(h1:vs[1]?=some .none)(h0:vs[0]?=some a0)(h2:vs[2]?=some (d.elim Value.none Value.ref))
  (k:∀s' T',Inv X pins σ H s'->Fy X pins H T'->Trd s'.heap x T' oe.cls d->Q ⟨⟩ s'):wpAny M A (noteFrame (.ref x) env) Q E s:=by have c:=yi9 (x:=x) (T:=x) I;rw[hst]at fr c;refine vdl (base:=hid s X x x) fr c hf he yjf yzm hd h1 h0 h2 λi f b g e=>?_;rw[<- hst]at b;let⟨J,T',a,h⟩:=ē I hx hx f b g e;exact k _ T' J a h
end
end
def CXe(P:qh)(w:qd):CXT:=λouter H s E e s'=>∃x T C d H',e=.ref x/\s'.os=s.os/\AllBare s'.gens/\Un (frs outer) [] H H' s.heap s'.heap/\HOk P w H' s'.heap/\
 (H' x=none/\s.heap.get? x=none)/\(H' T=none/\s.heap.get? T=none)/\Trd s'.heap x T C d/\E C d H'
def ι(X:Cx)(Ex:St->XK):Prop:=∀(pins:Θ)(σ:St)(H:Hp)(s':qa)(x T:xy)(C:qb)(d:qj xy),Inv X pins σ H s'->Fy X pins H x->Fy X pins H T->Trd s'.heap x T C d->Ex σ C d H->X.xe (.ref x) s'
def yr{w:qd}{K:z0}{mg:Ε}{base:qf}{N:Ρ}{f:xy}{A:qe}{outer:qi Env}{s:qa}{H:Hp}{E:XK}:
  ι (vz (CXe P w) P w K mg base N qual scope f cd A outer s H E) (λZ=>E):=by intro c σ j y x T C d I i m n q;show wpAny _ _ (leaving _ _) _ _ _;unfold leaving;refine cz (ė (L:=s.heap.objs.size) I.ok.frames rfl rfl I i m n λt u o g l=>uo o i g l λv r e h p=>?_);have a:∀{b},Fy (vz (CXe P w) P w K mg base N qual scope f cd A outer s H E) c j b->j b=none/\s.heap.get? b=none:=λk=>⟨k.1,k.2.2.2.1.resolve_left (by intro z;cases z)⟩;exists x,r,C,d,j,rfl,e.os,e.bare,e.base,e.hok,a i,a h,p,q
def yly{w:qd}{K:z0}{mg:Ε}{base:qf}{N:Ρ}{f:xy}{A:qe}{outer:qi Env}{s:qa}{H:Hp}{E:XK}
  {pins:Θ} {σ:St} {H1:Hp} {s1:qa} {h':qf} {x:xy} {C:qb} {vs:Ξ} (I:Inv (vz (CXe P w) P w K mg base N qual scope f cd A outer s H E) pins σ H1 s1) (m:Heap.MadeExcOf s1.heap h' x C vs) (q:E C none H1):
  (vz (CXe P w) P w K mg base N qual scope f cd A outer s H E).xe (.ref x) {s1 with heap:=h'}:=by let⟨t,l,_,_⟩:=m.there;have i:Fy (vz (CXe P w) P w K mg base N qual scope f cd A outer s H E) pins H1 x:=Ō I m.new (I.hok.none_of m.new);have e:Inv (vz (CXe P w) P w K mg base N qual scope f cd A outer s H E) pins σ H1 {s1 with heap:=h'}:=I.kept (t':=s1.toks) m.keeps;show wpAny _ _ (leaving _ _) _ _ _;unfold leaving;refine cz (yd2 (L:=s.heap.objs.size) (d:=none) e.ok.frames rfl rfl e i l rfl rfl rfl rfl λp o e g k=>uo e i g k λr n c h t'=>?_);have a:∀{b},Fy (vz (CXe P w) P w K mg base N qual scope f cd A outer s H E) pins H1 b->H1 b=none/\s.heap.get? b=none:=λj=>⟨j.1,j.2.2.2.1.resolve_left (by intro z;cases z)⟩;exists x,n,C,none,H1,rfl,c.os,c.bare,c.base,c.hok,a i,a h,t',q
def yi5(sp:Sp)(dvs:Τ)(Ex:St->XK)(t:TA):TE:=λσ H Q=>t σ H λvs H1=>sp (vs++dvs) H1 Q (Ex σ)
def Ň(C:xy)(m:Str)(sp:Sp)(dvs:Τ)(Ex:St->XK)(ta:TE)(t:TA):TE:=λσ H Q=>ta σ H λx H1=>∃a dx fs,x=.ref a/\H1 a=some (.ins C dx fs)/\fs.lookup m=none/\
 t σ H1 λvs H2=>sp (x::(vs++dvs)) H2 Q (Ex σ)
def ypj(C:xy)(sp:Sp)(dvs:Τ)(Ex:St->XK)(t:TA):TE:=λσ H Q=>t σ H λvs H1=>∀x dx,H1 x=none->H1 dx=none->dx≠x ->
 sp (.ref x::(vs++dvs)) (upd (upd H1 dx (.own x)) x (.ins C dx [])) (λv H2=>v=.non/\Q (.ref x) H2) (Ex σ)
section
variable{X:Cx}{k:Nat}{f:xy}{fd:FuncData}{ps:Ρ}{sp:Sp}{dvs:Τ}{ds:Ξ}{Ex:St->XK}{x m:Str}{p pos apos:Pos}{e o:qg}{es:qi qg}{ta:TE}{t:TA}
def Inv.came{σ:St}{H:Hp}{s s':qa}{v:qb}(I:Inv X pins σ H s)(hc:ι X Ex)(h:CXe X.prog X.w X.stack H s (Ex σ) v s'):X.xe v s':=by let⟨y,T,D,d,k,rfl,g,a,i,c,f,e,j,q⟩:=h;exact hc pins σ k s' y T D d (I.call' g i c a λb z=>absurd z (by simp)) (Ō I f.2 f.1) (Ō I e.2 e.1) j q
def yc1{σ:St}{H:Hp}{s:qa}{Q:VK}{us:Ξ}{vs:Τ}(F:vx X.prog X.w X.K X.mg X.base (CXe X.prog X.w) k f fd ps sp)(hr:ji k X.A)(hb:zd X.K fd ps ds)(hd:wq dvs ds)(hc:ι X Ex)
  (I:Inv X pins σ H s) (r:wq vs us) (h:sp (vs++dvs) H Q (Ex σ)):wpAny (model X.prog X.w) X.A (call (.ref f) us) (EP X pins σ Q) X.xe s:=by
 have b:wq (vs++dvs) (us++ds):=r.append hd;have c:(us++ds).length=ps.length:=by rw[<- b.length];exact F.len _ _ _ _ h
 refine wpAny_call (codeAny_mono (F.run X.A X.stack s H ⟨us,[]⟩ (us++ds) (vs++dvs) Q (Ex σ) hr I.env0 (hb s us I.kIn c) b h) λr d a=>?_)
 cases r with
 |error e=>exact I.came hc a
 |ok fl =>
  cases fl with
  |ret u=>exact I.after a
  |next=>exact False.elim a
  |brk=>exact False.elim a
  |cont=>exact False.elim a
def yl8(F:vx X.prog X.w X.K X.mg X.base (CXe X.prog X.w) k f fd ps sp)(hr:ji k X.A)(hg:Gl X x)(hm:X.mg x=some (.ref f))(hk:W.keepIn X.K (.ref f)=true)(hb:zd X.K fd ps ds)(hd:wq dvs ds)(hc:ι X Ex)
  (ha:PA X (e::es) t) (hdb:autoParam ((x == ("__debug__":Str))=false) aB._auto_1) (he:autoParam (starEach (e::es) X.env=(false,eval e X.env)::starEach es X.env) aD._auto_1) (hpl:autoParam ((backTo pos (starEach es X.env)).any (·.1)=false) aD._auto_1):
  PE X (.Call (.Name x p) (e::es) [] pos) (yi5 sp dvs Ex t):=by refine .mk λa s σ H Q I h=>?_;refine wpAny_Call_Name_kw (jd I hg hm ?_ hdb);refine W.callWith_K (h₀:=X.base) I.ok.mod.kin hk (thn (ha pos a s σ H _ I h) λg c ⟨d,i,b,r,q⟩=>⟨b.kIn,?_⟩) he hpl;exact yc1 F hr hb hd hc b r q
def vj{pl:Sem Bool}(he:PE X o ta)(c:Cls X.K C)(hm:Meth X.K C m f)(F:vx X.prog X.w X.K X.mg X.base (CXe X.prog X.w) k f fd ps sp)(hr:ji k X.A)(hb:zd X.K fd ps ds)(hd:wq dvs ds)(hc:ι X Ex)(ha:PA X (e::es) t)
  (hst:autoParam (starEach (e::es) X.env=(false,eval e X.env)::starEach es X.env) aD._auto_1) (hpl:autoParam ((backTo pos (starEach es X.env)).any (·.1)=false) aD._auto_1)
  (ht:eval (.Call (.Attribute o m apos) (e::es) [] pos) X.env=(do
   let ov <- eval o X.env
   standAt apos.atName
   let (f,first) <- holding [ov] (getMethod ov m pl)
   callWith pos f first (backTo pos (starEach (e::es) X.env)) (backToKw pos (keywordEach [] X.env))):=by rfl):
  PE X (.Call (.Attribute o m apos) (e::es) [] pos) (Ň C m sp dvs Ex ta t):=by
 refine .mk λb s σ H Q I h=>?_;refine W.methodCall_KW (pl:=pl) (thn (he b s σ H _ I h) λu i h'=>?_) ht;let⟨x,y,d,v,a,B,D,n,p,l,q⟩:=h';subst n;obtain rfl:u=Value.ref a:=v;refine j5 d p c hm l ?_
 refine W.callWith_K (first:=[.ref a]) (h₀:=X.base) I.ok.mod.kin hm.kp (thn (ha pos b i σ y _ d q) λus E ⟨vs,z,g,r,j⟩=>⟨g.kIn,?_⟩) hst hpl
 exact yc1 (us:=.ref a::us) (vs:=.ref a::vs) F hr hb hd hc g (.cons rfl r) j
def xa{pl:Sem Bool}(he:PE X o ta)(c:Cls X.K C)(hm:Meth X.K C m f)(F:vx X.prog X.w X.K X.mg X.base (CXe X.prog X.w) k f fd ps sp)(hr:ji k X.A)(hb:zd X.K fd ps ds)(hd:wq dvs ds)(hc:ι X Ex)
  (ht:eval (.Call (.Attribute o m apos) [] [] pos) X.env=(do
   let ov <- eval o X.env
   standAt apos.atName
   let (f,first) <- holding [ov] (getMethod ov m pl)
   callWith pos f first (backTo pos (starEach [] X.env)) (backToKw pos (keywordEach [] X.env))):=by rfl):
  PE X (.Call (.Attribute o m apos) [] [] pos) (Ň C m sp dvs Ex ta ykp):=by
 refine .mk λb s σ H Q I h=>?_;refine W.methodCall_KW (pl:=pl) (thn (he b s σ H _ I h) λu j h'=>?_) ht;let⟨x,r,d,i,a,n,p,e,g,l,q⟩:=h';subst e;obtain rfl:u=Value.ref a:=i;refine j5 d g c hm l ?_
 exact W.callWith_K0 (first:=[.ref a]) d.kIn hm.kp (yc1 (us:=[.ref a]) (vs:=[.ref a]) F hr hb hd hc d (.cons rfl .nil) q)
def yg5{σ:St}{H:Hp}{s:qa}{Q:VK}{us:Ξ}{vs:Τ}(M:Mk X.K C f)(F:vx X.prog X.w X.K X.mg X.base (CXe X.prog X.w) k f fd ps sp)(hr:ji (k+1) X.A)(hb:zd X.K fd ps ds)(hd:wq dvs ds)
  (hc:ι X Ex) (I:Inv X pins σ H s) (r:wq vs us)
  (h:∀x dx,H x=none->H dx=none->dx≠x->sp (.ref x::(vs++dvs)) (upd (upd H dx (.own x)) x (.ins C dx [])) (λv H2=>v=.non/\Q (.ref x) H2) (Ex σ)):
  wpAny (model X.prog X.w) X.A (call (.ref C) us) (EP X pins σ Q) X.xe s:=by
 have c:=h (s.heap.objs.size+1) s.heap.objs.size (I.hok.fresh (Nat.le_succ _)) (I.hok.fresh (cE _)) (di (eF _));have b:=Inv.made (C:=C) I;have d:wq (V.ref (s.heap.objs.size+1)::(vs++dvs)) (Value.ref (s.heap.objs.size+1)::(us++ds)):=.cons rfl (r.append hd)
 have j:(Value.ref (s.heap.objs.size+1)::us++ds).length=ps.length:=by
  have e:=d.length;rw[F.len _ _ _ _ c]at e;exact e.symm
 refine wpAny_call (ydz (f:=f) I.kIn M.makes M.init (beq_iff_eq.mp M.fn) (codeAny_mono (F.run _ X.stack _ _ ⟨Value.ref (s.heap.objs.size+1)::us,[]⟩ (Value.ref (s.heap.objs.size+1)::(us++ds)) _ _ (Ex σ) (hr.make C us [])
  (b.env0.make C us []) (hb _ (Value.ref (s.heap.objs.size+1)::us) b.kIn j) d c) λr o a=>?_))
 cases r with
 |error e=>exact b.came hc a
 |ok fl =>
  cases fl with
  |ret u =>
   let⟨v,i,l,g,n,m⟩:=b.after a;subst n;exists g,⟨V.ref (s.heap.objs.size+1),i,l,rfl,m⟩
  |next=>exact False.elim a
  |brk=>exact False.elim a
  |cont=>exact False.elim a
def zi(M:Mk X.K C f)(F:vx X.prog X.w X.K X.mg X.base (CXe X.prog X.w) k f fd ps sp)(hr:ji (k+1) X.A)(hg:Gl X x)(hm:X.mg x=some (.ref C))(hb:zd X.K fd ps ds)(hd:wq dvs ds)(hc:ι X Ex)
  (ha:PA X (e::es) t) (hdb:autoParam ((x == ("__debug__":Str))=false) aB._auto_1) (he:autoParam (starEach (e::es) X.env=(false,eval e X.env)::starEach es X.env) aD._auto_1) (hpl:autoParam ((backTo pos (starEach es X.env)).any (·.1)=false) aD._auto_1):
  PE X (.Call (.Name x p) (e::es) [] pos) (ypj C sp dvs Ex t):=by refine .mk λa s σ H Q I h=>?_;refine wpAny_Call_Name_kw (jd I hg hm ?_ hdb);refine W.callWith_K (h₀:=X.base) I.ok.mod.kin M.kp (thn (ha pos a s σ H _ I h) λg c ⟨d,i,b,r,q⟩=>⟨b.kIn,?_⟩) he hpl;exact yg5 M F hr hb hd hc b r q
end
theorem PS.nox{X:Cx}{t:TS}(h:PS X.nox st t):PS X st t:=.mk λa s σ H D I b =>
 dM (h a s σ H D (I.wish _) b) (λZ Z q=>q.unwish) λZ Z z=>False.elim z
section
variable{w:qd}{K:z0}{mg:Ε}{base:qf}
def wt{X:Cx}:ι X (λZ Z Z Z=>False):=λZ Z Z Z Z Z Z Z Z Z Z Z q=>q.elim
def Fun.okE{x:Str}{f:xy}{fd:FuncData}{N ps:Ρ}{k:Nat}{sp:Sp}(F:Fun K x qual st f fd)(S:yj N ps (ye st))(len:∀vs H Q E,sp vs H Q E->vs.length=ps.length)
  (hbody:∀(cdv:qb)(A:qe)(outer:qi Env)(s:qa)(H:Hp)(vs:Τ)(Q:VK)(E:XK),ji k (A.deeper (envOfC qual (ye st) s.heap.objs.size f cdv))->sp vs H Q E ->
   ∃t,PSs (vz (CXe P w) P w K mg base N qual (ye st) f cdv A outer s H E) (ww st) t/\t { nx:=λZ H'=>Q .non H',rt:=Q} (ò N vs) H):vx P w K mg base (CXe P w) (k+1) f fd ps sp:=by let⟨h,m,kV,d,i,l,cdv,j,c,rfl,e,b⟩:=F.ex;exact ys1 e b S len λA outer s H vs Q E g a=>hbody cdv A outer s H vs Q E g a
end
abbrev bmV:Ξ:=[.type "ValueError",.type "Exception",.type "BaseException",.type "object"]
abbrev XMk(K:z0)(C:xy):Prop:=W.excIn K C bmV "ValueError.__new__"=true
set_option tactic.hygienic true in
def yc5{K:z0}{h:qf}{bmB:Ξ}{newId:String}(X:K.In h)(q:W.excIn K C bmB newId=true):
  ∃bm N nm qn bs hdct sn sub ab col dd k0 k1 k2 k3 k5 mN,h.get? C=some (excClassObj nm qn C N bs bm hdct sn sub ab col dd k0 k1 k2 k3 k5 newId)/\h.Ns N mN/\mN "__init__"=none/\OwnTail h bmB bm:=by
 unfold W.excIn at q
 split at q
 .rename_i dd cd sl ho
  split at q
  .rename_i C' bm k0 k1 k2 k3 n k5 hm d
   simp only[cZ,beq_iff_eq,Bool.not_eq_true']at q;let⟨⟨⟨⟨⟨rfl,rfl⟩,a⟩,f⟩,b⟩,c⟩:=q;let⟨nm,bs,i,g,qn,e,sn,sub,ab,col,j⟩:=cd;dsimp only at hm a b c;subst hm a;let⟨l⟩:=sl;have d:l=[k0,k1,k2,k3,some (.builtin n),k5]:=d;subst d;exists bm,g,nm,qn,bs,e,sn,sub,ab,col,dd,k0,k1,k2,k3,k5,_,X _ _ ho,.of_isNs (W.isNs_of_in X b),W.nsMap_none_of_in X b c,W.tail_of_in X f
  .cases q
 .cases q
def yno(E:XK)(C:xy)(t:TA):TS:=λZ σ H=>t σ H λvs H1=>vs.length<=sizeLine/\E (.ref C) none H1
def wn{w:qd}{K:z0}{mg:Ε}{base:qf}{N:Ρ}{f:xy}{A:qe}{outer:qi Env}{s:qa}{H:Hp}{E:XK}
  {C:xy} {x:Str} {np cpos pos:Pos} {e₀:qg} {vt:qi qg} {t:TA} (hg:Gl (vz (CXe P w) P w K mg base N qual scope f cd A outer s H E) x) (hm:mg x=some (.ref C)) (hC:XMk K C)
  (ha:PA (vz (CXe P w) P w K mg base N qual scope f cd A outer s H E) (e₀::vt) t)
  (he:autoParam (starEach (e₀::vt) (envOfC qual scope s.heap.objs.size f cd)=(false,eval e₀ (envOfC qual scope s.heap.objs.size f cd))::starEach vt (envOfC qual scope s.heap.objs.size f cd)) aD._auto_1)
  (hplain:autoParam ((backTo cpos (starEach vt (envOfC qual scope s.heap.objs.size f cd))).any (·.1)=false) aD._auto_1) (hdb:autoParam ((x == ("__debug__":Str))=false) aB._auto_1):
  PS (vz (CXe P w) P w K mg base N qual scope f cd A outer s H E) (.Raise (some (.Call (.Name x np) (e₀::vt) [] cpos)) none pos) (yno E C t):=by
 refine .mk λa j σ u D I h=>?_;let⟨p,n,nm,q,bs,hdct,sn,sub,ab,col,dd,k0,k1,k2,k3,k5,mN,g,k,c,T⟩:=yc5 I.mod.kin hC;refine wpAny_Raise_call_subT (C:=C) (nm:=nm) (q:=q) (N:=n) (bs:=bs) (bm:=p) (hdct:=hdct) (sn:=sn) (sub:=sub) (ab:=ab) (col:=col) (dd:=dd) (k0:=k0) (k1:=k1) (k2:=k2) (k3:=k3) (k5:=k5)
  F.excBase_ValueError (mN:=mN) (T.hasType F.excBase_ValueError.hasBase) (I.ok.hd rfl) (by
   show (backTo cpos (starEach (e₀::vt) (envOfC qual scope s.heap.objs.size f cd))).any (·.1)=false;rw[he];show (false || (backTo cpos (starEach vt (envOfC qual scope s.heap.objs.size f cd))).any (·.1))=false;rw[hplain];rfl) c (jd I hg hm ⟨rfl,?_⟩ hdb)
 have i:=ha cpos a j σ u _ I h;have d:starEach (e₀::vt) (vz (CXe P w) P w K mg base N qual scope f cd A outer s H E).env=(false,eval e₀ (vz (CXe P w) P w K mg base N qual scope f cd A outer s H E).env)::starEach vt (vz (CXe P w) P w K mg base N qual scope f cd A outer s H E).env:=he;rw[d]at i⊢;refine Calls.evalArgs_plain (dM i (by rintro v s₂ ⟨G,B,b,r,o,l⟩;exact⟨rfl,by rw[<- r.length];exact o,b.bk _ _ g,k.keeps b.bk,T.keeps b.bk,λz y m=>yly b m l⟩) λZ Z y=>y)
section
variable{X:Cx}{σ:St}{H:Hp}{s:qa}{T:xy}
noncomputable abbrev Cx.pnd(X:Cx)(pn:Θ):Cx:={X with pn:=pn}
theorem Cx.Ok.pnd(ok:X.Ok)(pn:Θ):(X.pnd pn).Ok :=
 ⟨ok.mod,ok.kind,ok.glob,ok.blt,ok.above,ok.inj,ok.has,ok.cab,ok.hd,ok.frames,ok.stk,ok.exf,ok.bs,ok.bsz,ok.noex,ok.exfs,ok.funs,ok.frf⟩
def Cx.Ok.unpnd{pn:Θ}(ok:(X.pnd pn).Ok):X.Ok :=
 ⟨ok.mod,ok.kind,ok.glob,ok.blt,ok.above,ok.inj,ok.has,ok.cab,ok.hd,ok.frames,ok.stk,ok.exf,ok.bs,ok.bsz,ok.noex,ok.exfs,ok.funs,ok.frf⟩
theorem Inv.pnd(I:Inv X pins σ H s):Inv (X.pnd (X.pn++pins)) [] σ H s :=
 ⟨I.ok.pnd _,I.os,I.bare,I.base,I.loc,I.cell,I.free,I.freeC,λp a=>I.pin p (by simpa using a),I.hok,I.len⟩
theorem Inv.unpnd{ps:Θ}(I:Inv (X.pnd (X.pn++pins)) ps σ H s):Inv X pins σ H s :=
 ⟨I.ok.unpnd,I.os,I.bare,I.base,I.loc,I.cell,I.free,I.freeC,λp a=>I.pin p (dA _ a),I.hok,I.len⟩
def XT(Y:Cx)(Ex:St->XK)(e:qb)(s':qa):Prop:=∃pins σ H x T C d,e=.ref x/\Inv Y pins σ H s'/\Fy Y pins H x/\Fy Y pins H T/\Trd s'.heap x T C d/\Ex σ C d H
noncomputable abbrev Cx.tr(X:Cx)(pn:Θ)(Ex:St->XK):Cx:=(X.pnd pn).wish (XT (X.pnd pn) Ex)
def Ó{pn:Θ}{Ex:St->XK}:ι (X.tr pn Ex) Ex:=λa σ H Z x T C d I c b tr q=>⟨a,σ,H,x,T,C,d,rfl,I.unwish,c,b,tr,q⟩
noncomputable abbrev Cx.su(X:Cx)(pn:Θ)(x:xy):Cx:={X with A:=X.A.mark (some (.ref x)),calm:=false,pn:=pn,xe:=λZ Z=>False}
theorem Inv.su(I:Inv X pins σ H s)(x:xy):Inv (X.su (X.pn++pins) x) [] σ H s :=
 ⟨⟨I.ok.mod,I.ok.kind,I.ok.glob,I.ok.blt,I.ok.above,I.ok.inj,I.ok.has,I.ok.cab,λz=>(by cases z),I.ok.frames,I.ok.stk,I.ok.exf,I.ok.bs,I.ok.bsz,I.ok.noex,I.ok.exfs,I.ok.funs,I.ok.frf⟩,
  I.os,I.bare,I.base,I.loc,I.cell,I.free,I.freeC,λp a=>I.pin p (by simpa using a),I.hok,I.len⟩
def Inv.unsu(I:Inv (X.su (X.pn++pins) x) [] σ H s)(ok:X.Ok):Inv X pins σ H s :=
 ⟨ok,I.os,I.bare,I.base,I.loc,I.cell,I.free,I.freeC,λp a=>I.pin p (dA _ a),I.hok,I.len⟩
def Inv.track{o:HO}(I:Inv X pins σ H s)(hx:Fy X pins H x)(ob:xl X.prog X.w (upd H x o) s.heap x o):Inv X pins σ (upd H x o) s:=by
 have a:∀{b u},H b=some u->b≠x:=λ{b u}e z=>by rw[z,hx.1]at e;cases e
 exists I.ok,I.os,I.bare,⟨I.base.keep,I.base.slot,λb ob e n f=>?_,I.base.there,λb h e=>?_,λb ob u e=>?_,λb i e=>?_⟩,I.loc,I.cell,?_,λy c e=>?_,λp g=>?_,λb u e=>?_,I.len
 .rw[yp ?_]
  .exact I.base.free b ob e n f
  .rintro rfl;rcases hx.2.2.2.1 with z|z
   .exact f z
   .rw[e]at z;cases z
 .have q:=I.base.tups b h e;rw[yp (a q)];exact q
 .have q:=I.base.frzs b ob u e;rw[yp (a q)];exact q
 .obtain⟨d,q⟩:=I.base.tbls b i e;exists d,by rw[yp (a q)];exact q
 .rw[yp (Ne.symm hx.2.1)];exact I.free
 .rw[yp (hx.2.2.2.2.1 y c e)];exact I.freeC y c e
 .obtain⟨e,n,q⟩:=I.pin p g;exists e,by rw[yp (hx.2.2.2.2.2 p g)];exact n,q
 .by_cases hb:b=x
  .subst hb;rw[ya]at e;cases e;exact ob
  .rw[yp hb]at e;exact(I.hok b u e).stay (λZ Z Z q=>q) (λc q=>by rw[yp (a q)];exact q) λc h q=>by rw[yp (a q)];exact q
def Inv.unbind{A:qe}{n:Str}{pos:Pos}{Q:Unit->qa->Prop}(I:Inv X pins σ H s)(hN:X.N.Nodup)(hi:X.N[i]?=some n)(hl:X.env.scope.names.lookup n=some .local)
  (h:∀s',Inv X pins (σ.set i none) H s'->Q ⟨⟩ s'):wpAny M A (do bindName X.env n .none;unbindBehindTheSuite X.env n pos) Q E s:=by
 let⟨m,F,w⟩:=id I.loc;let⟨W,_,_,J,_⟩:=id F;have f:∀b o,X.s₀.heap.get? b=some o->b≠X.env.locals:=λb o e=>di (dh (cP e) I.ok.above);refine wpAny_nameGoes_keeps hl F (by rw[I.ok.kind];rfl) λY v x a=>h _ ⟨I.ok,I.os,I.bare,⟨λb o e n B l=>?_,λb o e n B l=>?_,I.base.free,λb o e l=>?_,I.base.tups,I.base.frzs,I.base.tbls⟩,⟨_,x,λj y U g t T=>?_⟩,λy c e=>?_,I.free,I.freeC,λp S=>?_,λb u e=>?_,by simpa using I.len⟩
 .exact(a.2 b (f b o e)).trans (I.base.keep b o e n B l)
 .obtain⟨G,g⟩:=I.base.slot b o e n B l;exists G,(a.2 b (f b o e)).trans g
 .obtain⟨R,g⟩:=I.base.there b o e l;exists R,(a.2 b (f b o e)).trans g
 .by_cases hj:j=i
  .subst hj;have:j<σ.length:=by rw[I.len];exact(cF.mp hi).1
   rw[List.getElem?_set_self this]at t;cases t
  .rw[List.getElem?_set_ne (Ne.symm hj)]at t;let⟨L,O,q⟩:=w j y U g t T;exists L,O,?_;rcases q with⟨k,e⟩|⟨k,c,e,z⟩
   .have:y≠n:=λz=>hj (ű hN g (z ▸ hi));exact .inl ⟨k,by simp[this,e]⟩
   .exact .inr ⟨k,c,e,z.sameBut a (I.cne y c e)⟩
 .obtain⟨C,z⟩:=I.cell y c e;exists C,z.sameBut a (I.cne y c e)
 .obtain⟨e,K,D,P,d⟩:=I.pin p S;exists(a.2 p.1 D).trans e,K,D,P,d
 .refine(I.hok b u e).stay (λc C r q=>(a.2 c ?_).trans q) (λZ q=>q) λZ Z q=>q;rintro rfl;rcases r with rfl|r
  .rw[I.free]at e;cases e
  .rw[I.free]at r;cases r
end
variable{X:Cx}
noncomputable def Ŕ.un(D:Ŕ)(i:Nat):Ŕ:=⟨λσ H=>D.nx (σ.set i none) H,D.rt,λσ H=>D.bk (σ.set i none) H,λσ H=>D.ct (σ.set i none) H⟩
def exT(K:z0)(D:xy)(i:Nat)(ts:TS)(En:Ŕ):St->XK:=λσ' C Z H'=>∀x,H' x=none->∃Ca,C=.ref Ca/\W.exmOne K (.ref Ca) (.ref D)=some true/\ts (En.un i) (σ'.set i (some (.ref x))) (upd H' x (.ext (ħ x Ca)))
def vfl(K:z0)(D:xy)(i:Nat)(tb:(St->XK)->TS)(ts:TS):TS:=λEn σ H=>tb (exT K D i ts En) En σ H
section
variable{body suite:qi qc}{b₀:qc}{tx n:Str}{np hpos pos:Pos}{tb:(St->XK)->TS}{ts:TS}
def yxj(hb:∀pn Ex,PSs (X.tr pn Ex) body (tb Ex))(hst:X.stack=X.env::X.outer/\X.env.frame=some X.env.locals)(hg:Gl X tx)(hm:X.mg tx=some (.ref D))
  (hs:∀pn x,PSs (X.su pn x) (b₀::suite) ts) (hN:X.N.Nodup) (hi:X.N[i]?=some n) (hl:X.env.scope.names.lookup n=some .local) (hdb:autoParam ((tx == ("__debug__":Str))=false) aB._auto_1):
  PS X (.Try body [.ExceptHandler (some (.Name tx np)) (some n) (b₀::suite) hpos] [] [] pos) (vfl X.K D i tb ts):=by
 refine .mk λa s σ H y I h=>?_
 have B:∀{f R},SP (X.tr (X.pn++a) (exT X.K D i ts y)) [] y f R->SP X a y f R:=λ{f R}q=>by
  cases f with
  |next=>let⟨σ',j,J,q⟩:=q;exact⟨σ',j,J.unwish.unpnd,q⟩
  |brk=>let⟨σ',j,J,q⟩:=q;exact⟨σ',j,J.unwish.unpnd,q⟩
  |cont=>let⟨σ',j,J,q⟩:=q;exact⟨σ',j,J.unwish.unpnd,q⟩
  |ret u=>let⟨v,σ',j,J,r,q⟩:=q;exists v,σ',j,J.unwish.unpnd,r,q
 refine wpAny_Try_except (dM (hb (X.pn++a) (exT X.K D i ts y) [] s σ H y (I.pnd.wish _) h) (λf Y q=>?_) λe Y q=>?_)
 .have q:=B q
  cases f with
  |next=>exact wpAny_execs_nil q
  |brk=>exact q
  |cont=>exact q
  |ret u=>exact q
 .obtain⟨ps,σ',j,x,T,C,d,rfl,J,g,c,tr,q⟩:=q;have J:Inv X a σ' j Y:=J.unpnd;have g:Fy X a j x:=⟨g.1,g.2.1,g.2.2.1,g.2.2.2.1,g.2.2.2.2.1,λp P=>g.2.2.2.2.2 p (dA _ P)⟩;have c:Fy X a j T:=⟨c.1,c.2.1,c.2.2.1,c.2.2.2.1,c.2.2.2.2.1,λp P=>c.2.2.2.2.2 p (dA _ P)⟩;let⟨F,rfl,U,q⟩:=q x g.1;refine ė J.ok.frames hst.1 hst.2 J g c tr λs2 T2 J c tr=>uo J g c tr λZ T3 J c tr=>?_;refine wpAny_handleBy_cons (codeAny_handlers_test (jd (J.su x) hg hm ?_ hdb)) (by intro z;cases z)
  have E:ħ x F Z.heap:=by
   let⟨Q,_,_,_,_,L,O,_⟩:=id tr;exact⟨Q,L,O.1⟩
  refine W.exm_one (M:=model X.prog X.w) (h:=Z.heap) J.kIn E.type U _ _ _ _ (λN N z=>z) ?_;dsimp only[if_true];refine codeAny_handlers_suite_as ?_;refine uo J g c tr λs4 T4 J c tr=>?_
  have A:ħ x F s4.heap:=by
   let⟨Q,_,_,_,_,L,O,_⟩:=id tr;exact⟨Q,L,O.1⟩
  have J:=J.track (o:=.ext (ħ x F)) g ⟨A,let ⟨G,z,_⟩:=A;⟨G,z⟩,λh1 h2 ⟨G,z1,z2⟩ k=>⟨G,k _ z1,z2⟩⟩;refine ú (X:=X.su (X.pn++a) x) (i:=i) (v:=V.ref x) (J.su x) hN hi (Or.inl hl) rfl (λs5 J5=>?_) (Or.inr hl);refine dM (hs (X.pn++a) x [] s5 _ _ (y.un i) J5 q) (λf s6 q=>?_) λN N z=>False.elim z
  cases f with
  |next=>let⟨σ6,m,l,q⟩:=q;exact(l.unsu I.ok).unbind hN hi hl λS t=>⟨_,m,t,q⟩
  |brk=>let⟨σ6,m,l,q⟩:=q;exact(l.unsu I.ok).unbind hN hi hl λS t=>⟨_,m,t,q⟩
  |cont=>let⟨σ6,m,l,q⟩:=q;exact(l.unsu I.ok).unbind hN hi hl λS t=>⟨_,m,t,q⟩
  |ret u=>let⟨v,σ6,m,l,r,q⟩:=q;exact(l.unsu I.ok).unbind hN hi hl λS t=>⟨v,_,m,t,r,q⟩
end
section
variable{σ:St}{H:Hp}{Q:VK}{tr:TA}{ta:TE}{nx:Ζ}{rt:VK}{bk ct:Ζ}{ts:TS}
def yra{sp:Sp}{dvs:Τ}{Ex:St->XK}(h:tr σ H λvs H1=>sp (vs++dvs) H1 Q (Ex σ)):yi5 sp dvs Ex tr σ H Q:=h
def yab{m:Str}{sp:Sp}{dvs:Τ}{Ex:St->XK}(h:ta σ H λx H1=>∃a dx fs,x=.ref a/\H1 a=some (.ins C dx fs)/\fs.lookup m=none/\tr σ H1 λvs H2=>sp (x::(vs++dvs)) H2 Q (Ex σ)):Ň C m sp dvs Ex ta tr σ H Q:=h
def yre{sp:Sp}{dvs:Τ}{Ex:St->XK}(h:tr σ H λvs H1=>∀x dx,H1 x=none->H1 dx=none->dx≠x->sp (.ref x::(vs++dvs)) (upd (upd H1 dx (.own x)) x (.ins C dx [])) (λv H2=>v=.non/\Q (.ref x) H2) (Ex σ)):ypj C sp dvs Ex tr σ H Q:=h
def yrr{E:XK}{D:Ŕ}(h:tr σ H λvs H1=>vs.length<=sizeLine/\E (.ref C) none H1):yno E C tr D σ H:=h
def vek{K:z0}{tb:(St->XK)->TS}(h:tb (exT K D i ts ⟨nx,rt,bk,ct⟩) ⟨nx,rt,bk,ct⟩ σ H):vfl K D i tb ts ⟨nx,rt,bk,ct⟩ σ H:=h
def vdf{K:z0}(he:W.exmOne K (.ref C) (.ref D)=some true)(h:∀x,H x=none->ts ⟨λσ H=>nx (σ.set i none) H,rt,λσ H=>bk (σ.set i none) H,λσ H=>ct (σ.set i none) H⟩ (σ.set i (some (.ref x))) (upd H x (.ext (ħ x C)))):
  exT K D i ts ⟨nx,rt,bk,ct⟩ σ (.ref C) d H:=λx a=>⟨C,rfl,he,h x a⟩
def vbi{K:z0}{cv:V}{c:qb}{k:Bool}(hx:H x=some (.ext (ħ x C)))(cl:XCls K C)(r:xj cv c)(u:∀u,xj cv u->u=c)(e:W.kitOne K (.ref C) c=some k)(h:Q (.bl k) H):ys9 K [.ref x,cv] H Q:=⟨x,cv,C,c,k,rfl,r,u,hx,cl,e,h⟩
def yyz{K:z0}{k:Bool}(hx:H x=some (.ext (ħ x C)))(cl:XCls K C)(e:W.kitOne K (.ref C) (.ref D)=some k)(h:Q (.bl k) H):ys9 K [.ref x,.ref D] H Q:=vbi hx cl rfl (λZ z=>z) e h
def yum{K:z0}{n:String}{k:Bool}(hx:H x=some (.ext (ħ x C)))(cl:XCls K C)(e:W.kitOne K (.ref C) (.type n)=some k)(h:Q (.bl k) H):ys9 K [.ref x,.ty n] H Q:=vbi hx cl rfl (λZ z=>z) e h
def ytz{K:z0}{tp:xy}{Cs:Υ}{k:Bool}(ht:H tp=some (.tup (List.map V.ref Cs)))(hx:H x=some (.ext (ħ x C)))(cl:XCls K C)(e:W.kitAny K (.ref C) (Cs.map Value.ref)=some k)(h:Q (.bl k) H):ysw K [.ref x,.ref tp] H Q :=
 ⟨x,tp,C,Cs,k,rfl,ht,hx,cl,e,h⟩
end
section
variable{κ:Type}[DecidableEq κ]
noncomputable def ξ(kvs:qi (κ×V))(k:κ):qj V:=(kvs.find? λkv=>decide (kv.1=k)).map (·.2)
noncomputable def yad(kvs:qi (κ×V))(k:κ)(v:V):qi (κ×V) :=
 if (kvs.any λkv=>decide (kv.1=k))=true then kvs.map (λkv=>if kv.1=k then (kv.1,v)else kv)else kvs++[(k,v)]
def x0{p:κ×V}{r:qi (κ×V)}{k:κ}(e:p.1=k):ξ (p::r) k=some p.2:=by simp[ξ,List.find?_cons,e]
def ua{p:κ×V}{r:qi (κ×V)}{k:κ}(e:¬p.1=k):ξ (p::r) k=ξ r k:=by simp[ξ,List.find?_cons,e]
theorem j6(k:κ):∀kvs:qi (κ×V),(kvs.any λkv=>decide (kv.1=k))=(ξ kvs k).isSome
 |[]=>rfl
 |p::r=>by
  rw[List.any_cons];by_cases e:p.1=k
  .simp only[x0 e,cT e,Bool.true_or,Option.isSome_some]
  .rw[ua e,cX e,Bool.false_or];exact j6 k r
theorem ydo(k j:κ)(y:V):∀kvs:qi (κ×V),ξ (kvs.map λkv=>if kv.1=k then (kv.1,y)else kv) j=(ξ kvs j).map λx=>if j=k then y else x
 |[]=>rfl
 |p::r=>by
  have a:=ydo k j y r;rw[dC];by_cases h:p.1=k
  .rw[if_pos h];by_cases e:p.1=j
   .rw[x0 (p:=(p.1,y)) e,x0 e,d8,if_pos (e.symm.trans h)]
   .rw[ua (p:=(p.1,y)) e,ua e,a]
  .rw[if_neg h];by_cases e:p.1=j
   .rw[x0 (p:=p) e,x0 e,d8,if_neg (λz=>h (e.trans z))]
   .rw[ua (p:=p) e,ua e,a]
theorem ya6(k j:κ)(y:V):∀kvs:qi (κ×V),ξ kvs k=none->ξ (kvs++[(k,y)]) j=if j=k then some y else ξ kvs j
 |[],_=>by
  by_cases e:k=j
  .rw[if_pos e.symm];exact x0 (p:=(k,y)) e
  .rw[if_neg (λz=>e z.symm)];exact ua (p:=(k,y)) e
 |p::r,hn=>by
  rw[List.cons_append];have a:¬p.1=k:=λz=>by rw[x0 z]at hn;cases hn
  rw[ua a]at hn;have b:=ya6 k j y r hn;by_cases e:p.1=j
  .rw[x0 e,x0 e,if_neg (λz=>a (e.trans z))]
  .rw[ua e,ua e,b]
def Ű(kvs:qi (κ×V))(k j:κ)(y:V):ξ (yad kvs k y) j=if j=k then some y else ξ kvs j:=by
 unfold yad;by_cases a:(kvs.any λb=>decide (b.1=k))=true
 .rw[if_pos a,ydo];rw[j6]at a;by_cases e:j=k
  .obtain⟨x,c⟩:=Option.isSome_iff_exists.mp a;rw[if_pos e,e,c,d8,if_pos rfl]
  .rw[if_neg e]
   cases ξ kvs j with
   |none=>rfl
   |some x=>rw[d8,if_neg e]
 .rw[if_neg a];refine ya6 k j y kvs ?_;rw[j6]at a
  cases q:ξ kvs k with
  |none=>rfl
  |some x=>rw[q]at a;exact(a rfl).elim
def Ċ(kvs:qi (κ×V))(k:κ)(v:V):(yad kvs k v).length<=kvs.length+1:=by
 unfold yad
 split
 .rw[bz];omega
 .rw[bY,cB,cQ];omega
def û{kvs:qi (κ×V)}{k:κ}(v:V)(h:ξ kvs k=none):yad kvs k v=kvs++[(k,v)]:=by unfold yad;rw[j6,h];exact if_neg ∅
def yb0.isSome_eq{o:qj V}{u:qj qb}(r:yb0 o u):o.isSome=u.isSome:=by
 cases o with
 |none=>cases u with
  |none=>rfl
  |some _=>exact(show False from r).elim
 |some _=>cases u with
  |none=>exact(show False from r).elim
  |some _=>rfl
def KV.val{kvs:qi (κ×V)}{vs:qi (κ×qb)}(r:KV kvs vs)(k:κ):yb0 (ξ kvs k) (valueAt vs k):=by
 unfold KV at r
 induction r with
 |nil=>exact True.intro
 | @cons p q ps qs h t ih =>
  let⟨c,d⟩:=h;by_cases e:p.1=k
  .have a:q.1=k:=c.symm.trans e;have b:valueAt (q::qs) k=some q.2:=by simp[valueAt,List.find?_cons,a]
   rw[x0 e,b];exact d
  .have a:¬q.1=k:=λz=>e (c.trans z);have b:valueAt (q::qs) k=valueAt qs k:=by simp[valueAt,List.find?_cons,a]
   rw[ua e,b];exact ih
theorem KV.any{kvs:qi (κ×V)}{vs:qi (κ×qb)}(r:KV kvs vs)(k:κ):(kvs.any λkv=>decide (kv.1=k))=vs.any λkv=>decide (kv.1=k):=by
 unfold KV at r
 induction r with
 |nil=>rfl
 |cons h t ih=>rw[List.any_cons,List.any_cons,ih,h.1]
def KV.repl{kvs:qi (κ×V)}{vs:qi (κ×qb)}(r:KV kvs vs)(k:κ){y:V}(ry:xj y u):
  KV (kvs.map λkv=>if kv.1=k then (kv.1,y)else kv) (vs.map λkv=>if kv.1=k then (kv.1,u)else kv):=by
 unfold KV at r⊢
 induction r with
 |nil=>exact .nil
 | @cons p q ps qs h t ih =>
  rw[dC,dC];refine .cons ?_ ih;let⟨a,b⟩:=h;by_cases e:p.1=k
  .rw[if_pos e,if_pos (a.symm.trans e)];exists a,ry
  .rw[if_neg e,if_neg (λz=>e (a.trans z))];exists a,b
def KV.put{kvs:qi (κ×V)}{vs:qi (κ×qb)}(r:KV kvs vs)(k:κ){y:V}(ry:xj y u):KV (yad kvs k y) (stored vs k u):=by
 unfold yad stored;rw[r.any k];by_cases e:(vs.any λa=>decide (a.1=k))=true
 .rw[if_pos e,if_pos e];exact r.repl k ry
 .rw[if_neg e,if_neg e];exact Paired.snoc r ⟨rfl,ry⟩
theorem KV.length{kvs:qi (κ×V)}{vs:qi (κ×qb)}(r:KV kvs vs):kvs.length=vs.length:=Paired.length r
end
def ykj{w:qd}{k:Key}(r:xj (kV k) u):(xn P w).is k u=true:=by
 cases k with
 |inl i=>let⟨t,e⟩:=(show ∃t,u=Value.int i t from r);subst e;exact yb4 P w i t
 |inr x=>let⟨t,e⟩:=(show ∃t,u=Value.str x t from r);subst e;exact ycd P w x t
theorem ya0{w:qd}:∀{ks:qi Key}{us:Ξ},wq (ks.map kV) us->ItemsAre (xn P w) ks us
 |[],_,r=>by rw[List.map_nil]at r;cases r;exact .nil
 |k::ks,_,r=>by
  rw[dC]at r
  cases r with
  |cons h t=>exact .cons (ykj h) (ya0 t)
abbrev KT(H:Hp):qi (qi Key×V)->qi (qi Key×xy×qb)->Prop:=Paired λp q=>p.1=q.1/\H q.2.1=some (.tup (p.1.map kV))/\xj p.2 q.2.2
def KT.val{H:Hp}{kvs:qi (qi Key×V)}{xs:qi (qi Key×xy×qb)}(r:KT H kvs xs)(k:qi Key):yb0 (ξ kvs k) ((atKey xs k).map (·.2)):=by
 induction r with
 |nil=>exact True.intro
 | @cons p q ps qs h t ih =>
  let⟨c,_,d⟩:=h;by_cases e:p.1=k
  .have a:q.1=k:=c.symm.trans e;have b:atKey (q::qs) k=some q.2:=by simp[atKey,List.find?_cons,a]
   rw[x0 e,b];exact d
  .have a:¬q.1=k:=λz=>e (c.trans z);have b:atKey (q::qs) k=atKey qs k:=by simp[atKey,List.find?_cons,a]
   rw[ua e,b];exact ih
def KT.repl{H:Hp}{kvs:qi (qi Key×V)}{xs:qi (qi Key×xy×qb)}(r:KT H kvs xs)(k:qi Key){y:V}(ry:xj y u):
  KT H (kvs.map λkv=>if kv.1=k then (kv.1,y)else kv) (xs.map (putAt k u)):=by
 induction r with
 |nil=>exact .nil
 | @cons p q ps qs h t ih =>
  rw[dC,dC];refine .cons ?_ ih;let⟨a,b,c⟩:=h;unfold putAt;by_cases e:p.1=k
  .rw[if_pos e,if_pos (a.symm.trans e)];exact⟨a,b,ry⟩
  .rw[if_neg e,if_neg (λz=>e (a.trans z))];exact⟨a,b,c⟩
def KT.put{H:Hp}{kvs:qi (qi Key×V)}{xs:qi (qi Key×xy×qb)}(r:KT H kvs xs)(k:qi Key){b:xy}{y:V}(hb:H b=some (.tup (k.map kV)))(ry:xj y u):
  KT H (yad kvs k y) (storedH xs k b u):=by
 have e:(kvs.any λa=>decide (a.1=k))=(atKey xs k).isSome:=by
  rw[j6,(r.val k).isSome_eq,Option.isSome_map]
 unfold yad storedH;rw[e];by_cases q:(atKey xs k).isSome=true
 .rw[if_pos q,if_pos q];exact r.repl k ry
 .rw[if_neg q,if_neg q];exact Paired.snoc r ⟨rfl,hb,ry⟩
def KT.keeps{H H':Hp}{kvs:qi (qi Key×V)}{xs:qi (qi Key×xy×qb)}(r:KT H kvs xs)(ht:∀b ys,H b=some (.tup ys)->H' b=some (.tup ys)):KT H' kvs xs :=
 Paired.mapP r λZ Z z=>⟨z.1,ht _ _ z.2.1,z.2.2⟩
section
variable{w:qd}{H:Hp}{h:qf}
def vbw{u:HO}(ok:HOk P w H h)(e:Rd H a u):xl P w H h a u:=e.ok ok
def yf9{kvs:qi (Key×V)}(ok:HOk P w H h)(e:Rd H a (.dK kvs)):kvs.length<=sizeLine/\(a == sysModules)=false/\∃vs,KV kvs vs/\h.DictOf (xn P w) a vs :=
 show xl P w H h a (.dK kvs)from vbw ok e
def vd6{kvs:qi (Key×V)}(ok:HOk P w H h)(e:H a=some (.dK kvs)):kvs.length<=sizeLine/\(a == sysModules)=false/\∃vs,KV kvs vs/\h.DictOf (xn P w) a vs:=yf9 ok (.inl e)
def ybn{ks:qi Key}(ok:HOk P w H h)(e:H a=some (.tup (ks.map kV))):(tupleKind (xn P w)).is h ks a:=by let⟨_,b,r,o,f,d,n,c⟩:=(show xl P w H h a (.tup (ks.map kV))from ok a _ e);exists o,b.toArray,n,f,d,c,by simpa using ya0 r
def ykh{kvs:qi (qi Key×V)}(ok:HOk P w H h)(e:Rd H a (.dT kvs)):kvs.length<=sizeLine/\(a == sysModules)=false/\
  ∃xs,KT H kvs xs/\h.DictOfH (tupleKind (xn P w)) a xs:=by
 let⟨z,y,xs,r,o,g,k,i,j,f,d,n⟩:=(show xl P w H h a (.dT kvs)from vbw ok e);exists z,y,xs,r,o,g,k,i,j,f,d,λx b=>?_,n
 have c:∀{l:qi (qi Key×V)}{m:qi (qi Key×xy×qb)},KT H l m->∀x∈m,(tupleKind (xn P w)).is h x.1 x.2.1:=by
  intro l m q
  induction q with
  |nil=>intro x b;exact nomatch b
  | @cons p q ps qs hq t ih =>
   intro x b;rcases cS.mp b with e|b
   .subst e;exact ybn ok (by rw[<- hq.1];exact hq.2.1)
   .exact ih x b
 exact c r x b
def vdm{kvs:qi (qi Key×V)}(ok:HOk P w H h)(e:H a=some (.dT kvs)):kvs.length<=sizeLine/\(a == sysModules)=false/\
  ∃xs,KT H kvs xs/\h.DictOfH (tupleKind (xn P w)) a xs:=ykh ok (.inl e)
end
def œ(H:Hp)(a:xy)(y:V)(r:qj V):Prop :=
 (∃kvs k,Rd H a (.dK kvs)/\y=kV k/\r=ξ kvs k)\/∃kvs k b,Rd H a (.dT kvs)/\y=.ref b/\H b=some (.tup (k.map kV))/\r=ξ kvs k
def yko(H:Hp)(a:xy)(y v:V)(H':Hp):Prop :=
 (∃kvs k,H a=some (.dK kvs)/\y=kV k/\kvs.length<sizeLine/\H'=upd H a (.dK (yad kvs k v))) \/
 ∃kvs k b,H a=some (.dT kvs)/\y=.ref b/\H b=some (.tup (k.map kV))/\kvs.length<sizeLine/\H'=upd H a (.dT (yad kvs k v))
theorem œ.k{H:Hp}{kvs:qi (Key×V)}{k:Key}(e:H a=some (.dK kvs)):œ H a (kV k) (ξ kvs k):=.inl ⟨kvs,k,.inl e,rfl,rfl⟩
def œ.t{H:Hp}{b:xy}{kvs:qi (qi Key×V)}{k:qi Key}(e:H a=some (.dT kvs))(eb:H b=some (.tup (k.map kV))):œ H a (.ref b) (ξ kvs k):=.inr ⟨kvs,k,b,.inl e,rfl,eb,rfl⟩
theorem yko.k{H:Hp}{kvs:qi (Key×V)}{k:Key}{v:V}(e:H a=some (.dK kvs))(hl:kvs.length<sizeLine):yko H a (kV k) v (upd H a (.dK (yad kvs k v))):=.inl ⟨kvs,k,e,rfl,hl,rfl⟩
def yko.t{H:Hp}{b:xy}{kvs:qi (qi Key×V)}{k:qi Key}{v:V}(e:H a=some (.dT kvs))(eb:H b=some (.tup (k.map kV)))(hl:kvs.length<sizeLine):
  yko H a (.ref b) v (upd H a (.dT (yad kvs k v))):=.inr ⟨kvs,k,b,e,rfl,eb,hl,rfl⟩
section
variable{σ:St}{H:Hp}{s:qa}{y v:V}{r:qb}{o:qj V}{A:qe}
def Inv.big(I:Inv X pins σ H s):sysModules<s.heap.objs.size:=by have h:mainGlobals<s.heap.objs.size:=(I.mod.glob.keeps I.bk).lt;exact Nat.lt_trans ∅ h
def yhi(hu:A.units+1<cLine)(I:Inv X pins σ H s)(g:œ H a y (some v))(ry:xj y u)(h:∀w' s',Inv X pins σ H s'->xj v w'->Q w' s'):
  wpAny (model X.prog X.w) A (getItem (.ref a) u) Q E s:=by
 rcases g with⟨m,k,e,f,l⟩|⟨m,k,b,e,f,q,l⟩
 .subst f;let⟨z,t,r,d,j⟩:=yf9 I.hok e;let⟨w',n,c⟩:=yb0.some_of (v:=v) (o:=valueAt r k) (by rw[l];exact d.val k);exact wpAny_getItem_of (ykj ry) j.mapOf n (h w' _ (I.tok _) c)
 .subst f;cases (show u=Value.ref b from ry);let⟨z,t,B,d,j⟩:=ykh I.hok e;let⟨w',n,c⟩:=yb0.some_of (v:=v) (o:=(atKey B k).map (·.2)) (by rw[l];exact d.val k);let⟨p,x,i⟩:=Option.map_eq_some_iff.mp n;refine wpAny_getItem_heap (tupleKind_room_in1 hu) (ybn I.hok q) j x ?_;rw[i];exact h w' _ (I.tok _) c
def vgc(hu:A.units+1<cLine)(I:Inv X pins σ H s)(g:œ H a y o)(ry:xj y u)(h:∀s',Inv X pins σ H s'->Q (.bool o.isSome) s'):
  wpAny (model X.prog X.w) A (compareOp .In u (.ref a)) Q E s:=by
 rcases g with⟨i,k,e,d,l⟩|⟨i,k,b,e,d,m,l⟩
 .subst d;let⟨z,f,n,c,j⟩:=yf9 I.hok e;refine wpAny_in_of (ykj ry) f j.mapOf ?_;rw[<- (c.val k).isSome_eq,<- l];exact h _ (I.tok _)
 .subst d;cases (show u=Value.ref b from ry);let⟨z,f,p,c,j⟩:=ykh I.hok e;refine wpAny_in_heap (tupleKind_room_in1 hu) (ybn I.hok m) f j ?_;have q:=(c.val k).isSome_eq;rw[Option.isSome_map]at q;rw[<- q,<- l];exact h _ (I.tok _)
def yqu(hu:A.units+1<cLine)(I:Inv X pins σ H s)(g:œ H a y o)(ry:xj y u)(h:∀s',Inv X pins σ H s'->Q (.bool (!o.isSome)) s'):
  wpAny (model X.prog X.w) A (compareOp .NotIn u (.ref a)) Q E s:=by
 rcases g with⟨i,k,e,d,l⟩|⟨i,k,b,e,d,m,l⟩
 .subst d;let⟨z,f,n,c,j⟩:=yf9 I.hok e;refine wpAny_notIn_of (ykj ry) f j.mapOf ?_;rw[<- (c.val k).isSome_eq,<- l];exact h _ (I.tok _)
 .subst d;cases (show u=Value.ref b from ry);let⟨z,f,p,c,j⟩:=ykh I.hok e;refine wpAny_notIn_heap (tupleKind_room_in1 hu) (ybn I.hok m) f j ?_;have q:=(c.val k).isSome_eq;rw[Option.isSome_map]at q;rw[<- q,<- l];exact h _ (I.tok _)
def yie{t':Nat}{ob:HO}(I:Inv X pins σ H s)(mu:Mut (H a))(hs:Heap.SameBut a s.heap h')(he:∃q,h'.get? a=some q)(new:xl X.prog X.w (upd H a ob) h' a ob):
  Inv X pins σ (upd H a ob) {s with heap:=h',toks:=t'} :=
 I.write (x:=a) (e:=a) mu (.inl rfl) (λb q c z=>(hs.2 b c).trans z) he new
def ywk{w:qd}{H':Hp}{kvs:qi (Key×V)}{vs:qi (Key×qb)}(z:kvs.length<=sizeLine)(hd:(a == sysModules)=false)(rel:KV kvs vs)(dd:h'.DictOf (xn P w) a vs):
  xl P w H' h' a (.dK kvs):=⟨z,hd,vs,rel,dd⟩
def yg6{H':Hp}{Q:Unit->qa->Prop}(hu:A.units+1<cLine)(I:Inv X pins σ H s)(g:yko H a y v H')(ry:xj y u)(rv:xj v r)(h:∀s',Inv X pins σ H' s'->Q ⟨⟩ s'):
  wpAny (model X.prog X.w) A (setItem (.ref a) u r) Q E s:=by
 rcases g with⟨f,k,e,n,l,m⟩|⟨f,k,b,e,n,C,l,m⟩
 .subst n m;let⟨z,o,G,d,p⟩:=vd6 I.hok e;have x:G.length<=sizeLine:=by rw[<- d.length];exact z
  have B:(yad f k v).length<=sizeLine:=by have:=Ċ f k v;omega
  refine wpAny_setItem_pairs (hsz:=x) (ykj ry) p λF i t=>h _ ?_;have N:∃q,F.get? a=some q:=let ⟨q,_,_,j,_⟩:=i;⟨q,j⟩;exact yie I (by rw[e];exact True.intro) t N (ywk B o (d.put k rv) i)
 .subst n m;cases (show u=Value.ref b from ry);let⟨z,o,P,d,p⟩:=vdm I.hok e;have x:P.length<=sizeLine:=by rw[<- Paired.length d];exact z
  have B:(yad f k v).length<=sizeLine:=by have:=Ċ f k v;omega
  refine wpAny_setItem_heap (hsz:=x) (tupleKind_room_in1 hu) (ybn I.hok C) p λF i t=>h _ ?_;let⟨q,L,M,j,O,K,R,_,J⟩:=i;refine yie I (by rw[e];exact True.intro) t ⟨q,j⟩ ⟨B,o,_,(d.put k C rv).keeps λc S D=>?_,q,L,M,j,O,K,R,J⟩
  rw[yp (xw D e (λz=>nomatch z))]
  exact D
end
section
variable{σ:St}{H:Hp}{s:qa}{kvs:qi (Key×V)}{k:Key}{A:qe}
def veb(I:Inv X pins σ H s)(e:Rd H a (.dK kvs))(h:∀t s',Inv X pins σ H s'->Q (.int kvs.length t) s'):wpAny (model X.prog X.w) A (call (.builtin "len") [.ref a]) Q E s:=by let⟨z,c,f,b,d⟩:=yf9 I.hok e;refine call_len_dict c d (by rw[<- b.length];rw[sizeLine_eq]at z;omega) ?_;rw[<- b.length];exact h _ _ (I.tok _)
end
def vfa(i:qg):Prop:=∀ov iv,subscripted i false ov iv=operate [ov,iv] (getItem ov iv)
def yq8{prog:qh}{w:qd}{A:qe}{s:qa}{env:Env}{value slice:qg}{pos:Pos}{T id:String} 
  (hl:typeLookup (.type T) "__getitem__"=pure (some (.builtin id))) (hs:vfa slice)
  (h:wpAny (model prog w) A (eval value env) (λo s₁=>wpAny (model prog w) A (eval slice env) (λi s₂=>s₂.TypeIs o T/\wpAny (model prog w) A (getItem o i) Q E s₂) E s₁) E s):
  wpAny (model prog w) A (eval (.Subscript value slice pos) env) Q E s:=by
 refine Subscript_ (dM h (λo s₁ h₁=>dM h₁ (λi s₂ h₂=>?_) λZ Z x=>x) λZ Z x=>x);let⟨b,h₂⟩:=h₂;unfold subscriptTail;refine cz ?_;rw[getitemInPython_of_ne b.not_modules];refine cz (wpAny_specialOf b hl ?_)
 have a:wpAny (model prog w) A (subscripted slice false o i) (λr s₃=>wpAny (model prog w) A (letTemporaryGo value o r >>=λZ=>pure r) Q E s₃) E s₂:=by
  rw[hs o i];exact wpAny_operating (dM h₂ (λr s₃ h₃=>cz (wpAny_letTemporaryGo (cG h₃))) λZ Z x=>x)
 first
  |exact cG (cz a)
  |exact cz (cG (cz a))
  |exact cz a
def yb5{σ:St}{H:Hp}{s:qa}{y:V}{o:qj V}(I:Inv X pins σ H s)(g:œ H a y o):s.TypeIs (.ref a) "dict":=by
 rcases g with⟨d,k,e,_,_⟩|⟨d,k,b,e,_,_,_⟩
 .obtain⟨_,_,f,_,c⟩:=yf9 I.hok e;exact c.typeIs
 .obtain⟨_,_,h,_,c⟩:=ykh I.hok e;exact c.typeIs
def vav(td ty:TE):TE:=λσ H Q=>td σ H λx H1=>ty σ H1 λy H2=>∃a v,x=.ref a/\œ H2 a y (some v)/\Q v H2
def ve7(ty td:TE):TE:=λσ H Q=>ty σ H λy H1=>td σ H1 λx H2=>∃a o,x=.ref a/\œ H2 a y o/\Q (.bl o.isSome) H2
def yi3(ty td:TE):TE:=λσ H Q=>ty σ H λy H1=>td σ H1 λx H2=>∃a o,x=.ref a/\œ H2 a y o/\Q (.bl (!o.isSome)) H2
def vaf(td ty tv:TE):TS:=λD σ H=>tv σ H λv H1=>td σ H1 λx H2=>ty σ H2 λy H3=>∃a H4,x=.ref a/\yko H3 a y v H4/\D.nx σ H4
section
variable{o i e value:qg}{pos pos' tpos:Pos}{td ty tv:TE}
def ſ(hu:X.A.units+1<cLine)(ho:PE X o td)(hi:PE X i ty)(hs:vfa i):PE X (.Subscript o i pos) (vav td ty):=by refine .mk λb s σ H Q I h=>?_;refine yq8 PySem.F.slot_dict_getitem.lookup hs (thn (ho b s σ H _ I h) λu e ⟨x,r,p,n,q⟩=>thn (hi b e σ r _ p q) λz B h'=>?_);let⟨y,j,d,l,a,v,k,g,f⟩:=h';subst k;obtain rfl:u=Value.ref a:=n;exists yb5 d g,yhi hu d g l λt w m c=>⟨v,j,m,c,f⟩
def yxt(hu:X.A.units+1<cLine)(hi:PE X i ty)(ho:PE X o td):PC X .In i o (ve7 ty td):=by intro b s σ H Q I h;refine thn (hi b s σ H _ I h) λv c ⟨y,r,n,j,q⟩=>thn (ho b c σ r _ n q) λu w h'=>?_;let⟨x,e,p,m,a,l,f,g,d⟩:=h';subst f;obtain rfl:u=Value.ref a:=m;exact vgc hu p g j λt k=>⟨.bl l.isSome,e,k,rfl,d⟩
def ya9(hu:X.A.units+1<cLine)(hi:PE X i ty)(ho:PE X o td):PC X .NotIn i o (yi3 ty td):=by intro b s σ H Q I h;refine thn (hi b s σ H _ I h) λv c ⟨y,r,n,j,q⟩=>thn (ho b c σ r _ n q) λu w h'=>?_;let⟨x,e,p,m,a,l,f,g,d⟩:=h';subst f;obtain rfl:u=Value.ref a:=m;exact yqu hu p g j λt k=>⟨.bl (!l.isSome),e,k,rfl,d⟩
def yct(hu:X.A.units+1<cLine)(ho:PE X o td)(hi:PE X i ty)(hv:PE X value tv)(hs:swapsWith value (some (.Subscript o i pos')) pos.line X.env=pure false):
  PS X (.Assign [.Subscript o i pos'] value pos) (vaf td ty tv):=by refine .mk λb s σ H D I h=>?_;refine wpAny_Assign_Subscript (thn (hv b s σ H _ I h) λr k ⟨v,f,n,B,e⟩=>thn (ho b k σ f _ n e) λu q ⟨x,m,p,C,l⟩=>thn (hi b q σ m _ p l) λJ G h'=>?_) hs;let⟨y,F,w,t,a,j,d,g,z⟩:=h';subst d;obtain rfl:u=Value.ref a:=C;exact yg6 hu w g t B λE c=>⟨σ,j,c,z⟩
end
def yk9{w:qd}{H:Hp}(h:qf)(hb:sysModules<h.objs.size):xl P w H (h.push { cls:=.type "dict",data:=.dict #[]}) h.objs.size (.dK []) :=
 ⟨dg _,eA.mpr (Ne.symm (di hb)),[],.nil,Heap.DictOf.new h⟩
def ykz{w:qd}{H:Hp}(h:qf)(hb:sysModules<h.objs.size):xl P w H (h.push { cls:=.type "dict",data:=.dict #[]}) h.objs.size (.dT []) :=
 ⟨dg _,eA.mpr (Ne.symm (di hb)),[],.nil,_,#[],0,cV _ rfl,⟨rfl,rfl,rfl⟩,rfl,rfl,List.nodup_nil⟩
def yor:TE:=λZ H Q=>∀p,H p=none->Q (.ref p) (upd H p (.dK []))
def ypr:TE:=λZ H Q=>∀p,H p=none->Q (.ref p) (upd H p (.dT []))
section
variable{pos:Pos}
def yd6:PE X (.Dict [] [] pos) yor:=.mk λb s σ H Q I h =>
 wpAny_Dict_empty ⟨.ref s.heap.objs.size,_,I.laid (a:=s.heap.objs.size) (o:=.dK []) (t':=s.toks) (λZ Z q=>cD _ q) (cE _) (yk9 s.heap I.big),rfl,h _ (I.hok.fresh (cE _))⟩
def ymd:PE X (.Dict [] [] pos) ypr:=.mk λb s σ H Q I h =>
 wpAny_Dict_empty ⟨.ref s.heap.objs.size,_,I.laid (a:=s.heap.objs.size) (o:=.dT []) (t':=s.toks) (λZ Z q=>cD _ q) (cE _) (ykz s.heap I.big),rfl,h _ (I.hok.fresh (cE _))⟩
end
structure M1(X:Cx)(o:qg)(m:Str)(apos:Pos)(e:qg)(cpos:Pos):Prop where
 base:attributeBase o m X.env (eval o X.env)=eval o X.env
 few:((backTo cpos (starEach [e] X.env)).all (λx=>!x.1) && (backToKw cpos (keywordEach [] X.env)).all (λx=>x.1.isSome)
  && decide (([e]:qi qg).length+([]:qi Keyword).length+(if ([]:qi Keyword).isEmpty then 0 else 1)<30))=true
 line:(apos.endLine == cpos.line)=true
 trees:backTo cpos (starEach [e] X.env)=[(false,eval e X.env)]
structure M2(X:Cx)(o:qg)(m:Str)(apos:Pos)(e f:qg)(cpos:Pos):Prop where
 base:attributeBase o m X.env (eval o X.env)=eval o X.env
 few:((backTo cpos (starEach [e,f] X.env)).all (λx=>!x.1) && (backToKw cpos (keywordEach [] X.env)).all (λx=>x.1.isSome)
  && decide (([e,f]:qi qg).length+([]:qi Keyword).length+(if ([]:qi Keyword).isEmpty then 0 else 1)<30))=true
 line:(apos.endLine == cpos.line)=true
 trees:backTo cpos (starEach [e,f] X.env)=[(false,eval e X.env),(false,eval f X.env)]
@[irreducible] def QA(X:Cx)(es:qi qg)(t:TA):Prop:=PA X es t
@[irreducible] def QE(X:Cx)(e:qg)(t:TE):Prop:=PE X e t
@[irreducible] def QSs(X:Cx)(st:qi qc)(t:TS):Prop:=PSs X st t
section
variable{e:qg}{es:qi qg}{te:TE}{t:TA}{pos:Pos}{ts us:TS}{vt:qi qc}
def ybu(h:PE X e te):QE X e te:=by unfold QE;exact h
def yv7:QA X [] ykp:=by unfold QA;exact u8
def Æ(ha:QE X e te)(hr:QA X es t)(h:Ž e=true):QA X (e::es) (yke te t):=by unfold QA at hr⊢;unfold QE at ha;exact je ha hr (jc h)
def yvx(h:QA X es t):QE X (.List es pos) (ves t):=by unfold QA at h;exact ybu (vd h)
def vgk(h:QE X e te):PE X e te:=by unfold QE at h;exact h
end
@[irreducible] def QS(X:Cx)(st:qc)(t:TS):Prop:=PS X st t
section
variable{e:qg}{te:TE}{pos:Pos}{ts us:TS}{vt:qi qc}
def yf{R:TS->Prop}(h1:PS X st ts)(h2:∃us,PSs X vt us/\R (vev ts us)):∃t,PSs X (st::vt) t/\R t:=let ⟨_,a,b⟩:=h2;⟨_,yg h1 a,b⟩
end
theorem yee:∀{bs:qi Bool}{us:Ξ},wq (bs.map V.bl) us->us=bs.map Value.bool
 |[],_,.nil=>rfl
 |b::r,_,.cons a t=>by rw[show _=Value.bool b from a,yee t];rfl
def yhz(bs:qi Bool):((List.range bs.length).all λi=>(bs[i]?).getD true)=bs.all id:=by
 rw[Bool.eq_iff_iff,List.all_eq_true,List.all_eq_true]
 constructor
 .intro h b c;let⟨i,a,rfl⟩:=List.getElem_of_mem c;have:=h i (dN.mpr a);rw[cA a]at this;exact this
 .intro h i a;have a:=dN.mp a;rw[cA a];exact h _ (dm a)
def j7(hc:X.calm=true):jo X (.builtin "all") (λxs H Q=>∃p bs,xs=[.ref p]/\SqL X.K H p (List.map V.bl bs)/\Q (.bl (bs.all id)) H):=by
 intro g s σ H xs y Q I r h;let⟨p,bs,rfl,j,q⟩:=h;let⟨u,rfl,w⟩:=ĸ r;cases w;let⟨t,m,o,D⟩:=I.list j;obtain rfl:=yee m;have d:=o.isList;have f:p<s.heap.objs.size:=by let⟨_,e,_⟩:=d;exact cP e
 refine call_all_walk (wpAny_pyIter_list d ?_)
 refine⟨s.heap.objs.size,[s.heap.objs.size,p],[s.heap.objs.size],(bs.map Value.bool).toArray.size,_,_,λi=>(bs[i]?).getD true,rfl,Walks.list (A:=X.A.in1) (show X.A.handled=none from I.ok.hd hc) _ p (di f) (bs.map Value.bool).toArray,
  ⟨⟨_,cV _ rfl,rfl,rfl⟩,d.push _⟩,λi v C B z a c=>?_,λE l k=>?_⟩
 .have a:(bs.map Value.bool)[i]?=some v:=by simpa using a
  rw[cK]at a
  cases e:bs[i]? with
  |none=>rw[e]at a;cases a
  |some b =>
   dsimp only at c;rw[e]at a c;cases a;exact d7 c
 .have e:((List.range (bs.map Value.bool).toArray.size).all λi=>(bs[i]?).getD true)=bs.all id:=by
   rw[cU,bz];exact yhz bs
  rw[e];exists .bl (bs.all id),H,I.kept (t':=l) λb x e=>k b x (λn=>?_) (cD _ e),rfl,q;rw[cR.mp n]at e;exact ei _ (cP e)
set_option tactic.hygienic true in
theorem xq{env:Env}:∀{names:qi (Str×NameKind)}{x:Str}{k:NameKind},
  (names.map λ(n,k)=>if (k == NameKind.free && env.scope.kind == .function && env.kindOf n == some .cell)then (n,NameKind.cell)else (n,k)).lookup x=some k->∃k0,(x,k0)∈names/\(k=k0\/k0=.free)
 |[],_,_,h=>by simp at h
 |(n,k1)::r,x,k,h=>by
  rw[dC]at h;by_cases hx:x=n
  .subst hx;exists k1,.head _,?_;dsimp only at h
   split at h
   .rename_i hc
    simp only[cZ,beq_iff_eq]at hc;exact .inr hc.1.1
   .simp[List.lookup]at h;exact .inl h.symm
  .have:(x == n)=false:=by simpa using hx
   have a:(r.map λ(n,k)=>if (k == NameKind.free && env.scope.kind == .function && env.kindOf n == some .cell)then (n,NameKind.cell)else (n,k)).lookup x=some k:=by
    dsimp only at h
    split at h<;>simpa[List.lookup,this]using h
   let⟨k0,m,q⟩:=xq a;exists k0,.tail _ m,q
noncomputable def ν(ys:Ρ)(env:Env):qi (Str×xy):=ys.map λy=>(y,(env.cells.lookup y).getD 0)
theorem Ź{env:Env}:∀{ys:Ρ}{y:Str}{c:xy},(ν ys env).lookup y=some c->y∈ys/\c=(env.cells.lookup y).getD 0
 |[],_,_,h=>by simp[ν]at h
 |z::r,y,c,h=>by
  by_cases hy:y=z
  .subst hy;simp[ν,List.lookup]at h;exists .head _,h.symm
  .have b:(y == z)=false:=by simpa using hy
   have a:(ν r env).lookup y=some c:=by simpa[ν,List.lookup,b]using h
   let⟨m,e⟩:=Ź a;exists .tail _ m,e
theorem Ö{env:Env}:∀{ys:Ρ}{y:Str},y∈ys->(ν ys env).lookup y=some ((env.cells.lookup y).getD 0)
 |z::r,y,h=>by
  by_cases hy:y=z
  .subst hy;simp[ν,List.lookup]
  .have b:(y == z)=false:=by simpa using hy
   have a:y∈r:=by
    rcases cS.mp h with q|q
    .exact absurd q hy
    .exact q
   have:=Ö (env:=env) a;simpa[ν,List.lookup,b]using this
abbrev Cx.compF(X:Cx)(scope:Scope)(ys:Ρ)(C:xy)(x:Str)(s2:qa)(H2:Hp)(fp:Υ):Cx :=
 {X with N:=x::ys,s₀:=s2,H₀:=H2,env:=compEnvC scope (ν ys X.env) C X.env,outer:=X.stack,ex:=fp,fn:=λZ=>false,pn:=[],xe:=λZ Z=>False}
def ue(J:It)(te:TE)(fr:St)(D:xy)(R:Hp->Prop)(H1:Hp):Prop:=∃W:Nat->Nat->Hp->Prop,(∃m,W 0 m (upd H1 D (.lst [])))/\
 ∀i m H2,W i m H2->(J.stop i H2/\R H2)\/(J.go i H2/\∀x H3,J.yld i H2 x H3->te (some x::fr) H3 λy H4=>∃ys,H4 D=some (.lst ys)/\ys.length<sizeLine/\∃m',m'<m/\W (i+1) m' (upd H4 D (.lst (ys++[y]))))
noncomputable def wx(js:qi Nat)(σ:St):St:=js.map λj=>(σ[j]?).getD none
def yjh(wi:TI)(te:TE)(js:qi Nat):TE:=λσ H Q=>wi σ H λJ H1=>∀D,H1 D=none->ue J te (wx js σ) D (λH2=>Q (.ref D) H2) H1
section
variable{iter elt:qg}{x:Str}{px pos:Pos}{te:TE}{wi:TI}{σ:St}{ys:Ρ}{js:qi Nat}
def yr9{H:Hp}{Q:VK}(h:wi σ H λJ H1=>∀D,H1 D=none->ue J te (wx js σ) D (λH2=>Q (.ref D) H2) H1):yjh wi te js σ H Q:=h
def ļ{K:z0}{xs:Τ}{fr:St}{R:Hp->Prop}{H1:Hp}(Pv:Nat->Hp->Prop)(h0:Pv 0 (upd H1 D (.lst [])))(hl:∀i H,i<=xs.length->Pv i H->SqL K H a xs)
  (hs:∀i x H,xs[i]?=some x->i<xs.length->Pv i H->te (some x::fr) H λy H4=>∃ys,H4 D=some (.lst ys)/\ys.length<sizeLine/\∃m',m'<xs.length-i/\cW xs.length Pv (i+1) m' (upd H4 D (.lst (ys++[y]))))
  (hd:∀H,Pv xs.length H->R H):ue (Itl K a) te fr D R H1:=by
 exists cW xs.length Pv,⟨xs.length,by simp,dg _,h0⟩,?_;rintro i m H ⟨rfl,b,p⟩;have q:=hl i H b p;by_cases hlt:i<xs.length
 .refine .inr ⟨⟨xs,xs[i],q,by simp[hlt]⟩,λx c y=>?_⟩;let⟨e,y⟩:=y;subst e;exact hs i x _ (y xs q) hlt p
 .have e:i=xs.length:=()
  subst e;exact .inl ⟨⟨xs,q,cE _⟩,hd H p⟩
def ja{lo:Int}{n:Nat}{fr:St}{R:Hp->Prop}{H1:Hp}(Pv:Nat->Hp->Prop)(h0:Pv 0 (upd H1 D (.lst [])))
  (hs:∀i H,i<n->Pv i H->te (some (.int (lo+i))::fr) H λy H4=>∃ys,H4 D=some (.lst ys)/\ys.length<sizeLine/\∃m',m'<n-i/\cW n Pv (i+1) m' (upd H4 D (.lst (ys++[y]))))
  (hd:∀H,Pv n H->R H):ue (Itr lo n) te fr D R H1:=by
 exists cW n Pv,⟨n,by simp,dg _,h0⟩,?_;rintro i m H ⟨rfl,a,p⟩;by_cases hlt:i<n
 .refine .inr ⟨hlt,λx b y=>?_⟩;let⟨e,y⟩:=y;subst e y;exact hs i _ hlt p
 .have e:i=n:=()
  subst e;exact .inl ⟨cE _,hd H p⟩
end
end L2
namespace L2
def y7{α:Type}{P:α->Prop}:∀y∈([]:qi α),P y:=λZ h=>nomatch h
def all_cons{α:Type}{P:α->Prop}{y:α}{r:qi α}(h:P y)(t:∀z∈r,P z):∀z∈y::r,P z:=λz a=>by
 rcases cS.mp a with e|a
 .exact e ▸ h
 .exact t z a
end L2
namespace L2
open PySem PySem.Spec PyProof.Rows
section
variable{X:Cx}
theorem ydy:∀{ns:Ο}{us:Ξ},wq (ns.map V.int) us->∃xs:Array (Int×Tok),us.toArray=intItems xs/\xs.toList.map (·.1)=ns
 |[],_,.nil=>⟨#[],by simp[intItems],rfl⟩
 |n::r,_,.cons (l₂:=us) a t=>by
  let⟨d,rfl⟩:=a;let⟨xs,b,c⟩:=ydy t;exists((n,d)::xs.toList).toArray,?_,by simp[c]
  have:us=(intItems xs).toList:=by rw[<- b]
  rw[this];simp[intItems]
def Õ(hc:X.calm=true):jo X (.builtin "sum") (λvs H Q=>∃p ns,vs=[.ref p]/\SqL X.K H p (List.map V.int ns)/\Q (.int ns.sum) H):=by intro a s σ H v n Q I r h;let⟨p,ns,rfl,i,q⟩:=h;let⟨u,rfl,m⟩:=ĸ r;cases m;let⟨d,f,c,t⟩:=I.list i;let⟨g,j,b⟩:=ydy f;have k:s.heap.IsList p (intItems g):=j ▸ c.isList;refine sum_intListG (I.ok.hd hc) k λo e t' l=>?_;rw[preSum_eq,dE (by simp),b];exists .int ns.sum,H,I.kept (t':=e) l,⟨_,rfl⟩,q
end
variable{it:xy}{fp:Υ}{i:Nat}{tn:Nat->qf->Prop}{s2:qa}
section
variable{X:Cx}{e:qg}{t1 t2:TE}
def ys7(t1 t2:TE):TE:=λσ H Q=>t1 σ H Q\/t2 σ H Q
def ġ(h1:PE X e t1)(h2:PE X e t2):PE X e (ys7 t1 t2):=by
 refine .mk λa s σ H Q I h=>?_;rcases h with h|h
 .exact h1 a s σ H Q I h
 .exact h2 a s σ H Q I h
def ð{σ:St}{H:Hp}{Q:VK}(h:t1 σ H Q):ys7 t1 t2 σ H Q:=.inl h
def π{σ:St}{H:Hp}{Q:VK}(h:t2 σ H Q):ys7 t1 t2 σ H Q:=.inr h
end
def ym{H:Hp}{p:xy}{o:HO}{A:Hp->Prop}(hp:H p=none)(h:∀H',yx H H'->H' p=some o->A H'):A (upd H p o):=h _ (y6 hp) ya
def yh{α:Type}{H:Hp}{p:xy}{o:HO}{A:Hp->α->Prop}{Q:α}(hp:H p=none)(h:∀H',yx H H'->H' p=some o->A H' Q):A (upd H p o) Q:=h _ (y6 hp) ya
section
variable{K:z0}{a D:xy}{xs:Τ}{te:TE}{fr:St}{R:Hp->Prop}{H1:Hp}
def ybc(Pv:Nat->Hp->Prop)(h0:Pv 0 (upd H1 D (.lst [])))(hl:∀i H,i<=xs.length->Pv i H->SqT K H a xs)
  (hs:∀i x H,xs[i]?=some x->i<xs.length->Pv i H->te (some x::fr) H λy H4=>∃ys,H4 D=some (.lst ys)/\ys.length<sizeLine/\∃m',m'<xs.length-i/\cW xs.length Pv (i+1) m' (upd H4 D (.lst (ys++[y]))))
  (hd:∀H,Pv xs.length H->R H):ue (Itt K a) te fr D R H1:=by
 exists cW xs.length Pv,⟨xs.length,by simp,dg _,h0⟩,?_;rintro i m H ⟨rfl,b,p⟩;have q:=hl i H b p;by_cases hlt:i<xs.length
 .refine .inr ⟨⟨xs,xs[i],q,by simp[hlt]⟩,λx c y=>?_⟩;let⟨e,y⟩:=y;subst e;exact hs i x _ (y xs q) hlt p
 .have e:i=xs.length:=()
  subst e;exact .inl ⟨⟨xs,q,cE _⟩,hd H p⟩
def yk0(Pv:Nat->Hp->Prop)(h0:Pv 0 (upd H1 D (.lst [])))(hl:∀i H,i<=xs.length->Pv i H->SqT K H a xs)
  (hs:∀i x H,xs[i]?=some x->i<xs.length->Pv i H->te [some x] H λy H4=>∃ys,H4 D=some (.lst ys)/\ys.length<sizeLine/\∃m',m'<xs.length-i/\cW xs.length Pv (i+1) m' (upd H4 D (.lst (ys++[y]))))
  (hd:∀H,Pv xs.length H->R H):yeh (Itt K a) te D R H1:=by
 exists cW xs.length Pv,⟨xs.length,by simp,dg _,h0⟩,?_;rintro i m H ⟨rfl,b,p⟩;have q:=hl i H b p;by_cases hlt:i<xs.length
 .refine .inr ⟨⟨xs,xs[i],q,by simp[hlt]⟩,λx c y=>?_⟩;let⟨e,y⟩:=y;subst e;exact hs i x _ (y xs q) hlt p
 .have e:i=xs.length:=()
  subst e;exact .inl ⟨⟨xs,q,cE _⟩,hd H p⟩
def Mp(H1:Hp)(D:xy)(f:Nat->V)(i:Nat)(H:Hp):Prop:=yx H1 H/\H D=some (.lst ((List.range i).map f))
def Mp.zero{f:Nat->V}(hD:H1 D=none):Mp H1 D f 0 (upd H1 D (.lst [])):=⟨y6 hD,ya⟩
def Mp.step{f:Nat->V}{n:Nat}{H4:Hp}{y:V}(hD:H1 D=none)(hn:n<sizeLine)(hi:i<n)(S:yx H1 H4)(h4:H4 D=some (.lst ((List.range i).map f)))(e:y=f i):
  ∃ys,H4 D=some (.lst ys)/\ys.length<sizeLine/\∃m',m'<n-i/\cW n (Mp H1 D f) (i+1) m' (upd H4 D (.lst (ys++[y]))):=by
 refine ul (n:=n) h4 (by rw[bz,dw];omega) hi ⟨?_,?_⟩
 .intro b o a;rw[yp (yb a hD)];exact S b o a
 .rw[ya,List.range_succ,cM,e];rfl
def Ď{f:Nat->V}{g:V->V}(h:∀i x,xs[i]?=some x->f i=g x):(List.range xs.length).map f=xs.map g:=by
 refine List.ext_getElem? λi=>?_;rw[cK,cK];by_cases hi:i<xs.length
 .rw[dU hi,cA hi];show some (f i)=some (g xs[i]);rw[h i _ (cA hi)]
 .rw[dv (by rw[dw];omega),dv ()];rfl
noncomputable def ofG(g:V->V)(xs:Τ)(i:Nat):V:=((xs[i]?).map g).getD .non
def yet{g:V->V}{x:V}(h:xs[i]?=some x):ofG g xs i=g x:=by unfold ofG;rw[h];rfl
def MpK(H1:Hp)(D:xy)(f:Nat->V)(n i:Nat):VK:=λy H4=>∃ys,H4 D=some (.lst ys)/\ys.length<sizeLine/\∃m',m'<n-i/\cW n (Mp H1 D f) (i+1) m' (upd H4 D (.lst (ys++[y])))
def Mp.done{g:V->V}{x y:V}{H4:Hp}(hD:H1 D=none)(hn:xs.length<sizeLine)(hx:xs[i]?=some x)(S:yx H1 H4)(h4:H4 D=some (.lst ((List.range i).map (ofG g xs))))(e:y=g x):MpK H1 D (ofG g xs) xs.length i y H4:=by
 have a:i<xs.length:=by
  rcases Nat.lt_or_ge i xs.length with q|q
  .exact q
  .rw[dv q]at hx;cases hx
 exact Mp.step hD hn a S h4 (e.trans (yet hx).symm)
def Mp.doneR{f:Nat->V}{n:Nat}{y:V}{H4:Hp}(hD:H1 D=none)(hn:n<sizeLine)(hi:i<n)(S:yx H1 H4)(h4:H4 D=some (.lst ((List.range i).map f)))(e:y=f i):MpK H1 D f n i y H4:=Mp.step hD hn hi S h4 e
def À(g:V->V)(hq:SqL K H1 a xs)(hD:H1 D=none)
  (hs:∀i x H,xs[i]?=some x->yx H1 H->H D=some (.lst ((List.range i).map (ofG g xs)))->te (some x::fr) H (MpK H1 D (ofG g xs) xs.length i))
  (hd:∀H,yx H1 H->H D=some (.lst (xs.map g))->R H):ue (Itl K a) te fr D R H1 :=
 ļ (Mp H1 D (ofG g xs)) (Mp.zero hD) (λZ Z Z p=>p.1.seq hq) (λi x H b c p=>hs i x H b p.1 p.2)
  λH p=>hd H p.1 (by rw[<- Ď (f:=ofG g xs) λi x=>yet];exact p.2)
def ł(g:V->V)(hq:SqT K H1 a xs)(hD:H1 D=none)
  (hs:∀i x H,xs[i]?=some x->yx H1 H->H D=some (.lst ((List.range i).map (ofG g xs)))->te (some x::fr) H (MpK H1 D (ofG g xs) xs.length i))
  (hd:∀H,yx H1 H->H D=some (.lst (xs.map g))->R H):ue (Itt K a) te fr D R H1 :=
 ybc (Mp H1 D (ofG g xs)) (Mp.zero hD) (λZ Z Z p=>p.1.tup hq) (λi x H b c p=>hs i x H b p.1 p.2)
  λH p=>hd H p.1 (by rw[<- Ď (f:=ofG g xs) λi x=>yet];exact p.2)
def yhu(g:V->V)(hq:SqT K H1 a xs)(hD:H1 D=none)
  (hs:∀i x H,xs[i]?=some x->yx H1 H->H D=some (.lst ((List.range i).map (ofG g xs)))->te [some x] H (MpK H1 D (ofG g xs) xs.length i))
  (hd:∀H,yx H1 H->H D=some (.lst (xs.map g))->R H):yeh (Itt K a) te D R H1 :=
 yk0 (Mp H1 D (ofG g xs)) (Mp.zero hD) (λZ Z Z p=>p.1.tup hq) (λi x H b c p=>hs i x H b p.1 p.2)
  λH p=>hd H p.1 (by rw[<- Ď (f:=ofG g xs) λi x=>yet];exact p.2)
def ê{lo:Int}{n:Nat}(f:Nat->V)(hD:H1 D=none)
  (hs:∀i H,i<n->yx H1 H->H D=some (.lst ((List.range i).map f))->te (some (.int (lo+i))::fr) H (MpK H1 D f n i))
  (hd:∀H,yx H1 H->H D=some (.lst ((List.range n).map f))->R H):ue (Itr lo n) te fr D R H1 :=
 ja (Mp H1 D f) (Mp.zero hD) (λi H a p=>hs i H a p.1 p.2) λH p=>hd H p.1 p.2
end
structure Mk0(K:z0)(C:xy):Prop where
 makes:W.makesIn K C=true
 init:W.findIn K (.ref C) "__init__"=some (some (.builtin "object.__init__"))
 kp:W.keepIn K (.ref C)=true
abbrev Cx.compT(X:Cx)(scope:Scope)(ys:Ρ)(C:xy)(xs:Ρ)(s2:qa)(H2:Hp)(fp:Υ):Cx :=
 {X with N:=xs++ys,s₀:=s2,H₀:=H2,env:=compEnvC scope (ν ys X.env) C X.env,outer:=X.stack,ex:=fp,fn:=λZ=>false,pn:=[],xe:=λZ Z=>False}
variable{X:Cx}
def Ç(J:It)(g:TG)(te:TE)(n:Nat)(fr:St)(D:xy)(R:Hp->Prop)(H1:Hp):Prop:=∃W:Nat->Nat->Hp->Prop,(∃m,W 0 m (upd H1 D (.lst [])))/\
 ∀i m H2,W i m H2->(J.stop i H2/\R H2)\/(J.go i H2/\∀x H3 pre,J.yld i H2 x H3->List.length pre=n->g x (pre++fr) H3 λσ' H'=>(∃pre',List.length pre'=n/\σ'=pre'++fr)/\te σ' H' λy H4=>∃ys,H4 D=some (.lst ys)/\ys.length<sizeLine/\∃m',m'<m/\W (i+1) m' (upd H4 D (.lst (ys++[y]))))
def yj4(wi:TI)(g:TG)(te:TE)(n:Nat)(js:qi Nat):TE:=λσ H Q=>wi σ H λJ H1=>∀D,H1 D=none->Ç J g te n (wx js σ) D (λH2=>Q (.ref D) H2) H1
def PTs(X:Cx)(ifs:qi qg)(t:TT):Prop:=∀(pins:Θ)(s:qa)(σ:St)(H:Hp)(Q:Bool->Hp->Prop),Inv X pins σ H s->t σ H Q ->
 wpAny (model X.prog X.w) X.A (forIn ifs true λc r=>if r=true then do let ok <- isTrue c X.env (eval c X.env);pure (ForInStep.yield ok)else pure (ForInStep.yield r)) (TP X pins σ Q) X.xe s
def vet:TT:=λZ H Q=>Q true H
def yi4:PTs X [] vet:=λZ Z σ H Z I h=>cG ⟨H,I,h⟩
def yii(J:It)(g:TG)(tt:TT)(te:TE)(n:Nat)(fr:St)(D:xy)(R:Hp->Prop)(H1:Hp):Prop:=∃W:Nat->Nat->Hp->Prop,(∃m,W 0 m (upd H1 D (.lst [])))/\
 ∀i m H2,W i m H2->(J.stop i H2/\R H2)\/(J.go i H2/\∀x H3 pre,J.yld i H2 x H3->List.length pre=n->g x (pre++fr) H3 λσ' H'=>(∃pre',List.length pre'=n/\σ'=pre'++fr)/\tt σ' H' λb H4=>if b=true then te σ' H4 (λy H5=>∃ys,H5 D=some (.lst ys)/\ys.length<sizeLine/\∃m',m'<m/\W (i+1) m' (upd H5 D (.lst (ys++[y]))))else ∃m',m'<m/\W (i+1) m' H4)
section
variable{iter elt tg:qg}{xs:Ρ}{g:TG}{pos:Pos}{scope:Scope}{te:TE}{wi:TI}{ifs:qi qg}{tt:TT}{pins:Θ}{σ:St}{ys:Ρ}{js:qi Nat}
def yfo{H2:Hp}{J:It}(hc:X.calm=true)
  (ht:∀(C:xy)(s2:qa)(H2:Hp)(fp:Υ),PTs (X.compT scope ys C xs s2 H2 fp) ifs tt) (he:∀(C:xy)(s2:qa)(H2:Hp)(fp:Υ),PE (X.compT scope ys C xs s2 H2 fp) elt te)
  (hgt:∀(C:xy)(s2:qa)(H2:Hp)(fp:Υ),PG (X.compT scope ys C xs s2 H2 fp) tg g)
  (hcell:∀y∈scope.names,y.2≠.cell) (hkind:scope.kind=.function)
  (hfr:∀y∈scope.names,y.2=.free->y.1∈ys) (hyc:∀y∈ys,X.env.kindOf y=some .cell) (hrel:∀y∈ys,(relabel scope X.env).names.lookup y=some .cell) (hjs:js.map (λj=>X.N[j]?)=ys.map some)
  (I2:Inv X pins σ H2 s2) (T:yge X.prog X.w X.K tg J fp it tn) (st2:tn 0 s2.heap) (f2:∀b∈fp,Ĺ X pins H2 b)
  {R:xy->Hp->Prop} (h:∀D,H2 D=none->yii J g tt te xs.length (wx js σ) D (R D) H2) {RR:qb->xy->Result->qa->Prop} {E:Δ}
  (hR:∀(D C:xy)(H':Hp)(s':qa)(m:Ε),Ĺ X pins H' C->s'.heap.Ns C m->Inv X pins σ H' s'->R D H'->RR (.ref D) C (.ok .next) s'):
  wpAny (model X.prog X.w) X.A (newList []) (λacc s₃=>wpAny (model X.prog X.w) X.A (newFunctionEnv scope X.env.globals (ν ys X.env) [] X.env.qual none .none (some X.env)) (λcenv s₄ =>
   codeAny (model X.prog X.w) X.A (.compStart (.ListComp elt [⟨tg,iter,ifs,0⟩] scope pos) 0 (.ref it) acc {cenv with scope:=relabel scope X.env}) (RR acc cenv.locals) s₄) E s₃) E s2:=by
 have k:∀y c,(ν ys X.env).lookup y=some c->X.env.cells.lookup y=some c:=λy c e=>by
  let⟨m,rfl⟩:=Ź e;let⟨c',q⟩:=I2.ok.has y (.inl (hyc y m));rw[q];rfl
 refine wpAny_newObj_type (wpAny_newFunctionEnv hcell (by intro y hy;simp at hy) (λh₁ hns₁ hsb₁=>?_) hkind);dsimp only at hns₁ hsb₁⊢;generalize Y:s2.heap.push { cls:=.type "list",dict:=none,data:=.seq ([]:Ξ).toArray}=G at hns₁ hsb₁⊢;have hC:G.objs.size=s2.heap.objs.size+1:=by rw[<- Y,Heap.size_push]
 have a5:s2.heap.objs.size≠G.objs.size:=by rw[hC];exact di (eF _)
 have M:s2.heap.objs.size<=G.objs.size:=by rw[hC];exact Nat.le_succ _
 have f:∀b,b<s2.heap.objs.size->b≠G.objs.size/\b≠s2.heap.objs.size:=λb a=>⟨by rw[hC];exact di (Nat.lt_succ_of_lt a),di a⟩;have F:∀b o,s2.heap.get? b=some o->h₁.get? b=some o:=λb o e=>hsb₁.extBut b o (f b (cP e)).1 (cD _ (Y ▸ cD _ e));have a6:h₁.get? s2.heap.objs.size=some { cls:=.type "list",data:=.seq ([]:Ξ).toArray}:=hsb₁.extBut _ _ a5 (cD _ (Y ▸ cV _ rfl));have U:∀b∈fp,b<s2.heap.objs.size:=λb a=>let ⟨_,e,_⟩:=T.obj 0 _ st2 b a;cP e;have a7:∀b∈fp,b∉frs X.stack:=λb a z=>(cS.mp (I2.stkSub b z)).elim (f2 b a).2.1 (f2 b a).2.2.1;have nC:H2 G.objs.size=none:=I2.hok.fresh M;have nD:H2 s2.heap.objs.size=none:=I2.hok.fresh (cE _)
 have B:∀y c,(ν ys X.env).lookup y=some c->∃v o,s2.heap.get? c=some o/\o.data=.cell v:=λy c e=>by
  let⟨v,o,q1,q2⟩:=I2.cell y c (k y c e);exact⟨v,o,q1,q2⟩
 have a8:(X.compT scope ys G.objs.size xs s2 H2 fp).Ok:=by
  exists I2.ok.mod,hkind,I2.ok.glob,I2.ok.blt,M,λy z c e Z=>I2.ok.inj y z c (k y c e) (k z c Z),λy e=>?_,λy c z e=>(by cases z),I2.ok.hd,I2.ok.frames,.inl rfl,λb a=>⟨(f b (U b a)).1,λy c e=>(f2 b a).2.2.2.2.1 y c (k y c e)⟩,I2.bs,?_,λb o e a=>?_,λb a=>a7 b a,I2.stack,I2.stkFree
  .have Z:(relabel scope X.env).names.lookup y=some .cell\/(relabel scope X.env).names.lookup y=some .free:=e
   have ab:y∈ys:=by
    rcases Z with Z|Z
    .obtain⟨k0,m,q⟩:=xq Z;rcases q with q|q
     .exact absurd q.symm (hcell _ m)
     .exact hfr _ m q
    .obtain⟨k0,m,q⟩:=xq Z;rcases q with q|q
     .exact hfr _ m q.symm
     .exact hfr _ m q
   exists _,Ö ab
  .exact dB I2.ok.bsz I2.sz
  .rcases (f2 b a).2.2.2.1 with z|z
   .exact I2.ok.noex b o e z
   .exact absurd (dh (cP (I2.ok.bs b o e).1) z) (ei _)
 have a2:(wx js σ).length=ys.length:=by
  have:=congrArg List.length hjs;simpa[wx]using this
 have I3:∀tk,Inv (X.compT scope ys G.objs.size xs s2 H2 fp) [] (List.replicate xs.length none++wx js σ) (upd H2 s2.heap.objs.size (.lst [])) {s2 with heap:=h₁,toks:=tk}:=λtk =>
  ⟨a8,rfl,I2.bare,Un.laid F (cE _) nD,⟨_,hns₁,λi y v e1 P e3=>by
    by_cases hi0:i<xs.length
    .rw[dS (by simpa using hi0),List.getElem?_replicate,if_pos hi0]at P;cases P
    .obtain⟨i,rfl⟩:∃i',i=xs.length+i':=⟨i-xs.length,()⟩;have e1:ys[i]?=some y:=by rw[dJ ()]at e1;simpa using e1
     have P:(wx js σ)[i]?=some (some v):=by rw[dJ (by simp)]at P;simpa using P
     have hy:y∈ys:=cN e1;have S:=congrArg (λl=>l[i]?) hjs;simp only[cK,e1,d8]at S
     cases q:js[i]? with
     |none=>rw[q]at S;cases S
     |some j =>
      rw[q]at S;have S:X.N[j]?=some y:=by simpa using S
      have es:σ[j]?=some (some v):=by
       simp only[wx,cK,q,d8,Option.some.injEq]at P
       cases r:σ[j]? with
       |none=>rw[r]at P;cases P
       |some w'=>rw[r]at P;rw[show w'=some v from P]
      let⟨m0,_,ac⟩:=I2.loc;let⟨u,ru,lk⟩:=ac j y v S es (.inr (.inl (hyc y hy)));exists u,ru,.inr ⟨.inl (hrel y hy),?_⟩;rcases lk with⟨k1,_⟩|⟨_,c,ec,o,ho,hd⟩
      .rw[hyc y hy]at k1;cases k1
      .exists c,?_,o,F c o ho,hd;show (ν ys X.env).lookup y=some c;rw[Ö hy,ec]
       rfl⟩,λy c e=>(by
    let⟨v,o,q1,q2⟩:=B y c e
    exact⟨v,o,F c o q1,q2⟩),(by show upd H2 s2.heap.objs.size _ G.objs.size=none;rw[yp a5.symm];exact nC),λy c e=>(by
    let⟨v,o,q1,q2⟩:=B y c e;show upd H2 s2.heap.objs.size _ c=none;rw[yp (f c (cP q1)).2]
    exact I2.freeC y c (k y c e)),λp hp=>(by simp at hp),
   I2.hok.laid F (cE _) ⟨dg _,[],_,.nil,a6⟩,by show (List.replicate xs.length none++wx js σ).length=(xs++ys).length;simp[a2]⟩
 have O:∀{H':Hp},(∀b∈fp,H' b=none)->∀b∈fp,Ĺ (X.compT scope ys G.objs.size xs s2 H2 fp) [] H' b:=λhn b a=>⟨hn b a,(f b (U b a)).1,a7 b a,.inl a,λy c e=>(f2 b a).2.2.2.2.1 y c (k y c e),λp hp=>(by simp at hp)⟩
 have Q:∀tk,codeAny (model X.prog X.w) X.A (.compLoop (.ListComp elt [⟨tg,iter,ifs,0⟩] scope pos) 0 (.ref it) (.ref s2.heap.objs.size) (compEnvC scope (ν ys X.env) G.objs.size X.env)) (RR (.ref s2.heap.objs.size) G.objs.size) {s2 with heap:=h₁,toks:=tk}:=by
  intro tk;let⟨W,⟨m0,w0⟩,a3⟩:=h s2.heap.objs.size nD;refine codeAny_loop rfl (λn s'=>∃i v H',List.length v=xs.length/\Inv (X.compT scope ys G.objs.size xs s2 H2 fp) [] (v++wx js σ) H' s'/\tn i s'.heap/\(∀b∈fp,H' b=none)/\W i n H') (λn s' hI=>?_) m0
   ⟨0,List.replicate xs.length none,_,by simp,I3 tk,T.keep 0 _ _ st2 (λb a o e=>F b o e),λb a=>(by rw[yp (f b (U b a)).2];exact(f2 b a).1),w0⟩
  let⟨i,v,H',hv,I,st,fr,w⟩:=hI;show wpAny _ _ ((compTurn (.ListComp elt [⟨tg,iter,ifs,0⟩] scope pos) 0 (.ref it) (.ref s2.heap.objs.size) (compEnvC scope (ν ys X.env) G.objs.size X.env)).onRaise (λx=>do noteFrame x (compEnvC scope (ν ys X.env) G.objs.size X.env);theTreesLotGoes x)) _ _ s';refine wpAny_noted ?_;rw[compTurn_list];refine cz (wpAny_standAt (cz ?_));rcases a3 i n H' w with⟨a1,q⟩|⟨go,a0⟩
  .refine thn (T.done (X.compT scope ys G.objs.size xs s2 H2 fp) rfl rfl rfl hc i [] s' (v++wx js σ) H' _ I (O fr) st a1) λr s4 ⟨hr,I4⟩=>?_;subst hr;refine cG ?_;let⟨m,hn,_⟩:=I4.loc;exact hR _ _ H' s4 m (I2.fpOk M I4.free) hn (I2.call' (ch:=fp) I4.os I4.base I4.hok I4.bare λb a=>⟨(f2 b a).2.2.2.1,(f2 b a).2.1,(f2 b a).2.2.2.2.1,(f2 b a).2.2.2.2.2⟩) q
  .refine thn (T.item (X.compT scope ys G.objs.size xs s2 H2 fp) rfl rfl rfl hc i [] s' (v++wx js σ) H' _ I (O fr) st go) λr s4 ⟨u,hr,h4⟩=>?_;subst hr;refine cz (thn h4 λN s5 ⟨y,H5,I5,r5,y5,L,aa⟩=>cz ?_);have a9:=I5.pinned (O aa) (T.obj _ _ L);refine ys4 (hgt _ _ _ _ _ s5 (v++wx js σ) H5 y u _ a9 r5 (a0 y H5 v y5 hv)) λN s6 ⟨σ',H6,I6,⟨t,a4,ep⟩,q6⟩=>?_;subst ep;refine cz (ys4 (ht _ _ _ _ _ s6 (t++wx js σ) H6 _ I6 q6) λb s7 ⟨H7,I7,q7⟩=>?_)
   cases b with
   |false =>
    let⟨m',hm,w'⟩:=q7
    have H:∀b∈fp,∀o,s5.heap.get? b=some o->s7.heap.get? b=some o/\H7 b=none:=λb a o e =>
     ⟨(I7.pin (b,o) (cO _ (cO _ (xc a e)))).1,(I7.pin (b,o) (cO _ (cO _ (xc a e)))).2.1⟩
    refine cG ⟨rfl,m',hm,i+1,t,_,a4,I7.unpinned,T.keep _ _ _ L λb a o e=>(H b a o e).1,λb a=>?_,w'⟩;let⟨o,e,d⟩:=T.obj _ _ L b a;exact(H b a o e).2
   |true =>
    refine cz (cz (ys4 (he _ _ _ _ _ s7 (t++wx js σ) H7 _ I7 q7) λu2 s7 ⟨y2,H7,I7,r7,zs,hD,hl,m',hm,w'⟩=>cz ?_));refine ys4 (w9 _ s7 (t++wx js σ) H7 (.ref s2.heap.objs.size) [y2] (.ref s2.heap.objs.size) [u2] (λN H8=>H8=upd H7 s2.heap.objs.size (.lst (zs++[y2]))) I7 rfl (.cons r7 .nil) ⟨_,zs,y2,rfl,rfl,hD,hl,rfl⟩) λN s8 h'=>?_;let⟨_,H8,I8,_,e8⟩:=h';subst e8
    have H:∀b∈fp,∀o,s5.heap.get? b=some o->s8.heap.get? b=some o/\upd H7 s2.heap.objs.size (HO.lst (zs++[y2])) b=none:=λb a o e =>
     ⟨(I8.pin (b,o) (cO _ (cO _ (xc a e)))).1,(I8.pin (b,o) (cO _ (cO _ (xc a e)))).2.1⟩
    refine cG (cG ⟨rfl,m',hm,i+1,t,_,a4,I8.unpinned,T.keep _ _ _ L λb a o e=>(H b a o e).1,λb a=>?_,w'⟩);let⟨o,e,d⟩:=T.obj _ _ L b a;exact(H b a o e).2
 exact codeAny_compStart_list (Q _) (T.self X.A 0 _ _ _ (T.keep 0 _ _ st2 (λb a o e=>F b o e)) (Q _))
def à{H2:Hp}{J:It}(hc:X.calm=true)
  (he:∀(C:xy)(s2:qa)(H2:Hp)(fp:Υ),PE (X.compT scope ys C xs s2 H2 fp) elt te)
  (hgt:∀(C:xy)(s2:qa)(H2:Hp)(fp:Υ),PG (X.compT scope ys C xs s2 H2 fp) tg g)
  (hcell:∀y∈scope.names,y.2≠.cell) (hkind:scope.kind=.function)
  (hfr:∀y∈scope.names,y.2=.free->y.1∈ys) (hyc:∀y∈ys,X.env.kindOf y=some .cell) (hrel:∀y∈ys,(relabel scope X.env).names.lookup y=some .cell) (hjs:js.map (λj=>X.N[j]?)=ys.map some)
  (I2:Inv X pins σ H2 s2) (T:yge X.prog X.w X.K tg J fp it tn) (st2:tn 0 s2.heap) (f2:∀b∈fp,Ĺ X pins H2 b)
  {R:xy->Hp->Prop} (h:∀D,H2 D=none->Ç J g te xs.length (wx js σ) D (R D) H2) {RR:qb->xy->Result->qa->Prop} {E:Δ}
  (hR:∀(D C:xy)(H':Hp)(s':qa)(m:Ε),Ĺ X pins H' C->s'.heap.Ns C m->Inv X pins σ H' s'->R D H'->RR (.ref D) C (.ok .next) s'):
  wpAny (model X.prog X.w) X.A (newList []) (λacc s₃=>wpAny (model X.prog X.w) X.A (newFunctionEnv scope X.env.globals (ν ys X.env) [] X.env.qual none .none (some X.env)) (λcenv s₄ =>
   codeAny (model X.prog X.w) X.A (.compStart (.ListComp elt [⟨tg,iter,[],0⟩] scope pos) 0 (.ref it) acc {cenv with scope:=relabel scope X.env}) (RR acc cenv.locals) s₄) E s₃) E s2 :=
 yfo (tt:=vet) hc (λZ Z Z Z=>yi4) he hgt hcell hkind hfr hyc hrel hjs I2 T st2 f2 (λD k=>by
  let⟨W,l,a⟩:=h D k;exists W,l,λi m H w=>(a i m H w).imp id λ⟨n,c⟩=>⟨n,λx f d y e=>?_⟩;exact c x f d y e) hR
def ydv(hc:X.calm=true)(hi:PI X tg iter wi)(he:∀(C:xy)(s2:qa)(H2:Hp)(fp:Υ),PE (X.compT scope ys C xs s2 H2 fp) elt te)(hjs:js.map (λj=>X.N[j]?)=ys.map some)
  (hgt:∀(C:xy)(s2:qa)(H2:Hp)(fp:Υ),PG (X.compT scope ys C xs s2 H2 fp) tg g)
  (hclos:closureFor scope X.env=pure (ν ys X.env)) (hyc:∀y∈ys,X.env.kindOf y=some .cell) (hrel:∀y∈ys,(relabel scope X.env).names.lookup y=some .cell)
  (hfr:autoParam (∀y∈scope.names,y.2=.free->y.1∈ys) aG._auto_1) (hcell:autoParam (∀y∈scope.names,y.2≠.cell) aG._auto_1) (hkind:autoParam (scope.kind=.function) aD._auto_1)
  (hnames:autoParam (∀y∈scope.names,y.2=.local->scope.names.lookup y.1=some .local) aG._auto_1) (hs:autoParam (∀x,foldedSetIterable iter X.env x=pure x) aC._auto_1):
  PE X (.ListComp elt [⟨tg,iter,[],0⟩] scope pos) (yj4 wi g te xs.length js):=by refine .mk λa s σ H Q I h=>?_;rw[eval_ListComp];refine wpAny_comprehension_free (use:=none) rfl hs hclos hkind hnames (thn (hi a s σ H _ I h) λv E k=>thn k λt s2 n=>?_);let⟨K,fp,G,J,H2,e,r,T,c,z,h⟩:=n;subst e;refine à (R:=λD d=>Q (.ref D) d) (RR:=compPost (model X.prog X.w) X.A X.xe none (EP X a σ Q)) hc he hgt hcell hkind hfr hyc hrel hjs r T c z h ?_;intro D C d p m f l i q;exists m,l,λF u=>⟨.ref D,d,?_,rfl,q⟩;exact i.turned (t':=p.toks) (λb o B e=>u.extBut b o B e) f.1 f.2.1 f.2.2.2.1 f.2.2.2.2.1 f.2.2.2.2.2
def yse{H:Hp}{Q:VK}{n:Nat}(h:wi σ H λJ H1=>∀D,H1 D=none->Ç J g te n (wx js σ) D (λH2=>Q (.ref D) H2) H1):yj4 wi g te n js σ H Q:=h
end
section
variable{iter elt:qg}{x:Str}{px pos:Pos}{scope:Scope}{te:TE}{wi:TI}{pins:Θ}{σ:St}{ys:Ρ}{js:qi Nat}
def Ŵ{pre:qi (qj V)}{n:Nat}(h:List.length pre=n+1):∃v t,pre=v::t/\List.length t=n:=by
 cases pre with
 |nil=>cases h
 |cons v t=>exists v,t,rfl,Nat.succ.inj h
def yop{J:It}{fr:St}{D:xy}{R:Hp->Prop}{H1:Hp}(h:ue J te fr D R H1):Ç J (xb 0) te 1 fr D R H1:=by let⟨W,e,k⟩:=h;exists W,e,λi m c w=>(k i m c w).imp id λ⟨g,y⟩=>⟨g,λx b j f a=>?_⟩;let⟨z,t,rfl,d⟩:=Ŵ a;obtain rfl:=List.length_eq_zero_iff.mp d;exists⟨[some x],rfl,rfl⟩,y x b f
def Ļ{H2:Hp}{J:It}(hc:X.calm=true)
  (he:∀(C:xy)(s2:qa)(H2:Hp)(fp:Υ),PE (X.compF scope ys C x s2 H2 fp) elt te)
  (hcell:∀y∈scope.names,y.2≠.cell) (hkind:scope.kind=.function) (hx:scope.names.lookup x=some .local) (hnd:(x::ys).Nodup)
  (hfr:∀y∈scope.names,y.2=.free->y.1∈ys) (hyc:∀y∈ys,X.env.kindOf y=some .cell) (hrel:∀y∈ys,(relabel scope X.env).names.lookup y=some .cell) (hjs:js.map (λj=>X.N[j]?)=ys.map some)
  (I2:Inv X pins σ H2 s2) (T:yge X.prog X.w X.K (.Name x px) J fp it tn) (st2:tn 0 s2.heap) (f2:∀b∈fp,Ĺ X pins H2 b)
  {R:xy->Hp->Prop} (h:∀D,H2 D=none->ue J te (wx js σ) D (R D) H2) {RR:qb->xy->Result->qa->Prop} {E:Δ}
  (hR:∀(D C:xy)(H':Hp)(s':qa)(m:Ε),Ĺ X pins H' C->s'.heap.Ns C m->Inv X pins σ H' s'->R D H'->RR (.ref D) C (.ok .next) s'):
  wpAny (model X.prog X.w) X.A (newList []) (λacc s₃=>wpAny (model X.prog X.w) X.A (newFunctionEnv scope X.env.globals (ν ys X.env) [] X.env.qual none .none (some X.env)) (λcenv s₄ =>
   codeAny (model X.prog X.w) X.A (.compStart (.ListComp elt [⟨.Name x px,iter,[],0⟩] scope pos) 0 (.ref it) acc {cenv with scope:=relabel scope X.env}) (RR acc cenv.locals) s₄) E s₃) E s2 :=
 à (tg:=.Name x px) (xs:=[x]) (g:=xb 0) hc he (λC s2 H2 fp=>wj (i:=0) hnd rfl (Or.inl (lookup_relabel_local hx)) (Or.inr (lookup_relabel_local hx))) hcell hkind hfr hyc hrel hjs I2 T st2 f2 (λD a=>yop (h D a)) hR
def wy(hc:X.calm=true)(hi:PI X (.Name x px) iter wi)(he:∀(C:xy)(s2:qa)(H2:Hp)(fp:Υ),PE (X.compF scope ys C x s2 H2 fp) elt te)(hjs:js.map (λj=>X.N[j]?)=ys.map some)
  (hclos:closureFor scope X.env=pure (ν ys X.env)) (hnd:autoParam ((x::ys).Nodup) aB._auto_1) (hyc:∀y∈ys,X.env.kindOf y=some .cell) (hrel:∀y∈ys,(relabel scope X.env).names.lookup y=some .cell)
  (hfr:autoParam (∀y∈scope.names,y.2=.free->y.1∈ys) aG._auto_1) (hcell:autoParam (∀y∈scope.names,y.2≠.cell) aG._auto_1) (hkind:autoParam (scope.kind=.function) aD._auto_1)
  (hnames:autoParam (∀y∈scope.names,y.2=.local->scope.names.lookup y.1=some .local) aG._auto_1) (hx:autoParam (scope.names.lookup x=some .local) aD._auto_1) (hs:autoParam (∀x,foldedSetIterable iter X.env x=pure x) aC._auto_1):
  PE X (.ListComp elt [⟨.Name x px,iter,[],0⟩] scope pos) (yjh wi te js):=by refine .mk λa s σ H Q I h=>?_;rw[eval_ListComp];refine wpAny_comprehension_free (use:=none) rfl hs hclos hkind hnames (thn (hi a s σ H _ I h) λv B i=>thn i λr s2 l=>?_);let⟨G,fp,F,J,H2,e,p,T,c,u,h⟩:=l;subst e;refine Ļ (R:=λD d=>Q (.ref D) d) (RR:=compPost (model X.prog X.w) X.A X.xe none (EP X a σ Q)) hc he hcell hkind hx hnd hfr hyc hrel hjs p T c u h ?_;intro D C d n m f k g q;exists m,k,λE t=>⟨.ref D,d,?_,rfl,q⟩;exact g.turned (t':=n.toks) (λb o z e=>t.extBut b o z e) f.1 f.2.1 f.2.2.2.1 f.2.2.2.2.1 f.2.2.2.2.2
def Ŷ{y:Str}{py spos:Pos}(hN:X.N.Nodup)(hy:X.N[i]?=some y)(hl:X.env.scope.names.lookup y=some .local)(hc:X.calm=true)(hi:PI X (.Name x px) iter wi)
  (he:∀(C:xy)(s2:qa)(H2:Hp)(fp:Υ),PE (X.compF scope ys C x s2 H2 fp) elt te) (hjs:js.map (λj=>X.N[j]?)=ys.map some)
  (hclos:closureFor scope X.env=pure (ν ys X.env)) (hyc:∀y∈ys,X.env.kindOf y=some .cell) (hrel:∀y∈ys,(relabel scope X.env).names.lookup y=some .cell)
  (hsw:autoParam (swapsWith (.ListComp elt [⟨.Name x px,iter,[],0⟩] scope pos) (some (.Name y py)) spos.line X.env=pure true) aD._auto_1) (hnd:autoParam ((x::ys).Nodup) aB._auto_1)
  (hfr:autoParam (∀y∈scope.names,y.2=.free->y.1∈ys) aG._auto_1) (hcell:autoParam (∀y∈scope.names,y.2≠.cell) aG._auto_1) (hkind:autoParam (scope.kind=.function) aD._auto_1)
  (hnames:autoParam (∀y∈scope.names,y.2=.local->scope.names.lookup y.1=some .local) aG._auto_1) (hx:autoParam (scope.names.lookup x=some .local) aD._auto_1) (hs:autoParam (∀x,foldedSetIterable iter X.env x=pure x) aC._auto_1):
  PS X (.Assign [.Name y py] (.ListComp elt [⟨.Name x px,iter,[],0⟩] scope pos) spos) (ytd (yjh wi te js) (xb i)):=by
 refine .mk λa s σ H g I h=>?_;rw[exec_Assign_Name_used _ _ _ _ hsw];refine cz (wpAny_standAt (cz ?_));show wpAny _ X.A (do let _ <- comprehension (.ListComp elt [⟨.Name x px,iter,[],0⟩] scope pos) scope X.env _ (newList []) false (eval iter X.env) (some (assign (.Name y py) X.env))) _ _ s;refine cz (dM (wpAny_comprehension_free (use:=some (assign (.Name y py) X.env)) (Q:=λZ d=>SP X a g .next d) rfl hs hclos hkind hnames (thn (hi a s σ H _ I h) λv O u=>thn u λE s2 K=>?_)) (λZ d B=>cG (cG B)) λZ Z e=>e);let⟨S,fp,P,J,H2,e,G,T,p,L,h⟩:=K;subst e;refine Ļ (R:=λD k=>xb i (.ref D) σ k g.nx) (RR:=compPost (model X.prog X.w) X.A X.xe (some (assign (.Name y py) X.env)) (λZ d=>SP X a g .next d)) hc he hcell hkind hx hnd hfr hyc hrel hjs G T p L h ?_;intro D C k d m f M F q;refine wpAny_assign_Name (Ì (v:=V.ref D) F hN hy (Or.inl hl) rfl (λr l n=>?_) (Or.inr hl));exists m,?_,λU t=>⟨_,k,?_,q⟩
 .obtain⟨b,t,c⟩:=n;refine M.sameBut t λz=>?_;rcases c with c|c
  .exact f.2.1 (z.trans c)
  .exact f.2.2.2.2.1 y b c z.symm
 .exact l.turned (t':=r.toks) (λb o c e=>t.extBut b o c e) f.1 f.2.1 f.2.2.2.1 f.2.2.2.2.1 f.2.2.2.2.2
end
end L2
namespace L2
open PySem PySem.Spec PyProof.Rows
section
variable{prog:qh}{w:qd}{A:qe}{E:Δ}{s:qa}
def Á{it l:xy}{i:Nat}{items}{x:qb}{Q:Δ}(hit:s.heap.IsTupleIter it l i)(hl:s.heap.IsTuple l items)(hx:items[i]?=some x)
  (hQ:∀h',h'.IsTupleIter it l (i+1)->Heap.SameBut it s.heap h'->Q x {s with heap:=h'}):wpAny (model prog w) A (Builtin.SmallTypes.nextOf (.ref it)) Q E s:=by let⟨h,b,c,a⟩:=id hit;let⟨f,d,_,g,e⟩:=hl;unfold Builtin.SmallTypes.nextOf;refine cz (wpAny_callSpecial?_slot (name:=Str.ofString "__next__") hit.typeIs slot_tupleiter_next (wpAny_call_entry slot_tupleiter_next hit.typeIs entry_tupleiter_next ?_ (args_tupleiter_next _)));show wpAny _ _ (field (.ref it) 0 >>=_) _ _ s;refine cz (dG b a (x:=.ref l) rfl ?_);show wpAny _ _ (if (Value.ref l == Value.none)=true then _ else _) _ _ s;rw[if_neg (show ¬((Value.ref l == Value.none)=true)from de)];show wpAny _ _ (field (.ref it) 1 >>=_) _ _ s;refine cz (dG b a (x:=.int i 0) rfl ?_);show wpAny _ _ (seqItems? (.ref l) >>=_) _ _ s;refine cz (wpAny_seqItems d e ?_);simp only[Int.toNat_natCast,hx];refine cz (wpAny_setField b a (by simp) (cG ⟨x,rfl,cG (hQ _ ⟨_,Heap.get?_update_self _ b (Obj.isFreed_of_fields (Obj.data_mapFields a _)),(Obj.cls_mapFields ..).trans c,?_⟩ (Heap.SameBut.update ..))⟩));rw[Obj.data_mapFields a];simp[rawInt]
def Ć{it l:xy}{i:Nat}{items}{Q:Δ}(hh:A.handled=none)(hit:s.heap.IsTupleIter it l i)(hl:s.heap.IsTuple l items)(hx:items[i]?=none)
  (hE:∀h' e,Heap.ExtBut it s.heap h'->(∃o,h'.get? e=some o/\o.cls=.type "StopIteration")->E (.ref e) {s with heap:=h'}):wpAny (model prog w) A (Builtin.SmallTypes.nextOf (.ref it)) Q E s:=by
 let⟨k,c,g,b⟩:=id hit;let⟨h,d,_,j,f⟩:=hl;unfold Builtin.SmallTypes.nextOf;refine cz (wpAny_callSpecial?_slot (name:=Str.ofString "__next__") hit.typeIs slot_tupleiter_next (wpAny_call_entry slot_tupleiter_next hit.typeIs entry_tupleiter_next ?_ (args_tupleiter_next _)))
 (show wpAny _ _ (field (.ref it) 0 >>=_) _ _ s);refine cz (dG c b (x:=.ref l) rfl ?_)
 (show wpAny _ _ (if (Value.ref l == Value.none)=true then _ else _) _ _ s);rw[if_neg (show ¬((Value.ref l == Value.none)=true)from de)]
 (show wpAny _ _ (field (.ref it) 1 >>=_) _ _ s);refine cz (dG c b (x:=.int i 0) rfl ?_)
 (show wpAny _ _ (seqItems? (.ref l) >>=_) _ _ s);refine cz (wpAny_seqItems d f ?_)
 simp only[Int.toNat_natCast,hx];refine cz (wpAny_rule (cz (wpAny_setField c b (by simp) ?_)))
 (show wpAny _ _ (newExc (.type "StopIteration") [] >>=_) _ _ _);refine cz ?_
 simp only[newExc,newTuple];refine cz (wpAny_newObj_type ?_ (by size_fits))
 refine cz (m:=firstArgMember _ _) (wpAny_of_eq (a:=Value.none) (by first|rfl|(simp only[firstArgMember];rfl)) (wpAny_newObj_type ?_ (by size_fits)))
 simp only[raiseNew];refine cz (wpAny_handled ?_)
 (first|rw[show A.in1.handled=none from hh]|rw[hh]);refine cz (cG (wpAny_throw ?_))
 exact hE _ _ (((Heap.SameBut.update _ ..).extBut.push _).push _) ⟨_,cV _ rfl,rfl⟩
end
section
open AutoSeq1 (wpAny_loadPart')
set_option maxRecDepth 100000
end
end L2
namespace L2
open PySem PySem.Spec PyProof.Rows
end L2
namespace L2
section
variable{σ:St}{H:Hp}{Q:VK}{td ty tx tv:TE}
def ywh(h:td σ H λx H1=>ty σ H1 λy H2=>∃a v,x=.ref a/\œ H2 a y (some v)/\Q v H2):vav td ty σ H Q:=h
def vdt(h:ty σ H λy H1=>td σ H1 λx H2=>∃a o,x=.ref a/\œ H2 a y o/\Q (.bl o.isSome) H2):ve7 ty td σ H Q:=h
def ymp(h:ty σ H λy H1=>td σ H1 λx H2=>∃a o,x=.ref a/\œ H2 a y o/\Q (.bl (!o.isSome)) H2):yi3 ty td σ H Q:=h
def yx8{nx bk ct:Ζ}{rt:VK}(h:tv σ H λv H1=>td σ H1 λx H2=>ty σ H2 λy H3=>∃a H4,x=.ref a/\yko H3 a y v H4/\nx σ H4):vaf td ty tv ⟨nx,rt,bk,ct⟩ σ H:=h
def yqv(h:∀p,H p=none->Q (.ref p) (upd H p (.dT []))):ypr σ H Q:=h
end
end L2
namespace L2
open PySem PySem.Spec PyProof.Rows
variable{i1 i2 l1 l2:xy}{xs ys:Array qb}{elts:qi qg}{i k1 k2:Nat}{tpos:Pos}{P:qh}{a:qb}
def vex(Sq:Hp->xy->qi V->Prop)(a b:xy):It :=
 ⟨λi H=>∃xs ys x y,Sq H a xs/\Sq H b ys/\xs[i]?=some x/\ys[i]?=some y,
  λi H v H'=>∃t x y,v=.ref t/\H t=none/\H'=upd H t (.tup [x,y])/\(∀xs,Sq H a xs->xs[i]?=some x)/\(∀ys,Sq H b ys->ys[i]?=some y),
  λi H=>∃xs ys,Sq H a xs/\Sq H b ys/\(xs.length<=i\/ys.length<=i)⟩
abbrev Itz(K:z0)(a b:xy):It:=vex (SqL K) a b
structure Zap(z TI TO i1 i2:xy):Prop where
 a1:TI≠z
 a2:TO≠z
 a3:i1≠z
 a4:i2≠z
 a5:TI≠TO
 a6:TI≠i1
 a7:TI≠i2
 a8:TO≠i1
 a9:TO≠i2
 b1:i1≠i2
def vcn(Ii:qf->xy->xy->Nat->Prop)(z TI TO i1 i2 l1 l2:xy)(i:Nat)(h:qf):Prop:=IsZip h z TI TO .none/\IsPair h TI (.ref i1) (.ref i2)/\(∃a b,IsPair h TO a b)/\Ii h i1 l1 i/\Ii h i2 l2 i
abbrev Zst:=vcn Heap.IsListIter
def zr{h:qf}{a b:xy}{o o':Obj}(e:h.get? a=some o)(e':h.get? b=some o')(n:o.cls≠o'.cls):a≠b:=by rintro rfl;rw[e]at e';cases e';exact n rfl
def yn5(z:Nat):Zap (z+4) (z+2) (z+3) z (z+1):=by constructor<;>(show (_:Nat)≠(_:Nat);omega)
def nT{a b:String}(h:Value.type a≠Value.type b):Value.type a≠Value.type b:=h
def Zap.apart{X:Cx}{pins:Θ}{σ:St}{H:Hp}{s:qa}{z TI TO:xy}{xs ys:Ξ}(d:Zap z TI TO i1 i2)(st:Zst z TI TO i1 i2 l1 l2 i s.heap)(p:PlainL s.heap l1 xs.toArray)(q:PlainL s.heap l2 ys.toArray)(_:Inv X pins σ H s):ZipApart z TI TO i1 i2 l1 l2:=by
 let⟨m,o,⟨a,b,c⟩,⟨r,n,k,_⟩,⟨v,j,l,_⟩⟩:=st;let⟨t,g,f,_⟩:=p.isList;let⟨u,e,h,_⟩:=q.isList
 exact⟨d.a1,d.a2,d.a3,d.a4,d.a5,d.a6,d.a7,d.a8,d.a9,d.b1,
  zr g m (by rw[f];exact nT ∅),zr g c (by rw[f];exact nT ∅),zr g n (by rw[f,k];decide),zr g j (by rw[f,l];decide),
  zr e m (by rw[h];exact nT ∅),zr e c (by rw[h];exact nT ∅),zr e n (by rw[h,k];decide),zr e j (by rw[h,l];decide)⟩
structure ZK(K:z0)(Sq:Hp->xy->qi V->Prop)(Ii:qf->xy->xy->Nat->Prop)(z TI TO i1 i2 l1 l2:xy):Prop where
 ob:∀{h:qf}{i l:xy}{k:Nat},Ii h i l k->∃o,h.get? i=some o/\∃fs,o.data=.fields fs
 kp:∀{h h':qf}{i l:xy}{k:Nat},Ii h i l k->(∀o,h.get? i=some o->h'.get? i=some o)->Ii h' i l k
 inj:∀{X:Cx}{pins:Θ}{σ:St}{H:Hp}{s:qa}{l:xy}{xs ys:Τ},X.K=K->Inv X pins σ H s->Sq H l xs->Sq H l ys->xs=ys
 nx:∀{X:Cx}{pins:Θ}{σ:St}{H:Hp}{s:qa}{E:Δ}{i:Nat}{xs ys:Τ}{x y:V},X.K=K->Inv X pins σ H s->H TO=none->vcn Ii z TI TO i1 i2 l1 l2 i s.heap->Sq H l1 xs->Sq H l2 ys->xs[i]?=some x->ys[i]?=some y ->
  ∃u u',xj x u/\xj y u'/\ZipApart z TI TO i1 i2 l1 l2/\∀Q:qj qb->qa->Prop,(∀h',IsZip h' z TI TO (rawInt s.heap.objs.size)->IsPair h' TO u u'->Ii h' i1 l1 (i+1)->Ii h' i2 l2 (i+1)->IsPair h' s.heap.objs.size u u'->h'.objs.size=s.heap.objs.size+1->(∀c o,c≠z->c≠TO->c≠i1->c≠i2->s.heap.get? c=some o->h'.get? c=some o)->Q (some (.ref s.heap.objs.size)) {s with heap:=h'})->wpAny (model X.prog X.w) X.A (pyNext (.ref z)) Q E s
 sp:∀{X:Cx}{pins:Θ}{σ:St}{H:Hp}{s:qa}{E:Δ}{i:Nat}{xs ys:Τ},X.K=K->X.calm=true->Inv X pins σ H s->H TO=none->vcn Ii z TI TO i1 i2 l1 l2 i s.heap->Sq H l1 xs->Sq H l2 ys->(xs.length<=i\/ys.length<=i) ->
  ∀Q:qj qb->qa->Prop,(∀h',(∀c o,c≠z->c≠TO->c≠i1->c≠i2->s.heap.get? c=some o->h'.get? c=some o)->Q none {s with heap:=h'})->wpAny (model X.prog X.w) X.A (pyNext (.ref z)) Q E s
def yar{w:qd}{K:z0}{x1}{Sq:Hp->xy->qi V->Prop}{Ii:qf->xy->xy->Nat->Prop}{z TI TO:xy}(zk:ZK K Sq Ii z TI TO i1 i2 l1 l2):
  yge P w K (.Tuple elts x1 tpos) (vex Sq l1 l2) [z,TI,TO,i1,i2] z (vcn Ii z TI TO i1 i2 l1 l2) where
 mem:=by simp
 obj:=λi h B b d=>by
  let⟨Z,r,⟨_,_,A⟩,h1,h2⟩:=B;let⟨o1,e1,_,d1⟩:=zk.ob h1;let⟨o2,e2,_,d2⟩:=zk.ob h2;simp only[cS,List.not_mem_nil,or_false]at d;rcases d with rfl|rfl|rfl|rfl|rfl
  .exists _,Z,λv z=>by cases z
  .exists _,r,λv z=>by cases z
  .exists _,A,λv z=>by cases z
  .exists o1,e1,λv z=>by rw[d1]at z;cases z
  .exists o2,e2,λv z=>by rw[d2]at z;cases z
 keep:=λi h L B k=>by
  let⟨Z,r,⟨a,b,A⟩,h1,h2⟩:=B;exists k z (by simp) _ Z,k TI (by simp) _ r,⟨a,b,k TO (by simp) _ A⟩,zk.kp h1 λo e=>k i1 (by simp) o e,zk.kp h2 λo e=>k i2 (by simp) o e
 item:=by
  intro X hP hw hK hc i F s σ H E I p B hg;subst hP hw hK;let⟨xs,Y,x,y,M,C,j,hy⟩:=hg;let⟨u,u',ru,a0,D,nx⟩:=zk.nx (E:=E) rfl I (p TO (by simp)).1 B M C j hy;let⟨Z,r,⟨va,vb,A⟩,a8,a7⟩:=B;refine nx _ λL a1 a2 a3 a4 a5 a6 hk=>?_;exists _,rfl,wpAny_letOwnedTupleGo_zip a1 λm S g=>?_;have t:H s.heap.objs.size=none:=I.hok.fresh (cE _);have lz:z<s.heap.objs.size:=cP Z;have lo:TO<s.heap.objs.size:=cP A;have lI:TI<s.heap.objs.size:=cP r;have a9:i1<s.heap.objs.size:=by let⟨o,e,_⟩:=zk.ob a8;exact cP e
  have aa:i2<s.heap.objs.size:=by let⟨o,e,_⟩:=zk.ob a7;exact cP e
  have keep:∀b o,b≠z->b≠TO->b≠i1->b≠i2->s.heap.get? b=some o->m.get? b=some o:=λb o N Q R O e=>(g.2 b N).trans (hk b o N Q R O e);have T:m.get? s.heap.objs.size=some { cls:=.type "tuple",data:=.seq #[u,u']}:=(g.2 _ (Nat.ne_of_gt lz)).trans a5;have U:∀{b v},H b=some v->b≠z/\b≠TO/\b≠i1/\b≠i2:=λ{b v}e=>⟨yb e (p z (by simp)).1,yb e (p TO (by simp)).1,yb e (p i1 (by simp)).1,yb e (p i2 (by simp)).1⟩
  have J:HOk X.prog X.w (upd H s.heap.objs.size (.tup [x,y])) m:=λb o e=>by
   by_cases d:b=s.heap.objs.size
   .subst d;rw[ya]at e;cases e;exists by show 2<=sizeLine;decide,[u,u'],.cons ru (.cons a0 .nil),⟨_,T,rfl,_,rfl⟩
   .rw[yp d]at e;refine(I.hok b o e).stay (λc v l q=>?_) (λc q=>by rw[yp (yb q t)];exact q) λc Y q=>by rw[yp (yb q t)];exact q
    obtain⟨N,Q,R,O⟩:c≠z/\c≠TO/\c≠i1/\c≠i2:=by
     rcases l with rfl|l
     .exact U e
     .exact U l
    exact keep c v N Q R O q
  have un:Un (frs X.stack) [z,TI,TO,i1,i2] H (upd H s.heap.objs.size (.tup [x,y])) s.heap m:=by
   have G:∀{b o},b∉[z,TI,TO,i1,i2]->s.heap.get? b=some o->m.get? b=some o:=λ{b o}d e=>keep b o (λq=>d (by simp[q])) (λq=>d (by simp[q])) (λq=>d (by simp[q])) (λq=>d (by simp[q])) e
   refine⟨λb o e n W j=>G j e,λb o e n W j=>⟨o.slots,G j e⟩,λb o e n W=>by rw[yp (di (cP e))];exact n,λb o e j=>⟨o,G j e⟩,
    λb Y e=>by rw[yp (yb e t)];exact e,λb o v e=>by rw[yp (yb e t)];exact e,λb ps e=>⟨#[],by rw[yp (yb e t),e];simp⟩⟩
  have I1:Inv X F σ (upd H s.heap.objs.size (.tup [x,y])) {s with heap:=m}:=I.call' (s':={s with heap:=m}) rfl un J I.bare λb d=>by
   have f:=p b d;exact⟨f.2.2.2.1,f.2.1,f.2.2.2.2.1,f.2.2.2.2.2⟩
  exists .ref s.heap.objs.size,_,I1,rfl,⟨_,x,y,rfl,t,rfl,λzs h=>by rw[zk.inj rfl I h M];exact j,λzs h=>by rw[zk.inj rfl I h C];exact hy⟩,?_,λb d=>?_
  .exists S,keep _ _ D.TIz D.TITO D.TIi1 D.TIi2 r,⟨u,u',(g.2 _ D.TOz).trans a2⟩,zk.kp a3 λo e=>(g.2 _ D.i1z).trans e,zk.kp a4 λo e=>(g.2 _ D.i2z).trans e
  .rw[yp (λq=>?_)]
   .exact(p b d).1
   .have M:b<s.heap.objs.size:=by
     simp only[cS,List.not_mem_nil,or_false]at d;rcases d with rfl|rfl|rfl|rfl|rfl<;>assumption
    exact absurd q (di M)
 done:=by
  intro X hP hw hK hc i F s σ H E I p B hg;subst hP hw hK;let⟨xs,Y,M,C,j⟩:=hg;refine zk.sp rfl hc I (p TO (by simp)).1 B M C j _ λL hk=>⟨rfl,?_⟩;have U:∀{b v},H b=some v->b≠z/\b≠TO/\b≠i1/\b≠i2:=λ{b v}e=>⟨yb e (p z (by simp)).1,yb e (p TO (by simp)).1,yb e (p i1 (by simp)).1,yb e (p i2 (by simp)).1⟩
  have J:HOk X.prog X.w H L:=λb o e=>by
   refine(I.hok b o e).stay (λc v l q=>?_) (λc q=>q) λc Y q=>q
   obtain⟨N,Q,R,O⟩:c≠z/\c≠TO/\c≠i1/\c≠i2:=by
    rcases l with rfl|l
    .exact U e
    .exact U l
   exact hk c v N Q R O q
  have un:Un (frs X.stack) [z,TI,TO,i1,i2] H H s.heap L:=by
   have G:∀{b o},b∉[z,TI,TO,i1,i2]->s.heap.get? b=some o->L.get? b=some o:=λ{b o}d e=>hk b o (λq=>d (by simp[q])) (λq=>d (by simp[q])) (λq=>d (by simp[q])) (λq=>d (by simp[q])) e;exists λb o e n W j=>G j e,λb o e n W j=>⟨o.slots,G j e⟩,λb o e n W=>n,λb o e j=>⟨o,G j e⟩,λb Y e=>e,λb o v e=>e,λb ps e=>⟨#[],by rw[e];simp⟩
  exact I.call' (s':={s with heap:=L}) rfl un J I.bare λb d=>by
   have f:=p b d;exact⟨f.2.2.2.1,f.2.1,f.2.2.2.2.1,f.2.2.2.2.2⟩
 self:=λW W W W W B h=>wpAny_pyIter_zip B.1 h
def ylq{w:qd}{K:z0}{x1}(l1 l2 z TI TO i1 i2:xy)(d:Zap z TI TO i1 i2):
  yge P w K (.Tuple elts x1 tpos) (Itz K l1 l2) [z,TI,TO,i1,i2] z (Zst z TI TO i1 i2 l1 l2):=yar ⟨λ⟨o,e,_,d⟩=>⟨o,e,_,d⟩,λh f=>h.at f,λ{X a σ H s l S T}t I h g=>by subst t;exact I.list_inj h g,λ{X a σ H s E i S T x y}t I W C F n R hy=>by
  subst t;let⟨M,N,p,J⟩:=I.list F;let⟨r,m,v,B⟩:=I.list n;let⟨u,hu,ru⟩:=N.get R;let⟨Y,L,G⟩:=m.get hy;have D:=d.apart C p v I;let⟨O,q,⟨va,vb,c⟩,j,b⟩:=C
  exact⟨u,Y,ru,G,D,λQ k=>wpAny_pyNext_zip_item D O q c j b p.isList v.isList (by simpa using hu) (by simpa using L) k⟩,λ{X a σ H s E i S T}t Z I W C F n R Q k=>by
  subst t;let⟨M,N,p,J⟩:=I.list F;let⟨r,m,v,B⟩:=I.list n;have D:=d.apart C p v I;let⟨O,q,⟨va,vb,c⟩,j,b⟩:=C;have hl:=N.length;have U:=m.length;exact wpAny_pyNext_zip_end (show X.A.handled=none from I.ok.hd Z) D O q c j b p.isList v.isList (by simp;omega) k⟩
section
variable{X:Cx}
def vfd(K:z0)(ta:TA):TI:=λσ H R=>ta σ H λvs H1=>∃a b,vs=[.ref a,.ref b]/\(∃xs ys,SqL K H1 a xs/\SqL K H1 b ys)/\R (Itz K a b) H1
def ynm{x1}{l m:qg}{ta:TA}{p pos:Pos}(hg:Gl X "zip")(hm:X.mg "zip"=none)(ha:PA X [l,m] ta)(hs:autoParam (starEach [l,m] X.env=[(false,eval l X.env),(false,eval m X.env)]) aD._auto_1)(hs2:autoParam (starEach [m] X.env=[(false,eval m X.env)]) aD._auto_1):
  PI X (.Tuple elts x1 tpos) (.Call (.Name "zip" p) [l,m] [] pos) (vfd X.K ta):=by
 intro f s σ H R I h;refine Call_ (Ő I hg hm (show bootBuiltins "zip"=some (.type "zip") by decide+kernel) (PyProof.Rows.callWith_type1 (thn (ha pos f s σ H _ I h) λL c h'=>?_) (by rw[hs,hs2]) (by rw[hs2];rfl)));let⟨J,A,d,x,z⟩:=h';let⟨a,b,e,⟨M,O,w,k⟩,q⟩:=z;subst e
 cases x with
 |cons r rr =>
  cases rr with
  |cons r' rr =>
   cases rr;cases r;cases r';let⟨E,N,B,t⟩:=d.list w;let⟨u,C,j,G⟩:=d.list k;refine call_zip_2 B.isList j.isList λP t o i v D F y=>?_;refine wpAny_pyIter_zip t ?_;have n:Zap (c.heap.objs.size+4) (c.heap.objs.size+2) (c.heap.objs.size+3) c.heap.objs.size (c.heap.objs.size+1):=yn5 _;exists c.heap.objs.size+4,[c.heap.objs.size+4,c.heap.objs.size+2,c.heap.objs.size+3,c.heap.objs.size,c.heap.objs.size+1],_,_,A,rfl,d.kept (t':=c.toks) y,ylq a b _ _ _ _ _ n,⟨t,o,⟨_,_,i⟩,v,D⟩,λb g=>?_,q
   have g:c.heap.objs.size<=b:=by
    simp only[cS,List.not_mem_nil,or_false]at g;rcases g with rfl|rfl|rfl|rfl|rfl<;>omega
   exact d.fpOk g (d.hok.fresh g)
def ywp{K:z0}{ta:TA}{σ:St}{H:Hp}{R:It->Hp->Prop}(h:ta σ H λvs H1=>∃a b,vs=[.ref a,.ref b]/\(∃xs ys,SqL K H1 a xs/\SqL K H1 b ys)/\R (Itz K a b) H1):vfd K ta σ H R:=h
end
def ŀ{K:z0}{a b D:xy}{xs ys:Τ}{g:TG}{te:TE}{n:Nat}{fr:St}{R:Hp->Prop}{H1:Hp}(f:Nat->V)(hq:SqL K H1 a xs)(hq':SqL K H1 b ys)(hl:ys.length=xs.length)(hD:H1 D=none)
  (hs:∀i x y H t pre,xs[i]?=some x->ys[i]?=some y->yx H1 H->H D=some (.lst ((List.range i).map f))->H t=none->List.length pre=n->g (.ref t) (pre++fr) (upd H t (.tup [x,y])) λσ' H'=>(∃pre',List.length pre'=n/\σ'=pre'++fr)/\te σ' H' (MpK H1 D f xs.length i))
  (hd:∀H,yx H1 H->H D=some (.lst ((List.range xs.length).map f))->R H):Ç (Itz K a b) g te n fr D R H1:=by
 exists cW xs.length (Mp H1 D f),⟨xs.length,by simp,dg _,Mp.zero hD⟩,?_;rintro i m H ⟨rfl,o,p⟩;have q:=p.1.seq hq;have c:=p.1.seq hq';by_cases hlt:i<xs.length
 .refine .inr ⟨⟨xs,ys,xs[i],ys[i]'(),q,c,by simp[hlt],by simp[hl,hlt]⟩,λy H' pre d h=>?_⟩;let⟨t,x,y,rfl,j,rfl,k,l⟩:=d;exact hs i x y H t pre (k xs q) (l ys c) p.1 p.2 j h
 .have e:i=xs.length:=()
  subst e;exact .inl ⟨⟨xs,ys,q,c,.inl (cE _)⟩,hd H p.1 p.2⟩
section
variable{X:Cx}{iter elt tg:qg}{xs:Ρ}{g:TG}{pos:Pos}{scope:Scope}{te:TE}{wi:TI}{ys:Ρ}{js:qi Nat}
def yli{y:Str}{py spos:Pos}(hN:X.N.Nodup)(hy:X.N[i]?=some y)(hl:X.env.scope.names.lookup y=some .local)(hc:X.calm=true)(hi:PI X tg iter wi)
  (he:∀(C:xy)(s2:qa)(H2:Hp)(fp:Υ),PE (X.compT scope ys C xs s2 H2 fp) elt te) (hjs:js.map (λj=>X.N[j]?)=ys.map some)
  (hgt:∀(C:xy)(s2:qa)(H2:Hp)(fp:Υ),PG (X.compT scope ys C xs s2 H2 fp) tg g)
  (hclos:closureFor scope X.env=pure (ν ys X.env)) (hyc:∀y∈ys,X.env.kindOf y=some .cell) (hrel:∀y∈ys,(relabel scope X.env).names.lookup y=some .cell)
  (hsw:autoParam (swapsWith (.ListComp elt [⟨tg,iter,[],0⟩] scope pos) (some (.Name y py)) spos.line X.env=pure true) aD._auto_1)
  (hfr:autoParam (∀y∈scope.names,y.2=.free->y.1∈ys) aG._auto_1) (hcell:autoParam (∀y∈scope.names,y.2≠.cell) aG._auto_1) (hkind:autoParam (scope.kind=.function) aD._auto_1)
  (hnames:autoParam (∀y∈scope.names,y.2=.local->scope.names.lookup y.1=some .local) aG._auto_1) (hs:autoParam (∀x,foldedSetIterable iter X.env x=pure x) aC._auto_1):
  PS X (.Assign [.Name y py] (.ListComp elt [⟨tg,iter,[],0⟩] scope pos) spos) (ytd (yj4 wi g te xs.length js) (xb i)):=by
 refine .mk λa s σ H k I h=>?_;rw[exec_Assign_Name_used _ _ _ _ hsw];refine cz (wpAny_standAt (cz ?_));show wpAny _ X.A (do let _ <- comprehension (.ListComp elt [⟨tg,iter,[],0⟩] scope pos) scope X.env _ (newList []) false (eval iter X.env) (some (assign (.Name y py) X.env))) _ _ s;refine cz (dM (wpAny_comprehension_free (use:=some (assign (.Name y py) X.env)) (Q:=λZ d=>SP X a k .next d) rfl hs hclos hkind hnames (thn (hi a s σ H _ I h) λv P B=>thn B λF s2 L=>?_)) (λZ d E=>cG (cG E)) λZ Z e=>e);let⟨U,fp,S,J,H2,e,K,T,r,M,h⟩:=L;subst e;refine à (R:=λD l=>xb i (.ref D) σ l k.nx) (RR:=compPost (model X.prog X.w) X.A X.xe (some (assign (.Name y py) X.env)) (λZ d=>SP X a k .next d)) hc he hgt hcell hkind hfr hyc hrel hjs K T r M h ?_;intro D C l d m f O G q;refine wpAny_assign_Name (Ì (v:=V.ref D) G hN hy (Or.inl hl) rfl (λt n p=>?_) (Or.inr hl));exists m,?_,λW u=>⟨_,l,?_,q⟩
 .obtain⟨b,u,c⟩:=p;refine O.sameBut u λz=>?_;rcases c with c|c
  .exact f.2.1 (z.trans c)
  .exact f.2.2.2.2.1 y b c z.symm
 .exact n.turned (t':=t.toks) (λb o c e=>u.extBut b o c e) f.1 f.2.1 f.2.2.2.1 f.2.2.2.2.1 f.2.2.2.2.2
end
section
variable{X:Cx}
noncomputable def onI(f:Int->Int):V->V
 | .int i=>.int (f i)
 |v=>v
def yh9(f:Int->Int)(ns:Ο):(ns.map V.int).map (onI f)=(ns.map f).map V.int:=by rw[dD,dD];rfl
def yja{pre:qi (qj V)}(h:List.length pre=2):∃v1 v2,pre=[v1,v2]:=by let⟨v1,t,rfl,b⟩:=Ŵ h;let⟨v2,t,rfl,a⟩:=Ŵ b;exists v1,v2,by rw[List.length_eq_zero_iff.mp a]
end
section
variable{X:Cx}
def vbq:V->qi V->Hp->VK->Prop:=λx vs H Q=>∃i:Int,x=.int i/\vs=[]/\Q (.int (Builtin.Int.intBits i:Nat)) H
def yru:MtR X "int.bit_length" vbq:=by intro b s σ H x e v f Q I d c h;let⟨i,rfl,rfl,q⟩:=h;let⟨t,rfl⟩:=d;have a:=c.zero;subst a;exact PyProof.Rows.call_int_bit_length ⟨.int _,H,I.tok _,⟨_,rfl⟩,q⟩
def yt2{K:z0}{i:Int}{H:Hp}{Q:VK}(h:Q (.int (Builtin.Int.intBits i:Nat)) H):tyV K "int" (.int i) H/\vbq (.int i) [] H Q:=⟨rfl,i,rfl,rfl,h⟩
end
section
variable{prog:qh}{w:qd}{A:qe}{E:Δ}{s:qa}
def yl7{z TI TO:xy}{x y b:qb}{Q:Δ}(D:ZipApart z TI TO i1 i2 l1 l2)(hz:IsZip s.heap z TI TO .none)(hTI:IsPair s.heap TI (.ref i1) (.ref i2))(hTO:IsPair s.heap TO a b)
  (h1:s.heap.IsTupleIter i1 l1 k1) (h2:s.heap.IsTupleIter i2 l2 k2) (hl1:s.heap.IsTuple l1 xs) (hl2:s.heap.IsTuple l2 ys) (hx:xs[k1]?=some x) (hy:ys[k2]?=some y)
  (hQ:∀h',IsZip h' z TI TO (rawInt s.heap.objs.size)->IsPair h' TO x y->h'.IsTupleIter i1 l1 (k1+1)->h'.IsTupleIter i2 l2 (k2+1)->IsPair h' s.heap.objs.size x y->h'.objs.size=s.heap.objs.size+1->(∀c o,c≠z->c≠TO->c≠i1->c≠i2->s.heap.get? c=some o->h'.get? c=some o)->Q (.ref s.heap.objs.size) {s with heap:=h'}):
  wpAny (model prog w) A (Builtin.«zip.__next__» ⟨[.ref z],[]⟩) (λfin s'=>∃v,fin=.done (.ret v)/\Q v s') E s:=by
 (show wpAny _ _ (field (.ref z) 2 >>=_) _ _ _);refine cz (dG hz rfl (x:=.bool false) rfl ?_)
 (show wpAny _ _ (field (.ref z) 3 >>=_) _ _ _);refine cz (dG hz rfl (x:=.ref TI) rfl ?_);refine cz (wpAny_seqItems hTI rfl ?_)
 (show wpAny _ _ (Builtin.SmallTypes.ownedTupleIsFree (.ref z) >>=_) _ _ _);refine cz ?_;unfold Builtin.SmallTypes.ownedTupleIsFree
 refine cz (dG hz rfl (x:=.none) rfl (cG ?_));simp only[if_true];refine cz (wpAny_rule ?_);refine cz (dG hz rfl (x:=.ref TO) rfl ?_);refine cz (wpAny_setField_rec hz (by simp) λh₁ hz₁ hs₁=>?_)
 replace hz₁:IsZip h₁ z TI TO .ellipsis:=hz₁;refine cz ?_;simp only[List.zipIdx_cons,List.zipIdx_nil,List.forIn_cons,List.forIn_nil]
 refine cz (cz (wpAny_onRaise ?_));(show wpAny _ _ (Builtin.SmallTypes.nextOf (.ref i1) >>=_) _ _ _);refine cz (Á (h1.at λo e=>hs₁.extBut _ _ D.i1z e) (hl1.extBut hs₁.extBut D.l1z) hx λh₂ h1₂ hs₂=>cG ?_);have hTO₂:IsPair h₂ TO a b:=hs₂.extBut _ _ D.TOi1 (hs₁.extBut _ _ D.TOz hTO);refine cz (wpAny_seqItems hTO₂ rfl ?_);refine cz (wpAny_updateSeq_pair hTO₂ λh₃ hTO₃ hs₃=>?_);replace hTO₃:IsPair h₃ TO x b:=hTO₃;refine cz (wpAny_letGo (cG ?_));refine cz (cz (wpAny_onRaise ?_));(show wpAny _ _ (Builtin.SmallTypes.nextOf (.ref i2) >>=_) _ _ _);refine cz (Á (h2.at λo e=>hs₃.extBut _ _ D.TOi2.symm (hs₂.extBut _ _ D.i12.symm (hs₁.extBut _ _ D.i2z e))) (((hl2.extBut hs₁.extBut D.l2z).extBut hs₂.extBut D.l2i1).extBut hs₃.extBut D.l2TO) hy λh₄ h2₄ hs₄=>cG ?_);have hTO₄:IsPair h₄ TO x b:=hs₄.extBut _ _ D.TOi2 hTO₃;refine cz (wpAny_seqItems hTO₄ rfl ?_);refine cz (wpAny_updateSeq_pair hTO₄ λh₅ hTO₅ hs₅=>?_);replace hTO₅:IsPair h₅ TO x y:=hTO₅;refine cz (wpAny_letGo (cG (cG ?_)));refine cz (wpAny_seqItems hTO₅ rfl ?_);refine cz (wpAny_newTuple ?_);have i:h₅.objs.size=s.heap.objs.size:=by(rw[hs₅.1,hs₄.1,hs₃.1,hs₂.1,hs₁.1])
 have hz₅:IsZip h₅ z TI TO .ellipsis:=(hs₅.extBut _ _ D.TOz.symm (hs₄.extBut _ _ D.i2z.symm (hs₃.extBut _ _ D.TOz.symm (hs₂.extBut _ _ D.i1z.symm hz₁))));have hk₅:∀c o,c≠z->c≠TO->c≠i1->c≠i2->s.heap.get? c=some o->h₅.get? c=some o:=λc o f j m l e=>hs₅.extBut _ _ j (hs₄.extBut _ _ l (hs₃.extBut _ _ j (hs₂.extBut _ _ m (hs₁.extBut _ _ f e))));have h1₅:h₅.IsTupleIter i1 l1 (k1+1):=h1₂.at λo e=>hs₅.extBut _ _ D.TOi1.symm (hs₄.extBut _ _ D.i12 (hs₃.extBut _ _ D.TOi1.symm e));have h2₅:h₅.IsTupleIter i2 l2 (k2+1):=h2₄.at λo e=>hs₅.extBut _ _ D.TOi2.symm e;have d:z<h₅.objs.size:=(cP hz₅)
 (show wpAny _ _ (Builtin.SmallTypes.ownedTupleHandOut (.ref z) (.ref h₅.objs.size) >>=_) _ _ _);refine cz ?_;unfold Builtin.SmallTypes.ownedTupleHandOut
 have hz₆:IsZip (h₅.push { cls:=.type "tuple",data:=.seq #[x,y]}) z TI TO .ellipsis:=(cD _ hz₅);refine cz (wpAny_setField_rec hz₆ (by simp) λh₇ hz₇ hs₇=>?_);replace hz₇:IsZip h₇ z TI TO (rawInt h₅.objs.size):=hz₇;refine wpAny_setField_rec hz₇ (by simp) λh₈ hz₈ hs₈=>?_;replace hz₈:IsZip h₈ z TI TO (rawInt h₅.objs.size):=hz₈;have k:∀c o,c≠z->h₅.get? c=some o->h₈.get? c=some o:=(λc o f e=>hs₈.extBut _ _ f (hs₇.extBut _ _ f (cD _ e)));have hT₈:IsPair h₈ h₅.objs.size x y:=(hs₈.extBut _ _ (Nat.ne_of_gt d) (hs₇.extBut _ _ (Nat.ne_of_gt d) (cV _ rfl)));have g:h₈.objs.size=h₅.objs.size+1:=by(rw[hs₈.1,hs₇.1,Heap.size_push])
 (rw[i]at hz₈ hT₈ g);refine cG ⟨_,rfl,?_⟩;show Q (.ref h₅.objs.size) _;rw[i]
 exact hQ h₈ hz₈ (k _ _ D.TOz hTO₅) (h1₅.at λo e=>k _ o D.i1z e) (h2₅.at λo e=>k _ o D.i2z e) hT₈ g (λc o f j m l e=>k c o f (hk₅ c o f j m l e))
def ysi{z TI TO:xy}{b:qb}{Q:Fin->qa->Prop}(hh:A.handled=none)(D:ZipApart z TI TO i1 i2 l1 l2)(hz:IsZip s.heap z TI TO .none)(hTI:IsPair s.heap TI (.ref i1) (.ref i2))(hTO:IsPair s.heap TO a b)
  (h1:s.heap.IsTupleIter i1 l1 k1) (h2:s.heap.IsTupleIter i2 l2 k2) (hl1:s.heap.IsTuple l1 xs) (hl2:s.heap.IsTuple l2 ys) (hend:xs[k1]?=none\/ys[k2]?=none)
  (hE:∀h' e,(∀c o,c≠z->c≠TO->c≠i1->c≠i2->s.heap.get? c=some o->h'.get? c=some o)->(∃o,h'.get? e=some o/\o.cls=.type "StopIteration")->E (.ref e) {s with heap:=h'}):wpAny (model prog w) A (Builtin.«zip.__next__» ⟨[.ref z],[]⟩) Q E s:=by
 (show wpAny _ _ (field (.ref z) 2 >>=_) _ _ _);refine cz (dG hz rfl (x:=.bool false) rfl ?_)
 (show wpAny _ _ (field (.ref z) 3 >>=_) _ _ _);refine cz (dG hz rfl (x:=.ref TI) rfl ?_);refine cz (wpAny_seqItems hTI rfl ?_)
 (show wpAny _ _ (Builtin.SmallTypes.ownedTupleIsFree (.ref z) >>=_) _ _ _);refine cz ?_;unfold Builtin.SmallTypes.ownedTupleIsFree
 refine cz (dG hz rfl (x:=.none) rfl (cG ?_));simp only[if_true];refine cz (wpAny_rule ?_);refine cz (dG hz rfl (x:=.ref TO) rfl ?_);refine cz (wpAny_setField_rec hz (by simp) λh₁ hz₁ hs₁=>?_)
 replace hz₁:IsZip h₁ z TI TO .ellipsis:=hz₁;refine cz ?_;simp only[List.zipIdx_cons,List.zipIdx_nil,List.forIn_cons,List.forIn_nil]
 refine cz (cz (wpAny_onRaise ?_));(show wpAny _ _ (Builtin.SmallTypes.nextOf (.ref i1) >>=_) _ _ _)
 cases hx:xs[k1]? with
 |none =>
  refine cz (Ć hh (h1.at λo e=>hs₁.extBut _ _ D.i1z e) (hl1.extBut hs₁.extBut D.l1z) hx λh₂ e hs₂ j=>?_);let⟨l,d,f⟩:=j;have hz₂:IsZip h₂ z TI TO .ellipsis:=hs₂ _ _ D.i1z.symm hz₁;have g:e≠z:=(λx=>by(subst x;rw[hz₂]at d;cases d;simp at f));exact wpAny_setField_rec hz₂ (by simp) λh₃ Z hs₃=>hE h₃ e (λc o i Z k Z x=>hs₃.extBut _ _ i (hs₂ _ _ k (hs₁.extBut _ _ i x))) ⟨l,hs₃.extBut _ _ g d,f⟩
 |some x =>
  have p:ys[k2]?=none:=by(rcases hend with h|h;(rw[hx]at h;cases h);exact h)
  refine cz (Á (h1.at λo e=>hs₁.extBut _ _ D.i1z e) (hl1.extBut hs₁.extBut D.l1z) hx λh₂ h1₂ hs₂=>cG ?_);have hTO₂:IsPair h₂ TO a b:=(hs₂.extBut _ _ D.TOi1 (hs₁.extBut _ _ D.TOz hTO));refine cz (wpAny_seqItems hTO₂ rfl ?_);refine cz (wpAny_updateSeq_pair hTO₂ λh₃ hTO₃ hs₃=>?_);refine cz (wpAny_letGo (cG ?_));refine cz (cz (wpAny_onRaise ?_));(show wpAny _ _ (Builtin.SmallTypes.nextOf (.ref i2) >>=_) _ _ _);refine cz (Ć hh (h2.at λo e=>hs₃.extBut _ _ D.TOi2.symm (hs₂.extBut _ _ D.i12.symm (hs₁.extBut _ _ D.i2z e))) (((hl2.extBut hs₁.extBut D.l2z).extBut hs₂.extBut D.l2i1).extBut hs₃.extBut D.l2TO) p λh₄ e hs₄ j=>?_);let⟨l,d,f⟩:=j;have hz₄:IsZip h₄ z TI TO .ellipsis:=hs₄ _ _ D.i2z.symm (hs₃.extBut _ _ D.TOz.symm (hs₂.extBut _ _ D.i1z.symm hz₁));have g:e≠z:=(λx=>by(subst x;rw[hz₄]at d;cases d;simp at f));exact wpAny_setField_rec hz₄ (by simp) λh₅ Z hs₅=>hE h₅ e (λc o i n k m x=>hs₅.extBut _ _ i (hs₄ _ _ m (hs₃.extBut _ _ n (hs₂.extBut _ _ k (hs₁.extBut _ _ i x))))) ⟨l,hs₅.extBut _ _ g d,f⟩
def ylz{z TI TO:xy}{x y b:qb}{Q:qj qb->qa->Prop}(D:ZipApart z TI TO i1 i2 l1 l2)(hz:IsZip s.heap z TI TO .none)(hTI:IsPair s.heap TI (.ref i1) (.ref i2))(hTO:IsPair s.heap TO a b)
  (h1:s.heap.IsTupleIter i1 l1 k1) (h2:s.heap.IsTupleIter i2 l2 k2) (hl1:s.heap.IsTuple l1 xs) (hl2:s.heap.IsTuple l2 ys) (hx:xs[k1]?=some x) (hy:ys[k2]?=some y)
  (hQ:∀h',IsZip h' z TI TO (rawInt s.heap.objs.size)->IsPair h' TO x y->h'.IsTupleIter i1 l1 (k1+1)->h'.IsTupleIter i2 l2 (k2+1)->IsPair h' s.heap.objs.size x y->h'.objs.size=s.heap.objs.size+1->(∀c o,c≠z->c≠TO->c≠i1->c≠i2->s.heap.get? c=some o->h'.get? c=some o)->Q (some (.ref s.heap.objs.size)) {s with heap:=h'}):
  wpAny (model prog w) A (pyNext (.ref z)) Q E s:=by
 have d:s.TypeIs (.ref z) "zip":=(⟨_,hz,rfl⟩);unfold pyNext;exact cz (wpAny_attempt (wpAny_callSpecial?_slot (name:=Str.ofString "__next__") d F.slot_zip_next (wpAny_call_entry F.slot_zip_next d F.entry_zip_next
   (yl7 D hz hTI hTO h1 h2 hl1 hl2 hx hy λh' e g i k f j h=>cG (hQ h' e g i k f j h)) (F.args_zip_next_1 _))))
def ykx{z TI TO:xy}{b:qb}{Q:qj qb->qa->Prop}(hh:A.handled=none)(D:ZipApart z TI TO i1 i2 l1 l2)(hz:IsZip s.heap z TI TO .none)(hTI:IsPair s.heap TI (.ref i1) (.ref i2))(hTO:IsPair s.heap TO a b)
  (h1:s.heap.IsTupleIter i1 l1 k1) (h2:s.heap.IsTupleIter i2 l2 k2) (hl1:s.heap.IsTuple l1 xs) (hl2:s.heap.IsTuple l2 ys) (hend:xs[k1]?=none\/ys[k2]?=none)
  (hQ:∀h',(∀c o,c≠z->c≠TO->c≠i1->c≠i2->s.heap.get? c=some o->h'.get? c=some o)->Q none {s with heap:=h'}):wpAny (model prog w) A (pyNext (.ref z)) Q E s:=by
 have d:s.TypeIs (.ref z) "zip":=(⟨_,hz,rfl⟩);unfold pyNext;refine cz (wpAny_attempt (wpAny_callSpecial?_slot (name:=Str.ofString "__next__") d F.slot_zip_next (wpAny_call_entry F.slot_zip_next d F.entry_zip_next
  (ysi hh D hz hTI hTO h1 h2 hl1 hl2 hend λh' e i f=>?_) (F.args_zip_next_1 _))))
 let⟨o,h,g⟩:=f;refine cz (wpAny_isInstance (T:="StopIteration") (b:=true) ⟨o,h,g⟩ isSubtype_stop ?_);exact cG (hQ _ i)
end
noncomputable abbrev zT1(h:qf)(l1:xy):qf:=h.push { cls:=.type "tuple_iterator",data:=.fields #[.ref l1,.int 0 0]}
abbrev zT2(h:qf)(l1 l2:xy):qf:=(zT1 h l1).push { cls:=.type "tuple_iterator",data:=.fields #[.ref l2,.int 0 0]}
abbrev zT3(h:qf)(l1 l2:xy):qf:=(zT2 h l1 l2).push { cls:=.type "tuple",data:=.seq #[.ref h.objs.size,.ref (zT1 h l1).objs.size]}
abbrev zT4(h:qf)(l1 l2:xy):qf:=(zT3 h l1 l2).push { cls:=.type "tuple",data:=.seq #[.none,.none]}
abbrev zT5(h:qf)(l1 l2:xy):qf:=(zT4 h l1 l2).push { cls:=.type "zip",data:=.fields #[.none,.bool false,.bool false,.ref (zT2 h l1 l2).objs.size,.ref (zT3 h l1 l2).objs.size]}
def yp0(l1 l2:xy)(xs ys:Array qb):Meets (Builtin.«zip.__new__» ⟨[.type "zip",.ref l1,.ref l2],[]⟩) (λZ R s=>s.heap.IsTuple l1 xs/\s.heap.IsTuple l2 ys/\R (.ok (.ret (.ref (zT4 s.heap l1 l2).objs.size))) {s with heap:=zT5 s.heap l1 l2}) :=
 .of_wp λf w A R s h=>by
  let⟨k,g,d,j,i⟩:=s;let⟨c,b,h⟩:=h;have l:=sub_zip;have a:Heap.IsTuple (Shared.heap ⟨k,g,d,j,i⟩) l1 xs:=c;have e:Heap.IsTuple (Shared.heap ⟨k.push { cls:=.type "tuple_iterator",data:=.fields #[.ref l1,.int 0 0]},g,d,j,i⟩) l2 ys:=Heap.IsTuple.push b _
  wp_walk using wpAny_pyIter_tuple a,wpAny_pyIter_tuple e
  exists _,rfl,h
section
variable{prog:qh}{w:qd}{A:qe}{E:Δ}{s:qa}
def ylx{Q:Δ}(hl1:s.heap.IsTuple l1 xs)(hl2:s.heap.IsTuple l2 ys)
  (h:∀h',IsZip h' (s.heap.objs.size+4) (s.heap.objs.size+2) (s.heap.objs.size+3) .none->IsPair h' (s.heap.objs.size+2) (.ref s.heap.objs.size) (.ref (s.heap.objs.size+1))->IsPair h' (s.heap.objs.size+3) .none .none->h'.IsTupleIter s.heap.objs.size l1 0->h'.IsTupleIter (s.heap.objs.size+1) l2 0 ->
   (∀c o,s.heap.get? c=some o->h'.get? c=some o)->Q (.ref (s.heap.objs.size+4)) {s with heap:=h'}):wpAny (model prog w) A (call (.type "zip") [.ref l1,.ref l2]) Q E s:=by
 refine callType_new F.called_zip ∅ (F.typeCall_zip_2 _ _) (F.newCall_zip_2 _ _) (λd=>F.args_object_init_3 d _ _) F.entry_zip_new (yp0 l1 l2 xs ys) ⟨hl1,hl2,?_⟩;have b:(zT1 s.heap l1).objs.size=s.heap.objs.size+1:=Heap.size_push ..;have a:(zT2 s.heap l1 l2).objs.size=s.heap.objs.size+2:=by rw[Heap.size_push,b]
 have e:(zT3 s.heap l1 l2).objs.size=s.heap.objs.size+3:=by rw[Heap.size_push,a]
 have f:(zT4 s.heap l1 l2).objs.size=s.heap.objs.size+4:=by rw[Heap.size_push,e]
 have g5:(zT5 s.heap l1 l2).get? (zT4 s.heap l1 l2).objs.size=some _:=cV _ rfl;have g4:(zT5 s.heap l1 l2).get? (zT3 s.heap l1 l2).objs.size=some _:=cD _ (cV _ rfl);have g3:(zT5 s.heap l1 l2).get? (zT2 s.heap l1 l2).objs.size=some _:=cD _ (cD _ (cV _ rfl));have g2:(zT5 s.heap l1 l2).get? (zT1 s.heap l1).objs.size=some _:=cD _ (cD _ (cD _ (cV _ rfl)));have g1:(zT5 s.heap l1 l2).get? s.heap.objs.size=some _:=(cD _ (cD _ (cD _ (cD _ (cV _ rfl)))));show _/\_;rw[a,e,f]at g5;rw[b,a]at g3;rw[e]at g4;rw[b]at g2;rw[f];exists⟨_,g5,rfl⟩,h _ g5 g3 g4 ⟨_,g1,rfl,rfl⟩ ⟨_,g2,rfl,rfl⟩ λc o x=>(cD _ (cD _ (cD _ (cD _ (cD _ x)))))
end
abbrev vcr(K:z0)(a b:xy):It:=vex (SqT K) a b
abbrev vfm:=vcn Heap.IsTupleIter
def Zap.apartT{X:Cx}{H:Hp}{s:qa}{z TI TO:xy}{xs ys:Ξ}{us vs:Τ}(d:Zap z TI TO i1 i2)(st:vfm z TI TO i1 i2 l1 l2 i s.heap)(p:s.heap.IsTuple l1 xs.toArray)(q:s.heap.IsTuple l2 ys.toArray)(hn:H TO=none)(hK:X.K.lookup TO=none)
  (hq:SqT X.K H l1 us) (hq':SqT X.K H l2 vs):ZipApart z TI TO i1 i2 l1 l2:=by
 let⟨t,w,⟨a,b,v⟩,⟨x,u,m,_⟩,⟨B,k,r,_⟩⟩:=st;let⟨y,g,f,_⟩:=p;let⟨A,e,j,_⟩:=q
 have c:∀{l:xy}{n:Τ},SqT X.K H l n->l≠TO:=λ{l n}h=>by
  rintro rfl;rcases h with(h|⟨o,h⟩)|⟨_,_,_,h,_⟩
  .rw[hn]at h;cases h
  .rw[hn]at h;cases h
  .rw[hK]at h;cases h
 exact⟨d.a1,d.a2,d.a3,d.a4,d.a5,d.a6,d.a7,d.a8,d.a9,d.b1,
  zr g t (by rw[f];exact nT ∅),c hq,zr g u (by rw[f,m];decide),zr g k (by rw[f,r];decide),
  zr e t (by rw[j];exact nT ∅),c hq',zr e u (by rw[j,m];decide),zr e k (by rw[j,r];decide)⟩
def yh5{w:qd}{K:z0}{x1}(l1 l2 z TI TO i1 i2:xy)(d:Zap z TI TO i1 i2)(hKT:K.lookup TO=none):
  yge P w K (.Tuple elts x1 tpos) (vcr K l1 l2) [z,TI,TO,i1,i2] z (vfm z TI TO i1 i2 l1 l2):=yar ⟨λ⟨o,e,_,d⟩=>⟨o,e,_,d⟩,λh f=>h.at f,λ{X j σ H s l xs ys}B I h g=>by subst B;exact I.tuple_inj h g,λ{X j σ H s E i xs ys x y}B I R G v b S hy=>by
  subst B;let⟨c,N,p,L⟩:=I.tuple v;let⟨a,r,C,F⟩:=I.tuple b;let⟨u,hu,ru⟩:=N.get S;let⟨U,M,J⟩:=r.get hy;have D:=d.apartT (xs:=c) (ys:=a) G p C R hKT v b;let⟨O,t,⟨Z,vb,n⟩,q,m⟩:=G
  exact⟨u,U,ru,J,D,λQ k=>ylz (xs:=c.toArray) (ys:=a.toArray) D O t n q m p C (by simpa using hu) (by simpa using M) k⟩,λ{X j σ H s E i xs ys}B Y I R G v b S Q k=>by
  subst B;let⟨c,N,p,L⟩:=I.tuple v;let⟨a,r,C,F⟩:=I.tuple b;have D:=d.apartT (xs:=c) (ys:=a) G p C R hKT v b;let⟨O,t,⟨Z,vb,n⟩,q,m⟩:=G;have hl:=N.length;have T:=r.length;exact ykx (xs:=c.toArray) (ys:=a.toArray) (show X.A.handled=none from I.ok.hd Y) D O t n q m p C (by simp;omega) k⟩
section
variable{X:Cx}
def vbx(K:z0)(ta:TA):TI:=λσ H R=>ta σ H λvs H1=>∃a b,vs=[.ref a,.ref b]/\(∃xs ys,SqT K H1 a xs/\SqT K H1 b ys)/\R (vcr K a b) H1
def yry{x1}{l m:qg}{ta:TA}{p pos:Pos}(hg:Gl X "zip")(hm:X.mg "zip"=none)(ha:PA X [l,m] ta)(hs:autoParam (starEach [l,m] X.env=[(false,eval l X.env),(false,eval m X.env)]) aD._auto_1)(hs2:autoParam (starEach [m] X.env=[(false,eval m X.env)]) aD._auto_1):
  PI X (.Tuple elts x1 tpos) (.Call (.Name "zip" p) [l,m] [] pos) (vbx X.K ta):=by
 intro g s σ H R I h;refine Call_ (Ő I hg hm (show bootBuiltins "zip"=some (.type "zip") by decide+kernel) (PyProof.Rows.callWith_type1 (thn (ha pos g s σ H _ I h) λM c h'=>?_) (by rw[hs,hs2]) (by rw[hs2];rfl)));let⟨L,D,d,A,C⟩:=h';let⟨a,b,e,⟨N,P,z,t⟩,q⟩:=C;subst e
 cases A with
 |cons r rr =>
  cases rr with
  |cons r' rr =>
   cases rr;cases r;cases r';let⟨w,O,E,x⟩:=d.tuple z;let⟨f,F,n,J⟩:=d.tuple t;refine ylx (show c.heap.IsTuple a w.toArray from E) (show c.heap.IsTuple b f.toArray from n) λQ x v k y G B=>?_;refine wpAny_pyIter_zip x ?_
   have j:X.K.lookup (c.heap.objs.size+3)=none:=by
    cases hl:X.K.lookup (c.heap.objs.size+3)with
    |none=>rfl
    |some o=>exact absurd (cP (d.kIn _ o hl)) (Nat.not_lt.mpr (Nat.le_add_right _ _))
   have u:Zap (c.heap.objs.size+4) (c.heap.objs.size+2) (c.heap.objs.size+3) c.heap.objs.size (c.heap.objs.size+1):=yn5 _;exists c.heap.objs.size+4,[c.heap.objs.size+4,c.heap.objs.size+2,c.heap.objs.size+3,c.heap.objs.size,c.heap.objs.size+1],_,_,D,rfl,d.kept (t':=c.toks) B,yh5 a b _ _ _ _ _ u j,⟨x,v,⟨_,_,k⟩,y,G⟩,λb i=>?_,q
   have i:c.heap.objs.size<=b:=by
    simp only[cS,List.not_mem_nil,or_false]at i;rcases i with rfl|rfl|rfl|rfl|rfl<;>omega
   exact d.fpOk i (d.hok.fresh i)
def yqe{K:z0}{ta:TA}{σ:St}{H:Hp}{R:It->Hp->Prop}(h:ta σ H λvs H1=>∃a b,vs=[.ref a,.ref b]/\(∃xs ys,SqT K H1 a xs/\SqT K H1 b ys)/\R (vcr K a b) H1):vbx K ta σ H R:=h
end
def ycj{K:z0}{a b D:xy}{xs ys:Τ}{g:TG}{te:TE}{n m:Nat}{fr:St}{R:Hp->Prop}{H1:Hp}(f:Nat->V)(hq:SqT K H1 a xs)(hq':SqT K H1 b ys)(h1:m<=xs.length)(h2:m<=ys.length)(h3:xs.length<=m\/ys.length<=m)(hD:H1 D=none)
  (hs:∀i x y H t pre,i<m->xs[i]?=some x->ys[i]?=some y->yx H1 H->H D=some (.lst ((List.range i).map f))->H t=none->List.length pre=n->g (.ref t) (pre++fr) (upd H t (.tup [x,y])) λσ' H'=>(∃pre',List.length pre'=n/\σ'=pre'++fr)/\te σ' H' (MpK H1 D f m i))
  (hd:∀H,yx H1 H->H D=some (.lst ((List.range m).map f))->R H):Ç (vcr K a b) g te n fr D R H1:=by
 exists cW m (Mp H1 D f),⟨m,by simp,dg _,Mp.zero hD⟩,?_;rintro i j H ⟨rfl,r,p⟩;have q:=p.1.tup hq;have c:=p.1.tup hq';by_cases hlt:i<m
 .refine .inr ⟨⟨xs,ys,xs[i]'(),ys[i]'(),q,c,cA _,cA _⟩,λy H' pre d h=>?_⟩;let⟨t,x,y,rfl,k,rfl,l,o⟩:=d;exact hs i x y H t pre hlt (l xs q) (o ys c) p.1 p.2 k h
 .have e:i=m:=()
  subst e;exact .inl ⟨⟨xs,ys,q,c,h3⟩,hd H p.1 p.2⟩
end L2
namespace L2
open PySem PySem.Spec PyProof.Rows HT
section
variable{prog:qh}{w:qd}{A:qe}{E:Δ}{s:qa}
def yca{t sl:xy}{items:Array qb}{vl vu:qb}{lo hi:qj Int}{Q:Δ}(ht:IsTup s.heap t items)(hs:s.heap.IsSliceOf sl vl vu .none)(pl:IsPart vl lo)(pu:IsPart vu hi)
  (hw:sIx items.size 0 lo=0/\sIx items.size items.size hi=items.size) (h:Q (.ref t) s):wpAny (model prog w) A (getItem (.ref t) (.ref sl)) Q E s:=by
 let⟨f,c,b,e⟩:=id hs;have d:s.TypeIs (.ref sl) "slice":=⟨f,c,b⟩;unfold getItem
 try with_reducible refine wpAny_holding ?_
 first|refine cz (cG ?_)|skip
 refine cz (wpAny_sequenceKey ht.typeIs ∅ ?_);refine cz (wpAny_callSpecial?_slot (name:=Str.ofString "__getitem__") ht.typeIs PyProof.Rows.slot_tuple_getitem
  (wpAny_call_entry PyProof.Rows.slot_tuple_getitem ht.typeIs entry_tuple_getitem ?_ (args_tuple_getitem _ _)))
 show wpAny _ _ (Builtin.Tuple.tupleItemsOf (.ref t) >>=_) _ _ s;refine cz (tupleItemsOf_ ht ?_);refine cz (wpAny_typeOf d ?_);rw[if_pos ∅];refine cz (jj hs pl pu ?_)
 have a:(((sIx items.size 0 lo:Nat):Int) == 0 && (1:Int) == 1 && (sIx items.size items.size hi-sIx items.size 0 lo) == items.size)=true:=by
  rw[hw.1,hw.2];simp
 show wpAny _ _ (if (((sIx items.size 0 lo:Nat):Int) == 0 && (1:Int) == 1 && (sIx items.size items.size hi-sIx items.size 0 lo) == items.size)=true then _ else _) _ _ s;rw[if_pos a];refine cz (m:=Builtin.Tuple.tupleIsExact _) ?_;unfold Builtin.Tuple.tupleIsExact;refine cz (wpAny_typeOf ht.typeIs (cG ?_));show wpAny _ _ (if (Value.type "tuple" == Value.type "tuple")=true then _ else _) _ _ s;rw[if_pos ∅]
 first
  |exact cz (wpAny_rule (cG ⟨_,rfl,cG h⟩))
  |exact cz (wpAny_rule (cz (cG (cG ⟨_,rfl,cG h⟩))))
  |exact cz (cz (wpAny_rule (cG (cG ⟨_,rfl,cG h⟩))))
end
section
variable{X:Cx}
def vei(K:z0):V->qj Int->qj Int->Hp->VK->Prop:=λx lo hi H Q=>∃a xs,x=.ref a/\SqT K H a xs/\(HT.sIx xs.length 0 lo=0/\HT.sIx xs.length xs.length hi=xs.length)/\Q (.ref a) H
def yqm:SlR X (vei X.K):=by
 intro e s σ H x v p o lo t n Q I l g i f h;let⟨a,m,rfl,j,k,q⟩:=h;cases l;let⟨c,r,d,u⟩:=I.tuple j;have b:c.toArray.size=m.length:=by rw[cU];exact r.length.symm
 exact⟨"tuple",_,PyProof.Rows.slot_tuple_getitem.lookup,d.typeIs,yca d g i f (by rw[b];exact k) ⟨.ref a,H,I,rfl,q⟩⟩
end
end L2
namespace L2
open PySem PySem.Spec PyProof.Rows PySem.SeqAt
open AutoSeq1 (wpAny_loadPart')
end L2
namespace L2
open PySem PySem.Spec PyProof.Rows
variable{C D:xy}{pins:Θ}{fp:Υ}{js:qi Nat}{i:Nat}{hpos:Pos}{s2:qa}{st:qc}{qual x:Str}
def yif{X:Cx}{K:z0}{e:qg}{f:Str}{pos:Pos}{ta:TE}(hK:X.K=K)(he:PE X e ta)(hb:attributeBase e f X.env (eval e X.env)=eval e X.env):PE X (.Attribute e f pos) (ve3 K ta f):=hK ▸ yo he hb
structure vcp(K:z0)(x qual:Str)(st:qc)(D:xy)(f:xy)(fd:FuncData):Prop where
 ex:∃(oc:qb)(od:qj xy)(kV doc pm:qb)(an:qj xy)(cdv ct:qb)(osl:Array (qj qb)),
  fd=W.fnOf x qual (xh st) (ww st) (ye st) (.ref D) kV doc pm an cdv ct/\K.lookup f=some ⟨oc,od,.func fd,osl⟩/\W.codeIn K cdv qual=true
 kp:W.keepIn K (.ref f)=true
section
variable{P:qh}{w:qd}{K:z0}{mg:Ε}{base:qf}
def vcp.okE{f:xy}{fd:FuncData}{N ps:Ρ}{k:Nat}{sp:Sp}(F:vcp K x qual st D f fd)(S:yj N ps (ye st))(len:∀vs H Q E,sp vs H Q E->vs.length=ps.length)
  (hbody:∀(cdv:qb)(A:qe)(outer:qi Env)(s:qa)(H:Hp)(vs:Τ)(Q:VK)(E:XK),ji k (A.deeper (envOfC qual (ye st) s.heap.objs.size f cdv))->sp vs H Q E ->
   ∃t,PSs (vz (CXe P w) P w K mg base N qual (ye st) f cdv A outer s H E) (ww st) t/\t { nx:=λZ H'=>Q .non H',rt:=Q} (ò N vs) H):vx P w K mg base (CXe P w) (k+1) f fd ps sp:=by let⟨h,m,kV,d,i,l,cdv,j,c,rfl,e,b⟩:=F.ex;exact ys1 e b S len λA outer s H vs Q E g a=>hbody cdv A outer s H vs Q E g a
def ve4:Nat->(qi qb->Prop)->Prop
 |0,C=>C []
 |n+1,C=>∀a,ve4 n λt=>C (a::t)
def yq4:∀{n:Nat}{C:qi qb->Prop}{us:Ξ},ve4 n C->us.length=n->C us:=by
 intro n C us
 induction us generalizing n C with
 |nil=>intro h e;subst e;exact h
 |cons a t ih=>intro h e;subst e;exact ih (h a) rfl
def bindsR{ps:Ρ}{ds:Ξ}{c:qb}{od an:qj xy}{sl:Array (qj qb)}{its:Array qb}{n j:Nat}{kV doc pm cdv ct:qb}(hj:j+ds.length=ps.length)
  (h:∀(kV doc pm:qb)(an:qj xy)(cdv ct:qb),ve4 j λus =>
   ∃k:qj (Array qb)->Sem (qi (Str×qb)),bindArgs (W.fnOf x qual (xh st) (ww st) (ye st) (.ref D) kV doc pm an cdv ct) ⟨us,[]⟩=(seqItems? (.ref D) >>=k)/\k (some its)=pure (ps.zip (us++ds))) (hD:K.lookup D=some ⟨c,od,.seq its n,sl⟩):zd K (W.fnOf x qual (xh st) (ww st) (ye st) (.ref D) kV doc pm an cdv ct) ps ds:=by intro s us e a;let⟨k,d,b⟩:=yq4 (us:=us) (h kV doc pm an cdv ct) (by rw[bY]at a;omega);exact BindsTo.of_defaults rfl (e _ _ hD) rfl d b
def funD_mk{f:xy}{oc:qb}{od an:qj xy}{osl:Array (qj qb)}{kV doc pm cdv ct:qb}(l:K.lookup f=some ⟨oc,od,.func (W.fnOf x qual (xh st) (ww st) (ye st) (.ref D) kV doc pm an cdv ct),osl⟩)
  (c:W.codeIn K cdv qual=true) (k:W.keepIn K (.ref f)=true):vcp K x qual st D f (W.fnOf x qual (xh st) (ww st) (ye st) (.ref D) kV doc pm an cdv ct):=⟨⟨oc,od,kV,doc,pm,an,cdv,ct,osl,rfl,l,c⟩,k⟩
end
def yix(K:z0):qi V->Hp->VK->Prop:=λxs H Q=>∃p ys,xs=[.ref p]/\(SqL K H p ys\/SqT K H p ys)/\∀l,H l=none->Q (.ref l) (upd H l (.lst ys))
section
variable{X:Cx}{body suite:qi qc}{b₀:qc}{tx n:Str}{np pos:Pos}{tb:(St->XK)->TS}{ts:TS}
abbrev THs:=Ŕ->St->xy->xy->qj xy->Hp->Prop
def PHs(X:Cx)(hs:qi ExceptHandler)(th:THs):Prop:=∀(pins:Θ)(s:qa)(σ:St)(H:Hp)(x T Ca:xy)(d:qj xy)(En:Ŕ),Inv X pins σ H s->Fy X pins H x->Fy X pins H T->Trd s.heap x T (.ref Ca) d->th En σ Ca x d H ->
 wpAny (model X.prog X.w) X.A (handleBy (.ref x) X.env hs) (SP X pins En) X.xe s
def exm_mkB{K:z0}{b:Bool}(h0:W.subIn K (.ref D) (.type "BaseException")=some true)(h1:W.hasDictIn K D=true)(h2:W.typeIn K (.ref D)=some (.type "type"))
  (h3:W.subIn K (.ref C) (.ref D)=some b):W.exmOne K (.ref C) (.ref D)=some b:=by let⟨a,h,_⟩:=W.any_some h1;unfold W.exmOne W.kitCls;rw[h0];dsimp only;rw[h,h2,h3];cases b<;>rfl
def exH(th:THs)(En:Ŕ):St->XK:=λσ' C d H'=>∀x,H' x=none->∃Ca,C=.ref Ca/\th En σ' Ca x d H'
def vb8(tb:(St->XK)->TS)(th:THs):TS:=λEn σ H=>tb (exH th En) En σ H
def ypz{h₀:ExceptHandler}{hs:qi ExceptHandler}{th:THs}(hb:∀pn Ex,PSs (X.tr pn Ex) body (tb Ex))(hst:X.stack=X.env::X.outer/\X.env.frame=some X.env.locals)(hh:PHs X (h₀::hs) th):
  PS X (.Try body (h₀::hs) [] [] pos) (vb8 tb th):=by
 refine .mk λa s σ H i I h=>?_
 have j:∀{f l},SP (X.tr (X.pn++a) (exH th i)) [] i f l->SP X a i f l:=λ{f l}q=>by
  cases f with
  |next=>let⟨σ',c,J,q⟩:=q;exact⟨σ',c,J.unwish.unpnd,q⟩
  |brk=>let⟨σ',c,J,q⟩:=q;exact⟨σ',c,J.unwish.unpnd,q⟩
  |cont=>let⟨σ',c,J,q⟩:=q;exact⟨σ',c,J.unwish.unpnd,q⟩
  |ret u=>let⟨v,σ',c,J,r,q⟩:=q;exists v,σ',c,J.unwish.unpnd,r,q
 refine wpAny_Try_except (dM (hb (X.pn++a) (exH th i) [] s σ H i (I.pnd.wish _) h) (λf m q=>?_) λe m q=>?_)
 .have q:=j q
  cases f with
  |next=>exact wpAny_execs_nil q
  |brk=>exact q
  |cont=>exact q
  |ret u=>exact q
 .obtain⟨z,σ',c,x,T,C,d,rfl,J,g,b,tr,q⟩:=q;have J:Inv X a σ' c m:=J.unpnd;have g:Fy X a c x:=⟨g.1,g.2.1,g.2.2.1,g.2.2.2.1,g.2.2.2.2.1,λp k=>g.2.2.2.2.2 p (dA _ k)⟩;have b:Fy X a c T:=⟨b.1,b.2.1,b.2.2.1,b.2.2.2.1,b.2.2.2.2.1,λp k=>b.2.2.2.2.2 p (dA _ k)⟩;let⟨t,rfl,o⟩:=q x g.1;refine ė J.ok.frames hst.1 hst.2 J g b tr λA w J b tr=>uo J g b tr λy n J b tr=>?_;exact hh a _ σ' c x n t d i J g b tr o
end
section
variable{σ:St}{H:Hp}{nx:Ζ}{rt:VK}{bk ct:Ζ}{ts:TS}
def ytn{th:THs}{tb:(St->XK)->TS}(h:tb (exH th ⟨nx,rt,bk,ct⟩) ⟨nx,rt,bk,ct⟩ σ H):vb8 tb th ⟨nx,rt,bk,ct⟩ σ H:=h
end
section
variable{X:Cx}{σ:St}{H:Hp}{s:qa}{x T:xy}{C:qb}{M:Model}{A:qe}{E:Δ}
def yc9{what:String}{α:Type}{env:Env}{d:qj xy}{Q:α->qa->Prop}(J:Inv X pins σ H s)(hx:Fy X pins H x)(hT:Fy X pins H T)(tr:Trd s.heap x T C d)
  (k:∀s' T',Inv X pins σ H s'->Fy X pins H T'->Trd s'.heap x T' C d->E (.ref x) s'):wpAny M A (passOn what (.ref x) env:Sem α) Q E s:=by let⟨r,j,m,l,n,b,i,g,e,q,h,o,p⟩:=id tr;unfold PySem.passOn;refine cz (dG b g e ?_);rw[if_neg (show ¬((Value.ref T == Value.none)=true) by simp)];exact cz (uo J hx hT tr λs' T' c a f=>wpAny_throw (k s' T' c a f))
end
section
variable{X:Cx}{iter elt tg:qg}{xs:Ρ}{g:TG}{pos:Pos}{scope:Scope}{te:TE}{wi:TI}{ifs:qi qg}{tt:TT}{σ:St}{ys:Ρ}
def ynn{H2 H':Hp}{b:xy}(I2:Inv X pins σ H2 s2)(f2:∀b∈fp,Ĺ X pins H2 b)(hb:Fy (X.compT scope ys C xs s2 H2 fp) [] H' b):Fy X pins H' b:=by
 let⟨h,w,i,a,x,r⟩:=hb;rcases a with a|a
 .obtain⟨g1,g2,g3,g4,g5,g6⟩:=f2 b a;exists h,g2,g3,g4.imp id λz=>?_,g5,g6
  cases e:X.s₀.heap.get? b with
  |none=>rfl
  |some o=>exact absurd (dh (cP e) z) (ei _)
 .have a:s2.heap.get? b=none:=a;exists h,λz=>?_,λz=>i ?_,?_,λy c e z=>?_,λp j z=>?_
  .obtain⟨m,k,_⟩:=I2.loc;let⟨n,_,_,f,_⟩:=id k;rw[<- z,a]at f;cases f
  .show b∈frs X.stack;rcases I2.ok.stk with e|⟨e,u⟩
   .rw[e];exact z
   .rw[e];let⟨v,l,hb⟩:=List.mem_filterMap.mp z;exact List.mem_filterMap.mpr ⟨v,dz _ l,hb⟩
  .by_cases y:b∈X.ex
   .exact .inl y
   .refine .inr ?_
    cases e:X.s₀.heap.get? b with
    |none=>rfl
    |some o =>
     let⟨t,g⟩:=I2.base.there b o e y;rw[a]at g;cases g
  .obtain⟨v,q⟩:=I2.cell y c e;let⟨o,d,_⟩:=q;rw[z,a]at d;cases d
  .have d:=(I2.pin p j).1;rw[z,a]at d;cases d
def yfr{Ex:XK}{H2:Hp}{it:xy}{tn:Nat->qf->Prop}{J:It}(hc:X.calm=true)
  (ht:∀(C:xy)(s2:qa)(H2:Hp)(fp:Υ),PTs (X.compT scope ys C xs s2 H2 fp) ifs tt) (he:∀(C:xy)(s2:qa)(H2:Hp)(fp:Υ)(pn:Θ),PE ((X.compT scope ys C xs s2 H2 fp).tr pn λN=>Ex) elt te)
  (hgt:∀(C:xy)(s2:qa)(H2:Hp)(fp:Υ),PG (X.compT scope ys C xs s2 H2 fp) tg g)
  (hcell:∀y∈scope.names,y.2≠.cell) (hkind:scope.kind=.function)
  (hfr:∀y∈scope.names,y.2=.free->y.1∈ys) (hyc:∀y∈ys,X.env.kindOf y=some .cell) (hrel:∀y∈ys,(relabel scope X.env).names.lookup y=some .cell) (hjs:js.map (λj=>X.N[j]?)=ys.map some)
  (I2:Inv X pins σ H2 s2) (T:yge X.prog X.w X.K tg J fp it tn) (st2:tn 0 s2.heap) (f2:∀b∈fp,Ĺ X pins H2 b)
  {R:xy->Hp->Prop} (h:∀D,H2 D=none->yii J g tt te xs.length (wx js σ) D (R D) H2) {RR:qb->xy->Result->qa->Prop} {E:Δ}
  (hR:∀(D C:xy)(H':Hp)(s':qa)(m:Ε),Ĺ X pins H' C->s'.heap.Ns C m->Inv X pins σ H' s'->R D H'->RR (.ref D) C (.ok .next) s')
  (hE:∀Cl d H',Ex Cl d H'->(X.stack=X.env::X.outer/\∃L,X.env.frame=some L)/\∀(D C:xy)(s':qa)(m:Ε)(y U:xy),Ĺ X pins H' C->s'.heap.Ns C m->Inv X pins σ H' s'->Fy X pins H' y->Fy X pins H' U->y≠C->U≠C->Trd s'.heap y U Cl d->RR (.ref D) C (.error (.ref y)) s'):
  wpAny (model X.prog X.w) X.A (newList []) (λacc s₃=>wpAny (model X.prog X.w) X.A (newFunctionEnv scope X.env.globals (ν ys X.env) [] X.env.qual none .none (some X.env)) (λcenv s₄ =>
   codeAny (model X.prog X.w) X.A (.compStart (.ListComp elt [⟨tg,iter,ifs,0⟩] scope pos) 0 (.ref it) acc {cenv with scope:=relabel scope X.env}) (RR acc cenv.locals) s₄) E s₃) E s2:=by
 have k:∀y c,(ν ys X.env).lookup y=some c->X.env.cells.lookup y=some c:=λy c e=>by
  let⟨m,rfl⟩:=Ź e;let⟨c',q⟩:=I2.ok.has y (.inl (hyc y m));rw[q];rfl
 refine wpAny_newObj_type (wpAny_newFunctionEnv hcell (by intro y hy;simp at hy) (λh₁ hns₁ hsb₁=>?_) hkind);dsimp only at hns₁ hsb₁⊢;generalize a2:s2.heap.push { cls:=.type "list",dict:=none,data:=.seq ([]:Ξ).toArray}=G at hns₁ hsb₁⊢;have hC:G.objs.size=s2.heap.objs.size+1:=by rw[<- a2,Heap.size_push]
 have a8:s2.heap.objs.size≠G.objs.size:=by rw[hC];exact di (eF _)
 have M:s2.heap.objs.size<=G.objs.size:=by rw[hC];exact Nat.le_succ _
 have f:∀b,b<s2.heap.objs.size->b≠G.objs.size/\b≠s2.heap.objs.size:=λb a=>⟨by rw[hC];exact di (Nat.lt_succ_of_lt a),di a⟩;have P:∀b o,s2.heap.get? b=some o->h₁.get? b=some o:=λb o e=>hsb₁.extBut b o (f b (cP e)).1 (cD _ (a2 ▸ cD _ e));have aa:h₁.get? s2.heap.objs.size=some { cls:=.type "list",data:=.seq ([]:Ξ).toArray}:=hsb₁.extBut _ _ a8 (cD _ (a2 ▸ cV _ rfl));have a1:∀b∈fp,b<s2.heap.objs.size:=λb a=>let ⟨_,e,_⟩:=T.obj 0 _ st2 b a;cP e;have ab:∀b∈fp,b∉frs X.stack:=λb a z=>(cS.mp (I2.stkSub b z)).elim (f2 b a).2.1 (f2 b a).2.2.1;have nC:H2 G.objs.size=none:=I2.hok.fresh M;have nD:H2 s2.heap.objs.size=none:=I2.hok.fresh (cE _)
 have F:∀y c,(ν ys X.env).lookup y=some c->∃v o,s2.heap.get? c=some o/\o.data=.cell v:=λy c e=>by
  let⟨v,o,q1,q2⟩:=I2.cell y c (k y c e);exact⟨v,o,q1,q2⟩
 have ad:(X.compT scope ys G.objs.size xs s2 H2 fp).Ok:=by
  exists I2.ok.mod,hkind,I2.ok.glob,I2.ok.blt,M,λy z c e e'=>I2.ok.inj y z c (k y c e) (k z c e'),λy e=>?_,λy c z e=>(by cases z),I2.ok.hd,I2.ok.frames,.inl rfl,λb a=>⟨(f b (a1 b a)).1,λy c e=>(f2 b a).2.2.2.2.1 y c (k y c e)⟩,I2.bs,?_,λb o e a=>?_,λb a=>ab b a,I2.stack,I2.stkFree
  .have e':(relabel scope X.env).names.lookup y=some .cell\/(relabel scope X.env).names.lookup y=some .free:=e
   have ai:y∈ys:=by
    rcases e' with e'|e'
    .obtain⟨k0,m,q⟩:=xq e';rcases q with q|q
     .exact absurd q.symm (hcell _ m)
     .exact hfr _ m q
    .obtain⟨k0,m,q⟩:=xq e';rcases q with q|q
     .exact hfr _ m q.symm
     .exact hfr _ m q
   exists _,Ö ai
  .exact dB I2.ok.bsz I2.sz
  .rcases (f2 b a).2.2.2.1 with z|z
   .exact I2.ok.noex b o e z
   .exact absurd (dh (cP (I2.ok.bs b o e).1) z) (ei _)
 have a5:(wx js σ).length=ys.length:=by
  have:=congrArg List.length hjs;simpa[wx]using this
 have I3:∀tk,Inv (X.compT scope ys G.objs.size xs s2 H2 fp) [] (List.replicate xs.length none++wx js σ) (upd H2 s2.heap.objs.size (.lst [])) {s2 with heap:=h₁,toks:=tk}:=λtk =>
  ⟨ad,rfl,I2.bare,Un.laid P (cE _) nD,⟨_,hns₁,λi y v e1 Z e3=>by
    by_cases hi0:i<xs.length
    .rw[dS (by simpa using hi0),List.getElem?_replicate,if_pos hi0]at Z;cases Z
    .obtain⟨i,rfl⟩:∃i',i=xs.length+i':=⟨i-xs.length,()⟩;have e1:ys[i]?=some y:=by rw[dJ ()]at e1;simpa using e1
     have Z:(wx js σ)[i]?=some (some v):=by rw[dJ (by simp)]at Z;simpa using Z
     have hy:y∈ys:=cN e1;have ej:=congrArg (λl=>l[i]?) hjs;simp only[cK,e1,d8]at ej
     cases q:js[i]? with
     |none=>rw[q]at ej;cases ej
     |some j =>
      rw[q]at ej;have ej:X.N[j]?=some y:=by simpa using ej
      have es:σ[j]?=some (some v):=by
       simp only[wx,cK,q,d8,Option.some.injEq]at Z
       cases r:σ[j]? with
       |none=>rw[r]at Z;cases Z
       |some w'=>rw[r]at Z;rw[show w'=some v from Z]
      let⟨m0,_,aj⟩:=I2.loc;let⟨u,ru,lk⟩:=aj j y v ej es (.inr (.inl (hyc y hy)));exists u,ru,.inr ⟨.inl (hrel y hy),?_⟩;rcases lk with⟨k1,_⟩|⟨_,c,ec,o,ho,hd⟩
      .rw[hyc y hy]at k1;cases k1
      .exists c,?_,o,P c o ho,hd;show (ν ys X.env).lookup y=some c;rw[Ö hy,ec]
       rfl⟩,λy c e=>(by
    let⟨v,o,q1,q2⟩:=F y c e
    exact⟨v,o,P c o q1,q2⟩),(by show upd H2 s2.heap.objs.size _ G.objs.size=none;rw[yp a8.symm];exact nC),λy c e=>(by
    let⟨v,o,q1,q2⟩:=F y c e;show upd H2 s2.heap.objs.size _ c=none;rw[yp (f c (cP q1)).2]
    exact I2.freeC y c (k y c e)),λp hp=>(by simp at hp),
   I2.hok.laid P (cE _) ⟨dg _,[],_,.nil,aa⟩,by show (List.replicate xs.length none++wx js σ).length=(xs++ys).length;simp[a5]⟩
 have Y:∀{H':Hp},(∀b∈fp,H' b=none)->∀b∈fp,Ĺ (X.compT scope ys G.objs.size xs s2 H2 fp) [] H' b:=λhn b a=>⟨hn b a,(f b (a1 b a)).1,ab b a,.inl a,λy c e=>(f2 b a).2.2.2.2.1 y c (k y c e),λp hp=>(by simp at hp)⟩
 have a0:∀tk,codeAny (model X.prog X.w) X.A (.compLoop (.ListComp elt [⟨tg,iter,ifs,0⟩] scope pos) 0 (.ref it) (.ref s2.heap.objs.size) (compEnvC scope (ν ys X.env) G.objs.size X.env)) (RR (.ref s2.heap.objs.size) G.objs.size) {s2 with heap:=h₁,toks:=tk}:=by
  intro tk;let⟨W,⟨m0,w0⟩,a6⟩:=h s2.heap.objs.size nD;refine codeAny_loop rfl (λn s'=>∃i v H',List.length v=xs.length/\Inv (X.compT scope ys G.objs.size xs s2 H2 fp) [] (v++wx js σ) H' s'/\tn i s'.heap/\(∀b∈fp,H' b=none)/\W i n H') (λn s' hI=>?_) m0
   ⟨0,List.replicate xs.length none,_,by simp,I3 tk,T.keep 0 _ _ st2 (λb a o e=>P b o e),λb a=>(by rw[yp (f b (a1 b a)).2];exact(f2 b a).1),w0⟩
  let⟨i,v,H',hv,I,st,fr,w⟩:=hI;show wpAny _ _ ((compTurn (.ListComp elt [⟨tg,iter,ifs,0⟩] scope pos) 0 (.ref it) (.ref s2.heap.objs.size) (compEnvC scope (ν ys X.env) G.objs.size X.env)).onRaise (λx=>do noteFrame x (compEnvC scope (ν ys X.env) G.objs.size X.env);theTreesLotGoes x)) _ _ s';refine wpAny_noted ?_;rw[compTurn_list];refine cz (wpAny_standAt (cz ?_));rcases a6 i n H' w with⟨a4,q⟩|⟨go,a3⟩
  .refine thn (T.done (X.compT scope ys G.objs.size xs s2 H2 fp) rfl rfl rfl hc i [] s' (v++wx js σ) H' _ I (Y fr) st a4) λr s4 ⟨hr,I4⟩=>?_;subst hr;refine cG ?_;let⟨m,hn,_⟩:=I4.loc;exact hR _ _ H' s4 m (I2.fpOk M I4.free) hn (I2.call' (ch:=fp) I4.os I4.base I4.hok I4.bare λb a=>⟨(f2 b a).2.2.2.1,(f2 b a).2.1,(f2 b a).2.2.2.2.1,(f2 b a).2.2.2.2.2⟩) q
  .refine thn (T.item (X.compT scope ys G.objs.size xs s2 H2 fp) rfl rfl rfl hc i [] s' (v++wx js σ) H' _ I (Y fr) st go) λr s4 ⟨u,hr,h4⟩=>?_;subst hr;refine cz (thn h4 λN s5 ⟨y,H5,I5,r5,y5,S,ah⟩=>cz ?_);have af:=I5.pinned (Y ah) (T.obj _ _ S);refine ys4 (hgt _ _ _ _ _ s5 (v++wx js σ) H5 y u _ af r5 (a3 y H5 v y5 hv)) λN s6 ⟨σ',H6,I6,⟨B,a7,ep⟩,q6⟩=>?_;subst ep;refine cz (ys4 (ht _ _ _ _ _ s6 (B++wx js σ) H6 _ I6 q6) λb s7 ⟨O,I7,q7⟩=>?_)
   cases b with
   |false =>
    let⟨m',hm,w'⟩:=q7
    have Q:∀b∈fp,∀o,s5.heap.get? b=some o->s7.heap.get? b=some o/\O b=none:=λb a o e =>
     ⟨(I7.pin (b,o) (cO _ (cO _ (xc a e)))).1,(I7.pin (b,o) (cO _ (cO _ (xc a e)))).2.1⟩
    refine cG ⟨rfl,m',hm,i+1,B,_,a7,I7.unpinned,T.keep _ _ _ S λb a o e=>(Q b a o e).1,λb a=>?_,w'⟩;let⟨o,e,d⟩:=T.obj _ _ S b a;exact(Q b a o e).2
   |true =>
    refine cz (cz (dM (he _ _ _ _ _ [] s7 (B++wx js σ) O _ (I7.pnd.wish _) q7) (λu2 s7 ⟨y2,O,I7,r7,zs,hD,hl,m',hm,w'⟩=>cz ?_) λe7 s7 q7=>?_));rotate_left
    .obtain⟨al,σ7,O,xe,Te,Cl,d,rfl,J,t,H,tr,q⟩:=q7;let⟨⟨ac,L,ak⟩,hE⟩:=hE Cl d O q;have J:Inv (X.compT scope ys G.objs.size xs s2 H2 fp) (ň fp s5.heap) σ7 O s7:=J.unpnd;have t:Fy (X.compT scope ys G.objs.size xs s2 H2 fp) [] O xe:=⟨t.1,t.2.1,t.2.2.1,t.2.2.2.1,t.2.2.2.2.1,λp hp=>(by simp at hp)⟩;have H:Fy (X.compT scope ys G.objs.size xs s2 H2 fp) [] O Te:=⟨H.1,H.2.1,H.2.2.1,H.2.2.2.1,H.2.2.2.2.1,λp hp=>(by simp at hp)⟩;have J:Inv (X.compT scope ys G.objs.size xs s2 H2 fp) [] σ7 O s7:=Inv.unpinned (pins:=[]) J;show wpAny _ _ (noteFrame (.ref xe) X.env) _ _ _;refine ė (X:=X.compT scope ys G.objs.size xs s2 H2 fp) (outer:=X.outer) J.ok.frames ac ak J t H tr λs8 T8 J8 a9 ag=>?_;let⟨m8,ae,_⟩:=J8.loc;exact hE _ _ _ m8 xe T8 (I2.fpOk M J8.free) ae (I2.call' (ch:=fp) J8.os J8.base J8.hok J8.bare λb a=>⟨(f2 b a).2.2.2.1,(f2 b a).2.1,(f2 b a).2.2.2.2.1,(f2 b a).2.2.2.2.2⟩) (ynn I2 f2 t) (ynn I2 f2 a9) t.2.1 a9.2.1 ag
    have I7:Inv (X.compT scope ys G.objs.size xs s2 H2 fp) ([]++ň fp s5.heap) _ O s7:=I7.unwish.unpnd;refine ys4 (w9 _ s7 (B++wx js σ) O (.ref s2.heap.objs.size) [y2] (.ref s2.heap.objs.size) [u2] (λN H8=>H8=upd O s2.heap.objs.size (.lst (zs++[y2]))) I7 rfl (.cons r7 .nil) ⟨_,zs,y2,rfl,rfl,hD,hl,rfl⟩) λN s8 h'=>?_;let⟨_,H8,I8,_,e8⟩:=h';subst e8
    have Q:∀b∈fp,∀o,s5.heap.get? b=some o->s8.heap.get? b=some o/\upd O s2.heap.objs.size (HO.lst (zs++[y2])) b=none:=λb a o e =>
     ⟨(I8.pin (b,o) (cO _ (cO _ (xc a e)))).1,(I8.pin (b,o) (cO _ (cO _ (xc a e)))).2.1⟩
    refine cG (cG ⟨rfl,m',hm,i+1,B,_,a7,I8.unpinned,T.keep _ _ _ S λb a o e=>(Q b a o e).1,λb a=>?_,w'⟩);let⟨o,e,d⟩:=T.obj _ _ S b a;exact(Q b a o e).2
 exact codeAny_compStart_list (a0 _) (T.self X.A 0 _ _ _ (T.keep 0 _ _ st2 (λb a o e=>P b o e)) (a0 _))
end
section
variable{X:Cx}{iter elt:qg}{px pos:Pos}{scope:Scope}{wi:TI}{σ:St}{ys:Ρ}
def Ń{Ex:St->XK}{te:(St->XK)->TE}{H2:Hp}{it:xy}{tn:Nat->qf->Prop}{J:It}(hc:X.calm=true)
  (he:∀(C:xy)(s2:qa)(H2:Hp)(fp:Υ)(pn:Θ)(Ex:St->XK),PE ((X.compF scope ys C x s2 H2 fp).tr pn Ex) elt (te Ex))
  (hst:X.stack=X.env::X.outer/\∃L,X.env.frame=some L) (hca:ι X Ex)
  (hcell:∀y∈scope.names,y.2≠.cell) (hkind:scope.kind=.function) (hx:scope.names.lookup x=some .local) (hnd:(x::ys).Nodup)
  (hfr:∀y∈scope.names,y.2=.free->y.1∈ys) (hyc:∀y∈ys,X.env.kindOf y=some .cell) (hrel:∀y∈ys,(relabel scope X.env).names.lookup y=some .cell) (hjs:js.map (λj=>X.N[j]?)=ys.map some)
  (I2:Inv X pins σ H2 s2) (T:yge X.prog X.w X.K (.Name x px) J fp it tn) (st2:tn 0 s2.heap) (f2:∀b∈fp,Ĺ X pins H2 b)
  {R:xy->Hp->Prop} (h:∀D,H2 D=none->ue J (te λN=>Ex σ) (wx js σ) D (R D) H2) {use:qj (qb->Sem Unit)} {Q:Δ} {E:Δ}
  (hR:∀(D C:xy)(H':Hp)(s':qa)(m:Ε),Ĺ X pins H' C->s'.heap.Ns C m->Inv X pins σ H' s'->R D H'->compPost (model X.prog X.w) X.A X.xe use Q (.ref D) C (.ok .next) s'):
  wpAny (model X.prog X.w) X.A (newList []) (λacc s₃=>wpAny (model X.prog X.w) X.A (newFunctionEnv scope X.env.globals (ν ys X.env) [] X.env.qual none .none (some X.env)) (λcenv s₄ =>
   codeAny (model X.prog X.w) X.A (.compStart (.ListComp elt [⟨.Name x px,iter,[],0⟩] scope pos) 0 (.ref it) acc {cenv with scope:=relabel scope X.env}) (compPost (model X.prog X.w) X.A X.xe use Q acc cenv.locals) s₄) E s₃) E s2:=by
 refine yfr (Ex:=Ex σ) (tg:=.Name x px) (xs:=[x]) (g:=xb 0) (tt:=vet) (RR:=compPost (model X.prog X.w) X.A X.xe use Q) hc (λN N N N=>yi4) (λC s2 H2 fp pn=>he C s2 H2 fp pn λN=>Ex σ)
  (λC s2 H2 fp=>wj (i:=0) hnd rfl (Or.inl (lookup_relabel_local hx)) (Or.inr (lookup_relabel_local hx))) hcell hkind hfr hyc hrel hjs I2 T st2 f2 (λD Z=>?_) hR λu d H' q=>⟨hst,λD C s' m y U f hn S v F ny nU tr=>?_⟩
 .obtain⟨W,w0,a⟩:=yop (h D Z);exists W,w0,λi m H w=>(a i m H w).imp id λ⟨I,c⟩=>⟨I,λx H3 p y hp=>c x H3 p y hp⟩
 .have n:∃m,s'.heap.Ns C m/\∀h',Heap.SameBut C s'.heap h'->∀cenv:Env,cenv.locals=C->wpAny (model X.prog X.w) X.A (passOn "comprehension.variables-let-go" (.ref y) cenv:Sem qb) (λN N=>False) X.xe {s' with heap:=h'}:=by
   exists m,hn,λh' t cenv N=>?_;have l:=S.turned (t':=s'.toks) (h':=h') (λb o hb e=>t.extBut b o hb e) f.1 f.2.1 f.2.2.2.1 f.2.2.2.2.1 f.2.2.2.2.2
   have k:Trd h' y U u d:=by
    let⟨oe,O,z,ws,a1,G,P,q3,q4,q5,q6,Y,B⟩:=tr;exists oe,O,z,ws,a1,t.extBut _ _ ny G,P,q3,q4,q5,t.extBut _ _ nU q6,Y,B
   exact yc9 (X:=X) l v F k λs3 M I3 r t3=>hca pins σ H' s3 y M u d I3 v r t3 q
  cases use<;>exact n
def yjo(wi:TI)(te:(St->XK)->TE)(Ex:St->XK)(js:qi Nat):TE:=λσ H Q=>wi σ H λJ H1=>∀D,H1 D=none->ue J (te λZ=>Ex σ) (wx js σ) D (λH2=>Q (.ref D) H2) H1
def ydx{Ex:St->XK}{te:(St->XK)->TE}(hc:X.calm=true)(hi:PI X (.Name x px) iter wi)(he:∀(C:xy)(s2:qa)(H2:Hp)(fp:Υ)(pn:Θ)(Ex:St->XK),PE ((X.compF scope ys C x s2 H2 fp).tr pn Ex) elt (te Ex))(hjs:js.map (λj=>X.N[j]?)=ys.map some)
  (hclos:closureFor scope X.env=pure (ν ys X.env)) (hst:X.stack=X.env::X.outer/\∃L,X.env.frame=some L) (hca:ι X Ex) (hnd:autoParam ((x::ys).Nodup) aB._auto_1) (hyc:∀y∈ys,X.env.kindOf y=some .cell) (hrel:∀y∈ys,(relabel scope X.env).names.lookup y=some .cell)
  (hfr:autoParam (∀y∈scope.names,y.2=.free->y.1∈ys) aG._auto_1) (hcell:autoParam (∀y∈scope.names,y.2≠.cell) aG._auto_1) (hkind:autoParam (scope.kind=.function) aD._auto_1)
  (hnames:autoParam (∀y∈scope.names,y.2=.local->scope.names.lookup y.1=some .local) aG._auto_1) (hx:autoParam (scope.names.lookup x=some .local) aD._auto_1) (hs:autoParam (∀x,foldedSetIterable iter X.env x=pure x) aC._auto_1):
  PE X (.ListComp elt [⟨.Name x px,iter,[],0⟩] scope pos) (yjo wi te Ex js):=by refine .mk λa s σ H Q I h=>?_;rw[eval_ListComp];refine wpAny_comprehension_free (use:=none) rfl hs hclos hkind hnames (thn (hi a s σ H _ I h) λv z i=>thn i λr s2 l=>?_);let⟨E,fp,B,J,H2,e,p,T,c,u,h⟩:=l;subst e;refine Ń (R:=λD d=>Q (.ref D) d) (use:=none) hc he hst hca hcell hkind hx hnd hfr hyc hrel hjs p T c u h λD C d n m f k g q=>?_;exists m,k,λA t=>⟨.ref D,d,?_,rfl,q⟩;exact g.turned (t':=n.toks) (λb o w e=>t.extBut b o w e) f.1 f.2.1 f.2.2.2.1 f.2.2.2.2.1 f.2.2.2.2.2
def ykt{Ex:St->XK}{te:(St->XK)->TE}{y:Str}{py spos:Pos}(hN:X.N.Nodup)(hy:X.N[i]?=some y)(hl:X.env.scope.names.lookup y=some .local)(hc:X.calm=true)(hi:PI X (.Name x px) iter wi)
  (he:∀(C:xy)(s2:qa)(H2:Hp)(fp:Υ)(pn:Θ)(Ex:St->XK),PE ((X.compF scope ys C x s2 H2 fp).tr pn Ex) elt (te Ex)) (hjs:js.map (λj=>X.N[j]?)=ys.map some)
  (hclos:closureFor scope X.env=pure (ν ys X.env)) (hst:X.stack=X.env::X.outer/\∃L,X.env.frame=some L) (hca:ι X Ex) (hyc:∀y∈ys,X.env.kindOf y=some .cell) (hrel:∀y∈ys,(relabel scope X.env).names.lookup y=some .cell)
  (hsw:autoParam (swapsWith (.ListComp elt [⟨.Name x px,iter,[],0⟩] scope pos) (some (.Name y py)) spos.line X.env=pure true) aD._auto_1) (hnd:autoParam ((x::ys).Nodup) aB._auto_1)
  (hfr:autoParam (∀y∈scope.names,y.2=.free->y.1∈ys) aG._auto_1) (hcell:autoParam (∀y∈scope.names,y.2≠.cell) aG._auto_1) (hkind:autoParam (scope.kind=.function) aD._auto_1)
  (hnames:autoParam (∀y∈scope.names,y.2=.local->scope.names.lookup y.1=some .local) aG._auto_1) (hx:autoParam (scope.names.lookup x=some .local) aD._auto_1) (hs:autoParam (∀x,foldedSetIterable iter X.env x=pure x) aC._auto_1):
  PS X (.Assign [.Name y py] (.ListComp elt [⟨.Name x px,iter,[],0⟩] scope pos) spos) (ytd (yjo wi te Ex js) (xb i)):=by
 refine .mk λa s σ H g I h=>?_;rw[exec_Assign_Name_used _ _ _ _ hsw];refine cz (wpAny_standAt (cz ?_));show wpAny _ X.A (do let _ <- comprehension (.ListComp elt [⟨.Name x px,iter,[],0⟩] scope pos) scope X.env _ (newList []) false (eval iter X.env) (some (assign (.Name y py) X.env))) _ _ s;refine cz (dM (wpAny_comprehension_free (use:=some (assign (.Name y py) X.env)) (Q:=λZ d=>SP X a g .next d) rfl hs hclos hkind hnames (thn (hi a s σ H _ I h) λv O u=>thn u λB s2 G=>?_)) (λZ d w=>cG (cG w)) λZ Z e=>e);let⟨S,fp,P,J,H2,e,F,T,p,K,h⟩:=G;subst e;refine Ń (R:=λD k=>xb i (.ref D) σ k g.nx) (use:=some (assign (.Name y py) X.env)) (Q:=λZ d=>SP X a g .next d) hc he hst hca hcell hkind hx hnd hfr hyc hrel hjs F T p K h λD C k d m f M E q=>?_;refine wpAny_assign_Name (Ì (v:=V.ref D) E hN hy (Or.inl hl) rfl (λr l n=>?_) (Or.inr hl));exists m,?_,λU t=>⟨_,k,?_,q⟩
 .obtain⟨b,t,c⟩:=n;refine M.sameBut t λz=>?_;rcases c with c|c
  .exact f.2.1 (z.trans c)
  .exact f.2.2.2.2.1 y b c z.symm
 .exact l.turned (t':=r.toks) (λb o c e=>t.extBut b o c e) f.1 f.2.1 f.2.2.2.1 f.2.2.2.2.1 f.2.2.2.2.2
end
section
variable{σ:St}{H:Hp}{Q:VK}{wi:TI}{te:(St->XK)->TE}{Ex:St->XK}
def ysm(h:wi σ H λJ H1=>∀D,H1 D=none->ue J (te λZ=>Ex σ) (wx js σ) D (λH2=>Q (.ref D) H2) H1):yjo wi te Ex js σ H Q:=h
end
section
variable{M:Model}{h:qf}{K:z0}
def yd5{β:Type}{g:qb->β->Sem (ForInStep β)}{b0 b1:β}{f:qb->Bool}{cs:Ξ}(hg:∀c∈cs,W.Looks M h (g c b0) (if f c then .done b1 else .yield b0)):W.Looks M h (forIn cs b0 g) (if cs.any f then b1 else b0):=by
 induction cs with
 |nil =>
  intro A Q E s k q;rw[List.forIn_nil];exact cG q
 |cons c r ih =>
  intro A Q E s k q;rw[List.forIn_cons];have z:=hg c (by simp);rw[List.any_cons]at q
  cases e:f c with
  |false =>
   rw[e]at z q;exact cz (z A _ E s k (ih (λd a=>hg d (by simp[a])) A Q E s k q))
  |true =>
   rw[e]at z q;exact cz (z A _ E s k (cG q))
def yv9{cs:Ξ}{cls:qb}{tp e:xy}{m:Nat}{ob:Obj}{f:qb->Bool}(X:K.In h)(LT:W.Looks M h (typeOf (.ref e)) cls){h2:qf}(hk:∀b o,h.get? b=some o->h2.get? b=some o)(hp:h2.get? tp=some ob)(hc:ob.cls=.type "tuple")(hd:ob.data=.seq cs.toArray m)(hx:∀c∈cs,W.exmOne K cls c=some (f c)):W.Looks M h2 (excMatches (.ref e) (.ref tp)) (cs.any f):=by
 have g:W.Looks M h2 (isInstance (.ref tp) (.type "tuple")) true:=by
  have e:W.Looks M h2 (typeOf (.ref tp)) ob.cls:=(W.Looks.ld hp).andThen .now;rw[hc]at e;exact e.andThen (W.Looks.of_pure isSubtype_tuple_tuple)
 intro A Q E s k q;have d:∀b o,h.get? b=some o->s.heap.get? b=some o:=λb o z=>k b o (hk b o z);unfold excMatches;refine cz (g A _ E s k ?_);dsimp only;rw[if_pos rfl];refine cz (wpAny_seqItems (k _ _ hp) hd ?_);dsimp only[Option.getD_some,Option.getD];refine cz (cG ?_);refine cz (yd5 (M:=M) (h:=h) (f:=λZ=>false) (b1:=PUnit.unit) (cs:=cs) (λc hc=>?_) A _ E s d ?_)
 .intro A Q E s k q;let⟨a,_⟩:=W.exm_cls (M:=M) X (hx c hc);refine cz (a A _ E s k ?_);rw[if_neg ∅];exact cG q
 .refine cz (LT A _ E s d ?_);refine cz (yd5 (M:=M) (h:=h) (b0:=((none:qj Bool),Unit.unit)) (b1:=(some true,Unit.unit)) (f:=f) (cs:=cs) (λc hc=>?_) A _ E s d ?_)
  .intro A Q E s k q;let⟨_,a⟩:=W.exm_cls (M:=M) X (hx c hc);refine cz (a A _ E s k ?_)
   cases e:f c with
   |false =>
    rw[e]at q;exact cG q
   |true =>
    rw[e]at q;exact cG q
  .cases e:cs.any f with
   |false =>
    rw[e]at q;exact cG q
   |true =>
    rw[e]at q;exact cG q
end
section
variable{X:Cx}{suite:qi qc}{b₀:qc}{tx n:Str}{np pos:Pos}{ts:TS}
def ypq(Ex:St->XK):THs:=λZ σ Ca Z d H=>Ex σ (.ref Ca) d H
def yr4{Ex:St->XK}(hca:ι X Ex):PHs X [] (ypq Ex):=λa Z σ H x Z Z d Z J c g h q =>
 wpAny_handleBy_nil (yc9 (X:=X) J c g h λi e j b f=>hca a σ H i x e _ d j c b f q)
end
section
variable{σ:St}{H:Hp}{ts:TS}{K:z0}{Ca:xy}{d:qj xy}{tr:THs}{En:Ŕ}{cs:Υ}
def vc9{Ex:St->XK}(h:Ex σ (.ref Ca) d H):exH (ypq Ex) En σ (.ref Ca) d H:=λZ Z=>⟨Ca,rfl,h⟩
end
def Ū:entryFor table "proto.unchain"=some Builtin.«proto.unchain»:=entryFor_of_tree (by kernel_rfl)
section
variable{prog:qh}{w:qd}{A:qe}{E:Δ}{s:qa}{x y:xy}{ox oy:Obj}{vs us:Array qb}
def ych{α:Type}{Q:α->qa->Prop}(hh:A.handled=some (.ref y))(ne:y≠x)(hy:s.heap.get? y=some oy)(dy:oy.data=.fields us)(cy:us[2]?=some .none)
  (hx:s.heap.get? x=some ox) (dx:ox.data=.fields vs) (lx:2<vs.size) (h:E (.ref x) {s with heap:=s.heap.update x (Obj.mapFields (·.setIfInBounds 2 (.ref y)))}):
  wpAny (model prog w) A (raiseNew (.ref x):Sem α) Q E s:=by unfold raiseNew;refine cz (wpAny_handled ?_);rw[hh];dsimp only;rw[if_pos (show (Value.ref y != Value.ref x)=true by simp[ne])];refine cz (wpAny_holding (wpAny_runValue (codeAny_builtin Ū ?_)));unfold Builtin.«proto.unchain»;dsimp only;refine cz (dG hy dy cy ?_);rw[if_pos ∅];refine cz (cG ?_);refine cG ?_;show wpAny _ _ (setField (.ref x) 2 (.ref y) >>=λZ=>throw _) _ _ _;exact cz (wpAny_setField hx dx lx (wpAny_throw h))
def yd8{K:z0}{msg:String}{Q:Δ}(X:K.In s.heap)(c:XCls K C)(hx:s.heap.get? x=some ox)(hc:ox.cls=.ref C)(dx:ox.data=.fields vs)(h:Q (.ref x) s):
  wpAny (model prog w) A (excFromValue (.ref x) msg) Q E s:=by have I:ħ x C s.heap:=⟨ox,hx,hc⟩;have e:=I.type (M:=model prog w);have d:W.Looks (model prog w) s.heap (isInstance (.ref x) (.type "BaseException")) true:=e.andThen (W.looks_mroIn X c.mb);let⟨f,g,b,a⟩:=ox;dsimp only at hc dx;subst hc dx;unfold excFromValue isExcClass isType loadHead;refine cz (cz (cz (wpAny_loadPart hx ?_)));refine cG ?_;dsimp only;rw[if_neg ∅];refine cG ?_;rw[if_neg ∅];refine cz (d.at ?_);rw[if_pos rfl];exact cG h
def ycf{env:Env}{cx cc:Sem qb}{K:z0}{Cy:xy}{Q:Flow->qa->Prop}(hh:A.handled=some (.ref y))(hC:XMk K C)(cC:XCls K C)(cY:XCls K Cy)
  (h:wpAny (model prog w) A cx (λv s₁=>∃e t,v=.ref e/\wpAny (model prog w) A cc (λu s₂=>u=.ref y/\y≠e/\s₂.heap.get? e=some { cls:=.ref C,data:=.fields #[.ref t,.none,.none,.none,.bool false,.none]}/\
   (∃oy us,s₂.heap.get? y=some oy/\oy.cls=.ref Cy/\oy.data=.fields us/\us[2]?=some .none)/\(∀h',(∀b,b≠e->h'.get? b=s₂.heap.get? b)->K.In h')/\
   ∀h',(∀b,b≠e->h'.get? b=s₂.heap.get? b)->h'.get? e=some { cls:=.ref C,data:=.fields #[.ref t,.none,.ref y,.ref y,.bool true,.none]}->E (.ref e) {s₂ with heap:=h'}) E s₁) E s):
  wpAny (model prog w) A (raiseStmt env (some cx) (some cc)) Q E s:=by
 unfold raiseStmt;refine cz (dM h (λv s₁ h₁=>?_) λZ Z z=>z);let⟨e,t,rfl,h₁⟩:=h₁;refine cz (wpAny_holding (dM h₁ (λu s₂ h₂=>?_) λZ Z z=>z));let⟨rfl,j,d,⟨oy,us,o,B,m,D⟩,i,k⟩:=h₂;refine cz (cG ?_);refine cz (wpAny_holding (yd8 (i _ λZ Z=>rfl) cC d rfl rfl ?_));dsimp only;rw[if_neg (by simp)];refine cz (wpAny_holding (yd8 (i _ λZ Z=>rfl) cY o B m ?_));refine cz (wpAny_setField d rfl (show 3<6 by decide) ?_);have g:=Heap.get?_update_self (Obj.mapFields (·.setIfInBounds 3 (Value.ref y))) d rfl;have l:∀b,b≠e->(s₂.heap.update e (Obj.mapFields (·.setIfInBounds 3 (Value.ref y)))).get? b=s₂.heap.get? b:=λb n=>Heap.get?_update_other _ _ (Ne.symm n);generalize s₂.heap.update e (Obj.mapFields (·.setIfInBounds 3 (Value.ref y)))=g3 at g l⊢;refine cz (wpAny_setField (s:={s₂ with heap:=g3}) g rfl (show 4<6 by decide) ?_);have a:=Heap.get?_update_self (Obj.mapFields (·.setIfInBounds 4 (Value.bool true))) g rfl;have c:∀b,b≠e->(g3.update e (Obj.mapFields (·.setIfInBounds 4 (Value.bool true)))).get? b=s₂.heap.get? b:=λb n=>(Heap.get?_update_other _ _ (Ne.symm n)).trans (l b n);dsimp only;generalize g3.update e (Obj.mapFields (·.setIfInBounds 4 (Value.bool true)))=g4 at a c⊢;have p:=i g4 c
 have r:∀{Q:Bool->qa->Prop}{E:Δ},Q false {s₂ with heap:=g4}->wpAny (model prog w) A (isType (.ref e)) Q E {s₂ with heap:=g4}:=λq=>by
  unfold isType loadHead;exact cz (wpAny_loadPart a (cG q))
 refine cz (r ?_);rw[if_neg ∅];refine cz ?_;unfold raisedInstance;have x:ħ e C g4:=⟨_,a,rfl⟩;refine cz (x.type.at ?_);let⟨_,_,_,_,_,_,_,_,_,_,_,_,_,_,_,_,_,f,_⟩:=yc5 p hC;have tC:W.Looks (model prog w) g4 (typeOf (.ref C)) (.type "type"):=(W.Looks.ld f).andThen .now;refine cz (tC.at ?_);rw[if_pos (by simp)];refine cG ?_;unfold setFlight;refine cz (cz (dG a rfl (show _=some Value.none from rfl) ?_));rw[if_neg ∅];refine cG ?_;refine ych (s:={s₂ with heap:=g4}) hh j ((c y j).trans o) m D a rfl (show 2<6 by decide) ?_;exact k _ (λb n=>(Heap.get?_update_other _ _ (Ne.symm n)).trans (c b n)) (Heap.get?_update_self (Obj.mapFields (·.setIfInBounds 2 (Value.ref y))) a rfl)
end
section
variable{Y:Cx}{σ:St}{H1:Hp}{s1:qa}{np cpos pos:Pos}{e₀:qg}{vt:qi qg}{t:TA}
def yk4{R:Hp->Prop}{Q:Δ}(hg:Gl Y x)(hm:Y.mg x=some (.ref C))(hC:XMk Y.K C)(ha:PA Y (e₀::vt) t)(he:starEach (e₀::vt) Y.env=(false,eval e₀ Y.env)::starEach vt Y.env)
  (hplain:(backTo cpos (starEach vt Y.env)).any (·.1)=false) (I:Inv Y pins σ H1 s1) (h:t σ H1 λvs H2=>vs.length<=sizeLine/\R H2)
  (k:∀s₂ h' e vs H2,Inv Y pins σ H2 s₂->Heap.MadeExcOf s₂.heap h' e (.ref C) vs->R H2->Q (.ref e) {s₂ with heap:=h'}) (hdb:autoParam ((x == ("__debug__":Str))=false) aB._auto_1):
  wpAny (model Y.prog Y.w) Y.A (eval (.Call (.Name x np) (e₀::vt) [] cpos) Y.env) Q Y.xe s1:=by
 let⟨tl,NN,W,q,H,v,O,D,J,z,M,X,P,S,N,Z,G,b,n,m,T⟩:=yc5 I.mod.kin hC
 have o:(backTo cpos (starEach (e₀::vt) Y.env)).any (·.1)=false:=by
  rw[he];show (false || (backTo cpos (starEach vt Y.env)).any (·.1))=false;rw[hplain];rfl
 refine wpAny_Call_ofName (jd I hg hm ?_ hdb);unfold callWith;have u:=ha cpos pins s1 σ H1 _ I h
 have B:wpAny (model Y.prog Y.w) Y.A (evalArgs (.ref C) true (backTo cpos (starEach (e₀::vt) Y.env)) []) (λa s₂=>a.kw=[]/\a.pos.length<=sizeLine/\∃H2,Inv Y pins σ H2 s₂/\R H2) Y.xe s1:=by
  rw[he]at u⊢;exact Calls.evalArgs_plain (dM u (by rintro vs s₂ ⟨xs,H2,c,r,E,j⟩;exact⟨rfl,by rw[<- r.length];exact E,H2,c,j⟩) λw w y=>y)
 refine cz (wpAny_holding (dM B (λa s₂ h₂=>cz (wpAny_standAt ?_)) λw w x=>x));let⟨p,l⟩:=a;let⟨i,f,H2,c,j⟩:=h₂;obtain rfl:l=[]:=i;have b:=c.bk _ _ b;have n:=n.keeps c.bk;have T:=T.keeps c.bk;let⟨U,g,d,L,os⟩:=s₂;simp only[o];refine cz (wpAny_keeperOf_exc b ?_);refine cz (wpAny_call_exc_subT (hrest:=f) F.excBase_ValueError T b n m λh' e hm=>cz (wpAny_holding (wpAny_point (cG ?_))));exact k _ h' e _ H2 c hm j
end
section
variable{X:Cx}{σ:St}{H:Hp}{s:qa}{x:xy}{oe:Obj}{us:Array qb}
def Inv.pinE(I:Inv X pins σ H s)(hx:Fy X pins H x)(q1:s.heap.get? x=some oe)(q3:oe.data=.fields us):Inv X (pins++[(x,oe)]) σ H s:=I.pins_of λp a=>by
 rcases db.mp a with z|z
 .exact I.pin p (cO _ z)
 .obtain rfl:=cR.mp z;exists q1,hx.1,hx.2.1,hx.2.2.1,λv e=>by rw[q3]at e;cases e
def Fy.pinned{T:xy}(hT:Fy X pins H T)(ne:T≠x):Fy X (pins++[(x,oe)]) H T:=⟨hT.1,hT.2.1,hT.2.2.1,hT.2.2.2.1,hT.2.2.2.2.1,λp a=>by
 rcases db.mp a with z|z
 .exact hT.2.2.2.2.2 p (dA _ z)
 .rcases db.mp z with z|z
  .exact hT.2.2.2.2.2 p (cO _ z)
  .obtain rfl:=cR.mp z;exact ne.symm⟩
end
section
variable{X:Cx}{tx n xC:Str}{np np2 cpos pos:Pos}{L:xy}{e₀:qg}{vt:qi qg}{ta:TA}{Ex:XK}
noncomputable def vb9(f:xy->Bool):qb->Bool
 | .ref D=>f D
 |_=>false
def thF(K:z0)(cs:Υ)(C:xy)(i:Nat)(ta:TA)(Ex:XK)(tr:THs):THs:=λEn σ Ca x d H=>∃f:xy->Bool,(∀D∈cs,W.exmOne K (.ref Ca) (.ref D)=some (f D))/\∀p,H p=none->p≠x ->
 if cs.any f then d=none/\XCls K Ca/\ta (σ.set i (some (.ref x))) (upd H p (.tup (cs.map V.ref))) (λvs H2=>vs.length<=sizeLine/\Ex (.ref C) (some x) H2)else tr En σ Ca x d (upd H p (.tup (cs.map V.ref)))
def yp3{es:qi qg}{px2:Pos}{ctx:Nat}{cs:Υ}{t:TE}{rest':qi ExceptHandler}{tr:THs}(ht:∀pn x,PE (X.su pn x) (.Tuple es ctx px2) t)(hte:∀σ H(Q:VK),(∀p,H p=none->Q (.ref p) (upd H p (.tup (cs.map V.ref))))->t σ H Q)
  (hst:X.stack=X.env::X.outer/\X.env.frame=some L) (hN:X.N.Nodup) (hi:X.N[i]?=some n) (hl:X.env.scope.names.lookup n=some .local) (hv:∀pn x,PE (X.su pn x) (.Name n np2) (vcv i))
  (hg:Gl X xC) (hm:X.mg xC=some (.ref C)) (hC:XMk X.K C) (cC:XCls X.K C) (ha:∀pn x,PA (X.su pn x) (e₀::vt) ta) (hca:ι X λN=>Ex) (hr:PHs X rest' tr)
  (he:autoParam (starEach (e₀::vt) X.env=(false,eval e₀ X.env)::starEach vt X.env) aD._auto_1) (hpl:autoParam ((backTo cpos (starEach vt X.env)).any (·.1)=false) aD._auto_1) (hdb:autoParam ((xC == ("__debug__":Str))=false) aB._auto_1):
  PHs X (.ExceptHandler (some (.Tuple es ctx px2)) (some n) [.Raise (some (.Call (.Name xC np) (e₀::vt) [] cpos)) (some (.Name n np2)) pos] hpos::rest') (thF X.K cs C i ta Ex tr):=by
 intro pins s σ H x T Ca d En J hx hT ah q;let⟨f,ak,q⟩:=q;let⟨oe,us,oU,ws,a1,q1,q2,q3,q4,q5,q6,q7,q8⟩:=id ah;have ok:=J.ok;have J2:=(J.pinE hx q1 q3).pinE (hT.pinned q5) q6 q7;refine wpAny_handleBy_cons (codeAny_handlers_test ?_) (by intro z;cases z);refine dM (ht (X.pn++(pins++[(x,oe)]++[(T,oU)])) x [] s σ H (λv H1=>∃p,v=.ref p/\H p=none/\H1=upd H p (.tup (cs.map V.ref))) (J2.su x) (hte σ H _ λp hp=>⟨p,rfl,hp,rfl⟩)) (λc s1 hc=>?_) λN N z=>False.elim z;let⟨v,H1,l,r1,p,rfl,hp,rfl⟩:=hc;obtain rfl:c=.ref p:=r1;have l:=l.unsu ok;have px:=l.pin (x,oe) (by simp);have pT:=l.pin (T,oU) (by simp);have B:Fy X pins (upd H p (.tup (cs.map V.ref))) x:=⟨px.2.1,hx.2⟩;have a3:Fy X pins (upd H p (.tup (cs.map V.ref))) T:=⟨pT.2.1,hT.2⟩;have P:Trd s1.heap x T (.ref Ca) d:=⟨oe,us,oU,ws,a1,px.1,q2,q3,q4,q5,pT.1,q7,q8⟩;have l:Inv X pins σ (upd H p (.tup (cs.map V.ref))) s1:=Inv.unpinned (Inv.unpinned l);have ad:ħ x Ca s1.heap:=⟨oe,px.1,q2.1⟩;let⟨_,aE,am,ho⟩:=l.hok p (.tup (cs.map V.ref)) ya;have ev:=Ē am;subst ev;have nx:=q p hp λz=>by have e:=px.2.1;rw[z]at e;exact absurd (ya.symm.trans e) (by intro w;cases w)
 let⟨ob,o1,o2,m,o3⟩:=ho;have ea:(cs.map Value.ref).any (vb9 f)=cs.any f:=by rw[List.any_map];rfl
 refine yv9 (M:=model X.prog X.w) (h:=s1.heap) (f:=vb9 f) l.kIn ad.type (λN N z=>z) o1 o2 o3 (λc hc=>?_) _ _ _ _ (λN N z=>z) ?_
 .obtain⟨D,hD,rfl⟩:=cI.mp hc;exact ak D hD
 rw[ea]
 cases e:cs.any f with
 |false =>
  rw[e]at nx;exact hr pins _ σ _ x T Ca d En l B a3 P nx
 |true =>
  rw[e]at nx;let⟨rfl,cY,q⟩:=nx;dsimp only[if_true];refine codeAny_handlers_suite_as ?_;refine uo l B a3 P λs4 T4 J4 az a6=>?_;let⟨a,av,aC,aF,a4,p1,p2,p3,p4,p5,p6,p7,p8⟩:=id a6;have J5:=J4.pinE B p1 p3;refine ú (X:=X.su (X.pn++(pins++[(x,a)])) x) (i:=i) (v:=V.ref x) (J5.su x) hN hi (Or.inl hl) rfl (λs5 J6=>?_) (Or.inr hl);refine wpAny_execs_cons ?_;rw[arm_exec_Raise];refine cz (wpAny_standAt ?_);refine ycf (K:=X.K) (C:=C) (Cy:=Ca) (y:=x) rfl hC cC cY ?_;refine cz (dM (yk4 (Y:=X.su (X.pn++(pins++[(x,a)])) x) (R:=λj=>Ex (.ref C) (some x) j) (Q:=λv s'=>∃s₂ F e vs j,v=.ref e/\s'={s₂ with heap:=F}/\Inv (X.su (X.pn++(pins++[(x,a)])) x) [] (σ.set i (some (.ref x))) j s₂/\Heap.MadeExcOf s₂.heap F e (.ref C) vs/\Ex (.ref C) (some x) j)
   hg hm hC (ha _ x) he hpl J6 q (λs₂ F e vs j A m r=>⟨s₂,F,e,vs,j,rfl,rfl,A,m,r⟩) hdb) (λv s' z=>?_) λN N z=>False.elim z)
  let⟨s₂,F,e,vs,j,rfl,rfl,A,m,r⟩:=z;let⟨t,an,aD,_⟩:=m.there;refine cz (wpAny_standAt (cG ⟨e,t,rfl,?_⟩));have E:Inv X (pins++[(x,a)]) (σ.set i (some (.ref x))) j s₂:=A.unsu ok;have g:Fy X pins j e:=Ō (Inv.unpinned E) m.new (A.hok.none_of m.new);have I3:Inv (X.su (X.pn++(pins++[(x,a)])) x) [] (σ.set i (some (.ref x))) j {s₂ with heap:=F}:=A.kept (t':=s₂.toks) m.keeps;have ne:x≠e:=λz=>by have w:=(E.pin (x,a) (by simp)).1;rw[z,m.new]at w;cases w
  have ao:=I3.pinE (Ō A m.new (A.hok.none_of m.new)) an rfl;have al:i<σ.length:=by rw[J.len];exact(cF.mp hi).1
  refine cz (dM (hv _ x _ _ _ _ (λv H'=>v=.ref x/\j=H') ao ⟨.ref x,List.getElem?_set_self al,rfl,rfl⟩) (λu s3 z=>?_) λN N z=>False.elim z);let⟨v,H3,I4,rv,rfl,rfl⟩:=z;obtain rfl:u=.ref x:=rv;have pe:=(I4.pin (e,{ cls:=.ref C,data:=.fields #[.ref t,.none,.none,.none,.bool false,.none]}) (by simp)).1;have U:Inv X (pins++[(x,a)]) (σ.set i (some (.ref x))) j s3:=Inv.unsu (Inv.unpinned (pins:=[]) I4) ok;have a9:=(U.pin (x,a) (by simp)).1;have aw:Inv X pins (σ.set i (some (.ref x))) j s3:=Inv.unpinned U;have nl:∀b o,s₂.heap.get? b=some o->b≠e:=λb o w z=>by rw[z,m.new]at w;cases w
  refine cz (wpAny_standAt (cG ⟨rfl,ne,pe,⟨a,av,a9,p2.1,p3,p2.2.2⟩,λF o b ob k=>(o b (nl b ob (A.kIn _ _ k))).trans (I4.kIn _ _ k),λh6 o6 e6=>?_⟩))
  have ab:∀b∈frs X.stack,b≠e:=λb hb=>by
   let⟨_,o,w,_⟩:=E.stack.mem hb;exact nl b o w
  have I6:Inv X pins (σ.set i (some (.ref x))) j {s3 with heap:=h6}:=aw.fly g g (λb o n1 N N z=>(o6 b n1).trans z) λb o hb z=>⟨o.slots,(o6 b (ab b hb)).trans z⟩;refine yd2 (X:=X) (s:={s3 with heap:=h6}) (d:=some x) I6.ok.frames hst.1 hst.2 I6 g e6 rfl rfl rfl rfl λs7 T7 I7 I au=>?_;let⟨a0,ar,O,ai,a7,r1,r2,r3,r4,r5,r6,r7,r8⟩:=id au;have I8:=(I7.pinE g r1 r3).pinE (I.pinned r5) r6 r7;refine I8.unbind hN hi hl λs9 S=>?_;have aa:=(S.pin (e,a0) (by simp)).1;have aq:=(S.pin (T7,O) (by simp)).1;have ae:Trd s9.heap e T7 (.ref C) (some x):=⟨a0,ar,O,ai,a7,aa,r2,r3,r4,r5,aq,r7,r8⟩;have S:Inv X pins _ j s9:=Inv.unpinned (Inv.unpinned S);refine yc9 (X:=X) S g I ae λay aA Z a2 ap=>?_;refine ė Z.ok.frames hst.1 hst.2 Z g a2 ap λaG ag as G a5=>?_;show wpAny _ _ _ _ _ _;let⟨aB,aH,aJ,aI,a8,z1,z2,z3,z4,z5,z6,z7,z8⟩:=id a5;refine cz (dG z1 z3 z4 ?_);rw[if_neg (show ¬((Value.ref ag == Value.none)=true) by simp)];exact uo as g G a5 λaj ax ac W af=>hca pins _ j aj e ax _ (some x) ac g W af r
end
end L2
namespace L2
open PySem
section
variable{K:z0}{C D:xy}
set_option tactic.hygienic true in
def yoo(q:XMk K C):∃cd t,W.clsIn K C=some cd/\cd.mro=.ref C::t/\W.typeIn K (.ref C)=some (.type "type"):=by
 have q:W.excIn K C bmV "ValueError.__new__"=true:=q;unfold W.excIn at q
 split at q
 .rename_i dd cd sl ho
  split at q
  .rename_i C' t k0 k1 k2 k3 n k5 hm hs
   simp only[cZ,beq_iff_eq]at q;let⟨⟨⟨⟨⟨rfl,_⟩,_⟩,_⟩,_⟩,_⟩:=q;exists cd,t,by unfold W.clsIn;rw[ho],hm,by show (K.lookup _).map _=_;rw[ho];rfl
  .cases q
 .cases q
def å(d:XCls K D)(rC:XMk K C)(rD:XMk K D):∃b,W.exmOne K (.ref C) (.ref D)=some b/\(C=D->b=true):=by
 let⟨h,t,f,a,_⟩:=yoo rC;let⟨i,u,g,_,c⟩:=yoo rD;exists h.mro.contains (.ref D),?_,λe=>by rw[a,e];simp
 unfold W.exmOne W.kitCls;rw[show W.subIn K (.ref D) (.type "BaseException")=some true from d.mb];dsimp only;rw[g,c];show W.mroIn K C (.ref D)=_;unfold W.mroIn;rw[f];dsimp only[Option.bind];rw[a];rfl
end
end L2
namespace L2
open PySem
section
variable{σ:St}{H:Hp}{K:z0}{Ca C:xy}{tr:THs}{En:Ŕ}{i:Nat}{cs:Υ}{ta:TA}{Ex:XK}{d:qj xy}
def vc4(h1:∀D∈cs,∃b,W.exmOne K (.ref Ca) (.ref D)=some b)(h2:∃D∈cs,W.exmOne K (.ref Ca) (.ref D)=some true)(cY:XCls K Ca)
  (h:∀x p,H x=none->H p=none->p≠x->ta (σ.set i (some (.ref x))) (upd H p (.tup (cs.map V.ref))) λvs H2=>vs.length<=sizeLine/\Ex (.ref C) (some x) H2):exH (thF K cs C i ta Ex tr) En σ (.ref Ca) none H:=λx d=>by
 exists Ca,rfl,λD=>(W.exmOne K (.ref Ca) (.ref D)).getD false,λD a=>?_,λp c f=>?_
 .obtain⟨b,e⟩:=h1 D a;simp only[e,Option.getD_some]
 .rw[if_pos]
  .exists rfl,cY,h x p d c f
  .obtain⟨D,a,e⟩:=h2;exact List.any_eq_true.mpr ⟨D,a,by rw[e];rfl⟩
def yyy(h1:∀D∈cs,W.exmOne K (.ref Ca) (.ref D)=some false)(h:∀p,H p=none->exH tr En σ (.ref Ca) d (upd H p (.tup (cs.map V.ref)))):exH (thF K cs C i ta Ex tr) En σ (.ref Ca) d H:=λx f=>by
 exists Ca,rfl,λD=>false,λD c=>h1 D c,λp b a=>?_;rw[if_neg]
 .obtain⟨g,e,q⟩:=h p b x (by rw[yp a.symm];exact f);cases e;exact q
 .simp
end
end L2
namespace L2
open PySem PySem.Spec PyProof.Rows
variable{tg:qg}{p0 p1 p2 x:Str}
def pG{p:Prop}(h:p):p:=h
structure Dg(K:z0)(x q:Str)(st:qc)(f:xy)(fd:FuncData)(M:Prop):Prop where
 F:Fun K x q st f fd
 m:M
structure Df(K:z0)(x q:Str)(st:qc)(ps:Ρ)(f:xy)(fd:FuncData)(M:Prop):Prop where
 F:Fun K x q st f fd
 B:zd K fd ps []
 m:M
def ydd{α:Type}{n:Nat}{a:qi α}(h:a.length=n+1):∃x r,a=x::r/\r.length=n:=by
 cases a with
 |nil=>cases h
 |cons x r=>exists x,r,rfl,Nat.succ.inj h
abbrev Dgf(K:z0)(mg:Ε)(x:Str)(st:qc)(f:xy)(fd:FuncData):Prop:=Dg K x x st f fd (mg x=some (.ref f))
abbrev Dgm(K:z0)(C:xy)(x q:Str)(st:qc)(f:xy)(fd:FuncData):Prop:=Dg K x q st f fd (Meth K C x f)
abbrev Dff(K:z0)(mg:Ε)(x:Str)(st:qc)(ps:Ρ)(f:xy)(fd:FuncData):Prop:=Df K x x st ps f fd (mg x=some (.ref f))
abbrev Dfm(K:z0)(C:xy)(x q:Str)(st:qc)(ps:Ρ)(f:xy)(fd:FuncData):Prop:=Df K x q st ps f fd (Meth K C x f)
section
variable{K:z0}{mg:Ε}{h:qf}{q:Str}{st:qc}{f C:xy}{fd:FuncData}{M:Prop}{oc kV doc pm cdv ct:qb}{od an:qj xy}{osl:Array (qj qb)}
def dgf_mk(X:K.In h)(G:h.Ns mainGlobals mg)(a:W.nsIn K mainGlobals x=some (some (.ref f)))(l:K.lookup f=some ⟨oc,od,.func (W.fnOf x x (xh st) (ww st) (ye st) .none kV doc pm an cdv ct),osl⟩)
  (c:W.codeIn K cdv x=true) (k:W.keepIn K (.ref f)=true):Dgf K mg x st f (W.fnOf x x (xh st) (ww st) (ye st) .none kV doc pm an cdv ct):=⟨ynq l c k,W.mg_of X G a⟩
def dgm_mk(a:W.findIn K (.ref C) x=some (some (.ref f)))(i:W.isFn K (.ref f)=true)(l:K.lookup f=some ⟨oc,od,.func (W.fnOf x q (xh st) (ww st) (ye st) .none kV doc pm an cdv ct),osl⟩)
  (c:W.codeIn K cdv q=true) (k:W.keepIn K (.ref f)=true):Dgm K C x q st f (W.fnOf x q (xh st) (ww st) (ye st) .none kV doc pm an cdv ct):=⟨ynq l c k,a,i,k⟩
def Dg.d1(D:Dg K x q st f fd M)(h:autoParam (∀(kV doc pm:qb)(an:qj xy)(cdv ct:qb)(u0:qb),bindArgs (W.fnOf x q (xh st) (ww st) (ye st) .none kV doc pm an cdv ct) ⟨[u0],[]⟩=pure [(p0,u0)]) aH._auto_1):Df K x q st [p0] f fd M :=
 ⟨D.F,D.F.binds λkV doc pm an cdv ct d b=>(by
  let⟨u0,c,rfl,a⟩:=ydd b;obtain rfl:=d6 a;exact h kV doc pm an cdv ct u0),D.m⟩
def Dg.d2(D:Dg K x q st f fd M)(h:autoParam (∀(kV doc pm:qb)(an:qj xy)(cdv ct:qb)(u0 u1:qb),bindArgs (W.fnOf x q (xh st) (ww st) (ye st) .none kV doc pm an cdv ct) ⟨[u0,u1],[]⟩=pure [(p0,u0),(p1,u1)]) aH._auto_1):Df K x q st [p0,p1] f fd M :=
 ⟨D.F,D.F.binds λkV doc pm an cdv ct d a=>(by
  let⟨u0,e,rfl,c⟩:=ydd a;let⟨u1,g,rfl,b⟩:=ydd c;obtain rfl:=d6 b;exact h kV doc pm an cdv ct u0 u1),D.m⟩
def Dg.d3(D:Dg K x q st f fd M)(h:autoParam (∀(kV doc pm:qb)(an:qj xy)(cdv ct:qb)(u0 u1 u2:qb),bindArgs (W.fnOf x q (xh st) (ww st) (ye st) .none kV doc pm an cdv ct) ⟨[u0,u1,u2],[]⟩=pure [(p0,u0),(p1,u1),(p2,u2)]) aH._auto_1):Df K x q st [p0,p1,p2] f fd M :=
 ⟨D.F,D.F.binds λkV doc pm an cdv ct e b=>(by
  let⟨u0,g,rfl,d⟩:=ydd b;let⟨u1,i,rfl,c⟩:=ydd d;let⟨u2,j,rfl,a⟩:=ydd c;obtain rfl:=d6 a;exact h kV doc pm an cdv ct u0 u1 u2),D.m⟩
def Dg.d4{p3:Str}(D:Dg K x q st f fd M)(h:autoParam (∀(kV doc pm:qb)(an:qj xy)(cdv ct:qb)(u0 u1 u2 u3:qb),bindArgs (W.fnOf x q (xh st) (ww st) (ye st) .none kV doc pm an cdv ct) ⟨[u0,u1,u2,u3],[]⟩=pure [(p0,u0),(p1,u1),(p2,u2),(p3,u3)]) aH._auto_1):Df K x q st [p0,p1,p2,p3] f fd M :=
 ⟨D.F,D.F.binds λkV doc pm an cdv ct g c=>(by
  let⟨u0,i,rfl,e⟩:=ydd c;let⟨u1,j,rfl,d⟩:=ydd e;let⟨u2,k,rfl,a⟩:=ydd d;let⟨u3,l,rfl,b⟩:=ydd a;obtain rfl:=d6 b;exact h kV doc pm an cdv ct u0 u1 u2 u3),D.m⟩
def Dg.d5{p3 p4:Str}(D:Dg K x q st f fd M)(h:autoParam (∀(kV doc pm:qb)(an:qj xy)(cdv ct:qb)(u0 u1 u2 u3 u4:qb),bindArgs (W.fnOf x q (xh st) (ww st) (ye st) .none kV doc pm an cdv ct) ⟨[u0,u1,u2,u3,u4],[]⟩=pure [(p0,u0),(p1,u1),(p2,u2),(p3,u3),(p4,u4)]) aH._auto_1):Df K x q st [p0,p1,p2,p3,p4] f fd M :=
 ⟨D.F,D.F.binds λkV doc pm an cdv ct i d=>(by
  let⟨u0,k,rfl,g⟩:=ydd d;let⟨u1,l,rfl,e⟩:=ydd g;let⟨u2,n,rfl,b⟩:=ydd e;let⟨u3,o,rfl,c⟩:=ydd b;let⟨u4,j,rfl,a⟩:=ydd c;obtain rfl:=d6 a;exact h kV doc pm an cdv ct u0 u1 u2 u3 u4),D.m⟩
end
def yo1{K:z0}{W:xy}{od:qj xy}{its:Array qb}{n:Nat}{sl:Array (qj qb)}{xs:Τ}(l:K.lookup W=some ⟨.type "tuple",od,.seq its n,sl⟩)(hz:its.size<=sizeLine)(hv:wq xs its.toList):∀H,SqT K H W xs:=λZ=>.inr ⟨_,_,_,l,rfl,rfl,hz,hv⟩
structure KC(K:z0)(C:xy):Prop where
 pg:W.plainGet K C Str.empty=true
 hd:W.hasDictIn K C=true
 po:W.plainOver K C=true
 sa:W.findIn K (.ref C) "__setattr__"=some (some (.builtin "object.__setattr__"))
 mk':W.makesIn K C=true
 kc:W.keepIn K (.ref C)=true
section
variable{K:z0}{H:Hp}{p C dx:xy}{fs fs':Ι}{v:V}{nm:Str}{P:V->Prop}{nx:Ζ}{σ:St}
abbrev RdX(K:z0)(H:Hp)(p:xy)(nm:Str)(P:V->Prop):Prop:=∃a' C dx fs v,V.ref p=.ref a'/\H a'=some (.ins C dx fs)/\Cls K C/\NoAttr K C nm/\fs.lookup nm=some v/\P v
abbrev StX(K:z0)(H:Hp)(p:xy)(nm:Str)(v:V)(nx:Ζ)(σ:St):Prop:=∃a' C dx fs,V.ref p=.ref a'/\H a'=some (.ins C dx fs)/\Cls K C/\NoAttr K C nm/\fs.length<1000/\wd nx σ (upd H a' (.ins C dx (ε nm v fs)))
abbrev MtX(H:Hp)(p C:xy)(nm:Str)(R:Prop):Prop:=∃a dx fs,V.ref p=.ref a/\H a=some (.ins C dx fs)/\fs.lookup nm=none/\R
def rdX(hp:H p=some (.ins C dx fs))(c:Cls K C)(n:NoAttr K C nm)(l:fs.lookup nm=some v)(h:P v):RdX K H p nm P:=⟨p,C,dx,fs,v,rfl,hp,c,n,l,h⟩
def stX(hp:H p=some (.ins C dx fs))(c:Cls K C)(n:NoAttr K C nm)(l:fs.length<1000)(e:ε nm v fs=fs')(h:wd nx σ (upd H p (.ins C dx fs'))):StX K H p nm v nx σ:=⟨p,C,dx,fs,rfl,hp,c,n,l,by rw[e];exact h⟩
def gRd(h:RdX K H p nm P):RdX K H p nm P:=h
def gSt(h:StX K H p nm v nx σ):StX K H p nm v nx σ:=h
def gMt{R:Prop}(h:MtX H p C nm R):MtX H p C nm R:=h
def lt0:([]:Ι).length<1000:=by show 0<1000;decide
def lt1{a:Str×V}:[a].length<1000:=by show 1<1000;decide
def lt2{a b:Str×V}:[a,b].length<1000:=by show 2<1000;decide
def lt3{a b c:Str×V}:[a,b,c].length<1000:=by show 3<1000;decide
def lt4{a b c d:Str×V}:[a,b,c,d].length<1000:=by show 4<1000;decide
def lt5{a b c d e:Str×V}:[a,b,c,d,e].length<1000:=by show 5<1000;decide
def lt6{a b c d e f:Str×V}:[a,b,c,d,e,f].length<1000:=by show 6<1000;decide
theorem yzq:∀{fs:Ι},nm∉fs.map (·.1)->fs.lookup nm=none
 |[],_=>rfl
 |(g,v)::r,h=>wc (λe=>h (by rw[e];exact dQ)) (yzq λm=>h (dz _ m))
def mtX{R:Prop}{N:Ρ}(hp:H p=some (.ins C dx fs))(k:fs.map (·.1)=N)(n:nm∉N)(h:R):MtX H p C nm R:=⟨p,dx,fs,rfl,hp,yzq (by rw[k];exact n),h⟩
def we{N P:Ρ}{sc:Scope}(h:(sc.kind=.function/\sc.isCoroutine=false/\sc.isGenerator=false)/\N.Nodup/\N.take P.length=P/\(∀x∈P,sc.names.lookup x=some .local\/sc.names.lookup x=some .cell)/\∀y∈sc.names,y.2≠.free):yj N P sc:=⟨h.1.1,h.1.2.1,h.1.2.2,h.2.1,h.2.2.1,h.2.2.2.1,h.2.2.2.2⟩
end
def yh1{α β:Type}{F:α->β->Prop}{l₁:qi α}{l₂:qi β}(h:Paired F l₁ l₂):∀{i:Nat}{y:β},l₂[i]?=some y->∃x,l₁[i]?=some x/\F x y:=by
 induction h with
 |nil=>intro i y e;cases e
 |cons r t ih =>
  intro i y e
  cases i with
  |zero=>cases e;exists _,rfl,r
  |succ j=>exact ih e
noncomputable def Its(x:Str):It:=⟨λi Z=>i<x.cps.size,λi H v H'=>H'=H/\∃c,x.cps[i]?=some c/\v=.str ⟨#[c]⟩,λi Z=>i=x.cps.size⟩
def ydg{P:qh}{w:qd}{K:z0}{ty:String}(x:Str)(t:Tok)(it:xy)(hn:["enumerate","zip","dict_itemiterator","dict_reverseitemiterator","odict_iterator","itertools.zip_longest","itertools.pairwise"].contains ty=false)
  (W:∀A:qe,A.handled=none->Walks P w A it [it] [it] x.cps.size (SignAt x) (λi h=>h.IsStrIter it ty x t i)) (hs:∀(A:qe)(i:Nat)(s:qa)(Q E:Δ),s.heap.IsStrIter it ty x t i->Q (.ref it) s->wpAny (model P w) A (pyIter (.ref it)) Q E s):yge P w K tg (Its x) [it] it (λi h=>h.IsStrIter it ty x t i) where
 mem:=by simp
 obj:=λi h a b g=>by
  have e:b=it:=by simpa using g
  subst e;let⟨o,e,_,d⟩:=a;exists o,e,λv z=>by rw[d]at z;cases z
 keep:=λi h n a k=>let ⟨o,e,r⟩:=a;⟨o,k it (by simp) o e,r⟩
 item:=by
  intro X q p F B i f s σ H E I m a l;subst q p F;let⟨C,G,U,L,M,D⟩:=m it (by simp);refine(W X.A (I.ok.hd B)).item i s _ _ l a λv n y T j J=>?_;let⟨c,u,O,rfl⟩:=T;have S:Inv X f σ H {s with heap:=n,toks:=y}:=I.turned (λb o g e=>J b o (by simpa using g) e) C G L M D;let⟨o,e,R,N⟩:=id j;exists _,rfl,ym2 (s:={s with heap:=n,toks:=y}) e R N hn ⟨.str ⟨#[c]⟩,H,S,⟨u,rfl⟩,⟨rfl,c,O,rfl⟩,j,λb g=>(m b g).1⟩
 done:=by
  intro X q p F B i f s σ H E I m a l;subst q p F;have l:i=x.cps.size:=l;subst l;let⟨C,G,U,L,M,D⟩:=m it (by simp);exact(W X.A (I.ok.hd B)).done s _ _ a λn y J=>⟨rfl,I.turned (λb o g e=>J b o (by simpa using g) e) C G L M D⟩
 self:=λA i s Q E a h=>hs A i s Q E a h
section
variable{X:Cx}
def vff(tl:TE):TI:=λσ H R=>tl σ H λv H1=>∃x,v=.str x/\R (Its x) H1
def ykb{l:qg}{tl:TE}(hl:PE X l tl):PI X tg l (vff tl):=by
 intro c s σ H R I h;refine thn (hl c s σ H _ I h) λv a h'=>?_;let⟨y,g,f,m,x,e,q⟩:=h';subst e;let⟨t,rfl⟩:=m
 have d:∀{ob:Obj},∀b∈[a.heap.objs.size],Ĺ X c g b:=λ{_}b k=>by
  have e:b=a.heap.objs.size:=by simpa using k
  subst e;exact f.fpOk (cE _) (f.hok.fresh (cE _))
 cases ha:x.cps.all (· <128)
 .refine wpAny_pyIter_wide ha ?_;exists a.heap.objs.size,[a.heap.objs.size],_,_,g,rfl,f.kept (t':=a.toks) λb o e=>cD _ e,ydg x t _ ∅ (λA i=>Walks.strWide i _ x t) (λZ Z Z Z Z j h=>wpAny_pyIter_striter_wide j h),⟨_,cV _ rfl,rfl,rfl⟩,d (ob:=default),q
 .refine wpAny_pyIter_ascii ha ?_;exists a.heap.objs.size,[a.heap.objs.size],_,_,g,rfl,f.kept (t':=a.toks) λb o e=>cD _ e,ydg x t _ ∅ (λA i=>Walks.strAscii i _ x t) (λZ Z Z Z Z j h=>wpAny_pyIter_striter_ascii j h),⟨_,cV _ rfl,rfl,rfl⟩,d (ob:=default),q
def yym{tl:TE}{σ:St}{H:Hp}{R:It->Hp->Prop}(h:tl σ H λv H1=>∃x,v=.str x/\R (Its x) H1):vff tl σ H R:=h
def yc3{k:Str}{t:Tok}{pos:Pos}(hg:Gl X x)(hm:X.mg x=some (.str k t))(hd:autoParam ((x == ("__debug__":Str))=false) aB._auto_1):PE X (.Name x pos) (tC (.str k)):=yda hg hm ⟨t,rfl⟩ hd
end
def č{D:xy}{te:TE}{R:Hp->Prop}{H1:Hp}(f:Nat->V)(hD:H1 D=none)
  (hs:∀i c H,x.cps[i]?=some c->i<x.cps.size->yx H1 H->H D=some (.lst ((List.range i).map f))->te [some (.str ⟨#[c]⟩)] H (MpK H1 D f x.cps.size i)) (hd:∀H,yx H1 H->H D=some (.lst ((List.range x.cps.size).map f))->R H):yeh (Its x) te D R H1:=by
 exists cW x.cps.size (Mp H1 D f),⟨x.cps.size,by simp,dg _,Mp.zero hD⟩,?_;rintro i m H ⟨rfl,b,p⟩;by_cases hlt:i<x.cps.size
 .refine .inr ⟨hlt,λv d y=>?_⟩;let⟨rfl,c,a,rfl⟩:=y;exact hs i c _ a hlt p.1 p.2
 .have e:i=x.cps.size:=()
  subst e;exact .inl ⟨rfl,hd H p.1 p.2⟩
def vdr{P:qh}{w:qd}{k:Key}{u:qb}(r:(xn P w).is k u=true):xj (kV k) u:=by rcases wu r with⟨i,t,rfl,rfl⟩|⟨x,t,rfl,rfl⟩<;>exact⟨t,rfl⟩
def KV.get{kvs:qi (Key×V)}{vs:qi (Key×qb)}(r:KV kvs vs){i:Nat}{k:Key}{u:qb}(h:vs[i]?=some (k,u)):∃v,kvs[i]?=some (k,v)/\xj v u:=by let⟨⟨c,v⟩,e,a,b⟩:=yh1 r h;have a:c=k:=a;exists v,by rw[e,a],b
def yrn{xs:Τ}{us:Ξ}(hl:xs.length=us.length)(h:∀(i:Nat)u,us[i]?=some u->∃x,xs[i]?=some x/\xj x u):wq xs us:=by
 induction xs generalizing us with
 |nil =>
  cases us with
  |nil=>exact .nil
  |cons u us=>cases hl
 |cons x xs ih =>
  cases us with
  |nil=>cases hl
  |cons u us =>
   let⟨y,e,r⟩:=h 0 u rfl;cases e;exact .cons r (ih (Nat.succ.inj hl) λi u a=>h (i+1) u a)
section
variable{X:Cx}
def yw8:qi V->Hp->VK->Prop:=λxs H Q=>∃d kvs,xs=[.ref d]/\H d=some (.dK kvs)/\∀l,H l=none->Q (.ref l) (upd H l (.lst (kvs.map λp=>kV p.1)))
def yfm(hc:X.calm=true):jo X (.type "list") yw8:=by
 intro g s σ H T P Q I r h;let⟨d,kvs,rfl,A,q⟩:=h;let⟨u,rfl,N⟩:=ĸ r;cases N;let⟨j,c,f,r,K,z,ep,J,C,E,F⟩:=(show xl X.prog X.w H s.heap d (.dK kvs)from I.hok d _ A);have t:s.heap.DictAt (xn X.prog X.w) d f ep:=⟨K,z,J,C,E,F⟩;refine W.kdl_call (W.kdl_dict (knd:=xn X.prog X.w) (kvs:=f) (ep:=ep) c) (I.ok.hd hc) t (by rw[<- r.length];exact j) λM B a n o e b=>?_
 have D:wq (kvs.map λp=>kV p.1) a.toList:=yrn (by have O:=b.1;have S:=r.length;have R:a.toList.length=a.size:=d9;rw[bz];omega) λi v G=>by
  let⟨k,x,l,m⟩:=b.2 i v (by rw[<- Array.getElem?_toList];exact G);let⟨y,L,_⟩:=r.get l;exists kV k,by rw[cK,L];rfl,vdr m
 exists .ref s.heap.objs.size,_,I.laid (t':=B) o (cE _) (show xl X.prog X.w _ M _ (.lst _)from ⟨by rw[bz];exact j,a.toList,n,D,by rw[Array.toArray_toList];exact e⟩),rfl,q _ (I.hok.fresh (cE _))
end
noncomputable def isN:V->Bool
 | .non=>true
 |_=>false
noncomputable def vcm:qb->Bool
 | .none=>true
 |_=>false
def vge(K:z0):R2:=λx y H Q=>∃p xs,x=.non/\y=.ref p/\SqL K H p xs/\(∀z∈xs,z=.non\/∃q ys,z=.ref q/\SqL K H q ys)/\Q (.bl (xs.any isN)) H
theorem yij:∀{xs:Τ}{us:Ξ},wq xs us->(∀z∈xs,z=.non\/∃q,z=.ref q)->us.any vcm=xs.any isN
 |_,_,.nil,_=>rfl
 |y::xs,u::us,.cons r t,f=>by
  rw[List.any_cons,List.any_cons,yij t λz a=>f z (dz _ a)]
  congr 1
  rcases f y dQ with rfl|⟨q,rfl⟩
  .cases r;rfl
  .cases r;rfl
def yyb{X:Cx}(hu:X.A.units+64<cLine):OpR X (compareOp .In) (vge X.K):=by
 intro n s σ H x y v u Q I G E h;let⟨p,c,rfl,rfl,C,d,q⟩:=h;cases G;cases E;let⟨b,r,D,F⟩:=I.list C
 have k:∀{c:Τ}{g:Ξ},wq c g->(∀z∈c,z=.non\/∃q o,z=.ref q/\SqL X.K H q o)->∀w∈g,SeqAt.EqAt X.A.in1 s w .none (vcm w):=by
  intro c g B
  induction B with
  |nil=>intro _ w a;cases a
  |cons r1 t ih =>
   intro f w a;rcases cS.mp a with rfl|a
   .rcases f _ dQ with rfl|⟨J,o,rfl,j⟩
    .cases r1;exact SeqAt.EqAt.same _
    .cases r1;let⟨m,_,i,_⟩:=I.list j;exact SeqAt.EqAt.list_none i.isList (by show X.A.units+1<cLine;omega)
   .exact ih (λz d=>f z (dz _ d)) w a
 refine SeqAt.in_listAt vcm D.isList (λw a=>k r d w (by simpa using a)) ⟨.bl _,H,I,rfl,?_⟩;rw[show b.toArray.any vcm=b.any vcm by simp,yij r λz l=>(d z l).imp id λ⟨q,_,e,_⟩=>⟨q,e⟩];exact q
def yhf{X:Cx}:jo X (.builtin "len") (λxs H Q=>∃a kvs,xs=[V.ref a]/\H a=some (.dK kvs)/\Q (.int kvs.length) H):=by intro b s σ H xs f Q I r h;let⟨a,kvs,rfl,e,q⟩:=h;let⟨u,rfl,d⟩:=ĸ r;cases d;exact veb I (.of e) λt g c=>⟨.int kvs.length,H,c,⟨t,rfl⟩,q⟩
def yrs{σ:St}{H:Hp}{Q:VK}(h:∀p,H p=none->Q (.ref p) (upd H p (.dK []))):yor σ H Q:=h
section
variable{X:Cx}
def vez:V->qj Int->qj Int->Hp->VK->Prop:=λx lo hi H Q=>∃z:Str,x=.str z/\z.length<=sizeLine/\Q (.str (Txt.slice z lo hi)) H
def yo9:SlR X vez:=by
 intro e s σ H x v o n lo p m Q I g a f d h;let⟨z,rfl,b,q⟩:=h;let⟨t,rfl⟩:=g;refine⟨"str",_,F.slot_str_getitem.lookup,typeIs_str _ _ _,?_⟩
 cases f with
 |none =>
  cases d with
  |none=>exact wpAny_getItem_str_slice (l:=none) (u:=none) (st:=none) a rfl (post_val_or_str ⟨dB (Txt.slice_le z _ _) b,λc k=>⟨.str _,H,I.tok _,⟨_,rfl⟩,q⟩⟩)
  |int j uj=>exact wpAny_getItem_str_slice (l:=none) (u:=some (j,uj)) (st:=none) a rfl (post_val_or_str ⟨dB (Txt.slice_le z _ _) b,λc k=>⟨.str _,H,I.tok _,⟨_,rfl⟩,q⟩⟩)
 |int i ui =>
  cases d with
  |none=>exact wpAny_getItem_str_slice (l:=some (i,ui)) (u:=none) (st:=none) a rfl (post_val_or_str ⟨dB (Txt.slice_le z _ _) b,λc k=>⟨.str _,H,I.tok _,⟨_,rfl⟩,q⟩⟩)
  |int j uj=>exact wpAny_getItem_str_slice (l:=some (i,ui)) (u:=some (j,uj)) (st:=none) a rfl (post_val_or_str ⟨dB (Txt.slice_le z _ _) b,λc k=>⟨.str _,H,I.tok _,⟨_,rfl⟩,q⟩⟩)
def yl1{j:Nat}(h:j<=x.length):(Txt.slice x none (some (j:Int))).cps.toList=x.cps.toList.take j:=by have e:=slice_closes_toL (x:=x) (j:=(j:Int)) () ();rw[beq_iff_eq.mp e];simp
def yfj{j:Nat}(h:j<=x.length):(Txt.slice x (some (j:Int)) none).cps.toList=x.cps.toList.drop j:=by
 rw[slice_from_eq (b:=(x.length:Int)) () () rfl];have e:x.length=x.cps.toList.length:=by simp[Str.length]
 simp;rw[dE (by rw[df,e];omega)]
end
section
variable{X:Cx}
def vd0:R2:=λx y H Q=>∃(z:Str)(k:Int),x=.str z/\y=.int k/\0<=k/\k<=2000/\z.length<=1000/\∀z':Str,z'.cps.toList=(List.replicate k.toNat z.cps.toList).flatten->Q (.str z') H
theorem yia(a:Array Nat):∀(k:Nat)(b:Array Nat),((List.replicate k a).foldl (·++·) b).toList=b.toList++(List.replicate k a.toList).flatten
 |0,b=>by simp
 |k+1,b=>by
  rw[dP,List.foldl_cons,yia a k,Array.toList_append,dP,List.flatten_cons,cH]
theorem yf4:OpR X (binaryOp .Mult) vd0:=by
 intro b s σ H x y v u Q I j f h;let⟨z,k,rfl,rfl,l,m,g,q⟩:=h;let⟨t,rfl⟩:=j;let⟨n,rfl⟩:=f;by_cases k0:k<1
 .exact P.mul_str_none k0 () ⟨.str Str.empty,H,I.tok _,⟨_,rfl⟩,q _ (by rw[show k.toNat=0 by omega];rfl)⟩
 have o:z.length*k.toNat<=1000*2000:=Nat.mul_le_mul g ();refine P.mul_str (by rw[cX (),cX ()];rfl) (λZ Z=>?_) (λZ Z=>?_) ?_
 .have i:(z.length:Int)*k=((z.length*k.toNat:Nat):Int):=by rw[Int.natCast_mul,Int.toNat_of_nonneg ()]
  have d:(z.length:Int)*k<=(2^63-1:Int):=by rw[i];omega
  exact Int.not_lt.mpr (Int.le_ediv_of_mul_le () d)
 .have:=sizeLine_eq;unfold Builtin.Str.tooLong;exact cX ()
 .rw[if_neg ()];by_cases h1:(k == 1 || z.length == 0)=true
  .rw[if_pos h1];exists .str z,H,I,⟨_,rfl⟩,q z ?_;rcases Bool.or_eq_true_iff.mp h1 with e|e
   .rw[beq_iff_eq.mp e];simp
   .have c:z.cps.toList=[]:=d6 (by have:=beq_iff_eq.mp e;simpa[Str.length]using this);rw[c];simp
  .rw[if_neg h1];have a:=yia z.cps k.toNat #[];exists ?_,⟨.str _,H,I.tok _,⟨_,rfl⟩,q _ a⟩
   have e:Str.length ⟨(List.replicate k.toNat z.cps).foldl (·++·) #[]⟩=k.toNat*z.cps.toList.length:=by
    show ((List.replicate k.toNat z.cps).foldl (·++·) #[]).size=_;rw[<- d9,a];simp[List.sum_replicate_nat]
   rw[e,sizeLine_eq,Nat.mul_comm];have:z.cps.toList.length=z.length:=by simp[Str.length]
   rw[this];omega
end
section
variable{prog:qh}{w:qd}
noncomputable def vdv(k:Int×qi Int):Int:=reduceHash (Builtin.Tuple.tupleHashOf [hashInt k.1,reduceHash (Builtin.Tuple.tupleHashOf (k.2.map hashInt))])
variable{A:qe}{E:Δ}{s:qa}
end
abbrev NX:=(Int×qi Int)×xy×xy
def vgm(x:NX):DictEntry:=⟨vdv x.1,.ref x.2.1,.ref x.2.2⟩
def ND(a:xy)(xs:qi NX):HO:=.ext λh=>(a == sysModules)=false/\∃o es ep,h.get? a=some o/\o.ExactDict/\o.data=.dict es ep/\es.toList=xs.map vgm
def NKy(H:Hp)(p:xy)(k:Int×qi Int):Prop:=∃b,H p=some (.tup [.int k.1,.ref b])/\H b=some (.tup (k.2.map V.int))
structure NDt(H:Hp)(a:xy)(xs:qi NX):Prop where
 o:H a=some (ND a xs)
 k:∀x∈xs,NKy H x.2.1 x.1
 n:(xs.map (·.1)).Nodup
 l:xs.length<sizeLine
def yoc{X:Cx}{K:z0}{o e:qg}{es:qi qg}{to:TE}{t:TA}{name:Str}{apos cpos:Pos}{T id:String}{r:V->qi V->Hp->VK->Prop}(hK:X.K=K)(pa:PlainAttrs T)(slot:Slot T name id)(hty:typeOf (.builtin id)=pure (.type "method_descriptor"))(hm:MtR X id r)(ho:PE X o to)(ha:PA X (e::es) t)
  (hbase:autoParam (attributeBase o name X.env (eval o X.env)=eval o X.env) aD._auto_1)
  (hfew:((backTo cpos (starEach (e::es) X.env)).all (λx=>!x.1) && (backToKw cpos (keywordEach [] X.env)).all (λx=>x.1.isSome)
   && decide ((e::es).length+([]:qi Keyword).length+(if ([]:qi Keyword).isEmpty then 0 else 1)<30))=true:=by rfl)
  (hline:autoParam ((apos.endLine == cpos.line)=true) aD._auto_1) (hs:autoParam (starEach (e::es) X.env=(false,eval e X.env)::starEach es X.env) aD._auto_1) (hplain:autoParam ((backTo cpos (starEach es X.env)).any (·.1)=false) aD._auto_1):
  PE X (.Call (.Attribute o name apos) (e::es) [] cpos) (tBM K T r to t):=hK ▸ jg pa slot hty hm ho ha hbase hfew hline hs hplain
end L2
namespace L2
open PySem PySem.Spec PyProof.Rows PySem.SeqAt PySem.Builtin PySem.Builtin.Str
noncomputable def isS(b:Str):qb->Bool
 | .str x _=>decide (x=b)
 |_=>false
def vcz(ns:Ρ)(b:Str)(j:Nat):Prop:=ns[j]?=some b/\∀m,m<j->ns[m]?≠some b
theorem yjq(b:Str):∀{ns:Ρ}{vs:Ξ},wq (ns.map V.str) vs->∀(j:Nat)(h:j<vs.length),isS b vs[j]=decide (ns[j]?=some b)
 |[],_,.nil,j,h=>absurd h (du j)
 |x::ns,_,.cons r rs,j,h=>by
  let⟨t,rfl⟩:=r
  cases j with
  |zero =>
   show decide (x=b)=decide (some x=some b);simp
  |succ j=>exact yjq b rs j (Nat.lt_of_succ_lt_succ h)
theorem you(b:Str)(u:Tok):∀{ns:Ρ}{vs:Ξ},wq (ns.map V.str) vs->∀y,y∈vs->MeetsSeq.EqGives y (.str b u) (isS b y)
 |[],_,.nil,y,h=>nomatch h
 |x::ns,_,.cons r rs,y,h=>by
  let⟨t,rfl⟩:=r;rcases cS.mp h with rfl|h
  .exact λZ Z Z Z Z Z h=>wpAny_eqBool_str h
  .exact you b u rs y h
section
variable{X:Cx}
def yq1(K:z0):V->qi V->Hp->VK->Prop:=λx vs H Q=>∃l ns b j,x=.ref l/\vs=[.str b]/\SqL K H l (List.map V.str ns)/\vcz ns b j/\Q (.int (j:Nat)) H
def yba:MtR X "list.index" (yq1 X.K):=by
 intro k s σ H x S v T Q I R L h;let⟨l,f,b,j,rfl,rfl,M,⟨o,e⟩,q⟩:=h;cases R;let⟨u,rfl,G⟩:=L.one;let⟨t,rfl⟩:=G;let⟨a,r,E,w⟩:=I.list M;let⟨⟨C,U,p,B⟩,n,A,i,d,c⟩:=E;simp only at i d c;subst i d c;have z:f.length=a.length:=by rw[<- r.length,bz]
 have J:j<f.length:=(cF.mp o).1;have N:=ybo;have P:f.length<=sizeLine:=by rw[bz]at w;exact w
 refine call_meets PySem.F.slot_list_index ⟨_,A,rfl⟩ PySem.F.entry_list_index (PySem.F.args_list_index_2 _ _)
  (list_indexAt l a.toArray n none B (.str b t) (isS b) j (by rw[cU];omega) () ?_ ?_) ⟨A,λy O=>(you b t r y (by simpa using O)).at _ _,.int j,H,I.tok _,⟨_,rfl⟩,q⟩
 .show isS b a[j]=true;rw[yjq b r j ()];exact cT o
 .intro m D g;show isS b a[m]=false;rw[yjq b r m (by simpa using D)];exact cX (e m g)
def yc7:V->qi V->Hp->VK->Prop:=λx vs H Q=>∃y b,∃i:Nat,∃vt,x=.str y/\vs=[.str b]/\occurrences y b 0 y.length 1=i::vt/\Q (.int i) H
def yau:MtR X "str.index" yc7:=by intro a s σ H x g v j Q I f d h;let⟨y,b,i,vt,rfl,rfl,e,q⟩:=h;let⟨t,rfl⟩:=f;let⟨u,rfl,c⟩:=d.one;let⟨k,rfl⟩:=c;exact SC.index e ⟨.int i,H,I.tok _,⟨_,rfl⟩,q⟩
end
def vd7(t:xy)(o:Obj)(n:Nat)(x y z b:Str)(tx ty tz u:Tok)(hc:o.cls=.type "tuple")(hd:o.data=.seq #[.str x tx,.str y ty,.str z tz] n)(k:Nat)(hk:(x=b/\k=0)\/(x≠b/\y=b/\k=1)\/(x≠b/\y≠b/\z=b/\k=2)):
  Meets (Builtin.«tuple.index» ⟨[.ref t,.str b u],[]⟩) (λZ R s=>s.heap.get? t=some o/\R (.ok (.ret (.int (k:Nat) s.toks))) {s with toks:=s.toks+1}) :=
 .of_wp λa w A R s h=>by
  let⟨I,g,J,H,G⟩:=s;let⟨p,h⟩:=h;let⟨c,d,K,F⟩:=o;simp only at hc hd;subst hc hd;unfold Builtin.«tuple.index»;simp only[Std.Legacy.Range.forIn_eq_forIn_range',Std.Legacy.Range.size,Nat.sub_zero,Nat.add_sub_cancel,Nat.div_one]
  have f:∀{c:Bool}{q r:Str}{v B:Tok},decide (q=r)=c->∀{Q:Bool->qa->Prop}{E:Δ}{A:qe}{s:qa},Q c s->wpAny (model a w) A (eqBool (.str q v) (.str r B)) Q E s:=by
   intro c q r v B e Q E A s h;exact wpAny_eqBool_str (by rw[e];exact h)
  rcases hk with⟨j,rfl⟩|⟨j,l,rfl⟩|⟨j,l,D,rfl⟩
  .have i:∀{Q:Bool->qa->Prop}{E:Δ}{A:qe}{s:qa},Q true s->wpAny (model a w) A (eqBool (#[Value.str x tx,Value.str y ty,Value.str z tz][0]) (Value.str b u)) Q E s:=λh=>f (cT j) h
   wp_walk using AutoSeq1.wpAny_loadPart' p,i
   exists _,rfl,h
  .have i:∀{Q:Bool->qa->Prop}{E:Δ}{A:qe}{s:qa},Q false s->wpAny (model a w) A (eqBool (#[Value.str x tx,Value.str y ty,Value.str z tz][0]) (Value.str b u)) Q E s:=λh=>f (cX j) h;have m:∀{Q:Bool->qa->Prop}{E:Δ}{A:qe}{s:qa},Q true s->wpAny (model a w) A (eqBool (#[Value.str x tx,Value.str y ty,Value.str z tz][1]) (Value.str b u)) Q E s:=λh=>f (cT l) h
   wp_walk using AutoSeq1.wpAny_loadPart' p,i,m
   exists _,rfl,h
  .have i:∀{Q:Bool->qa->Prop}{E:Δ}{A:qe}{s:qa},Q false s->wpAny (model a w) A (eqBool (#[Value.str x tx,Value.str y ty,Value.str z tz][0]) (Value.str b u)) Q E s:=λh=>f (cX j) h;have m:∀{Q:Bool->qa->Prop}{E:Δ}{A:qe}{s:qa},Q false s->wpAny (model a w) A (eqBool (#[Value.str x tx,Value.str y ty,Value.str z tz][1]) (Value.str b u)) Q E s:=λh=>f (cX l) h;have C:∀{Q:Bool->qa->Prop}{E:Δ}{A:qe}{s:qa},Q true s->wpAny (model a w) A (eqBool (#[Value.str x tx,Value.str y ty,Value.str z tz][2]) (Value.str b u)) Q E s:=λh=>f (cT D) h
   wp_walk using AutoSeq1.wpAny_loadPart' p,i,m,C
   exists _,rfl,h
section
variable{X:Cx}
def yp7(K:z0):V->qi V->Hp->VK->Prop:=λx vs H Q=>∃y0 y1 y2 b t,∃k:Nat,x=.ref t/\vs=[.str b]/\SqT K H t [.str y0,.str y1,.str y2]/\((y0=b/\k=0)\/(y0≠b/\y1=b/\k=1)\/(y0≠b/\y1≠b/\y2=b/\k=2))/\Q (.int (k:Nat)) H
def ygj:MtR X "tuple.index" (yp7 X.K):=by
 intro c s σ H x E v G Q I D z h;let⟨A,g,f,b,t,k,rfl,rfl,e,i,q⟩:=h;cases D;let⟨u,rfl,m⟩:=z.one;let⟨C,rfl⟩:=m;let⟨B,r,l,J⟩:=I.tuple e;let⟨o,d,a,n,j⟩:=l
 cases r with
 |cons r0 r=>cases r with
  |cons r1 r=>cases r with
   |cons r2 r =>
    cases r;let⟨w,rfl⟩:=r0;let⟨y,rfl⟩:=r1;let⟨p,rfl⟩:=r2;exact call_meets PySem.F.slot_tuple_index ⟨_,d,a⟩ PySem.F.entry_tuple_index (PySem.F.args_tuple_index_2 _ _) (vd7 t o n A g f b w y p C a j k i) ⟨d,.int k,H,I.tok _,⟨_,rfl⟩,q⟩
end
end L2
namespace L2
open PySem PySem.Spec PyProof.Rows
def ji.m{j k:Nat}{A:qe}(r:ji k A)(h:autoParam (j<=k) aB._auto_1):ji j A:=r.mono h
section
variable{X:Cx}{e:qg}{es:qi qg}{te:TE}{t:TA}
def pa1(ha:PE X e te)(h:autoParam (Ž e=true) aI._auto_1):PA X [e] (yke te ykp):=je ha u8 (jc h)
def pac(ha:PE X e te)(hr:PA X es t)(h:autoParam (Ž e=true) aI._auto_1):PA X (e::es) (yke te t):=je ha hr (jc h)
end
section
variable{X:Cx}{k:Nat}{f:xy}{fd:FuncData}{ps:Ρ}{sp:Sp}{Ex:St->XK}{x:Str}{p pos:Pos}{e:qg}{es:qi qg}{t:TA}{st:qc}{id:String}{r:qi V->Hp->VK->Prop}{T:String}
def ug(F:vx X.prog X.w X.K X.mg X.base CX0 k f fd ps sp)(hr:ji k X.A)(D:Dff X.K X.mg x st ps f fd)(ha:PA X (e::es) t)(hg:autoParam (Gl X x) aI._auto_1)(hdb:autoParam ((x == ("__debug__":Str))=false) aB._auto_1)
  (he:autoParam (starEach (e::es) X.env=(false,eval e X.env)::starEach es X.env) aD._auto_1) (hpl:autoParam ((backTo pos (starEach es X.env)).any (·.1)=false) aD._auto_1):PE X (.Call (.Name x p) (e::es) [] pos) (ysx sp [] E0 t):=yr6 F hr hg D.m D.F.kp D.B .nil wo ha hdb he hpl
def ur(F:vx X.prog X.w X.K X.mg X.base (CXe X.prog X.w) k f fd ps sp)(hr:ji k X.A)(D:Dff X.K X.mg x st ps f fd)(hc:ι X Ex)(ha:PA X (e::es) t)(hg:autoParam (Gl X x) aI._auto_1)(hdb:autoParam ((x == ("__debug__":Str))=false) aB._auto_1)
  (he:autoParam (starEach (e::es) X.env=(false,eval e X.env)::starEach es X.env) aD._auto_1) (hpl:autoParam ((backTo pos (starEach es X.env)).any (·.1)=false) aD._auto_1):PE X (.Call (.Name x p) (e::es) [] pos) (yi5 sp [] Ex t):=yl8 F hr hg D.m D.F.kp D.B .nil hc ha hdb he hpl
def pcB(hc:jo X (.builtin id) r)(hm:X.mg x=none)(ha:PA X (e::es) t)(hg:autoParam (Gl X x) aI._auto_1)(hv:autoParam (bootBuiltins x=some (.builtin id)) aG._auto_1)(hn:autoParam (x≠"__name__") aB._auto_1)(hdb:autoParam ((x == ("__debug__":Str))=false) aB._auto_1)
  (he:autoParam (starEach (e::es) X.env=(false,eval e X.env)::starEach es X.env) aD._auto_1) (hpl:autoParam ((backTo pos (starEach es X.env)).any (·.1)=false) aD._auto_1):PE X (.Call (.Name x p) (e::es) [] pos) (tCB r t):=ylc hc hg hm hv ha hn hdb he hpl
def pcT(hc:jo X (.type T) r)(hm:X.mg x=none)(ha:PA X (e::es) t)(hg:autoParam (Gl X x) aI._auto_1)(hv:autoParam (bootBuiltins x=some (.type T)) aG._auto_1)(hn:autoParam (x≠"__name__") aB._auto_1)(hdb:autoParam ((x == ("__debug__":Str))=false) aB._auto_1)
  (he:autoParam (starEach (e::es) X.env=(false,eval e X.env)::starEach es X.env) aD._auto_1) (hpl:autoParam ((backTo pos (starEach es X.env)).any (·.1)=false) aD._auto_1):PE X (.Call (.Name x p) (e::es) [] pos) (tCB r t):=yhe hc hg hm hv ha hn hdb he hpl
end
section
variable{X:Cx}
def yts(K:z0):V->qi V->Hp->VK->Prop:=λx vs H Q=>∃(l:xy)(cs:qi Nat),x=.str ""/\vs=[.ref l]/\SqL K H l (cs.map λc=>V.str ⟨#[c]⟩)/\cs.length<=100000/\Q (.str ⟨cs.toArray⟩) H
def vd8{cs:qi Nat}{vs:Ξ}(h:wq (cs.map λc=>V.str ⟨#[c]⟩) vs):StrsAre vs (cs.map λc=>(⟨#[c]⟩:Str)):=by
 induction cs generalizing vs with
 |nil=>cases h;exact .nil
 |cons c cs ih =>
  cases h with
  |cons r t =>
   let⟨u,rfl⟩:=r;exact .cons _ _ (ih t)
def vgx(cs:qi Nat):(cs.map ((λx:Str=>x.length) ∘ λc=>(⟨#[c]⟩:Str))).sum=cs.length:=by
 induction cs with
 |nil=>rfl
 |cons c cs ih=>rw[dC,List.sum_cons,ih,cB];show 1+cs.length=_;omega
def ylw:MtR X "str.join" (yts X.K):=by
 intro d s σ H x y v z Q I w g h;let⟨l,a,rfl,rfl,m,B,q⟩:=h;let⟨t,rfl⟩:=w;let⟨u,rfl,e⟩:=g.one;cases e;let⟨i,r,⟨o,n,j,p,A,f⟩,_⟩:=I.list m;refine join_list (ys:=a.map λc=>(⟨#[c]⟩:Str)) ⟨o,j,p,n,f⟩ (vd8 r) ?_ λb k=>⟨.str ⟨a.toArray⟩,H,I.tok _,⟨b,?_⟩,q⟩
 .rw[dD,vgx,bz];show a.length+a.length*0<=_;omega
 .show Value.str (Builtin.Str.glued _ _) b=_;rw[StrLaws.glued_eq_join,show (Str.ofString "")=⟨#[]⟩from rfl,join_ones]
end
end L2
namespace MixI
noncomputable def giv(c b:Int):Int:=if b=1 then c else 16777216-c
noncomputable def ym6(x:Int):Nat:=if x == 0 then 0 else x.natAbs.log2+1
def shL(ws cs:Ο)(b:Int):Ο:=List.zipWith (λw c=>w*giv c b) ws cs
noncomputable def grL(sh:Ο):Ο:=sh.map λs=>31*(sh.length:Int)*s+sh.sum
def tOf(s:Int):Nat:=ym6 s-48
def lrn(ws cs:Ο)(b:Int):Ο:=(grL (shL ws cs b)).map λv=>v/2^tOf (grL (shL ws cs b)).sum
noncomputable def vfq(ws cs:Ο):Int:=(List.zipWith (λw c=>w*c) ws cs).sum
def ypv(ws cs:Ο):Int:=vfq ws cs/ws.sum
structure WOk(k:Nat)(ws:Ο):Prop where
 len:ws.length=k
 one:∀w∈ws,1<=w
 top:∀w∈ws,w<281474976710656
structure COk(k:Nat)(cs:Ο):Prop where
 len:cs.length=k
 lo:∀c∈cs,32768<=c
 hi:∀c∈cs,c<=16744448
def yt5{c b:Int}(h1:32768<=c)(h2:c<=16744448):32768<=giv c b:=by unfold giv;split<;>omega
def ycx{ws cs:Ο}{b:Int}(h:ws.length=cs.length):(shL ws cs b).length=ws.length:=by unfold shL;rw[List.length_zipWith,<- h];omega
def yih{sh:Ο}:(grL sh).length=sh.length:=by unfold grL;rw[bz]
def yrl{k:Nat}{ws cs:Ο}{b:Int}(hw:WOk k ws)(hc:COk k cs):(lrn ws cs b).length=k:=by unfold lrn;rw[bz,yih,ycx (by rw[hw.len,hc.len]),hw.len]
theorem Ł(m d:Int):∀sh:Ο,(sh.map λs=>m*s+d).sum=m*sh.sum+sh.length*d
 |[]=>by simp
 |s::r=>by
  simp only[dC,List.sum_cons,Ł m d r,cB,Int.natCast_add,Int.natCast_one,Int.mul_add,Int.add_mul];omega
def yq9(sh:Ο):(grL sh).sum=32*(sh.length:Int)*sh.sum:=by unfold grL;rw[Ł,Int.mul_assoc,Int.mul_assoc];generalize (sh.length:Int)*sh.sum=x;omega
theorem yi7:∀{l:Ο},(∀x∈l,0<=x)->0<=l.sum
 |[],_=>by simp
 |a::r,h=>by
  have d:=h a (by simp);have c:=yi7 (l:=r) λx b=>h x (by simp[b]);rw[List.sum_cons];omega
theorem ynf:∀{l:Ο}{y:Int},(∀x∈l,0<=x)->y∈l->y<=l.sum
 |a::r,y,h,hy=>by
  have f:=h a (by simp);have b:∀x∈r,0<=x:=λx c=>h x (by simp[c]);have d:=yi7 b;rw[List.sum_cons];rcases cS.mp hy with e|hy
  .omega
  .have:=ynf b hy;omega
theorem yj6{c:Int}:∀{l:Ο},(∀x∈l,c<=x)->c*l.length<=l.sum
 |[],_=>by simp
 |a::r,h=>by
  have e:=h a (by simp);have d:=yj6 (l:=r) λx b=>h x (by simp[b]);rw[List.sum_cons,cB,Int.natCast_add,Int.natCast_one,Int.mul_add];omega
theorem ynk{c:Int}:∀{l:Ο},(∀x∈l,x<=c)->l.sum<=c*l.length
 |[],_=>by simp
 |a::r,h=>by
  have e:=h a (by simp);have d:=ynk (l:=r) λx b=>h x (by simp[b]);rw[List.sum_cons,cB,Int.natCast_add,Int.natCast_one,Int.mul_add];omega
theorem ypl{f:Int->Int}{m:Int}:∀{ws cs:Ο},ws.length=cs.length->(∀w∈ws,0<=w)->(∀c∈cs,m<=f c)->m*ws.sum<=(List.zipWith (λw c=>w*f c) ws cs).sum
 |[],[],_,_,_=>by simp
 |w::r,c::t,h,h1,h2=>by
  have i:=ypl (f:=f) (m:=m) (ws:=r) (cs:=t) (by simpa using h) (λx b=>h1 x (by simp[b])) λx b=>h2 x (by simp[b]);have a:=dZ (h2 c (by simp)) (h1 w (by simp));rw[List.zipWith_cons_cons,List.sum_cons,List.sum_cons,Int.mul_add,Int.mul_comm m w];omega
theorem ynh{f:Int->Int}{m:Int}:∀{ws cs:Ο},ws.length=cs.length->(∀w∈ws,0<=w)->(∀c∈cs,f c<=m)->(List.zipWith (λw c=>w*f c) ws cs).sum<=m*ws.sum
 |[],[],_,_,_=>by simp
 |w::r,c::t,h,h1,h2=>by
  have i:=ynh (f:=f) (m:=m) (ws:=r) (cs:=t) (by simpa using h) (λx b=>h1 x (by simp[b])) λx b=>h2 x (by simp[b]);have a:=dZ (h2 c (by simp)) (h1 w (by simp));rw[List.zipWith_cons_cons,List.sum_cons,List.sum_cons,Int.mul_add,Int.mul_comm m w];omega
def WOk.pos{k:Nat}{ws:Ο}(h:WOk k ws)(hk:1<=k):1<=ws.sum:=by have:=yj6 (c:=1) h.one;rw[h.len]at this;omega
def WOk.small{k:Nat}{ws:Ο}(h:WOk k ws)(hk:k<=6):ws.sum<=1688849860263936:=by have:=ynk (c:=281474976710656) λx a=>Int.le_of_lt (h.top x a);rw[h.len]at this;omega
def yj2{k:Nat}{ws cs:Ο}(hk:1<=k)(hw:WOk k ws)(hc:COk k cs):32768<=ypv ws cs/\ypv ws cs<=16744448:=by
 have e:ws.length=cs.length:=by rw[hw.len,hc.len]
 have d:∀w∈ws,0<=w:=λw h=>by have:=hw.one w h;omega
 have p:=hw.pos hk;have a:=ypl (f:=λc=>c) e d hc.lo;have b:=ynh (f:=λc=>c) e d hc.hi;unfold ypv vfq;exists(Int.le_ediv_iff_mul_le ()).mpr a,Int.le_of_lt_add_one ((Int.ediv_lt_iff_lt_mul ()).mpr (by rw[Int.add_mul];omega))
def ydp(t:Nat):(2:Int)^t=((2^t:Nat):Int):=by rw[Int.natCast_pow];rfl
def yp9(t:Nat):(0:Int)<2^t:=by rw[ydp];exact Int.natCast_pos.mpr (Nat.pow_pos ∅)
def yy0{s:Int}(h:1<=s):s<281474976710656*2^tOf s/\(tOf s=0\/140737488355328*2^tOf s<=s):=by
 have f:s.natAbs≠0:=()
 have e:(s.natAbs:Int)=s:=()
 have a:=Nat.log2_self_le f;have b:=@Nat.lt_log2_self s.natAbs;unfold tOf ym6;rw[if_neg (by simp;omega)];generalize s.natAbs.log2=L at a b⊢;rcases Nat.lt_or_ge L 48 with q|q
 .have z:L+1-48=0:=()
  rw[z];exists ?_,.inl rfl;have:2^(L+1)<=2^48:=Nat.pow_le_pow_right ∅ ();have c:(2:Nat)^48=281474976710656:=∅
  rw[c]at this;rw[<- e,Int.pow_zero,Int.mul_one];omega
 .obtain⟨t,rfl⟩:∃t,L=47+t:=⟨L-47,()⟩;have z:47+t+1-48=t:=()
  rw[z,ydp];have d:(2:Nat)^(47+t)=140737488355328*2^t:=by rw[Nat.pow_add]
  have c:(2:Nat)^(47+t+1)=281474976710656*2^t:=by rw[show 47+t+1=48+t by omega,Nat.pow_add]
  rw[d]at a;rw[c]at b;generalize 2^t=T at a b⊢;exists by omega,.inr ()
section
variable{k:Nat}{ws cs:Ο}{b:Int}
def yrq(hw:WOk k ws)(hc:COk k cs):∀s∈shL ws cs b,1<=s:=by intro s a;unfold shL at a;rw[List.mem_iff_getElem]at a;let⟨i,c,rfl⟩:=a;rw[List.length_zipWith]at c;rw[List.getElem_zipWith];have e:=hw.one ws[i] (dm _);have d:=yt5 (b:=b) (hc.lo cs[i] (dm _)) (hc.hi cs[i] (dm _));have:=Int.mul_le_mul e d ∅ ();omega
def yyx{sh:Ο}(h:∀s∈sh,1<=s):∀v∈grL sh,sh.sum<=v/\v<=(grL sh).sum/\0<=v:=by
 have e:=yi7 (l:=sh) λx d=>by have:=h x d;omega
 have a:∀v∈grL sh,sh.sum<=v:=λv a=>by
  unfold grL at a;let⟨s,c,rfl⟩:=cI.mp a;have:=h s c;have:0<=31*(sh.length:Int)*s:=Int.mul_nonneg (Int.mul_nonneg ∅ (Int.natCast_nonneg _)) ();omega
 exact λv b=>⟨a v b,ynf (λx d=>by have:=a x d;omega) b,by have:=a v b;omega⟩
def yn1(hk:1<=k)(hk6:k<=6)(hw:WOk k ws)(hc:COk k cs):WOk k (lrn ws cs b):=by
 have i:(shL ws cs b).length=k:=by rw[ycx (by rw[hw.len,hc.len]),hw.len]
 have f:=yrq (b:=b) hw hc
 have l:1<=(shL ws cs b).sum:=by
  have:=yj6 (c:=1) f;rw[i]at this;omega
 have g:=yyx f;have d:=yq9 (shL ws cs b);rw[i]at d
 have o:1<=(grL (shL ws cs b)).sum:=by
  rw[d];have:32*(k:Int)*1<=32*(k:Int)*(shL ws cs b).sum:=dZ l ();omega
 have p:(grL (shL ws cs b)).sum<=192*(shL ws cs b).sum:=by
  rw[d];exact dR () ()
 let⟨r,a⟩:=yy0 o;have j:=yp9 (tOf (grL (shL ws cs b)).sum);exists yrl hw hc,λw h=>?_,λw h=>?_
 .obtain⟨v,e,rfl⟩:=cI.mp h;let⟨n,q,m⟩:=g v e;refine(Int.le_ediv_iff_mul_le j).mpr ?_;rcases a with a|a
  .rw[a,Int.pow_zero];omega
  .generalize (2:Int)^tOf (grL (shL ws cs b)).sum=T at*;omega
 .obtain⟨v,e,rfl⟩:=cI.mp h;let⟨n,q,m⟩:=g v e;exact(Int.ediv_lt_iff_lt_mul j).mpr ()
def yg7{g:Int->Int->Int}{ws cs:Ο}(h:cs.length=ws.length):(List.range ws.length).map (λi=>g ((ws[i]?).getD 0) ((cs[i]?).getD 0))=List.zipWith g ws cs:=by
 apply List.ext_getElem
 .rw[bz,dw,List.length_zipWith];omega
 .intro i a b;rw[bz,dw]at a;rw[dL,List.getElem_range,List.getElem_zipWith,cA a,cA ()];rfl
end
end MixI
namespace SpanMath
noncomputable def rn(d:Ο):Nat->Int
 |0=>0
 |k+1=>rn d k*256+(d[k]?).getD 0
def Byt(d:Ο):Prop:=∀x∈d,0<=x/\x<=255
def yxv{d:Ο}(h:Byt d)(k:Nat):0<=(d[k]?).getD 0/\(d[k]?).getD 0<=255:=by
 cases e:d[k]? with
 |none=>exists by decide,∅
 |some x=>exact h x (cN e)
theorem yjd{d:Ο}(h:Byt d)(k:Nat):∀r,∃q,rn d (k+r)=rn d k*pw r+q/\0<=q/\q<pw r
 |0=>⟨0,by show rn d k=rn d k*1+0;omega,∅,∅⟩
 |r+1=>by
  let⟨q,e,c,b⟩:=yjd h k r;let⟨a,f⟩:=yxv h (k+r);exists q*256+(d[k+r]?).getD 0,?_,(),?_
  .show rn d (k+r)*256+(d[k+r]?).getD 0=rn d k*(pw r*256)+_;rw[e,<- Int.mul_assoc,Int.add_mul,Int.add_assoc]
  .show _<pw r*256;omega
def ymh{d:Ο}(h:Byt d)(k r:Nat)(l w':Int):(l*pw r<=rn d (k+r)/\rn d (k+r)<l*pw r+w'*pw r)↔(l<=rn d k/\rn d k<l+w'):=by
 let⟨q,e,g,i⟩:=yjd h k r;have c:=zn r;rw[e,<- Int.add_mul];generalize rn d k=v;generalize pw r=p at c g i⊢
 constructor
 .rintro ⟨a,b⟩
  constructor
  .refine Int.le_of_lt_add_one (Int.lt_of_mul_lt_mul_right (a:=p) ?_ (Int.le_of_lt c));rw[Int.add_mul,Int.one_mul];omega
  .refine Int.lt_of_mul_lt_mul_right (a:=p) ?_ (Int.le_of_lt c);omega
 .rintro ⟨a,b⟩;have j:=dR a (Int.le_of_lt c);have f:=dR (show v+1<=l+w' by omega) (Int.le_of_lt c);rw[Int.add_mul v 1 p,Int.one_mul]at f;omega
structure InS(d:Ο)(x:Sn):Prop where
 lo:x.1<=rn d (sz x)
 hi:rn d (sz x)<x.1+x.2.1
def vbu(l w' s':Int):∃r:Nat,ren l w' s'=(l*pw r,w'*pw r,s'+r):=by
 unfold ren
 split
 .split
  .exact⟨2,rfl⟩
  .exact⟨1,rfl⟩
 .refine⟨0,?_⟩;show (l,w',s')=(l*1,w'*1,s'+0);rw[Int.mul_one,Int.mul_one,Int.add_zero]
def ynw{d:Ο}(h:Byt d){l w' s':Int}(hs:0<=s'):InS d (ren l w' s')↔(l<=rn d s'.toNat/\rn d s'.toNat<l+w'):=by
 let⟨r,e⟩:=vbu l w' s';rw[e]
 have c:sz (l*pw r,w'*pw r,s'+r)=s'.toNat+r:=by
  show (s'+(r:Int)).toNat=s'.toNat+r;omega
 rw[<- ymh h s'.toNat r l w']
 constructor
 .rintro ⟨a,b⟩;rw[c]at a b;exists a,b
 .rintro ⟨a,b⟩;exists by rw[c];exact a,by rw[c];exact b
def Ü(d:Ο)(x:Sn)(c:Int):Int:=if rn d (sz x)<x.1+cut x.2.1 c then 1 else 0
def ų(d:Ο)(x:Sn)(c:Int):Ü d x c=0\/Ü d x c=1:=by
 unfold Ü
 split
 .exact .inr rfl
 .exact .inl rfl
def yqt{d:Ο}(hd:Byt d){x:Sn}{c b:Int}(h:OkS x)(hc:Ch c)(hb:b=0\/b=1)(i:InS d (nar x c b)):InS d x/\b=Ü d x c:=by
 have g:=h.ok.z;let⟨f,j,k⟩:=ybg h.ok.w0 h.ok.w1 hc;unfold nar at i;rcases hb with rfl|rfl
 .rw[if_neg ∅]at i;let⟨e,a⟩:=(ynw hd ()).mp i;have e:x.1+cut x.2.1 c<=rn d (sz x):=e;have a:rn d (sz x)<x.1+cut x.2.1 c+(x.2.1-cut x.2.1 c):=a;exists⟨(),()⟩,?_;unfold Ü;rw[if_neg ()]
 .rw[if_pos rfl]at i;let⟨e,a⟩:=(ynw hd ()).mp i;have e:x.1<=rn d (sz x):=e;have a:rn d (sz x)<x.1+cut x.2.1 c:=a;exists⟨(),()⟩,?_;unfold Ü;rw[if_pos a]
theorem yoy:∀(k:Nat)(d:Ο),k<=d.length->rn d k=val (d.take k)
 |0,_,_=>rfl
 |k+1,d,h=>by
  have a:k<d.length:=()
  have e:d.take (k+1)=d.take k++[d[k]]:=by rw[List.take_succ,cA a];rfl
  rw[e,ydu,<- yoy k d ()];show rn d k*256+_=_;rw[cA a];rfl
def ž{d:Ο}(hd:Byt d){x:Sn}(h:OkS x)(hl:(tL x).length<=d.length)(hp:d.take (tL x).length=tL x):InS d x:=by
 have i:=ys2 h
 have e:rn d (sz x-tK x)=tCn x:=by
  rw[<- yj8 x,yoy _ _ hl,hp,yys h]
 let⟨q,b,g,j⟩:=yjd hd (sz x-tK x) (tK x);have f:sz x-tK x+tK x=sz x:=()
 rw[f,e]at b;have a:=ż h.ok;have c:=(yny x.1 (zn (tK x))).1;unfold ygf at a;have a:(tCn x+1)*pw (tK x)<=x.1+x.2.1:=a;have c:x.1<=tCn x*pw (tK x):=c;rw[Int.add_mul,Int.one_mul]at a;exists by rw[b];omega,by rw[b];omega
end SpanMath
namespace Law
local macro_rules | `(tactic| ext)=>`(tactic| walk_at "rd")
local macro_rules | `(tactic| right)=>`(tactic| decide +kernel)
open PySem L2
set_option genInjectivity false
set_option genSizeOf false
set_option hygiene true in
local macro_rules | `(tactic| exists $n:num,$s:str)=>do
 let ts<-((s.getString.splitOn " ").map fun x=>Lean.mkIdent (((if n.getNat<4 then `_root_.Law else `_root_.L2) ++ x.toName:Lean.Name))).toArray.mapM fun x=>match n.getNat%4 with
  | 0=>`(Lean.Parser.Tactic.tacticSeq| refine $x ?_)
  | 1=>`(Lean.Parser.Tactic.tacticSeq| (with_reducible refine' $x (by assumption) ?q ?_; (case q=>first | assumption | exact ya)))
  | 2=>`(Lean.Parser.Tactic.tacticSeq| (with_reducible refine' $x ?q ?_; (case q=>first | assumption | exact ya)))
  | _=>`(Lean.Parser.Tactic.tacticSeq| (with_reducible refine' $x ?q ?n ?_; (case q=>first | assumption | exact ya); (case n=>with_unfolding_all decide +kernel)))
 `(tactic| first $[| $ts:tacticSeq]*)
local macro_rules | `(tactic| exists $n:num,$m:num)=>do
 let xs:=Array.replicate n.getNat (<-`(some _))++Array.replicate m.getNat (<-`(none))
 `(tactic| (try dsimp only [vz]; refine yk (σ':=[$xs,*]) rfl ?_))
local macro_rules | `(tactic| exists $h:ident,$a:ident,$b:ident,$c:ident)=>`(tactic| with_reducible first | refine yh $h fun $a $b $c=>?_ | refine ym $h fun $a $b $c=>?_)
local macro_rules | `(tactic| exists $n:num,$m:num,$t)=>`(tactic| (refine ⟨_,$t,?_⟩;exists $n,$m;ext))
local macro_rules | `(tactic| left)=>`(tactic| first | (cases h; subst_vars; rfl) | repeat first | (obtain ⟨e,_⟩:=h; subst e; rfl) | obtain ⟨_,h⟩:=h)
local macro_rules | `(tactic| exists $a:ident,$b:ident,$c:ident)=>`(tactic| (refine $a $b (fun ϟ H Q E h=>?_) (fun ϟ A ϟ s H ϟ Q E $c h=>?_); left))
local macro_rules | `(tactic| walk_at "side")=>`(tactic| first | exact ⟨∅,∅⟩ | (show (0:Int) < _; first | decide | omega) | exact Or.inl ⟨(),()⟩ | exact Or.inr ⟨(),()⟩ | exact ⟨(),()⟩ | exact ⟨∅,∅,∅⟩)
local macro_rules | `(tactic| walk_at "len")=>`(tactic| first | decide | (simp only [cB,cQ]; decide))
local macro_rules | `(tactic| walk_at "rd1")=>`(tactic| with_reducible first
 | exists 4,"vgq vdh yt2 yxa"
 | ((fail_if_success constructor); walk_at "rd2"))
local macro_rules | `(tactic| walk_at "o")=>`(tactic| refine yuu fun ϟ ϟ ϟ ϟ ϟ ϟ=>?_)
set_option hygiene true in
local macro_rules | `(tactic| walk_at "rd2")=>`(tactic| with_reducible first
 | walk_at "o"
 | refine vgj (by assumption) ?_
 | (refine' yy6 ?rdv ?_; (case rdv=>with_unfolding_all rfl))
 | exists 4,"i_c vgi vgo yu7 vgf vgs vd5 vd4 yu5 ywq yyp yra yab yre yrr vek yvn vdd vgn vdo yp2 yv2 yti vc2 vf5 vds ver veq veh yez yxi vgl ven vc1 ytm vgt ymw ywf vgg i_U g0 g1 g2 g3 g4 g5 g6 g7 g8 g9 g10 g11 g12 yq6 ywd ybz ybw vea vdy vde yri ytq yr9 ysf ywp yqe yym yrs yse ywh vdt ymp yx8 yqv ysm yqy"
 | (refine' i_shlC ?rdp ?rdq ?_; (case rdp=>with_unfolding_all exact ⟨∅,∅,∅⟩); (case rdq=>with_unfolding_all decide))
 | (refine' i_powC ?rdp ?rdq ?_; (case rdp=>with_unfolding_all exact ⟨∅,∅,∅⟩); (case rdq=>with_unfolding_all decide))
 | (refine i_I ?rdc ?_; (case rdc=>with_unfolding_all walk_at "side")))
local macro_rules | `(tactic| walk_at "rd")=>`(tactic| repeat walk_at "rd1")
variable{D c' cl' ct' dc dq ds q st tl:xy}{U U' W' W2:Μ}{L M:Η}{d ts us xs y:Ο}{i j m':Nat}{tp:Λ}{O O' O2:Β}{bt:Nat->Int}{x:qj Str}{R:Prop}
noncomputable def top(i:Nat):qc:=PySem.Challenge.pw_foretell_k52_no_shelf.main.body.getD i (.Pass ⟨0,0,0,0⟩)
abbrev vfx:qc:=top 21
abbrev vft:qc:=top 22
abbrev vfe:qc:=top 23
abbrev ve8:qc:=top 24
abbrev vfy:qc:=top 25
abbrev vfn:qc:=top 26
abbrev vfw:qc:=top 27
abbrev ve9:qc:=top 28
abbrev vfk:qc:=top 29
abbrev vbd:qc:=top 30
abbrev vby:qc:=top 31
abbrev vbr:qc:=yv (top 36) 0
abbrev yz7:qc:=yv (top 36) 1
abbrev yzc:qc:=yv (top 36) 2
abbrev yze:qc:=yv (top 37) 0
abbrev vbz:qc:=yv (top 37) 1
abbrev yy8:qc:=yv (top 37) 2
abbrev yzz:qc:=yv (top 38) 0
abbrev vce:qc:=yv (top 38) 1
abbrev vbn:qc:=yv (top 38) 2
abbrev yzp:qc:=top 39
abbrev vbk:qc:=top 44
abbrev va7:qc:=top 45
abbrev vb5:qc:=yv (top 46) 0
abbrev va6:qc:=yv (top 46) 2
abbrev var:qc:=yv (top 46) 3
abbrev yzy:qc:=yv (top 46) 5
abbrev vax:qc:=yv (top 46) 6
abbrev vay:qc:=top 52
abbrev vb0:qc:=top 53
abbrev vau:qc:=top 54
abbrev va4:qc:=top 55
abbrev vbs:qc:=top 56
abbrev vam:qc:=top 57
abbrev vad:qc:=top 58
abbrev vb1:qc:=yv (top 59) 0
abbrev vca:qc:=yv (top 59) 2
abbrev yzk:qc:=yv (top 64) 0
abbrev vcc:qc:=yv (top 64) 2
abbrev yzo:qc:=yv (top 64) 3
abbrev vak:qc:=yv (top 67) 0
abbrev vae:qc:=yv (top 67) 1
abbrev yy9:qc:=yv (top 67) 2
abbrev vb2:qc:=yv (top 67) 3
abbrev va0:qc:=yv (top 67) 7
abbrev vaw:qc:=yv (top 67) 8
abbrev yzn:qc:=yv (top 67) 9
abbrev va2:qc:=top 70
abbrev yzg:qc:=top 71
abbrev vbl:qc:=yv (top 73) 0
abbrev yzd:qc:=yv (top 73) 1
abbrev yz8:qc:=yv (top 73) 2
abbrev yzw:qc:=yv (top 73) 3
abbrev yy7:qc:=yv (top 73) 5
abbrev yzb:qc:=top 75
abbrev vb4:qc:=top 76
abbrev vai:qc:=top 77
abbrev yz2:qc:=top 78
abbrev va3:qc:=top 79
abbrev vbm:qc:=yv (top 81) 0
abbrev vbg:qc:=yv (top 81) 1
abbrev vag:qc:=yv (top 81) 2
abbrev va9:qc:=yv (top 81) 3
abbrev vab:qc:=top 86
abbrev yzl:qc:=top 87
abbrev yz9:qc:=top 88
abbrev vaz:qc:=yv (top 89) 0
abbrev vcg:qc:=yv (top 90) 0
abbrev yzx:qc:=yv (top 90) 1
abbrev vbe:qc:=yv (top 90) 2
abbrev vcb:qc:=yv (top 90) 3
abbrev vao:qc:=yv (top 90) 4
abbrev yz5:qc:=yv (top 90) 5
abbrev vcd:qc:=yv (top 90) 6
abbrev vci:qc:=yv (top 90) 7
abbrev yzj:qc:=yv (top 90) 8
abbrev vbf:qc:=yv (top 90) 9
abbrev yzf:qc:=yv (top 90) 10
abbrev vb7:qc:=yv (top 90) 11
abbrev va1:qc:=yv (top 90) 12
abbrev vb6:qc:=yv (top 90) 13
abbrev yzt:qc:=yv (top 90) 14
abbrev yz1:qc:=top 93
abbrev vat:qc:=top 94
abbrev van:qc:=top 95
abbrev vbp:qc:=top 96
abbrev vaa:qc:=yv (top 97) 0
abbrev vaj:qc:=yv (top 97) 1
abbrev vap:qc:=yv (top 97) 2
abbrev vbb:qc:=yv (top 97) 3
abbrev vaq:qc:=yv (top 97) 4
abbrev yzh:qc:=yv (top 97) 5
abbrev vb3:qc:=yv (top 97) 6
abbrev va5:qc:=yv (top 97) 7
abbrev vbo:qc:=top 98
abbrev yzr:qc:=top 100
abbrev vbj:qc:=top 101
abbrev yz4:qc:=top 102
abbrev vbh:qc:=top 103
abbrev yot:qc:=top 104
abbrev yo6:qc:=top 105
abbrev ynx:qc:=top 106
abbrev ynz:qc:=top 107
abbrev vas:qc:=top 108
set_option genInjectivity false in
set_option genSizeOfSpec false in
structure Ads where
 {Q5 Q6 Q7 Q8 Q9 Qa Qb Qc Qd Jm Jn Gn Jo Jp Gp Jq Jr Gq Js Jt Ju Jv Jw Gr Jx Jy Jz K1 K2 K3 K4 K5 K6 K7 K8 Gs K9 Gt Ka Kb Gu Kc Kd Ke Kg Kh Ki Kj Kk Gv Kl Km Kn Ko Kp Kq Kr Ks Kt Gw Ku Kv Gy Kw Kx Ky Gz Ha Qe Kz L1 L6 Hb Qf L7 L8 L9 La Lb Lc Ld Le Lf Lg Lh Li Lj Lk Hc Ll Lm Ln Lo Lp Lq Lr Ls Lt Lu Lv Lx Hd He Hf Hg Ly Af Ad Ao C2 Ah A7 An A5 A1 Ab A0 A4 Ff Cq Ae Fg Bf Bv Bq Aa Am Aj B8 Ac A3 Ak B9 Bh:xy}
 {Qg Qh Qi Qj Qk Ql Qm Qn Qo Lz M0 M4 M5 M6 M7 M8 M9 Ma Mb Mc Md Me Mf Mg Mh Mi Mj Ml Mm Mn Mo Mq Mr Ms Mt Mu Mv Mw Mx My Mz N2 N3 N4 N5 N6 N7 N8 N9 Na Nd Nf Ng Nh Ni Nj Nk Nl Nm Nn No Np Hh Nq Nr Nt Nu Fo Nv Nw Ny Fp Nz O0 O4 O5 O6 O7 O8 O9 Oa Ob Oc Od Oe Of Og Oh Oi Oj Ol Om On Oo Op Oq Os Ot Ou Hi Hj Hk Hl Hm:FuncData}
 {Hn Jd Qp Dv Dw Cy Dh Dx Di Fh Dj Dy Fz Cz Eb D0 Ec D1 G0 Dk Dz Fi Fj Fk Ed Ee Ef Eg Eh Ei Ej Ek:Tok}
 {Ga:qj xy}
 {Ho Gb:Nat}
 {Hq Gc:Array (qj qb)}
variable{a:Ads}
structure Txt(K:z0)(mg:Ε)(a:Ads):Prop where
 Gd:Dff K mg "is_whole" vfx ["thing"] a.Q5 a.Qg
 Qq:Dff K mg "is_bit" vft ["thing"] a.Q6 a.Qh
 Qr:Dff K mg "is_chance" vfe ["thing"] a.Q7 a.Qi
 Qt:Dff K mg "is_sign" ve8 ["thing"] a.Q8 a.Qj
 Je:Dff K mg "is_list_of_signs" vfy ["thing","most"] a.Q9 a.Qk
 Pv:Dff K mg "checked_text" vfn ["thing"] a.Qa a.Ql
 Qu:Dff K mg "checked_bytes" vfw ["thing"] a.Qb a.Qm
 Qv:Dff K mg "check_most" ve9 ["thing"] a.Qc a.Qn
 Jf:Dff K mg "check_chance" vfk ["thing"] a.Qd a.Qo
 Cn:Dff K mg "check_bit" vbd ["thing"] a.Jm a.Lz
 Ov:Dff K mg "gives" vby ["chance","bit"] a.Jn a.M0
 Ow:Dfm K a.Af "__init__" "Even.__init__" vbr ["self"] a.Gn a.M4
 Hr:Dfm K a.Af "chance" "Even.chance" yz7 ["self"] a.Jo a.M5
 Hs:Dfm K a.Af "seen" "Even.seen" yzc ["self","bit"] a.Jp a.M6
 Ox:Dfm K a.Ad "__init__" "Quick.__init__" yze ["self"] a.Gp a.M7
 Ht:Dfm K a.Ad "chance" "Quick.chance" vbz ["self"] a.Jq a.M8
 Hu:Dfm K a.Ad "seen" "Quick.seen" yy8 ["self","bit"] a.Jr a.M9
 Oy:Dfm K a.Ao "__init__" "Run.__init__" yzz ["self"] a.Gq a.Ma
 Hv:Dfm K a.Ao "chance" "Run.chance" vce ["self"] a.Js a.Mb
 Hw:Dfm K a.Ao "seen" "Run.seen" vbn ["self","bit"] a.Jt a.Mc
 Oz:Dff K mg "slot_of" yzp ["kind"] a.Ju a.Md
 Hx:Dff K mg "written" vbk ["number","size"] a.Jv a.Me
 Hy:Dff K mg "first_block" va7 ["low","unit"] a.Jw a.Mf
 Hz:Dfm K a.A7 "__init__" "Span.__init__" vb5 ["self"] a.Gr a.Mg
 El:Dfm K a.A7 "cut" "Span.cut" va6 ["self","chance"] a.Jx a.Mh
 Em:Dfm K a.A7 "narrow" "Span.narrow" var ["self","chance","bit"] a.Jy a.Mi
 I0:Dfm K a.A7 "holds_block" "Span.holds_block" yzy ["self","unit"] a.Jz a.Mj
 En:Dfm K a.A7 "told" "Span.told" vax ["self"] a.K1 a.Ml
 P0:Dff K mg "is_kind" vay ["thing"] a.K2 a.Mm
 P1:Dff K mg "is_place" vb0 ["thing"] a.K3 a.Mn
 P2:Dff K mg "are_places" vau ["thing"] a.K4 a.Mo
 I1:Dff K mg "is_look" va4 ["thing"] a.K5 a.Mq
 I2:Dff K mg "checked_looks" vbs ["thing"] a.K6 a.Mr
 P3:Dff K mg "sign_back" vam ["signs","place"] a.K7 a.Ms
 P4:Dff K mg "context_of" vad ["look","signs","node"] a.K8 a.Mt
 P5:Dfm K a.Ah "__init__" "Book.__init__" vb1 ["self","look"] a.Gs a.Mu
 I3:Dfm K a.Ah "slot_at" "Book.slot_at" vca ["self","signs","node"] a.K9 a.Mv
 P6:Dfm K a.C2 "__init__" "Mixer.__init__" yzk ["self","many"] a.Gt a.Mw
 I4:Dfm K a.C2 "mixed" "Mixer.mixed" vcc ["self","chances"] a.Ka a.Mx
 I5:Dfm K a.C2 "learn" "Mixer.learn" yzo ["self","chances","bit"] a.Kb a.My
 P7:Dfm K a.A5 "__init__" "Foreteller.__init__" vak ["self","looks"] a.Gu a.Mz
 Eo:Dfm K a.A5 "arrive" "Foreteller.arrive" vae ["self"] a.Kc a.N2
 Ep:Dfm K a.A5 "chances" "Foreteller.chances" yy9 ["self"] a.Kd a.N3
 Er:Dfm K a.A5 "chance" "Foreteller.chance" vb2 ["self"] a.Ke a.N4
 Es:Dfm K a.A5 "see" "Foreteller.see" va0 ["self","bit"] a.Kg a.N5
 I6:Dfm K a.A5 "step" "Foreteller.step" vaw ["self","bit"] a.Kh a.N6
 I7:Dfm K a.A5 "step_in_sign" "Foreteller.step_in_sign" yzn ["self","bit"] a.Ki a.N7
 P8:Dff K mg "bits_of" va2 ["sign"] a.Kj a.N8
 P9:Dff K mg "decisions_of" yzg ["text"] a.Kk a.N9
 Pa:Dfm K a.An "__init__" "Seeker.__init__" vbl ["self","data"] a.Gv a.Na
 Et:Dfm K a.An "follow" "Seeker.follow" yzd ["self"] a.Kl a.Nd
 I8:Dfm K a.An "byte_at" "Seeker.byte_at" yz8 ["self","place"] a.Km a.Nf
 I9:Dfm K a.An "bit" "Seeker.bit" yzw ["self","chance"] a.Kn a.Ng
 Ia:Dfm K a.An "told" "Seeker.told" yy7 ["self"] a.Ko a.Nh
 Pb:Dff K mg "press_by" yzb ["foreteller","text"] a.Kp a.Ni
 Ib:Dff K mg "bit_by" vb4 ["foreteller","seeker"] a.Kq a.Nj
 Pe:Dff K mg "sign_by" vai ["foreteller","seeker"] a.Kr a.Nk
 Pf:Dff K mg "text_by" yz2 ["foreteller","seeker","most"] a.Ks a.Nl
 Ic:Dff K mg "read_by" va3 ["foreteller","data","most"] a.Kt a.Nm
 Eu:Dfm K a.A1 "__init__" "Chain.__init__" vbm ["self","looks"] a.Gw a.Nn
 D2:Dfm K a.A1 "grow" "Chain.grow" vbg ["self","name","text"] a.Ku a.No
 Ie:Dfm K a.A1 "press" "Chain.press" vag ["self","name","text"] a.Kv a.Np
 Ev:Dfm K a.A1 "read" "Chain.read" va9 ["self","name","data","most"] a.Gy a.Hh
 Pg:Dff K mg "is_name" vab ["thing"] a.Kw a.Nq
 Ew:Dff K mg "checked_name" yzl ["thing"] a.Kx a.Nr
 Ph:Dff K mg "check_base" yz9 ["thing"] a.Ky a.Nt
 If:Dfm K a.Ab "__init__" "Piece.__init__" vaz ["self","base","data"] a.Gz a.Nu
 Qw:vcp K "__init__" "Store.__init__" vcg a.Qe a.Ha a.Fo
 R7:zd K a.Fo ["self","looks","most"] [.int 1000 a.Hn]
 Pi:zd K a.Fo ["self","looks","most"] []
 Ig:Dfm K a.A0 "told_looks" "Store.told_looks" yzx ["self"] a.Kz a.Nv
 Ih:Dfm K a.A0 "most_signs" "Store.most_signs" vbe ["self"] a.L1 a.Nw
 D3:Dfm K a.A0 "names" "Store.names" vcb ["self"] a.L6 a.Ny
 Qx:vcp K "put" "Store.put" vao a.Qf a.Hb a.Fp
 Pw:zd K a.Fp ["self","name","text","base"] [.none]
 Qy:zd K a.Fp ["self","name","text","base"] []
 Pj:Meth K a.A0 "put" a.Hb
 Ii:Dfm K a.A0 "put_first" "Store.put_first" yz5 ["self","name","data","base"] a.L7 a.Nz
 Ij:Dfm K a.A0 "check_length" "Store.check_length" vcd ["self","text"] a.L8 a.O0
 Ey:Dfm K a.A0 "check_room" "Store.check_room" vci ["self","name","base"] a.L9 a.O4
 C3:Dfm K a.A0 "piece_at" "Store.piece_at" yzj ["self","name"] a.La a.O5
 Ez:Dfm K a.A0 "links_to" "Store.links_to" vbf ["self","name"] a.Lb a.O6
 D4:Dfm K a.A0 "chain_to" "Store.chain_to" yzf ["self","name"] a.Lc a.O7
 Ik:Dfm K a.A0 "texts_to" "Store.texts_to" vb7 ["self","name"] a.Ld a.O8
 Il:Dfm K a.A0 "text_of" "Store.text_of" va1 ["self","name"] a.Le a.O9
 F0:Dfm K a.A0 "bytes_of" "Store.bytes_of" vb6 ["self","name"] a.Lf a.Oa
 Im:Dfm K a.A0 "base_of" "Store.base_of" yzt ["self","name"] a.Lg a.Ob
 Pk:Dff K mg "look_bytes" yz1 ["look"] a.Lh a.Oc
 Pl:Dff K mg "name_bytes" vat ["name"] a.Li a.Od
 Pm:Dff K mg "base_bytes" van ["store","name"] a.Lj a.Oe
 Fq:Dff K mg "shelf_of" vbp ["store"] a.Lk a.Of
 Pn:Dfm K a.A4 "__init__" "Reader.__init__" vaa ["self","data"] a.Hc a.Og
 Ar:Dfm K a.A4 "next_byte" "Reader.next_byte" vaj ["self"] a.Ll a.Oh
 D5:Dfm K a.A4 "next_part" "Reader.next_part" vap ["self","parts"] a.Lm a.Oi
 Io:Dfm K a.A4 "next_look" "Reader.next_look" vbb ["self"] a.Ln a.Oj
 Ip:Dfm K a.A4 "next_store" "Reader.next_store" vaq ["self"] a.Lo a.Ol
 Iq:Dfm K a.A4 "next_name" "Reader.next_name" yzh ["self"] a.Lp a.Om
 Ir:Dfm K a.A4 "put_next" "Reader.put_next" vb3 ["self","store"] a.Lq a.On
 Is:Dfm K a.A4 "whole_store" "Reader.whole_store" va5 ["self"] a.Lr a.Oo
 Po:Dff K mg "opened" vbo ["data"] a.Ls a.Op
 C4:Dff K mg "_law_mixed" yzr ["_law_script","_law_k"] a.Lt a.Oq
 Pp:Dff K mg "_law_names" vbj ["_law_cell"] a.Lu a.Os
 Pq:Dff K mg "_law_looks" yz4 ["_law_script"] a.Lv a.Ot
 Fs:Dff K mg "_law_opened" vbh ["_law_data"] a.Lx a.Ou
 Fl:Dff K mg "_law_parts" yot ["_law_looks_here"] a.Hd a.Hi
 Iu:Dff K mg "_law_odd" yo6 ["_law_looks_here","_law_data","_law_way","_law_first","_law_many"] a.He a.Hj
 Iv:Dff K mg "_law_spoilt" ynx ["_law_data","_law_first","_law_cell"] a.Hf a.Hk
 Iw:Dff K mg "_law_none" ynz ["_law_looks_here","_law_data","_law_cell","_law_first","_law_many"] a.Hg a.Hl
 Ix:Dff K mg "law" vas ["_law_script"] a.Ly a.Hm
 Aw:Cls K a.Af
 Px:mg "Even"=some (.ref a.Af)
 Py:Mk K a.Af a.Gn
 At:NoAttr K a.Af "noughts"
 Bi:NoAttr K a.Af "ones"
 Bj:Cls K a.Ad
 Jg:mg "Quick"=some (.ref a.Ad)
 Jh:Mk K a.Ad a.Gp
 Ba:NoAttr K a.Ad "held"
 Bk:Cls K a.Ao
 Qz:mg "Run"=some (.ref a.Ao)
 R0:Mk K a.Ao a.Gq
 Bw:NoAttr K a.Ao "last"
 Bb:NoAttr K a.Ao "length"
 F3:Cls K a.C2
 R8:mg "Mixer"=some (.ref a.C2)
 R9:Mk K a.C2 a.Gt
 Ck:NoAttr K a.C2 "kept"
 C5:Cls K a.Ah
 Pz:mg "Book"=some (.ref a.Ah)
 Q1:Mk K a.Ah a.Gs
 Co:NoAttr K a.Ah "look"
 C6:NoAttr K a.Ah "slots"
 Ag:Cls K a.A7
 Iy:mg "Span"=some (.ref a.A7)
 Iz:Mk K a.A7 a.Gr
 Bx:NoAttr K a.A7 "low"
 Bc:NoAttr K a.A7 "width"
 Bl:NoAttr K a.A7 "size"
 Au:Cls K a.An
 Ra:mg "Seeker"=some (.ref a.An)
 Rb:Mk K a.An a.Gv
 Dr:NoAttr K a.An "data"
 Ds:NoAttr K a.An "span"
 Bm:NoAttr K a.An "number"
 Bd:NoAttr K a.An "reached"
 Ai:Cls K a.A5
 Rc:mg "Foreteller"=some (.ref a.A5)
 Re:Mk K a.A5 a.Gu
 By:NoAttr K a.A5 "looks"
 D6:NoAttr K a.A5 "books"
 D7:NoAttr K a.A5 "mixer"
 Bz:NoAttr K a.A5 "ended"
 C0:NoAttr K a.A5 "place"
 Be:NoAttr K a.A5 "present"
 Al:Cls K a.A1
 Cu:mg "Chain"=some (.ref a.A1)
 Cv:Mk K a.A1 a.Gw
 Av:NoAttr K a.A1 "foreteller"
 Br:NoAttr K a.A1 "links"
 Bt:NoAttr K a.A1 "texts"
 C7:Cls K a.Ab
 Ft:mg "Piece"=some (.ref a.Ab)
 Fu:Mk K a.Ab a.Gz
 C8:NoAttr K a.Ab "base"
 C9:NoAttr K a.Ab "data"
 A2:Cls K a.A0
 Fv:mg "Store"=some (.ref a.A0)
 Fw:Mk K a.A0 a.Ha
 Ay:NoAttr K a.A0 "looks"
 Ca:NoAttr K a.A0 "most"
 Bn:NoAttr K a.A0 "pieces"
 Az:NoAttr K a.A0 "chain"
 A6:Cls K a.A4
 J0:mg "Reader"=some (.ref a.A4)
 J9:Mk K a.A4 a.Hc
 Bu:NoAttr K a.A4 "data"
 Aq:NoAttr K a.A4 "reached"
 Rf:mg "NoText"=some (.ref a.Ff)
 R1:mg "NoBytes"=some (.ref a.Cq)
 D8:mg "NoMost"=some (.ref a.Ae)
 Rg:mg "NoChance"=some (.ref a.Fg)
 Rh:mg "NoBit"=some (.ref a.Bf)
 Ji:mg "NoLooks"=some (.ref a.Bv)
 Jj:mg "NoPress"=some (.ref a.Bq)
 D9:mg "NoName"=some (.ref a.Aa)
 Dt:mg "TooLong"=some (.ref a.Am)
 E4:mg "Taken"=some (.ref a.Aj)
 Ja:mg "Full"=some (.ref a.B8)
 Ge:mg "NoPiece"=some (.ref a.Ac)
 As:mg "NoShelf"=some (.ref a.A3)
 Cr:mg "ForetellError"=some (.ref a.Ak)
 Rm:XCls K a.Ff
 Ri:XMk K a.Ff
 Rn:XCls K a.Cq
 Rj:XMk K a.Cq
 F6:XCls K a.Ae
 Da:XMk K a.Ae
 Ro:XCls K a.Fg
 Rk:XMk K a.Fg
 Rp:XCls K a.Bf
 Rl:XMk K a.Bf
 R3:XCls K a.Bv
 Jk:XMk K a.Bv
 R4:XCls K a.Bq
 Jl:XMk K a.Bq
 F7:XCls K a.Aa
 Db:XMk K a.Aa
 Q3:XCls K a.Am
 Gf:XMk K a.Am
 Fx:XCls K a.Aj
 E5:XMk K a.Aj
 Jb:XCls K a.B8
 Fm:XMk K a.B8
 Q4:XCls K a.Ac
 Gg:XMk K a.Ac
 Bp:XCls K a.A3
 B6:XMk K a.A3
 Gh:W.kitOne K (.ref a.Ff) (.type "ValueError")=some true
 R5:W.kitAny K (.ref a.Ff) [.ref a.Bq,.ref a.Bv,.ref a.Ae,.ref a.Aa,.ref a.Cq,.ref a.Aj,.ref a.Am]=some false
 Fc:W.exmOne K (.ref a.Ff) (.ref a.Ak)=some true
 Gi:W.kitOne K (.ref a.Cq) (.type "ValueError")=some true
 R6:W.kitAny K (.ref a.Cq) [.ref a.Bq,.ref a.Bv,.ref a.Ae,.ref a.Aa,.ref a.Cq,.ref a.Aj,.ref a.Am]=some true
 Fd:W.exmOne K (.ref a.Cq) (.ref a.Ak)=some true
 Gj:W.kitOne K (.ref a.Bf) (.type "ValueError")=some true
 Fe:W.exmOne K (.ref a.Bf) (.ref a.Ak)=some true
 Bg:W.kitOne K (.ref a.A3) (.type "ValueError")=some true
 C1:W.kitOne K (.ref a.A3) (.ref a.A3)=some true
 E6:W.kitAny K (.ref a.A3) [.ref a.Bq,.ref a.Bv,.ref a.Ae,.ref a.Aa,.ref a.Cq,.ref a.Aj,.ref a.Am]=some false
 B0:W.exmOne K (.ref a.A3) (.ref a.Ak)=some true
 Ct:W.exmOne K (.ref a.A3) (.ref a.B8)=some false
 Dl:W.exmOne K (.ref a.A3) (.ref a.Bv)=some false
 Cb:W.exmOne K (.ref a.A3) (.ref a.Ae)=some false
 Cc:W.exmOne K (.ref a.A3) (.ref a.Aa)=some false
 Dm:W.exmOne K (.ref a.A3) (.ref a.Bq)=some false
 Cl:W.exmOne K (.ref a.A3) (.ref a.Aj)=some false
 A8:mg "isinstance"=none
 Pr:mg "int"=none
 Q2:mg "bool"=none
 Ap:mg "list"=none
 Du:mg "all"=none
 A9:mg "len"=none
 Ps:mg "min"=none
 Pt:mg "max"=none
 Pu:mg "str"=none
 Cd:mg "tuple"=none
 Jc:mg "zip"=none
 F8:mg "sum"=none
 Ax:mg "range"=none
 E7:mg "ValueError"=none
 Cw:mg "LEAST"=some (.int 32768 a.Jd)
 Ce:mg "ONE"=some (.int 16777216 a.Qp)
 Cg:mg "MOST_SIGNS"=some (.int 1000 a.Dv)
 Ci:mg "MOST_BYTES"=some (.int 12000 a.Dw)
 Bo:mg "MOST_COUNTED"=some (.int 255 a.Cy)
 Dn:mg "FIRST_WIDTH"=some (.int 1099511627776 a.Dh)
 E8:mg "FIRST_SIZE"=some (.int 5 a.Dx)
 Do:mg "LEAST_WIDTH"=some (.int 4294967296 a.Di)
 Fn:mg "FARTHEST"=some (.int 8 a.Fh)
 Dp:mg "MOST_PLACES"=some (.int 4 a.Dj)
 Cj:mg "MOST_LOOKS"=some (.int 6 a.Dy)
 Gk:mg "NO_SIGN"=some (.int 256 a.Fz)
 Dc:mg "FIRST_WEIGHT"=some (.int 1099511627776 a.Cz)
 F9:mg "OWN_PARTS"=some (.int 31 a.Eb)
 Dd:mg "MOST_FIGURES"=some (.int 48 a.D0)
 Cp:mg "NODES_END"=some (.int 256 a.Ec)
 De:mg "MOST_LETTERS"=some (.int 8 a.D1)
 Cm:mg "LETTERS"=some (.str "abcdefghijklmnopqrstuvwxyz" a.G0)
 Dq:mg "MOST_PIECES"=some (.int 60 a.Dk)
 E9:mg "MOST_SHELF"=some (.int 1000000 a.Dz)
 Ea:mg "KINDS"=some (.ref a.B9)
 Fa:K.lookup a.B9=some ⟨.type "tuple",none,.seq #[.str "even" a.Fi,.str "quick" a.Fj,.str "run" a.Fk] a.Ho,a.Hq⟩
 Fb:mg "WORTHS"=some (.ref a.Bh)
 Gm:K.lookup a.Bh=some ⟨.type "tuple",a.Ga,.seq #[.int 128 a.Ed,.int 64 a.Ee,.int 32 a.Ef,.int 16 a.Eg,.int 8 a.Eh,.int 4 a.Ei,.int 2 a.Ej,.int 1 a.Ek] a.Gb,a.Gc⟩
def Txt.w_KINDS{K:z0}{mg:Ε}(T:Txt K mg a):∀H,SqT K H a.B9 [V.str "even",V.str "quick",V.str "run"]:=yo1 T.Fa (by show 3<=sizeLine;decide) (.cons ⟨_,rfl⟩ (.cons ⟨_,rfl⟩ (.cons ⟨_,rfl⟩ .nil)))
def Txt.wy_KINDS{K:z0}{mg:Ε}(T:Txt K mg a):∃o,K.lookup a.B9=some o/\o.cls=.type "tuple"/\o.dict=none:=⟨_,T.Fa,rfl,rfl⟩
def Txt.w_WORTHS{K:z0}{mg:Ε}(T:Txt K mg a):∀H,SqT K H a.Bh [V.int 128,V.int 64,V.int 32,V.int 16,V.int 8,V.int 4,V.int 2,V.int 1]:=yo1 T.Gm (by show 8<=sizeLine;decide) (.cons ⟨_,rfl⟩ (.cons ⟨_,rfl⟩ (.cons ⟨_,rfl⟩ (.cons ⟨_,rfl⟩ (.cons ⟨_,rfl⟩ (.cons ⟨_,rfl⟩ (.cons ⟨_,rfl⟩ (.cons ⟨_,rfl⟩ .nil))))))))
section
variable{P:qh}{w:qd}{K:z0}{mg:Ε}{Γ:qf}
noncomputable def υ(v0 v1:V):Ι:=[("noughts",v0),("ones",v1)]
section
variable{H:Hp}{p dx:xy}{v0 v1 v:V}{P:V->Prop}{nx:Ζ}{σ:St}
section
variable(T:Txt K mg a)(hp:H p=some (.ins a.Af dx (υ v0 v1)))
include T hp
def Ą(h:P v0):RdX K H p "noughts" P:=rdX hp T.Aw T.At xv h
def ý(h:wd nx σ (upd H p (.ins a.Af dx (υ v v1)))):StX K H p "noughts" v nx σ:=stX hp T.Aw T.At lt2 μ h
def yam(h:P v1):RdX K H p "ones" P:=rdX hp T.Aw T.Bi (wc (by right) xv) h
def yak(h:wd nx σ (upd H p (.ins a.Af dx (υ v0 v)))):StX K H p "ones" v nx σ:=stX hp T.Aw T.Bi lt2 (vy (by right) μ) h
end
def ā(T:Txt K mg a)(hp:H p=some (.ins a.Af dx []))(h:wd nx σ (upd H p (.ins a.Af dx [("noughts",v)]))):StX K H p "noughts" v nx σ:=stX hp T.Aw T.At lt0 wk h
def yal(T:Txt K mg a)(hp:H p=some (.ins a.Af dx [("noughts",v0)]))(h:wd nx σ (upd H p (.ins a.Af dx (υ v0 v)))):StX K H p "ones" v nx σ:=stX hp T.Aw T.Bi lt1 (vy (by right) wk) h
def Ĭ:(υ v0 v1).lookup ("chance":Str)=none:=(wc (by right) (wc (by right) ğ))
def yag:(υ v0 v1).lookup ("seen":Str)=none:=(wc (by right) (wc (by right) ğ))
end
noncomputable def jf(v0:V):Ι:=[("held",v0)]
section
variable{H:Hp}{p dx:xy}{v0 v:V}{P:V->Prop}{nx:Ζ}{σ:St}
section
variable(T:Txt K mg a)(hp:H p=some (.ins a.Ad dx (jf v0)))
include T hp
def Ŝ(h:P v0):RdX K H p "held" P:=rdX hp T.Bj T.Ba xv h
def Ţ(h:wd nx σ (upd H p (.ins a.Ad dx (jf v)))):StX K H p "held" v nx σ:=stX hp T.Bj T.Ba lt1 μ h
end
def Ů(T:Txt K mg a)(hp:H p=some (.ins a.Ad dx []))(h:wd nx σ (upd H p (.ins a.Ad dx (jf v)))):StX K H p "held" v nx σ:=stX hp T.Bj T.Ba lt0 wk h
def þ:(jf v0).lookup ("chance":Str)=none:=(wc (by right) ğ)
def ŧ:(jf v0).lookup ("seen":Str)=none:=(wc (by right) ğ)
end
noncomputable def ķ(v0 v1:V):Ι:=[("last",v0),("length",v1)]
section
variable{H:Hp}{p dx:xy}{v0 v1 v:V}{P:V->Prop}{nx:Ζ}{σ:St}
section
variable(T:Txt K mg a)(hp:H p=some (.ins a.Ao dx (ķ v0 v1)))
include T hp
def yb1(h:P v0):RdX K H p "last" P:=rdX hp T.Bk T.Bw xv h
def ycg(h:wd nx σ (upd H p (.ins a.Ao dx (ķ v v1)))):StX K H p "last" v nx σ:=stX hp T.Bk T.Bw lt2 μ h
def ş(h:P v1):RdX K H p "length" P:=rdX hp T.Bk T.Bb (wc (by right) xv) h
def Ũ(h:wd nx σ (upd H p (.ins a.Ao dx (ķ v0 v)))):StX K H p "length" v nx σ:=stX hp T.Bk T.Bb lt2 (vy (by right) μ) h
end
def yb8(T:Txt K mg a)(hp:H p=some (.ins a.Ao dx []))(h:wd nx σ (upd H p (.ins a.Ao dx [("last",v)]))):StX K H p "last" v nx σ:=stX hp T.Bk T.Bw lt0 wk h
def ŭ(T:Txt K mg a)(hp:H p=some (.ins a.Ao dx [("last",v0)]))(h:wd nx σ (upd H p (.ins a.Ao dx (ķ v0 v)))):StX K H p "length" v nx σ:=stX hp T.Bk T.Bb lt1 (vy (by right) wk) h
def Ŗ:(ķ v0 v1).lookup ("chance":Str)=none:=(wc (by right) (wc (by right) ğ))
def yce:(ķ v0 v1).lookup ("seen":Str)=none:=(wc (by right) (wc (by right) ğ))
end
noncomputable def vcj(v0:V):Ι:=[("kept",v0)]
section
variable{H:Hp}{p dx:xy}{v0 v:V}{P:V->Prop}{nx:Ζ}{σ:St}
section
variable(T:Txt K mg a)(hp:H p=some (.ins a.C2 dx (vcj v0)))
include T hp
def yf5(h:P v0):RdX K H p "kept" P:=rdX hp T.F3 T.Ck xv h
def yf3(h:wd nx σ (upd H p (.ins a.C2 dx (vcj v)))):StX K H p "kept" v nx σ:=stX hp T.F3 T.Ck lt1 μ h
end
def yfc(T:Txt K mg a)(hp:H p=some (.ins a.C2 dx []))(h:wd nx σ (upd H p (.ins a.C2 dx (vcj v)))):StX K H p "kept" v nx σ:=stX hp T.F3 T.Ck lt0 wk h
def ved{C:xy}{nm:Str}(hp:H p=some (.ins C dx (vcj v0)))(n:nm∉(["kept"]:Ρ))(h:R):MtX H p C nm R:=mtX hp rfl n h
end
noncomputable def yeo(v0 v1:V):Ι:=[("look",v0),("slots",v1)]
section
variable{H:Hp}{p dx:xy}{v0 v1 v:V}{P:V->Prop}{nx:Ζ}{σ:St}
section
variable(T:Txt K mg a)(hp:H p=some (.ins a.Ah dx (yeo v0 v1)))
include T hp
def yaf(h:P v0):RdX K H p "look" P:=rdX hp T.C5 T.Co xv h
def Ť(h:P v1):RdX K H p "slots" P:=rdX hp T.C5 T.C6 (wc (by right) xv) h
end
def yai(T:Txt K mg a)(hp:H p=some (.ins a.Ah dx []))(h:wd nx σ (upd H p (.ins a.Ah dx [("look",v)]))):StX K H p "look" v nx σ:=stX hp T.C5 T.Co lt0 wk h
def Ř(T:Txt K mg a)(hp:H p=some (.ins a.Ah dx [("look",v0)]))(h:wd nx σ (upd H p (.ins a.Ah dx (yeo v0 v)))):StX K H p "slots" v nx σ:=stX hp T.C5 T.C6 lt1 (vy (by right) wk) h
def yp5{C:xy}{nm:Str}(hp:H p=some (.ins C dx (yeo v0 v1)))(n:nm∉(["look","slots"]:Ρ))(h:R):MtX H p C nm R:=mtX hp rfl n h
end
noncomputable def ykm(v0 v1 v2 v3:V):Ι:=[("data",v0),("span",v1),("number",v2),("reached",v3)]
section
variable{H:Hp}{p dx:xy}{v0 v1 v2 v3 v:V}{P:V->Prop}{nx:Ζ}{σ:St}
section
variable(T:Txt K mg a)(hp:H p=some (.ins a.An dx (ykm v0 v1 v2 v3)))
include T hp
def yff(h:P v0):RdX K H p "data" P:=rdX hp T.Au T.Dr xv h
def yf1(h:P v1):RdX K H p "span" P:=rdX hp T.Au T.Ds (wc (by right) xv) h
def yah(h:P v2):RdX K H p "number" P:=rdX hp T.Au T.Bm (wc (by right) (wc (by right) xv)) h
def yan(h:wd nx σ (upd H p (.ins a.An dx (ykm v0 v1 v v3)))):StX K H p "number" v nx σ:=stX hp T.Au T.Bm lt4 (vy (by right) (vy (by right) μ)) h
def ť(h:P v3):RdX K H p "reached" P:=rdX hp T.Au T.Bd (wc (by right) (wc (by right) (wc (by right) xv))) h
def ś(h:wd nx σ (upd H p (.ins a.An dx (ykm v0 v1 v2 v)))):StX K H p "reached" v nx σ:=stX hp T.Au T.Bd lt4 (vy (by right) (vy (by right) (vy (by right) μ))) h
end
def yfs(T:Txt K mg a)(hp:H p=some (.ins a.An dx []))(h:wd nx σ (upd H p (.ins a.An dx [("data",v)]))):StX K H p "data" v nx σ:=stX hp T.Au T.Dr lt0 wk h
def yfb(T:Txt K mg a)(hp:H p=some (.ins a.An dx [("data",v0)]))(h:wd nx σ (upd H p (.ins a.An dx [("data",v0),("span",v)]))):StX K H p "span" v nx σ:=stX hp T.Au T.Ds lt1 (vy (by right) wk) h
def yae(T:Txt K mg a)(hp:H p=some (.ins a.An dx [("data",v0),("span",v1)]))(h:wd nx σ (upd H p (.ins a.An dx [("data",v0),("span",v1),("number",v)]))):StX K H p "number" v nx σ:=stX hp T.Au T.Bm lt2 (vy (by right) (vy (by right) wk)) h
def Ś(T:Txt K mg a)(hp:H p=some (.ins a.An dx [("data",v0),("span",v1),("number",v2)]))(h:wd nx σ (upd H p (.ins a.An dx (ykm v0 v1 v2 v)))):StX K H p "reached" v nx σ:=stX hp T.Au T.Bd lt3 (vy (by right) (vy (by right) (vy (by right) wk))) h
def veg{C:xy}{nm:Str}(hp:H p=some (.ins C dx (ykm v0 v1 v2 v3)))(n:nm∉(["data","span","number","reached"]:Ρ))(h:R):MtX H p C nm R:=mtX hp rfl n h
end
noncomputable def Ħ(v0 v1 v2 v3 v4 v5:V):Ι:=[("looks",v0),("books",v1),("mixer",v2),("ended",v3),("place",v4),("present",v5)]
section
variable{H:Hp}{p dx:xy}{v0 v1 v2 v3 v4 v5 v:V}{P:V->Prop}{nx:Ζ}{σ:St}
section
variable(T:Txt K mg a)(hp:H p=some (.ins a.A5 dx (Ħ v0 v1 v2 v3 v4 v5)))
include T hp
def yci(h:P v1):RdX K H p "books" P:=rdX hp T.Ai T.D6 (wc (by right) xv) h
def yb7(h:P v2):RdX K H p "mixer" P:=rdX hp T.Ai T.D7 (wc (by right) (wc (by right) xv)) h
def yb6(h:P v3):RdX K H p "ended" P:=rdX hp T.Ai T.Bz (wc (by right) (wc (by right) (wc (by right) xv))) h
def yb3(h:wd nx σ (upd H p (.ins a.A5 dx (Ħ v0 v1 v2 v v4 v5)))):StX K H p "ended" v nx σ:=stX hp T.Ai T.Bz lt6 (vy (by right) (vy (by right) (vy (by right) μ))) h
def yb2(h:P v4):RdX K H p "place" P:=rdX hp T.Ai T.C0 (wc (by right) (wc (by right) (wc (by right) (wc (by right) xv)))) h
def ycq(h:wd nx σ (upd H p (.ins a.A5 dx (Ħ v0 v1 v2 v3 v v5)))):StX K H p "place" v nx σ:=stX hp T.Ai T.C0 lt6 (vy (by right) (vy (by right) (vy (by right) (vy (by right) μ)))) h
def ř(h:P v5):RdX K H p "present" P:=rdX hp T.Ai T.Be (wc (by right) (wc (by right) (wc (by right) (wc (by right) (wc (by right) xv))))) h
def Š(h:wd nx σ (upd H p (.ins a.A5 dx (Ħ v0 v1 v2 v3 v4 v)))):StX K H p "present" v nx σ:=stX hp T.Ai T.Be lt6 (vy (by right) (vy (by right) (vy (by right) (vy (by right) (vy (by right) μ))))) h
end
def ycm(T:Txt K mg a)(hp:H p=some (.ins a.A5 dx []))(h:wd nx σ (upd H p (.ins a.A5 dx [("looks",v)]))):StX K H p "looks" v nx σ:=stX hp T.Ai T.By lt0 wk h
def yck(T:Txt K mg a)(hp:H p=some (.ins a.A5 dx [("looks",v0)]))(h:wd nx σ (upd H p (.ins a.A5 dx [("looks",v0),("books",v)]))):StX K H p "books" v nx σ:=stX hp T.Ai T.D6 lt1 (vy (by right) wk) h
def yco(T:Txt K mg a)(hp:H p=some (.ins a.A5 dx [("looks",v0),("books",v1)]))(h:wd nx σ (upd H p (.ins a.A5 dx [("looks",v0),("books",v1),("mixer",v)]))):StX K H p "mixer" v nx σ:=stX hp T.Ai T.D7 lt2 (vy (by right) (vy (by right) wk)) h
def yb9(T:Txt K mg a)(hp:H p=some (.ins a.A5 dx [("looks",v0),("books",v1),("mixer",v2)]))(h:wd nx σ (upd H p (.ins a.A5 dx [("looks",v0),("books",v1),("mixer",v2),("ended",v)]))):StX K H p "ended" v nx σ:=stX hp T.Ai T.Bz lt3 (vy (by right) (vy (by right) (vy (by right) wk))) h
def ycl(T:Txt K mg a)(hp:H p=some (.ins a.A5 dx [("looks",v0),("books",v1),("mixer",v2),("ended",v3)]))(h:wd nx σ (upd H p (.ins a.A5 dx [("looks",v0),("books",v1),("mixer",v2),("ended",v3),("place",v)]))):StX K H p "place" v nx σ:=stX hp T.Ai T.C0 lt4 (vy (by right) (vy (by right) (vy (by right) (vy (by right) wk)))) h
def ũ(T:Txt K mg a)(hp:H p=some (.ins a.A5 dx [("looks",v0),("books",v1),("mixer",v2),("ended",v3),("place",v4)]))(h:wd nx σ (upd H p (.ins a.A5 dx (Ħ v0 v1 v2 v3 v4 v)))):StX K H p "present" v nx σ:=stX hp T.Ai T.Be lt5 (vy (by right) (vy (by right) (vy (by right) (vy (by right) (vy (by right) wk))))) h
def vd2{C:xy}{nm:Str}(hp:H p=some (.ins C dx (Ħ v0 v1 v2 v3 v4 v5)))(n:nm∉(["looks","books","mixer","ended","place","present"]:Ρ))(h:R):MtX H p C nm R:=mtX hp rfl n h
end
noncomputable def jv(v0 v1 v2:V):Ι:=[("foreteller",v0),("links",v1),("texts",v2)]
section
variable{H:Hp}{p dx:xy}{v0 v1 v2 v:V}{P:V->Prop}{nx:Ζ}{σ:St}
section
variable(T:Txt K mg a)(hp:H p=some (.ins a.A1 dx (jv v0 v1 v2)))
include T hp
def ψ(h:P v0):RdX K H p "foreteller" P:=rdX hp T.Al T.Av xv h
def ī(h:P v1):RdX K H p "links" P:=rdX hp T.Al T.Br (wc (by right) xv) h
def Ī(h:P v2):RdX K H p "texts" P:=rdX hp T.Al T.Bt (wc (by right) (wc (by right) xv)) h
end
def ω(T:Txt K mg a)(hp:H p=some (.ins a.A1 dx []))(h:wd nx σ (upd H p (.ins a.A1 dx [("foreteller",v)]))):StX K H p "foreteller" v nx σ:=stX hp T.Al T.Av lt0 wk h
def İ(T:Txt K mg a)(hp:H p=some (.ins a.A1 dx [("foreteller",v0)]))(h:wd nx σ (upd H p (.ins a.A1 dx [("foreteller",v0),("links",v)]))):StX K H p "links" v nx σ:=stX hp T.Al T.Br lt1 (vy (by right) wk) h
def ĳ(T:Txt K mg a)(hp:H p=some (.ins a.A1 dx [("foreteller",v0),("links",v1)]))(h:wd nx σ (upd H p (.ins a.A1 dx (jv v0 v1 v)))):StX K H p "texts" v nx σ:=stX hp T.Al T.Bt lt2 (vy (by right) (vy (by right) wk)) h
def ymi{C:xy}{nm:Str}(hp:H p=some (.ins C dx (jv v0 v1 v2)))(n:nm∉(["foreteller","links","texts"]:Ρ))(h:R):MtX H p C nm R:=mtX hp rfl n h
end
noncomputable def Ę(v0 v1:V):Ι:=[("base",v0),("data",v1)]
section
variable{H:Hp}{p dx:xy}{v0 v1 v:V}{P:V->Prop}{nx:Ζ}{σ:St}
section
variable(T:Txt K mg a)(hp:H p=some (.ins a.Ab dx (Ę v0 v1)))
include T hp
def Ŧ(h:P v0):RdX K H p "base" P:=rdX hp T.C7 T.C8 xv h
def Ŭ(h:P v1):RdX K H p "data" P:=rdX hp T.C7 T.C9 (wc (by right) xv) h
end
def Ş(T:Txt K mg a)(hp:H p=some (.ins a.Ab dx []))(h:wd nx σ (upd H p (.ins a.Ab dx [("base",v)]))):StX K H p "base" v nx σ:=stX hp T.C7 T.C8 lt0 wk h
def ŗ(T:Txt K mg a)(hp:H p=some (.ins a.Ab dx [("base",v0)]))(h:wd nx σ (upd H p (.ins a.Ab dx (Ę v0 v)))):StX K H p "data" v nx σ:=stX hp T.C7 T.C9 lt1 (vy (by right) wk) h
end
noncomputable def v8(v0 v1 v2 v3:V):Ι:=[("looks",v0),("most",v1),("pieces",v2),("chain",v3)]
section
variable{H:Hp}{p dx:xy}{v0 v1 v2 v3 v:V}{P:V->Prop}{nx:Ζ}{σ:St}
section
variable(T:Txt K mg a)(hp:H p=some (.ins a.A0 dx (v8 v0 v1 v2 v3)))
include T hp
def ı(h:P v0):RdX K H p "looks" P:=rdX hp T.A2 T.Ay xv h
def ţ(h:P v1):RdX K H p "most" P:=rdX hp T.A2 T.Ca (wc (by right) xv) h
def Ā(h:P v2):RdX K H p "pieces" P:=rdX hp T.A2 T.Bn (wc (by right) (wc (by right) xv)) h
def ĵ(h:P v3):RdX K H p "chain" P:=rdX hp T.A2 T.Az (wc (by right) (wc (by right) (wc (by right) xv))) h
def ĩ(h:wd nx σ (upd H p (.ins a.A0 dx (v8 v0 v1 v2 v)))):StX K H p "chain" v nx σ:=stX hp T.A2 T.Az lt4 (vy (by right) (vy (by right) (vy (by right) μ))) h
end
def į(T:Txt K mg a)(hp:H p=some (.ins a.A0 dx []))(h:wd nx σ (upd H p (.ins a.A0 dx [("looks",v)]))):StX K H p "looks" v nx σ:=stX hp T.A2 T.Ay lt0 wk h
def ū(T:Txt K mg a)(hp:H p=some (.ins a.A0 dx [("looks",v0)]))(h:wd nx σ (upd H p (.ins a.A0 dx [("looks",v0),("most",v)]))):StX K H p "most" v nx σ:=stX hp T.A2 T.Ca lt1 (vy (by right) wk) h
def Ă(T:Txt K mg a)(hp:H p=some (.ins a.A0 dx [("looks",v0),("most",v1)]))(h:wd nx σ (upd H p (.ins a.A0 dx [("looks",v0),("most",v1),("pieces",v)]))):StX K H p "pieces" v nx σ:=stX hp T.A2 T.Bn lt2 (vy (by right) (vy (by right) wk)) h
def ĭ(T:Txt K mg a)(hp:H p=some (.ins a.A0 dx [("looks",v0),("most",v1),("pieces",v2)]))(h:wd nx σ (upd H p (.ins a.A0 dx (v8 v0 v1 v2 v)))):StX K H p "chain" v nx σ:=stX hp T.A2 T.Az lt3 (vy (by right) (vy (by right) (vy (by right) wk))) h
def ylv{C:xy}{nm:Str}(hp:H p=some (.ins C dx (v8 v0 v1 v2 v3)))(n:nm∉(["looks","most","pieces","chain"]:Ρ))(h:R):MtX H p C nm R:=mtX hp rfl n h
end
noncomputable def zj(v0 v1:V):Ι:=[("data",v0),("reached",v1)]
section
variable{H:Hp}{p dx:xy}{v0 v1 v:V}{P:V->Prop}{nx:Ζ}{σ:St}
section
variable(T:Txt K mg a)(hp:H p=some (.ins a.A4 dx (zj v0 v1)))
include T hp
def Ĵ(h:P v0):RdX K H p "data" P:=rdX hp T.A6 T.Bu xv h
def Ý(h:P v1):RdX K H p "reached" P:=rdX hp T.A6 T.Aq (wc (by right) xv) h
def ß(h:wd nx σ (upd H p (.ins a.A4 dx (zj v0 v)))):StX K H p "reached" v nx σ:=stX hp T.A6 T.Aq lt2 (vy (by right) μ) h
end
def Ĳ(T:Txt K mg a)(hp:H p=some (.ins a.A4 dx []))(h:wd nx σ (upd H p (.ins a.A4 dx [("data",v)]))):StX K H p "data" v nx σ:=stX hp T.A6 T.Bu lt0 wk h
def Þ(T:Txt K mg a)(hp:H p=some (.ins a.A4 dx [("data",v0)]))(h:wd nx σ (upd H p (.ins a.A4 dx (zj v0 v)))):StX K H p "reached" v nx σ:=stX hp T.A6 T.Aq lt1 (vy (by right) wk) h
def yhl{C:xy}{nm:Str}(hp:H p=some (.ins C dx (zj v0 v1)))(n:nm∉(["data","reached"]:Ρ))(h:R):MtX H p C nm R:=mtX hp rfl n h
end
local macro_rules | `(tactic| walk_at "f1")=>`(tactic| first
 | exists 1,"Ą yam Ŝ yb1 ş yf5 yaf Ť yff yf1 yah ť yci yb7 yb6 yb2 ř ψ ī Ī Ŧ Ŭ ı ţ Ā ĵ Ĵ Ý")
local macro_rules | `(tactic| walk_at "f2")=>`(tactic| first
 | exists 1,"ý ā yak yal Ţ Ů ycg yb8 Ũ ŭ yf3 yfc yai Ř yfs yfb yan yae ś Ś ycm yck yco yb3 yb9 ycq ycl Š ũ ω İ ĳ Ş ŗ į ū Ă ĩ ĭ Ĳ ß Þ")
local macro_rules | `(tactic| walk_at "f3")=>`(tactic| first
 | exists 3,"ved yp5 veg vd2 ymi ylv yhl")
local macro_rules | `(tactic| walk_at "rd1")=>`(tactic| first | ((with_reducible refine gRd ?_); walk_at "f1") | ((with_reducible refine gSt ?_); walk_at "f2") | ((with_reducible refine gMt ?_); walk_at "f3"))
open SpanMath
def But(p:xy)(H H':Hp):Prop:=∀b o,H b=some o->b≠p->H' b=some o
def But.refl{p:xy}{H:Hp}:But p H H:=λZ Z h Z=>h
def But.of{p:xy}{H H':Hp}(s:yx H H'):But p H H':=λb o h Z=>s b o h
def But.trans{p:xy}{H H1 H2:Hp}(x:But p H H1)(y:But p H1 H2):But p H H2:=λb o h n=>y b o (x b o h n) n
theorem But.upd{p:xy}{H:Hp}{o:HO}:But p H (L2.upd H p o):=λb u h n=>by rw[yp n];exact h
theorem But.lst{p l C dx:xy}{fs:Ι}{H H':Hp}{xs:Τ}(e:But p H H')(hp:H p=some (.ins C dx fs))(h:H l=some (.lst xs)):H' l=some (.lst xs):=e _ _ h (xw h hp (by intro z;cases z))
def zv{x:V}(h:χ x=true):∃i,x=.int i:=by
 cases x with
 |int i=>exists i,rfl
 |_=>cases h
noncomputable def ô:V->Bool
 | .int i=>decide (0<=i) && decide (i<=1)
 |_=>false
noncomputable def chV:V->Bool
 | .int i=>decide (32768<=i) && decide (i<=16744448)
 |_=>false
inductive ytg(K:z0)(vs:Τ)(H:Hp)(Q:VK)(E':XK):Prop
 |mk(x n:_)(_:vs=[x])(_:xu K H x (.type n))(_:Q (.bl (χ x)) H)
noncomputable def j4(x:Sn):Ι:=[("low",.int x.1),("width",.int x.2.1),("size",.int x.2.2)]
def nWL:¬(("width":Str)="low"):=by right
def nLW:¬(("low":Str)="width"):=by right
def nSL:¬(("size":Str)="low"):=by right
def nLS:¬(("low":Str)="size"):=by right
def nSW:¬(("size":Str)="width"):=by right
def nWS:¬(("width":Str)="size"):=by right
def lkL(x:Sn):(j4 x).lookup ("low":Str)=some (.int x.1):=xv
def lkW(x:Sn):(j4 x).lookup ("width":Str)=some (.int x.2.1):=wc nWL xv
def lkS(x:Sn):(j4 x).lookup ("size":Str)=some (.int x.2.2):=wc nSL (wc nSW xv)
def lkN(x:Sn){m:Str}(h1:¬m="low")(h2:¬m="width")(h3:¬m="size"):(j4 x).lookup m=none:=wc h1 (wc h2 (wc h3 ğ))
def pfL(x:Sn)(v:Int):ε "low" (.int v) (j4 x)=j4 (v,x.2.1,x.2.2):=μ
def pfW(x:Sn)(v:Int):ε "width" (.int v) (j4 x)=j4 (x.1,v,x.2.2):=vy nLW μ
def pfS(x:Sn)(v:Int):ε "size" (.int v) (j4 x)=j4 (x.1,x.2.1,v):=vy nLS (vy nWS μ)
section
variable{H:Hp}{p dx:xy}{x:Sn}{P:V->Prop}{nx:Ζ}{σ:St}{v:Int}
def rdL(T:Txt K mg a)(hp:H p=some (.ins a.A7 dx (j4 x)))(h:P (.int x.1)):
  ∃a' C dx fs v,V.ref p=.ref a'/\H a'=some (.ins C dx fs)/\Cls K C/\NoAttr K C "low"/\fs.lookup ("low":Str)=some v/\P v:=⟨p,_,dx,_,_,rfl,hp,T.Ag,T.Bx,lkL x,h⟩
def rdW(T:Txt K mg a)(hp:H p=some (.ins a.A7 dx (j4 x)))(h:P (.int x.2.1)):
  ∃a' C dx fs v,V.ref p=.ref a'/\H a'=some (.ins C dx fs)/\Cls K C/\NoAttr K C "width"/\fs.lookup ("width":Str)=some v/\P v:=⟨p,_,dx,_,_,rfl,hp,T.Ag,T.Bc,lkW x,h⟩
def rdS(T:Txt K mg a)(hp:H p=some (.ins a.A7 dx (j4 x)))(h:P (.int x.2.2)):
  ∃a' C dx fs v,V.ref p=.ref a'/\H a'=some (.ins C dx fs)/\Cls K C/\NoAttr K C "size"/\fs.lookup ("size":Str)=some v/\P v:=⟨p,_,dx,_,_,rfl,hp,T.Ag,T.Bl,lkS x,h⟩
def vf9(T:Txt K mg a)(hp:H p=some (.ins a.A7 dx (j4 x)))(h:wd nx σ (upd H p (.ins a.A7 dx (j4 (v,x.2.1,x.2.2))))):
  ∃a' C dx fs,V.ref p=.ref a'/\H a'=some (.ins C dx fs)/\Cls K C/\NoAttr K C "low"/\fs.length<1000/\wd nx σ (upd H a' (.ins C dx (ε "low" (.int v) fs))):=⟨p,_,dx,j4 x,rfl,hp,T.Ag,T.Bx,by show 3<1000;decide,by rw[pfL];exact h⟩
def vgr(T:Txt K mg a)(hp:H p=some (.ins a.A7 dx (j4 x)))(h:wd nx σ (upd H p (.ins a.A7 dx (j4 (x.1,v,x.2.2))))):
  ∃a' C dx fs,V.ref p=.ref a'/\H a'=some (.ins C dx fs)/\Cls K C/\NoAttr K C "width"/\fs.length<1000/\wd nx σ (upd H a' (.ins C dx (ε "width" (.int v) fs))):=⟨p,_,dx,j4 x,rfl,hp,T.Ag,T.Bc,by show 3<1000;decide,by rw[pfW];exact h⟩
def vgp(T:Txt K mg a)(hp:H p=some (.ins a.A7 dx (j4 x)))(h:wd nx σ (upd H p (.ins a.A7 dx (j4 (x.1,x.2.1,v))))):
  ∃a' C dx fs,V.ref p=.ref a'/\H a'=some (.ins C dx fs)/\Cls K C/\NoAttr K C "size"/\fs.length<1000/\wd nx σ (upd H a' (.ins C dx (ε "size" (.int v) fs))):=⟨p,_,dx,j4 x,rfl,hp,T.Ag,T.Bl,by show 3<1000;decide,by rw[pfS];exact h⟩
end
set_option hygiene true in
local macro_rules | `(tactic| walk_at "rd1")=>`(tactic| first
 | exists 1,"rdL rdW rdS vf9 vgr"
 | (with_reducible refine' vgp (by assumption) ?rdh ?_; (case rdh=>first | assumption | exact ya)))
inductive Slt where
 |ev (n o:Int)
 |qk (h:Int)
 |rn (l n:Int)
abbrev _root_.Α:=Nat->qi Int->qj Slt
def Slt.ok:Slt->Prop
 | .ev n o=>0<=n/\0<=o/\n+o<=255
 | .qk h=>32768<=h/\h<=16744448
 | .rn l n=>0<=l/\l<=1/\0<=n/\n<=255
noncomputable def î(n:Int):Int:=(2*n+1)*16777216/(2*n+2)
def Slt.due:Slt->Int
 | .ev n o=>(2*o+1)*16777216/(2*(n+o)+2)
 | .qk h=>h
 | .rn l n=>if l=1 then î n else 16777216-î n
noncomputable def ydc(n o:Int):Slt:=if 255<n+o then .ev ((n+1)/2) ((o+1)/2)else .ev n o
noncomputable def yen(m:Int):Int:=if 16744448<(if 32768 > m then 32768 else m)then 16744448 else (if 32768 > m then 32768 else m)
def Slt.see:Slt->Int->Slt
 | .ev n o,b=>if b=1 then ydc n (o+1)else ydc (n+1) o
 | .qk h,b=>.qk (yen (if b=1 then h+(16777216-h)/16 else h-h/16))
 | .rn l n,b=>if b=l then .rn l (if 255<n+1 then 255 else n+1)else .rn b 1
def oS(a:Ads)(dx:xy):Slt->HO
 | .ev n o=>.ins a.Af dx (υ (.int n) (.int o))
 | .qk h=>.ins a.Ad dx (jf (.int h))
 | .rn l n=>.ins a.Ao dx (ķ (.int l) (.int n))
def ydh{n o:Int}(h1:0<=n)(h2:0<=o)(h3:n+o<=256):(ydc n o).ok:=by
 unfold ydc
 split
 .exists by omega,(),()
 .exists h1,h2,()
def ygn(m:Int):32768<=yen m/\yen m<=16744448:=by
 unfold yen
 split<;>split<;>omega
def Slt.see_ok{s:Slt}{b:Int}(h:s.ok)(b0:0<=b)(b1:b<=1):(s.see b).ok:=by
 cases s with
 |ev n o =>
  let⟨c,a,d⟩:=h;unfold Slt.see;dsimp only
  split
  .exact ydh c () ()
  .exact ydh () a ()
 |qk h0=>exact ygn _
 |rn l n =>
  let⟨c,a,d,e⟩:=h;unfold Slt.see;dsimp only
  split
  .refine⟨c,a,?_,?_⟩<;>split<;>omega
  .exists b0,b1,∅,∅
noncomputable def kdS:Fin 3->Str
 |0=>"even"
 |1=>"quick"
 |2=>"run"
def kd0:Fin 3->Slt
 |0=>.ev 0 0
 |1=>.qk 8388608
 |2=>.rn 1 0
def yog(k:Fin 3):(kd0 k).ok:=by
 match k with
 |0=>exists by decide,∅,∅
 |1=>exists by decide,∅
 |2=>exists by decide,∅,∅,∅
def yxu{b:Int}(b0:0<=b)(b1:b<=1):ô (.int b)=true:=by simp only[ô,cZ,decide_eq_true_eq];omega
def yeq{x:V}(h:ô x=true):∃b:Int,x=.int b/\0<=b/\b<=1:=by
 cases x with
 |int i =>
  simp only[ô,cZ,decide_eq_true_eq]at h;exact⟨i,rfl,h.1,h.2⟩
 |_=>cases h
inductive ŵ(C:xy)(F:Ι)(vs:Τ)(H:Hp)(Q:VK)(E':XK):Prop
 |mk(p dx:xy)(_:vs=[.ref p])(_:H p=some (.ins C dx []))(_:∀H',H' p=some (.ins C dx F)->But p H H'->Q .non H')
inductive uy(o:xy->Slt->HO)(g:Slt->Prop)(vs:Τ)(H:Hp)(Q:VK)(E':XK):Prop
 |mk(p dx:xy)(s:Slt)(_:vs=[.ref p])(_:g s)(_:s.ok)(_:H p=some (o dx s))(_:Q (.int s.due) H)
inductive j9(K:z0)(o:xy->Slt->HO)(g:Slt->Prop)(C:xy)(vs:Τ)(H:Hp)(Q:VK)(E:XK):Prop
 |mk(p dx:xy)(s:Slt)(x:V)(n:String)(_:vs=[.ref p,x])(_:g s)(_:s.ok)(_:H p=some (o dx s))(_:xu K H x (.type n))(_:(∀b:Int,x=.int b->0<=b->b<=1->∀H',H' p=some (o dx (s.see b))->But p H H'->Q .non H'))(_:(ô x=false->E (.ref C) none H))
def vcx:Slt->Prop
 | .ev _ _=>True
 |_=>False
def vcu:Slt->Prop
 | .qk _=>True
 |_=>False
def vcy:Slt->Prop
 | .rn _ _=>True
 |_=>False
def ybx(bs:Ο):Prop:=∀b∈bs,0<=b/\b<=1
def wv{n:Nat}(h:n<=16000000):n<=sizeLine:=dB h ∅
def vw{n:Nat}(h:n<=16000000):n<sizeLine:=Nat.lt_of_le_of_lt h ∅
def yiu(ns:Ο)(lo hi:qj Int):∃ms:Ο,Ĩ (ns.map V.int) lo hi=ms.map V.int/\ms.length<=ns.length/\∀m∈ms,m∈ns:=by
 exists(ns.drop (HT.sIx (ns.map V.int).length 0 lo)).take (HT.sIx (ns.map V.int).length (ns.map V.int).length hi-HT.sIx (ns.map V.int).length 0 lo),?_,?_,?_
 .unfold Ĩ;rw[dY,List.map_drop]
 .rw[cL,df];omega
 .intro m a;exact List.mem_of_mem_drop (dF a)
def Ù{ns:Ο}{x:V}(h:(ns.map V.int)[i]?=some x):∃n,x=.int n/\n∈ns/\ns[i]?=some n/\i<ns.length:=by
 rw[cK]at h
 cases e:ns[i]? with
 |none=>rw[e]at h;cases h
 |some n =>
  rw[e]at h
  have a:i<ns.length:=by
   rcases Nat.lt_or_ge i ns.length with q|q
   .exact q
   .rw[dv q]at e;cases e
  exists n,(cJ h).symm,cN e,rfl,a
def zu{l:Ο}{q:Int}(h:l[i]?=some q):l.take (i+1)=l.take i++[q]:=by rw[List.take_add_one,h];rfl
def yla{ys:Ο}(h1:ybx xs)(h2:ybx ys):ybx (xs++ys):=λb a=>by
 rcases db.mp a with h|h
 .exact h1 b h
 .exact h2 b h
def ygt(c:Int)(n:Nat):(List.replicate n [V.int c]).flatten=(List.replicate n c).map V.int:=by
 induction n with
 |zero=>rfl
 |succ n ih=>rw[dP,List.flatten_cons,ih,dP];rfl
def ypu(sg:Ο)(p:Int):Int:=if p<=sg.length then (atI sg (-p)).getD 256 else 256
def yrt{α β:Type}(f:α->β)(xs:qi α)(i:Int):atI (xs.map f) i=(atI xs i).map f:=by
 unfold atI;rw[bz]
 cases ixN xs.length i with
 |none=>rfl
 |some j =>
  show (xs.map f)[j]?=(xs[j]?).map f;rw[cK]
def yk2{sg:Ο}{p:Int}(h1:1<=p)(h2:p<=sg.length):∃c,atI sg (-p)=some c/\c∈sg:=by
 unfold atI ixN;rw[if_neg ()];by_cases h:-(sg.length:Int)<= -p
 .rw[if_pos ()];have a:((-p+(sg.length:Int)).toNat)<sg.length:=()
  exists _,cA a,dm a
 .omega
def Slt.kind:Slt->Fin 3
 | .ev _ _=>0
 | .qk _=>1
 | .rn _ _=>2
def yml(s:Slt)(b:Int):(s.see b).kind=s.kind:=by
 cases s with
 |ev n o =>
  unfold Slt.see ydc;dsimp only
  split<;>split<;>rfl
 |qk h=>rfl
 |rn l n =>
  unfold Slt.see;dsimp only
  split<;>rfl
def ymv(k:Fin 3):(kd0 k).kind=k:=by
 match k with
 |0=>rfl
 |1=>rfl
 |2=>rfl
def Œ(a:Ads)(dx:xy)(s:Slt):∃C fs,oS a dx s=.ins C dx fs:=by cases s<;>exact⟨_,_,rfl⟩
def yej{s:Slt}(h:s.ok):32768<=s.due/\s.due<=16744448:=by
 cases s with
 |ev n o =>
  let⟨c,d,b⟩:=h;unfold Slt.due;dsimp only;have a:(0:Int)<2*(n+o)+2:=()
  constructor
  .rw[Int.le_ediv_iff_mul_le a];omega
  .have:(2*o+1)*16777216/(2*(n+o)+2)<16744449:=by
    rw[Int.ediv_lt_iff_lt_mul a];omega
   omega
 |qk h0=>exact h
 |rn l n =>
  let⟨c,d,b,e⟩:=h;have a:(0:Int)<2*n+2:=()
  have g1:8388608<=î n:=by
   unfold î;rw[Int.le_ediv_iff_mul_le a];omega
  have g2:î n<16744449:=by
   unfold î;rw[Int.ediv_lt_iff_lt_mul a];omega
  unfold Slt.due;dsimp only
  split<;>omega
def yhc{p dx:xy}{s:Slt}{ta:TE}{σ:St}{H:Hp}{Q:VK}{E1 E2 E3:XK}(hta:∀Q':VK,Q' (.ref p) H->ta σ H Q')(hp:H p=some (oS a dx s))(ok:s.ok)(h:Q (.int s.due) H):
  ys7 (ydb a.Af "chance" (uy (oS a) vcx) [] E1 ta ykp) (ys7 (ydb a.Ad "chance" (uy (oS a) vcu) [] E2 ta ykp) (ydb a.Ao "chance" (uy (oS a) vcy) [] E3 ta ykp)) σ H Q:=by
 cases s with
 |ev n o=>exact ð (yez (hta _ ⟨p,dx,_,rfl,hp,Ĭ,p,dx,.ev n o,rfl,trivial,ok,hp,h⟩))
 |qk h0=>exact π (ð (yez (hta _ ⟨p,dx,_,rfl,hp,þ,p,dx,.qk h0,rfl,trivial,ok,hp,h⟩)))
 |rn l n=>exact π (π (yez (hta _ ⟨p,dx,_,rfl,hp,Ŗ,p,dx,.rn l n,rfl,trivial,ok,hp,h⟩)))
def yrx{p dx:xy}{s:Slt}{ta:TE}{t:TA}{σ:St}{H:Hp}{Q:VK}{E1 E2 E3:St->XK}{x:V}{n:String}(hta:∀Q':VK,Q' (.ref p) H->ta σ H Q')(ht:∀Q':qi V->Hp->Prop,Q' [x] H->t σ H Q')(hp:H p=some (oS a dx s))(ok:s.ok)(ty:xu K H x (.type n))
  (h:∀b:Int,x=.int b->0<=b->b<=1->∀H',H' p=some (oS a dx (s.see b))->But p H H'->Q .non H') (h1:ô x=false->E1 σ (.ref a.Bf) none H) (h2:ô x=false->E2 σ (.ref a.Bf) none H) (h3:ô x=false->E3 σ (.ref a.Bf) none H):
  ys7 (Ň a.Af "seen" (j9 K (oS a) vcx a.Bf) [] E1 ta t) (ys7 (Ň a.Ad "seen" (j9 K (oS a) vcu a.Bf) [] E2 ta t) (Ň a.Ao "seen" (j9 K (oS a) vcy a.Bf) [] E3 ta t)) σ H Q:=by
 cases s with
 |ev n o=>exact ð (yab (hta _ ⟨p,dx,_,rfl,hp,yag,ht _ ⟨p,dx,.ev n o,x,_,rfl,trivial,ok,hp,ty,h,h1⟩⟩))
 |qk h0=>exact π (ð (yab (hta _ ⟨p,dx,_,rfl,hp,ŧ,ht _ ⟨p,dx,.qk h0,x,_,rfl,trivial,ok,hp,ty,h,h2⟩⟩)))
 |rn l n=>exact π (π (yab (hta _ ⟨p,dx,_,rfl,hp,yce,ht _ ⟨p,dx,.rn l n,x,_,rfl,trivial,ok,hp,ty,h,h3⟩⟩)))
def yt6{x:Sn}{c b:Int}(h:Ok x):(nar x c b).2.2<=x.2.2+2:=by
 unfold nar ren;have:=h.z
 (repeat' split)<;>(dsimp only;omega)
noncomputable abbrev tMx:Nat:=100000
def ydn{k:Nat}(h:k<=6):pw k<=281474976710656:=Int.le_trans (yis h) ∅
def ylt(xs:Ο)(y:Int):xs.map V.int++[V.int y]=(xs++[y]).map V.int:=by simp
def ysl(xs:Ο):(xs.map V.int).reverse=xs.reverse.map V.int:=by simp
noncomputable def gvv(c b:Int):Int:=if b=1 then c else 16777216-c
def yc0{x:V}(h:chV x=true):∃c,x=.int c/\32768<=c/\c<=16744448:=by
 cases x with
 |int i =>
  simp only[chV,cZ,decide_eq_true_eq]at h;exact⟨i,rfl,h.1,h.2⟩
 |_=>cases h
def ydm{x:V}(h:ô x=true):∃b,x=.int b/\0<=b/\b<=1:=by
 cases x with
 |int i =>
  simp only[ô,cZ,decide_eq_true_eq]at h;exact⟨i,rfl,h.1,h.2⟩
 |_=>cases h
def yek{c:Int}(h:Ch c):chV (.int c)=true:=by let⟨b,a⟩:=h;simp only[chV,cZ,decide_eq_true_eq];omega
def yc8{b:Int}(h1:0<=b)(h2:b<=1):ô (.int b)=true:=by simp only[ô,cZ,decide_eq_true_eq];omega
def ŋ{H H':Hp}{v:V}{n:String}(S:yx H H')(t:xu K H v (.type n)):xu K H' v (.type n):=by
 cases t with
 |non=>exact .non
 |bl b=>exact .bl b
 |int i=>exact .int i
 |str x=>exact .str x
 |flt x=>exact .flt x
 |lst e=>exact .lst (S _ _ e)
 |frz e=>exact .frz (S _ _ e)
 |tup e=>exact .tup (S _ _ e)
 |dK e=>exact .dK (S _ _ e)
 |dT e=>exact .dT (S _ _ e)
noncomputable def sgV:V->Bool
 | .int i=>decide (0<=i) && decide (i<=255)
 |_=>false
def ym5(K:z0)(H:Hp)(xs:Τ):Prop:=∀y∈xs,∃k:String,xu K H y (.type k)
def ã{H:Hp}(ns:Ο):ym5 K H (ns.map V.int):=λy a=>by
 let⟨i,_,rfl⟩:=cI.mp a;exists _,.int i
def Bad(K:z0)(H:Hp)(x:V)(n:String)(m:Int):Prop:=n≠"list"\/∃p xs,x=.ref p/\H p=some (.lst xs)/\ym5 K H xs/\xs.length<=100000/\(decide ((xs.length:Int)<=m) && xs.all sgV)=false
def ytc(K:z0)(H:Hp)(x:V)(xs:Τ)(m:Int):Prop:=∃p,x=.ref p/\H p=some (.lst xs)/\ym5 K H xs/\xs.length<=100000/\(decide ((xs.length:Int)<=m) && xs.all sgV)=true
def yqq{H:Hp}{x:V}{n:String}(ty:xu K H x (.type n)):W.kitOne K (.type n) (.type "list")=some (decide (n="list")):=by cases ty<;>rfl
def yks{n:Nat}(h:n<=100000):n<sizeLine:=Nat.lt_of_le_of_lt h ∅
def Ñ{xs:Τ}(n:Nat):Ĩ xs (some (n:Int)) none=xs.drop n:=by
 unfold Ĩ;rw[HT.sIx_nat,HT.sIx_none];by_cases h:n<=xs.length
 .rw[Nat.min_eq_left h,dE (by rw[df];exact cE _)]
 .rw[Nat.min_eq_right (),Nat.sub_self,List.take_zero,List.drop_of_length_le ()]
def ycv{ns:Ο}(h:∀i∈ns,0<=i/\i<=255):(ns.map V.int).all sgV=true:=by rw[List.all_map,List.all_eq_true];intro i a;let⟨c,b⟩:=h i a;simp[sgV,c,b]
inductive Ŀ(K:z0)(C:xy)(m:Int)(vs:Τ)(H:Hp)(Q:VK)(E:XK):Prop
 |mk(x n:_)(_:vs=[x])(_:xu K H x (.type n))(_:((Bad K H x n m/\∀H',yx H H'->E (.ref C) none H')\/∃xs,ytc K H x xs m/\∀r H',H r=none->H' r=some (.lst xs)->yx H H'->Q (.ref r) H'))
def ykq(p q:xy)(H H':Hp):Prop:=∀b o,H b=some o->b≠p->b≠q->H' b=some o
def But.two{p:xy}{H H':Hp}(h:But p H H'):ykq p q H H':=λb o e n Z=>h b o e n
def But.two'{p:xy}{H H':Hp}(h:But q H H'):ykq p q H H':=λb o e Z n=>h b o e n
def ykq.trans{p:xy}{H H1 H2:Hp}(x:ykq p q H H1)(y:ykq p q H1 H2):ykq p q H H2:=λb o h n m=>y b o (x b o h n m) n m
structure ygi(a:Ads)(H:Hp)(p dx pd ps ds:xy)(d:Ο)(x:Sn):Prop where
 me:H p=some (.ins a.An dx (ykm (.ref pd) (.ref ps) (.int (rn d (sz x))) (.int x.2.2)))
 dt:H pd=some (.lst (d.map V.int))
 sp:H ps=some (.ins a.A7 ds (j4 x))
 ne:p≠ps
def ygi.same{H H':Hp}{p dx pd ps:xy}{x:Sn}(h:ygi a H p dx pd ps ds d x)(S:yx H H'):ygi a H' p dx pd ps ds d x:=⟨S _ _ h.me,S _ _ h.dt,S _ _ h.sp,h.ne⟩
section
variable{H H':Hp}{p dx pd ps:xy}{x:Sn}
theorem ygi.lst(h:ygi a H p dx pd ps ds d x)(B:ykq p ps H H'){l:xy}{xs:Τ}(e:H l=some (.lst xs)):H' l=some (.lst xs):=B _ _ e (xw e h.me (by intro z;cases z)) (xw e h.sp (by intro z;cases z))
theorem ygi.tup(h:ygi a H p dx pd ps ds d x)(B:ykq p ps H H'){l:xy}{xs:Τ}(e:H l=some (.tup xs)):H' l=some (.tup xs):=B _ _ e (xw e h.me (by intro z;cases z)) (xw e h.sp (by intro z;cases z))
end
noncomputable def vfs:V->V
 | .int c=>.int (c%256)
 |_=>.non
def ylg{H:Hp}{p:xy}(h:H p=some (.lst (d.map V.int)))(hb:Byt d)(hz:d.length<=12000):ytc K H (.ref p) (d.map V.int) 12000 :=
 ⟨p,rfl,h,ã d,by rw[bz];omega,by rw[ycv hb,bz,cT ()];rfl⟩
def Sgs(ns:Ο):Prop:=∀i∈ns,0<=i/\i<=255
noncomputable def wth:Ο:=[128,64,32,16,8,4,2,1]
def b8(s:Int):Ο:=wth.map (λw=>s/w%2)
def dec:qi Int->qi Int
 |[]=>[0]
 |s::r=>(1::b8 s)++dec r
noncomputable def nds:Int->qi Int->qi Int
 |_,[]=>[]
 |n,b::r=>n::nds (2*n+b) r
def yby:qi Int->qi Int
 |[]=>[]
 |s::r=>(1::b8 s)++yby r
theorem ym4:∀ns,dec ns=yby ns++[0]
 |[]=>rfl
 |s::r=>by simp[dec,yby,ym4 r]
theorem ybb(s:Int):∀ns,yby (ns++[s])=yby ns++(1::b8 s)
 |[]=>by simp[yby]
 |t::r=>by simp[yby,ybb s r]
def yo3(s:Int):(b8 s).length=8:=rfl
theorem γ:∀ns:Ο,(yby ns).length=9*ns.length
 |[]=>rfl
 |s::r=>by
  show ((1::b8 s)++yby r).length=9*(r.length+1);rw[bY,γ r];show 9+_=_;omega
def yqn(s:Int):ybx (b8 s):=λb a=>by
 let⟨w,_,rfl⟩:=cI.mp a;have c:0<=s/w%2:=ew _ ∅;have d:s/w%2<2:=ee _ ∅;exists c,()
theorem Í:∀ns,ybx (dec ns)
 |[]=>λb a=>by rw[cR.mp a];decide
 |s::r=>by
  refine yla (λb a=>?_) (Í r);rcases cS.mp a with rfl|a
  .decide
  .exact yqn s b a
def yss{s:Int}(h0:0<=s)(h1:s<=255):128*(s/128%2)+(64*(s/64%2)+(32*(s/32%2)+(16*(s/16%2)+(8*(s/8%2)+(4*(s/4%2)+(2*(s/2%2)+(1*(s/1%2)+0)))))))=s:=by
 have h:∀n:Nat,n<256->128*((n:Int)/128%2)+(64*((n:Int)/64%2)+(32*((n:Int)/32%2)+(16*((n:Int)/16%2)+(8*((n:Int)/8%2)+(4*((n:Int)/4%2)+(2*((n:Int)/2%2)+(1*((n:Int)/1%2)+0)))))))=(n:Int):=by right
 let⟨n,rfl⟩:=Int.eq_ofNat_of_zero_le h0;exact h n ()
noncomputable def wV(s:Int):V->V
 | .int w=>.int (s/w%2)
 |_=>.non
def yef{H:Hp}{p:xy}(h:H p=some (.lst (d.map V.int)))(hb:Sgs d)(hz:d.length<=1000):ytc K H (.ref p) (d.map V.int) 1000 :=
 ⟨p,rfl,h,ã d,by rw[bz];omega,by rw[ycv hb,bz,cT ()];rfl⟩
def ymb(xs ys:Ο):xs.map V.int++ys.map V.int=(xs++ys).map V.int:=by simp
def ut(ns:Ο):(dec ns).length=9*ns.length+1:=by rw[ym4,bY,γ];rfl
noncomputable def yac(f:qi Int->qj Slt)(k:Ο)(s:Slt):qi Int->qj Slt:=λj=>if j=k then some s else f j
noncomputable def vcq:HO->Bool
 | .ins _ _ _=>true
 | .dT _=>true
 |_=>false
noncomputable def kI(k:Ο):qi Key:=k.map Sum.inl
def yuy(k:Ο):(kI k).map kV=k.map V.int:=by unfold kI;rw[dD];rfl
def ypg{j k:Ο}(h:kI j=kI k):j=k:=by
 unfold kI at h
 induction j generalizing k with
 |nil =>
  cases k with
  |nil=>rfl
  |cons _ _=>cases h
 |cons x r ih =>
  cases k with
  |nil=>cases h
  |cons y s =>
   injection h with h1 h2;injection h1 with h1;rw[h1,ih h2]
def ys5(H:Hp)(d:xy):Prop:=∀kvs,H d=some (.dT kvs)->(kvs.map (·.1)).Nodup/\∀q∈kvs,∃k,q.1=kI k
def ys5.mv{H H':Hp}{d:xy}{kvs:qi (qi Key×V)}(h:ys5 H d)(h1:H d=some (.dT kvs))(h2:H' d=some (.dT kvs)):ys5 H' d:=λa e=>by
 rw[h2]at e;cases e;exact h kvs h1
def yl9{kvs:qi (qi Key×V)}{k:qi Key}(h:ξ kvs k=none):k∉kvs.map (·.1):=λm=>by
 let⟨p,b,e⟩:=cI.mp m;have a:=j6 k kvs;rw[h]at a;exact List.any_eq_false.mp a p b (cT e)
def ys5.snoc{H':Hp}{d:xy}{kvs:qi (qi Key×V)}{k:Ο}{v:V}(h:(kvs.map (·.1)).Nodup/\∀q∈kvs,∃k,q.1=kI k)(hn:ξ kvs (kI k)=none)(h2:H' d=some (.dT (yad kvs (kI k) v))):ys5 H' d:=λa e=>by
 rw[h2,û _ hn]at e;cases e;rw[cM];exists List.nodup_append.mpr ⟨h.1,ez.mpr ⟨List.not_mem_nil,List.nodup_nil⟩,λx b y c z=>?_⟩,λq f=>?_
 .rw[z,cR.mp c]at b;exact yl9 hn b
 .rcases db.mp f with w|w
  .exact h.2 q w
  .rw[cR.mp w];exists k,rfl
structure õ(a:Ads)(H:Hp)(p dx lk d:xy)(kd:Fin 3)(f:qi Int->qj Slt)(O:Μ)(m:Nat):Prop where
 me:H p=some (.ins a.Ah dx (yeo (.ref lk) (.ref d)))
 own:∀b,O b->∃o,H b=some o/\vcq o=true
 np:¬O p
 dO:O d
 ky:ys5 H d
 tb:∃(kvs:qi (qi Key×V))(loc:qi Int->xy×xy),H d=some (.dT kvs)/\kvs.length<=m/\(∀k,f k=none->ξ kvs (kI k)=none)/\
  (∀k s,f k=some s->ξ kvs (kI k)=some (.ref (loc k).1)/\H (loc k).1=some (oS a (loc k).2 s)/\s.ok/\s.kind=kd/\O (loc k).1)/\(∀k j s t,f k=some s->f j=some t->(loc k).1=(loc j).1->k=j)
def yna(O:Μ)(H H':Hp):Prop:=∀b o,H b=some o->¬O b->H' b=some o
section
variable{H H':Hp}{p dx lk d:xy}{kd:Fin 3}{f:qi Int->qj Slt}{O:Μ}{m:Nat}
def õ.frame(h:õ a H p dx lk d kd f O m){O2:Μ}(B:yna O2 H H')(dj:∀b,O b->¬O2 b)(hp:¬O2 p):õ a H' p dx lk d kd f O m:=by
 let⟨e,g,c,v,r,q,z⟩:=h.tb;exists B _ _ h.me hp,λb j=>?_,h.np,h.dO,h.ky.mv c (B _ _ c (dj _ h.dO)),e,g,B _ _ c (dj _ h.dO),v,r,λk s w=>?_,z
 .obtain⟨o,u,y⟩:=h.own b j;exists o,B _ _ u (dj b j),y
 .obtain⟨l,n,t,x,i⟩:=q k s w;exists l,B _ _ n (dj _ i),t,x,i
def õ.same(h:õ a H p dx lk d kd f O m)(S:yx H H'):õ a H' p dx lk d kd f O m:=h.frame (O2:=λZ=>False) (λb o e Z=>S b o e) (λZ Z z=>z) (λz=>z)
end
open MixI
structure ykr(a:Ads)(p dx l:xy)(ws:Ο)(H:Hp):Prop where
 o:H p=some (.ins a.C2 dx (vcj (.ref l)))
 l:H l=some (.lst (ws.map V.int))
def ykr.same{p dx l:xy}{ws:Ο}{H H':Hp}(m:ykr a p dx l ws H)(S:yx H H'):ykr a p dx l ws H':=⟨S _ _ m.o,S _ _ m.l⟩
def yw4{k:Nat}{cs:Ο}(h:COk k cs){c:Int}(hm:c∈cs):Ch c:=⟨h.lo c hm,h.hi c hm⟩
def yof{g:Int->Int->Int}{ws cs:Ο}(h:cs.length=ws.length):(List.range (ws.map V.int).length).map (λi=>V.int (g ((ws[i]?).getD 0) ((cs[i]?).getD 0)))=(List.zipWith g ws cs).map V.int:=by rw[bz,<- yg7 h,dD];rfl
def yea{H:Hp}{xs ys:Τ}(h:H D=some (.lst xs))(e:xs=ys):H D=some (.lst ys):=e ▸ h
inductive yht(K:z0)(a:Ads)(vs:Τ)(H:Hp)(Q:VK)(E':XK):Prop
 |mk(p dx l c:xy)(ws cs:Ο)(k:Nat)(_:vs=[.ref p,.ref c])(_:1<=k)(_:k<=6)(_:WOk k ws)(_:COk k cs)(_:ykr a p dx l ws H)(_:SqL K H c (cs.map V.int))(_:∀H',yx H H'->Q (.int (ypv ws cs)) H')
inductive yh2(K:z0)(a:Ads)(C:xy)(vs:Τ)(H:Hp)(Q:VK)(E:XK):Prop
 |mk(p dx l c:xy)(ws cs:Ο)(k:Nat)(x:V)(n:String)(_:vs=[.ref p,.ref c,x])(_:1<=k)(_:k<=6)(_:WOk k ws)(_:COk k cs)(_:ykr a p dx l ws H)(_:SqL K H c (cs.map V.int))(_:xu K H x (.type n))(_:(∀b:Int,x=.int b->0<=b->b<=1->∀l' H',H l'=none->ykr a p dx l' (lrn ws cs b) H'->But p H H'->Q .non H'))(_:(ô x=false->E (.ref C) none H))
inductive ypy(a:Ads)(vs:Τ)(H:Hp)(Q:VK)(E':XK):Prop
 |mk(p dx l:xy)(ws:Ο)(_:vs=[.ref p])(_:ykr a p dx l ws H)(_:∀r H',H r=none->H' r=some (.lst (ws.map V.int))->yx H H'->Q (.ref r) H')
inductive ymy(a:Ads)(vs:Τ)(H:Hp)(Q:VK)(E':XK):Prop
 |mk(p dx:xy)(k:Nat)(_:vs=[.ref p,.int k])(_:1<=k)(_:k<=6)(_:H p=some (.ins a.C2 dx []))(_:∀l H',H l=none->ykr a p dx l (List.replicate k 1099511627776) H'->But p H H'->Q .non H')
def ykg:V->Bool
 | .str s=>inV (.str s) [V.str "even",V.str "quick",V.str "run"]
 |_=>false
noncomputable def plV:V->Bool
 | .int i=>decide (1<=i) && decide (i<=8)
 |_=>false
noncomputable def ltV:V->V->Bool
 | .int i,.int j=>decide (i<j)
 |_,_=>false
def veu(xs:Τ):Bool:=(List.zipWith ltV xs xs.tail).all id
def xp(xs:Τ):Bool:=decide (xs.length<=4) && xs.all plV && veu xs
def PlB(K:z0)(H:Hp)(x:V)(b:Bool):Prop:=(∃n,xu K H x (.type n)/\n≠"tuple"/\b=false)\/∃t xs,x=.ref t/\H t=some (.tup xs)/\xs.length<=1000/\(∀y∈xs,∃n:String,xu K H y (.type n))/\b=xp xs
def LkB(K:z0)(H:Hp)(x:V)(b:Bool):Prop:=(∃n,xu K H x (.type n)/\n≠"tuple"/\b=false) \/
 ∃t xs,x=.ref t/\H t=some (.tup xs)/\((xs.length≠2/\b=false)\/∃y z n,xs=[y,z]/\xu K H y (.type n)/\((ykg y=false/\b=false)\/(ykg y=true/\PlB K H z b)))
def PlB.same{H H':Hp}{x:V}{b:Bool}(h:PlB K H x b)(S:yx H H'):PlB K H' x b:=by
 rcases h with⟨n,t,d,e⟩|⟨t,a,e,c,f,g,j⟩
 .exact .inl ⟨n,ŋ S t,d,e⟩
 .exact .inr ⟨t,a,e,S _ _ c,f,λy i=>let ⟨n,z⟩:=g y i;⟨n,ŋ S z⟩,j⟩
theorem LkB.same{H H':Hp}{x:V}{b:Bool}(h:LkB K H x b)(S:yx H H'):LkB K H' x b:=by
 rcases h with⟨n,t,f,e⟩|⟨t,j,e,c,h⟩
 .exact .inl ⟨n,ŋ S t,f,e⟩
 .refine .inr ⟨t,j,e,S _ _ c,?_⟩;rcases h with h|⟨y,z,n,a,g,h⟩
  .exact .inl h
  .refine .inr ⟨y,z,n,a,ŋ S g,?_⟩;rcases h with h|⟨d,i⟩
   .exact .inl h
   .exact .inr ⟨d,i.same S⟩
def ü{H:Hp}{x:V}{n:String}(ty:xu K H x (.type n)):W.kitOne K (.type n) (.type "tuple")=some (decide (n="tuple")):=by cases ty<;>rfl
def ydw{H:Hp}{x:V}{n:String}(ty:xu K H x (.type n)):W.kitOne K (.type n) (.type "str")=some (decide (n="str")):=by cases ty<;>rfl
def yd7{H:Hp}{x:V}{n:String}(ty:xu K H x (.type n)):W.kitOne K (.type n) (.type "list")=some (decide (n="list")):=by cases ty<;>rfl
def ysh{xs:Τ}{y:V}(h:xs.tail[i]?=some y):xs[i+1]?=some y:=by
 cases xs with
 |nil=>simp at h
 |cons x r=>simpa using h
def yhw(xs:Τ):(List.range xs.tail.length).map (λi=>V.bl (ltV ((xs[i]?).getD .non) ((xs.tail[i]?).getD .non)))=(List.zipWith ltV xs xs.tail).map V.bl:=by
 apply List.ext_getElem
 .rw[bz,dw,bz,List.length_zipWith,List.length_tail];omega
 .intro i a c;rw[bz,dw]at a;have b:i<xs.length:=by rw[List.length_tail]at a;omega
  rw[dL,List.getElem_range,dL,List.getElem_zipWith,cA a,cA b];rfl
def yh8{t u:xy}{xs:Τ}{te:TE}{fr:St}{R:Hp->Prop}{H1:Hp}(hint:∀y∈xs,∃i:Int,y=.int i)(hl:xs.length<=1000)(ht:SqT K H1 t xs)(hu:SqT K H1 u xs.tail)(hD:H1 D=none)
  (hte:∀(i j:Int)(σ':St)(H':Hp)(Q':VK),Q' (.bl (decide (i<j))) H'->te (some (.int i)::some (.int j)::σ') H' Q') (hR:∀H,yx H1 H->H D=some (.lst ((List.zipWith ltV xs xs.tail).map V.bl))->R H):
  Ç (vcr K t u) (yte K 2 (θ (xb 0) (θ (xb 1) ynb))) te 2 fr D R H1:=by
 refine ycj (m:=xs.tail.length) (λi=>V.bl (ltV ((xs[i]?).getD .non) ((xs.tail[i]?).getD .non))) ht hu (by rw[List.length_tail];omega) (cE _) (.inr (cE _)) hD (λi x y h l z w q r k a g b=>?_) (λh k a=>?_)
 .obtain⟨s,v,rfl⟩:=yja b;let⟨c,rfl⟩:=hint x (cN q);let⟨d,rfl⟩:=hint y (cN (ysh r));have n:=k.trans (y6 (o:=HO.tup [V.int c,V.int d]) g);have f:=jw (o':=HO.tup [V.int c,V.int d]) g a;have e:upd h l (HO.tup [V.int c,V.int d]) l=some (.tup [V.int c,V.int d]):=ya;generalize upd h l (HO.tup [V.int c,V.int d])=p at n f e;refine Ģ (SqT.of e) rfl ?_;show θ (xb 0) (θ (xb 1) ynb) [V.int c,V.int d] (s::v::fr) p _;ext;exists⟨[some (.int c),some (.int d)],rfl,rfl⟩,?_;refine hte c d fr p _ ?_;refine Mp.doneR hD (vw (by rw[List.length_tail];omega)) w n f ?_;rw[q,r];rfl
 .exact hR h k (by rw[<- yhw];exact a)
def yqh(xs:Τ):Ĩ xs (some 1) none=xs.tail:=by
 unfold Ĩ
 have e:HT.sIx xs.length 0 (some 1)=min 1 xs.length:=by
  have:=HT.sIx_nat xs.length 0 1;simpa using this
 rw[HT.sIx_none,e]
 cases xs with
 |nil=>rfl
 |cons x r=>simp
def ymf{n:Nat}(bs:qi Bool)(h:n=bs.length):(List.range n).map (λi=>V.bl ((bs[i]?).getD false))=bs.map V.bl:=by
 subst h;apply List.ext_getElem
 .rw[bz,dw,bz]
 .intro i a b;rw[bz,dw]at a;rw[dL,List.getElem_range,dL,cA a];rfl
def ypt(K:z0)(H:Hp)(xs:Τ)(bs:qi Bool):Prop:=xs.length=bs.length/\∀(i:Nat)(y:V)(b:Bool),xs[i]?=some y->bs[i]?=some b->LkB K H y b
theorem ypt.same{H H':Hp}{xs:Τ}{bs:qi Bool}(h:ypt K H xs bs)(S:yx H H'):ypt K H' xs bs:=⟨h.1,λi y b c a=>(h.2 i y b c a).same S⟩
def LkG(H:Hp)(v:V)(kd:Fin 3)(tp:xy)(ps:Ο):Prop:=∃lk,v=.ref lk/\H lk=some (.tup [.str (kdS kd),.ref tp])/\H tp=some (.tup (ps.map V.int))/\xp (ps.map V.int)=true
def LkG.same{H H':Hp}{v:V}{kd:Fin 3}{tp:xy}{ps:Ο}(h:LkG H v kd tp ps)(S:yx H H'):LkG H' v kd tp ps:=by let⟨d,e,c,b,a⟩:=h;exists d,e,S _ _ c,S _ _ b,a
def yid(kd:Fin 3):ykg (.str (kdS kd))=true:=by
 match kd with
 |0=>rfl
 |1=>rfl
 |2=>rfl
def uz{xs:Τ}(h:xp xs=true):xs.length<=4:=by unfold xp at h;rw[cZ,cZ]at h;exact of_decide_eq_true h.1.1
def LkG.tells{H:Hp}{v:V}{kd:Fin 3}{tp:xy}{ps:Ο}(h:LkG H v kd tp ps):LkB K H v true:=by let⟨d,e,b,c,a⟩:=h;have:=uz a;refine .inr ⟨d,_,e,b,.inr ⟨_,_,"str",rfl,.str _,.inr ⟨yid kd,.inr ⟨tp,_,rfl,c,(),λy f=>?_,a.symm⟩⟩⟩⟩;let⟨i,_,rfl⟩:=cI.mp f;exists _,.int i
theorem yo5:∀{ps:Ο},ps.Pairwise (· < ·)->veu (ps.map V.int)=true
 |[],_=>rfl
 |[_],_=>rfl
 |p::q::r,h=>by
  have b:p<q:=(List.pairwise_cons.mp h).1 q (by simp);have a:=yo5 (List.pairwise_cons.mp h).2;unfold veu at a⊢;simp only[dC,List.tail_cons,List.zipWith_cons_cons,List.all_cons]at a⊢;rw[show ltV (V.int p) (V.int q)=true from cT b];simpa using a
def ygy{ps:Ο}(h1:ps.length<=4)(h2:∀p∈ps,1<=p/\p<=8)(h3:ps.Pairwise (· < ·)):xp (ps.map V.int)=true:=by unfold xp;rw[bz,cT h1,yo5 h3,Bool.true_and,Bool.and_true,List.all_eq_true];intro y a;let⟨i,b,rfl⟩:=cI.mp a;have:=h2 i b;show (decide (1<=i) && decide (i<=8))=true;rw[cT this.1,cT this.2];rfl
def Lks(H:Hp)(xs:Τ):Prop:=∀y∈xs,∃kd tp ps,LkG H y kd tp ps
def Lks.bs{H:Hp}{xs:Τ}(h:Lks H xs):ypt K H xs (List.replicate xs.length true):=by
 exists by rw[List.length_replicate],λi y b a c=>?_
 have d:b=true:=List.eq_of_mem_replicate (cN c);let⟨f,e,g,z⟩:=h y (cN a);rw[d];exact z.tells
def yc2(n:Nat):(List.replicate n true).all id=true:=by simp
def vf4(K:z0)(H:Hp)(x:V):Prop:=(∃n,xu K H x (.type n)/\n≠"list")\/∃l xs bs,x=.ref l/\H l=some (.lst xs)/\xs.length<=1000/\ypt K H xs bs/\¬(1<=xs.length/\xs.length<=6/\bs.all id=true)
theorem LkG.upd{H:Hp}{v:V}{kd:Fin 3}{tp l:xy}{ps:Ο}{xs ys:Τ}(h:LkG H v kd tp ps)(hl:H l=some (.lst xs)):LkG (L2.upd H l (.lst ys)) v kd tp ps:=by let⟨d,e,b,a,c⟩:=h;exists d,e,yi (xw b hl (by intro z;cases z)) b,yi (xw a hl (by intro z;cases z)) a,c
noncomputable def upN{α:Type}(g:Nat->α)(n:Nat)(x:α):Nat->α:=λj=>if j=n then x else g j
def xr{α:Type}{g:Nat->α}{n:Nat}{x:α}:upN g n x n=x:=if_pos rfl
def xm{α:Type}{g:Nat->α}{n:Nat}{x:α}(h:j<n):upN g n x j=g j:=if_neg ()
def yqx(c:Int):∃kk:Fin 3,atI [V.str "even",V.str "quick",V.str "run"] (c%3)=some (V.str (kdS kk)):=by
 have a:0<=c%3:=ew _ ∅;have b:c%3<3:=ee _ ∅;generalize c%3=z at a b;obtain rfl|rfl|rfl:z=0\/z=1\/z=2:=()
 .exact⟨0,rfl⟩
 .exact⟨1,rfl⟩
 .exact⟨2,rfl⟩
def xi(H:Hp)(n:Nat)(lk:Λ)(kd:Ν)(tp:Λ)(ps:Κ):Prop:=∀i,i<n->LkG H (.ref (lk i)) (kd i) (tp i) (ps i)
theorem xi.same{H H':Hp}{n:Nat}{lk:Λ}{kd:Ν}{ps:Κ}(h:xi H n lk kd tp ps)(S:yx H H'):xi H' n lk kd tp ps:=λi a=>(h i a).same S
structure Sd(K:z0)(H:Hp)(v:V)(d:PyData)(k:Nat):Prop where
 rd:RdV K H v d
 lay:d.canLay0=true
 dep:d.depth<=k
 eq:PyData.eqv d d=true
structure Sds(K:z0)(H:Hp)(xs:Τ)(ds:qi PyData)(k:Nat):Prop where
 rd:ypx K H xs ds
 lay:PyData.canLayAll0 ds=true
 dep:PyData.depthAll ds<=k
 eq:PyData.eqvAll ds ds=true
theorem Sds.nil{H:Hp}{k:Nat}:Sds K H [] [] k:=⟨.nil,rfl,dg _,by simp[PyData.eqvAll]⟩
theorem Sds.cons{H:Hp}{v:V}{d:PyData}{xs:Τ}{ds:qi PyData}{k:Nat}(h:Sd K H v d k)(r:Sds K H xs ds k):Sds K H (v::xs) (d::ds) k:=by
 exists .cons h.rd r.rd,by simp[PyData.canLayAll0,h.lay,r.lay],?_,by simp[PyData.eqvAll,h.eq,r.eq]
 have b:=h.dep;have a:=r.dep;simp only[PyData.depthAll];omega
def Sds.ints{H:Hp}(ns:Ο){k:Nat}:Sds K H (ns.map V.int) (ns.map PyData.int) k:=⟨Ê ns,Ã ns,by rw[â];exact dg _,by rw[Â,cT rfl]⟩
theorem Sd.lst{H:Hp}{p:xy}{xs:Τ}{ds:qi PyData}{k:Nat}(h:SqL K H p xs)(r:Sds K H xs ds k):Sd K H (.ref p) (.list ds) (k+1):=by
 exists .lst h r.rd,by simp[PyData.canLay0,r.lay],?_,by simp[PyData.eqv,r.eq]
 have a:=r.dep;simp only[PyData.depth];omega
theorem Sd.tup{H:Hp}{p:xy}{xs:Τ}{ds:qi PyData}{k:Nat}(h:SqT K H p xs)(r:Sds K H xs ds k):Sd K H (.ref p) (.tuple ds) (k+1):=by
 exists .tup h r.rd,by simp[PyData.canLay0,r.lay],?_,by simp[PyData.eqv,r.eq]
 have a:=r.dep;simp only[PyData.depth];omega
def ysv{g:Bool->Bool}{H:Hp}{Q:VK}{x y:V}{d:PyData}{k:Nat}(h1:Sd K H x d k)(h2:Sd K H y d k)(hk:k<=60)(h:Q (.bl (g true)) H):vco K g x y H Q:=by
 have a:SeqAt.shaped d=true:=by
  unfold SeqAt.shaped;rw[cZ];exists h1.lay,cT (by have:=h1.dep;omega)
 exists d,d,h1.rd,h2.rd,a,a,by rw[h1.eq];exact h
local macro_rules | `(#synth $n:ident $a $b)=>`(theorem $n : yj $a $a (ye $b):=we (by decide +kernel)) | `(#synth $n:ident $a $b $c)=>`(theorem $n : yj $a $b (ye $c):=we (by decide +kernel))
#synth vep ["thing"] vfx
inductive ycp(K:z0)(vs:Τ)(H:Hp)(Q:VK)(E':XK):Prop
 |mk(x n:_)(_:vs=[x])(_:xu K H x (.type n))(_:Q (.bl (χ x)) H)
variable(T:Txt K mg a)
def ykl:vx P w K mg Γ CX0 1 a.Q5 a.Qg ["thing"] (ycp K):=by
 exists T.Gd.F.ok,vep,g;let⟨x,n,rfl,b,k⟩:=h;exists 1,0,yd (yt (uv (pcB w6 T.A8 (pac (pv 0) (pa1 (τ (T:="int") rfl T.Pr (by right))))) (jz (yng (pcB w6 T.A8 (pac (pv 0) (pa1 (τ (T:="bool") rfl T.Q2 (by right)))))))));refine ĥ b (yqa b) ?_;ext
 cases hx:yoa x with
 |false =>
  have e:χ x=false:=by
   cases x<;>first|rfl|cases hx
  rw[e]at k;exact ybw k
 |true =>
  have e:χ x=!yib x:=by
   cases x<;>first|rfl|cases hx
  rw[e]at k;refine ybz ?_;ext;refine ĥ b (ylo b) ?_;ext;exact k
#synth vdw ["thing"] vft
inductive yhr(K:z0)(vs:Τ)(H:Hp)(Q:VK)(E':XK):Prop
 |mk(x n:_)(_:vs=[x])(_:xu K H x (.type n))(_:Q (.bl (ô x)) H)
def vdc:vx P w K mg Γ CX0 2 a.Q6 a.Qh ["thing"] (yhr K):=by
 exists T.Qq.F.ok,vdw,j;let⟨x,n,rfl,g,k⟩:=h;exists 1,0,yd (yt (uv (ug (ykl T) j.m T.Gd (pa1 (pv 0))) (jz (Ô jh jh yc (pv 0) yc))));exists x,n,rfl,g,?_;ext
 cases hx:χ x with
 |false =>
  have e:ô x=false:=by
   cases x<;>first|rfl|cases hx
  rw[e]at k;exact ybw k
 |true =>
  let⟨i,rfl⟩:=zv hx;refine ybz ?_;ext;refine xz (λb=>?_) (λb=>?_)
  .ext;have e:ô (.int i)=decide (i<=1):=by simp[ô,b]
   rw[e]at k;exact k
  .have e:ô (.int i)=false:=by simp[ô,b]
   rw[e]at k;exact k
#synth vd1 ["thing"] vfe
inductive yap(K:z0)(vs:Τ)(H:Hp)(Q:VK)(E':XK):Prop
 |mk(x n:_)(_:vs=[x])(_:xu K H x (.type n))(_:Q (.bl (chV x)) H)
def vdg:vx P w K mg Γ CX0 2 a.Q7 a.Qi ["thing"] (yap K):=by
 exists T.Qr.F.ok,vd1,j;let⟨x,n,rfl,g,k⟩:=h;exists 1,0,yd (yt (uv (ug (ykl T) j.m T.Gd (pa1 (pv 0))) (jz (Ô jh jh (vq rfl T.Cw) (pv 0) (yn ub (vq rfl T.Ce) (vq rfl T.Cw))))));exists x,n,rfl,g,?_;ext
 cases hx:χ x with
 |false =>
  have e:chV x=false:=by
   cases x<;>first|rfl|cases hx
  rw[e]at k;exact ybw k
 |true =>
  let⟨i,rfl⟩:=zv hx;refine ybz ?_;ext;refine xz (λb=>?_) (λb=>?_)
  .ext;have e:chV (.int i)=decide (i<=16777216-32768):=by simp[chV,b]
   rw[e]at k;exact k
  .have e:chV (.int i)=false:=by simp[chV,b]
   rw[e]at k;exact k
#synth vdi ["thing"] ve8
inductive yfa(K:z0)(vs:Τ)(H:Hp)(Q:VK)(E':XK):Prop
 |mk(x n:_)(_:vs=[x])(_:xu K H x (.type n))(_:Q (.bl (sgV x)) H)
def vdq:vx P w K mg Γ CX0 2 a.Q8 a.Qj ["thing"] (yfa K):=by
 exists T.Qt.F.ok,vdi,j;let⟨x,n,rfl,g,k⟩:=h;exists 1,0,yd (yt (uv (ug (ykl T) j.m T.Gd (pa1 (pv 0))) (jz (Ô jh jh yc (pv 0) yc))));exists x,n,rfl,g,?_;ext
 cases hx:χ x with
 |false =>
  have e:sgV x=false:=by
   cases x<;>first|rfl|cases hx
  rw[e]at k;exact ybw k
 |true =>
  let⟨i,rfl⟩:=zv hx;refine ybz ?_;ext;refine xz (λb=>?_) (λb=>?_)
  .ext;have e:sgV (.int i)=decide (i<=255):=by simp[sgV,b]
   rw[e]at k;exact k
  .have e:sgV (.int i)=false:=by simp[sgV,b]
   rw[e]at k;exact k
#synth vdn ["thing","most"] vfy
inductive yur(K:z0)(vs:Τ)(H:Hp)(Q:VK)(E':XK):Prop
 |mk(x n m:_)(_:vs=[x,.int m])(_:xu K H x (.type n))(_:((Bad K H x n m/\∀H',yx H H'->Q (.bl false) H')\/∃xs,ytc K H x xs m/\∀H',yx H H'->Q (.bl true) H'))
def ysp:vx P w K mg Γ CX0 3 a.Q9 a.Qk ["thing","most"] (yur K):=by
 exists T.Je.F.ok,vdn,W;let⟨x,n,m,rfl,r,h⟩:=h
 have B:(n≠"list"/\∀d,yx H d->Q (.bl false) d)\/∃p xs,x=.ref p/\H p=some (.lst xs)/\ym5 K H xs/\xs.length<=100000/\∀d,yx H d->Q (.bl (decide ((xs.length:Int)<=m) && xs.all sgV)) d:=by
  rcases h with⟨h|⟨p,xs,e,c,t,l,M⟩,k⟩|⟨xs,⟨p,e,c,t,l,M⟩,k⟩
  .exact .inl ⟨h,k⟩
  .exact .inr ⟨p,xs,e,c,t,l,λd S=>by rw[M];exact k d S⟩
  .exact .inr ⟨p,xs,e,c,t,l,λd S=>by rw[M];exact k d S⟩
 exists 2,0,yd (yt (uv (pcB w6 T.A8 (pac (pv 0) (pa1 (τ (T:="list") rfl T.Ap (by right))))) (uv (jt jh (pcB yq T.A9 (pa1 (pv 0))) (pv 1) (y9 _)) (jz (pcB (j7 rfl) T.Du (pa1 (wy (js:=[]) (ys:=[]) rfl (xg (pv 0)) (λC s2 H2 Y=>(ug (vdq T) W.m T.Qt (pa1 (pv 0)))) rfl rfl (hyc:=y7) (hrel:=y7))))))));refine ĥ r (yqq r) ?_;ext;rcases B with⟨I,k⟩|⟨p,xs,rfl,c,R,l,k⟩
 .refine ygb I ?_;ext;exact k _ (yx.refl _)
 .have I:n="list":=by
   cases r with
   |lst e=>rfl
   |frz e=>rfl
   |tup e=>rw[c]at e;cases e
   |dK e=>rw[c]at e;cases e
   |dT e=>rw[c]at e;cases e
  refine ybr I ?_;ext;refine uc (SqL.of c) ?_;ext;refine xz (λv=>?_) (λv=>?_)
  .rw[cT v,Bool.true_and]at k;ext;exists p,rfl,⟨_,SqL.of c⟩,λD u=>?_;have Z:p≠D:=yb c u;refine jr (K:=K) (a:=p) (xs:=xs) (λi g=>g D=some (.lst (((xs.take i).map sgV).map V.bl))/\yx H g)
    ⟨ya,y6 u⟩ (λi g F q=>SqL.of (q.2 _ _ c)) ?_ ?_
   .rintro i y g N L ⟨f,j⟩;ext;let⟨X,G⟩:=R y (cN N);exists y,X,rfl,ŋ j G,?_;refine ul f (by rw[bz,bz,cL];exact yks ()) L ⟨ya.trans ?_,λb o e=>yi (λz=>?_) (j _ _ e)⟩
    .rw[List.take_succ,N];simp
    .subst z;rw[u]at e;cases e
   .rintro g ⟨f,j⟩;ext;exists D,_,rfl,SqL.of f,?_;rw[dE (cE _),List.all_map];exact k _ j
  .rw[cX v,Bool.false_and]at k;ext;exact k _ (yx.refl _)
#synth vdk ["thing"] vfn
def yza:vx P w K mg Γ (CXe P w) 4 a.Qa a.Ql ["thing"] (Ŀ K a.Ff 1000):=by
 exists T.Pv.F.okE,vdk,i;let⟨x,n,rfl,q,h⟩:=h;exists 1,0,yg (wa (uw (zq (ug (ysp T) i.m T.Je (pac (pv 0) (pa1 (vq rfl T.Cg)))))) (yd (wn rfl T.Rf T.Ri (pa1 v7))) y8) (yd (yt (pcT wb T.Ap (pa1 (pv 0)))));exists x,n,_,rfl,q,?_;rcases h with⟨o,k⟩|⟨f,e,k⟩
 .refine .inl ⟨o,λt b=>?_⟩;ext;exists by walk_at "len",k _ b
 .refine .inr ⟨f,e,λt b=>?_⟩;let⟨p,rfl,l,_⟩:=e;ext;exists p,f,rfl,.inl (SqL.of (b _ _ l)),λr c=>?_;exact k r _ (b.free c) ya (b.trans (y6 c))
#synth vdu ["thing"] vfw
def vd3:vx P w K mg Γ (CXe P w) 4 a.Qb a.Qm ["thing"] (Ŀ K a.Cq 12000):=by
 exists T.Qu.F.okE,vdu,i;let⟨x,n,rfl,q,h⟩:=h;exists 1,0,yg (wa (uw (zq (ug (ysp T) i.m T.Je (pac (pv 0) (pa1 (vq rfl T.Ci)))))) (yd (wn rfl T.R1 T.Rj (pa1 v7))) y8) (yd (yt (pcT wb T.Ap (pa1 (pv 0)))));exists x,n,_,rfl,q,?_;rcases h with⟨o,k⟩|⟨f,e,k⟩
 .refine .inl ⟨o,λt b=>?_⟩;ext;exists by walk_at "len",k _ b
 .refine .inr ⟨f,e,λt b=>?_⟩;let⟨p,rfl,l,_⟩:=e;ext;exists p,f,rfl,.inl (SqL.of (b _ _ l)),λr c=>?_;exact k r _ (b.free c) ya (b.trans (y6 c))
#synth vdp ["thing"] ve9
noncomputable def ypw:V->Bool
 | .int i=>decide (0<=i) && decide (i<=1000)
 |_=>false
def ywa{m:Nat}(h:m<=1000):ypw (.int m)=true:=by show (decide ((0:Int)<=m) && decide ((m:Int)<=1000))=true;rw[cT (),cT ()];rfl
inductive yku(K:z0)(C:xy)(vs:Τ)(H:Hp)(Q:VK)(E:XK):Prop
 |mk(x n:_)(_:vs=[x])(_:xu K H x (.type n))(_:(ypw x=true->Q .non H))(_:(ypw x=false->E (.ref C) none H))
def vel:vx P w K mg Γ (CXe P w) 2 a.Qc a.Qn ["thing"] (yku K a.Ae):=by
 exists T.Qv.F.okE,vdp,o;let⟨x,n,rfl,k,l,b⟩:=h;exists 1,0,yd (wa (PW.pt (ybq (uw (zq (ug (ykl T) o.m T.Gd (pa1 (pv 0))))) (ybm (uw (Ż jh jh yc (pv 0) (vq rfl T.Cg)))))) (yd (wn rfl T.D8 T.Da (pa1 v7))) y8);exists x,n,rfl,k,?_;ext
 cases hx:χ x with
 |false =>
  have e:ypw x=false:=by
   cases x<;>first|rfl|cases hx
  ext;exists by walk_at "len",b e
 |true =>
  let⟨i,rfl⟩:=zv hx;ext;refine xz (λd=>?_) (λd=>?_)
  .ext;refine yta (λc=>?_) (λc=>?_)
   .ext;exact l (by simp[ypw,d,c])
   .ext;exists by walk_at "len",b (by simp[ypw,c])
  .ext;exists by walk_at "len",b (by simp[ypw,d])
#synth vd9 ["thing"] vfk
inductive ÿ(K:z0)(C:xy)(vs:Τ)(H:Hp)(Q:VK)(E:XK):Prop
 |mk(x n:_)(_:vs=[x])(_:xu K H x (.type n))(_:(chV x=true->Q .non H))(_:(chV x=false->E (.ref C) none H))
def ysz:vx P w K mg Γ (CXe P w) 3 a.Qd a.Qo ["thing"] (ÿ K a.Fg):=by
 exists T.Jf.F.okE,vd9,i;let⟨x,n,rfl,f,g,e⟩:=h;exists 1,0,yd (wa (uw (zq (ug (vdg T) i.m T.Qr (pa1 (pv 0))))) (yd (wn rfl T.Rg T.Rk (pa1 v7))) y8);exists x,n,rfl,f,?_;ext
 cases hx:chV x with
 |false =>
  ext;exists by walk_at "len",e hx
 |true =>
  ext;exact g hx
#synth yx9 ["thing"] vbd
inductive yaj(K:z0)(C:xy)(vs:Τ)(H:Hp)(Q:VK)(E:XK):Prop
 |mk(x n:_)(_:vs=[x])(_:xu K H x (.type n))(_:(ô x=true->Q .non H))(_:(ô x=false->E (.ref C) none H))
def ģ:vx P w K mg Γ (CXe P w) 3 a.Jm a.Lz ["thing"] (yaj K a.Bf):=by
 exists T.Cn.F.okE,yx9,i;let⟨x,n,rfl,f,g,e⟩:=h;exists 1,0,yd (wa (uw (zq (ug (vdc T) i.m T.Qq (pa1 (pv 0))))) (yd (wn rfl T.Rh T.Rl (pa1 v7))) y8);exists x,n,rfl,f,?_;ext
 cases hx:ô x with
 |false =>
  ext;exists by walk_at "len",e hx
 |true =>
  ext;exact g hx
#synth yye ["chance","bit"] vby
inductive ylu(K:z0)(C D:xy)(vs:Τ)(H:Hp)(Q:VK)(E:XK):Prop
 |mk(x n y m:_)(_:vs=[x,y])(_:xu K H x (.type n))(_:xu K H y (.type m))(_:(chV x=false->E (.ref C) none H))(_:(chV x=true->ô y=false->E (.ref D) none H))(_:(∀c b,x=.int c->y=.int b->chV x=true->ô y=true->Q (.int (gvv c b)) H))
def yyg:vx P w K mg Γ (CXe P w) 4 a.Jn a.M0 ["chance","bit"] (ylu K a.Fg a.Bf):=by
 exists T.Ov.F.okE,yye,i;let⟨x,n,y,m,rfl,q,t,o,p,r⟩:=h;exists 2,0,yg (yy (ur (ysz T) i.m T.Jf yr (pa1 (pv 0)))) (yg (yy (ur (ģ T) i.m T.Cn yr (pa1 (pv 1)))) (yd (yt (j8 (yw xx (pv 1) yc (y9 _)) (pv 0) (yn ub (vq rfl T.Ce) (pv 0))))));exists x,n,rfl,q,λe=>?_,o;ext;exists y,m,rfl,t,λg=>?_,p e;let⟨c,rfl,u,v⟩:=yc0 e;let⟨b,rfl,z,B⟩:=ydm g;ext;have k:=r c b rfl rfl e g;unfold gvv at k;refine xz (λf=>?_) (λf=>?_)
 .rw[if_pos f]at k;ext;exact k
 .rw[if_neg f]at k;ext;exact k
#synth yuz ["self"] vbr
def yue:vx P w K mg Γ CX0 1 a.Gn a.M4 ["self"] (ŵ a.Af (υ (.int 0) (.int 0))):=by exists T.Ow.F.ok,yuz,g;let⟨p,e,rfl,f,k⟩:=h;exists 1,0,yg (ve (pv 0) yc rfl) (yd (ve (pv 0) yc rfl));exact k _ ya (But.upd.trans But.upd)
#synth yuj ["self"] yz7
def yuw:vx P w K mg Γ CX0 1 a.Jo a.M5 ["self"] (uy (oS a) vcx):=by
 exists T.Hr.F.ok,yuj,r;let⟨p,e,j,rfl,d,f,c,k⟩:=h
 cases j with
 |ev n o =>
  let⟨m,q,l⟩:=f;have c:H p=some (.ins a.Af e (υ (.int n) (.int o))):=c;exists 1,0,yd (yt (yn v6 (yn wz (yn vv (yn wz yc (yo (pv 0) rfl)) yc) (vq rfl T.Ce)) (yn vv (yn wz yc (yn vv (yo (pv 0) rfl) (yo (pv 0) rfl))) yc)));exact k
 |qk _=>exact d.elim
 |rn _ _=>exact d.elim
#synth yut ["self","bit"] yzc
def yxn:vx P w K mg Γ (CXe P w) 4 a.Jp a.M6 ["self","bit"] (j9 K (oS a) vcx a.Bf):=by
 exists T.Hs.F.okE,yut,C;let⟨p,i,B,x,z,rfl,g,u,f,q,t,y⟩:=h
 cases B with
 |ev n o =>
  let⟨G,J,I⟩:=u;have f:H p=some (.ins a.Af i (υ (.int n) (.int o))):=f;exists 2,0,yg (yy (ur (ģ T) C.m T.Cn yr (pa1 (pv 1)))) (yg (wa (yw xx (pv 1) yc (y9 _)) (yd (ve (pv 0) (yn vv (yo (pv 0) rfl) yc) rfl)) (yd (ve (pv 0) (yn vv (yo (pv 0) rfl) yc) rfl))) (yd (wa (yw yki (yn vv (yo (pv 0) rfl) (yo (pv 0) rfl)) (vq rfl T.Bo) (y9 _)) (yg (ve (pv 0) (yn v6 (yn vv (yo (pv 0) rfl) yc) yc) rfl) (yd (ve (pv 0) (yn v6 (yn vv (yo (pv 0) rfl) yc) yc) rfl))) y8)));exists x,z,rfl,q,λr=>?_,y;let⟨b,rfl,D,l⟩:=yeq r;have k:=t b rfl D l;unfold Slt.see at k;dsimp only at k;ext;refine xz (λe=>?_) (λe=>?_)
  .rw[if_pos e]at k;unfold ydc at k;ext;refine xz (λc=>?_) (λc=>?_)
   .rw[if_pos c]at k;ext;exact k _ ya ((But.upd.trans But.upd).trans But.upd)
   .rw[if_neg c]at k;ext;exact k _ ya But.upd
  .rw[if_neg e]at k;unfold ydc at k;ext;refine xz (λc=>?_) (λc=>?_)
   .rw[if_pos c]at k;ext;exact k _ ya ((But.upd.trans But.upd).trans But.upd)
   .rw[if_neg c]at k;ext;exact k _ ya But.upd
 |qk _=>exact g.elim
 |rn _ _=>exact g.elim
#synth yvz ["self"] yze
def yu0:vx P w K mg Γ CX0 1 a.Gp a.M7 ["self"] (ŵ a.Ad (jf (.int 8388608))):=by exists T.Ox.F.ok,yvz,g;let⟨p,e,rfl,f,k⟩:=h;exists 1,0,yd (ve (pv 0) (yn v6 (vq rfl T.Ce) yc) rfl);exact k _ ya But.upd
#synth yx0 ["self"] vbz
def ytw:vx P w K mg Γ CX0 1 a.Jq a.M8 ["self"] (uy (oS a) vcu):=by
 exists T.Ht.F.ok,yx0,l;let⟨p,e,i,rfl,d,j,c,k⟩:=h
 cases i with
 |qk h0 =>
  have c:H p=some (.ins a.Ad e (jf (.int h0))):=c;exists 1,0,yd (yt (yo (pv 0) rfl));exact k
 |ev _ _=>exact d.elim
 |rn _ _=>exact d.elim
#synth yjy ["self","bit","moved"] ["self","bit"] yy8
def yx5:vx P w K mg Γ (CXe P w) 4 a.Jr a.M9 ["self","bit"] (j9 K (oS a) vcu a.Bf):=by
 exists T.Hu.F.okE,yjy,B;let⟨p,g,z,x,y,rfl,f,t,e,o,r,v⟩:=h
 cases z with
 |qk h0 =>
  let⟨D,G⟩:=t;have e:H p=some (.ins a.Ad g (jf (.int h0))):=e;exists 2,1,yg (yy (ur (ģ T) B.m T.Cn yr (pa1 (pv 1)))) (yg (wa (yw xx (pv 1) yc (y9 _)) (yd (yu (i:=2) yjy.nd rfl (Or.inl rfl) (yn vv (yo (pv 0) rfl) (yn v6 (yn ub (vq rfl T.Ce) (yo (pv 0) rfl)) yc)))) (yd (yu (i:=2) yjy.nd rfl (Or.inl rfl) (yn ub (yo (pv 0) rfl) (yn v6 (yo (pv 0) rfl) yc))))) (yd (ve (pv 0) (pcB (ya2 rfl) T.Ps (pac (pcB (ya8 rfl) T.Pt (pac (pv 2) (pa1 (vq rfl T.Cw)))) (pa1 (yn ub (vq rfl T.Ce) (vq rfl T.Cw))))) rfl)));exists x,y,rfl,o,λq=>?_,v;let⟨b,rfl,C,l⟩:=yeq q;have k:=r b rfl C l;unfold Slt.see at k;dsimp only at k;ext;refine xz (λd=>?_) (λd=>?_)
  .rw[if_pos d]at k;ext;exists _,_,rfl,?_;ext;exists _,_,rfl,?_;ext;exact k _ ya But.upd
  .rw[if_neg d]at k;ext;exists _,_,rfl,?_;ext;exists _,_,rfl,?_;ext;exact k _ ya But.upd
 |ev _ _=>exact f.elim
 |rn _ _=>exact f.elim
#synth yvk ["self"] yzz
def yve:vx P w K mg Γ CX0 1 a.Gq a.Ma ["self"] (ŵ a.Ao (ķ (.int 1) (.int 0))):=by exists T.Oy.F.ok,yvk,g;let⟨p,e,rfl,f,k⟩:=h;exists 1,0,yg (ve (pv 0) yc rfl) (yd (ve (pv 0) yc rfl));exact k _ ya (But.upd.trans But.upd)
#synth ypc ["self","given"] ["self"] vce
def yus:vx P w K mg Γ CX0 1 a.Js a.Mb ["self"] (uy (oS a) vcy):=by
 exists T.Hv.F.ok,ypc,v;let⟨p,f,o,rfl,e,g,d,k⟩:=h
 cases o with
 |rn l n =>
  let⟨t,u,r,q⟩:=g;have d:H p=some (.ins a.Ao f (ķ (.int l) (.int n))):=d;exists 1,1,yg (yu (i:=1) ypc.nd rfl (Or.inl rfl) (yn v6 (yn wz (yn vv (yn wz yc (yo (pv 0) rfl)) yc) (vq rfl T.Ce)) (yn vv (yn wz yc (yo (pv 0) rfl)) yc))) (yd (yt (j8 (yw xx (yo (pv 0) rfl) yc (y9 _)) (pv 1) (yn ub (vq rfl T.Ce) (pv 1)))));have k:Q (.int (if l=1 then î n else 16777216-î n)) H:=k;refine xz (λc=>?_) (λc=>?_)
  .rw[if_pos c]at k;ext;exact k
  .rw[if_neg c]at k;ext;exact k
 |ev _ _=>exact e.elim
 |qk _=>exact e.elim
#synth ywv ["self","bit"] vbn
def yxr:vx P w K mg Γ (CXe P w) 4 a.Jt a.Mc ["self","bit"] (j9 K (oS a) vcy a.Bf):=by
 exists T.Hw.F.okE,ywv,B;let⟨p,g,z,x,y,rfl,f,t,e,o,r,v⟩:=h
 cases z with
 |rn l n =>
  let⟨D,I,G,J⟩:=t;have e:H p=some (.ins a.Ao g (ķ (.int l) (.int n))):=e;exists 2,0,yg (yy (ur (ģ T) B.m T.Cn yr (pa1 (pv 1)))) (yd (wa (yw xx (pv 1) (yo (pv 0) rfl) (y9 _)) (yd (ve (pv 0) (pcB (ya2 rfl) T.Ps (pac (yn vv (yo (pv 0) rfl) yc) (pa1 (vq rfl T.Bo)))) rfl)) (yg (ve (pv 0) (pv 1) rfl) (yd (ve (pv 0) yc rfl)))));exists x,y,rfl,o,λq=>?_,v;let⟨b,rfl,C,j⟩:=yeq q;have k:=r b rfl C j;unfold Slt.see at k;dsimp only at k;ext;refine xz (λd=>?_) (λd=>?_)
  .rw[if_pos d]at k;ext;exists _,_,rfl,?_;ext;exact k _ ya But.upd
  .rw[if_neg d]at k;ext;exact k _ ya (But.upd.trans But.upd)
 |ev _ _=>exact f.elim
 |qk _=>exact f.elim
#synth yx7 ["kind"] yzp
inductive yfh(a:Ads)(vs:Τ)(H:Hp)(Q:VK)(E':XK):Prop
 |mk(k:Fin 3)(_:vs=[.str (kdS k)])(_:∀p dx H',H p=none->H' p=some (oS a dx (kd0 k))->yx H H'->Q (.ref p) H')
def ywi:vx P w K mg Γ CX0 3 a.Ju a.Md ["kind"] (yfh a):=by
 exists T.Oz.F.ok,yx7,n;let⟨u,rfl,k⟩:=h;exists 1,0,yg (wa (yw xx (pv 0) v7 (y9 _)) (yd (yt (Ï T.Py (yue T) n.m rfl T.Px T.Ow.B .nil wo))) y8) (yg (wa (yw xx (pv 0) v7 (y9 _)) (yd (yt (Ï T.Jh (yu0 T) n.m rfl T.Jg T.Ox.B .nil wo))) y8) (yg (wa (yw xx (pv 0) v7 (y9 _)) (yd (yt (Ï T.R0 (yve T) n.m rfl T.Qz T.Oy.B .nil wo))) y8) (yd yme)));exists rfl,?_
 match u with
 |0 =>
  exists _,rfl,ybr rfl ?_;ext;intro p g d f q;exists p,g,rfl,ya,λj c i=>⟨rfl,?_⟩;exact k p g j d c λb o e=>i b o (by rw[yp (yb e d),yp (yb e f)];exact e) (yb e d)
 |1 =>
  exists _,rfl,ygb (by intro z;injection z with z;revert z;decide+kernel) ?_;ext;exists rfl,?_;exists _,rfl,ybr rfl ?_;ext;intro p g d f q;exists p,g,rfl,ya,λj c i=>⟨rfl,?_⟩;exact k p g j d c λb o e=>i b o (by rw[yp (yb e d),yp (yb e f)];exact e) (yb e d)
 |2 =>
  exists _,rfl,ygb (by intro z;injection z with z;revert z;decide+kernel) ?_;ext;exists rfl,?_;exists _,rfl,ygb (by intro z;injection z with z;revert z;decide+kernel) ?_;ext;exists rfl,?_;exists _,rfl,ybr rfl ?_;ext;intro p g d f q;exists p,g,rfl,ya,λj c i=>⟨rfl,?_⟩;exact k p g j d c λb o e=>i b o (by rw[yp (yb e d),yp (yb e f)];exact e) (yb e d)
#synth yjz ["number","size","places"] ["number","size"] vbk
inductive ye9  (vs:Τ) (H:Hp) (Q:VK) (E':XK):Prop
 |mk(n:Int)(k:Nat)(_:vs=[.int n,.int k])(_:k<=100000)(_:∀t H',H t=none->H' t=some (.lst ((wr k n).map V.int))->yx H H'->Q (.ref t) H')
def ypi:vx P w K mg Γ CX0 1 a.Jv a.Me ["number","size"] ye9:=by
 exists T.Hx.F.ok,yjz,G;let⟨n,d,rfl,D,k⟩:=h;exists 2,1,yg (yu (i:=2) yjz.nd rfl (Or.inl rfl) (vd u8)) (yg (δ PassesOwn.never (yw ó (pcB yq T.A9 (pa1 (pv 2))) (pv 1) (y9 _)) (yg (yy (jg PySem.F.plainAttrs_list PySem.F.slot_list_append PySem.F.type_list_append w9 (pv 2) (pa1 (yn w5 (pv 0) yc)))) (yd (yu (i:=0) yjz.nd rfl (Or.inl rfl) (yn v6 (pv 0) yc))))) (yg (yy (yjt PySem.F.plainAttrs_list PySem.F.slot_list_reverse PySem.F.type_list_reverse ĺ (pv 2))) (yd (yt (pv 2)))));exists by walk_at "len",λt l=>?_
 ext;exists λm σ' u=>∃(f:Int)(c:Ο),σ'=[some (.int f),some (.int d),some (.ref t)]/\u t=some (.lst (c.map V.int))/\yx H u/\c++lo (d-c.length) f=lo d n/\c.length<=d/\m=d-c.length,⟨_,n,[],rfl,ya,y6 l,rfl,dg _,rfl⟩,?_;rintro m σ2 B ⟨f,c,rfl,g,r,j,C,rfl⟩;ext;refine uc (SqL.of g) ?_;rw[bz];ext;refine xz (λy=>?_) (λy=>?_)
 .refine ybk ?_;ext;refine jp g ?_;ext;refine uf g (by rw[bz];exact vw ()) ?_;ext;exists _,?_,f/256,c++[f%256],rfl,(ya.trans (by rw[ylt])),λb o e=>?_,?_,?_,rfl
  .rw[bY];show d-(c.length+1)<d-c.length;omega
  .rw[yp (yb e l)];exact r b o e
  .have p:d-c.length=d-(c++[f%256]).length+1:=by
    rw[bY];show d-c.length=d-(c.length+1)+1;omega
   rw[p]at j;rw[<- j,cH];rfl
  .rw[bY];show c.length+1<=d;omega
 .ext;have p:d-c.length=0:=()
  rw[p]at j;have z:c=lo d n:=by rw[<- j];simp[lo]
  refine jp g ?_;refine yaz g ?_;ext;refine k t _ l ?_ λb o e=>?_
  .rw[ya,ysl,z];rfl
  .rw[yp (yb e l)];exact r b o e
#synth ytk ["low","unit"] va7
inductive Į  (vs:Τ) (H:Hp) (Q:VK) (E':XK):Prop
 |mk(l e:Int)(_:vs=[.int l,.int e])(_:0<e)(_:e<2^63)(_:Q (.int (blk l e)) H)
def ypd:vx P w K mg Γ CX0 1 a.Jw a.Mf ["low","unit"] Į:=by exists T.Hy.F.ok,ytk,i;let⟨l,e,rfl,f,g,k⟩:=h;exists 2,0,yd (yt (yn v6 (yn ub (yn vv (pv 0) (pv 1)) yc) (pv 1)));exact k
#synth yud ["self"] vb5
inductive yqj(C:xy)(vs:Τ)(H:Hp)(Q:VK)(E':XK):Prop
 |mk(p dx:xy)(_:vs=[.ref p])(_:H p=some (.ins C dx []))(_:∀H',H' p=some (.ins C dx (j4 s0))->But p H H'->Q .non H')
def yok:vx P w K mg Γ CX0 1 a.Gr a.Mg ["self"] (yqj a.A7):=by
 exists T.Hz.F.ok,yud,j;let⟨p,c,rfl,i,k⟩:=h;exists 1,0,yg (ve (pv 0) yc rfl) (yg (ve (pv 0) (vq rfl T.Dn) rfl) (yd (ve (pv 0) (vq rfl T.E8) rfl)));exists p,_,c,_,rfl,i,T.Ag,T.Bx,by show 0<1000;decide,?_
 ext;exists p,_,c,_,rfl,ya,T.Ag,T.Bc,by show 1<1000;decide,?_
 ext;exists p,_,c,_,rfl,ya,T.Ag,T.Bl,by show 2<1000;decide,?_
 have e:ε "size" (.int 5) (ε "width" (.int 1099511627776) (ε "low" (.int 0) []))=j4 s0:=by
  rw[wk,vy nLW wk,vy nLS (vy nWS wk)];rfl
 refine k _ (ya.trans (congrArg (λl=>some (HO.ins a.A7 c l)) e)) λb o h n=>?_;rw[yp n,yp n,yp n];exact h
#synth ytv ["self","chance"] va6
inductive yy2(C:xy)(vs:Τ)(H:Hp)(Q:VK)(E':XK):Prop
 |mk(p dx:xy)(x:Sn)(c:Int)(_:vs=[.ref p,.int c])(_:H p=some (.ins C dx (j4 x)))(_:Ch c)(_:Q (.int (cut x.2.1 c)) H)
def yo4:vx P w K mg Γ CX0 1 a.Jx a.Mh ["self","chance"] (yy2 a.A7):=by exists T.El.F.ok,ytv,l;let⟨p,f,x,c,rfl,i,⟨g,j⟩,k⟩:=h;exists 2,0,yd (yt (yn v6 (yn wz (yo (pv 0) rfl) (pv 1)) (vq rfl T.Ce)));exact k
#synth yns ["self","chance","bit","cut"] ["self","chance","bit"] var
inductive ygo(K:z0)(C Nc Nb:xy)(vs:Τ)(H:Hp)(Q:VK)(E:XK):Prop
 |mk(p dx:xy)(x:Sn)(vc vb:V)(n m:String)(_:vs=[.ref p,vc,vb])(_:H p=some (.ins C dx (j4 x)))(_:Ok x)(_:xu K H vc (.type n))(_:xu K H vb (.type m))(_:(chV vc=false->E (.ref Nc) none H))(_:(chV vc=true->ô vb=false->E (.ref Nb) none H))(_:∀c b:Int,vc=.int c->vb=.int b->Ch c->0<=b->b<=1->∀H',H' p=some (.ins C dx (j4 (nar x c b)))->But p H H'->Q .non H')
def yoq:vx P w K mg Γ (CXe P w) 4 a.Jy a.Mi ["self","chance","bit"] (ygo K a.A7 a.Fg a.Bf):=by
 exists T.Em.F.okE,yns,t;let⟨p,g,x,J,D,n,m,rfl,G,C,tc,tb,X,Z,k⟩:=h;exists _,(yg (yy (ur (ysz T) t.m T.Jf yr (pa1 (pv 1)))) (yg (yy (ur (ģ T) t.m T.Cn yr (pa1 (pv 2)))) (yg (yu (i:=3) yns.nd rfl (Or.inl rfl) (xo (pv 0) T.Ag T.El.m (yo4 T) t.m T.El.B .nil wo (pa1 (pv 1)))) (yg (ρ (wa (yw xx (pv 2) yc (y9 _)) (yd (ve (pv 0) (pv 3) rfl)) (yg (ve (pv 0) (yn vv (yo (pv 0) rfl) (pv 3)) rfl) (yd (ve (pv 0) (yn ub (yo (pv 0) rfl) (pv 3)) rfl))))) (yd (PS.nox (δ PassesOwn.never (yw ó (yo (pv 0) rfl) (vq rfl T.Do) (y9 _)) (yg (ve (pv 0) (yn wz (yo (pv 0) rfl) yc) rfl) (yg (ve (pv 0) (yn wz (yo (pv 0) rfl) yc) rfl) (yd (ve (pv 0) (yn vv (yo (pv 0) rfl) yc) rfl))))))))))),?_;exists 3,1;have u:=C.w0;have r:=C.w1;ext;exists J,n,rfl,tc,λf=>?_,X;ext;exists D,m,rfl,tb,λl=>?_,Z f;let⟨c,rfl,S,M⟩:=yc0 f;let⟨b,rfl,b0,N⟩:=ydm l;have q:Ch c:=⟨S,M⟩;have k:=k c b rfl rfl q b0 N;ext;exists p,g,_,rfl,G,lkN _ (by right) (by right) (by right),?_;ext;exists p,g,x,c,rfl,G,q,?_;ext;let⟨a1,W,a3⟩:=ybg u r q;refine ym1 (λσ' e=>∃y:Sn,σ'=[some (.ref p),some (.int c),some (.int b),some (.int (cut x.2.1 c))]/\e p=some (.ins a.A7 g (j4 y))/\8388608<=y.2.1/\y.2.1<=1099511627776/\ren y.1 y.2.1 y.2.2=nar x c b/\But p H e) ?_ ?_
 .ext;refine xz (λd=>?_) (λd=>?_)
  .ext;exists _,rfl,ya,a1,Int.le_of_lt a3,?_,But.upd;unfold nar
   (rw[if_pos d])<;>rfl
  .ext;exists _,rfl,ya,W,?_,?_,But.upd.trans But.upd
   .show x.2.1-cut x.2.1 c<=_;omega
   .unfold nar
    (rw[if_neg d])<;>rfl
 .rintro σ' e ⟨y,rfl,j,R,O,y3,U⟩;ext;exists λm σ' e=>∃y:Sn,σ'=[some (.ref p),some (.int c),some (.int b),some (.int (cut x.2.1 c))]/\e p=some (.ins a.A7 g (j4 y))/\8388608<=y.2.1/\y.2.1<=1099511627776/\ren y.1 y.2.1 y.2.2=nar x c b/\But p H e/\m=(4294967296-y.2.1).toNat,⟨_,y,rfl,j,R,O,y3,U,rfl⟩,?_;rintro m σ2 H2 ⟨z,rfl,hz,z1,z2,o,I,rfl⟩;ext;refine xz (λd=>?_) (λd=>?_)
  .refine ybk ?_;ext;exists _,?_,(z.1*256,z.2.1*256,z.2.2+1),rfl,ya,?_,?_,(ylh d z1).trans o,((I.trans But.upd).trans But.upd).trans But.upd,rfl
   .show (4294967296-z.2.1*256).toNat<(4294967296-z.2.1).toNat;omega
   .show 8388608<=z.2.1*256;omega
   .show z.2.1*256<=1099511627776;omega
  .rw[yp1 d]at o;refine k _ ?_ I;rw[<- o];exact hz
#synth yyu ["self","unit"] yzy
inductive yma(C:xy)(vs:Τ)(H:Hp)(Q:VK)(E':XK):Prop
 |mk(p dx:xy)(x:Sn)(j:Nat)(_:vs=[.ref p,.int (pw j)])(_:H p=some (.ins C dx (j4 x)))(_:j<=6)(_:Q (.bl (decide (ygf x.1 x.2.1 j))) H)
def yvv:vx P w K mg Γ CX0 2 a.Jz a.Mj ["self","unit"] (yma a.A7):=by
 exists T.I0.F.ok,yyu,g;let⟨p,i,x,j,rfl,l,f,k⟩:=h;exists _,(yd (yt (jt jh (yn wz (yn vv (ug (ypd T) g.m T.Hy (pac (yo (pv 0) rfl) (pa1 (pv 1)))) yc) (pv 1)) (yn vv (yo (pv 0) rfl) (yo (pv 0) rfl)) (y9 _)))),?_;exists 2,0;have n:=ydn f;have e:=zn j;ext;exists _,_,rfl,e,(),?_
 ext;exact k
#synth ybi ["self","unit","size"] ["self"] vax
inductive yrj(C:xy)(vs:Τ)(H:Hp)(Q:VK)(E':XK):Prop
 |mk(p dx:xy)(x:Sn)(_:vs=[.ref p])(_:H p=some (.ins C dx (j4 x)))(_:OkS x)(_:sz x<=100000)(_:∀t H',H t=none->H' t=some (.lst ((tL x).map V.int))->yx H H'->Q (.ref t) H')
def ynl:vx P w K mg Γ CX0 3 a.K1 a.Ml ["self"] (yrj a.A7):=by
 exists T.En.F.ok,ybi,f;let⟨p,g,x,rfl,n,c,G,k⟩:=h;exists 1,2,yg (yu (i:=1) ybi.nd rfl (Or.inl rfl) yc) (yg (yu (i:=2) ybi.nd rfl (Or.inl rfl) (yo (pv 0) rfl)) (yg (δ PassesOwn.never (zq (xo (pv 0) T.Ag T.I0.m (yvv T) f.m T.I0.B .nil wo (pa1 (yn wz (pv 1) yc)))) (yg (yu (i:=1) ybi.nd rfl (Or.inl rfl) (yn wz (pv 1) yc)) (yd (yu (i:=2) ybi.nd rfl (Or.inl rfl) (yn ub (pv 2) yc))))) (yd (yt (ug (ypi T) f.m T.Hx (pac (ug (ypd T) f.m T.Hy (pac (yo (pv 0) rfl) (pa1 (pv 1)))) (pa1 (pv 2))))))));exists λm σ' t=>t=H/\∃j:Nat,σ'=[some (.ref p),some (.int (pw j)),some (.int (x.2.2-j))]/\j<=5/\tel x.1 x.2.1 (5-j) j=tK x/\m=6-j,⟨_,rfl,0,by simp[pw],∅,rfl,rfl⟩,?_;rintro m σ2 C ⟨rfl,j,rfl,I,o,rfl⟩;have z:=ydn (show j<=6 by omega);have u:=zn j;ext;exists p,g,_,rfl,n,lkN _ (by right) (by right) (by right),?_;ext;exists p,g,x,j+1,rfl,n,(),?_
 ext;refine xz (λb=>?_) (λb=>?_)
 .refine ybk ?_;ext;have r:=yo0 c.ok.w1 b;exists _,?_,rfl,j+1,?_,r,?_,rfl
  .show 6-(j+1)<6-j;omega
  .have d:x.2.2-(j:Int)-1=x.2.2-((j+1:Nat):Int):=()
   rw[d];rfl
  .rw[yle b,<- o]
   congr 1
   omega
 .have e:j=tK x:=by rw[<- o,yro b]
  subst e;ext;exists _,_,rfl,u,(),?_
  ext;have D:=c.sz;have y:=(ys2 c).2;have d:x.2.2-(tK x:Int)=((sz x-tK x:Nat):Int):=()
  rw[d];exists _,_,rfl,(),k
#synth yw3 ["thing"] vay
inductive ye8(K:z0)(vs:Τ)(H:Hp)(Q:VK)(E':XK):Prop
 |mk(x n:_)(_:vs=[x])(_:xu K H x (.type n))(_:Q (.bl (ykg x)) H)
def yu9:vx P w K mg Γ CX0 1 a.K2 a.Mm ["thing"] (ye8 K):=by
 exists T.P0.F.ok,yw3,g;let⟨x,n,rfl,b,k⟩:=h;exists 1,0,yd (yt (uv (pcB w6 T.A8 (pac (pv 0) (pa1 (τ (T:="str") rfl T.Pu (by right))))) (jz (jt ygk (pv 0) (w8 rfl T.Ea) (by with_unfolding_all rfl)))));refine ĥ b (ydw b) ?_;ext;by_cases hn:n="str"
 .obtain⟨s',rfl⟩:∃s',x=.str s':=by
   cases b with
   |str s'=>exists s',rfl
   |_=>exact absurd hn ∅
  rw[cT hn];refine ybz ?_;ext;exists a.B9,_,rfl,.inr (T.w_KINDS H),rfl,rfl,k
 .have e:ykg x=false:=by
   cases b with
   |str s'=>exact absurd rfl hn
   |_=>rfl
  rw[cX hn];rw[e]at k;exact ybw k
#synth yyw ["thing"] vb0
inductive ycn(K:z0)(vs:Τ)(H:Hp)(Q:VK)(E':XK):Prop
 |mk(x n:_)(_:vs=[x])(_:xu K H x (.type n))(_:Q (.bl (plV x)) H)
def yxe:vx P w K mg Γ CX0 2 a.K3 a.Mn ["thing"] (ycn K):=by
 exists T.P1.F.ok,yyw,j;let⟨x,n,rfl,g,k⟩:=h;exists 1,0,yd (yt (uv (ug (ykl T) j.m T.Gd (pa1 (pv 0))) (jz (Ô jh jh yc (pv 0) (vq rfl T.Fn)))));exists x,n,rfl,g,?_;ext
 cases hx:χ x with
 |false =>
  have e:plV x=false:=by
   cases x<;>first|rfl|cases hx
  rw[e]at k;exact ybw k
 |true =>
  let⟨i,rfl⟩:=zv hx;refine ybz ?_;ext;refine xz (λb=>?_) (λb=>?_)
  .ext;have e:plV (.int i)=decide (i<=8):=by simp[plV,b]
   rw[e]at k;exact k
  .have e:plV (.int i)=false:=by simp[plV,b]
   rw[e]at k;exact k
#synth yxp ["thing"] vau
inductive š(K:z0)(vs:Τ)(H:Hp)(Q:VK)(E':XK):Prop
 |mk(x b:_)(_:vs=[x])(_:PlB K H x b)(_:∀H',yx H H'->Q (.bl b) H')
def yyl:vx P w K mg Γ CX0 3 a.K4 a.Mo ["thing"] (š K):=by
 exists T.P2.F.ok,yxp,hr;let⟨x,b,rfl,hb,k⟩:=h;exists _,(yg (wa (PW.pt (ybq (uw (zq (pcB w6 T.A8 (pac (pv 0) (pa1 (τ (T:="tuple") rfl T.Cd (by right))))))) (ybq (yw yki (pcB yq T.A9 (pa1 (pv 0))) (vq rfl T.Dp) (y9 _)) (ybm (uw (zq (pcB (j7 rfl) T.Du (pa1 (wy (js:=[]) (ys:=[]) rfl (ye6 (pv 0)) (λC X I U=>(ug (yxe T) hr.m T.P1 (pa1 (pv 0)))) rfl rfl (hyc:=y7) (hrel:=y7)))))))))) (yd (yt ym3)) y8) (yd (yt (pcB (j7 rfl) T.Du (pa1 (ydv (js:=[]) (ys:=[]) (xs:=["near","far"]) (g:=yte K 2 (θ (xb 0) (θ (xb 1) ynb))) rfl (yry rfl T.Jc (pac (pv 0) (pa1 (yz (yv8.or yqm) (pv 0) (vg yc) vo)))) (λC X I U=>(jt ó (pv 0) (pv 1) (y9 _))) rfl (λC X I U=>Ŏ rfl (xt (wj (i:=0) (show List.Nodup ((["near","far"]:Ρ)++([]:Ρ)) by right) rfl (Or.inl rfl)) (xt (wj (i:=1) (show List.Nodup ((["near","far"]:Ρ)++([]:Ρ)) by right) rfl (Or.inl rfl)) æ))) rfl (hyc:=y7) (hrel:=y7))))))),?_;exists 1,0;rcases hb with⟨n,S,hn,rfl⟩|⟨t,xs,rfl,G,hl,hy,rfl⟩
 .ext;refine ĥ S (ü S) ?_;ext;refine ysy hn ?_;ext;exact k _ (yx.refl _)
 .ext;refine ĥ (.tup G) (ü (.tup G)) ?_;ext;refine ysq rfl ?_;ext;refine ypa (SqT.of G) ?_;ext;unfold xp at k;refine xz (λh4=>?_) (λh4=>?_)
  .rw[cX (),Bool.false_and,Bool.false_and]at k;ext;exact k _ (yx.refl _)
  .rw[cT (),Bool.true_and]at k;ext;exists t,rfl,⟨_,SqT.of G⟩,λD W=>?_;refine yhu (xs:=xs) (λv=>.bl (plV v)) (SqT.of G) W (λi y I J p f=>?_) (λI p f=>?_)
   .obtain⟨n,R⟩:=hy y (cN J);ext;exists y,n,rfl,ŋ p R,?_;exact Mp.done W (vw ()) J p f rfl
   have e:xs.map (λv=>V.bl (plV v))=(xs.map plV).map V.bl:=by rw[dD];rfl
   rw[e]at f;ext;exists D,_,rfl,SqL.of f,?_;rw[List.all_map];have ea:xs.all (id ∘ plV)=xs.all plV:=rfl;rw[ea];have c:=p _ _ G
   cases hp:xs.all plV with
   |false =>
    rw[hp,Bool.false_and]at k;ext;exact k _ p
   |true =>
    rw[hp,Bool.true_and]at k
    have l:∀y∈xs,∃i:Int,y=.int i:=λy hm=>by
     have:=List.all_eq_true.mp hp y hm
     cases y with
     |int i=>exists i,rfl
     |_=>cases this
    ext;by_cases hx0:xs=[]
    .refine .inr ⟨t,xs,rfl,SqT.of c,?_,?_⟩
     .subst hx0;exists rfl,rfl
     .exists t,t,rfl,⟨_,_,SqT.of c,SqT.of c⟩,λN d=>?_;refine yh8 (xs:=xs) l () (SqT.of c) (by subst hx0;exact SqT.of c) d (λi j σ' Z Q' h=>?_) (λH4 O B=>?_)
      .ext;exact h
      .ext;exists N,_,rfl,SqL.of B,k _ (p.trans O)
    .refine .inl ⟨t,xs,rfl,SqT.of c,?_,λu hu=>?_⟩
     .rintro ⟨z,_⟩
      have e1:HT.sIx xs.length 0 (some 1)=min 1 xs.length:=by
       have:=HT.sIx_nat xs.length 0 1;simpa using this
      rw[e1]at z
      cases xs with
      |nil=>exact hx0 rfl
      |cons x r=>simp at z
     .rw[yqh];have L:=y6 (o:=(HO.tup xs.tail)) hu;have q:upd I u (HO.tup xs.tail) u=some (HO.tup xs.tail):=ya;generalize upd I u (HO.tup xs.tail)=H3 at L q⊢;exists t,u,rfl,⟨_,_,SqT.of (L _ _ c),SqT.of q⟩,λN d=>?_;refine yh8 (xs:=xs) l () (SqT.of (L _ _ c)) (SqT.of q) d (λi j σ' Z Q' h=>?_) (λH4 O B=>?_)
      .ext;exact h
      .ext;exists N,_,rfl,SqL.of B,k _ (p.trans (L.trans O))
#synth yyc ["thing"] va4
inductive yfx(K:z0)(vs:Τ)(H:Hp)(Q:VK)(E':XK):Prop
 |mk(x b:_)(_:vs=[x])(_:LkB K H x b)(_:∀H',yx H H'->Q (.bl b) H')
def yn3:vx P w K mg Γ CX0 4 a.K5 a.Mq ["thing"] (yfx K):=by
 exists T.I1.F.ok,yyc,i;let⟨x,b,rfl,d,k⟩:=h;exists _,(yd (yt (uv (pcB w6 T.A8 (pac (pv 0) (pa1 (τ (T:="tuple") rfl T.Cd (by right))))) (uv (jt xx (pcB yq T.A9 (pa1 (pv 0))) yc (y9 _)) (uv (ug (yu9 T) i.m T.P0 (pa1 (xk jl (pv 0) yc (λZ Z=>rfl)))) (jz (ug (yyl T) i.m T.P2 (pa1 (xk jl (pv 0) yc (λZ Z=>rfl)))))))))),?_;exists 1,0;rcases d with⟨n,e,q,rfl⟩|⟨t,r,rfl,c,d⟩
 .ext;refine ĥ e (ü e) ?_;ext;rw[cX q];exact ybw (k _ (yx.refl _))
 .ext;refine ĥ (.tup c) (ü (.tup c)) ?_;ext;refine ybr rfl ?_;ext;refine ypa (SqT.of c) ?_;ext;rcases d with⟨u,rfl⟩|⟨y,z,n,rfl,e,d⟩
  .rw[cX (show ¬((r.length:Int)=2) by omega)];exact ybw (k _ (yx.refl _))
  .refine ybr rfl ?_;ext;refine ybs (SqT.of c) (xf (j:=0) rfl) ?_;ext;exists y,n,rfl,e,?_;rcases d with⟨f,rfl⟩|⟨f,p⟩
   .rw[f];ext;exact k _ (yx.refl _)
   .rw[f];ext;refine ybs (SqT.of c) (xf (j:=1) rfl) ?_;ext;exists z,b,rfl,p,k
#synth yuk ["thing"] vbs
def yg0(K:z0)(C:xy):Sp:=λvs H Q E=>(∃x n,vs=[x]/\xu K H x (.type n)/\n≠"list"/\E (.ref C) none H) \/
 ∃(l:xy)(xs:Τ)(bs:qi Bool),vs=[.ref l]/\H l=some (.lst xs)/\xs.length<=1000/\ypt K H xs bs/\
  ((1<=xs.length/\xs.length<=6/\bs.all id=true)->∀r H',H r=none->H' r=some (.lst xs)->yx H H'->Q (.ref r) H')/\
  (¬(1<=xs.length/\xs.length<=6/\bs.all id=true)->∀H',yx H H'->E (.ref C) none H')
def yo7:vx P w K mg Γ (CXe P w) 5 a.K6 a.Mr ["thing"] (yg0 K a.Bv):=by
 refine T.I2.F.okE yuk (λN H Q E h=>?_) (λX A o s H N Q E M h=>?_)
 .rcases h with⟨x,n,rfl,_⟩|⟨l,xs,f,rfl,_⟩
  .rfl
  .rfl
 .rcases h with⟨x,n,rfl,G,Y,k⟩|⟨l,xs,e,rfl,d,hz,v,U,u⟩
  .exists _,(yg (wa (PW.pt (ybq (uw (zq (pcB w6 T.A8 (pac (pv 0) (pa1 (τ (T:="list") rfl T.Ap (by right))))))) (ybq (uw (Ż jh jh yc (pcB yq T.A9 (pa1 (pv 0))) (vq rfl T.Cj))) (ybm (uw (zq (pcB (j7 rfl) T.Du (pa1 (wy (js:=[]) (ys:=[]) rfl (xg (pv 0)) (λC W q S=>(ug (yn3 T) M.m T.I1 (pa1 (pv 0)))) rfl rfl (hyc:=y7) (hrel:=y7)))))))))) (yd (wn rfl T.Ji T.Jk (pa1 v7))) y8) (yd (yt (pcT wb T.Ap (pa1 (pv 0)))))),?_;refine yk (σ':=[some _]) rfl ?_;ext;refine ĥ G (yd7 G) ?_;ext;refine ysy Y ?_;ext;exists by walk_at "len",k
  .exists _,(yg (wa (PW.pt (ybq (uw (zq (pcB w6 T.A8 (pac (pv 0) (pa1 (τ (T:="list") rfl T.Ap (by right))))))) (ybq (uw (Ż jh jh yc (pcB yq T.A9 (pa1 (pv 0))) (vq rfl T.Cj))) (ybm (uw (zq (pcB (j7 rfl) T.Du (pa1 (wy (js:=[]) (ys:=[]) rfl (xg (pv 0)) (λC W q S=>(ug (yn3 T) M.m T.I1 (pa1 (pv 0)))) rfl rfl (hyc:=y7) (hrel:=y7)))))))))) (yd (wn rfl T.Ji T.Jk (pa1 v7))) y8) (yd (yt (pcT wb T.Ap (pa1 (pv 0)))))),?_;refine yk (σ':=[some _]) rfl ?_;ext;refine ĥ (.lst d) (yd7 (.lst d)) ?_;ext;refine ysq rfl ?_;ext;refine uc (SqL.of d) ?_;ext;refine xz (λR=>?_) (λR=>?_)
   .ext;refine yta (λO=>?_) (λO=>?_)
    .ext;exists l,rfl,⟨_,SqL.of d⟩,λD J=>?_;refine jr (K:=K) (xs:=xs) (Mp H D (λi=>V.bl ((e[i]?).getD false))) (Mp.zero J) (λZ Z Z p=>p.1.seq (SqL.of d)) (λi y q B L p=>?_) (λq p=>?_)
     .obtain⟨c,b⟩:=p;have g:i<e.length:=by rw[<- v.1];exact L
      ext;exists y,e[i],rfl,(v.2 i y _ B (cA g)).same c,λZ I=>?_;refine Mp.doneR J (vw ()) L (c.trans I) (I _ _ b) ?_;rw[cA g];rfl
     let⟨c,b⟩:=p;rw[ymf e v.1]at b;ext;exists D,_,rfl,SqL.of b,?_;have t:=c _ _ d
     cases hp:e.all id with
     |false =>
      ext;exists by walk_at "len",u (by rw[hp];rintro ⟨_,_,z⟩;cases z) _ c
     |true =>
      ext;refine ydr (SqL.of t) λr j=>?_;exact U ⟨(),(),hp⟩ r _ (c.free j) ya (c.trans (y6 j))
    .ext;exists by walk_at "len",u () _ (yx.refl _)
   .ext;exists by walk_at "len",u () _ (yx.refl _)
#synth yuq ["signs","place"] vam
inductive ylj(K:z0)(vs:Τ)(H:Hp)(Q:VK)(E':XK):Prop
 |mk(l:xy)(sg:Ο)(p:Int)(_:vs=[.ref l,.int p])(_:SqL K H l (sg.map V.int))(_:1<=p)(_:Q (.int (ypu sg p)) H)
def yvp:vx P w K mg Γ CX0 1 a.K7 a.Ms ["signs","place"] (ylj K):=by
 exists T.P3.F.ok,yuq,n;let⟨l,j,p,rfl,f,m,k⟩:=h;exists 2,0,yd (yt (j8 (yw jh (pv 1) (pcB yq T.A9 (pa1 (pv 0))) (y9 _)) (xk wl (pv 0) (ym0 yep (pv 1)) (λZ Z=>rfl)) (vq rfl T.Gk)));refine uc f ?_;rw[bz];ext;unfold ypu at k;refine xz (λb=>?_) (λb=>?_)
 .rw[if_pos b]at k;let⟨c,e,_⟩:=yk2 m b;rw[e]at k;ext;exact zb f (by rw[yrt,e];rfl) k
 .rw[if_neg b]at k;ext;exact k
#synth yvh ["look","signs","node"] vad
def jk(K:z0)(H:Hp)(k:xy)(x:V)(ps:Ο):Prop:=∃t,SqT K H k [x,.ref t]/\SqT K H t (ps.map V.int)/\(∀p∈ps,1<=p/\p<=8)/\ps.length<=4
def jk.same{H H':Hp}{k:xy}{x:V}{ps:Ο}(S:yx H H')(h:jk K H k x ps):jk K H' k x ps:=by let⟨t,c,b,a,d⟩:=h;exists t,S.tup c,S.tup b,a,d
def ctx(ps sg:Ο)(nd:Int):Ο:=ps.map (ypu sg)++[nd]
def bkV(sg:Ο):V->V
 | .int p=>.int (ypu sg p)
 |_=>.non
def yq0(sg ps:Ο):(ps.map V.int).map (bkV sg)=(ps.map (ypu sg)).map V.int:=by rw[dD,dD];rfl
inductive yfz(K:z0)(vs:Τ)(H:Hp)(Q:VK)(E':XK):Prop
 |mk(k l:xy)(x:V)(ps sg:Ο)(nd:Int)(_:vs=[.ref k,.ref l,.int nd])(_:jk K H k x ps)(_:SqL K H l (sg.map V.int))(_:∀r H',H r=none->H' r=some (.tup ((ctx ps sg nd).map V.int))->yx H H'->Q (.ref r) H')
def yvq:vx P w K mg Γ CX0 2 a.K8 a.Mt ["look","signs","node"] (yfz K):=by
 exists T.P4.F.ok,yvh,R;let⟨W,l,x,v,g,N,rfl,⟨t,L,z,o,M⟩,U,k⟩:=h;exists 3,0,yd (yt (pcT z9 T.Cd (pa1 (yn vh (wy (js:=[1]) (ys:=["signs"]) rfl (ye6 (xk jl (pv 0) yc (λZ Z=>rfl))) (λC Y B X=>(ug (yvp T) R.m T.P3 (pac (pv 1) (pa1 (pv 0))))) rfl rfl (hyc:=(all_cons rfl y7)) (hrel:=(all_cons rfl y7))) (vd (pa1 (pv 2)))))));refine ybs L (xf (j:=1) rfl) ?_;exists t,rfl,⟨_,z⟩,λD G=>?_;have u:(v.map V.int).length<sizeLine:=vw (by rw[bz];omega);refine ł (xs:=v.map V.int) (bkV g) z G (λi y B I e b=>?_) (λB e b=>?_)
 .obtain⟨p,rfl,q,_,_⟩:=Ù I;ext;exists l,g,p,rfl,e.seq U,(o p q).1,?_;exact Mp.done G u I e b rfl
 .rw[yq0]at b;ext;exists by walk_at "len",λn hn=>?_
  exists hn,H3,S3,hn3;exists D,n,_,_,rfl,rfl,S3 _ _ b,hn3,wv (by rw[bz,bz];show _+1<=_;omega),λc hc=>?_;exists hc,H4,S4,hc4;exists c,_,rfl,.inl ⟨SqL.of hc4,λr d=>?_⟩;have S:=e.trans (S3.trans S4);refine k r _ (S.free d) (ya.trans ?_) (S.trans (y6 d));unfold ctx;rw[cM];rfl
#synth yu4 ["self","look"] vb1
inductive yh4(a:Ads)(vs:Τ)(H:Hp)(Q:VK)(E':XK):Prop
 |mk(p dx lk:xy)(kd:Fin 3)(_:vs=[.ref p,.ref lk])(_:H p=some (.ins a.Ah dx []))(_:∀d H',H d=none->õ a H' p dx lk d kd (λZ=>none) (λb=>b=d) 0->But p H H'->Q .non H')
def yua:vx P w K mg Γ CX0 1 a.Gs a.Mu ["self","look"] (yh4 a):=by
 exists T.P5.F.ok,yu4,D;let⟨p,i,j,y,rfl,v,k⟩:=h;exists 2,0,yg (ve (pv 0) (pv 1) rfl) (yd (ve (pv 0) ymd rfl));intro d l
 have c:H d=none:=by
  cases e:H d with
  |none=>rfl
  |some o =>
   by_cases z:d=p
   .rw[z,ya]at l;cases l
   .rw[yp z,e]at l;cases l
 have g:d≠p:=λz=>by rw[z,v]at c;cases c
 have m:=jw (o':=HO.dT []) l (show upd H p (HO.ins a.Ah i ([("look",V.ref j)]:Ι)) p=some (HO.ins a.Ah i ([("look",V.ref j)]:Ι))from ya);have f:upd (upd H p (HO.ins a.Ah i ([("look",V.ref j)]:Ι))) d (.dT []) d=some (.dT []):=ya;have r:But p H (upd (upd H p (HO.ins a.Ah i ([("look",V.ref j)]:Ι))) d (.dT [])):=λb o e n=>by rw[yp (yb e c),yp n];exact e
 generalize upd (upd H p (HO.ins a.Ah i ([("look",V.ref j)]:Ι))) d (.dT [])=C at m f r⊢;ext
 refine k d _ c ⟨ya,λb B=>⟨HO.dT [],by cases B;exact yi g f,rfl⟩,λz=>g z.symm,rfl,λx e=>(by cases (yi g f).symm.trans e;exact⟨List.nodup_nil,λZ z=>(nomatch z)⟩),[],λZ=>(0,0),yi g f,cE _,λZ Z=>rfl,λZ Z z=>(nomatch z),λZ Z Z Z z=>(nomatch z)⟩ (r.trans But.upd)
#synth ypb ["self","signs","node","context"] ["self","signs","node"] vca
inductive yhk(K:z0)(a:Ads)(vs:Τ)(H:Hp)(Q:VK)(E':XK):Prop
 |mk(p dx lk d sl:xy)(kd:Fin 3)(f:qi Int->qj Slt)(O:Μ)(m:Nat)(ps sg:Ο)(nd:Int)(_:vs=[.ref p,.ref sl,.int nd])(_:õ a H p dx lk d kd f O m)(_:m<1000000)(_:jk K H lk (.str (kdS kd)) ps)(_:SqL K H sl (sg.map V.int))(_:∀(q:xy)(O':Μ)(H':Hp),õ a H' p dx lk d kd (yac f (ctx ps sg nd) ((f (ctx ps sg nd)).getD (kd0 kd))) O' (m+1)->(∀kvs,H' d=some (.dT kvs)->ξ kvs (kI (ctx ps sg nd))=some (.ref q))->(∀c,O' c->O c\/H c=none)->(∀c,O c->O' c)->yna O H H'->Q (.ref q) H')
set_option tactic.hygienic true in
def yup:vx P w K mg Γ CX0 4 a.K9 a.Mv ["self","signs","node"] (yhk K a):=by
 exists T.I3.F.ok,ypb,hr;let⟨p,dx,lk,d,sl,G,f,O,m,ps,sg,Y,rfl,hb,hm,hl,hs,k⟩:=h;have ac:=hb.me;exists 3,1,yg (yu (i:=3) ypb.nd rfl (Or.inl rfl) (ug (yvq T) hr.m T.P4 (pac (yo (pv 0) rfl) (pac (pv 1) (pa1 (pv 2)))))) (yg (ρ (wa (yjl (ya9 (Ķ hr) (pv 3) (yo (pv 0) rfl))) (yd (yct (Ķ hr) (yo (pv 0) rfl) (pv 3) (ug (ywi T) hr.m T.Oz (pa1 (xk jl (yo (pv 0) rfl) yc (λF F=>rfl)))) rfl)) y8)) (yd (yt (ſ (Ķ hr) (yo (pv 0) rfl) (pv 3) (λF F=>rfl)))));exists lk,sl,_,ps,sg,Y,rfl,hl,hs,λr H1 aa a3 S1=>?_;have l:H1 r=some (.tup ((kI (ctx ps sg Y)).map kV)):=by rw[yuy];exact a3
 generalize ctx ps sg Y=b at l k;have g:=hb.same S1;have y:=g.me;ext;refine ym1 (λσ' H'=>σ'=[some (.ref p),some (.ref sl),some (.int Y),some (.ref r)]/\∃O',õ a H' p dx lk d G (yac f b ((f b).getD (kd0 G))) O' (m+1)/\(∀c,O' c->O c\/H c=none)/\(∀c,O c->O' c)/\yna O H H'/\H' r=some (.tup ((kI b).map kV))) ?_ ?_
 .obtain⟨J,n,D,h2,U,R,h5⟩:=g.tb;ext;exists d,_,rfl,œ.t D l,?_
  cases hf:f b with
  |none =>
   rw[U b hf];ext;refine ybz ?_;ext;let⟨t,a5,a9,_,_⟩:=hl;refine ybs (S1.tup a5) (xf (j:=0) rfl) ?_;ext;exists G,rfl,λq dq H2 u X I=>?_;ext;have M:=I _ _ y;ext;exists d,_,rfl,yko.t (I _ _ D) (I _ _ l) (vw ()),?_;have a2:=S1.trans I;have W:q≠d:=λz=>by rw[z,D]at u;cases u
   have a4:p≠d:=λz=>g.np (z ▸ g.dO);ext;exists rfl,λc=>O c\/c=q,⟨yi a4 M,λc v=>?_,λz=>?_,.inl g.dO,ys5.snoc (g.ky J D) (U b hf) ya,yad J (kI b) (.ref q),λj=>if j=b then (q,dq)else n j,ya,?_,λj L=>?_,λj s' L=>?_,λj1 j2 s1 s2 e1 Z B=>?_⟩,λc v=>?_,λc v=>.inl v,λc o e no=>?_,yi (xw (I _ _ l) (I _ _ D) (by intro z;cases z)) (I _ _ l)
   .rcases v with v|rfl
    .obtain⟨o,ho,hi⟩:=g.own c v;by_cases z:c=d
     .rw[z];exists _,ya,rfl
     .exists o,yi z (I _ _ ho),hi
    .obtain⟨C,fs,eo⟩:=Œ a dq (kd0 G);exists _,yi W X,by rw[eo];rfl
   .rcases z with z|z
    .exact g.np z
    .rw[z]at y;rw[y]at u;cases u
   .rw[û _ (U b hf),bY];show _+1<=m+1;omega
   .unfold yac at L
    split at L
    .cases L
    .rename_i hne
     rw[Ű,if_neg λz=>hne (ypg z)];exact U j L
   .unfold yac at L
    split at L
    .rename_i he
     subst he;cases L;dsimp only;rw[if_pos rfl,Ű,if_pos rfl];exists rfl,yi W X,yog G,ymv G,.inr rfl
    .rename_i hne
     let⟨S,x,q3,q4,q5⟩:=R j s' L;dsimp only;rw[if_neg hne,Ű,if_neg λz=>hne (ypg z)]
     have a1:(n j).1≠d:=by
      let⟨C,fs,eo⟩:=Œ a (n j).2 s';rw[eo]at x;exact xw x D (by intro z;cases z)
     exists S,yi a1 (I _ _ x),q3,q4,.inl q5
   .unfold yac at e1 Z;dsimp only at B;by_cases z1:j1=b
    .by_cases z2:j2=b
     .rw[z1,z2]
     .rw[if_neg z2]at Z;rw[if_pos z1,if_neg z2]at B;let⟨_,x,_⟩:=R j2 s2 Z;have B:q=(n j2).1:=B;rw[<- B,u]at x;cases x
    .rw[if_neg z1]at e1;by_cases z2:j2=b
     .rw[if_neg z1,if_pos z2]at B;let⟨_,x,_⟩:=R j1 s1 e1;have B:(n j1).1=q:=B;rw[B,u]at x;cases x
     .rw[if_neg z2]at Z;rw[if_neg z1,if_neg z2]at B;exact h5 j1 j2 s1 s2 e1 Z B
   .rcases v with v|rfl
    .exact .inl v
    .exact .inr (S1.free u)
   .exact yi (λz=>no (z ▸ g.dO)) (a2 _ _ e)
  |some s' =>
   let⟨S,x,q3,q4,q5⟩:=R b s' hf;rw[S];ext;exists rfl,O,?_,λc v=>.inl v,λc v=>v,λc o e F=>S1 _ _ e,l
   have ef:yac f b ((some s').getD (kd0 G))=f:=by
    funext j
    unfold yac
    split
    .rename_i z
     rw[z,hf];rfl
    .rfl
   rw[ef];exists g.me,g.own,g.np,g.dO,g.ky,J,n,D,Nat.le_succ_of_le h2,U,R,h5
 .rintro σ' H2 ⟨rfl,O',N,hO,hM,B2,a7⟩;have M:=N.me;let⟨J,n,D,h2,U,R,h5⟩:=id N.tb;have a0:yac f b ((f b).getD (kd0 G)) b=some ((f b).getD (kd0 G)):=by unfold yac;rw[if_pos rfl]
  let⟨S,x,q3,q4,q5⟩:=R b _ a0;ext;exists d,_,rfl,by rw[<- S];exact œ.t D a7,?_
  exact k (n b).1 O' H2 N (λa8 e=>by rw[D]at e;cases e;exact S) hO hM B2
#synth yx1 ["self","many"] yzk
def yuo:vx P w K mg Γ CX0 1 a.Gt a.Mw ["self","many"] (ymy a):=by
 exists T.P6.F.ok,yx1,q;let⟨p,j,n,rfl,o,m,e,k⟩:=h;exists 2,0,yd (ve (pv 0) (yn yjp (vd (pa1 (vq rfl T.Dc))) (pv 1)) rfl);exists by walk_at "len",λr hr0=>?_
 exists hr0,H1,S1,e1;ext;exists r,n,_,rfl,rfl,e1,(),(),wv (by show 1*(n:Int).toNat<=16000000;omega),λl hl=>?_
 rw[ygt];exists hl,H2,S2,e2;have b:=S1.trans S2;have g:=b _ _ e;ext;have c:l≠p:=λz=>by rw[z,S1 _ _ e]at hl;cases hl
 exact k l _ (S1.free hl) ⟨ya,yi c e2⟩ ((But.of b).trans But.upd)
#synth ywu ["self","chances"] vcc
def yy4:vx P w K mg Γ CX0 1 a.Ka a.Mx ["self","chances"] (yht K a):=by
 exists T.I4.F.ok,ywu,hr;let⟨p,dx,l,c,G,I,n,rfl,Z,U,e,Y,⟨hp,J⟩,M,k⟩:=h;exists _,(yd (yt (yn v6 (pcB (Õ rfl) T.F8 (pa1 (ydv (js:=[]) (ys:=[]) (xs:=["weight","chance"]) (g:=yte K 2 (θ (xb 0) (θ (xb 1) ynb))) rfl (ynm rfl T.Jc (pac (yo (pv 0) rfl) (pa1 (pv 1)))) (λC s2 q X=>(yn wz (pv 0) (pv 1))) rfl (λC s2 q X=>Ŏ rfl (xt (wj (i:=0) (show List.Nodup ((["weight","chance"]:Ρ)++([]:Ρ)) by right) rfl (Or.inl rfl)) (xt (wj (i:=1) (show List.Nodup ((["weight","chance"]:Ρ)++([]:Ρ)) by right) rfl (Or.inl rfl)) æ))) rfl (hyc:=y7) (hrel:=y7)))) (pcB (Õ rfl) T.F8 (pa1 (yo (pv 0) rfl)))))),?_;exists 2,0;have d:I.length=G.length:=by rw[e.len,Y.len]
 ext;exists l,c,rfl,⟨_,_,SqL.of J,M⟩,λD O=>?_;refine ŀ (λi=>V.int ((G[i]?).getD 0*(I[i]?).getD 0)) (SqL.of J) M (by rw[bz,bz,d]) O (λi x y q z a1 W hy r b m t=>?_) (λq r b=>?_)
 .obtain⟨v1,v2,rfl⟩:=yja t;let⟨w,rfl,L,wi,S⟩:=Ù W;let⟨u,rfl,um,ui,_⟩:=Ù hy;have w1:=e.one w L;have w2:=e.top w L;have N:=r.trans (y6 (o:=HO.tup [V.int w,V.int u]) m);have f:=jw (o':=HO.tup [V.int w,V.int u]) m b;have j:upd q z (HO.tup [V.int w,V.int u]) z=some (.tup [V.int w,V.int u]):=ya;generalize upd q z (HO.tup [V.int w,V.int u])=H3 at N f j;refine Ģ (SqT.of j) rfl ?_;show θ (xb 0) (θ (xb 1) ynb) [V.int w,V.int u] (v1::v2::wx [] [some (V.ref p),some (V.ref c)]) H3 _;ext;exists⟨[some (.int w),some (.int u)],rfl,rfl⟩,?_;ext;refine Mp.doneR O (vw (by rw[bz,e.len];omega)) (by rw[bz];exact S) N f ?_;rw[wi,ui];rfl
 .have b:=yea b (yof (g:=λw c=>w*c) d);have a2:=r _ _ hp;have B:=r _ _ J;have p1:=e.pos Z;have p2:=e.small U;ext;exists D,_,rfl,SqL.of b,?_;ext;exists l,_,rfl,SqL.of B,?_;ext;exact k _ r
#synth ŏ ["self","chances","bit","shares","whole","own","grown","dropped"] ["self","chances","bit"] yzo
def yxc:vx P w K mg Γ (CXe P w) 5 a.Kb a.My ["self","chances","bit"] (yh2 K a a.Bf):=by
 exists T.I5.F.okE,ŏ,hr;let⟨p,dx,l,c,r,I,n,x,m,rfl,n1,n6,X,hc,⟨hp,hl⟩,hq,ty,k1,k2⟩:=h;refine yf (yy (ur (ģ T) hr.m T.Cn yr (pa1 (pv 2)))) ?_;refine yf (yli (i:=3) (js:=[2]) (ys:=["bit"]) (xs:=["weight","chance"]) (g:=yte K 2 (θ (xb 0) (θ (xb 1) ynb))) ŏ.nd rfl rfl rfl (ynm rfl T.Jc (pac (yo (pv 0) rfl) (pa1 (pv 1)))) (λC s2 M fp=>(yn wz (pv 0) (ur (yyg T) hr.m T.Ov wt (pac (pv 1) (pa1 (pv 2)))))) rfl (λC s2 M fp=>Ŏ rfl (xt (wj (i:=0) (show List.Nodup ((["weight","chance"]:Ρ)++(["bit"]:Ρ)) by right) rfl (Or.inl rfl)) (xt (wj (i:=1) (show List.Nodup ((["weight","chance"]:Ρ)++(["bit"]:Ρ)) by right) rfl (Or.inl rfl)) æ))) rfl (hyc:=(all_cons rfl y7)) (hrel:=(all_cons rfl y7))) ?_;refine yf (yu (i:=4) ŏ.nd rfl (Or.inr rfl) (pcB (Õ rfl) T.F8 (pa1 (pv 3)))) ?_;refine yf (yu (i:=5) ŏ.nd rfl (Or.inr rfl) (yn wz (vq rfl T.F9) (pcB yq T.A9 (pa1 (pv 3))))) ?_;refine yf (Ŷ (i:=6) (js:=[4,5]) (ys:=["whole","own"]) ŏ.nd rfl rfl rfl (xg (pv 3)) (λC s2 M fp=>(yn vv (yn wz (pv 2) (pv 0)) (pv 1))) rfl rfl (hyc:=(all_cons rfl (all_cons rfl y7))) (hrel:=(all_cons rfl (all_cons rfl y7)))) ?_;refine yf (yu (i:=7) ŏ.nd rfl (Or.inr rfl) (pcB (ya8 rfl) T.Pt (pac (yn ub (yjt PySem.F.plainAttrs_int PySem.F.slot_int_bit_length PySem.F.type_int_bit_length yru (pcB (Õ rfl) T.F8 (pa1 (pv 6)))) (vq rfl T.Dd)) (pa1 yc)))) ?_;exists _,(yd (ve (pv 0) (wy (js:=[7]) (ys:=["dropped"]) rfl (xg (pv 6)) (λC s2 M fp=>(yn yxo (pv 0) (pv 1))) rfl rfl (hyc:=(all_cons rfl y7)) (hrel:=(all_cons rfl y7))) rfl)),?_;exists 3,5;have q:I.length=r.length:=by rw[X.len,hc.len]
 ext;exists x,m,rfl,ty,λhx=>?_,k2;let⟨b,rfl,b0,b1⟩:=yeq hx;have k:=k1 b rfl b0 b1;ext;exists l,c,rfl,⟨_,_,SqL.of hl,hq⟩,λD hD=>?_;refine ŀ (λi=>V.int ((r[i]?).getD 0*giv ((I[i]?).getD 0) b)) (SqL.of hl) hq (by rw[bz,bz,q]) hD (λi x y M tt aa hx N Y d W a2=>?_) (λM Y d=>?_)
 .obtain⟨v1,v2,rfl⟩:=yja a2;let⟨w,rfl,wm,wi,il⟩:=Ù hx;let⟨u,rfl,um,ui,_⟩:=Ù N;have w1:=X.one w wm;have w2:=X.top w wm;have a3:=yek (yw4 hc um);have a4:=yc8 b0 b1;have L:=Y.trans (y6 (o:=HO.tup [V.int w,V.int u]) W);have S:=jw (o':=HO.tup [V.int w,V.int u]) W d;have R:upd M tt (HO.tup [V.int w,V.int u]) tt=some (.tup [V.int w,V.int u]):=ya;generalize upd M tt (HO.tup [V.int w,V.int u])=H3 at L S R;refine Ģ (SqT.of R) rfl ?_;show θ (xb 0) (θ (xb 1) ynb) [V.int w,V.int u] (v1::v2::wx [2] [some (V.ref p),some (V.ref c),some (V.int b),none,none,none,none,none]) H3 _;ext;exists⟨[some (.int w),some (.int u)],rfl,rfl⟩,?_;ext;exists .int u,_,.int b,_,rfl,.int u,.int b,λz=>(by rw[a3]at z;cases z),λF z=>(by rw[a4]at z;cases z),λc' b' ec eb F F=>?_;cases ec;cases eb;ext;refine Mp.doneR hD (vw (by rw[bz,X.len];omega)) (by rw[bz];exact il) L S ?_;rw[wi,ui];rfl
 .have d:M D=some (.lst ((shL r I b).map V.int)):=yea d (yof (g:=λw c=>w*giv c b) q);have j:(shL r I b).length=n:=by rw[ycx q.symm,X.len]
  have a5:=Y _ _ hp;have ek:lrn r I b=(grL (shL r I b)).map λv=>v/2^tOf (grL (shL r I b)).sum:=rfl;rw[ek]at k;generalize shL r I b=J at d j k;have eg:grL J=J.map λs=>31*(n:Int)*s+J.sum:=by rw[<- j];rfl
  ext;exists D,_,rfl,SqL.of d,?_;ext;refine uc (SqL.of d) ?_;rw[bz,j];ext;exists D,rfl,⟨_,SqL.of d⟩,λG hG=>?_;refine À (onI λs=>31*(n:Int)*s+J.sum) (SqL.of d) hG (λi y H3 N L f=>?_) (λH3 L f=>?_)
  .obtain⟨s',rfl,_,_,il⟩:=Ù N;show tOp _ _ _ (some (V.int s')::wx [4,5] [some (V.ref p),some (V.ref c),some (V.int b),some (V.ref D),some (V.int J.sum),some (V.int (31*(n:Int))),none,none]) H3 _;ext;exact Mp.done hG (vw (by rw[bz,j];omega)) N L f rfl
  .rw[yh9,<- eg]at f;have a1:(grL J).length=n:=by rw[yih,j]
   generalize grL J=O at f k a1;have a0:=L _ _ a5;ext;exists G,_,rfl,SqL.of f,?_;ext;exists _,_,rfl,?_
   have et:(if (0:Int) > ((Builtin.Int.intBits O.sum:Nat):Int)-48 then (0:Int)else ((Builtin.Int.intBits O.sum:Nat):Int)-48)=((tOf O.sum:Nat):Int):=by
    show _=(((ym6 O.sum)-48:Nat):Int);have e:Builtin.Int.intBits O.sum=ym6 O.sum:=rfl;rw[e]
    split<;>omega
   rw[et];generalize tOf O.sum=t at k;ext;exists G,rfl,⟨_,SqL.of f⟩,λZ U=>?_;refine À (onI λv=>v/2^t) (SqL.of f) U (λi y H4 N S4 B=>?_) (λH4 S4 B=>?_)
   .obtain⟨s',rfl,_,_,il⟩:=Ù N;show tOp _ _ _ (some (V.int s')::wx [7] [some (V.ref p),some (V.ref c),some (V.int b),some (V.ref D),some (V.int J.sum),some (V.int (31*(n:Int))),some (V.ref G),some (V.int (t:Int))]) H4 _;ext;refine i_I (Int.natCast_nonneg t) ?_;exact Mp.done U (vw (by rw[bz,a1];omega)) N S4 B rfl
   .rw[yh9]at B;have a8:=S4 _ _ a0;ext;have nz:Z≠p:=λz=>by rw[z,a0]at U;cases U
    have a6:=Y.trans (L.trans S4);exact k Z _ ((Y.trans L).free U) ⟨ya,yi nz B⟩ ((But.of a6).trans But.upd)
#synth yxf ["self"] vae
def õ.sqt{H H':Hp}{p dx lk d:xy}{kd:Fin 3}{f:qi Int->qj Slt}{O:Μ}{m:Nat}(h:õ a H p dx lk d kd f O m)(B:yna O H H'){t:xy}{xs:Τ}(e:SqT K H t xs):SqT K H' t xs:=by
 have i:∀o:HO,H t=some o->vcq o=false->H' t=some o:=λo g j=>B _ _ g λz=>by
  let⟨k,c,b⟩:=h.own t z;rw[g]at c;cases c;rw[j]at b;cases b
 rcases e with(e|⟨o,e⟩)|e
 .exact .inl (.inl (i _ e rfl))
 .exact .inl (.inr ⟨o,i _ e rfl⟩)
 .exact .inr e
def õ.up{H:Hp}{p dx lk d:xy}{kd:Fin 3}{f:qi Int->qj Slt}{O:Μ}{m:Nat}(h:õ a H p dx lk d kd f O m)(hm:m<=m'):õ a H p dx lk d kd f O m':=by let⟨b,c,g,i,e⟩:=h.tb;exists h.me,h.own,h.np,h.dO,h.ky,b,c,g,dB i hm,e
def jk.mvT{H H':Hp}{k:xy}{x:V}{ps:Ο}(h:jk K H k x ps)(h1:∀t xs,SqT K H t xs->SqT K H' t xs):jk K H' k x ps:=by let⟨t,a,d,b,c⟩:=h;exists t,h1 _ _ a,h1 _ _ d,b,c
noncomputable def refs(g:Λ)(n:Nat):Τ:=(List.range n).map λi=>V.ref (g i)
def vi(g:Λ)(n:Nat):(refs g n).length=n:=by unfold refs;rw[bz,dw]
def Ð{g:Λ}{n:Nat}{x:V}(h:(refs g n)[i]?=some x):x=.ref (g i)/\i<n:=by
 have a:i<n:=by
  have:=(cF.mp h).1;rw[vi]at this;exact this
 unfold refs at h;rw[cK,dU a]at h;exists(cJ h).symm,a
def zw(g:Λ)(n:Nat):refs g (n+1)=refs g n++[.ref (g n)]:=by unfold refs;rw[List.range_succ,cM];rfl
def zt{g h:Λ}{n:Nat}(e:∀i,i<n->g i=h i):refs g n=refs h n:=by unfold refs;exact List.map_congr_left λi a=>by rw[e i (dN.mp a)]
structure Bks(K:z0)(a:Ads)(H:Hp)(n:Nat)(bk dx lk dd:Λ)(kd:Ν)(ps:Κ)(f:Α)(O:Β)(m:Nat):Prop where
 look:∀i,i<n->jk K H (lk i) (.str (kdS (kd i))) (ps i)
 b:∀i,i<n->õ a H (bk i) (dx i) (lk i) (dd i) (kd i) (f i) (O i) m
 dj:∀i j c,i<n->j<n->i≠j->O i c->¬O j c
 nb:∀i j,i<n->j<n->¬O i (bk j)
def AtS(H:Hp)(d:xy)(k:Ο)(q:xy):Prop:=∀kvs,H d=some (.dT kvs)->ξ kvs (kI k)=some (.ref q)
def õ.slot{H:Hp}{p dx lk d:xy}{kd:Fin 3}{f:qi Int->qj Slt}{O:Μ}{m:Nat}{k:Ο}{s:Slt}(h:õ a H p dx lk d kd f O m)(hf:f k=some s)(hq:AtS H d k q):∃dq,H q=some (oS a dq s)/\s.ok/\s.kind=kd/\O q:=by let⟨b,o,i,v,u,g,t⟩:=h.tb;let⟨r,c,j,n,l⟩:=g k s hf;have e:=hq b i;rw[r]at e;injection e with e;injection e with e;subst e;exists _,c,j,n,l
def õ.told{H H':Hp}{p dx lk d:xy}{kd:Fin 3}{f:qi Int->qj Slt}{O:Μ}{m:Nat}{k:Ο}{s:Slt}{b:Int}(h:õ a H p dx lk d kd f O m)(hf:f k=some s)(hq:AtS H d k q)(b0:0<=b)(b1:b<=1)
  (h3:H' q=some (oS a dq (s.see b))) (B:But q H H'):õ a H' p dx lk d kd (yac f k (s.see b)) O m:=by
 have F:=h.me;let⟨v,l,r,Y,A,L,I⟩:=id h.tb;let⟨G,J,q3,R,K⟩:=L k s hf;have e:=hq v r;rw[G]at e;injection e with e;injection e with e;have x:p≠q:=λz=>h.np (by rw[z,<- e];exact K)
 have u:d≠q:=λz=>by
  let⟨C,M,y⟩:=Œ a (l k).2 s;rw[e,<- z,r,y]at J;cases J
 exists B _ _ F x,λc P=>?_,h.np,h.dO,h.ky.mv r (B _ _ r u),v,λj=>if j=k then (q,dq)else l j,B _ _ r u,Y,λj i=>?_,λj n i=>?_,λD E N T Q U el=>?_
 .obtain⟨o,ho,Z⟩:=h.own c P;by_cases z:c=q
  .rw[z];let⟨C,M,y⟩:=Œ a dq (s.see b);exists _,h3,by rw[y];rfl
  .exists o,B _ _ ho z,Z
 .refine A j ?_;unfold yac at i
  split at i
  .cases i
  .exact i
 .unfold yac at i;by_cases z:j=k
  .rw[if_pos z]at i;cases i;subst z;dsimp only;rw[if_pos rfl];exists by rw[G,e],h3,Slt.see_ok q3 b0 b1,(yml s b).trans R,e ▸ K
  .rw[if_neg z]at i;let⟨p1,p2,W,p4,S⟩:=L j n i;dsimp only;rw[if_neg z];exists p1,B _ _ p2 (λw=>z (I j k n s i hf (w.trans e.symm))),W,p4,S
 .have g:∀j n,yac f k (s.see b) j=some n->∃t,f j=some t:=λj n h=>by
   unfold yac at h;by_cases z:j=k
   .exists s,by rw[z];exact hf
   .rw[if_neg z]at h;exists n,h
  let⟨t1,X⟩:=g D N Q;let⟨t2,f2⟩:=g E T U;refine I D E t1 t2 X f2 ?_
  have ypu:∀j,(if j=k then ((q,dq):xy×xy)else l j).1=(l j).1:=λj=>by
   by_cases z:j=k
   .rw[if_pos z,z];exact e.symm
   .rw[if_neg z]
  rw[<- ypu D,<- ypu E];exact el
def AtS.told{H H':Hp}{p dx lk d:xy}{kd:Fin 3}{f:qi Int->qj Slt}{O:Μ}{m:Nat}{k:Ο}(h:õ a H p dx lk d kd f O m){r:xy}(hd:d≠r)(B:But r H H')(hq:AtS H d k q):AtS H' d k q:=λi e=>by
 let⟨b,g,c,_⟩:=h.tb;rw[B _ _ c hd]at e;cases e;exact hq _ c
section
variable{H H':Hp}{n m:Nat}{bk dx lk dd:Λ}{kd:Ν}{ps:Κ}{f:Α}
theorem Bks.frame(h:Bks K a H n bk dx lk dd kd ps f O m){O2:Μ}(B:yna O2 H H')(dj:∀i b,i<n->O i b->¬O2 b)(hp:∀i,i<n->¬O2 (bk i))(ht:∀t xs,SqT K H t xs->SqT K H' t xs):Bks K a H' n bk dx lk dd kd ps f O m :=
 ⟨λi c=>(h.look i c).mvT ht,λi c=>(h.b i c).frame B (λb d=>dj i b c d) (hp i c),h.dj,h.nb⟩
def Bks.same(h:Bks K a H n bk dx lk dd kd ps f O m)(S:yx H H'):Bks K a H' n bk dx lk dd kd ps f O m :=
 h.frame (O2:=λZ=>False) (λb o e Z=>S b o e) (λZ Z Z Z z=>z) (λZ Z z=>z) λZ Z e=>S.tup e
def Bks.move(h:Bks K a H n bk dx lk dd kd ps f O m)(hj:j<n){f':qi Int->qj Slt}{O':Μ}(hm:m<=m')(hb:õ a H' (bk j) (dx j) (lk j) (dd j) (kd j) f' O' m')(hO:∀c,O' c->O j c\/H c=none)(B:yna (O j) H H'):
  Bks K a H' n bk dx lk dd kd ps (λi=>if i=j then f' else f i) (λi=>if i=j then O' else O i) m':=by
 have A:=h.b j hj
 have g:∀q c,q<n->q≠j->O q c->¬O' c:=λq c C y w E=>by
  rcases hO c E with v|v
  .exact h.dj q j c C hj y w v
  .obtain⟨o,D,_⟩:=(h.b q C).own c w;rw[v]at D;cases D
 exists λi d=>(h.look i d).mvT λt F e=>A.sqt B e,λi d=>?_,λi l c d r s p k=>?_,λi l d r e=>?_
 .try dsimp only
  by_cases z:i=j
  .subst z;rw[if_pos rfl,if_pos rfl];exact hb
  .rw[if_neg z,if_neg z];exact((h.b i d).frame B (λb x=>h.dj i j b d hj z x) (h.nb j i hj d)).up hm
 .try dsimp only at p k
  by_cases z1:i=j
  .rw[if_pos z1]at p;have u:l≠j:=λw=>s (z1.trans w.symm);rw[if_neg u]at k;exact g l c r u k p
  .rw[if_neg z1]at p;by_cases u:l=j
   .rw[if_pos u]at k;exact g i c d z1 p k
   .rw[if_neg u]at k;exact h.dj i l c d r s p k
 .try dsimp only at e
  by_cases z:i=j
  .rw[if_pos z]at e;rcases hO _ e with v|v
   .exact h.nb j l hj r v
   .rw[(h.b l r).me]at v;cases v
  .rw[if_neg z]at e;exact h.nb i l d r e
def AtS.move(h:Bks K a H n bk dx lk dd kd ps f O m)(hi:i<n)(hj:j<n)(hij:i≠j)(B:yna (O j) H H'){k:Ο}(hq:AtS H (dd i) k q):AtS H' (dd i) k q:=λl e=>by
 let⟨c,g,d,_⟩:=(h.b i hi).tb;rw[B _ _ d (h.dj i j _ hi hj hij (h.b i hi).dO)]at e;cases e;exact hq _ d
def Bks.nlst(h:Bks K a H n bk dx lk dd kd ps f O m){l:xy}{xs:Τ}(hl:H l=some (.lst xs)):∀i,i<n->¬O i l:=λi e z=>by
 let⟨o,d,c⟩:=(h.b i e).own l z;rw[hl]at d;cases d;cases c
end
def ync(n:Nat)(kd:Ν)(f:Α)(g:Nat->qi Int->Slt):Prop:=∀i,i<n->∀k,(f i k).getD (kd0 (kd i))=g i k
def ync.put{n:Nat}{kd:Ν}{f:Α}{g:Nat->qi Int->Slt}(h:ync n kd f g)(j:Nat)(hj:j<n)(k:Ο):ync n kd (λi=>if i=j then yac (f j) k ((f j k).getD (kd0 (kd j)))else f i) g:=λi a b=>by
 dsimp only;by_cases z:i=j
 .subst z;rw[if_pos rfl];unfold yac;by_cases w:b=k
  .rw[if_pos w,w];exact h i a k
  .rw[if_neg w];exact h i a b
 .rw[if_neg z];exact h i a b
inductive yfy(K:z0)(a:Ads)(vs:Τ)(H:Hp)(Q:VK)(E':XK):Prop
 | mk(p dp ll bl mp el pl0:xy)(nd:Int)(sg:Ο)(n m:Nat)(bk dx lk dd:Λ)(kd:Ν)(ps:Κ)(f:Α)(O:Β)(g:Nat->qi Int->Slt)(_:vs=[.ref p])(_:H p=some (.ins a.A5 dp (Ħ (.ref ll) (.ref bl) (.ref mp) (.ref el) (.int nd) (.ref pl0))))(_:H bl=some (.lst (refs bk n)))(_:H el=some (.lst (sg.map V.int)))(_:Bks K a H n bk dx lk dd kd ps f O m)(_:ync n kd f g)(_:n<=6)(_:m+10<1000000)(_:(∀i,i<n->¬O i p))(_:∀(pl:xy)(sl:Λ)(f':Α)(O':Β)(H':Hp),H' p=some (.ins a.A5 dp (Ħ (.ref ll) (.ref bl) (.ref mp) (.ref el) (.int nd) (.ref pl)))->H' pl=some (.lst (refs sl n))->H pl=none ->
  Bks K a H' n bk dx lk dd kd ps f' O' (m+n)->ync n kd f' g->(∀j,j<n->(∃s,f' j (ctx (ps j) sg nd)=some s)/\AtS H' (dd j) (ctx (ps j) sg nd) (sl j))->(∀j c,j<n->O' j c->O j c\/H c=none) ->
  (∀c o,H c=some o->c≠p->(∀j,j<n->¬O j c)->H' c=some o)->(∀c o,H c=some o->∃o',H' c=some o')->Q .non H')
def yo2:vx P w K mg Γ CX0 5 a.Kc a.N2 ["self"] (yfy K a):=by
 exists T.Eo.F.ok,yxf,hr;let⟨p,dp,ll,bl,mp,el,ab,M,S,n,m,Y,dx,lk,dd,kd,N,f,O,g,rfl,hp,W,a2,hB,hA,n6,hm,np,k⟩:=h;exists 1,0,yd (ve (pv 0) (wy (js:=[0]) (ys:=["self"]) rfl (xg (yo (pv 0) rfl)) (λC s2 H2 fp=>(xo (pv 0) T.C5 T.I3.m (yup T) hr.m T.I3.B .nil wo (pac (yif (K:=K) rfl (pv 1) rfl) (pa1 (yif (K:=K) rfl (pv 1) rfl))))) rfl rfl (hyc:=(all_cons rfl y7)) (hrel:=(all_cons rfl y7))) rfl);exists bl,rfl,⟨_,SqL.of W⟩,λD R=>?_;have ae:=hB.nlst W;have aa:=hB.nlst a2;refine ļ (K:=K) (xs:=refs Y n) (λi G=>∃(y:Λ)(L:Α)(I:Β),G D=some (.lst (refs y i))/\Bks K a G n Y dx lk dd kd N L I (m+i)/\ync n kd L g/\(∀j,j<i->(∃s,L j (ctx (N j) S M)=some s)/\AtS G (dd j) (ctx (N j) S M) (y j))/\
  (∀j c,j<n->I j c->O j c\/H c=none)/\(∀c o,H c=some o->(∀j,j<n->¬O j c)->G c=some o)/\(∀c o,H c=some o->∃o',G c=some o'))
  ⟨λF=>0,f,O,ya,hB.same (y6 R),hA,λj d=>absurd d (du j),λj c F z=>.inl z,λc o e F=>jw R e,λc o e=>⟨o,jw R e⟩⟩ (λi G F z=>?_) (λi x G hx hi z=>?_) (λG z=>?_)
 .obtain⟨_,_,_,_,_,_,_,_,w,_⟩:=z;exact SqL.of (w _ _ W ae)
 .obtain⟨y,L,I,gD,r,gA,gS,gO,gF,gL⟩:=z;let⟨rfl,l⟩:=Ð hx;have J:=gF _ _ hp np;have a3:=gF _ _ a2 aa;have ai:=(r.b i l).me;show ydb _ _ _ _ _ _ _ (some (V.ref (Y i))::wx [0] [some (V.ref p)]) G _;ext;exists Y i,dx i,lk i,dd i,el,kd i,L i,I i,m+i,N i,S,M,rfl,r.b i l,(),r.look i l,SqL.of a3,λq O2 G2 a5 hv a7 ad B2=>?_
  have nD:=r.nlst gD;have u:G2 D=some (.lst (refs y i)):=B2 _ _ gD (nD i l);refine ul (n:=(refs Y n).length) u (vw (by rw[vi];omega)) hi ?_;have M2:=r.move l (Nat.le_succ (m+i)) a5 a7 B2;have a6:=M2.nlst u;have U:∀c o,G2 c=some o->c≠D->upd G2 D (.lst (refs y i++[V.ref q])) c=some o:=λc o e X=>yi X e
  have M3:=M2.frame (O2:=λc=>c=D) (λc o e X=>U c o e X) (λj c d w z=>a6 j d (z ▸ w)) (λj d z=>by
   have:=(M2.b j d).me;rw[z,u]at this
   cases this) (λt xs e=>by
   rcases e with(e|⟨o,e⟩)|e
   .exact .inl (.inl (U _ _ e (λz=>by rw[z,u]at e;cases e)))
   .exact .inl (.inr ⟨o,U _ _ e (λz=>by rw[z,u]at e;cases e)⟩)
   .exact .inr e)
  have up:∀j,j<n->AtS G2 (dd j) (ctx (N j) S M) (if j=i then q else y j)->AtS (upd G2 D (.lst (refs y i++[V.ref q]))) (dd j) (ctx (N j) S M) (if j=i then q else y j):=λj d h =>
   h.told (M2.b j d) (λz=>a6 j d (by rw[<- z];exact(M2.b j d).dO)) (λc o e X=>U c o e X)
  exists λj=>if j=i then q else y j,_,_,?_,M3,gA.put i l _,λj d=>?_,λj c d w=>?_,λc o e no=>?_,λc o e=>?_
  .rw[ya,zw,if_pos rfl]
   congr 3
   exact zt λj d=>(if_neg ()).symm
  .by_cases z:j=i
   .subst z;exists⟨(L j (ctx (N j) S M)).getD (kd0 (kd j)),?_⟩,up j l ?_
    .try dsimp only
     rw[if_pos rfl];unfold yac;rw[if_pos rfl]
    .rw[if_pos rfl];exact hv
   .have a1:j<n:=()
    let⟨⟨s',a9⟩,a8⟩:=gS j ();exists⟨s',?_⟩,up j a1 ?_
    .try dsimp only
     rw[if_neg z];exact a9
    .rw[if_neg z];exact a8.move r a1 l z B2
  .try dsimp only at w
   by_cases z:j=i
   .subst z;rw[if_pos rfl]at w;rcases a7 c w with v|v
    .exact gO j c d v
    .refine .inr ?_
     cases e:H c with
     |none=>rfl
     |some o =>
      let⟨o',w'⟩:=gL c o e;rw[w']at v;cases v
   .rw[if_neg z]at w;exact gO j c d w
  .have hG:=gF c o e no
   have nc:¬I i c:=λw=>by
    rcases gO i c l w with v|v
    .exact no i l v
    .rw[e]at v;cases v
   refine U _ _ (B2 _ _ hG nc) (λz=>?_);rw[z,R]at e;cases e
  .obtain⟨o1,w1⟩:=gL c o e;have a4:c≠D:=λz=>by rw[z,R]at e;cases e
   by_cases w2:I i c
   .obtain⟨o2,ac,_⟩:=a5.own c (ad c w2);exists o2,U _ _ ac a4
   .exists o1,U _ _ (B2 _ _ w1 w2) a4
 .obtain⟨y,L,I,gD,r,gA,gS,gO,gF,gL⟩:=z;rw[vi]at gD r gS;have J:=gF _ _ hp np;ext;have ag:D≠p:=λz=>by rw[z,hp]at R;cases R
  have Z:But p G (upd G p (.ins a.A5 dp (Ħ (.ref ll) (.ref bl) (.ref mp) (.ref el) (.int M) (.ref D)))):=But.upd
  have a0:∀i,i<n->¬I i p:=λi hi w=>by
   rcases gO i p hi w with v|v
   .exact np i hi v
   .rw[hp]at v;cases v
  have M3:=r.frame (O2:=λc=>c=p) (λc o e X=>Z c o e X) (λj c d w z=>a0 j d (z ▸ w)) (λj d z=>by
   have:=(r.b j d).me;rw[z,J]at this;injection this with this;injection this with _ _ e
   exact absurd (congrArg List.length e) (show ¬(6=2) by decide)) (λt xs e=>by
   rcases e with(e|⟨o,e⟩)|e
   .exact .inl (.inl (Z _ _ e (λz=>by rw[z,J]at e;cases e)))
   .exact .inl (.inr ⟨o,Z _ _ e (λz=>by rw[z,J]at e;cases e)⟩)
   .exact .inr e)
  refine k D y L I _ ya (yi ag gD) R M3 gA (λj d=>⟨(gS j d).1,(gS j d).2.told (r.b j d) (λz=>a0 j d (by rw[<- z];exact(r.b j d).dO)) Z⟩) gO (λc o e nc no=>Z _ _ (gF c o e no) nc) λc o e=>?_;by_cases zc:c=p
  .rw[zc];exists _,ya
  .obtain⟨o1,w1⟩:=gL c o e;exists o1,Z _ _ w1 zc
structure FA where
 dp:xy
 ll:xy
 bl:xy
 mp:xy
 mx:xy
 ml:xy
 el:xy
 pl:xy
 n:Nat
 bk:Λ
 dx:Λ
 lk:Λ
 dd:Λ
 sl:Λ
 kd:Ν
 ps:Κ
structure FX where
 g:Nat->qi Int->Slt
 ws:Ο
 sg:Ο
 nd:Int
def FX.key(X:FX)(A:FA)(i:Nat):Ο:=ctx (A.ps i) X.sg X.nd
noncomputable def FX.cs(X:FX)(A:FA):Ο:=(List.range A.n).map λi=>(X.g i (X.key A i)).due
noncomputable def ndN(nd b:Int):Int:=if 0<nd then (if 256<=2*nd+b then 0 else 2*nd+b)else if b=1 then 1 else nd
noncomputable def sgN(sg:Ο)(nd b:Int):Ο:=if 0<nd then (if 256<=2*nd+b then sg++[2*nd+b-256]else sg)else if b=1 then sg else []
def FX.see(X:FX)(A:FA)(b:Int):FX:={ g:=λi k=>if k=X.key A i then (X.g i k).see b else X.g i k,ws:=lrn X.ws (X.cs A) b,sg:=sgN X.sg X.nd b,nd:=ndN X.nd b}
structure jn(K:z0)(a:Ads)(H:Hp)(p:xy)(A:FA)(X:FX)(f:Α)(O:Β)(m:Nat):Prop where
 me:H p=some (.ins a.A5 A.dp (Ħ (.ref A.ll) (.ref A.bl) (.ref A.mp) (.ref A.el) (.int X.nd) (.ref A.pl)))
 bl:H A.bl=some (.lst (refs A.bk A.n))
 el:H A.el=some (.lst (X.sg.map V.int))
 mx:ykr a A.mp A.mx A.ml X.ws H
 wok:WOk A.n X.ws
 pl:H A.pl=some (.lst (refs A.sl A.n))
 B:Bks K a H A.n A.bk A.dx A.lk A.dd A.kd A.ps f O m
 ag:ync A.n A.kd f X.g
 at':∀j,j<A.n->(∃s,f j (X.key A j)=some s)/\AtS H (A.dd j) (X.key A j) (A.sl j)
 np:∀i,i<A.n->¬O i p
 nm:∀i,i<A.n->¬O i A.mp
 n1:1<=A.n
 n6:A.n<=6
theorem jn.same{H H':Hp}{p:xy}{A:FA}{X:FX}{f:Α}{m:Nat}(h:jn K a H p A X f O m)(S:yx H H'):jn K a H' p A X f O m :=
 ⟨S _ _ h.me,S _ _ h.bl,S _ _ h.el,h.mx.same S,h.wok,S _ _ h.pl,h.B.same S,h.ag,λj c=>⟨(h.at' j c).1,λi e=>by
  let⟨g,k,d,_⟩:=(h.B.b j c).tb;rw[S _ _ d]at e;cases e;exact(h.at' j c).2 _ d⟩,h.np,h.nm,h.n1,h.n6⟩
theorem jn.slot{H:Hp}{p:xy}{A:FA}{X:FX}{f:Α}{m:Nat}(h:jn K a H p A X f O m)(hj:j<A.n):
  f j (X.key A j)=some (X.g j (X.key A j))/\(∃dq,H (A.sl j)=some (oS a dq (X.g j (X.key A j))))/\(X.g j (X.key A j)).ok/\O j (A.sl j):=by let⟨⟨s,c⟩,d⟩:=h.at' j hj;have e:=h.ag j hj (X.key A j);rw[c]at e;have e:s=X.g j (X.key A j):=e;rw[<- e];let⟨dq,k,l,o,i⟩:=(h.B.b j hj).slot c d;exists c,⟨dq,k⟩,l,i
def jn.cok{H:Hp}{p:xy}{A:FA}{X:FX}{f:Α}{m:Nat}(h:jn K a H p A X f O m):COk A.n (X.cs A):=by
 exists by unfold FX.cs;rw[bz,dw],λc d=>?_,λc d=>?_
 .obtain⟨j,b,rfl⟩:=cI.mp d;exact(yej (h.slot (dN.mp b)).2.2.1).1
 .obtain⟨j,b,rfl⟩:=cI.mp d;exact(yej (h.slot (dN.mp b)).2.2.1).2
def LkG.at'{H:Hp}{lk tp:xy}{kd:Fin 3}{ps:Ο}(h:LkG H (.ref lk) kd tp ps):jk K H lk (.str (kdS kd)) ps:=by
 let⟨c,e,d,f,a⟩:=h;cases e;have a:=a;unfold xp at a;rw[cZ,cZ,List.all_eq_true]at a;exists tp,SqT.of d,SqT.of f,λp b=>?_,by have:=of_decide_eq_true a.1.1;rw[bz]at this;exact this
 have w:=a.1.2 (.int p) (cI.mpr ⟨p,b,rfl⟩);have w:(decide (1<=p) && decide (p<=8))=true:=w;rw[cZ]at w;exists of_decide_eq_true w.1,of_decide_eq_true w.2
def Bks.snoc{H:Hp}{n m:Nat}{bk dx lk dd:Λ}{kd:Ν}{ps:Κ}{f:Α}(h:Bks K a H n bk dx lk dd kd ps f O m)
  (hl:jk K H (lk n) (.str (kdS (kd n))) (ps n)) {q dq d:xy} {f':qi Int->qj Slt} {O':Μ} (hb:õ a H q dq (lk n) d (kd n) f' O' m) (dj:∀j c,j<n->O j c->¬O' c) (n1:∀j,j<n->¬O j q) (n2:∀j,j<n->¬O' (bk j)):
  Bks K a H (n+1) (upN bk n q) (upN dx n dq) lk (upN dd n d) kd ps (upN f n f') (upN O n O') m:=by
 exists λi r=>?_,λi r=>?_,λi j c r s p o l=>?_,λi j r s e=>?_
 .by_cases z:i=n
  .rw[z];exact hl
  .exact h.look i ()
 .by_cases z:i=n
  .subst z;rw[xr,xr,xr,xr,xr];exact hb
  .have g:i<n:=()
   rw[xm g,xm g,xm g,xm g,xm g];exact h.b i g
 .by_cases z:i=n
  .subst z;have k:j<i:=()
   rw[xr]at o;rw[xm k]at l;exact dj j c k l o
  .have g:i<n:=()
   rw[xm g]at o;by_cases w:j=n
   .subst w;rw[xr]at l;exact dj i c g o l
   .have k:j<n:=()
    rw[xm k]at l;exact h.dj i j c g k p o l
 .by_cases z:i=n
  .subst z;rw[xr]at e;by_cases w:j=i
   .subst w;rw[xr]at e;exact hb.np e
   .have k:j<i:=()
    rw[xm k]at e;exact n2 j k e
  .have g:i<n:=()
   rw[xm g]at e;by_cases w:j=n
   .subst w;rw[xr]at e;exact n1 i g e
   .have k:j<n:=()
    rw[xm k]at e;exact h.nb i j g k e
def ym7(K:z0)(a:Ads)(H G:Hp)(n:Nat)(bk dx lk dd:Λ)(kd:Ν)(ps:Κ)(f:Α)(O:Β):Prop :=
 Bks K a G n bk dx lk dd kd ps f O 0/\(∀j k,j<n->f j k=none)/\(∀j c,j<n->O j c->H c=none)/\(∀j,j<n->H (bk j)=none)
def ym7.zero{H G:Hp}{bk dx lk dd:Λ}{kd:Ν}{ps:Κ}{f:Α}:ym7 K a H G 0 bk dx lk dd kd ps f O :=
 ⟨⟨λi b=>absurd b (du i),λi b=>absurd b (du i),λi Z Z b=>absurd b (du i),λi Z b=>absurd b (du i)⟩,λi Z b=>absurd b (du i),λi Z b=>absurd b (du i),λi b=>absurd b (du i)⟩
def ym7.next{H G G2:Hp}{n:Nat}{bk dx lk dd:Λ}{kd:Ν}{ps:Κ}{f:Α}(h:ym7 K a H G n bk dx lk dd kd ps f O)(hl:jk K G (lk n) (.str (kdS (kd n))) (ps n))
  (S:yx H G) {q dq d D:xy} {xs ys:Τ} (hq:G q=none) (hd:G d=none) (S2:yx G G2) (hb:õ a G2 q dq (lk n) d (kd n) (λZ=>none) (λb=>b=d) 0) (hD:G D=some (.lst xs)):
  ym7 K a H (upd G2 D (.lst ys)) (n+1) (upN bk n q) (upN dx n dq) lk (upN dd n d) kd ps (upN f n λZ=>none) (upN O n λb=>b=d):=by
 let⟨p,x,y,v⟩:=h;have l:∀j c,j<n->O j c->∃o,G c=some o:=λj c g w=>let ⟨o,m,_⟩:=(p.b j g).own c w;⟨o,m⟩
 have M:=(p.same S2).snoc (hl.same S2) hb (λj c g w z=>by
  let⟨o,m⟩:=l j c g w;rw[show c=d from z,hd]at m
  cases m) (λj g w=>by
  let⟨o,m⟩:=l j q g w;rw[hq]at m
  cases m) (λj g z=>by
  have e:=(p.b j g).me;rw[show bk j=d from z,hd]at e;cases e)
 have i:=S2 _ _ hD;have u:=M.nlst i;have s:∀c o,G2 c=some o->c≠D->upd G2 D (.lst ys) c=some o:=λc o e r=>yi r e;exists M.frame (O2:=λc=>c=D) (λc o e r=>s c o e r) (λj c g w z=>u j g (z ▸ w)) (λj g z=>?_) (λt xs e=>?_),λj k g=>?_,λj c g w=>?_,λj g=>?_
 .have e:=(M.b j g).me;rw[z,i]at e;cases e
 .rcases e with(e|⟨o,e⟩)|e
  .exact .inl (.inl (s _ _ e (λz=>by rw[z,i]at e;cases e)))
  .exact .inl (.inr ⟨o,s _ _ e (λz=>by rw[z,i]at e;cases e)⟩)
  .exact .inr e
 .by_cases z:j=n
  .rw[z,xr]
  .rw[xm ()];exact x j k ()
 .by_cases z:j=n
  .rw[z,xr]at w;rw[show c=d from w];exact S.free hd
  .rw[xm ()]at w;exact y j c () w
 .by_cases z:j=n
  .rw[z,xr];exact S.free hq
  .rw[xm ()];exact v j ()
def ym7.ag{H G:Hp}{n:Nat}{bk dx lk dd:Λ}{kd:Ν}{ps:Κ}{f:Α}(h:ym7 K a H G n bk dx lk dd kd ps f O):ync n kd f (λi Z=>kd0 (kd i)):=λi b k=>by
 rw[h.2.1 i k b];rfl
def FX0(n:Nat)(kd:Ν):FX:={ g:=λi Z=>kd0 (kd i),ws:=List.replicate n 1099511627776,sg:=[],nd:=0}
def ylm{g:Λ}{n:Nat}{x:V}(h:x∈refs g n):∃i,i<n/\x=.ref (g i):=by unfold refs at h;let⟨i,a,e⟩:=cI.mp h;exists i,dN.mp a,e.symm
def xi.lks{H:Hp}{n:Nat}{lk:Λ}{kd:Ν}{ps:Κ}(h:xi H n lk kd tp ps):Lks H (refs lk n):=λy a=>by
 let⟨i,b,rfl⟩:=ylm a;exists _,_,_,h i b
theorem jn.frame{H H':Hp}{p:xy}{A:FA}{X:FX}{f:Α}{m:Nat}(h:jn K a H p A X f O m){O2:Μ}(B:yna O2 H H')(hp:¬O2 p)(hm:¬O2 A.mp)(hb:∀i,i<A.n->¬O2 (A.bk i))
  (dj:∀i c,i<A.n->O i c->¬O2 c) (hl:∀l xs,(l=A.bl\/l=A.el\/l=A.ml\/l=A.pl)->H l=some (.lst xs)->H' l=some (.lst xs)) (ht:∀t xs,SqT K H t xs->SqT K H' t xs):jn K a H' p A X f O m :=
 ⟨B _ _ h.me hp,hl _ _ (.inl rfl) h.bl,hl _ _ (.inr (.inl rfl)) h.el,⟨B _ _ h.mx.o hm,hl _ _ (.inr (.inr (.inl rfl))) h.mx.l⟩,h.wok,hl _ _ (.inr (.inr (.inr rfl))) h.pl,h.B.frame B (λi c r w=>dj i c r w) hb ht,h.ag,λj d=>⟨(h.at' j d).1,λq e=>by
  let⟨k,s,g,_⟩:=(h.B.b j d).tb;rw[B _ _ g (dj j _ d (h.B.b j d).dO)]at e;cases e;exact(h.at' j d).2 _ g⟩,h.np,h.nm,h.n1,h.n6⟩
def yr0{G:Hp}{t c:xy}{xs ys zs:Τ}(hc:G c=some (.lst ys))(e:SqT K G t xs):SqT K (upd G c (.lst zs)) t xs:=by
 rcases e with(e|⟨o,e⟩)|e
 .exact .inl (.inl (yi (xw e hc (by intro z;cases z)) e))
 .exact .inl (.inr ⟨o,yi (xw e hc (by intro z;cases z)) e⟩)
 .exact .inr e
def jn.app{H:Hp}{p R:xy}{A:FA}{X:FX}{f:Α}{m:Nat}{xs ys:Τ}(h:jn K a H p A X f O m)(hR:H R=some (.lst xs))(hq:∀q,(q=A.bl\/q=A.el\/q=A.ml\/q=A.pl)->q≠R):jn K a (upd H R (.lst ys)) p A X f O m:=by
 refine h.frame (O2:=λc=>c=R) (λc o e g=>yi g e) (λz=>?_) (λz=>?_) (λi d z=>?_) (λi c d w z=>h.B.nlst hR i d (z ▸ w)) (λl xs w e=>yi (hq l w) e) (λt xs e=>yr0 hR e)
 .have e:=h.me;rw[z,hR]at e;cases e
 .have e:=h.mx.o;rw[z,hR]at e;cases e
 .have e:=(h.B.b i d).me;rw[z,hR]at e;cases e
def vbt(n:Nat)(n1:1<=n)(n6:n<=6):WOk n (List.replicate n 1099511627776):=by refine⟨List.length_replicate,λw h=>?_,λw h=>?_⟩<;>(rw[List.eq_of_mem_replicate h];decide)
#synth yvg ["self","looks"] vak
structure vga(K:z0)(a:Ads)(H H':Hp)(p:xy)(n:Nat)(lk:Λ)(kd:Ν)(ps:Κ)(A:FA)(f:Α)(O:Β):Prop where
 ft:jn K a H' p A (FX0 n kd) f O 6
 en:A.n=n
 elk:A.lk=lk
 ekd:A.kd=kd
 eps:A.ps=ps
 oO:∀j c,j<n->O j c->H c=none
 oB:∀j,j<n->H (A.bk j)=none
 oM:H A.mp=none
 oL:∀l,(l=A.bl\/l=A.el\/l=A.ml\/l=A.pl)->H l=none
 lo:H' A.ll=some (.lst (refs lk n))/\A.ll≠A.el/\H A.ll=none
inductive yd0(K:z0)(a:Ads)(vs:Τ)(H:Hp)(Q:VK)(E:XK):Prop
 | mk(p dp:xy)(x:V)(_:vs=[.ref p,x])(_:H p=some (.ins a.A5 dp []))(_:((vf4 K H x/\∀H',yx H H'->E (.ref a.Bv) none H')\/∃(l:xy)(n:Nat)(lk:Λ)(kd:Ν)(tp:Λ)(ps:Κ),x=.ref l/\H l=some (.lst (refs lk n))/\1<=n/\n<=6/\xi H n lk kd tp ps/\
  ∀A f O H',vga K a H H' p n lk kd ps A f O->But p H H'->Q .non H'))
def yt1:vx P w K mg Γ (CXe P w) 6 a.Gu a.Mz ["self","looks"] (yd0 K a):=by
 exists T.P7.F.okE,yvg,hr;let⟨p,f,x,rfl,hp,h⟩:=h;refine yf (ve (pv 0) (ur (yo7 T) hr.m T.I2 yr (pa1 (pv 1))) rfl) ?_;refine yf (ve (pv 0) (wy (js:=[]) (ys:=[]) rfl (xg (yo (pv 0) rfl)) (λC s2 H2 fp=>(ę T.Q1 (yua T) hr.m rfl T.Pz T.P5.B .nil wo (pa1 (pv 0)))) rfl rfl (hyc:=y7) (hrel:=y7)) rfl) ?_;refine yf (ve (pv 0) (ę T.R9 (yuo T) hr.m rfl T.R8 T.P6.B .nil wo (pa1 (pcB yq T.A9 (pa1 (yo (pv 0) rfl))))) rfl) ?_;refine yf (ve (pv 0) (vd u8) rfl) ?_;refine yf (ve (pv 0) yc rfl) ?_;refine yf (ve (pv 0) (vd u8) rfl) ?_;exists 2,0,yd (yy (wg (pv 0) T.Ai T.Eo.m (yo2 T) hr.m T.Eo.B .nil wo));rcases h with⟨hb,k⟩|⟨l,n,lk,kd,tp,ps,rfl,hl,n1,n6,au,k⟩
 .rcases hb with⟨nm,ty,hn⟩|⟨l,xs,bs,rfl,hl,hz,aT,no⟩
  .exact .inl ⟨x,nm,rfl,ty,hn,k _ (yx.refl _)⟩
  .exact .inr ⟨l,xs,bs,rfl,hl,hz,aT,λz=>absurd z no,λF H' S=>k _ S⟩
 .refine .inr ⟨l,refs lk n,List.replicate (refs lk n).length true,rfl,hl,by rw[vi];omega,au.lks.bs,λF g H1 ai av S1=>?_,λno=>absurd ⟨by rw[vi];exact n1,by rw[vi];exact n6,yc2 _⟩ no⟩;have b0:=S1 _ _ hp;have aW:=au.same S1;ext;have X:upd H1 p (HO.ins a.A5 f ([("looks",V.ref g)]:Ι)) p=some (HO.ins a.A5 f ([("looks",V.ref g)]:Ι)):=ya;have BA:But p H1 (upd H1 p (HO.ins a.A5 f ([("looks",V.ref g)]:Ι))):=But.upd;have a3:g≠p:=(yb hp ai).symm;have I:upd H1 p (HO.ins a.A5 f ([("looks",V.ref g)]:Ι)) g=some (.lst (refs lk n)):=yi a3 av;generalize upd H1 p (HO.ins a.A5 f ([("looks",V.ref g)]:Ι))=HA at X BA I⊢;have a7:But p H HA:=(But.of S1).trans BA
  have aR:xi HA n lk kd tp ps:=λi hi=>by
   let⟨q,e,h1,h2,h3⟩:=au i hi;exists q,e,a7 _ _ h1 (xw h1 hp (by intro z;cases z)),a7 _ _ h2 (xw h2 hp (by intro z;cases z)),h3
  exists p,_,f,_,_,rfl,X,T.Ai,T.By,rfl,?_;exists g,rfl,⟨_,SqL.of I⟩,λu a0=>?_;refine jr (K:=K) (xs:=refs lk n) (λi G=>∃(bk dx dd:Λ)(f2:Α)(O2:Β),G u=some (.lst (refs bk i))/\ym7 K a HA G i bk dx lk dd kd ps f2 O2/\yx HA G)
   ⟨λF=>0,λF=>0,λF=>0,λF F=>none,λF F=>False,ya,ym7.zero,y6 a0⟩ (λi G F z=>?_) (λi y G hy hi z=>?_) (λG z=>?_)
  .obtain⟨_,_,_,_,_,_,_,SG⟩:=z;exact SqL.of (SG _ _ I)
  .obtain⟨bk,dx,dd,f2,O2,a6,gN,SG⟩:=z;let⟨rfl,aQ⟩:=Ð hy;ext;intro q dq nq aS aY;have SQ:yx G (upd (upd G dq (.own q)) q (.ins a.Ah dq [])):=λb o e=>by rw[yp (yb e nq),yp (yb e aS)];exact e
   exists q,dq,lk i,kd i,rfl,ya,λd G2 aN aO B2=>⟨rfl,?_⟩;have an:yx G G2:=λb o e=>B2 b o (SQ b o e) (yb e nq);refine ul (n:=(refs lk n).length) (an _ _ a6) (vw (by rw[vi];omega)) hi ?_;exists _,_,_,_,_,?_,gN.next ((aR i aQ).same SG).at' SG nq (SQ.free aN) an aO a6,λb o e=>yi (yb e a0) (an _ _ (SG b o e));rw[ya,zw,xr]
   congr 3
   exact zt λj r=>(xm r).symm
  let⟨bk,dx,dd,f2,O2,a6,gN,SG⟩:=z;rw[vi]at a6 gN;have aB:=SG _ _ X;ext;have aF:∀c o,HA c=some o->c≠p->upd G p (HO.ins a.A5 f ([("looks",V.ref g),("books",V.ref u)]:Ι)) c=some o:=λc o e J=>yi J (SG _ _ e);have ab:upd G p (HO.ins a.A5 f ([("looks",V.ref g),("books",V.ref u)]:Ι)) p=some (HO.ins a.A5 f ([("looks",V.ref g),("books",V.ref u)]:Ι)):=ya;have ad:u≠p:=(yb X a0).symm;have ah:upd G p (HO.ins a.A5 f ([("looks",V.ref g),("books",V.ref u)]:Ι)) u=some (.lst (refs bk n)):=yi ad a6;have BP:∀{fs:Ι},But p G (upd G p (HO.ins a.A5 f fs)):=But.upd
  have af:∀j,j<n->¬O2 j p:=λj r w=>by
   have e:=gN.2.2.1 j p r w;rw[X]at e;cases e
  have aA:∀{G':Hp},But p G G'->Bks K a G' n bk dx lk dd kd ps f2 O2 0:=λ{G'}B=>gN.1.frame (O2:=λc=>c=p) (λc o e J=>B c o e J) (λj c r w z=>af j r (z ▸ w)) (λj r z=>by
   have e:=gN.2.2.2 j r;rw[z,X]at e
   cases e) (λt xs e=>by
   rcases e with(e|⟨o,e⟩)|e
   .exact .inl (.inl (B _ _ e (λz=>by rw[z,aB]at e;cases e)))
   .exact .inl (.inr ⟨o,B _ _ e (λz=>by rw[z,aB]at e;cases e)⟩)
   .exact .inr e)
  have BB:But p G (upd G p (HO.ins a.A5 f ([("looks",V.ref g),("books",V.ref u)]:Ι))):=But.upd;generalize upd G p (HO.ins a.A5 f ([("looks",V.ref g),("books",V.ref u)]:Ι))=HB at aF ab ah BB⊢;exists p,_,f,_,_,rfl,ab,T.Ai,T.By,rfl,?_;refine uc (SqL.of (aF _ _ I a3)) ?_;rw[vi];ext;intro D mx a5 aM b1;have SM:yx HB (upd (upd HB mx (.own D)) D (.ins a.C2 mx [])):=λb o e=>by rw[yp (yb e a5),yp (yb e aM)];exact e
  exists D,mx,n,rfl,n1,n6,ya,λml HC aw MC BC=>⟨rfl,?_⟩;have SC:yx HB HC:=λb o e=>BC b o (SM b o e) (yb e a5);have aZ:=SC _ _ ab;have ax:=SC _ _ ah;have a8:HB ml=none:=SM.free aw;have N:D≠p:=(yb ab a5).symm;have Z:ml≠p:=(yb ab a8).symm;ext;exists by walk_at "len",λM Y=>?_
  have W:M≠p:=λz=>by rw[z,ya]at Y;cases Y
  have U:HC M=none:=by rw[yp W]at Y;exact Y
  have aL:upd (upd HC p (HO.ins a.A5 f ([("looks",V.ref g),("books",V.ref u),("mixer",V.ref D)]:Ι))) M (.lst []) p=some (HO.ins a.A5 f ([("looks",V.ref g),("books",V.ref u),("mixer",V.ref D)]:Ι)):=yi W.symm ya;have al:upd (upd HC p (HO.ins a.A5 f ([("looks",V.ref g),("books",V.ref u),("mixer",V.ref D)]:Ι))) M (.lst []) M=some (.lst []):=ya;have BD:But p HC (upd (upd HC p (HO.ins a.A5 f ([("looks",V.ref g),("books",V.ref u),("mixer",V.ref D)]:Ι))) M (.lst [])):=λb o e J=>yi (yb e U) (yi J e);generalize upd (upd HC p (HO.ins a.A5 f ([("looks",V.ref g),("books",V.ref u),("mixer",V.ref D)]:Ι))) M (.lst [])=HD at aL al BD⊢;ext;exists by walk_at "len",λL a1=>?_
  have ap:L≠p:=λz=>by rw[z,ya]at a1;cases a1
  have am:HD L=none:=by rw[yp ap,yp ap]at a1;exact a1
  have aH:upd (upd (upd HD p (HO.ins a.A5 f ([("looks",V.ref g),("books",V.ref u),("mixer",V.ref D),("ended",V.ref M)]:Ι))) p (HO.ins a.A5 f ([("looks",V.ref g),("books",V.ref u),("mixer",V.ref D),("ended",V.ref M),("place",V.int 0)]:Ι))) L (.lst []) p=some (HO.ins a.A5 f ([("looks",V.ref g),("books",V.ref u),("mixer",V.ref D),("ended",V.ref M),("place",V.int 0)]:Ι)):=yi ap.symm ya;have BE:But p HD (upd (upd (upd HD p (HO.ins a.A5 f ([("looks",V.ref g),("books",V.ref u),("mixer",V.ref D),("ended",V.ref M)]:Ι))) p (HO.ins a.A5 f ([("looks",V.ref g),("books",V.ref u),("mixer",V.ref D),("ended",V.ref M),("place",V.int 0)]:Ι))) L (.lst [])):=λb o e J=>yi (yb e am) (yi J (yi J e));generalize upd (upd (upd HD p (HO.ins a.A5 f ([("looks",V.ref g),("books",V.ref u),("mixer",V.ref D),("ended",V.ref M)]:Ι))) p (HO.ins a.A5 f ([("looks",V.ref g),("books",V.ref u),("mixer",V.ref D),("ended",V.ref M),("place",V.int 0)]:Ι))) L (.lst [])=HE at aH BE⊢;ext;have BF:But p HE (upd HE p (.ins a.A5 f (Ħ (.ref g) (.ref u) (.ref D) (.ref M) (.int 0) (.ref L)))):=But.upd;have a4:upd HE p (.ins a.A5 f (Ħ (.ref g) (.ref u) (.ref D) (.ref M) (.int 0) (.ref L))) p=some (.ins a.A5 f (Ħ (.ref g) (.ref u) (.ref D) (.ref M) (.int 0) (.ref L))):=ya;generalize upd HE p (.ins a.A5 f (Ħ (.ref g) (.ref u) (.ref D) (.ref M) (.int 0) (.ref L)))=HF at a4 BF⊢;have ae:But p HC HF:=(BD.trans BE).trans BF;have a2:But p G HF:=λb o e J=>ae b o (SC _ _ (BB b o e J)) J;have ay:=ae _ _ MC.o N;have aD:=ae _ _ MC.l Z;have ar:=ae _ _ ax ad;have as:=BF _ _ (BE _ _ al W) W;exists p,f,g,u,D,M,L,0,[],n,0,bk,dx,lk,dd,kd,ps,f2,O2,λi F=>kd0 (kd i),rfl,a4,ar,as,aA a2,gN.ag,n6,(),af,λpl sl f' O' H' aK aI ak B' aJ aP ac F' L'=>?_
  have aa:∀{c:xy},c≠p->HF c=none->G c=none:=λ{c}J h=>by
   cases e:G c with
   |none=>rfl
   |some o=>rw[a2 _ _ e J]at h;cases h
  have ao:∀j c,j<n->O2 j c->∃o,G c=some o:=λj c r w=>let ⟨o,ho,_⟩:=(gN.1.b j r).own c w;⟨o,ho⟩
  have nO:∀{c:xy}{o:HO},HF c=some o->vcq o=false->∀j,j<n->¬O2 j c:=λ{c o}e hi j r w=>by
   let⟨o',aG,aC⟩:=((aA a2).b j r).own c w;rw[e]at aG;cases aG;rw[hi]at aC;cases aC
  have az:∀j,j<n->¬O2 j D:=λj r w=>by
   let⟨o,ho⟩:=ao j D r w;have e:=BB _ _ ho N;rw[a5]at e;cases e
  have O:∀{c:xy},c≠p->HA c=none->H c=none:=λ{c}J h=>by
   cases e:H c with
   |none=>rfl
   |some o=>rw[a7 _ _ e J]at h;cases h
  have R:∀{c:xy},G c=none->HA c=none:=λ{c}h=>SG.free h
  have a9:∀{c:xy},c≠p->HB c=none->G c=none:=λ{c}J h=>by
   cases e:G c with
   |none=>rfl
   |some o=>rw[BB _ _ e J]at h;cases h
  have aE:∀{c:xy},HC c=none->HB c=none:=λ{c}h=>SC.free h;refine k ⟨f,g,u,D,mx,ml,M,pl,n,bk,dx,lk,dd,sl,kd,ps⟩ f' O' H' ⟨⟨aK,F' _ _ ar ad (nO ar rfl),F' _ _ as W (nO as rfl),⟨F' _ _ ay N az,F' _ _ aD Z (nO aD rfl)⟩,?_,aI,⟨B'.look,λi hi=>(B'.b i hi).up (),B'.dj,B'.nb⟩,aJ,aP,λj r w=>?_,λj r w=>?_,n1,n6⟩,rfl,rfl,rfl,rfl,λj c r w=>?_,λj r=>?_,?_,λc hc=>?_,F' _ _ (a2 _ _ (SG _ _ I) a3) a3 (nO (a2 _ _ (SG _ _ I) a3) rfl),yb (SC _ _ (BB _ _ (SG _ _ I) a3)) U,ai⟩ ?_
  .exact vbt n n1 n6
  .rcases ac j p r w with v|v
   .exact af j r v
   .rw[a4]at v;cases v
  .rcases ac j D r w with v|v
   .exact az j r v
   .rw[ay]at v;cases v
  .have aq:c≠p:=λz=>by
    rw[z]at w;rcases ac j p r w with v|v
    .exact af j r v
    .rw[a4]at v;cases v
   rcases ac j c r w with v|v
   .exact O aq (gN.2.2.1 j c r v)
   .exact O aq (R (aa aq v))
  .have aU:bk j≠p:=λz=>by
    have e:=gN.2.2.2 j r;rw[z,X]at e;cases e
   exact O aU (gN.2.2.2 j r)
  .exact O N (R (a9 N a5))
  .rcases hc with z|z|z|z
   .rw[z];exact O ad a0
   .rw[z];exact O W (R (a9 W (aE U)))
   .rw[z];exact O Z (R (a9 Z a8))
   .rw[z];have aj:pl≠p:=(yb a4 ak).symm;exact O aj (R (aa aj ak))
  .intro c o e J;refine F' c o (a2 _ _ (SG _ _ (a7 c o e J)) J) J λj r w=>?_;have e2:=gN.2.2.1 j c r w;rw[a7 c o e J]at e2;cases e2
theorem yc4:∀(ts:Ο)(q j:Nat)(s:Int),ts[q]?=some s->j<=8->(dec ts)[9*q+j]?=(1::b8 s)[j]?
 |[],_,_,_,h,_=>by simp at h
 |t::r,0,j,s,h,hj=>by
  have e:t=s:=by simpa using h
  subst e;show ((1::b8 t)++dec r)[9*0+j]?=_;rw[Nat.mul_zero,Nat.zero_add,dS (by rw[cB,yo3];omega)]
 |t::r,q+1,j,s,h,hj=>by
  have b:r[q]?=some s:=by simpa using h
  show ((1::b8 t)++dec r)[9*(q+1)+j]?=_;have a:(1::b8 t).length=9:=rfl;rw[dJ (by rw[a];omega),a,show 9*(q+1)+j-9=9*q+j by omega];exact yc4 r q j s b hj
def yrg(ts:Ο):(dec ts)[9*ts.length]?=some 0:=by rw[ym4,dJ (by rw[γ];exact cE _),γ,Nat.sub_self];rfl
def yde(ts:Ο)(k:Nat)(sg:Ο)(nd:Int):Prop:=∃q j:Nat,k=9*q+j/\j<=8/\sg=ts.take q/\((j=0/\nd=0/\q<=ts.length)\/(1<=j/\∃s,ts[q]?=some s/\nd=(256+s)/2^(9-j)))
def vee{s P c:Int}(h:0<=s/\s<=255)(hP:2<=P)(hc:P*(2*c)=256)(c1:1<=c/\c<=64):0<(256+s)/(2*P)/\2*((256+s)/(2*P))+s/P%2<256/\2*((256+s)/(2*P))+s/P%2=(256+s)/P:=by
 have a:(256+s)/P=s/P+2*c:=by rw[<- hc,Int.add_comm,Int.add_mul_ediv_left _ _ ()]
 have b:(256+s)/(2*P)=(s/P+2*c)/2:=by rw[<- a,Int.ediv_ediv_of_nonneg (show 0<=P by omega),Int.mul_comm]
 have d:=Int.ediv_nonneg h.1 (show 0<=P by omega);have e:=Int.ediv_lt_of_lt_mul (show 0<P by omega) (show s<128*P by omega);rw[a,b];generalize s/P=y at d e;clear hc a b hP h;omega
def nd9{s:Int}(h:0<=s/\s<=255)(h1:1<=j)(hj:j<=8):0<(256+s)/2^(9-j)/\(256+s)/2^(9-j)<256:=by
 have a:∀j,j<9->1<=j->(2:Int)<=2^(9-j)/\(2:Int)^(9-j)<=256:=∅
 let⟨b,c⟩:=a j (Nat.lt_succ_of_le hj) h1;generalize (2:Int)^(9-j)=K at b c;exists Int.le_ediv_of_mul_le () (),Int.ediv_lt_of_lt_mul () ()
def yde.zero(ts:Ο):yde ts 0 [] 0:=⟨0,0,rfl,(),by simp,.inl ⟨rfl,rfl,dg _⟩⟩
theorem yde.nd{k:Nat}{sg:Ο}{nd:Int}(h:yde ts k sg nd)(hs:Sgs ts):0<=nd/\nd<256:=by
 let⟨q,j,_,d,_,h⟩:=h;rcases h with⟨_,h,_⟩|⟨e,s,c,h⟩
 .omega
 .obtain⟨a,b⟩:=nd9 (hs s (cN c)) e d;rw[h];exists Int.le_of_lt a,b
def yde.len{k:Nat}{sg:Ο}{nd:Int}(h:yde ts k sg nd):sg.length<=ts.length:=by let⟨q,j,_,_,a,_⟩:=h;rw[a,cL];omega
def yde.next{k:Nat}{sg:Ο}{nd b:Int}(h:yde ts k sg nd)(hs:Sgs ts)(hb:(dec ts)[k]?=some b):
  (k<9*ts.length/\yde ts (k+1) (sgN sg nd b) (ndN nd b))\/(k=9*ts.length/\sgN sg nd b=[]/\ndN nd b=0):=by
 let⟨q,j,r,w,l,h⟩:=h;rcases h with⟨v,d,C⟩|⟨B,s,a,d⟩
 .subst v;rcases Nat.lt_or_ge q ts.length with m|m
  .refine .inl ⟨(),?_⟩;have e:=yc4 ts q 0 ts[q] (cA m) ();rw[<- r,hb]at e;have e:b=1:=by simpa using e
   have:=hs ts[q] (dm m);unfold sgN ndN;rw[if_neg (),if_pos e,if_neg (),if_pos e];exists q,1,(),(),l,.inr ⟨(),ts[q],cA m,?_⟩
   simp only[Nat.reduceSub,Int.reducePow];omega
  .have p:q=ts.length:=()
   have e:=yrg ts;rw[<- p,show 9*q=k by omega,hb]at e;have e:b=0:=by simpa using e
   refine .inr ⟨(),?_,?_⟩
   .unfold sgN;rw[if_neg (),if_neg ()]
   .unfold ndN;rw[if_neg (),if_neg ()];exact d
 .have o:=hs s (cN a);have m:q<ts.length:=(cF.mp a).1;have e:=yc4 ts q j s a w;rw[<- r,hb]at e
  have g:some b=(b8 s)[j-1]?:=by
   obtain⟨i,rfl⟩:∃i,j=i+1:=⟨j-1,()⟩;simpa using e
  refine .inl ⟨(),?_⟩;by_cases h8:j=8
  .subst h8;have g:b=s/1%2:=cJ g;simp only[Nat.reduceSub,Int.reducePow]at d;have D:2*nd+b=256+s:=()
   unfold sgN ndN;rw[if_pos (),if_pos (),if_pos (),if_pos ()];exists q+1,0,(),(),?_,.inl ⟨rfl,rfl,()⟩
   rw[l,show 2*nd+b-256=s by omega,zu a]
  .have n:0<nd/\2*nd+b<256/\2*nd+b=(256+s)/2^(9-(j+1)):=by
    have k:∀P c:Int,2<=P->P*(2*c)=256->1<=c/\c<=64->nd=(256+s)/(2*P)->b=s/P%2->0<nd/\2*nd+b<256/\2*nd+b=(256+s)/P:=λP c x y z e f=>by
     rw[e,f];exact vee o x y z
    clear r hb e l m hs;obtain rfl|rfl|rfl|rfl|rfl|rfl|rfl:j=1\/j=2\/j=3\/j=4\/j=5\/j=6\/j=7:=()
    .exact k 128 1 ∅ rfl ∅ d (cJ g)
    .exact k 64 2 ∅ rfl ∅ d (cJ g)
    .exact k 32 4 ∅ rfl ∅ d (cJ g)
    .exact k 16 8 ∅ rfl ∅ d (cJ g)
    .exact k 8 16 ∅ rfl ∅ d (cJ g)
    .exact k 4 32 ∅ rfl ∅ d (cJ g)
    .exact k 2 64 ∅ rfl ∅ d (cJ g)
   let⟨t,A,u⟩:=n;unfold sgN ndN;rw[if_pos t,if_neg (),if_pos t,if_neg ()];exists q,j+1,(),(),l,.inr ⟨(),s,a,u⟩
theorem jn.up{H:Hp}{p:xy}{A:FA}{X:FX}{f:Α}{m:Nat}(h:jn K a H p A X f O m)(hm:m<=m'):jn K a H p A X f O m' :=
 ⟨h.me,h.bl,h.el,h.mx,h.wok,h.pl,⟨h.B.look,λi c=>(h.B.b i c).up hm,h.B.dj,h.B.nb⟩,h.ag,h.at',h.np,h.nm,h.n1,h.n6⟩
structure Lw(K:z0)(a:Ads)(H:Hp)(p:xy)(A:FA)(X:FX)(f:Α)(O:Β)(m:Nat)(bk dx dd:Λ)(f2:Α)(O2:Β)(mp mx ml:xy)(ws:Ο):Prop where
 ft:jn K a H p A X f O m
 bs:Bks K a H A.n bk dx A.lk dd A.kd A.ps f2 O2 m
 mx:ykr a mp mx ml ws H
 dj:∀i j c,i<A.n->j<A.n->O i c->¬O2 j c
 n1:∀i j,i<A.n->j<A.n->¬O i (bk j)
 n2:∀i j,i<A.n->j<A.n->¬O2 i (A.bk j)
 n3:∀i,i<A.n->¬O2 i p/\¬O2 i A.mp/\¬O2 i mp/\¬O i mp
 n4:mp≠A.mp
 n5:ml≠A.el
section
variable{H H':Hp}{p:xy}{A:FA}{X:FX}{f:Α}{m:Nat}{bk dx dd:Λ}{f2:Α}{mp mx ml:xy}{ws:Ο}
def u9{C d e:xy}{fs gs:Ι}(hp:H p=some (.ins C d fs))(hq:H q=some (.ins D e gs))(hl:fs.length≠gs.length):p≠q:=λz=>by
 rw[z,hq]at hp;injection hp with hp;injection hp with _ _ e;exact hl (congrArg List.length e).symm
end
def KpA(B G:Hp)(e0 e:xy):Prop:=∀c o,B c=some o->vcq o=false->c≠e0->c≠e/\G c=some o
theorem KpA.lst{B G:Hp}{e0 e c:xy}{xs:Τ}(h:KpA B G e0 e)(hc:B c=some (.lst xs))(ne:c≠e0):G c=some (.lst xs):=(h c _ hc rfl ne).2
def TxE(ts:Ο)(k:Nat)(sg:Ο)(nd:Int):Prop:=(k<=9*ts.length/\yde ts k sg nd)\/(k=9*ts.length+1/\sg=[]/\nd=0)
theorem TxE.next{k:Nat}{sg:Ο}{nd b:Int}(h:TxE ts k sg nd)(hs:Sgs ts)(hb:(dec ts)[k]?=some b):yde ts k sg nd/\TxE ts (k+1) (sgN sg nd b) (ndN nd b):=by
 rcases h with⟨c,h⟩|⟨c,_⟩
 .exists h,?_;rcases h.next hs hb with⟨e,a⟩|⟨e,a,d⟩
  .exact .inl ⟨(),a⟩
  .exact .inr ⟨(),a,d⟩
 .rw[c,dv (by rw[ut];exact cE _)]at hb;cases hb
#synth ywr ["self"] yy9
inductive ycc(K:z0)(a:Ads)(vs:Τ)(H:Hp)(Q:VK)(E':XK):Prop
 |mk(p:xy)(A:FA)(X:FX)(f:Α)(O:Β)(m:Nat)(_:vs=[.ref p])(_:jn K a H p A X f O m)(_:∀r H',H r=none->H' r=some (.lst ((X.cs A).map V.int))->yx H H'->Q (.ref r) H')
def yph:vx P w K mg Γ CX0 2 a.Kd a.N3 ["self"] (ycc K a):=by
 exists T.Ep.F.ok,ywr,o;let⟨p,d,X,f,O,m,rfl,h,k⟩:=h;have R:=h.me;have I:=h.n6;exists 1,0,yd (yt (wy (js:=[]) (ys:=[]) rfl (xg (yo (pv 0) rfl)) (λC L r J=>(ġ (wg (pv 0) T.Aw T.Hr.m (yuw T) o.m T.Hr.B .nil wo) (ġ (wg (pv 0) T.Bj T.Ht.m (ytw T) o.m T.Ht.B .nil wo) (wg (pv 0) T.Bk T.Hv.m (yus T) o.m T.Hv.B .nil wo)))) rfl rfl (hyc:=y7) (hrel:=y7)));exists d.pl,rfl,⟨_,SqL.of h.pl⟩,λD l=>?_;refine jr (K:=K) (xs:=refs d.sl d.n) (Mp H D (λi=>V.int (X.g i (X.key d i)).due)) (Mp.zero l) (λZ Z Z q=>q.1.seq (SqL.of h.pl)) (λi y r G z q=>?_) (λr q=>?_)
 .obtain⟨c,b⟩:=q;let⟨rfl,e⟩:=Ð G;let⟨_,⟨M,v⟩,u,_⟩:=h.slot e;refine yhc (λN h=>yy6 rfl h) (c _ _ v) u ?_;exact Mp.doneR l (vw (by rw[vi];omega)) z c b rfl
 .obtain⟨c,b⟩:=q;rw[vi]at b;refine k D _ l ?_ c;rw[b];unfold FX.cs;rw[dD];rfl
#synth ytr ["self"] vb2
inductive yfk(K:z0)(a:Ads)(vs:Τ)(H:Hp)(Q:VK)(E':XK):Prop
 |mk(p:xy)(A:FA)(X:FX)(f:Α)(O:Β)(m:Nat)(_:vs=[.ref p])(_:jn K a H p A X f O m)(_:∀H',yx H H'->Q (.int (ypv X.ws (X.cs A))) H')
def yn7:vx P w K mg Γ CX0 3 a.Ke a.N4 ["self"] (yfk K a):=by exists T.Er.F.ok,ytr,e;let⟨p,b,X,f,O,m,rfl,h,k⟩:=h;have u:=h.me;have j:=h.mx.o;exists 1,0,yd (yt (xo (yo (pv 0) rfl) T.F3 T.I4.m (yy4 T) e.m T.I4.B .nil wo (pa1 (wg (pv 0) T.Ai T.Ep.m (yph T) e.m T.Ep.B .nil wo))));exists p,b,X,f,O,m,rfl,h,λr x t d g=>?_;ext;exists b.mp,b.mx,b.ml,r,X.ws,X.cs b,b.n,rfl,h.n1,h.n6,h.wok,h.cok,h.mx.same g,SqL.of d,λv q=>k _ (g.trans q)
#synth ywl ["self","bit"] yzn
inductive ysd(a:Ads)(vs:Τ)(H:Hp)(Q:VK)(E':XK):Prop
 |mk(p dp ll bl mp el pl:xy)(nd b:Int)(sg:Ο)(_:vs=[.ref p,.int b])(_:H p=some (.ins a.A5 dp (Ħ (.ref ll) (.ref bl) (.ref mp) (.ref el) (.int nd) (.ref pl))))(_:H el=some (.lst (sg.map V.int)))(_:sg.length<=100000)(_:0<nd)(_:∀H',H' p=some (.ins a.A5 dp (Ħ (.ref ll) (.ref bl) (.ref mp) (.ref el) (.int (ndN nd b)) (.ref pl)))->H' el=some (.lst ((sgN sg nd b).map V.int))->(∀c o,H c=some o->c≠p->c≠el->H' c=some o)->Q .non H')
def ywy:vx P w K mg Γ CX0 1 a.Ki a.N7 ["self","bit"] (ysd a):=by
 exists T.I7.F.ok,ywl,N;let⟨p,q,r,l,n,j,m,i,b,B,rfl,J,C,O,D,k⟩:=h;exists _,(yg (ve (pv 0) (yn vv (yn wz yc (yo (pv 0) rfl)) (pv 1)) rfl) (yd (wa (yw vbc (yo (pv 0) rfl) (vq rfl T.Cp) (y9 _)) (yg (yy (jg PySem.F.plainAttrs_list PySem.F.slot_list_append PySem.F.type_list_append w9 (yo (pv 0) rfl) (pa1 (yn ub (yo (pv 0) rfl) (vq rfl T.Cp))))) (yd (ve (pv 0) yc rfl))) y8))),?_;exists 2,0;unfold ndN sgN at k;rw[if_pos D,if_pos D]at k;have g:j≠p:=xw C J (by intro z;cases z);ext;have f:upd H p (.ins a.A5 q (Ħ (.ref r) (.ref l) (.ref n) (.ref j) (.int (2*i+b)) (.ref m))) p=some (.ins a.A5 q (Ħ (.ref r) (.ref l) (.ref n) (.ref j) (.int (2*i+b)) (.ref m))):=ya;have d:=yi (o':=HO.ins a.A5 q (Ħ (.ref r) (.ref l) (.ref n) (.ref j) (.int (2*i+b)) (.ref m))) g C;have v:But p H (upd H p (.ins a.A5 q (Ħ (.ref r) (.ref l) (.ref n) (.ref j) (.int (2*i+b)) (.ref m)))):=But.upd;generalize upd H p (.ins a.A5 q (Ħ (.ref r) (.ref l) (.ref n) (.ref j) (.int (2*i+b)) (.ref m)))=M at f d v⊢;ext;refine xz (λt=>?_) (λt=>?_)
 .rw[if_pos t,if_pos t]at k;ext;refine jp d ?_;ext;refine uf d (vw (by rw[bz];omega)) ?_;have L:=yi (o':=HO.lst (List.map V.int B++[V.int (2*i+b-256)])) (Ne.symm g) f;ext;refine k _ ya ?_ λc o e u y=>yi u (yi y (v _ _ e u));rw[yp g,ya,cM];rfl
 .rw[if_neg t,if_neg t]at k;ext;exact k _ f d λc o e u y=>v _ _ e u
#synth ywe ["self","bit"] vaw
inductive ymg(a:Ads)(vs:Τ)(H:Hp)(Q:VK)(E':XK):Prop
 |mk(p dp ll bl mp el pl:xy)(nd b:Int)(sg:Ο)(_:vs=[.ref p,.int b])(_:H p=some (.ins a.A5 dp (Ħ (.ref ll) (.ref bl) (.ref mp) (.ref el) (.int nd) (.ref pl))))(_:H el=some (.lst (sg.map V.int)))(_:sg.length<=100000)(_:0<=nd)(_:∀(el':xy)H',(el'=el\/H el'=none)->H' p=some (.ins a.A5 dp (Ħ (.ref ll) (.ref bl) (.ref mp) (.ref el') (.int (ndN nd b)) (.ref pl)))->H' el'=some (.lst ((sgN sg nd b).map V.int))->(∀c o,H c=some o->c≠p->c≠el->H' c=some o)->(∃o,H' el=some o)->Q .non H')
def yx4:vx P w K mg Γ CX0 2 a.Kh a.N6 ["self","bit"] (ymg a):=by
 exists T.I6.F.ok,ywe,S;let⟨p,D,I,u,C,g,x,v,b,y,rfl,j,f,U,W,k⟩:=h;exists _,(yd (wa (yw yki (yo (pv 0) rfl) yc (y9 _)) (yd (yy (xo (pv 0) T.Ai T.I7.m (ywy T) S.m T.I7.B .nil wo (pa1 (pv 1))))) (yd (wa (yw xx (pv 1) yc (y9 _)) (yd (ve (pv 0) yc rfl)) (yd (ve (pv 0) (vd u8) rfl)))))),?_;exists 2,0;have d:g≠p:=xw f j (by intro z;cases z);ext;refine xz (λl=>?_) (λl=>?_)
 .ext;exists p,D,I,u,C,g,x,v,b,y,rfl,j,f,U,l,λN M G O=>k g N (.inl rfl) M G O ⟨_,G⟩
 .unfold ndN sgN at k;rw[if_neg l,if_neg l]at k;ext;refine xz (λi=>?_) (λi=>?_)
  .rw[if_pos i,if_pos i]at k;ext;exact k g _ (.inl rfl) ya (yi d f) (λc o e n Z=>yi n e) ⟨_,yi d f⟩
  .rw[if_neg i,if_neg i]at k;ext;exists by walk_at "len",λr hr0=>?_
   exists hr0,H1,S1,e1;have L:=S1 _ _ j;ext;have q:r≠p:=λz=>by rw[z,j]at hr0;cases hr0
   exact k r _ (.inr hr0) ya (yi q e1) (λc o e n Z=>yi n (S1 _ _ e)) ⟨_,yi d (S1 _ _ f)⟩
noncomputable abbrev FA.re(A:FA)(ml el pl:xy)(sl:Λ):FA:={A with ml:=ml,el:=el,pl:=pl,sl:=sl}
noncomputable def FX.run(A:FA)(X:FX):qi Int->FX
 |[]=>X
 |b::r=>FX.run A (X.see A b) r
theorem ç(A:FA):∀(bs cs:Ο)(X:FX),X.run A (bs++cs)=(X.run A bs).run A cs
 |[],_,_=>rfl
 |b::r,cs,X=>ç A r cs (X.see A b)
def yk8(A:FA)(bs:Ο)(b:Int)(X:FX):X.run A (bs++[b])=(X.run A bs).see A b:=ç A bs [b] X
noncomputable def fa0(n:Nat)(ps:Κ):FA:={ dp:=0,ll:=0,bl:=0,mp:=0,mx:=0,ml:=0,el:=0,pl:=0,n:=n,bk:=λZ=>0,dx:=λZ=>0,lk:=λZ=>0,dd:=λZ=>0,sl:=λZ=>0,kd:=λZ=>0,ps:=ps}
theorem ycs(A:FA):∀(bs:Ο)(X:FX),X.run A bs=X.run (fa0 A.n A.ps) bs
 |[],_=>rfl
 |b::r,X=>ycs A r (X.see A b)
def vcl(H:Hp)(A:FA):Prop:=H A.ll=some (.lst (refs A.lk A.n))/\A.ll≠A.el/\∃tp,xi H A.n A.lk A.kd tp A.ps
theorem vcl.same{H H':Hp}{A:FA}(h:vcl H A)(S:yx H H'):vcl H' A:=⟨S _ _ h.1,h.2.1,let ⟨tp,r⟩:=h.2.2;⟨tp,r.same S⟩⟩
structure Go(W:Μ)(H H':Hp)(W':Μ):Prop where
 fr:∀c o,H c=some o->¬W c->H' c=some o
 nw:∀c,W' c->W c\/H c=none
 lv:∀c o,H c=some o->∃o',H' c=some o'
def Go.free{W:Μ}{H H':Hp}(h:Go W H H' W'){c:xy}(e:H' c=none):H c=none:=by
 cases z:H c with
 |none=>rfl
 |some o =>
  let⟨a,w⟩:=h.lv c o z;rw[e]at w;cases w
def Go.refl{W:Μ}{H:Hp}:Go W H H W:=⟨λZ Z e Z=>e,λZ w=>.inl w,λZ o e=>⟨o,e⟩⟩
def Go.trans{W W1:Μ}{H H1 H2:Hp}(h:Go W H H1 W1)(k:Go W1 H1 H2 W2):Go W H H2 W2:=by
 exists λc o e a=>k.fr c o (h.fr c o e a) λw=>?_,λc w=>?_,λc o e=>?_
 .rcases h.nw c w with v|v
  .exact a v
  .rw[e]at v;cases v
 .rcases k.nw c w with v|v
  .exact h.nw c v
  .exact .inr (h.free v)
 .obtain⟨b,d⟩:=h.lv c o e;exact k.lv c b d
def Go.same{W:Μ}{H H1 H2:Hp}(h:Go W H H1 W')(S:yx H1 H2):Go W H H2 W':=⟨λc o e a=>S _ _ (h.fr c o e a),h.nw,λc o e=>let ⟨o',w⟩:=h.lv c o e;⟨o',S _ _ w⟩⟩
def Go.ahead{W:Μ}{H H1 H2:Hp}(S:yx H H1)(h:Go W H1 H2 W'):Go W H H2 W':=⟨λc o e=>h.fr c o (S _ _ e),λc w=>(h.nw c w).imp id S.free,λc o e=>h.lv c o (S _ _ e)⟩
def Go.apart{W:Μ}{H H':Hp}(h:Go W H H' W')(hU:∀c,U c->∃o,H c=some o)(dj:∀c,U c->¬W c):∀c,U c->¬W' c:=λc u w=>by
 rcases h.nw c w with v|v
 .exact dj c u v
 .obtain⟨o,e⟩:=hU c u;rw[v]at e;cases e
section
variable{H H':Hp}{p:xy}{n:Nat}{kd:Ν}{ps:Κ}{X:FX}{M:Nat}{W:Μ}
def yqo{g:Λ}(h:1<=n):(refs g n)[0]?=some (.ref (g 0)):=by unfold refs;rw[cK,dU h];rfl
end
#synth yox ["self","bit","slot"] ["self","bit"] va0
inductive yq5(K:z0)(a:Ads)(vs:Τ)(H:Hp)(Q:VK)(E':XK):Prop
 | mk(p:xy)(A:FA)(X:FX)(f:Α)(O:Β)(m:Nat)(b:Int)(_:vs=[.ref p,.int b])(_:jn K a H p A X f O m)(_:0<=b)(_:b<=1)(_:m+20<1000000)(_:0<=X.nd)(_:X.sg.length<=100000)(_:∀(ml el pl:xy)(sl:Λ)(f':Α)(O':Β)(H':Hp),(el=A.el\/H el=none)->jn K a H' p {A with ml:=ml,el:=el,pl:=pl,sl:=sl} (X.see A b) f' O' (m+A.n)->(∀j c,j<A.n->O' j c->O j c\/H c=none) ->
  (∀c o,H c=some o->c≠p->c≠A.mp->c≠A.el->(∀j,j<A.n->¬O j c)->H' c=some o)->(∀c o,H c=some o->∃o',H' c=some o')->H ml=none->Q .non H')
def yn0:vx P w K mg Γ CX0 6 a.Kg a.N5 ["self","bit"] (yq5 K a):=by
 exists T.Es.F.ok,yox,hr;let⟨p,d,X,f,O,m,b,rfl,h,b0,b1,hm,ap,az,k⟩:=h;have hp:=h.me;have ac:=h.mx.o;have n6:=h.n6;have I:=yxu b0 b1;refine yf (yy (ur (ģ T) hr.m T.Cn wt (pa1 (pv 1)))) ?_;refine yf (yy (vj (yo (pv 0) rfl) T.F3 T.I5.m (yxc T) hr.m T.I5.B .nil wt (pac (wg (pv 0) T.Ai T.Ep.m (yph T) hr.m T.Ep.B .nil wo) (pa1 (pv 1))))) ?_;refine yf (jx PassesOwn.never rfl (xg (yo (pv 0) rfl)) (wj (i:=2) yox.nd rfl (Or.inl rfl)) (yd (yy (ġ (vj (pv 2) T.Aw T.Hs.m (yxn T) hr.m T.Hs.B .nil wt (pa1 (pv 1))) (ġ (vj (pv 2) T.Bj T.Hu.m (yx5 T) hr.m T.Hu.B .nil wt (pa1 (pv 1))) (vj (pv 2) T.Bk T.Hw.m (yxr T) hr.m T.Hw.B .nil wt (pa1 (pv 1)))))))) ?_;refine yf (yy (xo (pv 0) T.Ai T.I6.m (yx4 T) hr.m T.I6.B .nil wo (pa1 (pv 1)))) ?_;exists 2,1,yd (yy (wg (pv 0) T.Ai T.Eo.m (yo2 T) hr.m T.Eo.B .nil wo));exists .int b,_,rfl,.int b,λF=>?_,λz=>(by rw[I]at z;cases z);ext;exists p,d,X,f,O,m,rfl,h,λr H1 aK au S1=>?_;have L:=S1 _ _ ac;ext;exists d.mp,d.mx,d.ml,r,X.ws,X.cs d,d.n,.int b,_,rfl,h.n1,n6,h.wok,h.cok,h.mx.same S1,SqL.of au,.int b,λb' e F F ml H2 a5 M2 Y=>?_,λz=>(by rw[I]at z;cases z);cases e;have M:=h.same S1
 have ab:p≠d.mp:=λz=>by
  have:=h.me;rw[z,ac]at this;injection this with this;injection this with _ _ e;exact absurd (congrArg List.length e) (show ¬(1=6) by decide)
 have ay:=Y _ _ M.me ab;have a8:∀{l:xy}{xs:Τ},H1 l=some (.lst xs)->l≠d.mp:=λ{l xs}e z=>by rw[z,L]at e;cases e
 have a7:=Y _ _ M.bl (a8 M.bl);have a6:=Y _ _ M.el (a8 M.el);have W:=Y _ _ M.pl (a8 M.pl)
 have Z:=M.B.frame (O2:=λc=>c=d.mp) (λc o e ne=>Y c o e ne) (λj c q w z=>h.nm j q (z ▸ w)) (λj q z=>by
  have:=(M.B.b j q).me;rw[z,L]at this;injection this with this;injection this with _ _ e
  exact absurd (congrArg List.length e) (show ¬(1=2) by decide)) (λt xs e=>by
  rcases e with(e|⟨o,e⟩)|e
  .exact .inl (.inl (Y _ _ e (λz=>by rw[z,L]at e;cases e)))
  .exact .inl (.inr ⟨o,Y _ _ e (λz=>by rw[z,L]at e;cases e)⟩)
  .exact .inr e)
 have am:∀j,j<d.n->(∃s,f j (X.key d j)=some s)/\AtS H2 (d.dd j) (X.key d j) (d.sl j):=λj q=>⟨(M.at' j q).1,(M.at' j q).2.told (M.B.b j q) (λz=>h.nm j q (by rw[<- z];exact(M.B.b j q).dO)) Y⟩;ext;refine⟨d.pl,rfl,⟨_,SqL.of W⟩,zh (K:=K) (a:=d.pl) (xs:=refs d.sl d.n) (λi σ2 G=>∃(v:qj V)(f':Α),σ2=[some (.ref p),some (.int b),v]/\Bks K a G d.n d.bk d.dx d.lk d.dd d.kd d.ps f' O m/\
   (∀j,j<d.n->∀k,(f' j k).getD (kd0 (d.kd j))=if j<i/\k=X.key d j then (X.g j k).see b else X.g j k)/\(∀j,j<d.n->(∃s,f' j (X.key d j)=some s)/\AtS G (d.dd j) (X.key d j) (d.sl j))/\(∀c o,H2 c=some o->(∀j,j<d.n->¬O j c)->G c=some o))
  ⟨_,f,rfl,Z,λj q N=>by rw[if_neg (λz=>absurd z.1 (du j))];exact h.ag j q N,am,λc o e F=>e⟩ (by rintro i σ2 G _ ⟨_,_,_,_,_,_,w⟩;exact SqL.of (w _ _ W (Z.nlst W))) ?_ ?_⟩
 .rintro i y σ2 G hy ⟨v,f',rfl,S,gA,gS,gF⟩;let⟨rfl,D⟩:=Ð hy;let⟨⟨s',aa⟩,a9⟩:=gS i D
  have es:s'=X.g i (X.key d i):=by
   have:=gA i D (X.key d i);rw[aa,if_neg (λz=>absurd z.1 (ei i))]at this;exact this
  let⟨dq,hq,ok,aH,al⟩:=(S.b i D).slot aa a9;ext;refine yrx (x:=.int b) (λQ' h=>?_) (λQ' h=>?_) hq ok (.int b) (λb' e F F G3 h3 B3=>?_) (λz=>by rw[I]at z;cases z) (λz=>by rw[I]at z;cases z) (λz=>by rw[I]at z;cases z)
  .ext;exact h
  .ext;exact h
  cases e;have aw:=(S.b i D).told aa a9 b0 b1 h3 B3;have BO:yna (O i) G G3:=λc o e no=>B3 _ _ e λz=>no (by rw[z];exact al);have M3:=S.move D (cE m) aw (λc w=>.inl w) BO
  have eO:(λj=>if j=i then O i else O j)=O:=by
   funext j
   by_cases z:j=i
   .rw[if_pos z,z]
   .rw[if_neg z]
  rw[eO]at M3
  have aC:d.dd i≠d.sl i:=λz=>by
   let⟨aI,aJ,w1,_⟩:=(S.b i D).tb;let⟨C,fs,eo⟩:=Œ a dq s';rw[z,hq,eo]at w1;cases w1
  ext;exists _,_,rfl,M3,λj q N=>?_,λj q=>?_,λc o e no=>?_
  .try dsimp only
   by_cases z:j=i
   .subst z;rw[if_pos rfl];unfold yac;by_cases w:N=X.key d j
    .rw[if_pos w,if_pos ⟨eF j,w⟩,w,<- es];rfl
    .rw[if_neg w,if_neg (λz=>w z.2)];have:=gA j q N;rw[if_neg (λz=>w z.2)]at this;exact this
   .rw[if_neg z,gA j q N];have:(j<i/\N=X.key d j)↔(j<i+1/\N=X.key d j):=by constructor<;>(rintro ⟨u,v⟩;exact⟨(),v⟩)
    by_cases w:j<i/\N=X.key d j
    .rw[if_pos w,if_pos (this.mp w)]
    .rw[if_neg w,if_neg (λz=>w (this.mpr z))]
  .try dsimp only
   by_cases z:j=i
   .subst z;rw[if_pos rfl];exists⟨s'.see b,?_⟩,a9.told (S.b j D) aC B3;unfold yac;rw[if_pos rfl]
   .rw[if_neg z];exists(gS j q).1,(gS j q).2.move S q D z BO
  .exact BO _ _ (gF c o e no) (no i D)
 .rintro σ2 G ⟨v,f',rfl,S,gA,gS,gF⟩;rw[vi]at gA;have gp:=gF _ _ ay h.np;have R:=gF _ _ a6 (Z.nlst a6);have ah:=gF _ _ a7 (Z.nlst a7);have U:=gF _ _ M2.o h.nm;have ak:=gF _ _ M2.l (Z.nlst M2.l);ext;exists p,d.dp,d.ll,d.bl,d.mp,d.el,d.pl,X.nd,b,X.sg,rfl,gp,R,az,ap,λel H4 af ad a3 F4 L4=>?_;have ai:∀{l:xy}{xs:Τ},G l=some (.lst xs)->l≠p:=λ{l xs}e z=>by rw[z,gp]at e;cases e
  have aA:∀j,j<d.n->¬O j p:=h.np;have aj:=S.nlst R
  have a2:=S.frame (O2:=λc=>c=p\/c=d.el) (λc o e ne=>F4 c o e (λz=>ne (.inl z)) (λz=>ne (.inr z))) (λj c q w z=>by
   rcases z with z|z
   .exact aA j q (z ▸ w)
   .exact aj j q (z ▸ w)) (λj q z=>by
   have:=(S.b j q).me;rcases z with z|z
   .rw[z,gp]at this;injection this with this;injection this with _ _ e;exact absurd (congrArg List.length e) (show ¬(6=2) by decide)
   .rw[z,R]at this
    cases this) (λt xs e=>by
   rcases e with(e|⟨o,e⟩)|e
   .exact .inl (.inl (F4 _ _ e (λz=>by rw[z,gp]at e;cases e) (λz=>by rw[z,R]at e;cases e)))
   .exact .inl (.inr ⟨o,F4 _ _ e (λz=>by rw[z,gp]at e;cases e) (λz=>by rw[z,R]at e;cases e)⟩)
   .exact .inr e)
  have aq:d.bl≠d.el:=λz=>by
   have e:=h.bl;rw[z,h.el]at e;injection e with e;injection e with e;have e0:=congrArg (λl:Τ=>l[0]?) e
   have r0:(refs d.bk d.n)[0]?=some (.ref (d.bk 0)):=by
    unfold refs;rw[cK,dU h.n1];rfl
   try dsimp only at e0
   rw[r0,cK]at e0
   cases hs:X.sg[0]? with
   |none=>rw[hs]at e0;cases e0
   |some c=>rw[hs]at e0;cases e0
  have ar:ml≠d.el:=(yb M.el a5).symm;have a4:=F4 _ _ ah (ai ah) aq;have aB:=F4 _ _ U (Ne.symm ab) (λz=>by rw[z,R]at U;cases U);have ae:=F4 _ _ ak (ai ak) ar
  have a0:∀c o,H c=some o->∃o',H4 c=some o':=λc o e=>by
   by_cases zp:c=p
   .exists _,zp ▸ ad
   by_cases ze:c=d.el
   .rw[ze];exact L4
   have gc:∃o',G c=some o':=by
    by_cases zm:c=d.mp
    .exists _,zm ▸ U
    by_cases zo:∀j,j<d.n->¬O j c
    .exists o,gF _ _ (Y _ _ (S1 _ _ e) zm) zo
    .have:∃j,j<d.n/\O j c:=Classical.byContradiction λw=>zo λj q w'=>w ⟨j,q,w'⟩;let⟨j,q,w⟩:=this;let⟨o',J,_⟩:=(S.b j q).own c w;exists o',J
   let⟨o',J⟩:=gc;exists o',F4 _ _ J zp ze
  have aD:ync d.n d.kd f' (X.see d b).g:=λj q N=>by
   rw[gA j q N];show _=if N=X.key d j then (X.g j N).see b else X.g j N;by_cases w:N=X.key d j
   .rw[if_pos ⟨q,w⟩,if_pos w]
   .rw[if_neg (λz=>w z.2),if_neg w]
  ext;exists p,d.dp,d.ll,d.bl,d.mp,el,d.pl,ndN X.nd b,sgN X.sg X.nd b,d.n,m,d.bk,d.dx,d.lk,d.dd,d.kd,d.ps,f',O,(X.see d b).g,rfl,ad,a4,a3,a2,aD,n6,(),h.np,λpl sl f2 O2 H5 ax an aF B5 as av ao F5 L5=>?_
  have a1:∀{l:xy}{xs:Τ},H4 l=some (.lst xs)->l≠p:=λ{l xs}e z=>by rw[z,ad]at e;cases e
  have n2:∀j c,j<d.n->O2 j c->O j c\/H c=none:=λj c q w=>by
   rcases ao j c q w with v|v
   .exact .inl v
   .refine .inr ?_
    cases e:H c with
    |none=>rfl
    |some o =>
     let⟨o',J⟩:=a0 c o e;rw[J]at v;cases v
  refine k ml el pl sl f2 O2 H5 ?_ ⟨ax,F5 _ _ a4 (a1 a4) (a2.nlst a4),F5 _ _ a3 (a1 a3) (a2.nlst a3),⟨F5 _ _ aB (Ne.symm ab) h.nm,F5 _ _ ae (a1 ae) (a2.nlst ae)⟩,yn1 h.n1 n6 h.wok h.cok,an,B5,as,av,λj q w=>?_,λj q w=>?_,h.n1,n6⟩ n2 (λc o e c1 c2 c3 no=>F5 _ _ (F4 _ _ (gF _ _ (Y _ _ (S1 _ _ e) c2) no) c1 c3) c1 no) (λc o e=>let ⟨o',w⟩:=a0 c o e;L5 c o' w) (S1.free a5)
  .rcases af with z|z
   .exact .inl z
   .refine .inr ?_
    cases e:H el with
    |none=>rfl
    |some o =>
     exfalso;by_cases zp:el=p
     .rw[zp,gp]at z;cases z
     by_cases zm:el=d.mp
     .rw[zm,U]at z;cases z
     by_cases zo:∀j,j<d.n->¬O j el
     .rw[gF _ _ (Y _ _ (S1 _ _ e) zm) zo]at z;cases z
     .have:∃j,j<d.n/\O j el:=Classical.byContradiction λw=>zo λj q w'=>w ⟨j,q,w'⟩;let⟨j,q,w⟩:=this;let⟨o',J,_⟩:=(S.b j q).own el w;rw[J]at z;cases z
  .rcases n2 j p q w with v|v
   .exact h.np j q v
   .rw[hp]at v;cases v
  .rcases n2 j d.mp q w with v|v
   .exact h.nm j q v
   .rw[ac]at v;cases v
def Î{A:FA}{X:FX}{bs:Ο}{k:Nat}{b:Int}(h:bs[k]?=some b):X.run A (bs.take (k+1))=(X.run A (bs.take k)).see A b:=by rw[zu h,yk8]
structure FGo(p:xy)(A:FA)(O:Β)(H H':Hp)(el:xy)(O':Β):Prop where
 he:el=A.el\/H el=none
 hO:∀j c,j<A.n->O' j c->O j c\/H c=none
 fr:∀c o,H c=some o->c≠p->c≠A.mp->c≠A.el->(∀j,j<A.n->¬O j c)->H' c=some o
 live:∀c o,H c=some o->∃o',H' c=some o'
def FGo.free{p:xy}{A:FA}{H H':Hp}{el c:xy}(h:FGo p A O H H' el O')(hc:H' c=none):H c=none:=by
 cases e:H c with
 |none=>rfl
 |some o =>
  let⟨a,w⟩:=h.live c o e;rw[hc]at w;cases w
def FGo.refl{p:xy}{A:FA}{H:Hp}:FGo p A O H H A.el O:=⟨.inl rfl,λZ Z Z w=>.inl w,λZ Z e Z Z Z Z=>e,λZ o e=>⟨o,e⟩⟩
theorem FGo.trans{p:xy}{A:FA}{O1:Β}{H H1 H2:Hp}{ml el pl el2:xy}{sl:Λ}(h:FGo p A O H H1 el O1)(k:FGo p (A.re ml el pl sl) O1 H1 H2 el2 O2):FGo p A O H H2 el2 O2:=by
 exists ?_,λj c a w=>?_,λc o e b f d g=>?_,λc o e=>?_
 .rcases k.he with z|z
  .rcases h.he with y|y
   .exact .inl (z.trans y)
   .exact .inr (by rw[show el2=el from z];exact y)
  .exact .inr (h.free z)
 .rcases k.hO j c a w with v|v
  .exact h.hO j c a v
  .exact .inr (h.free v)
 .refine k.fr c o (h.fr c o e b f d g) b f (λz=>?_) (λj a w=>?_)
  .rcases h.he with y|y
   .exact d (z.trans y)
   .rw[show c=el from z,y]at e;cases e
  .rcases h.hO j c a w with v|v
   .exact g j a v
   .rw[e]at v;cases v
 .obtain⟨i,l⟩:=h.live c o e;exact k.live c i l
def FGo.same{p:xy}{A:FA}{H H1 H2:Hp}{el:xy}(h:FGo p A O H H1 el O')(S:yx H1 H2):FGo p A O H H2 el O' :=
 ⟨h.he,h.hO,λc o e a d f b=>S _ _ (h.fr c o e a d f b),λc o e=>let ⟨o',w⟩:=h.live c o e;⟨o',S _ _ w⟩⟩
def FGo.kpa{p:xy}{A:FA}{X:FX}{f:Α}{m:Nat}{H H':Hp}{el:xy}(hf:jn K a H p A X f O m)(h:FGo p A O H H' el O'):KpA H H' A.el el:=λc o e i k=>by
 exists ?_,h.fr c o e (λz=>by rw[z,hf.me]at e;cases e;cases i) (λz=>by rw[z,hf.mx.o]at e;cases e;cases i) k λj l w=>?_
 .rcases h.he with z|z
  .rw[z];exact k
  .exact yb e z
 .obtain⟨n,g,d⟩:=(hf.B.b j l).own c w;rw[e]at g;cases g;rw[i]at d;cases d
def yvs{g:Λ}{n:Nat}(h:1<=n):(refs g n)[0]?=some (.ref (g 0)):=by unfold refs;rw[cK,dU h];rfl
structure Ĥ(H:Hp)(t:xy)(ts:Ο)(w:Nat):Prop where
 l:H t=some (.lst (ts.map V.int))
 s:Sgs ts
 z:ts.length<=w
def Ĥ.same{H H':Hp}{t:xy}{w:Nat}(h:Ĥ H t ts w)(S:yx H H'):Ĥ H' t ts w:=⟨S _ _ h.l,h.s,h.z⟩
def fX(n:Nat)(kd:Ν)(ps:Κ)(pre:Ο)(ts:Ο)(k:Nat):FX:=((FX0 n kd).run (fa0 n ps) pre).run (fa0 n ps) ((dec ts).take k)
def uh(n:Nat)(kd:Ν)(ps:Κ)(pre:Ο)(ts:Ο)(k:Nat):Int:=ypv (fX n kd ps pre ts k).ws ((fX n kd ps pre ts k).cs (fa0 n ps))
def vk(ts:Ο)(k:Nat):Int:=((dec ts)[k]?).getD 0
def yk3(ts:Ο)(k:Nat)(h:k<(dec ts).length):0<=vk ts k/\vk ts k<=1:=by unfold vk;rw[cA h];exact Í ts _ (dm h)
def vf1(H:Hp)(lx:V)(N w:Nat)(lt:Λ)(tt:Κ):Prop:=((lx=.non/\N=0)\/∃ll,lx=.ref ll/\H ll=some (.lst (refs lt N)))/\∀i,i<N->Ĥ H (lt i) (tt i) w
structure vgz(H:Hp)(L tx:xy)(lx:V)(n:Nat)(lk:Λ)(kd:Ν)(tp:Λ)(ps:Κ)(ts:Ο)(N w:Nat)(lt:Λ)(tt:Κ):Prop where
 l:H L=some (.lst (refs lk n))
 n1:1<=n
 n6:n<=6
 r:xi H n lk kd tp ps
 t:Ĥ H tx ts 1000
 lr:vf1 H lx N w lt tt
 w1:w<=1000
 N1:N<=1000
 b:6+6*(N*(9*w+1))+6*(9*ts.length+1)+20<1000000
structure XOk(n:Nat)(X:FX):Prop where
 w:WOk n X.ws
 s:∀i k,(X.g i k).ok
theorem XOk.cs{n:Nat}{X:FX}(h:XOk n X)(ps:Κ):COk n (X.cs (fa0 n ps)):=by
 exists by unfold FX.cs;rw[bz,dw];rfl,λc a=>?_,λc a=>?_
 .obtain⟨j,_,rfl⟩:=cI.mp a;exact(yej (h.s _ _)).1
 .obtain⟨j,_,rfl⟩:=cI.mp a;exact(yej (h.s _ _)).2
theorem XOk.see{n:Nat}{X:FX}(h:XOk n X)(n1:1<=n)(n6:n<=6)(ps:Κ){b:Int}(b0:0<=b)(b1:b<=1):XOk n (X.see (fa0 n ps) b):=by
 exists yn1 n1 n6 h.w (h.cs ps),λi k=>?_;show (if k=X.key (fa0 n ps) i then (X.g i k).see b else X.g i k).ok
 split
 .exact Slt.see_ok (h.s i k) b0 b1
 .exact h.s i k
theorem XOk.run{n:Nat}(n1:1<=n)(n6:n<=6)(ps:Κ):∀(bs:Ο){X:FX},XOk n X->ybx bs->XOk n (X.run (fa0 n ps) bs)
 |[],_,h,_=>h
 |b::r,_,h,hb=>XOk.run n1 n6 ps r (h.see n1 n6 ps (hb b (by simp)).1 (hb b (by simp)).2) λc a=>hb c (by simp[a])
def XOk.zero{n:Nat}(n1:1<=n)(n6:n<=6)(kd:Ν):XOk n (FX0 n kd):=⟨vbt n n1 n6,λi Z=>yog (kd i)⟩
def ygz{bs:Ο}(h:ybx bs)(k:Nat):ybx (bs.take k):=λb a=>h b (dF a)
def yy5{n:Nat}(n1:1<=n)(n6:n<=6){kd:Ν}{ps:Κ}{pre:Ο}(hp:ybx pre)(k:Nat):XOk n (fX n kd ps pre ts k):=by unfold fX;exact((XOk.zero n1 n6 kd).run n1 n6 ps pre hp).run n1 n6 ps _ (ygz (Í ts) k)
def Ĝ{n:Nat}(n1:1<=n)(n6:n<=6){kd:Ν}{ps:Κ}{pre:Ο}(hp:ybx pre)(k:Nat):Ch (uh n kd ps pre ts k):=yj2 n1 (yy5 (kd:=kd) (ps:=ps) (ts:=ts) n1 n6 hp k).w ((yy5 (kd:=kd) (ps:=ps) (ts:=ts) n1 n6 hp k).cs ps)
#synth yyr ["sign"] va2
inductive yfd(K:z0)(vs:Τ)(H:Hp)(Q:VK)(E':XK):Prop
 |mk(s:Int)(_:vs=[.int s])(_:∀r H',H r=none->H' r=some (.lst ((b8 s).map V.int))->yx H H'->Q (.ref r) H')
def yvf:vx P w K mg Γ CX0 1 a.Kj a.N8 ["sign"] (yfd K):=by
 exists T.P8.F.ok,yyr,t;let⟨q,rfl,k⟩:=h;exists 1,0,yd (yt (wy (js:=[0]) (ys:=["sign"]) rfl (ye6 (w8 rfl T.Fb)) (λC u d r=>(yn w5 (yn v6 (pv 1) (pv 0)) yc)) rfl rfl (hyc:=(all_cons rfl y7)) (hrel:=(all_cons rfl y7))));exists a.Bh,rfl,⟨_,T.w_WORTHS H⟩,λD e=>?_;refine ł (wV q) (T.w_WORTHS H) e (λi y d j g b=>?_) (λd g b=>?_)
 .obtain⟨c,p,rfl,n⟩:∃c,0<c/\y=V.int c/\c<=128:=by
   have l:=cN j;simp only[cS,List.not_mem_nil,or_false]at l;rcases l with rfl|rfl|rfl|rfl|rfl|rfl|rfl|rfl<;>exact⟨_,∅,rfl,∅⟩
  ext;exact Mp.done e (by show 8<sizeLine;decide) j g b rfl
 .exact k D d e b g
#synth yjm ["text","bits","sign"] ["text"] yzg
inductive yxd(K:z0)(vs:Τ)(H:Hp)(Q:VK)(E':XK):Prop
 |mk(t:xy)(ns:Ο)(_:vs=[.ref t])(_:H t=some (.lst (ns.map V.int)))(_:Sgs ns)(_:ns.length<=1000)(_:∀r H',H r=none->H' r=some (.lst ((dec ns).map V.int))->yx H H'->Q (.ref r) H')
def yyn:vx P w K mg Γ CX0 5 a.Kk a.N9 ["text"] (yxd K):=by
 exists T.P9.F.ok,yjm,S;let⟨t,f,rfl,O,X,hz,k⟩:=h;exists 1,2,yg (yu (i:=1) yjm.nd rfl (Or.inl rfl) (vd u8)) (yg (jx PassesOwn.never rfl (xg (ur (yza T) S.m T.Pv wt (pa1 (pv 0)))) (wj (i:=2) yjm.nd rfl (Or.inl rfl)) (yg (yy (jg PySem.F.plainAttrs_list PySem.F.slot_list_append PySem.F.type_list_append w9 (pv 1) (pa1 yc))) (yd (yy (jg PySem.F.plainAttrs_list PySem.F.slot_list_extend PySem.F.type_list_extend Ë (pv 1) (pa1 (ug (yvf T) S.m T.P8 (pa1 (pv 2))))))))) (yg (yy (jg PySem.F.plainAttrs_list PySem.F.slot_list_append PySem.F.type_list_append w9 (pv 1) (pa1 yc))) (yd (yt (pv 1)))));exists by walk_at "len",λr hr0=>?_
 exists hr0,H1,S1,hr1;ext;exists .ref t,_,rfl,.lst (S1 _ _ O),.inr ⟨f.map V.int,yef (S1 _ _ O) X hz,λc H2 j p R=>?_⟩;have D:=S1.trans R;refine⟨c,rfl,⟨_,SqL.of p⟩,zh (K:=K) (a:=c) (xs:=f.map V.int) (λi σ2 G=>∃v,σ2=[some (.ref t),some (.ref r),v]/\G r=some (.lst ((yby (f.take i)).map V.int))/\G c=some (.lst (f.map V.int))/\yx H G)
  ⟨_,rfl,R _ _ hr1,p,D⟩ (by rintro i σ2 G _ ⟨_,_,_,z,_⟩;exact SqL.of z) ?_ ?_⟩
 .rintro i y σ2 G hi ⟨v,rfl,d,B,C⟩;let⟨z,rfl,W,L,Z⟩:=Ù hi;have l:c≠r:=λe=>by rw[e,hr1]at j;cases j
  have x:(List.map V.int (yby (f.take i))).length<=9000:=by rw[bz,γ,cL];omega
  ext;refine jp d ?_;ext;refine uf d (vw ()) ?_;have n:yx H (upd G r (.lst (List.map V.int (yby (f.take i))++[V.int 1]))):=λb o e=>yi (yb e hr0) (C b o e);have u:upd G r (.lst (List.map V.int (yby (f.take i))++[V.int 1])) c=some (.lst (f.map V.int)):=yi l B;have g:upd G r (.lst (List.map V.int (yby (f.take i))++[V.int 1])) r=some (.lst (List.map V.int (yby (f.take i)++[1]))):=by rw[ya,cM];rfl
  generalize upd G r (.lst (List.map V.int (yby (f.take i))++[V.int 1]))=G1 at n u g⊢;ext;refine jp g ?_;ext;exists z,rfl,λq G2 a0 I J=>?_;ext;have N:=J _ _ g;exists r,q,_,_,rfl,rfl,N,I,wv (by rw[bz,bz,bY,yo3];rw[bz]at x;show _+1+8<=_;omega),?_;ext;exists _,rfl,?_,?_,λb o e=>yi (yb e hr0) (J _ _ (n b o e))
  .rw[ya,zu L,ybb,ymb,cH];rfl
  .exact yi l (J _ _ u)
 .rintro σ2 G ⟨v,rfl,d,B,C⟩;rw[bz,dn]at d;ext;refine jp d ?_;ext;refine uf d (vw (by rw[bz,γ];omega)) ?_;ext;refine k r _ hr0 ?_ λb o e=>yi (yb e hr0) (C b o e);rw[ya,ym4,cM];rfl
#synth yug ["self","place"] yz8
inductive yfl(C:xy)(vs:Τ)(H:Hp)(Q:VK)(E':XK):Prop
 |mk(p dx pd:xy)(v1 v2 v3:V)(d:Ο)(k:Nat)(_:vs=[.ref p,.int k])(_:H p=some (.ins C dx (ykm (.ref pd) v1 v2 v3)))(_:H pd=some (.lst (d.map V.int)))(_:Q (.int ((d[k]?).getD 0)) H)
def yv1:vx P w K mg Γ CX0 1 a.Km a.Nf ["self","place"] (yfl a.An):=by
 exists T.I8.F.ok,yug,t;let⟨p,o,l,j,n,g,d,m,rfl,r,c,k⟩:=h;exists 2,0,yd (yt (j8 (yw ó (pv 1) (pcB yq T.A9 (pa1 (yo (pv 0) rfl))) (y9 _)) (xk wl (yo (pv 0) rfl) (pv 1) (λZ Z=>rfl)) yc));refine uc (SqL.of c) ?_;rw[bz];ext;refine xz (λq=>?_) (λq=>?_)
 .have e:m<d.length:=()
  rw[cA e]at k;ext;exact zb (SqL.of c) (xf (by rw[cK,cA e];rfl)) k
 .rw[dv ()]at k;ext;exact k
#synth yw7 ["self"] yzd
inductive ygw(C D:xy)(vs:Τ)(H:Hp)(Q:VK)(E':XK):Prop
 |mk(p dx pd ps ds:xy)(d:Ο)(x:Sn)(r:Nat)(_:vs=[.ref p])(_:H p=some (.ins C dx (ykm (.ref pd) (.ref ps) (.int (rn d r)) (.int r))))(_:H pd=some (.lst (d.map V.int)))(_:H ps=some (.ins D ds (j4 x)))(_:p≠ps)(_:OkS x)(_:r<=sz x)(_:∀H',H' p=some (.ins C dx (ykm (.ref pd) (.ref ps) (.int (rn d (sz x))) (.int x.2.2)))->But p H H'->Q .non H')
def ynt:vx P w K mg Γ CX0 2 a.Kl a.Nd ["self"] (ygw a.An a.A7):=by
 exists T.Et.F.ok,yw7,J;let⟨p,j,g,i,o,d,x,r,rfl,t,y,C,l,v,f,k⟩:=h;exists _,(yd (δ PassesOwn.never (yw ó (yo (pv 0) rfl) (yo (yo (pv 0) rfl) rfl) (y9 _)) (yg (ve (pv 0) (yn vv (yn wz (yo (pv 0) rfl) yc) (xo (pv 0) T.Au T.I8.m (yv1 T) J.m T.I8.B .nil wo (pa1 (yo (pv 0) rfl)))) rfl) (yd (ve (pv 0) (yn vv (yo (pv 0) rfl) yc) rfl))))),?_;exists 1,0;have L:=v.sz;exists λm σ' q=>∃r:Nat,σ'=[some (.ref p)]/\q p=some (.ins a.An j (ykm (.ref g) (.ref i) (.int (rn d r)) (.int r)))/\r<=sz x/\But p H q/\m=sz x-r,⟨_,r,rfl,t,f,But.refl,rfl⟩,?_;rintro m σ2 z ⟨r,rfl,b,M,c,rfl⟩;have G:z i=some (.ins a.A7 o (j4 x)):=c _ _ C l.symm;have e:=c.lst t y;ext;refine xz (λN=>?_) (λN=>?_)
 .refine ybk ?_;ext;exists p,j,g,_,_,_,d,r,rfl,b,e,?_;ext;exists _,?_,r+1,rfl,?_,(),(c.trans But.upd).trans But.upd,rfl
  .omega
  .rw[ya];rfl
 .have I:r=sz x:=()
  subst I;ext;refine k _ ?_ c;rw[<- L];exact b
#synth yx3 ["self","data"] vbl
inductive yhj(K:z0)(a:Ads)(vs:Τ)(H:Hp)(Q:VK)(E:XK):Prop
 |mk(p dx:xy)(v:V)(n:String)(_:vs=[.ref p,v])(_:H p=some (.ins a.An dx []))(_:xu K H v (.type n))(_:((Bad K H v n 12000/\∀H',yx H H'->E (.ref a.Cq) none H')\/∃d:Ο,ytc K H v (d.map V.int) 12000/\∀pd ps ds H',H pd=none->H ps=none->ygi a H' p dx pd ps ds d s0->But p H H'->Q .non H'))
def yt9:vx P w K mg Γ (CXe P w) 5 a.Gv a.Na ["self","data"] (yhj K a):=by
 exists T.Pa.F.okE,yx3,M;let⟨p,q,v,n,rfl,S,Z,h⟩:=h;exists 2,0,yg (ve (pv 0) (ur (vd3 T) M.m T.Qu yr (pa1 (pv 1))) rfl) (yg (ve (pv 0) (Ï T.Iz (yok T) M.m rfl T.Iy T.Hz.B .nil wo) rfl) (yg (ve (pv 0) yc rfl) (yg (ve (pv 0) yc rfl) (yd (yy (wg (pv 0) T.Au T.Et.m (ynt T) M.m T.Et.B .nil wo))))));exists v,n,rfl,Z,?_;rcases h with⟨hb,k⟩|⟨d,hg,k⟩
 .exact .inl ⟨hb,k⟩
 .refine .inr ⟨d.map V.int,hg,λg C j N W=>?_⟩;have Y:=W _ _ S;have f:g≠p:=λz=>by rw[z,S]at j;cases j
  ext;have J:But p H (upd C p (.ins a.An q ([("data",V.ref g)]:Ι))):=(But.of W).trans But.upd;have r:upd C p (.ins a.An q ([("data",V.ref g)]:Ι)) p=some (.ins a.An q ([("data",V.ref g)]:Ι)):=ya;have u:upd C p (.ins a.An q ([("data",V.ref g)]:Ι)) g=some (.lst (d.map V.int)):=yi f N;generalize upd C p (.ins a.An q ([("data",V.ref g)]:Ι))=H2 at J r u⊢;intro t D i nds ne;exists t,D,rfl,ya,λU x B3=>⟨rfl,?_⟩;have I:yx H2 U:=λb o e=>B3 b o (by rw[yp (yb e i),yp (yb e nds)];exact e) (yb e i);have a0:=I _ _ r;have y:=I _ _ u;have c:p≠t:=yb r i
  have G:H t=none:=by
   cases e:H t with
   |none=>rfl
   |some o=>exact absurd (J _ _ e c.symm) (by rw[i];exact λz=>nomatch z)
  ext;exists p,q,g,t,D,d,s0,0,rfl,ya,?_,?_,c,ve1,dg _,λR L B4=>?_
  .exact yi f (yi f (yi f y))
  .exact yi c.symm (yi c.symm (yi c.symm x))
  .ext;have l:But p U R:=((But.upd.trans But.upd).trans But.upd).trans B4;exact k g t D R j G ⟨L,l _ _ y f,l _ _ x c.symm,c⟩ ((J.trans (But.of I)).trans l)
#synth ype ["self","chance","bit"] ["self","chance"] yzw
inductive yl3(K:z0)(a:Ads)(vs:Τ)(H:Hp)(Q:VK)(E:XK):Prop
 |mk(p dx pd ps ds:xy)(d:Ο)(x:Sn)(v:V)(n:String)(_:vs=[.ref p,v])(_:ygi a H p dx pd ps ds d x)(_:OkS x)(_:xu K H v (.type n))(_:(chV v=false->E (.ref a.Fg) none H))(_:∀c:Int,v=.int c->Ch c->∀H',ygi a H' p dx pd ps ds d (nar x c (Ü d x c))->ykq p ps H H'->Q (.int (Ü d x c)) H')
def yw1{x:Sn}{c b:Int}(h:Ok x)(hc:Ch c):sz x<=sz (nar x c b):=by
 let⟨r,e⟩:=vbu (if b=1 then x.1 else x.1+cut x.2.1 c) (if b=1 then cut x.2.1 c else x.2.1-cut x.2.1 c) x.2.2
 have a:nar x c b=ren (if b=1 then x.1 else x.1+cut x.2.1 c) (if b=1 then cut x.2.1 c else x.2.1-cut x.2.1 c) x.2.2:=by
  unfold nar
  split<;>rfl
 rw[a,e];unfold sz;dsimp only;omega
def yt3:vx P w K mg Γ (CXe P w) 5 a.Kn a.Ng ["self","chance"] (yl3 K a):=by
 exists T.I9.F.okE,ype,y;let⟨p,L,I,o,q,d,x,v,n,rfl,j,u,X,k1,k⟩:=h;exists 2,1,yg (yy (ur (ysz T) y.m T.Jf yr (pa1 (pv 1)))) (yg (ρ (yu (i:=2) ype.nd rfl (Or.inl rfl) (j8 (yw ó (yo (pv 0) rfl) (yn vv (yo (yo (pv 0) rfl) rfl) (xo (yo (pv 0) rfl) T.Ag T.El.m (yo4 T) y.m T.El.B .nil wo (pa1 (pv 1)))) (y9 _)) yc yc))) (yg (yy (vj (yo (pv 0) rfl) T.Ag T.Em.m (yoq T) y.m T.Em.B .nil yr (pac (pv 1) (pa1 (pv 2))))) (yg (yy (wg (pv 0) T.Au T.Et.m (ynt T) y.m T.Et.B .nil wo)) (yd (yt (pv 2))))));exists v,n,rfl,X,λhv=>?_,k1;let⟨c,rfl,c1,W⟩:=yc0 hv;have t:Ch c:=⟨c1,W⟩;have k:=k c rfl t;have N:=j.me;have e:=j.sp;ext;refine ym1 (λσ' R=>σ'=[some (.ref p),some (.int c),some (.int (Ü d x c))]/\H=R) ?_ ?_
 .ext;exists o,q,_,rfl,e,lkN _ (by right) (by right) (by right),?_;ext;exists o,q,x,c,rfl,e,t,?_;ext;unfold Ü;refine xz (λC=>?_) (λC=>?_)
  .rw[if_pos C];ext;exists rfl,rfl
  .rw[if_neg C];ext;exists rfl,rfl
 .rintro σ' R ⟨rfl,rfl⟩;have J:=ų d x c;generalize C:Ü d x c=b at J k⊢;ext;exists o,q,_,rfl,e,lkN _ (by right) (by right) (by right),?_;ext;exists o,q,x,.int c,.int b,_,_,rfl,e,u.ok,.int c,.int b,(λz=>by rw[yek t]at z;cases z),(λF z=>by rw[yc8 () ()]at z;cases z),λY U ec eb F F F Z r D=>?_;obtain rfl:c=Y:=V.int.inj ec;obtain rfl:b=U:=V.int.inj eb;have f:=D _ _ N j.ne;have g:=D.lst e j.dt;ext;have l:Z p=some (.ins a.An L (ykm (.ref I) (.ref o) (.int (rn d (sz x))) (.int ((sz x:Nat):Int)))):=by rw[u.sz];exact f
  exists p,L,I,o,q,d,nar x c b,sz x,rfl,l,g,r,j.ne,ycz u t,yw1 u.ok t,λH2 M G=>?_;ext;exact k H2 ⟨M,G.lst f g,G _ _ r j.ne.symm,j.ne⟩ (D.two'.trans G.two)
#synth yyh ["self"] yy7
inductive yhd(a:Ads)(vs:Τ)(H:Hp)(Q:VK)(E':XK):Prop
 |mk(p dx pd ps ds:xy)(d:Ο)(x:Sn)(_:vs=[.ref p])(_:ygi a H p dx pd ps ds d x)(_:OkS x)(_:sz x<=tMx)(_:∀t H',H t=none->H' t=some (.lst ((tL x).map V.int))->yx H H'->Q (.ref t) H')
def yxb:vx P w K mg Γ CX0 4 a.Ko a.Nh ["self"] (yhd a):=by exists T.Ia.F.ok,yyh,r;let⟨p,t,n,e,c,d,x,rfl,g,q,o,k⟩:=h;have l:=g.me;have b:=g.sp;exists 1,0,yd (yt (wg (yo (pv 0) rfl) T.Ag T.En.m (ynl T) r.m T.En.B .nil wo));exists e,c,_,rfl,b,lkN _ (by right) (by right) (by right),?_;ext;exists e,c,x,rfl,b,q,o,k
def snK(mx bt:Nat->Int):Nat->Sn
 |0=>s0
 |k+1=>nar (snK mx bt k) (mx k) (bt k)
theorem jy{mx:Nat->Int}:∀m,(∀j,j<m->Ch (mx j))->OkS (snK mx bt m)/\(snK mx bt m).2.2<=5+2*(m:Int)
 |0,_=>⟨ve1,by show (5:Int)<=5+2*((0:Nat):Int);decide⟩
 |m+1,h=>by
  let⟨a,e⟩:=jy m λj d=>h j ();exists ycz a (h m ()),?_;have:=yt6 (c:=mx m) (b:=bt m) a.ok;show (nar (snK mx bt m) (mx m) (bt m)).2.2<=_;omega
theorem ybe{mx my bu:Nat->Int}:∀m,(∀j,j<m->mx j=my j/\bt j=bu j)->snK mx bt m=snK my bu m
 |0,_=>rfl
 |m+1,h=>by
  show nar (snK mx bt m) (mx m) (bt m)=nar (snK my bu m) (my m) (bu m);rw[ybe m λj a=>h j (),(h m ()).1,(h m ()).2]
def FGo.but{p:xy}{A:FA}{H H1 H2:Hp}{el:xy}{o':HO}(h:FGo p A O H H1 el O')(hq:H q=none)(B:But q H1 H2)(hq2:H2 q=some o'):FGo p A O H H2 el O' :=
 ⟨h.he,h.hO,λc o e a d f b=>B _ _ (h.fr c o e a d f b) (yb e hq),λc o e=>let ⟨o1,w⟩:=h.live c o e;⟨o1,B _ _ w (yb e hq)⟩⟩
def jn.but{H H':Hp}{p C:xy}{A:FA}{X:FX}{f:Α}{m:Nat}{fs:Ι}(h:jn K a H p A X f O m)(hq:H q=some (.ins C dq fs))(hl:fs.length=3)(nO:∀i,i<A.n->¬O i q)(B:But q H H'):jn K a H' p A X f O m:=by
 refine h.frame (O2:=λc=>c=q) (λc o e g=>B c o e g) (λz=>u9 h.me hq (by rw[hl];show ¬(6=3);decide) z) (λz=>u9 h.mx.o hq (by rw[hl];show ¬(1=3);decide) z) (λi d z=>u9 (h.B.b i d).me hq (by rw[hl];show ¬(2=3);decide) z) (λi c d w z=>nO i d (z ▸ w)) (λl j Z e=>B.lst hq e) (λt j e=>?_);rcases e with(e|⟨o,e⟩)|e
 .exact .inl (.inl (B _ _ e (λz=>by rw[z,hq]at e;cases e)))
 .exact .inl (.inr ⟨o,B _ _ e (λz=>by rw[z,hq]at e;cases e)⟩)
 .exact .inr e
def ygg(A:FA)(X:FX)(ts:Ο)(k:Nat):Int:=ypv (X.run A ((dec ts).take k)).ws ((X.run A ((dec ts).take k)).cs A)
#synth yj9 ["foreteller","text","span","bit"] ["foreteller","text"] yzb
inductive ydj(K:z0)(a:Ads)(vs:Τ)(H:Hp)(Q:VK)(E':XK):Prop
 |mk(p:xy)(A:FA)(X:FX)(f:Α)(O:Β)(m:Nat)(tx:xy)(ts:Ο)(_:vs=[.ref p,.ref tx])(_:jn K a H p A X f O m)(_:X.sg=[])(_:X.nd=0)(_:Ĥ H tx ts 1000)(_:tx≠A.el)(_:m+6*(dec ts).length+20<1000000)(_:∀(r ml el pl:xy)(sl:Λ)(f':Α)(O':Β)(m':Nat)(H':Hp),H r=none->H' r=some (.lst ((tL (snK (ygg A X ts) (vk ts) (dec ts).length)).map V.int))->jn K a H' p (A.re ml el pl sl) (X.run A (dec ts)) f' O' m'->m'<=m+6*(dec ts).length->FGo p A O H H' el O'->Q (.ref r) H')
def yuf:vx P w K mg Γ CX0 7 a.Kp a.Ni ["foreteller","text"] (ydj K a):=by
 exists T.Pb.F.ok,yj9,hr;let⟨p,c,X,f,O,m,tx,d,rfl,hF,ar,ad,Y,aB,hm,k⟩:=h;have aG:=ut d;have hz:=Y.z;have Z:=Y.s;refine yf (yu (i:=2) yj9.nd rfl (Or.inl rfl) (Ï T.Iz (yok T) hr.m rfl T.Iy T.Hz.B .nil wo)) ?_;refine yf (jx PassesOwn.never rfl (xg (ug (yyn T) hr.m T.P9 (pa1 (pv 1)))) (wj (i:=3) yj9.nd rfl (Or.inl rfl)) (yg (yy (vj (pv 2) T.Ag T.Em.m (yoq T) hr.m T.Em.B .nil wt (pac (wg (pv 0) T.Ai T.Er.m (yn7 T) hr.m T.Er.B .nil wo) (pa1 (pv 3))))) (yd (yy (xo (pv 0) T.Ai T.Es.m (yn0 T) hr.m T.Es.B .nil wo (pa1 (pv 3))))))) ?_;exists 2,2,yd (yt (wg (pv 2) T.Ag T.En.m (ynl T) hr.m T.En.B .nil wo));intro q U nq au aD;have SQ:yx H (upd (upd H U (.own q)) q (.ins a.A7 U [])):=λb o e=>by rw[yp (yb e nq),yp (yb e au)];exact e
 exists q,U,rfl,ya,λH1 ag B1=>⟨rfl,?_⟩;have S1:yx H H1:=λb o e=>B1 b o (SQ b o e) (yb e nq);ext;exists tx,d,rfl,S1 _ _ Y.l,Z,(),λbt H2 a5 S S2=>?_
 have a1:=S1.trans S2;have aq:=hF.same a1;have aw:bt≠c.el:=(yb (hF.same S1).el a5).symm
 have ay:∀i,i<c.n->¬O i q:=λi hi w=>by
  let⟨o,ho,_⟩:=(hF.B.b i hi).own q w;rw[nq]at ho;cases ho
 refine⟨bt,rfl,⟨_,SqL.of S⟩,zh (K:=K) (a:=bt) (xs:=(dec d).map V.int) (λj σ2 G=>∃(v:qj V)(ml el pl:xy)(sl:Λ)(f':Α)(O':Β),σ2=[some (.ref p),some (.ref tx),some (.ref q),v]/\jn K a G p (c.re ml el pl sl) (X.run c ((dec d).take j)) f' O' (m+6*j)/\FGo p c O H G el O'/\TxE d j (X.run c ((dec d).take j)).sg (X.run c ((dec d).take j)).nd/\G q=some (.ins a.A7 U (j4 (snK (ygg c X d) (vk d) j)))/\(∀i,i<c.n->¬O' i q)/\(G bt=some (.lst ((dec d).map V.int))/\bt≠el)/\(∀i,i<j->Ch (ygg c X d i)))
  ⟨_,c.ml,c.el,c.pl,c.sl,f,O,rfl,aq,FGo.refl.same a1,.inl ⟨dg _,by show yde _ _ X.sg X.nd;rw[ar,ad];exact yde.zero _⟩,S2 _ _ ag,ay,⟨S,aw⟩,λi hi=>absurd hi (du i)⟩ (by rintro j σ2 G _ ⟨_,_,_,_,_,_,_,_,_,_,_,_,_,z,_⟩;exact SqL.of z.1) ?_ ?_⟩
 .rintro j y σ2 G hy ⟨v,M,C,J,I,f1,O1,rfl,g,go,hT,u,N,⟨a8,W⟩,L⟩;let⟨b,rfl,ak,hb,hj⟩:=Ù hy;let⟨b0,b1⟩:=Í _ b ak;let⟨a3,ax⟩:=hT.next Z hb;let⟨an,aC⟩:=a3.nd Z;have aF:=a3.len;have a6:vk d j=b:=by unfold vk;rw[hb];rfl
  have aE:=g.me;have a2:Ch (ygg c X d j):=yj2 g.n1 g.wok g.cok;have ao:=yek a2;have av:=yc8 b0 b1;let⟨a0,ac⟩:=jy (mx:=ygg c X d) (bt:=vk d) j L;ext;exists q,U,_,rfl,u,lkN _ (by right) (by right) (by right),?_;ext;exists p,c.re M C J I,_,f1,O1,_,rfl,g,λG1 R=>?_;ext;exists q,U,_,.int (ygg c X d j),.int b,_,_,rfl,R _ _ u,a0.ok,.int _,.int _,λz=>(by rw[ao]at z;cases z),λF z=>(by rw[av]at z;cases z),λc' b' ec eb F F F G2 x B2=>?_;cases ec;cases eb;have t:=(g.same R).but (R _ _ u) rfl N B2;have ae:FGo p c O H G2 C O1:=(go.same R).but nq B2 x;have D:G2 bt=some (.lst ((dec d).map V.int)):=B2.lst (R _ _ u) (R _ _ a8);have aH:=t.me;have n6:=g.n6;ext;exists p,c.re M C J I,_,f1,O1,m+6*j,b,rfl,t,b0,b1,(),an,(),λap a9 af aj f3 O3 G3 ai al aa a7 az F=>?_
  have ab:FGo p (c.re M C J I) O1 G2 G3 a9 O3:=⟨ai,aa,a7,az⟩;have a4:=ab.kpa t;ext;exists _,ap,a9,af,aj,f3,O3,rfl,?_,ae.trans ab,?_,?_,λi hi w=>?_,⟨(a4 _ _ D rfl W).2,(a4 _ _ D rfl W).1⟩,λi hi=>?_
  .rw[Î hb];exact al.up (by show m+6*j+c.n<=_;have:c.n<=6:=n6;omega)
  .rw[Î hb];exact ax
  .have e:snK (ygg c X d) (vk d) (j+1)=nar (snK (ygg c X d) (vk d) j) (ygg c X d j) b:=by show nar _ _ (vk d j)=_;rw[a6]
   rw[e];exact a7 _ _ x (u9 x t.me (show ¬(3=6) by decide)) (u9 x t.mx.o (show ¬(3=1) by decide)) (λz=>by have e:=t.el;rw[<- z,x]at e;cases e) N
  .rcases aa i q hi w with v|v
   .exact N i hi v
   .rw[x]at v;cases v
  .by_cases z:i=j
   .rw[z];exact a2
   .exact L i ()
 .rintro σ2 G ⟨v,M,C,J,I,f1,O1,rfl,g,go,hT,u,N,_,L⟩;rw[bz]at g u L;rw[dn]at g;let⟨a0,ac⟩:=jy (mx:=ygg c X d) (bt:=vk d) (dec d).length L;ext;exists q,U,_,rfl,u,lkN _ (by right) (by right) (by right),?_;ext;exists q,U,_,rfl,u,a0,by show Int.toNat _<=100000;omega,λr G1 as am R=>?_
  exact k r M C J I f1 O1 _ G1 (go.free as) am (g.same R) (cE _) (go.same R)
structure RGo(p q s:xy)(A:FA)(O:Β)(H H':Hp)(ml el:xy)(O':Β):Prop where
 hm:ml=A.ml\/H ml=none
 he:el=A.el\/H el=none
 hO:∀j c,j<A.n->O' j c->O j c\/H c=none
 fr:∀c o,H c=some o->c≠p->c≠A.mp->c≠A.el->c≠q->c≠s->(∀j,j<A.n->¬O j c)->H' c=some o
 live:∀c o,H c=some o->∃o',H' c=some o'
def RGo.free{p s:xy}{A:FA}{H H':Hp}{ml el c:xy}(h:RGo p q s A O H H' ml el O')(hc:H' c=none):H c=none:=by
 cases e:H c with
 |none=>rfl
 |some o =>
  let⟨a,w⟩:=h.live c o e;rw[hc]at w;cases w
def RGo.refl{p s:xy}{A:FA}{H:Hp}:RGo p q s A O H H A.ml A.el O:=⟨.inl rfl,.inl rfl,λZ Z Z w=>.inl w,λZ Z e Z Z Z Z Z Z=>e,λZ o e=>⟨o,e⟩⟩
theorem RGo.trans{p s:xy}{A:FA}{O1:Β}{H H1 H2:Hp}{ml el pl ml2 el2:xy}{sl:Λ}(h:RGo p q s A O H H1 ml el O1)(k:RGo p q s (A.re ml el pl sl) O1 H1 H2 ml2 el2 O2):RGo p q s A O H H2 ml2 el2 O2:=by
 exists ?_,?_,λj c a w=>?_,λc o e b g f d l i=>?_,λc o e=>?_
 .rcases k.hm with z|z
  .rcases h.hm with y|y
   .exact .inl (z.trans y)
   .exact .inr (by rw[show ml2=ml from z];exact y)
  .exact .inr (h.free z)
 .rcases k.he with z|z
  .rcases h.he with y|y
   .exact .inl (z.trans y)
   .exact .inr (by rw[show el2=el from z];exact y)
  .exact .inr (h.free z)
 .rcases k.hO j c a w with v|v
  .exact h.hO j c a v
  .exact .inr (h.free v)
 .refine k.fr c o (h.fr c o e b g f d l i) b g (λz=>?_) d l (λj a w=>?_)
  .rcases h.he with y|y
   .exact f (z.trans y)
   .rw[show c=el from z,y]at e;cases e
  .rcases h.hO j c a w with v|v
   .exact i j a v
   .rw[e]at v;cases v
 .obtain⟨m,n⟩:=h.live c o e;exact k.live c m n
def RGo.same{p s:xy}{A:FA}{H H1 H2:Hp}{ml el:xy}(h:RGo p q s A O H H1 ml el O')(S:yx H1 H2):RGo p q s A O H H2 ml el O' :=
 ⟨h.hm,h.he,h.hO,λc o e a f d b i g=>S _ _ (h.fr c o e a f d b i g),λc o e=>let ⟨o',w⟩:=h.live c o e;⟨o',S _ _ w⟩⟩
structure È(K:z0)(a:Ads)(H:Hp)(p:xy)(A:FA)(X:FX)(f:Α)(O:Β)(m:Nat)(q dx pd s ds:xy)(d:Ο)(x:Sn):Prop where
 ft:jn K a H p A X f O m
 sk:ygi a H q dx pd s ds d x
 ok:OkS x
 nO:∀i,i<A.n->¬O i q/\¬O i s
 nd:pd≠A.el
theorem È.same{H H':Hp}{p:xy}{A:FA}{X:FX}{f:Α}{m:Nat}{dx pd s:xy}{x:Sn}(h:È K a H p A X f O m q dx pd s ds d x)(S:yx H H'):È K a H' p A X f O m q dx pd s ds d x:=⟨h.ft.same S,h.sk.same S,h.ok,h.nO,h.nd⟩
def chX(A:FA)(X:FX):Int:=ypv X.ws (X.cs A)
def jn.but2{H H':Hp}{p:xy}{A:FA}{X:FX}{f:Α}{m:Nat}{dx pd s:xy}{x:Sn}(h:È K a H p A X f O m q dx pd s ds d x)(B:ykq q s H H'):jn K a H' p A X f O m:=by
 have k:=h.sk.me;have j:=h.sk.sp;refine h.ft.frame (O2:=λc=>c=q\/c=s) (λc o e n=>B c o e (λz=>n (.inl z)) (λz=>n (.inr z))) (λz=>?_) (λz=>?_) (λi g z=>?_) (λi c g w z=>?_) (λl r Z e=>h.sk.lst B e) (λt r e=>?_)
 .rcases z with z|z
  .exact u9 h.ft.me k (show ¬(6=4) by decide) z
  .exact u9 h.ft.me j (show ¬(6=3) by decide) z
 .rcases z with z|z
  .exact u9 h.ft.mx.o k (show ¬(1=4) by decide) z
  .exact u9 h.ft.mx.o j (show ¬(1=3) by decide) z
 .rcases z with z|z
  .exact u9 (h.ft.B.b i g).me k (show ¬(2=4) by decide) z
  .exact u9 (h.ft.B.b i g).me j (show ¬(2=3) by decide) z
 .rcases z with z|z
  .exact(h.nO i g).1 (z ▸ w)
  .exact(h.nO i g).2 (z ▸ w)
 .rcases e with(e|⟨o,e⟩)|e
  .exact .inl (.inl (h.sk.tup B e))
  .exact .inl (.inr ⟨o,B _ _ e (xw e k (by intro z;cases z)) (xw e j (by intro z;cases z))⟩)
  .exact .inr e
#synth ypk ["foreteller","seeker","bit"] ["foreteller","seeker"] vb4
inductive yd1(K:z0)(a:Ads)(vs:Τ)(H:Hp)(Q:VK)(E':XK):Prop
 |mk(p:xy)(A:FA)(X:FX)(f:Α)(O:Β)(m:Nat)(q dx pd s ds:xy)(d:Ο)(x:Sn)(_:vs=[.ref p,.ref q])(_:È K a H p A X f O m q dx pd s ds d x)(_:m+20<1000000)(_:0<=X.nd)(_:X.sg.length<=100000)(_:∀(ml el pl:xy)(sl:Λ)(f':Α)(O':Β)(H':Hp),È K a H' p (A.re ml el pl sl) (X.see A (Ü d x (chX A X))) f' O' (m+A.n) q dx pd s ds d (nar x (chX A X) (Ü d x (chX A X)))->RGo p q s A O H H' ml el O'->Q (.int (Ü d x (chX A X))) H')
def yob:vx P w K mg Γ CX0 7 a.Kq a.Nj ["foreteller","seeker"] (yd1 K a):=by
 exists T.Ib.F.ok,ypk,hr;let⟨p,t,X,f,O,m,q,dx,pd,u,ds,d,x,rfl,n,hm,a3,a0,k⟩:=h;have hp:=n.ft.me;have hq:=n.sk.me;have L:Ch (chX t X):=yj2 n.ft.n1 n.ft.wok n.ft.cok;have W:=yek L;exists 2,1,yg (yu (i:=2) ypk.nd rfl (Or.inl rfl) (vj (pv 1) T.Au T.I9.m (yt3 T) hr.m T.I9.B .nil wt (pa1 (wg (pv 0) T.Ai T.Er.m (yn7 T) hr.m T.Er.B .nil wo)))) (yg (yy (xo (pv 0) T.Ai T.Es.m (yn0 T) hr.m T.Es.B .nil wo (pa1 (pv 2)))) (yd (yt (pv 2))));exists p,t,X,f,O,m,rfl,n.ft,λH1 G=>?_;have M:=n.same G;ext;exists q,dx,pd,u,ds,d,x,.int (chX t X),_,rfl,M.sk,n.ok,.int _,λz=>(by rw[W]at z;cases z),λc' ec F H2 g D=>?_;cases ec;have l:=jn.but2 M D;have a9:=l.me
 obtain⟨b0,b1⟩:0<=Ü d x (chX t X)/\Ü d x (chX t X)<=1:=by
  rcases ų d x (chX t X)with e|e<;>(rw[e];decide)
 generalize hb:Ü d x (chX t X)=b at b0 b1 g k;ext;exists p,t,X,f,O,m,b,rfl,l,b0,b1,hm,a3,a0,λS R pl sl f' O' H3 he a2 Z U lv r=>?_;have a5:q≠p:=u9 g.me l.me (show ¬(4=6) by decide);have a4:q≠t.mp:=u9 g.me l.mx.o (show ¬(4=1) by decide);have a1:u≠p:=u9 g.sp l.me (show ¬(3=6) by decide);have Y:u≠t.mp:=u9 g.sp l.mx.o (show ¬(3=1) by decide)
 have J:∀{c C dc:xy}{fs:Ι},H2 c=some (.ins C dc fs)->c≠t.el:=λe z=>by
  have e2:=l.el;rw[<- z,e]at e2;cases e2
 have N:=U _ _ g.me a5 a4 (J g.me) λi y=>(n.nO i y).1;have I:=U _ _ g.sp a1 Y (J g.sp) λi y=>(n.nO i y).2;have a6:H3 pd=some (.lst (d.map V.int)):=U _ _ g.dt (λz=>by have e:=g.dt;rw[z,l.me]at e;cases e) (λz=>by have e:=g.dt;rw[z,l.mx.o]at e;cases e) n.nd (l.B.nlst g.dt);ext;refine k S R pl sl f' O' H3 ⟨a2,⟨N,a6,I,g.ne⟩,ycz n.ok L,λi y=>⟨λw=>?_,λw=>?_⟩,?_⟩ ⟨.inr ?_,?_,λj c hj w=>?_,λc o e c1 c2 c3 c4 c5 no=>?_,λc o e=>?_⟩
 .rcases Z i q y w with v|v
  .exact(n.nO i y).1 v
  .rw[g.me]at v;cases v
 .rcases Z i u y w with v|v
  .exact(n.nO i y).2 v
  .rw[g.sp]at v;cases v
 .rcases he with z|z
  .rw[show (t.re S R pl sl).el=t.el from z];exact n.nd
  .exact yb g.dt z
 .cases e:H S with
  |none=>rfl
  |some o =>
   by_cases z1:S=q
   .rw[z1,g.me]at r;cases r
   by_cases z2:S=u
   .rw[z2,g.sp]at r;cases r
   rw[D _ _ (G _ _ e) z1 z2]at r;cases r
 .rcases he with z|z
  .exact .inl z
  .refine .inr ?_
   cases e:H R with
   |none=>rfl
   |some o =>
    by_cases z1:R=q
    .rw[z1,g.me]at z;cases z
    by_cases z2:R=u
    .rw[z2,g.sp]at z;cases z
    rw[D _ _ (G _ _ e) z1 z2]at z;cases z
 .rcases Z j c hj w with v|v
  .exact .inl v
  .refine .inr ?_
   cases e:H c with
   |none=>rfl
   |some o =>
    by_cases z1:c=q
    .rw[z1,g.me]at v;cases v
    by_cases z2:c=u
    .rw[z2,g.sp]at v;cases v
    rw[D _ _ (G _ _ e) z1 z2]at v;cases v
 .exact U c o (D _ _ (G _ _ e) c4 c5) c1 c2 c3 no
 .by_cases z1:c=q
  .exists _,z1 ▸ N
  by_cases z2:c=u
  .exists _,z2 ▸ I
  exact lv c o (D _ _ (G _ _ e) z1 z2)
def rnx(A:FA)(d:Ο)(S:FX×Sn):FX×Sn:=(S.1.see A (Ü d S.2 (chX A S.1)),nar S.2 (chX A S.1) (Ü d S.2 (chX A S.1)))
def rst(A:FA)(d:Ο)(S:FX×Sn):Nat->FX×Sn
 |0=>S
 |n+1=>rnx A d (rst A d S n)
def uk(A:FA)(d:Ο)(S:FX×Sn)(n:Nat):Int:=Ü d (rst A d S n).2 (chX A (rst A d S n).1)
def yj7(A:FA)(d:Ο)(S:FX×Sn)(n:Nat):uk A d S n=0\/uk A d S n=1:=ų _ _ _
theorem ycu(A:FA)(d:Ο)(S:FX×Sn)(k:Nat):∀n,rst A d (rst A d S k) n=rst A d S (k+n)
 |0=>rfl
 |n+1=>congrArg (rnx A d) (ycu A d S k n)
theorem yjn(A:FA)(d:Ο)(S:FX×Sn)(ml el pl:xy)(sl:Λ):∀n,rst (A.re ml el pl sl) d S n=rst A d S n
 |0=>rfl
 |n+1=>by
  show rnx (A.re ml el pl sl) d (rst (A.re ml el pl sl) d S n)=_;rw[yjn A d S ml el pl sl n];rfl
def yyd(A:FA)(X:FX)(b:Int)(h:0<=X.nd)(hb:0<=b):0<=(X.see A b).nd:=by
 show 0<=ndN X.nd b;unfold ndN
 split
 .split<;>omega
 .split<;>omega
def ywm(A:FA)(X:FX)(b:Int):(X.see A b).sg.length<=X.sg.length+1:=by
 show (sgN X.sg X.nd b).length<=_;unfold sgN
 split
 .split
  .rw[bY];exact cE _
  .omega
 .split
  .omega
  .exact dg _
theorem ye0(A:FA)(d:Ο)(S:FX×Sn)(h:0<=S.1.nd):∀n,0<=(rst A d S n).1.nd
 |0=>h
 |n+1=>yyd A _ _ (ye0 A d S h n) (by rcases yj7 A d S n with e|e<;>(unfold uk at e;rw[e];decide))
theorem yeg(A:FA)(d:Ο)(S:FX×Sn):∀n,(rst A d S n).1.sg.length<=S.1.sg.length+n
 |0=>cE _
 |n+1=>dB (ywm A _ _) (Nat.succ_le_succ (yeg A d S n))
theorem È.app{H:Hp}{p R:xy}{A:FA}{X:FX}{f:Α}{m:Nat}{dx pd s:xy}{x:Sn}{xs ys:Τ}(h:È K a H p A X f O m q dx pd s ds d x)(hR:H R=some (.lst xs))(hq:∀q,(q=A.bl\/q=A.el\/q=A.ml\/q=A.pl)->q≠R)(np:pd≠R):È K a (upd H R (.lst ys)) p A X f O m q dx pd s ds d x:=by
 exists h.ft.app hR hq,⟨yi (λz=>?_) h.sk.me,yi np h.sk.dt,yi (λz=>?_) h.sk.sp,h.sk.ne⟩,h.ok,h.nO,h.nd
 .have e:=h.sk.me;rw[z,hR]at e;cases e
 .have e:=h.sk.sp;rw[z,hR]at e;cases e
def È.notN{H:Hp}{p R:xy}{A:FA}{X:FX}{f:Α}{m:Nat}{dx pd s:xy}{x:Sn}(h:È K a H p A X f O m q dx pd s ds d x)(hR:H R=some (.lst (xs.map V.int)))(nm:R≠A.ml)(ne:R≠A.el):∀q,(q=A.bl\/q=A.el\/q=A.ml\/q=A.pl)->q≠R:=λq j z=>by
 have i:=h.ft.n1
 have b:∀(g:Λ),xs.map V.int=refs g A.n->False:=λg e=>by
  have c:(refs g A.n)[0]?=some (V.ref (g 0)):=yvs i;rw[<- e,cK]at c
  cases w:xs[0]? with
  |none=>rw[w]at c;cases c
  |some y=>rw[w]at c;cases c
 rcases j with y|y|y|y
 .have e:=h.ft.bl;rw[<- y,z,hR]at e;exact b _ (HO.lst.inj (cJ e))
 .exact ne (z.symm.trans y)
 .exact nm (z.symm.trans y)
 .have e:=h.ft.pl;rw[<- y,z,hR]at e;exact b _ (HO.lst.inj (cJ e))
def RGo.app{p s R:xy}{A:FA}{H H1:Hp}{ml el:xy}{o':HO}(h:RGo p q s A O H H1 ml el O')(hR:H R=none):RGo p q s A O H (upd H1 R o') ml el O' :=
 ⟨h.hm,h.he,h.hO,λc o e a f d b i g=>yi (yb e hR) (h.fr c o e a f d b i g),λc o e=>let ⟨o1,w⟩:=h.live c o e;⟨o1,yi (yb e hR) w⟩⟩
noncomputable def wB(i:Nat):Int:=([128,64,32,16,8,4,2,1]:Ο)[i]?.getD 0
def vej(i:Nat):0<=wB i/\wB i<=128:=by
 rcases i with _|_|_|_|_|_|_|_|i
 .exists by decide,∅
 .exists by decide,∅
 .exists by decide,∅
 .exists by decide,∅
 .exists by decide,∅
 .exists by decide,∅
 .exists by decide,∅
 .exists by decide,∅
 .exists by show (0:Int)<=0;decide,by show (0:Int)<=128;decide
def sgB(A:FA)(d:Ο)(S:FX×Sn)(i:Nat):Ο:=(List.range i).map λj=>wB j*uk A d S j
def ylr(A:FA)(d:Ο)(S:FX×Sn)(i:Nat):sgB A d S (i+1)=sgB A d S i++[wB i*uk A d S i]:=by unfold sgB;rw[List.range_succ,cM];rfl
#synth yv6 ["foreteller","seeker"] vai
inductive ya5(K:z0)(a:Ads)(vs:Τ)(H:Hp)(Q:VK)(E':XK):Prop
 |mk(p:xy)(A:FA)(S:FX×Sn)(f:Α)(O:Β)(m:Nat)(q dx pd s ds:xy)(d:Ο)(_:vs=[.ref p,.ref q])(_:È K a H p A S.1 f O m q dx pd s ds d S.2)(_:m+80<1000000)(_:0<=S.1.nd)(_:S.1.sg.length<=90000)(_:∀(ml el pl:xy)(sl:Λ)(f':Α)(O':Β)(H':Hp),È K a H' p (A.re ml el pl sl) (rst A d S 8).1 f' O' (m+8*A.n) q dx pd s ds d (rst A d S 8).2->RGo p q s A O H H' ml el O'->Q (.int (sgB A d S 8).sum) H')
def yvc:vx P w K mg Γ CX0 8 a.Kr a.Nk ["foreteller","seeker"] (ya5 K a):=by
 exists T.Pe.F.ok,yv6,hr;let⟨p,b,S,f,O,m,q,dx,pd,Z,ds,d,rfl,L,hm,a1,a9,k⟩:=h;have n6:=L.ft.n6;exists 2,0,yd (yt (pcB (Õ rfl) T.F8 (pa1 (wy (js:=[1,0]) (ys:=["seeker","foreteller"]) rfl (ye6 (w8 rfl T.Fb)) (λC s2 H2 fp=>(yn wz (pv 0) (ug (yob T) hr.m T.Ib (pac (pv 2) (pa1 (pv 1)))))) rfl rfl (hyc:=(all_cons rfl (all_cons rfl y7))) (hrel:=(all_cons rfl (all_cons rfl y7)))))));exists a.Bh,rfl,⟨_,T.w_WORTHS H⟩,λD R=>?_;refine ybc (xs:=[.int 128,.int 64,.int 32,.int 16,.int 8,.int 4,.int 2,.int 1]) (λi G=>∃(x v X:xy)(I:Λ)(f':Α)(O':Β),È K a G p (b.re x v X I) (rst b d S i).1 f' O' (m+i*b.n) q dx pd Z ds d (rst b d S i).2/\RGo p q Z b O H G x v O'/\G D=some (.lst ((sgB b d S i).map V.int))/\D≠x/\D≠v) ?_ (λi G F F=>T.w_WORTHS G) ?_ ?_
 .have S1:yx H (upd H D (.lst [])):=y6 R;exists b.ml,b.el,b.pl,b.sl,f,O,?_,RGo.refl.same S1,ya,(yb L.ft.mx.l R).symm,(yb L.ft.el R).symm;rw[Nat.zero_mul];exact L.same S1
 .rintro i y G j a2 ⟨x,v,X,I,f1,O1,e,t,c,J,r⟩;have hi:i<8:=a2
  obtain rfl:y=V.int (wB i):=by
   rcases i with _|_|_|_|_|_|_|_|i
   .exact(cJ j).symm
   .exact(cJ j).symm
   .exact(cJ j).symm
   .exact(cJ j).symm
   .exact(cJ j).symm
   .exact(cJ j).symm
   .exact(cJ j).symm
   .exact(cJ j).symm
   .omega
  have a8:i*b.n<=8*b.n:=Nat.mul_le_mul_right _ ();let⟨ab,a6⟩:=vej i;have a3:=ye0 b d S a1 i;have a7:=yeg b d S i;ext;exists p,b.re x v X I,(rst b d S i).1,f1,O1,m+i*b.n,q,dx,pd,Z,ds,d,(rst b d S i).2,rfl,e,(),a3,(),λN U a5 a4 f2 O2 G2 W g=>?_
  have u:G2 D=some (.lst ((sgB b d S i).map V.int)):=g.fr _ _ c (xw c e.ft.me (by intro z;cases z)) (xw c e.ft.mx.o (by intro z;cases z)) r (xw c e.sk.me (by intro z;cases z)) (xw c e.sk.sp (by intro z;cases z)) (e.ft.B.nlst c)
  have Y:D≠N:=by
   rcases g.hm with z|z
   .rw[z];exact J
   .exact yb c z
  have M:D≠U:=by
   rcases g.he with z|z
   .rw[z];exact r
   .exact yb c z
  exists wB i,_,rfl,rfl,.inl ⟨(),()⟩,?_;exists _,u,?_,8-(i+1),by show 8-(i+1)<8-i;omega,rfl,hi,N,U,a5,a4,f2,O2,?_,?_,?_,Y,M
  .unfold sgB;rw[bz,bz,dw];exact Nat.lt_trans hi ∅
  .rw[show m+(i+1)*b.n=m+i*b.n+b.n by rw[Nat.succ_mul,Nat.add_assoc]];exact È.app W u (W.notN u Y M) (yb L.sk.dt R)
  .exact(t.trans g).app R
  .rw[ylr,cM];exact ya
 .rintro G ⟨x,v,X,I,f1,O1,e,t,c,J,r⟩;ext;exists D,sgB b d S 8,rfl,SqL.of c,?_;ext;exact k x v X I f1 O1 G e t
theorem È.up{H:Hp}{p:xy}{A:FA}{X:FX}{f:Α}{m:Nat}{dx pd s:xy}{x:Sn}(h:È K a H p A X f O m q dx pd s ds d x)(hm:m<=m'):È K a H p A X f O m' q dx pd s ds d x:=⟨h.ft.up hm,h.sk,h.ok,h.nO,h.nd⟩
def yrw(A:FA)(d:Ο)(S:FX×Sn)(ml el pl:xy)(sl:Λ)(n:Nat):uk (A.re ml el pl sl) d S n=uk A d S n:=by unfold uk;rw[yjn];rfl
def yt7(A:FA)(d:Ο)(S:FX×Sn)(ml el pl:xy)(sl:Λ)(n:Nat):sgB (A.re ml el pl sl) d S n=sgB A d S n:=by unfold sgB;exact List.map_congr_left λj Z=>by rw[yrw]
def rsg(A:FA)(d:Ο)(S:FX×Sn)(k:Nat):Int:=(sgB A d (rst A d S (9*k+1)) 8).sum
def rtx(A:FA)(d:Ο)(S:FX×Sn)(k:Nat):Ο:=(List.range k).map (rsg A d S)
def yls(A:FA)(d:Ο)(S:FX×Sn)(k:Nat):rtx A d S (k+1)=rtx A d S k++[rsg A d S k]:=by unfold rtx;rw[List.range_succ,cM];rfl
def é(A:FA)(d:Ο)(S:FX×Sn)(k:Nat):(rtx A d S k).length=k:=by unfold rtx;rw[bz,dw]
section
variable{G:Hp}{p:xy}{A:FA}{S:FX×Sn}{f:Α}{m n:Nat}{dx pd s ml el pl:xy}{sl:Λ}{Q:VK}{E:XK}
def yxk(hR:È K a G p (A.re ml el pl sl) (rst A d S n).1 f O m q dx pd s ds d (rst A d S n).2)(hm:m+20<1000000)(nd0:0<=S.1.nd)(hsg:S.1.sg.length+n<=100000)
  (k:∀(ml2 el2 pl2:xy)(sl2:Λ)(f':Α)(O':Β)(H':Hp),È K a H' p (A.re ml2 el2 pl2 sl2) (rst A d S (n+1)).1 f' O' (m+6) q dx pd s ds d (rst A d S (n+1)).2->RGo p q s (A.re ml el pl sl) O G H' ml2 el2 O'->Q (.int (uk A d S n)) H'):yd1 K a [.ref p,.ref q] G Q E :=
 ⟨p,A.re ml el pl sl,(rst A d S n).1,f,O,m,q,dx,pd,s,ds,d,(rst A d S n).2,rfl,hR,hm,ye0 A d S nd0 n,dB (yeg A d S n) hsg,λml2 el2 pl2 sl2 f' O' H' c b=>k ml2 el2 pl2 sl2 f' O' H' (È.up c (Nat.add_le_add_left hR.ft.n6 m)) b⟩
def yrm(hR:È K a G p (A.re ml el pl sl) (rst A d S n).1 f O m q dx pd s ds d (rst A d S n).2)(hm:m+80<1000000)(nd0:0<=S.1.nd)(hsg:S.1.sg.length+n<=90000)
  (k:∀(ml2 el2 pl2:xy)(sl2:Λ)(f':Α)(O':Β)(H':Hp),È K a H' p (A.re ml2 el2 pl2 sl2) (rst A d S (n+8)).1 f' O' (m+48) q dx pd s ds d (rst A d S (n+8)).2->RGo p q s (A.re ml el pl sl) O G H' ml2 el2 O'->Q (.int (sgB A d (rst A d S n) 8).sum) H'):ya5 K a [.ref p,.ref q] G Q E:=by exists p,A.re ml el pl sl,rst A d S n,f,O,m,q,dx,pd,s,ds,d,rfl,hR,hm,ye0 A d S nd0 n,dB (yeg A d S n) hsg,λml2 el2 pl2 sl2 f' O' H' b c=>?_;have e:A.n<=6:=hR.ft.n6;have b:=È.up b (show m+8*A.n<=m+48 by omega);rw[yjn,ycu]at b;rw[yt7];exact k ml2 el2 pl2 sl2 f' O' H' b c
end
#synth ypn ["foreteller","seeker","most","text"] ["foreteller","seeker","most"] yz2
inductive yhv(K:z0)(a:Ads)(vs:Τ)(H:Hp)(Q:VK)(E:XK):Prop
 |mk(p:xy)(A:FA)(S:FX×Sn)(f:Α)(O:Β)(m:Nat)(q dx pd s ds:xy)(d:Ο)(mo:Nat)(_:vs=[.ref p,.ref q,.int mo])(_:È K a H p A S.1 f O m q dx pd s ds d S.2)(_:mo<=1000)(_:m+54*mo+200<1000000)(_:0<=S.1.nd)(_:S.1.sg.length<=10000)(_:(∀(N:Nat)(r ml el pl:xy)(sl:Λ)(f':Α)(O':Β)(H':Hp),N<=mo->(∀j,j<N->uk A d S (9*j)=1)->uk A d S (9*N)=0->H r=none->H' r=some (.lst ((rtx A d S N).map V.int))->r≠el->È K a H' p (A.re ml el pl sl) (rst A d S (9*N+1)).1 f' O' (m+54*N+6) q dx pd s ds d (rst A d S (9*N+1)).2->RGo p q s A O H H' ml el O'->Q (.ref r) H'))(_:((∀j,j<=mo->uk A d S (9*j)=1)->∀(ml el:xy)(O':Β)(H':Hp),RGo p q s A O H H' ml el O'->E (.ref a.Bq) none H'))
def yxl:vx P w K mg Γ (CXe P w) 9 a.Ks a.Nl ["foreteller","seeker","most"] (yhv K a):=by
 exists T.Pf.F.okE,ypn,hr;let⟨p,g,S,f,O,m,q,dx,pd,s',ds,d,mo,rfl,hR,ak,hm,a2,aj,kQ,kE⟩:=h;exists 3,1,yg (yu (i:=3) ypn.nd rfl (Or.inl rfl) (vd u8)) (yg (δ PassesOwn.leaving (yw xx (ug (yob T) hr.m T.Ib (pac (pv 0) (pa1 (pv 1)))) yc (y9 _)) (yg (wa (yw xx (pcB yq T.A9 (pa1 (pv 3))) (pv 2) (y9 _)) (yd (wn rfl T.Jj T.Jl (pa1 v7))) y8) (yd (yy (jg PySem.F.plainAttrs_list PySem.F.slot_list_append PySem.F.type_list_append w9 (pv 3) (pa1 (ug (yvc T) hr.m T.Pe (pac (pv 0) (pa1 (pv 1)))))))))) (yd (yt (pv 3))));exists by walk_at "len",λr hr0=>?_
 exists hr0,H1,S1,hr1;have af:pd≠r:=yb hR.sk.dt hr0;ext
 refine⟨λw σ' G=>∃(N:Nat)(I D pl:xy)(R:Λ)(f':Α)(O':Β),σ'=[some (.ref p),some (.ref q),some (.int mo),some (.ref r)]/\N<=mo/\(∀j,j<N->uk g d S (9*j)=1)/\È K a G p (g.re I D pl R) (rst g d S (9*N)).1 f' O' (m+54*N) q dx pd s' ds d (rst g d S (9*N)).2/\RGo p q s' g O H G I D O'/\G r=some (.lst ((rtx g d S N).map V.int))/\r≠I/\r≠D/\w=mo-N,
  ⟨_,0,g.ml,g.el,g.pl,g.sl,f,O,rfl,dg _,λj hj=>absurd hj (du j),hR.same S1,RGo.refl.same S1,hr1,(yb hR.ft.mx.l hr0).symm,(yb hR.ft.el hr0).symm,rfl⟩,?_⟩
 rintro w σ2 G ⟨N,I,D,pl,R,f1,O1,rfl,hN,Z,c,aa,ad,L,y,rfl⟩;ext;refine yxk c () a2 () λt u ai ag f2 O2 G2 M k=>?_
 have v:∀{G G2:Hp}{I D pl t u:xy}{R:Λ}{X:FX}{f1:Α}{O1 O2:Β}{m x}{xs:Τ},È K a G p (g.re I D pl R) X f1 O1 m q dx pd s' ds d x->RGo p q s' (g.re I D pl R) O1 G G2 t u O2->G r=some (.lst xs)->r≠I->r≠D->G2 r=some (.lst xs)/\r≠t/\r≠u:=λc k e L y=>by
  exists k.fr _ _ e (xw e c.ft.me (by intro z;cases z)) (xw e c.ft.mx.o (by intro z;cases z)) y (xw e c.sk.me (by intro z;cases z)) (xw e c.sk.sp (by intro z;cases z)) (c.ft.B.nlst e),?_,?_
  .rcases k.hm with z|z
   .rw[z];exact L
   .exact yb e z
  .rcases k.he with z|z
   .rw[z];exact y
   .exact yb e z
 let⟨C,ae,W⟩:=v c k ad L y;have n:=aa.trans k;have a3:=yj7 g d S (9*N);generalize ac:uk g d S (9*N)=b at a3;ext;refine xz (λhb=>?_) (λhb=>?_)
 .subst hb
  have a1:∀j,j<N+1->uk g d S (9*j)=1:=λj hj=>by
   by_cases z:j=N
   .rw[z];exact ac
   .exact Z j ()
  refine ybk ?_;ext;refine uc (SqL.of C) ?_;rw[bz,é];ext;refine xz (λhc=>?_) (λhc=>?_)
  .have am:N=mo:=()
   ext;exists by walk_at "len",kE (λj hj=>a1 j ()) t u O2 G2 n
  .ext;refine jp C ?_;ext;refine yrm M () a2 () λab a6 a9 a8 f3 O3 G3 U a5=>?_;let⟨J,Y,a0⟩:=v M a5 C ae W;have a4:=n.trans a5;ext;refine uf J (vw (by rw[bz,é];omega)) ?_;ext;exists _,?_,N+1,ab,a6,a9,a8,f3,O3,rfl,(),a1,?_,a4.app hr0,?_,Y,a0,rfl
   .omega
   .exact È.app U J (U.notN J Y a0) af
   .rw[ya,yls,cM];rfl
 .have a7:uk g d S (9*N)=0:=()
  ext;exact kQ N r t u ai ag f2 O2 G2 hN Z a7 hr0 C W M n
def yrv(x:Sn)(c b:Int):(nar x c b).2.2<=x.2.2+2:=by
 unfold nar ren
 (repeat' split)<;>(dsimp only;omega)
theorem yoi(A:FA)(d:Ο)(S:FX×Sn):∀n:Nat,(rst A d S n).2.2.2<=S.2.2.2+2*(n:Int)
 |0=>by show S.2.2.2<=S.2.2.2+2*((0:Nat):Int);omega
 |n+1=>by
  have b:=yoi A d S n;have a:=yrv (rst A d S n).2 (chX A (rst A d S n).1) (Ü d (rst A d S n).2 (chX A (rst A d S n).1));show (nar (rst A d S n).2 (chX A (rst A d S n).1) (Ü d (rst A d S n).2 (chX A (rst A d S n).1))).2.2<=_;omega
structure ROk(A:FA)(d:Ο)(S:FX×Sn)(N:Nat):Prop where
 b1:∀j,j<N->uk A d S (9*j)=1
 b0:uk A d S (9*N)=0
 tk:d.take (tL (rst A d S (9*N+1)).2).length=tL (rst A d S (9*N+1)).2
def ROk.uniq{A:FA}{S:FX×Sn}{N M:Nat}(h:ROk A d S N)(b1:∀j,j<M->uk A d S (9*j)=1)(b0:uk A d S (9*M)=0):M=N:=by
 rcases Nat.lt_trichotomy M N with z|z|z
 .have e:=h.b1 M z;rw[b0]at e;cases e
 .exact z
 .have e:=b1 N z;rw[h.b0]at e;cases e
def rTL(A:FA)(d:Ο)(S:FX×Sn)(N:Nat):Nat:=(tL (rst A d S (9*N+1)).2).length
def RGo.fgo{p s:xy}{A:FA}{H0 H H':Hp}{ml el:xy}(S:yx H0 H)(hq:H0 q=none)(hs:H0 s=none)(h:RGo p q s A O H H' ml el O'):FGo p A O H0 H' el O' :=
 ⟨h.he.imp id S.free,λj c g w=>(h.hO j c g w).imp id S.free,λc o e a d b f=>h.fr c o (S _ _ e) a d b (yb e hq) (yb e hs) f,λc o e=>h.live c o (S _ _ e)⟩
#synth yel ["foreteller","data","most","seeker","text","own"] ["foreteller","data","most"] va3
inductive Đ(K:z0)(a:Ads)(vs:Τ)(H:Hp)(Q:VK)(E:XK):Prop
 |mk(p:xy)(A:FA)(X:FX)(f:Α)(O:Β)(m:Nat)(dt:xy)(d:Ο)(mo:Nat)(_:vs=[.ref p,.ref dt,.int mo])(_:jn K a H p A X f O m)(_:H dt=some (.lst (d.map V.int)))(_:dt≠A.el)(_:Byt d)(_:d.length<=12000)(_:mo<=1000)(_:m+54*mo+200<1000000)(_:0<=X.nd)(_:X.sg.length<=10000)(_:(∀(N:Nat)(t r el:xy)(O':Β)(H':Hp),N<=mo->ROk A d (X,s0) N->H t=none->H r=none->H' t=some (.tup [.ref r,.int (rTL A d (X,s0) N)])->H' r=some (.lst ((rtx A d (X,s0) N).map V.int))->FGo p A O H H' el O'->(r≠el/\∃ml pl sl f',jn K a H' p (A.re ml el pl sl) (rst A d (X,s0) (9*N+1)).1 f' O' (m+54*N+6))->Q (.ref t) H'))(_:((∀N,N<=mo->¬ROk A d (X,s0) N)->∀(el:xy)(O':Β)(H':Hp),FGo p A O H H' el O'->E (.ref a.Bq) none H'))
def yom:vx P w K mg Γ (CXe P w) 10 a.Kt a.Nm ["foreteller","data","most"] (Đ K a):=by
 exists T.Ic.F.okE,yel,hr;let⟨p,l,X,f,O,m,dt,d,mo,rfl,hF,v,ac,aa,a3,a7,hm,a8,a4,kQ,kE⟩:=h;refine yf (yu (i:=3) yel.nd rfl (Or.inl rfl) (zi T.Rb (yt9 T) hr.m rfl T.Ra T.Pa.B .nil yr (pa1 (pv 1)))) ?_;refine yf (yu (i:=4) yel.nd rfl (Or.inl rfl) (ur (yxl T) hr.m T.Pf yr (pac (pv 0) (pac (pv 3) (pa1 (pv 2)))))) ?_;refine yf (yu (i:=5) yel.nd rfl (Or.inl rfl) (wg (pv 3) T.Au T.Ia.m (yxb T) hr.m T.Ia.B .nil wo)) ?_;refine yf (wa (yw (ybl hr.units) (yz vn (pv 1) vo (vg (pcB yq T.A9 (pa1 (pv 5))))) (pv 5) (y9 _)) (yd (wn rfl T.Jj T.Jl (pa1 v7))) y8) ?_;exists 3,3,yd (yt (zx (pac (pv 4) (pa1 (pcB yq T.A9 (pa1 (pv 5)))))));intro q G S a6 ah;have Y:yx H (upd (upd H G (.own q)) q (.ins a.An G [])):=λb o e=>by rw[yp (yb e S),yp (yb e a6)];exact e
 exists q,G,.ref dt,_,rfl,ya,.lst (Y _ _ v),.inr ⟨d,ylg (Y _ _ v) aa a3,λpd ps ds H1 U R a9 B1=>⟨rfl,?_⟩⟩;have S1:yx H H1:=λb o e=>B1 b o (Y b o e) (yb e S);have y:H ps=none:=Y.free R;have a2:H pd=none:=Y.free U
 have nO:∀{c:xy},H c=none->∀i,i<l.n->¬O i c:=λD i hi w=>by
  let⟨o,ho,_⟩:=(hF.B.b i hi).own _ w;rw[D]at ho;cases ho
 have hR:È K a H1 p l X f O m q G pd ps ds d s0:=⟨hF.same S1,a9,ve1,λi hi=>⟨nO S i hi,nO y i hi⟩,(yb hF.el a2).symm⟩;ext;exists p,l,(X,s0),f,O,m,q,G,pd,ps,ds,d,mo,rfl,hR,a7,hm,a8,a4,λN r ml el pl sl f2 Z H2 hN L J a5 ae a1 g x=>?_,λW ml el Z H2 x=>?_
 .have ab:=yoi l d (X,s0) (9*N+1);have a0:((X,s0):FX×Sn).2.2.2=5:=rfl;rw[a0]at ab;have go:=x.fgo S1 S y;have af:=g.sk.me;have I:H2 dt=some (.lst (d.map V.int)):=(go.kpa hF).lst v ac;ext;exists q,G,pd,ps,ds,d,_,rfl,g.sk,g.ok,by show Int.toNat _<=100000;omega,λw H3 ai C S3=>?_
  ext;refine uc (SqL.of C) ?_;rw[bz];ext;refine zy (SqL.of (S3 _ _ I)) λu hu=>?_;have ec:Ĩ (d.map V.int) none (some (((tL (rst l d (X,s0) (9*N+1)).2).length:Nat):Int))=(d.take (tL (rst l d (X,s0) (9*N+1)).2).length).map V.int:=by rw[dY];exact x8 _
  rw[ec];exists hu,H4,S4,hu4;have z:=go.same (S3.trans S4);ext;refine vdj _ _ (SqL.of hu4) (SqL.of (S4 _ _ C)) ?_;by_cases D:d.take (tL (rst l d (X,s0) (9*N+1)).2).length=tL (rst l d (X,s0) (9*N+1)).2
  .rw[cT D];ext;refine uc (SqL.of (S4 _ _ C)) ?_;rw[bz];ext;exists by walk_at "len",λt j=>?_
   refine kQ N t r el Z _ hN ⟨L,J,D⟩ (z.free j) (S1.free a5) ya (jw j ((S3.trans S4) _ _ ae)) (z.same (y6 j)) ⟨a1,ml,pl,sl,f2,((g.ft.same (S3.trans S4)).same (y6 j))⟩
  .rw[cX D];ext;exists by walk_at "len",kE (λM hM k=>D (by rw[k.uniq L J];exact k.tk)) el Z _ z
 .exact kE (λM hM k=>by have e:=W M hM;rw[k.b0]at e;cases e) el Z H2 (x.fgo S1 S y)
structure vgy(H:Hp)(L dt:xy)(lx:V)(n:Nat)(lk:Λ)(kd:Ν)(tp:Λ)(ps:Κ)(d:Ο)(mo N w:Nat)(lt:Λ)(tt:Κ):Prop where
 l:H L=some (.lst (refs lk n))
 n1:1<=n
 n6:n<=6
 r:xi H n lk kd tp ps
 dat:H dt=some (.lst (d.map V.int))
 by':Byt d
 dl:d.length<=12000
 mo1:mo<=1000
 lr:vf1 H lx N w lt tt
 w1:w<=1000
 N1:N<=1000
 b:6+6*(N*(9*w+1))+54*mo+200<1000000
def rS(n:Nat)(kd:Ν)(ps:Κ)(pre:Ο):FX×Sn:=((FX0 n kd).run (fa0 n ps) pre,s0)
theorem Ä(A:FA)(d:Ο)(S:FX×Sn):∀k,rst A d S k=rst (fa0 A.n A.ps) d S k
 |0=>rfl
 |k+1=>by
  show rnx A d (rst A d S k)=rnx (fa0 A.n A.ps) d (rst (fa0 A.n A.ps) d S k);rw[Ä A d S k];rfl
def Ø(A:FA)(d:Ο)(S:FX×Sn)(k:Nat):uk A d S k=uk (fa0 A.n A.ps) d S k:=by unfold uk;rw[Ä];rfl
def yqd(A:FA)(d:Ο)(S:FX×Sn)(k:Nat):rsg A d S k=rsg (fa0 A.n A.ps) d S k:=by unfold rsg sgB;rw[Ä];exact congrArg List.sum (List.map_congr_left λj Z=>by rw[Ø])
def yqs(A:FA)(d:Ο)(S:FX×Sn)(k:Nat):rtx A d S k=rtx (fa0 A.n A.ps) d S k:=by unfold rtx;exact List.map_congr_left λj Z=>yqd A d S j
def yrh(A:FA)(d:Ο)(S:FX×Sn)(k:Nat):rTL A d S k=rTL (fa0 A.n A.ps) d S k:=by unfold rTL;rw[Ä]
theorem ROk.fa0{A:FA}{S:FX×Sn}{N:Nat}:ROk A d S N↔ROk (fa0 A.n A.ps) d S N:=by
 constructor
 .intro h;exists λj a=>by rw[<- Ø];exact h.b1 j a,by rw[<- Ø];exact h.b0,by rw[<- Ä];exact h.tk
 .intro h;exists λj a=>by rw[Ø];exact h.b1 j a,by rw[Ø];exact h.b0,by rw[Ä];exact h.tk
def yxx{s t:Int}(hs:0<=s/\s<=255)(ht:0<=t/\t<=255)(h:b8 s=b8 t):s=t:=by have a:=yss hs.1 hs.2;have b:=yss ht.1 ht.2;have h:[s/128%2,s/64%2,s/32%2,s/16%2,s/8%2,s/4%2,s/2%2,s/1%2]=[t/128%2,t/64%2,t/32%2,t/16%2,t/8%2,t/4%2,t/2%2,t/1%2]:=h;injection h with h0 h;injection h with h1 h;injection h with h2 h;injection h with h3 h;injection h with h4 h;injection h with h5 h;injection h with h6 h;injection h with h7 h;omega
def yex{mx:Nat->Int}(hd:Byt d){m:Nat}(hc:∀j,j<m->Ch (mx j))(hb:∀j,j<m->bt j=0\/bt j=1)(i:InS d (snK mx bt m)):∀k,k<m->bt k=Ü d (snK mx bt k) (mx k)/\InS d (snK mx bt k):=by
 induction m with
 |zero=>exact λk b=>absurd b (du k)
 |succ m ih =>
  have e:=(jy (mx:=mx) (bt:=bt) m λj c=>hc j ()).1;let⟨a,f⟩:=yqt hd e (hc m ()) (hb m ()) i;intro k b;by_cases z:k=m
  .rw[z];exists f,a
  .exact ih (λj c=>hc j ()) (λj c=>hb j ()) a k ()
def ymz{k:Nat}(h:k<(dec ts).length):vk ts k=0\/vk ts k=1:=by let⟨a,b⟩:=yk3 ts k h;omega
def ybh(x:Sn):Byt (tL x):=λb a=>yso _ _ b a
theorem ù{n:Nat}{kd:Ν}{ps:Κ}{pre:Ο}(hd:Byt d)(hc:∀j,j<(dec ts).length->Ch (uh n kd ps pre ts j))(hi:InS d (snK (uh n kd ps pre ts) (vk ts) (dec ts).length)):∀k,k<=(dec ts).length->rst (fa0 n ps) d (rS n kd ps pre) k=(fX n kd ps pre ts k,snK (uh n kd ps pre ts) (vk ts) k)
 |0,_=>rfl
 |k+1,hk=>by
  have a:=(yex hd hc (λj c=>ymz c) hi k ()).1;have e:(dec ts)[k]?=some (vk ts k):=by unfold vk;rw[cA ()];rfl
  show rnx (fa0 n ps) d (rst (fa0 n ps) d (rS n kd ps pre) k)=_;rw[ù hd hc hi k ()];show ((fX n kd ps pre ts k).see (fa0 n ps) (Ü d (snK (uh n kd ps pre ts) (vk ts) k) (uh n kd ps pre ts k)),nar (snK (uh n kd ps pre ts) (vk ts) k) (uh n kd ps pre ts k) (Ü d (snK (uh n kd ps pre ts) (vk ts) k) (uh n kd ps pre ts k)))=(fX n kd ps pre ts (k+1),nar (snK (uh n kd ps pre ts) (vk ts) k) (uh n kd ps pre ts k) (vk ts k));rw[<- a]
  have b:fX n kd ps pre ts (k+1)=(fX n kd ps pre ts k).see (fa0 n ps) (vk ts k):=by
   unfold fX;rw[Î e]
  rw[b]
def yhb{n:Nat}{kd:Ν}{ps:Κ}{pre:Ο}(hd:Byt d)(hc:∀j,j<(dec ts).length->Ch (uh n kd ps pre ts j))(hi:InS d (snK (uh n kd ps pre ts) (vk ts) (dec ts).length))(k:Nat)(hk:k<(dec ts).length):uk (fa0 n ps) d (rS n kd ps pre) k=vk ts k:=by have a:=(yex hd hc (λj b=>ymz b) hi k hk).1;unfold uk;rw[ù hd hc hi k ()];exact a.symm
def á(t:Int)(r:Ο)(k:Nat):vk (t::r) (k+9)=vk r k:=rfl
def yfq(t:Int)(r:Ο):∀i,i<8->vk (t::r) (1+i)=t/wB i%2:=λi a=>by
 rcases i with _|_|_|_|_|_|_|_|i
 .rfl
 .rfl
 .rfl
 .rfl
 .rfl
 .rfl
 .rfl
 .rfl
 .omega
theorem É:∀(ts:Ο)(j:Nat)(hj:j<ts.length),vk ts (9*j)=1/\∀i,i<8->vk ts (9*j+1+i)=ts[j]/wB i%2
 |[],j,hj=>absurd hj (du j)
 |t::r,0,_=>⟨rfl,λi a=>by rw[show 9*0+1+i=1+i by omega];exact yfq t r i a⟩
 |t::r,j+1,hj=>by
  let⟨c,b⟩:=É r j (by simpa using hj);exists ?_,λi a=>?_
  .rw[show 9*(j+1)=9*j+9 by omega,á];exact c
  .rw[show 9*(j+1)+1+i=9*j+1+i+9 by omega,á];exact b i a
theorem Ų:∀ts:Ο,vk ts (9*ts.length)=0
 |[]=>rfl
 |t::r=>by
  rw[show 9*(t::r).length=9*r.length+9 by rw[cB];omega,á];exact Ų r
def yd4(A:FA)(d:Ο)(S:FX×Sn)(c i:Nat):uk A d (rst A d S c) i=uk A d S (c+i):=by unfold uk;rw[ycu]
def yh3{n:Nat}{kd:Ν}{ps:Κ}{pre:Ο}(hts:Sgs ts)(hd:Byt d)(hc:∀j,j<(dec ts).length->Ch (uh n kd ps pre ts j))(hl:(tL (snK (uh n kd ps pre ts) (vk ts) (dec ts).length)).length<=d.length)(h:d.take (tL (snK (uh n kd ps pre ts) (vk ts) (dec ts).length)).length=tL (snK (uh n kd ps pre ts) (vk ts) (dec ts).length)):
  ROk (fa0 n ps) d (rS n kd ps pre) ts.length/\rtx (fa0 n ps) d (rS n kd ps pre) ts.length=ts/\rTL (fa0 n ps) d (rS n kd ps pre) ts.length=(tL (snK (uh n kd ps pre ts) (vk ts) (dec ts).length)).length:=by
 have m:=(jy (bt:=vk ts) _ hc).1;have a:=ž hd m hl h;have b:=ut ts
 have g:rst (fa0 n ps) d (rS n kd ps pre) (9*ts.length+1)=(fX n kd ps pre ts (dec ts).length,snK (uh n kd ps pre ts) (vk ts) (dec ts).length):=by
  rw[<- b];exact ù hd hc a _ (cE _)
 have c:=yhb hd hc a;exists⟨λj p=>?_,?_,?_⟩,?_,?_
 .rw[c _ ()];exact(É ts j p).1
 .rw[c _ ()];exact Ų ts
 .rw[g];exact h
 .show (List.range ts.length).map (rsg (fa0 n ps) d (rS n kd ps pre))=ts;refine List.ext_getElem (by rw[bz,dw]) λj q k=>?_;rw[dL,List.getElem_range];have f:=hts ts[j] (dm k);have o:=(É ts j k).2
  have e:∀i,i<8->wB i*uk (fa0 n ps) d (rst (fa0 n ps) d (rS n kd ps pre) (9*j+1)) i=wB i*(ts[j]/wB i%2):=λi a=>by
   rw[yd4,c _ (),o i a]
  have l:sgB (fa0 n ps) d (rst (fa0 n ps) d (rS n kd ps pre) (9*j+1)) 8=(List.range 8).map λi=>wB i*(ts[j]/wB i%2):=by
   unfold sgB;exact List.map_congr_left λi a=>e i (dN.mp a)
  unfold rsg;rw[l];exact yss f.1 f.2
 .unfold rTL;rw[g]
theorem yi8:∀{ts us:Ο},Sgs ts->Sgs us->dec ts=(dec us).take (dec ts).length->ts=us
 |[],[],_,_,_=>rfl
 |[],u::r,_,_,h=>by
  have h:[(0:Int)]=[1]:=h;simp at h
 |t::r,[],_,_,h=>by
  have f:(dec (t::r)).length=9*(r.length+1)+1:=ut (t::r);have i:=congrArg List.length h;rw[cL,f]at i;have j:(dec ([]:Ο)).length=1:=rfl;omega
 |t::r,u::r',ht,hu,h=>by
  have a:∀s:Int,(1::b8 s).length=9:=λZ=>rfl;have h:(1::b8 t)++dec r=((1::b8 u)++dec r').take (((1::b8 t)++dec r).length):=h;rw[bY,a,List.take_append,a,Nat.add_sub_cancel_left,dE (by rw[a];omega)]at h;let⟨d,g⟩:=List.append_inj h (by rw[a,a]);have e:=yxx (ht t (by simp)) (hu u (by simp)) (List.cons.inj d).2;have c:=yi8 (λx b=>ht x (by simp[b])) (λx b=>hu x (by simp[b])) g;rw[e,c]
def yiy{n:Nat}{kd:Ν}{ps:Κ}{pre:Ο}(hts:Sgs ts)(hus:Sgs us)(c1:∀j,j<(dec ts).length->Ch (uh n kd ps pre ts j))(c2:∀j,j<(dec us).length->Ch (uh n kd ps pre us j))
  (h:(tL (snK (uh n kd ps pre ts) (vk ts) (dec ts).length)).take (tL (snK (uh n kd ps pre us) (vk us) (dec us).length)).length=tL (snK (uh n kd ps pre us) (vk us) (dec us).length)):ts=us:=by
 have q:=(jy (bt:=vk ts) _ c1).1;have u:=(jy (bt:=vk us) _ c2).1;have b:=ybh (snK (uh n kd ps pre ts) (vk ts) (dec ts).length);have m:=ž b q (cE _) (dn);have p:=ž b u (by have:=congrArg List.length h;rw[cL]at this;omega) h;generalize tL (snK (uh n kd ps pre ts) (vk ts) (dec ts).length)=d at b m p;have r:=yex b c1 (λj c=>ymz c) m;have t:=yex b c2 (λj c=>ymz c) p
 have a:∀k,k<=(dec ts).length->k<=(dec us).length->(dec ts).take k=(dec us).take k/\snK (uh n kd ps pre ts) (vk ts) k=snK (uh n kd ps pre us) (vk us) k:=by
  intro k
  induction k with
  |zero=>exact λZ Z=>⟨rfl,rfl⟩
  |succ k ih =>
   intro w x;let⟨o,i⟩:=ih () ()
   have l:uh n kd ps pre ts k=uh n kd ps pre us k:=by
    unfold uh fX;rw[o]
   have g:vk ts k=vk us k:=by rw[(r k ()).1,(t k ()).1,i,l]
   exists ?_,?_
   .have s:(dec ts)[k]?=some (vk ts k):=by unfold vk;rw[cA ()];rfl
    have v:(dec us)[k]?=some (vk us k):=by unfold vk;rw[cA ()];rfl
    rw[zu s,zu v,o,g]
   .show nar _ _ _=nar _ _ _;rw[i,l,g]
 rcases Nat.le_total (dec ts).length (dec us).length with f|f
 .obtain⟨e,_⟩:=a _ (cE _) f;rw[dn]at e;exact yi8 hts hus e
 .obtain⟨e,_⟩:=a _ f (cE _);rw[dn]at e;exact(yi8 hus hts e.symm).symm
def ů{ys:Ο}(h1:Byt xs)(h2:Byt ys):Byt (xs++ys):=λb a=>by
 rcases db.mp a with h|h
 .exact h1 b h
 .exact h2 b h
def ux(n:Nat)(kd:Ν)(ps:Κ)(pre ts:Ο):Ο:=tL (snK (uh n kd ps pre ts) (vk ts) (dec ts).length)
def Ÿ{n:Nat}{kd:Ν}{ps:Κ}{pre:Ο}(n1:1<=n)(n6:n<=6)(hp:ybx pre)(hz:ts.length<=300):(ux n kd ps pre ts).length<=5500:=by
 have a:=ut ts;let⟨c,b⟩:=jy (mx:=uh n kd ps pre ts) (bt:=vk ts) (dec ts).length λj Z=>Ĝ n1 n6 hp j;unfold ux;rw[yj8];have:sz (snK (uh n kd ps pre ts) (vk ts) (dec ts).length)<=5500:=by show Int.toNat _<=5500;omega
 omega
def yl5{n:Nat}{kd:Ν}{ps:Κ}{pre bs:Ο}(n1:1<=n)(n6:n<=6)(hp:ybx pre)(hts:Sgs ts)(hb:Byt bs):
  ROk (fa0 n ps) (ux n kd ps pre ts++bs) (rS n kd ps pre) ts.length/\rtx (fa0 n ps) (ux n kd ps pre ts++bs) (rS n kd ps pre) ts.length=ts/\rTL (fa0 n ps) (ux n kd ps pre ts++bs) (rS n kd ps pre) ts.length=(ux n kd ps pre ts).length :=
 yh3 hts (ů (ybh _) hb) (λj Z=>Ĝ n1 n6 hp j) (by rw[bY];exact Nat.le_add_right _ _) List.take_left
def yrk{n:Nat}{kd:Ν}{ps:Κ}{pre bs:Ο}(n1:1<=n)(n6:n<=6)(hp:ybx pre)(hb:Byt bs):(rst (fa0 n ps) (ux n kd ps pre ts++bs) (rS n kd ps pre) (9*ts.length+1)).1=((FX0 n kd).run (fa0 n ps) pre).run (fa0 n ps) (dec ts):=by have b:∀j,j<(dec ts).length->Ch (uh n kd ps pre ts j):=λj Z=>Ĝ n1 n6 hp j;have a:Byt (ux n kd ps pre ts++bs):=ů (ybh _) hb;have c:=ž a (jy (bt:=vk ts) _ b).1 (by rw[bY];exact Nat.le_add_right _ _) List.take_left;rw[<- ut ts,ù a b c _ (cE _)];unfold fX;rw[dn]
def yec(A:FA)(d:Ο)(S:FX×Sn)(j:Nat):(0<=rsg A d S j/\rsg A d S j<=255)/\∀i,i<8->rsg A d S j/wB i%2=uk A d S (9*j+1+i):=by
 have e:rsg A d S j=128*uk A d (rst A d S (9*j+1)) 0+(64*uk A d (rst A d S (9*j+1)) 1+(32*uk A d (rst A d S (9*j+1)) 2+(16*uk A d (rst A d S (9*j+1)) 3+(8*uk A d (rst A d S (9*j+1)) 4+(4*uk A d (rst A d S (9*j+1)) 5+(2*uk A d (rst A d S (9*j+1)) 6+(1*uk A d (rst A d S (9*j+1)) 7+0))))))):=rfl
 have b:∀i,0<=uk A d (rst A d S (9*j+1)) i/\uk A d (rst A d S (9*j+1)) i<=1:=λi=>by
  rcases yj7 A d (rst A d S (9*j+1)) i with z|z<;>(rw[z];decide)
 have r:∀i,uk A d S (9*j+1+i)=uk A d (rst A d S (9*j+1)) i:=λi=>(yd4 A d S (9*j+1) i).symm;generalize rsg A d S j=g at e;have c:=b 0;have h:=b 1;have o:=b 2;have a:=b 3;have m:=b 4;have f:=b 5;have k:=b 6;have n:=b 7;exists by omega,λi l=>?_
 rw[r i];rcases i with _|_|_|_|_|_|_|_|i
 .show g/128%2=uk A d (rst A d S (9*j+1)) 0;omega
 .show g/64%2=uk A d (rst A d S (9*j+1)) 1;omega
 .show g/32%2=uk A d (rst A d S (9*j+1)) 2;omega
 .show g/16%2=uk A d (rst A d S (9*j+1)) 3;omega
 .show g/8%2=uk A d (rst A d S (9*j+1)) 4;omega
 .show g/4%2=uk A d (rst A d S (9*j+1)) 5;omega
 .show g/2%2=uk A d (rst A d S (9*j+1)) 6;omega
 .show g/1%2=uk A d (rst A d S (9*j+1)) 7;omega
 .omega
def yvt{A:FA}{S:FX×Sn}{M:Nat}(h:j<(rtx A d S M).length):(rtx A d S M)[j]=rsg A d S j:=by
 have e:(rtx A d S M)[j]?=some (rsg A d S j):=by
  unfold rtx;rw[cK,dU (by rw[é]at h;exact h)];rfl
 rw[cA h]at e;exact cJ e
def ymo{A:FA}{S:FX×Sn}{M:Nat}(b1:∀j,j<M->uk A d S (9*j)=1)(b0:uk A d S (9*M)=0)(k:Nat)(hk:k<9*M+1):vk (rtx A d S M) k=uk A d S k:=by
 have c:=é A d S M;by_cases z:k=9*M
 .rw[z,b0];have e:=Ų (rtx A d S M);rw[c]at e;exact e
 .have g:k/9<M:=()
  have a:k/9<(rtx A d S M).length:=by rw[c];exact g
  let⟨h,m⟩:=É (rtx A d S M) (k/9) a;by_cases y:k%9=0
  .have e:k=9*(k/9):=()
   rw[e,h,b1 _ g]
  .obtain⟨i,f,l⟩:∃i,i<8/\k=9*(k/9)+1+i:=⟨k%9-1,(),()⟩;have b:=m i f;rw[yvt a,(yec A d S (k/9)).2 i f,<- l]at b;exact b
def yqz(A:FA)(d:Ο)(S:FX×Sn)(M:Nat):Sgs (rtx A d S M):=λx a=>by
 let⟨j,_,rfl⟩:=cI.mp a;exact(yec A d S j).1
theorem yip{n:Nat}{kd:Ν}{ps:Κ}{pre:Ο}(hb:∀k,k<(dec us).length->vk us k=uk (fa0 n ps) d (rS n kd ps pre) k):∀k,k<=(dec us).length->rst (fa0 n ps) d (rS n kd ps pre) k=(fX n kd ps pre us k,snK (uh n kd ps pre us) (vk us) k)
 |0,_=>rfl
 |k+1,hk=>by
  have b:=yip hb k ()
  have c:vk us k=Ü d (snK (uh n kd ps pre us) (vk us) k) (uh n kd ps pre us k):=by
   rw[hb k ()];show Ü d (rst (fa0 n ps) d (rS n kd ps pre) k).2 (chX (fa0 n ps) (rst (fa0 n ps) d (rS n kd ps pre) k).1)=_;rw[b];rfl
  have a:(dec us)[k]?=some (vk us k):=by unfold vk;rw[cA ()];rfl
  show rnx (fa0 n ps) d (rst (fa0 n ps) d (rS n kd ps pre) k)=_;rw[b];show ((fX n kd ps pre us k).see (fa0 n ps) (Ü d (snK (uh n kd ps pre us) (vk us) k) (uh n kd ps pre us k)),nar (snK (uh n kd ps pre us) (vk us) k) (uh n kd ps pre us k) (Ü d (snK (uh n kd ps pre us) (vk us) k) (uh n kd ps pre us k)))=(fX n kd ps pre us (k+1),nar (snK (uh n kd ps pre us) (vk us) k) (uh n kd ps pre us k) (vk us k));rw[<- c]
  have e:fX n kd ps pre us (k+1)=(fX n kd ps pre us k).see (fa0 n ps) (vk us k):=by
   unfold fX;rw[Î a]
  rw[e]
def yhy{n:Nat}{kd:Ν}{ps:Κ}{pre:Ο}{M:Nat}(h:ROk (fa0 n ps) d (rS n kd ps pre) M):
  ux n kd ps pre (rtx (fa0 n ps) d (rS n kd ps pre) M)=d.take (rTL (fa0 n ps) d (rS n kd ps pre) M)/\(ux n kd ps pre (rtx (fa0 n ps) d (rS n kd ps pre) M)).length=rTL (fa0 n ps) d (rS n kd ps pre) M:=by
 have a:=ut (rtx (fa0 n ps) d (rS n kd ps pre) M);rw[é]at a;have e:=yip (n:=n) (kd:=kd) (ps:=ps) (pre:=pre) (us:=rtx (fa0 n ps) d (rS n kd ps pre) M) (d:=d) (λk c=>ymo h.b1 h.b0 k ()) _ (cE _)
 have b:ux n kd ps pre (rtx (fa0 n ps) d (rS n kd ps pre) M)=tL (rst (fa0 n ps) d (rS n kd ps pre) (9*M+1)).2:=by
  rw[<- a,e];rfl
 rw[b];exists h.tk.symm,rfl
def vdx{x:Sn}{c b:Int}(h:Ok x)(hc:Ch c):(nar x c b).2.1<1099511627776:=by
 let⟨d,e,a⟩:=ybg h.w0 h.w1 hc;have f:=h.w1;unfold nar ren
 (repeat' split)<;>(dsimp only at*;omega)
def ylp{n:Nat}{kd:Ν}{ps:Κ}{pre:Ο}(n1:1<=n)(n6:n<=6)(hp:ybx pre):1<=(ux n kd ps pre ts).length:=by
 have e:=ut ts;obtain⟨m,g⟩:∃m,(dec ts).length=m+1:=⟨9*ts.length,()⟩;unfold ux;rw[yj8,g];have a:∀j,j<m+1->Ch (uh n kd ps pre ts j):=λj Z=>Ĝ n1 n6 hp j;have d:=(jy (bt:=vk ts) m λj i=>a j ()).1;have c:=(jy (bt:=vk ts) (m+1) a).1;have l:(snK (uh n kd ps pre ts) (vk ts) (m+1)).2.1<1099511627776:=vdx (x:=snK (uh n kd ps pre ts) (vk ts) m) (b:=vk ts m) d.ok (a m ());have k:=yig (ż c.ok);have h:=c.sz5;have f:pw (tK (snK (uh n kd ps pre ts) (vk ts) (m+1)))<pw 5:=by rw[pw5];omega
 have:=yzs f;omega
def jq(L:qi (Ο)):Ο:=(L.map dec).flatten
def yay(L:qi (Ο))(t:Ο):jq (L++[t])=jq L++dec t:=by unfold jq;rw[cM,List.flatten_append];simp
def u6(L:qi (Ο)):ybx (jq L):=λb a=>by
 unfold jq at a;let⟨l,c,a⟩:=List.mem_flatten.mp a;let⟨t,_,rfl⟩:=cI.mp c;exact Í t b a
def yl4{A:FA}{X:FX}(hts:Sgs ts)(h1:X.sg=[])(h2:X.nd=0):(X.run A (dec ts)).sg=[]/\(X.run A (dec ts)).nd=0:=by
 have a:∀k,k<=(dec ts).length->TxE ts k (X.run A ((dec ts).take k)).sg (X.run A ((dec ts).take k)).nd:=by
  intro k
  induction k with
  |zero =>
   intro _;exact .inl ⟨dg _,by show yde _ _ X.sg X.nd;rw[h1,h2];exact yde.zero _⟩
  |succ k ih =>
   intro d;have b:(dec ts)[k]?=some ((dec ts)[k]'()):=cA _;rw[Î b];exact((ih ()).next hts b).2
 have e:=a _ (cE _);rw[dn]at e;have c:=ut ts;rcases e with⟨h,_⟩|⟨_,h⟩
 .omega
 .exact h
def ys8(p:xy)(A:FA)(O:Β):Μ:=λc=>c=p\/c=A.mp\/(∃j,j<A.n/\c=A.bk j)\/(∃j,j<A.n/\O j c)\/c=A.el
def FZ(K:z0)(a:Ads)(H:Hp)(p:xy)(n:Nat)(kd:Ν)(ps:Κ)(pre:Ο)(M:Nat)(W:Μ):Prop :=
 ∃A f O m,jn K a H p A ((FX0 n kd).run (fa0 n ps) pre) f O m/\m<=M/\vcl H A/\A.n=n/\A.kd=kd/\A.ps=ps/\((FX0 n kd).run (fa0 n ps) pre).sg=[]/\((FX0 n kd).run (fa0 n ps) pre).nd=0/\∀c,W c↔ys8 p A O c
noncomputable def vcw:HO->Bool
 | .ins _ _ _=>true
 | .dT _=>true
 | .dK _=>true
 | .frz _ (.dK _)=>true
 |_=>false
def vfr(o:qj HO):Prop:=(∃ys,o=some (.lst ys))\/∃ys,o=some (.tup ys)/\(ys.length≠2\/∃i,ys[0]?=some (.int i))
noncomputable def vgu:V->Bool
 | .non=>true
 | .bl _=>true
 |_=>false
def WSh(H:Hp)(W:Μ):Prop:=∀c,W c->∃o,H c=some o/\(vcw o=true\/∃xs,o=.lst xs/\∀x∈xs,(∃s,x=V.str s)\/vgu x=true\/∃q,x=V.ref q/\vfr (H q))
def yr2{o:HO}(h:vcq o=true):vcw o=true:=by cases o<;>first|rfl|cases h
section
variable{H H':Hp}{p:xy}{n:Nat}{kd:Ν}{ps:Κ}{pre:Ο}{M:Nat}{W:Μ}
def FZ.sh(h:FZ K a H p n kd ps pre M W):WSh H W:=λc w=>by
 let⟨A,f,O,m,d,_,_,_,_,_,k,_,e⟩:=h;rcases (e c).mp w with z|z|⟨j,g,z⟩|⟨j,g,z⟩|z
 .exists _,by rw[z];exact d.me,.inl rfl
 .exists _,by rw[z];exact d.mx.o,.inl rfl
 .exists _,by rw[z];exact(d.B.b j g).me,.inl rfl
 .obtain⟨o,q,r⟩:=(d.B.b j g).own c z;exists o,q,.inl (yr2 r)
 .have i:=d.el;rw[k]at i;exists _,by rw[z];exact i,.inr ⟨_,rfl,λx l=>by cases l⟩
def FZ.live(h:FZ K a H p n kd ps pre M W):∀c,W c->∃o,H c=some o:=λc w=>let ⟨o,e,_⟩:=h.sh c w;⟨o,e⟩
theorem FZ.same(h:FZ K a H p n kd ps pre M W)(S:yx H H'):FZ K a H' p n kd ps pre M W:=by let⟨A,f,O,m,d,b,c,r⟩:=h;exists A,f,O,m,d.same S,b,c.same S,r
def FZ.up(h:FZ K a H p n kd ps pre M W){M':Nat}(hM:M<=M'):FZ K a H p n kd ps pre M' W:=by let⟨A,f,O,m,c,b,r⟩:=h;exists A,f,O,m,c,dB b hM,r
theorem WSh.tup(h:WSh H W){c:xy}{xs:Τ}(e:H c=some (.tup xs)):¬W c:=λw=>by
 obtain⟨o,a,z|⟨b,z,_⟩⟩:=h c w
 .rw[e]at a;cases a;cases z
 .rw[e,z]at a;cases a
def WSh.ints(h:WSh H W){c:xy}{ns:Ο}(e:H c=some (.lst (ns.map V.int)))(hn:1<=ns.length):¬W c:=λw=>by
 obtain⟨o,a,z|⟨b,z,q⟩⟩:=h c w
 .rw[e]at a;cases a;cases z
 .rw[e,z]at a;cases a
  cases ns with
  |nil=>cases hn
  |cons x r=>rcases q (.int x) dQ with⟨_,z⟩|z|⟨_,z,_⟩<;>cases z
theorem WSh.refs(h:WSh H W){c:xy}{g:Λ}{k:Nat}(e:H c=some (.lst (Law.refs g k)))(hk:1<=k)(hg:¬vfr (H (g 0))):¬W c:=λw=>by
 obtain⟨o,a,z|⟨f,z,q⟩⟩:=h c w
 .rw[e]at a;cases a;cases z
 .rw[e,z]at a;cases a;rcases q (.ref (g 0)) (cN (yqo hk))with⟨_,z⟩|z|⟨d,z,b⟩
  .cases z
  .cases z
  .cases z;exact hg b
theorem FZ.frame(h:FZ K a H p n kd ps pre M W)(sh:WSh H W2)(dj:∀c,W c->¬W2 c)(fr:∀c o,H c=some o->¬W2 c->H' c=some o):FZ K a H' p n kd ps pre M W:=by
 let⟨A,f,O,m,d,U,v,R,X,e3,N,L,q⟩:=h;have k:=d.n1;let⟨P,j⟩:=v.2.2
 have F:¬W2 A.ll:=sh.refs v.1 k λz=>by
  let⟨J,e,u,_⟩:=j 0 k;cases e;rw[u]at z;rcases z with⟨_,z⟩|⟨_,z,s⟩
  .cases z
  .cases z;exact s.elim (λs=>s rfl) λ⟨_,s⟩=>nomatch s
 have G:¬W2 A.bl:=sh.refs d.bl k λz=>by rw[(d.B.b 0 k).me]at z;rcases z with⟨_,z⟩|⟨_,z,_⟩<;>cases z
 have y:¬W2 A.pl:=sh.refs d.pl k λz=>by
  let⟨_,⟨Z,Y⟩,_,_⟩:=d.slot k;let⟨C,fs,T⟩:=Œ a Z (((FX0 n kd).run (fa0 n ps) pre).g 0 (((FX0 n kd).run (fa0 n ps) pre).key A 0));rw[Y,T]at z;rcases z with⟨_,z⟩|⟨_,z,_⟩<;>cases z
 have E:¬W2 A.ml:=sh.ints d.mx.l (by rw[d.wok.len];exact k);exists A,f,O,m,d.frame (O2:=W2) (λc o e S=>fr c o e S) (dj _ ((q _).mpr (.inl rfl))) (dj _ ((q _).mpr (.inr (.inl rfl)))) (λi r=>dj _ ((q _).mpr (.inr (.inr (.inl ⟨i,r,rfl⟩))))) (λi c r w=>dj _ ((q _).mpr (.inr (.inr (.inr (.inl ⟨i,r,w⟩)))))) (λl xs D e=>fr _ _ e ?_) (λt xs e=>?_),U,⟨fr _ _ v.1 F,v.2.1,P,λi r=>?_⟩,R,X,e3,N,L,q
 .rcases D with z|z|z|z
  .rw[z];exact G
  .rw[z];exact dj _ ((q _).mpr (.inr (.inr (.inr (.inr rfl)))))
  .rw[z];exact E
  .rw[z];exact y
 .rcases e with(e|⟨o,e⟩)|e
  .exact .inl (.inl (fr _ _ e (sh.tup e)))
  .refine .inl (.inr ⟨o,fr _ _ e λw=>?_⟩);obtain⟨o',x,z|⟨ys,z,_⟩⟩:=sh t w
   .rw[e]at x;cases x;cases z
   .rw[e,z]at x;cases x
  .exact .inr e
 .obtain⟨J,z,u,I,Q⟩:=j i r;exists J,z,fr _ _ u (sh.tup u),fr _ _ I (sh.tup I),Q
def FZ.went{A:FA}{f f':Α}{m:Nat}{X:FX}{ml el pl:xy}{sl:Λ}(hF:jn K a H p A ((FX0 A.n A.kd).run (fa0 A.n A.ps) pre) f O m)(hl:vcl H A)(hX:X=(FX0 A.n A.kd).run (fa0 A.n A.ps) (pre++dec ts))(hts:Sgs ts)(h4:((FX0 A.n A.kd).run (fa0 A.n A.ps) pre).sg=[])(h5:((FX0 A.n A.kd).run (fa0 A.n A.ps) pre).nd=0)
  (hF':jn K a H' p (A.re ml el pl sl) X f' O' m') (go:FGo p A O H H' el O') (e6:∀c,W c↔ys8 p A O c):FZ K a H' p A.n A.kd A.ps (pre++dec ts) m' (ys8 p (A.re ml el pl sl) O')/\Go W H H' (ys8 p (A.re ml el pl sl) O'):=by
 subst hX;have h:=go.kpa hF;have d:=yl4 (A:=fa0 A.n A.ps) hts h4 h5;exists⟨_,f',O',m',hF',cE _,⟨(h _ _ hl.1 rfl hl.2.1).2,(h _ _ hl.1 rfl hl.2.1).1,?_⟩,rfl,rfl,rfl,by rw[ç];exact d.1,by rw[ç];exact d.2,λc=>Iff.rfl⟩,⟨λc o e u=>?_,λc w=>?_,go.live⟩
 .obtain⟨B,r⟩:=hl.2.2;exists B,λi t=>?_;let⟨x,z,l,q,s⟩:=r i t;have k:∀{c:xy}{xs:Τ},H c=some (.tup xs)->c≠A.el:=λe z=>by rw[z,hF.el]at e;cases e
  exists x,z,(h _ _ l rfl (k l)).2,(h _ _ q rfl (k q)).2,s
 .have b:¬ys8 p A O c:=λw=>u ((e6 c).mpr w);exact go.fr c o e (λz=>b (.inl z)) (λz=>b (.inr (.inl z))) (λz=>b (.inr (.inr (.inr (.inr z))))) λj g w=>b (.inr (.inr (.inr (.inl ⟨j,g,w⟩))))
 .rcases w with z|z|⟨j,g,z⟩|⟨j,g,z⟩|z
  .exact .inl ((e6 c).mpr (.inl z))
  .exact .inl ((e6 c).mpr (.inr (.inl z)))
  .exact .inl ((e6 c).mpr (.inr (.inr (.inl ⟨j,g,z⟩))))
  .rcases go.hO j c g z with v|v
   .exact .inl ((e6 c).mpr (.inr (.inr (.inr (.inl ⟨j,g,v⟩)))))
   .exact .inr v
  .rcases go.he with y|y
   .exact .inl ((e6 c).mpr (.inr (.inr (.inr (.inr (show c=A.el from Eq.trans z y))))))
   .exact .inr (by rw[show c=el from z];exact y)
def FZ.read{Q:VK}{E:XK}{dt:xy}{bs:Ο}{mo:Nat}(h:FZ K a H p n kd ps pre M W)(hb:ybx pre)(hts:Sgs ts)(hdt:H dt=some (.lst ((ux n kd ps pre ts++bs).map V.int)))(ndt:¬W dt)(hbs:Byt bs)(hdl:(ux n kd ps pre ts++bs).length<=12000)(hz:ts.length<=mo)(hmo:mo<=1000)(hM:M+54*mo+200<1000000)
  (k:∀t r W' H',H t=none->H r=none->H' t=some (.tup [.ref r,.int ((ux n kd ps pre ts).length:Nat)])->H' r=some (.lst (ts.map V.int))->FZ K a H' p n kd ps (pre++dec ts) (M+6*(dec ts).length) W'->Go W H H' W'->¬W' r->Q (.ref t) H'):Đ K a [.ref p,.ref dt,.int mo] H Q E:=by
 let⟨A,f,O,m,l,hm,hl,rfl,rfl,rfl,R,P,T⟩:=h;let⟨s,D,v⟩:=yl5 (kd:=A.kd) (ps:=A.ps) (pre:=pre) (bs:=bs) l.n1 l.n6 hb hts hbs;have I:Byt (ux A.n A.kd A.ps pre ts++bs):=ů (ybh _) hbs;exists p,A,_,f,O,m,dt,_,mo,rfl,l,hdt,λz=>ndt ((T _).mpr (.inr (.inr (.inr (.inr z))))),I,hdl,hmo,(),by rw[P];decide,by rw[R];exact dg _,λN t r G O' H' hN i F C q d S c=>?_,λu G O' H' S=>?_
 .rw[ROk.fa0]at i;obtain rfl:N=ts.length:=s.uniq i.b1 i.b0;rw[yrh]at q;rw[yqs]at d;have q:H' t=some (.tup [.ref r,.int (rTL (fa0 A.n A.ps) (ux A.n A.kd A.ps pre ts++bs) (rS A.n A.kd A.ps pre) ts.length)]):=q;have d:H' r=some (.lst ((rtx (fa0 A.n A.ps) (ux A.n A.kd A.ps pre ts++bs) (rS A.n A.kd A.ps pre) ts.length).map V.int)):=d;rw[v]at q;rw[D]at d;let⟨y,Y,U,L,f',c⟩:=c;have x:=ut ts
  have Z:(rst A (ux A.n A.kd A.ps pre ts++bs) ((FX0 A.n A.kd).run (fa0 A.n A.ps) pre,s0) (9*ts.length+1)).1=(FX0 A.n A.kd).run (fa0 A.n A.ps) (pre++dec ts):=by
   rw[Ä,ç];exact yrk l.n1 l.n6 hb hbs
  let⟨z,g⟩:=FZ.went l hl Z hts R P c S T;refine k t r _ H' F C q d (z.up ()) g λw=>?_;rcases w with w|w|⟨j,J,w⟩|⟨j,J,w⟩|w
  .have e:=c.me;rw[<- w,d]at e;cases e
  .have e:=c.mx.o;rw[show r=(A.re Y G U L).mp from w]at d;rw[d]at e;cases e
  .have e:=(c.B.b j J).me;rw[show r=(A.re Y G U L).bk j from w]at d;rw[d]at e;cases e
  .obtain⟨o,X,hi⟩:=(c.B.b j J).own _ w;rw[d]at X;cases X;cases hi
  .exact y w
 .exact(u ts.length hz (by rw[ROk.fa0];exact s)).elim
def FZ.press{Q:VK}{E:XK}{tx:xy}(h:FZ K a H p n kd ps pre M W)(htx:Ĥ H tx ts 1000)(ntx:¬W tx)(hM:M+6*(dec ts).length+20<1000000)
  (k:∀r W' H',H r=none->H' r=some (.lst ((ux n kd ps pre ts).map V.int))->FZ K a H' p n kd ps (pre++dec ts) (M+6*(dec ts).length) W'->Go W H H' W'->Q (.ref r) H'):ydj K a [.ref p,.ref tx] H Q E:=by
 let⟨A,f,O,m,l,B,w,rfl,rfl,rfl,i,d,o⟩:=h;exists p,A,_,f,O,m,tx,ts,rfl,l,i,d,htx,λz=>ntx ((o _).mpr (.inr (.inr (.inr (.inr z))))),(),λr I G C x y D F H' c v b u q=>?_
 have t:((FX0 A.n A.kd).run (fa0 A.n A.ps) pre).run A (dec ts)=(FX0 A.n A.kd).run (fa0 A.n A.ps) (pre++dec ts):=by rw[ç];exact ycs A _ _
 let⟨z,g⟩:=FZ.went l w t htx.s i d b q o;refine k r _ H' c ?_ (z.up ()) g;rw[v];have e:snK (ygg A ((FX0 A.n A.kd).run (fa0 A.n A.ps) pre) ts) (vk ts) (dec ts).length=snK (uh A.n A.kd A.ps pre ts) (vk ts) (dec ts).length:=ybe _ λj Z=>⟨by unfold uh ygg fX;rw[ycs A];rfl,rfl⟩;rw[e];rfl
end
noncomputable def nmL(L:Η):Τ:=L.map λx=>V.str x.1
def ybv(H:Hp)(U:Μ):qi (Str×qi Int)->qi V->Prop
 |[],ks=>ks=[]
 |x::r,ks=>∃k ks',ks=k::ks'/\(k=.non\/∃q,k=.ref q/\H q=some (.lst (x.2.map V.int))/\¬U q)/\ybv H U r ks'
theorem ybv.len{H:Hp}:∀{L:Η}{ks:Τ},ybv H U L ks->ks.length=L.length
 |[],_,h=>by rw[show _=_ from h];rfl
 |_::r,_,⟨_,_,e,_,h⟩=>by rw[e,cB,cB,h.len]
theorem ybv.mono{H H':Hp}(f:∀q xs,H q=some (.lst xs)->¬U q->H' q=some (.lst xs)/\¬U' q):∀{L:Η}{ks:Τ},ybv H U L ks->ybv H' U' L ks
 |[],_,h=>h
 |_::_,_,⟨k,ks',e,z,h⟩=>⟨k,ks',e,z.imp id λ⟨q,e,a,b⟩=>⟨q,e,f q _ a b⟩,h.mono f⟩
theorem ybv.snoc{H:Hp}{nm:Str}{t:Ο}{k:V}(hk:k=.non\/∃q,k=.ref q/\H q=some (.lst (t.map V.int))/\¬U q):∀{L:Η}{ks:Τ},ybv H U L ks->ybv H U (L++[(nm,t)]) (ks++[k])
 |[],_,h=>by rw[show _=_ from h];exists k,[],rfl,hk,rfl
 |_::_,_,⟨k',ks',e,z,h⟩=>⟨k',ks'++[k],by rw[e];rfl,z,h.snoc hk⟩
theorem ybv.mem{H:Hp}:∀{L:Η}{ks:Τ},ybv H U L ks->∀x∈ks,x=.non\/∃q ys,x=.ref q/\H q=some (.lst ys)/\¬U q
 |[],_,h,x,hx=>by rw[show _=_ from h]at hx;cases hx
 |_::_,_,⟨k,ks',e,z,h⟩,x,hx=>by
  rw[e]at hx;rcases cS.mp hx with y|y
  .rw[y];exact z.imp id λ⟨q,e,a,b⟩=>⟨q,_,e,a,b⟩
  .exact h.mem x y
def ChW(ll tl:xy)(W:Μ):Μ:=λc=>c=ll\/c=tl\/W c
structure Ú(K:z0)(a:Ads)(H:Hp)(c dc p ll tl:xy)(n:Nat)(kd:Ν)(ps:Κ)(L:Η)(ks:Τ)(M:Nat)(W:Μ):Prop where
 me:H c=some (.ins a.A1 dc (jv (.ref p) (.ref ll) (.ref tl)))
 fz:FZ K a H p n kd ps (jq (L.map (·.2))) M W
 hl:H ll=some (.lst (nmL L))
 ht:H tl=some (.lst ks)
 tx:ybv H (ChW ll tl W) L ks
 nc:¬W c
 nll:¬W ll
 ntl:¬W tl
 ne:ll≠tl
def FZ.new{H:Hp}{p dp l:xy}{n:Nat}{lk:Λ}{kd:Ν}{ps:Κ}{Q:VK}{E:XK}(np:H p=none)(ndp:H dp=none)(hl:H l=some (.lst (refs lk n)))(n1:1<=n)(n6:n<=6)(r:xi H n lk kd tp ps)
  (k:∀W H',FZ K a H' p n kd ps [] 6 W->(∀c,W c->H c=none)->yx H H'->(∀y xs H'',H y=some (.lst xs)->But y H' H''->FZ K a H'' p n kd ps [] 6 W)->Q .non H'):yd0 K a [.ref p,.ref l] (upd (upd H dp (.own p)) p (.ins a.A5 dp [])) Q E:=by
 have d:yx H (upd (upd H dp (.own p)) p (.ins a.A5 dp [])):=λb o e=>by rw[yp (yb e np),yp (yb e ndp)];exact e
 exists p,dp,.ref l,rfl,ya,.inr ⟨l,n,lk,kd,tp,ps,rfl,d _ _ hl,n1,n6,r.same d,λA f O G U X=>?_⟩;have B:yx H G:=λb o e=>X b o (d b o e) (yb e np);let⟨m,rfl,rfl,rfl,rfl,L,N,S,P,s,u,D⟩:=U;refine k (ys8 p A O) G ⟨A,f,O,6,m,cE _,⟨s,u,tp,r.same B⟩,rfl,rfl,rfl,rfl,rfl,λc=>Iff.rfl⟩ (λc w=>?_) B (λy xs H2 T b=>?_)
 .rcases w with z|z|⟨j,J,z⟩|⟨j,J,z⟩|z
  .rw[z];exact np
  .rw[z];exact d.free S
  .rw[z];exact d.free (N j J)
  .exact d.free (L j c J z)
  .exact d.free (P c (.inr (.inl z)))
 .have g:∀{x:xy},H x=none->x≠y:=λ{x}e z=>by rw[z,T]at e;cases e
  have h:=B _ _ T;have I:∀{x:xy}{v:Τ},G x=some (.tup v)->x≠y:=λ{x v}e z=>by rw[z,h]at e;cases e
  exists A,f,O,6,m.frame (O2:=λc=>c=y) (λc o e Z=>b c o e Z) (g np) (g (d.free S)) (λi q=>g (d.free (N i q))) (λi c q w=>g (d.free (L i c q w))) (λl v F e=>b _ _ e (g (d.free (P l F)))) (λt v e=>?_),cE _,⟨b _ _ s (g (d.free D)),u,tp,λi q=>?_⟩,rfl,rfl,rfl,rfl,rfl,λc=>Iff.rfl
  .rcases e with(e|⟨o,e⟩)|e
   .exact .inl (.inl (b _ _ e (I e)))
   .exact .inl (.inr ⟨o,b _ _ e (λz=>by rw[z,h]at e;cases e)⟩)
   .exact .inr e
  .obtain⟨C,e,M,R,Y⟩:=r.same B i q;exists C,e,b _ _ M (I M),b _ _ R (I R),Y
@[irreducible] def ygh(c:Nat):Bool:=!(Builtin.Str.occurrences "abcdefghijklmnopqrstuvwxyz" ⟨#[c]⟩ 0 (Str.length "abcdefghijklmnopqrstuvwxyz") 1).isEmpty
noncomputable def nmS(x:Str):Bool:=decide (1<=(x.length:Int)) && (decide ((x.length:Int)<=8) && x.cps.toList.all ygh)
def nmV:V->Bool
 | .str x=>nmS x
 |_=>false
def ysc(x:Str):(List.range x.cps.size).map (λi=>V.bl (ygh (x.cps.toList.getD i 0)))=(x.cps.toList.map ygh).map V.bl:=by
 rw[dD];refine List.ext_getElem? λi=>?_;rw[cK,cK];by_cases hi:i<x.cps.size
 .rw[dU hi,cA (by rw[d9];exact hi),d8,d8,ed,cA (by rw[d9];exact hi),Option.getD_some,Function.comp_apply]
 .rw[dv (by rw[dw];omega),dv (by rw[d9];omega),Option.map_none,Option.map_none]
def yt4{x:Str}(h1:(1:Int)<=(x.length:Int))(h8:(x.length:Int)<=8):nmV (.str x)=(x.cps.toList.map ygh).all id:=by
 have e:nmV (.str x)=nmS x:=by unfold nmV;rfl
 rw[e];unfold nmS;rw[cT h1,cT h8,List.all_map,Function.id_comp,Bool.true_and,Bool.true_and]
def ywt{x:Str}(h8:¬(x.length:Int)<=8):nmV (.str x)=false:=by
 have e:nmV (.str x)=nmS x:=by unfold nmV;rfl
 rw[e];unfold nmS;rw[cX h8,Bool.false_and,Bool.and_false]
def yyi{x:Str}(h1:¬(1:Int)<=(x.length:Int)):nmV (.str x)=false:=by
 have e:nmV (.str x)=nmS x:=by unfold nmV;rfl
 rw[e];unfold nmS;rw[cX h1,Bool.false_and]
def yu6{x:V}(h:nmV x=true):∃b,x=.str b/\nmS b=true:=by
 cases x with
 |str b=>exact⟨b,rfl,h⟩
 |_=>cases h
def uu{x:Str}(h:nmS x=true):x.length<=8:=by unfold nmS at h;simp only[cZ,decide_eq_true_eq]at h;have:=h.2.1;omega
noncomputable def smS:Str:=Str.ofString "abcdefghijklmnopqrstuvwxyz"
def ŉ:smS.length=26:=by right
def yei:∀i,i<26->smS.cps[i]?=some (97+i):=by right
def ys0{i:Int}(h0:0<=i)(h1:i<26):smS.cps[i.toNat]?=some (97+i.toNat):=yei _ ()
def yvr:∀i,i<26->ygh (97+i)=true:=by right
def Û(l:qi Nat):Prop:=∀c,c∈l->97<=c/\c<123
def Û.app{l m:qi Nat}(h:Û l)(g:Û m):Û (l++m):=λc a=>(db.mp a).elim (h c) (g c)
def Û.one{c:Nat}(h:97<=c/\c<123):Û [c]:=λd a=>by rw[cR.mp a];exact h
theorem Û.take{l:qi Nat}(h:Û l)(k:Nat):Û (l.take k):=λc a=>h c (dF a)
theorem Û.drop{l:qi Nat}(h:Û l)(k:Nat):Û (l.drop k):=λc a=>h c (List.mem_of_mem_drop a)
def yz3{x:Str}(h:Û x.cps.toList)(h1:1<=x.cps.toList.length)(h8:x.cps.toList.length<=8):nmS x=true/\PyData.strOk x=true:=by
 have e:x.length=x.cps.toList.length:=by simp[Str.length]
 exists ?_,?_
 .unfold nmS;rw[cT (),cT (),Bool.true_and,Bool.true_and,List.all_eq_true];intro c a;let⟨d,b⟩:=h c a;have:=yvr (c-97) ()
  rwa[show 97+(c-97)=c by omega]at this
 .unfold PyData.strOk;rw[<- Array.all_toList,List.all_eq_true];intro c a;let⟨d,b⟩:=h c a;exact cT ()
def ĝ(x y:Str):(x++y).cps.toList=x.cps.toList++y.cps.toList:=by rw[PySem.Str.cps_append,Array.toList_append]
def u7(x:Str):x.length=x.cps.toList.length:=by simp[Str.length]
noncomputable def ym8(z:Str)(j:Nat)(c:Nat):Str:=Txt.slice z none (some (j:Int))++⟨#[c]⟩++Txt.slice z (some (j:Int)) none
def Ò{z:Str}{c:Nat}(hj:j<=z.length):(ym8 z j c).cps.toList=z.cps.toList.take j++[c]++z.cps.toList.drop j:=by unfold ym8;rw[ĝ,ĝ,yl1 hj,yfj hj]
def yr5{z:Str}{c:Nat}(hj:j<=z.length)(hz:Û z.cps.toList)(hc:97<=c/\c<123)(h7:z.length<=7):nmS (ym8 z j c)=true/\PyData.strOk (ym8 z j c)=true:=by
 have e:=u7 z;refine yz3 ?_ ?_ ?_
 .rw[Ò hj];exact((hz.take j).app (.one hc)).app (hz.drop j)
 .rw[Ò hj];simp;omega
 .rw[Ò hj,bY,bY,cL,df,dI];omega
def yln{z:Str}{c d:Nat}(hj:j<=z.length)(e:ym8 z j c=ym8 z j d):c=d:=by have h:=congrArg (λx:Str=>x.cps.toList) e;simp only[Ò hj]at h;rw[cH,cH]at h;have a:=List.append_cancel_left h;simp at a;exact a
def yhm{z:Str}(hj:j<=z.length)(o m:Nat):((List.range m).map λi=>ym8 z j (97+o+i)).Nodup :=
 List.Pairwise.map (R:=λa b=>a≠b) _ (λa b h e=>h (by have:=yln hj e;omega)) List.nodup_range
theorem đ{H:Hp}:∀ns:Ρ,ypx K H (ns.map V.str) (ns.map PyData.str)
 |[]=>.nil
 |n::r=>.cons (.str n) (đ r)
theorem ą:∀ns:Ρ,(∀x,x∈ns->PyData.strOk x=true)->PyData.canLayAll0 (ns.map PyData.str)=true
 |[],_=>rfl
 |x::r,h=>by simp[PyData.canLayAll0,PyData.canLay0,h x dQ,ą r λy a=>h y (dz _ a)]
theorem ņ:∀ns:Ρ,PyData.depthAll (ns.map PyData.str)=0
 |[]=>rfl
 |_::r=>by simp[PyData.depthAll,PyData.depth,ņ r]
def Č(ns:Ρ)(h:∀x,x∈ns->PyData.strOk x=true):SeqAt.shaped (.list (ns.map PyData.str))=true:=by simp[SeqAt.shaped,PyData.canLay0,PyData.depth,ą ns h,ņ]
theorem Ĉ:∀ns ms:Ρ,PyData.eqvAll (ns.map PyData.str) (ms.map PyData.str)=decide (ns=ms)
 |[],[]=>by simp[PyData.eqvAll]
 |[],_::_=>by simp[PyData.eqvAll]
 |_::_,[]=>by simp[PyData.eqvAll]
 |a::r,b::t=>by
  simp only[dC,PyData.eqvAll,PyData.eqv,Ĉ r t];by_cases h:a=b<;>by_cases h':r=t<;>simp[h,h']
def ypf{g:Bool->Bool}{H:Hp}{Q:VK}{a b:xy}(ns ms:Ρ)(hn:∀x,x∈ns->PyData.strOk x=true)(hm:∀x,x∈ms->PyData.strOk x=true)(ha:SqL K H a (ns.map V.str))(hb:SqL K H b (ms.map V.str))(h:Q (.bl (g (decide (ns=ms)))) H):vco K g (.ref a) (.ref b) H Q :=
 ⟨_,_,.lst ha (đ ns),.lst hb (đ ms),Č ns hn,Č ms hm,by rw[PyData.eqv,Ĉ];exact h⟩
structure Pc where
 nm:Str
 bs:qj Str
 path:Η
 tx:Ο
 ob:xy
 od:xy
 dl:xy
noncomputable def baV:qj Str->V
 |none=>.non
 |some b=>.str b
def Pc.by(n:Nat)(kd:Ν)(ps:Κ)(q:Pc):Ο:=ux n kd ps (jq (q.path.map (·.2))) q.tx
noncomputable def pcs(P:qi Pc):qi (Key×V):=P.map λq=>(.inr q.nm,.ref q.ob)
def To(P:qi Pc):qj Str->qi (Str×qi Int)->Prop
 |none,L=>L=[]
 |some b,L=>∃r,r∈P/\r.nm=b/\L=r.path++[(b,r.tx)]
structure ŕ(a:Ads)(H:Hp)(d:xy)(n:Nat)(kd:Ν)(ps:Κ)(w:Nat)(P:qi Pc):Prop where
 dk:H d=some (.dK (pcs P))
 ob:∀q,q∈P->H q.ob=some (.ins a.Ab q.od (Ę (baV q.bs) (.ref q.dl)))/\H q.dl=some (.lst ((q.by n kd ps).map V.int))
 nd:(P.map (·.nm)).Nodup
 wf:∀q,q∈P->To P q.bs q.path
 sz:∀q,q∈P->Sgs q.tx/\q.tx.length<=w/\q.path.length<=60/\(∀x,x∈q.path->Sgs x.2/\x.2.length<=w)
 z:P.length<=60
 nm:∀q,q∈P->nmS q.nm=true/\PyData.strOk q.nm=true
theorem ynp:∀{P:qi Pc}{r:Pc},(P.map (·.nm)).Nodup->r∈P->ξ (pcs P) (.inr r.nm)=some (.ref r.ob)
 |q::P,r,hn,hr=>by
  have a:=ez.mp hn;by_cases e:q.nm=r.nm
  .rcases cS.mp hr with z|z
   .subst z;unfold ξ pcs;rw[dC,List.find?_cons_of_pos (by simp)];rfl
   .exact absurd (cI.mpr ⟨r,z,e.symm⟩) a.1
  .rcases cS.mp hr with z|z
   .exact absurd (by rw[z]) e
   .unfold ξ pcs;rw[dC,List.find?_cons_of_neg (by simpa using e)];exact ynp a.2 z
def yji{P:qi Pc}{x:Str}(h:∀q,q∈P->q.nm≠x):ξ (pcs P) (.inr x)=none:=by
 unfold ξ pcs;rw[List.find?_eq_none.mpr λy a=>?_]
 .rfl
 .obtain⟨q,b,e⟩:=cI.mp a;rw[<- e];simpa using h q b
def ŕ.same{H H':Hp}{d:xy}{n:Nat}{kd:Ν}{ps:Κ}{w:Nat}{P:qi Pc}(h:ŕ a H d n kd ps w P)(S:yx H H'):ŕ a H' d n kd ps w P :=
 ⟨S _ _ h.dk,λq b=>⟨S _ _ (h.ob q b).1,S _ _ (h.ob q b).2⟩,h.nd,h.wf,h.sz,h.z,h.nm⟩
def yqw(x:Str)(t:Ο)(S:Η):(nmL ((x,t)::S)).reverse=(nmL S).reverse++[.str x]:=by unfold nmL;rw[dC,List.reverse_cons]
def To.len{H:Hp}{d:xy}{n:Nat}{kd:Ν}{ps:Κ}{w:Nat}{P:qi Pc}(h:ŕ a H d n kd ps w P)(t:To P x L):L.length<=61:=by
 cases x with
 |none=>rw[show L=[]from t];exact dg _
 |some b =>
  let⟨r,c,_,e⟩:=t;have:=(h.sz r c).2.2.1;rw[e,bY,dI];omega
def ŕ.get{H:Hp}{d:xy}{n:Nat}{kd:Ν}{ps:Κ}{w:Nat}{P:qi Pc}{r:Pc}(h:ŕ a H d n kd ps w P)(hr:r∈P):œ H d (.str r.nm) (some (.ref r.ob)):=by rw[<- ynp h.nd hr];exact œ.k (k:=.inr r.nm) h.dk
def yzu{α:Type}{f:α->Str}{P:qi α}{q r:α}(hn:(P.map f).Nodup)(hq:q∈P)(hr:r∈P)(e:f q=f r):q=r:=by
 induction P with
 |nil=>cases hq
 |cons x P ih =>
  have a:=ez.mp hn;rcases cS.mp hq with z|z<;>rcases cS.mp hr with y|y
  .rw[z,y]
  .exact absurd (cI.mpr ⟨r,y,by rw[<- e,z]⟩) a.1
  .exact absurd (cI.mpr ⟨q,z,by rw[e,y]⟩) a.1
  .exact ih a.2 z y
def vda{P:qi Pc}{q r:Pc}(hn:(P.map (·.nm)).Nodup)(hq:q∈P)(hr:r∈P)(e:q.nm=r.nm):q=r:=yzu hn hq hr e
def To.uniq{P:qi Pc}(hn:(P.map (·.nm)).Nodup)(h:To P x L)(g:To P x M):L=M:=by
 cases x with
 |none=>rw[show L=[]from h,show M=[]from g]
 |some b =>
  let⟨r,i,e,a⟩:=h;let⟨q,d,c,f⟩:=g;obtain rfl:=vda hn i d (e.trans c.symm);rw[a,f]
theorem To.pre{P:qi Pc}(wf:∀q,q∈P->To P q.bs q.path){b:Str}{t:Ο}{A:Η}:∀(m:Nat){x:qj Str}{B:Η},B.length<=m->To P x (A++[(b,t)]++B)->To P (some b) (A++[(b,t)])
 |m,none,B,_,h=>by
  have e:=congrArg List.length (show A++[(b,t)]++B=[]from h);rw[bY,bY]at e;simp at e
 |m,some c,B,hm,⟨r,hr,e1,e2⟩=>by
  rcases List.eq_nil_or_concat B with z|⟨i,y,z⟩
  .subst z;rw[dW]at e2;have a:=List.append_inj' e2 rfl;let⟨f,g⟩:=a;cases g;exists r,hr,e1,by rw[f]
  .subst z;rw[List.concat_eq_append]at e2 hm;rw[<- cH]at e2;have a:=(List.append_inj' e2 rfl).1
   cases m with
   |zero=>rw[bY]at hm;simp at hm
   |succ m =>
    have d:=wf r hr;rw[<- a]at d;exact To.pre wf m (by rw[bY,dI]at hm;omega) d
def To.ahead{P:qi Pc}(hn:(P.map (·.nm)).Nodup)(wf:∀q,q∈P->To P q.bs q.path){y:qj Str}(h:To P x L)(g:To P y M)(e:nmL L=(nmL M).take L.length):L=M.take L.length:=by
 cases x with
 |none=>rw[show L=[]from h];rfl
 |some b =>
  let⟨r,o,m,c⟩:=id h;have n:L.length=r.path.length+1:=by rw[c,bY,dI]
  have d:=congrArg List.length e;unfold nmL at d;rw[cL,bz,bz]at d;have a:r.path.length<M.length:=()
  have i:M=M.take r.path.length++[M[r.path.length]]++M.drop (r.path.length+1):=by
   rw[cH,List.singleton_append,<- List.drop_eq_getElem_cons a,dX]
  have k:(M[r.path.length]).1=b:=by
   have z:=congrArg (λl=>l[r.path.length]?) e;unfold nmL at z;simp only[cK,List.getElem?_take]at z;rw[if_pos (),c,dJ (cE _),Nat.sub_self,cA a]at z;simp at z;exact z.symm
  have g2:=g;rw[i]at g2;have f:M[r.path.length]=(b,(M[r.path.length]).2):=by rw[<- k]
  rw[f]at g2;have g3:=To.pre wf _ (cE _) g2;have j:=To.uniq hn h g3;rw[j,<- f,<- dH a]
  congr 1
  rw[cL];omega
def ŕ.getNo{H:Hp}{d:xy}{n:Nat}{kd:Ν}{ps:Κ}{w:Nat}{P:qi Pc}{x:Str}(h:ŕ a H d n kd ps w P)(hx:∀q,q∈P->q.nm≠x):œ H d (.str x) none:=by rw[<- yji hx];exact œ.k (k:=.inr x) h.dk
def yzi(P:qi Pc)(b:Str):(∃r,r∈P/\r.nm=b)\/∀q,q∈P->q.nm≠b:=by
 by_cases h:∃r,r∈P/\r.nm=b
 .exact .inl h
 .exact .inr λq a e=>h ⟨q,a,e⟩
theorem To.sz{H:Hp}{d:xy}{n:Nat}{kd:Ν}{ps:Κ}{w:Nat}{P:qi Pc}(h:ŕ a H d n kd ps w P)(t:To P x L):∀y,y∈L->Sgs y.2/\y.2.length<=w:=by
 cases x with
 |none=>intro y c;rw[show L=[]from t]at c;cases c
 |some b =>
  let⟨r,j,_,e⟩:=t;let⟨g,i,_,f⟩:=h.sz r j;intro y c;rw[e]at c;rcases db.mp c with z|z
  .exact f y z
  .rw[cR.mp z];exists g,i
def To.at'{P:qi Pc}(wf:∀q,q∈P->To P q.bs q.path)(t:To P x L)(hj:j<L.length):∃r,r∈P/\L[j]=(r.nm,r.tx)/\r.path=L.take j/\To P (some r.nm) (L.take (j+1)):=by
 have e:L=L.take j++[(L[j].1,L[j].2)]++L.drop (j+1):=by
  rw[cH,List.singleton_append,<- List.drop_eq_getElem_cons hj,dX]
 rw[e]at t;have d:=To.pre wf _ (cE _) t;let⟨r,h,a,f⟩:=id d;let⟨b,c⟩:=List.append_inj' f rfl
 cases r with|mk nm bs path tx ob od dl =>
 simp only at a b c;subst a;have g:L[j].2=tx:=by cases c;rfl
 exists _,h,?_,b.symm,?_
 .show L[j]=(L[j].1,tx);rw[<- g]
 .rw[dH hj];exact d
def To.nms{P:qi Pc}(wf:∀q,q∈P->To P q.bs q.path)(t:To P x L){y:Str×qi Int}(hy:y∈L):∃r,r∈P/\r.nm=y.1:=by let⟨j,b,e⟩:=List.mem_iff_getElem.mp hy;let⟨r,c,a,_⟩:=t.at' wf b;exists r,c,by rw[<- e,a]
def To.ok{H:Hp}{d:xy}{n:Nat}{kd:Ν}{ps:Κ}{w:Nat}{P:qi Pc}(h:ŕ a H d n kd ps w P)(t:To P x L):∀y,y∈L.map (·.1)->PyData.strOk y=true:=λy b=>by
 let⟨u,c,rfl⟩:=cI.mp b;let⟨r,f,e⟩:=t.nms h.wf c;rw[<- e];exact(h.nm r f).2
def è(L:Η):nmL L=(L.map (·.1)).map V.str:=by unfold nmL;rw[dD];rfl
def ø(L:Η)(k:Nat):(nmL L).take k=nmL (L.take k):=by unfold nmL;rw[dY]
def Å(L:Η):(nmL L).length=L.length:=bz _
def yni(h:L.map (·.1)=M.map (·.1)):nmL L=nmL M:=by rw[è,è,h]
theorem ydk{w:Nat}:∀L:qi (Ο),(∀x,x∈L->x.length<=w)->(jq L).length<=L.length*(9*w+1)
 |[],_=>dg _
 |t::L,h=>by
  have e:jq (t::L)=dec t++jq L:=rfl;have d:=h t dQ;have c:=ydk L λx a=>h x (dz _ a);have b:=ut t;rw[e,bY,cB,Nat.succ_mul];omega
noncomputable def txi(L:Η)(i:Nat):Ο:=(L.map (·.2)).getD i []
def mOf(L:Η):Nat:=6+6*(jq (L.map (·.2))).length
def NK(H:Hp)(ks ks':Τ):Prop:=∀q,V.ref q∈ks'->V.ref q∈ks\/H q=none
def NK.refl{H:Hp}{ks:Τ}:NK H ks ks:=λZ h=>.inl h
def NK.nil{H:Hp}{ks:Τ}:NK H ks []:=λZ h=>nomatch h
def NK.trans{H H1:Hp}{k1 k2 k3:Τ}(h:NK H k1 k2)(g:NK H1 k2 k3)(f:∀q,H1 q=none->H q=none):NK H k1 k3:=λq a=>(g q a).elim (h q) λz=>.inr (f q z)
def NK.app{H:Hp}{ks ks':Τ}{v:V}(h:NK H ks ks')(g:∀q,v=.ref q->H q=none):NK H ks (ks'++[v]):=λq a=>(db.mp a).elim (h q) λz=>.inr (g q (cR.mp z).symm)
def StW(c cl ct:xy)(U:Μ):Μ:=λx=>x=c\/ChW cl ct U x
structure ζ(K:z0)(a:Ads)(H:Hp)(st ds ll d c dc p cl ct:xy)(lk tp:Λ)(n:Nat)(kd:Ν)(ps:Κ)(mo w:Nat)(P:qi Pc)(L:Η)(ks:Τ)(U:Μ):Prop where
 me:H st=some (.ins a.A0 ds (v8 (.ref ll) (.int mo) (.ref d) (.ref c)))
 n1:1<=n
 n6:n<=6
 lo:H ll=some (.lst (refs lk n))
 row:xi H n lk kd tp ps
 pz:ŕ a H d n kd ps w P
 ch:Ú K a H c dc p cl ct n kd ps L ks (mOf L) U
 nw:∀x,(x=st\/x=ll\/x=d\/∃q,q∈P/\(x=q.ob\/x=q.dl))->¬StW c cl ct U x
 mo1:mo<=1000
 wm:w<=mo/\w<=200
 way:∃x,To P x L
def Ú.but{H H':Hp}{c p ll:xy}{n:Nat}{kd:Ν}{ps:Κ}{ks:Τ}{M:Nat}{W:Μ}(h:Ú K a H c dc p ll tl n kd ps L ks M W){C:xy}{fs:Ι}(hq:H q=some (.ins C dq fs))(nq:¬StW c ll tl W q)(B:But q H H'):Ú K a H' c dc p ll tl n kd ps L ks M W:=by
 have b:∀{x:xy}{d:Τ},H x=some (.lst d)->x≠q:=λ{x d}e z=>by rw[z,hq]at e;cases e
 exists B _ _ h.me λz=>nq (.inl z.symm),h.fz.frame (W2:=λx=>x=q) (λx z=>⟨.ins C dq fs,by rw[show x=q from z];exact hq,.inl rfl⟩) (λx w z=>nq (.inr (.inr (.inr (by rw[<- show x=q from z];exact w))))) (λx o e g=>B x o e g),B _ _ h.hl (b h.hl),B _ _ h.ht (b h.ht),h.tx.mono λx d e f=>⟨B _ _ e (b e),f⟩,h.nc,h.nll,h.ntl,h.ne
def yds(L:Η)(x:Str)(t:Ο):mOf (L++[(x,t)])=mOf L+6*(dec t).length:=by unfold mOf;rw[cM,show List.map (λx:Str×qi Int=>x.2) [(x,t)]=[t]from rfl,yay,bY];omega
def yjj{w:Nat}(h:∀y,y∈L->y.2.length<=w)(hw:w<=200)(hl:L.length<=61):mOf L<=660000:=by
 have c:=ydk (w:=w) (L.map (·.2)) λx b=>by
  let⟨y,a,rfl⟩:=cI.mp b;exact h y a
 rw[bz]at c;have d:L.length*(9*w+1)<=61*1801:=Nat.mul_le_mul hl ();unfold mOf;omega
def StO(st c cl ct:xy)(U:Μ):Μ:=λy=>y=st\/StW c cl ct U y
def Go.or{W Y:Μ}{H H':Hp}(g:Go W H H' W'):Go (λx=>Y x\/W x) H H' (λx=>Y x\/W' x) :=
 ⟨λc o e a=>g.fr c o e λw=>a (.inr w),λc w=>w.elim (λy=>.inl (.inl y)) λw=>(g.nw c w).imp .inr id,g.lv⟩
def Ú.noTup{H:Hp}{c p ll:xy}{n:Nat}{kd:Ν}{ps:Κ}{ks:Τ}{M:Nat}{W:Μ}(h:Ú K a H c dc p ll tl n kd ps L ks M W){x:xy}{xs:Τ}(e:H x=some (.tup xs)):¬StW c ll tl W x:=λw=>by
 rcases w with z|z|z|z
 .rw[z,h.me]at e;cases e
 .rw[z,h.hl]at e;cases e
 .rw[z,h.ht]at e;cases e
 .exact h.fz.sh.tup e z
theorem Ú.same{H H':Hp}{c p ll:xy}{n:Nat}{kd:Ν}{ps:Κ}{ks:Τ}{M:Nat}{W:Μ}(h:Ú K a H c dc p ll tl n kd ps L ks M W)(S:yx H H'):Ú K a H' c dc p ll tl n kd ps L ks M W :=
 ⟨S _ _ h.me,h.fz.same S,S _ _ h.hl,S _ _ h.ht,h.tx.mono λZ Z e b=>⟨S _ _ e,b⟩,h.nc,h.nll,h.ntl,h.ne⟩
def ŕ.fr{H H':Hp}{d:xy}{n:Nat}{kd:Ν}{ps:Κ}{w:Nat}{P:qi Pc}(h:ŕ a H d n kd ps w P)(f:∀x o,H x=some o->(x=d\/∃q,q∈P/\(x=q.ob\/x=q.dl))->H' x=some o):ŕ a H' d n kd ps w P :=
 ⟨f _ _ h.dk (.inl rfl),λq b=>⟨f _ _ (h.ob q b).1 (.inr ⟨q,b,.inl rfl⟩),f _ _ (h.ob q b).2 (.inr ⟨q,b,.inr rfl⟩)⟩,h.nd,h.wf,h.sz,h.z,h.nm⟩
def xi.fr{H H':Hp}{n:Nat}{lk:Λ}{kd:Ν}{ps:Κ}(h:xi H n lk kd tp ps)(f:∀x xs,H x=some (.tup xs)->H' x=some (.tup xs)):xi H' n lk kd tp ps:=λi b=>by
 let⟨q,e,d,c,a⟩:=h i b;exists q,e,f _ _ d,f _ _ c,a
section
variable{H H':Hp}{ll d c p cl ct:xy}{lk:Λ}{n:Nat}{kd:Ν}{ps:Κ}{mo w:Nat}{P:qi Pc}{ks:Τ}
theorem ζ.same(h:ζ K a H st ds ll d c dc p cl ct lk tp n kd ps mo w P L ks U)(S:yx H H'):ζ K a H' st ds ll d c dc p cl ct lk tp n kd ps mo w P L ks U :=
 ⟨S _ _ h.me,h.n1,h.n6,S _ _ h.lo,h.row.same S,h.pz.same S,h.ch.same S,h.nw,h.mo1,h.wm,h.way⟩
def ζ.lv(h:ζ K a H st ds ll d c dc p cl ct lk tp n kd ps mo w P L ks U):∀x,(x=st\/x=ll\/x=d\/∃q,q∈P/\(x=q.ob\/x=q.dl))->∃o,H x=some o:=λx e=>by
 rcases e with z|z|z|⟨q,b,z|z⟩
 .exists _,by rw[z];exact h.me
 .exists _,by rw[z];exact h.lo
 .exists _,by rw[z];exact h.pz.dk
 .exists _,by rw[z];exact(h.pz.ob q b).1
 .exists _,by rw[z];exact(h.pz.ob q b).2
def ζ.lvO(h:ζ K a H st ds ll d c dc p cl ct lk tp n kd ps mo w P L ks U):∀x,StO st c cl ct U x->∃o,H x=some o:=λx b=>by
 rcases b with z|z|z|z|z
 .exists _,by rw[z];exact h.me
 .exists _,by rw[z];exact h.ch.me
 .exists _,by rw[z];exact h.ch.hl
 .exists _,by rw[z];exact h.ch.ht
 .exact h.ch.fz.live x z
def ζ.go(h:ζ K a H st ds ll d c dc p cl ct lk tp n kd ps mo w P L ks U){ks':Τ}(hc:Ú K a H' c dc p cl ct n kd ps M ks' (mOf M) U')(g:Go (ChW cl ct U) H H' (ChW cl ct U'))(way:∃x,To P x M):ζ K a H' st ds ll d c dc p cl ct lk tp n kd ps mo w P M ks' U'/\Go (StO st c cl ct U) H H' (StO st c cl ct U'):=by have g1:Go (StW c cl ct U) H H' (StW c cl ct U'):=g.or (Y:=λx=>x=c);have f:∀x o,H x=some o->(x=st\/x=ll\/x=d\/∃q,q∈P/\(x=q.ob\/x=q.dl))->H' x=some o:=λx o e b=>g1.fr x o e (h.nw x b);exists⟨f _ _ h.me (.inl rfl),h.n1,h.n6,f _ _ h.lo (.inr (.inl rfl)),h.row.fr λx i e=>g1.fr _ _ e (h.ch.noTup e),h.pz.fr λx o e z=>f x o e (.inr (.inr z)),hc,g1.apart (λx b=>h.lv x b) h.nw,h.mo1,h.wm,way⟩,g1.or (Y:=λx=>x=st)
structure StB(a:Ads)(H:Hp)(st ds ll d:xy)(vc:V)(lk tp:Λ)(n:Nat)(kd:Ν)(ps:Κ)(mo w:Nat)(P:qi Pc):Prop where
 me:H st=some (.ins a.A0 ds (v8 (.ref ll) (.int mo) (.ref d) vc))
 n1:1<=n
 n6:n<=6
 lo:H ll=some (.lst (refs lk n))
 row:xi H n lk kd tp ps
 pz:ŕ a H d n kd ps w P
 mo1:mo<=1000
 wm:w<=mo/\w<=200
def ζ.b(h:ζ K a H st ds ll d c dc p cl ct lk tp n kd ps mo w P L ks U):StB a H st ds ll d (.ref c) lk tp n kd ps mo w P:=⟨h.me,h.n1,h.n6,h.lo,h.row,h.pz,h.mo1,h.wm⟩
def StB.lv{vc:V}(h:StB a H st ds ll d vc lk tp n kd ps mo w P):∀x,(x=st\/x=ll\/x=d\/∃q,q∈P/\(x=q.ob\/x=q.dl))->∃o,H x=some o:=λx c=>by
 rcases c with z|z|z|⟨q,b,z|z⟩
 .exists _,by rw[z];exact h.me
 .exists _,by rw[z];exact h.lo
 .exists _,by rw[z];exact h.pz.dk
 .exists _,by rw[z];exact(h.pz.ob q b).1
 .exists _,by rw[z];exact(h.pz.ob q b).2
def Go.wide{W:Μ}(g:Go W H H' W')(f:∀x,W x->W2 x):Go W2 H H' W':=⟨λc o e a=>g.fr c o e λw=>a (f c w),λc w=>(g.nw c w).imp (f c) id,g.lv⟩
def StB.re{vc:V}(h:StB a H st ds ll d vc lk tp n kd ps mo w P){dc' p':xy}{HE:Hp}(nc:H c'=none)(ndc:H dc'=none)(hch:Ú K a HE c' dc' p' cl' ct' n kd ps [] [] 6 U')(hnew:∀x,ChW cl' ct' U' x->(upd (upd H dc' (.own c')) c' (.ins a.A1 dc' [])) x=none)(BE:But c' (upd (upd H dc' (.own c')) c' (.ins a.A1 dc' [])) HE):
  ζ K a (upd HE st (.ins a.A0 ds (v8 (.ref ll) (.int mo) (.ref d) (.ref c')))) st ds ll d c' dc' p' cl' ct' lk tp n kd ps mo w P [] [] U'/\Go (λy=>y=st) H (upd HE st (.ins a.A0 ds (v8 (.ref ll) (.int mo) (.ref d) (.ref c')))) (StO st c' cl' ct' U')/\yx H HE/\∀x,StW c' cl' ct' U' x->H x=none:=by
 have m:yx H (upd (upd H dc' (.own c')) c' (.ins a.A1 dc' [])):=λb o e=>by rw[yp (yb e nc),yp (yb e ndc)];exact e
 have f:yx H HE:=λb o e=>BE _ _ (m _ _ e) (yb e nc)
 have j:∀x,StW c' cl' ct' U' x->H x=none:=λx w=>by
  rcases w with z|z
  .rw[z];exact nc
  .exact m.free (hnew x z)
 have g:∀{x:xy}{o:HO},H x=some o->¬StW c' cl' ct' U' x:=λ{x o}e w=>by rw[j x w]at e;cases e
 have c:=h.me;have l:∀{x:xy}{k:Τ},H x=some (.lst k)->x≠st:=λ{x k}e z=>by rw[z,c]at e;cases e
 exists⟨ya,h.n1,h.n6,yi (l h.lo) (f _ _ h.lo),h.row.fr λx k e=>yi (λz=>by rw[z,c]at e;cases e) (f _ _ e),⟨yi (λz=>?_) (f _ _ h.pz.dk),λq i=>⟨yi (λz=>?_) (f _ _ (h.pz.ob q i).1),yi (l (h.pz.ob q i).2) (f _ _ (h.pz.ob q i).2)⟩,h.pz.nd,h.pz.wf,h.pz.sz,h.pz.z,h.pz.nm⟩,hch.but (f _ _ c) (g c) But.upd,λx s=>?_,h.mo1,h.wm,⟨none,rfl⟩⟩,⟨λx o e r=>yi r (f _ _ e),λx w=>?_,λx o e=>?_⟩,f,j
 .have e:=h.pz.dk;rw[z,c]at e;cases e
 .have e:=(h.pz.ob q i).1;rw[z,c]at e;injection e with e;injection e with _ _ e;have p:=congrArg List.length e;exact absurd (show (4:Nat)=2 from p) ∅
 .obtain⟨o,e⟩:=h.lv x s;exact g e
 .rcases w with z|z
  .exact .inl z
  .exact .inr (j x z)
 .by_cases z:x=st
  .exists _,by rw[z];exact ya
  .exists o,yi z (f _ _ e)
theorem ζ.re(h:ζ K a H st ds ll d c dc p cl ct lk tp n kd ps mo w P L ks U){dc' p':xy}{HE:Hp}(nc:H c'=none)(ndc:H dc'=none)(hch:Ú K a HE c' dc' p' cl' ct' n kd ps [] [] 6 U')(hnew:∀x,ChW cl' ct' U' x->(upd (upd H dc' (.own c')) c' (.ins a.A1 dc' [])) x=none)(BE:But c' (upd (upd H dc' (.own c')) c' (.ins a.A1 dc' [])) HE):
  ζ K a (upd HE st (.ins a.A0 ds (v8 (.ref ll) (.int mo) (.ref d) (.ref c')))) st ds ll d c' dc' p' cl' ct' lk tp n kd ps mo w P [] [] U'/\Go (StO st c cl ct U) H (upd HE st (.ins a.A0 ds (v8 (.ref ll) (.int mo) (.ref d) (.ref c')))) (StO st c' cl' ct' U')/\yx H HE/\∀x,StW c' cl' ct' U' x->H x=none:=by let⟨g,f,e⟩:=h.b.re nc ndc hch hnew BE;exists g,f.wide λZ z=>.inl z,e
end
structure Pd where
 nm:Str
 bs:qj Str
 path:Η
 tx:Ο
noncomputable def Pc.pd(q:Pc):Pd:=⟨q.nm,q.bs,q.path,q.tx⟩
structure Cf where
 n:Nat
 kd:Ν
 ps:Κ
 mo:Nat
 w:Nat
def Pd.by(C:Cf)(q:Pd):Ο:=ux C.n C.kd C.ps (jq (q.path.map (·.2))) q.tx
def ToD(P:qi Pd):qj Str->qi (Str×qi Int)->Prop
 |none,L=>L=[]
 |some b,L=>∃r,r∈P/\r.nm=b/\L=r.path++[(b,r.tx)]
def Ě{Q:qi Pc}:ToD (Q.map Pc.pd) x L↔To Q x L:=by
 cases x with
 |none=>exact Iff.rfl
 |some b =>
  exists λ⟨r,a,e⟩=>?_,λ⟨r,a,e⟩=>⟨_,cI.mpr ⟨r,a,rfl⟩,e⟩;let⟨q,c,rfl⟩:=cI.mp a;exact⟨q,c,e⟩
def okN(x:Str):Prop:=nmS x=true/\PyData.strOk x=true
def WD(d st c cl ct:xy)(U:Μ):Μ:=λy=>y=d\/StO st c cl ct U y
structure Sx where
 w:Μ
 f:Μ
noncomputable def vck(d st c cl ct:xy)(U:Μ)(ll:xy)(Q:qi Pc)(ks:Τ):Sx :=
 ⟨WD d st c cl ct U,λy=>WD d st c cl ct U y\/y=ll\/(∃q,q∈Q/\(y=q.ob\/y=q.dl))\/V.ref y∈ks⟩
inductive Sto(K:z0)(a:Ads)(H:Hp)(st:xy)(C:Cf)(P:qi Pd)(X:Sx):Prop
 |mk(ds ll d c dc p cl ct:xy)(lk tp:Λ)(Q:qi Pc)(L:Η)(ks:Τ)(U:Μ)(s:ζ K a H st ds ll d c dc p cl ct lk tp C.n C.kd C.ps C.mo C.w Q L ks U)(e:Q.map Pc.pd=P)(x:X=vck d st c cl ct U ll Q ks)
structure Gx(X:Sx)(H H':Hp)(Y:Sx):Prop where
 g:Go X.w H H' Y.w
 f:∀y,Y.f y->X.f y\/H y=none
theorem Gx.same{X Y:Sx}{H H1 H2:Hp}(h:Gx X H H1 Y)(S:yx H1 H2):Gx X H H2 Y:=⟨h.g.same S,h.f⟩
def Kf(H:Hp)(X:Sx)(x:xy)(o:HO):Prop:=H x=some o/\¬X.f x
section
variable{B H H':Hp}{C:Cf}{P:qi Pd}{X Y:Sx}
theorem Sto.same(h:Sto K a H st C P X)(S:yx H H'):Sto K a H' st C P X:=by let⟨i,m,d,c,g,p,f,j,k,l,Q,L,b,U,s,e,x⟩:=h;exists i,m,d,c,g,p,f,j,k,l,Q,L,b,U,s.same S,e,x
def Sto.live(h:Sto K a H st C P X):∀y,X.f y->∃o,H y=some o:=λy g=>by
 let⟨l,u,d,c,k,p,j,n,r,t,Q,L,i,U,s,rfl,rfl⟩:=h;rcases g with(z|z)|z|⟨q,b,z⟩|z
 .exists _,by rw[z];exact s.pz.dk
 .exact s.lvO y z
 .exists _,by rw[z];exact s.lo
 .exact s.lv y (.inr (.inr (.inr ⟨q,b,z⟩)))
 .rcases s.ch.tx.mem _ z with e|⟨q,m,e,b,_⟩
  .cases e
  .cases e;exists _,b
def Sto.wf(h:Sto K a H st C P X):∀y,X.w y->X.f y:=λy b=>by
 let⟨j,n,d,c,i,p,g,k,l,m,Q,L,e,U,s,rfl,rfl⟩:=h;exact .inl b
theorem Sto.ins(h:Sto K a H st C P X):∃ds vl vm vp vc,H st=some (.ins a.A0 ds (v8 vl vm vp vc)):=by let⟨ds,k,d,c,f,p,e,g,i,j,Q,L,b,U,s,rfl,rfl⟩:=h;exists _,_,_,_,_,s.me
def Sto.me(h:Sto K a H st C P X):X.f st:=by let⟨i,m,d,c,g,p,e,j,k,l,Q,L,b,U,s,rfl,rfl⟩:=h;exact .inl (.inr (.inl rfl))
def vem(Q:qi Pc):(Q.map Pc.pd).map (·.nm)=Q.map (·.nm):=by rw[dD];rfl
theorem Sto.nd(h:Sto K a H st C P X):(P.map (·.nm)).Nodup:=by let⟨g,l,d,c,f,p,e,i,j,k,Q,L,b,U,s,rfl,rfl⟩:=h;rw[vem];exact s.pz.nd
theorem Sto.z(h:Sto K a H st C P X):P.length<=60:=by let⟨g,l,d,c,f,p,e,i,j,k,Q,L,b,U,s,rfl,rfl⟩:=h;rw[bz];exact s.pz.z
theorem Sto.nm(h:Sto K a H st C P X):∀q,q∈P->okN q.nm:=λq b=>by
 let⟨j,n,d,c,i,p,g,k,l,m,Q,L,f,U,s,rfl,rfl⟩:=h;let⟨r,e,rfl⟩:=cI.mp b;exact s.pz.nm r e
def Sto.to(h:Sto K a H st C P X):∀q,q∈P->ToD P q.bs q.path:=λq b=>by
 let⟨j,n,d,c,i,p,g,k,l,m,Q,L,f,U,s,rfl,rfl⟩:=h;let⟨r,e,rfl⟩:=cI.mp b;exact Ě.mpr (s.pz.wf r e)
theorem Sto.sz(h:Sto K a H st C P X):∀q,q∈P->Sgs q.tx/\q.tx.length<=C.w/\q.path.length<=60/\(∀x,x∈q.path->Sgs x.2/\x.2.length<=C.w):=λq b=>by
 let⟨j,n,d,c,i,p,g,k,l,m,Q,L,f,U,s,rfl,rfl⟩:=h;let⟨r,e,rfl⟩:=cI.mp b;exact s.pz.sz r e
def Sto.cf(h:Sto K a H st C P X):1<=C.n/\C.n<=6/\C.mo<=1000/\C.w<=C.mo/\C.w<=200:=by let⟨g,l,d,c,f,p,e,i,j,k,Q,L,b,U,s,rfl,rfl⟩:=h;exists s.n1,s.n6,s.mo1,s.wm.1,s.wm.2
theorem Sto.frame(h:Sto K a H st C P X)(sh:WSh H W2)(dj:∀y,X.f y->¬W2 y)(fr:∀y o,H y=some o->¬W2 y->H' y=some o):Sto K a H' st C P X:=by
 let⟨A,n,d,c,u,p,g,i,D,E,Q,L,j,U,s,rfl,rfl⟩:=h;have f:∀{y:xy}{o:HO},H y=some o->(vck d st c g i U n Q j).f y->H' y=some o:=λ{y o}e w=>fr y o e (dj y w);exists A,n,d,c,u,p,g,i,D,E,Q,L,j,U,⟨f s.me (.inl (.inr (.inl rfl))),s.n1,s.n6,f s.lo (.inr (.inl rfl)),s.row.fr λy G e=>fr _ _ e (sh.tup e),s.pz.fr λy o e z=>f e (z.elim (λz=>.inl (.inl z)) λz=>.inr (.inr (.inl z))),⟨f s.ch.me (.inl (.inr (.inr (.inl rfl)))),s.ch.fz.frame sh (λy w=>dj y (.inl (.inr (.inr (.inr (.inr (.inr w))))))) fr,f s.ch.hl (.inl (.inr (.inr (.inr (.inl rfl))))),f s.ch.ht (.inl (.inr (.inr (.inr (.inr (.inl rfl)))))),?_,s.ch.nc,s.ch.nll,s.ch.ntl,s.ch.ne⟩,s.nw,s.mo1,s.wm,s.way⟩,rfl,rfl
 have l:∀{L:Η}{b:Τ},(∀v,v∈b->v∈j)->ybv H (ChW g i U) L b->ybv H' (ChW g i U) L b:=by
  intro L
  induction L with
  |nil=>intro b _ h;exact h
  |cons y r ih =>
   rintro b m ⟨k,x,rfl,z,h⟩;exists k,x,rfl,z.imp id λ⟨q,e,B,t⟩=>⟨q,e,f B (.inr (.inr (.inr ?_))),t⟩,ih (λv F=>m v (dz _ F)) h;rw[<- e];exact m _ dQ
 exact l (λZ h=>h) s.ch.tx
def Sto.but(h:Sto K a H st C P X){y:xy}(sh:WSh H λz=>z=y)(ny:¬X.f y)(b:But y H H'):Sto K a H' st C P X :=
 h.frame sh (λz w e=>ny (by rw[<- e];exact w)) λz o e c=>b z o e c
def WSh.mu{y:xy}{o:HO}(e:H y=some o)(ho:vcw o=true):WSh H λz=>z=y:=λz w=>⟨o,by rw[w];exact e,.inl ho⟩
def Kf.go{x:xy}{o:HO}(h:Kf H X x o)(s:Sto K a H st C P X)(g:Gx X H H' Y):Kf H' Y x o :=
 ⟨g.g.fr _ _ h.1 λw=>h.2 (s.wf _ w),λw=>(g.f x w).elim h.2 λe=>by rw[h.1]at e;cases e⟩
def Kf.same{x:xy}{o:HO}(h:Kf H X x o)(S:yx H H'):Kf H' X x o:=⟨S _ _ h.1,h.2⟩
def Kf.new{x:xy}{o:HO}(s:Sto K a H st C P X)(hx:H x=none)(e:H' x=some o):Kf H' X x o:=⟨e,λw=>by
 let⟨c,b⟩:=s.live x w;rw[hx]at b;cases b⟩
def Gx.bs(s:Sto K a H st C P X)(g:Gx X H H' Y)(S:yx B H)(nb:∀y,X.f y->B y=none):yx B H'/\∀y,Y.f y->B y=none :=
 ⟨λy o e=>g.g.fr _ _ (S _ _ e) (λw=>by rw[nb y (s.wf y w)]at e;cases e),λy w=>(g.f y w).elim (nb y) S.free⟩
def Gx.of{d c cl ct ll:xy}{Q Q':qi Pc}{ks ks':Τ}(g:Go (WD d st c cl ct U) H H' (WD d st c' cl' ct' U'))(nk:NK H ks ks')(hq:∀q,q∈Q'->q∈Q\/(H q.ob=none/\H q.dl=none)):Gx (vck d st c cl ct U ll Q ks) H H' (vck d st c' cl' ct' U' ll Q' ks'):=by
 exists g,λy w=>?_;rcases w with z|z|⟨q,h,z⟩|z
 .exact(g.nw y z).imp .inl id
 .exact .inl (.inr (.inl z))
 .rcases hq q h with a|⟨e,b⟩
  .exact .inl (.inr (.inr (.inl ⟨q,a,z⟩)))
  .rcases z with z|z
   .rw[z];exact .inr e
   .rw[z];exact .inr b
 .exact(nk y z).imp (λz=>.inr (.inr (.inr z))) id
end
def ì{P:qi Pd}{q r:Pd}(hn:(P.map (·.nm)).Nodup)(hq:q∈P)(hr:r∈P)(e:q.nm=r.nm):q=r:=yzu hn hq hr e
def ToD.uniq{P:qi Pd}(hn:(P.map (·.nm)).Nodup)(h:ToD P x L)(g:ToD P x M):L=M:=by
 cases x with
 |none=>rw[show L=[]from h,show M=[]from g]
 |some b =>
  let⟨r,i,e,a⟩:=h;let⟨q,d,c,f⟩:=g;obtain rfl:=ì hn i d (e.trans c.symm);rw[a,f]
theorem yi0{α:Type}[DecidableEq α]:∀{l m:qi α},l.Nodup->(∀x,x∈l->x∈m)->l.length<=m.length
 |[],_,_,_=>dg _
 |x::l,m,hn,h=>by
  have a:=ez.mp hn;have c:=h x dQ;have d:l.length<=(m.erase x).length:=yi0 a.2 λy b=>(List.mem_erase_of_ne (λe=>a.1 (by rw[<- e];exact b))).mpr (h y (dz _ b));rw[List.length_erase_of_mem c]at d;have:=List.length_pos_of_mem c;rw[cB];omega
noncomputable def Pd.pc(q:Pd):Pc:=⟨q.nm,q.bs,q.path,q.tx,0,0,0⟩
def yzv(P:qi Pd):(P.map Pd.pc).map Pc.pd=P:=by rw[dD];exact List.map_id _
structure PdW(P:qi Pd):Prop where
 nd:(P.map (·.nm)).Nodup
 wf:∀q,q∈P->ToD P q.bs q.path
theorem ToD.pc{P:qi Pd}(h:ToD P x L):To (P.map Pd.pc) x L:=Ě.mp (by rw[yzv];exact h)
theorem ToD.at{P:qi Pd}(w:PdW P)(t:ToD P x L)(hj:j<L.length):∃r,r∈P/\L[j]=(r.nm,r.tx)/\r.path=L.take j/\ToD P (some r.nm) (L.take (j+1)):=by
 let⟨r,f,c,e,b⟩:=To.at' (λq d=>by
  let⟨u,a,rfl⟩:=cI.mp d;exact(w.wf u a).pc) t.pc hj
 let⟨u,a,rfl⟩:=cI.mp f;exists u,a,c,e,?_;have:=Ě.mpr b;rw[yzv]at this;exact this
def ToD.len{P:qi Pd}(w:PdW P)(t:ToD P x L):L.length<=P.length:=by
 have h:=yi0 (l:=L.map (·.1)) (m:=P.map (·.nm)) ?_ ?_
 .rw[bz,bz]at h;exact h
 .refine List.pairwise_iff_getElem.mpr λi j f a k e=>?_;rw[bz]at f a;rw[dL,dL]at e;let⟨r,c,b,d,_⟩:=t.at w f;let⟨u,p,g1,g2,_⟩:=t.at w a;rw[b,g1]at e;have:=ì w.nd c p e;rw[this,g2]at d;have g:=congrArg List.length d;rw[cL,cL]at g;omega
 .intro y o;let⟨z,n,rfl⟩:=cI.mp o;let⟨j,a,rfl⟩:=List.mem_iff_getElem.mp n;let⟨r,c,b,_⟩:=t.at w a;rw[b];exact cI.mpr ⟨r,c,rfl⟩
def Sto.pw{H:Hp}{C:Cf}{P:qi Pd}{X:Sx}(h:Sto K a H st C P X):PdW P:=⟨h.nd,h.to⟩
structure Bs(B H:Hp)(X:Sx):Prop where
 s:yx B H
 n:∀y,X.f y->B y=none
def Bs.same{B H H':Hp}{X:Sx}(h:Bs B H X)(S:yx H H'):Bs B H' X:=⟨h.s.trans S,h.n⟩
def Bs.go{B H H':Hp}{C:Cf}{P:qi Pd}{X Y:Sx}(h:Bs B H X)(s:Sto K a H st C P X)(g:Gx X H H' Y):Bs B H' Y:=⟨(g.bs s h.s h.n).1,(g.bs s h.s h.n).2⟩
def yui{ns:Ρ}(h:ns.Nodup){hi:i<ns.length}{hj:j<ns.length}(e:ns[i]=ns[j]):i=j:=by
 have a:=List.pairwise_iff_getElem.mp h;rcases Nat.lt_trichotomy i j with z|z|z
 .exact absurd e (a i j hi hj z)
 .exact z
 .exact absurd e.symm (a j i hj hi z)
theorem Sd.str{H:Hp}{x:Str}(h:PyData.strOk x=true){k:Nat}:Sd K H (.str x) (.str x) k:=⟨.str x,by simp[PyData.canLay0,h],by simp[PyData.depth],by simp[PyData.eqv]⟩
theorem Sd.non{H:Hp}{k:Nat}:Sd K H .non .none k:=⟨.non,by simp[PyData.canLay0],by simp[PyData.depth],by simp[PyData.eqv]⟩
def FZ.readN{H:Hp}{p:xy}{n:Nat}{kd:Ν}{ps:Κ}{pre:Ο}{M:Nat}{W:Μ}{Q:VK}{E:XK}{dt:xy}{mo:Nat}(h:FZ K a H p n kd ps pre M W)(hdt:H dt=some (.lst (d.map V.int)))(ndt:¬W dt)(hd:Byt d)(hdl:d.length<=12000)(hmo:mo<=1000)(hM:M+54*mo+200<1000000)
  (no:∀ts bs,Sgs ts->ts.length<=mo->d≠ux n kd ps pre ts++bs) (k:∀H',(∀c o,H c=some o->¬W c->H' c=some o)->E (.ref a.Bq) none H'):Đ K a [.ref p,.ref dt,.int mo] H Q E:=by
 let⟨A,f,O,m,s,F,D,rfl,rfl,rfl,y,x,i⟩:=h;exists p,A,_,f,O,m,dt,d,mo,rfl,s,hdt,λz=>ndt ((i _).mpr (.inr (.inr (.inr (.inr z))))),hd,hdl,hmo,(),by rw[x];decide,by rw[y];exact dg _,λN t r v l H' q g Z Z Z Z Z Z=>?_,λZ v l H' B=>k H' λc o e C=>?_
 .rw[ROk.fa0]at g;have e:=(yhy (kd:=A.kd) g).1;refine absurd ?_ (no (rtx (fa0 A.n A.ps) d (rS A.n A.kd A.ps pre) N) (d.drop (rTL (fa0 A.n A.ps) d (rS A.n A.kd A.ps pre) N)) (yqz _ _ _ _) (by rw[é];exact q));rw[e,dX]
 .have b:¬ys8 p A O c:=λw=>C ((i c).mpr w);exact B.fr c o e (λz=>b (.inl z)) (λz=>b (.inr (.inl z))) (λz=>b (.inr (.inr (.inr (.inr z))))) λj u w=>b (.inr (.inr (.inr (.inl ⟨j,u,w⟩))))
#synth yxs ["self","looks"] vbm
inductive ygv(K:z0)(a:Ads)(vs:Τ)(H:Hp)(Q:VK)(E':XK):Prop
 |mk(c dc l:xy)(n:Nat)(lk tp:Λ)(kd:Ν)(ps:Κ)(_:vs=[.ref c,.ref l])(_:H c=some (.ins a.A1 dc []))(_:H l=some (.lst (refs lk n)))(_:1<=n)(_:n<=6)(_:xi H n lk kd tp ps)(_:∀(p ll tl:xy)(W:Μ)(H':Hp),Ú K a H' c dc p ll tl n kd ps [] [] 6 W->(∀x,ChW ll tl W x->H x=none)->But c H H'->(∀y xs H'',H y=some (.lst xs)->But y H' H''->Ú K a H'' c dc p ll tl n kd ps [] [] 6 W)->Q .non H')
def yem:vx P w K mg Γ (CXe P w) 8 a.Gw a.Nn ["self","looks"] (ygv K a):=by
 exists T.Eu.F.okE,yxs,hr;let⟨c,f,l,n,lk,tp,kd,ps,rfl,X,hl,n1,n6,U,k⟩:=h;refine yf (ve (pv 0) (zi T.Re (yt1 T) hr.m rfl T.Rc T.P7.B .nil yr (pa1 (pv 1))) rfl) ?_;refine yf (ve (pv 0) (vd u8) rfl) ?_;exists 2,0,yd (ve (pv 0) (vd u8) rfl);intro p dp np Y a5;refine FZ.new np Y hl n1 n6 U λW C hf nW S1 a0=>⟨rfl,?_⟩;have M:=S1 _ _ X;ext;have u:upd C c (HO.ins a.A1 f ([("foreteller",V.ref p)]:Ι)) c=some (HO.ins a.A1 f ([("foreteller",V.ref p)]:Ι)):=ya;have N:But c C (upd C c (HO.ins a.A1 f ([("foreteller",V.ref p)]:Ι))):=But.upd;generalize upd C c (HO.ins a.A1 f ([("foreteller",V.ref p)]:Ι))=Z at u N⊢;exists by walk_at "len",λj hll=>?_
 exists hll,HB,SB,eB;have a4:=SB _ _ u;ext;have v:upd HB c (HO.ins a.A1 f ([("foreteller",V.ref p),("links",V.ref j)]:Ι)) c=some (HO.ins a.A1 f ([("foreteller",V.ref p),("links",V.ref j)]:Ι)):=ya;have R:But c HB (upd HB c (HO.ins a.A1 f ([("foreteller",V.ref p),("links",V.ref j)]:Ι))):=But.upd;generalize upd HB c (HO.ins a.A1 f ([("foreteller",V.ref p),("links",V.ref j)]:Ι))=HC at v R⊢;exists by walk_at "len",λD htl=>?_
 exists htl,HD,SD,eD;have a7:=SD _ _ v;ext;have i:j≠c:=(yb u hll).symm;have g:D≠c:=(yb v htl).symm;have S:HC j=some (.lst []):=R _ _ eB i
 have G:∀{x:xy},x≠c->Z x=none->H x=none:=λ{x}d e=>by
  cases z:H x with
  |none=>rfl
  |some o=>rw[N _ _ (S1 _ _ z) d]at e;cases e
 have a1:∀{x:xy},x≠c->HC x=none->Z x=none:=λ{x}d e=>by
  cases z:Z x with
  |none=>rfl
  |some o=>rw[R _ _ (SB _ _ z) d]at e;cases e
 have t:But c C (upd HD c (HO.ins a.A1 f (jv (.ref p) (.ref j) (.ref D)))):=λx o e d=>yi d (SD _ _ (R _ _ (SB _ _ (N _ _ e d)) d))
 have q:∀x,W x->x≠c:=λx w z=>by
  have e:=nW x w;rw[z,X]at e;cases e
 have I:H j=none:=G i hll;have O:H D=none:=G g (a1 g htl)
 have L:¬W j:=λw=>by
  let⟨o,e⟩:=hf.live _ w;rw[N _ _ e i]at hll;cases hll
 have J:¬W D:=λw=>by
  let⟨o,e⟩:=hf.live _ w;rw[R _ _ (SB _ _ (N _ _ e g)) g]at htl;cases htl
 refine k p j D W (upd HD c (HO.ins a.A1 f (jv (.ref p) (.ref j) (.ref D)))) ⟨ya,?_,?_,?_,rfl,λw=>q c w rfl,L,J,yb S htl⟩ (λx w=>?_) (λx o e d=>t x o (S1 _ _ e) d) (λy xs H2 r b=>?_)
 .exact hf.frame (W2:=λx=>x=c) (λx z=>⟨.ins a.A1 f [],by rw[show x=c from z];exact M,.inl rfl⟩) (λx w z=>q x w z) (λx o e d=>t x o e d)
 .exact yi i (SD _ _ S)
 .exact yi g eD
 .rcases w with z|z|z
  .rw[z];exact I
  .rw[z];exact O
  .exact nW x z
 .have a3:c≠y:=λz=>by rw[<- z,X]at r;cases r
  have bG:But y C (upd H2 c (.ins a.A1 f [])):=λx o e d=>by
   by_cases z:x=c
   .rw[z,ya];rw[z,M]at e;exact e
   .exact yi z (b _ _ (t x o e z) d)
  exists b _ _ ya a3,(a0 y xs _ r bG).frame (W2:=λx=>x=c) (λx z=>⟨.ins a.A1 f [],by rw[show x=c from z];exact ya,.inl rfl⟩) (λx w z=>q x w z) (λx o e d=>by rw[yp d]at e;exact e),b _ _ (yi i (SD _ _ S)) (λz=>by rw[<- z,I]at r;cases r),b _ _ (yi g eD) (λz=>by rw[<- z,O]at r;cases r),rfl,λw=>q c w rfl,L,J,yb S htl
#synth yu2 ["self","name","text"] vbg
inductive yl0(a:Ads)(vs:Τ)(H:Hp)(Q:VK)(E':XK):Prop
 |mk(c dc:xy)(vf:V)(ll tl:xy)(x y:V)(xs ys:Τ)(_:vs=[.ref c,x,y])(_:H c=some (.ins a.A1 dc (jv vf (.ref ll) (.ref tl))))(_:H ll=some (.lst xs))(_:H tl=some (.lst ys))(_:ll≠tl)(_:xs.length<=10000)(_:ys.length<=10000)(_:Q .non (upd (upd H ll (.lst (xs++[x]))) tl (.lst (ys++[y]))))
def yj5:vx P w K mg Γ CX0 1 a.Ku a.No ["self","name","text"] (yl0 a):=by
 exists T.D2.F.ok,yu2,B;let⟨c,l,n,d,i,x,y,j,m,rfl,e,f,t,r,v,u,k⟩:=h;exists 3,0,yg (yy (jg PySem.F.plainAttrs_list PySem.F.slot_list_append PySem.F.type_list_append w9 (yo (pv 0) rfl) (pa1 (pv 1)))) (yd (yy (jg PySem.F.plainAttrs_list PySem.F.slot_list_append PySem.F.type_list_append w9 (yo (pv 0) rfl) (pa1 (pv 2)))));refine jp f ?_;ext;refine uf f (vw ()) ?_;have o:(upd H d (.lst (j++[x]))) c=some (.ins a.A1 l (jv n (.ref d) (.ref i))):=by rw[yp (λz=>by rw[z,f]at e;cases e)];exact e
 ext;have b:(upd H d (.lst (j++[x]))) i=some (.lst m):=by rw[yp r.symm];exact t
 refine jp b ?_;ext;refine uf b (vw ()) ?_;ext;exact k
def Ú.grow{H H1:Hp}{c p ll:xy}{n:Nat}{kd:Ν}{ps:Κ}{ks:Τ}{M M':Nat}{W:Μ}(h:Ú K a H c dc p ll tl n kd ps L ks M W){nm:Str}{t:Ο}{k:V}(hf:FZ K a H1 p n kd ps (jq (L.map (·.2))++dec t) M' W')(g:Go W H H1 W')(hk:k=.non\/∃q,k=.ref q/\H1 q=some (.lst (t.map V.int))/\¬ChW ll tl W' q):
  Ú K a (upd (upd H1 ll (.lst (nmL L++[V.str nm]))) tl (.lst (ks++[k]))) c dc p ll tl n kd ps (L++[(nm,t)]) (ks++[k]) M' W'/\Go (ChW ll tl W) H (upd (upd H1 ll (.lst (nmL L++[V.str nm]))) tl (.lst (ks++[k]))) (ChW ll tl W'):=by
 have v:=g.fr _ _ h.hl h.nll;have j:=g.fr _ _ h.ht h.ntl;have l:=g.fr _ _ h.me h.nc;have i:∀{x:xy}{o:HO},H x=some o->¬W x->¬W' x:=λ{x o}e d w=>(g.nw x w).elim d λz=>by rw[e]at z;cases z
 have D:=i h.hl h.nll;have C:=i h.ht h.ntl
 have f:∀x o,H1 x=some o->¬(x=ll\/x=tl)->(upd (upd H1 ll (.lst (nmL L++[V.str nm]))) tl (.lst (ks++[k]))) x=some o:=λx o e d=>by
  rw[yp (λz=>d (.inr z)),yp (λz=>d (.inl z))];exact e
 have r:c≠ll:=λz=>by have e:=h.me;rw[z,h.hl]at e;cases e
 have s:c≠tl:=λz=>by have e:=h.me;rw[z,h.ht]at e;cases e
 exists⟨f _ _ l λz=>z.elim r s,?_,?_,ya,?_,i h.me h.nc,D,C,h.ne⟩,⟨λx o e d=>?_,λx w=>?_,λx o e=>?_⟩
 .have G:jq ((L++[(nm,t)]).map (·.2))=jq (L.map (·.2))++dec t:=by rw[cM];exact yay _ _
  rw[G];refine hf.frame (W2:=λx=>x=ll\/x=tl) (λx w=>?_) (λx w z=>?_) λx o e d=>f x o e d
  .rcases w with z|z
   .exists _,by rw[show x=ll from z];exact v,.inr ⟨_,rfl,λy A=>?_⟩
    let⟨u,_,e⟩:=cI.mp A;exact .inl ⟨u.1,e.symm⟩
   .exists _,by rw[show x=tl from z];exact j,.inr ⟨_,rfl,λy A=>.inr ?_⟩
    exact(h.tx.mem y A).imp (λe=>by rw[e];rfl) λ⟨q,E,e,m,b⟩=>⟨q,e,.inl ⟨E,g.fr q _ m λw=>b (.inr (.inr w))⟩⟩
  .rcases z with z|z
   .rw[z]at w;exact D w
   .rw[z]at w;exact C w
 .rw[yp h.ne,ya];unfold nmL;rw[cM];rfl
 .refine ybv.snoc ?_ (h.tx.mono λq I e b=>⟨f q _ (g.fr q _ e λw=>b (.inr (.inr w))) λz=>b (z.imp id .inl),λw=>?_⟩)
  .refine hk.imp id λ⟨q,e,m,b⟩=>⟨q,e,f q _ m λz=>b (z.imp id .inl),b⟩
  .rcases w with w|w|w
   .exact b (.inl w)
   .exact b (.inr (.inl w))
   .exact i e (λw=>b (.inr (.inr w))) w
 .exact f x o (g.fr x o e λw=>d (.inr (.inr w))) λz=>d (z.imp id .inl)
 .rcases w with w|w|w
  .exact .inl (.inl w)
  .exact .inl (.inr (.inl w))
  .exact(g.nw x w).imp (λw=>.inr (.inr w)) id
 .obtain⟨B,F⟩:=g.lv x o e;by_cases z2:x=tl
  .exists _,by rw[z2];exact ya
  .by_cases z1:x=ll
   .exists _,by rw[z1,yp h.ne];exact ya
   .exists B,f x B F λz=>z.elim z1 z2
#synth ynr ["self","name","text","data"] ["self","name","text"] vag
inductive yfv(K:z0)(a:Ads)(vs:Τ)(H:Hp)(Q:VK)(E':XK):Prop
 |mk(c dc p ll tl:xy)(n:Nat)(kd:Ν)(ps:Κ)(L:Η)(ks:Τ)(M:Nat)(W:Μ)(tx:xy)(nm:Str)(ts:Ο)(_:vs=[.ref c,.str nm,.ref tx])(_:Ú K a H c dc p ll tl n kd ps L ks M W)(_:L.length<=1000)(_:Ĥ H tx ts 1000)(_:¬W tx)(_:M+6*(dec ts).length+20<1000000)(_:∀(r:xy)(W':Μ)(H':Hp),H r=none->H' r=some (.lst ((ux n kd ps (jq (L.map (·.2))) ts).map V.int))->Ú K a H' c dc p ll tl n kd ps (L++[(nm,ts)]) (ks++[.non]) (M+6*(dec ts).length) W'->Go (ChW ll tl W) H H' (ChW ll tl W')->Q (.ref r) H')
def ywj:vx P w K mg Γ CX0 8 a.Kv a.Np ["self","name","text"] (yfv K a):=by
 exists T.Ie.F.ok,ynr,v;let⟨c,u,p,x,y,n,N,Y,L,R,M,W,G,nm,U,rfl,b,hz,e,l,X,k⟩:=h;have S:=b.me;have O:=b.tx.len;exists 3,1,yg (yu (i:=3) ynr.nd rfl (Or.inl rfl) (ug (yuf T) v.m T.Pb (pac (yo (pv 0) rfl) (pa1 (pv 2))))) (yg (yy (xo (pv 0) T.Al T.D2.m (yj5 T) v.m T.D2.B .nil wo (pac (pv 1) (pa1 jm)))) (yd (yt (pv 3))));refine b.fz.press e l X λr D Z d j J g=>?_;have f:=g.fr _ _ b.hl b.nll;have o:=g.fr _ _ b.ht b.ntl;have q:=g.fr _ _ b.me b.nc;ext;exists c,u,_,x,y,_,_,_,_,rfl,q,f,o,b.ne,by unfold nmL;rw[bz];omega,(),?_
 let⟨z,g2⟩:=b.grow (nm:=nm) J g (.inl rfl);ext;refine k r D _ d ?_ z g2;rw[yp (yb b.ht d).symm,yp (yb b.hl d).symm];exact j
#synth yjb ["self","name","data","most","first"] ["self","name","data","most"] va9
inductive ya3(K:z0)(a:Ads)(vs:Τ)(H:Hp)(Q:VK)(E':XK):Prop
 |mk(c dc p ll tl:xy)(n:Nat)(kd:Ν)(ps:Κ)(L:Η)(ks:Τ)(M:Nat)(W:Μ)(dt:xy)(nm:Str)(ts bs:Ο)(mo:Nat)(_:vs=[.ref c,.str nm,.ref dt,.int mo])(_:Ú K a H c dc p ll tl n kd ps L ks M W)(_:L.length<=1000)(_:Sgs ts)(_:H dt=some (.lst ((ux n kd ps (jq (L.map (·.2))) ts++bs).map V.int)))(_:¬W dt)(_:Byt bs)(_:(ux n kd ps (jq (L.map (·.2))) ts++bs).length<=12000)(_:ts.length<=mo)(_:mo<=1000)(_:M+54*mo+200<1000000)(_:∀(q:xy)(W':Μ)(H':Hp),H q=none->Ú K a H' c dc p ll tl n kd ps (L++[(nm,ts)]) (ks++[.ref q]) (M+6*(dec ts).length) W'->Go (ChW ll tl W) H H' (ChW ll tl W')->Q (.int ((ux n kd ps (jq (L.map (·.2))) ts).length:Nat)) H')
inductive yfn(K:z0)(a:Ads)(vs:Τ)(H:Hp)(E':VK)(E:XK):Prop
 |mk(c dc p ll tl:xy)(n:Nat)(kd:Ν)(ps:Κ)(L:Η)(ks:Τ)(M:Nat)(W:Μ)(dt:xy)(nm:Str)(d:Ο)(mo:Nat)(_:vs=[.ref c,.str nm,.ref dt,.int mo])(_:Ú K a H c dc p ll tl n kd ps L ks M W)(_:H dt=some (.lst (d.map V.int)))(_:¬W dt)(_:Byt d)(_:d.length<=12000)(_:mo<=1000)(_:M+54*mo+200<1000000)(_:(∀ts bs,Sgs ts->ts.length<=mo->d≠ux n kd ps (jq (L.map (·.2))) ts++bs))(_:∀H',(∀x o,H x=some o->¬W x->H' x=some o)->E (.ref a.Bq) none H')
def vgb(K:z0)(a:Ads):Sp:=λvs H Q E=>ya3 K a vs H Q E\/yfn K a vs H Q E
def ο:vx P w K mg Γ (CXe P w) 11 a.Gy a.Hh ["self","name","data","most"] (vgb K a):=by
 refine T.Ev.F.okE yjb (λvs H Q E h=>?_) (λa1 A a0 s H vs Q E C h=>?_)
 .rcases h with⟨c,x,p,r,u,n,y,G,L,D,M,W,U,nm,ts,bs,mo,rfl,_⟩|⟨c,x,p,r,u,n,y,G,L,D,M,W,U,nm,d,mo,rfl,_⟩
  .rfl
  .rfl
 .rcases h with⟨c,x,p,r,u,n,y,G,L,D,M,W,U,nm,ts,bs,mo,rfl,b,hz,I,f,o,S,e,O,j,hM,k⟩|⟨c,x,p,r,u,n,y,G,L,D,M,W,U,nm,d,mo,rfl,b,f,o,hd,e,j,hM,no,k⟩
  .have Z:=b.me;have a2:=b.tx.len;exists 4,1,yg (yu (i:=4) yjb.nd rfl (Or.inl rfl) (ur (yom T) C.m T.Ic yr (pac (yo (pv 0) rfl) (pac (pv 2) (pa1 (pv 3)))))) (yg (yy (xo (pv 0) T.Al T.D2.m (yj5 T) C.m T.D2.B .nil wo (pac (pv 1) (pa1 (xk jl (pv 4) yc (λF F=>rfl)))))) (yd (yt (xk jl (pv 4) yc (λF F=>rfl)))));refine b.fz.read (u6 _) I f o S e O j hM λt q W' H1 v l ht hq hf g nq=>?_;have N:=g.fr _ _ b.hl b.nll;have X:=g.fr _ _ b.ht b.ntl;have Y:=g.fr _ _ b.me b.nc;ext;exists t,_,0,_,rfl,rfl,SqT.of ht,rfl,?_;ext;exists c,x,_,r,u,_,_,_,_,rfl,Y,N,X,b.ne,by unfold nmL;rw[bz];omega,(),?_
   have J:¬ChW r u W' q:=λw=>by
    rcases w with w|w|w
    .exact yb b.hl l w.symm
    .exact yb b.ht l w.symm
    .exact nq w
   let⟨z,g2⟩:=b.grow (nm:=nm) hf g (.inr ⟨q,rfl,hq,J⟩)
   have R:(upd (upd H1 r (.lst (nmL L++[V.str nm]))) u (.lst (D++[V.ref q]))) t=some (.tup [.ref q,.int ((ux n y G (jq (L.map (·.2))) ts).length:Nat)]):=by
    rw[yp (yb b.ht v).symm,yp (yb b.hl v).symm];exact ht
   ext;exists t,_,1,_,rfl,rfl,SqT.of R,rfl,?_;exact k q W' _ l z g2
  .have Z:=b.me;exists 4,1,yg (yu (i:=4) yjb.nd rfl (Or.inl rfl) (ur (yom T) C.m T.Ic yr (pac (yo (pv 0) rfl) (pac (pv 2) (pa1 (pv 3)))))) (yg (yy (xo (pv 0) T.Al T.D2.m (yj5 T) C.m T.D2.B .nil wo (pac (pv 1) (pa1 (xk jl (pv 4) yc (λF F=>rfl)))))) (yd (yt (xk jl (pv 4) yc (λF F=>rfl)))));exact b.fz.readN f o hd e j hM no k
def yy1:vx P w K mg Γ (CXe P w) 11 a.Gy a.Hh ["self","name","data","most"] (ya3 K a):=(ο T).imp λZ Z Z Z h=>.inl h
#synth yya ["thing"] vab
inductive yho(K:z0)(vs:Τ)(H:Hp)(Q:VK)(E':XK):Prop
 |mk(x n:_)(_:vs=[x])(_:xu K H x (.type n))(_:(∀s,x=.str s->s.length<=100000))(_:∀H',yx H H'->Q (.bl (nmV x)) H')
def ywx:vx P w K mg Γ CX0 1 a.Kw a.Nq ["thing"] (yho K):=by
 exists T.Pg.F.ok,yya,u;let⟨x,n,rfl,b,d,k⟩:=h;exists 1,0,yd (yt (uv (pcB w6 T.A8 (pac (pv 0) (pa1 (τ (T:="str") rfl T.Pu (by right))))) (uv (Ô jh jh yc (pcB zg T.A9 (pa1 (pv 0))) (vq rfl T.De)) (jz (pcB (j7 rfl) T.Du (pa1 (wy (js:=[]) (ys:=[]) rfl (ykb (pv 0)) (λC v t r=>(jt ygp (pv 0) (yc3 rfl T.Cm) (by with_unfolding_all rfl))) rfl rfl (hyc:=y7) (hrel:=y7))))))));refine ĥ b (ydw b) ?_;ext;by_cases hn:n="str"
 .obtain⟨s',rfl⟩:∃s',x=.str s':=by
   cases b with
   |str s'=>exists s',rfl
   |_=>exact absurd hn ∅
  have d:=d s' rfl;rw[cT hn];refine ybz ?_;ext;exists s',rfl,dB d ∅,?_;refine⟨1,(s'.length:Int),rfl,rfl,_,rfl,?_⟩;by_cases h1:(1:Int)<=(s'.length:Int)
  .refine ybr h1 ?_;exists(s'.length:Int),8,rfl,rfl,_,rfl,?_;by_cases h8:(s'.length:Int)<=8
   .refine ybr h8 ?_;ext;exists s',rfl,λD j=>?_;refine č (λi=>.bl (ygh (s'.cps.toList.getD i 0))) j (λi c G p q S f=>?_) (λG S f=>?_)
    .ext;exists _,_,rfl,rfl,?_;refine Mp.doneR j (Nat.lt_of_le_of_lt (show s'.cps.size<=100000 from d) ∅) q S f ?_
     have m:s'.cps.toList.getD i 0=c:=by
      rw[ed,Array.getElem?_toList,p];rfl
     rw[m];unfold ygh;rfl
    .ext;exists D,s'.cps.toList.map ygh,rfl,?_,?_
     .refine SqL.of (f.trans ?_);rw[ysc]
     .have e:=yt4 h1 h8;rw[<- e];exact k _ S
   .have e:=ywt h8;rw[e]at k;exact ygb h8 (k _ (yx.refl _))
  .have e:=yyi h1;rw[e]at k;refine ygb h1 ?_;exists _,rfl,ybw (k _ (yx.refl _))
 .have e:nmV x=false:=by
   cases b with
   |str s'=>exact absurd rfl hn
   |_=>rfl
  rw[cX hn];rw[e]at k;exact ybw (k _ (yx.refl _))
#synth yws ["thing"] yzl
inductive yk6(K:z0)(C:xy)(vs:Τ)(H:Hp)(Q:VK)(E:XK):Prop
 |mk(x n:_)(_:vs=[x])(_:xu K H x (.type n))(_:(∀s,x=.str s->s.length<=100000))(_:(nmV x=true->∀H',yx H H'->Q x H'))(_:(nmV x=false->∀H',yx H H'->E (.ref C) none H'))
def yev:vx P w K mg Γ (CXe P w) 2 a.Kx a.Nr ["thing"] (yk6 K a.Aa):=by
 exists T.Ew.F.okE,yws,k;let⟨x,n,rfl,i,g,j,f⟩:=h;exists 1,0,yg (wa (uw (zq (ug (ywx T) k.m T.Pg (pa1 (pv 0))))) (yd (wn rfl T.D9 T.Db (pa1 v7))) y8) (yd (yt (pv 0)));exists x,n,rfl,i,g,λl c=>?_;ext
 cases hx:nmV x with
 |false =>
  ext;exists by walk_at "len",f hx _ c
 |true =>
  ext;exact j hx _ c
#synth yu3 ["thing"] yz9
inductive ymr(K:z0)(C:xy)(vs:Τ)(H:Hp)(Q:VK)(E:XK):Prop
 |mk(x n:_)(_:vs=[x])(_:xu K H x (.type n))(_:(∀s,x=.str s->s.length<=100000))(_:((x=.non\/nmV x=true)->∀H',yx H H'->Q .non H'))(_:(x≠.non->nmV x=false->∀H',yx H H'->E (.ref C) none H'))
def yxq:vx P w K mg Γ (CXe P w) 3 a.Ky a.Nt ["thing"] (ymr K a.Aa):=by
 exists T.Ph.F.okE,yu3,o;let⟨x,n,rfl,l,k,e,j⟩:=h;exists 1,0,yd (wa (yw ycy (pv 0) jm (y9 _)) (yd (yy (ur (yev T) o.m T.Ew yr (pa1 (pv 0))))) y8);by_cases hx:x=.non
 .subst hx;ext;exact e (.inl rfl) _ (yx.refl _)
 .ext;rw[cX hx];refine ybz ?_;ext;exists x,n,rfl,l,k,λc f b=>?_,λc f b=>j hx c f b;ext;exact e (.inr c) _ b
#synth yyq ["self","base","data"] vaz
inductive yky(a:Ads)(vs:Τ)(H:Hp)(Q:VK)(E':XK):Prop
 |mk(p dp:xy)(x y:V)(_:vs=[.ref p,x,y])(_:H p=some (.ins a.Ab dp []))(_:∀H',H' p=some (.ins a.Ab dp (Ę x y))->But p H H'->Q .non H')
def ypm:vx P w K mg Γ CX0 1 a.Gz a.Nu ["self","base","data"] (yky a):=by exists T.If.F.ok,yyq,l;let⟨p,b,x,y,rfl,j,k⟩:=h;exists 3,0,yg (ve (pv 0) (pv 1) rfl) (yd (ve (pv 0) (pv 2) rfl));have d:upd H p (HO.ins a.Ab b ([("base",x)]:Ι)) p=some (HO.ins a.Ab b ([("base",x)]:Ι)):=ya;have e:But p H (upd H p (HO.ins a.Ab b ([("base",x)]:Ι))):=But.upd;generalize upd H p (HO.ins a.Ab b ([("base",x)]:Ι))=i at d e⊢;ext;exact k _ ya (e.trans But.upd)
def vgd(K:z0)(H:Hp)(x:V):Prop:=(∃n,xu K H x (.type n)/\n≠"list")\/∃(l:xy)(xs:Τ)(bs:qi Bool),x=.ref l/\H l=some (.lst xs)/\xs.length<=1000/\ypt K H xs bs/\¬(1<=xs.length/\xs.length<=6/\bs.all id=true)
inductive StI(K:z0)(a:Ads)(H:Hp)(p ds:xy)(Q:VK)(E:XK):V->V->Prop
 |good (l:xy) (mo w n:Nat) (lk tp:Λ) (kd:Ν) (ps:Κ) (hl:H l=some (.lst (refs lk n))) (n1:1<=n) (n6:n<=6) (hlk:xi H n lk kd tp ps) (hmo:mo<=1000) (hw1:w<=mo) (hw2:w<=200)
  (k:∀(ll d c dc q cl ct:xy)(U:Μ)(H':Hp),ζ K a H' p ds ll d c dc q cl ct lk tp n kd ps mo w [] [] [] U->(∀x,StW c cl ct U x->H x=none)->H ll=none->H d=none->But p H H'->Q .non H'):StI K a H p ds Q E (.ref l) (.int mo)
 |looks (x m:V) (h:vgd K H x) (k:∀H',yx H H'->E (.ref a.Bv) none H'):StI K a H p ds Q E x m
 |most (l:xy) (n:Nat) (lk tp:Λ) (kd:Ν) (ps:Κ) (m:V) (nt:String) (hl:H l=some (.lst (refs lk n))) (n1:1<=n) (n6:n<=6) (hlk:xi H n lk kd tp ps) (ty:∀H',But p H H'->xu K H' m (.type nt)) (hm:ypw m=false) (k:∀H',But p H H'->E (.ref a.Ae) none H'):StI K a H p ds Q E (.ref l) m
#synth yvm ["self","looks","most"] vcg
inductive ya7(K:z0)(a:Ads)(vs:Τ)(H:Hp)(Q:VK)(E:XK):Prop
 |mk(p ds:xy)(x m:V)(_:vs=[.ref p,x,m])(_:H p=some (.ins a.A0 ds []))(_:StI K a H p ds Q E x m)
def yn4:vx P w K mg Γ (CXe P w) 10 a.Ha a.Fo ["self","looks","most"] (ya7 K a):=by
 exists T.Qw.okE,yvm,hr;let⟨p,g,x,m,rfl,J,h⟩:=h;refine yf (ve (pv 0) (ur (yo7 T) hr.m T.I2 yr (pa1 (pv 1))) rfl) ?_;refine yf (yy (ur (vel T) hr.m T.Qv yr (pa1 (pv 2)))) ?_;refine yf (ve (pv 0) (pv 2) rfl) ?_;refine yf (ve (pv 0) yd6 rfl) ?_;exists 3,0,yd (ve (pv 0) (zi T.Cv (yem T) hr.m rfl T.Cu T.Eu.B .nil yr (pa1 (yo (pv 0) rfl))) rfl)
 cases h with
 |looks x m h k =>
  rcases h with⟨n,ty,hn⟩|⟨l,xs,bs,rfl,hl,hz,hb,Z⟩
  .exact .inl ⟨x,n,rfl,ty,hn,k H (yx.refl _)⟩
  .exact .inr ⟨l,xs,bs,rfl,hl,hz,hb,λz=>absurd z Z,λB H' S=>k H' S⟩
 |most l n lk tp kd ps m nt hl n1 n6 hlk ty hm k =>
  refine .inr ⟨l,refs lk n,List.replicate (refs lk n).length true,rfl,hl,by rw[vi];omega,hlk.lks.bs,λB f F t C j=>?_,λZ=>absurd ⟨by rw[vi];exact n1,by rw[vi];exact n6,yc2 _⟩ Z⟩;have a1:=j _ _ J;ext;have O:But p H (upd F p (HO.ins a.A0 g ([("looks",V.ref f)]:Ι))):=λb o e u=>yi u (j _ _ e);exists m,nt,rfl,ty _ O,(λz=>by rw[hm]at z;cases z),λB=>k _ O
 |good l mo w n lk tp kd ps hl n1 n6 hlk hmo hw1 hw2 k =>
  refine .inr ⟨l,refs lk n,List.replicate (refs lk n).length true,rfl,hl,by rw[vi];omega,hlk.lks.bs,λB f F t C j=>?_,λZ=>absurd ⟨by rw[vi];exact n1,by rw[vi];exact n6,yc2 _⟩ Z⟩;have a1:=j _ _ J;ext;have a7:upd F p (HO.ins a.A0 g ([("looks",V.ref f)]:Ι)) p=some (HO.ins a.A0 g ([("looks",V.ref f)]:Ι)):=ya;have O:But p F (upd F p (HO.ins a.A0 g ([("looks",V.ref f)]:Ι))):=But.upd;generalize upd F p (HO.ins a.A0 g ([("looks",V.ref f)]:Ι))=HA at a7 O⊢;exists .int mo,"int",rfl,.int _,λB=>?_,λz=>by rw[ywa hmo]at z;cases z
  ext;have L:upd HA p (HO.ins a.A0 g ([("looks",V.ref f),("most",V.int mo)]:Ι)) p=some (HO.ins a.A0 g ([("looks",V.ref f),("most",V.int mo)]:Ι)):=ya;have BB:But p HA (upd HA p (HO.ins a.A0 g ([("looks",V.ref f),("most",V.int mo)]:Ι))):=But.upd;generalize upd HA p (HO.ins a.A0 g ([("looks",V.ref f),("most",V.int mo)]:Ι))=HB at L BB⊢;intro d hd0;exists hd0,HC,SC,eC;have a9:=SC _ _ L;ext;have r:upd HC p (HO.ins a.A0 g ([("looks",V.ref f),("most",V.int mo),("pieces",V.ref d)]:Ι)) p=some (HO.ins a.A0 g ([("looks",V.ref f),("most",V.int mo),("pieces",V.ref d)]:Ι)):=ya;have BD:But p HC (upd HC p (HO.ins a.A0 g ([("looks",V.ref f),("most",V.int mo),("pieces",V.ref d)]:Ι))):=But.upd;generalize upd HC p (HO.ins a.A0 g ([("looks",V.ref f),("most",V.int mo),("pieces",V.ref d)]:Ι))=D at r BD⊢;have I:∀x o,F x=some o->x≠p->D x=some o:=λx o e u=>BD _ _ (SC _ _ (BB _ _ (O _ _ e u) u)) u
  have K0:∀x,x≠p->D x=none->H x=none:=λx u e=>by
   cases z:H x with
   |none=>rfl
   |some o=>rw[I _ _ (j _ _ z) u]at e;cases e
  have R:f≠p:=(yb J t).symm;have y:d≠p:=(yb L hd0).symm;have M:=I _ _ C R;have Y:D d=some (.dK []):=BD _ _ eC y
  have a5:xi D n lk kd tp ps:=λi hi=>by
   let⟨q,e,W,h2,h3⟩:=hlk i hi;exists q,e,I _ _ (j _ _ W) (xw W J (by intro z;cases z)),I _ _ (j _ _ h2) (xw h2 J (by intro z;cases z)),h3
  exists p,_,g,_,_,rfl,r,T.A2,T.Ay,rfl,?_;ext;intro c dc nc a8 ab;have SQ:yx D (upd (upd D dc (.own c)) c (.ins a.A1 dc [])):=λb o e=>by rw[yp (yb e nc),yp (yb e a8)];exact e
  exists c,dc,f,n,lk,tp,kd,ps,rfl,ya,SQ _ _ M,n1,n6,a5.same SQ,λq cl ct U HE a4 X BE B=>⟨rfl,?_⟩;have N:yx D HE:=λb o e=>BE _ _ (SQ _ _ e) (yb e nc);have a3:=N _ _ r
  have G:∀x,StW c cl ct U x->D x=none:=λx w=>by
   rcases w with z|z
   .rw[z];exact nc
   .exact SQ.free (X x z)
  have a0:¬StW c cl ct U p:=λw=>by have e:=G _ w;rw[r]at e;cases e
  have a2:H d=none:=by
   cases z:H d with
   |none=>rfl
   |some o=>rw[BB _ _ (O _ _ (j _ _ z) y) y]at hd0;cases hd0
  ext;refine k f d c dc q cl ct U _ ⟨ya,n1,n6,yi R (N _ _ M),λi hi=>?_,⟨yi y (N _ _ Y),λq v=>(by cases v),List.nodup_nil,λq v=>(by cases v),λq v=>(by cases v),dg _,λq v=>(by cases v)⟩,a4.but a3 a0 But.upd,λx hx w=>?_,hmo,⟨hw1,hw2⟩,⟨none,rfl⟩⟩ (λx w=>?_) t ?_ (λx o e u=>yi u (N _ _ (I _ _ (j _ _ e) u)))
  .obtain⟨q,e,W,h2,h3⟩:=hlk i hi;have n1:=xw W J (by intro z;cases z);have n2:=xw h2 J (by intro z;cases z);exists q,e,yi n1 (N _ _ (I _ _ (j _ _ W) n1)),yi n2 (N _ _ (I _ _ (j _ _ h2) n2)),h3
  .have e:=G _ w;rcases hx with z|z|z|⟨q,v,_⟩
   .rw[z,r]at e;cases e
   .rw[z,M]at e;cases e
   .rw[z,Y]at e;cases e
   .cases v
  .exact K0 x (λz=>a0 (z ▸ w)) (G x w)
  .exact a2
def Sto.new{H:Hp}{l:xy}{mo w n:Nat}{lk:Λ}{kd:Ν}{ps:Κ}{Q:VK}{E:XK}(hst0:H st=none)(hds0:H ds=none)(hlo:H l=some (.lst (refs lk n)))(n1:1<=n)(n6:n<=6)(hR:xi H n lk kd tp ps)(m1:mo<=1000)(wm:w<=mo)(w2:w<=200)
  (k:∀X H',Sto K a H' st ⟨n,kd,ps,mo,w⟩ [] X->yx H H'->(∀y,X.f y->H y=none)->Q .non H'):ya7 K a [.ref st,.ref l,.int mo] (upd (upd H ds (.own st)) st (.ins a.A0 ds [])) Q E:=by
 have g:yx H (upd (upd H ds (.own st)) st (.ins a.A0 ds [])):=λb o e=>by rw[yp (yb e hst0),yp (yb e hds0)];exact e
 exists st,ds,.ref l,.int mo,rfl,ya,.good l mo w n lk tp kd ps (g _ _ hlo) n1 n6 (hR.same g) m1 wm w2 λA d c s p r t U x m j h i v=>k _ x ⟨ds,A,d,c,s,p,r,t,lk,tp,[],[],[],U,m,rfl,rfl⟩ (λy o e=>v _ _ (g _ _ e) (yb e hst0)) λy u=>?_;rcases u with(z|z|z)|z|⟨q,hq,_⟩|z
 .rw[z];exact g.free i
 .rw[z];exact hst0
 .exact g.free (j y z)
 .rw[z];exact g.free h
 .cases hq
 .cases z
#synth yvu ["self"] yzx
inductive yav(a:Ads)(vs:Τ)(H:Hp)(Q:VK)(E':XK):Prop
 |mk(st ds ll:xy)(vm vp vc:V)(xs:Τ)(_:vs=[.ref st])(_:H st=some (.ins a.A0 ds (v8 (.ref ll) vm vp vc)))(_:H ll=some (.lst xs))(_:∀l H',H l=none->H' l=some (.lst xs)->yx H H'->Q (.ref l) H')
def yy3:vx P w K mg Γ CX0 1 a.Kz a.Nv ["self"] (yav a):=by exists T.Ig.F.ok,yvu,r;let⟨o,m,e,p,j,n,q,rfl,g,c,k⟩:=h;exists 1,0,yd (yt (pcT wb T.Ap (pa1 (yo (pv 0) rfl))));exists e,_,rfl,.inl (SqL.of c),λl b=>?_;exact k l _ b ya (y6 b)
def Sto.tlooks{H:Hp}{C:Cf}{P:qi Pd}{X:Sx}{Q:VK}{E:XK}(h:Sto K a H st C P X)(k:∀l lk tp H',H l=none->H' l=some (.lst (refs lk C.n))->xi H' C.n lk C.kd tp C.ps->yx H H'->Q (.ref l) H'):yav a [.ref st] H Q E:=by let⟨b,g,d,c,o,p,m,q,lk,tp,i,L,j,U,s,rfl,rfl⟩:=h;exists st,b,g,_,_,_,_,rfl,s.me,s.lo,λl H' f e S=>k l lk tp H' f e (s.row.same S) S
#synth yt8 ["self"] vbe
inductive yed(a:Ads)(vs:Τ)(H:Hp)(Q:VK)(E':XK):Prop
 |mk(st ds:xy)(vl vm vp vc:V)(_:vs=[.ref st])(_:H st=some (.ins a.A0 ds (v8 vl vm vp vc)))(_:Q vm H)
def yxg:vx P w K mg Γ CX0 1 a.L1 a.Nw ["self"] (yed a):=by exists T.Ih.F.ok,yt8,n;let⟨m,i,g,l,f,j,rfl,d,k⟩:=h;exists 1,0,yd (yt (yo (pv 0) rfl));exact k
def Sto.tmost{H:Hp}{C:Cf}{P:qi Pd}{X:Sx}{Q:VK}{E:XK}(h:Sto K a H st C P X)(k:Q (.int C.mo) H):yed a [.ref st] H Q E:=by let⟨b,n,d,c,i,p,g,j,l,m,e,L,f,U,s,rfl,rfl⟩:=h;exists st,b,_,_,_,_,rfl,s.me,k
#synth yu1 ["self"] vcb
inductive yd3(a:Ads)(vs:Τ)(H:Hp)(Q:VK)(E':XK):Prop
 |mk(st ds d:xy)(vl vm vc:V)(P:qi Pc)(_:vs=[.ref st])(_:H st=some (.ins a.A0 ds (v8 vl vm (.ref d) vc)))(_:H d=some (.dK (pcs P)))(_:P.length<=60)(_:∀l H',H l=none->H' l=some (.lst (P.map λq=>V.str q.nm))->yx H H'->Q (.ref l) H')
def yju:vx P w K mg Γ CX0 1 a.L6 a.Ny ["self"] (yd3 a):=by
 exists T.D3.F.ok,yu1,v;let⟨t,n,d,j,r,o,P,rfl,g,m,u,k⟩:=h;exists 1,0,yd (yt (pcT (yfm rfl) T.Ap (pa1 (yo (pv 0) rfl))));exists d,_,rfl,m,λl b=>?_;have e:(pcs P).map (λp=>kV p.1)=P.map λq=>V.str q.nm:=by unfold pcs;rw[dD];rfl
 rw[e];exact k l _ b ya (y6 b)
def Sto.names{H:Hp}{C:Cf}{P:qi Pd}{X:Sx}{Q:VK}{E:XK}(h:Sto K a H st C P X)(k:∀l H',H l=none->H' l=some (.lst (P.map λq=>V.str q.nm))->yx H H'->Q (.ref l) H'):yd3 a [.ref st] H Q E:=by let⟨e,t,d,c,m,p,j,n,o,r,b,L,i,U,s,rfl,rfl⟩:=h;exists st,e,d,_,_,_,b,rfl,s.me,s.pz.dk,s.pz.z,λl H' g f S=>k l H' g ?_ S;rw[dD];exact f
#synth yxy ["self","text"] vcd
inductive yq7(a:Ads)(vs:Τ)(H:Hp)(Q:VK)(E:XK):Prop
 |mk(st ds tx:xy)(vl vp vc:V)(mo:Int)(xs:Τ)(_:vs=[.ref st,.ref tx])(_:H st=some (.ins a.A0 ds (v8 vl (.int mo) vp vc)))(_:H tx=some (.lst xs))(_:((xs.length:Int)<=mo->Q .non H))(_:(¬(xs.length:Int)<=mo->E (.ref a.Am) none H))
def yv3:vx P w K mg Γ (CXe P w) 1 a.L8 a.O0 ["self","text"] (yq7 a):=by
 exists T.Ij.F.okE,yxy,t;let⟨p,k,l,j,g,o,n,r,rfl,e,b,q,i⟩:=h;exists 2,0,yd (wa (yw yki (pcB yq T.A9 (pa1 (pv 1))) (yo (pv 0) rfl) (y9 _)) (yd (wn rfl T.Dt T.Gf (pa1 v7))) y8);refine uc (SqL.of b) ?_;ext;refine xz (λm=>?_) (λm=>?_)
 .ext;exists by walk_at "len",i ()
 .exact q ()
#synth yyt ["self","name"] yzj
inductive yvi(K:z0)(a:Ads)(vs:Τ)(H:Hp)(Q:VK)(E:XK):Prop
 |mk(st ds d:xy)(vl vm vc:V)(n:Nat)(kd:Ν)(ps:Κ)(w:Nat)(P:qi Pc)(x:V)(nt:String)(_:vs=[.ref st,x])(_:H st=some (.ins a.A0 ds (v8 vl vm (.ref d) vc)))(_:ŕ a H d n kd ps w P)(_:xu K H x (.type nt))(_:(∀s,x=.str s->s.length<=100000))(_:(nmV x=false->∀H',yx H H'->E (.ref a.Aa) none H'))(_:(∀b,x=.str b->nmS b=true->(∀q,q∈P->q.nm≠b)->∀H',yx H H'->E (.ref a.Ac) none H'))(_:(∀r,r∈P->x=.str r.nm->nmS r.nm=true->∀H',yx H H'->Q (.ref r.ob) H'))
def yeu:vx P w K mg Γ (CXe P w) 3 a.La a.O5 ["self","name"] (yvi K a):=by
 exists T.C3.F.okE,yyt,j;let⟨N,y,d,v,G,R,n,M,L,w,P,x,q,rfl,g,B,z,O,D,J,C⟩:=h;exists 2,0,yg (wa (yjl (ya9 (Ķ j) (ur (yev T) j.m T.Ew yr (pa1 (pv 1))) (yo (pv 0) rfl))) (yd (wn rfl T.Ge T.Gg (pa1 v7))) y8) (yd (yt (ſ (Ķ j) (yo (pv 0) rfl) (pv 1) (λZ Z=>rfl))));exists x,q,rfl,z,O,λi l f=>?_,λi l f=>D i l f;let⟨b,rfl,t⟩:=yu6 i;have o:=f _ _ g;have c:=B.same f;ext;rcases yzi P b with⟨r,e,rfl⟩|p
 .exists d,_,rfl,c.get e,?_;exists false,rfl,ybw ?_;ext;exists d,_,rfl,c.get e,?_;exact C r e rfl t _ f
 .exists d,_,rfl,c.getNo p,?_;exists true,rfl,ybz ?_;ext;exists by walk_at "len",J b rfl t p _ f
#synth yvo ["self","name","base"] vci
inductive yrz(K:z0)(a:Ads)(vs:Τ)(H:Hp)(Q:VK)(E:XK):Prop
 |mk(st ds d:xy)(vl vm vc:V)(n:Nat)(kd:Ν)(ps:Κ)(w:Nat)(P:qi Pc)(b:Str)(x:qj Str)(_:vs=[.ref st,.str b,baV x])(_:H st=some (.ins a.A0 ds (v8 vl vm (.ref d) vc)))(_:ŕ a H d n kd ps w P)(_:(∀y,x=some y->nmS y=true/\y.length<=100000))(_:((∃r,r∈P/\r.nm=b)->E (.ref a.Aj) none H))(_:((∀q,q∈P->q.nm≠b)->(∀y,x=some y->(∀q,q∈P->q.nm≠y)->∀H',yx H H'->E (.ref a.Ac) none H')/\(∀L,To P x L->(P.length=60->∀H',yx H H'->E (.ref a.B8) none H')/\(P.length≠60->∀H',yx H H'->Q .non H'))))
def yod:vx P w K mg Γ (CXe P w) 4 a.L9 a.O4 ["self","name","base"] (yrz K a):=by
 exists T.Ey.F.okE,yvo,L;let⟨M,v,d,u,G,O,n,J,I,w,P,b,x,rfl,f,g,W,Z,k2⟩:=h;exists 3,0,yg (wa (yjl (yxt (Ķ L) (pv 1) (yo (pv 0) rfl))) (yd (wn rfl T.E4 T.E5 (pa1 v7))) y8) (yg (wa (yw ycy (pv 2) jm (y9 _)) (yd (yy (vj (pv 0) T.A2 T.C3.m (yeu T) L.m T.C3.B .nil yr (pa1 (pv 2))))) y8) (yd (wa (yw xx (pcB yhf T.A9 (pa1 (yo (pv 0) rfl))) (vq rfl T.Dq) (y9 _)) (yd (wn rfl T.Ja T.Fm (pa1 v7))) y8)));rcases yzi P b with⟨r,c,rfl⟩|D
 .exists d,_,rfl,g.get c,?_;exists true,rfl,ybz ?_;ext;exists by walk_at "len",Z ⟨r,c,rfl⟩
 .exists d,_,rfl,g.getNo D,?_;exists false,rfl,ybw ?_;let⟨Y,N⟩:=k2 D;have X:(pcs P).length=P.length:=bz _;ext
  cases x with
  |none =>
   refine yta (λF=>?_) (λz=>absurd rfl z);let⟨p,o⟩:=N [] rfl;ext;exists d,_,rfl,g.dk,?_;ext;refine xz (λk=>?_) (λk=>?_)
   .ext;exists by walk_at "len",p () _ (yx.refl _)
   .ext;exact o () _ (yx.refl _)
  |some y =>
   refine yta (λz=>nomatch z) (λF=>?_)
   let⟨j,t⟩:=W y rfl;ext;exists M,v,d,u,G,O,n,J,I,w,P,.str y,"str",rfl,f,g,.str y,(λs e=>by cases e;exact t),(λz=>by rw[show nmV (.str y)=nmS y from rfl,j]at z;cases z),(λb e F l U S=>by cases e;exact Y y rfl l U S),λr c e F H1 i=>?_;obtain rfl:y=r.nm:=by cases e;rfl
   let⟨p,o⟩:=N _ ⟨r,c,rfl,rfl⟩;have C:=i _ _ f;ext;exists d,_,rfl,i _ _ g.dk,?_;ext;refine xz (λk=>?_) (λk=>?_)
   .ext;exists by walk_at "len",p () _ i
   .ext;exact o () _ i
#synth yjv ["self","name","links"] ["self","name"] vbf
inductive ymu(a:Ads)(vs:Τ)(H:Hp)(Q:VK)(E':XK):Prop
 |mk(st ds d:xy)(vl vm vc:V)(n:Nat)(kd:Ν)(ps:Κ)(w:Nat)(P:qi Pc)(x:qj Str)(L:Η)(_:vs=[.ref st,baV x])(_:H st=some (.ins a.A0 ds (v8 vl vm (.ref d) vc)))(_:ŕ a H d n kd ps w P)(_:To P x L)(_:∀(l:xy)(H':Hp),H l=none->H' l=some (.lst (nmL L))->yx H H'->Q (.ref l) H')
def yoh:vx P w K mg Γ CX0 1 a.Lb a.O6 ["self","name"] (ymu a):=by
 exists T.Ez.F.ok,yjv,hr;let⟨U,Y,d,X,vm,vc,n,kd,ps,w,P,x,L,rfl,q,C,M,k⟩:=h;exists 2,1,yg (yu (i:=2) yjv.nd rfl (Or.inl rfl) (vd u8)) (yg (δ PassesOwn.never (yw ycy (pv 1) jm (y9 _)) (yg (yy (jg PySem.F.plainAttrs_list PySem.F.slot_list_append PySem.F.type_list_append w9 (pv 2) (pa1 (pv 1)))) (yd (yu (i:=1) yjv.nd rfl (Or.inl rfl) (yo (ſ (Ķ hr) (yo (pv 0) rfl) (pv 1) (λF F=>rfl)) rfl))))) (yg (yy (yjt PySem.F.plainAttrs_list PySem.F.slot_list_reverse PySem.F.type_list_reverse ĺ (pv 2))) (yd (yt (pv 2)))));exists by walk_at "len",λl g=>?_
 ext
 refine⟨λm σ' G=>∃(y:qj Str)(R S:Η),σ'=[some (.ref U),some (baV y),some (.ref l)]/\To P y R/\R++S=L/\G l=some (.lst (nmL S).reverse)/\yx H G/\m=R.length,
  ⟨_,x,L,[],rfl,M,dW L,ya,y6 g,rfl⟩,?_⟩
 rintro m σ2 G ⟨y,R,S,rfl,J,f,j,B,rfl⟩;have N:=B _ _ q;have a0:=C.same B;have D:=To.len C M;have Z:S.length<=61:=by rw[<- f,bY]at D;omega
 ext
 cases y with
 |none =>
  refine yta (λF=>?_) (λz=>absurd rfl z);have e:S=L:=by rw[show R=[]from J]at f;exact f
  ext;refine jp j ?_;ext;refine yaz j ?_;rw[List.reverse_reverse,e];ext;exact k l _ g ya λb o z=>yi (yb z g) (B _ _ z)
 |some b =>
  refine yta (λz=>nomatch z) (λF=>?_)
  let⟨r,p,rfl,v⟩:=J;exists _,λσ' H' z=>z,?_;ext;refine jp j ?_;ext;refine uf j (vw (by unfold nmL;rw[List.length_reverse,bz];omega)) ?_;have c:yx H (upd G l (HO.lst ((nmL S).reverse++[baV (some r.nm)]))):=λb o e=>yi (yb e g) (B _ _ e);have u:upd G l (HO.lst ((nmL S).reverse++[baV (some r.nm)])) l=some (HO.lst ((nmL S).reverse++[baV (some r.nm)])):=ya;generalize upd G l (HO.lst ((nmL S).reverse++[baV (some r.nm)]))=G' at c u⊢;have O:=c _ _ q;have t:=C.same c;have a2:=(t.ob r p).1;ext;exists d,_,rfl,t.get p,?_;ext;exists r.path.length,?_,r.bs,r.path,(r.nm,r.tx)::S,rfl,C.wf r p,?_,?_,c,rfl
  .rw[v,bY,dI];omega
  .rw[<- f,v,cH];rfl
  .rw[yqw];exact u
#synth yjc ["self","name","links","link"] ["self","name"] yzf
inductive yfp(K:z0)(a:Ads)(vs:Τ)(H:Hp)(Q:VK)(E':XK):Prop
 |mk(st ds ll d c dc p cl ct:xy)(lk tp:Λ)(n:Nat)(kd:Ν)(ps:Κ)(mo w:Nat)(P:qi Pc)(L:Η)(ks:Τ)(U:Μ)(x:qj Str)(L':Η)(_:vs=[.ref st,baV x])(_:ζ K a H st ds ll d c dc p cl ct lk tp n kd ps mo w P L ks U)(_:To P x L')(_:∀(c' dc' p' cl' ct':xy)(ks':Τ)(U':Μ)(H':Hp),ζ K a H' st ds ll d c' dc' p' cl' ct' lk tp n kd ps mo w P L' ks' U'->Go (StO st c cl ct U) H H' (StO st c' cl' ct' U')->NK H ks ks'->(V.non∈ks'->V.non∈ks.take L'.length)->Q (.ref c') H')
def yi6:vx P w K mg Γ (CXe P w) 12 a.Lc a.O7 ["self","name"] (yfp K a):=by
 exists T.D4.F.okE,yjc,hr;let⟨R,ds,ll,d,c,dc,p,cl,ct,lk,tp,n,kd,ps,mo,w,P,L,ks,U,x,t,rfl,N,hL,k⟩:=h;have ab:=N.me;refine yf (yu (i:=2) yjc.nd rfl (Or.inl rfl) (xo (pv 0) T.A2 T.Ez.m (yoh T) hr.m T.Ez.B .nil wo (pa1 (pv 1)))) ?_;refine yf (ρ (wa (yw (ybl hr.units) (yo (yo (pv 0) rfl) rfl) (yz vn (pv 2) vo (vg (pcB yq T.A9 (pa1 (yo (yo (pv 0) rfl) rfl))))) (y9 _)) (yd (ve (pv 0) (zi T.Cv (yem T) hr.m rfl T.Cu T.Eu.B .nil yr (pa1 (yo (pv 0) rfl))) rfl)) y8)) ?_;refine yf (PS.nox (jx PassesOwn.never rfl (xg (yz vn (pv 2) (vg (pcB yq T.A9 (pa1 (yo (yo (pv 0) rfl) rfl)))) vo)) (wj (i:=3) yjc.nd rfl (Or.inl rfl)) (yd (yy (vj (yo (pv 0) rfl) T.Al T.Ev.m (yy1 T) hr.m T.Ev.B .nil wt (pac (pv 3) (pac (yo (ſ (Ķ hr) (yo (pv 0) rfl) (pv 3) (λB B=>rfl)) rfl) (pa1 (yo (pv 0) rfl))))))))) ?_;exists 2,2,yd (yt (yo (pv 0) rfl));exists R,ds,d,_,_,_,n,kd,ps,w,P,x,t,rfl,ab,N.pz,hL,λl H1 aE ac S1=>?_;have as:=S1 _ _ ab;have a6:=N.same S1;have aB:=a6.ch.me;have a8:=a6.ch.hl;let⟨y,hy⟩:=N.way;have aw:=To.len N.pz hL;have au:=To.len N.pz hy;ext;exists λσ2 G=>∃(S O p2 f j:xy)(I:Τ)(U2:Μ)(C:Η),σ2=[some (.ref R),some (baV x),some (.ref l),none]/\ζ K a G R ds ll d S O p2 f j lk tp n kd ps mo w P C I U2/\Go (StO R c cl ct U) H G (StO R S f j U2)/\C=t.take C.length/\C.length<=t.length/\G l=some (.lst (nmL t))/\NK H ks I/\(V.non∈I->V.non∈ks.take t.length),?_,?_
 .ext;refine uc (SqL.of a8) ?_;ext;refine zy (SqL.of ac) λq hq0=>?_;rw[Å,x8,ø];exists hq0,H2,S2,e2;have a5:=S1.trans S2;have D:=N.same a5;have a3:=D.me;have Y:=S2 _ _ ac;rw[è]at e2;have a4:=D.ch.hl;rw[è]at a4;refine ypf _ _ (hy.ok N.pz) (λz hz=>hL.ok N.pz z (by let⟨u,hu,rfl⟩:=cI.mp hz;exact cI.mpr ⟨u,dF hu,rfl⟩)) (SqL.of a4) (SqL.of e2) ?_;by_cases he:L.map (·.1)=(t.take L.length).map (·.1)
  .rw[cT he];exists false,rfl,ybw ?_;have e3:=To.ahead N.pz.nd N.pz.wf hy hL (by rw[ø];exact yni he);have e4:=congrArg List.length e3;rw[cL]at e4;exists c,dc,p,cl,ct,ks,U,L,rfl,D,Go.refl.same a5,e3,(),Y,.refl,λz=>by rw[dE (by rw[N.ch.tx.len];omega)];exact z
  .rw[cX he];exists true,rfl,ybz ?_;ext;intro c' Z nc aa aC;have SQ:yx H2 (upd (upd H2 Z (.own c')) c' (.ins a.A1 Z [])):=λb o e=>by rw[yp (yb e nc),yp (yb e aa)];exact e
   exists c',Z,ll,n,lk,tp,kd,ps,rfl,ya,SQ _ _ D.lo,D.n1,D.n6,D.row.same SQ,λp' am al U' HE a0 a7 BE B=>⟨rfl,?_⟩;let⟨hR,gR,SE,hN⟩:=D.re nc aa a0 a7 BE;have ar:=SE _ _ a3;ext
   exists c',Z,p',am,al,[],U',[],rfl,hR,gR.ahead a5,rfl,dg _,yi (λz=>by rw[z,a3]at Y;cases Y) (SE _ _ Y),.nil,λz=>nomatch z
 .rintro σ2 G ⟨S,O,p2,f,j,I,U2,C,rfl,hG,go,ah,aj,ak,ap,ag⟩;have av:=hG.me;have az:=hG.ch.me;have ad:=hG.ch.hl;ext;refine uc (SqL.of ad) ?_;ext;refine zy (SqL.of ak) λq hq0=>?_;rw[Å,Ñ];have S1:=y6 (o:=(HO.lst ((nmL t).drop C.length))) hq0;have e1:upd G q (HO.lst ((nmL t).drop C.length)) q=some (HO.lst ((nmL t).drop C.length)):=ya;generalize upd G q (HO.lst ((nmL t).drop C.length))=G1 at S1 e1⊢
  have an:∀W F,Go (StO R S f j U2) G1 F (StO R S f j W)->ζ K a G R ds ll d S O p2 f j lk tp n kd ps mo w P C I U2->F q=some (HO.lst ((nmL t).drop C.length)):=λW F g hG=>g.fr _ _ e1 λw=>by
   let⟨o,e⟩:=hG.lvO q w;rw[hq0]at e;cases e
  exists q,rfl,⟨_,SqL.of e1⟩,zh (K:=K) (a:=q) (xs:=(nmL t).drop C.length) (λi σ2 F=>∃(v:qj V)(M:Τ)(W:Μ),σ2=[some (.ref R),some (baV x),some (.ref l),v]/\ζ K a F R ds ll d S O p2 f j lk tp n kd ps mo w P (t.take (C.length+i)) M W/\Go (StO R S f j U2) G1 F (StO R S f j W)/\NK G1 I M/\(V.non∈M->V.non∈I)) ?_ ?_ ?_ ?_
  .rw[Nat.add_zero,<- ah];exists none,I,U2,rfl,hG.same S1,Go.refl,.refl,id
  .rintro i σ2 F _ ⟨v,M,W,rfl,J,g,X,a1⟩;exact SqL.of (an W F g hG)
  .rintro i z σ2 F hz ⟨v,M,W,rfl,J,g,X,a1⟩
   have hj:C.length+i<t.length:=by
    rcases Nat.lt_or_ge (C.length+i) t.length with z|z
    .exact z
    .rw[dv (by rw[df,Å];omega)]at hz;cases hz
   let⟨r,a2,e3,e4,e5⟩:=hL.at' N.pz.wf hj
   obtain rfl:z=.str r.nm:=by
    rw[List.getElem?_drop,è,dD,cK,cA hj,e3]at hz;cases hz;rfl
   have ae:=J.me;have aA:=J.ch.me;let⟨ax,a9⟩:=J.pz.ob r a2;ext;exists d,_,rfl,J.pz.get a2,?_;ext;have af:=J.pz.sz r a2;have hb:=J.wm;have hm:=yjj (L:=t.take (C.length+i)) (w:=w) (λy hy=>(hL.sz N.pz y (dF hy)).2) hb.2 (by rw[cL];omega);have ai:=J.mo1;have aD:=Ÿ (n:=n) (kd:=kd) (ps:=ps) (pre:=jq ((t.take (C.length+i)).map (·.2))) (ts:=r.tx) J.n1 J.n6 (u6 _) ();exists S,O,p2,f,j,n,kd,ps,t.take (C.length+i),M,mOf (t.take (C.length+i)),W,r.dl,r.nm,r.tx,[],mo,rfl,J.ch,by rw[cL];omega,af.1,?_,λw=>J.nw r.dl (.inr (.inr (.inr ⟨r,a2,.inr rfl⟩))) (.inr (.inr (.inr w))),(λb hb=>by cases hb),by rw[dW];omega,(),ai,(),λq3 U4 F2 ao a0 g2=>?_
   .rw[dW,<- e4];exact a9
   rw[<- yds,<- e3,<- dH hj]at a0;let⟨h4,g4⟩:=J.go a0 g2 ⟨_,e5⟩;ext;exists _,_,U4,rfl,h4,g.trans g4,X.app (λq e=>by cases e;exact g.free ao),λz=>a1 ((db.mp z).elim id λy=>by cases cR.mp y)
  .rintro σ2 F ⟨v,M,W,rfl,J,g,X,a1⟩;rw[df,Å,Nat.add_sub_cancel' aj,dn]at J;have ae:=J.me;ext;exact k S O p2 f j M W F J (go.trans (g.ahead S1)) (ap.trans X λq e=>go.free (S1.free e)) λz=>ag (a1 z)
def Ú.lvW{H:Hp}{c p ll:xy}{n:Nat}{kd:Ν}{ps:Κ}{ks:Τ}{M:Nat}{W:Μ}(h:Ú K a H c dc p ll tl n kd ps L ks M W):∀x,StW c ll tl W x->∃o,H x=some o:=λx b=>by
 rcases b with z|z|z|z
 .exists _,by rw[z];exact h.me
 .exists _,by rw[z];exact h.hl
 .exists _,by rw[z];exact h.ht
 .exact h.fz.live x z
def Ú.butM{H H':Hp}{c p ll:xy}{n:Nat}{kd:Ν}{ps:Κ}{ks:Τ}{M:Nat}{W:Μ}(h:Ú K a H c dc p ll tl n kd ps L ks M W){o:HO}(hq:H q=some o)(ho:vcw o=true)(nq:¬StW c ll tl W q)(B:But q H H'):Ú K a H' c dc p ll tl n kd ps L ks M W:=by
 have b:∀{x:xy}{d:Τ},H x=some (.lst d)->x≠q:=λ{x d}e z=>by rw[z,hq]at e;cases e;cases ho
 exists B _ _ h.me λz=>nq (.inl z.symm),h.fz.frame (W2:=λx=>x=q) (λx z=>⟨o,by rw[show x=q from z];exact hq,.inl ho⟩) (λx w z=>nq (.inr (.inr (.inr (by rw[<- show x=q from z];exact w))))) (λx o e g=>B x o e g),B _ _ h.hl (b h.hl),B _ _ h.ht (b h.ht),h.tx.mono λx d e f=>⟨B _ _ e (b e),f⟩,h.nc,h.nll,h.ntl,h.ne
def To.more{P:qi Pc}{q:Pc}(h:To P x L):To (P++[q]) x L:=by
 cases x with
 |none=>exact h
 |some b =>
  let⟨r,a,e⟩:=h;exists r,dA _ a,e
section
variable{H H1 H2 H3:Hp}{ll d c p cl ct:xy}{lk:Λ}{n:Nat}{kd:Ν}{ps:Κ}{mo w:Nat}{P:qi Pc}{ks ks':Τ}
def ζ.put(h:ζ K a H st ds ll d c dc p cl ct lk tp n kd ps mo w P L ks U){b:Str}{r ob od:xy}(hc:Ú K a H1 c dc p cl ct n kd ps (L++[(b,ts)]) ks' (mOf L+6*(dec ts).length) U')(g:Go (ChW cl ct U) H H1 (ChW cl ct U'))(hr0:H r=none)(hr:H1 r=some (.lst ((ux n kd ps (jq (L.map (·.2))) ts).map V.int)))(hob0:H1 ob=none)(S:yx H1 H2)(hob:H2 ob=some (.ins a.Ab od (Ę (baV x) (.ref r))))
  (hL:To P x L) (hL6:L.length<=60) (hts:Sgs ts) (htz:ts.length<=w) (hb1:nmS b=true) (hb2:PyData.strOk b=true) (hno:∀q,q∈P->q.nm≠b) (hP:P.length<60):
  ζ K a (upd H2 d (.dK (pcs (P++[⟨b,x,L,ts,ob,od,r⟩])))) st ds ll d c dc p cl ct lk tp n kd ps mo w (P++[⟨b,x,L,ts,ob,od,r⟩]) (L++[(b,ts)]) ks' U'/\Go (λy=>y=d\/StO st c cl ct U y) H (upd H2 d (.dK (pcs (P++[⟨b,x,L,ts,ob,od,r⟩])))) (λy=>y=d\/StO st c cl ct U' y):=by
 have g1:Go (StW c cl ct U) H H1 (StW c cl ct U'):=g.or (Y:=λx=>x=c);have f:∀x o,H x=some o->(x=st\/x=ll\/x=d\/∃q,q∈P/\(x=q.ob\/x=q.dl))->H2 x=some o:=λx o e v=>S _ _ (g1.fr x o e (h.nw x v));have k:=f _ _ h.me (.inl rfl);have m:=f _ _ h.lo (.inr (.inl rfl));have j:=f _ _ h.pz.dk (.inr (.inr (.inl rfl)));have s:=g1.apart (λx v=>h.lv x v) h.nw;have t:xi H2 n lk kd tp ps:=h.row.fr λx J e=>S _ _ (g1.fr _ _ e (h.ch.noTup e));have C:Ú K a H2 c dc p cl ct n kd ps (L++[(b,ts)]) ks' (mOf (L++[(b,ts)])) U':=by rw[yds];exact hc.same S
 have A:¬StW c cl ct U' ob:=λz=>by
  let⟨o,e⟩:=hc.lvW ob z;rw[hob0]at e;cases e
 have M:¬StW c cl ct U' r:=λz=>by
  rcases z with z|z|z|z
  .rw[z,h.ch.me]at hr0;cases hr0
  .rw[z,h.ch.hl]at hr0;cases hr0
  .rw[z,h.ch.ht]at hr0;cases hr0
  .exact hc.fz.sh.ints hr (ylp h.n1 h.n6 (u6 _)) z
 exists⟨yi (λz=>by rw[z,j]at k;cases k) k,h.n1,h.n6,yi (λz=>by rw[z,j]at m;cases m) m,t.fr λx J e=>yi (λz=>by rw[z,j]at e;cases e) e,⟨ya,λq i=>?_,?_,λq i=>?_,λq i=>?_,?_,λq i=>?_⟩,C.butM j rfl (s d (.inr (.inr (.inl rfl)))) But.upd,λy u=>?_,h.mo1,h.wm,⟨some b,_,cO _ (cR.mpr rfl),rfl,rfl⟩⟩,⟨λy o e E=>?_,λy z=>?_,λy o e=>?_⟩
 .rcases db.mp i with z|z
  .have B:=f _ _ (h.pz.ob q z).1 (.inr (.inr (.inr ⟨q,z,.inl rfl⟩)));have l:=f _ _ (h.pz.ob q z).2 (.inr (.inr (.inr ⟨q,z,.inr rfl⟩)));exists yi (λz=>by rw[z,j]at B;cases B) B,yi (λz=>by rw[z,j]at l;cases l) l
  .obtain rfl:=cR.mp z;have l:=S _ _ hr;exists yi (λz=>by rw[show ob=d from z,j]at hob;cases hob) hob,yi (λz=>by rw[show r=d from z,j]at l;cases l) l
 .rw[cM];refine List.nodup_append.mpr ⟨h.pz.nd,(by simp),λy u z F e=>?_⟩;let⟨q,i,rfl⟩:=cI.mp u;rw[List.map_singleton,cR]at F;exact hno q i (e.trans F)
 .rcases db.mp i with z|z
  .exact(h.pz.wf q z).more
  .obtain rfl:=cR.mp z;exact hL.more
 .rcases db.mp i with z|z
  .exact h.pz.sz q z
  .obtain rfl:=cR.mp z;exists hts,htz,hL6,λy u=>hL.sz h.pz y u
 .rw[bY,dI];omega
 .rcases db.mp i with z|z
  .exact h.pz.nm q z
  .obtain rfl:=cR.mp z;exists hb1,hb2
 .rcases u with z|z|z|⟨q,i,z⟩
  .exact s y (.inl z)
  .exact s y (.inr (.inl z))
  .exact s y (.inr (.inr (.inl z)))
  .rcases db.mp i with D|D
   .exact s y (.inr (.inr (.inr ⟨q,D,z⟩)))
   .obtain rfl:=cR.mp D;rcases z with z|z
    .rw[z];exact A
    .rw[z];exact M
 .exact yi (λz=>E (.inl z)) (S _ _ (g1.fr y o e λz=>E (.inr (.inr z))))
 .rcases z with z|z|z
  .exact .inl (.inl z)
  .exact .inl (.inr (.inl z))
  .exact(g1.nw y z).imp (λz=>.inr (.inr z)) id
 .obtain⟨I,G⟩:=g1.lv y o e;by_cases z:y=d
  .exists _,by rw[z];exact ya
  .exists I,yi z (S _ _ G)
end
#synth yje ["self","name","text","base","signs","data"] ["self","name","text","base"] vao
inductive yj3(K:z0)(a:Ads)(vs:Τ)(H:Hp)(Q:VK)(E:XK):Prop
 | mk(st ds ll d c dc p cl ct:xy)(lk tp:Λ)(n:Nat)(kd:Ν)(ps:Κ)(mo w:Nat)(P:qi Pc)(L:Η)(ks:Τ)(U:Μ)(b:Str)(x:qj Str)(tx:xy)(ts:Ο)(_:vs=[.ref st,.str b,.ref tx,baV x])(_:ζ K a H st ds ll d c dc p cl ct lk tp n kd ps mo w P L ks U)(_:nmS b=true)(_:PyData.strOk b=true)(_:Ĥ H tx ts 1000)(_:(∀y,x=some y->nmS y=true))(_:P.length<60)(_:(mo<ts.length->∀H',yx H H'->E (.ref a.Am) none H'))(_:(ts.length<=mo->(∃r,r∈P/\r.nm=b)->∀H',yx H H'->E (.ref a.Aj) none H'))(_:(ts.length<=mo->(∀q,q∈P->q.nm≠b)->∀y,x=some y->(∀q,q∈P->q.nm≠y)->∀H',yx H H'->E (.ref a.Ac) none H'))(_:(ts.length<=mo->(∀q,q∈P->q.nm≠b)->∀L',To P x L'->ts.length<=w/\L'.length<=60/\
 ∀(ob od dl c' dc' p' cl' ct':xy)(ks':Τ)(U':Μ)(H':Hp),ζ K a H' st ds ll d c' dc' p' cl' ct' lk tp n kd ps mo w (P++[⟨b,x,L',ts,ob,od,dl⟩]) (L'++[(b,ts)]) ks' U'->H ob=none->H dl=none->Go (λy=>y=d\/StO st c cl ct U y) H H' (λy=>y=d\/StO st c' cl' ct' U' y)->NK H ks ks'->Q .non H'))
def ynj:vx P w K mg Γ (CXe P w) 13 a.Hb a.Fp ["self","name","text","base"] (yj3 K a):=by
 exists T.Qx.okE,yje,v;let⟨W,ds,ll,d,c,dc,p,cl,ct,lk,tp,n,kd,ps,mo,w,P,L,ks,U,b,x,tx,ts,rfl,X,Z,aj,C,I,an,kL,kT,kN,k⟩:=h;have aA:=X.me;refine yf (yy (ur (yev T) v.m T.Ew yr (pa1 (pv 1)))) ?_;refine yf (yu (i:=4) yje.nd rfl (Or.inl rfl) (ur (yza T) v.m T.Pv yr (pa1 (pv 2)))) ?_;refine yf (yy (ur (yxq T) v.m T.Ph yr (pa1 (pv 3)))) ?_;refine yf (yy (vj (pv 0) T.A2 T.Ij.m (yv3 T) v.m T.Ij.B .nil yr (pa1 (pv 4)))) ?_;refine yf (yy (vj (pv 0) T.A2 T.Ey.m (yod T) v.m T.Ey.B .nil yr (pac (pv 1) (pa1 (pv 3))))) ?_;refine yf (yu (i:=5) yje.nd rfl (Or.inl rfl) (xo (vj (pv 0) T.A2 T.D4.m (yi6 T) v.m T.D4.B .nil yr (pa1 (pv 3))) T.Al T.Ie.m (ywj T) v.m T.Ie.B .nil wo (pac (pv 1) (pa1 (pv 4))))) ?_;exists _,(yd (yct (Ķ v) (yo (pv 0) rfl) (pv 1) (ę T.Fu (ypm T) v.m rfl T.Ft T.If.B .nil wo (pac (pv 3) (pa1 (pv 5)))) rfl)),?_;exists 4,2;have az:=uu Z;have F:∀y,x=some y->nmS y=true/\y.length<=8:=λy e=>⟨I y e,uu (I y e)⟩;have af:=X.wm;have aq:=X.mo1;ext;exists .str b,"str",rfl,.str b,(λs e=>by cases e;omega),λB H1 S1=>?_,λz=>by rw[show nmV (.str b)=nmS b from rfl,Z]at z;cases z
 have f:=C.same S1;ext;exists .ref tx,_,rfl,.lst f.l,.inr ⟨ts.map V.int,yef f.l f.s (by have:=f.z;omega),λsg H2 a2 a5 S2=>?_⟩;ext
 have N:∃nt,xu K H2 (baV x) (.type nt):=by
  cases x with
  |none=>exists _,.non
  |some y=>exists _,.str y
 let⟨nt,N⟩:=N
 have ak:baV x=.non\/nmV (baV x)=true:=by
  cases x with
  |none=>exact .inl rfl
  |some y=>exact .inr (F y rfl).1
 exists baV x,nt,rfl,N,(λs e=>?_),λB H3 S3=>?_,λz1 z2=>absurd ak λz=>z.elim z1 λz=>by rw[z2]at z;cases z
 .cases x with
  |none=>cases e
  |some y=>cases e;have:=(F _ rfl).2;omega
 have j:=S1.trans (S2.trans S3);have a6:=X.same j;have M:=a6.me;have J:=S3 _ _ a5;ext;exists W,ds,sg,_,_,_,mo,_,rfl,M,J,λt=>?_,λz=>kL (by rw[bz]at z;omega) _ j;have t:ts.length<=mo:=by rw[bz]at t;omega
 ext;exists W,ds,d,_,_,_,n,kd,ps,w,P,b,x,rfl,M,a6.pz,(λy e=>⟨(F y e).1,by have:=(F y e).2;omega⟩),(λhx=>kT t hx _ j),λD=>⟨λy e ac H4 S4=>kN t D y e ac _ (j.trans S4),λL' hL=>⟨λz=>absurd z (),λB H4 S4=>?_⟩⟩;let⟨ae,ai,k⟩:=k t D L' hL;have u:=j.trans S4;have a9:=X.same u;have ar:=a9.me;have G:=S4 _ _ J;ext;exists W,ds,ll,d,c,dc,p,cl,ct,lk,tp,n,kd,ps,mo,w,P,L,ks,U,x,L',rfl,a9,hL,λc' a3 p' S R ao U' H5 O g5 am B=>?_;have au:=O.ch.me
 have a1:¬StO W c cl ct U sg:=λz=>by
  let⟨o,e⟩:=X.lvO sg z;rw[S1.free a2]at e;cases e
 have aa:=g5.fr _ _ G a1;have a7:¬StO W c' S R U' sg:=λz=>(g5.nw sg z).elim a1 λe=>by rw[G]at e;cases e
 have hm:=yjj (L:=L') (w:=w) (λy hy=>(hL.sz X.pz y hy).2) af.2 ();have ay:=ut ts;have aw:=C.z;ext;exists c',a3,p',S,R,n,kd,ps,L',ao,mOf L',U',sg,b,ts,rfl,O.ch,(),⟨aa,C.s,()⟩,λz=>a7 (.inr (.inr (.inr (.inr z)))),(),λr U6 H6 a8 ab ah g6=>?_
 have al:=g6.fr _ _ O.me λz=>O.nw W (.inl rfl) (.inr z);have ag:=g6.fr _ _ O.pz.dk λz=>O.nw d (.inr (.inr (.inl rfl))) (.inr z);ext;intro ob od g a4 ax;have SQ:yx H6 (upd (upd H6 od (.own ob)) ob (.ins a.Ab od [])):=λb o e=>by rw[yp (yb e g),yp (yb e a4)];exact e
 exists ob,od,baV x,.ref r,rfl,ya,λH7 a0 B7=>⟨rfl,?_⟩;have S7:yx H6 H7:=λy o e=>B7 _ _ (SQ _ _ e) (yb e g);have as:=S7 _ _ al;ext;exists d,_,rfl,yko.k (k:=.inr b) (S7 _ _ ag) (vw (by unfold pcs;rw[bz];omega)),?_;rw[û _ (yji D)];let⟨z1,z2⟩:=O.put (x:=x) ah g6 a8 ab g S7 a0 hL ai C.s ae Z aj D an;have e8:pcs (P++[⟨b,x,L',ts,ob,od,r⟩])=pcs P++[(.inr b,.ref ob)]:=by unfold pcs;rw[cM];rfl
 rw[e8]at z1 z2;have ad:∀{y:xy},H6 y=none->H y=none:=λ{y}e=>u.free (g5.free (g6.free e))
 exact k ob od r c' a3 p' S R _ U6 _ z1 (ad g) (u.free (g5.free a8)) (((g5.ahead u).or (Y:=λy=>y=d)).trans z2) ((NK.refl.trans am λB e=>u.free e).app λq e=>nomatch e)
def Sto.putE{H:Hp}{C:Cf}{P:qi Pd}{X:Sx}{Q:VK}{E:XK}(h:Sto K a H st C P X){b:Str}{tx:xy}(hb:okN b)(htx:Ĥ H tx ts 1000)(hx:∀y,x=some y->nmS y=true)(hP:P.length<60)
  (kL:C.mo<ts.length->∀H',yx H H'->E (.ref a.Am) none H') (kT:ts.length<=C.mo->(∃r,r∈P/\r.nm=b)->∀H',yx H H'->E (.ref a.Aj) none H') (kN:ts.length<=C.mo->(∀q,q∈P->q.nm≠b)->∀y,x=some y->(∀q,q∈P->q.nm≠y)->∀H',yx H H'->E (.ref a.Ac) none H')
  (k:ts.length<=C.mo->(∀q,q∈P->q.nm≠b)->∀L,ToD P x L->ts.length<=C.w/\L.length<=60/\∀Y H',Sto K a H' st C (P++[⟨b,x,L,ts⟩]) Y->Gx X H H' Y->Q .non H'):yj3 K a [.ref st,.str b,.ref tx,baV x] H Q E:=by
 let⟨F,J,d,c,S,p,O,T,I,G,v,L0,ks,U,s,rfl,rfl⟩:=h;rw[bz]at hP
 have A:∀{z:Str},(∀q,q∈v->q.nm≠z)->∀q,q∈v.map Pc.pd->q.nm≠z:=λ{z}hz q j=>by
  let⟨u,hu,rfl⟩:=cI.mp j;exact hz u hu
 exists st,F,J,d,c,S,p,O,T,I,G,C.n,C.kd,C.ps,C.mo,C.w,v,L0,ks,U,b,x,tx,ts,rfl,s,hb.1,hb.2,htx,hx,hP,kL,(λf ⟨r,hr,e⟩=>kT f ⟨r.pd,cI.mpr ⟨r,hr,rfl⟩,e⟩),(λf o y e R=>kN f (A o) y e (A R)),λf o L M=>?_;let⟨Z,k2,k⟩:=k f (A o) L (Ě.mpr M);exists Z,k2,λob od dl N i p' m D t U' H' s' B l g nk=>k _ H' ⟨F,J,d,N,i,p',m,D,I,G,_,_,t,U',s',by rw[cM];rfl,rfl⟩ (Gx.of g nk λq j=>?_);rcases db.mp j with z|z
 .exact .inl z
 .rw[cR.mp z];exact .inr ⟨B,l⟩
def Sto.put{H:Hp}{C:Cf}{P:qi Pd}{X:Sx}{Q:VK}{E:XK}(h:Sto K a H st C P X){b:Str}{tx:xy}(hb:okN b)(htx:Ĥ H tx ts C.w)(hL:ToD P x L)(hno:∀q,q∈P->q.nm≠b)(hP:P.length<60)
  (k:∀Y H',Sto K a H' st C (P++[⟨b,x,L,ts⟩]) Y->Gx X H H' Y->Q .non H'):yj3 K a [.ref st,.str b,.ref tx,baV x] H Q E:=by
 have m:=h.cf;have i:=htx.z
 have d:∀y,x=some y->∃r,r∈P/\r.nm=y:=λy e=>by
  subst e;let⟨r,c,e,_⟩:=hL;exact⟨r,c,e⟩
 refine h.putE hb ⟨htx.l,htx.s,()⟩ (λy e=>?_) hP (λz=>absurd z ()) (λZ ⟨r,c,e⟩=>absurd e (hno r c)) (λZ Z y e g=>?_) λZ Z j f=>⟨i,?_,?_⟩
 .obtain⟨r,c,e⟩:=d y e;rw[<- e];exact(h.nm r c).1
 .obtain⟨r,c,e⟩:=d y e;exact absurd e (g r c)
 .have:=f.len h.pw;omega
 .rw[ToD.uniq h.nd f hL];exact k
def Fr(F:Μ)(H H':Hp):Prop:=∀y o,H y=some o->¬F y->H' y=some o
def Rfs(a:Ads)(c:xy):Prop:=c=a.Bv\/c=a.Ae\/c=a.Aa\/c=a.Aj\/c=a.B8\/c=a.Bq
structure PGo(C:Cf)(P:qi Pd)(b:Str)(L:Η)(d ts bs:Ο):Prop where
 nm:nmS b=true
 no:∀q,q∈P->q.nm≠b
 z:P.length<60
 s:Sgs ts
 l:ts.length<=C.mo
 e:d=ux C.n C.kd C.ps (jq (L.map (·.2))) ts++bs
#synth ykc ["self","name","data","base","chain","own"] ["self","name","data","base"] yz5
inductive yr1(K:z0)(a:Ads)(vs:Τ)(H:Hp)(Q:VK)(E:XK):Prop
 |mk(st dt:xy)(C:Cf)(P:qi Pd)(X:Sx)(b:Str)(x:qj Str)(L:Η)(d:Ο)(_:vs=[.ref st,.str b,.ref dt,baV x])(_:Sto K a H st C P X)(_:PyData.strOk b=true)(_:b.length<=1000)(_:H dt=some (.lst (d.map V.int)))(_:¬X.f dt)(_:Byt d)(_:d.length<=12000)(_:(∀ts bs,PGo C P b L d ts bs->ts.length<=C.w))(_:ToD P x L)(_:(∀ts bs,PGo C P b L d ts bs->∀Y H',Sto K a H' st C (P++[⟨b,x,L,ts⟩]) Y->Gx X H H' Y->Q (.int ((ux C.n C.kd C.ps (jq (L.map (·.2))) ts).length:Nat)) H'))(_:((∀ts bs,¬PGo C P b L d ts bs)->∀c H',Rfs a c->Fr X.f H H'->E (.ref c) none H'))
def yvw:vx P w K mg Γ (CXe P w) 13 a.L7 a.Nz ["self","name","data","base"] (yr1 K a):=by
 exists T.Ii.F.okE,ykc,R;let⟨j,dt,C,P,X,b,x,L',da,rfl,a9,ax,aH,aB,aj,am,al,aD,aa,kQ,kE⟩:=h
 have au:∀y,x=some y->nmS y=true/\y.length<=100000:=λy e=>by
  subst e;let⟨r,R,e,_⟩:=aa;have h1:=(a9.nm r R).1;rw[e]at h1;have:=uu h1;exists h1,()
 have aS:=aa.len a9.pw;let⟨W,S,d,c,dc,p,cl,ct,lk,tp,Qs,L,ks,U,hS,rfl,rfl⟩:=id a9;have hL:=Ě.mp aa;have aT:(Qs.map Pc.pd).length=Qs.length:=bz _;have aR:=hS.pz.z;have aQ:=hS.me;have as:=hS.wm;have a3:=hS.mo1;refine yf (yy (ur (yev T) R.m T.Ew yr (pa1 (pv 1)))) ?_;refine yf (yy (vj (pv 0) T.A2 T.Ey.m (yod T) R.m T.Ey.B .nil yr (pac (pv 1) (pa1 (pv 3))))) ?_;refine yf (yu (i:=4) ykc.nd rfl (Or.inl rfl) (vj (pv 0) T.A2 T.D4.m (yi6 T) R.m T.D4.B .nil yr (pa1 (pv 3)))) ?_;refine yf (ve (pv 0) (zi T.Cv (yem T) R.m rfl T.Cu T.Eu.B .nil yr (pa1 (yo (pv 0) rfl))) rfl) ?_;refine yf (yu (i:=5) ykc.nd rfl (Or.inl rfl) (vj (pv 4) T.Al T.Ev.m (ο T) R.m T.Ev.B .nil yr (pac (pv 1) (pac (pv 2) (pa1 (yo (pv 0) rfl)))))) ?_;refine yf (ve (pv 0) (pv 4) rfl) ?_;refine yf (yct (Ķ R) (yo (pv 0) rfl) (pv 1) (ę T.Fu (ypm T) R.m rfl T.Ft T.If.B .nil wo (pac (pv 3) (pa1 (yz vn (pv 2) vo (vg (pv 5)))))) rfl) ?_;exists 4,2,yd (yt (pv 5));exists .str b,"str",rfl,.str b,(λs e=>by cases e;omega),λap H1 S1=>?_,λz H1 S1=>kE (λv I g=>by rw[show nmV (.str b)=nmS b from rfl,g.nm]at z;cases z) _ _ (.inr (.inr (.inl rfl))) λy o e F=>S1 _ _ e;have ai:=hS.same S1;have ae:=ai.me;ext;exists j,W,d,_,_,_,C.n,C.kd,C.ps,C.w,Qs,b,x,rfl,ae,ai.pz,au,(λ⟨r,R,e⟩=>kE (λv I g=>g.no _ (cI.mpr ⟨r,R,rfl⟩) e) _ _ (.inr (.inr (.inr (.inl rfl)))) λy o e F=>S1 _ _ e),λa6=>⟨λy e no=>?_,λL2 aK=>⟨λz H2 S2=>kE (λv I g=>by have:=g.z;omega) _ _ (.inr (.inr (.inr (.inr (.inl rfl))))) λy o e F=>S2 _ _ (S1 _ _ e),λz H2 S2=>?_⟩⟩
 .subst e;let⟨r,R,e,_⟩:=hL;exact absurd e (no r R)
 have a8:=S1.trans S2;have ad:=hS.same a8;have aF:=ad.me;ext;exists j,W,S,d,c,dc,p,cl,ct,lk,tp,C.n,C.kd,C.ps,C.mo,C.w,Qs,L,ks,U,x,L',rfl,ad,hL,λc' a5 p' G D ar U' H5 h5 g5 az F=>?_;have O:=g5.ahead a8;have a2:=h5.me;have J:=h5.nw j (.inl rfl);ext;intro c2 a7 nc ay aO;have SQ:yx H5 (upd (upd H5 a7 (.own c2)) c2 (.ins a.A1 a7 [])):=λb o e=>by rw[yp (yb e nc),yp (yb e ay)];exact e
 exists c2,a7,S,C.n,lk,tp,C.kd,C.ps,rfl,ya,SQ _ _ h5.lo,h5.n1,h5.n6,h5.row.same SQ,λp2 aL aN U2 HE F F BE F=>⟨rfl,?_⟩;have SE:yx H5 HE:=λb o e=>BE _ _ (SQ _ _ e) (yb e nc);have ac:=SE _ _ a2;ext;have b6:But j HE (upd HE j (.ins a.A0 W (v8 (.ref S) (.int C.mo) (.ref d) (.ref c2)))):=But.upd;have t:upd HE j (.ins a.A0 W (v8 (.ref S) (.int C.mo) (.ref d) (.ref c2))) j=some (.ins a.A0 W (v8 (.ref S) (.int C.mo) (.ref d) (.ref c2))):=ya;generalize upd HE j (.ins a.A0 W (v8 (.ref S) (.int C.mo) (.ref d) (.ref c2)))=H6 at b6 t⊢;have a4:=(h5.ch.same SE).but ac J b6;have aP:=a4.me
 have nW:∀{y:xy}{o:HO},H y=some o->¬(vck d j c cl ct U S Qs ks).f y->H6 y=some o/\¬StW c' G D U' y:=λ{y o}e nf=>by
  have h1:=O.fr y o e λw=>nf (.inl (.inr w));exists b6 _ _ (SE _ _ h1) λz=>nf (.inl (.inr (.inl z))),λw=>?_;rcases O.nw y (.inr w)with z|z
  .exact nf (.inl (.inr z))
  .rw[e]at z;cases z
 let⟨a0,Z⟩:=nW aB aj;have hm:=yjj (L:=L') (w:=C.w) (λy hy=>(hL.sz hS.pz y hy).2) as.2 ();ext;by_cases hg:∃v I,Sgs v/\v.length<=C.mo/\da=ux C.n C.kd C.ps (jq (L'.map (·.2))) v++I
 .obtain⟨v,I,ab,af,rfl⟩:=hg
  have ao:PGo C (Qs.map Pc.pd) b L' (ux C.n C.kd C.ps (jq (L'.map (·.2))) v++I) v I:=⟨ap,λq hq=>by
   let⟨u,hu,rfl⟩:=cI.mp hq;exact a6 u hu,(),ab,af,rfl⟩
  have aJ:=aD v I ao;refine .inl ⟨c',a5,p',G,D,C.n,C.kd,C.ps,L',ar,mOf L',U',dt,b,v,I,C.mo,rfl,a4,(),ab,a0,λw=>Z (.inr (.inr (.inr w))),λy hy=>am y (cO _ hy),al,af,a3,(),λq U7 H7 a1 av g7=>?_⟩
  have ag:¬StW c' G D U7 j:=λw=>by
   rcases w with z|z
   .exact J (.inl z)
   .rcases g7.nw j z with z|z
    .exact J (.inr z)
    .rw[t]at z;cases z
  have an:=g7.fr _ _ t λz=>J (.inr z);ext;have b8:But j H7 (upd H7 j (.ins a.A0 W (v8 (.ref S) (.int C.mo) (.ref d) (.ref c')))):=But.upd;have M:upd H7 j (.ins a.A0 W (v8 (.ref S) (.int C.mo) (.ref d) (.ref c'))) j=some (.ins a.A0 W (v8 (.ref S) (.int C.mo) (.ref d) (.ref c'))):=ya;generalize upd H7 j (.ins a.A0 W (v8 (.ref S) (.int C.mo) (.ref d) (.ref c')))=H8 at b8 M⊢;have aw:=av.but an ag b8
  have g8:Go (ChW G D U') H5 H8 (ChW G D U7):=by
   exists λy o e nw=>?_,λy w=>(g7.nw y w).imp id λe=>?_,λy o e=>?_
   .by_cases z:y=j
    .rw[z]at e⊢;rw[a2]at e;rw[M,<- e]
    .exact b8 _ _ (g7.fr y o (b6 _ _ (SE _ _ e) z) nw) z
   .cases e5:H5 y with
    |none=>rfl
    |some o =>
     by_cases z:y=j
     .rw[z,t]at e;cases e
     .rw[b6 _ _ (SE _ _ e5) z]at e;cases e
   .by_cases z:y=j
    .exists _,by rw[z];exact M
    .obtain⟨o',e'⟩:=g7.lv y o (b6 _ _ (SE _ _ e) z);exists o',b8 _ _ e' z
  have aA:=g8.fr _ _ h5.pz.dk λz=>h5.nw d (.inr (.inr (.inl rfl))) (.inr z);have ah:=b8 _ _ (g7.fr _ _ a0 λz=>Z (.inr z)) (λz=>aj (by rw[z];exact .inl (.inr (.inl rfl))));ext;refine zy (SqL.of ah) λr hr0=>?_;rw[x8,<- dY,List.take_left];exists hr0,H9,S9,hr9;ext;intro ob od N ak aM;have aC:yx H9 (upd (upd H9 od (.own ob)) ob (.ins a.Ab od [])):=λb o e=>by rw[yp (yb e N),yp (yb e ak)];exact e
  exists ob,od,baV x,.ref r,rfl,ya,λHA aq BA=>⟨rfl,?_⟩;have SA:yx H9 HA:=λy o e=>BA _ _ (aC _ _ e) (yb e N);have aG:=SA _ _ (S9 _ _ M);ext;exists d,_,rfl,yko.k (k:=.inr b) (SA _ _ (S9 _ _ aA)) (vw (by unfold pcs;rw[bz];omega)),?_;rw[û _ (yji a6)];have g9:=g8.same S9;let⟨z1,z2⟩:=h5.put (x:=x) (aw.same S9) g9 (g8.free hr0) hr9 N SA aq hL () ab () ap ax a6 ();have e8:pcs (Qs++[⟨b,x,L',v,ob,od,r⟩])=pcs Qs++[(.inr b,.ref ob)]:=by unfold pcs;rw[cM];rfl
  rw[e8]at z1 z2;ext;refine kQ v I ao _ _ ⟨W,S,d,c',a5,p',G,D,lk,tp,_,_,_,U7,z1,by rw[cM];rfl,rfl⟩ (Gx.of ((O.or (Y:=λy=>y=d)).trans z2) ((NK.refl.trans az λF e=>a8.free e).app λq e=>?_) λq hq=>?_)
  .cases e;refine O.free ?_
   cases e5:H5 q with
   |none=>rfl
   |some o =>
    by_cases z:q=j
    .rw[z,t]at a1;cases a1
    .rw[b6 _ _ (SE _ _ e5) z]at a1;cases a1
  .rcases db.mp hq with z|z
   .exact .inl z
   .rw[cR.mp z];exact .inr ⟨O.free (g9.free N),O.free (g8.free hr0)⟩
 .refine .inr ⟨c',a5,p',G,D,C.n,C.kd,C.ps,L',ar,mOf L',U',dt,b,da,C.mo,rfl,a4,a0,λw=>Z (.inr (.inr (.inr w))),am,al,a3,(),λv I h1 h2 h3=>hg ⟨v,I,h1,h2,h3⟩,λH7 fr=>kE (λv I g=>hg ⟨v,I,g.s,g.l,g.e⟩) _ _ (.inr (.inr (.inr (.inr (.inr rfl))))) λy o e nf=>?_⟩;let⟨h1,h2⟩:=nW e nf;exact fr y o h1 λw=>h2 (.inr (.inr (.inr w)))
theorem ybv.get{H:Hp}:∀{L:Η}{ks:Τ},ybv H U L ks->∀{j:Nat}(hj:j<L.length),∃k,ks[j]?=some k/\(k=.non\/∃q,k=.ref q/\H q=some (.lst (L[j].2.map V.int))/\¬U q)
 |[],_,_,j,hj=>absurd hj (du j)
 |x::r,_,⟨k,ks',e,z,h⟩,0,hj=>⟨k,by rw[e];rfl,z⟩
 |x::r,_,⟨k,ks',e,z,h⟩,j+1,hj=>by
  let⟨a,b,c⟩:=h.get (Nat.lt_of_succ_lt_succ hj);exists a,by rw[e,List.getElem?_cons_succ];exact b,c
#synth yon ["self","name","links"] ["self","name"] vb7
inductive yft(K:z0)(a:Ads)(vs:Τ)(H:Hp)(Q:VK)(E':XK):Prop
 |mk(st ds ll d c dc p cl ct:xy)(lk tp:Λ)(n:Nat)(kd:Ν)(ps:Κ)(mo w:Nat)(P:qi Pc)(L:Η)(ks:Τ)(U:Μ)(x:qj Str)(L':Η)(_:vs=[.ref st,baV x])(_:ζ K a H st ds ll d c dc p cl ct lk tp n kd ps mo w P L ks U)(_:To P x L')(_:∀(c' dc' p' cl' ct':xy)(L2:Η)(ks':Τ)(U':Μ)(r:xy)(cx:Λ)(H1 H':Hp),ζ K a H1 st ds ll d c' dc' p' cl' ct' lk tp n kd ps mo w P L2 ks' U'->Go (StO st c cl ct U) H H1 (StO st c' cl' ct' U')->NK H ks ks'->yx H1 H'->H1 r=none->H' r=some (.lst (refs cx L'.length))->(∀i,i<L'.length->H1 (cx i)=none/\cx i≠r/\H' (cx i)=some (.lst ((txi L' i).map V.int)))->Q (.ref r) H')
def yxm:vx P w K mg Γ (CXe P w) 13 a.Ld a.O8 ["self","name"] (yft K a):=by
 exists T.Ik.F.okE,yon,hr;let⟨O,ds,ll,d,c,dc,p,cl,ct,lk,tp,n,kd,ps,mo,w,P,L,ks,U,x,g,rfl,W,hL,k⟩:=h;have ak:=W.me;refine yf (yu (i:=2) yon.nd rfl (Or.inl rfl) (xo (pv 0) T.A2 T.Ez.m (yoh T) hr.m T.Ez.B .nil wo (pa1 (pv 1)))) ?_;refine yf (ρ (wa (yw (yyb hr.units) jm (yz vn (yo (yo (pv 0) rfl) rfl) vo (vg (pcB yq T.A9 (pa1 (pv 2))))) (by with_unfolding_all rfl)) (yd (ve (pv 0) (zi T.Cv (yem T) hr.m rfl T.Cu T.Eu.B .nil yr (pa1 (yo (pv 0) rfl))) rfl)) y8)) ?_;refine yf (ρ (wa (yw (ybl hr.units) (yz vn (yo (yo (pv 0) rfl) rfl) vo (vg (pcB yq T.A9 (pa1 (pv 2))))) (pv 2) (y9 _)) (yd (yy (vj (pv 0) T.A2 T.D4.m (yi6 T) hr.m T.D4.B .nil yr (pa1 (pv 1))))) y8)) ?_;exists 2,1,yd (yt (wy (js:=[]) (ys:=[]) rfl (xg (yz vn (yo (yo (pv 0) rfl) rfl) vo (vg (pcB yq T.A9 (pa1 (pv 2)))))) (λC s2 H2 fp=>(pcT (r:=yix K) wb T.Ap (pa1 (pv 0)))) rfl rfl (hyc:=y7) (hrel:=y7)));exists O,ds,d,_,_,_,n,kd,ps,w,P,x,g,rfl,ak,W.pz,hL,λl H1 as al S1=>?_;have az:=S1 _ _ ak;have a3:=W.same S1;have aH:=a3.ch.me;have aC:=a3.ch.hl;have a8:=a3.ch.ht;have aB:=To.len W.pz hL;ext;exists λσ2 G=>∃(c2 Y p2 M N:xy)(I:Τ)(U2:Μ)(L2:Η),σ2=[some (.ref O),some (baV x),some (.ref l)]/\ζ K a G O ds ll d c2 Y p2 M N lk tp n kd ps mo w P L2 I U2/\Go (StO O c cl ct U) H G (StO O c2 M N U2)/\NK H ks I/\V.non∉I.take g.length/\G l=some (.lst (nmL g))/\¬StO O c2 M N U2 l,?_,?_
 .ext;refine uc (SqL.of al) ?_;ext;refine zy (SqL.of a8) λq hq0=>?_;rw[Å,x8];exists hq0,H2,S2,e2;have Z:=S1.trans S2;have v:=W.same Z;have R:=v.me;have t:=S2 _ _ al;exists q,_,rfl,rfl,SqL.of e2,λz hz=>(W.ch.tx.mem z (dF hz)).imp id λ⟨q,ys,e,hq,_⟩=>⟨q,ys,e,SqL.of (Z _ _ hq)⟩,?_;by_cases he:(ks.take g.length).any isN=true
  .rw[he];exists true,rfl,ybz ?_;ext;intro c' J nc aj aI;have SQ:yx H2 (upd (upd H2 J (.own c')) c' (.ins a.A1 J [])):=λb o e=>by rw[yp (yb e nc),yp (yb e aj)];exact e
   exists c',J,ll,n,lk,tp,kd,ps,rfl,ya,SQ _ _ v.lo,v.n1,v.n6,v.row.same SQ,λp' a5 a4 U' HE ap ag BE B=>⟨rfl,?_⟩;let⟨hR,gR,SE,hN⟩:=v.re nc aj ap ag BE;have ay:=SE _ _ R;have ae:l≠O:=λz=>by rw[z,R]at t;cases t
   ext;exists c',J,p',a5,a4,[],U',[],rfl,hR,gR.ahead Z,.nil,by simp,yi ae (SE _ _ t),λz=>?_
   rcases z with z|z
   .exact ae z
   .rw[hN l z]at t;cases t
  .rw[Bool.eq_false_iff.mpr he];exists false,rfl,ybw ?_;exists c,dc,p,cl,ct,ks,U,L,rfl,v,Go.refl.same Z,.refl,λz=>he (List.any_eq_true.mpr ⟨_,z,rfl⟩),t,λz=>?_;let⟨o,e⟩:=W.lvO l z;rw[as]at e;cases e
 .rintro σ2 G ⟨c2,Y,p2,M,N,I,U2,L2,rfl,hG,go,an,a9,ac,aq⟩;have aA:=hG.me;have aF:=hG.ch.me;have am:=hG.ch.hl;ext;exists λσ2 F=>∃(c3 a6 p3 X a0:xy)(f:Τ)(U3:Μ)(L3:Η),σ2=[some (.ref O),some (baV x),some (.ref l)]/\ζ K a F O ds ll d c3 a6 p3 X a0 lk tp n kd ps mo w P L3 f U3/\Go (StO O c cl ct U) H F (StO O c3 X a0 U3)/\NK H ks f/\V.non∉f.take g.length/\g=L3.take g.length/\F l=some (.lst (nmL g)),?_,?_
  .ext;refine uc (SqL.of ac) ?_;ext;refine zy (SqL.of am) λq hq0=>?_;rw[Å,x8,ø];exists hq0,G2,S2,e2;have a7:=hG.same S2;have R:=a7.me;have t:=S2 _ _ ac;let⟨y,hy⟩:=hG.way;have a2:=t;rw[è]at e2 a2;ext;refine ypf _ _ (λz hz=>hy.ok W.pz z (by let⟨u,hu,rfl⟩:=cI.mp hz;exact cI.mpr ⟨u,dF hu,rfl⟩)) (hL.ok W.pz) (SqL.of e2) (SqL.of a2) ?_;by_cases he:(L2.take g.length).map (·.1)=g.map (·.1)
   .rw[cT he];exists false,rfl,ybw ?_;exists c2,Y,p2,M,N,I,U2,L2,rfl,a7,go.same S2,an,a9,To.ahead W.pz.nd W.pz.wf hL hy (by rw[ø];exact(yni he).symm),t
   .rw[cX he];exists true,rfl,ybz ?_;ext;exists O,ds,ll,d,c2,Y,p2,M,N,lk,tp,n,kd,ps,mo,w,P,L2,I,U2,x,g,rfl,a7,hL,λc' J p' a5 a4 au U' F hC gC ar hn=>?_;ext;exists c',J,p',a5,a4,au,U',g,rfl,hC,(go.same S2).trans gC,an.trans ar (λq e=>go.free (S2.free e)),λz=>a9 (hn (dF z)),(dn).symm,gC.fr _ _ t aq
  .rintro σ2 F ⟨c3,a6,p3,X,a0,f,U3,L3,rfl,hF,aw,ao,aa,ad,av⟩;have aD:=hF.me;have aG:=hF.ch.me;have ah:=hF.ch.ht
   have aK:g.length<=L3.length:=by
    have e:=congrArg List.length ad;rw[cL]at e;omega
   ext;refine uc (SqL.of av) ?_;ext;refine zy (SqL.of ah) λq hq0=>?_;rw[Å,x8];have S1:=y6 (o:=(HO.lst (f.take g.length))) hq0;have e1:upd F q (HO.lst (f.take g.length)) q=some (HO.lst (f.take g.length)):=ya;generalize upd F q (HO.lst (f.take g.length))=F1 at S1 e1⊢;have aJ:=hF.ch.tx.len;have a1:(f.take g.length).length=g.length:=by rw[cL];omega
   have ab:=hF.same S1;exists q,rfl,⟨_,SqL.of e1⟩,λD hD=>?_;refine jr (K:=K) (xs:=f.take g.length) (λi G=>∃cx:Λ,G D=some (.lst (refs cx i))/\(∀j,j<i->F1 (cx j)=none/\G (cx j)=some (.lst ((txi g j).map V.int))/\cx j≠D)/\yx F1 G)
    ⟨λB=>0,ya,λj hj=>absurd hj (du j),y6 hD⟩ (λi G B ⟨_,_,_,S⟩=>SqL.of (S _ _ e1)) (λi y G hy hi z=>?_) (λG z=>?_)
   .obtain⟨cx,gD,gC,S⟩:=z;rw[a1]at hi;let⟨k',ek,hk⟩:=ab.ch.tx.get (j:=i) ();rw[List.getElem?_take,if_pos hi,ek]at hy;obtain rfl:k'=y:=by cases hy;rfl
    rcases hk with z|⟨q2,rfl,af,_⟩
    .refine absurd ?_ aa;rw[<- z];exact cN (i:=i) (by rw[List.getElem?_take,if_pos hi];exact ek)
    have et:L3[i].2=txi g i:=by
     have e:=congrArg (λl=>l[i]?) ad;simp only[List.getElem?_take]at e;rw[if_pos hi]at e;unfold txi;rw[ed,cK,e,cA ()];rfl
    rw[et]at af;ext;exists q2,_,rfl,.inl (SqL.of (S _ _ af)),λc hc0=>?_;have nc:c≠D:=(yb gD hc0).symm;exists hc0,G2,S2,hc2;refine ul (n:=(f.take g.length).length) (S2 _ _ gD) (vw (by rw[vi];omega)) () ?_;exists upN cx i c,?_,λj hj=>?_,λb o e=>yi (yb e hD) (S2 _ _ (S b o e))
    .rw[ya,zw,xr]
     congr 3
     exact zt λj hj=>(xm hj).symm
    .by_cases z:j=i
     .rw[z,xr];exists S.free hc0,yi nc hc2,nc
     .have ai:j<i:=()
      rw[xm ai];let⟨g1,g2,g3⟩:=gC j ai;exists g1,yi g3 (S2 _ _ g2),g3
   .obtain⟨cx,gD,gC,S⟩:=z;rw[a1]at gD gC;exact k c3 a6 p3 X a0 L3 f U3 D cx F1 G ab (aw.same S1) ao S hD gD λi hi=>⟨(gC i hi).1,(gC i hi).2.2,(gC i hi).2.1⟩
#synth ytx ["self","name"] va1
inductive Ĕ(K:z0)(a:Ads)(vs:Τ)(H:Hp)(Q:VK)(E:XK):Prop
 | mk(st ds ll d c dc p cl ct:xy)(lk tp:Λ)(n:Nat)(kd:Ν)(ps:Κ)(mo w:Nat)(P:qi Pc)(L:Η)(ks:Τ)(U:Μ)(x:V)(nt:String)(_:vs=[.ref st,x])(_:ζ K a H st ds ll d c dc p cl ct lk tp n kd ps mo w P L ks U)(_:xu K H x (.type nt))(_:(∀s,x=.str s->s.length<=100000))(_:(nmV x=false->∀H',yx H H'->E (.ref a.Aa) none H'))(_:(∀b,x=.str b->nmS b=true->(∀q,q∈P->q.nm≠b)->∀H',yx H H'->E (.ref a.Ac) none H'))(_:(∀r,r∈P->x=.str r.nm ->
 ∀(c' dc' p' cl' ct':xy)(L2:Η)(ks':Τ)(U':Μ)(q:xy)(H1 H':Hp),ζ K a H1 st ds ll d c' dc' p' cl' ct' lk tp n kd ps mo w P L2 ks' U'->Go (StO st c cl ct U) H H1 (StO st c' cl' ct' U')->NK H ks ks'->yx H1 H'->H1 q=none->H' q=some (.lst (r.tx.map V.int))->Q (.ref q) H'))
def ytl:vx P w K mg Γ (CXe P w) 14 a.Le a.O9 ["self","name"] (Ĕ K a):=by
 exists T.Il.F.okE,ytx,W;let⟨G,j,X,d,c,O,p,N,R,S,J,n,C,z,mo,w,P,L,Y,U,x,Z,rfl,q,ty,hz,k1,k2,k3⟩:=h;have i:=q.me;exists 2,0,yg (yy (vj (pv 0) T.A2 T.C3.m (yeu T) W.m T.C3.B .nil yr (pa1 (pv 1)))) (yd (yt (xk wl (vj (pv 0) T.A2 T.Ik.m (yxm T) W.m T.Ik.B .nil yr (pa1 (pv 1))) (ym0 yep yc) (λF F=>rfl))));exists G,j,d,_,_,_,n,C,z,w,P,x,Z,rfl,i,q.pz,ty,hz,k1,k2,λr f e hb H1 I=>?_;subst e;have b:=q.same I;have M:=b.me;ext;exists G,j,X,d,c,O,p,N,R,S,J,n,C,z,mo,w,P,L,Y,U,some r.nm,r.path++[(r.nm,r.tx)],rfl,b,⟨r,f,rfl,rfl⟩,λc' g p' t k L2 D U' l cx HB H2 h2 g2 nk SB a0 u y=>?_;ext;let⟨f1,f2,f3⟩:=y r.path.length (by rw[bY,dI];omega);refine zb (v:=.ref (cx r.path.length)) (SqL.of u) ?_ ?_
 .rw[bY,dI,zw];exact ylb _ _
 .ext;refine k3 r f rfl c' g p' t k L2 D U' _ HB H2 h2 (g2.ahead I) (NK.refl.trans nk λF e=>I.free e) SB f1 ?_;rw[f3];unfold txi;simp
def Sto.textof1{H:Hp}{C:Cf}{P:qi Pd}{X:Sx}{Q:VK}{E:XK}(h:Sto K a H st C P X){b:Str}(hb:nmS b=true)(k1:(∀q,q∈P->q.nm≠b)->∀H',yx H H'->E (.ref a.Ac) none H')
  (k2:∀r,r∈P->r.nm=b->∀Y q H1 H',Sto K a H1 st C P Y->Gx X H H1 Y->yx H1 H'->H1 q=none->H' q=some (.lst (r.tx.map V.int))->Q (.ref q) H'):Ĕ K a [.ref st,.str b] H Q E:=by
 let⟨t,B,d,c,G,p,F,I,A,v,O,L0,R,U,s,rfl,rfl⟩:=h;have Z:=uu hb;exists st,t,B,d,c,G,p,F,I,A,v,C.n,C.kd,C.ps,C.mo,C.w,O,L0,R,U,.str b,"str",rfl,s,.str _,(λx e=>by cases e;omega),(λz=>by rw[show nmV (.str b)=nmS b from rfl,hb]at z;cases z),(λb' e W k=>?_),λr N e D i L j o L2 m J q H1 H' M g T S l f=>?_
 .cases e;refine k1 λq f=>?_;let⟨u,hu,rfl⟩:=cI.mp f;exact k u hu
 .cases e;exact k2 r.pd (cI.mpr ⟨r,N,rfl⟩) rfl _ q H1 H' ⟨t,B,d,D,i,L,j,o,A,v,_,_,m,J,M,rfl,rfl⟩ (Gx.of (g.or (Y:=λy=>y=d)) T λq f=>.inl f) S l f
def Sto.textof{H:Hp}{C:Cf}{P:qi Pd}{X:Sx}{Q:VK}{E:XK}(h:Sto K a H st C P X){b:Str}(hb:nmS b=true)(k1:(∀q,q∈P->q.nm≠b)->∀H',yx H H'->E (.ref a.Ac) none H')
  (k2:∀r,r∈P->r.nm=b->∀Y q H',Sto K a H' st C P Y->Gx X H H' Y->H q=none->Kf H' Y q (.lst (r.tx.map V.int))->Q (.ref q) H'):Ĕ K a [.ref st,.str b] H Q E :=
 h.textof1 hb k1 λr i e Y q j H' d g1 S c f=>k2 r i e Y q H' (d.same S) (g1.same S) (g1.g.free c) (Kf.new d c f)
#synth yub ["self","name"] vb6
inductive Ľ(K:z0)(a:Ads)(vs:Τ)(H:Hp)(Q:VK)(E:XK):Prop
 |mk(st ds d:xy)(vl vm vc:V)(n:Nat)(kd:Ν)(ps:Κ)(w:Nat)(P:qi Pc)(x:V)(nt:String)(_:vs=[.ref st,x])(_:H st=some (.ins a.A0 ds (v8 vl vm (.ref d) vc)))(_:ŕ a H d n kd ps w P)(_:xu K H x (.type nt))(_:(∀s,x=.str s->s.length<=100000))(_:(nmV x=false->∀H',yx H H'->E (.ref a.Aa) none H'))(_:(∀b,x=.str b->nmS b=true->(∀q,q∈P->q.nm≠b)->∀H',yx H H'->E (.ref a.Ac) none H'))(_:(∀r,r∈P->x=.str r.nm->nmS r.nm=true->∀l H',H l=none->H' l=some (.lst ((r.by n kd ps).map V.int))->yx H H'->Q (.ref l) H'))
def yos:vx P w K mg Γ (CXe P w) 4 a.Lf a.Oa ["self","name"] (Ľ K a):=by exists T.F0.F.okE,yub,M;let⟨v,o,d,k,q,z,n,u,t,w,P,x,y,rfl,f,p,D,N,I,L,G⟩:=h;exists 2,0,yd (yt (pcT wb T.Ap (pa1 (yo (vj (pv 0) T.A2 T.C3.m (yeu T) M.m T.C3.B .nil yr (pa1 (pv 1))) rfl))));exists v,o,d,k,q,z,n,u,t,w,P,x,y,rfl,f,p,D,N,I,L,λr c e R S j=>?_;let⟨O,g⟩:=(p.same j).ob r c;ext;exists r.dl,_,rfl,.inl (SqL.of g),λl b=>?_;exact G r c e R l _ (j.free b) ya (j.trans (y6 b))
def Sto.bytesof{H:Hp}{C:Cf}{P:qi Pd}{X:Sx}{Q:VK}{E:XK}(h:Sto K a H st C P X){b:Str}(hb:nmS b=true)(k1:(∀q,q∈P->q.nm≠b)->∀H',yx H H'->E (.ref a.Ac) none H')
  (k2:∀r,r∈P->r.nm=b->∀l H',H l=none->H' l=some (.lst ((r.by C).map V.int))->yx H H'->Q (.ref l) H'):Ľ K a [.ref st,.str b] H Q E:=by
 let⟨i,L,d,c,F,p,D,G,I,J,g,y,B,U,s,rfl,rfl⟩:=h;have o:=uu hb;exists st,i,d,_,_,_,C.n,C.kd,C.ps,C.w,g,.str b,"str",rfl,s.me,s.pz,.str _,(λx e=>by cases e;omega),(λz=>by rw[show nmV (.str b)=nmS b from rfl,hb]at z;cases z),(λA e Z f=>?_),λr v e Z l H' m j S=>?_
 .cases e;refine k1 λq k=>?_;let⟨u,t,rfl⟩:=cI.mp k;exact f u t
 .cases e;exact k2 r.pd (cI.mpr ⟨r,v,rfl⟩) rfl l H' m j S
#synth yu8 ["self","name"] yzt
inductive yas(K:z0)(a:Ads)(vs:Τ)(H:Hp)(Q:VK)(E:XK):Prop
 |mk(st ds d:xy)(vl vm vc:V)(n:Nat)(kd:Ν)(ps:Κ)(w:Nat)(P:qi Pc)(x:V)(nt:String)(_:vs=[.ref st,x])(_:H st=some (.ins a.A0 ds (v8 vl vm (.ref d) vc)))(_:ŕ a H d n kd ps w P)(_:xu K H x (.type nt))(_:(∀s,x=.str s->s.length<=100000))(_:(nmV x=false->∀H',yx H H'->E (.ref a.Aa) none H'))(_:(∀b,x=.str b->nmS b=true->(∀q,q∈P->q.nm≠b)->∀H',yx H H'->E (.ref a.Ac) none H'))(_:(∀r,r∈P->x=.str r.nm->nmS r.nm=true->∀H',yx H H'->Q (baV r.bs) H'))
def yth:vx P w K mg Γ (CXe P w) 4 a.Lg a.Ob ["self","name"] (yas K a):=by exists T.Im.F.okE,yu8,I;let⟨p,i,d,g,k,t,n,o,l,w,P,x,q,rfl,c,j,y,J,C,G,z⟩:=h;exists 2,0,yd (yt (yo (vj (pv 0) T.A2 T.C3.m (yeu T) I.m T.C3.B .nil yr (pa1 (pv 1))) rfl));exists p,i,d,g,k,t,n,o,l,w,P,x,q,rfl,c,j,y,J,C,G,λr b e M N u=>?_;have L:=((j.same u).ob r b).1;ext;exact z r b e M _ u
def Sto.baseof{H:Hp}{C:Cf}{P:qi Pd}{X:Sx}{Q:VK}{E:XK}(h:Sto K a H st C P X){b:Str}(hb:nmS b=true)(k1:(∀q,q∈P->q.nm≠b)->∀H',yx H H'->E (.ref a.Ac) none H')
  (k2:∀r,r∈P->r.nm=b->∀H',yx H H'->Q (baV r.bs) H'):yas K a [.ref st,.str b] H Q E:=by
 let⟨i,G,d,c,A,p,y,B,D,F,g,o,v,U,s,rfl,rfl⟩:=h;have k:=uu hb;exists st,i,d,_,_,_,C.n,C.kd,C.ps,C.w,g,.str b,"str",rfl,s.me,s.pz,.str _,(λx e=>by cases e;omega),(λz=>by rw[show nmV (.str b)=nmS b from rfl,hb]at z;cases z),(λt e Z f=>?_),λr m e Z H' S=>?_
 .cases e;refine k1 λq j=>?_;let⟨u,l,rfl⟩:=cI.mp j;exact f u l
 .cases e;exact k2 r.pd (cI.mpr ⟨r,m,rfl⟩) rfl H' S
def lkB(k:Fin 3)(p:Ο):Ο:=((k.val:Nat):Int)::((p.length:Nat):Int)::p
def ytj(k:Fin 3):(kdS 0=kdS k/\k.val=0)\/(kdS 0≠kdS k/\kdS 1=kdS k/\k.val=1)\/(kdS 0≠kdS k/\kdS 1≠kdS k/\kdS 2=kdS k/\k.val=2):=by revert k;decide
#synth yvj ["look"] yz1
inductive ylk  (vs:Τ) (H:Hp) (Q:VK) (E':XK):Prop
 |mk(v:V)(kd:Fin 3)(tp:xy)(ps:Ο)(_:vs=[v])(_:LkG H v kd tp ps)(_:∀l H',H l=none->H' l=some (.lst ((lkB kd ps).map V.int))->yx H H'->Q (.ref l) H')
def yto:vx P w K mg Γ CX0 1 a.Lh a.Oc ["look"] ylk:=by
 exists T.Pk.F.ok,yvj,r;let⟨v,d,g,l,rfl,⟨q,rfl,e,i,p⟩,k⟩:=h;have o:=uz p;rw[bz]at o;exists 1,0,yd (yt (yn vh (vd (pac (jg PySem.F.plainAttrs_tuple PySem.F.slot_tuple_index PySem.F.type_tuple_index ygj (w8 rfl T.Ea) (pa1 (xk jl (pv 0) yc (λZ Z=>rfl)))) (pa1 (pcB yq T.A9 (pa1 (xk jl (pv 0) yc (λZ Z=>rfl))))))) (pcT wb T.Ap (pa1 (xk jl (pv 0) yc (λZ Z=>rfl))))));exists .inr (.inl ⟨rfl,T.wy_KINDS⟩),?_;ext;refine ybs (SqT.of e) (xf (j:=0) rfl) ?_;ext;exists kdS 0,kdS 1,kdS 2,kdS d,a.B9,d.val,rfl,rfl,T.w_KINDS H,ytj d,?_;ext;refine ybs (SqT.of e) (xf (j:=1) rfl) ?_;ext;exists g,_,rfl,.inr (SqT.of i),?_;rw[bz];ext;exists by walk_at "len",λu hu0=>?_
 exists hu0,H1,S1,hu1;ext;refine ybs (SqT.of (S1 _ _ e)) (xf (j:=1) rfl) ?_;ext;exists g,_,rfl,.inr (SqT.of (S1 _ _ i)),λw hw0=>?_;exists hw0,H2,S2,hw2;ext;exists u,w,_,_,rfl,rfl,S2 _ _ hu1,hw2,wv (by rw[bz];show 2+l.length<=_;omega),λc b=>?_;exact k c _ (S1.free (S2.free b)) ya (S1.trans (S2.trans (y6 b)))
def lix(c:Nat):Nat:=(PySem.Builtin.Str.occurrences smS ⟨#[c]⟩ 0 26 1).headD 0
def yq3:∀i:Fin 26,PySem.Builtin.Str.occurrences smS ⟨#[97+i.val]⟩ 0 26 1=[i.val]:=by right
def yn6{c:Nat}(h1:97<=c)(h2:c<=122):lix c=c-97:=by have e:=yq3 ⟨c-97,()⟩;unfold lix;rw[show 97+(⟨c-97,()⟩:Fin 26).val=c by show 97+(c-97)=c;omega]at e;rw[e];rfl
def yic{x:Str}(h:nmS x=true){c:Nat}(hc:x.cps[i]?=some c):∃vt,PySem.Builtin.Str.occurrences smS ⟨#[c]⟩ 0 smS.length 1=lix c::vt:=by
 unfold nmS at h;simp only[cZ,List.all_eq_true]at h;have a:=h.2.2 c (cN (by rw[Array.getElem?_toList];exact hc));unfold ygh at a;have a:(!(PySem.Builtin.Str.occurrences smS ⟨#[c]⟩ 0 26 1).isEmpty)=true:=a;show ∃vt,PySem.Builtin.Str.occurrences smS ⟨#[c]⟩ 0 26 1=_;unfold lix
 cases e:PySem.Builtin.Str.occurrences smS ⟨#[c]⟩ 0 26 1 with
 |nil=>rw[e]at a;cases a
 |cons i r=>exists r,rfl
def nmB(x:Str):Ο:=((x.length:Nat):Int)::x.cps.toList.map λc=>((lix c:Nat):Int)
def yi1(x:Str):(List.range x.cps.size).map (λi=>V.int ((lix (x.cps.toList.getD i 0):Nat):Int))=(x.cps.toList.map λc=>((lix c:Nat):Int)).map V.int:=by
 refine List.ext_getElem? λi=>?_;rw[cK,cK,cK];rcases Nat.lt_or_ge i x.cps.size with z|z
 .rw[dU z,cA (by simpa using z)];show some (V.int ((lix (x.cps.toList.getD i 0):Nat):Int))=_;rw[ed,cA (by simpa using z)];rfl
 .rw[dv (by rw[dw];exact z),dv (by simpa using z)];rfl
#synth yuv ["name"] vat
inductive ymk  (vs:Τ) (H:Hp) (Q:VK) (E':XK):Prop
 |mk(x:Str)(_:vs=[.str x])(_:nmS x=true)(_:∀l H',H l=none->H' l=some (.lst ((nmB x).map V.int))->yx H H'->Q (.ref l) H')
def ywc:vx P w K mg Γ CX0 1 a.Li a.Od ["name"] ymk:=by
 exists T.Pl.F.ok,yuv,z;let⟨x,rfl,l,k⟩:=h;have o:=uu l;have p:x.cps.size=x.length:=rfl;exists 1,0,yd (yt (yn vh (vd (pa1 (pcB zg T.A9 (pa1 (pv 0))))) (wy (js:=[]) (ys:=[]) rfl (ykb (pv 0)) (λC B y v=>(yoc (K:=K) (r:=(yc7)) rfl PySem.F.plainAttrs_str PySem.F.slot_str_index PySem.F.type_str_index yau (yc3 rfl T.Cm) (pa1 (pv 0)))) rfl rfl (hyc:=y7) (hrel:=y7))));exists x,rfl,dB o ∅,?_;ext;exists by walk_at "len",λu hu0=>?_
 exists hu0,H1,S1,hu1;ext;exists x,rfl,λD g=>?_;refine č (λi=>.int ((lix (x.cps.toList.getD i 0):Nat):Int)) g (λi c G j t S e=>?_) (λG S e=>?_)
 .obtain⟨vt,q⟩:=yic l j;ext;exists rfl,?_;ext;exists smS,_,lix c,vt,rfl,rfl,q,?_;refine Mp.doneR g (vw ()) t S e ?_;show V.int _=V.int _;rw[ed,Array.getElem?_toList,j];rfl
 .ext;have d:=S1.trans S;rw[yi1]at e;exists u,D,_,_,rfl,rfl,S _ _ hu1,e,wv (by rw[bz,bz];show 1+x.cps.size<=_;omega),λc b=>?_;exact k c _ (d.free b) ya (d.trans (y6 b))
noncomputable def bsN(P:qi Pd):qj Str->Int
 |none=>0
 |some b=>(((P.map (·.nm)).idxOf b:Nat):Int)+1
def yi2{ns:Ρ}{b:Str}(h:b∈ns):vcz ns b (ns.idxOf b):=by
 have a:ns.idxOf b<ns.length:=List.idxOf_lt_length_iff.mpr h;exists ?_,λm f e=>?_
 .rw[cA a,List.getElem_idxOf a]
 .obtain⟨c,d⟩:=cF.mp e;have:=List.not_of_lt_findIdx (p:=(· == b)) (xs:=ns) (i:=m) f;rw[d]at this;simp at this
#synth yoj ["store","name","base"] ["store","name"] van
inductive ymn(K:z0)(a:Ads)(vs:Τ)(H:Hp)(Q:VK)(E':XK):Prop
 |mk(st:xy)(C:Cf)(P:qi Pd)(X:Sx)(q:Pd)(_:vs=[.ref st,.str q.nm])(_:Sto K a H st C P X)(_:q∈P)(_:∀l H',H l=none->H' l=some (.lst [V.int (bsN P q.bs)])->yx H H'->Q (.ref l) H')
def ywo:vx P w K mg Γ CX0 5 a.Lj a.Oe ["store","name"] (ymn K a):=by
 exists T.Pm.F.ok,yoj,o;let⟨U,C,P,X,q,rfl,g,v,k⟩:=h;let⟨Z,Y,vm,vp,vc,t⟩:=g.ins;have x:=g.nm q v;exists 2,1,yg (yu (i:=2) yoj.nd rfl (Or.inl rfl) (vj (pv 0) T.A2 T.Im.m (yth T) o.m T.Im.B .nil wt (pa1 (pv 1)))) (yd (yt (vd (pa1 (j8 (yw yvb (pv 2) jm (y9 _)) yc (yn vv (jg PySem.F.plainAttrs_list PySem.F.slot_list_index PySem.F.type_list_index yba (wg (pv 0) T.A2 T.D3.m (yju T) o.m T.D3.B .nil wo) (pa1 (pv 2))) yc))))));refine g.baseof x.1 (λO=>absurd rfl (O q v)) λr o e H1 p=>?_;obtain rfl:=ì g.nd o v e;have y:=g.same p;have G:=p _ _ t
 cases hb:r.bs with
 |none =>
  ext;refine xz (λF=>?_) (λz=>absurd rfl z);ext;exists by walk_at "len",λl c=>?_
  refine k l _ (p.free c) ?_ (p.trans (y6 c));rw[hb];exact ya
 |some b =>
  have j:=g.to r o;rw[hb]at j;let⟨u,W,R,_⟩:=j;ext
  refine xz (λz=>nomatch z) (λF=>?_)
  ext;refine y.names λJ M I d N=>?_;have f:M J=some (.lst ((P.map (·.nm)).map V.str)):=by rw[d,dD];rfl
  refine jp d ?_;ext;exists J,_,b,_,rfl,rfl,SqL.of f,yi2 (cI.mpr ⟨u,W,R⟩),?_;ext;exists by walk_at "len",λl c=>?_
  have n:=p.trans N;refine k l _ (n.free c) ?_ (n.trans (y6 c));rw[hb];exact ya
def pdB(C:Cf)(P:qi Pd)(q:Pd):Ο:=nmB q.nm++[bsN P q.bs]++q.by C
def lkF(C:Cf)(i:Nat):Ο:=((List.range i).map λj=>lkB (C.kd j) (C.ps j)).flatten
def zl(C:Cf)(i:Nat):lkF C (i+1)=lkF C i++lkB (C.kd i) (C.ps i):=by unfold lkF;rw[List.range_succ,cM,List.flatten_append,List.map_singleton,List.flatten_singleton]
def hdB(C:Cf):Ο:=((C.n:Nat):Int)::lkF C C.n++[((C.mo:Nat):Int)/256,((C.mo:Nat):Int)%256]
def shB(C:Cf)(P:qi Pd):Ο:=hdB C++((P.length:Nat):Int)::(P.map (pdB C P)).flatten
theorem xi.lkl{H:Hp}{C:Cf}{lk:Λ}(h:xi H C.n lk C.kd tp C.ps):∀i,i<=C.n->(lkF C i).length<=i*6
 |0,_=>cE _
 |i+1,hi=>by
  let⟨_,_,_,_,a⟩:=h i ();have b:=uz a;rw[bz]at b;rw[zl,bY];have:=h.lkl i ();show (lkF C i).length+((C.ps i).length+1+1)<=_;omega
section
variable{H:Hp}{C:Cf}{P:qi Pd}{X:Sx}
def Sto.pdl(h:Sto K a H st C P X){q:Pd}(hq:q∈P):(pdB C P q).length<=5520:=by have d:=uu (h.nm q hq).1;have e:=h.sz q hq;have b:=h.cf;have c:=Ÿ (n:=C.n) (kd:=C.kd) (ps:=C.ps) (pre:=jq (q.path.map (·.2))) (ts:=q.tx) b.1 b.2.1 (u6 _) ();have c:(q.by C).length<=5500:=c;have b:q.nm.cps.toList.length=q.nm.length:=rfl;unfold pdB nmB;rw[bY,bY,cB,bz,b];show _+1+1+_<=_;omega
theorem Sto.pls(h:Sto K a H st C P X):∀i,i<=P.length->(((P.take i).map (pdB C P)).flatten).length<=i*5520
 |0,_=>cE _
 |i+1,hi=>by
  have b:i<P.length:=()
  rw[dH b,cM,List.flatten_append,bY];have d:=h.pls i ();have c:=h.pdl (dm b);rw[List.map_singleton,List.flatten_singleton];omega
end
def ź(C:Cf){P:qi Pd}{q:Pd}(h:P[i]?=some q):((P.take (i+1)).map (pdB C P)).flatten=((P.take i).map (pdB C P)).flatten++pdB C P q:=by rw[dH (cF.mp h).1,(cF.mp h).2,cM,List.flatten_append,List.map_singleton,List.flatten_singleton]
def wr2{m:Nat}(h:m<=1000):wr 2 (m:Int)=[(m:Int)/256,(m:Int)%256]:=by show [(m:Int)/256%256,(m:Int)%256]=_;rw[Int.emod_eq_of_lt (a:=(m:Int)/256) () ()]
#synth Ŋ ["store","looks","names","shelf","look","name"] ["store"] vbp
inductive yk5(K:z0)(a:Ads)(vs:Τ)(H:Hp)(Q:VK)(E':XK):Prop
 |mk(st:xy)(C:Cf)(P:qi Pd)(X:Sx)(_:vs=[.ref st])(_:Sto K a H st C P X)(_:∀l H',H l=none->H' l=some (.lst ((shB C P).map V.int))->yx H H'->Q (.ref l) H')
def yka:vx P w K mg Γ CX0 6 a.Lk a.Of ["store"] (yk5 K a):=by
 exists T.Fq.F.ok,Ŋ,x;let⟨st,C,P,X,rfl,R,k⟩:=h;let⟨ds,vl,vm,vp,vc,ai⟩:=R.ins;let⟨c1,c6,cm,cw,c2⟩:=R.cf;have aB:=R.z;refine yf (yu (i:=1) Ŋ.nd rfl (Or.inl rfl) (wg (pv 0) T.A2 T.Ig.m (yy3 T) x.m T.Ig.B .nil wo)) ?_;refine yf (yu (i:=2) Ŋ.nd rfl (Or.inl rfl) (wg (pv 0) T.A2 T.D3.m (yju T) x.m T.D3.B .nil wo)) ?_;refine yf (yu (i:=3) Ŋ.nd rfl (Or.inl rfl) (vd (pa1 (pcB yq T.A9 (pa1 (pv 1)))))) ?_;refine yf (jx PassesOwn.never rfl (xg (pv 1)) (wj (i:=4) Ŋ.nd rfl (Or.inl rfl)) (yd (yy (jg PySem.F.plainAttrs_list PySem.F.slot_list_extend PySem.F.type_list_extend Ë (pv 3) (pa1 (ug (yto T) x.m T.Pk (pa1 (pv 4)))))))) ?_;refine yf (yy (jg PySem.F.plainAttrs_list PySem.F.slot_list_extend PySem.F.type_list_extend Ë (pv 3) (pa1 (ug (ypi T) x.m T.Hx (pac (wg (pv 0) T.A2 T.Ih.m (yxg T) x.m T.Ih.B .nil wo) (pa1 yc)))))) ?_;refine yf (yy (jg PySem.F.plainAttrs_list PySem.F.slot_list_append PySem.F.type_list_append w9 (pv 3) (pa1 (pcB yq T.A9 (pa1 (pv 2)))))) ?_;refine yf (jx PassesOwn.never rfl (xg (pv 2)) (wj (i:=5) Ŋ.nd rfl (Or.inl rfl)) (yd (yy (jg PySem.F.plainAttrs_list PySem.F.slot_list_extend PySem.F.type_list_extend Ë (pv 3) (pa1 (yn vh (yn vh (ug (ywc T) x.m T.Pl (pa1 (pv 5))) (ug (ywo T) x.m T.Pm (pac (pv 0) (pa1 (pv 5))))) (vj (pv 0) T.A2 T.F0.m (yos T) x.m T.F0.B .nil wt (pa1 (pv 5))))))))) ?_;exists 1,5,yd (yt (pv 3));refine R.tlooks λlo lk tp H1 an J hR S=>?_;have U:=S _ _ ai;ext;refine(R.same S).names λnm H2 W g N=>?_;have p:=N _ _ J;ext;refine uc (SqL.of p) ?_;rw[vi];ext;exists by walk_at "len",λd hsh0=>?_
 exists hsh0,H3,S3,hsh3;have au:=S.trans (N.trans S3);have a3:H d=none:=S.free (N.free hsh0);have a6:=S3 _ _ p;have Z:=S3 _ _ g;have af:=(hR.same N).same S3;have a5:H3 d=some (.lst ((((C.n:Nat):Int)::lkF C 0).map V.int)):=hsh3;have O:=hR.same N;have u:=R.same (S.trans N);clear hR hsh3 Z a6 af J W U;have a7:=O.lkl;ext;refine⟨lo,rfl,⟨_,SqL.of (S3 _ _ p)⟩,zh (K:=K) (a:=lo) (xs:=refs lk C.n) (λi σ2 G=>∃v4:qj V,σ2=[some (.ref st),some (.ref lo),some (.ref nm),some (.ref d),v4,none]/\yx H2 G/\G d=some (.lst ((((C.n:Nat):Int)::lkF C i).map V.int)))
  ⟨none,rfl,S3,a5⟩ (λi σ2 G F ⟨_,_,f,_⟩=>SqL.of (f _ _ p)) ?_ ?_⟩
 .rintro i y σ2 G hy ⟨v4,rfl,f,c⟩;let⟨rfl,hi⟩:=Ð hy;have ae:=a7 i ();let⟨_,_,_,_,h3⟩:=O i hi;have h4:=uz h3;rw[bz]at h4;ext;refine jp c ?_;ext;exists .ref (lk i),C.kd i,tp i,C.ps i,rfl,(O i hi).same f,λl G2 aC ab D=>?_;exists d,l,_,_,rfl,rfl,D _ _ c,ab,wv (by rw[bz,bz];show (lkF C i).length+1+((C.ps i).length+1+1)<=_;omega),?_;ext;exists _,rfl,λb o e=>yi (yb e hsh0) (D _ _ (f _ _ e)),?_;rw[ya,zl,<- cM];rfl
 rintro σ2 G ⟨v4,rfl,f,c⟩;rw[vi]at c;have ae:=a7 C.n (cE _);have t:=u.same f;let⟨ap,ao,aA,aE,az,a1⟩:=t.ins;clear a5;ext;refine jp c ?_;ext;refine t.tmost ?_;ext;exists _,2,rfl,∅,λw G2 ac M D=>?_
 rw[wr2 cm]at M;exists d,w,_,_,rfl,rfl,D _ _ c,M,wv (by rw[bz];show (lkF C C.n).length+1+2<=_;omega),?_;rw[<- cM];have S4:yx H2 (upd G2 d (.lst ((((C.n:Nat):Int)::lkF C C.n++[((C.mo:Nat):Int)/256,((C.mo:Nat):Int)%256]).map V.int))):=λb o e=>yi (yb e hsh0) (D _ _ (f _ _ e));have j:upd G2 d (.lst ((((C.n:Nat):Int)::lkF C C.n++[((C.mo:Nat):Int)/256,((C.mo:Nat):Int)%256]).map V.int)) d=some (.lst ((hdB C).map V.int)):=ya;generalize upd G2 d (.lst ((((C.n:Nat):Int)::lkF C C.n++[((C.mo:Nat):Int)/256,((C.mo:Nat):Int)%256]).map V.int))=H4 at S4 j⊢;clear c t a1 ac M D f;have aG:(hdB C).length<=40:=by unfold hdB;rw[bY,cB];show _+1+2<=40;omega
 ext;refine jp j ?_;ext;refine uc (SqL.of (S4 _ _ g)) ?_;rw[bz];ext;refine uf j (vw (by rw[bz];omega)) ?_;have S5:yx H2 (upd H4 d (.lst ((hdB C).map V.int++[V.int ((P.length:Nat):Int)]))):=λb o e=>yi (yb e hsh0) (S4 _ _ e)
 have L:upd H4 d (.lst ((hdB C).map V.int++[V.int ((P.length:Nat):Int)])) d=some (.lst ((hdB C++((P.length:Nat):Int)::((P.take 0).map (pdB C P)).flatten).map V.int)):=by
  rw[ya,cM];rfl
 generalize upd H4 d (.lst ((hdB C).map V.int++[V.int ((P.length:Nat):Int)]))=H5 at S5 L⊢;clear j S4;have ah:∀q,q∈P->(pdB C P q).length<=5520:=λq=>u.pdl;have ag:=u.pls;ext;refine⟨nm,rfl,⟨_,SqL.of (S5 _ _ g)⟩,zh (K:=K) (a:=nm) (xs:=P.map λq=>V.str q.nm) (λi σ2 G=>∃v5:qj V,σ2=[some (.ref st),some (.ref lo),some (.ref nm),some (.ref d),v4,v5]/\yx H2 G/\G d=some (.lst ((hdB C++((P.length:Nat):Int)::((P.take i).map (pdB C P)).flatten).map V.int)))
  ⟨none,rfl,S5,L⟩ (λi σ2 G F ⟨_,_,f,_⟩=>SqL.of (f _ _ g)) ?_ ?_⟩
 .rintro i y σ2 G hy ⟨v5,rfl,f,c⟩;rw[cK]at hy;let⟨q,hq,rfl⟩:=Option.map_eq_some_iff.mp hy;have aF:i<P.length:=(cF.mp hq).1;have ax:P[i]=q:=(cF.mp hq).2;have v:=cN hq;have a0:=u.nm q v;have aq:=ag i ();have I:=ah q v;have t:=u.same f;ext;refine jp c ?_;ext;exists q.nm,rfl,a0.1,λb1 G1 ak a9 T1=>?_;ext;exists st,C,P,X,q,rfl,t.same T1,v,λb2 G2 aj a4 D=>?_;ext;exists b1,b2,_,_,rfl,rfl,D _ _ a9,a4,wv (by rw[bz];unfold pdB at I;rw[bY,bY]at I;show _+1<=_;omega),λb3 hb30=>?_;exists hb30,G3,T3,hb33;have a2:=T1.trans (D.trans T3);have aa:=t.same a2;let⟨aD,as,av,aw,ay,am⟩:=aa.ins;ext;refine aa.bytesof a0.1 (λno=>absurd rfl (no q v)) λr x er b4 G4 al Y T4=>?_;obtain rfl:=ì R.nd x v er;ext;exists b3,b4,_,_,rfl,rfl,T4 _ _ hb33,Y,wv (by rw[bY,bz,bz];unfold pdB at I;rw[bY,bY]at I;show _+1+_<=_;omega),λb5 hb50=>?_;exists hb50,G5,T5,hb55;have a8:=a2.trans (T4.trans T5)
  have hb55:G5 b5=some (.lst ((pdB C P r).map V.int)):=by
   rw[hb55];unfold pdB;rw[cM,cM];rfl
  exists d,b5,_,_,rfl,rfl,a8 _ _ c,hb55,wv (by rw[bz,bz,bY,cB];omega),?_;ext;exists _,rfl,λb o e=>yi (yb e hsh0) (a8 _ _ (f _ _ e)),?_;rw[ya,ź C hq,<- cM,cH];rfl
 .rintro σ2 G ⟨v5,rfl,f,c⟩;rw[bz,dn]at c;ext;exact k d G a3 c (S.trans (N.trans f))
structure RdR(a:Ads)(H:Hp)(r dr dl:xy)(d:Ο)(j:Nat):Prop where
 me:H r=some (.ins a.A4 dr (zj (.ref dl) (.int ((j:Nat):Int))))
 dl:H dl=some (.lst (d.map V.int))
def RdR.same{H H':Hp}{r dr dl:xy}(h:RdR a H r dr dl d j)(S:yx H H'):RdR a H' r dr dl d j:=⟨S _ _ h.me,S _ _ h.dl⟩
#synth yw0 ["self","data"] vaa
inductive ygq(a:Ads)(vs:Τ)(H:Hp)(Q:VK)(E':XK):Prop
 |mk(r dr dl:xy)(d:Ο)(_:vs=[.ref r,.ref dl])(_:H r=some (.ins a.A4 dr []))(_:H dl=some (.lst (d.map V.int)))(_:∀H',RdR a H' r dr dl d 0->But r H H'->Q .non H')
def ywz:vx P w K mg Γ CX0 1 a.Hc a.Og ["self","data"] (ygq a):=by
 exists T.Pn.F.ok,yw0,m;let⟨r,c,b,d,rfl,l,e,k⟩:=h;have g:b≠r:=λz=>by rw[z,l]at e;cases e
 exists 2,0,yg (ve (pv 0) (pv 1) rfl) (yd (ve (pv 0) yc rfl));have n:upd H r (.ins a.A4 c [("data",.ref b)]) r=some (.ins a.A4 c [("data",.ref b)]):=ya;ext;exact k _ ⟨ya,yi g (yi g e)⟩ (But.upd.trans But.upd)
def But.non{r t:xy}{H H':Hp}{o:HO}(b:But r H H')(hr:H' r=some o)(h:H' t=none):H t=none:=by
 cases e:H t with
 |none=>rfl
 |some o' =>
  by_cases z:t=r
  .rw[z,hr]at h;cases h
  .rw[b t o' e z]at h;cases h
#synth yxz ["self"] vaj
inductive yms(a:Ads)(vs:Τ)(H:Hp)(Q:VK)(E:XK):Prop
 |mk(r dr dl:xy)(d:Ο)(j:Nat)(_:vs=[.ref r])(_:RdR a H r dr dl d j)(_:j<=d.length)(_:(j=d.length->E (.ref a.A3) none H))(_:∀x,d[j]?=some x->∀H',RdR a H' r dr dl d (j+1)->But r H H'->Q (.int x) H')
def ï:vx P w K mg Γ (CXe P w) 1 a.Ll a.Oh ["self"] (yms a):=by
 exists T.Ar.F.okE,yxz,x;let⟨r,f,b,d,j,rfl,h,y,t,k⟩:=h;have i:=h.me;have u:b≠r:=λz=>by have e:=h.dl;rw[z,i]at e;cases e
 exists 1,0,yg (wa (yw xx (yo (pv 0) rfl) (pcB yq T.A9 (pa1 (yo (pv 0) rfl))) (y9 _)) (yd (wn rfl T.As T.B6 (pa1 v7))) y8) (yg (ve (pv 0) (yn vv (yo (pv 0) rfl) yc) rfl) (yd (yt (xk wl (yo (pv 0) rfl) (yn ub (yo (pv 0) rfl) yc) (λZ Z=>rfl)))));refine uc (SqL.of h.dl) ?_;rw[bz];ext;refine xz (λz=>?_) (λz=>?_)
 .ext;exists by walk_at "len",t ()
 have m:j<d.length:=()
 ext;have g:RdR a (upd H r (.ins a.A4 f (zj (.ref b) (.int ((j:Nat)+1))))) r f b d (j+1):=⟨ya,yi u h.dl⟩;have o:But r H (upd H r (.ins a.A4 f (zj (.ref b) (.int ((j:Nat)+1))))):=But.upd;generalize upd H r (.ins a.A4 f (zj (.ref b) (.int ((j:Nat)+1))))=B at g o⊢;have n:=g.me;ext;have c:d[j]?=some d[j]:=cA m;refine zb (v:=.int d[j]) (SqL.of g.dl) (by rw[show ((j:Nat):Int)+1-1=((j:Nat):Int) by omega];exact xf (by rw[cK,c];rfl)) ?_;exact k _ c _ g o
def PtL(K:z0)(H:Hp)(pt:V)(xs:Τ):Prop :=
 (∃p,pt=.ref p/\H p=some (.lst xs))\/(∃p,pt=.ref p/\∀H,SqT K H p xs)\/∃z:Str,pt=.str z/\z.length<=1000/\xs=z.cps.toList.map λc=>V.str ⟨#[c]⟩
def zf{l:Ο}{x:Int}:d.drop j=x::l↔d[j]?=some x/\d.drop (j+1)=l:=by
 exists λh=>⟨?_,?_⟩,λ⟨c,b⟩=>?_
 .rw[<- Nat.add_zero j,<- List.getElem?_drop,h];rfl
 .rw[<- List.drop_drop,h];rfl
 .obtain⟨a,e⟩:=cF.mp c;rw[List.drop_eq_getElem_cons a,e,b]
#synth yol ["self","parts","number"] ["self","parts"] vap
inductive yll(K:z0)(a:Ads)(vs:Τ)(H:Hp)(Q:VK)(E:XK):Prop
 |mk(r dr dl:xy)(d:Ο)(j:Nat)(pt:V)(xs:Τ)(_:vs=[.ref r,pt])(_:RdR a H r dr dl d j)(_:j<=d.length)(_:Byt d)(_:PtL K H pt xs)(_:(∀(x:Nat)v,d[j]?=some (x:Int)->xs[x]?=some v->∀H',RdR a H' r dr dl d (j+1)->But r H H'->Q v H'))(_:((∀(x:Nat)v,d[j]?=some (x:Int)->xs[x]?≠some v)->∀H',But r H H'->E (.ref a.A3) none H'))
def yj0:vx P w K mg Γ (CXe P w) 2 a.Lm a.Oi ["self","parts"] (yll K a):=by
 exists T.D5.F.okE,yol,Y;let⟨r,L,M,d,j,R,q,rfl,h,Z,S,g,k,J⟩:=h;have G:=h.me;exists 2,1,yg (yu (i:=2) yol.nd rfl (Or.inl rfl) (xa (pv 0) T.A6 T.Ar.m (ï T) Y.m T.Ar.B .nil yr)) (yg (wa (yw vbc (pv 2) (ġ (pcB yq T.A9 (pa1 (pv 1))) (pcB zg T.A9 (pa1 (pv 1)))) (y9 _)) (yd (wn rfl T.As T.B6 (pa1 v7))) y8) (yd (yt (ġ (xk wl (pv 1) (pv 2) (λF F=>rfl)) (ġ (xk jl (pv 1) (pv 2) (λF F=>rfl)) (jb (pv 1) (pv 2) (λF F=>rfl)))))));exists r,L,M,d,j,rfl,h,Z,(λe=>J (λx v u=>by rw[e,dv (cE _)]at u;cases u) H But.refl),λx D y O C=>?_;obtain⟨n,rfl⟩:∃n:Nat,x=n:=⟨x.toNat,by have:=S x (cN D);omega⟩
 have o:q.length<=n->E (.ref a.A3) none y:=λz=>J (λx v u U=>by
  have u:(n:Int)=x:=cJ (D.symm.trans u);have:=(cF.mp U).1;omega) y C
 have l:∀(b:n<q.length),Q q[n] y:=λb=>k n _ D (cA b) y O C;rcases g with⟨p,rfl,g⟩|⟨p,rfl,g⟩|⟨f,rfl,hz,rfl⟩
 .have t:=C _ _ g λz=>by rw[z,G]at g;cases g
  ext;refine ð ?_;ext;refine uc (SqL.of t) ?_;ext;refine xz (λz=>?_) (λz=>?_)
  .ext;exists by walk_at "len",o ()
  have b:n<q.length:=()
  ext;refine ð ?_;ext;refine zb (SqL.of t) (xf (cA b)) ?_;exact l b
 .ext;refine ð ?_;ext;exists p,_,rfl,.inr (g _),?_;ext;refine xz (λz=>?_) (λz=>?_)
  .ext;exists by walk_at "len",o ()
  have b:n<q.length:=()
  ext;refine π (ð ?_);ext;refine ybs (g _) (xf (cA b)) ?_;exact l b
 .have X:(f.cps.toList.map λc=>V.str ⟨#[c]⟩).length=f.length:=bz _;ext;refine π ?_;ext;exists f,rfl,wv (),?_;ext;refine xz (λz=>?_) (λz=>?_)
  .ext;exists by walk_at "len",o ()
  have b:n<f.cps.toList.length:=by have:f.cps.toList.length=f.length:=rfl;omega
  ext;refine π (π ?_);ext;exists f,((n:Nat):Int),f.cps.toList[n],rfl,rfl,(),by have:f.cps.toList.length=f.length:=rfl;omega,(),by rw[Int.toNat_natCast,<- Array.getElem?_toList];exact cA b,?_
  have:=l (by rw[bz];exact b);rw[dL]at this;exact this
def yz6(kd:Fin 3):([.str "even",.str "quick",.str "run"]:Τ)[kd.val]?=some (.str (kdS kd)):=by
 match kd with
 |0=>rfl
 |1=>rfl
 |2=>rfl
#synth yjw ["self","kind","many"] ["self"] vbb
inductive yl2(K:z0)(a:Ads)(vs:Τ)(H:Hp)(Q:VK)(E:XK):Prop
 |mk(r dr dl:xy)(d:Ο)(j:Nat)(_:vs=[.ref r])(_:RdR a H r dr dl d j)(_:j<=d.length)(_:Byt d)(_:(∀(kd:Fin 3)(ps vt:Ο),d.drop j=lkB kd ps++vt->j+(2+ps.length)<=d.length->∀t tp H',H t=none->H tp=none->H' t=some (.tup [.str (kdS kd),.ref tp])->H' tp=some (.tup (ps.map V.int))->RdR a H' r dr dl d (j+(2+ps.length))->But r H H'->Q (.ref t) H'))(_:((∀(kd:Fin 3)(ps vt:Ο),d.drop j≠lkB kd ps++vt)->∀H',But r H H'->E (.ref a.A3) none H'))
def yt0:vx P w K mg Γ (CXe P w) 3 a.Ln a.Oj ["self"] (yl2 K a):=by
 exists T.Io.F.okE,yjw,hr;let⟨r,M,O,d,j,rfl,h,hj,hd,k,kE⟩:=h;have aa:=h.me;exists 1,2,yg (yu (i:=1) yjw.nd rfl (Or.inl rfl) (vj (pv 0) T.A6 T.D5.m (yj0 T) hr.m T.D5.B .nil yr (pa1 (w8 rfl T.Ea)))) (yg (yu (i:=2) yjw.nd rfl (Or.inl rfl) (xa (pv 0) T.A6 T.Ar.m (ï T) hr.m T.Ar.B .nil yr)) (yd (yt (zx (pac (pv 1) (pa1 (pcT z9 T.Cd (pa1 (ydx (js:=[0]) (ys:=["self"]) rfl (uq rfl T.Ax (pa1 (pv 2))) (λC s2 H2 fp pn Ex=>(xa (pv 1) T.A6 T.Ar.m (ï T) hr.m T.Ar.B .nil Ó)) rfl rfl ⟨rfl,_,rfl⟩ yr (hyc:=(all_cons rfl y7)) (hrel:=(all_cons rfl y7)))))))))));exists r,M,O,d,j,_,_,rfl,h,hj,hd,.inr (.inl ⟨a.B9,rfl,T.w_KINDS⟩),λx v J hv H1 h1 b1=>?_,λno=>kE λY W vt e=>no Y.val _ (zf.mp e).1 (yz6 Y);have g:x<3:=(cF.mp hv).1;obtain rfl:V.str (kdS ⟨x,g⟩)=v:=cJ ((yz6 ⟨x,g⟩).symm.trans hv);have a9:=(cF.mp J).1;have a5:=h1.me;ext;exists r,M,O,d,j+1,rfl,h1,(),(λz=>kE (λY W vt e=>?_) _ b1),λy Z H2 X b2=>?_
 .have:=(zf.mp (zf.mp e).2).1;rw[z,dv (cE _)]at this;cases this
 have ab:=hd y (cN Z);obtain⟨m,rfl⟩:∃m:Nat,y=m:=⟨y.toNat,()⟩;have a8:=(cF.mp Z).1;have c:=X.me;have l:=b1.trans b2
 have a2:d.length<j+1+1+m->∀H',But r H H'->E (.ref a.A3) none H':=λz=>kE λY W vt e=>by
  let⟨e1,e2⟩:=zf.mp (zf.mp e).2;have e1:(m:Int)=W.length:=cJ (Z.symm.trans e1);have e2:d.drop (j+1+1)=W++vt:=e2;have:=congrArg List.length e2;rw[df,bY]at this;omega
 ext;exists _,rfl,(),(),λD f=>?_
 have L:D≠r:=λz=>by rw[z,c]at f;cases f
 refine ja (n:=m) (λi G=>RdR a G r M O d (j+1+1+i)/\j+1+1+i<=d.length/\G D=some (.lst (((d.drop (j+1+1)).take i).map V.int))/\But r H2 G) ⟨⟨yi (yb c f) c,yi (yb X.dl f) X.dl⟩,(),ya,λb o e F=>yi (yb e f) e⟩ (λi G hi z=>?_) (λG z=>?_)
 .obtain⟨q,N,p,R⟩:=z;have a4:=q.me;ext;exists r,M,O,d,j+1+1+i,rfl,q,N,(λz=>a2 () _ (l.trans R)),λx J G1 u I=>?_;have U:=I _ _ p L;have a7:=(cF.mp J).1;have a3:i<(d.drop (j+1+1)).length:=by rw[df];omega
  ext;refine ul (n:=m) U (vw (by rw[bz,cL];omega)) hi ⟨⟨yi L.symm u.me,yi (yb X.dl f) u.dl⟩,(),?_,λb o e n=>yi (yb e f) (I _ _ (R b o e n) n)⟩;rw[ya,dH a3,cM];have:(d.drop (j+1+1))[i]?=some x:=by rw[List.getElem?_drop];exact J
  rw[(cF.mp this).2];rfl
 let⟨q,N,p,R⟩:=z;ext;exists D,_,rfl,.inl ⟨SqL.of p,λtp htp=>?_⟩;exists htp,G1,S1,e1;ext;exists by show 2<=sizeLine;decide,λt ht=>?_
 exists ht,G2,S2,e2;have S:But r H G1:=λb o e n=>S1 _ _ (R _ _ (l _ _ e n) n);have a1:((d.drop (j+1+1)).take m).length=m:=by rw[cL,df];omega
 refine k ⟨x,g⟩ ((d.drop (j+1+1)).take m) ((d.drop (j+1+1)).drop m) (zf.mpr ⟨J,zf.mpr ⟨by rw[a1];exact Z,?_⟩⟩) () t tp G2 (S.non (S1 _ _ q.me) ht) ((l.trans R).non q.me htp) e2 (S2 _ _ e1) (by rw[show j+(2+((d.drop (j+1+1)).take m).length)=j+1+1+m by omega];exact q.same (S1.trans S2)) λb o e n=>S2 _ _ (S b o e n);show _=List.take m _++List.drop m _;rw[dX]
structure CfG(C:Cf):Prop where
 n:1<=C.n/\C.n<=6
 m:C.mo<=1000/\C.w<=C.mo/\C.w<=200
 p:∀i,i<C.n->xp ((C.ps i).map V.int)=true
theorem yn8(C:Cf):∀{n:Nat},i<n->∃m,lkF C n=lkF C i++(lkB (C.kd i) (C.ps i)++m)
 |n+1,h=>by
  rw[zl];rcases Nat.lt_or_ge i n with z|z
  .obtain⟨m,e⟩:=yn8 C z;exists m++lkB (C.kd n) (C.ps n),by rw[e,cH,cH]
  .obtain rfl:i=n:=()
   exists [],by rw[dW]
def ö{A B:Ο}{k:Nat}(h:d.drop k=A++B):d.drop (k+A.length)=B:=by rw[<- List.drop_drop,h,List.drop_left]
def yql(tt:Λ)(i:Nat)(t:xy):refs (λj=>if j=i then t else tt j) (i+1)=refs tt i++[V.ref t]:=by rw[zw,if_pos rfl,zt λj a=>if_neg (di a)]
def Rfx(a:Ads)(c:xy):Prop:=c=a.A3\/Rfs a c
structure CfN(C:Cf):Prop where
 n:1<=C.n/\C.n<=6
 m:C.mo<=1000
 w:C.w=C.mo
 p:∀i,i<C.n->xp ((C.ps i).map V.int)=true
 z:∀i,C.n<=i->C.kd i=0/\C.ps i=[]
def ywg{k k':Fin 3}{p p' x:Ο}(e:lkB k p++x=lkB k' p'++y):k=k'/\p=p'/\x=y:=by have e:((k.val:Nat):Int)::((p.length:Nat):Int)::(p++x)=((k'.val:Nat):Int)::((p'.length:Nat):Int)::(p'++y):=e;injection e with e1 e;injection e with e2 e3;let⟨a,b⟩:=List.append_inj e3 ();exists Fin.ext (),a,b
theorem ybp{C C':Cf}:∀{i:Nat}{x y:Ο},lkF C i++x=lkF C' i++y->(∀k,k<i->C.kd k=C'.kd k/\C.ps k=C'.ps k)/\x=y
 |0,_,_,e=>⟨λk a=>absurd a (du k),e⟩
 |i+1,x,y,e=>by
  rw[zl,zl,cH,cH]at e;let⟨d,e⟩:=ybp e;let⟨c,b,e⟩:=ywg e;exists λk a=>?_,e;rcases Nat.lt_or_ge k i with z|z
  .exact d k z
  .obtain rfl:k=i:=()
   exists c,b
def yg4{C C':Cf}(h:∀k,k<i->C.kd k=C'.kd k/\C.ps k=C'.ps k):lkF C i=lkF C' i:=by
 unfold lkF
 congr 1
 refine List.map_congr_left λk c=>?_;let⟨b,a⟩:=h k (dN.mp c);rw[b,a]
def j3(C:Cf)(r:Ο):hdB C++r=((C.n:Nat):Int)::(lkF C C.n++(((C.mo:Nat):Int)/256::((C.mo:Nat):Int)%256::r)):=by unfold hdB;rw[cH];rfl
def ō{C C':Cf}(h:CfN C)(h':CfN C'){x:Ο}(e:hdB C++x=hdB C'++y):C=C'/\x=y:=by
 rw[j3,j3]at e;injection e with e1 e;have g:C.n=C'.n:=()
 rw[g]at e;let⟨m,e⟩:=ybp e;injection e with e2 e;injection e with e3 e6
 have f:∀k,C.kd k=C'.kd k/\C.ps k=C'.ps k:=λk=>by
  rcases Nat.lt_or_ge k C'.n with z|z
  .exact m k z
  .obtain⟨l,i⟩:=h.z k ();let⟨t,j⟩:=h'.z k z;exists l.trans t.symm,i.trans j.symm
 have d:C.mo=C'.mo:=()
 have q:C.w=C'.w:=by rw[h.w,h'.w,d]
 let⟨n,s,u,p,w⟩:=C;let⟨o,a,c,b,r⟩:=C';obtain rfl:n=o:=g;obtain rfl:p=b:=d;obtain rfl:w=r:=q;obtain rfl:s=a:=funext λk=>(f k).1;obtain rfl:u=c:=funext λk=>(f k).2;exists rfl,e6
def LkQ(G:Hp)(n:Nat)(lk:Λ)(kd:Ν)(tp:Λ)(ps:Κ):Prop:=∀k,k<n->G (lk k)=some (.tup [.str (kdS (kd k)),.ref (tp k)])/\G (tp k)=some (.tup ((ps k).map V.int))/\(ps k).length<=1000
def LkQ.bs{G:Hp}{n:Nat}{lk:Λ}{kd:Ν}{ps:Κ}(h:LkQ G n lk kd tp ps):ypt K G (refs lk n) ((List.range n).map λk=>xp ((ps k).map V.int)):=by
 exists by rw[vi,bz,dw],λi y b a c=>?_
 have d:i<n:=by have:=(cF.mp a).1;rw[vi]at this;exact this
 unfold refs at a;rw[cK,dU d]at a c;cases a;cases c;let⟨f,e,g⟩:=h i d;refine .inr ⟨_,_,rfl,f,.inr ⟨_,_,"str",rfl,.str _,.inr ⟨yid (kd i),.inr ⟨tp i,_,rfl,e,by rw[bz];exact g,λy j=>?_,rfl⟩⟩⟩⟩;let⟨x,_,rfl⟩:=cI.mp j;exists _,.int x
#synth ye4 ["self","many","looks","upper"] ["self"] vaq
inductive ygl(K:z0)(a:Ads)(vs:Τ)(H:Hp)(Q:VK)(E:XK):Prop
 |mk(r dr dl:xy)(d:Ο)(j:Nat)(_:vs=[.ref r])(_:RdR a H r dr dl d j)(_:j<=d.length)(_:Byt d)(_:(∀C vt,CfN C->d.drop j=hdB C++vt->C.mo<=200))(_:(∀C vt,CfN C->d.drop j=hdB C++vt->j+(hdB C).length<=d.length->∀st X H',Sto K a H' st C [] X->RdR a H' r dr dl d (j+(hdB C).length)->But r H H'->(∀y,X.f y->H y=none)->Q (.ref st) H'))(_:((∀C vt,CfN C->d.drop j≠hdB C++vt)->∀c H',Rfx a c->But r H H'->E (.ref c) none H'))
def yvl:vx P w K mg Γ (CXe P w) 12 a.Lo a.Ol ["self"] (ygl K a):=by
 exists T.Ip.F.okE,ye4,hr;let⟨r,dr,dl,d,j,rfl,h,hj,hd,hm,k,kE⟩:=h;have aw:=h.me;exists 1,3,yg (yu (i:=1) ye4.nd rfl (Or.inl rfl) (xa (pv 0) T.A6 T.Ar.m (ï T) hr.m T.Ar.B .nil yr)) (yg (ykt (i:=2) (js:=[0]) (ys:=["self"]) ye4.nd rfl rfl rfl (uq rfl T.Ax (pa1 (pv 1))) (λC s2 H2 fp pn Ex=>(xa (pv 1) T.A6 T.Io.m (yt0 T) hr.m T.Io.B .nil Ó)) rfl rfl ⟨rfl,_,rfl⟩ yr (hyc:=(all_cons rfl y7)) (hrel:=(all_cons rfl y7))) (yg (yu (i:=3) ye4.nd rfl (Or.inl rfl) (xa (pv 0) T.A6 T.Ar.m (ï T) hr.m T.Ar.B .nil yr)) (yd (yt (zi T.Fw (yn4 T) hr.m rfl T.Fv T.Pi .nil yr (pac (pv 2) (pa1 (yn vv (yn wz yc (pv 3)) (xa (pv 0) T.A6 T.Ar.m (ï T) hr.m T.Ar.B .nil yr)))))))));exists r,dr,dl,d,j,rfl,h,hj,(λz=>kE (λC vt F e=>?_) _ H (.inl rfl) But.refl),λy hy H1 S b1=>?_
 .rw[j3,z,List.drop_length]at e;cases e
 have ay:=hd y (cN hy);obtain⟨n,rfl⟩:∃n:Nat,y=n:=⟨y.toNat,()⟩;have ao:=(cF.mp hy).1;have M:=S.me
 have un:∀{C C':Cf}{i:Nat}{vt:Ο},i<=n->d.drop (j+1)=lkF C i++d.drop (j+1+(lkF C i).length)->d.drop j=hdB C'++vt->C'.n=n/\(∀k,k<i->C.kd k=C'.kd k/\C.ps k=C'.ps k)/\∃m,(i<n->∃m',m=lkB (C'.kd i) (C'.ps i)++m')/\(i=n->m=[])/\d.drop (j+1+(lkF C i).length)=m++(((C'.mo:Nat):Int)/256::((C'.mo:Nat):Int)%256::vt):=λ{C C' i vt}hi N c=>by
  rw[j3]at c;let⟨e3,e4⟩:=zf.mp c;have en:C'.n=n:=by have:(n:Int)=C'.n:=cJ (hy.symm.trans e3);omega
  rw[en]at e4;rcases Nat.lt_or_ge i n with z|z
  .obtain⟨m,em⟩:=yn8 C' z;rw[em,N,cH]at e4;let⟨S,h2⟩:=ybp e4;exists en,S,_,λF=>⟨m,rfl⟩,λz=>by omega,h2
  .obtain rfl:i=n:=()
   rw[N]at e4;let⟨S,h2⟩:=ybp e4;exists en,S,[],λz=>by omega,λF=>rfl,h2
 ext;exists _,rfl,(),(),λD hD=>?_
 have a4:D≠r:=λz=>by rw[z,M]at hD;cases hD
 refine ja (n:=n) (λi G=>∃(C:Cf)(Z tp:Λ),(∀k,i<=k->C.kd k=0/\C.ps k=[])/\d.drop (j+1)=lkF C i++d.drop (j+1+(lkF C i).length)/\j+1+(lkF C i).length<=d.length/\RdR a G r dr dl d (j+1+(lkF C i).length)/\G D=some (.lst (refs Z i))/\LkQ G i Z C.kd tp C.ps/\But r H1 G) ⟨⟨0,λF=>0,λF=>[],0,0⟩,λF=>0,λF=>0,λF F=>⟨rfl,rfl⟩,rfl,by show j+1+0<=_;omega,⟨yi (yb M hD) M,yi (yb S.dl hD) S.dl⟩,ya,λi hi=>absurd hi (du _),λb o e F=>yi (yb e hD) e⟩ (λi G hi z=>?_) (λG z=>?_)
 .obtain⟨C,Z,tp,hz,f,a5,hG,a6,hR,bG⟩:=z;have q:=hG.me;have W:=b1.trans bG;ext;exists r,dr,dl,d,_,rfl,hG,a5,hd,λkd U vt e av t tq G1 ap al ht ai a8 Y=>?_,λno H' b'=>kE (λC' vt I e=>?_) _ H' (.inl rfl) (W.trans b');rotate_left
  .obtain⟨_,_,m,ah,_,c⟩:=un (eE hi) f e;let⟨m',rfl⟩:=ah hi;exact no _ _ _ (by rw[c,cH])
  have a1:=Y _ _ a6 a4;have ae:(lkB kd U).length=2+U.length:=by show _+1+1=_;omega
  have ar:U.length<=255:=by
   have:=hd ((U.length:Nat):Int) (List.mem_of_mem_drop (i:=j+1+(lkF C i).length) (by rw[e];exact dA _ (.tail _ (.head _))));omega
  have ef:lkF ⟨0,λk=>if k=i then kd else C.kd k,λk=>if k=i then U else C.ps k,0,0⟩ (i+1)=lkF C i++lkB kd U:=by
   rw[zl,yg4 (C':=C) λk g=>⟨if_neg (di g),if_neg (di g)⟩];show _++lkB (if i=i then kd else _) (if i=i then U else _)=_;rw[if_pos rfl,if_pos rfl]
  have up:∀{x:xy}{R:Τ},G1 x=some (.tup R)->upd G1 D (.lst (refs Z i++[.ref t])) x=some (.tup R):=λ{x R}e=>yi (λz=>by rw[z,a1]at e;cases e) e;refine ul a1 (vw (by rw[vi];omega)) hi ⟨⟨0,λk=>if k=i then kd else C.kd k,λk=>if k=i then U else C.ps k,0,0⟩,λk=>if k=i then t else Z k,λk=>if k=i then tq else tp k,λk g=>?_,?_,?_,?_,by rw[ya,yql],λk g=>?_,λb o e n=>yi (yb e hD) (Y _ _ (bG b o e n) n)⟩
  .obtain⟨z1,z2⟩:=hz k ();exists(if_neg ()).trans z1,(if_neg ()).trans z2
  .rw[ef,bY,<- Nat.add_assoc,ö e,cH,<- e];exact f
  .rw[ef,bY];omega
  .rw[ef,bY,ae,<- Nat.add_assoc];exists yi a4.symm a8.me,yi (yb S.dl hD) a8.dl
  .show _=some (HO.tup [.str (kdS (if k=i then kd else C.kd k)),.ref (if k=i then tq else tp k)])/\_=some (HO.tup ((if k=i then U else C.ps k).map V.int))/\(if k=i then U else C.ps k).length<=_;by_cases z:k=i
   .simp only[if_pos z];exists up ht,up ai,()
   .simp only[if_neg z];let⟨N,c,e3⟩:=hR k ();have nr:∀{x:xy}{R:Τ},G x=some (.tup R)->x≠r:=λ{x R}e z=>by rw[z,q]at e;cases e
    exists up (Y _ _ N (nr N)),up (Y _ _ c (nr c)),e3
 let⟨C,Z,tp,hz,f,a5,hG,a6,hR,bG⟩:=z;have q:=hG.me;have W:=b1.trans bG;ext;exists r,dr,dl,d,_,rfl,hG,a5,(λz=>kE (λC' vt F e=>?_) _ _ (.inl rfl) W),λu hu H3 h3 b3=>?_
 .obtain⟨_,_,m,_,O,c⟩:=un (cE _) f e;rw[O rfl,z,List.drop_length]at c;cases c
 have ak:=h3.me;have aq:=(cF.mp hu).1;ext;exists r,dr,dl,d,_,rfl,h3,(),(λz=>kE (λC' vt F e=>?_) _ _ (.inl rfl) (W.trans b3)),λv hv H4 h4 b4=>?_
 .obtain⟨_,_,m,_,O,c⟩:=un (cE _) f e;rw[O rfl]at c;have:=(zf.mp (zf.mp c).2).1;rw[z,dv (cE _)]at this;cases this
 have au:=(cF.mp hv).1;have am:=hd u (cN hu);have ax:=hd v (cN hv);obtain⟨mo,aj⟩:∃mo:Nat,256*u+v=mo:=⟨(256*u+v).toNat,()⟩;ext;intro st ds l a3 as;have af:=(bG.trans b3).trans b4;have L:=b1.trans af;have a7:=(b3.trans b4) _ _ a6 a4;have a2:∀{x:xy}{R:Τ},G x=some (.tup R)->H4 x=some (.tup R):=λ{x R}e=>(b3.trans b4) _ _ e λz=>by rw[z,q]at e;cases e
 have ac:LkQ H4 n Z C.kd tp C.ps:=λk g=>let ⟨N,c,e3⟩:=hR k g;⟨a2 N,a2 c,e3⟩;have SQ:yx H4 (upd (upd H4 ds (.own st)) st (.ins a.A0 ds [])):=λb o e=>by rw[yp (yb e l),yp (yb e a3)];exact e
 rw[aj]
 have J:∀{C':Cf}{vt:Ο},d.drop j=hdB C'++vt->C'.n=n/\(∀k,k<n->C.kd k=C'.kd k/\C.ps k=C'.ps k)/\C'.mo=mo:=λ{C' vt}e=>by
  let⟨en,S,m,_,O,c⟩:=un (cE _) f e;rw[O rfl]at c;let⟨e3,e4⟩:=zf.mp c;have e5:=(zf.mp e4).1;have e3:u=((C'.mo:Nat):Int)/256:=cJ (hu.symm.trans e3);have e5:v=((C'.mo:Nat):Int)%256:=cJ (hv.symm.trans e5);exists en,S,()
 by_cases hlk:1<=n/\n<=6/\∀k,k<n->xp ((C.ps k).map V.int)=true
 .obtain⟨n1,n6,aa⟩:=hlk;have ab:xi H4 n Z C.kd tp C.ps:=λk g=>let ⟨N,c,_⟩:=ac k g;⟨_,rfl,N,c,aa k g⟩;by_cases hmo:mo<=1000
  .have hC:CfN ⟨n,C.kd,C.ps,mo,mo⟩:=⟨⟨n1,n6⟩,hmo,rfl,aa,λi hi=>hz i hi⟩
   have ad:d.drop j=hdB ⟨n,C.kd,C.ps,mo,mo⟩++d.drop (j+1+(lkF C n).length+1+1):=by
    rw[j3];refine zf.mpr ⟨hy,?_⟩;show _=lkF C n++_;refine f.trans ?_
    congr 1
    exact zf.mpr ⟨hu.trans (congrArg some (by show u=((mo:Nat):Int)/256;omega)),zf.mpr ⟨hv.trans (congrArg some (by show v=((mo:Nat):Int)%256;omega)),rfl⟩⟩
   have a9:=hm _ _ hC ad
   have a0:(hdB ⟨n,C.kd,C.ps,mo,mo⟩).length=1+(lkF C n).length+2:=by
    unfold hdB;rw[bY,cB];show (lkF C n).length+1+2=_;omega
   refine Sto.new (mo:=mo) (w:=mo) l a3 a7 n1 n6 ab hmo (cE _) a9 λX H5 hS S5 hn=>⟨rfl,?_⟩;refine k _ _ hC ad (by rw[a0];omega) st X H5 hS ?_ (λb o e n=>S5 _ _ (L b o e n)) λy hy=>L.non h4.me (hn y hy);rw[a0,show j+(1+(lkF C n).length+2)=j+1+(lkF C n).length+1+1 by omega];exact h4.same S5
  .exists st,ds,_,_,rfl,ya,.most D n Z tp C.kd C.ps (.int mo) "int" (SQ _ _ a7) n1 n6 (ab.same SQ) (λF F=>.int _) ?_ λH' B'=>?_
   .show (decide (0<=((mo:Nat):Int)) && decide (((mo:Nat):Int)<=1000))=false;rw[cX (p:=((mo:Nat):Int)<=1000) (),Bool.and_false]
   .exact kE (λC' vt I e=>by have:=I.m;have:=(J e).2.2;omega) _ H' (.inr (.inr (.inl rfl))) λb o e n=>B' _ _ (SQ _ _ (L b o e n)) (yb (L b o e n) l)
 .exists st,ds,_,_,rfl,ya,.looks _ _ (.inr ⟨D,_,_,rfl,SQ _ _ a7,by rw[vi];omega,ac.bs.same SQ,λ⟨z1,z2,z3⟩=>hlk ⟨by rw[vi]at z1;exact z1,by rw[vi]at z2;exact z2,λk g=>?_⟩⟩) λH' S'=>?_
  .rw[List.all_map,List.all_eq_true]at z3;exact z3 k (dN.mpr g)
  .refine kE (λC' vt I e=>hlk ?_) _ H' (.inr (.inl rfl)) λb o e n=>S' _ _ (SQ _ _ (L b o e n));let⟨en,N,_⟩:=J e;have:=I.n;exists by omega,(),λk g=>by rw[(N k g).2];exact I.p k ()
def yp6{x:Str}(h:nmS x=true){c:Nat}(hc:c∈x.cps.toList):ygh c=true:=by unfold nmS at h;simp only[cZ,List.all_eq_true]at h;exact h.2.2 c hc
def yq2{c:Nat}(h:ygh c=true):97<=c/\c<=122:=by
 unfold ygh at h;have h:(!(Builtin.Str.occurrences smS ⟨#[c]⟩ 0 smS.length 1).isEmpty)=true:=h;rw[PySem.StrLaws.found_one]at h;let⟨i,d,e⟩:=List.mem_iff_getElem.mp (of_decide_eq_true h)
 have a:i<26:=by
  have:=ŉ;have e:smS.cps.toList.length=smS.length:=rfl;omega
 have b:=yei i a;rw[<- Array.getElem?_toList,cA d,e]at b;have:=cJ b;omega
def Ğ{c:Nat}(h:97<=c/\c<123):lix c=c-97:=yn6 h.1 ()
def x9{x:Str}(h:nmS x=true):Û x.cps.toList:=λc a=>by have:=yq2 (yp6 h a);omega
theorem ydf:∀{x y:qi Nat},Û x->Û y->(x.map λc=>((lix c:Nat):Int))=(y.map λc=>((lix c:Nat):Int))->x=y
 |[],[],_,_,_=>rfl
 |[],_::_,_,_,e=>nomatch e
 |_::_,[],_,_,e=>nomatch e
 |c::x,d::y,hx,hy,e=>by
  injection e with a e2;have g:=hx c (.head _);have f:=hy d (.head _);have a:((lix c:Nat):Int)=lix d:=a;rw[Ğ g,Ğ f]at a;rw[ydf (λz b=>hx z (.tail _ b)) (λz b=>hy z (.tail _ b)) e2,show c=d by omega]
def ybj{x y:Str}{r s:Ο}(hx:Û x.cps.toList)(hy:Û y.cps.toList)(e:nmB x++r=nmB y++s):x=y/\r=s:=by have e:((x.length:Nat):Int)::((x.cps.toList.map λc=>((lix c:Nat):Int))++r)=((y.length:Nat):Int)::((y.cps.toList.map λc=>((lix c:Nat):Int))++s):=e;injection e with e1 e2;have f:=u7 x;have g:=u7 y;let⟨b,d⟩:=List.append_inj e2 (by rw[bz,bz];omega);have a:=ydf hx hy b;let⟨x⟩:=x;let⟨y⟩:=y;have a:x.toList=y.toList:=a;rw[show x=y from Array.toList_inj.mp a];exists rfl,d
#synth yoz ["self","many"] ["self"] yzh
inductive ymm(K:z0)(a:Ads)(vs:Τ)(H:Hp)(Q:VK)(E:XK):Prop
 |mk(r dr dl:xy)(d:Ο)(j:Nat)(_:vs=[.ref r])(_:RdR a H r dr dl d j)(_:j<=d.length)(_:Byt d)(_:(∀(x:Str)(vt:Ο),Û x.cps.toList->x.length<=255->d.drop j=nmB x++vt->j+(nmB x).length<=d.length->∀H',RdR a H' r dr dl d (j+(nmB x).length)->But r H H'->Q (.str x) H'))(_:((∀(x:Str)(vt:Ο),Û x.cps.toList->d.drop j≠nmB x++vt)->∀H',But r H H'->E (.ref a.A3) none H'))
def ytp:vx P w K mg Γ (CXe P w) 3 a.Lp a.Om ["self"] (ymm K a):=by
 exists T.Iq.F.okE,yoz,hr;let⟨r,W,X,d,j,rfl,h,hj,hd,k,kE⟩:=h;have a6:=h.me;exists 1,1,yg (yu (i:=1) yoz.nd rfl (Or.inl rfl) (xa (pv 0) T.A6 T.Ar.m (ï T) hr.m T.Ar.B .nil yr)) (yd (yt (jg PySem.F.plainAttrs_str PySem.F.slot_str_join PySem.F.type_str_join ylw v7 (pa1 (ydx (js:=[0]) (ys:=["self"]) rfl (uq rfl T.Ax (pa1 (pv 1))) (λC s2 H2 fp pn Ex=>(vj (pv 1) T.A6 T.D5.m (yj0 T) hr.m T.D5.B .nil Ó (pa1 (yc3 rfl T.Cm)))) rfl rfl ⟨rfl,_,rfl⟩ yr (hyc:=(all_cons rfl y7)) (hrel:=(all_cons rfl y7)))))));exists r,W,X,d,j,rfl,h,hj,(λz=>kE (λx vt F e=>?_) H But.refl),λy Z H1 R b1=>?_
 .rw[z,List.drop_length]at e;cases e
 have a7:=hd y (cN Z);obtain⟨n,rfl⟩:∃n:Nat,y=n:=⟨y.toNat,()⟩;have a5:=(cF.mp Z).1;have g:=R.me
 have un:∀{x:Str}{vt:Ο},d.drop j=nmB x++vt->x.cps.toList.length=n/\d.drop (j+1)=(x.cps.toList.map λc=>((lix c:Nat):Int))++vt:=λ{x vt}e=>by
  let⟨e1,e2⟩:=zf.mp e;have e1:(n:Int)=x.length:=cJ (Z.symm.trans e1);exists by have:=u7 x;omega,e2
 ext;exists rfl,?_;ext;exists _,rfl,(),(),λD p=>?_
 have O:D≠r:=λz=>by rw[z,g]at p;cases p
 refine ja (n:=n) (λi G=>∃f:qi Nat,f.length=i/\Û f/\j+1+i<=d.length/\d.drop (j+1)=(f.map λc=>((lix c:Nat):Int))++d.drop (j+1+i)/\RdR a G r W X d (j+1+i)/\G D=some (.lst (f.map λc=>V.str ⟨#[c]⟩))/\But r H1 G) ⟨[],rfl,(λc hc=>nomatch hc),(),rfl,⟨yi (yb g p) g,yi (yb R.dl p) R.dl⟩,ya,λb o e F=>yi (yb e p) e⟩ (λi G hi z=>?_) (λG z=>?_)
 .obtain⟨f,rfl,t,M,q,U,u,Y⟩:=z;have a2:=U.me;ext;exists r,W,X,d,_,_,_,rfl,U,M,hd,.inr (.inr ⟨smS,rfl,by rw[ŉ];decide,rfl⟩),λx v S hv G1 I J=>?_,λno H' b'=>kE (λx vt S e=>?_) H' ((b1.trans Y).trans b');rotate_left
  .obtain⟨e1,e2⟩:=un e;have l:f.length<x.cps.toList.length:=()
   have hc:=S _ (dm l)
   have e3:(d.drop (j+1))[f.length]?=some (((lix x.cps.toList[f.length]:Nat):Int)):=by
    rw[e2,dS (by rw[bz];exact l),cK,cA l];rfl
   rw[List.getElem?_drop]at e3;refine no _ (.str ⟨#[x.cps.toList[f.length]]⟩) e3 ?_;rw[Ğ hc,cK,Array.getElem?_toList,yei _ ()];show some (V.str ⟨#[97+(x.cps.toList[f.length]-97)]⟩)=_;rw[show 97+(x.cps.toList[f.length]-97)=x.cps.toList[f.length] by omega]
  have L:x<26:=by
   have:=(cF.mp hv).1;rw[bz]at this;have e:smS.cps.toList.length=smS.length:=rfl;have:=ŉ;omega
  obtain rfl:V.str ⟨#[97+x]⟩=v:=by
   rw[cK,Array.getElem?_toList,yei _ L]at hv;exact cJ hv
  have a4:=(cF.mp S).1;have N:=J _ _ u O;refine ul N (vw (by rw[bz];omega)) hi ⟨f++[97+x],by rw[bY];rfl,t.app (.one ⟨(),()⟩),(),?_,⟨yi O.symm I.me,yi (yb R.dl p) I.dl⟩,by rw[ya,cM];rfl,λb o e n=>yi (yb e p) (J _ _ (Y b o e n) n)⟩;rw[cM,cH];refine q.trans ?_
  congr 1
  refine zf.mpr ⟨S.trans ?_,rfl⟩;show _=some (((lix (97+x):Nat):Int));rw[Ğ (),show 97+x-97=x by omega]
 let⟨f,a1,t,M,q,U,u,Y⟩:=z;ext;exists D,f,rfl,rfl,SqL.of u,(),?_
 have hl:(⟨f.toArray⟩:Str).length=n:=a1;have hb:(nmB ⟨f.toArray⟩).length=1+n:=by unfold nmB;rw[cB,bz];show f.length+1=_;omega
 refine k ⟨f.toArray⟩ (d.drop (j+1+n)) t (by rw[hl];omega) (zf.mpr ⟨by rw[hl];exact Z,q⟩) (by rw[hb];omega) G ?_ (b1.trans Y);rw[hb,<- Nat.add_assoc];exact U
structure PdN(C:Cf)(P:qi Pd)(q:Pd):Prop where
 nm:okN q.nm
 no:∀u,u∈P->u.nm≠q.nm
 z:P.length<60
 s:Sgs q.tx
 l:q.tx.length<=C.w
 to:ToD P q.bs q.path
noncomputable def bsX(P:qi Pd):qj Str->Nat
 |none=>0
 |some b=>(P.map (·.nm)).idxOf b+1
def yer(P:qi Pd)(x:qj Str):bsN P x=((bsX P x:Nat):Int):=by
 cases x with
 |none=>rfl
 |some b=>show (((P.map (·.nm)).idxOf b:Nat):Int)+1=(((P.map (·.nm)).idxOf b+1:Nat):Int);omega
def yjs{P:qi Pd}(h:ToD P x L):([V.non]++P.map λq=>V.str q.nm)[bsX P x]?=some (baV x):=by
 cases x with
 |none=>rfl
 |some b =>
  let⟨r,a,e,_⟩:=h;have:=(yi2 (ns:=P.map (·.nm)) (b:=b) (cI.mpr ⟨r,a,e⟩)).1;show (P.map λq=>V.str q.nm)[(P.map (·.nm)).idxOf b]?=_;rw[show (P.map λq=>V.str q.nm)=(P.map (·.nm)).map V.str by rw[dD];rfl,cK,this];rfl
def yrb{xs:Τ}{p m:Nat}(h:p<=xs.length):Ĩ xs (some (p:Int)) (some ((p:Int)+(m:Int)))=(xs.drop p).take m:=by
 unfold Ĩ;rw[show (p:Int)+(m:Int)=((p+m:Nat):Int) by omega,HT.sIx_nat,HT.sIx_nat,Nat.min_eq_left h];rcases Nat.le_total (p+m) xs.length with z|z
 .rw[Nat.min_eq_left z,Nat.add_sub_cancel_left]
 .rw[Nat.min_eq_right z,dE (by rw[df];omega),dE (by rw[df];omega)]
def yh7{n:Nat}{kd:Ν}{ps:Κ}{pre bs cs:Ο}(n1:1<=n)(n6:n<=6)(hp:ybx pre)(hts:Sgs ts)(hus:Sgs us)(e:ux n kd ps pre ts++bs=ux n kd ps pre us++cs):ts=us:=by
 have c:∀(x:Ο)(j:Nat),j<(dec x).length->Ch (uh n kd ps pre x j):=λx j Z=>Ĝ n1 n6 hp j;rcases Nat.le_total (ux n kd ps pre us).length (ux n kd ps pre ts).length with h|h
 .refine yiy hts hus (c ts) (c us) ?_;have:=congrArg (List.take (ux n kd ps pre us).length) e;rw[List.take_append_of_le_length h,List.take_left]at this;exact this
 .refine(yiy hus hts (c us) (c ts) ?_).symm;have:=congrArg (List.take (ux n kd ps pre ts).length) e.symm;rw[List.take_append_of_le_length h,List.take_left]at this;exact this
def ľ{x:Str}(h:Û x.cps.toList):PyData.strOk x=true:=by unfold PyData.strOk;rw[<- Array.all_toList,List.all_eq_true];intro c a;have:=h c a;exact cT ()
def yiq{P:qi Pd}{y:qj Str}(h:ToD P x L)(h':ToD P y M)(e:bsX P x=bsX P y):x=y:=by have a:=yjs h;rw[e,yjs h']at a;cases x<;>cases y<;>cases a<;>rfl
def yww{C:Cf}{P:qi Pd}(n1:1<=C.n)(n6:C.n<=6)(w:PdW P){q q':Pd}(h:PdN C P q)(h':PdN C P q'){x:Ο}(e:pdB C P q++x=pdB C P q'++y):q=q'/\x=y:=by
 unfold pdB at e;rw[cH,cH,cH,cH]at e;let⟨k,e⟩:=ybj (x9 h.nm.1) (x9 h'.nm.1) e;rw[yer,yer]at e;injection e with e2 e;have i:=yiq h.to h'.to ()
 have m:q.path=q'.path:=by
  have:=h.to;rw[i]at this;exact this.uniq w.nd h'.to
 let⟨l,j,a,g⟩:=q;let⟨f,d,b,c⟩:=q';obtain rfl:l=f:=k;obtain rfl:j=d:=i;obtain rfl:a=b:=m;have e:ux C.n C.kd C.ps (jq (a.map (·.2))) g++x=ux C.n C.kd C.ps (jq (a.map (·.2))) c++y:=e;obtain rfl:g=c:=yh7 n1 n6 (u6 _) h.s h'.s e;exists rfl,List.append_cancel_left e
def ycb{A B:Ο}{m:Nat}(h:A.length<=m):∃B',(A++B).take m=A++B':=⟨B.take (m-A.length),by rw[List.take_append,dE h]⟩
#synth ye5 ["self","store","name","base","ahead"] ["self","store"] vb3
inductive ymq(K:z0)(a:Ads)(vs:Τ)(H:Hp)(Q:VK)(E:XK):Prop
 |mk(r dr dl:xy)(d:Ο)(j:Nat)(st:xy)(C:Cf)(P:qi Pd)(X:Sx)(_:vs=[.ref r,.ref st])(_:RdR a H r dr dl d j)(_:j<=d.length)(_:Sto K a H st C P X)(_:¬X.f r)(_:¬X.f dl)(_:Byt d)(_:C.w=C.mo)(_:(∀q vt,PdN C P q->d.drop j=pdB C P q++vt->j+(pdB C P q).length<=d.length->∀Y H',Sto K a H' st C (P++[q]) Y->RdR a H' r dr dl d (j+(pdB C P q).length)->(∀b o,H b=some o->¬X.f b->b≠r->H' b=some o)->(∀y,Y.f y->X.f y\/H y=none)->Q .non H'))(_:((∀q vt,PdN C P q->d.drop j≠pdB C P q++vt)->∀c H',Rfx a c->(∀b o,H b=some o->¬X.f b->b≠r->H' b=some o)->E (.ref c) none H'))
def yw2:vx P w K mg Γ (CXe P w) 14 a.Lq a.On ["self","store"] (ymq K a):=by
 exists T.Ir.F.okE,ye5,hr;let⟨r,dr,dl,d,j,st,C,P,X,rfl,h,hj,hS,nr,nd,hd,hw,k,kE⟩:=h;have ac:=h.me;have Z:=hS.cf;have av:=hS.z;exists 2,3,yg (yu (i:=2) ye5.nd rfl (Or.inl rfl) (xa (pv 0) T.A6 T.Iq.m (ytp T) hr.m T.Iq.B .nil yr)) (yg (yu (i:=3) ye5.nd rfl (Or.inl rfl) (vj (pv 0) T.A6 T.D5.m (yj0 T) hr.m T.D5.B .nil yr (pa1 (yn vh (vd (pa1 jm)) (wg (pv 1) T.A2 T.D3.m (yju T) hr.m T.D3.B .nil wo))))) (yg (yu (i:=4) ye5.nd rfl (Or.inl rfl) (yz vn (yo (pv 0) rfl) (vg (yo (pv 0) rfl)) (vg (yn vv (yo (pv 0) rfl) (vq rfl T.Ci))))) (yd (ve (pv 0) (yn vv (yo (pv 0) rfl) (vj (pv 1) T.A2 T.Ii.m (yvw T) hr.m T.Ii.B .nil yr (pac (pv 2) (pac (pv 4) (pa1 (pv 3)))))) rfl))));exists r,dr,dl,d,j,rfl,h,hj,hd,λx vt hx ar N a9 H1 h1 b1=>?_,λno H' b'=>kE (λq vt p e=>?_) _ H' (.inl rfl) λb o e F n=>b' b o e n;rotate_left
 .unfold pdB at e;rw[cH,cH]at e;exact no _ _ (x9 p.nm.1) e
 have un:∀{q:Pd}{vt:Ο},PdN C P q->d.drop j=pdB C P q++vt->q.nm=x/\d.drop (j+(nmB x).length)=((bsX P q.bs:Nat):Int)::(q.by C++vt):=λ{q aj}p e=>by
  unfold pdB at e;rw[cH,cH]at e;let⟨e1,e2⟩:=ybj hx (x9 p.nm.1) (N.symm.trans e);rw[<- yer];exists e1.symm,(ö N).trans e2
 have ao:=h1.me;have U:=hS.but (WSh.mu ac rfl) nr b1;let⟨ds,vl,vm,vp,vc,O⟩:=U.ins;ext;exists by walk_at "len",λu hu0=>?_
 exists hu0,H2,S2,hu2;have al:=S2 _ _ O;ext;refine(U.same S2).names λl H3 au af S3=>?_;ext;exists u,l,_,_,rfl,rfl,S3 _ _ hu2,af,wv (by rw[bz];show 1+_<=_;omega),λc hc0=>?_;exists hc0,H4,S4,hc4;have M:=S2.trans (S3.trans S4);have ag:=U.same M;have h4:=h1.same M;have b4:But r H H4:=λb o e n=>M _ _ (b1 b o e n);ext;exists r,dr,dl,d,_,_,_,rfl,h4,a9,hd,.inl ⟨c,rfl,hc4⟩,λix v W S H5 h5 b5=>?_,λno H' b'=>kE (λq vt p e=>?_) _ H' (.inl rfl) λb o e F n=>b' b o (b4 b o e n) n;rotate_left
 .obtain⟨_,e2⟩:=un p e;exact no _ _ (zf.mp e2).1 (yjs p.to)
 have a5:=hS.pw
 obtain⟨D,L,rfl,I,a8⟩:∃D L,v=baV D/\ToD P D L/\bsX P D=ix:=by
  cases ix with
  |zero =>
   cases S;exists none,[],rfl,rfl,rfl
  |succ i =>
   have S:(P.map λq=>V.str q.nm)[i]?=some v:=S;rw[cK]at S
   cases e:P[i]? with
   |none=>rw[e]at S;cases S
   |some q =>
    rw[e]at S;cases S;let⟨hi,eq⟩:=cF.mp e;exists some q.nm,_,rfl,⟨q,cN e,rfl,rfl⟩,?_;show (P.map (·.nm)).idxOf q.nm+1=i+1;have aa:i<(P.map (·.nm)).length:=by rw[bz];exact hi
    have:=a5.nd.idxOf_getElem i aa;rw[dL,eq]at this;rw[this]
 have as:=(cF.mp W).1;have an:=h5.me;have a3:=ag.but (WSh.mu h4.me rfl) nr b5;have a1:=b5 _ _ (M _ _ O) λz=>nr (by rw[<- z];exact hS.me);ext;refine zy (SqL.of h5.dl) λah hah0=>?_;have ab:j+(nmB x).length+1<=(d.map V.int).length:=by rw[bz];omega
 rw[show ((j+(nmB x).length+1:Nat):Int)+12000=((j+(nmB x).length+1:Nat):Int)+((12000:Nat):Int)from rfl,yrb ab,<- List.map_drop,<- dY];exists hah0,H6,S6,hah6;have h6:=h5.same S6;have G:=h6.me;have J:=a3.same S6;have am:=S6 _ _ a1
 have ai:¬X.f ah:=λw=>by
  let⟨o,e⟩:=a3.live _ w;rw[hah0]at e;cases e
 have lv:∀{b:xy}{o:HO},H b=some o->b≠r->H6 b=some o:=λ{b o}e n=>S6 _ _ (b5 _ _ (b4 _ _ e n) n);ext;exists st,ah,C,P,X,x,D,L,_,rfl,J,ľ hx,(),hah6,ai,(λb hb=>hd b (List.mem_of_mem_drop (dF hb))),by rw[cL];omega,(λts bs g=>by rw[hw];exact g.l),I,λts bs g Y H7 a6 gx=>?_,λno c H7 hc fr=>kE (λq vt p e=>?_) c H7 (.inr hc) λb o e nf n=>fr b o (lv e n) nf
 rotate_left
 .obtain⟨e1,e2⟩:=un p e;let⟨e3,e4⟩:=zf.mp e2;have e3:(ix:Int)=bsX P q.bs:=cJ (W.symm.trans e3);have e5:q.bs=D:=yiq p.to I ()
  have e6:q.path=L:=by
   have:=p.to;rw[e5]at this;exact this.uniq a5.nd I
  have ho:=Ÿ (n:=C.n) (kd:=C.kd) (ps:=C.ps) (pre:=jq (q.path.map (·.2))) (ts:=q.tx) Z.1 Z.2.1 (u6 _) (by have:=p.l;omega);have ho:(q.by C).length<=12000:=by have:(q.by C).length<=5500:=ho;omega
  let⟨B',eB⟩:=ycb (B:=vt) ho;refine no q.tx B' ⟨by rw[<- e1];exact p.nm.1,by rw[<- e1];exact p.no,p.z,p.s,by rw[<- hw];exact p.l,?_⟩;rw[e4,eB,<- e6];rfl
 have p:PdN C P ⟨x,D,L,ts⟩:=⟨⟨g.nm,ľ hx⟩,g.no,g.z,g.s,by rw[hw];exact g.l,I⟩
 have a4:d.drop (j+(nmB x).length+1)=ux C.n C.kd C.ps (jq (L.map (·.2))) ts++(bs++(d.drop (j+(nmB x).length+1)).drop 12000):=by
  rw[<- cH,<- g.e,dX]
 have a0:pdB C P ⟨x,D,L,ts⟩=nmB x++(((bsX P D:Nat):Int)::ux C.n C.kd C.ps (jq (L.map (·.2))) ts):=by
  unfold pdB;rw[yer,cH];rfl
 have ae:d.drop j=pdB C P ⟨x,D,L,ts⟩++(bs++(d.drop (j+(nmB x).length+1)).drop 12000):=by
  rw[a0,N,cH]
  congr 1
  rw[<- ö N];exact zf.mpr ⟨by rw[a8];exact W,a4⟩
 have aq:(ux C.n C.kd C.ps (jq (L.map (·.2))) ts).length<=d.length-(j+(nmB x).length+1):=by
  have:=congrArg List.length a4;rw[df,bY]at this;omega
 have a2:(pdB C P ⟨x,D,L,ts⟩).length=(nmB x).length+1+(ux C.n C.kd C.ps (jq (L.map (·.2))) ts).length:=by rw[a0,bY,cB];omega
 have R:=gx.g.fr _ _ G λw=>nr (J.wf _ w);have t:=gx.g.fr _ _ h6.dl λw=>nd (J.wf _ w);have ad:¬Y.f r:=λw=>(gx.f r w).elim nr λe=>by rw[G]at e;cases e
 have a7:dl≠r:=λz=>by rw[z,R]at t;cases t
 ext;refine k _ _ p ae (by rw[a2];omega) Y _ (a6.but (WSh.mu R rfl) ad But.upd) ⟨?_,yi a7 t⟩ (λb o e nf n=>yi n (gx.g.fr _ _ (lv e n) λw=>nf (J.wf _ w))) λy hy=>(gx.f y hy).imp id λe=>?_
 .rw[ya,a2,show j+((nmB x).length+1+(ux C.n C.kd C.ps (jq (L.map (·.2))) ts).length)=j+(nmB x).length+1+(ux C.n C.kd C.ps (jq (L.map (·.2))) ts).length by omega];rfl
 .cases e0:H y with
  |none=>rfl
  |some o =>
   by_cases z:y=r
   .rw[z,G]at e;cases e
   .rw[lv e0 z]at e;cases e
def Stk(P:qi Pd):Prop:=∀(i:Nat)(r:Pd)(b:Str),P[i]?=some r->r.bs=some b->∃j s,j<i/\P[j]?=some s/\s.nm=b
structure zz(C:Cf)(P:qi Pd):Prop where
 c:CfG C
 w:PdW P
 z:P.length<=60
 nm:∀q,q∈P->okN q.nm
 s:∀q,q∈P->Sgs q.tx/\q.tx.length<=C.w
 k:Stk P
def Sto.shok{H:Hp}{C:Cf}{P:qi Pd}{X:Sx}(h:Sto K a H st C P X)(k:Stk P):zz C P:=by have b:=h.cf;exists⟨⟨b.1,b.2.1⟩,⟨b.2.2.1,b.2.2.2.1,b.2.2.2.2⟩,λi g=>?_⟩,h.pw,h.z,h.nm,λq e=>⟨(h.sz q e).1,(h.sz q e).2.1⟩,k;let⟨o,v,d,c,n,p,m,r,t,u,j,L,l,U,s,rfl,rfl⟩:=h;let⟨_,_,_,_,f⟩:=s.row i g;exact f
def zz.nx{C:Cf}{P:qi Pd}(h:zz C P)(hi:i<P.length):PdN C (P.take i) P[i]/\pdB C (P.take i) P[i]=pdB C P P[i]:=by
 have d:=dm hi;have a:=h.w.wf _ d
 have c:∀b,P[i].bs=some b->∃s,s∈P.take i/\s.nm=b:=λb e=>by
  let⟨j,s,g,o,p⟩:=h.k i P[i] b (cA hi) e;exists s,cN (i:=j) (by rw[List.getElem?_take_of_lt g];exact o),p
 exists⟨h.nm _ d,λu t e=>?_,by rw[cL];have:=h.z;omega,(h.s _ d).1,(h.s _ d).2,?_⟩,?_
 .obtain⟨j,g,rfl⟩:=List.mem_iff_getElem.mp t;rw[cL]at g;rw[List.getElem_take]at e;have:=ì (q:=P[j]) (r:=P[i]) h.w.nd (dm _) d e;have:=List.pairwise_iff_getElem.mp h.w.nd j i (by rw[bz];omega) (by rw[bz];exact hi) ();rw[dL,dL]at this;exact this e
 .cases eb:P[i].bs with
  |none=>rw[eb]at a;exact a
  |some b =>
   rw[eb]at a;let⟨r,v,m,n⟩:=a;let⟨s,f,l⟩:=c b eb;obtain rfl:=ì h.w.nd v (dF f) (m.trans l.symm);exact⟨r,f,m,n⟩
 .unfold pdB
  congr 3
  cases eb:P[i].bs with
  |none=>rfl
  |some b =>
   let⟨s,f,l⟩:=c b eb;show (((((P.take i).map (·.nm)).idxOf b:Nat):Int)+1)=(((P.map (·.nm)).idxOf b:Nat):Int)+1
   have e:(P.map (·.nm)).idxOf b=((P.take i).map (·.nm)).idxOf b:=by
    conv=>lhs;rw[<- dX i P]
    rw[cM,List.idxOf_append,if_pos (cI.mpr ⟨s,f,l⟩)]
   rw[e]
def ykd{P:qi Pd}(hi:i<P.length)(f:Pd->qi Int):(P.map f).flatten=((P.take i).map f).flatten++(f P[i]++((P.drop (i+1)).map f).flatten):=by
 conv=>lhs;rw[<- dX i P,List.drop_eq_getElem_cons hi]
 rw[cM,List.flatten_append,dC,List.flatten_cons]
def ToD.up{P R:qi Pd}(h:ToD P x L)(s:∀q,q∈P->q∈R):ToD R x L:=by
 cases x with
 |none=>exact h
 |some b =>
  let⟨r,a,e⟩:=h;exists r,s r a,e
def yc6{P R:qi Pd}(h:ToD P x L):bsN (P++R) x=bsN P x:=by
 cases x with
 |none=>rfl
 |some b =>
  let⟨r,a,e,_⟩:=h;show (((P++R).map (·.nm)).idxOf b:Nat)+(1:Int)=(((P.map (·.nm)).idxOf b:Nat):Int)+1;rw[cM,List.idxOf_append,if_pos (cI.mpr ⟨r,a,e⟩)]
def yyo{C:Cf}{P:qi Pd}{q:Pd}(w:PdW P)(h:PdN C P q):((P++[q]).map (pdB C (P++[q]))).flatten=(P.map (pdB C P)).flatten++pdB C P q:=by
 rw[cM,List.flatten_append,List.map_singleton,List.flatten_singleton]
 congr 1
 .congr 1
  refine List.map_congr_left λp a=>?_;unfold pdB;rw[yc6 (w.wf p a)]
 .unfold pdB;rw[yc6 h.to]
def zz.app{C:Cf}{P:qi Pd}{q:Pd}(h:zz C P)(g:PdN C P q):zz C (P++[q]):=by
 have u:∀p,p∈P->p∈P++[q]:=λp d=>dA _ d;have a:∀{F:Pd->Prop},(∀p,p∈P->F p)->F q->∀p,p∈P++[q]->F p:=λE H p d=>(db.mp d).elim (E p) λz=>by rw[cR.mp z];exact H
 exists h.c,⟨?_,a (λp d=>(h.w.wf p d).up u) (g.to.up u)⟩,by rw[bY,dI];have:=g.z;omega,a h.nm g.nm,a h.s ⟨g.s,g.l⟩,λi r b f t=>?_
 .rw[cM,List.nodup_append];exists h.w.nd,by simp,λx G y A=>?_
  let⟨p,d,rfl⟩:=cI.mp G;rw[List.map_singleton,cR]at A;rw[A];exact g.no p d
 .rcases Nat.lt_or_ge i P.length with z|z
  .rw[dS z]at f;let⟨j,s,m,n,o⟩:=h.k i r b f t;exists j,s,m,by rw[dS ()];exact n,o
  .rw[dJ z]at f;let⟨v,e⟩:=cF.mp f;have v:i-P.length<1:=v;have D:i-P.length=0:=()
   rw[D]at f;cases f;have:=g.to;rw[t]at this;let⟨s,B,n,_⟩:=this;let⟨j,m,o⟩:=List.mem_iff_getElem.mp B;exists j,s,(),by rw[dS m,cA m,o],n
def zz.pwt{C:Cf}{P:qi Pd}(h:zz C P)(i:Nat):PdW (P.take i):=by
 exists ?_,λq c=>?_
 .rw[dY];exact h.w.nd.sublist (List.take_sublist _ _)
 .obtain⟨j,b,e⟩:=List.mem_iff_getElem.mp c;rw[cL]at b;rw[List.getElem_take]at e;have:=(h.nx (i:=j) ()).1.to;rw[e]at this
  exact this.up λp a=>by
   rw[show P.take j=(P.take i).take j by rw[List.take_take,Nat.min_eq_left ()]]at a;exact dF a
theorem ő{C:Cf}{P R:qi Pd}(h:zz C P)(g:zz C R):∀{i:Nat}{x y:Ο},i<=P.length->i<=R.length->((P.take i).map (pdB C P)).flatten++x=((R.take i).map (pdB C R)).flatten++y->P.take i=R.take i/\x=y
 |0,_,_,_,_,e=>⟨rfl,e⟩
 |i+1,x,y,h1,h2,e=>by
  rw[ź C (cA (l:=P) (i:=i) h1),ź C (cA (l:=R) (i:=i) h2),cH,cH]at e;let⟨b,e⟩:=ő h g (Nat.le_of_succ_le h1) (Nat.le_of_succ_le h2) e;let⟨j,f⟩:=h.nx (i:=i) h1;let⟨a,m⟩:=g.nx (i:=i) h2;rw[<- f,<- m]at e;rw[<- b]at e a;let⟨d,k⟩:=yww h.c.n.1 h.c.n.2 (h.pwt i) j a e;exists ?_,k;rw[dH h1,dH h2,b,d]
#synth yjg ["self","store","place"] ["self"] va5
inductive yhg(K:z0)(a:Ads)(vs:Τ)(H:Hp)(Q:VK)(E:XK):Prop
 |mk(r dr dl:xy)(d:Ο)(_:vs=[.ref r])(_:RdR a H r dr dl d 0)(_:Byt d)(_:(∀C vt,CfN C->d=hdB C++vt->C.mo<=200))(_:(∀C P,CfN C->zz C P->d=shB C P->∀st X H',Sto K a H' st C P X->But r H H'->(∀y,X.f y->H y=none)->Q (.ref st) H'))(_:((∀C P,CfN C->zz C P->d≠shB C P)->∀c H',Rfx a c->But r H H'->E (.ref c) none H'))
def yv5:vx P w K mg Γ (CXe P w) 15 a.Lr a.Oo ["self"] (yhg K a):=by
 exists T.Is.F.okE,yjg,hr;let⟨r,dr,dl,d,rfl,h,hd,hm,k,kE⟩:=h;have M:=h.me;refine yf (yu (i:=1) yjg.nd rfl (Or.inl rfl) (xa (pv 0) T.A6 T.Ip.m (yvl T) hr.m T.Ip.B .nil yr)) ?_;refine yf (jx PassesOwn.leaving rfl (uq rfl T.Ax (pa1 (xa (pv 0) T.A6 T.Ar.m (ï T) hr.m T.Ar.B .nil yr))) (wj (i:=2) yjg.nd rfl (Or.inl rfl)) (yd (yy (vj (pv 0) T.A6 T.Ir.m (yw2 T) hr.m T.Ir.B .nil yr (pa1 (pv 1)))))) ?_;refine yf (wa (yw ó (yo (pv 0) rfl) (pcB yq T.A9 (pa1 (yo (pv 0) rfl))) (y9 _)) (yd (wn rfl T.As T.B6 (pa1 v7))) y8) ?_;exists 1,2,yd (yt (pv 1));exists r,dr,dl,d,0,rfl,h,dg _,hd,hm,λC vt v t a1 st X H1 a8 h1 b1 n1=>?_,λno=>kE λC P v F e=>no C _ v e;have t:d=hdB C++vt:=t;rw[Nat.zero_add]at a1 h1;have j:d.drop (hdB C).length=vt:=by rw[t,List.drop_left]
 have a4:CfG C:=⟨v.n,⟨v.m,Nat.le_of_eq v.w,by rw[v.w];exact hm C _ v t⟩,v.p⟩
 have un:∀{L:Cf}{J:qi Pd},CfN L->d=shB L J->L=C/\vt=((J.length:Nat):Int)::(J.map (pdB C J)).flatten:=λ{L J}g e=>by
  unfold shB at e;let⟨e1,I⟩:=ō g v (e.symm.trans t);subst e1;exists rfl,I.symm
 have a2:=h1.me;ext;exists r,dr,dl,d,_,rfl,h1,a1,(λz=>kE (λL J g F e=>?_) _ _ (.inl rfl) b1),λy hy H2 h2 b2=>?_
 .obtain⟨_,I⟩:=un g e;rw[z,List.drop_length]at j;rw[<- j]at I;cases I
 have ac:=hd y (cN hy);obtain⟨n,rfl⟩:∃n:Nat,y=n:=⟨y.toNat,()⟩;have a7:=(cF.mp hy).1;have Z:vt=(n:Int)::d.drop ((hdB C).length+1):=by rw[<- j];exact zf.mpr ⟨hy,rfl⟩
 have nr:¬X.f r:=λw=>by rw[n1 r w]at M;cases M
 have S:=a8.but (WSh.mu a2 rfl) nr b2;ext
 exists _,rfl,(),(),ĕ (n:=((n:Nat):Int).toNat) (λi σ2 G=>∃P X v2,P.length=i/\σ2=[some (.ref r),some (.ref st),v2]/\Sto K a G st C P X/\zz C P/\d.drop ((hdB C).length+1)=(P.map (pdB C P)).flatten++d.drop ((hdB C).length+1+((P.map (pdB C P)).flatten).length)/\(hdB C).length+1+((P.map (pdB C P)).flatten).length<=d.length/\RdR a G r dr dl d ((hdB C).length+1+((P.map (pdB C P)).flatten).length)/\But r H G/\∀y,X.f y->H y=none) ⟨[],X,_,rfl,rfl,S,⟨a4,⟨List.nodup_nil,λq N=>nomatch N⟩,dg _,(λq N=>nomatch N),(λq N=>nomatch N),λi r b e=>nomatch e⟩,rfl,a7,h2,b1.trans b2,n1⟩ ?_ ?_
 .rintro i σ2 G hi ⟨P,X,v2,rfl,rfl,hS,u,D,a0,hG,bG,R⟩;have hi:P.length<n:=()
  have O:=hG.me;ext;exists r,dr,dl,d,_,st,C,P,X,rfl,hG,a0,hS,(λw=>by rw[R r w]at M;cases M),(λw=>by have e:=h.dl;rw[R dl w]at e;cases e),hd,v.w,λq a6 N e ab Y G2 S a9 fr nY=>?_,λno c H' hc fr=>kE (λL J g l e=>?_) c H' hc λb o e n=>fr b o (bG b o e n) (λw=>by rw[R b w]at e;cases e) n
  .ext;have W:=yyo u.w N;exists P++[q],Y,_,by rw[bY];rfl,rfl,S,u.app N,?_,?_,?_,λb o e n=>fr b o (bG b o e n) (λw=>by rw[R b w]at e;cases e) n,λy hy=>(nY y hy).elim (R y) λe=>bG.non O e
   .rw[W,bY,<- Nat.add_assoc,ö e,cH,<- e];exact D
   .rw[W,bY];omega
   .rw[W,bY,<- Nat.add_assoc];exact a9
  .obtain⟨rfl,I⟩:=un g e;rw[Z]at I;injection I with e3 e4;have U:P.length<J.length:=()
   rw[D,ykd U]at e4;let⟨e5,e6⟩:=ő (i:=P.length) u l (cE _) (eE U) (by rw[dn];exact e4);rw[dn]at e5;let⟨f1,f2⟩:=l.nx U;rw[<- e5]at f1 f2;exact no _ _ f1 (by rw[e6,f2])
 rintro σ2 G ⟨P,X,v2,a3,rfl,hS,u,D,a0,hG,bG,R⟩;have a3:P.length=n:=()
 have O:=hG.me;ext;refine uc (SqL.of hG.dl) ?_;rw[bz];ext;refine xz (λz=>?_) (λz=>?_)
 .ext;exists by walk_at "len",kE (λL J g l e=>?_) _ _ (.inl rfl) bG
  let⟨rfl,I⟩:=un g e;rw[Z]at I;injection I with e3 e4;have hl:P.length=J.length:=()
  rw[D]at e4;let⟨e5,e6⟩:=ő (i:=P.length) (x:=d.drop ((hdB L).length+1+((P.map (pdB L P)).flatten).length)) (y:=[]) u l (cE _) (Nat.le_of_eq hl) (by rw[dn,hl,dn];exact e4.trans (dW _).symm);have:=congrArg List.length e6;rw[df,cQ]at this;omega
 ext;refine k C P v u ?_ st X G hS bG R;unfold shB;rw[t]
 congr 1
 rw[a3,Z]
 congr 1
 refine D.trans ?_;rw[List.drop_eq_nil_of_le (),dW]
#synth yow ["data","e"] ["data"] vbo
inductive ya1(K:z0)(a:Ads)(vs:Τ)(H:Hp)(Q:VK)(E:XK):Prop
 |mk(x:V)(_:vs=[x])(_:((∃n,xu K H x (.type n)/\Bad K H x n 1000000/\∀H',yx H H'->E (.ref a.A3) none H')\/∃(l:xy)(d:Ο),x=.ref l/\H l=some (.lst (d.map V.int))/\Byt d/\d.length<=100000/\(∀C vt,CfN C->d=hdB C++vt->C.mo<=200)/\(∀C P,CfN C->zz C P->d=shB C P->∀st X H',Sto K a H' st C P X->yx H H'->(∀y,X.f y->H y=none)->Q (.ref st) H')/\((∀C P,CfN C->zz C P->d≠shB C P)->∀dd H',yx H H'->E (.ref a.A3) dd H')))
def yv4:vx P w K mg Γ (CXe P w) 16 a.Ls a.Op ["data"] (ya1 K a):=by
 exists T.Po.F.okE,yow,Z;let⟨x,rfl,h⟩:=h;exists 1,1,yg (wa (uw (zq (ug (ysp T) Z.m T.Je (pac (pv 0) (pa1 (vq rfl T.E9)))))) (yd (wn rfl T.As T.B6 (pa1 v7))) y8) (yd (ypz (λU Ex=>(yd (yt (xa (ę T.J9 (ywz T) Z.m rfl T.J0 T.Pn.B .nil wo (pa1 (pcT (r:=yix K) wb T.Ap (pa1 (pv 0))))) T.A6 T.Is.m (yv5 T) Z.m T.Is.B .nil Ó)))) ⟨rfl,rfl⟩ (yp3 (i:=1) (cs:=[a.Bv,a.Ae,a.Aa,a.Aj,a.B8,a.Bq]) (λU x=>zx (je (w8 rfl T.Ji) (je (w8 rfl T.D8) (je (w8 rfl T.D9) (je (w8 rfl T.E4) (je (w8 rfl T.Ja) (je (w8 rfl T.Jj) u8 (jc rfl)) (jc rfl)) (jc rfl)) (jc rfl)) (jc rfl)) (jc rfl))) (λσ H Q h=>⟨by show 6<=sizeLine;decide,h⟩) ⟨rfl,rfl⟩ yow.nd rfl rfl (λU x=>(pv 1)) rfl T.As T.B6 T.Bp (λU x=>(pa1 v7)) yr (yr4 yr))));rcases h with⟨n,ty,hb,k⟩|⟨l,d,rfl,hl,hd,hz,hm,k,kE⟩
 .exists x,n,1000000,rfl,ty,.inl ⟨hb,λH1 O=>?_⟩;ext;exists by walk_at "len",k _ O
 have hg:ytc K H (.ref l) (d.map V.int) 1000000:=⟨l,rfl,hl,ã _,by rw[bz];exact hz,by rw[ycv hd,Bool.and_true,bz,cT ()]⟩;exists .ref l,"list",1000000,rfl,.lst hl,.inr ⟨_,hg,λH1 O=>?_⟩;ext;refine ytn ?_;ext;exists l,_,rfl,.inl (SqL.of (O _ _ hl)),λdl hdl0=>?_;exists hdl0,H2,S2,hdl2;ext;intro r M q L a2;have SQ:yx H2 (upd (upd H2 M (.own r)) r (.ins a.A4 M [])):=λb o e=>by rw[yp (yb e q),yp (yb e L)];exact e
 exists r,M,dl,d,rfl,ya,SQ _ _ hdl2,λH3 h3 b3=>⟨rfl,?_⟩;have a1:=h3.me;have z:=O.trans S2;have S3:yx H2 H3:=λb o e=>b3 _ _ (SQ _ _ e) (yb e q);have I:=z.trans S3;have u:∀{v:Hp},But r H3 v->yx H v:=λG b o e=>G _ _ (I _ _ e) (yb (z _ _ e) q);ext;exists r,M,dl,d,rfl,h3,hd,hm,λC P hC a0 e st X v hS G n4=>?_,λno c v S G=>?_
 .exact k C P hC a0 e st X v hS (u G) λy hy=>I.free (n4 y hy)
 have N:=u G;rcases S with rfl|S
 .refine yyy (λD j=>?_) λp Y=>vc9 (kE no none _ λb o e=>yi (yb (N _ _ e) Y) (N _ _ e));simp only[cS,List.not_mem_nil,or_false]at j;rcases j with rfl|rfl|rfl|rfl|rfl|rfl
  .exact T.Dl
  .exact T.Cb
  .exact T.Cc
  .exact T.Cl
  .exact T.Ct
  .exact T.Dm
 .have J:∀{c},XMk K c->∀D∈[a.Bv,a.Ae,a.Aa,a.Aj,a.B8,a.Bq],∃b,W.exmOne K (.ref c) (.ref D)=some b/\(c=D->b=true):=λ{c}t D j=>by
   simp only[cS,List.not_mem_nil,or_false]at j;rcases j with rfl|rfl|rfl|rfl|rfl|rfl
   .exact å T.R3 t T.Jk
   .exact å T.F6 t T.Da
   .exact å T.F7 t T.Db
   .exact å T.Fx t T.E5
   .exact å T.Jb t T.Fm
   .exact å T.R4 t T.Jl
  have g:c∈[a.Bv,a.Ae,a.Aa,a.Aj,a.B8,a.Bq]/\XMk K c/\XCls K c:=by
   rcases S with rfl|rfl|rfl|rfl|rfl|rfl
   .exists by simp,T.Jk,T.R3
   .exists by simp,T.Da,T.F6
   .exists by simp,T.Db,T.F7
   .exists by simp,T.E5,T.Fx
   .exists by simp,T.Fm,T.Jb
   .exists by simp,T.Jl,T.R4
  refine vc4 (λD j=>let ⟨b,e,_⟩:=J g.2.1 D j;⟨b,e⟩) ⟨c,g.1,let ⟨b,e,f⟩:=J g.2.1 c g.1;by rw[e,f rfl]⟩ g.2.2 λx p hx Y ne=>?_;ext;exists by walk_at "len",kE no _ _ λb o e=>yi (yb (N _ _ e) Y) (N _ _ e)
#synth yj1 ["_law_script","_law_k","_law_cell"] ["_law_script","_law_k"] yzr
inductive yuc(K:z0)(vs:Τ)(H:Hp)(Q:VK)(E':XK):Prop
 |mk(l:xy)(ns:Ο)(j:Nat)(_:vs=[.ref l,.int j])(_:SqL K H l (ns.map V.int))(_:j<=1000)(_:∀n:Int,0<=n->n<2147483647->Q (.int n) H)
def ñ:vx P w K mg Γ CX0 1 a.Lt a.Oq ["_law_script","_law_k"] (yuc K):=by
 exists T.C4.F.ok,yj1,u;let⟨l,d,j,rfl,f,q,k⟩:=h;exists 2,1,yg (yu (i:=2) yj1.nd rfl (Or.inl rfl) yc) (yg (ρ (wa (yw ó (pv 1) (pcB yq T.A9 (pa1 (pv 0))) (y9 _)) (yd (yu (i:=2) yj1.nd rfl (Or.inl rfl) (yn w5 (xk wl (pv 0) (pv 1) (λZ Z=>rfl)) yc))) y8)) (yd (yt (yn w5 (yn wz (yn vv (yn vv (yn vv (yn wz (pv 2) (pv 2)) (pv 2)) (yn wz (yn wz yc (pv 1)) (pv 1))) yc) yc) yc))));refine ym1 (λσ' G=>H=G/\∃c:Int,σ'=[some (.ref l),some (.int j),some (.int c)]/\0<=c/\c<2147483629) ?_ ?_
 .ext;refine uc f ?_;rw[bz];ext;refine xz (λn=>?_) (λn=>?_)
  .have b:j<d.length:=()
   ext;refine zb (v:=V.int d[j]) f (xf (by rw[cK,cA b];rfl)) ?_;ext;exists rfl,_,rfl,ew _ ∅,ee _ ∅
  .ext;exists rfl,0,rfl,∅,∅
 .rintro σ' G ⟨rfl,c,rfl,o,p⟩;have r:(0:Int)<=(j:Int)/\(j:Int)<=1000:=()
  have t:(0:Int)<=5*(j:Int)/\5*(j:Int)<=5000:=()
  ext;exact k _ (ew _ ∅) (ee _ ∅)
noncomputable def nmR(c:Nat)(k:Nat):Str:=⟨(List.replicate k c).toArray⟩
def ywb{c k:Nat}{z:Str}(h:z.cps.toList=(List.replicate k (⟨#[c]⟩:Str).cps.toList).flatten):z=nmR c k:=by
 have e:(List.replicate k [c]).flatten=List.replicate k c:=by
  clear h
  induction k with
  |zero=>rfl
  |succ k ih=>rw[dP,List.flatten_cons,dP,List.singleton_append,ih]
 have h:z.cps.toList=(List.replicate k [c]).flatten:=h;rw[e]at h
 cases z with|mk cps =>
 unfold nmR
 congr 1
 exact Array.toList_inj.mp (by simpa using h)
def yrd{c k:Nat}(h:97<=c/\c<123):Û (nmR c k).cps.toList:=λd a=>by
 have e:d∈List.replicate k c:=a;rw[List.eq_of_mem_replicate e];exact h
def OkL(x:Str):Prop:=okN x/\Û x.cps.toList
def ytu{x:Str}(h:Û x.cps.toList)(h1:1<=x.cps.toList.length)(h8:x.cps.toList.length<=8):OkL x:=⟨yz3 h h1 h8,h⟩
#synth í ["_law_cell","_law_small","_law_odd_here","_law_stem","_law_k","_law_at"] ["_law_cell"] vbj
inductive yhq(K:z0)(vs:Τ)(H:Hp)(Q:VK)(E':XK):Prop
 |mk(c:Int)(_:vs=[.int c])(_:0<=c)(_:c<2147483647)(_:∀(r:xy)(ns:Ρ)(H':Hp),H r=none->H' r=some (.lst (ns.map V.str))->yx H H'->ns.length=4->ns.Nodup->(∀x,x∈ns->OkL x)->Q (.ref r) H')
def yva:vx P w K mg Γ CX0 1 a.Lu a.Os ["_law_cell"] (yhq K):=by
 exists T.Pp.F.ok,í,hr;let⟨c,rfl,c0,Z,k⟩:=h;refine yf (yu (i:=1) í.nd rfl (Or.inr rfl) v7) ?_;refine yf (yu (i:=2) í.nd rfl (Or.inr rfl) (yn w5 (pv 0) yc)) ?_;refine yf (yu (i:=0) í.nd rfl (Or.inl rfl) (yn v6 (pv 0) yc)) ?_;refine yf (wa (yw xx (yn w5 (pv 0) yc) yc (y9 _)) (yd (yt (wy (js:=[1,2]) (ys:=["_law_small","_law_odd_here"]) rfl (uq rfl T.Ax (pa1 yc)) (λC s2 H2 fp=>(yn yf4 (jb (pv 1) (pv 2) (λU U=>rfl)) (yn ub (yn vv (yn wz yc (pv 0)) yc) (yn v6 (pv 0) yc)))) rfl rfl (hyc:=(all_cons rfl (all_cons rfl y7))) (hrel:=(all_cons rfl (all_cons rfl y7)))))) y8) ?_;refine yf (yu (i:=3) í.nd rfl (Or.inr rfl) v7) ?_;refine yf (jx PassesOwn.never rfl (uq rfl T.Ax (pa1 (yn w5 (yn v6 (pv 0) yc) yc))) (wj (i:=4) í.nd rfl (Or.inl rfl)) (yd (yu (i:=3) í.nd rfl (Or.inr rfl) (yn ä (pv 3) (jb (pv 1) (yn w5 (yn v6 (yn wz (pv 0) (yn vv (pv 4) yc)) yc) yc) (λU U=>rfl)))))) ?_;refine yf (yu (i:=5) í.nd rfl (Or.inr rfl) (yn w5 (yn v6 (pv 0) yc) (yn vv (pcB zg T.A9 (pa1 (pv 3))) yc))) ?_;exists _,(yd (yt (wy (js:=[3,1,2,5]) (ys:=["_law_stem","_law_small","_law_odd_here","_law_at"]) rfl (uq rfl T.Ax (pa1 yc)) (λC s2 H2 fp=>(yn ä (yn ä (yz (r:=vez) yo9 (pv 1) vo (vg (pv 4))) (jb (pv 2) (yn vv (pv 3) (pv 0)) (λU U=>rfl))) (yz (r:=vez) yo9 (pv 1) (vg (pv 4)) vo))) rfl rfl (hyc:=(all_cons rfl (all_cons rfl (all_cons rfl (all_cons rfl y7))))) (hrel:=(all_cons rfl (all_cons rfl (all_cons rfl (all_cons rfl y7)))))))),?_
 try dsimp only[vz]
 refine(yk (σ':=[some _,none,none,none,none,none]) rfl) ?_;ext;obtain⟨o,S,R⟩:∃o:Nat,c%23=(o:Int)/\o<=22:=⟨(c%23).toNat,(),()⟩;obtain⟨d,G,d0,d1⟩:∃d:Int,c/23=d/\0<=d/\d<2147483647:=⟨c/23,rfl,(),()⟩;rw[S,G];clear c0 Z S G c;refine xz (λB=>?_) (λB=>?_)
 .ext;exists _,rfl,∅,∅,λD t=>?_
  refine ê (lo:=0) (n:=4) (λi=>.str (nmR (97+o) (2*i+1-i/3))) t (λi F g u p=>?_) (λF u p=>?_)
  .ext;exists smS,_,_,rfl,rfl,(),(),by rw[ŉ];omega,ys0 () (),?_
   rw[show ((o:Int)).toNat=o from rfl];ext;exists _,_,rfl,rfl,(),(),by show 1<=_;decide,λz m=>?_
   rw[show (2*(0+(i:Int))+1-(0+(i:Int))/3).toNat=2*i+1-i/3 by omega]at m;obtain rfl:=ywb m;exact Mp.doneR t (vw ∅) g u p rfl
  .have L:F D=some (.lst (((List.range 4).map λi=>nmR (97+o) (2*i+1-i/3)).map V.str)):=by rw[p,dD];rfl
   refine k D _ F t L u rfl ?_ λx J=>?_
   .refine List.pairwise_map.mpr (List.nodup_range.imp_of_mem λ{a b}ha hb ne e=>ne ?_);have h2:=dN.mp ha;have O:=dN.mp hb;have e2:=congrArg (λx:Str=>x.cps.toList.length) e;simp[nmR]at e2;omega
   .obtain⟨i,g,rfl⟩:=cI.mp J;have O:=dN.mp g;exact ytu (yrd ()) (by simp[nmR];omega) (by simp[nmR];omega)
 .obtain⟨Y,M,hl⟩:∃l:Nat,d/4%8=(l:Int)/\l<=7:=⟨(d/4%8).toNat,(),()⟩;ext;rw[M];refine⟨_,rfl,(),(),ĕ (n:=Y) (λi σ2 F=>∃(z:Str)(v:qj V),σ2=[some (.int d),some (.str smS),some (.int o),some (.str z),v,none]/\Û z.cps.toList/\z.length=i/\H=F)
   ⟨_,_,rfl,(λc hc=>by cases (show c∈[]from hc)),rfl,rfl⟩ ?_ ?_⟩
  .rintro i σ2 F g ⟨z,v,rfl,m,f,rfl⟩;ext;have I:=ew (d*(0+(i:Int)+3)/7) (show (26:Int)≠0 by decide);have B:=ee (d*(0+(i:Int)+3)/7) (show (0:Int)<26 by decide);generalize d*(0+(i:Int)+3)/7%26=q at I B⊢;exists smS,q,97+q.toNat,rfl,rfl,I,(),by rw[ŉ];exact B,ys0 I B,?_
   exists z,_,rfl,rfl,?_,?_
   .rw[f,sizeLine_eq];show i+1<=_;omega
   .ext;exists _,_,rfl,?_,?_,rfl
    .rw[ĝ];exact m.app (.one ())
    .rw[u7,ĝ,bY,<- u7,f];rfl
  .rintro σ2 F ⟨z,v,rfl,m,f,rfl⟩;ext;exists z,rfl,by rw[f,sizeLine_eq];omega,?_
   ext
   obtain⟨j,hj,y⟩:∃j:Nat,d/32%((z.length:Int)+1)=(j:Int)/\j<=z.length:=by
    have I:=ew (d/32) (show ((z.length:Int)+1)≠0 by omega);have B:=ee (d/32) (show 0<((z.length:Int)+1) by omega);exists(d/32%((z.length:Int)+1)).toNat,(),()
   rw[hj];exists _,rfl,∅,∅,λD t=>?_
   refine ê (lo:=0) (n:=4) (λi=>.str (ym8 z j (97+o+i))) t (λi F g u p=>?_) (λF u p=>?_)
   .ext;have X:=Txt.slice_le z none (some (j:Int));have a0:=Txt.slice_le z (some (j:Int)) none;exists z,rfl,by rw[sizeLine_eq];omega,?_
    ext;have W:97+((o:Int)+(0+(i:Int))).toNat=97+o+i:=()
    exists smS,_,_,rfl,rfl,(),(),by rw[ŉ];omega,ys0 () (),?_
    rw[W];exists _,_,rfl,rfl,by rw[sizeLine_eq];show _+1<=_;omega,?_
    ext;exists z,rfl,by rw[sizeLine_eq];omega,?_
    exists _,_,rfl,rfl,?_,?_
    .rw[sizeLine_eq,u7,ĝ,bY,<- u7];show _+1+_<=_;omega
    .exact Mp.doneR t (vw ∅) g u p rfl
   .have L:F D=some (.lst (((List.range 4).map λi=>ym8 z j (97+o+i)).map V.str)):=by rw[p,dD];rfl
    refine k D _ F t L u rfl (yhm y o 4) λx J=>?_;let⟨i,g,rfl⟩:=cI.mp J;have O:=dN.mp g;exists yr5 y m () (),?_;rw[Ò y];exact((m.take j).app (.one ())).app (m.drop j)
#synth ybf ["_law_script","_law_looks_here","_law_k","_law_cell","_law_places"] ["_law_script"] yz4
inductive ylf(K:z0)(vs:Τ)(H:Hp)(Q:VK)(E':XK):Prop
 |mk(l:xy)(zs:Ο)(_:vs=[.ref l])(_:SqL K H l (zs.map V.int))(_:∀r(n:Nat)(lk:Λ)(kd:Ν)(tp:Λ)(ps:Κ)H',H r=none->H' r=some (.lst (refs lk n))->1<=n->n<=6->xi H' n lk kd tp ps->yx H H'->Q (.ref r) H')
def yw5:vx P w K mg Γ CX0 2 a.Lv a.Ot ["_law_script"] (ylf K):=by
 exists T.Pq.F.ok,ybf,hr;let⟨l,zs,rfl,hl,k⟩:=h;refine yf (yu (i:=1) ybf.nd rfl (Or.inl rfl) (vd u8)) ?_;refine yf (jx PassesOwn.never rfl (uq rfl T.Ax (pa1 (yn vv yc (yn w5 (ug (ñ T) hr.m T.C4 (pac (pv 0) (pa1 yc))) yc)))) (wj (i:=2) ybf.nd rfl (Or.inl rfl)) (yg (yu (i:=3) ybf.nd rfl (Or.inl rfl) (ug (ñ T) hr.m T.C4 (pac (pv 0) (pa1 (yn vv yc (pv 2)))))) (yg (yu (i:=4) ybf.nd rfl (Or.inl rfl) (xk wl (vd (pac (zx u8) (pac (zx (pa1 yc)) (pac (zx (pa1 yc)) (pac (zx (pac yc (pa1 yc))) (pac (zx (pa1 (yn vv yc (yn w5 (yn v6 (pv 3) yc) yc)))) (pa1 (zx (pac yc (pac yc (pac yc (pa1 yc)))))))))))) (yn w5 (yn v6 (pv 3) yc) yc) (λF F=>rfl))) (yd (yy (jg PySem.F.plainAttrs_list PySem.F.slot_list_append PySem.F.type_list_append w9 (pv 1) (pa1 (zx (pac (xk wl (vd (pac v7 (pac v7 (pa1 v7)))) (yn w5 (pv 3) yc) (λF F=>rfl)) (pa1 (pv 4))))))))))) ?_;exists 1,4,yd (yt (pv 1));exists by walk_at "len",λL hL0=>?_
 exists hL0,H1,S1,hL1;ext;exists l,zs,0,rfl,S1.seq hl,∅,λc c0 c1=>?_
 ext;obtain⟨n,hn,n1,n6⟩:∃n:Nat,1+c%2=(n:Int)/\1<=n/\n<=6:=⟨(1+c%2).toNat,(),(),()⟩;rw[hn];refine⟨_,rfl,(),(),ĕ (n:=n) (λi σ2 G=>∃(v2 X v4:qj V)(u:Λ)(N:Ν)(y:Λ)(S:Κ),σ2=[some (.ref l),some (.ref L),v2,X,v4]/\G L=some (.lst (refs u i))/\xi G i u N y S/\yx H G)
  ⟨_,_,_,λF=>0,λF=>0,λF=>0,λF=>[],rfl,hL1,λj W=>absurd W (du j),S1⟩ ?_ ?_⟩
 .rintro i σ2 G hi ⟨v2,X,v4,u,N,y,S,rfl,Y,gR,U⟩;ext;exists l,zs,1+i,by rw[show ((1+i:Nat):Int)=1+(0+(i:Int)) by omega];rfl,U.seq hl,(),λd d0 d1=>?_
  ext;exists by walk_at "len",λx1 xg1=>?_
  exists xg1,xH1,xS1,xe1;ext;exists by walk_at "len",λx2 xg2=>?_
  exists xg2,xH2,xS2,xe2;ext;exists by walk_at "len",λx3 xg3=>?_
  exists xg3,xH3,xS3,xe3;ext;exists by walk_at "len",λx4 xg4=>?_
  exists xg4,xH4,xS4,xe4;ext;exists by walk_at "len",λx5 xg5=>?_
  exists xg5,xH5,xS5,xe5;ext;exists by walk_at "len",λx6 xg6=>?_
  exists xg6,xH6,xS6,xe6;ext;exists by walk_at "len",λx7 xg7=>?_
  exists xg7,xH7,xS7,xe7;have I:=xS7;have xe6:=I _ _ xe6;have R:=xS6.trans I;have xe5:=R _ _ xe5;have O:=xS5.trans R;have xe4:=O _ _ xe4;have x:=xS4.trans O;have xe3:=x _ _ xe3;have M:=xS3.trans x;have xe2:=M _ _ xe2;have D:=xS2.trans M;have xe1:=D _ _ xe1;have C:=xS1.trans D;ext
  obtain⟨f,v,hv,hq,Z⟩:∃f v,atI [V.ref x1,V.ref x2,V.ref x3,V.ref x4,V.ref x5,V.ref x6] (d/24%6)=some (.ref f)/\xH7 f=some (.tup (List.map V.int v))/\xp (v.map V.int)=true:=by
   have h0:d/24%6=0\/d/24%6=1\/d/24%6=2\/d/24%6=3\/d/24%6=4\/d/24%6=5:=()
   rcases h0 with z|z|z|z|z|z<;>rw[z]
   .exists x1,[],rfl,xe1,rfl
   .exists x2,[1],rfl,xe2,rfl
   .exists x3,[2],rfl,xe3,rfl
   .exists x4,[1,2],rfl,xe4,rfl
   .exists x5,[1+d/3%8],rfl,xe5,ygy (by show 1<=4;decide) (λp hp=>?_) (List.pairwise_singleton _ _);rw[cR.mp hp];omega
   .exists x6,[1,3,5,8],rfl,xe6,rfl
  refine zb (SqL.of xe7) hv ?_;have J:=C _ _ Y;ext;refine jp J ?_;ext;exists by walk_at "len",λq2 hq2=>?_
  exists hq2,G4,T4,hq4;ext;let⟨kk,hk⟩:=yqx d;refine zb (SqL.of hq4) hk ?_;ext;exists by walk_at "len",λt ht=>?_
  exists ht,G7,T7,ht7;have r:=T4.trans T7;have q:=r _ _ J;have B:=C.trans r;ext;refine uf q (vw (by rw[vi];omega)) ?_;have g7:LkG G7 (.ref t) kk f v:=⟨t,rfl,ht7,r _ _ hq,Z⟩;ext;exists _,_,_,upN u i t,upN N i kk,upN y i f,upN S i v,rfl,?_,λj W=>?_,λb o e=>yi (yb e hL0) (B _ _ (U b o e))
  .rw[ya,zw,xr]
   congr 3
   exact zt λj W=>(xm W).symm
  .by_cases z:j=i
   .subst z;rw[xr,xr,xr,xr];exact g7.upd q
   .have g:j<i:=()
    rw[xm g,xm g,xm g,xm g];exact((gR j g).same B).upd q
 .rintro σ2 G ⟨v2,X,v4,u,N,y,S,rfl,Y,gR,U⟩;ext;exact k L n u N y S G hL0 Y n1 n6 gR U
structure ShA(d:Ο):Prop where
 b:Byt d
 l:d.length<=100000
 m:∀C vt,CfN C->d=hdB C++vt->C.mo<=200
def ShA.of{C:Cf}{r:Ο}(hC:CfN C)(hmo:C.mo<=200)(hb:Byt (hdB C++r))(hz:(hdB C++r).length<=100000):ShA (hdB C++r):=⟨hb,hz,λb c a e=>by rw[<- (ō hC a e).1];exact hmo⟩
def Byt.app{x:Ο}(h:Byt x)(g:Byt y):Byt (x++y):=λb a=>(db.mp a).elim (h b) (g b)
theorem Byt.take{x:Ο}(h:Byt x)(k:Nat):Byt (x.take k):=λb a=>h b (dF a)
theorem Byt.drop{x:Ο}(h:Byt x)(k:Nat):Byt (x.drop k):=λb a=>h b (List.mem_of_mem_drop a)
def Byt.l{x:Ο}(h:Byt (x++y)):Byt x:=λb a=>h b (dA _ a)
def Byt.r{x:Ο}(h:Byt (x++y)):Byt y:=λb a=>h b (cO _ a)
def Byt.cons{b:Int}{x:Ο}(h0:0<=b/\b<=255)(h:Byt x):Byt (b::x):=λc a=>(cS.mp a).elim (λe=>e ▸ h0) (h c)
def Byt.nil:Byt []:=λZ h=>nomatch h
def ysn{x:Str}(h:nmS x=true):1<=x.length:=by unfold nmS at h;rw[cZ]at h;have:=of_decide_eq_true h.1;omega
section
variable{H:Hp}{Q:VK}{p:xy}{x:Ο}{n:Nat}{i:Int}
def IL(H:Hp)(p:xy)(x:Ο):Prop:=H p=some (.lst (x.map V.int))
def IL.same{H':Hp}(h:IL H p x)(S:yx H H'):IL H' p x:=S _ _ h
def ykn(h:IL H p x)(e:i=n)(ey:x.take n=y)(k:∀q H',H q=none->IL H' q y->yx H H'->Q (.ref q) H'):vc0 K (.ref p) none (some i) H Q:=zy (SqL.of h) λr a=>k r _ a (by unfold IL;rw[ya,e,x8,<- dY,ey]) (y6 a)
def ym9(h:IL H p x)(e:i=n)(ey:x.drop n=y)(k:∀q H',H q=none->IL H' q y->yx H H'->Q (.ref q) H'):vc0 K (.ref p) (some i) none H Q:=zy (SqL.of h) λr a=>k r _ a (by unfold IL;rw[ya,e,Ñ,<- List.map_drop,ey]) (y6 a)
def ytf{xs ys:Τ}(h1:H p=some (.lst xs))(h2:H q=some (.lst ys))(hz:xs.length+ys.length<=200000)(k:∀r H',H r=none->H' r=some (.lst (xs++ys))->yx H H'->Q (.ref r) H'):vew (.ref p) (.ref q) H Q:=⟨p,q,_,_,rfl,rfl,h1,h2,wv (),λr a=>k r _ a ya (y6 a)⟩
def η(h1:IL H p x)(h2:IL H q y)(hz:x.length+y.length<=200000)(k:∀r H',H r=none->IL H' r (x++y)->yx H H'->Q (.ref r) H'):vew (.ref p) (.ref q) H Q:=ytf h1 h2 (by rw[bz,bz];omega) λr H' a h1=>k r H' a (by unfold IL;rw[h1,cM])
end
def NoX(K:z0)(H:Hp)(x:V):Prop:=(∃n,xu K H x (.type n)/\Bad K H x n 1000000)\/∃(l:xy)(d:Ο),x=.ref l/\H l=some (.lst (d.map V.int))/\ShA d/\∀C P,CfN C->zz C P->d≠shB C P
def vdb{H:Hp}{x:V}{Q:VK}{E:XK}(h:NoX K H x)(k:∀dd H',yx H H'->E (.ref a.A3) dd H'):ya1 K a [x] H Q E:=by
 rcases h with⟨n,g,p⟩|⟨l,d,rfl,i,c,j⟩
 .exists x,rfl,.inl ⟨n,g,p,k none⟩
 .exists _,rfl,.inr ⟨l,d,rfl,i,c.b,c.l,c.m,(λC P f o e=>absurd e (j C P f o)),λZ=>k⟩
#synth Ġ ["_law_data","_law_found","_law_word","e","_law_other"] ["_law_data"] vbh
inductive ykw(K:z0)(a:Ads)(vs:Τ)(H:Hp)(Q:VK)(E':XK):Prop
 |mk(x:V)(_:vs=[x])(_:((NoX K H x/\∀t H',H t=none->H' t=some (.tup [.str "none",.non])->yx H H'->Q (.ref t) H')\/∃(l:xy)(d:Ο),x=.ref l/\H l=some (.lst (d.map V.int))/\ShA d/\(∃C P,CfN C/\zz C P/\d=shB C P)/\∀C P,CfN C->zz C P->d=shB C P->∀t st X H',H' t=some (.tup [.str "told",.ref st])->Sto K a H' st C P X->yx H H'->(∀y,X.f y->H y=none)->Q (.ref t) H'))
def yjk:vx P w K mg Γ CX0 17 a.Lx a.Ou ["_law_data"] (ykw K a):=by
 exists T.Fs.F.ok,Ġ,M;let⟨x,rfl,h⟩:=h;refine yf (yu (i:=1) Ġ.nd rfl (Or.inl rfl) jm) ?_;refine yf (yu (i:=2) Ġ.nd rfl (Or.inl rfl) v7) ?_;refine yf (yxj (i:=3) (λI Y=>(yd (yu (i:=1) Ġ.nd rfl (Or.inl rfl) (ur (yv4 T) M.m T.Po Ó (pa1 (pv 0)))))) ⟨rfl,rfl⟩ rfl T.Cr (λI x=>(yg (yu (i:=4) Ġ.nd rfl (Or.inl rfl) (pcB (id:="isinstance") (r:=ysw K) ygs T.A8 (pac (pv 3) (pa1 (zx (pac (w8 rfl T.Jj) (pac (w8 rfl T.Ji) (pac (w8 rfl T.D8) (pac (w8 rfl T.D9) (pac (w8 rfl T.R1) (pac (w8 rfl T.E4) (pa1 (w8 rfl T.Dt))))))))))))) (yd (yu (i:=2) Ġ.nd rfl (Or.inl rfl) (xk (r:=ve0 K) wl (vd (pac v7 (pa1 v7))) (pcT yha T.Pr (pa1 (uv (pcB (id:="isinstance") (r:=ys9 K) ydl T.A8 (pac (pv 3) (pa1 (w8 rfl T.As)))) (uv (pcB (id:="isinstance") (r:=ys9 K) ydl T.A8 (pac (pv 3) (pa1 (τ (T:="ValueError") rfl T.E7 (by right))))) (jz (yng (pv 4))))))) (λZ Z=>rfl)))))) Ġ.nd rfl rfl) ?_;exists 1,4,yd (yt (zx (pac (pv 2) (pa1 (pv 1)))));rcases h with⟨y,k⟩|⟨l,d,rfl,R,n,⟨O,L,g1,g2,g3⟩,k⟩
 .refine vdb y λW z g=>?_;refine vdf T.B0 λe he=>?_;dsimp only[List.set];exists he,H2,S2,e2;ext;exists by walk_at "len",λU htp=>?_
  exists htp,H3,S3,e3;have c:=S3 _ _ e2;ext;refine ytz (Cs:=[a.Bq,a.Bv,a.Ae,a.Aa,a.Cq,a.Aj,a.Am]) e3 c T.Bp T.E6 ?_;ext;exists by walk_at "len",λS hl4=>?_
  exists hl4,H4,S4,e4;have f:=S4 _ _ c;ext;refine yyz f T.Bp T.C1 ?_;exists true,rfl,?_;ext;refine yum f T.Bp T.Bg ?_;exists true,rfl,?_;ext;refine .inr ⟨true,rfl,?_⟩;ext;refine zb (SqL.of e4) (xf (j:=1) rfl) ?_;ext;exists by walk_at "len",λt ht=>?_
  exists ht,H5,S5,e5;have o:=g.trans (S2.trans (S3.trans (S4.trans S5)));exact k t H5 ((g.trans (S2.trans (S3.trans S4))).free ht) e5 o
 .exists _,rfl,.inr ⟨l,d,rfl,R,n.b,n.l,n.m,λC P v p e N X z B g D=>?_,λG=>absurd g3 (G O L g1 g2)⟩;ext;exists by walk_at "len",λt ht=>?_
  exists ht,H2,S2,e2;exact k C P v p e t N X H2 e2 (B.same S2) (g.trans S2) D
def yv0:∀k:Fin 3,vcz [kdS 0,kdS 1,kdS 2] (kdS k) k.val:=by unfold vcz;decide
#synth Ė ["_law_looks_here","_law_parts_here","_law_kind","_law_places"] ["_law_looks_here"] yot
inductive ygm(K:z0)(vs:Τ)(H:Hp)(Q:VK)(E':XK):Prop
 |mk(lo:xy)(C:Cf)(lk tp:Λ)(_:vs=[.ref lo])(_:H lo=some (.lst (refs lk C.n)))(_:xi H C.n lk C.kd tp C.ps)(_:1<=C.n)(_:C.n<=6)(_:∀r H',H r=none->H' r=some (.lst ((((C.n:Nat):Int)::lkF C C.n).map V.int))->yx H H'->Q (.ref r) H')
def yir:vx P w K mg Γ CX0 1 a.Hd a.Hi ["_law_looks_here"] (ygm K):=by
 exists T.Fl.F.ok,Ė,D;let⟨lo,C,B,t,rfl,d,L,n1,n6,k⟩:=h;refine yf (yu (i:=1) Ė.nd rfl (Or.inl rfl) (vd (pa1 (pcB yq T.A9 (pa1 (pv 0)))))) ?_;refine yf (jx PassesOwn.never rfl (xg (pv 0)) (Ŏ rfl (xt (wj (i:=2) Ė.nd rfl (Or.inl rfl)) (xt (wj (i:=3) Ė.nd rfl (Or.inl rfl)) æ))) (yd (yu (i:=1) Ė.nd rfl (Or.inl rfl) (yn vh (yn vh (pv 1) (vd (pac (jg PySem.F.plainAttrs_list PySem.F.slot_list_index PySem.F.type_list_index yba (vd (pac v7 (pac v7 (pa1 v7)))) (pa1 (pv 2))) (pa1 (pcB yq T.A9 (pa1 (pv 3))))))) (pcT wb T.Ap (pa1 (pv 3))))))) ?_;exists 1,3,yd (yt (pv 1));refine uc (SqL.of d) ?_;rw[vi];ext;exists by walk_at "len",λZ hr0=>?_
 exists hr0,H1,S1,e1;ext;exists lo,rfl,⟨_,SqL.of (S1 _ _ d)⟩,?_;refine zh (xs:=refs B C.n) (λi σ2 G=>∃(r:xy)(I p:qj V),σ2=[some (.ref lo),some (.ref r),I,p]/\H r=none/\G r=some (.lst ((((C.n:Nat):Int)::lkF C i).map V.int))/\yx H G) ⟨Z,_,_,rfl,hr0,e1,S1⟩ (λi σ2 G m z=>by let⟨_,_,_,_,_,_,b⟩:=z;exact SqL.of (b _ _ d)) ?_ ?_
 .rintro i x σ2 G j ⟨r,I,p,rfl,D,l,b⟩;have m:i<C.n:=by have:=(cF.mp j).1;rw[vi]at this;exact this
  obtain rfl:V.ref (B i)=x:=by
   unfold refs at j;rw[cK,dU m]at j;exact cJ j
  let⟨_,Y,R,N,S⟩:=L i m;cases Y;have X:=uz S;rw[bz]at X;refine Ģ (SqT.of (b _ _ R)) rfl ?_;ext;exists by walk_at "len",λu hu=>?_
  have f:=y6 (o:=(.lst [.str "even",.str "quick",.str "run"])) hu;have v:upd G u (.lst [.str "even",.str "quick",.str "run"]) u=some (.lst [.str "even",.str "quick",.str "run"]):=ya;generalize upd G u (.lst [.str "even",.str "quick",.str "run"])=G1 at f v⊢;refine jp v ?_;ext;exists u,[kdS 0,kdS 1,kdS 2],kdS (C.kd i),(C.kd i).val,rfl,rfl,SqL.of v,yv0 _,?_;ext;exists t i,_,rfl,.inr (SqT.of (f _ _ (b _ _ N))),?_;rw[bz];ext;exists by walk_at "len",λw hw=>?_
  exists hw,G2,T2,f2;have J:=T2 _ _ (f _ _ l);have U:(lkF C i).length<=i*6:=L.lkl i (eE m);exists r,w,_,_,rfl,rfl,J,f2,wv (by rw[bz,cB];show _+1+2<=_;omega),λc hc=>?_;exists hc,G3,T3,f3;ext;exists t i,_,rfl,.inr (SqT.of (T3 _ _ (T2 _ _ (f _ _ (b _ _ N))))),λy hy=>?_;exists hy,G4,T4,f4;exists c,y,_,_,rfl,rfl,T4 _ _ f3,f4,wv (by rw[bY,bz,bz,cB];show _+1+2+_<=_;omega),λe M=>?_;have g:=b.trans (f.trans (T2.trans (T3.trans T4)));ext;exists e,_,_,rfl,g.free M,?_,g.trans (y6 M);rw[ya,zl,dC,dC,cM];show some (HO.lst (V.int _::(_++_)++_))=some (HO.lst (V.int _::(_++(V.int _::V.int _::_))));simp only[List.cons_append,cH,List.nil_append]
 .rintro σ2 G ⟨r,I,p,rfl,D,l,b⟩;rw[vi]at l;ext;exact k r G D l b
def yne(d:Ο):Prop:=ShA d/\∀C P,CfN C->zz C P->d≠shB C P
def noH(hb:Byt d)(hl:d.length<=100000)(h:∀C r,CfN C->d≠hdB C++r):yne d:=⟨⟨hb,hl,λC r a e=>absurd e (h C r a)⟩,λC Z a Z=>h C _ a⟩
def noP{C:Cf}{x:Ο}(hC:CfN C)(hmo:C.mo<=200)(hb:Byt (hdB C++x))(hz:(hdB C++x).length<=100000)(h:∀P,zz C P->x≠((P.length:Nat):Int)::(P.map (pdB C P)).flatten):yne (hdB C++x):=⟨.of hC hmo hb hz,λf P a c e=>by
 let⟨d,b⟩:=ō hC a e;subst d;exact h P c b⟩
def ytb{k:Int}{ps r:Ο}(h:3<=k\/xp (ps.map V.int)=false){C:Cf}{x:Ο}(hC:CfN C):1::k::((ps.length:Nat):Int)::(ps++r)≠hdB C++x:=λe=>by
 rw[j3]at e;injection e with e1 e;have c:C.n=1:=()
 rw[c,zl]at e;have e:k::((ps.length:Nat):Int)::(ps++r)=(((C.kd 0).val:Nat):Int)::(((C.ps 0).length:Nat):Int)::(C.ps 0++_):=e;injection e with e2 e;injection e with e3 e;have b:=(List.append_inj e ()).1;have:=(C.kd 0).isLt;have a:=hC.p 0 ();rw[<- b]at a;rcases h with h|h
 .omega
 .rw[h]at a;cases a
def vf7{C:Cf}{u v:Int}{r:Ο}(h:1000<256*u+v)(hv:0<=v/\v<=255){C':Cf}{x:Ο}(hC':CfN C'):((C.n:Nat):Int)::lkF C C.n++u::v::r≠hdB C'++x:=λe=>by
 rw[j3]at e;have e:((C.n:Nat):Int)::(lkF C C.n++u::v::r)=_:=e;injection e with e1 e;rw[show C'.n=C.n by omega]at e;have e:=(ybp e).2;injection e with e2 e;injection e with e3 e;have:=hC'.m;omega
def yf8{C:Cf}{P:qi Pd}(h:zz C P)(hl:1<=P.length):∃q t,P[0]?=some q/\q.bs=none/\q.path=[]/\okN q.nm/\Sgs q.tx/\q.tx.length<=C.w/\(P.map (pdB C P)).flatten=nmB q.nm++0::(q.by C++t):=by
 let⟨c,_⟩:=h.nx (i:=0) hl
 have d:P[0].bs=none:=by
  cases e:P[0].bs with
  |none=>rfl
  |some b =>
   let⟨j,_,f,_⟩:=h.k 0 P[0] b (cA hl) e;exact absurd f (du j)
 have a:=c.to;rw[d]at a;exists P[0],((P.drop (0+1)).map (pdB C P)).flatten,cA hl,d,a,c.nm,c.s,c.l,?_;rw[ykd hl (pdB C P)];show pdB C P P[0]++_=_;unfold pdB;rw[d,cH,cH];rfl
def yps{C:Cf}{P R:qi Pd}(h:zz C P)(g:zz C R)(e:(P.map (pdB C P)).flatten=(R.map (pdB C R)).flatten):P.length=R.length:=by
 have a:∀{P R:qi Pd},zz C P->zz C R->(P.map (pdB C P)).flatten=(R.map (pdB C R)).flatten->¬P.length<R.length:=λ{P R}h g e z=>by
  rw[ykd z]at e;have:=(ő (i:=P.length) (x:=[]) h g (cE _) (eE z) (by rw[dn,dW];exact e)).2;unfold pdB nmB at this;cases this
 have c:=a h g e;have b:=a g h e.symm;omega
def yul{C:Cf}{P:qi Pd}(h:zz C P)(hl:1<=P.length):zz C [P[0]]/\pdB C [P[0]] P[0]=pdB C P P[0]:=by
 have j:zz C []:=⟨h.c,⟨List.nodup_nil,λq a=>nomatch a⟩,dg _,(λq a=>nomatch a),(λq a=>nomatch a),λi r b e=>nomatch e⟩
 let⟨d,f⟩:=h.nx (i:=0) hl;have g:=j.app d;exists g,?_;rw[<- f];unfold pdB;have:=d.to;show nmB _++[bsN ([]++[P[0]]) _]++_=nmB _++[bsN [] _]++_;rw[yc6 (P:=[]) (L:=P[0].path) this]
structure Lw5(C:Cf)(P:qi Pd):Prop where
 c:CfN C
 m:C.mo<=200
 o:zz C P
 l:1<=P.length
 z:P.length<=6
 b:Byt (shB C P)
 s:(shB C P).length<=40000
def ygd(C:Cf)(P:qi Pd):Ο:=((C.mo:Nat):Int)/256::((C.mo:Nat):Int)%256::((P.length:Nat):Int)::(P.map (pdB C P)).flatten
def yew(C:Cf)(P:qi Pd):shB C P=(((C.n:Nat):Int)::lkF C C.n)++ygd C P:=by unfold shB ygd;rw[j3];rfl
def yst(C:Cf):hdB C=(((C.n:Nat):Int)::lkF C C.n)++[((C.mo:Nat):Int)/256,((C.mo:Nat):Int)%256]:=rfl
def w11{C:Cf}{P:qi Pd}(g:zz C P){n:Nat}{k:Int}{r:Ο}(hn:1<=n)(hk:k<1\/8<k):((n:Nat):Int)::k::r≠((P.length:Nat):Int)::(P.map (pdB C P)).flatten:=λe=>by
 injection e with e1 e;let⟨q,t,_,_,_,a,_,_,b⟩:=yf8 g ();rw[b]at e;have e:k::r=((q.nm.length:Nat):Int)::(_++_):=e;injection e with e2 e;have:=uu a.1;have:=ysn a.1;omega
def w13{C:Cf}{P:qi Pd}(g:zz C P){n:Nat}{r:Ο}(hn:1<=n):((n:Nat):Int)::1::26::r≠((P.length:Nat):Int)::(P.map (pdB C P)).flatten:=λe=>by
 injection e with e1 e;let⟨q,t,_,_,_,d,_,_,f⟩:=yf8 g ();rw[f]at e;have e:1::26::r=((q.nm.length:Nat):Int)::((q.nm.cps.toList.map λc=>((lix c:Nat):Int))++_):=e;injection e with e2 e;have b:=u7 q.nm;have a:=x9 d.1
 cases ec:q.nm.cps.toList with
 |nil=>rw[ec]at b;have:q.nm.length=0:=b;omega
 |cons c s =>
  rw[ec]at e a;have e:26::r=((lix c:Nat):Int)::_:=e;injection e with e3 e;have:=a c (.head _);rw[Ğ this]at e3;omega
def w14{C:Cf}{P:qi Pd}(g:zz C P){n:Nat}{x:Str}{r:Ο}(hn:1<=n)(hx:Û x.cps.toList):((n:Nat):Int)::(nmB x++1::r)≠((P.length:Nat):Int)::(P.map (pdB C P)).flatten:=λe=>by
 injection e with e1 e;let⟨q,t,_,_,_,a,_,_,b⟩:=yf8 g ();rw[b]at e;have e:=(ybj hx (x9 a.1) e).2;injection e with e2 e;cases e2
def w17{C:Cf}{P R:qi Pd}(h:zz C P)(hl:1<=P.length)(g:zz C R):(2:Int)::(pdB C P P[0]++pdB C P P[0])≠((R.length:Nat):Int)::(R.map (pdB C R)).flatten:=λe=>by
 injection e with e1 e;have b:1<R.length:=()
 let⟨j,k⟩:=yul h hl;rw[ykd b,<- k]at e;let⟨d,a⟩:=ő (i:=1) (x:=pdB C [P[0]] P[0]) j g (cE _) (eE b) (by rw[dE (by simp),List.map_singleton,List.flatten_singleton];exact e);unfold pdB at a;rw[cH,cH,cH]at a;have l:=(ybj (x9 (h.nm _ (dm _)).1) (x9 (g.nm _ (dm _)).1) a).1
 have f:R[0]?=some P[0]:=by
  have:some P[0]=(R.take 1)[0]?:=congrArg (·[0]?) d;rw[List.getElem?_take_of_lt ∅]at this;exact this.symm
 have c:=List.pairwise_iff_getElem.mp g.w.nd 0 1 (by rw[bz];omega) (by rw[bz];omega) ∅;rw[dL,dL,(cF.mp f).2]at c;exact c l
def w18{C C':Cf}{P R:qi Pd}(h:zz C P)(hl:1<=P.length)(g:zz C' R)(en:C'.n=C.n)(ek:C'.kd=C.kd)(ep:C'.ps=C.ps)(hw:C'.w<P[0].tx.length):((P.length:Nat):Int)::(P.map (pdB C P)).flatten≠((R.length:Nat):Int)::(R.map (pdB C' R)).flatten:=λe=>by
 injection e with e1 e;let⟨q,t,a,_,f,i,b,_,d⟩:=yf8 h hl;let⟨p,r,_,_,j,k,o,m,l⟩:=yf8 g ();rw[d,l]at e;have e:=(ybj (x9 i.1) (x9 k.1) e).2;injection e with _ e;unfold Pd.by at e;rw[f,j,en,ek,ep]at e;have:=yh7 h.c.n.1 h.c.n.2 (u6 _) b o e;rw[cA hl]at a;rw[<- this,<- cJ a]at m;omega
#synth ju ["_law_looks_here","_law_data","_law_way","_law_first","_law_many","_law_parts_here","_law_behind","_law_odd_here","_law_pieces","_law_size","_law_low"] ["_law_looks_here","_law_data","_law_way","_law_first","_law_many"] yo6
inductive yqg(K:z0)(vs:Τ)(H:Hp)(Q:VK)(E':XK):Prop
 |mk(lo da fi:xy)(C:Cf)(P:qi Pd)(lk tp:Λ)(way many:Nat)(_:vs=[.ref lo,.ref da,.int way,.ref fi,.int many])(_:way<=18)(_:H lo=some (.lst (refs lk C.n)))(_:xi H C.n lk C.kd tp C.ps)(_:H da=some (.lst ((shB C P).map V.int)))(_:Lw5 C P)(_:(∃hl:0<P.length,H fi=some (.lst ((pdB C P P[0]).map V.int))/\many=P[0].tx.length))(_:∀r d H',H r=none->H' r=some (.lst (d.map V.int))->yne d->yx H H'->Q (.ref r) H')
def ysj:vx P w K mg Γ CX0 2 a.He a.Hj ["_law_looks_here","_law_data","_law_way","_law_first","_law_many"] (yqg K):=by
 exists T.Iu.F.ok,ju,hr;let⟨lo,da,fi,C,P,lk,tp,D,f,rfl,ah,aE,Y,au,S,⟨hl,aM,aR⟩,k⟩:=h;refine yf (yu (i:=5) ju.nd rfl (Or.inl rfl) (ug (yir T) hr.m T.Fl (pa1 (pv 0)))) ?_;refine yf (yu (i:=6) ju.nd rfl (Or.inl rfl) (yz vn (pv 1) (vg (pcB yq T.A9 (pa1 (pv 5)))) vo)) ?_;refine yf (yu (i:=7) ju.nd rfl (Or.inl rfl) (vd (pac (vd (pa1 yc)) (pac (yn vh (vd (pa1 yc)) (yn yjp (vd (pac yc (pa1 yc))) yc)) (pac (vd (pac yc (pac yc (pa1 yc)))) (pac (vd (pac yc (pac yc (pac yc (pa1 yc))))) (pac (vd (pac yc (pac yc (pac yc (pac yc (pa1 yc)))))) (pa1 (vd (pac yc (pac yc (pac yc (pac yc (pa1 yc)))))))))))))) ?_;refine yf (yu (i:=7) ju.nd rfl (Or.inl rfl) (yn vh (pv 7) (vd (pac (vd (pac yc (pac yc (pac yc (pa1 yc))))) (pa1 (vd (pac yc (pac yc (pac yc (pac yc (pac yc (pac yc (pac yc (pa1 yc)))))))))))))) ?_;refine yf (wa (yw ó (pv 2) yc (y9 _)) (yd (yt (yn vh (xk wl (pv 7) (pv 2) (λm m=>rfl)) (pv 6)))) y8) ?_;refine yf (wa (yw ó (pv 2) yc (y9 _)) (yd (yt (yn vh (yn vh (pv 5) (xk wl (vd (pac (vd (pac yc (pa1 yc))) (pac (vd (pac yc (pa1 yc))) (pa1 (vd (pac yc (pa1 yc))))))) (yn ub (pv 2) yc) (λm m=>rfl))) (yz vn (pv 6) (vg yc) vo)))) y8) ?_;refine yf (yu (i:=8) ju.nd rfl (Or.inl rfl) (yz vn (pv 6) (vg yc) vo)) ?_;refine yf (yu (i:=9) ju.nd rfl (Or.inl rfl) (yn vv yc (xk wl (pv 8) yc (λm m=>rfl)))) ?_;refine yf (wa (yw xx (pv 2) yc (y9 _)) (yd (yt (yn vh (yn vh (yn vh (pv 5) (yz vn (pv 6) vo (vg yc))) (vd (pa1 yc))) (yz vn (pv 8) (vg (pv 9)) vo)))) y8) ?_;refine yf (wa (yw xx (pv 2) yc (y9 _)) (yd (yt (yn vh (yn vh (yn vh (yn vh (pv 5) (yz vn (pv 6) vo (vg yc))) (vd (pa1 yc))) (vd (pac yc (pac yc (pac yc (pac yc (pac yc (pac yc (pac yc (pac yc (pa1 yc))))))))))) (yz vn (pv 8) (vg (pv 9)) vo)))) y8) ?_;refine yf (wa (yw xx (pv 2) yc (y9 _)) (yd (yt (yn vh (yn vh (yn vh (pv 5) (yz vn (pv 6) vo (vg yc))) (vd (pac yc (pa1 yc)))) (yz vn (pv 8) (vg (pv 9)) vo)))) y8) ?_;refine yf (wa (yw xx (pv 2) yc (y9 _)) (yg (yu (i:=10) ju.nd rfl (Or.inl rfl) (yn vh (pv 5) (yz vn (pv 6) vo (vg yc)))) (yd (yt (yn vh (yn vh (yn vh (pv 10) (yz vn (pv 8) vo (vg (pv 9)))) (vd (pa1 yc))) (yz vn (pv 8) (vg (yn vv (pv 9) yc)) vo))))) y8) ?_;refine yf (wa (yw xx (pv 2) yc (y9 _)) (yd (yt (yn vh (yn vh (yn vh (pv 5) (yz vn (pv 6) vo (vg yc))) (vd (pa1 (yn vv (xk wl (pv 6) yc (λm m=>rfl)) yc)))) (pv 8)))) y8) ?_;refine yf (wa (yw xx (pv 2) yc (y9 _)) (yd (yt (yn vh (yn vh (yn vh (yn vh (pv 5) (yz vn (pv 6) vo (vg yc))) (vd (pa1 yc))) (pv 3)) (pv 3)))) y8) ?_;refine yf (ρ (wa (PW.pt (ynv (yw xx (pv 2) yc (y9 _)) (yim (yw yki (pv 4) yc (y9 _))))) (yd (yt (yn vh (yn vh (pv 5) (vd (pac yc (pa1 (yn ub (pv 4) yc))))) (yz vn (pv 6) (vg yc) vo)))) y8)) ?_;exists 5,6,yd (yt (yn vh (yn vh (yn vh (pv 5) (yz vn (pv 6) vo (vg yc))) (vd (pa1 (yn ub (xk wl (pv 6) yc (λm m=>rfl)) yc)))) (pv 8)));exists lo,C,lk,tp,rfl,aE,Y,S.c.n.1,S.c.n.2,λpa H1 b2 g S1=>?_;have g:IL H1 pa (((C.n:Nat):Int)::lkF C C.n):=g;ext;refine uc (SqL.of g) ?_;ext;refine ym9 (n:=(((C.n:Nat):Int)::lkF C C.n).length) (y:=ygd C P) (S1 _ _ au) (by rw[bz]) (by rw[yew,List.drop_left]) λbe H2 b1 af S2=>?_;have aH:=S1.trans S2;have ag:=g.same S2;ext;exists by walk_at "len",λa1 ha1=>?_
 exists ha1,H3,S3,e1;ext;exists by walk_at "len",λa2 ha2=>?_
 exists ha2,H4,S4,e2;ext;exists by walk_at "len",λa3 ha3=>?_
 exists ha3,H5,S5,e3;ext;exists a3,_,_,rfl,rfl,e3,∅,∅,∅,λa4 ha4=>?_
 exists ha4,H6,S6,e4;refine η (x:=[7]) (y:=[0,0,0,0,0,0,0,0,0,0,0,0,0,0]) (S6 _ _ (S5 _ _ e2)) e4 ∅ λa5 H7 bf e5 S7=>?_;ext;exists by walk_at "len",λx1 xg1=>?_
 exists xg1,xH1,xS1,xe1;ext;exists by walk_at "len",λx2 xg2=>?_
 exists xg2,xH2,xS2,xe2;ext;exists by walk_at "len",λx3 xg3=>?_
 exists xg3,xH3,xS3,xe3;ext;exists by walk_at "len",λx4 xg4=>?_
 exists xg4,xH4,xS4,xe4;have ay:=xS4;have xe3:=ay _ _ xe3;have av:=xS3.trans ay;have xe2:=av _ _ xe2;have aq:=xS2.trans av;have xe1:=aq _ _ xe1;have aI:=xS1.trans aq;ext;exists by walk_at "len",λa6 ha6=>?_
 exists ha6,H8,S8,e6;ext;exists by walk_at "len",λy1 yg1=>?_
 exists yg1,yH1,yS1,ye1;ext;exists by walk_at "len",λy2 yg2=>?_
 exists yg2,yH2,yS2,ye2;ext;exists by walk_at "len",λy3 yg3=>?_
 exists yg3,yH3,yS3,ye3;have aw:=yS3;have ye2:=aw _ _ ye2;have ar:=yS2.trans aw;have ye1:=ar _ _ ye1;have ao:=yS1.trans ar;exists a6,y3,_,_,rfl,rfl,ao _ _ e6,ye3,by show 6+2<=sizeLine;decide,λol hol=>?_
 exists hol,G,SG,eol;have T8:yx H8 G:=ao.trans SG;have T7:yx H7 G:=aI.trans (S8.trans T8);have T3:yx H3 G:=S4.trans (S5.trans (S6.trans (S7.trans T7)));have a8:yx H G:=aH.trans (S3.trans T3);have ab:=ag.same (S3.trans T3);have Z:=af.same (S3.trans T3);have aZ:=a8 _ _ au;have am:=a8 _ _ aM;have aC:=T3 _ _ e1;have aS:=T7 _ _ e5;have aO:=(S8.trans T8) _ _ xe1;have aU:=(S8.trans T8) _ _ xe2;have az:=(S8.trans T8) _ _ xe3;have aV:=(S8.trans T8) _ _ xe4;have aA:=SG _ _ ye1;have aQ:=SG _ _ ye2;have ac:Byt (ygd C P):=Byt.r (x:=((C.n:Nat):Int)::lkF C C.n) (by rw[<- yew];exact S.b);have ad:Byt (((C.n:Nat):Int)::lkF C C.n):=Byt.l (y:=ygd C P) (by rw[<- yew];exact S.b);have aj:(((C.n:Nat):Int)::lkF C C.n).length+(ygd C P).length<=40000:=by have:=S.s;rw[yew,bY]at this;exact this
 clear xe1 xe2 xe3 xe4 ye1 ye2 ye3 e1 e2 e3 e4 e5 e6 g ag af;ext;refine xz (λh8=>?_) (λh8=>?_)
 .obtain⟨y,L,hy,hL,hn⟩:∃y L,atI [V.ref a1,V.ref a5,V.ref x1,V.ref x2,V.ref x3,V.ref x4,V.ref y1,V.ref y2] (D:Int)=some (.ref y)/\IL G y L/\yne (L++ygd C P)/\L.length<=20:=by
   have U:∀{L:Ο},L.length<=20->L.all (λb=>decide (0<=b) && decide (b<=255))=true->(∀C' r,CfN C'->L++ygd C P≠hdB C'++r)->yne (L++ygd C P)/\L.length<=20:=λ{L}h1 h2 h3=>⟨noH (Byt.app (λb hb=>by have:=List.all_eq_true.mp h2 b hb;simpa using this) ac) (by rw[bY];omega) h3,h1⟩;have h0:D=0\/D=1\/D=2\/D=3\/D=4\/D=5\/D=6\/D=7:=()
   rcases h0 with rfl|rfl|rfl|rfl|rfl|rfl|rfl|rfl
   .exists a1,[0],rfl,aC,U ∅ rfl λC' r hC e=>by rw[j3]at e;injection e with e _;have:=hC.n;omega
   .exists a5,_,rfl,aS,U ∅ rfl λC' r hC e=>by rw[j3]at e;injection e with e _;have:=hC.n;omega
   .exists x1,[1,3,0],rfl,aO,U ∅ rfl λC' r hC=>ytb (k:=3) (ps:=[]) (.inl ∅) hC
   .exists x2,[1,0,1,9],rfl,aU,U ∅ rfl λC' r hC=>ytb (k:=0) (ps:=[9]) (.inr (by right)) hC
   .exists x3,[1,0,2,2,1],rfl,az,U ∅ rfl λC' r hC=>ytb (k:=0) (ps:=[2,1]) (.inr (by right)) hC
   .exists x4,[1,1,2,4,4],rfl,aV,U ∅ rfl λC' r hC=>ytb (k:=1) (ps:=[4,4]) (.inr (by right)) hC
   .exists y1,[1,2,1,0],rfl,aA,U ∅ rfl λC' r hC=>ytb (k:=2) (ps:=[0]) (.inr (by right)) hC
   .exists y2,[1,0,5,1,2,3,4,5],rfl,aQ,U ∅ rfl λC' r hC=>ytb (k:=0) (ps:=[1,2,3,4,5]) (.inr (by right)) hC
  ext;refine zb (SqL.of eol) hy ?_;ext;refine η hL Z () λr G1 aT aL aP=>?_;exact k r _ G1 (a8.free aT) aL hn.1 (a8.trans aP)
 ext;refine xz (λaJ=>?_) (λaJ=>?_)
 .have ah:=ah;ext;exists by walk_at "len",λz1 zg1=>?_
  exists zg1,zH1,zS1,ze1;ext;exists by walk_at "len",λz2 zg2=>?_
  exists zg2,zH2,zS2,ze2;ext;exists by walk_at "len",λz3 zg3=>?_
  exists zg3,zH3,zS3,ze3;ext;exists by walk_at "len",λz4 zg4=>?_
  exists zg4,zH4,zS4,ze4;have zT3:=zS4;have ze3:=zT3 _ _ ze3;have zT2:=zS3.trans zT3;have ze2:=zT2 _ _ ze2;have zT1:=zS2.trans zT2;have ze1:=zT1 _ _ ze1;have ak:=zS1.trans zT1;ext
  obtain⟨y,u,v,hy,hL,aF,hv,hu⟩:∃y u v,atI [V.ref z1,V.ref z2,V.ref z3] ((D:Int)-8)=some (.ref y)/\IL zH4 y [u,v]/\1000<256*u+v/\(0<=v/\v<=255)/\0<=u/\u<=255:=by
   have h0:(D:Int)-8=0\/(D:Int)-8=1\/(D:Int)-8=2:=()
   rcases h0 with e|e|e<;>rw[e]
   .exists z1,4,0,rfl,ze1,∅,∅,∅,∅
   .exists z2,3,233,rfl,ze2,∅,∅,∅,∅
   .exists z3,255,255,rfl,ze3,∅,∅,∅,∅
  refine zb (SqL.of ze4) hy ?_;refine η (ab.same ak) hL (by show _+2<=_;omega) λc1 G1 b9 f1 T1=>?_;ext;refine ym9 (n:=2) (y:=((P.length:Nat):Int)::(P.map (pdB C P)).flatten) (Z.same (ak.trans T1)) rfl rfl λc2 G2 bd f2 T2=>?_;have bc:(((P.length:Nat):Int)::(P.map (pdB C P)).flatten).length<=(ygd C P).length:=by unfold ygd;rw[cB (a:=((C.mo:Nat):Int)/256),cB (a:=((C.mo:Nat):Int)%256)];omega
  refine η (f1.same T2) f2 (by rw[bY];show _+2+_<=_;omega) λc3 G3 aW f3 T3=>?_;have I:=a8.trans (ak.trans (T1.trans T2));refine k c3 _ G3 (I.free aW) f3 (noH (Byt.app (Byt.app ad (Byt.cons hu (Byt.cons hv Byt.nil))) (Byt.drop ac 2)) (by rw[bY,bY];show _+2+_<=_;omega) λC' r aK=>?_) (I.trans T3);rw[cH];exact vf7 aF hv aK
 let⟨q,t,as,bh,b4,ap,bg,b6,aa⟩:=yf8 S.o hl;obtain⟨fl,a9⟩:∃fl,(P.map (pdB C P)).flatten=fl:=⟨_,rfl⟩;obtain⟨tl,aB⟩:∃tl,q.by C++t=tl:=⟨_,rfl⟩;obtain⟨pt,ai⟩:∃pt,((C.n:Nat):Int)::lkF C C.n=pt:=⟨_,rfl⟩;obtain⟨u,eu⟩:∃u,((C.mo:Nat):Int)/256=u:=⟨_,rfl⟩;obtain⟨v,ev⟩:∃v,((C.mo:Nat):Int)%256=v:=⟨_,rfl⟩;have aD:ygd C P=u::v::((P.length:Nat):Int)::fl:=by unfold ygd;rw[a9,eu,ev]
 have al:hdB C=pt++[u,v]:=by rw[yst,ai,eu,ev]
 rw[a9,aB]at aa;rw[ai]at ab ad aj;rw[aD]at Z ac aj;simp only[cB]at aj;have bb:fl.length=(nmB q.nm).length+(tl.length+1):=by rw[aa,bY,cB]
 have ba:(nmB q.nm).length=1+q.nm.length:=by unfold nmB;rw[cB,bz];have:=u7 q.nm;omega
 have b5:=uu ap.1;have N:Byt fl:=λb hb=>ac b (.tail _ (.tail _ (.tail _ hb)));have aN:Byt [u,v]:=λb hb=>ac b (dA (((P.length:Nat):Int)::fl) hb);have bi:=S.z
 have M:∀{d X:Ο},d=pt++[u,v]++X->Byt X->pt.length+X.length<=90000->(∀R,zz C R->X≠((R.length:Nat):Int)::(R.map (pdB C R)).flatten)->yne d:=λ{d X}e h1 h2 h3=>by
  rw[e,<- al];exact noP S.c S.m (by rw[al];exact Byt.app (Byt.app ad aN) h1) (by rw[al];simp only[bY,cB,cQ];omega) h3
 ext;refine ym9 (n:=3) (y:=fl) Z rfl rfl λpc G1 b0 J T1=>?_;ext;refine zb (v:=.int (q.nm.length:Nat)) (SqL.of J) (xf (j:=0) (by rw[aa];rfl)) ?_;ext;rw[show (1:Int)+((q.nm.length:Nat):Int)=(((nmB q.nm).length:Nat):Int) by omega];have a0:=a8.trans T1;have g:=ab.same T1;have B:=Z.same T1;have ae:IL G1 fi _:=T1 _ _ am;have a7:fl.drop (nmB q.nm).length=0::tl:=by rw[aa,List.drop_left]
 refine xz (λh=>?_) (λh=>?_)
 .ext;refine ykn (n:=3) (y:=[u,v,((P.length:Nat):Int)]) B rfl rfl λc1 J1 k1 f1 U1=>?_;refine η (g.same U1) f1 (by simp only[bY,cB,cQ];omega) λc2 J2 k2 f2 O=>?_;ext;exists by walk_at "len",λc3 k3=>?_
  exists k3,J3,U3,f3;refine η (y:=[0]) (f2.same U3) f3 (by simp only[bY,cB,cQ];omega) λc4 J4 k4 f4 W=>?_;ext;refine ym9 (y:=0::tl) (J.same (U1.trans (O.trans (U3.trans W)))) rfl a7 λc5 J5 k5 f5 U5=>?_;refine η (f4.same U5) f5 (by simp only[bY,cB,cQ];omega) λc6 J6 k6 f6 U6=>?_;have I:=a0.trans (U1.trans (O.trans (U3.trans (W.trans U5))));refine k c6 _ J6 (I.free k6) f6 (M (X:=((P.length:Nat):Int)::0::(0::tl)) (by simp) (Byt.cons () (Byt.cons ∅ (by rw[<- a7];exact Byt.drop N _))) (by simp only[bY,cB,cQ];omega) λR Y=>w11 Y hl (.inl ∅)) (I.trans U6)
 ext;refine xz (λh=>?_) (λh=>?_)
 .ext;refine ykn (n:=3) (y:=[u,v,((P.length:Nat):Int)]) B rfl rfl λc1 J1 k1 f1 U1=>?_;refine η (g.same U1) f1 (by simp only[bY,cB,cQ];omega) λc2 J2 k2 f2 O=>?_;ext;exists by walk_at "len",λc3 k3=>?_
  exists k3,J3,U3,f3;refine η (y:=[9]) (f2.same U3) f3 (by simp only[bY,cB,cQ];omega) λc4 J4 k4 f4 W=>?_;ext;exists by walk_at "len",λc7 k7=>?_
  exists k7,J7,U7,f7;refine η (y:=[3,3,3,3,3,3,3,3,3]) (f4.same U7) f7 (by simp only[bY,cB,cQ];omega) λc8 J8 k8 f8 U8=>?_;ext;have UU:=U1.trans (O.trans (U3.trans (W.trans (U7.trans U8))));refine ym9 (y:=0::tl) (J.same UU) rfl a7 λc5 J5 k5 f5 U5=>?_;refine η (f8.same U5) f5 (by simp only[bY,cB,cQ];omega) λc6 J6 k6 f6 U6=>?_;have I:=a0.trans (UU.trans U5);refine k c6 _ J6 (I.free k6) f6 (M (X:=((P.length:Nat):Int)::9::([3,3,3,3,3,3,3,3,3]++(0::tl))) (by simp) (Byt.cons () (Byt.cons ∅ (Byt.app (λb hb=>by simp at hb;omega) (by rw[<- a7];exact Byt.drop N _)))) (by simp only[bY,cB,cQ];omega) λR Y=>w11 Y hl (.inr ∅)) (I.trans U6)
 ext;refine xz (λh=>?_) (λh=>?_)
 .ext;refine ykn (n:=3) (y:=[u,v,((P.length:Nat):Int)]) B rfl rfl λc1 J1 k1 f1 U1=>?_;refine η (g.same U1) f1 (by simp only[bY,cB,cQ];omega) λc2 J2 k2 f2 O=>?_;ext;exists by walk_at "len",λc3 k3=>?_
  exists k3,J3,U3,f3;refine η (y:=[1,26]) (f2.same U3) f3 (by simp only[bY,cB,cQ];omega) λc4 J4 k4 f4 W=>?_;ext;refine ym9 (y:=0::tl) (J.same (U1.trans (O.trans (U3.trans W)))) rfl a7 λc5 J5 k5 f5 U5=>?_;refine η (f4.same U5) f5 (by simp only[bY,cB,cQ];omega) λc6 J6 k6 f6 U6=>?_;have I:=a0.trans (U1.trans (O.trans (U3.trans (W.trans U5))));refine k c6 _ J6 (I.free k6) f6 (M (X:=((P.length:Nat):Int)::1::26::(0::tl)) (by simp) (Byt.cons () (Byt.cons ∅ (Byt.cons ∅ (by rw[<- a7];exact Byt.drop N _)))) (by simp only[bY,cB,cQ];omega) λR Y=>w13 Y hl) (I.trans U6)
 ext;refine xz (λh=>?_) (λh=>?_)
 .ext;refine ykn (n:=3) (y:=[u,v,((P.length:Nat):Int)]) B rfl rfl λc1 J1 k1 f1 U1=>?_;refine η (g.same U1) f1 (by simp only[bY,cB,cQ];omega) λc2 J2 k2 f2 O=>?_;ext;refine ykn (y:=nmB q.nm) (J.same (U1.trans O)) rfl (by rw[aa,List.take_left]) λc7 J7 k7 f7 U7=>?_;refine η (f2.same U7) f7 (by simp only[bY,cB,cQ];omega) λc8 J8 k8 f8 U8=>?_;ext;exists by walk_at "len",λc3 k3=>?_
  exists k3,J3,U3,f3;refine η (y:=[1]) (f8.same U3) f3 (by simp only[bY,cB,cQ];omega) λc4 J4 k4 f4 W=>?_;ext;have UU:=U1.trans (O.trans (U7.trans (U8.trans (U3.trans W))));have ax:fl.drop ((nmB q.nm).length+1)=tl:=by rw[<- List.drop_drop,a7];rfl
  refine ym9 (n:=(nmB q.nm).length+1) (y:=tl) (J.same UU) () ax λc5 J5 k5 f5 U5=>?_;refine η (f4.same U5) f5 (by simp only[bY,cB,cQ];omega) λc6 J6 k6 f6 U6=>?_;have I:=a0.trans (UU.trans U5);refine k c6 _ J6 (I.free k6) f6 (M (X:=((P.length:Nat):Int)::(nmB q.nm++1::tl)) (by simp) (Byt.cons () (Byt.app (by rw[aa]at N;exact Byt.l N) (Byt.cons ∅ (by rw[<- ax];exact Byt.drop N _)))) (by simp only[bY,cB,cQ];omega) λR Y=>w14 Y hl (x9 ap.1)) (I.trans U6)
 ext;refine xz (λh=>?_) (λh=>?_)
 .ext;refine ykn (n:=2) (y:=[u,v]) B rfl rfl λc1 J1 k1 f1 U1=>?_;refine η (g.same U1) f1 (by simp only[bY,cB,cQ];omega) λc2 J2 k2 f2 O=>?_;ext;refine zb (v:=.int (P.length:Nat)) (SqL.of (B.same (U1.trans O))) (xf (j:=2) rfl) ?_;ext;exists by walk_at "len",λc3 k3=>?_
  exists k3,J3,U3,f3;refine η (y:=[((P.length:Nat):Int)+1]) (f2.same U3) f3 (by simp only[bY,cB,cQ];omega) λc4 J4 k4 f4 W=>?_;have UU:=U1.trans (O.trans (U3.trans W));ext;refine η f4 (J.same UU) (by simp only[bY,cB,cQ];omega) λc6 J6 k6 f6 U6=>?_;have I:=a0.trans UU;refine k c6 _ J6 (I.free k6) f6 (M (X:=(((P.length:Nat):Int)+1)::fl) (by simp) (Byt.cons () N) (by simp only[cB];omega) λR Y e=>?_) (I.trans U6);injection e with e1 e2;have:=yps S.o Y (a9.trans e2);omega
 ext;refine xz (λh=>?_) (λh=>?_)
 .ext;refine ykn (n:=2) (y:=[u,v]) B rfl rfl λc1 J1 k1 f1 U1=>?_;refine η (g.same U1) f1 (by simp only[bY,cB,cQ];omega) λc2 J2 k2 f2 O=>?_;ext;exists by walk_at "len",λc3 k3=>?_
  exists k3,J3,U3,f3;refine η (y:=[2]) (f2.same U3) f3 (by simp only[bY,cB,cQ];omega) λc4 J4 k4 f4 W=>?_;have UU:=U1.trans (O.trans (U3.trans W))
  have an:(pdB C P P[0]).length<=fl.length/\Byt (pdB C P P[0]):=by
   have:=ykd hl (pdB C P);rw[a9]at this;have this:fl=pdB C P P[0]++_:=this;exists by rw[this,bY];omega,by rw[this]at N;exact Byt.l N
  ext;refine η f4 (ae.same UU) (by simp only[bY,cB,cQ];omega) λc5 J5 k5 f5 U5=>?_;ext;refine η f5 (ae.same (UU.trans U5)) (by simp only[bY,cB,cQ];omega) λc6 J6 k6 f6 U6=>?_;have I:=a0.trans (UU.trans U5);exact k c6 _ J6 (I.free k6) f6 (M (X:=2::(pdB C P P[0]++pdB C P P[0])) (by simp) (Byt.cons ∅ (Byt.app an.2 an.2)) (by simp only[bY,cB];omega) λR Y=>w17 S.o hl Y) (I.trans U6)
 ext;exists λσ2 F=>σ2=[some (.ref lo),some (.ref da),some (.int D),some (.ref fi),some (.int f),some (.ref pa),some (.ref be),some (.ref ol),some (.ref pc),some (.int (nmB q.nm).length),none]/\G1=F,?_,?_
 .ext;refine xz (λh=>?_) (λh=>?_)
  .ext;refine xz (λh=>?_) (λh=>?_)
   .ext;exists by walk_at "len",λc1 k1=>?_
    exists k1,J1,U1,f1;refine η (y:=[0,(f:Int)-1]) (g.same U1) f1 (by simp only[cB,cQ];omega) λc2 J2 k2 f2 O=>?_;ext;refine ym9 (n:=2) (y:=((P.length:Nat):Int)::fl) (B.same (U1.trans O)) rfl rfl λc3 J3 k3 f3 U3=>?_;refine η (f2.same U3) f3 (by simp only[bY,cB,cQ];omega) λc4 J4 k4 f4 W=>?_;have I:=a0.trans (U1.trans (O.trans U3));refine k c4 _ J4 (I.free k4) f4 ?_ (I.trans W);have b7:=S.c.w;have aY:=S.m;rw[cA hl]at as;obtain rfl:=cJ as;have aX:CfN ⟨C.n,C.kd,C.ps,f-1,f-1⟩:=⟨S.c.n,by show f-1<=1000;omega,rfl,S.c.p,S.c.z⟩
    have eh:hdB ⟨C.n,C.kd,C.ps,f-1,f-1⟩=pt++[0,(f:Int)-1]:=by
     rw[yst,<- ai];show _++[((f-1:Nat):Int)/256,((f-1:Nat):Int)%256]=_;rw[show ((f-1:Nat):Int)/256=0 by omega,show ((f-1:Nat):Int)%256=(f:Int)-1 by omega];rfl
    rw[<- eh];refine noP aX (by show f-1<=200;omega) (by rw[eh];exact Byt.app (Byt.app ad (Byt.cons ∅ (Byt.cons () Byt.nil))) (Byt.cons () N)) (by rw[eh];simp only[bY,cB,cQ];omega) λR Y=>?_;rw[<- a9];exact w18 S.o hl Y rfl rfl rfl (by show f-1<_;omega)
   .ext;exists rfl,rfl
  .ext;exists rfl,rfl
 rintro σ2 F ⟨rfl,rfl⟩;ext;refine ykn (n:=2) (y:=[u,v]) B rfl rfl λc1 J1 k1 f1 U1=>?_;refine η (g.same U1) f1 (by simp only[bY,cB,cQ];omega) λc2 J2 k2 f2 O=>?_;ext;refine zb (v:=.int (P.length:Nat)) (SqL.of (B.same (U1.trans O))) (xf (j:=2) rfl) ?_;ext;exists by walk_at "len",λc3 k3=>?_
 exists k3,J3,U3,f3;refine η (y:=[((P.length:Nat):Int)-1]) (f2.same U3) f3 (by simp only[bY,cB,cQ];omega) λc4 J4 k4 f4 W=>?_;have UU:=U1.trans (O.trans (U3.trans W));ext;refine η f4 (J.same UU) (by simp only[bY,cB,cQ];omega) λc6 J6 k6 f6 U6=>?_;have I:=a0.trans UU;refine k c6 _ J6 (I.free k6) f6 (M (X:=(((P.length:Nat):Int)-1)::fl) (by simp) (Byt.cons () N) (by simp only[cB];omega) λR Y e=>?_) (I.trans U6);injection e with e1 e2;have:=yps S.o Y (a9.trans e2);omega
#synth ycw ["_law_data","_law_first","_law_cell","_law_at","_law_byte"] ["_law_data","_law_first","_law_cell"] ynx
inductive ye7(K:z0)(vs:Τ)(H:Hp)(Q:VK)(E':XK):Prop
 |mk(da:xy)(C:Cf)(vt:Ο)(c:Int)(_:vs=[.ref da,.int (((hdB C).length:Nat):Int),.int c])(_:H da=some (.lst ((hdB C++vt).map V.int)))(_:CfN C)(_:C.mo<=200)(_:1<=vt.length)(_:(hdB C++vt).length<=50000)(_:Byt (hdB C++vt))(_:0<=c)(_:∀r d H',H r=none->H' r=some (.lst (d.map V.int))->ShA d->yx H H'->Q (.ref r) H')
def yqi:vx P w K mg Γ CX0 1 a.Hf a.Hk ["_law_data","_law_first","_law_cell"] (ye7 K):=by
 exists T.Iv.F.ok,ycw,N;let⟨M,C,vt,c,rfl,e,W,J,X,n,R,hc,k⟩:=h;have O:(hdB C++vt).length=(hdB C).length+vt.length:=bY
 obtain⟨j,hj,Z⟩:∃j:Nat,c/4%((((hdB C++vt).length:Nat):Int)-(((hdB C).length:Nat):Int))=(j:Int)/\j<vt.length:=by
  rw[show (((hdB C++vt).length:Nat):Int)-(((hdB C).length:Nat):Int)=(vt.length:Int) by omega];have p:=ew (c/4) (show (vt.length:Int)≠0 by omega);have h1:=ee (c/4) (show 0<(vt.length:Int) by omega);exists(c/4%(vt.length:Int)).toNat,(),()
 obtain⟨b,B,t⟩:∃b:Int,c/1024%256=b/\0<=b/\b<=255:=⟨_,rfl,(),()⟩;have v:∀i,(hdB C++vt).take ((hdB C).length+i)=hdB C++vt.take i:=λi=>List.take_length_add_append i;have I:∀i,(hdB C++vt).drop ((hdB C).length+i)=vt.drop i:=λi=>List.drop_length_add_append i;have m:∀{r G}{x:Ο},H r=none->G r=some (.lst ((hdB C++x).map V.int))->Byt x->x.length<=vt.length+1->yx H G->Q (.ref r) G:=λ{r G x}D N hx hl S=>k r _ G D N (.of W J (Byt.app (Byt.l R) hx) (by rw[bY];omega)) S;have o:∀{G:Hp},yx H G->G M=some (.lst ((hdB C++vt).map V.int)):=λS=>S _ _ e;refine yf (yu (i:=3) ycw.nd rfl (Or.inl rfl) (yn vv (pv 1) (yn w5 (yn v6 (pv 2) yc) (yn ub (pcB yq T.A9 (pa1 (pv 0))) (pv 1))))) ?_;refine yf (yu (i:=4) ycw.nd rfl (Or.inl rfl) (yn w5 (yn v6 (pv 2) yc) yc)) ?_;refine yf (wa (yw xx (yn w5 (pv 2) yc) yc (y9 _)) (yd (yt (yn vh (yn vh (yz vn (pv 0) vo (vg (pv 3))) (vd (pa1 (pv 4)))) (yz vn (pv 0) (vg (yn vv (pv 3) yc)) vo)))) y8) ?_;refine yf (wa (yw xx (yn w5 (pv 2) yc) yc (y9 _)) (yd (yt (yn vh (yz vn (pv 0) vo (vg (pv 3))) (yz vn (pv 0) (vg (yn vv (pv 3) yc)) vo)))) y8) ?_;refine yf (wa (yw xx (yn w5 (pv 2) yc) yc (y9 _)) (yd (yt (yn vh (yn vh (yz vn (pv 0) vo (vg (pv 3))) (vd (pa1 (pv 4)))) (yz vn (pv 0) (vg (pv 3)) vo)))) y8) ?_;exists 3,2,yd (yt (yz vn (pv 0) vo (vg (pv 3))));refine uc (SqL.of e) ?_;rw[bz];ext;rw[hj,B];have d:Byt vt:=Byt.r R;refine xz (λp=>?_) (λp=>?_)
 .ext;refine zy (SqL.of e) λu hu=>?_;rw[show ((((hdB C).length:Nat):Int)+(j:Int))=(((hdB C).length+j:Nat):Int) by omega,x8,<- dY,v];exists hu,H1,S1,f1;ext;exists by walk_at "len",λw hw=>?_
  exists hw,H2,S2,f2;exists u,w,_,_,rfl,rfl,S2 _ _ f1,f2,wv (by rw[bz,bY,cL];show _+1<=_;omega),λx hx=>?_;exists hx,H3,S3,f3;have g:=S1.trans (S2.trans S3);ext;refine zy (SqL.of (o g)) λy hy=>?_;rw[show ((((hdB C).length+j:Nat):Int)+1)=(((hdB C).length+(j+1):Nat):Int) by omega,Ñ,<- List.map_drop,I];exists hy,H4,S4,f4;exists x,y,_,_,rfl,rfl,S4 _ _ f3,f4,wv (by rw[bY,bz,bz,bY,cL,df];show _+1+_<=_;omega),λz n=>?_;have f:=g.trans S4;refine m (x:=vt.take j++b::vt.drop (j+1)) (f.free n) ?_ (Byt.app (Byt.take d _) (Byt.cons t (Byt.drop d _))) (by rw[bY,cL,cB,df];omega) (f.trans (y6 n));rw[ya];simp
 ext;refine xz (λp=>?_) (λp=>?_)
 .ext;refine zy (SqL.of e) λu hu=>?_;rw[show ((((hdB C).length:Nat):Int)+(j:Int))=(((hdB C).length+j:Nat):Int) by omega,x8,<- dY,v];exists hu,H1,S1,f1;ext;refine zy (SqL.of (o S1)) λy hy=>?_;rw[show ((((hdB C).length+j:Nat):Int)+1)=(((hdB C).length+(j+1):Nat):Int) by omega,Ñ,<- List.map_drop,I];exists hy,H2,S2,f2;exists u,y,_,_,rfl,rfl,S2 _ _ f1,f2,wv (by rw[bz,bz,bY,cL,df];omega),λz n=>?_;have q:=S1.trans S2;refine m (x:=vt.take j++vt.drop (j+1)) (q.free n) ?_ (Byt.app (Byt.take d _) (Byt.drop d _)) (by rw[bY,cL,df];omega) (q.trans (y6 n));rw[ya];simp
 ext;refine xz (λp=>?_) (λp=>?_)
 .ext;refine zy (SqL.of e) λu hu=>?_;rw[show ((((hdB C).length:Nat):Int)+(j:Int))=(((hdB C).length+j:Nat):Int) by omega,x8,<- dY,v];exists hu,H1,S1,f1;ext;exists by walk_at "len",λw hw=>?_
  exists hw,H2,S2,f2;exists u,w,_,_,rfl,rfl,S2 _ _ f1,f2,wv (by rw[bz,bY,cL];show _+1<=_;omega),λx hx=>?_;exists hx,H3,S3,f3;have g:=S1.trans (S2.trans S3);ext;refine zy (SqL.of (o g)) λy hy=>?_;rw[Ñ,<- List.map_drop,I];exists hy,H4,S4,f4;exists x,y,_,_,rfl,rfl,S4 _ _ f3,f4,wv (by rw[bY,bz,bz,bY,cL,df];show _+1+_<=_;omega),λz n=>?_;have f:=g.trans S4;refine m (x:=vt.take j++b::vt.drop j) (f.free n) ?_ (Byt.app (Byt.take d _) (Byt.cons t (Byt.drop d _))) (by rw[bY,cL,cB,df];omega) (f.trans (y6 n));rw[ya];simp
 .ext;refine zy (SqL.of e) λu hu=>?_;rw[show ((((hdB C).length:Nat):Int)+(j:Int))=(((hdB C).length+j:Nat):Int) by omega,x8,<- dY,v];exact m (x:=vt.take j) hu ya (Byt.take d _) (by rw[cL];omega) (y6 hu)
def yyv{xs:Τ}:Ĩ xs none (some (-1))=xs.take (xs.length-1):=by
 unfold Ĩ;rw[HT.sIx_none,List.drop_zero,Nat.sub_zero]
 congr 1
 unfold HT.sIx;simp;omega
def yz0{C C':Cf}{P P':qi Pd}(hC:CfN C)(hC':CfN C')(h:zz C P)(h':zz C' P'){x:Ο}(e:shB C P++x=shB C' P'++y):x=y:=by
 unfold shB at e;rw[cH,cH]at e;let⟨rfl,e⟩:=ō hC hC' e;injection e with e1 e;have a:P.length=P'.length:=()
 exact(ő (i:=P.length) h h' (cE _) (Nat.le_of_eq a) (by rw[dn,a,dn];exact e)).2
def Lw5.ext{C:Cf}{P:qi Pd}(h:Lw5 C P){z:Ο}(hz:z≠[])(hb:Byt z)(hl:z.length<=50000):yne (shB C P++z):=by
 have g:=h.s;exists⟨Byt.app h.b hb,by rw[bY];omega,λf r a e=>?_⟩,λf i a d e=>hz ?_
 .unfold shB at e;rw[cH]at e;rw[<- (ō h.c a e).1];exact h.m
 .exact yz0 h.c a h.o d (e.trans (dW _).symm)
def Lw5.cut{C:Cf}{P:qi Pd}(h:Lw5 C P){k:Nat}(hk:k<(shB C P).length):yne ((shB C P).take k):=by
 have i:=h.s;have d:=dX k (shB C P);exists⟨Byt.take h.b k,by rw[cL];omega,λg r a e=>?_⟩,λg j a f e=>?_
 .rw[e,cH]at d;rw[(ō a h.c d).1];exact h.m
 .rw[e]at d;have:=congrArg List.length (yz0 a h.c f h.o (d.trans (dW _).symm));rw[df,cQ]at this;omega
def ygc{H:Hp}{p:xy}(h:IL H p d)(n:yne d):NoX K H (.ref p):=.inr ⟨p,d,rfl,h,n.1,n.2⟩
def ykf{H:Hp}{p:xy}{v:V}(h:H p=some (.lst (d.map V.int++[v])))(hl:d.length<=50000)(hv:∃n,xu K H v (.type n))(hs:sgV v=false):NoX K H (.ref p):=by
 refine .inl ⟨"list",.lst h,.inr ⟨p,_,rfl,h,λy a=>?_,by rw[bY,bz,dI];omega,by rw[List.all_append,List.all_cons,hs,Bool.false_and,Bool.and_false,Bool.and_false]⟩⟩;rcases db.mp a with z|z
 .obtain⟨i,_,rfl⟩:=cI.mp z;exists _,.int i
 .rw[cR.mp z];exact hv
#synth ě ["_law_looks_here","_law_data","_law_cell","_law_first","_law_many","_law_things","_law_behind","_law_way"] ["_law_looks_here","_law_data","_law_cell","_law_first","_law_many"] ynz
inductive yk7(K:z0)(vs:Τ)(H:Hp)(Q:VK)(E':XK):Prop
 |mk(lo da fi:xy)(C:Cf)(P:qi Pd)(lk tp:Λ)(c:Int)(many:Nat)(_:vs=[.ref lo,.ref da,.int c,.ref fi,.int many])(_:0<=c)(_:H lo=some (.lst (refs lk C.n)))(_:xi H C.n lk C.kd tp C.ps)(_:H da=some (.lst ((shB C P).map V.int)))(_:Lw5 C P)(_:(∃hl:0<P.length,H fi=some (.lst ((pdB C P P[0]).map V.int))/\many=P[0].tx.length))(_:∀x H',NoX K H' x->yx H H'->Q x H')
def yrc:vx P w K mg Γ CX0 3 a.Hg a.Hl ["_law_looks_here","_law_data","_law_cell","_law_first","_law_many"] (yk7 K):=by
 exists T.Iw.F.ok,ě,hr;let⟨lo,M,fi,C,P,lk,tp,c,o,rfl,hc,a0,hR,f,q,⟨hl,a1,v⟩,k⟩:=h;have hs:=q.s;have f:IL H M (shB C P):=f;have ai:((shB C P).map V.int).length<=40000:=by rw[bz];exact hs
 refine yf (yu (i:=5) ě.nd rfl (Or.inl rfl) (vgk (yvx (Æ (ybu jm) (Æ (ybu (pcT z9 T.Cd (pa1 (pv 1)))) (Æ (ybu v7) (Æ (ybu yc) (Æ (ybu yd6) (Æ (ybu (yn vh (pv 1) (vd (pa1 yc)))) (Æ (ybu (yn vh (pv 1) (vd (pa1 (ym0 yep yc))))) yv7 rfl) rfl) rfl) rfl) rfl) rfl) rfl)))) ?_;refine yf (yu (i:=5) ě.nd rfl (Or.inl rfl) (yn vh (pv 5) (vd (pac (yn vh (pv 1) (vd (pa1 ym3))) (pac (yn vh (pv 1) (vd (pa1 jm))) (pac (vd u8) (pa1 (vd (pa1 (pv 1)))))))))) ?_;refine yf (yu (i:=6) ě.nd rfl (Or.inl rfl) (vd (pac (yn vh (pv 1) (vd (pa1 (yn w5 (yn v6 (pv 2) yc) yc)))) (pac (yz vn (pv 1) vo (vg (ym0 yep yc))) (pac (yz vn (pv 1) vo (vg (yn v6 (pcB yq T.A9 (pa1 (pv 1))) yc))) (pa1 (yn yjp (pv 1) yc))))))) ?_;refine yf (yu (i:=7) ě.nd rfl (Or.inl rfl) (yn w5 (pv 2) yc)) ?_;refine yf (wa (yw ó (pv 7) yc (y9 _)) (yd (yt (ug (ysj T) hr.m T.Iu (pac (pv 0) (pac (pv 1) (pac (pv 7) (pac (pv 3) (pa1 (pv 4))))))))) y8) ?_;refine yf (wa (yw ó (pv 7) yc (y9 _)) (yd (yt (xk wl (pv 5) (yn ub (pv 7) yc) (λF F=>rfl)))) y8) ?_;exists 5,3,yd (yt (xk wl (pv 6) (yn ub (pv 7) yc) (λF F=>rfl)));exists M,_,rfl,.inl ⟨SqL.of f,λt1 ht1=>?_⟩;exists ht1,H1,S1,e1;ext;intro t2 ht2;exists ht2,H2,S2,e2;ext;exists by walk_at "len",λu1 hu1=>?_
 exists hu1,H3,S3,g1;have I:=S1.trans (S2.trans S3);refine ytf (I _ _ f) g1 (by show _+1<=_;omega) λc1 H4 ae f1 S4=>?_;have a2:=I.trans S4;ext;exists by walk_at "len",λu2 hu2=>?_
 exists hu2,H5,S5,g2;have R:=a2.trans S5;refine ytf (R _ _ f) g2 (by show _+1<=_;omega) λc2 H6 af f2 Z=>?_;have a7:=R.trans Z;ext;exists by walk_at "len",λth hth=>?_
 exists hth,H7,S7,g3;have a4:=a7.trans S7;ext;exists by walk_at "len",λu3 hu3=>?_
 exists hu3,H8,S8,g4;have W:=a4.trans S8;refine ytf (W _ _ f) g4 (by show _+1<=_;omega) λc3 H9 aj f3 S9=>?_;have a8:=W.trans S9;ext;exists by walk_at "len",λu4 hu4=>?_
 exists hu4,HA,SA,g5;have X:=a8.trans SA;refine ytf (X _ _ f) g5 (by show _+1<=_;omega) λc4 HB ad f4 SB=>?_;have a5:=X.trans SB;ext;exists by walk_at "len",λx1 xg1=>?_
 exists xg1,xH1,xS1,xe1;ext;exists by walk_at "len",λx2 xg2=>?_
 exists xg2,xH2,xS2,xe2;ext;exists by walk_at "len",λx3 xg3=>?_
 exists xg3,xH3,xS3,xe3;have U:=xS3;have xe2:=U _ _ xe2;have L:=xS2.trans U;have xe1:=L _ _ xe1;have t:=xS1.trans L;have N:yx H7 HB:=S8.trans (S9.trans (SA.trans SB));refine ytf (t _ _ (N _ _ g3)) xe3 (by show 7+4<=200000;decide) λtl HC ac gC SC=>?_;have a6:=a5.trans (t.trans SC);ext;exists by walk_at "len",λv1 hv1=>?_
 exists hv1,HD,SD,g6;have O:=a6.trans SD;refine η (y:=[c/8%256]) (f.same O) g6 (by show _+1<=_;omega) λw1 HE ag k1 SE=>?_;have B:=O.trans SE;ext;refine zy (SqL.of (f.same B)) λw2 hw2=>?_;rw[yyv,bz,<- dY];exists hw2,HF,SF,k2;have u:=B.trans SF;ext;refine uc (SqL.of (f.same u)) ?_;ext;refine ykn (n:=(shB C P).length/2) (f.same u) (by rw[bz];omega) rfl λw3 HG ah k3 Y=>?_;have D:=u.trans Y;ext;exists M,_,_,rfl,rfl,f.same D,∅,∅,wv (by rw[bz];show _*2<=_;omega),λw4 hw4=>?_
 exists hw4,HI,SI,k4;have k4:IL HI w4 (shB C P++shB C P):=by unfold IL;rw[k4,cM];show some (HO.lst (_++(_++[])))=_;rw[dW]
 have a3:=D.trans SI;ext;exists by walk_at "len",λbl hbl=>?_
 exists hbl,G,SJ,g7;have p:=a3.trans SJ;obtain⟨w,hw,aa⟩:∃w:Nat,c%34=(w:Int)/\w<34:=⟨(c%34).toNat,(),()⟩;ext;rw[hw];refine xz (λh=>?_) (λh=>?_)
 .ext;exists lo,M,fi,C,P,lk,tp,w,o,rfl,(),p _ _ a0,hR.same p,f.same p,q,⟨hl,p _ _ a1,v⟩,λr d H' h0 h1 J S=>?_
  exact k _ H' (ygc h1 J) (p.trans S)
 have g:yx HC G:=SD.trans (SE.trans (SF.trans (Y.trans (SI.trans SJ))));ext;refine xz (λh=>?_) (λh=>?_)
 .have z:yx HB G:=t.trans (SC.trans g);have l:yx H7 G:=N.trans z
  obtain⟨x,hx,J⟩:∃x,atI ([V.non,V.ref t1,V.str (Str.ofString "00"),V.int 7,V.ref t2,V.ref c1,V.ref c2]++[V.ref c3,V.ref c4,V.ref x1,V.ref x2]) ((w:Int)-19)=some x/\NoX K G x:=by
   obtain⟨j,rfl⟩:∃j,w=19+j:=⟨w-19,()⟩;rw[show ((19+j:Nat):Int)-19=(j:Int) by omega];have h0:j=0\/j=1\/j=2\/j=3\/j=4\/j=5\/j=6\/j=7\/j=8\/j=9\/j=10:=()
   rcases h0 with rfl|rfl|rfl|rfl|rfl|rfl|rfl|rfl|rfl|rfl|rfl
   .exists _,rfl,.inl ⟨_,.non,.inl ∅⟩
   .exists _,rfl,.inl ⟨_,.tup (l _ _ ((S2.trans (S3.trans (S4.trans (S5.trans (Z.trans S7))))) _ _ e1)),.inl ∅⟩
   .exists _,rfl,.inl ⟨_,.str _,.inl ∅⟩
   .exists _,rfl,.inl ⟨_,.int _,.inl ∅⟩
   .exists _,rfl,.inl ⟨_,.dK (l _ _ ((S3.trans (S4.trans (S5.trans (Z.trans S7)))) _ _ e2)),.inl ∅⟩
   .exists _,rfl,ykf (l _ _ ((S5.trans (Z.trans S7)) _ _ f1)) () ⟨_,.int _⟩ ∅
   .exists _,rfl,ykf (l _ _ (S7 _ _ f2)) () ⟨_,.int _⟩ ∅
   .exists _,rfl,ykf (z _ _ ((SA.trans SB) _ _ f3)) () ⟨_,.bl _⟩ ∅
   .exists _,rfl,ykf (z _ _ f4) () ⟨_,.non⟩ ∅
   .exists _,rfl,ygc (d:=[]) ((SC.trans g) _ _ xe1) (noH Byt.nil ∅ λC' r hC e=>by rw[j3]at e;cases e)
   .exists _,rfl,ykf (d:=[]) ((SC.trans g) _ _ xe2) ∅ ⟨_,.lst (f.same p)⟩ rfl
  ext;refine zb (SqL.of (g _ _ gC)) hx ?_;exact k _ _ J p
 .obtain⟨x,hx,J⟩:∃x,atI [V.ref w1,V.ref w2,V.ref w3,V.ref w4] ((w:Int)-30)=some x/\NoX K G x:=by
   obtain⟨j,rfl⟩:∃j,w=30+j:=⟨w-30,()⟩;rw[show ((30+j:Nat):Int)-30=(j:Int) by omega];have hp:1<=(shB C P).length:=by unfold shB;rw[bY,cB];omega
   have h0:j=0\/j=1\/j=2\/j=3:=()
   rcases h0 with rfl|rfl|rfl|rfl
   .exists _,rfl,ygc (k1.same (SF.trans (Y.trans (SI.trans SJ)))) (q.ext (by simp) (Byt.cons () Byt.nil) (by show 1<=_;decide))
   .exists _,rfl,ygc (d:=(shB C P).take ((shB C P).length-1)) ((Y.trans (SI.trans SJ)) _ _ k2) (q.cut ())
   .exists _,rfl,ygc (k3.same (SI.trans SJ)) (q.cut ())
   .exists _,rfl,ygc (k4.same SJ) (q.ext (λe=>by rw[e]at hp;cases hp) q.b ())
  ext;refine zb (SqL.of g7) hx ?_;exact k _ _ J p
def yk1{ps:Ο}(h:xp (ps.map V.int)=true):∀p,p∈ps->1<=p/\p<=8:=λp b=>by
 unfold xp at h;rw[cZ,cZ]at h;have:=(List.all_eq_true.mp h.1.2) _ (cI.mpr ⟨p,b,rfl⟩);have a:(decide (1<=p) && decide (p<=8))=true:=this;rw[cZ]at a;exists of_decide_eq_true a.1,of_decide_eq_true a.2
def Sto.byt{H:Hp}{C:Cf}{P:qi Pd}{X:Sx}{lk:Λ}(h:Sto K a H st C P X)(hR:xi H C.n lk C.kd tp C.ps)(hP:P.length<=6)(hl:∀q,q∈P->Û q.nm.cps.toList):(∀b,b∈shB C P->0<=b/\b<=255)/\(shB C P).length<=1000000:=by
 let⟨v,y,A,_,_⟩:=h.cf;exists λb d=>?_,?_
 .unfold shB hdB at d;rcases db.mp d with d|d
  .rcases db.mp d with d|d
   .rcases cS.mp d with rfl|d
    .omega
    .unfold lkF at d;let⟨l,hl,d⟩:=List.mem_flatten.mp d;let⟨i,k,rfl⟩:=cI.mp hl;have k:=dN.mp k;let⟨_,_,_,_,m⟩:=hR i k;have p:=uz m;rw[bz]at p;have z:=(C.kd i).isLt;rcases cS.mp d with rfl|d
     .omega
     .rcases cS.mp d with rfl|d
      .omega
      .have:=yk1 m b d;omega
   .rcases cS.mp d with rfl|d
    .omega
    .rw[cR.mp d];omega
  .rcases cS.mp d with rfl|d
   .omega
   .obtain⟨l,f,d⟩:=List.mem_flatten.mp d;let⟨q,j,rfl⟩:=cI.mp f;have w:=uu (h.nm q j).1;unfold pdB nmB at d;rcases db.mp d with d|d
    .rcases db.mp d with d|d
     .rcases cS.mp d with rfl|d
      .omega
      .obtain⟨c,r,rfl⟩:=cI.mp d;let⟨g,s⟩:=hl q j c r;rw[yn6 g ()];omega
     .rw[cR.mp d]
      cases hbs:q.bs with
      |none=>exact(show (0:Int)<=0/\(0:Int)<=255 by decide)
      |some x =>
       have e:=h.to q j;rw[hbs]at e;let⟨u,t,o,_⟩:=e;have:=List.idxOf_lt_length_iff.mpr (show x∈P.map (·.nm)from cI.mpr ⟨u,t,o⟩);rw[bz]at this;show 0<=(((P.map (·.nm)).idxOf x:Nat):Int)+1/\(((P.map (·.nm)).idxOf x:Nat):Int)+1<=255;omega
    .exact ybh _ b d
 .have g:=h.pls P.length (cE _);have s:=hR.lkl C.n (cE _);rw[dn]at g;unfold shB hdB;rw[bY,bY,cB,cB];show _+1+2+(_+1)<=_;omega
def xi.can{H:Hp}{n:Nat}{lk:Λ}{kd:Ν}{ps:Κ}(h:xi H n lk kd tp ps):xi H n lk (λi=>if i<n then kd i else 0) tp (λi=>if i<n then ps i else []):=λi a=>by
 show LkG H _ (if i<n then kd i else 0) _ (if i<n then ps i else []);rw[if_pos a,if_pos a];exact h i a
def yty(zs:Ο):∃ms:Ο,Ĩ (zs.map V.int) (some 6) (some 9)=ms.map V.int/\ms.length<=3:=by let⟨ms,e,_,_⟩:=yiu zs (some 6) (some 9);exists ms,e,?_;have h:=congrArg List.length e;rw[bz]at h;rw[<- h];unfold Ĩ;rw[show (6:Int)=((6:Nat):Int)from rfl,show (9:Int)=((9:Nat):Int)from rfl,HT.sIx_nat,HT.sIx_nat,cL];omega
#synth za ["_law_script","_law_looks_here","_law_names_here","_law_store","_law_some","_law_data","_law_letters","_law_first","_law_many","_law_cell","_law_bad","_law_word","_law_found"] ["_law_script"] vas
inductive yes(K:z0)(vs:Τ)(H:Hp)(Q:VK)(E':XK):Prop
 |mk(l:xy)(ns:Ο)(_:vs=[.ref l])(_:SqL K H l (ns.map V.int))(_:ns.length<=63)(_:∀H',Q (.bl true) H')
def yw6:vx P w K mg Γ CX0 18 a.Ly a.Hm ["_law_script"] (yes K):=by
 exists T.Ix.F.ok,za,f;let⟨l,zs,rfl,hS,bQ,k⟩:=h;refine yf (yu (i:=1) za.nd rfl (Or.inl rfl) (ug (yw5 T) f.m T.Pq (pa1 (pv 0)))) ?_;refine yf (yu (i:=2) za.nd rfl (Or.inl rfl) (ug (yva T) f.m T.Pp (pa1 (ug (ñ T) f.m T.C4 (pac (pv 0) (pa1 yc)))))) ?_;refine yf (yu (i:=3) za.nd rfl (Or.inl rfl) (zi T.Fw (yn4 T) f.m rfl T.Fv T.Pi .nil wt (pac (pv 1) (pa1 (yn vv yc (yn w5 (ug (ñ T) f.m T.C4 (pac (pv 0) (pa1 yc))) yc)))))) ?_;refine yf (Ŷ (i:=4) (js:=[]) (ys:=[]) za.nd rfl rfl rfl (xg (yz vn (pv 0) (vg yc) (vg yc))) (λC s2 H2 fp=>(yn w5 (pv 0) yc)) rfl rfl (hyc:=y7) (hrel:=y7)) ?_;refine yf (yy (vj (pv 3) T.A2 T.Pj (ynj T) f.m T.Pw (show wq [V.non] _ from (.cons rfl .nil)) wt (pac (xk wl (pv 2) yc (λB B=>rfl)) (pa1 (yz vn (pv 4) vo (vg (yn w5 (ug (ñ T) f.m T.C4 (pac (pv 0) (pa1 yc))) yc))))))) ?_;refine yf (ρ (wa (yw xx (yn w5 (ug (ñ T) f.m T.C4 (pac (pv 0) (pa1 yc))) yc) yc (y9 _)) (yd (yy (vj (pv 3) T.A2 T.Pj (ynj T) f.m T.Qy .nil wt (pac (xk wl (pv 2) yc (λB B=>rfl)) (pac (yz vn (pv 4) (vg yc) vo) (pa1 (xk wl (vd (pac jm (pa1 (xk wl (pv 2) yc (λB B=>rfl))))) (yn w5 (yn v6 (ug (ñ T) f.m T.C4 (pac (pv 0) (pa1 yc))) yc) yc) (λB B=>rfl)))))))) y8)) ?_;refine yf (yu (i:=5) za.nd rfl (Or.inl rfl) (ug (yka T) f.m T.Fq (pa1 (pv 3)))) ?_;refine yf (Ŷ (i:=6) (js:=[]) (ys:=[]) za.nd rfl rfl rfl (ykb (xk wl (pv 2) yc (λB B=>rfl))) (λC s2 H2 fp=>(yoc (K:=K) (r:=(yc7)) rfl PySem.F.plainAttrs_str PySem.F.slot_str_index PySem.F.type_str_index yau v7 (pa1 (pv 0)))) rfl rfl (hyc:=y7) (hrel:=y7)) ?_;refine yf (yu (i:=7) za.nd rfl (Or.inl rfl) (yn vh (yn vh (yn vh (vd (pa1 (pcB yq T.A9 (pa1 (pv 6))))) (pv 6)) (vd (pa1 yc))) (vj (pv 3) T.A2 T.F0.m (yos T) f.m T.F0.B .nil wt (pa1 (xk wl (pv 2) yc (λB B=>rfl)))))) ?_;refine yf (yu (i:=8) za.nd rfl (Or.inl rfl) (pcB yq T.A9 (pa1 (vj (pv 3) T.A2 T.Il.m (ytl T) f.m T.Il.B .nil wt (pa1 (xk wl (pv 2) yc (λB B=>rfl))))))) ?_;refine yf (wa (yw (ybl f.units) (ug (yjk T) f.m T.Fs (pa1 (ug (yrc T) f.m T.Iw (pac (pv 1) (pac (pv 5) (pac (ug (ñ T) f.m T.C4 (pac (pv 0) (pa1 yc))) (pac (pv 7) (pa1 (pv 8))))))))) (zx (pac v7 (pa1 jm))) (y9 _)) (yd (yt ym3)) y8) ?_;refine yf (ρ (jx PassesOwn.never rfl (xg (yz vn (pv 0) (vg yc) (vg yc))) (wj (i:=9) za.nd rfl (Or.inl rfl)) (yg (yu (i:=10) za.nd rfl (Or.inl rfl) (ug (yqi T) f.m T.Iv (pac (pv 5) (pac (yn vv (pcB yq T.A9 (pa1 (ug (yir T) f.m T.Fl (pa1 (pv 1))))) yc) (pa1 (yn w5 (pv 9) yc)))))) (yg (ynu (ug (yjk T) f.m T.Fs (pa1 (pcT wb T.Ap (pa1 (pv 10))))) (Ŏ rfl (xt (wj (i:=11) za.nd rfl (Or.inl rfl)) (xt (wj (i:=12) za.nd rfl (Or.inl rfl)) æ)))) (yd (wa (PW.pt (ybq (yw xx (pv 11) v7 (y9 _)) (ybm (PW.pt (ynv (yw xx (pv 11) v7 (y9 _)) (yim (yw (ybl f.units) (ug (yka T) f.m T.Fq (pa1 (pv 12))) (pv 10) (y9 _)))))))) (yd (yt ym3)) y8)))))) ?_;refine yf (ynu (ug (yjk T) f.m T.Fs (pa1 (pv 5))) (Ŏ rfl (xt (wj (i:=11) za.nd rfl (Or.inl rfl)) (xt (wj (i:=12) za.nd rfl (Or.inl rfl)) æ)))) ?_;exists 1,12,yd (yt (uv (jt xx (pv 11) v7 (y9 _)) (jz (jt (yuh f.units) (ug (yka T) f.m T.Fq (pa1 (pv 12))) (pv 5) (y9 _)))));exists l,zs,rfl,hS,λlo n lk kd0 tp bE H1 be ay n1 n6 b4 S1=>?_;obtain⟨p,aM⟩:∃p:Ν,(λi=>if i<n then kd0 i else 0)=p:=⟨_,rfl⟩;obtain⟨g,aD⟩:∃g:Κ,(λi=>if i<n then bE i else [])=g:=⟨_,rfl⟩;have aV:xi H1 n lk p tp g:=by rw[<- aM,<- aD];exact b4.can
 have b2:∀i,n<=i->p i=0/\g i=[]:=λi hi=>by rw[<- aM,<- aD];exists if_neg (),if_neg ()
 clear b4 aM aD;ext;exists l,zs,4,rfl,S1.seq hS,∅,λc4 bq bM=>?_
 ext;exists c4,rfl,bq,bM,λnl v H2 aU J S2 n4 bp aP=>?_;have a3:=S2.seq (S1.seq hS);have az:=S2 _ _ ay;have ab:=aV.same S2;clear hS S1 S2 be ay aU aV;ext;exists l,zs,5,rfl,a3,∅,λc5 ce cv=>?_
 obtain⟨mo,bD,c3,bV⟩:∃mo:Nat,2+c5%4=(mo:Int)/\2<=mo/\mo<=5:=⟨(2+c5%4).toNat,(),(),()⟩;ext;rw[bD];intro st ds ap aA bu;refine Sto.new (mo:=mo) (w:=mo) ap aA az n1 n6 ab () (cE _) () λX H3 aR S3 ba=>⟨rfl,?_⟩;have aF:Bs H2 H3 X:=⟨S3,ba⟩;have hC:CfN ⟨n,p,g,mo,mo⟩:=⟨⟨n1,n6⟩,by show mo<=1000;omega,rfl,(λi hi=>let ⟨_,_,_,_,h⟩:=ab i hi;h),b2⟩;clear S3 ba ap aA bu b2;ext;refine zy (aF.s.seq a3) λu bh=>?_;let⟨ms,aQ,bH⟩:=yty zs;rw[aQ];have S4:=y6 (o:=(HO.lst (ms.map V.int))) bh;have a9:upd H3 u (HO.lst (ms.map V.int)) u=some (HO.lst (ms.map V.int)):=ya;generalize upd H3 u (HO.lst (ms.map V.int))=H4 at S4 a9⊢;exists u,rfl,⟨_,SqL.of a9⟩,λso W=>?_;refine À vfs (SqL.of a9) W (λi y G hy S hG=>?_) (λH5 S5 I=>?_)
 .obtain⟨x,_,rfl⟩:=cI.mp (cN hy);ext;exact Mp.done W (vw (by rw[bz];omega)) hy S hG rfl
 obtain⟨sg,bN,bf,cf⟩:∃sg:Ο,(ms.map V.int).map vfs=sg.map V.int/\Sgs sg/\sg.length<=3:=⟨ms.map (· %256),by rw[dD,dD];rfl,(λx hx=>by let⟨y,_,rfl⟩:=cI.mp hx;omega),by rw[bz];exact bH⟩;rw[bN]at I;have aO:=S4.trans S5;have aG:=aR.same aO;have ah:=aF.same aO;have I:Kf H5 X so (.lst (sg.map V.int)):=Kf.new (aR.same S4) W I;clear aR aF S4 S5 aO bh a9 W;let⟨c2,cq,ck,cc,ch,aS⟩:=aG.ins;have ai:0<v.length:=()
 have aE:1<v.length:=()
 have ae:atI (v.map V.str) 0=some (.str v[0]):=xf (j:=0) (by rw[cK,cA ai];rfl);have bC:atI (v.map V.str) 1=some (.str v[1]):=xf (j:=1) (by rw[cK,cA aE];rfl);have ok0:=aP _ (dm ai);have bt:=aP _ (dm aE);ext;refine zb (SqL.of (ah.s _ _ J)) ae ?_;ext;exists l,zs,6,rfl,ah.s.seq a3,∅,λc6 cb cn=>?_
 ext;obtain⟨k6,bI,bT⟩:∃k6:Nat,c6%3=(k6:Int)/\k6<=2:=⟨(c6%3).toNat,(),()⟩;rw[bI];refine ykn (x:=sg) (n:=k6) I.1 rfl rfl λt1 H6 bi bk S6=>?_;have M:=aG.same S6;ext
 refine M.put (x:=none) (L:=[]) ok0.1 ⟨bk,(λx hx=>bf x (dF hx)),by show _<=mo;rw[cL];omega⟩ rfl (λq hq=>nomatch hq) ∅ λY7 H7 a2 g7=>?_
 have R:=(ah.same S6).go M g7;have av:=(I.same S6).go M g7;clear aG M ah I S6 bi bk g7 aS;obtain⟨a4,bc,bO⟩:∃a4,sg.take k6=a4/\a4.length<=2:=⟨_,rfl,by rw[cL];omega⟩;rw[bc]at a2;ext;exists λσ2 G=>∃P Y,σ2=[some (.ref l),some (.ref lo),some (.ref nl),some (.ref st),some (.ref so),none,none,none,none,none,none,none,none]/\Sto K a G st ⟨n,p,g,mo,mo⟩ P Y/\Bs H2 G Y/\P[0]?=some ⟨v[0],none,[],a4⟩/\P.length<=6/\Stk P/\∀q,q∈P->q.nm∈v,?_,?_
 .ext;exists l,zs,7,rfl,R.s.seq a3,∅,λc7 cr c9=>?_
  ext;refine xz (λh=>?_) (λh=>?_);rotate_left
  .ext;exists _,Y7,rfl,a2,R,rfl,by show 1<=6;decide,λi r b e1 e2=>?_,λq hq=>?_
   .cases i with
    |zero=>cases e1;cases e2
    |succ i=>cases e1
   .rw[cR.mp hq];exact dm ai
  let⟨bZ,co,cu,c1,c0,bS⟩:=a2.ins;ext;refine zb (SqL.of (R.s _ _ J)) bC ?_;ext;refine ym9 (x:=sg) (n:=1) av.1 rfl rfl λt2 H8 bP ht2 S8=>?_;ext;refine zb (SqL.of ((R.same S8).s _ _ J)) ae ?_;ext;exists by walk_at "len",λbl hbl=>?_
  exists hbl,H9,S9,g9;have ag:=S8.trans S9;ext;exists l,zs,7,rfl,(R.same ag).s.seq a3,∅,λc8 b6 bv=>?_
  ext
  obtain⟨x,L,hx,aJ⟩:∃(x:qj Str)(L:Η),atI [V.non,V.str v[0]] (c8/2%2)=some (baV x)/\ToD [(⟨v[0],none,[],a4⟩:Pd)] x L:=by
   have h0:c8/2%2=0\/c8/2%2=1:=()
   rcases h0 with e|e<;>rw[e]
   .exists none,[],rfl,rfl
   .exists some v[0],_,rfl,_,.head _,rfl,rfl
  refine zb (SqL.of g9) hx ?_;have bB:IL H9 t2 (sg.drop 1):=S9 _ _ ht2;ext;refine(a2.same ag).put bt.1 ⟨bB,(λx hx=>bf x (List.mem_of_mem_drop hx)),by show _<=mo;rw[df];omega⟩ aJ (λq hq=>?_) (by show 1<60;decide) λZ HA bL gA=>?_
  .rw[cR.mp hq];exact λe=>absurd (yui bp e) ∅
  ext;exists _,Z,rfl,bL,(R.same ag).go (a2.same ag) gA,rfl,by show 2<=6;decide,λi r b e1 e2=>?_,λq hq=>?_
  .match i with
   |0=>cases e1;cases e2
   |1 =>
    cases e1;have e2:x=some b:=e2;rw[e2]at aJ;let⟨r,f,e3,_⟩:=aJ;rw[cR.mp f]at e3;exact⟨0,_,∅,rfl,e3⟩
   |i+2=>cases e1
  .rcases cS.mp hq with rfl|hq
   .exact dm ai
   .rw[cR.mp hq];exact dm aE
 clear a2 R av;rintro σ2 G ⟨P,Y,rfl,am,bn,b1,bo,ar,bK⟩;ext;exists st,_,P,Y,rfl,am,λda G1 aB a0 T1=>?_;have O:=am.same T1;have a6:=bn.same T1;have a0:Kf G1 Y da (.lst ((shB ⟨n,p,g,mo,mo⟩ P).map V.int)):=Kf.new am aB a0;have aH:0<P.length:=(cF.mp b1).1;have ad:P[0]=⟨v[0],none,[],a4⟩:=(cF.mp b1).2;have au:=O.byt (ab.same a6.s) bo (λq hq=>(aP _ (bK q hq)).2)
 have hW:Lw5 ⟨n,p,g,mo,mo⟩ P:=by
  exists hC,by show mo<=200;omega,O.shok ar,aH,bo,au.1,?_
  have h1:=O.pls P.length (cE _);have h2:=(ab.same a6.s).lkl (C:=⟨n,p,g,mo,mo⟩) n (cE _);rw[dn]at h1;unfold shB hdB;rw[bY,bY,cB,cB];show _+1+2+(_+1)<=_;have h2:(lkF ⟨n,p,g,mo,mo⟩ n).length<=n*6:=h2;have e:(lkF ⟨n,p,g,mo,mo⟩ (Cf.n ⟨n,p,g,mo,mo⟩)).length=(lkF ⟨n,p,g,mo,mo⟩ n).length:=rfl;omega
 clear am bn aB T1 au ar;ext;refine zb (SqL.of (a6.s _ _ J)) ae ?_;have h8:=uu ok0.1.1;exists v[0],rfl,λD hD=>?_;refine č (λi=>.int ((lix (v[0].cps.toList.getD i 0):Nat):Int)) hD (λi c F hc hi SF hF=>?_) (λG2 T2 a5=>?_)
 .obtain⟨vt,ho⟩:=yic ok0.1.1 hc;ext;exists rfl,?_;ext;exists smS,_,lix c,vt,rfl,rfl,ho,?_;refine Mp.doneR hD (vw (by show v[0].length<=_;omega)) hi SF hF ?_;show V.int _=V.int _;rw[ed,Array.getElem?_toList,hc];rfl
 rw[yi1]at a5;have a5:IL G2 D (v[0].cps.toList.map λc=>((lix c:Nat):Int)):=a5;ext;refine uc (SqL.of a5) ?_;ext;exists by walk_at "len",λu1 hu1=>?_
 exists hu1,G3,T3,g3;have an:(v[0].cps.toList.map λc=>((lix c:Nat):Int)).length=v[0].length:=by rw[bz];exact(u7 _).symm
 ext;refine η (x:=[((v[0].length:Nat):Int)]) (show G3 u1=_ by rw[g3,bz,an];rfl) (a5.same T3) (by rw[an];show 1+_<=_;omega) λu2 G4 br g4 T4=>?_;ext;exists by walk_at "len",λu3 hu3=>?_
 exists hu3,G5,T5,g5;refine η (y:=[0]) (g4.same T5) g5 (by rw[bY,an];show 1+_+1<=_;omega) λu4 G6 a9 g6 T6=>?_;have aj:=T2.trans (T3.trans (T4.trans (T5.trans T6)));have M:=O.same aj;let⟨cd,bW,bX,cl,bU,b3⟩:=M.ins;ext;refine zb (SqL.of ((a6.same aj).s _ _ J)) ae ?_;have af:P[0]∈P:=dm aH;refine M.bytesof ok0.1.1 (λno=>absurd (by rw[ad]) (no P[0] af)) λr f er u5 G7 bw g7 T7=>?_;obtain rfl:r=P[0]:=ì O.nd f af (by rw[er,ad]);have aq:=O.pdl af;have g7:IL G7 u5 (Pd.by ⟨n,p,g,mo,mo⟩ P[0]):=g7
 have aN:[((v[0].length:Nat):Int)]++(v[0].cps.toList.map (λc=>((lix c:Nat):Int)):Ο)++([0]:Ο)++Pd.by ⟨n,p,g,mo,mo⟩ P[0]=pdB ⟨n,p,g,mo,mo⟩ P P[0]:=by
  unfold pdB nmB;rw[ad];rfl
 rw[<- aN,bY]at aq;refine η (g6.same T7) g7 () λfi G8 as g8 T8=>?_;rw[aN]at g8;have ak:=aj.trans (T7.trans T8);have U:=O.same ak;have aC:=a6.same ak;have aw:=a0.same ak;have ao:Kf G8 Y fi (.lst ((pdB ⟨n,p,g,mo,mo⟩ P P[0]).map V.int)):=Kf.new (M.same T7) as g8;clear O a6 a0 hD a5 T2 T3 T4 T5 T6 T7 T8 aj ak hu1 br hu3 a9 bw as g3 g4 g5 g6 g7 g8 M b3 aN aq an;let⟨ct,ca,cg,cm,cj,bd⟩:=U.ins;ext;refine zb (SqL.of (aC.s _ _ J)) ae ?_;refine U.textof ok0.1.1 (λno=>absurd (by rw[ad]) (no P[0] af)) λr f er Z tx G9 bJ gx aZ aY=>?_;obtain rfl:r=P[0]:=ì U.nd f af (by rw[er,ad]);have al:=aC.go U gx;have a1:IL G9 da _:=(aw.go U gx).1;have b9:IL G9 fi _:=(ao.go U gx).1;have ax:=al.s _ _ az;have aX:=ab.same al.s;have b5:=al.s.seq a3;have b0:IL G9 tx P[0].tx:=aY.1;clear U aC aw ao bd gx aZ aY bJ al;ext;refine uc (SqL.of b0) ?_;rw[bz];ext;exists l,zs,8,rfl,b5,∅,λc8 b6 bv=>?_
 ext;exists lo,da,fi,⟨n,p,g,mo,mo⟩,P,lk,tp,c8,P[0].tx.length,rfl,b6,ax,aX,a1,hW,⟨aH,b9,rfl⟩,λx GA hx SA=>?_;ext;exists x,rfl,.inl ⟨hx,λt GB bs ht SB=>?_⟩;ext;exists by walk_at "len",λt2 ht2=>?_
 exists ht2,GC,SC,e2;have aW:∀{G:Hp}{t:xy},G t=some (.tup [.str "none",.non])->Sd K G (.ref t) (.tuple [.str "none",.none]) 1:=λh=>Sd.tup (SqT.of h) (.cons (Sd.str (by right)) (.cons Sd.non .nil));refine ysv (aW (SC _ _ ht)) (aW e2) ∅ ?_;have aK:=SA.trans (SB.trans SC);have bj:shB ⟨n,p,g,mo,mo⟩ P=hdB ⟨n,p,g,mo,mo⟩++(((P.length:Nat):Int)::(P.map (pdB ⟨n,p,g,mo,mo⟩ P)).flatten):=rfl;have hbl:=hW.s;ext;exists λσ2 G=>∃v9 a7 a8 aa,σ2=[some (.ref l),some (.ref lo),some (.ref nl),some (.ref st),some (.ref so),some (.ref da),some (.ref D),some (.ref fi),some (.int (P[0].tx.length:Nat)),v9,a7,a8,aa]/\yx GC G,?_,?_
 .ext;refine zy (aK.seq b5) λcs bb=>?_;let⟨ms,aQ,_,_⟩:=yiu zs (some 9) (some 12);rw[aQ];have SD:=y6 (o:=(HO.lst (ms.map V.int))) bb;have ac:upd GC cs (HO.lst (ms.map V.int)) cs=some (HO.lst (ms.map V.int)):=ya;generalize upd GC cs (HO.lst (ms.map V.int))=GD at SD ac⊢;exists cs,rfl,⟨_,SqL.of ac⟩,zh (K:=K) (a:=cs) (xs:=ms.map V.int) (λi σ2 G=>∃v9 a7 a8 aa,σ2=[some (.ref l),some (.ref lo),some (.ref nl),some (.ref st),some (.ref so),some (.ref da),some (.ref D),some (.ref fi),some (.int (P[0].tx.length:Nat)),v9,a7,a8,aa]/\yx GD G) ⟨_,_,_,_,rfl,yx.refl _⟩ (by rintro i σ2 G _ ⟨_,_,_,_,_,S⟩;exact SqL.of (S _ _ ac)) ?_ ?_;rotate_left
  .rintro σ2 G ⟨v9,a7,a8,aa,rfl,S⟩;exists _,_,_,_,rfl,SD.trans S
  rintro i y σ2 G hy ⟨v9,a7,a8,aa,rfl,S⟩;let⟨z,_,rfl⟩:=cI.mp (cN hy);have SG:=aK.trans (SD.trans S);ext;exists lo,⟨n,p,g,mo,mo⟩,lk,tp,rfl,SG _ _ ax,aX.same SG,n1,n6,λpa J1 bR b7 U1=>?_;ext;refine uc (SqL.of b7) ?_;ext;obtain⟨c,hc,bx⟩:∃c:Int,z%1000000007=c/\0<=c:=⟨_,rfl,()⟩;rw[hc,bz,show (((((n:Nat):Int)::lkF ⟨n,p,g,mo,mo⟩ n).length:Nat):Int)+2=(((hdB ⟨n,p,g,mo,mo⟩).length:Nat):Int) by rw[yst,bY];rfl];exists da,⟨n,p,g,mo,mo⟩,_,c,rfl,(a1.same (SG.trans U1)),hC,hW.m,by rw[cB];omega,by rw[<- bj];omega,hW.b,bx,λbF d J2 ci bg hA U2=>?_
  ext;refine ydr (SqL.of bg) λcp hcp0=>?_;exists hcp0,J3,U3,hcp3;have S3:=S.trans (U1.trans (U2.trans U3));have bG:IL J3 bF d:=U3 _ _ bg;ext;exists .ref cp,rfl,?_;by_cases hg:∃C P,CfN C/\zz C P/\d=shB C P
  .refine .inr ⟨cp,d,rfl,hcp3,hA,hg,λC' P' bA bm e t aI X' J4 ht aL U4 B=>?_⟩;refine Ģ (SqT.of ht) rfl ?_;ext;exists rfl,_,rfl,?_;refine xz (λz=>absurd z (by right)) (λB=>?_);ext;exists rfl,_,rfl,?_;refine xz (λB=>?_) (λz=>absurd rfl z);ext;exists aI,C',P',X',rfl,aL,λsh J5 aT N U5=>?_;rw[<- e]at N;ext;refine ysv (k:=1) (Sd.lst (SqL.of N) (Sds.ints d)) (Sd.lst (SqL.of (bG.same (U4.trans U5))) (Sds.ints d)) ∅ ?_;ext;exists _,_,_,_,rfl,S3.trans (U4.trans U5)
  .refine .inl ⟨.inr ⟨cp,d,rfl,hcp3,hA,λC' P' h1 h2 h3=>hg ⟨C',P',h1,h2,h3⟩⟩,λt J4 bs ht U4=>?_⟩;refine Ģ (SqT.of ht) rfl ?_;ext;exists rfl,_,rfl,?_;refine xz (λz=>absurd z (by right)) (λB=>?_);ext;exists rfl,_,rfl,?_;refine xz (λz=>absurd z (by right)) (λB=>?_);ext;exists _,_,_,_,rfl,S3.trans U4
 rintro σ2 G ⟨v9,a7,a8,aa,rfl,S⟩;ext;have SG:=aK.trans S;exists _,rfl,.inr ⟨da,_,rfl,a1.same SG,ShA.of hC hW.m hW.b (by rw[<- bj];omega),⟨_,P,hC,hW.o,rfl⟩,λC' P' bA bm e t aI X' J4 ht aL U4 B=>?_⟩;refine Ģ (SqT.of ht) rfl ?_;ext;exists rfl,_,rfl,?_;refine xz (λB=>?_) (λz=>absurd rfl z);ext;exists aI,C',P',X',rfl,aL,λsh J5 aT N U5=>?_;rw[<- e]at N;ext;refine ysv (k:=1) (Sd.lst (SqL.of N) (Sds.ints _)) (Sd.lst (SqL.of (a1.same (SG.trans (U4.trans U5)))) (Sds.ints _)) ∅ ?_;exact k _
end
variable{C C':Cf}{X:FX}{P:qi Pd}{Y:Sx}
def all_mk{l:W.OpenLaw}{w:qd}{K:z0}{mg:Ε}{fa:xy}(hfa:mg "law"=some (.ref fa))(T:Txt K mg a)
 :∃fd:FuncData,(∀(s:qa)(v:qb),BindsTo s fd ⟨[v],[]⟩ [("_law_script",v)])/\∀Γ:qf,K.In Γ->Γ.Ns mainGlobals mg->vx l.prog w K mg Γ CX0 18 fa fd ["_law_script"] (yes K):=by have e:=hfa.symm.trans T.Ix.m;obtain rfl:=Value.ref.inj (cJ e);exists a.Hm,λs v=>?_,λΓ Z Z=>yw6 T;let⟨_,_,_,_,_,_,_,_,_,e,_,_⟩:=T.Ix.F.ex;rw[e];exact .of_eq rfl
def walk{l:W.OpenLaw}{q:qh}{loose:Ρ}{XP:(Ε)->qf->Prop}{YP:qd->qf->Prop}{d:DefRec}{K:Params->z0}(hn:l.most=some 63)(hdf:d.params.defaults=[])
  (hY:∀(w:qd)(h:qf),YP w h->(K w.params).In h)
  (F:∀(w:qd)(mg:Ε)(fa:xy)(h:qf),(K w.params).In h->h.Ns mainGlobals mg->mg d.name=some (.ref fa) ->
   ∃fd:FuncData,(∀(s:qa)(u:qb),BindsTo s fd ⟨[u],[]⟩ [("_law_script",u)])/\∀Γ:qf,(K w.params).In Γ->Γ.Ns mainGlobals mg->vx l.prog w (K w.params) mg Γ CX0 18 fa fd ["_law_script"] (yes (K w.params))):
  W.WalkO q loose XP YP l.row.toRowW d [] (λf vs=>PySem.call f vs) :=
 L2.walk_of (n:=63) (k:=18) (x:="_law_script") (CX:=λZ=>CX0) (sp:=λw=>yes (K w.params)) hn ∅ hdf ⟨rfl,∅,∅⟩ hY F (λZ Z a b c Z e=>⟨a,b,rfl,e,c,λZ=>rfl⟩) λZ Z Z Z Z z=>z
end Law
end
open PySem PySem.W PyProof.Rows
set_option maxRecDepth 100000 in
set_option maxHeartbeats 0 in
theorem PySem.Challenge.cw_foretell_k52_no_shelf_holds : PySem.Challenge.rw_foretell_k52_no_shelf.Holds := by
 refine H0.2 ?_
 unfold H0
 dsimp only []
 k_fill
 refine Law.walk (l := PySem.Challenge.rw_foretell_k52_no_shelf) rfl rfl (fun w h Y => PySem.W.kIn_of Y) ?F
 case F =>
  intro w mg fa h KX G hmg
  refine' Law.all_mk hmg (Law.Txt.mk (a := Law.Ads.mk) ..)
  any_goals (refine L2.pG ?_; try dsimp only)
  any_goals (refine L2.pG ?_; first | (refine' PySem.W.mg_of KX G ?_; k_is; done) | (refine' PySem.W.mg_none_of KX G ?_; k_is; done))
  any_goals (refine L2.pG ?_; first | (refine' L2.Dg.d1 (L2.dgf_mk KX G ?_ ?_ ?_ ?_); any_goals k_is; done) | (refine' L2.Dg.d2 (L2.dgf_mk KX G ?_ ?_ ?_ ?_); any_goals k_is; done) | (refine' L2.Dg.d3 (L2.dgf_mk KX G ?_ ?_ ?_ ?_); any_goals k_is; done) | (refine' L2.Dg.d5 (L2.dgf_mk KX G ?_ ?_ ?_ ?_); any_goals k_is; done) | (refine' L2.Dg.d1 (L2.dgm_mk ?_ ?_ ?_ ?_ ?_); any_goals k_is; done) | (refine' L2.Dg.d2 (L2.dgm_mk ?_ ?_ ?_ ?_ ?_); any_goals k_is; done) | (refine' L2.Dg.d3 (L2.dgm_mk ?_ ?_ ?_ ?_ ?_); any_goals k_is; done) | (refine' L2.Dg.d4 (L2.dgm_mk ?_ ?_ ?_ ?_ ?_); any_goals k_is; done) | (refine' L2.funD_mk ?_ ?_ ?_; any_goals k_is; done) | (refine' L2.bindsR (j := 2) ?hj ?hh ?hd; (case hd=>k_is); (case hj => rfl); (case hh => exact fun _ _ _ _ _ _ _ _ => Exists.intro _ ⟨rfl, rfl⟩); done) | (refine' L2.bindsR (j := 3) ?hj ?hh ?hd; (case hd=>k_is); (case hj => rfl); (case hh => exact fun _ _ _ _ _ _ _ _ _ => Exists.intro _ ⟨rfl, rfl⟩); done) | (refine' L2.bindsR (j := 4) ?hj ?hh ?hd; (case hd=>k_is); (case hj => rfl); (case hh => exact fun _ _ _ _ _ _ _ _ _ _ => Exists.intro _ ⟨rfl, rfl⟩); done) | (refine' L2.XCls.mk ?_ ?_ ?_ ?_ ?_ ?_ ?_ ?_ <;> k_is) | (refine' L2.Cls.mk ?_ ?_ ?_ ?_ <;> k_is) | (refine' L2.Mk.mk ?_ ?_ ?_ ?_; any_goals k_is; done) | (refine' L2.Meth.mk ?_ ?_ ?_; any_goals k_is; done) | ((first | refine' L2.exm_mk ?_ ?_ ?_ ?_ | refine' L2.exm_mkB ?_ ?_ ?_ ?_); any_goals (first | k_is | k_exc); done) | (unfold L2.NoAttr; k_is) | k_is | kit_is | k_exc | (with_reducible show _ = _; first | k_is | k_exc))
  any_goals (refine L2.pG ?_; first | (refine' L2.funD_mk ?_ ?_ ?_; any_goals k_is; done) | (refine' L2.bindsR (j := 2) ?hj ?hh ?hd; (case hd=>k_is); (case hj => rfl); (case hh => exact fun _ _ _ _ _ _ _ _ => Exists.intro _ ⟨rfl, rfl⟩); done) | (refine' L2.bindsR (j := 3) ?hj ?hh ?hd; (case hd=>k_is); (case hj => rfl); (case hh => exact fun _ _ _ _ _ _ _ _ _ => Exists.intro _ ⟨rfl, rfl⟩); done) | (refine' L2.bindsR (j := 4) ?hj ?hh ?hd; (case hd=>k_is); (case hj => rfl); (case hh => exact fun _ _ _ _ _ _ _ _ _ _ => Exists.intro _ ⟨rfl, rfl⟩); done))
#print axioms PySem.Challenge.cw_foretell_k52_no_shelf_holds
