import PyProof.Rows.All
import Wide.All
import OpenK.KLine
import OpenK.KWalk
import OpenK.KOwn
import KE.RegKIsAll
import KE.KxText
import KE.KIntText
import KE.KDictList
import KE.KTryMore
import Wide.FinOn
import PyProof.EqAt
import PyProof.EqKinds
import PyProof.TupleCall
import Lean
import PySem.Challenge.RW_foretell_k54_desk_refused
set_option Elab.async false
set_option linter.all false
set_option hygiene false
set_option bootstrap.genMatcherCode false
set_option compiler.extract_closed false
noncomputable section
set_option maxRecDepth 100000
set_option maxHeartbeats 0
local macro_rules | `(tactic| exists $ts,*)=>`(tactic| refine ⟨$ts,*⟩)
local macro_rules | `(tactic| omega)=>`(tactic| first | with_reducible assumption | lia | omega (config:={}))
open Lean.Parser.Tactic in
local macro_rules | `(tactic| let $p:term := $e)=>do
 let s<-p.raw.rewriteBottomUpM fun x=>do
  if x.isOfKind `Lean.Parser.Term.anonymousCtor then
   let ps<-x[1].getSepArgs.mapM fun y=>`(rcasesPatLo| $(⟨y⟩):rcasesPat)
   return (<-`(rcasesPat| ⟨$[$ps:rcasesPatLo],*⟩)).raw
  else if x.isIdent then return (<-`(rcasesPat| $(⟨x⟩):ident)).raw
  else if x.isOfKind `Lean.Parser.Term.hole then return (<-`(rcasesPat| _)).raw
  else return x
 `(tactic| obtain $(⟨s⟩):rcasesPat:=$e)
namespace PySem.W.Fast
local macro_rules
 | `(#synth $k:ident $ns*)=>do return Lean.mkNullNode ((<-(ns.foldl (fun c n=>c.push (n.raw.isNatLit?.get!+c.back?.getD 0)) #[]).mapM fun n=>`(theorem $(Lean.mkIdent (.mkSimple s!"tw{(k.getId.getPrefix.str s!"{k.getId.getString!}_{n}").hash}")) : True:=⟨⟩)).map (·.raw))
 | `(#synth $k:ident)=>`(theorem $(Lean.mkIdent (.mkSimple s!"tw{k.getId.hash}")) : True:=⟨⟩)
#synth PySem.Challenge.pw_foretell_k54_desk_refused
#synth H0.heap 39 7 1529
#synth H0.tree 47 23 15 15 15 15 15 15 15 15 15 15 15 15 15 15 48 45 37 43 43 50 16 65 45 51 47 85 15 58 68 51 42 140 86 31 66 26 59 77
#synth H0.view 39
#synth H0.sts 49 22 15 15 15 15 15 15 15 15 15 15 15 15 15 15 48 45 37 43 43 50 16 65 45 51 47 85 15 58 68 51 42 229 28 66 26 59
#synth H0.o 43 2 1 3 2 2 1 1 1 1 1 1 1 1 2 1 1 1 1 1 1 1 1 2 1 1 1 1 2 1 1 1 1 1 1 1 2 1 1 1 1 2 1 1 1 1 1 1 1 2 1 1 1 1 2 1 1 1 1 1 1 1 2 1 1 1 1 2 1 1 1 1 1 1 1 2 1 1 1 1 2 1 1 1 1 1 1 1 2 1 1 1 1 2 1 1 1 1 1 1 1 2 1 1 1 1 2 1 1 1 1 1 1 1 2 1 1 1 1 2 1 1 1 1 1 1 1 2 1 1 1 1 2 1 1 1 1 1 1 1 2 1 1 1 1 2 1 1 1 1 1 1 1 2 1 1 1 1 2 1 1 1 1 1 1 1 2 1 1 1 1 2 1 1 1 1 1 1 1 2 1 1 1 1 2 1 1 1 1 1 1 1 2 1 1 1 1 2 1 1 1 1 1 1 1 2 1 1 1 1 2 1 1 1 1 1 1 1 2 1 1 1 1 1 2 1 1 1 1 1 2 1 1 1 1 1 2 1 1 1 1 1 2 1 1 1 2 2 1 1 1 1 1 2 1 1 1 1 1 2 1 1 1 1 1 2 1 1 1 1 1 2 1 1 1 1 1 2 1 1 1 1 1 1 2 1 1 1 2 1 1 2 1 1 1 1 1 2 1 1 1 1 1 2 1 1 1 1 1 1 1 1 1 1 1 1 2 1 1 1 1 2 1 1 2 1 1 1 1 1 2 1 1 1 1 1 2 1 1 1 1 1 2 1 1 1 1 1 1 1 1 1 1 2 1 1 1 1 2 1 1 2 1 1 1 1 1 2 1 1 1 1 1 2 1 1 1 1 1 2 1 1 1 1 1 1 1 1 1 1 2 1 1 1 1 2 1 1 2 1 1 1 1 1 2 1 1 1 1 1 2 1 1 1 1 1 2 1 1 1 1 1 1 1 1 1 1 2 1 1 1 1 1 2 2 1 1 1 1 1 2 1 1 1 1 1 2 1 1 1 2 1 1 2 1 1 1 1 1 2 1 1 1 1 1 2 1 1 1 1 1 2 1 1 1 1 1 2 1 1 1 1 1 2 1 1 1 1 1 2 1 1 1 1 1 1 1 1 1 1 1 1 2 2 1 1 1 1 1 2 1 1 1 1 1 2 1 1 1 2 1 1 1 1 1 2 1 1 1 2 1 1 1 1 1 2 1 1 1 2 1 1 1 2 1 1 2 1 1 1 1 1 2 1 1 1 1 1 2 1 1 1 1 1 2 1 1 1 1 1 2 1 1 1 1 1 1 1 1 1 1 1 1 2 1 1 1 2 1 1 2 1 1 1 1 1 2 1 1 1 1 1 2 1 1 1 2 1 1 1 2 1 1 1 1 1 1 1 1 1 1 1 1 2 1 1 1 2 1 1 2 1 1 1 2 1 1 1 2 1 1 1 2 1 1 1 1 1 2 1 1 1 1 1 2 1 1 1 1 1 2 1 1 1 1 1 2 1 1 1 1 1 2 1 1 1 1 1 2 1 1 1 1 1 2 1 1 1 1 1 1 1 1 1 1 2 1 2 1 1 1 2 1 1 1 1 1 2 1 1 1 2 1 1 2 1 1 1 1 1 2 1 1 1 1 1 2 1 1 1 1 1 2 1 1 1 1 1 2 1 1 1 1 1 2 1 1 1 1 1 1 1 1 1 1 1 1 2 2 1 1 1 2 1 1 1 1 1 2 1 1 1 1 1 1 2 1 1 1 1 2 1 1 1 1 1 2 1 1 1 1 1 2 1 1 1 1 1 2 1 1 1 2 1 1 1 1 1 2 1 1 1 1 1 2 1 1 1 2 1 1 2 1 1 1 1 1 2 1 1 1 1 1 2 1 1 1 1 1 2 1 1 1 1 1 2 1 1 1 1 1 1 1 1 1 1 1 1 2 2 1 1 1 2 1 1 1 1 1 2 1 1 1 1 1 1 1 1 2 1 1 2 1 1 1 1 1 1 1 1 1 1 1 1 2 1 1 1 2 1 1 1 2 1 1 1 1 1 2 1 1 1 1 1 2 1 1 1 1 1 2 1 1 1 1 1 1 2 1 1 1 1 1 2 1 1 1 1 1 2 1 1 1 1 1 2 1 1 1 1 1 2 1 1 1 1 1 2 1 1 1 1 1 2 1 1 1 1 1 2 1 1 1 2 1 1 1 1 1 2 1 1 1 1 1 2 1 1 1 1 1 2 1 1 1 1 1 2 1 1 1 2 1 1 1 1 1 1 1 1 1 1 1 2 1 1 1 2 1 1 1 2 1 1 1 1 1 2 1 1 1 1 1 2 1 1 1 1 1 2 1 1 1 1 1 1 2 1 1 1 1 1 2 1 1 1 1 1 2 1 1 1 1 1 2 1 1 1 1 1 2 1 1 1 1 1 2 1 1 1 1 1 2 1 1 1 4 2 2 1 1 1 1 1 2 1 1 1 2 1 1 1 1 1 2 1 1 1 1 1 2 1 1 1 2 1 1 2 1 1 1 1 1 2 1 1 1 1 1 2 1 1 1 1 1 2 1 1 1 2 1 1 1 2 1 1 1 2 1 1 1 1 1 2 1 1 1 1 1 1 1 1 1 1 1 1 2 2 1 1 1 1 1 2 1 1 1 2 1 1 1 2 1 1 1 1 1 2 1 1 1 2 1 1 1 2 1 1 1 1 1 2 1 1 1 1 1 2 1 1 1 1 1 2 1 1 1 1 1 2 1 1 1 1 1 2 1 1 1 1 1 1 1 1 1 1 1 1 2 2 1 1 1 1 1 2 1 1 1 2 1 1 1 1 1 2 1 1 1 1 1 2 1 1 1 1 1 2 1 1 1 1 1 2 1 1 1 1 1 2 1 1 1 1 1 2 1 1 1 1 1 2 1 1 1 1 1 2 1 1 1 1
#synth H0.env 41
end PySem.W.Fast
section
open PySem PySem.W PyProof.Rows
def Q0:Program:={PySem.Challenge.pw_foretell_k54_desk_refused with main:={PySem.Challenge.pw_foretell_k54_desk_refused.main with body:=PySem.Challenge.pw_foretell_k54_desk_refused.main.body.drop 127}}
def Z0:List Str:=PySem.Challenge.pw_foretell_k54_desk_refused.boundNames.filter (·!="law")
theorem H1{K:Params->Frag}{as:List Addr}(n:Nat)(e:∀P,as=(K P).map (·.1))(w:World)(s:Shared)(x:((as.take n).map s.heap.get?,(as.drop n).map s.heap.get?)=(((K w.params).take n).map (fun p=>some p.2),((K w.params).drop n).map fun p=>some p.2)):InK K w s.heap:=InK.of e w s (by
 have h:=Prod.mk.inj x
 rw [<-List.take_append_drop n as,List.map_append,h.1,h.2,<-List.map_append,List.take_append_drop])
local macro_rules | `(tactic| refine $f:ident $as*)=>do
 unless f.getId==`PySem.W.holds_open do Lean.Macro.throwUnsupported
 let h:=as[6]!.raw[3][1][0][1][1]
 let k:Lean.Term:=⟨h[0]⟩
 let a:Lean.Term:=⟨h[1]⟩
 let e:Lean.Term:=⟨h[2]⟩
 let r:=as.extract 10 as.size
 `(tactic| (refine ($f (q:=Q0) (loose:=Z0) $(as[2]!) $(as[3]!) (Yf:=fun s=>((List.take 400 $a).map s.heap.get?,(List.drop 400 $a).map s.heap.get?)) (Ya:=fun w=>((List.take 400 ($k w.params)).map (fun p=>some p.2),(List.drop 400 ($k w.params)).map fun p=>some p.2)) $(as[6]!) $(as[7]!) $(as[8]!) (H1 400 $e) $r*); case $(Lean.mkIdent `hc):ident=>exact $(Lean.mkIdent `hP)))
set_option maxRecDepth 100000 in
set_option maxHeartbeats 0 in
def H0:PSigma fun P:Prop=>P->PySem.Challenge.rw_foretell_k54_desk_refused.Holds:=by
 refine' ⟨_,fun hP=>?_⟩
 rotate_left
 w_on; o_law; k_head
 w_witness2
end
section
open PySem PySem.Spec PyProof.Rows
def bc:type_of% @List.length_map:=@List.length_map
def bd:type_of% @wpAny_bind:=@wpAny_bind
def be:type_of% @decide_eq_false:=@decide_eq_false
def bf:type_of% @List.length_append:=@List.length_append
def bg:type_of% @List.getElem?_eq_getElem:=@List.getElem?_eq_getElem
def bh:type_of% @Heap.get?_push_of_some:=@Heap.get?_push_of_some
def bi:type_of% @decide_eq_true:=@decide_eq_true
def bj:type_of% @Nat.le_refl:=@Nat.le_refl
def bn:type_of% @List.mem_map:=@List.mem_map
def bo:type_of% @wpAny_pure:=@wpAny_pure
def bp:type_of% @List.length_cons:=@List.length_cons
def bq:type_of% @List.getElem?_map:=@List.getElem?_map
def br:type_of% @Heap.lt_size:=@Heap.lt_size
def bw:type_of% @List.mem_cons:=@List.mem_cons
def bx:type_of% @Heap.get?_push_size:=@Heap.get?_push_size
def bz:type_of% @Bool.false_ne_true:=@Bool.false_ne_true
def bA:type_of% @List.mem_singleton:=@List.mem_singleton
def bB:type_of% @List.mem_of_getElem?:=@List.mem_of_getElem?
def bC:type_of% @Option.some.inj:=@Option.some.inj
def bD:type_of% @List.map_append:=@List.map_append
def bE:type_of% @List.size_toArray:=@List.size_toArray
def bH:type_of% @List.mem_cons_of_mem:=@List.mem_cons_of_mem
def bI:type_of% @List.mem_cons_self:=@List.mem_cons_self
def bJ:type_of% @Bool.and_eq_true:=@Bool.and_eq_true
def bK:type_of% @List.getElem?_eq_none:=@List.getElem?_eq_none
def bL:type_of% @List.getElem?_eq_some_iff:=@List.getElem?_eq_some_iff
def bM:type_of% @List.mem_append:=@List.mem_append
def bN:type_of% @Nat.zero_le:=@Nat.zero_le
def bP:type_of% @List.length_range:=@List.length_range
def bQ:type_of% @List.mem_append_right:=@List.mem_append_right
def bR:type_of% @List.map_cons:=@List.map_cons
def bS:type_of% @Nat.ne_of_lt:=@Nat.ne_of_lt
def bU:type_of% @Nat.lt_of_lt_of_le:=@Nat.lt_of_lt_of_le
def bV:type_of% @List.getD_eq_getElem?_getD:=@List.getD_eq_getElem?_getD
def bX:type_of% @Nat.le_trans:=@Nat.le_trans
def bZ:type_of% @List.length_take:=@List.length_take
def cb:type_of% @List.map_map:=@List.map_map
def ce:type_of% @Nat.not_lt_zero:=@Nat.not_lt_zero
def cg:type_of% @List.length_nil:=@List.length_nil
def ci:type_of% @List.replicate_succ:=@List.replicate_succ
def cj:type_of% @Array.length_toList:=@Array.length_toList
def ck:type_of% @List.append_assoc:=@List.append_assoc
def cn:type_of% @List.mem_range:=@List.mem_range
def cq:type_of% @List.take_succ_eq_append_getElem:=@List.take_succ_eq_append_getElem
def cr:type_of% @Int.mul_le_mul_of_nonneg_right:=@Int.mul_le_mul_of_nonneg_right
def cu:type_of% @List.getElem_mem:=@List.getElem_mem
def cy:type_of% @List.getElem?_range:=@List.getElem?_range
def cz:type_of% @Int.mul_le_mul_of_nonneg_left:=@Int.mul_le_mul_of_nonneg_left
def cA:type_of% @wpAny_field:=@wpAny_field
def cB:type_of% @List.length_singleton:=@List.length_singleton
def cC:type_of% @List.mem_append_left:=@List.mem_append_left
def cD:type_of% @List.take_length:=@List.take_length
def cE:type_of% @List.take_of_length_le:=@List.take_of_length_le
def cF:type_of% @wpAny_truthy_bool:=@wpAny_truthy_bool
def cG:type_of% @List.length_replicate:=@List.length_replicate
def cH:type_of% @List.eq_of_mem_replicate:=@List.eq_of_mem_replicate
def cI:type_of% @Option.map_some:=@Option.map_some
def cJ:type_of% @wpAny_mono:=@wpAny_mono
def cK:type_of% @List.getElem?_append_right:=@List.getElem?_append_right
def cL:type_of% @List.mem_of_mem_take:=@List.mem_of_mem_take
def cM:type_of% @List.getElem_map:=@List.getElem_map
def cN:type_of% @List.eq_nil_of_length_eq_zero:=@List.eq_nil_of_length_eq_zero
def cO:type_of% @Int.emod_lt_of_pos:=@Int.emod_lt_of_pos
def cP:type_of% @List.nodup_cons:=@List.nodup_cons
def cQ:type_of% @Nat.lt_irrefl:=@Nat.lt_irrefl
def cR:type_of% @List.length_drop:=@List.length_drop
def cS:type_of% @beq_eq_false_iff_ne:=@beq_eq_false_iff_ne
def cT:type_of% @Int.emod_nonneg:=@Int.emod_nonneg
end
abbrev Β:=Nat->PySem.Addr->Prop
abbrev Δ:=PySem.Value->PySem.Shared->Prop
abbrev Ε:=PySem.Str->Option PySem.Value
abbrev Η:=List (PySem.Str×List Int)
abbrev Θ:=List (PySem.Addr×PySem.Obj)
abbrev Κ:=Nat->List Int
abbrev Λ:=Nat->PySem.Addr
abbrev Μ:=PySem.Addr->Prop
abbrev Ν:=Nat->Fin 3
abbrev Ξ:=List PySem.Value
abbrev Ο:=List Int
abbrev Ρ:=List PySem.Str
abbrev Υ:=List PySem.Addr
abbrev z3:=PySem.W.Frag
abbrev z4:=PySem.Addr
abbrev qa:=PySem.Shared
abbrev qb:=PySem.Value
abbrev qc:=PySem.Stmt
abbrev qd:=PySem.World
abbrev qe:=PySem.Around
abbrev qf:=PySem.Heap
abbrev qg:=PySem.Expr
abbrev qh:=PySem.Program
abbrev qi:=List
abbrev qj:=Option
section
set_option tactic.hygienic false
local macro_rules | `(())=>`(by omega)
local macro_rules | `(∅)=>`(by decide)
namespace L2
open PySem PySem.Spec PyProof.Rows
variable{C a:z4}{op:CmpOp}{tg:qg}{fd:FuncData}{h':qf}{pins:Θ}{fp:Υ}{es:qi qg}{body:qi qc}{us:Ξ}{M:Model}{i t':Nat}{P:qh}{s':qa}{x:Str}{mA:Ε}{u:qb}{E Q:Δ}
abbrev Key:=Sum Int Str
noncomputable def yf5:Key->qb->Bool
 | .inl k,v=>Value.isInt k v
 | .inr x,v=>Value.isStrOf x v
noncomputable def vhx(w:qd):Key->Int
 | .inl k=>hashInt k
 | .inr x=>hashStr w x
theorem w8:∀{k:Key}{v:qb},yf5 k v=true->(∃i t,k=Sum.inl i/\v=Value.int i t)\/(∃x t,k=Sum.inr x/\v=Value.str x t)
 | .inl i,v,h=>by
  let⟨t,e⟩:=Value.isInt_shape (k:=i) (v:=v) h;exact .inl ⟨i,t,rfl,e⟩
 | .inr x,v,h=>by
  let⟨t,e⟩:=Value.isStrOf_shape (x:=x) (v:=v) h;exact .inr ⟨x,t,rfl,e⟩
def ygr(i:Int)(t:Tok):yf5 (.inl i) (.int i t)=true:=by simp[yf5,Value.isInt]
def yhq(x:Str)(t:Tok):yf5 (.inr x) (.str x t)=true:=by simp[yf5,Value.isStrOf]
def yu9(a b:Int):decide ((Sum.inl a:Key)=Sum.inl b)=(a == b):=by
 by_cases e:a=b
 .subst e;simp
 .have h:¬(Sum.inl a:Key)=Sum.inl b:=λq=>e (Sum.inl.inj q);rw[be h];exact(cS.mpr e).symm
def yym(a b:Str):decide ((Sum.inr a:Key)=Sum.inr b)=decide (a=b):=by
 by_cases e:a=b
 .subst e;simp
 .have h:¬(Sum.inr a:Key)=Sum.inr b:=λq=>e (Sum.inr.inj q);rw[be h,be e]
def yu2(a:Int)(b:Str):decide ((Sum.inl a:Key)=Sum.inr b)=false:=be (λq=>nomatch q)
def yxc(a:Str)(b:Int):decide ((Sum.inr a:Key)=Sum.inl b)=false:=be (λq=>nomatch q)
def wv(prog:qh)(w:qd):PySem.KeyKind prog w Key where
 is:=yf5
 hash:=vhx w
 inj:=λv a b ha hb=>by
  rcases w8 ha with⟨i,t,rfl,rfl⟩|⟨x,t,rfl,rfl⟩
  .rcases w8 hb with⟨j,u,rfl,e⟩|⟨y,u,rfl,e⟩
   .injection e with e1 _;rw[e1]
   .exact nomatch e
  .rcases w8 hb with⟨j,u,rfl,e⟩|⟨y,u,rfl,e⟩
   .exact nomatch e
   .injection e with e1 _;rw[e1]
 byValue:=λk v h=>by
  rcases w8 h with⟨i,t,rfl,rfl⟩|⟨x,t,rfl,rfl⟩<;>rfl
 pyHash:=λhv h=>by
  rcases w8 hv with⟨i,t,rfl,rfl⟩|⟨x,t,rfl,rfl⟩
  .exact wpAny_pyHash_int h
  .exact wpAny_pyHash_str h
 eqBool:=λhu hv h=>by
  rcases w8 hu with⟨i,t,rfl,rfl⟩|⟨x,t,rfl,rfl⟩
  .rcases w8 hv with⟨j,u,rfl,rfl⟩|⟨y,u,rfl,rfl⟩
   .rw[yu9]at h;exact wpAny_eqBool_int h
   .rw[yu2]at h;exact SeqAt.EqAt.int_str i t y u _ _ _ _ h
  .rcases w8 hv with⟨j,u,rfl,rfl⟩|⟨y,u,rfl,rfl⟩
   .rw[yxc]at h;exact SeqAt.EqAt.str_int x t j u _ _ _ _ h
   .rw[yym]at h;exact wpAny_eqBool_str h
 «strs»:=λk x t v h=>by
  rcases w8 h with⟨i,u,rfl,e⟩|⟨y,u,rfl,e⟩
  .exact nomatch e
  .injection e with e1 _;subst e1;cases v<;>rfl
def ybz(prog:qh)(w:qd)(i:Int)(t:Tok):(wv prog w).is (.inl i) (.int i t)=true:=ygr i t
def ybv(prog:qh)(w:qd)(x:Str)(t:Tok):(wv prog w).is (.inr x) (.str x t)=true:=yhq x t
inductive V where
 |non|bl (b:Bool)|int (i:Int)|str (x:Str)|byt (b:Array UInt8)|flt (b:UInt64)|ref (a:z4)|ty (n:String)
 deriving DecidableEq
abbrev _root_.Ι:=qi (Str×V)
abbrev _root_.Τ:=qi V
variable{vs xs ys:Τ}{v y:V}
def xl:V->qb->Prop
 | .non,u=>u=Value.none
 | .bl b,u=>u=Value.bool b
 | .int i,u=>∃t,u=Value.int i t
 | .str x,u=>∃t,u=Value.str x t
 | .byt b,u=>∃t,u=Value.bytes b t
 | .flt b,u=>∃t,u=Value.float b t
 | .ref a,u=>u=Value.ref a
 | .ty n,u=>u=Value.type n
abbrev wu:qi V->qi qb->Prop:=Paired xl
theorem wu.length(r:wu xs us):xs.length=us.length:=Paired.length r
theorem wu.get:∀{xs:Τ}{us:Ξ}{i:Nat}{x:V},wu xs us->xs[i]?=some x->∃u,us[i]?=some u/\xl x u
 |_,_,_,_,.nil,e=>by simp at e
 |_,_,0,_,.cons r _,e=>by simp at e;subst e;exists _,rfl,r
 |_,_,i+1,x,.cons _ t,e=>by
  let⟨u,b,a⟩:=wu.get (i:=i) (x:=x) t (by simpa using e);exists u,by simpa using b,a
def wu.append{ws:Ξ}(h:wu xs us)(s:wu ys ws):wu (xs++ys) (us++ws):=by
 induction h with
 |nil=>exact s
 |cons r t ih=>exact .cons r ih
theorem wu.take:∀{xs:Τ}{us:Ξ}(n:Nat),wu xs us->wu (xs.take n) (us.take n)
 |_,_,0,_=>.nil
 |_,_,_+1,.nil=>.nil
 |_,_,n+1,.cons r t=>.cons r (wu.take n t)
theorem wu.drop:∀{xs:Τ}{us:Ξ}(n:Nat),wu xs us->wu (xs.drop n) (us.drop n)
 |_,_,0,r=>r
 |_,_,_+1,.nil=>.nil
 |_,_,n+1,.cons _ t=>wu.drop n t
def ybm:qj V->qj qb->Prop
 |some v,some u=>xl v u
 |none,none=>True
 |_,_=>False
def KV{κ:Type}:qi (κ×V)->qi (κ×qb)->Prop:=Paired λ(p:κ×V)(q:κ×qb)=>p.1=q.1/\xl p.2 q.2
noncomputable def kV:Key->V
 | .inl i=>.int i
 | .inr x=>.str x
inductive HO where
 |lst (xs:Τ)
 |tup (xs:Τ)
 |dK (kvs:qi (Key×V))|dT (kvs:qi (qi Key×V))
 |set (S:Int->Bool) (n:Nat)
 |ins (C dx:z4) (fs:Ι)
 |own (x:z4)
 |xd (fs:Ι)
 |met (f x:z4)
 |rng (lo hi:Int)
 |frz (o:Obj) (u:HO)
 |tbl (ps:Array qb)
 |ext (φ:qf->Prop)
abbrev Hp:=z4->qj HO
variable{H H':Hp}
noncomputable def upd(H:Hp)(a:z4)(o:HO):Hp:=λb=>if b=a then some o else H b
def ya{o:HO}:upd H a o a=some o:=by unfold upd;rw[if_pos rfl]
def yq{b:z4}{o:HO}(h:b≠a):upd H a o b=H b:=by unfold upd;rw[if_neg h]
def xr{b:z4}{o u:HO}(h:H a=some o)(h':H b=some u)(d:o≠u):a≠b:=by intro e;subst e;rw[h]at h';exact d (bC h')
def yb{b:z4}{o:HO}(h:H a=some o)(h':H b=none):a≠b:=by intro e;subst e;rw[h]at h';cases h'
section
variable(P:qh)(w:qd)
def xm(H:Hp)(h:qf)(a:z4):HO->Prop
 | .lst xs=>xs.length<=sizeLine/\∃(its:Ξ)(n:Nat),wu xs its/\h.get? a=some { cls:=.type "list",data:=.seq its.toArray n}
 | .tup xs=>xs.length<=sizeLine/\∃its:Ξ,wu xs its/\IsTup h a its.toArray
 | .dK kvs=>kvs.length<=sizeLine/\(a == sysModules)=false/\∃vs,KV kvs vs/\h.DictOf (wv P w) a vs
 | .dT kvs=>kvs.length<=sizeLine/\(a == sysModules)=false/\∃xs:qi (qi Key×z4×qb),
   Paired (λ(p:qi Key×V)(q:qi Key×z4×qb)=>p.1=q.1/\H q.2.1=some (.tup (p.1.map kV))/\xl p.2 q.2.2) kvs xs/\
   ∃o es ep,h.get? a=some o/\o.ExactDict/\o.data=.dict es ep/\es.toList=xs.map (entryOfKey (tupleKind (wv P w)))/\(xs.map (·.1)).Nodup
 | .set S n=>h.SetOf (intKind P w) a S n
 | .ins C dx fs=>H dx=some (.own a)/\fs.length<=1000/\dx≠a/\h.get? a=some (W.instObj C dx)/\
   ∃mA,h.Ns1 dx mA/\(∀f,ybm (fs.lookup f) (mA f))/\PySem.Within mA (fs.map (·.1))
 | .own _=>∃o,h.get? a=some o
 | .xd fs=>∃mA,h.Ns1 a mA/\∀f,ybm (fs.lookup f) (mA f)
 | .rng lo hi=>∃t u v,h.get? a=some { cls:=.type "range",data:=.fields #[.int lo t,.int hi u,.int 1 v]}
 | .frz o u=>h.get? a=some o/\xm H h a u
 | .tbl ps=>h.get? a=some { cls:=.none,data:=.fields ps}
 | .met f x=>h.get? a=some (W.methodObj (.ref f) (.ref x))
 | .ext φ=>φ h/\(∃o,h.get? a=some o)/\∀h1 h2:qf,φ h1->(∀o,h1.get? a=some o->h2.get? a=some o)->φ h2
def HOk(H:Hp)(h:qf):Prop:=∀a o,H a=some o->xm P w H h a o
end
section
variable{w:qd}{h:qf}{o:HO}
theorem xm.lt(x:xm P w H h a o):a<h.objs.size:=by
 cases o with
 |lst xs=>let⟨_,_,_,_,e⟩:=x;exact br e
 |tup xs=>let⟨_,_,_,p⟩:=x;exact p.lt
 |dK kvs=>let⟨_,_,_,_,o,_,_,e,_⟩:=x;exact br e
 |dT kvs=>let⟨_,_,_,_,o,_,_,e,_⟩:=x;exact br e
 |set S n=>let⟨o,_,_,_,e,_⟩:=x;exact br e
 |ins C dx fs=>let⟨_,_,_,e,_⟩:=x;exact br e
 |own y=>let⟨_,e⟩:=x;exact br e
 |xd fs=>let⟨_,⟨_,_,_,e,_⟩,_⟩:=x;exact br e
 |rng lo hi=>let⟨_,_,_,e⟩:=x;exact br e
 |frz ob u=>let⟨e,_⟩:=x;exact br e
 |tbl ps=>exact br (show h.get? a=some _ from x)
 |met f y=>exact br (show h.get? a=some _ from x)
 |ext φ=>let⟨_,⟨_,e⟩,_⟩:=x;exact br e
def Paired.mapP{α β:Type}{F G:α->β->Prop}{l₁:qi α}{l₂:qi β}(h:Paired F l₁ l₂)(f:∀a b,F a b->G a b):Paired G l₁ l₂:=by
 induction h with
 |nil=>exact .nil
 |cons r t ih=>exact .cons (f _ _ r) ih
def xm.stay(x:xm P w H h a o)(k:∀b u,(b=a\/H b=some (.own a))->h.get? b=some u->h'.get? b=some u)
  (ho:∀b,H b=some (.own a)->H' b=some (.own a)) (ht:∀b xs,H b=some (.tup xs)->H' b=some (.tup xs)):xm P w H' h' a o:=by
 induction o with
 |lst xs=>let⟨z,j,n,r,e⟩:=x;exists z,j,n,r,k _ _ (.inl rfl) e
 |tup xs=>let⟨z,j,r,ob,e,c⟩:=x;exists z,j,r,ob,k _ _ (.inl rfl) e,c
 |dK kvs=>let⟨z,y,B,r,ob,i,g,e,c⟩:=x;exists z,y,B,r,ob,i,g,k _ _ (.inl rfl) e,c
 |dT kvs =>
  let⟨z,y,xs,r,ob,i,g,e,c⟩:=x;exists z,y,xs,Paired.mapP r λp q z=>⟨z.1,ht _ _ z.2.1,z.2.2⟩,ob,i,g,k _ _ (.inl rfl) e,c
 |set S n=>let⟨ob,i,g,t,e,c⟩:=x;exists ob,i,g,t,k _ _ (.inl rfl) e,c
 |ins C dx fs =>
  let⟨d,z,D,e,m,⟨l,i,g,A,c⟩,r⟩:=x;exists ho _ d,z,D,k _ _ (.inl rfl) e,m,⟨l,i,g,k _ _ (.inr d) A,c⟩,r
 |own y=>let⟨ob,e⟩:=x;exists ob,k _ _ (.inl rfl) e
 |xd fs=>let⟨m,⟨l,i,g,e,c⟩,r⟩:=x;exists m,⟨l,i,g,k _ _ (.inl rfl) e,c⟩,r
 |rng lo hi=>let⟨t,u,v,e⟩:=x;exists t,u,v,k _ _ (.inl rfl) e
 |frz ob u ih=>let⟨e,q⟩:=x;exists k _ _ (.inl rfl) e,ih q
 |tbl ps =>
  have e:h.get? a=some { cls:=.none,data:=.fields ps}:=x;show h'.get? a=some { cls:=.none,data:=.fields ps};exact k a _ (.inl rfl) e
 |met f y =>
  have e:h.get? a=some (W.methodObj (.ref f) (.ref y)):=x;show h'.get? a=some (W.methodObj (.ref f) (.ref y));exact k a _ (.inl rfl) e
 |ext φ=>let⟨p,⟨o,e⟩,s⟩:=x;exists s _ _ p λo q=>k _ _ (.inl rfl) q,⟨o,k _ _ (.inl rfl) e⟩,s
theorem HOk.lt(x:HOk P w H h)(e:H a=some o):a<h.objs.size:=(x a o e).lt
def HOk.fresh(x:HOk P w H h)(e:h.objs.size<=a):H a=none:=by
 cases q:H a with
 |none=>rfl
 |some u=>exact absurd (bU (x.lt q) e) (cQ _)
def HOk.kept(x:HOk P w H h)(k:∀b u,h.get? b=some u->h'.get? b=some u):HOk P w H h':=λa o e =>
 (x a o e).stay (λb u Z q=>k b u q) (λZ q=>q) λZ Z q=>q
def HOk.laid(x:HOk P w H h)(k:∀b u,h.get? b=some u->h'.get? b=some u)(hp:h.objs.size<=a)(new:xm P w (upd H a o) h' a o):HOk P w (upd H a o) h':=λb u e=>by
 have d:=x.fresh hp;by_cases hb:b=a
 .subst hb;rw[ya]at e;cases e;exact new
 .rw[yq hb]at e;exact(x b u e).stay (λc v Z q=>k c v q) (λc q=>by rw[yq (yb q d)];exact q) λc f q=>by rw[yq (yb q d)];exact q
end
def Rd(H:Hp)(a:z4)(u:HO):Prop:=H a=some u\/∃o,H a=some (.frz o u)
def Rd.of{u:HO}(h:H a=some u):Rd H a u:=.inl h
def Rd.ok{w:qd}{h:qf}{u:HO}(r:Rd H a u)(x:HOk P w H h):xm P w H h a u:=by
 rcases r with r|⟨o,r⟩
 .exact x a u r
 .obtain⟨_,q⟩:=x a _ r;exact q
def Mut:qj HO->Prop
 |some (.lst _)=>True
 |some (.dK _)=>True
 |some (.dT _)=>True
 |some (.set _ _)=>True
 |some (.ins _ _ _)=>True
 |some (.ext _)=>True
 |_=>False
section
variable{w:qd}{h:qf}{x e:z4}{o':HO}
def HOk.write(ok:HOk P w H h)(mu:Mut (H x))(he:e=x\/H e=some (.own x))(k:∀b u,b≠e->h.get? b=some u->h'.get? b=some u)(heo:∃u,h'.get? e=some u)
  (new:xm P w (upd H x o') h' x o'):HOk P w (upd H x o') h':=λb u q=>by
 have a:∀c y,H c=some (.own y)->c≠x:=λc y r z=>by subst z;rw[r]at mu;exact mu
 have d:∀c g,H c=some (.tup g)->c≠x:=λc g r z=>by subst z;rw[r]at mu;exact mu
 by_cases hb:b=x
 .subst hb;rw[ya]at q;cases q;exact new
 .rw[yq hb]at q;by_cases hbe:b=e
  .have i:H b=some (.own x):=by
    rcases he with z|z
    .exact absurd (hbe.trans z) hb
    .rw[hbe];exact z
   rw[q]at i;cases i;let⟨v,j⟩:=heo;exists v,by rw[hbe];exact j
  .refine(ok b u q).stay (λc v f r=>k c v ?_ r) (λc r=>by rw[yq (a c b r)];exact r) λc g r=>by rw[yq (d c g r)];exact r
   rcases f with rfl|f
   .exact hbe
   .rintro rfl;rcases he with z|z
    .exact a c b f z
    .rw[f]at z;cases z;exact hb rfl
end
structure Un(fs ex:Υ)(H H':Hp)(h h':qf):Prop where
 keep:∀b o,h.get? b=some o->H b=none->b∉fs->b∉ex->h'.get? b=some o
 slot:∀b o,h.get? b=some o->H b=none->b∈fs->b∉ex->∃sl,h'.get? b=some {o with slots:=sl}
 free:∀b o,h.get? b=some o->H b=none->b∉ex->H' b=none
 there:∀b o,h.get? b=some o->b∉ex->∃o',h'.get? b=some o'
 tups:∀b xs,H b=some (.tup xs)->H' b=some (.tup xs)
 frzs:∀b o u,H b=some (.frz o u)->H' b=some (.frz o u)
 tbls:∀b ps,H b=some (.tbl ps)->∃more,H' b=some (.tbl (ps++more))
section
variable{fs fs' ex ex':Υ}{H1 H2:Hp}{h h1 h2:qf}{x e:z4}{o:HO}
def Un.any(u:Un fs ex H H1 h h1){b:z4}{ob:Obj}(q:h.get? b=some ob)(n:H b=none)(hx:b∉ex):∃sl,h1.get? b=some {ob with slots:=sl}:=by
 by_cases hb:b∈fs
 .exact u.slot b ob q n hb hx
 .exists ob.slots,u.keep b ob q n hb hx
def Un.kept(k:∀b u,h.get? b=some u->h'.get? b=some u):Un fs ex H H h h' :=
 ⟨λb a q Z Z Z=>k b a q,λb a q Z Z Z=>⟨a.slots,k b a q⟩,λZ Z Z n Z=>n,λb a q Z=>⟨a,k b a q⟩,λZ Z q=>q,λZ Z Z q=>q,λZ c q=>⟨#[],by rw[q];simp⟩⟩
def Un.refl:Un fs ex H H h h:=Un.kept λZ Z q=>q
def Un.laid(k:∀b u,h.get? b=some u->h'.get? b=some u)(hp:h.objs.size<=a)(hn:H a=none):Un fs ex H (upd H a o) h h' where
 keep:=λb u q Z Z Z=>k b u q
 slot:=λb u q Z Z Z=>⟨u.slots,k b u q⟩
 free:=λb u q n Z=>by rw[yq (bS (bU (br q) hp))];exact n
 there:=λb u q Z=>⟨u,k b u q⟩
 tups:=λb c q=>by rw[yq (yb q hn)];exact q
 frzs:=λb u c q=>by rw[yq (yb q hn)];exact q
 tbls:=λb d q=>⟨#[],by rw[yq (yb q hn),q];simp⟩
def Un.write(mu:Mut (H x))(he:e=x\/H e=some (.own x))(k:∀b u,b≠e->h.get? b=some u->h'.get? b=some u)(heo:∃u,h'.get? e=some u):Un fs ex H (upd H x o) h h':=by
 have c:∀b,H b=none->b≠x:=λb n z=>by subst z;rw[n]at mu;exact mu
 have d:∀b,H b=none->b≠e:=λb n z=>by
  subst z;rcases he with r|r
  .exact c b n r
  .rw[n]at r;cases r
 have a:∀b u,H b=some u->¬Mut (some u)->b≠x:=λb u q f z=>by subst z;rw[q]at mu;exact f mu
 refine⟨λb u q n Z Z=>k b u (d b n) q,λb u q n Z Z=>⟨u.slots,k b u (d b n) q⟩,λb u q n Z=>by rw[yq (c b n)];exact n,λb u q Z=>?_,
  λb g q=>by rw[yq (a b _ q λz=>z)];exact q,λb u g q=>by rw[yq (a b _ q λz=>z)];exact q,λb i q=>⟨#[],by rw[yq (a b _ q λz=>z),q];simp⟩⟩
 by_cases hbe:b=e
 .subst hbe;exact heo
 .exists u,k b u hbe q
end
noncomputable def trk(h:qf)(H:Hp):Υ:=(List.range h.objs.size).filter λa=>(H a).isSome
def ym5(h:qf)(H:Hp):qf:=W.hideAll h (trk h H)
def yhy(h:qf)(H:Hp):(ym5 h H).objs.size=h.objs.size:=W.hideAll_size _ _
def yk6{h:qf}{b:z4}{o:Obj}(e:h.get? b=some o)(n:H b=none):(ym5 h H).get? b=some o :=
 W.hideAll_get _ e λa=>by
  have q:(H b).isSome=true:=(List.mem_filter.mp a).2;rw[n]at q;simp at q
def ytw{h:qf}{b:z4}{o:Obj}(e:(ym5 h H).get? b=some o):h.get? b=some o/\H b=none:=by
 have a:h.get? b=some o:=W.of_hideAll (trk h H) e;exists a,?_
 cases q:H b with
 |none=>rfl
 |some x =>
  have c:b∈trk h H:=List.mem_filter.mpr ⟨cn.mpr (br a),by simp[q]⟩;have z:(ym5 h H).get? b=none:=W.hideAll_none (trk h H) c;rw[z]at e;cases e
noncomputable def yqz(g h:qf)(L:z4):Θ:=(List.range h.objs.size).filterMap λa=>if a=L\/(g.get? a).isSome=true then none else (h.get? a).map λo=>(a,o)
def j3(g h:qf)(L d:z4):Θ:=(yqz g h L).filter λp=>decide (p.1≠d)
structure Mod(K:z3)(mg:Ε)(base:qf):Prop where
 kin:K.In base
 glob:base.Ns mainGlobals mg
 blt:∃mb,base.Ns builtinsNs mb/\∀x:Str,x≠"__name__"->mb x=bootBuiltins x
 nolimit:base.NoLimit
structure Cx where
 prog:qh
 w:qd
 K:z3
 mg:Ε
 base:qf
 A:qe
 N:Ρ
 s₀:qa
 H₀:Hp
 env:Env
 outer:qi Env
 stack:qi Env
 ex:Υ
 fn:Str->Bool
 calm:Bool
 pn:Θ
 xe:Δ
variable{X:Cx}
noncomputable def frs(l:qi Env):Υ:=l.filterMap (·.frame)
abbrev Cx.fs(X:Cx):Υ:=frs X.outer
def Vis(sc:Scope)(x:Str):Prop:=sc.names.lookup x=some .local\/sc.names.lookup x=some .cell\/sc.names.lookup x=some .free
def Loc(sc:Scope)(x:Str):Prop:=sc.names.lookup x=some .local\/sc.names.lookup x=some .cell
def vhi(env:Env)(h:qf)(m:Ε)(x:Str)(u:qb):Prop :=
 (env.kindOf x=some .local/\m x=some u)\/((env.kindOf x=some .cell\/env.kindOf x=some .free)/\∃c,env.cells.lookup x=some c/\h.IsCell c (some u))
structure Cx.Ok(X:Cx):Prop where
 mod:Mod X.K X.mg X.base
 kind:X.env.scope.kind=.function
 glob:X.env.globals=mainGlobals
 blt:X.env.builtins=builtinsNs
 above:X.s₀.heap.objs.size<=X.env.locals
 inj:∀x y c,X.env.cells.lookup x=some c->X.env.cells.lookup y=some c->x=y
 has:∀x,(X.env.kindOf x=some .cell\/X.env.kindOf x=some .free)->∃c,X.env.cells.lookup x=some c
 cab:∀x c,X.fn x=true->X.env.cells.lookup x=some c->X.s₀.heap.objs.size<=c
 hd:X.calm=true->X.A.handled=none
 frames:X.A.frames=some X.stack
 stk:X.stack=X.outer\/(X.stack=X.env::X.outer/\X.env.frame=some X.env.locals)
 exf:∀b∈X.ex,b≠X.env.locals/\∀x c,X.env.cells.lookup x=some c->c≠b
 bs:∀b o,X.base.get? b=some o->X.s₀.heap.get? b=some o/\X.H₀ b=none
 bsz:X.base.objs.size<=X.s₀.heap.objs.size
 noex:∀b o,X.base.get? b=some o->b∉X.ex
 exfs:∀b∈X.ex,b∉X.fs
 funs:X.s₀.heap.FunFrames X.base X.outer
 frf:∀b∈X.fs,X.H₀ b=none
structure Inv(X:Cx)(pins:Θ)(σ:qi (qj V))(H:Hp)(s:qa):Prop where
 ok:X.Ok
 os:s.os=X.s₀.os
 bare:AllBare s.gens
 base:Un X.fs X.ex X.H₀ H X.s₀.heap s.heap
 loc:∃m,s.heap.Ns X.env.locals m/\∀(i:Nat)(x:Str)(v:V),X.N[i]?=some x->σ[i]?=some (some v)->Vis X.env.scope x->∃u,xl v u/\vhi X.env s.heap m x u
 cell:∀x c,X.env.cells.lookup x=some c->∃v,s.heap.IsCell c v
 free:H X.env.locals=none
 freeC:∀x c,X.env.cells.lookup x=some c->H c=none
 pin:∀p∈X.pn++pins,s.heap.get? p.1=some p.2/\H p.1=none/\p.1≠X.env.locals/\p.1∉X.fs/\∀v,p.2.data≠.cell v
 hok:HOk X.prog X.w H s.heap
 len:σ.length=X.N.length
section
variable{σ:qi (qj V)}{s:qa}
def Cx.Ok.nofr(ok:X.Ok){b:z4}{o:Obj}(e:X.base.get? b=some o):b∉X.fs:=λa=>by
 have:=(ok.funs.mem a).1;rw[e]at this;cases this
theorem Inv.bs(I:Inv X pins σ H s):∀b o,X.base.get? b=some o->s.heap.get? b=some o/\H b=none:=λb o e =>
 ⟨I.base.keep b o (I.ok.bs b o e).1 (I.ok.bs b o e).2 (I.ok.nofr e) (I.ok.noex b o e),I.base.free b o (I.ok.bs b o e).1 (I.ok.bs b o e).2 (I.ok.noex b o e)⟩
def Inv.bk(I:Inv X pins σ H s):∀b o,X.base.get? b=some o->s.heap.get? b=some o:=λb o e=>(I.bs b o e).1
theorem Inv.mod(I:Inv X pins σ H s):Mod X.K X.mg X.base:=I.ok.mod
def Inv.kIn(I:Inv X pins σ H s):X.K.In s.heap:=I.ok.mod.kin.keeps I.bk
theorem Inv.lt(I:Inv X pins σ H s):X.env.locals<s.heap.objs.size:=let ⟨_,hn,_⟩:=I.loc;hn.lt
def Inv.sz(I:Inv X pins σ H s):X.s₀.heap.objs.size<=s.heap.objs.size:=bX I.ok.above (Nat.le_of_lt I.lt)
def Inv.nofs(I:Inv X pins σ H s)(h:s.heap.objs.size<=a):a∉X.fs:=λb=>by
 let⟨_,o,c,_⟩:=I.ok.funs.mem b;exact absurd (bU (br c) (bX I.sz h)) (cQ _)
def Inv.cne(I:Inv X pins σ H s):∀x c,X.env.cells.lookup x=some c->c≠X.env.locals:=λx c e z=>by
 let⟨v,o,d,f⟩:=I.cell x c e;let⟨m,⟨g,i,h,b,a,_⟩,_⟩:=I.loc;rw[z,b]at d;cases d;rw[a]at f;cases f
theorem Inv.funs(I:Inv X pins σ H s):s.heap.FunFrames X.base X.outer:=by
 have a:∀(l:qi Env),(∀b∈frs l,b∈X.fs)->X.s₀.heap.FunFrames X.base l->s.heap.FunFrames X.base l:=by
  intro l
  induction l with
  |nil=>intro _ _;trivial
  |cons env r ih =>
   intro g h;let⟨i,⟨L,o,d,n,j,k⟩,m⟩:=h;have c:L∈X.fs:=g L (by unfold frs;rw[List.filterMap_cons,d];exact bI);let⟨p,e⟩:=I.base.slot L o j (I.ok.frf L c) c λz=>I.ok.exfs L z c;exists i,⟨L,_,d,n,e,k⟩,ih (λb f=>g b (by unfold frs;rw[List.filterMap_cons,d];exact bH _ f)) m
 exact a X.outer (λZ f=>f) I.ok.funs
theorem Inv.stack(I:Inv X pins σ H s):s.heap.FunFrames X.base X.stack:=by
 rcases I.ok.stk with e|⟨e,a⟩
 .rw[e];exact I.funs
 .rw[e];let⟨m,b,_⟩:=I.loc;refine .cons (by rw[I.ok.kind];decide) a b ?_ I.funs;exact Heap.get?_none_of_le (bX I.ok.bsz I.ok.above)
def Inv.stkSub(I:Inv X pins σ H s):∀b∈frs X.stack,b∈X.env.locals::X.fs:=λb a=>by
 rcases I.ok.stk with e|⟨e,c⟩
 .rw[e]at a;exact bH _ a
 .rw[e]at a;unfold frs at a;rw[List.filterMap_cons,c]at a;exact a
def Inv.stkFree(I:Inv X pins σ H s):∀b∈frs X.stack,H b=none:=λb a=>by
 rcases bw.mp (I.stkSub b a)with e|a
 .rw[e];exact I.free
 .obtain⟨_,o,c,_⟩:=I.ok.funs.mem a;exact I.base.free b o c (I.ok.frf b a) λz=>I.ok.exfs b z a
def Inv.step{g':Array GenState}{d':Drawn}{ch:Υ}(I:Inv X pins σ H s)
  (hch:∀b∈ch,(b∈X.ex\/X.s₀.heap.objs.size<=b)/\b≠X.env.locals/\(∀x c,X.env.cells.lookup x=some c->c≠b)/\∀p∈X.pn++pins,p.1≠b)
  (keep:∀b o,b≠X.env.locals->b∉X.fs->b∉ch->s.heap.get? b=some o->H b=none->h'.get? b=some o)
  (slot:∀b o,b≠X.env.locals->b∈X.fs->b∉ch->s.heap.get? b=some o->H b=none->∃sl,h'.get? b=some {o with slots:=sl}) (free:∀b o,b∉ch->s.heap.get? b=some o->H b=none->H' b=none)
  (there:∀b o,b∉ch->s.heap.get? b=some o->∃o',h'.get? b=some o')
  (tups:∀b xs,H b=some (.tup xs)->H' b=some (.tup xs)) (frzs:∀b o u,H b=some (.frz o u)->H' b=some (.frz o u)) (tbls:∀b ps,H b=some (.tbl ps)->∃more,H' b=some (.tbl (ps++more)))
  (ns:∀m,s.heap.Ns X.env.locals m->h'.Ns X.env.locals m) (hok:HOk X.prog X.w H' h') (hg:AllBare g'):
  Inv X pins σ H' {s with heap:=h',gens:=g',drawn:=d',toks:=t'}:=by
 have B:∀b o,X.s₀.heap.get? b=some o->b≠X.env.locals:=λb o e=>bS (bU (br e) I.ok.above)
 have j:∀b o,X.s₀.heap.get? b=some o->b∉X.ex->b∉ch:=λb o e a t=>by
  rcases (hch b t).1 with z|z
  .exact a z
  .exact absurd (bU (br e) z) (cQ _)
 have g:∀x c,X.env.cells.lookup x=some c->∀v,s.heap.IsCell c v->h'.IsCell c v:=λx c e v ⟨o,y,C⟩=>by
  have f:c∉ch:=λz=>(hch c z).2.2.1 x c e rfl;by_cases hc:c∈X.fs
  .obtain⟨sl,q⟩:=slot c o (I.cne x c e) hc f y (I.freeC x c e);exists _,q,C
  .exists o,keep c o (I.cne x c e) hc f y (I.freeC x c e),C
 exists I.ok,I.os,hg,⟨λb o e n t a=>?_,λb o e n t a=>?_,λb o e n a=>?_,λb o e a=>?_,λb xs e=>tups b xs (I.base.tups b xs e),λb o xs e=>frzs b o xs (I.base.frzs b o xs e),λb ps e=>?_⟩,?_,λx c e=>?_,?_,λx c e=>?_,λp G=>?_,hok,I.len
 .exact keep b o (B b o e) t (j b o e a) (I.base.keep b o e n t a) (I.base.free b o e n a)
 .obtain⟨sl,h⟩:=I.base.slot b o e n t a;let⟨D,A⟩:=slot b _ (B b o e) t (j b o e a) h (I.base.free b o e n a);exists D,A
 .obtain⟨o',h⟩:=I.base.there b o e a;exact free b o' (j b o e a) h (I.base.free b o e n a)
 .obtain⟨o',h⟩:=I.base.there b o e a;exact there b o' (j b o e a) h
 .obtain⟨K,h⟩:=I.base.tbls b ps e;let⟨N,A⟩:=tbls b _ h;exists K++N,by rw[A,Array.append_assoc]
 .obtain⟨m,L,J⟩:=I.loc;exists m,ns m L,λi x v h A M=>?_;let⟨u,r,l⟩:=J i x v h A M;exists u,r,?_;rcases l with l|⟨k,c,e,z⟩
  .exact .inl l
  .exact .inr ⟨k,c,e,g x c e _ z⟩
 .obtain⟨v,z⟩:=I.cell x c e;exists v,g x c e v z
 .obtain⟨m,⟨o,_,_,y,_⟩,_⟩:=I.loc;exact free _ o (λz=>(hch _ z).2.1 rfl) y I.free
 .obtain⟨v,o,y,C⟩:=I.cell x c e;exact free c o (λz=>(hch c z).2.2.1 x c e rfl) y (I.freeC x c e)
 .obtain⟨e,n,E,F,d⟩:=I.pin p G;have f:p.1∉ch:=λz=>(hch p.1 z).2.2.2 p G rfl;exists keep p.1 p.2 E F f e n,free p.1 p.2 f e n,E,F,d
def Inv.un(I:Inv X pins σ H s)(u:Un X.fs [] H H' s.heap h')(hok:HOk X.prog X.w H' h'):Inv X pins σ H' {s with heap:=h',toks:=t'}:=by
 let⟨m,⟨o,q,p,g,r⟩,_⟩:=id I.loc;let⟨k,h⟩:=u.any g I.free (by simp)
 exact I.step (g':=s.gens) (d':=s.drawn) (ch:=[]) (λZ z=>nomatch z) (λb o Z d Z e n=>u.keep b o e n d (by simp)) (λb o Z d Z e n=>u.slot b o e n d (by simp)) (λb o Z e n=>u.free b o e n (by simp)) (λb o Z e=>u.there b o e (by simp)) u.tups u.frzs u.tbls (λt j=>by
  let⟨l,f,c,a,i⟩:=j;rw[g]at a;cases a;exact⟨_,f,c,h,i⟩) hok I.bare
def Inv.call{g':Array GenState}{d':Drawn}{ch:Υ}(I:Inv X pins σ H s)(u:Un (frs X.stack) ch H H' s.heap h')(hok:HOk X.prog X.w H' h')(hg:AllBare g')
  (hch:∀b∈ch,(b∈X.ex\/X.s₀.heap.objs.size<=b)/\b≠X.env.locals/\(∀x c,X.env.cells.lookup x=some c->c≠b)/\∀p∈X.pn++pins,p.1≠b):
  Inv X pins σ H' {s with heap:=h',gens:=g',drawn:=d',toks:=t'}:=by
 let⟨m,⟨o,y,v,i,r⟩,_⟩:=id I.loc;let⟨q,f⟩:=u.any i I.free λz=>(hch _ z).2.1 rfl
 exact I.step (ch:=ch) hch (λb o f l a e n=>u.keep b o e n (λz=>(bw.mp (I.stkSub b z)).elim f l) a) (λb o Z Z a e n=>u.any e n a) (λb o a e n=>u.free b o e n a) (λb o a e=>u.there b o e a) u.tups u.frzs u.tbls (λA k=>by
  let⟨t,h,g,d,j⟩:=k;rw[i]at d;cases d;exact⟨_,h,g,f,j⟩) hok hg
def Inv.turned{it:z4}(I:Inv X pins σ H s)(k:∀b o,b≠it->s.heap.get? b=some o->h'.get? b=some o)(hn:H it=none)(hL:it≠X.env.locals)
  (h1:it∈X.ex\/X.s₀.heap.objs.size<=it) (h2:∀x c,X.env.cells.lookup x=some c->c≠it) (h3:∀p∈X.pn++pins,p.1≠it):Inv X pins σ H {s with heap:=h',toks:=t'}:=by
 have d:∀b u,H b=some u->b≠it:=λb u e z=>by rw[z,hn]at e;cases e
 refine I.step (g':=s.gens) (d':=s.drawn) (ch:=[it]) (λb j=>?_) (λb o Z Z a e Z=>k b o (λz=>a (by simp[z])) e) (λb o Z Z a e Z=>⟨o.slots,k b o (λz=>a (by simp[z])) e⟩) (λZ Z Z Z n=>n)
  (λb o a e=>⟨o,k b o (λz=>a (by simp[z])) e⟩) (λZ Z e=>e) (λZ Z Z e=>e) (λb l e=>⟨#[],by rw[e];simp⟩) (λm i=>?_) (λb u e=>?_) I.bare
 .have e:b=it:=by simpa using j
  subst e;exact⟨h1,hL,h2,h3⟩
 .obtain⟨o,h,f,g,r⟩:=i;exists o,h,f,k _ o (Ne.symm hL) g,r
 .refine(I.hok b u e).stay (λc v a q=>k c v ?_ q) (λZ q=>q) λZ Z q=>q;rcases a with z|z
  .rw[z];exact d b u e
  .exact d c _ z
def Inv.tok(I:Inv X pins σ H s)(t:Nat):Inv X pins σ H {s with toks:=t}:=I.un (h':=s.heap) (t':=t) Un.refl I.hok
theorem Inv.kept(I:Inv X pins σ H s)(k:∀b u,s.heap.get? b=some u->h'.get? b=some u):Inv X pins σ H {s with heap:=h',toks:=t'}:=I.un (Un.kept k) (I.hok.kept k)
theorem Inv.laid{o:HO}(I:Inv X pins σ H s)(k:∀b u,s.heap.get? b=some u->h'.get? b=some u)(hp:s.heap.objs.size<=a)(new:xm X.prog X.w (upd H a o) h' a o):
  Inv X pins σ (upd H a o) {s with heap:=h',toks:=t'}:=I.un (Un.laid k hp (I.hok.fresh hp)) (I.hok.laid k hp new)
theorem Inv.write{x e:z4}{o:HO}(I:Inv X pins σ H s)(mu:Mut (H x))(he:e=x\/H e=some (.own x))(k:∀b u,b≠e->s.heap.get? b=some u->h'.get? b=some u)(heo:∃u,h'.get? e=some u)
  (new:xm X.prog X.w (upd H x o) h' x o):Inv X pins σ (upd H x o) {s with heap:=h',toks:=t'}:=I.un (Un.write mu he k heo) (I.hok.write mu he k heo new)
def Inv.pins_of{pins':Θ}(I:Inv X pins σ H s)(h:∀p∈pins',s.heap.get? p.1=some p.2/\H p.1=none/\p.1≠X.env.locals/\p.1∉X.fs/\∀v,p.2.data≠.cell v):Inv X pins' σ H s :=
 ⟨I.ok,I.os,I.bare,I.base,I.loc,I.cell,I.free,I.freeC,λp a=>(bM.mp a).elim (λz=>I.pin p (cC _ z)) (h p),I.hok,I.len⟩
def š{N:Ρ}(hN:N.Nodup){j:Nat}(a:N[i]?=some x)(b:N[j]?=some x):i=j:=by let⟨f,d⟩:=bL.mp a;let⟨e,c⟩:=bL.mp b;exact(List.getElem_inj hN).mp (d.trans c.symm)
def Č{A:qe}{Q:Unit->qa->Prop}(I:Inv X pins σ H s)(hN:X.N.Nodup)(hi:X.N[i]?=some x)(hx:Loc X.env.scope x)(r:xl v u)
  (h:∀s',Inv X pins (σ.set i (some v)) H s'->(∃a,Heap.SameBut a s.heap s'.heap/\(a=X.env.locals\/X.env.cells.lookup x=some a))->Q ⟨⟩ s') (hf:X.fn x=true\/X.env.scope.names.lookup x=some .local:=by first|exact .inl rfl|exact .inr rfl|assumption):wpAny M A (storeName X.env x u) Q E s:=by
 let⟨m,hn,hl⟩:=id I.loc;have O:(X.env.scope.kind == .class || (X.env.scope.kind == .module && X.env.locals != X.env.globals))=false:=by rw[I.ok.kind];rfl
 have hiσ:i<σ.length:=by rw[I.len];exact(bL.mp hi).1
 have J:=I.cne
 have l:∀{a:z4}{K:qf},(∃o,s.heap.get? a=some o/\H a=none)->Heap.SameBut a s.heap K->HOk X.prog X.w H K:=λ{a K}ha f b ob e=>by
  let⟨_,_,B⟩:=ha;refine(I.hok b ob e).stay (λc U t q=>(f.2 c ?_).trans q) (λN q=>q) λN N q=>q;rintro rfl;rcases t with rfl|t
  .rw[B]at e;cases e
  .rw[B]at t;cases t
 rcases hx with D|D
 .refine wpAny_storeName_local D hn (λK Y f=>?_) O;let⟨oL,_,_,a0,_⟩:=id hn;refine h _ ⟨I.ok,I.os,I.bare,⟨λb o e n G hx=>?_,λb o e n G hx=>?_,I.base.free,λb o e hx=>?_,I.base.tups,I.base.frzs,I.base.tbls⟩,⟨_,Y,λj y v' g C e3=>?_⟩,λy c e=>?_,I.free,I.freeC,λp hp=>?_,l ⟨oL,a0,I.free⟩ f,by simpa using I.len⟩ ⟨_,f,.inl rfl⟩
  .exact(f.2 b (bS (bU (br e) I.ok.above))).trans (I.base.keep b o e n G hx)
  .obtain⟨sl,g⟩:=I.base.slot b o e n G hx;exists sl,(f.2 b (bS (bU (br e) I.ok.above))).trans g
  .obtain⟨o',g⟩:=I.base.there b o e hx;exists o',(f.2 b (bS (bU (br e) I.ok.above))).trans g
  .by_cases hj:j=i
   .subst hj;rw[hi]at g;cases g;rw[List.getElem?_set_self hiσ]at C;cases C;exists u,r,.inl ⟨D,by simp⟩
   .rw[List.getElem?_set_ne (Ne.symm hj)]at C;let⟨Z,W,q⟩:=hl j y v' g C e3;exists Z,W,?_;rcases q with⟨k,e⟩|⟨k,c,e,z⟩
    .refine .inl ⟨k,?_⟩;have:y≠x:=λe=>hj (š hN g (e ▸ hi));simp[this,e]
    .exact .inr ⟨k,c,e,z.sameBut f (J y c e)⟩
  .obtain⟨U,z⟩:=I.cell y c e;exists U,z.sameBut f (J y c e)
  .obtain⟨e,n,S,nf,d⟩:=I.pin p hp;exists(f.2 p.1 S).trans e,n,S,nf,d
 .have F:X.fn x=true:=by
   rcases hf with z|z
   .exact z
   .rw[z]at D;cases D
  let⟨c,t⟩:=I.ok.has x (.inl D);let⟨U,z⟩:=I.cell x c t;refine wpAny_storeName_cell I.ok.kind D t z (λK P f=>?_);let⟨oc,R,L⟩:=id z;refine h {s with heap:=K} ⟨I.ok,I.os,I.bare,⟨λb o e n G hx=>?_,λb o e n G hx=>?_,I.base.free,λb o e hx=>?_,I.base.tups,I.base.frzs,I.base.tbls⟩,⟨m,hn.sameBut f (Ne.symm (J x c t)),λj y v' g C e3=>?_⟩,λy T e=>?_,I.free,I.freeC,λp hp=>?_,l ⟨oc,R,I.freeC x c t⟩ f,by simpa using I.len⟩ ⟨c,f,.inr t⟩
  .exact(f.2 b (bS (bU (br e) (I.ok.cab x c F t)))).trans (I.base.keep b o e n G hx)
  .obtain⟨sl,g⟩:=I.base.slot b o e n G hx;exists sl,(f.2 b (bS (bU (br e) (I.ok.cab x c F t)))).trans g
  .obtain⟨o',g⟩:=I.base.there b o e hx;exists o',(f.2 b (bS (bU (br e) (I.ok.cab x c F t)))).trans g
  .by_cases hj:j=i
   .subst hj;rw[hi]at g;cases g;rw[List.getElem?_set_self hiσ]at C;cases C;exists u,r,.inr ⟨.inl D,c,t,P⟩
   .rw[List.getElem?_set_ne (Ne.symm hj)]at C;let⟨Z,W,q⟩:=hl j y v' g C e3;exists Z,W,?_;rcases q with q|⟨k,T,e,z'⟩
    .exact .inl q
    .refine .inr ⟨k,T,e,z'.sameBut f ?_⟩;rintro rfl;exact hj (š hN g (I.ok.inj _ _ _ e t ▸ hi))
  .by_cases hcc:T=c
   .subst hcc;exists _,P
   .obtain⟨w2,z2⟩:=I.cell y T e;exists w2,z2.sameBut f hcc
  .obtain⟨e,n,S,nf,d⟩:=I.pin p hp;exists(f.2 p.1 ?_).trans e,n,S,nf,d;intro q;rw[q,R]at e;have q':oc=p.2:=bC e;exact d U (by rw[<- q'];exact L)
def Ş{A:qe}{Q:Unit->qa->Prop}(I:Inv X pins σ H s)(hN:X.N.Nodup)(hi:X.N[i]?=some x)(hx:Loc X.env.scope x)(r:xl v u)
  (h:∀s',Inv X pins (σ.set i (some v)) H s'->Q ⟨⟩ s') (hf:X.fn x=true\/X.env.scope.names.lookup x=some .local:=by first|exact .inl rfl|exact .inr rfl|assumption):wpAny M A (storeName X.env x u) Q E s :=
 Č I hN hi hx r (λs' a Z=>h s' a) hf
def Inv.call'{ch:Υ}(I:Inv X pins σ H s)(ho:s'.os=s.os)(u:Un (frs X.stack) ch H H' s.heap s'.heap)(hok:HOk X.prog X.w H' s'.heap)(hg:AllBare s'.gens)
  (hch:∀b∈ch,(b∈X.ex\/X.s₀.heap.objs.size<=b)/\b≠X.env.locals/\(∀x c,X.env.cells.lookup x=some c->c≠b)/\∀p∈X.pn++pins,p.1≠b):Inv X pins σ H' s':=by let⟨d,g',d',t',a⟩:=s';have e:a=s.os:=ho;subst e;exact I.call (g':=g') (t':=t') (d':=d') u hok hg hch
end
abbrev XK:=qb->qj z4->Hp->Prop
abbrev St:=qi (qj V)
abbrev _root_.Ζ:=St->Hp->Prop
variable{σ:St}
abbrev VK:=V->Hp->Prop
abbrev TE:=St->Hp->VK->Prop
variable{ta te:TE}
abbrev TT:=St->Hp->(Bool->Hp->Prop)->Prop
abbrev TA:=St->Hp->(qi V->Hp->Prop)->Prop
structure ł where
 nx:Ζ
 rt:VK
 bk:Ζ:=λZ Z=>False
 ct:Ζ:=λZ Z=>False
abbrev TS:=ł->St->Hp->Prop
def EP(X:Cx)(pins:Θ)(σ:St)(Q:VK)(u:qb)(s':qa):Prop:=∃v H',Inv X pins σ H' s'/\xl v u/\Q v H'
def TP(X:Cx)(pins:Θ)(σ:St)(Q:Bool->Hp->Prop)(b:Bool)(s':qa):Prop:=∃H',Inv X pins σ H' s'/\Q b H'
def AP(X:Cx)(pins:Θ)(σ:St)(Q:qi V->Hp->Prop)(us:Ξ)(s':qa):Prop:=∃vs H',Inv X pins σ H' s'/\wu vs us/\Q vs H'
def SP(X:Cx)(pins:Θ)(D:ł)(f:Flow)(s':qa):Prop :=
 match f with
 | .next=>∃σ' H',Inv X pins σ' H' s'/\D.nx σ' H'
 | .brk=>∃σ' H',Inv X pins σ' H' s'/\D.bk σ' H'
 | .cont=>∃σ' H',Inv X pins σ' H' s'/\D.ct σ' H'
 | .ret u=>∃v σ' H',Inv X pins σ' H' s'/\xl v u/\D.rt v H'
structure PE(X:Cx)(e:qg)(t:TE):Prop where
 go:∀(pins:Θ)(s:qa)(σ:St)(H:Hp)(Q:VK),Inv X pins σ H s->t σ H Q->wpAny (model X.prog X.w) X.A (eval e X.env) (EP X pins σ Q) X.xe s
instance {X:Cx}{e:qg}{t:TE}:CoeFun (PE X e t) (λZ=>∀(pins:Θ)(s:qa)(σ:St)(H:Hp)(Q:VK),Inv X pins σ H s->t σ H Q->wpAny (model X.prog X.w) X.A (eval e X.env) (EP X pins σ Q) X.xe s):=⟨PE.go⟩
structure PT(X:Cx)(e:qg)(t:TT):Prop where
 go:∀(pins:Θ)(s:qa)(σ:St)(H:Hp)(Q:Bool->Hp->Prop),Inv X pins σ H s->t σ H Q->wpAny (model X.prog X.w) X.A (isTrue e X.env (eval e X.env)) (TP X pins σ Q) X.xe s
instance {X:Cx}{e:qg}{t:TT}:CoeFun (PT X e t) (λZ=>∀(pins:Θ)(s:qa)(σ:St)(H:Hp)(Q:Bool->Hp->Prop),Inv X pins σ H s->t σ H Q->wpAny (model X.prog X.w) X.A (isTrue e X.env (eval e X.env)) (TP X pins σ Q) X.xe s):=⟨PT.go⟩
def PW(X:Cx)(e:qg)(t:TT):Prop :=
 ∀(whole:Sem qb)(pins:Θ)(s:qa)(σ:St)(H:Hp)(Q:Bool->Hp->Prop),Inv X pins σ H s->t σ H Q->wpAny (model X.prog X.w) X.A (isTrue e X.env whole) (TP X pins σ Q) X.xe s
def PW.pt{e:qg}{t:TT}(h:PW X e t):PT X e t:=⟨h _⟩
structure PA(X:Cx)(es:qi qg)(t:TA):Prop where
 go:∀(pos:Pos)(pins:Θ)(s:qa)(σ:St)(H:Hp)(Q:qi V->Hp->Prop),Inv X pins σ H s->t σ H Q->wpAny (model X.prog X.w) X.A (spliced (backTo pos (starEach es X.env))) (AP X pins σ Q) X.xe s
instance {X:Cx}{es:qi qg}{t:TA}:CoeFun (PA X es t) (λZ=>∀(pos:Pos)(pins:Θ)(s:qa)(σ:St)(H:Hp)(Q:qi V->Hp->Prop),Inv X pins σ H s->t σ H Q->wpAny (model X.prog X.w) X.A (spliced (backTo pos (starEach es X.env))) (AP X pins σ Q) X.xe s):=⟨PA.go⟩
structure PS(X:Cx)(st:qc)(t:TS):Prop where
 go:∀(pins:Θ)(s:qa)(σ:St)(H:Hp)(D:ł),Inv X pins σ H s->t D σ H->wpAny (model X.prog X.w) X.A (exec st X.env) (SP X pins D) X.xe s
instance {X:Cx}{st:qc}{t:TS}:CoeFun (PS X st t) (λZ=>∀(pins:Θ)(s:qa)(σ:St)(H:Hp)(D:ł),Inv X pins σ H s->t D σ H->wpAny (model X.prog X.w) X.A (exec st X.env) (SP X pins D) X.xe s):=⟨PS.go⟩
structure PSs(X:Cx)(st:qi qc)(t:TS):Prop where
 go:∀(pins:Θ)(s:qa)(σ:St)(H:Hp)(D:ł),Inv X pins σ H s->t D σ H->wpAny (model X.prog X.w) X.A (execs st X.env) (SP X pins D) X.xe s
instance {X:Cx}{st:qi qc}{t:TS}:CoeFun (PSs X st t) (λZ=>∀(pins:Θ)(s:qa)(σ:St)(H:Hp)(D:ł),Inv X pins σ H s->t D σ H->wpAny (model X.prog X.w) X.A (execs st X.env) (SP X pins D) X.xe s):=⟨PSs.go⟩
def thn{α:Type}{t:Sem α}{Q Q':α->qa->Prop}{A:qe}{s:qa}(h:wpAny M A t Q E s)(hQ:∀a s,Q a s->Q' a s):wpAny M A t Q' E s:=cJ h hQ λZ Z x=>x
section
def vf3(i:Nat):TE:=λσ H Q=>∃v,σ[i]?=some (some v)/\Q v H
def tC(v:V):TE:=λZ H Q=>Q v H
def yv3{pos:Pos}(hN:X.N[i]?=some x)(hv:Vis X.env.scope x)(hd:(x == ("__debug__":Str))=false:=by decide)(hcd:(x == ("__classdict__":Str))=false:=by decide):PE X (.Name x pos) (vf3 i):=by
 refine .mk λf s σ H Q I h=>?_;let⟨v,e,h⟩:=h;let⟨m,n,j⟩:=I.loc;let⟨u,r,l⟩:=j i x v hN e hv;have b:EP X f σ Q u s:=⟨v,H,I,r,h⟩;rcases l with⟨d,k⟩|⟨d,c,g,a⟩
 .exact wpAny_Name (wpAny_loadName_local I.ok.kind d n k b) hd
 .rcases d with d|d
  .exact wpAny_Name (wpAny_loadName_cell I.ok.kind d g a b) hd
  .exact wpAny_Name (wpAny_loadName_free I.ok.kind d g a b hcd) hd
def yf{i j pos}:PE X (.Constant (.int i) j pos) (tC (.int i)):=.mk λZ Z Z H Z I h=>wpAny_Constant_int ⟨.int i,H,I.tok _,⟨_,rfl⟩,h⟩
def ul{b j pos}:PE X (.Constant (.bool b) j pos) (tC (.bl b)):=.mk λZ Z Z H Z I h=>Constant_bool ⟨.bl b,H,I,rfl,h⟩
def jh{j pos}:PE X (.Constant .none j pos) (tC .non):=.mk λZ Z Z H Z I h=>Constant_none ⟨.non,H,I,rfl,h⟩
def yj{x j pos}:PE X (.Constant (.str x) j pos) (tC (.str x)):=.mk λZ Z Z H Z I h=>Calls.Constant_str ⟨.str x,H,I.tok _,⟨_,rfl⟩,h⟩
def Gl(X:Cx)(x:Str):Prop:=X.env.kindOf x=some .globalImplicit
def jv{s:qa}{pos:Pos}(I:Inv X pins σ H s)(hg:Gl X x)(hm:X.mg x=some u)(h:Q u s)
  (hd:(x == ("__debug__":Str))=false:=by decide):wpAny (model X.prog X.w) X.A (eval (.Name x pos) X.env) Q E s :=
 Calls.Name_function_global I.ok.kind hg (Calls.loadGlobal_global (by rw[I.ok.glob];exact I.mod.glob.keeps I.bk) hm h) hd
def ę{s:qa}{pos:Pos}(I:Inv X pins σ H s)(hg:Gl X x)(hm:X.mg x=none)(hv:bootBuiltins x=some u)(h:Q u s)
  (hn:x≠"__name__":=by decide) (hd:(x == ("__debug__":Str))=false:=by decide):wpAny (model X.prog X.w) X.A (eval (.Name x pos) X.env) Q E s:=by let⟨c,b,a⟩:=I.mod.blt;exact Calls.Name_function_global I.ok.kind hg (Calls.loadGlobal_builtin (by rw[I.ok.glob];exact I.mod.glob.keeps I.bk) hm (by rw[I.ok.blt];exact b.keeps I.bk) ((a x hn).trans hv) h) hd
def yco{pos:Pos}(hg:Gl X x)(hm:X.mg x=some u)(r:xl v u)(hd:(x == ("__debug__":Str))=false:=by decide):PE X (.Name x pos) (tC v):=.mk
 λZ Z Z H Z I h=>jv I hg hm ⟨v,H,I,r,h⟩ hd
def yss{pos:Pos}(hg:Gl X x)(hm:X.mg x=none)(hv:bootBuiltins x=some u)(r:xl v u)(hn:x≠"__name__":=by decide)(hd:(x == ("__debug__":Str))=false:=by decide):PE X (.Name x pos) (tC v):=.mk
 λZ Z Z H Z I h=>ę I hg hm hv ⟨v,H,I,r,h⟩ hn hd
variable{a b:qg}{tb:TE}{pos:Pos}
def PC(X:Cx)(op:CmpOp)(a b:qg)(t:TE):Prop :=
 ∀(pins:Θ)(s:qa)(σ:St)(H:Hp)(Q:VK),Inv X pins σ H s->t σ H Q ->
  wpAny (model X.prog X.w) X.A (eval a X.env) (λv s₁=>wpAny (model X.prog X.w) X.A (eval b X.env) (λu s₂=>wpAny (model X.prog X.w) X.A (compareOp op v u) (EP X pins σ Q) X.xe s₂) X.xe s₁) X.xe s
def tB(t:TE):TT:=λσ H Q=>t σ H λx H1=>∃c,x=.bl c/\Q c H1
def yjk{t:TE}(h:PC X op a b t)(h1:behindInMarks op b=false:=by first|exact nobehind _ ∅ ∅|rfl):PT X (.Compare a [op] [b] pos) (tB t):=by refine .mk λe s σ H Q I l=>?_;refine wpAny_isTrue_Compare1 (thn (h e s σ H _ I l) λv m h1=>thn h1 λu n f=>thn f λc o h'=>?_) h1;let⟨x,g,j,i,k⟩:=h';let⟨d,rfl,q⟩:=k;cases i;exact cF ⟨g,j,q⟩
def xz{e:qg}{t:TE}(h:PE X e t)(he:∀whole,isTrue e X.env whole=(do let v <- whole;standAt e.pos;holding [v] (truthy v)):=by intro _;rfl):PT X e (tB t):=by refine .mk λa s σ H Q I i=>?_;refine isTrue_plain (thn (h a s σ H _ I i) λv j h'=>?_) (he _);let⟨x,b,f,c,g⟩:=h';let⟨d,rfl,q⟩:=g;cases c;exact cF ⟨b,f,q⟩
variable{tA tB':TT}{j3:qi qg}
def vg7(t u:TT):TT:=λσ H Q=>t σ H λc H1=>if c=true then u σ H1 Q else Q false H1
def tOr(t u:TT):TT:=λσ H Q=>t σ H λc H1=>if c=true then Q true H1 else u σ H1 Q
def vgm(t:TT):TT:=λσ H Q=>t σ H λc H1=>Q (!c) H1
def yh7(ha:PT X a tA):PW X (.BoolOp .And [a] pos) tA:=by
 intro d b s σ H Q I h;refine isTrue_and (thn (ha b s σ H Q I h) λc f e=>?_)
 cases c with
 |true=>exact isTrue_and_nil e
 |false=>exact e
def Ö(ha:PT X a tA):PW X (.BoolOp .Or [a] pos) tA:=by
 intro d b s σ H Q I h;refine isTrue_or (thn (ha b s σ H Q I h) λc f e=>?_)
 cases c with
 |false=>exact isTrue_or_nil e
 |true=>exact e
def yje(ha:PT X a tA)(hb:PW X (.BoolOp .And (b::j3) pos) tB'):PW X (.BoolOp .And (a::b::j3) pos) (vg7 tA tB'):=by
 intro i d s σ H Q I h;refine isTrue_and (thn (ha d s σ H _ I h) λc j ⟨e,f,g⟩=>?_)
 cases c with
 |true=>exact hb i d j σ e Q f g
 |false=>exact⟨e,f,g⟩
def ð(ha:PT X a tA)(hb:PW X (.BoolOp .Or (b::j3) pos) tB'):PW X (.BoolOp .Or (a::b::j3) pos) (tOr tA tB'):=by
 intro i d s σ H Q I h;refine isTrue_or (thn (ha d s σ H _ I h) λc j ⟨e,f,g⟩=>?_)
 cases c with
 |true=>exact⟨e,f,g⟩
 |false=>exact hb i d j σ e Q f g
def xw(ha:PT X a tA):PT X (.UnaryOp .Not a pos) (vgm tA):=by refine .mk λb s σ H Q I h=>?_;exact isTrue_not (ha b s σ H (λc d=>Q (!c) d) I h)
def vaz(ta tb:TE):TE:=λσ H Q=>ta σ H λx H1=>∃c,x=.bl c/\if c=true then tb σ H1 Q else Q (.bl false) H1
def vbx(ta:TE):TE:=λσ H Q=>ta σ H λx H1=>∃c,x=.bl c/\Q (.bl (!c)) H1
def ι{op}{t:TE}(h:PE X a t):PE X (.BoolOp op [a] pos) t:=.mk λb s σ H Q I c=>BoolOp_one (h b s σ H Q I c)
def zi(ha:PE X a ta)(hb:PE X (.BoolOp .And (b::j3) pos) tb):PE X (.BoolOp .And (a::b::j3) pos) (vaz ta tb):=by
 refine .mk λd s σ H Q I h=>?_;refine BoolOp_and (thn (ha d s σ H _ I h) λv i h'=>?_);let⟨x,f,g,j,e⟩:=h';let⟨c,rfl,e⟩:=e;cases j;refine cF ?_
 cases c with
 |true=>exact hb d i σ f Q g e
 |false=>exists .bl false,f,g,rfl,e
def yzc(ha:PE X a ta):PE X (.UnaryOp .Not a pos) (vbx ta):=by refine .mk λb s σ H Q I h=>?_;refine UnaryOp_ (thn (ha b s σ H _ I h) λv i h'=>?_);let⟨x,e,g,f,d⟩:=h';let⟨c,rfl,d⟩:=d;cases f;exact not_of (cF ⟨.bl (!c),e,g,rfl,d⟩)
def tIf(t:TT)(ta tb:TE):TE:=λσ H Q=>t σ H λc H1=>if c=true then ta σ H1 Q else tb σ H1 Q
def j9{c:qg}(hc:PT X c tA)(ha:PE X a ta)(hb:PE X b tb):PE X (.IfExp c a b pos) (tIf tA ta tb):=by
 refine .mk λe s σ H Q I h=>?_;refine wpAny_IfExp (thn (hc e s σ H _ I h) λd g ⟨f,i,j⟩=>?_)
 cases d with
 |true=>exact ha e g σ f Q i j
 |false=>exact hb e g σ f Q i j
end
def SqL(K:z3)(H:Hp)(a:z4)(xs:Τ):Prop :=
 Rd H a (.lst xs) \/
  ∃(o:Obj)(its:Array qb)(n:Nat),K.lookup a=some o/\o.cls=.type "list"/\o.dict=none/\o.data=.seq its n/\its.size<=sizeLine/\wu xs its.toList
def SqT(K:z3)(H:Hp)(a:z4)(xs:Τ):Prop :=
 Rd H a (.tup xs) \/
  ∃(o:Obj)(its:Array qb)(n:Nat),K.lookup a=some o/\o.cls=.type "tuple"/\o.data=.seq its n/\its.size<=sizeLine/\wu xs its.toList
noncomputable def vhg:qb->qj V
 | .none=>some .non
 | .bool b=>some (.bl b)
 | .int i _=>some (.int i)
 | .str x _=>some (.str x)
 | .bytes b _=>some (.byt b)
 | .float b _=>some (.flt b)
 | .ref a=>some (.ref a)
 | .type n=>some (.ty n)
 |_=>none
def xl.abs{x:V}(r:xl x u):vhg u=some x:=by
 cases x with
 |non=>cases r;rfl
 |bl _=>cases r;rfl
 |int _=>let⟨t,rfl⟩:=r;rfl
 |str _=>let⟨t,rfl⟩:=r;rfl
 |byt _=>let⟨t,rfl⟩:=r;rfl
 |flt _=>let⟨t,rfl⟩:=r;rfl
 |ref _=>cases r;rfl
 |ty _=>cases r;rfl
def xl.inj{x:V}(r:xl x u)(q:xl y u):x=y:=bC (r.abs.symm.trans q.abs)
theorem wu.inj(h:wu xs us)(k:wu ys us):xs=ys:=by
 induction h generalizing ys with
 |nil=>cases k;rfl
 |cons r t ih =>
  cases k with
  |cons r' t'=>rw[r.inj r',ih t']
section
variable{s:qa}
def SqL.of{K:z3}(h:H a=some (.lst xs)):SqL K H a xs:=.inl (.inl h)
def SqT.of{K:z3}(h:H a=some (.tup xs)):SqT K H a xs:=.inl (.inl h)
def Inv.list(I:Inv X pins σ H s)(h:SqL X.K H a xs):∃its:Ξ,wu xs its/\PlainL s.heap a its.toArray/\xs.length<=sizeLine:=by
 rcases h with h|⟨o,its,n,c,b,d,f,g,r⟩
 .obtain⟨z,its,n,r,e⟩:=h.ok I.hok;exists its,r,⟨_,n,e,rfl,rfl,rfl⟩,z
 .exists its.toList,r,⟨o,n,I.kIn a o c,b,d,by simpa using f⟩,?_;have e:=r.length;simp only[cj]at e;omega
def Inv.tuple(I:Inv X pins σ H s)(h:SqT X.K H a xs):∃its:Ξ,wu xs its/\IsTup s.heap a its.toArray/\xs.length<=sizeLine:=by
 rcases h with h|⟨o,its,n,c,b,d,f,r⟩
 .obtain⟨z,its,r,p⟩:=h.ok I.hok;exact⟨its,r,p,z⟩
 .exists its.toList,r,⟨o,I.kIn a o c,b,n,by simpa using d⟩,?_;have e:=r.length;simp only[cj]at e;omega
def Inv.list_inj(I:Inv X pins σ H s)(h:SqL X.K H a xs)(h':SqL X.K H a ys):xs=ys:=by
 let⟨c,r,⟨o,n,e,_,_,d⟩,_⟩:=I.list h;let⟨b,i,⟨k,j,g,_,_,f⟩,_⟩:=I.list h';rw[e]at g;cases g;rw[d]at f;injection f with d1 _;have:c=b:=by simpa using congrArg Array.toList d1
 subst this;exact r.inj i
def Inv.tuple_inj(I:Inv X pins σ H s)(h:SqT X.K H a xs)(h':SqT X.K H a ys):xs=ys:=by
 let⟨c,r,⟨o,e,_,n,d⟩,_⟩:=I.tuple h;let⟨b,i,⟨k,g,_,j,f⟩,_⟩:=I.tuple h';rw[e]at g;cases g;rw[d]at f;injection f with d1 _;have:c=b:=by simpa using congrArg Array.toList d1
 subst this;exact r.inj i
end
noncomputable abbrev Cx.wish(X:Cx)(E:Δ):Cx:={X with xe:=E}
noncomputable abbrev Cx.nox(X:Cx):Cx:=X.wish λZ Z=>False
theorem Cx.Ok.wish(ok:X.Ok)(E:Δ):(X.wish E).Ok :=
 ⟨ok.mod,ok.kind,ok.glob,ok.blt,ok.above,ok.inj,ok.has,ok.cab,ok.hd,ok.frames,ok.stk,ok.exf,ok.bs,ok.bsz,ok.noex,ok.exfs,ok.funs,ok.frf⟩
def Cx.Ok.unwish(ok:(X.wish E).Ok):X.Ok :=
 ⟨ok.mod,ok.kind,ok.glob,ok.blt,ok.above,ok.inj,ok.has,ok.cab,ok.hd,ok.frames,ok.stk,ok.exf,ok.bs,ok.bsz,ok.noex,ok.exfs,ok.funs,ok.frf⟩
section
variable{s:qa}
theorem Inv.wish(I:Inv X pins σ H s)(E:Δ):Inv (X.wish E) pins σ H s:=⟨I.ok.wish E,I.os,I.bare,I.base,I.loc,I.cell,I.free,I.freeC,I.pin,I.hok,I.len⟩
theorem Inv.unwish(I:Inv (X.wish E) pins σ H s):Inv X pins σ H s:=⟨I.ok.unwish,I.os,I.bare,I.base,I.loc,I.cell,I.free,I.freeC,I.pin,I.hok,I.len⟩
theorem SP.unwish{D:ł}{f:Flow}(h:SP (X.wish E) pins D f s'):SP X pins D f s':=by
 cases f with
 |next=>let⟨σ',a,I,q⟩:=h;exact⟨σ',a,I.unwish,q⟩
 |brk=>let⟨σ',a,I,q⟩:=h;exact⟨σ',a,I.unwish,q⟩
 |cont=>let⟨σ',a,I,q⟩:=h;exact⟨σ',a,I.unwish,q⟩
 |ret u=>let⟨v,σ',a,I,r,q⟩:=h;exists v,σ',a,I.unwish,r,q
theorem PSs.nox{st:qi qc}{t:TS}(h:PSs X.nox st t):PSs X st t:=.mk λa s σ H D I b =>
 cJ (h a s σ H D (I.wish _) b) (λZ Z q=>q.unwish) λZ Z z=>False.elim z
end
section
variable{st:qc}{j3:qi qc}{t u:TS}{e:qg}{pos:Pos}
def vci:TS:=λD σ H=>D.nx σ H
def vf5(t u:TS):TS:=λD σ H=>t {D with nx:=u D} σ H
def y8:PSs X [] vci:=.mk λZ Z σ H Z I h=>wpAny_execs_nil ⟨σ,H,I,h⟩
def yg(h1:PS X st t)(h2:PSs X j3 u):PSs X (st::j3) (vf5 t u):=by
 refine .mk λa s σ H D I h=>?_;refine wpAny_execs_cons (thn (h1 a s σ H {D with nx:=u D} I h) λf d q=>?_)
 cases f with
 |next =>
  let⟨σ',c,b,q⟩:=q;exact h2 a d σ' c D b q
 |ret v=>exact q
 |brk=>exact q
 |cont=>exact q
def yc(h1:PS X st t):PSs X [st] t:=by
 refine .mk λa s σ H D I h=>?_;refine wpAny_execs_cons (thn (h1 a s σ H D I h) λf b q=>?_)
 cases f with
 |next=>exact wpAny_execs_nil q
 |ret v=>exact q
 |brk=>exact q
 |cont=>exact q
def Inv.quiet{s:qa}(I:Inv X pins σ H s):interactive X.env=false:=by simp[interactive,I.ok.kind]
def vbu(te:TE):TS:=λD σ H=>te σ H λZ H1=>D.nx σ H1
def y6(he:PE X e te)(hs:swapsWith e none pos.line X.env=pure false:=by rfl):PS X (.Expr e pos) (vbu te):=by refine .mk λa s σ H D I h=>?_;exact wpAny_Expr_any (thn (he a s σ H _ I h) λv f ⟨x,b,c,g,d⟩=>⟨σ,b,c,d⟩) I.quiet hs
def vg8(te:TE):TS:=λD σ H=>te σ H D.rt
def yu(he:PE X e te):PS X (.Return (some e) pos) (vg8 te):=by refine .mk λa s σ H D I h=>?_;exact wpAny_Return_some (thn (he a s σ H _ I h) λv g ⟨x,b,d,c,f⟩=>⟨x,σ,b,d,c,f⟩)
def vgb(c:TT)(t u:TS):TS:=λD σ H=>c σ H λb H1=>if b=true then t D σ H1 else u D σ H1
def vv{c:qg}{a b:qi qc}{tc:TT}(hc:PT X c tc)(ha:PSs X a t)(hb:PSs X b u):PS X (.If c a b pos) (vgb tc t u):=by
 refine .mk λe s σ H D I h=>?_;refine wpAny_If (thn (hc e s σ H _ I h) λd g ⟨f,i,j⟩=>?_)
 cases d with
 |true=>exact ha e g σ f D i j
 |false=>exact hb e g σ f D i j
def yyr:TS:=λZ Z Z=>False
def ymm:PS X st yyr:=.mk λZ Z Z Z Z Z h=>h.elim
end
abbrev TG:=V->St->Hp->(Ζ)->Prop
abbrev TGs:=qi V->St->Hp->(Ζ)->Prop
def PG(X:Cx)(target:qg)(t:TG):Prop :=
 ∀(pins:Θ)(s:qa)(σ:St)(H:Hp)(v:V)(u:qb)(Q:Ζ),Inv X pins σ H s->xl v u->t v σ H Q ->
  wpAny (model X.prog X.w) X.A (assign target X.env u) (λZ s'=>∃σ' H',Inv X pins σ' H' s'/\Q σ' H') X.xe s
def PGs(X:Cx)(ts:qi qg)(t:TGs):Prop :=
 ∀(pins:Θ)(s:qa)(σ:St)(H:Hp)(vs:Τ)(us:Ξ)(Q:Ζ),Inv X pins σ H s->wu vs us->t vs σ H Q ->
  wpAny (model X.prog X.w) X.A (assignInOrder ((assignEach ts X.env).map (·.2)) us) (λZ s'=>∃σ' H',Inv X pins σ' H' s'/\Q σ' H') X.xe s
section
variable{pos:Pos}
def x0(i:Nat):TG:=λv σ H Q=>Q (σ.set i (some v)) H
def wd(hN:X.N.Nodup)(hi:X.N[i]?=some x)(hx:Loc X.env.scope x)(hf:X.fn x=true\/X.env.scope.names.lookup x=some .local:=by first|exact .inl rfl|exact .inr rfl|assumption):PG X (.Name x pos) (x0 i):=by intro a s σ H v u Q I r h;exact wpAny_assign_Name (Ş I hN hi hx r (λc b=>⟨_,H,b,h⟩) hf)
def ym6:TGs:=λvs σ H Q=>vs=[]/\Q σ H
def η(t:TG)(u:TGs):TGs:=λvs σ H Q=>∃v r,vs=v::r/\t v σ H λσ' H'=>u r σ' H' Q
def Ė:PGs X [] ym6:=by intro a s σ H b c Q I r h;let⟨e,h⟩:=h;subst e;cases r;exact assignInOrder_nil ⟨σ,H,I,h⟩
def ub{e:qg}{t:TG}{u:TGs}(h1:PG X e t)(h2:PGs X es u)
  (hs:(assignEach (e::es) X.env).map (·.2)=assign e X.env::(assignEach es X.env).map (·.2):=by rfl):PGs X (e::es) (η t u):=by
 intro a s σ H i k Q I r h;let⟨v,j,f,h⟩:=h;subst f
 cases r with
 |cons r rr =>
  rw[hs];refine assignInOrder_cons (thn (h1 a s σ H _ _ _ I r h) λZ c ⟨σ1,b,d,g⟩=>?_);exact h2 a c σ1 b _ _ Q d rr g
def yug(K:z3)(n:Nat)(t:TGs):TG:=λv σ H Q=>∃a xs,v=.ref a/\SqT K H a xs/\xs.length=n/\t xs σ H Q
def yd8{k:Nat}{t:TGs}{n:Nat}(hc:X.calm=true)(h:PGs X es t)
  (hn:(assignEach es X.env).length=n:=by rfl) (hst:(assignEach es X.env).findIdx? (·.1)=none:=by rfl):PG X (.Tuple es k pos) (yug X.K n t):=by intro c s σ H v u Q I r d;let⟨a,w,x,l,i,d⟩:=d;subst x;cases r;let⟨m,f,p,y⟩:=I.tuple l;refine assign_Tuple_tuple (I.ok.hd hc) p (by simp[hn,<- i,f.length]) hst λq g=>?_;have j:Inv X c σ H {s with heap:=q}:=I.kept (t':=s.toks) λb o e=>g b o (bS (br e)) e;exact h c _ σ H w _ Q j (by simpa using f) d
def vd1(te:TE)(g:TG):TS:=λD σ H=>te σ H λx H1=>g x σ H1 D.nx
def yxs{e:qg}{g:TG}(he:PE X e te)(hg:PG X tg g)(hs:swapsWithSole [tg] e pos.line X.env=pure false:=by rfl)(hw:swappedStores [tg] e X.env=pure none:=by rfl)
  (h1:(assignEach [tg] X.env).map (·.2)=[assign tg X.env]:=by rfl):PS X (.Assign [tg] e pos) (vd1 te g):=by refine .mk λa s σ H D I h=>?_;refine wpAny_Assign_stores (thn (he a s σ H _ I h) λv c h'=>?_) hs hw;let⟨x,b,f,d,i⟩:=h';rw[h1];exact thn (hg a c σ b x v _ f d i) λZ j q=>q
def y7{e:qg}{pos':Pos}(hN:X.N.Nodup)(hi:X.N[i]?=some x)(hx:Loc X.env.scope x)(he:PE X e te)(hs:swapsWith e (some (.Name x pos')) pos.line X.env=pure false:=by rfl)(hf:X.fn x=true\/X.env.scope.names.lookup x=some .local:=by first|exact .inl rfl|exact .inr rfl|assumption):
  PS X (.Assign [.Name x pos'] e pos) (vd1 te (x0 i)):=by refine .mk λa s σ H D I h=>?_;refine wpAny_Assign_Name (thn (he a s σ H _ I h) λv j h'=>?_) hs;let⟨y,b,d,c,g⟩:=h';exact Ş d hN hi hx c (λk f=>⟨_,b,f,g⟩) hf
end
section
variable{pos:Pos}
def yz3(c:TT)(tb:TS):TS:=λD σ H=>∃W:Nat->St->Hp->Prop,(∃m,W m σ H)/\∀m σ H,W m σ H ->
 c σ H λb H1=>if b=true then ∃N:Ζ,(∀σ' H',N σ' H'->∃m',m'<m/\W m' σ' H')/\tb {D with nx:=N,ct:=N,bk:=D.nx} σ H1 else D.nx σ H1
def δ{c:qg}{tc:TT}{tb:TS}(hp:PassesOwn (model X.prog X.w) X.A X.env X.xe)(hc:PT X c tc)(hb:PSs X body tb):PS X (.While c body [] pos) (yz3 tc tb):=by
 refine .mk λa s σ H D I h=>?_;let⟨W,⟨C,z⟩,d⟩:=h;refine wpAny_While (codeAny_whileLoop (λn y=>∃σ' H',Inv X a σ' H' y/\W n σ' H') ?_ C ⟨σ,H,I,z⟩);rintro n u ⟨σ1,r,B,E⟩;refine wpAny_passesOwn hp (thn (hc a u σ1 r _ B (d n σ1 r E)) λb x ⟨q,t,i⟩=>?_)
 cases b with
 |true =>
  let⟨N,p,i⟩:=i;rw[if_pos rfl];refine wpAny_passesOwn hp (thn (hb a x σ1 q _ t i) λf F g=>?_)
  cases f with
  |next =>
   let⟨σ3,e,l,o⟩:=g;let⟨m,k,j⟩:=p σ3 e o;exists m,k,σ3,e,l,j
  |cont =>
   let⟨σ3,e,l,o⟩:=g;let⟨m,k,j⟩:=p σ3 e o;exists m,k,σ3,e,l,j
  |brk=>exact g
  |ret v=>exact g
 |false =>
  rw[if_neg bz];exact wpAny_execs_nil ⟨σ1,q,t,i⟩
end
structure It where
 go:Nat->Hp->Prop
 yld:Nat->Hp->V->Hp->Prop
 stop:Nat->Hp->Prop
def ye3(X:Cx)(pins:Θ)(H:Hp)(b:z4):Prop :=
 H b=none/\b≠X.env.locals/\b∉X.fs/\(b∈X.ex\/X.s₀.heap.objs.size<=b)/\(∀x c,X.env.cells.lookup x=some c->c≠b)/\∀p∈X.pn++pins,p.1≠b
def Inv.fpOk{s:qa}{b:z4}(I:Inv X pins σ H s)(hb:s.heap.objs.size<=b)(hn:H' b=none):ye3 X pins H' b:=by
 exists hn,Nat.ne_of_gt (bU I.lt hb),I.nofs hb,.inr (bX I.sz hb),λx c e z=>?_,λp a z=>?_
 .obtain⟨v,q⟩:=I.cell x c e;exact absurd (bU q.lt (by rw[z];exact hb)) (cQ _)
 .exact absurd (bU (br (I.pin p a).1) (by rw[z];exact hb)) (cQ _)
structure yga(P:qh)(w:qd)(K:z3)(tg:qg)(J:It)(fp:Υ)(it:z4)(tn:Nat->qf->Prop):Prop where
 mem:it∈fp
 obj:∀i h,tn i h->∀b∈fp,∃o,h.get? b=some o/\∀v,o.data≠.cell v
 keep:∀i h h',tn i h->(∀b∈fp,∀o,h.get? b=some o->h'.get? b=some o)->tn i h'
 item:∀(X:Cx),X.prog=P->X.w=w->X.K=K->X.calm=true->∀(i:Nat)(pins:Θ)(s:qa)(σ:St)(H:Hp)(E:Δ),Inv X pins σ H s->(∀b∈fp,ye3 X pins H b)->tn i s.heap->J.go i H ->
  wpAny (model P w) X.A (pyNext (.ref it)) (λr s1=>∃u,r=some u/\
   wpAny (model P w) X.A (letOwnedTupleGo tg (.ref it) u) (λZ s2=>∃x H',Inv X pins σ H' s2/\xl x u/\J.yld i H x H'/\tn (i+1) s2.heap/\∀b∈fp,H' b=none) E s1) E s
 done:∀(X:Cx),X.prog=P->X.w=w->X.K=K->X.calm=true->∀(i:Nat)(pins:Θ)(s:qa)(σ:St)(H:Hp)(E:Δ),Inv X pins σ H s->(∀b∈fp,ye3 X pins H b)->tn i s.heap->J.stop i H ->
  wpAny (model P w) X.A (pyNext (.ref it)) (λr s1=>r=none/\Inv X pins σ H s1) E s
 self:∀(A:qe)(i:Nat)(s:qa)(Q:Δ)(E:Δ),tn i s.heap->Q (.ref it) s->wpAny (model P w) A (pyIter (.ref it)) Q E s
abbrev TI:=St->Hp->(It->Hp->Prop)->Prop
def PIE(X:Cx)(pins:Θ)(σ:St)(tg:qg)(R:It->Hp->Prop)(itv:qb)(s2:qa):Prop :=
 ∃(it:z4)(fp:Υ)(tn:Nat->qf->Prop)(J:It)(H':Hp),itv=.ref it/\Inv X pins σ H' s2/\yga X.prog X.w X.K tg J fp it tn/\tn 0 s2.heap/\(∀b∈fp,ye3 X pins H' b)/\R J H'
def PI(X:Cx)(tg iter:qg)(wi:TI):Prop :=
 ∀(pins:Θ)(s:qa)(σ:St)(H:Hp)(R:It->Hp->Prop),Inv X pins σ H s->wi σ H R ->
  wpAny (model X.prog X.w) X.A (eval iter X.env) (λv s1=>wpAny (model X.prog X.w) X.A (pyIter v) (PIE X pins σ tg R) X.xe s1) X.xe s
def yf3{A:qe}{s:qa}{it:z4}{o:Obj}{n:String}{vs:Array qb}{Q:Unit->qa->Prop}(ho:s.heap.get? it=some o)(hc:o.cls=.type n)(hd:o.data=.fields vs)
  (hn:["enumerate","zip","dict_itemiterator","dict_reverseitemiterator","odict_iterator","itertools.zip_longest","itertools.pairwise"].contains n=false) (hQ:Q ⟨⟩ s):wpAny M A (letOwnedTupleGo tg (.ref it) u) Q E s:=by
 unfold letOwnedTupleGo
 cases tg<;>first
  |exact bo hQ
  | (cases u<;>first
    |exact bo hQ
    | (refine bd (wpAny_load ho ?_)
       rw[hc,hd];show wpAny M A (if (["enumerate","zip","dict_itemiterator","dict_reverseitemiterator","odict_iterator","itertools.zip_longest","itertools.pairwise"].contains n && vs[0]? == some (rawInt _))=true then _ else _) Q E s;rw[if_neg (by intro h;rw[hn,Bool.false_and]at h;cases h)];exact bo hQ))
noncomputable def Itl(K:z3)(a:z4):It :=
 ⟨λi H=>∃xs x,SqL K H a xs/\xs[i]?=some x,λi H x H'=>H'=H/\∀xs,SqL K H a xs->xs[i]?=some x,λi H=>∃xs,SqL K H a xs/\xs.length<=i⟩
noncomputable def Itt(K:z3)(a:z4):It :=
 ⟨λi H=>∃xs x,SqT K H a xs/\xs[i]?=some x,λi H x H'=>H'=H/\∀xs,SqT K H a xs->xs[i]?=some x,λi H=>∃xs,SqT K H a xs/\xs.length<=i⟩
def Itr(lo:Int)(n:Nat):It:=⟨λi Z=>i<n,λi H x H'=>H'=H/\x=.int (lo+i),λi Z=>n<=i⟩
def yhj{w:qd}{K:z3}(a it:z4):yga P w K tg (Itl K a) [it] it (λi h=>h.IsListIter it a i) where
 mem:=by simp
 obj:=λi h f b j=>by
  have e:b=it:=by simpa using j
  subst e;let⟨o,e,c,d⟩:=f;exists o,e,λv z=>by rw[d]at z;cases z
 keep:=λi h q f k=>f.at λo e=>k it (by simp) o e
 item:=by
  intro X J F A N i g s σ H E I m f D;subst J F A;let⟨U,x,n,t⟩:=D;let⟨M,C,p,Y⟩:=I.list n;let⟨u,T,ru⟩:=C.get t;let⟨B,r,O,L,G,y⟩:=m it (by simp);refine wpAny_pyNext_list_item f p.isList (x:=u) (by simpa using T) λq l Z=>?_;have S:Inv X g σ H {s with heap:=q}:=I.turned (t':=s.toks) (λb o j e=>(Z.2 b j).trans e) B r L G y;let⟨o,e,c,d⟩:=id l;exists u,rfl,yf3 (s:={s with heap:=q}) e c d ∅ ⟨x,H,S,ru,⟨rfl,λys R=>by rw[I.list_inj R n];exact t⟩,l,λb j=>(m b j).1⟩
 done:=by
  intro X J F A N i g s σ H E I m f D;subst J F A;let⟨U,n,t⟩:=D;let⟨M,C,p,Y⟩:=I.list n;let⟨B,r,O,L,G,y⟩:=m it (by simp);have hl:=C.length;exact wpAny_pyNext_list_end (I.ok.hd N) f p.isList (by simp;omega) λq Q=>⟨rfl,I.turned (t':=s.toks) (λb o j e=>Q b o j e) B r L G y⟩
 self:=λW W W W W f h=>wpAny_pyIter_listiter f h
def yf2{w:qd}{K:z3}(a it:z4):yga P w K tg (Itt K a) [it] it (λi h=>h.IsTupleIter it a i) where
 mem:=by simp
 obj:=λi h f b j=>by
  have e:b=it:=by simpa using j
  subst e;let⟨o,e,c,d⟩:=f;exists o,e,λv z=>by rw[d]at z;cases z
 keep:=λi h r f k=>f.at λo e=>k it (by simp) o e
 item:=by
  intro X L G B N i g s σ H E I n f F;subst L G B;let⟨U,x,q,y⟩:=F;let⟨l,D,p,Y⟩:=I.tuple q;let⟨u,T,ru⟩:=D.get y;let⟨C,t,O,M,J,A⟩:=n it (by simp);refine wpAny_pyNext_tuple_item f (show s.heap.IsTuple a l.toArray from p) (x:=u) (by simpa using T) λr m Z=>?_;have S:Inv X g σ H {s with heap:=r}:=I.turned (t':=s.toks) (λb o j e=>(Z.2 b j).trans e) C t M J A;let⟨o,e,c,d⟩:=id m;exists u,rfl,yf3 (s:={s with heap:=r}) e c d ∅ ⟨x,H,S,ru,⟨rfl,λys R=>by rw[I.tuple_inj R q];exact y⟩,m,λb j=>(n b j).1⟩
 done:=by
  intro X L G B N i g s σ H E I n f F;subst L G B;let⟨U,q,y⟩:=F;let⟨l,D,p,Y⟩:=I.tuple q;let⟨C,t,O,M,J,A⟩:=n it (by simp);have hl:=D.length;exact wpAny_pyNext_tuple_end (I.ok.hd N) f (show s.heap.IsTuple a l.toArray from p) (by simp;omega) λr Q=>⟨rfl,I.turned (t':=s.toks) (λb o j e=>Q b o j e) C t M J A⟩
 self:=λW W W W W f h=>wpAny_pyIter_tupleiter f h
def yfo{w:qd}{K:z3}(it:z4)(lo:Int)(n:Nat):yga P w K tg (Itr lo n) [it] it (λi h=>IsRangeIter h it (lo+(i:Nat)*1) ((n:Int)-(i:Nat)) 1) where
 mem:=by simp
 obj:=λi h a b d=>by
  have e:b=it:=by simpa using d
  subst e
  exact⟨_,a,λv z=>by
   have J:Data.fields _=Data.cell v:=z;cases J⟩
 keep:=λi h j a k=>k it (by simp) _ a
 item:=by
  intro X y u p A i c s σ H E I g a r;subst y u p;let⟨q,l,D,B,x,m⟩:=g it (by simp);have W:=Walks.range (prog:=X.prog) (w:=X.w) (I.ok.hd A) it lo 1 n;refine W.item i s _ _ r a λv j C M f G=>?_;let⟨t,rfl⟩:=M;have L:Inv X c σ H {s with heap:=j,toks:=C}:=I.turned (λb o d e=>G b o (by simpa using d) e) q l B x m;exists _,rfl,yf3 (s:={s with heap:=j,toks:=C}) (n:="range_iterator") f rfl rfl ∅ ⟨.int (lo+i),H,L,⟨t,?_⟩,⟨rfl,rfl⟩,f,λb d=>(g b d).1⟩;rw[Int.mul_one]
 done:=by
  intro X y u p A i c s σ H E I g a r;subst y u p;let⟨q,l,D,B,x,m⟩:=g it (by simp);exact wpAny_pyNext_range_end (I.ok.hd A) a (by have:n<=i:=r;omega) λj F=>⟨rfl,I.turned (t':=s.toks) (λb o d e=>F b o d e) q l B x m⟩
 self:=λZ Z Z Z Z a h=>wpAny_pyIter_rangeiter a h
def vav(K:z3)(tl:TE):TI:=λσ H R=>tl σ H λx H1=>∃a,x=.ref a/\(∃xs,SqL K H1 a xs)/\R (Itl K a) H1
def vg9(K:z3)(tl:TE):TI:=λσ H R=>tl σ H λx H1=>∃a,x=.ref a/\(∃xs,SqT K H1 a xs)/\R (Itt K a) H1
def ww{l:qg}{tl:TE}(hl:PE X l tl):PI X tg l (vav X.K tl):=by
 intro c s σ H R I h;refine thn (hl c s σ H _ I h) λv d h'=>?_;let⟨x,g,f,i,n⟩:=h';let⟨a,e,⟨u,j⟩,q⟩:=n;subst e;cases i;let⟨k,t,p,r⟩:=f.list j;refine wpAny_pyIter_list p.isList ?_;exists d.heap.objs.size,[d.heap.objs.size],_,_,g,rfl,f.kept (t':=d.toks) λb o e=>bh _ e,yhj a _,⟨_,bx _ rfl,rfl,rfl⟩,λb m=>?_,q;have e:b=d.heap.objs.size:=by simpa using m
 subst e;exact f.fpOk (bj _) (f.hok.fresh (bj _))
def yej{l:qg}{tl:TE}(hl:PE X l tl):PI X tg l (vg9 X.K tl):=by
 intro c s σ H R I h;refine thn (hl c s σ H _ I h) λv d h'=>?_;let⟨x,i,f,j,n⟩:=h';let⟨a,e,⟨u,k⟩,q⟩:=n;subst e;cases j;let⟨g,t,p,r⟩:=f.tuple k;refine wpAny_pyIter_tuple (show d.heap.IsTuple a g.toArray from p) ?_;exists d.heap.objs.size,[d.heap.objs.size],_,_,i,rfl,f.kept (t':=d.toks) λb o e=>bh _ e,yf2 a _,⟨_,bx _ rfl,rfl,rfl⟩,λb m=>?_,q;have e:b=d.heap.objs.size:=by simpa using m
 subst e;exact f.fpOk (bj _) (f.hok.fresh (bj _))
def yks{s:qa}{R:It->Hp->Prop}{lo hi:Int}{t u v:Tok}{tk:Nat}(I:Inv X pins σ H s)(h1:-(2^62)<=lo)(h2:lo<2^62)(h3:-(2^62)<=hi)(h4:hi<2^62)
  (q:R (Itr lo (hi-lo).toNat) H):wpAny (model X.prog X.w) X.A (pyIter (.ref s.heap.objs.size)) (PIE X pins σ tg R) E {s with heap:=s.heap.push { cls:=.type "range",data:=.fields #[.int lo t,.int hi u,.int 1 v]},toks:=tk}:=by
 refine wpAny_pyIter_range (IsRange.new ..) (small_one h1 h2 h3 h4) ?_;have a:Inv X pins σ H {s with heap:=s.heap.push { cls:=.type "range",data:=.fields #[.int lo t,.int hi u,.int 1 v]},toks:=tk}:=I.kept λb o e=>bh _ e
 refine⟨(s.heap.push { cls:=.type "range",data:=.fields #[.int lo t,.int hi u,.int 1 v]}).objs.size,[(s.heap.push { cls:=.type "range",data:=.fields #[.int lo t,.int hi u,.int 1 v]}).objs.size],_,_,H,rfl,
  a.kept (t':=tk) λb o e=>bh _ e,yfo _ lo (hi-lo).toNat,?_,λb d=>?_,q⟩
 .have f:lo+((0:Nat):Int)*1=lo:=by simp
  have c:(((hi-lo).toNat:Nat):Int)-((0:Nat):Int)=Builtin.Range.rangeSize lo hi 1:=by rw[rangeSize_one];split<;>omega
  show IsRangeIter _ _ (lo+((0:Nat):Int)*1) ((((hi-lo).toNat:Nat):Int)-((0:Nat):Int)) 1;rw[f,c];exact bx _ rfl
 .have e:b=(s.heap.push { cls:=.type "range",data:=.fields #[.int lo t,.int hi u,.int 1 v]}).objs.size:=by simpa using d
  subst e;exact a.fpOk (bj _) (a.hok.fresh (bj _))
def vb9(ta:TA):TI:=λσ H R=>ta σ H λvs H1=>∃j:Int,vs=[.int j]/\-(2^62)<=j/\j<2^62/\R (Itr 0 j.toNat) H1
def u7{a:qg}{ta:TA}{p pos:Pos}(hg:Gl X "range")(hm:X.mg "range"=none)(ha:PA X [a] ta)(hs:starEach [a] X.env=[(false,eval a X.env)]:=by rfl):PI X tg (.Call (.Name "range" p) [a] [] pos) (vb9 ta):=by
 intro b s σ H R I h;refine Call_ (ę I hg hm boot_range (PyProof.Rows.callWith_type1 (thn (ha pos b s σ H _ I h) λm l h'=>?_) hs rfl));let⟨k,i,f,d,c⟩:=h';let⟨j,e,c,g,q⟩:=c;subst e
 cases d with
 |cons r rr =>
  cases rr;let⟨t,rfl⟩:=r;exact call_range_1 (yks f () () c g (by simpa using q))
def vgh(wi:TI)(g:TG)(tb:TS):TS:=λD σ H=>wi σ H λJ H1=>∃W:Nat->Nat->St->Hp->Prop,(∃m,W 0 m σ H1)/\∀i m σ H,W i m σ H ->
 (J.stop i H/\D.nx σ H)\/(J.go i H/\∃N:Ζ,(∀σ' H',N σ' H'->∃m',m'<m/\W (i+1) m' σ' H')/\∀x H',J.yld i H x H'->g x σ H' λσ2 H2=>tb {D with nx:=N,ct:=N,bk:=D.nx} σ2 H2)
noncomputable def ye2(fp:Υ)(h:qf):Θ:=fp.filterMap λb=>(h.get? b).map λo=>(b,o)
def uz{h:qf}{b:z4}{o:Obj}(hb:b∈fp)(e:h.get? b=some o):(b,o)∈ye2 fp h:=List.mem_filterMap.mpr ⟨b,hb,by rw[e];rfl⟩
def ygm{h:qf}{p:z4×Obj}(hp:p∈ye2 fp h):p.1∈fp/\h.get? p.1=some p.2:=by
 let⟨b,a,e⟩:=List.mem_filterMap.mp hp
 cases q:h.get? b with
 |none=>rw[q]at e;cases e
 |some o =>
  rw[q]at e;have c:(b,o)=p:=bC e;subst c;exists a,q
def Inv.pinned{s:qa}(I:Inv X pins σ H s)(hf:∀b∈fp,ye3 X pins H b)(ho:∀b∈fp,∃o,s.heap.get? b=some o/\∀v,o.data≠.cell v):Inv X (pins++ye2 fp s.heap) σ H s :=
 I.pins_of λp i=>(bM.mp i).elim (λz=>I.pin p (bQ _ z)) λz=>by
  let⟨a,e⟩:=ygm z;let⟨h,f,g,_⟩:=hf p.1 a;let⟨o,c,d⟩:=ho p.1 a;rw[e]at c;cases c;exists e,h,f,g,d
def Inv.unpinned{pl:Θ}{s:qa}(I:Inv X (pins++pl) σ H s):Inv X pins σ H s:=I.pins_of λp a=>I.pin p (bQ _ (cC _ a))
def ux{iter:qg}{wi:TI}{g:TG}{tb:TS}{pos:Pos}(hp:PassesOwn (model X.prog X.w) X.A X.env X.xe)(hc:X.calm=true)(hi:PI X tg iter wi)(hg:PG X tg g)(hb:PSs X body tb)
  (hs:∀x,foldedSetIterable iter X.env x=pure x:=by intro _;rfl):PS X (.For tg iter body [] pos) (vgh wi g tb):=by
 refine .mk λa s σ H D I h=>?_;refine wpAny_For (thn (hi a s σ H _ I h) λv s1 h1=>thn h1 λa0 s2 h2=>?_) hs;let⟨it,F,U,J,H2,e,I2,T,P,Q,W,⟨m0,w0⟩,C⟩:=h2;subst e;have j:∀{H':Hp},(∀b∈F,H' b=none)->∀b∈F,ye3 X a H' b:=λhn b hb=>⟨hn b hb,(Q b hb).2⟩;refine codeAny_forLoop_any (λn Z=>∃i σ' H',Inv X a σ' H' Z/\U i Z.heap/\(∀b∈F,H' b=none)/\W i n σ' H') ?_ m0 ⟨0,σ,H2,I2,P,λb hb=>(Q b hb).1,w0⟩;rintro n S ⟨i,σ3,G,Y,t,z,w3⟩;rcases C i n σ3 G w3 with⟨B,qn⟩|⟨go,N,hN,E⟩
 .refine wpAny_passesOwn hp (thn (T.done X rfl rfl rfl hc i a S σ3 G X.xe Y (j z) t B) λr s4 ⟨O,I4⟩=>?_);subst O;exact wpAny_execs_nil ⟨σ3,G,I4,qn⟩
 .refine wpAny_passesOwn hp (thn (T.item X rfl rfl rfl hc i a S σ3 G X.xe Y (j z) t go) λr s4 ⟨u,O,h4⟩=>?_);subst O;refine wpAny_passesOwn hp (thn h4 λw R h'=>?_);let⟨x,H5,I5,r5,y5,q,L⟩:=h';have M:=I5.pinned (j L) (T.obj _ _ q);refine wpAny_passesOwn hp (thn (hg _ R σ3 H5 x u _ M r5 (E x H5 y5)) λw s6 ⟨σ6,H6,I6,q6⟩=>?_);refine wpAny_passesOwn hp (thn (hb _ s6 σ6 H6 _ I6 q6) λf K p=>?_)
  have l:∀{σ7:St}{c:Hp},Inv X (a++ye2 F R.heap) σ7 c K->N σ7 c->∃m,m<n/\∃i σ' H',Inv X a σ' H' K/\U i K.heap/\(∀b∈F,H' b=none)/\W i m σ' H':=λ{σ7 c}k y=>by
   let⟨m',hm,w7⟩:=hN σ7 c y;exists m',hm,i+1,σ7,c,k.unpinned,T.keep _ _ _ q λb hb o e=>(k.pin (b,o) (bQ _ (bQ _ (uz hb e)))).1,λb hb=>?_,w7;let⟨o,e,d⟩:=T.obj _ _ q b hb;exact(k.pin (b,o) (bQ _ (bQ _ (uz hb e)))).2.1
  cases f with
  |next=>let⟨σ7,c,k,y⟩:=p;exact l k y
  |cont=>let⟨σ7,c,k,y⟩:=p;exact l k y
  |brk=>let⟨σ7,c,k,p⟩:=p;exact⟨σ7,c,k.unpinned,p⟩
  |ret v=>let⟨x7,σ7,c,k,r7,p⟩:=p;exists x7,σ7,c,k.unpinned,r7,p
def ua{K:z3}{g:TG}{tb:TS}{D:ł}(Pv:Nat->St->Hp->Prop)(h0:Pv 0 σ H)(hl:∀i σ H,i<=xs.length->Pv i σ H->SqL K H a xs)
  (hs:∀i x σ H,xs[i]?=some x->Pv i σ H->g x σ H λσ2 H2=>tb {D with nx:=Pv (i+1),ct:=Pv (i+1),bk:=D.nx} σ2 H2) (hd:∀σ H,Pv xs.length σ H->D.nx σ H):
  ∃W:Nat->Nat->St->Hp->Prop,(∃m,W 0 m σ H)/\∀i m σ H,W i m σ H ->
   ((Itl K a).stop i H/\D.nx σ H)\/((Itl K a).go i H/\∃N:Ζ,(∀σ' H',N σ' H'->∃m',m'<m/\W (i+1) m' σ' H')/\∀x H',(Itl K a).yld i H x H'->g x σ H' λσ2 H2=>tb {D with nx:=N,ct:=N,bk:=D.nx} σ2 H2):=by
 exists λi m σ H=>m=xs.length-i/\i<=xs.length/\Pv i σ H,⟨xs.length,by simp,bN _,h0⟩,?_;rintro i m σ H ⟨rfl,b,p⟩;have q:=hl i σ H b p;by_cases hlt:i<xs.length
 .refine .inr ⟨⟨xs,xs[i],q,by simp[hlt]⟩,Pv (i+1),λσ' H' c=>⟨xs.length-(i+1),(),rfl,hlt,c⟩,λx H' y=>?_⟩;let⟨e,y⟩:=y;subst e;exact hs i x σ _ (y xs q) p
 .have e:i=xs.length:=()
  subst e;exact .inl ⟨⟨xs,q,bj _⟩,hd σ H p⟩
def Ď{lo:Int}{n:Nat}{g:TG}{tb:TS}{D:ł}(Pv:Nat->St->Hp->Prop)(h0:Pv 0 σ H)
  (hs:∀i σ H,i<n->Pv i σ H->g (.int (lo+i)) σ H λσ2 H2=>tb {D with nx:=Pv (i+1),ct:=Pv (i+1),bk:=D.nx} σ2 H2) (hd:∀σ H,Pv n σ H->D.nx σ H):
  ∃W:Nat->Nat->St->Hp->Prop,(∃m,W 0 m σ H)/\∀i m σ H,W i m σ H ->
   ((Itr lo n).stop i H/\D.nx σ H)\/((Itr lo n).go i H/\∃N:Ζ,(∀σ' H',N σ' H'->∃m',m'<m/\W (i+1) m' σ' H')/\∀x H',(Itr lo n).yld i H x H'->g x σ H' λσ2 H2=>tb {D with nx:=N,ct:=N,bk:=D.nx} σ2 H2):=by
 exists λi m σ H=>m=n-i/\i<=n/\Pv i σ H,⟨n,by simp,bN _,h0⟩,?_;rintro i m σ H ⟨rfl,b,p⟩;by_cases hlt:i<n
 .refine .inr ⟨hlt,Pv (i+1),λσ' H' a=>⟨n-(i+1),(),rfl,hlt,a⟩,λx H' y=>?_⟩;let⟨e,y⟩:=y;subst e y;exact hs i σ _ hlt p
 .have e:i=n:=()
  subst e;exact .inl ⟨bj _,hd σ H p⟩
abbrev R2:=V->V->Hp->VK->Prop
def OpR(X:Cx)(f:qb->qb->Sem qb)(r:R2):Prop :=
 ∀(pins:Θ)(s:qa)(σ:St)(H:Hp)(x y:V)(v u:qb)(Q:VK),Inv X pins σ H s->xl x v->xl y u->r x y H Q ->
  wpAny (model X.prog X.w) X.A (f v u) (EP X pins σ Q) X.xe s
def UnR(X:Cx)(f:qb->Sem qb)(r:V->Hp->VK->Prop):Prop :=
 ∀(pins:Θ)(s:qa)(σ:St)(H:Hp)(x:V)(v:qb)(Q:VK),Inv X pins σ H s->xl x v->r x H Q ->
  wpAny (model X.prog X.w) X.A (f v) (EP X pins σ Q) X.xe s
def jd(X:Cx)(f:qb)(r:qi V->Hp->VK->Prop):Prop :=
 ∀(pins:Θ)(s:qa)(σ:St)(H:Hp)(xs:Τ)(us:Ξ)(Q:VK),Inv X pins σ H s->wu xs us->r xs H Q ->
  wpAny (model X.prog X.w) X.A (call f us) (EP X pins σ Q) X.xe s
def tOp(r:R2)(ta tb:TE):TE:=λσ H Q=>ta σ H λx H1=>tb σ H1 λy H2=>r x y H2 Q
def tUn(r:V->Hp->VK->Prop)(ta:TE):TE:=λσ H Q=>ta σ H λx H1=>r x H1 Q
def rI(C:Int->Int->Prop)(g:Int->Int->V):R2:=λx y H Q=>∃i j,x=.int i/\y=.int j/\C i j/\Q (g i j) H
def rI0(g:Int->Int->V):R2:=λx y H Q=>∃i j,x=.int i/\y=.int j/\Q (g i j) H
def rU(g:Int->V):V->Hp->VK->Prop:=λx H Q=>∃i,x=.int i/\Q (g i) H
section
variable{a b c:qg}{tb tc:TE}{pos:Pos}
def veb(ha:PE X a ta)(hb:PE X b tb){s:qa}{R:V->V->Hp->Prop}(I:Inv X pins σ H s)
  (h:ta σ H λx H1=>tb σ H1 λy H2=>R x y H2) {Q:Δ} {f:qb->qb->Sem qb}
  (hf:∀v u s2 x y H2,Inv X pins σ H2 s2->xl x v->xl y u->R x y H2->wpAny (model X.prog X.w) X.A (f v u) Q X.xe s2):
  wpAny (model X.prog X.w) X.A (eval a X.env) (λv s₁=>wpAny (model X.prog X.w) X.A (eval b X.env) (λu s₂=>wpAny (model X.prog X.w) X.A (f v u) Q X.xe s₂) X.xe s₁) X.xe s:=by refine thn (ha pins s σ H _ I h) λv c h'=>?_;let⟨x,H1,g,e,k⟩:=h';refine thn (hb pins c σ H1 _ g k) λu s2 h'=>?_;let⟨y,H2,i,d,j⟩:=h';exact hf v u s2 x y H2 i e d j
def yn{op:Operator}{r:R2}(ho:OpR X (binaryOp op) r)(ha:PE X a ta)(hb:PE X b tb):PE X (.BinOp a op b pos) (tOp r ta tb):=by refine .mk λc s σ H Q I h=>?_;exact wpAny_BinOp (veb ha hb I h λv u g x y e f d i q=>ho c g σ e x y v u Q f d i q)
def ymv{op:UnaryOp}{r:V->Hp->VK->Prop}(ho:UnR X (unaryOp op) r)(ha:PE X a ta):PE X (.UnaryOp op a pos) (tUn r ta):=by refine .mk λb s σ H Q I h=>?_;exact UnaryOp_ (thn (ha b s σ H _ I h) λv d ⟨x,c,f,e,g⟩=>ho b d σ c x v Q f e g)
def opI{f:qb->qb->Sem qb}{C:Int->Int->Prop}{g:Int->Int->Int}
  (rule:∀(i j:Int)(t u:Tok)(s:qa)(Q:Δ)(E:Δ),C i j->Q (.int (g i j) s.toks) {s with toks:=s.toks+1}->wpAny (model X.prog X.w) X.A (f (.int i t) (.int j u)) Q E s):
  OpR X f (rI C λi j=>.int (g i j)):=by intro a s σ H x y v u Q I b d h;let⟨i,j,rfl,rfl,c,q⟩:=h;let⟨t,rfl⟩:=b;let⟨e,rfl⟩:=d;exact rule i j t e s _ _ c ⟨.int (g i j),H,I.tok _,⟨_,rfl⟩,q⟩
def vgx{f:qb->qb->Sem qb}{g:Int->Int->Int}
  (rule:∀(i j:Int)(t u:Tok)(s:qa)(Q:Δ)(E:Δ),Q (.int (g i j) s.toks) {s with toks:=s.toks+1}->wpAny (model X.prog X.w) X.A (f (.int i t) (.int j u)) Q E s):
  OpR X f (rI0 λi j=>.int (g i j)):=by intro a s σ H x y v u Q I b d h;let⟨i,j,rfl,rfl,q⟩:=h;let⟨t,rfl⟩:=b;let⟨c,rfl⟩:=d;exact rule i j t c s _ _ ⟨.int (g i j),H,I.tok _,⟨_,rfl⟩,q⟩
def vee{f:qb->qb->Sem qb}{g:Int->Int->Bool}
  (rule:∀(i j:Int)(t u:Tok)(s:qa)(Q:Δ)(E:Δ),Q (.bool (g i j)) s->wpAny (model X.prog X.w) X.A (f (.int i t) (.int j u)) Q E s):
  OpR X f (rI0 λi j=>.bl (g i j)):=by intro a s σ H x y v u Q I b d h;let⟨i,j,rfl,rfl,q⟩:=h;let⟨t,rfl⟩:=b;let⟨c,rfl⟩:=d;exact rule i j t c s _ _ ⟨.bl (g i j),H,I,rfl,q⟩
def vf4(i j:Int):Prop:=0<=j/\j<=1000000/\i.natAbs<2^64
def vf1(i j:Int):Prop:=(-(2^64)<i/\i<2^64)\/(-(2^64)<j/\j<2^64)
def vf1.ok{i j:Int}(h:vf1 i j):IntMulOk i j:=by
 rcases h with⟨b,a⟩|⟨b,a⟩
 .exact .of_left (intBits_le_64 b a)
 .exact .of_right (intBits_le_64 b a)
def yfk(k:Nat):(0:Int)<=2^k:=by rw[two_pow_cast];exact Int.natCast_nonneg _
def wc:OpR X (binaryOp .Add) (rI0 λi j=>.int (i+j)):=vgx λZ Z Z Z Z Z Z q=>add_int q
def zz:OpR X (binaryOp .Sub) (rI0 λi j=>.int (i-j)):=vgx λZ Z Z Z Z Z Z q=>sub_int q
def xf:OpR X (binaryOp .Mult) (rI vf1 λi j=>.int (i*j)):=opI λZ Z Z Z Z Z Z a q=>mul_int q a.ok
def u9:OpR X (binaryOp .Mod) (rI (λZ j=>0<j) λi j=>.int (i%j)):=opI λi j Z Z Z Z Z a q=>by
 have b:(0:Int)<j:=a;exact mod_int' () (by rw[Int.fmod_eq_emod_of_nonneg i ()];exact q)
def vag:OpR X (binaryOp .Pow) (rI vf4 λi j=>.int (i^j.toNat)):=opI λZ Z Z Z Z Z Z a q=>pow_int_small a.1 a.2.1 a.2.2 q
def yw7:OpR X (binaryOp .RShift) (rI (λZ j=>0<=j) λi j=>.int (i/2^j.toNat)):=opI λi j Z Z Z Z Z a q =>
 rshift_int a (by rw[Int.fdiv_eq_ediv_of_nonneg i (yfk _)];exact q)
def unI{f:qb->Sem qb}{g:Int->Int}
  (rule:∀(i:Int)(t:Tok)(s:qa)(Q:Δ)(E:Δ),Q (.int (g i) s.toks) {s with toks:=s.toks+1}->wpAny (model X.prog X.w) X.A (f (.int i t)) Q E s):
  UnR X f (rU λi=>.int (g i)):=by intro a s σ H x v Q I b h;let⟨i,rfl,q⟩:=h;let⟨t,rfl⟩:=b;exact rule i t s _ _ ⟨.int (g i),H,I.tok _,⟨_,rfl⟩,q⟩
def yd9:UnR X (unaryOp .USub) (rU λi=>.int (-i)):=unI λZ Z Z Z Z q=>neg_int q
end
noncomputable def vgc:V->V->Bool
 | .non,.non=>true| .non,.int _=>true| .int _,.non=>true| .non,.bl _=>true| .bl _,.non=>true| .non,.str _=>true| .str _,.non=>true
 | .int _,.int _=>true| .bl _,.bl _=>true| .str _,.str _=>true| .byt _,.byt _=>true
 | .int _,.str _=>true| .str _,.int _=>true| .bl _,.str _=>true| .str _,.bl _=>true
 |_,_=>false
def rEq:R2:=λx y H Q=>vgc x y=true/\Q (.bl (decide (x=y))) H
def rNe:R2:=λx y H Q=>vgc x y=true/\Q (.bl (!decide (x=y))) H
def yil{i j:Int}:decide (V.int i=V.int j)=(i == j):=by rw[Bool.eq_iff_iff];simp
def yog{i j:Bool}:decide (V.bl i=V.bl j)=(i == j):=by rw[Bool.eq_iff_iff];simp
def yiy{i j:Str}:decide (V.str i=V.str j)=(i == j):=by rw[Bool.eq_iff_iff];simp
def yii{i j:Array UInt8}:decide (V.byt i=V.byt j)=(i.toList == j.toList):=by rw[Bool.eq_iff_iff];cases i;cases j;simp
section
variable{a b c:qg}{tb tc:TE}{pos:Pos}
def wn{s:qa}{Q:VK}{k k':Bool}(I:Inv X pins σ H s)(q:Q (.bl k) H)(e:k=k'):EP X pins σ Q (.bool k') s:=by subst e;exists .bl k,H,I,rfl,q
def xk:OpR X (compareOp .Eq) rEq:=by
 intro e s σ H x y v u Q I d a h;let⟨c,q⟩:=h
 cases x with
 |non =>
  cases d
  cases y with
  |non=>cases a;exact PySem.EqNone.eq_none_none (wn I q (by simp))
  |bl j=>cases a;exact PySem.EqNone.eq_none_bool (wn I q (by simp))
  |int j=>let⟨b,rfl⟩:=a;exact PySem.EqNone.eq_none_int (wn I q (by simp))
  |str j=>let⟨b,rfl⟩:=a;exact PySem.EqNone.eq_none_str (wn I q (by simp))
  |_=>exact absurd (show false=true from c) bz
 |bl i =>
  cases d
  cases y with
  |non=>cases a;exact PySem.EqNone.eq_bool_none (wn I q (by simp))
  |bl j=>cases a;exact eq_bool (wn I q yog)
  |str j=>let⟨b,rfl⟩:=a;exact PySem.EqMixed.eq_bool_str (wn I q (by simp))
  |_=>exact absurd (show false=true from c) bz
 |int i =>
  let⟨t,rfl⟩:=d
  cases y with
  |non=>cases a;exact PySem.EqNone.eq_int_none (wn I q (by simp))
  |int j=>let⟨b,rfl⟩:=a;exact eq_int (wn I q yil)
  |str j=>let⟨b,rfl⟩:=a;exact PySem.EqMixed.eq_int_str (wn I q (by simp))
  |_=>exact absurd (show false=true from c) bz
 |str i =>
  let⟨t,rfl⟩:=d
  cases y with
  |non=>cases a;exact PySem.EqNone.eq_str_none (wn I q (by simp))
  |bl j=>cases a;exact PySem.EqMixed.eq_str_bool (wn I q (by simp))
  |int j=>let⟨b,rfl⟩:=a;exact PySem.EqMixed.eq_str_int (wn I q (by simp))
  |str j=>let⟨b,rfl⟩:=a;exact eq_str (wn I q yiy)
  |_=>exact absurd (show false=true from c) bz
 |byt i =>
  let⟨t,rfl⟩:=d
  cases y with
  |byt j=>let⟨b,rfl⟩:=a;exact W.eq_bytes (wn I q yii)
  |_=>exact absurd (show false=true from c) bz
 |_=>cases y<;>exact absurd (show false=true from c) bz
def ybk:OpR X (compareOp .NotEq) rNe:=by
 intro e s σ H x y v u Q I d a h;let⟨c,q⟩:=h
 cases x with
 |non =>
  cases d
  cases y with
  |non=>cases a;exact PySem.EqNone.ne_none_none (wn I q (by simp))
  |bl j=>cases a;exact PySem.EqNone.ne_none_bool (wn I q (by simp))
  |int j=>let⟨b,rfl⟩:=a;exact PySem.EqNone.ne_none_int (wn I q (by simp))
  |str j=>let⟨b,rfl⟩:=a;exact PySem.EqNone.ne_none_str (wn I q (by simp))
  |_=>exact absurd (show false=true from c) bz
 |bl i =>
  cases d
  cases y with
  |non=>cases a;exact PySem.EqNone.ne_bool_none (wn I q (by simp))
  |bl j=>cases a;exact ne_bool (wn I q (congrArg not yog))
  |str j=>let⟨b,rfl⟩:=a;exact PySem.EqMixed.ne_bool_str (wn I q (by simp))
  |_=>exact absurd (show false=true from c) bz
 |int i =>
  let⟨t,rfl⟩:=d
  cases y with
  |non=>cases a;exact PySem.EqNone.ne_int_none (wn I q (by simp))
  |int j=>let⟨b,rfl⟩:=a;exact ne_int (wn I q (congrArg not yil))
  |str j=>let⟨b,rfl⟩:=a;exact PySem.EqMixed.ne_int_str (wn I q (by simp))
  |_=>exact absurd (show false=true from c) bz
 |str i =>
  let⟨t,rfl⟩:=d
  cases y with
  |non=>cases a;exact PySem.EqNone.ne_str_none (wn I q (by simp))
  |bl j=>cases a;exact PySem.EqMixed.ne_str_bool (wn I q (by simp))
  |int j=>let⟨b,rfl⟩:=a;exact PySem.EqMixed.ne_str_int (wn I q (by simp))
  |str j=>let⟨b,rfl⟩:=a;exact ne_str (wn I q (congrArg not yiy))
  |_=>exact absurd (show false=true from c) bz
 |byt i =>
  let⟨t,rfl⟩:=d
  cases y with
  |byt j=>let⟨b,rfl⟩:=a;exact W.ne_bytes (wn I q (congrArg not yii))
  |_=>exact absurd (show false=true from c) bz
 |_=>cases y<;>exact absurd (show false=true from c) bz
def ŷ:OpR X (compareOp .Lt) (rI0 λi j=>.bl (decide (i<j))):=vee λZ Z Z Z Z Z Z q=>lt_int q
def je:OpR X (compareOp .LtE) (rI0 λi j=>.bl (decide (i<=j))):=vee λZ Z Z Z Z Z Z q=>le_int q
def ym0:OpR X (compareOp .Gt) (rI0 λi j=>.bl (decide (j<i))):=vee λZ Z Z Z Z Z Z q=>gt_int q
def vfs:OpR X (compareOp .GtE) (rI0 λi j=>.bl (decide (j<=i))):=vee λZ Z Z Z Z Z Z q=>ge_int q
def yax:OpR X (compareOp .In) (λx y H Q=>∃i j,x=.str i/\y=.str j/\Q (.bl (!(Builtin.Str.occurrences j i 0 j.length 1).isEmpty)) H):=by intro a s σ H x y v u Q I b c h;let⟨i,j,rfl,rfl,q⟩:=h;let⟨t,rfl⟩:=b;let⟨d,rfl⟩:=c;exact in_str (wn I q rfl)
def yza:OpR X (compareOp .Is) (λx y H Q=>y=.non/\Q (.bl (decide (x=.non))) H):=by
 intro b s σ H x y v u Q I a c h;let⟨rfl,q⟩:=h;cases c;refine is_none_gen (wn I q ?_)
 cases x<;>first
  |(cases a;rfl)
  |(let⟨t,rfl⟩:=a;rfl)
def ycr:OpR X (compareOp .IsNot) (λx y H Q=>y=.non/\Q (.bl (!decide (x=.non))) H):=by
 intro b s σ H x y v u Q I a c h;let⟨rfl,q⟩:=h;cases c;refine isnot_none_gen (wn I q ?_)
 cases x<;>first
  |(cases a;rfl)
  |(let⟨t,rfl⟩:=a;rfl)
def y9(b:qg)(h:op≠.In:=by decide)(h2:op≠.NotIn:=by decide):behindInMarks op b=false:=by
 have c:(op == CmpOp.In)=false:=by cases op<;>first|rfl|exact absurd rfl h
 have a:(op == CmpOp.NotIn)=false:=by cases op<;>first|rfl|exact absurd rfl h2
 delta behindInMarks
 rw[c,a]
 cases b<;>first|rfl|(show (_ && (false || false) && _)=false;rw[Bool.false_or,Bool.and_false,Bool.false_and])
def uu{r:R2}(ho:OpR X (compareOp op) r)(ha:PE X a ta)(hb:PE X b tb)(hm:behindInMarks op b=false):PE X (.Compare a [op] [b] pos) (tOp r ta tb):=by refine .mk λc s σ H Q I h=>?_;exact wpAny_Compare1 (veb ha hb I h λv u g x y e f d i q=>ho c g σ e x y v u Q f d i q) hm
def yt7(t:TE):TT:=λσ H Q=>t σ H λx H'=>∃k,x=.bl k/\Q k H'
def yx{r:R2}(ho:OpR X (compareOp op) r)(ha:PE X a ta)(hb:PE X b tb)(hm:behindInMarks op b=false):PT X (.Compare a [op] [b] pos) (yt7 (tOp r ta tb)):=by
 refine .mk λd s σ H Q I h=>?_
 refine wpAny_isTrue_Compare1 (thn (ha d s σ H _ I h) λv g ⟨x,f,o,l,A⟩=>thn (hb d g σ f _ o A) λu t ⟨y,j,p,i,w⟩ =>
  thn (ho d t σ j x y v u _ p l i w) λc C ⟨z,B,m,q,k,e,n⟩=>?_) hm
 subst e;cases q;exact cF ⟨B,m,n⟩
def yi6(r r':R2)(ta tb tc:TE):TE:=λσ H Q=>ta σ H λx H1=>tb σ H1 λy H2=>r x y H2 λz H3=>∃k,z=.bl k/\
 (if k=true then tc σ H3 λw' H4=>r' y w' H4 Q else Q (.bl false) H3)
def Í{op':CmpOp}{r r':R2}(ho:OpR X (compareOp op) r)(ho':OpR X (compareOp op') r')(ha:PE X a ta)(hb:PE X b tb)(hc:PE X c tc)
  (hm:lastMarks [op,op'] [b,c]=false:=by with_unfolding_all rfl):PE X (.Compare a [op,op'] [b,c] pos) (yi6 r r' ta tb tc):=by
 refine .mk λf s σ H Q I h=>?_
 refine Compare_chain (thn (ha f s σ H _ I h) λv m ⟨x,D,F,A,M⟩=>chain_link (thn (hb f m σ D _ F M) λu C ⟨y,w,G,g,L⟩ =>
  thn (ho f C σ w x y v u _ G A g L) λd t ⟨z,l,i,q,k,e,j⟩=>?_)) hm
 subst e;cases q;refine cF ?_
 cases k with
 |false=>exact ite_ff ⟨.bl false,l,i,rfl,j⟩
 |true=>exact ite_tt (chain_last (thn (hc f t σ l _ i j) λp J ⟨E,K,B,n,o⟩=>ho' f J σ K y E u p Q B g n o))
def ť{op':CmpOp}{r r':R2}(ho:OpR X (compareOp op) r)(ho':OpR X (compareOp op') r')(ha:PE X a ta)(hb:PE X b tb)(hc:PE X c tc)
  (hm:lastMarks [op,op'] [b,c]=false:=by with_unfolding_all rfl):PT X (.Compare a [op,op'] [b,c] pos) (yt7 (yi6 r r' ta tb tc)):=by
 refine .mk λf s σ H Q I h=>?_
 refine isTrue_chain (thn (ha f s σ H _ I h) λv n ⟨x,F,L,C,U⟩=>test_link (thn (hb f n σ F _ L U) λu E ⟨y,B,M,g,T⟩ =>
  thn (ho f E σ B x y v u _ M C g T) λd A ⟨z,l,i,t,k,e,j⟩=>?_)) hm
 subst e;cases t;refine cF ?_
 cases k with
 |false =>
  let⟨Y,w,J⟩:=j;cases w;exact ite_ff ⟨l,i,J⟩
 |true =>
  refine ite_tt (test_last (thn (hc f A σ l _ i j) λq N ⟨K,R,D,o,p⟩=>thn (ho' f N σ R y K u q _ D g o p) λW Z h'=>?_));let⟨z2,S,P,G,k2,m,O⟩:=h';subst m;cases G;exact cF ⟨S,P,O⟩
def ybc:(sizeLine:Nat)<2^63:=by rw[sizeLine_eq];decide
def ye:OpR X (binaryOp .Add) (λx y H Q=>∃i j,x=.str i/\y=.str j/\i.length+j.length<=sizeLine/\Q (.str (i++j)) H):=by intro a s σ H x y v u Q I b d h;let⟨i,j,rfl,rfl,c,q⟩:=h;let⟨t,rfl⟩:=b;let⟨e,rfl⟩:=d;exact add_str (λe f=>⟨.str (i++j),H,I.tok _,⟨_,rfl⟩,q⟩) c
def ymj(b:qg):Prop:=∀o i,subscripted b false o i=operate [o,i] (getItem o i)
def u6(ha:PE X a ta)(hb:PE X b tb)(hs:ymj b):
  PE X (.Subscript a b pos) (tOp (λx y H Q=>∃z i c,x=.str z/\y=.int i/\0<=i/\i<2^63/\i<z.length/\z.cps[i.toNat]?=some c/\Q (.str ⟨#[c]⟩) H) ta tb):=by
 refine .mk λd s σ H Q I h=>?_;refine Subscript_ (veb ha hb I h λv u j x y m o f r q=>?_);let⟨z,i,c,rfl,rfl,k,n,p,l,q⟩:=q;let⟨t,rfl⟩:=f;let⟨A,rfl⟩:=r;have e:seqIndex? i z.length=some i.toNat:=PySem.StrLaws.seqIndex_nonneg k p
 exact tail_any (typeIs_str j z t) slot_str_getitem.lookup (getItem_str (c:=c) (by
  have w:decide (i< -(2^63:Int))=false:=be ();have g:decide (i ≥ 2^63)=false:=be ();rw[w,g]<;>rfl) (by rw[e];exact l) ⟨.str ⟨#[c]⟩,m,o.tok _,⟨_,rfl⟩,q⟩) (hs _ _)
def î{x:V}(r:wu [x] us):∃u,us=[u]/\xl x u:=by
 cases r with
 |cons r1 r2=>cases r2;exists _,rfl,r1
def ymy{x:V}(r:wu [x,y] us):∃u w',us=[u,w']/\xl x u/\xl y w':=by
 cases r with
 |cons r1 r2 =>
  cases r2 with
  |cons r3 r4=>cases r4;exists _,_,rfl,r1,r3
def yap(hc:X.calm=true):jd X (.builtin "max") (λxs H Q=>∃i j,xs=[.int i,.int j]/\Q (.int (if j > i then j else i)) H):=by
 intro a s σ H xs c Q I r h;let⟨i,j,rfl,q⟩:=h;let⟨u,d,rfl,⟨t,rfl⟩,⟨e,rfl⟩⟩:=ymy r;refine max_two_ints (I.ok.hd hc) λb f k=>⟨_,H,I.kept k,?_,q⟩;by_cases hj:j > i
 .rw[if_pos hj,if_pos hj];exists _,rfl
 .rw[if_neg hj,if_neg hj];exists _,rfl
def yat(hc:X.calm=true):jd X (.builtin "min") (λxs H Q=>∃i j,xs=[.int i,.int j]/\Q (.int (if j<i then j else i)) H):=by
 intro a s σ H xs c Q I r h;let⟨i,j,rfl,q⟩:=h;let⟨u,d,rfl,⟨t,rfl⟩,⟨e,rfl⟩⟩:=ymy r;refine min_two_ints (I.ok.hd hc) λb f k=>⟨_,H,I.kept k,?_,q⟩;by_cases hj:j<i
 .rw[if_pos hj,if_pos hj];exists _,rfl
 .rw[if_neg hj,if_neg hj];exists _,rfl
def ygg:jd X (.type "int") (λxs H Q=>(∃i,xs=[.int i]/\Q (.int i) H)\/∃k,xs=[.bl k]/\Q (.int (if k then 1 else 0)) H):=by
 intro a s σ H xs c Q I r h;rcases h with⟨i,rfl,q⟩|⟨k,rfl,q⟩
 .obtain⟨u,rfl,t,rfl⟩:=î r;exact call_int_int ⟨.int i,H,I,⟨_,rfl⟩,q⟩
 .obtain⟨u,rfl,b⟩:=î r;cases b;exact call_int_bool ⟨.int (if k then 1 else 0),H,I.tok _,⟨_,rfl⟩,q⟩
def yak:jd X (.type "str") (λxs H Q=>∃i,xs=[.int i]/\i.natAbs.log2<1920/\Q (.str (toString i)) H):=by intro a s σ H xs c Q I r h;let⟨i,rfl,b,q⟩:=h;let⟨u,rfl,t,rfl⟩:=î r;exact PySem.P.str_of_int b ⟨.str _,H,I.tok _,⟨_,rfl⟩,q⟩
end
structure yt9(h:qf)(x dx C:z4)(mA:Ε):Prop where
 obj:h.get? x=some (W.instObj C dx)
 ns:h.Ns1 dx mA
 ne:dx≠x
set_option tactic.hygienic true in
def yhl{h:qf}{dx:z4}(n:h.Ns1 dx mA):∃od,h.get? dx=some od/\∀name,W.lookIn name od=some (mA name):=by
 let⟨o,c,l,i,j,g,_,k⟩:=n;exists o,i,λname=>?_;have e:=k name;unfold nsFind findBy at e;rw[<- Array.find?_toList]at e;unfold W.lookIn;rw[j];dsimp only
 split
 .rename_i y q
  rw[q]at e;exact congrArg some e
 .rename_i q
  rw[q]at e
  have a:c.toList.any (·.refKey)=false:=by
   rw[List.any_eq_false];intro y d;let⟨z,t,b⟩:=g y (Array.mem_toList_iff.mp d);simp[DictEntry.refKey,b]
  have f:¬c.toList.any (·.refKey)=true:=by rw[a];exact bz
  rw[if_neg f];exact congrArg some e
def yt9.look{h:qf}{x dx:z4}(I:yt9 h x dx C mA):∃od,W.InstAt h x (W.instObj C dx) C (some od)/\∀name,W.lookIn name od=some (mA name) :=
 let ⟨od,ho,hl⟩:=yhl I.ns
 ⟨od,⟨I.obj,rfl,rfl,ho⟩,hl⟩
section
variable{prog:qh}{w:qd}{A:qe}{s:qa}{K:z3}{x dx f:z4}{name:Str}{v:qb}
def ytc{expr:Bool}(X:K.In s.heap)(I:yt9 s.heap x dx C mA)(hg:W.plainGet K C name=true)(hh:W.hasDictIn K C=true)
  (ha:W.findIn K (.ref C) name=some none) (hv:mA name=some v) (hv':W.handedIn v=true) (h:Q v {s with toks:=s.toks+1}):
  wpAny (model prog w) A (getAttr (.ref x) name expr) Q E s:=by let⟨b,J,a⟩:=I.look;exact W.get_value X J (W.plainGet_of hg).1 (W.findObj_own hh ha rfl (by rw[a,hv])) hv' h
def ylb{pl:Sem Bool}{Q:qb×qi qb->qa->Prop}(X:K.In s.heap)(I:yt9 s.heap x dx C mA)(hg:W.plainGet K C name=true)
  (hf:W.findIn K (.ref C) name=some (some (.ref f))) (ht:W.isFn K (.ref f)=true) (hv:mA name=none) (h:Q (.ref f,[.ref x]) s):
  wpAny (model prog w) A (getMethod (.ref x) name pl) Q E s:=by let⟨b,J,a⟩:=I.look;exact W.method_fn X J (W.plainGet_of hg).1 (W.plainGet_of hg).2 hf (beq_iff_eq.mp ht) (by show (W.lookIn name b).map (·.isSome)=some false;rw[a,hv];rfl) h
def yrt{ns:Ρ}{Q:Unit->qa->Prop}(X:K.In s.heap)(I:yt9 s.heap x dx C mA)
  (hs:W.findIn K (.ref C) "__setattr__"=some (some (.builtin "object.__setattr__"))) (hp:W.plainOver K C=true) (ht:W.takerIn K C name=some none) (hh:W.hasDictIn K C=true)
  (hw:PySem.Within mA ns) (hsz:ns.length<=sizeLine)
  (h:∀h',yt9 h' x dx C (λy=>if y=name then some v else mA y)->Heap.SameBut dx s.heap h'->Q ⟨⟩ {s with heap:=h',toks:=s.toks+2}):
  wpAny (model prog w) A (setAttr (.ref x) name v) Q E s:=by let⟨p,J,q⟩:=I.look;refine W.set_plain X J hs (W.osa_open (s:={s with toks:=s.toks+1}) (r:=none) X J hp ht λb=>?_);let⟨n,k,e⟩:=W.any_some hh;have j:s.heap.get? x=some ⟨.ref C,some dx,.plain,#[]⟩:=I.obj;refine bd (bo (bd (bd (wpAny_loadPart j (bd (W.Looks.here (s:={s with toks:=s.toks+1}) (W.looks_clsIn X k) ?_))))));rw[e];refine bo (a:=some dx) (bd (bo (bd ?_)));refine wpAny_nsSet1 (s:={s with toks:=s.toks+1}) I.ns λh' c d=>?_;let⟨o,l,m,g,i,f⟩:=c.count (PySem.Within.cons name v hw);refine bd (wpAny_lookBehind g (by rw[i];exact pastItsLine_dict (bX f (by rw[bp];omega))) ?_);exact bo (h _ ⟨(d.2 _ (Ne.symm I.ne)).trans I.obj,c,I.ne⟩ d)
def ydw{R:Result->qa->Prop}{vs:Ξ}{kw:qi (Str×qb)}(X:K.In s.heap)(hm:W.makesIn K C=true)
  (hi:W.findIn K (.ref C) "__init__"=some (some (.ref f))) (hf:W.typeIn K (.ref f)=some (.type "function"))
  (h:codeAny (model prog w) (A.under (.builtin "type.__call__" ⟨.ref C::vs,kw⟩)) (.call (.ref f) ⟨.ref (s.heap.objs.size+1)::vs,kw⟩) (W.InitBack (s.heap.objs.size+1) R)
   {s with heap:=(s.heap.push W.emptyDict).push (W.instObj C s.heap.objs.size)}):
  codeAny (model prog w) A (.call (.ref C) ⟨vs,kw⟩) R s:=by let⟨c,g,d,t,b⟩:=s;exact W.make_core (W.makes_of X hm) (W.looks_findIn X hi) (λa=>W.bind_fn X a hf) (.inl rfl) h
end
noncomputable def ζ(f:Str)(v:V):qi (Str×V)->qi (Str×V)
 |[]=>[(f,v)]
 |(g,x)::r=>if g=f then (g,v)::r else (g,x)::ζ f v r
theorem Ą(f g:Str)(v:V):∀fs:Ι,(ζ f v fs).lookup g=if g=f then some v else fs.lookup g
 |[]=>by
  show List.lookup g [(f,v)]=_;by_cases h:g=f
  .have a:(g == f)=true:=beq_iff_eq.mpr h;simp only[List.lookup,a,if_pos h]
  .have a:(g == f)=false:=cS.mpr h;simp only[List.lookup,a,if_neg h]
 |(k,x)::r=>by
  have b:=Ą f g v r;rw[show ζ f v ((k,x)::r)=(if k=f then (k,v)::r else (k,x)::ζ f v r)from rfl];by_cases hk:k=f
  .rw[if_pos hk];by_cases h:g=k
   .have a:(g == k)=true:=beq_iff_eq.mpr h;simp only[List.lookup,a,if_pos (h.trans hk)]
   .have a:(g == k)=false:=cS.mpr h;simp only[List.lookup,a,if_neg (λe:g=f=>h (e.trans hk.symm))]
  .rw[if_neg hk];by_cases h:g=k
   .have a:(g == k)=true:=beq_iff_eq.mpr h;simp only[List.lookup,a,if_neg (λe:g=f=>hk (h.symm.trans e))]
   .have a:(g == k)=false:=cS.mpr h;simp only[List.lookup,a];exact b
theorem ď(f:Str)(v:V):∀fs:Ι,f∈(ζ f v fs).map (·.1)/\∀g,g∈fs.map (·.1)->g∈(ζ f v fs).map (·.1)
 |[]=>⟨by simp[ζ],λg h=>by simp at h⟩
 |(k,x)::r=>by
  let⟨b,a⟩:=ď f v r;rw[show ζ f v ((k,x)::r)=(if k=f then (k,v)::r else (k,x)::ζ f v r)from rfl];by_cases hk:k=f
  .rw[if_pos hk];subst hk;exists by simp,λg h=>by simpa using h
  .rw[if_neg hk];exists ?_,λg h=>?_
   .rw[bR];exact bH _ b
   .rw[bR]at h⊢;rcases bw.mp h with e|e
    .exact bw.mpr (.inl e)
    .exact bH _ (a g e)
theorem ĉ(f:Str)(v:V):∀fs:Ι,(ζ f v fs).length<=fs.length+1
 |[]=>by simp[ζ]
 |(k,x)::r=>by
  have a:=ĉ f v r;rw[show ζ f v ((k,x)::r)=(if k=f then (k,v)::r else (k,x)::ζ f v r)from rfl];by_cases hk:k=f
  .rw[if_pos hk,bp,bp];omega
  .rw[if_neg hk,bp,bp];omega
def ybm.some_of{o:qj qb}(r:ybm (some v) o):∃u,o=some u/\xl v u:=by
 cases o with
 |none=>exact(show False from r).elim
 |some u=>exact⟨u,rfl,r⟩
def ybm.none_of{o:qj qb}(r:ybm none o):o=none:=by
 cases o with
 |none=>rfl
 |some u=>exact(show False from r).elim
def yhn(r:xl v u):W.handedIn u=true:=by
 cases v with
 |non=>cases (show u=Value.none from r);rfl
 |bl b=>cases (show u=Value.bool b from r);rfl
 |int i=>let⟨t,e⟩:=(show ∃t,u=Value.int i t from r);cases e;rfl
 |str x=>let⟨t,e⟩:=(show ∃t,u=Value.str x t from r);cases e;rfl
 |byt b=>let⟨t,e⟩:=(show ∃t,u=Value.bytes b t from r);cases e;rfl
 |flt b=>let⟨t,e⟩:=(show ∃t,u=Value.float b t from r);cases e;rfl
 |ref a=>cases (show u=Value.ref a from r);rfl
 |ty n=>cases (show u=Value.type n from r);rfl
section
variable{w:qd}{h:qf}{dx:z4}{fs fs':Ι}
def ű(hok:HOk P w H h)(e:H a=some (.ins C dx fs)):∃mA,yt9 h a dx C mA/\(∀f,ybm (fs.lookup f) (mA f))/\PySem.Within mA (fs.map (·.1))/\fs.length<=1000/\H dx=some (.own a):=by let⟨d,z,c,b,mA,n,r,q⟩:=(show xm P w H h a (.ins C dx fs)from hok a _ e);exists mA,⟨b,n,c⟩,r,q,z,d
end
structure Cls(K:z3)(C:z4):Prop where
 pg:W.plainGet K C Str.empty=true
 hd:W.hasDictIn K C=true
 po:W.plainOver K C=true
 sa:W.findIn K (.ref C) "__setattr__"=some (some (.builtin "object.__setattr__"))
def Cls.get{K:z3}(c:Cls K C)(f:Str):W.plainGet K C f=true:=c.pg
def NoAttr(K:z3)(C:z4)(f:Str):Prop:=W.findIn K (.ref C) f=some none
def NoAttr.taker{K:z3}{f:Str}(n:NoAttr K C f):W.takerIn K C f=some none:=by unfold W.takerIn;rw[show W.findIn K (.ref C) f=some none from n];rfl
structure Con(K:z3)(C:z4)(f:Str)(v:V)(u:qb):Prop where
 at_:W.findIn K (.ref C) f=some (some u)
 rel:xl v u
 get:W.specialIn K u "__get__"=some none
 cp:W.copiedNames.contains f=false
structure Meth(K:z3)(C:z4)(m:Str)(f:z4):Prop where
 at_:W.findIn K (.ref C) m=some (some (.ref f))
 fn:W.isFn K (.ref f)=true
 kp:W.keepIn K (.ref f)=true
section
variable{s:qa}{dx:z4}{fs:Ι}{f:Str}{A:qe}
def yfe{b:Bool}(I:Inv X pins σ H s)(e:H a=some (.ins C dx fs))(c:Cls X.K C)(n:NoAttr X.K C f)(l:fs.lookup f=some v)
  (h:∀u s',Inv X pins σ H s'->xl v u->Q u s'):wpAny (model X.prog X.w) A (getAttr (.ref a) f b) Q E s:=by let⟨i,O,r,_,_,_⟩:=ű I.hok e;let⟨u,g,d⟩:=ybm.some_of (v:=v) (o:=i f) (by rw[<- l];exact r f);exact ytc I.kIn O (c.get f) c.hd n g (yhn d) (h u _ (I.tok _) d)
def j5{m:Str}{g:z4}{pl:Sem Bool}{Q:qb×qi qb->qa->Prop}(I:Inv X pins σ H s)(e:H a=some (.ins C dx fs))(c:Cls X.K C)(k:Meth X.K C m g)(l:fs.lookup m=none)
  (h:Q (.ref g,[.ref a]) s):wpAny (model X.prog X.w) A (getMethod (.ref a) m pl) Q E s:=by let⟨d,O,r,_,_,_⟩:=ű I.hok e;have b:d m=none:=ybm.none_of (by rw[<- l];exact r m);exact ylb I.kIn O (c.get m) k.at_ k.fn b h
def yfb{Q:Unit->qa->Prop}(I:Inv X pins σ H s)(e:H a=some (.ins C dx fs))(c:Cls X.K C)(n:NoAttr X.K C f)(hl:fs.length<1000)(ry:xl y u)
  (h:∀s',Inv X pins σ (upd H a (.ins C dx (ζ f y fs))) s'->Q ⟨⟩ s'):wpAny (model X.prog X.w) A (setAttr (.ref a) f u) Q E s:=by
 let⟨k,O,r,i,_,j⟩:=ű I.hok e;have l:(fs.map (·.1)).length<=sizeLine:=by rw[bc,sizeLine_eq];omega
 refine yrt I.kIn O c.sa c.po n.taker c.hd i l λt d m=>h _ ?_;have v:∃o,t.get? dx=some o:=let ⟨o,_,_,e',_⟩:=d.ns;⟨o,e'⟩;refine I.write (x:=a) (e:=dx) (by rw[e];exact True.intro) (.inr j) (λb q B z=>(m.2 b B).trans z) v ?_;exists by rw[yq O.ne];exact j,?_,O.ne,d.obj,_,d.ns,λg=>?_,λg p=>?_
 .have:=ĉ f y fs;omega
 .show ybm ((ζ f y fs).lookup g) (if g=f then some u else k g);rw[Ą];by_cases q:g=f
  .rw[if_pos q,if_pos q];exact ry
  .rw[if_neg q,if_neg q];exact r g
 .by_cases q:g=f
  .rw[q];exact(ď f y fs).1
  .refine(ď f y fs).2 g (i g λz=>p ?_);show (if g=f then some u else k g)=none;rw[if_neg q];exact z
def Inv.made(I:Inv X pins σ H s):Inv X pins σ (upd (upd H s.heap.objs.size (.own (s.heap.objs.size+1))) (s.heap.objs.size+1) (.ins C s.heap.objs.size []))
  {s with heap:=(s.heap.push W.emptyDict).push (W.instObj C s.heap.objs.size)}:=by
 have d:(s.heap.push W.emptyDict).get? s.heap.objs.size=some W.emptyDict:=bx s.heap rfl
 have f:((s.heap.push W.emptyDict).push (W.instObj C s.heap.objs.size)).get? (s.heap.objs.size+1)=some (W.instObj C s.heap.objs.size):=by
  have:=bx (s.heap.push W.emptyDict) (o:=W.instObj C s.heap.objs.size) rfl
  rwa[Heap.size_push]at this
 have i:(s.heap.push W.emptyDict).Ns s.heap.objs.size (λZ=>none):=⟨W.emptyDict,#[],_,d,rfl,(λe h=>absurd h (by simp)),λZ=>rfl⟩;have j:=I.laid (a:=s.heap.objs.size) (o:=.own (s.heap.objs.size+1)) (h':=s.heap.push W.emptyDict) (t':=s.toks) (λb u q=>bh _ q) (bj _) ⟨_,d⟩;refine j.laid (a:=s.heap.objs.size+1) (o:=.ins C s.heap.objs.size []) (t':=s.toks) (λb u q=>bh _ q) (Nat.le_of_eq (Heap.size_push _ _)) ?_;have c:s.heap.objs.size≠s.heap.objs.size+1:=bS (Nat.lt_succ_self _);exists by rw[yq c,ya],bN _,c,f,λZ=>none,(Heap.Ns1.of_empty i).at λo q=>bh _ q,λZ=>True.intro,λy g=>absurd rfl g
def ytl{prog:qh}{w:qd}{env:Env}{e:qg}{pos:Pos}(hb:attributeBase e f env (eval e env)=eval e env)
  (h:wpAny (model prog w) A (eval e env) (λo s₁=>wpAny (model prog w) A (getAttr o f true) Q E s₁) E s):wpAny (model prog w) A (eval (.Attribute e f pos) env) Q E s :=
 Attribute_any_ h (by rw[arm_eval_Attribute,hb])
end
def vf7(K:z3)(ta:TE)(f:Str):TE:=λσ H Q=>ta σ H λx H1=>∃a C dx fs v,x=.ref a/\H1 a=some (.ins C dx fs)/\Cls K C/\NoAttr K C f/\fs.lookup f=some v/\Q v H1
def vg6(K:z3)(ta tv:TE)(f:Str):TS:=λD σ H=>tv σ H λy H1=>ta σ H1 λx H2=>∃a C dx fs,x=.ref a/\H2 a=some (.ins C dx fs)/\Cls K C/\NoAttr K C f/\fs.length<1000/\
 D.nx σ (upd H2 a (.ins C dx (ζ f y fs)))
section
variable{o e value:qg}{f:Str}{pos pos' tpos:Pos}{tv:TE}
def yr(he:PE X e ta)(hb:attributeBase e f X.env (eval e X.env)=eval e X.env):PE X (.Attribute e f pos) (vf7 X.K ta f):=by refine .mk λb s σ H Q I h=>?_;refine ytl hb (thn (he b s σ H _ I h) λu p h'=>?_);let⟨x,g,k,d,a,C,t,r,v,j,i,c,n,l,q⟩:=h';subst j;obtain rfl:u=Value.ref a:=d;exact yfe k i c n l λy w m o=>⟨v,g,m,o,q⟩
def vh(ha:PE X o ta)(hv:PE X value tv)(hs:swapsWith value (some (.Attribute o f pos')) pos.line X.env=pure false):PS X (.Assign [.Attribute o f pos'] value pos) (vg6 X.K ta tv f):=by refine .mk λb s σ H D I h=>?_;refine plainObj_wpAny_Assign_Attribute (thn (hv b s σ H _ I h) λu i ⟨y,e,m,t,q⟩=>thn (ha b i σ e _ m q) λp w h'=>?_) hs;let⟨x,z,r,d,a,C,B,A,j,g,c,n,l,v⟩:=h';subst j;obtain rfl:p=Value.ref a:=d;exact yfb r g c n l t λE k=>⟨σ,_,k,v⟩
end
section
variable{s:qa}{A:qe}{c:qb}{b:Bool}
inductive xu(K:z3)(H:Hp):V->qb->Prop where
 |non:xu K H .non (.type "NoneType")
 |bl (x:Bool):xu K H (.bl x) (.type "bool")
 |int (i:Int):xu K H (.int i) (.type "int")
 |str (x:Str):xu K H (.str x) (.type "str")
 |flt (x:UInt64):xu K H (.flt x) (.type "float")
 |lst {a:z4} {xs:Τ} (e:H a=some (.lst xs)):xu K H (.ref a) (.type "list")
 |frz {a:z4} {o:Obj} {xs:Τ} (e:H a=some (.frz o (.lst xs))):xu K H (.ref a) (.type "list")
 |tup {a:z4} {xs:Τ} (e:H a=some (.tup xs)):xu K H (.ref a) (.type "tuple")
 |dK {a:z4} {kvs:qi (Key×V)} (e:H a=some (.dK kvs)):xu K H (.ref a) (.type "dict")
 |dT {a:z4} {kvs:qi (qi Key×V)} (e:H a=some (.dT kvs)):xu K H (.ref a) (.type "dict")
 |ins {a C dx:z4} {fs:Ι} (e:H a=some (.ins C dx fs)) (cl:Cls K C) (ha:W.findIn K (.ref C) "__class__"=some (some (.builtin "object.__class__")))
   (hn:W.specialIn K (.builtin "object.__class__") "__get__"=some (some (.builtin "getset_descriptor.__get__"))) (htk:W.takesIn K (.builtin "object.__class__")=some true)
   (hm:W.mroIn K C (.type "object")=some true):xu K H (.ref a) (.ref C)
def ygf{x:V}{t:qb}(I:Inv X pins σ H s)(rx:xl x u)(ty:xu X.K H x t)(e:W.kitOne X.K t c=some b)(h:∀tk,Q (.bool b) {s with toks:=tk}):
  wpAny (model X.prog X.w) A (call (.builtin "isinstance") [u,c]) Q E s:=by
 cases ty with
 |non=>cases (show u=Value.none from rx);exact W.kia_one W.kitx_none I.kIn True.intro e (λz=>nomatch z) h
 |bl y=>cases (show u=Value.bool y from rx);exact W.kia_one W.kitx_bool I.kIn True.intro e (λz=>nomatch z) h
 |int i=>let⟨t,q⟩:=(show ∃t,u=Value.int i t from rx);cases q;exact W.kia_one W.kitx_int I.kIn True.intro e (λz=>nomatch z) h
 |str y=>let⟨t,q⟩:=(show ∃t,u=Value.str y t from rx);cases q;exact W.kia_one W.kitx_str I.kIn True.intro e (λz=>nomatch z) h
 |flt y=>let⟨t,q⟩:=(show ∃t,u=Value.float y t from rx);cases q;exact W.kia_one W.kitx_float I.kIn True.intro e (λz=>nomatch z) h
 | @lst a xs ea =>
  cases (show u=Value.ref a from rx);let⟨_,_,n,_,d⟩:=(show xm X.prog X.w H s.heap a (.lst xs)from I.hok a _ ea)
  exact W.kia_one W.kitx_list I.kIn ⟨_,d,rfl⟩ e (λz=>nomatch z) h
 | @frz a ob xs ea =>
  cases (show u=Value.ref a from rx);let⟨_,_,_,n,_,d⟩:=(show xm X.prog X.w H s.heap a (.frz ob (.lst xs))from I.hok a _ ea)
  exact W.kia_one W.kitx_list I.kIn ⟨_,d,rfl⟩ e (λz=>nomatch z) h
 | @tup a xs ea =>
  cases (show u=Value.ref a from rx);let⟨_,_,_,p⟩:=(show xm X.prog X.w H s.heap a (.tup xs)from I.hok a _ ea);let⟨o,d,f,_⟩:=p
  exact W.kia_one W.kitx_tuple I.kIn ⟨o,d,f⟩ e (λz=>nomatch z) h
 | @dK a kvs ea =>
  cases (show u=Value.ref a from rx);let⟨_,_,k,_,p⟩:=(show xm X.prog X.w H s.heap a (.dK kvs)from I.hok a _ ea);let⟨o,j,g,d,f,_⟩:=p
  exact W.kia_one W.kitx_dict I.kIn ⟨o,d,f.1⟩ e (λz=>nomatch z) h
 | @dT a kvs ea =>
  cases (show u=Value.ref a from rx);let⟨_,_,xs,_,o,j,g,d,f,_⟩:=(show xm X.prog X.w H s.heap a (.dT kvs)from I.hok a _ ea)
  exact W.kia_one W.kitx_dict I.kIn ⟨o,d,f.1⟩ e (λz=>nomatch z) h
 | @ins a C dx fs ea cl ha hn htk hm =>
  cases (show u=Value.ref a from rx);let⟨m,O,_⟩:=ű I.hok ea;let⟨l,J,_⟩:=O.look
  exact W.kia_one (W.kitx_own (cl.get _) cl.hd ha hn htk hm) I.kIn J e (λz=>nomatch z) h
end
structure z7(k:Nat)(A:qe):Prop where
 hd:A.handled=none
 dp:A.depth+3*k+5<recursionLimit
 un:A.units+16*k+200<cLine
def z7.mono{j k:Nat}{A:qe}(r:z7 k A)(h:j<=k):z7 j A:=⟨r.hd,by have:=r.dp;omega,by have:=r.un;omega⟩
theorem z7.deeper{k:Nat}{A:qe}(r:z7 (k+1) A)(env:Env):z7 k (A.deeper env) :=
 ⟨r.hd,by have:=r.dp;show A.depth+1+3*k+5<_;omega,by have:=r.un;show A.units+3+16*k+200<_;omega⟩
def yfy{A:qe}{kw:qi (Str×qb)}:(A.under (.builtin "type.__call__" ⟨.ref C::us,kw⟩)).depth=A.depth+1:=by first|rfl|simp[Around.under,Code.weight,Code.isCreation,Code.isGuard,Code.isCaller,Code.frames,Code.isFrame,guardIds]
def yfm{A:qe}{kw:qi (Str×qb)}:(A.under (.builtin "type.__call__" ⟨.ref C::us,kw⟩)).units=A.units+1:=by first|rfl|simp[Around.under,Code.cUnits,Code.frames,Code.isFrame]
def z7.make{k:Nat}{A:qe}(r:z7 (k+1) A)(C:z4)(us:Ξ)(kw:qi (Str×qb)):z7 k (A.under (.builtin "type.__call__" ⟨.ref C::us,kw⟩)) :=
 ⟨r.hd,by have:=r.dp;rw[yfy];omega,by have:=r.un;rw[yfm];omega⟩
theorem z7.depth{k:Nat}{A:qe}(r:z7 k A):A.depth<recursionLimit:=by have:=r.dp;omega
theorem z7.units{k:Nat}{A:qe}(r:z7 k A):A.units+64<cLine:=by have:=r.un;omega
def ym9:TA:=λZ H Q=>Q [] H
def ymu(ta:TE)(tr:TA):TA:=λσ H Q=>ta σ H λx H1=>tr σ H1 λxs H2=>Q (x::xs) H2
section
variable{e:qg}{t:TA}{pos:Pos}
def za:PA X [] ym9:=.mk λZ Z Z Z H Q I h=>Calls.spliced_nil ⟨[],H,I,.nil,h⟩
def jw(ha:PE X e te)(hr:PA X es t)(hs:starEach (e::es) X.env=(false,eval e X.env)::starEach es X.env:=by rfl):PA X (e::es) (ymu te t):=by refine .mk λb a s σ H Q I h=>?_;rw[hs];show wpAny _ _ (spliced ((false,eval e X.env)::backTo b (starEach es X.env))) _ _ s;refine Calls.spliced_cons (thn (ha a s σ H _ I h) λu d h'=>?_);let⟨x,c,j,i,n⟩:=h';exact thn (hr b a d σ c _ j n) λo p ⟨l,g,k,f,m⟩=>⟨x::l,g,k,.cons i f,m⟩
def vha(t:TA):TE:=λσ H Q=>t σ H λxs H1=>xs.length<=sizeLine/\∀p,H1 p=none->Q (.ref p) (upd H1 p (.tup xs))
def vgy(t:TA):TE:=λσ H Q=>t σ H λxs H1=>xs.length<=sizeLine/\∀p,H1 p=none->Q (.ref p) (upd H1 p (.lst xs))
def wa{x1}(h:PA X es t):PE X (.Tuple es x1 pos) (vha t):=by refine .mk λa s σ H Q I i=>?_;refine wpAny_Tuple_spliced (thn (h pos a s σ H _ I i) λj c ⟨k,d,f,r,z,q⟩=>⟨by rw[<- r.length];exact z,?_⟩);have g:d c.heap.objs.size=none:=f.hok.fresh (bj _);exists .ref c.heap.objs.size,upd d c.heap.objs.size (.tup k),f.laid (t':=c.toks) (λb u e=>bh _ e) (bj _) ?_,rfl,q _ g;exists z,j,r,⟨_,bx _ rfl,rfl,_,rfl⟩
def vj(h:PA X es t):PE X (.List es pos) (vgy t):=by refine .mk λa s σ H Q I i=>?_;refine wpAny_List_spliced (thn (h pos a s σ H _ I i) λj c ⟨k,d,f,r,z,q⟩=>⟨by rw[<- r.length];exact z,?_⟩);have g:d c.heap.objs.size=none:=f.hok.fresh (bj _);exists .ref c.heap.objs.size,upd d c.heap.objs.size (.lst k),f.laid (t':=c.toks) (λb u e=>bh _ e) (bj _) ?_,rfl,q _ g;exists z,j,0,r,bx _ rfl
end
abbrev Sp:=qi V->Hp->VK->XK->Prop
abbrev CXT:=qi Env->Hp->qa->XK->qb->qa->Prop
variable{CX:CXT}
structure yua(P:qh)(w:qd)(K:z3)(mg:Ε)(base:qf)(A:qe)(outer:qi Env)(s:qa)(H:Hp):Prop where
 frames:A.frames=some outer
 mod:Mod K mg base
 bs:∀b o,base.get? b=some o->s.heap.get? b=some o/\H b=none
 bsz:base.objs.size<=s.heap.objs.size
 funs:s.heap.FunFrames base outer
 frf:∀b∈frs outer,H b=none
 hok:HOk P w H s.heap
 bare:AllBare s.gens
def CE(outer:qi Env)(P:qh)(w:qd)(H:Hp)(s:qa)(Q:VK)(u:qb)(s':qa):Prop :=
 ∃v H',s'.os=s.os/\AllBare s'.gens/\Un (frs outer) [] H H' s.heap s'.heap/\HOk P w H' s'.heap/\xl v u/\Q v H'
def CR(CX:CXT)(outer:qi Env)(P:qh)(w:qd)(H:Hp)(s:qa)(Q:VK)(E:XK)(r:Result)(s':qa):Prop :=
 match r with
 | .ok (.ret u)=>CE outer P w H s Q u s'
 | .ok _=>False
 | .error e=>CX outer H s E e s'
structure vn(P:qh)(w:qd)(K:z3)(mg:Ε)(base:qf)(CX:CXT)(k:Nat)(f:z4)(fd:FuncData)(ps:Ρ)(sp:Sp):Prop where
 len:∀vs H Q E,sp vs H Q E->vs.length=ps.length
 run:∀(A:qe)(outer:qi Env)(s:qa)(H:Hp)(args:Args)(us:Ξ)(vs:Τ)(Q:VK)(E:XK),z7 k A->yua P w K mg base A outer s H->BindsTo s fd args (ps.zip us)->wu vs us->sp vs H Q E ->
  codeAny (model P w) A (.call (.ref f) args) (CR CX outer P w H s Q E) s
def yua.make{w:qd}{K:z3}{mg:Ε}{base:qf}{A:qe}{outer:qi Env}{s:qa}(e:yua P w K mg base A outer s H)(C:z4)(us:Ξ)(kw:qi (Str×qb)):
  yua P w K mg base (A.under (.builtin "type.__call__" ⟨.ref C::us,kw⟩)) outer s H:=⟨by first|exact e.frames|(simpa[Around.under,Code.envs,Code.isFrame,pushEnvs]using e.frames),e.mod,e.bs,e.bsz,e.funs,e.frf,e.hok,e.bare⟩
section
variable{s:qa}
def Inv.env0(I:Inv X pins σ H s):yua X.prog X.w X.K X.mg X.base X.A X.stack s H :=
 ⟨I.ok.frames,I.ok.mod,I.bs,bX I.ok.bsz I.sz,I.stack,I.stkFree,I.hok,I.bare⟩
def Inv.after{Q:VK}(I:Inv X pins σ H s)(h:CE X.stack X.prog X.w H s Q u s'):EP X pins σ Q u s':=by let⟨v,k,f,a,i,c,r,q⟩:=h;let⟨j,g,d,t,e⟩:=s';obtain rfl:e=s.os:=f;exists v,k,I.call (h':=j) (g':=g) (d':=d) (t':=t) (ch:=[]) i c a (λb z=>absurd z (by simp)),r,q
end
def yt3(sp:Sp)(dvs:Τ)(E:XK)(t:TA):TE:=λσ H Q=>t σ H λvs H1=>sp (vs++dvs) H1 Q E
def yda(C:z4)(m:Str)(sp:Sp)(dvs:Τ)(E:XK)(ta:TE)(t:TA):TE:=λσ H Q=>ta σ H λx H1=>∃a dx fs,x=.ref a/\H1 a=some (.ins C dx fs)/\fs.lookup m=none/\
 t σ H1 λvs H2=>sp (x::(vs++dvs)) H2 Q E
def yt0(C:z4)(sp:Sp)(dvs:Τ)(E:XK)(t:TA):TE:=λσ H Q=>t σ H λvs H1=>∀x dx,H1 x=none->H1 dx=none->dx≠x ->
 sp (.ref x::(vs++dvs)) (upd (upd H1 dx (.own x)) x (.ins C dx [])) (λv H2=>v=.non/\Q (.ref x) H2) E
def uo(K:z3)(fd:FuncData)(ps:Ρ)(ds:Ξ):Prop :=
 ∀(s:qa)(us:Ξ),K.In s.heap->(us++ds).length=ps.length->BindsTo s fd ⟨us,[]⟩ (ps.zip (us++ds))
def uo.all{K:z3}{ps:Ρ}(h:∀us:Ξ,us.length=ps.length->bindArgs fd ⟨us,[]⟩=pure (ps.zip us)):uo K fd ps []:=λs us Z a=>by
 rw[List.append_nil]at a⊢;exact .of_eq (h us a)
def é(CX:CXT)(X:Cx)(E:XK):Prop:=∀(pins:Θ)(σ:St)(H:Hp)(s:qa)(e:qb)(s':qa),Inv X pins σ H s->CX X.stack H s E e s'->X.xe e s'
section
variable{k:Nat}{f:z4}{ps:Ρ}{sp:Sp}{dvs:Τ}{ds:Ξ}{E:XK}{m:Str}{p pos apos:Pos}{e o:qg}{t:TA}
def yi7{s:qa}{Q:VK}(F:vn X.prog X.w X.K X.mg X.base CX k f fd ps sp)(hr:z7 k X.A)(hb:uo X.K fd ps ds)(hd:wu dvs ds)(hx:é CX X E)
  (I:Inv X pins σ H s) (r:wu vs us) (h:sp (vs++dvs) H Q E):wpAny (model X.prog X.w) X.A (call (.ref f) us) (EP X pins σ Q) X.xe s:=by
 have b:wu (vs++dvs) (us++ds):=r.append hd;have c:(us++ds).length=ps.length:=by rw[<- b.length];exact F.len _ _ _ _ h
 refine wpAny_call (codeAny_mono (F.run X.A X.stack s H ⟨us,[]⟩ (us++ds) (vs++dvs) Q E hr I.env0 (hb s us I.kIn c) b h) λr d a=>?_)
 cases r with
 |error e=>exact hx pins σ H s e d I a
 |ok fl =>
  cases fl with
  |ret u=>exact I.after a
  |next=>exact False.elim a
  |brk=>exact False.elim a
  |cont=>exact False.elim a
def yic(F:vn X.prog X.w X.K X.mg X.base CX k f fd ps sp)(hr:z7 k X.A)(hg:Gl X x)(hm:X.mg x=some (.ref f))(hk:W.keepIn X.K (.ref f)=true)(hb:uo X.K fd ps ds)(hd:wu dvs ds)(hx:é CX X E)
  (ha:PA X (e::es) t) (hdb:(x == ("__debug__":Str))=false:=by decide) (he:starEach (e::es) X.env=(false,eval e X.env)::starEach es X.env:=by rfl) (hpl:(backTo pos (starEach es X.env)).any (·.1)=false:=by rfl):
  PE X (.Call (.Name x p) (e::es) [] pos) (yt3 sp dvs E t):=by refine .mk λa s σ H Q I h=>?_;refine wpAny_Call_Name_kw (jv I hg hm ?_ hdb);refine W.callWith_K (h₀:=X.base) I.ok.mod.kin hk (thn (ha pos a s σ H _ I h) λi g ⟨d,c,b,r,q⟩=>⟨b.kIn,?_⟩) he hpl;exact yi7 F hr hb hd hx b r q
def xj{pl:Sem Bool}(he:PE X o ta)(c:Cls X.K C)(hm:Meth X.K C m f)(F:vn X.prog X.w X.K X.mg X.base CX k f fd ps sp)(hr:z7 k X.A)(hb:uo X.K fd ps ds)(hd:wu dvs ds)(hx:é CX X E)(ha:PA X (e::es) t)
  (hst:starEach (e::es) X.env=(false,eval e X.env)::starEach es X.env:=by rfl) (hpl:(backTo pos (starEach es X.env)).any (·.1)=false:=by rfl)
  (ht:eval (.Call (.Attribute o m apos) (e::es) [] pos) X.env=(do
   let ov <- eval o X.env
   standAt apos.atName
   let (f,first) <- holding [ov] (getMethod ov m pl)
   callWith pos f first (backTo pos (starEach (e::es) X.env)) (backToKw pos (keywordEach [] X.env))):=by rfl):
  PE X (.Call (.Attribute o m apos) (e::es) [] pos) (yda C m sp dvs E ta t):=by
 refine .mk λb s σ H Q I h=>?_;refine W.methodCall_KW (pl:=pl) (thn (he b s σ H _ I h) λu p h'=>?_) ht;let⟨x,j,d,i,a,D,B,v,n,l,q⟩:=h';subst v;obtain rfl:u=Value.ref a:=i;refine j5 d n c hm l ?_
 refine W.callWith_K (first:=[.ref a]) (h₀:=X.base) I.ok.mod.kin hm.kp (thn (ha pos b p σ j _ d q) λus G ⟨vs,z,g,r,y⟩=>⟨g.kIn,?_⟩) hst hpl
 exact yi7 (us:=.ref a::us) (vs:=.ref a::vs) F hr hb hd hx g (.cons rfl r) y
def wb{pl:Sem Bool}(he:PE X o ta)(c:Cls X.K C)(hm:Meth X.K C m f)(F:vn X.prog X.w X.K X.mg X.base CX k f fd ps sp)(hr:z7 k X.A)(hb:uo X.K fd ps ds)(hd:wu dvs ds)(hx:é CX X E)
  (ht:eval (.Call (.Attribute o m apos) [] [] pos) X.env=(do
   let ov <- eval o X.env
   standAt apos.atName
   let (f,first) <- holding [ov] (getMethod ov m pl)
   callWith pos f first (backTo pos (starEach [] X.env)) (backToKw pos (keywordEach [] X.env))):=by rfl):
  PE X (.Call (.Attribute o m apos) [] [] pos) (yda C m sp dvs E ta ym9):=by
 refine .mk λb s σ H Q I h=>?_;refine W.methodCall_KW (pl:=pl) (thn (he b s σ H _ I h) λu n h'=>?_) ht;let⟨x,j,d,e,a,r,p,i,g,l,q⟩:=h';subst i;obtain rfl:u=Value.ref a:=e;refine j5 d g c hm l ?_
 exact W.callWith_K0 (first:=[.ref a]) d.kIn hm.kp (yi7 (us:=[.ref a]) (vs:=[.ref a]) F hr hb hd hx d (.cons rfl .nil) q)
structure Mk(K:z3)(C f:z4):Prop where
 makes:W.makesIn K C=true
 init:W.findIn K (.ref C) "__init__"=some (some (.ref f))
 fn:W.isFn K (.ref f)=true
 kp:W.keepIn K (.ref C)=true
def ydy{s:qa}{Q:VK}(M:Mk X.K C f)(F:vn X.prog X.w X.K X.mg X.base CX k f fd ps sp)(hr:z7 (k+1) X.A)(hb:uo X.K fd ps ds)(hd:wu dvs ds)
  (hx:é CX X E) (I:Inv X pins σ H s) (r:wu vs us)
  (h:∀x dx,H x=none->H dx=none->dx≠x->sp (.ref x::(vs++dvs)) (upd (upd H dx (.own x)) x (.ins C dx [])) (λv H2=>v=.non/\Q (.ref x) H2) E):
  wpAny (model X.prog X.w) X.A (call (.ref C) us) (EP X pins σ Q) X.xe s:=by
 have d:=h (s.heap.objs.size+1) s.heap.objs.size (I.hok.fresh (Nat.le_succ _)) (I.hok.fresh (bj _)) (bS (Nat.lt_succ_self _));have b:=Inv.made (C:=C) I;have c:wu (V.ref (s.heap.objs.size+1)::(vs++dvs)) (Value.ref (s.heap.objs.size+1)::(us++ds)):=.cons rfl (r.append hd)
 have i:(Value.ref (s.heap.objs.size+1)::us++ds).length=ps.length:=by
  have e:=c.length;rw[F.len _ _ _ _ d]at e;exact e.symm
 refine wpAny_call (ydw (f:=f) I.kIn M.makes M.init (beq_iff_eq.mp M.fn) (codeAny_mono (F.run _ X.stack _ _ ⟨Value.ref (s.heap.objs.size+1)::us,[]⟩ (Value.ref (s.heap.objs.size+1)::(us++ds)) _ _ E (hr.make C us [])
  (b.env0.make C us []) (hb _ (Value.ref (s.heap.objs.size+1)::us) b.kIn i) c d) λr o a=>?_))
 cases r with
 |error e=>exact hx pins σ _ _ e o b a
 |ok fl =>
  cases fl with
  |ret u =>
   let⟨v,n,j,l,g,m⟩:=b.after a;subst g;exists l,⟨V.ref (s.heap.objs.size+1),n,j,rfl,m⟩
  |next=>exact False.elim a
  |brk=>exact False.elim a
  |cont=>exact False.elim a
def ų(M:Mk X.K C f)(F:vn X.prog X.w X.K X.mg X.base CX k f fd ps sp)(hr:z7 (k+1) X.A)(hg:Gl X x)(hm:X.mg x=some (.ref C))(hb:uo X.K fd ps ds)(hd:wu dvs ds)(hx:é CX X E)
  (ha:PA X (e::es) t) (hdb:(x == ("__debug__":Str))=false:=by decide) (he:starEach (e::es) X.env=(false,eval e X.env)::starEach es X.env:=by rfl) (hpl:(backTo pos (starEach es X.env)).any (·.1)=false:=by rfl):
  PE X (.Call (.Name x p) (e::es) [] pos) (yt0 C sp dvs E t):=by refine .mk λa s σ H Q I h=>?_;refine wpAny_Call_Name_kw (jv I hg hm ?_ hdb);refine W.callWith_K (h₀:=X.base) I.ok.mod.kin M.kp (thn (ha pos a s σ H _ I h) λi g ⟨d,c,b,r,q⟩=>⟨b.kIn,?_⟩) he hpl;exact ydy M F hr hb hd hx b r q
def Ñ(M:Mk X.K C f)(F:vn X.prog X.w X.K X.mg X.base CX k f fd ps sp)(hr:z7 (k+1) X.A)(hg:Gl X x)(hm:X.mg x=some (.ref C))(hb:uo X.K fd ps ds)(hd:wu dvs ds)(hx:é CX X E)
  (hdb:(x == ("__debug__":Str))=false:=by decide):PE X (.Call (.Name x p) [] [] pos) (yt0 C sp dvs E ym9):=by refine .mk λa s σ H Q I h=>?_;refine wpAny_Call_Name_kw (jv I hg hm ?_ hdb);exact W.callWith_K0 I.kIn M.kp (ydy (us:=[]) M F hr hb hd hx I .nil h)
end
section
variable{k:Nat}{f:z4}{ps ks:Ρ}{sp:Sp}{E:XK}{m:Str}{p pos apos kpos:Pos}{e o:qg}{kws:qi Keyword}{t tk:TA}{nm:qj Str}
structure vge(K:z3)(fd:FuncData)(ps ks:Ρ)(g:qi qb->qi qb->qi qb)(gV:qi V->qi V->qi V):Prop where
 to:∀(s:qa)(us ws:Ξ),K.In s.heap->(g us ws).length=ps.length->BindsTo s fd ⟨us,ks.zip ws⟩ (ps.zip (g us ws))
 rel:∀{vs:Τ}{us:Ξ}{zs:Τ}{ws:Ξ},wu vs us->wu zs ws->wu (gV vs zs) (g us ws)
variable{g:qi qb->qi qb->qi qb}{gV:qi V->qi V->qi V}
end
structure yk(N P:Ρ)(sc:Scope):Prop where
 kind:sc.kind=.function
 co:sc.isCoroutine=false
 gen:sc.isGenerator=false
 nd:N.Nodup
 pre:N.take P.length=P
 par:∀x∈P,sc.names.lookup x=some .local\/sc.names.lookup x=some .cell
 nofree:∀y∈sc.names,y.2≠.free
theorem yaz{kindOf:Str->qj NameKind}:∀{binds:qi (Str×qb)}{m:Ε},(∀v,(x,v)∉binds)->bindL kindOf binds m x=m x
 |[],_,_=>rfl
 |(n,v)::r,m,h=>by
  unfold bindL;rw[yaz λw a=>h w (bH _ a)]
  split
  .have:x≠n:=by rintro rfl;exact h v bI
   simp[this]
  .rfl
theorem yam{kindOf:Str->qj NameKind}:∀{binds:qi (Str×qb)}{m:Ε},(∀v,(x,v)∉binds)->bindC kindOf binds m x=m x
 |[],_,_=>rfl
 |(n,v)::r,m,h=>by
  unfold bindC;rw[yam λw a=>h w (bH _ a)]
  split
  .rfl
  .have:x≠n:=by rintro rfl;exact h v bI
   simp[this]
theorem ya3{kindOf:Str->qj NameKind}{v:qb}:∀{P:Ρ}{vs:Ξ}{i:Nat}{m:Ε},P.Nodup->P[i]?=some x->vs[i]?=some v->kindOf x=some .local ->
  bindL kindOf (P.zip vs) m x=some v
 |[],_,_,_,_,h,_,_=>by simp at h
 |_::_,[],_,_,_,_,h,_=>by simp at h
 |p::P,w::vs,0,m,nd,h1,h2,hk=>by
  simp at h1 h2;subst h1;subst h2;show bindL kindOf ((p,w)::P.zip vs) m p=_;unfold bindL;rw[yaz λv a=>(cP.mp nd).1 (List.of_mem_zip a).1,if_pos hk];simp
 |p::P,w::vs,i+1,m,nd,h1,h2,hk=>by
  show bindL kindOf ((p,w)::P.zip vs) m x=_;unfold bindL;exact ya3 (i:=i) (cP.mp nd).2 (by simpa using h1) (by simpa using h2) hk
theorem ya0{kindOf:Str->qj NameKind}{v:qb}:∀{P:Ρ}{vs:Ξ}{i:Nat}{m:Ε},P.Nodup->P[i]?=some x->vs[i]?=some v->kindOf x≠some .local ->
  bindC kindOf (P.zip vs) m x=some v
 |[],_,_,_,_,h,_,_=>by simp at h
 |_::_,[],_,_,_,_,h,_=>by simp at h
 |p::P,w::vs,0,m,nd,h1,h2,hk=>by
  simp at h1 h2;subst h1;subst h2;show bindC kindOf ((p,w)::P.zip vs) m p=_;unfold bindC;rw[yam λv a=>(cP.mp nd).1 (List.of_mem_zip a).1,if_neg hk];simp
 |p::P,w::vs,i+1,m,nd,h1,h2,hk=>by
  show bindC kindOf ((p,w)::P.zip vs) m x=_;unfold bindC;exact ya0 (i:=i) (cP.mp nd).2 (by simpa using h1) (by simpa using h2) hk
noncomputable def æ(N:Ρ)(vs:Τ):St:=vs.map some++List.replicate (N.length-vs.length) none
noncomputable def vo(CX:CXT)(P:qh)(w:qd)(K:z3)(mg:Ε)(base:qf)(N:Ρ)(qual:Str)(scope:Scope)(f:z4)(cd:qb)(A:qe)(outer:qi Env)(s:qa)(H:Hp)(E:XK):Cx where
 prog:=P
 w:=w
 K:=K
 mg:=mg
 base:=base
 A:=A.deeper (envOfC qual scope s.heap.objs.size f cd)
 N:=N
 s₀:=s
 H₀:=H
 env:=envOfC qual scope s.heap.objs.size f cd
 outer:=outer
 stack:=envOfC qual scope s.heap.objs.size f cd::outer
 ex:=[]
 calm:=true
 fn:=λZ=>true
 pn:=[]
 xe:=λe s'=>wpAny (model P w) (A.deeper (envOfC qual scope s.heap.objs.size f cd)) (leaving (envOfC qual scope s.heap.objs.size f cd) e) (λZ s''=>CX outer H s E e s'') (λe' s''=>CX outer H s E e' s'') s'
def ydz{sc:Scope}{n:Nat}(h:sc.names.lookup x=some .cell):∃c,(cellsFrom n sc.names []).lookup x=some c:=by have q:=W.cellsFrom_some sc.names n [] (.inl h);exact Option.isSome_iff_exists.mp q
def yg5{w:qd}{K:z3}{mg:Ε}{base:qf}{N ps:Ρ}{qual:Str}{scope:Scope}{f:z4}{cd:qb}{A:qe}{outer:qi Env}{s s1:qa}{E:XK} 
  (S:yk N ps scope) (hd:A.handled=none) (e0:yua P w K mg base A outer s H) (hl:vs.length=ps.length) (r:wu vs us)
  (x:InCallC s s.heap.objs.size (bindL (envOfC qual scope s.heap.objs.size f cd).kindOf (ps.zip us) λZ=>none) (cellsFrom (s.heap.objs.size+1) scope.names []) (bindC (envOfC qual scope s.heap.objs.size f cd).kindOf (ps.zip us) λZ=>none) s1):
  Inv (vo CX P w K mg base N qual scope f cd A outer s H E) [] (æ N vs) H s1:=by
 have G:ps.length<=N.length:=by have:=congrArg List.length S.pre;rw[bZ]at this;omega
 let⟨t,J,rfl,B⟩:=x.done;have j:∀b:z4,b∉(vo CX P w K mg base N qual scope f cd A outer s H E).ex:=λb z=>absurd (show b∈([]:Υ)from z) (by simp)
 refine⟨⟨e0.mod,S.kind,rfl,rfl,bj _,λy z c t d=>?_,λy g=>?_,λy c Z h=>?_,λZ=>hd,Around.frames_deeper e0.frames,.inr ⟨rfl,rfl⟩,λb z=>absurd z (j b),e0.bs,e0.bsz,λb Z Z=>j b,λb z=>absurd z (j b),e0.funs,e0.frf⟩,
  rfl,e0.bare,Un.kept B,⟨_,x.toInCall.ns,λi y v t d I=>?_⟩,λy c h=>⟨_,x.cell y c h⟩,e0.hok.fresh (bj _),λy c h=>?_,λp m=>absurd (show p∈([]:Θ)from m) (by simp),e0.hok.kept B,?_⟩
 .exact name_of_addr x.apart (PySem.mem_of_lookup t) (PySem.mem_of_lookup d)
 .have g:scope.names.lookup y=some .cell\/scope.names.lookup y=some .free:=g;rcases g with g|g
  .exact ydz g
  .exact absurd rfl (S.nofree _ (PySem.mem_of_lookup g))
 .exact Nat.le_of_lt (x.above y c (PySem.mem_of_lookup h))
 .have o:i<vs.length:=by
   unfold æ at d;by_cases o:i<vs.length
   .exact o
   .rw[cK (by simpa using o)]at d;rw[List.getElem?_replicate]at d
    split at d<;>cases d
  have D:vs[i]?=some v:=by
   unfold æ at d;rw[List.getElem?_append_left (by simpa using o),bq]at d
   cases e:vs[i]? with
   |none=>rw[e]at d;cases d
   |some a=>rw[e]at d;cases d;rfl
  let⟨u,C,F⟩:=r.get D
  have m:ps[i]?=some y:=by
   rw[<- S.pre,List.getElem?_take_of_lt ()];exact t
  have l:ps.Nodup:=by rw[<- S.pre];exact S.nd.sublist (List.take_sublist _ _)
  exists u,F,?_;rcases S.par y (bB m)with k|k
  .exact .inl ⟨k,ya3 l m C k⟩
  .obtain⟨c,e⟩:=ydz (n:=s.heap.objs.size+1) k;refine .inr ⟨.inl k,c,e,?_⟩;have q:=x.cell y c e;rw[ya0 l m C (by show scope.names.lookup y≠_;rw[k];decide)]at q;exact q
 .exact e0.hok.fresh (Nat.le_of_lt (x.above y c (PySem.mem_of_lookup h)))
 .unfold æ;show _=N.length;rw[bf,bc,cG];omega
def ymt{w:qd}{K:z3}{mg:Ε}{base:qf}{k:Nat}{f:z4}{name qual:Str}{params:Arguments}{scope:Scope}{dV kV doc pm cdv ct oc:qb}{an od:qj z4}
  {osl:Array (qj qb)} {N ps:Ρ} {sp:Sp} (lk:K.lookup f=some ⟨oc,od,.func (W.fnOf name qual params body scope dV kV doc pm an cdv ct),osl⟩) (hcd:W.codeIn K cdv qual=true) (S:yk N ps scope)
  (len:∀vs H Q E,sp vs H Q E->vs.length=ps.length)
  (hbody:∀(A:qe)(outer:qi Env)(s:qa)(H:Hp)(vs:Τ)(Q:VK)(E:XK),z7 k (A.deeper (envOfC qual scope s.heap.objs.size f cdv))->sp vs H Q E ->
   ∃t,PSs (vo CX P w K mg base N qual scope f cdv A outer s H E) body t/\t { nx:=λZ H'=>Q .non H',rt:=Q} (æ N vs) H):
  vn P w K mg base CX (k+1) f (W.fnOf name qual params body scope dV kV doc pm an cdv ct) ps sp:=by
 exists len,λA outer s H B T vs Q E j d F r g=>?_;have D:=len _ _ _ _ g;have z:K.In s.heap:=d.mod.kin.keeps λb o e=>(d.bs b o e).1;have m:s.heap.NoLimit:=d.mod.nolimit.keeps λb o e=>(d.bs b o e).1
 have a:∀y∈ps.zip T,scope.names.lookup y.1=some .local\/(scope.names.lookup y.1=some .cell/\((cellsFrom (s.heap.objs.size+1) scope.names []).lookup y.1).isSome=true):=λ⟨n,v⟩ G=>by
  rcases S.par n (List.of_mem_zip G).1 with q|q
  .exact .inl q
  .exact .inr ⟨q,W.cellsFrom_some _ _ _ (.inl q)⟩
 refine codeAny_call_function j.depth (z _ _ lk) rfl S.co S.gen rfl (W.codeRec_of z hcd) (F _ _ _ _ ?_);refine wpAny_newFunctionEnv_cells S.kind a λC L p x=>?_;subst L;exists m.keeps x.toInCall.keep,codeAny_func ?_;let⟨t,R,M⟩:=hbody A outer s H vs Q E (j.deeper _) g;have I:Inv (vo CX P w K mg base N qual scope f cdv A outer s H E) [] (æ N vs) H p:=yg5 S j.hd d D r x;refine cJ (R [] p (æ N vs) H _ I M) (λO l c=>?_) λe l c=>c
 have h:∀{σ':St}{H':Hp}{v:V}{u:qb},Inv (vo CX P w K mg base N qual scope f cdv A outer s H E) [] σ' H' l->xl v u->Q v H'->CE outer P w H s Q u l :=
  λ{σ' H' v u}J i q=>⟨v,H',J.os,J.bare,J.base,J.hok,i,q⟩
 cases O with
 |ret u =>
  let⟨v,σ',H',J,i,q⟩:=c;exact h J i q
 |next =>
  let⟨σ',H',J,q⟩:=c;exact h (v:=V.non) (u:=Value.none) J rfl q
 |brk =>
  let⟨_,_,_,q⟩:=c;exact False.elim q
 |cont =>
  let⟨_,_,_,q⟩:=c;exact False.elim q
section
variable{p pos:Pos}{e:qg}{t:TA}{id T:String}{r:qi V->Hp->VK->Prop}
def tCB(r:qi V->Hp->VK->Prop)(t:TA):TE:=λσ H Q=>t σ H λvs H1=>r vs H1 Q
def ymq(hc:jd X (.builtin id) r)(hg:Gl X x)(hm:X.mg x=none)(hv:bootBuiltins x=some (.builtin id))(ha:PA X (e::es) t)(hn:x≠"__name__":=by decide)(hdb:(x == ("__debug__":Str))=false:=by decide)
  (he:starEach (e::es) X.env=(false,eval e X.env)::starEach es X.env:=by rfl) (hpl:(backTo pos (starEach es X.env)).any (·.1)=false:=by rfl):PE X (.Call (.Name x p) (e::es) [] pos) (tCB r t):=by refine .mk λa s σ H Q I h=>?_;refine wpAny_Call_Name_kw (ę I hg hm hv ?_ hn hdb);exact PyProof.Rows.callWith_builtin1 (thn (ha pos a s σ H _ I h) λi d ⟨c,b,g,f,j⟩=>hc a d σ b c i Q g f j) he hpl
def ygd(hc:jd X (.type T) r)(hg:Gl X x)(hm:X.mg x=none)(hv:bootBuiltins x=some (.type T))(ha:PA X (e::es) t)(hn:x≠"__name__":=by decide)(hdb:(x == ("__debug__":Str))=false:=by decide)
  (he:starEach (e::es) X.env=(false,eval e X.env)::starEach es X.env:=by rfl) (hpl:(backTo pos (starEach es X.env)).any (·.1)=false:=by rfl):PE X (.Call (.Name x p) (e::es) [] pos) (tCB r t):=by refine .mk λa s σ H Q I h=>?_;refine wpAny_Call_Name_kw (ę I hg hm hv ?_ hn hdb);exact PyProof.Rows.callWith_type1 (thn (ha pos a s σ H _ I h) λi d ⟨c,b,g,f,j⟩=>hc a d σ b c i Q g f j) he hpl
end
end L2
namespace HT
open PySem PyProof.Rows
section
open PySem.SeqAt
open PySem.AutoSeq1 (wpAny_loadPart')
open PySem.MeetsSeq PySem.MeetsSeq2 PySem.MeetsSeq3
end
section
variable{prog:qh}{w:qd}{A:qe}{E:Δ}{s:qa}
noncomputable def sIx(n d:Nat):qj Int->Nat
 |none=>d
 |some v=>if v<0 then (v+(n:Int)).toNat else min v.toNat n
def sIx_none(n d:Nat):sIx n d none=d:=rfl
def sIx_nat(n d k:Nat):sIx n d (some (k:Int))=min k n:=by show (if (k:Int)<0 then ((k:Int)+(n:Int)).toNat else min (k:Int).toNat n)=min k n;rw[if_neg (),Int.toNat_natCast]
def yxp(n d:Nat)(hd:d<=n)(o:qj Int):sIx n d o<=n:=by
 cases o with
 |none=>exact hd
 |some v =>
  show (if v<0 then (v+(n:Int)).toNat else min v.toNat n)<=n;by_cases hv:v<0
  .rw[if_pos hv];omega
  .rw[if_neg hv];exact Nat.min_le_right _ _
def yi1(v:Int)(n d:Nat):(if v<0 then max (v+(n:Int)) 0 else min v (n:Int))=((sIx n d (some v):Nat):Int):=by
 show (if v<0 then max (v+(n:Int)) 0 else min v (n:Int))=(((if v<0 then (v+(n:Int)).toNat else min v.toNat n):Nat):Int);by_cases hv:v<0
 .simp only[if_pos hv];omega
 .simp only[if_neg hv];omega
def yfv(lo hi:qj Int)(n:Nat):Builtin.Slice.sliceAdjust lo hi 1 (n:Int)=(((sIx n 0 lo:Nat):Int),((sIx n n hi:Nat):Int)):=by
 have a:¬((1:Int)<0):=()
 unfold Builtin.Slice.sliceAdjust;simp only[a,if_false];refine Prod.ext ?_ ?_
 .cases lo with
  |none=>rfl
  |some v=>exact yi1 v n 0
 .cases hi with
  |none=>rfl
  |some v=>exact yi1 v n n
def yfx(i j:Nat):Builtin.Slice.slicePlaces (i:Int) (j:Int) 1=j-i:=by
 unfold Builtin.Slice.slicePlaces;have a:(1:Int) > 0:=()
 simp only[a,if_true,Int.ediv_one]
 split<;>omega
def ĭ{v:qb}{o:qj Int}{Q:qj Int->qa->Prop}(p:IsPart v o)(h:Q o s):wpAny (model prog w) A (Builtin.Slice.slicePartIndex v) Q E s:=by
 cases p with
 |none=>exact slicePart_none h
 |int i t=>exact slicePart_int h
def jf{sl:z4}{vl vu:qb}{lo hi:qj Int}{n:Nat}{Q:Int×Int×Nat->qa->Prop}(hs:s.heap.IsSliceOf sl vl vu .none)(pl:IsPart vl lo)(pu:IsPart vu hi)
  (h:Q (((sIx n 0 lo:Nat):Int),1,sIx n n hi-sIx n 0 lo) s):wpAny (model prog w) A (Builtin.Slice.sliceApplied (.ref sl) (pure (n:Int))) Q E s:=by
 let⟨d,b,c,a⟩:=id hs;unfold Builtin.Slice.sliceApplied Builtin.Slice.sliceFields;refine bd (bd (cA b a (x:=vl) rfl (bd (cA b a (x:=vu) rfl (bd (cA b a (x:=.none) rfl (bo ?_)))))));refine bd (slicePart_none ?_);show wpAny _ _ (if ((1:Int) == 0)=true then _ else _) _ _ s;rw[if_neg ∅];refine bd (ĭ pl (bd (ĭ pu (bd (bo ?_)))))
 show wpAny _ _ (match Builtin.Slice.sliceAdjust lo hi 1 (n:Int)with|(lo,hi)=>pure (lo,(1:Int),Builtin.Slice.slicePlaces lo hi 1)) _ _ s
 rw[yfv lo hi n];show wpAny _ _ (pure (((sIx n 0 lo:Nat):Int),(1:Int),Builtin.Slice.slicePlaces ((sIx n 0 lo:Nat):Int) ((sIx n n hi:Nat):Int) 1)) _ _ s;rw[yfx];exact bo h
def yk8(xs:Array qb)(i k:Nat):((List.range k).filterMap λ(m:Nat)=>xs[((i:Int)+(m:Int)*1).toNat]?).toArray=((xs.toList.drop i).take k).toArray:=by
 have e:(λ(m:Nat)=>xs[((i:Int)+(m:Int)*1).toNat]?)=λm=>xs[i+m]?:=by
  funext m
  have:((i:Int)+(m:Int)*1).toNat=i+m:=()
  rw[this]
 rw[e];have:=pick_run xs i k;rw[List.filterMap_map]at this;have a:((λx=>xs[x]?) ∘ λx=>i+x)=λm=>xs[i+m]?:=rfl;rw[a]at this;rw[this]
def getItem_tuple_cut{t sl:z4}{items:Array qb}{vl vu:qb}{lo hi:qj Int}{Q:Δ}(ht:IsTup s.heap t items)(hs:s.heap.IsSliceOf sl vl vu .none)(pl:IsPart vl lo)(pu:IsPart vu hi)
  (hw:¬(sIx items.size 0 lo=0/\sIx items.size items.size hi=items.size))
  (h:Q (.ref s.heap.objs.size) {s with heap:=s.heap.push { cls:=.type "tuple",data:=.seq ((items.toList.drop (sIx items.size 0 lo)).take (sIx items.size items.size hi-sIx items.size 0 lo)).toArray} })
  (hsz:items.size<=sizeLine):wpAny (model prog w) A (getItem (.ref t) (.ref sl)) Q E s:=by
 have a:sizeOk (.seq ((items.toList.drop (sIx items.size 0 lo)).take (sIx items.size items.size hi-sIx items.size 0 lo)).toArray):=by
  show ((items.toList.drop (sIx items.size 0 lo)).take (sIx items.size items.size hi-sIx items.size 0 lo)).toArray.size<=sizeLine;rw[bE,bZ,cR,cj];omega
 have i:sIx items.size items.size hi<=items.size:=yxp _ _ (bj _) hi;let⟨f,b,c,g⟩:=id hs;have e:s.TypeIs (.ref sl) "slice":=⟨f,b,c⟩;unfold getItem
 try with_reducible refine wpAny_holding ?_
 first|refine bd (bo ?_)|skip
 refine bd (wpAny_sequenceKey ht.typeIs ∅ ?_);refine bd (wpAny_callSpecial?_slot (name:=Str.ofString "__getitem__") ht.typeIs PyProof.Rows.slot_tuple_getitem
  (wpAny_call_entry PyProof.Rows.slot_tuple_getitem ht.typeIs entry_tuple_getitem ?_ (args_tuple_getitem _ _)))
 show wpAny _ _ (Builtin.Tuple.tupleItemsOf (.ref t) >>=_) _ _ s;refine bd (tupleItemsOf_ ht ?_);refine bd (wpAny_typeOf e ?_);rw[if_pos ∅];refine bd (jf hs pl pu ?_)
 have d:¬((((sIx items.size 0 lo:Nat):Int) == 0 && (1:Int) == 1 && (sIx items.size items.size hi-sIx items.size 0 lo) == items.size)=true):=by
  intro q;rw[bJ,bJ]at q;have k:((sIx items.size 0 lo:Nat):Int)=0:=eq_of_beq q.1.1;have j:sIx items.size items.size hi-sIx items.size 0 lo=items.size:=eq_of_beq q.2;exact hw ⟨(),()⟩
 show wpAny _ _ (if (((sIx items.size 0 lo:Nat):Int) == 0 && (1:Int) == 1 && (sIx items.size items.size hi-sIx items.size 0 lo) == items.size)=true then _ else _) _ _ s;rw[if_neg d,yk8]
 first
  |exact bd (m:=Builtin.Tuple.tupleExact _) (wpAny_newObj_type (bo ⟨_,rfl,bo h⟩) a)
  |exact bd (m:=Builtin.Tuple.tupleExact _) (wpAny_newObj_type (bd (bo (bo ⟨_,rfl,bo h⟩))) a)
  |exact bd (bd (m:=Builtin.Tuple.tupleExact _) (wpAny_newObj_type (bo (bo ⟨_,rfl,bo h⟩)) a))
  |exact bd (bd (m:=Builtin.Tuple.tupleExact _) (wpAny_newObj_type (bo ⟨_,rfl,bo h⟩) a))
end
end HT
namespace L2
open PySem PySem.Spec PyProof.Rows
variable{us:Ξ}{v:qb}
abbrev TO:=St->Hp->(qj Int->Hp->Prop)->Prop
def PO(X:Cx)(e:qj qg)(t:TO):Prop :=
 ∀(pins:Θ)(s:qa)(σ:St)(H:Hp)(Q:qj Int->Hp->Prop),Inv X pins σ H s->t σ H Q ->
  wpAny (model X.prog X.w) X.A (evalPart e X.env) (λu s'=>∃o H',Inv X pins σ H' s'/\IsPart u o/\Q o H') X.xe s
def yie:TO:=λZ H Q=>Q none H
def vbg(t:TE):TO:=λσ H Q=>t σ H λx H1=>∃i,x=.int i/\Q (some i) H1
section
variable{X:Cx}{e:qg}{te:TE}{lo hi:qj qg}{tl th:TO}{pos p2:Pos}
def zq:PO X none yie:=by intro a s σ H Q I h;rw[evalPart_none];exact bo ⟨none,H,I,.none,h⟩
def zl(h:PE X e te):PO X (some e) (vbg te):=by intro a s σ H Q I g;rw[evalPart_some];refine thn (h a s σ H _ I g) λu j h'=>?_;let⟨x,b,d,c,f⟩:=h';let⟨i,rfl,q⟩:=f;let⟨t,rfl⟩:=c;exists some i,b,d,.int i t,q
def SlR(X:Cx)(r:V->qj Int->qj Int->Hp->VK->Prop):Prop :=
 ∀(pins:Θ)(s:qa)(σ:St)(H:Hp)(x:V)(v vl vu:qb)(lo hi:qj Int)(sl:z4)(Q:VK),Inv X pins σ H s->xl x v->s.heap.IsSliceOf sl vl vu .none->IsPart vl lo->IsPart vu hi->r x lo hi H Q ->
  ∃T id,typeLookup (.type T) "__getitem__"=pure (some (.builtin id))/\s.TypeIs v T/\wpAny (model X.prog X.w) X.A (getItem v (.ref sl)) (EP X pins σ Q) X.xe s
def SlR.or{r r':V->qj Int->qj Int->Hp->VK->Prop}(h:SlR X r)(h':SlR X r'):SlR X (λx lo hi H Q=>r x lo hi H Q\/r' x lo hi H Q):=by
 intro a s σ H x v d g lo hi f Q I b e c i q;rcases q with q|q
 .exact h a s σ H x v d g lo hi f Q I b e c i q
 .exact h' a s σ H x v d g lo hi f Q I b e c i q
def tSl(r:V->qj Int->qj Int->Hp->VK->Prop)(te:TE)(tl th:TO):TE:=λσ H Q=>te σ H λx H1=>tl σ H1 λl H2=>th σ H2 λu H3=>r x l u H3 Q
def uk{r:V->qj Int->qj Int->Hp->VK->Prop}(hr:SlR X r)(he:PE X e te)(hl:PO X lo tl)(hu:PO X hi th):PE X (.Subscript e (.Slice lo hi none p2) pos) (tSl r te tl th):=by refine .mk λa s σ H Q I h=>?_;refine Subscript_ (thn (he a s σ H _ I h) λv i h'=>?_);let⟨x,z,C,n,J⟩:=h';refine wpAny_Slice (thn (hl a i σ z _ C J) λd t ⟨l,m,D,j,G⟩=>thn (hu a t σ m _ D G) λf c h'=>?_);let⟨u,g,k,y,B⟩:=h';rw[evalPart_none];refine bo ?_;have p:Inv X a σ g {c with heap:=c.heap.push { cls:=.type "slice",data:=.fields #[d,f,.none]} }:=k.kept (t':=c.toks) λb K q=>bh _ q;let⟨T,id,E,F,o⟩:=hr a {c with heap:=c.heap.push { cls:=.type "slice",data:=.fields #[d,f,.none]} } σ g x v d f l u c.heap.objs.size Q p n (Heap.IsSliceOf.new ..) j y B;show wpAny (model X.prog X.w) X.A (subscriptTail e (.Slice lo hi none p2) v (.ref c.heap.objs.size)) (EP X a σ Q) X.xe {c with heap:=c.heap.push { cls:=.type "slice",data:=.fields #[d,f,.none]} };exact tail_any (ops:=[.ref c.heap.objs.size,v]) F E o (by with_unfolding_all rfl)
def ydb(xs:Τ)(lo hi:qj Int):Τ:=(xs.drop (HT.sIx xs.length 0 lo)).take (HT.sIx xs.length xs.length hi-HT.sIx xs.length 0 lo)
def ă(xs:Τ)(lo hi:qj Int):(ydb xs lo hi).length<=xs.length:=by unfold ydb;rw[bZ,cR];omega
def vh4(K:z3):V->qj Int->qj Int->Hp->VK->Prop:=λx lo hi H Q=>∃a xs,x=.ref a/\SqT K H a xs/\
 ¬(HT.sIx xs.length 0 lo=0/\HT.sIx xs.length xs.length hi=xs.length)/\∀p,H p=none->Q (.ref p) (upd H p (.tup (ydb xs lo hi)))
def yxy:SlR X (vh4 X.K):=by
 intro g s σ H x v w u lo e z Q I k n l p h;let⟨a,d,rfl,m,t,q⟩:=h;cases k;let⟨f,r,j,i⟩:=I.tuple m;have c:f.toArray.size=d.length:=by rw[bE];exact r.length.symm
 refine⟨"tuple",_,PyProof.Rows.slot_tuple_getitem.lookup,j.typeIs,?_⟩;refine HT.getItem_tuple_cut j n l p (by rw[c];exact t) ?_ (by rw[c];exact i);rw[c];exists .ref s.heap.objs.size,_,I.laid (t':=s.toks) (o:=.tup (ydb d lo e)) (λb y q=>bh _ q) (bj _) ?_,rfl,q _ (I.hok.fresh (bj _));exists bX (ă d lo e) i,_,(r.drop (HT.sIx d.length 0 lo)).take (HT.sIx d.length d.length e-HT.sIx d.length 0 lo),IsTup.new _ _
end
noncomputable def ixN(n:Nat)(i:Int):qj Nat:=if 0<=i then (if i<n then some i.toNat else none)else if -(n:Int)<=i then some (i+n).toNat else none
def atI{α:Type}(xs:qi α)(i:Int):qj α:=(ixN xs.length i).bind λj=>xs[j]?
def yq0{n:Nat}{i:Int}{j:Nat}(h:ixN n i=some j):seqIndex? i n=some j/\j<n/\-(n:Int)<=i/\i<n:=by
 unfold ixN at h;by_cases h0:0<=i
 .rw[if_pos h0]at h;by_cases h1:i<n
  .rw[if_pos h1]at h;have e:i.toNat=j:=bC h;exists by rw[seqIndex_of h0 h1,e],(),(),h1
  .rw[if_neg h1]at h;cases h
 .rw[if_neg h0]at h;by_cases h1:-(n:Int)<=i
  .rw[if_pos h1]at h;have e:(i+n).toNat=j:=bC h;exists by rw[seqIndex_neg () h1,e],(),h1,()
  .rw[if_neg h1]at h;cases h
def yir{α:Type}{xs:qi α}{i:Int}{v:α}(h:atI xs i=some v):∃j,seqIndex? i xs.length=some j/\xs[j]?=some v/\j<xs.length/\-(xs.length:Int)<=i/\i<xs.length:=by
 unfold atI at h
 cases e:ixN xs.length i with
 |none=>rw[e]at h;cases h
 |some j =>
  rw[e]at h;let⟨c,a,b,d⟩:=yq0 e;exists j,c,h,a,b,d
def vi{α:Type}{xs:qi α}{j:Nat}{v:α}(h:xs[j]?=some v):atI xs (j:Int)=some v:=by
 have a:j<xs.length:=(bL.mp h).1
 have e:ixN xs.length (j:Int)=some j:=by
  unfold ixN;rw[if_pos (),if_pos ()];simp
 unfold atI;rw[e];exact h
def ykx{α:Type}(xs:qi α)(v:α):atI (xs++[v]) (-1)=some v:=by
 have a:(xs++[v]).length=xs.length+1:=by simp
 have e:ixN (xs++[v]).length (-1)=some xs.length:=by
  unfold ixN;rw[a,if_neg ∅,if_pos ()]
  congr 1
  omega
 unfold atI;rw[e];show (xs++[v])[xs.length]?=some v;simp
def yr2(b:qg):Prop:=∀o i,subscripted b false o i=operate [o,i] (getItem o i)
def IxR(X:Cx)(r:R2):Prop :=
 ∀(value slice:qg)(pins:Θ)(s:qa)(σ:St)(H:Hp)(x y:V)(v u:qb)(Q:VK),Inv X pins σ H s->xl x v->xl y u->r x y H Q ->
  subscripted slice false v u=operate [v,u] (getItem v u)->wpAny (model X.prog X.w) X.A (subscriptTail value slice v u) (EP X pins σ Q) X.xe s
def MtR(X:Cx)(id:String)(r:V->qi V->Hp->VK->Prop):Prop :=
 ∀(pins:Θ)(s:qa)(σ:St)(H:Hp)(x:V)(xs:Τ)(v:qb)(us:Ξ)(Q:VK),Inv X pins σ H s->xl x v->wu xs us->r x xs H Q ->
  wpAny (model X.prog X.w) X.A (call (.builtin id) (v::us)) (EP X pins σ Q) X.xe s
section
variable{X:Cx}{a b:qg}{ta tb:TE}{pos:Pos}
def xg{r:R2}(hr:IxR X r)(ha:PE X a ta)(hb:PE X b tb)(hs:yr2 b):PE X (.Subscript a b pos) (tOp r ta tb):=by refine .mk λc s σ H Q I h=>?_;exact Subscript_ (veb ha hb I h λv u g x y e f d i q=>hr a b c g σ e x y v u Q f d i q (hs _ _))
def vec(K:z3):R2:=λx y H Q=>∃p xs i v,x=.ref p/\y=.int i/\SqL K H p xs/\atI xs i=some v/\Q v H
def vgl(K:z3):R2:=λx y H Q=>∃p xs i v,x=.ref p/\y=.int i/\SqT K H p xs/\atI xs i=some v/\Q v H
def vy:IxR X (vec X.K):=by
 intro l f a s σ H x y v u Q I o C h m;let⟨p,N,i,z,rfl,rfl,G,F,q⟩:=h;cases o;let⟨t,rfl⟩:=C;let⟨k,r,e,O⟩:=I.list G;let⟨j,c,E,M,A,J⟩:=yir F;let⟨w,n,d⟩:=r.get E;have B:=r.length;have L:=ybc;have b:EP X a σ Q w s:=⟨z,H,I,d,q⟩;by_cases h0:0<=i
 .have g:i.toNat=j:=by
   rw[seqIndex_of h0 J]at c;exact bC c
  exact item_listR e.isList h0 () (by rw[g];simpa using n) b m
 .have g:(i+(k.toArray.size:Int)).toNat=j:=by
   rw[seqIndex_neg () A]at c;rw[bE,<- B];exact bC c
  exact subscriptTail_builtinR (x:=w) e.isList.typeIs slot_list_getitem.lookup
   (wpAny_getItem_list_neg (Q:=λr D=>r=w/\EP X a σ Q r D) e.isList () (by rw[bE]<;>omega) () (by rw[g];simpa using n) ⟨rfl,b⟩) m
def Ô:IxR X (vgl X.K):=by
 intro e c a s σ H x y v u Q I g m h n;let⟨p,L,i,z,rfl,rfl,C,B,q⟩:=h;cases g;let⟨t,rfl⟩:=m;let⟨E,r,f,N⟩:=I.tuple C;let⟨j,l,A,J,F,M⟩:=yir B;let⟨w,D,b⟩:=r.get A;have k:=r.length;have G:=ybc;have d:EP X a σ Q w s:=⟨z,H,I,b,q⟩;exact subscriptTail_builtinR (x:=w) f.typeIs slot_tuple_getitem.lookup
  (getItem_tuple (j:=j) (Q:=λr o=>r=w/\EP X a σ Q r o) f () () (by rw[bE,<- k];exact l) (by simpa using D) ⟨rfl,d⟩) n
def ż(lo hi:qj Int)(n:Nat):(sliceBounds lo hi none n).1=((HT.sIx n 0 lo:Nat):Int)/\(sliceBounds lo hi none n).2.1=((HT.sIx n n hi:Nat):Int)/\(sliceBounds lo hi none n).2.2=1:=by
 exists ?_,?_,rfl
 .cases lo with
  |none=>simp[sliceBounds,HT.sIx]
  |some i =>
   simp only[sliceBounds,HT.sIx,Option.getD_none,show (1:Int) > 0 by decide,if_true];by_cases h:i<0
   .simp only[h,if_true]<;>omega
   .simp only[h,if_false]<;>omega
 .cases hi with
  |none=>simp[sliceBounds,HT.sIx]
  |some i =>
   simp only[sliceBounds,HT.sIx,Option.getD_none,show (1:Int) > 0 by decide,if_true];by_cases h:i<0
   .simp only[h,if_true]<;>omega
   .simp only[h,if_false]<;>omega
def Ń(its:Ξ)(lo hi:qj Int):slicePick its.toArray lo hi none=((its.drop (HT.sIx its.length 0 lo)).take (HT.sIx its.length its.length hi-HT.sIx its.length 0 lo)).toArray:=by let⟨c,a,b⟩:=ż lo hi its.toArray.size;unfold slicePick;rw[c,a,b];simp only[sliceRange_one,pick_run,bE]<;>rfl
def vhb(K:z3):V->qj Int->qj Int->Hp->VK->Prop:=λx lo hi H Q=>∃a xs,x=.ref a/\SqL K H a xs/\∀p,H p=none->Q (.ref p) (upd H p (.lst (ydb xs lo hi)))
def ψ:SlR X (vhb X.K):=by intro f s σ H x v u t lo e y Q I i n j p h;let⟨a,c,rfl,l,q⟩:=h;cases i;let⟨m,r,g,k⟩:=I.list l;have d:=r.length;refine⟨"list",_,slot_list_getitem.lookup,g.isList.typeIs,?_⟩;refine wpAny_getItem_list_slice g.isList n j p .none (by simp) ?_ (by rw[bE]<;>omega);rw[Ń,<- d];exists .ref s.heap.objs.size,_,I.laid (t':=s.toks) (o:=.lst (ydb c lo e)) (λb w q=>bh _ q) (bj _) ?_,rfl,q _ (I.hok.fresh (bj _));exists bX (ă c lo e) k,_,0,(r.drop (HT.sIx c.length 0 lo)).take (HT.sIx c.length c.length e-HT.sIx c.length 0 lo),bx _ rfl
noncomputable def Ŷ:V->Bool
 | .non=>true
 | .bl _=>true
 | .int _=>true
 | .str _=>true
 |_=>false
noncomputable def eqV:V->V->Bool
 | .non,.non=>true
 | .bl a,.bl b=>a == b
 | .bl a,.int b=>(if a then 1 else 0) == b
 | .int a,.bl b=>a == (if b then 1 else 0)
 | .int a,.int b=>a == b
 | .str a,.str b=>a == b
 |_,_=>false
def ywd{A:qe}{s:qa}{y x:V}{u:qb}(ry:xl y u)(rx:xl x v)(fy:Ŷ y=true)(fx:Ŷ x=true):SeqAt.EqAt A s u v (eqV y x):=by
 cases y with
 |non =>
  cases ry
  cases x with
  |non=>cases rx;exact SeqAt.EqAt.same _
  |bl b=>cases rx;exact SeqAt.EqAt.none_bool b
  |int b=>let⟨t,rfl⟩:=rx;exact SeqAt.EqAt.none_int b t
  |str b=>let⟨t,rfl⟩:=rx;exact SeqAt.EqAt.none_str b t
  |_=>exact absurd (show false=true from fx) bz
 |bl a =>
  cases ry
  cases x with
  |non=>cases rx;exact SeqAt.EqAt.bool_none a
  |bl b=>cases rx;exact SeqAt.EqAt.bool_bool a b
  |int b=>let⟨t,rfl⟩:=rx;exact SeqAt.EqAt.bool_int a b t
  |str b=>let⟨t,rfl⟩:=rx;exact SeqAt.EqAt.bool_str a b t
  |_=>exact absurd (show false=true from fx) bz
 |int a =>
  let⟨c,rfl⟩:=ry
  cases x with
  |non=>cases rx;exact SeqAt.EqAt.int_none a c
  |bl b=>cases rx;exact SeqAt.EqAt.int_bool a c b
  |int b=>let⟨t,rfl⟩:=rx;exact SeqAt.EqAt.int_int a c b t
  |str b=>let⟨t,rfl⟩:=rx;exact SeqAt.EqAt.int_str a c b t
  |_=>exact absurd (show false=true from fx) bz
 |str a =>
  let⟨c,rfl⟩:=ry
  cases x with
  |non=>cases rx;exact SeqAt.EqAt.str_none a c
  |bl b=>cases rx;exact SeqAt.EqAt.str_bool a c b
  |int b=>let⟨t,rfl⟩:=rx;exact SeqAt.EqAt.str_int a c b t
  |str b=>let⟨t,rfl⟩:=rx;exact SeqAt.EqAt.str_str a c b t
  |_=>exact absurd (show false=true from fx) bz
 |_=>exact absurd (show false=true from fy) bz
def eqU(x:V)(u:qb):Bool:=match u with
 | .none=>eqV .non x
 | .bool b=>eqV (.bl b) x
 | .int i _=>eqV (.int i) x
 | .str z _=>eqV (.str z) x
 |_=>false
def yo5{x y:V}{u:qb}(r:xl y u)(f:Ŷ y=true):eqU x u=eqV y x:=by
 cases y with
 |non=>cases r;rfl
 |bl b=>cases r;rfl
 |int i=>let⟨t,rfl⟩:=r;rfl
 |str z=>let⟨t,rfl⟩:=r;rfl
 |_=>exact absurd (show false=true from f) bz
theorem Ĕ{x:V}:∀{xs:Τ}{us:Ξ},wu xs us->xs.all Ŷ=true->us.any (eqU x)=xs.any λy=>eqV y x
 |_,_,.nil,_=>rfl
 |y::xs,u::us,.cons r t,f=>by
  rw[List.all_cons,bJ]at f;rw[List.any_cons,List.any_cons,yo5 r f.1,Ĕ t f.2]
theorem Ì{A:qe}{s:qa}{x:V}(rx:xl x v)(fx:Ŷ x=true):∀{xs:Τ}{us:Ξ},wu xs us->xs.all Ŷ=true->∀u∈us,SeqAt.EqAt A s u v (eqU x u)
 |_,_,.nil,_=>λu a=>by cases a
 |y::xs,u::us,.cons r t,f=>λb a=>by
  rw[List.all_cons,bJ]at f;rcases bw.mp a with rfl|a
  .rw[yo5 r f.1];exact ywd r rx f.1 fx
  .exact Ì rx fx t f.2 b a
def inV(x:V)(xs:Τ):Bool:=xs.any λy=>eqV y x
def rIn(K:z3)(neg:Bool):R2:=λx y H Q=>∃p xs,y=.ref p/\(SqL K H p xs\/SqT K H p xs)/\Ŷ x=true/\xs.all Ŷ=true/\Q (.bl (if neg then !inV x xs else inV x xs)) H
def ygh:OpR X (compareOp .In) (rIn X.K false):=by
 intro g s σ H x y v u Q I f k h;let⟨p,l,rfl,b,i,c,q⟩:=h;cases k;rcases b with b|b
 .obtain⟨a,r,d,j⟩:=I.list b;refine SeqAt.in_listAt (eqU x) d.isList (λw e=>Ì f i r c w (by simpa using e)) ⟨.bl _,H,I,rfl,?_⟩;rw[show a.toArray.any (eqU x)=a.any (eqU x) by simp,Ĕ r c];exact q
 .obtain⟨a,r,d,j⟩:=I.tuple b;refine SeqAt.in_tupleAt (eqU x) d (λw e=>Ì f i r c w (by simpa using e)) ⟨.bl _,H,I,rfl,?_⟩;rw[show a.toArray.any (eqU x)=a.any (eqU x) by simp,Ĕ r c];exact q
def ſ:OpR X (compareOp .NotIn) (rIn X.K true):=by
 intro g s σ H x y v u Q I f k h;let⟨p,l,rfl,b,i,c,q⟩:=h;cases k;rcases b with b|b
 .obtain⟨a,r,d,j⟩:=I.list b;refine SeqAt.notIn_listAt (eqU x) d.isList (λw e=>Ì f i r c w (by simpa using e)) ⟨.bl _,H,I,rfl,?_⟩;rw[show a.toArray.any (eqU x)=a.any (eqU x) by simp,Ĕ r c];exact q
 .obtain⟨a,r,d,j⟩:=I.tuple b;refine SeqAt.notIn_tupleAt (eqU x) d (λw e=>Ì f i r c w (by simpa using e)) ⟨.bl _,H,I,rfl,?_⟩;rw[show a.toArray.any (eqU x)=a.any (eqU x) by simp,Ĕ r c];exact q
def yw:jd X (.builtin "len") (λxs H Q=>∃p ys,xs=[.ref p]/\(SqL X.K H p ys\/SqT X.K H p ys)/\Q (.int ys.length) H):=by
 intro f s σ H xs j Q I r h;let⟨p,ys,rfl,b,q⟩:=h;let⟨u,rfl,g⟩:=î r;cases g;have k:=ybc;rcases b with b|b
 .obtain⟨d,e,c,i⟩:=I.list b;have a:=e.length;exact Calls.call_len_list c.isList (by simp only[bE]<;>omega) ⟨.int ys.length,H,I.tok _,⟨s.toks+1,by rw[bE,a]⟩,q⟩
 .obtain⟨d,e,c,i⟩:=I.tuple b;have a:=e.length;exact len_tuple c (by simp only[bE]<;>omega) ⟨.int ys.length,H,I.tok _,⟨s.toks+1,by rw[bE,a]⟩,q⟩
def zd:jd X (.builtin "len") (λxs H Q=>∃z,xs=[.str z]/\z.length<=sizeLine/\Q (.int z.length) H):=by intro a s σ H xs d Q I r h;let⟨z,rfl,b,q⟩:=h;let⟨u,rfl,t,rfl⟩:=î r;have c:=ybc;exact len_str () ⟨.int z.length,H,I.tok _,⟨_,rfl⟩,q⟩
def wx:jd X (.type "list") (λxs H Q=>∃p ys,xs=[.ref p]/\(SqL X.K H p ys\/SqT X.K H p ys)/\∀l,H l=none->Q (.ref l) (upd H l (.lst ys))):=by
 intro i s σ H xs B Q I r h;let⟨p,ys,rfl,m,q⟩:=h;let⟨u,rfl,A⟩:=î r;cases A;have j:∀(a:Ξ),wu ys a->ys.length<=sizeLine->∀(c:qf)(d:Nat),(∀b o',s.heap.get? b=some o'->c.get? b=some o') ->
   c.get? s.heap.objs.size=some { cls:=.type "list",dict:=none,data:=.seq a.toArray d,slots:=#[]}->EP X i σ Q (.ref s.heap.objs.size) {s with heap:=c}:=λa f g c d t e =>
  ⟨.ref s.heap.objs.size,_,I.laid (t':=s.toks) t (bj _) (show xm X.prog X.w _ c _ (.lst ys)from ⟨g,a,d,f,e⟩),rfl,q _ (I.hok.fresh (bj _))⟩
 rcases m with m|m
 .obtain⟨a,f,v,g⟩:=I.list m;have k:=f.length;let⟨o,y,x,n,z⟩:=v.isList;exact call_list_seq p (.inl rfl) y x z (λc d t e=>j a f g c d t e) (by simp only[bE]<;>omega)
 .obtain⟨a,f,v,g⟩:=I.tuple m;have k:=f.length;let⟨o,y,x,n,z⟩:=v;exact call_list_seq p (.inr rfl) y x z (λc d t e=>j a f g c d t e) (by simp only[bE]<;>omega)
def Ä:jd X (.type "tuple") (λxs H Q=>∃p ys,xs=[.ref p]/\((SqL X.K H p ys/\∀l,H l=none->Q (.ref l) (upd H l (.tup ys)))\/(SqT X.K H p ys/\Q (.ref p) H))):=by
 intro a s σ H xs x Q I r h;let⟨p,ys,rfl,h⟩:=h;let⟨u,rfl,n⟩:=î r;cases n;rcases h with⟨g,q⟩|⟨g,q⟩
 .obtain⟨c,i,f,j⟩:=I.list g;have k:=i.length;refine call_tuple_list f.isList (λd v=>?_) (by simp only[bE]<;>omega);have m:Inv X a σ H {s with heap:=d}:=I.kept (t':=s.toks) v
  have t:Inv X a σ (upd H d.objs.size (.tup ys)) {s with heap:=d.push { cls:=.type "tuple",data:=.seq c.toArray} } :=
   m.laid (t':=s.toks) (λb o e=>bh _ e) (bj _) (show xm X.prog X.w _ _ _ (.tup ys)from ⟨j,c,i,IsTup.new _ _⟩)
  exists .ref d.objs.size,_,t,rfl,q _ (m.hok.fresh (bj _))
 .obtain⟨c,i,f,j⟩:=I.tuple g;exact call_tuple_same f ⟨.ref p,H,I,rfl,q⟩
def tyV(K:z3)(T:String)(x:V)(H:Hp):Prop:=match x with
 | .str _=>T="str"
 | .int _=>T="int"
 | .ref p=>(T="list"/\∃xs,SqL K H p xs)\/(T="tuple"/\∃o,K.lookup p=some o/\o.cls=.type "tuple"/\o.dict=none) \/
   (T="dict"/\((∃kvs,H p=some (.dK kvs))\/∃kvs,H p=some (.dT kvs)))\/(T="set"/\∃S n,H p=some (.set S n))
 |_=>False
def ypy{pins:Θ}{σ:St}{H:Hp}{s:qa}{T:String}{x:V}(I:Inv X pins σ H s)(r:xl x v)(ty:tyV X.K T x H):
  s.TypeIs v T/\∀a,v=.ref a->∃ob,s.heap.get? a=some ob/\ob.dict=none:=by
 cases x with
 |str z =>
  let⟨t,rfl⟩:=r;cases (show T="str" from ty)
  exists typeIs_str s z t,λZ e=>nomatch e
 |int i =>
  let⟨t,rfl⟩:=r;cases (show T="int" from ty)
  exists typeIs_int s i t,λZ e=>nomatch e
 |ref p =>
  cases r;rcases ty with⟨rfl,q,m⟩|⟨rfl,o,b,k,h⟩|⟨rfl,b⟩|⟨rfl,S,n,b⟩
  .obtain⟨l,_,j,_⟩:=I.list m;exists j.isList.typeIs,λa e=>?_;cases e;let⟨o,n,e,c,h,_⟩:=j;exact⟨o,e,h⟩
  .exists⟨o,I.kIn p o b,k⟩,λa e=>?_;cases e;exists o,I.kIn _ o b,h
  .have z:∃o,s.heap.get? p=some o/\o.ExactDict:=by
    rcases b with⟨g,b⟩|⟨g,b⟩
    .obtain⟨_,_,_,_,o,_,_,e,d,_⟩:=I.hok p _ b;exact⟨o,e,d⟩
    .obtain⟨_,_,_,_,o,_,_,e,d,_⟩:=I.hok p _ b;exact⟨o,e,d⟩
   let⟨o,e,d⟩:=z;exists⟨o,e,d.1⟩,λa f=>?_;cases f;exact⟨o,e,d.2.1⟩
  .obtain⟨o,_,_,_,e,d,_⟩:=I.hok p _ b;exists⟨o,e,d.1⟩,λa f=>?_;cases f;exact⟨o,e,d.2.1⟩
 |_=>exact False.elim ty
def vgk(K:z3)(T:String)(r:V->qi V->Hp->VK->Prop)(to:TE):TE:=λσ H Q=>to σ H λx H1=>tyV K T x H1/\r x [] H1 Q
def tBM(K:z3)(T:String)(r:V->qi V->Hp->VK->Prop)(to:TE)(t:TA):TE:=λσ H Q=>to σ H λx H1=>tyV K T x H1/\t σ H1 λxs H2=>r x xs H2 Q
variable{o e:qg}{es:qi qg}{to:TE}{t:TA}{name:Str}{apos cpos:Pos}{T id:String}{r:V->qi V->Hp->VK->Prop}
def yji(pa:PlainAttrs T)(slot:Slot T name id)(hty:typeOf (.builtin id)=pure (.type "method_descriptor"))(hm:MtR X id r)(ho:PE X o to)
  (hbase:attributeBase o name X.env (eval o X.env)=eval o X.env:=by rfl) (hline:(apos.endLine == cpos.line)=true:=by rfl):PE X (.Call (.Attribute o name apos) [] [] cpos) (vgk X.K T r to):=by refine .mk λa s σ H Q I h=>?_;refine wpAny_Call_method0_late hbase hline (thn (ho a s σ H _ I h) λv f h'=>?_);let⟨x,d,c,b,g,j⟩:=h';let⟨i,e⟩:=ypy c b g;exists T,id,pa,slot,hty,i,e,Calls.callWith_builtin rfl (PySem.evalArgs_none (hm a f σ d x [] v [] Q c b .nil j))
def uy(pa:PlainAttrs T)(slot:Slot T name id)(hty:typeOf (.builtin id)=pure (.type "method_descriptor"))(hm:MtR X id r)(ho:PE X o to)(ha:PA X (e::es) t)
  (hbase:attributeBase o name X.env (eval o X.env)=eval o X.env:=by rfl)
  (hfew:((backTo cpos (starEach (e::es) X.env)).all (λx=>!x.1) && (backToKw cpos (keywordEach [] X.env)).all (λx=>x.1.isSome)
   && decide ((e::es).length+([]:qi Keyword).length+(if ([]:qi Keyword).isEmpty then 0 else 1)<30))=true:=by rfl)
  (hline:(apos.endLine == cpos.line)=true:=by rfl) (hs:starEach (e::es) X.env=(false,eval e X.env)::starEach es X.env:=by rfl) (hplain:(backTo cpos (starEach es X.env)).any (·.1)=false:=by rfl):
  PE X (.Call (.Attribute o name apos) (e::es) [] cpos) (tBM X.K T r to t):=by refine .mk λa s σ H Q I h=>?_;refine wpAny_Call_method_late hbase hfew hline rfl (thn (ho a s σ H _ I h) λv j h'=>?_);let⟨x,f,c,b,m,y⟩:=h';let⟨q,g⟩:=ypy c b m;exists T,id,pa,slot,hty,q,g,?_;have d:=ha cpos a j σ f _ c y;rw[hs]at d⊢;refine Calls.callWith_builtin (by show (false || (backTo cpos (starEach es X.env)).any (·.1))=false;rw[hplain]<;>rfl) (Calls.evalArgs_plain ?_);exact thn d λp u ⟨i,l,n,k,w⟩=>hm a u σ l x i v p Q n b k w
end
def MtM(X:Cx)(id:String)(r:V->qi V->Hp->VK->Prop):Prop :=
 ∀(pins:Θ)(s:qa)(σ:St)(H:Hp)(x:V)(xs:Τ)(v:qb)(us:Ξ)(Q:VK),Inv X pins σ H s->xl x v->wu xs us->r x xs H Q ->
  wpAny (model X.prog X.w) X.A (call (.builtin id) (v::us)) (EP X pins σ Q) X.xe s
def wu.one{x:V}(h:wu [x] us):∃u,us=[u]/\xl x u:=by
 cases h with
 |cons r t=>cases t;exists _,rfl,r
theorem wu.zero:∀{us:Ξ},wu [] us->us=[]
 |_,.nil=>rfl
theorem wu.reverse{xs:Τ}(h:wu xs us):wu xs.reverse us.reverse:=by
 induction h with
 |nil=>exact .nil
 |cons r t ih=>rw[List.reverse_cons,List.reverse_cons];exact wu.append ih (.cons r .nil)
theorem wu.rep{xs:Τ}(h:wu xs us):∀k:Nat,wu (List.replicate k xs).flatten (List.replicate k us).flatten
 |0=>.nil
 |k+1=>by
  rw[ci,ci,List.flatten_cons,List.flatten_cons];exact wu.append h (wu.rep h k)
theorem ya1(its:Ξ):∀(k:Nat)(acc:Ξ),
  List.foldl (λx1 x2=>x1++x2) acc.toArray (List.replicate k its.toArray)=(acc++(List.replicate k its).flatten).toArray
 |0,acc=>by simp
 |k+1,acc=>by
  have e:acc.toArray++its.toArray=(acc++its).toArray:=by simp
  have a:(acc++its)++(List.replicate k its).flatten=acc++(List.replicate (k+1) its).flatten:=by
   rw[ci,List.flatten_cons,ck]
  rw[<- a,<- ya1 its k (acc++its),<- e,ci,List.foldl_cons]
section
variable{X:Cx}{pins:Θ}{σ:St}{H:Hp}{s:qa}{l b:z4}{xs ys zs:Τ}
def Inv.lset{its its':Ξ}{n:Nat}{f:Array qb->Array qb}{t':Nat}(I:Inv X pins σ H s)(hH:H l=some (.lst xs))
  (e:s.heap.get? l=some { cls:=.type "list",data:=.seq its.toArray n}) (hf:f its.toArray=its'.toArray) (hv:wu ys its') (hz:ys.length<=sizeLine):
  Inv X pins σ (upd H l (.lst ys)) {s with heap:=s.heap.update l (Obj.mapSeq f),toks:=t'}:=by have q:=PySem.IsL.update e f;rw[hf]at q;refine I.write (x:=l) (e:=l) (by rw[hH];exact trivial) (.inl rfl) (λc u a b=>(Heap.get?_update_other s.heap (Obj.mapSeq f) (Ne.symm a)).trans b) ⟨_,q⟩ ?_;exists hz,its',_,hv,q
def Inv.lnew{its:Ξ}{t':Nat}(I:Inv X pins σ H s)(hv:wu ys its)(hz:ys.length<=sizeLine):
  Inv X pins σ (upd H s.heap.objs.size (.lst ys)) {s with heap:=s.heap.push { cls:=.type "list",data:=.seq its.toArray},toks:=t'} :=
 I.laid (λZ Z q=>bh _ q) (bj _) ⟨hz,its,0,hv,bx _ rfl⟩
theorem Inv.fresh(I:Inv X pins σ H s):H s.heap.objs.size=none:=I.hok.fresh (bj _)
def Inv.lstM(I:Inv X pins σ H s)(hH:H l=some (.lst xs)):xs.length<=sizeLine/\∃(its:Ξ)(n:Nat),wu xs its/\xs.length=its.length/\s.heap.get? l=some { cls:=.type "list",data:=.seq its.toArray n}:=by let⟨z,its,n,r,e⟩:=I.hok l _ hH;exists z,its,n,r,r.length,e
def ydx{n:Nat}(h:n<=sizeLine):Builtin.List.listTooLong n=false:=by unfold Builtin.List.listTooLong;exact be ()
end
section
variable{X:Cx}
def yh9:V->qi V->Hp->VK->Prop:=λx vs H Q=>∃l xs y,x=.ref l/\vs=[y]/\H l=some (.lst xs)/\xs.length<sizeLine/\Q .non (upd H l (.lst (xs++[y])))
def wy:MtM X "list.append" yh9:=by intro b s σ H x j v m Q I d f h;let⟨l,o,y,rfl,rfl,c,i,q⟩:=h;cases d;let⟨u,rfl,g⟩:=f.one;let⟨z,a,n,r,k,e⟩:=I.lstM c;refine call_meets F.slot_list_append ⟨_,e,rfl⟩ F.entry_list_append (F.args_list_append_2 _ _) (PySem.list_append l a.toArray n u (by rw[bE];omega)) ⟨e,?_⟩;exists .non,_,I.lset (its':=a++[u]) c e (by simp) (r.append (.cons g .nil)) ?_,rfl,q;rw[bf,cB];omega
def yrr:V->qi V->Hp->VK->Prop:=λx vs H Q=>∃l b xs zs,x=.ref l/\vs=[.ref b]/\H l=some (.lst xs)/\H b=some (.lst zs)/\xs.length+zs.length<=sizeLine/\Q .non (upd H l (.lst (xs++zs)))
def Ç:MtM X "list.extend" yrr:=by
 intro g s σ H x E v J Q I j p h;let⟨l,b,D,B,rfl,rfl,i,t,G,q⟩:=h;cases j;let⟨u,rfl,y⟩:=p.one;cases y;let⟨z,c,n,r,A,e⟩:=I.lstM i;let⟨C,a,w,o,m,k⟩:=I.lstM t;have f:c.toArray.size+a.toArray.size<=sizeLine:=by rw[bE,bE];omega
 have d:¬(!c.toArray.isEmpty && Builtin.List.listTooLong (c.toArray.size+a.toArray.size))=true:=by
  rw[ydx f,Bool.and_false];exact bz
 refine call_meets F.slot_list_extend ⟨_,e,rfl⟩ F.entry_list_extend (F.args_list_extend_2 _ _)
  (AutoSeq1.list_extend_list_list_0 l c.toArray n b a.toArray w d (by rw[bE];omega) ()) ⟨e,k,?_⟩
 exists .non,_,I.lset (its':=c++a) i e (by simp) (r.append o) ?_,rfl,q;rw[bf];omega
def yde:V->qi V->Hp->VK->Prop:=λx vs H Q=>∃l xs,x=.ref l/\vs=[]/\H l=some (.lst xs)/\Q .non (upd H l (.lst xs.reverse))
def ķ:MtM X "list.reverse" yde:=by intro c s σ H x i v k Q I f g h;let⟨l,m,rfl,rfl,d,q⟩:=h;cases f;have b:=g.zero;subst b;let⟨z,a,n,r,j,e⟩:=I.lstM d;refine call_meets F.slot_list_reverse ⟨_,e,rfl⟩ F.entry_list_reverse (F.args_list_reverse_1 _) (AutoSeq1.list_reverse_list_0 l a.toArray n (by rw[bE];omega)) ⟨e,?_⟩;exists .non,_,I.lset (its':=a.reverse) d e (by simp) r.reverse ?_,rfl,q;rw[List.length_reverse];omega
def vh1:R2:=λx y H Q=>∃l b xs zs,x=.ref l/\y=.ref b/\H l=some (.lst xs)/\H b=some (.lst zs)/\xs.length+zs.length<=sizeLine/\∀p,H p=none->Q (.ref p) (upd H p (.lst (xs++zs)))
def ud:OpR X (binaryOp .Add) vh1:=by
 intro d s σ H x y v u Q I f p h;let⟨l,b,D,B,rfl,rfl,o,i,t,q⟩:=h;cases f;cases p;let⟨z,c,n,r,w,e⟩:=I.lstM o;let⟨C,a,A,m,j,g⟩:=I.lstM i;refine PySem.P.add_list e g ?_ (by rw[bE,bE];omega);have k:c.toArray++a.toArray=(c++a).toArray:=by simp
 rw[k];exists .ref _,_,I.lnew (t':=s.toks) (r.append m) (by rw[bf];omega),rfl,q _ I.fresh
def vhr:R2:=λx y H Q=>∃l k xs,x=.ref l/\y=.int k/\H l=some (.lst xs)/\-(2^63)<=k/\k<2^63/\xs.length*k.toNat<=sizeLine/\
 ∀p,H p=none->Q (.ref p) (upd H p (.lst (List.replicate k.toNat xs).flatten))
def ycj{α:Type}(xs:qi α)(k:Nat):(List.replicate k xs).flatten.length=k*xs.length:=by
 induction k with
 |zero=>simp
 |succ k ih=>rw[ci,List.flatten_cons,bf,ih,Nat.succ_mul,Nat.add_comm]
def yjj:OpR X (binaryOp .Mult) vhr:=by
 intro p s σ H x y v u Q I A E h;let⟨l,k,L,rfl,rfl,K,D,J,w,q⟩:=h;cases A;let⟨t,rfl⟩:=E;let⟨z,b,n,r,B,e⟩:=I.lstM K;have d:b.toArray.size*k.toNat<=sizeLine:=by rw[bE,<- B];exact w
 have i:¬b.toArray.size*k.toNat > (2^63-1)/8:=by
  have:(sizeLine:Nat)<=(2^63-1)/8:=∅
  omega
 have g:¬(!Builtin.List.listFitsIndex k)=true:=by
  rw[fitsIndex_both D J];exact bz
 have c:¬Builtin.List.listTooLong (b.toArray.size*k.toNat)=true:=by
  rw[ydx d];exact bz
 have f:List.foldl (λo j=>o++j) #[] (List.replicate (if b.toArray.isEmpty=true then 0 else k.toNat) b.toArray)=(List.replicate k.toNat b).flatten.toArray:=by
  have C:∀m:Nat,List.foldl (λo j=>o++j) #[] (List.replicate m b.toArray)=(List.replicate m b).flatten.toArray:=λm=>by
   have:=ya1 b m [];rw[List.nil_append]at this;exact this
  rw[C]
  cases b with
  |nil=>simp
  |cons a r'=>rw[if_neg (by simp)]
 refine wpAny_binaryOp_repeat_ref (T:="list") (U:="int") ∅ ⟨_,e,rfl⟩ (λG=>typeIs_int G k t) noFill_list_mul F.fills_int_mul F.slot_int_rmul repeat_list F.slot_int_index.lookup
  (call_meets F.slot_int_rmul (typeIs_int s k t) F.entry_int_rmul (F.args_int_rmul_2 _ _) (int___rmul___int_list k t l b.toArray n)
   ⟨e,rfl,⟨_,e,rfl⟩,call_meets F.slot_list_mul ⟨_,e,rfl⟩ F.entry_list_mul (F.args_list_mul_2 _ _) (AutoListH.list___mul___list_int_3 l b.toArray n k t g i c) ⟨e,?_⟩⟩)
 rw[f];exists .ref _,_,I.lnew (t':=s.toks) (r.rep k.toNat) (by rw[ycj,Nat.mul_comm];exact w),rfl,q _ I.fresh
end
end L2
namespace Att
open PySem PySem.W PySem.Calls PyProof.Rows
def ù{P:Params}{h:qf}:∀(ns:Ο)(vs:Ξ),WellAll P h vs (ns.map WData.int)->IntsAre vs ns:=by
 intro ns
 induction ns with
 |nil =>
  intro vs w;rw[List.map_nil]at w;cases w;exact .nil
 |cons n ns ih =>
  intro vs w;rw[bR]at w
  cases w with
  |cons a b =>
   cases a;exact .cons _ _ (ih _ b)
def yhd{l:OpenLaw}{n:Nat}(hn:l.most=some n){P:Params}{h:qf}{args:qi WData}{vals:Ξ}
  (hpre:l.row.toRowW.claim.pre args=true) (hwl:WellAll P h vals args):
  ∃a vs ns,vals=[Value.ref a]/\args=[WData.list (ns.map WData.int)]/\h.get? a=some { cls:=.type "list",data:=.seq vs.toArray}/\IntsAre vs ns/\ns.length<=n:=by
 have f:WShape.hasAll [] args [.list .int]=true:=(pre_splitW hpre).1;have g:l.pre.holds [] { args:=args}=true:=(pre_splitW hpre).2;let⟨d,r,rfl,j,i⟩:=hasAllW_cons f;obtain rfl:=hasAllW_nil i;let⟨o,rfl,m⟩:=hasW_list j;let⟨ns,rfl⟩:=items_int m
 have b:ns.length<=n:=by
  unfold OpenLaw.pre at g
  have c:(WTm.not (.lt (.lit (.int (n:Int))) (.len (.arg 0)))).holds [] { args:=[.list (ns.map .int)]}=true:=by
   have c:=(holds_andW g).1;rw[hn]at c;exact c
  have e:=condW_of c (w_not (w_lt w_lit (w_len_list (w_arg rfl))));rw[bc]at e;refine Nat.le_of_not_lt λq=>?_;have k:(n:Int)<((ns.length:Nat):Int):=()
  first
   |(rw[bi k]at e;exact absurd e ∅)
   |(simp at e;omega)
 cases hwl with
 |cons w1 w2 =>
  cases w2
  cases w1 with
  |list ho hall=>exists _,_,ns,rfl,rfl,ho,ù ns _ hall,b
def yh0(l:OpenLaw)(args:qi WData):l.row.toRowW.claim.post args (.bool true) args=true :=
 postW_of (r:=l.row.toRowW) (X:=(true == true))
  (show WShape.has [] (.bool true) .bool=true by first|rfl|decide|simp[WShape.has,WShape.arms,WShape.armsAll])
  (show (WTm.eq .res (.lit (.bool true))).value [] { args:=args,res:=some (.bool true),after:=args}=some (.bool (true == true))from w_eq_bool (w_res rfl) w_lit) rfl
def attach_call{l:OpenLaw}{n:Nat}{q:qh}{loose:Ρ}{XP:(Ε)->qf->Prop}{YP:qd->qf->Prop}{d:DefRec}
  (hn:l.most=some n) (hdf:d.params.defaults=[])
  (call:∀(w:qd)(s₀ s₁:qa)(mg mb:Ε)(fa:z4)(o:Obj)(pm cd doc:qb)(a:z4)(vs:Ξ)(ns:Ο),
   Ground q loose [] XP w s₀ mg mb s₁.heap->YP w s₁.heap ->
   s₁.heap.get? fa=some o->o.data=.func (docDef d.name d.params d.body d.scope pm cd doc)->s₁.heap.CodeRec cd d.name->mg d.name=some (.ref fa) ->
   s₁.heap.get? a=some { cls:=.type "list",data:=.seq vs.toArray}->IntsAre vs ns->ns.length<=n->s₁.gens=#[] ->
   codeAny (model l.prog w) callerA (.call (.ref fa) ⟨[.ref a],[]⟩) (λr s'=>r=.ok (.ret (.bool true))/\OldK s₁.heap s'.heap/\s'.os=s₁.os/\AllBare s'.gens) s₁):
  WalkO q loose XP YP l.row.toRowW d [] (λf vs=>PySem.call f vs):=by
 intro w s₀ s₁ mg mb G Y fa o pm cd doc F kV B v h p j z t m H g k A i y;obtain rfl:F=.none:=Dflts.none p hdf;obtain rfl:kV=.none:=Dflts.noKw p;let⟨a,vs,ns,rfl,rfl,c,b,e⟩:=yhd hn g i;refine enter_call (codeAny_mono (call w s₀ s₁ mg mb fa o pm cd doc a vs ns G Y B (fd_plain v) h j c b e z) λr s' D=>?_);let⟨rfl,C,E,u⟩:=D
 exists .inl ⟨.bool true,.bool true,[],rfl,λZ=>rfl,.bool true,yh0 l _,λZ=>⟨List.Pairwise.nil,λZ x=>(nomatch x)⟩⟩,C,E,u
section
variable{prog:qh}{w:qd}{A:qe}{E:Δ}{s:qa}{K:Frag}
noncomputable def vgf(h:qf)(L d:z4):Θ:=(List.range h.objs.size).filterMap λa=>if a=L\/a=d then none else (h.get? a).map λo=>(a,o)
end
end Att
namespace L2
open PySem PySem.Spec PyProof.Rows
variable{C a:z4}{fd:FuncData}{st:qc}{qual x:Str}{T:String}
theorem ya6:∀{vs:Ξ}{ns:Ο},IntsAre vs ns->wu (ns.map V.int) vs
 |_,_,.nil=>.nil
 |_,_,.cons n t h=>.cons ⟨t,rfl⟩ (ya6 h)
def vf9(H:Hp):Prop:=∀b,H b=none\/∃o xs,H b=some (.frz o (.lst xs))
def yl8{P:qh}{w:qd}{K:z3}{mg mb:Ε}{CX:CXT}{k:Nat}{fa:z4}{sp:Sp}{s₁:qa}{vs:Ξ}{ns:Ο}
  (KX:K.In s₁.heap) (hns:s₁.heap.Ns mainGlobals mg) (hb:s₁.heap.Ns builtinsNs mb) (hbb:∀x:Str,x≠"__name__"->mb x=bootBuiltins x) (hlim:s₁.heap.NoLimit) (hg:s₁.gens=#[])
  (ha:s₁.heap.get? a=some { cls:=.type "list",data:=.seq vs.toArray}) (hi:IntsAre vs ns) (hl:ns.length<=sizeLine) (hr:z7 k callerA)
  (F:∀base:qf,K.In base->base.Ns mainGlobals mg->vn P w K mg base CX k fa fd [x] sp) (hbind:∀(s:qa)(u:qb),BindsTo s fd ⟨[u],[]⟩ [(x,u)])
  (hsp:∀H:Hp,vf9 H->SqL K H a (ns.map V.int)->sp [.ref a] H (λv W=>v=.bl true) λW W W=>False)
  (hCX:∀H e s',CX [] H s₁ (λW W W=>False) e s'->False):
  codeAny (model P w) callerA (.call (.ref fa) ⟨[.ref a],[]⟩) (λr s'=>r=.ok (.ret (.bool true))/\OldK s₁.heap s'.heap/\s'.os=s₁.os/\AllBare s'.gens) s₁:=by
 have E:=ya6 hi;have y:=hi.length;have g:∀H:Hp,vf9 H->SqL K H a (ns.map V.int)->HOk P w H s₁.heap->(∀b,H b≠none->b=a)->(H a≠none->K.lookup a=none) ->
   codeAny (model P w) callerA (.call (.ref fa) ⟨[.ref a],[]⟩) (λr s'=>r=.ok (.ret (.bool true))/\OldK s₁.heap s'.heap/\s'.os=s₁.os/\AllBare s'.gens) s₁:=by
  intro H L U j I O;have c:∀{b:z4}{o:Obj},s₁.heap.get? b=some o->H b=none->(ym5 s₁.heap H).get? b=some o:=λe n=>yk6 e n
  have D:∀{b:z4}{o:Obj}{B:Array DictEntry}{t:Nat},s₁.heap.get? b=some o->o.data=.dict B t->H b=none:=λ{b o B t}e d=>by
   cases q:H b with
   |none=>rfl
   |some u =>
    have C:b=a:=I b (by rw[q];simp);subst C;rw[ha]at e;cases e;have N:Data.seq vs.toArray _=Data.dict B t:=d;cases N
  have f:∀{b:z4}{m:Ε},s₁.heap.Ns b m->(ym5 s₁.heap H).Ns b m:=λ{b m} ⟨o,B,t,e,d,r⟩=>⟨o,B,t,c e (D e d),d,r⟩
  have p:K.In (ym5 s₁.heap H):=λb o e=>c (KX b o e) (by
   cases q:H b with
   |none=>rfl
   |some u =>
    have C:b=a:=I b (by rw[q];simp);subst C;rw[O (by rw[q];simp)]at e;cases e)
  have T:Mod K mg (ym5 s₁.heap H):=⟨p,f hns,⟨mb,f hb,hbb⟩,let ⟨mc,h1,h2⟩:=hlim;⟨mc,f h1,h2⟩⟩;have R:yua P w K mg (ym5 s₁.heap H) callerA [] s₁ H:=⟨rfl,T,λb o e=>ytw e,Nat.le_of_eq (yhy _ _),trivial,λb hb=>absurd (show b∈([]:Υ)from hb) (by simp),j,.of_eq hg⟩;refine codeAny_mono ((F _ p (f hns)).run callerA [] s₁ H ⟨[.ref a],[]⟩ [.ref a] [.ref a] _ _ hr R (hbind s₁ (.ref a)) (.cons rfl .nil) (hsp H L U)) λr s' h=>?_
  cases r with
  |error e=>exact(hCX H e s' h).elim
  |ok fl =>
   cases fl with
   |next=>exact False.elim h
   |brk=>exact False.elim h
   |cont=>exact False.elim h
   |ret u =>
    let⟨v,H',os,i,G,A,S,q⟩:=h;have Y:v=.bl true:=q;subst Y;obtain rfl:u=Value.bool true:=S;exists rfl,OldK.of_keep λb o e=>?_,os,i
    cases q:H b with
    |none=>exact G.keep b o e q (by intro z;exact absurd (show b∈([]:Υ)from z) (by simp)) (by simp)
    |some u =>
     rcases L b with z|⟨Q,Z,z⟩
     .rw[q]at z;cases z
     .have X:=G.frzs b Q _ z;let⟨J,_⟩:=j b _ z;let⟨M,_⟩:=A b _ X;rw[e]at J;cases J;exact M
 cases hk:K.lookup a with
 |some o =>
  have e:=KX a o hk;rw[ha]at e;cases e;refine g (λW=>none) (λW=>.inl rfl) (.inr ⟨_,vs.toArray,_,hk,rfl,rfl,rfl,by rw[bE,y];exact hl,by simpa using E⟩) (λb u z=>by have l:(none:qj HO)=some u:=z;cases l) (λb z=>absurd rfl z) λz=>absurd rfl z
 |none =>
  refine g (λb=>if b=a then some (.frz { cls:=.type "list",data:=.seq vs.toArray} (.lst (ns.map V.int)))else none) (λb=>?_) (.inl (.inr ⟨{ cls:=.type "list",data:=.seq vs.toArray},if_pos rfl⟩)) (λb u z=>?_) (λb z=>?_) λW=>hk
  .by_cases hb:b=a
   .exact .inr ⟨_,_,if_pos hb⟩
   .exact .inl (if_neg hb)
  .by_cases hb:b=a
   .have l:=(if_pos hb).symm.trans z;cases l;subst hb;exists ha,by rw[bc];exact hl,vs,_,E,ha
   .have l:=(if_neg hb).symm.trans z;cases l
  .by_cases hb:b=a
   .exact hb
   .exact absurd (if_neg hb) z
def walk_of{l:W.OpenLaw}{n k:Nat}{q:qh}{loose:Ρ}{XP:(Ε)->qf->Prop}{YP:qd->qf->Prop}{d:DefRec}{K:Params->z3}{CX:qd->CXT}{sp:qd->Sp} 
  (hn:l.most=some n) (hn2:n<=sizeLine) (hdf:d.params.defaults=[]) (hr:z7 k callerA)
  (hY:∀(w:qd)(h:qf),YP w h->(K w.params).In h)
  (F:∀(w:qd)(mg:Ε)(fa:z4)(h:qf),(K w.params).In h->h.Ns mainGlobals mg->mg d.name=some (.ref fa) ->
   ∃fd:FuncData,(∀(s:qa)(u:qb),BindsTo s fd ⟨[u],[]⟩ [(x,u)])/\
    ∀base:qf,(K w.params).In base->base.Ns mainGlobals mg->vn l.prog w (K w.params) mg base (CX w) k fa fd [x] (sp w))
  (hsp:∀(w:qd)(H:Hp)(a:z4)(ns:Ο),ns.length<=n->vf9 H->SqL (K w.params) H a (ns.map V.int)->sp w [.ref a] H (λv Z=>v=.bl true) λZ Z Z=>False)
  (hCX:∀(w:qd)(H:Hp)(s:qa)(e:qb)(s':qa),CX w [] H s (λZ Z Z=>False) e s'->False):
  W.WalkO q loose XP YP l.row.toRowW d [] (λf vs=>PySem.call f vs):=by refine Att.attach_call hn hdf λw s₀ s₁ mg E fa o I D B a vs ns G Y J L z m j i c A=>?_;have p:=hY w _ Y;let⟨fd,C,t⟩:=F w mg fa _ p G.T.g m;exact yl8 p G.T.g G.T.b G.T.builtins G.T.nolimit A j i (bX c hn2) hr t C (λH y r=>hsp w H a ns c y r) λH e s'=>hCX w H s₁ e s'
noncomputable def yy(s:qc)(j:Nat):qc:=match s with
 | .ClassDef _ _ _ body _ _ _ _ _ _ _=>body.getD j (.Pass ⟨0,0,0,0⟩)
 |_=>.Pass ⟨0,0,0,0⟩
noncomputable def xn(s:qc):Arguments:=match s with
 | .FunctionDef _ a _ _ _ _ _ _ _ _=>a
 |_=>{ posonlyargs:=[],args:=[],vararg:=none,kwonlyargs:=[],kw_defaults:=[],kwarg:=none,defaults:=[]}
noncomputable def xa(s:qc):qi qc:=match s with
 | .FunctionDef _ _ b _ _ _ _ _ _ _=>b
 |_=>[]
noncomputable def yd(s:qc):Scope:=match s with
 | .FunctionDef _ _ _ _ _ _ sc _ _ _=>sc
 |_=>{ kind:=.function,names:=[],isGenerator:=false,isCoroutine:=false}
abbrev CX0:CXT:=λZ Z Z Z Z Z=>False
abbrev E0:XK:=λZ Z Z=>False
def wl{X:Cx}:é CX0 X E0:=λZ Z Z Z Z Z Z h=>h.elim
structure Fun(K:z3)(x qual:Str)(st:qc)(f:z4)(fd:FuncData):Prop where
 ex:∃(oc:qb)(od:qj z4)(kV doc pm:qb)(an:qj z4)(cdv ct:qb)(osl:Array (qj qb)),
  fd=W.fnOf x qual (xn st) (xa st) (yd st) .none kV doc pm an cdv ct/\K.lookup f=some ⟨oc,od,.func fd,osl⟩/\W.codeIn K cdv qual=true
 kp:W.keepIn K (.ref f)=true
section
variable{P:qh}{w:qd}{K:z3}{mg:Ε}{base:qf}
def Fun.ok{f:z4}{N ps:Ρ}{k:Nat}{sp:Sp}(F:Fun K x qual st f fd)(S:yk N ps (yd st))(len:∀vs H Q E,sp vs H Q E->vs.length=ps.length)
  (hbody:∀(cdv:qb)(A:qe)(outer:qi Env)(s:qa)(H:Hp)(vs:Τ)(Q:VK)(E:XK),z7 k (A.deeper (envOfC qual (yd st) s.heap.objs.size f cdv))->sp vs H Q E ->
   ∃t,PSs (vo CX0 P w K mg base N qual (yd st) f cdv A outer s H E).nox (xa st) t/\t { nx:=λZ H'=>Q .non H',rt:=Q} (æ N vs) H):vn P w K mg base CX0 (k+1) f fd ps sp:=by let⟨n,i,kV,d,j,m,cdv,l,g,rfl,c,b⟩:=F.ex;refine ymt c b S len λA outer s H vs Q E e a=>?_;let⟨t,h,q⟩:=hbody cdv A outer s H vs Q E e a;exact⟨t,h.nox,q⟩
def Fun.binds{f:z4}{ps:Ρ}(F:Fun K x qual st f fd)
  (h:∀(kV doc pm:qb)(an:qj z4)(cdv ct:qb)(us:Ξ),us.length=ps.length->bindArgs (W.fnOf x qual (xn st) (xa st) (yd st) .none kV doc pm an cdv ct) ⟨us,[]⟩=pure (ps.zip us)):uo K fd ps []:=by let⟨e,c,kV,doc,pm,an,cdv,ct,b,rfl,d,a⟩:=F.ex;exact .all (h kV doc pm an cdv ct)
def ynj{f:z4}{oc:qb}{od an:qj z4}{osl:Array (qj qb)}{kV doc pm cdv ct:qb}(l:K.lookup f=some ⟨oc,od,.func (W.fnOf x qual (xn st) (xa st) (yd st) .none kV doc pm an cdv ct),osl⟩)
  (c:W.codeIn K cdv qual=true) (k:W.keepIn K (.ref f)=true):Fun K x qual st f (W.fnOf x qual (xn st) (xa st) (yd st) .none kV doc pm an cdv ct):=⟨⟨oc,od,kV,doc,pm,an,cdv,ct,osl,rfl,l,c⟩,k⟩
end
def Ÿ{A:qe}{k:Nat}(hr:z7 k A):A.units+1<cLine:=Nat.lt_of_le_of_lt (Nat.add_le_add_left (by decide:1<=64) _) hr.units
section
variable{X:Cx}
def pv(i:Nat){pos:Pos}(hN:X.N[i]?=some x:=by rfl)(hv:Vis X.env.scope x:=by first|exact Or.inl rfl|exact Or.inr (Or.inl rfl)|exact Or.inr (Or.inr rfl))(hd:(x == ("__debug__":Str))=false:=by decide)
  (hcd:(x == ("__classdict__":Str))=false:=by decide):PE X (.Name x pos) (vf3 i):=yv3 hN hv hd hcd
end
def xh{A B:Prop}(h:B):if false=true then A else B:=by rw[if_neg bz];exact h
def zt{A B:Prop}(h:A):if true=true then A else B:=by rw[if_pos rfl];exact h
def yv(H H':Hp):Prop:=∀b o,H b=some o->H' b=some o
def yv.refl(H:Hp):yv H H:=λZ Z h=>h
def yv.trans{H H1 H2:Hp}(a:yv H H1)(b:yv H1 H2):yv H H2:=λc o h=>b c o (a c o h)
def yv.free{H H':Hp}(e:yv H H'){l:z4}(h:H' l=Option.none):H l=Option.none:=by
 cases q:H l with
 |none=>rfl
 |some o =>
  rw[e l o q]at h;cases h
def yv.seq{K:z3}{H H':Hp}{xs:Τ}(e:yv H H')(h:SqL K H a xs):SqL K H' a xs:=by
 rcases h with(h|⟨o,h⟩)|h
 .exact .inl (.inl (e _ _ h))
 .exact .inl (.inr ⟨o,e _ _ h⟩)
 .exact .inr h
section
variable{X:Cx}
def wz:jd X (.builtin "isinstance") (λxs H Q=>∃x cv t c k,xs=[x,cv]/\xl cv c/\(∀u,xl cv u->u=c)/\xu X.K H x t/\W.kitOne X.K t c=some k/\Q (.bl k) H):=by intro a s σ H xs l Q I r h;let⟨x,cv,t,c,k,rfl,_,d,f,e,q⟩:=h;let⟨u,j,rfl,b,g⟩:=ymy r;obtain rfl:=d j g;exact ygf I b f e λi=>⟨.bl k,H,I.tok i,rfl,q⟩
def ji{pos:Pos}(hg:Gl X x)(hm:X.mg x=none)(hv:bootBuiltins x=some (.type T))(hn:x≠"__name__":=by decide)(hd:(x == ("__debug__":Str))=false:=by decide):PE X (.Name x pos) (tC (.ty T)):=yss hg hm hv rfl hn hd
def vq{i:Int}{t:Tok}{pos:Pos}(hg:Gl X x)(hm:X.mg x=some (.int i t))(hd:(x == ("__debug__":Str))=false:=by decide):PE X (.Name x pos) (tC (.int i)):=yco hg hm ⟨t,rfl⟩ hd
def w9{pos:Pos}(hg:Gl X x)(hm:X.mg x=some (.ref C))(hd:(x == ("__debug__":Str))=false:=by decide):PE X (.Name x pos) (tC (.ref C)):=yco hg hm rfl hd
mutual
inductive RdV(K:z3)(H:Hp):V->PyData->Prop
 |non:RdV K H .non .none
 |bl (b:_):RdV K H (.bl b) (.bool b)
 |int (i:_):RdV K H (.int i) (.int i)
 |str (x:_):RdV K H (.str x) (.str x)
 |lst {a xs ds:_}:SqL K H a xs->yqh K H xs ds->RdV K H (.ref a) (.list ds)
 |tup {a xs ds:_}:SqT K H a xs->yqh K H xs ds->RdV K H (.ref a) (.tuple ds)
inductive yqh(K:z3)(H:Hp):qi V->qi PyData->Prop
 |nil:yqh K H [] []
 |cons {x xs d ds:_}:RdV K H x d->yqh K H xs ds->yqh K H (x::xs) (d::ds)
end
def RdV.reads{pins:Θ}{σ:St}{H:Hp}{s:qa}(I:Inv X pins σ H s){x:V}{d:PyData}{u:qb}(h:RdV X.K H x d):xl x u->∃as,Reads s.heap u d as:=by
 refine RdV.rec (motive_1:=λx d Z=>∀u,xl x u->∃as,Reads s.heap u d as) (motive_2:=λf e Z=>∀g,wu f g->∃as,ReadsAll s.heap g e as) ?_ ?_ ?_ ?_ ?_ ?_ ?_ ?_ h u
 .intro u r;cases r;exists _,.none
 .intro b u r;cases r;exists _,.bool _
 .intro i u r;let⟨t,rfl⟩:=r;exists _,.int _ _
 .intro i u r;let⟨t,rfl⟩:=r;exists _,.str _ _
 .intro a f e p w v u r;cases r;let⟨m,l,⟨o,n,q,j,D,k⟩,y⟩:=I.list p;let⟨as,c⟩:=v _ l;exists _,.list q j k (by simpa using c)
 .intro a f e p w v u r;cases r;let⟨m,l,⟨o,q,j,n,k⟩,y⟩:=I.tuple p;let⟨as,c⟩:=v _ l;exists _,.tuple q j k (by simpa using c)
 .intro g r;cases r;exists _,.nil
 .intro x f d e h w z A g r
  cases r with
  |cons r rs =>
   let⟨as,c⟩:=z _ r;let⟨C,B⟩:=A _ rs;exists _,.cons c B
def vd2(K:z3)(g:Bool->Bool):R2:=λx y H Q=>∃d e,RdV K H x d/\RdV K H y e/\SeqAt.shaped d=true/\SeqAt.shaped e=true/\Q (.bl (g (PyData.eqv d e))) H
def yvg(hu:X.A.units+64<cLine):OpR X (compareOp .Eq) (vd2 X.K λb=>b):=by intro a s σ H x y v u Q I c m h;let⟨d,e,l,g,j,f,q⟩:=h;let⟨o,i⟩:=l.reads I c;let⟨n,k⟩:=g.reads I m;exact eq_dataH i k j f hu ⟨.bl _,H,I,rfl,q⟩
def ļ(hu:X.A.units+64<cLine):OpR X (compareOp .NotEq) (vd2 X.K λb=>!b):=by intro a s σ H x y v u Q I c m h;let⟨d,e,l,g,j,f,q⟩:=h;let⟨o,i⟩:=l.reads I c;let⟨n,k⟩:=g.reads I m;exact ne_dataH i k j f hu ⟨.bl _,H,I,rfl,q⟩
theorem Đ{K:z3}{H:Hp}:∀ns:Ο,yqh K H (ns.map V.int) (ns.map PyData.int)
 |[]=>.nil
 |n::r=>.cons (.int n) (Đ r)
theorem Ċ:∀ns:Ο,PyData.canLayAll0 (ns.map PyData.int)=true
 |[]=>rfl
 |_::r=>by simp[PyData.canLayAll0,PyData.canLay0,Ċ r]
theorem İ:∀ns:Ο,PyData.depthAll (ns.map PyData.int)=0
 |[]=>rfl
 |_::r=>by simp[PyData.depthAll,PyData.depth,İ r]
def Ĵ(ns:Ο):SeqAt.shaped (.list (ns.map PyData.int))=true:=by simp[SeqAt.shaped,PyData.canLay0,PyData.depth,Ċ,İ]
theorem ā:∀ns ms:Ο,PyData.eqvAll (ns.map PyData.int) (ms.map PyData.int)=decide (ns=ms)
 |[],[]=>by simp[PyData.eqvAll]
 |[],_::_=>by simp[PyData.eqvAll]
 |_::_,[]=>by simp[PyData.eqvAll]
 |a::r,b::t=>by
  simp only[bR,PyData.eqvAll,PyData.eqv,ā r t];by_cases h:a=b<;>by_cases h':r=t<;>simp[h,h']
def vfd{K:z3}{g:Bool->Bool}{H:Hp}{Q:VK}{b:z4}(ns ms:Ο)(ha:SqL K H a (ns.map V.int))(hb:SqL K H b (ms.map V.int))(h:Q (.bl (g (decide (ns=ms)))) H):vd2 K g (.ref a) (.ref b) H Q :=
 ⟨_,_,.lst ha (Đ ns),.lst hb (Đ ms),Ĵ ns,Ĵ ms,by rw[PyData.eqv,ā];exact h⟩
def ve3(_ j:Int):Prop:=0<j/\j<2^200
def wk:OpR X (binaryOp .FloorDiv) (rI ve3 λi j=>.int (i/j)):=opI λi j Z Z Z Z Z b q=>by
 let⟨d,c⟩:=b;refine floordiv_int () ?_ (.inl (PyProof.noPylong_of_log2 ?_))
 .rw[Int.fdiv_eq_ediv_of_nonneg _ ()];exact q
 .have e:j.natAbs<2^200:=()
  have a:j.natAbs≠0:=()
  have:=(Nat.log2_lt a).mpr e;omega
def va1(k:Int):R2:=λx y H Q=>∃i j,x=.int i/\y=.int j/\vf4 i j/\i^j.toNat=k/\Q (.int k) H
def ys2(k:Int):OpR X (binaryOp .Pow) (va1 k):=by intro a s σ H x y v u Q I b c h;let⟨i,j,rfl,rfl,d,e,q⟩:=h;exact vag a s σ H (.int i) (.int j) v u Q I b c ⟨i,j,rfl,rfl,d,by show Q (.int (i^j.toNat)) H;rw[e];exact q⟩
def vgu(t:TS):TS:=λD σ H=>∃M:Ζ,t {D with nx:=M} σ H/\∀σ' H',M σ' H'->D.nx σ' H'
def Ě{t:TS}(h:PS X st t):PS X st (vgu t):=by
 refine .mk λa s σ H D I ⟨M,e,c⟩=>?_;refine thn (h a s σ H {D with nx:=M} I e) λf g q=>?_
 cases f with
 |next =>
  let⟨σ',b,d,q⟩:=q;exists σ',b,d,c σ' b q
 |ret v=>exact q
 |brk=>exact q
 |cont=>exact q
end
def wg(nx:Ζ)(σ:St)(H:Hp):Prop:=nx σ H
section
variable{K:z3}{σ:St}{H:Hp}{Q:VK}{QB:Bool->Hp->Prop}{QL:qi V->Hp->Prop}{v x y:V}{i j:Int}{b:Bool}{ta tb tc te:TE}{t u:TS}{tA tB':TT}{tr:TA}{D:ł}
 {nx bk ct:Ζ} {rt:VK} {A B:Prop}
def yo{N:Ρ}{vs:Τ}{σ':St}(e:æ N vs=σ')(h:t D σ' H):t D (æ N vs) H:=by rw[e];exact h
def vch{k:Nat}(e:σ[k]?=some (some v))(h:Q v H):vf3 k σ H Q:=⟨v,e,h⟩
def i_c(h:Q v H):tC v σ H Q:=h
def vhw{r:R2}(h:ta σ H λx H1=>tb σ H1 λy H2=>r x y H2 Q):tOp r ta tb σ H Q:=h
def vh0{r:V->Hp->VK->Prop}(h:ta σ H λx H1=>r x H1 Q):tUn r ta σ H Q:=h
def vhz{g:Int->Int->V}(h:Q (g i j) H):rI0 g (.int i) (.int j) H Q:=⟨i,j,rfl,rfl,h⟩
def i_I{C:Int->Int->Prop}{g:Int->Int->V}(hc:C i j)(h:Q (g i j) H):rI C g (.int i) (.int j) H Q:=⟨i,j,rfl,rfl,hc,h⟩
def i_U{g:Int->V}(h:Q (g i) H):rU g (.int i) H Q:=⟨i,rfl,h⟩
def ven(h:Q (.bl (decide (i=j))) H):rEq (.int i) (.int j) H Q:=⟨rfl,by
 have e:decide (V.int i=V.int j)=decide (i=j):=by simp
 rw[e];exact h⟩
def yvi(h:ta σ H λx H'=>∃k,x=.bl k/\QB k H'):yt7 ta σ H QB:=h
def vhu(h:ta σ H λx H'=>∃k,x=.bl k/\QB k H'):tB ta σ H QB:=h
def vhs{P:Bool->Prop}(h:P b):∃k,V.bl b=V.bl k/\P k:=⟨b,rfl,h⟩
def yte{r r':R2}(h:ta σ H λx H1=>tb σ H1 λy H2=>r x y H2 λz H3=>∃k,z=.bl k/\(if k=true then tc σ H3 λw' H4=>r' y w' H4 Q else Q (.bl false) H3)):yi6 r r' ta tb tc σ H Q:=h
def yut(h:ta σ H λx H1=>∃c,x=.bl c/\if c=true then tb σ H1 Q else Q (.bl false) H1):vaz ta tb σ H Q:=h
def yyi(h:ta σ H λx H1=>∃c,x=.bl c/\Q (.bl (!c)) H1):vbx ta σ H Q:=h
def vez{t1 t2:TT}(h:t1 σ H λc H1=>if c=true then t2 σ H1 QB else QB false H1):vg7 t1 t2 σ H QB:=h
def vht{t1 t2:TT}(h:t1 σ H λc H1=>if c=true then QB true H1 else t2 σ H1 QB):tOr t1 t2 σ H QB:=h
def vfn{t1:TT}(h:t1 σ H λc H1=>QB (!c) H1):vgm t1 σ H QB:=h
def vfl(h:tA σ H λc H1=>if c=true then ta σ H1 Q else tb σ H1 Q):tIf tA ta tb σ H Q:=h
structure Nx(u nx:Ζ):Prop where
 go:∀σ H,u σ H->nx σ H
def yp8(h:∀nx bk ct:Ζ,Nx (u D) nx->Nx D.bk bk->Nx D.ct ct->t ⟨nx,D.rt,bk,ct⟩ σ H):vf5 t u D σ H:=h (u D) D.bk D.ct ⟨λZ Z z=>z⟩ ⟨λZ Z z=>z⟩ ⟨λZ Z z=>z⟩
def yf8{u nx:Ζ}(h:Nx u nx)(q:u σ H):nx σ H:=h.go _ _ q
def yuz(h:nx σ H):vci ⟨nx,rt,bk,ct⟩ σ H:=h
def vfe(h:te σ H rt):vg8 te ⟨nx,rt,bk,ct⟩ σ H:=h
def ywj(h:te σ H λZ H1=>nx σ H1):vbu te ⟨nx,rt,bk,ct⟩ σ H:=h
def vhh(h:tA σ H λc H1=>if c=true then t D σ H1 else u D σ H1):vgb tA t u D σ H:=h
def ym2(M:Ζ)(h1:t ⟨M,rt,bk,ct⟩ σ H)(h2:∀σ' H',M σ' H'->nx σ' H'):vgu t ⟨nx,rt,bk,ct⟩ σ H:=⟨M,h1,h2⟩
def vfu{g:TG}(h:te σ H λx H1=>g x σ H1 nx):vd1 te g ⟨nx,rt,bk,ct⟩ σ H:=h
def yzr{sp:Sp}{dvs:Τ}{E:XK}(h:tr σ H λvs H1=>sp (vs++dvs) H1 Q E):yt3 sp dvs E tr σ H Q:=h
def ywm(h:ta σ H λx H1=>tr σ H1 λxs H2=>QL (x::xs) H2):ymu ta tr σ H QL:=h
def vfz(h:QL [] H):ym9 σ H QL:=h
def vhp{r:qi V->Hp->VK->Prop}(h:tr σ H λvs H1=>r vs H1 Q):tCB r tr σ H Q:=h
def vfb(h:tr σ H λxs H1=>xs.length<=sizeLine/\∀p,H1 p=none->Q (.ref p) (upd H1 p (.tup xs))):vha tr σ H Q:=h
def ve7(h:tr σ H λxs H1=>xs.length<=sizeLine/\∀p,H1 p=none->Q (.ref p) (upd H1 p (.lst xs))):vgy tr σ H Q:=h
def yel{m:Str}{sp:Sp}{dvs:Τ}{E:XK}(h:ta σ H λx H1=>∃a dx fs,x=.ref a/\H1 a=some (.ins C dx fs)/\fs.lookup m=none/\tr σ H1 λvs H2=>sp (x::(vs++dvs)) H2 Q E):yda C m sp dvs E ta tr σ H Q:=h
def vep{f:Str}(h:ta σ H λx H1=>∃a C dx fs v,x=.ref a/\H1 a=some (.ins C dx fs)/\Cls K C/\NoAttr K C f/\fs.lookup f=some v/\Q v H1):vf7 K ta f σ H Q:=h
def yur{f:Str}(h:tb σ H λy H1=>ta σ H1 λx H2=>∃a C dx fs,x=.ref a/\H2 a=some (.ins C dx fs)/\Cls K C/\NoAttr K C f/\fs.length<1000/\wg nx σ (upd H2 a (.ins C dx (ζ f y fs)))):vg6 K ta tb f ⟨nx,rt,bk,ct⟩ σ H:=h
def vho{r:V->qj Int->qj Int->Hp->VK->Prop}{tl th:TO}(h:te σ H λx H1=>tl σ H1 λl H2=>th σ H2 λu H3=>r x l u H3 Q):tSl r te tl th σ H Q:=h
def ykl{QO:qj Int->Hp->Prop}(h:QO none H):yie σ H QO:=h
def yux{QO:qj Int->Hp->Prop}(h:ta σ H λx H1=>∃i,x=.int i/\QO (some i) H1):vbg ta σ H QO:=h
def vfx{P:Int->Prop}(h:P i):∃k,V.int i=V.int k/\P k:=⟨i,rfl,h⟩
def yv0(h:A):V.non=V.non/\A:=⟨rfl,h⟩
def g0{a0:qj V}{r:St}{N:Ζ}(h:N (some v::r) H):x0 0 v (a0::r) H N:=h
def g1{a0 a1:qj V}{r:St}{N:Ζ}(h:N (a0::some v::r) H):x0 1 v (a0::a1::r) H N:=h
def g2{a0 a1 a2:qj V}{r:St}{N:Ζ}(h:N (a0::a1::some v::r) H):x0 2 v (a0::a1::a2::r) H N:=h
def g3{a0 a1 a2 a3:qj V}{r:St}{N:Ζ}(h:N (a0::a1::a2::some v::r) H):x0 3 v (a0::a1::a2::a3::r) H N:=h
def g4{a0 a1 a2 a3 a4:qj V}{r:St}{N:Ζ}(h:N (a0::a1::a2::a3::some v::r) H):x0 4 v (a0::a1::a2::a3::a4::r) H N:=h
def g5{a0 a1 a2 a3 a4 a5:qj V}{r:St}{N:Ζ}(h:N (a0::a1::a2::a3::a4::some v::r) H):x0 5 v (a0::a1::a2::a3::a4::a5::r) H N:=h
def g6{a0 a1 a2 a3 a4 a5 a6:qj V}{r:St}{N:Ζ}(h:N (a0::a1::a2::a3::a4::a5::some v::r) H):x0 6 v (a0::a1::a2::a3::a4::a5::a6::r) H N:=h
def g7{a0 a1 a2 a3 a4 a5 a6 a7:qj V}{r:St}{N:Ζ}(h:N (a0::a1::a2::a3::a4::a5::a6::some v::r) H):x0 7 v (a0::a1::a2::a3::a4::a5::a6::a7::r) H N:=h
def yee{n:Nat}{tg:TGs}{xs:Τ}{N:Ζ}(hq:SqT K H a xs)(hl:xs.length=n)(h:tg xs σ H N):yug K n tg (.ref a) σ H N:=⟨a,xs,rfl,hq,hl,h⟩
def yrd{tg:TG}{us:TGs}{r:Τ}{N:Ζ}(h:tg v σ H λσ' H'=>us r σ' H' N):η tg us (v::r) σ H N:=⟨v,r,rfl,h⟩
def yv5{N:Ζ}(h:N σ H):ym6 [] σ H N:=⟨rfl,h⟩
def jk{p:Prop}[Decidable p](h1:p->A)(h2:¬p->B):if decide p=true then A else B:=by
 by_cases h:p
 .rw[if_pos (bi h)];exact h1 h
 .rw[if_neg (by simp[h])];exact h2 h
def ybj{p:Prop}[Decidable p](hp:p)(h:A):if decide p=true then A else B:=by rw[if_pos (bi hp)];exact h
def yf7{p:Prop}[Decidable p](hp:¬p)(h:B):if decide p=true then A else B:=by rw[if_neg (by simp[hp])];exact h
def yt4{p:Prop}[Decidable p](hp:p)(h:B):if (!decide p)=true then A else B:=by rw[if_neg (by simp[hp])];exact h
def yt2{p:Prop}[Decidable p](hp:¬p)(h:A):if (!decide p)=true then A else B:=by rw[if_pos (by simp[hp])];exact h
def yue{p:Prop}[Decidable p](h1:p->B)(h2:¬p->A):if (!decide p)=true then A else B:=by
 by_cases h:p
 .exact yt4 h (h1 h)
 .exact yt2 h (h2 h)
def ver(h:B):if (!true)=true then A else B:=xh h
def vew(h:A):if (!false)=true then A else B:=zt h
def xy{f:Str}{r:Ι}:List.lookup f ((f,v)::r)=some v:=by simp[List.lookup]
def wj{f g:Str}{r:Ι}{o:qj V}(h:¬f=g)(e:List.lookup f r=o):List.lookup f ((g,v)::r)=o:=by
 have a:(f == g)=false:=by simp[h]
 simp[List.lookup,a,e]
def ė{f:Str}:List.lookup f ([]:Ι)=none:=rfl
def θ{f:Str}{r:Ι}:ζ f v ((f,x)::r)=(f,v)::r:=by simp[ζ]
def vx{f g:Str}{r r':Ι}(h:¬g=f)(e:ζ f v r=r'):ζ f v ((g,x)::r)=(g,x)::r':=by simp[ζ,h,e]
def wo{f:Str}:ζ f v []=[(f,v)]:=rfl
def ju{c:z4}{o o':HO}(hn:H a=none)(h:H c=some o):upd H a o' c=some o:=by rw[yq (yb h hn)];exact h
def ym{c:z4}{o o':HO}(hn:c≠a)(h:H c=some o):upd H a o' c=some o:=by rw[yq hn];exact h
def vg{o:HO}(hn:H a=none):yv H (upd H a o):=λZ Z h=>ju hn h
def yv.tup{H':Hp}{xs:Τ}(e:yv H H')(h:SqT K H a xs):SqT K H' a xs:=by
 rcases h with(h|⟨o,h⟩)|h
 .exact .inl (.inl (e _ _ h))
 .exact .inl (.inr ⟨o,e _ _ h⟩)
 .exact .inr h
def ybh{tb:TS}{W:Nat->St->Hp->Prop}{m:Nat}(h:tb ⟨λσ' H'=>∃m',m'<m/\W m' σ' H',rt,nx,λσ' H'=>∃m',m'<m/\W m' σ' H'⟩ σ H):
  ∃N:Ζ,(∀σ' H',N σ' H'->∃m',m'<m/\W m' σ' H')/\tb ⟨N,rt,nx,N⟩ σ H:=⟨_,λZ Z q=>q,h⟩
def ywz{sp:Sp}{dvs:Τ}{E:XK}(h:tr σ H λvs H1=>∀x dx,H1 x=none->H1 dx=none->dx≠x->sp (.ref x::(vs++dvs)) (upd (upd H1 dx (.own x)) x (.ins C dx [])) (λv H2=>v=.non/\Q (.ref x) H2) E):yt0 C sp dvs E tr σ H Q:=h
def vhl{r:V->qi V->Hp->VK->Prop}(h:ta σ H λx H1=>tyV K T x H1/\tr σ H1 λxs H2=>r x xs H2 Q):tBM K T r ta tr σ H Q:=h
def vet{r:V->qi V->Hp->VK->Prop}(h:ta σ H λx H1=>tyV K T x H1/\r x [] H1 Q):vgk K T r ta σ H Q:=h
def z6{p:z4}{xs:Τ}(h:H p=some (.lst xs))(k:A):tyV K "list" (.ref p) H/\A:=⟨.inl ⟨rfl,_,SqL.of h⟩,k⟩
def xp{l:z4}{xs:Τ}(h:H l=some (.lst xs))(hz:xs.length<sizeLine)(k:Q .non (upd H l (.lst (xs++[y])))):yh9 (.ref l) [y] H Q:=⟨l,xs,y,rfl,rfl,h,hz,k⟩
def yas{l:z4}{xs:Τ}(h:H l=some (.lst xs))(k:Q .non (upd H l (.lst xs.reverse))):yde (.ref l) [] H Q:=⟨l,xs,rfl,rfl,h,k⟩
def z5{p:z4}{ys:Τ}{P:qi V->Prop}(h:SqL K H p ys)(k:P ys):∃p' ys',[V.ref p]=[V.ref p']/\(SqL K H p' ys'\/SqT K H p' ys')/\P ys':=⟨p,ys,rfl,.inl h,k⟩
def yqb{p:z4}{ys:Τ}{P:qi V->Prop}(h:SqT K H p ys)(k:P ys):∃p' ys',[V.ref p]=[V.ref p']/\(SqL K H p' ys'\/SqT K H p' ys')/\P ys':=⟨p,ys,rfl,.inr h,k⟩
def ylo{p:z4}{ys:Τ}{P:qi V->Prop}(h:SqL K H p ys)(k:P ys):∃p' ys',[V.ref p]=[V.ref p']/\(SqL K H p' ys'\/SqT K H p' ys')/\P ys':=⟨p,ys,rfl,.inl h,k⟩
def xo{p:z4}{xs:Τ}(h:SqL K H p xs)(e:atI xs i=some v)(k:Q v H):vec K (.ref p) (.int i) H Q:=⟨p,xs,i,v,rfl,rfl,h,e,k⟩
def yc7{p:z4}{xs:Τ}(h:SqT K H p xs)(e:atI xs i=some v)(k:Q v H):vgl K (.ref p) (.int i) H Q:=⟨p,xs,i,v,rfl,rfl,h,e,k⟩
def yc8{p:z4}{xs:Τ}{lo hi:qj Int}(h:SqL K H p xs)(k:∀q,H q=none->Q (.ref q) (upd H q (.lst (ydb xs lo hi)))):vhb K (.ref p) lo hi H Q:=⟨p,xs,rfl,h,k⟩
def É{xs:Τ}(n:Nat):ydb xs none (some (n:Int))=xs.take n:=by
 unfold ydb;rw[HT.sIx_none,HT.sIx_nat,List.drop_zero,Nat.sub_zero];rcases Nat.le_total n xs.length with h|h
 .rw[Nat.min_eq_left h]
 .rw[Nat.min_eq_right h,cE (bj _),cE h]
def ve9{wi:TI}{g:TG}{tb:TS}(h:wi σ H λJ H1=>∃W:Nat->Nat->St->Hp->Prop,(∃m,W 0 m σ H1)/\∀i m σ H,W i m σ H ->
  (J.stop i H/\D.nx σ H)\/(J.go i H/\∃N:Ζ,(∀σ' H',N σ' H'->∃m',m'<m/\W (i+1) m' σ' H')/\∀x H',J.yld i H x H'->g x σ H' λσ2 H2=>tb {D with nx:=N,ct:=N,bk:=D.nx} σ2 H2)):vgh wi g tb D σ H:=h
def yqo{R:It->Hp->Prop}(h:ta σ H λx H1=>∃a,x=.ref a/\(∃xs,SqL K H1 a xs)/\R (Itl K a) H1):vav K ta σ H R:=h
def vad{R:It->Hp->Prop}(h:ta σ H λx H1=>∃a,x=.ref a/\(∃xs,SqT K H1 a xs)/\R (Itt K a) H1):vg9 K ta σ H R:=h
def yr0{R:It->Hp->Prop}(h:tr σ H λvs H1=>∃j:Int,vs=[.int j]/\-(2^62)<=j/\j<2^62/\R (Itr 0 j.toNat) H1):vb9 tr σ H R:=h
def ç{n m:String}{k:Bool}{P:Bool->Prop}(ty:xu K H x (.type n))(e:W.kitOne K (.type n) (.type m)=some k)(h:P k):
  ∃x' cv t c k',[x,V.ty m]=[x',cv]/\xl cv c/\(∀u,xl cv u->u=c)/\xu K H x' t/\W.kitOne K t c=some k'/\P k':=⟨x,.ty m,.type n,.type m,k,rfl,rfl,λZ r=>r,ty,e,h⟩
def yxj{k:Int}(hc:vf4 i j)(e:i^j.toNat=k)(h:Q (.int k) H):va1 k (.int i) (.int j) H Q:=⟨i,j,rfl,rfl,hc,e,h⟩
def yqr(h:nx σ H):wg nx σ H:=h
end
noncomputable def ypg:V->Bool
 | .int _=>true
 | .bl _=>true
 |_=>false
noncomputable def yit:V->Bool
 | .bl _=>true
 |_=>false
noncomputable def μ:V->Bool
 | .int _=>true
 |_=>false
def ylf(K:z3)(n:String):W.kitOne K (.type n) (.type n)=some true:=by unfold W.kitOne;rw[if_pos (by simp)]
def yq1{K:z3}{H:Hp}{x:V}{n:String}(ty:xu K H x (.type n)):W.kitOne K (.type n) (.type "int")=some (ypg x):=by cases ty<;>rfl
def ymb{K:z3}{H:Hp}{x:V}{n:String}(ty:xu K H x (.type n)):W.kitOne K (.type n) (.type "bool")=some (yit x):=by cases ty<;>rfl
end L2
namespace SpanMath
def Ch(c:Int):Prop:=32768<=c/\c<=16744448
noncomputable def ren(l w s:Int):Int×Int×Int :=
 if w<4294967296 then (if w*256<4294967296 then (l*65536,w*65536,s+2)else (l*256,w*256,s+1))else (l,w,s)
noncomputable def cut(w c:Int):Int:=w*c/16777216
def nar(x:Int×Int×Int)(c b:Int):Int×Int×Int :=
 if b=1 then ren x.1 (cut x.2.1 c) x.2.2 else ren (x.1+cut x.2.1 c) (x.2.1-cut x.2.1 c) x.2.2
noncomputable def s0:Int×Int×Int:=(0,1099511627776,5)
def yk9{l w s:Int}(h:w<4294967296)(h2:8388608<=w):ren (l*256) (w*256) (s+1)=ren l w s:=by
 unfold ren;rw[if_pos h];by_cases h3:w*256<4294967296
 .rw[if_pos h3,if_pos h3,if_neg ()];refine Prod.ext ?_ (Prod.ext ?_ ?_)
  .show l*256*256=l*65536;omega
  .show w*256*256=w*65536;omega
  .show s+1+1=s+2;omega
 .rw[if_neg h3,if_neg h3]
def ytj{l w s:Int}(h:¬w<4294967296):ren l w s=(l,w,s):=by unfold ren;rw[if_neg h]
def ybi{w c:Int}(hw:4294967296<=w)(hw2:w<=1099511627776)(hc:Ch c):8388608<=cut w c/\8388608<=w-cut w c/\cut w c<1099511627776:=by let⟨d,a⟩:=hc;have b:w*32768<=w*c:=cz d ();have e:w*c<=w*16744448:=cz a ();unfold cut;generalize w*c=p at b e⊢;omega
structure Ok(x:Int×Int×Int):Prop where
 l0:0<=x.1
 w0:4294967296<=x.2.1
 w1:x.2.1<=1099511627776
 z:5<=x.2.2
def ok0:Ok s0:=⟨∅,∅,∅,∅⟩
def ynw{l w s:Int}(h0:0<=l)(h1:8388608<=w)(h2:w<=1099511627776)(h3:5<=s):Ok (ren l w s):=by
 unfold ren
 split
 .split
  .exists by show 0<=l*65536;omega,by show _<=w*65536;omega,by show w*65536<=_;omega,by show 5<=s+2;omega
  .exists by show 0<=l*256;omega,by show _<=w*256;omega,by show w*256<=_;omega,by show 5<=s+1;omega
 .exists h0,by show _<=w;omega,h2,h3
def vab{x:Int×Int×Int}{c b:Int}(h:Ok x)(hc:Ch c):Ok (nar x c b):=by
 let⟨a,e,d⟩:=ybi h.w0 h.w1 hc;have:=h.l0;have:=h.w0;have:=h.w1;have:=h.z;unfold nar
 split
 .exact ynw () () () ()
 .exact ynw () () () ()
end SpanMath
namespace SpanMath
noncomputable def pw:Nat->Int
 |0=>1
 |k+1=>pw k*256
theorem zh:∀k,0<pw k
 |0=>by decide
 |k+1=>by have:=zh k;show 0<pw k*256;omega
theorem yer(a:Nat):∀b,pw (a+b)=pw a*pw b
 |0=>by simp[pw]
 |b+1=>by
  show pw (a+b)*256=pw a*(pw b*256);rw[yer a b,Int.mul_assoc]
def yis{a b:Nat}(h:a<=b):pw a<=pw b:=by
 let⟨c,rfl⟩:=Nat.exists_eq_add_of_le h;rw[yer];have e:=zh a;have d:=zh c
 calc pw a=pw a*1:=()
  _<=pw a*pw c:=cz () ()
def vdl{a b:Nat}(h:pw a<pw b):a<b:=by apply Nat.lt_of_not_le;intro q;have:=yis q;omega
noncomputable def lo:Nat->Int->qi Int
 |0,_=>[]
 |k+1,n=>n%256::lo k (n/256)
def wr(k:Nat)(n:Int):Ο:=(lo k n).reverse
theorem yor:∀k n,(lo k n).length=k
 |0,_=>rfl
 |k+1,n=>by simp[lo,yor k]
def yu8(k:Nat)(n:Int):(wr k n).length=k:=by simp[wr,yor]
theorem yi5:∀k n,∀x∈lo k n,0<=x/\x<=255
 |0,_,x,h=>by simp[lo]at h
 |k+1,n,x,h=>by
  simp only[lo,bw]at h;rcases h with rfl|h
  .omega
  .exact yi5 k _ x h
def yrz(k:Nat)(n:Int):∀x∈wr k n,0<=x/\x<=255:=λx h=>yi5 k n x (by simpa[wr]using h)
def yra(k:Nat)(n:Int):wr (k+1) n=wr k (n/256)++[n%256]:=by simp[wr,lo]
noncomputable def val(xs:Ο):Int:=xs.foldl (λa b=>a*256+b) 0
def ydn(xs:Ο)(b:Int):val (xs++[b])=val xs*256+b:=by simp[val,List.foldl_append]
theorem yqd:∀(k:Nat)(n:Int),0<=n->n<pw k->val (wr k n)=n
 |0,n,h0,h1=>by
  have:n<1:=h1;have:n=0:=()
  subst this;rfl
 |k+1,n,h0,h1=>by
  have a:n<pw k*256:=h1;rw[yra,ydn,yqd k (n/256) () ()];omega
noncomputable def vhk:Nat->Int->Int->Nat
 |0,_,_=>0
 |n+1,a,b=>if a=b then 0 else vhk n (a/256) (b/256)+1
end SpanMath
namespace SpanMath
abbrev Sn:=Int×Int×Int
noncomputable def sz(x:Sn):Nat:=x.2.2.toNat
structure OkS(x:Sn):Prop where
 ok:Ok x
 top:x.1+x.2.1<=pw (sz x)
theorem OkS.sz{x:Sn}(h:OkS x):((sz x:Nat):Int)=x.2.2:=by have:=h.ok.z;unfold SpanMath.sz;omega
def OkS.sz5{x:Sn}(h:OkS x):5<=SpanMath.sz x:=by have:=h.ok.z;unfold SpanMath.sz;omega
def vf8:OkS s0:=⟨ok0,∅⟩
structure Sub(x y:Sn)(r:Nat):Prop where
 z:sz y=sz x+r
 l:x.1*pw r<=y.1
 h:y.1+y.2.1<=(x.1+x.2.1)*pw r
def yim{l w s:Int}(hs:0<=s):∃r,Sub (l,w,s) (ren l w s) r/\(ren l w s).2.1=w*pw r/\(ren l w s).1=l*pw r:=by
 unfold ren
 split
 .split
  .refine⟨2,⟨?_,?_,?_⟩,?_,?_⟩
   .show (s+2).toNat=s.toNat+2;omega
   .show l*(1*256*256)<=l*65536;omega
   .show l*65536+w*65536<=(l+w)*(1*256*256);omega
   .show w*65536=w*(1*256*256);omega
   .show l*65536=l*(1*256*256);omega
  .refine⟨1,⟨?_,?_,?_⟩,?_,?_⟩
   .show (s+1).toNat=s.toNat+1;omega
   .show l*(1*256)<=l*256;omega
   .show l*256+w*256<=(l+w)*(1*256);omega
   .show w*256=w*(1*256);omega
   .show l*256=l*(1*256);omega
 .refine⟨0,⟨?_,?_,?_⟩,?_,?_⟩
  .rfl
  .show l*1<=l;omega
  .show l+w<=(l+w)*1;omega
  .show w=w*1;omega
  .show l=l*1;omega
def ysh{x:Sn}{c b:Int}(h:Ok x)(hc:Ch c):∃r,Sub x (nar x c b) r:=by
 let⟨k,j,g⟩:=ybi h.w0 h.w1 hc;have i:=h.l0;have f:=h.z;unfold nar
 split
 .obtain⟨r,⟨e,d,a⟩,_⟩:=yim (l:=x.1) (w:=cut x.2.1 c) (s:=x.2.2) ();exists r,e,d,Int.le_trans a (cr ?_ (Int.le_of_lt (zh r)));show x.1+cut x.2.1 c<=x.1+x.2.1;omega
 .obtain⟨r,⟨e,d,a⟩,_⟩:=yim (l:=x.1+cut x.2.1 c) (w:=x.2.1-cut x.2.1 c) (s:=x.2.2) ();exists r,e,Int.le_trans (cr ?_ (Int.le_of_lt (zh r))) d,Int.le_trans a (cr ?_ (Int.le_of_lt (zh r)))
  .show x.1<=x.1+cut x.2.1 c;omega
  .show x.1+cut x.2.1 c+(x.2.1-cut x.2.1 c)<=x.1+x.2.1;omega
def ycl{x:Sn}{c b:Int}(h:OkS x)(hc:Ch c):OkS (nar x c b):=by exists vab h.ok hc,?_;let⟨r,q⟩:=ysh (b:=b) h.ok hc;rw[q.z,yer];exact Int.le_trans q.h (cr h.top (Int.le_of_lt (zh r)))
noncomputable def blk(l e:Int):Int:=(l+e-1)/e
def yf9(l w:Int)(k:Nat):Prop:=(blk l (pw k)+1)*pw k<=l+w
instance (l w:Int)(k:Nat):Decidable (yf9 l w k):=inferInstanceAs (Decidable ((blk l (pw k)+1)*pw k<=l+w))
def yo3(l:Int){e:Int}(h:0<e):l<=blk l e*e/\blk l e*e<l+e:=by unfold blk;have a:=Int.emod_add_mul_ediv (l+e-1) e;have b:=cT (l+e-1) (show e≠0 by omega);have c:=cO (l+e-1) h;rw[Int.mul_comm]at a;generalize (l+e-1)/e*e=q at a⊢;omega
def yiv{l w:Int}{k:Nat}(h:yf9 l w k):pw k<=w:=by have a:=yo3 l (zh k);unfold yf9 at h;rw[Int.add_mul]at h;omega
noncomputable def tel(l w:Int):Nat->Nat->Nat
 |0,k=>k
 |f+1,k=>if yf9 l w (k+1)then tel l w f (k+1)else k
def ykt{l w:Int}{f k:Nat}(h:yf9 l w (k+1)):tel l w f (k+1)=tel l w (f+1) k:=by rw[tel,if_pos h]
def yrq{l w:Int}{f k:Nat}(h:¬yf9 l w (k+1)):tel l w f k=k:=by
 cases f with
 |zero=>rfl
 |succ f=>rw[tel,if_neg h]
set_option tactic.hygienic true in
theorem ydt{l w:Int}:∀{f k:Nat},yf9 l w k->yf9 l w (tel l w f k)
 |0,_,h=>h
 |f+1,k,h=>by
  unfold tel
  split
  .rename_i q;exact ydt q
  .exact h
def pw5:pw 5=1099511627776:=∅
def ynq{l w:Int}{k:Nat}(hw:w<=1099511627776)(h:yf9 l w k):k<=5:=by have b:=yiv h;rw[<- pw5]at hw;have a:pw k<pw 6:=Int.lt_of_le_of_lt (Int.le_trans b hw) ∅;have:=vdl a;omega
def tK(x:Sn):Nat:=tel x.1 x.2.1 5 0
def tCn(x:Sn):Int:=blk x.1 (pw (tK x))
def tL(x:Sn):Ο:=wr (sz x-tK x) (tCn x)
def veq{x:Sn}(h:Ok x):yf9 x.1 x.2.1 0:=by have:=h.w0;show ((x.1+1-1)/1+1)*1<=x.1+x.2.1;omega
def Ŵ{x:Sn}(h:Ok x):yf9 x.1 x.2.1 (tK x):=ydt (veq h)
def yt1{x:Sn}(h:OkS x):tK x<=5/\tK x<=sz x:=by have b:=ynq h.ok.w1 (Ŵ h.ok);have a:=h.sz5;omega
def yjr(x:Sn):(tL x).length=sz x-tK x:=yu8 _ _
def yx9{x:Sn}(h:Ok x):0<=tCn x:=by have:=h.l0;have:=zh (tK x);exact Int.ediv_nonneg () ()
def vaa{x:Sn}(h:OkS x):tCn x<pw (sz x-tK x):=by have b:(tCn x+1)*pw (tK x)<=x.1+x.2.1:=Ŵ h.ok;have a:=h.top;have e:sz x-tK x+tK x=sz x:=Nat.sub_add_cancel (yt1 h).2;rw[<- e,yer]at a;have c:=Int.le_of_mul_le_mul_right (Int.le_trans b a) (zh (tK x));omega
def yum{x:Sn}(h:OkS x):val (tL x)=tCn x:=yqd _ _ (yx9 h.ok) (vaa h)
end SpanMath
namespace L2
open PySem PySem.Spec PyProof.Rows
def yeq(J:It)(te:TE)(D:z4)(R:Hp->Prop)(H1:Hp):Prop:=∃W:Nat->Nat->Hp->Prop,(∃m,W 0 m (upd H1 D (.lst [])))/\
 ∀i m H2,W i m H2->(J.stop i H2/\R H2)\/(J.go i H2/\∀x H3,J.yld i H2 x H3->te [some x] H3 λy H4=>∃ys,H4 D=some (.lst ys)/\ys.length<sizeLine/\∃m',m'<m/\W (i+1) m' (upd H4 D (.lst (ys++[y]))))
section
variable{X:Cx}{iter elt:qg}{x:Str}{px pos:Pos}{scope:Scope}{te:TE}{wi:TI}{pins:Θ}{σ:St}
def vd8{α:Type}{t:Sem α}{Q Q':α->qa->Prop}{M:Model}{A:qe}{E:Δ}{s:qa}(h:wpAny M A t Q (λZ Z=>False) s)(hQ:∀a s,Q a s->Q' a s):wpAny M A t Q' E s:=cJ h hQ λZ Z z=>z.elim
def cW(n:Nat)(Pv:Nat->Hp->Prop)(i m:Nat)(H:Hp):Prop:=m=n-i/\i<=n/\Pv i H
def jo{K:z3}{a D:z4}{xs:Τ}{R:Hp->Prop}{H1:Hp}(Pv:Nat->Hp->Prop)(h0:Pv 0 (upd H1 D (.lst [])))(hl:∀i H,i<=xs.length->Pv i H->SqL K H a xs)
  (hs:∀i x H,xs[i]?=some x->i<xs.length->Pv i H->te [some x] H λy H4=>∃ys,H4 D=some (.lst ys)/\ys.length<sizeLine/\∃m',m'<xs.length-i/\cW xs.length Pv (i+1) m' (upd H4 D (.lst (ys++[y]))))
  (hd:∀H,Pv xs.length H->R H):yeq (Itl K a) te D R H1:=by
 exists cW xs.length Pv,⟨xs.length,by simp,bN _,h0⟩,?_;rintro i m H ⟨rfl,b,p⟩;have q:=hl i H b p;by_cases hlt:i<xs.length
 .refine .inr ⟨⟨xs,xs[i],q,by simp[hlt]⟩,λx c y=>?_⟩;let⟨e,y⟩:=y;subst e;exact hs i x _ (y xs q) hlt p
 .have e:i=xs.length:=()
  subst e;exact .inl ⟨⟨xs,q,bj _⟩,hd H p⟩
def zy{n i:Nat}{Pv:Nat->Hp->Prop}{D:z4}{ys:Τ}{y:V}{H4:Hp}(hD:H4 D=some (.lst ys))(hl:ys.length<sizeLine)(hi:i<n)(p:Pv (i+1) (upd H4 D (.lst (ys++[y])))):
  ∃ys,H4 D=some (.lst ys)/\ys.length<sizeLine/\∃m',m'<n-i/\cW n Pv (i+1) m' (upd H4 D (.lst (ys++[y]))):=⟨ys,hD,hl,n-(i+1),(),rfl,hi,p⟩
end
end L2
namespace L2
open PySem
noncomputable def yc3:qg->Bool
 | .Starred _ _=>false
 |_=>true
def jq{e:qg}{es:qi qg}{env:Env}(h:yc3 e=true):starEach (e::es) env=(false,eval e env)::starEach es env:=by cases e<;>first|rfl|cases h
end L2
namespace L2
open PySem PySem.Spec PyProof.Rows
variable{C D a x:z4}{h':qf}{pins:Θ}{M:Model}{i:Nat}{P:qh}{scope:Scope}{st:qc}{qual:Str}{cd u:qb}{E Q:Δ}
structure XCls(K:z3)(C:z4):Prop where
 hd:W.hasDictIn K C=true
 ga:W.findIn K (.ref C) "__getattribute__"=some (some (.builtin "BaseException.__getattribute__"))
 gt:W.findIn K (.ref C) "__getattr__"=some none
 ca:W.findIn K (.ref C) "__class__"=some (some (.builtin "object.__class__"))
 gg:W.specialIn K (.builtin "object.__class__") "__get__"=some (some (.builtin "getset_descriptor.__get__"))
 tk:W.takesIn K (.builtin "object.__class__")=some true
 mo:W.mroIn K C (.type "object")=some true
 mb:W.mroIn K C (.type "BaseException")=some true
def XCls.cl{K:z3}(c:XCls K C):(W.clsIn K C).isSome=true:=by let⟨a,h,_⟩:=W.any_some c.hd;rw[h];rfl
def exm_mk{K:z3}(h0:W.subIn K (.ref D) (.type "BaseException")=some true)(h1:W.hasDictIn K D=true)(h2:W.typeIn K (.ref D)=some (.type "type"))
  (h3:W.subIn K (.ref C) (.ref D)=some true):W.exmOne K (.ref C) (.ref D)=some true:=by let⟨a,h,_⟩:=W.any_some h1;unfold W.exmOne W.kitCls;rw[h0];dsimp only;rw[h,h2,h3];rfl
def Ź(x C:z4)(h:qf):Prop:=∃ox,h.get? x=some ox/\ox.cls=.ref C
section
variable{prog:qh}{w:qd}{A:qe}{s:qa}{K:z3}
def Ź.type{h:qf}(I:Ź x C h):W.Looks M h (typeOf (.ref x)) (.ref C):=by let⟨c,b,a⟩:=I;exact a ▸ (W.Looks.ld b).andThen .now
def XCls.finds(c:XCls K C){h:qf}(X:K.In h):W.Looks M h (Builtin.ObjectAttr.find (.ref x) (.ref C) "__class__") (.bind (.builtin "getset_descriptor.__get__") (.builtin "object.__class__")):=by have b:=W.looks_findIn (M:=M) X c.ca;have d:W.Looks M h (Builtin.ObjectAttr.getOf (some (.builtin "object.__class__"))) (some (.builtin "getset_descriptor.__get__")):=W.looks_specialIn X c.gg;have a:W.Looks M h (Builtin.ObjectAttr.dataDescriptor? (some (.builtin "object.__class__")) (some (.builtin "getset_descriptor.__get__"))) (some (.builtin "getset_descriptor.__get__",.builtin "object.__class__")):=(W.looks_takesIn X c.tk).andThen .now;exact b.andThen (d.andThen (a.andThen (W.Looks.tag .now)))
def yrg{R:Result->qa->Prop}{tp:qb}(c:XCls K C)(X:K.In s.heap)(I:Ź x C s.heap)(h:R (.ok (.ret (.ref C))) s):
  codeAny (model prog w) A (.call (.builtin "getset_descriptor.__get__") ⟨[.builtin "object.__class__",.ref x,tp],[]⟩) R s:=by
 let⟨f,g,b,t,d⟩:=s;have e:=I.type (M:=model prog w);have a:=W.looks_mroIn (M:=model prog w) X c.mo;refine codeAny_call_builtin W.KF.slot_gs.plain W.KF.entry_gs (W.KF.slot_gs.check _ _ _ _ _ _ _ _ W.KF.type_class (W.KF.args_gs _ _ _) ?_);unfold Builtin.«getset_descriptor.__get__» Builtin.Getset_descriptor.descrGet;rw[W.dga_obj];refine bd (bo ?_);unfold Builtin.Getset_descriptor.descrGetter Builtin.Getset_descriptor.descrCheckInstance Builtin.Getset_descriptor.descrNameAndClass isInstance;simp only[W.KF.owner_class]
 repeat lk
 exists Code.quiet_builtin _ (by decide+kernel),codeAny_builtin W.KF.entry_class ?_;unfold Builtin.«object.__class__» shownTypeOf
 repeat lk
 exact h
def yhv(c:XCls K C){Q:qj qb->qa->Prop}(X:K.In s.heap)(I:Ź x C s.heap)(h:Q (some (.ref C)) {s with toks:=s.toks+1}):
  wpAny (model prog w) A (getAttr? (.ref x) "__class__") Q E s:=by
 let⟨e,g,d,t,k⟩:=s;have b:=I.type (M:=model prog w);have p:=W.looks_findIn (M:=model prog w) X c.ga;have j:=W.looks_findIn (M:=model prog w) X c.gt;have m:W.Looks (model prog w) e (isInstance (.ref x) (.type "BaseException")) true:=b.andThen (W.looks_mroIn X c.mb);have o:=c.finds (x:=x) (M:=model prog w) X;unfold getAttr? getAttrBy? getAttrBy;refine bd (wpAny_mkText (bd (wpAny_attempt (wpAny_holding (bd (b.at (bd (p.at ?_))))))))
 have n:(onTheHeap (Value.ref C) && Value.builtin "BaseException.__getattribute__" == Value.builtin "object.__getattribute__")=false:=by
  have z:(Value.builtin "BaseException.__getattribute__" == Value.builtin "object.__getattribute__")=false:=by decide+kernel
  rw[z];rfl
 dsimp only;rw[n];unfold getAttrByItsOwn hookBefore;rw[if_neg bz];refine bd ?_;rw[if_pos (show onTheHeap (.ref C)=true from rfl)];refine j.at ?_;refine bd (wpAny_attempt (wpAny_holding ?_));unfold callGetattribute;rw[if_neg (by simp)];unfold boundAndCalled;rw[F.attr_ValueError.ga.bind (.ref x)];refine bd (bo ?_);refine wpAny_call (codeAny_call_builtin F.attr_ValueError.ga.plain F.entry_bexc_ga ?_);have l:builtinKind "BaseException.__getattribute__"=some .slot:=by decide+kernel
 have a:splitId "BaseException.__getattribute__"=some ("BaseException","__getattribute__"):=by decide+kernel
 have i:=F.args_bexc_ga (.ref x) (.str "__class__" t);simp only[checkBuiltinCall,l,a,List.cons_append,List.nil_append];refine bd (m.at ?_);rw[if_neg (by simp)];refine wpAny_of_eq i ?_;unfold Builtin.«object.__getattribute__»;have q:slotArgs "__getattribute__" 1 ⟨[Value.ref x,Value.str "__class__" t],[]⟩=pure (Value.ref x,[Value.str "__class__" t]):=by kernel_rfl
 have f:Builtin.ObjectAttr.attrName (Value.str "__class__" t)=pure "__class__":=by kernel_rfl
 refine bd (wpAny_of_eq q ?_);dsimp only;refine bd (wpAny_of_eq f ?_);refine bd (b.at ?_);refine bd (o.at ?_);dsimp only;show wpAny _ _ (holding [_] (call _ [_,_,_]) >>=ret) _ _ _;refine bd (wpAny_holding (wpAny_call (yrg (s:=⟨e,g,d,t+1,k⟩) c X I ?_)));refine bo ?_;exact W.handed_on rfl (bo h)
set_option tactic.hygienic true in
def ytg(c:XCls K C):W.KitX K (.ref x) (.ref C) (Ź x C) where
 ty:=λZ Z Z I=>I.type
 it:=λM h X Z=>by
  let⟨d,a⟩:=Option.isSome_iff_exists.mp c.cl;unfold W.clsIn at a
  split at a
  .rename_i there
   intro i g o m k q;unfold isType loadHead;exact bd (wpAny_loadPart (k _ _ (X _ _ there)) (bo q))
  .cases a
 ne:=λh e j f n l X b=>by
  let⟨d,a⟩:=Option.isSome_iff_exists.mp c.cl;refine Bool.eq_false_iff.mpr λq=>?_;obtain rfl:C=e:=Value.ref.inj (beq_iff_eq.mp q);unfold W.clsIn at a
  split at a
  .rename_i there
   cases (X _ _ there).symm.trans b
  .cases a
 ca:=λX I k=>yhv c X I k
end
section
variable{X:Cx}
def yq6{σ:St}{H:Hp}{s:qa}(I:Inv X pins σ H s)(e:H x=some (.ext (Ź x C))):Ź x C s.heap:=(show xm X.prog X.w H s.heap x (.ext (Ź x C))from I.hok x _ e).1
def ybn(K:z3):qi V->Hp->VK->Prop:=λxs H Q=>∃x cv C c k,xs=[.ref x,cv]/\xl cv c/\(∀u,xl cv u->u=c)/\H x=some (.ext (Ź x C))/\XCls K C/\W.kitOne K (.ref C) c=some k/\Q (.bl k) H
def xq:jd X (.builtin "isinstance") (ybn X.K):=by
 intro a s σ H n m Q I r h;let⟨x,o,C,c,k,rfl,_,f,d,i,e,q⟩:=h;let⟨u,l,rfl,b,g⟩:=ymy r;obtain rfl:=f l g;obtain rfl:u=Value.ref x:=b
 exact W.kia_one (ytg i) I.kIn (yq6 I d) e (λz=>nomatch z) λj=>⟨.bl k,H,I.tok j,rfl,q⟩
theorem ya8:∀{Cs:Υ}{us:Ξ},wu (Cs.map V.ref) us->us=Cs.map Value.ref
 |[],_,.nil=>rfl
 |C::r,_,.cons a t=>by rw[show _=Value.ref C from a,ya8 t];rfl
end
def xm.there{w:qd}{H:Hp}{h:qf}{o:HO}(x:xm P w H h a o):∃ob,h.get? a=some ob:=by
 cases o with
 |lst xs=>let⟨_,_,_,_,e⟩:=x;exists _,e
 |tup xs=>let⟨_,_,_,ob,e,_⟩:=x;exists _,e
 |dK kvs=>let⟨_,_,_,_,ob,_,_,e,_⟩:=x;exists _,e
 |dT kvs=>let⟨_,_,_,_,ob,_,_,e,_⟩:=x;exists _,e
 |set S n=>let⟨ob,_,_,_,e,_⟩:=x;exists _,e
 |ins C dx fs=>let⟨_,_,_,e,_⟩:=x;exists _,e
 |own y=>exact x
 |xd fs=>let⟨_,⟨_,_,_,e,_⟩,_⟩:=x;exists _,e
 |rng lo hi=>let⟨_,_,_,e⟩:=x;exists _,e
 |frz ob u=>let⟨e,_⟩:=x;exists _,e
 |tbl ps=>exists _,(show h.get? a=some _ from x)
 |met f y=>exists _,(show h.get? a=some _ from x)
 |ext φ=>let⟨_,e,_⟩:=x;exact e
def HOk.none_of{w:qd}{H:Hp}{h:qf}(x:HOk P w H h)(e:h.get? a=none):H a=none:=by
 cases q:H a with
 |none=>rfl
 |some u =>
  let⟨b,z⟩:=(x a u q).there;rw[e]at z;cases z
def Fy(X:Cx)(pins:Θ)(H:Hp)(b:z4):Prop :=
 H b=none/\b≠X.env.locals/\b∉X.fs/\(b∈X.ex\/X.s₀.heap.get? b=none)/\(∀y c,X.env.cells.lookup y=some c->c≠b)/\∀p∈X.pn++pins,p.1≠b
section
variable{X:Cx}{σ:St}{H H':Hp}{s:qa}{b T:z4}
def yeb(I:Inv X pins σ H s)(hb:s.heap.get? b=none)(hn:H' b=none):Fy X pins H' b:=by
 exists hn,?_,?_,?_,?_,?_
 .rintro rfl;let⟨_,⟨_,_,_,e,_⟩,_⟩:=I.loc;rw[hb]at e;cases e
 .intro z;let⟨_,o,e,_⟩:=I.funs.mem z;rw[hb]at e;cases e
 .by_cases hx:b∈X.ex
  .exact .inl hx
  .refine .inr ?_
   cases q:X.s₀.heap.get? b with
   |none=>rfl
   |some o =>
    let⟨_,e⟩:=I.base.there b o q hx;rw[hb]at e;cases e
 .rintro y c e rfl;let⟨_,_,q,_⟩:=I.cell y c e;rw[hb]at q;cases q
 .intro p a z;have q:=(I.pin p a).1;rw[z,hb]at q;cases q
def Inv.fly(I:Inv X pins σ H s)(hx:Fy X pins H x)(hT:Fy X pins H T)
  (keep:∀b o,b≠x->b≠T->b∉frs X.stack->s.heap.get? b=some o->h'.get? b=some o)
  (slot:∀b o,b∈frs X.stack->s.heap.get? b=some o->∃sl,h'.get? b=some {o with slots:=sl}):Inv X pins σ H {s with heap:=h'}:=by
 have a:∀{y b o},Fy X pins H y->X.s₀.heap.get? b=some o->b∉X.ex->b≠y:=λ{y b o}N e f z=>by
  subst z;rcases N.2.2.2.1 with q|q
  .exact f q
  .rw[e]at q;cases q
 have h:∀b o,b≠x->b≠T->s.heap.get? b=some o->∃sl,h'.get? b=some {o with slots:=sl}:=λb o L Q e=>by
  by_cases z:b∈frs X.stack
  .exact slot b o z e
  .exists o.slots,keep b o L Q z e
 have g:∀y c,X.env.cells.lookup y=some c->∀v,s.heap.IsCell c v->h'.IsCell c v:=λy c e v ⟨o,B,K⟩=>by
  let⟨sl,q⟩:=h c o (hx.2.2.2.2.1 y c e) (hT.2.2.2.2.1 y c e) B;exists _,q,K
 exists I.ok,I.os,I.bare,⟨λb o e n A f=>?_,λb o e n A f=>?_,I.base.free,λb o e f=>?_,I.base.tups,I.base.frzs,I.base.tbls⟩,?_,λy c e=>?_,I.free,I.freeC,λp D=>?_,λb u e=>?_,I.len
 .refine keep b o (a hx e f) (a hT e f) (λz=>?_) (I.base.keep b o e n A f);rcases bw.mp (I.stkSub b z)with q|q
  .exact absurd q (bS (bU (br e) I.ok.above))
  .exact A q
 .obtain⟨sl,t⟩:=I.base.slot b o e n A f;let⟨w,j⟩:=h b _ (a hx e f) (a hT e f) t;exists w,j
 .obtain⟨Y,t⟩:=I.base.there b o e f;let⟨w,j⟩:=h b _ (a hx e f) (a hT e f) t;exists _,j
 .obtain⟨m,P,J⟩:=I.loc;exists m,?_,λi y v t j R=>?_
  .obtain⟨o,W,U,B,r⟩:=P;let⟨sl,q⟩:=h _ o (Ne.symm hx.2.1) (Ne.symm hT.2.1) B;exists _,W,U,q,r
  .obtain⟨u,r,l⟩:=J i y v t j R;exists u,r,?_;rcases l with l|⟨k,c,e,z⟩
   .exact .inl l
   .exact .inr ⟨k,c,e,g y c e _ z⟩
 .obtain⟨v,z⟩:=I.cell y c e;exists v,g y c e v z
 .obtain⟨e,n,E,F,d⟩:=I.pin p D;exists keep p.1 p.2 (hx.2.2.2.2.2 p D) (hT.2.2.2.2.2 p D) (λz=>?_) e,n,E,F,d;rcases bw.mp (I.stkSub _ z)with q|q
  .exact E q
  .exact F q
 .have G:∀c v,H c=some v->c≠x/\c≠T/\c∉frs X.stack:=λc v q =>
   ⟨λz=>(by rw[z,hx.1]at q;cases q),λz=>(by rw[z,hT.1]at q;cases q),λz=>(by rw[I.stkFree c z]at q;cases q)⟩
  refine(I.hok b u e).stay (λc v C q=>?_) (λZ q=>q) λZ Z q=>q
  obtain⟨M,O,S⟩:c≠x/\c≠T/\c∉frs X.stack:=by
   rcases C with rfl|C
   .exact G _ _ e
   .exact G _ _ C
  exact keep c v M O S q
def Trd(h:qf)(x T:z4)(C fl:qb):Prop :=
 ∃oe vs oT ts a0,h.get? x=some oe/\(oe.cls=C/\vs[0]?=some a0)/\oe.data=.fields vs/\vs[1]?=some (.ref T)/\T≠x/\h.get? T=some oT/\oT.data=.fields ts/\ts[3]?=some fl
def hid(s:qa)(X:Cx)(x T:z4):qf:=W.hideAll s.heap (x::T::frs X.stack)
def Ù:(hid s X x T).StaysIn s.heap:=λZ Z e=>W.of_hideAll _ e
def ym1:(hid s X x T).get? x=none:=W.hideAll_none _ (.head _)
def vf0:(hid s X x T).get? T=none:=W.hideAll_none _ (.tail _ (.head _))
def Ø(I:Inv X pins σ H s):s.heap.FunFrames (hid s X x T) X.stack :=
 W.funFrames_hide I.stack λb c a d=>.tail _ (.tail _ (List.mem_filterMap.mpr ⟨b,c,d⟩))
def è{C fl:qb}(t:Trd s.heap x T C fl):∃a0,s.heap.TracedAtW (hid s X x T) x C a0 fl:=by let⟨l,b,k,i,a0,d,a,g,c,e,h,f,j⟩:=t;exists a0,l,b,T,k,i,d,a,g,c,vf0,e,h,f,j
def x8{C a0 fl:qb}(I:Inv X pins σ H s)(hx:Fy X pins H x)(hT:Fy X pins H T)(k1:(hid s X x T).StaysIn h')(k2:h'.FunFrames (hid s X x T) X.stack)(k3:h'.TracedAtW (hid s X x T) x C a0 fl)
  (k4:∀b o,s.heap.get? b=some o->(∀vs,o.data≠.fields vs)->∃sl,h'.get? b=some {o with slots:=sl}):
  Inv X pins σ H {s with heap:=h'}/\∃T',Fy X pins H T'/\Trd h' x T' C fl:=by
 exists I.fly hx hT (λb o l t y e=>k1 b o (W.hideAll_get _ e λz=>?_)) λb o j e=>?_,?_
 .rcases bw.mp z with z|z
  .exact l z
  .rcases bw.mp z with z|z
   .exact t z
   .exact y z
 .obtain⟨_,u,a,c⟩:=I.stack.mem j;rw[e]at a;cases a;exact k4 b o e c
 .obtain⟨A,vs,T',r,v,i,k,n,h,p,f,d,g,w⟩:=k3;exists T',?_,A,vs,r,v,a0,i,k,n,h,f,d,g,w;by_cases q:T'=T
  .rw[q];exact hT
  .cases e:s.heap.get? T' with
   |none=>exact yeb I e (I.hok.none_of e)
   |some o =>
    have z:T'∈frs X.stack:=Classical.byContradiction λz=>by
     have:=W.hideAll_get (x::T::frs X.stack) e (λm=>by
      rcases bw.mp m with m|m
      .exact f m
      .rcases bw.mp m with m|m
       .exact q m
       .exact z m)
     rw[show (W.hideAll s.heap (x::T::frs X.stack)).get? T'=none from p]at this;cases this
    let⟨_,u,a,c⟩:=k2.mem z;rw[d]at a;cases a;exact absurd g (c _)
end
def CXe(P:qh)(w:qd):CXT:=λouter H s E e s'=>∃x T C H',e=.ref x/\s'.os=s.os/\AllBare s'.gens/\Un (frs outer) [] H H' s.heap s'.heap/\HOk P w H' s'.heap/\
 (H' x=none/\s.heap.get? x=none)/\(H' T=none/\s.heap.get? T=none)/\Trd s'.heap x T C .none/\E C none H'
def ě(X:Cx)(Ex:St->XK):Prop:=∀(pins:Θ)(σ:St)(H:Hp)(s':qa)(x T:z4)(C:qb),Inv X pins σ H s'->Fy X pins H x->Fy X pins H T->Trd s'.heap x T C .none->Ex σ C none H->X.xe (.ref x) s'
def yt{w:qd}{K:z3}{mg:Ε}{base:qf}{N:Ρ}{f:z4}{A:qe}{outer:qi Env}{s:qa}{H:Hp}{E:XK}:
  ě (vo (CXe P w) P w K mg base N qual scope f cd A outer s H E) (λZ=>E):=by intro c σ g l x T C I h r m q;show wpAny _ _ (leaving _ _) _ _ _;let⟨v,u⟩:=è (X:=vo (CXe P w) P w K mg base N qual scope f cd A outer s H E) m;refine wpAny_leaving_nextW (base:=hid l (vo (CXe P w) P w K mg base N qual scope f cd A outer s H E) x T) (L:=s.heap.objs.size) I.ok.frames (Ø I) rfl u Ù ym1 λy ⟨t,p,k,n⟩=>?_;let⟨d,j,e,o⟩:=x8 I h r t p k n;have a:∀{b},Fy (vo (CXe P w) P w K mg base N qual scope f cd A outer s H E) c g b->g b=none/\s.heap.get? b=none:=λi=>⟨i.1,i.2.2.2.1.resolve_left (by intro z;cases z)⟩;exists x,j,C,g,rfl,d.os,d.bare,d.base,d.hok,a h,a e,o,q
def ykg{w:qd}{K:z3}{mg:Ε}{base:qf}{N:Ρ}{f:z4}{A:qe}{outer:qi Env}{s:qa}{H:Hp}{E:XK}
  {pins:Θ} {σ:St} {H1:Hp} {s1:qa} {h':qf} {x:z4} {C:qb} {vs:Ξ} (I:Inv (vo (CXe P w) P w K mg base N qual scope f cd A outer s H E) pins σ H1 s1) (m:Heap.MadeExcOf s1.heap h' x C vs) (q:E C none H1):
  (vo (CXe P w) P w K mg base N qual scope f cd A outer s H E).xe (.ref x) {s1 with heap:=h'}:=by
 let⟨t,k,_,_⟩:=m.there;have e:Fy (vo (CXe P w) P w K mg base N qual scope f cd A outer s H E) pins H1 x:=yeb I m.new (I.hok.none_of m.new);have g:Inv (vo (CXe P w) P w K mg base N qual scope f cd A outer s H E) pins σ H1 {s1 with heap:=h'}:=I.kept (t':=s1.toks) m.keeps;show wpAny _ _ (leaving _ _) _ _ _
 refine wpAny_leaving_firstW (base:=hid {s1 with heap:=h'} (vo (CXe P w) P w K mg base N qual scope f cd A outer s H E) x x) (L:=s.heap.objs.size) (a0:=.ref t) g.ok.frames (Ø g) rfl k Ù ym1 rfl rfl rfl λo ⟨n,l,i,p⟩=>?_
 let⟨c,j,d,t'⟩:=x8 g e e n l i p;have a:∀{b},Fy (vo (CXe P w) P w K mg base N qual scope f cd A outer s H E) pins H1 b->H1 b=none/\s.heap.get? b=none:=λh=>⟨h.1,h.2.2.2.1.resolve_left (by intro z;cases z)⟩;exists x,j,C,H1,rfl,c.os,c.bare,c.base,c.hok,a e,a d,t',q
def yjd(sp:Sp)(dvs:Τ)(Ex:St->XK)(t:TA):TE:=λσ H Q=>t σ H λvs H1=>sp (vs++dvs) H1 Q (Ex σ)
def Ľ(C:z4)(m:Str)(sp:Sp)(dvs:Τ)(Ex:St->XK)(ta:TE)(t:TA):TE:=λσ H Q=>ta σ H λx H1=>∃a dx fs,x=.ref a/\H1 a=some (.ins C dx fs)/\fs.lookup m=none/\
 t σ H1 λvs H2=>sp (x::(vs++dvs)) H2 Q (Ex σ)
def ypk(C:z4)(sp:Sp)(dvs:Τ)(Ex:St->XK)(t:TA):TE:=λσ H Q=>t σ H λvs H1=>∀x dx,H1 x=none->H1 dx=none->dx≠x ->
 sp (.ref x::(vs++dvs)) (upd (upd H1 dx (.own x)) x (.ins C dx [])) (λv H2=>v=.non/\Q (.ref x) H2) (Ex σ)
section
variable{X:Cx}{k:Nat}{f:z4}{fd:FuncData}{ps:Ρ}{sp:Sp}{dvs:Τ}{ds:Ξ}{Ex:St->XK}{x m:Str}{p pos apos:Pos}{e o:qg}{es:qi qg}{ta:TE}{t:TA}
def Inv.came{σ:St}{H:Hp}{s s':qa}{v:qb}(I:Inv X pins σ H s)(hc:ě X Ex)(h:CXe X.prog X.w X.stack H s (Ex σ) v s'):X.xe v s':=by let⟨y,T,D,j,rfl,f,a,g,c,d,e,i,q⟩:=h;exact hc pins σ j s' y T D (I.call' f g c a λb z=>absurd z (by simp)) (yeb I d.2 d.1) (yeb I e.2 e.1) i q
def ycq{σ:St}{H:Hp}{s:qa}{Q:VK}{us:Ξ}{vs:Τ}(F:vn X.prog X.w X.K X.mg X.base (CXe X.prog X.w) k f fd ps sp)(hr:z7 k X.A)(hb:uo X.K fd ps ds)(hd:wu dvs ds)(hc:ě X Ex)
  (I:Inv X pins σ H s) (r:wu vs us) (h:sp (vs++dvs) H Q (Ex σ)):wpAny (model X.prog X.w) X.A (call (.ref f) us) (EP X pins σ Q) X.xe s:=by
 have b:wu (vs++dvs) (us++ds):=r.append hd;have c:(us++ds).length=ps.length:=by rw[<- b.length];exact F.len _ _ _ _ h
 refine wpAny_call (codeAny_mono (F.run X.A X.stack s H ⟨us,[]⟩ (us++ds) (vs++dvs) Q (Ex σ) hr I.env0 (hb s us I.kIn c) b h) λr d a=>?_)
 cases r with
 |error e=>exact I.came hc a
 |ok fl =>
  cases fl with
  |ret u=>exact I.after a
  |next=>exact False.elim a
  |brk=>exact False.elim a
  |cont=>exact False.elim a
def yky(F:vn X.prog X.w X.K X.mg X.base (CXe X.prog X.w) k f fd ps sp)(hr:z7 k X.A)(hg:Gl X x)(hm:X.mg x=some (.ref f))(hk:W.keepIn X.K (.ref f)=true)(hb:uo X.K fd ps ds)(hd:wu dvs ds)(hc:ě X Ex)
  (ha:PA X (e::es) t) (hdb:(x == ("__debug__":Str))=false:=by decide) (he:starEach (e::es) X.env=(false,eval e X.env)::starEach es X.env:=by rfl) (hpl:(backTo pos (starEach es X.env)).any (·.1)=false:=by rfl):
  PE X (.Call (.Name x p) (e::es) [] pos) (yjd sp dvs Ex t):=by refine .mk λa s σ H Q I h=>?_;refine wpAny_Call_Name_kw (jv I hg hm ?_ hdb);refine W.callWith_K (h₀:=X.base) I.ok.mod.kin hk (thn (ha pos a s σ H _ I h) λi g ⟨d,c,b,r,q⟩=>⟨b.kIn,?_⟩) he hpl;exact ycq F hr hb hd hc b r q
def yz{pl:Sem Bool}(he:PE X o ta)(c:Cls X.K C)(hm:Meth X.K C m f)(F:vn X.prog X.w X.K X.mg X.base (CXe X.prog X.w) k f fd ps sp)(hr:z7 k X.A)(hb:uo X.K fd ps ds)(hd:wu dvs ds)(hc:ě X Ex)(ha:PA X (e::es) t)
  (hst:starEach (e::es) X.env=(false,eval e X.env)::starEach es X.env:=by rfl) (hpl:(backTo pos (starEach es X.env)).any (·.1)=false:=by rfl)
  (ht:eval (.Call (.Attribute o m apos) (e::es) [] pos) X.env=(do
   let ov <- eval o X.env
   standAt apos.atName
   let (f,first) <- holding [ov] (getMethod ov m pl)
   callWith pos f first (backTo pos (starEach (e::es) X.env)) (backToKw pos (keywordEach [] X.env))):=by rfl):
  PE X (.Call (.Attribute o m apos) (e::es) [] pos) (Ľ C m sp dvs Ex ta t):=by
 refine .mk λb s σ H Q I h=>?_;refine W.methodCall_KW (pl:=pl) (thn (he b s σ H _ I h) λu p h'=>?_) ht;let⟨x,j,d,i,a,D,B,v,n,l,q⟩:=h';subst v;obtain rfl:u=Value.ref a:=i;refine j5 d n c hm l ?_
 refine W.callWith_K (first:=[.ref a]) (h₀:=X.base) I.ok.mod.kin hm.kp (thn (ha pos b p σ j _ d q) λus E ⟨vs,z,g,r,y⟩=>⟨g.kIn,?_⟩) hst hpl
 exact ycq (us:=.ref a::us) (vs:=.ref a::vs) F hr hb hd hc g (.cons rfl r) y
def zx{pl:Sem Bool}(he:PE X o ta)(c:Cls X.K C)(hm:Meth X.K C m f)(F:vn X.prog X.w X.K X.mg X.base (CXe X.prog X.w) k f fd ps sp)(hr:z7 k X.A)(hb:uo X.K fd ps ds)(hd:wu dvs ds)(hc:ě X Ex)
  (ht:eval (.Call (.Attribute o m apos) [] [] pos) X.env=(do
   let ov <- eval o X.env
   standAt apos.atName
   let (f,first) <- holding [ov] (getMethod ov m pl)
   callWith pos f first (backTo pos (starEach [] X.env)) (backToKw pos (keywordEach [] X.env))):=by rfl):
  PE X (.Call (.Attribute o m apos) [] [] pos) (Ľ C m sp dvs Ex ta ym9):=by
 refine .mk λb s σ H Q I h=>?_;refine W.methodCall_KW (pl:=pl) (thn (he b s σ H _ I h) λu n h'=>?_) ht;let⟨x,j,d,e,a,r,p,i,g,l,q⟩:=h';subst i;obtain rfl:u=Value.ref a:=e;refine j5 d g c hm l ?_
 exact W.callWith_K0 (first:=[.ref a]) d.kIn hm.kp (ycq (us:=[.ref a]) (vs:=[.ref a]) F hr hb hd hc d (.cons rfl .nil) q)
def yg0{σ:St}{H:Hp}{s:qa}{Q:VK}{us:Ξ}{vs:Τ}(M:Mk X.K C f)(F:vn X.prog X.w X.K X.mg X.base (CXe X.prog X.w) k f fd ps sp)(hr:z7 (k+1) X.A)(hb:uo X.K fd ps ds)(hd:wu dvs ds)
  (hc:ě X Ex) (I:Inv X pins σ H s) (r:wu vs us)
  (h:∀x dx,H x=none->H dx=none->dx≠x->sp (.ref x::(vs++dvs)) (upd (upd H dx (.own x)) x (.ins C dx [])) (λv H2=>v=.non/\Q (.ref x) H2) (Ex σ)):
  wpAny (model X.prog X.w) X.A (call (.ref C) us) (EP X pins σ Q) X.xe s:=by
 have d:=h (s.heap.objs.size+1) s.heap.objs.size (I.hok.fresh (Nat.le_succ _)) (I.hok.fresh (bj _)) (bS (Nat.lt_succ_self _));have b:=Inv.made (C:=C) I;have c:wu (V.ref (s.heap.objs.size+1)::(vs++dvs)) (Value.ref (s.heap.objs.size+1)::(us++ds)):=.cons rfl (r.append hd)
 have i:(Value.ref (s.heap.objs.size+1)::us++ds).length=ps.length:=by
  have e:=c.length;rw[F.len _ _ _ _ d]at e;exact e.symm
 refine wpAny_call (ydw (f:=f) I.kIn M.makes M.init (beq_iff_eq.mp M.fn) (codeAny_mono (F.run _ X.stack _ _ ⟨Value.ref (s.heap.objs.size+1)::us,[]⟩ (Value.ref (s.heap.objs.size+1)::(us++ds)) _ _ (Ex σ) (hr.make C us [])
  (b.env0.make C us []) (hb _ (Value.ref (s.heap.objs.size+1)::us) b.kIn i) c d) λr o a=>?_))
 cases r with
 |error e=>exact b.came hc a
 |ok fl =>
  cases fl with
  |ret u =>
   let⟨v,n,j,l,g,m⟩:=b.after a;subst g;exists l,⟨V.ref (s.heap.objs.size+1),n,j,rfl,m⟩
  |next=>exact False.elim a
  |brk=>exact False.elim a
  |cont=>exact False.elim a
def uh(M:Mk X.K C f)(F:vn X.prog X.w X.K X.mg X.base (CXe X.prog X.w) k f fd ps sp)(hr:z7 (k+1) X.A)(hg:Gl X x)(hm:X.mg x=some (.ref C))(hb:uo X.K fd ps ds)(hd:wu dvs ds)(hc:ě X Ex)
  (ha:PA X (e::es) t) (hdb:(x == ("__debug__":Str))=false:=by decide) (he:starEach (e::es) X.env=(false,eval e X.env)::starEach es X.env:=by rfl) (hpl:(backTo pos (starEach es X.env)).any (·.1)=false:=by rfl):
  PE X (.Call (.Name x p) (e::es) [] pos) (ypk C sp dvs Ex t):=by refine .mk λa s σ H Q I h=>?_;refine wpAny_Call_Name_kw (jv I hg hm ?_ hdb);refine W.callWith_K (h₀:=X.base) I.ok.mod.kin M.kp (thn (ha pos a s σ H _ I h) λi g ⟨d,c,b,r,q⟩=>⟨b.kIn,?_⟩) he hpl;exact yg0 M F hr hb hd hc b r q
end
theorem PS.nox{X:Cx}{t:TS}(h:PS X.nox st t):PS X st t:=.mk λa s σ H D I b =>
 cJ (h a s σ H D (I.wish _) b) (λZ Z q=>q.unwish) λZ Z z=>False.elim z
section
variable{w:qd}{K:z3}{mg:Ε}{base:qf}
def vt{X:Cx}:ě X (λZ Z Z Z=>False):=λZ Z Z Z Z Z Z Z Z Z Z q=>q.elim
def Fun.okE{x:Str}{f:z4}{fd:FuncData}{N ps:Ρ}{k:Nat}{sp:Sp}(F:Fun K x qual st f fd)(S:yk N ps (yd st))(len:∀vs H Q E,sp vs H Q E->vs.length=ps.length)
  (hbody:∀(cdv:qb)(A:qe)(outer:qi Env)(s:qa)(H:Hp)(vs:Τ)(Q:VK)(E:XK),z7 k (A.deeper (envOfC qual (yd st) s.heap.objs.size f cdv))->sp vs H Q E ->
   ∃t,PSs (vo (CXe P w) P w K mg base N qual (yd st) f cdv A outer s H E) (xa st) t/\t { nx:=λZ H'=>Q .non H',rt:=Q} (æ N vs) H):vn P w K mg base (CXe P w) (k+1) f fd ps sp:=by let⟨m,h,kV,d,i,l,cdv,j,g,rfl,c,b⟩:=F.ex;exact ymt c b S len λA outer s H vs Q E e a=>hbody cdv A outer s H vs Q E e a
end
abbrev bmV:Ξ:=[.type "ValueError",.type "Exception",.type "BaseException",.type "object"]
abbrev XMk(K:z3)(C:z4):Prop:=W.excIn K C bmV "ValueError.__new__"=true
set_option tactic.hygienic true in
def yr1{K:z3}{h:qf}{bmB:Ξ}{newId:String}(X:K.In h)(q:W.excIn K C bmB newId=true):
  ∃bm N nm qn bs hdct sn sub ab col dd k0 k1 k2 k3 k5 mN,h.get? C=some (excClassObj nm qn C N bs bm hdct sn sub ab col dd k0 k1 k2 k3 k5 newId)/\h.Ns N mN/\mN "__init__"=none/\OwnTail h bmB bm:=by
 unfold W.excIn at q
 split at q
 .rename_i dd cd sl ho
  split at q
  .rename_i C' bm k0 k1 k2 k3 n k5 hm d
   simp only[bJ,beq_iff_eq,Bool.not_eq_true']at q;let⟨⟨⟨⟨⟨rfl,rfl⟩,a⟩,g⟩,b⟩,c⟩:=q;let⟨nm,bs,j,e,qn,i,sn,sub,ab,col,f⟩:=cd;dsimp only at hm a b c;subst hm a;let⟨l⟩:=sl;have d:l=[k0,k1,k2,k3,some (.builtin n),k5]:=d;subst d;exists bm,e,nm,qn,bs,i,sn,sub,ab,col,dd,k0,k1,k2,k3,k5,_,X _ _ ho,.of_isNs (W.isNs_of_in X b),W.nsMap_none_of_in X b c,W.tail_of_in X g
  .cases q
 .cases q
def yps(E:XK)(C:z4)(t:TA):TS:=λZ σ H=>t σ H λvs H1=>vs.length<=sizeLine/\E (.ref C) none H1
def vz{w:qd}{K:z3}{mg:Ε}{base:qf}{N:Ρ}{f:z4}{A:qe}{outer:qi Env}{s:qa}{H:Hp}{E:XK}
  {C:z4} {x:Str} {np cpos pos:Pos} {e₀:qg} {j3:qi qg} {t:TA} (hg:Gl (vo (CXe P w) P w K mg base N qual scope f cd A outer s H E) x) (hm:mg x=some (.ref C)) (hC:XMk K C)
  (ha:PA (vo (CXe P w) P w K mg base N qual scope f cd A outer s H E) (e₀::j3) t)
  (he:starEach (e₀::j3) (envOfC qual scope s.heap.objs.size f cd)=(false,eval e₀ (envOfC qual scope s.heap.objs.size f cd))::starEach j3 (envOfC qual scope s.heap.objs.size f cd):=by rfl)
  (hplain:(backTo cpos (starEach j3 (envOfC qual scope s.heap.objs.size f cd))).any (·.1)=false:=by rfl) (hdb:(x == ("__debug__":Str))=false:=by decide):
  PS (vo (CXe P w) P w K mg base N qual scope f cd A outer s H E) (.Raise (some (.Call (.Name x np) (e₀::j3) [] cpos)) none pos) (yps E C t):=by
 refine .mk λa k σ j D I h=>?_;let⟨o,p,nm,q,bs,hdct,sn,sub,ab,col,dd,k0,k1,k2,k3,k5,mN,g,n,d,T⟩:=yr1 I.mod.kin hC;refine wpAny_Raise_call_subT (C:=C) (nm:=nm) (q:=q) (N:=p) (bs:=bs) (bm:=o) (hdct:=hdct) (sn:=sn) (sub:=sub) (ab:=ab) (col:=col) (dd:=dd) (k0:=k0) (k1:=k1) (k2:=k2) (k3:=k3) (k5:=k5)
  F.excBase_ValueError (mN:=mN) (T.hasType F.excBase_ValueError.hasBase) (I.ok.hd rfl) (by
   show (backTo cpos (starEach (e₀::j3) (envOfC qual scope s.heap.objs.size f cd))).any (·.1)=false;rw[he];show (false || (backTo cpos (starEach j3 (envOfC qual scope s.heap.objs.size f cd))).any (·.1))=false;rw[hplain];rfl) d (jv I hg hm ⟨rfl,?_⟩ hdb)
 have i:=ha cpos a k σ j _ I h;have c:starEach (e₀::j3) (vo (CXe P w) P w K mg base N qual scope f cd A outer s H E).env=(false,eval e₀ (vo (CXe P w) P w K mg base N qual scope f cd A outer s H E).env)::starEach j3 (vo (CXe P w) P w K mg base N qual scope f cd A outer s H E).env:=he;rw[c]at i⊢;refine Calls.evalArgs_plain (cJ i (by rintro v s₂ ⟨G,z,b,r,l,u⟩;exact⟨rfl,by rw[<- r.length];exact l,b.bk _ _ g,n.keeps b.bk,T.keeps b.bk,λB y m=>ykg b m u⟩) λZ Z y=>y)
section
variable{X:Cx}{σ:St}{H:Hp}{s:qa}{T:z4}
noncomputable abbrev Cx.pnd(X:Cx)(pn:Θ):Cx:={X with pn:=pn}
theorem Cx.Ok.pnd(ok:X.Ok)(pn:Θ):(X.pnd pn).Ok :=
 ⟨ok.mod,ok.kind,ok.glob,ok.blt,ok.above,ok.inj,ok.has,ok.cab,ok.hd,ok.frames,ok.stk,ok.exf,ok.bs,ok.bsz,ok.noex,ok.exfs,ok.funs,ok.frf⟩
def Cx.Ok.unpnd{pn:Θ}(ok:(X.pnd pn).Ok):X.Ok :=
 ⟨ok.mod,ok.kind,ok.glob,ok.blt,ok.above,ok.inj,ok.has,ok.cab,ok.hd,ok.frames,ok.stk,ok.exf,ok.bs,ok.bsz,ok.noex,ok.exfs,ok.funs,ok.frf⟩
theorem Inv.pnd(I:Inv X pins σ H s):Inv (X.pnd (X.pn++pins)) [] σ H s :=
 ⟨I.ok.pnd _,I.os,I.bare,I.base,I.loc,I.cell,I.free,I.freeC,λp a=>I.pin p (by simpa using a),I.hok,I.len⟩
theorem Inv.unpnd{ps:Θ}(I:Inv (X.pnd (X.pn++pins)) ps σ H s):Inv X pins σ H s :=
 ⟨I.ok.unpnd,I.os,I.bare,I.base,I.loc,I.cell,I.free,I.freeC,λp a=>I.pin p (cC _ a),I.hok,I.len⟩
def XT(Y:Cx)(Ex:St->XK)(e:qb)(s':qa):Prop:=∃pins σ H x T C,e=.ref x/\Inv Y pins σ H s'/\Fy Y pins H x/\Fy Y pins H T/\Trd s'.heap x T C .none/\Ex σ C none H
noncomputable abbrev Cx.tr(X:Cx)(pn:Θ)(Ex:St->XK):Cx:=(X.pnd pn).wish (XT (X.pnd pn) Ex)
def ţ{pn:Θ}{Ex:St->XK}:ě (X.tr pn Ex) Ex:=λa σ H Z x T C I c b tr q=>⟨a,σ,H,x,T,C,rfl,I.unwish,c,b,tr,q⟩
noncomputable abbrev Cx.su(X:Cx)(pn:Θ)(x:z4):Cx:={X with A:=X.A.mark (some (.ref x)),calm:=false,pn:=pn,xe:=λZ Z=>False}
theorem Inv.su(I:Inv X pins σ H s)(x:z4):Inv (X.su (X.pn++pins) x) [] σ H s :=
 ⟨⟨I.ok.mod,I.ok.kind,I.ok.glob,I.ok.blt,I.ok.above,I.ok.inj,I.ok.has,I.ok.cab,λz=>(by cases z),I.ok.frames,I.ok.stk,I.ok.exf,I.ok.bs,I.ok.bsz,I.ok.noex,I.ok.exfs,I.ok.funs,I.ok.frf⟩,
  I.os,I.bare,I.base,I.loc,I.cell,I.free,I.freeC,λp a=>I.pin p (by simpa using a),I.hok,I.len⟩
def Inv.unsu(I:Inv (X.su (X.pn++pins) x) [] σ H s)(ok:X.Ok):Inv X pins σ H s :=
 ⟨ok,I.os,I.bare,I.base,I.loc,I.cell,I.free,I.freeC,λp a=>I.pin p (cC _ a),I.hok,I.len⟩
def Inv.track{o:HO}(I:Inv X pins σ H s)(hx:Fy X pins H x)(ob:xm X.prog X.w (upd H x o) s.heap x o):Inv X pins σ (upd H x o) s:=by
 have a:∀{b u},H b=some u->b≠x:=λ{b u}e z=>by rw[z,hx.1]at e;cases e
 exists I.ok,I.os,I.bare,⟨I.base.keep,I.base.slot,λb ob e n f=>?_,I.base.there,λb h e=>?_,λb ob u e=>?_,λb i e=>?_⟩,I.loc,I.cell,?_,λy c e=>?_,λp g=>?_,λb u e=>?_,I.len
 .rw[yq ?_]
  .exact I.base.free b ob e n f
  .rintro rfl;rcases hx.2.2.2.1 with z|z
   .exact f z
   .rw[e]at z;cases z
 .have q:=I.base.tups b h e;rw[yq (a q)];exact q
 .have q:=I.base.frzs b ob u e;rw[yq (a q)];exact q
 .obtain⟨d,q⟩:=I.base.tbls b i e;exists d,by rw[yq (a q)];exact q
 .rw[yq (Ne.symm hx.2.1)];exact I.free
 .rw[yq (hx.2.2.2.2.1 y c e)];exact I.freeC y c e
 .obtain⟨e,n,q⟩:=I.pin p g;exists e,by rw[yq (hx.2.2.2.2.2 p g)];exact n,q
 .by_cases hb:b=x
  .subst hb;rw[ya]at e;cases e;exact ob
  .rw[yq hb]at e;exact(I.hok b u e).stay (λZ Z Z q=>q) (λc q=>by rw[yq (a q)];exact q) λc h q=>by rw[yq (a q)];exact q
def Inv.unbind{A:qe}{n:Str}{pos:Pos}{Q:Unit->qa->Prop}(I:Inv X pins σ H s)(hN:X.N.Nodup)(hi:X.N[i]?=some n)(hl:X.env.scope.names.lookup n=some .local)
  (h:∀s',Inv X pins (σ.set i none) H s'->Q ⟨⟩ s'):wpAny M A (do bindName X.env n .none;unbindBehindTheSuite X.env n pos) Q E s:=by
 let⟨m,F,B⟩:=id I.loc;let⟨Y,_,_,O,_⟩:=id F;have a:∀b o,X.s₀.heap.get? b=some o->b≠X.env.locals:=λb o e=>bS (bU (br e) I.ok.above);refine wpAny_nameGoes_keeps hl F (by rw[I.ok.kind];rfl) λW v x f=>h _ ⟨I.ok,I.os,I.bare,⟨λb o e n w l=>?_,λb o e n w l=>?_,I.base.free,λb o e l=>?_,I.base.tups,I.base.frzs,I.base.tbls⟩,⟨_,x,λj y S g r P=>?_⟩,λy c e=>?_,I.free,I.freeC,λp U=>?_,λb u e=>?_,by simpa using I.len⟩
 .exact(f.2 b (a b o e)).trans (I.base.keep b o e n w l)
 .obtain⟨R,g⟩:=I.base.slot b o e n w l;exists R,(f.2 b (a b o e)).trans g
 .obtain⟨T,g⟩:=I.base.there b o e l;exists T,(f.2 b (a b o e)).trans g
 .by_cases hj:j=i
  .subst hj;have:j<σ.length:=by rw[I.len];exact(bL.mp hi).1
   rw[List.getElem?_set_self this]at r;cases r
  .rw[List.getElem?_set_ne (Ne.symm hj)]at r;let⟨J,G,q⟩:=B j y S g r P;exists J,G,?_;rcases q with⟨k,e⟩|⟨k,c,e,z⟩
   .have:y≠n:=λz=>hj (š hN g (z ▸ hi));exact .inl ⟨k,by simp[this,e]⟩
   .exact .inr ⟨k,c,e,z.sameBut f (I.cne y c e)⟩
 .obtain⟨D,z⟩:=I.cell y c e;exists D,z.sameBut f (I.cne y c e)
 .obtain⟨e,K,C,L,d⟩:=I.pin p U;exists(f.2 p.1 C).trans e,K,C,L,d
 .refine(I.hok b u e).stay (λc D t q=>(f.2 c ?_).trans q) (λZ q=>q) λZ Z q=>q;rintro rfl;rcases t with rfl|t
  .rw[I.free]at e;cases e
  .rw[I.free]at t;cases t
end
variable{X:Cx}
noncomputable def ł.un(D:ł)(i:Nat):ł:=⟨λσ H=>D.nx (σ.set i none) H,D.rt,λσ H=>D.bk (σ.set i none) H,λσ H=>D.ct (σ.set i none) H⟩
def exT(K:z3)(D:z4)(i:Nat)(ts:TS)(En:ł):St->XK:=λσ' C Z H'=>∀x,H' x=none->∃Ca,C=.ref Ca/\W.exmOne K (.ref Ca) (.ref D)=some true/\ts (En.un i) (σ'.set i (some (.ref x))) (upd H' x (.ext (Ź x Ca)))
def vgj(K:z3)(D:z4)(i:Nat)(tb:(St->XK)->TS)(ts:TS):TS:=λEn σ H=>tb (exT K D i ts En) En σ H
section
variable{body suite:qi qc}{b₀:qc}{tx n:Str}{np hpos pos:Pos}{tb:(St->XK)->TS}{ts:TS}
def ypr(hb:∀pn Ex,PSs (X.tr pn Ex) body (tb Ex))(hst:X.stack=X.env::X.outer/\X.env.frame=some X.env.locals)(hg:Gl X tx)(hm:X.mg tx=some (.ref D))
  (hs:∀pn x,PSs (X.su pn x) (b₀::suite) ts) (hN:X.N.Nodup) (hi:X.N[i]?=some n) (hl:X.env.scope.names.lookup n=some .local) (hdb:(tx == ("__debug__":Str))=false:=by decide):
  PS X (.Try body [.ExceptHandler (some (.Name tx np)) (some n) (b₀::suite) hpos] [] [] pos) (vgj X.K D i tb ts):=by
 refine .mk λa s σ H A I h=>?_
 have Y:∀{f s'},SP (X.tr (X.pn++a) (exT X.K D i ts A)) [] A f s'->SP X a A f s':=λ{f s'}q=>by
  cases f with
  |next=>let⟨σ',g,J,q⟩:=q;exact⟨σ',g,J.unwish.unpnd,q⟩
  |brk=>let⟨σ',g,J,q⟩:=q;exact⟨σ',g,J.unwish.unpnd,q⟩
  |cont=>let⟨σ',g,J,q⟩:=q;exact⟨σ',g,J.unwish.unpnd,q⟩
  |ret u=>let⟨v,σ',g,J,r,q⟩:=q;exists v,σ',g,J.unwish.unpnd,r,q
 refine wpAny_Try_except (cJ (hb (X.pn++a) (exT X.K D i ts A) [] s σ H A (I.pnd.wish _) h) (λf j q=>?_) λe j q=>?_)
 .have q:=Y q
  cases f with
  |next=>exact wpAny_execs_nil q
  |brk=>exact q
  |cont=>exact q
  |ret u=>exact q
 .obtain⟨ps,σ',g,x,T,C,rfl,J,d,c,tr,q⟩:=q;have J:Inv X a σ' g j:=J.unpnd;have d:Fy X a g x:=⟨d.1,d.2.1,d.2.2.1,d.2.2.2.1,d.2.2.2.2.1,λp hp=>d.2.2.2.2.2 p (cC _ hp)⟩;have c:Fy X a g T:=⟨c.1,c.2.1,c.2.2.1,c.2.2.2.1,c.2.2.2.2.1,λp hp=>c.2.2.2.2.2 p (cC _ hp)⟩;let⟨Ca,rfl,Q,q⟩:=q x d.1;let⟨a0,L⟩:=è (X:=X) tr;have fr:=J.ok.frames;rw[hst.1]at fr;have lf:=Ø (x:=x) (T:=T) J;rw[hst.1]at lf;refine wpAny_noteFrame_onW (base:=hid j X x T) fr lf hst.2 L Ù ym1 λh2 ⟨G,y,B,F⟩=>?_;rw[<- hst.1]at y;let⟨J,T2,c,tr⟩:=x8 J d c G y B F;let⟨a0,L⟩:=è (s:={j with heap:=h2}) (X:=X) tr;refine wpAny_setFlight_noneW (base:=hid {j with heap:=h2} X x T2) Ù (Ø J) L λO G y B F=>?_;let⟨J,T3,c,tr⟩:=x8 J d c G y B λb o e nf=>⟨o.slots,F b o e nf⟩;refine wpAny_handleBy_cons (codeAny_handlers_test (jv (J.su x) hg hm ?_ hdb)) (by intro z;cases z)
  have U:Ź x Ca O:=by
   let⟨oe,_,_,_,_,Z,P,_⟩:=id tr;exact⟨oe,Z,P.1⟩
  refine W.exm_one (M:=model X.prog X.w) (h:=O) J.kIn U.type Q _ _ _ _ (λR R z=>z) ?_;dsimp only[if_true];refine codeAny_handlers_suite_as ?_;let⟨a0,L⟩:=è (s:={j with heap:=O}) (X:=X) tr;refine wpAny_setFlight_noneW (base:=hid {j with heap:=O} X x T3) Ù (Ø J) L λh4 G y B F=>?_;let⟨J,T4,c,tr⟩:=x8 J d c G y B λb o e nf=>⟨o.slots,F b o e nf⟩
  have E:Ź x Ca h4:=by
   let⟨oe,_,_,_,_,Z,P,_⟩:=id tr;exact⟨oe,Z,P.1⟩
  have J:=J.track (o:=.ext (Ź x Ca)) d ⟨E,let ⟨S,z,_⟩:=E;⟨S,z⟩,λh1 h2 ⟨S,z1,z2⟩ k=>⟨S,k _ z1,z2⟩⟩;refine Ş (X:=X.su (X.pn++a) x) (i:=i) (v:=V.ref x) (J.su x) hN hi (Or.inl hl) rfl (λs5 J5=>?_) (Or.inr hl);refine cJ (hs (X.pn++a) x [] s5 _ _ (A.un i) J5 q) (λf s6 q=>?_) λR R z=>False.elim z
  cases f with
  |next=>let⟨σ6,t,l,q⟩:=q;exact(l.unsu I.ok).unbind hN hi hl λR m=>⟨_,t,m,q⟩
  |brk=>let⟨σ6,t,l,q⟩:=q;exact(l.unsu I.ok).unbind hN hi hl λR m=>⟨_,t,m,q⟩
  |cont=>let⟨σ6,t,l,q⟩:=q;exact(l.unsu I.ok).unbind hN hi hl λR m=>⟨_,t,m,q⟩
  |ret u=>let⟨v,σ6,t,l,r,q⟩:=q;exact(l.unsu I.ok).unbind hN hi hl λR m=>⟨v,_,t,m,r,q⟩
end
section
variable{σ:St}{H:Hp}{Q:VK}{tr:TA}{ta:TE}{nx:Ζ}{rt:VK}{bk ct:Ζ}{ts:TS}
def ytp{sp:Sp}{dvs:Τ}{Ex:St->XK}(h:tr σ H λvs H1=>sp (vs++dvs) H1 Q (Ex σ)):yjd sp dvs Ex tr σ H Q:=h
def Ů{m:Str}{sp:Sp}{dvs:Τ}{Ex:St->XK}(h:ta σ H λx H1=>∃a dx fs,x=.ref a/\H1 a=some (.ins C dx fs)/\fs.lookup m=none/\tr σ H1 λvs H2=>sp (x::(vs++dvs)) H2 Q (Ex σ)):Ľ C m sp dvs Ex ta tr σ H Q:=h
def ys8{sp:Sp}{dvs:Τ}{Ex:St->XK}(h:tr σ H λvs H1=>∀x dx,H1 x=none->H1 dx=none->dx≠x->sp (.ref x::(vs++dvs)) (upd (upd H1 dx (.own x)) x (.ins C dx [])) (λv H2=>v=.non/\Q (.ref x) H2) (Ex σ)):ypk C sp dvs Ex tr σ H Q:=h
def ysw{E:XK}{D:ł}(h:tr σ H λvs H1=>vs.length<=sizeLine/\E (.ref C) none H1):yps E C tr D σ H:=h
def ve5{K:z3}{tb:(St->XK)->TS}(h:tb (exT K D i ts ⟨nx,rt,bk,ct⟩) ⟨nx,rt,bk,ct⟩ σ H):vgj K D i tb ts ⟨nx,rt,bk,ct⟩ σ H:=h
def va5{K:z3}{d:qj z4}(he:W.exmOne K (.ref C) (.ref D)=some true)(h:∀x,H x=none->ts ⟨λσ H=>nx (σ.set i none) H,rt,λσ H=>bk (σ.set i none) H,λσ H=>ct (σ.set i none) H⟩ (σ.set i (some (.ref x))) (upd H x (.ext (Ź x C)))):
  exT K D i ts ⟨nx,rt,bk,ct⟩ σ (.ref C) d H:=λx a=>⟨C,rfl,he,h x a⟩
def vcc{K:z3}{cv:V}{c:qb}{k:Bool}(hx:H x=some (.ext (Ź x C)))(cl:XCls K C)(r:xl cv c)(u:∀u,xl cv u->u=c)(e:W.kitOne K (.ref C) c=some k)(h:Q (.bl k) H):ybn K [.ref x,cv] H Q:=⟨x,cv,C,c,k,rfl,r,u,hx,cl,e,h⟩
def jy{K:z3}{k:Bool}(hx:H x=some (.ext (Ź x C)))(cl:XCls K C)(e:W.kitOne K (.ref C) (.ref D)=some k)(h:Q (.bl k) H):ybn K [.ref x,.ref D] H Q:=vcc hx cl rfl (λZ z=>z) e h
def yn1{K:z3}{n:String}{k:Bool}(hx:H x=some (.ext (Ź x C)))(cl:XCls K C)(e:W.kitOne K (.ref C) (.type n)=some k)(h:Q (.bl k) H):ybn K [.ref x,.ty n] H Q:=vcc hx cl rfl (λZ z=>z) e h
end
section
variable{κ:Type}[DecidableEq κ]
noncomputable def jl(kvs:qi (κ×V))(k:κ):qj V:=(kvs.find? λkv=>decide (kv.1=k)).map (·.2)
noncomputable def Ż(kvs:qi (κ×V))(k:κ)(v:V):qi (κ×V) :=
 if (kvs.any λkv=>decide (kv.1=k))=true then kvs.map (λkv=>if kv.1=k then (kv.1,v)else kv)else kvs++[(k,v)]
noncomputable def ï(kvs:qi (κ×V))(k:κ):qi (κ×V):=kvs.filter λkv=>decide (kv.1≠k)
def uc{p:κ×V}{r:qi (κ×V)}{k:κ}(e:p.1=k):jl (p::r) k=some p.2:=by simp[jl,List.find?_cons,e]
def x9{p:κ×V}{r:qi (κ×V)}{k:κ}(e:¬p.1=k):jl (p::r) k=jl r k:=by simp[jl,List.find?_cons,e]
theorem γ(k:κ):∀kvs:qi (κ×V),(kvs.any λkv=>decide (kv.1=k))=(jl kvs k).isSome
 |[]=>rfl
 |p::r=>by
  rw[List.any_cons];by_cases e:p.1=k
  .simp only[uc e,bi e,Bool.true_or,Option.isSome_some]
  .rw[x9 e,be e,Bool.false_or];exact γ k r
theorem yd7(k j:κ)(y:V):∀kvs:qi (κ×V),jl (kvs.map λkv=>if kv.1=k then (kv.1,y)else kv) j=(jl kvs j).map λx=>if j=k then y else x
 |[]=>rfl
 |p::r=>by
  have a:=yd7 k j y r;rw[bR];by_cases h:p.1=k
  .rw[if_pos h];by_cases e:p.1=j
   .rw[uc (p:=(p.1,y)) e,uc e,cI,if_pos (e.symm.trans h)]
   .rw[x9 (p:=(p.1,y)) e,x9 e,a]
  .rw[if_neg h];by_cases e:p.1=j
   .rw[uc (p:=p) e,uc e,cI,if_neg (λz=>h (e.trans z))]
   .rw[x9 (p:=p) e,x9 e,a]
theorem yan(k j:κ)(y:V):∀kvs:qi (κ×V),jl kvs k=none->jl (kvs++[(k,y)]) j=if j=k then some y else jl kvs j
 |[],_=>by
  by_cases e:k=j
  .rw[if_pos e.symm];exact uc (p:=(k,y)) e
  .rw[if_neg (λz=>e z.symm)];exact x9 (p:=(k,y)) e
 |p::r,hn=>by
  rw[List.cons_append];have a:¬p.1=k:=λz=>by rw[uc z]at hn;cases hn
  rw[x9 a]at hn;have b:=yan k j y r hn;by_cases e:p.1=j
  .rw[uc e,uc e,if_neg (λz=>a (e.trans z))]
  .rw[x9 e,x9 e,b]
def Ŧ(kvs:qi (κ×V))(k j:κ)(y:V):jl (Ż kvs k y) j=if j=k then some y else jl kvs j:=by
 unfold Ż;by_cases a:(kvs.any λb=>decide (b.1=k))=true
 .rw[if_pos a,yd7];rw[γ]at a;by_cases e:j=k
  .obtain⟨x,c⟩:=Option.isSome_iff_exists.mp a;rw[if_pos e,e,c,cI,if_pos rfl]
  .rw[if_neg e]
   cases jl kvs j with
   |none=>rfl
   |some x=>rw[cI,if_neg e]
 .rw[if_neg a];refine yan k j y kvs ?_;rw[γ]at a
  cases q:jl kvs k with
  |none=>rfl
  |some x=>rw[q]at a;exact(a rfl).elim
def Ă(kvs:qi (κ×V))(k:κ)(v:V):(Ż kvs k v).length<=kvs.length+1:=by
 unfold Ż
 split
 .rw[bc];omega
 .rw[bf,bp,cg];omega
def Š{kvs:qi (κ×V)}{k:κ}(v:V)(h:jl kvs k=none):Ż kvs k v=kvs++[(k,v)]:=by unfold Ż;rw[γ,h];exact if_neg ∅
def ybm.isSome_eq{o:qj V}{u:qj qb}(r:ybm o u):o.isSome=u.isSome:=by
 cases o with
 |none=>cases u with
  |none=>rfl
  |some _=>exact(show False from r).elim
 |some _=>cases u with
  |none=>exact(show False from r).elim
  |some _=>rfl
def KV.val{kvs:qi (κ×V)}{vs:qi (κ×qb)}(r:KV kvs vs)(k:κ):ybm (jl kvs k) (valueAt vs k):=by
 unfold KV at r
 induction r with
 |nil=>exact True.intro
 | @cons p q ps qs h t ih =>
  let⟨c,d⟩:=h;by_cases e:p.1=k
  .have a:q.1=k:=c.symm.trans e;have b:valueAt (q::qs) k=some q.2:=by simp[valueAt,List.find?_cons,a]
   rw[uc e,b];exact d
  .have a:¬q.1=k:=λz=>e (c.trans z);have b:valueAt (q::qs) k=valueAt qs k:=by simp[valueAt,List.find?_cons,a]
   rw[x9 e,b];exact ih
theorem KV.any{kvs:qi (κ×V)}{vs:qi (κ×qb)}(r:KV kvs vs)(k:κ):(kvs.any λkv=>decide (kv.1=k))=vs.any λkv=>decide (kv.1=k):=by
 unfold KV at r
 induction r with
 |nil=>rfl
 |cons h t ih=>rw[List.any_cons,List.any_cons,ih,h.1]
def KV.repl{kvs:qi (κ×V)}{vs:qi (κ×qb)}(r:KV kvs vs)(k:κ){y:V}(ry:xl y u):
  KV (kvs.map λkv=>if kv.1=k then (kv.1,y)else kv) (vs.map λkv=>if kv.1=k then (kv.1,u)else kv):=by
 unfold KV at r⊢
 induction r with
 |nil=>exact .nil
 | @cons p q ps qs h t ih =>
  rw[bR,bR];refine .cons ?_ ih;let⟨a,b⟩:=h;by_cases e:p.1=k
  .rw[if_pos e,if_pos (a.symm.trans e)];exists a,ry
  .rw[if_neg e,if_neg (λz=>e (a.trans z))];exists a,b
def KV.put{kvs:qi (κ×V)}{vs:qi (κ×qb)}(r:KV kvs vs)(k:κ){y:V}(ry:xl y u):KV (Ż kvs k y) (stored vs k u):=by
 unfold Ż stored;rw[r.any k];by_cases e:(vs.any λa=>decide (a.1=k))=true
 .rw[if_pos e,if_pos e];exact r.repl k ry
 .rw[if_neg e,if_neg e];exact Paired.snoc r ⟨rfl,ry⟩
def KV.drop{kvs:qi (κ×V)}{vs:qi (κ×qb)}(r:KV kvs vs)(k:κ):KV (ï kvs k) (without vs k):=by
 unfold KV at r⊢;unfold ï without
 induction r with
 |nil=>exact .nil
 | @cons p q ps qs h t ih =>
  let⟨c,d⟩:=h;rw[List.filter_cons,List.filter_cons];by_cases e:p.1=k
  .have a:¬decide (p.1≠k)=true:=by simp[e]
   have b:¬decide (q.1≠k)=true:=by simp[c.symm.trans e]
   rw[if_neg a,if_neg b];exact ih
  .have f:¬q.1=k:=λz=>e (c.trans z);have a:decide (p.1≠k)=true:=by simp[e]
   have b:decide (q.1≠k)=true:=by simp[f]
   rw[if_pos a,if_pos b];exact .cons ⟨c,d⟩ ih
theorem KV.length{kvs:qi (κ×V)}{vs:qi (κ×qb)}(r:KV kvs vs):kvs.length=vs.length:=Paired.length r
def yk4(kvs:qi (κ×V))(k:κ):(ï kvs k).length<=kvs.length:=List.length_filter_le _ _
end
def yf4{w:qd}{k:Key}(r:xl (kV k) u):(wv P w).is k u=true:=by
 cases k with
 |inl i=>let⟨t,e⟩:=(show ∃t,u=Value.int i t from r);subst e;exact ybz P w i t
 |inr x=>let⟨t,e⟩:=(show ∃t,u=Value.str x t from r);subst e;exact ybv P w x t
theorem ya7{w:qd}:∀{ks:qi Key}{us:Ξ},wu (ks.map kV) us->ItemsAre (wv P w) ks us
 |[],_,r=>by rw[List.map_nil]at r;cases r;exact .nil
 |k::ks,_,r=>by
  rw[bR]at r
  cases r with
  |cons h t=>exact .cons (yf4 h) (ya7 t)
abbrev KT(H:Hp):qi (qi Key×V)->qi (qi Key×z4×qb)->Prop:=Paired λp q=>p.1=q.1/\H q.2.1=some (.tup (p.1.map kV))/\xl p.2 q.2.2
def KT.val{H:Hp}{kvs:qi (qi Key×V)}{xs:qi (qi Key×z4×qb)}(r:KT H kvs xs)(k:qi Key):ybm (jl kvs k) ((atKey xs k).map (·.2)):=by
 induction r with
 |nil=>exact True.intro
 | @cons p q ps qs h t ih =>
  let⟨c,_,d⟩:=h;by_cases e:p.1=k
  .have a:q.1=k:=c.symm.trans e;have b:atKey (q::qs) k=some q.2:=by simp[atKey,List.find?_cons,a]
   rw[uc e,b];exact d
  .have a:¬q.1=k:=λz=>e (c.trans z);have b:atKey (q::qs) k=atKey qs k:=by simp[atKey,List.find?_cons,a]
   rw[x9 e,b];exact ih
def KT.repl{H:Hp}{kvs:qi (qi Key×V)}{xs:qi (qi Key×z4×qb)}(r:KT H kvs xs)(k:qi Key){y:V}(ry:xl y u):
  KT H (kvs.map λkv=>if kv.1=k then (kv.1,y)else kv) (xs.map (putAt k u)):=by
 induction r with
 |nil=>exact .nil
 | @cons p q ps qs h t ih =>
  rw[bR,bR];refine .cons ?_ ih;let⟨a,b,c⟩:=h;unfold putAt;by_cases e:p.1=k
  .rw[if_pos e,if_pos (a.symm.trans e)];exact⟨a,b,ry⟩
  .rw[if_neg e,if_neg (λz=>e (a.trans z))];exact⟨a,b,c⟩
def KT.put{H:Hp}{kvs:qi (qi Key×V)}{xs:qi (qi Key×z4×qb)}(r:KT H kvs xs)(k:qi Key){b:z4}{y:V}(hb:H b=some (.tup (k.map kV)))(ry:xl y u):
  KT H (Ż kvs k y) (storedH xs k b u):=by
 have e:(kvs.any λa=>decide (a.1=k))=(atKey xs k).isSome:=by
  rw[γ,(r.val k).isSome_eq,Option.isSome_map]
 unfold Ż storedH;rw[e];by_cases q:(atKey xs k).isSome=true
 .rw[if_pos q,if_pos q];exact r.repl k ry
 .rw[if_neg q,if_neg q];exact Paired.snoc r ⟨rfl,hb,ry⟩
def KT.keeps{H H':Hp}{kvs:qi (qi Key×V)}{xs:qi (qi Key×z4×qb)}(r:KT H kvs xs)(ht:∀b ys,H b=some (.tup ys)->H' b=some (.tup ys)):KT H' kvs xs :=
 Paired.mapP r λZ Z z=>⟨z.1,ht _ _ z.2.1,z.2.2⟩
section
variable{w:qd}{H:Hp}{h:qf}
def vdz{u:HO}(ok:HOk P w H h)(e:Rd H a u):xm P w H h a u:=e.ok ok
def yc9{kvs:qi (Key×V)}(ok:HOk P w H h)(e:Rd H a (.dK kvs)):kvs.length<=sizeLine/\(a == sysModules)=false/\∃vs,KV kvs vs/\h.DictOf (wv P w) a vs :=
 show xm P w H h a (.dK kvs)from vdz ok e
def vbf{kvs:qi (Key×V)}(ok:HOk P w H h)(e:H a=some (.dK kvs)):kvs.length<=sizeLine/\(a == sysModules)=false/\∃vs,KV kvs vs/\h.DictOf (wv P w) a vs:=yc9 ok (.inl e)
def ybe{ks:qi Key}(ok:HOk P w H h)(e:H a=some (.tup (ks.map kV))):(tupleKind (wv P w)).is h ks a:=by let⟨_,b,r,o,f,c,n,d⟩:=(show xm P w H h a (.tup (ks.map kV))from ok a _ e);exists o,b.toArray,n,f,c,d,by simpa using ya7 r
def yf6{kvs:qi (qi Key×V)}(ok:HOk P w H h)(e:Rd H a (.dT kvs)):kvs.length<=sizeLine/\(a == sysModules)=false/\
  ∃xs,KT H kvs xs/\h.DictOfH (tupleKind (wv P w)) a xs:=by
 let⟨z,y,xs,r,o,k,i,n,d,j,f,g⟩:=(show xm P w H h a (.dT kvs)from vdz ok e);exists z,y,xs,r,o,k,i,n,d,j,f,λx b=>?_,g
 have c:∀{l:qi (qi Key×V)}{m:qi (qi Key×z4×qb)},KT H l m->∀x∈m,(tupleKind (wv P w)).is h x.1 x.2.1:=by
  intro l m q
  induction q with
  |nil=>intro x b;exact nomatch b
  | @cons p q ps qs hq t ih =>
   intro x b;rcases bw.mp b with e|b
   .subst e;exact ybe ok (by rw[<- hq.1];exact hq.2.1)
   .exact ih x b
 exact c r x b
def ves{kvs:qi (qi Key×V)}(ok:HOk P w H h)(e:H a=some (.dT kvs)):kvs.length<=sizeLine/\(a == sysModules)=false/\
  ∃xs,KT H kvs xs/\h.DictOfH (tupleKind (wv P w)) a xs:=yf6 ok (.inl e)
end
def Ł(H:Hp)(a:z4)(y:V)(r:qj V):Prop :=
 (∃kvs k,Rd H a (.dK kvs)/\y=kV k/\r=jl kvs k)\/∃kvs k b,Rd H a (.dT kvs)/\y=.ref b/\H b=some (.tup (k.map kV))/\r=jl kvs k
def ym3(H:Hp)(a:z4)(y v:V)(H':Hp):Prop :=
 (∃kvs k,H a=some (.dK kvs)/\y=kV k/\kvs.length<sizeLine/\H'=upd H a (.dK (Ż kvs k v))) \/
 ∃kvs k b,H a=some (.dT kvs)/\y=.ref b/\H b=some (.tup (k.map kV))/\kvs.length<sizeLine/\H'=upd H a (.dT (Ż kvs k v))
theorem Ł.k{H:Hp}{kvs:qi (Key×V)}{k:Key}(e:H a=some (.dK kvs)):Ł H a (kV k) (jl kvs k):=.inl ⟨kvs,k,.inl e,rfl,rfl⟩
def Ł.t{H:Hp}{b:z4}{kvs:qi (qi Key×V)}{k:qi Key}(e:H a=some (.dT kvs))(eb:H b=some (.tup (k.map kV))):Ł H a (.ref b) (jl kvs k):=.inr ⟨kvs,k,b,.inl e,rfl,eb,rfl⟩
theorem ym3.k{H:Hp}{kvs:qi (Key×V)}{k:Key}{v:V}(e:H a=some (.dK kvs))(hl:kvs.length<sizeLine):ym3 H a (kV k) v (upd H a (.dK (Ż kvs k v))):=.inl ⟨kvs,k,e,rfl,hl,rfl⟩
def ym3.t{H:Hp}{b:z4}{kvs:qi (qi Key×V)}{k:qi Key}{v:V}(e:H a=some (.dT kvs))(eb:H b=some (.tup (k.map kV)))(hl:kvs.length<sizeLine):
  ym3 H a (.ref b) v (upd H a (.dT (Ż kvs k v))):=.inr ⟨kvs,k,b,e,rfl,eb,hl,rfl⟩
section
variable{σ:St}{H:Hp}{s:qa}{y v:V}{r:qb}{o:qj V}{A:qe}
def Inv.big(I:Inv X pins σ H s):sysModules<s.heap.objs.size:=by have h:mainGlobals<s.heap.objs.size:=(I.mod.glob.keeps I.bk).lt;exact Nat.lt_trans ∅ h
def yg6(hu:A.units+1<cLine)(I:Inv X pins σ H s)(g:Ł H a y (some v))(ry:xl y u)(h:∀w' s',Inv X pins σ H s'->xl v w'->Q w' s'):
  wpAny (model X.prog X.w) A (getItem (.ref a) u) Q E s:=by
 rcases g with⟨j,k,e,m,l⟩|⟨j,k,b,e,m,q,l⟩
 .subst m;let⟨z,x,r,d,i⟩:=yc9 I.hok e;let⟨w',n,c⟩:=ybm.some_of (v:=v) (o:=valueAt r k) (by rw[l];exact d.val k);exact wpAny_getItem_of (yf4 ry) i.mapOf n (h w' _ (I.tok _) c)
 .subst m;cases (show u=Value.ref b from ry);let⟨z,x,B,d,i⟩:=yf6 I.hok e;let⟨w',n,c⟩:=ybm.some_of (v:=v) (o:=(atKey B k).map (·.2)) (by rw[l];exact d.val k);let⟨p,t,f⟩:=Option.map_eq_some_iff.mp n;refine wpAny_getItem_heap (tupleKind_room_in1 hu) (ybe I.hok q) i t ?_;rw[f];exact h w' _ (I.tok _) c
def vhv(hu:A.units+1<cLine)(I:Inv X pins σ H s)(g:Ł H a y o)(ry:xl y u)(h:∀s',Inv X pins σ H s'->Q (.bool o.isSome) s'):
  wpAny (model X.prog X.w) A (compareOp .In u (.ref a)) Q E s:=by
 rcases g with⟨f,k,e,i,l⟩|⟨f,k,b,e,i,m,l⟩
 .subst i;let⟨z,j,n,c,d⟩:=yc9 I.hok e;refine wpAny_in_of (yf4 ry) j d.mapOf ?_;rw[<- (c.val k).isSome_eq,<- l];exact h _ (I.tok _)
 .subst i;cases (show u=Value.ref b from ry);let⟨z,j,p,c,d⟩:=yf6 I.hok e;refine wpAny_in_heap (tupleKind_room_in1 hu) (ybe I.hok m) j d ?_;have q:=(c.val k).isSome_eq;rw[Option.isSome_map]at q;rw[<- q,<- l];exact h _ (I.tok _)
def yrc(hu:A.units+1<cLine)(I:Inv X pins σ H s)(g:Ł H a y o)(ry:xl y u)(h:∀s',Inv X pins σ H s'->Q (.bool (!o.isSome)) s'):
  wpAny (model X.prog X.w) A (compareOp .NotIn u (.ref a)) Q E s:=by
 rcases g with⟨f,k,e,i,l⟩|⟨f,k,b,e,i,m,l⟩
 .subst i;let⟨z,j,n,c,d⟩:=yc9 I.hok e;refine wpAny_notIn_of (yf4 ry) j d.mapOf ?_;rw[<- (c.val k).isSome_eq,<- l];exact h _ (I.tok _)
 .subst i;cases (show u=Value.ref b from ry);let⟨z,j,p,c,d⟩:=yf6 I.hok e;refine wpAny_notIn_heap (tupleKind_room_in1 hu) (ybe I.hok m) j d ?_;have q:=(c.val k).isSome_eq;rw[Option.isSome_map]at q;rw[<- q,<- l];exact h _ (I.tok _)
def yc5{t':Nat}{ob:HO}(I:Inv X pins σ H s)(mu:Mut (H a))(hs:Heap.SameBut a s.heap h')(he:∃q,h'.get? a=some q)(new:xm X.prog X.w (upd H a ob) h' a ob):
  Inv X pins σ (upd H a ob) {s with heap:=h',toks:=t'} :=
 I.write (x:=a) (e:=a) mu (.inl rfl) (λb q c z=>(hs.2 b c).trans z) he new
def yqe{w:qd}{H':Hp}{kvs:qi (Key×V)}{vs:qi (Key×qb)}(z:kvs.length<=sizeLine)(hd:(a == sysModules)=false)(rel:KV kvs vs)(dd:h'.DictOf (wv P w) a vs):
  xm P w H' h' a (.dK kvs):=⟨z,hd,vs,rel,dd⟩
def yh3{H':Hp}{Q:Unit->qa->Prop}(hu:A.units+1<cLine)(I:Inv X pins σ H s)(g:ym3 H a y v H')(ry:xl y u)(rv:xl v r)(h:∀s',Inv X pins σ H' s'->Q ⟨⟩ s'):
  wpAny (model X.prog X.w) A (setItem (.ref a) u r) Q E s:=by
 rcases g with⟨d,k,e,o,l,B⟩|⟨d,k,b,e,o,C,l,B⟩
 .subst o B;let⟨z,n,O,f,t⟩:=vbf I.hok e;have x:O.length<=sizeLine:=by rw[<- f.length];exact z
  have m:(Ż d k v).length<=sizeLine:=by have:=Ă d k v;omega
  refine wpAny_setItem_pairs (hsz:=x) (yf4 ry) t λD i p=>h _ ?_;have K:∃q,D.get? a=some q:=let ⟨q,_,_,j,_⟩:=i;⟨q,j⟩;exact yc5 I (by rw[e];exact True.intro) p K (yqe m n (f.put k rv) i)
 .subst o B;cases (show u=Value.ref b from ry);let⟨z,n,M,f,t⟩:=ves I.hok e;have x:M.length<=sizeLine:=by rw[<- Paired.length f];exact z
  have m:(Ż d k v).length<=sizeLine:=by have:=Ă d k v;omega
  refine wpAny_setItem_heap (hsz:=x) (tupleKind_room_in1 hu) (ybe I.hok C) t λD i p=>h _ ?_;let⟨q,R,P,j,J,L,G,_,N⟩:=i;refine yc5 I (by rw[e];exact True.intro) p ⟨q,j⟩ ⟨m,n,_,(f.put k C rv).keeps λc S F=>?_,q,R,P,j,J,L,G,N⟩
  rw[yq (xr F e (λz=>nomatch z))]
  exact F
end
section
variable{σ:St}{H:Hp}{s:qa}{kvs:qi (Key×V)}{k:Key}{A:qe}
def vfp{v:V}{more:Ξ}(I:Inv X pins σ H s)(e:H a=some (.dK kvs))(ry:xl (kV k) u)(l:jl kvs k=some v)(hm:more=[]\/∃x,more=[x])
  (h:∀w' s',Inv X pins σ (upd H a (.dK (ï kvs k))) s'->xl v w'->Q w' s'):wpAny (model X.prog X.w) A (call (.builtin "dict.pop") (.ref a::u::more)) Q E s:=by
 let⟨z,p,f,b,g⟩:=vbf I.hok e;let⟨w',B,d⟩:=ybm.some_of (v:=v) (o:=valueAt f k) (by rw[<- l];exact b.val k)
 have n:(keyPart u).isSome=true:=by
  cases k with
  |inl i=>let⟨t,q⟩:=(show ∃t,u=Value.int i t from ry);subst q;rfl
  |inr x=>let⟨t,q⟩:=(show ∃t,u=Value.str x t from ry);subst q;rfl
 have j:argsOk "dict.pop" ⟨.ref a::u::more,[]⟩:=by
  rcases hm with q|⟨x,q⟩
  .subst q;exact PySem.F.args_dict_pop_2 _ _
  .subst q;exact PySem.F.args_dict_pop_3 _ _ _
 refine call_meetsIn PySem.F.slot_dict_pop g.typeIs PySem.F.entry_dict_pop j (meets_dict_pop_there (wv X.prog X.w) a (yf4 ry) more hm n)
  ⟨f,w',g,by rw[<- b.length];exact z,B,λr c y=>h w' _ ?_ d⟩
 have m:∃q,r.get? a=some q:=let ⟨q,_,_,hq,_⟩:=c;⟨q,hq⟩;exact yc5 I (by rw[e];exact True.intro) y m (yqe (bX (yk4 kvs k) z) p (b.drop k) c)
def vfc(I:Inv X pins σ H s)(e:Rd H a (.dK kvs))(h:∀t s',Inv X pins σ H s'->Q (.int kvs.length t) s'):wpAny (model X.prog X.w) A (call (.builtin "len") [.ref a]) Q E s:=by let⟨z,d,f,b,c⟩:=yc9 I.hok e;refine call_len_dict d c (by rw[<- b.length];rw[sizeLine_eq]at z;omega) ?_;rw[<- b.length];exact h _ _ (I.tok _)
end
def vgq(i:qg):Prop:=∀ov iv,subscripted i false ov iv=operate [ov,iv] (getItem ov iv)
def ysc{prog:qh}{w:qd}{A:qe}{s:qa}{env:Env}{value slice:qg}{pos:Pos}{T id:String} 
  (hl:typeLookup (.type T) "__getitem__"=pure (some (.builtin id))) (hs:vgq slice)
  (h:wpAny (model prog w) A (eval value env) (λo s₁=>wpAny (model prog w) A (eval slice env) (λi s₂=>s₂.TypeIs o T/\wpAny (model prog w) A (getItem o i) Q E s₂) E s₁) E s):
  wpAny (model prog w) A (eval (.Subscript value slice pos) env) Q E s:=by
 refine Subscript_ (cJ h (λo s₁ h₁=>cJ h₁ (λi s₂ h₂=>?_) λZ Z x=>x) λZ Z x=>x);let⟨b,h₂⟩:=h₂;unfold subscriptTail;refine bd ?_;rw[getitemInPython_of_ne b.not_modules];refine bd (wpAny_specialOf b hl ?_)
 have a:wpAny (model prog w) A (subscripted slice false o i) (λr s₃=>wpAny (model prog w) A (letTemporaryGo value o r >>=λZ=>pure r) Q E s₃) E s₂:=by
  rw[hs o i];exact wpAny_operating (cJ h₂ (λr s₃ h₃=>bd (wpAny_letTemporaryGo (bo h₃))) λZ Z x=>x)
 first
  |exact bo (bd a)
  |exact bd (bo (bd a))
  |exact bd a
def yb5{σ:St}{H:Hp}{s:qa}{y:V}{o:qj V}(I:Inv X pins σ H s)(g:Ł H a y o):s.TypeIs (.ref a) "dict":=by
 rcases g with⟨d,k,e,_,_⟩|⟨d,k,b,e,_,_,_⟩
 .obtain⟨_,_,h,_,c⟩:=yc9 I.hok e;exact c.typeIs
 .obtain⟨_,_,f,_,c⟩:=yf6 I.hok e;exact c.typeIs
def vdi(td ty:TE):TE:=λσ H Q=>td σ H λx H1=>ty σ H1 λy H2=>∃a v,x=.ref a/\Ł H2 a y (some v)/\Q v H2
def vgz(ty td:TE):TE:=λσ H Q=>ty σ H λy H1=>td σ H1 λx H2=>∃a o,x=.ref a/\Ł H2 a y o/\Q (.bl o.isSome) H2
def yin(ty td:TE):TE:=λσ H Q=>ty σ H λy H1=>td σ H1 λx H2=>∃a o,x=.ref a/\Ł H2 a y o/\Q (.bl (!o.isSome)) H2
def vb3(td ty tv:TE):TS:=λD σ H=>tv σ H λv H1=>td σ H1 λx H2=>ty σ H2 λy H3=>∃a H4,x=.ref a/\ym3 H3 a y v H4/\D.nx σ H4
section
variable{o i e value:qg}{pos pos' tpos:Pos}{td ty tv:TE}
def Ų(hu:X.A.units+1<cLine)(ho:PE X o td)(hi:PE X i ty)(hs:vgq i):PE X (.Subscript o i pos) (vdi td ty):=by refine .mk λb s σ H Q I h=>?_;refine ysc PySem.F.slot_dict_getitem.lookup hs (thn (ho b s σ H _ I h) λu j ⟨x,f,n,e,r⟩=>thn (hi b j σ f _ n r) λw t h'=>?_);let⟨y,l,d,p,a,v,k,g,q⟩:=h';subst k;obtain rfl:u=Value.ref a:=e;exists yb5 d g,yg6 hu d g p λz B m c=>⟨v,l,m,c,q⟩
def yvx(hu:X.A.units+1<cLine)(hi:PE X i ty)(ho:PE X o td):PC X .In i o (vgz ty td):=by intro b s σ H Q I h;refine thn (hi b s σ H _ I h) λv e ⟨y,d,l,p,r⟩=>thn (ho b e σ d _ l r) λu t h'=>?_;let⟨x,j,n,c,a,m,f,g,q⟩:=h';subst f;obtain rfl:u=Value.ref a:=c;exact vhv hu n g p λw k=>⟨.bl m.isSome,j,k,rfl,q⟩
def ybb(hu:X.A.units+1<cLine)(hi:PE X i ty)(ho:PE X o td):PC X .NotIn i o (yin ty td):=by intro b s σ H Q I h;refine thn (hi b s σ H _ I h) λv e ⟨y,d,l,p,r⟩=>thn (ho b e σ d _ l r) λu t h'=>?_;let⟨x,j,n,c,a,m,f,g,q⟩:=h';subst f;obtain rfl:u=Value.ref a:=c;exact yrc hu n g p λw k=>⟨.bl (!m.isSome),j,k,rfl,q⟩
def yi0(hu:X.A.units+1<cLine)(ho:PE X o td)(hi:PE X i ty)(hv:PE X value tv)(hs:swapsWith value (some (.Subscript o i pos')) pos.line X.env=pure false):
  PS X (.Assign [.Subscript o i pos'] value pos) (vb3 td ty tv):=by refine .mk λb s σ H D I h=>?_;refine wpAny_Assign_Subscript (thn (hv b s σ H _ I h) λr d ⟨v,p,t,l,C⟩=>thn (ho b d σ p _ t C) λu n ⟨x,j,w,c,B⟩=>thn (hi b n σ j _ w B) λE F h'=>?_) hs;let⟨y,J,f,e,a,z,k,g,q⟩:=h';subst k;obtain rfl:u=Value.ref a:=c;exact yh3 hu f g e l λG m=>⟨σ,z,m,q⟩
end
def ymn{w:qd}{H:Hp}(h:qf)(hb:sysModules<h.objs.size):xm P w H (h.push { cls:=.type "dict",data:=.dict #[]}) h.objs.size (.dK []) :=
 ⟨bN _,cS.mpr (Ne.symm (bS hb)),[],.nil,Heap.DictOf.new h⟩
def yl3{w:qd}{H:Hp}(h:qf)(hb:sysModules<h.objs.size):xm P w H (h.push { cls:=.type "dict",data:=.dict #[]}) h.objs.size (.dT []) :=
 ⟨bN _,cS.mpr (Ne.symm (bS hb)),[],.nil,_,#[],0,bx _ rfl,⟨rfl,rfl,rfl⟩,rfl,rfl,List.nodup_nil⟩
def ypw:TE:=λZ H Q=>∀p,H p=none->Q (.ref p) (upd H p (.dK []))
def ynu:TE:=λZ H Q=>∀p,H p=none->Q (.ref p) (upd H p (.dT []))
section
variable{pos:Pos}
def ymp:PE X (.Dict [] [] pos) ypw:=.mk λb s σ H Q I h =>
 wpAny_Dict_empty ⟨.ref s.heap.objs.size,_,I.laid (a:=s.heap.objs.size) (o:=.dK []) (t':=s.toks) (λZ Z q=>bh _ q) (bj _) (ymn s.heap I.big),rfl,h _ (I.hok.fresh (bj _))⟩
def ykb:PE X (.Dict [] [] pos) ynu:=.mk λb s σ H Q I h =>
 wpAny_Dict_empty ⟨.ref s.heap.objs.size,_,I.laid (a:=s.heap.objs.size) (o:=.dT []) (t':=s.toks) (λZ Z q=>bh _ q) (bj _) (yl3 s.heap I.big),rfl,h _ (I.hok.fresh (bj _))⟩
end
structure M1(X:Cx)(o:qg)(m:Str)(apos:Pos)(e:qg)(cpos:Pos):Prop where
 base:attributeBase o m X.env (eval o X.env)=eval o X.env
 few:((backTo cpos (starEach [e] X.env)).all (λx=>!x.1) && (backToKw cpos (keywordEach [] X.env)).all (λx=>x.1.isSome)
  && decide (([e]:qi qg).length+([]:qi Keyword).length+(if ([]:qi Keyword).isEmpty then 0 else 1)<30))=true
 line:(apos.endLine == cpos.line)=true
 trees:backTo cpos (starEach [e] X.env)=[(false,eval e X.env)]
structure M2(X:Cx)(o:qg)(m:Str)(apos:Pos)(e f:qg)(cpos:Pos):Prop where
 base:attributeBase o m X.env (eval o X.env)=eval o X.env
 few:((backTo cpos (starEach [e,f] X.env)).all (λx=>!x.1) && (backToKw cpos (keywordEach [] X.env)).all (λx=>x.1.isSome)
  && decide (([e,f]:qi qg).length+([]:qi Keyword).length+(if ([]:qi Keyword).isEmpty then 0 else 1)<30))=true
 line:(apos.endLine == cpos.line)=true
 trees:backTo cpos (starEach [e,f] X.env)=[(false,eval e X.env),(false,eval f X.env)]
def IsD(H:Hp)(a:z4):Prop:=(∃kvs,Rd H a (.dK kvs))\/∃kvs,Rd H a (.dT kvs)
def yyf{σ:St}{H:Hp}{s:qa}(I:Inv X pins σ H s)(d:IsD H a):
  s.TypeIs (.ref a) "dict"/\(∀b,Value.ref a=.ref b->∃ob,s.heap.get? b=some ob/\ob.dict=none)/\(a == sysModules)=false:=by
 rcases d with⟨g,e⟩|⟨g,e⟩
 .obtain⟨_,h,j,_,c⟩:=yc9 I.hok e;exists c.typeIs,λb q=>?_,h;cases q;let⟨ob,_,_,i,f,_⟩:=c;exact⟨ob,i,f.2.1⟩
 .obtain⟨_,h,k,_,c⟩:=yf6 I.hok e;exists c.typeIs,λb q=>?_,h;cases q;let⟨ob,_,_,i,f,_⟩:=c;exact⟨ob,i,f.2.1⟩
def yoq(td ty:TE):TE:=λσ H Q=>td σ H λx H1=>∃a,x=.ref a/\IsD H1 a/\ty σ H1 λy H2=>∃kvs k v,H2 a=some (.dK kvs)/\y=kV k/\jl kvs k=some v/\Q v (upd H2 a (.dK (ï kvs k)))
section
variable{o e f:qg}{apos cpos:Pos}{td ty tx:TE}
def ylu(ho:PE X o td)(he:PE X e ty)(m:M1 X o "pop" apos e cpos):PE X (.Call (.Attribute o "pop" apos) [e] [] cpos) (yoq td ty):=by refine .mk λb s σ H Q I h=>?_;refine wpAny_Call_method m.base m.few m.line PySem.F.plainAttrs_dict PySem.F.slot_dict_pop PySem.F.type_dict_pop (thn (ho b s σ H _ I h) λu j h'=>?_);let⟨x,w,f,g,a,q,d,D⟩:=h';subst q;obtain rfl:u=Value.ref a:=g;let⟨B,i,_⟩:=yyf f d;exists B,i,?_;rw[m.trees];refine Calls.callWith_builtin rfl (Calls.evalArgs_plain (Calls.spliced_cons (thn (he b j σ w _ f D) λE L ⟨y,K,z,p,n,k,v,A,t,l,C⟩=>Calls.spliced_nil ?_)));subst t;exact vfp z A p l (.inl rfl) λG J r c=>⟨v,_,r,c,C⟩
end
@[irreducible] def QE(X:Cx)(e:qg)(t:TE):Prop:=PE X e t
@[irreducible] def QSs(X:Cx)(st:qi qc)(t:TS):Prop:=PSs X st t
@[irreducible] def QS(X:Cx)(st:qc)(t:TS):Prop:=PS X st t
section
variable{e:qg}{te:TE}{pos:Pos}{ts us:TS}{j3:qi qc}
def yh{R:TS->Prop}(h1:PS X st ts)(h2:∃us,PSs X j3 us/\R (vf5 ts us)):∃t,PSs X (st::j3) t/\R t:=let ⟨_,a,b⟩:=h2;⟨_,yg h1 a,b⟩
end
theorem ŭ:∀{bs:qi Bool}{us:Ξ},wu (bs.map V.bl) us->us=bs.map Value.bool
 |[],_,.nil=>rfl
 |b::r,_,.cons a t=>by rw[show _=Value.bool b from a,ŭ t];rfl
def yhs(bs:qi Bool):((List.range bs.length).all λi=>(bs[i]?).getD true)=bs.all id:=by
 rw[Bool.eq_iff_iff,List.all_eq_true,List.all_eq_true]
 constructor
 .intro h b c;let⟨i,a,rfl⟩:=List.getElem_of_mem c;have:=h i (cn.mpr a);rw[bg a]at this;exact this
 .intro h i a;have a:=cn.mp a;rw[bg a];exact h _ (cu a)
def z9(hc:X.calm=true):jd X (.builtin "all") (λxs H Q=>∃p bs,xs=[.ref p]/\SqL X.K H p (List.map V.bl bs)/\Q (.bl (bs.all id)) H):=by
 intro g s σ H xs E Q I r h;let⟨p,bs,rfl,t,q⟩:=h;let⟨u,rfl,j⟩:=î r;cases j;let⟨w,k,n,C⟩:=I.list t;obtain rfl:=ŭ k;have c:=n.isList;have f:p<s.heap.objs.size:=by let⟨_,e,_⟩:=c;exact br e
 refine call_all_walk (wpAny_pyIter_list c ?_)
 refine⟨s.heap.objs.size,[s.heap.objs.size,p],[s.heap.objs.size],(bs.map Value.bool).toArray.size,_,_,λi=>(bs[i]?).getD true,rfl,Walks.list (A:=X.A.in1) (show X.A.handled=none from I.ok.hd hc) _ p (bS f) (bs.map Value.bool).toArray,
  ⟨⟨_,bx _ rfl,rfl,rfl⟩,c.push _⟩,λi v z D y a d=>?_,λB m o=>?_⟩
 .have a:(bs.map Value.bool)[i]?=some v:=by simpa using a
  rw[bq]at a
  cases e:bs[i]? with
  |none=>rw[e]at a;cases a
  |some b =>
   dsimp only at d;rw[e]at a d;cases a;exact cF d
 .have e:((List.range (bs.map Value.bool).toArray.size).all λi=>(bs[i]?).getD true)=bs.all id:=by
   rw[bE,bc];exact yhs bs
  rw[e];exists .bl (bs.all id),H,I.kept (t':=m) λb x e=>o b x (λl=>?_) (bh _ e),rfl,q;rw[bA.mp l]at e;exact cQ _ (br e)
set_option tactic.hygienic true in
theorem zj{env:Env}:∀{names:qi (Str×NameKind)}{x:Str}{k:NameKind},
  (names.map λ(n,k)=>if (k == NameKind.free && env.scope.kind == .function && env.kindOf n == some .cell)then (n,NameKind.cell)else (n,k)).lookup x=some k->∃k0,(x,k0)∈names/\(k=k0\/k0=.free)
 |[],_,_,h=>by simp at h
 |(n,k1)::r,x,k,h=>by
  rw[bR]at h;by_cases hx:x=n
  .subst hx;exists k1,.head _,?_;dsimp only at h
   split at h
   .rename_i hc
    simp only[bJ,beq_iff_eq]at hc;exact .inr hc.1.1
   .simp[List.lookup]at h;exact .inl h.symm
  .have:(x == n)=false:=by simpa using hx
   have a:(r.map λ(n,k)=>if (k == NameKind.free && env.scope.kind == .function && env.kindOf n == some .cell)then (n,NameKind.cell)else (n,k)).lookup x=some k:=by
    dsimp only at h
    split at h<;>simpa[List.lookup,this]using h
   let⟨k0,m,q⟩:=zj a;exists k0,.tail _ m,q
noncomputable def Ğ(ys:Ρ)(env:Env):qi (Str×z4):=ys.map λy=>(y,(env.cells.lookup y).getD 0)
theorem ydk{env:Env}:∀{ys:Ρ}{y:Str}{c:z4},(Ğ ys env).lookup y=some c->y∈ys/\c=(env.cells.lookup y).getD 0
 |[],_,_,h=>by simp[Ğ]at h
 |z::r,y,c,h=>by
  by_cases hy:y=z
  .subst hy;simp[Ğ,List.lookup]at h;exists .head _,h.symm
  .have a:(y == z)=false:=by simpa using hy
   have b:(Ğ r env).lookup y=some c:=by simpa[Ğ,List.lookup,a]using h
   let⟨m,e⟩:=ydk b;exists .tail _ m,e
theorem ş{env:Env}:∀{ys:Ρ}{y:Str},y∈ys->(Ğ ys env).lookup y=some ((env.cells.lookup y).getD 0)
 |z::r,y,h=>by
  by_cases hy:y=z
  .subst hy;simp[Ğ,List.lookup]
  .have b:(y == z)=false:=by simpa using hy
   have a:y∈r:=by
    rcases bw.mp h with q|q
    .exact absurd q hy
    .exact q
   have:=ş (env:=env) a;simpa[Ğ,List.lookup,b]using this
abbrev Cx.compF(X:Cx)(scope:Scope)(ys:Ρ)(C:z4)(x:Str)(s2:qa)(H2:Hp)(fp:Υ):Cx :=
 {X with N:=x::ys,s₀:=s2,H₀:=H2,env:=compEnvC scope (Ğ ys X.env) C X.env,outer:=X.stack,ex:=fp,fn:=λZ=>false,pn:=[],xe:=λZ Z=>False}
def ut(J:It)(te:TE)(fr:St)(D:z4)(R:Hp->Prop)(H1:Hp):Prop:=∃W:Nat->Nat->Hp->Prop,(∃m,W 0 m (upd H1 D (.lst [])))/\
 ∀i m H2,W i m H2->(J.stop i H2/\R H2)\/(J.go i H2/\∀x H3,J.yld i H2 x H3->te (some x::fr) H3 λy H4=>∃ys,H4 D=some (.lst ys)/\ys.length<sizeLine/\∃m',m'<m/\W (i+1) m' (upd H4 D (.lst (ys++[y]))))
noncomputable def uw(js:qi Nat)(σ:St):St:=js.map λj=>(σ[j]?).getD none
def yi9(wi:TI)(te:TE)(js:qi Nat):TE:=λσ H Q=>wi σ H λJ H1=>∀D,H1 D=none->ut J te (uw js σ) D (λH2=>Q (.ref D) H2) H1
section
variable{iter elt:qg}{x:Str}{px pos:Pos}{te:TE}{wi:TI}{σ:St}{ys:Ρ}{js:qi Nat}
def ysr{H:Hp}{Q:VK}(h:wi σ H λJ H1=>∀D,H1 D=none->ut J te (uw js σ) D (λH2=>Q (.ref D) H2) H1):yi9 wi te js σ H Q:=h
def Į{K:z3}{xs:Τ}{fr:St}{R:Hp->Prop}{H1:Hp}(Pv:Nat->Hp->Prop)(h0:Pv 0 (upd H1 D (.lst [])))(hl:∀i H,i<=xs.length->Pv i H->SqL K H a xs)
  (hs:∀i x H,xs[i]?=some x->i<xs.length->Pv i H->te (some x::fr) H λy H4=>∃ys,H4 D=some (.lst ys)/\ys.length<sizeLine/\∃m',m'<xs.length-i/\cW xs.length Pv (i+1) m' (upd H4 D (.lst (ys++[y]))))
  (hd:∀H,Pv xs.length H->R H):ut (Itl K a) te fr D R H1:=by
 exists cW xs.length Pv,⟨xs.length,by simp,bN _,h0⟩,?_;rintro i m H ⟨rfl,b,p⟩;have q:=hl i H b p;by_cases hlt:i<xs.length
 .refine .inr ⟨⟨xs,xs[i],q,by simp[hlt]⟩,λx c y=>?_⟩;let⟨e,y⟩:=y;subst e;exact hs i x _ (y xs q) hlt p
 .have e:i=xs.length:=()
  subst e;exact .inl ⟨⟨xs,q,bj _⟩,hd H p⟩
def yce{lo:Int}{n:Nat}{fr:St}{R:Hp->Prop}{H1:Hp}(Pv:Nat->Hp->Prop)(h0:Pv 0 (upd H1 D (.lst [])))
  (hs:∀i H,i<n->Pv i H->te (some (.int (lo+i))::fr) H λy H4=>∃ys,H4 D=some (.lst ys)/\ys.length<sizeLine/\∃m',m'<n-i/\cW n Pv (i+1) m' (upd H4 D (.lst (ys++[y]))))
  (hd:∀H,Pv n H->R H):ut (Itr lo n) te fr D R H1:=by
 exists cW n Pv,⟨n,by simp,bN _,h0⟩,?_;rintro i m H ⟨rfl,a,p⟩;by_cases hlt:i<n
 .refine .inr ⟨hlt,λx b y=>?_⟩;let⟨e,y⟩:=y;subst e y;exact hs i _ hlt p
 .have e:i=n:=()
  subst e;exact .inl ⟨bj _,hd H p⟩
end
end L2
namespace L2
def ve{α:Type}{P:α->Prop}:∀y∈([]:qi α),P y:=λZ h=>nomatch h
def all_cons{α:Type}{P:α->Prop}{y:α}{r:qi α}(h:P y)(t:∀z∈r,P z):∀z∈y::r,P z:=λz a=>by
 rcases bw.mp a with e|a
 .exact e ▸ h
 .exact t z a
end L2
namespace L2
open PySem PySem.Spec PyProof.Rows
section
variable{X:Cx}
theorem yd3:∀{ns:Ο}{us:Ξ},wu (ns.map V.int) us->∃xs:Array (Int×Tok),us.toArray=intItems xs/\xs.toList.map (·.1)=ns
 |[],_,.nil=>⟨#[],by simp[intItems],rfl⟩
 |n::r,_,.cons (l₂:=us) a t=>by
  let⟨d,rfl⟩:=a;let⟨xs,c,b⟩:=yd3 t;exists((n,d)::xs.toList).toArray,?_,by simp[b]
  have:us=(intItems xs).toList:=by rw[<- c]
  rw[this];simp[intItems]
def Ò(hc:X.calm=true):jd X (.builtin "sum") (λvs H Q=>∃p ns,vs=[.ref p]/\SqL X.K H p (List.map V.int ns)/\Q (.int ns.sum) H):=by intro a s σ H v t Q I r h;let⟨p,ns,rfl,j,q⟩:=h;let⟨u,rfl,b⟩:=î r;cases b;let⟨i,k,d,n⟩:=I.list j;let⟨f,l,c⟩:=yd3 k;have e:s.heap.IsList p (intItems f):=l ▸ d.isList;refine sum_intListG (I.ok.hd hc) e λo m t' g=>?_;rw[preSum_eq,cE (by simp),c];exists .int ns.sum,H,I.kept (t':=m) g,⟨_,rfl⟩,q
end
variable{it:z4}{fp:Υ}{i:Nat}{tn:Nat->qf->Prop}{s2:qa}
section
variable{X:Cx}{e:qg}{t1 t2:TE}
def yuc(t1 t2:TE):TE:=λσ H Q=>t1 σ H Q\/t2 σ H Q
def yeu(h1:PE X e t1)(h2:PE X e t2):PE X e (yuc t1 t2):=by
 refine .mk λa s σ H Q I h=>?_;rcases h with h|h
 .exact h1 a s σ H Q I h
 .exact h2 a s σ H Q I h
def yed{σ:St}{H:Hp}{Q:VK}(h:t1 σ H Q):yuc t1 t2 σ H Q:=.inl h
def Ļ{σ:St}{H:Hp}{Q:VK}(h:t2 σ H Q):yuc t1 t2 σ H Q:=.inr h
end
def yp{H:Hp}{p:z4}{o:HO}{A:Hp->Prop}(hp:H p=none)(h:∀H',yv H H'->H' p=some o->A H'):A (upd H p o):=h _ (vg hp) ya
def yi{α:Type}{H:Hp}{p:z4}{o:HO}{A:Hp->α->Prop}{Q:α}(hp:H p=none)(h:∀H',yv H H'->H' p=some o->A H' Q):A (upd H p o) Q:=h _ (vg hp) ya
section
variable{K:z3}{a D:z4}{xs:Τ}{te:TE}{fr:St}{R:Hp->Prop}{H1:Hp}
def ya4(Pv:Nat->Hp->Prop)(h0:Pv 0 (upd H1 D (.lst [])))(hl:∀i H,i<=xs.length->Pv i H->SqT K H a xs)
  (hs:∀i x H,xs[i]?=some x->i<xs.length->Pv i H->te (some x::fr) H λy H4=>∃ys,H4 D=some (.lst ys)/\ys.length<sizeLine/\∃m',m'<xs.length-i/\cW xs.length Pv (i+1) m' (upd H4 D (.lst (ys++[y]))))
  (hd:∀H,Pv xs.length H->R H):ut (Itt K a) te fr D R H1:=by
 exists cW xs.length Pv,⟨xs.length,by simp,bN _,h0⟩,?_;rintro i m H ⟨rfl,b,p⟩;have q:=hl i H b p;by_cases hlt:i<xs.length
 .refine .inr ⟨⟨xs,xs[i],q,by simp[hlt]⟩,λx c y=>?_⟩;let⟨e,y⟩:=y;subst e;exact hs i x _ (y xs q) hlt p
 .have e:i=xs.length:=()
  subst e;exact .inl ⟨⟨xs,q,bj _⟩,hd H p⟩
def ykz(Pv:Nat->Hp->Prop)(h0:Pv 0 (upd H1 D (.lst [])))(hl:∀i H,i<=xs.length->Pv i H->SqT K H a xs)
  (hs:∀i x H,xs[i]?=some x->i<xs.length->Pv i H->te [some x] H λy H4=>∃ys,H4 D=some (.lst ys)/\ys.length<sizeLine/\∃m',m'<xs.length-i/\cW xs.length Pv (i+1) m' (upd H4 D (.lst (ys++[y]))))
  (hd:∀H,Pv xs.length H->R H):yeq (Itt K a) te D R H1:=by
 exists cW xs.length Pv,⟨xs.length,by simp,bN _,h0⟩,?_;rintro i m H ⟨rfl,b,p⟩;have q:=hl i H b p;by_cases hlt:i<xs.length
 .refine .inr ⟨⟨xs,xs[i],q,by simp[hlt]⟩,λx c y=>?_⟩;let⟨e,y⟩:=y;subst e;exact hs i x _ (y xs q) hlt p
 .have e:i=xs.length:=()
  subst e;exact .inl ⟨⟨xs,q,bj _⟩,hd H p⟩
def Mp(H1:Hp)(D:z4)(f:Nat->V)(i:Nat)(H:Hp):Prop:=yv H1 H/\H D=some (.lst ((List.range i).map f))
def Mp.zero{f:Nat->V}(hD:H1 D=none):Mp H1 D f 0 (upd H1 D (.lst [])):=⟨vg hD,ya⟩
def Mp.step{f:Nat->V}{n:Nat}{H4:Hp}{y:V}(hD:H1 D=none)(hn:n<sizeLine)(hi:i<n)(S:yv H1 H4)(h4:H4 D=some (.lst ((List.range i).map f)))(e:y=f i):
  ∃ys,H4 D=some (.lst ys)/\ys.length<sizeLine/\∃m',m'<n-i/\cW n (Mp H1 D f) (i+1) m' (upd H4 D (.lst (ys++[y]))):=by
 refine zy (n:=n) h4 (by rw[bc,bP];omega) hi ⟨?_,?_⟩
 .intro b o a;rw[yq (yb a hD)];exact S b o a
 .rw[ya,List.range_succ,bD,e];rfl
def đ{f:Nat->V}{g:V->V}(h:∀i x,xs[i]?=some x->f i=g x):(List.range xs.length).map f=xs.map g:=by
 refine List.ext_getElem? λi=>?_;rw[bq,bq];by_cases hi:i<xs.length
 .rw[cy hi,bg hi];show some (f i)=some (g xs[i]);rw[h i _ (bg hi)]
 .rw[bK (by rw[bP];omega),bK ()];rfl
noncomputable def ofG(g:V->V)(xs:Τ)(i:Nat):V:=((xs[i]?).map g).getD .non
def yew{g:V->V}{x:V}(h:xs[i]?=some x):ofG g xs i=g x:=by unfold ofG;rw[h];rfl
def MpK(H1:Hp)(D:z4)(f:Nat->V)(n i:Nat):VK:=λy H4=>∃ys,H4 D=some (.lst ys)/\ys.length<sizeLine/\∃m',m'<n-i/\cW n (Mp H1 D f) (i+1) m' (upd H4 D (.lst (ys++[y])))
def Mp.done{g:V->V}{x y:V}{H4:Hp}(hD:H1 D=none)(hn:xs.length<sizeLine)(hx:xs[i]?=some x)(S:yv H1 H4)(h4:H4 D=some (.lst ((List.range i).map (ofG g xs))))(e:y=g x):MpK H1 D (ofG g xs) xs.length i y H4:=by
 have a:i<xs.length:=by
  rcases Nat.lt_or_ge i xs.length with q|q
  .exact q
  .rw[bK q]at hx;cases hx
 exact Mp.step hD hn a S h4 (e.trans (yew hx).symm)
def Mp.doneR{f:Nat->V}{n:Nat}{y:V}{H4:Hp}(hD:H1 D=none)(hn:n<sizeLine)(hi:i<n)(S:yv H1 H4)(h4:H4 D=some (.lst ((List.range i).map f)))(e:y=f i):MpK H1 D f n i y H4:=Mp.step hD hn hi S h4 e
def τ(g:V->V)(hq:SqL K H1 a xs)(hD:H1 D=none)
  (hs:∀i x H,xs[i]?=some x->yv H1 H->H D=some (.lst ((List.range i).map (ofG g xs)))->te (some x::fr) H (MpK H1 D (ofG g xs) xs.length i))
  (hd:∀H,yv H1 H->H D=some (.lst (xs.map g))->R H):ut (Itl K a) te fr D R H1 :=
 Į (Mp H1 D (ofG g xs)) (Mp.zero hD) (λZ Z Z p=>p.1.seq hq) (λi x H b c p=>hs i x H b p.1 p.2)
  λH p=>hd H p.1 (by rw[<- đ (f:=ofG g xs) λi x=>yew];exact p.2)
def Ĳ(g:V->V)(hq:SqT K H1 a xs)(hD:H1 D=none)
  (hs:∀i x H,xs[i]?=some x->yv H1 H->H D=some (.lst ((List.range i).map (ofG g xs)))->te (some x::fr) H (MpK H1 D (ofG g xs) xs.length i))
  (hd:∀H,yv H1 H->H D=some (.lst (xs.map g))->R H):ut (Itt K a) te fr D R H1 :=
 ya4 (Mp H1 D (ofG g xs)) (Mp.zero hD) (λZ Z Z p=>p.1.tup hq) (λi x H b c p=>hs i x H b p.1 p.2)
  λH p=>hd H p.1 (by rw[<- đ (f:=ofG g xs) λi x=>yew];exact p.2)
def ygy(g:V->V)(hq:SqT K H1 a xs)(hD:H1 D=none)
  (hs:∀i x H,xs[i]?=some x->yv H1 H->H D=some (.lst ((List.range i).map (ofG g xs)))->te [some x] H (MpK H1 D (ofG g xs) xs.length i))
  (hd:∀H,yv H1 H->H D=some (.lst (xs.map g))->R H):yeq (Itt K a) te D R H1 :=
 ykz (Mp H1 D (ofG g xs)) (Mp.zero hD) (λZ Z Z p=>p.1.tup hq) (λi x H b c p=>hs i x H b p.1 p.2)
  λH p=>hd H p.1 (by rw[<- đ (f:=ofG g xs) λi x=>yew];exact p.2)
def jn{lo:Int}{n:Nat}(f:Nat->V)(hD:H1 D=none)
  (hs:∀i H,i<n->yv H1 H->H D=some (.lst ((List.range i).map f))->te (some (.int (lo+i))::fr) H (MpK H1 D f n i))
  (hd:∀H,yv H1 H->H D=some (.lst ((List.range n).map f))->R H):ut (Itr lo n) te fr D R H1 :=
 yce (Mp H1 D f) (Mp.zero hD) (λi H a p=>hs i H a p.1 p.2) λH p=>hd H p.1 p.2
end
structure Mk0(K:z3)(C:z4):Prop where
 makes:W.makesIn K C=true
 init:W.findIn K (.ref C) "__init__"=some (some (.builtin "object.__init__"))
 kp:W.keepIn K (.ref C)=true
abbrev Cx.compT(X:Cx)(scope:Scope)(ys:Ρ)(C:z4)(xs:Ρ)(s2:qa)(H2:Hp)(fp:Υ):Cx :=
 {X with N:=xs++ys,s₀:=s2,H₀:=H2,env:=compEnvC scope (Ğ ys X.env) C X.env,outer:=X.stack,ex:=fp,fn:=λZ=>false,pn:=[],xe:=λZ Z=>False}
variable{X:Cx}
def À(J:It)(g:TG)(te:TE)(n:Nat)(fr:St)(D:z4)(R:Hp->Prop)(H1:Hp):Prop:=∃W:Nat->Nat->Hp->Prop,(∃m,W 0 m (upd H1 D (.lst [])))/\
 ∀i m H2,W i m H2->(J.stop i H2/\R H2)\/(J.go i H2/\∀x H3 pre,J.yld i H2 x H3->List.length pre=n->g x (pre++fr) H3 λσ' H'=>(∃pre',List.length pre'=n/\σ'=pre'++fr)/\te σ' H' λy H4=>∃ys,H4 D=some (.lst ys)/\ys.length<sizeLine/\∃m',m'<m/\W (i+1) m' (upd H4 D (.lst (ys++[y]))))
def yjx(wi:TI)(g:TG)(te:TE)(n:Nat)(js:qi Nat):TE:=λσ H Q=>wi σ H λJ H1=>∀D,H1 D=none->À J g te n (uw js σ) D (λH2=>Q (.ref D) H2) H1
def PTs(X:Cx)(ifs:qi qg)(t:TT):Prop:=∀(pins:Θ)(s:qa)(σ:St)(H:Hp)(Q:Bool->Hp->Prop),Inv X pins σ H s->t σ H Q ->
 wpAny (model X.prog X.w) X.A (forIn ifs true λc r=>if r=true then do let ok <- isTrue c X.env (eval c X.env);pure (ForInStep.yield ok)else pure (ForInStep.yield r)) (TP X pins σ Q) X.xe s
def vgw:TT:=λZ H Q=>Q true H
def yr5:PTs X [] vgw:=λZ Z σ H Z I h=>bo ⟨H,I,h⟩
def ys1(J:It)(g:TG)(tt:TT)(te:TE)(n:Nat)(fr:St)(D:z4)(R:Hp->Prop)(H1:Hp):Prop:=∃W:Nat->Nat->Hp->Prop,(∃m,W 0 m (upd H1 D (.lst [])))/\
 ∀i m H2,W i m H2->(J.stop i H2/\R H2)\/(J.go i H2/\∀x H3 pre,J.yld i H2 x H3->List.length pre=n->g x (pre++fr) H3 λσ' H'=>(∃pre',List.length pre'=n/\σ'=pre'++fr)/\tt σ' H' λb H4=>if b=true then te σ' H4 (λy H5=>∃ys,H5 D=some (.lst ys)/\ys.length<sizeLine/\∃m',m'<m/\W (i+1) m' (upd H5 D (.lst (ys++[y]))))else ∃m',m'<m/\W (i+1) m' H4)
section
variable{iter elt tg:qg}{xs:Ρ}{g:TG}{pos:Pos}{scope:Scope}{te:TE}{wi:TI}{ifs:qi qg}{tt:TT}{pins:Θ}{σ:St}{ys:Ρ}{js:qi Nat}
def yfn{H2:Hp}{J:It}(hc:X.calm=true)
  (ht:∀(C:z4)(s2:qa)(H2:Hp)(fp:Υ),PTs (X.compT scope ys C xs s2 H2 fp) ifs tt) (he:∀(C:z4)(s2:qa)(H2:Hp)(fp:Υ),PE (X.compT scope ys C xs s2 H2 fp) elt te)
  (hgt:∀(C:z4)(s2:qa)(H2:Hp)(fp:Υ),PG (X.compT scope ys C xs s2 H2 fp) tg g)
  (hcell:∀y∈scope.names,y.2≠.cell) (hkind:scope.kind=.function)
  (hfr:∀y∈scope.names,y.2=.free->y.1∈ys) (hyc:∀y∈ys,X.env.kindOf y=some .cell) (hrel:∀y∈ys,(relabel scope X.env).names.lookup y=some .cell) (hjs:js.map (λj=>X.N[j]?)=ys.map some)
  (I2:Inv X pins σ H2 s2) (T:yga X.prog X.w X.K tg J fp it tn) (st2:tn 0 s2.heap) (f2:∀b∈fp,ye3 X pins H2 b)
  {R:z4->Hp->Prop} (h:∀D,H2 D=none->ys1 J g tt te xs.length (uw js σ) D (R D) H2) {RR:qb->z4->Result->qa->Prop} {E:Δ}
  (hR:∀(D C:z4)(H':Hp)(s':qa)(m:Ε),ye3 X pins H' C->s'.heap.Ns C m->Inv X pins σ H' s'->R D H'->RR (.ref D) C (.ok .next) s'):
  wpAny (model X.prog X.w) X.A (newList []) (λacc s₃=>wpAny (model X.prog X.w) X.A (newFunctionEnv scope X.env.globals (Ğ ys X.env) [] X.env.qual none .none (some X.env)) (λcenv s₄ =>
   codeAny (model X.prog X.w) X.A (.compStart (.ListComp elt [⟨tg,iter,ifs,0⟩] scope pos) 0 (.ref it) acc {cenv with scope:=relabel scope X.env}) (RR acc cenv.locals) s₄) E s₃) E s2:=by
 have k:∀y c,(Ğ ys X.env).lookup y=some c->X.env.cells.lookup y=some c:=λy c e=>by
  let⟨m,rfl⟩:=ydk e;let⟨c',q⟩:=I2.ok.has y (.inl (hyc y m));rw[q];rfl
 refine wpAny_newObj_type (wpAny_newFunctionEnv hcell (by intro y hy;simp at hy) (λh₁ hns₁ hsb₁=>?_) hkind);dsimp only at hns₁ hsb₁⊢;generalize Y:s2.heap.push { cls:=.type "list",dict:=none,data:=.seq ([]:Ξ).toArray}=G at hns₁ hsb₁⊢;have hC:G.objs.size=s2.heap.objs.size+1:=by rw[<- Y,Heap.size_push]
 have a0:s2.heap.objs.size≠G.objs.size:=by rw[hC];exact bS (Nat.lt_succ_self _)
 have O:s2.heap.objs.size<=G.objs.size:=by rw[hC];exact Nat.le_succ _
 have f:∀b,b<s2.heap.objs.size->b≠G.objs.size/\b≠s2.heap.objs.size:=λb a=>⟨by rw[hC];exact bS (Nat.lt_succ_of_lt a),bS a⟩;have F:∀b o,s2.heap.get? b=some o->h₁.get? b=some o:=λb o e=>hsb₁.extBut b o (f b (br e)).1 (bh _ (Y ▸ bh _ e));have a1:h₁.get? s2.heap.objs.size=some { cls:=.type "list",data:=.seq ([]:Ξ).toArray}:=hsb₁.extBut _ _ a0 (bh _ (Y ▸ bx _ rfl));have Z:∀b∈fp,b<s2.heap.objs.size:=λb a=>let ⟨_,e,_⟩:=T.obj 0 _ st2 b a;br e;have a7:∀b∈fp,b∉frs X.stack:=λb a z=>(bw.mp (I2.stkSub b z)).elim (f2 b a).2.1 (f2 b a).2.2.1;have nC:H2 G.objs.size=none:=I2.hok.fresh O;have nD:H2 s2.heap.objs.size=none:=I2.hok.fresh (bj _)
 have t:∀y c,(Ğ ys X.env).lookup y=some c->∃v o,s2.heap.get? c=some o/\o.data=.cell v:=λy c e=>by
  let⟨v,o,q1,q2⟩:=I2.cell y c (k y c e);exact⟨v,o,q1,q2⟩
 have ac:(X.compT scope ys G.objs.size xs s2 H2 fp).Ok:=by
  exists I2.ok.mod,hkind,I2.ok.glob,I2.ok.blt,O,λy z c e U=>I2.ok.inj y z c (k y c e) (k z c U),λy e=>?_,λy c z e=>(by cases z),I2.ok.hd,I2.ok.frames,.inl rfl,λb a=>⟨(f b (Z b a)).1,λy c e=>(f2 b a).2.2.2.2.1 y c (k y c e)⟩,I2.bs,?_,λb o e a=>?_,λb a=>a7 b a,I2.stack,I2.stkFree
  .have U:(relabel scope X.env).names.lookup y=some .cell\/(relabel scope X.env).names.lookup y=some .free:=e
   have aa:y∈ys:=by
    rcases U with U|U
    .obtain⟨k0,m,q⟩:=zj U;rcases q with q|q
     .exact absurd q.symm (hcell _ m)
     .exact hfr _ m q
    .obtain⟨k0,m,q⟩:=zj U;rcases q with q|q
     .exact hfr _ m q.symm
     .exact hfr _ m q
   exists _,ş aa
  .exact bX I2.ok.bsz I2.sz
  .rcases (f2 b a).2.2.2.1 with z|z
   .exact I2.ok.noex b o e z
   .exact absurd (bU (br (I2.ok.bs b o e).1) z) (cQ _)
 have a6:(uw js σ).length=ys.length:=by
  have:=congrArg List.length hjs;simpa[uw]using this
 have I3:∀tk,Inv (X.compT scope ys G.objs.size xs s2 H2 fp) [] (List.replicate xs.length none++uw js σ) (upd H2 s2.heap.objs.size (.lst [])) {s2 with heap:=h₁,toks:=tk}:=λtk =>
  ⟨ac,rfl,I2.bare,Un.laid F (bj _) nD,⟨_,hns₁,λi y v e1 P e3=>by
    by_cases hi0:i<xs.length
    .rw[List.getElem?_append_left (by simpa using hi0),List.getElem?_replicate,if_pos hi0]at P;cases P
    .obtain⟨i,rfl⟩:∃i',i=xs.length+i':=⟨i-xs.length,()⟩;have e1:ys[i]?=some y:=by rw[cK ()]at e1;simpa using e1
     have P:(uw js σ)[i]?=some (some v):=by rw[cK (by simp)]at P;simpa using P
     have hy:y∈ys:=bB e1;have S:=congrArg (λl=>l[i]?) hjs;simp only[bq,e1,cI]at S
     cases q:js[i]? with
     |none=>rw[q]at S;cases S
     |some j =>
      rw[q]at S;have S:X.N[j]?=some y:=by simpa using S
      have es:σ[j]?=some (some v):=by
       simp only[uw,bq,q,cI,Option.some.injEq]at P
       cases r:σ[j]? with
       |none=>rw[r]at P;cases P
       |some w'=>rw[r]at P;rw[show w'=some v from P]
      let⟨m0,_,a9⟩:=I2.loc;let⟨u,ru,lk⟩:=a9 j y v S es (.inr (.inl (hyc y hy)));exists u,ru,.inr ⟨.inl (hrel y hy),?_⟩;rcases lk with⟨k1,_⟩|⟨_,c,ec,o,ho,hd⟩
      .rw[hyc y hy]at k1;cases k1
      .exists c,?_,o,F c o ho,hd;show (Ğ ys X.env).lookup y=some c;rw[ş hy,ec]
       rfl⟩,λy c e=>(by
    let⟨v,o,q1,q2⟩:=t y c e
    exact⟨v,o,F c o q1,q2⟩),(by show upd H2 s2.heap.objs.size _ G.objs.size=none;rw[yq a0.symm];exact nC),λy c e=>(by
    let⟨v,o,q1,q2⟩:=t y c e;show upd H2 s2.heap.objs.size _ c=none;rw[yq (f c (br q1)).2]
    exact I2.freeC y c (k y c e)),λp hp=>(by simp at hp),
   I2.hok.laid F (bj _) ⟨bN _,[],_,.nil,a1⟩,by show (List.replicate xs.length none++uw js σ).length=(xs++ys).length;simp[a6]⟩
 have H:∀{H':Hp},(∀b∈fp,H' b=none)->∀b∈fp,ye3 (X.compT scope ys G.objs.size xs s2 H2 fp) [] H' b:=λhn b a=>⟨hn b a,(f b (Z b a)).1,a7 b a,.inl a,λy c e=>(f2 b a).2.2.2.2.1 y c (k y c e),λp hp=>(by simp at hp)⟩
 have Q:∀tk,codeAny (model X.prog X.w) X.A (.compLoop (.ListComp elt [⟨tg,iter,ifs,0⟩] scope pos) 0 (.ref it) (.ref s2.heap.objs.size) (compEnvC scope (Ğ ys X.env) G.objs.size X.env)) (RR (.ref s2.heap.objs.size) G.objs.size) {s2 with heap:=h₁,toks:=tk}:=by
  intro tk;let⟨W,⟨m0,w0⟩,a4⟩:=h s2.heap.objs.size nD;refine codeAny_loop rfl (λn s'=>∃i v H',List.length v=xs.length/\Inv (X.compT scope ys G.objs.size xs s2 H2 fp) [] (v++uw js σ) H' s'/\tn i s'.heap/\(∀b∈fp,H' b=none)/\W i n H') (λn s' hI=>?_) m0
   ⟨0,List.replicate xs.length none,_,by simp,I3 tk,T.keep 0 _ _ st2 (λb a o e=>F b o e),λb a=>(by rw[yq (f b (Z b a)).2];exact(f2 b a).1),w0⟩
  let⟨i,v,H',hv,I,st,fr,w⟩:=hI;show wpAny _ _ ((compTurn (.ListComp elt [⟨tg,iter,ifs,0⟩] scope pos) 0 (.ref it) (.ref s2.heap.objs.size) (compEnvC scope (Ğ ys X.env) G.objs.size X.env)).onRaise (λx=>do noteFrame x (compEnvC scope (Ğ ys X.env) G.objs.size X.env);theTreesLotGoes x)) _ _ s';refine wpAny_noted ?_;rw[compTurn_list];refine bd (wpAny_standAt (bd ?_));rcases a4 i n H' w with⟨a3,q⟩|⟨go,a5⟩
  .refine thn (T.done (X.compT scope ys G.objs.size xs s2 H2 fp) rfl rfl rfl hc i [] s' (v++uw js σ) H' _ I (H fr) st a3) λr s4 ⟨hr,I4⟩=>?_;subst hr;refine bo ?_;let⟨m,hn,_⟩:=I4.loc;exact hR _ _ H' s4 m (I2.fpOk O I4.free) hn (I2.call' (ch:=fp) I4.os I4.base I4.hok I4.bare λb a=>⟨(f2 b a).2.2.2.1,(f2 b a).2.1,(f2 b a).2.2.2.2.1,(f2 b a).2.2.2.2.2⟩) q
  .refine thn (T.item (X.compT scope ys G.objs.size xs s2 H2 fp) rfl rfl rfl hc i [] s' (v++uw js σ) H' _ I (H fr) st go) λr s4 ⟨u,hr,h4⟩=>?_;subst hr;refine bd (thn h4 λN s5 ⟨y,H5,I5,r5,y5,M,ab⟩=>bd ?_);have a8:=I5.pinned (H ab) (T.obj _ _ M);refine vd8 (hgt _ _ _ _ _ s5 (v++uw js σ) H5 y u _ a8 r5 (a5 y H5 v y5 hv)) λN s6 ⟨σ',H6,I6,⟨B,a2,ep⟩,q6⟩=>?_;subst ep;refine bd (vd8 (ht _ _ _ _ _ s6 (B++uw js σ) H6 _ I6 q6) λb s7 ⟨H7,I7,q7⟩=>?_)
   cases b with
   |false =>
    let⟨m',hm,w'⟩:=q7
    have L:∀b∈fp,∀o,s5.heap.get? b=some o->s7.heap.get? b=some o/\H7 b=none:=λb a o e =>
     ⟨(I7.pin (b,o) (bQ _ (bQ _ (uz a e)))).1,(I7.pin (b,o) (bQ _ (bQ _ (uz a e)))).2.1⟩
    refine bo ⟨rfl,m',hm,i+1,B,_,a2,I7.unpinned,T.keep _ _ _ M λb a o e=>(L b a o e).1,λb a=>?_,w'⟩;let⟨o,e,d⟩:=T.obj _ _ M b a;exact(L b a o e).2
   |true =>
    refine bd (bd (vd8 (he _ _ _ _ _ s7 (B++uw js σ) H7 _ I7 q7) λu2 s7 ⟨y2,H7,I7,r7,zs,hD,hl,m',hm,w'⟩=>bd ?_));refine vd8 (wy _ s7 (B++uw js σ) H7 (.ref s2.heap.objs.size) [y2] (.ref s2.heap.objs.size) [u2] (λN H8=>H8=upd H7 s2.heap.objs.size (.lst (zs++[y2]))) I7 rfl (.cons r7 .nil) ⟨_,zs,y2,rfl,rfl,hD,hl,rfl⟩) λN s8 h'=>?_;let⟨_,H8,I8,_,e8⟩:=h';subst e8
    have L:∀b∈fp,∀o,s5.heap.get? b=some o->s8.heap.get? b=some o/\upd H7 s2.heap.objs.size (HO.lst (zs++[y2])) b=none:=λb a o e =>
     ⟨(I8.pin (b,o) (bQ _ (bQ _ (uz a e)))).1,(I8.pin (b,o) (bQ _ (bQ _ (uz a e)))).2.1⟩
    refine bo (bo ⟨rfl,m',hm,i+1,B,_,a2,I8.unpinned,T.keep _ _ _ M λb a o e=>(L b a o e).1,λb a=>?_,w'⟩);let⟨o,e,d⟩:=T.obj _ _ M b a;exact(L b a o e).2
 exact codeAny_compStart_list (Q _) (T.self X.A 0 _ _ _ (T.keep 0 _ _ st2 (λb a o e=>F b o e)) (Q _))
def ã{H2:Hp}{J:It}(hc:X.calm=true)
  (he:∀(C:z4)(s2:qa)(H2:Hp)(fp:Υ),PE (X.compT scope ys C xs s2 H2 fp) elt te)
  (hgt:∀(C:z4)(s2:qa)(H2:Hp)(fp:Υ),PG (X.compT scope ys C xs s2 H2 fp) tg g)
  (hcell:∀y∈scope.names,y.2≠.cell) (hkind:scope.kind=.function)
  (hfr:∀y∈scope.names,y.2=.free->y.1∈ys) (hyc:∀y∈ys,X.env.kindOf y=some .cell) (hrel:∀y∈ys,(relabel scope X.env).names.lookup y=some .cell) (hjs:js.map (λj=>X.N[j]?)=ys.map some)
  (I2:Inv X pins σ H2 s2) (T:yga X.prog X.w X.K tg J fp it tn) (st2:tn 0 s2.heap) (f2:∀b∈fp,ye3 X pins H2 b)
  {R:z4->Hp->Prop} (h:∀D,H2 D=none->À J g te xs.length (uw js σ) D (R D) H2) {RR:qb->z4->Result->qa->Prop} {E:Δ}
  (hR:∀(D C:z4)(H':Hp)(s':qa)(m:Ε),ye3 X pins H' C->s'.heap.Ns C m->Inv X pins σ H' s'->R D H'->RR (.ref D) C (.ok .next) s'):
  wpAny (model X.prog X.w) X.A (newList []) (λacc s₃=>wpAny (model X.prog X.w) X.A (newFunctionEnv scope X.env.globals (Ğ ys X.env) [] X.env.qual none .none (some X.env)) (λcenv s₄ =>
   codeAny (model X.prog X.w) X.A (.compStart (.ListComp elt [⟨tg,iter,[],0⟩] scope pos) 0 (.ref it) acc {cenv with scope:=relabel scope X.env}) (RR acc cenv.locals) s₄) E s₃) E s2 :=
 yfn (tt:=vgw) hc (λZ Z Z Z=>yr5) he hgt hcell hkind hfr hyc hrel hjs I2 T st2 f2 (λD n=>by
  let⟨W,e,a⟩:=h D n;exists W,e,λi m H w=>(a i m H w).imp id λ⟨f,c⟩=>⟨f,λx l d y k=>?_⟩;exact c x l d y k) hR
def ydm(hc:X.calm=true)(hi:PI X tg iter wi)(he:∀(C:z4)(s2:qa)(H2:Hp)(fp:Υ),PE (X.compT scope ys C xs s2 H2 fp) elt te)(hjs:js.map (λj=>X.N[j]?)=ys.map some)
  (hgt:∀(C:z4)(s2:qa)(H2:Hp)(fp:Υ),PG (X.compT scope ys C xs s2 H2 fp) tg g)
  (hclos:closureFor scope X.env=pure (Ğ ys X.env)) (hyc:∀y∈ys,X.env.kindOf y=some .cell) (hrel:∀y∈ys,(relabel scope X.env).names.lookup y=some .cell)
  (hfr:∀y∈scope.names,y.2=.free->y.1∈ys:=by decide+kernel) (hcell:∀y∈scope.names,y.2≠.cell:=by decide+kernel) (hkind:scope.kind=.function:=by rfl)
  (hnames:∀y∈scope.names,y.2=.local->scope.names.lookup y.1=some .local:=by decide+kernel) (hs:∀x,foldedSetIterable iter X.env x=pure x:=by intro _;rfl):
  PE X (.ListComp elt [⟨tg,iter,[],0⟩] scope pos) (yjx wi g te xs.length js):=by refine .mk λa s σ H Q I h=>?_;rw[eval_ListComp];refine wpAny_comprehension_free (use:=none) rfl hs hclos hkind hnames (thn (hi a s σ H _ I h) λv E t=>thn t λB s2 i=>?_);let⟨K,fp,F,J,H2,e,n,T,c,l,h⟩:=i;subst e;refine ã (R:=λD d=>Q (.ref D) d) (RR:=compPost (model X.prog X.w) X.A X.xe none (EP X a σ Q)) hc he hgt hcell hkind hfr hyc hrel hjs n T c l h ?_;intro D C d z m f p r q;exists m,p,λG k=>⟨.ref D,d,?_,rfl,q⟩;exact r.turned (t':=z.toks) (λb o u e=>k.extBut b o u e) f.1 f.2.1 f.2.2.2.1 f.2.2.2.2.1 f.2.2.2.2.2
def yqu{H:Hp}{Q:VK}{n:Nat}(h:wi σ H λJ H1=>∀D,H1 D=none->À J g te n (uw js σ) D (λH2=>Q (.ref D) H2) H1):yjx wi g te n js σ H Q:=h
end
section
variable{iter elt:qg}{x:Str}{px pos:Pos}{scope:Scope}{te:TE}{wi:TI}{pins:Θ}{σ:St}{ys:Ρ}{js:qi Nat}
def Ţ{pre:qi (qj V)}{n:Nat}(h:List.length pre=n+1):∃v t,pre=v::t/\List.length t=n:=by
 cases pre with
 |nil=>cases h
 |cons v t=>exists v,t,rfl,Nat.succ.inj h
def yxk{J:It}{fr:St}{D:z4}{R:Hp->Prop}{H1:Hp}(h:ut J te fr D R H1):À J (x0 0) te 1 fr D R H1:=by let⟨W,d,e⟩:=h;exists W,d,λi m b w=>(e i m b w).imp id λ⟨f,y⟩=>⟨f,λx k j c g=>?_⟩;let⟨z,t,rfl,a⟩:=Ţ g;obtain rfl:=List.length_eq_zero_iff.mp a;exists⟨[some x],rfl,rfl⟩,y x k c
def ĵ{H2:Hp}{J:It}(hc:X.calm=true)
  (he:∀(C:z4)(s2:qa)(H2:Hp)(fp:Υ),PE (X.compF scope ys C x s2 H2 fp) elt te)
  (hcell:∀y∈scope.names,y.2≠.cell) (hkind:scope.kind=.function) (hx:scope.names.lookup x=some .local) (hnd:(x::ys).Nodup)
  (hfr:∀y∈scope.names,y.2=.free->y.1∈ys) (hyc:∀y∈ys,X.env.kindOf y=some .cell) (hrel:∀y∈ys,(relabel scope X.env).names.lookup y=some .cell) (hjs:js.map (λj=>X.N[j]?)=ys.map some)
  (I2:Inv X pins σ H2 s2) (T:yga X.prog X.w X.K (.Name x px) J fp it tn) (st2:tn 0 s2.heap) (f2:∀b∈fp,ye3 X pins H2 b)
  {R:z4->Hp->Prop} (h:∀D,H2 D=none->ut J te (uw js σ) D (R D) H2) {RR:qb->z4->Result->qa->Prop} {E:Δ}
  (hR:∀(D C:z4)(H':Hp)(s':qa)(m:Ε),ye3 X pins H' C->s'.heap.Ns C m->Inv X pins σ H' s'->R D H'->RR (.ref D) C (.ok .next) s'):
  wpAny (model X.prog X.w) X.A (newList []) (λacc s₃=>wpAny (model X.prog X.w) X.A (newFunctionEnv scope X.env.globals (Ğ ys X.env) [] X.env.qual none .none (some X.env)) (λcenv s₄ =>
   codeAny (model X.prog X.w) X.A (.compStart (.ListComp elt [⟨.Name x px,iter,[],0⟩] scope pos) 0 (.ref it) acc {cenv with scope:=relabel scope X.env}) (RR acc cenv.locals) s₄) E s₃) E s2 :=
 ã (tg:=.Name x px) (xs:=[x]) (g:=x0 0) hc he (λC s2 H2 fp=>wd (i:=0) hnd rfl (Or.inl (lookup_relabel_local hx)) (Or.inr (lookup_relabel_local hx))) hcell hkind hfr hyc hrel hjs I2 T st2 f2 (λD a=>yxk (h D a)) hR
def we(hc:X.calm=true)(hi:PI X (.Name x px) iter wi)(he:∀(C:z4)(s2:qa)(H2:Hp)(fp:Υ),PE (X.compF scope ys C x s2 H2 fp) elt te)(hjs:js.map (λj=>X.N[j]?)=ys.map some)
  (hclos:closureFor scope X.env=pure (Ğ ys X.env)) (hnd:(x::ys).Nodup:=by decide) (hyc:∀y∈ys,X.env.kindOf y=some .cell) (hrel:∀y∈ys,(relabel scope X.env).names.lookup y=some .cell)
  (hfr:∀y∈scope.names,y.2=.free->y.1∈ys:=by decide+kernel) (hcell:∀y∈scope.names,y.2≠.cell:=by decide+kernel) (hkind:scope.kind=.function:=by rfl)
  (hnames:∀y∈scope.names,y.2=.local->scope.names.lookup y.1=some .local:=by decide+kernel) (hx:scope.names.lookup x=some .local:=by rfl) (hs:∀x,foldedSetIterable iter X.env x=pure x:=by intro _;rfl):
  PE X (.ListComp elt [⟨.Name x px,iter,[],0⟩] scope pos) (yi9 wi te js):=by refine .mk λa s σ H Q I h=>?_;rw[eval_ListComp];refine wpAny_comprehension_free (use:=none) rfl hs hclos hkind hnames (thn (hi a s σ H _ I h) λv B r=>thn r λz s2 g=>?_);let⟨G,fp,E,J,H2,e,l,T,c,k,h⟩:=g;subst e;refine ĵ (R:=λD d=>Q (.ref D) d) (RR:=compPost (model X.prog X.w) X.A X.xe none (EP X a σ Q)) hc he hcell hkind hx hnd hfr hyc hrel hjs l T c k h ?_;intro D C d u m f n p q;exists m,n,λF i=>⟨.ref D,d,?_,rfl,q⟩;exact p.turned (t':=u.toks) (λb o t e=>i.extBut b o t e) f.1 f.2.1 f.2.2.2.1 f.2.2.2.2.1 f.2.2.2.2.2
def yd0{y:Str}{py spos:Pos}(hN:X.N.Nodup)(hy:X.N[i]?=some y)(hl:X.env.scope.names.lookup y=some .local)(hc:X.calm=true)(hi:PI X (.Name x px) iter wi)
  (he:∀(C:z4)(s2:qa)(H2:Hp)(fp:Υ),PE (X.compF scope ys C x s2 H2 fp) elt te) (hjs:js.map (λj=>X.N[j]?)=ys.map some)
  (hclos:closureFor scope X.env=pure (Ğ ys X.env)) (hyc:∀y∈ys,X.env.kindOf y=some .cell) (hrel:∀y∈ys,(relabel scope X.env).names.lookup y=some .cell)
  (hsw:swapsWith (.ListComp elt [⟨.Name x px,iter,[],0⟩] scope pos) (some (.Name y py)) spos.line X.env=pure true:=by rfl) (hnd:(x::ys).Nodup:=by decide)
  (hfr:∀y∈scope.names,y.2=.free->y.1∈ys:=by decide+kernel) (hcell:∀y∈scope.names,y.2≠.cell:=by decide+kernel) (hkind:scope.kind=.function:=by rfl)
  (hnames:∀y∈scope.names,y.2=.local->scope.names.lookup y.1=some .local:=by decide+kernel) (hx:scope.names.lookup x=some .local:=by rfl) (hs:∀x,foldedSetIterable iter X.env x=pure x:=by intro _;rfl):
  PS X (.Assign [.Name y py] (.ListComp elt [⟨.Name x px,iter,[],0⟩] scope pos) spos) (vd1 (yi9 wi te js) (x0 i)):=by
 refine .mk λa s σ H k I h=>?_;rw[exec_Assign_Name_used _ _ _ _ hsw];refine bd (wpAny_standAt (bd ?_));show wpAny _ X.A (do let _ <- comprehension (.ListComp elt [⟨.Name x px,iter,[],0⟩] scope pos) scope X.env _ (newList []) false (eval iter X.env) (some (assign (.Name y py) X.env))) _ _ s;refine bd (cJ (wpAny_comprehension_free (use:=some (assign (.Name y py) X.env)) (Q:=λZ d=>SP X a k .next d) rfl hs hclos hkind hnames (thn (hi a s σ H _ I h) λv O B=>thn B λE s2 K=>?_)) (λZ d L=>bo (bo L)) λZ Z e=>e);let⟨S,fp,P,J,H2,e,M,T,t,u,h⟩:=K;subst e;refine ĵ (R:=λD n=>x0 i (.ref D) σ n k.nx) (RR:=compPost (model X.prog X.w) X.A X.xe (some (assign (.Name y py) X.env)) (λZ d=>SP X a k .next d)) hc he hcell hkind hx hnd hfr hyc hrel hjs M T t u h ?_;intro D C n d m f G F q;refine wpAny_assign_Name (Č (v:=V.ref D) F hN hy (Or.inl hl) rfl (λr l g=>?_) (Or.inr hl));exists m,?_,λU p=>⟨_,n,?_,q⟩
 .obtain⟨b,p,c⟩:=g;refine G.sameBut p λz=>?_;rcases c with c|c
  .exact f.2.1 (z.trans c)
  .exact f.2.2.2.2.1 y b c z.symm
 .exact l.turned (t':=r.toks) (λb o c e=>p.extBut b o c e) f.1 f.2.1 f.2.2.2.1 f.2.2.2.2.1 f.2.2.2.2.2
end
end L2
namespace L2
open PySem PySem.Spec PyProof.Rows
variable{st:Int}
def vef(lo st:Int)(n:Nat):It:=⟨λi Z=>i<n,λi H x H'=>H'=H/\x=.int (lo+i*st),λi Z=>n<=i⟩
def ycb{P:qh}{w:qd}{K:z3}{tg:qg}(it:z4)(lo st:Int)(n:Nat):yga P w K tg (vef lo st n) [it] it (λi h=>IsRangeIter h it (lo+(i:Nat)*st) ((n:Int)-(i:Nat)) st) where
 mem:=by simp
 obj:=λi h st b c=>by
  have e:b=it:=by simpa using c
  subst e
  exact⟨_,st,λv z=>by
   have J:Data.fields _=Data.cell v:=z;cases J⟩
 keep:=λi h j st k=>k it (by simp) _ st
 item:=by
  intro X y u p A i a s σ H E I g d r;subst y u p;let⟨q,l,D,B,x,m⟩:=g it (by simp);have W:=Walks.range (prog:=X.prog) (w:=X.w) (I.ok.hd A) it lo st n;refine W.item i s _ _ r d λv j C M f G=>?_;let⟨t,rfl⟩:=M;have L:Inv X a σ H {s with heap:=j,toks:=C}:=I.turned (λb o c e=>G b o (by simpa using c) e) q l B x m;exists _,rfl,yf3 (s:={s with heap:=j,toks:=C}) (n:="range_iterator") f rfl rfl ∅ ⟨.int (lo+i*st),H,L,⟨t,rfl⟩,⟨rfl,rfl⟩,f,λb c=>(g b c).1⟩
 done:=by
  intro X y u p A i a s σ H E I g d r;subst y u p;let⟨q,l,D,B,x,m⟩:=g it (by simp);exact wpAny_pyNext_range_end (I.ok.hd A) d (by have:n<=i:=r;omega) λj F=>⟨rfl,I.turned (t':=s.toks) (λb o c e=>F b o c e) q l B x m⟩
 self:=λZ Z Z Z Z st h=>wpAny_pyIter_rangeiter st h
def rgN(lo hi st:Int):Nat:=if lo<hi then ((hi-lo-1)/st+1).toNat else 0
def you{lo hi:Int}(hs:0<st):((rgN lo hi st:Nat):Int)=Builtin.Range.rangeSize lo hi st:=by
 unfold rgN Builtin.Range.rangeSize;rw[if_pos (show st > 0 from hs)]
 split
 .have:0<=(hi-lo-1)/st:=Int.ediv_nonneg () ();omega
 .rfl
def yhc{lo hi:Int}(hs:0<st)(hs2:st<1000000)(h1:0<=lo)(h2:lo<100000000)(h3:0<=hi)(h4:hi<100000000):Builtin.Range.small lo hi st=true:=by
 have e:=you (lo:=lo) (hi:=hi) hs
 have f:(hi-lo-1)/st<=100000000:=Int.le_trans (Int.ediv_le_ediv hs (show hi-lo-1<=100000000*st by
  have:100000000*1<=100000000*st:=cz hs ∅;omega)) (by rw[Int.mul_ediv_cancel _ ()];exact Int.le_refl _)
 have b:((rgN lo hi st:Nat):Int)<=100000001:=by
  unfold rgN
  split
  .have:0<=(hi-lo-1)/st:=Int.ediv_nonneg () ();omega
  .decide
 have a:0<=((rgN lo hi st:Nat):Int):=Int.natCast_nonneg _;unfold Builtin.Range.small;rw[<- e];generalize ((rgN lo hi st:Nat):Int)=m at b a;have g:0<=m*st:=Int.mul_nonneg a ();have d:m*st<=100000001*1000000:=Int.mul_le_mul b () () ∅;have c:(m-1)*st=m*st-st:=by rw[Int.sub_mul,Int.one_mul]
 simp only[Builtin.Range.rangeFitsLong,bJ,Bool.or_eq_true,decide_eq_true_eq,beq_iff_eq,show st > 0 from hs,if_true];omega
section
variable{X:Cx}{tg:qg}
def vcj(ta:TA):TI:=λσ H R=>ta σ H λvs H1=>∃i j st:Int,vs=[.int i,.int j,.int st]/\(0<=i/\i<100000000/\0<=j/\j<100000000/\0<st/\st<1000000)/\R (vef i st (rgN i j st)) H1
def yh6{a b c:qg}{ta:TA}{p pos:Pos}(hg:Gl X "range")(hm:X.mg "range"=none)(ha:PA X [a,b,c] ta)(hs:starEach [a,b,c] X.env=[(false,eval a X.env),(false,eval b X.env),(false,eval c X.env)]:=by rfl)(hs2:starEach [b,c] X.env=[(false,eval b X.env),(false,eval c X.env)]:=by rfl):
  PI X tg (.Call (.Name "range" p) [a,b,c] [] pos) (vcj ta):=by
 intro g s σ H R I h;refine Call_ (ę I hg hm boot_range (PyProof.Rows.callWith_type1 (thn (ha pos g s σ H _ I h) λF k h'=>?_) (by rw[hs,hs2]) (by rw[hs2];rfl)));let⟨E,n,C,y,m⟩:=h';let⟨i,j,d,e,⟨m,D,B,w,u,A⟩,q⟩:=m;subst e
 cases y with
 |cons r rr =>
  cases rr with
  |cons r' rr =>
   cases rr with
   |cons r'' rr =>
    cases rr;let⟨t,rfl⟩:=r;let⟨t',rfl⟩:=r';let⟨f,rfl⟩:=r'';refine call_range_3 () (wpAny_pyIter_range (IsRange.new ..) (yhc u A m D B w) ?_) (.inl (PyProof.noPylong_small ()));have l:Inv X g σ n {k with heap:=k.heap.push { cls:=.type "range",data:=.fields #[.int i t,.int j t',.int d f]},toks:=k.toks}:=C.kept λb o e=>bh _ e
    refine⟨(k.heap.push { cls:=.type "range",data:=.fields #[.int i t,.int j t',.int d f]}).objs.size,[(k.heap.push { cls:=.type "range",data:=.fields #[.int i t,.int j t',.int d f]}).objs.size],_,_,n,rfl,
     l.kept (t':=k.toks) λb o e=>bh _ e,ycb _ i d (rgN i j d),?_,λb x=>?_,q⟩
    .have z:i+((0:Nat):Int)*d=i:=by simp
     have v:((rgN i j d:Nat):Int)-((0:Nat):Int)=Builtin.Range.rangeSize i j d:=by rw[<- you u];omega
     show IsRangeIter _ _ (i+((0:Nat):Int)*d) (((rgN i j d:Nat):Int)-((0:Nat):Int)) d;rw[z,v];exact bx _ rfl
    .have e:b=(k.heap.push { cls:=.type "range",data:=.fields #[.int i t,.int j t',.int d f]}).objs.size:=by simpa using x
     subst e;exact l.fpOk (bj _) (l.hok.fresh (bj _))
def ysk{tr:TA}{σ:St}{H:Hp}{R:It->Hp->Prop}(h:tr σ H λvs H1=>∃i j st:Int,vs=[.int i,.int j,.int st]/\(0<=i/\i<100000000/\0<=j/\j<100000000/\0<st/\st<1000000)/\R (vef i st (rgN i j st)) H1):vcj tr σ H R:=h
def Ś{lo:Int}{n:Nat}{D:z4}{te:TE}{fr:St}{R:Hp->Prop}{H1:Hp}(f:Nat->V)(hD:H1 D=none)
  (hs:∀i H,i<n->yv H1 H->H D=some (.lst ((List.range i).map f))->te (some (.int (lo+i*st))::fr) H (MpK H1 D f n i))
  (hd:∀H,yv H1 H->H D=some (.lst ((List.range n).map f))->R H):ut (vef lo st n) te fr D R H1:=by
 exists cW n (Mp H1 D f),⟨n,by simp,bN _,Mp.zero hD⟩,?_;rintro i m H ⟨rfl,a,p⟩;by_cases hlt:i<n
 .refine .inr ⟨hlt,λx b y=>?_⟩;let⟨e,y⟩:=y;subst e y;exact hs i _ hlt p.1 p.2
 .have e:i=n:=()
  subst e;exact .inl ⟨bj _,hd H p.1 p.2⟩
end
section
variable{prog:qh}{w:qd}{A:qe}{E:Δ}{s:qa}
def ρ{it l:z4}{i:Nat}{items}{x:qb}{Q:Δ}(hit:s.heap.IsTupleIter it l i)(hl:s.heap.IsTuple l items)(hx:items[i]?=some x)
  (hQ:∀h',h'.IsTupleIter it l (i+1)->Heap.SameBut it s.heap h'->Q x {s with heap:=h'}):wpAny (model prog w) A (Builtin.SmallTypes.nextOf (.ref it)) Q E s:=by let⟨g,b,e,a⟩:=id hit;let⟨f,c,_,h,d⟩:=hl;unfold Builtin.SmallTypes.nextOf;refine bd (wpAny_callSpecial?_slot (name:=Str.ofString "__next__") hit.typeIs slot_tupleiter_next (wpAny_call_entry slot_tupleiter_next hit.typeIs entry_tupleiter_next ?_ (args_tupleiter_next _)));show wpAny _ _ (field (.ref it) 0 >>=_) _ _ s;refine bd (cA b a (x:=.ref l) rfl ?_);show wpAny _ _ (if (Value.ref l == Value.none)=true then _ else _) _ _ s;rw[if_neg (show ¬((Value.ref l == Value.none)=true)from bz)];show wpAny _ _ (field (.ref it) 1 >>=_) _ _ s;refine bd (cA b a (x:=.int i 0) rfl ?_);show wpAny _ _ (seqItems? (.ref l) >>=_) _ _ s;refine bd (wpAny_seqItems c d ?_);simp only[Int.toNat_natCast,hx];refine bd (wpAny_setField b a (by simp) (bo ⟨x,rfl,bo (hQ _ ⟨_,Heap.get?_update_self _ b (Obj.isFreed_of_fields (Obj.data_mapFields a _)),(Obj.cls_mapFields ..).trans e,?_⟩ (Heap.SameBut.update ..))⟩));rw[Obj.data_mapFields a];simp[rawInt]
def ć{it l:z4}{i:Nat}{items}{Q:Δ}(hh:A.handled=none)(hit:s.heap.IsTupleIter it l i)(hl:s.heap.IsTuple l items)(hx:items[i]?=none)
  (hE:∀h' e,Heap.ExtBut it s.heap h'->(∃o,h'.get? e=some o/\o.cls=.type "StopIteration")->E (.ref e) {s with heap:=h'}):wpAny (model prog w) A (Builtin.SmallTypes.nextOf (.ref it)) Q E s:=by
 let⟨j,c,g,b⟩:=id hit;let⟨h,d,_,k,f⟩:=hl;unfold Builtin.SmallTypes.nextOf;refine bd (wpAny_callSpecial?_slot (name:=Str.ofString "__next__") hit.typeIs slot_tupleiter_next (wpAny_call_entry slot_tupleiter_next hit.typeIs entry_tupleiter_next ?_ (args_tupleiter_next _)))
 (show wpAny _ _ (field (.ref it) 0 >>=_) _ _ s);refine bd (cA c b (x:=.ref l) rfl ?_)
 (show wpAny _ _ (if (Value.ref l == Value.none)=true then _ else _) _ _ s);rw[if_neg (show ¬((Value.ref l == Value.none)=true)from bz)]
 (show wpAny _ _ (field (.ref it) 1 >>=_) _ _ s);refine bd (cA c b (x:=.int i 0) rfl ?_)
 (show wpAny _ _ (seqItems? (.ref l) >>=_) _ _ s);refine bd (wpAny_seqItems d f ?_)
 simp only[Int.toNat_natCast,hx];refine bd (wpAny_rule (bd (wpAny_setField c b (by simp) ?_)))
 (show wpAny _ _ (newExc (.type "StopIteration") [] >>=_) _ _ _);refine bd ?_
 simp only[newExc,newTuple];refine bd (wpAny_newObj_type ?_ (by size_fits))
 refine bd (m:=firstArgMember _ _) (wpAny_of_eq (a:=Value.none) (by first|rfl|(simp only[firstArgMember];rfl)) (wpAny_newObj_type ?_ (by size_fits)))
 simp only[raiseNew];refine bd (wpAny_handled ?_)
 (first|rw[show A.in1.handled=none from hh]|rw[hh]);refine bd (bo (wpAny_throw ?_))
 exact hE _ _ (((Heap.SameBut.update _ ..).extBut.push _).push _) ⟨_,bx _ rfl,rfl⟩
end
section
open AutoSeq1 (wpAny_loadPart')
set_option maxRecDepth 100000
end
end L2
namespace L2
open PySem PySem.Spec PyProof.Rows
end L2
namespace L2
section
variable{σ:St}{H:Hp}{Q:VK}{td ty tx tv:TE}
def yvk(h:td σ H λx H1=>ty σ H1 λy H2=>∃a v,x=.ref a/\Ł H2 a y (some v)/\Q v H2):vdi td ty σ H Q:=h
def vej(h:ty σ H λy H1=>td σ H1 λx H2=>∃a o,x=.ref a/\Ł H2 a y o/\Q (.bl o.isSome) H2):vgz ty td σ H Q:=h
def ylr(h:ty σ H λy H1=>td σ H1 λx H2=>∃a o,x=.ref a/\Ł H2 a y o/\Q (.bl (!o.isSome)) H2):yin ty td σ H Q:=h
def yx8{nx bk ct:Ζ}{rt:VK}(h:tv σ H λv H1=>td σ H1 λx H2=>ty σ H2 λy H3=>∃a H4,x=.ref a/\ym3 H3 a y v H4/\nx σ H4):vb3 td ty tv ⟨nx,rt,bk,ct⟩ σ H:=h
def yro(h:∀p,H p=none->Q (.ref p) (upd H p (.dT []))):ynu σ H Q:=h
end
end L2
namespace L2
open PySem PySem.Spec PyProof.Rows
variable{i1 i2 l1 l2:z4}{xs ys:Array qb}{elts:qi qg}{i:Nat}{tpos:Pos}{P:qh}{a:qb}
def vga(Sq:Hp->z4->qi V->Prop)(a b:z4):It :=
 ⟨λi H=>∃xs ys x y,Sq H a xs/\Sq H b ys/\xs[i]?=some x/\ys[i]?=some y,
  λi H v H'=>∃t x y,v=.ref t/\H t=none/\H'=upd H t (.tup [x,y])/\(∀xs,Sq H a xs->xs[i]?=some x)/\(∀ys,Sq H b ys->ys[i]?=some y),
  λi H=>∃xs ys,Sq H a xs/\Sq H b ys/\(xs.length<=i\/ys.length<=i)⟩
abbrev Itz(K:z3)(a b:z4):It:=vga (SqL K) a b
structure Zap(z TI TO i1 i2:z4):Prop where
 a1:TI≠z
 a2:TO≠z
 a3:i1≠z
 a4:i2≠z
 a5:TI≠TO
 a6:TI≠i1
 a7:TI≠i2
 a8:TO≠i1
 a9:TO≠i2
 b1:i1≠i2
def vd7(Ii:qf->z4->z4->Nat->Prop)(z TI TO i1 i2 l1 l2:z4)(i:Nat)(h:qf):Prop:=IsZip h z TI TO .none/\IsPair h TI (.ref i1) (.ref i2)/\(∃a b,IsPair h TO a b)/\Ii h i1 l1 i/\Ii h i2 l2 i
abbrev Zst:=vd7 Heap.IsListIter
def zg{h:qf}{a b:z4}{o o':Obj}(e:h.get? a=some o)(e':h.get? b=some o')(n:o.cls≠o'.cls):a≠b:=by rintro rfl;rw[e]at e';cases e';exact n rfl
def yp3(z:Nat):Zap (z+4) (z+2) (z+3) z (z+1):=by constructor<;>(show (_:Nat)≠(_:Nat);omega)
def nT{a b:String}(h:Value.type a≠Value.type b):Value.type a≠Value.type b:=h
def Zap.apart{X:Cx}{pins:Θ}{σ:St}{H:Hp}{s:qa}{z TI TO:z4}{xs ys:Ξ}(d:Zap z TI TO i1 i2)(st:Zst z TI TO i1 i2 l1 l2 i s.heap)(p:PlainL s.heap l1 xs.toArray)(q:PlainL s.heap l2 ys.toArray)(_:Inv X pins σ H s):ZipApart z TI TO i1 i2 l1 l2:=by
 let⟨k,o,⟨a,b,c⟩,⟨v,m,l,_⟩,⟨u,j,n,_⟩⟩:=st;let⟨r,e,g,_⟩:=p.isList;let⟨t,h,f,_⟩:=q.isList
 exact⟨d.a1,d.a2,d.a3,d.a4,d.a5,d.a6,d.a7,d.a8,d.a9,d.b1,
  zg e k (by rw[g];exact nT ∅),zg e c (by rw[g];exact nT ∅),zg e m (by rw[g,l];decide),zg e j (by rw[g,n];decide),
  zg h k (by rw[f];exact nT ∅),zg h c (by rw[f];exact nT ∅),zg h m (by rw[f,l];decide),zg h j (by rw[f,n];decide)⟩
structure ZK(K:z3)(Sq:Hp->z4->qi V->Prop)(Ii:qf->z4->z4->Nat->Prop)(z TI TO i1 i2 l1 l2:z4):Prop where
 ob:∀{h:qf}{i l:z4}{k:Nat},Ii h i l k->∃o,h.get? i=some o/\∃fs,o.data=.fields fs
 kp:∀{h h':qf}{i l:z4}{k:Nat},Ii h i l k->(∀o,h.get? i=some o->h'.get? i=some o)->Ii h' i l k
 inj:∀{X:Cx}{pins:Θ}{σ:St}{H:Hp}{s:qa}{l:z4}{xs ys:Τ},X.K=K->Inv X pins σ H s->Sq H l xs->Sq H l ys->xs=ys
 nx:∀{X:Cx}{pins:Θ}{σ:St}{H:Hp}{s:qa}{E:Δ}{i:Nat}{xs ys:Τ}{x y:V},X.K=K->Inv X pins σ H s->H TO=none->vd7 Ii z TI TO i1 i2 l1 l2 i s.heap->Sq H l1 xs->Sq H l2 ys->xs[i]?=some x->ys[i]?=some y ->
  ∃u u',xl x u/\xl y u'/\ZipApart z TI TO i1 i2 l1 l2/\∀Q:qj qb->qa->Prop,(∀h',IsZip h' z TI TO (rawInt s.heap.objs.size)->IsPair h' TO u u'->Ii h' i1 l1 (i+1)->Ii h' i2 l2 (i+1)->IsPair h' s.heap.objs.size u u'->h'.objs.size=s.heap.objs.size+1->(∀c o,c≠z->c≠TO->c≠i1->c≠i2->s.heap.get? c=some o->h'.get? c=some o)->Q (some (.ref s.heap.objs.size)) {s with heap:=h'})->wpAny (model X.prog X.w) X.A (pyNext (.ref z)) Q E s
 sp:∀{X:Cx}{pins:Θ}{σ:St}{H:Hp}{s:qa}{E:Δ}{i:Nat}{xs ys:Τ},X.K=K->X.calm=true->Inv X pins σ H s->H TO=none->vd7 Ii z TI TO i1 i2 l1 l2 i s.heap->Sq H l1 xs->Sq H l2 ys->(xs.length<=i\/ys.length<=i) ->
  ∀Q:qj qb->qa->Prop,(∀h',(∀c o,c≠z->c≠TO->c≠i1->c≠i2->s.heap.get? c=some o->h'.get? c=some o)->Q none {s with heap:=h'})->wpAny (model X.prog X.w) X.A (pyNext (.ref z)) Q E s
def yba{w:qd}{K:z3}{x1}{Sq:Hp->z4->qi V->Prop}{Ii:qf->z4->z4->Nat->Prop}{z TI TO:z4}(zk:ZK K Sq Ii z TI TO i1 i2 l1 l2):
  yga P w K (.Tuple elts x1 tpos) (vga Sq l1 l2) [z,TI,TO,i1,i2] z (vd7 Ii z TI TO i1 i2 l1 l2) where
 mem:=by simp
 obj:=λi h B b d=>by
  let⟨T,t,⟨_,_,A⟩,h1,h2⟩:=B;let⟨o1,e1,_,d1⟩:=zk.ob h1;let⟨o2,e2,_,d2⟩:=zk.ob h2;simp only[bw,List.not_mem_nil,or_false]at d;rcases d with rfl|rfl|rfl|rfl|rfl
  .exists _,T,λv z=>by cases z
  .exists _,t,λv z=>by cases z
  .exists _,A,λv z=>by cases z
  .exists o1,e1,λv z=>by rw[d1]at z;cases z
  .exists o2,e2,λv z=>by rw[d2]at z;cases z
 keep:=λi h N B k=>by
  let⟨T,t,⟨a,b,A⟩,h1,h2⟩:=B;exists k z (by simp) _ T,k TI (by simp) _ t,⟨a,b,k TO (by simp) _ A⟩,zk.kp h1 λo e=>k i1 (by simp) o e,zk.kp h2 λo e=>k i2 (by simp) o e
 item:=by
  intro X hP hw hK hc i F s σ H E I p B hg;subst hP hw hK;let⟨xs,Q,x,y,M,C,j,hy⟩:=hg;let⟨u,u',ru,a8,D,nx⟩:=zk.nx (E:=E) rfl I (p TO (by simp)).1 B M C j hy;let⟨T,t,⟨va,vb,A⟩,a7,a0⟩:=B;refine nx _ λN a1 a2 a3 a4 a5 a6 hk=>?_;exists _,rfl,wpAny_letOwnedTupleGo_zip a1 λl S g=>?_;have r:H s.heap.objs.size=none:=I.hok.fresh (bj _);have lz:z<s.heap.objs.size:=br T;have lo:TO<s.heap.objs.size:=br A;have lI:TI<s.heap.objs.size:=br t;have aa:i1<s.heap.objs.size:=by let⟨o,e,_⟩:=zk.ob a7;exact br e
  have a9:i2<s.heap.objs.size:=by let⟨o,e,_⟩:=zk.ob a0;exact br e
  have keep:∀b o,b≠z->b≠TO->b≠i1->b≠i2->s.heap.get? b=some o->l.get? b=some o:=λb o L U Z R e=>(g.2 b L).trans (hk b o L U Z R e);have O:l.get? s.heap.objs.size=some { cls:=.type "tuple",data:=.seq #[u,u']}:=(g.2 _ (Nat.ne_of_gt lz)).trans a5;have Y:∀{b v},H b=some v->b≠z/\b≠TO/\b≠i1/\b≠i2:=λ{b v}e=>⟨yb e (p z (by simp)).1,yb e (p TO (by simp)).1,yb e (p i1 (by simp)).1,yb e (p i2 (by simp)).1⟩
  have J:HOk X.prog X.w (upd H s.heap.objs.size (.tup [x,y])) l:=λb o e=>by
   by_cases d:b=s.heap.objs.size
   .subst d;rw[ya]at e;cases e;exists by show 2<=sizeLine;decide,[u,u'],.cons ru (.cons a8 .nil),⟨_,O,rfl,_,rfl⟩
   .rw[yq d]at e;refine(I.hok b o e).stay (λc v m q=>?_) (λc q=>by rw[yq (yb q r)];exact q) λc Q q=>by rw[yq (yb q r)];exact q
    obtain⟨L,U,Z,R⟩:c≠z/\c≠TO/\c≠i1/\c≠i2:=by
     rcases m with rfl|m
     .exact Y e
     .exact Y m
    exact keep c v L U Z R q
  have un:Un (frs X.stack) [z,TI,TO,i1,i2] H (upd H s.heap.objs.size (.tup [x,y])) s.heap l:=by
   have G:∀{b o},b∉[z,TI,TO,i1,i2]->s.heap.get? b=some o->l.get? b=some o:=λ{b o}d e=>keep b o (λq=>d (by simp[q])) (λq=>d (by simp[q])) (λq=>d (by simp[q])) (λq=>d (by simp[q])) e
   refine⟨λb o e n W j=>G j e,λb o e n W j=>⟨o.slots,G j e⟩,λb o e n W=>by rw[yq (bS (br e))];exact n,λb o e j=>⟨o,G j e⟩,
    λb Q e=>by rw[yq (yb e r)];exact e,λb o v e=>by rw[yq (yb e r)];exact e,λb ps e=>⟨#[],by rw[yq (yb e r),e];simp⟩⟩
  have I1:Inv X F σ (upd H s.heap.objs.size (.tup [x,y])) {s with heap:=l}:=I.call' (s':={s with heap:=l}) rfl un J I.bare λb d=>by
   have f:=p b d;exact⟨f.2.2.2.1,f.2.1,f.2.2.2.2.1,f.2.2.2.2.2⟩
  exists .ref s.heap.objs.size,_,I1,rfl,⟨_,x,y,rfl,r,rfl,λzs h=>by rw[zk.inj rfl I h M];exact j,λzs h=>by rw[zk.inj rfl I h C];exact hy⟩,?_,λb d=>?_
  .exists S,keep _ _ D.TIz D.TITO D.TIi1 D.TIi2 t,⟨u,u',(g.2 _ D.TOz).trans a2⟩,zk.kp a3 λo e=>(g.2 _ D.i1z).trans e,zk.kp a4 λo e=>(g.2 _ D.i2z).trans e
  .rw[yq (λq=>?_)]
   .exact(p b d).1
   .have M:b<s.heap.objs.size:=by
     simp only[bw,List.not_mem_nil,or_false]at d;rcases d with rfl|rfl|rfl|rfl|rfl<;>assumption
    exact absurd q (bS M)
 done:=by
  intro X hP hw hK hc i F s σ H E I p B hg;subst hP hw hK;let⟨xs,Q,M,C,j⟩:=hg;refine zk.sp rfl hc I (p TO (by simp)).1 B M C j _ λN hk=>⟨rfl,?_⟩;have Y:∀{b v},H b=some v->b≠z/\b≠TO/\b≠i1/\b≠i2:=λ{b v}e=>⟨yb e (p z (by simp)).1,yb e (p TO (by simp)).1,yb e (p i1 (by simp)).1,yb e (p i2 (by simp)).1⟩
  have J:HOk X.prog X.w H N:=λb o e=>by
   refine(I.hok b o e).stay (λc v m q=>?_) (λc q=>q) λc Q q=>q
   obtain⟨L,U,Z,R⟩:c≠z/\c≠TO/\c≠i1/\c≠i2:=by
    rcases m with rfl|m
    .exact Y e
    .exact Y m
   exact hk c v L U Z R q
  have un:Un (frs X.stack) [z,TI,TO,i1,i2] H H s.heap N:=by
   have G:∀{b o},b∉[z,TI,TO,i1,i2]->s.heap.get? b=some o->N.get? b=some o:=λ{b o}d e=>hk b o (λq=>d (by simp[q])) (λq=>d (by simp[q])) (λq=>d (by simp[q])) (λq=>d (by simp[q])) e;exists λb o e n W j=>G j e,λb o e n W j=>⟨o.slots,G j e⟩,λb o e n W=>n,λb o e j=>⟨o,G j e⟩,λb Q e=>e,λb o v e=>e,λb ps e=>⟨#[],by rw[e];simp⟩
  exact I.call' (s':={s with heap:=N}) rfl un J I.bare λb d=>by
   have f:=p b d;exact⟨f.2.2.2.1,f.2.1,f.2.2.2.2.1,f.2.2.2.2.2⟩
 self:=λW W W W W B h=>wpAny_pyIter_zip B.1 h
def ylm{w:qd}{K:z3}{x1}(l1 l2 z TI TO i1 i2:z4)(d:Zap z TI TO i1 i2):
  yga P w K (.Tuple elts x1 tpos) (Itz K l1 l2) [z,TI,TO,i1,i2] z (Zst z TI TO i1 i2 l1 l2):=yba ⟨λ⟨o,e,_,d⟩=>⟨o,e,_,d⟩,λh f=>h.at f,λ{X a σ H s l T S}r I h g=>by subst r;exact I.list_inj h g,λ{X a σ H s E i T S x y}r I W B L j R Y=>by
  subst r;let⟨N,G,p,J⟩:=I.list L;let⟨t,b,v,C⟩:=I.list j;let⟨u,hu,ru⟩:=G.get R;let⟨U,F,O⟩:=b.get Y;have D:=d.apart B p v I;let⟨M,q,⟨va,vb,c⟩,n,m⟩:=B
  exact⟨u,U,ru,O,D,λQ k=>wpAny_pyNext_zip_item D M q c n m p.isList v.isList (by simpa using hu) (by simpa using F) k⟩,λ{X a σ H s E i T S}r hc I W B L j R Q k=>by
  subst r;let⟨N,G,p,J⟩:=I.list L;let⟨t,b,v,C⟩:=I.list j;have D:=d.apart B p v I;let⟨M,q,⟨va,vb,c⟩,n,m⟩:=B;have hl:=G.length;have Z:=b.length;exact wpAny_pyNext_zip_end (show X.A.handled=none from I.ok.hd hc) D M q c n m p.isList v.isList (by simp;omega) k⟩
section
variable{X:Cx}
def vg5(K:z3)(ta:TA):TI:=λσ H R=>ta σ H λvs H1=>∃a b,vs=[.ref a,.ref b]/\(∃xs ys,SqL K H1 a xs/\SqL K H1 b ys)/\R (Itz K a b) H1
def ypn{x1}{l m:qg}{ta:TA}{p pos:Pos}(hg:Gl X "zip")(hm:X.mg "zip"=none)(ha:PA X [l,m] ta)(hs:starEach [l,m] X.env=[(false,eval l X.env),(false,eval m X.env)]:=by rfl)(hs2:starEach [m] X.env=[(false,eval m X.env)]:=by rfl):
  PI X (.Tuple elts x1 tpos) (.Call (.Name "zip" p) [l,m] [] pos) (vg5 X.K ta):=by
 intro f s σ H R I h;refine Call_ (ę I hg hm (show bootBuiltins "zip"=some (.type "zip") by decide+kernel) (PyProof.Rows.callWith_type1 (thn (ha pos f s σ H _ I h) λP c h'=>?_) (by rw[hs,hs2]) (by rw[hs2];rfl)));let⟨O,C,g,y,G⟩:=h';let⟨a,b,e,⟨N,J,E,k⟩,q⟩:=G;subst e
 cases y with
 |cons r rr =>
  cases rr with
  |cons r' rr =>
   cases rr;cases r;cases r';let⟨F,L,x,o⟩:=g.list E;let⟨u,B,n,v⟩:=g.list k;refine call_zip_2 x.isList n.isList λM o t j w D A z=>?_;refine wpAny_pyIter_zip o ?_;have i:Zap (c.heap.objs.size+4) (c.heap.objs.size+2) (c.heap.objs.size+3) c.heap.objs.size (c.heap.objs.size+1):=yp3 _;exists c.heap.objs.size+4,[c.heap.objs.size+4,c.heap.objs.size+2,c.heap.objs.size+3,c.heap.objs.size,c.heap.objs.size+1],_,_,C,rfl,g.kept (t':=c.toks) z,ylm a b _ _ _ _ _ i,⟨o,t,⟨_,_,j⟩,w,D⟩,λb d=>?_,q
   have d:c.heap.objs.size<=b:=by
    simp only[bw,List.not_mem_nil,or_false]at d;rcases d with rfl|rfl|rfl|rfl|rfl<;>omega
   exact g.fpOk d (g.hok.fresh d)
def yye{K:z3}{ta:TA}{σ:St}{H:Hp}{R:It->Hp->Prop}(h:ta σ H λvs H1=>∃a b,vs=[.ref a,.ref b]/\(∃xs ys,SqL K H1 a xs/\SqL K H1 b ys)/\R (Itz K a b) H1):vg5 K ta σ H R:=h
end
def Ķ{K:z3}{a b D:z4}{xs ys:Τ}{g:TG}{te:TE}{n:Nat}{fr:St}{R:Hp->Prop}{H1:Hp}(f:Nat->V)(hq:SqL K H1 a xs)(hq':SqL K H1 b ys)(hl:ys.length=xs.length)(hD:H1 D=none)
  (hs:∀i x y H t pre,xs[i]?=some x->ys[i]?=some y->yv H1 H->H D=some (.lst ((List.range i).map f))->H t=none->List.length pre=n->g (.ref t) (pre++fr) (upd H t (.tup [x,y])) λσ' H'=>(∃pre',List.length pre'=n/\σ'=pre'++fr)/\te σ' H' (MpK H1 D f xs.length i))
  (hd:∀H,yv H1 H->H D=some (.lst ((List.range xs.length).map f))->R H):À (Itz K a b) g te n fr D R H1:=by
 exists cW xs.length (Mp H1 D f),⟨xs.length,by simp,bN _,Mp.zero hD⟩,?_;rintro i m H ⟨rfl,o,p⟩;have q:=p.1.seq hq;have c:=p.1.seq hq';by_cases hlt:i<xs.length
 .refine .inr ⟨⟨xs,ys,xs[i],ys[i]'(),q,c,by simp[hlt],by simp[hl,hlt]⟩,λy H' pre j l=>?_⟩;let⟨t,x,y,rfl,k,rfl,d,h⟩:=j;exact hs i x y H t pre (d xs q) (h ys c) p.1 p.2 k l
 .have e:i=xs.length:=()
  subst e;exact .inl ⟨⟨xs,ys,q,c,.inl (bj _)⟩,hd H p.1 p.2⟩
section
variable{X:Cx}{iter elt tg:qg}{xs:Ρ}{g:TG}{pos:Pos}{scope:Scope}{te:TE}{wi:TI}{ys:Ρ}{js:qi Nat}
def yk1{y:Str}{py spos:Pos}(hN:X.N.Nodup)(hy:X.N[i]?=some y)(hl:X.env.scope.names.lookup y=some .local)(hc:X.calm=true)(hi:PI X tg iter wi)
  (he:∀(C:z4)(s2:qa)(H2:Hp)(fp:Υ),PE (X.compT scope ys C xs s2 H2 fp) elt te) (hjs:js.map (λj=>X.N[j]?)=ys.map some)
  (hgt:∀(C:z4)(s2:qa)(H2:Hp)(fp:Υ),PG (X.compT scope ys C xs s2 H2 fp) tg g)
  (hclos:closureFor scope X.env=pure (Ğ ys X.env)) (hyc:∀y∈ys,X.env.kindOf y=some .cell) (hrel:∀y∈ys,(relabel scope X.env).names.lookup y=some .cell)
  (hsw:swapsWith (.ListComp elt [⟨tg,iter,[],0⟩] scope pos) (some (.Name y py)) spos.line X.env=pure true:=by rfl)
  (hfr:∀y∈scope.names,y.2=.free->y.1∈ys:=by decide+kernel) (hcell:∀y∈scope.names,y.2≠.cell:=by decide+kernel) (hkind:scope.kind=.function:=by rfl)
  (hnames:∀y∈scope.names,y.2=.local->scope.names.lookup y.1=some .local:=by decide+kernel) (hs:∀x,foldedSetIterable iter X.env x=pure x:=by intro _;rfl):
  PS X (.Assign [.Name y py] (.ListComp elt [⟨tg,iter,[],0⟩] scope pos) spos) (vd1 (yjx wi g te xs.length js) (x0 i)):=by
 refine .mk λa s σ H l I h=>?_;rw[exec_Assign_Name_used _ _ _ _ hsw];refine bd (wpAny_standAt (bd ?_));show wpAny _ X.A (do let _ <- comprehension (.ListComp elt [⟨tg,iter,[],0⟩] scope pos) scope X.env _ (newList []) false (eval iter X.env) (some (assign (.Name y py) X.env))) _ _ s;refine bd (cJ (wpAny_comprehension_free (use:=some (assign (.Name y py) X.env)) (Q:=λZ d=>SP X a l .next d) rfl hs hclos hkind hnames (thn (hi a s σ H _ I h) λv P E=>thn E λF s2 L=>?_)) (λZ d M=>bo (bo M)) λZ Z e=>e);let⟨U,fp,S,J,H2,e,O,T,u,B,h⟩:=L;subst e;refine ã (R:=λD p=>x0 i (.ref D) σ p l.nx) (RR:=compPost (model X.prog X.w) X.A X.xe (some (assign (.Name y py) X.env)) (λZ d=>SP X a l .next d)) hc he hgt hcell hkind hfr hyc hrel hjs O T u B h ?_;intro D C p d m f K G q;refine wpAny_assign_Name (Č (v:=V.ref D) G hN hy (Or.inl hl) rfl (λt n k=>?_) (Or.inr hl));exists m,?_,λW r=>⟨_,p,?_,q⟩
 .obtain⟨b,r,c⟩:=k;refine K.sameBut r λz=>?_;rcases c with c|c
  .exact f.2.1 (z.trans c)
  .exact f.2.2.2.2.1 y b c z.symm
 .exact n.turned (t':=t.toks) (λb o c e=>r.extBut b o c e) f.1 f.2.1 f.2.2.2.1 f.2.2.2.2.1 f.2.2.2.2.2
end
section
variable{X:Cx}
noncomputable def onI(f:Int->Int):V->V
 | .int i=>.int (f i)
 |v=>v
def yif(f:Int->Int)(ns:Ο):(ns.map V.int).map (onI f)=(ns.map f).map V.int:=by rw[cb,cb];rfl
def yjn{pre:qi (qj V)}(h:List.length pre=2):∃v1 v2,pre=[v1,v2]:=by let⟨v1,t,rfl,b⟩:=Ţ h;let⟨v2,t,rfl,a⟩:=Ţ b;exists v1,v2,by rw[List.length_eq_zero_iff.mp a]
end
section
variable{X:Cx}
def vcf:V->qi V->Hp->VK->Prop:=λx vs H Q=>∃i:Int,x=.int i/\vs=[]/\Q (.int (Builtin.Int.intBits i:Nat)) H
def yqx:MtR X "int.bit_length" vcf:=by intro b s σ H x e v f Q I c d h;let⟨i,rfl,rfl,q⟩:=h;let⟨t,rfl⟩:=c;have a:=d.zero;subst a;exact PyProof.Rows.call_int_bit_length ⟨.int _,H,I.tok _,⟨_,rfl⟩,q⟩
def yy0{K:z3}{i:Int}{H:Hp}{Q:VK}(h:Q (.int (Builtin.Int.intBits i:Nat)) H):tyV K "int" (.int i) H/\vcf (.int i) [] H Q:=⟨rfl,i,rfl,rfl,h⟩
end
section
variable{prog:qh}{w:qd}{A:qe}{E:Δ}{s:qa}
def ykj{z TI TO:z4}{k1 k2:Nat}{x y b:qb}{Q:Δ}(D:ZipApart z TI TO i1 i2 l1 l2)(hz:IsZip s.heap z TI TO .none)(hTI:IsPair s.heap TI (.ref i1) (.ref i2))(hTO:IsPair s.heap TO a b)
  (h1:s.heap.IsTupleIter i1 l1 k1) (h2:s.heap.IsTupleIter i2 l2 k2) (hl1:s.heap.IsTuple l1 xs) (hl2:s.heap.IsTuple l2 ys) (hx:xs[k1]?=some x) (hy:ys[k2]?=some y)
  (hQ:∀h',IsZip h' z TI TO (rawInt s.heap.objs.size)->IsPair h' TO x y->h'.IsTupleIter i1 l1 (k1+1)->h'.IsTupleIter i2 l2 (k2+1)->IsPair h' s.heap.objs.size x y->h'.objs.size=s.heap.objs.size+1->(∀c o,c≠z->c≠TO->c≠i1->c≠i2->s.heap.get? c=some o->h'.get? c=some o)->Q (.ref s.heap.objs.size) {s with heap:=h'}):
  wpAny (model prog w) A (Builtin.«zip.__next__» ⟨[.ref z],[]⟩) (λfin s'=>∃v,fin=.done (.ret v)/\Q v s') E s:=by
 (show wpAny _ _ (field (.ref z) 2 >>=_) _ _ _);refine bd (cA hz rfl (x:=.bool false) rfl ?_)
 (show wpAny _ _ (field (.ref z) 3 >>=_) _ _ _);refine bd (cA hz rfl (x:=.ref TI) rfl ?_);refine bd (wpAny_seqItems hTI rfl ?_)
 (show wpAny _ _ (Builtin.SmallTypes.ownedTupleIsFree (.ref z) >>=_) _ _ _);refine bd ?_;unfold Builtin.SmallTypes.ownedTupleIsFree
 refine bd (cA hz rfl (x:=.none) rfl (bo ?_));simp only[if_true];refine bd (wpAny_rule ?_);refine bd (cA hz rfl (x:=.ref TO) rfl ?_);refine bd (wpAny_setField_rec hz (by simp) λh₁ hz₁ hs₁=>?_)
 replace hz₁:IsZip h₁ z TI TO .ellipsis:=hz₁;refine bd ?_;simp only[List.zipIdx_cons,List.zipIdx_nil,List.forIn_cons,List.forIn_nil]
 refine bd (bd (wpAny_onRaise ?_));(show wpAny _ _ (Builtin.SmallTypes.nextOf (.ref i1) >>=_) _ _ _);refine bd (ρ (h1.at λo e=>hs₁.extBut _ _ D.i1z e) (hl1.extBut hs₁.extBut D.l1z) hx λh₂ h1₂ hs₂=>bo ?_);have hTO₂:IsPair h₂ TO a b:=hs₂.extBut _ _ D.TOi1 (hs₁.extBut _ _ D.TOz hTO);refine bd (wpAny_seqItems hTO₂ rfl ?_);refine bd (wpAny_updateSeq_pair hTO₂ λh₃ hTO₃ hs₃=>?_);replace hTO₃:IsPair h₃ TO x b:=hTO₃;refine bd (wpAny_letGo (bo ?_));refine bd (bd (wpAny_onRaise ?_));(show wpAny _ _ (Builtin.SmallTypes.nextOf (.ref i2) >>=_) _ _ _);refine bd (ρ (h2.at λo e=>hs₃.extBut _ _ D.TOi2.symm (hs₂.extBut _ _ D.i12.symm (hs₁.extBut _ _ D.i2z e))) (((hl2.extBut hs₁.extBut D.l2z).extBut hs₂.extBut D.l2i1).extBut hs₃.extBut D.l2TO) hy λh₄ h2₄ hs₄=>bo ?_);have hTO₄:IsPair h₄ TO x b:=hs₄.extBut _ _ D.TOi2 hTO₃;refine bd (wpAny_seqItems hTO₄ rfl ?_);refine bd (wpAny_updateSeq_pair hTO₄ λh₅ hTO₅ hs₅=>?_);replace hTO₅:IsPair h₅ TO x y:=hTO₅;refine bd (wpAny_letGo (bo (bo ?_)));refine bd (wpAny_seqItems hTO₅ rfl ?_);refine bd (wpAny_newTuple ?_);have g:h₅.objs.size=s.heap.objs.size:=by(rw[hs₅.1,hs₄.1,hs₃.1,hs₂.1,hs₁.1])
 have hz₅:IsZip h₅ z TI TO .ellipsis:=(hs₅.extBut _ _ D.TOz.symm (hs₄.extBut _ _ D.i2z.symm (hs₃.extBut _ _ D.TOz.symm (hs₂.extBut _ _ D.i1z.symm hz₁))));have hk₅:∀c o,c≠z->c≠TO->c≠i1->c≠i2->s.heap.get? c=some o->h₅.get? c=some o:=λc o f j l m e=>hs₅.extBut _ _ j (hs₄.extBut _ _ m (hs₃.extBut _ _ j (hs₂.extBut _ _ l (hs₁.extBut _ _ f e))));have h1₅:h₅.IsTupleIter i1 l1 (k1+1):=h1₂.at λo e=>hs₅.extBut _ _ D.TOi1.symm (hs₄.extBut _ _ D.i12 (hs₃.extBut _ _ D.TOi1.symm e));have h2₅:h₅.IsTupleIter i2 l2 (k2+1):=h2₄.at λo e=>hs₅.extBut _ _ D.TOi2.symm e;have d:z<h₅.objs.size:=(br hz₅)
 (show wpAny _ _ (Builtin.SmallTypes.ownedTupleHandOut (.ref z) (.ref h₅.objs.size) >>=_) _ _ _);refine bd ?_;unfold Builtin.SmallTypes.ownedTupleHandOut
 have hz₆:IsZip (h₅.push { cls:=.type "tuple",data:=.seq #[x,y]}) z TI TO .ellipsis:=(bh _ hz₅);refine bd (wpAny_setField_rec hz₆ (by simp) λh₇ hz₇ hs₇=>?_);replace hz₇:IsZip h₇ z TI TO (rawInt h₅.objs.size):=hz₇;refine wpAny_setField_rec hz₇ (by simp) λh₈ hz₈ hs₈=>?_;replace hz₈:IsZip h₈ z TI TO (rawInt h₅.objs.size):=hz₈;have k:∀c o,c≠z->h₅.get? c=some o->h₈.get? c=some o:=(λc o f e=>hs₈.extBut _ _ f (hs₇.extBut _ _ f (bh _ e)));have hT₈:IsPair h₈ h₅.objs.size x y:=(hs₈.extBut _ _ (Nat.ne_of_gt d) (hs₇.extBut _ _ (Nat.ne_of_gt d) (bx _ rfl)));have i:h₈.objs.size=h₅.objs.size+1:=by(rw[hs₈.1,hs₇.1,Heap.size_push])
 (rw[g]at hz₈ hT₈ i);refine bo ⟨_,rfl,?_⟩;show Q (.ref h₅.objs.size) _;rw[g]
 exact hQ h₈ hz₈ (k _ _ D.TOz hTO₅) (h1₅.at λo e=>k _ o D.i1z e) (h2₅.at λo e=>k _ o D.i2z e) hT₈ i (λc o f j l m e=>k c o f (hk₅ c o f j l m e))
def yrk{z TI TO:z4}{k1 k2:Nat}{b:qb}{Q:Fin->qa->Prop}(hh:A.handled=none)(D:ZipApart z TI TO i1 i2 l1 l2)(hz:IsZip s.heap z TI TO .none)(hTI:IsPair s.heap TI (.ref i1) (.ref i2))(hTO:IsPair s.heap TO a b)
  (h1:s.heap.IsTupleIter i1 l1 k1) (h2:s.heap.IsTupleIter i2 l2 k2) (hl1:s.heap.IsTuple l1 xs) (hl2:s.heap.IsTuple l2 ys) (hend:xs[k1]?=none\/ys[k2]?=none)
  (hE:∀h' e,(∀c o,c≠z->c≠TO->c≠i1->c≠i2->s.heap.get? c=some o->h'.get? c=some o)->(∃o,h'.get? e=some o/\o.cls=.type "StopIteration")->E (.ref e) {s with heap:=h'}):wpAny (model prog w) A (Builtin.«zip.__next__» ⟨[.ref z],[]⟩) Q E s:=by
 (show wpAny _ _ (field (.ref z) 2 >>=_) _ _ _);refine bd (cA hz rfl (x:=.bool false) rfl ?_)
 (show wpAny _ _ (field (.ref z) 3 >>=_) _ _ _);refine bd (cA hz rfl (x:=.ref TI) rfl ?_);refine bd (wpAny_seqItems hTI rfl ?_)
 (show wpAny _ _ (Builtin.SmallTypes.ownedTupleIsFree (.ref z) >>=_) _ _ _);refine bd ?_;unfold Builtin.SmallTypes.ownedTupleIsFree
 refine bd (cA hz rfl (x:=.none) rfl (bo ?_));simp only[if_true];refine bd (wpAny_rule ?_);refine bd (cA hz rfl (x:=.ref TO) rfl ?_);refine bd (wpAny_setField_rec hz (by simp) λh₁ hz₁ hs₁=>?_)
 replace hz₁:IsZip h₁ z TI TO .ellipsis:=hz₁;refine bd ?_;simp only[List.zipIdx_cons,List.zipIdx_nil,List.forIn_cons,List.forIn_nil]
 refine bd (bd (wpAny_onRaise ?_));(show wpAny _ _ (Builtin.SmallTypes.nextOf (.ref i1) >>=_) _ _ _)
 cases hx:xs[k1]? with
 |none =>
  refine bd (ć hh (h1.at λo e=>hs₁.extBut _ _ D.i1z e) (hl1.extBut hs₁.extBut D.l1z) hx λh₂ e hs₂ j=>?_);let⟨l,d,f⟩:=j;have hz₂:IsZip h₂ z TI TO .ellipsis:=hs₂ _ _ D.i1z.symm hz₁;have g:e≠z:=(λx=>by(subst x;rw[hz₂]at d;cases d;simp at f));exact wpAny_setField_rec hz₂ (by simp) λh₃ Z hs₃=>hE h₃ e (λc o i Z k Z x=>hs₃.extBut _ _ i (hs₂ _ _ k (hs₁.extBut _ _ i x))) ⟨l,hs₃.extBut _ _ g d,f⟩
 |some x =>
  have m:ys[k2]?=none:=by(rcases hend with h|h;(rw[hx]at h;cases h);exact h)
  refine bd (ρ (h1.at λo e=>hs₁.extBut _ _ D.i1z e) (hl1.extBut hs₁.extBut D.l1z) hx λh₂ h1₂ hs₂=>bo ?_);have hTO₂:IsPair h₂ TO a b:=(hs₂.extBut _ _ D.TOi1 (hs₁.extBut _ _ D.TOz hTO));refine bd (wpAny_seqItems hTO₂ rfl ?_);refine bd (wpAny_updateSeq_pair hTO₂ λh₃ hTO₃ hs₃=>?_);refine bd (wpAny_letGo (bo ?_));refine bd (bd (wpAny_onRaise ?_));(show wpAny _ _ (Builtin.SmallTypes.nextOf (.ref i2) >>=_) _ _ _);refine bd (ć hh (h2.at λo e=>hs₃.extBut _ _ D.TOi2.symm (hs₂.extBut _ _ D.i12.symm (hs₁.extBut _ _ D.i2z e))) (((hl2.extBut hs₁.extBut D.l2z).extBut hs₂.extBut D.l2i1).extBut hs₃.extBut D.l2TO) m λh₄ e hs₄ j=>?_);let⟨l,d,f⟩:=j;have hz₄:IsZip h₄ z TI TO .ellipsis:=hs₄ _ _ D.i2z.symm (hs₃.extBut _ _ D.TOz.symm (hs₂.extBut _ _ D.i1z.symm hz₁));have g:e≠z:=(λx=>by(subst x;rw[hz₄]at d;cases d;simp at f));exact wpAny_setField_rec hz₄ (by simp) λh₅ Z hs₅=>hE h₅ e (λc o i p k n x=>hs₅.extBut _ _ i (hs₄ _ _ n (hs₃.extBut _ _ p (hs₂.extBut _ _ k (hs₁.extBut _ _ i x))))) ⟨l,hs₅.extBut _ _ g d,f⟩
def yml{z TI TO:z4}{k1 k2:Nat}{x y b:qb}{Q:qj qb->qa->Prop}(D:ZipApart z TI TO i1 i2 l1 l2)(hz:IsZip s.heap z TI TO .none)(hTI:IsPair s.heap TI (.ref i1) (.ref i2))(hTO:IsPair s.heap TO a b)
  (h1:s.heap.IsTupleIter i1 l1 k1) (h2:s.heap.IsTupleIter i2 l2 k2) (hl1:s.heap.IsTuple l1 xs) (hl2:s.heap.IsTuple l2 ys) (hx:xs[k1]?=some x) (hy:ys[k2]?=some y)
  (hQ:∀h',IsZip h' z TI TO (rawInt s.heap.objs.size)->IsPair h' TO x y->h'.IsTupleIter i1 l1 (k1+1)->h'.IsTupleIter i2 l2 (k2+1)->IsPair h' s.heap.objs.size x y->h'.objs.size=s.heap.objs.size+1->(∀c o,c≠z->c≠TO->c≠i1->c≠i2->s.heap.get? c=some o->h'.get? c=some o)->Q (some (.ref s.heap.objs.size)) {s with heap:=h'}):
  wpAny (model prog w) A (pyNext (.ref z)) Q E s:=by
 have d:s.TypeIs (.ref z) "zip":=(⟨_,hz,rfl⟩);unfold pyNext;exact bd (wpAny_attempt (wpAny_callSpecial?_slot (name:=Str.ofString "__next__") d F.slot_zip_next (wpAny_call_entry F.slot_zip_next d F.entry_zip_next
   (ykj D hz hTI hTO h1 h2 hl1 hl2 hx hy λh' g f e j i h k=>bo (hQ h' g f e j i h k)) (F.args_zip_next_1 _))))
def ymh{z TI TO:z4}{k1 k2:Nat}{b:qb}{Q:qj qb->qa->Prop}(hh:A.handled=none)(D:ZipApart z TI TO i1 i2 l1 l2)(hz:IsZip s.heap z TI TO .none)(hTI:IsPair s.heap TI (.ref i1) (.ref i2))(hTO:IsPair s.heap TO a b)
  (h1:s.heap.IsTupleIter i1 l1 k1) (h2:s.heap.IsTupleIter i2 l2 k2) (hl1:s.heap.IsTuple l1 xs) (hl2:s.heap.IsTuple l2 ys) (hend:xs[k1]?=none\/ys[k2]?=none)
  (hQ:∀h',(∀c o,c≠z->c≠TO->c≠i1->c≠i2->s.heap.get? c=some o->h'.get? c=some o)->Q none {s with heap:=h'}):wpAny (model prog w) A (pyNext (.ref z)) Q E s:=by
 have d:s.TypeIs (.ref z) "zip":=(⟨_,hz,rfl⟩);unfold pyNext;refine bd (wpAny_attempt (wpAny_callSpecial?_slot (name:=Str.ofString "__next__") d F.slot_zip_next (wpAny_call_entry F.slot_zip_next d F.entry_zip_next
  (yrk hh D hz hTI hTO h1 h2 hl1 hl2 hend λh' e h g=>?_) (F.args_zip_next_1 _))))
 let⟨o,i,f⟩:=g;refine bd (wpAny_isInstance (T:="StopIteration") (b:=true) ⟨o,i,f⟩ isSubtype_stop ?_);exact bo (hQ _ h)
end
noncomputable abbrev zT1(h:qf)(l1:z4):qf:=h.push { cls:=.type "tuple_iterator",data:=.fields #[.ref l1,.int 0 0]}
abbrev zT2(h:qf)(l1 l2:z4):qf:=(zT1 h l1).push { cls:=.type "tuple_iterator",data:=.fields #[.ref l2,.int 0 0]}
abbrev zT3(h:qf)(l1 l2:z4):qf:=(zT2 h l1 l2).push { cls:=.type "tuple",data:=.seq #[.ref h.objs.size,.ref (zT1 h l1).objs.size]}
abbrev zT4(h:qf)(l1 l2:z4):qf:=(zT3 h l1 l2).push { cls:=.type "tuple",data:=.seq #[.none,.none]}
abbrev zT5(h:qf)(l1 l2:z4):qf:=(zT4 h l1 l2).push { cls:=.type "zip",data:=.fields #[.none,.bool false,.bool false,.ref (zT2 h l1 l2).objs.size,.ref (zT3 h l1 l2).objs.size]}
def ysp(l1 l2:z4)(xs ys:Array qb):Meets (Builtin.«zip.__new__» ⟨[.type "zip",.ref l1,.ref l2],[]⟩) (λZ R s=>s.heap.IsTuple l1 xs/\s.heap.IsTuple l2 ys/\R (.ok (.ret (.ref (zT4 s.heap l1 l2).objs.size))) {s with heap:=zT5 s.heap l1 l2}) :=
 .of_wp λi w A R s h=>by
  let⟨j,g,d,l,f⟩:=s;let⟨c,a,h⟩:=h;have k:=sub_zip;have b:Heap.IsTuple (Shared.heap ⟨j,g,d,l,f⟩) l1 xs:=c;have e:Heap.IsTuple (Shared.heap ⟨j.push { cls:=.type "tuple_iterator",data:=.fields #[.ref l1,.int 0 0]},g,d,l,f⟩) l2 ys:=Heap.IsTuple.push a _
  wp_walk using wpAny_pyIter_tuple b,wpAny_pyIter_tuple e
  exists _,rfl,h
section
variable{prog:qh}{w:qd}{A:qe}{E:Δ}{s:qa}
def ymo{Q:Δ}(hl1:s.heap.IsTuple l1 xs)(hl2:s.heap.IsTuple l2 ys)
  (h:∀h',IsZip h' (s.heap.objs.size+4) (s.heap.objs.size+2) (s.heap.objs.size+3) .none->IsPair h' (s.heap.objs.size+2) (.ref s.heap.objs.size) (.ref (s.heap.objs.size+1))->IsPair h' (s.heap.objs.size+3) .none .none->h'.IsTupleIter s.heap.objs.size l1 0->h'.IsTupleIter (s.heap.objs.size+1) l2 0 ->
   (∀c o,s.heap.get? c=some o->h'.get? c=some o)->Q (.ref (s.heap.objs.size+4)) {s with heap:=h'}):wpAny (model prog w) A (call (.type "zip") [.ref l1,.ref l2]) Q E s:=by
 refine callType_new F.called_zip ∅ (F.typeCall_zip_2 _ _) (F.newCall_zip_2 _ _) (λa=>F.args_object_init_3 a _ _) F.entry_zip_new (ysp l1 l2 xs ys) ⟨hl1,hl2,?_⟩;have e:(zT1 s.heap l1).objs.size=s.heap.objs.size+1:=Heap.size_push ..;have d:(zT2 s.heap l1 l2).objs.size=s.heap.objs.size+2:=by rw[Heap.size_push,e]
 have b:(zT3 s.heap l1 l2).objs.size=s.heap.objs.size+3:=by rw[Heap.size_push,d]
 have f:(zT4 s.heap l1 l2).objs.size=s.heap.objs.size+4:=by rw[Heap.size_push,b]
 have g5:(zT5 s.heap l1 l2).get? (zT4 s.heap l1 l2).objs.size=some _:=bx _ rfl;have g4:(zT5 s.heap l1 l2).get? (zT3 s.heap l1 l2).objs.size=some _:=bh _ (bx _ rfl);have g3:(zT5 s.heap l1 l2).get? (zT2 s.heap l1 l2).objs.size=some _:=bh _ (bh _ (bx _ rfl));have g2:(zT5 s.heap l1 l2).get? (zT1 s.heap l1).objs.size=some _:=bh _ (bh _ (bh _ (bx _ rfl)));have g1:(zT5 s.heap l1 l2).get? s.heap.objs.size=some _:=(bh _ (bh _ (bh _ (bh _ (bx _ rfl)))));show _/\_;rw[d,b,f]at g5;rw[e,d]at g3;rw[b]at g4;rw[e]at g2;rw[f];exists⟨_,g5,rfl⟩,h _ g5 g3 g4 ⟨_,g1,rfl,rfl⟩ ⟨_,g2,rfl,rfl⟩ λc o x=>(bh _ (bh _ (bh _ (bh _ (bh _ x)))))
end
abbrev vd4(K:z3)(a b:z4):It:=vga (SqT K) a b
abbrev vg4:=vd7 Heap.IsTupleIter
def Zap.apartT{X:Cx}{H:Hp}{s:qa}{z TI TO:z4}{xs ys:Ξ}{us vs:Τ}(d:Zap z TI TO i1 i2)(st:vg4 z TI TO i1 i2 l1 l2 i s.heap)(p:s.heap.IsTuple l1 xs.toArray)(q:s.heap.IsTuple l2 ys.toArray)(hn:H TO=none)(hK:X.K.lookup TO=none)
  (hq:SqT X.K H l1 us) (hq':SqT X.K H l2 vs):ZipApart z TI TO i1 i2 l1 l2:=by
 let⟨m,w,⟨a,b,v⟩,⟨B,t,r,_⟩,⟨A,k,u,_⟩⟩:=st;let⟨x,e,g,_⟩:=p;let⟨y,j,f,_⟩:=q
 have c:∀{l:z4}{n:Τ},SqT X.K H l n->l≠TO:=λ{l n}h=>by
  rintro rfl;rcases h with(h|⟨o,h⟩)|⟨_,_,_,h,_⟩
  .rw[hn]at h;cases h
  .rw[hn]at h;cases h
  .rw[hK]at h;cases h
 exact⟨d.a1,d.a2,d.a3,d.a4,d.a5,d.a6,d.a7,d.a8,d.a9,d.b1,
  zg e m (by rw[g];exact nT ∅),c hq,zg e t (by rw[g,r];decide),zg e k (by rw[g,u];decide),
  zg j m (by rw[f];exact nT ∅),c hq',zg j t (by rw[f,r];decide),zg j k (by rw[f,u];decide)⟩
def ygw{w:qd}{K:z3}{x1}(l1 l2 z TI TO i1 i2:z4)(d:Zap z TI TO i1 i2)(hKT:K.lookup TO=none):
  yga P w K (.Tuple elts x1 tpos) (vd4 K l1 l2) [z,TI,TO,i1,i2] z (vg4 z TI TO i1 i2 l1 l2):=yba ⟨λ⟨o,e,_,d⟩=>⟨o,e,_,d⟩,λh f=>h.at f,λ{X j σ H s l xs ys}v I h g=>by subst v;exact I.tuple_inj h g,λ{X j σ H s E i xs ys x y}v I M F B b S U=>by
  subst v;let⟨c,L,p,N⟩:=I.tuple B;let⟨a,m,C,G⟩:=I.tuple b;let⟨u,hu,ru⟩:=L.get S;let⟨T,J,R⟩:=m.get U;have D:=d.apartT (xs:=c) (ys:=a) F p C M hKT B b;let⟨O,t,⟨va,Z,n⟩,r,q⟩:=F
  exact⟨u,T,ru,R,D,λQ k=>yml (xs:=c.toArray) (ys:=a.toArray) D O t n r q p C (by simpa using hu) (by simpa using J) k⟩,λ{X j σ H s E i xs ys}v hc I M F B b S Q k=>by
  subst v;let⟨c,L,p,N⟩:=I.tuple B;let⟨a,m,C,G⟩:=I.tuple b;have D:=d.apartT (xs:=c) (ys:=a) F p C M hKT B b;let⟨O,t,⟨va,Z,n⟩,r,q⟩:=F;have hl:=L.length;have Y:=m.length;exact ymh (xs:=c.toArray) (ys:=a.toArray) (show X.A.handled=none from I.ok.hd hc) D O t n r q p C (by simp;omega) k⟩
section
variable{X:Cx}
def vcx(K:z3)(ta:TA):TI:=λσ H R=>ta σ H λvs H1=>∃a b,vs=[.ref a,.ref b]/\(∃xs ys,SqT K H1 a xs/\SqT K H1 b ys)/\R (vd4 K a b) H1
def ytb{x1}{l m:qg}{ta:TA}{p pos:Pos}(hg:Gl X "zip")(hm:X.mg "zip"=none)(ha:PA X [l,m] ta)(hs:starEach [l,m] X.env=[(false,eval l X.env),(false,eval m X.env)]:=by rfl)(hs2:starEach [m] X.env=[(false,eval m X.env)]:=by rfl):
  PI X (.Tuple elts x1 tpos) (.Call (.Name "zip" p) [l,m] [] pos) (vcx X.K ta):=by
 intro g s σ H R I h;refine Call_ (ę I hg hm (show bootBuiltins "zip"=some (.type "zip") by decide+kernel) (PyProof.Rows.callWith_type1 (thn (ha pos g s σ H _ I h) λQ c h'=>?_) (by rw[hs,hs2]) (by rw[hs2];rfl)));let⟨P,E,d,B,J⟩:=h';let⟨a,b,e,⟨O,L,G,t⟩,q⟩:=J;subst e
 cases B with
 |cons r rr =>
  cases rr with
  |cons r' rr =>
   cases rr;cases r;cases r';let⟨w,M,A,v⟩:=d.tuple G;let⟨i,D,u,y⟩:=d.tuple t;refine ymo (show c.heap.IsTuple a w.toArray from A) (show c.heap.IsTuple b i.toArray from u) λN v x k z F C=>?_;refine wpAny_pyIter_zip v ?_
   have n:X.K.lookup (c.heap.objs.size+3)=none:=by
    cases hl:X.K.lookup (c.heap.objs.size+3)with
    |none=>rfl
    |some o=>exact absurd (br (d.kIn _ o hl)) (Nat.not_lt.mpr (Nat.le_add_right _ _))
   have j:Zap (c.heap.objs.size+4) (c.heap.objs.size+2) (c.heap.objs.size+3) c.heap.objs.size (c.heap.objs.size+1):=yp3 _;exists c.heap.objs.size+4,[c.heap.objs.size+4,c.heap.objs.size+2,c.heap.objs.size+3,c.heap.objs.size,c.heap.objs.size+1],_,_,E,rfl,d.kept (t':=c.toks) C,ygw a b _ _ _ _ _ j n,⟨v,x,⟨_,_,k⟩,z,F⟩,λb f=>?_,q
   have f:c.heap.objs.size<=b:=by
    simp only[bw,List.not_mem_nil,or_false]at f;rcases f with rfl|rfl|rfl|rfl|rfl<;>omega
   exact d.fpOk f (d.hok.fresh f)
def yr6{K:z3}{ta:TA}{σ:St}{H:Hp}{R:It->Hp->Prop}(h:ta σ H λvs H1=>∃a b,vs=[.ref a,.ref b]/\(∃xs ys,SqT K H1 a xs/\SqT K H1 b ys)/\R (vd4 K a b) H1):vcx K ta σ H R:=h
end
def yb6{K:z3}{a b D:z4}{xs ys:Τ}{g:TG}{te:TE}{n m:Nat}{fr:St}{R:Hp->Prop}{H1:Hp}(f:Nat->V)(hq:SqT K H1 a xs)(hq':SqT K H1 b ys)(h1:m<=xs.length)(h2:m<=ys.length)(h3:xs.length<=m\/ys.length<=m)(hD:H1 D=none)
  (hs:∀i x y H t pre,i<m->xs[i]?=some x->ys[i]?=some y->yv H1 H->H D=some (.lst ((List.range i).map f))->H t=none->List.length pre=n->g (.ref t) (pre++fr) (upd H t (.tup [x,y])) λσ' H'=>(∃pre',List.length pre'=n/\σ'=pre'++fr)/\te σ' H' (MpK H1 D f m i))
  (hd:∀H,yv H1 H->H D=some (.lst ((List.range m).map f))->R H):À (vd4 K a b) g te n fr D R H1:=by
 exists cW m (Mp H1 D f),⟨m,by simp,bN _,Mp.zero hD⟩,?_;rintro i j H ⟨rfl,r,p⟩;have q:=p.1.tup hq;have c:=p.1.tup hq';by_cases hlt:i<m
 .refine .inr ⟨⟨xs,ys,xs[i]'(),ys[i]'(),q,c,bg _,bg _⟩,λy H' pre k o=>?_⟩;let⟨t,x,y,rfl,l,rfl,d,h⟩:=k;exact hs i x y H t pre hlt (d xs q) (h ys c) p.1 p.2 l o
 .have e:i=m:=()
  subst e;exact .inl ⟨⟨xs,ys,q,c,h3⟩,hd H p.1 p.2⟩
end L2
namespace L2
open PySem PySem.Spec PyProof.Rows HT
section
variable{prog:qh}{w:qd}{A:qe}{E:Δ}{s:qa}
def yca{t sl:z4}{items:Array qb}{vl vu:qb}{lo hi:qj Int}{Q:Δ}(ht:IsTup s.heap t items)(hs:s.heap.IsSliceOf sl vl vu .none)(pl:IsPart vl lo)(pu:IsPart vu hi)
  (hw:sIx items.size 0 lo=0/\sIx items.size items.size hi=items.size) (h:Q (.ref t) s):wpAny (model prog w) A (getItem (.ref t) (.ref sl)) Q E s:=by
 let⟨e,b,d,f⟩:=id hs;have c:s.TypeIs (.ref sl) "slice":=⟨e,b,d⟩;unfold getItem
 try with_reducible refine wpAny_holding ?_
 first|refine bd (bo ?_)|skip
 refine bd (wpAny_sequenceKey ht.typeIs ∅ ?_);refine bd (wpAny_callSpecial?_slot (name:=Str.ofString "__getitem__") ht.typeIs PyProof.Rows.slot_tuple_getitem
  (wpAny_call_entry PyProof.Rows.slot_tuple_getitem ht.typeIs entry_tuple_getitem ?_ (args_tuple_getitem _ _)))
 show wpAny _ _ (Builtin.Tuple.tupleItemsOf (.ref t) >>=_) _ _ s;refine bd (tupleItemsOf_ ht ?_);refine bd (wpAny_typeOf c ?_);rw[if_pos ∅];refine bd (jf hs pl pu ?_)
 have a:(((sIx items.size 0 lo:Nat):Int) == 0 && (1:Int) == 1 && (sIx items.size items.size hi-sIx items.size 0 lo) == items.size)=true:=by
  rw[hw.1,hw.2];simp
 show wpAny _ _ (if (((sIx items.size 0 lo:Nat):Int) == 0 && (1:Int) == 1 && (sIx items.size items.size hi-sIx items.size 0 lo) == items.size)=true then _ else _) _ _ s;rw[if_pos a];refine bd (m:=Builtin.Tuple.tupleIsExact _) ?_;unfold Builtin.Tuple.tupleIsExact;refine bd (wpAny_typeOf ht.typeIs (bo ?_));show wpAny _ _ (if (Value.type "tuple" == Value.type "tuple")=true then _ else _) _ _ s;rw[if_pos ∅]
 first
  |exact bd (wpAny_rule (bo ⟨_,rfl,bo h⟩))
  |exact bd (wpAny_rule (bd (bo (bo ⟨_,rfl,bo h⟩))))
  |exact bd (bd (wpAny_rule (bo (bo ⟨_,rfl,bo h⟩))))
end
section
variable{X:Cx}
def vfo(K:z3):V->qj Int->qj Int->Hp->VK->Prop:=λx lo hi H Q=>∃a xs,x=.ref a/\SqT K H a xs/\(HT.sIx xs.length 0 lo=0/\HT.sIx xs.length xs.length hi=xs.length)/\Q (.ref a) H
def ytk:SlR X (vfo X.K):=by
 intro d s σ H x v t p lo n u Q I f k g l h;let⟨a,j,rfl,i,m,q⟩:=h;cases f;let⟨c,r,e,o⟩:=I.tuple i;have b:c.toArray.size=j.length:=by rw[bE];exact r.length.symm
 exact⟨"tuple",_,PyProof.Rows.slot_tuple_getitem.lookup,e.typeIs,yca e k g l (by rw[b];exact m) ⟨.ref a,H,I,rfl,q⟩⟩
end
end L2
namespace L2
open PySem PySem.Spec PyProof.Rows PySem.SeqAt
open AutoSeq1 (wpAny_loadPart')
end L2
namespace L2
open PySem PySem.Spec PyProof.Rows
variable{C D d:z4}{tg:qg}{fd:FuncData}{pins:Θ}{es:qi qg}{i j:Nat}{an:qj z4}{P:qh}{st:qc}{p0 p1 qual x:Str}{cdv doc pm:qb}{E:Δ}
def yct{X:Cx}{K:z3}{e:qg}{f:Str}{pos:Pos}{ta:TE}(hK:X.K=K)(he:PE X e ta)(hb:attributeBase e f X.env (eval e X.env)=eval e X.env):PE X (.Attribute e f pos) (vf7 K ta f):=hK ▸ yr he hb
structure ym8(K:z3)(x qual:Str)(st:qc)(D:z4)(f:z4)(fd:FuncData):Prop where
 ex:∃(oc:qb)(od:qj z4)(kV doc pm:qb)(an:qj z4)(cdv ct:qb)(osl:Array (qj qb)),
  fd=W.fnOf x qual (xn st) (xa st) (yd st) (.ref D) kV doc pm an cdv ct/\K.lookup f=some ⟨oc,od,.func fd,osl⟩/\W.codeIn K cdv qual=true
 kp:W.keepIn K (.ref f)=true
section
variable{w:qd}{K:z3}{mg:Ε}{base:qf}
def ym8.ok{f:z4}{N ps:Ρ}{k:Nat}{sp:Sp}(F:ym8 K x qual st D f fd)(S:yk N ps (yd st))(len:∀vs H Q E,sp vs H Q E->vs.length=ps.length)
  (hbody:∀(cdv:qb)(A:qe)(outer:qi Env)(s:qa)(H:Hp)(vs:Τ)(Q:VK)(E:XK),z7 k (A.deeper (envOfC qual (yd st) s.heap.objs.size f cdv))->sp vs H Q E ->
   ∃t,PSs (vo CX0 P w K mg base N qual (yd st) f cdv A outer s H E).nox (xa st) t/\t { nx:=λZ H'=>Q .non H',rt:=Q} (æ N vs) H):vn P w K mg base CX0 (k+1) f fd ps sp:=by let⟨n,i,kV,d,j,m,cdv,l,g,rfl,c,b⟩:=F.ex;refine ymt c b S len λA outer s H vs Q E e a=>?_;let⟨t,h,q⟩:=hbody cdv A outer s H vs Q E e a;exact⟨t,h.nox,q⟩
def ym8.okE{f:z4}{N ps:Ρ}{k:Nat}{sp:Sp}(F:ym8 K x qual st D f fd)(S:yk N ps (yd st))(len:∀vs H Q E,sp vs H Q E->vs.length=ps.length)
  (hbody:∀(cdv:qb)(A:qe)(outer:qi Env)(s:qa)(H:Hp)(vs:Τ)(Q:VK)(E:XK),z7 k (A.deeper (envOfC qual (yd st) s.heap.objs.size f cdv))->sp vs H Q E ->
   ∃t,PSs (vo (CXe P w) P w K mg base N qual (yd st) f cdv A outer s H E) (xa st) t/\t { nx:=λZ H'=>Q .non H',rt:=Q} (æ N vs) H):vn P w K mg base (CXe P w) (k+1) f fd ps sp:=by let⟨m,h,kV,d,i,l,cdv,j,g,rfl,c,b⟩:=F.ex;exact ymt c b S len λA outer s H vs Q E e a=>hbody cdv A outer s H vs Q E e a
def vf2:Nat->(qi qb->Prop)->Prop
 |0,C=>C []
 |n+1,C=>∀a,vf2 n λt=>C (a::t)
def yqq:∀{n:Nat}{C:qi qb->Prop}{us:Ξ},vf2 n C->us.length=n->C us:=by
 intro n C us
 induction us generalizing n C with
 |nil=>intro h e;subst e;exact h
 |cons a t ih=>intro h e;subst e;exact ih (h a) rfl
def bindsR{ps:Ρ}{ds:Ξ}{c:qb}{od:qj z4}{sl:Array (qj qb)}{its:Array qb}{n:Nat}{kV ct:qb}(hj:j+ds.length=ps.length)
  (h:∀(kV doc pm:qb)(an:qj z4)(cdv ct:qb),vf2 j λus =>
   ∃k:qj (Array qb)->Sem (qi (Str×qb)),bindArgs (W.fnOf x qual (xn st) (xa st) (yd st) (.ref D) kV doc pm an cdv ct) ⟨us,[]⟩=(seqItems? (.ref D) >>=k)/\k (some its)=pure (ps.zip (us++ds))) (hD:K.lookup D=some ⟨c,od,.seq its n,sl⟩):uo K (W.fnOf x qual (xn st) (xa st) (yd st) (.ref D) kV doc pm an cdv ct) ps ds:=by intro s us e b;let⟨k,d,a⟩:=yqq (us:=us) (h kV doc pm an cdv ct) (by rw[bf]at b;omega);exact BindsTo.of_defaults rfl (e _ _ hD) rfl d a
def funD_mk{f:z4}{oc:qb}{od:qj z4}{osl:Array (qj qb)}{kV ct:qb}(l:K.lookup f=some ⟨oc,od,.func (W.fnOf x qual (xn st) (xa st) (yd st) (.ref D) kV doc pm an cdv ct),osl⟩)
  (c:W.codeIn K cdv qual=true) (k:W.keepIn K (.ref f)=true):ym8 K x qual st D f (W.fnOf x qual (xn st) (xa st) (yd st) (.ref D) kV doc pm an cdv ct):=⟨⟨oc,od,kV,doc,pm,an,cdv,ct,osl,rfl,l,c⟩,k⟩
end
def yih(K:z3):qi V->Hp->VK->Prop:=λxs H Q=>∃p ys,xs=[.ref p]/\(SqL K H p ys\/SqT K H p ys)/\∀l,H l=none->Q (.ref l) (upd H l (.lst ys))
section
variable{X:Cx}{body suite:qi qc}{b₀:qc}{tx n:Str}{np hpos pos:Pos}{tb:(St->XK)->TS}{ts:TS}
abbrev THs:=ł->St->z4->z4->Hp->Prop
def PHs(X:Cx)(hs:qi ExceptHandler)(th:THs):Prop:=∀(pins:Θ)(s:qa)(σ:St)(H:Hp)(x T Ca:z4)(En:ł),Inv X pins σ H s->Fy X pins H x->Fy X pins H T->Trd s.heap x T (.ref Ca) .none->th En σ Ca x H ->
 wpAny (model X.prog X.w) X.A (handleBy (.ref x) X.env hs) (SP X pins En) X.xe s
def exm_mkB{K:z3}{b:Bool}(h0:W.subIn K (.ref D) (.type "BaseException")=some true)(h1:W.hasDictIn K D=true)(h2:W.typeIn K (.ref D)=some (.type "type"))
  (h3:W.subIn K (.ref C) (.ref D)=some b):W.exmOne K (.ref C) (.ref D)=some b:=by let⟨a,h,_⟩:=W.any_some h1;unfold W.exmOne W.kitCls;rw[h0];dsimp only;rw[h,h2,h3];cases b<;>rfl
def exH(th:THs)(En:ł):St->XK:=λσ' C Z H'=>∀x,H' x=none->∃Ca,C=.ref Ca/\th En σ' Ca x H'
def vbm(tb:(St->XK)->TS)(th:THs):TS:=λEn σ H=>tb (exH th En) En σ H
def yq9{h₀:ExceptHandler}{hs:qi ExceptHandler}{th:THs}(hb:∀pn Ex,PSs (X.tr pn Ex) body (tb Ex))(hst:X.stack=X.env::X.outer/\X.env.frame=some X.env.locals)(hh:PHs X (h₀::hs) th):
  PS X (.Try body (h₀::hs) [] [] pos) (vbm tb th):=by
 refine .mk λa s σ H i I h=>?_
 have m:∀{f n},SP (X.tr (X.pn++a) (exH th i)) [] i f n->SP X a i f n:=λ{f n}q=>by
  cases f with
  |next=>let⟨σ',c,J,q⟩:=q;exact⟨σ',c,J.unwish.unpnd,q⟩
  |brk=>let⟨σ',c,J,q⟩:=q;exact⟨σ',c,J.unwish.unpnd,q⟩
  |cont=>let⟨σ',c,J,q⟩:=q;exact⟨σ',c,J.unwish.unpnd,q⟩
  |ret u=>let⟨v,σ',c,J,r,q⟩:=q;exists v,σ',c,J.unwish.unpnd,r,q
 refine wpAny_Try_except (cJ (hb (X.pn++a) (exH th i) [] s σ H i (I.pnd.wish _) h) (λf j q=>?_) λe j q=>?_)
 .have q:=m q
  cases f with
  |next=>exact wpAny_execs_nil q
  |brk=>exact q
  |cont=>exact q
  |ret u=>exact q
 .obtain⟨O,σ',c,x,T,C,rfl,J,g,d,tr,q⟩:=q;have J:Inv X a σ' c j:=J.unpnd;have g:Fy X a c x:=⟨g.1,g.2.1,g.2.2.1,g.2.2.2.1,g.2.2.2.2.1,λp y=>g.2.2.2.2.2 p (cC _ y)⟩;have d:Fy X a c T:=⟨d.1,d.2.1,d.2.2.1,d.2.2.2.1,d.2.2.2.2.1,λp y=>d.2.2.2.2.2 p (cC _ y)⟩;let⟨G,rfl,M⟩:=q x g.1;let⟨F,z⟩:=è (X:=X) tr;have A:=J.ok.frames;rw[hst.1]at A;have B:=Ø (x:=x) (T:=T) J;rw[hst.1]at B;refine wpAny_noteFrame_onW (base:=hid j X x T) A B hst.2 z Ù ym1 λD ⟨w,k,l,t⟩=>?_;rw[<- hst.1]at k;let⟨J,E,d,tr⟩:=x8 J g d w k l t;let⟨F,z⟩:=è (s:={j with heap:=D}) (X:=X) tr;refine wpAny_setFlight_noneW (base:=hid {j with heap:=D} X x E) Ù (Ø J) z λN w k l t=>?_;let⟨J,L,d,tr⟩:=x8 J g d w k l λb o e K=>⟨o.slots,t b o e K⟩;exact hh a _ σ' c x L G i J g d tr M
end
section
variable{σ:St}{H:Hp}{nx:Ζ}{rt:VK}{bk ct:Ζ}{ts:TS}
def yy5{th:THs}{tb:(St->XK)->TS}(h:tb (exH th ⟨nx,rt,bk,ct⟩) ⟨nx,rt,bk,ct⟩ σ H):vbm tb th ⟨nx,rt,bk,ct⟩ σ H:=h
end
section
variable{X:Cx}{σ:St}{H:Hp}{s:qa}{x T:z4}{C:qb}{M:Model}{A:qe}
def yhu{base:qf}{l:qi Env}{e:z4}{cl a0 fl:qb}{fm:qj z4}{Q:Unit->qa->Prop}
  (hk:base.StaysIn s.heap) (hl:s.heap.FunFrames base l) (tr:s.heap.TracedAtW base e cl a0 fl)
  (h:∀h',base.StaysIn h'->h'.FunFrames base l->h'.TracedAtW base e cl a0 (fm.elim Value.none λf=>rawInt f)->(∀b o,s.heap.get? b=some o->(∀vs,o.data≠.fields vs)->h'.get? b=some o)->Q ⟨⟩ {s with heap:=h'}):
  wpAny M A (setFlight (.ref e) fm) Q E s:=by
 let⟨y,u,U,B,m,t,w,q,p,r,k,j,g,v⟩:=tr;have d:3<m.size:=(Array.getElem?_eq_some_iff.mp v).1;have a:∀b,b≠U->(s.heap.update U (Obj.mapFields (·.setIfInBounds 3 (fm.elim Value.none λf=>rawInt f)))).get? b=s.heap.get? b:=λb i=>Heap.get?_update_other _ _ (Ne.symm i)
 have c:∀b o,s.heap.get? b=some o->(∀vs,o.data≠.fields vs)->b≠U:=λb o i x z=>by
  rw[z,j]at i;cases i;exact x m g
 unfold setFlight;refine bd (cA t q p ?_);rw[if_pos (show (Value.ref U != Value.none)=true by simp)];refine wpAny_setField j g d (h _ (λb o e=>(a b λz=>by rw[z,r]at e;cases e).trans (hk b o e)) (hl.of_keeps λb o e n=>⟨o,(a b (c b o e n)).trans e,rfl⟩) ?_ λb o e n=>(a b (c b o e n)).trans e);exists y,u,U,_,_,(a e (Ne.symm k)).trans t,w,q,p,r,k,Heap.get?_update_self _ j (Obj.isFreed_of_fields (Obj.data_mapFields g _)),Obj.data_mapFields g _,by simp[d]
def yru{what:String}{α:Type}{env:Env}{L:z4}{fl:qb}{Q:α->qa->Prop}(hL:env.frame=some L)(J:Inv X pins σ H s)(hx:Fy X pins H x)(hT:Fy X pins H T)(tr:Trd s.heap x T C fl)
  (k:∀s' T',Inv X pins σ H s'->Fy X pins H T'->Trd s'.heap x T' C (rawInt L)->E (.ref x) s'):wpAny M A (passOn what (.ref x) env:Sem α) Q E s:=by let⟨q,n⟩:=è (X:=X) tr;let⟨G,D,t,y,u,p,F,h,d,w,r,z,B⟩:=id tr;unfold PySem.passOn;refine bd (cA p h d ?_);rw[if_neg (show ¬((Value.ref T == Value.none)=true) by simp)];refine bd (yhu (base:=hid s X x T) Ù (Ø J) n λv m l c i=>?_);rw[hL]at c;let⟨f,T',a,j⟩:=x8 J hx hT m l c λb o e g=>⟨o.slots,i b o e g⟩;exact wpAny_throw (k _ T' f a j)
def yqa(X:Cx)(Ex:XK):Prop:=∀(pins:Θ)(σ:St)(H:Hp)(s':qa)(x T:z4)(C:qb)(L:z4),X.env.frame=some L->Inv X pins σ H s'->Fy X pins H x->Fy X pins H T->Trd s'.heap x T C (rawInt L)->Ex C none H->X.xe (.ref x) s'
def yh5{w:qd}{K:z3}{mg:Ε}{base:qf}{N:Ρ}{scope:Scope}{f:z4}{cd:qb}{outer:qi Env}{E:XK}:
  yqa (vo (CXe P w) P w K mg base N qual scope f cd A outer s H E) E:=by intro a σ g k x T C L p I i B t q;show wpAny _ _ (leaving _ _) _ _ _;let⟨F,l⟩:=è (X:=vo (CXe P w) P w K mg base N qual scope f cd A outer s H E) t;unfold leaving;refine bd (wpAny_noteFrame_againW (base:=hid k (vo (CXe P w) P w K mg base N qual scope f cd A outer s H E) x T) p l ?_);refine wpAny_setFlight_noneW (base:=hid k (vo (CXe P w) P w K mg base N qual scope f cd A outer s H E) x T) Ù (Ø I) l λG D y n u=>?_;let⟨c,m,d,v⟩:=x8 I i B D y n λb o e r=>⟨o.slots,u b o e r⟩;have h:∀{b},Fy (vo (CXe P w) P w K mg base N qual scope f cd A outer s H E) a g b->g b=none/\s.heap.get? b=none:=λj=>⟨j.1,j.2.2.2.1.resolve_left (by intro z;cases z)⟩;exists x,m,C,g,rfl,c.os,c.bare,c.base,c.hok,h i,h d,v,q
end
section
variable{M:Model}{h:qf}{K:z3}
def yau{β:Type}{g:qb->β->Sem (ForInStep β)}{b0:β}{cs:Ξ}(hg:∀c∈cs,W.Looks M h (g c b0) (.yield b0)):W.Looks M h (forIn cs b0 g) b0:=by
 induction cs with
 |nil =>
  intro A Q E s k q;rw[List.forIn_nil];exact bo q
 |cons c r ih =>
  intro A Q E s k q;rw[List.forIn_cons];exact bd (hg c (by simp) A _ E s k (ih (λd a=>hg d (by simp[a])) A Q E s k q))
def yrl{cs:Ξ}{cls:qb}{tp e:z4}{m:Nat}{ob:Obj}(X:K.In h)(LT:W.Looks M h (typeOf (.ref e)) cls){h2:qf}(hk:∀b o,h.get? b=some o->h2.get? b=some o)(hp:h2.get? tp=some ob)(hc:ob.cls=.type "tuple")(hd:ob.data=.seq cs.toArray m)(hx:∀c∈cs,W.exmOne K cls c=some false):W.Looks M h2 (excMatches (.ref e) (.ref tp)) false:=by
 have f:W.Looks M h2 (isInstance (.ref tp) (.type "tuple")) true:=by
  have e:W.Looks M h2 (typeOf (.ref tp)) ob.cls:=(W.Looks.ld hp).andThen .now;rw[hc]at e;exact e.andThen (W.Looks.of_pure isSubtype_tuple_tuple)
 intro A Q E s k q;have a:∀b o,h.get? b=some o->s.heap.get? b=some o:=λb o z=>k b o (hk b o z);unfold excMatches;refine bd (f A _ E s k ?_);dsimp only;rw[if_pos rfl];refine bd (wpAny_seqItems (k _ _ hp) hd ?_);dsimp only[Option.getD_some,Option.getD];refine bd (bo ?_);refine bd (yau (M:=M) (h:=h) (cs:=cs) (λc hc=>?_) A _ E s a ?_)
 .intro A Q E s k q;let⟨d,_⟩:=W.exm_cls (M:=M) X (hx c hc);refine bd (d A _ E s k ?_);rw[if_neg ∅];exact bo q
 .refine bd (LT A _ E s a ?_);refine bd (yau (M:=M) (h:=h) (b0:=((none:qj Bool),Unit.unit)) (cs:=cs) (λc hc=>?_) A _ E s a ?_)
  .intro A Q E s k q;let⟨_,d⟩:=W.exm_cls (M:=M) X (hx c hc);refine bd (d A _ E s k ?_);rw[if_neg ∅];exact bo q
  .exact bo q
end
section
variable{X:Cx}{suite:qi qc}{b₀:qc}{tx n:Str}{np hpos pos:Pos}{ts:TS}
def ypp(Ex:XK):THs:=λZ Z Ca Z H=>Ex (.ref Ca) none H
def yrf{L:z4}{Ex:XK}(hf:X.env.frame=some L)(hca:yqa X Ex):PHs X [] (ypp Ex):=λa Z σ H x Z Z Z J c g f q =>
 wpAny_handleBy_nil (yru (X:=X) hf J c g f λi h e b d=>hca a σ H i x h _ L hf e c b d q)
def thT(K:z3)(cs:Υ)(tr:THs):THs:=λEn σ Ca x H=>(∀D∈cs,W.exmOne K (.ref Ca) (.ref D)=some false)/\∀p,H p=none->p≠x->tr En σ Ca x (upd H p (.tup (cs.map V.ref)))
def yxz{nm:qj Str}{px2:Pos}{ctx:Nat}{cs:Υ}{t:TE}{j3:qi ExceptHandler}{tr:THs}(ht:∀pn x,PE (X.su pn x) (.Tuple es ctx px2) t)(hte:∀σ H(Q:VK),(∀p,H p=none->Q (.ref p) (upd H p (.tup (cs.map V.ref))))->t σ H Q)(hr:PHs X j3 tr):
  PHs X (.ExceptHandler (some (.Tuple es ctx px2)) nm (b₀::suite) hpos::j3) (thT X.K cs tr):=by
 intro a s σ H x T k En J j o y q;let⟨E,q⟩:=q;let⟨f,us,l,ws,a1,O,F,I,R,q5,q6,L,q8⟩:=id y;have S:=J.ok
 have P:Inv X (a++[(x,f),(T,l)]) σ H s:=J.pins_of λp g=>by
  rcases bM.mp g with z|z
  .exact J.pin p (bQ _ z)
  .simp only[bw,List.not_mem_nil,or_false]at z;rcases z with rfl|rfl
   .exists O,j.1,j.2.1,j.2.2.1,λv e=>by rw[I]at e;cases e
   .exists q6,o.1,o.2.1,o.2.2.1,λv e=>by rw[L]at e;cases e
 have Z:Ź x k s.heap:=⟨f,O,F.1⟩;refine wpAny_handleBy_cons (codeAny_handlers_test ?_) (by intro z;cases z);refine cJ (ht (X.pn++(a++[(x,f),(T,l)])) x [] s σ H (λv G=>∃p,v=.ref p/\H p=none/\G=upd H p (.tup (cs.map V.ref))) (P.su x) (hte σ H _ λp g=>⟨p,rfl,g,rfl⟩)) (λc i A=>?_) λ_ _ z=>False.elim z;let⟨v,G,d,r1,p,rfl,g,rfl⟩:=A;obtain rfl:c=.ref p:=r1;have d:=d.unsu S;have n:=d.pin (x,f) (by simp);have N:=d.pin (T,l) (by simp);have r:Fy X a (upd H p (.tup (cs.map V.ref))) x:=⟨n.2.1,j.2⟩;have B:Fy X a (upd H p (.tup (cs.map V.ref))) T:=⟨N.2.1,o.2⟩;have u:Trd i.heap x T (.ref k) .none:=⟨f,us,l,ws,a1,n.1,F,I,R,q5,N.1,L,q8⟩;have d:Inv X a σ (upd H p (.tup (cs.map V.ref))) i:=Inv.unpinned d;have C:Ź x k i.heap:=⟨f,n.1,F.1⟩;let⟨_,a0,hv,ho⟩:=d.hok p (.tup (cs.map V.ref)) ya;have Y:=ya8 hv;subst Y;have nx:=q p g λz=>by have e:=n.2.1;rw[z]at e;exact absurd (ya.symm.trans e) (by intro w;cases w)
 let⟨ob,U,o2,m,o3⟩:=ho;refine yrl (M:=model X.prog X.w) (h:=i.heap) d.kIn C.type (λ_ _ z=>z) U o2 o3 (λc A=>?_) _ _ _ _ (λ_ _ z=>z) ?_
 .obtain⟨D,W,rfl⟩:=bn.mp A;exact E D W
 .exact hr a _ σ _ x T k En d r B u nx
end
section
variable{σ:St}{H:Hp}{ts:TS}{K:z3}{Ca:z4}{tr:THs}{En:ł}{cs:Υ}
def ve8{Ex:XK}(h:Ex (.ref Ca) none H):exH (ypp Ex) En σ (.ref Ca) none H:=λZ Z=>⟨Ca,rfl,h⟩
def yyk(hex:∀D∈cs,W.exmOne K (.ref Ca) (.ref D)=some false)(h:∀p,H p=none->exH tr En σ (.ref Ca) none (upd H p (.tup (cs.map V.ref)))):exH (thT K cs tr) En σ (.ref Ca) none H:=λx c=>by
 exists Ca,rfl,hex,λp b a=>?_;let⟨d,e,q⟩:=h p b x (by rw[yq a.symm];exact c);cases e;exact q
end
def pG{p:Prop}(h:p):p:=h
structure Dg(K:z3)(x q:Str)(st:qc)(f:z4)(fd:FuncData)(M:Prop):Prop where
 F:Fun K x q st f fd
 m:M
structure Df(K:z3)(x q:Str)(st:qc)(ps:Ρ)(f:z4)(fd:FuncData)(M:Prop):Prop where
 F:Fun K x q st f fd
 B:uo K fd ps []
 m:M
def yj9{α:Type}{n:Nat}{a:qi α}(h:a.length=n+1):∃x r,a=x::r/\r.length=n:=by
 cases a with
 |nil=>cases h
 |cons x r=>exists x,r,rfl,Nat.succ.inj h
abbrev Dgf(K:z3)(mg:Ε)(x:Str)(st:qc)(f:z4)(fd:FuncData):Prop:=Dg K x x st f fd (mg x=some (.ref f))
abbrev Dgm(K:z3)(C:z4)(x q:Str)(st:qc)(f:z4)(fd:FuncData):Prop:=Dg K x q st f fd (Meth K C x f)
abbrev Dff(K:z3)(mg:Ε)(x:Str)(st:qc)(ps:Ρ)(f:z4)(fd:FuncData):Prop:=Df K x x st ps f fd (mg x=some (.ref f))
abbrev Dfm(K:z3)(C:z4)(x q:Str)(st:qc)(ps:Ρ)(f:z4)(fd:FuncData):Prop:=Df K x q st ps f fd (Meth K C x f)
section
variable{K:z3}{mg:Ε}{h:qf}{q:Str}{f:z4}{M:Prop}{oc kV ct:qb}{od:qj z4}{osl:Array (qj qb)}
def dgf_mk(X:K.In h)(G:h.Ns mainGlobals mg)(a:W.nsIn K mainGlobals x=some (some (.ref f)))(l:K.lookup f=some ⟨oc,od,.func (W.fnOf x x (xn st) (xa st) (yd st) .none kV doc pm an cdv ct),osl⟩)
  (c:W.codeIn K cdv x=true) (k:W.keepIn K (.ref f)=true):Dgf K mg x st f (W.fnOf x x (xn st) (xa st) (yd st) .none kV doc pm an cdv ct):=⟨ynj l c k,W.mg_of X G a⟩
def dgm_mk(a:W.findIn K (.ref C) x=some (some (.ref f)))(i:W.isFn K (.ref f)=true)(l:K.lookup f=some ⟨oc,od,.func (W.fnOf x q (xn st) (xa st) (yd st) .none kV doc pm an cdv ct),osl⟩)
  (c:W.codeIn K cdv q=true) (k:W.keepIn K (.ref f)=true):Dgm K C x q st f (W.fnOf x q (xn st) (xa st) (yd st) .none kV doc pm an cdv ct):=⟨ynj l c k,a,i,k⟩
def Dg.d1(D:Dg K x q st f fd M)(h:∀(kV doc pm:qb)(an:qj z4)(cdv ct:qb)(u0:qb),bindArgs (W.fnOf x q (xn st) (xa st) (yd st) .none kV doc pm an cdv ct) ⟨[u0],[]⟩=pure [(p0,u0)]:=by intros;rfl):Df K x q st [p0] f fd M :=
 ⟨D.F,D.F.binds λkV doc pm an cdv ct d a=>(by
  let⟨u0,c,rfl,b⟩:=yj9 a;obtain rfl:=cN b;exact h kV doc pm an cdv ct u0),D.m⟩
def Dg.d2(D:Dg K x q st f fd M)(h:∀(kV doc pm:qb)(an:qj z4)(cdv ct:qb)(u0 u1:qb),bindArgs (W.fnOf x q (xn st) (xa st) (yd st) .none kV doc pm an cdv ct) ⟨[u0,u1],[]⟩=pure [(p0,u0),(p1,u1)]:=by intros;rfl):Df K x q st [p0,p1] f fd M :=
 ⟨D.F,D.F.binds λkV doc pm an cdv ct g a=>(by
  let⟨u0,d,rfl,b⟩:=yj9 a;let⟨u1,e,rfl,c⟩:=yj9 b;obtain rfl:=cN c;exact h kV doc pm an cdv ct u0 u1),D.m⟩
def Dg.d3{p2:Str}(D:Dg K x q st f fd M)(h:∀(kV doc pm:qb)(an:qj z4)(cdv ct:qb)(u0 u1 u2:qb),bindArgs (W.fnOf x q (xn st) (xa st) (yd st) .none kV doc pm an cdv ct) ⟨[u0,u1,u2],[]⟩=pure [(p0,u0),(p1,u1),(p2,u2)]:=by intros;rfl):Df K x q st [p0,p1,p2] f fd M :=
 ⟨D.F,D.F.binds λkV doc pm an cdv ct j a=>(by
  let⟨u0,e,rfl,c⟩:=yj9 a;let⟨u1,i,rfl,d⟩:=yj9 c;let⟨u2,g,rfl,b⟩:=yj9 d;obtain rfl:=cN b;exact h kV doc pm an cdv ct u0 u1 u2),D.m⟩
def Dg.d4{p2 p3:Str}(D:Dg K x q st f fd M)(h:∀(kV doc pm:qb)(an:qj z4)(cdv ct:qb)(u0 u1 u2 u3:qb),bindArgs (W.fnOf x q (xn st) (xa st) (yd st) .none kV doc pm an cdv ct) ⟨[u0,u1,u2,u3],[]⟩=pure [(p0,u0),(p1,u1),(p2,u2),(p3,u3)]:=by intros;rfl):Df K x q st [p0,p1,p2,p3] f fd M :=
 ⟨D.F,D.F.binds λkV doc pm an cdv ct k b=>(by
  let⟨u0,g,rfl,d⟩:=yj9 b;let⟨u1,j,rfl,e⟩:=yj9 d;let⟨u2,i,rfl,c⟩:=yj9 e;let⟨u3,l,rfl,a⟩:=yj9 c;obtain rfl:=cN a;exact h kV doc pm an cdv ct u0 u1 u2 u3),D.m⟩
end
def yp0{K:z3}{W:z4}{od:qj z4}{its:Array qb}{n:Nat}{sl:Array (qj qb)}{xs:Τ}(l:K.lookup W=some ⟨.type "tuple",od,.seq its n,sl⟩)(hz:its.size<=sizeLine)(hv:wu xs its.toList):∀H,SqT K H W xs:=λZ=>.inr ⟨_,_,_,l,rfl,rfl,hz,hv⟩
structure KC(K:z3)(C:z4):Prop where
 pg:W.plainGet K C Str.empty=true
 hd:W.hasDictIn K C=true
 po:W.plainOver K C=true
 sa:W.findIn K (.ref C) "__setattr__"=some (some (.builtin "object.__setattr__"))
 mk':W.makesIn K C=true
 kc:W.keepIn K (.ref C)=true
section
variable{K:z3}{H:Hp}{p dx:z4}{fs fs':Ι}{v:V}{nm:Str}{P:V->Prop}{nx:Ζ}{σ:St}
abbrev RdX(K:z3)(H:Hp)(p:z4)(nm:Str)(P:V->Prop):Prop:=∃a' C dx fs v,V.ref p=.ref a'/\H a'=some (.ins C dx fs)/\Cls K C/\NoAttr K C nm/\fs.lookup nm=some v/\P v
abbrev StX(K:z3)(H:Hp)(p:z4)(nm:Str)(v:V)(nx:Ζ)(σ:St):Prop:=∃a' C dx fs,V.ref p=.ref a'/\H a'=some (.ins C dx fs)/\Cls K C/\NoAttr K C nm/\fs.length<1000/\wg nx σ (upd H a' (.ins C dx (ζ nm v fs)))
abbrev MtX(H:Hp)(p C:z4)(nm:Str)(R:Prop):Prop:=∃a dx fs,V.ref p=.ref a/\H a=some (.ins C dx fs)/\fs.lookup nm=none/\R
def rdX(hp:H p=some (.ins C dx fs))(c:Cls K C)(n:NoAttr K C nm)(l:fs.lookup nm=some v)(h:P v):RdX K H p nm P:=⟨p,C,dx,fs,v,rfl,hp,c,n,l,h⟩
def stX(hp:H p=some (.ins C dx fs))(c:Cls K C)(n:NoAttr K C nm)(l:fs.length<1000)(e:ζ nm v fs=fs')(h:wg nx σ (upd H p (.ins C dx fs'))):StX K H p nm v nx σ:=⟨p,C,dx,fs,rfl,hp,c,n,l,by rw[e];exact h⟩
def gRd(h:RdX K H p nm P):RdX K H p nm P:=h
def gSt(h:StX K H p nm v nx σ):StX K H p nm v nx σ:=h
def gMt{R:Prop}(h:MtX H p C nm R):MtX H p C nm R:=h
def lt0:([]:Ι).length<1000:=by show 0<1000;decide
def lt1{a:Str×V}:[a].length<1000:=by show 1<1000;decide
def lt2{a b:Str×V}:[a,b].length<1000:=by show 2<1000;decide
def lt3{a b c:Str×V}:[a,b,c].length<1000:=by show 3<1000;decide
def lt4{a b c d:Str×V}:[a,b,c,d].length<1000:=by show 4<1000;decide
def lt5{a b c d e:Str×V}:[a,b,c,d,e].length<1000:=by show 5<1000;decide
def lt6{a b c d e f:Str×V}:[a,b,c,d,e,f].length<1000:=by show 6<1000;decide
theorem vcv:∀{fs:Ι},nm∉fs.map (·.1)->fs.lookup nm=none
 |[],_=>rfl
 |(g,v)::r,h=>wj (λe=>h (by rw[e];exact bI)) (vcv λm=>h (bH _ m))
def mtX{R:Prop}{N:Ρ}(hp:H p=some (.ins C dx fs))(k:fs.map (·.1)=N)(n:nm∉N)(h:R):MtX H p C nm R:=⟨p,dx,fs,rfl,hp,vcv (by rw[k];exact n),h⟩
def v9{N P:Ρ}{sc:Scope}(h:(sc.kind=.function/\sc.isCoroutine=false/\sc.isGenerator=false)/\N.Nodup/\N.take P.length=P/\(∀x∈P,sc.names.lookup x=some .local\/sc.names.lookup x=some .cell)/\∀y∈sc.names,y.2≠.free):yk N P sc:=⟨h.1.1,h.1.2.1,h.1.2.2,h.2.1,h.2.2.1,h.2.2.2.1,h.2.2.2.2⟩
end
def Inv.freeze{X:Cx}{σ:St}{H:Hp}{s:qa}{u:HO}{o:Obj}(I:Inv X pins σ H s)(hd:H d=some u)(mu:Mut (some u))(ho:s.heap.get? d=some o):Inv X pins σ (upd H d (.frz o u)) s:=by
 have h:∀{b},H b=none->b≠d:=λn z=>by rw[z,hd]at n;cases n
 have a:∀{b v},H b=some v->¬Mut (some v)->b≠d:=λe n z=>by rw[z,hd]at e;cases e;exact n mu
 exists I.ok,I.os,I.bare,⟨I.base.keep,I.base.slot,λb i e n l=>?_,I.base.there,λb A e=>?_,λb i v e=>?_,λb t e=>?_⟩,I.loc,I.cell,?_,λx c e=>?_,λp w=>?_,λb v e=>?_,I.len
 .have z:=I.base.free b i e n l;rw[yq (h z)];exact z
 .have z:=I.base.tups b A e;rw[yq (a z id)];exact z
 .have z:=I.base.frzs b i v e;rw[yq (a z id)];exact z
 .obtain⟨m,z⟩:=I.base.tbls b t e;exists m,by rw[yq (a z id)];exact z
 .rw[yq (h I.free)];exact I.free
 .rw[yq (h (I.freeC x c e))];exact I.freeC x c e
 .obtain⟨r,j,k⟩:=I.pin p w;exists r,by rw[yq (h j)];exact j,k
 .have f:∀{c y},H c=some (.own y)->upd H d (.frz o u) c=some (.own y):=λq=>by rw[yq (a q id)];exact q
  have g:∀{c y},H c=some (.tup y)->upd H d (.frz o u) c=some (.tup y):=λq=>by rw[yq (a q id)];exact q
  by_cases hb:b=d
  .subst hb;rw[ya]at e;cases e;exists ho,(I.hok b _ hd).stay (λZ Z Z q=>q) (λZ q=>f q) λZ Z q=>g q
  .rw[yq hb]at e;exact(I.hok b v e).stay (λZ Z Z q=>q) (λZ q=>f q) λZ Z q=>g q
def Inv.thaw{X:Cx}{σ:St}{H:Hp}{s:qa}{u:HO}{o:Obj}(I:Inv X pins σ H s)(h0:∀o u,X.H₀ d≠some (.frz o u))(hd:H d=some (.frz o u)):Inv X pins σ (upd H d u) s:=by
 have g:∀{b},H b=none->b≠d:=λn z=>by rw[z,hd]at n;cases n
 exists I.ok,I.os,I.bare,⟨I.base.keep,I.base.slot,λb h e n k=>?_,I.base.there,λb A e=>?_,λb h u e=>?_,λb r e=>?_⟩,I.loc,I.cell,?_,λx c e=>?_,λp t=>?_,λb v e=>?_,I.len
 .have z:=I.base.free b h e n k;rw[yq (g z)];exact z
 .have z:=I.base.tups b A e;rw[yq (xr z hd (by intro w;cases w))];exact z
 .rw[yq (λz=>h0 h u (by rw[<- z];exact e))];exact I.base.frzs b h u e
 .obtain⟨m,z⟩:=I.base.tbls b r e;exists m,by rw[yq (xr z hd (by intro w;cases w))];exact z
 .rw[yq (g I.free)];exact I.free
 .rw[yq (g (I.freeC x c e))];exact I.freeC x c e
 .obtain⟨l,i,j⟩:=I.pin p t;exists l,by rw[yq (g i)];exact i,j
 .have a:∀{c y},H c=some (.own y)->upd H d u c=some (.own y):=λq=>by rw[yq (xr q hd (by intro w;cases w))];exact q
  have f:∀{c y},H c=some (.tup y)->upd H d u c=some (.tup y):=λq=>by rw[yq (xr q hd (by intro w;cases w))];exact q
  by_cases hb:b=d
  .subst hb;rw[ya]at e;cases e;exact(I.hok b _ hd).2.stay (λZ Z Z q=>q) (λZ q=>a q) λZ Z q=>f q
  .rw[yq hb]at e;exact(I.hok b v e).stay (λZ Z Z q=>q) (λZ q=>a q) λZ Z q=>f q
def ygn{α β:Type}{F:α->β->Prop}{l₁:qi α}{l₂:qi β}(h:Paired F l₁ l₂):∀{i:Nat}{y:β},l₂[i]?=some y->∃x,l₁[i]?=some x/\F x y:=by
 induction h with
 |nil=>intro i y e;cases e
 |cons r t ih =>
  intro i y e
  cases i with
  |zero=>cases e;exists _,rfl,r
  |succ j=>exact ih e
noncomputable def Its(x:Str):It:=⟨λi Z=>i<x.cps.size,λi H v H'=>H'=H/\∃c,x.cps[i]?=some c/\v=.str ⟨#[c]⟩,λi Z=>i=x.cps.size⟩
def ydl{w:qd}{K:z3}{ty:String}(x:Str)(t:Tok)(it:z4)(hn:["enumerate","zip","dict_itemiterator","dict_reverseitemiterator","odict_iterator","itertools.zip_longest","itertools.pairwise"].contains ty=false)
  (W:∀A:qe,A.handled=none->Walks P w A it [it] [it] x.cps.size (SignAt x) (λi h=>h.IsStrIter it ty x t i)) (hs:∀(A:qe)(i:Nat)(s:qa)(Q E:Δ),s.heap.IsStrIter it ty x t i->Q (.ref it) s->wpAny (model P w) A (pyIter (.ref it)) Q E s):yga P w K tg (Its x) [it] it (λi h=>h.IsStrIter it ty x t i) where
 mem:=by simp
 obj:=λi h a b g=>by
  have e:b=it:=by simpa using g
  subst e;let⟨o,e,_,d⟩:=a;exists o,e,λv z=>by rw[d]at z;cases z
 keep:=λi h n a k=>let ⟨o,e,r⟩:=a;⟨o,k it (by simp) o e,r⟩
 item:=by
  intro X J D y L i f s σ H E I m a j;subst J D y;let⟨B,p,R,M,F,q⟩:=m it (by simp);refine(W X.A (I.ok.hd L)).item i s _ _ j a λv n C U l G=>?_;let⟨c,u,N,rfl⟩:=U;have S:Inv X f σ H {s with heap:=n,toks:=C}:=I.turned (λb o g e=>G b o (by simpa using g) e) B p M F q;let⟨o,e,O,T⟩:=id l;exists _,rfl,yf3 (s:={s with heap:=n,toks:=C}) e O T hn ⟨.str ⟨#[c]⟩,H,S,⟨u,rfl⟩,⟨rfl,c,N,rfl⟩,l,λb g=>(m b g).1⟩
 done:=by
  intro X J D y L i f s σ H E I m a j;subst J D y;have j:i=x.cps.size:=j;subst j;let⟨B,p,R,M,F,q⟩:=m it (by simp);exact(W X.A (I.ok.hd L)).done s _ _ a λn C G=>⟨rfl,I.turned (λb o g e=>G b o (by simpa using g) e) B p M F q⟩
 self:=λA i s Q E a h=>hs A i s Q E a h
section
variable{X:Cx}
def vgp(tl:TE):TI:=λσ H R=>tl σ H λv H1=>∃x,v=.str x/\R (Its x) H1
def yes{l:qg}{tl:TE}(hl:PE X l tl):PI X tg l (vgp tl):=by
 intro a s σ H R I h;refine thn (hl a s σ H _ I h) λv c h'=>?_;let⟨y,g,f,k,x,e,q⟩:=h';subst e;let⟨t,rfl⟩:=k
 have d:∀{ob:Obj},∀b∈[c.heap.objs.size],ye3 X a g b:=λ{_}b m=>by
  have e:b=c.heap.objs.size:=by simpa using m
  subst e;exact f.fpOk (bj _) (f.hok.fresh (bj _))
 cases ha:x.cps.all (· <128)
 .refine wpAny_pyIter_wide ha ?_;exists c.heap.objs.size,[c.heap.objs.size],_,_,g,rfl,f.kept (t':=c.toks) λb o e=>bh _ e,ydl x t _ ∅ (λA i=>Walks.strWide i _ x t) (λZ Z Z Z Z j h=>wpAny_pyIter_striter_wide j h),⟨_,bx _ rfl,rfl,rfl⟩,d (ob:=default),q
 .refine wpAny_pyIter_ascii ha ?_;exists c.heap.objs.size,[c.heap.objs.size],_,_,g,rfl,f.kept (t':=c.toks) λb o e=>bh _ e,ydl x t _ ∅ (λA i=>Walks.strAscii i _ x t) (λZ Z Z Z Z j h=>wpAny_pyIter_striter_ascii j h),⟨_,bx _ rfl,rfl,rfl⟩,d (ob:=default),q
def ywf{tl:TE}{σ:St}{H:Hp}{R:It->Hp->Prop}(h:tl σ H λv H1=>∃x,v=.str x/\R (Its x) H1):vgp tl σ H R:=h
def ja{k:Str}{t:Tok}{pos:Pos}(hg:Gl X x)(hm:X.mg x=some (.str k t))(hd:(x == ("__debug__":Str))=false:=by decide):PE X (.Name x pos) (tC (.str k)):=yco hg hm ⟨t,rfl⟩ hd
end
def Å{te:TE}{R:Hp->Prop}{H1:Hp}(f:Nat->V)(hD:H1 D=none)
  (hs:∀i c H,x.cps[i]?=some c->i<x.cps.size->yv H1 H->H D=some (.lst ((List.range i).map f))->te [some (.str ⟨#[c]⟩)] H (MpK H1 D f x.cps.size i)) (hd:∀H,yv H1 H->H D=some (.lst ((List.range x.cps.size).map f))->R H):yeq (Its x) te D R H1:=by
 exists cW x.cps.size (Mp H1 D f),⟨x.cps.size,by simp,bN _,Mp.zero hD⟩,?_;rintro i m H ⟨rfl,b,p⟩;by_cases hlt:i<x.cps.size
 .refine .inr ⟨hlt,λv d y=>?_⟩;let⟨rfl,c,a,rfl⟩:=y;exact hs i c _ a hlt p.1 p.2
 .have e:i=x.cps.size:=()
  subst e;exact .inl ⟨rfl,hd H p.1 p.2⟩
noncomputable def Itv(o:Obj)(d:z4)(kvs:qi (Key×V)):It :=
 ⟨λi H=>H d=some (.frz o (.dK kvs))/\i<kvs.length,λi H x H'=>H'=H/\∃k,kvs[i]?=some (k,x),λi H=>H d=some (.frz o (.dK kvs))/\kvs.length<=i⟩
def vei{w:qd}{k:Key}{u:qb}(r:(wv P w).is k u=true):xl (kV k) u:=by rcases w8 r with⟨i,t,rfl,rfl⟩|⟨x,t,rfl,rfl⟩<;>exact⟨t,rfl⟩
def KV.get{kvs:qi (Key×V)}{vs:qi (Key×qb)}(r:KV kvs vs){k:Key}{u:qb}(h:vs[i]?=some (k,u)):∃v,kvs[i]?=some (k,v)/\xl v u:=by let⟨⟨c,v⟩,e,a,b⟩:=ygn r h;have a:c=k:=a;exists v,by rw[e,a],b
def yq2{xs:Τ}{us:Ξ}(hl:xs.length=us.length)(h:∀(i:Nat)u,us[i]?=some u->∃x,xs[i]?=some x/\xl x u):wu xs us:=by
 induction xs generalizing us with
 |nil =>
  cases us with
  |nil=>exact .nil
  |cons u us=>cases hl
 |cons x xs ih =>
  cases us with
  |nil=>cases hl
  |cons u us =>
   let⟨y,e,r⟩:=h 0 u rfl;cases e;exact .cons r (ih (Nat.succ.inj hl) λi u a=>h (i+1) u a)
def yo8{X:Cx}{σ:St}{H:Hp}{s:qa}{kvs:qi (Key×V)}{o:Obj}{es:Array DictEntry}{ep:Nat}(I:Inv X pins σ H s)(hd:H d=some (.frz o (.dK kvs)))(ho:o.data=.dict es ep):∃vs,KV kvs vs/\s.heap.DictAt (wv X.prog X.w) d vs ep:=by let⟨b,_,_,vs,r,i,h,f,c,e,a,g⟩:=(show xm X.prog X.w H s.heap d (.frz o (.dK kvs))from I.hok d _ hd);rw[b]at c;cases c;rw[ho]at a;cases a;exists vs,r,o,es,b,e,ho,g
def yhi{w:qd}{K:z3}{o:Obj}{es:Array DictEntry}{ep:Nat}{kvs:qi (Key×V)}(d it:z4)(hne:d≠it)(ho:o.data=.dict es ep):yga P w K tg (Itv o d kvs) [it] it (λi h=>h.IsValIter it d i kvs.length ep) where
 mem:=by simp
 obj:=λi h a b f=>by
  have e:b=it:=by simpa using f
  subst e;let⟨o,e,_,d⟩:=a;exists o,e,λv z=>by rw[d]at z;cases z
 keep:=λi h m a k=>a.at λo e=>k it (by simp) o e
 item:=by
  intro X C x q D i c s σ H E I l a ⟨u,a0⟩;subst C x q;let⟨t,n,Q,F,B,p⟩:=l it (by simp);let⟨L,r,G⟩:=yo8 I u ho;have j:=r.length;have W:=Walks.dictValues (knd:=wv X.prog X.w) (prog:=X.prog) (w:=X.w) (A:=X.A) (I.ok.hd D) it d hne L ep;refine W.item i s _ _ () ⟨by rw[<- j];exact a,G⟩ λv m J hv g Z=>?_;let⟨k,N⟩:=hv;let⟨y,Y,S⟩:=r.get N;have I1:Inv X c σ H {s with heap:=m,toks:=J}:=I.turned (λb o f e=>Z b o (by simpa using f) e) t n F B p;let⟨o',T,R,M⟩:=id g.1;exists _,rfl,yf3 (s:={s with heap:=m,toks:=J}) T R M ∅ ⟨y,H,I1,S,⟨rfl,k,Y⟩,by rw[j];exact g.1,λb f=>(l b f).1⟩
 done:=by
  intro X C x q D i c s σ H E I l a ⟨u,O⟩;subst C x q;let⟨t,n,Q,F,B,p⟩:=l it (by simp);let⟨L,r,G⟩:=yo8 I u ho;have j:=r.length;exact wpAny_pyNext_values_end (I.ok.hd D) (by rw[<- j];exact a) G (by rw[List.getElem?_eq_none_iff];omega) λm U=>⟨rfl,I.turned (t':=s.toks) (λb o f e=>U b o f e) t n F B p⟩
 self:=λv v v v v a h=>wpAny_pyIter_valiter a h
section
variable{X:Cx}
def vcn(to:TE):TI:=λσ H R=>to σ H λx H1=>∃d kvs,x=.ref d/\H1 d=some (.dK kvs)/\∀o,R (Itv o d kvs) (upd H1 d (.frz o (.dK kvs)))
def yqt{l:qg}{to:TE}{apos cpos:Pos}(hl:PE X l to)(hbase:attributeBase l "values" X.env (eval l X.env)=eval l X.env:=by rfl)(hline:(apos.endLine == cpos.line)=true:=by rfl):PI X tg (.Call (.Attribute l "values" apos) [] [] cpos) (vcn to):=by
 intro j s σ H R I h;refine wpAny_Call_method0_late hbase hline (thn (hl j s σ H _ I h) λv c h'=>?_);let⟨x,E,B,D,d,kvs,e,A,q⟩:=h';subst e;cases D;let⟨_,m,t,r,k,K,ep,f,n,z,G⟩:=(show xm X.prog X.w E c.heap d (.dK kvs)from B.hok d _ A);have u:c.heap.DictAt (wv X.prog X.w) d t ep:=⟨k,K,f,n,z,G⟩;refine⟨"dict","dict.values",F.plainAttrs_dict,F.slot_dict_values,F.type_dict_values,⟨k,f,n.1⟩,λa J=>by cases J;exact⟨k,f,n.2.1⟩,Calls.callWith_builtin rfl (PySem.evalArgs_none (call_meetsIn F.slot_dict_values u.dictOf.typeIs F.entry_dict_values (F.args_dict_values_1 _) (meets_dict_values (wv X.prog X.w) d m) ⟨⟨t,u.dictOf⟩,?_⟩))⟩;refine wpAny_pyIter_values (knd:=wv X.prog X.w) (d:=d) (kvs:=t) (ep:=ep) ⟨_,bx _ rfl,rfl,rfl⟩ (u.push _) ?_;have p:=B.freeze A trivial f;have i:(c.heap.push { cls:=.type "dict_values",data:=.fields #[.ref d]}).objs.size=c.heap.objs.size+1:=Heap.size_push ..;have y:d<c.heap.objs.size:=br f;exists _,[_],_,_,_,rfl,p.kept (t':=c.toks) λb o e=>bh _ (bh _ e),yhi d _ (show d≠(c.heap.push _).objs.size by rw[i];exact bS (Nat.lt_succ_of_lt y)) z,⟨_,bx _ rfl,rfl,by rw[r.length];rfl⟩,λb C=>?_,q k;have e:b=(c.heap.push { cls:=.type "dict_values",data:=.fields #[.ref d]}).objs.size:=by simpa using C
 have g:c.heap.objs.size<=b:=by rw[e,i];omega
 exact p.fpOk g (p.hok.fresh g)
def ysd{to:TE}{σ:St}{H:Hp}{R:It->Hp->Prop}(h:to σ H λx H1=>∃d kvs,x=.ref d/\H1 d=some (.dK kvs)/\∀o,R (Itv o d kvs) (upd H1 d (.frz o (.dK kvs)))):vcn to σ H R:=h
def yo1(t:TE):TE:=λσ H Q=>t σ H λv H'=>∃d o u,(∀o u,H d≠some (.frz o u))/\H' d=some (.frz o u)/\Q v (upd H' d u)
def yto{e:qg}{t:TE}(h:PE X e t):PE X e (yo1 t):=.mk λa s σ H Q I q=>thn (h a s σ H _ I q) λv f z=>by
 let⟨x,g,J,r,d,o,u,b,c,k⟩:=z;exists x,_,J.thaw (λo u e=>b o u (I.base.frzs d o u e)) c,r,k
def ytn{t:TE}{σ:St}{H:Hp}{Q:VK}(h:t σ H λv H'=>∃d o u,(∀o u,H d≠some (.frz o u))/\H' d=some (.frz o u)/\Q v (upd H' d u)):yo1 t σ H Q:=h
def yzs:qi V->Hp->VK->Prop:=λxs H Q=>∃d kvs,xs=[.ref d]/\H d=some (.dK kvs)/\∀l,H l=none->Q (.ref l) (upd H l (.lst (kvs.map λp=>kV p.1)))
def yfz(hc:X.calm=true):jd X (.type "list") yzs:=by
 intro f s σ H S T Q I r h;let⟨d,kvs,rfl,z,q⟩:=h;let⟨u,rfl,l⟩:=î r;cases l;let⟨g,c,j,r,K,N,ep,o,E,m,G⟩:=(show xm X.prog X.w H s.heap d (.dK kvs)from I.hok d _ z);have L:s.heap.DictAt (wv X.prog X.w) d j ep:=⟨K,N,o,E,m,G⟩;refine W.kdl_call (W.kdl_dict (knd:=wv X.prog X.w) (kvs:=j) (ep:=ep) c) (I.ok.hd hc) L (by rw[<- r.length];exact g) λJ A a t F e b=>?_
 have M:wu (kvs.map λp=>kV p.1) a.toList:=yq2 (by have O:=b.1;have P:=r.length;have R:a.toList.length=a.size:=cj;rw[bc];omega) λi v B=>by
  let⟨k,x,n,D⟩:=b.2 i v (by rw[<- Array.getElem?_toList];exact B);let⟨y,C,_⟩:=r.get n;exists kV k,by rw[bq,C];rfl,vei D
 exists .ref s.heap.objs.size,_,I.laid (t':=A) F (bj _) (show xm X.prog X.w _ J _ (.lst _)from ⟨by rw[bc];exact g,a.toList,t,M,by rw[Array.toArray_toList];exact e⟩),rfl,q _ (I.hok.fresh (bj _))
end
def yf0{o:Obj}{kvs:qi (Key×V)}{te:TE}{fr:St}{R:Hp->Prop}{H1:Hp}(Pv:Nat->Hp->Prop)(h0:Pv 0 (upd H1 D (.lst [])))(hl:∀i H,i<=kvs.length->Pv i H->H d=some (.frz o (.dK kvs)))
  (hs:∀i k v H,kvs[i]?=some (k,v)->i<kvs.length->Pv i H->te (some v::fr) H λy H4=>∃ys,H4 D=some (.lst ys)/\ys.length<sizeLine/\∃m',m'<kvs.length-i/\cW kvs.length Pv (i+1) m' (upd H4 D (.lst (ys++[y])))) (hd:∀H,Pv kvs.length H->R H):ut (Itv o d kvs) te fr D R H1:=by
 exists cW kvs.length Pv,⟨kvs.length,by simp,bN _,h0⟩,?_;rintro i m H ⟨rfl,b,p⟩;have q:=hl i H b p;by_cases hlt:i<kvs.length
 .refine .inr ⟨⟨q,hlt⟩,λx c y=>?_⟩;let⟨rfl,k,a⟩:=y;exact hs i k x _ a hlt p
 .have e:i=kvs.length:=()
  subst e;exact .inl ⟨⟨q,bj _⟩,hd H p⟩
noncomputable def isN:V->Bool
 | .non=>true
 |_=>false
noncomputable def vd3:qb->Bool
 | .none=>true
 |_=>false
def vhf(K:z3):R2:=λx y H Q=>∃p xs,x=.non/\y=.ref p/\SqL K H p xs/\(∀z∈xs,z=.non\/∃q ys,z=.ref q/\SqL K H q ys)/\Q (.bl (xs.any isN)) H
theorem yiu:∀{xs:Τ}{us:Ξ},wu xs us->(∀z∈xs,z=.non\/∃q,z=.ref q)->us.any vd3=xs.any isN
 |_,_,.nil,_=>rfl
 |y::xs,u::us,.cons r t,f=>by
  rw[List.any_cons,List.any_cons,yiu t λz a=>f z (bH _ a)]
  congr 1
  rcases f y bI with rfl|⟨q,rfl⟩
  .cases r;rfl
  .cases r;rfl
def yzu{X:Cx}(hu:X.A.units+64<cLine):OpR X (compareOp .In) (vhf X.K):=by
 intro n s σ H x y v u Q I B C h;let⟨p,c,rfl,rfl,F,d,q⟩:=h;cases B;cases C;let⟨b,r,D,E⟩:=I.list F
 have g:∀{c:Τ}{l:Ξ},wu c l->(∀z∈c,z=.non\/∃q m,z=.ref q/\SqL X.K H q m)->∀w∈l,SeqAt.EqAt X.A.in1 s w .none (vd3 w):=by
  intro c l G
  induction G with
  |nil=>intro _ w a;cases a
  |cons r1 t ih =>
   intro f w a;rcases bw.mp a with rfl|a
   .rcases f _ bI with rfl|⟨J,m,rfl,j⟩
    .cases r1;exact SeqAt.EqAt.same _
    .cases r1;let⟨o,_,k,_⟩:=I.list j;exact SeqAt.EqAt.list_none k.isList (by show X.A.units+1<cLine;omega)
   .exact ih (λz d=>f z (bH _ d)) w a
 refine SeqAt.in_listAt vd3 D.isList (λw a=>g r d w (by simpa using a)) ⟨.bl _,H,I,rfl,?_⟩;rw[show b.toArray.any vd3=b.any vd3 by simp,yiu r λz i=>(d z i).imp id λ⟨q,_,e,_⟩=>⟨q,e⟩];exact q
def ygk{X:Cx}:jd X (.builtin "len") (λxs H Q=>∃a kvs,xs=[V.ref a]/\H a=some (.dK kvs)/\Q (.int kvs.length) H):=by intro b s σ H xs f Q I r h;let⟨a,kvs,rfl,e,q⟩:=h;let⟨u,rfl,c⟩:=î r;cases c;exact vfc I (.of e) λt g d=>⟨.int kvs.length,H,d,⟨t,rfl⟩,q⟩
def ytv{σ:St}{H:Hp}{Q:VK}(h:∀p,H p=none->Q (.ref p) (upd H p (.dK []))):ypw σ H Q:=h
def yr8{td ty:TE}{σ:St}{H:Hp}{Q:VK}(h:td σ H λx H1=>∃a,x=.ref a/\IsD H1 a/\ty σ H1 λy H2=>∃kvs k v,H2 a=some (.dK kvs)/\y=kV k/\jl kvs k=some v/\Q v (upd H2 a (.dK (ï kvs k)))):yoq td ty σ H Q:=h
def ygi(bs:qi Bool):((List.range bs.length).any λi=>(bs[i]?).getD false)=bs.any id:=by
 rw[Bool.eq_iff_iff,List.any_eq_true,List.any_eq_true]
 constructor
 .rintro ⟨i,a,h⟩;have a:=cn.mp a;rw[bg a]at h;exists _,cu a,h
 .rintro ⟨b,c,h⟩;let⟨i,a,rfl⟩:=List.getElem_of_mem c;exists i,cn.mpr a,by rw[bg a];exact h
def yll{X:Cx}(hc:X.calm=true):jd X (.builtin "any") (λxs H Q=>∃p bs,xs=[.ref p]/\SqL X.K H p (List.map V.bl bs)/\Q (.bl (bs.any id)) H):=by
 intro g s σ H xs E Q I r h;let⟨p,bs,rfl,t,q⟩:=h;let⟨u,rfl,j⟩:=î r;cases j;let⟨w,k,n,C⟩:=I.list t;obtain rfl:=ŭ k;have c:=n.isList;have f:p<s.heap.objs.size:=by let⟨_,e,_⟩:=c;exact br e
 refine call_any_walk (wpAny_pyIter_list c ?_)
 refine⟨s.heap.objs.size,[s.heap.objs.size,p],[s.heap.objs.size],(bs.map Value.bool).toArray.size,_,_,λi=>(bs[i]?).getD false,rfl,Walks.list (A:=X.A.in1) (show X.A.handled=none from I.ok.hd hc) _ p (bS f) (bs.map Value.bool).toArray,
  ⟨⟨_,bx _ rfl,rfl,rfl⟩,c.push _⟩,λi v z D y a d=>?_,λB m o=>?_⟩
 .have a:(bs.map Value.bool)[i]?=some v:=by simpa using a
  rw[bq]at a
  cases e:bs[i]? with
  |none=>rw[e]at a;cases a
  |some b =>
   dsimp only at d;rw[e]at a d;cases a;exact cF d
 .have e:((List.range (bs.map Value.bool).toArray.size).any λi=>(bs[i]?).getD false)=bs.any id:=by rw[bE,bc];exact ygi bs
  rw[e];exists .bl (bs.any id),H,I.kept (t':=m) λb x e=>o b x (λl=>?_) (bh _ e),rfl,q;rw[bA.mp l]at e;exact cQ _ (br e)
section
variable{X:Cx}
def vgd:V->qj Int->qj Int->Hp->VK->Prop:=λx lo hi H Q=>∃z:Str,x=.str z/\z.length<=sizeLine/\Q (.str (Txt.slice z lo hi)) H
def ynt:SlR X vgd:=by
 intro d s σ H x v o n lo m p Q I f b g e h;let⟨z,rfl,a,q⟩:=h;let⟨t,rfl⟩:=f;refine⟨"str",_,F.slot_str_getitem.lookup,typeIs_str _ _ _,?_⟩
 cases g with
 |none =>
  cases e with
  |none=>exact wpAny_getItem_str_slice (l:=none) (u:=none) (st:=none) b rfl (post_val_or_str ⟨bX (Txt.slice_le z _ _) a,λc k=>⟨.str _,H,I.tok _,⟨_,rfl⟩,q⟩⟩)
  |int j uj=>exact wpAny_getItem_str_slice (l:=none) (u:=some (j,uj)) (st:=none) b rfl (post_val_or_str ⟨bX (Txt.slice_le z _ _) a,λc k=>⟨.str _,H,I.tok _,⟨_,rfl⟩,q⟩⟩)
 |int i ui =>
  cases e with
  |none=>exact wpAny_getItem_str_slice (l:=some (i,ui)) (u:=none) (st:=none) b rfl (post_val_or_str ⟨bX (Txt.slice_le z _ _) a,λc k=>⟨.str _,H,I.tok _,⟨_,rfl⟩,q⟩⟩)
  |int j uj=>exact wpAny_getItem_str_slice (l:=some (i,ui)) (u:=some (j,uj)) (st:=none) b rfl (post_val_or_str ⟨bX (Txt.slice_le z _ _) a,λc k=>⟨.str _,H,I.tok _,⟨_,rfl⟩,q⟩⟩)
def yme(h:j<=x.length):(Txt.slice x none (some (j:Int))).cps.toList=x.cps.toList.take j:=by have e:=slice_closes_toL (x:=x) (j:=(j:Int)) () ();rw[beq_iff_eq.mp e];simp
def yfr(h:j<=x.length):(Txt.slice x (some (j:Int)) none).cps.toList=x.cps.toList.drop j:=by
 rw[slice_from_eq (b:=(x.length:Int)) () () rfl];have e:x.length=x.cps.toList.length:=by simp[Str.length]
 simp;rw[cE (by rw[cR,e];omega)]
end
section
variable{X:Cx}
def vfv:R2:=λx y H Q=>∃(z:Str)(k:Int),x=.str z/\y=.int k/\0<=k/\k<=2000/\z.length<=1000/\∀z':Str,z'.cps.toList=(List.replicate k.toNat z.cps.toList).flatten->Q (.str z') H
theorem yip(a:Array Nat):∀(k:Nat)(b:Array Nat),((List.replicate k a).foldl (·++·) b).toList=b.toList++(List.replicate k a.toList).flatten
 |0,b=>by simp
 |k+1,b=>by
  rw[ci,List.foldl_cons,yip a k,Array.toList_append,ci,List.flatten_cons,ck]
theorem j7:OpR X (binaryOp .Mult) vfv:=by
 intro a s σ H x y v u Q I c j h;let⟨z,k,rfl,rfl,m,l,f,q⟩:=h;let⟨t,rfl⟩:=c;let⟨o,rfl⟩:=j;by_cases k0:k<1
 .exact P.mul_str_none k0 () ⟨.str Str.empty,H,I.tok _,⟨_,rfl⟩,q _ (by rw[show k.toNat=0 by omega];rfl)⟩
 have n:z.length*k.toNat<=1000*2000:=Nat.mul_le_mul f ();refine P.mul_str (by rw[be (),be ()];rfl) (λZ Z=>?_) (λZ Z=>?_) ?_
 .have g:(z.length:Int)*k=((z.length*k.toNat:Nat):Int):=by rw[Int.natCast_mul,Int.toNat_of_nonneg ()]
  have i:(z.length:Int)*k<=(2^63-1:Int):=by rw[g];omega
  exact Int.not_lt.mpr (Int.le_ediv_of_mul_le () i)
 .have:=sizeLine_eq;unfold Builtin.Str.tooLong;exact be ()
 .rw[if_neg ()];by_cases h1:(k == 1 || z.length == 0)=true
  .rw[if_pos h1];exists .str z,H,I,⟨_,rfl⟩,q z ?_;rcases Bool.or_eq_true_iff.mp h1 with e|e
   .rw[beq_iff_eq.mp e];simp
   .have d:z.cps.toList=[]:=cN (by have:=beq_iff_eq.mp e;simpa[Str.length]using this);rw[d];simp
  .rw[if_neg h1];have b:=yip z.cps k.toNat #[];exists ?_,⟨.str _,H,I.tok _,⟨_,rfl⟩,q _ b⟩
   have e:Str.length ⟨(List.replicate k.toNat z.cps).foldl (·++·) #[]⟩=k.toNat*z.cps.toList.length:=by
    show ((List.replicate k.toNat z.cps).foldl (·++·) #[]).size=_;rw[<- cj,b];simp[List.sum_replicate_nat]
   rw[e,sizeLine_eq,Nat.mul_comm];have:z.cps.toList.length=z.length:=by simp[Str.length]
   rw[this];omega
end
section
variable{prog:qh}{w:qd}
noncomputable def ve2(k:Int×qi Int):Int:=reduceHash (Builtin.Tuple.tupleHashOf [hashInt k.1,reduceHash (Builtin.Tuple.tupleHashOf (k.2.map hashInt))])
variable{A:qe}{s:qa}
end
abbrev NX:=(Int×qi Int)×z4×z4
def vhm(x:NX):DictEntry:=⟨ve2 x.1,.ref x.2.1,.ref x.2.2⟩
def ND(a:z4)(xs:qi NX):HO:=.ext λh=>(a == sysModules)=false/\∃o es ep,h.get? a=some o/\o.ExactDict/\o.data=.dict es ep/\es.toList=xs.map vhm
def NKy(H:Hp)(p:z4)(k:Int×qi Int):Prop:=∃b,H p=some (.tup [.int k.1,.ref b])/\H b=some (.tup (k.2.map V.int))
structure NDt(H:Hp)(a:z4)(xs:qi NX):Prop where
 o:H a=some (ND a xs)
 k:∀x∈xs,NKy H x.2.1 x.1
 n:(xs.map (·.1)).Nodup
 l:xs.length<sizeLine
def ypt{X:Cx}{K:z3}{o e:qg}{to:TE}{t:TA}{name:Str}{apos cpos:Pos}{T id:String}{r:V->qi V->Hp->VK->Prop}(hK:X.K=K)(pa:PlainAttrs T)(slot:Slot T name id)(hty:typeOf (.builtin id)=pure (.type "method_descriptor"))(hm:MtR X id r)(ho:PE X o to)(ha:PA X (e::es) t)
  (hbase:attributeBase o name X.env (eval o X.env)=eval o X.env:=by rfl)
  (hfew:((backTo cpos (starEach (e::es) X.env)).all (λx=>!x.1) && (backToKw cpos (keywordEach [] X.env)).all (λx=>x.1.isSome)
   && decide ((e::es).length+([]:qi Keyword).length+(if ([]:qi Keyword).isEmpty then 0 else 1)<30))=true:=by rfl)
  (hline:(apos.endLine == cpos.line)=true:=by rfl) (hs:starEach (e::es) X.env=(false,eval e X.env)::starEach es X.env:=by rfl) (hplain:(backTo cpos (starEach es X.env)).any (·.1)=false:=by rfl):
  PE X (.Call (.Attribute o name apos) (e::es) [] cpos) (tBM K T r to t):=hK ▸ uy pa slot hty hm ho ha hbase hfew hline hs hplain
def yki(b:Str)(ns:Ρ):inV (.str b) (ns.map V.str)=decide (b∈ns):=by
 unfold inV;rw[Bool.eq_iff_iff,List.any_eq_true,decide_eq_true_iff]
 constructor
 .rintro ⟨v,a,e⟩;let⟨x,d,rfl⟩:=bn.mp a;have c:x=b:=eq_of_beq (show (x == b)=true from e);rw[<- c];exact d
 .intro h;exists _,bn.mpr ⟨b,h,rfl⟩,show (b == b)=true from beq_self_eq_true b
def yhe(ns:Ρ):(ns.map V.str).all Ŷ=true:=by rw[List.all_eq_true];intro v a;let⟨x,_,rfl⟩:=bn.mp a;rfl
section
variable{prog:qh}{w:qd}{A:qe}{s:qa}
theorem yaq{it t:z4}{items:Array qb}(hne:t≠it):∀(n i:Nat)(s:qa)(Q:qi qb->qa->Prop),s.heap.IsListIter it t i->s.heap.IsList t items->i+n<=items.size ->
  (∀h',Heap.IsListIter h' it t (i+n)->Heap.SameBut it s.heap h'->Q ((items.toList.drop i).take n) {s with heap:=h'})->wpAny (model prog w) A (draw (.ref it) n) Q E s
 |0,i,s,Q,hit,_,_,hQ=>by
  show wpAny _ _ (pure []) Q E s;exact bo (by simpa using hQ s.heap hit (Heap.SameBut.refl ..))
 |n+1,i,s,Q,hit,ht,hle,hQ=>by
  have a:i<items.size:=()
  show wpAny _ _ (pyNext (.ref it) >>=_) Q E s;refine bd (wpAny_pyNext_list_item hit ht (x:=items[i]) (by simp[a]) λh₁ hit₁ hs₁=>?_);refine bd (wpAny_holding (yaq hne n (i+1) _ _ hit₁ (ht.extBut hs₁.extBut hne) () λh₂ hit₂ hs₂=>bo ?_));have b:items.toList.drop i=items[i]::items.toList.drop (i+1):=by simp[List.drop_eq_getElem_cons,a]
  have:=hQ h₂ (by rw[show i+(n+1)=i+1+n by omega];exact hit₂) (hs₁.trans hs₂);rw[b,List.take_succ_cons]at this;exact this
def yb1{t:z4}{items:Array qb}{targets:qi (Bool×(qb->Sem Unit))}{Q:Unit->qa->Prop}(hh:A.handled=none)(ht:s.heap.IsList t items)
  (hn:targets.length=items.size) (hstar:targets.findIdx? (·.1)=none)
  (h:∀h',Heap.ExtBut s.heap.objs.size s.heap h'->wpAny (model prog w) A (assignInOrder (targets.map (·.2)) items.toList) Q E {s with heap:=h'}):
  wpAny (model prog w) A (unpack (.ref t) targets) Q E s:=by
 have a:t≠s.heap.objs.size:=by let⟨o,f,_⟩:=ht;exact bS (br f)
 unfold unpack;rw[hn,hstar];refine bd (wpAny_holding ?_);unfold unpackItems;refine bd ?_
 .unfold notIterableAtAll;refine bd (wpAny_specialOf ht.typeIs F.slot_list_iter.lookup ?_);refine bo ?_;simp only[Bool.false_eq_true,if_false];refine bd (wpAny_holding (wpAny_pyIter_list ht ?_))
  have c:(s.heap.push { cls:=.type "list_iterator",data:=.fields #[.ref t,.int 0 0]}).IsList t items:=by
   let⟨o,f,r⟩:=id ht;exists o,bh _ f,r
  refine bd (wpAny_holding (yaq a items.size 0 _ _ ⟨_,bx _ rfl,rfl,rfl⟩ c () λh₁ hit₁ hs₁=>?_))
  have d:List.take items.size (List.drop 0 items.toList)=items.toList:=by
   rw[List.drop_zero];exact cE (by simp)
  rw[d];rw[if_neg (by simp)];have ht₁:h₁.IsList t items:=c.extBut hs₁.extBut a;refine bd (wpAny_holding (wpAny_pyNext_list_end hh hit₁ ht₁ (by simp) λh₂ he₂=>?_));simp only[Option.isSome_none,Bool.false_eq_true,if_false];refine bo (h h₂ λb o g e=>he₂ b o g (hs₁.extBut b o g (bh _ e)))
end
section
variable{X:Cx}{pos:Pos}
def vao(K:z3)(n:Nat)(t:TGs):TG:=λv σ H Q=>∃a xs,v=.ref a/\SqL K H a xs/\xs.length=n/\t xs σ H Q
def yz7{k:Nat}{t:TGs}{n:Nat}(hc:X.calm=true)(h:PGs X es t)
  (hn:(assignEach es X.env).length=n:=by rfl) (hst:(assignEach es X.env).findIdx? (·.1)=none:=by rfl):PG X (.Tuple es k pos) (vao X.K n t):=by intro c s σ H v u Q I r g;let⟨a,A,B,w,p,g⟩:=g;subst B;cases r;let⟨x,i,⟨o,m,y,f,j,d⟩,C⟩:=I.list w;rw[assign_Tuple];refine bd (wpAny_standAt (yb1 (I.ok.hd hc) ⟨o,y,f,m,d⟩ (by simp[hn,<- p,i.length]) hst λz l=>?_));have q:Inv X c σ H {s with heap:=z}:=I.kept (t':=s.toks) λb o e=>l b o (bS (br e)) e;exact h c _ σ H A _ Q q (by simpa using i) g
end
def yyx{K:z3}{n:Nat}{t:TGs}{H:Hp}{σ:St}{Q:Ζ}{a:z4}{xs:Τ}(h:SqL K H a xs)(hl:xs.length=n)(q:t xs σ H Q):vao K n t (.ref a) σ H Q:=⟨a,xs,rfl,h,hl,q⟩
end L2
namespace L2
open PySem PySem.Spec PyProof.Rows PySem.SeqAt PySem.Builtin PySem.Builtin.Str
noncomputable def isS(b:Str):qb->Bool
 | .str x _=>decide (x=b)
 |_=>false
def vg2(ns:Ρ)(b:Str)(j:Nat):Prop:=ns[j]?=some b/\∀m,m<j->ns[m]?≠some b
theorem yjh(b:Str):∀{ns:Ρ}{vs:Ξ},wu (ns.map V.str) vs->∀(j:Nat)(h:j<vs.length),isS b vs[j]=decide (ns[j]?=some b)
 |[],_,.nil,j,h=>absurd h (ce j)
 |x::ns,_,.cons r rs,j,h=>by
  let⟨t,rfl⟩:=r
  cases j with
  |zero =>
   show decide (x=b)=decide (some x=some b);simp
  |succ j=>exact yjh b rs j (Nat.lt_of_succ_lt_succ h)
theorem yp1(b:Str)(u:Tok):∀{ns:Ρ}{vs:Ξ},wu (ns.map V.str) vs->∀y,y∈vs->MeetsSeq.EqGives y (.str b u) (isS b y)
 |[],_,.nil,y,h=>nomatch h
 |x::ns,_,.cons r rs,y,h=>by
  let⟨t,rfl⟩:=r;rcases bw.mp h with rfl|h
  .exact λZ Z Z Z Z Z h=>wpAny_eqBool_str h
  .exact yp1 b u rs y h
section
variable{X:Cx}
def yta(K:z3):V->qi V->Hp->VK->Prop:=λx vs H Q=>∃l ns b j,x=.ref l/\vs=[.str b]/\SqL K H l (List.map V.str ns)/\vg2 ns b j/\Q (.int (j:Nat)) H
def yhb:MtR X "list.index" (yta X.K):=by
 intro p s σ H x T v U Q I B L h;let⟨l,g,b,j,rfl,rfl,C,⟨A,e⟩,q⟩:=h;cases B;let⟨u,rfl,R⟩:=L.one;let⟨t,rfl⟩:=R;let⟨a,r,G,z⟩:=I.list C;let⟨⟨P,S,i,O⟩,n,o,w,c,d⟩:=G;simp only at w c d;subst w c d;have k:g.length=a.length:=by rw[<- r.length,bc]
 have N:j<g.length:=(bL.mp A).1;have M:=ybc;have D:g.length<=sizeLine:=by rw[bc]at z;exact z
 refine call_meets PySem.F.slot_list_index ⟨_,o,rfl⟩ PySem.F.entry_list_index (PySem.F.args_list_index_2 _ _)
  (list_indexAt l a.toArray n none O (.str b t) (isS b) j (by rw[bE];omega) () ?_ ?_) ⟨o,λy J=>(yp1 b t r y (by simpa using J)).at _ _,.int j,H,I.tok _,⟨_,rfl⟩,q⟩
 .show isS b a[j]=true;rw[yjh b r j ()];exact bi A
 .intro m E f;show isS b a[m]=false;rw[yjh b r m (by simpa using E)];exact be (e m f)
def ycs:V->qi V->Hp->VK->Prop:=λx vs H Q=>∃y b,∃i:Nat,∃j3,x=.str y/\vs=[.str b]/\occurrences y b 0 y.length 1=i::j3/\Q (.int i) H
def yar:MtR X "str.index" ycs:=by intro a s σ H x g v k Q I c d h;let⟨y,b,i,j3,rfl,rfl,f,q⟩:=h;let⟨t,rfl⟩:=c;let⟨u,rfl,e⟩:=d.one;let⟨j,rfl⟩:=e;exact SC.index f ⟨.int i,H,I.tok _,⟨_,rfl⟩,q⟩
end
def vfh(t:z4)(o:Obj)(n:Nat)(x y z b:Str)(tx ty tz u:Tok)(hc:o.cls=.type "tuple")(hd:o.data=.seq #[.str x tx,.str y ty,.str z tz] n)(k:Nat)(hk:(x=b/\k=0)\/(x≠b/\y=b/\k=1)\/(x≠b/\y≠b/\z=b/\k=2)):
  Meets (Builtin.«tuple.index» ⟨[.ref t,.str b u],[]⟩) (λZ R s=>s.heap.get? t=some o/\R (.ok (.ret (.int (k:Nat) s.toks))) {s with toks:=s.toks+1}) :=
 .of_wp λa w A R s h=>by
  let⟨I,g,G,K,F⟩:=s;let⟨l,h⟩:=h;let⟨c,d,H,J⟩:=o;simp only at hc hd;subst hc hd;unfold Builtin.«tuple.index»;simp only[Std.Legacy.Range.forIn_eq_forIn_range',Std.Legacy.Range.size,Nat.sub_zero,Nat.add_sub_cancel,Nat.div_one]
  have f:∀{c:Bool}{q r:Str}{B v:Tok},decide (q=r)=c->∀{Q:Bool->qa->Prop}{E:Δ}{A:qe}{s:qa},Q c s->wpAny (model a w) A (eqBool (.str q B) (.str r v)) Q E s:=by
   intro c q r B v e Q E A s h;exact wpAny_eqBool_str (by rw[e];exact h)
  rcases hk with⟨i,rfl⟩|⟨i,m,rfl⟩|⟨i,m,D,rfl⟩
  .have j:∀{Q:Bool->qa->Prop}{E:Δ}{A:qe}{s:qa},Q true s->wpAny (model a w) A (eqBool (#[Value.str x tx,Value.str y ty,Value.str z tz][0]) (Value.str b u)) Q E s:=λh=>f (bi i) h
   wp_walk using AutoSeq1.wpAny_loadPart' l,j
   exists _,rfl,h
  .have j:∀{Q:Bool->qa->Prop}{E:Δ}{A:qe}{s:qa},Q false s->wpAny (model a w) A (eqBool (#[Value.str x tx,Value.str y ty,Value.str z tz][0]) (Value.str b u)) Q E s:=λh=>f (be i) h;have p:∀{Q:Bool->qa->Prop}{E:Δ}{A:qe}{s:qa},Q true s->wpAny (model a w) A (eqBool (#[Value.str x tx,Value.str y ty,Value.str z tz][1]) (Value.str b u)) Q E s:=λh=>f (bi m) h
   wp_walk using AutoSeq1.wpAny_loadPart' l,j,p
   exists _,rfl,h
  .have j:∀{Q:Bool->qa->Prop}{E:Δ}{A:qe}{s:qa},Q false s->wpAny (model a w) A (eqBool (#[Value.str x tx,Value.str y ty,Value.str z tz][0]) (Value.str b u)) Q E s:=λh=>f (be i) h;have p:∀{Q:Bool->qa->Prop}{E:Δ}{A:qe}{s:qa},Q false s->wpAny (model a w) A (eqBool (#[Value.str x tx,Value.str y ty,Value.str z tz][1]) (Value.str b u)) Q E s:=λh=>f (be m) h;have C:∀{Q:Bool->qa->Prop}{E:Δ}{A:qe}{s:qa},Q true s->wpAny (model a w) A (eqBool (#[Value.str x tx,Value.str y ty,Value.str z tz][2]) (Value.str b u)) Q E s:=λh=>f (bi D) h
   wp_walk using AutoSeq1.wpAny_loadPart' l,j,p,C
   exists _,rfl,h
section
variable{X:Cx}
def yqj(K:z3):V->qi V->Hp->VK->Prop:=λx vs H Q=>∃y0 y1 y2 b t,∃k:Nat,x=.ref t/\vs=[.str b]/\SqT K H t [.str y0,.str y1,.str y2]/\((y0=b/\k=0)\/(y0≠b/\y1=b/\k=1)\/(y0≠b/\y1≠b/\y2=b/\k=2))/\Q (.int (k:Nat)) H
def yhm:MtR X "tuple.index" (yqj X.K):=by
 intro c s σ H x G v J Q I e l h;let⟨A,j,p,b,t,k,rfl,rfl,C,m,q⟩:=h;cases e;let⟨u,rfl,D⟩:=l.one;let⟨f,rfl⟩:=D;let⟨B,r,i,E⟩:=I.tuple C;let⟨o,a,d,n,g⟩:=i
 cases r with
 |cons r0 r=>cases r with
  |cons r1 r=>cases r with
   |cons r2 r =>
    cases r;let⟨w,rfl⟩:=r0;let⟨z,rfl⟩:=r1;let⟨y,rfl⟩:=r2;exact call_meets PySem.F.slot_tuple_index ⟨_,a,d⟩ PySem.F.entry_tuple_index (PySem.F.args_tuple_index_2 _ _) (vfh t o n A j p b w z y f d g k m) ⟨a,.int k,H,I.tok _,⟨_,rfl⟩,q⟩
end
end L2
namespace L2
open PySem PySem.Spec PyProof.Rows
def z7.m{j k:Nat}{A:qe}(r:z7 k A)(h:j<=k:=by decide):z7 j A:=r.mono h
section
variable{X:Cx}{e:qg}{es:qi qg}{te:TE}{t:TA}
def pa1(ha:PE X e te)(h:yc3 e=true:=by exact rfl):PA X [e] (ymu te ym9):=jw ha za (jq h)
def pac(ha:PE X e te)(hr:PA X es t)(h:yc3 e=true:=by exact rfl):PA X (e::es) (ymu te t):=jw ha hr (jq h)
end
section
variable{X:Cx}{k:Nat}{f:z4}{fd:FuncData}{ps:Ρ}{sp:Sp}{Ex:St->XK}{x:Str}{p pos:Pos}{e:qg}{es:qi qg}{t:TA}{st:qc}{id:String}{r:qi V->Hp->VK->Prop}{T:String}
def ug(F:vn X.prog X.w X.K X.mg X.base CX0 k f fd ps sp)(hr:z7 k X.A)(D:Dff X.K X.mg x st ps f fd)(ha:PA X (e::es) t)(hg:Gl X x:=by exact rfl)(hdb:(x == ("__debug__":Str))=false:=by decide)
  (he:starEach (e::es) X.env=(false,eval e X.env)::starEach es X.env:=by rfl) (hpl:(backTo pos (starEach es X.env)).any (·.1)=false:=by rfl):PE X (.Call (.Name x p) (e::es) [] pos) (yt3 sp [] E0 t):=yic F hr hg D.m D.F.kp D.B .nil wl ha hdb he hpl
def uf(F:vn X.prog X.w X.K X.mg X.base (CXe X.prog X.w) k f fd ps sp)(hr:z7 k X.A)(D:Dff X.K X.mg x st ps f fd)(hc:ě X Ex)(ha:PA X (e::es) t)(hg:Gl X x:=by exact rfl)(hdb:(x == ("__debug__":Str))=false:=by decide)
  (he:starEach (e::es) X.env=(false,eval e X.env)::starEach es X.env:=by rfl) (hpl:(backTo pos (starEach es X.env)).any (·.1)=false:=by rfl):PE X (.Call (.Name x p) (e::es) [] pos) (yjd sp [] Ex t):=yky F hr hg D.m D.F.kp D.B .nil hc ha hdb he hpl
def pcB(hc:jd X (.builtin id) r)(hm:X.mg x=none)(ha:PA X (e::es) t)(hg:Gl X x:=by exact rfl)(hv:bootBuiltins x=some (.builtin id):=by decide+kernel)(hn:x≠"__name__":=by decide)(hdb:(x == ("__debug__":Str))=false:=by decide)
  (he:starEach (e::es) X.env=(false,eval e X.env)::starEach es X.env:=by rfl) (hpl:(backTo pos (starEach es X.env)).any (·.1)=false:=by rfl):PE X (.Call (.Name x p) (e::es) [] pos) (tCB r t):=ymq hc hg hm hv ha hn hdb he hpl
def pcT(hc:jd X (.type T) r)(hm:X.mg x=none)(ha:PA X (e::es) t)(hg:Gl X x:=by exact rfl)(hv:bootBuiltins x=some (.type T):=by decide+kernel)(hn:x≠"__name__":=by decide)(hdb:(x == ("__debug__":Str))=false:=by decide)
  (he:starEach (e::es) X.env=(false,eval e X.env)::starEach es X.env:=by rfl) (hpl:(backTo pos (starEach es X.env)).any (·.1)=false:=by rfl):PE X (.Call (.Name x p) (e::es) [] pos) (tCB r t):=ygd hc hg hm hv ha hn hdb he hpl
end
end L2
namespace L2
open PySem PySem.Spec PyProof.Rows
open PySem.Builtin PySem.Builtin.Str in
def yle{prog:qh}{w:qd}{A:qe}{E:Δ}{s:qa}{x y:Str}{t u:Tok}{Q:Δ}(hy:(y.length == 0)=false)
  (hq:∀l k,l.map (·.1)=Txt.split x y->Q (.ref s.heap.objs.size) {s with heap:=s.heap.push { cls:=.type "list",data:=.seq (strValues l).toArray},toks:=k})
  (hsz:x.length<=sizeLine) (hsz2:(partsBetween x (occurrences x y 0 x.length (x.length+1)) y.length).length<=sizeLine):
  wpAny (model prog w) A (call (.builtin "str.split") [.str x t,.str y u]) Q E s:=by
 cases h1:(decide (x.length<y.length) || decide (strKind x<strKind y))
 .cases hf:(occurrences x y 0 x.length (x.length+1)).isEmpty
  .refine call_meets F.slot_str_split (typeIs_str _ _ _) F.entry_str_split (F.args_str_split_2 _ _) (meets_str_split_sep x y t u h1 hy hf hsz hsz2) ?_;show wants Q E _ {s with toks:=_,heap:=s.heap.push { cls:=.type "list",data:=.seq (strsFrom s.toks (partsBetween x (occurrences x y 0 x.length (x.length+1)) y.length)).toArray} };rw[strsFrom_eq];exact hq (numbered s.toks _) _ ((numbered_texts _ _).trans ((if_neg (ne_true_of_eq_false h1)).trans (if_neg (ne_true_of_eq_false hf))).symm)
  .exact call_meets F.slot_str_split (typeIs_str _ _ _) F.entry_str_split (F.args_str_split_2 _ _) (meets_str_split_not_found x y t u h1 hy hf)
    (hq [(x,t)] s.toks ((if_neg (ne_true_of_eq_false h1)).trans (if_pos hf)).symm)
 .exact call_meets F.slot_str_split (typeIs_str _ _ _) F.entry_str_split (F.args_str_split_2 _ _) (meets_str_split_cannot_occur x y t u h1)
   (hq [(x,t)] s.toks (if_pos h1).symm)
section
variable{X:Cx}
def yzp:V->qi V->Hp->VK->Prop:=λx vs H Q=>∃s y:Str,x=.str s/\vs=[.str y]/\(y.length == 0)=false/\s.length<=100000/\∀l,H l=none->Q (.ref l) (upd H l (.lst ((Txt.split s y).map V.str)))
theorem yav:∀l:qi (Str×Tok),wu ((l.map (·.1)).map V.str) (strValues l)
 |[]=>.nil
 |(x,t)::l=>.cons ⟨t,rfl⟩ (yav l)
def ymg:MtR X "str.split" yzp:=by
 intro a s σ H x n v A Q I c f h;let⟨z,y,rfl,rfl,d,m,q⟩:=h;let⟨t,rfl⟩:=c;let⟨u,rfl,i⟩:=f.one;let⟨p,rfl⟩:=i;have r:sizeLine ≥ 100002:=∅
 have j:(Builtin.Str.partsBetween z (Builtin.Str.occurrences z y 0 z.length (z.length+1)) y.length).length<=sizeLine:=by
  rw[len_partsBetween];have:=StrLaws.occ_length_le z y 0 z.length (z.length+1);omega
 refine yle d (λl k e=>?_) () j;have g:=split_le z y;exists .ref _,_,I.laid (t':=k) (o:=.lst ((Txt.split z y).map V.str)) (λb w q=>bh _ q) (bj _) ?_,rfl,q _ (I.hok.fresh (bj _));exists by rw[bc];omega,_,0,by rw[<- e];exact yav l,?_
 rw[bx _ rfl]
def yx0(K:z3):V->qi V->Hp->VK->Prop:=λx vs H Q=>∃(sp:Str)(l:z4)(ys:Ρ),x=.str sp/\vs=[.ref l]/\SqL K H l (ys.map V.str)/\(ys.map (·.length)).sum+ys.length*sp.length<=1000000/\Q (.str (Str.join sp ys)) H
def vfj{ys:Ρ}{vs:Ξ}(h:wu (ys.map V.str) vs):StrsAre vs ys:=by
 induction ys generalizing vs with
 |nil=>cases h;exact .nil
 |cons c cs ih =>
  cases h with
  |cons r t =>
   let⟨u,rfl⟩:=r;exact .cons _ _ (ih t)
def Ū:MtR X "str.join" (yx0 X.K):=by
 intro a s σ H x y v A Q I c g h;let⟨p,l,ys,rfl,rfl,f,w,q⟩:=h;let⟨t,rfl⟩:=c;let⟨u,rfl,j⟩:=g.one;cases j;let⟨i,r,⟨o,n,m,d,z,e⟩,_⟩:=I.list f;refine join_list (ys:=ys) ⟨o,m,d,n,e⟩ (vfj r) ?_ λb k=>⟨.str (Str.join p ys),H,I.tok _,⟨b,?_⟩,q⟩
 .have:sizeLine ≥ 1000000:=∅
  omega
 .show Value.str (Builtin.Str.glued _ _) b=_;rw[StrLaws.glued_eq_join]
end
noncomputable def jL(c:Nat):qi (qi Nat)->qi Nat
 |[]=>[]
 |[w]=>w
 |w::v::r=>w++c::jL c (v::r)
theorem ŧ(c:Nat):∀ws:Ρ,(Str.join ⟨#[c]⟩ ws).cps.toList=jL c (ws.map λw=>w.cps.toList)
 |[]=>rfl
 |[w]=>rfl
 |w::v::r=>by
  show (w++⟨#[c]⟩++Str.join ⟨#[c]⟩ (v::r)).cps.toList=w.cps.toList++c::jL c ((v::r).map λw=>w.cps.toList);rw[Str.cps_append,Str.cps_append,Array.toList_append,Array.toList_append,ŧ c (v::r),ck];rfl
theorem ydo{c:Nat}{x y:qi Nat}:∀{a b:qi Nat},c∉a->c∉b->a++c::x=b++c::y->a=b/\x=y
 |[],[],_,_,e=>⟨rfl,(List.cons.inj e).2⟩
 |[],d::b,_,hb,e=>absurd (by rw[(List.cons.inj e).1];exact bI) hb
 |d::a,[],ha,_,e=>absurd (by rw[<- (List.cons.inj e).1];exact bI) ha
 |d::a,f::b,ha,hb,e=>by
  let⟨j,g⟩:=List.cons.inj e;let⟨h,i⟩:=ydo (λz=>ha (bH _ z)) (λz=>hb (bH _ z)) g;exists by rw[j,h],i
theorem ypo{c:Nat}:∀{as bs:qi (qi Nat)},as≠[]->bs≠[]->(∀a∈as,c∉a)->(∀b∈bs,c∉b)->jL c as=jL c bs->as=bs
 |[],_,h,_,_,_,_=>absurd rfl h
 |_,[],_,h,_,_,_=>absurd rfl h
 |[a],[b],_,_,_,_,e=>by rw[show a=b from e]
 |[a],b::d::r,_,_,ha,_,e=>absurd (by rw[show a=b++c::jL c (d::r)from e];simp) (ha a bI)
 |a::d::r,[b],_,_,_,hb,e=>absurd (by rw[show b=a++c::jL c (d::r)from e.symm];simp) (hb b bI)
 |a::d::r,b::f::q,_,_,ha,hb,e=>by
  let⟨j,i⟩:=ydo (ha a bI) (hb b bI) (show a++c::jL c (d::r)=b++c::jL c (f::q)from e);rw[j,ypo (List.cons_ne_nil _ _) (List.cons_ne_nil _ _) (λx g=>ha x (bH _ g)) (λx g=>hb x (bH _ g)) i]
def ycw{x y:Str}(h:x.cps.toList=y.cps.toList):x=y:=by
 cases x with|mk a =>
 cases y with|mk b =>
 congr 1
 exact Array.toList_inj.mp h
def yfd{c:Nat}{ws:Ρ}(hne:ws≠[])(h:∀w∈ws,c∉w.cps.toList):Txt.split (Str.join ⟨#[c]⟩ ws) ⟨#[c]⟩=ws:=by
 have e:=congrArg (λz:Str=>z.cps.toList) (StrLaws.join_split (Str.join ⟨#[c]⟩ ws) ⟨#[c]⟩);simp only[ŧ]at e;have g:=ypo ?_ ?_ ?_ ?_ e
 .have d:∀{l m:Ρ},(l.map λw=>w.cps.toList)=(m.map λw=>w.cps.toList)->l=m:=by
   intro l
   induction l with
   |nil=>intro m e;cases m with
    |nil=>rfl
    |cons _ _=>cases e
   |cons x l ih=>intro m e;cases m with
    |nil=>cases e
    |cons y m =>
     let⟨n,i⟩:=List.cons.inj e;rw[ycw n,ih i]
  exact d g
 .intro z;have:=split_pos (Str.join ⟨#[c]⟩ ws) ⟨#[c]⟩;have k:=congrArg List.length z;rw[bc,cg]at k;omega
 .intro z;exact hne (List.map_eq_nil_iff.mp z)
 .intro a j;let⟨p,f,rfl⟩:=bn.mp j;exact StrLaws.split_free _ c p f
 .intro b o;let⟨p,f,rfl⟩:=bn.mp o;exact h p f
end L2
namespace MixI
noncomputable def giv(c b:Int):Int:=if b=1 then c else 16777216-c
noncomputable def ymw(x:Int):Nat:=if x == 0 then 0 else x.natAbs.log2+1
def shL(ws cs:Ο)(b:Int):Ο:=List.zipWith (λw c=>w*giv c b) ws cs
noncomputable def grL(sh:Ο):Ο:=sh.map λs=>31*(sh.length:Int)*s+sh.sum
def tOf(s:Int):Nat:=ymw s-48
def lrn(ws cs:Ο)(b:Int):Ο:=(grL (shL ws cs b)).map λv=>v/2^tOf (grL (shL ws cs b)).sum
noncomputable def vhc(ws cs:Ο):Int:=(List.zipWith (λw c=>w*c) ws cs).sum
def yqf(ws cs:Ο):Int:=vhc ws cs/ws.sum
structure WOk(k:Nat)(ws:Ο):Prop where
 len:ws.length=k
 one:∀w∈ws,1<=w
 top:∀w∈ws,w<281474976710656
structure COk(k:Nat)(cs:Ο):Prop where
 len:cs.length=k
 lo:∀c∈cs,32768<=c
 hi:∀c∈cs,c<=16744448
def yyt{c b:Int}(h1:32768<=c)(h2:c<=16744448):32768<=giv c b:=by unfold giv;split<;>omega
def yci{ws cs:Ο}{b:Int}(h:ws.length=cs.length):(shL ws cs b).length=ws.length:=by unfold shL;rw[List.length_zipWith,<- h];omega
def yig{sh:Ο}:(grL sh).length=sh.length:=by unfold grL;rw[bc]
def yr3{k:Nat}{ws cs:Ο}{b:Int}(hw:WOk k ws)(hc:COk k cs):(lrn ws cs b).length=k:=by unfold lrn;rw[bc,yig,yci (by rw[hw.len,hc.len]),hw.len]
theorem ĳ(m d:Int):∀sh:Ο,(sh.map λs=>m*s+d).sum=m*sh.sum+sh.length*d
 |[]=>by simp
 |s::r=>by
  simp only[bR,List.sum_cons,ĳ m d r,bp,Int.natCast_add,Int.natCast_one,Int.mul_add,Int.add_mul];omega
def ysf(sh:Ο):(grL sh).sum=32*(sh.length:Int)*sh.sum:=by unfold grL;rw[ĳ,Int.mul_assoc,Int.mul_assoc];generalize (sh.length:Int)*sh.sum=x;omega
theorem yjv:∀{l:Ο},(∀x∈l,0<=x)->0<=l.sum
 |[],_=>by simp
 |a::r,h=>by
  have d:=h a (by simp);have c:=yjv (l:=r) λx b=>h x (by simp[b]);rw[List.sum_cons];omega
theorem ypv:∀{l:Ο}{y:Int},(∀x∈l,0<=x)->y∈l->y<=l.sum
 |a::r,y,h,hy=>by
  have f:=h a (by simp);have b:∀x∈r,0<=x:=λx c=>h x (by simp[c]);have d:=yjv b;rw[List.sum_cons];rcases bw.mp hy with e|hy
  .omega
  .have:=ypv b hy;omega
theorem yja{c:Int}:∀{l:Ο},(∀x∈l,c<=x)->c*l.length<=l.sum
 |[],_=>by simp
 |a::r,h=>by
  have e:=h a (by simp);have d:=yja (l:=r) λx b=>h x (by simp[b]);rw[List.sum_cons,bp,Int.natCast_add,Int.natCast_one,Int.mul_add];omega
theorem ypc{c:Int}:∀{l:Ο},(∀x∈l,x<=c)->l.sum<=c*l.length
 |[],_=>by simp
 |a::r,h=>by
  have e:=h a (by simp);have d:=ypc (l:=r) λx b=>h x (by simp[b]);rw[List.sum_cons,bp,Int.natCast_add,Int.natCast_one,Int.mul_add];omega
theorem yob{f:Int->Int}{m:Int}:∀{ws cs:Ο},ws.length=cs.length->(∀w∈ws,0<=w)->(∀c∈cs,m<=f c)->m*ws.sum<=(List.zipWith (λw c=>w*f c) ws cs).sum
 |[],[],_,_,_=>by simp
 |w::r,c::t,h,h1,h2=>by
  have i:=yob (f:=f) (m:=m) (ws:=r) (cs:=t) (by simpa using h) (λx b=>h1 x (by simp[b])) λx b=>h2 x (by simp[b]);have a:=cz (h2 c (by simp)) (h1 w (by simp));rw[List.zipWith_cons_cons,List.sum_cons,List.sum_cons,Int.mul_add,Int.mul_comm m w];omega
theorem yp5{f:Int->Int}{m:Int}:∀{ws cs:Ο},ws.length=cs.length->(∀w∈ws,0<=w)->(∀c∈cs,f c<=m)->(List.zipWith (λw c=>w*f c) ws cs).sum<=m*ws.sum
 |[],[],_,_,_=>by simp
 |w::r,c::t,h,h1,h2=>by
  have i:=yp5 (f:=f) (m:=m) (ws:=r) (cs:=t) (by simpa using h) (λx b=>h1 x (by simp[b])) λx b=>h2 x (by simp[b]);have a:=cz (h2 c (by simp)) (h1 w (by simp));rw[List.zipWith_cons_cons,List.sum_cons,List.sum_cons,Int.mul_add,Int.mul_comm m w];omega
def WOk.pos{k:Nat}{ws:Ο}(h:WOk k ws)(hk:1<=k):1<=ws.sum:=by have:=yja (c:=1) h.one;rw[h.len]at this;omega
def WOk.small{k:Nat}{ws:Ο}(h:WOk k ws)(hk:k<=6):ws.sum<=1688849860263936:=by have:=ypc (c:=281474976710656) λx a=>Int.le_of_lt (h.top x a);rw[h.len]at this;omega
def yjg{k:Nat}{ws cs:Ο}(hk:1<=k)(hw:WOk k ws)(hc:COk k cs):32768<=yqf ws cs/\yqf ws cs<=16744448:=by
 have e:ws.length=cs.length:=by rw[hw.len,hc.len]
 have d:∀w∈ws,0<=w:=λw h=>by have:=hw.one w h;omega
 have p:=hw.pos hk;have a:=yob (f:=λc=>c) e d hc.lo;have b:=yp5 (f:=λc=>c) e d hc.hi;unfold yqf vhc;exists(Int.le_ediv_iff_mul_le ()).mpr a,Int.le_of_lt_add_one ((Int.ediv_lt_iff_lt_mul ()).mpr (by rw[Int.add_mul];omega))
def ydi(t:Nat):(2:Int)^t=((2^t:Nat):Int):=by rw[Int.natCast_pow];rfl
def yrb(t:Nat):(0:Int)<2^t:=by rw[ydi];exact Int.natCast_pos.mpr (Nat.pow_pos ∅)
def yys{s:Int}(h:1<=s):s<281474976710656*2^tOf s/\(tOf s=0\/140737488355328*2^tOf s<=s):=by
 have f:s.natAbs≠0:=()
 have e:(s.natAbs:Int)=s:=()
 have a:=Nat.log2_self_le f;have b:=@Nat.lt_log2_self s.natAbs;unfold tOf ymw;rw[if_neg (by simp;omega)];generalize s.natAbs.log2=L at a b⊢;rcases Nat.lt_or_ge L 48 with q|q
 .have z:L+1-48=0:=()
  rw[z];exists ?_,.inl rfl;have:2^(L+1)<=2^48:=Nat.pow_le_pow_right ∅ ();have c:(2:Nat)^48=281474976710656:=∅
  rw[c]at this;rw[<- e,Int.pow_zero,Int.mul_one];omega
 .obtain⟨t,rfl⟩:∃t,L=47+t:=⟨L-47,()⟩;have z:47+t+1-48=t:=()
  rw[z,ydi];have d:(2:Nat)^(47+t)=140737488355328*2^t:=by rw[Nat.pow_add]
  have c:(2:Nat)^(47+t+1)=281474976710656*2^t:=by rw[show 47+t+1=48+t by omega,Nat.pow_add]
  rw[d]at a;rw[c]at b;generalize 2^t=T at a b⊢;exists by omega,.inr ()
section
variable{k:Nat}{ws cs:Ο}{b:Int}
def yrx(hw:WOk k ws)(hc:COk k cs):∀s∈shL ws cs b,1<=s:=by intro s a;unfold shL at a;rw[List.mem_iff_getElem]at a;let⟨i,d,rfl⟩:=a;rw[List.length_zipWith]at d;rw[List.getElem_zipWith];have e:=hw.one ws[i] (cu _);have c:=yyt (b:=b) (hc.lo cs[i] (cu _)) (hc.hi cs[i] (cu _));have:=Int.mul_le_mul e c ∅ ();omega
def yvb{sh:Ο}(h:∀s∈sh,1<=s):∀v∈grL sh,sh.sum<=v/\v<=(grL sh).sum/\0<=v:=by
 have e:=yjv (l:=sh) λx b=>by have:=h x b;omega
 have a:∀v∈grL sh,sh.sum<=v:=λv a=>by
  unfold grL at a;let⟨s,c,rfl⟩:=bn.mp a;have:=h s c;have:0<=31*(sh.length:Int)*s:=Int.mul_nonneg (Int.mul_nonneg ∅ (Int.natCast_nonneg _)) ();omega
 exact λv d=>⟨a v d,ypv (λx b=>by have:=a x b;omega) d,by have:=a v d;omega⟩
def yo7(hk:1<=k)(hk6:k<=6)(hw:WOk k ws)(hc:COk k cs):WOk k (lrn ws cs b):=by
 have f:(shL ws cs b).length=k:=by rw[yci (by rw[hw.len,hc.len]),hw.len]
 have i:=yrx (b:=b) hw hc
 have n:1<=(shL ws cs b).sum:=by
  have:=yja (c:=1) i;rw[f]at this;omega
 have g:=yvb i;have e:=ysf (shL ws cs b);rw[f]at e
 have q:1<=(grL (shL ws cs b)).sum:=by
  rw[e];have:32*(k:Int)*1<=32*(k:Int)*(shL ws cs b).sum:=cz n ();omega
 have l:(grL (shL ws cs b)).sum<=192*(shL ws cs b).sum:=by
  rw[e];exact cr () ()
 let⟨r,a⟩:=yys q;have j:=yrb (tOf (grL (shL ws cs b)).sum);exists yr3 hw hc,λw h=>?_,λw h=>?_
 .obtain⟨v,d,rfl⟩:=bn.mp h;let⟨p,o,m⟩:=g v d;refine(Int.le_ediv_iff_mul_le j).mpr ?_;rcases a with a|a
  .rw[a,Int.pow_zero];omega
  .generalize (2:Int)^tOf (grL (shL ws cs b)).sum=T at*;omega
 .obtain⟨v,d,rfl⟩:=bn.mp h;let⟨p,o,m⟩:=g v d;exact(Int.ediv_lt_iff_lt_mul j).mpr ()
def ygj{g:Int->Int->Int}{ws cs:Ο}(h:cs.length=ws.length):(List.range ws.length).map (λi=>g ((ws[i]?).getD 0) ((cs[i]?).getD 0))=List.zipWith g ws cs:=by
 apply List.ext_getElem
 .rw[bc,bP,List.length_zipWith];omega
 .intro i a b;rw[bc,bP]at a;rw[cM,List.getElem_range,List.getElem_zipWith,bg a,bg ()];rfl
end
end MixI
namespace SpanMath
noncomputable def rn(d:Ο):Nat->Int
 |0=>0
 |k+1=>rn d k*256+(d[k]?).getD 0
def Byt(d:Ο):Prop:=∀x∈d,0<=x/\x<=255
def ywa{d:Ο}(h:Byt d)(k:Nat):0<=(d[k]?).getD 0/\(d[k]?).getD 0<=255:=by
 cases e:d[k]? with
 |none=>exists by decide,∅
 |some x=>exact h x (bB e)
theorem yju{d:Ο}(h:Byt d)(k:Nat):∀r,∃q,rn d (k+r)=rn d k*pw r+q/\0<=q/\q<pw r
 |0=>⟨0,by show rn d k=rn d k*1+0;omega,∅,∅⟩
 |r+1=>by
  let⟨q,e,c,a⟩:=yju h k r;let⟨b,f⟩:=ywa h (k+r);exists q*256+(d[k+r]?).getD 0,?_,(),?_
  .show rn d (k+r)*256+(d[k+r]?).getD 0=rn d k*(pw r*256)+_;rw[e,<- Int.mul_assoc,Int.add_mul,Int.add_assoc]
  .show _<pw r*256;omega
def ylj{d:Ο}(h:Byt d)(k r:Nat)(l w':Int):(l*pw r<=rn d (k+r)/\rn d (k+r)<l*pw r+w'*pw r)↔(l<=rn d k/\rn d k<l+w'):=by
 let⟨q,e,i,f⟩:=yju h k r;have c:=zh r;rw[e,<- Int.add_mul];generalize rn d k=v;generalize pw r=p at c i f⊢
 constructor
 .rintro ⟨a,b⟩
  constructor
  .refine Int.le_of_lt_add_one (Int.lt_of_mul_lt_mul_right (a:=p) ?_ (Int.le_of_lt c));rw[Int.add_mul,Int.one_mul];omega
  .refine Int.lt_of_mul_lt_mul_right (a:=p) ?_ (Int.le_of_lt c);omega
 .rintro ⟨a,b⟩;have j:=cr a (Int.le_of_lt c);have g:=cr (show v+1<=l+w' by omega) (Int.le_of_lt c);rw[Int.add_mul v 1 p,Int.one_mul]at g;omega
structure InS(d:Ο)(x:Sn):Prop where
 lo:x.1<=rn d (sz x)
 hi:rn d (sz x)<x.1+x.2.1
def vbh(l w' s':Int):∃r:Nat,ren l w' s'=(l*pw r,w'*pw r,s'+r):=by
 unfold ren
 split
 .split
  .exact⟨2,rfl⟩
  .exact⟨1,rfl⟩
 .refine⟨0,?_⟩;show (l,w',s')=(l*1,w'*1,s'+0);rw[Int.mul_one,Int.mul_one,Int.add_zero]
def ynf{d:Ο}(h:Byt d){l w' s':Int}(hs:0<=s'):InS d (ren l w' s')↔(l<=rn d s'.toNat/\rn d s'.toNat<l+w'):=by
 let⟨r,e⟩:=vbh l w' s';rw[e]
 have c:sz (l*pw r,w'*pw r,s'+r)=s'.toNat+r:=by
  show (s'+(r:Int)).toNat=s'.toNat+r;omega
 rw[<- ylj h s'.toNat r l w']
 constructor
 .rintro ⟨a,b⟩;rw[c]at a b;exists a,b
 .rintro ⟨a,b⟩;exists by rw[c];exact a,by rw[c];exact b
def ò(d:Ο)(x:Sn)(c:Int):Int:=if rn d (sz x)<x.1+cut x.2.1 c then 1 else 0
def ū(d:Ο)(x:Sn)(c:Int):ò d x c=0\/ò d x c=1:=by
 unfold ò
 split
 .exact .inr rfl
 .exact .inl rfl
def ysm{d:Ο}(hd:Byt d){x:Sn}{c b:Int}(h:OkS x)(hc:Ch c)(hb:b=0\/b=1)(i:InS d (nar x c b)):InS d x/\b=ò d x c:=by
 have f:=h.ok.z;let⟨k,j,g⟩:=ybi h.ok.w0 h.ok.w1 hc;unfold nar at i;rcases hb with rfl|rfl
 .rw[if_neg ∅]at i;let⟨e,a⟩:=(ynf hd ()).mp i;have e:x.1+cut x.2.1 c<=rn d (sz x):=e;have a:rn d (sz x)<x.1+cut x.2.1 c+(x.2.1-cut x.2.1 c):=a;exists⟨(),()⟩,?_;unfold ò;rw[if_neg ()]
 .rw[if_pos rfl]at i;let⟨e,a⟩:=(ynf hd ()).mp i;have e:x.1<=rn d (sz x):=e;have a:rn d (sz x)<x.1+cut x.2.1 c:=a;exists⟨(),()⟩,?_;unfold ò;rw[if_pos a]
theorem yoy:∀(k:Nat)(d:Ο),k<=d.length->rn d k=val (d.take k)
 |0,_,_=>rfl
 |k+1,d,h=>by
  have a:k<d.length:=()
  have e:d.take (k+1)=d.take k++[d[k]]:=by rw[List.take_succ,bg a];rfl
  rw[e,ydn,<- yoy k d ()];show rn d k*256+_=_;rw[bg a];rfl
def yio{d:Ο}(hd:Byt d){x:Sn}(h:OkS x)(hl:(tL x).length<=d.length)(hp:d.take (tL x).length=tL x):InS d x:=by
 have g:=yt1 h
 have f:rn d (sz x-tK x)=tCn x:=by
  rw[<- yjr x,yoy _ _ hl,hp,yum h]
 let⟨q,b,i,j⟩:=yju hd (sz x-tK x) (tK x);have e:sz x-tK x+tK x=sz x:=()
 rw[e,f]at b;have a:=Ŵ h.ok;have c:=(yo3 x.1 (zh (tK x))).1;unfold yf9 at a;have a:(tCn x+1)*pw (tK x)<=x.1+x.2.1:=a;have c:x.1<=tCn x*pw (tK x):=c;rw[Int.add_mul,Int.one_mul]at a;exists by rw[b];omega,by rw[b];omega
end SpanMath
namespace Law
local macro_rules | `(tactic| ext)=>`(tactic| walk_at "rd")
local macro_rules | `(tactic| right)=>`(tactic| decide +kernel)
open PySem L2
set_option genInjectivity false
set_option genSizeOf false
local macro_rules | `(tactic| walk_at "rd1")=>`(tactic| fail)
open Lean in
set_option hygiene true in
local macro_rules | `(tactic| fail $s:str)=>do
 let n::_::x::l:=s.getString.splitOn " "|Macro.throwUnsupported
 if n.isNat then `(tactic| fail $(Syntax.mkStrLit (" ".intercalate (n::x::l)))) else Macro.throwUnsupported
open Lean in
set_option hygiene true in
local macro_rules | `(tactic| fail $s:str)=>do
 let n::x::_:=s.getString.splitOn " "|Macro.throwUnsupported
 let some n:=n.toNat?|Macro.throwUnsupported
 let x:=mkIdent ((if n<4 then `_root_.Law else `_root_.L2)++x.toName)
 if n%4=0 then return <-`(tactic| refine $x ?_)
 let y:Term<-if n%4=1 then `($x (by assumption) ?q ?_) else if n%4=2 then `($x ?q ?_) else `($x ?q ?n ?_)
 let z<-if n%4=3 then `(tactic| case n=>with_unfolding_all decide +kernel) else `(tactic| skip)
 `(tactic| (with_reducible refine' $y; (case q=>first | assumption | exact ya); $z:tactic))
local macro_rules | `(tactic| exists $n:num,$m:num)=>do
 let xs:=Array.replicate n.getNat (<-`(some _))++Array.replicate m.getNat (<-`(none))
 `(tactic| (try dsimp only [vo]; refine yo (σ':=[$xs,*]) rfl ?_))
local macro_rules | `(tactic| exists $h:ident,$a:ident,$b:ident,$c:ident)=>`(tactic| with_reducible first | refine yi $h fun $a $b $c=>?_ | refine yp $h fun $a $b $c=>?_)
local macro_rules | `(tactic| exists $n:num,$m:num,$t)=>`(tactic| (refine ⟨_,$t,?_⟩;exists $n,$m;ext))
local macro_rules | `(tactic| left)=>`(tactic| first | (cases h; subst_vars; rfl) | repeat first | (obtain ⟨e,_⟩:=h; subst e; rfl) | obtain ⟨_,h⟩:=h)
local macro_rules | `(tactic| exists $a:ident,$b:ident,$c:ident)=>`(tactic| (refine $a $b (fun ϟ H Q E h=>?_) (fun ϟ A ϟ s H ϟ Q E $c h=>?_); left))
local macro_rules | `(tactic| walk_at "side")=>`(tactic| first | exact ⟨∅,∅⟩ | (show (0:Int) < _; first | decide | omega) | exact Or.inl ⟨(),()⟩ | exact Or.inr ⟨(),()⟩ | exact ⟨(),()⟩ | exact ⟨∅,∅,∅⟩)
local macro_rules | `(tactic| walk_at "len")=>`(tactic| first | decide | (simp only [bp,cg]; decide))
local macro_rules | `(tactic| walk_at "rd1")=>`(tactic| with_reducible first
 | fail "4 vhs vfx yy0 yv0"
 | ((fail_if_success constructor); walk_at "rd2"))
local macro_rules | `(tactic| walk_at "o")=>`(tactic| refine yp8 fun ϟ ϟ ϟ ϟ ϟ ϟ=>?_)
set_option hygiene true in
local macro_rules | `(tactic| walk_at "rd2")=>`(tactic| with_reducible first
 | walk_at "o"
 | refine yf8 (by assumption) ?_
 | (refine' vch ?rdv ?_; (case rdv=>with_unfolding_all rfl))
 | fail "4 i_c vhw vhz yvi vhu vhh vfu vfe yuz ywj yzr ytp Ů ys8 ysw ve5 ywm vfz vhp ven yte yut yyi vez vht vfn vfl vfb ve7 yel ywz vhl vet vep yur vho ykl yux vh0 i_U g0 g1 g2 g3 g4 g5 g6 g7 yrd yv5 zt xh ver vew ve9 yqo vad ysr yr0 ysk yye yr6 ytn ywf ysd ytv yr8 yqu yvk vej ylr yx8 yro yqr"
 | (refine' i_shlC ?rdp ?rdq ?_; (case rdp=>with_unfolding_all exact ⟨∅,∅,∅⟩); (case rdq=>with_unfolding_all decide))
 | (refine' yxj ?rdp ?rdq ?_; (case rdp=>with_unfolding_all exact ⟨∅,∅,∅⟩); (case rdq=>with_unfolding_all decide))
 | (refine i_I ?rdc ?_; (case rdc=>with_unfolding_all walk_at "side")))
local macro_rules | `(tactic| walk_at "rd")=>`(tactic| repeat walk_at "rd1")
variable{c' cc cl' ct' dc dq ds q st tl:z4}{U U' W' W2:Μ}{D:qi (Str×Int)}{L M:Η}{d ts xs:Ο}{i j m':Nat}{tp:Λ}{O O' O2:Β}{bt:Nat->Int}{x:qj Str}{R:Prop}{y:Str}
noncomputable def top(i:Nat):qc:=PySem.Challenge.pw_foretell_k54_desk_refused.main.body.getD i (.Pass ⟨0,0,0,0⟩)
abbrev vg3:qc:=top 23
abbrev vgr:qc:=top 24
abbrev vgs:qc:=top 25
abbrev vgo:qc:=top 26
abbrev vgn:qc:=top 27
abbrev vgg:qc:=top 28
abbrev vgi:qc:=top 29
abbrev vg0:qc:=top 30
abbrev vgv:qc:=top 31
abbrev vbn:qc:=top 32
abbrev vb5:qc:=top 33
abbrev vb4:qc:=yy (top 38) 0
abbrev va6:qc:=yy (top 38) 1
abbrev vbs:qc:=yy (top 38) 2
abbrev vcs:qc:=yy (top 39) 0
abbrev va2:qc:=yy (top 39) 1
abbrev vcu:qc:=yy (top 39) 2
abbrev vb1:qc:=yy (top 40) 0
abbrev vcd:qc:=yy (top 40) 1
abbrev vby:qc:=yy (top 40) 2
abbrev var:qc:=top 41
abbrev vdf:qc:=top 46
abbrev vc5:qc:=top 47
abbrev vc0:qc:=yy (top 48) 0
abbrev vam:qc:=yy (top 48) 2
abbrev vc4:qc:=yy (top 48) 3
abbrev vat:qc:=yy (top 48) 5
abbrev vaq:qc:=yy (top 48) 6
abbrev vcw:qc:=top 54
abbrev vdb:qc:=top 55
abbrev vca:qc:=top 56
abbrev vde:qc:=top 57
abbrev vdu:qc:=top 58
abbrev vdq:qc:=top 59
abbrev vbc:qc:=top 60
abbrev vb8:qc:=yy (top 61) 0
abbrev vdn:qc:=yy (top 61) 2
abbrev vc6:qc:=yy (top 66) 0
abbrev vbb:qc:=yy (top 66) 2
abbrev vdo:qc:=yy (top 66) 3
abbrev vc1:qc:=yy (top 69) 0
abbrev vcl:qc:=yy (top 69) 1
abbrev vax:qc:=yy (top 69) 2
abbrev vbl:qc:=yy (top 69) 3
abbrev vdm:qc:=yy (top 69) 7
abbrev vc9:qc:=yy (top 69) 8
abbrev vdg:qc:=yy (top 69) 9
abbrev va9:qc:=top 72
abbrev va0:qc:=top 73
abbrev vbr:qc:=yy (top 75) 0
abbrev vcp:qc:=yy (top 75) 1
abbrev vc2:qc:=yy (top 75) 2
abbrev vdk:qc:=yy (top 75) 3
abbrev vbt:qc:=yy (top 75) 5
abbrev vcz:qc:=top 82
abbrev vbk:qc:=top 84
abbrev vaw:qc:=top 85
abbrev vay:qc:=top 86
abbrev van:qc:=top 87
abbrev va3:qc:=top 88
abbrev vdw:qc:=yy (top 90) 0
abbrev vdh:qc:=yy (top 90) 1
abbrev vbe:qc:=yy (top 90) 2
abbrev vds:qc:=yy (top 90) 3
abbrev vdp:qc:=yy (top 90) 4
abbrev va8:qc:=top 95
abbrev vbd:qc:=top 96
abbrev vbw:qc:=top 97
abbrev vcy:qc:=yy (top 98) 0
abbrev va7:qc:=yy (top 99) 0
abbrev vcm:qc:=yy (top 99) 1
abbrev vbo:qc:=yy (top 99) 2
abbrev vdc:qc:=yy (top 99) 3
abbrev vcg:qc:=yy (top 99) 4
abbrev vdr:qc:=yy (top 99) 6
abbrev vda:qc:=yy (top 99) 7
abbrev vdv:qc:=yy (top 99) 8
abbrev vdd:qc:=yy (top 99) 9
abbrev vbq:qc:=yy (top 99) 10
abbrev vbj:qc:=yy (top 99) 11
abbrev vbv:qc:=yy (top 99) 12
abbrev vc7:qc:=yy (top 99) 13
abbrev va4:qc:=yy (top 99) 14
abbrev vck:qc:=yy (top 99) 15
abbrev vdy:qc:=yy (top 99) 16
abbrev vbi:qc:=yy (top 99) 17
abbrev vcr:qc:=top 102
abbrev vas:qc:=top 103
abbrev vdx:qc:=top 104
abbrev vbp:qc:=top 105
abbrev vb0:qc:=yy (top 106) 0
abbrev vak:qc:=yy (top 106) 1
abbrev vcq:qc:=yy (top 106) 3
abbrev vb6:qc:=yy (top 106) 4
abbrev vau:qc:=yy (top 106) 6
abbrev vb2:qc:=yy (top 106) 7
abbrev vdt:qc:=top 107
abbrev vct:qc:=top 112
abbrev vba:qc:=top 113
abbrev yns:qc:=top 114
abbrev ypj:qc:=yy (top 115) 0
abbrev yph:qc:=yy (top 115) 1
abbrev ypz:qc:=yy (top 115) 2
abbrev yn4:qc:=yy (top 115) 3
abbrev yop:qc:=yy (top 115) 4
abbrev yoc:qc:=yy (top 115) 5
abbrev yok:qc:=top 117
abbrev yot:qc:=top 118
abbrev yn7:qc:=top 119
abbrev ypa:qc:=top 120
abbrev yn3:qc:=top 121
abbrev ypb:qc:=top 122
abbrev ypx:qc:=top 123
abbrev yoo:qc:=top 124
abbrev yon:qc:=top 125
abbrev ypq:qc:=top 126
abbrev vbz:qc:=top 127
set_option genInjectivity false in
set_option genSizeOfSpec false in
structure Ads where
 {Vx Vy Vz W0 W3 W4 W5 W6 W7 Op Oq Kr Os Ot Ks Ou Ov Kt Ow Ox Oy Oz P0 Ku P1 P3 P4 P5 P6 P7 P8 P9 Pa Pb Pe Kv Pf Kw Pg Ph Kx Pi Pj Pk Pl Pm Pn Po Pp Ky Pq Pr Ps Pt Kz W8 Pu Pv Pw Px Py L1 Pz Q1 Q3 Q4 Q5 Q6 Q7 L6 L7 W9 Q8 Q9 Qa L8 Wa Qc Qd Qe Qf Qg Qh Qi Qj Qk Ql Qm Qn Qo Qp Qq Qr L9 Qt Qu Qv Qw Qx Qy Qz R8 La Jd Vm Lb Lc Ld Le Lf Lg Lh Li Lj Lk Ll Lm Lo Lp Lq R9 Am Al At Dp Ap Ad As Ab A7 Ag A0 Aa An Au I2 Ai Je Cl Bx Jf A4 A8 Ac El A1 Ae A5 A3 A9 Cj By:z4}
 {Wb Wc We Wf Wg Wh Wi Wj Wk Ra Rb Rc Re Rf Rg Rh Ri Rj Rk Rl Rm Rn Ro Rp Rq Rr Rs Rt Ru Rv Rx Ry Rz S0 S8 Sa Sb Sc Se Sf Sg Sh Si Sj Sk Sl Sm So Sq Sr Ss Su Sv Sw Js Sy Sz T6 T8 T9 Ta Tb Tc Td Te Tf Tg Th Ti Jt Tj Tk Tl Ju Tm Tn Tp Tq Tr Ts Tt Tu Tv Tw Tx Ty Tz U7 U8 U9 Ua Ub Uc Ud Ue Uf Ug Uh Ui Lr Hk Ls Lt Lu Lv Lx Ly Lz M0 M4 M5 M6 M7 M8 M9 Ma Mb:FuncData}
 {Mc K9 Ob Wl Hl Hm Fs Gj Hn Gk Jg Gm Ho Ka Ft I3 Fu I4 Dq Fv Kb Gn Hq Fw Kc Vn Jh Ji Jj I5 I6 I7 I8 I9 Ia Ib Ic:Tok}
 {Kd:qj z4}
 {Md Ke:Nat}
 {Me Kg:Array (qj qb)}
variable{a:Ads}
structure Txt(K:z3)(mg:Ε)(a:Ads):Prop where
 Kh:Dff K mg "is_whole" vg3 ["thing"] a.Vx a.Wb
 Wm:Dff K mg "is_bit" vgr ["thing"] a.Vy a.Wc
 Wn:Dff K mg "is_chance" vgs ["thing"] a.Vz a.We
 Wo:Dff K mg "is_sign" vgo ["thing"] a.W0 a.Wf
 Oc:Dff K mg "is_list_of_signs" vgn ["thing","most"] a.W3 a.Wg
 Od:Dff K mg "checked_text" vgg ["thing"] a.W4 a.Wh
 Wp:Dff K mg "checked_bytes" vgi ["thing"] a.W5 a.Wi
 Wq:Dff K mg "check_most" vg0 ["thing"] a.W6 a.Wj
 Oe:Dff K mg "check_chance" vgv ["thing"] a.W7 a.Wk
 Fg:Dff K mg "check_bit" vbn ["thing"] a.Op a.Ra
 Uj:Dff K mg "gives" vb5 ["chance","bit"] a.Oq a.Rb
 Uk:Dfm K a.Am "__init__" "Even.__init__" vb4 ["self"] a.Kr a.Rc
 Mf:Dfm K a.Am "chance" "Even.chance" va6 ["self"] a.Os a.Re
 Mg:Dfm K a.Am "seen" "Even.seen" vbs ["self","bit"] a.Ot a.Rf
 Ul:Dfm K a.Al "__init__" "Quick.__init__" vcs ["self"] a.Ks a.Rg
 Mh:Dfm K a.Al "chance" "Quick.chance" va2 ["self"] a.Ou a.Rh
 Mi:Dfm K a.Al "seen" "Quick.seen" vcu ["self","bit"] a.Ov a.Ri
 Um:Dfm K a.At "__init__" "Run.__init__" vb1 ["self"] a.Kt a.Rj
 Mj:Dfm K a.At "chance" "Run.chance" vcd ["self"] a.Ow a.Rk
 Ml:Dfm K a.At "seen" "Run.seen" vby ["self","bit"] a.Ox a.Rl
 Uo:Dff K mg "slot_of" var ["kind"] a.Oy a.Rm
 Mm:Dff K mg "written" vdf ["number","size"] a.Oz a.Rn
 Mn:Dff K mg "first_block" vc5 ["low","unit"] a.P0 a.Ro
 Mo:Dfm K a.Ad "__init__" "Span.__init__" vc0 ["self"] a.Ku a.Rp
 Ie:Dfm K a.Ad "cut" "Span.cut" vam ["self","chance"] a.P1 a.Rq
 If:Dfm K a.Ad "narrow" "Span.narrow" vc4 ["self","chance","bit"] a.P3 a.Rr
 Mq:Dfm K a.Ad "holds_block" "Span.holds_block" vat ["self","unit"] a.P4 a.Rs
 Ig:Dfm K a.Ad "told" "Span.told" vaq ["self"] a.P5 a.Rt
 Up:Dff K mg "is_kind" vcw ["thing"] a.P6 a.Ru
 Uq:Dff K mg "is_place" vdb ["thing"] a.P7 a.Rv
 Ur:Dff K mg "are_places" vca ["thing"] a.P8 a.Rx
 Mr:Dff K mg "is_look" vde ["thing"] a.P9 a.Ry
 Ms:Dff K mg "checked_looks" vdu ["thing"] a.Pa a.Rz
 Us:Dff K mg "sign_back" vdq ["signs","place"] a.Pb a.S0
 Ut:Dff K mg "context_of" vbc ["look","signs","node"] a.Pe a.S8
 Uu:Dfm K a.Ap "__init__" "Book.__init__" vb8 ["self","look"] a.Kv a.Sa
 Mt:Dfm K a.Ap "slot_at" "Book.slot_at" vdn ["self","signs","node"] a.Pf a.Sb
 Uv:Dfm K a.Dp "__init__" "Mixer.__init__" vc6 ["self","many"] a.Kw a.Sc
 Mu:Dfm K a.Dp "mixed" "Mixer.mixed" vbb ["self","chances"] a.Pg a.Se
 Mv:Dfm K a.Dp "learn" "Mixer.learn" vdo ["self","chances","bit"] a.Ph a.Sf
 Uw:Dfm K a.Ab "__init__" "Foreteller.__init__" vc1 ["self","looks"] a.Kx a.Sg
 Ih:Dfm K a.Ab "arrive" "Foreteller.arrive" vcl ["self"] a.Pi a.Sh
 Ii:Dfm K a.Ab "chances" "Foreteller.chances" vax ["self"] a.Pj a.Si
 Ij:Dfm K a.Ab "chance" "Foreteller.chance" vbl ["self"] a.Pk a.Sj
 Ik:Dfm K a.Ab "see" "Foreteller.see" vdm ["self","bit"] a.Pl a.Sk
 Mw:Dfm K a.Ab "step" "Foreteller.step" vc9 ["self","bit"] a.Pm a.Sl
 Mx:Dfm K a.Ab "step_in_sign" "Foreteller.step_in_sign" vdg ["self","bit"] a.Pn a.Sm
 Ux:Dff K mg "bits_of" va9 ["sign"] a.Po a.So
 Uy:Dff K mg "decisions_of" va0 ["text"] a.Pp a.Sq
 Uz:Dfm K a.As "__init__" "Seeker.__init__" vbr ["self","data"] a.Ky a.Sr
 Il:Dfm K a.As "follow" "Seeker.follow" vcp ["self"] a.Pq a.Ss
 My:Dfm K a.As "byte_at" "Seeker.byte_at" vc2 ["self","place"] a.Pr a.Su
 Mz:Dfm K a.As "bit" "Seeker.bit" vdk ["self","chance"] a.Ps a.Sv
 N2:Dfm K a.As "told" "Seeker.told" vbt ["self"] a.Pt a.Sw
 V0:ym8 K "cost" "cost" vcz a.W8 a.Kz a.Js
 Xc:uo K a.Js ["looks","text","learned"] [.none]
 Wr:uo K a.Js ["looks","text","learned"] []
 Ws:mg "cost"=some (.ref a.Kz)
 V5:Dff K mg "press_by" vbk ["foreteller","text"] a.Pu a.Sy
 N3:Dff K mg "bit_by" vaw ["foreteller","seeker"] a.Pv a.Sz
 V6:Dff K mg "sign_by" vay ["foreteller","seeker"] a.Pw a.T6
 V7:Dff K mg "text_by" van ["foreteller","seeker","most"] a.Px a.T8
 V8:Dff K mg "read_by" va3 ["foreteller","data","most"] a.Py a.T9
 Im:Dfm K a.A7 "__init__" "Chain.__init__" vdw ["self","looks"] a.L1 a.Ta
 Io:Dfm K a.A7 "grow" "Chain.grow" vdh ["self","name","text"] a.Pz a.Tb
 N4:Dfm K a.A7 "press" "Chain.press" vbe ["self","name","text"] a.Q1 a.Tc
 N5:Dfm K a.A7 "read" "Chain.read" vds ["self","name","data","most"] a.Q3 a.Td
 Ip:Dfm K a.A7 "size_with" "Chain.size_with" vdp ["self","text"] a.Q4 a.Te
 V9:Dff K mg "is_name" va8 ["thing"] a.Q5 a.Tf
 Jv:Dff K mg "checked_name" vbd ["thing"] a.Q6 a.Tg
 Va:Dff K mg "check_base" vbw ["thing"] a.Q7 a.Th
 Vb:Dfm K a.Ag "__init__" "Piece.__init__" vcy ["self","base","data"] a.L6 a.Ti
 Wt:ym8 K "__init__" "Store.__init__" va7 a.W9 a.L7 a.Jt
 Xd:uo K a.Jt ["self","looks","most"] [.int 1000 a.Mc]
 Vc:uo K a.Jt ["self","looks","most"] []
 Iq:Dfm K a.A0 "told_looks" "Store.told_looks" vcm ["self"] a.Q8 a.Tj
 N6:Dfm K a.A0 "most_signs" "Store.most_signs" vbo ["self"] a.Q9 a.Tk
 Dr:Dfm K a.A0 "names" "Store.names" vdc ["self"] a.Qa a.Tl
 Wu:ym8 K "put" "Store.put" vcg a.Wa a.L8 a.Ju
 Xe:uo K a.Ju ["self","name","text","base"] [.none]
 Wv:uo K a.Ju ["self","name","text","base"] []
 Ww:Meth K a.A0 "put" a.L8
 Ir:Dfm K a.A0 "check_length" "Store.check_length" vdr ["self","text"] a.Qc a.Tm
 N7:Dfm K a.A0 "check_room" "Store.check_room" vda ["self","name","base"] a.Qd a.Tn
 Bz:Dfm K a.A0 "piece_at" "Store.piece_at" vdv ["self","name"] a.Qe a.Tp
 Is:Dfm K a.A0 "links_to" "Store.links_to" vdd ["self","name"] a.Qf a.Tq
 Ds:Dfm K a.A0 "chain_to" "Store.chain_to" vbq ["self","name"] a.Qg a.Tr
 N8:Dfm K a.A0 "texts_to" "Store.texts_to" vbj ["self","name"] a.Qh a.Ts
 Iu:Dfm K a.A0 "text_of" "Store.text_of" vbv ["self","name"] a.Qi a.Tt
 Iv:Dfm K a.A0 "bytes_of" "Store.bytes_of" vc7 ["self","name"] a.Qj a.Tu
 Iw:Dfm K a.A0 "base_of" "Store.base_of" va4 ["self","name"] a.Qk a.Tv
 N9:Dfm K a.A0 "learned_of" "Store.learned_of" vck ["self","name"] a.Ql a.Tw
 Na:Dfm K a.A0 "drop" "Store.drop" vdy ["self","name"] a.Qm a.Tx
 Nd:Dfm K a.A0 "best_base" "Store.best_base" vbi ["self","text"] a.Qn a.Ty
 Vd:Dff K mg "look_bytes" vcr ["look"] a.Qo a.Tz
 Ve:Dff K mg "name_bytes" vas ["name"] a.Qp a.U7
 Vf:Dff K mg "base_bytes" vdx ["store","name"] a.Qq a.U8
 Vg:Dff K mg "shelf_of" vbp ["store"] a.Qr a.U9
 Vh:Dfm K a.Aa "__init__" "Reader.__init__" vb0 ["self","data"] a.L9 a.Ua
 Dt:Dfm K a.Aa "next_byte" "Reader.next_byte" vak ["self"] a.Qt a.Ub
 Nf:Dfm K a.Aa "next_look" "Reader.next_look" vcq ["self"] a.Qu a.Uc
 Ng:Dfm K a.Aa "next_store" "Reader.next_store" vb6 ["self"] a.Qv a.Ud
 Nh:Dfm K a.Aa "put_next" "Reader.put_next" vau ["self","store"] a.Qw a.Ue
 Ni:Dfm K a.Aa "whole_store" "Reader.whole_store" vb2 ["self"] a.Qx a.Uf
 Vi:Dff K mg "opened" vdt ["data"] a.Qy a.Ug
 Jw:Dff K mg "hex_of" vct ["signs"] a.Qz a.Uh
 Jx:Dff K mg "signs_by" vba ["word"] a.R8 a.Ui
 Jk:Dff K mg "shown" yns ["base"] a.La a.Lr
 Vo:ym8 K "__init__" "Desk.__init__" ypj a.Vm a.Jd a.Hk
 Xb:uo K a.Hk ["self","looks","most"] [.int 1000 a.K9]
 Nj:uo K a.Hk ["self","looks","most"] []
 Ah:Dfm K a.An "say" "Desk.say" yph ["self","row"] a.Lb a.Ls
 Jl:Dfm K a.An "say_alone" "Desk.say_alone" ypz ["self","verb"] a.Lc a.Lt
 Jm:Dfm K a.An "say_with" "Desk.say_with" yn4 ["self","verb","word"] a.Ld a.Lu
 Fx:Dfm K a.An "lay" "Desk.lay" yop ["self","name","word","base"] a.Le a.Lv
 Jn:Dfm K a.An "cost_of" "Desk.cost_of" yoc ["self","name"] a.Lf a.Lx
 Hr:Dff K mg "_law_mixed" yok ["_law_script","_law_k"] a.Lg a.Ly
 Nk:Dff K mg "_law_names" yot ["_law_cell"] a.Lh a.Lz
 Jo:Dff K mg "_law_looks" yn7 ["_law_script"] a.Li a.M0
 Nl:Dff K mg "_law_say" ypa ["_law_desk","_law_row"] a.Lj a.M4
 Jp:Dff K mg "_law_refused" yn3 ["_law_desk","_law_row","_law_kind"] a.Lk a.M5
 Nm:Dff K mg "_law_odd_rows" ypb ["_law_name"] a.Ll a.M6
 Nn:Dff K mg "_law_store_rows" ypx ["_law_names_here","_law_far_here"] a.Lm a.M7
 No:Dff K mg "_law_far" yoo ["_law_names_here"] a.Lo a.M8
 Hs:Dff K mg "_law_made" yon ["_law_looks_here","_law_most"] a.Lp a.M9
 Nq:Dff K mg "_law_not_made" ypq ["_law_looks_here"] a.Lq a.Ma
 Nr:Dff K mg "law" vbz ["_law_script"] a.R9 a.Mb
 B8:Cls K a.Am
 Vp:mg "Even"=some (.ref a.Am)
 Vq:Mk K a.Am a.Kr
 Az:NoAttr K a.Am "noughts"
 C8:NoAttr K a.Am "ones"
 C9:Cls K a.Al
 Of:mg "Quick"=some (.ref a.Al)
 Og:Mk K a.Al a.Ks
 Bj:NoAttr K a.Al "held"
 Ca:Cls K a.At
 Wx:mg "Run"=some (.ref a.At)
 Wy:Mk K a.At a.Kt
 Ct:NoAttr K a.At "last"
 Bk:NoAttr K a.At "length"
 Ix:Cls K a.Dp
 Xf:mg "Mixer"=some (.ref a.Dp)
 Xg:Mk K a.Dp a.Kw
 Em:NoAttr K a.Dp "kept"
 Du:Cls K a.Ap
 Vr:mg "Book"=some (.ref a.Ap)
 Vs:Mk K a.Ap a.Kv
 Fh:NoAttr K a.Ap "look"
 Dv:NoAttr K a.Ap "slots"
 Ao:Cls K a.Ad
 Nt:mg "Span"=some (.ref a.Ad)
 Nu:Mk K a.Ad a.Ku
 Cu:NoAttr K a.Ad "low"
 Bm:NoAttr K a.Ad "width"
 Cb:NoAttr K a.Ad "size"
 B0:Cls K a.As
 Xh:mg "Seeker"=some (.ref a.As)
 Xi:Mk K a.As a.Ky
 Hf:NoAttr K a.As "data"
 Hg:NoAttr K a.As "span"
 Cc:NoAttr K a.As "number"
 Bn:NoAttr K a.As "reached"
 Aq:Cls K a.Ab
 Xj:mg "Foreteller"=some (.ref a.Ab)
 Xk:Mk K a.Ab a.Kx
 Cv:NoAttr K a.Ab "looks"
 Fz:NoAttr K a.Ab "books"
 G8:NoAttr K a.Ab "mixer"
 Cw:NoAttr K a.Ab "ended"
 Cy:NoAttr K a.Ab "place"
 Bo:NoAttr K a.Ab "present"
 Ar:Cls K a.A7
 Fo:mg "Chain"=some (.ref a.A7)
 Fp:Mk K a.A7 a.L1
 B6:NoAttr K a.A7 "foreteller"
 Cq:NoAttr K a.A7 "links"
 Cr:NoAttr K a.A7 "texts"
 Dw:Cls K a.Ag
 Oh:mg "Piece"=some (.ref a.Ag)
 Oi:Mk K a.Ag a.L6
 Dx:NoAttr K a.Ag "base"
 Dy:NoAttr K a.Ag "data"
 A2:Cls K a.A0
 Jy:mg "Store"=some (.ref a.A0)
 Jz:Mk K a.A0 a.L7
 Ba:NoAttr K a.A0 "looks"
 Dz:NoAttr K a.A0 "most"
 Cd:NoAttr K a.A0 "pieces"
 Bb:NoAttr K a.A0 "chain"
 Ak:Cls K a.Aa
 Nv:mg "Reader"=some (.ref a.Aa)
 Nw:Mk K a.Aa a.L9
 Cs:NoAttr K a.Aa "data"
 Aw:NoAttr K a.Aa "reached"
 Aj:Cls K a.An
 Ny:mg "Desk"=some (.ref a.An)
 Nz:Mk K a.An a.Jd
 E5:NoAttr K a.An "store"
 Wz:mg "NoText"=some (.ref a.Au)
 Xl:mg "NoBytes"=some (.ref a.I2)
 G9:mg "NoMost"=some (.ref a.Ai)
 Xm:mg "NoChance"=some (.ref a.Je)
 Xn:mg "NoBit"=some (.ref a.Cl)
 Oj:mg "NoLooks"=some (.ref a.Bx)
 Vt:mg "NoPress"=some (.ref a.Jf)
 Ga:mg "NoName"=some (.ref a.A4)
 Hh:mg "TooLong"=some (.ref a.A8)
 Ht:mg "Taken"=some (.ref a.Ac)
 O0:mg "Full"=some (.ref a.El)
 Hi:mg "NoPiece"=some (.ref a.A1)
 K5:mg "InUse"=some (.ref a.Ae)
 Ck:mg "NoShelf"=some (.ref a.A5)
 Ax:mg "NoWords"=some (.ref a.A3)
 Br:mg "ForetellError"=some (.ref a.A9)
 Xo:XCls K a.Au
 Xp:XMk K a.Au
 Xv:XCls K a.I2
 Xq:XMk K a.I2
 O4:XCls K a.Ai
 O5:XMk K a.Ai
 Xw:XCls K a.Je
 Xr:XMk K a.Je
 Xx:XCls K a.Cl
 Xs:XMk K a.Cl
 Xt:XCls K a.Bx
 X0:XMk K a.Bx
 Xy:XCls K a.Jf
 X1:XMk K a.Jf
 O6:XCls K a.A4
 O7:XMk K a.A4
 Ki:XCls K a.A8
 Kj:XMk K a.A8
 Ol:XCls K a.Ac
 Om:XMk K a.Ac
 Xu:XCls K a.El
 Vu:XMk K a.El
 Kk:XCls K a.A1
 Kl:XMk K a.A1
 On:XCls K a.Ae
 Oo:XMk K a.Ae
 Km:XCls K a.A5
 En:XMk K a.A5
 Kn:XCls K a.A3
 Bg:XMk K a.A3
 Eo:W.kitOne K (.ref a.Au) (.type "ValueError")=some true
 Iy:W.kitOne K (.ref a.Au) (.ref a.Ae)=some false
 Gp:W.kitOne K (.ref a.Au) (.ref a.A1)=some false
 Hu:W.kitOne K (.ref a.Au) (.ref a.A4)=some false
 Gq:W.kitOne K (.ref a.Au) (.ref a.A3)=some false
 O8:W.kitOne K (.ref a.Au) (.ref a.Au)=some true
 Gr:W.kitOne K (.ref a.Au) (.ref a.A5)=some false
 Gs:W.kitOne K (.ref a.Au) (.ref a.A8)=some false
 Iz:W.kitOne K (.ref a.Au) (.ref a.Ac)=some false
 Cm:W.exmOne K (.ref a.Au) (.ref a.A9)=some true
 Ko:W.kitOne K (.ref a.I2) (.type "ValueError")=some true
 X9:W.kitOne K (.ref a.I2) (.ref a.Au)=some false
 Jc:W.exmOne K (.ref a.I2) (.ref a.A9)=some true
 Ce:W.kitOne K (.ref a.Ai) (.type "ValueError")=some true
 E6:W.kitOne K (.ref a.Ai) (.ref a.A3)=some false
 Ep:W.kitOne K (.ref a.Ai) (.ref a.Ai)=some true
 Hv:W.kitOne K (.ref a.Ai) (.ref a.Bx)=some false
 Bh:W.exmOne K (.ref a.Ai) (.ref a.A9)=some true
 Er:W.kitOne K (.ref a.Bx) (.type "ValueError")=some true
 Gt:W.kitOne K (.ref a.Bx) (.ref a.A3)=some false
 Hw:W.kitOne K (.ref a.Bx) (.ref a.Ai)=some false
 O9:W.kitOne K (.ref a.Bx) (.ref a.Bx)=some true
 Cn:W.exmOne K (.ref a.Bx) (.ref a.A9)=some true
 Cg:W.kitOne K (.ref a.A4) (.type "ValueError")=some true
 Fj:W.kitOne K (.ref a.A4) (.ref a.Ae)=some false
 E7:W.kitOne K (.ref a.A4) (.ref a.A1)=some false
 Es:W.kitOne K (.ref a.A4) (.ref a.A4)=some true
 E8:W.kitOne K (.ref a.A4) (.ref a.A3)=some false
 Hy:W.kitOne K (.ref a.A4) (.ref a.Au)=some false
 E9:W.kitOne K (.ref a.A4) (.ref a.A5)=some false
 Ea:W.kitOne K (.ref a.A4) (.ref a.A8)=some false
 Fk:W.kitOne K (.ref a.A4) (.ref a.Ac)=some false
 Bi:W.exmOne K (.ref a.A4) (.ref a.A9)=some true
 Bt:W.kitOne K (.ref a.A8) (.type "ValueError")=some true
 Et:W.kitOne K (.ref a.A8) (.ref a.Ae)=some false
 Cz:W.kitOne K (.ref a.A8) (.ref a.A1)=some false
 Eb:W.kitOne K (.ref a.A8) (.ref a.A4)=some false
 D7:W.kitOne K (.ref a.A8) (.ref a.A3)=some false
 Gu:W.kitOne K (.ref a.A8) (.ref a.Au)=some false
 D8:W.kitOne K (.ref a.A8) (.ref a.A5)=some false
 D9:W.kitOne K (.ref a.A8) (.ref a.A8)=some true
 Eu:W.kitOne K (.ref a.A8) (.ref a.Ac)=some false
 Bc:W.exmOne K (.ref a.A8) (.ref a.A9)=some true
 Co:W.kitOne K (.ref a.Ac) (.type "ValueError")=some true
 Gb:W.kitOne K (.ref a.Ac) (.ref a.Ae)=some false
 Ev:W.kitOne K (.ref a.Ac) (.ref a.A1)=some false
 Fl:W.kitOne K (.ref a.Ac) (.ref a.A4)=some false
 Ew:W.kitOne K (.ref a.Ac) (.ref a.A3)=some false
 J6:W.kitOne K (.ref a.Ac) (.ref a.Au)=some false
 Ey:W.kitOne K (.ref a.Ac) (.ref a.A5)=some false
 Ez:W.kitOne K (.ref a.Ac) (.ref a.A8)=some false
 Gc:W.kitOne K (.ref a.Ac) (.ref a.Ac)=some true
 Bp:W.exmOne K (.ref a.Ac) (.ref a.A9)=some true
 Bu:W.kitOne K (.ref a.A1) (.type "ValueError")=some true
 F0:W.kitOne K (.ref a.A1) (.ref a.Ae)=some false
 Da:W.kitOne K (.ref a.A1) (.ref a.A1)=some true
 Ec:W.kitOne K (.ref a.A1) (.ref a.A4)=some false
 Db:W.kitOne K (.ref a.A1) (.ref a.A3)=some false
 Gv:W.kitOne K (.ref a.A1) (.ref a.Au)=some false
 Dc:W.kitOne K (.ref a.A1) (.ref a.A5)=some false
 Dd:W.kitOne K (.ref a.A1) (.ref a.A8)=some false
 F6:W.kitOne K (.ref a.A1) (.ref a.Ac)=some false
 Bd:W.exmOne K (.ref a.A1) (.ref a.A9)=some true
 Cp:W.kitOne K (.ref a.Ae) (.type "ValueError")=some true
 Gd:W.kitOne K (.ref a.Ae) (.ref a.Ae)=some true
 F7:W.kitOne K (.ref a.Ae) (.ref a.A1)=some false
 Fm:W.kitOne K (.ref a.Ae) (.ref a.A4)=some false
 F8:W.kitOne K (.ref a.Ae) (.ref a.A3)=some false
 J7:W.kitOne K (.ref a.Ae) (.ref a.Au)=some false
 F9:W.kitOne K (.ref a.Ae) (.ref a.A5)=some false
 Fa:W.kitOne K (.ref a.Ae) (.ref a.A8)=some false
 Ge:W.kitOne K (.ref a.Ae) (.ref a.Ac)=some false
 Bq:W.exmOne K (.ref a.Ae) (.ref a.A9)=some true
 Bv:W.kitOne K (.ref a.A5) (.type "ValueError")=some true
 Fb:W.kitOne K (.ref a.A5) (.ref a.Ae)=some false
 De:W.kitOne K (.ref a.A5) (.ref a.A1)=some false
 Ed:W.kitOne K (.ref a.A5) (.ref a.A4)=some false
 Dh:W.kitOne K (.ref a.A5) (.ref a.A3)=some false
 Gw:W.kitOne K (.ref a.A5) (.ref a.Au)=some false
 Di:W.kitOne K (.ref a.A5) (.ref a.A5)=some true
 Dj:W.kitOne K (.ref a.A5) (.ref a.A8)=some false
 Fc:W.kitOne K (.ref a.A5) (.ref a.Ac)=some false
 Be:W.exmOne K (.ref a.A5) (.ref a.A9)=some true
 Fn:W.exmOne K (.ref a.A5) (.ref a.El)=some false
 Gy:W.exmOne K (.ref a.A5) (.ref a.Bx)=some false
 Ee:W.exmOne K (.ref a.A5) (.ref a.Ai)=some false
 Ef:W.exmOne K (.ref a.A5) (.ref a.A4)=some false
 Gz:W.exmOne K (.ref a.A5) (.ref a.Jf)=some false
 Fd:W.exmOne K (.ref a.A5) (.ref a.Ac)=some false
 Bw:W.kitOne K (.ref a.A3) (.type "ValueError")=some true
 Fe:W.kitOne K (.ref a.A3) (.ref a.Ae)=some false
 Dl:W.kitOne K (.ref a.A3) (.ref a.A1)=some false
 Eg:W.kitOne K (.ref a.A3) (.ref a.A4)=some false
 Dm:W.kitOne K (.ref a.A3) (.ref a.A3)=some true
 Ha:W.kitOne K (.ref a.A3) (.ref a.Au)=some false
 Dn:W.kitOne K (.ref a.A3) (.ref a.A5)=some false
 Do:W.kitOne K (.ref a.A3) (.ref a.A8)=some false
 Ff:W.kitOne K (.ref a.A3) (.ref a.Ac)=some false
 Bf:W.exmOne K (.ref a.A3) (.ref a.A9)=some true
 A6:mg "isinstance"=none
 Vj:mg "int"=none
 Vv:mg "bool"=none
 Ay:mg "list"=none
 Gf:mg "all"=none
 Af:mg "len"=none
 Vk:mg "min"=none
 Vl:mg "max"=none
 K6:mg "str"=none
 Fq:mg "tuple"=none
 Oa:mg "zip"=none
 J8:mg "sum"=none
 Xa:mg "any"=none
 B9:mg "range"=none
 Eh:mg "ValueError"=none
 Fr:mg "LEAST"=some (.int 32768 a.Ob)
 Ei:mg "ONE"=some (.int 16777216 a.Wl)
 Ej:mg "MOST_SIGNS"=some (.int 1000 a.Hl)
 Hz:mg "MOST_BYTES"=some (.int 12000 a.Hm)
 Ci:mg "MOST_COUNTED"=some (.int 255 a.Fs)
 Hb:mg "FIRST_WIDTH"=some (.int 1099511627776 a.Gj)
 I0:mg "FIRST_SIZE"=some (.int 5 a.Hn)
 Hc:mg "LEAST_WIDTH"=some (.int 4294967296 a.Gk)
 Jq:mg "FARTHEST"=some (.int 8 a.Jg)
 Hd:mg "MOST_PLACES"=some (.int 4 a.Gm)
 Ek:mg "MOST_LOOKS"=some (.int 6 a.Ho)
 Kp:mg "NO_SIGN"=some (.int 256 a.Ka)
 Gg:mg "FIRST_WEIGHT"=some (.int 1099511627776 a.Ft)
 J9:mg "OWN_PARTS"=some (.int 31 a.I3)
 Gh:mg "MOST_FIGURES"=some (.int 48 a.Fu)
 Fi:mg "NODES_END"=some (.int 256 a.I4)
 K7:mg "FIGURES_telling"=some (.int 24 a.Dq)
 Gi:mg "MOST_LETTERS"=some (.int 8 a.Fv)
 Hj:mg "LETTERS"=some (.str "abcdefghijklmnopqrstuvwxyz" a.Kb)
 He:mg "MOST_PIECES"=some (.int 60 a.Gn)
 I1:mg "MOST_SHELF"=some (.int 1000000 a.Hq)
 Av:mg "FIGURES_desk"=some (.str "0123456789abcdef" a.Fw)
 Vw:mg "NO_BASE"=some (.str "-" a.Kc)
 Jr:mg "DONE"=some (.str "ok" a.Vn)
 K8:mg "KINDS"=some (.ref a.Cj)
 Ja:K.lookup a.Cj=some ⟨.type "tuple",none,.seq #[.str "even" a.Jh,.str "quick" a.Ji,.str "run" a.Jj] a.Md,a.Me⟩
 Jb:mg "WORTHS"=some (.ref a.By)
 Kq:K.lookup a.By=some ⟨.type "tuple",a.Kd,.seq #[.int 128 a.I5,.int 64 a.I6,.int 32 a.I7,.int 16 a.I8,.int 8 a.I9,.int 4 a.Ia,.int 2 a.Ib,.int 1 a.Ic] a.Ke,a.Kg⟩
def Txt.w_KINDS{K:z3}{mg:Ε}(T:Txt K mg a):∀H,SqT K H a.Cj [V.str "even",V.str "quick",V.str "run"]:=yp0 T.Ja (by show 3<=sizeLine;decide) (.cons ⟨_,rfl⟩ (.cons ⟨_,rfl⟩ (.cons ⟨_,rfl⟩ .nil)))
def Txt.wy_KINDS{K:z3}{mg:Ε}(T:Txt K mg a):∃o,K.lookup a.Cj=some o/\o.cls=.type "tuple"/\o.dict=none:=⟨_,T.Ja,rfl,rfl⟩
def Txt.w_WORTHS{K:z3}{mg:Ε}(T:Txt K mg a):∀H,SqT K H a.By [V.int 128,V.int 64,V.int 32,V.int 16,V.int 8,V.int 4,V.int 2,V.int 1]:=yp0 T.Kq (by show 8<=sizeLine;decide) (.cons ⟨_,rfl⟩ (.cons ⟨_,rfl⟩ (.cons ⟨_,rfl⟩ (.cons ⟨_,rfl⟩ (.cons ⟨_,rfl⟩ (.cons ⟨_,rfl⟩ (.cons ⟨_,rfl⟩ (.cons ⟨_,rfl⟩ .nil))))))))
section
variable{P:qh}{w:qd}{K:z3}{mg:Ε}{Γ:qf}
noncomputable def ν(v0 v1:V):Ι:=[("noughts",v0),("ones",v1)]
section
variable{H:Hp}{p dx:z4}{v0 v1 v:V}{P:V->Prop}{nx:Ζ}{σ:St}
section
variable(T:Txt K mg a)(hp:H p=some (.ins a.Am dx (ν v0 v1)))
include T hp
def ü(h:P v0):RdX K H p "noughts" P:=rdX hp T.B8 T.Az xy h
def û(h:wg nx σ (upd H p (.ins a.Am dx (ν v v1)))):StX K H p "noughts" v nx σ:=stX hp T.B8 T.Az lt2 θ h
def yaa(h:P v1):RdX K H p "ones" P:=rdX hp T.B8 T.C8 (wj (by right) xy) h
def yad(h:wg nx σ (upd H p (.ins a.Am dx (ν v0 v)))):StX K H p "ones" v nx σ:=stX hp T.B8 T.C8 lt2 (vx (by right) θ) h
end
def ý(T:Txt K mg a)(hp:H p=some (.ins a.Am dx []))(h:wg nx σ (upd H p (.ins a.Am dx [("noughts",v)]))):StX K H p "noughts" v nx σ:=stX hp T.B8 T.Az lt0 wo h
def yac(T:Txt K mg a)(hp:H p=some (.ins a.Am dx [("noughts",v0)]))(h:wg nx σ (upd H p (.ins a.Am dx (ν v0 v)))):StX K H p "ones" v nx σ:=stX hp T.B8 T.C8 lt1 (vx (by right) wo) h
def ğ:(ν v0 v1).lookup ("chance":Str)=none:=(wj (by right) (wj (by right) ė))
def ž:(ν v0 v1).lookup ("seen":Str)=none:=(wj (by right) (wj (by right) ė))
end
noncomputable def jc(v0:V):Ι:=[("held",v0)]
section
variable{H:Hp}{p dx:z4}{v0 v:V}{P:V->Prop}{nx:Ζ}{σ:St}
section
variable(T:Txt K mg a)(hp:H p=some (.ins a.Al dx (jc v0)))
include T hp
def ř(h:P v0):RdX K H p "held" P:=rdX hp T.C9 T.Bj xy h
def œ(h:wg nx σ (upd H p (.ins a.Al dx (jc v)))):StX K H p "held" v nx σ:=stX hp T.C9 T.Bj lt1 θ h
end
def ń(T:Txt K mg a)(hp:H p=some (.ins a.Al dx []))(h:wg nx σ (upd H p (.ins a.Al dx (jc v)))):StX K H p "held" v nx σ:=stX hp T.C9 T.Bj lt0 wo h
def ú:(jc v0).lookup ("chance":Str)=none:=(wj (by right) ė)
def ŏ:(jc v0).lookup ("seen":Str)=none:=(wj (by right) ė)
end
noncomputable def Ĭ(v0 v1:V):Ι:=[("last",v0),("length",v1)]
section
variable{H:Hp}{p dx:z4}{v0 v1 v:V}{P:V->Prop}{nx:Ζ}{σ:St}
section
variable(T:Txt K mg a)(hp:H p=some (.ins a.At dx (Ĭ v0 v1)))
include T hp
def yb0(h:P v0):RdX K H p "last" P:=rdX hp T.Ca T.Ct xy h
def ybr(h:wg nx σ (upd H p (.ins a.At dx (Ĭ v v1)))):StX K H p "last" v nx σ:=stX hp T.Ca T.Ct lt2 θ h
def Ŋ(h:P v1):RdX K H p "length" P:=rdX hp T.Ca T.Bk (wj (by right) xy) h
def Ņ(h:wg nx σ (upd H p (.ins a.At dx (Ĭ v0 v)))):StX K H p "length" v nx σ:=stX hp T.Ca T.Bk lt2 (vx (by right) θ) h
end
def ybx(T:Txt K mg a)(hp:H p=some (.ins a.At dx []))(h:wg nx σ (upd H p (.ins a.At dx [("last",v)]))):StX K H p "last" v nx σ:=stX hp T.Ca T.Ct lt0 wo h
def Ŏ(T:Txt K mg a)(hp:H p=some (.ins a.At dx [("last",v0)]))(h:wg nx σ (upd H p (.ins a.At dx (Ĭ v0 v)))):StX K H p "length" v nx σ:=stX hp T.Ca T.Bk lt1 (vx (by right) wo) h
def Ŕ:(Ĭ v0 v1).lookup ("chance":Str)=none:=(wj (by right) (wj (by right) ė))
def ycf:(Ĭ v0 v1).lookup ("seen":Str)=none:=(wj (by right) (wj (by right) ė))
end
noncomputable def vd6(v0:V):Ι:=[("kept",v0)]
section
variable{H:Hp}{p dx:z4}{v0 v:V}{P:V->Prop}{nx:Ζ}{σ:St}
section
variable(T:Txt K mg a)(hp:H p=some (.ins a.Dp dx (vd6 v0)))
include T hp
def yfh(h:P v0):RdX K H p "kept" P:=rdX hp T.Ix T.Em xy h
def ye6(h:wg nx σ (upd H p (.ins a.Dp dx (vd6 v)))):StX K H p "kept" v nx σ:=stX hp T.Ix T.Em lt1 θ h
end
def yfa(T:Txt K mg a)(hp:H p=some (.ins a.Dp dx []))(h:wg nx σ (upd H p (.ins a.Dp dx (vd6 v)))):StX K H p "kept" v nx σ:=stX hp T.Ix T.Em lt0 wo h
def ve0{C:z4}{nm:Str}(hp:H p=some (.ins C dx (vd6 v0)))(n:nm∉(["kept"]:Ρ))(h:R):MtX H p C nm R:=mtX hp rfl n h
end
noncomputable def yek(v0 v1:V):Ι:=[("look",v0),("slots",v1)]
section
variable{H:Hp}{p dx:z4}{v0 v1 v:V}{P:V->Prop}{nx:Ζ}{σ:St}
section
variable(T:Txt K mg a)(hp:H p=some (.ins a.Ap dx (yek v0 v1)))
include T hp
def yaj(h:P v0):RdX K H p "look" P:=rdX hp T.Du T.Fh xy h
def ś(h:P v1):RdX K H p "slots" P:=rdX hp T.Du T.Dv (wj (by right) xy) h
end
def yae(T:Txt K mg a)(hp:H p=some (.ins a.Ap dx []))(h:wg nx σ (upd H p (.ins a.Ap dx [("look",v)]))):StX K H p "look" v nx σ:=stX hp T.Du T.Fh lt0 wo h
def Ř(T:Txt K mg a)(hp:H p=some (.ins a.Ap dx [("look",v0)]))(h:wg nx σ (upd H p (.ins a.Ap dx (yek v0 v)))):StX K H p "slots" v nx σ:=stX hp T.Du T.Dv lt1 (vx (by right) wo) h
def yq4{C:z4}{nm:Str}(hp:H p=some (.ins C dx (yek v0 v1)))(n:nm∉(["look","slots"]:Ρ))(h:R):MtX H p C nm R:=mtX hp rfl n h
end
noncomputable def yj5(v0 v1 v2 v3:V):Ι:=[("data",v0),("span",v1),("number",v2),("reached",v3)]
section
variable{H:Hp}{p dx:z4}{v0 v1 v2 v3 v:V}{P:V->Prop}{nx:Ζ}{σ:St}
section
variable(T:Txt K mg a)(hp:H p=some (.ins a.As dx (yj5 v0 v1 v2 v3)))
include T hp
def yft(h:P v0):RdX K H p "data" P:=rdX hp T.B0 T.Hf xy h
def ye9(h:P v1):RdX K H p "span" P:=rdX hp T.B0 T.Hg (wj (by right) xy) h
def yab(h:P v2):RdX K H p "number" P:=rdX hp T.B0 T.Cc (wj (by right) (wj (by right) xy)) h
def yai(h:wg nx σ (upd H p (.ins a.As dx (yj5 v0 v1 v v3)))):StX K H p "number" v nx σ:=stX hp T.B0 T.Cc lt4 (vx (by right) (vx (by right) θ)) h
def ő(h:P v3):RdX K H p "reached" P:=rdX hp T.B0 T.Bn (wj (by right) (wj (by right) (wj (by right) xy))) h
def ō(h:wg nx σ (upd H p (.ins a.As dx (yj5 v0 v1 v2 v)))):StX K H p "reached" v nx σ:=stX hp T.B0 T.Bn lt4 (vx (by right) (vx (by right) (vx (by right) θ))) h
end
def yff(T:Txt K mg a)(hp:H p=some (.ins a.As dx []))(h:wg nx σ (upd H p (.ins a.As dx [("data",v)]))):StX K H p "data" v nx σ:=stX hp T.B0 T.Hf lt0 wo h
def yfi(T:Txt K mg a)(hp:H p=some (.ins a.As dx [("data",v0)]))(h:wg nx σ (upd H p (.ins a.As dx [("data",v0),("span",v)]))):StX K H p "span" v nx σ:=stX hp T.B0 T.Hg lt1 (vx (by right) wo) h
def yah(T:Txt K mg a)(hp:H p=some (.ins a.As dx [("data",v0),("span",v1)]))(h:wg nx σ (upd H p (.ins a.As dx [("data",v0),("span",v1),("number",v)]))):StX K H p "number" v nx σ:=stX hp T.B0 T.Cc lt2 (vx (by right) (vx (by right) wo)) h
def ŋ(T:Txt K mg a)(hp:H p=some (.ins a.As dx [("data",v0),("span",v1),("number",v2)]))(h:wg nx σ (upd H p (.ins a.As dx (yj5 v0 v1 v2 v)))):StX K H p "reached" v nx σ:=stX hp T.B0 T.Bn lt3 (vx (by right) (vx (by right) (vx (by right) wo))) h
def vek{C:z4}{nm:Str}(hp:H p=some (.ins C dx (yj5 v0 v1 v2 v3)))(n:nm∉(["data","span","number","reached"]:Ρ))(h:R):MtX H p C nm R:=mtX hp rfl n h
end
noncomputable def ĝ(v0 v1 v2 v3 v4 v5:V):Ι:=[("looks",v0),("books",v1),("mixer",v2),("ended",v3),("place",v4),("present",v5)]
section
variable{H:Hp}{p dx:z4}{v0 v1 v2 v3 v4 v5 v:V}{P:V->Prop}{nx:Ζ}{σ:St}
section
variable(T:Txt K mg a)(hp:H p=some (.ins a.Ab dx (ĝ v0 v1 v2 v3 v4 v5)))
include T hp
def ybu(h:P v1):RdX K H p "books" P:=rdX hp T.Aq T.Fz (wj (by right) xy) h
def ycd(h:P v2):RdX K H p "mixer" P:=rdX hp T.Aq T.G8 (wj (by right) (wj (by right) xy)) h
def ybw(h:P v3):RdX K H p "ended" P:=rdX hp T.Aq T.Cw (wj (by right) (wj (by right) (wj (by right) xy))) h
def yb2(h:wg nx σ (upd H p (.ins a.Ab dx (ĝ v0 v1 v2 v v4 v5)))):StX K H p "ended" v nx σ:=stX hp T.Aq T.Cw lt6 (vx (by right) (vx (by right) (vx (by right) θ))) h
def yb3(h:P v4):RdX K H p "place" P:=rdX hp T.Aq T.Cy (wj (by right) (wj (by right) (wj (by right) (wj (by right) xy)))) h
def ybq(h:wg nx σ (upd H p (.ins a.Ab dx (ĝ v0 v1 v2 v3 v v5)))):StX K H p "place" v nx σ:=stX hp T.Aq T.Cy lt6 (vx (by right) (vx (by right) (vx (by right) (vx (by right) θ)))) h
def Ō(h:P v5):RdX K H p "present" P:=rdX hp T.Aq T.Bo (wj (by right) (wj (by right) (wj (by right) (wj (by right) (wj (by right) xy))))) h
def ň(h:wg nx σ (upd H p (.ins a.Ab dx (ĝ v0 v1 v2 v3 v4 v)))):StX K H p "present" v nx σ:=stX hp T.Aq T.Bo lt6 (vx (by right) (vx (by right) (vx (by right) (vx (by right) (vx (by right) θ))))) h
end
def yb8(T:Txt K mg a)(hp:H p=some (.ins a.Ab dx []))(h:wg nx σ (upd H p (.ins a.Ab dx [("looks",v)]))):StX K H p "looks" v nx σ:=stX hp T.Aq T.Cv lt0 wo h
def ycc(T:Txt K mg a)(hp:H p=some (.ins a.Ab dx [("looks",v0)]))(h:wg nx σ (upd H p (.ins a.Ab dx [("looks",v0),("books",v)]))):StX K H p "books" v nx σ:=stX hp T.Aq T.Fz lt1 (vx (by right) wo) h
def yb4(T:Txt K mg a)(hp:H p=some (.ins a.Ab dx [("looks",v0),("books",v1)]))(h:wg nx σ (upd H p (.ins a.Ab dx [("looks",v0),("books",v1),("mixer",v)]))):StX K H p "mixer" v nx σ:=stX hp T.Aq T.G8 lt2 (vx (by right) (vx (by right) wo)) h
def yby(T:Txt K mg a)(hp:H p=some (.ins a.Ab dx [("looks",v0),("books",v1),("mixer",v2)]))(h:wg nx σ (upd H p (.ins a.Ab dx [("looks",v0),("books",v1),("mixer",v2),("ended",v)]))):StX K H p "ended" v nx σ:=stX hp T.Aq T.Cw lt3 (vx (by right) (vx (by right) (vx (by right) wo))) h
def ybs(T:Txt K mg a)(hp:H p=some (.ins a.Ab dx [("looks",v0),("books",v1),("mixer",v2),("ended",v3)]))(h:wg nx σ (upd H p (.ins a.Ab dx [("looks",v0),("books",v1),("mixer",v2),("ended",v3),("place",v)]))):StX K H p "place" v nx σ:=stX hp T.Aq T.Cy lt4 (vx (by right) (vx (by right) (vx (by right) (vx (by right) wo)))) h
def Œ(T:Txt K mg a)(hp:H p=some (.ins a.Ab dx [("looks",v0),("books",v1),("mixer",v2),("ended",v3),("place",v4)]))(h:wg nx σ (upd H p (.ins a.Ab dx (ĝ v0 v1 v2 v3 v4 v)))):StX K H p "present" v nx σ:=stX hp T.Aq T.Bo lt5 (vx (by right) (vx (by right) (vx (by right) (vx (by right) (vx (by right) wo))))) h
def ve4{C:z4}{nm:Str}(hp:H p=some (.ins C dx (ĝ v0 v1 v2 v3 v4 v5)))(n:nm∉(["looks","books","mixer","ended","place","present"]:Ρ))(h:R):MtX H p C nm R:=mtX hp rfl n h
end
noncomputable def jx(v0 v1 v2:V):Ι:=[("foreteller",v0),("links",v1),("texts",v2)]
section
variable{H:Hp}{p dx:z4}{v0 v1 v2 v:V}{P:V->Prop}{nx:Ζ}{σ:St}
section
variable(T:Txt K mg a)(hp:H p=some (.ins a.A7 dx (jx v0 v1 v2)))
include T hp
def ο(h:P v0):RdX K H p "foreteller" P:=rdX hp T.Ar T.B6 xy h
def Ģ(h:P v1):RdX K H p "links" P:=rdX hp T.Ar T.Cq (wj (by right) xy) h
def Ġ(h:P v2):RdX K H p "texts" P:=rdX hp T.Ar T.Cr (wj (by right) (wj (by right) xy)) h
end
def π(T:Txt K mg a)(hp:H p=some (.ins a.A7 dx []))(h:wg nx σ (upd H p (.ins a.A7 dx [("foreteller",v)]))):StX K H p "foreteller" v nx σ:=stX hp T.Ar T.B6 lt0 wo h
def Ħ(T:Txt K mg a)(hp:H p=some (.ins a.A7 dx [("foreteller",v0)]))(h:wg nx σ (upd H p (.ins a.A7 dx [("foreteller",v0),("links",v)]))):StX K H p "links" v nx σ:=stX hp T.Ar T.Cq lt1 (vx (by right) wo) h
def ī(T:Txt K mg a)(hp:H p=some (.ins a.A7 dx [("foreteller",v0),("links",v1)]))(h:wg nx σ (upd H p (.ins a.A7 dx (jx v0 v1 v)))):StX K H p "texts" v nx σ:=stX hp T.Ar T.Cr lt2 (vx (by right) (vx (by right) wo)) h
def ykq{C:z4}{nm:Str}(hp:H p=some (.ins C dx (jx v0 v1 v2)))(n:nm∉(["foreteller","links","texts"]:Ρ))(h:R):MtX H p C nm R:=mtX hp rfl n h
end
noncomputable def ĕ(v0 v1:V):Ι:=[("base",v0),("data",v1)]
section
variable{H:Hp}{p dx:z4}{v0 v1 v:V}{P:V->Prop}{nx:Ζ}{σ:St}
section
variable(T:Txt K mg a)(hp:H p=some (.ins a.Ag dx (ĕ v0 v1)))
include T hp
def Ő(h:P v0):RdX K H p "base" P:=rdX hp T.Dw T.Dx xy h
def Ň(h:P v1):RdX K H p "data" P:=rdX hp T.Dw T.Dy (wj (by right) xy) h
end
def ŗ(T:Txt K mg a)(hp:H p=some (.ins a.Ag dx []))(h:wg nx σ (upd H p (.ins a.Ag dx [("base",v)]))):StX K H p "base" v nx σ:=stX hp T.Dw T.Dx lt0 wo h
def Ŗ(T:Txt K mg a)(hp:H p=some (.ins a.Ag dx [("base",v0)]))(h:wg nx σ (upd H p (.ins a.Ag dx (ĕ v0 v)))):StX K H p "data" v nx σ:=stX hp T.Dw T.Dy lt1 (vx (by right) wo) h
end
noncomputable def xb(v0 v1 v2 v3:V):Ι:=[("looks",v0),("most",v1),("pieces",v2),("chain",v3)]
section
variable{H:Hp}{p dx:z4}{v0 v1 v2 v3 v:V}{P:V->Prop}{nx:Ζ}{σ:St}
section
variable(T:Txt K mg a)(hp:H p=some (.ins a.A0 dx (xb v0 v1 v2 v3)))
include T hp
def ĥ(h:P v0):RdX K H p "looks" P:=rdX hp T.A2 T.Ba xy h
def ŕ(h:P v1):RdX K H p "most" P:=rdX hp T.A2 T.Dz (wj (by right) xy) h
def þ(h:P v2):RdX K H p "pieces" P:=rdX hp T.A2 T.Cd (wj (by right) (wj (by right) xy)) h
def ħ(h:P v3):RdX K H p "chain" P:=rdX hp T.A2 T.Bb (wj (by right) (wj (by right) (wj (by right) xy))) h
def Ī(h:wg nx σ (upd H p (.ins a.A0 dx (xb v0 v1 v2 v)))):StX K H p "chain" v nx σ:=stX hp T.A2 T.Bb lt4 (vx (by right) (vx (by right) (vx (by right) θ))) h
end
def ģ(T:Txt K mg a)(hp:H p=some (.ins a.A0 dx []))(h:wg nx σ (upd H p (.ins a.A0 dx [("looks",v)]))):StX K H p "looks" v nx σ:=stX hp T.A2 T.Ba lt0 wo h
def ŉ(T:Txt K mg a)(hp:H p=some (.ins a.A0 dx [("looks",v0)]))(h:wg nx σ (upd H p (.ins a.A0 dx [("looks",v0),("most",v)]))):StX K H p "most" v nx σ:=stX hp T.A2 T.Dz lt1 (vx (by right) wo) h
def ÿ(T:Txt K mg a)(hp:H p=some (.ins a.A0 dx [("looks",v0),("most",v1)]))(h:wg nx σ (upd H p (.ins a.A0 dx [("looks",v0),("most",v1),("pieces",v)]))):StX K H p "pieces" v nx σ:=stX hp T.A2 T.Cd lt2 (vx (by right) (vx (by right) wo)) h
def Ĩ(T:Txt K mg a)(hp:H p=some (.ins a.A0 dx [("looks",v0),("most",v1),("pieces",v2)]))(h:wg nx σ (upd H p (.ins a.A0 dx (xb v0 v1 v2 v)))):StX K H p "chain" v nx σ:=stX hp T.A2 T.Bb lt3 (vx (by right) (vx (by right) (vx (by right) wo))) h
def yl2{C:z4}{nm:Str}(hp:H p=some (.ins C dx (xb v0 v1 v2 v3)))(n:nm∉(["looks","most","pieces","chain"]:Ρ))(h:R):MtX H p C nm R:=mtX hp rfl n h
end
noncomputable def zf(v0 v1:V):Ι:=[("data",v0),("reached",v1)]
section
variable{H:Hp}{p dx:z4}{v0 v1 v:V}{P:V->Prop}{nx:Ζ}{σ:St}
section
variable(T:Txt K mg a)(hp:H p=some (.ins a.Aa dx (zf v0 v1)))
include T hp
def Ĥ(h:P v0):RdX K H p "data" P:=rdX hp T.Ak T.Cs xy h
def Þ(h:P v1):RdX K H p "reached" P:=rdX hp T.Ak T.Aw (wj (by right) xy) h
def ß(h:wg nx σ (upd H p (.ins a.Aa dx (zf v0 v)))):StX K H p "reached" v nx σ:=stX hp T.Ak T.Aw lt2 (vx (by right) θ) h
end
def ġ(T:Txt K mg a)(hp:H p=some (.ins a.Aa dx []))(h:wg nx σ (upd H p (.ins a.Aa dx [("data",v)]))):StX K H p "data" v nx σ:=stX hp T.Ak T.Cs lt0 wo h
def Ý(T:Txt K mg a)(hp:H p=some (.ins a.Aa dx [("data",v0)]))(h:wg nx σ (upd H p (.ins a.Aa dx (zf v0 v)))):StX K H p "reached" v nx σ:=stX hp T.Ak T.Aw lt1 (vx (by right) wo) h
def yg7{C:z4}{nm:Str}(hp:H p=some (.ins C dx (zf v0 v1)))(n:nm∉(["data","reached"]:Ρ))(h:R):MtX H p C nm R:=mtX hp rfl n h
end
noncomputable def Ó(v0:V):Ι:=[("store",v0)]
section
variable{H:Hp}{p dx:z4}{v0 v:V}{P:V->Prop}{nx:Ζ}{σ:St}
section
variable(T:Txt K mg a)(hp:H p=some (.ins a.An dx (Ó v0)))
include T hp
def ņ(h:P v0):RdX K H p "store" P:=rdX hp T.Aj T.E5 xy h
end
def Ŝ(T:Txt K mg a)(hp:H p=some (.ins a.An dx []))(h:wg nx σ (upd H p (.ins a.An dx (Ó v)))):StX K H p "store" v nx σ:=stX hp T.Aj T.E5 lt0 wo h
def ytr{C:z4}{nm:Str}(hp:H p=some (.ins C dx (Ó v0)))(n:nm∉(["store"]:Ρ))(h:R):MtX H p C nm R:=mtX hp rfl n h
end
local macro_rules | `(tactic| walk_at "f1")=>`(tactic| first
 | fail "1 ü yaa ř yb0 Ŋ yfh yaj ś yft ye9 yab ő ybu ycd ybw yb3 Ō ο Ģ Ġ Ő Ň ĥ ŕ þ ħ Ĥ Þ ņ")
local macro_rules | `(tactic| walk_at "f2")=>`(tactic| first
 | fail "1 û ý yad yac œ ń ybr ybx Ņ Ŏ ye6 yfa yae Ř yff yfi yai yah ō ŋ yb8 ycc yb4 yb2 yby ybq ybs ň Œ π Ħ ī ŗ Ŗ ģ ŉ ÿ Ī Ĩ ġ ß Ý Ŝ")
local macro_rules | `(tactic| walk_at "f3")=>`(tactic| first
 | fail "3 ve0 yq4 vek ve4 ykq yl2 yg7 ytr")
local macro_rules | `(tactic| walk_at "rd1")=>`(tactic| first | ((with_reducible refine gRd ?_); walk_at "f1") | ((with_reducible refine gSt ?_); walk_at "f2") | ((with_reducible refine gMt ?_); walk_at "f3"))
open SpanMath
def But(p:z4)(H H':Hp):Prop:=∀b o,H b=some o->b≠p->H' b=some o
def But.refl{p:z4}{H:Hp}:But p H H:=λZ Z h Z=>h
def But.of{p:z4}{H H':Hp}(s:yv H H'):But p H H':=λb o h Z=>s b o h
def But.trans{p:z4}{H H1 H2:Hp}(x:But p H H1)(y:But p H1 H2):But p H H2:=λb o h n=>y b o (x b o h n) n
theorem But.upd{p:z4}{H:Hp}{o:HO}:But p H (L2.upd H p o):=λb u h n=>by rw[yq n];exact h
theorem But.lst{p l C dx:z4}{fs:Ι}{H H':Hp}{xs:Τ}(e:But p H H')(hp:H p=some (.ins C dx fs))(h:H l=some (.lst xs)):H' l=some (.lst xs):=e _ _ h (xr h hp (by intro z;cases z))
def zw{x:V}(h:μ x=true):∃i,x=.int i:=by
 cases x with
 |int i=>exists i,rfl
 |_=>cases h
noncomputable def ñ:V->Bool
 | .int i=>decide (0<=i) && decide (i<=1)
 |_=>false
noncomputable def chV:V->Bool
 | .int i=>decide (32768<=i) && decide (i<=16744448)
 |_=>false
inductive yuk(K:z3)(vs:Τ)(H:Hp)(Q:VK)(E':XK):Prop
 |mk(x n:_)(_:vs=[x])(_:xu K H x (.type n))(_:Q (.bl (μ x)) H)
noncomputable def j4(x:Sn):Ι:=[("low",.int x.1),("width",.int x.2.1),("size",.int x.2.2)]
def nWL:¬(("width":Str)="low"):=by right
def nLW:¬(("low":Str)="width"):=by right
def nSL:¬(("size":Str)="low"):=by right
def nLS:¬(("low":Str)="size"):=by right
def nSW:¬(("size":Str)="width"):=by right
def nWS:¬(("width":Str)="size"):=by right
def lkL(x:Sn):(j4 x).lookup ("low":Str)=some (.int x.1):=xy
def lkW(x:Sn):(j4 x).lookup ("width":Str)=some (.int x.2.1):=wj nWL xy
def lkS(x:Sn):(j4 x).lookup ("size":Str)=some (.int x.2.2):=wj nSL (wj nSW xy)
def lkN(x:Sn){m:Str}(h1:¬m="low")(h2:¬m="width")(h3:¬m="size"):(j4 x).lookup m=none:=wj h1 (wj h2 (wj h3 ė))
def pfL(x:Sn)(v:Int):ζ "low" (.int v) (j4 x)=j4 (v,x.2.1,x.2.2):=θ
def pfW(x:Sn)(v:Int):ζ "width" (.int v) (j4 x)=j4 (x.1,v,x.2.2):=vx nLW θ
def pfS(x:Sn)(v:Int):ζ "size" (.int v) (j4 x)=j4 (x.1,x.2.1,v):=vx nLS (vx nWS θ)
section
variable{H:Hp}{p dx:z4}{x:Sn}{P:V->Prop}{nx:Ζ}{σ:St}{v:Int}
def rdL(T:Txt K mg a)(hp:H p=some (.ins a.Ad dx (j4 x)))(h:P (.int x.1)):
  ∃a' C dx fs v,V.ref p=.ref a'/\H a'=some (.ins C dx fs)/\Cls K C/\NoAttr K C "low"/\fs.lookup ("low":Str)=some v/\P v:=⟨p,_,dx,_,_,rfl,hp,T.Ao,T.Cu,lkL x,h⟩
def rdW(T:Txt K mg a)(hp:H p=some (.ins a.Ad dx (j4 x)))(h:P (.int x.2.1)):
  ∃a' C dx fs v,V.ref p=.ref a'/\H a'=some (.ins C dx fs)/\Cls K C/\NoAttr K C "width"/\fs.lookup ("width":Str)=some v/\P v:=⟨p,_,dx,_,_,rfl,hp,T.Ao,T.Bm,lkW x,h⟩
def rdS(T:Txt K mg a)(hp:H p=some (.ins a.Ad dx (j4 x)))(h:P (.int x.2.2)):
  ∃a' C dx fs v,V.ref p=.ref a'/\H a'=some (.ins C dx fs)/\Cls K C/\NoAttr K C "size"/\fs.lookup ("size":Str)=some v/\P v:=⟨p,_,dx,_,_,rfl,hp,T.Ao,T.Cb,lkS x,h⟩
def vhe(T:Txt K mg a)(hp:H p=some (.ins a.Ad dx (j4 x)))(h:wg nx σ (upd H p (.ins a.Ad dx (j4 (v,x.2.1,x.2.2))))):
  ∃a' C dx fs,V.ref p=.ref a'/\H a'=some (.ins C dx fs)/\Cls K C/\NoAttr K C "low"/\fs.length<1000/\wg nx σ (upd H a' (.ins C dx (ζ "low" (.int v) fs))):=⟨p,_,dx,j4 x,rfl,hp,T.Ao,T.Cu,by show 3<1000;decide,by rw[pfL];exact h⟩
def vhd(T:Txt K mg a)(hp:H p=some (.ins a.Ad dx (j4 x)))(h:wg nx σ (upd H p (.ins a.Ad dx (j4 (x.1,v,x.2.2))))):
  ∃a' C dx fs,V.ref p=.ref a'/\H a'=some (.ins C dx fs)/\Cls K C/\NoAttr K C "width"/\fs.length<1000/\wg nx σ (upd H a' (.ins C dx (ζ "width" (.int v) fs))):=⟨p,_,dx,j4 x,rfl,hp,T.Ao,T.Bm,by show 3<1000;decide,by rw[pfW];exact h⟩
def vh2(T:Txt K mg a)(hp:H p=some (.ins a.Ad dx (j4 x)))(h:wg nx σ (upd H p (.ins a.Ad dx (j4 (x.1,x.2.1,v))))):
  ∃a' C dx fs,V.ref p=.ref a'/\H a'=some (.ins C dx fs)/\Cls K C/\NoAttr K C "size"/\fs.length<1000/\wg nx σ (upd H a' (.ins C dx (ζ "size" (.int v) fs))):=⟨p,_,dx,j4 x,rfl,hp,T.Ao,T.Cb,by show 3<1000;decide,by rw[pfS];exact h⟩
end
set_option hygiene true in
local macro_rules | `(tactic| walk_at "rd1")=>`(tactic| first
 | fail "1 rdL rdW rdS vhe vhd"
 | (with_reducible refine' vh2 (by assumption) ?rdh ?_; (case rdh=>first | assumption | exact ya)))
inductive Slt where
 |ev (n o:Int)
 |qk (h:Int)
 |rn (l n:Int)
abbrev _root_.Α:=Nat->qi Int->qj Slt
def Slt.ok:Slt->Prop
 | .ev n o=>0<=n/\0<=o/\n+o<=255
 | .qk h=>32768<=h/\h<=16744448
 | .rn l n=>0<=l/\l<=1/\0<=n/\n<=255
noncomputable def ê(n:Int):Int:=(2*n+1)*16777216/(2*n+2)
def Slt.due:Slt->Int
 | .ev n o=>(2*o+1)*16777216/(2*(n+o)+2)
 | .qk h=>h
 | .rn l n=>if l=1 then ê n else 16777216-ê n
noncomputable def yc6(n o:Int):Slt:=if 255<n+o then .ev ((n+1)/2) ((o+1)/2)else .ev n o
noncomputable def yey(m:Int):Int:=if 16744448<(if 32768 > m then 32768 else m)then 16744448 else (if 32768 > m then 32768 else m)
def Slt.see:Slt->Int->Slt
 | .ev n o,b=>if b=1 then yc6 n (o+1)else yc6 (n+1) o
 | .qk h,b=>.qk (yey (if b=1 then h+(16777216-h)/16 else h-h/16))
 | .rn l n,b=>if b=l then .rn l (if 255<n+1 then 255 else n+1)else .rn b 1
def oS(a:Ads)(dx:z4):Slt->HO
 | .ev n o=>.ins a.Am dx (ν (.int n) (.int o))
 | .qk h=>.ins a.Al dx (jc (.int h))
 | .rn l n=>.ins a.At dx (Ĭ (.int l) (.int n))
def yd6{n o:Int}(h1:0<=n)(h2:0<=o)(h3:n+o<=256):(yc6 n o).ok:=by
 unfold yc6
 split
 .exists by omega,(),()
 .exists h1,h2,()
def yh2(m:Int):32768<=yey m/\yey m<=16744448:=by
 unfold yey
 split<;>split<;>omega
def Slt.see_ok{s:Slt}{b:Int}(h:s.ok)(b0:0<=b)(b1:b<=1):(s.see b).ok:=by
 cases s with
 |ev n o =>
  let⟨c,a,d⟩:=h;unfold Slt.see;dsimp only
  split
  .exact yd6 c () ()
  .exact yd6 () a ()
 |qk h0=>exact yh2 _
 |rn l n =>
  let⟨c,a,d,e⟩:=h;unfold Slt.see;dsimp only
  split
  .refine⟨c,a,?_,?_⟩<;>split<;>omega
  .exists b0,b1,∅,∅
noncomputable def kdS:Fin 3->Str
 |0=>"even"
 |1=>"quick"
 |2=>"run"
def kd0:Fin 3->Slt
 |0=>.ev 0 0
 |1=>.qk 8388608
 |2=>.rn 1 0
def yod(k:Fin 3):(kd0 k).ok:=by
 match k with
 |0=>exists by decide,∅,∅
 |1=>exists by decide,∅
 |2=>exists by decide,∅,∅,∅
def ywo{b:Int}(b0:0<=b)(b1:b<=1):ñ (.int b)=true:=by simp only[ñ,bJ,decide_eq_true_eq];omega
def yeg{x:V}(h:ñ x=true):∃b:Int,x=.int b/\0<=b/\b<=1:=by
 cases x with
 |int i =>
  simp only[ñ,bJ,decide_eq_true_eq]at h;exact⟨i,rfl,h.1,h.2⟩
 |_=>cases h
inductive Ť(C:z4)(F:Ι)(vs:Τ)(H:Hp)(Q:VK)(E':XK):Prop
 |mk(p dx:z4)(_:vs=[.ref p])(_:H p=some (.ins C dx []))(_:∀H',H' p=some (.ins C dx F)->But p H H'->Q .non H')
inductive u5(o:z4->Slt->HO)(g:Slt->Prop)(vs:Τ)(H:Hp)(Q:VK)(E':XK):Prop
 |mk(p dx:z4)(s:Slt)(_:vs=[.ref p])(_:g s)(_:s.ok)(_:H p=some (o dx s))(_:Q (.int s.due) H)
inductive ε(K:z3)(o:z4->Slt->HO)(g:Slt->Prop)(C:z4)(vs:Τ)(H:Hp)(Q:VK)(E:XK):Prop
 |mk(p dx:z4)(s:Slt)(x:V)(n:String)(_:vs=[.ref p,x])(_:g s)(_:s.ok)(_:H p=some (o dx s))(_:xu K H x (.type n))(_:(∀b:Int,x=.int b->0<=b->b<=1->∀H',H' p=some (o dx (s.see b))->But p H H'->Q .non H'))(_:(ñ x=false->E (.ref C) none H))
def veg:Slt->Prop
 | .ev _ _=>True
 |_=>False
def vd9:Slt->Prop
 | .qk _=>True
 |_=>False
def vea:Slt->Prop
 | .rn _ _=>True
 |_=>False
def ybo(bs:Ο):Prop:=∀b∈bs,0<=b/\b<=1
def wt{n:Nat}(h:n<=16000000):n<=sizeLine:=bX h ∅
def vk{n:Nat}(h:n<=16000000):n<sizeLine:=Nat.lt_of_le_of_lt h ∅
def ξ{ns:Ο}{x:V}(h:(ns.map V.int)[i]?=some x):∃n,x=.int n/\n∈ns/\ns[i]?=some n/\i<ns.length:=by
 rw[bq]at h
 cases e:ns[i]? with
 |none=>rw[e]at h;cases h
 |some n =>
  rw[e]at h
  have a:i<ns.length:=by
   rcases Nat.lt_or_ge i ns.length with q|q
   .exact q
   .rw[bK q]at e;cases e
  exists n,(bC h).symm,bB e,rfl,a
def à{l:Ο}{q:Int}(h:l[i]?=some q):l.take (i+1)=l.take i++[q]:=by rw[List.take_add_one,h];rfl
def yke{ys:Ο}(h1:ybo xs)(h2:ybo ys):ybo (xs++ys):=λb a=>by
 rcases bM.mp a with h|h
 .exact h1 b h
 .exact h2 b h
def yg9(c:Int)(n:Nat):(List.replicate n [V.int c]).flatten=(List.replicate n c).map V.int:=by
 induction n with
 |zero=>rfl
 |succ n ih=>rw[ci,List.flatten_cons,ih,ci];rfl
def yqg(sg:Ο)(p:Int):Int:=if p<=sg.length then (atI sg (-p)).getD 256 else 256
def ytt{α β:Type}(f:α->β)(xs:qi α)(i:Int):atI (xs.map f) i=(atI xs i).map f:=by
 unfold atI;rw[bc]
 cases ixN xs.length i with
 |none=>rfl
 |some j =>
  show (xs.map f)[j]?=(xs[j]?).map f;rw[bq]
def ykn{sg:Ο}{p:Int}(h1:1<=p)(h2:p<=sg.length):∃c,atI sg (-p)=some c/\c∈sg:=by
 unfold atI ixN;rw[if_neg ()];by_cases h:-(sg.length:Int)<= -p
 .rw[if_pos ()];have a:((-p+(sg.length:Int)).toNat)<sg.length:=()
  exists _,bg a,cu a
 .omega
def Slt.kind:Slt->Fin 3
 | .ev _ _=>0
 | .qk _=>1
 | .rn _ _=>2
def ykv(s:Slt)(b:Int):(s.see b).kind=s.kind:=by
 cases s with
 |ev n o =>
  unfold Slt.see yc6;dsimp only
  split<;>split<;>rfl
 |qk h=>rfl
 |rn l n =>
  unfold Slt.see;dsimp only
  split<;>rfl
def ymk(k:Fin 3):(kd0 k).kind=k:=by
 match k with
 |0=>rfl
 |1=>rfl
 |2=>rfl
def Ĺ(a:Ads)(dx:z4)(s:Slt):∃C fs,oS a dx s=.ins C dx fs:=by cases s<;>exact⟨_,_,rfl⟩
def ye0{s:Slt}(h:s.ok):32768<=s.due/\s.due<=16744448:=by
 cases s with
 |ev n o =>
  let⟨d,b,c⟩:=h;unfold Slt.due;dsimp only;have a:(0:Int)<2*(n+o)+2:=()
  constructor
  .rw[Int.le_ediv_iff_mul_le a];omega
  .have:(2*o+1)*16777216/(2*(n+o)+2)<16744449:=by
    rw[Int.ediv_lt_iff_lt_mul a];omega
   omega
 |qk h0=>exact h
 |rn l n =>
  let⟨d,b,c,e⟩:=h;have a:(0:Int)<2*n+2:=()
  have g1:8388608<=ê n:=by
   unfold ê;rw[Int.le_ediv_iff_mul_le a];omega
  have g2:ê n<16744449:=by
   unfold ê;rw[Int.ediv_lt_iff_lt_mul a];omega
  unfold Slt.due;dsimp only
  split<;>omega
def ygt{p dx:z4}{s:Slt}{ta:TE}{σ:St}{H:Hp}{Q:VK}{E1 E2 E3:XK}(hta:∀Q':VK,Q' (.ref p) H->ta σ H Q')(hp:H p=some (oS a dx s))(ok:s.ok)(h:Q (.int s.due) H):
  yuc (yda a.Am "chance" (u5 (oS a) veg) [] E1 ta ym9) (yuc (yda a.Al "chance" (u5 (oS a) vd9) [] E2 ta ym9) (yda a.At "chance" (u5 (oS a) vea) [] E3 ta ym9)) σ H Q:=by
 cases s with
 |ev n o=>exact yed (yel (hta _ ⟨p,dx,_,rfl,hp,ğ,p,dx,.ev n o,rfl,trivial,ok,hp,h⟩))
 |qk h0=>exact Ļ (yed (yel (hta _ ⟨p,dx,_,rfl,hp,ú,p,dx,.qk h0,rfl,trivial,ok,hp,h⟩)))
 |rn l n=>exact Ļ (Ļ (yel (hta _ ⟨p,dx,_,rfl,hp,Ŕ,p,dx,.rn l n,rfl,trivial,ok,hp,h⟩)))
def ysn{p dx:z4}{s:Slt}{ta:TE}{t:TA}{σ:St}{H:Hp}{Q:VK}{E1 E2 E3:St->XK}{x:V}{n:String}(hta:∀Q':VK,Q' (.ref p) H->ta σ H Q')(ht:∀Q':qi V->Hp->Prop,Q' [x] H->t σ H Q')(hp:H p=some (oS a dx s))(ok:s.ok)(ty:xu K H x (.type n))
  (h:∀b:Int,x=.int b->0<=b->b<=1->∀H',H' p=some (oS a dx (s.see b))->But p H H'->Q .non H') (h1:ñ x=false->E1 σ (.ref a.Cl) none H) (h2:ñ x=false->E2 σ (.ref a.Cl) none H) (h3:ñ x=false->E3 σ (.ref a.Cl) none H):
  yuc (Ľ a.Am "seen" (ε K (oS a) veg a.Cl) [] E1 ta t) (yuc (Ľ a.Al "seen" (ε K (oS a) vd9 a.Cl) [] E2 ta t) (Ľ a.At "seen" (ε K (oS a) vea a.Cl) [] E3 ta t)) σ H Q:=by
 cases s with
 |ev n o=>exact yed (Ů (hta _ ⟨p,dx,_,rfl,hp,ž,ht _ ⟨p,dx,.ev n o,x,_,rfl,trivial,ok,hp,ty,h,h1⟩⟩))
 |qk h0=>exact Ļ (yed (Ů (hta _ ⟨p,dx,_,rfl,hp,ŏ,ht _ ⟨p,dx,.qk h0,x,_,rfl,trivial,ok,hp,ty,h,h2⟩⟩)))
 |rn l n=>exact Ļ (Ļ (Ů (hta _ ⟨p,dx,_,rfl,hp,ycf,ht _ ⟨p,dx,.rn l n,x,_,rfl,trivial,ok,hp,ty,h,h3⟩⟩)))
def yzv{x:Sn}{c b:Int}(h:Ok x):(nar x c b).2.2<=x.2.2+2:=by
 unfold nar ren;have:=h.z
 (repeat' split)<;>(dsimp only;omega)
noncomputable abbrev tMx:Nat:=100000
def ydv{k:Nat}(h:k<=6):pw k<=281474976710656:=Int.le_trans (yis h) ∅
def ylg(xs:Ο)(y:Int):xs.map V.int++[V.int y]=(xs++[y]).map V.int:=by simp
def yre(xs:Ο):(xs.map V.int).reverse=xs.reverse.map V.int:=by simp
noncomputable def gvv(c b:Int):Int:=if b=1 then c else 16777216-c
def ycm{x:V}(h:chV x=true):∃c,x=.int c/\32768<=c/\c<=16744448:=by
 cases x with
 |int i =>
  simp only[chV,bJ,decide_eq_true_eq]at h;exact⟨i,rfl,h.1,h.2⟩
 |_=>cases h
def yd5{x:V}(h:ñ x=true):∃b,x=.int b/\0<=b/\b<=1:=by
 cases x with
 |int i =>
  simp only[ñ,bJ,decide_eq_true_eq]at h;exact⟨i,rfl,h.1,h.2⟩
 |_=>cases h
def yea{c:Int}(h:Ch c):chV (.int c)=true:=by let⟨b,a⟩:=h;simp only[chV,bJ,decide_eq_true_eq];omega
def yc1{b:Int}(h1:0<=b)(h2:b<=1):ñ (.int b)=true:=by simp only[ñ,bJ,decide_eq_true_eq];omega
def jz{H H':Hp}{v:V}{n:String}(S:yv H H')(t:xu K H v (.type n)):xu K H' v (.type n):=by
 cases t with
 |non=>exact .non
 |bl b=>exact .bl b
 |int i=>exact .int i
 |str x=>exact .str x
 |flt x=>exact .flt x
 |lst e=>exact .lst (S _ _ e)
 |frz e=>exact .frz (S _ _ e)
 |tup e=>exact .tup (S _ _ e)
 |dK e=>exact .dK (S _ _ e)
 |dT e=>exact .dT (S _ _ e)
noncomputable def sgV:V->Bool
 | .int i=>decide (0<=i) && decide (i<=255)
 |_=>false
def ymx(K:z3)(H:Hp)(xs:Τ):Prop:=∀y∈xs,∃k:String,xu K H y (.type k)
def zv{H:Hp}(ns:Ο):ymx K H (ns.map V.int):=λy a=>by
 let⟨i,_,rfl⟩:=bn.mp a;exists _,.int i
def Bad(K:z3)(H:Hp)(x:V)(n:String)(m:Int):Prop:=n≠"list"\/∃p xs,x=.ref p/\H p=some (.lst xs)/\ymx K H xs/\xs.length<=100000/\(decide ((xs.length:Int)<=m) && xs.all sgV)=false
def yuf(K:z3)(H:Hp)(x:V)(xs:Τ)(m:Int):Prop:=∃p,x=.ref p/\H p=some (.lst xs)/\ymx K H xs/\xs.length<=100000/\(decide ((xs.length:Int)<=m) && xs.all sgV)=true
def ytf{H:Hp}{x:V}{n:String}(ty:xu K H x (.type n)):W.kitOne K (.type n) (.type "list")=some (decide (n="list")):=by cases ty<;>rfl
def ylx{n:Nat}(h:n<=100000):n<sizeLine:=Nat.lt_of_le_of_lt h ∅
def yl5{xs:Τ}(n:Nat):ydb xs (some (n:Int)) none=xs.drop n:=by
 unfold ydb;rw[HT.sIx_nat,HT.sIx_none];by_cases h:n<=xs.length
 .rw[Nat.min_eq_left h,cE (by rw[cR];exact bj _)]
 .rw[Nat.min_eq_right (),Nat.sub_self,List.take_zero,List.drop_of_length_le ()]
def yiz{ns:Ο}(h:∀i∈ns,0<=i/\i<=255):(ns.map V.int).all sgV=true:=by rw[List.all_map,List.all_eq_true];intro i b;let⟨c,a⟩:=h i b;simp[sgV,c,a]
inductive į(K:z3)(C:z4)(m:Int)(vs:Τ)(H:Hp)(Q:VK)(E:XK):Prop
 |mk(x n:_)(_:vs=[x])(_:xu K H x (.type n))(_:((Bad K H x n m/\∀H',yv H H'->E (.ref C) none H')\/∃xs,yuf K H x xs m/\∀r H',H r=none->H' r=some (.lst xs)->yv H H'->Q (.ref r) H'))
def yj7(p q:z4)(H H':Hp):Prop:=∀b o,H b=some o->b≠p->b≠q->H' b=some o
def But.two{p:z4}{H H':Hp}(h:But p H H'):yj7 p q H H':=λb o e n Z=>h b o e n
def But.two'{p:z4}{H H':Hp}(h:But q H H'):yj7 p q H H':=λb o e Z n=>h b o e n
def yj7.trans{p:z4}{H H1 H2:Hp}(x:yj7 p q H H1)(y:yj7 p q H1 H2):yj7 p q H H2:=λb o h n m=>y b o (x b o h n m) n m
structure ygc(a:Ads)(H:Hp)(p dx pd ps ds:z4)(d:Ο)(x:Sn):Prop where
 me:H p=some (.ins a.As dx (yj5 (.ref pd) (.ref ps) (.int (rn d (sz x))) (.int x.2.2)))
 dt:H pd=some (.lst (d.map V.int))
 sp:H ps=some (.ins a.Ad ds (j4 x))
 ne:p≠ps
def ygc.same{H H':Hp}{p dx pd ps:z4}{x:Sn}(h:ygc a H p dx pd ps ds d x)(S:yv H H'):ygc a H' p dx pd ps ds d x:=⟨S _ _ h.me,S _ _ h.dt,S _ _ h.sp,h.ne⟩
section
variable{H H':Hp}{p dx pd ps:z4}{x:Sn}
theorem ygc.lst(h:ygc a H p dx pd ps ds d x)(B:yj7 p ps H H'){l:z4}{xs:Τ}(e:H l=some (.lst xs)):H' l=some (.lst xs):=B _ _ e (xr e h.me (by intro z;cases z)) (xr e h.sp (by intro z;cases z))
theorem ygc.tup(h:ygc a H p dx pd ps ds d x)(B:yj7 p ps H H'){l:z4}{xs:Τ}(e:H l=some (.tup xs)):H' l=some (.tup xs):=B _ _ e (xr e h.me (by intro z;cases z)) (xr e h.sp (by intro z;cases z))
end
def yli{H:Hp}{p:z4}(h:H p=some (.lst (d.map V.int)))(hb:Byt d)(hz:d.length<=12000):yuf K H (.ref p) (d.map V.int) 12000 :=
 ⟨p,rfl,h,zv d,by rw[bc];omega,by rw[yiz hb,bc,bi ()];rfl⟩
def Sgs(ns:Ο):Prop:=∀i∈ns,0<=i/\i<=255
noncomputable def wth:Ο:=[128,64,32,16,8,4,2,1]
def b8(s:Int):Ο:=wth.map (λw=>s/w%2)
def dec:qi Int->qi Int
 |[]=>[0]
 |s::r=>(1::b8 s)++dec r
noncomputable def nds:Int->qi Int->qi Int
 |_,[]=>[]
 |n,b::r=>n::nds (2*n+b) r
def ybp:qi Int->qi Int
 |[]=>[]
 |s::r=>(1::b8 s)++ybp r
theorem yms:∀ns,dec ns=ybp ns++[0]
 |[]=>rfl
 |s::r=>by simp[dec,ybp,yms r]
theorem ya9(s:Int):∀ns,ybp (ns++[s])=ybp ns++(1::b8 s)
 |[]=>by simp[ybp]
 |t::r=>by simp[ybp,ya9 s r]
def yoj(s:Int):(b8 s).length=8:=rfl
theorem j8:∀ns:Ο,(ybp ns).length=9*ns.length
 |[]=>rfl
 |s::r=>by
  show ((1::b8 s)++ybp r).length=9*(r.length+1);rw[bf,j8 r];show 9+_=_;omega
def yrw(s:Int):ybo (b8 s):=λb a=>by
 let⟨w,_,rfl⟩:=bn.mp a;have c:0<=s/w%2:=cT _ ∅;have d:s/w%2<2:=cO _ ∅;exists c,()
theorem Ï:∀ns,ybo (dec ns)
 |[]=>λb a=>by rw[bA.mp a];decide
 |s::r=>by
  refine yke (λb a=>?_) (Ï r);rcases bw.mp a with rfl|a
  .decide
  .exact yrw s b a
def vfy{s:Int}(h0:0<=s)(h1:s<=255):128*(s/128%2)+(64*(s/64%2)+(32*(s/32%2)+(16*(s/16%2)+(8*(s/8%2)+(4*(s/4%2)+(2*(s/2%2)+(1*(s/1%2)+0)))))))=s:=by
 have h:∀n:Nat,n<256->128*((n:Int)/128%2)+(64*((n:Int)/64%2)+(32*((n:Int)/32%2)+(16*((n:Int)/16%2)+(8*((n:Int)/8%2)+(4*((n:Int)/4%2)+(2*((n:Int)/2%2)+(1*((n:Int)/1%2)+0)))))))=(n:Int):=by right
 let⟨n,rfl⟩:=Int.eq_ofNat_of_zero_le h0;exact h n ()
noncomputable def wV(s:Int):V->V
 | .int w=>.int (s/w%2)
 |_=>.non
def Ŭ{H:Hp}{p:z4}(h:H p=some (.lst (d.map V.int)))(hb:Sgs d)(hz:d.length<=1000):yuf K H (.ref p) (d.map V.int) 1000 :=
 ⟨p,rfl,h,zv d,by rw[bc];omega,by rw[yiz hb,bc,bi ()];rfl⟩
def ykf(xs ys:Ο):xs.map V.int++ys.map V.int=(xs++ys).map V.int:=by simp
def zn(ns:Ο):(dec ns).length=9*ns.length+1:=by rw[yms,bf,j8];rfl
noncomputable def ź(f:qi Int->qj Slt)(k:Ο)(s:Slt):qi Int->qj Slt:=λj=>if j=k then some s else f j
noncomputable def vd0:HO->Bool
 | .ins _ _ _=>true
 | .dT _=>true
 |_=>false
noncomputable def kI(k:Ο):qi Key:=k.map Sum.inl
def yyz(k:Ο):(kI k).map kV=k.map V.int:=by unfold kI;rw[cb];rfl
def yo6{j k:Ο}(h:kI j=kI k):j=k:=by
 unfold kI at h
 induction j generalizing k with
 |nil =>
  cases k with
  |nil=>rfl
  |cons _ _=>cases h
 |cons x r ih =>
  cases k with
  |nil=>cases h
  |cons y s =>
   injection h with h1 h2;injection h1 with h1;rw[h1,ih h2]
def yub(H:Hp)(d:z4):Prop:=∀kvs,H d=some (.dT kvs)->(kvs.map (·.1)).Nodup/\∀q∈kvs,∃k,q.1=kI k
def yub.mv{H H':Hp}{d:z4}{kvs:qi (qi Key×V)}(h:yub H d)(h1:H d=some (.dT kvs))(h2:H' d=some (.dT kvs)):yub H' d:=λa e=>by
 rw[h2]at e;cases e;exact h kvs h1
def ylv{kvs:qi (qi Key×V)}{k:qi Key}(h:jl kvs k=none):k∉kvs.map (·.1):=λm=>by
 let⟨p,b,e⟩:=bn.mp m;have a:=γ k kvs;rw[h]at a;exact List.any_eq_false.mp a p b (bi e)
def yub.snoc{H':Hp}{d:z4}{kvs:qi (qi Key×V)}{k:Ο}{v:V}(h:(kvs.map (·.1)).Nodup/\∀q∈kvs,∃k,q.1=kI k)(hn:jl kvs (kI k)=none)(h2:H' d=some (.dT (Ż kvs (kI k) v))):yub H' d:=λa e=>by
 rw[h2,Š _ hn]at e;cases e;rw[bD];exists List.nodup_append.mpr ⟨h.1,cP.mpr ⟨List.not_mem_nil,List.nodup_nil⟩,λx b y f z=>?_⟩,λq c=>?_
 .rw[z,bA.mp f]at b;exact ylv hn b
 .rcases bM.mp c with w|w
  .exact h.2 q w
  .rw[bA.mp w];exists k,rfl
structure ó(a:Ads)(H:Hp)(p dx lk d:z4)(kd:Fin 3)(f:qi Int->qj Slt)(O:Μ)(m:Nat):Prop where
 me:H p=some (.ins a.Ap dx (yek (.ref lk) (.ref d)))
 own:∀b,O b->∃o,H b=some o/\vd0 o=true
 np:¬O p
 dO:O d
 ky:yub H d
 tb:∃(kvs:qi (qi Key×V))(loc:qi Int->z4×z4),H d=some (.dT kvs)/\kvs.length<=m/\(∀k,f k=none->jl kvs (kI k)=none)/\
  (∀k s,f k=some s->jl kvs (kI k)=some (.ref (loc k).1)/\H (loc k).1=some (oS a (loc k).2 s)/\s.ok/\s.kind=kd/\O (loc k).1)/\(∀k j s t,f k=some s->f j=some t->(loc k).1=(loc j).1->k=j)
def ynb(O:Μ)(H H':Hp):Prop:=∀b o,H b=some o->¬O b->H' b=some o
section
variable{H H':Hp}{p dx lk d:z4}{kd:Fin 3}{f:qi Int->qj Slt}{O:Μ}{m:Nat}
def ó.frame(h:ó a H p dx lk d kd f O m){O2:Μ}(B:ynb O2 H H')(dj:∀b,O b->¬O2 b)(hp:¬O2 p):ó a H' p dx lk d kd f O m:=by
 let⟨c,g,e,l,w,q,v⟩:=h.tb;exists B _ _ h.me hp,λb j=>?_,h.np,h.dO,h.ky.mv e (B _ _ e (dj _ h.dO)),c,g,B _ _ e (dj _ h.dO),l,w,λk s u=>?_,v
 .obtain⟨o,x,n⟩:=h.own b j;exists o,B _ _ x (dj b j),n
 .obtain⟨z,y,t,r,i⟩:=q k s u;exists z,B _ _ y (dj _ i),t,r,i
def ó.same(h:ó a H p dx lk d kd f O m)(S:yv H H'):ó a H' p dx lk d kd f O m:=h.frame (O2:=λZ=>False) (λb o e Z=>S b o e) (λZ Z z=>z) (λz=>z)
end
open MixI
structure yj8(a:Ads)(p dx l:z4)(ws:Ο)(H:Hp):Prop where
 o:H p=some (.ins a.Dp dx (vd6 (.ref l)))
 l:H l=some (.lst (ws.map V.int))
def yj8.same{p dx l:z4}{ws:Ο}{H H':Hp}(m:yj8 a p dx l ws H)(S:yv H H'):yj8 a p dx l ws H':=⟨S _ _ m.o,S _ _ m.l⟩
def yx3{k:Nat}{cs:Ο}(h:COk k cs){c:Int}(hm:c∈cs):Ch c:=⟨h.lo c hm,h.hi c hm⟩
def yqc{g:Int->Int->Int}{ws cs:Ο}(h:cs.length=ws.length):(List.range (ws.map V.int).length).map (λi=>V.int (g ((ws[i]?).getD 0) ((cs[i]?).getD 0)))=(List.zipWith g ws cs).map V.int:=by rw[bc,<- ygj h,cb];rfl
def ydp{H:Hp}{D:z4}{xs ys:Τ}(h:H D=some (.lst xs))(e:xs=ys):H D=some (.lst ys):=e ▸ h
inductive yho(K:z3)(a:Ads)(vs:Τ)(H:Hp)(Q:VK)(E':XK):Prop
 |mk(p dx l c:z4)(ws cs:Ο)(k:Nat)(_:vs=[.ref p,.ref c])(_:1<=k)(_:k<=6)(_:WOk k ws)(_:COk k cs)(_:yj8 a p dx l ws H)(_:SqL K H c (cs.map V.int))(_:∀H',yv H H'->Q (.int (yqf ws cs)) H')
inductive yg8(K:z3)(a:Ads)(C:z4)(vs:Τ)(H:Hp)(Q:VK)(E:XK):Prop
 |mk(p dx l c:z4)(ws cs:Ο)(k:Nat)(x:V)(n:String)(_:vs=[.ref p,.ref c,x])(_:1<=k)(_:k<=6)(_:WOk k ws)(_:COk k cs)(_:yj8 a p dx l ws H)(_:SqL K H c (cs.map V.int))(_:xu K H x (.type n))(_:(∀b:Int,x=.int b->0<=b->b<=1->∀l' H',H l'=none->yj8 a p dx l' (lrn ws cs b) H'->But p H H'->Q .non H'))(_:(ñ x=false->E (.ref C) none H))
inductive yqi(a:Ads)(vs:Τ)(H:Hp)(Q:VK)(E':XK):Prop
 |mk(p dx l:z4)(ws:Ο)(_:vs=[.ref p])(_:yj8 a p dx l ws H)(_:∀r H',H r=none->H' r=some (.lst (ws.map V.int))->yv H H'->Q (.ref r) H')
inductive ykk(a:Ads)(vs:Τ)(H:Hp)(Q:VK)(E':XK):Prop
 |mk(p dx:z4)(k:Nat)(_:vs=[.ref p,.int k])(_:1<=k)(_:k<=6)(_:H p=some (.ins a.Dp dx []))(_:∀l H',H l=none->yj8 a p dx l (List.replicate k 1099511627776) H'->But p H H'->Q .non H')
def yj1:V->Bool
 | .str s=>inV (.str s) [V.str "even",V.str "quick",V.str "run"]
 |_=>false
noncomputable def plV:V->Bool
 | .int i=>decide (1<=i) && decide (i<=8)
 |_=>false
noncomputable def ltV:V->V->Bool
 | .int i,.int j=>decide (i<j)
 |_,_=>false
def vf6(xs:Τ):Bool:=(List.zipWith ltV xs xs.tail).all id
def ur(xs:Τ):Bool:=decide (xs.length<=4) && xs.all plV && vf6 xs
def PlB(K:z3)(H:Hp)(x:V)(b:Bool):Prop:=(∃n,xu K H x (.type n)/\n≠"tuple"/\b=false)\/∃t xs,x=.ref t/\H t=some (.tup xs)/\xs.length<=1000/\(∀y∈xs,∃n:String,xu K H y (.type n))/\b=ur xs
def LkB(K:z3)(H:Hp)(x:V)(b:Bool):Prop:=(∃n,xu K H x (.type n)/\n≠"tuple"/\b=false) \/
 ∃t xs,x=.ref t/\H t=some (.tup xs)/\((xs.length≠2/\b=false)\/∃y z n,xs=[y,z]/\xu K H y (.type n)/\((yj1 y=false/\b=false)\/(yj1 y=true/\PlB K H z b)))
def PlB.same{H H':Hp}{x:V}{b:Bool}(h:PlB K H x b)(S:yv H H'):PlB K H' x b:=by
 rcases h with⟨n,t,j,e⟩|⟨t,f,e,d,a,c,i⟩
 .exact .inl ⟨n,jz S t,j,e⟩
 .exact .inr ⟨t,f,e,S _ _ d,a,λy g=>let ⟨n,z⟩:=c y g;⟨n,jz S z⟩,i⟩
theorem LkB.same{H H':Hp}{x:V}{b:Bool}(h:LkB K H x b)(S:yv H H'):LkB K H' x b:=by
 rcases h with⟨n,t,j,e⟩|⟨t,g,e,f,h⟩
 .exact .inl ⟨n,jz S t,j,e⟩
 .refine .inr ⟨t,g,e,S _ _ f,?_⟩;rcases h with h|⟨y,z,n,a,d,h⟩
  .exact .inl h
  .refine .inr ⟨y,z,n,a,jz S d,?_⟩;rcases h with h|⟨i,c⟩
   .exact .inl h
   .exact .inr ⟨i,c.same S⟩
def ö{H:Hp}{x:V}{n:String}(ty:xu K H x (.type n)):W.kitOne K (.type n) (.type "tuple")=some (decide (n="tuple")):=by cases ty<;>rfl
def ũ{H:Hp}{x:V}{n:String}(ty:xu K H x (.type n)):W.kitOne K (.type n) (.type "str")=some (decide (n="str")):=by cases ty<;>rfl
def ydd{H:Hp}{x:V}{n:String}(ty:xu K H x (.type n)):W.kitOne K (.type n) (.type "list")=some (decide (n="list")):=by cases ty<;>rfl
def yq5{xs:Τ}{y:V}(h:xs.tail[i]?=some y):xs[i+1]?=some y:=by
 cases xs with
 |nil=>simp at h
 |cons x r=>simpa using h
def ygz(xs:Τ):(List.range xs.tail.length).map (λi=>V.bl (ltV ((xs[i]?).getD .non) ((xs.tail[i]?).getD .non)))=(List.zipWith ltV xs xs.tail).map V.bl:=by
 apply List.ext_getElem
 .rw[bc,bP,bc,List.length_zipWith,List.length_tail];omega
 .intro i a c;rw[bc,bP]at a;have b:i<xs.length:=by rw[List.length_tail]at a;omega
  rw[cM,List.getElem_range,cM,List.getElem_zipWith,bg a,bg b];rfl
def yi4{t u D:z4}{xs:Τ}{te:TE}{fr:St}{R:Hp->Prop}{H1:Hp}(hint:∀y∈xs,∃i:Int,y=.int i)(hl:xs.length<=1000)(ht:SqT K H1 t xs)(hu:SqT K H1 u xs.tail)(hD:H1 D=none)
  (hte:∀(i j:Int)(σ':St)(H':Hp)(Q':VK),Q' (.bl (decide (i<j))) H'->te (some (.int i)::some (.int j)::σ') H' Q') (hR:∀H,yv H1 H->H D=some (.lst ((List.zipWith ltV xs xs.tail).map V.bl))->R H):
  À (vd4 K t u) (yug K 2 (η (x0 0) (η (x0 1) ym6))) te 2 fr D R H1:=by
 refine yb6 (m:=xs.tail.length) (λi=>V.bl (ltV ((xs[i]?).getD .non) ((xs.tail[i]?).getD .non))) ht hu (by rw[List.length_tail];omega) (bj _) (.inr (bj _)) hD (λi x y h k z s n p l a f e=>?_) (λh l a=>?_)
 .obtain⟨w,v,rfl⟩:=yjn e;let⟨c,rfl⟩:=hint x (bB n);let⟨d,rfl⟩:=hint y (bB (yq5 p));have r:=l.trans (vg (o:=HO.tup [V.int c,V.int d]) f);have b:=ju (o':=HO.tup [V.int c,V.int d]) f a;have g:upd h k (HO.tup [V.int c,V.int d]) k=some (.tup [V.int c,V.int d]):=ya;generalize upd h k (HO.tup [V.int c,V.int d])=q at r b g;refine yee (SqT.of g) rfl ?_;show η (x0 0) (η (x0 1) ym6) [V.int c,V.int d] (w::v::fr) q _;ext;exists⟨[some (.int c),some (.int d)],rfl,rfl⟩,?_;refine hte c d fr q _ ?_;refine Mp.doneR hD (vk (by rw[List.length_tail];omega)) s r b ?_;rw[n,p];rfl
 .exact hR h l (by rw[<- ygz];exact a)
def ysy(xs:Τ):ydb xs (some 1) none=xs.tail:=by
 unfold ydb
 have e:HT.sIx xs.length 0 (some 1)=min 1 xs.length:=by
  have:=HT.sIx_nat xs.length 0 1;simpa using this
 rw[HT.sIx_none,e]
 cases xs with
 |nil=>rfl
 |cons x r=>simp
def yl0{n:Nat}(bs:qi Bool)(h:n=bs.length):(List.range n).map (λi=>V.bl ((bs[i]?).getD false))=bs.map V.bl:=by
 subst h;apply List.ext_getElem
 .rw[bc,bP,bc]
 .intro i a b;rw[bc,bP]at a;rw[cM,List.getElem_range,cM,bg a];rfl
def yj6(K:z3)(H:Hp)(xs:Τ)(bs:qi Bool):Prop:=xs.length=bs.length/\∀(i:Nat)(y:V)(b:Bool),xs[i]?=some y->bs[i]?=some b->LkB K H y b
theorem yj6.same{H H':Hp}{xs:Τ}{bs:qi Bool}(h:yj6 K H xs bs)(S:yv H H'):yj6 K H' xs bs:=⟨h.1,λi y b c a=>(h.2 i y b c a).same S⟩
def LkG(H:Hp)(v:V)(kd:Fin 3)(tp:z4)(ps:Ο):Prop:=∃lk,v=.ref lk/\H lk=some (.tup [.str (kdS kd),.ref tp])/\H tp=some (.tup (ps.map V.int))/\ur (ps.map V.int)=true
def LkG.same{H H':Hp}{v:V}{kd:Fin 3}{tp:z4}{ps:Ο}(h:LkG H v kd tp ps)(S:yv H H'):LkG H' v kd tp ps:=by let⟨c,e,d,a,b⟩:=h;exists c,e,S _ _ d,S _ _ a,b
def ys4(kd:Fin 3):yj1 (.str (kdS kd))=true:=by
 match kd with
 |0=>rfl
 |1=>rfl
 |2=>rfl
def zu{xs:Τ}(h:ur xs=true):xs.length<=4:=by unfold ur at h;rw[bJ,bJ]at h;exact of_decide_eq_true h.1.1
def LkG.tells{H:Hp}{v:V}{kd:Fin 3}{tp:z4}{ps:Ο}(h:LkG H v kd tp ps):LkB K H v true:=by let⟨c,e,f,b,a⟩:=h;have:=zu a;refine .inr ⟨c,_,e,f,.inr ⟨_,_,"str",rfl,.str _,.inr ⟨ys4 kd,.inr ⟨tp,_,rfl,b,(),λy d=>?_,a.symm⟩⟩⟩⟩;let⟨i,_,rfl⟩:=bn.mp d;exists _,.int i
theorem ypm:∀{ps:Ο},ps.Pairwise (· < ·)->vf6 (ps.map V.int)=true
 |[],_=>rfl
 |[_],_=>rfl
 |p::q::r,h=>by
  have b:p<q:=(List.pairwise_cons.mp h).1 q (by simp);have a:=ypm (List.pairwise_cons.mp h).2;unfold vf6 at a⊢;simp only[bR,List.tail_cons,List.zipWith_cons_cons,List.all_cons]at a⊢;rw[show ltV (V.int p) (V.int q)=true from bi b];simpa using a
def yhx{ps:Ο}(h1:ps.length<=4)(h2:∀p∈ps,1<=p/\p<=8)(h3:ps.Pairwise (· < ·)):ur (ps.map V.int)=true:=by unfold ur;rw[bc,bi h1,ypm h3,Bool.true_and,Bool.and_true,List.all_eq_true];intro y a;let⟨i,b,rfl⟩:=bn.mp a;have:=h2 i b;show (decide (1<=i) && decide (i<=8))=true;rw[bi this.1,bi this.2];rfl
def Lks(H:Hp)(xs:Τ):Prop:=∀y∈xs,∃kd tp ps,LkG H y kd tp ps
def Lks.bs{H:Hp}{xs:Τ}(h:Lks H xs):yj6 K H xs (List.replicate xs.length true):=by
 exists by rw[cG],λi y b d a=>?_
 have c:b=true:=cH (bB a);let⟨g,e,f,z⟩:=h y (bB d);rw[c];exact z.tells
def ycn(n:Nat):(List.replicate n true).all id=true:=by simp
def vhn(K:z3)(H:Hp)(x:V):Prop:=(∃n,xu K H x (.type n)/\n≠"list")\/∃l xs bs,x=.ref l/\H l=some (.lst xs)/\xs.length<=1000/\yj6 K H xs bs/\¬(1<=xs.length/\xs.length<=6/\bs.all id=true)
theorem LkG.upd{H:Hp}{v:V}{kd:Fin 3}{tp l:z4}{ps:Ο}{xs ys:Τ}(h:LkG H v kd tp ps)(hl:H l=some (.lst xs)):LkG (L2.upd H l (.lst ys)) v kd tp ps:=by let⟨d,e,b,a,c⟩:=h;exists d,e,ym (xr b hl (by intro z;cases z)) b,ym (xr a hl (by intro z;cases z)) a,c
noncomputable def upN{α:Type}(g:Nat->α)(n:Nat)(x:α):Nat->α:=λj=>if j=n then x else g j
def xv{α:Type}{g:Nat->α}{n:Nat}{x:α}:upN g n x n=x:=if_pos rfl
def xt{α:Type}{g:Nat->α}{n:Nat}{x:α}(h:j<n):upN g n x j=g j:=if_neg ()
def yrn(c:Int):∃kk:Fin 3,atI [V.str "even",V.str "quick",V.str "run"] (c%3)=some (V.str (kdS kk)):=by
 have b:0<=c%3:=cT _ ∅;have a:c%3<3:=cO _ ∅;generalize c%3=z at b a;obtain rfl|rfl|rfl:z=0\/z=1\/z=2:=()
 .exact⟨0,rfl⟩
 .exact⟨1,rfl⟩
 .exact⟨2,rfl⟩
def xx(H:Hp)(n:Nat)(lk:Λ)(kd:Ν)(tp:Λ)(ps:Κ):Prop:=∀i,i<n->LkG H (.ref (lk i)) (kd i) (tp i) (ps i)
theorem xx.same{H H':Hp}{n:Nat}{lk:Λ}{kd:Ν}{ps:Κ}(h:xx H n lk kd tp ps)(S:yv H H'):xx H' n lk kd tp ps:=λi a=>(h i a).same S
structure Sd(K:z3)(H:Hp)(v:V)(d:PyData)(k:Nat):Prop where
 rd:RdV K H v d
 lay:d.canLay0=true
 dep:d.depth<=k
 eq:PyData.eqv d d=true
structure Sds(K:z3)(H:Hp)(xs:Τ)(ds:qi PyData)(k:Nat):Prop where
 rd:yqh K H xs ds
 lay:PyData.canLayAll0 ds=true
 dep:PyData.depthAll ds<=k
 eq:PyData.eqvAll ds ds=true
theorem Sd.int{H:Hp}(i:Int){k:Nat}:Sd K H (.int i) (.int i) k:=⟨.int i,by simp[PyData.canLay0],by simp[PyData.depth],by simp[PyData.eqv]⟩
theorem Sd.bl{H:Hp}(b:Bool){k:Nat}:Sd K H (.bl b) (.bool b) k:=⟨.bl b,by simp[PyData.canLay0],by simp[PyData.depth],by simp[PyData.eqv]⟩
theorem Sds.nil{H:Hp}{k:Nat}:Sds K H [] [] k:=⟨.nil,rfl,bN _,by simp[PyData.eqvAll]⟩
theorem Sds.cons{H:Hp}{v:V}{d:PyData}{xs:Τ}{ds:qi PyData}{k:Nat}(h:Sd K H v d k)(r:Sds K H xs ds k):Sds K H (v::xs) (d::ds) k:=by
 exists .cons h.rd r.rd,by simp[PyData.canLayAll0,h.lay,r.lay],?_,by simp[PyData.eqvAll,h.eq,r.eq]
 have b:=h.dep;have a:=r.dep;simp only[PyData.depthAll];omega
theorem Sd.lst{H:Hp}{p:z4}{xs:Τ}{ds:qi PyData}{k:Nat}(h:SqL K H p xs)(r:Sds K H xs ds k):Sd K H (.ref p) (.list ds) (k+1):=by
 exists .lst h r.rd,by simp[PyData.canLay0,r.lay],?_,by simp[PyData.eqv,r.eq]
 have a:=r.dep;simp only[PyData.depth];omega
def ymz{g:Bool->Bool}{H:Hp}{Q:VK}{x y:V}{d:PyData}{k:Nat}(h1:Sd K H x d k)(h2:Sd K H y d k)(hk:k<=60)(h:Q (.bl (g true)) H):vd2 K g x y H Q:=by
 have a:SeqAt.shaped d=true:=by
  unfold SeqAt.shaped;rw[bJ];exists h1.lay,bi (by have:=h1.dep;omega)
 exists d,d,h1.rd,h2.rd,a,a,by rw[h1.eq];exact h
local macro_rules | `(#synth $n:ident $a $b)=>`(theorem $n : yk $a $a (yd $b):=v9 (by decide +kernel)) | `(#synth $n:ident $a $b $c)=>`(theorem $n : yk $a $b (yd $c):=v9 (by decide +kernel))
#synth vff ["thing"] vg3
inductive yb9(K:z3)(vs:Τ)(H:Hp)(Q:VK)(E':XK):Prop
 |mk(x n:_)(_:vs=[x])(_:xu K H x (.type n))(_:Q (.bl (μ x)) H)
def yj0(T:Txt K mg a):vn P w K mg Γ CX0 1 a.Vx a.Wb ["thing"] (yb9 K):=by
 exists T.Kh.F.ok,vff,g;let⟨x,n,rfl,b,k⟩:=h;exists 1,0,yc (yu (zi (pcB wz T.A6 (pac (pv 0) (pa1 (ji (T:="int") rfl T.Vj (by right))))) (ι (yzc (pcB wz T.A6 (pac (pv 0) (pa1 (ji (T:="bool") rfl T.Vv (by right)))))))));refine ç b (yq1 b) ?_;ext
 cases hx:ypg x with
 |false =>
  have e:μ x=false:=by
   cases x<;>first|rfl|cases hx
  rw[e]at k;exact xh k
 |true =>
  have e:μ x=!yit x:=by
   cases x<;>first|rfl|cases hx
  rw[e]at k;refine zt ?_;ext;refine ç b (ymb b) ?_;ext;exact k
#synth vel ["thing"] vgr
inductive yg4(K:z3)(vs:Τ)(H:Hp)(Q:VK)(E':XK):Prop
 |mk(x n:_)(_:vs=[x])(_:xu K H x (.type n))(_:Q (.bl (ñ x)) H)
def vfw(T:Txt K mg a):vn P w K mg Γ CX0 2 a.Vy a.Wc ["thing"] (yg4 K):=by
 exists T.Wm.F.ok,vel,j;let⟨x,n,rfl,f,k⟩:=h;exists 1,0,yc (yu (zi (ug (yj0 T) j.m T.Kh (pa1 (pv 0))) (ι (Í je je yf (pv 0) yf))));exists x,n,rfl,f,?_;ext
 cases hx:μ x with
 |false =>
  have e:ñ x=false:=by
   cases x<;>first|rfl|cases hx
  rw[e]at k;exact xh k
 |true =>
  let⟨i,rfl⟩:=zw hx;refine zt ?_;ext;refine jk (λc=>?_) (λc=>?_)
  .ext;have e:ñ (.int i)=decide (i<=1):=by simp[ñ,c]
   rw[e]at k;exact k
  .have e:ñ (.int i)=false:=by simp[ñ,c]
   rw[e]at k;exact k
#synth vfa ["thing"] vgs
inductive Ž(K:z3)(vs:Τ)(H:Hp)(Q:VK)(E':XK):Prop
 |mk(x n:_)(_:vs=[x])(_:xu K H x (.type n))(_:Q (.bl (chV x)) H)
def vfi(T:Txt K mg a):vn P w K mg Γ CX0 2 a.Vz a.We ["thing"] (Ž K):=by
 exists T.Wn.F.ok,vfa,j;let⟨x,n,rfl,f,k⟩:=h;exists 1,0,yc (yu (zi (ug (yj0 T) j.m T.Kh (pa1 (pv 0))) (ι (Í je je (vq rfl T.Fr) (pv 0) (yn zz (vq rfl T.Ei) (vq rfl T.Fr))))));exists x,n,rfl,f,?_;ext
 cases hx:μ x with
 |false =>
  have e:chV x=false:=by
   cases x<;>first|rfl|cases hx
  rw[e]at k;exact xh k
 |true =>
  let⟨i,rfl⟩:=zw hx;refine zt ?_;ext;refine jk (λc=>?_) (λc=>?_)
  .ext;have e:chV (.int i)=decide (i<=16777216-32768):=by simp[chV,c]
   rw[e]at k;exact k
  .have e:chV (.int i)=false:=by simp[chV,c]
   rw[e]at k;exact k
#synth vfr ["thing"] vgo
inductive yfs(K:z3)(vs:Τ)(H:Hp)(Q:VK)(E':XK):Prop
 |mk(x n:_)(_:vs=[x])(_:xu K H x (.type n))(_:Q (.bl (sgV x)) H)
def veu(T:Txt K mg a):vn P w K mg Γ CX0 2 a.W0 a.Wf ["thing"] (yfs K):=by
 exists T.Wo.F.ok,vfr,j;let⟨x,n,rfl,f,k⟩:=h;exists 1,0,yc (yu (zi (ug (yj0 T) j.m T.Kh (pa1 (pv 0))) (ι (Í je je yf (pv 0) yf))));exists x,n,rfl,f,?_;ext
 cases hx:μ x with
 |false =>
  have e:sgV x=false:=by
   cases x<;>first|rfl|cases hx
  rw[e]at k;exact xh k
 |true =>
  let⟨i,rfl⟩:=zw hx;refine zt ?_;ext;refine jk (λc=>?_) (λc=>?_)
  .ext;have e:sgV (.int i)=decide (i<=255):=by simp[sgV,c]
   rw[e]at k;exact k
  .have e:sgV (.int i)=false:=by simp[sgV,c]
   rw[e]at k;exact k
#synth veo ["thing","most"] vgn
inductive yzl(K:z3)(vs:Τ)(H:Hp)(Q:VK)(E':XK):Prop
 |mk(x n m:_)(_:vs=[x,.int m])(_:xu K H x (.type n))(_:((Bad K H x n m/\∀H',yv H H'->Q (.bl false) H')\/∃xs,yuf K H x xs m/\∀H',yv H H'->Q (.bl true) H'))
def yty(T:Txt K mg a):vn P w K mg Γ CX0 3 a.W3 a.Wg ["thing","most"] (yzl K):=by
 exists T.Oc.F.ok,veo,U;let⟨x,n,m,rfl,L,h⟩:=h
 have u:(n≠"list"/\∀d,yv H d->Q (.bl false) d)\/∃p xs,x=.ref p/\H p=some (.lst xs)/\ymx K H xs/\xs.length<=100000/\∀d,yv H d->Q (.bl (decide ((xs.length:Int)<=m) && xs.all sgV)) d:=by
  rcases h with⟨h|⟨p,xs,e,c,t,l,B⟩,k⟩|⟨xs,⟨p,e,c,t,l,B⟩,k⟩
  .exact .inl ⟨h,k⟩
  .exact .inr ⟨p,xs,e,c,t,l,λd S=>by rw[B];exact k d S⟩
  .exact .inr ⟨p,xs,e,c,t,l,λd S=>by rw[B];exact k d S⟩
 exists 2,0,yc (yu (zi (pcB wz T.A6 (pac (pv 0) (pa1 (ji (T:="list") rfl T.Ay (by right))))) (zi (uu je (pcB yw T.Af (pa1 (pv 0))) (pv 1) (y9 _)) (ι (pcB (z9 rfl) T.Gf (pa1 (we (js:=[]) (ys:=[]) rfl (ww (pv 0)) (λC Z Y fp=>(ug (veu T) U.m T.Wo (pa1 (pv 0)))) rfl rfl (hyc:=ve) (hrel:=ve))))))));refine ç L (ytf L) ?_;ext;rcases u with⟨I,k⟩|⟨p,xs,rfl,c,R,l,k⟩
 .refine yf7 I ?_;ext;exact k _ (yv.refl _)
 .have I:n="list":=by
   cases L with
   |lst e=>rfl
   |frz e=>rfl
   |tup e=>rw[c]at e;cases e
   |dK e=>rw[c]at e;cases e
   |dT e=>rw[c]at e;cases e
  refine ybj I ?_;ext;refine z5 (SqL.of c) ?_;ext;refine jk (λv=>?_) (λv=>?_)
  .rw[bi v,Bool.true_and]at k;ext;exists p,rfl,⟨_,SqL.of c⟩,λD G=>?_;have nD:p≠D:=yb c G;refine jo (K:=K) (a:=p) (xs:=xs) (λi g=>g D=some (.lst (((xs.take i).map sgV).map V.bl))/\yv H g)
    ⟨ya,vg G⟩ (λi g F q=>SqL.of (q.2 _ _ c)) ?_ ?_
   .rintro i y g N r ⟨f,j⟩;ext;let⟨X,J⟩:=R y (bB N);exists y,X,rfl,jz j J,?_;refine zy f (by rw[bc,bc,bZ];exact ylx ()) r ⟨ya.trans ?_,λb o e=>ym (λz=>?_) (j _ _ e)⟩
    .rw[List.take_succ,N];simp
    .subst z;rw[G]at e;cases e
   .rintro g ⟨f,j⟩;ext;exists D,_,rfl,SqL.of f,?_;rw[cE (bj _),List.all_map];exact k _ j
  .rw[be v,Bool.false_and]at k;ext;exact k _ (yv.refl _)
#synth vfq ["thing"] vgg
def ytz(T:Txt K mg a):vn P w K mg Γ (CXe P w) 4 a.W4 a.Wh ["thing"] (į K a.Au 1000):=by
 exists T.Od.F.okE,vfq,q;let⟨x,n,rfl,j,h⟩:=h;exists 1,0,yg (vv (xw (xz (ug (yty T) q.m T.Oc (pac (pv 0) (pa1 (vq rfl T.Ej)))))) (yc (vz rfl T.Wz T.Xp (pa1 yj))) y8) (yc (yu (pcT wx T.Ay (pa1 (pv 0)))));exists x,n,_,rfl,j,?_;rcases h with⟨t,k⟩|⟨f,e,k⟩
 .refine .inl ⟨t,λg b=>?_⟩;ext;exists by walk_at "len",k _ b
 .refine .inr ⟨f,e,λg b=>?_⟩;let⟨p,rfl,l,_⟩:=e;ext;exists p,f,rfl,.inl (SqL.of (b _ _ l)),λr c=>?_;exact k r _ (b.free c) ya (b.trans (vg c))
#synth vex ["thing"] vgi
def vev(T:Txt K mg a):vn P w K mg Γ (CXe P w) 4 a.W5 a.Wi ["thing"] (į K a.I2 12000):=by
 exists T.Wp.F.okE,vex,q;let⟨x,n,rfl,j,h⟩:=h;exists 1,0,yg (vv (xw (xz (ug (yty T) q.m T.Oc (pac (pv 0) (pa1 (vq rfl T.Hz)))))) (yc (vz rfl T.Xl T.Xq (pa1 yj))) y8) (yc (yu (pcT wx T.Ay (pa1 (pv 0)))));exists x,n,_,rfl,j,?_;rcases h with⟨t,k⟩|⟨f,e,k⟩
 .refine .inl ⟨t,λg b=>?_⟩;ext;exists by walk_at "len",k _ b
 .refine .inr ⟨f,e,λg b=>?_⟩;let⟨p,rfl,l,_⟩:=e;ext;exists p,f,rfl,.inl (SqL.of (b _ _ l)),λr c=>?_;exact k r _ (b.free c) ya (b.trans (vg c))
#synth vft ["thing"] vg0
noncomputable def yj4:V->Bool
 | .int i=>decide (0<=i) && decide (i<=1000)
 |_=>false
def yz4{m:Nat}(h:m<=1000):yj4 (.int m)=true:=by show (decide ((0:Int)<=m) && decide ((m:Int)<=1000))=true;rw[bi (),bi ()];rfl
inductive ykc(K:z3)(C:z4)(vs:Τ)(H:Hp)(Q:VK)(E:XK):Prop
 |mk(x n:_)(_:vs=[x])(_:xu K H x (.type n))(_:(yj4 x=true->Q .non H))(_:(yj4 x=false->E (.ref C) none H))
def vfm(T:Txt K mg a):vn P w K mg Γ (CXe P w) 2 a.W6 a.Wj ["thing"] (ykc K a.Ai):=by
 exists T.Wq.F.okE,vft,o;let⟨x,n,rfl,j,k,d⟩:=h;exists 1,0,yc (vv (PW.pt (ð (xw (xz (ug (yj0 T) o.m T.Kh (pa1 (pv 0))))) (Ö (xw (ť je je yf (pv 0) (vq rfl T.Ej)))))) (yc (vz rfl T.G9 T.O5 (pa1 yj))) y8);exists x,n,rfl,j,?_;ext
 cases hx:μ x with
 |false =>
  have e:yj4 x=false:=by
   cases x<;>first|rfl|cases hx
  ext;exists by walk_at "len",d e
 |true =>
  let⟨i,rfl⟩:=zw hx;ext;refine jk (λc=>?_) (λc=>?_)
  .ext;refine yue (λf=>?_) (λf=>?_)
   .ext;exact k (by simp[yj4,c,f])
   .ext;exists by walk_at "len",d (by simp[yj4,f])
  .ext;exists by walk_at "len",d (by simp[yj4,c])
#synth vfk ["thing"] vgv
inductive Ā(K:z3)(C:z4)(vs:Τ)(H:Hp)(Q:VK)(E:XK):Prop
 |mk(x n:_)(_:vs=[x])(_:xu K H x (.type n))(_:(chV x=true->Q .non H))(_:(chV x=false->E (.ref C) none H))
def yt5(T:Txt K mg a):vn P w K mg Γ (CXe P w) 3 a.W7 a.Wk ["thing"] (Ā K a.Je):=by
 exists T.Oe.F.okE,vfk,i;let⟨x,n,rfl,d,f,e⟩:=h;exists 1,0,yc (vv (xw (xz (ug (vfi T) i.m T.Wn (pa1 (pv 0))))) (yc (vz rfl T.Xm T.Xr (pa1 yj))) y8);exists x,n,rfl,d,?_;ext
 cases hx:chV x with
 |false =>
  ext;exists by walk_at "len",e hx
 |true =>
  ext;exact f hx
#synth ywn ["thing"] vbn
inductive yaf(K:z3)(C:z4)(vs:Τ)(H:Hp)(Q:VK)(E:XK):Prop
 |mk(x n:_)(_:vs=[x])(_:xu K H x (.type n))(_:(ñ x=true->Q .non H))(_:(ñ x=false->E (.ref C) none H))
def Ę(T:Txt K mg a):vn P w K mg Γ (CXe P w) 3 a.Op a.Ra ["thing"] (yaf K a.Cl):=by
 exists T.Fg.F.okE,ywn,i;let⟨x,n,rfl,d,f,e⟩:=h;exists 1,0,yc (vv (xw (xz (ug (vfw T) i.m T.Wm (pa1 (pv 0))))) (yc (vz rfl T.Xn T.Xs (pa1 yj))) y8);exists x,n,rfl,d,?_;ext
 cases hx:ñ x with
 |false =>
  ext;exists by walk_at "len",e hx
 |true =>
  ext;exact f hx
#synth yyn ["chance","bit"] vb5
inductive yk7(K:z3)(C D:z4)(vs:Τ)(H:Hp)(Q:VK)(E:XK):Prop
 |mk(x n y m:_)(_:vs=[x,y])(_:xu K H x (.type n))(_:xu K H y (.type m))(_:(chV x=false->E (.ref C) none H))(_:(chV x=true->ñ y=false->E (.ref D) none H))(_:(∀c b,x=.int c->y=.int b->chV x=true->ñ y=true->Q (.int (gvv c b)) H))
def yup(T:Txt K mg a):vn P w K mg Γ (CXe P w) 4 a.Oq a.Rb ["chance","bit"] (yk7 K a.Je a.Cl):=by
 exists T.Uj.F.okE,yyn,i;let⟨x,n,y,m,rfl,p,o,r,q,l⟩:=h;exists 2,0,yg (y6 (uf (yt5 T) i.m T.Oe yt (pa1 (pv 0)))) (yg (y6 (uf (Ę T) i.m T.Fg yt (pa1 (pv 1)))) (yc (yu (j9 (yx xk (pv 1) yf (y9 _)) (pv 0) (yn zz (vq rfl T.Ei) (pv 0))))));exists x,n,rfl,p,λe=>?_,r;ext;exists y,m,rfl,o,λg=>?_,q e;let⟨c,rfl,v,B⟩:=ycm e;let⟨b,rfl,u,z⟩:=yd5 g;ext;have k:=l c b rfl rfl e g;unfold gvv at k;refine jk (λf=>?_) (λf=>?_)
 .rw[if_pos f]at k;ext;exact k
 .rw[if_neg f]at k;ext;exact k
#synth ywi ["self"] vb4
def yx5(T:Txt K mg a):vn P w K mg Γ CX0 1 a.Kr a.Rc ["self"] (Ť a.Am (ν (.int 0) (.int 0))):=by exists T.Uk.F.ok,ywi,g;let⟨p,d,rfl,f,k⟩:=h;exists 1,0,yg (vh (pv 0) yf rfl) (yc (vh (pv 0) yf rfl));exact k _ ya (But.upd.trans But.upd)
#synth yzx ["self"] va6
def yx1(T:Txt K mg a):vn P w K mg Γ CX0 1 a.Os a.Re ["self"] (u5 (oS a) veg):=by
 exists T.Mf.F.ok,yzx,r;let⟨p,d,j,rfl,c,i,e,k⟩:=h
 cases j with
 |ev n o =>
  let⟨q,l,m⟩:=i;have e:H p=some (.ins a.Am d (ν (.int n) (.int o))):=e;exists 1,0,yc (yu (yn wk (yn xf (yn wc (yn xf yf (yr (pv 0) rfl)) yf) (vq rfl T.Ei)) (yn wc (yn xf yf (yn wc (yr (pv 0) rfl) (yr (pv 0) rfl))) yf)));exact k
 |qk _=>exact c.elim
 |rn _ _=>exact c.elim
#synth yus ["self","bit"] vbs
def yx4(T:Txt K mg a):vn P w K mg Γ (CXe P w) 4 a.Ot a.Rf ["self","bit"] (ε K (oS a) veg a.Cl):=by
 exists T.Mg.F.okE,yus,t;let⟨p,g,u,x,q,rfl,f,r,i,z,C,B⟩:=h
 cases u with
 |ev n o =>
  let⟨G,I,J⟩:=r;have i:H p=some (.ins a.Am g (ν (.int n) (.int o))):=i;exists 2,0,yg (y6 (uf (Ę T) t.m T.Fg yt (pa1 (pv 1)))) (yg (vv (yx xk (pv 1) yf (y9 _)) (yc (vh (pv 0) (yn wc (yr (pv 0) rfl) yf) rfl)) (yc (vh (pv 0) (yn wc (yr (pv 0) rfl) yf) rfl))) (yc (vv (yx ym0 (yn wc (yr (pv 0) rfl) (yr (pv 0) rfl)) (vq rfl T.Ci) (y9 _)) (yg (vh (pv 0) (yn wk (yn wc (yr (pv 0) rfl) yf) yf) rfl) (yc (vh (pv 0) (yn wk (yn wc (yr (pv 0) rfl) yf) yf) rfl))) y8)));exists x,q,rfl,z,λj=>?_,B;let⟨b,rfl,D,y⟩:=yeg j;have k:=C b rfl D y;unfold Slt.see at k;dsimp only at k;ext;refine jk (λd=>?_) (λd=>?_)
  .rw[if_pos d]at k;unfold yc6 at k;ext;refine jk (λc=>?_) (λc=>?_)
   .rw[if_pos c]at k;ext;exact k _ ya ((But.upd.trans But.upd).trans But.upd)
   .rw[if_neg c]at k;ext;exact k _ ya But.upd
  .rw[if_neg d]at k;unfold yc6 at k;ext;refine jk (λc=>?_) (λc=>?_)
   .rw[if_pos c]at k;ext;exact k _ ya ((But.upd.trans But.upd).trans But.upd)
   .rw[if_neg c]at k;ext;exact k _ ya But.upd
 |qk _=>exact f.elim
 |rn _ _=>exact f.elim
#synth yvf ["self"] vcs
def yy6(T:Txt K mg a):vn P w K mg Γ CX0 1 a.Ks a.Rg ["self"] (Ť a.Al (jc (.int 8388608))):=by exists T.Ul.F.ok,yvf,g;let⟨p,d,rfl,f,k⟩:=h;exists 1,0,yc (vh (pv 0) (yn wk (vq rfl T.Ei) yf) rfl);exact k _ ya But.upd
#synth yuu ["self"] va2
def ywe(T:Txt K mg a):vn P w K mg Γ CX0 1 a.Ou a.Rh ["self"] (u5 (oS a) vd9):=by
 exists T.Mh.F.ok,yuu,l;let⟨p,d,i,rfl,c,j,e,k⟩:=h
 cases i with
 |qk h0 =>
  have e:H p=some (.ins a.Al d (jc (.int h0))):=e;exists 1,0,yc (yu (yr (pv 0) rfl));exact k
 |ev _ _=>exact c.elim
 |rn _ _=>exact c.elim
#synth yjf ["self","bit","moved"] ["self","bit"] vcu
def yul(T:Txt K mg a):vn P w K mg Γ (CXe P w) 4 a.Ov a.Ri ["self","bit"] (ε K (oS a) vd9 a.Cl):=by
 exists T.Mi.F.okE,yjf,r;let⟨p,f,t,x,o,rfl,e,q,g,y,B,z⟩:=h
 cases t with
 |qk h0 =>
  let⟨D,G⟩:=q;have g:H p=some (.ins a.Al f (jc (.int h0))):=g;exists 2,1,yg (y6 (uf (Ę T) r.m T.Fg yt (pa1 (pv 1)))) (yg (vv (yx xk (pv 1) yf (y9 _)) (yc (y7 (i:=2) yjf.nd rfl (Or.inl rfl) (yn wc (yr (pv 0) rfl) (yn wk (yn zz (vq rfl T.Ei) (yr (pv 0) rfl)) yf)))) (yc (y7 (i:=2) yjf.nd rfl (Or.inl rfl) (yn zz (yr (pv 0) rfl) (yn wk (yr (pv 0) rfl) yf))))) (yc (vh (pv 0) (pcB (yat rfl) T.Vk (pac (pcB (yap rfl) T.Vl (pac (pv 2) (pa1 (vq rfl T.Fr)))) (pa1 (yn zz (vq rfl T.Ei) (vq rfl T.Fr))))) rfl)));exists x,o,rfl,y,λj=>?_,z;let⟨b,rfl,C,v⟩:=yeg j;have k:=B b rfl C v;unfold Slt.see at k;dsimp only at k;ext;refine jk (λc=>?_) (λc=>?_)
  .rw[if_pos c]at k;ext;exists _,_,rfl,?_;ext;exists _,_,rfl,?_;ext;exact k _ ya But.upd
  .rw[if_neg c]at k;ext;exists _,_,rfl,?_;ext;exists _,_,rfl,?_;ext;exact k _ ya But.upd
 |ev _ _=>exact e.elim
 |rn _ _=>exact e.elim
#synth yw1 ["self"] vb1
def vai(T:Txt K mg a):vn P w K mg Γ CX0 1 a.Kt a.Rj ["self"] (Ť a.At (Ĭ (.int 1) (.int 0))):=by exists T.Um.F.ok,yw1,g;let⟨p,d,rfl,f,k⟩:=h;exists 1,0,yg (vh (pv 0) yf rfl) (yc (vh (pv 0) yf rfl));exact k _ ya (But.upd.trans But.upd)
#synth yof ["self","given"] ["self"] vcd
def yuq(T:Txt K mg a):vn P w K mg Γ CX0 1 a.Ow a.Rk ["self"] (u5 (oS a) vea):=by
 exists T.Mj.F.ok,yof,v;let⟨p,e,o,rfl,d,m,f,k⟩:=h
 cases o with
 |rn l n =>
  let⟨u,q,t,r⟩:=m;have f:H p=some (.ins a.At e (Ĭ (.int l) (.int n))):=f;exists 1,1,yg (y7 (i:=1) yof.nd rfl (Or.inl rfl) (yn wk (yn xf (yn wc (yn xf yf (yr (pv 0) rfl)) yf) (vq rfl T.Ei)) (yn wc (yn xf yf (yr (pv 0) rfl)) yf))) (yc (yu (j9 (yx xk (yr (pv 0) rfl) yf (y9 _)) (pv 1) (yn zz (vq rfl T.Ei) (pv 1)))));have k:Q (.int (if l=1 then ê n else 16777216-ê n)) H:=k;refine jk (λc=>?_) (λc=>?_)
  .rw[if_pos c]at k;ext;exact k
  .rw[if_neg c]at k;ext;exact k
 |ev _ _=>exact d.elim
 |qk _=>exact d.elim
#synth yv1 ["self","bit"] vby
def yzg(T:Txt K mg a):vn P w K mg Γ (CXe P w) 4 a.Ox a.Rl ["self","bit"] (ε K (oS a) vea a.Cl):=by
 exists T.Ml.F.okE,yv1,r;let⟨p,f,t,x,o,rfl,e,q,g,y,B,z⟩:=h
 cases t with
 |rn l n =>
  let⟨G,I,J,D⟩:=q;have g:H p=some (.ins a.At f (Ĭ (.int l) (.int n))):=g;exists 2,0,yg (y6 (uf (Ę T) r.m T.Fg yt (pa1 (pv 1)))) (yc (vv (yx xk (pv 1) (yr (pv 0) rfl) (y9 _)) (yc (vh (pv 0) (pcB (yat rfl) T.Vk (pac (yn wc (yr (pv 0) rfl) yf) (pa1 (vq rfl T.Ci)))) rfl)) (yg (vh (pv 0) (pv 1) rfl) (yc (vh (pv 0) yf rfl)))));exists x,o,rfl,y,λi=>?_,z;let⟨b,rfl,C,v⟩:=yeg i;have k:=B b rfl C v;unfold Slt.see at k;dsimp only at k;ext;refine jk (λc=>?_) (λc=>?_)
  .rw[if_pos c]at k;ext;exists _,_,rfl,?_;ext;exact k _ ya But.upd
  .rw[if_neg c]at k;ext;exact k _ ya (But.upd.trans But.upd)
 |ev _ _=>exact e.elim
 |qk _=>exact e.elim
#synth yz6 ["kind"] var
inductive yfu(a:Ads)(vs:Τ)(H:Hp)(Q:VK)(E':XK):Prop
 |mk(k:Fin 3)(_:vs=[.str (kdS k)])(_:∀p dx H',H p=none->H' p=some (oS a dx (kd0 k))->yv H H'->Q (.ref p) H')
def yx7(T:Txt K mg a):vn P w K mg Γ CX0 3 a.Oy a.Rm ["kind"] (yfu a):=by
 exists T.Uo.F.ok,yz6,n;let⟨r,rfl,k⟩:=h;exists 1,0,yg (vv (yx xk (pv 0) yj (y9 _)) (yc (yu (Ñ T.Vq (yx5 T) n.m rfl T.Vp T.Uk.B .nil wl))) y8) (yg (vv (yx xk (pv 0) yj (y9 _)) (yc (yu (Ñ T.Og (yy6 T) n.m rfl T.Of T.Ul.B .nil wl))) y8) (yg (vv (yx xk (pv 0) yj (y9 _)) (yc (yu (Ñ T.Wy (vai T) n.m rfl T.Wx T.Um.B .nil wl))) y8) (yc ymm)));exists rfl,?_
 match r with
 |0 =>
  exists _,rfl,ybj rfl ?_;ext;intro p g d c q;exists p,g,rfl,ya,λi f j=>⟨rfl,?_⟩;exact k p g i d f λb o e=>j b o (by rw[yq (yb e d),yq (yb e c)];exact e) (yb e d)
 |1 =>
  exists _,rfl,yf7 (by intro z;injection z with z;revert z;decide+kernel) ?_;ext;exists rfl,?_;exists _,rfl,ybj rfl ?_;ext;intro p g d c q;exists p,g,rfl,ya,λi f j=>⟨rfl,?_⟩;exact k p g i d f λb o e=>j b o (by rw[yq (yb e d),yq (yb e c)];exact e) (yb e d)
 |2 =>
  exists _,rfl,yf7 (by intro z;injection z with z;revert z;decide+kernel) ?_;ext;exists rfl,?_;exists _,rfl,yf7 (by intro z;injection z with z;revert z;decide+kernel) ?_;ext;exists rfl,?_;exists _,rfl,ybj rfl ?_;ext;intro p g d c q;exists p,g,rfl,ya,λi f j=>⟨rfl,?_⟩;exact k p g i d f λb o e=>j b o (by rw[yq (yb e d),yq (yb e c)];exact e) (yb e d)
#synth yi8 ["number","size","places"] ["number","size"] vdf
inductive yfc  (vs:Τ) (H:Hp) (Q:VK) (E':XK):Prop
 |mk(n:Int)(k:Nat)(_:vs=[.int n,.int k])(_:k<=100000)(_:∀t H',H t=none->H' t=some (.lst ((wr k n).map V.int))->yv H H'->Q (.ref t) H')
def ynm(T:Txt K mg a):vn P w K mg Γ CX0 1 a.Oz a.Rn ["number","size"] yfc:=by
 exists T.Mm.F.ok,yi8,G;let⟨n,d,rfl,D,k⟩:=h;exists 2,1,yg (y7 (i:=2) yi8.nd rfl (Or.inl rfl) (vj za)) (yg (δ PassesOwn.never (yx ŷ (pcB yw T.Af (pa1 (pv 2))) (pv 1) (y9 _)) (yg (y6 (uy PySem.F.plainAttrs_list PySem.F.slot_list_append PySem.F.type_list_append wy (pv 2) (pa1 (yn u9 (pv 0) yf)))) (yc (y7 (i:=0) yi8.nd rfl (Or.inl rfl) (yn wk (pv 0) yf))))) (yg (y6 (yji PySem.F.plainAttrs_list PySem.F.slot_list_reverse PySem.F.type_list_reverse ķ (pv 2))) (yc (yu (pv 2)))));exists by walk_at "len",λt l=>?_
 ext;exists λm σ' r=>∃(f:Int)(c:Ο),σ'=[some (.int f),some (.int d),some (.ref t)]/\r t=some (.lst (c.map V.int))/\yv H r/\c++lo (d-c.length) f=lo d n/\c.length<=d/\m=d-c.length,⟨_,n,[],rfl,ya,vg l,rfl,bN _,rfl⟩,?_;rintro m σ2 B ⟨f,c,rfl,g,u,j,C,rfl⟩;ext;refine z5 (SqL.of g) ?_;rw[bc];ext;refine jk (λz=>?_) (λz=>?_)
 .refine ybh ?_;ext;refine z6 g ?_;ext;refine xp g (by rw[bc];exact vk ()) ?_;ext;exists _,?_,f/256,c++[f%256],rfl,(ya.trans (by rw[ylg])),λb o e=>?_,?_,?_,rfl
  .rw[bf];show d-(c.length+1)<d-c.length;omega
  .rw[yq (yb e l)];exact u b o e
  .have q:d-c.length=d-(c++[f%256]).length+1:=by
    rw[bf];show d-c.length=d-(c.length+1)+1;omega
   rw[q]at j;rw[<- j,ck];rfl
  .rw[bf];show c.length+1<=d;omega
 .ext;have q:d-c.length=0:=()
  rw[q]at j;have x:c=lo d n:=by rw[<- j];simp[lo]
  refine z6 g ?_;refine yas g ?_;ext;refine k t _ l ?_ λb o e=>?_
  .rw[ya,yre,x];rfl
  .rw[yq (yb e l)];exact u b o e
#synth yxd ["low","unit"] vc5
inductive ĩ  (vs:Τ) (H:Hp) (Q:VK) (E':XK):Prop
 |mk(l e:Int)(_:vs=[.int l,.int e])(_:0<e)(_:e<2^63)(_:Q (.int (blk l e)) H)
def yp6(T:Txt K mg a):vn P w K mg Γ CX0 1 a.P0 a.Ro ["low","unit"] ĩ:=by exists T.Mn.F.ok,yxd,i;let⟨l,e,rfl,g,f,k⟩:=h;exists 2,0,yc (yu (yn wk (yn zz (yn wc (pv 0) (pv 1)) yf) (pv 1)));exact k
#synth yxa ["self"] vc0
inductive yqy(C:z4)(vs:Τ)(H:Hp)(Q:VK)(E':XK):Prop
 |mk(p dx:z4)(_:vs=[.ref p])(_:H p=some (.ins C dx []))(_:∀H',H' p=some (.ins C dx (j4 s0))->But p H H'->Q .non H')
def yp4(T:Txt K mg a):vn P w K mg Γ CX0 1 a.Ku a.Rp ["self"] (yqy a.Ad):=by
 exists T.Mo.F.ok,yxa,j;let⟨p,c,rfl,g,k⟩:=h;exists 1,0,yg (vh (pv 0) yf rfl) (yg (vh (pv 0) (vq rfl T.Hb) rfl) (yc (vh (pv 0) (vq rfl T.I0) rfl)));exists p,_,c,_,rfl,g,T.Ao,T.Cu,by show 0<1000;decide,?_
 ext;exists p,_,c,_,rfl,ya,T.Ao,T.Bm,by show 1<1000;decide,?_
 ext;exists p,_,c,_,rfl,ya,T.Ao,T.Cb,by show 2<1000;decide,?_
 have e:ζ "size" (.int 5) (ζ "width" (.int 1099511627776) (ζ "low" (.int 0) []))=j4 s0:=by
  rw[wo,vx nLW wo,vx nLS (vx nWS wo)];rfl
 refine k _ (ya.trans (congrArg (λl=>some (HO.ins a.Ad c l)) e)) λb o h n=>?_;rw[yq n,yq n,yq n];exact h
#synth ywk ["self","chance"] vam
inductive yyg(C:z4)(vs:Τ)(H:Hp)(Q:VK)(E':XK):Prop
 |mk(p dx:z4)(x:Sn)(c:Int)(_:vs=[.ref p,.int c])(_:H p=some (.ins C dx (j4 x)))(_:Ch c)(_:Q (.int (cut x.2.1 c)) H)
def yp9(T:Txt K mg a):vn P w K mg Γ CX0 1 a.P1 a.Rq ["self","chance"] (yyg a.Ad):=by exists T.Ie.F.ok,ywk,j;let⟨p,e,x,c,rfl,i,⟨g,l⟩,k⟩:=h;exists 2,0,yc (yu (yn wk (yn xf (yr (pv 0) rfl) (pv 1)) (vq rfl T.Ei)));exact k
#synth ynh ["self","chance","bit","cut"] ["self","chance","bit"] vc4
inductive yhk(K:z3)(C Nc Nb:z4)(vs:Τ)(H:Hp)(Q:VK)(E:XK):Prop
 |mk(p dx:z4)(x:Sn)(vc vb:V)(n m:String)(_:vs=[.ref p,vc,vb])(_:H p=some (.ins C dx (j4 x)))(_:Ok x)(_:xu K H vc (.type n))(_:xu K H vb (.type m))(_:(chV vc=false->E (.ref Nc) none H))(_:(chV vc=true->ñ vb=false->E (.ref Nb) none H))(_:∀c b:Int,vc=.int c->vb=.int b->Ch c->0<=b->b<=1->∀H',H' p=some (.ins C dx (j4 (nar x c b)))->But p H H'->Q .non H')
def yoe(T:Txt K mg a):vn P w K mg Γ (CXe P w) 4 a.P3 a.Rr ["self","chance","bit"] (yhk K a.Ad a.Je a.Cl):=by
 exists T.If.F.okE,ynh,j;let⟨p,g,x,C,G,n,m,rfl,J,D,W,O,k1,k2,k⟩:=h;exists _,(yg (y6 (uf (yt5 T) j.m T.Oe yt (pa1 (pv 1)))) (yg (y6 (uf (Ę T) j.m T.Fg yt (pa1 (pv 2)))) (yg (y7 (i:=3) ynh.nd rfl (Or.inl rfl) (xj (pv 0) T.Ao T.Ie.m (yp9 T) j.m T.Ie.B .nil wl (pa1 (pv 1)))) (yg (Ě (vv (yx xk (pv 2) yf (y9 _)) (yc (vh (pv 0) (pv 3) rfl)) (yg (vh (pv 0) (yn wc (yr (pv 0) rfl) (pv 3)) rfl) (yc (vh (pv 0) (yn zz (yr (pv 0) rfl) (pv 3)) rfl))))) (yc (PS.nox (δ PassesOwn.never (yx ŷ (yr (pv 0) rfl) (vq rfl T.Hc) (y9 _)) (yg (vh (pv 0) (yn xf (yr (pv 0) rfl) yf) rfl) (yg (vh (pv 0) (yn xf (yr (pv 0) rfl) yf) rfl) (yc (vh (pv 0) (yn wc (yr (pv 0) rfl) yf) rfl))))))))))),?_;exists 3,1;have o:=D.w0;have q:=D.w1;ext;exists C,n,rfl,W,λf=>?_,k1;ext;exists G,m,rfl,O,λu=>?_,k2 f;let⟨c,rfl,L,S⟩:=ycm f;let⟨b,rfl,b0,b1⟩:=yd5 u;have r:Ch c:=⟨L,S⟩;have k:=k c b rfl rfl r b0 b1;ext;exists p,g,_,rfl,J,lkN _ (by right) (by right) (by right),?_;ext;exists p,g,x,c,rfl,J,r,?_;ext;let⟨Y,a2,a3⟩:=ybi o q r;refine ym2 (λσ' e=>∃y:Sn,σ'=[some (.ref p),some (.int c),some (.int b),some (.int (cut x.2.1 c))]/\e p=some (.ins a.Ad g (j4 y))/\8388608<=y.2.1/\y.2.1<=1099511627776/\ren y.1 y.2.1 y.2.2=nar x c b/\But p H e) ?_ ?_
 .ext;refine jk (λd=>?_) (λd=>?_)
  .ext;exists _,rfl,ya,Y,Int.le_of_lt a3,?_,But.upd;unfold nar
   (rw[if_pos d])<;>rfl
  .ext;exists _,rfl,ya,a2,?_,?_,But.upd.trans But.upd
   .show x.2.1-cut x.2.1 c<=_;omega
   .unfold nar
    (rw[if_neg d])<;>rfl
 .rintro σ' e ⟨y,rfl,l,R,X,U,Z⟩;ext;exists λm σ' e=>∃y:Sn,σ'=[some (.ref p),some (.int c),some (.int b),some (.int (cut x.2.1 c))]/\e p=some (.ins a.Ad g (j4 y))/\8388608<=y.2.1/\y.2.1<=1099511627776/\ren y.1 y.2.1 y.2.2=nar x c b/\But p H e/\m=(4294967296-y.2.1).toNat,⟨_,y,rfl,l,R,X,U,Z,rfl⟩,?_;rintro m σ2 H2 ⟨z,rfl,hz,N,z2,t,I,rfl⟩;ext;refine jk (λd=>?_) (λd=>?_)
  .refine ybh ?_;ext;exists _,?_,(z.1*256,z.2.1*256,z.2.2+1),rfl,ya,?_,?_,(yk9 d N).trans t,((I.trans But.upd).trans But.upd).trans But.upd,rfl
   .show (4294967296-z.2.1*256).toNat<(4294967296-z.2.1).toNat;omega
   .show 8388608<=z.2.1*256;omega
   .show z.2.1*256<=1099511627776;omega
  .rw[ytj d]at t;refine k _ ?_ I;rw[<- t];exact hz
#synth yz8 ["self","unit"] vat
inductive yk2(C:z4)(vs:Τ)(H:Hp)(Q:VK)(E':XK):Prop
 |mk(p dx:z4)(x:Sn)(j:Nat)(_:vs=[.ref p,.int (pw j)])(_:H p=some (.ins C dx (j4 x)))(_:j<=6)(_:Q (.bl (decide (yf9 x.1 x.2.1 j))) H)
def yvj(T:Txt K mg a):vn P w K mg Γ CX0 2 a.P4 a.Rs ["self","unit"] (yk2 a.Ad):=by
 exists T.Mq.F.ok,yz8,g;let⟨p,e,x,j,rfl,l,d,k⟩:=h;exists _,(yc (yu (uu je (yn xf (yn wc (ug (yp6 T) g.m T.Mn (pac (yr (pv 0) rfl) (pa1 (pv 1)))) yf) (pv 1)) (yn wc (yr (pv 0) rfl) (yr (pv 0) rfl)) (y9 _)))),?_;exists 2,0;have n:=ydv d;have i:=zh j;ext;exists _,_,rfl,i,(),?_
 ext;exact k
#synth ybg ["self","unit","size"] ["self"] vaq
inductive ytq(C:z4)(vs:Τ)(H:Hp)(Q:VK)(E':XK):Prop
 |mk(p dx:z4)(x:Sn)(_:vs=[.ref p])(_:H p=some (.ins C dx (j4 x)))(_:OkS x)(_:sz x<=100000)(_:∀t H',H t=none->H' t=some (.lst ((tL x).map V.int))->yv H H'->Q (.ref t) H')
def yos(T:Txt K mg a):vn P w K mg Γ CX0 3 a.P5 a.Rt ["self"] (ytq a.Ad):=by
 exists T.Ig.F.ok,ybg,e;let⟨p,g,x,rfl,o,c,C,k⟩:=h;exists 1,2,yg (y7 (i:=1) ybg.nd rfl (Or.inl rfl) yf) (yg (y7 (i:=2) ybg.nd rfl (Or.inl rfl) (yr (pv 0) rfl)) (yg (δ PassesOwn.never (xz (xj (pv 0) T.Ao T.Mq.m (yvj T) e.m T.Mq.B .nil wl (pa1 (yn xf (pv 1) yf)))) (yg (y7 (i:=1) ybg.nd rfl (Or.inl rfl) (yn xf (pv 1) yf)) (yc (y7 (i:=2) ybg.nd rfl (Or.inl rfl) (yn zz (pv 2) yf))))) (yc (yu (ug (ynm T) e.m T.Mm (pac (ug (yp6 T) e.m T.Mn (pac (yr (pv 0) rfl) (pa1 (pv 1)))) (pa1 (pv 2))))))));exists λm σ' r=>r=H/\∃j:Nat,σ'=[some (.ref p),some (.int (pw j)),some (.int (x.2.2-j))]/\j<=5/\tel x.1 x.2.1 (5-j) j=tK x/\m=6-j,⟨_,rfl,0,by simp[pw],∅,rfl,rfl⟩,?_;rintro m σ2 y ⟨rfl,j,rfl,D,n,rfl⟩;have I:=ydv (show j<=6 by omega);have v:=zh j;ext;exists p,g,_,rfl,o,lkN _ (by right) (by right) (by right),?_;ext;exists p,g,x,j+1,rfl,o,(),?_
 ext;refine jk (λb=>?_) (λb=>?_)
 .refine ybh ?_;ext;have t:=ynq c.ok.w1 b;exists _,?_,rfl,j+1,?_,t,?_,rfl
  .show 6-(j+1)<6-j;omega
  .have f:x.2.2-(j:Int)-1=x.2.2-((j+1:Nat):Int):=()
   rw[f];rfl
  .rw[ykt b,<- n]
   congr 1
   omega
 .have d:j=tK x:=by rw[<- n,yrq b]
  subst d;ext;exists _,_,rfl,v,(),?_
  ext;have z:=c.sz;have G:=(yt1 c).2;have f:x.2.2-(tK x:Int)=((sz x-tK x:Nat):Int):=()
  rw[f];exists _,_,rfl,(),k
#synth yvz ["thing"] vcw
inductive yfp(K:z3)(vs:Τ)(H:Hp)(Q:VK)(E':XK):Prop
 |mk(x n:_)(_:vs=[x])(_:xu K H x (.type n))(_:Q (.bl (yj1 x)) H)
def yyy(T:Txt K mg a):vn P w K mg Γ CX0 1 a.P6 a.Ru ["thing"] (yfp K):=by
 exists T.Up.F.ok,yvz,g;let⟨x,n,rfl,b,k⟩:=h;exists 1,0,yc (yu (zi (pcB wz T.A6 (pac (pv 0) (pa1 (ji (T:="str") rfl T.K6 (by right))))) (ι (uu ygh (pv 0) (w9 rfl T.K8) (by with_unfolding_all rfl)))));refine ç b (ũ b) ?_;ext;by_cases hn:n="str"
 .obtain⟨s',rfl⟩:∃s',x=.str s':=by
   cases b with
   |str s'=>exists s',rfl
   |_=>exact absurd hn ∅
  rw[bi hn];refine zt ?_;ext;exists a.Cj,_,rfl,.inr (T.w_KINDS H),rfl,rfl,k
 .have e:yj1 x=false:=by
   cases b with
   |str s'=>exact absurd rfl hn
   |_=>rfl
  rw[be hn];rw[e]at k;exact xh k
#synth ywl ["thing"] vdb
inductive ybt(K:z3)(vs:Τ)(H:Hp)(Q:VK)(E':XK):Prop
 |mk(x n:_)(_:vs=[x])(_:xu K H x (.type n))(_:Q (.bl (plV x)) H)
def yz5(T:Txt K mg a):vn P w K mg Γ CX0 2 a.P7 a.Rv ["thing"] (ybt K):=by
 exists T.Uq.F.ok,ywl,j;let⟨x,n,rfl,f,k⟩:=h;exists 1,0,yc (yu (zi (ug (yj0 T) j.m T.Kh (pa1 (pv 0))) (ι (Í je je yf (pv 0) (vq rfl T.Jq)))));exists x,n,rfl,f,?_;ext
 cases hx:μ x with
 |false =>
  have e:plV x=false:=by
   cases x<;>first|rfl|cases hx
  rw[e]at k;exact xh k
 |true =>
  let⟨i,rfl⟩:=zw hx;refine zt ?_;ext;refine jk (λc=>?_) (λc=>?_)
  .ext;have e:plV (.int i)=decide (i<=8):=by simp[plV,c]
   rw[e]at k;exact k
  .have e:plV (.int i)=false:=by simp[plV,c]
   rw[e]at k;exact k
#synth yv7 ["thing"] vca
inductive ŝ(K:z3)(vs:Τ)(H:Hp)(Q:VK)(E':XK):Prop
 |mk(x b:_)(_:vs=[x])(_:PlB K H x b)(_:∀H',yv H H'->Q (.bl b) H')
def yy1(T:Txt K mg a):vn P w K mg Γ CX0 3 a.P8 a.Rx ["thing"] (ŝ K):=by
 exists T.Ur.F.ok,yv7,hr;let⟨x,b,rfl,hb,k⟩:=h;exists _,(yg (vv (PW.pt (ð (xw (xz (pcB wz T.A6 (pac (pv 0) (pa1 (ji (T:="tuple") rfl T.Fq (by right))))))) (ð (yx ym0 (pcB yw T.Af (pa1 (pv 0))) (vq rfl T.Hd) (y9 _)) (Ö (xw (xz (pcB (z9 rfl) T.Gf (pa1 (we (js:=[]) (ys:=[]) rfl (yej (pv 0)) (λC U G W=>(ug (yz5 T) hr.m T.Uq (pa1 (pv 0)))) rfl rfl (hyc:=ve) (hrel:=ve)))))))))) (yc (yu ul)) y8) (yc (yu (pcB (z9 rfl) T.Gf (pa1 (ydm (js:=[]) (ys:=[]) (xs:=["near","far"]) (g:=yug K 2 (η (x0 0) (η (x0 1) ym6))) rfl (ytb rfl T.Oa (pac (pv 0) (pa1 (uk (yxy.or ytk) (pv 0) (zl yf) zq)))) (λC U G W=>(uu ŷ (pv 0) (pv 1) (y9 _))) rfl (λC U G W=>yd8 rfl (ub (wd (i:=0) (show List.Nodup ((["near","far"]:Ρ)++([]:Ρ)) by right) rfl (Or.inl rfl)) (ub (wd (i:=1) (show List.Nodup ((["near","far"]:Ρ)++([]:Ρ)) by right) rfl (Or.inl rfl)) Ė))) rfl (hyc:=ve) (hrel:=ve))))))),?_;exists 1,0;rcases hb with⟨n,X,hn,rfl⟩|⟨t,xs,rfl,I,hl,hy,rfl⟩
 .ext;refine ç X (ö X) ?_;ext;refine yt2 hn ?_;ext;exact k _ (yv.refl _)
 .ext;refine ç (.tup I) (ö (.tup I)) ?_;ext;refine yt4 rfl ?_;ext;refine yqb (SqT.of I) ?_;ext;unfold ur at k;refine jk (λY=>?_) (λY=>?_)
  .rw[be (),Bool.false_and,Bool.false_and]at k;ext;exact k _ (yv.refl _)
  .rw[bi (),Bool.true_and]at k;ext;exists t,rfl,⟨_,SqT.of I⟩,λD S=>?_;refine ygy (xs:=xs) (λv=>.bl (plV v)) (SqT.of I) S (λi y G J p f=>?_) (λG p f=>?_)
   .obtain⟨n,O⟩:=hy y (bB J);ext;exists y,n,rfl,jz p O,?_;exact Mp.done S (vk ()) J p f rfl
   have e:xs.map (λv=>V.bl (plV v))=(xs.map plV).map V.bl:=by rw[cb];rfl
   rw[e]at f;ext;exists D,_,rfl,SqL.of f,?_;rw[List.all_map];have ea:xs.all (id ∘ plV)=xs.all plV:=rfl;rw[ea];have c:=p _ _ I
   cases hp:xs.all plV with
   |false =>
    rw[hp,Bool.false_and]at k;ext;exact k _ p
   |true =>
    rw[hp,Bool.true_and]at k
    have l:∀y∈xs,∃i:Int,y=.int i:=λy hm=>by
     have:=List.all_eq_true.mp hp y hm
     cases y with
     |int i=>exists i,rfl
     |_=>cases this
    ext;by_cases hx0:xs=[]
    .refine .inr ⟨t,xs,rfl,SqT.of c,?_,?_⟩
     .subst hx0;exists rfl,rfl
     .exists t,t,rfl,⟨_,_,SqT.of c,SqT.of c⟩,λN d=>?_;refine yi4 (xs:=xs) l () (SqT.of c) (by subst hx0;exact SqT.of c) d (λi j σ' H' Q' h=>?_) (λH4 M B=>?_)
      .ext;exact h
      .ext;exists N,_,rfl,SqL.of B,k _ (p.trans M)
    .refine .inl ⟨t,xs,rfl,SqT.of c,?_,λu hu=>?_⟩
     .rintro ⟨z,_⟩
      have e1:HT.sIx xs.length 0 (some 1)=min 1 xs.length:=by
       have:=HT.sIx_nat xs.length 0 1;simpa using this
      rw[e1]at z
      cases xs with
      |nil=>exact hx0 rfl
      |cons x r=>simp at z
     .rw[ysy];have L:=vg (o:=(HO.tup xs.tail)) hu;have q:upd G u (HO.tup xs.tail) u=some (HO.tup xs.tail):=ya;generalize upd G u (HO.tup xs.tail)=H3 at L q⊢;exists t,u,rfl,⟨_,_,SqT.of (L _ _ c),SqT.of q⟩,λN d=>?_;refine yi4 (xs:=xs) l () (SqT.of (L _ _ c)) (SqT.of q) d (λi j σ' H' Q' h=>?_) (λH4 M B=>?_)
      .ext;exact h
      .ext;exists N,_,rfl,SqL.of B,k _ (p.trans (L.trans M))
#synth yzw ["thing"] vde
inductive ye8(K:z3)(vs:Τ)(H:Hp)(Q:VK)(E':XK):Prop
 |mk(x b:_)(_:vs=[x])(_:LkB K H x b)(_:∀H',yv H H'->Q (.bl b) H')
def ynp(T:Txt K mg a):vn P w K mg Γ CX0 4 a.P9 a.Ry ["thing"] (ye8 K):=by
 exists T.Mr.F.ok,yzw,i;let⟨x,b,rfl,d,k⟩:=h;exists _,(yc (yu (zi (pcB wz T.A6 (pac (pv 0) (pa1 (ji (T:="tuple") rfl T.Fq (by right))))) (zi (uu xk (pcB yw T.Af (pa1 (pv 0))) yf (y9 _)) (zi (ug (yyy T) i.m T.Up (pa1 (xg Ô (pv 0) yf (λZ Z=>rfl)))) (ι (ug (yy1 T) i.m T.Ur (pa1 (xg Ô (pv 0) yf (λZ Z=>rfl)))))))))),?_;exists 1,0;rcases d with⟨n,e,r,rfl⟩|⟨t,q,rfl,c,d⟩
 .ext;refine ç e (ö e) ?_;ext;rw[be r];exact xh (k _ (yv.refl _))
 .ext;refine ç (.tup c) (ö (.tup c)) ?_;ext;refine ybj rfl ?_;ext;refine yqb (SqT.of c) ?_;ext;rcases d with⟨u,rfl⟩|⟨y,z,n,rfl,e,d⟩
  .rw[be (show ¬((q.length:Int)=2) by omega)];exact xh (k _ (yv.refl _))
  .refine ybj rfl ?_;ext;refine yc7 (SqT.of c) (vi (j:=0) rfl) ?_;ext;exists y,n,rfl,e,?_;rcases d with⟨g,rfl⟩|⟨g,o⟩
   .rw[g];ext;exact k _ (yv.refl _)
   .rw[g];ext;refine yc7 (SqT.of c) (vi (j:=1) rfl) ?_;ext;exists z,b,rfl,o,k
#synth yw3 ["thing"] vdu
def yg3(K:z3)(C:z4):Sp:=λvs H Q E=>(∃x n,vs=[x]/\xu K H x (.type n)/\n≠"list"/\E (.ref C) none H) \/
 ∃(l:z4)(xs:Τ)(bs:qi Bool),vs=[.ref l]/\H l=some (.lst xs)/\xs.length<=1000/\yj6 K H xs bs/\
  ((1<=xs.length/\xs.length<=6/\bs.all id=true)->∀r H',H r=none->H' r=some (.lst xs)->yv H H'->Q (.ref r) H')/\
  (¬(1<=xs.length/\xs.length<=6/\bs.all id=true)->∀H',yv H H'->E (.ref C) none H')
def yom(T:Txt K mg a):vn P w K mg Γ (CXe P w) 5 a.Pa a.Rz ["thing"] (yg3 K a.Bx):=by
 refine T.Ms.F.okE yw3 (λW H Q E h=>?_) (λN A o s H W Q E J h=>?_)
 .rcases h with⟨x,n,rfl,_⟩|⟨l,xs,f,rfl,_⟩
  .rfl
  .rfl
 .rcases h with⟨x,n,rfl,M,U,k⟩|⟨l,xs,e,rfl,d,hz,u,Y,B⟩
  .exists _,(yg (vv (PW.pt (ð (xw (xz (pcB wz T.A6 (pac (pv 0) (pa1 (ji (T:="list") rfl T.Ay (by right))))))) (ð (xw (ť je je yf (pcB yw T.Af (pa1 (pv 0))) (vq rfl T.Ek))) (Ö (xw (xz (pcB (z9 rfl) T.Gf (pa1 (we (js:=[]) (ys:=[]) rfl (ww (pv 0)) (λC S t X=>(ug (ynp T) J.m T.Mr (pa1 (pv 0)))) rfl rfl (hyc:=ve) (hrel:=ve)))))))))) (yc (vz rfl T.Oj T.X0 (pa1 yj))) y8) (yc (yu (pcT wx T.Ay (pa1 (pv 0)))))),?_;refine yo (σ':=[some _]) rfl ?_;ext;refine ç M (ydd M) ?_;ext;refine yt2 U ?_;ext;exists by walk_at "len",k
  .exists _,(yg (vv (PW.pt (ð (xw (xz (pcB wz T.A6 (pac (pv 0) (pa1 (ji (T:="list") rfl T.Ay (by right))))))) (ð (xw (ť je je yf (pcB yw T.Af (pa1 (pv 0))) (vq rfl T.Ek))) (Ö (xw (xz (pcB (z9 rfl) T.Gf (pa1 (we (js:=[]) (ys:=[]) rfl (ww (pv 0)) (λC S t X=>(ug (ynp T) J.m T.Mr (pa1 (pv 0)))) rfl rfl (hyc:=ve) (hrel:=ve)))))))))) (yc (vz rfl T.Oj T.X0 (pa1 yj))) y8) (yc (yu (pcT wx T.Ay (pa1 (pv 0)))))),?_;refine yo (σ':=[some _]) rfl ?_;ext;refine ç (.lst d) (ydd (.lst d)) ?_;ext;refine yt4 rfl ?_;ext;refine z5 (SqL.of d) ?_;ext;refine jk (λO=>?_) (λO=>?_)
   .ext;refine yue (λR=>?_) (λR=>?_)
    .ext;exists l,rfl,⟨_,SqL.of d⟩,λD G=>?_;refine jo (K:=K) (xs:=xs) (Mp H D (λi=>V.bl ((e[i]?).getD false))) (Mp.zero G) (λZ Z Z p=>p.1.seq (SqL.of d)) (λi y t v I p=>?_) (λt p=>?_)
     .obtain⟨c,b⟩:=p;have g:i<e.length:=by rw[<- u.1];exact I
      ext;exists y,e[i],rfl,(u.2 i y _ v (bg g)).same c,λZ L=>?_;refine Mp.doneR G (vk ()) I (c.trans L) (L _ _ b) ?_;rw[bg g];rfl
     let⟨c,b⟩:=p;rw[yl0 e u.1]at b;ext;exists D,_,rfl,SqL.of b,?_;have q:=c _ _ d
     cases hp:e.all id with
     |false =>
      ext;exists by walk_at "len",B (by rw[hp];rintro ⟨_,_,z⟩;cases z) _ c
     |true =>
      ext;refine ylo (SqL.of q) λr j=>?_;exact Y ⟨(),(),hp⟩ r _ (c.free j) ya (c.trans (vg j))
    .ext;exists by walk_at "len",B () _ (yv.refl _)
   .ext;exists by walk_at "len",B () _ (yv.refl _)
#synth ywy ["signs","place"] vdq
inductive yl7(K:z3)(vs:Τ)(H:Hp)(Q:VK)(E':XK):Prop
 |mk(l:z4)(sg:Ο)(p:Int)(_:vs=[.ref l,.int p])(_:SqL K H l (sg.map V.int))(_:1<=p)(_:Q (.int (yqg sg p)) H)
def yy7(T:Txt K mg a):vn P w K mg Γ CX0 1 a.Pb a.S0 ["signs","place"] (yl7 K):=by
 exists T.Us.F.ok,ywy,n;let⟨l,i,p,rfl,f,j,k⟩:=h;exists 2,0,yc (yu (j9 (yx je (pv 1) (pcB yw T.Af (pa1 (pv 0))) (y9 _)) (xg vy (pv 0) (ymv yd9 (pv 1)) (λZ Z=>rfl)) (vq rfl T.Kp)));refine z5 f ?_;rw[bc];ext;unfold yqg at k;refine jk (λb=>?_) (λb=>?_)
 .rw[if_pos b]at k;let⟨c,e,_⟩:=ykn j b;rw[e]at k;ext;exact xo f (by rw[ytt,e];rfl) k
 .rw[if_neg b]at k;ext;exact k
#synth yw2 ["look","signs","node"] vbc
def jg(K:z3)(H:Hp)(k:z4)(x:V)(ps:Ο):Prop:=∃t,SqT K H k [x,.ref t]/\SqT K H t (ps.map V.int)/\(∀p∈ps,1<=p/\p<=8)/\ps.length<=4
def jg.same{H H':Hp}{k:z4}{x:V}{ps:Ο}(S:yv H H')(h:jg K H k x ps):jg K H' k x ps:=by let⟨t,c,a,b,d⟩:=h;exists t,S.tup c,S.tup a,b,d
def ctx(ps sg:Ο)(nd:Int):Ο:=ps.map (yqg sg)++[nd]
def bkV(sg:Ο):V->V
 | .int p=>.int (yqg sg p)
 |_=>.non
def ysi(sg ps:Ο):(ps.map V.int).map (bkV sg)=(ps.map (yqg sg)).map V.int:=by rw[cb,cb];rfl
inductive ye7(K:z3)(vs:Τ)(H:Hp)(Q:VK)(E':XK):Prop
 |mk(k l:z4)(x:V)(ps sg:Ο)(nd:Int)(_:vs=[.ref k,.ref l,.int nd])(_:jg K H k x ps)(_:SqL K H l (sg.map V.int))(_:∀r H',H r=none->H' r=some (.tup ((ctx ps sg nd).map V.int))->yv H H'->Q (.ref r) H')
def ywu(T:Txt K mg a):vn P w K mg Γ CX0 2 a.Pe a.S8 ["look","signs","node"] (ye7 K):=by
 exists T.Ut.F.ok,yw2,O;let⟨W,l,x,v,u,M,rfl,⟨t,N,I,o,U⟩,J,k⟩:=h;exists 3,0,yc (yu (pcT Ä T.Fq (pa1 (yn ud (we (js:=[1]) (ys:=["signs"]) rfl (yej (xg Ô (pv 0) yf (λZ Z=>rfl))) (λC X B Y=>(ug (yy7 T) O.m T.Us (pac (pv 1) (pa1 (pv 0))))) rfl rfl (hyc:=(all_cons rfl ve)) (hrel:=(all_cons rfl ve))) (vj (pa1 (pv 2)))))));refine yc7 N (vi (j:=1) rfl) ?_;exists t,rfl,⟨_,I⟩,λD z=>?_;have g:(v.map V.int).length<sizeLine:=vk (by rw[bc];omega);refine Ĳ (xs:=v.map V.int) (bkV u) I z (λi y B G e b=>?_) (λB e b=>?_)
 .obtain⟨p,rfl,q,_,_⟩:=ξ G;ext;exists l,u,p,rfl,e.seq J,(o p q).1,?_;exact Mp.done z g G e b rfl
 .rw[ysi]at b;ext;exists by walk_at "len",λn hn=>?_
  exists hn,H3,S3,hn3;exists D,n,_,_,rfl,rfl,S3 _ _ b,hn3,wt (by rw[bc,bc];show _+1<=_;omega),λc hc=>?_;exists hc,H4,S4,hc4;exists c,_,rfl,.inl ⟨SqL.of hc4,λr d=>?_⟩;have S:=e.trans (S3.trans S4);refine k r _ (S.free d) (ya.trans ?_) (S.trans (vg d));unfold ctx;rw[bD];rfl
#synth yyq ["self","look"] vb8
inductive yh1(a:Ads)(vs:Τ)(H:Hp)(Q:VK)(E':XK):Prop
 |mk(p dx lk:z4)(kd:Fin 3)(_:vs=[.ref p,.ref lk])(_:H p=some (.ins a.Ap dx []))(_:∀d H',H d=none->ó a H' p dx lk d kd (λZ=>none) (λb=>b=d) 0->But p H H'->Q .non H')
def vac(T:Txt K mg a):vn P w K mg Γ CX0 1 a.Kv a.Sa ["self","look"] (yh1 a):=by
 exists T.Uu.F.ok,yyq,D;let⟨p,j,i,B,rfl,v,k⟩:=h;exists 2,0,yg (vh (pv 0) (pv 1) rfl) (yc (vh (pv 0) ykb rfl));intro d l
 have c:H d=none:=by
  cases e:H d with
  |none=>rfl
  |some o =>
   by_cases z:d=p
   .rw[z,ya]at l;cases l
   .rw[yq z,e]at l;cases l
 have f:d≠p:=λz=>by rw[z,v]at c;cases c
 have m:=ju (o':=HO.dT []) l (show upd H p (HO.ins a.Ap j ([("look",V.ref i)]:Ι)) p=some (HO.ins a.Ap j ([("look",V.ref i)]:Ι))from ya);have g:upd (upd H p (HO.ins a.Ap j ([("look",V.ref i)]:Ι))) d (.dT []) d=some (.dT []):=ya;have r:But p H (upd (upd H p (HO.ins a.Ap j ([("look",V.ref i)]:Ι))) d (.dT [])):=λb o e n=>by rw[yq (yb e c),yq n];exact e
 generalize upd (upd H p (HO.ins a.Ap j ([("look",V.ref i)]:Ι))) d (.dT [])=C at m g r⊢;ext
 refine k d _ c ⟨ya,λb y=>⟨HO.dT [],by cases y;exact ym f g,rfl⟩,λz=>f z.symm,rfl,λu e=>(by cases (ym f g).symm.trans e;exact⟨List.nodup_nil,λZ z=>(nomatch z)⟩),[],λZ=>(0,0),ym f g,bj _,λZ Z=>rfl,λZ Z z=>(nomatch z),λZ Z Z Z z=>(nomatch z)⟩ (r.trans But.upd)
#synth yow ["self","signs","node","context"] ["self","signs","node"] vdn
inductive yhp(K:z3)(a:Ads)(vs:Τ)(H:Hp)(Q:VK)(E':XK):Prop
 |mk(p dx lk d sl:z4)(kd:Fin 3)(f:qi Int->qj Slt)(O:Μ)(m:Nat)(ps sg:Ο)(nd:Int)(_:vs=[.ref p,.ref sl,.int nd])(_:ó a H p dx lk d kd f O m)(_:m<1000000)(_:jg K H lk (.str (kdS kd)) ps)(_:SqL K H sl (sg.map V.int))(_:∀(q:z4)(O':Μ)(H':Hp),ó a H' p dx lk d kd (ź f (ctx ps sg nd) ((f (ctx ps sg nd)).getD (kd0 kd))) O' (m+1)->(∀kvs,H' d=some (.dT kvs)->jl kvs (kI (ctx ps sg nd))=some (.ref q))->(∀c,O' c->O c\/H c=none)->(∀c,O c->O' c)->ynb O H H'->Q (.ref q) H')
set_option tactic.hygienic true in
def yzz(T:Txt K mg a):vn P w K mg Γ CX0 4 a.Pf a.Sb ["self","signs","node"] (yhp K a):=by
 exists T.Mt.F.ok,yow,hr;let⟨p,dx,lk,d,sl,G,f,O,m,ps,sg,Z,rfl,hb,hm,hl,hs,k⟩:=h;have aa:=hb.me;exists 3,1,yg (y7 (i:=3) yow.nd rfl (Or.inl rfl) (ug (ywu T) hr.m T.Ut (pac (yr (pv 0) rfl) (pac (pv 1) (pa1 (pv 2)))))) (yg (Ě (vv (yjk (ybb (Ÿ hr) (pv 3) (yr (pv 0) rfl))) (yc (yi0 (Ÿ hr) (yr (pv 0) rfl) (pv 3) (ug (yx7 T) hr.m T.Uo (pa1 (xg Ô (yr (pv 0) rfl) yf (λF F=>rfl)))) rfl)) y8)) (yc (yu (Ų (Ÿ hr) (yr (pv 0) rfl) (pv 3) (λF F=>rfl)))));exists lk,sl,_,ps,sg,Z,rfl,hl,hs,λr H1 ad a3 S1=>?_;have l:H1 r=some (.tup ((kI (ctx ps sg Z)).map kV)):=by rw[yyz];exact a3
 generalize ctx ps sg Z=b at l k;have g:=hb.same S1;have y:=g.me;ext;refine ym2 (λσ' H'=>σ'=[some (.ref p),some (.ref sl),some (.int Z),some (.ref r)]/\∃O',ó a H' p dx lk d G (ź f b ((f b).getD (kd0 G))) O' (m+1)/\(∀c,O' c->O c\/H c=none)/\(∀c,O c->O' c)/\ynb O H H'/\H' r=some (.tup ((kI b).map kV))) ?_ ?_
 .obtain⟨J,n,D,h2,U,N,h5⟩:=g.tb;ext;exists d,_,rfl,Ł.t D l,?_
  cases hf:f b with
  |none =>
   rw[U b hf];ext;refine zt ?_;ext;let⟨t,a7,ac,_,_⟩:=hl;refine yc7 (S1.tup a7) (vi (j:=0) rfl) ?_;ext;exists G,rfl,λq dq H2 u X I=>?_;ext;have M:=I _ _ y;ext;exists d,_,rfl,ym3.t (I _ _ D) (I _ _ l) (vk ()),?_;have a6:=S1.trans I;have a0:q≠d:=λz=>by rw[z,D]at u;cases u
   have a4:p≠d:=λz=>g.np (z ▸ g.dO);ext;exists rfl,λc=>O c\/c=q,⟨ym a4 M,λc v=>?_,λz=>?_,.inl g.dO,yub.snoc (g.ky J D) (U b hf) ya,Ż J (kI b) (.ref q),λj=>if j=b then (q,dq)else n j,ya,?_,λj L=>?_,λj s' L=>?_,λj1 Y s1 s2 e1 W x=>?_⟩,λc v=>?_,λc v=>.inl v,λc o e no=>?_,ym (xr (I _ _ l) (I _ _ D) (by intro z;cases z)) (I _ _ l)
   .rcases v with v|rfl
    .obtain⟨o,ho,hi⟩:=g.own c v;by_cases z:c=d
     .rw[z];exists _,ya,rfl
     .exists o,ym z (I _ _ ho),hi
    .obtain⟨C,fs,eo⟩:=Ĺ a dq (kd0 G);exists _,ym a0 X,by rw[eo];rfl
   .rcases z with z|z
    .exact g.np z
    .rw[z]at y;rw[y]at u;cases u
   .rw[Š _ (U b hf),bf];show _+1<=m+1;omega
   .unfold ź at L
    split at L
    .cases L
    .rename_i hne
     rw[Ŧ,if_neg λz=>hne (yo6 z)];exact U j L
   .unfold ź at L
    split at L
    .rename_i he
     subst he;cases L;dsimp only;rw[if_pos rfl,Ŧ,if_pos rfl];exists rfl,ym a0 X,yod G,ymk G,.inr rfl
    .rename_i hne
     let⟨S,B,q3,q4,q5⟩:=N j s' L;dsimp only;rw[if_neg hne,Ŧ,if_neg λz=>hne (yo6 z)]
     have a5:(n j).1≠d:=by
      let⟨C,fs,eo⟩:=Ĺ a (n j).2 s';rw[eo]at B;exact xr B D (by intro z;cases z)
     exists S,ym a5 (I _ _ B),q3,q4,.inl q5
   .unfold ź at e1 W;dsimp only at x;by_cases z1:j1=b
    .by_cases z2:Y=b
     .rw[z1,z2]
     .rw[if_neg z2]at W;rw[if_pos z1,if_neg z2]at x;let⟨_,B,_⟩:=N Y s2 W;have x:q=(n Y).1:=x;rw[<- x,u]at B;cases B
    .rw[if_neg z1]at e1;by_cases z2:Y=b
     .rw[if_neg z1,if_pos z2]at x;let⟨_,B,_⟩:=N j1 s1 e1;have x:(n j1).1=q:=x;rw[x,u]at B;cases B
     .rw[if_neg z2]at W;rw[if_neg z1,if_neg z2]at x;exact h5 j1 Y s1 s2 e1 W x
   .rcases v with v|rfl
    .exact .inl v
    .exact .inr (S1.free u)
   .exact ym (λz=>no (z ▸ g.dO)) (a6 _ _ e)
  |some s' =>
   let⟨S,B,q3,q4,q5⟩:=N b s' hf;rw[S];ext;exists rfl,O,?_,λc v=>.inl v,λc v=>v,λc o e F=>S1 _ _ e,l
   have ef:ź f b ((some s').getD (kd0 G))=f:=by
    funext j
    unfold ź
    split
    .rename_i z
     rw[z,hf];rfl
    .rfl
   rw[ef];exists g.me,g.own,g.np,g.dO,g.ky,J,n,D,Nat.le_succ_of_le h2,U,N,h5
 .rintro σ' H2 ⟨rfl,O',R,hO,hM,B2,a1⟩;have M:=R.me;let⟨J,n,D,h2,U,N,h5⟩:=id R.tb;have a8:ź f b ((f b).getD (kd0 G)) b=some ((f b).getD (kd0 G)):=by unfold ź;rw[if_pos rfl]
  let⟨S,B,q3,q4,q5⟩:=N b _ a8;ext;exists d,_,rfl,by rw[<- S];exact Ł.t D a1,?_
  exact k (n b).1 O' H2 R (λa9 e=>by rw[D]at e;cases e;exact S) hO hM B2
#synth yv9 ["self","many"] vc6
def vah(T:Txt K mg a):vn P w K mg Γ CX0 1 a.Kw a.Sc ["self","many"] (ykk a):=by
 exists T.Uv.F.ok,yv9,q;let⟨p,i,n,rfl,m,o,e,k⟩:=h;exists 2,0,yc (vh (pv 0) (yn yjj (vj (pa1 (vq rfl T.Gg))) (pv 1)) rfl);exists by walk_at "len",λr hr0=>?_
 exists hr0,H1,S1,e1;ext;exists r,n,_,rfl,rfl,e1,(),(),wt (by show 1*(n:Int).toNat<=16000000;omega),λl hl=>?_
 rw[yg9];exists hl,H2,S2,e2;have b:=S1.trans S2;have f:=b _ _ e;ext;have d:l≠p:=λz=>by rw[z,S1 _ _ e]at hl;cases hl
 exact k l _ (S1.free hl) ⟨ya,ym d e2⟩ ((But.of b).trans But.upd)
#synth yvm ["self","chances"] vbb
def yy9(T:Txt K mg a):vn P w K mg Γ CX0 1 a.Pg a.Se ["self","chances"] (yho K a):=by
 exists T.Mu.F.ok,yvm,hr;let⟨p,dx,l,c,I,J,n,rfl,X,n6,e,Z,⟨hp,z⟩,O,k⟩:=h;exists _,(yc (yu (yn wk (pcB (Ò rfl) T.J8 (pa1 (ydm (js:=[]) (ys:=[]) (xs:=["weight","chance"]) (g:=yug K 2 (η (x0 0) (η (x0 1) ym6))) rfl (ypn rfl T.Oa (pac (yr (pv 0) rfl) (pa1 (pv 1)))) (λC W j fp=>(yn xf (pv 0) (pv 1))) rfl (λC W j fp=>yd8 rfl (ub (wd (i:=0) (show List.Nodup ((["weight","chance"]:Ρ)++([]:Ρ)) by right) rfl (Or.inl rfl)) (ub (wd (i:=1) (show List.Nodup ((["weight","chance"]:Ρ)++([]:Ρ)) by right) rfl (Or.inl rfl)) Ė))) rfl (hyc:=ve) (hrel:=ve)))) (pcB (Ò rfl) T.J8 (pa1 (yr (pv 0) rfl)))))),?_;exists 2,0;have d:J.length=I.length:=by rw[e.len,Z.len]
 ext;exists l,c,rfl,⟨_,_,SqL.of z,O⟩,λD L=>?_;refine Ķ (λi=>V.int ((I[i]?).getD 0*(J[i]?).getD 0)) (SqL.of z) O (by rw[bc,bc,d]) L (λi x y j B a0 R U f b m t=>?_) (λj f b=>?_)
 .obtain⟨v1,v2,rfl⟩:=yjn t;let⟨w,rfl,M,wi,il⟩:=ξ R;let⟨u,rfl,um,Y,_⟩:=ξ U;have w1:=e.one w M;have w2:=e.top w M;have N:=f.trans (vg (o:=HO.tup [V.int w,V.int u]) m);have r:=ju (o':=HO.tup [V.int w,V.int u]) m b;have q:upd j B (HO.tup [V.int w,V.int u]) B=some (.tup [V.int w,V.int u]):=ya;generalize upd j B (HO.tup [V.int w,V.int u])=H3 at N r q;refine yee (SqT.of q) rfl ?_;show η (x0 0) (η (x0 1) ym6) [V.int w,V.int u] (v1::v2::uw [] [some (V.ref p),some (V.ref c)]) H3 _;ext;exists⟨[some (.int w),some (.int u)],rfl,rfl⟩,?_;ext;refine Mp.doneR L (vk (by rw[bc,e.len];omega)) (by rw[bc];exact il) N r ?_;rw[wi,Y];rfl
 .have b:=ydp b (yqc (g:=λw c=>w*c) d);have a1:=f _ _ hp;have G:=f _ _ z;have p1:=e.pos X;have p2:=e.small n6;ext;exists D,_,rfl,SqL.of b,?_;ext;exists l,_,rfl,SqL.of G,?_;ext;exact k _ f
#synth ĸ ["self","chances","bit","shares","whole","own","grown","dropped"] ["self","chances","bit"] vdo
def yxq(T:Txt K mg a):vn P w K mg Γ (CXe P w) 5 a.Ph a.Sf ["self","chances","bit"] (yg8 K a a.Cl):=by
 exists T.Mv.F.okE,ĸ,hr;let⟨p,dx,l,c,B,I,n,x,m,rfl,n1,n6,U,hc,⟨hp,hl⟩,hq,ty,k1,k2⟩:=h;refine yh (y6 (uf (Ę T) hr.m T.Fg yt (pa1 (pv 2)))) ?_;refine yh (yk1 (i:=3) (js:=[2]) (ys:=["bit"]) (xs:=["weight","chance"]) (g:=yug K 2 (η (x0 0) (η (x0 1) ym6))) ĸ.nd rfl rfl rfl (ypn rfl T.Oa (pac (yr (pv 0) rfl) (pa1 (pv 1)))) (λC s2 J fp=>(yn xf (pv 0) (uf (yup T) hr.m T.Uj vt (pac (pv 1) (pa1 (pv 2)))))) rfl (λC s2 J fp=>yd8 rfl (ub (wd (i:=0) (show List.Nodup ((["weight","chance"]:Ρ)++(["bit"]:Ρ)) by right) rfl (Or.inl rfl)) (ub (wd (i:=1) (show List.Nodup ((["weight","chance"]:Ρ)++(["bit"]:Ρ)) by right) rfl (Or.inl rfl)) Ė))) rfl (hyc:=(all_cons rfl ve)) (hrel:=(all_cons rfl ve))) ?_;refine yh (y7 (i:=4) ĸ.nd rfl (Or.inr rfl) (pcB (Ò rfl) T.J8 (pa1 (pv 3)))) ?_;refine yh (y7 (i:=5) ĸ.nd rfl (Or.inr rfl) (yn xf (vq rfl T.J9) (pcB yw T.Af (pa1 (pv 3))))) ?_;refine yh (yd0 (i:=6) (js:=[4,5]) (ys:=["whole","own"]) ĸ.nd rfl rfl rfl (ww (pv 3)) (λC s2 J fp=>(yn wc (yn xf (pv 2) (pv 0)) (pv 1))) rfl rfl (hyc:=(all_cons rfl (all_cons rfl ve))) (hrel:=(all_cons rfl (all_cons rfl ve)))) ?_;refine yh (y7 (i:=7) ĸ.nd rfl (Or.inr rfl) (pcB (yap rfl) T.Vl (pac (yn zz (yji PySem.F.plainAttrs_int PySem.F.slot_int_bit_length PySem.F.type_int_bit_length yqx (pcB (Ò rfl) T.J8 (pa1 (pv 6)))) (vq rfl T.Gh)) (pa1 yf)))) ?_;exists _,(yc (vh (pv 0) (we (js:=[7]) (ys:=["dropped"]) rfl (ww (pv 6)) (λC s2 J fp=>(yn yw7 (pv 0) (pv 1))) rfl rfl (hyc:=(all_cons rfl ve)) (hrel:=(all_cons rfl ve))) rfl)),?_;exists 3,5;have q:I.length=B.length:=by rw[U.len,hc.len]
 ext;exists x,m,rfl,ty,λhx=>?_,k2;let⟨b,rfl,b0,b1⟩:=yeg hx;have k:=k1 b rfl b0 b1;ext;exists l,c,rfl,⟨_,_,SqL.of hl,hq⟩,λD hD=>?_;refine Ķ (λi=>V.int ((B[i]?).getD 0*giv ((I[i]?).getD 0) b)) (SqL.of hl) hq (by rw[bc,bc,q]) hD (λi x y J tt a9 hx O R d S a0=>?_) (λJ R d=>?_)
 .obtain⟨v1,v2,rfl⟩:=yjn a0;let⟨w,rfl,wm,wi,il⟩:=ξ hx;let⟨u,rfl,um,ui,_⟩:=ξ O;have w1:=U.one w wm;have w2:=U.top w wm;have a5:=yea (yx3 hc um);have a4:=yc1 b0 b1;have M:=R.trans (vg (o:=HO.tup [V.int w,V.int u]) S);have X:=ju (o':=HO.tup [V.int w,V.int u]) S d;have W:upd J tt (HO.tup [V.int w,V.int u]) tt=some (.tup [V.int w,V.int u]):=ya;generalize upd J tt (HO.tup [V.int w,V.int u])=H3 at M X W;refine yee (SqT.of W) rfl ?_;show η (x0 0) (η (x0 1) ym6) [V.int w,V.int u] (v1::v2::uw [2] [some (V.ref p),some (V.ref c),some (V.int b),none,none,none,none,none]) H3 _;ext;exists⟨[some (.int w),some (.int u)],rfl,rfl⟩,?_;ext;exists .int u,_,.int b,_,rfl,.int u,.int b,λz=>(by rw[a5]at z;cases z),λF z=>(by rw[a4]at z;cases z),λc' b' ec eb F F=>?_;cases ec;cases eb;ext;refine Mp.doneR hD (vk (by rw[bc,U.len];omega)) (by rw[bc];exact il) M X ?_;rw[wi,ui];rfl
 .have d:J D=some (.lst ((shL B I b).map V.int)):=ydp d (yqc (g:=λw c=>w*giv c b) q);have j:(shL B I b).length=n:=by rw[yci q.symm,U.len]
  have a6:=R _ _ hp;have ek:lrn B I b=(grL (shL B I b)).map λv=>v/2^tOf (grL (shL B I b)).sum:=rfl;rw[ek]at k;generalize shL B I b=L at d j k;have eg:grL L=L.map λs=>31*(n:Int)*s+L.sum:=by rw[<- j];rfl
  ext;exists D,_,rfl,SqL.of d,?_;ext;refine z5 (SqL.of d) ?_;rw[bc,j];ext;exists D,rfl,⟨_,SqL.of d⟩,λG hG=>?_;refine τ (onI λs=>31*(n:Int)*s+L.sum) (SqL.of d) hG (λi y H3 O M f=>?_) (λH3 M f=>?_)
  .obtain⟨s',rfl,_,_,il⟩:=ξ O;show tOp _ _ _ (some (V.int s')::uw [4,5] [some (V.ref p),some (V.ref c),some (V.int b),some (V.ref D),some (V.int L.sum),some (V.int (31*(n:Int))),none,none]) H3 _;ext;exact Mp.done hG (vk (by rw[bc,j];omega)) O M f rfl
  .rw[yif,<- eg]at f;have a1:(grL L).length=n:=by rw[yig,j]
   generalize grL L=N at f k a1;have Y:=M _ _ a6;ext;exists G,_,rfl,SqL.of f,?_;ext;exists _,_,rfl,?_
   have et:(if (0:Int) > ((Builtin.Int.intBits N.sum:Nat):Int)-48 then (0:Int)else ((Builtin.Int.intBits N.sum:Nat):Int)-48)=((tOf N.sum:Nat):Int):=by
    show _=(((ymw N.sum)-48:Nat):Int);have e:Builtin.Int.intBits N.sum=ymw N.sum:=rfl;rw[e]
    split<;>omega
   rw[et];generalize tOf N.sum=t at k;ext;exists G,rfl,⟨_,SqL.of f⟩,λZ hZ=>?_;refine τ (onI λv=>v/2^t) (SqL.of f) hZ (λi y H4 O S4 r=>?_) (λH4 S4 r=>?_)
   .obtain⟨s',rfl,_,_,il⟩:=ξ O;show tOp _ _ _ (some (V.int s')::uw [7] [some (V.ref p),some (V.ref c),some (V.int b),some (V.ref D),some (V.int L.sum),some (V.int (31*(n:Int))),some (V.ref G),some (V.int (t:Int))]) H4 _;ext;refine i_I (Int.natCast_nonneg t) ?_;exact Mp.done hZ (vk (by rw[bc,a1];omega)) O S4 r rfl
   .rw[yif]at r;have a7:=S4 _ _ Y;ext;have nz:Z≠p:=λz=>by rw[z,Y]at hZ;cases hZ
    have a3:=R.trans (M.trans S4);exact k Z _ ((R.trans M).free hZ) ⟨ya,ym nz r⟩ ((But.of a3).trans But.upd)
#synth yzi ["self"] vcl
def ó.sqt{H H':Hp}{p dx lk d:z4}{kd:Fin 3}{f:qi Int->qj Slt}{O:Μ}{m:Nat}(h:ó a H p dx lk d kd f O m)(B:ynb O H H'){t:z4}{xs:Τ}(e:SqT K H t xs):SqT K H' t xs:=by
 have i:∀o:HO,H t=some o->vd0 o=false->H' t=some o:=λo g j=>B _ _ g λz=>by
  let⟨k,c,b⟩:=h.own t z;rw[g]at c;cases c;rw[j]at b;cases b
 rcases e with(e|⟨o,e⟩)|e
 .exact .inl (.inl (i _ e rfl))
 .exact .inl (.inr ⟨o,i _ e rfl⟩)
 .exact .inr e
def ó.up{H:Hp}{p dx lk d:z4}{kd:Fin 3}{f:qi Int->qj Slt}{O:Μ}{m:Nat}(h:ó a H p dx lk d kd f O m)(hm:m<=m'):ó a H p dx lk d kd f O m':=by let⟨b,c,i,e,g⟩:=h.tb;exists h.me,h.own,h.np,h.dO,h.ky,b,c,i,bX e hm,g
def jg.mvT{H H':Hp}{k:z4}{x:V}{ps:Ο}(h:jg K H k x ps)(h1:∀t xs,SqT K H t xs->SqT K H' t xs):jg K H' k x ps:=by let⟨t,d,a,c,b⟩:=h;exists t,h1 _ _ d,h1 _ _ a,c,b
noncomputable def refs(g:Λ)(n:Nat):Τ:=(List.range n).map λi=>V.ref (g i)
def vw(g:Λ)(n:Nat):(refs g n).length=n:=by unfold refs;rw[bc,bP]
def Ð{g:Λ}{n:Nat}{x:V}(h:(refs g n)[i]?=some x):x=.ref (g i)/\i<n:=by
 have a:i<n:=by
  have:=(bL.mp h).1;rw[vw]at this;exact this
 unfold refs at h;rw[bq,cy a]at h;exists(bC h).symm,a
def jp(g:Λ)(n:Nat):refs g (n+1)=refs g n++[.ref (g n)]:=by unfold refs;rw[List.range_succ,bD];rfl
def j6{g h:Λ}{n:Nat}(e:∀i,i<n->g i=h i):refs g n=refs h n:=by unfold refs;exact List.map_congr_left λi a=>by rw[e i (cn.mp a)]
structure Bks(K:z3)(a:Ads)(H:Hp)(n:Nat)(bk dx lk dd:Λ)(kd:Ν)(ps:Κ)(f:Α)(O:Β)(m:Nat):Prop where
 look:∀i,i<n->jg K H (lk i) (.str (kdS (kd i))) (ps i)
 b:∀i,i<n->ó a H (bk i) (dx i) (lk i) (dd i) (kd i) (f i) (O i) m
 dj:∀i j c,i<n->j<n->i≠j->O i c->¬O j c
 nb:∀i j,i<n->j<n->¬O i (bk j)
def AtS(H:Hp)(d:z4)(k:Ο)(q:z4):Prop:=∀kvs,H d=some (.dT kvs)->jl kvs (kI k)=some (.ref q)
def ó.slot{H:Hp}{p dx lk d:z4}{kd:Fin 3}{f:qi Int->qj Slt}{O:Μ}{m:Nat}{k:Ο}{s:Slt}(h:ó a H p dx lk d kd f O m)(hf:f k=some s)(hq:AtS H d k q):∃dq,H q=some (oS a dq s)/\s.ok/\s.kind=kd/\O q:=by let⟨b,r,i,t,u,c,v⟩:=h.tb;let⟨o,n,j,g,l⟩:=c k s hf;have e:=hq b i;rw[o]at e;injection e with e;injection e with e;subst e;exists _,n,j,g,l
def ó.told{H H':Hp}{p dx lk d:z4}{kd:Fin 3}{f:qi Int->qj Slt}{O:Μ}{m:Nat}{k:Ο}{s:Slt}{b:Int}(h:ó a H p dx lk d kd f O m)(hf:f k=some s)(hq:AtS H d k q)(b0:0<=b)(b1:b<=1)
  (h3:H' q=some (oS a dq (s.see b))) (B:But q H H'):ó a H' p dx lk d kd (ź f k (s.see b)) O m:=by
 have x:=h.me;let⟨r,l,u,h2,F,G,K⟩:=id h.tb;let⟨I,L,q3,R,J⟩:=G k s hf;have e:=hq r u;rw[I]at e;injection e with e;injection e with e;have A:p≠q:=λz=>h.np (by rw[z,<- e];exact J)
 have v:d≠q:=λz=>by
  let⟨C,X,D⟩:=Ĺ a (l k).2 s;rw[e,<- z,u,D]at L;cases L
 exists B _ _ x A,λc hc=>?_,h.np,h.dO,h.ky.mv u (B _ _ u v),r,λj=>if j=k then (q,dq)else l j,B _ _ u v,h2,λj i=>?_,λj n i=>?_,λE y Q s2 e1 M W=>?_
 .obtain⟨o,Z,T⟩:=h.own c hc;by_cases z:c=q
  .rw[z];let⟨C,X,D⟩:=Ĺ a dq (s.see b);exists _,h3,by rw[D];rfl
  .exists o,B _ _ Z z,T
 .refine F j ?_;unfold ź at i
  split at i
  .cases i
  .exact i
 .unfold ź at i;by_cases z:j=k
  .rw[if_pos z]at i;cases i;subst z;dsimp only;rw[if_pos rfl];exists by rw[I,e],h3,Slt.see_ok q3 b0 b1,(ykv s b).trans R,e ▸ J
  .rw[if_neg z]at i;let⟨Y,p2,p3,p4,U⟩:=G j n i;dsimp only;rw[if_neg z];exists Y,B _ _ p2 (λw=>z (K j k n s i hf (w.trans e.symm))),p3,p4,U
 .have g:∀j n,ź f k (s.see b) j=some n->∃t,f j=some t:=λj n h=>by
   unfold ź at h;by_cases z:j=k
   .exists s,by rw[z];exact hf
   .rw[if_neg z]at h;exists n,h
  let⟨t1,N⟩:=g E Q e1;let⟨P,S⟩:=g y s2 M;refine K E y t1 P N S ?_
  have yqg:∀j,(if j=k then ((q,dq):z4×z4)else l j).1=(l j).1:=λj=>by
   by_cases z:j=k
   .rw[if_pos z,z];exact e.symm
   .rw[if_neg z]
  rw[<- yqg E,<- yqg y];exact W
def AtS.told{H H':Hp}{p dx lk d:z4}{kd:Fin 3}{f:qi Int->qj Slt}{O:Μ}{m:Nat}{k:Ο}(h:ó a H p dx lk d kd f O m){r:z4}(hd:d≠r)(B:But r H H')(hq:AtS H d k q):AtS H' d k q:=λg e=>by
 let⟨c,i,b,_⟩:=h.tb;rw[B _ _ b hd]at e;cases e;exact hq _ b
section
variable{H H':Hp}{n m:Nat}{bk dx lk dd:Λ}{kd:Ν}{ps:Κ}{f:Α}
theorem Bks.frame(h:Bks K a H n bk dx lk dd kd ps f O m){O2:Μ}(B:ynb O2 H H')(dj:∀i b,i<n->O i b->¬O2 b)(hp:∀i,i<n->¬O2 (bk i))(ht:∀t xs,SqT K H t xs->SqT K H' t xs):Bks K a H' n bk dx lk dd kd ps f O m :=
 ⟨λi c=>(h.look i c).mvT ht,λi c=>(h.b i c).frame B (λb d=>dj i b c d) (hp i c),h.dj,h.nb⟩
def Bks.same(h:Bks K a H n bk dx lk dd kd ps f O m)(S:yv H H'):Bks K a H' n bk dx lk dd kd ps f O m :=
 h.frame (O2:=λZ=>False) (λb o e Z=>S b o e) (λZ Z Z Z z=>z) (λZ Z z=>z) λZ Z e=>S.tup e
def Bks.move(h:Bks K a H n bk dx lk dd kd ps f O m)(hj:j<n){f':qi Int->qj Slt}{O':Μ}(hm:m<=m')(hb:ó a H' (bk j) (dx j) (lk j) (dd j) (kd j) f' O' m')(hO:∀c,O' c->O j c\/H c=none)(B:ynb (O j) H H'):
  Bks K a H' n bk dx lk dd kd ps (λi=>if i=j then f' else f i) (λi=>if i=j then O' else O i) m':=by
 have y:=h.b j hj
 have g:∀q c,q<n->q≠j->O q c->¬O' c:=λq c C A w E=>by
  rcases hO c E with v|v
  .exact h.dj q j c C hj A w v
  .obtain⟨o,D,_⟩:=(h.b q C).own c w;rw[v]at D;cases D
 exists λi d=>(h.look i d).mvT λt F e=>y.sqt B e,λi d=>?_,λi l c d p s r k=>?_,λi l d p e=>?_
 .try dsimp only
  by_cases z:i=j
  .subst z;rw[if_pos rfl,if_pos rfl];exact hb
  .rw[if_neg z,if_neg z];exact((h.b i d).frame B (λb x=>h.dj i j b d hj z x) (h.nb j i hj d)).up hm
 .try dsimp only at r k
  by_cases z1:i=j
  .rw[if_pos z1]at r;have u:l≠j:=λw=>s (z1.trans w.symm);rw[if_neg u]at k;exact g l c p u k r
  .rw[if_neg z1]at r;by_cases u:l=j
   .rw[if_pos u]at k;exact g i c d z1 r k
   .rw[if_neg u]at k;exact h.dj i l c d p s r k
 .try dsimp only at e
  by_cases z:i=j
  .rw[if_pos z]at e;rcases hO _ e with v|v
   .exact h.nb j l hj p v
   .rw[(h.b l p).me]at v;cases v
  .rw[if_neg z]at e;exact h.nb i l d p e
def AtS.move(h:Bks K a H n bk dx lk dd kd ps f O m)(hi:i<n)(hj:j<n)(hij:i≠j)(B:ynb (O j) H H'){k:Ο}(hq:AtS H (dd i) k q):AtS H' (dd i) k q:=λg e=>by
 let⟨d,l,c,_⟩:=(h.b i hi).tb;rw[B _ _ c (h.dj i j _ hi hj hij (h.b i hi).dO)]at e;cases e;exact hq _ c
def Bks.nlst(h:Bks K a H n bk dx lk dd kd ps f O m){l:z4}{xs:Τ}(hl:H l=some (.lst xs)):∀i,i<n->¬O i l:=λi e z=>by
 let⟨o,d,c⟩:=(h.b i e).own l z;rw[hl]at d;cases d;cases c
end
def ync(n:Nat)(kd:Ν)(f:Α)(g:Nat->qi Int->Slt):Prop:=∀i,i<n->∀k,(f i k).getD (kd0 (kd i))=g i k
def ync.put{n:Nat}{kd:Ν}{f:Α}{g:Nat->qi Int->Slt}(h:ync n kd f g)(j:Nat)(hj:j<n)(k:Ο):ync n kd (λi=>if i=j then ź (f j) k ((f j k).getD (kd0 (kd j)))else f i) g:=λi a b=>by
 dsimp only;by_cases z:i=j
 .subst z;rw[if_pos rfl];unfold ź;by_cases w:b=k
  .rw[if_pos w,w];exact h i a k
  .rw[if_neg w];exact h i a b
 .rw[if_neg z];exact h i a b
inductive yfw(K:z3)(a:Ads)(vs:Τ)(H:Hp)(Q:VK)(E':XK):Prop
 | mk(p dp ll bl mp el pl0:z4)(nd:Int)(sg:Ο)(n m:Nat)(bk dx lk dd:Λ)(kd:Ν)(ps:Κ)(f:Α)(O:Β)(g:Nat->qi Int->Slt)(_:vs=[.ref p])(_:H p=some (.ins a.Ab dp (ĝ (.ref ll) (.ref bl) (.ref mp) (.ref el) (.int nd) (.ref pl0))))(_:H bl=some (.lst (refs bk n)))(_:H el=some (.lst (sg.map V.int)))(_:Bks K a H n bk dx lk dd kd ps f O m)(_:ync n kd f g)(_:n<=6)(_:m+10<1000000)(_:(∀i,i<n->¬O i p))(_:∀(pl:z4)(sl:Λ)(f':Α)(O':Β)(H':Hp),H' p=some (.ins a.Ab dp (ĝ (.ref ll) (.ref bl) (.ref mp) (.ref el) (.int nd) (.ref pl)))->H' pl=some (.lst (refs sl n))->H pl=none ->
  Bks K a H' n bk dx lk dd kd ps f' O' (m+n)->ync n kd f' g->(∀j,j<n->(∃s,f' j (ctx (ps j) sg nd)=some s)/\AtS H' (dd j) (ctx (ps j) sg nd) (sl j))->(∀j c,j<n->O' j c->O j c\/H c=none) ->
  (∀c o,H c=some o->c≠p->(∀j,j<n->¬O j c)->H' c=some o)->(∀c o,H c=some o->∃o',H' c=some o')->Q .non H')
def yni(T:Txt K mg a):vn P w K mg Γ CX0 5 a.Pi a.Sh ["self"] (yfw K a):=by
 exists T.Ih.F.ok,yzi,hr;let⟨p,dp,ll,bl,mp,el,a8,L,S,n,m,bk,dx,lk,Z,kd,R,f,O,g,rfl,hp,U,a2,hB,hA,n6,hm,np,k⟩:=h;exists 1,0,yc (vh (pv 0) (we (js:=[0]) (ys:=["self"]) rfl (ww (yr (pv 0) rfl)) (λC s2 H2 fp=>(xj (pv 0) T.Du T.Mt.m (yzz T) hr.m T.Mt.B .nil wl (pac (yct (K:=K) rfl (pv 1) rfl) (pa1 (yct (K:=K) rfl (pv 1) rfl))))) rfl rfl (hyc:=(all_cons rfl ve)) (hrel:=(all_cons rfl ve))) rfl);exists bl,rfl,⟨_,SqL.of U⟩,λD M=>?_;have aa:=hB.nlst U;have ab:=hB.nlst a2;refine Į (K:=K) (xs:=refs bk n) (λi G=>∃(y:Λ)(N:Α)(J:Β),G D=some (.lst (refs y i))/\Bks K a G n bk dx lk Z kd R N J (m+i)/\ync n kd N g/\(∀j,j<i->(∃s,N j (ctx (R j) S L)=some s)/\AtS G (Z j) (ctx (R j) S L) (y j))/\
  (∀j c,j<n->J j c->O j c\/H c=none)/\(∀c o,H c=some o->(∀j,j<n->¬O j c)->G c=some o)/\(∀c o,H c=some o->∃o',G c=some o'))
  ⟨λF=>0,f,O,ya,hB.same (vg M),hA,λj d=>absurd d (ce j),λj c F z=>.inl z,λc o e F=>ju M e,λc o e=>⟨o,ju M e⟩⟩ (λi G F z=>?_) (λi x G hx hi z=>?_) (λG z=>?_)
 .obtain⟨_,_,_,_,_,_,_,_,w,_⟩:=z;exact SqL.of (w _ _ U aa)
 .obtain⟨y,N,J,gD,r,gA,gS,Y,gF,gL⟩:=z;let⟨rfl,l⟩:=Ð hx;have I:=gF _ _ hp np;have a7:=gF _ _ a2 ab;have ah:=(r.b i l).me;show yda _ _ _ _ _ _ _ (some (V.ref (bk i))::uw [0] [some (V.ref p)]) G _;ext;exists bk i,dx i,lk i,Z i,el,kd i,N i,J i,m+i,R i,S,L,rfl,r.b i l,(),r.look i l,SqL.of a7,λq O2 G2 a0 hv a1 ac B2=>?_
  have nD:=r.nlst gD;have u:G2 D=some (.lst (refs y i)):=B2 _ _ gD (nD i l);refine zy (n:=(refs bk n).length) u (vk (by rw[vw];omega)) hi ?_;have M2:=r.move l (Nat.le_succ (m+i)) a0 a1 B2;have a5:=M2.nlst u;have W:∀c o,G2 c=some o->c≠D->upd G2 D (.lst (refs y i++[V.ref q])) c=some o:=λc o e X=>ym X e
  have M3:=M2.frame (O2:=λc=>c=D) (λc o e X=>W c o e X) (λj c d w z=>a5 j d (z ▸ w)) (λj d z=>by
   have:=(M2.b j d).me;rw[z,u]at this
   cases this) (λt xs e=>by
   rcases e with(e|⟨o,e⟩)|e
   .exact .inl (.inl (W _ _ e (λz=>by rw[z,u]at e;cases e)))
   .exact .inl (.inr ⟨o,W _ _ e (λz=>by rw[z,u]at e;cases e)⟩)
   .exact .inr e)
  have up:∀j,j<n->AtS G2 (Z j) (ctx (R j) S L) (if j=i then q else y j)->AtS (upd G2 D (.lst (refs y i++[V.ref q]))) (Z j) (ctx (R j) S L) (if j=i then q else y j):=λj d h =>
   h.told (M2.b j d) (λz=>a5 j d (by rw[<- z];exact(M2.b j d).dO)) (λc o e X=>W c o e X)
  exists λj=>if j=i then q else y j,_,_,?_,M3,gA.put i l _,λj d=>?_,λj c d w=>?_,λc o e no=>?_,λc o e=>?_
  .rw[ya,jp,if_pos rfl]
   congr 3
   exact j6 λj d=>(if_neg ()).symm
  .by_cases z:j=i
   .subst z;exists⟨(N j (ctx (R j) S L)).getD (kd0 (kd j)),?_⟩,up j l ?_
    .try dsimp only
     rw[if_pos rfl];unfold ź;rw[if_pos rfl]
    .rw[if_pos rfl];exact hv
   .have a4:j<n:=()
    let⟨⟨s',af⟩,a9⟩:=gS j ();exists⟨s',?_⟩,up j a4 ?_
    .try dsimp only
     rw[if_neg z];exact af
    .rw[if_neg z];exact a9.move r a4 l z B2
  .try dsimp only at w
   by_cases z:j=i
   .subst z;rw[if_pos rfl]at w;rcases a1 c w with v|v
    .exact Y j c d v
    .refine .inr ?_
     cases e:H c with
     |none=>rfl
     |some o =>
      let⟨o',w'⟩:=gL c o e;rw[w']at v;cases v
   .rw[if_neg z]at w;exact Y j c d w
  .have hG:=gF c o e no
   have nc:¬J i c:=λw=>by
    rcases Y i c l w with v|v
    .exact no i l v
    .rw[e]at v;cases v
   refine W _ _ (B2 _ _ hG nc) (λz=>?_);rw[z,M]at e;cases e
  .obtain⟨o1,w1⟩:=gL c o e;have a3:c≠D:=λz=>by rw[z,M]at e;cases e
   by_cases w2:J i c
   .obtain⟨o2,ad,_⟩:=a0.own c (ac c w2);exists o2,W _ _ ad a3
   .exists o1,W _ _ (B2 _ _ w1 w2) a3
 .obtain⟨y,N,J,gD,r,gA,gS,Y,gF,gL⟩:=z;rw[vw]at gD r gS;have I:=gF _ _ hp np;ext;have ae:D≠p:=λz=>by rw[z,hp]at M;cases M
  have BP:But p G (upd G p (.ins a.Ab dp (ĝ (.ref ll) (.ref bl) (.ref mp) (.ref el) (.int L) (.ref D)))):=But.upd
  have a6:∀i,i<n->¬J i p:=λi hi w=>by
   rcases Y i p hi w with v|v
   .exact np i hi v
   .rw[hp]at v;cases v
  have M3:=r.frame (O2:=λc=>c=p) (λc o e X=>BP c o e X) (λj c d w z=>a6 j d (z ▸ w)) (λj d z=>by
   have:=(r.b j d).me;rw[z,I]at this;injection this with this;injection this with _ _ e
   exact absurd (congrArg List.length e) (show ¬(6=2) by decide)) (λt xs e=>by
   rcases e with(e|⟨o,e⟩)|e
   .exact .inl (.inl (BP _ _ e (λz=>by rw[z,I]at e;cases e)))
   .exact .inl (.inr ⟨o,BP _ _ e (λz=>by rw[z,I]at e;cases e)⟩)
   .exact .inr e)
  refine k D y N J _ ya (ym ae gD) M M3 gA (λj d=>⟨(gS j d).1,(gS j d).2.told (r.b j d) (λz=>a6 j d (by rw[<- z];exact(r.b j d).dO)) BP⟩) Y (λc o e nc no=>BP _ _ (gF c o e no) nc) λc o e=>?_;by_cases zc:c=p
  .rw[zc];exists _,ya
  .obtain⟨o1,w1⟩:=gL c o e;exists o1,BP _ _ w1 zc
structure FA where
 dp:z4
 ll:z4
 bl:z4
 mp:z4
 mx:z4
 ml:z4
 el:z4
 pl:z4
 n:Nat
 bk:Λ
 dx:Λ
 lk:Λ
 dd:Λ
 sl:Λ
 kd:Ν
 ps:Κ
structure FX where
 g:Nat->qi Int->Slt
 ws:Ο
 sg:Ο
 nd:Int
def FX.key(X:FX)(A:FA)(i:Nat):Ο:=ctx (A.ps i) X.sg X.nd
noncomputable def FX.cs(X:FX)(A:FA):Ο:=(List.range A.n).map λi=>(X.g i (X.key A i)).due
noncomputable def ndN(nd b:Int):Int:=if 0<nd then (if 256<=2*nd+b then 0 else 2*nd+b)else if b=1 then 1 else nd
noncomputable def sgN(sg:Ο)(nd b:Int):Ο:=if 0<nd then (if 256<=2*nd+b then sg++[2*nd+b-256]else sg)else if b=1 then sg else []
def FX.see(X:FX)(A:FA)(b:Int):FX:={ g:=λi k=>if k=X.key A i then (X.g i k).see b else X.g i k,ws:=lrn X.ws (X.cs A) b,sg:=sgN X.sg X.nd b,nd:=ndN X.nd b}
structure jj(K:z3)(a:Ads)(H:Hp)(p:z4)(A:FA)(X:FX)(f:Α)(O:Β)(m:Nat):Prop where
 me:H p=some (.ins a.Ab A.dp (ĝ (.ref A.ll) (.ref A.bl) (.ref A.mp) (.ref A.el) (.int X.nd) (.ref A.pl)))
 bl:H A.bl=some (.lst (refs A.bk A.n))
 el:H A.el=some (.lst (X.sg.map V.int))
 mx:yj8 a A.mp A.mx A.ml X.ws H
 wok:WOk A.n X.ws
 pl:H A.pl=some (.lst (refs A.sl A.n))
 B:Bks K a H A.n A.bk A.dx A.lk A.dd A.kd A.ps f O m
 ag:ync A.n A.kd f X.g
 at':∀j,j<A.n->(∃s,f j (X.key A j)=some s)/\AtS H (A.dd j) (X.key A j) (A.sl j)
 np:∀i,i<A.n->¬O i p
 nm:∀i,i<A.n->¬O i A.mp
 n1:1<=A.n
 n6:A.n<=6
theorem jj.same{H H':Hp}{p:z4}{A:FA}{X:FX}{f:Α}{m:Nat}(h:jj K a H p A X f O m)(S:yv H H'):jj K a H' p A X f O m :=
 ⟨S _ _ h.me,S _ _ h.bl,S _ _ h.el,h.mx.same S,h.wok,S _ _ h.pl,h.B.same S,h.ag,λj c=>⟨(h.at' j c).1,λi e=>by
  let⟨d,k,g,_⟩:=(h.B.b j c).tb;rw[S _ _ g]at e;cases e;exact(h.at' j c).2 _ g⟩,h.np,h.nm,h.n1,h.n6⟩
theorem jj.slot{H:Hp}{p:z4}{A:FA}{X:FX}{f:Α}{m:Nat}(h:jj K a H p A X f O m)(hj:j<A.n):
  f j (X.key A j)=some (X.g j (X.key A j))/\(∃dq,H (A.sl j)=some (oS a dq (X.g j (X.key A j))))/\(X.g j (X.key A j)).ok/\O j (A.sl j):=by let⟨⟨s,c⟩,d⟩:=h.at' j hj;have e:=h.ag j hj (X.key A j);rw[c]at e;have e:s=X.g j (X.key A j):=e;rw[<- e];let⟨dq,l,i,o,k⟩:=(h.B.b j hj).slot c d;exists c,⟨dq,l⟩,i,k
def jj.cok{H:Hp}{p:z4}{A:FA}{X:FX}{f:Α}{m:Nat}(h:jj K a H p A X f O m):COk A.n (X.cs A):=by
 exists by unfold FX.cs;rw[bc,bP],λc b=>?_,λc b=>?_
 .obtain⟨j,d,rfl⟩:=bn.mp b;exact(ye0 (h.slot (cn.mp d)).2.2.1).1
 .obtain⟨j,d,rfl⟩:=bn.mp b;exact(ye0 (h.slot (cn.mp d)).2.2.1).2
def LkG.at'{H:Hp}{lk tp:z4}{kd:Fin 3}{ps:Ο}(h:LkG H (.ref lk) kd tp ps):jg K H lk (.str (kdS kd)) ps:=by
 let⟨c,e,f,b,a⟩:=h;cases e;have a:=a;unfold ur at a;rw[bJ,bJ,List.all_eq_true]at a;exists tp,SqT.of f,SqT.of b,λp d=>?_,by have:=of_decide_eq_true a.1.1;rw[bc]at this;exact this
 have w:=a.1.2 (.int p) (bn.mpr ⟨p,d,rfl⟩);have w:(decide (1<=p) && decide (p<=8))=true:=w;rw[bJ]at w;exists of_decide_eq_true w.1,of_decide_eq_true w.2
def Bks.snoc{H:Hp}{n m:Nat}{bk dx lk dd:Λ}{kd:Ν}{ps:Κ}{f:Α}(h:Bks K a H n bk dx lk dd kd ps f O m)
  (hl:jg K H (lk n) (.str (kdS (kd n))) (ps n)) {q dq d:z4} {f':qi Int->qj Slt} {O':Μ} (hb:ó a H q dq (lk n) d (kd n) f' O' m) (dj:∀j c,j<n->O j c->¬O' c) (n1:∀j,j<n->¬O j q) (n2:∀j,j<n->¬O' (bk j)):
  Bks K a H (n+1) (upN bk n q) (upN dx n dq) lk (upN dd n d) kd ps (upN f n f') (upN O n O') m:=by
 exists λi p=>?_,λi p=>?_,λi j c p s r o l=>?_,λi j p s e=>?_
 .by_cases z:i=n
  .rw[z];exact hl
  .exact h.look i ()
 .by_cases z:i=n
  .subst z;rw[xv,xv,xv,xv,xv];exact hb
  .have g:i<n:=()
   rw[xt g,xt g,xt g,xt g,xt g];exact h.b i g
 .by_cases z:i=n
  .subst z;have k:j<i:=()
   rw[xv]at o;rw[xt k]at l;exact dj j c k l o
  .have g:i<n:=()
   rw[xt g]at o;by_cases w:j=n
   .subst w;rw[xv]at l;exact dj i c g o l
   .have k:j<n:=()
    rw[xt k]at l;exact h.dj i j c g k r o l
 .by_cases z:i=n
  .subst z;rw[xv]at e;by_cases w:j=i
   .subst w;rw[xv]at e;exact hb.np e
   .have k:j<i:=()
    rw[xt k]at e;exact n2 j k e
  .have g:i<n:=()
   rw[xt g]at e;by_cases w:j=n
   .subst w;rw[xv]at e;exact n1 i g e
   .have k:j<n:=()
    rw[xt k]at e;exact h.nb i j g k e
def ym4(K:z3)(a:Ads)(H G:Hp)(n:Nat)(bk dx lk dd:Λ)(kd:Ν)(ps:Κ)(f:Α)(O:Β):Prop :=
 Bks K a G n bk dx lk dd kd ps f O 0/\(∀j k,j<n->f j k=none)/\(∀j c,j<n->O j c->H c=none)/\(∀j,j<n->H (bk j)=none)
def ym4.zero{H G:Hp}{bk dx lk dd:Λ}{kd:Ν}{ps:Κ}{f:Α}:ym4 K a H G 0 bk dx lk dd kd ps f O :=
 ⟨⟨λi b=>absurd b (ce i),λi b=>absurd b (ce i),λi Z Z b=>absurd b (ce i),λi Z b=>absurd b (ce i)⟩,λi Z b=>absurd b (ce i),λi Z b=>absurd b (ce i),λi b=>absurd b (ce i)⟩
def ym4.next{H G G2:Hp}{n:Nat}{bk dx lk dd:Λ}{kd:Ν}{ps:Κ}{f:Α}(h:ym4 K a H G n bk dx lk dd kd ps f O)(hl:jg K G (lk n) (.str (kdS (kd n))) (ps n))
  (S:yv H G) {q dq d D:z4} {xs ys:Τ} (hq:G q=none) (hd:G d=none) (S2:yv G G2) (hb:ó a G2 q dq (lk n) d (kd n) (λZ=>none) (λb=>b=d) 0) (hD:G D=some (.lst xs)):
  ym4 K a H (upd G2 D (.lst ys)) (n+1) (upN bk n q) (upN dx n dq) lk (upN dd n d) kd ps (upN f n λZ=>none) (upN O n λb=>b=d):=by
 let⟨p,x,u,v⟩:=h;have l:∀j c,j<n->O j c->∃o,G c=some o:=λj c g w=>let ⟨o,m,_⟩:=(p.b j g).own c w;⟨o,m⟩
 have M:=(p.same S2).snoc (hl.same S2) hb (λj c g w z=>by
  let⟨o,m⟩:=l j c g w;rw[show c=d from z,hd]at m
  cases m) (λj g w=>by
  let⟨o,m⟩:=l j q g w;rw[hq]at m
  cases m) (λj g z=>by
  have e:=(p.b j g).me;rw[show bk j=d from z,hd]at e;cases e)
 have i:=S2 _ _ hD;have y:=M.nlst i;have s:∀c o,G2 c=some o->c≠D->upd G2 D (.lst ys) c=some o:=λc o e r=>ym r e;exists M.frame (O2:=λc=>c=D) (λc o e r=>s c o e r) (λj c g w z=>y j g (z ▸ w)) (λj g z=>?_) (λt xs e=>?_),λj k g=>?_,λj c g w=>?_,λj g=>?_
 .have e:=(M.b j g).me;rw[z,i]at e;cases e
 .rcases e with(e|⟨o,e⟩)|e
  .exact .inl (.inl (s _ _ e (λz=>by rw[z,i]at e;cases e)))
  .exact .inl (.inr ⟨o,s _ _ e (λz=>by rw[z,i]at e;cases e)⟩)
  .exact .inr e
 .by_cases z:j=n
  .rw[z,xv]
  .rw[xt ()];exact x j k ()
 .by_cases z:j=n
  .rw[z,xv]at w;rw[show c=d from w];exact S.free hd
  .rw[xt ()]at w;exact u j c () w
 .by_cases z:j=n
  .rw[z,xv];exact S.free hq
  .rw[xt ()];exact v j ()
def ym4.ag{H G:Hp}{n:Nat}{bk dx lk dd:Λ}{kd:Ν}{ps:Κ}{f:Α}(h:ym4 K a H G n bk dx lk dd kd ps f O):ync n kd f (λi Z=>kd0 (kd i)):=λi b k=>by
 rw[h.2.1 i k b];rfl
def FX0(n:Nat)(kd:Ν):FX:={ g:=λi Z=>kd0 (kd i),ws:=List.replicate n 1099511627776,sg:=[],nd:=0}
def ykm{g:Λ}{n:Nat}{x:V}(h:x∈refs g n):∃i,i<n/\x=.ref (g i):=by unfold refs at h;let⟨i,a,e⟩:=bn.mp h;exists i,cn.mp a,e.symm
def xx.lks{H:Hp}{n:Nat}{lk:Λ}{kd:Ν}{ps:Κ}(h:xx H n lk kd tp ps):Lks H (refs lk n):=λy a=>by
 let⟨i,b,rfl⟩:=ykm a;exists _,_,_,h i b
theorem jj.frame{H H':Hp}{p:z4}{A:FA}{X:FX}{f:Α}{m:Nat}(h:jj K a H p A X f O m){O2:Μ}(B:ynb O2 H H')(hp:¬O2 p)(hm:¬O2 A.mp)(hb:∀i,i<A.n->¬O2 (A.bk i))
  (dj:∀i c,i<A.n->O i c->¬O2 c) (hl:∀l xs,(l=A.bl\/l=A.el\/l=A.ml\/l=A.pl)->H l=some (.lst xs)->H' l=some (.lst xs)) (ht:∀t xs,SqT K H t xs->SqT K H' t xs):jj K a H' p A X f O m :=
 ⟨B _ _ h.me hp,hl _ _ (.inl rfl) h.bl,hl _ _ (.inr (.inl rfl)) h.el,⟨B _ _ h.mx.o hm,hl _ _ (.inr (.inr (.inl rfl))) h.mx.l⟩,h.wok,hl _ _ (.inr (.inr (.inr rfl))) h.pl,h.B.frame B (λi c q w=>dj i c q w) hb ht,h.ag,λj d=>⟨(h.at' j d).1,λr e=>by
  let⟨g,s,k,_⟩:=(h.B.b j d).tb;rw[B _ _ k (dj j _ d (h.B.b j d).dO)]at e;cases e;exact(h.at' j d).2 _ k⟩,h.np,h.nm,h.n1,h.n6⟩
def yr4{G:Hp}{t c:z4}{xs ys zs:Τ}(hc:G c=some (.lst ys))(e:SqT K G t xs):SqT K (upd G c (.lst zs)) t xs:=by
 rcases e with(e|⟨o,e⟩)|e
 .exact .inl (.inl (ym (xr e hc (by intro z;cases z)) e))
 .exact .inl (.inr ⟨o,ym (xr e hc (by intro z;cases z)) e⟩)
 .exact .inr e
def jj.app{H:Hp}{p R:z4}{A:FA}{X:FX}{f:Α}{m:Nat}{xs ys:Τ}(h:jj K a H p A X f O m)(hR:H R=some (.lst xs))(hq:∀q,(q=A.bl\/q=A.el\/q=A.ml\/q=A.pl)->q≠R):jj K a (upd H R (.lst ys)) p A X f O m:=by
 refine h.frame (O2:=λc=>c=R) (λc o e g=>ym g e) (λz=>?_) (λz=>?_) (λi d z=>?_) (λi c d w z=>h.B.nlst hR i d (z ▸ w)) (λl xs w e=>ym (hq l w) e) (λt xs e=>yr4 hR e)
 .have e:=h.me;rw[z,hR]at e;cases e
 .have e:=h.mx.o;rw[z,hR]at e;cases e
 .have e:=(h.B.b i d).me;rw[z,hR]at e;cases e
def vcb(n:Nat)(n1:1<=n)(n6:n<=6):WOk n (List.replicate n 1099511627776):=by refine⟨cG,λw h=>?_,λw h=>?_⟩<;>(rw[cH h];decide)
#synth yzo ["self","looks"] vc1
structure vhq(K:z3)(a:Ads)(H H':Hp)(p:z4)(n:Nat)(lk:Λ)(kd:Ν)(ps:Κ)(A:FA)(f:Α)(O:Β):Prop where
 ft:jj K a H' p A (FX0 n kd) f O 6
 en:A.n=n
 elk:A.lk=lk
 ekd:A.kd=kd
 eps:A.ps=ps
 oO:∀j c,j<n->O j c->H c=none
 oB:∀j,j<n->H (A.bk j)=none
 oM:H A.mp=none
 oL:∀l,(l=A.bl\/l=A.el\/l=A.ml\/l=A.pl)->H l=none
 lo:H' A.ll=some (.lst (refs lk n))/\A.ll≠A.el/\H A.ll=none
inductive yd4(K:z3)(a:Ads)(vs:Τ)(H:Hp)(Q:VK)(E:XK):Prop
 | mk(p dp:z4)(x:V)(_:vs=[.ref p,x])(_:H p=some (.ins a.Ab dp []))(_:((vhn K H x/\∀H',yv H H'->E (.ref a.Bx) none H')\/∃(l:z4)(n:Nat)(lk:Λ)(kd:Ν)(tp:Λ)(ps:Κ),x=.ref l/\H l=some (.lst (refs lk n))/\1<=n/\n<=6/\xx H n lk kd tp ps/\
  ∀A f O H',vhq K a H H' p n lk kd ps A f O->But p H H'->Q .non H'))
def ywc(T:Txt K mg a):vn P w K mg Γ (CXe P w) 6 a.Kx a.Sg ["self","looks"] (yd4 K a):=by
 exists T.Uw.F.okE,yzo,hr;let⟨p,f,x,rfl,hp,h⟩:=h;refine yh (vh (pv 0) (uf (yom T) hr.m T.Ms yt (pa1 (pv 1))) rfl) ?_;refine yh (vh (pv 0) (we (js:=[]) (ys:=[]) rfl (ww (yr (pv 0) rfl)) (λC s2 H2 fp=>(ų T.Vs (vac T) hr.m rfl T.Vr T.Uu.B .nil wl (pa1 (pv 0)))) rfl rfl (hyc:=ve) (hrel:=ve)) rfl) ?_;refine yh (vh (pv 0) (ų T.Xg (vah T) hr.m rfl T.Xf T.Uv.B .nil wl (pa1 (pcB yw T.Af (pa1 (yr (pv 0) rfl))))) rfl) ?_;refine yh (vh (pv 0) (vj za) rfl) ?_;refine yh (vh (pv 0) yf rfl) ?_;refine yh (vh (pv 0) (vj za) rfl) ?_;exists 2,0,yc (y6 (wb (pv 0) T.Aq T.Ih.m (yni T) hr.m T.Ih.B .nil wl));rcases h with⟨hb,k⟩|⟨l,n,lk,kd,tp,ps,rfl,hl,n1,n6,au,k⟩
 .rcases hb with⟨nm,ty,hn⟩|⟨l,xs,bs,rfl,hl,hz,aM,no⟩
  .exact .inl ⟨x,nm,rfl,ty,hn,k _ (yv.refl _)⟩
  .exact .inr ⟨l,xs,bs,rfl,hl,hz,aM,λz=>absurd z no,λF H' S=>k _ S⟩
 .refine .inr ⟨l,refs lk n,List.replicate (refs lk n).length true,rfl,hl,by rw[vw];omega,au.lks.bs,λF g H1 aj ax S1=>?_,λno=>absurd ⟨by rw[vw];exact n1,by rw[vw];exact n6,ycn _⟩ no⟩;have aY:=S1 _ _ hp;have aW:=au.same S1;ext;have W:upd H1 p (HO.ins a.Ab f ([("looks",V.ref g)]:Ι)) p=some (HO.ins a.Ab f ([("looks",V.ref g)]:Ι)):=ya;have BA:But p H1 (upd H1 p (HO.ins a.Ab f ([("looks",V.ref g)]:Ι))):=But.upd;have a2:g≠p:=(yb hp aj).symm;have I:upd H1 p (HO.ins a.Ab f ([("looks",V.ref g)]:Ι)) g=some (.lst (refs lk n)):=ym a2 ax;generalize upd H1 p (HO.ins a.Ab f ([("looks",V.ref g)]:Ι))=HA at W BA I⊢;have a4:But p H HA:=(But.of S1).trans BA
  have aK:xx HA n lk kd tp ps:=λi hi=>by
   let⟨q,e,h1,h2,h3⟩:=au i hi;exists q,e,a4 _ _ h1 (xr h1 hp (by intro z;cases z)),a4 _ _ h2 (xr h2 hp (by intro z;cases z)),h3
  exists p,_,f,_,_,rfl,W,T.Aq,T.Cv,rfl,?_;exists g,rfl,⟨_,SqL.of I⟩,λu Y=>?_;refine jo (K:=K) (xs:=refs lk n) (λi G=>∃(bk dx dd:Λ)(f2:Α)(O2:Β),G u=some (.lst (refs bk i))/\ym4 K a HA G i bk dx lk dd kd ps f2 O2/\yv HA G)
   ⟨λF=>0,λF=>0,λF=>0,λF F=>none,λF F=>False,ya,ym4.zero,vg Y⟩ (λi G F z=>?_) (λi y G hy hi z=>?_) (λG z=>?_)
  .obtain⟨_,_,_,_,_,_,_,SG⟩:=z;exact SqL.of (SG _ _ I)
  .obtain⟨bk,dx,dd,f2,O2,aa,gN,SG⟩:=z;let⟨rfl,aS⟩:=Ð hy;ext;intro q dq nq aT b1;have SQ:yv G (upd (upd G dq (.own q)) q (.ins a.Ap dq [])):=λb o e=>by rw[yq (yb e nq),yq (yb e aT)];exact e
   exists q,dq,lk i,kd i,rfl,ya,λd G2 aH aJ B2=>⟨rfl,?_⟩;have aq:yv G G2:=λb o e=>B2 b o (SQ b o e) (yb e nq);refine zy (n:=(refs lk n).length) (aq _ _ aa) (vk (by rw[vw];omega)) hi ?_;exists _,_,_,_,_,?_,gN.next ((aK i aS).same SG).at' SG nq (SQ.free aH) aq aJ aa,λb o e=>ym (yb e Y) (aq _ _ (SG b o e));rw[ya,jp,xv]
   congr 3
   exact j6 λj r=>(xt r).symm
  let⟨bk,dx,dd,f2,O2,aa,gN,SG⟩:=z;rw[vw]at aa gN;have aC:=SG _ _ W;ext;have az:∀c o,HA c=some o->c≠p->upd G p (HO.ins a.Ab f ([("looks",V.ref g),("books",V.ref u)]:Ι)) c=some o:=λc o e J=>ym J (SG _ _ e);have a7:upd G p (HO.ins a.Ab f ([("looks",V.ref g),("books",V.ref u)]:Ι)) p=some (HO.ins a.Ab f ([("looks",V.ref g),("books",V.ref u)]:Ι)):=ya;have ae:u≠p:=(yb W Y).symm;have ak:upd G p (HO.ins a.Ab f ([("looks",V.ref g),("books",V.ref u)]:Ι)) u=some (.lst (refs bk n)):=ym ae aa;have BP:∀{fs:Ι},But p G (upd G p (HO.ins a.Ab f fs)):=But.upd
  have ac:∀j,j<n->¬O2 j p:=λj r w=>by
   have e:=gN.2.2.1 j p r w;rw[W]at e;cases e
  have ay:∀{G':Hp},But p G G'->Bks K a G' n bk dx lk dd kd ps f2 O2 0:=λ{G'}B=>gN.1.frame (O2:=λc=>c=p) (λc o e J=>B c o e J) (λj c r w z=>ac j r (z ▸ w)) (λj r z=>by
   have e:=gN.2.2.2 j r;rw[z,W]at e
   cases e) (λt xs e=>by
   rcases e with(e|⟨o,e⟩)|e
   .exact .inl (.inl (B _ _ e (λz=>by rw[z,aC]at e;cases e)))
   .exact .inl (.inr ⟨o,B _ _ e (λz=>by rw[z,aC]at e;cases e)⟩)
   .exact .inr e)
  have BB:But p G (upd G p (HO.ins a.Ab f ([("looks",V.ref g),("books",V.ref u)]:Ι))):=But.upd;generalize upd G p (HO.ins a.Ab f ([("looks",V.ref g),("books",V.ref u)]:Ι))=HB at az a7 ak BB⊢;exists p,_,f,_,_,rfl,a7,T.Aq,T.Cv,rfl,?_;refine z5 (SqL.of (az _ _ I a2)) ?_;rw[vw];ext;intro D mx ab aI b0;have SM:yv HB (upd (upd HB mx (.own D)) D (.ins a.Dp mx [])):=λb o e=>by rw[yq (yb e ab),yq (yb e aI)];exact e
  exists D,mx,n,rfl,n1,n6,ya,λml HC av MC BC=>⟨rfl,?_⟩;have SC:yv HB HC:=λb o e=>BC b o (SM b o e) (yb e ab);have aZ:=SC _ _ a7;have aE:=SC _ _ ak;have a8:HB ml=none:=SM.free av;have R:D≠p:=(yb a7 ab).symm;have a1:ml≠p:=(yb a7 a8).symm;ext;exists by walk_at "len",λM Z=>?_
  have U:M≠p:=λz=>by rw[z,ya]at Z;cases Z
  have X:HC M=none:=by rw[yq U]at Z;exact Z
  have aL:upd (upd HC p (HO.ins a.Ab f ([("looks",V.ref g),("books",V.ref u),("mixer",V.ref D)]:Ι))) M (.lst []) p=some (HO.ins a.Ab f ([("looks",V.ref g),("books",V.ref u),("mixer",V.ref D)]:Ι)):=ym U.symm ya;have ah:upd (upd HC p (HO.ins a.Ab f ([("looks",V.ref g),("books",V.ref u),("mixer",V.ref D)]:Ι))) M (.lst []) M=some (.lst []):=ya;have BD:But p HC (upd (upd HC p (HO.ins a.Ab f ([("looks",V.ref g),("books",V.ref u),("mixer",V.ref D)]:Ι))) M (.lst [])):=λb o e J=>ym (yb e X) (ym J e);generalize upd (upd HC p (HO.ins a.Ab f ([("looks",V.ref g),("books",V.ref u),("mixer",V.ref D)]:Ι))) M (.lst [])=HD at aL ah BD⊢;ext;exists by walk_at "len",λL a0=>?_
  have ap:L≠p:=λz=>by rw[z,ya]at a0;cases a0
  have am:HD L=none:=by rw[yq ap,yq ap]at a0;exact a0
  have aV:upd (upd (upd HD p (HO.ins a.Ab f ([("looks",V.ref g),("books",V.ref u),("mixer",V.ref D),("ended",V.ref M)]:Ι))) p (HO.ins a.Ab f ([("looks",V.ref g),("books",V.ref u),("mixer",V.ref D),("ended",V.ref M),("place",V.int 0)]:Ι))) L (.lst []) p=some (HO.ins a.Ab f ([("looks",V.ref g),("books",V.ref u),("mixer",V.ref D),("ended",V.ref M),("place",V.int 0)]:Ι)):=ym ap.symm ya;have BE:But p HD (upd (upd (upd HD p (HO.ins a.Ab f ([("looks",V.ref g),("books",V.ref u),("mixer",V.ref D),("ended",V.ref M)]:Ι))) p (HO.ins a.Ab f ([("looks",V.ref g),("books",V.ref u),("mixer",V.ref D),("ended",V.ref M),("place",V.int 0)]:Ι))) L (.lst [])):=λb o e J=>ym (yb e am) (ym J (ym J e));generalize upd (upd (upd HD p (HO.ins a.Ab f ([("looks",V.ref g),("books",V.ref u),("mixer",V.ref D),("ended",V.ref M)]:Ι))) p (HO.ins a.Ab f ([("looks",V.ref g),("books",V.ref u),("mixer",V.ref D),("ended",V.ref M),("place",V.int 0)]:Ι))) L (.lst [])=HE at aV BE⊢;ext;have BF:But p HE (upd HE p (.ins a.Ab f (ĝ (.ref g) (.ref u) (.ref D) (.ref M) (.int 0) (.ref L)))):=But.upd;have a9:upd HE p (.ins a.Ab f (ĝ (.ref g) (.ref u) (.ref D) (.ref M) (.int 0) (.ref L))) p=some (.ins a.Ab f (ĝ (.ref g) (.ref u) (.ref D) (.ref M) (.int 0) (.ref L))):=ya;generalize upd HE p (.ins a.Ab f (ĝ (.ref g) (.ref u) (.ref D) (.ref M) (.int 0) (.ref L)))=HF at a9 BF⊢;have ad:But p HC HF:=(BD.trans BE).trans BF;have a3:But p G HF:=λb o e J=>ad b o (SC _ _ (BB b o e J)) J;have aA:=ad _ _ MC.o R;have aG:=ad _ _ MC.l a1;have ar:=ad _ _ aE ae;have ao:=BF _ _ (BE _ _ ah U) U;exists p,f,g,u,D,M,L,0,[],n,0,bk,dx,lk,dd,kd,ps,f2,O2,λi F=>kd0 (kd i),rfl,a9,ar,ao,ay a3,gN.ag,n6,(),ac,λpl sl f' O' H' aU aN ai B' aP aQ af F' L'=>?_
  have a5:∀{c:z4},c≠p->HF c=none->G c=none:=λ{c}J h=>by
   cases e:G c with
   |none=>rfl
   |some o=>rw[a3 _ _ e J]at h;cases h
  have as:∀j c,j<n->O2 j c->∃o,G c=some o:=λj c r w=>let ⟨o,ho,_⟩:=(gN.1.b j r).own c w;⟨o,ho⟩
  have nO:∀{c:z4}{o:HO},HF c=some o->vd0 o=false->∀j,j<n->¬O2 j c:=λ{c o}e hi j r w=>by
   let⟨o',aF,aw⟩:=((ay a3).b j r).own c w;rw[e]at aF;cases aF;rw[hi]at aw;cases aw
  have aD:∀j,j<n->¬O2 j D:=λj r w=>by
   let⟨o,ho⟩:=as j D r w;have e:=BB _ _ ho R;rw[ab]at e;cases e
  have O:∀{c:z4},c≠p->HA c=none->H c=none:=λ{c}J h=>by
   cases e:H c with
   |none=>rfl
   |some o=>rw[a4 _ _ e J]at h;cases h
  have N:∀{c:z4},G c=none->HA c=none:=λ{c}h=>SG.free h
  have a6:∀{c:z4},c≠p->HB c=none->G c=none:=λ{c}J h=>by
   cases e:G c with
   |none=>rfl
   |some o=>rw[BB _ _ e J]at h;cases h
  have aB:∀{c:z4},HC c=none->HB c=none:=λ{c}h=>SC.free h;refine k ⟨f,g,u,D,mx,ml,M,pl,n,bk,dx,lk,dd,sl,kd,ps⟩ f' O' H' ⟨⟨aU,F' _ _ ar ae (nO ar rfl),F' _ _ ao U (nO ao rfl),⟨F' _ _ aA R aD,F' _ _ aG a1 (nO aG rfl)⟩,?_,aN,⟨B'.look,λi hi=>(B'.b i hi).up (),B'.dj,B'.nb⟩,aP,aQ,λj r w=>?_,λj r w=>?_,n1,n6⟩,rfl,rfl,rfl,rfl,λj c r w=>?_,λj r=>?_,?_,λc hc=>?_,F' _ _ (a3 _ _ (SG _ _ I) a2) a2 (nO (a3 _ _ (SG _ _ I) a2) rfl),yb (SC _ _ (BB _ _ (SG _ _ I) a2)) X,aj⟩ ?_
  .exact vcb n n1 n6
  .rcases af j p r w with v|v
   .exact ac j r v
   .rw[a9]at v;cases v
  .rcases af j D r w with v|v
   .exact aD j r v
   .rw[aA]at v;cases v
  .have an:c≠p:=λz=>by
    rw[z]at w;rcases af j p r w with v|v
    .exact ac j r v
    .rw[a9]at v;cases v
   rcases af j c r w with v|v
   .exact O an (gN.2.2.1 j c r v)
   .exact O an (N (a5 an v))
  .have aO:bk j≠p:=λz=>by
    have e:=gN.2.2.2 j r;rw[z,W]at e;cases e
   exact O aO (gN.2.2.2 j r)
  .exact O R (N (a6 R ab))
  .rcases hc with z|z|z|z
   .rw[z];exact O ae Y
   .rw[z];exact O U (N (a6 U (aB X)))
   .rw[z];exact O a1 (N (a6 a1 a8))
   .rw[z];have al:pl≠p:=(yb a9 ai).symm;exact O al (N (a5 al ai))
  .intro c o e J;refine F' c o (a3 _ _ (SG _ _ (a4 c o e J)) J) J λj r w=>?_;have e2:=gN.2.2.1 j c r w;rw[a4 c o e J]at e2;cases e2
theorem yc2:∀(ts:Ο)(q j:Nat)(s:Int),ts[q]?=some s->j<=8->(dec ts)[9*q+j]?=(1::b8 s)[j]?
 |[],_,_,_,h,_=>by simp at h
 |t::r,0,j,s,h,hj=>by
  have e:t=s:=by simpa using h
  subst e;show ((1::b8 t)++dec r)[9*0+j]?=_;rw[Nat.mul_zero,Nat.zero_add,List.getElem?_append_left (by rw[bp,yoj];omega)]
 |t::r,q+1,j,s,h,hj=>by
  have b:r[q]?=some s:=by simpa using h
  show ((1::b8 t)++dec r)[9*(q+1)+j]?=_;have a:(1::b8 t).length=9:=rfl;rw[cK (by rw[a];omega),a,show 9*(q+1)+j-9=9*q+j by omega];exact yc2 r q j s b hj
def yqn(ts:Ο):(dec ts)[9*ts.length]?=some 0:=by rw[yms,cK (by rw[j8];exact bj _),j8,Nat.sub_self];rfl
def ydc(ts:Ο)(k:Nat)(sg:Ο)(nd:Int):Prop:=∃q j:Nat,k=9*q+j/\j<=8/\sg=ts.take q/\((j=0/\nd=0/\q<=ts.length)\/(1<=j/\∃s,ts[q]?=some s/\nd=(256+s)/2^(9-j)))
def vfg{s P c:Int}(h:0<=s/\s<=255)(hP:2<=P)(hc:P*(2*c)=256)(c1:1<=c/\c<=64):0<(256+s)/(2*P)/\2*((256+s)/(2*P))+s/P%2<256/\2*((256+s)/(2*P))+s/P%2=(256+s)/P:=by
 have a:(256+s)/P=s/P+2*c:=by rw[<- hc,Int.add_comm,Int.add_mul_ediv_left _ _ ()]
 have b:(256+s)/(2*P)=(s/P+2*c)/2:=by rw[<- a,Int.ediv_ediv_of_nonneg (show 0<=P by omega),Int.mul_comm]
 have e:=Int.ediv_nonneg h.1 (show 0<=P by omega);have d:=Int.ediv_lt_of_lt_mul (show 0<P by omega) (show s<128*P by omega);rw[a,b];generalize s/P=y at e d;clear hc a b hP h;omega
def nd9{s:Int}(h:0<=s/\s<=255)(h1:1<=j)(hj:j<=8):0<(256+s)/2^(9-j)/\(256+s)/2^(9-j)<256:=by
 have a:∀j,j<9->1<=j->(2:Int)<=2^(9-j)/\(2:Int)^(9-j)<=256:=∅
 let⟨b,c⟩:=a j (Nat.lt_succ_of_le hj) h1;generalize (2:Int)^(9-j)=K at b c;exists Int.le_ediv_of_mul_le () (),Int.ediv_lt_of_lt_mul () ()
def ydc.zero(ts:Ο):ydc ts 0 [] 0:=⟨0,0,rfl,(),by simp,.inl ⟨rfl,rfl,bN _⟩⟩
theorem ydc.nd{k:Nat}{sg:Ο}{nd:Int}(h:ydc ts k sg nd)(hs:Sgs ts):0<=nd/\nd<256:=by
 let⟨q,j,_,e,_,h⟩:=h;rcases h with⟨_,h,_⟩|⟨d,s,c,h⟩
 .omega
 .obtain⟨a,b⟩:=nd9 (hs s (bB c)) d e;rw[h];exists Int.le_of_lt a,b
def ydc.len{k:Nat}{sg:Ο}{nd:Int}(h:ydc ts k sg nd):sg.length<=ts.length:=by let⟨q,j,_,_,a,_⟩:=h;rw[a,bZ];omega
def ydc.next{k:Nat}{sg:Ο}{nd b:Int}(h:ydc ts k sg nd)(hs:Sgs ts)(hb:(dec ts)[k]?=some b):
  (k<9*ts.length/\ydc ts (k+1) (sgN sg nd b) (ndN nd b))\/(k=9*ts.length/\sgN sg nd b=[]/\ndN nd b=0):=by
 let⟨q,j,p,v,l,h⟩:=h;rcases h with⟨u,d,A⟩|⟨C,s,a,d⟩
 .subst u;rcases Nat.lt_or_ge q ts.length with m|m
  .refine .inl ⟨(),?_⟩;have e:=yc2 ts q 0 ts[q] (bg m) ();rw[<- p,hb]at e;have e:b=1:=by simpa using e
   have:=hs ts[q] (cu m);unfold sgN ndN;rw[if_neg (),if_pos e,if_neg (),if_pos e];exists q,1,(),(),l,.inr ⟨(),ts[q],bg m,?_⟩
   simp only[Nat.reduceSub,Int.reducePow];omega
  .have r:q=ts.length:=()
   have e:=yqn ts;rw[<- r,show 9*q=k by omega,hb]at e;have e:b=0:=by simpa using e
   refine .inr ⟨(),?_,?_⟩
   .unfold sgN;rw[if_neg (),if_neg ()]
   .unfold ndN;rw[if_neg (),if_neg ()];exact d
 .have n:=hs s (bB a);have m:q<ts.length:=(bL.mp a).1;have e:=yc2 ts q j s a v;rw[<- p,hb]at e
  have g:some b=(b8 s)[j-1]?:=by
   obtain⟨i,rfl⟩:∃i,j=i+1:=⟨j-1,()⟩;simpa using e
  refine .inl ⟨(),?_⟩;by_cases h8:j=8
  .subst h8;have g:b=s/1%2:=bC g;simp only[Nat.reduceSub,Int.reducePow]at d;have D:2*nd+b=256+s:=()
   unfold sgN ndN;rw[if_pos (),if_pos (),if_pos (),if_pos ()];exists q+1,0,(),(),?_,.inl ⟨rfl,rfl,()⟩
   rw[l,show 2*nd+b-256=s by omega,à a]
  .have o:0<nd/\2*nd+b<256/\2*nd+b=(256+s)/2^(9-(j+1)):=by
    have k:∀P c:Int,2<=P->P*(2*c)=256->1<=c/\c<=64->nd=(256+s)/(2*P)->b=s/P%2->0<nd/\2*nd+b<256/\2*nd+b=(256+s)/P:=λP c x y z e f=>by
     rw[e,f];exact vfg n x y z
    clear p hb e l m hs;obtain rfl|rfl|rfl|rfl|rfl|rfl|rfl:j=1\/j=2\/j=3\/j=4\/j=5\/j=6\/j=7:=()
    .exact k 128 1 ∅ rfl ∅ d (bC g)
    .exact k 64 2 ∅ rfl ∅ d (bC g)
    .exact k 32 4 ∅ rfl ∅ d (bC g)
    .exact k 16 8 ∅ rfl ∅ d (bC g)
    .exact k 8 16 ∅ rfl ∅ d (bC g)
    .exact k 4 32 ∅ rfl ∅ d (bC g)
    .exact k 2 64 ∅ rfl ∅ d (bC g)
   let⟨t,B,w⟩:=o;unfold sgN ndN;rw[if_pos t,if_neg (),if_pos t,if_neg ()];exists q,j+1,(),(),l,.inr ⟨(),s,a,w⟩
theorem jj.up{H:Hp}{p:z4}{A:FA}{X:FX}{f:Α}{m:Nat}(h:jj K a H p A X f O m)(hm:m<=m'):jj K a H p A X f O m' :=
 ⟨h.me,h.bl,h.el,h.mx,h.wok,h.pl,⟨h.B.look,λi c=>(h.B.b i c).up hm,h.B.dj,h.B.nb⟩,h.ag,h.at',h.np,h.nm,h.n1,h.n6⟩
structure Lw(K:z3)(a:Ads)(H:Hp)(p:z4)(A:FA)(X:FX)(f:Α)(O:Β)(m:Nat)(bk dx dd:Λ)(f2:Α)(O2:Β)(mp mx ml:z4)(ws:Ο):Prop where
 ft:jj K a H p A X f O m
 bs:Bks K a H A.n bk dx A.lk dd A.kd A.ps f2 O2 m
 mx:yj8 a mp mx ml ws H
 dj:∀i j c,i<A.n->j<A.n->O i c->¬O2 j c
 n1:∀i j,i<A.n->j<A.n->¬O i (bk j)
 n2:∀i j,i<A.n->j<A.n->¬O2 i (A.bk j)
 n3:∀i,i<A.n->¬O2 i p/\¬O2 i A.mp/\¬O2 i mp/\¬O i mp
 n4:mp≠A.mp
 n5:ml≠A.el
section
variable{H H':Hp}{p:z4}{A:FA}{X:FX}{f:Α}{m:Nat}{bk dx dd:Λ}{f2:Α}{mp mx ml:z4}{ws:Ο}
def zb{C D d e:z4}{fs gs:Ι}(hp:H p=some (.ins C d fs))(hq:H q=some (.ins D e gs))(hl:fs.length≠gs.length):p≠q:=λz=>by
 rw[z,hq]at hp;injection hp with hp;injection hp with _ _ e;exact hl (congrArg List.length e).symm
end
def KpA(B G:Hp)(e0 e:z4):Prop:=∀c o,B c=some o->vd0 o=false->c≠e0->c≠e/\G c=some o
theorem KpA.lst{B G:Hp}{e0 e c:z4}{xs:Τ}(h:KpA B G e0 e)(hc:B c=some (.lst xs))(ne:c≠e0):G c=some (.lst xs):=(h c _ hc rfl ne).2
def TxE(ts:Ο)(k:Nat)(sg:Ο)(nd:Int):Prop:=(k<=9*ts.length/\ydc ts k sg nd)\/(k=9*ts.length+1/\sg=[]/\nd=0)
theorem TxE.next{k:Nat}{sg:Ο}{nd b:Int}(h:TxE ts k sg nd)(hs:Sgs ts)(hb:(dec ts)[k]?=some b):ydc ts k sg nd/\TxE ts (k+1) (sgN sg nd b) (ndN nd b):=by
 rcases h with⟨c,h⟩|⟨c,_⟩
 .exists h,?_;rcases h.next hs hb with⟨e,a⟩|⟨e,a,d⟩
  .exact .inl ⟨(),a⟩
  .exact .inr ⟨(),a,d⟩
 .rw[c,bK (by rw[zn];exact bj _)]at hb;cases hb
#synth yv8 ["self"] vax
inductive yb7(K:z3)(a:Ads)(vs:Τ)(H:Hp)(Q:VK)(E':XK):Prop
 |mk(p:z4)(A:FA)(X:FX)(f:Α)(O:Β)(m:Nat)(_:vs=[.ref p])(_:jj K a H p A X f O m)(_:∀r H',H r=none->H' r=some (.lst ((X.cs A).map V.int))->yv H H'->Q (.ref r) H')
def ynk(T:Txt K mg a):vn P w K mg Γ CX0 2 a.Pj a.Si ["self"] (yb7 K a):=by
 exists T.Ii.F.ok,yv8,j;let⟨p,d,X,f,O,m,rfl,h,k⟩:=h;have R:=h.me;have J:=h.n6;exists 1,0,yc (yu (we (js:=[]) (ys:=[]) rfl (ww (yr (pv 0) rfl)) (λC L r N=>(yeu (wb (pv 0) T.B8 T.Mf.m (yx1 T) j.m T.Mf.B .nil wl) (yeu (wb (pv 0) T.C9 T.Mh.m (ywe T) j.m T.Mh.B .nil wl) (wb (pv 0) T.Ca T.Mj.m (yuq T) j.m T.Mj.B .nil wl)))) rfl rfl (hyc:=ve) (hrel:=ve)));exists d.pl,rfl,⟨_,SqL.of h.pl⟩,λD e=>?_;refine jo (K:=K) (xs:=refs d.sl d.n) (Mp H D (λi=>V.int (X.g i (X.key d i)).due)) (Mp.zero e) (λZ Z Z q=>q.1.seq (SqL.of h.pl)) (λi y r x v q=>?_) (λr q=>?_)
 .obtain⟨c,b⟩:=q;let⟨rfl,o⟩:=Ð x;let⟨_,⟨I,z⟩,t,_⟩:=h.slot o;refine ygt (λM h=>vch rfl h) (c _ _ z) t ?_;exact Mp.doneR e (vk (by rw[vw];omega)) v c b rfl
 .obtain⟨c,b⟩:=q;rw[vw]at b;refine k D _ e ?_ c;rw[b];unfold FX.cs;rw[cb];rfl
#synth yu5 ["self"] vbl
inductive yfl(K:z3)(a:Ads)(vs:Τ)(H:Hp)(Q:VK)(E':XK):Prop
 |mk(p:z4)(A:FA)(X:FX)(f:Α)(O:Β)(m:Nat)(_:vs=[.ref p])(_:jj K a H p A X f O m)(_:∀H',yv H H'->Q (.int (yqf X.ws (X.cs A))) H')
def ynn(T:Txt K mg a):vn P w K mg Γ CX0 3 a.Pk a.Sj ["self"] (yfl K a):=by exists T.Ij.F.ok,yu5,g;let⟨p,b,X,f,O,m,rfl,h,k⟩:=h;have x:=h.me;have q:=h.mx.o;exists 1,0,yc (yu (xj (yr (pv 0) rfl) T.Ix T.Mu.m (yy9 T) g.m T.Mu.B .nil wl (pa1 (wb (pv 0) T.Aq T.Ii.m (ynk T) g.m T.Ii.B .nil wl))));exists p,b,X,f,O,m,rfl,h,λr u l d e=>?_;ext;exists b.mp,b.mx,b.ml,r,X.ws,X.cs b,b.n,rfl,h.n1,h.n6,h.wok,h.cok,h.mx.same e,SqL.of d,λv j=>k _ (e.trans j)
#synth yyv ["self","bit"] vdg
inductive ytd(a:Ads)(vs:Τ)(H:Hp)(Q:VK)(E':XK):Prop
 |mk(p dp ll bl mp el pl:z4)(nd b:Int)(sg:Ο)(_:vs=[.ref p,.int b])(_:H p=some (.ins a.Ab dp (ĝ (.ref ll) (.ref bl) (.ref mp) (.ref el) (.int nd) (.ref pl))))(_:H el=some (.lst (sg.map V.int)))(_:sg.length<=100000)(_:0<nd)(_:∀H',H' p=some (.ins a.Ab dp (ĝ (.ref ll) (.ref bl) (.ref mp) (.ref el) (.int (ndN nd b)) (.ref pl)))->H' el=some (.lst ((sgN sg nd b).map V.int))->(∀c o,H c=some o->c≠p->c≠el->H' c=some o)->Q .non H')
def yvv(T:Txt K mg a):vn P w K mg Γ CX0 1 a.Pn a.Sm ["self","bit"] (ytd a):=by
 exists T.Mx.F.ok,yyv,M;let⟨p,l,q,r,n,j,m,i,b,C,rfl,L,B,O,y,k⟩:=h;exists _,(yg (vh (pv 0) (yn wc (yn xf yf (yr (pv 0) rfl)) (pv 1)) rfl) (yc (vv (yx vfs (yr (pv 0) rfl) (vq rfl T.Fi) (y9 _)) (yg (y6 (uy PySem.F.plainAttrs_list PySem.F.slot_list_append PySem.F.type_list_append wy (yr (pv 0) rfl) (pa1 (yn zz (yr (pv 0) rfl) (vq rfl T.Fi))))) (yc (vh (pv 0) yf rfl))) y8))),?_;exists 2,0;unfold ndN sgN at k;rw[if_pos y,if_pos y]at k;have g:j≠p:=xr B L (by intro z;cases z);ext;have f:upd H p (.ins a.Ab l (ĝ (.ref q) (.ref r) (.ref n) (.ref j) (.int (2*i+b)) (.ref m))) p=some (.ins a.Ab l (ĝ (.ref q) (.ref r) (.ref n) (.ref j) (.int (2*i+b)) (.ref m))):=ya;have d:=ym (o':=HO.ins a.Ab l (ĝ (.ref q) (.ref r) (.ref n) (.ref j) (.int (2*i+b)) (.ref m))) g B;have v:But p H (upd H p (.ins a.Ab l (ĝ (.ref q) (.ref r) (.ref n) (.ref j) (.int (2*i+b)) (.ref m)))):=But.upd;generalize upd H p (.ins a.Ab l (ĝ (.ref q) (.ref r) (.ref n) (.ref j) (.int (2*i+b)) (.ref m)))=N at f d v⊢;ext;refine jk (λt=>?_) (λt=>?_)
 .rw[if_pos t,if_pos t]at k;ext;refine z6 d ?_;ext;refine xp d (vk (by rw[bc];omega)) ?_;have J:=ym (o':=HO.lst (List.map V.int C++[V.int (2*i+b-256)])) (Ne.symm g) f;ext;refine k _ ya ?_ λc o e u D=>ym u (ym D (v _ _ e u));rw[yq g,ya,bD];rfl
 .rw[if_neg t,if_neg t]at k;ext;exact k _ f d λc o e u D=>v _ _ e u
#synth yzb ["self","bit"] vc9
inductive yma(a:Ads)(vs:Τ)(H:Hp)(Q:VK)(E':XK):Prop
 |mk(p dp ll bl mp el pl:z4)(nd b:Int)(sg:Ο)(_:vs=[.ref p,.int b])(_:H p=some (.ins a.Ab dp (ĝ (.ref ll) (.ref bl) (.ref mp) (.ref el) (.int nd) (.ref pl))))(_:H el=some (.lst (sg.map V.int)))(_:sg.length<=100000)(_:0<=nd)(_:∀(el':z4)H',(el'=el\/H el'=none)->H' p=some (.ins a.Ab dp (ĝ (.ref ll) (.ref bl) (.ref mp) (.ref el') (.int (ndN nd b)) (.ref pl)))->H' el'=some (.lst ((sgN sg nd b).map V.int))->(∀c o,H c=some o->c≠p->c≠el->H' c=some o)->(∃o,H' el=some o)->Q .non H')
def yxx(T:Txt K mg a):vn P w K mg Γ CX0 2 a.Pm a.Sl ["self","bit"] (yma a):=by
 exists T.Mw.F.ok,yzb,N;let⟨p,u,C,I,y,g,x,v,b,G,rfl,l,i,S,W,k⟩:=h;exists _,(yc (vv (yx ym0 (yr (pv 0) rfl) yf (y9 _)) (yc (y6 (xj (pv 0) T.Aq T.Mx.m (yvv T) N.m T.Mx.B .nil wl (pa1 (pv 1))))) (yc (vv (yx xk (pv 1) yf (y9 _)) (yc (vh (pv 0) yf rfl)) (yc (vh (pv 0) (vj za) rfl)))))),?_;exists 2,0;have d:g≠p:=xr i l (by intro z;cases z);ext;refine jk (λj=>?_) (λj=>?_)
 .ext;exists p,u,C,I,y,g,x,v,b,G,rfl,l,i,S,j,λR L D O=>k g R (.inl rfl) L D O ⟨_,D⟩
 .unfold ndN sgN at k;rw[if_neg j,if_neg j]at k;ext;refine jk (λf=>?_) (λf=>?_)
  .rw[if_pos f,if_pos f]at k;ext;exact k g _ (.inl rfl) ya (ym d i) (λc o e n Z=>ym n e) ⟨_,ym d i⟩
  .rw[if_neg f,if_neg f]at k;ext;exists by walk_at "len",λr hr0=>?_
   exists hr0,H1,S1,e1;have M:=S1 _ _ l;ext;have q:r≠p:=λz=>by rw[z,l]at hr0;cases hr0
   exact k r _ (.inr hr0) ya (ym q e1) (λc o e n Z=>ym n (S1 _ _ e)) ⟨_,ym d (S1 _ _ i)⟩
noncomputable abbrev FA.re(A:FA)(ml el pl:z4)(sl:Λ):FA:={A with ml:=ml,el:=el,pl:=pl,sl:=sl}
noncomputable def FX.run(A:FA)(X:FX):qi Int->FX
 |[]=>X
 |b::r=>FX.run A (X.see A b) r
theorem å(A:FA):∀(bs cs:Ο)(X:FX),X.run A (bs++cs)=(X.run A bs).run A cs
 |[],_,_=>rfl
 |b::r,cs,X=>å A r cs (X.see A b)
def yln(A:FA)(bs:Ο)(b:Int)(X:FX):X.run A (bs++[b])=(X.run A bs).see A b:=å A bs [b] X
noncomputable def fa0(n:Nat)(ps:Κ):FA:={ dp:=0,ll:=0,bl:=0,mp:=0,mx:=0,ml:=0,el:=0,pl:=0,n:=n,bk:=λZ=>0,dx:=λZ=>0,lk:=λZ=>0,dd:=λZ=>0,sl:=λZ=>0,kd:=λZ=>0,ps:=ps}
theorem ycv(A:FA):∀(bs:Ο)(X:FX),X.run A bs=X.run (fa0 A.n A.ps) bs
 |[],_=>rfl
 |b::r,X=>ycv A r (X.see A b)
def vd5(H:Hp)(A:FA):Prop:=H A.ll=some (.lst (refs A.lk A.n))/\A.ll≠A.el/\∃tp,xx H A.n A.lk A.kd tp A.ps
theorem vd5.same{H H':Hp}{A:FA}(h:vd5 H A)(S:yv H H'):vd5 H' A:=⟨S _ _ h.1,h.2.1,let ⟨tp,r⟩:=h.2.2;⟨tp,r.same S⟩⟩
structure Go(W:Μ)(H H':Hp)(W':Μ):Prop where
 fr:∀c o,H c=some o->¬W c->H' c=some o
 nw:∀c,W' c->W c\/H c=none
 lv:∀c o,H c=some o->∃o',H' c=some o'
def Go.free{W:Μ}{H H':Hp}(h:Go W H H' W'){c:z4}(e:H' c=none):H c=none:=by
 cases z:H c with
 |none=>rfl
 |some o =>
  let⟨a,w⟩:=h.lv c o z;rw[e]at w;cases w
def Go.refl{W:Μ}{H:Hp}:Go W H H W:=⟨λZ Z e Z=>e,λZ w=>.inl w,λZ o e=>⟨o,e⟩⟩
def Go.trans{W W1:Μ}{H H1 H2:Hp}(h:Go W H H1 W1)(k:Go W1 H1 H2 W2):Go W H H2 W2:=by
 exists λc o e a=>k.fr c o (h.fr c o e a) λw=>?_,λc w=>?_,λc o e=>?_
 .rcases h.nw c w with v|v
  .exact a v
  .rw[e]at v;cases v
 .rcases k.nw c w with v|v
  .exact h.nw c v
  .exact .inr (h.free v)
 .obtain⟨b,d⟩:=h.lv c o e;exact k.lv c b d
def Go.same{W:Μ}{H H1 H2:Hp}(h:Go W H H1 W')(S:yv H1 H2):Go W H H2 W':=⟨λc o e a=>S _ _ (h.fr c o e a),h.nw,λc o e=>let ⟨o',w⟩:=h.lv c o e;⟨o',S _ _ w⟩⟩
def Go.ahead{W:Μ}{H H1 H2:Hp}(S:yv H H1)(h:Go W H1 H2 W'):Go W H H2 W':=⟨λc o e=>h.fr c o (S _ _ e),λc w=>(h.nw c w).imp id S.free,λc o e=>h.lv c o (S _ _ e)⟩
def Go.apart{W:Μ}{H H':Hp}(h:Go W H H' W')(hU:∀c,U c->∃o,H c=some o)(dj:∀c,U c->¬W c):∀c,U c->¬W' c:=λc u w=>by
 rcases h.nw c w with v|v
 .exact dj c u v
 .obtain⟨o,e⟩:=hU c u;rw[v]at e;cases e
section
variable{H H':Hp}{p:z4}{n:Nat}{kd:Ν}{ps:Κ}{X:FX}{M:Nat}{W:Μ}
def ys6{g:Λ}(h:1<=n):(refs g n)[0]?=some (.ref (g 0)):=by unfold refs;rw[bq,cy h];rfl
end
#synth yn0 ["self","bit","slot"] ["self","bit"] vdm
inductive ysu(K:z3)(a:Ads)(vs:Τ)(H:Hp)(Q:VK)(E':XK):Prop
 | mk(p:z4)(A:FA)(X:FX)(f:Α)(O:Β)(m:Nat)(b:Int)(_:vs=[.ref p,.int b])(_:jj K a H p A X f O m)(_:0<=b)(_:b<=1)(_:m+20<1000000)(_:0<=X.nd)(_:X.sg.length<=100000)(_:∀(ml el pl:z4)(sl:Λ)(f':Α)(O':Β)(H':Hp),(el=A.el\/H el=none)->jj K a H' p {A with ml:=ml,el:=el,pl:=pl,sl:=sl} (X.see A b) f' O' (m+A.n)->(∀j c,j<A.n->O' j c->O j c\/H c=none) ->
  (∀c o,H c=some o->c≠p->c≠A.mp->c≠A.el->(∀j,j<A.n->¬O j c)->H' c=some o)->(∀c o,H c=some o->∃o',H' c=some o')->H ml=none->Q .non H')
def yox(T:Txt K mg a):vn P w K mg Γ CX0 6 a.Pl a.Sk ["self","bit"] (ysu K a):=by
 exists T.Ik.F.ok,yn0,hr;let⟨p,d,X,f,O,m,b,rfl,h,b0,b1,hm,ar,aE,k⟩:=h;have hp:=h.me;have ab:=h.mx.o;have n6:=h.n6;have I:=ywo b0 b1;refine yh (y6 (uf (Ę T) hr.m T.Fg vt (pa1 (pv 1)))) ?_;refine yh (y6 (yz (yr (pv 0) rfl) T.Ix T.Mv.m (yxq T) hr.m T.Mv.B .nil vt (pac (wb (pv 0) T.Aq T.Ii.m (ynk T) hr.m T.Ii.B .nil wl) (pa1 (pv 1))))) ?_;refine yh (ux PassesOwn.never rfl (ww (yr (pv 0) rfl)) (wd (i:=2) yn0.nd rfl (Or.inl rfl)) (yc (y6 (yeu (yz (pv 2) T.B8 T.Mg.m (yx4 T) hr.m T.Mg.B .nil vt (pa1 (pv 1))) (yeu (yz (pv 2) T.C9 T.Mi.m (yul T) hr.m T.Mi.B .nil vt (pa1 (pv 1))) (yz (pv 2) T.Ca T.Ml.m (yzg T) hr.m T.Ml.B .nil vt (pa1 (pv 1)))))))) ?_;refine yh (y6 (xj (pv 0) T.Aq T.Mw.m (yxx T) hr.m T.Mw.B .nil wl (pa1 (pv 1)))) ?_;exists 2,1,yc (y6 (wb (pv 0) T.Aq T.Ih.m (yni T) hr.m T.Ih.B .nil wl));exists .int b,_,rfl,.int b,λF=>?_,λz=>(by rw[I]at z;cases z);ext;exists p,d,X,f,O,m,rfl,h,λr H1 aK aB S1=>?_;have M:=S1 _ _ ab;ext;exists d.mp,d.mx,d.ml,r,X.ws,X.cs d,d.n,.int b,_,rfl,h.n1,n6,h.wok,h.cok,h.mx.same S1,SqL.of aB,.int b,λb' e F F ml H2 a6 M2 B2=>?_,λz=>(by rw[I]at z;cases z);cases e;have L:=h.same S1
 have ae:p≠d.mp:=λz=>by
  have:=h.me;rw[z,ab]at this;injection this with this;injection this with _ _ e;exact absurd (congrArg List.length e) (show ¬(1=6) by decide)
 have ap:=B2 _ _ L.me ae;have aa:∀{l:z4}{xs:Τ},H1 l=some (.lst xs)->l≠d.mp:=λ{l xs}e z=>by rw[z,M]at e;cases e
 have a5:=B2 _ _ L.bl (aa L.bl);have a7:=B2 _ _ L.el (aa L.el);have Z:=B2 _ _ L.pl (aa L.pl)
 have U:=L.B.frame (O2:=λc=>c=d.mp) (λc o e ne=>B2 c o e ne) (λj c q w z=>h.nm j q (z ▸ w)) (λj q z=>by
  have:=(L.B.b j q).me;rw[z,M]at this;injection this with this;injection this with _ _ e
  exact absurd (congrArg List.length e) (show ¬(1=2) by decide)) (λt xs e=>by
  rcases e with(e|⟨o,e⟩)|e
  .exact .inl (.inl (B2 _ _ e (λz=>by rw[z,M]at e;cases e)))
  .exact .inl (.inr ⟨o,B2 _ _ e (λz=>by rw[z,M]at e;cases e)⟩)
  .exact .inr e)
 have av:∀j,j<d.n->(∃s,f j (X.key d j)=some s)/\AtS H2 (d.dd j) (X.key d j) (d.sl j):=λj q=>⟨(L.at' j q).1,(L.at' j q).2.told (L.B.b j q) (λz=>h.nm j q (by rw[<- z];exact(L.B.b j q).dO)) B2⟩;ext;refine⟨d.pl,rfl,⟨_,SqL.of Z⟩,ua (K:=K) (a:=d.pl) (xs:=refs d.sl d.n) (λi σ2 G=>∃(v:qj V)(f':Α),σ2=[some (.ref p),some (.int b),v]/\Bks K a G d.n d.bk d.dx d.lk d.dd d.kd d.ps f' O m/\
   (∀j,j<d.n->∀k,(f' j k).getD (kd0 (d.kd j))=if j<i/\k=X.key d j then (X.g j k).see b else X.g j k)/\(∀j,j<d.n->(∃s,f' j (X.key d j)=some s)/\AtS G (d.dd j) (X.key d j) (d.sl j))/\(∀c o,H2 c=some o->(∀j,j<d.n->¬O j c)->G c=some o))
  ⟨_,f,rfl,U,λj q N=>by rw[if_neg (λz=>absurd z.1 (ce j))];exact h.ag j q N,av,λc o e F=>e⟩ (by rintro i σ2 G _ ⟨_,_,_,_,_,_,w⟩;exact SqL.of (w _ _ Z (U.nlst Z))) ?_ ?_⟩
 .rintro i y σ2 G hy ⟨v,f',rfl,S,gA,gS,gF⟩;let⟨rfl,D⟩:=Ð hy;let⟨⟨s',ad⟩,a8⟩:=gS i D
  have es:s'=X.g i (X.key d i):=by
   have:=gA i D (X.key d i);rw[ad,if_neg (λz=>absurd z.1 (cQ i))]at this;exact this
  let⟨dq,hq,ok,aI,aq⟩:=(S.b i D).slot ad a8;ext;refine ysn (x:=.int b) (λQ' h=>?_) (λQ' h=>?_) hq ok (.int b) (λb' e F F G3 h3 B3=>?_) (λz=>by rw[I]at z;cases z) (λz=>by rw[I]at z;cases z) (λz=>by rw[I]at z;cases z)
  .ext;exact h
  .ext;exact h
  cases e;have am:=(S.b i D).told ad a8 b0 b1 h3 B3;have BO:ynb (O i) G G3:=λc o e no=>B3 _ _ e λz=>no (by rw[z];exact aq);have M3:=S.move D (bj m) am (λc w=>.inl w) BO
  have eO:(λj=>if j=i then O i else O j)=O:=by
   funext j
   by_cases z:j=i
   .rw[if_pos z,z]
   .rw[if_neg z]
  rw[eO]at M3
  have aC:d.dd i≠d.sl i:=λz=>by
   let⟨aG,aH,w1,_⟩:=(S.b i D).tb;let⟨C,fs,eo⟩:=Ĺ a dq s';rw[z,hq,eo]at w1;cases w1
  ext;exists _,_,rfl,M3,λj q N=>?_,λj q=>?_,λc o e no=>?_
  .try dsimp only
   by_cases z:j=i
   .subst z;rw[if_pos rfl];unfold ź;by_cases w:N=X.key d j
    .rw[if_pos w,if_pos ⟨Nat.lt_succ_self j,w⟩,w,<- es];rfl
    .rw[if_neg w,if_neg (λz=>w z.2)];have:=gA j q N;rw[if_neg (λz=>w z.2)]at this;exact this
   .rw[if_neg z,gA j q N];have:(j<i/\N=X.key d j)↔(j<i+1/\N=X.key d j):=by constructor<;>(rintro ⟨u,v⟩;exact⟨(),v⟩)
    by_cases w:j<i/\N=X.key d j
    .rw[if_pos w,if_pos (this.mp w)]
    .rw[if_neg w,if_neg (λz=>w (this.mpr z))]
  .try dsimp only
   by_cases z:j=i
   .subst z;rw[if_pos rfl];exists⟨s'.see b,?_⟩,a8.told (S.b j D) aC B3;unfold ź;rw[if_pos rfl]
   .rw[if_neg z];exists(gS j q).1,(gS j q).2.move S q D z BO
  .exact BO _ _ (gF c o e no) (no i D)
 .rintro σ2 G ⟨v,f',rfl,S,gA,gS,gF⟩;rw[vw]at gA;have gp:=gF _ _ ap h.np;have R:=gF _ _ a7 (U.nlst a7);have aj:=gF _ _ a5 (U.nlst a5);have Y:=gF _ _ M2.o h.nm;have af:=gF _ _ M2.l (U.nlst M2.l);ext;exists p,d.dp,d.ll,d.bl,d.mp,d.el,d.pl,X.nd,b,X.sg,rfl,gp,R,aE,ar,λel H4 ah a9 a4 F4 L4=>?_;have ai:∀{l:z4}{xs:Τ},G l=some (.lst xs)->l≠p:=λ{l xs}e z=>by rw[z,gp]at e;cases e
  have an:∀j,j<d.n->¬O j p:=h.np;have ak:=S.nlst R
  have a2:=S.frame (O2:=λc=>c=p\/c=d.el) (λc o e ne=>F4 c o e (λz=>ne (.inl z)) (λz=>ne (.inr z))) (λj c q w z=>by
   rcases z with z|z
   .exact an j q (z ▸ w)
   .exact ak j q (z ▸ w)) (λj q z=>by
   have:=(S.b j q).me;rcases z with z|z
   .rw[z,gp]at this;injection this with this;injection this with _ _ e;exact absurd (congrArg List.length e) (show ¬(6=2) by decide)
   .rw[z,R]at this
    cases this) (λt xs e=>by
   rcases e with(e|⟨o,e⟩)|e
   .exact .inl (.inl (F4 _ _ e (λz=>by rw[z,gp]at e;cases e) (λz=>by rw[z,R]at e;cases e)))
   .exact .inl (.inr ⟨o,F4 _ _ e (λz=>by rw[z,gp]at e;cases e) (λz=>by rw[z,R]at e;cases e)⟩)
   .exact .inr e)
  have ao:d.bl≠d.el:=λz=>by
   have e:=h.bl;rw[z,h.el]at e;injection e with e;injection e with e;have e0:=congrArg (λl:Τ=>l[0]?) e
   have r0:(refs d.bk d.n)[0]?=some (.ref (d.bk 0)):=by
    unfold refs;rw[bq,cy h.n1];rfl
   try dsimp only at e0
   rw[r0,bq]at e0
   cases hs:X.sg[0]? with
   |none=>rw[hs]at e0;cases e0
   |some c=>rw[hs]at e0;cases e0
  have aw:ml≠d.el:=(yb L.el a6).symm;have a3:=F4 _ _ aj (ai aj) ao;have ay:=F4 _ _ Y (Ne.symm ae) (λz=>by rw[z,R]at Y;cases Y);have ac:=F4 _ _ af (ai af) aw
  have a1:∀c o,H c=some o->∃W,H4 c=some W:=λc o e=>by
   by_cases zp:c=p
   .exists _,zp ▸ a9
   by_cases ze:c=d.el
   .rw[ze];exact L4
   have gc:∃W,G c=some W:=by
    by_cases zm:c=d.mp
    .exists _,zm ▸ Y
    by_cases zo:∀j,j<d.n->¬O j c
    .exists o,gF _ _ (B2 _ _ (S1 _ _ e) zm) zo
    .have:∃j,j<d.n/\O j c:=Classical.byContradiction λw=>zo λj q w'=>w ⟨j,q,w'⟩;let⟨j,q,w⟩:=this;let⟨W,J,_⟩:=(S.b j q).own c w;exists W,J
   let⟨W,J⟩:=gc;exists W,F4 _ _ J zp ze
  have as:ync d.n d.kd f' (X.see d b).g:=λj q N=>by
   rw[gA j q N];show _=if N=X.key d j then (X.g j N).see b else X.g j N;by_cases w:N=X.key d j
   .rw[if_pos ⟨q,w⟩,if_pos w]
   .rw[if_neg (λz=>w z.2),if_neg w]
  ext;exists p,d.dp,d.ll,d.bl,d.mp,el,d.pl,ndN X.nd b,sgN X.sg X.nd b,d.n,m,d.bk,d.dx,d.lk,d.dd,d.kd,d.ps,f',O,(X.see d b).g,rfl,a9,a3,a4,a2,as,n6,(),h.np,λpl sl f2 O2 H5 ax al aF B5 au aA aD F5 L5=>?_
  have a0:∀{l:z4}{xs:Τ},H4 l=some (.lst xs)->l≠p:=λ{l xs}e z=>by rw[z,a9]at e;cases e
  have n2:∀j c,j<d.n->O2 j c->O j c\/H c=none:=λj c q w=>by
   rcases aD j c q w with v|v
   .exact .inl v
   .refine .inr ?_
    cases e:H c with
    |none=>rfl
    |some o =>
     let⟨W,J⟩:=a1 c o e;rw[J]at v;cases v
  refine k ml el pl sl f2 O2 H5 ?_ ⟨ax,F5 _ _ a3 (a0 a3) (a2.nlst a3),F5 _ _ a4 (a0 a4) (a2.nlst a4),⟨F5 _ _ ay (Ne.symm ae) h.nm,F5 _ _ ac (a0 ac) (a2.nlst ac)⟩,yo7 h.n1 n6 h.wok h.cok,al,B5,au,aA,λj q w=>?_,λj q w=>?_,h.n1,n6⟩ n2 (λc o e c1 c2 c3 no=>F5 _ _ (F4 _ _ (gF _ _ (B2 _ _ (S1 _ _ e) c2) no) c1 c3) c1 no) (λc o e=>let ⟨W,w⟩:=a1 c o e;L5 c W w) (S1.free a6)
  .rcases ah with z|z
   .exact .inl z
   .refine .inr ?_
    cases e:H el with
    |none=>rfl
    |some o =>
     exfalso;by_cases zp:el=p
     .rw[zp,gp]at z;cases z
     by_cases zm:el=d.mp
     .rw[zm,Y]at z;cases z
     by_cases zo:∀j,j<d.n->¬O j el
     .rw[gF _ _ (B2 _ _ (S1 _ _ e) zm) zo]at z;cases z
     .have:∃j,j<d.n/\O j el:=Classical.byContradiction λw=>zo λj q w'=>w ⟨j,q,w'⟩;let⟨j,q,w⟩:=this;let⟨W,J,_⟩:=(S.b j q).own el w;rw[J]at z;cases z
  .rcases n2 j p q w with v|v
   .exact h.np j q v
   .rw[hp]at v;cases v
  .rcases n2 j d.mp q w with v|v
   .exact h.nm j q v
   .rw[ab]at v;cases v
def ø{A:FA}{X:FX}{bs:Ο}{k:Nat}{b:Int}(h:bs[k]?=some b):X.run A (bs.take (k+1))=(X.run A (bs.take k)).see A b:=by rw[à h,yln]
structure FGo(p:z4)(A:FA)(O:Β)(H H':Hp)(el:z4)(O':Β):Prop where
 he:el=A.el\/H el=none
 hO:∀j c,j<A.n->O' j c->O j c\/H c=none
 fr:∀c o,H c=some o->c≠p->c≠A.mp->c≠A.el->(∀j,j<A.n->¬O j c)->H' c=some o
 live:∀c o,H c=some o->∃o',H' c=some o'
def FGo.free{p:z4}{A:FA}{H H':Hp}{el c:z4}(h:FGo p A O H H' el O')(hc:H' c=none):H c=none:=by
 cases e:H c with
 |none=>rfl
 |some o =>
  let⟨a,w⟩:=h.live c o e;rw[hc]at w;cases w
def FGo.refl{p:z4}{A:FA}{H:Hp}:FGo p A O H H A.el O:=⟨.inl rfl,λZ Z Z w=>.inl w,λZ Z e Z Z Z Z=>e,λZ o e=>⟨o,e⟩⟩
theorem FGo.trans{p:z4}{A:FA}{O1:Β}{H H1 H2:Hp}{ml el pl el2:z4}{sl:Λ}(h:FGo p A O H H1 el O1)(k:FGo p (A.re ml el pl sl) O1 H1 H2 el2 O2):FGo p A O H H2 el2 O2:=by
 exists ?_,λj c a w=>?_,λc o e b f d g=>?_,λc o e=>?_
 .rcases k.he with z|z
  .rcases h.he with y|y
   .exact .inl (z.trans y)
   .exact .inr (by rw[show el2=el from z];exact y)
  .exact .inr (h.free z)
 .rcases k.hO j c a w with v|v
  .exact h.hO j c a v
  .exact .inr (h.free v)
 .refine k.fr c o (h.fr c o e b f d g) b f (λz=>?_) (λj a w=>?_)
  .rcases h.he with y|y
   .exact d (z.trans y)
   .rw[show c=el from z,y]at e;cases e
  .rcases h.hO j c a w with v|v
   .exact g j a v
   .rw[e]at v;cases v
 .obtain⟨i,l⟩:=h.live c o e;exact k.live c i l
def FGo.same{p:z4}{A:FA}{H H1 H2:Hp}{el:z4}(h:FGo p A O H H1 el O')(S:yv H1 H2):FGo p A O H H2 el O' :=
 ⟨h.he,h.hO,λc o e b d f a=>S _ _ (h.fr c o e b d f a),λc o e=>let ⟨o',w⟩:=h.live c o e;⟨o',S _ _ w⟩⟩
def FGo.kpa{p:z4}{A:FA}{X:FX}{f:Α}{m:Nat}{H H':Hp}{el:z4}(hf:jj K a H p A X f O m)(h:FGo p A O H H' el O'):KpA H H' A.el el:=λc o e i k=>by
 exists ?_,h.fr c o e (λz=>by rw[z,hf.me]at e;cases e;cases i) (λz=>by rw[z,hf.mx.o]at e;cases e;cases i) k λj l w=>?_
 .rcases h.he with z|z
  .rw[z];exact k
  .exact yb e z
 .obtain⟨n,g,d⟩:=(hf.B.b j l).own c w;rw[e]at g;cases g;rw[i]at d;cases d
def yy3{g:Λ}{n:Nat}(h:1<=n):(refs g n)[0]?=some (.ref (g 0)):=by unfold refs;rw[bq,cy h];rfl
structure yj2(H:Hp)(t:z4)(ts:Ο)(w:Nat):Prop where
 l:H t=some (.lst (ts.map V.int))
 s:Sgs ts
 z:ts.length<=w
def fX(n:Nat)(kd:Ν)(ps:Κ)(pre:Ο)(ts:Ο)(k:Nat):FX:=((FX0 n kd).run (fa0 n ps) pre).run (fa0 n ps) ((dec ts).take k)
def Â(n:Nat)(kd:Ν)(ps:Κ)(pre:Ο)(ts:Ο)(k:Nat):Int:=yqf (fX n kd ps pre ts k).ws ((fX n kd ps pre ts k).cs (fa0 n ps))
def wq(ts:Ο)(k:Nat):Int:=((dec ts)[k]?).getD 0
def yl1(ts:Ο)(k:Nat)(h:k<(dec ts).length):0<=wq ts k/\wq ts k<=1:=by unfold wq;rw[bg h];exact Ï ts _ (cu h)
def vgt(H:Hp)(lx:V)(N w:Nat)(lt:Λ)(tt:Κ):Prop:=((lx=.non/\N=0)\/∃ll,lx=.ref ll/\H ll=some (.lst (refs lt N)))/\∀i,i<N->yj2 H (lt i) (tt i) w
structure vh6(H:Hp)(L tx:z4)(lx:V)(n:Nat)(lk:Λ)(kd:Ν)(tp:Λ)(ps:Κ)(ts:Ο)(N w:Nat)(lt:Λ)(tt:Κ):Prop where
 l:H L=some (.lst (refs lk n))
 n1:1<=n
 n6:n<=6
 r:xx H n lk kd tp ps
 t:yj2 H tx ts 1000
 lr:vgt H lx N w lt tt
 w1:w<=1000
 N1:N<=1000
 b:6+6*(N*(9*w+1))+6*(9*ts.length+1)+20<1000000
structure XOk(n:Nat)(X:FX):Prop where
 w:WOk n X.ws
 s:∀i k,(X.g i k).ok
theorem XOk.cs{n:Nat}{X:FX}(h:XOk n X)(ps:Κ):COk n (X.cs (fa0 n ps)):=by
 exists by unfold FX.cs;rw[bc,bP];rfl,λc a=>?_,λc a=>?_
 .obtain⟨j,_,rfl⟩:=bn.mp a;exact(ye0 (h.s _ _)).1
 .obtain⟨j,_,rfl⟩:=bn.mp a;exact(ye0 (h.s _ _)).2
theorem XOk.see{n:Nat}{X:FX}(h:XOk n X)(n1:1<=n)(n6:n<=6)(ps:Κ){b:Int}(b0:0<=b)(b1:b<=1):XOk n (X.see (fa0 n ps) b):=by
 exists yo7 n1 n6 h.w (h.cs ps),λi k=>?_;show (if k=X.key (fa0 n ps) i then (X.g i k).see b else X.g i k).ok
 split
 .exact Slt.see_ok (h.s i k) b0 b1
 .exact h.s i k
theorem XOk.run{n:Nat}(n1:1<=n)(n6:n<=6)(ps:Κ):∀(bs:Ο){X:FX},XOk n X->ybo bs->XOk n (X.run (fa0 n ps) bs)
 |[],_,h,_=>h
 |b::r,_,h,hb=>XOk.run n1 n6 ps r (h.see n1 n6 ps (hb b (by simp)).1 (hb b (by simp)).2) λc a=>hb c (by simp[a])
def XOk.zero{n:Nat}(n1:1<=n)(n6:n<=6)(kd:Ν):XOk n (FX0 n kd):=⟨vcb n n1 n6,λi Z=>yod (kd i)⟩
def yhz{bs:Ο}(h:ybo bs)(k:Nat):ybo (bs.take k):=λb a=>h b (cL a)
def vdj{n:Nat}(n1:1<=n)(n6:n<=6){kd:Ν}{ps:Κ}{pre:Ο}(hp:ybo pre)(k:Nat):XOk n (fX n kd ps pre ts k):=by unfold fX;exact((XOk.zero n1 n6 kd).run n1 n6 ps pre hp).run n1 n6 ps _ (yhz (Ï ts) k)
def Ű{n:Nat}(n1:1<=n)(n6:n<=6){kd:Ν}{ps:Κ}{pre:Ο}(hp:ybo pre)(k:Nat):Ch (Â n kd ps pre ts k):=yjg n1 (vdj (kd:=kd) (ps:=ps) (ts:=ts) n1 n6 hp k).w ((vdj (kd:=kd) (ps:=ps) (ts:=ts) n1 n6 hp k).cs ps)
#synth yyb ["sign"] va9
inductive yf1(K:z3)(vs:Τ)(H:Hp)(Q:VK)(E':XK):Prop
 |mk(s:Int)(_:vs=[.int s])(_:∀r H',H r=none->H' r=some (.lst ((b8 s).map V.int))->yv H H'->Q (.ref r) H')
def yuo(T:Txt K mg a):vn P w K mg Γ CX0 1 a.Po a.So ["sign"] (yf1 K):=by
 exists T.Ux.F.ok,yyb,u;let⟨q,rfl,k⟩:=h;exists 1,0,yc (yu (we (js:=[0]) (ys:=["sign"]) rfl (yej (w9 rfl T.Jb)) (λC r f t=>(yn u9 (yn wk (pv 1) (pv 0)) yf)) rfl rfl (hyc:=(all_cons rfl ve)) (hrel:=(all_cons rfl ve))));exists a.By,rfl,⟨_,T.w_WORTHS H⟩,λD g=>?_;refine Ĳ (wV q) (T.w_WORTHS H) g (λi y f j e b=>?_) (λf e b=>?_)
 .obtain⟨c,o,rfl,p⟩:∃c,0<c/\y=V.int c/\c<=128:=by
   have l:=bB j;simp only[bw,List.not_mem_nil,or_false]at l;rcases l with rfl|rfl|rfl|rfl|rfl|rfl|rfl|rfl<;>exact⟨_,∅,rfl,∅⟩
  ext;exact Mp.done g (by show 8<sizeLine;decide) j e b rfl
 .exact k D f g b e
#synth yjp ["text","bits","sign"] ["text"] va0
inductive yvh(K:z3)(vs:Τ)(H:Hp)(Q:VK)(E':XK):Prop
 |mk(t:z4)(ns:Ο)(_:vs=[.ref t])(_:H t=some (.lst (ns.map V.int)))(_:Sgs ns)(_:ns.length<=1000)(_:∀r H',H r=none->H' r=some (.lst ((dec ns).map V.int))->yv H H'->Q (.ref r) H')
def ywp(T:Txt K mg a):vn P w K mg Γ CX0 5 a.Pp a.Sq ["text"] (yvh K):=by
 exists T.Uy.F.ok,yjp,R;let⟨t,f,rfl,S,Z,hz,k⟩:=h;exists 1,2,yg (y7 (i:=1) yjp.nd rfl (Or.inl rfl) (vj za)) (yg (ux PassesOwn.never rfl (ww (uf (ytz T) R.m T.Od vt (pa1 (pv 0)))) (wd (i:=2) yjp.nd rfl (Or.inl rfl)) (yg (y6 (uy PySem.F.plainAttrs_list PySem.F.slot_list_append PySem.F.type_list_append wy (pv 1) (pa1 yf))) (yc (y6 (uy PySem.F.plainAttrs_list PySem.F.slot_list_extend PySem.F.type_list_extend Ç (pv 1) (pa1 (ug (yuo T) R.m T.Ux (pa1 (pv 2))))))))) (yg (y6 (uy PySem.F.plainAttrs_list PySem.F.slot_list_append PySem.F.type_list_append wy (pv 1) (pa1 yf))) (yc (yu (pv 1)))));exists by walk_at "len",λr hr0=>?_
 exists hr0,H1,S1,hr1;ext;exists .ref t,_,rfl,.lst (S1 _ _ S),.inr ⟨f.map V.int,Ŭ (S1 _ _ S) Z hz,λc H2 l x O=>?_⟩;have J:=S1.trans O;refine⟨c,rfl,⟨_,SqL.of x⟩,ua (K:=K) (a:=c) (xs:=f.map V.int) (λi σ2 G=>∃v,σ2=[some (.ref t),some (.ref r),v]/\G r=some (.lst ((ybp (f.take i)).map V.int))/\G c=some (.lst (f.map V.int))/\yv H G)
  ⟨_,rfl,O _ _ hr1,x,J⟩ (by rintro i σ2 G _ ⟨_,_,_,z,_⟩;exact SqL.of z) ?_ ?_⟩
 .rintro i y σ2 G X ⟨v,rfl,d,u,L⟩;let⟨z,rfl,a0,M,U⟩:=ξ X;have j:c≠r:=λe=>by rw[e,hr1]at l;cases l
  have n:(List.map V.int (ybp (f.take i))).length<=9000:=by rw[bc,j8,bZ];omega
  ext;refine z6 d ?_;ext;refine xp d (vk ()) ?_;have B:yv H (upd G r (.lst (List.map V.int (ybp (f.take i))++[V.int 1]))):=λb o e=>ym (yb e hr0) (L b o e);have p:upd G r (.lst (List.map V.int (ybp (f.take i))++[V.int 1])) c=some (.lst (f.map V.int)):=ym j u;have g:upd G r (.lst (List.map V.int (ybp (f.take i))++[V.int 1])) r=some (.lst (List.map V.int (ybp (f.take i)++[1]))):=by rw[ya,bD];rfl
  generalize upd G r (.lst (List.map V.int (ybp (f.take i))++[V.int 1]))=G1 at B p g⊢;ext;refine z6 g ?_;ext;exists z,rfl,λq G2 Y D I=>?_;ext;have C:=I _ _ g;exists r,q,_,_,rfl,rfl,C,D,wt (by rw[bc,bc,bf,yoj];rw[bc]at n;show _+1+8<=_;omega),?_;ext;exists _,rfl,?_,?_,λb o e=>ym (yb e hr0) (I _ _ (B b o e))
  .rw[ya,à M,ya9,ykf,ck];rfl
  .exact ym j (I _ _ p)
 .rintro σ2 G ⟨v,rfl,d,u,L⟩;rw[bc,cD]at d;ext;refine z6 d ?_;ext;refine xp d (vk (by rw[bc,j8];omega)) ?_;ext;refine k r _ hr0 ?_ λb o e=>ym (yb e hr0) (L b o e);rw[ya,yms,bD];rfl
#synth yu3 ["self","place"] vc2
inductive yfg(C:z4)(vs:Τ)(H:Hp)(Q:VK)(E':XK):Prop
 |mk(p dx pd:z4)(v1 v2 v3:V)(d:Ο)(k:Nat)(_:vs=[.ref p,.int k])(_:H p=some (.ins C dx (yj5 (.ref pd) v1 v2 v3)))(_:H pd=some (.lst (d.map V.int)))(_:Q (.int ((d[k]?).getD 0)) H)
def vaf(T:Txt K mg a):vn P w K mg Γ CX0 1 a.Pr a.Su ["self","place"] (yfg a.As):=by
 exists T.My.F.ok,yu3,t;let⟨p,m,q,j,i,g,d,l,rfl,r,e,k⟩:=h;exists 2,0,yc (yu (j9 (yx ŷ (pv 1) (pcB yw T.Af (pa1 (yr (pv 0) rfl))) (y9 _)) (xg vy (yr (pv 0) rfl) (pv 1) (λZ Z=>rfl)) yf));refine z5 (SqL.of e) ?_;rw[bc];ext;refine jk (λo=>?_) (λo=>?_)
 .have c:l<d.length:=()
  rw[bg c]at k;ext;exact xo (SqL.of e) (vi (by rw[bq,bg c];rfl)) k
 .rw[bK ()]at k;ext;exact k
#synth yw5 ["self"] vcp
inductive ygu(C D:z4)(vs:Τ)(H:Hp)(Q:VK)(E':XK):Prop
 |mk(p dx pd ps ds:z4)(d:Ο)(x:Sn)(r:Nat)(_:vs=[.ref p])(_:H p=some (.ins C dx (yj5 (.ref pd) (.ref ps) (.int (rn d r)) (.int r))))(_:H pd=some (.lst (d.map V.int)))(_:H ps=some (.ins D ds (j4 x)))(_:p≠ps)(_:OkS x)(_:r<=sz x)(_:∀H',H' p=some (.ins C dx (yj5 (.ref pd) (.ref ps) (.int (rn d (sz x))) (.int x.2.2)))->But p H H'->Q .non H')
def yoa(T:Txt K mg a):vn P w K mg Γ CX0 2 a.Pq a.Ss ["self"] (ygu a.As a.Ad):=by
 exists T.Il.F.ok,yw5,L;let⟨p,l,e,j,o,d,x,r,rfl,t,y,J,g,v,f,k⟩:=h;exists _,(yc (δ PassesOwn.never (yx ŷ (yr (pv 0) rfl) (yr (yr (pv 0) rfl) rfl) (y9 _)) (yg (vh (pv 0) (yn wc (yn xf (yr (pv 0) rfl) yf) (xj (pv 0) T.B0 T.My.m (vaf T) L.m T.My.B .nil wl (pa1 (yr (pv 0) rfl)))) rfl) (yc (vh (pv 0) (yn wc (yr (pv 0) rfl) yf) rfl))))),?_;exists 1,0;have M:=v.sz;exists λm σ' q=>∃r:Nat,σ'=[some (.ref p)]/\q p=some (.ins a.As l (yj5 (.ref e) (.ref j) (.int (rn d r)) (.int r)))/\r<=sz x/\But p H q/\m=sz x-r,⟨_,r,rfl,t,f,But.refl,rfl⟩,?_;rintro m σ2 G ⟨r,rfl,b,u,c,rfl⟩;have C:G j=some (.ins a.Ad o (j4 x)):=c _ _ J g.symm;have i:=c.lst t y;ext;refine jk (λD=>?_) (λD=>?_)
 .refine ybh ?_;ext;exists p,l,e,_,_,_,d,r,rfl,b,i,?_;ext;exists _,?_,r+1,rfl,?_,(),(c.trans But.upd).trans But.upd,rfl
  .omega
  .rw[ya];rfl
 .have I:r=sz x:=()
  subst I;ext;refine k _ ?_ c;rw[<- M];exact b
#synth yze ["self","data"] vbr
inductive ygs(K:z3)(a:Ads)(vs:Τ)(H:Hp)(Q:VK)(E:XK):Prop
 |mk(p dx:z4)(v:V)(n:String)(_:vs=[.ref p,v])(_:H p=some (.ins a.As dx []))(_:xu K H v (.type n))(_:((Bad K H v n 12000/\∀H',yv H H'->E (.ref a.I2) none H')\/∃d:Ο,yuf K H v (d.map V.int) 12000/\∀pd ps ds H',H pd=none->H ps=none->ygc a H' p dx pd ps ds d s0->But p H H'->Q .non H'))
def ywt(T:Txt K mg a):vn P w K mg Γ (CXe P w) 5 a.Ky a.Sr ["self","data"] (ygs K a):=by
 exists T.Uz.F.okE,yze,I;let⟨p,r,v,n,rfl,W,ty,h⟩:=h;exists 2,0,yg (vh (pv 0) (uf (vev T) I.m T.Wp yt (pa1 (pv 1))) rfl) (yg (vh (pv 0) (Ñ T.Nu (yp4 T) I.m rfl T.Nt T.Mo.B .nil wl) rfl) (yg (vh (pv 0) yf rfl) (yg (vh (pv 0) yf rfl) (yc (y6 (wb (pv 0) T.B0 T.Il.m (yoa T) I.m T.Il.B .nil wl))))));exists v,n,rfl,ty,?_;rcases h with⟨Z,k⟩|⟨d,hg,k⟩
 .exact .inl ⟨Z,k⟩
 .refine .inr ⟨d.map V.int,hg,λg C j L R=>?_⟩;have Y:=R _ _ W;have f:g≠p:=λz=>by rw[z,W]at j;cases j
  ext;have M:But p H (upd C p (.ins a.As r ([("data",V.ref g)]:Ι))):=(But.of R).trans But.upd;have q:upd C p (.ins a.As r ([("data",V.ref g)]:Ι)) p=some (.ins a.As r ([("data",V.ref g)]:Ι)):=ya;have x:upd C p (.ins a.As r ([("data",V.ref g)]:Ι)) g=some (.lst (d.map V.int)):=ym f L;generalize upd C p (.ins a.As r ([("data",V.ref g)]:Ι))=H2 at M q x⊢;intro t G i nds ne;exists t,G,rfl,ya,λS u B3=>⟨rfl,?_⟩;have J:yv H2 S:=λb o e=>B3 b o (by rw[yq (yb e i),yq (yb e nds)];exact e) (yb e i);have a0:=J _ _ q;have y:=J _ _ x;have c:p≠t:=yb q i
  have N:H t=none:=by
   cases e:H t with
   |none=>rfl
   |some o=>exact absurd (M _ _ e c.symm) (by rw[i];exact λz=>nomatch z)
  ext;exists p,r,g,t,G,d,s0,0,rfl,ya,?_,?_,c,vf8,bN _,λU D B4=>?_
  .exact ym f (ym f (ym f y))
  .exact ym c.symm (ym c.symm (ym c.symm u))
  .ext;have l:But p S U:=((But.upd.trans But.upd).trans But.upd).trans B4;exact k g t G U j N ⟨D,l _ _ y f,l _ _ u c.symm,c⟩ ((M.trans (But.of J)).trans l)
#synth yne ["self","chance","bit"] ["self","chance"] vdk
inductive ylw(K:z3)(a:Ads)(vs:Τ)(H:Hp)(Q:VK)(E:XK):Prop
 |mk(p dx pd ps ds:z4)(d:Ο)(x:Sn)(v:V)(n:String)(_:vs=[.ref p,v])(_:ygc a H p dx pd ps ds d x)(_:OkS x)(_:xu K H v (.type n))(_:(chV v=false->E (.ref a.Je) none H))(_:∀c:Int,v=.int c->Ch c->∀H',ygc a H' p dx pd ps ds d (nar x c (ò d x c))->yj7 p ps H H'->Q (.int (ò d x c)) H')
def yu4{x:Sn}{c b:Int}(h:Ok x)(hc:Ch c):sz x<=sz (nar x c b):=by
 let⟨r,e⟩:=vbh (if b=1 then x.1 else x.1+cut x.2.1 c) (if b=1 then cut x.2.1 c else x.2.1-cut x.2.1 c) x.2.2
 have a:nar x c b=ren (if b=1 then x.1 else x.1+cut x.2.1 c) (if b=1 then cut x.2.1 c else x.2.1-cut x.2.1 c) x.2.2:=by
  unfold nar
  split<;>rfl
 rw[a,e];unfold sz;dsimp only;omega
def ywg(T:Txt K mg a):vn P w K mg Γ (CXe P w) 5 a.Ps a.Sv ["self","chance"] (ylw K a):=by
 exists T.Mz.F.okE,yne,C;let⟨p,N,J,o,q,d,x,v,n,rfl,l,u,ty,k1,k⟩:=h;exists 2,1,yg (y6 (uf (yt5 T) C.m T.Oe yt (pa1 (pv 1)))) (yg (Ě (y7 (i:=2) yne.nd rfl (Or.inl rfl) (j9 (yx ŷ (yr (pv 0) rfl) (yn wc (yr (yr (pv 0) rfl) rfl) (xj (yr (pv 0) rfl) T.Ao T.Ie.m (yp9 T) C.m T.Ie.B .nil wl (pa1 (pv 1)))) (y9 _)) yf yf))) (yg (y6 (yz (yr (pv 0) rfl) T.Ao T.If.m (yoe T) C.m T.If.B .nil yt (pac (pv 1) (pa1 (pv 2))))) (yg (y6 (wb (pv 0) T.B0 T.Il.m (yoa T) C.m T.Il.B .nil wl)) (yc (yu (pv 2))))));exists v,n,rfl,ty,λhv=>?_,k1;let⟨c,rfl,S,Z⟩:=ycm hv;have r:Ch c:=⟨S,Z⟩;have k:=k c rfl r;have D:=l.me;have e:=l.sp;ext;refine ym2 (λσ' R=>σ'=[some (.ref p),some (.int c),some (.int (ò d x c))]/\H=R) ?_ ?_
 .ext;exists o,q,_,rfl,e,lkN _ (by right) (by right) (by right),?_;ext;exists o,q,x,c,rfl,e,r,?_;ext;unfold ò;refine jk (λy=>?_) (λy=>?_)
  .rw[if_pos y];ext;exists rfl,rfl
  .rw[if_neg y];ext;exists rfl,rfl
 .rintro σ' R ⟨rfl,rfl⟩;have I:=ū d x c;generalize y:ò d x c=b at I k⊢;ext;exists o,q,_,rfl,e,lkN _ (by right) (by right) (by right),?_;ext;exists o,q,x,.int c,.int b,_,_,rfl,e,u.ok,.int c,.int b,(λz=>by rw[yea r]at z;cases z),(λF z=>by rw[yc1 () ()]at z;cases z),λU b' ec X F F F H1 t G=>?_;obtain rfl:c=U:=V.int.inj ec;obtain rfl:b=b':=V.int.inj X;have g:=G _ _ D l.ne;have f:=G.lst e l.dt;ext;have j:H1 p=some (.ins a.As N (yj5 (.ref J) (.ref o) (.int (rn d (sz x))) (.int ((sz x:Nat):Int)))):=by rw[u.sz];exact g
  exists p,N,J,o,q,d,nar x c b,sz x,rfl,j,f,t,l.ne,ycl u r,yu4 u.ok r,λY L M=>?_;ext;exact k Y ⟨L,M.lst g f,M _ _ t l.ne.symm,l.ne⟩ (G.two'.trans M.two)
#synth yy2 ["self"] vbt
inductive ygx(a:Ads)(vs:Τ)(H:Hp)(Q:VK)(E':XK):Prop
 |mk(p dx pd ps ds:z4)(d:Ο)(x:Sn)(_:vs=[.ref p])(_:ygc a H p dx pd ps ds d x)(_:OkS x)(_:sz x<=tMx)(_:∀t H',H t=none->H' t=some (.lst ((tL x).map V.int))->yv H H'->Q (.ref t) H')
def yyh(T:Txt K mg a):vn P w K mg Γ CX0 4 a.Pt a.Sw ["self"] (ygx a):=by exists T.N2.F.ok,yy2,r;let⟨p,o,t,f,e,d,x,rfl,g,l,i,k⟩:=h;have n:=g.me;have b:=g.sp;exists 1,0,yc (yu (wb (yr (pv 0) rfl) T.Ao T.Ig.m (yos T) r.m T.Ig.B .nil wl));exists f,e,_,rfl,b,lkN _ (by right) (by right) (by right),?_;ext;exists f,e,x,rfl,b,l,i,k
#synth yzf ["looks","text","learned","steps","given","chance","bit"] ["looks","text","learned"] vcz
def ysj:Sp:=λZ Z Z Z=>False
def yvu(T:Txt K mg a):vn P w K mg Γ CX0 1 a.Kz a.Js ["looks","text","learned"] ysj:=by refine T.V0.ok yzf (λd H Q E h=>h.elim) (λc A b s H d Q E e h=>h.elim)
def snK(mx bt:Nat->Int):Nat->Sn
 |0=>s0
 |k+1=>nar (snK mx bt k) (mx k) (bt k)
theorem Õ{mx:Nat->Int}:∀m,(∀j,j<m->Ch (mx j))->OkS (snK mx bt m)/\(snK mx bt m).2.2<=5+2*(m:Int)
 |0,_=>⟨vf8,by show (5:Int)<=5+2*((0:Nat):Int);decide⟩
 |m+1,h=>by
  let⟨a,d⟩:=Õ m λj e=>h j ();exists ycl a (h m ()),?_;have:=yzv (c:=mx m) (b:=bt m) a.ok;show (nar (snK mx bt m) (mx m) (bt m)).2.2<=_;omega
theorem ya5{mx my bu:Nat->Int}:∀m,(∀j,j<m->mx j=my j/\bt j=bu j)->snK mx bt m=snK my bu m
 |0,_=>rfl
 |m+1,h=>by
  show nar (snK mx bt m) (mx m) (bt m)=nar (snK my bu m) (my m) (bu m);rw[ya5 m λj a=>h j (),(h m ()).1,(h m ()).2]
def FGo.but{p:z4}{A:FA}{H H1 H2:Hp}{el:z4}{o':HO}(h:FGo p A O H H1 el O')(hq:H q=none)(B:But q H1 H2)(hq2:H2 q=some o'):FGo p A O H H2 el O' :=
 ⟨h.he,h.hO,λc o e b d f a=>B _ _ (h.fr c o e b d f a) (yb e hq),λc o e=>let ⟨o1,w⟩:=h.live c o e;⟨o1,B _ _ w (yb e hq)⟩⟩
def jj.but{H H':Hp}{p C:z4}{A:FA}{X:FX}{f:Α}{m:Nat}{fs:Ι}(h:jj K a H p A X f O m)(hq:H q=some (.ins C dq fs))(hl:fs.length=3)(nO:∀i,i<A.n->¬O i q)(B:But q H H'):jj K a H' p A X f O m:=by
 refine h.frame (O2:=λc=>c=q) (λc o e j=>B c o e j) (λz=>zb h.me hq (by rw[hl];show ¬(6=3);decide) z) (λz=>zb h.mx.o hq (by rw[hl];show ¬(1=3);decide) z) (λi d z=>zb (h.B.b i d).me hq (by rw[hl];show ¬(2=3);decide) z) (λi c d w z=>nO i d (z ▸ w)) (λl g Z e=>B.lst hq e) (λt g e=>?_);rcases e with(e|⟨o,e⟩)|e
 .exact .inl (.inl (B _ _ e (λz=>by rw[z,hq]at e;cases e)))
 .exact .inl (.inr ⟨o,B _ _ e (λz=>by rw[z,hq]at e;cases e)⟩)
 .exact .inr e
def ygb(A:FA)(X:FX)(ts:Ο)(k:Nat):Int:=yqf (X.run A ((dec ts).take k)).ws ((X.run A ((dec ts).take k)).cs A)
#synth yjy ["foreteller","text","span","bit"] ["foreteller","text"] vbk
inductive ydh(K:z3)(a:Ads)(vs:Τ)(H:Hp)(Q:VK)(E':XK):Prop
 |mk(p:z4)(A:FA)(X:FX)(f:Α)(O:Β)(m:Nat)(tx:z4)(ts:Ο)(_:vs=[.ref p,.ref tx])(_:jj K a H p A X f O m)(_:X.sg=[])(_:X.nd=0)(_:yj2 H tx ts 1000)(_:tx≠A.el)(_:m+6*(dec ts).length+20<1000000)(_:∀(r ml el pl:z4)(sl:Λ)(f':Α)(O':Β)(m':Nat)(H':Hp),H r=none->H' r=some (.lst ((tL (snK (ygb A X ts) (wq ts) (dec ts).length)).map V.int))->jj K a H' p (A.re ml el pl sl) (X.run A (dec ts)) f' O' m'->m'<=m+6*(dec ts).length->FGo p A O H H' el O'->Q (.ref r) H')
def yw0(T:Txt K mg a):vn P w K mg Γ CX0 7 a.Pu a.Sy ["foreteller","text"] (ydh K a):=by
 exists T.V5.F.ok,yjy,hr;let⟨p,c,X,f,O,m,tx,d,rfl,hF,az,ai,Z,aB,hm,k⟩:=h;have aF:=zn d;have hz:=Z.z;have Y:=Z.s;refine yh (y7 (i:=2) yjy.nd rfl (Or.inl rfl) (Ñ T.Nu (yp4 T) hr.m rfl T.Nt T.Mo.B .nil wl)) ?_;refine yh (ux PassesOwn.never rfl (ww (ug (ywp T) hr.m T.Uy (pa1 (pv 1)))) (wd (i:=3) yjy.nd rfl (Or.inl rfl)) (yg (y6 (yz (pv 2) T.Ao T.If.m (yoe T) hr.m T.If.B .nil vt (pac (wb (pv 0) T.Aq T.Ij.m (ynn T) hr.m T.Ij.B .nil wl) (pa1 (pv 3))))) (yc (y6 (xj (pv 0) T.Aq T.Ik.m (yox T) hr.m T.Ik.B .nil wl (pa1 (pv 3))))))) ?_;exists 2,2,yc (yu (wb (pv 2) T.Ao T.Ig.m (yos T) hr.m T.Ig.B .nil wl));intro q U nq ax aG;have SQ:yv H (upd (upd H U (.own q)) q (.ins a.Ad U [])):=λb o e=>by rw[yq (yb e nq),yq (yb e ax)];exact e
 exists q,U,rfl,ya,λH1 aj B1=>⟨rfl,?_⟩;have S1:yv H H1:=λb o e=>B1 b o (SQ b o e) (yb e nq);ext;exists tx,d,rfl,S1 _ _ Z.l,Y,(),λbt H2 a7 S S2=>?_
 have ab:=S1.trans S2;have am:=hF.same ab;have ay:bt≠c.el:=(yb (hF.same S1).el a7).symm
 have ag:∀i,i<c.n->¬O i q:=λi hi w=>by
  let⟨o,ho,_⟩:=(hF.B.b i hi).own q w;rw[nq]at ho;cases ho
 refine⟨bt,rfl,⟨_,SqL.of S⟩,ua (K:=K) (a:=bt) (xs:=(dec d).map V.int) (λj σ2 G=>∃(v:qj V)(ml el pl:z4)(sl:Λ)(f':Α)(O':Β),σ2=[some (.ref p),some (.ref tx),some (.ref q),v]/\jj K a G p (c.re ml el pl sl) (X.run c ((dec d).take j)) f' O' (m+6*j)/\FGo p c O H G el O'/\TxE d j (X.run c ((dec d).take j)).sg (X.run c ((dec d).take j)).nd/\G q=some (.ins a.Ad U (j4 (snK (ygb c X d) (wq d) j)))/\(∀i,i<c.n->¬O' i q)/\(G bt=some (.lst ((dec d).map V.int))/\bt≠el)/\(∀i,i<j->Ch (ygb c X d i)))
  ⟨_,c.ml,c.el,c.pl,c.sl,f,O,rfl,am,FGo.refl.same ab,.inl ⟨bN _,by show ydc _ _ X.sg X.nd;rw[az,ai];exact ydc.zero _⟩,S2 _ _ aj,ag,⟨S,ay⟩,λi hi=>absurd hi (ce i)⟩ (by rintro j σ2 G _ ⟨_,_,_,_,_,_,_,_,_,_,_,_,_,z,_⟩;exact SqL.of z.1) ?_ ?_⟩
 .rintro j y σ2 G hy ⟨v,J,x,M,D,f1,O1,rfl,g,go,hT,u,N,⟨a8,W⟩,L⟩;let⟨b,rfl,ae,hb,hj⟩:=ξ hy;let⟨b0,b1⟩:=Ï _ b ae;let⟨a2,av⟩:=hT.next Y hb;let⟨ad,aA⟩:=a2.nd Y;have aH:=a2.len;have a6:wq d j=b:=by unfold wq;rw[hb];rfl
  have aE:=g.me;have a9:Ch (ygb c X d j):=yjg g.n1 g.wok g.cok;have ap:=yea a9;have ac:=yc1 b0 b1;let⟨a0,ak⟩:=Õ (mx:=ygb c X d) (bt:=wq d) j L;ext;exists q,U,_,rfl,u,lkN _ (by right) (by right) (by right),?_;ext;exists p,c.re J x M D,_,f1,O1,_,rfl,g,λG1 R=>?_;ext;exists q,U,_,.int (ygb c X d j),.int b,_,_,rfl,R _ _ u,a0.ok,.int _,.int _,λz=>(by rw[ap]at z;cases z),λF z=>(by rw[ac]at z;cases z),λc' b' ec eb F F F G2 C B2=>?_;cases ec;cases eb;have t:=(g.same R).but (R _ _ u) rfl N B2;have as:FGo p c O H G2 x O1:=(go.same R).but nq B2 C;have I:G2 bt=some (.lst ((dec d).map V.int)):=B2.lst (R _ _ u) (R _ _ a8);have aC:=t.me;have n6:=g.n6;ext;exists p,c.re J x M D,_,f1,O1,m+6*j,b,rfl,t,b0,b1,(),ad,(),λal a5 af ao f3 O3 G3 aq ah a3 a1 ar F=>?_
  have a4:FGo p (c.re J x M D) O1 G2 G3 a5 O3:=⟨aq,a3,a1,ar⟩;have aa:=a4.kpa t;ext;exists _,al,a5,af,ao,f3,O3,rfl,?_,as.trans a4,?_,?_,λi hi w=>?_,⟨(aa _ _ I rfl W).2,(aa _ _ I rfl W).1⟩,λi hi=>?_
  .rw[ø hb];exact ah.up (by show m+6*j+c.n<=_;have:c.n<=6:=n6;omega)
  .rw[ø hb];exact av
  .have e:snK (ygb c X d) (wq d) (j+1)=nar (snK (ygb c X d) (wq d) j) (ygb c X d j) b:=by show nar _ _ (wq d j)=_;rw[a6]
   rw[e];exact a1 _ _ C (zb C t.me (show ¬(3=6) by decide)) (zb C t.mx.o (show ¬(3=1) by decide)) (λz=>by have e:=t.el;rw[<- z,C]at e;cases e) N
  .rcases a3 i q hi w with v|v
   .exact N i hi v
   .rw[C]at v;cases v
  .by_cases z:i=j
   .rw[z];exact a9
   .exact L i ()
 .rintro σ2 G ⟨v,J,x,M,D,f1,O1,rfl,g,go,hT,u,N,_,L⟩;rw[bc]at g u L;rw[cD]at g;let⟨a0,ak⟩:=Õ (mx:=ygb c X d) (bt:=wq d) (dec d).length L;ext;exists q,U,_,rfl,u,lkN _ (by right) (by right) (by right),?_;ext;exists q,U,_,rfl,u,a0,by show Int.toNat _<=100000;omega,λr G1 an aw R=>?_
  exact k r J x M D f1 O1 _ G1 (go.free an) aw (g.same R) (bj _) (go.same R)
structure RGo(p q s:z4)(A:FA)(O:Β)(H H':Hp)(ml el:z4)(O':Β):Prop where
 hm:ml=A.ml\/H ml=none
 he:el=A.el\/H el=none
 hO:∀j c,j<A.n->O' j c->O j c\/H c=none
 fr:∀c o,H c=some o->c≠p->c≠A.mp->c≠A.el->c≠q->c≠s->(∀j,j<A.n->¬O j c)->H' c=some o
 live:∀c o,H c=some o->∃o',H' c=some o'
def RGo.free{p s:z4}{A:FA}{H H':Hp}{ml el c:z4}(h:RGo p q s A O H H' ml el O')(hc:H' c=none):H c=none:=by
 cases e:H c with
 |none=>rfl
 |some o =>
  let⟨a,w⟩:=h.live c o e;rw[hc]at w;cases w
def RGo.refl{p s:z4}{A:FA}{H:Hp}:RGo p q s A O H H A.ml A.el O:=⟨.inl rfl,.inl rfl,λZ Z Z w=>.inl w,λZ Z e Z Z Z Z Z Z=>e,λZ o e=>⟨o,e⟩⟩
theorem RGo.trans{p s:z4}{A:FA}{O1:Β}{H H1 H2:Hp}{ml el pl ml2 el2:z4}{sl:Λ}(h:RGo p q s A O H H1 ml el O1)(k:RGo p q s (A.re ml el pl sl) O1 H1 H2 ml2 el2 O2):RGo p q s A O H H2 ml2 el2 O2:=by
 exists ?_,?_,λj c a w=>?_,λc o e b i d f g l=>?_,λc o e=>?_
 .rcases k.hm with z|z
  .rcases h.hm with y|y
   .exact .inl (z.trans y)
   .exact .inr (by rw[show ml2=ml from z];exact y)
  .exact .inr (h.free z)
 .rcases k.he with z|z
  .rcases h.he with y|y
   .exact .inl (z.trans y)
   .exact .inr (by rw[show el2=el from z];exact y)
  .exact .inr (h.free z)
 .rcases k.hO j c a w with v|v
  .exact h.hO j c a v
  .exact .inr (h.free v)
 .refine k.fr c o (h.fr c o e b i d f g l) b i (λz=>?_) f g (λj a w=>?_)
  .rcases h.he with y|y
   .exact d (z.trans y)
   .rw[show c=el from z,y]at e;cases e
  .rcases h.hO j c a w with v|v
   .exact l j a v
   .rw[e]at v;cases v
 .obtain⟨m,n⟩:=h.live c o e;exact k.live c m n
def RGo.same{p s:z4}{A:FA}{H H1 H2:Hp}{ml el:z4}(h:RGo p q s A O H H1 ml el O')(S:yv H1 H2):RGo p q s A O H H2 ml el O' :=
 ⟨h.hm,h.he,h.hO,λc o e a g b d f i=>S _ _ (h.fr c o e a g b d f i),λc o e=>let ⟨o',w⟩:=h.live c o e;⟨o',S _ _ w⟩⟩
structure Ã(K:z3)(a:Ads)(H:Hp)(p:z4)(A:FA)(X:FX)(f:Α)(O:Β)(m:Nat)(q dx pd s ds:z4)(d:Ο)(x:Sn):Prop where
 ft:jj K a H p A X f O m
 sk:ygc a H q dx pd s ds d x
 ok:OkS x
 nO:∀i,i<A.n->¬O i q/\¬O i s
 nd:pd≠A.el
theorem Ã.same{H H':Hp}{p:z4}{A:FA}{X:FX}{f:Α}{m:Nat}{dx pd s:z4}{x:Sn}(h:Ã K a H p A X f O m q dx pd s ds d x)(S:yv H H'):Ã K a H' p A X f O m q dx pd s ds d x:=⟨h.ft.same S,h.sk.same S,h.ok,h.nO,h.nd⟩
def chX(A:FA)(X:FX):Int:=yqf X.ws (X.cs A)
def jj.but2{H H':Hp}{p:z4}{A:FA}{X:FX}{f:Α}{m:Nat}{dx pd s:z4}{x:Sn}(h:Ã K a H p A X f O m q dx pd s ds d x)(B:yj7 q s H H'):jj K a H' p A X f O m:=by
 have j:=h.sk.me;have k:=h.sk.sp;refine h.ft.frame (O2:=λc=>c=q\/c=s) (λc o e n=>B c o e (λz=>n (.inl z)) (λz=>n (.inr z))) (λz=>?_) (λz=>?_) (λi g z=>?_) (λi c g w z=>?_) (λl r Z e=>h.sk.lst B e) (λt r e=>?_)
 .rcases z with z|z
  .exact zb h.ft.me j (show ¬(6=4) by decide) z
  .exact zb h.ft.me k (show ¬(6=3) by decide) z
 .rcases z with z|z
  .exact zb h.ft.mx.o j (show ¬(1=4) by decide) z
  .exact zb h.ft.mx.o k (show ¬(1=3) by decide) z
 .rcases z with z|z
  .exact zb (h.ft.B.b i g).me j (show ¬(2=4) by decide) z
  .exact zb (h.ft.B.b i g).me k (show ¬(2=3) by decide) z
 .rcases z with z|z
  .exact(h.nO i g).1 (z ▸ w)
  .exact(h.nO i g).2 (z ▸ w)
 .rcases e with(e|⟨o,e⟩)|e
  .exact .inl (.inl (h.sk.tup B e))
  .exact .inl (.inr ⟨o,B _ _ e (xr e j (by intro z;cases z)) (xr e k (by intro z;cases z))⟩)
  .exact .inr e
#synth ynr ["foreteller","seeker","bit"] ["foreteller","seeker"] vaw
inductive ydu(K:z3)(a:Ads)(vs:Τ)(H:Hp)(Q:VK)(E':XK):Prop
 |mk(p:z4)(A:FA)(X:FX)(f:Α)(O:Β)(m:Nat)(q dx pd s ds:z4)(d:Ο)(x:Sn)(_:vs=[.ref p,.ref q])(_:Ã K a H p A X f O m q dx pd s ds d x)(_:m+20<1000000)(_:0<=X.nd)(_:X.sg.length<=100000)(_:∀(ml el pl:z4)(sl:Λ)(f':Α)(O':Β)(H':Hp),Ã K a H' p (A.re ml el pl sl) (X.see A (ò d x (chX A X))) f' O' (m+A.n) q dx pd s ds d (nar x (chX A X) (ò d x (chX A X)))->RGo p q s A O H H' ml el O'->Q (.int (ò d x (chX A X))) H')
def yn9(T:Txt K mg a):vn P w K mg Γ CX0 7 a.Pv a.Sz ["foreteller","seeker"] (ydu K a):=by
 exists T.N3.F.ok,ynr,hr;let⟨p,t,X,f,O,m,q,dx,pd,u,ds,d,x,rfl,n,hm,W,a3,k⟩:=h;have hp:=n.ft.me;have hq:=n.sk.me;have R:Ch (chX t X):=yjg n.ft.n1 n.ft.wok n.ft.cok;have Y:=yea R;exists 2,1,yg (y7 (i:=2) ynr.nd rfl (Or.inl rfl) (yz (pv 1) T.B0 T.Mz.m (ywg T) hr.m T.Mz.B .nil vt (pa1 (wb (pv 0) T.Aq T.Ij.m (ynn T) hr.m T.Ij.B .nil wl)))) (yg (y6 (xj (pv 0) T.Aq T.Ik.m (yox T) hr.m T.Ik.B .nil wl (pa1 (pv 2)))) (yc (yu (pv 2))));exists p,t,X,f,O,m,rfl,n.ft,λH1 D=>?_;have J:=n.same D;ext;exists q,dx,pd,u,ds,d,x,.int (chX t X),_,rfl,J.sk,n.ok,.int _,λz=>(by rw[Y]at z;cases z),λc' ec F H2 g G=>?_;cases ec;have l:=jj.but2 J G;have a8:=l.me
 obtain⟨b0,b1⟩:0<=ò d x (chX t X)/\ò d x (chX t X)<=1:=by
  rcases ū d x (chX t X)with e|e<;>(rw[e];decide)
 generalize hb:ò d x (chX t X)=b at b0 b1 g k;ext;exists p,t,X,f,O,m,b,rfl,l,b0,b1,hm,W,a3,λN L pl sl f' O' H3 he a4 hO U lv r=>?_;have Z:q≠p:=zb g.me l.me (show ¬(4=6) by decide);have a2:q≠t.mp:=zb g.me l.mx.o (show ¬(4=1) by decide);have a1:u≠p:=zb g.sp l.me (show ¬(3=6) by decide);have a0:u≠t.mp:=zb g.sp l.mx.o (show ¬(3=1) by decide)
 have S:∀{c C dc:z4}{fs:Ι},H2 c=some (.ins C dc fs)->c≠t.el:=λe z=>by
  have e2:=l.el;rw[<- z,e]at e2;cases e2
 have M:=U _ _ g.me Z a2 (S g.me) λi y=>(n.nO i y).1;have I:=U _ _ g.sp a1 a0 (S g.sp) λi y=>(n.nO i y).2;have a5:H3 pd=some (.lst (d.map V.int)):=U _ _ g.dt (λz=>by have e:=g.dt;rw[z,l.me]at e;cases e) (λz=>by have e:=g.dt;rw[z,l.mx.o]at e;cases e) n.nd (l.B.nlst g.dt);ext;refine k N L pl sl f' O' H3 ⟨a4,⟨M,a5,I,g.ne⟩,ycl n.ok R,λi y=>⟨λw=>?_,λw=>?_⟩,?_⟩ ⟨.inr ?_,?_,λj c hj w=>?_,λc o e c1 c2 c3 c4 c5 no=>?_,λc o e=>?_⟩
 .rcases hO i q y w with v|v
  .exact(n.nO i y).1 v
  .rw[g.me]at v;cases v
 .rcases hO i u y w with v|v
  .exact(n.nO i y).2 v
  .rw[g.sp]at v;cases v
 .rcases he with z|z
  .rw[show (t.re N L pl sl).el=t.el from z];exact n.nd
  .exact yb g.dt z
 .cases e:H N with
  |none=>rfl
  |some o =>
   by_cases z1:N=q
   .rw[z1,g.me]at r;cases r
   by_cases z2:N=u
   .rw[z2,g.sp]at r;cases r
   rw[G _ _ (D _ _ e) z1 z2]at r;cases r
 .rcases he with z|z
  .exact .inl z
  .refine .inr ?_
   cases e:H L with
   |none=>rfl
   |some o =>
    by_cases z1:L=q
    .rw[z1,g.me]at z;cases z
    by_cases z2:L=u
    .rw[z2,g.sp]at z;cases z
    rw[G _ _ (D _ _ e) z1 z2]at z;cases z
 .rcases hO j c hj w with v|v
  .exact .inl v
  .refine .inr ?_
   cases e:H c with
   |none=>rfl
   |some o =>
    by_cases z1:c=q
    .rw[z1,g.me]at v;cases v
    by_cases z2:c=u
    .rw[z2,g.sp]at v;cases v
    rw[G _ _ (D _ _ e) z1 z2]at v;cases v
 .exact U c o (G _ _ (D _ _ e) c4 c5) c1 c2 c3 no
 .by_cases z1:c=q
  .exists _,z1 ▸ M
  by_cases z2:c=u
  .exists _,z2 ▸ I
  exact lv c o (G _ _ (D _ _ e) z1 z2)
def rnx(A:FA)(d:Ο)(S:FX×Sn):FX×Sn:=(S.1.see A (ò d S.2 (chX A S.1)),nar S.2 (chX A S.1) (ò d S.2 (chX A S.1)))
def rst(A:FA)(d:Ο)(S:FX×Sn):Nat->FX×Sn
 |0=>S
 |n+1=>rnx A d (rst A d S n)
def Û(A:FA)(d:Ο)(S:FX×Sn)(n:Nat):Int:=ò d (rst A d S n).2 (chX A (rst A d S n).1)
def ynl(A:FA)(d:Ο)(S:FX×Sn)(n:Nat):Û A d S n=0\/Û A d S n=1:=ū _ _ _
theorem ycg(A:FA)(d:Ο)(S:FX×Sn)(k:Nat):∀n,rst A d (rst A d S k) n=rst A d S (k+n)
 |0=>rfl
 |n+1=>congrArg (rnx A d) (ycg A d S k n)
theorem yjs(A:FA)(d:Ο)(S:FX×Sn)(ml el pl:z4)(sl:Λ):∀n,rst (A.re ml el pl sl) d S n=rst A d S n
 |0=>rfl
 |n+1=>by
  show rnx (A.re ml el pl sl) d (rst (A.re ml el pl sl) d S n)=_;rw[yjs A d S ml el pl sl n];rfl
def yy8(A:FA)(X:FX)(b:Int)(h:0<=X.nd)(hb:0<=b):0<=(X.see A b).nd:=by
 show 0<=ndN X.nd b;unfold ndN
 split
 .split<;>omega
 .split<;>omega
def yuy(A:FA)(X:FX)(b:Int):(X.see A b).sg.length<=X.sg.length+1:=by
 show (sgN X.sg X.nd b).length<=_;unfold sgN
 split
 .split
  .rw[bf];exact bj _
  .omega
 .split
  .omega
  .exact bN _
theorem yef(A:FA)(d:Ο)(S:FX×Sn)(h:0<=S.1.nd):∀n,0<=(rst A d S n).1.nd
 |0=>h
 |n+1=>yy8 A _ _ (yef A d S h n) (by rcases ynl A d S n with e|e<;>(unfold Û at e;rw[e];decide))
theorem yev(A:FA)(d:Ο)(S:FX×Sn):∀n,(rst A d S n).1.sg.length<=S.1.sg.length+n
 |0=>bj _
 |n+1=>bX (yuy A _ _) (Nat.succ_le_succ (yev A d S n))
theorem Ã.app{H:Hp}{p R:z4}{A:FA}{X:FX}{f:Α}{m:Nat}{dx pd s:z4}{x:Sn}{xs ys:Τ}(h:Ã K a H p A X f O m q dx pd s ds d x)(hR:H R=some (.lst xs))(hq:∀q,(q=A.bl\/q=A.el\/q=A.ml\/q=A.pl)->q≠R)(np:pd≠R):Ã K a (upd H R (.lst ys)) p A X f O m q dx pd s ds d x:=by
 exists h.ft.app hR hq,⟨ym (λz=>?_) h.sk.me,ym np h.sk.dt,ym (λz=>?_) h.sk.sp,h.sk.ne⟩,h.ok,h.nO,h.nd
 .have e:=h.sk.me;rw[z,hR]at e;cases e
 .have e:=h.sk.sp;rw[z,hR]at e;cases e
def Ã.notN{H:Hp}{p R:z4}{A:FA}{X:FX}{f:Α}{m:Nat}{dx pd s:z4}{x:Sn}(h:Ã K a H p A X f O m q dx pd s ds d x)(hR:H R=some (.lst (xs.map V.int)))(nm:R≠A.ml)(ne:R≠A.el):∀q,(q=A.bl\/q=A.el\/q=A.ml\/q=A.pl)->q≠R:=λq i z=>by
 have j:=h.ft.n1
 have b:∀(g:Λ),xs.map V.int=refs g A.n->False:=λg e=>by
  have c:(refs g A.n)[0]?=some (V.ref (g 0)):=yy3 j;rw[<- e,bq]at c
  cases w:xs[0]? with
  |none=>rw[w]at c;cases c
  |some y=>rw[w]at c;cases c
 rcases i with y|y|y|y
 .have e:=h.ft.bl;rw[<- y,z,hR]at e;exact b _ (HO.lst.inj (bC e))
 .exact ne (z.symm.trans y)
 .exact nm (z.symm.trans y)
 .have e:=h.ft.pl;rw[<- y,z,hR]at e;exact b _ (HO.lst.inj (bC e))
def RGo.app{p s R:z4}{A:FA}{H H1:Hp}{ml el:z4}{o':HO}(h:RGo p q s A O H H1 ml el O')(hR:H R=none):RGo p q s A O H (upd H1 R o') ml el O' :=
 ⟨h.hm,h.he,h.hO,λc o e a g b d f i=>ym (yb e hR) (h.fr c o e a g b d f i),λc o e=>let ⟨o1,w⟩:=h.live c o e;⟨o1,ym (yb e hR) w⟩⟩
noncomputable def wB(i:Nat):Int:=([128,64,32,16,8,4,2,1]:Ο)[i]?.getD 0
def ve6(i:Nat):0<=wB i/\wB i<=128:=by
 rcases i with _|_|_|_|_|_|_|_|i
 .exists by decide,∅
 .exists by decide,∅
 .exists by decide,∅
 .exists by decide,∅
 .exists by decide,∅
 .exists by decide,∅
 .exists by decide,∅
 .exists by decide,∅
 .exists by show (0:Int)<=0;decide,by show (0:Int)<=128;decide
def sgB(A:FA)(d:Ο)(S:FX×Sn)(i:Nat):Ο:=(List.range i).map λj=>wB j*Û A d S j
def yly(A:FA)(d:Ο)(S:FX×Sn)(i:Nat):sgB A d S (i+1)=sgB A d S i++[wB i*Û A d S i]:=by unfold sgB;rw[List.range_succ,bD];rfl
#synth yyw ["foreteller","seeker"] vay
inductive yaw(K:z3)(a:Ads)(vs:Τ)(H:Hp)(Q:VK)(E':XK):Prop
 |mk(p:z4)(A:FA)(S:FX×Sn)(f:Α)(O:Β)(m:Nat)(q dx pd s ds:z4)(d:Ο)(_:vs=[.ref p,.ref q])(_:Ã K a H p A S.1 f O m q dx pd s ds d S.2)(_:m+80<1000000)(_:0<=S.1.nd)(_:S.1.sg.length<=90000)(_:∀(ml el pl:z4)(sl:Λ)(f':Α)(O':Β)(H':Hp),Ã K a H' p (A.re ml el pl sl) (rst A d S 8).1 f' O' (m+8*A.n) q dx pd s ds d (rst A d S 8).2->RGo p q s A O H H' ml el O'->Q (.int (sgB A d S 8).sum) H')
def yve(T:Txt K mg a):vn P w K mg Γ CX0 8 a.Pw a.T6 ["foreteller","seeker"] (yaw K a):=by
 exists T.V6.F.ok,yyw,hr;let⟨p,b,S,f,O,m,q,dx,pd,Z,ds,d,rfl,M,hm,a2,a9,k⟩:=h;have n6:=M.ft.n6;exists 2,0,yc (yu (pcB (Ò rfl) T.J8 (pa1 (we (js:=[1,0]) (ys:=["seeker","foreteller"]) rfl (yej (w9 rfl T.Jb)) (λC s2 H2 fp=>(yn xf (pv 0) (ug (yn9 T) hr.m T.N3 (pac (pv 2) (pa1 (pv 1)))))) rfl rfl (hyc:=(all_cons rfl (all_cons rfl ve))) (hrel:=(all_cons rfl (all_cons rfl ve)))))));exists a.By,rfl,⟨_,T.w_WORTHS H⟩,λD I=>?_;refine ya4 (xs:=[.int 128,.int 64,.int 32,.int 16,.int 8,.int 4,.int 2,.int 1]) (λi G=>∃(u t J:z4)(U:Λ)(f':Α)(O':Β),Ã K a G p (b.re u t J U) (rst b d S i).1 f' O' (m+i*b.n) q dx pd Z ds d (rst b d S i).2/\RGo p q Z b O H G u t O'/\G D=some (.lst ((sgB b d S i).map V.int))/\D≠u/\D≠t) ?_ (λi G F F=>T.w_WORTHS G) ?_ ?_
 .have S1:yv H (upd H D (.lst [])):=vg I;exists b.ml,b.el,b.pl,b.sl,f,O,?_,RGo.refl.same S1,ya,(yb M.ft.mx.l I).symm,(yb M.ft.el I).symm;rw[Nat.zero_mul];exact M.same S1
 .rintro i y G j a4 ⟨u,t,J,U,f1,O1,e,r,c,W,v⟩;have hi:i<8:=a4
  obtain rfl:y=V.int (wB i):=by
   rcases i with _|_|_|_|_|_|_|_|i
   .exact(bC j).symm
   .exact(bC j).symm
   .exact(bC j).symm
   .exact(bC j).symm
   .exact(bC j).symm
   .exact(bC j).symm
   .exact(bC j).symm
   .exact(bC j).symm
   .omega
  have ab:i*b.n<=8*b.n:=Nat.mul_le_mul_right _ ();let⟨aa,a8⟩:=ve6 i;have a3:=yef b d S a2 i;have a7:=yev b d S i;ext;exists p,b.re u t J U,(rst b d S i).1,f1,O1,m+i*b.n,q,dx,pd,Z,ds,d,(rst b d S i).2,rfl,e,(),a3,(),λX R a0 a5 f2 O2 G2 L g=>?_
  have x:G2 D=some (.lst ((sgB b d S i).map V.int)):=g.fr _ _ c (xr c e.ft.me (by intro z;cases z)) (xr c e.ft.mx.o (by intro z;cases z)) v (xr c e.sk.me (by intro z;cases z)) (xr c e.sk.sp (by intro z;cases z)) (e.ft.B.nlst c)
  have Y:D≠X:=by
   rcases g.hm with z|z
   .rw[z];exact W
   .exact yb c z
  have N:D≠R:=by
   rcases g.he with z|z
   .rw[z];exact v
   .exact yb c z
  exists wB i,_,rfl,rfl,.inl ⟨(),()⟩,?_;exists _,x,?_,8-(i+1),by show 8-(i+1)<8-i;omega,rfl,hi,X,R,a0,a5,f2,O2,?_,?_,?_,Y,N
  .unfold sgB;rw[bc,bc,bP];exact Nat.lt_trans hi ∅
  .rw[show m+(i+1)*b.n=m+i*b.n+b.n by rw[Nat.succ_mul,Nat.add_assoc]];exact Ã.app L x (L.notN x Y N) (yb M.sk.dt I)
  .exact(r.trans g).app I
  .rw[yly,bD];exact ya
 .rintro G ⟨u,t,J,U,f1,O1,e,r,c,W,v⟩;ext;exists D,sgB b d S 8,rfl,SqL.of c,?_;ext;exact k u t J U f1 O1 G e r
theorem Ã.up{H:Hp}{p:z4}{A:FA}{X:FX}{f:Α}{m:Nat}{dx pd s:z4}{x:Sn}(h:Ã K a H p A X f O m q dx pd s ds d x)(hm:m<=m'):Ã K a H p A X f O m' q dx pd s ds d x:=⟨h.ft.up hm,h.sk,h.ok,h.nO,h.nd⟩
def yq7(A:FA)(d:Ο)(S:FX×Sn)(ml el pl:z4)(sl:Λ)(n:Nat):Û (A.re ml el pl sl) d S n=Û A d S n:=by unfold Û;rw[yjs];rfl
def vae(A:FA)(d:Ο)(S:FX×Sn)(ml el pl:z4)(sl:Λ)(n:Nat):sgB (A.re ml el pl sl) d S n=sgB A d S n:=by unfold sgB;exact List.map_congr_left λj Z=>by rw[yq7]
def rsg(A:FA)(d:Ο)(S:FX×Sn)(k:Nat):Int:=(sgB A d (rst A d S (9*k+1)) 8).sum
def rtx(A:FA)(d:Ο)(S:FX×Sn)(k:Nat):Ο:=(List.range k).map (rsg A d S)
def ylt(A:FA)(d:Ο)(S:FX×Sn)(k:Nat):rtx A d S (k+1)=rtx A d S k++[rsg A d S k]:=by unfold rtx;rw[List.range_succ,bD];rfl
def yik(A:FA)(d:Ο)(S:FX×Sn)(k:Nat):(rtx A d S k).length=k:=by unfold rtx;rw[bc,bP]
section
variable{G:Hp}{p:z4}{A:FA}{S:FX×Sn}{f:Α}{m n:Nat}{dx pd s ml el pl:z4}{sl:Λ}{Q:VK}{E:XK}
def yvc(hR:Ã K a G p (A.re ml el pl sl) (rst A d S n).1 f O m q dx pd s ds d (rst A d S n).2)(hm:m+20<1000000)(nd0:0<=S.1.nd)(hsg:S.1.sg.length+n<=100000)
  (k:∀(ml2 el2 pl2:z4)(sl2:Λ)(f':Α)(O':Β)(H':Hp),Ã K a H' p (A.re ml2 el2 pl2 sl2) (rst A d S (n+1)).1 f' O' (m+6) q dx pd s ds d (rst A d S (n+1)).2->RGo p q s (A.re ml el pl sl) O G H' ml2 el2 O'->Q (.int (Û A d S n)) H'):ydu K a [.ref p,.ref q] G Q E :=
 ⟨p,A.re ml el pl sl,(rst A d S n).1,f,O,m,q,dx,pd,s,ds,d,(rst A d S n).2,rfl,hR,hm,yef A d S nd0 n,bX (yev A d S n) hsg,λml2 el2 pl2 sl2 f' O' H' c b=>k ml2 el2 pl2 sl2 f' O' H' (Ã.up c (Nat.add_le_add_left hR.ft.n6 m)) b⟩
def yso(hR:Ã K a G p (A.re ml el pl sl) (rst A d S n).1 f O m q dx pd s ds d (rst A d S n).2)(hm:m+80<1000000)(nd0:0<=S.1.nd)(hsg:S.1.sg.length+n<=90000)
  (k:∀(ml2 el2 pl2:z4)(sl2:Λ)(f':Α)(O':Β)(H':Hp),Ã K a H' p (A.re ml2 el2 pl2 sl2) (rst A d S (n+8)).1 f' O' (m+48) q dx pd s ds d (rst A d S (n+8)).2->RGo p q s (A.re ml el pl sl) O G H' ml2 el2 O'->Q (.int (sgB A d (rst A d S n) 8).sum) H'):yaw K a [.ref p,.ref q] G Q E:=by exists p,A.re ml el pl sl,rst A d S n,f,O,m,q,dx,pd,s,ds,d,rfl,hR,hm,yef A d S nd0 n,bX (yev A d S n) hsg,λml2 el2 pl2 sl2 f' O' H' b c=>?_;have e:A.n<=6:=hR.ft.n6;have b:=Ã.up b (show m+8*A.n<=m+48 by omega);rw[yjs,ycg]at b;rw[vae];exact k ml2 el2 pl2 sl2 f' O' H' b c
end
#synth yo2 ["foreteller","seeker","most","text"] ["foreteller","seeker","most"] van
inductive yha(K:z3)(a:Ads)(vs:Τ)(H:Hp)(Q:VK)(E:XK):Prop
 |mk(p:z4)(A:FA)(S:FX×Sn)(f:Α)(O:Β)(m:Nat)(q dx pd s ds:z4)(d:Ο)(mo:Nat)(_:vs=[.ref p,.ref q,.int mo])(_:Ã K a H p A S.1 f O m q dx pd s ds d S.2)(_:mo<=1000)(_:m+54*mo+200<1000000)(_:0<=S.1.nd)(_:S.1.sg.length<=10000)(_:(∀(N:Nat)(r ml el pl:z4)(sl:Λ)(f':Α)(O':Β)(H':Hp),N<=mo->(∀j,j<N->Û A d S (9*j)=1)->Û A d S (9*N)=0->H r=none->H' r=some (.lst ((rtx A d S N).map V.int))->r≠el->Ã K a H' p (A.re ml el pl sl) (rst A d S (9*N+1)).1 f' O' (m+54*N+6) q dx pd s ds d (rst A d S (9*N+1)).2->RGo p q s A O H H' ml el O'->Q (.ref r) H'))(_:((∀j,j<=mo->Û A d S (9*j)=1)->∀(ml el:z4)(O':Β)(H':Hp),RGo p q s A O H H' ml el O'->E (.ref a.Jf) none H'))
def yxb(T:Txt K mg a):vn P w K mg Γ (CXe P w) 9 a.Px a.T8 ["foreteller","seeker","most"] (yha K a):=by
 exists T.V7.F.okE,yo2,hr;let⟨p,g,S,f,O,m,q,dx,pd,s',ds,d,mo,rfl,hR,aj,hm,U,am,kQ,kE⟩:=h;exists 3,1,yg (y7 (i:=3) yo2.nd rfl (Or.inl rfl) (vj za)) (yg (δ PassesOwn.leaving (yx xk (ug (yn9 T) hr.m T.N3 (pac (pv 0) (pa1 (pv 1)))) yf (y9 _)) (yg (vv (yx xk (pcB yw T.Af (pa1 (pv 3))) (pv 2) (y9 _)) (yc (vz rfl T.Vt T.X1 (pa1 yj))) y8) (yc (y6 (uy PySem.F.plainAttrs_list PySem.F.slot_list_append PySem.F.type_list_append wy (pv 3) (pa1 (ug (yve T) hr.m T.V6 (pac (pv 0) (pa1 (pv 1)))))))))) (yc (yu (pv 3))));exists by walk_at "len",λr hr0=>?_
 exists hr0,H1,S1,hr1;have ab:pd≠r:=yb hR.sk.dt hr0;ext
 refine⟨λw σ' G=>∃(N:Nat)(I D pl:z4)(sl:Λ)(f':Α)(O':Β),σ'=[some (.ref p),some (.ref q),some (.int mo),some (.ref r)]/\N<=mo/\(∀j,j<N->Û g d S (9*j)=1)/\Ã K a G p (g.re I D pl sl) (rst g d S (9*N)).1 f' O' (m+54*N) q dx pd s' ds d (rst g d S (9*N)).2/\RGo p q s' g O H G I D O'/\G r=some (.lst ((rtx g d S N).map V.int))/\r≠I/\r≠D/\w=mo-N,
  ⟨_,0,g.ml,g.el,g.pl,g.sl,f,O,rfl,bN _,λj hj=>absurd hj (ce j),hR.same S1,RGo.refl.same S1,hr1,(yb hR.ft.mx.l hr0).symm,(yb hR.ft.el hr0).symm,rfl⟩,?_⟩
 rintro w σ2 G ⟨N,I,D,pl,sl,f1,O1,rfl,hN,Z,c,a8,ag,L,C,rfl⟩;ext;refine yvc c () U () λv u a6 ah f2 O2 W J k=>?_
 have t:∀{G W:Hp}{I D pl v u:z4}{sl:Λ}{X:FX}{f1:Α}{O1 O2:Β}{m x}{xs:Τ},Ã K a G p (g.re I D pl sl) X f1 O1 m q dx pd s' ds d x->RGo p q s' (g.re I D pl sl) O1 G W v u O2->G r=some (.lst xs)->r≠I->r≠D->W r=some (.lst xs)/\r≠v/\r≠u:=λc k e L C=>by
  exists k.fr _ _ e (xr e c.ft.me (by intro z;cases z)) (xr e c.ft.mx.o (by intro z;cases z)) C (xr e c.sk.me (by intro z;cases z)) (xr e c.sk.sp (by intro z;cases z)) (c.ft.B.nlst e),?_,?_
  .rcases k.hm with z|z
   .rw[z];exact L
   .exact yb e z
  .rcases k.he with z|z
   .rw[z];exact C
   .exact yb e z
 let⟨y,af,a4⟩:=t c k ag L C;have n:=a8.trans k;have R:=ynl g d S (9*N);generalize ac:Û g d S (9*N)=b at R;ext;refine jk (λhb=>?_) (λhb=>?_)
 .subst hb
  have a0:∀j,j<N+1->Û g d S (9*j)=1:=λj hj=>by
   by_cases z:j=N
   .rw[z];exact ac
   .exact Z j ()
  refine ybh ?_;ext;refine z5 (SqL.of y) ?_;rw[bc,yik];ext;refine jk (λhc=>?_) (λhc=>?_)
  .have al:N=mo:=()
   ext;exists by walk_at "len",kE (λj hj=>a0 j ()) v u O2 W n
  .ext;refine z6 y ?_;ext;refine yso J () U () λad a7 aa a9 f3 O3 G3 a2 a1=>?_;let⟨M,a3,Y⟩:=t J a1 y af a4;have a5:=n.trans a1;ext;refine xp M (vk (by rw[bc,yik];omega)) ?_;ext;exists _,?_,N+1,ad,a7,aa,a9,f3,O3,rfl,(),a0,?_,a5.app hr0,?_,a3,Y,rfl
   .omega
   .exact Ã.app a2 M (a2.notN M a3 Y) ab
   .rw[ya,ylt,bD];rfl
 .have ae:Û g d S (9*N)=0:=()
  ext;exact kQ N r v u a6 ah f2 O2 W hN Z ae hr0 y a4 J n
def yq3(x:Sn)(c b:Int):(nar x c b).2.2<=x.2.2+2:=by
 unfold nar ren
 (repeat' split)<;>(dsimp only;omega)
theorem ynx(A:FA)(d:Ο)(S:FX×Sn):∀n:Nat,(rst A d S n).2.2.2<=S.2.2.2+2*(n:Int)
 |0=>by show S.2.2.2<=S.2.2.2+2*((0:Nat):Int);omega
 |n+1=>by
  have b:=ynx A d S n;have a:=yq3 (rst A d S n).2 (chX A (rst A d S n).1) (ò d (rst A d S n).2 (chX A (rst A d S n).1));show (nar (rst A d S n).2 (chX A (rst A d S n).1) (ò d (rst A d S n).2 (chX A (rst A d S n).1))).2.2<=_;omega
structure ROk(A:FA)(d:Ο)(S:FX×Sn)(N:Nat):Prop where
 b1:∀j,j<N->Û A d S (9*j)=1
 b0:Û A d S (9*N)=0
 tk:d.take (tL (rst A d S (9*N+1)).2).length=tL (rst A d S (9*N+1)).2
def ROk.uniq{A:FA}{S:FX×Sn}{N M:Nat}(h:ROk A d S N)(b1:∀j,j<M->Û A d S (9*j)=1)(b0:Û A d S (9*M)=0):M=N:=by
 rcases Nat.lt_trichotomy M N with z|z|z
 .have e:=h.b1 M z;rw[b0]at e;cases e
 .exact z
 .have e:=b1 N z;rw[h.b0]at e;cases e
def rTL(A:FA)(d:Ο)(S:FX×Sn)(N:Nat):Nat:=(tL (rst A d S (9*N+1)).2).length
def RGo.fgo{p s:z4}{A:FA}{H0 H H':Hp}{ml el:z4}(S:yv H0 H)(hq:H0 q=none)(hs:H0 s=none)(h:RGo p q s A O H H' ml el O'):FGo p A O H0 H' el O' :=
 ⟨h.he.imp id S.free,λj c a w=>(h.hO j c a w).imp id S.free,λc o e b f d g=>h.fr c o (S _ _ e) b f d (yb e hq) (yb e hs) g,λc o e=>h.live c o (S _ _ e)⟩
#synth yem ["foreteller","data","most","seeker","text","own"] ["foreteller","data","most"] va3
inductive yay(K:z3)(a:Ads)(vs:Τ)(H:Hp)(Q:VK)(E:XK):Prop
 |mk(p:z4)(A:FA)(X:FX)(f:Α)(O:Β)(m:Nat)(dt:z4)(d:Ο)(mo:Nat)(_:vs=[.ref p,.ref dt,.int mo])(_:jj K a H p A X f O m)(_:H dt=some (.lst (d.map V.int)))(_:dt≠A.el)(_:Byt d)(_:d.length<=12000)(_:mo<=1000)(_:m+54*mo+200<1000000)(_:0<=X.nd)(_:X.sg.length<=10000)(_:(∀(N:Nat)(t r el:z4)(O':Β)(H':Hp),N<=mo->ROk A d (X,s0) N->H t=none->H r=none->H' t=some (.tup [.ref r,.int (rTL A d (X,s0) N)])->H' r=some (.lst ((rtx A d (X,s0) N).map V.int))->FGo p A O H H' el O'->(r≠el/\∃ml pl sl f',jj K a H' p (A.re ml el pl sl) (rst A d (X,s0) (9*N+1)).1 f' O' (m+54*N+6))->Q (.ref t) H'))(_:((∀N,N<=mo->¬ROk A d (X,s0) N)->∀(el:z4)(O':Β)(H':Hp),FGo p A O H H' el O'->E (.ref a.Jf) none H'))
def ywb(T:Txt K mg a):vn P w K mg Γ (CXe P w) 10 a.Py a.T9 ["foreteller","data","most"] (yay K a):=by
 exists T.V8.F.okE,yem,hr;let⟨p,l,X,f,O,m,dt,d,mo,rfl,hF,C,ad,a7,aa,a4,hm,a2,a8,kQ,kE⟩:=h;refine yh (y7 (i:=3) yem.nd rfl (Or.inl rfl) (uh T.Xi (ywt T) hr.m rfl T.Xh T.Uz.B .nil yt (pa1 (pv 1)))) ?_;refine yh (y7 (i:=4) yem.nd rfl (Or.inl rfl) (uf (yxb T) hr.m T.V7 yt (pac (pv 0) (pac (pv 3) (pa1 (pv 2)))))) ?_;refine yh (y7 (i:=5) yem.nd rfl (Or.inl rfl) (wb (pv 3) T.B0 T.N2.m (yyh T) hr.m T.N2.B .nil wl)) ?_;refine yh (vv (yx (ļ hr.units) (uk ψ (pv 1) zq (zl (pcB yw T.Af (pa1 (pv 5))))) (pv 5) (y9 _)) (yc (vz rfl T.Vt T.X1 (pa1 yj))) y8) ?_;exists 3,3,yc (yu (wa (pac (pv 4) (pa1 (pcB yw T.Af (pa1 (pv 5)))))));intro q D W a3 ag;have R:yv H (upd (upd H D (.own q)) q (.ins a.As D [])):=λb o e=>by rw[yq (yb e W),yq (yb e a3)];exact e
 exists q,D,.ref dt,_,rfl,ya,.lst (R _ _ C),.inr ⟨d,yli (R _ _ C) a7 aa,λpd ps ds H1 J I ab B1=>⟨rfl,?_⟩⟩;have S1:yv H H1:=λb o e=>B1 b o (R b o e) (yb e W);have x:H ps=none:=R.free I;have a9:H pd=none:=R.free J
 have nO:∀{c:z4},H c=none->∀i,i<l.n->¬O i c:=λG i hi w=>by
  let⟨o,ho,_⟩:=(hF.B.b i hi).own _ w;rw[G]at ho;cases ho
 have hR:Ã K a H1 p l X f O m q D pd ps ds d s0:=⟨hF.same S1,ab,vf8,λi hi=>⟨nO W i hi,nO x i hi⟩,(yb hF.el a9).symm⟩;ext;exists p,l,(X,s0),f,O,m,q,D,pd,ps,ds,d,mo,rfl,hR,a4,hm,a2,a8,λN r ml el pl sl f2 Z H2 hN S U ae a0 a5 g y=>?_,λL ml el Z H2 y=>?_
 .have a6:=ynx l d (X,s0) (9*N+1);have ac:((X,s0):FX×Sn).2.2.2=5:=rfl;rw[ac]at a6;have go:=y.fgo S1 W x;have af:=g.sk.me;have Y:H2 dt=some (.lst (d.map V.int)):=(go.kpa hF).lst C ad;ext;exists q,D,pd,ps,ds,d,_,rfl,g.sk,g.ok,by show Int.toNat _<=100000;omega,λw H3 ai v S3=>?_
  ext;refine z5 (SqL.of v) ?_;rw[bc];ext;refine yc8 (SqL.of (S3 _ _ Y)) λu hu=>?_;have ec:ydb (d.map V.int) none (some (((tL (rst l d (X,s0) (9*N+1)).2).length:Nat):Int))=(d.take (tL (rst l d (X,s0) (9*N+1)).2).length).map V.int:=by rw[List.map_take];exact É _
  rw[ec];exists hu,H4,S4,hu4;have z:=go.same (S3.trans S4);ext;refine vfd _ _ (SqL.of hu4) (SqL.of (S4 _ _ v)) ?_;by_cases G:d.take (tL (rst l d (X,s0) (9*N+1)).2).length=tL (rst l d (X,s0) (9*N+1)).2
  .rw[bi G];ext;refine z5 (SqL.of (S4 _ _ v)) ?_;rw[bc];ext;exists by walk_at "len",λt j=>?_
   refine kQ N t r el Z _ hN ⟨S,U,G⟩ (z.free j) (S1.free ae) ya (ju j ((S3.trans S4) _ _ a0)) (z.same (vg j)) ⟨a5,ml,pl,sl,f2,((g.ft.same (S3.trans S4)).same (vg j))⟩
  .rw[be G];ext;exists by walk_at "len",kE (λM hM k=>G (by rw[k.uniq S U];exact k.tk)) el Z _ z
 .exact kE (λM hM k=>by have e:=L M hM;rw[k.b0]at e;cases e) el Z H2 (y.fgo S1 W x)
structure vh7(H:Hp)(L dt:z4)(lx:V)(n:Nat)(lk:Λ)(kd:Ν)(tp:Λ)(ps:Κ)(d:Ο)(mo N w:Nat)(lt:Λ)(tt:Κ):Prop where
 l:H L=some (.lst (refs lk n))
 n1:1<=n
 n6:n<=6
 r:xx H n lk kd tp ps
 dat:H dt=some (.lst (d.map V.int))
 by':Byt d
 dl:d.length<=12000
 mo1:mo<=1000
 lr:vgt H lx N w lt tt
 w1:w<=1000
 N1:N<=1000
 b:6+6*(N*(9*w+1))+54*mo+200<1000000
def rS(n:Nat)(kd:Ν)(ps:Κ)(pre:Ο):FX×Sn:=((FX0 n kd).run (fa0 n ps) pre,s0)
theorem χ(A:FA)(d:Ο)(S:FX×Sn):∀k,rst A d S k=rst (fa0 A.n A.ps) d S k
 |0=>rfl
 |k+1=>by
  show rnx A d (rst A d S k)=rnx (fa0 A.n A.ps) d (rst (fa0 A.n A.ps) d S k);rw[χ A d S k];rfl
def Ê(A:FA)(d:Ο)(S:FX×Sn)(k:Nat):Û A d S k=Û (fa0 A.n A.ps) d S k:=by unfold Û;rw[χ];rfl
def yst(A:FA)(d:Ο)(S:FX×Sn)(k:Nat):rsg A d S k=rsg (fa0 A.n A.ps) d S k:=by unfold rsg sgB;rw[χ];exact congrArg List.sum (List.map_congr_left λj Z=>by rw[Ê])
def yth(A:FA)(d:Ο)(S:FX×Sn)(k:Nat):rtx A d S k=rtx (fa0 A.n A.ps) d S k:=by unfold rtx;exact List.map_congr_left λj Z=>yst A d S j
def ys3(A:FA)(d:Ο)(S:FX×Sn)(k:Nat):rTL A d S k=rTL (fa0 A.n A.ps) d S k:=by unfold rTL;rw[χ]
theorem ROk.fa0{A:FA}{S:FX×Sn}{N:Nat}:ROk A d S N↔ROk (fa0 A.n A.ps) d S N:=by
 constructor
 .intro h;exists λj a=>by rw[<- Ê];exact h.b1 j a,by rw[<- Ê];exact h.b0,by rw[<- χ];exact h.tk
 .intro h;exists λj a=>by rw[Ê];exact h.b1 j a,by rw[Ê];exact h.b0,by rw[χ];exact h.tk
def yoh{mx:Nat->Int}(hd:Byt d){m:Nat}(hc:∀j,j<m->Ch (mx j))(hb:∀j,j<m->bt j=0\/bt j=1)(i:InS d (snK mx bt m)):∀k,k<m->bt k=ò d (snK mx bt k) (mx k)/\InS d (snK mx bt k):=by
 induction m with
 |zero=>exact λk c=>absurd c (ce k)
 |succ m ih =>
  have e:=(Õ (mx:=mx) (bt:=bt) m λj a=>hc j ()).1;let⟨b,f⟩:=ysm hd e (hc m ()) (hb m ()) i;intro k c;by_cases z:k=m
  .rw[z];exists f,b
  .exact ih (λj a=>hc j ()) (λj a=>hb j ()) b k ()
def vco{k:Nat}(h:k<(dec ts).length):wq ts k=0\/wq ts k=1:=by let⟨b,a⟩:=yl1 ts k h;omega
def yeo(x:Sn):Byt (tL x):=λb a=>yrz _ _ b a
theorem ô{n:Nat}{kd:Ν}{ps:Κ}{pre:Ο}(hd:Byt d)(hc:∀j,j<(dec ts).length->Ch (Â n kd ps pre ts j))(hi:InS d (snK (Â n kd ps pre ts) (wq ts) (dec ts).length)):∀k,k<=(dec ts).length->rst (fa0 n ps) d (rS n kd ps pre) k=(fX n kd ps pre ts k,snK (Â n kd ps pre ts) (wq ts) k)
 |0,_=>rfl
 |k+1,hk=>by
  have a:=(yoh hd hc (λj e=>vco e) hi k ()).1;have b:(dec ts)[k]?=some (wq ts k):=by unfold wq;rw[bg ()];rfl
  show rnx (fa0 n ps) d (rst (fa0 n ps) d (rS n kd ps pre) k)=_;rw[ô hd hc hi k ()];show ((fX n kd ps pre ts k).see (fa0 n ps) (ò d (snK (Â n kd ps pre ts) (wq ts) k) (Â n kd ps pre ts k)),nar (snK (Â n kd ps pre ts) (wq ts) k) (Â n kd ps pre ts k) (ò d (snK (Â n kd ps pre ts) (wq ts) k) (Â n kd ps pre ts k)))=(fX n kd ps pre ts (k+1),nar (snK (Â n kd ps pre ts) (wq ts) k) (Â n kd ps pre ts k) (wq ts k));rw[<- a]
  have c:fX n kd ps pre ts (k+1)=(fX n kd ps pre ts k).see (fa0 n ps) (wq ts k):=by
   unfold fX;rw[ø b]
  rw[c]
def yht{n:Nat}{kd:Ν}{ps:Κ}{pre:Ο}(hd:Byt d)(hc:∀j,j<(dec ts).length->Ch (Â n kd ps pre ts j))(hi:InS d (snK (Â n kd ps pre ts) (wq ts) (dec ts).length))(k:Nat)(hk:k<(dec ts).length):Û (fa0 n ps) d (rS n kd ps pre) k=wq ts k:=by have a:=(yoh hd hc (λj b=>vco b) hi k hk).1;unfold Û;rw[ô hd hc hi k ()];exact a.symm
def â(t:Int)(r:Ο)(k:Nat):wq (t::r) (k+9)=wq r k:=rfl
def ye4(t:Int)(r:Ο):∀i,i<8->wq (t::r) (1+i)=t/wB i%2:=λi a=>by
 rcases i with _|_|_|_|_|_|_|_|i
 .rfl
 .rfl
 .rfl
 .rfl
 .rfl
 .rfl
 .rfl
 .rfl
 .omega
theorem ċ:∀(ts:Ο)(j:Nat)(hj:j<ts.length),wq ts (9*j)=1/\∀i,i<8->wq ts (9*j+1+i)=ts[j]/wB i%2
 |[],j,hj=>absurd hj (ce j)
 |t::r,0,_=>⟨rfl,λi a=>by rw[show 9*0+1+i=1+i by omega];exact ye4 t r i a⟩
 |t::r,j+1,hj=>by
  let⟨c,b⟩:=ċ r j (by simpa using hj);exists ?_,λi a=>?_
  .rw[show 9*(j+1)=9*j+9 by omega,â];exact c
  .rw[show 9*(j+1)+1+i=9*j+1+i+9 by omega,â];exact b i a
theorem ydr:∀ts:Ο,wq ts (9*ts.length)=0
 |[]=>rfl
 |t::r=>by
  rw[show 9*(t::r).length=9*r.length+9 by rw[bp];omega,â];exact ydr r
def ymd(A:FA)(d:Ο)(S:FX×Sn)(c i:Nat):Û A d (rst A d S c) i=Û A d S (c+i):=by unfold Û;rw[ycg]
def yhf{n:Nat}{kd:Ν}{ps:Κ}{pre:Ο}(hts:Sgs ts)(hd:Byt d)(hc:∀j,j<(dec ts).length->Ch (Â n kd ps pre ts j))(hl:(tL (snK (Â n kd ps pre ts) (wq ts) (dec ts).length)).length<=d.length)(h:d.take (tL (snK (Â n kd ps pre ts) (wq ts) (dec ts).length)).length=tL (snK (Â n kd ps pre ts) (wq ts) (dec ts).length)):
  ROk (fa0 n ps) d (rS n kd ps pre) ts.length/\rtx (fa0 n ps) d (rS n kd ps pre) ts.length=ts/\rTL (fa0 n ps) d (rS n kd ps pre) ts.length=(tL (snK (Â n kd ps pre ts) (wq ts) (dec ts).length)).length:=by
 have p:=(Õ (bt:=wq ts) _ hc).1;have a:=yio hd p hl h;have b:=zn ts
 have g:rst (fa0 n ps) d (rS n kd ps pre) (9*ts.length+1)=(fX n kd ps pre ts (dec ts).length,snK (Â n kd ps pre ts) (wq ts) (dec ts).length):=by
  rw[<- b];exact ô hd hc a _ (bj _)
 have c:=yht hd hc a;exists⟨λj m=>?_,?_,?_⟩,?_,?_
 .rw[c _ ()];exact(ċ ts j m).1
 .rw[c _ ()];exact ydr ts
 .rw[g];exact h
 .show (List.range ts.length).map (rsg (fa0 n ps) d (rS n kd ps pre))=ts;refine List.ext_getElem (by rw[bc,bP]) λj q f=>?_;rw[cM,List.getElem_range];have k:=hts ts[j] (cu f);have o:=(ċ ts j f).2
  have e:∀i,i<8->wB i*Û (fa0 n ps) d (rst (fa0 n ps) d (rS n kd ps pre) (9*j+1)) i=wB i*(ts[j]/wB i%2):=λi a=>by
   rw[ymd,c _ (),o i a]
  have l:sgB (fa0 n ps) d (rst (fa0 n ps) d (rS n kd ps pre) (9*j+1)) 8=(List.range 8).map λi=>wB i*(ts[j]/wB i%2):=by
   unfold sgB;exact List.map_congr_left λi a=>e i (cn.mp a)
  unfold rsg;rw[l];exact vfy k.1 k.2
 .unfold rTL;rw[g]
def Ũ{ys:Ο}(h1:Byt xs)(h2:Byt ys):Byt (xs++ys):=λb a=>by
 rcases bM.mp a with h|h
 .exact h1 b h
 .exact h2 b h
def í(n:Nat)(kd:Ν)(ps:Κ)(pre ts:Ο):Ο:=tL (snK (Â n kd ps pre ts) (wq ts) (dec ts).length)
def ydf{n:Nat}{kd:Ν}{ps:Κ}{pre:Ο}(n1:1<=n)(n6:n<=6)(hp:ybo pre)(hz:ts.length<=300):(í n kd ps pre ts).length<=5500:=by
 have a:=zn ts;let⟨b,c⟩:=Õ (mx:=Â n kd ps pre ts) (bt:=wq ts) (dec ts).length λj Z=>Ű n1 n6 hp j;unfold í;rw[yjr];have:sz (snK (Â n kd ps pre ts) (wq ts) (dec ts).length)<=5500:=by show Int.toNat _<=5500;omega
 omega
def ykd{n:Nat}{kd:Ν}{ps:Κ}{pre bs:Ο}(n1:1<=n)(n6:n<=6)(hp:ybo pre)(hts:Sgs ts)(hb:Byt bs):
  ROk (fa0 n ps) (í n kd ps pre ts++bs) (rS n kd ps pre) ts.length/\rtx (fa0 n ps) (í n kd ps pre ts++bs) (rS n kd ps pre) ts.length=ts/\rTL (fa0 n ps) (í n kd ps pre ts++bs) (rS n kd ps pre) ts.length=(í n kd ps pre ts).length :=
 yhf hts (Ũ (yeo _) hb) (λj Z=>Ű n1 n6 hp j) (by rw[bf];exact Nat.le_add_right _ _) List.take_left
def yqm{n:Nat}{kd:Ν}{ps:Κ}{pre bs:Ο}(n1:1<=n)(n6:n<=6)(hp:ybo pre)(hb:Byt bs):(rst (fa0 n ps) (í n kd ps pre ts++bs) (rS n kd ps pre) (9*ts.length+1)).1=((FX0 n kd).run (fa0 n ps) pre).run (fa0 n ps) (dec ts):=by have a:∀j,j<(dec ts).length->Ch (Â n kd ps pre ts j):=λj Z=>Ű n1 n6 hp j;have b:Byt (í n kd ps pre ts++bs):=Ũ (yeo _) hb;have c:=yio b (Õ (bt:=wq ts) _ a).1 (by rw[bf];exact Nat.le_add_right _ _) List.take_left;rw[<- zn ts,ô b a c _ (bj _)];unfold fX;rw[cD]
def ve1{x:Sn}{c b:Int}(h:Ok x)(hc:Ch c):(nar x c b).2.1<1099511627776:=by
 let⟨a,f,e⟩:=ybi h.w0 h.w1 hc;have d:=h.w1;unfold nar ren
 (repeat' split)<;>(dsimp only at*;omega)
def yko{n:Nat}{kd:Ν}{ps:Κ}{pre:Ο}(n1:1<=n)(n6:n<=6)(hp:ybo pre):1<=(í n kd ps pre ts).length:=by
 have e:=zn ts;obtain⟨m,g⟩:∃m,(dec ts).length=m+1:=⟨9*ts.length,()⟩;unfold í;rw[yjr,g];have a:∀j,j<m+1->Ch (Â n kd ps pre ts j):=λj Z=>Ű n1 n6 hp j;have f:=(Õ (bt:=wq ts) m λj h=>a j ()).1;have c:=(Õ (bt:=wq ts) (m+1) a).1;have l:(snK (Â n kd ps pre ts) (wq ts) (m+1)).2.1<1099511627776:=ve1 (x:=snK (Â n kd ps pre ts) (wq ts) m) (b:=wq ts m) f.ok (a m ());have i:=yiv (Ŵ c.ok);have k:=c.sz5;have d:pw (tK (snK (Â n kd ps pre ts) (wq ts) (m+1)))<pw 5:=by rw[pw5];omega
 have:=vdl d;omega
def Ĝ(L:qi (Ο)):Ο:=(L.map dec).flatten
def yal(L:qi (Ο))(t:Ο):Ĝ (L++[t])=Ĝ L++dec t:=by unfold Ĝ;rw[bD,List.flatten_append];simp
def È(L:qi (Ο)):ybo (Ĝ L):=λb a=>by
 unfold Ĝ at a;let⟨l,c,a⟩:=List.mem_flatten.mp a;let⟨t,_,rfl⟩:=bn.mp c;exact Ï t b a
def ylh{A:FA}{X:FX}(hts:Sgs ts)(h1:X.sg=[])(h2:X.nd=0):(X.run A (dec ts)).sg=[]/\(X.run A (dec ts)).nd=0:=by
 have a:∀k,k<=(dec ts).length->TxE ts k (X.run A ((dec ts).take k)).sg (X.run A ((dec ts).take k)).nd:=by
  intro k
  induction k with
  |zero =>
   intro _;exact .inl ⟨bN _,by show ydc _ _ X.sg X.nd;rw[h1,h2];exact ydc.zero _⟩
  |succ k ih =>
   intro d;have b:(dec ts)[k]?=some ((dec ts)[k]'()):=bg _;rw[ø b];exact((ih ()).next hts b).2
 have e:=a _ (bj _);rw[cD]at e;have c:=zn ts;rcases e with⟨h,_⟩|⟨_,h⟩
 .omega
 .exact h
def yuj(p:z4)(A:FA)(O:Β):Μ:=λc=>c=p\/c=A.mp\/(∃j,j<A.n/\c=A.bk j)\/(∃j,j<A.n/\O j c)\/c=A.el
def FZ(K:z3)(a:Ads)(H:Hp)(p:z4)(n:Nat)(kd:Ν)(ps:Κ)(pre:Ο)(M:Nat)(W:Μ):Prop :=
 ∃A f O m,jj K a H p A ((FX0 n kd).run (fa0 n ps) pre) f O m/\m<=M/\vd5 H A/\A.n=n/\A.kd=kd/\A.ps=ps/\((FX0 n kd).run (fa0 n ps) pre).sg=[]/\((FX0 n kd).run (fa0 n ps) pre).nd=0/\∀c,W c↔yuj p A O c
noncomputable def ved:HO->Bool
 | .ins _ _ _=>true
 | .dT _=>true
 | .dK _=>true
 | .frz _ (.dK _)=>true
 |_=>false
def vg1(o:qj HO):Prop:=(∃ys,o=some (.lst ys))\/∃ys,o=some (.tup ys)/\(ys.length≠2\/∃i,ys[0]?=some (.int i))
noncomputable def vhj:V->Bool
 | .non=>true
 | .bl _=>true
 |_=>false
def WSh(H:Hp)(W:Μ):Prop:=∀c,W c->∃o,H c=some o/\(ved o=true\/∃xs,o=.lst xs/\∀x∈xs,(∃s,x=V.str s)\/vhj x=true\/∃q,x=V.ref q/\vg1 (H q))
def yse{o:HO}(h:vd0 o=true):ved o=true:=by cases o<;>first|rfl|cases h
section
variable{H H':Hp}{p:z4}{n:Nat}{kd:Ν}{ps:Κ}{pre:Ο}{M:Nat}{W:Μ}
def FZ.sh(h:FZ K a H p n kd ps pre M W):WSh H W:=λc w=>by
 let⟨A,f,O,m,d,_,_,_,_,_,q,_,e⟩:=h;rcases (e c).mp w with z|z|⟨j,g,z⟩|⟨j,g,z⟩|z
 .exists _,by rw[z];exact d.me,.inl rfl
 .exists _,by rw[z];exact d.mx.o,.inl rfl
 .exists _,by rw[z];exact(d.B.b j g).me,.inl rfl
 .obtain⟨o,r,k⟩:=(d.B.b j g).own c z;exists o,r,.inl (yse k)
 .have i:=d.el;rw[q]at i;exists _,by rw[z];exact i,.inr ⟨_,rfl,λx l=>by cases l⟩
def FZ.live(h:FZ K a H p n kd ps pre M W):∀c,W c->∃o,H c=some o:=λc w=>let ⟨o,e,_⟩:=h.sh c w;⟨o,e⟩
theorem FZ.same(h:FZ K a H p n kd ps pre M W)(S:yv H H'):FZ K a H' p n kd ps pre M W:=by let⟨A,f,O,m,d,c,b,r⟩:=h;exists A,f,O,m,d.same S,c,b.same S,r
def FZ.up(h:FZ K a H p n kd ps pre M W){M':Nat}(hM:M<=M'):FZ K a H p n kd ps pre M' W:=by let⟨A,f,O,m,c,b,r⟩:=h;exists A,f,O,m,c,bX b hM,r
theorem WSh.tup(h:WSh H W){c:z4}{xs:Τ}(e:H c=some (.tup xs)):¬W c:=λw=>by
 obtain⟨o,a,z|⟨b,z,_⟩⟩:=h c w
 .rw[e]at a;cases a;cases z
 .rw[e,z]at a;cases a
def WSh.ints(h:WSh H W){c:z4}{ns:Ο}(e:H c=some (.lst (ns.map V.int)))(hn:1<=ns.length):¬W c:=λw=>by
 obtain⟨o,a,z|⟨b,z,q⟩⟩:=h c w
 .rw[e]at a;cases a;cases z
 .rw[e,z]at a;cases a
  cases ns with
  |nil=>cases hn
  |cons x r=>rcases q (.int x) bI with⟨_,z⟩|z|⟨_,z,_⟩<;>cases z
theorem WSh.refs(h:WSh H W){c:z4}{g:Λ}{k:Nat}(e:H c=some (.lst (Law.refs g k)))(hk:1<=k)(hg:¬vg1 (H (g 0))):¬W c:=λw=>by
 obtain⟨o,a,z|⟨f,z,q⟩⟩:=h c w
 .rw[e]at a;cases a;cases z
 .rw[e,z]at a;cases a;rcases q (.ref (g 0)) (bB (ys6 hk))with⟨_,z⟩|z|⟨d,z,b⟩
  .cases z
  .cases z
  .cases z;exact hg b
theorem FZ.frame(h:FZ K a H p n kd ps pre M W)(sh:WSh H W2)(dj:∀c,W c->¬W2 c)(fr:∀c o,H c=some o->¬W2 c->H' c=some o):FZ K a H' p n kd ps pre M W:=by
 let⟨A,f,O,m,j,P,u,S,L,X,U,Q,q⟩:=h;have k:=j.n1;let⟨tp,d⟩:=u.2.2
 have G:¬W2 A.ll:=sh.refs u.1 k λz=>by
  let⟨J,e,v,_⟩:=d 0 k;cases e;rw[v]at z;rcases z with⟨_,z⟩|⟨_,z,s⟩
  .cases z
  .cases z;exact s.elim (λs=>s rfl) λ⟨_,s⟩=>nomatch s
 have E:¬W2 A.bl:=sh.refs j.bl k λz=>by rw[(j.B.b 0 k).me]at z;rcases z with⟨_,z⟩|⟨_,z,_⟩<;>cases z
 have y:¬W2 A.pl:=sh.refs j.pl k λz=>by
  let⟨_,⟨N,R⟩,_,_⟩:=j.slot k;let⟨C,fs,eo⟩:=Ĺ a N (((FX0 n kd).run (fa0 n ps) pre).g 0 (((FX0 n kd).run (fa0 n ps) pre).key A 0));rw[R,eo]at z;rcases z with⟨_,z⟩|⟨_,z,_⟩<;>cases z
 have F:¬W2 A.ml:=sh.ints j.mx.l (by rw[j.wok.len];exact k);exists A,f,O,m,j.frame (O2:=W2) (λc o e T=>fr c o e T) (dj _ ((q _).mpr (.inl rfl))) (dj _ ((q _).mpr (.inr (.inl rfl)))) (λi r=>dj _ ((q _).mpr (.inr (.inr (.inl ⟨i,r,rfl⟩))))) (λi c r w=>dj _ ((q _).mpr (.inr (.inr (.inr (.inl ⟨i,r,w⟩)))))) (λl Z D e=>fr _ _ e ?_) (λt Z e=>?_),P,⟨fr _ _ u.1 G,u.2.1,tp,λi r=>?_⟩,S,L,X,U,Q,q
 .rcases D with z|z|z|z
  .rw[z];exact E
  .rw[z];exact dj _ ((q _).mpr (.inr (.inr (.inr (.inr rfl)))))
  .rw[z];exact F
  .rw[z];exact y
 .rcases e with(e|⟨o,e⟩)|e
  .exact .inl (.inl (fr _ _ e (sh.tup e)))
  .refine .inl (.inr ⟨o,fr _ _ e λw=>?_⟩);obtain⟨o',x,z|⟨ys,z,_⟩⟩:=sh t w
   .rw[e]at x;cases x;cases z
   .rw[e,z]at x;cases x
  .exact .inr e
 .obtain⟨J,z,v,I,Y⟩:=d i r;exists J,z,fr _ _ v (sh.tup v),fr _ _ I (sh.tup I),Y
def FZ.went{A:FA}{f f':Α}{m:Nat}{X:FX}{ml el pl:z4}{sl:Λ}(hF:jj K a H p A ((FX0 A.n A.kd).run (fa0 A.n A.ps) pre) f O m)(hl:vd5 H A)(hX:X=(FX0 A.n A.kd).run (fa0 A.n A.ps) (pre++dec ts))(hts:Sgs ts)(h4:((FX0 A.n A.kd).run (fa0 A.n A.ps) pre).sg=[])(h5:((FX0 A.n A.kd).run (fa0 A.n A.ps) pre).nd=0)
  (hF':jj K a H' p (A.re ml el pl sl) X f' O' m') (go:FGo p A O H H' el O') (e6:∀c,W c↔yuj p A O c):FZ K a H' p A.n A.kd A.ps (pre++dec ts) m' (yuj p (A.re ml el pl sl) O')/\Go W H H' (yuj p (A.re ml el pl sl) O'):=by
 subst hX;have h:=go.kpa hF;have d:=ylh (A:=fa0 A.n A.ps) hts h4 h5;exists⟨_,f',O',m',hF',bj _,⟨(h _ _ hl.1 rfl hl.2.1).2,(h _ _ hl.1 rfl hl.2.1).1,?_⟩,rfl,rfl,rfl,by rw[å];exact d.1,by rw[å];exact d.2,λc=>Iff.rfl⟩,⟨λc o e x=>?_,λc w=>?_,go.live⟩
 .obtain⟨B,r⟩:=hl.2.2;exists B,λi s=>?_;let⟨t,z,q,k,u⟩:=r i s;have l:∀{c:z4}{xs:Τ},H c=some (.tup xs)->c≠A.el:=λe z=>by rw[z,hF.el]at e;cases e
  exists t,z,(h _ _ q rfl (l q)).2,(h _ _ k rfl (l k)).2,u
 .have b:¬yuj p A O c:=λw=>x ((e6 c).mpr w);exact go.fr c o e (λz=>b (.inl z)) (λz=>b (.inr (.inl z))) (λz=>b (.inr (.inr (.inr (.inr z))))) λj g w=>b (.inr (.inr (.inr (.inl ⟨j,g,w⟩))))
 .rcases w with z|z|⟨j,g,z⟩|⟨j,g,z⟩|z
  .exact .inl ((e6 c).mpr (.inl z))
  .exact .inl ((e6 c).mpr (.inr (.inl z)))
  .exact .inl ((e6 c).mpr (.inr (.inr (.inl ⟨j,g,z⟩))))
  .rcases go.hO j c g z with v|v
   .exact .inl ((e6 c).mpr (.inr (.inr (.inr (.inl ⟨j,g,v⟩)))))
   .exact .inr v
  .rcases go.he with y|y
   .exact .inl ((e6 c).mpr (.inr (.inr (.inr (.inr (show c=A.el from Eq.trans z y))))))
   .exact .inr (by rw[show c=el from z];exact y)
def FZ.read{Q:VK}{E:XK}{dt:z4}{bs:Ο}{mo:Nat}(h:FZ K a H p n kd ps pre M W)(hb:ybo pre)(hts:Sgs ts)(hdt:H dt=some (.lst ((í n kd ps pre ts++bs).map V.int)))(ndt:¬W dt)(hbs:Byt bs)(hdl:(í n kd ps pre ts++bs).length<=12000)(hz:ts.length<=mo)(hmo:mo<=1000)(hM:M+54*mo+200<1000000)
  (k:∀t r W' H',H t=none->H r=none->H' t=some (.tup [.ref r,.int ((í n kd ps pre ts).length:Nat)])->H' r=some (.lst (ts.map V.int))->FZ K a H' p n kd ps (pre++dec ts) (M+6*(dec ts).length) W'->Go W H H' W'->¬W' r->Q (.ref t) H'):yay K a [.ref p,.ref dt,.int mo] H Q E:=by
 let⟨A,f,O,m,l,hm,Z,rfl,rfl,rfl,T,R,Y⟩:=h;let⟨q,D,G⟩:=ykd (kd:=A.kd) (ps:=A.ps) (pre:=pre) (bs:=bs) l.n1 l.n6 hb hts hbs;have F:Byt (í A.n A.kd A.ps pre ts++bs):=Ũ (yeo _) hbs;exists p,A,_,f,O,m,dt,_,mo,rfl,l,hdt,λz=>ndt ((Y _).mpr (.inr (.inr (.inr (.inr z))))),F,hdl,hmo,(),by rw[R];decide,by rw[T];exact bN _,λN t r x O' H' hN i C J s d L c=>?_,λy x O' H' L=>?_
 .rw[ROk.fa0]at i;obtain rfl:N=ts.length:=q.uniq i.b1 i.b0;rw[ys3]at s;rw[yth]at d;have s:H' t=some (.tup [.ref r,.int (rTL (fa0 A.n A.ps) (í A.n A.kd A.ps pre ts++bs) (rS A.n A.kd A.ps pre) ts.length)]):=s;have d:H' r=some (.lst ((rtx (fa0 A.n A.ps) (í A.n A.kd A.ps pre ts++bs) (rS A.n A.kd A.ps pre) ts.length).map V.int)):=d;rw[G]at s;rw[D]at d;let⟨u,U,P,X,f',c⟩:=c;have v:=zn ts
  have eX:(rst A (í A.n A.kd A.ps pre ts++bs) ((FX0 A.n A.kd).run (fa0 A.n A.ps) pre,s0) (9*ts.length+1)).1=(FX0 A.n A.kd).run (fa0 A.n A.ps) (pre++dec ts):=by
   rw[χ,å];exact yqm l.n1 l.n6 hb hbs
  let⟨z,g⟩:=FZ.went l Z eX hts T R c L Y;refine k t r _ H' C J s d (z.up ()) g λw=>?_;rcases w with w|w|⟨j,I,w⟩|⟨j,I,w⟩|w
  .have e:=c.me;rw[<- w,d]at e;cases e
  .have e:=c.mx.o;rw[show r=(A.re U x P X).mp from w]at d;rw[d]at e;cases e
  .have e:=(c.B.b j I).me;rw[show r=(A.re U x P X).bk j from w]at d;rw[d]at e;cases e
  .obtain⟨o,S,hi⟩:=(c.B.b j I).own _ w;rw[d]at S;cases S;cases hi
  .exact u w
 .exact(y ts.length hz (by rw[ROk.fa0];exact q)).elim
def FZ.press{Q:VK}{E:XK}{tx:z4}(h:FZ K a H p n kd ps pre M W)(htx:yj2 H tx ts 1000)(ntx:¬W tx)(hM:M+6*(dec ts).length+20<1000000)
  (k:∀r W' H',H r=none->H' r=some (.lst ((í n kd ps pre ts).map V.int))->FZ K a H' p n kd ps (pre++dec ts) (M+6*(dec ts).length) W'->Go W H H' W'->Q (.ref r) H'):ydh K a [.ref p,.ref tx] H Q E:=by
 let⟨A,f,O,m,d,x,q,rfl,rfl,rfl,l,i,o⟩:=h;exists p,A,_,f,O,m,tx,ts,rfl,d,l,i,htx,λz=>ntx ((o _).mpr (.inr (.inr (.inr (.inr z))))),(),λr F B y G D C I H' c v b u t=>?_
 have w:((FX0 A.n A.kd).run (fa0 A.n A.ps) pre).run A (dec ts)=(FX0 A.n A.kd).run (fa0 A.n A.ps) (pre++dec ts):=by rw[å];exact ycv A _ _
 let⟨z,g⟩:=FZ.went d q w htx.s l i b t o;refine k r _ H' c ?_ (z.up ()) g;rw[v];have e:snK (ygb A ((FX0 A.n A.kd).run (fa0 A.n A.ps) pre) ts) (wq ts) (dec ts).length=snK (Â A.n A.kd A.ps pre ts) (wq ts) (dec ts).length:=ya5 _ λj Z=>⟨by unfold Â ygb fX;rw[ycv A];rfl,rfl⟩;rw[e];rfl
end
noncomputable def nmL(L:Η):Τ:=L.map λx=>V.str x.1
def ybl(H:Hp)(U:Μ):qi (Str×qi Int)->qi V->Prop
 |[],ks=>ks=[]
 |x::r,ks=>∃k ks',ks=k::ks'/\(k=.non\/∃q,k=.ref q/\H q=some (.lst (x.2.map V.int))/\¬U q)/\ybl H U r ks'
theorem ybl.len{H:Hp}:∀{L:Η}{ks:Τ},ybl H U L ks->ks.length=L.length
 |[],_,h=>by rw[show _=_ from h];rfl
 |_::r,_,⟨_,_,e,_,h⟩=>by rw[e,bp,bp,h.len]
theorem ybl.mono{H H':Hp}(f:∀q xs,H q=some (.lst xs)->¬U q->H' q=some (.lst xs)/\¬U' q):∀{L:Η}{ks:Τ},ybl H U L ks->ybl H' U' L ks
 |[],_,h=>h
 |_::_,_,⟨k,ks',e,z,h⟩=>⟨k,ks',e,z.imp id λ⟨q,e,a,b⟩=>⟨q,e,f q _ a b⟩,h.mono f⟩
theorem ybl.snoc{H:Hp}{nm:Str}{t:Ο}{k:V}(hk:k=.non\/∃q,k=.ref q/\H q=some (.lst (t.map V.int))/\¬U q):∀{L:Η}{ks:Τ},ybl H U L ks->ybl H U (L++[(nm,t)]) (ks++[k])
 |[],_,h=>by rw[show _=_ from h];exists k,[],rfl,hk,rfl
 |_::_,_,⟨k',ks',e,z,h⟩=>⟨k',ks'++[k],by rw[e];rfl,z,h.snoc hk⟩
theorem ybl.mem{H:Hp}:∀{L:Η}{ks:Τ},ybl H U L ks->∀x∈ks,x=.non\/∃q ys,x=.ref q/\H q=some (.lst ys)/\¬U q
 |[],_,h,x,hx=>by rw[show _=_ from h]at hx;cases hx
 |_::_,_,⟨k,ks',e,z,h⟩,x,hx=>by
  rw[e]at hx;rcases bw.mp hx with y|y
  .rw[y];exact z.imp id λ⟨q,e,a,b⟩=>⟨q,_,e,a,b⟩
  .exact h.mem x y
def ChW(ll tl:z4)(W:Μ):Μ:=λc=>c=ll\/c=tl\/W c
structure Ü(K:z3)(a:Ads)(H:Hp)(c dc p ll tl:z4)(n:Nat)(kd:Ν)(ps:Κ)(L:Η)(ks:Τ)(M:Nat)(W:Μ):Prop where
 me:H c=some (.ins a.A7 dc (jx (.ref p) (.ref ll) (.ref tl)))
 fz:FZ K a H p n kd ps (Ĝ (L.map (·.2))) M W
 hl:H ll=some (.lst (nmL L))
 ht:H tl=some (.lst ks)
 tx:ybl H (ChW ll tl W) L ks
 nc:¬W c
 nll:¬W ll
 ntl:¬W tl
 ne:ll≠tl
def FZ.new{H:Hp}{p dp l:z4}{n:Nat}{lk:Λ}{kd:Ν}{ps:Κ}{Q:VK}{E:XK}(np:H p=none)(ndp:H dp=none)(hl:H l=some (.lst (refs lk n)))(n1:1<=n)(n6:n<=6)(r:xx H n lk kd tp ps)
  (k:∀W H',FZ K a H' p n kd ps [] 6 W->(∀c,W c->H c=none)->yv H H'->(∀y xs H'',H y=some (.lst xs)->But y H' H''->FZ K a H'' p n kd ps [] 6 W)->Q .non H'):yd4 K a [.ref p,.ref l] (upd (upd H dp (.own p)) p (.ins a.Ab dp [])) Q E:=by
 have d:yv H (upd (upd H dp (.own p)) p (.ins a.Ab dp [])):=λb o e=>by rw[yq (yb e np),yq (yb e ndp)];exact e
 exists p,dp,.ref l,rfl,ya,.inr ⟨l,n,lk,kd,tp,ps,rfl,d _ _ hl,n1,n6,r.same d,λA f O F Z U=>?_⟩;have B:yv H F:=λb o e=>U b o (d b o e) (yb e np);let⟨u,rfl,rfl,rfl,rfl,T,R,L,S,m,q,C⟩:=Z;refine k (yuj p A O) F ⟨A,f,O,6,u,bj _,⟨m,q,tp,r.same B⟩,rfl,rfl,rfl,rfl,rfl,λc=>Iff.rfl⟩ (λc w=>?_) B (λy xs H2 N b=>?_)
 .rcases w with z|z|⟨j,I,z⟩|⟨j,I,z⟩|z
  .rw[z];exact np
  .rw[z];exact d.free L
  .rw[z];exact d.free (R j I)
  .exact d.free (T j c I z)
  .exact d.free (S c (.inr (.inl z)))
 .have g:∀{x:z4},H x=none->x≠y:=λ{x}e z=>by rw[z,N]at e;cases e
  have h:=B _ _ N;have J:∀{x:z4}{v:Τ},F x=some (.tup v)->x≠y:=λ{x v}e z=>by rw[z,h]at e;cases e
  exists A,f,O,6,u.frame (O2:=λc=>c=y) (λc o e X=>b c o e X) (g np) (g (d.free L)) (λi s=>g (d.free (R i s))) (λi c s w=>g (d.free (T i c s w))) (λl v D e=>b _ _ e (g (d.free (S l D)))) (λt v e=>?_),bj _,⟨b _ _ m (g (d.free C)),q,tp,λi s=>?_⟩,rfl,rfl,rfl,rfl,rfl,λc=>Iff.rfl
  .rcases e with(e|⟨o,e⟩)|e
   .exact .inl (.inl (b _ _ e (J e)))
   .exact .inl (.inr ⟨o,b _ _ e (λz=>by rw[z,h]at e;cases e)⟩)
   .exact .inr e
  .obtain⟨G,e,M,P,Y⟩:=r.same B i s;exists G,e,b _ _ M (J M),b _ _ P (J P),Y
@[irreducible] def yna(c:Nat):Bool:=!(Builtin.Str.occurrences "abcdefghijklmnopqrstuvwxyz" ⟨#[c]⟩ 0 (Str.length "abcdefghijklmnopqrstuvwxyz") 1).isEmpty
noncomputable def nmS(x:Str):Bool:=decide (1<=(x.length:Int)) && (decide ((x.length:Int)<=8) && x.cps.toList.all yna)
def nmV:V->Bool
 | .str x=>nmS x
 |_=>false
def yqw(x:Str):(List.range x.cps.size).map (λi=>V.bl (yna (x.cps.toList.getD i 0)))=(x.cps.toList.map yna).map V.bl:=by
 rw[cb];refine List.ext_getElem? λi=>?_;rw[bq,bq];by_cases hi:i<x.cps.size
 .rw[cy hi,bg (by rw[cj];exact hi),cI,cI,bV,bg (by rw[cj];exact hi),Option.getD_some,Function.comp_apply]
 .rw[bK (by rw[bP];omega),bK (by rw[cj];omega),Option.map_none,Option.map_none]
def yws{x:Str}(h1:(1:Int)<=(x.length:Int))(h8:(x.length:Int)<=8):nmV (.str x)=(x.cps.toList.map yna).all id:=by
 have e:nmV (.str x)=nmS x:=by unfold nmV;rfl
 rw[e];unfold nmS;rw[bi h1,bi h8,List.all_map,Function.id_comp,Bool.true_and,Bool.true_and]
def yvp{x:Str}(h8:¬(x.length:Int)<=8):nmV (.str x)=false:=by
 have e:nmV (.str x)=nmS x:=by unfold nmV;rfl
 rw[e];unfold nmS;rw[be h8,Bool.false_and,Bool.and_false]
def ywr{x:Str}(h1:¬(1:Int)<=(x.length:Int)):nmV (.str x)=false:=by
 have e:nmV (.str x)=nmS x:=by unfold nmV;rfl
 rw[e];unfold nmS;rw[be h1,Bool.false_and]
def yxr{x:V}(h:nmV x=true):∃b,x=.str b/\nmS b=true:=by
 cases x with
 |str b=>exact⟨b,rfl,h⟩
 |_=>cases h
def xi{x:Str}(h:nmS x=true):x.length<=8:=by unfold nmS at h;simp only[bJ,decide_eq_true_eq]at h;have:=h.2.1;omega
noncomputable def smS:Str:=Str.ofString "abcdefghijklmnopqrstuvwxyz"
def yjc:smS.length=26:=by right
def yvs:∀i,i<26->smS.cps[i]?=some (97+i):=by right
def yt6{i:Int}(h0:0<=i)(h1:i<26):smS.cps[i.toNat]?=some (97+i.toNat):=yvs _ ()
def yzk:∀i,i<26->yna (97+i)=true:=by right
def Ŀ(l:qi Nat):Prop:=∀c,c∈l->97<=c/\c<123
def Ŀ.app{l m:qi Nat}(h:Ŀ l)(g:Ŀ m):Ŀ (l++m):=λc a=>(bM.mp a).elim (h c) (g c)
def Ŀ.one{c:Nat}(h:97<=c/\c<123):Ŀ [c]:=λd a=>by rw[bA.mp a];exact h
theorem Ŀ.take{l:qi Nat}(h:Ŀ l)(k:Nat):Ŀ (l.take k):=λc a=>h c (cL a)
theorem Ŀ.drop{l:qi Nat}(h:Ŀ l)(k:Nat):Ŀ (l.drop k):=λc a=>h c (List.mem_of_mem_drop a)
def vce{x:Str}(h:Ŀ x.cps.toList)(h1:1<=x.cps.toList.length)(h8:x.cps.toList.length<=8):nmS x=true/\PyData.strOk x=true:=by
 have e:x.length=x.cps.toList.length:=by simp[Str.length]
 exists ?_,?_
 .unfold nmS;rw[bi (),bi (),Bool.true_and,Bool.true_and,List.all_eq_true];intro c a;let⟨b,d⟩:=h c a;have:=yzk (c-97) ()
  rwa[show 97+(c-97)=c by omega]at this
 .unfold PyData.strOk;rw[<- Array.all_toList,List.all_eq_true];intro c a;let⟨b,d⟩:=h c a;exact bi ()
def jr(x y:Str):(x++y).cps.toList=x.cps.toList++y.cps.toList:=by rw[PySem.Str.cps_append,Array.toList_append]
def u8(x:Str):x.length=x.cps.toList.length:=by simp[Str.length]
noncomputable def ynd(z:Str)(j:Nat)(c:Nat):Str:=Txt.slice z none (some (j:Int))++⟨#[c]⟩++Txt.slice z (some (j:Int)) none
def Î{z:Str}{c:Nat}(hj:j<=z.length):(ynd z j c).cps.toList=z.cps.toList.take j++[c]++z.cps.toList.drop j:=by unfold ynd;rw[jr,jr,yme hj,yfr hj]
def ysa{z:Str}{c:Nat}(hj:j<=z.length)(hz:Ŀ z.cps.toList)(hc:97<=c/\c<123)(h7:z.length<=7):nmS (ynd z j c)=true/\PyData.strOk (ynd z j c)=true:=by
 have e:=u8 z;refine vce ?_ ?_ ?_
 .rw[Î hj];exact((hz.take j).app (.one hc)).app (hz.drop j)
 .rw[Î hj];simp;omega
 .rw[Î hj,bf,bf,bZ,cR,cB];omega
def ykw{z:Str}{c d:Nat}(hj:j<=z.length)(e:ynd z j c=ynd z j d):c=d:=by have h:=congrArg (λx:Str=>x.cps.toList) e;simp only[Î hj]at h;rw[ck,ck]at h;have a:=List.append_cancel_left h;simp at a;exact a
def ygo{z:Str}(hj:j<=z.length)(o m:Nat):((List.range m).map λi=>ynd z j (97+o+i)).Nodup :=
 List.Pairwise.map (R:=λa b=>a≠b) _ (λa b h e=>h (by have:=ykw hj e;omega)) List.nodup_range
theorem č{H:Hp}:∀ns:Ρ,yqh K H (ns.map V.str) (ns.map PyData.str)
 |[]=>.nil
 |n::r=>.cons (.str n) (č r)
theorem ą:∀ns:Ρ,(∀x,x∈ns->PyData.strOk x=true)->PyData.canLayAll0 (ns.map PyData.str)=true
 |[],_=>rfl
 |x::r,h=>by simp[PyData.canLayAll0,PyData.canLay0,h x bI,ą r λy a=>h y (bH _ a)]
theorem ı:∀ns:Ρ,PyData.depthAll (ns.map PyData.str)=0
 |[]=>rfl
 |_::r=>by simp[PyData.depthAll,PyData.depth,ı r]
def Ĉ(ns:Ρ)(h:∀x,x∈ns->PyData.strOk x=true):SeqAt.shaped (.list (ns.map PyData.str))=true:=by simp[SeqAt.shaped,PyData.canLay0,PyData.depth,ą ns h,ı]
theorem Ć:∀ns ms:Ρ,PyData.eqvAll (ns.map PyData.str) (ms.map PyData.str)=decide (ns=ms)
 |[],[]=>by simp[PyData.eqvAll]
 |[],_::_=>by simp[PyData.eqvAll]
 |_::_,[]=>by simp[PyData.eqvAll]
 |a::r,b::t=>by
  simp only[bR,PyData.eqvAll,PyData.eqv,Ć r t];by_cases h:a=b<;>by_cases h':r=t<;>simp[h,h']
def yo4{g:Bool->Bool}{H:Hp}{Q:VK}{a b:z4}(ns ms:Ρ)(hn:∀x,x∈ns->PyData.strOk x=true)(hm:∀x,x∈ms->PyData.strOk x=true)(ha:SqL K H a (ns.map V.str))(hb:SqL K H b (ms.map V.str))(h:Q (.bl (g (decide (ns=ms)))) H):vd2 K g (.ref a) (.ref b) H Q :=
 ⟨_,_,.lst ha (č ns),.lst hb (č ms),Ĉ ns hn,Ĉ ms hm,by rw[PyData.eqv,Ć];exact h⟩
structure Pc where
 nm:Str
 bs:qj Str
 path:Η
 tx:Ο
 ob:z4
 od:z4
 dl:z4
noncomputable def baV:qj Str->V
 |none=>.non
 |some b=>.str b
def Pc.by(n:Nat)(kd:Ν)(ps:Κ)(q:Pc):Ο:=í n kd ps (Ĝ (q.path.map (·.2))) q.tx
noncomputable def pcs(P:qi Pc):qi (Key×V):=P.map λq=>(.inr q.nm,.ref q.ob)
def To(P:qi Pc):qj Str->qi (Str×qi Int)->Prop
 |none,L=>L=[]
 |some b,L=>∃r,r∈P/\r.nm=b/\L=r.path++[(b,r.tx)]
structure ŀ(a:Ads)(H:Hp)(d:z4)(n:Nat)(kd:Ν)(ps:Κ)(w:Nat)(P:qi Pc):Prop where
 dk:H d=some (.dK (pcs P))
 ob:∀q,q∈P->H q.ob=some (.ins a.Ag q.od (ĕ (baV q.bs) (.ref q.dl)))/\H q.dl=some (.lst ((q.by n kd ps).map V.int))
 nd:(P.map (·.nm)).Nodup
 wf:∀q,q∈P->To P q.bs q.path
 sz:∀q,q∈P->Sgs q.tx/\q.tx.length<=w/\q.path.length<=60/\(∀x,x∈q.path->Sgs x.2/\x.2.length<=w)
 z:P.length<=60
 nm:∀q,q∈P->nmS q.nm=true/\PyData.strOk q.nm=true
theorem yjo:∀{P:qi Pc}{r:Pc},(P.map (·.nm)).Nodup->r∈P->jl (pcs P) (.inr r.nm)=some (.ref r.ob)
 |q::P,r,hn,hr=>by
  have a:=cP.mp hn;by_cases e:q.nm=r.nm
  .rcases bw.mp hr with z|z
   .subst z;unfold jl pcs;rw[bR,List.find?_cons_of_pos (by simp)];rfl
   .exact absurd (bn.mpr ⟨r,z,e.symm⟩) a.1
  .rcases bw.mp hr with z|z
   .exact absurd (by rw[z]) e
   .unfold jl pcs;rw[bR,List.find?_cons_of_neg (by simpa using e)];exact yjo a.2 z
def yoz{P:qi Pc}{x:Str}(h:∀q,q∈P->q.nm≠x):jl (pcs P) (.inr x)=none:=by
 unfold jl pcs;rw[List.find?_eq_none.mpr λy b=>?_]
 .rfl
 .obtain⟨q,a,e⟩:=bn.mp b;rw[<- e];simpa using h q a
def ŀ.same{H H':Hp}{d:z4}{n:Nat}{kd:Ν}{ps:Κ}{w:Nat}{P:qi Pc}(h:ŀ a H d n kd ps w P)(S:yv H H'):ŀ a H' d n kd ps w P :=
 ⟨S _ _ h.dk,λq b=>⟨S _ _ (h.ob q b).1,S _ _ (h.ob q b).2⟩,h.nd,h.wf,h.sz,h.z,h.nm⟩
def yri(x:Str)(t:Ο)(S:Η):(nmL ((x,t)::S)).reverse=(nmL S).reverse++[.str x]:=by unfold nmL;rw[bR,List.reverse_cons]
def To.len{H:Hp}{d:z4}{n:Nat}{kd:Ν}{ps:Κ}{w:Nat}{P:qi Pc}(h:ŀ a H d n kd ps w P)(t:To P x L):L.length<=61:=by
 cases x with
 |none=>rw[show L=[]from t];exact bN _
 |some b =>
  let⟨r,c,_,e⟩:=t;have:=(h.sz r c).2.2.1;rw[e,bf,cB];omega
def ŀ.get{H:Hp}{d:z4}{n:Nat}{kd:Ν}{ps:Κ}{w:Nat}{P:qi Pc}{r:Pc}(h:ŀ a H d n kd ps w P)(hr:r∈P):Ł H d (.str r.nm) (some (.ref r.ob)):=by rw[<- yjo h.nd hr];exact Ł.k (k:=.inr r.nm) h.dk
def vc8{α:Type}{f:α->Str}{P:qi α}{q r:α}(hn:(P.map f).Nodup)(hq:q∈P)(hr:r∈P)(e:f q=f r):q=r:=by
 induction P with
 |nil=>cases hq
 |cons x P ih =>
  have a:=cP.mp hn;rcases bw.mp hq with z|z<;>rcases bw.mp hr with y|y
  .rw[z,y]
  .exact absurd (bn.mpr ⟨r,y,by rw[<- e,z]⟩) a.1
  .exact absurd (bn.mpr ⟨q,z,by rw[e,y]⟩) a.1
  .exact ih a.2 z y
def vem{P:qi Pc}{q r:Pc}(hn:(P.map (·.nm)).Nodup)(hq:q∈P)(hr:r∈P)(e:q.nm=r.nm):q=r:=vc8 hn hq hr e
def To.uniq{P:qi Pc}(hn:(P.map (·.nm)).Nodup)(h:To P x L)(g:To P x M):L=M:=by
 cases x with
 |none=>rw[show L=[]from h,show M=[]from g]
 |some b =>
  let⟨r,f,i,a⟩:=h;let⟨q,e,d,c⟩:=g;obtain rfl:=vem hn f e (i.trans d.symm);rw[a,c]
theorem To.pre{P:qi Pc}(wf:∀q,q∈P->To P q.bs q.path){b:Str}{t:Ο}{A:Η}:∀(m:Nat){x:qj Str}{B:Η},B.length<=m->To P x (A++[(b,t)]++B)->To P (some b) (A++[(b,t)])
 |m,none,B,_,h=>by
  have e:=congrArg List.length (show A++[(b,t)]++B=[]from h);rw[bf,bf]at e;simp at e
 |m,some c,B,hm,⟨r,hr,e1,e2⟩=>by
  rcases List.eq_nil_or_concat B with z|⟨i,y,z⟩
  .subst z;rw[List.append_nil]at e2;have a:=List.append_inj' e2 rfl;let⟨g,f⟩:=a;cases f;exists r,hr,e1,by rw[g]
  .subst z;rw[List.concat_eq_append]at e2 hm;rw[<- ck]at e2;have a:=(List.append_inj' e2 rfl).1
   cases m with
   |zero=>rw[bf]at hm;simp at hm
   |succ m =>
    have d:=wf r hr;rw[<- a]at d;exact To.pre wf m (by rw[bf,cB]at hm;omega) d
def To.ahead{P:qi Pc}(hn:(P.map (·.nm)).Nodup)(wf:∀q,q∈P->To P q.bs q.path){y:qj Str}(h:To P x L)(g:To P y M)(e:nmL L=(nmL M).take L.length):L=M.take L.length:=by
 cases x with
 |none=>rw[show L=[]from h];rfl
 |some b =>
  let⟨r,n,o,c⟩:=id h;have m:L.length=r.path.length+1:=by rw[c,bf,cB]
  have d:=congrArg List.length e;unfold nmL at d;rw[bZ,bc,bc]at d;have a:r.path.length<M.length:=()
  have j:M=M.take r.path.length++[M[r.path.length]]++M.drop (r.path.length+1):=by
   rw[ck,List.singleton_append,<- List.drop_eq_getElem_cons a,List.take_append_drop]
  have k:(M[r.path.length]).1=b:=by
   have z:=congrArg (λl=>l[r.path.length]?) e;unfold nmL at z;simp only[bq,List.getElem?_take]at z;rw[if_pos (),c,cK (bj _),Nat.sub_self,bg a]at z;simp at z;exact z.symm
  have g2:=g;rw[j]at g2;have f:M[r.path.length]=(b,(M[r.path.length]).2):=by rw[<- k]
  rw[f]at g2;have g3:=To.pre wf _ (bj _) g2;have i:=To.uniq hn h g3;rw[i,<- f,<- cq a]
  congr 1
  rw[bZ];omega
def ŀ.getNo{H:Hp}{d:z4}{n:Nat}{kd:Ν}{ps:Κ}{w:Nat}{P:qi Pc}{x:Str}(h:ŀ a H d n kd ps w P)(hx:∀q,q∈P->q.nm≠x):Ł H d (.str x) none:=by rw[<- yoz hx];exact Ł.k (k:=.inr x) h.dk
def vap(P:qi Pc)(b:Str):(∃r,r∈P/\r.nm=b)\/∀q,q∈P->q.nm≠b:=by
 by_cases h:∃r,r∈P/\r.nm=b
 .exact .inl h
 .exact .inr λq a e=>h ⟨q,a,e⟩
theorem To.sz{H:Hp}{d:z4}{n:Nat}{kd:Ν}{ps:Κ}{w:Nat}{P:qi Pc}(h:ŀ a H d n kd ps w P)(t:To P x L):∀y,y∈L->Sgs y.2/\y.2.length<=w:=by
 cases x with
 |none=>intro y c;rw[show L=[]from t]at c;cases c
 |some b =>
  let⟨r,j,_,e⟩:=t;let⟨i,f,_,g⟩:=h.sz r j;intro y c;rw[e]at c;rcases bM.mp c with z|z
  .exact g y z
  .rw[bA.mp z];exists i,f
def To.at'{P:qi Pc}(wf:∀q,q∈P->To P q.bs q.path)(t:To P x L)(hj:j<L.length):∃r,r∈P/\L[j]=(r.nm,r.tx)/\r.path=L.take j/\To P (some r.nm) (L.take (j+1)):=by
 have g:L=L.take j++[(L[j].1,L[j].2)]++L.drop (j+1):=by
  rw[ck,List.singleton_append,<- List.drop_eq_getElem_cons hj,List.take_append_drop]
 rw[g]at t;have a:=To.pre wf _ (bj _) t;let⟨r,h,d,e⟩:=id a;let⟨c,b⟩:=List.append_inj' e rfl
 cases r with|mk nm bs path tx ob od dl =>
 simp only at d c b;subst d;have f:L[j].2=tx:=by cases b;rfl
 exists _,h,?_,c.symm,?_
 .show L[j]=(L[j].1,tx);rw[<- f]
 .rw[cq hj];exact a
def To.nms{P:qi Pc}(wf:∀q,q∈P->To P q.bs q.path)(t:To P x L){y:Str×qi Int}(hy:y∈L):∃r,r∈P/\r.nm=y.1:=by let⟨j,c,e⟩:=List.mem_iff_getElem.mp hy;let⟨r,b,a,_⟩:=t.at' wf c;exists r,b,by rw[<- e,a]
def To.ok{H:Hp}{d:z4}{n:Nat}{kd:Ν}{ps:Κ}{w:Nat}{P:qi Pc}(h:ŀ a H d n kd ps w P)(t:To P x L):∀y,y∈L.map (·.1)->PyData.strOk y=true:=λy b=>by
 let⟨u,f,rfl⟩:=bn.mp b;let⟨r,c,e⟩:=t.nms h.wf f;rw[<- e];exact(h.nm r c).2
def ä(L:Η):nmL L=(L.map (·.1)).map V.str:=by unfold nmL;rw[cb];rfl
def õ(L:Η)(k:Nat):(nmL L).take k=nmL (L.take k):=by unfold nmL;rw[List.map_take]
def ω(L:Η):(nmL L).length=L.length:=bc _
def yn2(h:L.map (·.1)=M.map (·.1)):nmL L=nmL M:=by rw[ä,ä,h]
theorem ydg{w:Nat}:∀L:qi (Ο),(∀x,x∈L->x.length<=w)->(Ĝ L).length<=L.length*(9*w+1)
 |[],_=>bN _
 |t::L,h=>by
  have e:Ĝ (t::L)=dec t++Ĝ L:=rfl;have d:=h t bI;have b:=ydg L λx a=>h x (bH _ a);have c:=zn t;rw[e,bf,bp,Nat.succ_mul];omega
noncomputable def txi(L:Η)(i:Nat):Ο:=(L.map (·.2)).getD i []
def mOf(L:Η):Nat:=6+6*(Ĝ (L.map (·.2))).length
def NK(H:Hp)(ks ks':Τ):Prop:=∀q,V.ref q∈ks'->V.ref q∈ks\/H q=none
def NK.refl{H:Hp}{ks:Τ}:NK H ks ks:=λZ h=>.inl h
def NK.nil{H:Hp}{ks:Τ}:NK H ks []:=λZ h=>nomatch h
def NK.trans{H H1:Hp}{k1 k2 k3:Τ}(h:NK H k1 k2)(g:NK H1 k2 k3)(f:∀q,H1 q=none->H q=none):NK H k1 k3:=λq a=>(g q a).elim (h q) λz=>.inr (f q z)
def NK.app{H:Hp}{ks ks':Τ}{v:V}(h:NK H ks ks')(g:∀q,v=.ref q->H q=none):NK H ks (ks'++[v]):=λq a=>(bM.mp a).elim (h q) λz=>.inr (g q (bA.mp z).symm)
def StW(c cl ct:z4)(U:Μ):Μ:=λx=>x=c\/ChW cl ct U x
structure jm(K:z3)(a:Ads)(H:Hp)(st ds ll d c dc p cl ct:z4)(lk tp:Λ)(n:Nat)(kd:Ν)(ps:Κ)(mo w:Nat)(P:qi Pc)(L:Η)(ks:Τ)(U:Μ):Prop where
 me:H st=some (.ins a.A0 ds (xb (.ref ll) (.int mo) (.ref d) (.ref c)))
 n1:1<=n
 n6:n<=6
 lo:H ll=some (.lst (refs lk n))
 row:xx H n lk kd tp ps
 pz:ŀ a H d n kd ps w P
 ch:Ü K a H c dc p cl ct n kd ps L ks (mOf L) U
 nw:∀x,(x=st\/x=ll\/x=d\/∃q,q∈P/\(x=q.ob\/x=q.dl))->¬StW c cl ct U x
 mo1:mo<=1000
 wm:w<=mo/\w<=200
 way:∃x,To P x L
def Ü.but{H H':Hp}{c p ll:z4}{n:Nat}{kd:Ν}{ps:Κ}{ks:Τ}{M:Nat}{W:Μ}(h:Ü K a H c dc p ll tl n kd ps L ks M W){C:z4}{fs:Ι}(hq:H q=some (.ins C dq fs))(nq:¬StW c ll tl W q)(B:But q H H'):Ü K a H' c dc p ll tl n kd ps L ks M W:=by
 have d:∀{x:z4}{b:Τ},H x=some (.lst b)->x≠q:=λ{x b}e z=>by rw[z,hq]at e;cases e
 exists B _ _ h.me λz=>nq (.inl z.symm),h.fz.frame (W2:=λx=>x=q) (λx z=>⟨.ins C dq fs,by rw[show x=q from z];exact hq,.inl rfl⟩) (λx w z=>nq (.inr (.inr (.inr (by rw[<- show x=q from z];exact w))))) (λx o e f=>B x o e f),B _ _ h.hl (d h.hl),B _ _ h.ht (d h.ht),h.tx.mono λx b e g=>⟨B _ _ e (d e),g⟩,h.nc,h.nll,h.ntl,h.ne
def ydq(L:Η)(x:Str)(t:Ο):mOf (L++[(x,t)])=mOf L+6*(dec t).length:=by unfold mOf;rw[bD,show List.map (λx:Str×qi Int=>x.2) [(x,t)]=[t]from rfl,yal,bf];omega
def yno{w:Nat}(h:∀y,y∈L->y.2.length<=w)(hw:w<=200)(hl:L.length<=61):mOf L<=660000:=by
 have b:=ydg (w:=w) (L.map (·.2)) λx c=>by
  let⟨y,a,rfl⟩:=bn.mp c;exact h y a
 rw[bc]at b;have d:L.length*(9*w+1)<=61*1801:=Nat.mul_le_mul hl ();unfold mOf;omega
def StO(st c cl ct:z4)(U:Μ):Μ:=λy=>y=st\/StW c cl ct U y
def Go.or{W Y:Μ}{H H':Hp}(g:Go W H H' W'):Go (λx=>Y x\/W x) H H' (λx=>Y x\/W' x) :=
 ⟨λc o e a=>g.fr c o e λw=>a (.inr w),λc w=>w.elim (λy=>.inl (.inl y)) λw=>(g.nw c w).imp .inr id,g.lv⟩
def Ü.noTup{H:Hp}{c p ll:z4}{n:Nat}{kd:Ν}{ps:Κ}{ks:Τ}{M:Nat}{W:Μ}(h:Ü K a H c dc p ll tl n kd ps L ks M W){x:z4}{xs:Τ}(e:H x=some (.tup xs)):¬StW c ll tl W x:=λw=>by
 rcases w with z|z|z|z
 .rw[z,h.me]at e;cases e
 .rw[z,h.hl]at e;cases e
 .rw[z,h.ht]at e;cases e
 .exact h.fz.sh.tup e z
theorem Ü.same{H H':Hp}{c p ll:z4}{n:Nat}{kd:Ν}{ps:Κ}{ks:Τ}{M:Nat}{W:Μ}(h:Ü K a H c dc p ll tl n kd ps L ks M W)(S:yv H H'):Ü K a H' c dc p ll tl n kd ps L ks M W :=
 ⟨S _ _ h.me,h.fz.same S,S _ _ h.hl,S _ _ h.ht,h.tx.mono λZ Z e b=>⟨S _ _ e,b⟩,h.nc,h.nll,h.ntl,h.ne⟩
def ŀ.fr{H H':Hp}{d:z4}{n:Nat}{kd:Ν}{ps:Κ}{w:Nat}{P:qi Pc}(h:ŀ a H d n kd ps w P)(f:∀x o,H x=some o->(x=d\/∃q,q∈P/\(x=q.ob\/x=q.dl))->H' x=some o):ŀ a H' d n kd ps w P :=
 ⟨f _ _ h.dk (.inl rfl),λq b=>⟨f _ _ (h.ob q b).1 (.inr ⟨q,b,.inl rfl⟩),f _ _ (h.ob q b).2 (.inr ⟨q,b,.inr rfl⟩)⟩,h.nd,h.wf,h.sz,h.z,h.nm⟩
def xx.fr{H H':Hp}{n:Nat}{lk:Λ}{kd:Ν}{ps:Κ}(h:xx H n lk kd tp ps)(f:∀x xs,H x=some (.tup xs)->H' x=some (.tup xs)):xx H' n lk kd tp ps:=λi c=>by
 let⟨q,e,d,a,b⟩:=h i c;exists q,e,f _ _ d,f _ _ a,b
section
variable{H H':Hp}{ll d c p cl ct:z4}{lk:Λ}{n:Nat}{kd:Ν}{ps:Κ}{mo w:Nat}{P:qi Pc}{ks:Τ}
theorem jm.same(h:jm K a H st ds ll d c dc p cl ct lk tp n kd ps mo w P L ks U)(S:yv H H'):jm K a H' st ds ll d c dc p cl ct lk tp n kd ps mo w P L ks U :=
 ⟨S _ _ h.me,h.n1,h.n6,S _ _ h.lo,h.row.same S,h.pz.same S,h.ch.same S,h.nw,h.mo1,h.wm,h.way⟩
def jm.lv(h:jm K a H st ds ll d c dc p cl ct lk tp n kd ps mo w P L ks U):∀x,(x=st\/x=ll\/x=d\/∃q,q∈P/\(x=q.ob\/x=q.dl))->∃o,H x=some o:=λx e=>by
 rcases e with z|z|z|⟨q,b,z|z⟩
 .exists _,by rw[z];exact h.me
 .exists _,by rw[z];exact h.lo
 .exists _,by rw[z];exact h.pz.dk
 .exists _,by rw[z];exact(h.pz.ob q b).1
 .exists _,by rw[z];exact(h.pz.ob q b).2
def jm.lvO(h:jm K a H st ds ll d c dc p cl ct lk tp n kd ps mo w P L ks U):∀x,StO st c cl ct U x->∃o,H x=some o:=λx b=>by
 rcases b with z|z|z|z|z
 .exists _,by rw[z];exact h.me
 .exists _,by rw[z];exact h.ch.me
 .exists _,by rw[z];exact h.ch.hl
 .exists _,by rw[z];exact h.ch.ht
 .exact h.ch.fz.live x z
def jm.go(h:jm K a H st ds ll d c dc p cl ct lk tp n kd ps mo w P L ks U){ks':Τ}(hc:Ü K a H' c dc p cl ct n kd ps M ks' (mOf M) U')(g:Go (ChW cl ct U) H H' (ChW cl ct U'))(way:∃x,To P x M):jm K a H' st ds ll d c dc p cl ct lk tp n kd ps mo w P M ks' U'/\Go (StO st c cl ct U) H H' (StO st c cl ct U'):=by have g1:Go (StW c cl ct U) H H' (StW c cl ct U'):=g.or (Y:=λx=>x=c);have f:∀x o,H x=some o->(x=st\/x=ll\/x=d\/∃q,q∈P/\(x=q.ob\/x=q.dl))->H' x=some o:=λx o e b=>g1.fr x o e (h.nw x b);exists⟨f _ _ h.me (.inl rfl),h.n1,h.n6,f _ _ h.lo (.inr (.inl rfl)),h.row.fr λx i e=>g1.fr _ _ e (h.ch.noTup e),h.pz.fr λx o e z=>f x o e (.inr (.inr z)),hc,g1.apart (λx b=>h.lv x b) h.nw,h.mo1,h.wm,way⟩,g1.or (Y:=λx=>x=st)
structure StB(a:Ads)(H:Hp)(st ds ll d:z4)(vc:V)(lk tp:Λ)(n:Nat)(kd:Ν)(ps:Κ)(mo w:Nat)(P:qi Pc):Prop where
 me:H st=some (.ins a.A0 ds (xb (.ref ll) (.int mo) (.ref d) vc))
 n1:1<=n
 n6:n<=6
 lo:H ll=some (.lst (refs lk n))
 row:xx H n lk kd tp ps
 pz:ŀ a H d n kd ps w P
 mo1:mo<=1000
 wm:w<=mo/\w<=200
def jm.b(h:jm K a H st ds ll d c dc p cl ct lk tp n kd ps mo w P L ks U):StB a H st ds ll d (.ref c) lk tp n kd ps mo w P:=⟨h.me,h.n1,h.n6,h.lo,h.row,h.pz,h.mo1,h.wm⟩
def StB.lv{vc:V}(h:StB a H st ds ll d vc lk tp n kd ps mo w P):∀x,(x=st\/x=ll\/x=d\/∃q,q∈P/\(x=q.ob\/x=q.dl))->∃o,H x=some o:=λx c=>by
 rcases c with z|z|z|⟨q,b,z|z⟩
 .exists _,by rw[z];exact h.me
 .exists _,by rw[z];exact h.lo
 .exists _,by rw[z];exact h.pz.dk
 .exists _,by rw[z];exact(h.pz.ob q b).1
 .exists _,by rw[z];exact(h.pz.ob q b).2
def Go.wide{W:Μ}(g:Go W H H' W')(f:∀x,W x->W2 x):Go W2 H H' W':=⟨λc o e a=>g.fr c o e λw=>a (f c w),λc w=>(g.nw c w).imp (f c) id,g.lv⟩
def StB.re{vc:V}(h:StB a H st ds ll d vc lk tp n kd ps mo w P){dc' p':z4}{HE:Hp}(nc:H c'=none)(ndc:H dc'=none)(hch:Ü K a HE c' dc' p' cl' ct' n kd ps [] [] 6 U')(hnew:∀x,ChW cl' ct' U' x->(upd (upd H dc' (.own c')) c' (.ins a.A7 dc' [])) x=none)(BE:But c' (upd (upd H dc' (.own c')) c' (.ins a.A7 dc' [])) HE):
  jm K a (upd HE st (.ins a.A0 ds (xb (.ref ll) (.int mo) (.ref d) (.ref c')))) st ds ll d c' dc' p' cl' ct' lk tp n kd ps mo w P [] [] U'/\Go (λy=>y=st) H (upd HE st (.ins a.A0 ds (xb (.ref ll) (.int mo) (.ref d) (.ref c')))) (StO st c' cl' ct' U')/\yv H HE/\∀x,StW c' cl' ct' U' x->H x=none:=by
 have l:yv H (upd (upd H dc' (.own c')) c' (.ins a.A7 dc' [])):=λb o e=>by rw[yq (yb e nc),yq (yb e ndc)];exact e
 have f:yv H HE:=λb o e=>BE _ _ (l _ _ e) (yb e nc)
 have k:∀x,StW c' cl' ct' U' x->H x=none:=λx w=>by
  rcases w with z|z
  .rw[z];exact nc
  .exact l.free (hnew x z)
 have g:∀{x:z4}{o:HO},H x=some o->¬StW c' cl' ct' U' x:=λ{x o}e w=>by rw[k x w]at e;cases e
 have c:=h.me;have m:∀{x:z4}{j:Τ},H x=some (.lst j)->x≠st:=λ{x j}e z=>by rw[z,c]at e;cases e
 exists⟨ya,h.n1,h.n6,ym (m h.lo) (f _ _ h.lo),h.row.fr λx j e=>ym (λz=>by rw[z,c]at e;cases e) (f _ _ e),⟨ym (λz=>?_) (f _ _ h.pz.dk),λq i=>⟨ym (λz=>?_) (f _ _ (h.pz.ob q i).1),ym (m (h.pz.ob q i).2) (f _ _ (h.pz.ob q i).2)⟩,h.pz.nd,h.pz.wf,h.pz.sz,h.pz.z,h.pz.nm⟩,hch.but (f _ _ c) (g c) But.upd,λx r=>?_,h.mo1,h.wm,⟨none,rfl⟩⟩,⟨λx o e s=>ym s (f _ _ e),λx w=>?_,λx o e=>?_⟩,f,k
 .have e:=h.pz.dk;rw[z,c]at e;cases e
 .have e:=(h.pz.ob q i).1;rw[z,c]at e;injection e with e;injection e with _ _ e;have p:=congrArg List.length e;exact absurd (show (4:Nat)=2 from p) ∅
 .obtain⟨o,e⟩:=h.lv x r;exact g e
 .rcases w with z|z
  .exact .inl z
  .exact .inr (k x z)
 .by_cases z:x=st
  .exists _,by rw[z];exact ya
  .exists o,ym z (f _ _ e)
theorem jm.re(h:jm K a H st ds ll d c dc p cl ct lk tp n kd ps mo w P L ks U){dc' p':z4}{HE:Hp}(nc:H c'=none)(ndc:H dc'=none)(hch:Ü K a HE c' dc' p' cl' ct' n kd ps [] [] 6 U')(hnew:∀x,ChW cl' ct' U' x->(upd (upd H dc' (.own c')) c' (.ins a.A7 dc' [])) x=none)(BE:But c' (upd (upd H dc' (.own c')) c' (.ins a.A7 dc' [])) HE):
  jm K a (upd HE st (.ins a.A0 ds (xb (.ref ll) (.int mo) (.ref d) (.ref c')))) st ds ll d c' dc' p' cl' ct' lk tp n kd ps mo w P [] [] U'/\Go (StO st c cl ct U) H (upd HE st (.ins a.A0 ds (xb (.ref ll) (.int mo) (.ref d) (.ref c')))) (StO st c' cl' ct' U')/\yv H HE/\∀x,StW c' cl' ct' U' x->H x=none:=by let⟨g,e,f⟩:=h.b.re nc ndc hch hnew BE;exists g,e.wide λZ z=>.inl z,f
def To.less{b:Str}(h:To P x M)(hx:x≠some b):To (P.filter λq=>decide (q.nm≠b)) x M:=by
 cases x with
 |none=>exact h
 |some y =>
  let⟨r,d,a,c⟩:=h;exists r,List.mem_filter.mpr ⟨d,bi λz=>hx ?_⟩,a,c;rw[<- a,z]
def ykh(b:Str):∀P:qi Pc,ï (pcs P) (.inr b)=pcs (P.filter λq=>decide (q.nm≠b)):=λP=>by
 unfold ï pcs;rw[List.filter_map]
 congr 1
 refine List.filter_congr λq Z=>?_;by_cases e:q.nm=b
 .simp[e]
 .simp[e]
def StB.drop{vc:V}(h:StB a H st ds ll d vc lk tp n kd ps mo w P){b:Str}(hb:∀q,q∈P->q.bs≠some b):StB a (upd H d (.dK (ï (pcs P) (.inr b)))) st ds ll d vc lk tp n kd ps mo w (P.filter λq=>decide (q.nm≠b)):=by
 have j:=h.pz.dk;have f:∀{x:z4}{o:HO},H x=some o->o≠.dK (pcs P)->(upd H d (.dK (ï (pcs P) (.inr b)))) x=some o:=λ{x o}e i=>ym (λz=>by rw[z,j]at e;cases e;exact i rfl) e;have g:∀{q:Pc},q∈(P.filter λq=>decide (q.nm≠b))->q∈P:=λc=>(List.mem_filter.mp c).1
 exists f h.me (λz=>nomatch z),h.n1,h.n6,f h.lo (λz=>nomatch z),h.row.fr λx k e=>f e (λz=>nomatch z),⟨by rw[<- ykh];exact ya,λq c=>⟨f (h.pz.ob q (g c)).1 (λz=>nomatch z),f (h.pz.ob q (g c)).2 (λz=>nomatch z)⟩,h.pz.nd.sublist (List.filter_sublist.map _),λq c=>(h.pz.wf q (g c)).less (hb q (g c)),λq c=>h.pz.sz q (g c),bX (List.length_filter_le _ _) h.pz.z,λq c=>h.pz.nm q (g c)⟩,h.mo1,h.wm
end
structure Pd where
 nm:Str
 bs:qj Str
 path:Η
 tx:Ο
noncomputable def Pc.pd(q:Pc):Pd:=⟨q.nm,q.bs,q.path,q.tx⟩
structure Cf where
 n:Nat
 kd:Ν
 ps:Κ
 mo:Nat
 w:Nat
def Pd.by(C:Cf)(q:Pd):Ο:=í C.n C.kd C.ps (Ĝ (q.path.map (·.2))) q.tx
def ToD(P:qi Pd):qj Str->qi (Str×qi Int)->Prop
 |none,L=>L=[]
 |some b,L=>∃r,r∈P/\r.nm=b/\L=r.path++[(b,r.tx)]
def ů{Q:qi Pc}:ToD (Q.map Pc.pd) x L↔To Q x L:=by
 cases x with
 |none=>exact Iff.rfl
 |some b =>
  exists λ⟨r,a,e⟩=>?_,λ⟨r,a,e⟩=>⟨_,bn.mpr ⟨r,a,rfl⟩,e⟩;let⟨q,c,rfl⟩:=bn.mp a;exact⟨q,c,e⟩
def okN(x:Str):Prop:=nmS x=true/\PyData.strOk x=true
def WD(d st c cl ct:z4)(U:Μ):Μ:=λy=>y=d\/StO st c cl ct U y
structure Sx where
 w:Μ
 f:Μ
noncomputable def veh(d st c cl ct:z4)(U:Μ)(ll:z4)(Q:qi Pc)(ks:Τ):Sx :=
 ⟨WD d st c cl ct U,λy=>WD d st c cl ct U y\/y=ll\/(∃q,q∈Q/\(y=q.ob\/y=q.dl))\/V.ref y∈ks⟩
inductive Sto(K:z3)(a:Ads)(H:Hp)(st:z4)(C:Cf)(P:qi Pd)(X:Sx):Prop
 |mk(ds ll d c dc p cl ct:z4)(lk tp:Λ)(Q:qi Pc)(L:Η)(ks:Τ)(U:Μ)(s:jm K a H st ds ll d c dc p cl ct lk tp C.n C.kd C.ps C.mo C.w Q L ks U)(e:Q.map Pc.pd=P)(x:X=veh d st c cl ct U ll Q ks)
structure Gx(X:Sx)(H H':Hp)(Y:Sx):Prop where
 g:Go X.w H H' Y.w
 f:∀y,Y.f y->X.f y\/H y=none
theorem Gx.same{X Y:Sx}{H H1 H2:Hp}(h:Gx X H H1 Y)(S:yv H1 H2):Gx X H H2 Y:=⟨h.g.same S,h.f⟩
theorem Gx.ahead{X Y:Sx}{H H1 H2:Hp}(S:yv H H1)(h:Gx X H1 H2 Y):Gx X H H2 Y:=⟨h.g.ahead S,λy w=>(h.f y w).imp id S.free⟩
def Kf(H:Hp)(X:Sx)(x:z4)(o:HO):Prop:=H x=some o/\¬X.f x
section
variable{B H H':Hp}{C:Cf}{P:qi Pd}{X Y:Sx}
theorem Sto.same(h:Sto K a H st C P X)(S:yv H H'):Sto K a H' st C P X:=by let⟨j,k,d,c,b,p,l,g,i,m,Q,L,f,U,s,e,x⟩:=h;exists j,k,d,c,b,p,l,g,i,m,Q,L,f,U,s.same S,e,x
def Sto.live(h:Sto K a H st C P X):∀y,X.f y->∃o,H y=some o:=λy g=>by
 let⟨m,r,d,c,i,p,t,k,l,u,Q,L,j,U,s,rfl,rfl⟩:=h;rcases g with(z|z)|z|⟨q,b,z⟩|z
 .exists _,by rw[z];exact s.pz.dk
 .exact s.lvO y z
 .exists _,by rw[z];exact s.lo
 .exact s.lv y (.inr (.inr (.inr ⟨q,b,z⟩)))
 .rcases s.ch.tx.mem _ z with e|⟨q,n,e,b,_⟩
  .cases e
  .cases e;exists _,b
def Sto.wf(h:Sto K a H st C P X):∀y,X.w y->X.f y:=λy b=>by
 let⟨k,l,d,c,e,p,m,i,j,n,Q,L,g,U,s,rfl,rfl⟩:=h;exact .inl b
theorem Sto.ins(h:Sto K a H st C P X):∃ds vl vm vp vc,H st=some (.ins a.A0 ds (xb vl vm vp vc)):=by let⟨ds,i,d,c,b,p,j,f,g,k,Q,L,e,U,s,rfl,rfl⟩:=h;exists _,_,_,_,_,s.me
def vey(Q:qi Pc):(Q.map Pc.pd).map (·.nm)=Q.map (·.nm):=by rw[cb];rfl
theorem Sto.nd(h:Sto K a H st C P X):(P.map (·.nm)).Nodup:=by let⟨i,j,d,c,b,p,k,f,g,l,Q,L,e,U,s,rfl,rfl⟩:=h;rw[vey];exact s.pz.nd
theorem Sto.z(h:Sto K a H st C P X):P.length<=60:=by let⟨i,j,d,c,b,p,k,f,g,l,Q,L,e,U,s,rfl,rfl⟩:=h;rw[bc];exact s.pz.z
theorem Sto.nm(h:Sto K a H st C P X):∀q,q∈P->okN q.nm:=λq b=>by
 let⟨k,l,d,c,f,p,m,i,j,n,Q,L,g,U,s,rfl,rfl⟩:=h;let⟨r,e,rfl⟩:=bn.mp b;exact s.pz.nm r e
def Sto.to(h:Sto K a H st C P X):∀q,q∈P->ToD P q.bs q.path:=λq b=>by
 let⟨k,l,d,c,f,p,m,i,j,n,Q,L,g,U,s,rfl,rfl⟩:=h;let⟨r,e,rfl⟩:=bn.mp b;exact ů.mpr (s.pz.wf r e)
theorem Sto.sz(h:Sto K a H st C P X):∀q,q∈P->Sgs q.tx/\q.tx.length<=C.w/\q.path.length<=60/\(∀x,x∈q.path->Sgs x.2/\x.2.length<=C.w):=λq b=>by
 let⟨k,l,d,c,f,p,m,i,j,n,Q,L,g,U,s,rfl,rfl⟩:=h;let⟨r,e,rfl⟩:=bn.mp b;exact s.pz.sz r e
def Sto.cf(h:Sto K a H st C P X):1<=C.n/\C.n<=6/\C.mo<=1000/\C.w<=C.mo/\C.w<=200:=by let⟨i,j,d,c,b,p,k,f,g,l,Q,L,e,U,s,rfl,rfl⟩:=h;exists s.n1,s.n6,s.mo1,s.wm.1,s.wm.2
theorem Sto.frame(h:Sto K a H st C P X)(sh:WSh H W2)(dj:∀y,X.f y->¬W2 y)(fr:∀y o,H y=some o->¬W2 y->H' y=some o):Sto K a H' st C P X:=by
 let⟨A,n,d,c,t,p,i,g,x,F,Q,L,j,U,s,rfl,rfl⟩:=h;have f:∀{y:z4}{o:HO},H y=some o->(veh d st c i g U n Q j).f y->H' y=some o:=λ{y o}e w=>fr y o e (dj y w);exists A,n,d,c,t,p,i,g,x,F,Q,L,j,U,⟨f s.me (.inl (.inr (.inl rfl))),s.n1,s.n6,f s.lo (.inr (.inl rfl)),s.row.fr λy G e=>fr _ _ e (sh.tup e),s.pz.fr λy o e z=>f e (z.elim (λz=>.inl (.inl z)) λz=>.inr (.inr (.inl z))),⟨f s.ch.me (.inl (.inr (.inr (.inl rfl)))),s.ch.fz.frame sh (λy w=>dj y (.inl (.inr (.inr (.inr (.inr (.inr w))))))) fr,f s.ch.hl (.inl (.inr (.inr (.inr (.inl rfl))))),f s.ch.ht (.inl (.inr (.inr (.inr (.inr (.inl rfl)))))),?_,s.ch.nc,s.ch.nll,s.ch.ntl,s.ch.ne⟩,s.nw,s.mo1,s.wm,s.way⟩,rfl,rfl
 have l:∀{L:Η}{b:Τ},(∀v,v∈b->v∈j)->ybl H (ChW i g U) L b->ybl H' (ChW i g U) L b:=by
  intro L
  induction L with
  |nil=>intro b _ h;exact h
  |cons y r ih =>
   rintro b m ⟨k,B,rfl,z,h⟩;exists k,B,rfl,z.imp id λ⟨q,e,D,u⟩=>⟨q,e,f D (.inr (.inr (.inr ?_))),u⟩,ih (λv E=>m v (bH _ E)) h;rw[<- e];exact m _ bI
 exact l (λZ h=>h) s.ch.tx
def Sto.but(h:Sto K a H st C P X){y:z4}(sh:WSh H λz=>z=y)(ny:¬X.f y)(b:But y H H'):Sto K a H' st C P X :=
 h.frame sh (λz w e=>ny (by rw[<- e];exact w)) λz o e c=>b z o e c
def WSh.mu{y:z4}{o:HO}(e:H y=some o)(ho:ved o=true):WSh H λz=>z=y:=λz w=>⟨o,by rw[w];exact e,.inl ho⟩
def Kf.new{x:z4}{o:HO}(s:Sto K a H st C P X)(hx:H x=none)(e:H' x=some o):Kf H' X x o:=⟨e,λw=>by
 let⟨c,b⟩:=s.live x w;rw[hx]at b;cases b⟩
def Gx.of{d c cl ct ll:z4}{Q Q':qi Pc}{ks ks':Τ}(g:Go (WD d st c cl ct U) H H' (WD d st c' cl' ct' U'))(nk:NK H ks ks')(hq:∀q,q∈Q'->q∈Q\/(H q.ob=none/\H q.dl=none)):Gx (veh d st c cl ct U ll Q ks) H H' (veh d st c' cl' ct' U' ll Q' ks'):=by
 exists g,λy w=>?_;rcases w with z|z|⟨q,h,z⟩|z
 .exact(g.nw y z).imp .inl id
 .exact .inl (.inr (.inl z))
 .rcases hq q h with e|⟨b,a⟩
  .exact .inl (.inr (.inr (.inl ⟨q,e,z⟩)))
  .rcases z with z|z
   .rw[z];exact .inr b
   .rw[z];exact .inr a
 .exact(nk y z).imp (λz=>.inr (.inr (.inr z))) id
end
def ybf{P:qi Pd}{q r:Pd}(hn:(P.map (·.nm)).Nodup)(hq:q∈P)(hr:r∈P)(e:q.nm=r.nm):q=r:=vc8 hn hq hr e
def ToD.uniq{P:qi Pd}(hn:(P.map (·.nm)).Nodup)(h:ToD P x L)(g:ToD P x M):L=M:=by
 cases x with
 |none=>rw[show L=[]from h,show M=[]from g]
 |some b =>
  let⟨r,f,i,a⟩:=h;let⟨q,e,d,c⟩:=g;obtain rfl:=ybf hn f e (i.trans d.symm);rw[a,c]
theorem yck{α:Type}[DecidableEq α]:∀{l m:qi α},l.Nodup->(∀x,x∈l->x∈m)->l.length<=m.length
 |[],_,_,_=>bN _
 |x::l,m,hn,h=>by
  have a:=cP.mp hn;have c:=h x bI;have d:l.length<=(m.erase x).length:=yck a.2 λy b=>(List.mem_erase_of_ne (λe=>a.1 (by rw[<- e];exact b))).mpr (h y (bH _ b));rw[List.length_erase_of_mem c]at d;have:=List.length_pos_of_mem c;rw[bp];omega
noncomputable def Pd.pc(q:Pd):Pc:=⟨q.nm,q.bs,q.path,q.tx,0,0,0⟩
def vaj(P:qi Pd):(P.map Pd.pc).map Pc.pd=P:=by rw[cb];exact List.map_id _
structure PdW(P:qi Pd):Prop where
 nd:(P.map (·.nm)).Nodup
 wf:∀q,q∈P->ToD P q.bs q.path
theorem ToD.pc{P:qi Pd}(h:ToD P x L):To (P.map Pd.pc) x L:=ů.mp (by rw[vaj];exact h)
theorem ToD.at{P:qi Pd}(w:PdW P)(t:ToD P x L)(hj:j<L.length):∃r,r∈P/\L[j]=(r.nm,r.tx)/\r.path=L.take j/\ToD P (some r.nm) (L.take (j+1)):=by
 let⟨r,f,e,b,d⟩:=To.at' (λq c=>by
  let⟨u,a,rfl⟩:=bn.mp c;exact(w.wf u a).pc) t.pc hj
 let⟨u,a,rfl⟩:=bn.mp f;exists u,a,e,b,?_;have:=ů.mpr d;rw[vaj]at this;exact this
def ToD.len{P:qi Pd}(w:PdW P)(t:ToD P x L):L.length<=P.length:=by
 have h:=yck (l:=L.map (·.1)) (m:=P.map (·.nm)) ?_ ?_
 .rw[bc,bc]at h;exact h
 .refine List.pairwise_iff_getElem.mpr λi j f a n e=>?_;rw[bc]at f a;rw[cM,cM]at e;let⟨r,c,b,d,_⟩:=t.at w f;let⟨u,p,g1,g2,_⟩:=t.at w a;rw[b,g1]at e;have:=ybf w.nd c p e;rw[this,g2]at d;have g:=congrArg List.length d;rw[bZ,bZ]at g;omega
 .intro y o;let⟨z,k,rfl⟩:=bn.mp o;let⟨j,a,rfl⟩:=List.mem_iff_getElem.mp k;let⟨r,c,b,_⟩:=t.at w a;rw[b];exact bn.mpr ⟨r,c,rfl⟩
def Sto.pw{H:Hp}{C:Cf}{P:qi Pd}{X:Sx}(h:Sto K a H st C P X):PdW P:=⟨h.nd,h.to⟩
structure Bs(B H:Hp)(X:Sx):Prop where
 s:yv B H
 n:∀y,X.f y->B y=none
def Bs.same{B H H':Hp}{X:Sx}(h:Bs B H X)(S:yv H H'):Bs B H' X:=⟨h.s.trans S,h.n⟩
def vh3{tc:TT}{ts te:TS}{D:ł}{σ:St}{H:Hp}(b:Bool)(h:∀Qb:Bool->Hp->Prop,(∀H',yv H H'->Qb b H')->tc σ H Qb)(hT:b=true->∀H',yv H H'->ts D σ H')(hF:b=false->∀H',yv H H'->te D σ H'):vgb tc ts te D σ H :=
 h _ λH' S=>by
  cases b with
  |true=>show (if true=true then _ else _);rw[if_pos rfl];exact hT rfl H' S
  |false=>show (if false=true then _ else _);rw[if_neg ∅];exact hF rfl H' S
inductive Np(a:Ads)(P:qi Pd)(b:Str):Μ
 |name (h:nmS b=false):Np a P b a.A4
 |piece (h:nmS b=true) (no:∀q,q∈P->q.nm≠b):Np a P b a.A1
theorem Np.e{Qs:qi Pc}{b:Str}{H:Hp}{E:XK}(np:Np a (Qs.map Pc.pd) b cc)(ok:∀q,q∈Qs->nmS q.nm=true)(k:∀H',yv H H'->E (.ref cc) none H'):(nmV (.str b)=false->∀H',yv H H'->E (.ref a.A4) none H')/\(∀b',V.str b=.str b'->nmS b'=true->(∀q,q∈Qs->q.nm≠b')->∀H',yv H H'->E (.ref a.A1) none H')/\∀r,r∈Qs->V.str b=.str r.nm->False:=by
 cases np with
 |name h=>exists λZ=>k,(λb' e d=>by cases e;rw[h]at d;cases d),λr c e=>by cases e;rw[ok r c]at h;cases h
 |piece h no=>exists(λz=>by rw[show nmV (.str b)=nmS b from rfl,h]at z;cases z),(λb' e Z Z=>k),λr c e=>by cases e;exact no _ (bn.mpr ⟨r,c,rfl⟩) rfl
#synth yzy ["self","looks"] vdw
inductive ygl(K:z3)(a:Ads)(vs:Τ)(H:Hp)(Q:VK)(E':XK):Prop
 |mk(c dc l:z4)(n:Nat)(lk tp:Λ)(kd:Ν)(ps:Κ)(_:vs=[.ref c,.ref l])(_:H c=some (.ins a.A7 dc []))(_:H l=some (.lst (refs lk n)))(_:1<=n)(_:n<=6)(_:xx H n lk kd tp ps)(_:∀(p ll tl:z4)(W:Μ)(H':Hp),Ü K a H' c dc p ll tl n kd ps [] [] 6 W->(∀x,ChW ll tl W x->H x=none)->But c H H'->(∀y xs H'',H y=some (.lst xs)->But y H' H''->Ü K a H'' c dc p ll tl n kd ps [] [] 6 W)->Q .non H')
def yei(T:Txt K mg a):vn P w K mg Γ (CXe P w) 8 a.L1 a.Ta ["self","looks"] (ygl K a):=by
 exists T.Im.F.okE,yzy,hr;let⟨c,f,l,n,lk,tp,kd,ps,rfl,hc,hl,n1,n6,a1,k⟩:=h;refine yh (vh (pv 0) (uh T.Xk (ywc T) hr.m rfl T.Xj T.Uw.B .nil yt (pa1 (pv 1))) rfl) ?_;refine yh (vh (pv 0) (vj za) rfl) ?_;exists 2,0,yc (vh (pv 0) (vj za) rfl);intro p dp np Z a3;refine FZ.new np Z hl n1 n6 a1 λW C hf nW S1 Y=>⟨rfl,?_⟩;have J:=S1 _ _ hc;ext;have v:upd C c (HO.ins a.A7 f ([("foreteller",V.ref p)]:Ι)) c=some (HO.ins a.A7 f ([("foreteller",V.ref p)]:Ι)):=ya;have N:But c C (upd C c (HO.ins a.A7 f ([("foreteller",V.ref p)]:Ι))):=But.upd;generalize upd C c (HO.ins a.A7 f ([("foreteller",V.ref p)]:Ι))=HA at v N⊢;exists by walk_at "len",λi hll=>?_
 exists hll,HB,SB,eB;have a5:=SB _ _ v;ext;have t:upd HB c (HO.ins a.A7 f ([("foreteller",V.ref p),("links",V.ref i)]:Ι)) c=some (HO.ins a.A7 f ([("foreteller",V.ref p),("links",V.ref i)]:Ι)):=ya;have L:But c HB (upd HB c (HO.ins a.A7 f ([("foreteller",V.ref p),("links",V.ref i)]:Ι))):=But.upd;generalize upd HB c (HO.ins a.A7 f ([("foreteller",V.ref p),("links",V.ref i)]:Ι))=HC at t L⊢;exists by walk_at "len",λD htl=>?_
 exists htl,HD,SD,eD;have a4:=SD _ _ t;ext;have j:i≠c:=(yb v hll).symm;have g:D≠c:=(yb t htl).symm;have S:HC i=some (.lst []):=L _ _ eB j
 have M:∀{x:z4},x≠c->HA x=none->H x=none:=λ{x}d e=>by
  cases z:H x with
  |none=>rfl
  |some o=>rw[N _ _ (S1 _ _ z) d]at e;cases e
 have X:∀{x:z4},x≠c->HC x=none->HA x=none:=λ{x}d e=>by
  cases z:HA x with
  |none=>rfl
  |some o=>rw[L _ _ (SB _ _ z) d]at e;cases e
 have u:But c C (upd HD c (HO.ins a.A7 f (jx (.ref p) (.ref i) (.ref D)))):=λx o e d=>ym d (SD _ _ (L _ _ (SB _ _ (N _ _ e d)) d))
 have q:∀x,W x->x≠c:=λx w z=>by
  have e:=nW x w;rw[z,hc]at e;cases e
 have G:H i=none:=M j hll;have I:H D=none:=M g (X g htl)
 have O:¬W i:=λw=>by
  let⟨o,e⟩:=hf.live _ w;rw[N _ _ e j]at hll;cases hll
 have R:¬W D:=λw=>by
  let⟨o,e⟩:=hf.live _ w;rw[L _ _ (SB _ _ (N _ _ e g)) g]at htl;cases htl
 refine k p i D W (upd HD c (HO.ins a.A7 f (jx (.ref p) (.ref i) (.ref D)))) ⟨ya,?_,?_,?_,rfl,λw=>q c w rfl,O,R,yb S htl⟩ (λx w=>?_) (λx o e d=>u x o (S1 _ _ e) d) (λy xs H2 r b=>?_)
 .exact hf.frame (W2:=λx=>x=c) (λx z=>⟨.ins a.A7 f [],by rw[show x=c from z];exact J,.inl rfl⟩) (λx w z=>q x w z) (λx o e d=>u x o e d)
 .exact ym j (SD _ _ S)
 .exact ym g eD
 .rcases w with z|z|z
  .rw[z];exact G
  .rw[z];exact I
  .exact nW x z
 .have a0:c≠y:=λz=>by rw[<- z,hc]at r;cases r
  have bG:But y C (upd H2 c (.ins a.A7 f [])):=λx o e d=>by
   by_cases z:x=c
   .rw[z,ya];rw[z,J]at e;exact e
   .exact ym z (b _ _ (u x o e z) d)
  exists b _ _ ya a0,(Y y xs _ r bG).frame (W2:=λx=>x=c) (λx z=>⟨.ins a.A7 f [],by rw[show x=c from z];exact ya,.inl rfl⟩) (λx w z=>q x w z) (λx o e d=>by rw[yq d]at e;exact e),b _ _ (ym j (SD _ _ S)) (λz=>by rw[<- z,G]at r;cases r),b _ _ (ym g eD) (λz=>by rw[<- z,I]at r;cases r),rfl,λw=>q c w rfl,O,R,yb S htl
#synth yxt ["self","name","text"] vdh
inductive yk3(a:Ads)(vs:Τ)(H:Hp)(Q:VK)(E':XK):Prop
 |mk(c dc:z4)(vf:V)(ll tl:z4)(x y:V)(xs ys:Τ)(_:vs=[.ref c,x,y])(_:H c=some (.ins a.A7 dc (jx vf (.ref ll) (.ref tl))))(_:H ll=some (.lst xs))(_:H tl=some (.lst ys))(_:ll≠tl)(_:xs.length<=10000)(_:ys.length<=10000)(_:Q .non (upd (upd H ll (.lst (xs++[x]))) tl (.lst (ys++[y]))))
def yp7(T:Txt K mg a):vn P w K mg Γ CX0 1 a.Pz a.Tb ["self","name","text"] (yk3 a):=by
 exists T.Io.F.ok,yxt,u;let⟨c,l,n,d,i,x,y,j,m,rfl,f,g,r,o,B,v,k⟩:=h;exists 3,0,yg (y6 (uy PySem.F.plainAttrs_list PySem.F.slot_list_append PySem.F.type_list_append wy (yr (pv 0) rfl) (pa1 (pv 1)))) (yc (y6 (uy PySem.F.plainAttrs_list PySem.F.slot_list_append PySem.F.type_list_append wy (yr (pv 0) rfl) (pa1 (pv 2)))));refine z6 g ?_;ext;refine xp g (vk ()) ?_;have q:(upd H d (.lst (j++[x]))) c=some (.ins a.A7 l (jx n (.ref d) (.ref i))):=by rw[yq (λz=>by rw[z,g]at f;cases f)];exact f
 ext;have b:(upd H d (.lst (j++[x]))) i=some (.lst m):=by rw[yq o.symm];exact r
 refine z6 b ?_;ext;refine xp b (vk ()) ?_;ext;exact k
def Ü.grow{H H1:Hp}{c p ll:z4}{n:Nat}{kd:Ν}{ps:Κ}{ks:Τ}{M M':Nat}{W:Μ}(h:Ü K a H c dc p ll tl n kd ps L ks M W){nm:Str}{t:Ο}{k:V}(hf:FZ K a H1 p n kd ps (Ĝ (L.map (·.2))++dec t) M' W')(g:Go W H H1 W')(hk:k=.non\/∃q,k=.ref q/\H1 q=some (.lst (t.map V.int))/\¬ChW ll tl W' q):
  Ü K a (upd (upd H1 ll (.lst (nmL L++[V.str nm]))) tl (.lst (ks++[k]))) c dc p ll tl n kd ps (L++[(nm,t)]) (ks++[k]) M' W'/\Go (ChW ll tl W) H (upd (upd H1 ll (.lst (nmL L++[V.str nm]))) tl (.lst (ks++[k]))) (ChW ll tl W'):=by
 have r:=g.fr _ _ h.hl h.nll;have v:=g.fr _ _ h.ht h.ntl;have l:=g.fr _ _ h.me h.nc;have i:∀{x:z4}{o:HO},H x=some o->¬W x->¬W' x:=λ{x o}e d w=>(g.nw x w).elim d λz=>by rw[e]at z;cases z
 have C:=i h.hl h.nll;have B:=i h.ht h.ntl
 have f:∀x o,H1 x=some o->¬(x=ll\/x=tl)->(upd (upd H1 ll (.lst (nmL L++[V.str nm]))) tl (.lst (ks++[k]))) x=some o:=λx o e d=>by
  rw[yq (λz=>d (.inr z)),yq (λz=>d (.inl z))];exact e
 have m:c≠ll:=λz=>by have e:=h.me;rw[z,h.hl]at e;cases e
 have A:c≠tl:=λz=>by have e:=h.me;rw[z,h.ht]at e;cases e
 exists⟨f _ _ l λz=>z.elim m A,?_,?_,ya,?_,i h.me h.nc,C,B,h.ne⟩,⟨λx o e d=>?_,λx w=>?_,λx o e=>?_⟩
 .have E:Ĝ ((L++[(nm,t)]).map (·.2))=Ĝ (L.map (·.2))++dec t:=by rw[bD];exact yal _ _
  rw[E];refine hf.frame (W2:=λx=>x=ll\/x=tl) (λx w=>?_) (λx w z=>?_) λx o e d=>f x o e d
  .rcases w with z|z
   .exists _,by rw[show x=ll from z];exact r,.inr ⟨_,rfl,λy j=>?_⟩
    let⟨u,_,e⟩:=bn.mp j;exact .inl ⟨u.1,e.symm⟩
   .exists _,by rw[show x=tl from z];exact v,.inr ⟨_,rfl,λy j=>.inr ?_⟩
    exact(h.tx.mem y j).imp (λe=>by rw[e];rfl) λ⟨q,F,e,s,b⟩=>⟨q,e,.inl ⟨F,g.fr q _ s λw=>b (.inr (.inr w))⟩⟩
  .rcases z with z|z
   .rw[z]at w;exact C w
   .rw[z]at w;exact B w
 .rw[yq h.ne,ya];unfold nmL;rw[bD];rfl
 .refine ybl.snoc ?_ (h.tx.mono λq I e b=>⟨f q _ (g.fr q _ e λw=>b (.inr (.inr w))) λz=>b (z.imp id .inl),λw=>?_⟩)
  .refine hk.imp id λ⟨q,e,s,b⟩=>⟨q,e,f q _ s λz=>b (z.imp id .inl),b⟩
  .rcases w with w|w|w
   .exact b (.inl w)
   .exact b (.inr (.inl w))
   .exact i e (λw=>b (.inr (.inr w))) w
 .exact f x o (g.fr x o e λw=>d (.inr (.inr w))) λz=>d (z.imp id .inl)
 .rcases w with w|w|w
  .exact .inl (.inl w)
  .exact .inl (.inr (.inl w))
  .exact(g.nw x w).imp (λw=>.inr (.inr w)) id
 .obtain⟨D,G⟩:=g.lv x o e;by_cases z2:x=tl
  .exists _,by rw[z2];exact ya
  .by_cases z1:x=ll
   .exists _,by rw[z1,yq h.ne];exact ya
   .exists D,f x D G λz=>z.elim z1 z2
#synth yo0 ["self","name","text","data"] ["self","name","text"] vbe
inductive ye5(K:z3)(a:Ads)(vs:Τ)(H:Hp)(Q:VK)(E':XK):Prop
 |mk(c dc p ll tl:z4)(n:Nat)(kd:Ν)(ps:Κ)(L:Η)(ks:Τ)(M:Nat)(W:Μ)(tx:z4)(nm:Str)(ts:Ο)(_:vs=[.ref c,.str nm,.ref tx])(_:Ü K a H c dc p ll tl n kd ps L ks M W)(_:L.length<=1000)(_:yj2 H tx ts 1000)(_:¬W tx)(_:M+6*(dec ts).length+20<1000000)(_:∀(r:z4)(W':Μ)(H':Hp),H r=none->H' r=some (.lst ((í n kd ps (Ĝ (L.map (·.2))) ts).map V.int))->Ü K a H' c dc p ll tl n kd ps (L++[(nm,ts)]) (ks++[.non]) (M+6*(dec ts).length) W'->Go (ChW ll tl W) H H' (ChW ll tl W')->Q (.ref r) H')
def yyc(T:Txt K mg a):vn P w K mg Γ CX0 8 a.Q1 a.Tc ["self","name","text"] (ye5 K a):=by
 exists T.N4.F.ok,yo0,v;let⟨c,x,p,u,y,n,G,X,L,N,M,W,J,nm,Y,rfl,b,hz,j,l,I,k⟩:=h;have C:=b.me;have S:=b.tx.len;exists 3,1,yg (y7 (i:=3) yo0.nd rfl (Or.inl rfl) (ug (yw0 T) v.m T.V5 (pac (yr (pv 0) rfl) (pa1 (pv 2))))) (yg (y6 (xj (pv 0) T.Ar T.Io.m (yp7 T) v.m T.Io.B .nil wl (pac (pv 1) (pa1 jh)))) (yc (yu (pv 3))));refine b.fz.press j l I λr R Z d f O g=>?_;have q:=g.fr _ _ b.hl b.nll;have t:=g.fr _ _ b.ht b.ntl;have o:=g.fr _ _ b.me b.nc;ext;exists c,x,_,u,y,_,_,_,_,rfl,o,q,t,b.ne,by unfold nmL;rw[bc];omega,(),?_
 let⟨z,g2⟩:=b.grow (nm:=nm) O g (.inl rfl);ext;refine k r R _ d ?_ z g2;rw[yq (yb b.ht d).symm,yq (yb b.hl d).symm];exact f
#synth ypl ["self","name","data","most","first"] ["self","name","data","most"] vds
inductive yge(K:z3)(a:Ads)(vs:Τ)(H:Hp)(Q:VK)(E':XK):Prop
 |mk(c dc p ll tl:z4)(n:Nat)(kd:Ν)(ps:Κ)(L:Η)(ks:Τ)(M:Nat)(W:Μ)(dt:z4)(nm:Str)(ts bs:Ο)(mo:Nat)(_:vs=[.ref c,.str nm,.ref dt,.int mo])(_:Ü K a H c dc p ll tl n kd ps L ks M W)(_:L.length<=1000)(_:Sgs ts)(_:H dt=some (.lst ((í n kd ps (Ĝ (L.map (·.2))) ts++bs).map V.int)))(_:¬W dt)(_:Byt bs)(_:(í n kd ps (Ĝ (L.map (·.2))) ts++bs).length<=12000)(_:ts.length<=mo)(_:mo<=1000)(_:M+54*mo+200<1000000)(_:∀(q:z4)(W':Μ)(H':Hp),H q=none->Ü K a H' c dc p ll tl n kd ps (L++[(nm,ts)]) (ks++[.ref q]) (M+6*(dec ts).length) W'->Go (ChW ll tl W) H H' (ChW ll tl W')->Q (.int ((í n kd ps (Ĝ (L.map (·.2))) ts).length:Nat)) H')
def yzt(T:Txt K mg a):vn P w K mg Γ (CXe P w) 11 a.Q3 a.Td ["self","name","data","most"] (yge K a):=by
 exists T.N5.F.okE,ypl,S;let⟨c,U,p,f,j,n,R,ps,L,X,M,W,dt,nm,O,bs,mo,rfl,b,hz,l,C,J,y,D,G,x,hM,k⟩:=h;have a0:=b.me;have a2:=b.tx.len;exists 4,1,yg (y7 (i:=4) ypl.nd rfl (Or.inl rfl) (uf (ywb T) S.m T.V8 yt (pac (yr (pv 0) rfl) (pac (pv 2) (pa1 (pv 3)))))) (yg (y6 (xj (pv 0) T.Ar T.Io.m (yp7 T) S.m T.Io.B .nil wl (pac (pv 1) (pa1 (xg Ô (pv 4) yf (λF F=>rfl)))))) (yc (yu (xg Ô (pv 4) yf (λF F=>rfl)))));refine b.fz.read (È _) l C J y D G x hM λt q Y H1 e d Z hq hf g nq=>?_;have v:=g.fr _ _ b.hl b.nll;have I:=g.fr _ _ b.ht b.ntl;have r:=g.fr _ _ b.me b.nc;ext;exists t,_,0,_,rfl,rfl,SqT.of Z,rfl,?_;ext;exists c,U,_,f,j,_,_,_,_,rfl,r,v,I,b.ne,by unfold nmL;rw[bc];omega,(),?_
 have u:¬ChW f j Y q:=λw=>by
  rcases w with w|w|w
  .exact yb b.hl d w.symm
  .exact yb b.ht d w.symm
  .exact nq w
 let⟨z,g2⟩:=b.grow (nm:=nm) hf g (.inr ⟨q,rfl,hq,u⟩)
 have o:(upd (upd H1 f (.lst (nmL L++[V.str nm]))) j (.lst (X++[V.ref q]))) t=some (.tup [.ref q,.int ((í n R ps (Ĝ (L.map (·.2))) O).length:Nat)]):=by
  rw[yq (yb b.ht e).symm,yq (yb b.hl e).symm];exact Z
 ext;exists t,_,1,_,rfl,rfl,SqT.of o,rfl,?_;exact k q Y _ d z g2
#synth yuw ["self","text"] vdp
def yls:Sp:=λZ Z Z Z=>False
def yo9(T:Txt K mg a):vn P w K mg Γ CX0 1 a.Q4 a.Te ["self","text"] yls:=by refine T.Ip.F.ok yuw (λd H Q E h=>h.elim) (λc A b s H d Q E e h=>h.elim)
#synth yu7 ["thing"] va8
inductive yhh(K:z3)(vs:Τ)(H:Hp)(Q:VK)(E':XK):Prop
 |mk(x n:_)(_:vs=[x])(_:xu K H x (.type n))(_:(∀s,x=.str s->s.length<=100000))(_:∀H',yv H H'->Q (.bl (nmV x)) H')
def yz0(T:Txt K mg a):vn P w K mg Γ CX0 1 a.Q5 a.Tf ["thing"] (yhh K):=by
 exists T.V9.F.ok,yu7,v;let⟨x,n,rfl,d,b,k⟩:=h;exists 1,0,yc (yu (zi (pcB wz T.A6 (pac (pv 0) (pa1 (ji (T:="str") rfl T.K6 (by right))))) (zi (Í je je yf (pcB zd T.Af (pa1 (pv 0))) (vq rfl T.Gi)) (ι (pcB (z9 rfl) T.Gf (pa1 (we (js:=[]) (ys:=[]) rfl (yes (pv 0)) (λC r u t=>(uu yax (pv 0) (ja rfl T.Hj) (by with_unfolding_all rfl))) rfl rfl (hyc:=ve) (hrel:=ve))))))));refine ç d (ũ d) ?_;ext;by_cases hn:n="str"
 .obtain⟨s',rfl⟩:∃s',x=.str s':=by
   cases d with
   |str s'=>exists s',rfl
   |_=>exact absurd hn ∅
  have b:=b s' rfl;rw[bi hn];refine zt ?_;ext;exists s',rfl,bX b ∅,?_;refine⟨1,(s'.length:Int),rfl,rfl,_,rfl,?_⟩;by_cases h1:(1:Int)<=(s'.length:Int)
  .refine ybj h1 ?_;exists(s'.length:Int),8,rfl,rfl,_,rfl,?_;by_cases h8:(s'.length:Int)<=8
   .refine ybj h8 ?_;ext;exists s',rfl,λD j=>?_;refine Å (λi=>.bl (yna (s'.cps.toList.getD i 0))) j (λi c G o l S g=>?_) (λG S g=>?_)
    .ext;exists _,_,rfl,rfl,?_;refine Mp.doneR j (Nat.lt_of_le_of_lt (show s'.cps.size<=100000 from b) ∅) l S g ?_
     have p:s'.cps.toList.getD i 0=c:=by
      rw[bV,Array.getElem?_toList,o];rfl
     rw[p];unfold yna;rfl
    .ext;exists D,s'.cps.toList.map yna,rfl,?_,?_
     .refine SqL.of (g.trans ?_);rw[yqw]
     .have e:=yws h1 h8;rw[<- e];exact k _ S
   .have e:=yvp h8;rw[e]at k;exact yf7 h8 (k _ (yv.refl _))
  .have e:=ywr h1;rw[e]at k;refine yf7 h1 ?_;exists _,rfl,xh (k _ (yv.refl _))
 .have e:nmV x=false:=by
   cases d with
   |str s'=>exact absurd rfl hn
   |_=>rfl
  rw[be hn];rw[e]at k;exact xh (k _ (yv.refl _))
#synth yuv ["thing"] vbd
inductive ykp(K:z3)(C:z4)(vs:Τ)(H:Hp)(Q:VK)(E:XK):Prop
 |mk(x n:_)(_:vs=[x])(_:xu K H x (.type n))(_:(∀s,x=.str s->s.length<=100000))(_:(nmV x=true->∀H',yv H H'->Q x H'))(_:(nmV x=false->∀H',yv H H'->E (.ref C) none H'))
def yjb(T:Txt K mg a):vn P w K mg Γ (CXe P w) 2 a.Q6 a.Tg ["thing"] (ykp K a.A4):=by
 exists T.Jv.F.okE,yuv,k;let⟨x,n,rfl,f,d,i,g⟩:=h;exists 1,0,yg (vv (xw (xz (ug (yz0 T) k.m T.V9 (pa1 (pv 0))))) (yc (vz rfl T.Ga T.O7 (pa1 yj))) y8) (yc (yu (pv 0)));exists x,n,rfl,f,d,λl c=>?_;ext
 cases hx:nmV x with
 |false =>
  ext;exists by walk_at "len",g hx _ c
 |true =>
  ext;exact i hx _ c
#synth yvo ["thing"] vbw
inductive yl6(K:z3)(C:z4)(vs:Τ)(H:Hp)(Q:VK)(E:XK):Prop
 |mk(x n:_)(_:vs=[x])(_:xu K H x (.type n))(_:(∀s,x=.str s->s.length<=100000))(_:((x=.non\/nmV x=true)->∀H',yv H H'->Q .non H'))(_:(x≠.non->nmV x=false->∀H',yv H H'->E (.ref C) none H'))
def yyp(T:Txt K mg a):vn P w K mg Γ (CXe P w) 3 a.Q7 a.Th ["thing"] (yl6 K a.A4):=by
 exists T.Va.F.okE,yvo,o;let⟨x,n,rfl,j,g,f,k⟩:=h;exists 1,0,yc (vv (yx ycr (pv 0) jh (y9 _)) (yc (y6 (uf (yjb T) o.m T.Jv yt (pa1 (pv 0))))) y8);by_cases hx:x=.non
 .subst hx;ext;exact f (.inl rfl) _ (yv.refl _)
 .ext;rw[be hx];refine zt ?_;ext;exists x,n,rfl,j,g,λd e c=>?_,λd e c=>k hx d e c;ext;exact f (.inr d) _ c
#synth yxn ["self","base","data"] vcy
inductive ylz(a:Ads)(vs:Τ)(H:Hp)(Q:VK)(E':XK):Prop
 |mk(p dp:z4)(x y:V)(_:vs=[.ref p,x,y])(_:H p=some (.ins a.Ag dp []))(_:∀H',H' p=some (.ins a.Ag dp (ĕ x y))->But p H H'->Q .non H')
def ywq(T:Txt K mg a):vn P w K mg Γ CX0 1 a.L6 a.Ti ["self","base","data"] (ylz a):=by exists T.Vb.F.ok,yxn,l;let⟨p,b,x,y,rfl,j,k⟩:=h;exists 3,0,yg (vh (pv 0) (pv 1) rfl) (yc (vh (pv 0) (pv 2) rfl));have d:upd H p (HO.ins a.Ag b ([("base",x)]:Ι)) p=some (HO.ins a.Ag b ([("base",x)]:Ι)):=ya;have e:But p H (upd H p (HO.ins a.Ag b ([("base",x)]:Ι))):=But.upd;generalize upd H p (HO.ins a.Ag b ([("base",x)]:Ι))=i at d e⊢;ext;exact k _ ya (e.trans But.upd)
def yt8(K:z3)(H:Hp)(x:V):Prop:=(∃n,xu K H x (.type n)/\n≠"list")\/∃(l:z4)(xs:Τ)(bs:qi Bool),x=.ref l/\H l=some (.lst xs)/\xs.length<=1000/\yj6 K H xs bs/\¬(1<=xs.length/\xs.length<=6/\bs.all id=true)
theorem yt8.same{H H':Hp}{x:V}(h:yt8 K H x)(S:yv H H'):yt8 K H' x:=by
 rcases h with⟨n,d,i⟩|⟨l,f,b,e,c,a,g,j⟩
 .exact .inl ⟨n,jz S d,i⟩
 .exact .inr ⟨l,f,b,e,S _ _ c,a,g.same S,j⟩
inductive StI(K:z3)(a:Ads)(H:Hp)(p ds:z4)(Q:VK)(E:XK):V->V->Prop
 |good (l:z4) (mo w n:Nat) (lk tp:Λ) (kd:Ν) (ps:Κ) (hl:H l=some (.lst (refs lk n))) (n1:1<=n) (n6:n<=6) (hlk:xx H n lk kd tp ps) (hmo:mo<=1000) (hw1:w<=mo) (hw2:w<=200)
  (k:∀(ll d c dc q cl ct:z4)(U:Μ)(H':Hp),jm K a H' p ds ll d c dc q cl ct lk tp n kd ps mo w [] [] [] U->(∀x,StW c cl ct U x->H x=none)->H ll=none->H d=none->But p H H'->Q .non H'):StI K a H p ds Q E (.ref l) (.int mo)
 |looks (x m:V) (h:yt8 K H x) (k:∀H',yv H H'->E (.ref a.Bx) none H'):StI K a H p ds Q E x m
 |most (l:z4) (n:Nat) (lk tp:Λ) (kd:Ν) (ps:Κ) (m:V) (nt:String) (hl:H l=some (.lst (refs lk n))) (n1:1<=n) (n6:n<=6) (hlk:xx H n lk kd tp ps) (ty:∀H',But p H H'->xu K H' m (.type nt)) (hm:yj4 m=false) (k:∀H',But p H H'->E (.ref a.Ai) none H'):StI K a H p ds Q E (.ref l) m
#synth yvd ["self","looks","most"] va7
inductive ya2(K:z3)(a:Ads)(vs:Τ)(H:Hp)(Q:VK)(E:XK):Prop
 |mk(p ds:z4)(x m:V)(_:vs=[.ref p,x,m])(_:H p=some (.ins a.A0 ds []))(_:StI K a H p ds Q E x m)
def ynv(T:Txt K mg a):vn P w K mg Γ (CXe P w) 10 a.L7 a.Jt ["self","looks","most"] (ya2 K a):=by
 exists T.Wt.okE,yvd,hr;let⟨p,g,x,m,rfl,M,h⟩:=h;refine yh (vh (pv 0) (uf (yom T) hr.m T.Ms yt (pa1 (pv 1))) rfl) ?_;refine yh (y6 (uf (vfm T) hr.m T.Wq yt (pa1 (pv 2)))) ?_;refine yh (vh (pv 0) (pv 2) rfl) ?_;refine yh (vh (pv 0) ymp rfl) ?_;exists 3,0,yc (vh (pv 0) (uh T.Fp (yei T) hr.m rfl T.Fo T.Im.B .nil yt (pa1 (yr (pv 0) rfl))) rfl)
 cases h with
 |looks x m h k =>
  rcases h with⟨n,ty,hn⟩|⟨l,xs,bs,rfl,hl,hz,hb,Y⟩
  .exact .inl ⟨x,n,rfl,ty,hn,k H (yv.refl _)⟩
  .exact .inr ⟨l,xs,bs,rfl,hl,hz,hb,λz=>absurd z Y,λB H' S=>k H' S⟩
 |most l n lk tp kd ps m nt hl n1 n6 hlk ty hm k =>
  refine .inr ⟨l,refs lk n,List.replicate (refs lk n).length true,rfl,hl,by rw[vw];omega,hlk.lks.bs,λB f G t C r=>?_,λY=>absurd ⟨by rw[vw];exact n1,by rw[vw];exact n6,ycn _⟩ Y⟩;have a3:=r _ _ M;ext;have N:But p H (upd G p (HO.ins a.A0 g ([("looks",V.ref f)]:Ι))):=λb o e u=>ym u (r _ _ e);exists m,nt,rfl,ty _ N,(λz=>by rw[hm]at z;cases z),λB=>k _ N
 |good l mo w n lk tp kd ps hl n1 n6 hlk hmo hw1 hw2 k =>
  refine .inr ⟨l,refs lk n,List.replicate (refs lk n).length true,rfl,hl,by rw[vw];omega,hlk.lks.bs,λB f G t C r=>?_,λY=>absurd ⟨by rw[vw];exact n1,by rw[vw];exact n6,ycn _⟩ Y⟩;have a3:=r _ _ M;ext;have a5:upd G p (HO.ins a.A0 g ([("looks",V.ref f)]:Ι)) p=some (HO.ins a.A0 g ([("looks",V.ref f)]:Ι)):=ya;have N:But p G (upd G p (HO.ins a.A0 g ([("looks",V.ref f)]:Ι))):=But.upd;generalize upd G p (HO.ins a.A0 g ([("looks",V.ref f)]:Ι))=HA at a5 N⊢;exists .int mo,"int",rfl,.int _,λB=>?_,λz=>by rw[yz4 hmo]at z;cases z
  ext;have F:upd HA p (HO.ins a.A0 g ([("looks",V.ref f),("most",V.int mo)]:Ι)) p=some (HO.ins a.A0 g ([("looks",V.ref f),("most",V.int mo)]:Ι)):=ya;have BB:But p HA (upd HA p (HO.ins a.A0 g ([("looks",V.ref f),("most",V.int mo)]:Ι))):=But.upd;generalize upd HA p (HO.ins a.A0 g ([("looks",V.ref f),("most",V.int mo)]:Ι))=HB at F BB⊢;intro d hd0;exists hd0,HC,SC,eC;have ab:=SC _ _ F;ext;have j:upd HC p (HO.ins a.A0 g ([("looks",V.ref f),("most",V.int mo),("pieces",V.ref d)]:Ι)) p=some (HO.ins a.A0 g ([("looks",V.ref f),("most",V.int mo),("pieces",V.ref d)]:Ι)):=ya;have BD:But p HC (upd HC p (HO.ins a.A0 g ([("looks",V.ref f),("most",V.int mo),("pieces",V.ref d)]:Ι))):=But.upd;generalize upd HC p (HO.ins a.A0 g ([("looks",V.ref f),("most",V.int mo),("pieces",V.ref d)]:Ι))=D at j BD⊢;have J:∀x o,G x=some o->x≠p->D x=some o:=λx o e u=>BD _ _ (SC _ _ (BB _ _ (N _ _ e u) u)) u
  have K0:∀x,x≠p->D x=none->H x=none:=λx u e=>by
   cases z:H x with
   |none=>rfl
   |some o=>rw[J _ _ (r _ _ z) u]at e;cases e
  have a0:f≠p:=(yb M t).symm;have v:d≠p:=(yb F hd0).symm;have L:=J _ _ C a0;have a1:D d=some (.dK []):=BD _ _ eC v
  have a4:xx D n lk kd tp ps:=λi hi=>by
   let⟨q,e,R,Z,h3⟩:=hlk i hi;exists q,e,J _ _ (r _ _ R) (xr R M (by intro z;cases z)),J _ _ (r _ _ Z) (xr Z M (by intro z;cases z)),h3
  exists p,_,g,_,_,rfl,j,T.A2,T.Ba,rfl,?_;ext;intro c dc nc a9 ac;have SQ:yv D (upd (upd D dc (.own c)) c (.ins a.A7 dc [])):=λb o e=>by rw[yq (yb e nc),yq (yb e a9)];exact e
  exists c,dc,f,n,lk,tp,kd,ps,rfl,ya,SQ _ _ L,n1,n6,a4.same SQ,λq cl ct U HE a7 X BE B=>⟨rfl,?_⟩;have O:yv D HE:=λb o e=>BE _ _ (SQ _ _ e) (yb e nc);have a8:=O _ _ j
  have I:∀x,StW c cl ct U x->D x=none:=λx w=>by
   rcases w with z|z
   .rw[z];exact nc
   .exact SQ.free (X x z)
  have W:¬StW c cl ct U p:=λw=>by have e:=I _ w;rw[j]at e;cases e
  have a6:H d=none:=by
   cases z:H d with
   |none=>rfl
   |some o=>rw[BB _ _ (N _ _ (r _ _ z) v) v]at hd0;cases hd0
  ext;refine k f d c dc q cl ct U _ ⟨ya,n1,n6,ym a0 (O _ _ L),λi hi=>?_,⟨ym v (O _ _ a1),λq y=>(by cases y),List.nodup_nil,λq y=>(by cases y),λq y=>(by cases y),bN _,λq y=>(by cases y)⟩,a7.but a8 W But.upd,λx hx w=>?_,hmo,⟨hw1,hw2⟩,⟨none,rfl⟩⟩ (λx w=>?_) t ?_ (λx o e u=>ym u (O _ _ (J _ _ (r _ _ e) u)))
  .obtain⟨q,e,R,Z,h3⟩:=hlk i hi;have n1:=xr R M (by intro z;cases z);have n2:=xr Z M (by intro z;cases z);exists q,e,ym n1 (O _ _ (J _ _ (r _ _ R) n1)),ym n2 (O _ _ (J _ _ (r _ _ Z) n2)),h3
  .have e:=I _ w;rcases hx with z|z|z|⟨q,y,_⟩
   .rw[z,j]at e;cases e
   .rw[z,L]at e;cases e
   .rw[z,a1]at e;cases e
   .cases y
  .exact K0 x (λz=>W (z ▸ w)) (I x w)
  .exact a6
def Sto.new{H:Hp}{l:z4}{mo w n:Nat}{lk:Λ}{kd:Ν}{ps:Κ}{Q:VK}{E:XK}(hst0:H st=none)(hds0:H ds=none)(hlo:H l=some (.lst (refs lk n)))(n1:1<=n)(n6:n<=6)(hR:xx H n lk kd tp ps)(m1:mo<=1000)(wm:w<=mo)(w2:w<=200)
  (k:∀X H',Sto K a H' st ⟨n,kd,ps,mo,w⟩ [] X->yv H H'->(∀y,X.f y->H y=none)->Q .non H'):ya2 K a [.ref st,.ref l,.int mo] (upd (upd H ds (.own st)) st (.ins a.A0 ds [])) Q E:=by
 have g:yv H (upd (upd H ds (.own st)) st (.ins a.A0 ds [])):=λb o e=>by rw[yq (yb e hst0),yq (yb e hds0)];exact e
 exists st,ds,.ref l,.int mo,rfl,ya,.good l mo w n lk tp kd ps (g _ _ hlo) n1 n6 (hR.same g) m1 wm w2 λx d c s p A t U r m j h i v=>k _ r ⟨ds,x,d,c,s,p,A,t,lk,tp,[],[],[],U,m,rfl,rfl⟩ (λy o e=>v _ _ (g _ _ e) (yb e hst0)) λy u=>?_;rcases u with(z|z|z)|z|⟨q,hq,_⟩|z
 .rw[z];exact g.free i
 .rw[z];exact hst0
 .exact g.free (j y z)
 .rw[z];exact g.free h
 .cases hq
 .cases z
#synth yzh ["self"] vcm
inductive yao(a:Ads)(vs:Τ)(H:Hp)(Q:VK)(E':XK):Prop
 |mk(st ds ll:z4)(vm vp vc:V)(xs:Τ)(_:vs=[.ref st])(_:H st=some (.ins a.A0 ds (xb (.ref ll) vm vp vc)))(_:H ll=some (.lst xs))(_:∀l H',H l=none->H' l=some (.lst xs)->yv H H'->Q (.ref l) H')
def yny(T:Txt K mg a):vn P w K mg Γ CX0 1 a.Q8 a.Tj ["self"] (yao a):=by exists T.Iq.F.ok,yzh,r;let⟨m,j,e,g,n,i,p,rfl,q,d,k⟩:=h;exists 1,0,yc (yu (pcT wx T.Ay (pa1 (yr (pv 0) rfl))));exists e,_,rfl,.inl (SqL.of d),λl b=>?_;exact k l _ b ya (vg b)
def Sto.tlooks{H:Hp}{C:Cf}{P:qi Pd}{X:Sx}{Q:VK}{E:XK}(h:Sto K a H st C P X)(k:∀l lk tp H',H l=none->H' l=some (.lst (refs lk C.n))->xx H' C.n lk C.kd tp C.ps->yv H H'->Q (.ref l) H'):yao a [.ref st] H Q E:=by let⟨e,f,d,c,i,p,q,m,lk,tp,o,L,j,U,s,rfl,rfl⟩:=h;exists st,e,f,_,_,_,_,rfl,s.me,s.lo,λl H' b g S=>k l lk tp H' b g (s.row.same S) S
#synth yvw ["self"] vbo
inductive ydj(a:Ads)(vs:Τ)(H:Hp)(Q:VK)(E':XK):Prop
 |mk(st ds:z4)(vl vm vp vc:V)(_:vs=[.ref st])(_:H st=some (.ins a.A0 ds (xb vl vm vp vc)))(_:Q vm H)
def yv2(T:Txt K mg a):vn P w K mg Γ CX0 1 a.Q9 a.Tk ["self"] (ydj a):=by exists T.N6.F.ok,yvw,n;let⟨i,f,g,d,j,e,rfl,m,k⟩:=h;exists 1,0,yc (yu (yr (pv 0) rfl));exact k
def Sto.tmost{H:Hp}{C:Cf}{P:qi Pd}{X:Sx}{Q:VK}{E:XK}(h:Sto K a H st C P X)(k:Q (.int C.mo) H):ydj a [.ref st] H Q E:=by let⟨b,l,d,c,e,p,m,g,i,n,j,L,f,U,s,rfl,rfl⟩:=h;exists st,b,_,_,_,_,rfl,s.me,k
#synth yun ["self"] vdc
inductive yd2(a:Ads)(vs:Τ)(H:Hp)(Q:VK)(E':XK):Prop
 |mk(st ds d:z4)(vl vm vc:V)(P:qi Pc)(_:vs=[.ref st])(_:H st=some (.ins a.A0 ds (xb vl vm (.ref d) vc)))(_:H d=some (.dK (pcs P)))(_:P.length<=60)(_:∀l H',H l=none->H' l=some (.lst (P.map λq=>V.str q.nm))->yv H H'->Q (.ref l) H')
def yen(T:Txt K mg a):vn P w K mg Γ CX0 1 a.Qa a.Tl ["self"] (yd2 a):=by
 exists T.Dr.F.ok,yun,v;let⟨n,j,d,m,g,i,P,rfl,t,o,u,k⟩:=h;exists 1,0,yc (yu (pcT (yfz rfl) T.Ay (pa1 (yr (pv 0) rfl))));exists d,_,rfl,o,λl b=>?_;have e:(pcs P).map (λp=>kV p.1)=P.map λq=>V.str q.nm:=by unfold pcs;rw[cb];rfl
 rw[e];exact k l _ b ya (vg b)
def Sto.names{H:Hp}{C:Cf}{P:qi Pd}{X:Sx}{Q:VK}{E:XK}(h:Sto K a H st C P X)(k:∀l H',H l=none->H' l=some (.lst (P.map λq=>V.str q.nm))->yv H H'->Q (.ref l) H'):yd2 a [.ref st] H Q E:=by let⟨f,o,d,c,i,p,r,m,n,t,e,L,j,U,s,rfl,rfl⟩:=h;exists st,f,d,_,_,_,e,rfl,s.me,s.pz.dk,s.pz.z,λl H' b g S=>k l H' b ?_ S;rw[cb];exact g
#synth yx6 ["self","text"] vdr
inductive ys9(a:Ads)(vs:Τ)(H:Hp)(Q:VK)(E:XK):Prop
 |mk(st ds tx:z4)(vl vp vc:V)(mo:Int)(xs:Τ)(_:vs=[.ref st,.ref tx])(_:H st=some (.ins a.A0 ds (xb vl (.int mo) vp vc)))(_:H tx=some (.lst xs))(_:((xs.length:Int)<=mo->Q .non H))(_:(¬(xs.length:Int)<=mo->E (.ref a.A8) none H))
def ypd(T:Txt K mg a):vn P w K mg Γ (CXe P w) 1 a.Qc a.Tm ["self","text"] (ys9 a):=by
 exists T.Ir.F.okE,yx6,t;let⟨m,g,i,j,o,e,l,q,rfl,r,c,n,k⟩:=h;exists 2,0,yc (vv (yx ym0 (pcB yw T.Af (pa1 (pv 1))) (yr (pv 0) rfl) (y9 _)) (yc (vz rfl T.Hh T.Kj (pa1 yj))) y8);refine z5 (SqL.of c) ?_;ext;refine jk (λf=>?_) (λf=>?_)
 .ext;exists by walk_at "len",k ()
 .exact n ()
#synth yy4 ["self","name"] vdv
inductive yxl(K:z3)(a:Ads)(vs:Τ)(H:Hp)(Q:VK)(E:XK):Prop
 |mk(st ds d:z4)(vl vm vc:V)(n:Nat)(kd:Ν)(ps:Κ)(w:Nat)(P:qi Pc)(x:V)(nt:String)(_:vs=[.ref st,x])(_:H st=some (.ins a.A0 ds (xb vl vm (.ref d) vc)))(_:ŀ a H d n kd ps w P)(_:xu K H x (.type nt))(_:(∀s,x=.str s->s.length<=100000))(_:(nmV x=false->∀H',yv H H'->E (.ref a.A4) none H'))(_:(∀b,x=.str b->nmS b=true->(∀q,q∈P->q.nm≠b)->∀H',yv H H'->E (.ref a.A1) none H'))(_:(∀r,r∈P->x=.str r.nm->nmS r.nm=true->∀H',yv H H'->Q (.ref r.ob) H'))
def ybd(T:Txt K mg a):vn P w K mg Γ (CXe P w) 3 a.Qe a.Tp ["self","name"] (yxl K a):=by
 exists T.Bz.F.okE,yy4,j;let⟨N,B,d,G,C,u,n,y,O,w,P,x,t,rfl,i,D,L,I,R,M,z⟩:=h;exists 2,0,yg (vv (yjk (ybb (Ÿ j) (uf (yjb T) j.m T.Jv yt (pa1 (pv 1))) (yr (pv 0) rfl))) (yc (vz rfl T.Hi T.Kl (pa1 yj))) y8) (yc (yu (Ų (Ÿ j) (yr (pv 0) rfl) (pv 1) (λZ Z=>rfl))));exists x,t,rfl,L,I,λg q f=>?_,λg q f=>R g q f;let⟨b,rfl,l⟩:=yxr g;have o:=f _ _ i;have e:=D.same f;ext;rcases vap P b with⟨r,c,rfl⟩|p
 .exists d,_,rfl,e.get c,?_;exists false,rfl,xh ?_;ext;exists d,_,rfl,e.get c,?_;exact z r c rfl l _ f
 .exists d,_,rfl,e.getNo p,?_;exists true,rfl,zt ?_;ext;exists by walk_at "len",M b rfl l p _ f
#synth yvl ["self","name","base"] vda
inductive ys7(K:z3)(a:Ads)(vs:Τ)(H:Hp)(Q:VK)(E:XK):Prop
 |mk(st ds d:z4)(vl vm vc:V)(n:Nat)(kd:Ν)(ps:Κ)(w:Nat)(P:qi Pc)(b:Str)(x:qj Str)(_:vs=[.ref st,.str b,baV x])(_:H st=some (.ins a.A0 ds (xb vl vm (.ref d) vc)))(_:ŀ a H d n kd ps w P)(_:(∀y,x=some y->nmS y=true/\y.length<=100000))(_:((∃r,r∈P/\r.nm=b)->E (.ref a.Ac) none H))(_:((∀q,q∈P->q.nm≠b)->(∀y,x=some y->(∀q,q∈P->q.nm≠y)->∀H',yv H H'->E (.ref a.A1) none H')/\(∀L,To P x L->(P.length=60->∀H',yv H H'->E (.ref a.El) none H')/\(P.length≠60->∀H',yv H H'->Q .non H'))))
def yzj(T:Txt K mg a):vn P w K mg Γ (CXe P w) 4 a.Qd a.Tn ["self","name","base"] (ys7 K a):=by
 exists T.N7.F.okE,yvl,G;let⟨N,C,d,L,J,u,n,v,O,w,P,b,x,rfl,f,g,R,k1,Z⟩:=h;exists 3,0,yg (vv (yjk (yvx (Ÿ G) (pv 1) (yr (pv 0) rfl))) (yc (vz rfl T.Ht T.Om (pa1 yj))) y8) (yg (vv (yx ycr (pv 2) jh (y9 _)) (yc (y6 (yz (pv 0) T.A2 T.Bz.m (ybd T) G.m T.Bz.B .nil yt (pa1 (pv 2))))) y8) (yc (vv (yx xk (pcB ygk T.Af (pa1 (yr (pv 0) rfl))) (vq rfl T.He) (y9 _)) (yc (vz rfl T.O0 T.Vu (pa1 yj))) y8)));rcases vap P b with⟨r,c,rfl⟩|I
 .exists d,_,rfl,g.get c,?_;exists true,rfl,zt ?_;ext;exists by walk_at "len",k1 ⟨r,c,rfl⟩
 .exists d,_,rfl,g.getNo I,?_;exists false,rfl,xh ?_;let⟨W,M⟩:=Z I;have a0:(pcs P).length=P.length:=bc _;ext
  cases x with
  |none =>
   refine yue (λY=>?_) (λz=>absurd rfl z);let⟨k,t⟩:=M [] rfl;ext;exists d,_,rfl,g.dk,?_;ext;refine jk (λo=>?_) (λo=>?_)
   .ext;exists by walk_at "len",k () _ (yv.refl _)
   .ext;exact t () _ (yv.refl _)
  |some y =>
   refine yue (λz=>nomatch z) (λY=>?_)
   let⟨j,p⟩:=R y rfl;ext;exists N,C,d,L,J,u,n,v,O,w,P,.str y,"str",rfl,f,g,.str y,(λs e=>by cases e;exact p),(λz=>by rw[show nmV (.str y)=nmS y from rfl,j]at z;cases z),(λb e Y l X S=>by cases e;exact W y rfl l X S),λr c e Y H1 i=>?_;obtain rfl:y=r.nm:=by cases e;rfl
   let⟨k,t⟩:=M _ ⟨r,c,rfl,rfl⟩;have D:=i _ _ f;ext;exists d,_,rfl,i _ _ g.dk,?_;ext;refine jk (λo=>?_) (λo=>?_)
   .ext;exists by walk_at "len",k () _ i
   .ext;exact t () _ i
#synth yjl ["self","name","links"] ["self","name"] vdd
inductive ykr(a:Ads)(vs:Τ)(H:Hp)(Q:VK)(E':XK):Prop
 |mk(st ds d:z4)(vl vm vc:V)(n:Nat)(kd:Ν)(ps:Κ)(w:Nat)(P:qi Pc)(x:qj Str)(L:Η)(_:vs=[.ref st,baV x])(_:H st=some (.ins a.A0 ds (xb vl vm (.ref d) vc)))(_:ŀ a H d n kd ps w P)(_:To P x L)(_:∀(l:z4)(H':Hp),H l=none->H' l=some (.lst (nmL L))->yv H H'->Q (.ref l) H')
def ype(T:Txt K mg a):vn P w K mg Γ CX0 1 a.Qf a.Tq ["self","name"] (ykr a):=by
 exists T.Is.F.ok,yjl,hr;let⟨U,Z,d,vl,vm,W,n,Y,ps,w,P,x,L,rfl,t,B,J,k⟩:=h;exists 2,1,yg (y7 (i:=2) yjl.nd rfl (Or.inl rfl) (vj za)) (yg (δ PassesOwn.never (yx ycr (pv 1) jh (y9 _)) (yg (y6 (uy PySem.F.plainAttrs_list PySem.F.slot_list_append PySem.F.type_list_append wy (pv 2) (pa1 (pv 1)))) (yc (y7 (i:=1) yjl.nd rfl (Or.inl rfl) (yr (Ų (Ÿ hr) (yr (pv 0) rfl) (pv 1) (λF F=>rfl)) rfl))))) (yg (y6 (yji PySem.F.plainAttrs_list PySem.F.slot_list_reverse PySem.F.type_list_reverse ķ (pv 2))) (yc (yu (pv 2)))));exists by walk_at "len",λl f=>?_
 ext
 refine⟨λm σ' G=>∃(y:qj Str)(R S:Η),σ'=[some (.ref U),some (baV y),some (.ref l)]/\To P y R/\R++S=L/\G l=some (.lst (nmL S).reverse)/\yv H G/\m=R.length,
  ⟨_,x,L,[],rfl,J,List.append_nil L,ya,vg f,rfl⟩,?_⟩
 rintro m σ2 G ⟨y,R,S,rfl,M,g,j,C,rfl⟩;have O:=C _ _ t;have a0:=B.same C;have D:=To.len B J;have a1:S.length<=61:=by rw[<- g,bf]at D;omega
 ext
 cases y with
 |none =>
  refine yue (λF=>?_) (λz=>absurd rfl z);have e:S=L:=by rw[show R=[]from M]at g;exact g
  ext;refine z6 j ?_;ext;refine yas j ?_;rw[List.reverse_reverse,e];ext;exact k l _ f ya λb o z=>ym (yb z f) (C _ _ z)
 |some b =>
  refine yue (λz=>nomatch z) (λF=>?_)
  let⟨r,p,rfl,q⟩:=M;exists _,λσ' H' z=>z,?_;ext;refine z6 j ?_;ext;refine xp j (vk (by unfold nmL;rw[List.length_reverse,bc];omega)) ?_;have c:yv H (upd G l (HO.lst ((nmL S).reverse++[baV (some r.nm)]))):=λb o e=>ym (yb e f) (C _ _ e);have v:upd G l (HO.lst ((nmL S).reverse++[baV (some r.nm)])) l=some (HO.lst ((nmL S).reverse++[baV (some r.nm)])):=ya;generalize upd G l (HO.lst ((nmL S).reverse++[baV (some r.nm)]))=G' at c v⊢;have N:=c _ _ t;have u:=B.same c;have a2:=(u.ob r p).1;ext;exists d,_,rfl,u.get p,?_;ext;exists r.path.length,?_,r.bs,r.path,(r.nm,r.tx)::S,rfl,B.wf r p,?_,?_,c,rfl
  .rw[q,bf,cB];omega
  .rw[<- g,q,ck];rfl
  .rw[yri];exact v
#synth yjt ["self","name","links","link"] ["self","name"] vbq
inductive yfq(K:z3)(a:Ads)(vs:Τ)(H:Hp)(Q:VK)(E':XK):Prop
 |mk(st ds ll d c dc p cl ct:z4)(lk tp:Λ)(n:Nat)(kd:Ν)(ps:Κ)(mo w:Nat)(P:qi Pc)(L:Η)(ks:Τ)(U:Μ)(x:qj Str)(L':Η)(_:vs=[.ref st,baV x])(_:jm K a H st ds ll d c dc p cl ct lk tp n kd ps mo w P L ks U)(_:To P x L')(_:∀(c' dc' p' cl' ct':z4)(ks':Τ)(U':Μ)(H':Hp),jm K a H' st ds ll d c' dc' p' cl' ct' lk tp n kd ps mo w P L' ks' U'->Go (StO st c cl ct U) H H' (StO st c' cl' ct' U')->NK H ks ks'->(V.non∈ks'->V.non∈ks.take L'.length)->Q (.ref c') H')
def yep(T:Txt K mg a):vn P w K mg Γ (CXe P w) 12 a.Qg a.Tr ["self","name"] (yfq K a):=by
 exists T.Ds.F.okE,yjt,hr;let⟨R,ds,ll,d,c,dc,p,cl,ct,lk,tp,n,kd,ps,mo,w,P,L,ks,U,x,t,rfl,N,hL,k⟩:=h;have ac:=N.me;refine yh (y7 (i:=2) yjt.nd rfl (Or.inl rfl) (xj (pv 0) T.A2 T.Is.m (ype T) hr.m T.Is.B .nil wl (pa1 (pv 1)))) ?_;refine yh (Ě (vv (yx (ļ hr.units) (yr (yr (pv 0) rfl) rfl) (uk ψ (pv 2) zq (zl (pcB yw T.Af (pa1 (yr (yr (pv 0) rfl) rfl))))) (y9 _)) (yc (vh (pv 0) (uh T.Fp (yei T) hr.m rfl T.Fo T.Im.B .nil yt (pa1 (yr (pv 0) rfl))) rfl)) y8)) ?_;refine yh (PS.nox (ux PassesOwn.never rfl (ww (uk ψ (pv 2) (zl (pcB yw T.Af (pa1 (yr (yr (pv 0) rfl) rfl)))) zq)) (wd (i:=3) yjt.nd rfl (Or.inl rfl)) (yc (y6 (yz (yr (pv 0) rfl) T.Ar T.N5.m (yzt T) hr.m T.N5.B .nil vt (pac (pv 3) (pac (yr (Ų (Ÿ hr) (yr (pv 0) rfl) (pv 3) (λB B=>rfl)) rfl) (pa1 (yr (pv 0) rfl))))))))) ?_;exists 2,2,yc (yu (yr (pv 0) rfl));exists R,ds,d,_,_,_,n,kd,ps,w,P,x,t,rfl,ac,N.pz,hL,λl H1 aB a6 S1=>?_;have ar:=S1 _ _ ac;have aa:=N.same S1;have aC:=aa.ch.me;have a9:=aa.ch.hl;let⟨y,hy⟩:=N.way;have as:=To.len N.pz hL;have aw:=To.len N.pz hy;ext;exists λσ2 G=>∃(S O p2 f j:z4)(D:Τ)(U2:Μ)(C:Η),σ2=[some (.ref R),some (baV x),some (.ref l),none]/\jm K a G R ds ll d S O p2 f j lk tp n kd ps mo w P C D U2/\Go (StO R c cl ct U) H G (StO R S f j U2)/\C=t.take C.length/\C.length<=t.length/\G l=some (.lst (nmL t))/\NK H ks D/\(V.non∈D->V.non∈ks.take t.length),?_,?_
 .ext;refine z5 (SqL.of a9) ?_;ext;refine yc8 (SqL.of a6) λq hq0=>?_;rw[ω,É,õ];exists hq0,H2,S2,e2;have a5:=S1.trans S2;have M:=N.same a5;have a4:=M.me;have X:=S2 _ _ a6;rw[ä]at e2;have a3:=M.ch.hl;rw[ä]at a3;refine yo4 _ _ (hy.ok N.pz) (λz hz=>hL.ok N.pz z (by let⟨u,hu,rfl⟩:=bn.mp hz;exact bn.mpr ⟨u,cL hu,rfl⟩)) (SqL.of a3) (SqL.of e2) ?_;by_cases he:L.map (·.1)=(t.take L.length).map (·.1)
  .rw[bi he];exists false,rfl,xh ?_;have e3:=To.ahead N.pz.nd N.pz.wf hy hL (by rw[õ];exact yn2 he);have e4:=congrArg List.length e3;rw[bZ]at e4;exists c,dc,p,cl,ct,ks,U,L,rfl,M,Go.refl.same a5,e3,(),X,.refl,λz=>by rw[cE (by rw[N.ch.tx.len];omega)];exact z
  .rw[be he];exists true,rfl,zt ?_;ext;intro c' Z nc ab ay;have SQ:yv H2 (upd (upd H2 Z (.own c')) c' (.ins a.A7 Z [])):=λb o e=>by rw[yq (yb e nc),yq (yb e ab)];exact e
   exists c',Z,ll,n,lk,tp,kd,ps,rfl,ya,SQ _ _ M.lo,M.n1,M.n6,M.row.same SQ,λp' ah aj U' HE a0 a7 BE B=>⟨rfl,?_⟩;let⟨hR,gR,SE,hN⟩:=M.re nc ab a0 a7 BE;have av:=SE _ _ a4;ext
   exists c',Z,p',ah,aj,[],U',[],rfl,hR,gR.ahead a5,rfl,bN _,ym (λz=>by rw[z,a4]at X;cases X) (SE _ _ X),.nil,λz=>nomatch z
 .rintro σ2 G ⟨S,O,p2,f,j,D,U2,C,rfl,hG,go,am,aq,ag,af,ak⟩;have au:=hG.me;have aD:=hG.ch.me;have ae:=hG.ch.hl;ext;refine z5 (SqL.of ae) ?_;ext;refine yc8 (SqL.of ag) λq hq0=>?_;rw[ω,yl5];have S1:=vg (o:=(HO.lst ((nmL t).drop C.length))) hq0;have e1:upd G q (HO.lst ((nmL t).drop C.length)) q=some (HO.lst ((nmL t).drop C.length)):=ya;generalize upd G q (HO.lst ((nmL t).drop C.length))=G1 at S1 e1⊢
  have an:∀W F,Go (StO R S f j U2) G1 F (StO R S f j W)->jm K a G R ds ll d S O p2 f j lk tp n kd ps mo w P C D U2->F q=some (HO.lst ((nmL t).drop C.length)):=λW F g hG=>g.fr _ _ e1 λw=>by
   let⟨o,e⟩:=hG.lvO q w;rw[hq0]at e;cases e
  exists q,rfl,⟨_,SqL.of e1⟩,ua (K:=K) (a:=q) (xs:=(nmL t).drop C.length) (λi σ2 F=>∃(v:qj V)(I:Τ)(W:Μ),σ2=[some (.ref R),some (baV x),some (.ref l),v]/\jm K a F R ds ll d S O p2 f j lk tp n kd ps mo w P (t.take (C.length+i)) I W/\Go (StO R S f j U2) G1 F (StO R S f j W)/\NK G1 D I/\(V.non∈I->V.non∈D)) ?_ ?_ ?_ ?_
  .rw[Nat.add_zero,<- am];exists none,D,U2,rfl,hG.same S1,Go.refl,.refl,id
  .rintro i σ2 F _ ⟨v,I,W,rfl,J,g,a2,a1⟩;exact SqL.of (an W F g hG)
  .rintro i z σ2 F hz ⟨v,I,W,rfl,J,g,a2,a1⟩
   have hj:C.length+i<t.length:=by
    rcases Nat.lt_or_ge (C.length+i) t.length with z|z
    .exact z
    .rw[bK (by rw[cR,ω];omega)]at hz;cases hz
   let⟨r,Y,e3,e4,e5⟩:=hL.at' N.pz.wf hj
   obtain rfl:z=.str r.nm:=by
    rw[List.getElem?_drop,ä,cb,bq,bg hj,e3]at hz;cases hz;rfl
   have ad:=J.me;have az:=J.ch.me;let⟨ax,a8⟩:=J.pz.ob r Y;ext;exists d,_,rfl,J.pz.get Y,?_;ext;have ap:=J.pz.sz r Y;have hb:=J.wm;have hm:=yno (L:=t.take (C.length+i)) (w:=w) (λy hy=>(hL.sz N.pz y (cL hy)).2) hb.2 (by rw[bZ];omega);have ai:=J.mo1;have aE:=ydf (n:=n) (kd:=kd) (ps:=ps) (pre:=Ĝ ((t.take (C.length+i)).map (·.2))) (ts:=r.tx) J.n1 J.n6 (È _) ();exists S,O,p2,f,j,n,kd,ps,t.take (C.length+i),I,mOf (t.take (C.length+i)),W,r.dl,r.nm,r.tx,[],mo,rfl,J.ch,by rw[bZ];omega,ap.1,?_,λw=>J.nw r.dl (.inr (.inr (.inr ⟨r,Y,.inr rfl⟩))) (.inr (.inr (.inr w))),(λb hb=>by cases hb),by rw[List.append_nil];omega,(),ai,(),λq3 U4 F2 al a0 g2=>?_
   .rw[List.append_nil,<- e4];exact a8
   rw[<- ydq,<- e3,<- cq hj]at a0;let⟨h4,g4⟩:=J.go a0 g2 ⟨_,e5⟩;ext;exists _,_,U4,rfl,h4,g.trans g4,a2.app (λq e=>by cases e;exact g.free al),λz=>a1 ((bM.mp z).elim id λy=>by cases bA.mp y)
  .rintro σ2 F ⟨v,I,W,rfl,J,g,a2,a1⟩;rw[cR,ω,Nat.add_sub_cancel' aq,cD]at J;have ad:=J.me;ext;exact k S O p2 f j I W F J (go.trans (g.ahead S1)) (af.trans a2 λq e=>go.free (S1.free e)) λz=>ak (a1 z)
def Ü.lvW{H:Hp}{c p ll:z4}{n:Nat}{kd:Ν}{ps:Κ}{ks:Τ}{M:Nat}{W:Μ}(h:Ü K a H c dc p ll tl n kd ps L ks M W):∀x,StW c ll tl W x->∃o,H x=some o:=λx b=>by
 rcases b with z|z|z|z
 .exists _,by rw[z];exact h.me
 .exists _,by rw[z];exact h.hl
 .exists _,by rw[z];exact h.ht
 .exact h.fz.live x z
def Ü.butM{H H':Hp}{c p ll:z4}{n:Nat}{kd:Ν}{ps:Κ}{ks:Τ}{M:Nat}{W:Μ}(h:Ü K a H c dc p ll tl n kd ps L ks M W){o:HO}(hq:H q=some o)(ho:ved o=true)(nq:¬StW c ll tl W q)(B:But q H H'):Ü K a H' c dc p ll tl n kd ps L ks M W:=by
 have d:∀{x:z4}{b:Τ},H x=some (.lst b)->x≠q:=λ{x b}e z=>by rw[z,hq]at e;cases e;cases ho
 exists B _ _ h.me λz=>nq (.inl z.symm),h.fz.frame (W2:=λx=>x=q) (λx z=>⟨o,by rw[show x=q from z];exact hq,.inl ho⟩) (λx w z=>nq (.inr (.inr (.inr (by rw[<- show x=q from z];exact w))))) (λx o e f=>B x o e f),B _ _ h.hl (d h.hl),B _ _ h.ht (d h.ht),h.tx.mono λx b e g=>⟨B _ _ e (d e),g⟩,h.nc,h.nll,h.ntl,h.ne
def To.more{P:qi Pc}{q:Pc}(h:To P x L):To (P++[q]) x L:=by
 cases x with
 |none=>exact h
 |some b =>
  let⟨r,a,e⟩:=h;exists r,cC _ a,e
section
variable{H H1 H2 H3:Hp}{ll d c p cl ct:z4}{lk:Λ}{n:Nat}{kd:Ν}{ps:Κ}{mo w:Nat}{P:qi Pc}{ks ks':Τ}
def jm.put(h:jm K a H st ds ll d c dc p cl ct lk tp n kd ps mo w P L ks U){b:Str}{r ob od:z4}(hc:Ü K a H1 c dc p cl ct n kd ps (L++[(b,ts)]) ks' (mOf L+6*(dec ts).length) U')(g:Go (ChW cl ct U) H H1 (ChW cl ct U'))(hr0:H r=none)(hr:H1 r=some (.lst ((í n kd ps (Ĝ (L.map (·.2))) ts).map V.int)))(hob0:H1 ob=none)(S:yv H1 H2)(hob:H2 ob=some (.ins a.Ag od (ĕ (baV x) (.ref r))))
  (hL:To P x L) (hL6:L.length<=60) (hts:Sgs ts) (htz:ts.length<=w) (hb1:nmS b=true) (hb2:PyData.strOk b=true) (hno:∀q,q∈P->q.nm≠b) (hP:P.length<60):
  jm K a (upd H2 d (.dK (pcs (P++[⟨b,x,L,ts,ob,od,r⟩])))) st ds ll d c dc p cl ct lk tp n kd ps mo w (P++[⟨b,x,L,ts,ob,od,r⟩]) (L++[(b,ts)]) ks' U'/\Go (λy=>y=d\/StO st c cl ct U y) H (upd H2 d (.dK (pcs (P++[⟨b,x,L,ts,ob,od,r⟩])))) (λy=>y=d\/StO st c cl ct U' y):=by
 have g1:Go (StW c cl ct U) H H1 (StW c cl ct U'):=g.or (Y:=λx=>x=c);have f:∀x o,H x=some o->(x=st\/x=ll\/x=d\/∃q,q∈P/\(x=q.ob\/x=q.dl))->H2 x=some o:=λx o e v=>S _ _ (g1.fr x o e (h.nw x v));have l:=f _ _ h.me (.inl rfl);have m:=f _ _ h.lo (.inr (.inl rfl));have j:=f _ _ h.pz.dk (.inr (.inr (.inl rfl)));have u:=g1.apart (λx v=>h.lv x v) h.nw;have s:xx H2 n lk kd tp ps:=h.row.fr λx J e=>S _ _ (g1.fr _ _ e (h.ch.noTup e));have D:Ü K a H2 c dc p cl ct n kd ps (L++[(b,ts)]) ks' (mOf (L++[(b,ts)])) U':=by rw[ydq];exact hc.same S
 have A:¬StW c cl ct U' ob:=λz=>by
  let⟨o,e⟩:=hc.lvW ob z;rw[hob0]at e;cases e
 have I:¬StW c cl ct U' r:=λz=>by
  rcases z with z|z|z|z
  .rw[z,h.ch.me]at hr0;cases hr0
  .rw[z,h.ch.hl]at hr0;cases hr0
  .rw[z,h.ch.ht]at hr0;cases hr0
  .exact hc.fz.sh.ints hr (yko h.n1 h.n6 (È _)) z
 exists⟨ym (λz=>by rw[z,j]at l;cases l) l,h.n1,h.n6,ym (λz=>by rw[z,j]at m;cases m) m,s.fr λx J e=>ym (λz=>by rw[z,j]at e;cases e) e,⟨ya,λq i=>?_,?_,λq i=>?_,λq i=>?_,?_,λq i=>?_⟩,D.butM j rfl (u d (.inr (.inr (.inl rfl)))) But.upd,λy t=>?_,h.mo1,h.wm,⟨some b,_,bQ _ (bA.mpr rfl),rfl,rfl⟩⟩,⟨λy o e E=>?_,λy z=>?_,λy o e=>?_⟩
 .rcases bM.mp i with z|z
  .have B:=f _ _ (h.pz.ob q z).1 (.inr (.inr (.inr ⟨q,z,.inl rfl⟩)));have k:=f _ _ (h.pz.ob q z).2 (.inr (.inr (.inr ⟨q,z,.inr rfl⟩)));exists ym (λz=>by rw[z,j]at B;cases B) B,ym (λz=>by rw[z,j]at k;cases k) k
  .obtain rfl:=bA.mp z;have k:=S _ _ hr;exists ym (λz=>by rw[show ob=d from z,j]at hob;cases hob) hob,ym (λz=>by rw[show r=d from z,j]at k;cases k) k
 .rw[bD];refine List.nodup_append.mpr ⟨h.pz.nd,(by simp),λy t z F e=>?_⟩;let⟨q,i,rfl⟩:=bn.mp t;rw[List.map_singleton,bA]at F;exact hno q i (e.trans F)
 .rcases bM.mp i with z|z
  .exact(h.pz.wf q z).more
  .obtain rfl:=bA.mp z;exact hL.more
 .rcases bM.mp i with z|z
  .exact h.pz.sz q z
  .obtain rfl:=bA.mp z;exists hts,htz,hL6,λy t=>hL.sz h.pz y t
 .rw[bf,cB];omega
 .rcases bM.mp i with z|z
  .exact h.pz.nm q z
  .obtain rfl:=bA.mp z;exists hb1,hb2
 .rcases t with z|z|z|⟨q,i,z⟩
  .exact u y (.inl z)
  .exact u y (.inr (.inl z))
  .exact u y (.inr (.inr (.inl z)))
  .rcases bM.mp i with C|C
   .exact u y (.inr (.inr (.inr ⟨q,C,z⟩)))
   .obtain rfl:=bA.mp C;rcases z with z|z
    .rw[z];exact A
    .rw[z];exact I
 .exact ym (λz=>E (.inl z)) (S _ _ (g1.fr y o e λz=>E (.inr (.inr z))))
 .rcases z with z|z|z
  .exact .inl (.inl z)
  .exact .inl (.inr (.inl z))
  .exact(g1.nw y z).imp (λz=>.inr (.inr z)) id
 .obtain⟨M,G⟩:=g1.lv y o e;by_cases z:y=d
  .exists _,by rw[z];exact ya
  .exists M,ym z (S _ _ G)
end
#synth yjz ["self","name","text","base","signs","data"] ["self","name","text","base"] vcg
inductive yn5(K:z3)(a:Ads)(vs:Τ)(H:Hp)(Q:VK)(E:XK):Prop
 | mk(st ds ll d c dc p cl ct:z4)(lk tp:Λ)(n:Nat)(kd:Ν)(ps:Κ)(mo w:Nat)(P:qi Pc)(L:Η)(ks:Τ)(U:Μ)(b:Str)(x:qj Str)(tx:z4)(ts:Ο)(_:vs=[.ref st,.str b,.ref tx,baV x])(_:jm K a H st ds ll d c dc p cl ct lk tp n kd ps mo w P L ks U)(_:b.length<=100000)(_:H tx=some (.lst (ts.map V.int)))(_:Sgs ts)(_:ts.length<=100000)(_:(∀y,x=some y->y.length<=100000))(_:P.length<60)(_:(nmS b=false->∀H',yv H H'->E (.ref a.A4) none H'))(_:(nmS b=true->1000<ts.length->∀H',yv H H'->E (.ref a.Au) none H'))(_:(nmS b=true->ts.length<=1000->∀y,x=some y->nmS y=false->∀H',yv H H'->E (.ref a.A4) none H'))(_:(nmS b=true->(∀y,x=some y->nmS y=true)->ts.length<=1000->PyData.strOk b=true/\
 (mo<ts.length->∀H',yv H H'->E (.ref a.A8) none H')/\(ts.length<=mo->(∃r,r∈P/\r.nm=b)->∀H',yv H H'->E (.ref a.Ac) none H')/\(ts.length<=mo->(∀q,q∈P->q.nm≠b)->∀y,x=some y->(∀q,q∈P->q.nm≠y)->∀H',yv H H'->E (.ref a.A1) none H')/\(ts.length<=mo->(∀q,q∈P->q.nm≠b)->∀L',To P x L'->ts.length<=w/\L'.length<=60/\
 ∀(ob od dl c' dc' p' cl' ct':z4)(ks':Τ)(U':Μ)(H':Hp),jm K a H' st ds ll d c' dc' p' cl' ct' lk tp n kd ps mo w (P++[⟨b,x,L',ts,ob,od,dl⟩]) (L'++[(b,ts)]) ks' U'->H ob=none->H dl=none->Go (λy=>y=d\/StO st c cl ct U y) H H' (λy=>y=d\/StO st c' cl' ct' U' y)->NK H ks ks'->Q .non H')))
def yu6(T:Txt K mg a):vn P w K mg Γ (CXe P w) 13 a.L8 a.Ju ["self","name","text","base"] (yn5 K a):=by
 exists T.Wu.okE,yjz,D;let⟨R,ds,ll,d,c,dc,p,cl,ct,lk,tp,n,kd,ps,mo,w,P,L,ks,U,b,x,tx,I,rfl,N,am,ae,M,X,ai,ar,kB,kX,kY,kG⟩:=h;have aB:=N.me;refine yh (y6 (uf (yjb T) D.m T.Jv yt (pa1 (pv 1)))) ?_;refine yh (y7 (i:=4) yjz.nd rfl (Or.inl rfl) (uf (ytz T) D.m T.Od yt (pa1 (pv 2)))) ?_;refine yh (y6 (uf (yyp T) D.m T.Va yt (pa1 (pv 3)))) ?_;refine yh (y6 (yz (pv 0) T.A2 T.Ir.m (ypd T) D.m T.Ir.B .nil yt (pa1 (pv 4)))) ?_;refine yh (y6 (yz (pv 0) T.A2 T.N7.m (yzj T) D.m T.N7.B .nil yt (pac (pv 1) (pa1 (pv 3))))) ?_;refine yh (y7 (i:=5) yjz.nd rfl (Or.inl rfl) (xj (yz (pv 0) T.A2 T.Ds.m (yep T) D.m T.Ds.B .nil yt (pa1 (pv 3))) T.Ar T.N4.m (yyc T) D.m T.N4.B .nil wl (pac (pv 1) (pa1 (pv 4))))) ?_;exists _,(yc (yi0 (Ÿ D) (yr (pv 0) rfl) (pv 1) (ų T.Oi (ywq T) D.m rfl T.Oh T.Vb.B .nil wl (pac (pv 3) (pa1 (pv 5)))) rfl)),?_;exists 4,2;have av:=N.wm;have ay:=N.mo1;ext;exists .str b,"str",rfl,.str b,(λs e=>by cases e;exact am),λg H1 Z=>?_,λz H1 Z=>kB z H1 Z;have g:nmS b=true:=g;have l:=Z _ _ ae;ext;exists .ref tx,_,rfl,.lst l,?_;by_cases hz:I.length<=1000
 case neg =>
  refine .inl ⟨.inr ⟨tx,_,rfl,l,zv I,by rw[bc];exact X,?_⟩,λH2 S2=>kX g () H2 (Z.trans S2)⟩;rw[be (by rw[bc];omega)];rfl
 refine .inr ⟨I.map V.int,Ŭ l M (),λsg H2 a3 ac S2=>?_⟩;ext
 have a0:∃nt,xu K H2 (baV x) (.type nt):=by
  cases x with
  |none=>exists _,.non
  |some y=>exists _,.str y
 let⟨nt,a0⟩:=a0;exists baV x,nt,rfl,a0,(λs e=>?_),λao H3 S3=>?_,λz1 z2 H3 S3=>?_
 .cases x with
  |none=>cases e
  |some y=>cases e;exact ai _ rfl
 rotate_left
 .cases x with
  |none=>exact absurd rfl z1
  |some y=>exact kY g hz y rfl z2 _ (Z.trans (S2.trans S3))
 have u:∀y,x=some y->nmS y=true:=λy e=>by
  subst e
  exact ao.resolve_left λz=>nomatch z
 let⟨af,kL,kT,kN,k⟩:=kG g u hz;have a9:∀y,x=some y->nmS y=true/\y.length<=8:=λy e=>⟨u y e,xi (u y e)⟩;have t:=Z.trans (S2.trans S3);have aa:=N.same t;have J:=aa.me;have G:=S3 _ _ ac;ext;exists R,ds,sg,_,_,_,mo,_,rfl,J,G,λv=>?_,λz=>kL (by rw[bc]at z;omega) _ t;have v:I.length<=mo:=by rw[bc]at v;omega
 ext;exists R,ds,d,_,_,_,n,kd,ps,w,P,b,x,rfl,J,aa.pz,(λy e=>⟨(a9 y e).1,by have:=(a9 y e).2;omega⟩),(λhx=>kT v hx _ t),λC=>⟨λy e al H4 S4=>kN v C y e al _ (t.trans S4),λL' hL=>⟨λz=>absurd z (),λB H4 S4=>?_⟩⟩;let⟨as,ak,k⟩:=k v C L' hL;have j:=t.trans S4;have ab:=N.same j;have aw:=ab.me;have F:=S4 _ _ G;ext;exists R,ds,ll,d,c,dc,p,cl,ct,lk,tp,n,kd,ps,mo,w,P,L,ks,U,x,L',rfl,ab,hL,λc' a8 p' O S ah U' H5 W g5 ag B=>?_;have aD:=W.ch.me
 have a2:¬StO R c cl ct U sg:=λz=>by
  let⟨o,e⟩:=N.lvO sg z;rw[Z.free a3]at e;cases e
 have a6:=g5.fr _ _ F a2;have a5:¬StO R c' O S U' sg:=λz=>(g5.nw sg z).elim a2 λe=>by rw[F]at e;cases e
 have hm:=yno (L:=L') (w:=w) (λy hy=>(hL.sz N.pz y hy).2) av.2 ();have aC:=zn I;have X:=X;ext;exists c',a8,p',O,S,n,kd,ps,L',ah,mOf L',U',sg,b,I,rfl,W.ch,(),⟨a6,M,()⟩,λz=>a5 (.inr (.inr (.inr (.inr z)))),(),λr U6 H6 a7 ad an g6=>?_
 have aj:=g6.fr _ _ W.me λz=>W.nw R (.inl rfl) (.inr z);have au:=g6.fr _ _ W.pz.dk λz=>W.nw d (.inr (.inr (.inl rfl))) (.inr z);ext;intro ob od f a4 aA;have SQ:yv H6 (upd (upd H6 od (.own ob)) ob (.ins a.Ag od [])):=λb o e=>by rw[yq (yb e f),yq (yb e a4)];exact e
 exists ob,od,baV x,.ref r,rfl,ya,λH7 a1 B7=>⟨rfl,?_⟩;have S7:yv H6 H7:=λy o e=>B7 _ _ (SQ _ _ e) (yb e f);have ax:=S7 _ _ aj;ext;exists d,_,rfl,ym3.k (k:=.inr b) (S7 _ _ au) (vk (by unfold pcs;rw[bc];omega)),?_;rw[Š _ (yoz C)];let⟨z1,z2⟩:=W.put (x:=x) an g6 a7 ad f S7 a1 hL ak M as g af C ar;have e8:pcs (P++[⟨b,x,L',I,ob,od,r⟩])=pcs P++[(.inr b,.ref ob)]:=by unfold pcs;rw[bD];rfl
 rw[e8]at z1 z2;have ap:∀{y:z4},H6 y=none->H y=none:=λ{y}e=>j.free (g5.free (g6.free e))
 exact k ob od r c' a8 p' O S _ U6 _ z1 (ap f) (j.free (g5.free a7)) (((g5.ahead j).or (Y:=λy=>y=d)).trans z2) ((NK.refl.trans ag λB e=>j.free e).app λq e=>nomatch e)
def Sto.putX{H:Hp}{C:Cf}{P:qi Pd}{X:Sx}{Q:VK}{E:XK}(h:Sto K a H st C P X){b:Str}{tx:z4}(hbl:b.length<=100000)(htx:H tx=some (.lst (ts.map V.int)))(hts:Sgs ts)(htz:ts.length<=100000)(hxl:∀y,x=some y->y.length<=100000)(hP:P.length<60)
  (kB:nmS b=false->∀H',yv H H'->E (.ref a.A4) none H') (kX:nmS b=true->1000<ts.length->∀H',yv H H'->E (.ref a.Au) none H') (kY:nmS b=true->ts.length<=1000->∀y,x=some y->nmS y=false->∀H',yv H H'->E (.ref a.A4) none H')
  (kG:nmS b=true->(∀y,x=some y->nmS y=true)->ts.length<=1000->PyData.strOk b=true/\(C.mo<ts.length->∀H',yv H H'->E (.ref a.A8) none H')/\(ts.length<=C.mo->(∃r,r∈P/\r.nm=b)->∀H',yv H H'->E (.ref a.Ac) none H')/\(ts.length<=C.mo->(∀q,q∈P->q.nm≠b)->∀y,x=some y->(∀q,q∈P->q.nm≠y)->∀H',yv H H'->E (.ref a.A1) none H')/\
   (ts.length<=C.mo->(∀q,q∈P->q.nm≠b)->∀L,ToD P x L->ts.length<=C.w/\L.length<=60/\∀Y H',Sto K a H' st C (P++[⟨b,x,L,ts⟩]) Y->Gx X H H' Y->Q .non H')):yn5 K a [.ref st,.str b,.ref tx,baV x] H Q E:=by
 let⟨G,I,d,c,dc,p,O,ct,J,F,m,L0,ks,U,s,rfl,rfl⟩:=h;rw[bc]at hP
 have A:∀{z:Str},(∀q,q∈m->q.nm≠z)->∀q,q∈m.map Pc.pd->q.nm≠z:=λ{z}hz q o=>by
  let⟨u,hu,rfl⟩:=bn.mp o;exact hz u hu
 exists st,G,I,d,c,dc,p,O,ct,J,F,C.n,C.kd,C.ps,C.mo,C.w,m,L0,ks,U,b,x,tx,ts,rfl,s,hbl,htx,hts,htz,hxl,hP,kB,kX,kY,λg1 g2 g3=>?_;let⟨g0,kL,T,kN,k⟩:=kG g1 g2 g3;exists g0,kL,(λf ⟨r,Z,e⟩=>T f ⟨r.pd,bn.mpr ⟨r,Z,rfl⟩,e⟩),(λf l y e h3=>kN f (A l) y e (A h3)),λf l L S=>?_;let⟨k1,k2,k⟩:=k f (A l) L (ů.mpr S);exists k1,k2,λob od dl N B p' j i t M H' s' D v g R=>k _ H' ⟨G,I,d,N,B,p',j,i,J,F,_,_,t,M,s',by rw[bD];rfl,rfl⟩ (Gx.of g R λq o=>?_);rcases bM.mp o with z|z
 .exact .inl z
 .rw[bA.mp z];exact .inr ⟨D,v⟩
theorem ybl.get{H:Hp}:∀{L:Η}{ks:Τ},ybl H U L ks->∀{j:Nat}(hj:j<L.length),∃k,ks[j]?=some k/\(k=.non\/∃q,k=.ref q/\H q=some (.lst (L[j].2.map V.int))/\¬U q)
 |[],_,_,j,hj=>absurd hj (ce j)
 |x::r,_,⟨k,ks',e,z,h⟩,0,hj=>⟨k,by rw[e];rfl,z⟩
 |x::r,_,⟨k,ks',e,z,h⟩,j+1,hj=>by
  let⟨a,b,c⟩:=h.get (Nat.lt_of_succ_lt_succ hj);exists a,by rw[e,List.getElem?_cons_succ];exact b,c
#synth yoi ["self","name","links"] ["self","name"] vbj
inductive yfj(K:z3)(a:Ads)(vs:Τ)(H:Hp)(Q:VK)(E':XK):Prop
 |mk(st ds ll d c dc p cl ct:z4)(lk tp:Λ)(n:Nat)(kd:Ν)(ps:Κ)(mo w:Nat)(P:qi Pc)(L:Η)(ks:Τ)(U:Μ)(x:qj Str)(L':Η)(_:vs=[.ref st,baV x])(_:jm K a H st ds ll d c dc p cl ct lk tp n kd ps mo w P L ks U)(_:To P x L')(_:∀(c' dc' p' cl' ct':z4)(L2:Η)(ks':Τ)(U':Μ)(r:z4)(cx:Λ)(H1 H':Hp),jm K a H1 st ds ll d c' dc' p' cl' ct' lk tp n kd ps mo w P L2 ks' U'->Go (StO st c cl ct U) H H1 (StO st c' cl' ct' U')->NK H ks ks'->yv H1 H'->H1 r=none->H' r=some (.lst (refs cx L'.length))->(∀i,i<L'.length->H1 (cx i)=none/\cx i≠r/\H' (cx i)=some (.lst ((txi L' i).map V.int)))->Q (.ref r) H')
def yzm(T:Txt K mg a):vn P w K mg Γ (CXe P w) 13 a.Qh a.Ts ["self","name"] (yfj K a):=by
 exists T.N8.F.okE,yoi,hr;let⟨M,ds,ll,d,c,dc,p,cl,ct,lk,tp,n,kd,ps,mo,w,P,L,ks,U,x,g,rfl,R,hL,k⟩:=h;have aj:=R.me;refine yh (y7 (i:=2) yoi.nd rfl (Or.inl rfl) (xj (pv 0) T.A2 T.Is.m (ype T) hr.m T.Is.B .nil wl (pa1 (pv 1)))) ?_;refine yh (Ě (vv (yx (yzu hr.units) jh (uk ψ (yr (yr (pv 0) rfl) rfl) zq (zl (pcB yw T.Af (pa1 (pv 2))))) (by with_unfolding_all rfl)) (yc (vh (pv 0) (uh T.Fp (yei T) hr.m rfl T.Fo T.Im.B .nil yt (pa1 (yr (pv 0) rfl))) rfl)) y8)) ?_;refine yh (Ě (vv (yx (ļ hr.units) (uk ψ (yr (yr (pv 0) rfl) rfl) zq (zl (pcB yw T.Af (pa1 (pv 2))))) (pv 2) (y9 _)) (yc (y6 (yz (pv 0) T.A2 T.Ds.m (yep T) hr.m T.Ds.B .nil yt (pa1 (pv 1))))) y8)) ?_;exists 2,1,yc (yu (we (js:=[]) (ys:=[]) rfl (ww (uk ψ (yr (yr (pv 0) rfl) rfl) zq (zl (pcB yw T.Af (pa1 (pv 2)))))) (λC s2 H2 fp=>(pcT (r:=yih K) wx T.Ay (pa1 (pv 0)))) rfl rfl (hyc:=ve) (hrel:=ve)));exists M,ds,d,_,_,_,n,kd,ps,w,P,x,g,rfl,aj,R.pz,hL,λl H1 au aa S1=>?_;have az:=S1 _ _ aj;have a6:=R.same S1;have aI:=a6.ch.me;have aD:=a6.ch.hl;have ao:=a6.ch.ht;have aA:=To.len R.pz hL;ext;exists λσ2 G=>∃(c2 Y p2 J O:z4)(I:Τ)(U2:Μ)(L2:Η),σ2=[some (.ref M),some (baV x),some (.ref l)]/\jm K a G M ds ll d c2 Y p2 J O lk tp n kd ps mo w P L2 I U2/\Go (StO M c cl ct U) H G (StO M c2 J O U2)/\NK H ks I/\V.non∉I.take g.length/\G l=some (.lst (nmL g))/\¬StO M c2 J O U2 l,?_,?_
 .ext;refine z5 (SqL.of aa) ?_;ext;refine yc8 (SqL.of ao) λq hq0=>?_;rw[ω,É];exists hq0,H2,S2,e2;have a1:=S1.trans S2;have v:=R.same a1;have W:=v.me;have t:=S2 _ _ aa;exists q,_,rfl,rfl,SqL.of e2,λz hz=>(R.ch.tx.mem z (cL hz)).imp id λ⟨q,ys,e,hq,_⟩=>⟨q,ys,e,SqL.of (a1 _ _ hq)⟩,?_;by_cases he:(ks.take g.length).any isN=true
  .rw[he];exists true,rfl,zt ?_;ext;intro c' N nc ai aF;have SQ:yv H2 (upd (upd H2 N (.own c')) c' (.ins a.A7 N [])):=λb o e=>by rw[yq (yb e nc),yq (yb e ai)];exact e
   exists c',N,ll,n,lk,tp,kd,ps,rfl,ya,SQ _ _ v.lo,v.n1,v.n6,v.row.same SQ,λp' a4 a7 U' HE av ag BE B=>⟨rfl,?_⟩;let⟨hR,gR,SE,hN⟩:=v.re nc ai av ag BE;have aC:=SE _ _ W;have ab:l≠M:=λz=>by rw[z,W]at t;cases t
   ext;exists c',N,p',a4,a7,[],U',[],rfl,hR,gR.ahead a1,.nil,by simp,ym ab (SE _ _ t),λz=>?_
   rcases z with z|z
   .exact ab z
   .rw[hN l z]at t;cases t
  .rw[Bool.eq_false_iff.mpr he];exists false,rfl,xh ?_;exists c,dc,p,cl,ct,ks,U,L,rfl,v,Go.refl.same a1,.refl,λz=>he (List.any_eq_true.mpr ⟨_,z,rfl⟩),t,λz=>?_;let⟨o,e⟩:=R.lvO l z;rw[au]at e;cases e
 .rintro σ2 G ⟨c2,Y,p2,J,O,I,U2,L2,rfl,hG,go,a9,al,ad,as⟩;have aB:=hG.me;have aJ:=hG.ch.me;have am:=hG.ch.hl;ext;exists λσ2 F=>∃(c3 a8 p3 Z a0:z4)(f:Τ)(U3:Μ)(L3:Η),σ2=[some (.ref M),some (baV x),some (.ref l)]/\jm K a F M ds ll d c3 a8 p3 Z a0 lk tp n kd ps mo w P L3 f U3/\Go (StO M c cl ct U) H F (StO M c3 Z a0 U3)/\NK H ks f/\V.non∉f.take g.length/\g=L3.take g.length/\F l=some (.lst (nmL g)),?_,?_
  .ext;refine z5 (SqL.of ad) ?_;ext;refine yc8 (SqL.of am) λq hq0=>?_;rw[ω,É,õ];exists hq0,G2,S2,e2;have a5:=hG.same S2;have W:=a5.me;have t:=S2 _ _ ad;let⟨y,hy⟩:=hG.way;have a2:=t;rw[ä]at e2 a2;ext;refine yo4 _ _ (λz hz=>hy.ok R.pz z (by let⟨u,hu,rfl⟩:=bn.mp hz;exact bn.mpr ⟨u,cL hu,rfl⟩)) (hL.ok R.pz) (SqL.of e2) (SqL.of a2) ?_;by_cases he:(L2.take g.length).map (·.1)=g.map (·.1)
   .rw[bi he];exists false,rfl,xh ?_;exists c2,Y,p2,J,O,I,U2,L2,rfl,a5,go.same S2,a9,al,To.ahead R.pz.nd R.pz.wf hL hy (by rw[õ];exact(yn2 he).symm),t
   .rw[be he];exists true,rfl,zt ?_;ext;exists M,ds,ll,d,c2,Y,p2,J,O,lk,tp,n,kd,ps,mo,w,P,L2,I,U2,x,g,rfl,a5,hL,λc' N p' a4 a7 aq U' F hC X ay hn=>?_;ext;exists c',N,p',a4,a7,aq,U',g,rfl,hC,(go.same S2).trans X,a9.trans ay (λq e=>go.free (S2.free e)),λz=>al (hn (cL z)),(cD).symm,X.fr _ _ t as
  .rintro σ2 F ⟨c3,a8,p3,Z,a0,f,U3,L3,rfl,hF,ap,ax,ac,ae,ar⟩;have aE:=hF.me;have aG:=hF.ch.me;have ah:=hF.ch.ht
   have aL:g.length<=L3.length:=by
    have e:=congrArg List.length ae;rw[bZ]at e;omega
   ext;refine z5 (SqL.of ar) ?_;ext;refine yc8 (SqL.of ah) λq hq0=>?_;rw[ω,É];have S1:=vg (o:=(HO.lst (f.take g.length))) hq0;have e1:upd F q (HO.lst (f.take g.length)) q=some (HO.lst (f.take g.length)):=ya;generalize upd F q (HO.lst (f.take g.length))=F1 at S1 e1⊢;have aK:=hF.ch.tx.len;have a3:(f.take g.length).length=g.length:=by rw[bZ];omega
   have af:=hF.same S1;exists q,rfl,⟨_,SqL.of e1⟩,λD hD=>?_;refine jo (K:=K) (xs:=f.take g.length) (λi G=>∃cx:Λ,G D=some (.lst (refs cx i))/\(∀j,j<i->F1 (cx j)=none/\G (cx j)=some (.lst ((txi g j).map V.int))/\cx j≠D)/\yv F1 G)
    ⟨λB=>0,ya,λj hj=>absurd hj (ce j),vg hD⟩ (λi G B ⟨_,_,_,S⟩=>SqL.of (S _ _ e1)) (λi y G hy hi z=>?_) (λG z=>?_)
   .obtain⟨cx,gD,X,S⟩:=z;rw[a3]at hi;let⟨k',ek,hk⟩:=af.ch.tx.get (j:=i) ();rw[List.getElem?_take,if_pos hi,ek]at hy;obtain rfl:k'=y:=by cases hy;rfl
    rcases hk with z|⟨q2,rfl,an,_⟩
    .refine absurd ?_ ac;rw[<- z];exact bB (i:=i) (by rw[List.getElem?_take,if_pos hi];exact ek)
    have et:L3[i].2=txi g i:=by
     have e:=congrArg (λl=>l[i]?) ae;simp only[List.getElem?_take]at e;rw[if_pos hi]at e;unfold txi;rw[bV,bq,e,bg ()];rfl
    rw[et]at an;ext;exists q2,_,rfl,.inl (SqL.of (S _ _ an)),λc hc0=>?_;have nc:c≠D:=(yb gD hc0).symm;exists hc0,G2,S2,hc2;refine zy (n:=(f.take g.length).length) (S2 _ _ gD) (vk (by rw[vw];omega)) () ?_;exists upN cx i c,?_,λj hj=>?_,λb o e=>ym (yb e hD) (S2 _ _ (S b o e))
    .rw[ya,jp,xv]
     congr 3
     exact j6 λj hj=>(xt hj).symm
    .by_cases z:j=i
     .rw[z,xv];exists S.free hc0,ym nc hc2,nc
     .have ak:j<i:=()
      rw[xt ak];let⟨g1,g2,g3⟩:=X j ak;exists g1,ym g3 (S2 _ _ g2),g3
   .obtain⟨cx,gD,X,S⟩:=z;rw[a3]at gD X;exact k c3 a8 p3 Z a0 L3 f U3 D cx F1 G af (ap.same S1) ax S hD gD λi hi=>⟨(X i hi).1,(X i hi).2.2,(X i hi).2.1⟩
#synth yvt ["self","name"] vbv
inductive Æ(K:z3)(a:Ads)(vs:Τ)(H:Hp)(Q:VK)(E:XK):Prop
 | mk(st ds ll d c dc p cl ct:z4)(lk tp:Λ)(n:Nat)(kd:Ν)(ps:Κ)(mo w:Nat)(P:qi Pc)(L:Η)(ks:Τ)(U:Μ)(x:V)(nt:String)(_:vs=[.ref st,x])(_:jm K a H st ds ll d c dc p cl ct lk tp n kd ps mo w P L ks U)(_:xu K H x (.type nt))(_:(∀s,x=.str s->s.length<=100000))(_:(nmV x=false->∀H',yv H H'->E (.ref a.A4) none H'))(_:(∀b,x=.str b->nmS b=true->(∀q,q∈P->q.nm≠b)->∀H',yv H H'->E (.ref a.A1) none H'))(_:(∀r,r∈P->x=.str r.nm ->
 ∀(c' dc' p' cl' ct':z4)(L2:Η)(ks':Τ)(U':Μ)(q:z4)(H1 H':Hp),jm K a H1 st ds ll d c' dc' p' cl' ct' lk tp n kd ps mo w P L2 ks' U'->Go (StO st c cl ct U) H H1 (StO st c' cl' ct' U')->NK H ks ks'->yv H1 H'->H1 q=none->H' q=some (.lst (r.tx.map V.int))->Q (.ref q) H'))
def ynz(T:Txt K mg a):vn P w K mg Γ (CXe P w) 14 a.Qi a.Tt ["self","name"] (Æ K a):=by
 exists T.Iu.F.okE,yvt,S;let⟨z,q,O,d,c,W,p,M,Z,Y,J,n,g,C,N,w,P,L,X,U,x,nt,rfl,j,ty,hz,k1,k2,k3⟩:=h;have i:=j.me;exists 2,0,yg (y6 (yz (pv 0) T.A2 T.Bz.m (ybd T) S.m T.Bz.B .nil yt (pa1 (pv 1)))) (yc (yu (xg vy (yz (pv 0) T.A2 T.N8.m (yzm T) S.m T.N8.B .nil yt (pa1 (pv 1))) (ymv yd9 yf) (λF F=>rfl))));exists z,q,d,_,_,_,n,g,C,w,P,x,nt,rfl,i,j.pz,ty,hz,k1,k2,λr b e hb H1 u=>?_;subst e;have f:=j.same u;have R:=f.me;ext;exists z,q,O,d,c,W,p,M,Z,Y,J,n,g,C,N,w,P,L,X,U,some r.nm,r.path++[(r.nm,r.tx)],rfl,f,⟨r,b,rfl,rfl⟩,λc' I p' t o L2 y U' l cx HB H2 h2 g2 nk SB a1 k D=>?_;ext;let⟨f1,f2,f3⟩:=D r.path.length (by rw[bf,cB];omega);refine xo (v:=.ref (cx r.path.length)) (SqL.of k) ?_ ?_
 .rw[bf,cB,jp];exact ykx _ _
 .ext;refine k3 r b rfl c' I p' t o L2 y U' _ HB H2 h2 (g2.ahead u) (NK.refl.trans nk λF e=>u.free e) SB f1 ?_;rw[f3];unfold txi;simp
def Sto.textof1{H:Hp}{C:Cf}{P:qi Pd}{X:Sx}{Q:VK}{E:XK}(h:Sto K a H st C P X){b:Str}(hb:nmS b=true)(k1:(∀q,q∈P->q.nm≠b)->∀H',yv H H'->E (.ref a.A1) none H')
  (k2:∀r,r∈P->r.nm=b->∀Y q H1 H',Sto K a H1 st C P Y->Gx X H H1 Y->yv H1 H'->H1 q=none->H' q=some (.lst (r.tx.map V.int))->Q (.ref q) H'):Æ K a [.ref st,.str b] H Q E:=by
 let⟨v,A,d,c,O,p,G,ct,B,t,T,L,R,U,s,rfl,rfl⟩:=h;have N:=xi hb;exists st,v,A,d,c,O,p,G,ct,B,t,C.n,C.kd,C.ps,C.mo,C.w,T,L,R,U,.str b,"str",rfl,s,.str _,(λx e=>by cases e;omega),(λz=>by rw[show nmV (.str b)=nmS b from rfl,hb]at z;cases z),(λb' e W k=>?_),λr J e F o p' j i L2 m D q H1 H' M g I S l f=>?_
 .cases e;refine k1 λq f=>?_;let⟨u,Z,rfl⟩:=bn.mp f;exact k u Z
 .cases e;exact k2 r.pd (bn.mpr ⟨r,J,rfl⟩) rfl _ q H1 H' ⟨v,A,d,F,o,p',j,i,B,t,_,_,m,D,M,rfl,rfl⟩ (Gx.of (g.or (Y:=λy=>y=d)) I λq f=>.inl f) S l f
def Sto.textof{H:Hp}{C:Cf}{P:qi Pd}{X:Sx}{Q:VK}{E:XK}(h:Sto K a H st C P X){b:Str}(hb:nmS b=true)(k1:(∀q,q∈P->q.nm≠b)->∀H',yv H H'->E (.ref a.A1) none H')
  (k2:∀r,r∈P->r.nm=b->∀Y q H',Sto K a H' st C P Y->Gx X H H' Y->H q=none->Kf H' Y q (.lst (r.tx.map V.int))->Q (.ref q) H'):Æ K a [.ref st,.str b] H Q E :=
 h.textof1 hb k1 λr i e Y q j H' d g1 S c f=>k2 r i e Y q H' (d.same S) (g1.same S) (g1.g.free c) (Kf.new d c f)
def Sto.textE{H:Hp}{C:Cf}{P:qi Pd}{X:Sx}{Q:VK}{E:XK}(h:Sto K a H st C P X){b:Str}(hl:b.length<=100000)(np:Np a P b cc)(k:∀H',yv H H'->E (.ref cc) none H'):Æ K a [.ref st,.str b] H Q E:=by let⟨t,y,d,c,i,p,z,l,m,g,o,D,j,U,s,rfl,rfl⟩:=h;let⟨B,f,u⟩:=np.e (λq v=>(s.pz.nm q v).1) k;exists st,t,y,d,c,i,p,z,l,m,g,C.n,C.kd,C.ps,C.mo,C.w,o,D,j,U,.str b,"str",rfl,s,.str _,(λx e=>by cases e;exact hl),B,f,λr A e=>(u r A e).elim
#synth yxe ["self","name"] vc7
inductive á(K:z3)(a:Ads)(vs:Τ)(H:Hp)(Q:VK)(E:XK):Prop
 |mk(st ds d:z4)(vl vm vc:V)(n:Nat)(kd:Ν)(ps:Κ)(w:Nat)(P:qi Pc)(x:V)(nt:String)(_:vs=[.ref st,x])(_:H st=some (.ins a.A0 ds (xb vl vm (.ref d) vc)))(_:ŀ a H d n kd ps w P)(_:xu K H x (.type nt))(_:(∀s,x=.str s->s.length<=100000))(_:(nmV x=false->∀H',yv H H'->E (.ref a.A4) none H'))(_:(∀b,x=.str b->nmS b=true->(∀q,q∈P->q.nm≠b)->∀H',yv H H'->E (.ref a.A1) none H'))(_:(∀r,r∈P->x=.str r.nm->nmS r.nm=true->∀l H',H l=none->H' l=some (.lst ((r.by n kd ps).map V.int))->yv H H'->Q (.ref l) H'))
def yp2(T:Txt K mg a):vn P w K mg Γ (CXe P w) 4 a.Qj a.Tu ["self","name"] (á K a):=by exists T.Iv.F.okE,yxe,I;let⟨y,p,d,u,q,k,n,o,z,w,P,x,v,rfl,f,t,M,J,O,N,G⟩:=h;exists 2,0,yc (yu (pcT wx T.Ay (pa1 (yr (yz (pv 0) T.A2 T.Bz.m (ybd T) I.m T.Bz.B .nil yt (pa1 (pv 1))) rfl))));exists y,p,d,u,q,k,n,o,z,w,P,x,v,rfl,f,t,M,J,O,N,λr c e D S g=>?_;let⟨R,i⟩:=(t.same g).ob r c;ext;exists r.dl,_,rfl,.inl (SqL.of i),λl b=>?_;exact G r c e D l _ (g.free b) ya (g.trans (vg b))
def Sto.bytesof{H:Hp}{C:Cf}{P:qi Pd}{X:Sx}{Q:VK}{E:XK}(h:Sto K a H st C P X){b:Str}(hb:nmS b=true)(k1:(∀q,q∈P->q.nm≠b)->∀H',yv H H'->E (.ref a.A1) none H')
  (k2:∀r,r∈P->r.nm=b->∀l H',H l=none->H' l=some (.lst ((r.by C).map V.int))->yv H H'->Q (.ref l) H'):á K a [.ref st,.str b] H Q E:=by
 let⟨k,G,d,c,y,p,I,B,D,J,j,L,A,U,s,rfl,rfl⟩:=h;have g:=xi hb;exists st,k,d,_,_,_,C.n,C.kd,C.ps,C.w,j,.str b,"str",rfl,s.me,s.pz,.str _,(λx e=>by cases e;omega),(λz=>by rw[show nmV (.str b)=nmS b from rfl,hb]at z;cases z),(λF e Z f=>?_),λr v e Z l H' i t S=>?_
 .cases e;refine k1 λq m=>?_;let⟨u,o,rfl⟩:=bn.mp m;exact f u o
 .cases e;exact k2 r.pd (bn.mpr ⟨r,v,rfl⟩) rfl l H' i t S
def Sto.bytesE{H:Hp}{C:Cf}{P:qi Pd}{X:Sx}{Q:VK}{E:XK}(h:Sto K a H st C P X){b:Str}(hl:b.length<=100000)(np:Np a P b cc)(k:∀H',yv H H'->E (.ref cc) none H'):á K a [.ref st,.str b] H Q E:=by let⟨i,A,d,c,u,p,B,y,z,t,g,D,v,U,s,rfl,rfl⟩:=h;let⟨o,f,j⟩:=np.e (λq l=>(s.pz.nm q l).1) k;exists st,i,d,_,_,_,C.n,C.kd,C.ps,C.w,g,.str b,"str",rfl,s.me,s.pz,.str _,(λx e=>by cases e;exact hl),o,f,λr m e=>(j r m e).elim
#synth yyo ["self","name"] va4
inductive Ē(K:z3)(a:Ads)(vs:Τ)(H:Hp)(Q:VK)(E:XK):Prop
 |mk(st ds d:z4)(vl vm vc:V)(n:Nat)(kd:Ν)(ps:Κ)(w:Nat)(P:qi Pc)(x:V)(nt:String)(_:vs=[.ref st,x])(_:H st=some (.ins a.A0 ds (xb vl vm (.ref d) vc)))(_:ŀ a H d n kd ps w P)(_:xu K H x (.type nt))(_:(∀s,x=.str s->s.length<=100000))(_:(nmV x=false->∀H',yv H H'->E (.ref a.A4) none H'))(_:(∀b,x=.str b->nmS b=true->(∀q,q∈P->q.nm≠b)->∀H',yv H H'->E (.ref a.A1) none H'))(_:(∀r,r∈P->x=.str r.nm->nmS r.nm=true->∀H',yv H H'->Q (baV r.bs) H'))
def yng(T:Txt K mg a):vn P w K mg Γ (CXe P w) 4 a.Qk a.Tv ["self","name"] (Ē K a):=by exists T.Iw.F.okE,yyo,C;let⟨t,j,d,p,k,g,n,i,u,w,P,x,q,rfl,c,l,I,D,L,J,z⟩:=h;exists 2,0,yc (yu (yr (yz (pv 0) T.A2 T.Bz.m (ybd T) C.m T.Bz.B .nil yt (pa1 (pv 1))) rfl));exists t,j,d,p,k,g,n,i,u,w,P,x,q,rfl,c,l,I,D,L,J,λr b e y N o=>?_;have M:=((l.same o).ob r b).1;ext;exact z r b e y _ o
def Sto.baseof{H:Hp}{C:Cf}{P:qi Pd}{X:Sx}{Q:VK}{E:XK}(h:Sto K a H st C P X){b:Str}(hb:nmS b=true)(k1:(∀q,q∈P->q.nm≠b)->∀H',yv H H'->E (.ref a.A1) none H')
  (k2:∀r,r∈P->r.nm=b->∀H',yv H H'->Q (baV r.bs) H'):Ē K a [.ref st,.str b] H Q E:=by
 let⟨j,B,d,c,o,p,D,v,y,F,i,G,t,U,s,rfl,rfl⟩:=h;have g:=xi hb;exists st,j,d,_,_,_,C.n,C.kd,C.ps,C.w,i,.str b,"str",rfl,s.me,s.pz,.str _,(λx e=>by cases e;omega),(λz=>by rw[show nmV (.str b)=nmS b from rfl,hb]at z;cases z),(λA e Z f=>?_),λr m e Z H' S=>?_
 .cases e;refine k1 λq k=>?_;let⟨u,l,rfl⟩:=bn.mp k;exact f u l
 .cases e;exact k2 r.pd (bn.mpr ⟨r,m,rfl⟩) rfl H' S
def Sto.baseE{H:Hp}{C:Cf}{P:qi Pd}{X:Sx}{Q:VK}{E:XK}(h:Sto K a H st C P X){b:Str}(hl:b.length<=100000)(np:Np a P b cc)(k:∀H',yv H H'->E (.ref cc) none H'):Ē K a [.ref st,.str b] H Q E:=by let⟨i,A,d,c,u,p,B,y,z,t,g,D,v,U,s,rfl,rfl⟩:=h;let⟨o,f,j⟩:=np.e (λq l=>(s.pz.nm q l).1) k;exists st,i,d,_,_,_,C.n,C.kd,C.ps,C.w,g,.str b,"str",rfl,s.me,s.pz,.str _,(λx e=>by cases e;exact hl),o,f,λr m e=>(j r m e).elim
#synth yya ["self","name"] vck
def yag:Sp:=λZ Z Z Z=>False
def yxu(T:Txt K mg a):vn P w K mg Γ (CXe P w) 1 a.Ql a.Tw ["self","name"] yag:=by refine T.N9.F.okE yya (λd H Q E h=>h.elim) (λc A b s H d Q E e h=>h.elim)
def yxg(x:qj Str)(b:Str):vgc (baV x) (.str b)=true/\decide (baV x=.str b)=decide (x=some b):=by
 cases x with
 |none=>exists rfl,by rw[be (λz=>nomatch z),be (λz=>nomatch z)]
 |some y =>
  exists rfl,?_;by_cases e:y=b
  .rw[bi (by rw[e];rfl),bi (by rw[e])]
  .rw[be (λz=>e (by cases z;rfl)),be (λz=>e (by cases z;rfl))]
#synth yxh ["self","name"] vdy
inductive yc4(K:z3)(a:Ads)(vs:Τ)(H:Hp)(Q:VK)(E:XK):Prop
 | mk(st ds ll d c dc p cl ct:z4)(lk tp:Λ)(n:Nat)(kd:Ν)(ps:Κ)(mo w:Nat)(P:qi Pc)(L:Η)(ks:Τ)(U:Μ)(x:V)(nt:String)(_:vs=[.ref st,x])(_:jm K a H st ds ll d c dc p cl ct lk tp n kd ps mo w P L ks U)(_:xu K H x (.type nt))(_:(∀s,x=.str s->s.length<=100000))(_:(nmV x=false->∀H',yv H H'->E (.ref a.A4) none H'))(_:(∀b,x=.str b->nmS b=true->(∀q,q∈P->q.nm≠b)->∀H',yv H H'->E (.ref a.A1) none H'))(_:(∀r,r∈P->x=.str r.nm->(∃q,q∈P/\q.bs=some r.nm)->∀H',yv H H'->E (.ref a.Ae) none H'))(_:(∀r,r∈P->x=.str r.nm->(∀q,q∈P->q.bs≠some r.nm) ->
 ∀(c' dc' p' cl' ct':z4)(U':Μ)(H':Hp),jm K a H' st ds ll d c' dc' p' cl' ct' lk tp n kd ps mo w (P.filter λq=>decide (q.nm≠r.nm)) [] [] U'->Go (λy=>y=d\/StO st c cl ct U y) H H' (λy=>y=d\/StO st c' cl' ct' U' y)->Q .non H'))
def yzd(T:Txt K mg a):vn P w K mg Γ (CXe P w) 10 a.Qm a.Tx ["self","name"] (yc4 K a):=by
 exists T.Na.F.okE,yxh,hr;let⟨st,ds,ll,d,c,dc,p,cl,ct,lk,tp,n,kd,ps,mo,w,P,L,ks,U,x,nt,rfl,hS,ty,hz,k1,k2,k3,k4⟩:=h;have a2:=hS.me;exists 2,0,yg (y6 (yz (pv 0) T.A2 T.Bz.m (ybd T) hr.m T.Bz.B .nil yt (pa1 (pv 1)))) (yg (vv (xz (pcB (yll rfl) T.Xa (pa1 (yto (we (js:=[1]) (ys:=["name"]) rfl (yqt (yr (pv 0) rfl)) (λC s2 H2 fp=>(uu xk (yct (K:=K) rfl (pv 0) rfl) (pv 1) (y9 _))) rfl rfl (hyc:=(all_cons rfl ve)) (hrel:=(all_cons rfl ve))))))) (yc (vz rfl T.K5 T.Oo (pa1 yj))) y8) (yg (y6 (ylu (yr (pv 0) rfl) (pv 1) ⟨rfl,rfl,rfl,rfl⟩)) (yc (vh (pv 0) (uh T.Fp (yei T) hr.m rfl T.Fo T.Im.B .nil yt (pa1 (yr (pv 0) rfl))) rfl))));exists st,ds,d,_,_,_,n,kd,ps,w,P,x,nt,rfl,a2,hS.pz,ty,hz,k1,k2,λr t e hb H1 S1=>?_;subst e;have f:=hS.same S1;have a6:=f.me;ext;have k:=f.pz.dk;exists d,pcs P,rfl,k,λo D hD=>?_;have X:(pcs P).length=P.length:=bc _;have ac:=f.pz.z;have a1:D≠d:=λz=>by rw[z,ya]at hD;cases hD
 refine yf0 (λi G=>G D=some (.lst ((P.take i).map λq=>V.bl (decide (q.bs=some r.nm))))/\yv (upd H1 d (.frz o (.dK (pcs P)))) G) ⟨ya,vg hD⟩ (λi G F z=>z.2 _ _ ya) (λi kk v G l hi z=>?_) (λG z=>?_)
 .obtain⟨gD,S⟩:=z;rw[X]at hi;have M:P[i]?=some P[i]:=bg hi;unfold pcs at l;rw[bq,M]at l;obtain rfl:v=.ref (P[i]).ob:=by cases l;rfl
  have I:=(f.pz.ob _ (cu hi)).1;have a7:=S _ _ (ym (λz=>by rw[z,k]at I;cases I) I);ext;let⟨b1,b2⟩:=yxg (P[i]).bs r.nm;exists b1,?_;rw[b2];refine zy (n:=(pcs P).length) gD (vk (by rw[bc,bZ];omega)) () ⟨?_,λy o e=>ym (yb e hD) (S _ _ e)⟩;rw[ya,cq hi,bD];rfl
 .obtain⟨gD,S⟩:=z;rw[X,cD]at gD;exists d,o,.dK (pcs P),(λo u e=>by rw[k]at e;cases e),S _ _ ya,?_
  have S3:yv H1 (upd G d (.dK (pcs P))):=λy o' e=>by
   by_cases z:y=d
   .rw[z,ya];rw[z,k]at e;exact e
   .exact ym z (S _ _ (ym z e))
  have R:(upd G d (.dK (pcs P))) D=some (.lst ((P.map λq=>decide (q.bs=some r.nm)).map V.bl)):=ym a1 (by rw[gD,cb];rfl);generalize upd G d (.dK (pcs P))=H3 at S3 R⊢;have g:=f.same S3;have a9:=g.me;ext;exists D,_,rfl,SqL.of R,?_;by_cases hu:∃q,q∈P/\q.bs=some r.nm
  .have e:(P.map λq=>decide (q.bs=some r.nm)).any id=true:=by
    let⟨q,M,e⟩:=hu;exact List.any_eq_true.mpr ⟨true,bn.mpr ⟨q,M,bi e⟩,rfl⟩
   rw[e];exists true,rfl,zt ?_;ext;exists by walk_at "len",k3 r t rfl hu _ (S1.trans S3)
  .have J:∀q,q∈P->q.bs≠some r.nm:=λq M e=>hu ⟨q,M,e⟩
   have e:(P.map λq=>decide (q.bs=some r.nm)).any id=false:=by
    rw[List.any_map,List.any_eq_false];intro q M;simpa using J q M
   rw[e];exists false,rfl,xh ?_;ext;exists d,rfl,.inl ⟨_,.of g.pz.dk⟩,?_;ext;exists pcs P,.inr r.nm,_,g.pz.dk,rfl,yjo g.pz.nd t,?_;have N:=g.b.drop J
   have gA:Go (λy=>y=d\/StO st c cl ct U y) H3 (upd H3 d (.dK (ï (pcs P) (.inr r.nm)))) (λy=>y=d\/StO st c cl ct U y):=⟨λy o e no=>ym (λz=>no (.inl z)) e,λy z=>.inl z,λy o e=>by
    by_cases z:y=d
    .exists _,by rw[z];exact ya
    .exact⟨o,ym z e⟩⟩
   generalize upd H3 d (.dK (ï (pcs P) (.inr r.nm)))=H4 at N gA⊢;have O:=N.me;ext;intro c' j nc Z aa;have SQ:yv H4 (upd (upd H4 j (.own c')) c' (.ins a.A7 j [])):=λb o e=>by rw[yq (yb e nc),yq (yb e Z)];exact e
   exists c',j,ll,n,lk,tp,kd,ps,rfl,ya,SQ _ _ N.lo,N.n1,N.n6,N.row.same SQ,λp' a0 a3 U' HE a4 W BE F=>⟨rfl,?_⟩;let⟨hR,gR,SE,hN⟩:=N.re nc Z a4 W BE;have a8:=SE _ _ O;ext;exact k4 r t rfl J c' j p' a0 a3 U' _ hR ((gA.ahead (S1.trans S3)).trans ((gR.or (Y:=λy=>y=d)).wide λy z=>z.imp id .inl))
def yhg(Q:qi Pc)(b:Str):(Q.filter λq=>decide (q.nm≠b)).map Pc.pd=(Q.map Pc.pd).filter λq=>decide (q.nm≠b):=by rw[List.filter_map];rfl
def Sto.drop{H:Hp}{C:Cf}{P:qi Pd}{X:Sx}{Q:VK}{E:XK}(h:Sto K a H st C P X){b:Str}(hb:nmS b=true)(k1:(∀q,q∈P->q.nm≠b)->∀H',yv H H'->E (.ref a.A1) none H')(k2:∀r,r∈P->r.nm=b->(∃q,q∈P/\q.bs=some b)->∀H',yv H H'->E (.ref a.Ae) none H')
  (k3:∀r,r∈P->r.nm=b->(∀q,q∈P->q.bs≠some b)->∀Y H',Sto K a H' st C (P.filter λq=>decide (q.nm≠b)) Y->Gx X H H' Y->Q .non H'):yc4 K a [.ref st,.str b] H Q E:=by
 let⟨y,A,d,c,M,p,G,R,B,v,O,I,N,U,s,rfl,rfl⟩:=h;have L:=xi hb;exists st,y,A,d,c,M,p,G,R,B,v,C.n,C.kd,C.ps,C.mo,C.w,O,I,N,U,.str b,"str",rfl,s,.str _,(λx e=>by cases e;omega),(λz=>by rw[show nmV (.str b)=nmS b from rfl,hb]at z;cases z),(λT e Z m=>?_),(λr o e i=>?_),λr o e i F t S l k D H' J g=>?_
 .cases e;refine k1 λq f=>?_;let⟨u,i,rfl⟩:=bn.mp f;exact m u i
 .cases e;let⟨q,f,e⟩:=i;exact k2 r.pd (bn.mpr ⟨r,o,rfl⟩) rfl ⟨q.pd,bn.mpr ⟨q,f,rfl⟩,e⟩
 .cases e;refine k3 r.pd (bn.mpr ⟨r,o,rfl⟩) rfl (λq f=>?_) _ H' ⟨y,A,d,F,t,S,l,k,B,v,_,_,[],D,J,yhg _ _,rfl⟩ (Gx.of g NK.nil λq f=>.inl (List.mem_filter.mp f).1);let⟨u,j,rfl⟩:=bn.mp f;exact i u j
def Sto.dropE{H:Hp}{C:Cf}{P:qi Pd}{X:Sx}{Q:VK}{E:XK}(h:Sto K a H st C P X){b:Str}(hl:b.length<=100000)(np:Np a P b cc)(k:∀H',yv H H'->E (.ref cc) none H'):yc4 K a [.ref st,.str b] H Q E:=by let⟨v,z,d,c,l,p,A,o,t,j,u,D,m,U,s,rfl,rfl⟩:=h;let⟨B,i,g⟩:=np.e (λq y=>(s.pz.nm q y).1) k;exists st,v,z,d,c,l,p,A,o,t,j,C.n,C.kd,C.ps,C.mo,C.w,u,D,m,U,.str b,"str",rfl,s,.str _,(λx e=>by cases e;exact hl),B,i,(λr f e=>(g r f e).elim),λr f e=>(g r f e).elim
#synth ë ["self","text","signs","best","fewest","name","size"] ["self","text"] vbi
inductive ysq(K:z3)(a:Ads)(vs:Τ)(H:Hp)(Q:VK)(E:XK):Prop
 |mk(st:z4)(C:Cf)(P:qi Pd)(X:Sx)(tx:z4)(ts:Ο)(_:vs=[.ref st,.ref tx])(_:Sto K a H st C P X)(_:H tx=some (.lst (ts.map V.int)))(_:Sgs ts)(_:ts.length<=100000)(_:C.mo<ts.length)(_:(1000<ts.length->∀H',yv H H'->E (.ref a.Au) none H'))(_:(ts.length<=1000->∀H',yv H H'->E (.ref a.A8) none H'))
def yw6(T:Txt K mg a):vn P w K mg Γ (CXe P w) 13 a.Qn a.Ty ["self","text"] (ysq K a):=by
 exists T.Nd.F.okE,ë,e;let⟨u,C,P,X,o,j,rfl,z,b,k,l,x,M,L⟩:=h;refine yh (y7 (i:=2) ë.nd rfl (Or.inl rfl) (uf (ytz T) e.m T.Od yt (pa1 (pv 1)))) ?_;refine yh (y6 (yz (pv 0) T.A2 T.Ir.m (ypd T) e.m T.Ir.B .nil yt (pa1 (pv 2)))) ?_;refine yh (y7 (i:=3) ë.nd rfl (Or.inl rfl) jh) ?_;refine yh (y7 (i:=4) ë.nd rfl (Or.inl rfl) (xj (yz (pv 0) T.A2 T.Ds.m (yep T) e.m T.Ds.B .nil yt (pa1 jh)) T.Ar T.Ip.m (yo9 T) e.m T.Ip.B .nil wl (pa1 (pv 2)))) ?_;refine yh (PS.nox (ux PassesOwn.never rfl (ww (wb (pv 0) T.A2 T.Dr.m (yen T) e.m T.Dr.B .nil wl)) (wd (i:=5) ë.nd rfl (Or.inl rfl)) (yg (y7 (i:=6) ë.nd rfl (Or.inl rfl) (xj (yz (pv 0) T.A2 T.Ds.m (yep T) e.m T.Ds.B .nil vt (pa1 (pv 5))) T.Ar T.Ip.m (yo9 T) e.m T.Ip.B .nil wl (pa1 (pv 2)))) (yc (vv (yx ŷ (pv 6) (pv 4) (y9 _)) (yg (y7 (i:=3) ë.nd rfl (Or.inl rfl) (pv 5)) (yc (y7 (i:=4) ë.nd rfl (Or.inl rfl) (pv 6)))) y8))))) ?_;exists 2,5,yc (yu (pv 3));exists .ref o,_,rfl,.lst b,?_;by_cases hz:j.length<=1000
 case neg =>
  refine .inl ⟨.inr ⟨o,_,rfl,b,zv j,by rw[bc];exact l,?_⟩,λD v=>M () D v⟩;rw[be (by rw[bc];omega)];rfl
 refine .inr ⟨j.map V.int,Ŭ b k (),λI S t g r=>?_⟩;let⟨G,O,d,c,W,p,N,ct,Z,tp,Qs,R,Y,U,s,_,_⟩:=z.same r;have f:=s.me;ext;exists u,G,I,_,_,_,C.mo,_,rfl,f,g,(λn=>by rw[bc]at n;omega),λF=>L hz _ r
def lkB(k:Fin 3)(p:Ο):Ο:=((k.val:Nat):Int)::((p.length:Nat):Int)::p
def yxf(k:Fin 3):(kdS 0=kdS k/\k.val=0)\/(kdS 0≠kdS k/\kdS 1=kdS k/\k.val=1)\/(kdS 0≠kdS k/\kdS 1≠kdS k/\kdS 2=kdS k/\k.val=2):=by revert k;decide
#synth yxm ["look"] vcr
inductive ymi  (vs:Τ) (H:Hp) (Q:VK) (E':XK):Prop
 |mk(v:V)(kd:Fin 3)(tp:z4)(ps:Ο)(_:vs=[v])(_:LkG H v kd tp ps)(_:∀l H',H l=none->H' l=some (.lst ((lkB kd ps).map V.int))->yv H H'->Q (.ref l) H')
def yu1(T:Txt K mg a):vn P w K mg Γ CX0 1 a.Qo a.Tz ["look"] ymi:=by
 exists T.Vd.F.ok,yxm,r;let⟨v,d,e,l,rfl,⟨q,rfl,g,i,o⟩,k⟩:=h;have n:=zu o;rw[bc]at n;exists 1,0,yc (yu (yn ud (vj (pac (uy PySem.F.plainAttrs_tuple PySem.F.slot_tuple_index PySem.F.type_tuple_index yhm (w9 rfl T.K8) (pa1 (xg Ô (pv 0) yf (λZ Z=>rfl)))) (pa1 (pcB yw T.Af (pa1 (xg Ô (pv 0) yf (λZ Z=>rfl))))))) (pcT wx T.Ay (pa1 (xg Ô (pv 0) yf (λZ Z=>rfl))))));exists .inr (.inl ⟨rfl,T.wy_KINDS⟩),?_;ext;refine yc7 (SqT.of g) (vi (j:=0) rfl) ?_;ext;exists kdS 0,kdS 1,kdS 2,kdS d,a.Cj,d.val,rfl,rfl,T.w_KINDS H,yxf d,?_;ext;refine yc7 (SqT.of g) (vi (j:=1) rfl) ?_;ext;exists e,_,rfl,.inr (SqT.of i),?_;rw[bc];ext;exists by walk_at "len",λu hu0=>?_
 exists hu0,H1,S1,hu1;ext;refine yc7 (SqT.of (S1 _ _ g)) (vi (j:=1) rfl) ?_;ext;exists e,_,rfl,.inr (SqT.of (S1 _ _ i)),λw hw0=>?_;exists hw0,H2,S2,hw2;ext;exists u,w,_,_,rfl,rfl,S2 _ _ hu1,hw2,wt (by rw[bc];show 2+l.length<=_;omega),λc b=>?_;exact k c _ (S1.free (S2.free b)) ya (S1.trans (S2.trans (vg b)))
def lix(c:Nat):Nat:=(PySem.Builtin.Str.occurrences smS ⟨#[c]⟩ 0 26 1).headD 0
def yrv:∀i:Fin 26,PySem.Builtin.Str.occurrences smS ⟨#[97+i.val]⟩ 0 26 1=[i.val]:=by right
def yxo{c:Nat}(h1:97<=c)(h2:c<=122):lix c=c-97:=by have e:=yrv ⟨c-97,()⟩;unfold lix;rw[show 97+(⟨c-97,()⟩:Fin 26).val=c by show 97+(c-97)=c;omega]at e;rw[e];rfl
def yqp{x:Str}(h:nmS x=true){c:Nat}(hc:x.cps[i]?=some c):∃j3,PySem.Builtin.Str.occurrences smS ⟨#[c]⟩ 0 smS.length 1=lix c::j3:=by
 unfold nmS at h;simp only[bJ,List.all_eq_true]at h;have a:=h.2.2 c (bB (by rw[Array.getElem?_toList];exact hc));unfold yna at a;have a:(!(PySem.Builtin.Str.occurrences smS ⟨#[c]⟩ 0 26 1).isEmpty)=true:=a;show ∃j3,PySem.Builtin.Str.occurrences smS ⟨#[c]⟩ 0 26 1=_;unfold lix
 cases e:PySem.Builtin.Str.occurrences smS ⟨#[c]⟩ 0 26 1 with
 |nil=>rw[e]at a;cases a
 |cons i r=>exists r,rfl
def nmB(x:Str):Ο:=((x.length:Nat):Int)::x.cps.toList.map λc=>((lix c:Nat):Int)
def yry(x:Str):(List.range x.cps.size).map (λi=>V.int ((lix (x.cps.toList.getD i 0):Nat):Int))=(x.cps.toList.map λc=>((lix c:Nat):Int)).map V.int:=by
 refine List.ext_getElem? λi=>?_;rw[bq,bq,bq];rcases Nat.lt_or_ge i x.cps.size with z|z
 .rw[cy z,bg (by simpa using z)];show some (V.int ((lix (x.cps.toList.getD i 0):Nat):Int))=_;rw[bV,bg (by simpa using z)];rfl
 .rw[bK (by rw[bP];exact z),bK (by simpa using z)];rfl
#synth yxi ["name"] vas
inductive ylp  (vs:Τ) (H:Hp) (Q:VK) (E':XK):Prop
 |mk(x:Str)(_:vs=[.str x])(_:nmS x=true)(_:∀l H',H l=none->H' l=some (.lst ((nmB x).map V.int))->yv H H'->Q (.ref l) H')
def ywx(T:Txt K mg a):vn P w K mg Γ CX0 1 a.Qp a.U7 ["name"] ylp:=by
 exists T.Ve.F.ok,yxi,B;let⟨x,rfl,g,k⟩:=h;have o:=xi g;have p:x.cps.size=x.length:=rfl;exists 1,0,yc (yu (yn ud (vj (pa1 (pcB zd T.Af (pa1 (pv 0))))) (we (js:=[]) (ys:=[]) rfl (yes (pv 0)) (λC v z y=>(ypt (K:=K) (r:=(ycs)) rfl PySem.F.plainAttrs_str PySem.F.slot_str_index PySem.F.type_str_index yar (ja rfl T.Hj) (pa1 (pv 0)))) rfl rfl (hyc:=ve) (hrel:=ve))));exists x,rfl,bX o ∅,?_;ext;exists by walk_at "len",λu hu0=>?_
 exists hu0,H1,S1,hu1;ext;exists x,rfl,λD l=>?_;refine Å (λi=>.int ((lix (x.cps.toList.getD i 0):Nat):Int)) l (λi c G j m S e=>?_) (λG S e=>?_)
 .obtain⟨j3,q⟩:=yqp g j;ext;exists rfl,?_;ext;exists smS,_,lix c,j3,rfl,rfl,q,?_;refine Mp.doneR l (vk ()) m S e ?_;show V.int _=V.int _;rw[bV,Array.getElem?_toList,j];rfl
 .ext;have b:=S1.trans S;rw[yry]at e;exists u,D,_,_,rfl,rfl,S _ _ hu1,e,wt (by rw[bc,bc];show 1+x.cps.size<=_;omega),λc d=>?_;exact k c _ (b.free d) ya (b.trans (vg d))
noncomputable def bsN(P:qi Pd):qj Str->Int
 |none=>0
 |some b=>(((P.map (·.nm)).idxOf b:Nat):Int)+1
def yr7{ns:Ρ}{b:Str}(h:b∈ns):vg2 ns b (ns.idxOf b):=by
 have a:ns.idxOf b<ns.length:=List.idxOf_lt_length_iff.mpr h;exists ?_,λm c e=>?_
 .rw[bg a,List.getElem_idxOf a]
 .obtain⟨d,f⟩:=bL.mp e;have:=List.not_of_lt_findIdx (p:=(· == b)) (xs:=ns) (i:=m) c;rw[f]at this;simp at this
#synth yol ["store","name","base"] ["store","name"] vdx
inductive yl4(K:z3)(a:Ads)(vs:Τ)(H:Hp)(Q:VK)(E':XK):Prop
 |mk(st:z4)(C:Cf)(P:qi Pd)(X:Sx)(q:Pd)(_:vs=[.ref st,.str q.nm])(_:Sto K a H st C P X)(_:q∈P)(_:∀l H',H l=none->H' l=some (.lst [V.int (bsN P q.bs)])->yv H H'->Q (.ref l) H')
def yxw(T:Txt K mg a):vn P w K mg Γ CX0 5 a.Qq a.U8 ["store","name"] (yl4 K a):=by
 exists T.Vf.F.ok,yol,n;let⟨W,C,P,X,q,rfl,g,x,k⟩:=h;let⟨Z,vl,vm,vp,Y,t⟩:=g.ins;have v:=g.nm q x;exists 2,1,yg (y7 (i:=2) yol.nd rfl (Or.inl rfl) (yz (pv 0) T.A2 T.Iw.m (yng T) n.m T.Iw.B .nil vt (pa1 (pv 1)))) (yc (yu (vj (pa1 (j9 (yx yza (pv 2) jh (y9 _)) yf (yn wc (uy PySem.F.plainAttrs_list PySem.F.slot_list_index PySem.F.type_list_index yhb (wb (pv 0) T.A2 T.Dr.m (yen T) n.m T.Dr.B .nil wl) (pa1 (pv 2))) yf))))));refine g.baseof v.1 (λR=>absurd rfl (R q x)) λr n e H1 o=>?_;obtain rfl:=ybf g.nd n x e;have y:=g.same o;have I:=o _ _ t
 cases hb:r.bs with
 |none =>
  ext;refine jk (λF=>?_) (λz=>absurd rfl z);ext;exists by walk_at "len",λl c=>?_
  refine k l _ (o.free c) ?_ (o.trans (vg c));rw[hb];exact ya
 |some b =>
  have j:=g.to r n;rw[hb]at j;let⟨u,S,O,_⟩:=j;ext
  refine jk (λz=>nomatch z) (λF=>?_)
  ext;refine y.names λG N J d L=>?_;have f:N G=some (.lst ((P.map (·.nm)).map V.str)):=by rw[d,cb];rfl
  refine z6 d ?_;ext;exists G,_,b,_,rfl,rfl,SqL.of f,yr7 (bn.mpr ⟨u,S,O⟩),?_;ext;exists by walk_at "len",λl c=>?_
  have p:=o.trans L;refine k l _ (p.free c) ?_ (p.trans (vg c));rw[hb];exact ya
def pdB(C:Cf)(P:qi Pd)(q:Pd):Ο:=nmB q.nm++[bsN P q.bs]++q.by C
def lkF(C:Cf)(i:Nat):Ο:=((List.range i).map λj=>lkB (C.kd j) (C.ps j)).flatten
def yd1(C:Cf)(i:Nat):lkF C (i+1)=lkF C i++lkB (C.kd i) (C.ps i):=by unfold lkF;rw[List.range_succ,bD,List.flatten_append,List.map_singleton,List.flatten_singleton]
def hdB(C:Cf):Ο:=((C.n:Nat):Int)::lkF C C.n++[((C.mo:Nat):Int)/256,((C.mo:Nat):Int)%256]
def shB(C:Cf)(P:qi Pd):Ο:=hdB C++((P.length:Nat):Int)::(P.map (pdB C P)).flatten
theorem xx.lkl{H:Hp}{C:Cf}{lk:Λ}(h:xx H C.n lk C.kd tp C.ps):∀i,i<=C.n->(lkF C i).length<=i*6
 |0,_=>bj _
 |i+1,hi=>by
  let⟨_,_,_,_,a⟩:=h i ();have b:=zu a;rw[bc]at b;rw[yd1,bf];have:=h.lkl i ();show (lkF C i).length+((C.ps i).length+1+1)<=_;omega
section
variable{H:Hp}{C:Cf}{P:qi Pd}{X:Sx}
def Sto.pdl(h:Sto K a H st C P X){q:Pd}(hq:q∈P):(pdB C P q).length<=5520:=by have e:=xi (h.nm q hq).1;have d:=h.sz q hq;have b:=h.cf;have c:=ydf (n:=C.n) (kd:=C.kd) (ps:=C.ps) (pre:=Ĝ (q.path.map (·.2))) (ts:=q.tx) b.1 b.2.1 (È _) ();have c:(q.by C).length<=5500:=c;have b:q.nm.cps.toList.length=q.nm.length:=rfl;unfold pdB nmB;rw[bf,bf,bp,bc,b];show _+1+1+_<=_;omega
theorem Sto.pls(h:Sto K a H st C P X):∀i,i<=P.length->(((P.take i).map (pdB C P)).flatten).length<=i*5520
 |0,_=>bj _
 |i+1,hi=>by
  have b:i<P.length:=()
  rw[cq b,bD,List.flatten_append,bf];have d:=h.pls i ();have c:=h.pdl (cu b);rw[List.map_singleton,List.flatten_singleton];omega
end
def ylc(C:Cf){P:qi Pd}{q:Pd}(h:P[i]?=some q):((P.take (i+1)).map (pdB C P)).flatten=((P.take i).map (pdB C P)).flatten++pdB C P q:=by rw[cq (bL.mp h).1,(bL.mp h).2,bD,List.flatten_append,List.map_singleton,List.flatten_singleton]
def wr2{m:Nat}(h:m<=1000):wr 2 (m:Int)=[(m:Int)/256,(m:Int)%256]:=by show [(m:Int)/256%256,(m:Int)%256]=_;rw[Int.emod_eq_of_lt (a:=(m:Int)/256) () ()]
#synth ľ ["store","looks","names","shelf","look","name"] ["store"] vbp
inductive ylq(K:z3)(a:Ads)(vs:Τ)(H:Hp)(Q:VK)(E':XK):Prop
 |mk(st:z4)(C:Cf)(P:qi Pd)(X:Sx)(_:vs=[.ref st])(_:Sto K a H st C P X)(_:∀l H',H l=none->H' l=some (.lst ((shB C P).map V.int))->yv H H'->Q (.ref l) H')
def yzn(T:Txt K mg a):vn P w K mg Γ CX0 6 a.Qr a.U9 ["store"] (ylq K a):=by
 exists T.Vg.F.ok,ľ,x;let⟨st,C,P,X,rfl,O,k⟩:=h;let⟨ds,vl,vm,vp,vc,ag⟩:=O.ins;let⟨c1,c6,cm,cw,c2⟩:=O.cf;have ay:=O.z;refine yh (y7 (i:=1) ľ.nd rfl (Or.inl rfl) (wb (pv 0) T.A2 T.Iq.m (yny T) x.m T.Iq.B .nil wl)) ?_;refine yh (y7 (i:=2) ľ.nd rfl (Or.inl rfl) (wb (pv 0) T.A2 T.Dr.m (yen T) x.m T.Dr.B .nil wl)) ?_;refine yh (y7 (i:=3) ľ.nd rfl (Or.inl rfl) (vj (pa1 (pcB yw T.Af (pa1 (pv 1)))))) ?_;refine yh (ux PassesOwn.never rfl (ww (pv 1)) (wd (i:=4) ľ.nd rfl (Or.inl rfl)) (yc (y6 (uy PySem.F.plainAttrs_list PySem.F.slot_list_extend PySem.F.type_list_extend Ç (pv 3) (pa1 (ug (yu1 T) x.m T.Vd (pa1 (pv 4)))))))) ?_;refine yh (y6 (uy PySem.F.plainAttrs_list PySem.F.slot_list_extend PySem.F.type_list_extend Ç (pv 3) (pa1 (ug (ynm T) x.m T.Mm (pac (wb (pv 0) T.A2 T.N6.m (yv2 T) x.m T.N6.B .nil wl) (pa1 yf)))))) ?_;refine yh (y6 (uy PySem.F.plainAttrs_list PySem.F.slot_list_append PySem.F.type_list_append wy (pv 3) (pa1 (pcB yw T.Af (pa1 (pv 2)))))) ?_;refine yh (ux PassesOwn.never rfl (ww (pv 2)) (wd (i:=5) ľ.nd rfl (Or.inl rfl)) (yc (y6 (uy PySem.F.plainAttrs_list PySem.F.slot_list_extend PySem.F.type_list_extend Ç (pv 3) (pa1 (yn ud (yn ud (ug (ywx T) x.m T.Ve (pa1 (pv 5))) (ug (yxw T) x.m T.Vf (pac (pv 0) (pa1 (pv 5))))) (yz (pv 0) T.A2 T.Iv.m (yp2 T) x.m T.Iv.B .nil vt (pa1 (pv 5))))))))) ?_;exists 1,5,yc (yu (pv 3));refine O.tlooks λlo lk tp H1 am J hR S=>?_;have U:=S _ _ ag;ext;refine(O.same S).names λnm H2 a6 j R=>?_;have p:=R _ _ J;ext;refine z5 (SqL.of p) ?_;rw[vw];ext;exists by walk_at "len",λd hsh0=>?_
 exists hsh0,H3,S3,hsh3;have av:=S.trans (R.trans S3);have a0:H d=none:=S.free (R.free hsh0);have Y:=S3 _ _ p;have ab:=S3 _ _ j;have af:=(hR.same R).same S3;have a7:H3 d=some (.lst ((((C.n:Nat):Int)::lkF C 0).map V.int)):=hsh3;have N:=hR.same R;have u:=O.same (S.trans R);clear hR hsh3 ab Y af J a6 U;have a5:=N.lkl;ext;refine⟨lo,rfl,⟨_,SqL.of (S3 _ _ p)⟩,ua (K:=K) (a:=lo) (xs:=refs lk C.n) (λi σ2 G=>∃v4:qj V,σ2=[some (.ref st),some (.ref lo),some (.ref nm),some (.ref d),v4,none]/\yv H2 G/\G d=some (.lst ((((C.n:Nat):Int)::lkF C i).map V.int)))
  ⟨none,rfl,S3,a7⟩ (λi σ2 G F ⟨_,_,f,_⟩=>SqL.of (f _ _ p)) ?_ ?_⟩
 .rintro i y σ2 G hy ⟨v4,rfl,f,c⟩;let⟨rfl,hi⟩:=Ð hy;have ad:=a5 i ();let⟨_,_,_,_,h3⟩:=N i hi;have h4:=zu h3;rw[bc]at h4;ext;refine z6 c ?_;ext;exists .ref (lk i),C.kd i,tp i,C.ps i,rfl,(N i hi).same f,λl Z aB ae I=>?_;exists d,l,_,_,rfl,rfl,I _ _ c,ae,wt (by rw[bc,bc];show (lkF C i).length+1+((C.ps i).length+1+1)<=_;omega),?_;ext;exists _,rfl,λb o e=>ym (yb e hsh0) (I _ _ (f _ _ e)),?_;rw[ya,yd1,<- bD];rfl
 rintro σ2 G ⟨v4,rfl,f,c⟩;rw[vw]at c;have ad:=a5 C.n (bj _);have t:=u.same f;let⟨aq,ar,aE,aw,ap,W⟩:=t.ins;clear a7;ext;refine z6 c ?_;ext;refine t.tmost ?_;ext;exists _,2,rfl,∅,λw Z ac M I=>?_
 rw[wr2 cm]at M;exists d,w,_,_,rfl,rfl,I _ _ c,M,wt (by rw[bc];show (lkF C C.n).length+1+2<=_;omega),?_;rw[<- bD];have S4:yv H2 (upd Z d (.lst ((((C.n:Nat):Int)::lkF C C.n++[((C.mo:Nat):Int)/256,((C.mo:Nat):Int)%256]).map V.int))):=λb o e=>ym (yb e hsh0) (I _ _ (f _ _ e));have g:upd Z d (.lst ((((C.n:Nat):Int)::lkF C C.n++[((C.mo:Nat):Int)/256,((C.mo:Nat):Int)%256]).map V.int)) d=some (.lst ((hdB C).map V.int)):=ya;generalize upd Z d (.lst ((((C.n:Nat):Int)::lkF C C.n++[((C.mo:Nat):Int)/256,((C.mo:Nat):Int)%256]).map V.int))=H4 at S4 g⊢;clear c t W ac M I f;have aH:(hdB C).length<=40:=by unfold hdB;rw[bf,bp];show _+1+2<=40;omega
 ext;refine z6 g ?_;ext;refine z5 (SqL.of (S4 _ _ j)) ?_;rw[bc];ext;refine xp g (vk (by rw[bc];omega)) ?_;have S5:yv H2 (upd H4 d (.lst ((hdB C).map V.int++[V.int ((P.length:Nat):Int)]))):=λb o e=>ym (yb e hsh0) (S4 _ _ e)
 have L:upd H4 d (.lst ((hdB C).map V.int++[V.int ((P.length:Nat):Int)])) d=some (.lst ((hdB C++((P.length:Nat):Int)::((P.take 0).map (pdB C P)).flatten).map V.int)):=by
  rw[ya,bD];rfl
 generalize upd H4 d (.lst ((hdB C).map V.int++[V.int ((P.length:Nat):Int)]))=H5 at S5 L⊢;clear g S4;have aj:∀q,q∈P->(pdB C P q).length<=5520:=λq=>u.pdl;have ai:=u.pls;ext;refine⟨nm,rfl,⟨_,SqL.of (S5 _ _ j)⟩,ua (K:=K) (a:=nm) (xs:=P.map λq=>V.str q.nm) (λi σ2 G=>∃v5:qj V,σ2=[some (.ref st),some (.ref lo),some (.ref nm),some (.ref d),v4,v5]/\yv H2 G/\G d=some (.lst ((hdB C++((P.length:Nat):Int)::((P.take i).map (pdB C P)).flatten).map V.int)))
  ⟨none,rfl,S5,L⟩ (λi σ2 G F ⟨_,_,f,_⟩=>SqL.of (f _ _ j)) ?_ ?_⟩
 .rintro i y σ2 G hy ⟨v5,rfl,f,c⟩;rw[bq]at hy;let⟨q,hq,rfl⟩:=Option.map_eq_some_iff.mp hy;have az:i<P.length:=(bL.mp hq).1;have aA:P[i]=q:=(bL.mp hq).2;have v:=bB hq;have a8:=u.nm q v;have ax:=ai i ();have D:=aj q v;have t:=u.same f;ext;refine z6 c ?_;ext;exists q.nm,rfl,a8.1,λb1 G1 ak aa T1=>?_;ext;exists st,C,P,X,q,rfl,t.same T1,v,λb2 Z an a3 I=>?_;ext;exists b1,b2,_,_,rfl,rfl,I _ _ aa,a3,wt (by rw[bc];unfold pdB at D;rw[bf,bf]at D;show _+1<=_;omega),λb3 hb30=>?_;exists hb30,G3,T3,hb33;have a9:=T1.trans (I.trans T3);have a4:=t.same a9;let⟨aD,as,aC,aF,aG,ao⟩:=a4.ins;ext;refine a4.bytesof a8.1 (λno=>absurd rfl (no q v)) λr x er b4 G4 al a1 T4=>?_;obtain rfl:=ybf O.nd x v er;ext;exists b3,b4,_,_,rfl,rfl,T4 _ _ hb33,a1,wt (by rw[bf,bc,bc];unfold pdB at D;rw[bf,bf]at D;show _+1+_<=_;omega),λb5 hb50=>?_;exists hb50,G5,T5,hb55;have a2:=a9.trans (T4.trans T5)
  have hb55:G5 b5=some (.lst ((pdB C P r).map V.int)):=by
   rw[hb55];unfold pdB;rw[bD,bD];rfl
  exists d,b5,_,_,rfl,rfl,a2 _ _ c,hb55,wt (by rw[bc,bc,bf,bp];omega),?_;ext;exists _,rfl,λb o e=>ym (yb e hsh0) (a2 _ _ (f _ _ e)),?_;rw[ya,ylc C hq,<- bD,ck];rfl
 .rintro σ2 G ⟨v5,rfl,f,c⟩;rw[bc,cD]at c;ext;exact k d G a0 c (S.trans (R.trans f))
structure RdR(a:Ads)(H:Hp)(r dr dl:z4)(d:Ο)(j:Nat):Prop where
 me:H r=some (.ins a.Aa dr (zf (.ref dl) (.int ((j:Nat):Int))))
 dl:H dl=some (.lst (d.map V.int))
def RdR.same{H H':Hp}{r dr dl:z4}(h:RdR a H r dr dl d j)(S:yv H H'):RdR a H' r dr dl d j:=⟨S _ _ h.me,S _ _ h.dl⟩
#synth yz2 ["self","data"] vb0
inductive ygq(a:Ads)(vs:Τ)(H:Hp)(Q:VK)(E':XK):Prop
 |mk(r dr dl:z4)(d:Ο)(_:vs=[.ref r,.ref dl])(_:H r=some (.ins a.Aa dr []))(_:H dl=some (.lst (d.map V.int)))(_:∀H',RdR a H' r dr dl d 0->But r H H'->Q .non H')
def yyd(T:Txt K mg a):vn P w K mg Γ CX0 1 a.L9 a.Ua ["self","data"] (ygq a):=by
 exists T.Vh.F.ok,yz2,n;let⟨r,e,b,d,rfl,j,f,k⟩:=h;have g:b≠r:=λz=>by rw[z,j]at f;cases f
 exists 2,0,yg (vh (pv 0) (pv 1) rfl) (yc (vh (pv 0) yf rfl));have m:upd H r (.ins a.Aa e [("data",.ref b)]) r=some (.ins a.Aa e [("data",.ref b)]):=ya;ext;exact k _ ⟨ya,ym g (ym g f)⟩ (But.upd.trans But.upd)
#synth yww ["self"] vak
inductive yl9(a:Ads)(vs:Τ)(H:Hp)(Q:VK)(E:XK):Prop
 |mk(r dr dl:z4)(d:Ο)(j:Nat)(_:vs=[.ref r])(_:RdR a H r dr dl d j)(_:j<=d.length)(_:(j=d.length->E (.ref a.A5) none H))(_:∀x,d[j]?=some x->∀H',RdR a H' r dr dl d (j+1)->But r H H'->Q (.int x) H')
def yez(T:Txt K mg a):vn P w K mg Γ (CXe P w) 1 a.Qt a.Ub ["self"] (yl9 a):=by
 exists T.Dt.F.okE,yww,B;let⟨r,c,b,d,j,rfl,h,y,q,k⟩:=h;have l:=h.me;have u:b≠r:=λz=>by have e:=h.dl;rw[z,l]at e;cases e
 exists 1,0,yg (vv (yx xk (yr (pv 0) rfl) (pcB yw T.Af (pa1 (yr (pv 0) rfl))) (y9 _)) (yc (vz rfl T.Ck T.En (pa1 yj))) y8) (yg (vh (pv 0) (yn wc (yr (pv 0) rfl) yf) rfl) (yc (yu (xg vy (yr (pv 0) rfl) (yn zz (yr (pv 0) rfl) yf) (λZ Z=>rfl)))));refine z5 (SqL.of h.dl) ?_;rw[bc];ext;refine jk (λz=>?_) (λz=>?_)
 .ext;exists by walk_at "len",q ()
 have m:j<d.length:=()
 ext;have g:RdR a (upd H r (.ins a.Aa c (zf (.ref b) (.int ((j:Nat)+1))))) r c b d (j+1):=⟨ya,ym u h.dl⟩;have o:But r H (upd H r (.ins a.Aa c (zf (.ref b) (.int ((j:Nat)+1))))):=But.upd;generalize upd H r (.ins a.Aa c (zf (.ref b) (.int ((j:Nat)+1))))=x at g o⊢;have n:=g.me;ext;have f:d[j]?=some d[j]:=bg m;refine xo (v:=.int d[j]) (SqL.of g.dl) (by rw[show ((j:Nat):Int)+1-1=((j:Nat):Int) by omega];exact vi (by rw[bq,f];rfl)) ?_;exact k _ f _ g o
#synth yvy ["self","kind","many"] ["self"] vcq
def ymc:Sp:=λZ Z Z Z=>False
def yz9(T:Txt K mg a):vn P w K mg Γ CX0 1 a.Qu a.Uc ["self"] ymc:=by refine T.Nf.F.ok yvy (λd H Q E h=>h.elim) (λc A b s H d Q E e h=>h.elim)
structure CfG(C:Cf):Prop where
 n:1<=C.n/\C.n<=6
 m:C.mo<=1000/\C.w<=C.mo/\C.w<=200
 p:∀i,i<C.n->ur ((C.ps i).map V.int)=true
#synth yet ["self","many","looks","upper"] ["self"] vb6
inductive ygv(a:Ads)(vs:Τ)(H:Hp)(E':VK)(E:XK):Prop
 |mk(r dr dl:z4)(d:Ο)(_:vs=[.ref r])(_:RdR a H r dr dl d 0)(_:(d=[]\/d=[0]))(_:∀H',But r H H'->E (.ref a.A5) none H')
def yvq(T:Txt K mg a):vn P w K mg Γ (CXe P w) 12 a.Qv a.Ud ["self"] (ygv a):=by
 exists T.Ng.F.okE,yet,c;let⟨r,g,f,d,rfl,h,y,k⟩:=h;have v:=h.me;exists 1,3,yg (y7 (i:=1) yet.nd rfl (Or.inl rfl) (zx (pv 0) T.Ak T.Dt.m (yez T) c.m T.Dt.B .nil yt)) (yg (yd0 (i:=2) (js:=[0]) (ys:=["self"]) yet.nd rfl rfl rfl (u7 rfl T.B9 (pa1 (pv 1))) (λC R O W=>(wb (pv 1) T.Ak T.Nf.m (yz9 T) c.m T.Nf.B .nil wl)) rfl rfl (hyc:=(all_cons rfl ve)) (hrel:=(all_cons rfl ve))) (yg (y7 (i:=3) yet.nd rfl (Or.inl rfl) (zx (pv 0) T.Ak T.Dt.m (yez T) c.m T.Dt.B .nil yt)) (yc (yu (uh T.Jz (ynv T) c.m rfl T.Jy T.Vc .nil yt (pac (pv 2) (pa1 (yn wc (yn xf yf (pv 3)) (zx (pv 0) T.Ak T.Dt.m (yez T) c.m T.Dt.B .nil yt)))))))));rcases y with rfl|rfl
 .exists r,g,f,[],0,rfl,h,bj _,(λZ=>k H λZ Z e Z=>e),λx e=>nomatch e
 exists r,g,f,[0],0,rfl,h,∅,(λz=>nomatch z),λx e U l N=>?_
 cases e;have t:=l.me;ext;exists _,rfl,∅,∅,λD J=>?_
 refine jn (n:=0) (λZ=>.non) J (λi G L=>absurd L (ce i)) (λG S X=>?_);have p:=l.same S;have q:=p.me;ext
 exists r,g,f,[0],1,rfl,p,bj _,(λZ=>k G λb o e u=>S _ _ (N b o e u)),λx e=>nomatch e
structure PdN(C:Cf)(P:qi Pd)(q:Pd):Prop where
 nm:okN q.nm
 no:∀u,u∈P->u.nm≠q.nm
 z:P.length<60
 s:Sgs q.tx
 l:q.tx.length<=C.w
 to:ToD P q.bs q.path
#synth yyj ["self","store","name","base","ahead"] ["self","store"] vau
def ylk:Sp:=λZ Z Z Z=>False
def yv4(T:Txt K mg a):vn P w K mg Γ CX0 1 a.Qw a.Ue ["self","store"] ylk:=by refine T.Nh.F.ok yyj (λd H Q E h=>h.elim) (λc A b s H d Q E e h=>h.elim)
def Stk(P:qi Pd):Prop:=∀(i:Nat)(r:Pd)(b:Str),P[i]?=some r->r.bs=some b->∃j s,j<i/\P[j]?=some s/\s.nm=b
structure vh5(C:Cf)(P:qi Pd):Prop where
 c:CfG C
 w:PdW P
 z:P.length<=60
 nm:∀q,q∈P->okN q.nm
 s:∀q,q∈P->Sgs q.tx/\q.tx.length<=C.w
 k:Stk P
#synth yjm ["self","store","place"] ["self"] vb2
inductive yhr(a:Ads)(vs:Τ)(H:Hp)(E':VK)(E:XK):Prop
 |mk(r dr dl:z4)(d:Ο)(_:vs=[.ref r])(_:RdR a H r dr dl d 0)(_:(d=[]\/d=[0]))(_:∀H',But r H H'->E (.ref a.A5) none H')
def yva(T:Txt K mg a):vn P w K mg Γ (CXe P w) 13 a.Qx a.Uf ["self"] (yhr a):=by exists T.Ni.F.okE,yjm,c;let⟨r,f,e,d,rfl,h,l,k⟩:=h;have j:=h.me;refine yh (y7 (i:=1) yjm.nd rfl (Or.inl rfl) (zx (pv 0) T.Ak T.Ng.m (yvq T) c.m T.Ng.B .nil yt)) ?_;refine yh (PS.nox (ux PassesOwn.never rfl (u7 rfl T.B9 (pa1 (zx (pv 0) T.Ak T.Dt.m (yez T) c.m T.Dt.B .nil vt))) (wd (i:=2) yjm.nd rfl (Or.inl rfl)) (yc (y6 (xj (pv 0) T.Ak T.Nh.m (yv4 T) c.m T.Nh.B .nil wl (pa1 (pv 1))))))) ?_;refine yh (vv (yx ŷ (yr (pv 0) rfl) (pcB yw T.Af (pa1 (yr (pv 0) rfl))) (y9 _)) (yc (vz rfl T.Ck T.En (pa1 yj))) y8) ?_;exists 1,2,yc (yu (pv 1));exists r,f,e,d,rfl,h,l,k
#synth yw9 ["data","e"] ["data"] vdt
inductive yh4(a:Ads)(vs:Τ)(H:Hp)(E':VK)(E:XK):Prop
 |mk(l:z4)(d:Ο)(_:vs=[.ref l])(_:H l=some (.lst (d.map V.int)))(_:(d=[]\/d=[0]))(_:∀H',yv H H'->E (.ref a.A5) none H')
def yvn(T:Txt K mg a):vn P w K mg Γ (CXe P w) 14 a.Qy a.Ug ["data"] (yh4 a):=by
 exists T.Vi.F.okE,yw9,u;let⟨l,d,rfl,n,q,k⟩:=h;have O:yuf K H (.ref l) (d.map V.int) 1000000:=⟨l,rfl,n,zv _,by rcases q with rfl|rfl<;>decide,by rcases q with rfl|rfl<;>rfl⟩;exists 1,1,yg (vv (xw (xz (ug (yty T) u.m T.Oc (pac (pv 0) (pa1 (vq rfl T.I1)))))) (yc (vz rfl T.Ck T.En (pa1 yj))) y8) (yc (yq9 (λL Y=>(yc (yu (zx (ų T.Nw (yyd T) u.m rfl T.Nv T.Vh.B .nil wl (pa1 (pcT (r:=yih K) wx T.Ay (pa1 (pv 0))))) T.Ak T.Ni.m (yva T) u.m T.Ni.B .nil ţ)))) ⟨rfl,rfl⟩ (yxz (cs:=[a.Bx,a.Ai,a.A4,a.Ac,a.El,a.Jf]) (λL x=>wa (jw (w9 rfl T.Oj) (jw (w9 rfl T.G9) (jw (w9 rfl T.Ga) (jw (w9 rfl T.Ht) (jw (w9 rfl T.O0) (jw (w9 rfl T.Vt) za (jq rfl)) (jq rfl)) (jq rfl)) (jq rfl)) (jq rfl)) (jq rfl))) (λσ H Q h=>⟨by show 6<=sizeLine;decide,h⟩) (yrf rfl yh5))));exists .ref l,"list",1000000,rfl,.lst n,.inr ⟨_,O,λU z=>?_⟩;ext;refine yy5 ?_;ext;exists l,_,rfl,.inl (SqL.of (z _ _ n)),λv hdl0=>?_;exists hdl0,H2,S2,hdl2;ext;intro r i f g N;have t:yv H2 (upd (upd H2 i (.own r)) r (.ins a.Aa i [])):=λb o e=>by rw[yq (yb e f),yq (yb e g)];exact e
 exists r,i,v,d,rfl,ya,t _ _ hdl2,λW C J=>⟨rfl,?_⟩;have G:=C.me;have c:=z.trans S2;ext;exists r,i,v,d,rfl,C,q,λX I=>?_;refine yyk (λD y=>?_) λp S=>ve8 (k _ λb o e=>ym (yb (I _ _ (J _ _ (t _ _ (c _ _ e)) (yb (c _ _ e) f)) (yb (c _ _ e) f)) S) (I _ _ (J _ _ (t _ _ (c _ _ e)) (yb (c _ _ e) f)) (yb (c _ _ e) f)));simp only[bw,List.not_mem_nil,or_false]at y;rcases y with rfl|rfl|rfl|rfl|rfl|rfl
 .exact T.Gy
 .exact T.Ee
 .exact T.Ef
 .exact T.Fd
 .exact T.Fn
 .exact T.Gz
noncomputable def hxS:Str:=Str.ofString "0123456789abcdef"
def hxC(i:Nat):Nat:=hxS.cps.toList.getD i 0
def yn8:hxS.length=16:=by right
def vb7:∀i:Fin 16,hxS.cps[i.val]?=some (hxC i.val):=by right
def hx2(s:Int):Str:=⟨#[hxC (s/16).toNat,hxC (s%16).toNat]⟩
def hxV:V->V
 | .int s=>.str (hx2 s)
 |v=>v
def uq(ts:Ο):Str:=Str.join ⟨#[]⟩ (ts.map hx2)
theorem Ë:∀ts:Ο,(uq ts).cps.toList=ts.flatMap λs=>[hxC (s/16).toNat,hxC (s%16).toNat]
 |[]=>rfl
 |[s]=>rfl
 |s::t::r=>by
  show (hx2 s++⟨#[]⟩++uq (t::r)).cps.toList=_;rw[Str.cps_append,Str.cps_append,Array.toList_append,Array.toList_append,Ë (t::r)];rfl
def z8(ts:Ο):(uq ts).length=2*ts.length:=by
 rw[u8,Ë]
 induction ts with
 |nil=>rfl
 |cons s r ih=>rw[List.flatMap_cons,bf,ih,bp];show 2+_=2*(r.length+1);omega
def yzq(ts:Ο):((ts.map hx2).map λx:Str=>x.length).sum=2*ts.length:=by
 induction ts with
 |nil=>rfl
 |cons t r ih=>rw[bR,bR,List.sum_cons,ih,bp];show 2+_=2*(r.length+1);omega
#synth yvr ["signs"] vct
inductive yw4(K:z3)(vs:Τ)(H:Hp)(Q:VK)(E':XK):Prop
 |mk(l:z4)(ts:Ο)(_:vs=[.ref l])(_:SqL K H l (ts.map V.int))(_:Byt ts)(_:ts.length<=100000)(_:∀H',yv H H'->Q (.str (uq ts)) H')
def yjw(T:Txt K mg a):vn P w K mg Γ CX0 1 a.Qz a.Uh ["signs"] (yw4 K):=by
 exists T.Jw.F.ok,yvr,z;let⟨l,d,rfl,g,p,r,k⟩:=h;exists 1,0,yc (yu (uy PySem.F.plainAttrs_str PySem.F.slot_str_join PySem.F.type_str_join Ū yj (pa1 (we (js:=[]) (ys:=[]) rfl (ww (pv 0)) (λC q v t=>(yn ye (u6 (ja rfl T.Av) (yn wk (pv 0) yf) (λZ Z=>rfl)) (u6 (ja rfl T.Av) (yn u9 (pv 0) yf) (λZ Z=>rfl)))) rfl rfl (hyc:=ve) (hrel:=ve)))));exists rfl,?_;ext;exists l,rfl,⟨_,g⟩,λD m=>?_;refine τ hxV g m (λi y G j S b=>?_) (λG S b=>?_)
 .obtain⟨c,rfl,f,_,_⟩:=ξ j;let⟨x,u⟩:=p c f;ext;exists hxS,c/16,_,rfl,rfl,(),(),by rw[yn8];omega,vb7 ⟨(c/16).toNat,()⟩,?_
  ext;exists hxS,c%16,_,rfl,rfl,(),(),by rw[yn8];omega,vb7 ⟨(c%16).toNat,()⟩,?_
  exists _,_,rfl,rfl,by show 1+1<=_;decide,?_
  exact Mp.done m (vk (by rw[bc];omega)) j S b rfl
 .ext;have b:G D=some (.lst ((d.map hx2).map V.str)):=by rw[b,cb,cb];rfl
  exists⟨#[]⟩,D,d.map hx2,rfl,rfl,SqL.of b,?_,k G S;rw[yzq];show 2*d.length+_*0<=_;omega
noncomputable def nib(ts:Ο):qi Nat:=ts.flatMap λs=>[(s/16).toNat,(s%16).toNat]
def ycp(ts:Ο):(uq ts).cps.toList=(nib ts).map hxC:=by rw[Ë];unfold nib;rw[List.map_flatMap];rfl
def ypu(h:Byt ts):∀k,k∈nib ts->k<16:=λk a=>by
 let⟨s,b,a⟩:=List.mem_flatMap.mp a;let⟨d,c⟩:=h s b;rcases bw.mp a with rfl|a
 .omega
 .rw[bA.mp a];omega
def yr9(ts:Ο):(nib ts).length=2*ts.length:=by
 induction ts with
 |nil=>rfl
 |cons s r ih =>
  unfold nib at ih⊢;rw[List.flatMap_cons,bf,ih,bp];show 2+_=2*(r.length+1);omega
theorem ypi:∀{ts:Ο}{i:Nat}{s:Int},ts[i]?=some s->(nib ts)[2*i]?=some (s/16).toNat/\(nib ts)[2*i+1]?=some (s%16).toNat
 |t::r,0,s,h=>by
  cases h;exists rfl,rfl
 |t::r,i+1,s,h=>ypi (ts:=r) (i:=i) h
def ypf:∀k:Fin 16,Builtin.Str.occurrences hxS ⟨#[hxC k.val]⟩ 0 hxS.length 1=[k.val]:=by right
@[irreducible] def yka(c:Nat):Bool:=!(Builtin.Str.occurrences hxS ⟨#[c]⟩ 0 hxS.length 1).isEmpty
def yx2{k:Nat}(h:k<16):yka (hxC k)=true:=by unfold yka;rw[ypf ⟨k,h⟩];rfl
noncomputable def Ú(t:Str):Bool:=decide ((t.length:Int)%2=1) || !(t.cps.toList.all yka)
def ysz(x:Str):(List.range x.cps.size).map (λi=>V.bl (yka (x.cps.toList.getD i 0)))=(x.cps.toList.map yka).map V.bl:=by
 rw[cb];refine List.ext_getElem? λi=>?_;rw[bq,bq];by_cases hi:i<x.cps.size
 .rw[cy hi,bg (by rw[cj];exact hi),cI,cI,bV,bg (by rw[cj];exact hi),Option.getD_some,Function.comp_apply]
 .rw[bK (by rw[bP];omega),bK (by rw[cj];omega),Option.map_none,Option.map_none]
def ytu(h:Byt ts):Ú (uq ts)=false:=by unfold Ú;rw[z8,be (),Bool.false_or,ycp,List.all_map,Bool.not_eq_false',List.all_eq_true];exact λk a=>yx2 (ypu h k a)
inductive Hx(H:Hp)(Q:VK)(E:Prop):Str->Prop
 |bad (t:Str) (h:Ú t=true) (k:E):Hx H Q E t
 |good (ts:Ο) (hb:Byt ts) (k:∀l H',H l=none->H' l=some (.lst (ts.map V.int))->yv H H'->Q (.ref l) H'):Hx H Q E (uq ts)
#synth yov ["word","worths"] ["word"] vba
inductive ymr(a:Ads)(vs:Τ)(H:Hp)(Q:VK)(E:XK):Prop
 |mk(t:Str)(_:vs=[.str t])(_:t.length<=80000)(_:Hx H Q (∀H',yv H H'->E (.ref a.A3) none H') t)
def yjq(T:Txt K mg a):vn P w K mg Γ (CXe P w) 1 a.R8 a.Ui ["word"] (ymr a):=by
 exists T.Jx.F.okE,yov,hr;let⟨t,rfl,hz,h⟩:=h;refine yh (vv (PW.pt (ð (yx xk (yn u9 (pcB zd T.Af (pa1 (pv 0))) yf) yf (y9 _)) (Ö (xw (xz (pcB (z9 rfl) T.Gf (pa1 (we (js:=[]) (ys:=[]) rfl (yes (pv 0)) (λC Y U fp=>(uu yax (pv 0) (ja rfl T.Av) (by with_unfolding_all rfl))) rfl rfl (hyc:=ve) (hrel:=ve))))))))) (yc (vz rfl T.Ax T.Bg (pa1 yj))) y8) ?_;refine yh (y7 (i:=1) yov.nd rfl (Or.inr rfl) (we (js:=[]) (ys:=[]) rfl (yes (pv 0)) (λC Y U fp=>(ypt (K:=K) (r:=(ycs)) rfl PySem.F.plainAttrs_str PySem.F.slot_str_index PySem.F.type_str_index yar (ja rfl T.Av) (pa1 (pv 0)))) rfl rfl (hyc:=ve) (hrel:=ve))) ?_;exists _,(yc (yu (we (js:=[1]) (ys:=["worths"]) rfl (yh6 rfl T.B9 (pac yf (pac (pcB yw T.Af (pa1 (pv 1))) (pa1 yf)))) (λC Y U fp=>(yn wc (yn xf yf (xg (r:=vec K) vy (pv 1) (pv 0) (λF F=>rfl))) (xg (r:=vec K) vy (pv 1) (yn wc (pv 0) yf) (λF F=>rfl)))) rfl rfl (hyc:=(all_cons rfl ve)) (hrel:=(all_cons rfl ve))))),?_;exists 1,1;refine yp8 λF F F F F F=>?_;refine vh3 (Ú t) (λQb d=>?_) (λm H1 x=>?_) (λm H1 x=>?_)
 .ext;exists _,rfl,wt (),?_;ext;by_cases ho:(t.length:Int)%2=1
  .rw[bi ho];refine zt ?_;have e:Ú t=true:=by unfold Ú;rw[bi ho];rfl
   rw[e]at d;exact d _ (yv.refl _)
  rw[be ho];refine xh ?_;have e:Ú t=!((t.cps.toList.map yka).all id):=by unfold Ú;rw[be ho,Bool.false_or,List.all_map];rfl
  rw[e]at d;ext;exists t,rfl,λD R=>?_;refine Å (λi=>.bl (yka (t.cps.toList.getD i 0))) R (λi c G y f S L=>?_) (λG S L=>?_)
  .ext;exists _,_,rfl,rfl,?_;refine Mp.doneR R (vk (by show t.length<=_;omega)) f S L ?_;rw[show t.cps.toList.getD i 0=c by rw[bV,Array.getElem?_toList,y];rfl];unfold yka;rfl
  ext;exists D,t.cps.toList.map yka,rfl,SqL.of (L.trans (by rw[ysz])),?_
  cases hy:(t.cps.toList.map yka).all id with
  |true=>rw[hy]at d;walk_at "rd";exact d _ S
  |false=>rw[hy]at d;walk_at "rd";exact d _ S
 .cases h with
  |good ts hbt k=>rw[ytu hbt]at m;cases m
  |bad t h k =>
   ext;exists by walk_at "len",k _ x
 cases h with
 |bad t h k=>rw[h]at m;cases m
 |good ts hbt k =>
 have W:=z8 ts;have M:=yr9 ts
 have J:(uq ts).cps.size=(nib ts).length:=by
  have e:=congrArg List.length (ycp ts);rw[bc,cj]at e;exact e
 have I:∀{i c:Nat},(uq ts).cps[i]?=some c->∃k,(nib ts)[i]?=some k/\k<16/\c=hxC k:=λ{i c}e=>by
  rw[<- Array.getElem?_toList,ycp,bq]at e;let⟨k,q,rfl⟩:=Option.map_eq_some_iff.mp e;exists k,q,ypu hbt k (bB q),rfl
 ext;exists _,rfl,λD2 o=>?_;refine Å (λi=>.int (((nib ts).getD i 0:Nat):Int)) o (λi c O y f p b=>?_) (λO p b=>?_)
 .obtain⟨k,q,B,rfl⟩:=I y;ext;exists rfl,?_;ext;exists hxS,_,k,[],rfl,rfl,ypf ⟨k,B⟩,?_;refine Mp.doneR o (vk (by show (uq ts).length<=_;omega)) f p b ?_;rw[bV,q];rfl
 rw[J]at b
 have Z:O D2=some (.lst ((nib ts).map λk=>V.int ((k:Nat):Int))):=by
  rw[b]
  congr 2
  refine List.ext_getElem? λi=>?_;rw[bq,bq];rcases Nat.lt_or_ge i (nib ts).length with z|z
  .rw[cy z,bg z];show some (V.int (((nib ts).getD i 0:Nat):Int))=_;rw[bV,bg z];rfl
  .rw[bK (by rw[bP];exact z),bK z];rfl
 ext;exists D2,_,rfl,.inl (SqL.of Z),?_;rw[bc,M];ext;refine⟨0,((2*ts.length:Nat):Int),2,rfl,(),λD3 j=>?_⟩;rw[show rgN 0 ((2*ts.length:Nat):Int) 2=ts.length by unfold rgN;split<;>omega];refine Ś (λi=>.int (ts.getD i 0)) j (λi X f u g=>?_) (λX u g=>?_)
 .have n:=bg f;let⟨n1,n2⟩:=ypi n;let⟨b0,b1⟩:=hbt _ (cu f);have l:=u _ _ Z;ext;rw[show (0:Int)+(i:Int)*2=((2*i:Nat):Int) by omega];refine xo (v:=.int ((ts[i]/16).toNat:Nat)) (SqL.of l) (vi (by rw[bq,n1];rfl)) ?_;ext;rw[show ((2*i:Nat):Int)+1=((2*i+1:Nat):Int) by omega];refine xo (v:=.int ((ts[i]%16).toNat:Nat)) (SqL.of l) (vi (by rw[bq,n2];rfl)) ?_;ext;refine Mp.doneR j (vk ()) f u g ?_;rw[bV,n];show V.int _=V.int ts[i]
  congr 1
  omega
 refine k D3 X (x.free (p.free j)) ?_ (x.trans (p.trans u));rw[g]
 congr 2
 refine List.ext_getElem? λi=>?_;rw[bq,bq];rcases Nat.lt_or_ge i ts.length with z|z
 .rw[cy z,bg z];show some (V.int (ts.getD i 0))=_;rw[bV,bg z];rfl
 .rw[bK (by rw[bP];exact z),bK z];rfl
#synth yqs ["base"] yns
def yk0:Sp:=λZ Z Z Z=>False
def yij(T:Txt K mg a):vn P w K mg Γ CX0 1 a.La a.Lr ["base"] yk0:=by refine T.Jk.F.ok yqs (λd H Q E h=>h.elim) (λc A b s H d Q E e h=>h.elim)
noncomputable def DX(Z:Sx)(dk:z4):Sx:=⟨λy=>Z.w y\/y=dk,λy=>Z.f y\/y=dk⟩
inductive Dk(K:z3)(a:Ads)(H:Hp)(dk:z4)(C:Cf)(P:qi Pd)(X:Sx):Prop
 |mk(dd st:z4)(Z:Sx)(me:H dk=some (.ins a.An dd (Ó (.ref st))))(s:Sto K a H st C P Z)(n:¬Z.f dk)(x:X=DX Z dk)
section
variable{H H':Hp}{dk:z4}{C:Cf}{P P':qi Pd}{X Y Z Z':Sx}
theorem Dk.same(h:Dk K a H dk C P X)(S:yv H H'):Dk K a H' dk C P X:=by let⟨b,c,Z,d,s,n,rfl⟩:=h;exists b,c,Z,S _ _ d,s.same S,n,rfl
theorem Dk.wf(h:Dk K a H dk C P X):∀y,X.w y->X.f y:=by
 let⟨b,c,Z,d,s,n,rfl⟩:=h;rintro y (w|rfl)
 .exact .inl (s.wf y w)
 .exact .inr rfl
def DX.gx{o:HO}(g:Gx Z H H' Z')(e:H dk=some o):Gx (DX Z dk) H H' (DX Z' dk):=by exists⟨λc o e n=>g.g.fr _ _ e λw=>n (.inl w),λc w=>w.elim (λw=>(g.g.nw c w).imp .inl id) λw=>.inl (.inr w),g.g.lv⟩,λc w=>w.elim (λw=>(g.f c w).imp .inl id) λw=>.inl (.inr w)
def Dk.of{dd:z4}(me:H dk=some (.ins a.An dd (Ó (.ref st))))(s:Sto K a H st C P Z)(n:¬Z.f dk)(s':Sto K a H' st C P' Z')(g:Gx Z H H' Z'):Dk K a H' dk C P' (DX Z' dk)/\Gx (DX Z dk) H H' (DX Z' dk) :=
 ⟨⟨dd,st,Z',g.g.fr _ _ me λw=>n (s.wf _ w),s',(λw=>(g.f dk w).elim n λe=>by rw[me]at e;cases e),rfl⟩,DX.gx g me⟩
end
inductive DkI(K:z3)(a:Ads)(H:Hp)(dk:z4)(Q:VK)(E:XK):V->V->Prop
 |good (l:z4) (mo w n:Nat) (lk tp:Λ) (kd:Ν) (ps:Κ) (hl:H l=some (.lst (refs lk n))) (n1:1<=n) (n6:n<=6) (hlk:xx H n lk kd tp ps) (hmo:mo<=1000) (hw1:w<=mo) (hw2:w<=200)
  (k:∀X H',Dk K a H' dk ⟨n,kd,ps,mo,w⟩ [] X->But dk H H'->(∀y,X.f y->y=dk\/H y=none)->Q .non H'):DkI K a H dk Q E (.ref l) (.int mo)
 |looks (x m:V) (h:yt8 K H x) (k:∀H',yv H H'->E (.ref a.Bx) none H'):DkI K a H dk Q E x m
 |most (l:z4) (n:Nat) (lk tp:Λ) (kd:Ν) (ps:Κ) (m:V) (nt:String) (hl:H l=some (.lst (refs lk n))) (n1:1<=n) (n6:n<=6) (hlk:xx H n lk kd tp ps) (ty:xu K H m (.type nt)) (hm:yj4 m=false) (k:∀H',yv H H'->E (.ref a.Ai) none H'):DkI K a H dk Q E (.ref l) m
#synth ysg ["self","looks","most"] ypj
inductive ygp(K:z3)(a:Ads)(vs:Τ)(H:Hp)(Q:VK)(E:XK):Prop
 |mk(dk dd:z4)(x m:V)(_:vs=[.ref dk,x,m])(_:H dk=some (.ins a.An dd []))(_:DkI K a H dk Q E x m)
def yid(T:Txt K mg a):vn P w K mg Γ (CXe P w) 12 a.Jd a.Hk ["self","looks","most"] (ygp K a):=by
 exists T.Vo.okE,ysg,L;let⟨u,C,x,m,rfl,i,h⟩:=h;exists 3,0,yc (vh (pv 0) (uh T.Jz (ynv T) L.m rfl T.Jy T.Vc .nil yt (pac (pv 1) (pa1 (pv 2)))) rfl);intro g p c d N;have r:yv H (upd (upd H p (.own g)) g (.ins a.A0 p [])):=λb o e=>by rw[yq (yb e c),yq (yb e d)];exact e
 have G:∀{j},But g (upd (upd H p (.own g)) g (.ins a.A0 p [])) j->yv H j:=λb y o e=>b _ _ (r _ _ e) (yb e c)
 cases h with
 |looks x m h k=>exists g,p,x,m,rfl,ya,.looks x m (h.same r) λj S=>k j (r.trans S)
 |most l n lk tp kd ps m nt hl n1 n6 hlk ty hm k=>exists g,p,.ref l,m,rfl,ya,.most l n lk tp kd ps m nt (r _ _ hl) n1 n6 (hlk.same r) (λj b=>jz (G b) ty) hm λj b=>k j (G b)
 |good l mo w n lk tp kd ps hl n1 n6 hR m1 wm w2 k =>
 refine Sto.new (mo:=mo) (w:=w) c d hl n1 n6 hR m1 wm w2 λX O v D q=>⟨rfl,?_⟩;have t:=D _ _ i;have F:¬X.f u:=λz=>by rw[q u z]at i;cases i
 ext;exact k (DX X u) _ ⟨C,g,X,ya,v.but (WSh.mu t rfl) F But.upd,F,rfl⟩ (λb o e I=>ym I (D _ _ e)) λy w=>w.elim (λw=>.inr (q y w)) .inl
theorem yh8:∀{P:qi Pd},(∀q,q∈P->q.nm.length<=8)->((P.map (·.nm)).map λx:Str=>x.length).sum<=8*P.length
 |[],_=>bj _
 |q::r,h=>by
  rw[bR,bR,List.sum_cons,bp];have:=yh8 (P:=r) λq a=>h q (bH _ a);have:=h q bI;omega
#synth ysl ["self","verb"] ypz
inductive yds(K:z3)(a:Ads)(vs:Τ)(H:Hp)(Q:VK)(E:XK):Prop
 |mk(dk:z4)(C:Cf)(P:qi Pd)(X:Sx)(v:Str)(_:vs=[.ref dk,.str v])(_:Dk K a H dk C P X)(_:((v=Str.ofString "names"/\∀H',yv H H'->Q (.str (Str.join ⟨#[32]⟩ (P.map (·.nm)))) H')\/(v=Str.ofString "shelf"/\Byt (shB C P)/\(shB C P).length<=100000/\∀H',yv H H'->Q (.str (uq (shB C P))) H')\/(v≠Str.ofString "names"/\v≠Str.ofString "shelf"/\∀H',yv H H'->E (.ref a.A3) none H')))
def yqk(T:Txt K mg a):vn P w K mg Γ (CXe P w) 7 a.Lc a.Lt ["self","verb"] (yds K a):=by
 exists T.Jl.F.okE,ysl,e;let⟨p,C,P,X,v,rfl,⟨S,L,Z,N,c,n,rfl⟩,h⟩:=h;let⟨O,U,R,W,M,u⟩:=c.ins;exists _,(yg (vv (yx xk (pv 1) yj (y9 _)) (yc (yu (uy PySem.F.plainAttrs_str PySem.F.slot_str_join PySem.F.type_str_join Ū yj (pa1 (wb (yr (pv 0) rfl) T.A2 T.Dr.m (yen T) e.m T.Dr.B .nil wl))))) y8) (yg (vv (yx xk (pv 1) yj (y9 _)) (yc (yu (ug (yjw T) e.m T.Jw (pa1 (ug (yzn T) e.m T.Vg (pa1 (yr (pv 0) rfl))))))) y8) (yc (vz rfl T.Ax T.Bg (pa1 yj))))),?_;exists 2,0;rcases h with⟨rfl,k⟩|⟨rfl,t,j,k⟩|⟨D,J,k⟩
 .ext;exists rfl,_,rfl,?_;rw[bi rfl];refine zt ?_;ext;exists rfl,?_;ext;refine c.names λl y d b f=>?_;exists⟨#[32]⟩,l,P.map (·.nm),rfl,rfl,SqL.of (by rw[b,cb];rfl),?_,k _ f;have j:=c.z;have i:=yh8 λq G=>xi (c.nm q G).1;rw[bc];show _+P.length*1<=_;omega
 .ext;exists rfl,_,rfl,?_;rw[be ∅];refine xh ?_;ext;exists rfl,_,rfl,?_;rw[bi rfl];refine zt ?_;ext;exists L,C,P,Z,rfl,c,λl y d b f=>?_;ext;exists l,_,rfl,SqL.of b,t,j,λx o=>k x (f.trans o)
 .ext;exists rfl,_,rfl,?_;rw[be (λz=>D (by cases z;rfl))];refine xh ?_;ext;exists rfl,_,rfl,?_;rw[be (λz=>J (by cases z;rfl))];refine xh ?_;ext;exists by walk_at "len",k _ (yv.refl _)
#synth yrs ["self","name"] yoc
inductive yhw(K:z3)(a:Ads)(vs:Τ)(H:Hp)(E':VK)(E:XK):Prop
 |mk(dk:z4)(C:Cf)(P:qi Pd)(X:Sx)(b:Str)(cc:z4)(_:vs=[.ref dk,.str b])(_:Dk K a H dk C P X)(_:b.length<=8000)(_:Np a P b cc)(_:∀H',yv H H'->E (.ref cc) none H')
def yrp(T:Txt K mg a):vn P w K mg Γ (CXe P w) 15 a.Lf a.Lx ["self","name"] (yhw K a):=by exists T.Jn.F.okE,yrs,c;let⟨o,C,P,X,b,x,rfl,⟨N,U,Z,r,f,n,rfl⟩,I,y,k⟩:=h;let⟨J,R,M,S,G,e⟩:=f.ins;exists 2,0,yc (yu (yic (yvu T) c.m rfl T.Ws T.V0.kp T.Wr .nil wl (pac (wb (yr (pv 0) rfl) T.A2 T.Iq.m (yny T) c.m T.Iq.B .nil wl) (pac (yz (yr (pv 0) rfl) T.A2 T.Iu.m (ynz T) c.m T.Iu.B .nil yt (pa1 (pv 1))) (pa1 (yz (yr (pv 0) rfl) T.A2 T.N9.m (yxu T) c.m T.N9.B .nil yt (pa1 (pv 1))))))));refine f.tlooks λl O W L q v t d=>?_;have i:=d _ _ e;have z:=d _ _ r;ext;exact(f.same d).textE () y λu j=>k u (d.trans j)
inductive SW(K:z3)(a:Ads)(H:Hp)(dk:z4)(C:Cf)(P:qi Pd)(X:Sx)(Q:VK)(E:XK)(b:Str):Str->Prop
 |no (v:Str) (cc:z4) (hv:v=Str.ofString "get"\/v=Str.ofString "bytes"\/v=Str.ofString "base"\/v=Str.ofString "cost"\/v=Str.ofString "drop") (np:Np a P b cc) (k:∀H',yv H H'->E (.ref cc) none H'):SW K a H dk C P X Q E b v
 |get (r:Pd) (hb:nmS b=true) (hr':r∈P) (e:r.nm=b) (k:∀Y H',Dk K a H' dk C P Y->Gx X H H' Y->Q (.str (uq r.tx)) H'):SW K a H dk C P X Q E b (Str.ofString "get")
 |use (r q:Pd) (hb:nmS b=true) (hr':r∈P) (e:r.nm=b) (hq:q∈P) (e2:q.bs=some b) (k:∀H',yv H H'->E (.ref a.Ae) none H'):SW K a H dk C P X Q E b (Str.ofString "drop")
 |drop (r:Pd) (hb:nmS b=true) (hr':r∈P) (e:r.nm=b) (no:∀q,q∈P->q.bs≠some b) (k:∀Y H',Dk K a H' dk C (P.filter λq=>decide (q.nm≠b)) Y->Gx X H H' Y->Q (.str (Str.ofString "ok")) H'):SW K a H dk C P X Q E b (Str.ofString "drop")
 |best (ts:Ο) (e:b=uq ts) (hs:Sgs ts) (hl:C.mo<ts.length) (kX:1000<ts.length->∀H',yv H H'->E (.ref a.Au) none H') (kL:ts.length<=1000->∀H',yv H H'->E (.ref a.A8) none H'):SW K a H dk C P X Q E b (Str.ofString "best")
 |opn (ts:Ο) (e:b=uq ts) (hd:ts=[]\/ts=[0]) (k:∀H',yv H H'->E (.ref a.A5) none H'):SW K a H dk C P X Q E b (Str.ofString "open")
 |hex (v:Str) (hv:v=Str.ofString "best"\/v=Str.ofString "open") (h:Ú b=true) (k:∀H',yv H H'->E (.ref a.A3) none H'):SW K a H dk C P X Q E b v
 |word (v:Str) (hv:v∉[Str.ofString "get",Str.ofString "bytes",Str.ofString "base",Str.ofString "cost",Str.ofString "drop",Str.ofString "best",Str.ofString "open"]) (k:∀H',yv H H'->E (.ref a.A3) none H'):SW K a H dk C P X Q E b v
#synth ysx ["self","verb","word"] yn4
inductive yib(K:z3)(a:Ads)(vs:Τ)(H:Hp)(Q:VK)(E:XK):Prop
 |mk(dk:z4)(C:Cf)(P:qi Pd)(X:Sx)(v b:Str)(_:vs=[.ref dk,.str v,.str b])(_:Dk K a H dk C P X)(_:b.length<=8000)(_:SW K a H dk C P X Q E b v)
def ytx(T:Txt K mg a):vn P w K mg Γ (CXe P w) 16 a.Ld a.Lu ["self","verb","word"] (yib K a):=by
 exists T.Jm.F.okE,ysx,d;let⟨N,C,P,X,v,b,rfl,⟨dd,S,Z,G,c,n,rfl⟩,L,h⟩:=h;let⟨ds,vl,vm,vp,vc,W⟩:=c.ins;have a1:=c.cf;refine yh (vv (yx xk (pv 1) yj (y9 _)) (yc (yu (ug (yjw T) d.m T.Jw (pa1 (yz (yr (pv 0) rfl) T.A2 T.Iu.m (ynz T) d.m T.Iu.B .nil yt (pa1 (pv 2))))))) y8) ?_;refine yh (vv (yx xk (pv 1) yj (y9 _)) (yc (yu (ug (yjw T) d.m T.Jw (pa1 (yz (yr (pv 0) rfl) T.A2 T.Iv.m (yp2 T) d.m T.Iv.B .nil yt (pa1 (pv 2))))))) y8) ?_;refine yh (vv (yx xk (pv 1) yj (y9 _)) (yc (yu (ug (yij T) d.m T.Jk (pa1 (yz (yr (pv 0) rfl) T.A2 T.Iw.m (yng T) d.m T.Iw.B .nil yt (pa1 (pv 2))))))) y8) ?_;refine yh (vv (yx xk (pv 1) yj (y9 _)) (yc (yu (pcT yak T.K6 (pa1 (yz (pv 0) T.Aj T.Jn.m (yrp T) d.m T.Jn.B .nil yt (pa1 (pv 2))))))) y8) ?_;refine yh (vv (yx xk (pv 1) yj (y9 _)) (yg (y6 (yz (yr (pv 0) rfl) T.A2 T.Na.m (yzd T) d.m T.Na.B .nil yt (pa1 (pv 2)))) (yc (yu (ja rfl T.Jr)))) y8) ?_;refine yh (vv (yx xk (pv 1) yj (y9 _)) (yc (yu (ug (yij T) d.m T.Jk (pa1 (yz (yr (pv 0) rfl) T.A2 T.Nd.m (yw6 T) d.m T.Nd.B .nil yt (pa1 (uf (yjq T) d.m T.Jx yt (pa1 (pv 2))))))))) y8) ?_;refine yh (vv (yx xk (pv 1) yj (y9 _)) (yg (vh (pv 0) (uf (yvn T) d.m T.Vi yt (pa1 (uf (yjq T) d.m T.Jx yt (pa1 (pv 2))))) rfl) (yc (yu (ja rfl T.Jr)))) y8) ?_;exists _,(yc (vz rfl T.Ax T.Bg (pa1 yj))),?_;exists 3,0
 cases h with
 |get r hb hr' e k =>
  ext;exists rfl,_,rfl,?_;rw[bi rfl];refine zt ?_;ext;refine c.textof hb (λno=>absurd e (no r hr')) λO u e2 Y q I j g1 a0 hq=>?_;obtain rfl:=ybf c.nd u hr' (e2.trans e.symm);let⟨D,J⟩:=Dk.of G c n j g1;have hz:=c.sz O hr';ext;exists q,O.tx,rfl,SqL.of hq.1,hz.1,(),λg f=>k _ g (D.same f) (J.same f)
 |no v cc hv np k =>
  rcases hv with rfl|rfl|rfl|rfl|rfl
  .ext;exists rfl,_,rfl,?_;rw[bi rfl];refine zt ?_;ext;exact c.textE () np k
  .ext;exists rfl,_,rfl,?_;rw[be ∅];refine xh ?_;ext;exists rfl,_,rfl,?_;rw[bi rfl];refine zt ?_;ext;exact c.bytesE () np k
  .ext;exists rfl,_,rfl,?_;rw[be ∅];refine xh ?_;ext;exists rfl,_,rfl,?_;rw[be ∅];refine xh ?_;ext;exists rfl,_,rfl,?_;rw[bi rfl];refine zt ?_;ext;exact c.baseE () np k
  .ext;exists rfl,_,rfl,?_;rw[be ∅];refine xh ?_;ext;exists rfl,_,rfl,?_;rw[be ∅];refine xh ?_;ext;exists rfl,_,rfl,?_;rw[be ∅];refine xh ?_;ext;exists rfl,_,rfl,?_;rw[bi rfl];refine zt ?_;ext;exists N,C,P,_,b,cc,rfl,⟨dd,S,Z,G,c,n,rfl⟩,L,np,k
  .ext;exists rfl,_,rfl,?_;rw[be ∅];refine xh ?_;ext;exists rfl,_,rfl,?_;rw[be ∅];refine xh ?_;ext;exists rfl,_,rfl,?_;rw[be ∅];refine xh ?_;ext;exists rfl,_,rfl,?_;rw[be ∅];refine xh ?_;ext;exists rfl,_,rfl,?_;rw[bi rfl];refine zt ?_;ext;exact c.dropE () np k
 |use r q hb hr' e hq e2 k =>
  ext;exists rfl,_,rfl,?_;rw[be ∅];refine xh ?_;ext;exists rfl,_,rfl,?_;rw[be ∅];refine xh ?_;ext;exists rfl,_,rfl,?_;rw[be ∅];refine xh ?_;ext;exists rfl,_,rfl,?_;rw[be ∅];refine xh ?_;ext;exists rfl,_,rfl,?_;rw[bi rfl];refine zt ?_;ext;exact c.drop hb (λno=>absurd e (no r hr')) (λF F F F=>k) λF F F no=>absurd e2 (no q hq)
 |drop r hb hr' e no k =>
  ext;exists rfl,_,rfl,?_;rw[be ∅];refine xh ?_;ext;exists rfl,_,rfl,?_;rw[be ∅];refine xh ?_;ext;exists rfl,_,rfl,?_;rw[be ∅];refine xh ?_;ext;exists rfl,_,rfl,?_;rw[be ∅];refine xh ?_;ext;exists rfl,_,rfl,?_;rw[bi rfl];refine zt ?_;ext;refine c.drop hb (λno=>absurd e (no r hr')) (λF F F ⟨q,hq,e2⟩=>absurd e2 (no q hq)) λF F F F Y I j g1=>?_;let⟨D,J⟩:=Dk.of G c n j g1;ext;exact k _ _ D J
 |best ts e hs hl kX kL =>
  subst e;have R:=z8 ts;ext;exists rfl,_,rfl,?_;rw[be ∅];refine xh ?_;ext;exists rfl,_,rfl,?_;rw[be ∅];refine xh ?_;ext;exists rfl,_,rfl,?_;rw[be ∅];refine xh ?_;ext;exists rfl,_,rfl,?_;rw[be ∅];refine xh ?_;ext;exists rfl,_,rfl,?_;rw[be ∅];refine xh ?_;ext;exists rfl,_,rfl,?_;rw[bi rfl];refine zt ?_;ext;exists _,rfl,(),.good ts hs λl I y i t=>?_
  ext;exists S,C,P,Z,l,ts,rfl,c.same t,i,hs,(),hl,(λz g f=>kX z g (t.trans f)),λz g f=>kL z g (t.trans f)
 |opn ts e hd k =>
  subst e;ext;exists rfl,_,rfl,?_;rw[be ∅];refine xh ?_;ext;exists rfl,_,rfl,?_;rw[be ∅];refine xh ?_;ext;exists rfl,_,rfl,?_;rw[be ∅];refine xh ?_;ext;exists rfl,_,rfl,?_;rw[be ∅];refine xh ?_;ext;exists rfl,_,rfl,?_;rw[be ∅];refine xh ?_;ext;exists rfl,_,rfl,?_;rw[be ∅];refine xh ?_;ext;exists rfl,_,rfl,?_;rw[bi rfl];refine zt ?_;ext;exists _,rfl,(),.good ts (hd.elim (λe x p=>by rw[e]at p;cases p) λe x p=>by rw[e]at p;rw[bA.mp p];decide) λl I y i t=>?_
  ext;exists l,ts,rfl,i,hd,λg f=>k g (t.trans f)
 |hex v hv h k =>
  rcases hv with rfl|rfl
  .ext;exists rfl,_,rfl,?_;rw[be ∅];refine xh ?_;ext;exists rfl,_,rfl,?_;rw[be ∅];refine xh ?_;ext;exists rfl,_,rfl,?_;rw[be ∅];refine xh ?_;ext;exists rfl,_,rfl,?_;rw[be ∅];refine xh ?_;ext;exists rfl,_,rfl,?_;rw[be ∅];refine xh ?_;ext;exists rfl,_,rfl,?_;rw[bi rfl];refine zt ?_;ext;exists b,rfl,(),.bad b h k
  .ext;exists rfl,_,rfl,?_;rw[be ∅];refine xh ?_;ext;exists rfl,_,rfl,?_;rw[be ∅];refine xh ?_;ext;exists rfl,_,rfl,?_;rw[be ∅];refine xh ?_;ext;exists rfl,_,rfl,?_;rw[be ∅];refine xh ?_;ext;exists rfl,_,rfl,?_;rw[be ∅];refine xh ?_;ext;exists rfl,_,rfl,?_;rw[be ∅];refine xh ?_;ext;exists rfl,_,rfl,?_;rw[bi rfl];refine zt ?_;ext;exists b,rfl,(),.bad b h k
 |word v hv k =>
  have o:∀w,w∈[Str.ofString "get",Str.ofString "bytes",Str.ofString "base",Str.ofString "cost",Str.ofString "drop",Str.ofString "best",Str.ofString "open"]->¬V.str v=V.str w:=λw hw e=>hv (by cases e;exact hw);ext;exists rfl,_,rfl,?_;rw[be (o _ (by simp))];refine xh ?_;ext;exists rfl,_,rfl,?_;rw[be (o _ (by simp))];refine xh ?_;ext;exists rfl,_,rfl,?_;rw[be (o _ (by simp))];refine xh ?_;ext;exists rfl,_,rfl,?_;rw[be (o _ (by simp))];refine xh ?_;ext;exists rfl,_,rfl,?_;rw[be (o _ (by simp))];refine xh ?_;ext;exists rfl,_,rfl,?_;rw[be (o _ (by simp))];refine xh ?_;ext;exists rfl,_,rfl,?_;rw[be (o _ (by simp))];refine xh ?_;ext;exists by walk_at "len",k _ (yv.refl _)
def LyN(a:Ads)(C:Cf)(P:qi Pd)(b:Str)(x:qj Str)(ts:Ο)(cc:z4):Prop:=(nmS b=false/\cc=a.A4)\/(nmS b=true/\((1000<ts.length/\cc=a.Au)\/(ts.length<=1000/\((∃y,x=some y/\nmS y=false/\cc=a.A4)\/((∀y,x=some y->nmS y=true)/\PyData.strOk b=true/\((C.mo<ts.length/\cc=a.A8)\/(ts.length<=C.mo/\(((∃r,r∈P/\r.nm=b)/\cc=a.Ac)\/((∀q,q∈P->q.nm≠b)/\∃y,x=some y/\(∀q,q∈P->q.nm≠y)/\cc=a.A1)))))))))
inductive LyI(K:z3)(a:Ads)(H:Hp)(dk:z4)(C:Cf)(P:qi Pd)(X:Sx)(Q:VK)(E:XK)(b:Str)(x:qj Str)(ts:Ο):Prop
 |no (cc:z4) (h:LyN a C P b x ts cc)
  (k:∀H',yv H H'->E (.ref cc) none H'):LyI K a H dk C P X Q E b x ts
 |ok (L:Η) (hb:okN b) (hx:∀y,x=some y->nmS y=true) (htl:ts.length<=C.w) (no:∀q,q∈P->q.nm≠b) (hL:ToD P x L) (k:∀Y H',Dk K a H' dk C (P++[⟨b,x,L,ts⟩]) Y->Gx X H H' Y->Q (.str (Str.ofString "ok")) H'):LyI K a H dk C P X Q E b x ts
#synth yts ["self","name","word","base"] yop
inductive yec(K:z3)(a:Ads)(vs:Τ)(H:Hp)(Q:VK)(E:XK):Prop
 |mk(dk:z4)(C:Cf)(P:qi Pd)(X:Sx)(b t:Str)(x:qj Str)(_:vs=[.ref dk,.str b,.str t,baV x])(_:Dk K a H dk C P X)(_:b.length<=8000)(_:t.length<=8000)(_:(∀y,x=some y->y.length<=8000))(_:P.length<60)(_:((Ú t=true/\∀H',yv H H'->E (.ref a.A3) none H')\/∃ts,t=uq ts/\Sgs ts/\LyI K a H dk C P X Q E b x ts))
def yi2(T:Txt K mg a):vn P w K mg Γ (CXe P w) 14 a.Le a.Lv ["self","name","word","base"] (yec K a):=by
 exists T.Fx.F.okE,yts,W;let⟨dk,C,P,X,b,t,x,rfl,⟨dd,st,Z,me,p,n,rfl⟩,a5,a0,o,Y,h⟩:=h;have a4:=p.cf;let⟨ds,vl,vm,vp,vc,a3⟩:=p.ins;exists 4,0,yg (y6 (yz (yr (pv 0) rfl) T.A2 T.Ww (yu6 T) W.m T.Wv .nil yt (pac (pv 1) (pac (uf (yjq T) W.m T.Jx yt (pa1 (pv 2))) (pa1 (pv 3)))))) (yc (yu (ja rfl T.Jr)));rcases h with⟨hb,k⟩|⟨R,rfl,i,h⟩
 .exists t,rfl,(),.bad t hb k
 have U:=z8 R;exists _,rfl,(),.good R i λl H1 a2 q D=>?_
 have f:=p.same D;ext
 cases h with
 |no cc h k =>
  have j:∀{c},cc=c->∀G,yv H1 G->E (.ref c) none G:=λe G S=>by rw[<- e];exact k G (D.trans S)
  refine f.putX () q i () (λy e=>by have:=o y e;omega) Y (λz=>?_) (λg J=>?_) (λg J y e M=>?_) (λg J M=>?_)
  .rcases h with⟨_,e⟩|⟨h,_⟩
   .exact j e
   .rw[h]at z;cases z
  .rcases h with⟨h,_⟩|⟨_,⟨_,e⟩|⟨h,_⟩⟩
   .rw[h]at g;cases g
   .exact j e
   .omega
  .rcases h with⟨h,_⟩|⟨_,⟨h,_⟩|⟨_,⟨_,_,_,e⟩|⟨h,_⟩⟩⟩
   .rw[h]at g;cases g
   .omega
   .exact j e
   .rw[h y e]at M;cases M
  .rcases h with⟨h,_⟩|⟨_,⟨h,_⟩|⟨_,⟨y,I,B,_⟩|⟨_,ok,h⟩⟩⟩
   .rw[h]at g;cases g
   .omega
   .rw[J y I]at B;cases B
   exists ok,λz=>?_,λz ⟨r,d,e⟩=>?_,λz no y e v=>?_,λz no L hL=>?_
   .rcases h with⟨_,e⟩|⟨h,_⟩
    .exact j e
    .omega
   .rcases h with⟨h,_⟩|⟨_,⟨_,e⟩|⟨h,_⟩⟩
    .omega
    .exact j e
    .exact absurd e (h r d)
   .rcases h with⟨h,_⟩|⟨_,⟨⟨r,d,e⟩,_⟩|⟨_,_,_,_,e⟩⟩
    .omega
    .exact absurd e (no r d)
    .exact j e
   .rcases h with⟨h,_⟩|⟨_,⟨⟨r,d,e⟩,_⟩|⟨_,y,e,h,_⟩⟩
    .omega
    .exact absurd e (no r d)
    .subst e;let⟨r,d,e,_⟩:=hL;exact absurd e (h r d)
 |ok L hb hx htw no hL k =>
  have hz:=p.z;refine f.putX () q i () (λy e=>by have:=o y e;omega) Y (λz=>by rw[hb.1]at z;cases z) (λF F=>by omega) (λF F y e z=>by rw[hx y e]at z;cases z) λF F F=>⟨hb.2,λz=>absurd z (),λF ⟨r,d,e⟩=>absurd e (no r d),λF F y e v=>?_,λF F L2 u=>⟨htw,?_,λZ' H2 N g2=>?_⟩⟩
  .subst e;let⟨r,d,e,_⟩:=hL;exact absurd e (v r d)
  .have:=u.len f.pw;omega
  obtain rfl:=ToD.uniq p.nd hL u;ext;let⟨I,B⟩:=Dk.of (D _ _ me) f n N g2;exact k _ _ I (B.ahead D)
inductive SyW(K:z3)(a:Ads)(H:Hp)(dk:z4)(Q:VK)(E:XK):qi Str->Prop
 |one (v:Str) (h:∀H1,yv H H1->yds K a [.ref dk,.str v] H1 Q E):SyW K a H dk Q E [v]
 |two (v b:Str) (h:∀H1,yv H H1->yib K a [.ref dk,.str v,.str b] H1 Q E):SyW K a H dk Q E [v,b]
 |put (b t:Str) (h:∀H1,yv H H1->yec K a [.ref dk,.str b,.str t,.non] H1 Q E):SyW K a H dk Q E [Str.ofString "put",b,t]
 |on (b y t:Str) (h:∀H1,yv H H1->yec K a [.ref dk,.str b,.str t,.str y] H1 Q E):SyW K a H dk Q E [Str.ofString "put",b,Str.ofString "on",y,t]
 |no3 (v b t:Str) (hv:v≠Str.ofString "put") (k:∀H',yv H H'->E (.ref a.A3) none H'):SyW K a H dk Q E [v,b,t]
 |no4 (b t y:Str) (k:∀H',yv H H'->E (.ref a.A3) none H'):SyW K a H dk Q E [Str.ofString "put",b,t,y]
inductive SyI(K:z3)(a:Ads)(H:Hp)(dk:z4)(Q:VK)(E:XK):V->Prop
 |row (ws:Ρ) (hw:∀w,w∈ws->32∉w.cps.toList) (hz:(Str.join ⟨#[32]⟩ ws).length<=100000) (h:SyW K a H dk Q E ws):SyI K a H dk Q E (.str (Str.join ⟨#[32]⟩ ws))
 |odd (v:V) (n:String) (ty:xu K H v (.type n)) (hn:n≠"str") (k:∀H',yv H H'->E (.ref a.A3) none H'):SyI K a H dk Q E v
#synth yi3 ["self","row","words"] ["self","row"] yph
inductive ĺ(K:z3)(a:Ads)(vs:Τ)(H:Hp)(Q:VK)(E:XK):Prop
 |mk(dk dd:z4)(vd v:V)(_:vs=[.ref dk,v])(_:H dk=some (.ins a.An dd (Ó vd)))(_:SyI K a H dk Q E v)
def uv(T:Txt K mg a):vn P w K mg Γ (CXe P w) 17 a.Lb a.Ls ["self","row"] (ĺ K a):=by
 exists T.Ah.F.okE,yi3,c;let⟨p,g,q,v,rfl,u,h⟩:=h;refine yh (vv (xw (xz (pcB wz T.A6 (pac (pv 1) (pa1 (ji (T:="str") rfl T.K6 (by right))))))) (yc (vz rfl T.Ax T.Bg (pa1 yj))) y8) ?_;refine yh (y7 (i:=2) yi3.nd rfl (Or.inl rfl) (uy PySem.F.plainAttrs_str PySem.F.slot_str_split PySem.F.type_str_split ymg (pv 1) (pa1 yj))) ?_;refine yh (vv (yx xk (pcB yw T.Af (pa1 (pv 2))) yf (y9 _)) (yc (yu (yz (pv 0) T.Aj T.Jl.m (yqk T) c.m T.Jl.B .nil yt (pa1 (pv 1))))) y8) ?_;refine yh (vv (yx xk (pcB yw T.Af (pa1 (pv 2))) yf (y9 _)) (yc (yu (yz (pv 0) T.Aj T.Jm.m (ytx T) c.m T.Jm.B .nil yt (pac (xg vy (pv 2) yf (λZ Z=>rfl)) (pa1 (xg vy (pv 2) yf (λZ Z=>rfl))))))) y8) ?_;refine yh (vv (PW.pt (yje (yx xk (xg vy (pv 2) yf (λZ Z=>rfl)) yj (y9 _)) (yh7 (yx xk (pcB yw T.Af (pa1 (pv 2))) yf (y9 _))))) (yc (yu (yz (pv 0) T.Aj T.Fx.m (yi2 T) c.m T.Fx.B .nil yt (pac (xg vy (pv 2) yf (λZ Z=>rfl)) (pac (xg vy (pv 2) yf (λZ Z=>rfl)) (pa1 jh)))))) y8) ?_;refine yh (vv (PW.pt (yje (yx xk (xg vy (pv 2) yf (λZ Z=>rfl)) yj (y9 _)) (yje (yx xk (pcB yw T.Af (pa1 (pv 2))) yf (y9 _)) (yh7 (yx xk (xg vy (pv 2) yf (λZ Z=>rfl)) yj (y9 _)))))) (yc (yu (yz (pv 0) T.Aj T.Fx.m (yi2 T) c.m T.Fx.B .nil yt (pac (xg vy (pv 2) yf (λZ Z=>rfl)) (pac (xg vy (pv 2) yf (λZ Z=>rfl)) (pa1 (xg vy (pv 2) yf (λZ Z=>rfl)))))))) y8) ?_;exists 2,1,yc (vz rfl T.Ax T.Bg (pa1 yj))
 cases h with
 |odd v n ty hn k =>
  refine ç ty (ũ ty) ?_;rw[be hn];ext;exists by walk_at "len",k _ (yv.refl _)
 |row ws hw hz h =>
 have e:ws≠[]:=by cases h<;>exact List.cons_ne_nil _ _
 refine ç (.str _) (ylf _ _) ?_;ext;exists rfl,?_;ext;exists _,⟨#[32]⟩,rfl,rfl,rfl,hz,λl hl0=>?_;rw[yfd e hw];exists hl0,H1,S1,hl1;have o:=S1 _ _ u
 cases h with
 |one v h =>
  ext;exists l,_,rfl,.inl (SqL.of hl1),?_;ext;rw[bi (by rfl)];refine zt ?_;ext;exact h H1 S1
 |two v b h =>
  ext;exists l,_,rfl,.inl (SqL.of hl1),?_;ext;refine yf8 (by assumption) ?_;ext;exists l,_,rfl,.inl (SqL.of hl1),?_;ext;rw[bi (by rfl)];refine zt ?_;ext;refine xo (v:=.str v) (SqL.of hl1) (vi (j:=0) rfl) ?_;ext;refine xo (v:=.str b) (SqL.of hl1) (vi (j:=1) rfl) ?_;ext;exact h H1 S1
 |put b t h =>
  ext;exists l,_,rfl,.inl (SqL.of hl1),?_;ext;refine yf8 (by assumption) ?_;ext;exists l,_,rfl,.inl (SqL.of hl1),?_;ext;refine yf8 (by assumption) ?_;ext;refine xo (v:=.str (Str.ofString "put")) (SqL.of hl1) (vi (j:=0) rfl) ?_;ext;exists rfl,_,rfl,?_;rw[bi rfl];refine zt ?_;ext;exists l,_,rfl,.inl (SqL.of hl1),?_;ext;rw[bi (by rfl)];refine zt ?_;ext;refine xo (v:=.str b) (SqL.of hl1) (vi (j:=1) rfl) ?_;ext;refine xo (v:=.str t) (SqL.of hl1) (vi (j:=2) rfl) ?_;ext;exact h H1 S1
 |on b y t h =>
  ext;exists l,_,rfl,.inl (SqL.of hl1),?_;ext;refine yf8 (by assumption) ?_;ext;exists l,_,rfl,.inl (SqL.of hl1),?_;ext;refine yf8 (by assumption) ?_;ext;refine xo (v:=.str (Str.ofString "put")) (SqL.of hl1) (vi (j:=0) rfl) ?_;ext;exists rfl,_,rfl,?_;rw[bi rfl];refine zt ?_;ext;exists l,_,rfl,.inl (SqL.of hl1),?_;ext;refine yf8 (by assumption) ?_;ext;refine xo (v:=.str (Str.ofString "put")) (SqL.of hl1) (vi (j:=0) rfl) ?_;ext;exists rfl,_,rfl,?_;rw[bi rfl];refine zt ?_;ext;exists l,_,rfl,.inl (SqL.of hl1),?_;ext;rw[bi (by rfl)];refine zt ?_;ext;refine xo (v:=.str (Str.ofString "on")) (SqL.of hl1) (vi (j:=2) rfl) ?_;ext;exists rfl,_,rfl,?_;rw[bi rfl];refine zt ?_;ext;refine xo (v:=.str b) (SqL.of hl1) (vi (j:=1) rfl) ?_;ext;refine xo (v:=.str t) (SqL.of hl1) (vi (j:=4) rfl) ?_;ext;refine xo (v:=.str y) (SqL.of hl1) (vi (j:=3) rfl) ?_;ext;exact h H1 S1
 |no3 v b t hv k =>
  ext;exists l,_,rfl,.inl (SqL.of hl1),?_;ext;refine yf8 (by assumption) ?_;ext;exists l,_,rfl,.inl (SqL.of hl1),?_;ext;refine yf8 (by assumption) ?_;ext;refine xo (v:=.str v) (SqL.of hl1) (vi (j:=0) rfl) ?_;ext;exists rfl,_,rfl,?_;rw[be (λz=>hv (by cases z;rfl))];refine xh ?_;ext;refine xo (v:=.str v) (SqL.of hl1) (vi (j:=0) rfl) ?_;ext;exists rfl,_,rfl,?_;rw[be (λz=>hv (by cases z;rfl))];refine xh ?_;ext;exists by walk_at "len",k _ S1
 |no4 b t y k =>
  ext;exists l,_,rfl,.inl (SqL.of hl1),?_;ext;refine yf8 (by assumption) ?_;ext;exists l,_,rfl,.inl (SqL.of hl1),?_;ext;refine yf8 (by assumption) ?_;ext;refine xo (v:=.str (Str.ofString "put")) (SqL.of hl1) (vi (j:=0) rfl) ?_;ext;exists rfl,_,rfl,?_;rw[bi rfl];refine zt ?_;ext;exists l,_,rfl,.inl (SqL.of hl1),?_;ext;refine yf8 (by assumption) ?_;ext;refine xo (v:=.str (Str.ofString "put")) (SqL.of hl1) (vi (j:=0) rfl) ?_;ext;exists rfl,_,rfl,?_;rw[bi rfl];refine zt ?_;ext;exists l,_,rfl,.inl (SqL.of hl1),?_;ext;refine yf8 (by assumption) ?_;ext;exists by walk_at "len",k _ S1
#synth ycy ["_law_script","_law_k","_law_cell"] ["_law_script","_law_k"] yok
inductive yz1(K:z3)(vs:Τ)(H:Hp)(Q:VK)(E':XK):Prop
 |mk(l:z4)(ns:Ο)(j:Nat)(_:vs=[.ref l,.int j])(_:SqL K H l (ns.map V.int))(_:j<=1000)(_:∀n:Int,0<=n->n<2147483647->Q (.int n) H)
def yc0(T:Txt K mg a):vn P w K mg Γ CX0 1 a.Lg a.Ly ["_law_script","_law_k"] (yz1 K):=by
 exists T.Hr.F.ok,ycy,t;let⟨l,e,j,rfl,f,p,k⟩:=h;exists 2,1,yg (y7 (i:=2) ycy.nd rfl (Or.inl rfl) yf) (yg (Ě (vv (yx ŷ (pv 1) (pcB yw T.Af (pa1 (pv 0))) (y9 _)) (yc (y7 (i:=2) ycy.nd rfl (Or.inl rfl) (yn u9 (xg vy (pv 0) (pv 1) (λZ Z=>rfl)) yf))) y8)) (yc (yu (yn u9 (yn xf (yn wc (yn wc (yn wc (yn xf (pv 2) (pv 2)) (pv 2)) (yn xf (yn xf yf (pv 1)) (pv 1))) yf) yf) yf))));refine ym2 (λσ' G=>H=G/\∃c:Int,σ'=[some (.ref l),some (.int j),some (.int c)]/\0<=c/\c<2147483629) ?_ ?_
 .ext;refine z5 f ?_;rw[bc];ext;refine jk (λn=>?_) (λn=>?_)
  .have d:j<e.length:=()
   ext;refine xo (v:=V.int e[j]) f (vi (by rw[bq,bg d];rfl)) ?_;ext;exists rfl,_,rfl,cT _ ∅,cO _ ∅
  .ext;exists rfl,0,rfl,∅,∅
 .rintro σ' G ⟨rfl,c,rfl,u,q⟩;have o:(0:Int)<=(j:Int)/\(j:Int)<=1000:=()
  have r:(0:Int)<=5*(j:Int)/\5*(j:Int)<=5000:=()
  ext;exact k _ (cT _ ∅) (cO _ ∅)
noncomputable def nmR(c:Nat)(k:Nat):Str:=⟨(List.replicate k c).toArray⟩
def ywv{c k:Nat}{z:Str}(h:z.cps.toList=(List.replicate k (⟨#[c]⟩:Str).cps.toList).flatten):z=nmR c k:=by
 have e:(List.replicate k [c]).flatten=List.replicate k c:=by
  clear h
  induction k with
  |zero=>rfl
  |succ k ih=>rw[ci,List.flatten_cons,ci,List.singleton_append,ih]
 have h:z.cps.toList=(List.replicate k [c]).flatten:=h;rw[e]at h
 cases z with|mk cps =>
 unfold nmR
 congr 1
 exact Array.toList_inj.mp (by simpa using h)
def yrh{c k:Nat}(h:97<=c/\c<123):Ŀ (nmR c k).cps.toList:=λd a=>by
 have e:d∈List.replicate k c:=a;rw[cH e];exact h
def OkL(x:Str):Prop:=okN x/\Ŀ x.cps.toList
def yn6{x:Str}(h:Ŀ x.cps.toList)(h1:1<=x.cps.toList.length)(h8:x.cps.toList.length<=8):OkL x:=⟨vce h h1 h8,h⟩
#synth jt ["_law_cell","_law_small","_law_odd","_law_stem","_law_k","_law_at"] ["_law_cell"] yot
inductive yg2(K:z3)(vs:Τ)(H:Hp)(Q:VK)(E':XK):Prop
 |mk(c:Int)(_:vs=[.int c])(_:0<=c)(_:c<2147483647)(_:∀(r:z4)(ns:Ρ)(H':Hp),H r=none->H' r=some (.lst (ns.map V.str))->yv H H'->ns.length=4->ns.Nodup->(∀x,x∈ns->OkL x)->Q (.ref r) H')
def yqv(T:Txt K mg a):vn P w K mg Γ CX0 1 a.Lh a.Lz ["_law_cell"] (yg2 K):=by
 exists T.Nk.F.ok,jt,hr;let⟨c,rfl,c0,X,k⟩:=h;refine yh (y7 (i:=1) jt.nd rfl (Or.inr rfl) yj) ?_;refine yh (y7 (i:=2) jt.nd rfl (Or.inr rfl) (yn u9 (pv 0) yf)) ?_;refine yh (y7 (i:=0) jt.nd rfl (Or.inl rfl) (yn wk (pv 0) yf)) ?_;refine yh (vv (yx xk (yn u9 (pv 0) yf) yf (y9 _)) (yc (yu (we (js:=[1,2]) (ys:=["_law_small","_law_odd"]) rfl (u7 rfl T.B9 (pa1 yf)) (λC s2 H2 fp=>(yn j7 (u6 (pv 1) (pv 2) (λY Y=>rfl)) (yn zz (yn wc (yn xf yf (pv 0)) yf) (yn wk (pv 0) yf)))) rfl rfl (hyc:=(all_cons rfl (all_cons rfl ve))) (hrel:=(all_cons rfl (all_cons rfl ve)))))) y8) ?_;refine yh (y7 (i:=3) jt.nd rfl (Or.inr rfl) yj) ?_;refine yh (ux PassesOwn.never rfl (u7 rfl T.B9 (pa1 (yn u9 (yn wk (pv 0) yf) yf))) (wd (i:=4) jt.nd rfl (Or.inl rfl)) (yc (y7 (i:=3) jt.nd rfl (Or.inr rfl) (yn ye (pv 3) (u6 (pv 1) (yn u9 (yn wk (yn xf (pv 0) (yn wc (pv 4) yf)) yf) yf) (λY Y=>rfl)))))) ?_;refine yh (y7 (i:=5) jt.nd rfl (Or.inr rfl) (yn u9 (yn wk (pv 0) yf) (yn wc (pcB zd T.Af (pa1 (pv 3))) yf))) ?_;exists _,(yc (yu (we (js:=[3,1,2,5]) (ys:=["_law_stem","_law_small","_law_odd","_law_at"]) rfl (u7 rfl T.B9 (pa1 yf)) (λC s2 H2 fp=>(yn ye (yn ye (uk (r:=vgd) ynt (pv 1) zq (zl (pv 4))) (u6 (pv 2) (yn wc (pv 3) (pv 0)) (λY Y=>rfl))) (uk (r:=vgd) ynt (pv 1) (zl (pv 4)) zq))) rfl rfl (hyc:=(all_cons rfl (all_cons rfl (all_cons rfl (all_cons rfl ve))))) (hrel:=(all_cons rfl (all_cons rfl (all_cons rfl (all_cons rfl ve)))))))),?_
 try dsimp only[vo]
 refine(yo (σ':=[some _,none,none,none,none,none]) rfl) ?_;ext;obtain⟨o,O,S⟩:∃o:Nat,c%23=(o:Int)/\o<=22:=⟨(c%23).toNat,(),()⟩;obtain⟨d,G,d0,d1⟩:∃d:Int,c/23=d/\0<=d/\d<2147483647:=⟨c/23,rfl,(),()⟩;rw[O,G];clear c0 X O G c;refine jk (λB=>?_) (λB=>?_)
 .ext;exists _,rfl,∅,∅,λD p=>?_
  refine jn (lo:=0) (n:=4) (λi=>.str (nmR (97+o) (2*i+1-i/3))) p (λi F g u t=>?_) (λF u t=>?_)
  .ext;exists smS,_,_,rfl,rfl,(),(),by rw[yjc];omega,yt6 () (),?_
   rw[show ((o:Int)).toNat=o from rfl];ext;exists _,_,rfl,rfl,(),(),by show 1<=_;decide,λz m=>?_
   rw[show (2*(0+(i:Int))+1-(0+(i:Int))/3).toNat=2*i+1-i/3 by omega]at m;obtain rfl:=ywv m;exact Mp.doneR p (vk ∅) g u t rfl
  .have L:F D=some (.lst (((List.range 4).map λi=>nmR (97+o) (2*i+1-i/3)).map V.str)):=by rw[t,cb];rfl
   refine k D _ F p L u rfl ?_ λx J=>?_
   .refine List.pairwise_map.mpr (List.nodup_range.imp_of_mem λ{a b}ha Z W e=>W ?_);have h2:=cn.mp ha;have R:=cn.mp Z;have U:=congrArg (λx:Str=>x.cps.toList.length) e;simp[nmR]at U;omega
   .obtain⟨i,g,rfl⟩:=bn.mp J;have R:=cn.mp g;exact yn6 (yrh ()) (by simp[nmR];omega) (by simp[nmR];omega)
 .obtain⟨l7,M,hl⟩:∃l:Nat,d/4%8=(l:Int)/\l<=7:=⟨(d/4%8).toNat,(),()⟩;ext;rw[M];refine⟨_,rfl,(),(),Ď (n:=l7) (λi σ2 F=>∃(z:Str)(v:qj V),σ2=[some (.int d),some (.str smS),some (.int o),some (.str z),v,none]/\Ŀ z.cps.toList/\z.length=i/\H=F)
   ⟨_,_,rfl,(λc hc=>by cases (show c∈[]from hc)),rfl,rfl⟩ ?_ ?_⟩
  .rintro i σ2 F g ⟨z,v,rfl,m,f,rfl⟩;ext;have I:=cT (d*(0+(i:Int)+3)/7) (show (26:Int)≠0 by decide);have B:=cO (d*(0+(i:Int)+3)/7) (show (0:Int)<26 by decide);generalize d*(0+(i:Int)+3)/7%26=q at I B⊢;exists smS,q,97+q.toNat,rfl,rfl,I,(),by rw[yjc];exact B,yt6 I B,?_
   exists z,_,rfl,rfl,?_,?_
   .rw[f,sizeLine_eq];show i+1<=_;omega
   .ext;exists _,_,rfl,?_,?_,rfl
    .rw[jr];exact m.app (.one ())
    .rw[u8,jr,bf,<- u8,f];rfl
  .rintro σ2 F ⟨z,v,rfl,m,f,rfl⟩;ext;exists z,rfl,by rw[f,sizeLine_eq];omega,?_
   ext
   obtain⟨j,hj,y⟩:∃j:Nat,d/32%((z.length:Int)+1)=(j:Int)/\j<=z.length:=by
    have I:=cT (d/32) (show ((z.length:Int)+1)≠0 by omega);have B:=cO (d/32) (show 0<((z.length:Int)+1) by omega);exists(d/32%((z.length:Int)+1)).toNat,(),()
   rw[hj];exists _,rfl,∅,∅,λD p=>?_
   refine jn (lo:=0) (n:=4) (λi=>.str (ynd z j (97+o+i))) p (λi F g u t=>?_) (λF u t=>?_)
   .ext;have a1:=Txt.slice_le z none (some (j:Int));have a0:=Txt.slice_le z (some (j:Int)) none;exists z,rfl,by rw[sizeLine_eq];omega,?_
    ext;have ei:97+((o:Int)+(0+(i:Int))).toNat=97+o+i:=()
    exists smS,_,_,rfl,rfl,(),(),by rw[yjc];omega,yt6 () (),?_
    rw[ei];exists _,_,rfl,rfl,by rw[sizeLine_eq];show _+1<=_;omega,?_
    ext;exists z,rfl,by rw[sizeLine_eq];omega,?_
    exists _,_,rfl,rfl,?_,?_
    .rw[sizeLine_eq,u8,jr,bf,<- u8];show _+1+_<=_;omega
    .exact Mp.doneR p (vk ∅) g u t rfl
   .have L:F D=some (.lst (((List.range 4).map λi=>ynd z j (97+o+i)).map V.str)):=by rw[t,cb];rfl
    refine k D _ F p L u rfl (ygo y o 4) λx J=>?_;let⟨i,g,rfl⟩:=bn.mp J;have R:=cn.mp g;exists ysa y m () (),?_;rw[Î y];exact((m.take j).app (.one ())).app (m.drop j)
#synth ē ["_law_script","_law_looks_here","_law_k","_law_cell","_law_places"] ["_law_script"] yn7
inductive ymf(K:z3)(vs:Τ)(H:Hp)(Q:VK)(E':XK):Prop
 |mk(l:z4)(zs:Ο)(_:vs=[.ref l])(_:SqL K H l (zs.map V.int))(_:∀r(n:Nat)(lk:Λ)(kd:Ν)(tp:Λ)(ps:Κ)H',H r=none->H' r=some (.lst (refs lk n))->1<=n->n<=6->xx H' n lk kd tp ps->yv H H'->Q (.ref r) H')
def yiq(T:Txt K mg a):vn P w K mg Γ CX0 2 a.Li a.M0 ["_law_script"] (ymf K):=by
 exists T.Jo.F.ok,ē,hr;let⟨l,zs,rfl,hl,k⟩:=h;refine yh (y7 (i:=1) ē.nd rfl (Or.inl rfl) (vj za)) ?_;refine yh (ux PassesOwn.never rfl (u7 rfl T.B9 (pa1 (yn wc yf (yn u9 (ug (yc0 T) hr.m T.Hr (pac (pv 0) (pa1 yf))) yf)))) (wd (i:=2) ē.nd rfl (Or.inl rfl)) (yg (y7 (i:=3) ē.nd rfl (Or.inl rfl) (ug (yc0 T) hr.m T.Hr (pac (pv 0) (pa1 (yn wc yf (pv 2)))))) (yg (y7 (i:=4) ē.nd rfl (Or.inl rfl) (xg vy (vj (pac (wa za) (pac (wa (pa1 yf)) (pac (wa (pa1 yf)) (pac (wa (pac yf (pa1 yf))) (pac (wa (pa1 (yn wc yf (yn u9 (yn wk (pv 3) yf) yf)))) (pa1 (wa (pac yf (pac yf (pac yf (pa1 yf)))))))))))) (yn u9 (yn wk (pv 3) yf) yf) (λY Y=>rfl))) (yc (y6 (uy PySem.F.plainAttrs_list PySem.F.slot_list_append PySem.F.type_list_append wy (pv 1) (pa1 (wa (pac (xg vy (vj (pac yj (pac yj (pa1 yj)))) (yn u9 (pv 3) yf) (λY Y=>rfl)) (pa1 (pv 4))))))))))) ?_;exists 1,4,yc (yu (pv 1));exists by walk_at "len",λL hL0=>?_
 exists hL0,H1,S1,hL1;ext;exists l,zs,0,rfl,S1.seq hl,∅,λc c0 c1=>?_
 ext;obtain⟨n,hn,n1,n6⟩:∃n:Nat,1+c%2=(n:Int)/\1<=n/\n<=6:=⟨(1+c%2).toNat,(),(),()⟩;rw[hn];refine⟨_,rfl,(),(),Ď (n:=n) (λi σ2 G=>∃(v2 X v4:qj V)(u:Λ)(y:Ν)(S:Λ)(O:Κ),σ2=[some (.ref l),some (.ref L),v2,X,v4]/\G L=some (.lst (refs u i))/\xx G i u y S O/\yv H G)
  ⟨_,_,_,λY=>0,λY=>0,λY=>0,λY=>[],rfl,hL1,λj W=>absurd W (ce j),S1⟩ ?_ ?_⟩
 .rintro i σ2 G hi ⟨v2,X,v4,u,y,S,O,rfl,gL,Z,U⟩;ext;exists l,zs,1+i,by rw[show ((1+i:Nat):Int)=1+(0+(i:Int)) by omega];rfl,U.seq hl,(),λd d0 d1=>?_
  ext;exists by walk_at "len",λx1 xg1=>?_
  exists xg1,xH1,xS1,xe1;ext;exists by walk_at "len",λx2 xg2=>?_
  exists xg2,xH2,xS2,xe2;ext;exists by walk_at "len",λx3 xg3=>?_
  exists xg3,xH3,xS3,xe3;ext;exists by walk_at "len",λx4 xg4=>?_
  exists xg4,xH4,xS4,xe4;ext;exists by walk_at "len",λx5 xg5=>?_
  exists xg5,xH5,xS5,xe5;ext;exists by walk_at "len",λx6 xg6=>?_
  exists xg6,xH6,xS6,xe6;ext;exists by walk_at "len",λx7 xg7=>?_
  exists xg7,xH7,xS7,xe7;have J:=xS7;have xe6:=J _ _ xe6;have D:=xS6.trans J;have xe5:=D _ _ xe5;have v:=xS5.trans D;have xe4:=v _ _ xe4;have B:=xS4.trans v;have xe3:=B _ _ xe3;have C:=xS3.trans B;have xe2:=C _ _ xe2;have I:=xS2.trans C;have xe1:=I _ _ xe1;have R:=xS1.trans I;ext
  obtain⟨g,M,hv,hq,a0⟩:∃g M,atI [V.ref x1,V.ref x2,V.ref x3,V.ref x4,V.ref x5,V.ref x6] (d/24%6)=some (.ref g)/\xH7 g=some (.tup (List.map V.int M))/\ur (M.map V.int)=true:=by
   have h0:d/24%6=0\/d/24%6=1\/d/24%6=2\/d/24%6=3\/d/24%6=4\/d/24%6=5:=()
   rcases h0 with z|z|z|z|z|z<;>rw[z]
   .exists x1,[],rfl,xe1,rfl
   .exists x2,[1],rfl,xe2,rfl
   .exists x3,[2],rfl,xe3,rfl
   .exists x4,[1,2],rfl,xe4,rfl
   .exists x5,[1+d/3%8],rfl,xe5,yhx (by show 1<=4;decide) (λp hp=>?_) (List.pairwise_singleton _ _);rw[bA.mp hp];omega
   .exists x6,[1,3,5,8],rfl,xe6,rfl
  refine xo (SqL.of xe7) hv ?_;have N:=R _ _ gL;ext;refine z6 N ?_;ext;exists by walk_at "len",λq2 hq2=>?_
  exists hq2,G4,T4,hq4;ext;let⟨kk,hk⟩:=yrn d;refine xo (SqL.of hq4) hk ?_;ext;exists by walk_at "len",λt ht=>?_
  exists ht,G7,T7,ht7;have r:=T4.trans T7;have q:=r _ _ N;have x:=R.trans r;ext;refine xp q (vk (by rw[vw];omega)) ?_;have g7:LkG G7 (.ref t) kk g M:=⟨t,rfl,ht7,r _ _ hq,a0⟩;ext;exists _,_,_,upN u i t,upN y i kk,upN S i g,upN O i M,rfl,?_,λj W=>?_,λb o e=>ym (yb e hL0) (x _ _ (U b o e))
  .rw[ya,jp,xv]
   congr 3
   exact j6 λj W=>(xt W).symm
  .by_cases z:j=i
   .subst z;rw[xv,xv,xv,xv];exact g7.upd q
   .have f:j<i:=()
    rw[xt f,xt f,xt f,xt f];exact((Z j f).same x).upd q
 .rintro σ2 G ⟨v2,X,v4,u,y,S,O,rfl,gL,Z,U⟩;ext;exact k L n u y S O G hL0 gL n1 n6 Z U
noncomputable def cl8(a:Ads):Λ
 |0=>a.A3
 |1=>a.A4
 |2=>a.A1
 |3=>a.Ae
 |4=>a.Ac
 |5=>a.A8
 |6=>a.A5
 |_=>a.Au
structure Ex8(K:z3)(a:Ads)(c:z4)(k:Nat):Prop where
 em:W.exmOne K (.ref c) (.ref a.A9)=some true
 xc:XCls K c
 kv:W.kitOne K (.ref c) (.type "ValueError")=some true
 k0:W.kitOne K (.ref c) (.ref a.A3)=some (decide (0=k))
 k1:W.kitOne K (.ref c) (.ref a.A4)=some (decide (1=k))
 k2:W.kitOne K (.ref c) (.ref a.A1)=some (decide (2=k))
 k3:W.kitOne K (.ref c) (.ref a.Ae)=some (decide (3=k))
 k4:W.kitOne K (.ref c) (.ref a.Ac)=some (decide (4=k))
 k5:W.kitOne K (.ref c) (.ref a.A8)=some (decide (5=k))
 k6:W.kitOne K (.ref c) (.ref a.A5)=some (decide (6=k))
 k7:W.kitOne K (.ref c) (.ref a.Au)=some (decide (7=k))
theorem ex8(T:Txt K mg a):∀k,k<8->Ex8 K a (cl8 a k) k
 |0,_=>⟨T.Bf,T.Kn,T.Bw,T.Dm,T.Eg,T.Dl,T.Fe,T.Ff,T.Do,T.Dn,T.Ha⟩
 |1,_=>⟨T.Bi,T.O6,T.Cg,T.E8,T.Es,T.E7,T.Fj,T.Fk,T.Ea,T.E9,T.Hy⟩
 |2,_=>⟨T.Bd,T.Kk,T.Bu,T.Db,T.Ec,T.Da,T.F0,T.F6,T.Dd,T.Dc,T.Gv⟩
 |3,_=>⟨T.Bq,T.On,T.Cp,T.F8,T.Fm,T.F7,T.Gd,T.Ge,T.Fa,T.F9,T.J7⟩
 |4,_=>⟨T.Bp,T.Ol,T.Co,T.Ew,T.Fl,T.Ev,T.Gb,T.Gc,T.Ez,T.Ey,T.J6⟩
 |5,_=>⟨T.Bc,T.Ki,T.Bt,T.D7,T.Eb,T.Cz,T.Et,T.Eu,T.D9,T.D8,T.Gu⟩
 |6,_=>⟨T.Be,T.Km,T.Bv,T.Dh,T.Ed,T.De,T.Fb,T.Fc,T.Dj,T.Di,T.Gw⟩
 |7,_=>⟨T.Cm,T.Xo,T.Eo,T.Gq,T.Hu,T.Gp,T.Iy,T.Iz,T.Gs,T.Gr,T.O8⟩
 |n+8,h=>absurd h ()
noncomputable def duL(k:Nat):Τ:=.int 1::(((List.range 8).map λi=>decide (i=k)).map V.bl)
theorem jb{J:Hp}:∀bs:qi Bool,Sds K J (bs.map V.bl) (bs.map PyData.bool) 0
 |[]=>.nil
 |b::r=>.cons (Sd.bl b) (jb r)
def yud(K:z3)(a:Ads)(H:Hp)(dk:z4)(v:V)(k:Nat):Prop:=∀H1,yv H H1->∀Q2 E2,(∀H',yv H1 H'->E2 (.ref (cl8 a k)) none H')->SyI K a H1 dk Q2 E2 v
def yud.same{H H':Hp}{dk:z4}{v:V}{k:Nat}(h:yud K a H dk v k)(S:yv H H'):yud K a H' dk v k:=λb c=>h b (S.trans c)
#synth υ ["_law_desk","_law_row","_law_found","e"] ["_law_desk","_law_row"] ypa
inductive ytm(K:z3)(a:Ads)(vs:Τ)(H:Hp)(Q:VK)(E':XK):Prop
 |mk(dk dd:z4)(vd v:V)(k:Nat)(_:vs=[.ref dk,v])(_:H dk=some (.ins a.An dd (Ó vd)))(_:k<8)(_:yud K a H dk v k)(_:∀l H',H l=none->H' l=some (.lst (duL k))->yv H H'->Q (.ref l) H')
def ysb(T:Txt K mg a):vn P w K mg Γ CX0 18 a.Lj a.M4 ["_law_desk","_law_row"] (ytm K a):=by
 exists T.Nl.F.ok,υ,C;let⟨j,o,l,v,n,rfl,z,D,u,k⟩:=h;exists 2,2,yg (y7 (i:=2) υ.nd rfl (Or.inl rfl) (vj (pa1 yj))) (yg (ypr (i:=3) (λq R=>(yc (y7 (i:=2) υ.nd rfl (Or.inl rfl) (yz (pv 0) T.Aj T.Ah.m (uv T) C.m T.Ah.B .nil ţ (pa1 (pv 1)))))) ⟨rfl,rfl⟩ rfl T.Br (λq x=>(yg (y7 (i:=2) υ.nd rfl (Or.inl rfl) (vj (pa1 (pcT ygg T.Vj (pa1 (pcB (id:="isinstance") (r:=ybn K) xq T.A6 (pac (pv 3) (pa1 (ji (T:="ValueError") rfl T.Eh (by right)))))))))) (yg (y7 (i:=2) υ.nd rfl (Or.inl rfl) (yn ud (pv 2) (vj (pac (pcB (id:="isinstance") (r:=ybn K) xq T.A6 (pac (pv 3) (pa1 (w9 rfl T.Ax)))) (pac (pcB (id:="isinstance") (r:=ybn K) xq T.A6 (pac (pv 3) (pa1 (w9 rfl T.Ga)))) (pac (pcB (id:="isinstance") (r:=ybn K) xq T.A6 (pac (pv 3) (pa1 (w9 rfl T.Hi)))) (pa1 (pcB (id:="isinstance") (r:=ybn K) xq T.A6 (pac (pv 3) (pa1 (w9 rfl T.K5))))))))))) (yc (y7 (i:=2) υ.nd rfl (Or.inl rfl) (yn ud (pv 2) (vj (pac (pcB (id:="isinstance") (r:=ybn K) xq T.A6 (pac (pv 3) (pa1 (w9 rfl T.Ht)))) (pac (pcB (id:="isinstance") (r:=ybn K) xq T.A6 (pac (pv 3) (pa1 (w9 rfl T.Hh)))) (pac (pcB (id:="isinstance") (r:=ybn K) xq T.A6 (pac (pv 3) (pa1 (w9 rfl T.Ck)))) (pa1 (pcB (id:="isinstance") (r:=ybn K) xq T.A6 (pac (pv 3) (pa1 (w9 rfl T.Wz))))))))))))))) υ.nd rfl rfl) (yc (yu (pv 2))));exists by walk_at "len",λO hl0=>?_
 exists hl0,H1,S1,hl1;have f:=S1 _ _ z;have Z:=ex8 T n D;ext;exists j,o,l,v,rfl,f,u H1 S1 _ _ λN p=>?_;refine va5 Z.em λx hx=>?_;dsimp only[List.set];exists hx,H3,S3,e3;ext;refine yn1 e3 Z.xc Z.kv ?_;refine .inr ⟨_,rfl,?_⟩;ext;exists by walk_at "len",λG hl4=>?_
 exists hl4,H4,S4,e4;have b:=S4 _ _ e3;ext;refine jy b Z.xc Z.k0 ?_;ext;refine jy b Z.xc Z.k1 ?_;ext;refine jy b Z.xc Z.k2 ?_;ext;refine jy b Z.xc Z.k3 ?_;ext;exists by walk_at "len",λJ hl5=>?_
 exists hl5,H5,S5,e5;exists G,J,_,_,rfl,rfl,S5 _ _ e4,e5,by walk_at "len",λI hl6=>?_
 exists hl6,H6,S6,e6;have c:=S6 _ _ (S5 _ _ b);ext;refine jy c Z.xc Z.k4 ?_;ext;refine jy c Z.xc Z.k5 ?_;ext;refine jy c Z.xc Z.k6 ?_;ext;refine jy c Z.xc Z.k7 ?_;ext;exists by walk_at "len",λM hl7=>?_
 exists hl7,H7,S7,e7;exists I,M,_,_,rfl,rfl,S7 _ _ e6,e7,by show 5+4<=sizeLine;decide,λt d=>?_
 ext;have e:=S1.trans (p.trans (S3.trans (S4.trans (S5.trans (S6.trans S7)))));exact k t _ (e.free d) ya (e.trans (vg d))
#synth ycz ["_law_desk","_law_row","_law_kind","_law_due","_law_k"] ["_law_desk","_law_row","_law_kind"] yn3
inductive yq8(K:z3)(a:Ads)(vs:Τ)(H:Hp)(Q:VK)(E':XK):Prop
 |mk(dk dd:z4)(vd v:V)(k:Nat)(_:vs=[.ref dk,v,.int k])(_:H dk=some (.ins a.An dd (Ó vd)))(_:k<8)(_:yud K a H dk v k)(_:∀H',yv H H'->Q (.bl true) H')
def yix(T:Txt K mg a):vn P w K mg Γ CX0 19 a.Lk a.M5 ["_law_desk","_law_row","_law_kind"] (yq8 K a):=by
 exists T.Jp.F.ok,ycz,t;let⟨g,p,q,v,n,rfl,B,C,y,k⟩:=h;exists 3,2,yg (y7 (i:=3) ycz.nd rfl (Or.inl rfl) (vj (pa1 yf))) (yg (ux PassesOwn.never rfl (u7 rfl T.B9 (pa1 yf)) (wd (i:=4) ycz.nd rfl (Or.inl rfl)) (yc (y6 (uy PySem.F.plainAttrs_list PySem.F.slot_list_append PySem.F.type_list_append wy (pv 3) (pa1 (uu xk (pv 4) (pv 2) (y9 _))))))) (yc (yu (uu (yvg t.units) (ug (ysb T) t.m T.Nl (pac (pv 0) (pa1 (pv 1)))) (pv 3) (y9 _)))));exists by walk_at "len",λl hl0=>?_
 exists hl0,H1,S1,hl1;ext;exists _,rfl,∅,∅,Ď (n:=8) (λi σ2 G=>∃w,σ2=[some (.ref g),some v,some (.int n),some (.ref l),w]/\G l=some (.lst (.int 1::(((List.range i).map λi=>decide (i=n)).map V.bl)))/\yv H G) ⟨_,rfl,hl1,S1⟩ ?_ ?_
 .rintro i σ2 G D ⟨w,rfl,c,S⟩;ext;refine z6 c ?_;ext;refine xp c (vk (by rw[bp,bc,bc,bP];omega)) ?_;ext;exists _,rfl,?_,λb o e=>ym (yb e hl0) (S _ _ e);rw[ya,List.range_succ,bD,bD,show decide ((0:Int)+(i:Int)=(n:Int))=decide (i=n)from Bool.eq_iff_iff.mpr (by rw[decide_eq_true_iff,decide_eq_true_iff];omega)];rfl
 .rintro σ2 G ⟨w,rfl,c,S⟩;ext;exists g,p,q,v,n,rfl,S _ _ B,C,y.same S,λr I x d j=>?_;ext;refine ymz (Sd.lst (SqL.of d) (.cons (Sd.int 1) (jb _))) (Sd.lst (SqL.of (j _ _ c)) (.cons (Sd.int 1) (jb _))) ∅ ?_;exact k _ (S.trans j)
inductive Ln:Nat->Str->Prop
 |c {x:Str} (h:x.length<=2002):Ln 1 x
 |app {k:Nat} {x y:Str} (h:Ln k x) (g:Ln 1 y):Ln (k+1) (x++y)
def Ln.le{k:Nat}{x:Str}(h:Ln k x):x.length<=k*2002:=by
 induction h with
 |c h=>omega
 |app h g h1 h2 =>
  rw[u8,jr,bf,<- u8,<- u8,Nat.add_mul];omega
def Ln.sz{k:Nat}{x:Str}(h:Ln k x)(g:Ln 1 y)(hk:k<=10):x.length+y.length<=sizeLine:=by have b:=h.le;have a:=g.le;have c:k*2002<=10*2002:=Nat.mul_le_mul_right _ hk;rw[sizeLine_eq];omega
local macro_rules | `(tactic| walk_at "ad")=>`(tactic| repeat first | refine ⟨_,_,rfl,rfl,Ln.sz (by repeat' first | assumption | exact Ln.c ∅ | apply Ln.app) (by first | assumption | exact Ln.c ∅) ∅,?_⟩ | walk_at "rd1")
noncomputable def yui(n:Str):Ρ:=[Str.ofString "",Str.ofString " ",Str.ofString "get",Str.ofString "put",Str.ofString "drop",Str.ofString "base",Str.ofString "bytes",Str.ofString "cost",Str.ofString "best",Str.ofString "open",Str.ofString "names ",Str.ofString "shelf ",Str.ofString " names"]++[Str.ofString "Names",Str.ofString "name",Str.ofString "get "++n++Str.ofString " ",Str.ofString "get "++n++Str.ofString " "++n,Str.ofString "drop "++n++Str.ofString " 00"]++[Str.ofString "put "++n]++[Str.ofString "put "++n++Str.ofString " 0",Str.ofString "put "++n++Str.ofString " 0g",Str.ofString "put "++n++Str.ofString " 0A",Str.ofString "put "++n++Str.ofString "  00"]++[Str.ofString "put "++n++Str.ofString " 00 ",Str.ofString "put "++n++Str.ofString " on "++n,Str.ofString "put "++n++Str.ofString " on",Str.ofString "put  on "++n]++[Str.ofString "put "++n++Str.ofString " on "++n++Str.ofString " 000",Str.ofString "put "++n++Str.ofString " on "++n++Str.ofString " on",Str.ofString "best 0",Str.ofString "best 0x"]++[Str.ofString "open 0",Str.ofString "open  ",Str.ofString "look "++n,Str.ofString "shelf 00",Str.ofString "get\n"++n,Str.ofString "GET "++n,Str.ofString "best  00"]
#synth Á ["_law_name","_law_rows"] ["_law_name"] ypb
inductive yrm  (vs:Τ) (H:Hp) (Q:VK) (E':XK):Prop
 |mk(n:Str)(_:vs=[.str n])(_:n.length<=8)(_:∀r p t H',H r=none->H' r=some (.lst ((yui n).map V.str++[.non,.int 7,.ref p,.bl true,.ref t]))->H' p=some (.lst [.str (Str.ofString "names")])->H' t=some (.tup [.str (Str.ofString "names")])->yv H H'->Q (.ref r) H')
def ys0(T:Txt K mg a):vn P w K mg Γ CX0 1 a.Ll a.M6 ["_law_name"] yrm:=by
 exists T.Nm.F.ok,Á,W;let⟨n,rfl,X,k⟩:=h;have Z:Ln 1 n:=.c ();refine yh (y7 (i:=1) Á.nd rfl (Or.inl rfl) (vj (pac yj (pac yj (pac yj (pac yj (pac yj (pac yj (pac yj (pac yj (pac yj (pac yj (pac yj (pac yj (pa1 yj))))))))))))))) ?_;refine yh (y7 (i:=1) Á.nd rfl (Or.inl rfl) (yn ud (pv 1) (vj (pac yj (pac yj (pac (yn ye (yn ye yj (pv 0)) yj) (pac (yn ye (yn ye (yn ye yj (pv 0)) yj) (pv 0)) (pa1 (yn ye (yn ye yj (pv 0)) yj))))))))) ?_;refine yh (y6 (uy PySem.F.plainAttrs_list PySem.F.slot_list_append PySem.F.type_list_append wy (pv 1) (pa1 (yn ye yj (pv 0))))) ?_;refine yh (y7 (i:=1) Á.nd rfl (Or.inl rfl) (yn ud (pv 1) (vj (pac (yn ye (yn ye yj (pv 0)) yj) (pac (yn ye (yn ye yj (pv 0)) yj) (pac (yn ye (yn ye yj (pv 0)) yj) (pa1 (yn ye (yn ye yj (pv 0)) yj)))))))) ?_;refine yh (y7 (i:=1) Á.nd rfl (Or.inl rfl) (yn ud (pv 1) (vj (pac (yn ye (yn ye yj (pv 0)) yj) (pac (yn ye (yn ye (yn ye yj (pv 0)) yj) (pv 0)) (pac (yn ye (yn ye yj (pv 0)) yj) (pa1 (yn ye yj (pv 0))))))))) ?_;refine yh (y7 (i:=1) Á.nd rfl (Or.inl rfl) (yn ud (pv 1) (vj (pac (yn ye (yn ye (yn ye (yn ye yj (pv 0)) yj) (pv 0)) yj) (pac (yn ye (yn ye (yn ye (yn ye yj (pv 0)) yj) (pv 0)) yj) (pac yj (pa1 yj))))))) ?_;refine yh (y7 (i:=1) Á.nd rfl (Or.inl rfl) (yn ud (pv 1) (vj (pac yj (pac yj (pac (yn ye yj (pv 0)) (pac yj (pac (yn ye yj (pv 0)) (pac (yn ye yj (pv 0)) (pa1 yj)))))))))) ?_;exists _,(yc (yu (yn ud (pv 1) (vj (pac jh (pac yf (pac (vj (pa1 yj)) (pac ul (pa1 (wa (pa1 yj))))))))))),?_;exists 1,1
 walk_at "ad"
 exists by walk_at "len",λv hl1=>?_
 exists hl1,H1,S1,e1
 walk_at "ad"
 exists by walk_at "len",λM hl2=>?_
 exists hl2,H2,S2,e2;exists v,M,_,_,rfl,rfl,S2 _ _ e1,e2,by walk_at "len",λg hl3=>?_
 exists hl3,H3,S3,e3;have l:=S1.trans (S2.trans S3);have j:H g=none:=(S1.trans S2).free hl3;clear S1 S2 S3 e1 e2 hl1 hl2;ext;refine z6 e3 ?_
 walk_at "ad"
 refine xp e3 (vk (by simp only[bf,bp,cg];omega)) ?_;have f:yv H (upd H3 g (.lst ([V.str (Str.ofString ""),V.str (Str.ofString " "),V.str (Str.ofString "get"),V.str (Str.ofString "put"),V.str (Str.ofString "drop"),V.str (Str.ofString "base"),V.str (Str.ofString "bytes"),V.str (Str.ofString "cost"),V.str (Str.ofString "best"),V.str (Str.ofString "open"),V.str (Str.ofString "names "),V.str (Str.ofString "shelf "),V.str (Str.ofString " names")]++[V.str (Str.ofString "Names"),V.str (Str.ofString "name"),V.str (Str.ofString "get "++n++Str.ofString " "),V.str (Str.ofString "get "++n++Str.ofString " "++n),V.str (Str.ofString "drop "++n++Str.ofString " 00")]++[V.str (Str.ofString "put "++n)]))):=λb o e=>ym (yb e j) (l _ _ e);have p:upd H3 g (.lst ([V.str (Str.ofString ""),V.str (Str.ofString " "),V.str (Str.ofString "get"),V.str (Str.ofString "put"),V.str (Str.ofString "drop"),V.str (Str.ofString "base"),V.str (Str.ofString "bytes"),V.str (Str.ofString "cost"),V.str (Str.ofString "best"),V.str (Str.ofString "open"),V.str (Str.ofString "names "),V.str (Str.ofString "shelf "),V.str (Str.ofString " names")]++[V.str (Str.ofString "Names"),V.str (Str.ofString "name"),V.str (Str.ofString "get "++n++Str.ofString " "),V.str (Str.ofString "get "++n++Str.ofString " "++n),V.str (Str.ofString "drop "++n++Str.ofString " 00")]++[V.str (Str.ofString "put "++n)])) g=_:=ya;generalize upd H3 g (.lst ([V.str (Str.ofString ""),V.str (Str.ofString " "),V.str (Str.ofString "get"),V.str (Str.ofString "put"),V.str (Str.ofString "drop"),V.str (Str.ofString "base"),V.str (Str.ofString "bytes"),V.str (Str.ofString "cost"),V.str (Str.ofString "best"),V.str (Str.ofString "open"),V.str (Str.ofString "names "),V.str (Str.ofString "shelf "),V.str (Str.ofString " names")]++[V.str (Str.ofString "Names"),V.str (Str.ofString "name"),V.str (Str.ofString "get "++n++Str.ofString " "),V.str (Str.ofString "get "++n++Str.ofString " "++n),V.str (Str.ofString "drop "++n++Str.ofString " 00")]++[V.str (Str.ofString "put "++n)]))=Y at f p⊢;clear l e3 hl3 j
 walk_at "ad"
 exists by walk_at "len",λG hq0=>?_
 exists hq0,G0,T0,d0;exists g,G,_,_,rfl,rfl,T0 _ _ p,d0,wt (by simp only[bf,bp,cg];omega),λJ hp0=>?_;exists hp0,J0,U0,c0;have r:=f.trans (T0.trans U0);clear T0 U0 hq0 d0 hp0 f p
 walk_at "ad"
 exists by walk_at "len",λC hq1=>?_
 exists hq1,G1,T1,d1;exists J,C,_,_,rfl,rfl,T1 _ _ c0,d1,wt (by simp only[bf,bp,cg];omega),λD hp1=>?_;exists hp1,J1,U1,c1;have u:=r.trans (T1.trans U1);clear T1 U1 hq1 d1 hp1 r c0
 walk_at "ad"
 exists by walk_at "len",λU hq2=>?_
 exists hq2,G2,T2,d2;exists D,U,_,_,rfl,rfl,T2 _ _ c1,d2,wt (by simp only[bf,bp,cg];omega),λO hp2=>?_;exists hp2,J2,U2,c2;have R2:=u.trans (T2.trans U2);clear T2 U2 hq2 d2 hp2 u c1
 walk_at "ad"
 exists by walk_at "len",λN hq3=>?_
 exists hq3,G3,T3,d3;exists O,N,_,_,rfl,rfl,T3 _ _ c2,d3,wt (by simp only[bf,bp,cg];omega),λR hp3=>?_;exists hp3,J3,U3,c3;have x:=R2.trans (T3.trans U3);clear T3 U3 hq3 d3 hp3 R2 c2;ext;exists by walk_at "len",λL hu1=>?_
 exists hu1,K1,V1,w1;ext;exists by walk_at "len",λz hu2=>?_
 exists hu2,K2,V2,w2;ext;exists by walk_at "len",λB hu3=>?_
 exists hu3,K3,V3,w3;have m:=V1.trans (V2.trans V3);exists R,B,_,_,rfl,rfl,m _ _ c3,w3,wt (by simp only[bf,bp,cg];omega),λI d=>?_;ext;have t:=x.trans m;refine k I L z _ (t.free d) (ya.trans ?_) (vg d _ _ (V3 _ _ (V2 _ _ w1))) (vg d _ _ (V3 _ _ w2)) (t.trans (vg d));unfold yui;simp only[bD,bR,List.map_nil]
inductive TD(H:Hp):qi V->qi (Str×Int)->Prop
 |nil:TD H [] []
 |cons {t:z4} {s:Str} {k:Int} {r:Τ} {D:qi (Str×Int)} (h:H t=some (.tup [.str s,.int k])) (n:TD H r D):TD H (.ref t::r) ((s,k)::D)
def TD.fr{H H':Hp}{r:Τ}(h:TD H r D)(f:∀t xs,H t=some (.tup xs)->H' t=some (.tup xs)):TD H' r D:=by
 induction h with
 |nil=>exact .nil
 |cons h n ih=>exact .cons (f _ _ h) ih
def TD.app{H:Hp}{r r':Τ}{D':qi (Str×Int)}(h:TD H r D)(g:TD H r' D'):TD H (r++r') (D++D'):=by
 induction h with
 |nil=>exact g
 |cons h n ih=>exact .cons h ih
def TD.at{H:Hp}{r:Τ}(h:TD H r D):∀{i:Nat}{v:V},r[i]?=some v->∃t s k,v=.ref t/\H t=some (.tup [.str s,.int k])/\(s,k)∈D:=by
 induction h with
 |nil=>intro i v e;cases e
 |cons h n ih =>
  intro i v e
  cases i with
  |zero=>cases e;exists _,_,_,rfl,h,bI
  |succ i =>
   let⟨t,s,k,b,a,c⟩:=ih (i:=i) e;exists t,s,k,b,a,bH _ c
def yxv{H:Hp}{p:z4}{L:Τ}{R:qi (Str×Int)}{n:Nat}(c:H p=some (.lst L))(d:TD H L R)(hz:L.length<=n):∃L:Τ,L.length<=n/\H p=some (.lst L)/\TD H L R:=⟨L,hz,c,d⟩
noncomputable def yj3(o th f z0 z1:Str):qi (Str×Int):=[(Str.ofString "get ",1),(Str.ofString "get A",1),(Str.ofString "drop a1",1),(Str.ofString "get abcdefghi",1),(Str.ofString "put  0000",1),(Str.ofString "put A 000000",1)]++[(Str.ofString "get "++th,2),(Str.ofString "bytes "++th,2),(Str.ofString "base "++th,2),(Str.ofString "cost "++th,2)]++[(Str.ofString "drop "++th,2),(Str.ofString "put "++th++Str.ofString " on "++f++Str.ofString " 00",2),(Str.ofString "drop "++o,3)]++[(Str.ofString "put "++o++Str.ofString " ",4),(Str.ofString "put "++o++Str.ofString " on "++f++Str.ofString " 00",4),(Str.ofString "put "++o++Str.ofString " 010203",5)]++[(Str.ofString "put "++th++Str.ofString " 000000",5),(Str.ofString "best 000000",5),(Str.ofString "put "++th++Str.ofString " on  00",1)]++[(Str.ofString "open ",6),(Str.ofString "open 00",6),(Str.ofString "put "++th++Str.ofString " on A 000000",1)]++[(Str.ofString "put "++th++Str.ofString " on "++f++Str.ofString " ",2)]++[(Str.ofString "best "++z0,7),(Str.ofString "put "++th++Str.ofString " "++z1,7),(Str.ofString "put  "++z1,1)]
def ycu{z:Str}{k:Nat}{x:Int}(h:z.cps.toList=(List.replicate k y.cps.toList).flatten)(e:hx2 x=y):z=uq (List.replicate k x):=ycw (by
 rw[h,Ë,<- e];clear h
 induction k with
 |zero=>rfl
 |succ k ih=>rw[ci,List.flatten_cons,ih,ci,List.flatMap_cons];rfl)
#synth zr ["_law_names_here","_law_far_here","_law_one","_law_two","_law_three","_law_rows"] ["_law_names_here","_law_far_here"] ypx
inductive yku(K:z3)(vs:Τ)(H:Hp)(Q:VK)(E':XK):Prop
 |mk(l:z4)(o w th r4 f:Str)(_:vs=[.ref l,.str f])(_:H l=some (.lst [.str o,.str w,.str th,.str r4]))(_:o.length<=8)(_:th.length<=8)(_:f.length<=8)(_:∀r xs z0 z1 H',z0=uq (List.replicate 1001 0)->z1=uq (List.replicate 1001 97)->H r=none->H' r=some (.lst xs)->xs.length<=100->TD H' xs (yj3 o th f z0 z1)->yv H H'->Q (.ref r) H')
def yrj(T:Txt K mg a):vn P w K mg Γ CX0 1 a.Lm a.M7 ["_law_names_here","_law_far_here"] (yku K):=by
 exists T.Nn.F.ok,zr,hr;let⟨l,o,w,th,r4,f,rfl,hl,ho,ht,hf,k⟩:=h;have hO:Ln 1 o:=.c ();have hT:Ln 1 th:=.c ();have hF:Ln 1 f:=.c ();refine yh (yxs (uk ψ (pv 0) zq (zl yf)) (yz7 rfl (ub (wd (i:=2) zr.nd rfl (Or.inl rfl)) (ub (wd (i:=3) zr.nd rfl (Or.inl rfl)) (ub (wd (i:=4) zr.nd rfl (Or.inl rfl)) Ė))))) ?_;refine yh (y7 (i:=5) zr.nd rfl (Or.inl rfl) (vj (pac (wa (pac yj (pa1 yf))) (pac (wa (pac yj (pa1 yf))) (pac (wa (pac yj (pa1 yf))) (pac (wa (pac yj (pa1 yf))) (pac (wa (pac yj (pa1 yf))) (pa1 (wa (pac yj (pa1 yf))))))))))) ?_;refine yh (y7 (i:=5) zr.nd rfl (Or.inl rfl) (yn ud (pv 5) (vj (pac (wa (pac (yn ye yj (pv 4)) (pa1 yf))) (pac (wa (pac (yn ye yj (pv 4)) (pa1 yf))) (pac (wa (pac (yn ye yj (pv 4)) (pa1 yf))) (pa1 (wa (pac (yn ye yj (pv 4)) (pa1 yf)))))))))) ?_;refine yh (y7 (i:=5) zr.nd rfl (Or.inl rfl) (yn ud (pv 5) (vj (pac (wa (pac (yn ye yj (pv 4)) (pa1 yf))) (pac (wa (pac (yn ye (yn ye (yn ye (yn ye yj (pv 4)) yj) (pv 1)) yj) (pa1 yf))) (pa1 (wa (pac (yn ye yj (pv 2)) (pa1 yf))))))))) ?_;refine yh (y7 (i:=5) zr.nd rfl (Or.inl rfl) (yn ud (pv 5) (vj (pac (wa (pac (yn ye (yn ye yj (pv 2)) yj) (pa1 yf))) (pac (wa (pac (yn ye (yn ye (yn ye (yn ye yj (pv 2)) yj) (pv 1)) yj) (pa1 yf))) (pa1 (wa (pac (yn ye (yn ye yj (pv 2)) yj) (pa1 yf))))))))) ?_;refine yh (y7 (i:=5) zr.nd rfl (Or.inl rfl) (yn ud (pv 5) (vj (pac (wa (pac (yn ye (yn ye yj (pv 4)) yj) (pa1 yf))) (pac (wa (pac yj (pa1 yf))) (pa1 (wa (pac (yn ye (yn ye yj (pv 4)) yj) (pa1 yf))))))))) ?_;refine yh (y7 (i:=5) zr.nd rfl (Or.inl rfl) (yn ud (pv 5) (vj (pac (wa (pac yj (pa1 yf))) (pac (wa (pac yj (pa1 yf))) (pa1 (wa (pac (yn ye (yn ye yj (pv 4)) yj) (pa1 yf))))))))) ?_;refine yh (y6 (uy PySem.F.plainAttrs_list PySem.F.slot_list_append PySem.F.type_list_append wy (pv 5) (pa1 (wa (pac (yn ye (yn ye (yn ye (yn ye yj (pv 4)) yj) (pv 1)) yj) (pa1 yf)))))) ?_;exists 2,4,yc (yu (yn ud (pv 5) (vj (pac (wa (pac (yn ye yj (yn j7 yj yf)) (pa1 yf))) (pac (wa (pac (yn ye (yn ye (yn ye yj (pv 4)) yj) (yn j7 yj yf)) (pa1 yf))) (pa1 (wa (pac (yn ye yj (yn j7 yj yf)) (pa1 yf)))))))));refine yc8 (SqL.of hl) λu hu0=>?_;rw[show ydb [V.str o,V.str w,V.str th,V.str r4] none (some 3)=[V.str o,V.str w,V.str th]from rfl];exists hu0,H1,S1,hu1;ext;refine yyx (SqL.of hu1) rfl ?_
 walk_at "ad"
 exists by walk_at "len",λa1 ag1=>?_
 exists ag1,aH1,aS1,ae1
 walk_at "ad"
 exists by walk_at "len",λa2 ag2=>?_
 exists ag2,aH2,aS2,ae2
 walk_at "ad"
 exists by walk_at "len",λa3 ag3=>?_
 exists ag3,aH3,aS3,ae3
 walk_at "ad"
 exists by walk_at "len",λa4 ag4=>?_
 exists ag4,aH4,aS4,ae4
 walk_at "ad"
 exists by walk_at "len",λa5 ag5=>?_
 exists ag5,aH5,aS5,ae5
 walk_at "ad"
 exists by walk_at "len",λa6 ag6=>?_
 exists ag6,aH6,aS6,ae6
 walk_at "ad"
 exists by walk_at "len",λa7 ag7=>?_
 exists ag7,aH7,aS7,ae7;have a9:=aS7;have ae6:=a9 _ _ ae6;have v:=aS6.trans a9;have ae5:=v _ _ ae5;have S:=aS5.trans v;have ae4:=S _ _ ae4;have Z:=aS4.trans S;have ae3:=Z _ _ ae3;have ad:=aS3.trans Z;have ae2:=ad _ _ ae2;have B:=aS2.trans ad;have ae1:=B _ _ ae1;have ag:=aS1.trans B;have R0:=S1.trans ag;have D0:TD aH7 _ _:=(.cons ae1 (.cons ae2 (.cons ae3 (.cons ae4 (.cons ae5 (.cons ae6 .nil))))));have C0:=ae7;clear ae1 ag1 aS1 ag ae2 ag2 aS2 B ae3 ag3 aS3 ad ae4 ag4 aS4 Z ae5 ag5 aS5 S ae6 ag6 aS6 v ae7 ag7 aS7 a9
 walk_at "ad"
 exists by walk_at "len",λb1 bg1=>?_
 exists bg1,bH1,bS1,be1
 walk_at "ad"
 exists by walk_at "len",λb2 bg2=>?_
 exists bg2,bH2,bS2,be2
 walk_at "ad"
 exists by walk_at "len",λb3 bg3=>?_
 exists bg3,bH3,bS3,be3
 walk_at "ad"
 exists by walk_at "len",λb4 bg4=>?_
 exists bg4,bH4,bS4,be4
 walk_at "ad"
 exists by walk_at "len",λb5 bg5=>?_
 exists bg5,bH5,bS5,be5;have W:=bS5;have be4:=W _ _ be4;have X:=bS4.trans W;have be3:=X _ _ be3;have aa:=bS3.trans X;have be2:=aa _ _ be2;have U:=bS2.trans aa;have be1:=U _ _ be1;have m:=bS1.trans U;exists a7,b5,_,_,rfl,rfl,m _ _ C0,be5,wt (by simp only[bf,bp,cg];omega),λp1 hp1=>?_;have al:=(R0.trans m).free hp1;exists hp1,J1,U1,C1;have R1:=R0.trans (m.trans U1);have D1:TD J1 _ _:=((D0.fr λF F=>m _ _).app (.cons be1 (.cons be2 (.cons be3 (.cons be4 .nil))))).fr λF F=>U1 _ _;clear be1 bg1 bS1 m be2 bg2 bS2 U be3 bg3 bS3 aa be4 bg4 bS4 X be5 bg5 bS5 W C0 D0 R0 U1 hp1
 walk_at "ad"
 exists by walk_at "len",λc1 cg1=>?_
 exists cg1,cH1,cS1,ce1
 walk_at "ad"
 exists by walk_at "len",λc2 cg2=>?_
 exists cg2,cH2,cS2,ce2
 walk_at "ad"
 exists by walk_at "len",λc3 cg3=>?_
 exists cg3,cH3,cS3,ce3
 walk_at "ad"
 exists by walk_at "len",λc4 cg4=>?_
 exists cg4,cH4,cS4,ce4;have N:=cS4;have ce3:=N _ _ ce3;have a0:=cS3.trans N;have ce2:=a0 _ _ ce2;have M:=cS2.trans a0;have ce1:=M _ _ ce1;have p:=cS1.trans M;exists p1,c4,_,_,rfl,rfl,p _ _ C1,ce4,wt (by simp only[bf,bp,cg];omega),λp2 hp2=>?_;have am:=(R1.trans p).free hp2;exists hp2,J2,U2,C2;have R2:=R1.trans (p.trans U2);have D2:TD J2 _ _:=((D1.fr λF F=>p _ _).app (.cons ce1 (.cons ce2 (.cons ce3 .nil)))).fr λF F=>U2 _ _;clear ce1 cg1 cS1 p ce2 cg2 cS2 M ce3 cg3 cS3 a0 ce4 cg4 cS4 N C1 D1 R1 U2 hp2
 walk_at "ad"
 exists by walk_at "len",λd1 dg1=>?_
 exists dg1,dH1,dS1,de1
 walk_at "ad"
 exists by walk_at "len",λd2 dg2=>?_
 exists dg2,dH2,dS2,de2
 walk_at "ad"
 exists by walk_at "len",λd3 dg3=>?_
 exists dg3,dH3,dS3,de3
 walk_at "ad"
 exists by walk_at "len",λd4 dg4=>?_
 exists dg4,dH4,dS4,de4;have Y:=dS4;have de3:=Y _ _ de3;have D:=dS3.trans Y;have de2:=D _ _ de2;have C:=dS2.trans D;have de1:=C _ _ de1;have d:=dS1.trans C;exists p2,d4,_,_,rfl,rfl,d _ _ C2,de4,wt (by simp only[bf,bp,cg];omega),λp3 hp3=>?_;have ao:=(R2.trans d).free hp3;exists hp3,J3,U3,C3;have R3:=R2.trans (d.trans U3);have D3:TD J3 _ _:=((D2.fr λF F=>d _ _).app (.cons de1 (.cons de2 (.cons de3 .nil)))).fr λF F=>U3 _ _;clear de1 dg1 dS1 d de2 dg2 dS2 C de3 dg3 dS3 D de4 dg4 dS4 Y C2 D2 R2 U3 hp3
 walk_at "ad"
 exists by walk_at "len",λe1 eg1=>?_
 exists eg1,eH1,eS1,ee1
 walk_at "ad"
 exists by walk_at "len",λe2 eg2=>?_
 exists eg2,eH2,eS2,ee2
 walk_at "ad"
 exists by walk_at "len",λe3 eg3=>?_
 exists eg3,eH3,eS3,ee3
 walk_at "ad"
 exists by walk_at "len",λe4 eg4=>?_
 exists eg4,eH4,eS4,ee4;have G:=eS4;have ee3:=G _ _ ee3;have a8:=eS3.trans G;have ee2:=a8 _ _ ee2;have J:=eS2.trans a8;have ee1:=J _ _ ee1;have g:=eS1.trans J;exists p3,e4,_,_,rfl,rfl,g _ _ C3,ee4,wt (by simp only[bf,bp,cg];omega),λp4 hp4=>?_;have an:=(R3.trans g).free hp4;exists hp4,J4,U4,C4;have R4:=R3.trans (g.trans U4);have D4:TD J4 _ _:=((D3.fr λF F=>g _ _).app (.cons ee1 (.cons ee2 (.cons ee3 .nil)))).fr λF F=>U4 _ _;clear ee1 eg1 eS1 g ee2 eg2 eS2 J ee3 eg3 eS3 a8 ee4 eg4 eS4 G C3 D3 R3 U4 hp4
 walk_at "ad"
 exists by walk_at "len",λg1 gg1=>?_
 exists gg1,gH1,gS1,ge1
 walk_at "ad"
 exists by walk_at "len",λg2 gg2=>?_
 exists gg2,gH2,gS2,ge2
 walk_at "ad"
 exists by walk_at "len",λg3 gg3=>?_
 exists gg3,gH3,gS3,ge3
 walk_at "ad"
 exists by walk_at "len",λg4 gg4=>?_
 exists gg4,gH4,gS4,ge4;have I:=gS4;have ge3:=I _ _ ge3;have R:=gS3.trans I;have ge2:=R _ _ ge2;have O:=gS2.trans R;have ge1:=O _ _ ge1;have j:=gS1.trans O;exists p4,g4,_,_,rfl,rfl,j _ _ C4,ge4,wt (by simp only[bf,bp,cg];omega),λp5 hp5=>?_;have ae:=(R4.trans j).free hp5;exists hp5,J5,U5,C5;have R5:=R4.trans (j.trans U5);have D5:TD J5 _ _:=((D4.fr λF F=>j _ _).app (.cons ge1 (.cons ge2 (.cons ge3 .nil)))).fr λF F=>U5 _ _;clear ge1 gg1 gS1 j ge2 gg2 gS2 O ge3 gg3 gS3 R ge4 gg4 gS4 I C4 D4 R4 U5 hp5;let⟨L,hz,C5,D5⟩:=yxv (n:=30) C5 D5 (by simp only[bf,bp,cg];omega);ext;refine z6 C5 ?_
 walk_at "ad"
 exists by walk_at "len",λy1 yg1=>?_
 exists yg1,yH1,yS1,ye1;have q:=yS1;ext;have C6:=q _ _ C5;refine xp C6 (vk ()) ?_;have D6:TD (upd yH1 p5 (.lst (L++[.ref y1]))) _ _:=((D5.fr λF F=>q _ _).app (.cons ye1 .nil)).fr λt xs e=>ym (λz=>by rw[z,C6]at e;cases e) e;have R6:yv H (upd yH1 p5 (.lst (L++[.ref y1]))):=λb o e=>ym (yb e ae) (q _ _ (R5 _ _ e));have C7:upd yH1 p5 (.lst (L++[.ref y1])) p5=_:=ya;generalize upd yH1 p5 (.lst (L++[.ref y1]))=H7 at D6 R6 C7⊢;clear ye1 yg1 yS1 q C5 C6 D5 R5
 walk_at "ad"
 exists _,_,rfl,rfl,∅,∅,∅,λz0 ai=>?_
 have af:z0=uq (List.replicate 1001 0):=ycu ai rfl;have ar:Ln 1 z0:=.c (by rw[af,z8,cG];omega)
 walk_at "ad"
 exists by walk_at "len",λv1 hv1=>?_
 exists hv1,K1,V1,w1
 walk_at "ad"
 exists _,_,rfl,rfl,∅,∅,∅,λz1 ah=>?_
 have ac:z1=uq (List.replicate 1001 97):=ycu ah rfl;have ap:Ln 1 z1:=.c (by rw[ac,z8,cG];omega)
 walk_at "ad"
 exists by walk_at "len",λv2 hv2=>?_
 exists hv2,K2,V2,w2
 walk_at "ad"
 exists _,_,rfl,rfl,∅,∅,∅,λz2 ak=>?_
 obtain rfl:z2=z1:=(ycu (x:=97) (k:=1001) ak rfl).trans ac.symm
 walk_at "ad"
 exists by walk_at "len",λv3 hv3=>?_
 exists hv3,K3,V3,w3
 walk_at "ad"
 exists by walk_at "len",λv4 hv4=>?_
 exists hv4,K4,V4,w4;have y:=V3.trans V4;have r:=V1.trans (V2.trans y);exists p5,v4,_,_,rfl,rfl,r _ _ C7,w4,wt (by simp only[bf,bp,cg];omega),λv5 ab=>?_;ext;have R7:=R6.trans r;refine k v5 _ z0 z2 _ af ac (R7.free ab) ya (by simp only[bf,bp,cg];omega) ?_ (R7.trans (vg ab));exact((D6.fr λF F=>r _ _).app (.cons (V2.trans y _ _ w1) (.cons (y _ _ w2) (.cons (V4 _ _ w3) .nil)))).fr λF F=>vg ab _ _
noncomputable def yuh:Ρ:=[Str.ofString "q",Str.ofString "rr",Str.ofString "sss",Str.ofString "tttt",Str.ofString "uuuuu"]
def yu0:∀x,x∈Str.ofString "vvvvvv" ::yuh->OkL x:=by
 have h:∀x,x∈Str.ofString "vvvvvv" ::yuh->(∀c∈x.cps.toList,97<=c/\c<123)/\1<=x.cps.toList.length/\x.cps.toList.length<=8:=by right
 exact λx a=>yn6 (h x a).1 (h x a).2.1 (h x a).2.2
#synth yiw ["_law_names_here","_law_name"] ["_law_names_here"] yoo
inductive ys5(K:z3)(vs:Τ)(H:Hp)(Q:VK)(E':XK):Prop
 |mk(l:z4)(ns:Ρ)(_:vs=[.ref l])(_:H l=some (.lst (ns.map V.str)))(_:ns.length=4)(_:∀f H',OkL f->f∉ns->yv H H'->Q (.str f) H')
def yti(T:Txt K mg a):vn P w K mg Γ CX0 1 a.Lo a.M8 ["_law_names_here"] (ys5 K):=by
 exists T.No.F.ok,yiw,L;let⟨l,g,rfl,I,D,k⟩:=h;exists 1,1,yg (ux PassesOwn.never rfl (ww (vj (pac yj (pac yj (pac yj (pac yj (pa1 yj))))))) (wd (i:=1) yiw.nd rfl (Or.inl rfl)) (yc (vv (yx ſ (pv 1) (pv 0) (by with_unfolding_all rfl)) (yc (yu (pv 1))) y8))) (yc (yu yj));exists by walk_at "len",λu q=>?_
 have j:=vg (o:=(HO.lst [V.str (Str.ofString "q"),V.str (Str.ofString "rr"),V.str (Str.ofString "sss"),V.str (Str.ofString "tttt"),V.str (Str.ofString "uuuuu")])) q;have d:upd H u (HO.lst [V.str (Str.ofString "q"),V.str (Str.ofString "rr"),V.str (Str.ofString "sss"),V.str (Str.ofString "tttt"),V.str (Str.ofString "uuuuu")]) u=some (HO.lst [V.str (Str.ofString "q"),V.str (Str.ofString "rr"),V.str (Str.ofString "sss"),V.str (Str.ofString "tttt"),V.str (Str.ofString "uuuuu")]):=ya;generalize upd H u (HO.lst [V.str (Str.ofString "q"),V.str (Str.ofString "rr"),V.str (Str.ofString "sss"),V.str (Str.ofString "tttt"),V.str (Str.ofString "uuuuu")])=n at j d⊢;have d:n u=some (.lst (yuh.map V.str)):=d
 exists u,rfl,⟨_,SqL.of d⟩,ua (K:=K) (a:=u) (xs:=yuh.map V.str) (λi σ2 G=>∃v,σ2=[some (.ref l),v]/\n=G/\∀x,x∈yuh.take i->x∈g) ⟨_,rfl,rfl,λx c=>nomatch c⟩ (λi σ2 G Z ⟨_,_,z,_⟩=>by rw[<- z];exact SqL.of d) ?_ ?_
 .rintro i x σ2 G c ⟨v,rfl,rfl,b⟩;rw[bq]at c;let⟨f,t,rfl⟩:=Option.map_eq_some_iff.mp c;ext;exists l,g.map V.str,rfl,.inl (SqL.of (j _ _ I)),rfl,yhe _,?_;rw[yki];by_cases h:f∈g
  .rw[bi h];ext;exists _,rfl,rfl,λy r=>?_;let⟨B,e⟩:=bL.mp t;rw[cq B,e]at r;rcases bM.mp r with z|z
   .exact b y z
   .rw[bA.mp z];exact h
  .rw[be h];ext;rw[if_pos (show (if true=true then !false else false)=true from rfl)];ext;exact k f n (yu0 f (bH _ (bB t))) h j
 .rintro σ2 G ⟨v,rfl,rfl,b⟩;have:=yck (l:=yuh) (m:=g) (by right) λx c=>b x (by rw[bc,cD];exact c);rw[D]at this;exact absurd this ∅
structure E4(K:z3)(a:Ads)(c:z4)(b:Bool):Prop where
 em:W.exmOne K (.ref c) (.ref a.A9)=some true
 xc:XCls K c
 kl:W.kitOne K (.ref c) (.ref a.Bx)=some b
 km:W.kitOne K (.ref c) (.ref a.Ai)=some (!b)
 kv:W.kitOne K (.ref c) (.type "ValueError")=some true
 kw:W.kitOne K (.ref c) (.ref a.A3)=some false
def vhy(K:z3)(H:Hp)(x m:V)(b:Bool):Prop:=(b=true/\yt8 K H x)\/(b=false/\∃(l:z4)(n:Nat)(lk tp:Λ)(kd:Ν)(ps:Κ)(nt:String),x=.ref l/\H l=some (.lst (refs lk n))/\1<=n/\n<=6/\xx H n lk kd tp ps/\xu K H m (.type nt)/\yj4 m=false)
#synth ŵ ["_law_looks_here","_law_most","_law_kinds","e"] ["_law_looks_here","_law_most"] yon
inductive yk5(K:z3)(vs:Τ)(H:Hp)(Q:VK)(E':XK):Prop
 |mk(x m:V)(b:Bool)(_:vs=[x,m])(_:vhy K H x m b)(_:∀l H',H l=none->H' l=some (.lst ([b,!b,true,false].map V.bl))->yv H H'->Q (.ref l) H')
def ycx(T:Txt K mg a):vn P w K mg Γ CX0 14 a.Lp a.M9 ["_law_looks_here","_law_most"] (yk5 K):=by
 exists T.Hs.F.ok,ŵ,J;let⟨x,m,b,rfl,h,k⟩:=h
 obtain⟨c,Z,u⟩:∃c,E4 K a c b/\∀(f:Hp)(d:z4)(Q:VK)(E:XK),yv H f->(∀H',yv f H'->E (.ref c) none H')->DkI K a f d Q E x m:=by
  rcases h with⟨rfl,h⟩|⟨rfl,l,n,N,Y,I,W,R,rfl,q,L,X,y,U,G⟩
  .exists _,⟨T.Cn,T.Xt,T.O9,T.Hw,T.Er,T.Gt⟩,λf d Q E S k=>.looks x m (h.same S) k
  .exists _,⟨T.Bh,T.O4,T.Hv,T.Ep,T.Ce,T.E6⟩,λf d Q E S k=>.most l n N Y I W m R (S _ _ q) L X (y.same S) (jz S U) G k
 exists 2,2,yg (y7 (i:=2) ŵ.nd rfl (Or.inl rfl) (vj za)) (yg (ypr (i:=3) (λC Ex=>(yc (y6 (uh T.Nz (yid T) J.m rfl T.Ny T.Nj .nil ţ (pac (pv 0) (pa1 (pv 1))))))) ⟨rfl,rfl⟩ rfl T.Br (λC x=>(yc (y7 (i:=2) ŵ.nd rfl (Or.inl rfl) (vj (pac (pcB (id:="isinstance") (r:=ybn K) xq T.A6 (pac (pv 3) (pa1 (w9 rfl T.Oj)))) (pac (pcB (id:="isinstance") (r:=ybn K) xq T.A6 (pac (pv 3) (pa1 (w9 rfl T.G9)))) (pac (pcB (id:="isinstance") (r:=ybn K) xq T.A6 (pac (pv 3) (pa1 (ji (T:="ValueError") rfl T.Eh (by right))))) (pa1 (pcB (id:="isinstance") (r:=ybn K) xq T.A6 (pac (pv 3) (pa1 (w9 rfl T.Ax)))))))))))) ŵ.nd rfl rfl) (yc (yu (pv 2))));exists by walk_at "len",λl0 hl0=>?_
 exists hl0,H1,S1,hl1;ext;intro d v j g M;have z:yv H1 (upd (upd H1 v (.own d)) d (.ins a.An v [])):=λb o e=>by rw[yq (yb e j),yq (yb e g)];exact e
 exists d,v,x,m,rfl,ya,u _ d _ _ (S1.trans z) λf B=>?_;refine va5 Z.em λe he=>?_;dsimp only[List.set];exists he,H3,S3,e3;ext;refine jy e3 Z.xc Z.kl ?_;ext;refine jy e3 Z.xc Z.km ?_;ext;refine yn1 e3 Z.xc Z.kv ?_;ext;refine jy e3 Z.xc Z.kw ?_;ext;exists by walk_at "len",λl q=>?_
 ext;have p:=S1.trans (z.trans (B.trans S3));exact k l _ (p.free q) ya (p.trans (vg q))
def yj6.sub{H:Hp}{xs ys:Τ}(h:yj6 K H xs (List.replicate xs.length true))(hs:∀y,y∈ys->y∈xs):yj6 K H ys (List.replicate ys.length true):=by exists(cG ..).symm,λi y b c d=>?_;obtain rfl:=cH (bB d);let⟨j,a⟩:=List.mem_iff_getElem?.mp (hs y (bB c));exact h.2 j y true a (by rw[List.getElem?_replicate,if_pos (bL.mp a).1])
def LkB.one{H:Hp}{y:V}(h:LkB K H y false):yj6 K H [y] [false]:=⟨rfl,λi z b a c=>by
 cases i with
 |zero=>cases a;cases c;exact h
 |succ i=>cases a⟩
#synth ych ["_law_looks_here","_law_most","_law_odd"] ["_law_looks_here"] ypq
inductive yyu  (vs:Τ) (H:Hp) (Q:VK) (E':XK):Prop
 |mk(l:z4)(n:Nat)(lk tp:Λ)(kd:Ν)(ps:Κ)(_:vs=[.ref l])(_:H l=some (.lst (refs lk n)))(_:1<=n)(_:n<=6)(_:xx H n lk kd tp ps)(_:∀H',yv H H'->Q (.bl true) H')
def yql(T:Txt K mg a):vn P w K mg Γ CX0 15 a.Lq a.Ma ["_law_looks_here"] yyu:=by
 exists T.Nq.F.ok,ych,J;let⟨l,n,lk,tp,kd,ps,rfl,hl,n1,n6,I,k⟩:=h;refine yh (ux PassesOwn.never rfl (ww (vj (pac (ymv yd9 yf) (pac yf (pac ul (pac jh (pac yj (pac (yn (ys2 1000000000000000000000000000000000000000000000000000000000000) yf yf) (pa1 (vj (pa1 yf))))))))))) (wd (i:=1) ych.nd rfl (Or.inl rfl)) (yc (vv (yx (ļ J.units) (ug (ycx T) J.m T.Hs (pac (pv 0) (pa1 (pv 1)))) (vj (pac ul (pac ul (pac ul (pa1 ul))))) (y9 _)) (yc (yu ul)) y8))) ?_;refine yh (ux PassesOwn.never rfl (ww (vj (pac (vj za) (pac jh (pac yj (pac (yn yjj (pv 0) yf) (pac (pcT Ä T.Fq (pa1 (pv 0))) (pac (vj (pa1 (wa (pac yj (pa1 (wa (pa1 yf))))))) (pa1 (vj (pa1 (pv 0)))))))))))) (wd (i:=2) ych.nd rfl (Or.inl rfl)) (yc (vv (PW.pt (ð (yx (ļ J.units) (ug (ycx T) J.m T.Hs (pac (pv 2) (pa1 yf))) (vj (pac ul (pac ul (pac ul (pa1 ul))))) (y9 _)) (Ö (yx (ļ J.units) (ug (ycx T) J.m T.Hs (pac (pv 2) (pa1 (ymv yd9 yf)))) (vj (pac ul (pac ul (pac ul (pa1 ul))))) (y9 _))))) (yc (yu ul)) y8))) ?_;exists 1,2,yc (yu ul);exists by walk_at "len",λL hu1=>?_
 exists hu1,H1,S1,e1;ext;exists by walk_at "len",λU a4=>?_
 have S2:=vg (o:=(HO.lst [V.int (-1),V.int 1001,V.bl true,V.non,V.str (Str.ofString "3"),V.int 1000000000000000000000000000000000000000000000000000000000000,V.ref L])) a4;have e2:upd H1 U (HO.lst [V.int (-1),V.int 1001,V.bl true,V.non,V.str (Str.ofString "3"),V.int 1000000000000000000000000000000000000000000000000000000000000,V.ref L]) U=some (HO.lst [V.int (-1),V.int 1001,V.bl true,V.non,V.str (Str.ofString "3"),V.int 1000000000000000000000000000000000000000000000000000000000000,V.ref L]):=ya;generalize upd H1 U (HO.lst [V.int (-1),V.int 1001,V.bl true,V.non,V.str (Str.ofString "3"),V.int 1000000000000000000000000000000000000000000000000000000000000,V.ref L])=H2 at S2 e2⊢;have p:=S1.trans S2
 have hm:∀x,x∈[V.int (-1),V.int 1001,V.bl true,V.non,V.str (Str.ofString "3"),V.int 1000000000000000000000000000000000000000000000000000000000000,V.ref L]->∃nt,xu K H2 x (.type nt)/\yj4 x=false :=
  List.forall_mem_cons.mpr ⟨⟨_,.int _,rfl⟩,List.forall_mem_cons.mpr ⟨⟨_,.int _,rfl⟩,List.forall_mem_cons.mpr ⟨⟨_,.bl _,rfl⟩,List.forall_mem_cons.mpr ⟨⟨_,.non,rfl⟩,List.forall_mem_cons.mpr ⟨⟨_,.str _,rfl⟩,List.forall_mem_cons.mpr ⟨⟨_,.int _,by right⟩,List.forall_mem_cons.mpr ⟨⟨_,.lst (S2 _ _ e1),rfl⟩,λx O=>nomatch O⟩⟩⟩⟩⟩⟩⟩
 exists U,rfl,⟨_,SqL.of e2⟩,ua (K:=K) (a:=U) (xs:=[V.int (-1),V.int 1001,V.bl true,V.non,V.str (Str.ofString "3"),V.int 1000000000000000000000000000000000000000000000000000000000000,V.ref L]) (λi σ2 G=>∃v,σ2=[some (.ref l),v,none]/\yv H2 G) ⟨_,rfl,yv.refl _⟩ (λi σ2 G F ⟨_,_,S⟩=>SqL.of (S _ _ e2)) ?_ ?_
 .rintro i x σ2 G O ⟨v,rfl,S⟩;let⟨nt,ty,hf⟩:=hm x (bB O);have M:=p.trans S;ext;exists .ref l,x,false,rfl,.inr ⟨rfl,l,n,lk,tp,kd,ps,nt,rfl,M _ _ hl,n1,n6,I.same M,jz S ty,hf⟩,λr G2 aa g S2=>?_;ext;exists by walk_at "len",λq hq=>?_
  exists hq,G3,S3,e3;ext;refine ymz (Sd.lst (SqL.of (S3 _ _ g)) (jb _)) (Sd.lst (SqL.of e3) (jb [false,true,true,false])) ∅ ?_;ext;exists _,rfl,S.trans (S2.trans S3)
 rintro σ2 G ⟨v,rfl,S⟩;have M:=p.trans S;have C:=M _ _ hl;have a0:=I.same M;clear hm e1 e2 hu1 a4 S1 S2 p S hl I;ext;exists by walk_at "len",λt ha1=>?_
 exists ha1,H1,S1,e1;ext;exists l,_,_,rfl,rfl,S1 _ _ C,∅,∅,wt (by rw[vw];show n*7<=_;omega),λB ha2=>?_
 exists ha2,H2,S2,e2;have d:=S1.trans S2;ext;exists l,_,rfl,.inl ⟨SqL.of (d _ _ C),λN ha3=>?_⟩;exists ha3,H3,S3,e3;ext;exists by walk_at "len",λx1 xg1=>?_
 exists xg1,xH1,xS1,xe1;ext;exists by walk_at "len",λx2 xg2=>?_
 exists xg2,xH2,xS2,xe2;ext;exists by walk_at "len",λj xg3=>?_
 exists xg3,xH3,xS3,xe3;ext;exists by walk_at "len",λu xg4=>?_
 exists xg4,xH4,xS4,xe4;have W:=xS4;have xe3:=W _ _ xe3;have X:=xS3.trans W;have xe2:=X _ _ xe2;have Z:=xS2.trans X;have xe1:=Z _ _ xe1;have e:=xS1.trans Z;ext;exists by walk_at "len",λx5 a6=>?_
 have c:=vg (o:=(HO.lst [V.ref t,V.non,V.str (Str.ofString "even"),V.ref B,V.ref N,V.ref j,V.ref u])) a6;have D:upd xH4 x5 (HO.lst [V.ref t,V.non,V.str (Str.ofString "even"),V.ref B,V.ref N,V.ref j,V.ref u]) x5=some (HO.lst [V.ref t,V.non,V.str (Str.ofString "even"),V.ref B,V.ref N,V.ref j,V.ref u]):=ya;generalize upd xH4 x5 (HO.lst [V.ref t,V.non,V.str (Str.ofString "even"),V.ref B,V.ref N,V.ref j,V.ref u])=Y at c D⊢;have xe1:=c _ _ xe1;have xe2:=c _ _ xe2;have xe3:=c _ _ xe3;have xe4:=c _ _ xe4;have e:=e.trans c;have R:=S3.trans e;have SZ:=M.trans (d.trans R);have a7:=(d.trans R) _ _ C;have a8:=(a0.same (d.trans R)).lks.bs (K:=K)
 have hm:∀y,y∈[V.ref t,V.non,V.str (Str.ofString "even"),V.ref B,V.ref N,V.ref j,V.ref u]->yt8 K Y y :=
  List.forall_mem_cons.mpr ⟨.inr ⟨t,[],[],rfl,(S2.trans R) _ _ e1,∅,⟨rfl,λi y b h=>nomatch h⟩,∅⟩,List.forall_mem_cons.mpr ⟨.inl ⟨_,.non,∅⟩,List.forall_mem_cons.mpr ⟨.inl ⟨_,.str _,∅⟩,List.forall_mem_cons.mpr ⟨.inr ⟨B,_,_,rfl,R _ _ e2,by rw[ycj,vw];show 7*n<=_;omega,a8.sub λy f=>by
   let⟨z,hz,f⟩:=List.mem_flatten.mp f;rw[cH hz]at f
   exact f,λz=>by
   have h6:=z.2.1;rw[ycj,vw]at h6;have h6:7*n<=6:=h6
   omega⟩,List.forall_mem_cons.mpr ⟨.inl ⟨_,.tup (e _ _ e3),∅⟩,List.forall_mem_cons.mpr ⟨.inr ⟨j,_,_,rfl,xe3,by show 1<=_;decide,LkB.one (.inr ⟨x2,_,rfl,xe2,.inr ⟨_,_,_,rfl,.str _,.inr ⟨by right,.inr ⟨x1,[.int 9],rfl,xe1,∅,(λy f=>⟨"int",by rw[bA.mp f];exact .int _⟩),by right⟩⟩⟩⟩),λz=>by cases z.2.2⟩,List.forall_mem_cons.mpr ⟨.inr ⟨u,_,_,rfl,xe4,by show 1<=_;decide,LkB.one (.inl ⟨_,.lst a7,∅,rfl⟩),λz=>by cases z.2.2⟩,λx O=>nomatch O⟩⟩⟩⟩⟩⟩⟩
 exists x5,rfl,⟨_,SqL.of D⟩,ua (K:=K) (a:=x5) (xs:=[V.ref t,V.non,V.str (Str.ofString "even"),V.ref B,V.ref N,V.ref j,V.ref u]) (λi σ2 G=>∃w,σ2=[some (.ref l),v,w]/\yv Y G) ⟨_,rfl,yv.refl _⟩ (λi σ2 G F ⟨_,_,S⟩=>SqL.of (S _ _ D)) ?_ ?_
 .rintro i y σ2 G f ⟨w,rfl,S⟩;have hN:=hm y (bB f);ext;exists y,_,true,rfl,.inl ⟨rfl,hN.same S⟩,λr G2 aa g S2=>?_;ext;exists by walk_at "len",λq hq=>?_
  exists hq,G3,S3,e3;ext;refine ymz (Sd.lst (SqL.of (S3 _ _ g)) (jb _)) (Sd.lst (SqL.of e3) (jb [true,false,true,false])) ∅ ?_;ext;have T3:=S.trans (S2.trans S3);exists y,_,true,rfl,.inl ⟨rfl,hN.same T3⟩,λr4 G4 ab a9 S4=>?_;ext;exists by walk_at "len",λq5 hq5=>?_
  exists hq5,G5,S5,e5;ext;refine ymz (Sd.lst (SqL.of (S5 _ _ a9)) (jb _)) (Sd.lst (SqL.of e5) (jb [true,false,true,false])) ∅ ?_;ext;exists _,rfl,T3.trans (S4.trans S5)
 .rintro σ2 G ⟨w,rfl,S⟩;ext;exact k _ (SZ.trans S)
def yla{ps:Ο}(h:ur (ps.map V.int)=true):∀p,p∈ps->1<=p/\p<=8:=λp b=>by
 unfold ur at h;rw[bJ,bJ]at h;have:=(List.all_eq_true.mp h.1.2) _ (bn.mpr ⟨p,b,rfl⟩);have a:(decide (1<=p) && decide (p<=8))=true:=this;rw[bJ]at a;exists of_decide_eq_true a.1,of_decide_eq_true a.2
def Sto.byt{H:Hp}{C:Cf}{P:qi Pd}{X:Sx}{lk:Λ}(h:Sto K a H st C P X)(hR:xx H C.n lk C.kd tp C.ps)(hP:P.length<=6)(hl:∀q,q∈P->Ŀ q.nm.cps.toList):(∀b,b∈shB C P->0<=b/\b<=255)/\(shB C P).length<=1000000:=by
 let⟨v,A,w,_,_⟩:=h.cf;exists λb d=>?_,?_
 .unfold shB hdB at d;rcases bM.mp d with d|d
  .rcases bM.mp d with d|d
   .rcases bw.mp d with rfl|d
    .omega
    .unfold lkF at d;let⟨l,hl,d⟩:=List.mem_flatten.mp d;let⟨i,f,rfl⟩:=bn.mp hl;have f:=cn.mp f;let⟨_,_,_,_,m⟩:=hR i f;have p:=zu m;rw[bc]at p;have z:=(C.kd i).isLt;rcases bw.mp d with rfl|d
     .omega
     .rcases bw.mp d with rfl|d
      .omega
      .have:=yla m b d;omega
   .rcases bw.mp d with rfl|d
    .omega
    .rw[bA.mp d];omega
  .rcases bw.mp d with rfl|d
   .omega
   .obtain⟨l,g,d⟩:=List.mem_flatten.mp d;let⟨q,j,rfl⟩:=bn.mp g;have y:=xi (h.nm q j).1;unfold pdB nmB at d;rcases bM.mp d with d|d
    .rcases bM.mp d with d|d
     .rcases bw.mp d with rfl|d
      .omega
      .obtain⟨c,r,rfl⟩:=bn.mp d;let⟨k,o⟩:=hl q j c r;rw[yxo k ()];omega
     .rw[bA.mp d]
      cases hbs:q.bs with
      |none=>exact(show (0:Int)<=0/\(0:Int)<=255 by decide)
      |some x =>
       have e:=h.to q j;rw[hbs]at e;let⟨u,t,s,_⟩:=e;have:=List.idxOf_lt_length_iff.mpr (show x∈P.map (·.nm)from bn.mpr ⟨u,t,s⟩);rw[bc]at this;show 0<=(((P.map (·.nm)).idxOf x:Nat):Int)+1/\(((P.map (·.nm)).idxOf x:Nat):Int)+1<=255;omega
    .exact yeo _ b d
 .have k:=h.pls P.length (bj _);have o:=hR.lkl C.n (bj _);rw[cD]at k;unfold shB hdB;rw[bf,bf,bp,bp];show _+1+2+(_+1)<=_;omega
def yia(ws:Ρ):(Str.join ⟨#[32]⟩ ws).length<=(ws.map λw:Str=>w.length).sum+ws.length:=by rw[<- PySem.StrLaws.glued_eq_join,PySem.size_glued];show _+(ws.length-1)*1<=_;omega
def yv6{b:Str}(h:Ŀ b.cps.toList):32∉b.cps.toList:=λz=>by
 have:=h 32 z;omega
def ywh(ts:Ο):32∉(uq ts).cps.toList:=λz=>by
 rw[Ë]at z;let⟨s,_,b⟩:=List.mem_flatMap.mp z
 have a:∀i:Nat,hxC i≠32:=λi=>by
  rcases Nat.lt_or_ge i 16 with h|h
  .exact(by right:∀i:Fin 16,hxC i.val≠32) ⟨i,h⟩
  .unfold hxC;rw[bV,bK (by rw[show hxS.cps.toList.length=16 by right];exact h)];decide
 rcases bw.mp b with e|e
 .exact a _ e.symm
 .exact a _ (bA.mp e).symm
def Bs.goW{B H H':Hp}{X Y:Sx}(h:Bs B H X)(wf:∀y,X.w y->X.f y)(g:Gx X H H' Y):Bs B H' Y :=
 ⟨λy o e=>g.g.fr _ _ (h.s _ _ e) (λw=>by rw[h.n y (wf y w)]at e;cases e),λy w=>(g.f y w).elim (h.n y) λe=>h.s.free e⟩
abbrev Bl(w:Str):Prop:=32∉w.cps.toList/\w.length<=2002
inductive ym7:qi Str->Prop
 |nil:ym7 []
 |cons {w:Str} {r:Ρ} (h:Bl w) (t:ym7 r):ym7 (w::r)
def ym7.nb{ws:Ρ}(h:ym7 ws):(∀w,w∈ws->32∉w.cps.toList/\w.length<=2002)/\(ws.map λw:Str=>w.length).sum<=2002*ws.length:=by
 induction h with
 |nil=>exists(λw a=>nomatch a),bj _
 |cons h t ih =>
  exists λw a=>(bw.mp a).elim (λe=>by rw[e];exact h) (ih.1 w),?_;have:=ih.2;have b:=h.2;rw[bR,List.sum_cons,bp];omega
inductive Wd(a:Ads)(C:Cf)(P:qi Pd):Nat->qi Str->Prop
 |one {v:Str} (n1:v≠Str.ofString "names") (n2:v≠Str.ofString "shelf"):Wd a C P 0 [v]
 |word {v b:Str} (hv:v∉[Str.ofString "get",Str.ofString "bytes",Str.ofString "base",Str.ofString "cost",Str.ofString "drop",Str.ofString "best",Str.ofString "open"]):Wd a C P 0 [v,b]
 |hex {v b:Str} (hv:v=Str.ofString "best"\/v=Str.ofString "open") (h:Ú b=true):Wd a C P 0 [v,b]
 |no3 {v b t:Str} (hv:v≠Str.ofString "put"):Wd a C P 0 [v,b,t]
 |no4 {b t y:Str}:Wd a C P 0 [Str.ofString "put",b,t,y]
 |put {b t:Str} (h:Ú t=true):Wd a C P 0 [Str.ofString "put",b,t]
 |on {b y t:Str} (h:Ú t=true):Wd a C P 0 [Str.ofString "put",b,Str.ofString "on",y,t]
 |np {n:Nat} {v b:Str} (hv:v=Str.ofString "get"\/v=Str.ofString "bytes"\/v=Str.ofString "base"\/v=Str.ofString "cost"\/v=Str.ofString "drop") (h:Np a P b (cl8 a n)):Wd a C P n [v,b]
 |use {b:Str} {r q:Pd} (hb:nmS b=true) (hr:r∈P) (e:r.nm=b) (hq:q∈P) (e2:q.bs=some b):Wd a C P 3 [Str.ofString "drop",b]
 |best {n:Nat} {ts:Ο} (hs:Sgs ts) (hl:C.mo<ts.length) (h:(1000<ts.length/\n=7)\/(ts.length<=1000/\n=5)):Wd a C P n [Str.ofString "best",uq ts]
 |opn {ts:Ο} (hd:ts=[]\/ts=[0]):Wd a C P 6 [Str.ofString "open",uq ts]
 |lay {n:Nat} {b:Str} {ts:Ο} (hs:Sgs ts) (h:LyN a C P b none ts (cl8 a n)):Wd a C P n [Str.ofString "put",b,uq ts]
 |layOn {n:Nat} {b y:Str} {ts:Ο} (hs:Sgs ts) (h:LyN a C P b (some y) ts (cl8 a n)):Wd a C P n [Str.ofString "put",b,Str.ofString "on",y,uq ts]
def Wd.sy{C:Cf}{P:qi Pd}{n:Nat}{ws:Ρ}{H:Hp}{dk:z4}{X:Sx}{Q:VK}{E:XK}(w:Wd a C P n ws)(hP:P.length<60)(hb:∀w,w∈ws->32∉w.cps.toList/\w.length<=2002)(hD:Dk K a H dk C P X)(k:∀H',yv H H'->E (.ref (cl8 a n)) none H'):SyW K a H dk Q E ws:=by
 have j:∀w,w∈ws->w.length<=8000:=λw p=>bX (hb w p).2 ∅;have i:∀{d},yv H d->∀H',yv d H'->E (.ref (cl8 a n)) none H':=λc H' S=>k H' (c.trans S);have f:∀{v b:Str},ws=[v,b]->(∀d,yv H d->SW K a d dk C P X Q E b v)->SyW K a H dk Q E [v,b]:=λ{v b}e g=>.two v b λd c=>⟨dk,C,P,X,v,b,rfl,hD.same c,j _ (by rw[e];simp),g d c⟩;have put:∀{b t:Str}{x:qj Str},b∈ws->t∈ws->(∀y,x=some y->y∈ws)->(∀d,yv H d->(Ú t=true/\∀H',yv d H'->E (.ref a.A3) none H')\/∃ts,t=uq ts/\Sgs ts/\LyI K a d dk C P X Q E b x ts)->∀d,yv H d->yec K a [.ref dk,.str b,.str t,baV x] d Q E:=λ{b t x}o l m g d c=>⟨dk,C,P,X,b,t,x,rfl,hD.same c,j b o,j t l,λy e=>j y (m y e),hP,g d c⟩
 cases w with
 |one n1 n2=>exact .one _ λd c=>⟨dk,C,P,X,_,rfl,hD.same c,.inr (.inr ⟨n1,n2,i c⟩)⟩
 |word hv=>exact f rfl λd c=>.word _ hv (i c)
 |hex hv h=>exact f rfl λd c=>.hex _ hv h (i c)
 |no3 hv=>exact .no3 _ _ _ hv k
 |no4=>exact .no4 _ _ _ k
 |put h=>exact .put _ _ (put (x:=none) (by simp) (by simp) (λy e=>nomatch e) λd c=>.inl ⟨h,i c⟩)
 |on h=>exact .on _ _ _ (put (x:=some _) (by simp) (by simp) (λy e=>by cases e;simp) λd c=>.inl ⟨h,i c⟩)
 |np hv h=>exact f rfl λd c=>.no _ _ hv h (i c)
 |use h0 hr e hq e2=>exact f rfl λd c=>.use _ _ h0 hr e hq e2 (i c)
 |best hs hl h =>
  refine f rfl λd c=>.best _ rfl hs hl (λz=>?_) λz=>?_
  .obtain⟨_,rfl⟩|⟨h,_⟩:=h
   .exact i c
   .omega
  .obtain⟨h,_⟩|⟨_,rfl⟩:=h
   .omega
   .exact i c
 |opn hd=>exact f rfl λd c=>.opn _ rfl hd (i c)
 |lay hs h=>exact .put _ _ (put (x:=none) (by simp) (by simp) (λy e=>nomatch e) λd c=>.inr ⟨_,rfl,hs,.no _ h (i c)⟩)
 |layOn hs h=>exact .on _ _ _ (put (x:=some _) (by simp) (by simp) (λy e=>by cases e;simp) λd c=>.inr ⟨_,rfl,hs,.no _ h (i c)⟩)
def Rw(a:Ads)(C:Cf)(P:qi Pd)(s:Str)(n:Nat):Prop:=∃ws,s=Str.join ⟨#[32]⟩ ws/\ym7 ws/\Wd a C P n ws
def Rw.due{C:Cf}{P:qi Pd}{s:Str}{n:Nat}{H:Hp}{dk:z4}{X:Sx}(h:Rw a C P s n)(hP:P.length<60)(hD:Dk K a H dk C P X):yud K a H dk (.str s) n:=by
 let⟨b,rfl,f,w⟩:=h;have c:=f.nb;have d:b.length<=5:=by cases w<;>simp
 refine λi e Q E k=>.row b (λw g=>(c.1 w g).1) ?_ (w.sy hP c.1 (hD.same e) k);have:=yia b;have:=c.2;have:2002*b.length<=2002*5:=Nat.mul_le_mul_left _ d;omega
local macro_rules | `(tactic| walk_at "row")=>`(tactic| exact ycw (by simp only [jr,ŧ,ck,bR,List.map_nil]; rfl))
local macro_rules | `(tactic| walk_at "bl")=>`(tactic| repeat' first | assumption | exact ym7.nil | decide | refine ym7.cons ?_ ?_)
def yyl{C:Cf}{P:qi Pd}{n:Str}(hn:Bl n)(hl:n.length<=8):∀s,s∈yui n->Rw a C P s 0:=by
 have e:(Str.ofString "get\n"++n).cps.toList=[103,101,116,10]++n.cps.toList:=by rw[jr];rfl
 have b:(Str.ofString "get\n"++n).cps.toList.getD 3 0=10:=by rw[e];rfl
 have f:Bl (Str.ofString "get\n"++n):=⟨by rw[e];simpa using hn.1,by rw[u8,e,bf,<- u8];show 4+_<=_;omega⟩;have d:¬(Str.ofString "get\n"++n).cps.toList.getD 3 0=(Str.ofString "names").cps.toList.getD 3 0:=by rw[b];decide
 have c:¬(Str.ofString "get\n"++n).cps.toList.getD 3 0=(Str.ofString "shelf").cps.toList.getD 3 0:=by rw[b];decide
 unfold yui;simp only[List.forall_mem_append,List.forall_mem_cons]
 refine⟨⟨⟨⟨⟨⟨⟨⟨[Str.ofString ""],by walk_at "row",by walk_at "bl",.one ∅ ∅⟩,
  ⟨[Str.ofString "",Str.ofString ""],by walk_at "row",by walk_at "bl",.word ∅⟩,
  ⟨[Str.ofString "get"],by walk_at "row",by walk_at "bl",.one ∅ ∅⟩,
  ⟨[Str.ofString "put"],by walk_at "row",by walk_at "bl",.one ∅ ∅⟩,
  ⟨[Str.ofString "drop"],by walk_at "row",by walk_at "bl",.one ∅ ∅⟩,
  ⟨[Str.ofString "base"],by walk_at "row",by walk_at "bl",.one ∅ ∅⟩,
  ⟨[Str.ofString "bytes"],by walk_at "row",by walk_at "bl",.one ∅ ∅⟩,
  ⟨[Str.ofString "cost"],by walk_at "row",by walk_at "bl",.one ∅ ∅⟩,
  ⟨[Str.ofString "best"],by walk_at "row",by walk_at "bl",.one ∅ ∅⟩,
  ⟨[Str.ofString "open"],by walk_at "row",by walk_at "bl",.one ∅ ∅⟩,
  ⟨[Str.ofString "names",Str.ofString ""],by walk_at "row",by walk_at "bl",.word ∅⟩,
  ⟨[Str.ofString "shelf",Str.ofString ""],by walk_at "row",by walk_at "bl",.word ∅⟩,
  ⟨[Str.ofString "",Str.ofString "names"],by walk_at "row",by walk_at "bl",.word ∅⟩,λZ h=>nomatch h⟩,⟨⟨[Str.ofString "Names"],by walk_at "row",by walk_at "bl",.one ∅ ∅⟩,
  ⟨[Str.ofString "name"],by walk_at "row",by walk_at "bl",.one ∅ ∅⟩,
  ⟨[Str.ofString "get",n,Str.ofString ""],by walk_at "row",by walk_at "bl",.no3 ∅⟩,
  ⟨[Str.ofString "get",n,n],by walk_at "row",by walk_at "bl",.no3 ∅⟩,
  ⟨[Str.ofString "drop",n,Str.ofString "00"],by walk_at "row",by walk_at "bl",.no3 ∅⟩,λZ h=>nomatch h⟩⟩,⟨⟨[Str.ofString "put",n],by walk_at "row",by walk_at "bl",.word ∅⟩,λZ h=>nomatch h⟩⟩,⟨⟨[Str.ofString "put",n,Str.ofString "0"],by walk_at "row",by walk_at "bl",.put (by right)⟩,
  ⟨[Str.ofString "put",n,Str.ofString "0g"],by walk_at "row",by walk_at "bl",.put (by right)⟩,
  ⟨[Str.ofString "put",n,Str.ofString "0A"],by walk_at "row",by walk_at "bl",.put (by right)⟩,
  ⟨[Str.ofString "put",n,Str.ofString "",Str.ofString "00"],by walk_at "row",by walk_at "bl",.no4⟩,λZ h=>nomatch h⟩⟩,⟨⟨[Str.ofString "put",n,Str.ofString "00",Str.ofString ""],by walk_at "row",by walk_at "bl",.no4⟩,
  ⟨[Str.ofString "put",n,Str.ofString "on",n],by walk_at "row",by walk_at "bl",.no4⟩,
  ⟨[Str.ofString "put",n,Str.ofString "on"],by walk_at "row",by walk_at "bl",.put (by right)⟩,
  ⟨[Str.ofString "put",Str.ofString "",Str.ofString "on",n],by walk_at "row",by walk_at "bl",.no4⟩,λZ h=>nomatch h⟩⟩,⟨⟨[Str.ofString "put",n,Str.ofString "on",n,Str.ofString "000"],by walk_at "row",by walk_at "bl",.on (by right)⟩,
  ⟨[Str.ofString "put",n,Str.ofString "on",n,Str.ofString "on"],by walk_at "row",by walk_at "bl",.on (by right)⟩,
  ⟨[Str.ofString "best",Str.ofString "0"],by walk_at "row",by walk_at "bl",.hex (.inl rfl) (by right)⟩,
  ⟨[Str.ofString "best",Str.ofString "0x"],by walk_at "row",by walk_at "bl",.hex (.inl rfl) (by right)⟩,λZ h=>nomatch h⟩⟩,⟨⟨[Str.ofString "open",Str.ofString "0"],by walk_at "row",by walk_at "bl",.hex (.inr rfl) (by right)⟩,
  ⟨[Str.ofString "open",Str.ofString "",Str.ofString ""],by walk_at "row",by walk_at "bl",.no3 ∅⟩,
  ⟨[Str.ofString "look",n],by walk_at "row",by walk_at "bl",.word ∅⟩,
  ⟨[Str.ofString "shelf",Str.ofString "00"],by walk_at "row",by walk_at "bl",.word ∅⟩,
  ⟨[Str.ofString "get\n"++n],rfl,.cons f .nil,.one (λe=>d (congrArg (λx:Str=>x.cps.toList.getD 3 0) e)) (λe=>c (congrArg (λx:Str=>x.cps.toList.getD 3 0) e))⟩,
  ⟨[Str.ofString "GET",n],by walk_at "row",by walk_at "bl",.word ∅⟩,
  ⟨[Str.ofString "best",Str.ofString "",Str.ofString "00"],by walk_at "row",by walk_at "bl",.no3 ∅⟩,λZ h=>nomatch h⟩⟩
def sgs(h:(ts.all λx=>decide (0<=x) && decide (x<=255))=true):Sgs ts:=λx a=>by
 have:=List.all_eq_true.mp h x a;rw[bJ,decide_eq_true_iff,decide_eq_true_iff]at this;exact this
noncomputable def P2(o w:Str):qi Pd:=[⟨o,none,[],[97]⟩,⟨w,some o,[(o,[97])],[97,98]⟩]
def P2.no{o w x:Str}(h1:o≠x)(h2:w≠x):∀q,q∈P2 o w->q.nm≠x:=List.forall_mem_cons.mpr ⟨h1,List.forall_mem_cons.mpr ⟨h2,λZ h=>nomatch h⟩⟩
def OkL.bl{x:Str}(h:OkL x):Bl x:=⟨yv6 h.2,by have:=xi h.1.1;omega⟩
def yeh(h:ts.length<=1001):Bl (uq ts):=⟨ywh ts,by rw[z8];omega⟩
def ysv{C:Cf}{o w th f:Str}{t0 t1:Ο}(hC:C.mo=2)(hO:OkL o)(hT:OkL th)(hF:OkL f)(noT:∀q,q∈P2 o w->q.nm≠th)(noF:∀q,q∈P2 o w->q.nm≠f)(h0:t0.length=1001)(h1:t1.length=1001)(s0:Sgs t0)(s1:Sgs t1):∀d,d∈yj3 o th f (uq t0) (uq t1)->∃n:Nat,d.2=(n:Int)/\n<8/\Rw a C (P2 o w) d.1 n:=by
 have i:=hO.bl;have g:=hT.bl;have b:=hF.bl;have j:Bl (uq t0):=yeh ();have c:Bl (uq t1):=yeh ();unfold yj3;simp only[List.forall_mem_append,List.forall_mem_cons]
 refine⟨⟨⟨⟨⟨⟨⟨⟨⟨1,rfl,∅,[Str.ofString "get",Str.ofString ""],by walk_at "row",by walk_at "bl",.np (.inl rfl) (.name (by right))⟩,
  ⟨1,rfl,∅,[Str.ofString "get",Str.ofString "A"],by walk_at "row",by walk_at "bl",.np (.inl rfl) (.name (by right))⟩,
  ⟨1,rfl,∅,[Str.ofString "drop",Str.ofString "a1"],by walk_at "row",by walk_at "bl",.np (.inr (.inr (.inr (.inr rfl)))) (.name (by right))⟩,
  ⟨1,rfl,∅,[Str.ofString "get",Str.ofString "abcdefghi"],by walk_at "row",by walk_at "bl",.np (.inl rfl) (.name (by right))⟩,
  ⟨1,rfl,∅,[Str.ofString "put",Str.ofString "",uq [0,0]],by walk_at "row",by walk_at "bl",.lay (sgs ∅) (.inl ⟨by right,rfl⟩)⟩,
  ⟨1,rfl,∅,[Str.ofString "put",Str.ofString "A",uq [0,0,0]],by walk_at "row",by walk_at "bl",.lay (sgs ∅) (.inl ⟨by right,rfl⟩)⟩,
  λZ h=>nomatch h⟩,
  ⟨⟨2,rfl,∅,[Str.ofString "get",th],by walk_at "row",by walk_at "bl",.np (.inl rfl) (.piece hT.1.1 noT)⟩,
  ⟨2,rfl,∅,[Str.ofString "bytes",th],by walk_at "row",by walk_at "bl",.np (.inr (.inl rfl)) (.piece hT.1.1 noT)⟩,
  ⟨2,rfl,∅,[Str.ofString "base",th],by walk_at "row",by walk_at "bl",.np (.inr (.inr (.inl rfl))) (.piece hT.1.1 noT)⟩,
  ⟨2,rfl,∅,[Str.ofString "cost",th],by walk_at "row",by walk_at "bl",.np (.inr (.inr (.inr (.inl rfl)))) (.piece hT.1.1 noT)⟩,
  λZ h=>nomatch h⟩⟩,
  ⟨⟨2,rfl,∅,[Str.ofString "drop",th],by walk_at "row",by walk_at "bl",.np (.inr (.inr (.inr (.inr rfl)))) (.piece hT.1.1 noT)⟩,
  ⟨2,rfl,∅,[Str.ofString "put",th,Str.ofString "on",f,uq [0]],by walk_at "row",by walk_at "bl",.layOn (sgs ∅) (.inr ⟨hT.1.1,.inr ⟨∅,.inr ⟨λy e=>by cases e;exact hF.1.1,hT.1.2,.inr ⟨by rw[hC];decide,.inr ⟨noT,f,rfl,noF,rfl⟩⟩⟩⟩⟩)⟩,
  ⟨3,rfl,∅,[Str.ofString "drop",o],by walk_at "row",by walk_at "bl",.use hO.1.1 bI rfl (bH _ bI) rfl⟩,
  λZ h=>nomatch h⟩⟩,
  ⟨⟨4,rfl,∅,[Str.ofString "put",o,uq []],by walk_at "row",by walk_at "bl",.lay (sgs ∅) (.inr ⟨hO.1.1,.inr ⟨∅,.inr ⟨(λy e=>nomatch e),hO.1.2,.inr ⟨by rw[hC];decide,.inl ⟨⟨_,bI,rfl⟩,rfl⟩⟩⟩⟩⟩)⟩,
  ⟨4,rfl,∅,[Str.ofString "put",o,Str.ofString "on",f,uq [0]],by walk_at "row",by walk_at "bl",.layOn (sgs ∅) (.inr ⟨hO.1.1,.inr ⟨∅,.inr ⟨λy e=>by cases e;exact hF.1.1,hO.1.2,.inr ⟨by rw[hC];decide,.inl ⟨⟨_,bI,rfl⟩,rfl⟩⟩⟩⟩⟩)⟩,
  ⟨5,rfl,∅,[Str.ofString "put",o,uq [1,2,3]],by walk_at "row",by walk_at "bl",.lay (sgs ∅) (.inr ⟨hO.1.1,.inr ⟨∅,.inr ⟨(λy e=>nomatch e),hO.1.2,.inl ⟨by rw[hC];decide,rfl⟩⟩⟩⟩)⟩,
  λZ h=>nomatch h⟩⟩,
  ⟨⟨5,rfl,∅,[Str.ofString "put",th,uq [0,0,0]],by walk_at "row",by walk_at "bl",.lay (sgs ∅) (.inr ⟨hT.1.1,.inr ⟨∅,.inr ⟨(λy e=>nomatch e),hT.1.2,.inl ⟨by rw[hC];decide,rfl⟩⟩⟩⟩)⟩,
  ⟨5,rfl,∅,[Str.ofString "best",uq [0,0,0]],by walk_at "row",by walk_at "bl",.best (sgs ∅) (by rw[hC];decide) (.inr ⟨∅,rfl⟩)⟩,
  ⟨1,rfl,∅,[Str.ofString "put",th,Str.ofString "on",Str.ofString "",uq [0]],by walk_at "row",by walk_at "bl",.layOn (sgs ∅) (.inr ⟨hT.1.1,.inr ⟨∅,.inl ⟨_,rfl,by right,rfl⟩⟩⟩)⟩,
  λZ h=>nomatch h⟩⟩,
  ⟨⟨6,rfl,∅,[Str.ofString "open",uq []],by walk_at "row",by walk_at "bl",.opn (.inl rfl)⟩,
  ⟨6,rfl,∅,[Str.ofString "open",uq [0]],by walk_at "row",by walk_at "bl",.opn (.inr rfl)⟩,
  ⟨1,rfl,∅,[Str.ofString "put",th,Str.ofString "on",Str.ofString "A",uq [0,0,0]],by walk_at "row",by walk_at "bl",.layOn (sgs ∅) (.inr ⟨hT.1.1,.inr ⟨∅,.inl ⟨_,rfl,by right,rfl⟩⟩⟩)⟩,
  λZ h=>nomatch h⟩⟩,
  ⟨⟨2,rfl,∅,[Str.ofString "put",th,Str.ofString "on",f,uq []],by walk_at "row",by walk_at "bl",.layOn (sgs ∅) (.inr ⟨hT.1.1,.inr ⟨∅,.inr ⟨λy e=>by cases e;exact hF.1.1,hT.1.2,.inr ⟨by rw[hC];decide,.inr ⟨noT,f,rfl,noF,rfl⟩⟩⟩⟩⟩)⟩,
  λZ h=>nomatch h⟩⟩,
  ⟨⟨7,rfl,∅,[Str.ofString "best",uq t0],by walk_at "row",by walk_at "bl",.best s0 (by rw[hC];omega) (.inl ⟨(),rfl⟩)⟩,
  ⟨7,rfl,∅,[Str.ofString "put",th,uq t1],by walk_at "row",by walk_at "bl",.lay s1 (.inr ⟨hT.1.1,.inl ⟨(),rfl⟩⟩)⟩,
  ⟨1,rfl,∅,[Str.ofString "put",Str.ofString "",uq t1],by walk_at "row",by walk_at "bl",.lay s1 (.inl ⟨by right,rfl⟩)⟩,
  λZ h=>nomatch h⟩⟩
def Dk.cw{H:Hp}{dk:z4}{C:Cf}{P:qi Pd}{X:Sx}(h:Dk K a H dk C P X):C.w<=200:=by let⟨c,e,Z,f,b,n,d⟩:=h;exact b.cf.2.2.2.2
theorem Dk.ins{H:Hp}{dk:z4}{C:Cf}{P:qi Pd}{X:Sx}(h:Dk K a H dk C P X):∃dd vd,H dk=some (.ins a.An dd (Ó vd)):=by let⟨dd,c,Z,b,_⟩:=h;exists dd,_,b
section
variable{H:Hp}{dk:z4}{C:Cf}{P:qi Pd}{X:Sx}{Q:VK}{E:XK}{s b v:Str}
theorem Dk.row(h:Dk K a H dk C P X){ws:Ρ}(e:s=Str.join ⟨#[32]⟩ ws)(hb:ym7 ws)(hl:ws.length<=5)(g:SyW K a H dk Q E ws):ĺ K a [.ref dk,.str s] H Q E:=by let⟨c,d,f⟩:=h.ins;subst e;have b:=hb.nb;exists dk,c,d,_,rfl,f,.row ws (λw i=>(b.1 w i).1) ?_ g;have:=yia ws;have:=b.2;have:2002*ws.length<=2002*5:=Nat.mul_le_mul_left _ hl;omega
def Dk.putG(h:Dk K a H dk C P X)(e:s=Str.join ⟨#[32]⟩ [Str.ofString "put",b,uq ts])(hs:Sgs ts)(hl:ts.length<=C.w)(bb:Bl b)(ok:OkL b)(hP:P.length<60)(no:∀q,q∈P->q.nm≠b)(k:∀Y H',Dk K a H' dk C (P++[⟨b,none,[],ts⟩]) Y->Gx X H H' Y->Q (.str (Str.ofString "ok")) H'):ĺ K a [.ref dk,.str s] H Q E:=by
 have l:=h.cw;have c:=yeh (ts:=ts) ()
 refine h.row e (.cons ∅ (.cons bb (.cons c .nil))) (by simp) (.put _ _ λj d=>⟨dk,C,P,X,b,_,none,rfl,h.same d,by have:=bb.2;omega,by have:=c.2;omega,(λy e=>nomatch e),hP,.inr ⟨ts,rfl,hs,.ok [] ok.1 (λy e=>nomatch e) hl no rfl λY f i g=>k Y f i (g.ahead d)⟩⟩)
def Dk.onG(h:Dk K a H dk C P X){r:Pd}(e:s=Str.join ⟨#[32]⟩ [Str.ofString "put",b,Str.ofString "on",y,uq ts])(hs:Sgs ts)(hl:ts.length<=C.w)(bb:Bl b)(ok:OkL b)(bY:Bl y)(oy:OkL y)(hr:r∈P)(er:r.nm=y)(hP:P.length<60)(no:∀q,q∈P->q.nm≠b)(k:∀Y H',Dk K a H' dk C (P++[⟨b,some y,r.path++[(y,r.tx)],ts⟩]) Y->Gx X H H' Y->Q (.str (Str.ofString "ok")) H'):ĺ K a [.ref dk,.str s] H Q E:=by have l:=h.cw;have c:=yeh (ts:=ts) ();refine h.row e (.cons ∅ (.cons bb (.cons ∅ (.cons bY (.cons c .nil))))) (by simp) (.on _ _ _ λj d=>⟨dk,C,P,X,b,_,some y,rfl,h.same d,by have:=bb.2;omega,by have:=c.2;omega,(λz e=>by cases e;have:=bY.2;omega),hP,.inr ⟨ts,rfl,hs,.ok _ ok.1 (λz e=>by cases e;exact oy.1.1) hl no ⟨r,hr,er,rfl⟩ λY f i g=>k Y f i (g.ahead d)⟩⟩)
def Dk.twoG(h:Dk K a H dk C P X)(e:s=Str.join ⟨#[32]⟩ [v,b])(bv:Bl v)(bb:Bl b)(g:∀H1,yv H H1->SW K a H1 dk C P X Q E b v):ĺ K a [.ref dk,.str s] H Q E :=
 h.row e (.cons bv (.cons bb .nil)) (by simp) (.two _ _ λH1 c=>⟨dk,C,P,X,v,b,rfl,h.same c,by have:=bb.2;omega,g H1 c⟩)
def Dk.shelfG(h:Dk K a H dk C P X)(hP:P.length<=6)(hl:∀q,q∈P->OkL q.nm)(k:∀H',yv H H'->Q (.str (uq (shB C P))) H'):ĺ K a [.ref dk,.str (Str.ofString "shelf")] H Q E:=by let⟨z,J,Z,r,b,n,G⟩:=id h;let⟨t,u,d,c,x,p,m,I,A,M,B,L,y,U,s,D,o⟩:=id b;have e:=(b.byt s.row hP λq l=>(hl q l).2).1;refine h.row (ws:=[Str.ofString "shelf"]) rfl (.cons ∅ .nil) (by simp) (.one _ λv f=>⟨dk,C,P,X,_,rfl,h.same f,.inr (.inl ⟨rfl,e,?_,λj g=>k j (f.trans g)⟩)⟩);have i:=b.pls P.length (bj _);have w:=s.row.lkl C.n (bj _);have F:=b.cf;rw[cD]at i;unfold shB hdB;rw[bf,bf,bp,bp];show _+1+2+(_+1)<=_;omega
end
#synth ì ["_law_script","_law_names_here","_law_far_here","_law_desk","_law_shelf","_law_row","_law_kind"] ["_law_script"] vbz
inductive yex(K:z3)(vs:Τ)(H:Hp)(Q:VK)(E':XK):Prop
 |mk(l:z4)(ns:Ο)(_:vs=[.ref l])(_:SqL K H l (ns.map V.int))(_:ns.length<=63)(_:∀H',Q (.bl true) H')
def yw8(T:Txt K mg a):vn P w K mg Γ CX0 20 a.R9 a.Mb ["_law_script"] (yex K):=by
 exists T.Nr.F.ok,ì,d;let⟨l,zs,rfl,hS,bb,k⟩:=h;refine yh (y7 (i:=1) ì.nd rfl (Or.inl rfl) (ug (yqv T) d.m T.Nk (pa1 (ug (yc0 T) d.m T.Hr (pac (pv 0) (pa1 yf)))))) ?_;refine yh (y7 (i:=2) ì.nd rfl (Or.inl rfl) (ug (yti T) d.m T.No (pa1 (pv 1)))) ?_;refine yh (vv (xw (xz (ug (yql T) d.m T.Nq (pa1 (ug (yiq T) d.m T.Jo (pa1 (pv 0))))))) (yc (yu ul)) y8) ?_;refine yh (y7 (i:=3) ì.nd rfl (Or.inl rfl) (uh T.Nz (yid T) d.m rfl T.Ny T.Nj .nil vt (pac (ug (yiq T) d.m T.Jo (pa1 (pv 0))) (pa1 yf)))) ?_;refine yh (vv (yx ybk (yz (pv 3) T.Aj T.Ah.m (uv T) d.m T.Ah.B .nil vt (pa1 (yn ye (yn ye yj (xg vy (pv 1) yf (λB B=>rfl))) yj))) yj (y9 _)) (yc (yu ul)) y8) ?_;refine yh (vv (yx ybk (yz (pv 3) T.Aj T.Ah.m (uv T) d.m T.Ah.B .nil vt (pa1 (yn ye (yn ye (yn ye (yn ye yj (xg vy (pv 1) yf (λB B=>rfl))) yj) (xg vy (pv 1) yf (λB B=>rfl))) yj))) yj (y9 _)) (yc (yu ul)) y8) ?_;refine yh (y7 (i:=4) ì.nd rfl (Or.inl rfl) (yz (pv 3) T.Aj T.Ah.m (uv T) d.m T.Ah.B .nil vt (pa1 yj))) ?_;refine yh (ux PassesOwn.never rfl (ww (ug (ys0 T) d.m T.Nm (pa1 (xg vy (pv 1) yf (λB B=>rfl))))) (wd (i:=5) ì.nd rfl (Or.inl rfl)) (yc (vv (xw (xz (ug (yix T) d.m T.Jp (pac (pv 3) (pac (pv 5) (pa1 yf)))))) (yc (yu ul)) y8))) ?_;refine yh (ux PassesOwn.never rfl (ww (yn yjj (ug (yrj T) d.m T.Nn (pac (pv 1) (pa1 (pv 2)))) yf)) (yd8 rfl (ub (wd (i:=5) ì.nd rfl (Or.inl rfl)) (ub (wd (i:=6) ì.nd rfl (Or.inl rfl)) Ė))) (yc (vv (xw (xz (ug (yix T) d.m T.Jp (pac (pv 3) (pac (pv 5) (pa1 (pv 6))))))) (yc (yu ul)) y8))) ?_;refine yh (vv (PW.pt (ð (yx ybk (yz (pv 3) T.Aj T.Ah.m (uv T) d.m T.Ah.B .nil vt (pa1 yj)) (pv 4) (y9 _)) (Ö (yx ybk (yz (pv 3) T.Aj T.Ah.m (uv T) d.m T.Ah.B .nil vt (pa1 (yn ye (yn ye yj (pv 2)) yj))) yj (y9 _))))) (yc (yu ul)) y8) ?_;refine yh (vv (PW.pt (ð (yx ybk (yz (pv 3) T.Aj T.Ah.m (uv T) d.m T.Ah.B .nil vt (pa1 (yn ye (yn ye (yn ye (yn ye yj (xg vy (pv 1) yf (λB B=>rfl))) yj) (pv 2)) yj))) yj (y9 _)) (Ö (yx ybk (yz (pv 3) T.Aj T.Ah.m (uv T) d.m T.Ah.B .nil vt (pa1 (yn ye yj (xg vy (pv 1) yf (λB B=>rfl))))) yj (y9 _))))) (yc (yu ul)) y8) ?_;refine yh (vv (PW.pt (ð (yx ybk (yz (pv 3) T.Aj T.Ah.m (uv T) d.m T.Ah.B .nil vt (pa1 (yn ye yj (xg vy (pv 1) yf (λB B=>rfl))))) yj (y9 _)) (Ö (yx ybk (yz (pv 3) T.Aj T.Ah.m (uv T) d.m T.Ah.B .nil vt (pa1 (yn ye yj (xg vy (pv 1) yf (λB B=>rfl))))) yj (y9 _))))) (yc (yu ul)) y8) ?_;exists 1,6,yc (yu (zi (uu xk (yz (pv 3) T.Aj T.Ah.m (uv T) d.m T.Ah.B .nil vt (pa1 (yn ye (yn ye yj (xg vy (pv 1) yf (λB B=>rfl))) yj))) yj (y9 _)) (ι (uu xk (yz (pv 3) T.Aj T.Ah.m (uv T) d.m T.Ah.B .nil vt (pa1 yj)) (uy PySem.F.plainAttrs_str PySem.F.slot_str_join PySem.F.type_str_join Ū yj (pa1 (vj (pac (pv 2) (pac (xg vy (pv 1) yf (λB B=>rfl)) (pa1 (xg vy (pv 1) yf (λB B=>rfl)))))))) (y9 _)))));exists l,zs,4,rfl,hS,∅,λc4 aZ b5=>?_
 ext;exists c4,rfl,aZ,b5,λnl ns H1 aH W S1 n4 u ac=>?_
 obtain⟨o,w,th,r4,rfl⟩:∃o w th r4,ns=[o,w,th,r4]:=by
  match ns,n4 with
  |[o,w,th,r4],_=>exists o,w,th,r4,rfl
 ext;exists nl,_,rfl,W,rfl,λf H2 hF a7 S2=>?_;have aI:=S2.seq (S1.seq hS);have al:=S2 _ _ W;clear hS S1 S2 aH W;ext;exists l,zs,rfl,aI,λlo n lk kd tp ps H3 aM ae n1 n6 aK S3=>?_;ext;exists lo,n,lk,tp,kd,ps,rfl,ae,n1,n6,aK,λH4 S4=>?_;have aD:=S3.trans S4;ext;exists l,zs,rfl,aD.seq aI,λlo n lk kd tp ps H5 aw am n1 n6 aJ S5=>?_;have a1:=aD.trans S5;ext;intro M dd I af aW;have SQ:yv H5 (upd (upd H5 dd (.own M)) M (.ins a.An dd [])):=λb o e=>by rw[yq (yb e I),yq (yb e af)];exact e
 exists M,dd,.ref lo,.int 2,rfl,ya,.good lo 2 2 n lk tp kd ps (SQ _ _ am) n1 n6 (aJ.same SQ) ∅ ∅ ∅ λX H6 hD b6 f6=>⟨rfl,?_⟩;have hB:Bs H2 H6 X:=⟨λy o e=>b6 _ _ (SQ _ _ (a1 _ _ e)) (yb (a1 _ _ e) I),λy w=>(f6 y w).elim (λz=>by rw[z];exact a1.free I) λz=>a1.free (SQ.free z)⟩;clear S3 S4 aD S5 a1 SQ b6 f6 I af aW aM ae aK aw am aJ;have hO:=ac o (by simp);have hW:=ac w (by simp);have hT:=ac th (by simp);have lO:Ln 1 o:=.c hO.bl.2;have lW:Ln 1 w:=.c hW.bl.2;have lT:Ln 1 th:=.c hT.bl.2;have lF:Ln 1 f:=.c hF.bl.2;have bO:=hO.bl;have bW:=hW.bl;have bT:=hT.bl;have bF:=hF.bl;have aB:o≠w:=λe=>by rw[e]at u;simp at u
 have a6:o≠th:=λe=>by rw[e]at u;simp at u
 have ao:w≠th:=λe=>by rw[e]at u;simp at u
 have U:o≠f:=λe=>a7 (by rw[<- e];simp);have a9:w≠f:=λe=>a7 (by rw[<- e];simp);have b4:th≠f:=λe=>a7 (by rw[<- e];simp);clear ac u a7 n4;have ix:∀{H:Hp}{X:Sx},Bs H2 H X->SqL K H nl [.str o,.str w,.str th,.str r4]:=λb=>SqL.of (b.s _ _ al);let⟨d6,v6,ay⟩:=hD.ins;ext;refine xo (v:=.str o) (ix hB) (vi (j:=0) rfl) ?_
 walk_at "ad"
 refine hD.putG (by walk_at "row") (ts:=[97]) (sgs ∅) (by show 1<=2;decide) bO hO ∅ (λq hq=>nomatch hq) λX7 H7 g g7=>?_
 have N:=hB.goW hD.wf g7;let⟨d7,v7,aF⟩:=g.ins;clear hB hD g7 ay;ext;exists rfl,_,rfl,?_;rw[bi rfl];refine xh ?_;ext;refine xo (v:=.str w) (ix N) (vi (j:=1) rfl) ?_
 walk_at "ad"
 refine xo (v:=.str o) (ix N) (vi (j:=0) rfl) ?_
 walk_at "ad"
 refine g.onG (r:=⟨o,none,[],[97]⟩) (by walk_at "row") (ts:=[97,98]) (sgs ∅) (by show 2<=2;decide) bW hW bO hO (by simp) rfl (by show 1<60;decide) (λq hq=>by rw[bA.mp hq];exact aB) λX8 H8 O g8=>?_;have a0:=N.goW g.wf g8;have O:Dk K a H8 M ⟨n,kd,ps,2,2⟩ (P2 o w) X8:=O;let⟨d8,v8,b3⟩:=O.ins;clear N g g8 aF
 have aj:∀q,q∈P2 o w->OkL q.nm:=List.forall_mem_cons.mpr ⟨hO,List.forall_mem_cons.mpr ⟨hW,λB h=>nomatch h⟩⟩
 ext;exists rfl,_,rfl,?_;rw[bi rfl];refine xh ?_;ext;refine O.shelfG (by show 2<=6;decide) aj λH9 S9=>?_;have ax:=a0.same S9;have a8:=O.same S9;clear a0 O S9 b3;ext;refine xo (v:=.str th) (ix ax) (vi (j:=2) rfl) ?_;ext;exists th,rfl,xi hT.1.1,λr p t aE av Y ai ag a3=>?_;ext
 have aP:∀v,v∈(yui th).map V.str++[.non,.int 7,.ref p,.bl true,.ref t]->∀G,yv aE G->yud K a G M v 0:=λv hv G S=>by
  rcases bM.mp hv with z|z
  .obtain⟨s,hs,rfl⟩:=bn.mp z;exact(yyl bT (xi hT.1.1) s hs).due (by show 2<60;decide) (a8.same (a3.trans S))
  .obtain⟨nt,ty,hn⟩:=(show ∀v,v∈[V.non,.int 7,.ref p,.bl true,.ref t]->∃nt,xu K aE v (.type nt)/\nt≠"str" from List.forall_mem_cons.mpr ⟨⟨_,.non,∅⟩,List.forall_mem_cons.mpr ⟨⟨_,.int _,∅⟩,List.forall_mem_cons.mpr ⟨⟨_,.lst ai,∅⟩,List.forall_mem_cons.mpr ⟨⟨_,.bl _,∅⟩,List.forall_mem_cons.mpr ⟨⟨_,.tup ag,∅⟩,λB h=>nomatch h⟩⟩⟩⟩⟩) v z
   exact λH1 S1 Q2 E2 k=>.odd v nt (jz (S.trans S1) ty) hn k
 exists r,rfl,⟨_,SqL.of Y⟩,ua (K:=K) (a:=r) (xs:=(yui th).map V.str++[.non,.int 7,.ref p,.bl true,.ref t]) (λi σ2 G=>∃w5,σ2=[some (.ref l),some (.ref nl),some (.str f),some (.ref M),some (.str (uq (shB ⟨n,kd,ps,2,2⟩ (P2 o w)))),w5,none]/\yv aE G) ⟨_,rfl,yv.refl _⟩ (λi σ2 G B ⟨_,_,S⟩=>SqL.of (S _ _ Y)) ?_ ?_
 .rintro i v σ2 G hv ⟨w5,rfl,S⟩;have b9:=a8.same (a3.trans S);let⟨dG,vG,aV⟩:=b9.ins;ext;exists M,dG,vG,v,0,rfl,aV,∅,aP v (bB hv) G S,λG2 S2=>?_
  ext;exists _,rfl,S.trans S2
 rintro σ2 G ⟨w5,rfl,SG⟩;have Z:=ax.same (a3.trans SG);have a2:=a8.same (a3.trans SG);clear aP av Y ai ag SG a3 ax a8;ext;exists nl,o,w,th,r4,f,rfl,Z.s _ _ al,xi hO.1.1,xi hT.1.1,xi hF.1.1,λr xs z0 z1 aL aN aQ av ak b7 az aR=>?_;have ap:=ysv (a:=a) (C:=⟨n,kd,ps,2,2⟩) (o:=o) (w:=w) (th:=th) (f:=f) (t0:=List.replicate 1001 0) (t1:=List.replicate 1001 97) rfl hO hT hF (P2.no a6 ao) (P2.no U a9) cG cG (λx hx=>by rw[cH hx];decide) (λx hx=>by rw[cH hx];decide);rw[<- aN,<- aQ]at ap;clear aN aQ;ext;exists r,_,_,rfl,rfl,ak,∅,∅,wt (by show xs.length*2<=_;omega),λr2 ah=>?_
 have aa:=vg (o:=(HO.lst (List.replicate (2:Int).toNat xs).flatten)) ah;have D:upd aL r2 (HO.lst (List.replicate (2:Int).toNat xs).flatten) r2=some (HO.lst (List.replicate (2:Int).toNat xs).flatten):=ya;generalize upd aL r2 (HO.lst (List.replicate (2:Int).toNat xs).flatten)=aO at aa D⊢;have an:TD aO (List.replicate (2:Int).toNat xs).flatten (yj3 o th f z0 z1++(yj3 o th f z0 z1++[])):=(az.app (az.app .nil)).fr λB B=>aa _ _;have a4:=aR.trans aa;exists r2,rfl,⟨_,SqL.of D⟩,ua (K:=K) (a:=r2) (xs:=(List.replicate (2:Int).toNat xs).flatten) (λi σ2 G=>∃w5 w6,σ2=[some (.ref l),some (.ref nl),some (.str f),some (.ref M),some (.str (uq (shB ⟨n,kd,ps,2,2⟩ (P2 o w)))),w5,w6]/\yv aO G) ⟨_,_,rfl,yv.refl _⟩ (λi σ2 G B ⟨_,_,_,S⟩=>SqL.of (S _ _ D)) ?_ ?_
 .rintro i v σ2 F hv ⟨w5,w6,rfl,S⟩;let⟨t,s1,k1,rfl,ht,hm⟩:=an.at hv;let⟨m,em,aX,aY⟩:=ap (s1,k1) (by simpa using hm);have aS:=a2.same (a4.trans S);let⟨dF,vF,aT⟩:=aS.ins;obtain rfl:k1=(m:Int):=em;refine yee (SqT.of (S _ _ ht)) rfl ?_;ext;exists M,dF,vF,.str s1,m,rfl,aT,aX,aY.due (by show 2<60;decide) aS,λG2 S2=>?_;ext;exists _,_,rfl,S.trans S2
 rintro σ2 F ⟨w5,w6,rfl,SF⟩;have hB:=Z.same (a4.trans SF);have hD:=a2.same (a4.trans SF);clear ap av ak D ah az an b7 aR aa a4 SF Z a2;let⟨d1,v1,ar⟩:=hD.ins;ext;refine hD.shelfG (by show 2<=6;decide) aj λH1 S1=>?_;have aG:=hB.same S1;have ab:=hD.same S1;clear hB hD S1 ar;let⟨d1,v1,ar⟩:=ab.ins;ext;exists rfl,?_;rw[bi rfl]
 walk_at "ad"
 refine ab.putG (by walk_at "row") (ts:=[]) (sgs ∅) (bN _) bF hF (by show 2<60;decide) (P2.no U a9) λX2 G2 ad g2=>?_;have aA:=aG.goW ab.wf g2;let⟨d2,v2,b1⟩:=ad.ins;clear aG ab g2 ar;ext;exists rfl,_,rfl,?_;rw[bi rfl];refine xh ?_;ext;refine xo (v:=.str th) (ix aA) (vi (j:=2) rfl) ?_
 walk_at "ad"
 refine ad.onG (r:=⟨f,none,[],[]⟩) (by walk_at "row") (ts:=[0]) (sgs ∅) (by show 1<=2;decide) bT hT bF hF (by simp) rfl (by show 3<60;decide) (λq hq=>(bM.mp hq).elim (P2.no a6 ao q) λz=>by rw[bA.mp z];exact b4.symm) λX3 G3 R g3=>?_;have as:=aA.goW ad.wf g3;have R:Dk K a G3 M ⟨n,kd,ps,2,2⟩ [⟨o,none,[],[97]⟩,⟨w,some o,[(o,[97])],[97,98]⟩,⟨f,none,[],[]⟩,⟨th,some f,[(f,[])],[0]⟩] X3:=R;let⟨d3,v3,ba⟩:=R.ins;clear aA ad g3 b1;ext;exists rfl,?_;rw[bi rfl];ext;refine xo (v:=.str th) (ix as) (vi (j:=2) rfl) ?_
 walk_at "ad"
 refine R.twoG (v:=Str.ofString "get") (by walk_at "row") ∅ bT λF1 T1=>.get ⟨th,some f,[(f,[])],[0]⟩ hT.1.1 (by simp) rfl λX4 G4 a5 g4=>?_;have g4:=g4.ahead T1;have aC:=as.goW R.wf g4;let⟨d4,v4,aU⟩:=a5.ins;clear as R g4 ba T1;ext;exists rfl,_,rfl,?_;rw[bi (show V.str (uq [0])=V.str (Str.ofString "00")from rfl)];refine xh ?_;ext;refine xo (v:=.str w) (ix aC) (vi (j:=1) rfl) ?_
 walk_at "ad"
 refine a5.twoG (v:=Str.ofString "drop") (by walk_at "row") ∅ bW λF1 T1=>.drop ⟨w,some o,[(o,[97])],[97,98]⟩ hW.1.1 (by simp) rfl (List.forall_mem_cons.mpr ⟨(λe=>nomatch e),List.forall_mem_cons.mpr ⟨λe=>aB (bC e),List.forall_mem_cons.mpr ⟨(λe=>nomatch e),List.forall_mem_cons.mpr ⟨λe=>a9 (bC e).symm,λB h=>nomatch h⟩⟩⟩⟩) λX5 G5 J g5=>?_
 have g5:=g5.ahead T1;have aq:=aC.goW a5.wf g5
 have J:Dk K a G5 M ⟨n,kd,ps,2,2⟩ [⟨o,none,[],[97]⟩,⟨f,none,[],[]⟩,⟨th,some f,[(f,[])],[0]⟩] X5:=by
  simpa[List.filter_cons,aB,a9.symm,ao.symm]using J
 let⟨d5,v5,b0⟩:=J.ins;clear aC a5 g5 aU T1;ext;exists rfl,?_;rw[bi rfl];ext;refine xo (v:=.str o) (ix aq) (vi (j:=0) rfl) ?_
 walk_at "ad"
 refine J.twoG (v:=Str.ofString "drop") (by walk_at "row") ∅ bO λF1 T1=>.drop ⟨o,none,[],[97]⟩ hO.1.1 (by simp) rfl (List.forall_mem_cons.mpr ⟨(λe=>nomatch e),List.forall_mem_cons.mpr ⟨(λe=>nomatch e),List.forall_mem_cons.mpr ⟨λe=>U (bC e).symm,λB h=>nomatch h⟩⟩⟩) λX6 G6 L g6=>?_
 have g6:=g6.ahead T1;have au:=aq.goW J.wf g6
 have L:Dk K a G6 M ⟨n,kd,ps,2,2⟩ [⟨f,none,[],[]⟩,⟨th,some f,[(f,[])],[0]⟩] X6:=by
  simpa[List.filter_cons,U.symm,a6.symm]using L
 let⟨d6,v6,ay⟩:=L.ins;clear aq J g6 b0 T1;ext;exists rfl,_,rfl,?_;rw[bi rfl];refine xh ?_;ext;refine xo (v:=.str o) (ix au) (vi (j:=0) rfl) ?_
 walk_at "ad"
 refine L.putG (by walk_at "row") (ts:=[]) (sgs ∅) (bN _) bO hO (by show 2<60;decide) (List.forall_mem_cons.mpr ⟨U.symm,List.forall_mem_cons.mpr ⟨a6.symm,λB h=>nomatch h⟩⟩) λX7 G7 g g7=>?_
 have N:=au.goW L.wf g7;let⟨d7,v7,aF⟩:=g.ins;clear au L g7 ay;ext;exists rfl,_,rfl,?_;rw[bi rfl];refine zt ?_;ext;refine g.row (ws:=[Str.ofString "names"]) rfl (.cons ∅ .nil) (by simp) (.one _ λF1 T1=>⟨M,_,_,X7,_,rfl,g.same T1,.inl ⟨rfl,λF2 T2=>?_⟩⟩);have a0:=(N.same T1).same T2;ext;exists rfl,?_;ext;refine xo (v:=.str th) (ix a0) (vi (j:=2) rfl) ?_;ext;refine xo (v:=.str o) (ix a0) (vi (j:=0) rfl) ?_;ext;exists by walk_at "len",λq hq=>?_
 exists hq,F3,T3,e3;exists⟨#[32]⟩,q,[f,th,o],rfl,rfl,SqL.of e3,?_,?_
 .have h1:=xi hF.1.1;have h2:=xi hT.1.1;have h3:=xi hO.1.1;show f.length+(th.length+(o.length+0))+3*1<=_;omega
 ext;exists rfl,?_;show Q (.bl (decide (V.str (Str.join ⟨#[32]⟩ [f,th,o])=V.str (Str.join ⟨#[32]⟩ [f,th,o])))) F3;rw[bi rfl];exact k _
end
variable{C:Cf}{P:qi Pd}{X Y:Sx}
def all_mk{l:W.OpenLaw}{w:qd}{K:z3}{mg:Ε}{fa:z4}(hfa:mg "law"=some (.ref fa))(T:Txt K mg a)
 :∃fd:FuncData,(∀(s:qa)(v:qb),BindsTo s fd ⟨[v],[]⟩ [("_law_script",v)])/\∀Γ:qf,K.In Γ->Γ.Ns mainGlobals mg->vn l.prog w K mg Γ CX0 20 fa fd ["_law_script"] (yex K):=by have e:=hfa.symm.trans T.Nr.m;obtain rfl:=Value.ref.inj (bC e);exists a.Mb,λs v=>?_,λΓ Z Z=>yw8 T;let⟨_,_,_,_,_,_,_,_,_,e,_,_⟩:=T.Nr.F.ex;rw[e];exact .of_eq rfl
def walk{l:W.OpenLaw}{q:qh}{loose:Ρ}{XP:(Ε)->qf->Prop}{YP:qd->qf->Prop}{d:DefRec}{K:Params->z3}(hn:l.most=some 63)(hdf:d.params.defaults=[])
  (hY:∀(w:qd)(h:qf),YP w h->(K w.params).In h)
  (F:∀(w:qd)(mg:Ε)(fa:z4)(h:qf),(K w.params).In h->h.Ns mainGlobals mg->mg d.name=some (.ref fa) ->
   ∃fd:FuncData,(∀(s:qa)(u:qb),BindsTo s fd ⟨[u],[]⟩ [("_law_script",u)])/\∀Γ:qf,(K w.params).In Γ->Γ.Ns mainGlobals mg->vn l.prog w (K w.params) mg Γ CX0 20 fa fd ["_law_script"] (yex (K w.params))):
  W.WalkO q loose XP YP l.row.toRowW d [] (λf vs=>PySem.call f vs) :=
 L2.walk_of (n:=63) (k:=20) (x:="_law_script") (CX:=λZ=>CX0) (sp:=λw=>yex (K w.params)) hn ∅ hdf ⟨rfl,∅,∅⟩ hY F (λZ Z a e b Z c=>⟨a,e,rfl,c,b,λZ=>rfl⟩) λZ Z Z Z Z z=>z
end Law
end
open PySem PySem.W PyProof.Rows
set_option maxRecDepth 100000 in
set_option maxHeartbeats 0 in
theorem PySem.Challenge.cw_foretell_k54_desk_refused_holds : PySem.Challenge.rw_foretell_k54_desk_refused.Holds := by
 refine H0.2 ?_
 unfold H0
 dsimp only []
 k_fill
 refine Law.walk (l := PySem.Challenge.rw_foretell_k54_desk_refused) rfl rfl (fun w h Y => PySem.W.kIn_of Y) ?F
 case F =>
  intro w mg fa h KX G hmg
  refine' Law.all_mk hmg (Law.Txt.mk (a := Law.Ads.mk) ..)
  any_goals (refine L2.pG ?_; try dsimp only)
  any_goals (refine L2.pG ?_; first | (refine' PySem.W.mg_of KX G ?_; k_is; done) | (refine' PySem.W.mg_none_of KX G ?_; k_is; done))
  any_goals (refine L2.pG ?_; first | (refine' L2.Dg.d1 (L2.dgf_mk KX G ?_ ?_ ?_ ?_); any_goals k_is; done) | (refine' L2.Dg.d2 (L2.dgf_mk KX G ?_ ?_ ?_ ?_); any_goals k_is; done) | (refine' L2.Dg.d3 (L2.dgf_mk KX G ?_ ?_ ?_ ?_); any_goals k_is; done) | (refine' L2.Dg.d1 (L2.dgm_mk ?_ ?_ ?_ ?_ ?_); any_goals k_is; done) | (refine' L2.Dg.d2 (L2.dgm_mk ?_ ?_ ?_ ?_ ?_); any_goals k_is; done) | (refine' L2.Dg.d3 (L2.dgm_mk ?_ ?_ ?_ ?_ ?_); any_goals k_is; done) | (refine' L2.Dg.d4 (L2.dgm_mk ?_ ?_ ?_ ?_ ?_); any_goals k_is; done) | (refine' L2.funD_mk ?_ ?_ ?_; any_goals k_is; done) | (refine' L2.bindsR (j := 2) ?hj ?hh ?hd; (case hd=>k_is); (case hj => rfl); (case hh => exact fun _ _ _ _ _ _ _ _ => Exists.intro _ ⟨rfl, rfl⟩); done) | (refine' L2.bindsR (j := 3) ?hj ?hh ?hd; (case hd=>k_is); (case hj => rfl); (case hh => exact fun _ _ _ _ _ _ _ _ _ => Exists.intro _ ⟨rfl, rfl⟩); done) | (refine' L2.bindsR (j := 4) ?hj ?hh ?hd; (case hd=>k_is); (case hj => rfl); (case hh => exact fun _ _ _ _ _ _ _ _ _ _ => Exists.intro _ ⟨rfl, rfl⟩); done) | (refine' L2.XCls.mk ?_ ?_ ?_ ?_ ?_ ?_ ?_ ?_ <;> k_is) | (refine' L2.Cls.mk ?_ ?_ ?_ ?_ <;> k_is) | (refine' L2.Mk.mk ?_ ?_ ?_ ?_; any_goals k_is; done) | (refine' L2.Meth.mk ?_ ?_ ?_; any_goals k_is; done) | ((first | refine' L2.exm_mk ?_ ?_ ?_ ?_ | refine' L2.exm_mkB ?_ ?_ ?_ ?_); any_goals (first | k_is | k_exc); done) | (unfold L2.NoAttr; k_is) | k_is | kit_is | k_exc | (with_reducible show _ = _; first | k_is | k_exc))
  any_goals (refine L2.pG ?_; first | (refine' L2.funD_mk ?_ ?_ ?_; any_goals k_is; done) | (refine' L2.bindsR (j := 2) ?hj ?hh ?hd; (case hd=>k_is); (case hj => rfl); (case hh => exact fun _ _ _ _ _ _ _ _ => Exists.intro _ ⟨rfl, rfl⟩); done) | (refine' L2.bindsR (j := 3) ?hj ?hh ?hd; (case hd=>k_is); (case hj => rfl); (case hh => exact fun _ _ _ _ _ _ _ _ _ => Exists.intro _ ⟨rfl, rfl⟩); done) | (refine' L2.bindsR (j := 4) ?hj ?hh ?hd; (case hd=>k_is); (case hj => rfl); (case hh => exact fun _ _ _ _ _ _ _ _ _ _ => Exists.intro _ ⟨rfl, rfl⟩); done))
#print axioms PySem.Challenge.cw_foretell_k54_desk_refused_holds
