import PyProof.Rows.All
import Wide.All
import OpenK.AllK
import Wide.FinOn
import PyProof.EqAt
import PyProof.EqKinds
import PyProof.TupleCall
import Lean
import PySem.Challenge.RW_foretell_k51_opened
set_option Elab.async false
set_option linter.all false
set_option hygiene false
set_option bootstrap.genMatcherCode false
set_option compiler.extract_closed false
set_option maxRecDepth 100000
set_option maxHeartbeats 0
local macro_rules | `(tactic| exists $ts,*)=>`(tactic| refine ⟨$ts,*⟩)
local macro_rules | `(tactic| omega)=>`(tactic| first | with_reducible assumption | lia | omega (config:={}))
open Lean.Parser.Tactic in
local macro_rules | `(tactic| let $p:term := $e)=>do
 let s<-p.raw.rewriteBottomUpM fun x=>do
  if x.isOfKind `Lean.Parser.Term.anonymousCtor then
   let ps<-x[1].getSepArgs.mapM fun y=>`(rcasesPatLo| $(⟨y⟩):rcasesPat)
   return (<-`(rcasesPat| ⟨$[$ps:rcasesPatLo],*⟩)).raw
  else if x.isIdent then return (<-`(rcasesPat| $(⟨x⟩):ident)).raw
  else if x.isOfKind `Lean.Parser.Term.hole then return (<-`(rcasesPat| _)).raw
  else return x
 `(tactic| obtain $(⟨s⟩):rcasesPat:=$e)
namespace PySem.W.Fast
local macro_rules
 | `(#synth $k:ident $ns*)=>do return Lean.mkNullNode ((<-(ns.foldl (fun c n=>c.push (n.raw.isNatLit?.get!+c.back?.getD 0)) #[]).mapM fun n=>`(theorem $(Lean.mkIdent (.mkSimple s!"tw{((`H0).str s!"{k.getId}_{n}").hash}")) : True:=⟨⟩)).map (·.raw))
 | `(#synth $k:ident)=>`(theorem $(Lean.mkIdent (.mkSimple s!"tw{k.getId.hash}")) : True:=⟨⟩)
#synth PySem.Challenge.pw_foretell_k51_opened
#synth heap 39 7 1382
#synth tree 47 23 15 15 15 15 15 15 15 15 15 15 15 15 15 48 45 37 43 43 50 16 65 45 51 47 85 15 58 35 51 42 140 86 31 66 63
#synth view 39
#synth sts 49 22 15 15 15 15 15 15 15 15 15 15 15 15 15 48 45 37 43 43 50 16 65 45 51 47 85 15 58 35 51 42 229 28 66
#synth o 43 2 1 3 2 2 1 1 1 1 1 1 1 1 2 1 1 1 1 1 1 1 1 2 1 1 1 1 2 1 1 1 1 1 1 1 2 1 1 1 1 2 1 1 1 1 1 1 1 2 1 1 1 1 2 1 1 1 1 1 1 1 2 1 1 1 1 2 1 1 1 1 1 1 1 2 1 1 1 1 2 1 1 1 1 1 1 1 2 1 1 1 1 2 1 1 1 1 1 1 1 2 1 1 1 1 2 1 1 1 1 1 1 1 2 1 1 1 1 2 1 1 1 1 1 1 1 2 1 1 1 1 2 1 1 1 1 1 1 1 2 1 1 1 1 2 1 1 1 1 1 1 1 2 1 1 1 1 2 1 1 1 1 1 1 1 2 1 1 1 1 2 1 1 1 1 1 1 1 2 1 1 1 1 2 1 1 1 1 1 1 1 2 1 1 1 1 2 1 1 1 1 1 1 1 2 1 1 1 1 1 2 1 1 1 1 1 2 1 1 1 1 1 2 1 1 1 1 1 2 1 1 1 2 2 1 1 1 1 1 2 1 1 1 1 1 2 1 1 1 1 1 2 1 1 1 1 1 2 1 1 1 1 1 2 1 1 1 1 1 1 2 1 1 1 2 1 1 2 1 1 1 1 1 2 1 1 1 1 1 2 1 1 1 1 1 1 1 1 1 1 1 1 2 1 1 1 1 2 1 1 2 1 1 1 1 1 2 1 1 1 1 1 2 1 1 1 1 1 2 1 1 1 1 1 1 1 1 1 1 2 1 1 1 1 2 1 1 2 1 1 1 1 1 2 1 1 1 1 1 2 1 1 1 1 1 2 1 1 1 1 1 1 1 1 1 1 2 1 1 1 1 2 1 1 2 1 1 1 1 1 2 1 1 1 1 1 2 1 1 1 1 1 2 1 1 1 1 1 1 1 1 1 1 2 1 1 1 1 1 2 2 1 1 1 1 1 2 1 1 1 1 1 2 1 1 1 2 1 1 2 1 1 1 1 1 2 1 1 1 1 1 2 1 1 1 1 1 2 1 1 1 1 1 2 1 1 1 1 1 2 1 1 1 1 1 2 1 1 1 1 1 1 1 1 1 1 1 1 2 2 1 1 1 1 1 2 1 1 1 1 1 2 1 1 1 2 1 1 1 1 1 2 1 1 1 2 1 1 1 1 1 2 1 1 1 2 1 1 1 2 1 1 2 1 1 1 1 1 2 1 1 1 1 1 2 1 1 1 1 1 2 1 1 1 1 1 2 1 1 1 1 1 1 1 1 1 1 1 1 2 1 1 1 2 1 1 2 1 1 1 1 1 2 1 1 1 1 1 2 1 1 1 2 1 1 1 2 1 1 1 1 1 1 1 1 1 1 1 1 2 1 1 1 2 1 1 2 1 1 1 2 1 1 1 2 1 1 1 2 1 1 1 1 1 2 1 1 1 1 1 2 1 1 1 1 1 2 1 1 1 1 1 2 1 1 1 1 1 2 1 1 1 1 1 2 1 1 1 1 1 2 1 1 1 1 1 1 1 1 1 1 2 1 2 1 1 1 2 1 1 1 1 1 2 1 1 1 2 1 1 2 1 1 1 1 1 2 1 1 1 1 1 2 1 1 1 1 1 2 1 1 1 1 1 2 1 1 1 1 1 2 1 1 1 1 1 1 1 1 1 1 1 1 2 2 1 1 1 1 1 2 1 1 1 1 1 2 1 1 1 2 1 1 1 1 1 2 1 1 1 1 1 2 1 1 1 2 1 1 2 1 1 1 1 1 2 1 1 1 1 1 2 1 1 1 1 1 2 1 1 1 1 1 2 1 1 1 1 1 1 1 1 1 1 1 1 2 2 1 1 1 2 1 1 1 1 1 2 1 1 1 1 1 1 1 1 2 1 1 2 1 1 1 1 1 1 1 1 1 1 1 1 2 1 1 1 2 1 1 1 2 1 1 1 1 1 2 1 1 1 1 1 2 1 1 1 1 1 2 1 1 1 1 1 1 2 1 1 1 1 1 2 1 1 1 1 1 2 1 1 1 1 1 2 1 1 1 1 1 2 1 1 1 1 1 2 1 1 1 1 1 2 1 1 1 1 1 2 1 1 1 2 1 1 1 1 1 2 1 1 1 1 1 2 1 1 1 1 1 2 1 1 1 1 1 2 1 1 1 2 1 1 1 1 1 1 1 1 1 1 1 2 1 1 1 2 1 1 1 2 1 1 1 1 1 2 1 1 1 1 1 2 1 1 1 1 1 2 1 1 1 1 1 1 2 1 1 1 1 1 2 1 1 1 1 1 2 1 1 1 1 1 2 1 1 1 1 1 2 1 1 1 1 1 2 1 1 1 1 1 2 1 1 1 4 2 2 1 1 1 1 1 2 1 1 1 2 1 1 1 1 1 2 1 1 1 1 1 2 1 1 1 2 1 1 2 1 1 1 1 1 2 1 1 1 1 1 2 1 1 1 1 1 2 1 1 1 2 1 1 1 2 1 1 1 2 1 1 1 1 1 2 1 1 1 1 1 1 1 1 1 1 1 1 2 2 1 1 1 1 1 2 1 1 1 1 1 2 1 1 1 2 1 1 1 1 1 2 1 1 1 1 1 2 1 1 1 1 1 2 1 1 1 1 1 2 1 1 1 1 1 2 1 1 1 1
#synth env 41
end PySem.W.Fast
section
open PySem PySem.W PyProof.Rows
local macro_rules | `(tactic| refine $f:ident $as*)=>do
 unless f.getId==`PySem.W.holds_open do Lean.Macro.throwUnsupported
 `(tactic| (refine ($f $as*); case $(Lean.mkIdent `hc):ident=>exact $(Lean.mkIdent `hP)))
set_option maxRecDepth 100000 in
set_option maxHeartbeats 0 in
def H0:PSigma fun P:Prop=>P->PySem.Challenge.rw_foretell_k51_opened.Holds:=by
 refine' ⟨_,fun hP=>?_⟩
 rotate_left
 w_on; o_law; k_head
 w_witness2
end
section
open PySem PySem.Spec PyProof.Rows
def bI:type_of% @List.length_map:=@List.length_map
def cg:type_of% @wpAny_bind:=@wpAny_bind
def ci:type_of% @List.getElem?_eq_getElem:=@List.getElem?_eq_getElem
def cj:type_of% @List.length_append:=@List.length_append
def ck:type_of% @Heap.get?_push_of_some:=@Heap.get?_push_of_some
def cn:type_of% @List.mem_map:=@List.mem_map
def cq:type_of% @Nat.le_refl:=@Nat.le_refl
def cr:type_of% @wpAny_pure:=@wpAny_pure
def cu:type_of% @List.getElem?_map:=@List.getElem?_map
def cz:type_of% @decide_eq_true:=@decide_eq_true
def cA:type_of% @List.map_append:=@List.map_append
def cB:type_of% @List.mem_of_getElem?:=@List.mem_of_getElem?
def cC:type_of% @Heap.lt_size:=@Heap.lt_size
def cD:type_of% @Heap.get?_push_size:=@Heap.get?_push_size
def cE:type_of% @List.getElem?_eq_some_iff:=@List.getElem?_eq_some_iff
def cF:type_of% @List.size_toArray:=@List.size_toArray
def cG:type_of% @List.mem_cons:=@List.mem_cons
def cH:type_of% @decide_eq_false:=@decide_eq_false
def cI:type_of% @Bool.false_ne_true:=@Bool.false_ne_true
def cJ:type_of% @List.mem_singleton:=@List.mem_singleton
def cK:type_of% @List.length_take:=@List.length_take
def cL:type_of% @Option.some.inj:=@Option.some.inj
def cM:type_of% @List.take_succ_eq_append_getElem:=@List.take_succ_eq_append_getElem
def cN:type_of% @List.mem_append_right:=@List.mem_append_right
def cO:type_of% @List.length_cons:=@List.length_cons
def cP:type_of% @Nat.zero_le:=@Nat.zero_le
def cQ:type_of% @List.mem_append:=@List.mem_append
def cR:type_of% @Bool.and_eq_true:=@Bool.and_eq_true
def cS:type_of% @Nat.not_lt_zero:=@Nat.not_lt_zero
def cT:type_of% @List.mem_cons_self:=@List.mem_cons_self
def cU:type_of% @List.getElem_mem:=@List.getElem_mem
def cV:type_of% @Nat.ne_of_lt:=@Nat.ne_of_lt
def cX:type_of% @List.map_map:=@List.map_map
def cY:type_of% @List.append_assoc:=@List.append_assoc
def cZ:type_of% @List.mem_cons_of_mem:=@List.mem_cons_of_mem
def db:type_of% @List.map_cons:=@List.map_cons
def de:type_of% @Nat.le_trans:=@Nat.le_trans
def df:type_of% @List.getElem?_eq_none:=@List.getElem?_eq_none
def dg:type_of% @Nat.lt_of_lt_of_le:=@Nat.lt_of_lt_of_le
def dh:type_of% @List.take_length:=@List.take_length
def di:type_of% @List.length_range:=@List.length_range
def dm:type_of% @List.length_singleton:=@List.length_singleton
def dn:type_of% @List.take_of_length_le:=@List.take_of_length_le
def du:type_of% @Int.mul_le_mul_of_nonneg_right:=@Int.mul_le_mul_of_nonneg_right
def dv:type_of% @List.getElem_map:=@List.getElem_map
def dw:type_of% @List.replicate_succ:=@List.replicate_succ
def dy:type_of% @wpAny_field:=@wpAny_field
def dz:type_of% @List.mem_of_mem_take:=@List.mem_of_mem_take
def dA:type_of% @List.getElem?_append_right:=@List.getElem?_append_right
def dB:type_of% @List.mem_range:=@List.mem_range
def dC:type_of% @List.drop_eq_getElem_cons:=@List.drop_eq_getElem_cons
def dD:type_of% @Int.mul_le_mul_of_nonneg_left:=@Int.mul_le_mul_of_nonneg_left
def dE:type_of% @wpAny_truthy_bool:=@wpAny_truthy_bool
def dF:type_of% @Array.length_toList:=@Array.length_toList
def dG:type_of% @List.getElem?_append_left:=@List.getElem?_append_left
def dH:type_of% @Int.emod_lt_of_pos:=@Int.emod_lt_of_pos
def dI:type_of% @List.nodup_cons:=@List.nodup_cons
def dJ:type_of% @List.getElem?_range:=@List.getElem?_range
def dL:type_of% @Option.map_eq_some_iff:=@Option.map_eq_some_iff
def dM:type_of% @List.length_drop:=@List.length_drop
def dN:type_of% @Int.emod_nonneg:=@Int.emod_nonneg
def dP:type_of% @List.mem_append_left:=@List.mem_append_left
def dQ:type_of% @List.eq_nil_of_length_eq_zero:=@List.eq_nil_of_length_eq_zero
def dR:type_of% @wpAny_mono:=@wpAny_mono
def dS:type_of% @Option.map_some:=@Option.map_some
def dU:type_of% @Nat.lt_irrefl:=@Nat.lt_irrefl
def dW:type_of% @List.take_append_drop:=@List.take_append_drop
def dX:type_of% @List.getD_eq_getElem?_getD:=@List.getD_eq_getElem?_getD
def dY:type_of% @beq_eq_false_iff_ne:=@beq_eq_false_iff_ne
def dZ:type_of% @List.append_nil:=@List.append_nil
def d5:type_of% @List.any_eq_true:=@List.any_eq_true
end
abbrev Β:=Nat->PySem.Addr->Prop
abbrev Δ:=PySem.Value->PySem.Shared->Prop
abbrev Ε:=PySem.Str->Option PySem.Value
abbrev Η:=List (PySem.Str×List Int)
abbrev Θ:=List (PySem.Addr×PySem.Obj)
abbrev Λ:=Nat->List Int
abbrev Μ:=Nat->PySem.Addr
abbrev Ν:=PySem.Addr->Prop
abbrev Ξ:=Nat->Fin 3
abbrev Ο:=List PySem.Value
abbrev Ρ:=List Int
abbrev Τ:=List PySem.Str
abbrev Φ:=Option PySem.Str
abbrev Χ:=List PySem.Addr
abbrev z3:=PySem.W.Frag
abbrev z4:=PySem.Addr
abbrev qa:=PySem.Shared
abbrev qb:=PySem.Value
abbrev qc:=PySem.Stmt
abbrev qd:=PySem.World
abbrev qe:=PySem.Around
abbrev qf:=PySem.Heap
abbrev qg:=PySem.Expr
abbrev qh:=PySem.Program
abbrev qi:=List
abbrev qj:=Option
section
set_option tactic.hygienic false
local macro_rules | `(())=>`(by omega)
local macro_rules | `(∅)=>`(by decide)
namespace L2
open PySem PySem.Spec PyProof.Rows
variable{C a:z4}{op:CmpOp}{tg:qg}{fd:FuncData}{h':qf}{pins:Θ}{kw:qi (Str×qb)}{fp:Χ}{es:qi qg}{body:qi qc}{us:Ο}{M:Model}{i t':Nat}{P:qh}{s':qa}{mA:Ε}{E Q:Δ}
abbrev Key:=Sum Int Str
def ygg:Key->qb->Bool
 | .inl k,v=>Value.isInt k v
 | .inr x,v=>Value.isStrOf x v
def vg1(w:qd):Key->Int
 | .inl k=>hashInt k
 | .inr x=>hashStr w x
theorem wq:∀{k:Key}{v:qb},ygg k v=true->(∃i t,k=Sum.inl i/\v=Value.int i t)\/(∃x t,k=Sum.inr x/\v=Value.str x t)
 | .inl i,v,h=>by
  let⟨t,e⟩:=Value.isInt_shape (k:=i) (v:=v) h;exact .inl ⟨i,t,rfl,e⟩
 | .inr x,v,h=>by
  let⟨t,e⟩:=Value.isStrOf_shape (x:=x) (v:=v) h;exact .inr ⟨x,t,rfl,e⟩
def yhs(i:Int)(t:Tok):ygg (.inl i) (.int i t)=true:=by simp[ygg,Value.isInt]
def yhe(x:Str)(t:Tok):ygg (.inr x) (.str x t)=true:=by simp[ygg,Value.isStrOf]
def yyf(a b:Int):decide ((Sum.inl a:Key)=Sum.inl b)=(a == b):=by
 by_cases e:a=b
 .subst e;simp
 .have h:¬(Sum.inl a:Key)=Sum.inl b:=λq=>e (Sum.inl.inj q);rw[cH h];exact(dY.mpr e).symm
def vat(a b:Str):decide ((Sum.inr a:Key)=Sum.inr b)=decide (a=b):=by
 by_cases e:a=b
 .subst e;simp
 .have h:¬(Sum.inr a:Key)=Sum.inr b:=λq=>e (Sum.inr.inj q);rw[cH h,cH e]
def va5(a:Int)(b:Str):decide ((Sum.inl a:Key)=Sum.inr b)=false:=cH (λq=>nomatch q)
def vbj(a:Str)(b:Int):decide ((Sum.inr a:Key)=Sum.inl b)=false:=cH (λq=>nomatch q)
def wg(prog:qh)(w:qd):PySem.KeyKind prog w Key where
 is:=ygg
 hash:=vg1 w
 inj:=λv a b ha hb=>by
  rcases wq ha with⟨i,t,rfl,rfl⟩|⟨x,t,rfl,rfl⟩
  .rcases wq hb with⟨j,u,rfl,e⟩|⟨y,u,rfl,e⟩
   .injection e with e1 _;rw[e1]
   .exact nomatch e
  .rcases wq hb with⟨j,u,rfl,e⟩|⟨y,u,rfl,e⟩
   .exact nomatch e
   .injection e with e1 _;rw[e1]
 byValue:=λk v h=>by
  rcases wq h with⟨i,t,rfl,rfl⟩|⟨x,t,rfl,rfl⟩<;>rfl
 pyHash:=λhv h=>by
  rcases wq hv with⟨i,t,rfl,rfl⟩|⟨x,t,rfl,rfl⟩
  .exact wpAny_pyHash_int h
  .exact wpAny_pyHash_str h
 eqBool:=λhu hv h=>by
  rcases wq hu with⟨i,t,rfl,rfl⟩|⟨x,t,rfl,rfl⟩
  .rcases wq hv with⟨j,u,rfl,rfl⟩|⟨y,u,rfl,rfl⟩
   .rw[yyf]at h;exact wpAny_eqBool_int h
   .rw[va5]at h;exact SeqAt.EqAt.int_str i t y u _ _ _ _ h
  .rcases wq hv with⟨j,u,rfl,rfl⟩|⟨y,u,rfl,rfl⟩
   .rw[vbj]at h;exact SeqAt.EqAt.str_int x t j u _ _ _ _ h
   .rw[vat]at h;exact wpAny_eqBool_str h
 «strs»:=λk x t v h=>by
  rcases wq h with⟨i,u,rfl,e⟩|⟨y,u,rfl,e⟩
  .exact nomatch e
  .injection e with e1 _;subst e1;cases v<;>rfl
def ycn(prog:qh)(w:qd)(i:Int)(t:Tok):(wg prog w).is (.inl i) (.int i t)=true:=yhs i t
def yca(prog:qh)(w:qd)(x:Str)(t:Tok):(wg prog w).is (.inr x) (.str x t)=true:=yhe x t
inductive V where
 |non|bl (b:Bool)|int (i:Int)|str (x:Str)|byt (b:Array UInt8)|flt (b:UInt64)|ref (a:z4)|ty (n:String)
 deriving DecidableEq
abbrev _root_.Ι:=qi (Str×V)
abbrev _root_.Κ:=qi (Key×V)
abbrev _root_.Υ:=qi V
abbrev _root_.Ψ:=qj V
variable{vs xs ys:Υ}{v y:V}
def xj:V->qb->Prop
 | .non,u=>u=Value.none
 | .bl b,u=>u=Value.bool b
 | .int i,u=>∃t,u=Value.int i t
 | .str x,u=>∃t,u=Value.str x t
 | .byt b,u=>∃t,u=Value.bytes b t
 | .flt b,u=>∃t,u=Value.float b t
 | .ref a,u=>u=Value.ref a
 | .ty n,u=>u=Value.type n
abbrev wo:qi V->qi qb->Prop:=Paired xj
theorem wo.length(r:wo xs us):xs.length=us.length:=Paired.length r
theorem wo.get:∀{xs:Υ}{us:Ο}{i:Nat}{x:V},wo xs us->xs[i]?=some x->∃u,us[i]?=some u/\xj x u
 |_,_,_,_,.nil,e=>by simp at e
 |_,_,0,_,.cons r _,e=>by simp at e;subst e;exists _,rfl,r
 |_,_,i+1,x,.cons _ t,e=>by
  let⟨u,a,b⟩:=wo.get (i:=i) (x:=x) t (by simpa using e);exists u,by simpa using a,b
def wo.append{ws:Ο}(h:wo xs us)(s:wo ys ws):wo (xs++ys) (us++ws):=by
 induction h with
 |nil=>exact s
 |cons r t ih=>exact .cons r ih
theorem wo.take:∀{xs:Υ}{us:Ο}(n:Nat),wo xs us->wo (xs.take n) (us.take n)
 |_,_,0,_=>.nil
 |_,_,_+1,.nil=>.nil
 |_,_,n+1,.cons r t=>.cons r (wo.take n t)
theorem wo.drop:∀{xs:Υ}{us:Ο}(n:Nat),wo xs us->wo (xs.drop n) (us.drop n)
 |_,_,0,r=>r
 |_,_,_+1,.nil=>.nil
 |_,_,n+1,.cons _ t=>wo.drop n t
def ybv:qj V->qj qb->Prop
 |some v,some u=>xj v u
 |none,none=>True
 |_,_=>False
def KV{κ:Type}:qi (κ×V)->qi (κ×qb)->Prop:=Paired λ(p:κ×V)(q:κ×qb)=>p.1=q.1/\xj p.2 q.2
def kV:Key->V
 | .inl i=>.int i
 | .inr x=>.str x
inductive HO where
 |lst (xs:Υ)
 |tup (xs:Υ)
 |dK (kvs:Κ)|dT (kvs:qi (qi Key×V))
 |set (S:Int->Bool) (n:Nat)
 |ins (C dx:z4) (fs:Ι)
 |own (x:z4)
 |xd (fs:Ι)
 |met (f x:z4)
 |rng (lo hi:Int)
 |frz (o:Obj) (u:HO)
 |tbl (ps:Array qb)
 |ext (φ:qf->Prop)
abbrev Hp:=z4->qj HO
variable{H H':Hp}
def upd(H:Hp)(a:z4)(o:HO):Hp:=λb=>if b=a then some o else H b
def ya{o:HO}:upd H a o a=some o:=by unfold upd;rw[if_pos rfl]
def yk{b:z4}{o:HO}(h:b≠a):upd H a o b=H b:=by unfold upd;rw[if_neg h]
def ww{b:z4}{o u:HO}(h:H a=some o)(h':H b=some u)(d:o≠u):a≠b:=by intro e;subst e;rw[h]at h';exact d (cL h')
def yb{b:z4}{o:HO}(h:H a=some o)(h':H b=none):a≠b:=by intro e;subst e;rw[h]at h';cases h'
section
variable(P:qh)(w:qd)
def w8(H:Hp)(h:qf)(a:z4):HO->Prop
 | .lst xs=>xs.length<=sizeLine/\∃(its:Ο)(n:Nat),wo xs its/\h.get? a=some { cls:=.type "list",data:=.seq its.toArray n}
 | .tup xs=>xs.length<=sizeLine/\∃its:Ο,wo xs its/\IsTup h a its.toArray
 | .dK kvs=>kvs.length<=sizeLine/\(a == sysModules)=false/\∃vs,KV kvs vs/\h.DictOf (wg P w) a vs
 | .dT kvs=>kvs.length<=sizeLine/\(a == sysModules)=false/\∃xs:qi (qi Key×z4×qb),
   Paired (λ(p:qi Key×V)(q:qi Key×z4×qb)=>p.1=q.1/\H q.2.1=some (.tup (p.1.map kV))/\xj p.2 q.2.2) kvs xs/\
   ∃o es ep,h.get? a=some o/\o.ExactDict/\o.data=.dict es ep/\es.toList=xs.map (entryOfKey (tupleKind (wg P w)))/\(xs.map (·.1)).Nodup
 | .set S n=>h.SetOf (intKind P w) a S n
 | .ins C dx fs=>H dx=some (.own a)/\fs.length<=1000/\dx≠a/\h.get? a=some (W.instObj C dx)/\
   ∃mA,h.Ns1 dx mA/\(∀f,ybv (fs.lookup f) (mA f))/\PySem.Within mA (fs.map (·.1))
 | .own _=>∃o,h.get? a=some o
 | .xd fs=>∃mA,h.Ns1 a mA/\∀f,ybv (fs.lookup f) (mA f)
 | .rng lo hi=>∃t u v,h.get? a=some { cls:=.type "range",data:=.fields #[.int lo t,.int hi u,.int 1 v]}
 | .frz o u=>h.get? a=some o/\w8 H h a u
 | .tbl ps=>h.get? a=some { cls:=.none,data:=.fields ps}
 | .met f x=>h.get? a=some (W.methodObj (.ref f) (.ref x))
 | .ext φ=>φ h/\(∃o,h.get? a=some o)/\∀h1 h2:qf,φ h1->(∀o,h1.get? a=some o->h2.get? a=some o)->φ h2
def HOk(H:Hp)(h:qf):Prop:=∀a o,H a=some o->w8 P w H h a o
end
section
variable{w:qd}{h:qf}{o:HO}
theorem w8.lt(x:w8 P w H h a o):a<h.objs.size:=by
 cases o with
 |lst xs=>let⟨_,_,_,_,e⟩:=x;exact cC e
 |tup xs=>let⟨_,_,_,p⟩:=x;exact p.lt
 |dK kvs=>let⟨_,_,_,_,o,_,_,e,_⟩:=x;exact cC e
 |dT kvs=>let⟨_,_,_,_,o,_,_,e,_⟩:=x;exact cC e
 |set S n=>let⟨o,_,_,_,e,_⟩:=x;exact cC e
 |ins C dx fs=>let⟨_,_,_,e,_⟩:=x;exact cC e
 |own y=>let⟨_,e⟩:=x;exact cC e
 |xd fs=>let⟨_,⟨_,_,_,e,_⟩,_⟩:=x;exact cC e
 |rng lo hi=>let⟨_,_,_,e⟩:=x;exact cC e
 |frz ob u=>let⟨e,_⟩:=x;exact cC e
 |tbl ps=>exact cC (show h.get? a=some _ from x)
 |met f y=>exact cC (show h.get? a=some _ from x)
 |ext φ=>let⟨_,⟨_,e⟩,_⟩:=x;exact cC e
def Paired.mapP{α β:Type}{F G:α->β->Prop}{l₁:qi α}{l₂:qi β}(h:Paired F l₁ l₂)(f:∀a b,F a b->G a b):Paired G l₁ l₂:=by
 induction h with
 |nil=>exact .nil
 |cons r t ih=>exact .cons (f _ _ r) ih
def w8.stay(x:w8 P w H h a o)(k:∀b u,(b=a\/H b=some (.own a))->h.get? b=some u->h'.get? b=some u)
  (ho:∀b,H b=some (.own a)->H' b=some (.own a)) (ht:∀b xs,H b=some (.tup xs)->H' b=some (.tup xs)):w8 P w H' h' a o:=by
 induction o with
 |lst xs=>let⟨z,j,n,r,e⟩:=x;exists z,j,n,r,k _ _ (.inl rfl) e
 |tup xs=>let⟨z,j,r,ob,e,c⟩:=x;exists z,j,r,ob,k _ _ (.inl rfl) e,c
 |dK kvs=>let⟨z,y,B,r,ob,i,g,e,c⟩:=x;exists z,y,B,r,ob,i,g,k _ _ (.inl rfl) e,c
 |dT kvs =>
  let⟨z,y,xs,r,ob,i,g,e,c⟩:=x;exists z,y,xs,Paired.mapP r λp q z=>⟨z.1,ht _ _ z.2.1,z.2.2⟩,ob,i,g,k _ _ (.inl rfl) e,c
 |set S n=>let⟨ob,i,g,t,e,c⟩:=x;exists ob,i,g,t,k _ _ (.inl rfl) e,c
 |ins C dx fs =>
  let⟨d,z,A,e,m,⟨l,i,g,D,c⟩,r⟩:=x;exists ho _ d,z,A,k _ _ (.inl rfl) e,m,⟨l,i,g,k _ _ (.inr d) D,c⟩,r
 |own y=>let⟨ob,e⟩:=x;exists ob,k _ _ (.inl rfl) e
 |xd fs=>let⟨m,⟨l,i,g,e,c⟩,r⟩:=x;exists m,⟨l,i,g,k _ _ (.inl rfl) e,c⟩,r
 |rng lo hi=>let⟨t,u,v,e⟩:=x;exists t,u,v,k _ _ (.inl rfl) e
 |frz ob u ih=>let⟨e,q⟩:=x;exists k _ _ (.inl rfl) e,ih q
 |tbl ps =>
  have e:h.get? a=some { cls:=.none,data:=.fields ps}:=x;show h'.get? a=some { cls:=.none,data:=.fields ps};exact k a _ (.inl rfl) e
 |met f y =>
  have e:h.get? a=some (W.methodObj (.ref f) (.ref y)):=x;show h'.get? a=some (W.methodObj (.ref f) (.ref y));exact k a _ (.inl rfl) e
 |ext φ=>let⟨p,⟨o,e⟩,s⟩:=x;exists s _ _ p λo q=>k _ _ (.inl rfl) q,⟨o,k _ _ (.inl rfl) e⟩,s
theorem HOk.lt(x:HOk P w H h)(e:H a=some o):a<h.objs.size:=(x a o e).lt
def HOk.fresh(x:HOk P w H h)(e:h.objs.size<=a):H a=none:=by
 cases q:H a with
 |none=>rfl
 |some u=>exact absurd (dg (x.lt q) e) (dU _)
def HOk.kept(x:HOk P w H h)(k:∀b u,h.get? b=some u->h'.get? b=some u):HOk P w H h':=λa o e =>
 (x a o e).stay (λb u Z q=>k b u q) (λZ q=>q) λZ Z q=>q
def HOk.laid(x:HOk P w H h)(k:∀b u,h.get? b=some u->h'.get? b=some u)(hp:h.objs.size<=a)(new:w8 P w (upd H a o) h' a o):HOk P w (upd H a o) h':=λb u e=>by
 have d:=x.fresh hp;by_cases hb:b=a
 .subst hb;rw[ya]at e;cases e;exact new
 .rw[yk hb]at e;exact(x b u e).stay (λc v Z q=>k c v q) (λc q=>by rw[yk (yb q d)];exact q) λc f q=>by rw[yk (yb q d)];exact q
end
def Rd(H:Hp)(a:z4)(u:HO):Prop:=H a=some u\/∃o,H a=some (.frz o u)
def Rd.of{u:HO}(h:H a=some u):Rd H a u:=.inl h
def Rd.ok{w:qd}{h:qf}{u:HO}(r:Rd H a u)(x:HOk P w H h):w8 P w H h a u:=by
 rcases r with r|⟨o,r⟩
 .exact x a u r
 .obtain⟨_,q⟩:=x a _ r;exact q
def Mut:qj HO->Prop
 |some (.lst _)=>True
 |some (.dK _)=>True
 |some (.dT _)=>True
 |some (.set _ _)=>True
 |some (.ins _ _ _)=>True
 |some (.ext _)=>True
 |_=>False
section
variable{w:qd}{h:qf}{x e:z4}{o':HO}
def HOk.write(ok:HOk P w H h)(mu:Mut (H x))(he:e=x\/H e=some (.own x))(k:∀b u,b≠e->h.get? b=some u->h'.get? b=some u)(heo:∃u,h'.get? e=some u)
  (new:w8 P w (upd H x o') h' x o'):HOk P w (upd H x o') h':=λb u q=>by
 have a:∀c y,H c=some (.own y)->c≠x:=λc y r z=>by subst z;rw[r]at mu;exact mu
 have d:∀c f,H c=some (.tup f)->c≠x:=λc f r z=>by subst z;rw[r]at mu;exact mu
 by_cases hb:b=x
 .subst hb;rw[ya]at q;cases q;exact new
 .rw[yk hb]at q;by_cases hbe:b=e
  .have i:H b=some (.own x):=by
    rcases he with z|z
    .exact absurd (hbe.trans z) hb
    .rw[hbe];exact z
   rw[q]at i;cases i;let⟨v,j⟩:=heo;exists v,by rw[hbe];exact j
  .refine(ok b u q).stay (λc v g r=>k c v ?_ r) (λc r=>by rw[yk (a c b r)];exact r) λc f r=>by rw[yk (d c f r)];exact r
   rcases g with rfl|g
   .exact hbe
   .rintro rfl;rcases he with z|z
    .exact a c b g z
    .rw[g]at z;cases z;exact hb rfl
end
structure Un(fs ex:Χ)(H H':Hp)(h h':qf):Prop where
 keep:∀b o,h.get? b=some o->H b=none->b∉fs->b∉ex->h'.get? b=some o
 slot:∀b o,h.get? b=some o->H b=none->b∈fs->b∉ex->∃sl,h'.get? b=some {o with slots:=sl}
 free:∀b o,h.get? b=some o->H b=none->b∉ex->H' b=none
 there:∀b o,h.get? b=some o->b∉ex->∃o',h'.get? b=some o'
 tups:∀b xs,H b=some (.tup xs)->H' b=some (.tup xs)
 frzs:∀b o u,H b=some (.frz o u)->H' b=some (.frz o u)
 tbls:∀b ps,H b=some (.tbl ps)->∃more,H' b=some (.tbl (ps++more))
section
variable{fs fs' ex ex':Χ}{H1 H2:Hp}{h h1 h2:qf}{x e:z4}{o:HO}
def Un.any(u:Un fs ex H H1 h h1){b:z4}{ob:Obj}(q:h.get? b=some ob)(n:H b=none)(hx:b∉ex):∃sl,h1.get? b=some {ob with slots:=sl}:=by
 by_cases hb:b∈fs
 .exact u.slot b ob q n hb hx
 .exists ob.slots,u.keep b ob q n hb hx
def Un.kept(k:∀b u,h.get? b=some u->h'.get? b=some u):Un fs ex H H h h' :=
 ⟨λb a q Z Z Z=>k b a q,λb a q Z Z Z=>⟨a.slots,k b a q⟩,λZ Z Z n Z=>n,λb a q Z=>⟨a,k b a q⟩,λZ Z q=>q,λZ Z Z q=>q,λZ c q=>⟨#[],by rw[q];simp⟩⟩
def Un.refl:Un fs ex H H h h:=Un.kept λZ Z q=>q
def Un.laid(k:∀b u,h.get? b=some u->h'.get? b=some u)(hp:h.objs.size<=a)(hn:H a=none):Un fs ex H (upd H a o) h h' where
 keep:=λb u q Z Z Z=>k b u q
 slot:=λb u q Z Z Z=>⟨u.slots,k b u q⟩
 free:=λb u q n Z=>by rw[yk (cV (dg (cC q) hp))];exact n
 there:=λb u q Z=>⟨u,k b u q⟩
 tups:=λb c q=>by rw[yk (yb q hn)];exact q
 frzs:=λb u c q=>by rw[yk (yb q hn)];exact q
 tbls:=λb d q=>⟨#[],by rw[yk (yb q hn),q];simp⟩
def Un.write(mu:Mut (H x))(he:e=x\/H e=some (.own x))(k:∀b u,b≠e->h.get? b=some u->h'.get? b=some u)(heo:∃u,h'.get? e=some u):Un fs ex H (upd H x o) h h':=by
 have c:∀b,H b=none->b≠x:=λb n z=>by subst z;rw[n]at mu;exact mu
 have d:∀b,H b=none->b≠e:=λb n z=>by
  subst z;rcases he with r|r
  .exact c b n r
  .rw[n]at r;cases r
 have a:∀b u,H b=some u->¬Mut (some u)->b≠x:=λb u q g z=>by subst z;rw[q]at mu;exact g mu
 refine⟨λb u q n Z Z=>k b u (d b n) q,λb u q n Z Z=>⟨u.slots,k b u (d b n) q⟩,λb u q n Z=>by rw[yk (c b n)];exact n,λb u q Z=>?_,
  λb f q=>by rw[yk (a b _ q λz=>z)];exact q,λb u f q=>by rw[yk (a b _ q λz=>z)];exact q,λb i q=>⟨#[],by rw[yk (a b _ q λz=>z),q];simp⟩⟩
 by_cases hbe:b=e
 .subst hbe;exact heo
 .exists u,k b u hbe q
end
def trk(h:qf)(H:Hp):Χ:=(List.range h.objs.size).filter λa=>(H a).isSome
def yn2(h:qf)(H:Hp):qf:=W.hideAll h (trk h H)
def yhz(h:qf)(H:Hp):(yn2 h H).objs.size=h.objs.size:=W.hideAll_size _ _
def ymn{h:qf}{b:z4}{o:Obj}(e:h.get? b=some o)(n:H b=none):(yn2 h H).get? b=some o :=
 W.hideAll_get _ e λa=>by
  have q:(H b).isSome=true:=(List.mem_filter.mp a).2;rw[n]at q;simp at q
def yta{h:qf}{b:z4}{o:Obj}(e:(yn2 h H).get? b=some o):h.get? b=some o/\H b=none:=by
 have a:h.get? b=some o:=W.of_hideAll (trk h H) e;exists a,?_
 cases q:H b with
 |none=>rfl
 |some x =>
  have c:b∈trk h H:=List.mem_filter.mpr ⟨dB.mpr (cC a),by simp[q]⟩;have z:(yn2 h H).get? b=none:=W.hideAll_none (trk h H) c;rw[z]at e;cases e
def ysk(g h:qf)(L:z4):Θ:=(List.range h.objs.size).filterMap λa=>if a=L\/(g.get? a).isSome=true then none else (h.get? a).map λo=>(a,o)
def xk(g h:qf)(L d:z4):Θ:=(ysk g h L).filter λp=>decide (p.1≠d)
structure Mod(K:z3)(mg:Ε)(base:qf):Prop where
 kin:K.In base
 glob:base.Ns mainGlobals mg
 blt:∃mb,base.Ns builtinsNs mb/\∀x:Str,x≠"__name__"->mb x=bootBuiltins x
 nolimit:base.NoLimit
structure Cx where
 prog:qh
 w:qd
 K:z3
 mg:Ε
 base:qf
 A:qe
 N:Τ
 s₀:qa
 H₀:Hp
 env:Env
 outer:qi Env
 stack:qi Env
 ex:Χ
 fn:Str->Bool
 calm:Bool
 pn:Θ
 xe:Δ
variable{X:Cx}
def frs(l:qi Env):Χ:=l.filterMap (·.frame)
abbrev Cx.fs(X:Cx):Χ:=frs X.outer
def Vis(sc:Scope)(x:Str):Prop:=sc.names.lookup x=some .local\/sc.names.lookup x=some .cell\/sc.names.lookup x=some .free
def Loc(sc:Scope)(x:Str):Prop:=sc.names.lookup x=some .local\/sc.names.lookup x=some .cell
def vhc(env:Env)(h:qf)(m:Ε)(x:Str)(u:qb):Prop :=
 (env.kindOf x=some .local/\m x=some u)\/((env.kindOf x=some .cell\/env.kindOf x=some .free)/\∃c,env.cells.lookup x=some c/\h.IsCell c (some u))
structure Cx.Ok(X:Cx):Prop where
 mod:Mod X.K X.mg X.base
 kind:X.env.scope.kind=.function
 glob:X.env.globals=mainGlobals
 blt:X.env.builtins=builtinsNs
 above:X.s₀.heap.objs.size<=X.env.locals
 inj:∀x y c,X.env.cells.lookup x=some c->X.env.cells.lookup y=some c->x=y
 has:∀x,(X.env.kindOf x=some .cell\/X.env.kindOf x=some .free)->∃c,X.env.cells.lookup x=some c
 cab:∀x c,X.fn x=true->X.env.cells.lookup x=some c->X.s₀.heap.objs.size<=c
 hd:X.calm=true->X.A.handled=none
 frames:X.A.frames=some X.stack
 stk:X.stack=X.outer\/(X.stack=X.env::X.outer/\X.env.frame=some X.env.locals)
 exf:∀b∈X.ex,b≠X.env.locals/\∀x c,X.env.cells.lookup x=some c->c≠b
 bs:∀b o,X.base.get? b=some o->X.s₀.heap.get? b=some o/\X.H₀ b=none
 bsz:X.base.objs.size<=X.s₀.heap.objs.size
 noex:∀b o,X.base.get? b=some o->b∉X.ex
 exfs:∀b∈X.ex,b∉X.fs
 funs:X.s₀.heap.FunFrames X.base X.outer
 frf:∀b∈X.fs,X.H₀ b=none
structure Inv(X:Cx)(pins:Θ)(σ:qi (Ψ))(H:Hp)(s:qa):Prop where
 ok:X.Ok
 os:s.os=X.s₀.os
 bare:AllBare s.gens
 base:Un X.fs X.ex X.H₀ H X.s₀.heap s.heap
 loc:∃m,s.heap.Ns X.env.locals m/\∀(i:Nat)(x:Str)(v:V),X.N[i]?=some x->σ[i]?=some (some v)->Vis X.env.scope x->∃u,xj v u/\vhc X.env s.heap m x u
 cell:∀x c,X.env.cells.lookup x=some c->∃v,s.heap.IsCell c v
 free:H X.env.locals=none
 freeC:∀x c,X.env.cells.lookup x=some c->H c=none
 pin:∀p∈X.pn++pins,s.heap.get? p.1=some p.2/\H p.1=none/\p.1≠X.env.locals/\p.1∉X.fs/\∀v,p.2.data≠.cell v
 hok:HOk X.prog X.w H s.heap
 len:σ.length=X.N.length
section
variable{σ:qi (Ψ)}{s:qa}
def Cx.Ok.nofr(ok:X.Ok){b:z4}{o:Obj}(e:X.base.get? b=some o):b∉X.fs:=λa=>by
 have:=(ok.funs.mem a).1;rw[e]at this;cases this
theorem Inv.bs(I:Inv X pins σ H s):∀b o,X.base.get? b=some o->s.heap.get? b=some o/\H b=none:=λb o e =>
 ⟨I.base.keep b o (I.ok.bs b o e).1 (I.ok.bs b o e).2 (I.ok.nofr e) (I.ok.noex b o e),I.base.free b o (I.ok.bs b o e).1 (I.ok.bs b o e).2 (I.ok.noex b o e)⟩
def Inv.bk(I:Inv X pins σ H s):∀b o,X.base.get? b=some o->s.heap.get? b=some o:=λb o e=>(I.bs b o e).1
theorem Inv.mod(I:Inv X pins σ H s):Mod X.K X.mg X.base:=I.ok.mod
def Inv.kIn(I:Inv X pins σ H s):X.K.In s.heap:=I.ok.mod.kin.keeps I.bk
theorem Inv.lt(I:Inv X pins σ H s):X.env.locals<s.heap.objs.size:=let ⟨_,hn,_⟩:=I.loc;hn.lt
def Inv.sz(I:Inv X pins σ H s):X.s₀.heap.objs.size<=s.heap.objs.size:=de I.ok.above (Nat.le_of_lt I.lt)
def Inv.nofs(I:Inv X pins σ H s)(h:s.heap.objs.size<=a):a∉X.fs:=λc=>by
 let⟨_,o,b,_⟩:=I.ok.funs.mem c;exact absurd (dg (cC b) (de I.sz h)) (dU _)
def Inv.cne(I:Inv X pins σ H s):∀x c,X.env.cells.lookup x=some c->c≠X.env.locals:=λx c e z=>by
 let⟨v,o,d,f⟩:=I.cell x c e;let⟨m,⟨i,h,g,b,a,_⟩,_⟩:=I.loc;rw[z,b]at d;cases d;rw[a]at f;cases f
theorem Inv.funs(I:Inv X pins σ H s):s.heap.FunFrames X.base X.outer:=by
 have d:∀(l:qi Env),(∀b∈frs l,b∈X.fs)->X.s₀.heap.FunFrames X.base l->s.heap.FunFrames X.base l:=by
  intro l
  induction l with
  |nil=>intro _ _;trivial
  |cons env r ih =>
   intro g k;let⟨j,⟨L,o,a,h,m,n⟩,i⟩:=k;have c:L∈X.fs:=g L (by unfold frs;rw[List.filterMap_cons,a];exact cT);let⟨p,e⟩:=I.base.slot L o m (I.ok.frf L c) c λz=>I.ok.exfs L z c;exists j,⟨L,_,a,h,e,n⟩,ih (λb f=>g b (by unfold frs;rw[List.filterMap_cons,a];exact cZ _ f)) i
 exact d X.outer (λZ f=>f) I.ok.funs
theorem Inv.stack(I:Inv X pins σ H s):s.heap.FunFrames X.base X.stack:=by
 rcases I.ok.stk with e|⟨e,a⟩
 .rw[e];exact I.funs
 .rw[e];let⟨m,b,_⟩:=I.loc;refine .cons (by rw[I.ok.kind];decide) a b ?_ I.funs;exact Heap.get?_none_of_le (de I.ok.bsz I.ok.above)
def Inv.stkSub(I:Inv X pins σ H s):∀b∈frs X.stack,b∈X.env.locals::X.fs:=λb a=>by
 rcases I.ok.stk with e|⟨e,c⟩
 .rw[e]at a;exact cZ _ a
 .rw[e]at a;unfold frs at a;rw[List.filterMap_cons,c]at a;exact a
def Inv.stkFree(I:Inv X pins σ H s):∀b∈frs X.stack,H b=none:=λb a=>by
 rcases cG.mp (I.stkSub b a)with e|a
 .rw[e];exact I.free
 .obtain⟨_,o,c,_⟩:=I.ok.funs.mem a;exact I.base.free b o c (I.ok.frf b a) λz=>I.ok.exfs b z a
def Inv.step{g':Array GenState}{d':Drawn}{ch:Χ}(I:Inv X pins σ H s)
  (hch:∀b∈ch,(b∈X.ex\/X.s₀.heap.objs.size<=b)/\b≠X.env.locals/\(∀x c,X.env.cells.lookup x=some c->c≠b)/\∀p∈X.pn++pins,p.1≠b)
  (keep:∀b o,b≠X.env.locals->b∉X.fs->b∉ch->s.heap.get? b=some o->H b=none->h'.get? b=some o)
  (slot:∀b o,b≠X.env.locals->b∈X.fs->b∉ch->s.heap.get? b=some o->H b=none->∃sl,h'.get? b=some {o with slots:=sl}) (free:∀b o,b∉ch->s.heap.get? b=some o->H b=none->H' b=none)
  (there:∀b o,b∉ch->s.heap.get? b=some o->∃o',h'.get? b=some o')
  (tups:∀b xs,H b=some (.tup xs)->H' b=some (.tup xs)) (frzs:∀b o u,H b=some (.frz o u)->H' b=some (.frz o u)) (tbls:∀b ps,H b=some (.tbl ps)->∃more,H' b=some (.tbl (ps++more)))
  (ns:∀m,s.heap.Ns X.env.locals m->h'.Ns X.env.locals m) (hok:HOk X.prog X.w H' h') (hg:AllBare g'):
  Inv X pins σ H' {s with heap:=h',gens:=g',drawn:=d',toks:=t'}:=by
 have B:∀b o,X.s₀.heap.get? b=some o->b≠X.env.locals:=λb o e=>cV (dg (cC e) I.ok.above)
 have h:∀b o,X.s₀.heap.get? b=some o->b∉X.ex->b∉ch:=λb o e a t=>by
  rcases (hch b t).1 with z|z
  .exact a z
  .exact absurd (dg (cC e) z) (dU _)
 have g:∀x c,X.env.cells.lookup x=some c->∀v,s.heap.IsCell c v->h'.IsCell c v:=λx c e v ⟨o,y,C⟩=>by
  have f:c∉ch:=λz=>(hch c z).2.2.1 x c e rfl;by_cases hc:c∈X.fs
  .obtain⟨sl,q⟩:=slot c o (I.cne x c e) hc f y (I.freeC x c e);exists _,q,C
  .exists o,keep c o (I.cne x c e) hc f y (I.freeC x c e),C
 exists I.ok,I.os,hg,⟨λb o e n t a=>?_,λb o e n t a=>?_,λb o e n a=>?_,λb o e a=>?_,λb xs e=>tups b xs (I.base.tups b xs e),λb o xs e=>frzs b o xs (I.base.frzs b o xs e),λb ps e=>?_⟩,?_,λx c e=>?_,?_,λx c e=>?_,λp E=>?_,hok,I.len
 .exact keep b o (B b o e) t (h b o e a) (I.base.keep b o e n t a) (I.base.free b o e n a)
 .obtain⟨sl,j⟩:=I.base.slot b o e n t a;let⟨D,A⟩:=slot b _ (B b o e) t (h b o e a) j (I.base.free b o e n a);exists D,A
 .obtain⟨o',j⟩:=I.base.there b o e a;exact free b o' (h b o e a) j (I.base.free b o e n a)
 .obtain⟨o',j⟩:=I.base.there b o e a;exact there b o' (h b o e a) j
 .obtain⟨N,j⟩:=I.base.tbls b ps e;let⟨M,A⟩:=tbls b _ j;exists N++M,by rw[A,Array.append_assoc]
 .obtain⟨m,J,K⟩:=I.loc;exists m,ns m J,λi x v j A L=>?_;let⟨u,r,l⟩:=K i x v j A L;exists u,r,?_;rcases l with l|⟨k,c,e,z⟩
  .exact .inl l
  .exact .inr ⟨k,c,e,g x c e _ z⟩
 .obtain⟨v,z⟩:=I.cell x c e;exists v,g x c e v z
 .obtain⟨m,⟨o,_,_,y,_⟩,_⟩:=I.loc;exact free _ o (λz=>(hch _ z).2.1 rfl) y I.free
 .obtain⟨v,o,y,C⟩:=I.cell x c e;exact free c o (λz=>(hch c z).2.2.1 x c e rfl) y (I.freeC x c e)
 .obtain⟨e,n,F,G,d⟩:=I.pin p E;have f:p.1∉ch:=λz=>(hch p.1 z).2.2.2 p E rfl;exists keep p.1 p.2 F G f e n,free p.1 p.2 f e n,F,G,d
def Inv.un(I:Inv X pins σ H s)(u:Un X.fs [] H H' s.heap h')(hok:HOk X.prog X.w H' h'):Inv X pins σ H' {s with heap:=h',toks:=t'}:=by
 let⟨m,⟨o,q,k,g,r⟩,_⟩:=id I.loc;let⟨p,i⟩:=u.any g I.free (by simp)
 exact I.step (g':=s.gens) (d':=s.drawn) (ch:=[]) (λZ z=>nomatch z) (λb o Z f Z e n=>u.keep b o e n f (by simp)) (λb o Z f Z e n=>u.slot b o e n f (by simp)) (λb o Z e n=>u.free b o e n (by simp)) (λb o Z e=>u.there b o e (by simp)) u.tups u.frzs u.tbls (λl h=>by
  let⟨t,d,c,a,j⟩:=h;rw[g]at a;cases a;exact⟨_,d,c,i,j⟩) hok I.bare
def Inv.call{g':Array GenState}{d':Drawn}{ch:Χ}(I:Inv X pins σ H s)(u:Un (frs X.stack) ch H H' s.heap h')(hok:HOk X.prog X.w H' h')(hg:AllBare g')
  (hch:∀b∈ch,(b∈X.ex\/X.s₀.heap.objs.size<=b)/\b≠X.env.locals/\(∀x c,X.env.cells.lookup x=some c->c≠b)/\∀p∈X.pn++pins,p.1≠b):
  Inv X pins σ H' {s with heap:=h',gens:=g',drawn:=d',toks:=t'}:=by
 let⟨m,⟨o,y,q,i,r⟩,_⟩:=id I.loc;let⟨v,f⟩:=u.any i I.free λz=>(hch _ z).2.1 rfl
 exact I.step (ch:=ch) hch (λb o f l a e n=>u.keep b o e n (λz=>(cG.mp (I.stkSub b z)).elim f l) a) (λb o Z Z a e n=>u.any e n a) (λb o a e n=>u.free b o e n a) (λb o a e=>u.there b o e a) u.tups u.frzs u.tbls (λt j=>by
  let⟨A,h,g,d,k⟩:=j;rw[i]at d;cases d;exact⟨_,h,g,f,k⟩) hok hg
def Inv.turned{it:z4}(I:Inv X pins σ H s)(k:∀b o,b≠it->s.heap.get? b=some o->h'.get? b=some o)(hn:H it=none)(hL:it≠X.env.locals)
  (h1:it∈X.ex\/X.s₀.heap.objs.size<=it) (h2:∀x c,X.env.cells.lookup x=some c->c≠it) (h3:∀p∈X.pn++pins,p.1≠it):Inv X pins σ H {s with heap:=h',toks:=t'}:=by
 have d:∀b u,H b=some u->b≠it:=λb u e z=>by rw[z,hn]at e;cases e
 refine I.step (g':=s.gens) (d':=s.drawn) (ch:=[it]) (λb j=>?_) (λb o Z Z a e Z=>k b o (λz=>a (by simp[z])) e) (λb o Z Z a e Z=>⟨o.slots,k b o (λz=>a (by simp[z])) e⟩) (λZ Z Z Z n=>n)
  (λb o a e=>⟨o,k b o (λz=>a (by simp[z])) e⟩) (λZ Z e=>e) (λZ Z Z e=>e) (λb l e=>⟨#[],by rw[e];simp⟩) (λm f=>?_) (λb u e=>?_) I.bare
 .have e:b=it:=by simpa using j
  subst e;exact⟨h1,hL,h2,h3⟩
 .obtain⟨o,h,g,i,r⟩:=f;exists o,h,g,k _ o (Ne.symm hL) i,r
 .refine(I.hok b u e).stay (λc v a q=>k c v ?_ q) (λZ q=>q) λZ Z q=>q;rcases a with z|z
  .rw[z];exact d b u e
  .exact d c _ z
def Inv.tok(I:Inv X pins σ H s)(t:Nat):Inv X pins σ H {s with toks:=t}:=I.un (h':=s.heap) (t':=t) Un.refl I.hok
theorem Inv.kept(I:Inv X pins σ H s)(k:∀b u,s.heap.get? b=some u->h'.get? b=some u):Inv X pins σ H {s with heap:=h',toks:=t'}:=I.un (Un.kept k) (I.hok.kept k)
theorem Inv.laid{o:HO}(I:Inv X pins σ H s)(k:∀b u,s.heap.get? b=some u->h'.get? b=some u)(hp:s.heap.objs.size<=a)(new:w8 X.prog X.w (upd H a o) h' a o):
  Inv X pins σ (upd H a o) {s with heap:=h',toks:=t'}:=I.un (Un.laid k hp (I.hok.fresh hp)) (I.hok.laid k hp new)
theorem Inv.write{x e:z4}{o:HO}(I:Inv X pins σ H s)(mu:Mut (H x))(he:e=x\/H e=some (.own x))(k:∀b u,b≠e->s.heap.get? b=some u->h'.get? b=some u)(heo:∃u,h'.get? e=some u)
  (new:w8 X.prog X.w (upd H x o) h' x o):Inv X pins σ (upd H x o) {s with heap:=h',toks:=t'}:=I.un (Un.write mu he k heo) (I.hok.write mu he k heo new)
def Inv.pins_of{pins':Θ}(I:Inv X pins σ H s)(h:∀p∈pins',s.heap.get? p.1=some p.2/\H p.1=none/\p.1≠X.env.locals/\p.1∉X.fs/\∀v,p.2.data≠.cell v):Inv X pins' σ H s :=
 ⟨I.ok,I.os,I.bare,I.base,I.loc,I.cell,I.free,I.freeC,λp a=>(cQ.mp a).elim (λz=>I.pin p (dP _ z)) (h p),I.hok,I.len⟩
def yeb{N:Τ}(hN:N.Nodup){j:Nat}{x:Str}(a:N[i]?=some x)(b:N[j]?=some x):i=j:=by let⟨e,d⟩:=cE.mp a;let⟨f,c⟩:=cE.mp b;exact(List.getElem_inj hN).mp (d.trans c.symm)
def Ě{A:qe}{x:Str}{u:qb}{Q:Unit->qa->Prop}(I:Inv X pins σ H s)(hN:X.N.Nodup)(hi:X.N[i]?=some x)(hx:Loc X.env.scope x)(r:xj v u)
  (h:∀s',Inv X pins (σ.set i (some v)) H s'->(∃a,Heap.SameBut a s.heap s'.heap/\(a=X.env.locals\/X.env.cells.lookup x=some a))->Q ⟨⟩ s') (hf:X.fn x=true\/X.env.scope.names.lookup x=some .local:=by first|exact .inl rfl|exact .inr rfl|assumption):wpAny M A (storeName X.env x u) Q E s:=by
 let⟨m,Z,hl⟩:=id I.loc;have R:(X.env.scope.kind == .class || (X.env.scope.kind == .module && X.env.locals != X.env.globals))=false:=by rw[I.ok.kind];rfl
 have hiσ:i<σ.length:=by rw[I.len];exact(cE.mp hi).1
 have F:=I.cne
 have g:∀{a:z4}{K:qf},(∃o,s.heap.get? a=some o/\H a=none)->Heap.SameBut a s.heap K->HOk X.prog X.w H K:=λ{a K}ha f b ob e=>by
  let⟨_,_,B⟩:=ha;refine(I.hok b ob e).stay (λc S t q=>(f.2 c ?_).trans q) (λN q=>q) λN N q=>q;rintro rfl;rcases t with rfl|t
  .rw[B]at e;cases e
  .rw[B]at t;cases t
 rcases hx with D|D
 .refine wpAny_storeName_local D Z (λK a0 f=>?_) R;let⟨oL,_,_,W,_⟩:=id Z;refine h _ ⟨I.ok,I.os,I.bare,⟨λb o e n J hx=>?_,λb o e n J hx=>?_,I.base.free,λb o e hx=>?_,I.base.tups,I.base.frzs,I.base.tbls⟩,⟨_,a0,λj y Y l C e3=>?_⟩,λy c e=>?_,I.free,I.freeC,λp hp=>?_,g ⟨oL,W,I.free⟩ f,by simpa using I.len⟩ ⟨_,f,.inl rfl⟩
  .exact(f.2 b (cV (dg (cC e) I.ok.above))).trans (I.base.keep b o e n J hx)
  .obtain⟨sl,l⟩:=I.base.slot b o e n J hx;exists sl,(f.2 b (cV (dg (cC e) I.ok.above))).trans l
  .obtain⟨o',l⟩:=I.base.there b o e hx;exists o',(f.2 b (cV (dg (cC e) I.ok.above))).trans l
  .by_cases hj:j=i
   .subst hj;rw[hi]at l;cases l;rw[List.getElem?_set_self hiσ]at C;cases C;exists u,r,.inl ⟨D,by simp⟩
   .rw[List.getElem?_set_ne (Ne.symm hj)]at C;let⟨u',r',q⟩:=hl j y Y l C e3;exists u',r',?_;rcases q with⟨k,e⟩|⟨k,c,e,z⟩
    .refine .inl ⟨k,?_⟩;have:y≠x:=λe=>hj (yeb hN l (e ▸ hi));simp[this,e]
    .exact .inr ⟨k,c,e,z.sameBut f (F y c e)⟩
  .obtain⟨S,z⟩:=I.cell y c e;exists S,z.sameBut f (F y c e)
  .obtain⟨e,n,T,nf,d⟩:=I.pin p hp;exists(f.2 p.1 T).trans e,n,T,nf,d
 .have G:X.fn x=true:=by
   rcases hf with z|z
   .exact z
   .rw[z]at D;cases D
  let⟨c,t⟩:=I.ok.has x (.inl D);let⟨S,z⟩:=I.cell x c t;refine wpAny_storeName_cell I.ok.kind D t z (λK O f=>?_);let⟨oc,P,L⟩:=id z;refine h {s with heap:=K} ⟨I.ok,I.os,I.bare,⟨λb o e n J hx=>?_,λb o e n J hx=>?_,I.base.free,λb o e hx=>?_,I.base.tups,I.base.frzs,I.base.tbls⟩,⟨m,Z.sameBut f (Ne.symm (F x c t)),λj y Y l C e3=>?_⟩,λy U e=>?_,I.free,I.freeC,λp hp=>?_,g ⟨oc,P,I.freeC x c t⟩ f,by simpa using I.len⟩ ⟨c,f,.inr t⟩
  .exact(f.2 b (cV (dg (cC e) (I.ok.cab x c G t)))).trans (I.base.keep b o e n J hx)
  .obtain⟨sl,l⟩:=I.base.slot b o e n J hx;exists sl,(f.2 b (cV (dg (cC e) (I.ok.cab x c G t)))).trans l
  .obtain⟨o',l⟩:=I.base.there b o e hx;exists o',(f.2 b (cV (dg (cC e) (I.ok.cab x c G t)))).trans l
  .by_cases hj:j=i
   .subst hj;rw[hi]at l;cases l;rw[List.getElem?_set_self hiσ]at C;cases C;exists u,r,.inr ⟨.inl D,c,t,O⟩
   .rw[List.getElem?_set_ne (Ne.symm hj)]at C;let⟨u',r',q⟩:=hl j y Y l C e3;exists u',r',?_;rcases q with q|⟨k,U,e,z'⟩
    .exact .inl q
    .refine .inr ⟨k,U,e,z'.sameBut f ?_⟩;rintro rfl;exact hj (yeb hN l (I.ok.inj _ _ _ e t ▸ hi))
  .by_cases hcc:U=c
   .subst hcc;exists _,O
   .obtain⟨w2,z2⟩:=I.cell y U e;exists w2,z2.sameBut f hcc
  .obtain⟨e,n,T,nf,d⟩:=I.pin p hp;exists(f.2 p.1 ?_).trans e,n,T,nf,d;intro q;rw[q,P]at e;have q':oc=p.2:=cL e;exact d S (by rw[<- q'];exact L)
def yd4{A:qe}{x:Str}{u:qb}{Q:Unit->qa->Prop}(I:Inv X pins σ H s)(hN:X.N.Nodup)(hi:X.N[i]?=some x)(hx:Loc X.env.scope x)(r:xj v u)
  (h:∀s',Inv X pins (σ.set i (some v)) H s'->Q ⟨⟩ s') (hf:X.fn x=true\/X.env.scope.names.lookup x=some .local:=by first|exact .inl rfl|exact .inr rfl|assumption):wpAny M A (storeName X.env x u) Q E s :=
 Ě I hN hi hx r (λs' a Z=>h s' a) hf
def Inv.call'{ch:Χ}(I:Inv X pins σ H s)(ho:s'.os=s.os)(u:Un (frs X.stack) ch H H' s.heap s'.heap)(hok:HOk X.prog X.w H' s'.heap)(hg:AllBare s'.gens)
  (hch:∀b∈ch,(b∈X.ex\/X.s₀.heap.objs.size<=b)/\b≠X.env.locals/\(∀x c,X.env.cells.lookup x=some c->c≠b)/\∀p∈X.pn++pins,p.1≠b):Inv X pins σ H' s':=by let⟨d,g',d',t',a⟩:=s';have e:a=s.os:=ho;subst e;exact I.call (g':=g') (t':=t') (d':=d') u hok hg hch
end
abbrev XK:=qb->qj z4->Hp->Prop
abbrev St:=qi (Ψ)
abbrev _root_.Ζ:=St->Hp->Prop
variable{σ:St}
abbrev VK:=V->Hp->Prop
abbrev TE:=St->Hp->VK->Prop
variable{ta te:TE}
abbrev TT:=St->Hp->(Bool->Hp->Prop)->Prop
abbrev TA:=St->Hp->(qi V->Hp->Prop)->Prop
structure Ă where
 nx:Ζ
 rt:VK
 bk:Ζ:=λZ Z=>False
 ct:Ζ:=λZ Z=>False
abbrev TS:=Ă->St->Hp->Prop
def EP(X:Cx)(pins:Θ)(σ:St)(Q:VK)(u:qb)(s':qa):Prop:=∃v H',Inv X pins σ H' s'/\xj v u/\Q v H'
def TP(X:Cx)(pins:Θ)(σ:St)(Q:Bool->Hp->Prop)(b:Bool)(s':qa):Prop:=∃H',Inv X pins σ H' s'/\Q b H'
def AP(X:Cx)(pins:Θ)(σ:St)(Q:qi V->Hp->Prop)(us:Ο)(s':qa):Prop:=∃vs H',Inv X pins σ H' s'/\wo vs us/\Q vs H'
def SP(X:Cx)(pins:Θ)(D:Ă)(f:Flow)(s':qa):Prop :=
 match f with
 | .next=>∃σ' H',Inv X pins σ' H' s'/\D.nx σ' H'
 | .brk=>∃σ' H',Inv X pins σ' H' s'/\D.bk σ' H'
 | .cont=>∃σ' H',Inv X pins σ' H' s'/\D.ct σ' H'
 | .ret u=>∃v σ' H',Inv X pins σ' H' s'/\xj v u/\D.rt v H'
structure PE(X:Cx)(e:qg)(t:TE):Prop where
 go:∀(pins:Θ)(s:qa)(σ:St)(H:Hp)(Q:VK),Inv X pins σ H s->t σ H Q->wpAny (model X.prog X.w) X.A (eval e X.env) (EP X pins σ Q) X.xe s
instance {X:Cx}{e:qg}{t:TE}:CoeFun (PE X e t) (λZ=>∀(pins:Θ)(s:qa)(σ:St)(H:Hp)(Q:VK),Inv X pins σ H s->t σ H Q->wpAny (model X.prog X.w) X.A (eval e X.env) (EP X pins σ Q) X.xe s):=⟨PE.go⟩
structure PT(X:Cx)(e:qg)(t:TT):Prop where
 go:∀(pins:Θ)(s:qa)(σ:St)(H:Hp)(Q:Bool->Hp->Prop),Inv X pins σ H s->t σ H Q->wpAny (model X.prog X.w) X.A (isTrue e X.env (eval e X.env)) (TP X pins σ Q) X.xe s
instance {X:Cx}{e:qg}{t:TT}:CoeFun (PT X e t) (λZ=>∀(pins:Θ)(s:qa)(σ:St)(H:Hp)(Q:Bool->Hp->Prop),Inv X pins σ H s->t σ H Q->wpAny (model X.prog X.w) X.A (isTrue e X.env (eval e X.env)) (TP X pins σ Q) X.xe s):=⟨PT.go⟩
def PW(X:Cx)(e:qg)(t:TT):Prop :=
 ∀(whole:Sem qb)(pins:Θ)(s:qa)(σ:St)(H:Hp)(Q:Bool->Hp->Prop),Inv X pins σ H s->t σ H Q->wpAny (model X.prog X.w) X.A (isTrue e X.env whole) (TP X pins σ Q) X.xe s
def PW.pt{e:qg}{t:TT}(h:PW X e t):PT X e t:=⟨h _⟩
structure PA(X:Cx)(es:qi qg)(t:TA):Prop where
 go:∀(pos:Pos)(pins:Θ)(s:qa)(σ:St)(H:Hp)(Q:qi V->Hp->Prop),Inv X pins σ H s->t σ H Q->wpAny (model X.prog X.w) X.A (spliced (backTo pos (starEach es X.env))) (AP X pins σ Q) X.xe s
instance {X:Cx}{es:qi qg}{t:TA}:CoeFun (PA X es t) (λZ=>∀(pos:Pos)(pins:Θ)(s:qa)(σ:St)(H:Hp)(Q:qi V->Hp->Prop),Inv X pins σ H s->t σ H Q->wpAny (model X.prog X.w) X.A (spliced (backTo pos (starEach es X.env))) (AP X pins σ Q) X.xe s):=⟨PA.go⟩
structure PS(X:Cx)(st:qc)(t:TS):Prop where
 go:∀(pins:Θ)(s:qa)(σ:St)(H:Hp)(D:Ă),Inv X pins σ H s->t D σ H->wpAny (model X.prog X.w) X.A (exec st X.env) (SP X pins D) X.xe s
instance {X:Cx}{st:qc}{t:TS}:CoeFun (PS X st t) (λZ=>∀(pins:Θ)(s:qa)(σ:St)(H:Hp)(D:Ă),Inv X pins σ H s->t D σ H->wpAny (model X.prog X.w) X.A (exec st X.env) (SP X pins D) X.xe s):=⟨PS.go⟩
structure PSs(X:Cx)(st:qi qc)(t:TS):Prop where
 go:∀(pins:Θ)(s:qa)(σ:St)(H:Hp)(D:Ă),Inv X pins σ H s->t D σ H->wpAny (model X.prog X.w) X.A (execs st X.env) (SP X pins D) X.xe s
instance {X:Cx}{st:qi qc}{t:TS}:CoeFun (PSs X st t) (λZ=>∀(pins:Θ)(s:qa)(σ:St)(H:Hp)(D:Ă),Inv X pins σ H s->t D σ H->wpAny (model X.prog X.w) X.A (execs st X.env) (SP X pins D) X.xe s):=⟨PSs.go⟩
def thn{α:Type}{t:Sem α}{Q Q':α->qa->Prop}{A:qe}{s:qa}(h:wpAny M A t Q E s)(hQ:∀a s,Q a s->Q' a s):wpAny M A t Q' E s:=dR h hQ λZ Z x=>x
section
def vfz(i:Nat):TE:=λσ H Q=>∃v,σ[i]?=some (some v)/\Q v H
def tC(v:V):TE:=λZ H Q=>Q v H
def yyx{x:Str}{pos:Pos}(hN:X.N[i]?=some x)(hv:Vis X.env.scope x)(hd:(x == ("__debug__":Str))=false:=by decide)(hcd:(x == ("__classdict__":Str))=false:=by decide):PE X (.Name x pos) (vfz i):=by
 refine .mk λf s σ H Q I h=>?_;let⟨v,e,h⟩:=h;let⟨m,j,n⟩:=I.loc;let⟨u,r,l⟩:=n i x v hN e hv;have b:EP X f σ Q u s:=⟨v,H,I,r,h⟩;rcases l with⟨d,k⟩|⟨d,c,g,a⟩
 .exact wpAny_Name (wpAny_loadName_local I.ok.kind d j k b) hd
 .rcases d with d|d
  .exact wpAny_Name (wpAny_loadName_cell I.ok.kind d g a b) hd
  .exact wpAny_Name (wpAny_loadName_free I.ok.kind d g a b hcd) hd
def yh{i j pos}:PE X (.Constant (.int i) j pos) (tC (.int i)):=.mk λZ Z Z H Z I h=>wpAny_Constant_int ⟨.int i,H,I.tok _,⟨_,rfl⟩,h⟩
def ú{b j pos}:PE X (.Constant (.bool b) j pos) (tC (.bl b)):=.mk λZ Z Z H Z I h=>Constant_bool ⟨.bl b,H,I,rfl,h⟩
def jy{j pos}:PE X (.Constant .none j pos) (tC .non):=.mk λZ Z Z H Z I h=>Constant_none ⟨.non,H,I,rfl,h⟩
def xc{x j pos}:PE X (.Constant (.str x) j pos) (tC (.str x)):=.mk λZ Z Z H Z I h=>Calls.Constant_str ⟨.str x,H,I.tok _,⟨_,rfl⟩,h⟩
def Gl(X:Cx)(x:Str):Prop:=X.env.kindOf x=some .globalImplicit
def Ä{s:qa}{x:Str}{u:qb}{pos:Pos}(I:Inv X pins σ H s)(hg:Gl X x)(hm:X.mg x=some u)(h:Q u s)
  (hd:(x == ("__debug__":Str))=false:=by decide):wpAny (model X.prog X.w) X.A (eval (.Name x pos) X.env) Q E s :=
 Calls.Name_function_global I.ok.kind hg (Calls.loadGlobal_global (by rw[I.ok.glob];exact I.mod.glob.keeps I.bk) hm h) hd
def ġ{s:qa}{x:Str}{u:qb}{pos:Pos}(I:Inv X pins σ H s)(hg:Gl X x)(hm:X.mg x=none)(hv:bootBuiltins x=some u)(h:Q u s)
  (hn:x≠"__name__":=by decide) (hd:(x == ("__debug__":Str))=false:=by decide):wpAny (model X.prog X.w) X.A (eval (.Name x pos) X.env) Q E s:=by let⟨c,a,b⟩:=I.mod.blt;exact Calls.Name_function_global I.ok.kind hg (Calls.loadGlobal_builtin (by rw[I.ok.glob];exact I.mod.glob.keeps I.bk) hm (by rw[I.ok.blt];exact a.keeps I.bk) ((b x hn).trans hv) h) hd
def yc3{x:Str}{u:qb}{pos:Pos}(hg:Gl X x)(hm:X.mg x=some u)(r:xj v u)(hd:(x == ("__debug__":Str))=false:=by decide):PE X (.Name x pos) (tC v):=.mk
 λZ Z Z H Z I h=>Ä I hg hm ⟨v,H,I,r,h⟩ hd
def ysh{x:Str}{u:qb}{pos:Pos}(hg:Gl X x)(hm:X.mg x=none)(hv:bootBuiltins x=some u)(r:xj v u)(hn:x≠"__name__":=by decide)(hd:(x == ("__debug__":Str))=false:=by decide):PE X (.Name x pos) (tC v):=.mk
 λZ Z Z H Z I h=>ġ I hg hm hv ⟨v,H,I,r,h⟩ hn hd
variable{a b:qg}{tb:TE}{pos:Pos}
def PC(X:Cx)(op:CmpOp)(a b:qg)(t:TE):Prop :=
 ∀(pins:Θ)(s:qa)(σ:St)(H:Hp)(Q:VK),Inv X pins σ H s->t σ H Q ->
  wpAny (model X.prog X.w) X.A (eval a X.env) (λv s₁=>wpAny (model X.prog X.w) X.A (eval b X.env) (λu s₂=>wpAny (model X.prog X.w) X.A (compareOp op v u) (EP X pins σ Q) X.xe s₂) X.xe s₁) X.xe s
def tB(t:TE):TT:=λσ H Q=>t σ H λx H1=>∃c,x=.bl c/\Q c H1
def ykg{t:TE}(h:PC X op a b t)(h1:behindInMarks op b=false:=by first|exact nobehind _ ∅ ∅|rfl):PT X (.Compare a [op] [b] pos) (tB t):=by refine .mk λe s σ H Q I g=>?_;refine wpAny_isTrue_Compare1 (thn (h e s σ H _ I g) λv n h1=>thn h1 λu m l=>thn l λc o h'=>?_) h1;let⟨x,i,k,f,j⟩:=h';let⟨d,rfl,q⟩:=j;cases f;exact dE ⟨i,k,q⟩
def ug{e:qg}{t:TE}(h:PE X e t)(he:∀whole,isTrue e X.env whole=(do let v <- whole;standAt e.pos;holding [v] (truthy v)):=by intro _;rfl):PT X e (tB t):=by refine .mk λa s σ H Q I c=>?_;refine isTrue_plain (thn (h a s σ H _ I c) λv j h'=>?_) (he _);let⟨x,f,i,b,g⟩:=h';let⟨d,rfl,q⟩:=g;cases b;exact dE ⟨f,i,q⟩
variable{tA tB':TT}{xk:qi qg}
def tOr(t u:TT):TT:=λσ H Q=>t σ H λc H1=>if c=true then Q true H1 else u σ H1 Q
def vgn(t:TT):TT:=λσ H Q=>t σ H λc H1=>Q (!c) H1
def jo(ha:PT X a tA):PW X (.BoolOp .Or [a] pos) tA:=by
 intro f b s σ H Q I h;refine isTrue_or (thn (ha b s σ H Q I h) λc d e=>?_)
 cases c with
 |false=>exact isTrue_or_nil e
 |true=>exact e
def j4(ha:PT X a tA)(hb:PW X (.BoolOp .Or (b::xk) pos) tB'):PW X (.BoolOp .Or (a::b::xk) pos) (tOr tA tB'):=by
 intro i d s σ H Q I h;refine isTrue_or (thn (ha d s σ H _ I h) λc j ⟨e,g,f⟩=>?_)
 cases c with
 |true=>exact⟨e,g,f⟩
 |false=>exact hb i d j σ e Q g f
def x9(ha:PT X a tA):PT X (.UnaryOp .Not a pos) (vgn tA):=by refine .mk λb s σ H Q I h=>?_;exact isTrue_not (ha b s σ H (λc d=>Q (!c) d) I h)
def vcv(ta tb:TE):TE:=λσ H Q=>ta σ H λx H1=>∃c,x=.bl c/\if c=true then tb σ H1 Q else Q (.bl false) H1
def vcr(ta:TE):TE:=λσ H Q=>ta σ H λx H1=>∃c,x=.bl c/\Q (.bl (!c)) H1
def Ø{op}{t:TE}(h:PE X a t):PE X (.BoolOp op [a] pos) t:=.mk λb s σ H Q I c=>BoolOp_one (h b s σ H Q I c)
def zz(ha:PE X a ta)(hb:PE X (.BoolOp .And (b::xk) pos) tb):PE X (.BoolOp .And (a::b::xk) pos) (vcv ta tb):=by
 refine .mk λd s σ H Q I h=>?_;refine BoolOp_and (thn (ha d s σ H _ I h) λv i h'=>?_);let⟨x,f,g,j,e⟩:=h';let⟨c,rfl,e⟩:=e;cases j;refine dE ?_
 cases c with
 |true=>exact hb d i σ f Q g e
 |false=>exists .bl false,f,g,rfl,e
def yxr(ha:PE X a ta):PE X (.UnaryOp .Not a pos) (vcr ta):=by refine .mk λb s σ H Q I h=>?_;refine UnaryOp_ (thn (ha b s σ H _ I h) λv i h'=>?_);let⟨x,f,g,e,d⟩:=h';let⟨c,rfl,d⟩:=d;cases e;exact not_of (dE ⟨.bl (!c),f,g,rfl,d⟩)
def tIf(t:TT)(ta tb:TE):TE:=λσ H Q=>t σ H λc H1=>if c=true then ta σ H1 Q else tb σ H1 Q
def ε{c:qg}(hc:PT X c tA)(ha:PE X a ta)(hb:PE X b tb):PE X (.IfExp c a b pos) (tIf tA ta tb):=by
 refine .mk λe s σ H Q I h=>?_;refine wpAny_IfExp (thn (hc e s σ H _ I h) λd f ⟨g,j,i⟩=>?_)
 cases d with
 |true=>exact ha e f σ g Q j i
 |false=>exact hb e f σ g Q j i
end
def SqL(K:z3)(H:Hp)(a:z4)(xs:Υ):Prop :=
 Rd H a (.lst xs) \/
  ∃(o:Obj)(its:Array qb)(n:Nat),K.lookup a=some o/\o.cls=.type "list"/\o.dict=none/\o.data=.seq its n/\its.size<=sizeLine/\wo xs its.toList
def SqT(K:z3)(H:Hp)(a:z4)(xs:Υ):Prop :=
 Rd H a (.tup xs) \/
  ∃(o:Obj)(its:Array qb)(n:Nat),K.lookup a=some o/\o.cls=.type "tuple"/\o.data=.seq its n/\its.size<=sizeLine/\wo xs its.toList
def vgw:qb->qj V
 | .none=>some .non
 | .bool b=>some (.bl b)
 | .int i _=>some (.int i)
 | .str x _=>some (.str x)
 | .bytes b _=>some (.byt b)
 | .float b _=>some (.flt b)
 | .ref a=>some (.ref a)
 | .type n=>some (.ty n)
 |_=>none
def xj.abs{x:V}{u:qb}(r:xj x u):vgw u=some x:=by
 cases x with
 |non=>cases r;rfl
 |bl _=>cases r;rfl
 |int _=>let⟨t,rfl⟩:=r;rfl
 |str _=>let⟨t,rfl⟩:=r;rfl
 |byt _=>let⟨t,rfl⟩:=r;rfl
 |flt _=>let⟨t,rfl⟩:=r;rfl
 |ref _=>cases r;rfl
 |ty _=>cases r;rfl
def xj.inj{x:V}{u:qb}(r:xj x u)(q:xj y u):x=y:=cL (r.abs.symm.trans q.abs)
theorem wo.inj(h:wo xs us)(k:wo ys us):xs=ys:=by
 induction h generalizing ys with
 |nil=>cases k;rfl
 |cons r t ih =>
  cases k with
  |cons r' t'=>rw[r.inj r',ih t']
section
variable{s:qa}
def SqL.of{K:z3}(h:H a=some (.lst xs)):SqL K H a xs:=.inl (.inl h)
def SqT.of{K:z3}(h:H a=some (.tup xs)):SqT K H a xs:=.inl (.inl h)
def Inv.list(I:Inv X pins σ H s)(h:SqL X.K H a xs):∃its:Ο,wo xs its/\PlainL s.heap a its.toArray/\xs.length<=sizeLine:=by
 rcases h with h|⟨o,its,n,c,d,f,b,g,r⟩
 .obtain⟨z,its,n,r,e⟩:=h.ok I.hok;exists its,r,⟨_,n,e,rfl,rfl,rfl⟩,z
 .exists its.toList,r,⟨o,n,I.kIn a o c,d,f,by simpa using b⟩,?_;have e:=r.length;simp only[dF]at e;omega
def Inv.tuple(I:Inv X pins σ H s)(h:SqT X.K H a xs):∃its:Ο,wo xs its/\IsTup s.heap a its.toArray/\xs.length<=sizeLine:=by
 rcases h with h|⟨o,its,n,d,b,c,f,r⟩
 .obtain⟨z,its,r,p⟩:=h.ok I.hok;exact⟨its,r,p,z⟩
 .exists its.toList,r,⟨o,I.kIn a o d,b,n,by simpa using c⟩,?_;have e:=r.length;simp only[dF]at e;omega
def Inv.list_inj(I:Inv X pins σ H s)(h:SqL X.K H a xs)(h':SqL X.K H a ys):xs=ys:=by
 let⟨c,r,⟨o,n,e,_,_,d⟩,_⟩:=I.list h;let⟨b,i,⟨k,j,f,_,_,g⟩,_⟩:=I.list h';rw[e]at f;cases f;rw[d]at g;injection g with d1 _;have:c=b:=by simpa using congrArg Array.toList d1
 subst this;exact r.inj i
def Inv.tuple_inj(I:Inv X pins σ H s)(h:SqT X.K H a xs)(h':SqT X.K H a ys):xs=ys:=by
 let⟨c,r,⟨o,e,_,n,d⟩,_⟩:=I.tuple h;let⟨b,i,⟨k,f,_,j,g⟩,_⟩:=I.tuple h';rw[e]at f;cases f;rw[d]at g;injection g with d1 _;have:c=b:=by simpa using congrArg Array.toList d1
 subst this;exact r.inj i
end
abbrev Cx.wish(X:Cx)(E:Δ):Cx:={X with xe:=E}
abbrev Cx.nox(X:Cx):Cx:=X.wish λZ Z=>False
theorem Cx.Ok.wish(ok:X.Ok)(E:Δ):(X.wish E).Ok :=
 ⟨ok.mod,ok.kind,ok.glob,ok.blt,ok.above,ok.inj,ok.has,ok.cab,ok.hd,ok.frames,ok.stk,ok.exf,ok.bs,ok.bsz,ok.noex,ok.exfs,ok.funs,ok.frf⟩
def Cx.Ok.unwish(ok:(X.wish E).Ok):X.Ok :=
 ⟨ok.mod,ok.kind,ok.glob,ok.blt,ok.above,ok.inj,ok.has,ok.cab,ok.hd,ok.frames,ok.stk,ok.exf,ok.bs,ok.bsz,ok.noex,ok.exfs,ok.funs,ok.frf⟩
section
variable{s:qa}
theorem Inv.wish(I:Inv X pins σ H s)(E:Δ):Inv (X.wish E) pins σ H s:=⟨I.ok.wish E,I.os,I.bare,I.base,I.loc,I.cell,I.free,I.freeC,I.pin,I.hok,I.len⟩
theorem Inv.unwish(I:Inv (X.wish E) pins σ H s):Inv X pins σ H s:=⟨I.ok.unwish,I.os,I.bare,I.base,I.loc,I.cell,I.free,I.freeC,I.pin,I.hok,I.len⟩
theorem SP.unwish{D:Ă}{f:Flow}(h:SP (X.wish E) pins D f s'):SP X pins D f s':=by
 cases f with
 |next=>let⟨σ',a,I,q⟩:=h;exact⟨σ',a,I.unwish,q⟩
 |brk=>let⟨σ',a,I,q⟩:=h;exact⟨σ',a,I.unwish,q⟩
 |cont=>let⟨σ',a,I,q⟩:=h;exact⟨σ',a,I.unwish,q⟩
 |ret u=>let⟨v,σ',a,I,r,q⟩:=h;exists v,σ',a,I.unwish,r,q
theorem PSs.nox{st:qi qc}{t:TS}(h:PSs X.nox st t):PSs X st t:=.mk λa s σ H D I b =>
 dR (h a s σ H D (I.wish _) b) (λZ Z q=>q.unwish) λZ Z z=>False.elim z
end
section
variable{st:qc}{xk:qi qc}{t u:TS}{e:qg}{pos:Pos}
def vco:TS:=λD σ H=>D.nx σ H
def vf3(t u:TS):TS:=λD σ H=>t {D with nx:=u D} σ H
def ve:PSs X [] vco:=.mk λZ Z σ H Z I h=>wpAny_execs_nil ⟨σ,H,I,h⟩
def yf(h1:PS X st t)(h2:PSs X xk u):PSs X (st::xk) (vf3 t u):=by
 refine .mk λa s σ H D I h=>?_;refine wpAny_execs_cons (thn (h1 a s σ H {D with nx:=u D} I h) λf b q=>?_)
 cases f with
 |next =>
  let⟨σ',d,c,q⟩:=q;exact h2 a b σ' d D c q
 |ret v=>exact q
 |brk=>exact q
 |cont=>exact q
def yc(h1:PS X st t):PSs X [st] t:=by
 refine .mk λa s σ H D I h=>?_;refine wpAny_execs_cons (thn (h1 a s σ H D I h) λf b q=>?_)
 cases f with
 |next=>exact wpAny_execs_nil q
 |ret v=>exact q
 |brk=>exact q
 |cont=>exact q
def Inv.quiet{s:qa}(I:Inv X pins σ H s):interactive X.env=false:=by simp[interactive,I.ok.kind]
def vcp(te:TE):TS:=λD σ H=>te σ H λZ H1=>D.nx σ H1
def yt(he:PE X e te)(hs:swapsWith e none pos.line X.env=pure false:=by rfl):PS X (.Expr e pos) (vcp te):=by refine .mk λa s σ H D I h=>?_;exact wpAny_Expr_any (thn (he a s σ H _ I h) λv f ⟨x,b,d,g,c⟩=>⟨σ,b,d,c⟩) I.quiet hs
def vgr(te:TE):TS:=λD σ H=>te σ H D.rt
def yo(he:PE X e te):PS X (.Return (some e) pos) (vgr te):=by refine .mk λa s σ H D I h=>?_;exact wpAny_Return_some (thn (he a s σ H _ I h) λv g ⟨x,c,f,b,d⟩=>⟨x,σ,c,f,b,d⟩)
def vgj(c:TT)(t u:TS):TS:=λD σ H=>c σ H λb H1=>if b=true then t D σ H1 else u D σ H1
def wd{c:qg}{a b:qi qc}{tc:TT}(hc:PT X c tc)(ha:PSs X a t)(hb:PSs X b u):PS X (.If c a b pos) (vgj tc t u):=by
 refine .mk λe s σ H D I h=>?_;refine wpAny_If (thn (hc e s σ H _ I h) λd f ⟨g,j,i⟩=>?_)
 cases d with
 |true=>exact ha e f σ g D j i
 |false=>exact hb e f σ g D j i
def va2:TS:=λZ Z Z=>False
def Ñ:PS X st va2:=.mk λZ Z Z Z Z Z h=>h.elim
end
abbrev TG:=V->St->Hp->(Ζ)->Prop
abbrev TGs:=qi V->St->Hp->(Ζ)->Prop
def PG(X:Cx)(target:qg)(t:TG):Prop :=
 ∀(pins:Θ)(s:qa)(σ:St)(H:Hp)(v:V)(u:qb)(Q:Ζ),Inv X pins σ H s->xj v u->t v σ H Q ->
  wpAny (model X.prog X.w) X.A (assign target X.env u) (λZ s'=>∃σ' H',Inv X pins σ' H' s'/\Q σ' H') X.xe s
def PGs(X:Cx)(ts:qi qg)(t:TGs):Prop :=
 ∀(pins:Θ)(s:qa)(σ:St)(H:Hp)(vs:Υ)(us:Ο)(Q:Ζ),Inv X pins σ H s->wo vs us->t vs σ H Q ->
  wpAny (model X.prog X.w) X.A (assignInOrder ((assignEach ts X.env).map (·.2)) us) (λZ s'=>∃σ' H',Inv X pins σ' H' s'/\Q σ' H') X.xe s
section
variable{pos:Pos}
def xg(i:Nat):TG:=λv σ H Q=>Q (σ.set i (some v)) H
def we{x:Str}(hN:X.N.Nodup)(hi:X.N[i]?=some x)(hx:Loc X.env.scope x)(hf:X.fn x=true\/X.env.scope.names.lookup x=some .local:=by first|exact .inl rfl|exact .inr rfl|assumption):PG X (.Name x pos) (xg i):=by intro a s σ H v u Q I r h;exact wpAny_assign_Name (yd4 I hN hi hx r (λc b=>⟨_,H,b,h⟩) hf)
def yn4:TGs:=λvs σ H Q=>vs=[]/\Q σ H
def ν(t:TG)(u:TGs):TGs:=λvs σ H Q=>∃v r,vs=v::r/\t v σ H λσ' H'=>u r σ' H' Q
def ż:PGs X [] yn4:=by intro a s σ H c b Q I r h;let⟨e,h⟩:=h;subst e;cases r;exact assignInOrder_nil ⟨σ,H,I,h⟩
def zf{e:qg}{t:TG}{u:TGs}(h1:PG X e t)(h2:PGs X es u)
  (hs:(assignEach (e::es) X.env).map (·.2)=assign e X.env::(assignEach es X.env).map (·.2):=by rfl):PGs X (e::es) (ν t u):=by
 intro a s σ H i j Q I r h;let⟨v,k,c,h⟩:=h;subst c
 cases r with
 |cons r rr =>
  rw[hs];refine assignInOrder_cons (thn (h1 a s σ H _ _ _ I r h) λZ b ⟨σ1,d,g,f⟩=>?_);exact h2 a b σ1 d _ _ Q g rr f
def yxa(K:z3)(n:Nat)(t:TGs):TG:=λv σ H Q=>∃a xs,v=.ref a/\SqT K H a xs/\xs.length=n/\t xs σ H Q
def ye0{k:Nat}{t:TGs}{n:Nat}(hc:X.calm=true)(h:PGs X es t)
  (hn:(assignEach es X.env).length=n:=by rfl) (hst:(assignEach es X.env).findIdx? (·.1)=none:=by rfl):PG X (.Tuple es k pos) (yxa X.K n t):=by intro c s σ H v u Q I r d;let⟨a,j,p,g,q,d⟩:=d;subst p;cases r;let⟨w,f,i,y⟩:=I.tuple g;refine assign_Tuple_tuple (I.ok.hd hc) i (by simp[hn,<- q,f.length]) hst λm l=>?_;have x:Inv X c σ H {s with heap:=m}:=I.kept (t':=s.toks) λb o e=>l b o (cV (cC e)) e;exact h c _ σ H j _ Q x (by simpa using f) d
def vdz(te:TE)(g:TG):TS:=λD σ H=>te σ H λx H1=>g x σ H1 D.nx
def yu{x:Str}{e:qg}{pos':Pos}(hN:X.N.Nodup)(hi:X.N[i]?=some x)(hx:Loc X.env.scope x)(he:PE X e te)(hs:swapsWith e (some (.Name x pos')) pos.line X.env=pure false:=by rfl)(hf:X.fn x=true\/X.env.scope.names.lookup x=some .local:=by first|exact .inl rfl|exact .inr rfl|assumption):
  PS X (.Assign [.Name x pos'] e pos) (vdz te (xg i)):=by refine .mk λa s σ H D I h=>?_;refine wpAny_Assign_Name (thn (he a s σ H _ I h) λv k h'=>?_) hs;let⟨y,c,g,b,f⟩:=h';exact yd4 g hN hi hx b (λj d=>⟨_,c,d,f⟩) hf
end
section
variable{pos:Pos}
def vbg(c:TT)(tb:TS):TS:=λD σ H=>∃W:Nat->St->Hp->Prop,(∃m,W m σ H)/\∀m σ H,W m σ H ->
 c σ H λb H1=>if b=true then ∃N:Ζ,(∀σ' H',N σ' H'->∃m',m'<m/\W m' σ' H')/\tb {D with nx:=N,ct:=N,bk:=D.nx} σ H1 else D.nx σ H1
def j8{c:qg}{tc:TT}{tb:TS}(hp:PassesOwn (model X.prog X.w) X.A X.env X.xe)(hc:PT X c tc)(hb:PSs X body tb):PS X (.While c body [] pos) (vbg tc tb):=by
 refine .mk λa s σ H D I h=>?_;let⟨W,⟨z,x⟩,e⟩:=h;refine wpAny_While (codeAny_whileLoop (λn B=>∃σ' H',Inv X a σ' H' B/\W n σ' H') ?_ z ⟨σ,H,I,x⟩);rintro n u ⟨σ1,q,E,y⟩;refine wpAny_passesOwn hp (thn (hc a u σ1 q _ E (e n σ1 q y)) λb C ⟨r,t,g⟩=>?_)
 cases b with
 |true =>
  let⟨N,p,g⟩:=g;rw[if_pos rfl];refine wpAny_passesOwn hp (thn (hb a C σ1 r _ t g) λf F i=>?_)
  cases f with
  |next =>
   let⟨σ3,d,o,j⟩:=i;let⟨l,k,m⟩:=p σ3 d j;exists l,k,σ3,d,o,m
  |cont =>
   let⟨σ3,d,o,j⟩:=i;let⟨l,k,m⟩:=p σ3 d j;exists l,k,σ3,d,o,m
  |brk=>exact i
  |ret v=>exact i
 |false =>
  rw[if_neg cI];exact wpAny_execs_nil ⟨σ1,r,t,g⟩
end
structure It where
 go:Nat->Hp->Prop
 yld:Nat->Hp->V->Hp->Prop
 stop:Nat->Hp->Prop
def ye7(X:Cx)(pins:Θ)(H:Hp)(b:z4):Prop :=
 H b=none/\b≠X.env.locals/\b∉X.fs/\(b∈X.ex\/X.s₀.heap.objs.size<=b)/\(∀x c,X.env.cells.lookup x=some c->c≠b)/\∀p∈X.pn++pins,p.1≠b
def Inv.fpOk{s:qa}{b:z4}(I:Inv X pins σ H s)(hb:s.heap.objs.size<=b)(hn:H' b=none):ye7 X pins H' b:=by
 exists hn,Nat.ne_of_gt (dg I.lt hb),I.nofs hb,.inr (de I.sz hb),λx c e z=>?_,λp a z=>?_
 .obtain⟨v,q⟩:=I.cell x c e;exact absurd (dg q.lt (by rw[z];exact hb)) (dU _)
 .exact absurd (dg (cC (I.pin p a).1) (by rw[z];exact hb)) (dU _)
structure ye6(P:qh)(w:qd)(K:z3)(tg:qg)(J:It)(fp:Χ)(it:z4)(tn:Nat->qf->Prop):Prop where
 mem:it∈fp
 obj:∀i h,tn i h->∀b∈fp,∃o,h.get? b=some o/\∀v,o.data≠.cell v
 keep:∀i h h',tn i h->(∀b∈fp,∀o,h.get? b=some o->h'.get? b=some o)->tn i h'
 item:∀(X:Cx),X.prog=P->X.w=w->X.K=K->X.calm=true->∀(i:Nat)(pins:Θ)(s:qa)(σ:St)(H:Hp)(E:Δ),Inv X pins σ H s->(∀b∈fp,ye7 X pins H b)->tn i s.heap->J.go i H ->
  wpAny (model P w) X.A (pyNext (.ref it)) (λr s1=>∃u,r=some u/\
   wpAny (model P w) X.A (letOwnedTupleGo tg (.ref it) u) (λZ s2=>∃x H',Inv X pins σ H' s2/\xj x u/\J.yld i H x H'/\tn (i+1) s2.heap/\∀b∈fp,H' b=none) E s1) E s
 done:∀(X:Cx),X.prog=P->X.w=w->X.K=K->X.calm=true->∀(i:Nat)(pins:Θ)(s:qa)(σ:St)(H:Hp)(E:Δ),Inv X pins σ H s->(∀b∈fp,ye7 X pins H b)->tn i s.heap->J.stop i H ->
  wpAny (model P w) X.A (pyNext (.ref it)) (λr s1=>r=none/\Inv X pins σ H s1) E s
 self:∀(A:qe)(i:Nat)(s:qa)(Q:Δ)(E:Δ),tn i s.heap->Q (.ref it) s->wpAny (model P w) A (pyIter (.ref it)) Q E s
abbrev TI:=St->Hp->(It->Hp->Prop)->Prop
def PIE(X:Cx)(pins:Θ)(σ:St)(tg:qg)(R:It->Hp->Prop)(itv:qb)(s2:qa):Prop :=
 ∃(it:z4)(fp:Χ)(tn:Nat->qf->Prop)(J:It)(H':Hp),itv=.ref it/\Inv X pins σ H' s2/\ye6 X.prog X.w X.K tg J fp it tn/\tn 0 s2.heap/\(∀b∈fp,ye7 X pins H' b)/\R J H'
def PI(X:Cx)(tg iter:qg)(wi:TI):Prop :=
 ∀(pins:Θ)(s:qa)(σ:St)(H:Hp)(R:It->Hp->Prop),Inv X pins σ H s->wi σ H R ->
  wpAny (model X.prog X.w) X.A (eval iter X.env) (λv s1=>wpAny (model X.prog X.w) X.A (pyIter v) (PIE X pins σ tg R) X.xe s1) X.xe s
def yc9{A:qe}{s:qa}{it:z4}{u:qb}{o:Obj}{n:String}{vs:Array qb}{Q:Unit->qa->Prop}(ho:s.heap.get? it=some o)(hc:o.cls=.type n)(hd:o.data=.fields vs)
  (hn:["enumerate","zip","dict_itemiterator","dict_reverseitemiterator","odict_iterator","itertools.zip_longest","itertools.pairwise"].contains n=false) (hQ:Q ⟨⟩ s):wpAny M A (letOwnedTupleGo tg (.ref it) u) Q E s:=by
 unfold letOwnedTupleGo
 cases tg<;>first
  |exact cr hQ
  | (cases u<;>first
    |exact cr hQ
    | (refine cg (wpAny_load ho ?_)
       rw[hc,hd];show wpAny M A (if (["enumerate","zip","dict_itemiterator","dict_reverseitemiterator","odict_iterator","itertools.zip_longest","itertools.pairwise"].contains n && vs[0]? == some (rawInt _))=true then _ else _) Q E s;rw[if_neg (by intro h;rw[hn,Bool.false_and]at h;cases h)];exact cr hQ))
def Itl(K:z3)(a:z4):It :=
 ⟨λi H=>∃xs x,SqL K H a xs/\xs[i]?=some x,λi H x H'=>H'=H/\∀xs,SqL K H a xs->xs[i]?=some x,λi H=>∃xs,SqL K H a xs/\xs.length<=i⟩
def Itt(K:z3)(a:z4):It :=
 ⟨λi H=>∃xs x,SqT K H a xs/\xs[i]?=some x,λi H x H'=>H'=H/\∀xs,SqT K H a xs->xs[i]?=some x,λi H=>∃xs,SqT K H a xs/\xs.length<=i⟩
def Itr(lo:Int)(n:Nat):It:=⟨λi Z=>i<n,λi H x H'=>H'=H/\x=.int (lo+i),λi Z=>n<=i⟩
def yht{w:qd}{K:z3}(a it:z4):ye6 P w K tg (Itl K a) [it] it (λi h=>h.IsListIter it a i) where
 mem:=by simp
 obj:=λi h f b j=>by
  have e:b=it:=by simpa using j
  subst e;let⟨o,e,c,d⟩:=f;exists o,e,λv z=>by rw[d]at z;cases z
 keep:=λi h m f k=>f.at λo e=>k it (by simp) o e
 item:=by
  intro X J t y N i g s σ H E I q f C;subst J t y;let⟨Y,x,n,D⟩:=C;let⟨M,B,p,T⟩:=I.list n;let⟨u,R,Z⟩:=B.get D;let⟨F,r,Q,A,L,G⟩:=q it (by simp);refine wpAny_pyNext_list_item f p.isList (x:=u) (by simpa using R) λm l U=>?_;have I1:Inv X g σ H {s with heap:=m}:=I.turned (t':=s.toks) (λb o j e=>(U.2 b j).trans e) F r A L G;let⟨o,e,c,d⟩:=id l;exists u,rfl,yc9 (s:={s with heap:=m}) e c d ∅ ⟨x,H,I1,Z,⟨rfl,λys O=>by rw[I.list_inj O n];exact D⟩,l,λb j=>(q b j).1⟩
 done:=by
  intro X J t y N i g s σ H E I q f C;subst J t y;let⟨Y,n,D⟩:=C;let⟨M,B,p,T⟩:=I.list n;let⟨F,r,Q,A,L,G⟩:=q it (by simp);have hl:=B.length;exact wpAny_pyNext_list_end (I.ok.hd N) f p.isList (by simp;omega) λm S=>⟨rfl,I.turned (t':=s.toks) (λb o j e=>S b o j e) F r A L G⟩
 self:=λW W W W W f h=>wpAny_pyIter_listiter f h
def yfb{w:qd}{K:z3}(a it:z4):ye6 P w K tg (Itt K a) [it] it (λi h=>h.IsTupleIter it a i) where
 mem:=by simp
 obj:=λi h f b j=>by
  have e:b=it:=by simpa using j
  subst e;let⟨o,e,c,d⟩:=f;exists o,e,λv z=>by rw[d]at z;cases z
 keep:=λi h n f k=>f.at λo e=>k it (by simp) o e
 item:=by
  intro X L y A N i g s σ H E I r f D;subst L y A;let⟨Y,x,q,F⟩:=D;let⟨l,C,p,T⟩:=I.tuple q;let⟨u,R,Z⟩:=C.get F;let⟨G,t,Q,B,M,J⟩:=r it (by simp);refine wpAny_pyNext_tuple_item f (show s.heap.IsTuple a l.toArray from p) (x:=u) (by simpa using R) λn m U=>?_;have I1:Inv X g σ H {s with heap:=n}:=I.turned (t':=s.toks) (λb o j e=>(U.2 b j).trans e) G t B M J;let⟨o,e,c,d⟩:=id m;exists u,rfl,yc9 (s:={s with heap:=n}) e c d ∅ ⟨x,H,I1,Z,⟨rfl,λys O=>by rw[I.tuple_inj O q];exact F⟩,m,λb j=>(r b j).1⟩
 done:=by
  intro X L y A N i g s σ H E I r f D;subst L y A;let⟨Y,q,F⟩:=D;let⟨l,C,p,T⟩:=I.tuple q;let⟨G,t,Q,B,M,J⟩:=r it (by simp);have hl:=C.length;exact wpAny_pyNext_tuple_end (I.ok.hd N) f (show s.heap.IsTuple a l.toArray from p) (by simp;omega) λn S=>⟨rfl,I.turned (t':=s.toks) (λb o j e=>S b o j e) G t B M J⟩
 self:=λW W W W W f h=>wpAny_pyIter_tupleiter f h
def ye8{w:qd}{K:z3}(it:z4)(lo:Int)(n:Nat):ye6 P w K tg (Itr lo n) [it] it (λi h=>IsRangeIter h it (lo+(i:Nat)*1) ((n:Int)-(i:Nat)) 1) where
 mem:=by simp
 obj:=λi h a b d=>by
  have e:b=it:=by simpa using d
  subst e
  exact⟨_,a,λv z=>by
   have D:Data.fields _=Data.cell v:=z;cases D⟩
 keep:=λi h g a k=>k it (by simp) _ a
 item:=by
  intro X A m p u i c s σ H E I j a r;subst A m p;let⟨x,l,G,q,B,y⟩:=j it (by simp);have W:=Walks.range (prog:=X.prog) (w:=X.w) (I.ok.hd u) it lo 1 n;refine W.item i s _ _ r a λv g C L f F=>?_;let⟨t,rfl⟩:=L;have M:Inv X c σ H {s with heap:=g,toks:=C}:=I.turned (λb o d e=>F b o (by simpa using d) e) x l q B y;exists _,rfl,yc9 (s:={s with heap:=g,toks:=C}) (n:="range_iterator") f rfl rfl ∅ ⟨.int (lo+i),H,M,⟨t,?_⟩,⟨rfl,rfl⟩,f,λb d=>(j b d).1⟩;rw[Int.mul_one]
 done:=by
  intro X A m p u i c s σ H E I j a r;subst A m p;let⟨x,l,G,q,B,y⟩:=j it (by simp);exact wpAny_pyNext_range_end (I.ok.hd u) a (by have:n<=i:=r;omega) λg J=>⟨rfl,I.turned (t':=s.toks) (λb o d e=>J b o d e) x l q B y⟩
 self:=λZ Z Z Z Z a h=>wpAny_pyIter_rangeiter a h
def vdg(K:z3)(tl:TE):TI:=λσ H R=>tl σ H λx H1=>∃a,x=.ref a/\(∃xs,SqL K H1 a xs)/\R (Itl K a) H1
def vgg(K:z3)(tl:TE):TI:=λσ H R=>tl σ H λx H1=>∃a,x=.ref a/\(∃xs,SqT K H1 a xs)/\R (Itt K a) H1
def wz{l:qg}{tl:TE}(hl:PE X l tl):PI X tg l (vdg X.K tl):=by
 intro c s σ H R I h;refine thn (hl c s σ H _ I h) λv d h'=>?_;let⟨x,k,f,j,m⟩:=h';let⟨a,e,⟨r,g⟩,q⟩:=m;subst e;cases j;let⟨i,u,p,t⟩:=f.list g;refine wpAny_pyIter_list p.isList ?_;exists d.heap.objs.size,[d.heap.objs.size],_,_,k,rfl,f.kept (t':=d.toks) λb o e=>ck _ e,yht a _,⟨_,cD _ rfl,rfl,rfl⟩,λb n=>?_,q;have e:b=d.heap.objs.size:=by simpa using n
 subst e;exact f.fpOk (cq _) (f.hok.fresh (cq _))
def yex{l:qg}{tl:TE}(hl:PE X l tl):PI X tg l (vgg X.K tl):=by
 intro d s σ H R I h;refine thn (hl d s σ H _ I h) λv c h'=>?_;let⟨x,k,f,j,m⟩:=h';let⟨a,e,⟨r,i⟩,q⟩:=m;subst e;cases j;let⟨g,u,p,t⟩:=f.tuple i;refine wpAny_pyIter_tuple (show c.heap.IsTuple a g.toArray from p) ?_;exists c.heap.objs.size,[c.heap.objs.size],_,_,k,rfl,f.kept (t':=c.toks) λb o e=>ck _ e,yfb a _,⟨_,cD _ rfl,rfl,rfl⟩,λb n=>?_,q;have e:b=c.heap.objs.size:=by simpa using n
 subst e;exact f.fpOk (cq _) (f.hok.fresh (cq _))
def ynq{s:qa}{R:It->Hp->Prop}{lo hi:Int}{t u v:Tok}{tk:Nat}(I:Inv X pins σ H s)(h1:-(2^62)<=lo)(h2:lo<2^62)(h3:-(2^62)<=hi)(h4:hi<2^62)
  (q:R (Itr lo (hi-lo).toNat) H):wpAny (model X.prog X.w) X.A (pyIter (.ref s.heap.objs.size)) (PIE X pins σ tg R) E {s with heap:=s.heap.push { cls:=.type "range",data:=.fields #[.int lo t,.int hi u,.int 1 v]},toks:=tk}:=by
 refine wpAny_pyIter_range (IsRange.new ..) (small_one h1 h2 h3 h4) ?_;have a:Inv X pins σ H {s with heap:=s.heap.push { cls:=.type "range",data:=.fields #[.int lo t,.int hi u,.int 1 v]},toks:=tk}:=I.kept λb o e=>ck _ e
 refine⟨(s.heap.push { cls:=.type "range",data:=.fields #[.int lo t,.int hi u,.int 1 v]}).objs.size,[(s.heap.push { cls:=.type "range",data:=.fields #[.int lo t,.int hi u,.int 1 v]}).objs.size],_,_,H,rfl,
  a.kept (t':=tk) λb o e=>ck _ e,ye8 _ lo (hi-lo).toNat,?_,λb c=>?_,q⟩
 .have f:lo+((0:Nat):Int)*1=lo:=by simp
  have d:(((hi-lo).toNat:Nat):Int)-((0:Nat):Int)=Builtin.Range.rangeSize lo hi 1:=by rw[rangeSize_one];split<;>omega
  show IsRangeIter _ _ (lo+((0:Nat):Int)*1) ((((hi-lo).toNat:Nat):Int)-((0:Nat):Int)) 1;rw[f,d];exact cD _ rfl
 .have e:b=(s.heap.push { cls:=.type "range",data:=.fields #[.int lo t,.int hi u,.int 1 v]}).objs.size:=by simpa using c
  subst e;exact a.fpOk (cq _) (a.hok.fresh (cq _))
def vc7(ta:TA):TI:=λσ H R=>ta σ H λvs H1=>∃j:Int,vs=[.int j]/\-(2^62)<=j/\j<2^62/\R (Itr 0 j.toNat) H1
def xl{a:qg}{ta:TA}{p pos:Pos}(hg:Gl X "range")(hm:X.mg "range"=none)(ha:PA X [a] ta)(hs:starEach [a] X.env=[(false,eval a X.env)]:=by rfl):PI X tg (.Call (.Name "range" p) [a] [] pos) (vc7 ta):=by
 intro b s σ H R I h;refine Call_ (ġ I hg hm boot_range (PyProof.Rows.callWith_type1 (thn (ha pos b s σ H _ I h) λm i h'=>?_) hs rfl));let⟨l,k,g,d,c⟩:=h';let⟨j,e,c,f,q⟩:=c;subst e
 cases d with
 |cons r rr =>
  cases rr;let⟨t,rfl⟩:=r;exact call_range_1 (ynq g () () c f (by simpa using q))
def vgm(wi:TI)(g:TG)(tb:TS):TS:=λD σ H=>wi σ H λJ H1=>∃W:Nat->Nat->St->Hp->Prop,(∃m,W 0 m σ H1)/\∀i m σ H,W i m σ H ->
 (J.stop i H/\D.nx σ H)\/(J.go i H/\∃N:Ζ,(∀σ' H',N σ' H'->∃m',m'<m/\W (i+1) m' σ' H')/\∀x H',J.yld i H x H'->g x σ H' λσ2 H2=>tb {D with nx:=N,ct:=N,bk:=D.nx} σ2 H2)
def yef(fp:Χ)(h:qf):Θ:=fp.filterMap λb=>(h.get? b).map λo=>(b,o)
def uy{h:qf}{b:z4}{o:Obj}(hb:b∈fp)(e:h.get? b=some o):(b,o)∈yef fp h:=List.mem_filterMap.mpr ⟨b,hb,by rw[e];rfl⟩
def yid{h:qf}{p:z4×Obj}(hp:p∈yef fp h):p.1∈fp/\h.get? p.1=some p.2:=by
 let⟨b,c,e⟩:=List.mem_filterMap.mp hp
 cases q:h.get? b with
 |none=>rw[q]at e;cases e
 |some o =>
  rw[q]at e;have a:(b,o)=p:=cL e;subst a;exists c,q
def Inv.pinned{s:qa}(I:Inv X pins σ H s)(hf:∀b∈fp,ye7 X pins H b)(ho:∀b∈fp,∃o,s.heap.get? b=some o/\∀v,o.data≠.cell v):Inv X (pins++yef fp s.heap) σ H s :=
 I.pins_of λp g=>(cQ.mp g).elim (λz=>I.pin p (cN _ z)) λz=>by
  let⟨c,e⟩:=yid z;let⟨f,h,i,_⟩:=hf p.1 c;let⟨o,a,d⟩:=ho p.1 c;rw[e]at a;cases a;exists e,f,h,i,d
def Inv.unpinned{pl:Θ}{s:qa}(I:Inv X (pins++pl) σ H s):Inv X pins σ H s:=I.pins_of λp a=>I.pin p (cN _ (dP _ a))
def uh{iter:qg}{wi:TI}{g:TG}{tb:TS}{pos:Pos}(hp:PassesOwn (model X.prog X.w) X.A X.env X.xe)(hc:X.calm=true)(hi:PI X tg iter wi)(hg:PG X tg g)(hb:PSs X body tb)
  (hs:∀x,foldedSetIterable iter X.env x=pure x:=by intro _;rfl):PS X (.For tg iter body [] pos) (vgm wi g tb):=by
 refine .mk λa s σ H D I h=>?_;refine wpAny_For (thn (hi a s σ H _ I h) λv s1 h1=>thn h1 λa0 s2 h2=>?_) hs;let⟨it,y,Q,J,H2,e,I2,T,M,S,W,⟨m0,w0⟩,F⟩:=h2;subst e;have l:∀{H':Hp},(∀b∈y,H' b=none)->∀b∈y,ye7 X a H' b:=λhn b hb=>⟨hn b hb,(S b hb).2⟩;refine codeAny_forLoop_any (λn U=>∃i σ' H',Inv X a σ' H' U/\Q i U.heap/\(∀b∈y,H' b=none)/\W i n σ' H') ?_ m0 ⟨0,σ,H2,I2,M,λb hb=>(S b hb).1,w0⟩;rintro n Y ⟨i,σ3,G,I3,B,t,w3⟩;rcases F i n σ3 G w3 with⟨E,qn⟩|⟨go,N,hN,C⟩
 .refine wpAny_passesOwn hp (thn (T.done X rfl rfl rfl hc i a Y σ3 G X.xe I3 (l t) B E) λr s4 ⟨K,I4⟩=>?_);subst K;exact wpAny_execs_nil ⟨σ3,G,I4,qn⟩
 .refine wpAny_passesOwn hp (thn (T.item X rfl rfl rfl hc i a Y σ3 G X.xe I3 (l t) B go) λr s4 ⟨u,K,h4⟩=>?_);subst K;refine wpAny_passesOwn hp (thn h4 λw R h'=>?_);let⟨x,Z,I5,r5,y5,q,P⟩:=h';have L:=I5.pinned (l P) (T.obj _ _ q);refine wpAny_passesOwn hp (thn (hg _ R σ3 Z x u _ L r5 (C x Z y5)) λw s6 ⟨σ6,H6,I6,q6⟩=>?_);refine wpAny_passesOwn hp (thn (hb _ s6 σ6 H6 _ I6 q6) λf O p=>?_)
  have c:∀{σ7:St}{j:Hp},Inv X (a++yef y R.heap) σ7 j O->N σ7 j->∃m,m<n/\∃i σ' H',Inv X a σ' H' O/\Q i O.heap/\(∀b∈y,H' b=none)/\W i m σ' H':=λ{σ7 j}k z=>by
   let⟨m',hm,w7⟩:=hN σ7 j z;exists m',hm,i+1,σ7,j,k.unpinned,T.keep _ _ _ q λb hb o e=>(k.pin (b,o) (cN _ (cN _ (uy hb e)))).1,λb hb=>?_,w7;let⟨o,e,d⟩:=T.obj _ _ q b hb;exact(k.pin (b,o) (cN _ (cN _ (uy hb e)))).2.1
  cases f with
  |next=>let⟨σ7,j,k,z⟩:=p;exact c k z
  |cont=>let⟨σ7,j,k,z⟩:=p;exact c k z
  |brk=>let⟨σ7,j,k,p⟩:=p;exact⟨σ7,j,k.unpinned,p⟩
  |ret v=>let⟨x7,σ7,j,k,r7,p⟩:=p;exists x7,σ7,j,k.unpinned,r7,p
def zd{K:z3}{g:TG}{tb:TS}{D:Ă}(Pv:Nat->St->Hp->Prop)(h0:Pv 0 σ H)(hl:∀i σ H,i<=xs.length->Pv i σ H->SqL K H a xs)
  (hs:∀i x σ H,xs[i]?=some x->Pv i σ H->g x σ H λσ2 H2=>tb {D with nx:=Pv (i+1),ct:=Pv (i+1),bk:=D.nx} σ2 H2) (hd:∀σ H,Pv xs.length σ H->D.nx σ H):
  ∃W:Nat->Nat->St->Hp->Prop,(∃m,W 0 m σ H)/\∀i m σ H,W i m σ H ->
   ((Itl K a).stop i H/\D.nx σ H)\/((Itl K a).go i H/\∃N:Ζ,(∀σ' H',N σ' H'->∃m',m'<m/\W (i+1) m' σ' H')/\∀x H',(Itl K a).yld i H x H'->g x σ H' λσ2 H2=>tb {D with nx:=N,ct:=N,bk:=D.nx} σ2 H2):=by
 exists λi m σ H=>m=xs.length-i/\i<=xs.length/\Pv i σ H,⟨xs.length,by simp,cP _,h0⟩,?_;rintro i m σ H ⟨rfl,b,p⟩;have q:=hl i σ H b p;by_cases hlt:i<xs.length
 .refine .inr ⟨⟨xs,xs[i],q,by simp[hlt]⟩,Pv (i+1),λσ' H' c=>⟨xs.length-(i+1),(),rfl,hlt,c⟩,λx H' y=>?_⟩;let⟨e,y⟩:=y;subst e;exact hs i x σ _ (y xs q) p
 .have e:i=xs.length:=()
  subst e;exact .inl ⟨⟨xs,q,cq _⟩,hd σ H p⟩
def jt{lo:Int}{n:Nat}{g:TG}{tb:TS}{D:Ă}(Pv:Nat->St->Hp->Prop)(h0:Pv 0 σ H)
  (hs:∀i σ H,i<n->Pv i σ H->g (.int (lo+i)) σ H λσ2 H2=>tb {D with nx:=Pv (i+1),ct:=Pv (i+1),bk:=D.nx} σ2 H2) (hd:∀σ H,Pv n σ H->D.nx σ H):
  ∃W:Nat->Nat->St->Hp->Prop,(∃m,W 0 m σ H)/\∀i m σ H,W i m σ H ->
   ((Itr lo n).stop i H/\D.nx σ H)\/((Itr lo n).go i H/\∃N:Ζ,(∀σ' H',N σ' H'->∃m',m'<m/\W (i+1) m' σ' H')/\∀x H',(Itr lo n).yld i H x H'->g x σ H' λσ2 H2=>tb {D with nx:=N,ct:=N,bk:=D.nx} σ2 H2):=by
 exists λi m σ H=>m=n-i/\i<=n/\Pv i σ H,⟨n,by simp,cP _,h0⟩,?_;rintro i m σ H ⟨rfl,b,p⟩;by_cases hlt:i<n
 .refine .inr ⟨hlt,Pv (i+1),λσ' H' a=>⟨n-(i+1),(),rfl,hlt,a⟩,λx H' y=>?_⟩;let⟨e,y⟩:=y;subst e y;exact hs i σ _ hlt p
 .have e:i=n:=()
  subst e;exact .inl ⟨cq _,hd σ H p⟩
abbrev R2:=V->V->Hp->VK->Prop
def OpR(X:Cx)(f:qb->qb->Sem qb)(r:R2):Prop :=
 ∀(pins:Θ)(s:qa)(σ:St)(H:Hp)(x y:V)(v u:qb)(Q:VK),Inv X pins σ H s->xj x v->xj y u->r x y H Q ->
  wpAny (model X.prog X.w) X.A (f v u) (EP X pins σ Q) X.xe s
def UnR(X:Cx)(f:qb->Sem qb)(r:V->Hp->VK->Prop):Prop :=
 ∀(pins:Θ)(s:qa)(σ:St)(H:Hp)(x:V)(v:qb)(Q:VK),Inv X pins σ H s->xj x v->r x H Q ->
  wpAny (model X.prog X.w) X.A (f v) (EP X pins σ Q) X.xe s
def j3(X:Cx)(f:qb)(r:qi V->Hp->VK->Prop):Prop :=
 ∀(pins:Θ)(s:qa)(σ:St)(H:Hp)(xs:Υ)(us:Ο)(Q:VK),Inv X pins σ H s->wo xs us->r xs H Q ->
  wpAny (model X.prog X.w) X.A (call f us) (EP X pins σ Q) X.xe s
def tOp(r:R2)(ta tb:TE):TE:=λσ H Q=>ta σ H λx H1=>tb σ H1 λy H2=>r x y H2 Q
def tUn(r:V->Hp->VK->Prop)(ta:TE):TE:=λσ H Q=>ta σ H λx H1=>r x H1 Q
def rI(C:Int->Int->Prop)(g:Int->Int->V):R2:=λx y H Q=>∃i j,x=.int i/\y=.int j/\C i j/\Q (g i j) H
def rI0(g:Int->Int->V):R2:=λx y H Q=>∃i j,x=.int i/\y=.int j/\Q (g i j) H
def rU(g:Int->V):V->Hp->VK->Prop:=λx H Q=>∃i,x=.int i/\Q (g i) H
section
variable{a b c:qg}{tb tc:TE}{pos:Pos}
def vd1(ha:PE X a ta)(hb:PE X b tb){s:qa}{R:V->V->Hp->Prop}(I:Inv X pins σ H s)
  (h:ta σ H λx H1=>tb σ H1 λy H2=>R x y H2) {Q:Δ} {f:qb->qb->Sem qb}
  (hf:∀v u s2 x y H2,Inv X pins σ H2 s2->xj x v->xj y u->R x y H2->wpAny (model X.prog X.w) X.A (f v u) Q X.xe s2):
  wpAny (model X.prog X.w) X.A (eval a X.env) (λv s₁=>wpAny (model X.prog X.w) X.A (eval b X.env) (λu s₂=>wpAny (model X.prog X.w) X.A (f v u) Q X.xe s₂) X.xe s₁) X.xe s:=by refine thn (ha pins s σ H _ I h) λv c h'=>?_;let⟨x,H1,j,d,i⟩:=h';refine thn (hb pins c σ H1 _ j i) λu s2 h'=>?_;let⟨y,H2,g,k,e⟩:=h';exact hf v u s2 x y H2 g d k e
def yp{op:Operator}{r:R2}(ho:OpR X (binaryOp op) r)(ha:PE X a ta)(hb:PE X b tb):PE X (.BinOp a op b pos) (tOp r ta tb):=by refine .mk λc s σ H Q I h=>?_;exact wpAny_BinOp (vd1 ha hb I h λv u e x y i g d f q=>ho c e σ i x y v u Q g d f q)
def yvy{op:UnaryOp}{r:V->Hp->VK->Prop}(ho:UnR X (unaryOp op) r)(ha:PE X a ta):PE X (.UnaryOp op a pos) (tUn r ta):=by refine .mk λb s σ H Q I h=>?_;exact UnaryOp_ (thn (ha b s σ H _ I h) λv c ⟨x,e,g,d,f⟩=>ho b c σ e x v Q g d f)
def opI{f:qb->qb->Sem qb}{C:Int->Int->Prop}{g:Int->Int->Int}
  (rule:∀(i j:Int)(t u:Tok)(s:qa)(Q:Δ)(E:Δ),C i j->Q (.int (g i j) s.toks) {s with toks:=s.toks+1}->wpAny (model X.prog X.w) X.A (f (.int i t) (.int j u)) Q E s):
  OpR X f (rI C λi j=>.int (g i j)):=by intro a s σ H x y v u Q I c d h;let⟨i,j,rfl,rfl,e,q⟩:=h;let⟨t,rfl⟩:=c;let⟨b,rfl⟩:=d;exact rule i j t b s _ _ e ⟨.int (g i j),H,I.tok _,⟨_,rfl⟩,q⟩
def vgh{f:qb->qb->Sem qb}{g:Int->Int->Int}
  (rule:∀(i j:Int)(t u:Tok)(s:qa)(Q:Δ)(E:Δ),Q (.int (g i j) s.toks) {s with toks:=s.toks+1}->wpAny (model X.prog X.w) X.A (f (.int i t) (.int j u)) Q E s):
  OpR X f (rI0 λi j=>.int (g i j)):=by intro a s σ H x y v u Q I c d h;let⟨i,j,rfl,rfl,q⟩:=h;let⟨t,rfl⟩:=c;let⟨b,rfl⟩:=d;exact rule i j t b s _ _ ⟨.int (g i j),H,I.tok _,⟨_,rfl⟩,q⟩
def vd2{f:qb->qb->Sem qb}{g:Int->Int->Bool}
  (rule:∀(i j:Int)(t u:Tok)(s:qa)(Q:Δ)(E:Δ),Q (.bool (g i j)) s->wpAny (model X.prog X.w) X.A (f (.int i t) (.int j u)) Q E s):
  OpR X f (rI0 λi j=>.bl (g i j)):=by intro a s σ H x y v u Q I c d h;let⟨i,j,rfl,rfl,q⟩:=h;let⟨t,rfl⟩:=c;let⟨b,rfl⟩:=d;exact rule i j t b s _ _ ⟨.bl (g i j),H,I,rfl,q⟩
def vf1(i j:Int):Prop:=(-(2^64)<i/\i<2^64)\/(-(2^64)<j/\j<2^64)
def vf1.ok{i j:Int}(h:vf1 i j):IntMulOk i j:=by
 rcases h with⟨a,b⟩|⟨a,b⟩
 .exact .of_left (intBits_le_64 a b)
 .exact .of_right (intBits_le_64 a b)
def yfx(k:Nat):(0:Int)<=2^k:=by rw[two_pow_cast];exact Int.natCast_nonneg _
def vw:OpR X (binaryOp .Add) (rI0 λi j=>.int (i+j)):=vgh λZ Z Z Z Z Z Z q=>add_int q
def zh:OpR X (binaryOp .Sub) (rI0 λi j=>.int (i-j)):=vgh λZ Z Z Z Z Z Z q=>sub_int q
def wv:OpR X (binaryOp .Mult) (rI vf1 λi j=>.int (i*j)):=opI λZ Z Z Z Z Z Z a q=>mul_int q a.ok
def xi:OpR X (binaryOp .Mod) (rI (λZ j=>0<j) λi j=>.int (i%j)):=opI λi j Z Z Z Z Z a q=>by
 have b:(0:Int)<j:=a;exact mod_int' () (by rw[Int.fmod_eq_emod_of_nonneg i ()];exact q)
def vbc:OpR X (binaryOp .RShift) (rI (λZ j=>0<=j) λi j=>.int (i/2^j.toNat)):=opI λi j Z Z Z Z Z a q =>
 rshift_int a (by rw[Int.fdiv_eq_ediv_of_nonneg i (yfx _)];exact q)
def unI{f:qb->Sem qb}{g:Int->Int}
  (rule:∀(i:Int)(t:Tok)(s:qa)(Q:Δ)(E:Δ),Q (.int (g i) s.toks) {s with toks:=s.toks+1}->wpAny (model X.prog X.w) X.A (f (.int i t)) Q E s):
  UnR X f (rU λi=>.int (g i)):=by intro a s σ H x v Q I b h;let⟨i,rfl,q⟩:=h;let⟨t,rfl⟩:=b;exact rule i t s _ _ ⟨.int (g i),H,I.tok _,⟨_,rfl⟩,q⟩
def ykc:UnR X (unaryOp .USub) (rU λi=>.int (-i)):=unI λZ Z Z Z Z q=>neg_int q
end
def vdx:V->V->Bool
 | .non,.non=>true| .non,.int _=>true| .int _,.non=>true| .non,.bl _=>true| .bl _,.non=>true| .non,.str _=>true| .str _,.non=>true
 | .int _,.int _=>true| .bl _,.bl _=>true| .str _,.str _=>true| .byt _,.byt _=>true
 | .int _,.str _=>true| .str _,.int _=>true| .bl _,.str _=>true| .str _,.bl _=>true
 |_,_=>false
def rEq:R2:=λx y H Q=>vdx x y=true/\Q (.bl (decide (x=y))) H
def rNe:R2:=λx y H Q=>vdx x y=true/\Q (.bl (!decide (x=y))) H
def yik{i j:Int}:decide (V.int i=V.int j)=(i == j):=by rw[Bool.eq_iff_iff];simp
def yqq{i j:Bool}:decide (V.bl i=V.bl j)=(i == j):=by rw[Bool.eq_iff_iff];simp
def yi3{i j:Str}:decide (V.str i=V.str j)=(i == j):=by rw[Bool.eq_iff_iff];simp
def yir{i j:Array UInt8}:decide (V.byt i=V.byt j)=(i.toList == j.toList):=by rw[Bool.eq_iff_iff];cases i;cases j;simp
section
variable{a b c:qg}{tb tc:TE}{pos:Pos}
def wj{s:qa}{Q:VK}{k k':Bool}(I:Inv X pins σ H s)(q:Q (.bl k) H)(e:k=k'):EP X pins σ Q (.bool k') s:=by subst e;exists .bl k,H,I,rfl,q
def jj:OpR X (compareOp .Eq) rEq:=by
 intro e s σ H x y v u Q I d a h;let⟨c,q⟩:=h
 cases x with
 |non =>
  cases d
  cases y with
  |non=>cases a;exact PySem.EqNone.eq_none_none (wj I q (by simp))
  |bl j=>cases a;exact PySem.EqNone.eq_none_bool (wj I q (by simp))
  |int j=>let⟨b,rfl⟩:=a;exact PySem.EqNone.eq_none_int (wj I q (by simp))
  |str j=>let⟨b,rfl⟩:=a;exact PySem.EqNone.eq_none_str (wj I q (by simp))
  |_=>exact absurd (show false=true from c) cI
 |bl i =>
  cases d
  cases y with
  |non=>cases a;exact PySem.EqNone.eq_bool_none (wj I q (by simp))
  |bl j=>cases a;exact eq_bool (wj I q yqq)
  |str j=>let⟨b,rfl⟩:=a;exact PySem.EqMixed.eq_bool_str (wj I q (by simp))
  |_=>exact absurd (show false=true from c) cI
 |int i =>
  let⟨t,rfl⟩:=d
  cases y with
  |non=>cases a;exact PySem.EqNone.eq_int_none (wj I q (by simp))
  |int j=>let⟨b,rfl⟩:=a;exact eq_int (wj I q yik)
  |str j=>let⟨b,rfl⟩:=a;exact PySem.EqMixed.eq_int_str (wj I q (by simp))
  |_=>exact absurd (show false=true from c) cI
 |str i =>
  let⟨t,rfl⟩:=d
  cases y with
  |non=>cases a;exact PySem.EqNone.eq_str_none (wj I q (by simp))
  |bl j=>cases a;exact PySem.EqMixed.eq_str_bool (wj I q (by simp))
  |int j=>let⟨b,rfl⟩:=a;exact PySem.EqMixed.eq_str_int (wj I q (by simp))
  |str j=>let⟨b,rfl⟩:=a;exact eq_str (wj I q yi3)
  |_=>exact absurd (show false=true from c) cI
 |byt i =>
  let⟨t,rfl⟩:=d
  cases y with
  |byt j=>let⟨b,rfl⟩:=a;exact W.eq_bytes (wj I q yir)
  |_=>exact absurd (show false=true from c) cI
 |_=>cases y<;>exact absurd (show false=true from c) cI
def ywg:OpR X (compareOp .NotEq) rNe:=by
 intro e s σ H x y v u Q I d a h;let⟨c,q⟩:=h
 cases x with
 |non =>
  cases d
  cases y with
  |non=>cases a;exact PySem.EqNone.ne_none_none (wj I q (by simp))
  |bl j=>cases a;exact PySem.EqNone.ne_none_bool (wj I q (by simp))
  |int j=>let⟨b,rfl⟩:=a;exact PySem.EqNone.ne_none_int (wj I q (by simp))
  |str j=>let⟨b,rfl⟩:=a;exact PySem.EqNone.ne_none_str (wj I q (by simp))
  |_=>exact absurd (show false=true from c) cI
 |bl i =>
  cases d
  cases y with
  |non=>cases a;exact PySem.EqNone.ne_bool_none (wj I q (by simp))
  |bl j=>cases a;exact ne_bool (wj I q (congrArg not yqq))
  |str j=>let⟨b,rfl⟩:=a;exact PySem.EqMixed.ne_bool_str (wj I q (by simp))
  |_=>exact absurd (show false=true from c) cI
 |int i =>
  let⟨t,rfl⟩:=d
  cases y with
  |non=>cases a;exact PySem.EqNone.ne_int_none (wj I q (by simp))
  |int j=>let⟨b,rfl⟩:=a;exact ne_int (wj I q (congrArg not yik))
  |str j=>let⟨b,rfl⟩:=a;exact PySem.EqMixed.ne_int_str (wj I q (by simp))
  |_=>exact absurd (show false=true from c) cI
 |str i =>
  let⟨t,rfl⟩:=d
  cases y with
  |non=>cases a;exact PySem.EqNone.ne_str_none (wj I q (by simp))
  |bl j=>cases a;exact PySem.EqMixed.ne_str_bool (wj I q (by simp))
  |int j=>let⟨b,rfl⟩:=a;exact PySem.EqMixed.ne_str_int (wj I q (by simp))
  |str j=>let⟨b,rfl⟩:=a;exact ne_str (wj I q (congrArg not yi3))
  |_=>exact absurd (show false=true from c) cI
 |byt i =>
  let⟨t,rfl⟩:=d
  cases y with
  |byt j=>let⟨b,rfl⟩:=a;exact W.ne_bytes (wj I q (congrArg not yir))
  |_=>exact absurd (show false=true from c) cI
 |_=>cases y<;>exact absurd (show false=true from c) cI
def ſ:OpR X (compareOp .Lt) (rI0 λi j=>.bl (decide (i<j))):=vd2 λZ Z Z Z Z Z Z q=>lt_int q
def jk:OpR X (compareOp .LtE) (rI0 λi j=>.bl (decide (i<=j))):=vd2 λZ Z Z Z Z Z Z q=>le_int q
def yk9:OpR X (compareOp .Gt) (rI0 λi j=>.bl (decide (j<i))):=vd2 λZ Z Z Z Z Z Z q=>gt_int q
def vdm:OpR X (compareOp .GtE) (rI0 λi j=>.bl (decide (j<=i))):=vd2 λZ Z Z Z Z Z Z q=>ge_int q
def yhw:OpR X (compareOp .In) (λx y H Q=>∃i j,x=.str i/\y=.str j/\Q (.bl (!(Builtin.Str.occurrences j i 0 j.length 1).isEmpty)) H):=by intro a s σ H x y v u Q I b c h;let⟨i,j,rfl,rfl,q⟩:=h;let⟨t,rfl⟩:=b;let⟨d,rfl⟩:=c;exact in_str (wj I q rfl)
def yzs:OpR X (compareOp .Is) (λx y H Q=>y=.non/\Q (.bl (decide (x=.non))) H):=by
 intro b s σ H x y v u Q I a c h;let⟨rfl,q⟩:=h;cases c;refine is_none_gen (wj I q ?_)
 cases x<;>first
  |(cases a;rfl)
  |(let⟨t,rfl⟩:=a;rfl)
def ycx:OpR X (compareOp .IsNot) (λx y H Q=>y=.non/\Q (.bl (!decide (x=.non))) H):=by
 intro b s σ H x y v u Q I a c h;let⟨rfl,q⟩:=h;cases c;refine isnot_none_gen (wj I q ?_)
 cases x<;>first
  |(cases a;rfl)
  |(let⟨t,rfl⟩:=a;rfl)
def vd(b:qg)(h:op≠.In:=by decide)(h2:op≠.NotIn:=by decide):behindInMarks op b=false:=by
 have c:(op == CmpOp.In)=false:=by cases op<;>first|rfl|exact absurd rfl h
 have a:(op == CmpOp.NotIn)=false:=by cases op<;>first|rfl|exact absurd rfl h2
 cases b<;>simp[behindInMarks,c,a]
def jd{r:R2}(ho:OpR X (compareOp op) r)(ha:PE X a ta)(hb:PE X b tb)(hm:behindInMarks op b=false):PE X (.Compare a [op] [b] pos) (tOp r ta tb):=by refine .mk λc s σ H Q I h=>?_;exact wpAny_Compare1 (vd1 ha hb I h λv u e x y i g d f q=>ho c e σ i x y v u Q g d f q) hm
def yw1(t:TE):TT:=λσ H Q=>t σ H λx H'=>∃k,x=.bl k/\Q k H'
def y6{r:R2}(ho:OpR X (compareOp op) r)(ha:PE X a ta)(hb:PE X b tb)(hm:behindInMarks op b=false):PT X (.Compare a [op] [b] pos) (yw1 (tOp r ta tb)):=by
 refine .mk λd s σ H Q I h=>?_
 refine wpAny_isTrue_Compare1 (thn (ha d s σ H _ I h) λv i ⟨x,o,A,j,w⟩=>thn (hb d i σ o _ A w) λu g ⟨y,B,m,f,n⟩ =>
  thn (ho d g σ B x y v u _ m j f n) λc C ⟨z,q,t,p,k,e,l⟩=>?_) hm
 subst e;cases p;exact dE ⟨q,t,l⟩
def yk4(r r':R2)(ta tb tc:TE):TE:=λσ H Q=>ta σ H λx H1=>tb σ H1 λy H2=>r x y H2 λz H3=>∃k,z=.bl k/\
 (if k=true then tc σ H3 λw' H4=>r' y w' H4 Q else Q (.bl false) H3)
def Ð{op':CmpOp}{r r':R2}(ho:OpR X (compareOp op) r)(ho':OpR X (compareOp op') r')(ha:PE X a ta)(hb:PE X b tb)(hc:PE X c tc)
  (hm:lastMarks [op,op'] [b,c]=false:=by with_unfolding_all rfl):PE X (.Compare a [op,op'] [b,c] pos) (yk4 r r' ta tb tc):=by
 refine .mk λf s σ H Q I h=>?_
 refine Compare_chain (thn (ha f s σ H _ I h) λv m ⟨x,G,M,A,t⟩=>chain_link (thn (hb f m σ G _ M t) λu D ⟨y,J,L,l,F⟩ =>
  thn (ho f D σ J x y v u _ L A l F) λd E ⟨z,g,j,B,k,e,i⟩=>?_)) hm
 subst e;cases B;refine dE ?_
 cases k with
 |false=>exact ite_ff ⟨.bl false,g,j,rfl,i⟩
 |true=>exact ite_tt (chain_last (thn (hc f E σ g _ j i) λw o ⟨n,p,C,K,q⟩=>ho' f o σ p y n u w Q C l K q))
def ũ{op':CmpOp}{r r':R2}(ho:OpR X (compareOp op) r)(ho':OpR X (compareOp op') r')(ha:PE X a ta)(hb:PE X b tb)(hc:PE X c tc)
  (hm:lastMarks [op,op'] [b,c]=false:=by with_unfolding_all rfl):PT X (.Compare a [op,op'] [b,c] pos) (yw1 (yk4 r r' ta tb tc)):=by
 refine .mk λf s σ H Q I h=>?_
 refine isTrue_chain (thn (ha f s σ H _ I h) λv o ⟨x,N,U,D,B⟩=>test_link (thn (hb f o σ N _ U B) λu J ⟨y,P,T,l,M⟩ =>
  thn (ho f J σ P x y v u _ T D l M) λd L ⟨z,g,j,E,k,e,i⟩=>?_)) hm
 subst e;cases E;refine dE ?_
 cases k with
 |false =>
  let⟨Y,p,n⟩:=i;cases p;exact ite_ff ⟨g,j,n⟩
 |true =>
  refine ite_tt (test_last (thn (hc f L σ g _ j i) λC t ⟨q,w,F,R,A⟩=>thn (ho' f t σ w y q u C _ F l R A) λZ s5 h'=>?_));let⟨z2,O,m,S,W,G,K⟩:=h';subst G;cases S;exact dE ⟨O,m,K⟩
def ybq:(sizeLine:Nat)<2^63:=by rw[sizeLine_eq];decide
def j6:OpR X (binaryOp .Add) (λx y H Q=>∃i j,x=.str i/\y=.str j/\i.length+j.length<=sizeLine/\Q (.str (i++j)) H):=by intro a s σ H x y v u Q I c d h;let⟨i,j,rfl,rfl,e,q⟩:=h;let⟨t,rfl⟩:=c;let⟨b,rfl⟩:=d;exact add_str (λb f=>⟨.str (i++j),H,I.tok _,⟨_,rfl⟩,q⟩) e
def yma(b:qg):Prop:=∀o i,subscripted b false o i=operate [o,i] (getItem o i)
def ua(ha:PE X a ta)(hb:PE X b tb)(hs:yma b):
  PE X (.Subscript a b pos) (tOp (λx y H Q=>∃z i c,x=.str z/\y=.int i/\0<=i/\i<2^63/\i<z.length/\z.cps[i.toNat]?=some c/\Q (.str ⟨#[c]⟩) H) ta tb):=by
 refine .mk λd s σ H Q I h=>?_;refine Subscript_ (vd1 ha hb I h λv u j x y w o f l q=>?_);let⟨z,i,c,rfl,rfl,r,m,k,g,q⟩:=q;let⟨t,rfl⟩:=f;let⟨A,rfl⟩:=l;have e:seqIndex? i z.length=some i.toNat:=PySem.StrLaws.seqIndex_nonneg r k
 exact tail_any (typeIs_str j z t) slot_str_getitem.lookup (getItem_str (c:=c) (by
  have n:decide (i< -(2^63:Int))=false:=cH ();have p:decide (i ≥ 2^63)=false:=cH ();rw[n,p]<;>rfl) (by rw[e];exact g) ⟨.str ⟨#[c]⟩,w,o.tok _,⟨_,rfl⟩,q⟩) (hs _ _)
def ħ{x:V}(r:wo [x] us):∃u,us=[u]/\xj x u:=by
 cases r with
 |cons r1 r2=>cases r2;exists _,rfl,r1
def ywo{x:V}(r:wo [x,y] us):∃u w',us=[u,w']/\xj x u/\xj y w':=by
 cases r with
 |cons r1 r2 =>
  cases r2 with
  |cons r3 r4=>cases r4;exists _,_,rfl,r1,r3
def Ę(hc:X.calm=true):j3 X (.builtin "max") (λxs H Q=>∃i j,xs=[.int i,.int j]/\Q (.int (if j > i then j else i)) H):=by
 intro a s σ H xs e Q I r h;let⟨i,j,rfl,q⟩:=h;let⟨u,c,rfl,⟨t,rfl⟩,⟨b,rfl⟩⟩:=ywo r;refine max_two_ints (I.ok.hd hc) λd f k=>⟨_,H,I.kept k,?_,q⟩;by_cases hj:j > i
 .rw[if_pos hj,if_pos hj];exists _,rfl
 .rw[if_neg hj,if_neg hj];exists _,rfl
def ē(hc:X.calm=true):j3 X (.builtin "min") (λxs H Q=>∃i j,xs=[.int i,.int j]/\Q (.int (if j<i then j else i)) H):=by
 intro a s σ H xs e Q I r h;let⟨i,j,rfl,q⟩:=h;let⟨u,c,rfl,⟨t,rfl⟩,⟨b,rfl⟩⟩:=ywo r;refine min_two_ints (I.ok.hd hc) λd f k=>⟨_,H,I.kept k,?_,q⟩;by_cases hj:j<i
 .rw[if_pos hj,if_pos hj];exists _,rfl
 .rw[if_neg hj,if_neg hj];exists _,rfl
def yh6:j3 X (.type "int") (λxs H Q=>(∃i,xs=[.int i]/\Q (.int i) H)\/∃k,xs=[.bl k]/\Q (.int (if k then 1 else 0)) H):=by
 intro a s σ H xs c Q I r h;rcases h with⟨i,rfl,q⟩|⟨k,rfl,q⟩
 .obtain⟨u,rfl,t,rfl⟩:=ħ r;exact call_int_int ⟨.int i,H,I,⟨_,rfl⟩,q⟩
 .obtain⟨u,rfl,b⟩:=ħ r;cases b;exact call_int_bool ⟨.int (if k then 1 else 0),H,I.tok _,⟨_,rfl⟩,q⟩
end
structure yw6(h:qf)(x dx C:z4)(mA:Ε):Prop where
 obj:h.get? x=some (W.instObj C dx)
 ns:h.Ns1 dx mA
 ne:dx≠x
set_option tactic.hygienic true in
def ygt{h:qf}{dx:z4}(n:h.Ns1 dx mA):∃od,h.get? dx=some od/\∀name,W.lookIn name od=some (mA name):=by
 let⟨o,c,l,j,k,i,_,f⟩:=n;exists o,j,λname=>?_;have e:=f name;unfold nsFind findBy at e;rw[<- Array.find?_toList]at e;unfold W.lookIn;rw[k];dsimp only
 split
 .rename_i y q
  rw[q]at e;exact congrArg some e
 .rename_i q
  rw[q]at e
  have a:c.toList.any (·.refKey)=false:=by
   rw[List.any_eq_false];intro y g;let⟨z,t,b⟩:=i y (Array.mem_toList_iff.mp g);simp[DictEntry.refKey,b]
  have d:¬c.toList.any (·.refKey)=true:=by rw[a];exact cI
  rw[if_neg d];exact congrArg some e
def yw6.look{h:qf}{x dx:z4}(I:yw6 h x dx C mA):∃od,W.InstAt h x (W.instObj C dx) C (some od)/\∀name,W.lookIn name od=some (mA name) :=
 let ⟨od,ho,hl⟩:=ygt I.ns
 ⟨od,⟨I.obj,rfl,rfl,ho⟩,hl⟩
section
variable{prog:qh}{w:qd}{A:qe}{s:qa}{K:z3}{x dx f:z4}{name:Str}{v:qb}
def yr9{expr:Bool}(X:K.In s.heap)(I:yw6 s.heap x dx C mA)(hg:W.plainGet K C name=true)(hh:W.hasDictIn K C=true)
  (ha:W.findIn K (.ref C) name=some none) (hv:mA name=some v) (hv':W.handedIn v=true) (h:Q v {s with toks:=s.toks+1}):
  wpAny (model prog w) A (getAttr (.ref x) name expr) Q E s:=by let⟨b,J,a⟩:=I.look;exact W.get_value X J (W.plainGet_of hg).1 (W.findObj_own hh ha rfl (by rw[a,hv])) hv' h
def yll{pl:Sem Bool}{Q:qb×qi qb->qa->Prop}(X:K.In s.heap)(I:yw6 s.heap x dx C mA)(hg:W.plainGet K C name=true)
  (hf:W.findIn K (.ref C) name=some (some (.ref f))) (ht:W.isFn K (.ref f)=true) (hv:mA name=none) (h:Q (.ref f,[.ref x]) s):
  wpAny (model prog w) A (getMethod (.ref x) name pl) Q E s:=by let⟨a,J,b⟩:=I.look;exact W.method_fn X J (W.plainGet_of hg).1 (W.plainGet_of hg).2 hf (beq_iff_eq.mp ht) (by show (W.lookIn name a).map (·.isSome)=some false;rw[b,hv];rfl) h
def yt6{ns:Τ}{Q:Unit->qa->Prop}(X:K.In s.heap)(I:yw6 s.heap x dx C mA)
  (hs:W.findIn K (.ref C) "__setattr__"=some (some (.builtin "object.__setattr__"))) (hp:W.plainOver K C=true) (ht:W.takerIn K C name=some none) (hh:W.hasDictIn K C=true)
  (hw:PySem.Within mA ns) (hsz:ns.length<=sizeLine)
  (h:∀h',yw6 h' x dx C (λy=>if y=name then some v else mA y)->Heap.SameBut dx s.heap h'->Q ⟨⟩ {s with heap:=h',toks:=s.toks+2}):
  wpAny (model prog w) A (setAttr (.ref x) name v) Q E s:=by let⟨n,J,q⟩:=I.look;refine W.set_plain X J hs (W.osa_open (s:={s with toks:=s.toks+1}) (r:=none) X J hp ht λb=>?_);let⟨o,k,i⟩:=W.any_some hh;have j:s.heap.get? x=some ⟨.ref C,some dx,.plain,#[]⟩:=I.obj;refine cg (cr (cg (cg (wpAny_loadPart j (cg (W.Looks.here (s:={s with toks:=s.toks+1}) (W.looks_clsIn X k) ?_))))));rw[i];refine cr (a:=some dx) (cg (cr (cg ?_)));refine wpAny_nsSet1 (s:={s with toks:=s.toks+1}) I.ns λh' d c=>?_;let⟨p,m,l,f,e,g⟩:=d.count (PySem.Within.cons name v hw);refine cg (wpAny_lookBehind f (by rw[e];exact pastItsLine_dict (de g (by rw[cO];omega))) ?_);exact cr (h _ ⟨(c.2 _ (Ne.symm I.ne)).trans I.obj,d,I.ne⟩ c)
def yed{R:Result->qa->Prop}{vs:Ο}(X:K.In s.heap)(hm:W.makesIn K C=true)
  (hi:W.findIn K (.ref C) "__init__"=some (some (.ref f))) (hf:W.typeIn K (.ref f)=some (.type "function"))
  (h:codeAny (model prog w) (A.under (.builtin "type.__call__" ⟨.ref C::vs,kw⟩)) (.call (.ref f) ⟨.ref (s.heap.objs.size+1)::vs,kw⟩) (W.InitBack (s.heap.objs.size+1) R)
   {s with heap:=(s.heap.push W.emptyDict).push (W.instObj C s.heap.objs.size)}):
  codeAny (model prog w) A (.call (.ref C) ⟨vs,kw⟩) R s:=by let⟨c,g,d,t,b⟩:=s;exact W.make_core (W.makes_of X hm) (W.looks_findIn X hi) (λa=>W.bind_fn X a hf) (.inl rfl) h
end
def μ(f:Str)(v:V):qi (Str×V)->qi (Str×V)
 |[]=>[(f,v)]
 |(g,x)::r=>if g=f then (g,v)::r else (g,x)::μ f v r
theorem č(f g:Str)(v:V):∀fs:Ι,(μ f v fs).lookup g=if g=f then some v else fs.lookup g
 |[]=>by
  show List.lookup g [(f,v)]=_;by_cases h:g=f
  .have a:(g == f)=true:=beq_iff_eq.mpr h;simp only[List.lookup,a,if_pos h]
  .have a:(g == f)=false:=dY.mpr h;simp only[List.lookup,a,if_neg h]
 |(k,x)::r=>by
  have b:=č f g v r;rw[show μ f v ((k,x)::r)=(if k=f then (k,v)::r else (k,x)::μ f v r)from rfl];by_cases hk:k=f
  .rw[if_pos hk];by_cases h:g=k
   .have a:(g == k)=true:=beq_iff_eq.mpr h;simp only[List.lookup,a,if_pos (h.trans hk)]
   .have a:(g == k)=false:=dY.mpr h;simp only[List.lookup,a,if_neg (λe:g=f=>h (e.trans hk.symm))]
  .rw[if_neg hk];by_cases h:g=k
   .have a:(g == k)=true:=beq_iff_eq.mpr h;simp only[List.lookup,a,if_neg (λe:g=f=>hk (h.symm.trans e))]
   .have a:(g == k)=false:=dY.mpr h;simp only[List.lookup,a];exact b
theorem ę(f:Str)(v:V):∀fs:Ι,f∈(μ f v fs).map (·.1)/\∀g,g∈fs.map (·.1)->g∈(μ f v fs).map (·.1)
 |[]=>⟨by simp[μ],λg h=>by simp at h⟩
 |(k,x)::r=>by
  let⟨a,b⟩:=ę f v r;rw[show μ f v ((k,x)::r)=(if k=f then (k,v)::r else (k,x)::μ f v r)from rfl];by_cases hk:k=f
  .rw[if_pos hk];subst hk;exists by simp,λg h=>by simpa using h
  .rw[if_neg hk];exists ?_,λg h=>?_
   .rw[db];exact cZ _ a
   .rw[db]at h⊢;rcases cG.mp h with e|e
    .exact cG.mpr (.inl e)
    .exact cZ _ (b g e)
theorem Ď(f:Str)(v:V):∀fs:Ι,(μ f v fs).length<=fs.length+1
 |[]=>by simp[μ]
 |(k,x)::r=>by
  have a:=Ď f v r;rw[show μ f v ((k,x)::r)=(if k=f then (k,v)::r else (k,x)::μ f v r)from rfl];by_cases hk:k=f
  .rw[if_pos hk,cO,cO];omega
  .rw[if_neg hk,cO,cO];omega
def ybv.some_of{o:qj qb}(r:ybv (some v) o):∃u,o=some u/\xj v u:=by
 cases o with
 |none=>exact(show False from r).elim
 |some u=>exact⟨u,rfl,r⟩
def ybv.none_of{o:qj qb}(r:ybv none o):o=none:=by
 cases o with
 |none=>rfl
 |some u=>exact(show False from r).elim
def ygm{u:qb}(r:xj v u):W.handedIn u=true:=by
 cases v with
 |non=>cases (show u=Value.none from r);rfl
 |bl b=>cases (show u=Value.bool b from r);rfl
 |int i=>let⟨t,e⟩:=(show ∃t,u=Value.int i t from r);cases e;rfl
 |str x=>let⟨t,e⟩:=(show ∃t,u=Value.str x t from r);cases e;rfl
 |byt b=>let⟨t,e⟩:=(show ∃t,u=Value.bytes b t from r);cases e;rfl
 |flt b=>let⟨t,e⟩:=(show ∃t,u=Value.float b t from r);cases e;rfl
 |ref a=>cases (show u=Value.ref a from r);rfl
 |ty n=>cases (show u=Value.type n from r);rfl
section
variable{w:qd}{h:qf}{dx:z4}{fs fs':Ι}
def Ÿ(hok:HOk P w H h)(e:H a=some (.ins C dx fs)):∃mA,yw6 h a dx C mA/\(∀f,ybv (fs.lookup f) (mA f))/\PySem.Within mA (fs.map (·.1))/\fs.length<=1000/\H dx=some (.own a):=by let⟨d,z,b,c,mA,n,r,q⟩:=(show w8 P w H h a (.ins C dx fs)from hok a _ e);exists mA,⟨c,n,b⟩,r,q,z,d
end
structure Cls(K:z3)(C:z4):Prop where
 pg:W.plainGet K C Str.empty=true
 hd:W.hasDictIn K C=true
 po:W.plainOver K C=true
 sa:W.findIn K (.ref C) "__setattr__"=some (some (.builtin "object.__setattr__"))
def Cls.get{K:z3}(c:Cls K C)(f:Str):W.plainGet K C f=true:=c.pg
def vn(K:z3)(C:z4)(f:Str):Prop:=W.findIn K (.ref C) f=some none
def vn.taker{K:z3}{f:Str}(n:vn K C f):W.takerIn K C f=some none:=by unfold W.takerIn;rw[show W.findIn K (.ref C) f=some none from n];rfl
structure Con(K:z3)(C:z4)(f:Str)(v:V)(u:qb):Prop where
 at_:W.findIn K (.ref C) f=some (some u)
 rel:xj v u
 get:W.specialIn K u "__get__"=some none
 cp:W.copiedNames.contains f=false
structure yw4(K:z3)(C:z4)(m:Str)(f:z4):Prop where
 at_:W.findIn K (.ref C) m=some (some (.ref f))
 fn:W.isFn K (.ref f)=true
 kp:W.keepIn K (.ref f)=true
section
variable{s:qa}{dx:z4}{fs:Ι}{f:Str}{A:qe}
def yft{b:Bool}(I:Inv X pins σ H s)(e:H a=some (.ins C dx fs))(c:Cls X.K C)(n:vn X.K C f)(l:fs.lookup f=some v)
  (h:∀u s',Inv X pins σ H s'->xj v u->Q u s'):wpAny (model X.prog X.w) A (getAttr (.ref a) f b) Q E s:=by let⟨g,O,r,_,_,_⟩:=Ÿ I.hok e;let⟨u,i,d⟩:=ybv.some_of (v:=v) (o:=g f) (by rw[<- l];exact r f);exact yr9 I.kIn O (c.get f) c.hd n i (ygm d) (h u _ (I.tok _) d)
def á{m:Str}{g:z4}{pl:Sem Bool}{Q:qb×qi qb->qa->Prop}(I:Inv X pins σ H s)(e:H a=some (.ins C dx fs))(c:Cls X.K C)(k:yw4 X.K C m g)(l:fs.lookup m=none)
  (h:Q (.ref g,[.ref a]) s):wpAny (model X.prog X.w) A (getMethod (.ref a) m pl) Q E s:=by let⟨d,O,r,_,_,_⟩:=Ÿ I.hok e;have b:d m=none:=ybv.none_of (by rw[<- l];exact r m);exact yll I.kIn O (c.get m) k.at_ k.fn b h
def yf8{u:qb}{Q:Unit->qa->Prop}(I:Inv X pins σ H s)(e:H a=some (.ins C dx fs))(c:Cls X.K C)(n:vn X.K C f)(hl:fs.length<1000)(ry:xj y u)
  (h:∀s',Inv X pins σ (upd H a (.ins C dx (μ f y fs))) s'->Q ⟨⟩ s'):wpAny (model X.prog X.w) A (setAttr (.ref a) f u) Q E s:=by
 let⟨i,O,r,j,_,k⟩:=Ÿ I.hok e;have t:(fs.map (·.1)).length<=sizeLine:=by rw[bI,sizeLine_eq];omega
 refine yt6 I.kIn O c.sa c.po n.taker c.hd j t λp d B=>h _ ?_;have m:∃o,p.get? dx=some o:=let ⟨o,_,_,e',_⟩:=d.ns;⟨o,e'⟩;refine I.write (x:=a) (e:=dx) (by rw[e];exact True.intro) (.inr k) (λb q v z=>(B.2 b v).trans z) m ?_;exists by rw[yk O.ne];exact k,?_,O.ne,d.obj,_,d.ns,λg=>?_,λg l=>?_
 .have:=Ď f y fs;omega
 .show ybv ((μ f y fs).lookup g) (if g=f then some u else i g);rw[č];by_cases q:g=f
  .rw[if_pos q,if_pos q];exact ry
  .rw[if_neg q,if_neg q];exact r g
 .by_cases q:g=f
  .rw[q];exact(ę f y fs).1
  .refine(ę f y fs).2 g (j g λz=>l ?_);show (if g=f then some u else i g)=none;rw[if_neg q];exact z
def Inv.made(I:Inv X pins σ H s):Inv X pins σ (upd (upd H s.heap.objs.size (.own (s.heap.objs.size+1))) (s.heap.objs.size+1) (.ins C s.heap.objs.size []))
  {s with heap:=(s.heap.push W.emptyDict).push (W.instObj C s.heap.objs.size)}:=by
 have d:(s.heap.push W.emptyDict).get? s.heap.objs.size=some W.emptyDict:=cD s.heap rfl
 have i:((s.heap.push W.emptyDict).push (W.instObj C s.heap.objs.size)).get? (s.heap.objs.size+1)=some (W.instObj C s.heap.objs.size):=by
  have:=cD (s.heap.push W.emptyDict) (o:=W.instObj C s.heap.objs.size) rfl
  rwa[Heap.size_push]at this
 have f:(s.heap.push W.emptyDict).Ns s.heap.objs.size (λZ=>none):=⟨W.emptyDict,#[],_,d,rfl,(λe h=>absurd h (by simp)),λZ=>rfl⟩;have j:=I.laid (a:=s.heap.objs.size) (o:=.own (s.heap.objs.size+1)) (h':=s.heap.push W.emptyDict) (t':=s.toks) (λb u q=>ck _ q) (cq _) ⟨_,d⟩;refine j.laid (a:=s.heap.objs.size+1) (o:=.ins C s.heap.objs.size []) (t':=s.toks) (λb u q=>ck _ q) (Nat.le_of_eq (Heap.size_push _ _)) ?_;have c:s.heap.objs.size≠s.heap.objs.size+1:=cV (Nat.lt_succ_self _);exists by rw[yk c,ya],cP _,c,i,λZ=>none,(Heap.Ns1.of_empty f).at λo q=>ck _ q,λZ=>True.intro,λy g=>absurd rfl g
def ysx{prog:qh}{w:qd}{env:Env}{e:qg}{pos:Pos}(hb:attributeBase e f env (eval e env)=eval e env)
  (h:wpAny (model prog w) A (eval e env) (λo s₁=>wpAny (model prog w) A (getAttr o f true) Q E s₁) E s):wpAny (model prog w) A (eval (.Attribute e f pos) env) Q E s :=
 Attribute_any_ h (by rw[arm_eval_Attribute,hb])
end
def vfn(K:z3)(ta:TE)(f:Str):TE:=λσ H Q=>ta σ H λx H1=>∃a C dx fs v,x=.ref a/\H1 a=some (.ins C dx fs)/\Cls K C/\vn K C f/\fs.lookup f=some v/\Q v H1
def vf8(K:z3)(ta tv:TE)(f:Str):TS:=λD σ H=>tv σ H λy H1=>ta σ H1 λx H2=>∃a C dx fs,x=.ref a/\H2 a=some (.ins C dx fs)/\Cls K C/\vn K C f/\fs.length<1000/\
 D.nx σ (upd H2 a (.ins C dx (μ f y fs)))
section
variable{o e value:qg}{f:Str}{pos pos' tpos:Pos}{tv:TE}
def ym(he:PE X e ta)(hb:attributeBase e f X.env (eval e X.env)=eval e X.env):PE X (.Attribute e f pos) (vfn X.K ta f):=by refine .mk λb s σ H Q I h=>?_;refine ysx hb (thn (he b s σ H _ I h) λu r h'=>?_);let⟨x,k,o,d,a,C,t,y,v,j,g,c,n,l,q⟩:=h';subst j;obtain rfl:u=Value.ref a:=d;exact yft o g c n l λw p m i=>⟨v,k,m,i,q⟩
def y7(ha:PE X o ta)(hv:PE X value tv)(hs:swapsWith value (some (.Attribute o f pos')) pos.line X.env=pure false):PS X (.Assign [.Attribute o f pos'] value pos) (vf8 X.K ta tv f):=by refine .mk λb s σ H D I h=>?_;refine plainObj_wpAny_Assign_Attribute (thn (hv b s σ H _ I h) λu g ⟨y,p,v,j,q⟩=>thn (ha b g σ p _ v q) λi w h'=>?_) hs;let⟨x,E,r,d,a,C,z,B,k,e,c,n,l,m⟩:=h';subst k;obtain rfl:i=Value.ref a:=d;exact yf8 r e c n l j λA t=>⟨σ,_,t,m⟩
end
section
variable{s:qa}{A:qe}{c:qb}{b:Bool}
inductive xt(K:z3)(H:Hp):V->qb->Prop where
 |non:xt K H .non (.type "NoneType")
 |bl (x:Bool):xt K H (.bl x) (.type "bool")
 |int (i:Int):xt K H (.int i) (.type "int")
 |str (x:Str):xt K H (.str x) (.type "str")
 |flt (x:UInt64):xt K H (.flt x) (.type "float")
 |lst {a:z4} {xs:Υ} (e:H a=some (.lst xs)):xt K H (.ref a) (.type "list")
 |frz {a:z4} {o:Obj} {xs:Υ} (e:H a=some (.frz o (.lst xs))):xt K H (.ref a) (.type "list")
 |tup {a:z4} {xs:Υ} (e:H a=some (.tup xs)):xt K H (.ref a) (.type "tuple")
 |dK {a:z4} {kvs:Κ} (e:H a=some (.dK kvs)):xt K H (.ref a) (.type "dict")
 |dT {a:z4} {kvs:qi (qi Key×V)} (e:H a=some (.dT kvs)):xt K H (.ref a) (.type "dict")
 |ins {a C dx:z4} {fs:Ι} (e:H a=some (.ins C dx fs)) (cl:Cls K C) (ha:W.findIn K (.ref C) "__class__"=some (some (.builtin "object.__class__")))
   (hn:W.specialIn K (.builtin "object.__class__") "__get__"=some (some (.builtin "getset_descriptor.__get__"))) (htk:W.takesIn K (.builtin "object.__class__")=some true)
   (hm:W.mroIn K C (.type "object")=some true):xt K H (.ref a) (.ref C)
def yg5{x:V}{u t:qb}(I:Inv X pins σ H s)(rx:xj x u)(ty:xt X.K H x t)(e:W.kitOne X.K t c=some b)(h:∀tk,Q (.bool b) {s with toks:=tk}):
  wpAny (model X.prog X.w) A (call (.builtin "isinstance") [u,c]) Q E s:=by
 cases ty with
 |non=>cases (show u=Value.none from rx);exact W.kia_one W.kitx_none I.kIn True.intro e (λz=>nomatch z) h
 |bl y=>cases (show u=Value.bool y from rx);exact W.kia_one W.kitx_bool I.kIn True.intro e (λz=>nomatch z) h
 |int i=>let⟨t,q⟩:=(show ∃t,u=Value.int i t from rx);cases q;exact W.kia_one W.kitx_int I.kIn True.intro e (λz=>nomatch z) h
 |str y=>let⟨t,q⟩:=(show ∃t,u=Value.str y t from rx);cases q;exact W.kia_one W.kitx_str I.kIn True.intro e (λz=>nomatch z) h
 |flt y=>let⟨t,q⟩:=(show ∃t,u=Value.float y t from rx);cases q;exact W.kia_one W.kitx_float I.kIn True.intro e (λz=>nomatch z) h
 | @lst a xs ea =>
  cases (show u=Value.ref a from rx);let⟨_,_,n,_,d⟩:=(show w8 X.prog X.w H s.heap a (.lst xs)from I.hok a _ ea)
  exact W.kia_one W.kitx_list I.kIn ⟨_,d,rfl⟩ e (λz=>nomatch z) h
 | @frz a ob xs ea =>
  cases (show u=Value.ref a from rx);let⟨_,_,_,n,_,d⟩:=(show w8 X.prog X.w H s.heap a (.frz ob (.lst xs))from I.hok a _ ea)
  exact W.kia_one W.kitx_list I.kIn ⟨_,d,rfl⟩ e (λz=>nomatch z) h
 | @tup a xs ea =>
  cases (show u=Value.ref a from rx);let⟨_,_,_,p⟩:=(show w8 X.prog X.w H s.heap a (.tup xs)from I.hok a _ ea);let⟨o,d,f,_⟩:=p
  exact W.kia_one W.kitx_tuple I.kIn ⟨o,d,f⟩ e (λz=>nomatch z) h
 | @dK a kvs ea =>
  cases (show u=Value.ref a from rx);let⟨_,_,m,_,p⟩:=(show w8 X.prog X.w H s.heap a (.dK kvs)from I.hok a _ ea);let⟨o,j,g,d,f,_⟩:=p
  exact W.kia_one W.kitx_dict I.kIn ⟨o,d,f.1⟩ e (λz=>nomatch z) h
 | @dT a kvs ea =>
  cases (show u=Value.ref a from rx);let⟨_,_,xs,_,o,j,g,d,f,_⟩:=(show w8 X.prog X.w H s.heap a (.dT kvs)from I.hok a _ ea)
  exact W.kia_one W.kitx_dict I.kIn ⟨o,d,f.1⟩ e (λz=>nomatch z) h
 | @ins a C dx fs ea cl ha hn htk hm =>
  cases (show u=Value.ref a from rx);let⟨l,O,_⟩:=Ÿ I.hok ea;let⟨k,J,_⟩:=O.look
  exact W.kia_one (W.kitx_own (cl.get _) cl.hd ha hn htk hm) I.kIn J e (λz=>nomatch z) h
end
structure jp(k:Nat)(A:qe):Prop where
 hd:A.handled=none
 dp:A.depth+3*k+5<recursionLimit
 un:A.units+16*k+200<cLine
def jp.mono{j k:Nat}{A:qe}(r:jp k A)(h:j<=k):jp j A:=⟨r.hd,by have:=r.dp;omega,by have:=r.un;omega⟩
theorem jp.deeper{k:Nat}{A:qe}(r:jp (k+1) A)(env:Env):jp k (A.deeper env) :=
 ⟨r.hd,by have:=r.dp;show A.depth+1+3*k+5<_;omega,by have:=r.un;show A.units+3+16*k+200<_;omega⟩
def yfn{A:qe}:(A.under (.builtin "type.__call__" ⟨.ref C::us,kw⟩)).depth=A.depth+1:=by first|rfl|simp[Around.under,Code.weight,Code.isCreation,Code.isGuard,Code.isCaller,Code.frames,Code.isFrame,guardIds]
def yf9{A:qe}:(A.under (.builtin "type.__call__" ⟨.ref C::us,kw⟩)).units=A.units+1:=by first|rfl|simp[Around.under,Code.cUnits,Code.frames,Code.isFrame]
def jp.make{k:Nat}{A:qe}(r:jp (k+1) A)(C:z4)(us:Ο)(kw:qi (Str×qb)):jp k (A.under (.builtin "type.__call__" ⟨.ref C::us,kw⟩)) :=
 ⟨r.hd,by have:=r.dp;rw[yfn];omega,by have:=r.un;rw[yf9];omega⟩
theorem jp.depth{k:Nat}{A:qe}(r:jp k A):A.depth<recursionLimit:=by have:=r.dp;omega
theorem jp.units{k:Nat}{A:qe}(r:jp k A):A.units+64<cLine:=by have:=r.un;omega
def ylc:TA:=λZ H Q=>Q [] H
def ynz(ta:TE)(tr:TA):TA:=λσ H Q=>ta σ H λx H1=>tr σ H1 λxs H2=>Q (x::xs) H2
section
variable{e:qg}{t:TA}{pos:Pos}
def zj:PA X [] ylc:=.mk λZ Z Z Z H Q I h=>Calls.spliced_nil ⟨[],H,I,.nil,h⟩
def yix(ha:PE X e te)(hr:PA X es t)(hs:starEach (e::es) X.env=(false,eval e X.env)::starEach es X.env:=by rfl):PA X (e::es) (ynz te t):=by refine .mk λb a s σ H Q I h=>?_;rw[hs];show wpAny _ _ (spliced ((false,eval e X.env)::backTo b (starEach es X.env))) _ _ s;refine Calls.spliced_cons (thn (ha a s σ H _ I h) λu d h'=>?_);let⟨x,g,m,f,l⟩:=h';exact thn (hr b a d σ g _ m l) λp o ⟨c,n,j,k,i⟩=>⟨x::c,n,j,.cons f k,i⟩
def vgi(t:TA):TE:=λσ H Q=>t σ H λxs H1=>xs.length<=sizeLine/\∀p,H1 p=none->Q (.ref p) (upd H1 p (.tup xs))
def vf9(t:TA):TE:=λσ H Q=>t σ H λxs H1=>xs.length<=sizeLine/\∀p,H1 p=none->Q (.ref p) (upd H1 p (.lst xs))
def Ô{x1}(h:PA X es t):PE X (.Tuple es x1 pos) (vgi t):=by refine .mk λa s σ H Q I g=>?_;refine wpAny_Tuple_spliced (thn (h pos a s σ H _ I g) λj c ⟨i,d,f,r,z,q⟩=>⟨by rw[<- r.length];exact z,?_⟩);have k:d c.heap.objs.size=none:=f.hok.fresh (cq _);exists .ref c.heap.objs.size,upd d c.heap.objs.size (.tup i),f.laid (t':=c.toks) (λb u e=>ck _ e) (cq _) ?_,rfl,q _ k;exists z,j,r,⟨_,cD _ rfl,rfl,_,rfl⟩
def wx(h:PA X es t):PE X (.List es pos) (vf9 t):=by refine .mk λa s σ H Q I g=>?_;refine wpAny_List_spliced (thn (h pos a s σ H _ I g) λj c ⟨i,d,f,r,z,q⟩=>⟨by rw[<- r.length];exact z,?_⟩);have k:d c.heap.objs.size=none:=f.hok.fresh (cq _);exists .ref c.heap.objs.size,upd d c.heap.objs.size (.lst i),f.laid (t':=c.toks) (λb u e=>ck _ e) (cq _) ?_,rfl,q _ k;exists z,j,0,r,cD _ rfl
end
abbrev Sp:=qi V->Hp->VK->XK->Prop
abbrev CXT:=qi Env->Hp->qa->XK->qb->qa->Prop
variable{CX:CXT}
structure yw8(P:qh)(w:qd)(K:z3)(mg:Ε)(base:qf)(A:qe)(outer:qi Env)(s:qa)(H:Hp):Prop where
 frames:A.frames=some outer
 mod:Mod K mg base
 bs:∀b o,base.get? b=some o->s.heap.get? b=some o/\H b=none
 bsz:base.objs.size<=s.heap.objs.size
 funs:s.heap.FunFrames base outer
 frf:∀b∈frs outer,H b=none
 hok:HOk P w H s.heap
 bare:AllBare s.gens
def CE(outer:qi Env)(P:qh)(w:qd)(H:Hp)(s:qa)(Q:VK)(u:qb)(s':qa):Prop :=
 ∃v H',s'.os=s.os/\AllBare s'.gens/\Un (frs outer) [] H H' s.heap s'.heap/\HOk P w H' s'.heap/\xj v u/\Q v H'
def CR(CX:CXT)(outer:qi Env)(P:qh)(w:qd)(H:Hp)(s:qa)(Q:VK)(E:XK)(r:Result)(s':qa):Prop :=
 match r with
 | .ok (.ret u)=>CE outer P w H s Q u s'
 | .ok _=>False
 | .error e=>CX outer H s E e s'
structure vq(P:qh)(w:qd)(K:z3)(mg:Ε)(base:qf)(CX:CXT)(k:Nat)(f:z4)(fd:FuncData)(ps:Τ)(sp:Sp):Prop where
 len:∀vs H Q E,sp vs H Q E->vs.length=ps.length
 run:∀(A:qe)(outer:qi Env)(s:qa)(H:Hp)(args:Args)(us:Ο)(vs:Υ)(Q:VK)(E:XK),jp k A->yw8 P w K mg base A outer s H->BindsTo s fd args (ps.zip us)->wo vs us->sp vs H Q E ->
  codeAny (model P w) A (.call (.ref f) args) (CR CX outer P w H s Q E) s
def vq.imp{w:qd}{K:z3}{mg:Ε}{base:qf}{k:Nat}{f:z4}{ps:Τ}{sp sp':Sp}(F:vq P w K mg base CX k f fd ps sp)
  (h:∀vs H Q E,sp' vs H Q E->sp vs H Q E):vq P w K mg base CX k f fd ps sp' :=
 ⟨λvs H Q E q=>F.len vs H Q E (h _ _ _ _ q),λA a s H b g vs Q E d i j c e=>F.run A a s H b g vs Q E d i j c (h _ _ _ _ e)⟩
def yw8.make{w:qd}{K:z3}{mg:Ε}{base:qf}{A:qe}{outer:qi Env}{s:qa}(e:yw8 P w K mg base A outer s H)(C:z4)(us:Ο)(kw:qi (Str×qb)):
  yw8 P w K mg base (A.under (.builtin "type.__call__" ⟨.ref C::us,kw⟩)) outer s H:=⟨by first|exact e.frames|(simpa[Around.under,Code.envs,Code.isFrame,pushEnvs]using e.frames),e.mod,e.bs,e.bsz,e.funs,e.frf,e.hok,e.bare⟩
section
variable{s:qa}
def Inv.env0(I:Inv X pins σ H s):yw8 X.prog X.w X.K X.mg X.base X.A X.stack s H :=
 ⟨I.ok.frames,I.ok.mod,I.bs,de I.ok.bsz I.sz,I.stack,I.stkFree,I.hok,I.bare⟩
def Inv.after{Q:VK}{u:qb}(I:Inv X pins σ H s)(h:CE X.stack X.prog X.w H s Q u s'):EP X pins σ Q u s':=by let⟨v,f,i,a,k,e,r,q⟩:=h;let⟨j,g,d,t,c⟩:=s';obtain rfl:c=s.os:=i;exists v,f,I.call (h':=j) (g':=g) (d':=d) (t':=t) (ch:=[]) k e a (λb z=>absurd z (by simp)),r,q
end
def yu0(sp:Sp)(dvs:Υ)(E:XK)(t:TA):TE:=λσ H Q=>t σ H λvs H1=>sp (vs++dvs) H1 Q E
def ĸ(C:z4)(m:Str)(sp:Sp)(dvs:Υ)(E:XK)(ta:TE)(t:TA):TE:=λσ H Q=>ta σ H λx H1=>∃a dx fs,x=.ref a/\H1 a=some (.ins C dx fs)/\fs.lookup m=none/\
 t σ H1 λvs H2=>sp (x::(vs++dvs)) H2 Q E
def ywz(C:z4)(sp:Sp)(dvs:Υ)(E:XK)(t:TA):TE:=λσ H Q=>t σ H λvs H1=>∀x dx,H1 x=none->H1 dx=none->dx≠x ->
 sp (.ref x::(vs++dvs)) (upd (upd H1 dx (.own x)) x (.ins C dx [])) (λv H2=>v=.non/\Q (.ref x) H2) E
def zr(K:z3)(fd:FuncData)(ps:Τ)(ds:Ο):Prop :=
 ∀(s:qa)(us:Ο),K.In s.heap->(us++ds).length=ps.length->BindsTo s fd ⟨us,[]⟩ (ps.zip (us++ds))
def zr.all{K:z3}{ps:Τ}(h:∀us:Ο,us.length=ps.length->bindArgs fd ⟨us,[]⟩=pure (ps.zip us)):zr K fd ps []:=λs us Z a=>by
 rw[dZ]at a⊢;exact .of_eq (h us a)
def õ(CX:CXT)(X:Cx)(E:XK):Prop:=∀(pins:Θ)(σ:St)(H:Hp)(s:qa)(e:qb)(s':qa),Inv X pins σ H s->CX X.stack H s E e s'->X.xe e s'
section
variable{k:Nat}{f:z4}{ps:Τ}{sp:Sp}{dvs:Υ}{ds:Ο}{E:XK}{x m:Str}{p pos apos:Pos}{e o:qg}{t:TA}
def yj0{s:qa}{Q:VK}(F:vq X.prog X.w X.K X.mg X.base CX k f fd ps sp)(hr:jp k X.A)(hb:zr X.K fd ps ds)(hd:wo dvs ds)(hx:õ CX X E)
  (I:Inv X pins σ H s) (r:wo vs us) (h:sp (vs++dvs) H Q E):wpAny (model X.prog X.w) X.A (call (.ref f) us) (EP X pins σ Q) X.xe s:=by
 have b:wo (vs++dvs) (us++ds):=r.append hd;have c:(us++ds).length=ps.length:=by rw[<- b.length];exact F.len _ _ _ _ h
 refine wpAny_call (codeAny_mono (F.run X.A X.stack s H ⟨us,[]⟩ (us++ds) (vs++dvs) Q E hr I.env0 (hb s us I.kIn c) b h) λr d a=>?_)
 cases r with
 |error e=>exact hx pins σ H s e d I a
 |ok fl =>
  cases fl with
  |ret u=>exact I.after a
  |next=>exact False.elim a
  |brk=>exact False.elim a
  |cont=>exact False.elim a
def yt4(F:vq X.prog X.w X.K X.mg X.base CX k f fd ps sp)(hr:jp k X.A)(hg:Gl X x)(hm:X.mg x=some (.ref f))(hk:W.keepIn X.K (.ref f)=true)(hb:zr X.K fd ps ds)(hd:wo dvs ds)(hx:õ CX X E)
  (ha:PA X (e::es) t) (hdb:(x == ("__debug__":Str))=false:=by decide) (he:starEach (e::es) X.env=(false,eval e X.env)::starEach es X.env:=by rfl) (hpl:(backTo pos (starEach es X.env)).any (·.1)=false:=by rfl):
  PE X (.Call (.Name x p) (e::es) [] pos) (yu0 sp dvs E t):=by refine .mk λa s σ H Q I h=>?_;refine wpAny_Call_Name_kw (Ä I hg hm ?_ hdb);refine W.callWith_K (h₀:=X.base) I.ok.mod.kin hk (thn (ha pos a s σ H _ I h) λg c ⟨d,i,b,r,q⟩=>⟨b.kIn,?_⟩) he hpl;exact yj0 F hr hb hd hx b r q
def wn{pl:Sem Bool}(he:PE X o ta)(c:Cls X.K C)(hm:yw4 X.K C m f)(F:vq X.prog X.w X.K X.mg X.base CX k f fd ps sp)(hr:jp k X.A)(hb:zr X.K fd ps ds)(hd:wo dvs ds)(hx:õ CX X E)(ha:PA X (e::es) t)
  (hst:starEach (e::es) X.env=(false,eval e X.env)::starEach es X.env:=by rfl) (hpl:(backTo pos (starEach es X.env)).any (·.1)=false:=by rfl)
  (ht:eval (.Call (.Attribute o m apos) (e::es) [] pos) X.env=(do
   let ov <- eval o X.env
   standAt apos.atName
   let (f,first) <- holding [ov] (getMethod ov m pl)
   callWith pos f first (backTo pos (starEach (e::es) X.env)) (backToKw pos (keywordEach [] X.env))):=by rfl):
  PE X (.Call (.Attribute o m apos) (e::es) [] pos) (ĸ C m sp dvs E ta t):=by
 refine .mk λb s σ H Q I h=>?_;refine W.methodCall_KW (pl:=pl) (thn (he b s σ H _ I h) λu n h'=>?_) ht;let⟨x,y,g,i,a,B,D,p,j,l,q⟩:=h';subst p;obtain rfl:u=Value.ref a:=i;refine á g j c hm l ?_
 refine W.callWith_K (first:=[.ref a]) (h₀:=X.base) I.ok.mod.kin hm.kp (thn (ha pos b n σ y _ g q) λus z ⟨vs,G,d,r,v⟩=>⟨d.kIn,?_⟩) hst hpl
 exact yj0 (us:=.ref a::us) (vs:=.ref a::vs) F hr hb hd hx d (.cons rfl r) v
def yz{pl:Sem Bool}(he:PE X o ta)(c:Cls X.K C)(hm:yw4 X.K C m f)(F:vq X.prog X.w X.K X.mg X.base CX k f fd ps sp)(hr:jp k X.A)(hb:zr X.K fd ps ds)(hd:wo dvs ds)(hx:õ CX X E)
  (ht:eval (.Call (.Attribute o m apos) [] [] pos) X.env=(do
   let ov <- eval o X.env
   standAt apos.atName
   let (f,first) <- holding [ov] (getMethod ov m pl)
   callWith pos f first (backTo pos (starEach [] X.env)) (backToKw pos (keywordEach [] X.env))):=by rfl):
  PE X (.Call (.Attribute o m apos) [] [] pos) (ĸ C m sp dvs E ta ylc):=by
 refine .mk λb s σ H Q I h=>?_;refine W.methodCall_KW (pl:=pl) (thn (he b s σ H _ I h) λu j h'=>?_) ht;let⟨x,p,d,e,a,n,r,i,g,l,q⟩:=h';subst i;obtain rfl:u=Value.ref a:=e;refine á d g c hm l ?_
 exact W.callWith_K0 (first:=[.ref a]) d.kIn hm.kp (yj0 (us:=[.ref a]) (vs:=[.ref a]) F hr hb hd hx d (.cons rfl .nil) q)
structure Mk(K:z3)(C f:z4):Prop where
 makes:W.makesIn K C=true
 init:W.findIn K (.ref C) "__init__"=some (some (.ref f))
 fn:W.isFn K (.ref f)=true
 kp:W.keepIn K (.ref C)=true
def yds{s:qa}{Q:VK}(M:Mk X.K C f)(F:vq X.prog X.w X.K X.mg X.base CX k f fd ps sp)(hr:jp (k+1) X.A)(hb:zr X.K fd ps ds)(hd:wo dvs ds)
  (hx:õ CX X E) (I:Inv X pins σ H s) (r:wo vs us)
  (h:∀x dx,H x=none->H dx=none->dx≠x->sp (.ref x::(vs++dvs)) (upd (upd H dx (.own x)) x (.ins C dx [])) (λv H2=>v=.non/\Q (.ref x) H2) E):
  wpAny (model X.prog X.w) X.A (call (.ref C) us) (EP X pins σ Q) X.xe s:=by
 have c:=h (s.heap.objs.size+1) s.heap.objs.size (I.hok.fresh (Nat.le_succ _)) (I.hok.fresh (cq _)) (cV (Nat.lt_succ_self _));have b:=Inv.made (C:=C) I;have d:wo (V.ref (s.heap.objs.size+1)::(vs++dvs)) (Value.ref (s.heap.objs.size+1)::(us++ds)):=.cons rfl (r.append hd)
 have m:(Value.ref (s.heap.objs.size+1)::us++ds).length=ps.length:=by
  have e:=d.length;rw[F.len _ _ _ _ c]at e;exact e.symm
 refine wpAny_call (yed (f:=f) I.kIn M.makes M.init (beq_iff_eq.mp M.fn) (codeAny_mono (F.run _ X.stack _ _ ⟨Value.ref (s.heap.objs.size+1)::us,[]⟩ (Value.ref (s.heap.objs.size+1)::(us++ds)) _ _ E (hr.make C us [])
  (b.env0.make C us []) (hb _ (Value.ref (s.heap.objs.size+1)::us) b.kIn m) d c) λr g a=>?_))
 cases r with
 |error e=>exact hx pins σ _ _ e g b a
 |ok fl =>
  cases fl with
  |ret u =>
   let⟨v,i,l,o,n,j⟩:=b.after a;subst n;exists o,⟨V.ref (s.heap.objs.size+1),i,l,rfl,j⟩
  |next=>exact False.elim a
  |brk=>exact False.elim a
  |cont=>exact False.elim a
def Á(M:Mk X.K C f)(F:vq X.prog X.w X.K X.mg X.base CX k f fd ps sp)(hr:jp (k+1) X.A)(hg:Gl X x)(hm:X.mg x=some (.ref C))(hb:zr X.K fd ps ds)(hd:wo dvs ds)(hx:õ CX X E)
  (ha:PA X (e::es) t) (hdb:(x == ("__debug__":Str))=false:=by decide) (he:starEach (e::es) X.env=(false,eval e X.env)::starEach es X.env:=by rfl) (hpl:(backTo pos (starEach es X.env)).any (·.1)=false:=by rfl):
  PE X (.Call (.Name x p) (e::es) [] pos) (ywz C sp dvs E t):=by refine .mk λa s σ H Q I h=>?_;refine wpAny_Call_Name_kw (Ä I hg hm ?_ hdb);refine W.callWith_K (h₀:=X.base) I.ok.mod.kin M.kp (thn (ha pos a s σ H _ I h) λg c ⟨d,i,b,r,q⟩=>⟨b.kIn,?_⟩) he hpl;exact yds M F hr hb hd hx b r q
def zb(M:Mk X.K C f)(F:vq X.prog X.w X.K X.mg X.base CX k f fd ps sp)(hr:jp (k+1) X.A)(hg:Gl X x)(hm:X.mg x=some (.ref C))(hb:zr X.K fd ps ds)(hd:wo dvs ds)(hx:õ CX X E)
  (hdb:(x == ("__debug__":Str))=false:=by decide):PE X (.Call (.Name x p) [] [] pos) (ywz C sp dvs E ylc):=by refine .mk λa s σ H Q I h=>?_;refine wpAny_Call_Name_kw (Ä I hg hm ?_ hdb);exact W.callWith_K0 I.kIn M.kp (yds (us:=[]) M F hr hb hd hx I .nil h)
end
section
variable{k:Nat}{f:z4}{ps ks:Τ}{sp:Sp}{E:XK}{x m:Str}{p pos apos kpos:Pos}{e o:qg}{kws:qi Keyword}{t tk:TA}{nm:Φ}
structure vf5(K:z3)(fd:FuncData)(ps ks:Τ)(g:qi qb->qi qb->qi qb)(gV:qi V->qi V->qi V):Prop where
 to:∀(s:qa)(us ws:Ο),K.In s.heap->(g us ws).length=ps.length->BindsTo s fd ⟨us,ks.zip ws⟩ (ps.zip (g us ws))
 rel:∀{vs:Υ}{us:Ο}{zs:Υ}{ws:Ο},wo vs us->wo zs ws->wo (gV vs zs) (g us ws)
variable{g:qi qb->qi qb->qi qb}{gV:qi V->qi V->qi V}
end
structure yi(N P:Τ)(sc:Scope):Prop where
 kind:sc.kind=.function
 co:sc.isCoroutine=false
 gen:sc.isGenerator=false
 nd:N.Nodup
 pre:N.take P.length=P
 par:∀x∈P,sc.names.lookup x=some .local\/sc.names.lookup x=some .cell
 nofree:∀y∈sc.names,y.2≠.free
theorem yas{kindOf:Str->qj NameKind}{x:Str}:∀{binds:qi (Str×qb)}{m:Ε},(∀v,(x,v)∉binds)->bindL kindOf binds m x=m x
 |[],_,_=>rfl
 |(n,v)::r,m,h=>by
  unfold bindL;rw[yas λw a=>h w (cZ _ a)]
  split
  .have:x≠n:=by rintro rfl;exact h v cT
   simp[this]
  .rfl
theorem ya8{kindOf:Str->qj NameKind}{x:Str}:∀{binds:qi (Str×qb)}{m:Ε},(∀v,(x,v)∉binds)->bindC kindOf binds m x=m x
 |[],_,_=>rfl
 |(n,v)::r,m,h=>by
  unfold bindC;rw[ya8 λw a=>h w (cZ _ a)]
  split
  .rfl
  .have:x≠n:=by rintro rfl;exact h v cT
   simp[this]
theorem yax{kindOf:Str->qj NameKind}{x:Str}{v:qb}:∀{P:Τ}{vs:Ο}{i:Nat}{m:Ε},P.Nodup->P[i]?=some x->vs[i]?=some v->kindOf x=some .local ->
  bindL kindOf (P.zip vs) m x=some v
 |[],_,_,_,_,h,_,_=>by simp at h
 |_::_,[],_,_,_,_,h,_=>by simp at h
 |p::P,w::vs,0,m,nd,h1,h2,hk=>by
  simp at h1 h2;subst h1;subst h2;show bindL kindOf ((p,w)::P.zip vs) m p=_;unfold bindL;rw[yas λv a=>(dI.mp nd).1 (List.of_mem_zip a).1,if_pos hk];simp
 |p::P,w::vs,i+1,m,nd,h1,h2,hk=>by
  show bindL kindOf ((p,w)::P.zip vs) m x=_;unfold bindL;exact yax (i:=i) (dI.mp nd).2 (by simpa using h1) (by simpa using h2) hk
theorem yaz{kindOf:Str->qj NameKind}{x:Str}{v:qb}:∀{P:Τ}{vs:Ο}{i:Nat}{m:Ε},P.Nodup->P[i]?=some x->vs[i]?=some v->kindOf x≠some .local ->
  bindC kindOf (P.zip vs) m x=some v
 |[],_,_,_,_,h,_,_=>by simp at h
 |_::_,[],_,_,_,_,h,_=>by simp at h
 |p::P,w::vs,0,m,nd,h1,h2,hk=>by
  simp at h1 h2;subst h1;subst h2;show bindC kindOf ((p,w)::P.zip vs) m p=_;unfold bindC;rw[ya8 λv a=>(dI.mp nd).1 (List.of_mem_zip a).1,if_neg hk];simp
 |p::P,w::vs,i+1,m,nd,h1,h2,hk=>by
  show bindC kindOf ((p,w)::P.zip vs) m x=_;unfold bindC;exact yaz (i:=i) (dI.mp nd).2 (by simpa using h1) (by simpa using h2) hk
def ù(N:Τ)(vs:Υ):St:=vs.map some++List.replicate (N.length-vs.length) none
def vv(CX:CXT)(P:qh)(w:qd)(K:z3)(mg:Ε)(base:qf)(N:Τ)(qual:Str)(scope:Scope)(f:z4)(cd:qb)(A:qe)(outer:qi Env)(s:qa)(H:Hp)(E:XK):Cx where
 prog:=P
 w:=w
 K:=K
 mg:=mg
 base:=base
 A:=A.deeper (envOfC qual scope s.heap.objs.size f cd)
 N:=N
 s₀:=s
 H₀:=H
 env:=envOfC qual scope s.heap.objs.size f cd
 outer:=outer
 stack:=envOfC qual scope s.heap.objs.size f cd::outer
 ex:=[]
 calm:=true
 fn:=λZ=>true
 pn:=[]
 xe:=λe s'=>wpAny (model P w) (A.deeper (envOfC qual scope s.heap.objs.size f cd)) (leaving (envOfC qual scope s.heap.objs.size f cd) e) (λZ s''=>CX outer H s E e s'') (λe' s''=>CX outer H s E e' s'') s'
def ydp{sc:Scope}{n:Nat}{x:Str}(h:sc.names.lookup x=some .cell):∃c,(cellsFrom n sc.names []).lookup x=some c:=by have q:=W.cellsFrom_some sc.names n [] (.inl h);exact Option.isSome_iff_exists.mp q
def yhj{w:qd}{K:z3}{mg:Ε}{base:qf}{N ps:Τ}{qual:Str}{scope:Scope}{f:z4}{cd:qb}{A:qe}{outer:qi Env}{s s1:qa}{E:XK} 
  (S:yi N ps scope) (hd:A.handled=none) (e0:yw8 P w K mg base A outer s H) (hl:vs.length=ps.length) (r:wo vs us)
  (x:InCallC s s.heap.objs.size (bindL (envOfC qual scope s.heap.objs.size f cd).kindOf (ps.zip us) λZ=>none) (cellsFrom (s.heap.objs.size+1) scope.names []) (bindC (envOfC qual scope s.heap.objs.size f cd).kindOf (ps.zip us) λZ=>none) s1):
  Inv (vv CX P w K mg base N qual scope f cd A outer s H E) [] (ù N vs) H s1:=by
 have F:ps.length<=N.length:=by have:=congrArg List.length S.pre;rw[cK]at this;omega
 let⟨o,J,rfl,C⟩:=x.done;have g:∀b:z4,b∉(vv CX P w K mg base N qual scope f cd A outer s H E).ex:=λb z=>absurd (show b∈([]:Χ)from z) (by simp)
 refine⟨⟨e0.mod,S.kind,rfl,rfl,cq _,λy z c o d=>?_,λy j=>?_,λy c Z h=>?_,λZ=>hd,Around.frames_deeper e0.frames,.inr ⟨rfl,rfl⟩,λb z=>absurd z (g b),e0.bs,e0.bsz,λb Z Z=>g b,λb z=>absurd z (g b),e0.funs,e0.frf⟩,
  rfl,e0.bare,Un.kept C,⟨_,x.toInCall.ns,λi y v o d I=>?_⟩,λy c h=>⟨_,x.cell y c h⟩,e0.hok.fresh (cq _),λy c h=>?_,λp l=>absurd (show p∈([]:Θ)from l) (by simp),e0.hok.kept C,?_⟩
 .exact name_of_addr x.apart (PySem.mem_of_lookup o) (PySem.mem_of_lookup d)
 .have j:scope.names.lookup y=some .cell\/scope.names.lookup y=some .free:=j;rcases j with j|j
  .exact ydp j
  .exact absurd rfl (S.nofree _ (PySem.mem_of_lookup j))
 .exact Nat.le_of_lt (x.above y c (PySem.mem_of_lookup h))
 .have t:i<vs.length:=by
   unfold ù at d;by_cases t:i<vs.length
   .exact t
   .rw[dA (by simpa using t)]at d;rw[List.getElem?_replicate]at d
    split at d<;>cases d
  have D:vs[i]?=some v:=by
   unfold ù at d;rw[dG (by simpa using t),cu]at d
   cases e:vs[i]? with
   |none=>rw[e]at d;cases d
   |some a=>rw[e]at d;cases d;rfl
  let⟨u,B,G⟩:=r.get D
  have l:ps[i]?=some y:=by
   rw[<- S.pre,List.getElem?_take_of_lt ()];exact o
  have m:ps.Nodup:=by rw[<- S.pre];exact S.nd.sublist (List.take_sublist _ _)
  exists u,G,?_;rcases S.par y (cB l)with k|k
  .exact .inl ⟨k,yax m l B k⟩
  .obtain⟨c,e⟩:=ydp (n:=s.heap.objs.size+1) k;refine .inr ⟨.inl k,c,e,?_⟩;have q:=x.cell y c e;rw[yaz m l B (by show scope.names.lookup y≠_;rw[k];decide)]at q;exact q
 .exact e0.hok.fresh (Nat.le_of_lt (x.above y c (PySem.mem_of_lookup h)))
 .unfold ù;show _=N.length;rw[cj,bI,List.length_replicate];omega
def yvk{w:qd}{K:z3}{mg:Ε}{base:qf}{k:Nat}{f:z4}{name qual:Str}{params:Arguments}{scope:Scope}{dV kV doc pm cdv ct oc:qb}{an od:qj z4}
  {osl:Array (qj qb)} {N ps:Τ} {sp:Sp} (lk:K.lookup f=some ⟨oc,od,.func (W.fnOf name qual params body scope dV kV doc pm an cdv ct),osl⟩) (hcd:W.codeIn K cdv qual=true) (S:yi N ps scope)
  (len:∀vs H Q E,sp vs H Q E->vs.length=ps.length)
  (hbody:∀(A:qe)(outer:qi Env)(s:qa)(H:Hp)(vs:Υ)(Q:VK)(E:XK),jp k (A.deeper (envOfC qual scope s.heap.objs.size f cdv))->sp vs H Q E ->
   ∃t,PSs (vv CX P w K mg base N qual scope f cdv A outer s H E) body t/\t { nx:=λZ H'=>Q .non H',rt:=Q} (ù N vs) H):
  vq P w K mg base CX (k+1) f (W.fnOf name qual params body scope dV kV doc pm an cdv ct) ps sp:=by
 exists len,λA outer s H z L vs Q E i h O r d=>?_;have M:=len _ _ _ _ d;have B:K.In s.heap:=h.mod.kin.keeps λb o e=>(h.bs b o e).1;have m:s.heap.NoLimit:=h.mod.nolimit.keeps λb o e=>(h.bs b o e).1
 have a:∀y∈ps.zip L,scope.names.lookup y.1=some .local\/(scope.names.lookup y.1=some .cell/\((cellsFrom (s.heap.objs.size+1) scope.names []).lookup y.1).isSome=true):=λ⟨n,v⟩ F=>by
  rcases S.par n (List.of_mem_zip F).1 with q|q
  .exact .inl q
  .exact .inr ⟨q,W.cellsFrom_some _ _ _ (.inl q)⟩
 refine codeAny_call_function i.depth (B _ _ lk) rfl S.co S.gen rfl (W.codeRec_of B hcd) (O _ _ _ _ ?_);refine wpAny_newFunctionEnv_cells S.kind a λC G p x=>?_;subst G;exists m.keeps x.toInCall.keep,codeAny_func ?_;let⟨t,T,R⟩:=hbody A outer s H vs Q E (i.deeper _) d;have I:Inv (vv CX P w K mg base N qual scope f cdv A outer s H E) [] (ù N vs) H p:=yhj S i.hd h M r x;refine dR (T [] p (ù N vs) H _ I R) (λD l c=>?_) λe l c=>c
 have g:∀{σ':St}{H':Hp}{v:V}{u:qb},Inv (vv CX P w K mg base N qual scope f cdv A outer s H E) [] σ' H' l->xj v u->Q v H'->CE outer P w H s Q u l :=
  λ{σ' H' v u}J j q=>⟨v,H',J.os,J.bare,J.base,J.hok,j,q⟩
 cases D with
 |ret u =>
  let⟨v,σ',H',J,j,q⟩:=c;exact g J j q
 |next =>
  let⟨σ',H',J,q⟩:=c;exact g (v:=V.non) (u:=Value.none) J rfl q
 |brk =>
  let⟨_,_,_,q⟩:=c;exact False.elim q
 |cont =>
  let⟨_,_,_,q⟩:=c;exact False.elim q
section
variable{x:Str}{p pos:Pos}{e:qg}{t:TA}{id T:String}{r:qi V->Hp->VK->Prop}
def tCB(r:qi V->Hp->VK->Prop)(t:TA):TE:=λσ H Q=>t σ H λvs H1=>r vs H1 Q
def yl4(hc:j3 X (.builtin id) r)(hg:Gl X x)(hm:X.mg x=none)(hv:bootBuiltins x=some (.builtin id))(ha:PA X (e::es) t)(hn:x≠"__name__":=by decide)(hdb:(x == ("__debug__":Str))=false:=by decide)
  (he:starEach (e::es) X.env=(false,eval e X.env)::starEach es X.env:=by rfl) (hpl:(backTo pos (starEach es X.env)).any (·.1)=false:=by rfl):PE X (.Call (.Name x p) (e::es) [] pos) (tCB r t):=by refine .mk λa s σ H Q I h=>?_;refine wpAny_Call_Name_kw (ġ I hg hm hv ?_ hn hdb);exact PyProof.Rows.callWith_builtin1 (thn (ha pos a s σ H _ I h) λf b ⟨d,g,j,c,i⟩=>hc a b σ g d f Q j c i) he hpl
def yhx(hc:j3 X (.type T) r)(hg:Gl X x)(hm:X.mg x=none)(hv:bootBuiltins x=some (.type T))(ha:PA X (e::es) t)(hn:x≠"__name__":=by decide)(hdb:(x == ("__debug__":Str))=false:=by decide)
  (he:starEach (e::es) X.env=(false,eval e X.env)::starEach es X.env:=by rfl) (hpl:(backTo pos (starEach es X.env)).any (·.1)=false:=by rfl):PE X (.Call (.Name x p) (e::es) [] pos) (tCB r t):=by refine .mk λa s σ H Q I h=>?_;refine wpAny_Call_Name_kw (ġ I hg hm hv ?_ hn hdb);exact PyProof.Rows.callWith_type1 (thn (ha pos a s σ H _ I h) λf b ⟨d,g,j,c,i⟩=>hc a b σ g d f Q j c i) he hpl
end
end L2
namespace HT
open PySem PyProof.Rows
section
open PySem.SeqAt
open PySem.AutoSeq1 (wpAny_loadPart')
open PySem.MeetsSeq PySem.MeetsSeq2 PySem.MeetsSeq3
end
section
variable{prog:qh}{w:qd}{A:qe}{E:Δ}{s:qa}
def sIx(n d:Nat):qj Int->Nat
 |none=>d
 |some v=>if v<0 then (v+(n:Int)).toNat else min v.toNat n
def sIx_none(n d:Nat):sIx n d none=d:=rfl
def sIx_nat(n d k:Nat):sIx n d (some (k:Int))=min k n:=by show (if (k:Int)<0 then ((k:Int)+(n:Int)).toNat else min (k:Int).toNat n)=min k n;rw[if_neg (),Int.toNat_natCast]
def yz7(n d:Nat)(hd:d<=n)(o:qj Int):sIx n d o<=n:=by
 cases o with
 |none=>exact hd
 |some v =>
  show (if v<0 then (v+(n:Int)).toNat else min v.toNat n)<=n;by_cases hv:v<0
  .rw[if_pos hv];omega
  .rw[if_neg hv];exact Nat.min_le_right _ _
def yiq(v:Int)(n d:Nat):(if v<0 then max (v+(n:Int)) 0 else min v (n:Int))=((sIx n d (some v):Nat):Int):=by
 show (if v<0 then max (v+(n:Int)) 0 else min v (n:Int))=(((if v<0 then (v+(n:Int)).toNat else min v.toNat n):Nat):Int);by_cases hv:v<0
 .simp only[if_pos hv];omega
 .simp only[if_neg hv];omega
def yfy(lo hi:qj Int)(n:Nat):Builtin.Slice.sliceAdjust lo hi 1 (n:Int)=(((sIx n 0 lo:Nat):Int),((sIx n n hi:Nat):Int)):=by
 have a:¬((1:Int)<0):=()
 unfold Builtin.Slice.sliceAdjust;simp only[a,if_false];refine Prod.ext ?_ ?_
 .cases lo with
  |none=>rfl
  |some v=>exact yiq v n 0
 .cases hi with
  |none=>rfl
  |some v=>exact yiq v n n
def yfz(i j:Nat):Builtin.Slice.slicePlaces (i:Int) (j:Int) 1=j-i:=by
 unfold Builtin.Slice.slicePlaces;have a:(1:Int) > 0:=()
 simp only[a,if_true,Int.ediv_one]
 split<;>omega
def Ń{v:qb}{o:qj Int}{Q:qj Int->qa->Prop}(p:IsPart v o)(h:Q o s):wpAny (model prog w) A (Builtin.Slice.slicePartIndex v) Q E s:=by
 cases p with
 |none=>exact slicePart_none h
 |int i t=>exact slicePart_int h
def jm{sl:z4}{vl vu:qb}{lo hi:qj Int}{n:Nat}{Q:Int×Int×Nat->qa->Prop}(hs:s.heap.IsSliceOf sl vl vu .none)(pl:IsPart vl lo)(pu:IsPart vu hi)
  (h:Q (((sIx n 0 lo:Nat):Int),1,sIx n n hi-sIx n 0 lo) s):wpAny (model prog w) A (Builtin.Slice.sliceApplied (.ref sl) (pure (n:Int))) Q E s:=by
 let⟨d,a,c,b⟩:=id hs;unfold Builtin.Slice.sliceApplied Builtin.Slice.sliceFields;refine cg (cg (dy a b (x:=vl) rfl (cg (dy a b (x:=vu) rfl (cg (dy a b (x:=.none) rfl (cr ?_)))))));refine cg (slicePart_none ?_);show wpAny _ _ (if ((1:Int) == 0)=true then _ else _) _ _ s;rw[if_neg ∅];refine cg (Ń pl (cg (Ń pu (cg (cr ?_)))))
 show wpAny _ _ (match Builtin.Slice.sliceAdjust lo hi 1 (n:Int)with|(lo,hi)=>pure (lo,(1:Int),Builtin.Slice.slicePlaces lo hi 1)) _ _ s
 rw[yfy lo hi n];show wpAny _ _ (pure (((sIx n 0 lo:Nat):Int),(1:Int),Builtin.Slice.slicePlaces ((sIx n 0 lo:Nat):Int) ((sIx n n hi:Nat):Int) 1)) _ _ s;rw[yfz];exact cr h
def ymq(xs:Array qb)(i k:Nat):((List.range k).filterMap λ(m:Nat)=>xs[((i:Int)+(m:Int)*1).toNat]?).toArray=((xs.toList.drop i).take k).toArray:=by
 have e:(λ(m:Nat)=>xs[((i:Int)+(m:Int)*1).toNat]?)=λm=>xs[i+m]?:=by
  funext m
  have:((i:Int)+(m:Int)*1).toNat=i+m:=()
  rw[this]
 rw[e];have:=pick_run xs i k;rw[List.filterMap_map]at this;have a:((λx=>xs[x]?) ∘ λx=>i+x)=λm=>xs[i+m]?:=rfl;rw[a]at this;rw[this]
def getItem_tuple_cut{t sl:z4}{items:Array qb}{vl vu:qb}{lo hi:qj Int}{Q:Δ}(ht:IsTup s.heap t items)(hs:s.heap.IsSliceOf sl vl vu .none)(pl:IsPart vl lo)(pu:IsPart vu hi)
  (hw:¬(sIx items.size 0 lo=0/\sIx items.size items.size hi=items.size))
  (h:Q (.ref s.heap.objs.size) {s with heap:=s.heap.push { cls:=.type "tuple",data:=.seq ((items.toList.drop (sIx items.size 0 lo)).take (sIx items.size items.size hi-sIx items.size 0 lo)).toArray} })
  (hsz:items.size<=sizeLine):wpAny (model prog w) A (getItem (.ref t) (.ref sl)) Q E s:=by
 have a:sizeOk (.seq ((items.toList.drop (sIx items.size 0 lo)).take (sIx items.size items.size hi-sIx items.size 0 lo)).toArray):=by
  show ((items.toList.drop (sIx items.size 0 lo)).take (sIx items.size items.size hi-sIx items.size 0 lo)).toArray.size<=sizeLine;rw[cF,cK,dM,dF];omega
 have i:sIx items.size items.size hi<=items.size:=yz7 _ _ (cq _) hi;let⟨f,c,d,g⟩:=id hs;have b:s.TypeIs (.ref sl) "slice":=⟨f,c,d⟩;unfold getItem
 try with_reducible refine wpAny_holding ?_
 first|refine cg (cr ?_)|skip
 refine cg (wpAny_sequenceKey ht.typeIs ∅ ?_);refine cg (wpAny_callSpecial?_slot (name:=Str.ofString "__getitem__") ht.typeIs PyProof.Rows.slot_tuple_getitem
  (wpAny_call_entry PyProof.Rows.slot_tuple_getitem ht.typeIs entry_tuple_getitem ?_ (args_tuple_getitem _ _)))
 show wpAny _ _ (Builtin.Tuple.tupleItemsOf (.ref t) >>=_) _ _ s;refine cg (tupleItemsOf_ ht ?_);refine cg (wpAny_typeOf b ?_);rw[if_pos ∅];refine cg (jm hs pl pu ?_)
 have e:¬((((sIx items.size 0 lo:Nat):Int) == 0 && (1:Int) == 1 && (sIx items.size items.size hi-sIx items.size 0 lo) == items.size)=true):=by
  intro q;rw[cR,cR]at q;have k:((sIx items.size 0 lo:Nat):Int)=0:=eq_of_beq q.1.1;have j:sIx items.size items.size hi-sIx items.size 0 lo=items.size:=eq_of_beq q.2;exact hw ⟨(),()⟩
 show wpAny _ _ (if (((sIx items.size 0 lo:Nat):Int) == 0 && (1:Int) == 1 && (sIx items.size items.size hi-sIx items.size 0 lo) == items.size)=true then _ else _) _ _ s;rw[if_neg e,ymq]
 first
  |exact cg (m:=Builtin.Tuple.tupleExact _) (wpAny_newObj_type (cr ⟨_,rfl,cr h⟩) a)
  |exact cg (m:=Builtin.Tuple.tupleExact _) (wpAny_newObj_type (cg (cr (cr ⟨_,rfl,cr h⟩))) a)
  |exact cg (cg (m:=Builtin.Tuple.tupleExact _) (wpAny_newObj_type (cr (cr ⟨_,rfl,cr h⟩)) a))
  |exact cg (cg (m:=Builtin.Tuple.tupleExact _) (wpAny_newObj_type (cr ⟨_,rfl,cr h⟩) a))
end
end HT
namespace L2
open PySem PySem.Spec PyProof.Rows
variable{us:Ο}{v:qb}
abbrev TO:=St->Hp->(qj Int->Hp->Prop)->Prop
def PO(X:Cx)(e:qj qg)(t:TO):Prop :=
 ∀(pins:Θ)(s:qa)(σ:St)(H:Hp)(Q:qj Int->Hp->Prop),Inv X pins σ H s->t σ H Q ->
  wpAny (model X.prog X.w) X.A (evalPart e X.env) (λu s'=>∃o H',Inv X pins σ H' s'/\IsPart u o/\Q o H') X.xe s
def yi1:TO:=λZ H Q=>Q none H
def vdf(t:TE):TO:=λσ H Q=>t σ H λx H1=>∃i,x=.int i/\Q (some i) H1
section
variable{X:Cx}{e:qg}{te:TE}{lo hi:qj qg}{tl th:TO}{pos p2:Pos}
def uo:PO X none yi1:=by intro a s σ H Q I h;rw[evalPart_none];exact cr ⟨none,H,I,.none,h⟩
def xv(h:PE X e te):PO X (some e) (vdf te):=by intro a s σ H Q I c;rw[evalPart_some];refine thn (h a s σ H _ I c) λu j h'=>?_;let⟨x,d,g,b,f⟩:=h';let⟨i,rfl,q⟩:=f;let⟨t,rfl⟩:=b;exists some i,d,g,.int i t,q
def SlR(X:Cx)(r:V->qj Int->qj Int->Hp->VK->Prop):Prop :=
 ∀(pins:Θ)(s:qa)(σ:St)(H:Hp)(x:V)(v vl vu:qb)(lo hi:qj Int)(sl:z4)(Q:VK),Inv X pins σ H s->xj x v->s.heap.IsSliceOf sl vl vu .none->IsPart vl lo->IsPart vu hi->r x lo hi H Q ->
  ∃T id,typeLookup (.type T) "__getitem__"=pure (some (.builtin id))/\s.TypeIs v T/\wpAny (model X.prog X.w) X.A (getItem v (.ref sl)) (EP X pins σ Q) X.xe s
def SlR.or{r r':V->qj Int->qj Int->Hp->VK->Prop}(h:SlR X r)(h':SlR X r'):SlR X (λx lo hi H Q=>r x lo hi H Q\/r' x lo hi H Q):=by
 intro a s σ H x v f d lo hi i Q I c e b g q;rcases q with q|q
 .exact h a s σ H x v f d lo hi i Q I c e b g q
 .exact h' a s σ H x v f d lo hi i Q I c e b g q
def tSl(r:V->qj Int->qj Int->Hp->VK->Prop)(te:TE)(tl th:TO):TE:=λσ H Q=>te σ H λx H1=>tl σ H1 λl H2=>th σ H2 λu H3=>r x l u H3 Q
def xp{r:V->qj Int->qj Int->Hp->VK->Prop}(hr:SlR X r)(he:PE X e te)(hl:PO X lo tl)(hu:PO X hi th):PE X (.Subscript e (.Slice lo hi none p2) pos) (tSl r te tl th):=by refine .mk λa s σ H Q I h=>?_;refine Subscript_ (thn (he a s σ H _ I h) λv i h'=>?_);let⟨x,y,J,k,j⟩:=h';refine wpAny_Slice (thn (hl a i σ y _ J j) λf o ⟨l,z,G,n,t⟩=>thn (hu a o σ z _ G t) λd c h'=>?_);let⟨u,g,F,E,D⟩:=h';rw[evalPart_none];refine cr ?_;have m:Inv X a σ g {c with heap:=c.heap.push { cls:=.type "slice",data:=.fields #[f,d,.none]} }:=F.kept (t':=c.toks) λb K q=>ck _ q;let⟨T,id,C,B,p⟩:=hr a {c with heap:=c.heap.push { cls:=.type "slice",data:=.fields #[f,d,.none]} } σ g x v f d l u c.heap.objs.size Q m k (Heap.IsSliceOf.new ..) n E D;show wpAny (model X.prog X.w) X.A (subscriptTail e (.Slice lo hi none p2) v (.ref c.heap.objs.size)) (EP X a σ Q) X.xe {c with heap:=c.heap.push { cls:=.type "slice",data:=.fields #[f,d,.none]} };exact tail_any (ops:=[.ref c.heap.objs.size,v]) B C p (by with_unfolding_all rfl)
def ybw(xs:Υ)(lo hi:qj Int):Υ:=(xs.drop (HT.sIx xs.length 0 lo)).take (HT.sIx xs.length xs.length hi-HT.sIx xs.length 0 lo)
def Đ(xs:Υ)(lo hi:qj Int):(ybw xs lo hi).length<=xs.length:=by unfold ybw;rw[cK,dM];omega
def vhn(K:z3):V->qj Int->qj Int->Hp->VK->Prop:=λx lo hi H Q=>∃a xs,x=.ref a/\SqT K H a xs/\
 ¬(HT.sIx xs.length 0 lo=0/\HT.sIx xs.length xs.length hi=xs.length)/\∀p,H p=none->Q (.ref p) (upd H p (.tup (ybw xs lo hi)))
def yx8:SlR X (vhn X.K):=by
 intro i s σ H x v w u lo e z Q I l m k t h;let⟨a,d,rfl,p,n,q⟩:=h;cases l;let⟨f,r,g,j⟩:=I.tuple p;have c:f.toArray.size=d.length:=by rw[cF];exact r.length.symm
 refine⟨"tuple",_,PyProof.Rows.slot_tuple_getitem.lookup,g.typeIs,?_⟩;refine HT.getItem_tuple_cut g m k t (by rw[c];exact n) ?_ (by rw[c];exact j);rw[c];exists .ref s.heap.objs.size,_,I.laid (t':=s.toks) (o:=.tup (ybw d lo e)) (λb y q=>ck _ q) (cq _) ?_,rfl,q _ (I.hok.fresh (cq _));exists de (Đ d lo e) j,_,(r.drop (HT.sIx d.length 0 lo)).take (HT.sIx d.length d.length e-HT.sIx d.length 0 lo),IsTup.new _ _
end
def ixN(n:Nat)(i:Int):qj Nat:=if 0<=i then (if i<n then some i.toNat else none)else if -(n:Int)<=i then some (i+n).toNat else none
def atI{α:Type}(xs:qi α)(i:Int):qj α:=(ixN xs.length i).bind λj=>xs[j]?
def ytt{n:Nat}{i:Int}{j:Nat}(h:ixN n i=some j):seqIndex? i n=some j/\j<n/\-(n:Int)<=i/\i<n:=by
 unfold ixN at h;by_cases h0:0<=i
 .rw[if_pos h0]at h;by_cases h1:i<n
  .rw[if_pos h1]at h;have e:i.toNat=j:=cL h;exists by rw[seqIndex_of h0 h1,e],(),(),h1
  .rw[if_neg h1]at h;cases h
 .rw[if_neg h0]at h;by_cases h1:-(n:Int)<=i
  .rw[if_pos h1]at h;have e:(i+n).toNat=j:=cL h;exists by rw[seqIndex_neg () h1,e],(),h1,()
  .rw[if_neg h1]at h;cases h
def yin{α:Type}{xs:qi α}{i:Int}{v:α}(h:atI xs i=some v):∃j,seqIndex? i xs.length=some j/\xs[j]?=some v/\j<xs.length/\-(xs.length:Int)<=i/\i<xs.length:=by
 unfold atI at h
 cases e:ixN xs.length i with
 |none=>rw[e]at h;cases h
 |some j =>
  rw[e]at h;let⟨b,d,a,c⟩:=ytt e;exists j,b,h,d,a,c
def w9{α:Type}{xs:qi α}{j:Nat}{v:α}(h:xs[j]?=some v):atI xs (j:Int)=some v:=by
 have a:j<xs.length:=(cE.mp h).1
 have e:ixN xs.length (j:Int)=some j:=by
  unfold ixN;rw[if_pos (),if_pos ()];simp
 unfold atI;rw[e];exact h
def ylj{α:Type}(xs:qi α)(v:α):atI (xs++[v]) (-1)=some v:=by
 have a:(xs++[v]).length=xs.length+1:=by simp
 have e:ixN (xs++[v]).length (-1)=some xs.length:=by
  unfold ixN;rw[a,if_neg ∅,if_pos ()]
  congr 1
  omega
 unfold atI;rw[e];show (xs++[v])[xs.length]?=some v;simp
def ysw(b:qg):Prop:=∀o i,subscripted b false o i=operate [o,i] (getItem o i)
def IxR(X:Cx)(r:R2):Prop :=
 ∀(value slice:qg)(pins:Θ)(s:qa)(σ:St)(H:Hp)(x y:V)(v u:qb)(Q:VK),Inv X pins σ H s->xj x v->xj y u->r x y H Q ->
  subscripted slice false v u=operate [v,u] (getItem v u)->wpAny (model X.prog X.w) X.A (subscriptTail value slice v u) (EP X pins σ Q) X.xe s
def MtR(X:Cx)(id:String)(r:V->qi V->Hp->VK->Prop):Prop :=
 ∀(pins:Θ)(s:qa)(σ:St)(H:Hp)(x:V)(xs:Υ)(v:qb)(us:Ο)(Q:VK),Inv X pins σ H s->xj x v->wo xs us->r x xs H Q ->
  wpAny (model X.prog X.w) X.A (call (.builtin id) (v::us)) (EP X pins σ Q) X.xe s
section
variable{X:Cx}{a b:qg}{ta tb:TE}{pos:Pos}
def xf{r:R2}(hr:IxR X r)(ha:PE X a ta)(hb:PE X b tb)(hs:ysw b):PE X (.Subscript a b pos) (tOp r ta tb):=by refine .mk λc s σ H Q I h=>?_;exact Subscript_ (vd1 ha hb I h λv u e x y i g d f q=>hr a b c e σ i x y v u Q g d f q (hs _ _))
def vds(K:z3):R2:=λx y H Q=>∃p xs i v,x=.ref p/\y=.int i/\SqL K H p xs/\atI xs i=some v/\Q v H
def vga(K:z3):R2:=λx y H Q=>∃p xs i v,x=.ref p/\y=.int i/\SqT K H p xs/\atI xs i=some v/\Q v H
def wk:IxR X (vds X.K):=by
 intro k d a s σ H x y v u Q I B G h n;let⟨p,N,i,z,rfl,rfl,D,o,q⟩:=h;cases B;let⟨t,rfl⟩:=G;let⟨l,r,e,M⟩:=I.list D;let⟨j,c,A,O,J,F⟩:=yin o;let⟨w,m,f⟩:=r.get A;have C:=r.length;have L:=ybq;have b:EP X a σ Q w s:=⟨z,H,I,f,q⟩;by_cases h0:0<=i
 .have g:i.toNat=j:=by
   rw[seqIndex_of h0 F]at c;exact cL c
  exact item_listR e.isList h0 () (by rw[g];simpa using m) b n
 .have g:(i+(l.toArray.size:Int)).toNat=j:=by
   rw[seqIndex_neg () J]at c;rw[cF,<- C];exact cL c
  exact subscriptTail_builtinR (x:=w) e.isList.typeIs slot_list_getitem.lookup
   (wpAny_getItem_list_neg (Q:=λr E=>r=w/\EP X a σ Q r E) e.isList () (by rw[cF]<;>omega) () (by rw[g];simpa using m) ⟨rfl,b⟩) n
def jn:IxR X (vga X.K):=by
 intro e b a s σ H x y v u Q I m D h C;let⟨p,L,i,z,rfl,rfl,A,k,q⟩:=h;cases m;let⟨t,rfl⟩:=D;let⟨E,r,f,G⟩:=I.tuple A;let⟨j,g,l,N,M,J⟩:=yin k;let⟨w,o,d⟩:=r.get l;have n:=r.length;have F:=ybq;have c:EP X a σ Q w s:=⟨z,H,I,d,q⟩;exact subscriptTail_builtinR (x:=w) f.typeIs slot_tuple_getitem.lookup
  (getItem_tuple (j:=j) (Q:=λr B=>r=w/\EP X a σ Q r B) f () () (by rw[cF,<- n];exact g) (by simpa using o) ⟨rfl,c⟩) C
def yaf(lo hi:qj Int)(n:Nat):(sliceBounds lo hi none n).1=((HT.sIx n 0 lo:Nat):Int)/\(sliceBounds lo hi none n).2.1=((HT.sIx n n hi:Nat):Int)/\(sliceBounds lo hi none n).2.2=1:=by
 exists ?_,?_,rfl
 .cases lo with
  |none=>simp[sliceBounds,HT.sIx]
  |some i =>
   simp only[sliceBounds,HT.sIx,Option.getD_none,show (1:Int) > 0 by decide,if_true];by_cases h:i<0
   .simp only[h,if_true]<;>omega
   .simp only[h,if_false]<;>omega
 .cases hi with
  |none=>simp[sliceBounds,HT.sIx]
  |some i =>
   simp only[sliceBounds,HT.sIx,Option.getD_none,show (1:Int) > 0 by decide,if_true];by_cases h:i<0
   .simp only[h,if_true]<;>omega
   .simp only[h,if_false]<;>omega
def Ş(its:Ο)(lo hi:qj Int):slicePick its.toArray lo hi none=((its.drop (HT.sIx its.length 0 lo)).take (HT.sIx its.length its.length hi-HT.sIx its.length 0 lo)).toArray:=by let⟨b,c,a⟩:=yaf lo hi its.toArray.size;unfold slicePick;rw[b,c,a];simp only[sliceRange_one,pick_run,cF]<;>rfl
def vgp(K:z3):V->qj Int->qj Int->Hp->VK->Prop:=λx lo hi H Q=>∃a xs,x=.ref a/\SqL K H a xs/\∀p,H p=none->Q (.ref p) (upd H p (.lst (ybw xs lo hi)))
def je:SlR X (vgp X.K):=by intro g s σ H x v u t lo e y Q I j k i m h;let⟨a,c,rfl,l,q⟩:=h;cases j;let⟨p,r,f,n⟩:=I.list l;have d:=r.length;refine⟨"list",_,slot_list_getitem.lookup,f.isList.typeIs,?_⟩;refine wpAny_getItem_list_slice f.isList k i m .none (by simp) ?_ (by rw[cF]<;>omega);rw[Ş,<- d];exists .ref s.heap.objs.size,_,I.laid (t':=s.toks) (o:=.lst (ybw c lo e)) (λb w q=>ck _ q) (cq _) ?_,rfl,q _ (I.hok.fresh (cq _));exists de (Đ c lo e) n,_,0,(r.drop (HT.sIx c.length 0 lo)).take (HT.sIx c.length c.length e-HT.sIx c.length 0 lo),cD _ rfl
def yaa:V->Bool
 | .non=>true
 | .bl _=>true
 | .int _=>true
 | .str _=>true
 |_=>false
def eqV:V->V->Bool
 | .non,.non=>true
 | .bl a,.bl b=>a == b
 | .bl a,.int b=>(if a then 1 else 0) == b
 | .int a,.bl b=>a == (if b then 1 else 0)
 | .int a,.int b=>a == b
 | .str a,.str b=>a == b
 |_,_=>false
def yxi{A:qe}{s:qa}{y x:V}{u:qb}(ry:xj y u)(rx:xj x v)(fy:yaa y=true)(fx:yaa x=true):SeqAt.EqAt A s u v (eqV y x):=by
 cases y with
 |non =>
  cases ry
  cases x with
  |non=>cases rx;exact SeqAt.EqAt.same _
  |bl b=>cases rx;exact SeqAt.EqAt.none_bool b
  |int b=>let⟨t,rfl⟩:=rx;exact SeqAt.EqAt.none_int b t
  |str b=>let⟨t,rfl⟩:=rx;exact SeqAt.EqAt.none_str b t
  |_=>exact absurd (show false=true from fx) cI
 |bl a =>
  cases ry
  cases x with
  |non=>cases rx;exact SeqAt.EqAt.bool_none a
  |bl b=>cases rx;exact SeqAt.EqAt.bool_bool a b
  |int b=>let⟨t,rfl⟩:=rx;exact SeqAt.EqAt.bool_int a b t
  |str b=>let⟨t,rfl⟩:=rx;exact SeqAt.EqAt.bool_str a b t
  |_=>exact absurd (show false=true from fx) cI
 |int a =>
  let⟨c,rfl⟩:=ry
  cases x with
  |non=>cases rx;exact SeqAt.EqAt.int_none a c
  |bl b=>cases rx;exact SeqAt.EqAt.int_bool a c b
  |int b=>let⟨t,rfl⟩:=rx;exact SeqAt.EqAt.int_int a c b t
  |str b=>let⟨t,rfl⟩:=rx;exact SeqAt.EqAt.int_str a c b t
  |_=>exact absurd (show false=true from fx) cI
 |str a =>
  let⟨c,rfl⟩:=ry
  cases x with
  |non=>cases rx;exact SeqAt.EqAt.str_none a c
  |bl b=>cases rx;exact SeqAt.EqAt.str_bool a c b
  |int b=>let⟨t,rfl⟩:=rx;exact SeqAt.EqAt.str_int a c b t
  |str b=>let⟨t,rfl⟩:=rx;exact SeqAt.EqAt.str_str a c b t
  |_=>exact absurd (show false=true from fx) cI
 |_=>exact absurd (show false=true from fy) cI
def eqU(x:V)(u:qb):Bool:=match u with
 | .none=>eqV .non x
 | .bool b=>eqV (.bl b) x
 | .int i _=>eqV (.int i) x
 | .str z _=>eqV (.str z) x
 |_=>false
def yqr{x y:V}{u:qb}(r:xj y u)(f:yaa y=true):eqU x u=eqV y x:=by
 cases y with
 |non=>cases r;rfl
 |bl b=>cases r;rfl
 |int i=>let⟨t,rfl⟩:=r;rfl
 |str z=>let⟨t,rfl⟩:=r;rfl
 |_=>exact absurd (show false=true from f) cI
theorem ycy{x:V}:∀{xs:Υ}{us:Ο},wo xs us->xs.all yaa=true->us.any (eqU x)=xs.any λy=>eqV y x
 |_,_,.nil,_=>rfl
 |y::xs,u::us,.cons r t,f=>by
  rw[List.all_cons,cR]at f;rw[List.any_cons,List.any_cons,yqr r f.1,ycy t f.2]
theorem Ų{A:qe}{s:qa}{x:V}(rx:xj x v)(fx:yaa x=true):∀{xs:Υ}{us:Ο},wo xs us->xs.all yaa=true->∀u∈us,SeqAt.EqAt A s u v (eqU x u)
 |_,_,.nil,_=>λu a=>by cases a
 |y::xs,u::us,.cons r t,f=>λb a=>by
  rw[List.all_cons,cR]at f;rcases cG.mp a with rfl|a
  .rw[yqr r f.1];exact yxi r rx f.1 fx
  .exact Ų rx fx t f.2 b a
def inV(x:V)(xs:Υ):Bool:=xs.any λy=>eqV y x
def rIn(K:z3)(neg:Bool):R2:=λx y H Q=>∃p xs,y=.ref p/\(SqL K H p xs\/SqT K H p xs)/\yaa x=true/\xs.all yaa=true/\Q (.bl (if neg then !inV x xs else inV x xs)) H
def ya6:OpR X (compareOp .In) (rIn X.K false):=by
 intro g s σ H x y v u Q I f j h;let⟨p,l,rfl,b,i,c,q⟩:=h;cases j;rcases b with b|b
 .obtain⟨a,r,d,k⟩:=I.list b;refine SeqAt.in_listAt (eqU x) d.isList (λw e=>Ų f i r c w (by simpa using e)) ⟨.bl _,H,I,rfl,?_⟩;rw[show a.toArray.any (eqU x)=a.any (eqU x) by simp,ycy r c];exact q
 .obtain⟨a,r,d,k⟩:=I.tuple b;refine SeqAt.in_tupleAt (eqU x) d (λw e=>Ų f i r c w (by simpa using e)) ⟨.bl _,H,I,rfl,?_⟩;rw[show a.toArray.any (eqU x)=a.any (eqU x) by simp,ycy r c];exact q
def yr:j3 X (.builtin "len") (λxs H Q=>∃p ys,xs=[.ref p]/\(SqL X.K H p ys\/SqT X.K H p ys)/\Q (.int ys.length) H):=by
 intro f s σ H xs k Q I r h;let⟨p,ys,rfl,b,q⟩:=h;let⟨u,rfl,g⟩:=ħ r;cases g;have j:=ybq;rcases b with b|b
 .obtain⟨e,d,c,i⟩:=I.list b;have a:=d.length;exact Calls.call_len_list c.isList (by simp only[cF]<;>omega) ⟨.int ys.length,H,I.tok _,⟨s.toks+1,by rw[cF,a]⟩,q⟩
 .obtain⟨e,d,c,i⟩:=I.tuple b;have a:=d.length;exact len_tuple c (by simp only[cF]<;>omega) ⟨.int ys.length,H,I.tok _,⟨s.toks+1,by rw[cF,a]⟩,q⟩
def u9:j3 X (.builtin "len") (λxs H Q=>∃z,xs=[.str z]/\z.length<=sizeLine/\Q (.int z.length) H):=by intro a s σ H xs d Q I r h;let⟨z,rfl,b,q⟩:=h;let⟨u,rfl,t,rfl⟩:=ħ r;have c:=ybq;exact len_str () ⟨.int z.length,H,I.tok _,⟨_,rfl⟩,q⟩
def vj:j3 X (.type "list") (λxs H Q=>∃p ys,xs=[.ref p]/\(SqL X.K H p ys\/SqT X.K H p ys)/\∀l,H l=none->Q (.ref l) (upd H l (.lst ys))):=by
 intro j s σ H xs B Q I r h;let⟨p,ys,rfl,g,q⟩:=h;let⟨u,rfl,A⟩:=ħ r;cases A;have m:∀(a:Ο),wo ys a->ys.length<=sizeLine->∀(c:qf)(f:Nat),(∀b o',s.heap.get? b=some o'->c.get? b=some o') ->
   c.get? s.heap.objs.size=some { cls:=.type "list",dict:=none,data:=.seq a.toArray f,slots:=#[]}->EP X j σ Q (.ref s.heap.objs.size) {s with heap:=c}:=λa d t c f k e =>
  ⟨.ref s.heap.objs.size,_,I.laid (t':=s.toks) k (cq _) (show w8 X.prog X.w _ c _ (.lst ys)from ⟨t,a,f,d,e⟩),rfl,q _ (I.hok.fresh (cq _))⟩
 rcases g with g|g
 .obtain⟨a,d,v,t⟩:=I.list g;have i:=d.length;let⟨o,y,x,n,z⟩:=v.isList;exact call_list_seq p (.inl rfl) y x z (λc f k e=>m a d t c f k e) (by simp only[cF]<;>omega)
 .obtain⟨a,d,v,t⟩:=I.tuple g;have i:=d.length;let⟨o,y,x,n,z⟩:=v;exact call_list_seq p (.inr rfl) y x z (λc f k e=>m a d t c f k e) (by simp only[cF]<;>omega)
def È:j3 X (.type "tuple") (λxs H Q=>∃p ys,xs=[.ref p]/\((SqL X.K H p ys/\∀l,H l=none->Q (.ref l) (upd H l (.tup ys)))\/(SqT X.K H p ys/\Q (.ref p) H))):=by
 intro a s σ H xs x Q I r h;let⟨p,ys,rfl,h⟩:=h;let⟨u,rfl,n⟩:=ħ r;cases n;rcases h with⟨g,q⟩|⟨g,q⟩
 .obtain⟨c,i,f,k⟩:=I.list g;have j:=i.length;refine call_tuple_list f.isList (λd t=>?_) (by simp only[cF]<;>omega);have m:Inv X a σ H {s with heap:=d}:=I.kept (t':=s.toks) t
  have v:Inv X a σ (upd H d.objs.size (.tup ys)) {s with heap:=d.push { cls:=.type "tuple",data:=.seq c.toArray} } :=
   m.laid (t':=s.toks) (λb o e=>ck _ e) (cq _) (show w8 X.prog X.w _ _ _ (.tup ys)from ⟨k,c,i,IsTup.new _ _⟩)
  exists .ref d.objs.size,_,v,rfl,q _ (m.hok.fresh (cq _))
 .obtain⟨c,i,f,k⟩:=I.tuple g;exact call_tuple_same f ⟨.ref p,H,I,rfl,q⟩
def tyV(K:z3)(T:String)(x:V)(H:Hp):Prop:=match x with
 | .str _=>T="str"
 | .int _=>T="int"
 | .ref p=>(T="list"/\∃xs,SqL K H p xs)\/(T="tuple"/\∃o,K.lookup p=some o/\o.cls=.type "tuple"/\o.dict=none) \/
   (T="dict"/\((∃kvs,H p=some (.dK kvs))\/∃kvs,H p=some (.dT kvs)))\/(T="set"/\∃S n,H p=some (.set S n))
 |_=>False
def you{pins:Θ}{σ:St}{H:Hp}{s:qa}{T:String}{x:V}(I:Inv X pins σ H s)(r:xj x v)(ty:tyV X.K T x H):
  s.TypeIs v T/\∀a,v=.ref a->∃ob,s.heap.get? a=some ob/\ob.dict=none:=by
 cases x with
 |str z =>
  let⟨t,rfl⟩:=r;cases (show T="str" from ty)
  exists typeIs_str s z t,λZ e=>nomatch e
 |int i =>
  let⟨t,rfl⟩:=r;cases (show T="int" from ty)
  exists typeIs_int s i t,λZ e=>nomatch e
 |ref p =>
  cases r;rcases ty with⟨rfl,q,k⟩|⟨rfl,o,b,m,h⟩|⟨rfl,b⟩|⟨rfl,S,n,b⟩
  .obtain⟨l,_,j,_⟩:=I.list k;exists j.isList.typeIs,λa e=>?_;cases e;let⟨o,n,e,c,h,_⟩:=j;exact⟨o,e,h⟩
  .exists⟨o,I.kIn p o b,m⟩,λa e=>?_;cases e;exists o,I.kIn _ o b,h
  .have z:∃o,s.heap.get? p=some o/\o.ExactDict:=by
    rcases b with⟨f,b⟩|⟨f,b⟩
    .obtain⟨_,_,_,_,o,_,_,e,d,_⟩:=I.hok p _ b;exact⟨o,e,d⟩
    .obtain⟨_,_,_,_,o,_,_,e,d,_⟩:=I.hok p _ b;exact⟨o,e,d⟩
   let⟨o,e,d⟩:=z;exists⟨o,e,d.1⟩,λa g=>?_;cases g;exact⟨o,e,d.2.1⟩
  .obtain⟨o,_,_,_,e,d,_⟩:=I.hok p _ b;exists⟨o,e,d.1⟩,λa g=>?_;cases g;exact⟨o,e,d.2.1⟩
 |_=>exact False.elim ty
def vgu(K:z3)(T:String)(r:V->qi V->Hp->VK->Prop)(to:TE):TE:=λσ H Q=>to σ H λx H1=>tyV K T x H1/\r x [] H1 Q
def tBM(K:z3)(T:String)(r:V->qi V->Hp->VK->Prop)(to:TE)(t:TA):TE:=λσ H Q=>to σ H λx H1=>tyV K T x H1/\t σ H1 λxs H2=>r x xs H2 Q
variable{o e:qg}{es:qi qg}{to:TE}{t:TA}{name:Str}{apos cpos:Pos}{T id:String}{r:V->qi V->Hp->VK->Prop}
def yei(pa:PlainAttrs T)(slot:Slot T name id)(hty:typeOf (.builtin id)=pure (.type "method_descriptor"))(hm:MtR X id r)(ho:PE X o to)
  (hbase:attributeBase o name X.env (eval o X.env)=eval o X.env:=by rfl) (hline:(apos.endLine == cpos.line)=true:=by rfl):PE X (.Call (.Attribute o name apos) [] [] cpos) (vgu X.K T r to):=by refine .mk λa s σ H Q I h=>?_;refine wpAny_Call_method0_late hbase hline (thn (ho a s σ H _ I h) λv e h'=>?_);let⟨x,g,c,b,f,i⟩:=h';let⟨d,j⟩:=you c b f;exists T,id,pa,slot,hty,d,j,Calls.callWith_builtin rfl (PySem.evalArgs_none (hm a e σ g x [] v [] Q c b .nil i))
def ji(pa:PlainAttrs T)(slot:Slot T name id)(hty:typeOf (.builtin id)=pure (.type "method_descriptor"))(hm:MtR X id r)(ho:PE X o to)(ha:PA X (e::es) t)
  (hbase:attributeBase o name X.env (eval o X.env)=eval o X.env:=by rfl)
  (hfew:((backTo cpos (starEach (e::es) X.env)).all (λx=>!x.1) && (backToKw cpos (keywordEach [] X.env)).all (λx=>x.1.isSome)
   && decide ((e::es).length+([]:qi Keyword).length+(if ([]:qi Keyword).isEmpty then 0 else 1)<30))=true:=by rfl)
  (hline:(apos.endLine == cpos.line)=true:=by rfl) (hs:starEach (e::es) X.env=(false,eval e X.env)::starEach es X.env:=by rfl) (hplain:(backTo cpos (starEach es X.env)).any (·.1)=false:=by rfl):
  PE X (.Call (.Attribute o name apos) (e::es) [] cpos) (tBM X.K T r to t):=by refine .mk λa s σ H Q I h=>?_;refine wpAny_Call_method_late hbase hfew hline rfl (thn (ho a s σ H _ I h) λv j h'=>?_);let⟨x,k,d,b,p,w⟩:=h';let⟨i,y⟩:=you d b p;exists T,id,pa,slot,hty,i,y,?_;have c:=ha cpos a j σ k _ d w;rw[hs]at c⊢;refine Calls.callWith_builtin (by show (false || (backTo cpos (starEach es X.env)).any (·.1))=false;rw[hplain]<;>rfl) (Calls.evalArgs_plain ?_);exact thn c λn g ⟨m,f,l,u,q⟩=>hm a g σ f x m v n Q l b u q
end
def MtM(X:Cx)(id:String)(r:V->qi V->Hp->VK->Prop):Prop :=
 ∀(pins:Θ)(s:qa)(σ:St)(H:Hp)(x:V)(xs:Υ)(v:qb)(us:Ο)(Q:VK),Inv X pins σ H s->xj x v->wo xs us->r x xs H Q ->
  wpAny (model X.prog X.w) X.A (call (.builtin id) (v::us)) (EP X pins σ Q) X.xe s
def wo.one{x:V}(h:wo [x] us):∃u,us=[u]/\xj x u:=by
 cases h with
 |cons r t=>cases t;exists _,rfl,r
theorem wo.zero:∀{us:Ο},wo [] us->us=[]
 |_,.nil=>rfl
theorem wo.reverse{xs:Υ}(h:wo xs us):wo xs.reverse us.reverse:=by
 induction h with
 |nil=>exact .nil
 |cons r t ih=>rw[List.reverse_cons,List.reverse_cons];exact wo.append ih (.cons r .nil)
theorem wo.rep{xs:Υ}(h:wo xs us):∀k:Nat,wo (List.replicate k xs).flatten (List.replicate k us).flatten
 |0=>.nil
 |k+1=>by
  rw[dw,dw,List.flatten_cons,List.flatten_cons];exact wo.append h (wo.rep h k)
theorem ya1(its:Ο):∀(k:Nat)(acc:Ο),
  List.foldl (λx1 x2=>x1++x2) acc.toArray (List.replicate k its.toArray)=(acc++(List.replicate k its).flatten).toArray
 |0,acc=>by simp
 |k+1,acc=>by
  have e:acc.toArray++its.toArray=(acc++its).toArray:=by simp
  have a:(acc++its)++(List.replicate k its).flatten=acc++(List.replicate (k+1) its).flatten:=by
   rw[dw,List.flatten_cons,cY]
  rw[<- a,<- ya1 its k (acc++its),<- e,dw,List.foldl_cons]
section
variable{X:Cx}{pins:Θ}{σ:St}{H:Hp}{s:qa}{l b:z4}{xs ys zs:Υ}
def Inv.lset{its its':Ο}{n:Nat}{f:Array qb->Array qb}{t':Nat}(I:Inv X pins σ H s)(hH:H l=some (.lst xs))
  (e:s.heap.get? l=some { cls:=.type "list",data:=.seq its.toArray n}) (hf:f its.toArray=its'.toArray) (hv:wo ys its') (hz:ys.length<=sizeLine):
  Inv X pins σ (upd H l (.lst ys)) {s with heap:=s.heap.update l (Obj.mapSeq f),toks:=t'}:=by have q:=PySem.IsL.update e f;rw[hf]at q;refine I.write (x:=l) (e:=l) (by rw[hH];exact trivial) (.inl rfl) (λc u a b=>(Heap.get?_update_other s.heap (Obj.mapSeq f) (Ne.symm a)).trans b) ⟨_,q⟩ ?_;exists hz,its',_,hv,q
def Inv.lnew{its:Ο}{t':Nat}(I:Inv X pins σ H s)(hv:wo ys its)(hz:ys.length<=sizeLine):
  Inv X pins σ (upd H s.heap.objs.size (.lst ys)) {s with heap:=s.heap.push { cls:=.type "list",data:=.seq its.toArray},toks:=t'} :=
 I.laid (λZ Z q=>ck _ q) (cq _) ⟨hz,its,0,hv,cD _ rfl⟩
theorem Inv.fresh(I:Inv X pins σ H s):H s.heap.objs.size=none:=I.hok.fresh (cq _)
def Inv.lstM(I:Inv X pins σ H s)(hH:H l=some (.lst xs)):xs.length<=sizeLine/\∃(its:Ο)(n:Nat),wo xs its/\xs.length=its.length/\s.heap.get? l=some { cls:=.type "list",data:=.seq its.toArray n}:=by let⟨z,its,n,r,e⟩:=I.hok l _ hH;exists z,its,n,r,r.length,e
def ydv{n:Nat}(h:n<=sizeLine):Builtin.List.listTooLong n=false:=by unfold Builtin.List.listTooLong;exact cH ()
end
section
variable{X:Cx}
def yjf:V->qi V->Hp->VK->Prop:=λx vs H Q=>∃l xs y,x=.ref l/\vs=[y]/\H l=some (.lst xs)/\xs.length<sizeLine/\Q .non (upd H l (.lst (xs++[y])))
def w6:MtM X "list.append" yjf:=by intro c s σ H x j v k Q I d g h;let⟨l,i,y,rfl,rfl,b,o,q⟩:=h;cases d;let⟨u,rfl,f⟩:=g.one;let⟨z,a,n,r,m,e⟩:=I.lstM b;refine call_meets F.slot_list_append ⟨_,e,rfl⟩ F.entry_list_append (F.args_list_append_2 _ _) (PySem.list_append l a.toArray n u (by rw[cF];omega)) ⟨e,?_⟩;exists .non,_,I.lset (its':=a++[u]) b e (by simp) (r.append (.cons f .nil)) ?_,rfl,q;rw[cj,dm];omega
def yrr:V->qi V->Hp->VK->Prop:=λx vs H Q=>∃l b xs zs,x=.ref l/\vs=[.ref b]/\H l=some (.lst xs)/\H b=some (.lst zs)/\xs.length+zs.length<=sizeLine/\Q .non (upd H l (.lst (xs++zs)))
def É:MtM X "list.extend" yrr:=by
 intro i s σ H x E v B Q I j p h;let⟨l,b,J,G,rfl,rfl,g,t,D,q⟩:=h;cases j;let⟨u,rfl,w⟩:=p.one;cases w;let⟨z,c,n,r,C,e⟩:=I.lstM g;let⟨A,a,o,y,k,m⟩:=I.lstM t;have f:c.toArray.size+a.toArray.size<=sizeLine:=by rw[cF,cF];omega
 have d:¬(!c.toArray.isEmpty && Builtin.List.listTooLong (c.toArray.size+a.toArray.size))=true:=by
  rw[ydv f,Bool.and_false];exact cI
 refine call_meets F.slot_list_extend ⟨_,e,rfl⟩ F.entry_list_extend (F.args_list_extend_2 _ _)
  (AutoSeq1.list_extend_list_list_0 l c.toArray n b a.toArray o d (by rw[cF];omega) ()) ⟨e,m,?_⟩
 exists .non,_,I.lset (its':=c++a) g e (by simp) (r.append y) ?_,rfl,q;rw[cj];omega
def ydi:V->qi V->Hp->VK->Prop:=λx vs H Q=>∃l xs,x=.ref l/\vs=[]/\H l=some (.lst xs)/\Q .non (upd H l (.lst xs.reverse))
def Ļ:MtM X "list.reverse" ydi:=by intro d s σ H x j v k Q I f g h;let⟨l,i,rfl,rfl,c,q⟩:=h;cases f;have b:=g.zero;subst b;let⟨z,a,n,r,m,e⟩:=I.lstM c;refine call_meets F.slot_list_reverse ⟨_,e,rfl⟩ F.entry_list_reverse (F.args_list_reverse_1 _) (AutoSeq1.list_reverse_list_0 l a.toArray n (by rw[cF];omega)) ⟨e,?_⟩;exists .non,_,I.lset (its':=a.reverse) c e (by simp) r.reverse ?_,rfl,q;rw[List.length_reverse];omega
def vbo:V->qi V->Hp->VK->Prop:=λx vs H Q=>∃l xs,x=.ref l/\vs=[]/\H l=some (.lst xs)/\Q .non (upd H l (.lst []))
def yml:MtM X "list.clear" vbo:=by intro d s σ H x j v k Q I f g h;let⟨l,i,rfl,rfl,c,q⟩:=h;cases f;have b:=g.zero;subst b;let⟨z,a,n,r,m,e⟩:=I.lstM c;refine call_meets F.slot_list_clear ⟨_,e,rfl⟩ F.entry_list_clear (F.args_list_clear_1 _) (AutoSeq1.list_clear_list_0 l a.toArray n (by rw[cF];omega)) ⟨e,?_⟩;exists .non,_,I.lset (its':=[]) (ys:=[]) c e rfl .nil (cP _),rfl,q
def vhg:R2:=λx y H Q=>∃l b xs zs,x=.ref l/\y=.ref b/\H l=some (.lst xs)/\H b=some (.lst zs)/\xs.length+zs.length<=sizeLine/\∀p,H p=none->Q (.ref p) (upd H p (.lst (xs++zs)))
def Ö:OpR X (binaryOp .Add) vhg:=by
 intro d s σ H x y v u Q I f m h;let⟨l,b,w,t,rfl,rfl,j,g,C,q⟩:=h;cases f;cases m;let⟨z,c,n,r,B,e⟩:=I.lstM j;let⟨A,a,D,p,k,o⟩:=I.lstM g;refine PySem.P.add_list e o ?_ (by rw[cF,cF];omega);have i:c.toArray++a.toArray=(c++a).toArray:=by simp
 rw[i];exists .ref _,_,I.lnew (t':=s.toks) (r.append p) (by rw[cj];omega),rfl,q _ I.fresh
def vhd:R2:=λx y H Q=>∃l k xs,x=.ref l/\y=.int k/\H l=some (.lst xs)/\-(2^63)<=k/\k<2^63/\xs.length*k.toNat<=sizeLine/\
 ∀p,H p=none->Q (.ref p) (upd H p (.lst (List.replicate k.toNat xs).flatten))
def yrq{α:Type}(xs:qi α)(k:Nat):(List.replicate k xs).flatten.length=k*xs.length:=by
 induction k with
 |zero=>simp
 |succ k ih=>rw[dw,List.flatten_cons,cj,ih,Nat.succ_mul,Nat.add_comm]
def vaa:OpR X (binaryOp .Mult) vhd:=by
 intro w s σ H x y v u Q I C J h;let⟨l,k,L,rfl,rfl,D,A,B,p,q⟩:=h;cases C;let⟨t,rfl⟩:=J;let⟨z,b,n,r,E,e⟩:=I.lstM D;have g:b.toArray.size*k.toNat<=sizeLine:=by rw[cF,<- E];exact p
 have f:¬b.toArray.size*k.toNat > (2^63-1)/8:=by
  have:(sizeLine:Nat)<=(2^63-1)/8:=∅
  omega
 have d:¬(!Builtin.List.listFitsIndex k)=true:=by
  rw[fitsIndex_both A B];exact cI
 have c:¬Builtin.List.listTooLong (b.toArray.size*k.toNat)=true:=by
  rw[ydv g];exact cI
 have i:List.foldl (λj o=>j++o) #[] (List.replicate (if b.toArray.isEmpty=true then 0 else k.toNat) b.toArray)=(List.replicate k.toNat b).flatten.toArray:=by
  have K:∀m:Nat,List.foldl (λj o=>j++o) #[] (List.replicate m b.toArray)=(List.replicate m b).flatten.toArray:=λm=>by
   have:=ya1 b m [];rw[List.nil_append]at this;exact this
  rw[K]
  cases b with
  |nil=>simp
  |cons a r'=>rw[if_neg (by simp)]
 refine wpAny_binaryOp_repeat_ref (T:="list") (U:="int") ∅ ⟨_,e,rfl⟩ (λG=>typeIs_int G k t) noFill_list_mul F.fills_int_mul F.slot_int_rmul repeat_list F.slot_int_index.lookup
  (call_meets F.slot_int_rmul (typeIs_int s k t) F.entry_int_rmul (F.args_int_rmul_2 _ _) (int___rmul___int_list k t l b.toArray n)
   ⟨e,rfl,⟨_,e,rfl⟩,call_meets F.slot_list_mul ⟨_,e,rfl⟩ F.entry_list_mul (F.args_list_mul_2 _ _) (AutoListH.list___mul___list_int_3 l b.toArray n k t d f c) ⟨e,?_⟩⟩)
 rw[i];exists .ref _,_,I.lnew (t':=s.toks) (r.rep k.toNat) (by rw[yrq,Nat.mul_comm];exact p),rfl,q _ I.fresh
end
end L2
namespace Att
open PySem PySem.W PySem.Calls PyProof.Rows
def ĉ{P:Params}{h:qf}:∀(ns:Ρ)(vs:Ο),WellAll P h vs (ns.map WData.int)->IntsAre vs ns:=by
 intro ns
 induction ns with
 |nil =>
  intro vs w;rw[List.map_nil]at w;cases w;exact .nil
 |cons n ns ih =>
  intro vs w;rw[db]at w
  cases w with
  |cons a b =>
   cases a;exact .cons _ _ (ih _ b)
def yia{l:OpenLaw}{n:Nat}(hn:l.most=some n){P:Params}{h:qf}{args:qi WData}{vals:Ο}
  (hpre:l.row.toRowW.claim.pre args=true) (hwl:WellAll P h vals args):
  ∃a vs ns,vals=[Value.ref a]/\args=[WData.list (ns.map WData.int)]/\h.get? a=some { cls:=.type "list",data:=.seq vs.toArray}/\IntsAre vs ns/\ns.length<=n:=by
 have f:WShape.hasAll [] args [.list .int]=true:=(pre_splitW hpre).1;have g:l.pre.holds [] { args:=args}=true:=(pre_splitW hpre).2;let⟨d,r,rfl,j,m⟩:=hasAllW_cons f;obtain rfl:=hasAllW_nil m;let⟨o,rfl,k⟩:=hasW_list j;let⟨ns,rfl⟩:=items_int k
 have b:ns.length<=n:=by
  unfold OpenLaw.pre at g
  have e:(WTm.not (.lt (.lit (.int (n:Int))) (.len (.arg 0)))).holds [] { args:=[.list (ns.map .int)]}=true:=by
   have e:=(holds_andW g).1;rw[hn]at e;exact e
  have c:=condW_of e (w_not (w_lt w_lit (w_len_list (w_arg rfl))));rw[bI]at c;refine Nat.le_of_not_lt λq=>?_;have i:(n:Int)<((ns.length:Nat):Int):=()
  first
   |(rw[cz i]at c;exact absurd c ∅)
   |(simp at c;omega)
 cases hwl with
 |cons w1 w2 =>
  cases w2
  cases w1 with
  |list ho hall=>exists _,_,ns,rfl,rfl,ho,ĉ ns _ hall,b
def yib(l:OpenLaw)(args:qi WData):l.row.toRowW.claim.post args (.bool true) args=true :=
 postW_of (r:=l.row.toRowW) (X:=(true == true))
  (show WShape.has [] (.bool true) .bool=true by first|rfl|decide|simp[WShape.has,WShape.arms,WShape.armsAll])
  (show (WTm.eq .res (.lit (.bool true))).value [] { args:=args,res:=some (.bool true),after:=args}=some (.bool (true == true))from w_eq_bool (w_res rfl) w_lit) rfl
def attach_call{l:OpenLaw}{n:Nat}{q:qh}{loose:Τ}{XP:(Ε)->qf->Prop}{YP:qd->qf->Prop}{d:DefRec}
  (hn:l.most=some n) (hdf:d.params.defaults=[])
  (call:∀(w:qd)(s₀ s₁:qa)(mg mb:Ε)(fa:z4)(o:Obj)(pm cd doc:qb)(a:z4)(vs:Ο)(ns:Ρ),
   Ground q loose [] XP w s₀ mg mb s₁.heap->YP w s₁.heap ->
   s₁.heap.get? fa=some o->o.data=.func (docDef d.name d.params d.body d.scope pm cd doc)->s₁.heap.CodeRec cd d.name->mg d.name=some (.ref fa) ->
   s₁.heap.get? a=some { cls:=.type "list",data:=.seq vs.toArray}->IntsAre vs ns->ns.length<=n->s₁.gens=#[] ->
   codeAny (model l.prog w) callerA (.call (.ref fa) ⟨[.ref a],[]⟩) (λr s'=>r=.ok (.ret (.bool true))/\OldK s₁.heap s'.heap/\s'.os=s₁.os/\AllBare s'.gens) s₁):
  WalkO q loose XP YP l.row.toRowW d [] (λf vs=>PySem.call f vs):=by
 intro w s₀ s₁ mg mb G Y fa o pm cd doc u kV v x j t i D p k H c m B h A;obtain rfl:u=.none:=Dflts.none t hdf;obtain rfl:kV=.none:=Dflts.noKw t;let⟨a,vs,ns,rfl,rfl,g,b,e⟩:=yia hn c h;refine enter_call (codeAny_mono (call w s₀ s₁ mg mb fa o pm cd doc a vs ns G Y v (fd_plain x) j i g b e D) λr s' C=>?_);let⟨rfl,y,F,E⟩:=C
 exists .inl ⟨.bool true,.bool true,[],rfl,λZ=>rfl,.bool true,yib l _,λZ=>⟨List.Pairwise.nil,λZ z=>(nomatch z)⟩⟩,y,F,E
section
variable{prog:qh}{w:qd}{A:qe}{E:Δ}{s:qa}{K:Frag}
def vf6(h:qf)(L d:z4):Θ:=(List.range h.objs.size).filterMap λa=>if a=L\/a=d then none else (h.get? a).map λo=>(a,o)
end
end Att
namespace L2
open PySem PySem.Spec PyProof.Rows
variable{C a:z4}{fd:FuncData}{st:qc}{qual:Str}{T:String}
theorem ya7:∀{vs:Ο}{ns:Ρ},IntsAre vs ns->wo (ns.map V.int) vs
 |_,_,.nil=>.nil
 |_,_,.cons n t h=>.cons ⟨t,rfl⟩ (ya7 h)
def vfu(H:Hp):Prop:=∀b,H b=none\/∃o xs,H b=some (.frz o (.lst xs))
def ym5{P:qh}{w:qd}{K:z3}{mg mb:Ε}{CX:CXT}{k:Nat}{fa:z4}{x:Str}{sp:Sp}{s₁:qa}{vs:Ο}{ns:Ρ}
  (KX:K.In s₁.heap) (hns:s₁.heap.Ns mainGlobals mg) (hb:s₁.heap.Ns builtinsNs mb) (hbb:∀x:Str,x≠"__name__"->mb x=bootBuiltins x) (hlim:s₁.heap.NoLimit) (hg:s₁.gens=#[])
  (ha:s₁.heap.get? a=some { cls:=.type "list",data:=.seq vs.toArray}) (hi:IntsAre vs ns) (hl:ns.length<=sizeLine) (hr:jp k callerA)
  (F:∀base:qf,K.In base->base.Ns mainGlobals mg->vq P w K mg base CX k fa fd [x] sp) (hbind:∀(s:qa)(u:qb),BindsTo s fd ⟨[u],[]⟩ [(x,u)])
  (hsp:∀H:Hp,vfu H->SqL K H a (ns.map V.int)->sp [.ref a] H (λv W=>v=.bl true) λW W W=>False)
  (hCX:∀H e s',CX [] H s₁ (λW W W=>False) e s'->False):
  codeAny (model P w) callerA (.call (.ref fa) ⟨[.ref a],[]⟩) (λr s'=>r=.ok (.ret (.bool true))/\OldK s₁.heap s'.heap/\s'.os=s₁.os/\AllBare s'.gens) s₁:=by
 have I:=ya7 hi;have t:=hi.length;have g:∀H:Hp,vfu H->SqL K H a (ns.map V.int)->HOk P w H s₁.heap->(∀b,H b≠none->b=a)->(H a≠none->K.lookup a=none) ->
   codeAny (model P w) callerA (.call (.ref fa) ⟨[.ref a],[]⟩) (λr s'=>r=.ok (.ret (.bool true))/\OldK s₁.heap s'.heap/\s'.os=s₁.os/\AllBare s'.gens) s₁:=by
  intro H E U A J O;have c:∀{b:z4}{o:Obj},s₁.heap.get? b=some o->H b=none->(yn2 s₁.heap H).get? b=some o:=λe n=>ymn e n
  have D:∀{b:z4}{o:Obj}{B:Array DictEntry}{p:Nat},s₁.heap.get? b=some o->o.data=.dict B p->H b=none:=λ{b o B p}e d=>by
   cases q:H b with
   |none=>rfl
   |some u =>
    have C:b=a:=J b (by rw[q];simp);subst C;rw[ha]at e;cases e;have Q:Data.seq vs.toArray _=Data.dict B p:=d;cases Q
  have f:∀{b:z4}{m:Ε},s₁.heap.Ns b m->(yn2 s₁.heap H).Ns b m:=λ{b m} ⟨o,B,p,e,d,r⟩=>⟨o,B,p,c e (D e d),d,r⟩
  have l:K.In (yn2 s₁.heap H):=λb o e=>c (KX b o e) (by
   cases q:H b with
   |none=>rfl
   |some u =>
    have C:b=a:=J b (by rw[q];simp);subst C;rw[O (by rw[q];simp)]at e;cases e)
  have N:Mod K mg (yn2 s₁.heap H):=⟨l,f hns,⟨mb,f hb,hbb⟩,let ⟨mc,h1,h2⟩:=hlim;⟨mc,f h1,h2⟩⟩;have Y:yw8 P w K mg (yn2 s₁.heap H) callerA [] s₁ H:=⟨rfl,N,λb o e=>yta e,Nat.le_of_eq (yhz _ _),trivial,λb hb=>absurd (show b∈([]:Χ)from hb) (by simp),A,.of_eq hg⟩;refine codeAny_mono ((F _ l (f hns)).run callerA [] s₁ H ⟨[.ref a],[]⟩ [.ref a] [.ref a] _ _ hr Y (hbind s₁ (.ref a)) (.cons rfl .nil) (hsp H E U)) λr s' h=>?_
  cases r with
  |error e=>exact(hCX H e s' h).elim
  |ok fl =>
   cases fl with
   |next=>exact False.elim h
   |brk=>exact False.elim h
   |cont=>exact False.elim h
   |ret u =>
    let⟨v,Z,os,j,G,y,S,q⟩:=h;have M:v=.bl true:=q;subst M;obtain rfl:u=Value.bool true:=S;exists rfl,OldK.of_keep λb o e=>?_,os,j
    cases q:H b with
    |none=>exact G.keep b o e q (by intro z;exact absurd (show b∈([]:Χ)from z) (by simp)) (by simp)
    |some u =>
     rcases E b with z|⟨X,xs,z⟩
     .rw[q]at z;cases z
     .have R:=G.frzs b X _ z;let⟨L,_⟩:=A b _ z;let⟨T,_⟩:=y b _ R;rw[e]at L;cases L;exact T
 cases hk:K.lookup a with
 |some o =>
  have e:=KX a o hk;rw[ha]at e;cases e;refine g (λW=>none) (λW=>.inl rfl) (.inr ⟨_,vs.toArray,_,hk,rfl,rfl,rfl,by rw[cF,t];exact hl,by simpa using I⟩) (λb u z=>by have i:(none:qj HO)=some u:=z;cases i) (λb z=>absurd rfl z) λz=>absurd rfl z
 |none =>
  refine g (λb=>if b=a then some (.frz { cls:=.type "list",data:=.seq vs.toArray} (.lst (ns.map V.int)))else none) (λb=>?_) (.inl (.inr ⟨{ cls:=.type "list",data:=.seq vs.toArray},if_pos rfl⟩)) (λb u z=>?_) (λb z=>?_) λW=>hk
  .by_cases hb:b=a
   .exact .inr ⟨_,_,if_pos hb⟩
   .exact .inl (if_neg hb)
  .by_cases hb:b=a
   .have i:=(if_pos hb).symm.trans z;cases i;subst hb;exists ha,by rw[bI];exact hl,vs,_,I,ha
   .have i:=(if_neg hb).symm.trans z;cases i
  .by_cases hb:b=a
   .exact hb
   .exact absurd (if_neg hb) z
def walk_of{l:W.OpenLaw}{n k:Nat}{q:qh}{loose:Τ}{XP:(Ε)->qf->Prop}{YP:qd->qf->Prop}{d:DefRec}{K:Params->z3}{CX:qd->CXT}{sp:qd->Sp}{x:Str}
  (hn:l.most=some n) (hn2:n<=sizeLine) (hdf:d.params.defaults=[]) (hr:jp k callerA)
  (hY:∀(w:qd)(h:qf),YP w h->(K w.params).In h)
  (F:∀(w:qd)(mg:Ε)(fa:z4)(h:qf),(K w.params).In h->h.Ns mainGlobals mg->mg d.name=some (.ref fa) ->
   ∃fd:FuncData,(∀(s:qa)(u:qb),BindsTo s fd ⟨[u],[]⟩ [(x,u)])/\
    ∀base:qf,(K w.params).In base->base.Ns mainGlobals mg->vq l.prog w (K w.params) mg base (CX w) k fa fd [x] (sp w))
  (hsp:∀(w:qd)(H:Hp)(a:z4)(ns:Ρ),ns.length<=n->vfu H->SqL (K w.params) H a (ns.map V.int)->sp w [.ref a] H (λv Z=>v=.bl true) λZ Z Z=>False)
  (hCX:∀(w:qd)(H:Hp)(s:qa)(e:qb)(s':qa),CX w [] H s (λZ Z Z=>False) e s'->False):
  W.WalkO q loose XP YP l.row.toRowW d [] (λf vs=>PySem.call f vs):=by refine Att.attach_call hn hdf λw s₀ s₁ mg E fa o D I r a vs ns G Y J L A m j i c z=>?_;have p:=hY w _ Y;let⟨fd,B,t⟩:=F w mg fa _ p G.T.g m;exact ym5 p G.T.g G.T.b G.T.builtins G.T.nolimit z j i (de c hn2) hr t B (λH C y=>hsp w H a ns c C y) λH e s'=>hCX w H s₁ e s'
def yq(s:qc)(j:Nat):qc:=match s with
 | .ClassDef _ _ _ body _ _ _ _ _ _ _=>body.getD j (.Pass ⟨0,0,0,0⟩)
 |_=>.Pass ⟨0,0,0,0⟩
def xa(s:qc):Arguments:=match s with
 | .FunctionDef _ a _ _ _ _ _ _ _ _=>a
 |_=>{ posonlyargs:=[],args:=[],vararg:=none,kwonlyargs:=[],kw_defaults:=[],kwarg:=none,defaults:=[]}
def wu(s:qc):qi qc:=match s with
 | .FunctionDef _ _ b _ _ _ _ _ _ _=>b
 |_=>[]
def yd(s:qc):Scope:=match s with
 | .FunctionDef _ _ _ _ _ _ sc _ _ _=>sc
 |_=>{ kind:=.function,names:=[],isGenerator:=false,isCoroutine:=false}
abbrev CX0:CXT:=λZ Z Z Z Z Z=>False
abbrev E0:XK:=λZ Z Z=>False
def vh{X:Cx}:õ CX0 X E0:=λZ Z Z Z Z Z Z h=>h.elim
structure Fun(K:z3)(x qual:Str)(st:qc)(f:z4)(fd:FuncData):Prop where
 ex:∃(oc:qb)(od:qj z4)(kV doc pm:qb)(an:qj z4)(cdv ct:qb)(osl:Array (qj qb)),
  fd=W.fnOf x qual (xa st) (wu st) (yd st) .none kV doc pm an cdv ct/\K.lookup f=some ⟨oc,od,.func fd,osl⟩/\W.codeIn K cdv qual=true
 kp:W.keepIn K (.ref f)=true
section
variable{P:qh}{w:qd}{K:z3}{mg:Ε}{base:qf}
def Fun.ok{x:Str}{f:z4}{N ps:Τ}{k:Nat}{sp:Sp}(F:Fun K x qual st f fd)(S:yi N ps (yd st))(len:∀vs H Q E,sp vs H Q E->vs.length=ps.length)
  (hbody:∀(cdv:qb)(A:qe)(outer:qi Env)(s:qa)(H:Hp)(vs:Υ)(Q:VK)(E:XK),jp k (A.deeper (envOfC qual (yd st) s.heap.objs.size f cdv))->sp vs H Q E ->
   ∃t,PSs (vv CX0 P w K mg base N qual (yd st) f cdv A outer s H E).nox (wu st) t/\t { nx:=λZ H'=>Q .non H',rt:=Q} (ù N vs) H):vq P w K mg base CX0 (k+1) f fd ps sp:=by let⟨l,i,kV,d,m,n,cdv,j,c,rfl,e,b⟩:=F.ex;refine yvk e b S len λA outer s H vs Q E g a=>?_;let⟨t,h,q⟩:=hbody cdv A outer s H vs Q E g a;exact⟨t,h.nox,q⟩
def Fun.binds{x:Str}{f:z4}{ps:Τ}(F:Fun K x qual st f fd)
  (h:∀(kV doc pm:qb)(an:qj z4)(cdv ct:qb)(us:Ο),us.length=ps.length->bindArgs (W.fnOf x qual (xa st) (wu st) (yd st) .none kV doc pm an cdv ct) ⟨us,[]⟩=pure (ps.zip us)):zr K fd ps []:=by let⟨e,c,kV,doc,pm,an,cdv,ct,a,rfl,d,b⟩:=F.ex;exact .all (h kV doc pm an cdv ct)
def yqb{x:Str}{f:z4}{oc:qb}{od an:qj z4}{osl:Array (qj qb)}{kV doc pm cdv ct:qb}(l:K.lookup f=some ⟨oc,od,.func (W.fnOf x qual (xa st) (wu st) (yd st) .none kV doc pm an cdv ct),osl⟩)
  (c:W.codeIn K cdv qual=true) (k:W.keepIn K (.ref f)=true):Fun K x qual st f (W.fnOf x qual (xa st) (wu st) (yd st) .none kV doc pm an cdv ct):=⟨⟨oc,od,kV,doc,pm,an,cdv,ct,osl,rfl,l,c⟩,k⟩
end
def u7{A:qe}{k:Nat}(hr:jp k A):A.units+1<cLine:=Nat.lt_of_le_of_lt (Nat.add_le_add_left (by decide:1<=64) _) hr.units
section
variable{X:Cx}
def pv(i:Nat){x:Str}{pos:Pos}(hN:X.N[i]?=some x:=by rfl)(hv:Vis X.env.scope x:=by first|exact Or.inl rfl|exact Or.inr (Or.inl rfl)|exact Or.inr (Or.inr rfl))(hd:(x == ("__debug__":Str))=false:=by decide)
  (hcd:(x == ("__classdict__":Str))=false:=by decide):PE X (.Name x pos) (vfz i):=yyx hN hv hd hcd
end
def jq{A B:Prop}(h:B):if false=true then A else B:=by rw[if_neg cI];exact h
def yac{A B:Prop}(h:A):if true=true then A else B:=by rw[if_pos rfl];exact h
def yw(H H':Hp):Prop:=∀b o,H b=some o->H' b=some o
def yw.refl(H:Hp):yw H H:=λZ Z h=>h
def yw.trans{H H1 H2:Hp}(a:yw H H1)(b:yw H1 H2):yw H H2:=λc o h=>b c o (a c o h)
def yw.free{H H':Hp}(e:yw H H'){l:z4}(h:H' l=Option.none):H l=Option.none:=by
 cases q:H l with
 |none=>rfl
 |some o =>
  rw[e l o q]at h;cases h
def yw.seq{K:z3}{H H':Hp}{xs:Υ}(e:yw H H')(h:SqL K H a xs):SqL K H' a xs:=by
 rcases h with(h|⟨o,h⟩)|h
 .exact .inl (.inl (e _ _ h))
 .exact .inl (.inr ⟨o,e _ _ h⟩)
 .exact .inr h
section
variable{X:Cx}
def wt:j3 X (.builtin "isinstance") (λxs H Q=>∃x cv t c k,xs=[x,cv]/\xj cv c/\(∀u,xj cv u->u=c)/\xt X.K H x t/\W.kitOne X.K t c=some k/\Q (.bl k) H):=by intro a s σ H xs l Q I r h;let⟨x,cv,t,c,k,rfl,_,j,g,e,q⟩:=h;let⟨u,d,rfl,b,f⟩:=ywo r;obtain rfl:=j d f;exact yg5 I b g e λi=>⟨.bl k,H,I.tok i,rfl,q⟩
def Ù{x:Str}{pos:Pos}(hg:Gl X x)(hm:X.mg x=none)(hv:bootBuiltins x=some (.type T))(hn:x≠"__name__":=by decide)(hd:(x == ("__debug__":Str))=false:=by decide):PE X (.Name x pos) (tC (.ty T)):=ysh hg hm hv rfl hn hd
def vo{x:Str}{i:Int}{t:Tok}{pos:Pos}(hg:Gl X x)(hm:X.mg x=some (.int i t))(hd:(x == ("__debug__":Str))=false:=by decide):PE X (.Name x pos) (tC (.int i)):=yc3 hg hm ⟨t,rfl⟩ hd
def å{x:Str}{pos:Pos}(hg:Gl X x)(hm:X.mg x=some (.ref C))(hd:(x == ("__debug__":Str))=false:=by decide):PE X (.Name x pos) (tC (.ref C)):=yc3 hg hm rfl hd
mutual
inductive RdV(K:z3)(H:Hp):V->PyData->Prop
 |non:RdV K H .non .none
 |bl (b:_):RdV K H (.bl b) (.bool b)
 |int (i:_):RdV K H (.int i) (.int i)
 |str (x:_):RdV K H (.str x) (.str x)
 |lst {a xs ds:_}:SqL K H a xs->yqz K H xs ds->RdV K H (.ref a) (.list ds)
 |tup {a xs ds:_}:SqT K H a xs->yqz K H xs ds->RdV K H (.ref a) (.tuple ds)
inductive yqz(K:z3)(H:Hp):qi V->qi PyData->Prop
 |nil:yqz K H [] []
 |cons {x xs d ds:_}:RdV K H x d->yqz K H xs ds->yqz K H (x::xs) (d::ds)
end
def RdV.reads{pins:Θ}{σ:St}{H:Hp}{s:qa}(I:Inv X pins σ H s){x:V}{d:PyData}{u:qb}(h:RdV X.K H x d):xj x u->∃as,Reads s.heap u d as:=by
 refine RdV.rec (motive_1:=λx d Z=>∀u,xj x u->∃as,Reads s.heap u d as) (motive_2:=λf e Z=>∀g,wo f g->∃as,ReadsAll s.heap g e as) ?_ ?_ ?_ ?_ ?_ ?_ ?_ ?_ h u
 .intro u r;cases r;exists _,.none
 .intro b u r;cases r;exists _,.bool _
 .intro i u r;let⟨t,rfl⟩:=r;exists _,.int _ _
 .intro i u r;let⟨t,rfl⟩:=r;exists _,.str _ _
 .intro a f e j w l u r;cases r;let⟨p,q,⟨o,n,k,v,D,m⟩,A⟩:=I.list j;let⟨as,c⟩:=l _ q;exists _,.list k v m (by simpa using c)
 .intro a f e j w l u r;cases r;let⟨p,q,⟨o,k,v,n,m⟩,A⟩:=I.tuple j;let⟨as,c⟩:=l _ q;exists _,.tuple k v m (by simpa using c)
 .intro g r;cases r;exists _,.nil
 .intro x f d e h w z y g r
  cases r with
  |cons r rs =>
   let⟨as,c⟩:=z _ r;let⟨C,B⟩:=y _ rs;exists _,.cons c B
def vdu(K:z3)(g:Bool->Bool):R2:=λx y H Q=>∃d e,RdV K H x d/\RdV K H y e/\SeqAt.shaped d=true/\SeqAt.shaped e=true/\Q (.bl (g (PyData.eqv d e))) H
def ypg(hu:X.A.units+64<cLine):OpR X (compareOp .Eq) (vdu X.K λb=>b):=by intro a s σ H x y v u Q I c k h;let⟨d,e,g,m,i,f,q⟩:=h;let⟨n,j⟩:=g.reads I c;let⟨o,l⟩:=m.reads I k;exact eq_dataH j l i f hu ⟨.bl _,H,I,rfl,q⟩
def uk(hu:X.A.units+64<cLine):OpR X (compareOp .NotEq) (vdu X.K λb=>!b):=by intro a s σ H x y v u Q I c k h;let⟨d,e,g,m,i,f,q⟩:=h;let⟨n,j⟩:=g.reads I c;let⟨o,l⟩:=m.reads I k;exact ne_dataH j l i f hu ⟨.bl _,H,I,rfl,q⟩
theorem jr{K:z3}{H:Hp}:∀ns:Ρ,yqz K H (ns.map V.int) (ns.map PyData.int)
 |[]=>.nil
 |n::r=>.cons (.int n) (jr r)
theorem z9:∀ns:Ρ,PyData.canLayAll0 (ns.map PyData.int)=true
 |[]=>rfl
 |_::r=>by simp[PyData.canLayAll0,PyData.canLay0,z9 r]
theorem j7:∀ns:Ρ,PyData.depthAll (ns.map PyData.int)=0
 |[]=>rfl
 |_::r=>by simp[PyData.depthAll,PyData.depth,j7 r]
def ń(ns:Ρ):SeqAt.shaped (.list (ns.map PyData.int))=true:=by simp[SeqAt.shaped,PyData.canLay0,PyData.depth,z9,j7]
theorem z8:∀ns ms:Ρ,PyData.eqvAll (ns.map PyData.int) (ms.map PyData.int)=decide (ns=ms)
 |[],[]=>by simp[PyData.eqvAll]
 |[],_::_=>by simp[PyData.eqvAll]
 |_::_,[]=>by simp[PyData.eqvAll]
 |a::r,b::t=>by
  simp only[db,PyData.eqvAll,PyData.eqv,z8 r t];by_cases h:a=b<;>by_cases h':r=t<;>simp[h,h']
def í{K:z3}{g:Bool->Bool}{H:Hp}{Q:VK}{b:z4}(ns ms:Ρ)(ha:SqL K H a (ns.map V.int))(hb:SqL K H b (ms.map V.int))(h:Q (.bl (g (decide (ns=ms)))) H):vdu K g (.ref a) (.ref b) H Q :=
 ⟨_,_,.lst ha (jr ns),.lst hb (jr ms),ń ns,ń ms,by rw[PyData.eqv,z8];exact h⟩
def vev(_ j:Int):Prop:=0<j/\j<2^200
def vx:OpR X (binaryOp .FloorDiv) (rI vev λi j=>.int (i/j)):=opI λi j Z Z Z Z Z b q=>by
 let⟨c,d⟩:=b;refine floordiv_int () ?_ (.inl (PyProof.noPylong_of_log2 ?_))
 .rw[Int.fdiv_eq_ediv_of_nonneg _ ()];exact q
 .have e:j.natAbs<2^200:=()
  have a:j.natAbs≠0:=()
  have:=(Nat.log2_lt a).mpr e;omega
def vgc(t:TS):TS:=λD σ H=>∃M:Ζ,t {D with nx:=M} σ H/\∀σ' H',M σ' H'->D.nx σ' H'
def Ģ{t:TS}(h:PS X st t):PS X st (vgc t):=by
 refine .mk λa s σ H D I ⟨M,c,e⟩=>?_;refine thn (h a s σ H {D with nx:=M} I c) λf g q=>?_
 cases f with
 |next =>
  let⟨σ',b,d,q⟩:=q;exists σ',b,d,e σ' b q
 |ret v=>exact q
 |brk=>exact q
 |cont=>exact q
end
def wb(nx:Ζ)(σ:St)(H:Hp):Prop:=nx σ H
section
variable{K:z3}{σ:St}{H:Hp}{Q:VK}{QB:Bool->Hp->Prop}{QL:qi V->Hp->Prop}{v x y:V}{i j:Int}{b:Bool}{ta tb tc te:TE}{t u:TS}{tA tB':TT}{tr:TA}{D:Ă}
 {nx bk ct:Ζ} {rt:VK} {A B:Prop}
def yj{N:Τ}{vs:Υ}{σ':St}(e:ù N vs=σ')(h:t D σ' H):t D (ù N vs) H:=by rw[e];exact h
def yw2{k:Nat}(e:σ[k]?=some (some v))(h:Q v H):vfz k σ H Q:=⟨v,e,h⟩
def i_c(h:Q v H):tC v σ H Q:=h
def vg0{r:R2}(h:ta σ H λx H1=>tb σ H1 λy H2=>r x y H2 Q):tOp r ta tb σ H Q:=h
def vg2{r:V->Hp->VK->Prop}(h:ta σ H λx H1=>r x H1 Q):tUn r ta σ H Q:=h
def vg9{g:Int->Int->V}(h:Q (g i j) H):rI0 g (.int i) (.int j) H Q:=⟨i,j,rfl,rfl,h⟩
def i_I{C:Int->Int->Prop}{g:Int->Int->V}(hc:C i j)(h:Q (g i j) H):rI C g (.int i) (.int j) H Q:=⟨i,j,rfl,rfl,hc,h⟩
def i_U{g:Int->V}(h:Q (g i) H):rU g (.int i) H Q:=⟨i,rfl,h⟩
def vfi(h:Q (.bl (decide (i=j))) H):rEq (.int i) (.int j) H Q:=⟨rfl,by
 have e:decide (V.int i=V.int j)=decide (i=j):=by simp
 rw[e];exact h⟩
def vey(h:Q (.bl (!decide (i=j))) H):rNe (.int i) (.int j) H Q:=⟨rfl,by
 have e:decide (V.int i=V.int j)=decide (i=j):=by simp
 rw[e];exact h⟩
def vau(h:ta σ H λx H'=>∃k,x=.bl k/\QB k H'):yw1 ta σ H QB:=h
def vg5(h:ta σ H λx H'=>∃k,x=.bl k/\QB k H'):tB ta σ H QB:=h
def vhl{P:Bool->Prop}(h:P b):∃k,V.bl b=V.bl k/\P k:=⟨b,rfl,h⟩
def yte{r r':R2}(h:ta σ H λx H1=>tb σ H1 λy H2=>r x y H2 λz H3=>∃k,z=.bl k/\(if k=true then tc σ H3 λw' H4=>r' y w' H4 Q else Q (.bl false) H3)):yk4 r r' ta tb tc σ H Q:=h
def yzd(h:ta σ H λx H1=>∃c,x=.bl c/\if c=true then tb σ H1 Q else Q (.bl false) H1):vcv ta tb σ H Q:=h
def vbd(h:ta σ H λx H1=>∃c,x=.bl c/\Q (.bl (!c)) H1):vcr ta σ H Q:=h
def vg3{t1 t2:TT}(h:t1 σ H λc H1=>if c=true then QB true H1 else t2 σ H1 QB):tOr t1 t2 σ H QB:=h
def vei{t1:TT}(h:t1 σ H λc H1=>QB (!c) H1):vgn t1 σ H QB:=h
def vez(h:tA σ H λc H1=>if c=true then ta σ H1 Q else tb σ H1 Q):tIf tA ta tb σ H Q:=h
structure Nx(u nx:Ζ):Prop where
 go:∀σ H,u σ H->nx σ H
def yxp(h:∀nx bk ct:Ζ,Nx (u D) nx->Nx D.bk bk->Nx D.ct ct->t ⟨nx,D.rt,bk,ct⟩ σ H):vf3 t u D σ H:=h (u D) D.bk D.ct ⟨λZ Z z=>z⟩ ⟨λZ Z z=>z⟩ ⟨λZ Z z=>z⟩
def vhi{u nx:Ζ}(h:Nx u nx)(q:u σ H):nx σ H:=h.go _ _ q
def yzu(h:nx σ H):vco ⟨nx,rt,bk,ct⟩ σ H:=h
def vfd(h:te σ H rt):vgr te ⟨nx,rt,bk,ct⟩ σ H:=h
def vab(h:te σ H λZ H1=>nx σ H1):vcp te ⟨nx,rt,bk,ct⟩ σ H:=h
def vhj(h:tA σ H λc H1=>if c=true then t D σ H1 else u D σ H1):vgj tA t u D σ H:=h
def ynw(M:Ζ)(h1:t ⟨M,rt,bk,ct⟩ σ H)(h2:∀σ' H',M σ' H'->nx σ' H'):vgc t ⟨nx,rt,bk,ct⟩ σ H:=⟨M,h1,h2⟩
def vd7{g:TG}(h:te σ H λx H1=>g x σ H1 nx):vdz te g ⟨nx,rt,bk,ct⟩ σ H:=h
def yzl{sp:Sp}{dvs:Υ}{E:XK}(h:tr σ H λvs H1=>sp (vs++dvs) H1 Q E):yu0 sp dvs E tr σ H Q:=h
def vao(h:ta σ H λx H1=>tr σ H1 λxs H2=>QL (x::xs) H2):ynz ta tr σ H QL:=h
def veu(h:QL [] H):ylc σ H QL:=h
def vhk{r:qi V->Hp->VK->Prop}(h:tr σ H λvs H1=>r vs H1 Q):tCB r tr σ H Q:=h
def vfa(h:tr σ H λxs H1=>xs.length<=sizeLine/\∀p,H1 p=none->Q (.ref p) (upd H1 p (.tup xs))):vgi tr σ H Q:=h
def ve4(h:tr σ H λxs H1=>xs.length<=sizeLine/\∀p,H1 p=none->Q (.ref p) (upd H1 p (.lst xs))):vf9 tr σ H Q:=h
def Ħ{m:Str}{sp:Sp}{dvs:Υ}{E:XK}(h:ta σ H λx H1=>∃a dx fs,x=.ref a/\H1 a=some (.ins C dx fs)/\fs.lookup m=none/\tr σ H1 λvs H2=>sp (x::(vs++dvs)) H2 Q E):ĸ C m sp dvs E ta tr σ H Q:=h
def vek{f:Str}(h:ta σ H λx H1=>∃a C dx fs v,x=.ref a/\H1 a=some (.ins C dx fs)/\Cls K C/\vn K C f/\fs.lookup f=some v/\Q v H1):vfn K ta f σ H Q:=h
def yzt{f:Str}(h:tb σ H λy H1=>ta σ H1 λx H2=>∃a C dx fs,x=.ref a/\H2 a=some (.ins C dx fs)/\Cls K C/\vn K C f/\fs.length<1000/\wb nx σ (upd H2 a (.ins C dx (μ f y fs)))):vf8 K ta tb f ⟨nx,rt,bk,ct⟩ σ H:=h
def vhh{r:V->qj Int->qj Int->Hp->VK->Prop}{tl th:TO}(h:te σ H λx H1=>tl σ H1 λl H2=>th σ H2 λu H3=>r x l u H3 Q):tSl r te tl th σ H Q:=h
def yms{QO:qj Int->Hp->Prop}(h:QO none H):yi1 σ H QO:=h
def yy5{QO:qj Int->Hp->Prop}(h:ta σ H λx H1=>∃i,x=.int i/\QO (some i) H1):vdf ta σ H QO:=h
def vem{P:Int->Prop}(h:P i):∃k,V.int i=V.int k/\P k:=⟨i,rfl,h⟩
def yzi(h:A):V.non=V.non/\A:=⟨rfl,h⟩
def g0{a0:Ψ}{r:St}{N:Ζ}(h:N (some v::r) H):xg 0 v (a0::r) H N:=h
def g1{a0 a1:Ψ}{r:St}{N:Ζ}(h:N (a0::some v::r) H):xg 1 v (a0::a1::r) H N:=h
def g2{a0 a1 a2:Ψ}{r:St}{N:Ζ}(h:N (a0::a1::some v::r) H):xg 2 v (a0::a1::a2::r) H N:=h
def g3{a0 a1 a2 a3:Ψ}{r:St}{N:Ζ}(h:N (a0::a1::a2::some v::r) H):xg 3 v (a0::a1::a2::a3::r) H N:=h
def g4{a0 a1 a2 a3 a4:Ψ}{r:St}{N:Ζ}(h:N (a0::a1::a2::a3::some v::r) H):xg 4 v (a0::a1::a2::a3::a4::r) H N:=h
def g5{a0 a1 a2 a3 a4 a5:Ψ}{r:St}{N:Ζ}(h:N (a0::a1::a2::a3::a4::some v::r) H):xg 5 v (a0::a1::a2::a3::a4::a5::r) H N:=h
def g6{a0 a1 a2 a3 a4 a5 a6:Ψ}{r:St}{N:Ζ}(h:N (a0::a1::a2::a3::a4::a5::some v::r) H):xg 6 v (a0::a1::a2::a3::a4::a5::a6::r) H N:=h
def g7{a0 a1 a2 a3 a4 a5 a6 a7:Ψ}{r:St}{N:Ζ}(h:N (a0::a1::a2::a3::a4::a5::a6::some v::r) H):xg 7 v (a0::a1::a2::a3::a4::a5::a6::a7::r) H N:=h
def g8{a0 a1 a2 a3 a4 a5 a6 a7 a8:Ψ}{r:St}{N:Ζ}(h:N (a0::a1::a2::a3::a4::a5::a6::a7::some v::r) H):xg 8 v (a0::a1::a2::a3::a4::a5::a6::a7::a8::r) H N:=h
def g9{a0 a1 a2 a3 a4 a5 a6 a7 a8 a9:Ψ}{r:St}{N:Ζ}(h:N (a0::a1::a2::a3::a4::a5::a6::a7::a8::some v::r) H):xg 9 v (a0::a1::a2::a3::a4::a5::a6::a7::a8::a9::r) H N:=h
def g10{a0 a1 a2 a3 a4 a5 a6 a7 a8 a9 a10:Ψ}{r:St}{N:Ζ}(h:N (a0::a1::a2::a3::a4::a5::a6::a7::a8::a9::some v::r) H):xg 10 v (a0::a1::a2::a3::a4::a5::a6::a7::a8::a9::a10::r) H N:=h
def g11{a0 a1 a2 a3 a4 a5 a6 a7 a8 a9 a10 a11:Ψ}{r:St}{N:Ζ}(h:N (a0::a1::a2::a3::a4::a5::a6::a7::a8::a9::a10::some v::r) H):xg 11 v (a0::a1::a2::a3::a4::a5::a6::a7::a8::a9::a10::a11::r) H N:=h
def g12{a0 a1 a2 a3 a4 a5 a6 a7 a8 a9 a10 a11 a12:Ψ}{r:St}{N:Ζ}(h:N (a0::a1::a2::a3::a4::a5::a6::a7::a8::a9::a10::a11::some v::r) H):xg 12 v (a0::a1::a2::a3::a4::a5::a6::a7::a8::a9::a10::a11::a12::r) H N:=h
def g13{a0 a1 a2 a3 a4 a5 a6 a7 a8 a9 a10 a11 a12 a13:Ψ}{r:St}{N:Ζ}(h:N (a0::a1::a2::a3::a4::a5::a6::a7::a8::a9::a10::a11::a12::some v::r) H):xg 13 v (a0::a1::a2::a3::a4::a5::a6::a7::a8::a9::a10::a11::a12::a13::r) H N:=h
def yes{n:Nat}{tg:TGs}{xs:Υ}{N:Ζ}(hq:SqT K H a xs)(hl:xs.length=n)(h:tg xs σ H N):yxa K n tg (.ref a) σ H N:=⟨a,xs,rfl,hq,hl,h⟩
def ytx{tg:TG}{us:TGs}{r:Υ}{N:Ζ}(h:tg v σ H λσ' H'=>us r σ' H' N):ν tg us (v::r) σ H N:=⟨v,r,rfl,h⟩
def yyt{N:Ζ}(h:N σ H):yn4 [] σ H N:=⟨rfl,h⟩
def zn{p:Prop}[Decidable p](h1:p->A)(h2:¬p->B):if decide p=true then A else B:=by
 by_cases h:p
 .rw[if_pos (cz h)];exact h1 h
 .rw[if_neg (by simp[h])];exact h2 h
def ybu{p:Prop}[Decidable p](hp:p)(h:A):if decide p=true then A else B:=by rw[if_pos (cz hp)];exact h
def ygb{p:Prop}[Decidable p](hp:¬p)(h:B):if decide p=true then A else B:=by rw[if_neg (by simp[hp])];exact h
def ywf{p:Prop}[Decidable p](hp:p)(h:B):if (!decide p)=true then A else B:=by rw[if_neg (by simp[hp])];exact h
def yw0{p:Prop}[Decidable p](hp:¬p)(h:A):if (!decide p)=true then A else B:=by rw[if_pos (by simp[hp])];exact h
def yxe{p:Prop}[Decidable p](h1:p->B)(h2:¬p->A):if (!decide p)=true then A else B:=by
 by_cases h:p
 .exact ywf h (h1 h)
 .exact yw0 h (h2 h)
def vfj(h:B):if (!true)=true then A else B:=jq h
def vfb(h:A):if (!false)=true then A else B:=yac h
def xo{f:Str}{r:Ι}:List.lookup f ((f,v)::r)=some v:=by simp[List.lookup]
def vz{f g:Str}{r:Ι}{o:Ψ}(h:¬f=g)(e:List.lookup f r=o):List.lookup f ((g,v)::r)=o:=by
 have a:(f == g)=false:=by simp[h]
 simp[List.lookup,a,e]
def π{f:Str}:List.lookup f ([]:Ι)=none:=rfl
def jg{f:Str}{r:Ι}:μ f v ((f,x)::r)=(f,v)::r:=by simp[μ]
def vt{f g:Str}{r r':Ι}(h:¬g=f)(e:μ f v r=r'):μ f v ((g,x)::r)=(g,x)::r':=by simp[μ,h,e]
def wl{f:Str}:μ f v []=[(f,v)]:=rfl
def jx{c:z4}{o o':HO}(hn:H a=none)(h:H c=some o):upd H a o' c=some o:=by rw[yk (yb h hn)];exact h
def ye{c:z4}{o o':HO}(hn:c≠a)(h:H c=some o):upd H a o' c=some o:=by rw[yk hn];exact h
def vg{o:HO}(hn:H a=none):yw H (upd H a o):=λZ Z h=>jx hn h
def yw.tup{H':Hp}{xs:Υ}(e:yw H H')(h:SqT K H a xs):SqT K H' a xs:=by
 rcases h with(h|⟨o,h⟩)|h
 .exact .inl (.inl (e _ _ h))
 .exact .inl (.inr ⟨o,e _ _ h⟩)
 .exact .inr h
def ybj{tb:TS}{W:Nat->St->Hp->Prop}{m:Nat}(h:tb ⟨λσ' H'=>∃m',m'<m/\W m' σ' H',rt,nx,λσ' H'=>∃m',m'<m/\W m' σ' H'⟩ σ H):
  ∃N:Ζ,(∀σ' H',N σ' H'->∃m',m'<m/\W m' σ' H')/\tb ⟨N,rt,nx,N⟩ σ H:=⟨_,λZ Z q=>q,h⟩
def yyo{sp:Sp}{dvs:Υ}{E:XK}(h:tr σ H λvs H1=>∀x dx,H1 x=none->H1 dx=none->dx≠x->sp (.ref x::(vs++dvs)) (upd (upd H1 dx (.own x)) x (.ins C dx [])) (λv H2=>v=.non/\Q (.ref x) H2) E):ywz C sp dvs E tr σ H Q:=h
def vg4{r:V->qi V->Hp->VK->Prop}(h:ta σ H λx H1=>tyV K T x H1/\tr σ H1 λxs H2=>r x xs H2 Q):tBM K T r ta tr σ H Q:=h
def vfe{r:V->qi V->Hp->VK->Prop}(h:ta σ H λx H1=>tyV K T x H1/\r x [] H1 Q):vgu K T r ta σ H Q:=h
def jh{p:z4}{xs:Υ}(h:H p=some (.lst xs))(k:A):tyV K "list" (.ref p) H/\A:=⟨.inl ⟨rfl,_,SqL.of h⟩,k⟩
def x0{l:z4}{xs:Υ}(h:H l=some (.lst xs))(hz:xs.length<sizeLine)(k:Q .non (upd H l (.lst (xs++[y])))):yjf (.ref l) [y] H Q:=⟨l,xs,y,rfl,rfl,h,hz,k⟩
def yar{l:z4}{xs:Υ}(h:H l=some (.lst xs))(k:Q .non (upd H l (.lst xs.reverse))):ydi (.ref l) [] H Q:=⟨l,xs,rfl,rfl,h,k⟩
def ut{p:z4}{ys:Υ}{P:qi V->Prop}(h:SqL K H p ys)(k:P ys):∃p' ys',[V.ref p]=[V.ref p']/\(SqL K H p' ys'\/SqT K H p' ys')/\P ys':=⟨p,ys,rfl,.inl h,k⟩
def yqt{p:z4}{ys:Υ}{P:qi V->Prop}(h:SqT K H p ys)(k:P ys):∃p' ys',[V.ref p]=[V.ref p']/\(SqL K H p' ys'\/SqT K H p' ys')/\P ys':=⟨p,ys,rfl,.inr h,k⟩
def ŭ{p:z4}{ys:Υ}{P:qi V->Prop}(h:SqL K H p ys)(k:P ys):∃p' ys',[V.ref p]=[V.ref p']/\(SqL K H p' ys'\/SqT K H p' ys')/\P ys':=⟨p,ys,rfl,.inl h,k⟩
def Û{p:z4}{xs:Υ}(h:SqL K H p xs)(e:atI xs i=some v)(k:Q v H):vds K (.ref p) (.int i) H Q:=⟨p,xs,i,v,rfl,rfl,h,e,k⟩
def ybt{p:z4}{xs:Υ}(h:SqT K H p xs)(e:atI xs i=some v)(k:Q v H):vga K (.ref p) (.int i) H Q:=⟨p,xs,i,v,rfl,rfl,h,e,k⟩
def ybs{p:z4}{xs:Υ}{lo hi:qj Int}(h:SqL K H p xs)(k:∀q,H q=none->Q (.ref q) (upd H q (.lst (ybw xs lo hi)))):vgp K (.ref p) lo hi H Q:=⟨p,xs,rfl,h,k⟩
def θ{xs:Υ}(n:Nat):ybw xs none (some (n:Int))=xs.take n:=by
 unfold ybw;rw[HT.sIx_none,HT.sIx_nat,List.drop_zero,Nat.sub_zero];rcases Nat.le_total n xs.length with h|h
 .rw[Nat.min_eq_left h]
 .rw[Nat.min_eq_right h,dn (cq _),dn h]
def veh{wi:TI}{g:TG}{tb:TS}(h:wi σ H λJ H1=>∃W:Nat->Nat->St->Hp->Prop,(∃m,W 0 m σ H1)/\∀i m σ H,W i m σ H ->
  (J.stop i H/\D.nx σ H)\/(J.go i H/\∃N:Ζ,(∀σ' H',N σ' H'->∃m',m'<m/\W (i+1) m' σ' H')/\∀x H',J.yld i H x H'->g x σ H' λσ2 H2=>tb {D with nx:=N,ct:=N,bk:=D.nx} σ2 H2)):vgm wi g tb D σ H:=h
def yrk{R:It->Hp->Prop}(h:ta σ H λx H1=>∃a,x=.ref a/\(∃xs,SqL K H1 a xs)/\R (Itl K a) H1):vdg K ta σ H R:=h
def yxq{R:It->Hp->Prop}(h:ta σ H λx H1=>∃a,x=.ref a/\(∃xs,SqT K H1 a xs)/\R (Itt K a) H1):vgg K ta σ H R:=h
def ysb{R:It->Hp->Prop}(h:tr σ H λvs H1=>∃j:Int,vs=[.int j]/\-(2^62)<=j/\j<2^62/\R (Itr 0 j.toNat) H1):vc7 tr σ H R:=h
def Ĩ{n m:String}{k:Bool}{P:Bool->Prop}(ty:xt K H x (.type n))(e:W.kitOne K (.type n) (.type m)=some k)(h:P k):
  ∃x' cv t c k',[x,V.ty m]=[x',cv]/\xj cv c/\(∀u,xj cv u->u=c)/\xt K H x' t/\W.kitOne K t c=some k'/\P k':=⟨x,.ty m,.type n,.type m,k,rfl,rfl,λZ r=>r,ty,e,h⟩
def ysy(h:nx σ H):wb nx σ H:=h
end
def yod:V->Bool
 | .int _=>true
 | .bl _=>true
 |_=>false
def yjj:V->Bool
 | .bl _=>true
 |_=>false
def τ:V->Bool
 | .int _=>true
 |_=>false
def yr4{K:z3}{H:Hp}{x:V}{n:String}(ty:xt K H x (.type n)):W.kitOne K (.type n) (.type "int")=some (yod x):=by cases ty<;>rfl
def ylp{K:z3}{H:Hp}{x:V}{n:String}(ty:xt K H x (.type n)):W.kitOne K (.type n) (.type "bool")=some (yjj x):=by cases ty<;>rfl
end L2
namespace SpanMath
def Ch(c:Int):Prop:=32768<=c/\c<=16744448
def ren(l w s:Int):Int×Int×Int :=
 if w<4294967296 then (if w*256<4294967296 then (l*65536,w*65536,s+2)else (l*256,w*256,s+1))else (l,w,s)
def cut(w c:Int):Int:=w*c/16777216
def nar(x:Int×Int×Int)(c b:Int):Int×Int×Int :=
 if b=1 then ren x.1 (cut x.2.1 c) x.2.2 else ren (x.1+cut x.2.1 c) (x.2.1-cut x.2.1 c) x.2.2
def s0:Int×Int×Int:=(0,1099511627776,5)
def yne{l w s:Int}(h:w<4294967296)(h2:8388608<=w):ren (l*256) (w*256) (s+1)=ren l w s:=by
 unfold ren;rw[if_pos h];by_cases h3:w*256<4294967296
 .rw[if_pos h3,if_pos h3,if_neg ()];refine Prod.ext ?_ (Prod.ext ?_ ?_)
  .show l*256*256=l*65536;omega
  .show w*256*256=w*65536;omega
  .show s+1+1=s+2;omega
 .rw[if_neg h3,if_neg h3]
def ys4{l w s:Int}(h:¬w<4294967296):ren l w s=(l,w,s):=by unfold ren;rw[if_neg h]
def ybi{w c:Int}(hw:4294967296<=w)(hw2:w<=1099511627776)(hc:Ch c):8388608<=cut w c/\8388608<=w-cut w c/\cut w c<1099511627776:=by let⟨b,e⟩:=hc;have d:w*32768<=w*c:=dD b ();have a:w*c<=w*16744448:=dD e ();unfold cut;generalize w*c=p at d a⊢;omega
structure Ok(x:Int×Int×Int):Prop where
 l0:0<=x.1
 w0:4294967296<=x.2.1
 w1:x.2.1<=1099511627776
 z:5<=x.2.2
def ok0:Ok s0:=⟨∅,∅,∅,∅⟩
def ypa{l w s:Int}(h0:0<=l)(h1:8388608<=w)(h2:w<=1099511627776)(h3:5<=s):Ok (ren l w s):=by
 unfold ren
 split
 .split
  .exists by show 0<=l*65536;omega,by show _<=w*65536;omega,by show w*65536<=_;omega,by show 5<=s+2;omega
  .exists by show 0<=l*256;omega,by show _<=w*256;omega,by show w*256<=_;omega,by show 5<=s+1;omega
 .exists h0,by show _<=w;omega,h2,h3
def vck{x:Int×Int×Int}{c b:Int}(h:Ok x)(hc:Ch c):Ok (nar x c b):=by
 let⟨d,a,e⟩:=ybi h.w0 h.w1 hc;have:=h.l0;have:=h.w0;have:=h.w1;have:=h.z;unfold nar
 split
 .exact ypa () () () ()
 .exact ypa () () () ()
end SpanMath
namespace SpanMath
def pw:Nat->Int
 |0=>1
 |k+1=>pw k*256
theorem zg:∀k,0<pw k
 |0=>by decide
 |k+1=>by have:=zg k;show 0<pw k*256;omega
theorem yel(a:Nat):∀b,pw (a+b)=pw a*pw b
 |0=>by simp[pw]
 |b+1=>by
  show pw (a+b)*256=pw a*(pw b*256);rw[yel a b,Int.mul_assoc]
def yjn{a b:Nat}(h:a<=b):pw a<=pw b:=by
 let⟨c,rfl⟩:=Nat.exists_eq_add_of_le h;rw[yel];have d:=zg a;have e:=zg c
 calc pw a=pw a*1:=()
  _<=pw a*pw c:=dD () ()
def vdb{a b:Nat}(h:pw a<pw b):a<b:=by apply Nat.lt_of_not_le;intro q;have:=yjn q;omega
def lo:Nat->Int->qi Int
 |0,_=>[]
 |k+1,n=>n%256::lo k (n/256)
def wr(k:Nat)(n:Int):Ρ:=(lo k n).reverse
theorem ypt:∀k n,(lo k n).length=k
 |0,_=>rfl
 |k+1,n=>by simp[lo,ypt k]
def yx5(k:Nat)(n:Int):(wr k n).length=k:=by simp[wr,ypt]
theorem yiy:∀k n,∀x∈lo k n,0<=x/\x<=255
 |0,_,x,h=>by simp[lo]at h
 |k+1,n,x,h=>by
  simp only[lo,cG]at h;rcases h with rfl|h
  .omega
  .exact yiy k _ x h
def yr5(k:Nat)(n:Int):∀x∈wr k n,0<=x/\x<=255:=λx h=>yiy k n x (by simpa[wr]using h)
def ys1(k:Nat)(n:Int):wr (k+1) n=wr k (n/256)++[n%256]:=by simp[wr,lo]
def val(xs:Ρ):Int:=xs.foldl (λa b=>a*256+b) 0
def yd2(xs:Ρ)(b:Int):val (xs++[b])=val xs*256+b:=by simp[val,List.foldl_append]
theorem yoe:∀(k:Nat)(n:Int),0<=n->n<pw k->val (wr k n)=n
 |0,n,h0,h1=>by
  have:n<1:=h1;have:n=0:=()
  subst this;rfl
 |k+1,n,h0,h1=>by
  have a:n<pw k*256:=h1;rw[ys1,yd2,yoe k (n/256) () ()];omega
def vgv:Nat->Int->Int->Nat
 |0,_,_=>0
 |n+1,a,b=>if a=b then 0 else vgv n (a/256) (b/256)+1
end SpanMath
namespace SpanMath
abbrev Sn:=Int×Int×Int
def sz(x:Sn):Nat:=x.2.2.toNat
structure OkS(x:Sn):Prop where
 ok:Ok x
 top:x.1+x.2.1<=pw (sz x)
theorem OkS.sz{x:Sn}(h:OkS x):((sz x:Nat):Int)=x.2.2:=by have:=h.ok.z;unfold SpanMath.sz;omega
def OkS.sz5{x:Sn}(h:OkS x):5<=SpanMath.sz x:=by have:=h.ok.z;unfold SpanMath.sz;omega
def vfp:OkS s0:=⟨ok0,∅⟩
structure Sub(x y:Sn)(r:Nat):Prop where
 z:sz y=sz x+r
 l:x.1*pw r<=y.1
 h:y.1+y.2.1<=(x.1+x.2.1)*pw r
def yi6{l w s:Int}(hs:0<=s):∃r,Sub (l,w,s) (ren l w s) r/\(ren l w s).2.1=w*pw r/\(ren l w s).1=l*pw r:=by
 unfold ren
 split
 .split
  .refine⟨2,⟨?_,?_,?_⟩,?_,?_⟩
   .show (s+2).toNat=s.toNat+2;omega
   .show l*(1*256*256)<=l*65536;omega
   .show l*65536+w*65536<=(l+w)*(1*256*256);omega
   .show w*65536=w*(1*256*256);omega
   .show l*65536=l*(1*256*256);omega
  .refine⟨1,⟨?_,?_,?_⟩,?_,?_⟩
   .show (s+1).toNat=s.toNat+1;omega
   .show l*(1*256)<=l*256;omega
   .show l*256+w*256<=(l+w)*(1*256);omega
   .show w*256=w*(1*256);omega
   .show l*256=l*(1*256);omega
 .refine⟨0,⟨?_,?_,?_⟩,?_,?_⟩
  .rfl
  .show l*1<=l;omega
  .show l+w<=(l+w)*1;omega
  .show w=w*1;omega
  .show l=l*1;omega
def yq3{x:Sn}{c b:Int}(h:Ok x)(hc:Ch c):∃r,Sub x (nar x c b) r:=by
 let⟨i,f,k⟩:=ybi h.w0 h.w1 hc;have g:=h.l0;have j:=h.z;unfold nar
 split
 .obtain⟨r,⟨e,d,a⟩,_⟩:=yi6 (l:=x.1) (w:=cut x.2.1 c) (s:=x.2.2) ();exists r,e,d,Int.le_trans a (du ?_ (Int.le_of_lt (zg r)));show x.1+cut x.2.1 c<=x.1+x.2.1;omega
 .obtain⟨r,⟨e,d,a⟩,_⟩:=yi6 (l:=x.1+cut x.2.1 c) (w:=x.2.1-cut x.2.1 c) (s:=x.2.2) ();exists r,e,Int.le_trans (du ?_ (Int.le_of_lt (zg r))) d,Int.le_trans a (du ?_ (Int.le_of_lt (zg r)))
  .show x.1<=x.1+cut x.2.1 c;omega
  .show x.1+cut x.2.1 c+(x.2.1-cut x.2.1 c)<=x.1+x.2.1;omega
def ycv{x:Sn}{c b:Int}(h:OkS x)(hc:Ch c):OkS (nar x c b):=by exists vck h.ok hc,?_;let⟨r,q⟩:=yq3 (b:=b) h.ok hc;rw[q.z,yel];exact Int.le_trans q.h (du h.top (Int.le_of_lt (zg r)))
def blk(l e:Int):Int:=(l+e-1)/e
def ygh(l w:Int)(k:Nat):Prop:=(blk l (pw k)+1)*pw k<=l+w
instance (l w:Int)(k:Nat):Decidable (ygh l w k):=inferInstanceAs (Decidable ((blk l (pw k)+1)*pw k<=l+w))
def yqn(l:Int){e:Int}(h:0<e):l<=blk l e*e/\blk l e*e<l+e:=by unfold blk;have a:=Int.emod_add_mul_ediv (l+e-1) e;have c:=dN (l+e-1) (show e≠0 by omega);have b:=dH (l+e-1) h;rw[Int.mul_comm]at a;generalize (l+e-1)/e*e=q at a⊢;omega
def yjh{l w:Int}{k:Nat}(h:ygh l w k):pw k<=w:=by have a:=yqn l (zg k);unfold ygh at h;rw[Int.add_mul]at h;omega
def tel(l w:Int):Nat->Nat->Nat
 |0,k=>k
 |f+1,k=>if ygh l w (k+1)then tel l w f (k+1)else k
def ylt{l w:Int}{f k:Nat}(h:ygh l w (k+1)):tel l w f (k+1)=tel l w (f+1) k:=by rw[tel,if_pos h]
def yt0{l w:Int}{f k:Nat}(h:¬ygh l w (k+1)):tel l w f k=k:=by
 cases f with
 |zero=>rfl
 |succ f=>rw[tel,if_neg h]
set_option tactic.hygienic true in
theorem yd7{l w:Int}:∀{f k:Nat},ygh l w k->ygh l w (tel l w f k)
 |0,_,h=>h
 |f+1,k,h=>by
  unfold tel
  split
  .rename_i q;exact yd7 q
  .exact h
def pw5:pw 5=1099511627776:=∅
def yqm{l w:Int}{k:Nat}(hw:w<=1099511627776)(h:ygh l w k):k<=5:=by have a:=yjh h;rw[<- pw5]at hw;have b:pw k<pw 6:=Int.lt_of_le_of_lt (Int.le_trans a hw) ∅;have:=vdb b;omega
def tK(x:Sn):Nat:=tel x.1 x.2.1 5 0
def tCn(x:Sn):Int:=blk x.1 (pw (tK x))
def tL(x:Sn):Ρ:=wr (sz x-tK x) (tCn x)
def vee{x:Sn}(h:Ok x):ygh x.1 x.2.1 0:=by have:=h.w0;show ((x.1+1-1)/1+1)*1<=x.1+x.2.1;omega
def ź{x:Sn}(h:Ok x):ygh x.1 x.2.1 (tK x):=yd7 (vee h)
def yv6{x:Sn}(h:OkS x):tK x<=5/\tK x<=sz x:=by have a:=yqm h.ok.w1 (ź h.ok);have b:=h.sz5;omega
def ykf(x:Sn):(tL x).length=sz x-tK x:=yx5 _ _
def yyi{x:Sn}(h:Ok x):0<=tCn x:=by have:=h.l0;have:=zg (tK x);exact Int.ediv_nonneg () ()
def vbh{x:Sn}(h:OkS x):tCn x<pw (sz x-tK x):=by have b:(tCn x+1)*pw (tK x)<=x.1+x.2.1:=ź h.ok;have a:=h.top;have e:sz x-tK x+tK x=sz x:=Nat.sub_add_cancel (yv6 h).2;rw[<- e,yel]at a;have c:=Int.le_of_mul_le_mul_right (Int.le_trans b a) (zg (tK x));omega
def yyr{x:Sn}(h:OkS x):val (tL x)=tCn x:=yoe _ _ (yyi h.ok) (vbh h)
end SpanMath
namespace L2
open PySem PySem.Spec PyProof.Rows
def ye2(J:It)(te:TE)(D:z4)(R:Hp->Prop)(H1:Hp):Prop:=∃W:Nat->Nat->Hp->Prop,(∃m,W 0 m (upd H1 D (.lst [])))/\
 ∀i m H2,W i m H2->(J.stop i H2/\R H2)\/(J.go i H2/\∀x H3,J.yld i H2 x H3->te [some x] H3 λy H4=>∃ys,H4 D=some (.lst ys)/\ys.length<sizeLine/\∃m',m'<m/\W (i+1) m' (upd H4 D (.lst (ys++[y]))))
section
variable{X:Cx}{iter elt:qg}{x:Str}{px pos:Pos}{scope:Scope}{te:TE}{wi:TI}{pins:Θ}{σ:St}
def vdy{α:Type}{t:Sem α}{Q Q':α->qa->Prop}{M:Model}{A:qe}{E:Δ}{s:qa}(h:wpAny M A t Q (λZ Z=>False) s)(hQ:∀a s,Q a s->Q' a s):wpAny M A t Q' E s:=dR h hQ λZ Z z=>z.elim
def cW(n:Nat)(Pv:Nat->Hp->Prop)(i m:Nat)(H:Hp):Prop:=m=n-i/\i<=n/\Pv i H
def zx{K:z3}{a D:z4}{xs:Υ}{R:Hp->Prop}{H1:Hp}(Pv:Nat->Hp->Prop)(h0:Pv 0 (upd H1 D (.lst [])))(hl:∀i H,i<=xs.length->Pv i H->SqL K H a xs)
  (hs:∀i x H,xs[i]?=some x->i<xs.length->Pv i H->te [some x] H λy H4=>∃ys,H4 D=some (.lst ys)/\ys.length<sizeLine/\∃m',m'<xs.length-i/\cW xs.length Pv (i+1) m' (upd H4 D (.lst (ys++[y]))))
  (hd:∀H,Pv xs.length H->R H):ye2 (Itl K a) te D R H1:=by
 exists cW xs.length Pv,⟨xs.length,by simp,cP _,h0⟩,?_;rintro i m H ⟨rfl,b,p⟩;have q:=hl i H b p;by_cases hlt:i<xs.length
 .refine .inr ⟨⟨xs,xs[i],q,by simp[hlt]⟩,λx c y=>?_⟩;let⟨e,y⟩:=y;subst e;exact hs i x _ (y xs q) hlt p
 .have e:i=xs.length:=()
  subst e;exact .inl ⟨⟨xs,q,cq _⟩,hd H p⟩
def xm{n i:Nat}{Pv:Nat->Hp->Prop}{D:z4}{ys:Υ}{y:V}{H4:Hp}(hD:H4 D=some (.lst ys))(hl:ys.length<sizeLine)(hi:i<n)(p:Pv (i+1) (upd H4 D (.lst (ys++[y])))):
  ∃ys,H4 D=some (.lst ys)/\ys.length<sizeLine/\∃m',m'<n-i/\cW n Pv (i+1) m' (upd H4 D (.lst (ys++[y]))):=⟨ys,hD,hl,n-(i+1),(),rfl,hi,p⟩
end
end L2
namespace L2
open PySem
def ycr:qg->Bool
 | .Starred _ _=>false
 |_=>true
def yjl{e:qg}{es:qi qg}{env:Env}(h:ycr e=true):starEach (e::es) env=(false,eval e env)::starEach es env:=by cases e<;>first|rfl|cases h
end L2
namespace L2
open PySem PySem.Spec PyProof.Rows
variable{C a:z4}{h':qf}{pins:Θ}{P:qh}{scope:Scope}{st:qc}{qual:Str}{cd:qb}{E Q:Δ}
structure XCls(K:z3)(C:z4):Prop where
 hd:W.hasDictIn K C=true
 ga:W.findIn K (.ref C) "__getattribute__"=some (some (.builtin "BaseException.__getattribute__"))
 gt:W.findIn K (.ref C) "__getattr__"=some none
 ca:W.findIn K (.ref C) "__class__"=some (some (.builtin "object.__class__"))
 gg:W.specialIn K (.builtin "object.__class__") "__get__"=some (some (.builtin "getset_descriptor.__get__"))
 tk:W.takesIn K (.builtin "object.__class__")=some true
 mo:W.mroIn K C (.type "object")=some true
 mb:W.mroIn K C (.type "BaseException")=some true
def w8.there{w:qd}{H:Hp}{h:qf}{o:HO}(x:w8 P w H h a o):∃ob,h.get? a=some ob:=by
 cases o with
 |lst xs=>let⟨_,_,_,_,e⟩:=x;exists _,e
 |tup xs=>let⟨_,_,_,ob,e,_⟩:=x;exists _,e
 |dK kvs=>let⟨_,_,_,_,ob,_,_,e,_⟩:=x;exists _,e
 |dT kvs=>let⟨_,_,_,_,ob,_,_,e,_⟩:=x;exists _,e
 |set S n=>let⟨ob,_,_,_,e,_⟩:=x;exists _,e
 |ins C dx fs=>let⟨_,_,_,e,_⟩:=x;exists _,e
 |own y=>exact x
 |xd fs=>let⟨_,⟨_,_,_,e,_⟩,_⟩:=x;exists _,e
 |rng lo hi=>let⟨_,_,_,e⟩:=x;exists _,e
 |frz ob u=>let⟨e,_⟩:=x;exists _,e
 |tbl ps=>exists _,(show h.get? a=some _ from x)
 |met f y=>exists _,(show h.get? a=some _ from x)
 |ext φ=>let⟨_,e,_⟩:=x;exact e
def HOk.none_of{w:qd}{H:Hp}{h:qf}(x:HOk P w H h)(e:h.get? a=none):H a=none:=by
 cases q:H a with
 |none=>rfl
 |some u =>
  let⟨b,z⟩:=(x a u q).there;rw[e]at z;cases z
def Fy(X:Cx)(pins:Θ)(H:Hp)(b:z4):Prop :=
 H b=none/\b≠X.env.locals/\b∉X.fs/\(b∈X.ex\/X.s₀.heap.get? b=none)/\(∀y c,X.env.cells.lookup y=some c->c≠b)/\∀p∈X.pn++pins,p.1≠b
section
variable{X:Cx}{σ:St}{H H':Hp}{s:qa}{b x T:z4}
def ye5(I:Inv X pins σ H s)(hb:s.heap.get? b=none)(hn:H' b=none):Fy X pins H' b:=by
 exists hn,?_,?_,?_,?_,?_
 .rintro rfl;let⟨_,⟨_,_,_,e,_⟩,_⟩:=I.loc;rw[hb]at e;cases e
 .intro z;let⟨_,o,e,_⟩:=I.funs.mem z;rw[hb]at e;cases e
 .by_cases hx:b∈X.ex
  .exact .inl hx
  .refine .inr ?_
   cases q:X.s₀.heap.get? b with
   |none=>rfl
   |some o =>
    let⟨_,e⟩:=I.base.there b o q hx;rw[hb]at e;cases e
 .rintro y c e rfl;let⟨_,_,q,_⟩:=I.cell y c e;rw[hb]at q;cases q
 .intro p a z;have q:=(I.pin p a).1;rw[z,hb]at q;cases q
def Inv.fly(I:Inv X pins σ H s)(hx:Fy X pins H x)(hT:Fy X pins H T)
  (keep:∀b o,b≠x->b≠T->b∉frs X.stack->s.heap.get? b=some o->h'.get? b=some o)
  (slot:∀b o,b∈frs X.stack->s.heap.get? b=some o->∃sl,h'.get? b=some {o with slots:=sl}):Inv X pins σ H {s with heap:=h'}:=by
 have f:∀{y b o},Fy X pins H y->X.s₀.heap.get? b=some o->b∉X.ex->b≠y:=λ{y b o}K e a z=>by
  subst z;rcases K.2.2.2.1 with q|q
  .exact a q
  .rw[e]at q;cases q
 have h:∀b o,b≠x->b≠T->s.heap.get? b=some o->∃sl,h'.get? b=some {o with slots:=sl}:=λb o J M e=>by
  by_cases z:b∈frs X.stack
  .exact slot b o z e
  .exists o.slots,keep b o J M z e
 have g:∀y c,X.env.cells.lookup y=some c->∀v,s.heap.IsCell c v->h'.IsCell c v:=λy c e v ⟨o,B,L⟩=>by
  let⟨sl,q⟩:=h c o (hx.2.2.2.2.1 y c e) (hT.2.2.2.2.1 y c e) B;exists _,q,L
 exists I.ok,I.os,I.bare,⟨λb o e n A a=>?_,λb o e n A a=>?_,I.base.free,λb o e a=>?_,I.base.tups,I.base.frzs,I.base.tbls⟩,?_,λy c e=>?_,I.free,I.freeC,λp C=>?_,λb u e=>?_,I.len
 .refine keep b o (f hx e a) (f hT e a) (λz=>?_) (I.base.keep b o e n A a);rcases cG.mp (I.stkSub b z)with q|q
  .exact absurd q (cV (dg (cC e) I.ok.above))
  .exact A q
 .obtain⟨sl,w⟩:=I.base.slot b o e n A a;let⟨t,j⟩:=h b _ (f hx e a) (f hT e a) w;exists t,j
 .obtain⟨Y,w⟩:=I.base.there b o e a;let⟨t,j⟩:=h b _ (f hx e a) (f hT e a) w;exists _,j
 .obtain⟨m,N,P⟩:=I.loc;exists m,?_,λi y v w j S=>?_
  .obtain⟨o,W,R,B,r⟩:=N;let⟨sl,q⟩:=h _ o (Ne.symm hx.2.1) (Ne.symm hT.2.1) B;exists _,W,R,q,r
  .obtain⟨u,r,l⟩:=P i y v w j S;exists u,r,?_;rcases l with l|⟨k,c,e,z⟩
   .exact .inl l
   .exact .inr ⟨k,c,e,g y c e _ z⟩
 .obtain⟨v,z⟩:=I.cell y c e;exists v,g y c e v z
 .obtain⟨e,n,E,F,d⟩:=I.pin p C;exists keep p.1 p.2 (hx.2.2.2.2.2 p C) (hT.2.2.2.2.2 p C) (λz=>?_) e,n,E,F,d;rcases cG.mp (I.stkSub _ z)with q|q
  .exact E q
  .exact F q
 .have G:∀c v,H c=some v->c≠x/\c≠T/\c∉frs X.stack:=λc v q =>
   ⟨λz=>(by rw[z,hx.1]at q;cases q),λz=>(by rw[z,hT.1]at q;cases q),λz=>(by rw[I.stkFree c z]at q;cases q)⟩
  refine(I.hok b u e).stay (λc v D q=>?_) (λZ q=>q) λZ Z q=>q
  obtain⟨U,O,Q⟩:c≠x/\c≠T/\c∉frs X.stack:=by
   rcases D with rfl|D
   .exact G _ _ e
   .exact G _ _ D
  exact keep c v U O Q q
def Trd(h:qf)(x T:z4)(C fl:qb):Prop :=
 ∃oe vs oT ts a0,h.get? x=some oe/\(oe.cls=C/\vs[0]?=some a0)/\oe.data=.fields vs/\vs[1]?=some (.ref T)/\T≠x/\h.get? T=some oT/\oT.data=.fields ts/\ts[3]?=some fl
def hid(s:qa)(X:Cx)(x T:z4):qf:=W.hideAll s.heap (x::T::frs X.stack)
def yer:(hid s X x T).StaysIn s.heap:=λZ Z e=>W.of_hideAll _ e
def yuw:(hid s X x T).get? x=none:=W.hideAll_none _ (.head _)
def ve6:(hid s X x T).get? T=none:=W.hideAll_none _ (.tail _ (.head _))
def yez(I:Inv X pins σ H s):s.heap.FunFrames (hid s X x T) X.stack :=
 W.funFrames_hide I.stack λb c a d=>.tail _ (.tail _ (List.mem_filterMap.mpr ⟨b,c,d⟩))
def yj2{C fl:qb}(t:Trd s.heap x T C fl):∃a0,s.heap.TracedAtW (hid s X x T) x C a0 fl:=by let⟨a,i,c,k,a0,e,l,j,h,g,f,b,d⟩:=t;exists a0,a,i,T,c,k,e,l,j,h,ve6,g,f,b,d
def Ê{C a0 fl:qb}(I:Inv X pins σ H s)(hx:Fy X pins H x)(hT:Fy X pins H T)(k1:(hid s X x T).StaysIn h')(k2:h'.FunFrames (hid s X x T) X.stack)(k3:h'.TracedAtW (hid s X x T) x C a0 fl)
  (k4:∀b o,s.heap.get? b=some o->(∀vs,o.data≠.fields vs)->∃sl,h'.get? b=some {o with slots:=sl}):
  Inv X pins σ H {s with heap:=h'}/\∃T',Fy X pins H T'/\Trd h' x T' C fl:=by
 exists I.fly hx hT (λb o t n i e=>k1 b o (W.hideAll_get _ e λz=>?_)) λb o y e=>?_,?_
 .rcases cG.mp z with z|z
  .exact t z
  .rcases cG.mp z with z|z
   .exact n z
   .exact i z
 .obtain⟨_,l,a,c⟩:=I.stack.mem y;rw[e]at a;cases a;exact k4 b o e c
 .obtain⟨w,vs,T',u,r,h,k,j,v,p,g,f,d,A⟩:=k3;exists T',?_,w,vs,u,r,a0,h,k,j,v,g,f,d,A;by_cases q:T'=T
  .rw[q];exact hT
  .cases e:s.heap.get? T' with
   |none=>exact ye5 I e (I.hok.none_of e)
   |some o =>
    have z:T'∈frs X.stack:=Classical.byContradiction λz=>by
     have:=W.hideAll_get (x::T::frs X.stack) e (λm=>by
      rcases cG.mp m with m|m
      .exact g m
      .rcases cG.mp m with m|m
       .exact q m
       .exact z m)
     rw[show (W.hideAll s.heap (x::T::frs X.stack)).get? T'=none from p]at this;cases this
    let⟨_,l,a,c⟩:=k2.mem z;rw[f]at a;cases a;exact absurd d (c _)
end
def CXe(P:qh)(w:qd):CXT:=λouter H s E e s'=>∃x T C H',e=.ref x/\s'.os=s.os/\AllBare s'.gens/\Un (frs outer) [] H H' s.heap s'.heap/\HOk P w H' s'.heap/\
 (H' x=none/\s.heap.get? x=none)/\(H' T=none/\s.heap.get? T=none)/\Trd s'.heap x T C .none/\E C none H'
def ž(X:Cx)(Ex:St->XK):Prop:=∀(pins:Θ)(σ:St)(H:Hp)(s':qa)(x T:z4)(C:qb),Inv X pins σ H s'->Fy X pins H x->Fy X pins H T->Trd s'.heap x T C .none->Ex σ C none H->X.xe (.ref x) s'
def yy{w:qd}{K:z3}{mg:Ε}{base:qf}{N:Τ}{f:z4}{A:qe}{outer:qi Env}{s:qa}{H:Hp}{E:XK}:
  ž (vv (CXe P w) P w K mg base N qual scope f cd A outer s H E) (λZ=>E):=by intro c σ g m x T C I h r t q;show wpAny _ _ (leaving _ _) _ _ _;let⟨v,n⟩:=yj2 (X:=vv (CXe P w) P w K mg base N qual scope f cd A outer s H E) t;refine wpAny_leaving_nextW (base:=hid m (vv (CXe P w) P w K mg base N qual scope f cd A outer s H E) x T) (L:=s.heap.objs.size) I.ok.frames (yez I) rfl n yer yuw λy ⟨k,l,u,j⟩=>?_;let⟨d,o,e,p⟩:=Ê I h r k l u j;have a:∀{b},Fy (vv (CXe P w) P w K mg base N qual scope f cd A outer s H E) c g b->g b=none/\s.heap.get? b=none:=λi=>⟨i.1,i.2.2.2.1.resolve_left (by intro z;cases z)⟩;exists x,o,C,g,rfl,d.os,d.bare,d.base,d.hok,a h,a e,p,q
def yl7{w:qd}{K:z3}{mg:Ε}{base:qf}{N:Τ}{f:z4}{A:qe}{outer:qi Env}{s:qa}{H:Hp}{E:XK}
  {pins:Θ} {σ:St} {H1:Hp} {s1:qa} {h':qf} {x:z4} {C:qb} {vs:Ο} (I:Inv (vv (CXe P w) P w K mg base N qual scope f cd A outer s H E) pins σ H1 s1) (m:Heap.MadeExcOf s1.heap h' x C vs) (q:E C none H1):
  (vv (CXe P w) P w K mg base N qual scope f cd A outer s H E).xe (.ref x) {s1 with heap:=h'}:=by
 let⟨t,o,_,_⟩:=m.there;have d:Fy (vv (CXe P w) P w K mg base N qual scope f cd A outer s H E) pins H1 x:=ye5 I m.new (I.hok.none_of m.new);have g:Inv (vv (CXe P w) P w K mg base N qual scope f cd A outer s H E) pins σ H1 {s1 with heap:=h'}:=I.kept (t':=s1.toks) m.keeps;show wpAny _ _ (leaving _ _) _ _ _
 refine wpAny_leaving_firstW (base:=hid {s1 with heap:=h'} (vv (CXe P w) P w K mg base N qual scope f cd A outer s H E) x x) (L:=s.heap.objs.size) (a0:=.ref t) g.ok.frames (yez g) rfl o yer yuw rfl rfl rfl λj ⟨n,i,l,k⟩=>?_
 let⟨c,p,e,t'⟩:=Ê g d d n i l k;have a:∀{b},Fy (vv (CXe P w) P w K mg base N qual scope f cd A outer s H E) pins H1 b->H1 b=none/\s.heap.get? b=none:=λh=>⟨h.1,h.2.2.2.1.resolve_left (by intro z;cases z)⟩;exists x,p,C,H1,rfl,c.os,c.bare,c.base,c.hok,a d,a e,t',q
def yjw(sp:Sp)(dvs:Υ)(Ex:St->XK)(t:TA):TE:=λσ H Q=>t σ H λvs H1=>sp (vs++dvs) H1 Q (Ex σ)
def ybg(C:z4)(m:Str)(sp:Sp)(dvs:Υ)(Ex:St->XK)(ta:TE)(t:TA):TE:=λσ H Q=>ta σ H λx H1=>∃a dx fs,x=.ref a/\H1 a=some (.ins C dx fs)/\fs.lookup m=none/\
 t σ H1 λvs H2=>sp (x::(vs++dvs)) H2 Q (Ex σ)
def yo5(C:z4)(sp:Sp)(dvs:Υ)(Ex:St->XK)(t:TA):TE:=λσ H Q=>t σ H λvs H1=>∀x dx,H1 x=none->H1 dx=none->dx≠x ->
 sp (.ref x::(vs++dvs)) (upd (upd H1 dx (.own x)) x (.ins C dx [])) (λv H2=>v=.non/\Q (.ref x) H2) (Ex σ)
section
variable{X:Cx}{k:Nat}{f:z4}{fd:FuncData}{ps:Τ}{sp:Sp}{dvs:Υ}{ds:Ο}{Ex:St->XK}{x m:Str}{p pos apos:Pos}{e o:qg}{es:qi qg}{ta:TE}{t:TA}
def Inv.came{σ:St}{H:Hp}{s s':qa}{v:qb}(I:Inv X pins σ H s)(hc:ž X Ex)(h:CXe X.prog X.w X.stack H s (Ex σ) v s'):X.xe v s':=by let⟨y,T,D,f,rfl,i,a,j,c,e,d,g,q⟩:=h;exact hc pins σ f s' y T D (I.call' i j c a λb z=>absurd z (by simp)) (ye5 I e.2 e.1) (ye5 I d.2 d.1) g q
def yjc{σ:St}{H:Hp}{s:qa}{Q:VK}{us:Ο}{vs:Υ}(F:vq X.prog X.w X.K X.mg X.base (CXe X.prog X.w) k f fd ps sp)(hr:jp k X.A)(hb:zr X.K fd ps ds)(hd:wo dvs ds)(hc:ž X Ex)
  (I:Inv X pins σ H s) (r:wo vs us) (h:sp (vs++dvs) H Q (Ex σ)):wpAny (model X.prog X.w) X.A (call (.ref f) us) (EP X pins σ Q) X.xe s:=by
 have b:wo (vs++dvs) (us++ds):=r.append hd;have c:(us++ds).length=ps.length:=by rw[<- b.length];exact F.len _ _ _ _ h
 refine wpAny_call (codeAny_mono (F.run X.A X.stack s H ⟨us,[]⟩ (us++ds) (vs++dvs) Q (Ex σ) hr I.env0 (hb s us I.kIn c) b h) λr d a=>?_)
 cases r with
 |error e=>exact I.came hc a
 |ok fl =>
  cases fl with
  |ret u=>exact I.after a
  |next=>exact False.elim a
  |brk=>exact False.elim a
  |cont=>exact False.elim a
def ym6(F:vq X.prog X.w X.K X.mg X.base (CXe X.prog X.w) k f fd ps sp)(hr:jp k X.A)(hg:Gl X x)(hm:X.mg x=some (.ref f))(hk:W.keepIn X.K (.ref f)=true)(hb:zr X.K fd ps ds)(hd:wo dvs ds)(hc:ž X Ex)
  (ha:PA X (e::es) t) (hdb:(x == ("__debug__":Str))=false:=by decide) (he:starEach (e::es) X.env=(false,eval e X.env)::starEach es X.env:=by rfl) (hpl:(backTo pos (starEach es X.env)).any (·.1)=false:=by rfl):
  PE X (.Call (.Name x p) (e::es) [] pos) (yjw sp dvs Ex t):=by refine .mk λa s σ H Q I h=>?_;refine wpAny_Call_Name_kw (Ä I hg hm ?_ hdb);refine W.callWith_K (h₀:=X.base) I.ok.mod.kin hk (thn (ha pos a s σ H _ I h) λg c ⟨d,i,b,r,q⟩=>⟨b.kIn,?_⟩) he hpl;exact yjc F hr hb hd hc b r q
def yv{pl:Sem Bool}(he:PE X o ta)(c:Cls X.K C)(hm:yw4 X.K C m f)(F:vq X.prog X.w X.K X.mg X.base (CXe X.prog X.w) k f fd ps sp)(hr:jp k X.A)(hb:zr X.K fd ps ds)(hd:wo dvs ds)(hc:ž X Ex)(ha:PA X (e::es) t)
  (hst:starEach (e::es) X.env=(false,eval e X.env)::starEach es X.env:=by rfl) (hpl:(backTo pos (starEach es X.env)).any (·.1)=false:=by rfl)
  (ht:eval (.Call (.Attribute o m apos) (e::es) [] pos) X.env=(do
   let ov <- eval o X.env
   standAt apos.atName
   let (f,first) <- holding [ov] (getMethod ov m pl)
   callWith pos f first (backTo pos (starEach (e::es) X.env)) (backToKw pos (keywordEach [] X.env))):=by rfl):
  PE X (.Call (.Attribute o m apos) (e::es) [] pos) (ybg C m sp dvs Ex ta t):=by
 refine .mk λb s σ H Q I h=>?_;refine W.methodCall_KW (pl:=pl) (thn (he b s σ H _ I h) λu n h'=>?_) ht;let⟨x,y,g,i,a,B,D,p,j,l,q⟩:=h';subst p;obtain rfl:u=Value.ref a:=i;refine á g j c hm l ?_
 refine W.callWith_K (first:=[.ref a]) (h₀:=X.base) I.ok.mod.kin hm.kp (thn (ha pos b n σ y _ g q) λus z ⟨vs,E,d,r,v⟩=>⟨d.kIn,?_⟩) hst hpl
 exact yjc (us:=.ref a::us) (vs:=.ref a::vs) F hr hb hd hc d (.cons rfl r) v
def yif{σ:St}{H:Hp}{s:qa}{Q:VK}{us:Ο}{vs:Υ}(M:Mk X.K C f)(F:vq X.prog X.w X.K X.mg X.base (CXe X.prog X.w) k f fd ps sp)(hr:jp (k+1) X.A)(hb:zr X.K fd ps ds)(hd:wo dvs ds)
  (hc:ž X Ex) (I:Inv X pins σ H s) (r:wo vs us)
  (h:∀x dx,H x=none->H dx=none->dx≠x->sp (.ref x::(vs++dvs)) (upd (upd H dx (.own x)) x (.ins C dx [])) (λv H2=>v=.non/\Q (.ref x) H2) (Ex σ)):
  wpAny (model X.prog X.w) X.A (call (.ref C) us) (EP X pins σ Q) X.xe s:=by
 have c:=h (s.heap.objs.size+1) s.heap.objs.size (I.hok.fresh (Nat.le_succ _)) (I.hok.fresh (cq _)) (cV (Nat.lt_succ_self _));have b:=Inv.made (C:=C) I;have d:wo (V.ref (s.heap.objs.size+1)::(vs++dvs)) (Value.ref (s.heap.objs.size+1)::(us++ds)):=.cons rfl (r.append hd)
 have l:(Value.ref (s.heap.objs.size+1)::us++ds).length=ps.length:=by
  have e:=d.length;rw[F.len _ _ _ _ c]at e;exact e.symm
 refine wpAny_call (yed (f:=f) I.kIn M.makes M.init (beq_iff_eq.mp M.fn) (codeAny_mono (F.run _ X.stack _ _ ⟨Value.ref (s.heap.objs.size+1)::us,[]⟩ (Value.ref (s.heap.objs.size+1)::(us++ds)) _ _ (Ex σ) (hr.make C us [])
  (b.env0.make C us []) (hb _ (Value.ref (s.heap.objs.size+1)::us) b.kIn l) d c) λr o a=>?_))
 cases r with
 |error e=>exact b.came hc a
 |ok fl =>
  cases fl with
  |ret u =>
   let⟨v,g,j,n,m,i⟩:=b.after a;subst m;exists n,⟨V.ref (s.heap.objs.size+1),g,j,rfl,i⟩
  |next=>exact False.elim a
  |brk=>exact False.elim a
  |cont=>exact False.elim a
def xz(M:Mk X.K C f)(F:vq X.prog X.w X.K X.mg X.base (CXe X.prog X.w) k f fd ps sp)(hr:jp (k+1) X.A)(hg:Gl X x)(hm:X.mg x=some (.ref C))(hb:zr X.K fd ps ds)(hd:wo dvs ds)(hc:ž X Ex)
  (ha:PA X (e::es) t) (hdb:(x == ("__debug__":Str))=false:=by decide) (he:starEach (e::es) X.env=(false,eval e X.env)::starEach es X.env:=by rfl) (hpl:(backTo pos (starEach es X.env)).any (·.1)=false:=by rfl):
  PE X (.Call (.Name x p) (e::es) [] pos) (yo5 C sp dvs Ex t):=by refine .mk λa s σ H Q I h=>?_;refine wpAny_Call_Name_kw (Ä I hg hm ?_ hdb);refine W.callWith_K (h₀:=X.base) I.ok.mod.kin M.kp (thn (ha pos a s σ H _ I h) λg c ⟨d,i,b,r,q⟩=>⟨b.kIn,?_⟩) he hpl;exact yif M F hr hb hd hc b r q
end
theorem PS.nox{X:Cx}{t:TS}(h:PS X.nox st t):PS X st t:=.mk λa s σ H D I b =>
 dR (h a s σ H D (I.wish _) b) (λZ Z q=>q.unwish) λZ Z z=>False.elim z
section
variable{w:qd}{K:z3}{mg:Ε}{base:qf}
def y9{X:Cx}:ž X (λZ Z Z Z=>False):=λZ Z Z Z Z Z Z Z Z Z Z q=>q.elim
def Fun.okE{x:Str}{f:z4}{fd:FuncData}{N ps:Τ}{k:Nat}{sp:Sp}(F:Fun K x qual st f fd)(S:yi N ps (yd st))(len:∀vs H Q E,sp vs H Q E->vs.length=ps.length)
  (hbody:∀(cdv:qb)(A:qe)(outer:qi Env)(s:qa)(H:Hp)(vs:Υ)(Q:VK)(E:XK),jp k (A.deeper (envOfC qual (yd st) s.heap.objs.size f cdv))->sp vs H Q E ->
   ∃t,PSs (vv (CXe P w) P w K mg base N qual (yd st) f cdv A outer s H E) (wu st) t/\t { nx:=λZ H'=>Q .non H',rt:=Q} (ù N vs) H):vq P w K mg base (CXe P w) (k+1) f fd ps sp:=by let⟨j,h,kV,d,l,m,cdv,i,c,rfl,e,b⟩:=F.ex;exact yvk e b S len λA outer s H vs Q E g a=>hbody cdv A outer s H vs Q E g a
end
abbrev bmV:Ο:=[.type "ValueError",.type "Exception",.type "BaseException",.type "object"]
abbrev XMk(K:z3)(C:z4):Prop:=W.excIn K C bmV "ValueError.__new__"=true
set_option tactic.hygienic true in
def yt3{K:z3}{h:qf}{bmB:Ο}{newId:String}(X:K.In h)(q:W.excIn K C bmB newId=true):
  ∃bm N nm qn bs hdct sn sub ab col dd k0 k1 k2 k3 k5 mN,h.get? C=some (excClassObj nm qn C N bs bm hdct sn sub ab col dd k0 k1 k2 k3 k5 newId)/\h.Ns N mN/\mN "__init__"=none/\OwnTail h bmB bm:=by
 unfold W.excIn at q
 split at q
 .rename_i dd cd sl ho
  split at q
  .rename_i C' bm k0 k1 k2 k3 n k5 hm d
   simp only[cR,beq_iff_eq,Bool.not_eq_true']at q;let⟨⟨⟨⟨⟨rfl,rfl⟩,a⟩,f⟩,b⟩,c⟩:=q;let⟨nm,bs,j,e,qn,g,sn,sub,ab,col,i⟩:=cd;dsimp only at hm a b c;subst hm a;let⟨l⟩:=sl;have d:l=[k0,k1,k2,k3,some (.builtin n),k5]:=d;subst d;exists bm,e,nm,qn,bs,g,sn,sub,ab,col,dd,k0,k1,k2,k3,k5,_,X _ _ ho,.of_isNs (W.isNs_of_in X b),W.nsMap_none_of_in X b c,W.tail_of_in X f
  .cases q
 .cases q
def ypi(E:XK)(C:z4)(t:TA):TS:=λZ σ H=>t σ H λvs H1=>vs.length<=sizeLine/\E (.ref C) none H1
def wy{w:qd}{K:z3}{mg:Ε}{base:qf}{N:Τ}{f:z4}{A:qe}{outer:qi Env}{s:qa}{H:Hp}{E:XK}
  {C:z4} {x:Str} {np cpos pos:Pos} {e₀:qg} {xk:qi qg} {t:TA} (hg:Gl (vv (CXe P w) P w K mg base N qual scope f cd A outer s H E) x) (hm:mg x=some (.ref C)) (hC:XMk K C)
  (ha:PA (vv (CXe P w) P w K mg base N qual scope f cd A outer s H E) (e₀::xk) t)
  (he:starEach (e₀::xk) (envOfC qual scope s.heap.objs.size f cd)=(false,eval e₀ (envOfC qual scope s.heap.objs.size f cd))::starEach xk (envOfC qual scope s.heap.objs.size f cd):=by rfl)
  (hplain:(backTo cpos (starEach xk (envOfC qual scope s.heap.objs.size f cd))).any (·.1)=false:=by rfl) (hdb:(x == ("__debug__":Str))=false:=by decide):
  PS (vv (CXe P w) P w K mg base N qual scope f cd A outer s H E) (.Raise (some (.Call (.Name x np) (e₀::xk) [] cpos)) none pos) (ypi E C t):=by
 refine .mk λa k σ o D I h=>?_;let⟨u,j,nm,q,bs,hdct,sn,sub,ab,col,dd,k0,k1,k2,k3,k5,mN,g,l,c,T⟩:=yt3 I.mod.kin hC;refine wpAny_Raise_call_subT (C:=C) (nm:=nm) (q:=q) (N:=j) (bs:=bs) (bm:=u) (hdct:=hdct) (sn:=sn) (sub:=sub) (ab:=ab) (col:=col) (dd:=dd) (k0:=k0) (k1:=k1) (k2:=k2) (k3:=k3) (k5:=k5)
  F.excBase_ValueError (mN:=mN) (T.hasType F.excBase_ValueError.hasBase) (I.ok.hd rfl) (by
   show (backTo cpos (starEach (e₀::xk) (envOfC qual scope s.heap.objs.size f cd))).any (·.1)=false;rw[he];show (false || (backTo cpos (starEach xk (envOfC qual scope s.heap.objs.size f cd))).any (·.1))=false;rw[hplain];rfl) c (Ä I hg hm ⟨rfl,?_⟩ hdb)
 have i:=ha cpos a k σ o _ I h;have d:starEach (e₀::xk) (vv (CXe P w) P w K mg base N qual scope f cd A outer s H E).env=(false,eval e₀ (vv (CXe P w) P w K mg base N qual scope f cd A outer s H E).env)::starEach xk (vv (CXe P w) P w K mg base N qual scope f cd A outer s H E).env:=he;rw[d]at i⊢;refine Calls.evalArgs_plain (dR i (by rintro G s₂ ⟨z,v,b,r,p,n⟩;exact⟨rfl,by rw[<- r.length];exact p,b.bk _ _ g,l.keeps b.bk,T.keeps b.bk,λB y m=>yl7 b m n⟩) λZ Z y=>y)
section
variable{X:Cx}{σ:St}{H:Hp}{s:qa}{x T:z4}
abbrev Cx.pnd(X:Cx)(pn:Θ):Cx:={X with pn:=pn}
theorem Cx.Ok.pnd(ok:X.Ok)(pn:Θ):(X.pnd pn).Ok :=
 ⟨ok.mod,ok.kind,ok.glob,ok.blt,ok.above,ok.inj,ok.has,ok.cab,ok.hd,ok.frames,ok.stk,ok.exf,ok.bs,ok.bsz,ok.noex,ok.exfs,ok.funs,ok.frf⟩
def Cx.Ok.unpnd{pn:Θ}(ok:(X.pnd pn).Ok):X.Ok :=
 ⟨ok.mod,ok.kind,ok.glob,ok.blt,ok.above,ok.inj,ok.has,ok.cab,ok.hd,ok.frames,ok.stk,ok.exf,ok.bs,ok.bsz,ok.noex,ok.exfs,ok.funs,ok.frf⟩
theorem Inv.pnd(I:Inv X pins σ H s):Inv (X.pnd (X.pn++pins)) [] σ H s :=
 ⟨I.ok.pnd _,I.os,I.bare,I.base,I.loc,I.cell,I.free,I.freeC,λp a=>I.pin p (by simpa using a),I.hok,I.len⟩
theorem Inv.unpnd{ps:Θ}(I:Inv (X.pnd (X.pn++pins)) ps σ H s):Inv X pins σ H s :=
 ⟨I.ok.unpnd,I.os,I.bare,I.base,I.loc,I.cell,I.free,I.freeC,λp a=>I.pin p (dP _ a),I.hok,I.len⟩
def XT(Y:Cx)(Ex:St->XK)(e:qb)(s':qa):Prop:=∃pins σ H x T C,e=.ref x/\Inv Y pins σ H s'/\Fy Y pins H x/\Fy Y pins H T/\Trd s'.heap x T C .none/\Ex σ C none H
abbrev Cx.tr(X:Cx)(pn:Θ)(Ex:St->XK):Cx:=(X.pnd pn).wish (XT (X.pnd pn) Ex)
end
variable{X:Cx}
def Ă.un(D:Ă)(i:Nat):Ă:=⟨λσ H=>D.nx (σ.set i none) H,D.rt,λσ H=>D.bk (σ.set i none) H,λσ H=>D.ct (σ.set i none) H⟩
section
variable{σ:St}{H:Hp}{Q:VK}{tr:TA}{ta:TE}{nx:Ζ}{rt:VK}{bk ct:Ζ}{ts:TS}
def yss{sp:Sp}{dvs:Υ}{Ex:St->XK}(h:tr σ H λvs H1=>sp (vs++dvs) H1 Q (Ex σ)):yjw sp dvs Ex tr σ H Q:=h
def ŷ{m:Str}{sp:Sp}{dvs:Υ}{Ex:St->XK}(h:ta σ H λx H1=>∃a dx fs,x=.ref a/\H1 a=some (.ins C dx fs)/\fs.lookup m=none/\tr σ H1 λvs H2=>sp (x::(vs++dvs)) H2 Q (Ex σ)):ybg C m sp dvs Ex ta tr σ H Q:=h
def ysi{sp:Sp}{dvs:Υ}{Ex:St->XK}(h:tr σ H λvs H1=>∀x dx,H1 x=none->H1 dx=none->dx≠x->sp (.ref x::(vs++dvs)) (upd (upd H1 dx (.own x)) x (.ins C dx [])) (λv H2=>v=.non/\Q (.ref x) H2) (Ex σ)):yo5 C sp dvs Ex tr σ H Q:=h
def yrd{E:XK}{D:Ă}(h:tr σ H λvs H1=>vs.length<=sizeLine/\E (.ref C) none H1):ypi E C tr D σ H:=h
end
section
variable{κ:Type}[DecidableEq κ]
def u8(kvs:qi (κ×V))(k:κ):Ψ:=(kvs.find? λkv=>decide (kv.1=k)).map (·.2)
def ö(kvs:qi (κ×V))(k:κ)(v:V):qi (κ×V) :=
 if (kvs.any λkv=>decide (kv.1=k))=true then kvs.map (λkv=>if kv.1=k then (kv.1,v)else kv)else kvs++[(k,v)]
def ø(kvs:qi (κ×V))(k:κ):qi (κ×V):=kvs.filter λkv=>decide (kv.1≠k)
def xr{p:κ×V}{r:qi (κ×V)}{k:κ}(e:p.1=k):u8 (p::r) k=some p.2:=by simp[u8,List.find?_cons,e]
def xq{p:κ×V}{r:qi (κ×V)}{k:κ}(e:¬p.1=k):u8 (p::r) k=u8 r k:=by simp[u8,List.find?_cons,e]
theorem ja(k:κ):∀kvs:qi (κ×V),(kvs.any λkv=>decide (kv.1=k))=(u8 kvs k).isSome
 |[]=>rfl
 |p::r=>by
  rw[List.any_cons];by_cases e:p.1=k
  .simp only[xr e,cz e,Bool.true_or,Option.isSome_some]
  .rw[xq e,cH e,Bool.false_or];exact ja k r
theorem yec(k j:κ)(y:V):∀kvs:qi (κ×V),u8 (kvs.map λkv=>if kv.1=k then (kv.1,y)else kv) j=(u8 kvs j).map λx=>if j=k then y else x
 |[]=>rfl
 |p::r=>by
  have a:=yec k j y r;rw[db];by_cases h:p.1=k
  .rw[if_pos h];by_cases e:p.1=j
   .rw[xr (p:=(p.1,y)) e,xr e,dS,if_pos (e.symm.trans h)]
   .rw[xq (p:=(p.1,y)) e,xq e,a]
  .rw[if_neg h];by_cases e:p.1=j
   .rw[xr (p:=p) e,xr e,dS,if_neg (λz=>h (e.trans z))]
   .rw[xq (p:=p) e,xq e,a]
theorem yaq(k j:κ)(y:V):∀kvs:qi (κ×V),u8 kvs k=none->u8 (kvs++[(k,y)]) j=if j=k then some y else u8 kvs j
 |[],_=>by
  by_cases e:k=j
  .rw[if_pos e.symm];exact xr (p:=(k,y)) e
  .rw[if_neg (λz=>e z.symm)];exact xq (p:=(k,y)) e
 |p::r,hn=>by
  rw[List.cons_append];have a:¬p.1=k:=λz=>by rw[xr z]at hn;cases hn
  rw[xq a]at hn;have b:=yaq k j y r hn;by_cases e:p.1=j
  .rw[xr e,xr e,if_neg (λz=>a (e.trans z))]
  .rw[xq e,xq e,b]
def ι(kvs:qi (κ×V))(k j:κ)(y:V):u8 (ö kvs k y) j=if j=k then some y else u8 kvs j:=by
 unfold ö;by_cases a:(kvs.any λc=>decide (c.1=k))=true
 .rw[if_pos a,yec];rw[ja]at a;by_cases e:j=k
  .obtain⟨x,b⟩:=Option.isSome_iff_exists.mp a;rw[if_pos e,e,b,dS,if_pos rfl]
  .rw[if_neg e]
   cases u8 kvs j with
   |none=>rfl
   |some x=>rw[dS,if_neg e]
 .rw[if_neg a];refine yaq k j y kvs ?_;rw[ja]at a
  cases q:u8 kvs k with
  |none=>rfl
  |some x=>rw[q]at a;exact(a rfl).elim
def ċ(kvs:qi (κ×V))(k:κ)(v:V):(ö kvs k v).length<=kvs.length+1:=by
 unfold ö
 split
 .rw[bI];omega
 .rw[cj,cO,List.length_nil];omega
def jb{kvs:qi (κ×V)}{k:κ}(v:V)(h:u8 kvs k=none):ö kvs k v=kvs++[(k,v)]:=by unfold ö;rw[ja,h];exact if_neg ∅
def ybv.isSome_eq{o:Ψ}{u:qj qb}(r:ybv o u):o.isSome=u.isSome:=by
 cases o with
 |none=>cases u with
  |none=>rfl
  |some _=>exact(show False from r).elim
 |some _=>cases u with
  |none=>exact(show False from r).elim
  |some _=>rfl
def KV.val{kvs:qi (κ×V)}{vs:qi (κ×qb)}(r:KV kvs vs)(k:κ):ybv (u8 kvs k) (valueAt vs k):=by
 unfold KV at r
 induction r with
 |nil=>exact True.intro
 | @cons p q ps qs h t ih =>
  let⟨c,d⟩:=h;by_cases e:p.1=k
  .have a:q.1=k:=c.symm.trans e;have b:valueAt (q::qs) k=some q.2:=by simp[valueAt,List.find?_cons,a]
   rw[xr e,b];exact d
  .have a:¬q.1=k:=λz=>e (c.trans z);have b:valueAt (q::qs) k=valueAt qs k:=by simp[valueAt,List.find?_cons,a]
   rw[xq e,b];exact ih
theorem KV.any{kvs:qi (κ×V)}{vs:qi (κ×qb)}(r:KV kvs vs)(k:κ):(kvs.any λkv=>decide (kv.1=k))=vs.any λkv=>decide (kv.1=k):=by
 unfold KV at r
 induction r with
 |nil=>rfl
 |cons h t ih=>rw[List.any_cons,List.any_cons,ih,h.1]
def KV.repl{kvs:qi (κ×V)}{vs:qi (κ×qb)}(r:KV kvs vs)(k:κ){y:V}{u:qb}(ry:xj y u):
  KV (kvs.map λkv=>if kv.1=k then (kv.1,y)else kv) (vs.map λkv=>if kv.1=k then (kv.1,u)else kv):=by
 unfold KV at r⊢
 induction r with
 |nil=>exact .nil
 | @cons p q ps qs h t ih =>
  rw[db,db];refine .cons ?_ ih;let⟨a,b⟩:=h;by_cases e:p.1=k
  .rw[if_pos e,if_pos (a.symm.trans e)];exists a,ry
  .rw[if_neg e,if_neg (λz=>e (a.trans z))];exists a,b
def KV.put{kvs:qi (κ×V)}{vs:qi (κ×qb)}(r:KV kvs vs)(k:κ){y:V}{u:qb}(ry:xj y u):KV (ö kvs k y) (stored vs k u):=by
 unfold ö stored;rw[r.any k];by_cases e:(vs.any λa=>decide (a.1=k))=true
 .rw[if_pos e,if_pos e];exact r.repl k ry
 .rw[if_neg e,if_neg e];exact Paired.snoc r ⟨rfl,ry⟩
def KV.drop{kvs:qi (κ×V)}{vs:qi (κ×qb)}(r:KV kvs vs)(k:κ):KV (ø kvs k) (without vs k):=by
 unfold KV at r⊢;unfold ø without
 induction r with
 |nil=>exact .nil
 | @cons p q ps qs h t ih =>
  let⟨c,f⟩:=h;rw[List.filter_cons,List.filter_cons];by_cases e:p.1=k
  .have a:¬decide (p.1≠k)=true:=by simp[e]
   have b:¬decide (q.1≠k)=true:=by simp[c.symm.trans e]
   rw[if_neg a,if_neg b];exact ih
  .have d:¬q.1=k:=λz=>e (c.trans z);have a:decide (p.1≠k)=true:=by simp[e]
   have b:decide (q.1≠k)=true:=by simp[d]
   rw[if_pos a,if_pos b];exact .cons ⟨c,f⟩ ih
theorem KV.length{kvs:qi (κ×V)}{vs:qi (κ×qb)}(r:KV kvs vs):kvs.length=vs.length:=Paired.length r
def yno(kvs:qi (κ×V))(k:κ):(ø kvs k).length<=kvs.length:=List.length_filter_le _ _
end
def ygd{w:qd}{k:Key}{u:qb}(r:xj (kV k) u):(wg P w).is k u=true:=by
 cases k with
 |inl i=>let⟨t,e⟩:=(show ∃t,u=Value.int i t from r);subst e;exact ycn P w i t
 |inr x=>let⟨t,e⟩:=(show ∃t,u=Value.str x t from r);subst e;exact yca P w x t
theorem ybc{w:qd}:∀{ks:qi Key}{us:Ο},wo (ks.map kV) us->ItemsAre (wg P w) ks us
 |[],_,r=>by rw[List.map_nil]at r;cases r;exact .nil
 |k::ks,_,r=>by
  rw[db]at r
  cases r with
  |cons h t=>exact .cons (ygd h) (ybc t)
abbrev KT(H:Hp):qi (qi Key×V)->qi (qi Key×z4×qb)->Prop:=Paired λp q=>p.1=q.1/\H q.2.1=some (.tup (p.1.map kV))/\xj p.2 q.2.2
def KT.val{H:Hp}{kvs:qi (qi Key×V)}{xs:qi (qi Key×z4×qb)}(r:KT H kvs xs)(k:qi Key):ybv (u8 kvs k) ((atKey xs k).map (·.2)):=by
 induction r with
 |nil=>exact True.intro
 | @cons p q ps qs h t ih =>
  let⟨c,_,d⟩:=h;by_cases e:p.1=k
  .have a:q.1=k:=c.symm.trans e;have b:atKey (q::qs) k=some q.2:=by simp[atKey,List.find?_cons,a]
   rw[xr e,b];exact d
  .have a:¬q.1=k:=λz=>e (c.trans z);have b:atKey (q::qs) k=atKey qs k:=by simp[atKey,List.find?_cons,a]
   rw[xq e,b];exact ih
def KT.repl{H:Hp}{kvs:qi (qi Key×V)}{xs:qi (qi Key×z4×qb)}(r:KT H kvs xs)(k:qi Key){y:V}{u:qb}(ry:xj y u):
  KT H (kvs.map λkv=>if kv.1=k then (kv.1,y)else kv) (xs.map (putAt k u)):=by
 induction r with
 |nil=>exact .nil
 | @cons p q ps qs h t ih =>
  rw[db,db];refine .cons ?_ ih;let⟨a,b,c⟩:=h;unfold putAt;by_cases e:p.1=k
  .rw[if_pos e,if_pos (a.symm.trans e)];exact⟨a,b,ry⟩
  .rw[if_neg e,if_neg (λz=>e (a.trans z))];exact⟨a,b,c⟩
def KT.put{H:Hp}{kvs:qi (qi Key×V)}{xs:qi (qi Key×z4×qb)}(r:KT H kvs xs)(k:qi Key){b:z4}{y:V}{u:qb}(hb:H b=some (.tup (k.map kV)))(ry:xj y u):
  KT H (ö kvs k y) (storedH xs k b u):=by
 have e:(kvs.any λa=>decide (a.1=k))=(atKey xs k).isSome:=by
  rw[ja,(r.val k).isSome_eq,Option.isSome_map]
 unfold ö storedH;rw[e];by_cases q:(atKey xs k).isSome=true
 .rw[if_pos q,if_pos q];exact r.repl k ry
 .rw[if_neg q,if_neg q];exact Paired.snoc r ⟨rfl,hb,ry⟩
def KT.keeps{H H':Hp}{kvs:qi (qi Key×V)}{xs:qi (qi Key×z4×qb)}(r:KT H kvs xs)(ht:∀b ys,H b=some (.tup ys)->H' b=some (.tup ys)):KT H' kvs xs :=
 Paired.mapP r λZ Z z=>⟨z.1,ht _ _ z.2.1,z.2.2⟩
section
variable{w:qd}{H:Hp}{h:qf}
def vda{u:HO}(ok:HOk P w H h)(e:Rd H a u):w8 P w H h a u:=e.ok ok
def yc8{kvs:Κ}(ok:HOk P w H h)(e:Rd H a (.dK kvs)):kvs.length<=sizeLine/\(a == sysModules)=false/\∃vs,KV kvs vs/\h.DictOf (wg P w) a vs :=
 show w8 P w H h a (.dK kvs)from vda ok e
def vdd{kvs:Κ}(ok:HOk P w H h)(e:H a=some (.dK kvs)):kvs.length<=sizeLine/\(a == sysModules)=false/\∃vs,KV kvs vs/\h.DictOf (wg P w) a vs:=yc8 ok (.inl e)
def ybo{ks:qi Key}(ok:HOk P w H h)(e:H a=some (.tup (ks.map kV))):(tupleKind (wg P w)).is h ks a:=by let⟨_,b,r,o,d,f,n,c⟩:=(show w8 P w H h a (.tup (ks.map kV))from ok a _ e);exists o,b.toArray,n,d,f,c,by simpa using ybc r
def ygc{kvs:qi (qi Key×V)}(ok:HOk P w H h)(e:Rd H a (.dT kvs)):kvs.length<=sizeLine/\(a == sysModules)=false/\
  ∃xs,KT H kvs xs/\h.DictOfH (tupleKind (wg P w)) a xs:=by
 let⟨z,y,xs,r,o,k,d,f,n,j,i,g⟩:=(show w8 P w H h a (.dT kvs)from vda ok e);exists z,y,xs,r,o,k,d,f,n,j,i,λx b=>?_,g
 have c:∀{l:qi (qi Key×V)}{m:qi (qi Key×z4×qb)},KT H l m->∀x∈m,(tupleKind (wg P w)).is h x.1 x.2.1:=by
  intro l m q
  induction q with
  |nil=>intro x b;exact nomatch b
  | @cons p q ps qs hq t ih =>
   intro x b;rcases cG.mp b with e|b
   .subst e;exact ybo ok (by rw[<- hq.1];exact hq.2.1)
   .exact ih x b
 exact c r x b
def vea{kvs:qi (qi Key×V)}(ok:HOk P w H h)(e:H a=some (.dT kvs)):kvs.length<=sizeLine/\(a == sysModules)=false/\
  ∃xs,KT H kvs xs/\h.DictOfH (tupleKind (wg P w)) a xs:=ygc ok (.inl e)
end
def Ī(H:Hp)(a:z4)(y:V)(r:Ψ):Prop :=
 (∃kvs k,Rd H a (.dK kvs)/\y=kV k/\r=u8 kvs k)\/∃kvs k b,Rd H a (.dT kvs)/\y=.ref b/\H b=some (.tup (k.map kV))/\r=u8 kvs k
def ydc(H:Hp)(a:z4)(y v:V)(H':Hp):Prop :=
 (∃kvs k,H a=some (.dK kvs)/\y=kV k/\kvs.length<sizeLine/\H'=upd H a (.dK (ö kvs k v))) \/
 ∃kvs k b,H a=some (.dT kvs)/\y=.ref b/\H b=some (.tup (k.map kV))/\kvs.length<sizeLine/\H'=upd H a (.dT (ö kvs k v))
theorem Ī.k{H:Hp}{kvs:Κ}{k:Key}(e:H a=some (.dK kvs)):Ī H a (kV k) (u8 kvs k):=.inl ⟨kvs,k,.inl e,rfl,rfl⟩
def Ī.t{H:Hp}{b:z4}{kvs:qi (qi Key×V)}{k:qi Key}(e:H a=some (.dT kvs))(eb:H b=some (.tup (k.map kV))):Ī H a (.ref b) (u8 kvs k):=.inr ⟨kvs,k,b,.inl e,rfl,eb,rfl⟩
theorem ydc.k{H:Hp}{kvs:Κ}{k:Key}{v:V}(e:H a=some (.dK kvs))(hl:kvs.length<sizeLine):ydc H a (kV k) v (upd H a (.dK (ö kvs k v))):=.inl ⟨kvs,k,e,rfl,hl,rfl⟩
def ydc.t{H:Hp}{b:z4}{kvs:qi (qi Key×V)}{k:qi Key}{v:V}(e:H a=some (.dT kvs))(eb:H b=some (.tup (k.map kV)))(hl:kvs.length<sizeLine):
  ydc H a (.ref b) v (upd H a (.dT (ö kvs k v))):=.inr ⟨kvs,k,b,e,rfl,eb,hl,rfl⟩
section
variable{σ:St}{H:Hp}{s:qa}{y v:V}{u r:qb}{o:Ψ}{A:qe}
def Inv.big(I:Inv X pins σ H s):sysModules<s.heap.objs.size:=by have h:mainGlobals<s.heap.objs.size:=(I.mod.glob.keeps I.bk).lt;exact Nat.lt_trans ∅ h
def yg2(hu:A.units+1<cLine)(I:Inv X pins σ H s)(g:Ī H a y (some v))(ry:xj y u)(h:∀w' s',Inv X pins σ H s'->xj v w'->Q w' s'):
  wpAny (model X.prog X.w) A (getItem (.ref a) u) Q E s:=by
 rcases g with⟨m,k,e,j,l⟩|⟨m,k,b,e,j,x,l⟩
 .subst j;let⟨z,B,t,c,n⟩:=yc8 I.hok e;let⟨w',i,d⟩:=ybv.some_of (v:=v) (o:=valueAt t k) (by rw[l];exact c.val k);exact wpAny_getItem_of (ygd ry) n.mapOf i (h w' _ (I.tok _) d)
 .subst j;cases (show u=Value.ref b from ry);let⟨z,B,q,c,n⟩:=ygc I.hok e;let⟨w',i,d⟩:=ybv.some_of (v:=v) (o:=(atKey q k).map (·.2)) (by rw[l];exact c.val k);let⟨p,r,f⟩:=dL.mp i;refine wpAny_getItem_heap (tupleKind_room_in1 hu) (ybo I.hok x) n r ?_;rw[f];exact h w' _ (I.tok _) d
def vg6(hu:A.units+1<cLine)(I:Inv X pins σ H s)(g:Ī H a y o)(ry:xj y u)(h:∀s',Inv X pins σ H s'->Q (.bool o.isSome) s'):
  wpAny (model X.prog X.w) A (compareOp .In u (.ref a)) Q E s:=by
 rcases g with⟨f,k,e,d,l⟩|⟨f,k,b,e,d,m,l⟩
 .subst d;let⟨z,j,p,c,i⟩:=yc8 I.hok e;refine wpAny_in_of (ygd ry) j i.mapOf ?_;rw[<- (c.val k).isSome_eq,<- l];exact h _ (I.tok _)
 .subst d;cases (show u=Value.ref b from ry);let⟨z,j,n,c,i⟩:=ygc I.hok e;refine wpAny_in_heap (tupleKind_room_in1 hu) (ybo I.hok m) j i ?_;have q:=(c.val k).isSome_eq;rw[Option.isSome_map]at q;rw[<- q,<- l];exact h _ (I.tok _)
def ytc(hu:A.units+1<cLine)(I:Inv X pins σ H s)(g:Ī H a y o)(ry:xj y u)(h:∀s',Inv X pins σ H s'->Q (.bool (!o.isSome)) s'):
  wpAny (model X.prog X.w) A (compareOp .NotIn u (.ref a)) Q E s:=by
 rcases g with⟨f,k,e,d,l⟩|⟨f,k,b,e,d,m,l⟩
 .subst d;let⟨z,j,p,c,i⟩:=yc8 I.hok e;refine wpAny_notIn_of (ygd ry) j i.mapOf ?_;rw[<- (c.val k).isSome_eq,<- l];exact h _ (I.tok _)
 .subst d;cases (show u=Value.ref b from ry);let⟨z,j,n,c,i⟩:=ygc I.hok e;refine wpAny_notIn_heap (tupleKind_room_in1 hu) (ybo I.hok m) j i ?_;have q:=(c.val k).isSome_eq;rw[Option.isSome_map]at q;rw[<- q,<- l];exact h _ (I.tok _)
def yc1{t':Nat}{ob:HO}(I:Inv X pins σ H s)(mu:Mut (H a))(hs:Heap.SameBut a s.heap h')(he:∃q,h'.get? a=some q)(new:w8 X.prog X.w (upd H a ob) h' a ob):
  Inv X pins σ (upd H a ob) {s with heap:=h',toks:=t'} :=
 I.write (x:=a) (e:=a) mu (.inl rfl) (λb q c z=>(hs.2 b c).trans z) he new
def yqe{w:qd}{H':Hp}{kvs:Κ}{vs:qi (Key×qb)}(z:kvs.length<=sizeLine)(hd:(a == sysModules)=false)(rel:KV kvs vs)(dd:h'.DictOf (wg P w) a vs):
  w8 P w H' h' a (.dK kvs):=⟨z,hd,vs,rel,dd⟩
def ygz{H':Hp}{Q:Unit->qa->Prop}(hu:A.units+1<cLine)(I:Inv X pins σ H s)(g:ydc H a y v H')(ry:xj y u)(rv:xj v r)(h:∀s',Inv X pins σ H' s'->Q ⟨⟩ s'):
  wpAny (model X.prog X.w) A (setItem (.ref a) u r) Q E s:=by
 rcases g with⟨f,k,e,B,l,m⟩|⟨f,k,b,e,B,D,l,m⟩
 .subst B m;let⟨z,n,M,d,t⟩:=vdd I.hok e;have p:M.length<=sizeLine:=by rw[<- d.length];exact z
  have o:(ö f k v).length<=sizeLine:=by have:=ċ f k v;omega
  refine wpAny_setItem_pairs (hsz:=p) (ygd ry) t λC i x=>h _ ?_;have G:∃q,C.get? a=some q:=let ⟨q,_,_,j,_⟩:=i;⟨q,j⟩;exact yc1 I (by rw[e];exact True.intro) x G (yqe o n (d.put k rv) i)
 .subst B m;cases (show u=Value.ref b from ry);let⟨z,n,N,d,t⟩:=vea I.hok e;have p:N.length<=sizeLine:=by rw[<- Paired.length d];exact z
  have o:(ö f k v).length<=sizeLine:=by have:=ċ f k v;omega
  refine wpAny_setItem_heap (hsz:=p) (tupleKind_room_in1 hu) (ybo I.hok D) t λC i x=>h _ ?_;let⟨q,R,K,j,J,P,O,_,L⟩:=i;refine yc1 I (by rw[e];exact True.intro) x ⟨q,j⟩ ⟨o,n,_,(d.put k D rv).keeps λc S F=>?_,q,R,K,j,J,P,O,L⟩
  rw[yk (ww F e (λz=>nomatch z))]
  exact F
end
section
variable{σ:St}{H:Hp}{s:qa}{kvs:Κ}{k:Key}{u:qb}{A:qe}
def ve1{v:V}{more:Ο}(I:Inv X pins σ H s)(e:H a=some (.dK kvs))(ry:xj (kV k) u)(l:u8 kvs k=some v)(hm:more=[]\/∃x,more=[x])
  (h:∀w' s',Inv X pins σ (upd H a (.dK (ø kvs k))) s'->xj v w'->Q w' s'):wpAny (model X.prog X.w) A (call (.builtin "dict.pop") (.ref a::u::more)) Q E s:=by
 let⟨z,B,f,b,g⟩:=vdd I.hok e;let⟨w',p,d⟩:=ybv.some_of (v:=v) (o:=valueAt f k) (by rw[<- l];exact b.val k)
 have n:(keyPart u).isSome=true:=by
  cases k with
  |inl i=>let⟨t,q⟩:=(show ∃t,u=Value.int i t from ry);subst q;rfl
  |inr x=>let⟨t,q⟩:=(show ∃t,u=Value.str x t from ry);subst q;rfl
 have j:argsOk "dict.pop" ⟨.ref a::u::more,[]⟩:=by
  rcases hm with q|⟨x,q⟩
  .subst q;exact PySem.F.args_dict_pop_2 _ _
  .subst q;exact PySem.F.args_dict_pop_3 _ _ _
 refine call_meetsIn PySem.F.slot_dict_pop g.typeIs PySem.F.entry_dict_pop j (meets_dict_pop_there (wg X.prog X.w) a (ygd ry) more hm n)
  ⟨f,w',g,by rw[<- b.length];exact z,p,λr c m=>h w' _ ?_ d⟩
 have y:∃q,r.get? a=some q:=let ⟨q,_,_,hq,_⟩:=c;⟨q,hq⟩;exact yc1 I (by rw[e];exact True.intro) m y (yqe (de (yno kvs k) z) B (b.drop k) c)
def ve3(I:Inv X pins σ H s)(e:Rd H a (.dK kvs))(h:∀t s',Inv X pins σ H s'->Q (.int kvs.length t) s'):wpAny (model X.prog X.w) A (call (.builtin "len") [.ref a]) Q E s:=by let⟨z,d,f,b,c⟩:=yc8 I.hok e;refine call_len_dict d c (by rw[<- b.length];rw[sizeLine_eq]at z;omega) ?_;rw[<- b.length];exact h _ _ (I.tok _)
end
def vge(i:qg):Prop:=∀ov iv,subscripted i false ov iv=operate [ov,iv] (getItem ov iv)
def yr6{prog:qh}{w:qd}{A:qe}{s:qa}{env:Env}{value slice:qg}{pos:Pos}{T id:String} 
  (hl:typeLookup (.type T) "__getitem__"=pure (some (.builtin id))) (hs:vge slice)
  (h:wpAny (model prog w) A (eval value env) (λo s₁=>wpAny (model prog w) A (eval slice env) (λi s₂=>s₂.TypeIs o T/\wpAny (model prog w) A (getItem o i) Q E s₂) E s₁) E s):
  wpAny (model prog w) A (eval (.Subscript value slice pos) env) Q E s:=by
 refine Subscript_ (dR h (λo s₁ h₁=>dR h₁ (λi s₂ h₂=>?_) λZ Z x=>x) λZ Z x=>x);let⟨b,h₂⟩:=h₂;unfold subscriptTail;refine cg ?_;rw[getitemInPython_of_ne b.not_modules];refine cg (wpAny_specialOf b hl ?_)
 have a:wpAny (model prog w) A (subscripted slice false o i) (λr s₃=>wpAny (model prog w) A (letTemporaryGo value o r >>=λZ=>pure r) Q E s₃) E s₂:=by
  rw[hs o i];exact wpAny_operating (dR h₂ (λr s₃ h₃=>cg (wpAny_letTemporaryGo (cr h₃))) λZ Z x=>x)
 first
  |exact cr (cg a)
  |exact cg (cr (cg a))
  |exact cg a
def yco{σ:St}{H:Hp}{s:qa}{y:V}{o:Ψ}(I:Inv X pins σ H s)(g:Ī H a y o):s.TypeIs (.ref a) "dict":=by
 rcases g with⟨c,k,e,_,_⟩|⟨c,k,b,e,_,_,_⟩
 .obtain⟨_,_,h,_,d⟩:=yc8 I.hok e;exact d.typeIs
 .obtain⟨_,_,f,_,d⟩:=ygc I.hok e;exact d.typeIs
def vde(td ty:TE):TE:=λσ H Q=>td σ H λx H1=>ty σ H1 λy H2=>∃a v,x=.ref a/\Ī H2 a y (some v)/\Q v H2
def vgq(ty td:TE):TE:=λσ H Q=>ty σ H λy H1=>td σ H1 λx H2=>∃a o,x=.ref a/\Ī H2 a y o/\Q (.bl o.isSome) H2
def yjd(ty td:TE):TE:=λσ H Q=>ty σ H λy H1=>td σ H1 λx H2=>∃a o,x=.ref a/\Ī H2 a y o/\Q (.bl (!o.isSome)) H2
def vdi(td ty tv:TE):TS:=λD σ H=>tv σ H λv H1=>td σ H1 λx H2=>ty σ H2 λy H3=>∃a H4,x=.ref a/\ydc H3 a y v H4/\D.nx σ H4
section
variable{o i e value:qg}{pos pos' tpos:Pos}{td ty tv:TE}
def uq(hu:X.A.units+1<cLine)(ho:PE X o td)(hi:PE X i ty)(hs:vge i):PE X (.Subscript o i pos) (vde td ty):=by refine .mk λb s σ H Q I h=>?_;refine yr6 PySem.F.slot_dict_getitem.lookup hs (thn (ho b s σ H _ I h) λu f ⟨x,m,q,e,p⟩=>thn (hi b f σ m _ q p) λB w h'=>?_);let⟨y,r,d,j,a,v,k,g,l⟩:=h';subst k;obtain rfl:u=Value.ref a:=e;exists yco d g,yg2 hu d g j λt z n c=>⟨v,r,n,c,l⟩
def yx9(hu:X.A.units+1<cLine)(hi:PE X i ty)(ho:PE X o td):PC X .In i o (vgq ty td):=by intro b s σ H Q I h;refine thn (hi b s σ H _ I h) λw d ⟨y,l,q,f,p⟩=>thn (ho b d σ l _ q p) λu t h'=>?_;let⟨x,r,m,c,a,e,j,g,k⟩:=h';subst j;obtain rfl:u=Value.ref a:=c;exact vg6 hu m g f λv n=>⟨.bl e.isSome,r,n,rfl,k⟩
def ya9(hu:X.A.units+1<cLine)(hi:PE X i ty)(ho:PE X o td):PC X .NotIn i o (yjd ty td):=by intro b s σ H Q I h;refine thn (hi b s σ H _ I h) λw d ⟨y,l,q,f,p⟩=>thn (ho b d σ l _ q p) λu t h'=>?_;let⟨x,r,m,c,a,e,j,g,k⟩:=h';subst j;obtain rfl:u=Value.ref a:=c;exact ytc hu m g f λv n=>⟨.bl (!e.isSome),r,n,rfl,k⟩
def ju(hu:X.A.units+1<cLine)(ho:PE X o td)(hi:PE X i ty)(hv:PE X value tv)(hs:swapsWith value (some (.Subscript o i pos')) pos.line X.env=pure false):
  PS X (.Assign [.Subscript o i pos'] value pos) (vdi td ty tv):=by refine .mk λb s σ H D I h=>?_;refine wpAny_Assign_Subscript (thn (hv b s σ H _ I h) λr c ⟨v,p,C,k,e⟩=>thn (ho b c σ p _ C e) λu l ⟨x,q,B,f,n⟩=>thn (hi b l σ q _ B n) λG F h'=>?_) hs;let⟨y,J,z,t,a,d,m,g,w⟩:=h';subst m;obtain rfl:u=Value.ref a:=f;exact ygz hu z g t k λE j=>⟨σ,d,j,w⟩
end
def yly{w:qd}{H:Hp}(h:qf)(hb:sysModules<h.objs.size):w8 P w H (h.push { cls:=.type "dict",data:=.dict #[]}) h.objs.size (.dK []) :=
 ⟨cP _,dY.mpr (Ne.symm (cV hb)),[],.nil,Heap.DictOf.new h⟩
def ymw{w:qd}{H:Hp}(h:qf)(hb:sysModules<h.objs.size):w8 P w H (h.push { cls:=.type "dict",data:=.dict #[]}) h.objs.size (.dT []) :=
 ⟨cP _,dY.mpr (Ne.symm (cV hb)),[],.nil,_,#[],0,cD _ rfl,⟨rfl,rfl,rfl⟩,rfl,rfl,List.nodup_nil⟩
def yql:TE:=λZ H Q=>∀p,H p=none->Q (.ref p) (upd H p (.dK []))
def ypq:TE:=λZ H Q=>∀p,H p=none->Q (.ref p) (upd H p (.dT []))
section
variable{pos:Pos}
def ų:PE X (.Dict [] [] pos) yql:=.mk λb s σ H Q I h =>
 wpAny_Dict_empty ⟨.ref s.heap.objs.size,_,I.laid (a:=s.heap.objs.size) (o:=.dK []) (t':=s.toks) (λZ Z q=>ck _ q) (cq _) (yly s.heap I.big),rfl,h _ (I.hok.fresh (cq _))⟩
def ydx:PE X (.Dict [] [] pos) ypq:=.mk λb s σ H Q I h =>
 wpAny_Dict_empty ⟨.ref s.heap.objs.size,_,I.laid (a:=s.heap.objs.size) (o:=.dT []) (t':=s.toks) (λZ Z q=>ck _ q) (cq _) (ymw s.heap I.big),rfl,h _ (I.hok.fresh (cq _))⟩
end
structure M1(X:Cx)(o:qg)(m:Str)(apos:Pos)(e:qg)(cpos:Pos):Prop where
 base:attributeBase o m X.env (eval o X.env)=eval o X.env
 few:((backTo cpos (starEach [e] X.env)).all (λx=>!x.1) && (backToKw cpos (keywordEach [] X.env)).all (λx=>x.1.isSome)
  && decide (([e]:qi qg).length+([]:qi Keyword).length+(if ([]:qi Keyword).isEmpty then 0 else 1)<30))=true
 line:(apos.endLine == cpos.line)=true
 trees:backTo cpos (starEach [e] X.env)=[(false,eval e X.env)]
structure M2(X:Cx)(o:qg)(m:Str)(apos:Pos)(e f:qg)(cpos:Pos):Prop where
 base:attributeBase o m X.env (eval o X.env)=eval o X.env
 few:((backTo cpos (starEach [e,f] X.env)).all (λx=>!x.1) && (backToKw cpos (keywordEach [] X.env)).all (λx=>x.1.isSome)
  && decide (([e,f]:qi qg).length+([]:qi Keyword).length+(if ([]:qi Keyword).isEmpty then 0 else 1)<30))=true
 line:(apos.endLine == cpos.line)=true
 trees:backTo cpos (starEach [e,f] X.env)=[(false,eval e X.env),(false,eval f X.env)]
def IsD(H:Hp)(a:z4):Prop:=(∃kvs,Rd H a (.dK kvs))\/∃kvs,Rd H a (.dT kvs)
def yzn{σ:St}{H:Hp}{s:qa}(I:Inv X pins σ H s)(d:IsD H a):
  s.TypeIs (.ref a) "dict"/\(∀b,Value.ref a=.ref b->∃ob,s.heap.get? b=some ob/\ob.dict=none)/\(a == sysModules)=false:=by
 rcases d with⟨h,e⟩|⟨h,e⟩
 .obtain⟨_,g,k,_,c⟩:=yc8 I.hok e;exists c.typeIs,λb q=>?_,g;cases q;let⟨ob,_,_,f,i,_⟩:=c;exact⟨ob,f,i.2.1⟩
 .obtain⟨_,g,j,_,c⟩:=ygc I.hok e;exists c.typeIs,λb q=>?_,g;cases q;let⟨ob,_,_,f,i,_⟩:=c;exact⟨ob,f,i.2.1⟩
def ypd(td ty:TE):TE:=λσ H Q=>td σ H λx H1=>∃a,x=.ref a/\IsD H1 a/\ty σ H1 λy H2=>∃kvs k v,H2 a=some (.dK kvs)/\y=kV k/\u8 kvs k=some v/\Q v (upd H2 a (.dK (ø kvs k)))
section
variable{o e f:qg}{apos cpos:Pos}{td ty tx:TE}
def ymd(ho:PE X o td)(he:PE X e ty)(m:M1 X o "pop" apos e cpos):PE X (.Call (.Attribute o "pop" apos) [e] [] cpos) (ypd td ty):=by refine .mk λb s σ H Q I h=>?_;refine wpAny_Call_method m.base m.few m.line PySem.F.plainAttrs_dict PySem.F.slot_dict_pop PySem.F.type_dict_pop (thn (ho b s σ H _ I h) λu g h'=>?_);let⟨x,w,f,j,a,r,d,i⟩:=h';subst r;obtain rfl:u=Value.ref a:=j;let⟨p,q,_⟩:=yzn f d;exists p,q,?_;rw[m.trees];refine Calls.callWith_builtin rfl (Calls.evalArgs_plain (Calls.spliced_cons (thn (he b g σ w _ f i) λK G ⟨y,L,D,z,B,k,v,n,A,l,t⟩=>Calls.spliced_nil ?_)));subst A;exact ve1 D n z l (.inl rfl) λE J C c=>⟨v,_,C,c,t⟩
end
@[irreducible] def QE(X:Cx)(e:qg)(t:TE):Prop:=PE X e t
@[irreducible] def QSs(X:Cx)(st:qi qc)(t:TS):Prop:=PSs X st t
@[irreducible] def QS(X:Cx)(st:qc)(t:TS):Prop:=PS X st t
section
variable{e:qg}{te:TE}{pos:Pos}{ts us:TS}{xk:qi qc}
def yg{R:TS->Prop}(h1:PS X st ts)(h2:∃us,PSs X xk us/\R (vf3 ts us)):∃t,PSs X (st::xk) t/\R t:=let ⟨_,a,b⟩:=h2;⟨_,yf h1 a,b⟩
end
theorem Ŵ:∀{bs:qi Bool}{us:Ο},wo (bs.map V.bl) us->us=bs.map Value.bool
 |[],_,.nil=>rfl
 |b::r,_,.cons a t=>by rw[show _=Value.bool b from a,Ŵ t];rfl
def yhl(bs:qi Bool):((List.range bs.length).all λi=>(bs[i]?).getD true)=bs.all id:=by
 rw[Bool.eq_iff_iff,List.all_eq_true,List.all_eq_true]
 constructor
 .intro h b c;let⟨i,a,rfl⟩:=List.getElem_of_mem c;have:=h i (dB.mpr a);rw[ci a]at this;exact this
 .intro h i a;have a:=dB.mp a;rw[ci a];exact h _ (cU a)
def η(hc:X.calm=true):j3 X (.builtin "all") (λxs H Q=>∃p bs,xs=[.ref p]/\SqL X.K H p (List.map V.bl bs)/\Q (.bl (bs.all id)) H):=by
 intro g s σ H xs C Q I r h;let⟨p,bs,rfl,n,q⟩:=h;let⟨u,rfl,j⟩:=ħ r;cases j;let⟨w,l,m,D⟩:=I.list n;obtain rfl:=Ŵ l;have f:=m.isList;have d:p<s.heap.objs.size:=by let⟨_,e,_⟩:=f;exact cC e
 refine call_all_walk (wpAny_pyIter_list f ?_)
 refine⟨s.heap.objs.size,[s.heap.objs.size,p],[s.heap.objs.size],(bs.map Value.bool).toArray.size,_,_,λi=>(bs[i]?).getD true,rfl,Walks.list (A:=X.A.in1) (show X.A.handled=none from I.ok.hd hc) _ p (cV d) (bs.map Value.bool).toArray,
  ⟨⟨_,cD _ rfl,rfl,rfl⟩,f.push _⟩,λi v E z y a c=>?_,λB t o=>?_⟩
 .have a:(bs.map Value.bool)[i]?=some v:=by simpa using a
  rw[cu]at a
  cases e:bs[i]? with
  |none=>rw[e]at a;cases a
  |some b =>
   dsimp only at c;rw[e]at a c;cases a;exact dE c
 .have e:((List.range (bs.map Value.bool).toArray.size).all λi=>(bs[i]?).getD true)=bs.all id:=by
   rw[cF,bI];exact yhl bs
  rw[e];exists .bl (bs.all id),H,I.kept (t':=t) λb x e=>o b x (λk=>?_) (ck _ e),rfl,q;rw[cJ.mp k]at e;exact dU _ (cC e)
set_option tactic.hygienic true in
theorem zq{env:Env}:∀{names:qi (Str×NameKind)}{x:Str}{k:NameKind},
  (names.map λ(n,k)=>if (k == NameKind.free && env.scope.kind == .function && env.kindOf n == some .cell)then (n,NameKind.cell)else (n,k)).lookup x=some k->∃k0,(x,k0)∈names/\(k=k0\/k0=.free)
 |[],_,_,h=>by simp at h
 |(n,k1)::r,x,k,h=>by
  rw[db]at h;by_cases hx:x=n
  .subst hx;exists k1,.head _,?_;dsimp only at h
   split at h
   .rename_i hc
    simp only[cR,beq_iff_eq]at hc;exact .inr hc.1.1
   .simp[List.lookup]at h;exact .inl h.symm
  .have:(x == n)=false:=by simpa using hx
   have a:(r.map λ(n,k)=>if (k == NameKind.free && env.scope.kind == .function && env.kindOf n == some .cell)then (n,NameKind.cell)else (n,k)).lookup x=some k:=by
    dsimp only at h
    split at h<;>simpa[List.lookup,this]using h
   let⟨k0,m,q⟩:=zq a;exists k0,.tail _ m,q
def ĩ(ys:Τ)(env:Env):qi (Str×z4):=ys.map λy=>(y,(env.cells.lookup y).getD 0)
theorem ydf{env:Env}:∀{ys:Τ}{y:Str}{c:z4},(ĩ ys env).lookup y=some c->y∈ys/\c=(env.cells.lookup y).getD 0
 |[],_,_,h=>by simp[ĩ]at h
 |z::r,y,c,h=>by
  by_cases hy:y=z
  .subst hy;simp[ĩ,List.lookup]at h;exists .head _,h.symm
  .have b:(y == z)=false:=by simpa using hy
   have a:(ĩ r env).lookup y=some c:=by simpa[ĩ,List.lookup,b]using h
   let⟨m,e⟩:=ydf a;exists .tail _ m,e
theorem ŧ{env:Env}:∀{ys:Τ}{y:Str},y∈ys->(ĩ ys env).lookup y=some ((env.cells.lookup y).getD 0)
 |z::r,y,h=>by
  by_cases hy:y=z
  .subst hy;simp[ĩ,List.lookup]
  .have a:(y == z)=false:=by simpa using hy
   have b:y∈r:=by
    rcases cG.mp h with q|q
    .exact absurd q hy
    .exact q
   have:=ŧ (env:=env) b;simpa[ĩ,List.lookup,a]using this
abbrev Cx.compF(X:Cx)(scope:Scope)(ys:Τ)(C:z4)(x:Str)(s2:qa)(H2:Hp)(fp:Χ):Cx :=
 {X with N:=x::ys,s₀:=s2,H₀:=H2,env:=compEnvC scope (ĩ ys X.env) C X.env,outer:=X.stack,ex:=fp,fn:=λZ=>false,pn:=[],xe:=λZ Z=>False}
def u4(J:It)(te:TE)(fr:St)(D:z4)(R:Hp->Prop)(H1:Hp):Prop:=∃W:Nat->Nat->Hp->Prop,(∃m,W 0 m (upd H1 D (.lst [])))/\
 ∀i m H2,W i m H2->(J.stop i H2/\R H2)\/(J.go i H2/\∀x H3,J.yld i H2 x H3->te (some x::fr) H3 λy H4=>∃ys,H4 D=some (.lst ys)/\ys.length<sizeLine/\∃m',m'<m/\W (i+1) m' (upd H4 D (.lst (ys++[y]))))
def uu(js:qi Nat)(σ:St):St:=js.map λj=>(σ[j]?).getD none
def ykd(wi:TI)(te:TE)(js:qi Nat):TE:=λσ H Q=>wi σ H λJ H1=>∀D,H1 D=none->u4 J te (uu js σ) D (λH2=>Q (.ref D) H2) H1
section
variable{iter elt:qg}{x:Str}{px pos:Pos}{te:TE}{wi:TI}{σ:St}{ys:Τ}{js:qi Nat}
def ytv{H:Hp}{Q:VK}(h:wi σ H λJ H1=>∀D,H1 D=none->u4 J te (uu js σ) D (λH2=>Q (.ref D) H2) H1):ykd wi te js σ H Q:=h
def Ľ{K:z3}{D:z4}{xs:Υ}{fr:St}{R:Hp->Prop}{H1:Hp}(Pv:Nat->Hp->Prop)(h0:Pv 0 (upd H1 D (.lst [])))(hl:∀i H,i<=xs.length->Pv i H->SqL K H a xs)
  (hs:∀i x H,xs[i]?=some x->i<xs.length->Pv i H->te (some x::fr) H λy H4=>∃ys,H4 D=some (.lst ys)/\ys.length<sizeLine/\∃m',m'<xs.length-i/\cW xs.length Pv (i+1) m' (upd H4 D (.lst (ys++[y]))))
  (hd:∀H,Pv xs.length H->R H):u4 (Itl K a) te fr D R H1:=by
 exists cW xs.length Pv,⟨xs.length,by simp,cP _,h0⟩,?_;rintro i m H ⟨rfl,b,p⟩;have q:=hl i H b p;by_cases hlt:i<xs.length
 .refine .inr ⟨⟨xs,xs[i],q,by simp[hlt]⟩,λx c y=>?_⟩;let⟨e,y⟩:=y;subst e;exact hs i x _ (y xs q) hlt p
 .have e:i=xs.length:=()
  subst e;exact .inl ⟨⟨xs,q,cq _⟩,hd H p⟩
def z7{lo:Int}{n:Nat}{D:z4}{fr:St}{R:Hp->Prop}{H1:Hp}(Pv:Nat->Hp->Prop)(h0:Pv 0 (upd H1 D (.lst [])))
  (hs:∀i H,i<n->Pv i H->te (some (.int (lo+i))::fr) H λy H4=>∃ys,H4 D=some (.lst ys)/\ys.length<sizeLine/\∃m',m'<n-i/\cW n Pv (i+1) m' (upd H4 D (.lst (ys++[y]))))
  (hd:∀H,Pv n H->R H):u4 (Itr lo n) te fr D R H1:=by
 exists cW n Pv,⟨n,by simp,cP _,h0⟩,?_;rintro i m H ⟨rfl,a,p⟩;by_cases hlt:i<n
 .refine .inr ⟨hlt,λx b y=>?_⟩;let⟨e,y⟩:=y;subst e y;exact hs i _ hlt p
 .have e:i=n:=()
  subst e;exact .inl ⟨cq _,hd H p⟩
end
end L2
namespace L2
def y8{α:Type}{P:α->Prop}:∀y∈([]:qi α),P y:=λZ h=>nomatch h
def all_cons{α:Type}{P:α->Prop}{y:α}{r:qi α}(h:P y)(t:∀z∈r,P z):∀z∈y::r,P z:=λz a=>by
 rcases cG.mp a with e|a
 .exact e ▸ h
 .exact t z a
end L2
namespace L2
open PySem PySem.Spec PyProof.Rows
section
variable{X:Cx}
theorem ydo:∀{ns:Ρ}{us:Ο},wo (ns.map V.int) us->∃xs:Array (Int×Tok),us.toArray=intItems xs/\xs.toList.map (·.1)=ns
 |[],_,.nil=>⟨#[],by simp[intItems],rfl⟩
 |n::r,_,.cons (l₂:=us) a t=>by
  let⟨b,rfl⟩:=a;let⟨xs,d,c⟩:=ydo t;exists((n,b)::xs.toList).toArray,?_,by simp[c]
  have:us=(intItems xs).toList:=by rw[<- d]
  rw[this];simp[intItems]
def Ï(hc:X.calm=true):j3 X (.builtin "sum") (λvs H Q=>∃p ns,vs=[.ref p]/\SqL X.K H p (List.map V.int ns)/\Q (.int ns.sum) H):=by intro a s σ H n t Q I r h;let⟨p,ns,rfl,c,q⟩:=h;let⟨u,rfl,d⟩:=ħ r;cases d;let⟨f,g,b,v⟩:=I.list c;let⟨e,i,l⟩:=ydo g;have k:s.heap.IsList p (intItems e):=i ▸ b.isList;refine sum_intListG (I.ok.hd hc) k λo m t' j=>?_;rw[preSum_eq,dn (by simp),l];exists .int ns.sum,H,I.kept (t':=m) j,⟨_,rfl⟩,q
end
variable{D it:z4}{fp:Χ}{i:Nat}{tn:Nat->qf->Prop}{s2:qa}
section
variable{X:Cx}{e:qg}{t1 t2:TE}
def yn3(t1 t2:TE):TE:=λσ H Q=>t1 σ H Q\/t2 σ H Q
def Õ(h1:PE X e t1)(h2:PE X e t2):PE X e (yn3 t1 t2):=by
 refine .mk λa s σ H Q I h=>?_;rcases h with h|h
 .exact h1 a s σ H Q I h
 .exact h2 a s σ H Q I h
def ο{σ:St}{H:Hp}{Q:VK}(h:t1 σ H Q):yn3 t1 t2 σ H Q:=.inl h
def zy{σ:St}{H:Hp}{Q:VK}(h:t2 σ H Q):yn3 t1 t2 σ H Q:=.inr h
end
def vd4{K:z3}{H:Hp}{x:V}{C:z4}{k:Bool}{P:Bool->Prop}(ty:xt K H x (.ref C))(e:W.kitOne K (.ref C) (.ref D)=some k)(h:P k):
  ∃x' cv t c k',[x,V.ref D]=[x',cv]/\xj cv c/\(∀u,xj cv u->u=c)/\xt K H x' t/\W.kitOne K t c=some k'/\P k':=⟨x,.ref D,.ref C,.ref D,k,rfl,rfl,λZ r=>r,ty,e,h⟩
def yx{H:Hp}{p:z4}{o:HO}{A:Hp->Prop}(hp:H p=none)(h:∀H',yw H H'->H' p=some o->A H'):A (upd H p o):=h _ (vg hp) ya
def yn{α:Type}{H:Hp}{p:z4}{o:HO}{A:Hp->α->Prop}{Q:α}(hp:H p=none)(h:∀H',yw H H'->H' p=some o->A H' Q):A (upd H p o) Q:=h _ (vg hp) ya
section
variable{K:z3}{a:z4}{xs:Υ}{te:TE}{fr:St}{R:Hp->Prop}{H1:Hp}
def ybd(Pv:Nat->Hp->Prop)(h0:Pv 0 (upd H1 D (.lst [])))(hl:∀i H,i<=xs.length->Pv i H->SqT K H a xs)
  (hs:∀i x H,xs[i]?=some x->i<xs.length->Pv i H->te (some x::fr) H λy H4=>∃ys,H4 D=some (.lst ys)/\ys.length<sizeLine/\∃m',m'<xs.length-i/\cW xs.length Pv (i+1) m' (upd H4 D (.lst (ys++[y]))))
  (hd:∀H,Pv xs.length H->R H):u4 (Itt K a) te fr D R H1:=by
 exists cW xs.length Pv,⟨xs.length,by simp,cP _,h0⟩,?_;rintro i m H ⟨rfl,b,p⟩;have q:=hl i H b p;by_cases hlt:i<xs.length
 .refine .inr ⟨⟨xs,xs[i],q,by simp[hlt]⟩,λx c y=>?_⟩;let⟨e,y⟩:=y;subst e;exact hs i x _ (y xs q) hlt p
 .have e:i=xs.length:=()
  subst e;exact .inl ⟨⟨xs,q,cq _⟩,hd H p⟩
def ymo(Pv:Nat->Hp->Prop)(h0:Pv 0 (upd H1 D (.lst [])))(hl:∀i H,i<=xs.length->Pv i H->SqT K H a xs)
  (hs:∀i x H,xs[i]?=some x->i<xs.length->Pv i H->te [some x] H λy H4=>∃ys,H4 D=some (.lst ys)/\ys.length<sizeLine/\∃m',m'<xs.length-i/\cW xs.length Pv (i+1) m' (upd H4 D (.lst (ys++[y]))))
  (hd:∀H,Pv xs.length H->R H):ye2 (Itt K a) te D R H1:=by
 exists cW xs.length Pv,⟨xs.length,by simp,cP _,h0⟩,?_;rintro i m H ⟨rfl,b,p⟩;have q:=hl i H b p;by_cases hlt:i<xs.length
 .refine .inr ⟨⟨xs,xs[i],q,by simp[hlt]⟩,λx c y=>?_⟩;let⟨e,y⟩:=y;subst e;exact hs i x _ (y xs q) hlt p
 .have e:i=xs.length:=()
  subst e;exact .inl ⟨⟨xs,q,cq _⟩,hd H p⟩
def Mp(H1:Hp)(D:z4)(f:Nat->V)(i:Nat)(H:Hp):Prop:=yw H1 H/\H D=some (.lst ((List.range i).map f))
def Mp.zero{f:Nat->V}(hD:H1 D=none):Mp H1 D f 0 (upd H1 D (.lst [])):=⟨vg hD,ya⟩
def Mp.step{f:Nat->V}{n:Nat}{H4:Hp}{y:V}(hD:H1 D=none)(hn:n<sizeLine)(hi:i<n)(S:yw H1 H4)(h4:H4 D=some (.lst ((List.range i).map f)))(e:y=f i):
  ∃ys,H4 D=some (.lst ys)/\ys.length<sizeLine/\∃m',m'<n-i/\cW n (Mp H1 D f) (i+1) m' (upd H4 D (.lst (ys++[y]))):=by
 refine xm (n:=n) h4 (by rw[bI,di];omega) hi ⟨?_,?_⟩
 .intro b o a;rw[yk (yb a hD)];exact S b o a
 .rw[ya,List.range_succ,cA,e];rfl
def Ė{f:Nat->V}{g:V->V}(h:∀i x,xs[i]?=some x->f i=g x):(List.range xs.length).map f=xs.map g:=by
 refine List.ext_getElem? λi=>?_;rw[cu,cu];by_cases hi:i<xs.length
 .rw[dJ hi,ci hi];show some (f i)=some (g xs[i]);rw[h i _ (ci hi)]
 .rw[df (by rw[di];omega),df ()];rfl
def ofG(g:V->V)(xs:Υ)(i:Nat):V:=((xs[i]?).map g).getD .non
def yeh{g:V->V}{x:V}(h:xs[i]?=some x):ofG g xs i=g x:=by unfold ofG;rw[h];rfl
def MpK(H1:Hp)(D:z4)(f:Nat->V)(n i:Nat):VK:=λy H4=>∃ys,H4 D=some (.lst ys)/\ys.length<sizeLine/\∃m',m'<n-i/\cW n (Mp H1 D f) (i+1) m' (upd H4 D (.lst (ys++[y])))
def Mp.done{g:V->V}{x y:V}{H4:Hp}(hD:H1 D=none)(hn:xs.length<sizeLine)(hx:xs[i]?=some x)(S:yw H1 H4)(h4:H4 D=some (.lst ((List.range i).map (ofG g xs))))(e:y=g x):MpK H1 D (ofG g xs) xs.length i y H4:=by
 have a:i<xs.length:=by
  rcases Nat.lt_or_ge i xs.length with q|q
  .exact q
  .rw[df q]at hx;cases hx
 exact Mp.step hD hn a S h4 (e.trans (yeh hx).symm)
def Mp.doneR{f:Nat->V}{n:Nat}{y:V}{H4:Hp}(hD:H1 D=none)(hn:n<sizeLine)(hi:i<n)(S:yw H1 H4)(h4:H4 D=some (.lst ((List.range i).map f)))(e:y=f i):MpK H1 D f n i y H4:=Mp.step hD hn hi S h4 e
def ω(g:V->V)(hq:SqL K H1 a xs)(hD:H1 D=none)
  (hs:∀i x H,xs[i]?=some x->yw H1 H->H D=some (.lst ((List.range i).map (ofG g xs)))->te (some x::fr) H (MpK H1 D (ofG g xs) xs.length i))
  (hd:∀H,yw H1 H->H D=some (.lst (xs.map g))->R H):u4 (Itl K a) te fr D R H1 :=
 Ľ (Mp H1 D (ofG g xs)) (Mp.zero hD) (λZ Z Z p=>p.1.seq hq) (λi x H b c p=>hs i x H b p.1 p.2)
  λH p=>hd H p.1 (by rw[<- Ė (f:=ofG g xs) λi x=>yeh];exact p.2)
def ľ(g:V->V)(hq:SqT K H1 a xs)(hD:H1 D=none)
  (hs:∀i x H,xs[i]?=some x->yw H1 H->H D=some (.lst ((List.range i).map (ofG g xs)))->te (some x::fr) H (MpK H1 D (ofG g xs) xs.length i))
  (hd:∀H,yw H1 H->H D=some (.lst (xs.map g))->R H):u4 (Itt K a) te fr D R H1 :=
 ybd (Mp H1 D (ofG g xs)) (Mp.zero hD) (λZ Z Z p=>p.1.tup hq) (λi x H b c p=>hs i x H b p.1 p.2)
  λH p=>hd H p.1 (by rw[<- Ė (f:=ofG g xs) λi x=>yeh];exact p.2)
def ygn(g:V->V)(hq:SqT K H1 a xs)(hD:H1 D=none)
  (hs:∀i x H,xs[i]?=some x->yw H1 H->H D=some (.lst ((List.range i).map (ofG g xs)))->te [some x] H (MpK H1 D (ofG g xs) xs.length i))
  (hd:∀H,yw H1 H->H D=some (.lst (xs.map g))->R H):ye2 (Itt K a) te D R H1 :=
 ymo (Mp H1 D (ofG g xs)) (Mp.zero hD) (λZ Z Z p=>p.1.tup hq) (λi x H b c p=>hs i x H b p.1 p.2)
  λH p=>hd H p.1 (by rw[<- Ė (f:=ofG g xs) λi x=>yeh];exact p.2)
def ð{lo:Int}{n:Nat}(f:Nat->V)(hD:H1 D=none)
  (hs:∀i H,i<n->yw H1 H->H D=some (.lst ((List.range i).map f))->te (some (.int (lo+i))::fr) H (MpK H1 D f n i))
  (hd:∀H,yw H1 H->H D=some (.lst ((List.range n).map f))->R H):u4 (Itr lo n) te fr D R H1 :=
 z7 (Mp H1 D f) (Mp.zero hD) (λi H a p=>hs i H a p.1 p.2) λH p=>hd H p.1 p.2
end
structure Mk0(K:z3)(C:z4):Prop where
 makes:W.makesIn K C=true
 init:W.findIn K (.ref C) "__init__"=some (some (.builtin "object.__init__"))
 kp:W.keepIn K (.ref C)=true
abbrev Cx.compT(X:Cx)(scope:Scope)(ys:Τ)(C:z4)(xs:Τ)(s2:qa)(H2:Hp)(fp:Χ):Cx :=
 {X with N:=xs++ys,s₀:=s2,H₀:=H2,env:=compEnvC scope (ĩ ys X.env) C X.env,outer:=X.stack,ex:=fp,fn:=λZ=>false,pn:=[],xe:=λZ Z=>False}
variable{X:Cx}
def Ã(J:It)(g:TG)(te:TE)(n:Nat)(fr:St)(D:z4)(R:Hp->Prop)(H1:Hp):Prop:=∃W:Nat->Nat->Hp->Prop,(∃m,W 0 m (upd H1 D (.lst [])))/\
 ∀i m H2,W i m H2->(J.stop i H2/\R H2)\/(J.go i H2/\∀x H3 pre,J.yld i H2 x H3->List.length pre=n->g x (pre++fr) H3 λσ' H'=>(∃pre',List.length pre'=n/\σ'=pre'++fr)/\te σ' H' λy H4=>∃ys,H4 D=some (.lst ys)/\ys.length<sizeLine/\∃m',m'<m/\W (i+1) m' (upd H4 D (.lst (ys++[y]))))
def yjs(wi:TI)(g:TG)(te:TE)(n:Nat)(js:qi Nat):TE:=λσ H Q=>wi σ H λJ H1=>∀D,H1 D=none->Ã J g te n (uu js σ) D (λH2=>Q (.ref D) H2) H1
def PTs(X:Cx)(ifs:qi qg)(t:TT):Prop:=∀(pins:Θ)(s:qa)(σ:St)(H:Hp)(Q:Bool->Hp->Prop),Inv X pins σ H s->t σ H Q ->
 wpAny (model X.prog X.w) X.A (forIn ifs true λc r=>if r=true then do let ok <- isTrue c X.env (eval c X.env);pure (ForInStep.yield ok)else pure (ForInStep.yield r)) (TP X pins σ Q) X.xe s
def vgd:TT:=λZ H Q=>Q true H
def yrv:PTs X [] vgd:=λZ Z σ H Z I h=>cr ⟨H,I,h⟩
def ysl(J:It)(g:TG)(tt:TT)(te:TE)(n:Nat)(fr:St)(D:z4)(R:Hp->Prop)(H1:Hp):Prop:=∃W:Nat->Nat->Hp->Prop,(∃m,W 0 m (upd H1 D (.lst [])))/\
 ∀i m H2,W i m H2->(J.stop i H2/\R H2)\/(J.go i H2/\∀x H3 pre,J.yld i H2 x H3->List.length pre=n->g x (pre++fr) H3 λσ' H'=>(∃pre',List.length pre'=n/\σ'=pre'++fr)/\tt σ' H' λb H4=>if b=true then te σ' H4 (λy H5=>∃ys,H5 D=some (.lst ys)/\ys.length<sizeLine/\∃m',m'<m/\W (i+1) m' (upd H5 D (.lst (ys++[y]))))else ∃m',m'<m/\W (i+1) m' H4)
section
variable{iter elt tg:qg}{xs:Τ}{g:TG}{pos:Pos}{scope:Scope}{te:TE}{wi:TI}{ifs:qi qg}{tt:TT}{pins:Θ}{σ:St}{ys:Τ}{js:qi Nat}
def yfj{H2:Hp}{J:It}(hc:X.calm=true)
  (ht:∀(C:z4)(s2:qa)(H2:Hp)(fp:Χ),PTs (X.compT scope ys C xs s2 H2 fp) ifs tt) (he:∀(C:z4)(s2:qa)(H2:Hp)(fp:Χ),PE (X.compT scope ys C xs s2 H2 fp) elt te)
  (hgt:∀(C:z4)(s2:qa)(H2:Hp)(fp:Χ),PG (X.compT scope ys C xs s2 H2 fp) tg g)
  (hcell:∀y∈scope.names,y.2≠.cell) (hkind:scope.kind=.function)
  (hfr:∀y∈scope.names,y.2=.free->y.1∈ys) (hyc:∀y∈ys,X.env.kindOf y=some .cell) (hrel:∀y∈ys,(relabel scope X.env).names.lookup y=some .cell) (hjs:js.map (λj=>X.N[j]?)=ys.map some)
  (I2:Inv X pins σ H2 s2) (T:ye6 X.prog X.w X.K tg J fp it tn) (st2:tn 0 s2.heap) (f2:∀b∈fp,ye7 X pins H2 b)
  {R:z4->Hp->Prop} (h:∀D,H2 D=none->ysl J g tt te xs.length (uu js σ) D (R D) H2) {RR:qb->z4->Result->qa->Prop} {E:Δ}
  (hR:∀(D C:z4)(H':Hp)(s':qa)(m:Ε),ye7 X pins H' C->s'.heap.Ns C m->Inv X pins σ H' s'->R D H'->RR (.ref D) C (.ok .next) s'):
  wpAny (model X.prog X.w) X.A (newList []) (λacc s₃=>wpAny (model X.prog X.w) X.A (newFunctionEnv scope X.env.globals (ĩ ys X.env) [] X.env.qual none .none (some X.env)) (λcenv s₄ =>
   codeAny (model X.prog X.w) X.A (.compStart (.ListComp elt [⟨tg,iter,ifs,0⟩] scope pos) 0 (.ref it) acc {cenv with scope:=relabel scope X.env}) (RR acc cenv.locals) s₄) E s₃) E s2:=by
 have k:∀y c,(ĩ ys X.env).lookup y=some c->X.env.cells.lookup y=some c:=λy c e=>by
  let⟨m,rfl⟩:=ydf e;let⟨c',q⟩:=I2.ok.has y (.inl (hyc y m));rw[q];rfl
 refine wpAny_newObj_type (wpAny_newFunctionEnv hcell (by intro y hy;simp at hy) (λh₁ hns₁ hsb₁=>?_) hkind);dsimp only at hns₁ hsb₁⊢;generalize Y:s2.heap.push { cls:=.type "list",dict:=none,data:=.seq ([]:Ο).toArray}=G at hns₁ hsb₁⊢;have hC:G.objs.size=s2.heap.objs.size+1:=by rw[<- Y,Heap.size_push]
 have a7:s2.heap.objs.size≠G.objs.size:=by rw[hC];exact cV (Nat.lt_succ_self _)
 have M:s2.heap.objs.size<=G.objs.size:=by rw[hC];exact Nat.le_succ _
 have f:∀b,b<s2.heap.objs.size->b≠G.objs.size/\b≠s2.heap.objs.size:=λb a=>⟨by rw[hC];exact cV (Nat.lt_succ_of_lt a),cV a⟩;have F:∀b o,s2.heap.get? b=some o->h₁.get? b=some o:=λb o e=>hsb₁.extBut b o (f b (cC e)).1 (ck _ (Y ▸ ck _ e));have a5:h₁.get? s2.heap.objs.size=some { cls:=.type "list",data:=.seq ([]:Ο).toArray}:=hsb₁.extBut _ _ a7 (ck _ (Y ▸ cD _ rfl));have U:∀b∈fp,b<s2.heap.objs.size:=λb a=>let ⟨_,e,_⟩:=T.obj 0 _ st2 b a;cC e;have a0:∀b∈fp,b∉frs X.stack:=λb a z=>(cG.mp (I2.stkSub b z)).elim (f2 b a).2.1 (f2 b a).2.2.1;have nC:H2 G.objs.size=none:=I2.hok.fresh M;have nD:H2 s2.heap.objs.size=none:=I2.hok.fresh (cq _)
 have B:∀y c,(ĩ ys X.env).lookup y=some c->∃v o,s2.heap.get? c=some o/\o.data=.cell v:=λy c e=>by
  let⟨v,o,q1,q2⟩:=I2.cell y c (k y c e);exact⟨v,o,q1,q2⟩
 have a9:(X.compT scope ys G.objs.size xs s2 H2 fp).Ok:=by
  exists I2.ok.mod,hkind,I2.ok.glob,I2.ok.blt,M,λy z c e S=>I2.ok.inj y z c (k y c e) (k z c S),λy e=>?_,λy c z e=>(by cases z),I2.ok.hd,I2.ok.frames,.inl rfl,λb a=>⟨(f b (U b a)).1,λy c e=>(f2 b a).2.2.2.2.1 y c (k y c e)⟩,I2.bs,?_,λb o e a=>?_,λb a=>a0 b a,I2.stack,I2.stkFree
  .have S:(relabel scope X.env).names.lookup y=some .cell\/(relabel scope X.env).names.lookup y=some .free:=e
   have ab:y∈ys:=by
    rcases S with S|S
    .obtain⟨k0,m,q⟩:=zq S;rcases q with q|q
     .exact absurd q.symm (hcell _ m)
     .exact hfr _ m q
    .obtain⟨k0,m,q⟩:=zq S;rcases q with q|q
     .exact hfr _ m q.symm
     .exact hfr _ m q
   exists _,ŧ ab
  .exact de I2.ok.bsz I2.sz
  .rcases (f2 b a).2.2.2.1 with z|z
   .exact I2.ok.noex b o e z
   .exact absurd (dg (cC (I2.ok.bs b o e).1) z) (dU _)
 have a1:(uu js σ).length=ys.length:=by
  have:=congrArg List.length hjs;simpa[uu]using this
 have I3:∀tk,Inv (X.compT scope ys G.objs.size xs s2 H2 fp) [] (List.replicate xs.length none++uu js σ) (upd H2 s2.heap.objs.size (.lst [])) {s2 with heap:=h₁,toks:=tk}:=λtk =>
  ⟨a9,rfl,I2.bare,Un.laid F (cq _) nD,⟨_,hns₁,λi y v e1 P e3=>by
    by_cases hi0:i<xs.length
    .rw[dG (by simpa using hi0),List.getElem?_replicate,if_pos hi0]at P;cases P
    .obtain⟨i,rfl⟩:∃i',i=xs.length+i':=⟨i-xs.length,()⟩;have e1:ys[i]?=some y:=by rw[dA ()]at e1;simpa using e1
     have P:(uu js σ)[i]?=some (some v):=by rw[dA (by simp)]at P;simpa using P
     have hy:y∈ys:=cB e1;have Z:=congrArg (λl=>l[i]?) hjs;simp only[cu,e1,dS]at Z
     cases q:js[i]? with
     |none=>rw[q]at Z;cases Z
     |some j =>
      rw[q]at Z;have Z:X.N[j]?=some y:=by simpa using Z
      have es:σ[j]?=some (some v):=by
       simp only[uu,cu,q,dS,Option.some.injEq]at P
       cases r:σ[j]? with
       |none=>rw[r]at P;cases P
       |some w'=>rw[r]at P;rw[show w'=some v from P]
      let⟨m0,_,ac⟩:=I2.loc;let⟨u,ru,lk⟩:=ac j y v Z es (.inr (.inl (hyc y hy)));exists u,ru,.inr ⟨.inl (hrel y hy),?_⟩;rcases lk with⟨k1,_⟩|⟨_,c,ec,o,ho,hd⟩
      .rw[hyc y hy]at k1;cases k1
      .exists c,?_,o,F c o ho,hd;show (ĩ ys X.env).lookup y=some c;rw[ŧ hy,ec]
       rfl⟩,λy c e=>(by
    let⟨v,o,q1,q2⟩:=B y c e
    exact⟨v,o,F c o q1,q2⟩),(by show upd H2 s2.heap.objs.size _ G.objs.size=none;rw[yk a7.symm];exact nC),λy c e=>(by
    let⟨v,o,q1,q2⟩:=B y c e;show upd H2 s2.heap.objs.size _ c=none;rw[yk (f c (cC q1)).2]
    exact I2.freeC y c (k y c e)),λp hp=>(by simp at hp),
   I2.hok.laid F (cq _) ⟨cP _,[],_,.nil,a5⟩,by show (List.replicate xs.length none++uu js σ).length=(xs++ys).length;simp[a1]⟩
 have O:∀{H':Hp},(∀b∈fp,H' b=none)->∀b∈fp,ye7 (X.compT scope ys G.objs.size xs s2 H2 fp) [] H' b:=λhn b a=>⟨hn b a,(f b (U b a)).1,a0 b a,.inl a,λy c e=>(f2 b a).2.2.2.2.1 y c (k y c e),λp hp=>(by simp at hp)⟩
 have Q:∀tk,codeAny (model X.prog X.w) X.A (.compLoop (.ListComp elt [⟨tg,iter,ifs,0⟩] scope pos) 0 (.ref it) (.ref s2.heap.objs.size) (compEnvC scope (ĩ ys X.env) G.objs.size X.env)) (RR (.ref s2.heap.objs.size) G.objs.size) {s2 with heap:=h₁,toks:=tk}:=by
  intro tk;let⟨W,⟨m0,w0⟩,a3⟩:=h s2.heap.objs.size nD;refine codeAny_loop rfl (λn s'=>∃i v H',List.length v=xs.length/\Inv (X.compT scope ys G.objs.size xs s2 H2 fp) [] (v++uu js σ) H' s'/\tn i s'.heap/\(∀b∈fp,H' b=none)/\W i n H') (λn s' hI=>?_) m0
   ⟨0,List.replicate xs.length none,_,by simp,I3 tk,T.keep 0 _ _ st2 (λb a o e=>F b o e),λb a=>(by rw[yk (f b (U b a)).2];exact(f2 b a).1),w0⟩
  let⟨i,v,H',hv,I,st,fr,w⟩:=hI;show wpAny _ _ ((compTurn (.ListComp elt [⟨tg,iter,ifs,0⟩] scope pos) 0 (.ref it) (.ref s2.heap.objs.size) (compEnvC scope (ĩ ys X.env) G.objs.size X.env)).onRaise (λx=>do noteFrame x (compEnvC scope (ĩ ys X.env) G.objs.size X.env);theTreesLotGoes x)) _ _ s';refine wpAny_noted ?_;rw[compTurn_list];refine cg (wpAny_standAt (cg ?_));rcases a3 i n H' w with⟨a6,q⟩|⟨go,a2⟩
  .refine thn (T.done (X.compT scope ys G.objs.size xs s2 H2 fp) rfl rfl rfl hc i [] s' (v++uu js σ) H' _ I (O fr) st a6) λr s4 ⟨hr,I4⟩=>?_;subst hr;refine cr ?_;let⟨m,hn,_⟩:=I4.loc;exact hR _ _ H' s4 m (I2.fpOk M I4.free) hn (I2.call' (ch:=fp) I4.os I4.base I4.hok I4.bare λb a=>⟨(f2 b a).2.2.2.1,(f2 b a).2.1,(f2 b a).2.2.2.2.1,(f2 b a).2.2.2.2.2⟩) q
  .refine thn (T.item (X.compT scope ys G.objs.size xs s2 H2 fp) rfl rfl rfl hc i [] s' (v++uu js σ) H' _ I (O fr) st go) λr s4 ⟨u,hr,h4⟩=>?_;subst hr;refine cg (thn h4 λN s5 ⟨y,H5,I5,r5,y5,H,aa⟩=>cg ?_);have a8:=I5.pinned (O aa) (T.obj _ _ H);refine vdy (hgt _ _ _ _ _ s5 (v++uu js σ) H5 y u _ a8 r5 (a2 y H5 v y5 hv)) λN s6 ⟨σ',H6,I6,⟨t,a4,ep⟩,q6⟩=>?_;subst ep;refine cg (vdy (ht _ _ _ _ _ s6 (t++uu js σ) H6 _ I6 q6) λb s7 ⟨H7,I7,q7⟩=>?_)
   cases b with
   |false =>
    let⟨m',hm,w'⟩:=q7
    have L:∀b∈fp,∀o,s5.heap.get? b=some o->s7.heap.get? b=some o/\H7 b=none:=λb a o e =>
     ⟨(I7.pin (b,o) (cN _ (cN _ (uy a e)))).1,(I7.pin (b,o) (cN _ (cN _ (uy a e)))).2.1⟩
    refine cr ⟨rfl,m',hm,i+1,t,_,a4,I7.unpinned,T.keep _ _ _ H λb a o e=>(L b a o e).1,λb a=>?_,w'⟩;let⟨o,e,d⟩:=T.obj _ _ H b a;exact(L b a o e).2
   |true =>
    refine cg (cg (vdy (he _ _ _ _ _ s7 (t++uu js σ) H7 _ I7 q7) λu2 s7 ⟨y2,H7,I7,r7,zs,hD,hl,m',hm,w'⟩=>cg ?_));refine vdy (w6 _ s7 (t++uu js σ) H7 (.ref s2.heap.objs.size) [y2] (.ref s2.heap.objs.size) [u2] (λN H8=>H8=upd H7 s2.heap.objs.size (.lst (zs++[y2]))) I7 rfl (.cons r7 .nil) ⟨_,zs,y2,rfl,rfl,hD,hl,rfl⟩) λN s8 h'=>?_;let⟨_,H8,I8,_,e8⟩:=h';subst e8
    have L:∀b∈fp,∀o,s5.heap.get? b=some o->s8.heap.get? b=some o/\upd H7 s2.heap.objs.size (HO.lst (zs++[y2])) b=none:=λb a o e =>
     ⟨(I8.pin (b,o) (cN _ (cN _ (uy a e)))).1,(I8.pin (b,o) (cN _ (cN _ (uy a e)))).2.1⟩
    refine cr (cr ⟨rfl,m',hm,i+1,t,_,a4,I8.unpinned,T.keep _ _ _ H λb a o e=>(L b a o e).1,λb a=>?_,w'⟩);let⟨o,e,d⟩:=T.obj _ _ H b a;exact(L b a o e).2
 exact codeAny_compStart_list (Q _) (T.self X.A 0 _ _ _ (T.keep 0 _ _ st2 (λb a o e=>F b o e)) (Q _))
def â{H2:Hp}{J:It}(hc:X.calm=true)
  (he:∀(C:z4)(s2:qa)(H2:Hp)(fp:Χ),PE (X.compT scope ys C xs s2 H2 fp) elt te)
  (hgt:∀(C:z4)(s2:qa)(H2:Hp)(fp:Χ),PG (X.compT scope ys C xs s2 H2 fp) tg g)
  (hcell:∀y∈scope.names,y.2≠.cell) (hkind:scope.kind=.function)
  (hfr:∀y∈scope.names,y.2=.free->y.1∈ys) (hyc:∀y∈ys,X.env.kindOf y=some .cell) (hrel:∀y∈ys,(relabel scope X.env).names.lookup y=some .cell) (hjs:js.map (λj=>X.N[j]?)=ys.map some)
  (I2:Inv X pins σ H2 s2) (T:ye6 X.prog X.w X.K tg J fp it tn) (st2:tn 0 s2.heap) (f2:∀b∈fp,ye7 X pins H2 b)
  {R:z4->Hp->Prop} (h:∀D,H2 D=none->Ã J g te xs.length (uu js σ) D (R D) H2) {RR:qb->z4->Result->qa->Prop} {E:Δ}
  (hR:∀(D C:z4)(H':Hp)(s':qa)(m:Ε),ye7 X pins H' C->s'.heap.Ns C m->Inv X pins σ H' s'->R D H'->RR (.ref D) C (.ok .next) s'):
  wpAny (model X.prog X.w) X.A (newList []) (λacc s₃=>wpAny (model X.prog X.w) X.A (newFunctionEnv scope X.env.globals (ĩ ys X.env) [] X.env.qual none .none (some X.env)) (λcenv s₄ =>
   codeAny (model X.prog X.w) X.A (.compStart (.ListComp elt [⟨tg,iter,[],0⟩] scope pos) 0 (.ref it) acc {cenv with scope:=relabel scope X.env}) (RR acc cenv.locals) s₄) E s₃) E s2 :=
 yfj (tt:=vgd) hc (λZ Z Z Z=>yrv) he hgt hcell hkind hfr hyc hrel hjs I2 T st2 f2 (λD e=>by
  let⟨W,k,a⟩:=h D e;exists W,k,λi m H w=>(a i m H w).imp id λ⟨n,c⟩=>⟨n,λx l d y f=>?_⟩;exact c x l d y f) hR
def yea(hc:X.calm=true)(hi:PI X tg iter wi)(he:∀(C:z4)(s2:qa)(H2:Hp)(fp:Χ),PE (X.compT scope ys C xs s2 H2 fp) elt te)(hjs:js.map (λj=>X.N[j]?)=ys.map some)
  (hgt:∀(C:z4)(s2:qa)(H2:Hp)(fp:Χ),PG (X.compT scope ys C xs s2 H2 fp) tg g)
  (hclos:closureFor scope X.env=pure (ĩ ys X.env)) (hyc:∀y∈ys,X.env.kindOf y=some .cell) (hrel:∀y∈ys,(relabel scope X.env).names.lookup y=some .cell)
  (hfr:∀y∈scope.names,y.2=.free->y.1∈ys:=by decide+kernel) (hcell:∀y∈scope.names,y.2≠.cell:=by decide+kernel) (hkind:scope.kind=.function:=by rfl)
  (hnames:∀y∈scope.names,y.2=.local->scope.names.lookup y.1=some .local:=by decide+kernel) (hs:∀x,foldedSetIterable iter X.env x=pure x:=by intro _;rfl):
  PE X (.ListComp elt [⟨tg,iter,[],0⟩] scope pos) (yjs wi g te xs.length js):=by refine .mk λa s σ H Q I h=>?_;rw[eval_ListComp];refine wpAny_comprehension_free (use:=none) rfl hs hclos hkind hnames (thn (hi a s σ H _ I h) λv E l=>thn l λn s2 B=>?_);let⟨K,fp,G,J,H2,e,p,T,d,t,h⟩:=B;subst e;refine â (R:=λD c=>Q (.ref D) c) (RR:=compPost (model X.prog X.w) X.A X.xe none (EP X a σ Q)) hc he hgt hcell hkind hfr hyc hrel hjs p T d t h ?_;intro D C c k m f i r q;exists m,i,λF u=>⟨.ref D,c,?_,rfl,q⟩;exact r.turned (t':=k.toks) (λb o z e=>u.extBut b o z e) f.1 f.2.1 f.2.2.2.1 f.2.2.2.2.1 f.2.2.2.2.2
def ysf{H:Hp}{Q:VK}{n:Nat}(h:wi σ H λJ H1=>∀D,H1 D=none->Ã J g te n (uu js σ) D (λH2=>Q (.ref D) H2) H1):yjs wi g te n js σ H Q:=h
end
section
variable{iter elt:qg}{x:Str}{px pos:Pos}{scope:Scope}{te:TE}{wi:TI}{pins:Θ}{σ:St}{ys:Τ}{js:qi Nat}
def ů{pre:qi (Ψ)}{n:Nat}(h:List.length pre=n+1):∃v t,pre=v::t/\List.length t=n:=by
 cases pre with
 |nil=>cases h
 |cons v t=>exists v,t,rfl,Nat.succ.inj h
def vby{J:It}{fr:St}{R:Hp->Prop}{H1:Hp}(h:u4 J te fr D R H1):Ã J (xg 0) te 1 fr D R H1:=by let⟨W,e,a⟩:=h;exists W,e,λi m k w=>(a i m k w).imp id λ⟨g,y⟩=>⟨g,λx f c d b=>?_⟩;let⟨z,t,rfl,j⟩:=ů b;obtain rfl:=List.length_eq_zero_iff.mp j;exists⟨[some x],rfl,rfl⟩,y x f d
def ł{H2:Hp}{J:It}(hc:X.calm=true)
  (he:∀(C:z4)(s2:qa)(H2:Hp)(fp:Χ),PE (X.compF scope ys C x s2 H2 fp) elt te)
  (hcell:∀y∈scope.names,y.2≠.cell) (hkind:scope.kind=.function) (hx:scope.names.lookup x=some .local) (hnd:(x::ys).Nodup)
  (hfr:∀y∈scope.names,y.2=.free->y.1∈ys) (hyc:∀y∈ys,X.env.kindOf y=some .cell) (hrel:∀y∈ys,(relabel scope X.env).names.lookup y=some .cell) (hjs:js.map (λj=>X.N[j]?)=ys.map some)
  (I2:Inv X pins σ H2 s2) (T:ye6 X.prog X.w X.K (.Name x px) J fp it tn) (st2:tn 0 s2.heap) (f2:∀b∈fp,ye7 X pins H2 b)
  {R:z4->Hp->Prop} (h:∀D,H2 D=none->u4 J te (uu js σ) D (R D) H2) {RR:qb->z4->Result->qa->Prop} {E:Δ}
  (hR:∀(D C:z4)(H':Hp)(s':qa)(m:Ε),ye7 X pins H' C->s'.heap.Ns C m->Inv X pins σ H' s'->R D H'->RR (.ref D) C (.ok .next) s'):
  wpAny (model X.prog X.w) X.A (newList []) (λacc s₃=>wpAny (model X.prog X.w) X.A (newFunctionEnv scope X.env.globals (ĩ ys X.env) [] X.env.qual none .none (some X.env)) (λcenv s₄ =>
   codeAny (model X.prog X.w) X.A (.compStart (.ListComp elt [⟨.Name x px,iter,[],0⟩] scope pos) 0 (.ref it) acc {cenv with scope:=relabel scope X.env}) (RR acc cenv.locals) s₄) E s₃) E s2 :=
 â (tg:=.Name x px) (xs:=[x]) (g:=xg 0) hc he (λC s2 H2 fp=>we (i:=0) hnd rfl (Or.inl (lookup_relabel_local hx)) (Or.inr (lookup_relabel_local hx))) hcell hkind hfr hyc hrel hjs I2 T st2 f2 (λD a=>vby (h D a)) hR
def wc(hc:X.calm=true)(hi:PI X (.Name x px) iter wi)(he:∀(C:z4)(s2:qa)(H2:Hp)(fp:Χ),PE (X.compF scope ys C x s2 H2 fp) elt te)(hjs:js.map (λj=>X.N[j]?)=ys.map some)
  (hclos:closureFor scope X.env=pure (ĩ ys X.env)) (hnd:(x::ys).Nodup:=by decide) (hyc:∀y∈ys,X.env.kindOf y=some .cell) (hrel:∀y∈ys,(relabel scope X.env).names.lookup y=some .cell)
  (hfr:∀y∈scope.names,y.2=.free->y.1∈ys:=by decide+kernel) (hcell:∀y∈scope.names,y.2≠.cell:=by decide+kernel) (hkind:scope.kind=.function:=by rfl)
  (hnames:∀y∈scope.names,y.2=.local->scope.names.lookup y.1=some .local:=by decide+kernel) (hx:scope.names.lookup x=some .local:=by rfl) (hs:∀x,foldedSetIterable iter X.env x=pure x:=by intro _;rfl):
  PE X (.ListComp elt [⟨.Name x px,iter,[],0⟩] scope pos) (ykd wi te js):=by refine .mk λa s σ H Q I h=>?_;rw[eval_ListComp];refine wpAny_comprehension_free (use:=none) rfl hs hclos hkind hnames (thn (hi a s σ H _ I h) λv B k=>thn k λl s2 z=>?_);let⟨G,fp,F,J,H2,e,n,T,d,r,h⟩:=z;subst e;refine ł (R:=λD c=>Q (.ref D) c) (RR:=compPost (model X.prog X.w) X.A X.xe none (EP X a σ Q)) hc he hcell hkind hx hnd hfr hyc hrel hjs n T d r h ?_;intro D C c i m f g p q;exists m,g,λE t=>⟨.ref D,c,?_,rfl,q⟩;exact p.turned (t':=i.toks) (λb o u e=>t.extBut b o u e) f.1 f.2.1 f.2.2.2.1 f.2.2.2.2.1 f.2.2.2.2.2
def yd5{y:Str}{py spos:Pos}(hN:X.N.Nodup)(hy:X.N[i]?=some y)(hl:X.env.scope.names.lookup y=some .local)(hc:X.calm=true)(hi:PI X (.Name x px) iter wi)
  (he:∀(C:z4)(s2:qa)(H2:Hp)(fp:Χ),PE (X.compF scope ys C x s2 H2 fp) elt te) (hjs:js.map (λj=>X.N[j]?)=ys.map some)
  (hclos:closureFor scope X.env=pure (ĩ ys X.env)) (hyc:∀y∈ys,X.env.kindOf y=some .cell) (hrel:∀y∈ys,(relabel scope X.env).names.lookup y=some .cell)
  (hsw:swapsWith (.ListComp elt [⟨.Name x px,iter,[],0⟩] scope pos) (some (.Name y py)) spos.line X.env=pure true:=by rfl) (hnd:(x::ys).Nodup:=by decide)
  (hfr:∀y∈scope.names,y.2=.free->y.1∈ys:=by decide+kernel) (hcell:∀y∈scope.names,y.2≠.cell:=by decide+kernel) (hkind:scope.kind=.function:=by rfl)
  (hnames:∀y∈scope.names,y.2=.local->scope.names.lookup y.1=some .local:=by decide+kernel) (hx:scope.names.lookup x=some .local:=by rfl) (hs:∀x,foldedSetIterable iter X.env x=pure x:=by intro _;rfl):
  PS X (.Assign [.Name y py] (.ListComp elt [⟨.Name x px,iter,[],0⟩] scope pos) spos) (vdz (ykd wi te js) (xg i)):=by
 refine .mk λa s σ H g I h=>?_;rw[exec_Assign_Name_used _ _ _ _ hsw];refine cg (wpAny_standAt (cg ?_));show wpAny _ X.A (do let _ <- comprehension (.ListComp elt [⟨.Name x px,iter,[],0⟩] scope pos) scope X.env _ (newList []) false (eval iter X.env) (some (assign (.Name y py) X.env))) _ _ s;refine cg (dR (wpAny_comprehension_free (use:=some (assign (.Name y py) X.env)) (Q:=λZ d=>SP X a g .next d) rfl hs hclos hkind hnames (thn (hi a s σ H _ I h) λv O u=>thn u λB s2 E=>?_)) (λZ d K=>cr (cr K)) λZ Z e=>e);let⟨U,fp,P,J,H2,e,M,T,p,G,h⟩:=E;subst e;refine ł (R:=λD l=>xg i (.ref D) σ l g.nx) (RR:=compPost (model X.prog X.w) X.A X.xe (some (assign (.Name y py) X.env)) (λZ d=>SP X a g .next d)) hc he hcell hkind hx hnd hfr hyc hrel hjs M T p G h ?_;intro D C l d m f F L q;refine wpAny_assign_Name (Ě (v:=V.ref D) L hN hy (Or.inl hl) rfl (λk r n=>?_) (Or.inr hl));exists m,?_,λS t=>⟨_,l,?_,q⟩
 .obtain⟨b,t,c⟩:=n;refine F.sameBut t λz=>?_;rcases c with c|c
  .exact f.2.1 (z.trans c)
  .exact f.2.2.2.2.1 y b c z.symm
 .exact r.turned (t':=k.toks) (λb o c e=>t.extBut b o c e) f.1 f.2.1 f.2.2.2.1 f.2.2.2.2.1 f.2.2.2.2.2
end
end L2
namespace L2
open PySem PySem.Spec PyProof.Rows
section
variable{prog:qh}{w:qd}{A:qe}{E:Δ}{s:qa}
def ψ{it l:z4}{i:Nat}{items}{x:qb}{Q:Δ}(hit:s.heap.IsTupleIter it l i)(hl:s.heap.IsTuple l items)(hx:items[i]?=some x)
  (hQ:∀h',h'.IsTupleIter it l (i+1)->Heap.SameBut it s.heap h'->Q x {s with heap:=h'}):wpAny (model prog w) A (Builtin.SmallTypes.nextOf (.ref it)) Q E s:=by let⟨f,b,e,a⟩:=id hit;let⟨h,c,_,g,d⟩:=hl;unfold Builtin.SmallTypes.nextOf;refine cg (wpAny_callSpecial?_slot (name:=Str.ofString "__next__") hit.typeIs slot_tupleiter_next (wpAny_call_entry slot_tupleiter_next hit.typeIs entry_tupleiter_next ?_ (args_tupleiter_next _)));show wpAny _ _ (field (.ref it) 0 >>=_) _ _ s;refine cg (dy b a (x:=.ref l) rfl ?_);show wpAny _ _ (if (Value.ref l == Value.none)=true then _ else _) _ _ s;rw[if_neg (show ¬((Value.ref l == Value.none)=true)from cI)];show wpAny _ _ (field (.ref it) 1 >>=_) _ _ s;refine cg (dy b a (x:=.int i 0) rfl ?_);show wpAny _ _ (seqItems? (.ref l) >>=_) _ _ s;refine cg (wpAny_seqItems c d ?_);simp only[Int.toNat_natCast,hx];refine cg (wpAny_setField b a (by simp) (cr ⟨x,rfl,cr (hQ _ ⟨_,Heap.get?_update_self _ b (Obj.isFreed_of_fields (Obj.data_mapFields a _)),(Obj.cls_mapFields ..).trans e,?_⟩ (Heap.SameBut.update ..))⟩));rw[Obj.data_mapFields a];simp[rawInt]
def ď{it l:z4}{i:Nat}{items}{Q:Δ}(hh:A.handled=none)(hit:s.heap.IsTupleIter it l i)(hl:s.heap.IsTuple l items)(hx:items[i]?=none)
  (hE:∀h' e,Heap.ExtBut it s.heap h'->(∃o,h'.get? e=some o/\o.cls=.type "StopIteration")->E (.ref e) {s with heap:=h'}):wpAny (model prog w) A (Builtin.SmallTypes.nextOf (.ref it)) Q E s:=by
 let⟨h,b,g,c⟩:=id hit;let⟨k,d,_,j,f⟩:=hl;unfold Builtin.SmallTypes.nextOf;refine cg (wpAny_callSpecial?_slot (name:=Str.ofString "__next__") hit.typeIs slot_tupleiter_next (wpAny_call_entry slot_tupleiter_next hit.typeIs entry_tupleiter_next ?_ (args_tupleiter_next _)))
 (show wpAny _ _ (field (.ref it) 0 >>=_) _ _ s);refine cg (dy b c (x:=.ref l) rfl ?_)
 (show wpAny _ _ (if (Value.ref l == Value.none)=true then _ else _) _ _ s);rw[if_neg (show ¬((Value.ref l == Value.none)=true)from cI)]
 (show wpAny _ _ (field (.ref it) 1 >>=_) _ _ s);refine cg (dy b c (x:=.int i 0) rfl ?_)
 (show wpAny _ _ (seqItems? (.ref l) >>=_) _ _ s);refine cg (wpAny_seqItems d f ?_)
 simp only[Int.toNat_natCast,hx];refine cg (wpAny_rule (cg (wpAny_setField b c (by simp) ?_)))
 (show wpAny _ _ (newExc (.type "StopIteration") [] >>=_) _ _ _);refine cg ?_
 simp only[newExc,newTuple];refine cg (wpAny_newObj_type ?_ (by size_fits))
 refine cg (m:=firstArgMember _ _) (wpAny_of_eq (a:=Value.none) (by first|rfl|(simp only[firstArgMember];rfl)) (wpAny_newObj_type ?_ (by size_fits)))
 simp only[raiseNew];refine cg (wpAny_handled ?_)
 (first|rw[show A.in1.handled=none from hh]|rw[hh]);refine cg (cr (wpAny_throw ?_))
 exact hE _ _ (((Heap.SameBut.update _ ..).extBut.push _).push _) ⟨_,cD _ rfl,rfl⟩
end
section
open AutoSeq1 (wpAny_loadPart')
set_option maxRecDepth 100000
end
end L2
namespace L2
open PySem PySem.Spec PyProof.Rows
end L2
namespace L2
section
variable{σ:St}{H:Hp}{Q:VK}{td ty tx tv:TE}
def yx4(h:td σ H λx H1=>ty σ H1 λy H2=>∃a v,x=.ref a/\Ī H2 a y (some v)/\Q v H2):vde td ty σ H Q:=h
def ves(h:ty σ H λy H1=>td σ H1 λx H2=>∃a o,x=.ref a/\Ī H2 a y o/\Q (.bl o.isSome) H2):vgq ty td σ H Q:=h
def ylw(h:ty σ H λy H1=>td σ H1 λx H2=>∃a o,x=.ref a/\Ī H2 a y o/\Q (.bl (!o.isSome)) H2):yjd ty td σ H Q:=h
def vb5{nx bk ct:Ζ}{rt:VK}(h:tv σ H λv H1=>td σ H1 λx H2=>ty σ H2 λy H3=>∃a H4,x=.ref a/\ydc H3 a y v H4/\nx σ H4):vdi td ty tv ⟨nx,rt,bk,ct⟩ σ H:=h
def ys8(h:∀p,H p=none->Q (.ref p) (upd H p (.dT []))):ypq σ H Q:=h
end
end L2
namespace L2
open PySem PySem.Spec PyProof.Rows
variable{i1 i2 l1 l2:z4}{xs ys:Array qb}{elts:qi qg}{i k1 k2:Nat}{tpos:Pos}{a:qb}
def Itz(K:z3)(a b:z4):It :=
 ⟨λi H=>∃xs ys x y,SqL K H a xs/\SqL K H b ys/\xs[i]?=some x/\ys[i]?=some y,
  λi H v H'=>∃t x y,v=.ref t/\H t=none/\H'=upd H t (.tup [x,y])/\(∀xs,SqL K H a xs->xs[i]?=some x)/\(∀ys,SqL K H b ys->ys[i]?=some y),
  λi H=>∃xs ys,SqL K H a xs/\SqL K H b ys/\(xs.length<=i\/ys.length<=i)⟩
structure Zap(z TI TO i1 i2:z4):Prop where
 a1:TI≠z
 a2:TO≠z
 a3:i1≠z
 a4:i2≠z
 a5:TI≠TO
 a6:TI≠i1
 a7:TI≠i2
 a8:TO≠i1
 a9:TO≠i2
 b1:i1≠i2
def Zst(z TI TO i1 i2 l1 l2:z4)(i:Nat)(h:qf):Prop:=IsZip h z TI TO .none/\IsPair h TI (.ref i1) (.ref i2)/\(∃a b,IsPair h TO a b)/\h.IsListIter i1 l1 i/\h.IsListIter i2 l2 i
def zk{h:qf}{a b:z4}{o o':Obj}(e:h.get? a=some o)(e':h.get? b=some o')(n:o.cls≠o'.cls):a≠b:=by rintro rfl;rw[e]at e';cases e';exact n rfl
def ypu(z:Nat):Zap (z+4) (z+2) (z+3) z (z+1):=by constructor<;>(show (_:Nat)≠(_:Nat);omega)
def nT{a b:String}(h:Value.type a≠Value.type b):Value.type a≠Value.type b:=h
def Zap.apart{X:Cx}{pins:Θ}{σ:St}{H:Hp}{s:qa}{z TI TO:z4}{xs ys:Ο}(d:Zap z TI TO i1 i2)(st:Zst z TI TO i1 i2 l1 l2 i s.heap)(p:PlainL s.heap l1 xs.toArray)(q:PlainL s.heap l2 ys.toArray)(_:Inv X pins σ H s):ZipApart z TI TO i1 i2 l1 l2:=by
 let⟨m,o,⟨a,b,c⟩,⟨r,k,l,_⟩,⟨v,n,j,_⟩⟩:=st;let⟨u,e,h,_⟩:=p.isList;let⟨t,g,f,_⟩:=q.isList
 exact⟨d.a1,d.a2,d.a3,d.a4,d.a5,d.a6,d.a7,d.a8,d.a9,d.b1,
  zk e m (by rw[h];exact nT ∅),zk e c (by rw[h];exact nT ∅),zk e k (by rw[h,l];decide),zk e n (by rw[h,j];decide),
  zk g m (by rw[f];exact nT ∅),zk g c (by rw[f];exact nT ∅),zk g k (by rw[f,l];decide),zk g n (by rw[f,j];decide)⟩
def ym8{P:qh}{w:qd}{K:z3}{x1}(l1 l2 z TI TO i1 i2:z4)(d:Zap z TI TO i1 i2):
  ye6 P w K (.Tuple elts x1 tpos) (Itz K l1 l2) [z,TI,TO,i1,i2] z (Zst z TI TO i1 i2 l1 l2) where
 mem:=by simp
 obj:=λi h G b g=>by
  let⟨N,j,⟨_,_,l⟩,⟨o1,e1,_,d1⟩,⟨o2,e2,_,d2⟩⟩:=G;simp only[cG,List.not_mem_nil,or_false]at g;rcases g with rfl|rfl|rfl|rfl|rfl
  .exists _,N,λv z=>by cases z
  .exists _,j,λv z=>by cases z
  .exists _,l,λv z=>by cases z
  .exists o1,e1,λv z=>by rw[d1]at z;cases z
  .exists o2,e2,λv z=>by rw[d2]at z;cases z
 keep:=λi h T G k=>by
  let⟨N,j,⟨a,b,l⟩,h1,h2⟩:=G;exists k z (by simp) _ N,k TI (by simp) _ j,⟨a,b,k TO (by simp) _ l⟩,h1.at λo e=>k i1 (by simp) o e,h2.at λo e=>k i2 (by simp) o e
 item:=by
  intro X hP hw hK hc i O s σ H E I F G hg;subst hP hw hK;let⟨xs,ys,x,y,U,L,B,hy⟩:=hg;let⟨ac,rv,p,ab⟩:=I.list U;let⟨a0,Q,p',a7⟩:=I.list L;let⟨u,hu,ru⟩:=rv.get B;let⟨u',a9,aa⟩:=Q.get hy;have D:=d.apart G p p' I;let⟨N,j,⟨va,vb,l⟩,J,M⟩:=G;refine wpAny_pyNext_zip_item D N j l J M p.isList p'.isList (x:=u) (y:=u') (by simpa using hu) (by simpa using a9) λT a1 a2 a3 a4 a5 a6 hk=>?_;exists _,rfl,wpAny_letOwnedTupleGo_zip a1 λr Z m=>?_;have C:H s.heap.objs.size=none:=I.hok.fresh (cq _);have lz:z<s.heap.objs.size:=cC N;have lo:TO<s.heap.objs.size:=cC l;have lI:TI<s.heap.objs.size:=cC j;have ae:i1<s.heap.objs.size:=by let⟨o,e,_⟩:=id J;exact cC e
  have af:i2<s.heap.objs.size:=by let⟨o,e,_⟩:=id M;exact cC e
  have keep:∀b o,b≠z->b≠TO->b≠i1->b≠i2->s.heap.get? b=some o->r.get? b=some o:=λb o Y n2 n3 n4 e=>(m.2 b Y).trans (hk b o Y n2 n3 n4 e);have a8:r.get? s.heap.objs.size=some { cls:=.type "tuple",data:=.seq #[u,u']}:=(m.2 _ (Nat.ne_of_gt lz)).trans a5;have nt:∀{b v},H b=some v->b≠z/\b≠TO/\b≠i1/\b≠i2:=λ{b v}e=>⟨yb e (F z (by simp)).1,yb e (F TO (by simp)).1,yb e (F i1 (by simp)).1,yb e (F i2 (by simp)).1⟩
  have S:HOk X.prog X.w (upd H s.heap.objs.size (.tup [x,y])) r:=λb o e=>by
   by_cases g:b=s.heap.objs.size
   .subst g;rw[ya]at e;cases e;exists by show 2<=sizeLine;decide,[u,u'],.cons ru (.cons aa .nil),⟨_,a8,rfl,_,rfl⟩
   .rw[yk g]at e;refine(I.hok b o e).stay (λc v t q=>?_) (λc q=>by rw[yk (yb q C)];exact q) λc ys q=>by rw[yk (yb q C)];exact q
    obtain⟨Y,n2,n3,n4⟩:c≠z/\c≠TO/\c≠i1/\c≠i2:=by
     rcases t with rfl|t
     .exact nt e
     .exact nt t
    exact keep c v Y n2 n3 n4 q
  have un:Un (frs X.stack) [z,TI,TO,i1,i2] H (upd H s.heap.objs.size (.tup [x,y])) s.heap r:=by
   have R:∀{b o},b∉[z,TI,TO,i1,i2]->s.heap.get? b=some o->r.get? b=some o:=λ{b o}g e=>keep b o (λq=>g (by simp[q])) (λq=>g (by simp[q])) (λq=>g (by simp[q])) (λq=>g (by simp[q])) e
   refine⟨λb o e n W B=>R B e,λb o e n W B=>⟨o.slots,R B e⟩,λb o e n W=>by rw[yk (cV (cC e))];exact n,λb o e B=>⟨o,R B e⟩,
    λb ys e=>by rw[yk (yb e C)];exact e,λb o v e=>by rw[yk (yb e C)];exact e,λb ps e=>⟨#[],by rw[yk (yb e C),e];simp⟩⟩
  have I1:Inv X O σ (upd H s.heap.objs.size (.tup [x,y])) {s with heap:=r}:=I.call' (s':={s with heap:=r}) rfl un S I.bare λb g=>by
   have f:=F b g;exact⟨f.2.2.2.1,f.2.1,f.2.2.2.2.1,f.2.2.2.2.2⟩
  exists .ref s.heap.objs.size,_,I1,rfl,⟨_,x,y,rfl,C,rfl,λzs h=>by rw[I.list_inj h U];exact B,λzs h=>by rw[I.list_inj h L];exact hy⟩,?_,λb g=>?_
  .exists Z,keep _ _ D.TIz D.TITO D.TIi1 D.TIi2 j,⟨u,u',(m.2 _ D.TOz).trans a2⟩,a3.at λo e=>(m.2 _ D.i1z).trans e,a4.at λo e=>(m.2 _ D.i2z).trans e
  .rw[yk (λq=>?_)]
   .exact(F b g).1
   .have U:b<s.heap.objs.size:=by
     simp only[cG,List.not_mem_nil,or_false]at g;rcases g with rfl|rfl|rfl|rfl|rfl<;>assumption
    exact absurd q (cV U)
 done:=by
  intro X hP hw hK hc i O s σ H E I F G hg;subst hP hw hK;let⟨xs,ys,U,L,B⟩:=hg;let⟨ac,rv,p,ab⟩:=I.list U;let⟨a0,Q,p',a7⟩:=I.list L;have D:=d.apart G p p' I;let⟨N,j,⟨va,vb,l⟩,J,M⟩:=G;have hl:=rv.length;have ad:=Q.length;refine wpAny_pyNext_zip_end (show X.A.handled=none from I.ok.hd hc) D N j l J M p.isList p'.isList (by simp;omega) λT hk=>⟨rfl,?_⟩;have nt:∀{b v},H b=some v->b≠z/\b≠TO/\b≠i1/\b≠i2:=λ{b v}e=>⟨yb e (F z (by simp)).1,yb e (F TO (by simp)).1,yb e (F i1 (by simp)).1,yb e (F i2 (by simp)).1⟩
  have S:HOk X.prog X.w H T:=λb o e=>by
   refine(I.hok b o e).stay (λc v t q=>?_) (λc q=>q) λc ys q=>q
   obtain⟨Y,n2,n3,n4⟩:c≠z/\c≠TO/\c≠i1/\c≠i2:=by
    rcases t with rfl|t
    .exact nt e
    .exact nt t
   exact hk c v Y n2 n3 n4 q
  have un:Un (frs X.stack) [z,TI,TO,i1,i2] H H s.heap T:=by
   have R:∀{b o},b∉[z,TI,TO,i1,i2]->s.heap.get? b=some o->T.get? b=some o:=λ{b o}g e=>hk b o (λq=>g (by simp[q])) (λq=>g (by simp[q])) (λq=>g (by simp[q])) (λq=>g (by simp[q])) e;exists λb o e n W B=>R B e,λb o e n W B=>⟨o.slots,R B e⟩,λb o e n W=>n,λb o e B=>⟨o,R B e⟩,λb ys e=>e,λb o v e=>e,λb ps e=>⟨#[],by rw[e];simp⟩
  exact I.call' (s':={s with heap:=T}) rfl un S I.bare λb g=>by
   have f:=F b g;exact⟨f.2.2.2.1,f.2.1,f.2.2.2.2.1,f.2.2.2.2.2⟩
 self:=λW W W W W G h=>wpAny_pyIter_zip G.1 h
section
variable{X:Cx}
def vgf(K:z3)(ta:TA):TI:=λσ H R=>ta σ H λvs H1=>∃a b,vs=[.ref a,.ref b]/\(∃xs ys,SqL K H1 a xs/\SqL K H1 b ys)/\R (Itz K a b) H1
def yqh{x1}{l m:qg}{ta:TA}{p pos:Pos}(hg:Gl X "zip")(hm:X.mg "zip"=none)(ha:PA X [l,m] ta)(hs:starEach [l,m] X.env=[(false,eval l X.env),(false,eval m X.env)]:=by rfl)(hs2:starEach [m] X.env=[(false,eval m X.env)]:=by rfl):
  PI X (.Tuple elts x1 tpos) (.Call (.Name "zip" p) [l,m] [] pos) (vgf X.K ta):=by
 intro f s σ H R I h;refine Call_ (ġ I hg hm (show bootBuiltins "zip"=some (.type "zip") by decide+kernel) (PyProof.Rows.callWith_type1 (thn (ha pos f s σ H _ I h) λM c h'=>?_) (by rw[hs,hs2]) (by rw[hs2];rfl)));let⟨O,E,d,y,w⟩:=h';let⟨a,b,e,⟨P,J,B,k⟩,q⟩:=w;subst e
 cases y with
 |cons r rr =>
  cases rr with
  |cons r' rr =>
   cases rr;cases r;cases r';let⟨G,N,A,j⟩:=d.list B;let⟨u,z,t,C⟩:=d.list k;refine call_zip_2 A.isList t.isList λL j n o v x F D=>?_;refine wpAny_pyIter_zip j ?_;have i:Zap (c.heap.objs.size+4) (c.heap.objs.size+2) (c.heap.objs.size+3) c.heap.objs.size (c.heap.objs.size+1):=ypu _;exists c.heap.objs.size+4,[c.heap.objs.size+4,c.heap.objs.size+2,c.heap.objs.size+3,c.heap.objs.size,c.heap.objs.size+1],_,_,E,rfl,d.kept (t':=c.toks) D,ym8 a b _ _ _ _ _ i,⟨j,n,⟨_,_,o⟩,v,x⟩,λb g=>?_,q
   have g:c.heap.objs.size<=b:=by
    simp only[cG,List.not_mem_nil,or_false]at g;rcases g with rfl|rfl|rfl|rfl|rfl<;>omega
   exact d.fpOk g (d.hok.fresh g)
def vcn{K:z3}{ta:TA}{σ:St}{H:Hp}{R:It->Hp->Prop}(h:ta σ H λvs H1=>∃a b,vs=[.ref a,.ref b]/\(∃xs ys,SqL K H1 a xs/\SqL K H1 b ys)/\R (Itz K a b) H1):vgf K ta σ H R:=h
end
def Ŀ{K:z3}{a b D:z4}{xs ys:Υ}{g:TG}{te:TE}{n:Nat}{fr:St}{R:Hp->Prop}{H1:Hp}(f:Nat->V)(hq:SqL K H1 a xs)(hq':SqL K H1 b ys)(hl:ys.length=xs.length)(hD:H1 D=none)
  (hs:∀i x y H t pre,xs[i]?=some x->ys[i]?=some y->yw H1 H->H D=some (.lst ((List.range i).map f))->H t=none->List.length pre=n->g (.ref t) (pre++fr) (upd H t (.tup [x,y])) λσ' H'=>(∃pre',List.length pre'=n/\σ'=pre'++fr)/\te σ' H' (MpK H1 D f xs.length i))
  (hd:∀H,yw H1 H->H D=some (.lst ((List.range xs.length).map f))->R H):Ã (Itz K a b) g te n fr D R H1:=by
 exists cW xs.length (Mp H1 D f),⟨xs.length,by simp,cP _,Mp.zero hD⟩,?_;rintro i m H ⟨rfl,o,p⟩;have q:=p.1.seq hq;have c:=p.1.seq hq';by_cases hlt:i<xs.length
 .refine .inr ⟨⟨xs,ys,xs[i],ys[i]'(),q,c,by simp[hlt],by simp[hl,hlt]⟩,λy H' pre l j=>?_⟩;let⟨t,x,y,rfl,d,rfl,h,k⟩:=l;exact hs i x y H t pre (h xs q) (k ys c) p.1 p.2 d j
 .have e:i=xs.length:=()
  subst e;exact .inl ⟨⟨xs,ys,q,c,.inl (cq _)⟩,hd H p.1 p.2⟩
section
variable{X:Cx}{iter elt tg:qg}{xs:Τ}{g:TG}{pos:Pos}{scope:Scope}{te:TE}{wi:TI}{ys:Τ}{js:qi Nat}
def ynd{y:Str}{py spos:Pos}(hN:X.N.Nodup)(hy:X.N[i]?=some y)(hl:X.env.scope.names.lookup y=some .local)(hc:X.calm=true)(hi:PI X tg iter wi)
  (he:∀(C:z4)(s2:qa)(H2:Hp)(fp:Χ),PE (X.compT scope ys C xs s2 H2 fp) elt te) (hjs:js.map (λj=>X.N[j]?)=ys.map some)
  (hgt:∀(C:z4)(s2:qa)(H2:Hp)(fp:Χ),PG (X.compT scope ys C xs s2 H2 fp) tg g)
  (hclos:closureFor scope X.env=pure (ĩ ys X.env)) (hyc:∀y∈ys,X.env.kindOf y=some .cell) (hrel:∀y∈ys,(relabel scope X.env).names.lookup y=some .cell)
  (hsw:swapsWith (.ListComp elt [⟨tg,iter,[],0⟩] scope pos) (some (.Name y py)) spos.line X.env=pure true:=by rfl)
  (hfr:∀y∈scope.names,y.2=.free->y.1∈ys:=by decide+kernel) (hcell:∀y∈scope.names,y.2≠.cell:=by decide+kernel) (hkind:scope.kind=.function:=by rfl)
  (hnames:∀y∈scope.names,y.2=.local->scope.names.lookup y.1=some .local:=by decide+kernel) (hs:∀x,foldedSetIterable iter X.env x=pure x:=by intro _;rfl):
  PS X (.Assign [.Name y py] (.ListComp elt [⟨tg,iter,[],0⟩] scope pos) spos) (vdz (yjs wi g te xs.length js) (xg i)):=by
 refine .mk λa s σ H k I h=>?_;rw[exec_Assign_Name_used _ _ _ _ hsw];refine cg (wpAny_standAt (cg ?_));show wpAny _ X.A (do let _ <- comprehension (.ListComp elt [⟨tg,iter,[],0⟩] scope pos) scope X.env _ (newList []) false (eval iter X.env) (some (assign (.Name y py) X.env))) _ _ s;refine cg (dR (wpAny_comprehension_free (use:=some (assign (.Name y py) X.env)) (Q:=λZ d=>SP X a k .next d) rfl hs hclos hkind hnames (thn (hi a s σ H _ I h) λv P B=>thn B λE s2 F=>?_)) (λZ d L=>cr (cr L)) λZ Z e=>e);let⟨W,fp,S,J,H2,e,O,T,r,K,h⟩:=F;subst e;refine â (R:=λD n=>xg i (.ref D) σ n k.nx) (RR:=compPost (model X.prog X.w) X.A X.xe (some (assign (.Name y py) X.env)) (λZ d=>SP X a k .next d)) hc he hgt hcell hkind hfr hyc hrel hjs O T r K h ?_;intro D C n d m f G M q;refine wpAny_assign_Name (Ě (v:=V.ref D) M hN hy (Or.inl hl) rfl (λl t p=>?_) (Or.inr hl));exists m,?_,λU u=>⟨_,n,?_,q⟩
 .obtain⟨b,u,c⟩:=p;refine G.sameBut u λz=>?_;rcases c with c|c
  .exact f.2.1 (z.trans c)
  .exact f.2.2.2.2.1 y b c z.symm
 .exact t.turned (t':=l.toks) (λb o c e=>u.extBut b o c e) f.1 f.2.1 f.2.2.2.1 f.2.2.2.2.1 f.2.2.2.2.2
end
section
variable{X:Cx}
def onI(f:Int->Int):V->V
 | .int i=>.int (f i)
 |v=>v
def yje(f:Int->Int)(ns:Ρ):(ns.map V.int).map (onI f)=(ns.map f).map V.int:=by rw[cX,cX];rfl
def ykn{pre:qi (Ψ)}(h:List.length pre=2):∃v1 v2,pre=[v1,v2]:=by let⟨v1,t,rfl,a⟩:=ů h;let⟨v2,t,rfl,b⟩:=ů a;exists v1,v2,by rw[List.length_eq_zero_iff.mp b]
end
section
variable{X:Cx}
def vc8:V->qi V->Hp->VK->Prop:=λx vs H Q=>∃i:Int,x=.int i/\vs=[]/\Q (.int (Builtin.Int.intBits i:Nat)) H
def ys7:MtR X "int.bit_length" vc8:=by intro b s σ H x e v f Q I c d h;let⟨i,rfl,rfl,q⟩:=h;let⟨t,rfl⟩:=c;have a:=d.zero;subst a;exact PyProof.Rows.call_int_bit_length ⟨.int _,H,I.tok _,⟨_,rfl⟩,q⟩
def yx0{K:z3}{i:Int}{H:Hp}{Q:VK}(h:Q (.int (Builtin.Int.intBits i:Nat)) H):tyV K "int" (.int i) H/\vc8 (.int i) [] H Q:=⟨rfl,i,rfl,rfl,h⟩
end
section
variable{prog:qh}{w:qd}{A:qe}{E:Δ}{s:qa}
def ynr{z TI TO:z4}{x y b:qb}{Q:Δ}(D:ZipApart z TI TO i1 i2 l1 l2)(hz:IsZip s.heap z TI TO .none)(hTI:IsPair s.heap TI (.ref i1) (.ref i2))(hTO:IsPair s.heap TO a b)
  (h1:s.heap.IsTupleIter i1 l1 k1) (h2:s.heap.IsTupleIter i2 l2 k2) (hl1:s.heap.IsTuple l1 xs) (hl2:s.heap.IsTuple l2 ys) (hx:xs[k1]?=some x) (hy:ys[k2]?=some y)
  (hQ:∀h',IsZip h' z TI TO (rawInt s.heap.objs.size)->IsPair h' TO x y->h'.IsTupleIter i1 l1 (k1+1)->h'.IsTupleIter i2 l2 (k2+1)->IsPair h' s.heap.objs.size x y->h'.objs.size=s.heap.objs.size+1->(∀c o,c≠z->c≠TO->c≠i1->c≠i2->s.heap.get? c=some o->h'.get? c=some o)->Q (.ref s.heap.objs.size) {s with heap:=h'}):
  wpAny (model prog w) A (Builtin.«zip.__next__» ⟨[.ref z],[]⟩) (λfin s'=>∃v,fin=.done (.ret v)/\Q v s') E s:=by
 (show wpAny _ _ (field (.ref z) 2 >>=_) _ _ _);refine cg (dy hz rfl (x:=.bool false) rfl ?_)
 (show wpAny _ _ (field (.ref z) 3 >>=_) _ _ _);refine cg (dy hz rfl (x:=.ref TI) rfl ?_);refine cg (wpAny_seqItems hTI rfl ?_)
 (show wpAny _ _ (Builtin.SmallTypes.ownedTupleIsFree (.ref z) >>=_) _ _ _);refine cg ?_;unfold Builtin.SmallTypes.ownedTupleIsFree
 refine cg (dy hz rfl (x:=.none) rfl (cr ?_));simp only[if_true];refine cg (wpAny_rule ?_);refine cg (dy hz rfl (x:=.ref TO) rfl ?_);refine cg (wpAny_setField_rec hz (by simp) λh₁ hz₁ hs₁=>?_)
 replace hz₁:IsZip h₁ z TI TO .ellipsis:=hz₁;refine cg ?_;simp only[List.zipIdx_cons,List.zipIdx_nil,List.forIn_cons,List.forIn_nil]
 refine cg (cg (wpAny_onRaise ?_));(show wpAny _ _ (Builtin.SmallTypes.nextOf (.ref i1) >>=_) _ _ _);refine cg (ψ (h1.at λo e=>hs₁.extBut _ _ D.i1z e) (hl1.extBut hs₁.extBut D.l1z) hx λh₂ h1₂ hs₂=>cr ?_);have hTO₂:IsPair h₂ TO a b:=hs₂.extBut _ _ D.TOi1 (hs₁.extBut _ _ D.TOz hTO);refine cg (wpAny_seqItems hTO₂ rfl ?_);refine cg (wpAny_updateSeq_pair hTO₂ λh₃ hTO₃ hs₃=>?_);replace hTO₃:IsPair h₃ TO x b:=hTO₃;refine cg (wpAny_letGo (cr ?_));refine cg (cg (wpAny_onRaise ?_));(show wpAny _ _ (Builtin.SmallTypes.nextOf (.ref i2) >>=_) _ _ _);refine cg (ψ (h2.at λo e=>hs₃.extBut _ _ D.TOi2.symm (hs₂.extBut _ _ D.i12.symm (hs₁.extBut _ _ D.i2z e))) (((hl2.extBut hs₁.extBut D.l2z).extBut hs₂.extBut D.l2i1).extBut hs₃.extBut D.l2TO) hy λh₄ h2₄ hs₄=>cr ?_);have hTO₄:IsPair h₄ TO x b:=hs₄.extBut _ _ D.TOi2 hTO₃;refine cg (wpAny_seqItems hTO₄ rfl ?_);refine cg (wpAny_updateSeq_pair hTO₄ λh₅ hTO₅ hs₅=>?_);replace hTO₅:IsPair h₅ TO x y:=hTO₅;refine cg (wpAny_letGo (cr (cr ?_)));refine cg (wpAny_seqItems hTO₅ rfl ?_);refine cg (wpAny_newTuple ?_);have g:h₅.objs.size=s.heap.objs.size:=by(rw[hs₅.1,hs₄.1,hs₃.1,hs₂.1,hs₁.1])
 have hz₅:IsZip h₅ z TI TO .ellipsis:=(hs₅.extBut _ _ D.TOz.symm (hs₄.extBut _ _ D.i2z.symm (hs₃.extBut _ _ D.TOz.symm (hs₂.extBut _ _ D.i1z.symm hz₁))));have hk₅:∀c o,c≠z->c≠TO->c≠i1->c≠i2->s.heap.get? c=some o->h₅.get? c=some o:=λc o f j m l e=>hs₅.extBut _ _ j (hs₄.extBut _ _ l (hs₃.extBut _ _ j (hs₂.extBut _ _ m (hs₁.extBut _ _ f e))));have h1₅:h₅.IsTupleIter i1 l1 (k1+1):=h1₂.at λo e=>hs₅.extBut _ _ D.TOi1.symm (hs₄.extBut _ _ D.i12 (hs₃.extBut _ _ D.TOi1.symm e));have h2₅:h₅.IsTupleIter i2 l2 (k2+1):=h2₄.at λo e=>hs₅.extBut _ _ D.TOi2.symm e;have d:z<h₅.objs.size:=(cC hz₅)
 (show wpAny _ _ (Builtin.SmallTypes.ownedTupleHandOut (.ref z) (.ref h₅.objs.size) >>=_) _ _ _);refine cg ?_;unfold Builtin.SmallTypes.ownedTupleHandOut
 have hz₆:IsZip (h₅.push { cls:=.type "tuple",data:=.seq #[x,y]}) z TI TO .ellipsis:=(ck _ hz₅);refine cg (wpAny_setField_rec hz₆ (by simp) λh₇ hz₇ hs₇=>?_);replace hz₇:IsZip h₇ z TI TO (rawInt h₅.objs.size):=hz₇;refine wpAny_setField_rec hz₇ (by simp) λh₈ hz₈ hs₈=>?_;replace hz₈:IsZip h₈ z TI TO (rawInt h₅.objs.size):=hz₈;have k:∀c o,c≠z->h₅.get? c=some o->h₈.get? c=some o:=(λc o f e=>hs₈.extBut _ _ f (hs₇.extBut _ _ f (ck _ e)));have hT₈:IsPair h₈ h₅.objs.size x y:=(hs₈.extBut _ _ (Nat.ne_of_gt d) (hs₇.extBut _ _ (Nat.ne_of_gt d) (cD _ rfl)));have i:h₈.objs.size=h₅.objs.size+1:=by(rw[hs₈.1,hs₇.1,Heap.size_push])
 (rw[g]at hz₈ hT₈ i);refine cr ⟨_,rfl,?_⟩;show Q (.ref h₅.objs.size) _;rw[g]
 exact hQ h₈ hz₈ (k _ _ D.TOz hTO₅) (h1₅.at λo e=>k _ o D.i1z e) (h2₅.at λo e=>k _ o D.i2z e) hT₈ i (λc o f j m l e=>k c o f (hk₅ c o f j m l e))
def yru{z TI TO:z4}{b:qb}{Q:Fin->qa->Prop}(hh:A.handled=none)(D:ZipApart z TI TO i1 i2 l1 l2)(hz:IsZip s.heap z TI TO .none)(hTI:IsPair s.heap TI (.ref i1) (.ref i2))(hTO:IsPair s.heap TO a b)
  (h1:s.heap.IsTupleIter i1 l1 k1) (h2:s.heap.IsTupleIter i2 l2 k2) (hl1:s.heap.IsTuple l1 xs) (hl2:s.heap.IsTuple l2 ys) (hend:xs[k1]?=none\/ys[k2]?=none)
  (hE:∀h' e,(∀c o,c≠z->c≠TO->c≠i1->c≠i2->s.heap.get? c=some o->h'.get? c=some o)->(∃o,h'.get? e=some o/\o.cls=.type "StopIteration")->E (.ref e) {s with heap:=h'}):wpAny (model prog w) A (Builtin.«zip.__next__» ⟨[.ref z],[]⟩) Q E s:=by
 (show wpAny _ _ (field (.ref z) 2 >>=_) _ _ _);refine cg (dy hz rfl (x:=.bool false) rfl ?_)
 (show wpAny _ _ (field (.ref z) 3 >>=_) _ _ _);refine cg (dy hz rfl (x:=.ref TI) rfl ?_);refine cg (wpAny_seqItems hTI rfl ?_)
 (show wpAny _ _ (Builtin.SmallTypes.ownedTupleIsFree (.ref z) >>=_) _ _ _);refine cg ?_;unfold Builtin.SmallTypes.ownedTupleIsFree
 refine cg (dy hz rfl (x:=.none) rfl (cr ?_));simp only[if_true];refine cg (wpAny_rule ?_);refine cg (dy hz rfl (x:=.ref TO) rfl ?_);refine cg (wpAny_setField_rec hz (by simp) λh₁ hz₁ hs₁=>?_)
 replace hz₁:IsZip h₁ z TI TO .ellipsis:=hz₁;refine cg ?_;simp only[List.zipIdx_cons,List.zipIdx_nil,List.forIn_cons,List.forIn_nil]
 refine cg (cg (wpAny_onRaise ?_));(show wpAny _ _ (Builtin.SmallTypes.nextOf (.ref i1) >>=_) _ _ _)
 cases hx:xs[k1]? with
 |none =>
  refine cg (ď hh (h1.at λo e=>hs₁.extBut _ _ D.i1z e) (hl1.extBut hs₁.extBut D.l1z) hx λh₂ e hs₂ k=>?_);let⟨j,d,f⟩:=k;have hz₂:IsZip h₂ z TI TO .ellipsis:=hs₂ _ _ D.i1z.symm hz₁;have g:e≠z:=(λx=>by(subst x;rw[hz₂]at d;cases d;simp at f));exact wpAny_setField_rec hz₂ (by simp) λh₃ Z hs₃=>hE h₃ e (λc o i Z l Z x=>hs₃.extBut _ _ i (hs₂ _ _ l (hs₁.extBut _ _ i x))) ⟨j,hs₃.extBut _ _ g d,f⟩
 |some x =>
  have n:ys[k2]?=none:=by(rcases hend with h|h;(rw[hx]at h;cases h);exact h)
  refine cg (ψ (h1.at λo e=>hs₁.extBut _ _ D.i1z e) (hl1.extBut hs₁.extBut D.l1z) hx λh₂ h1₂ hs₂=>cr ?_);have hTO₂:IsPair h₂ TO a b:=(hs₂.extBut _ _ D.TOi1 (hs₁.extBut _ _ D.TOz hTO));refine cg (wpAny_seqItems hTO₂ rfl ?_);refine cg (wpAny_updateSeq_pair hTO₂ λh₃ hTO₃ hs₃=>?_);refine cg (wpAny_letGo (cr ?_));refine cg (cg (wpAny_onRaise ?_));(show wpAny _ _ (Builtin.SmallTypes.nextOf (.ref i2) >>=_) _ _ _);refine cg (ď hh (h2.at λo e=>hs₃.extBut _ _ D.TOi2.symm (hs₂.extBut _ _ D.i12.symm (hs₁.extBut _ _ D.i2z e))) (((hl2.extBut hs₁.extBut D.l2z).extBut hs₂.extBut D.l2i1).extBut hs₃.extBut D.l2TO) n λh₄ e hs₄ k=>?_);let⟨j,d,f⟩:=k;have hz₄:IsZip h₄ z TI TO .ellipsis:=hs₄ _ _ D.i2z.symm (hs₃.extBut _ _ D.TOz.symm (hs₂.extBut _ _ D.i1z.symm hz₁));have g:e≠z:=(λx=>by(subst x;rw[hz₄]at d;cases d;simp at f));exact wpAny_setField_rec hz₄ (by simp) λh₅ Z hs₅=>hE h₅ e (λc o i m l p x=>hs₅.extBut _ _ i (hs₄ _ _ p (hs₃.extBut _ _ m (hs₂.extBut _ _ l (hs₁.extBut _ _ i x))))) ⟨j,hs₅.extBut _ _ g d,f⟩
def ymv{z TI TO:z4}{x y b:qb}{Q:qj qb->qa->Prop}(D:ZipApart z TI TO i1 i2 l1 l2)(hz:IsZip s.heap z TI TO .none)(hTI:IsPair s.heap TI (.ref i1) (.ref i2))(hTO:IsPair s.heap TO a b)
  (h1:s.heap.IsTupleIter i1 l1 k1) (h2:s.heap.IsTupleIter i2 l2 k2) (hl1:s.heap.IsTuple l1 xs) (hl2:s.heap.IsTuple l2 ys) (hx:xs[k1]?=some x) (hy:ys[k2]?=some y)
  (hQ:∀h',IsZip h' z TI TO (rawInt s.heap.objs.size)->IsPair h' TO x y->h'.IsTupleIter i1 l1 (k1+1)->h'.IsTupleIter i2 l2 (k2+1)->IsPair h' s.heap.objs.size x y->h'.objs.size=s.heap.objs.size+1->(∀c o,c≠z->c≠TO->c≠i1->c≠i2->s.heap.get? c=some o->h'.get? c=some o)->Q (some (.ref s.heap.objs.size)) {s with heap:=h'}):
  wpAny (model prog w) A (pyNext (.ref z)) Q E s:=by
 have d:s.TypeIs (.ref z) "zip":=(⟨_,hz,rfl⟩);unfold pyNext;exact cg (wpAny_attempt (wpAny_callSpecial?_slot (name:=Str.ofString "__next__") d F.slot_zip_next (wpAny_call_entry F.slot_zip_next d F.entry_zip_next
   (ynr D hz hTI hTO h1 h2 hl1 hl2 hx hy λh' g e k j f i h=>cr (hQ h' g e k j f i h)) (F.args_zip_next_1 _))))
def ymp{z TI TO:z4}{b:qb}{Q:qj qb->qa->Prop}(hh:A.handled=none)(D:ZipApart z TI TO i1 i2 l1 l2)(hz:IsZip s.heap z TI TO .none)(hTI:IsPair s.heap TI (.ref i1) (.ref i2))(hTO:IsPair s.heap TO a b)
  (h1:s.heap.IsTupleIter i1 l1 k1) (h2:s.heap.IsTupleIter i2 l2 k2) (hl1:s.heap.IsTuple l1 xs) (hl2:s.heap.IsTuple l2 ys) (hend:xs[k1]?=none\/ys[k2]?=none)
  (hQ:∀h',(∀c o,c≠z->c≠TO->c≠i1->c≠i2->s.heap.get? c=some o->h'.get? c=some o)->Q none {s with heap:=h'}):wpAny (model prog w) A (pyNext (.ref z)) Q E s:=by
 have d:s.TypeIs (.ref z) "zip":=(⟨_,hz,rfl⟩);unfold pyNext;refine cg (wpAny_attempt (wpAny_callSpecial?_slot (name:=Str.ofString "__next__") d F.slot_zip_next (wpAny_call_entry F.slot_zip_next d F.entry_zip_next
  (yru hh D hz hTI hTO h1 h2 hl1 hl2 hend λh' e g f=>?_) (F.args_zip_next_1 _))))
 let⟨o,h,i⟩:=f;refine cg (wpAny_isInstance (T:="StopIteration") (b:=true) ⟨o,h,i⟩ isSubtype_stop ?_);exact cr (hQ _ g)
end
abbrev zT1(h:qf)(l1:z4):qf:=h.push { cls:=.type "tuple_iterator",data:=.fields #[.ref l1,.int 0 0]}
abbrev zT2(h:qf)(l1 l2:z4):qf:=(zT1 h l1).push { cls:=.type "tuple_iterator",data:=.fields #[.ref l2,.int 0 0]}
abbrev zT3(h:qf)(l1 l2:z4):qf:=(zT2 h l1 l2).push { cls:=.type "tuple",data:=.seq #[.ref h.objs.size,.ref (zT1 h l1).objs.size]}
abbrev zT4(h:qf)(l1 l2:z4):qf:=(zT3 h l1 l2).push { cls:=.type "tuple",data:=.seq #[.none,.none]}
abbrev zT5(h:qf)(l1 l2:z4):qf:=(zT4 h l1 l2).push { cls:=.type "zip",data:=.fields #[.none,.bool false,.bool false,.ref (zT2 h l1 l2).objs.size,.ref (zT3 h l1 l2).objs.size]}
def ysu(l1 l2:z4)(xs ys:Array qb):Meets (Builtin.«zip.__new__» ⟨[.type "zip",.ref l1,.ref l2],[]⟩) (λZ R s=>s.heap.IsTuple l1 xs/\s.heap.IsTuple l2 ys/\R (.ok (.ret (.ref (zT4 s.heap l1 l2).objs.size))) {s with heap:=zT5 s.heap l1 l2}) :=
 .of_wp λk w A R s h=>by
  let⟨f,g,d,l,j⟩:=s;let⟨c,a,h⟩:=h;have i:=sub_zip;have b:Heap.IsTuple (Shared.heap ⟨f,g,d,l,j⟩) l1 xs:=c;have e:Heap.IsTuple (Shared.heap ⟨f.push { cls:=.type "tuple_iterator",data:=.fields #[.ref l1,.int 0 0]},g,d,l,j⟩) l2 ys:=Heap.IsTuple.push a _
  wp_walk using wpAny_pyIter_tuple b,wpAny_pyIter_tuple e
  exists _,rfl,h
section
variable{prog:qh}{w:qd}{A:qe}{E:Δ}{s:qa}
def yni{Q:Δ}(hl1:s.heap.IsTuple l1 xs)(hl2:s.heap.IsTuple l2 ys)
  (h:∀h',IsZip h' (s.heap.objs.size+4) (s.heap.objs.size+2) (s.heap.objs.size+3) .none->IsPair h' (s.heap.objs.size+2) (.ref s.heap.objs.size) (.ref (s.heap.objs.size+1))->IsPair h' (s.heap.objs.size+3) .none .none->h'.IsTupleIter s.heap.objs.size l1 0->h'.IsTupleIter (s.heap.objs.size+1) l2 0 ->
   (∀c o,s.heap.get? c=some o->h'.get? c=some o)->Q (.ref (s.heap.objs.size+4)) {s with heap:=h'}):wpAny (model prog w) A (call (.type "zip") [.ref l1,.ref l2]) Q E s:=by
 refine callType_new F.called_zip ∅ (F.typeCall_zip_2 _ _) (F.newCall_zip_2 _ _) (λb=>F.args_object_init_3 b _ _) F.entry_zip_new (ysu l1 l2 xs ys) ⟨hl1,hl2,?_⟩;have e:(zT1 s.heap l1).objs.size=s.heap.objs.size+1:=Heap.size_push ..;have d:(zT2 s.heap l1 l2).objs.size=s.heap.objs.size+2:=by rw[Heap.size_push,e]
 have a:(zT3 s.heap l1 l2).objs.size=s.heap.objs.size+3:=by rw[Heap.size_push,d]
 have f:(zT4 s.heap l1 l2).objs.size=s.heap.objs.size+4:=by rw[Heap.size_push,a]
 have g5:(zT5 s.heap l1 l2).get? (zT4 s.heap l1 l2).objs.size=some _:=cD _ rfl;have g4:(zT5 s.heap l1 l2).get? (zT3 s.heap l1 l2).objs.size=some _:=ck _ (cD _ rfl);have g3:(zT5 s.heap l1 l2).get? (zT2 s.heap l1 l2).objs.size=some _:=ck _ (ck _ (cD _ rfl));have g2:(zT5 s.heap l1 l2).get? (zT1 s.heap l1).objs.size=some _:=ck _ (ck _ (ck _ (cD _ rfl)));have g1:(zT5 s.heap l1 l2).get? s.heap.objs.size=some _:=(ck _ (ck _ (ck _ (ck _ (cD _ rfl)))));show _/\_;rw[d,a,f]at g5;rw[e,d]at g3;rw[a]at g4;rw[e]at g2;rw[f];exists⟨_,g5,rfl⟩,h _ g5 g3 g4 ⟨_,g1,rfl,rfl⟩ ⟨_,g2,rfl,rfl⟩ λc o x=>(ck _ (ck _ (ck _ (ck _ (ck _ x)))))
end
def vdq(K:z3)(a b:z4):It :=
 ⟨λi H=>∃xs ys x y,SqT K H a xs/\SqT K H b ys/\xs[i]?=some x/\ys[i]?=some y,
  λi H v H'=>∃t x y,v=.ref t/\H t=none/\H'=upd H t (.tup [x,y])/\(∀xs,SqT K H a xs->xs[i]?=some x)/\(∀ys,SqT K H b ys->ys[i]?=some y),
  λi H=>∃xs ys,SqT K H a xs/\SqT K H b ys/\(xs.length<=i\/ys.length<=i)⟩
def vgt(z TI TO i1 i2 l1 l2:z4)(i:Nat)(h:qf):Prop:=IsZip h z TI TO .none/\IsPair h TI (.ref i1) (.ref i2)/\(∃a b,IsPair h TO a b)/\h.IsTupleIter i1 l1 i/\h.IsTupleIter i2 l2 i
def Zap.apartT{X:Cx}{H:Hp}{s:qa}{z TI TO:z4}{xs ys:Ο}{us vs:Υ}(d:Zap z TI TO i1 i2)(st:vgt z TI TO i1 i2 l1 l2 i s.heap)(p:s.heap.IsTuple l1 xs.toArray)(q:s.heap.IsTuple l2 ys.toArray)(hn:H TO=none)(hK:X.K.lookup TO=none)
  (hq:SqT X.K H l1 us) (hq':SqT X.K H l2 vs):ZipApart z TI TO i1 i2 l1 l2:=by
 let⟨r,v,⟨a,b,w⟩,⟨x,m,n,_⟩,⟨B,t,k,_⟩⟩:=st;let⟨A,e,j,_⟩:=p;let⟨y,g,f,_⟩:=q
 have c:∀{l:z4}{u:Υ},SqT X.K H l u->l≠TO:=λ{l u}h=>by
  rintro rfl;rcases h with(h|⟨o,h⟩)|⟨_,_,_,h,_⟩
  .rw[hn]at h;cases h
  .rw[hn]at h;cases h
  .rw[hK]at h;cases h
 exact⟨d.a1,d.a2,d.a3,d.a4,d.a5,d.a6,d.a7,d.a8,d.a9,d.b1,
  zk e r (by rw[j];exact nT ∅),c hq,zk e m (by rw[j,n];decide),zk e t (by rw[j,k];decide),
  zk g r (by rw[f];exact nT ∅),c hq',zk g m (by rw[f,n];decide),zk g t (by rw[f,k];decide)⟩
def yhm{P:qh}{w:qd}{K:z3}{x1}(l1 l2 z TI TO i1 i2:z4)(d:Zap z TI TO i1 i2)(hKT:K.lookup TO=none):
  ye6 P w K (.Tuple elts x1 tpos) (vdq K l1 l2) [z,TI,TO,i1,i2] z (vgt z TI TO i1 i2 l1 l2) where
 mem:=by simp
 obj:=λi h J b g=>by
  let⟨O,j,⟨_,_,l⟩,⟨o1,e1,_,d1⟩,⟨o2,e2,_,d2⟩⟩:=J;simp only[cG,List.not_mem_nil,or_false]at g;rcases g with rfl|rfl|rfl|rfl|rfl
  .exists _,O,λv z=>by cases z
  .exists _,j,λv z=>by cases z
  .exists _,l,λv z=>by cases z
  .exists o1,e1,λv z=>by rw[d1]at z;cases z
  .exists o2,e2,λv z=>by rw[d2]at z;cases z
 keep:=λi h h' J k=>by
  let⟨O,j,⟨a,b,l⟩,h1,h2⟩:=J;exists k z (by simp) _ O,k TI (by simp) _ j,⟨a,b,k TO (by simp) _ l⟩,h1.at λo e=>k i1 (by simp) o e,h2.at λo e=>k i2 (by simp) o e
 item:=by
  intro X hP hw hK hc i R s σ H E I C J hg;subst hP hw hK;let⟨xs,ys,x,y,Q,G,B,hy⟩:=hg;let⟨Z,rv,p0,ab⟩:=I.tuple Q;let⟨L,T,S,a7⟩:=I.tuple G;have p:s.heap.IsTuple l1 Z.toArray:=p0;have p':s.heap.IsTuple l2 L.toArray:=S;let⟨u,hu,ru⟩:=rv.get B;let⟨u',a9,aa⟩:=T.get hy;have D:=d.apartT J p p' (C TO (by simp)).1 hKT Q G;let⟨O,j,⟨va,vb,l⟩,M,N⟩:=J;refine ymv D O j l M N p p' (x:=u) (y:=u') (by simpa using hu) (by simpa using a9) λh' a1 a2 a3 a4 a5 a6 hk=>?_;exists _,rfl,wpAny_letOwnedTupleGo_zip a1 λr a0 m=>?_;have F:H s.heap.objs.size=none:=I.hok.fresh (cq _);have lz:z<s.heap.objs.size:=cC O;have lo:TO<s.heap.objs.size:=cC l;have lI:TI<s.heap.objs.size:=cC j;have ad:i1<s.heap.objs.size:=by let⟨o,e,_⟩:=id M;exact cC e
  have ae:i2<s.heap.objs.size:=by let⟨o,e,_⟩:=id N;exact cC e
  have keep:∀b o,b≠z->b≠TO->b≠i1->b≠i2->s.heap.get? b=some o->r.get? b=some o:=λb o n1 n2 n3 n4 e=>(m.2 b n1).trans (hk b o n1 n2 n3 n4 e);have a8:r.get? s.heap.objs.size=some { cls:=.type "tuple",data:=.seq #[u,u']}:=(m.2 _ (Nat.ne_of_gt lz)).trans a5;have nt:∀{b v},H b=some v->b≠z/\b≠TO/\b≠i1/\b≠i2:=λ{b v}e=>⟨yb e (C z (by simp)).1,yb e (C TO (by simp)).1,yb e (C i1 (by simp)).1,yb e (C i2 (by simp)).1⟩
  have Y:HOk X.prog X.w (upd H s.heap.objs.size (.tup [x,y])) r:=λb o e=>by
   by_cases g:b=s.heap.objs.size
   .subst g;rw[ya]at e;cases e;exists by show 2<=sizeLine;decide,[u,u'],.cons ru (.cons aa .nil),⟨_,a8,rfl,_,rfl⟩
   .rw[yk g]at e;refine(I.hok b o e).stay (λc v t q=>?_) (λc q=>by rw[yk (yb q F)];exact q) λc ys q=>by rw[yk (yb q F)];exact q
    obtain⟨n1,n2,n3,n4⟩:c≠z/\c≠TO/\c≠i1/\c≠i2:=by
     rcases t with rfl|t
     .exact nt e
     .exact nt t
    exact keep c v n1 n2 n3 n4 q
  have un:Un (frs X.stack) [z,TI,TO,i1,i2] H (upd H s.heap.objs.size (.tup [x,y])) s.heap r:=by
   have U:∀{b o},b∉[z,TI,TO,i1,i2]->s.heap.get? b=some o->r.get? b=some o:=λ{b o}g e=>keep b o (λq=>g (by simp[q])) (λq=>g (by simp[q])) (λq=>g (by simp[q])) (λq=>g (by simp[q])) e
   refine⟨λb o e n W B=>U B e,λb o e n W B=>⟨o.slots,U B e⟩,λb o e n W=>by rw[yk (cV (cC e))];exact n,λb o e B=>⟨o,U B e⟩,
    λb ys e=>by rw[yk (yb e F)];exact e,λb o v e=>by rw[yk (yb e F)];exact e,λb ps e=>⟨#[],by rw[yk (yb e F),e];simp⟩⟩
  have I1:Inv X R σ (upd H s.heap.objs.size (.tup [x,y])) {s with heap:=r}:=I.call' (s':={s with heap:=r}) rfl un Y I.bare λb g=>by
   have f:=C b g;exact⟨f.2.2.2.1,f.2.1,f.2.2.2.2.1,f.2.2.2.2.2⟩
  exists .ref s.heap.objs.size,_,I1,rfl,⟨_,x,y,rfl,F,rfl,λzs h=>by rw[I.tuple_inj h Q];exact B,λzs h=>by rw[I.tuple_inj h G];exact hy⟩,?_,λb g=>?_
  .exists a0,keep _ _ D.TIz D.TITO D.TIi1 D.TIi2 j,⟨u,u',(m.2 _ D.TOz).trans a2⟩,a3.at λo e=>(m.2 _ D.i1z).trans e,a4.at λo e=>(m.2 _ D.i2z).trans e
  .rw[yk (λq=>?_)]
   .exact(C b g).1
   .have Q:b<s.heap.objs.size:=by
     simp only[cG,List.not_mem_nil,or_false]at g;rcases g with rfl|rfl|rfl|rfl|rfl<;>assumption
    exact absurd q (cV Q)
 done:=by
  intro X hP hw hK hc i R s σ H E I C J hg;subst hP hw hK;let⟨xs,ys,Q,G,B⟩:=hg;let⟨Z,rv,p0,ab⟩:=I.tuple Q;let⟨L,T,S,a7⟩:=I.tuple G;have p:s.heap.IsTuple l1 Z.toArray:=p0;have p':s.heap.IsTuple l2 L.toArray:=S;have D:=d.apartT J p p' (C TO (by simp)).1 hKT Q G;let⟨O,j,⟨va,vb,l⟩,M,N⟩:=J;have hl:=rv.length;have ac:=T.length;refine ymp (show X.A.handled=none from I.ok.hd hc) D O j l M N p p' (by simp;omega) λh' hk=>⟨rfl,?_⟩;have nt:∀{b v},H b=some v->b≠z/\b≠TO/\b≠i1/\b≠i2:=λ{b v}e=>⟨yb e (C z (by simp)).1,yb e (C TO (by simp)).1,yb e (C i1 (by simp)).1,yb e (C i2 (by simp)).1⟩
  have Y:HOk X.prog X.w H h':=λb o e=>by
   refine(I.hok b o e).stay (λc v t q=>?_) (λc q=>q) λc ys q=>q
   obtain⟨n1,n2,n3,n4⟩:c≠z/\c≠TO/\c≠i1/\c≠i2:=by
    rcases t with rfl|t
    .exact nt e
    .exact nt t
   exact hk c v n1 n2 n3 n4 q
  have un:Un (frs X.stack) [z,TI,TO,i1,i2] H H s.heap h':=by
   have U:∀{b o},b∉[z,TI,TO,i1,i2]->s.heap.get? b=some o->h'.get? b=some o:=λ{b o}g e=>hk b o (λq=>g (by simp[q])) (λq=>g (by simp[q])) (λq=>g (by simp[q])) (λq=>g (by simp[q])) e;exists λb o e n W B=>U B e,λb o e n W B=>⟨o.slots,U B e⟩,λb o e n W=>n,λb o e B=>⟨o,U B e⟩,λb ys e=>e,λb o v e=>e,λb ps e=>⟨#[],by rw[e];simp⟩
  exact I.call' (s':={s with heap:=h'}) rfl un Y I.bare λb g=>by
   have f:=C b g;exact⟨f.2.2.2.1,f.2.1,f.2.2.2.2.1,f.2.2.2.2.2⟩
 self:=λW W W W W J h=>wpAny_pyIter_zip J.1 h
section
variable{X:Cx}
def vdh(K:z3)(ta:TA):TI:=λσ H R=>ta σ H λvs H1=>∃a b,vs=[.ref a,.ref b]/\(∃xs ys,SqT K H1 a xs/\SqT K H1 b ys)/\R (vdq K a b) H1
def yrb{x1}{l m:qg}{ta:TA}{p pos:Pos}(hg:Gl X "zip")(hm:X.mg "zip"=none)(ha:PA X [l,m] ta)(hs:starEach [l,m] X.env=[(false,eval l X.env),(false,eval m X.env)]:=by rfl)(hs2:starEach [m] X.env=[(false,eval m X.env)]:=by rfl):
  PI X (.Tuple elts x1 tpos) (.Call (.Name "zip" p) [l,m] [] pos) (vdh X.K ta):=by
 intro g s σ H R I h;refine Call_ (ġ I hg hm (show bootBuiltins "zip"=some (.type "zip") by decide+kernel) (PyProof.Rows.callWith_type1 (thn (ha pos g s σ H _ I h) λN c h'=>?_) (by rw[hs,hs2]) (by rw[hs2];rfl)));let⟨P,J,d,B,z⟩:=h';let⟨a,b,e,⟨Q,L,E,n⟩,q⟩:=z;subst e
 cases B with
 |cons r rr =>
  cases rr with
  |cons r' rr =>
   cases rr;cases r;cases r';let⟨w,O,D,k⟩:=d.tuple E;let⟨f,C,x,F⟩:=d.tuple n;refine yni (show c.heap.IsTuple a w.toArray from D) (show c.heap.IsTuple b f.toArray from x) λM k t v y A G=>?_;refine wpAny_pyIter_zip k ?_
   have u:X.K.lookup (c.heap.objs.size+3)=none:=by
    cases hl:X.K.lookup (c.heap.objs.size+3)with
    |none=>rfl
    |some o=>exact absurd (cC (d.kIn _ o hl)) (Nat.not_lt.mpr (Nat.le_add_right _ _))
   have j:Zap (c.heap.objs.size+4) (c.heap.objs.size+2) (c.heap.objs.size+3) c.heap.objs.size (c.heap.objs.size+1):=ypu _;exists c.heap.objs.size+4,[c.heap.objs.size+4,c.heap.objs.size+2,c.heap.objs.size+3,c.heap.objs.size,c.heap.objs.size+1],_,_,J,rfl,d.kept (t':=c.toks) G,yhm a b _ _ _ _ _ j u,⟨k,t,⟨_,_,v⟩,y,A⟩,λb i=>?_,q
   have i:c.heap.objs.size<=b:=by
    simp only[cG,List.not_mem_nil,or_false]at i;rcases i with rfl|rfl|rfl|rfl|rfl<;>omega
   exact d.fpOk i (d.hok.fresh i)
def ysd{K:z3}{ta:TA}{σ:St}{H:Hp}{R:It->Hp->Prop}(h:ta σ H λvs H1=>∃a b,vs=[.ref a,.ref b]/\(∃xs ys,SqT K H1 a xs/\SqT K H1 b ys)/\R (vdq K a b) H1):vdh K ta σ H R:=h
end
def ych{K:z3}{a b D:z4}{xs ys:Υ}{g:TG}{te:TE}{n m:Nat}{fr:St}{R:Hp->Prop}{H1:Hp}(f:Nat->V)(hq:SqT K H1 a xs)(hq':SqT K H1 b ys)(h1:m<=xs.length)(h2:m<=ys.length)(h3:xs.length<=m\/ys.length<=m)(hD:H1 D=none)
  (hs:∀i x y H t pre,i<m->xs[i]?=some x->ys[i]?=some y->yw H1 H->H D=some (.lst ((List.range i).map f))->H t=none->List.length pre=n->g (.ref t) (pre++fr) (upd H t (.tup [x,y])) λσ' H'=>(∃pre',List.length pre'=n/\σ'=pre'++fr)/\te σ' H' (MpK H1 D f m i))
  (hd:∀H,yw H1 H->H D=some (.lst ((List.range m).map f))->R H):Ã (vdq K a b) g te n fr D R H1:=by
 exists cW m (Mp H1 D f),⟨m,by simp,cP _,Mp.zero hD⟩,?_;rintro i j H ⟨rfl,r,p⟩;have q:=p.1.tup hq;have c:=p.1.tup hq';by_cases hlt:i<m
 .refine .inr ⟨⟨xs,ys,xs[i]'(),ys[i]'(),q,c,ci _,ci _⟩,λy H' pre o k=>?_⟩;let⟨t,x,y,rfl,d,rfl,h,l⟩:=o;exact hs i x y H t pre hlt (h xs q) (l ys c) p.1 p.2 d k
 .have e:i=m:=()
  subst e;exact .inl ⟨⟨xs,ys,q,c,h3⟩,hd H p.1 p.2⟩
end L2
namespace L2
open PySem PySem.Spec PyProof.Rows HT
section
variable{prog:qh}{w:qd}{A:qe}{E:Δ}{s:qa}
def yce{t sl:z4}{items:Array qb}{vl vu:qb}{lo hi:qj Int}{Q:Δ}(ht:IsTup s.heap t items)(hs:s.heap.IsSliceOf sl vl vu .none)(pl:IsPart vl lo)(pu:IsPart vu hi)
  (hw:sIx items.size 0 lo=0/\sIx items.size items.size hi=items.size) (h:Q (.ref t) s):wpAny (model prog w) A (getItem (.ref t) (.ref sl)) Q E s:=by
 let⟨e,c,d,f⟩:=id hs;have b:s.TypeIs (.ref sl) "slice":=⟨e,c,d⟩;unfold getItem
 try with_reducible refine wpAny_holding ?_
 first|refine cg (cr ?_)|skip
 refine cg (wpAny_sequenceKey ht.typeIs ∅ ?_);refine cg (wpAny_callSpecial?_slot (name:=Str.ofString "__getitem__") ht.typeIs PyProof.Rows.slot_tuple_getitem
  (wpAny_call_entry PyProof.Rows.slot_tuple_getitem ht.typeIs entry_tuple_getitem ?_ (args_tuple_getitem _ _)))
 show wpAny _ _ (Builtin.Tuple.tupleItemsOf (.ref t) >>=_) _ _ s;refine cg (tupleItemsOf_ ht ?_);refine cg (wpAny_typeOf b ?_);rw[if_pos ∅];refine cg (jm hs pl pu ?_)
 have a:(((sIx items.size 0 lo:Nat):Int) == 0 && (1:Int) == 1 && (sIx items.size items.size hi-sIx items.size 0 lo) == items.size)=true:=by
  rw[hw.1,hw.2];simp
 show wpAny _ _ (if (((sIx items.size 0 lo:Nat):Int) == 0 && (1:Int) == 1 && (sIx items.size items.size hi-sIx items.size 0 lo) == items.size)=true then _ else _) _ _ s;rw[if_pos a];refine cg (m:=Builtin.Tuple.tupleIsExact _) ?_;unfold Builtin.Tuple.tupleIsExact;refine cg (wpAny_typeOf ht.typeIs (cr ?_));show wpAny _ _ (if (Value.type "tuple" == Value.type "tuple")=true then _ else _) _ _ s;rw[if_pos ∅]
 first
  |exact cg (wpAny_rule (cr ⟨_,rfl,cr h⟩))
  |exact cg (wpAny_rule (cg (cr (cr ⟨_,rfl,cr h⟩))))
  |exact cg (cg (wpAny_rule (cr (cr ⟨_,rfl,cr h⟩))))
end
section
variable{X:Cx}
def vec(K:z3):V->qj Int->qj Int->Hp->VK->Prop:=λx lo hi H Q=>∃a xs,x=.ref a/\SqT K H a xs/\(HT.sIx xs.length 0 lo=0/\HT.sIx xs.length xs.length hi=xs.length)/\Q (.ref a) H
def ytq:SlR X (vec X.K):=by
 intro e s σ H x v o n lo p t Q I g i f m h;let⟨a,j,rfl,k,l,q⟩:=h;cases g;let⟨c,r,d,u⟩:=I.tuple k;have b:c.toArray.size=j.length:=by rw[cF];exact r.length.symm
 exact⟨"tuple",_,PyProof.Rows.slot_tuple_getitem.lookup,d.typeIs,yce d i f m (by rw[b];exact l) ⟨.ref a,H,I,rfl,q⟩⟩
end
end L2
namespace L2
open PySem PySem.Spec PyProof.Rows PySem.SeqAt
open AutoSeq1 (wpAny_loadPart')
end L2
namespace L2
open PySem PySem.Spec PyProof.Rows
variable{C D it:z4}{tg:qg}{fd:FuncData}{pins:Θ}{ep i j:Nat}{apos cpos:Pos}{P:qh}{st:qc}{p0 p1 qual:Str}{ov:qb}{Q:Δ}
def yc7{X:Cx}{K:z3}{e:qg}{f:Str}{pos:Pos}{ta:TE}(hK:X.K=K)(he:PE X e ta)(hb:attributeBase e f X.env (eval e X.env)=eval e X.env):PE X (.Attribute e f pos) (vfn K ta f):=hK ▸ ym he hb
structure yle(K:z3)(x qual:Str)(st:qc)(D:z4)(f:z4)(fd:FuncData):Prop where
 ex:∃(oc:qb)(od:qj z4)(kV doc pm:qb)(an:qj z4)(cdv ct:qb)(osl:Array (qj qb)),
  fd=W.fnOf x qual (xa st) (wu st) (yd st) (.ref D) kV doc pm an cdv ct/\K.lookup f=some ⟨oc,od,.func fd,osl⟩/\W.codeIn K cdv qual=true
 kp:W.keepIn K (.ref f)=true
section
variable{w:qd}{K:z3}{mg:Ε}{base:qf}
def yle.okE{x:Str}{f:z4}{N ps:Τ}{k:Nat}{sp:Sp}(F:yle K x qual st D f fd)(S:yi N ps (yd st))(len:∀vs H Q E,sp vs H Q E->vs.length=ps.length)
  (hbody:∀(cdv:qb)(A:qe)(outer:qi Env)(s:qa)(H:Hp)(vs:Υ)(Q:VK)(E:XK),jp k (A.deeper (envOfC qual (yd st) s.heap.objs.size f cdv))->sp vs H Q E ->
   ∃t,PSs (vv (CXe P w) P w K mg base N qual (yd st) f cdv A outer s H E) (wu st) t/\t { nx:=λZ H'=>Q .non H',rt:=Q} (ù N vs) H):vq P w K mg base (CXe P w) (k+1) f fd ps sp:=by let⟨j,h,kV,d,l,m,cdv,i,c,rfl,e,b⟩:=F.ex;exact yvk e b S len λA outer s H vs Q E g a=>hbody cdv A outer s H vs Q E g a
def vf2:Nat->(qi qb->Prop)->Prop
 |0,C=>C []
 |n+1,C=>∀a,vf2 n λt=>C (a::t)
def ysz:∀{n:Nat}{C:qi qb->Prop}{us:Ο},vf2 n C->us.length=n->C us:=by
 intro n C us
 induction us generalizing n C with
 |nil=>intro h e;subst e;exact h
 |cons a t ih=>intro h e;subst e;exact ih (h a) rfl
def yle.binds{x:Str}{f:z4}{ps:Τ}{ds:Ο}{o:Obj}{its:Array qb}{n:Nat}(hj:j+ds.length=ps.length)(F:yle K x qual st D f fd)(hD:K.lookup D=some o)(ho:o.data=.seq its n)
  (h:∀(kV doc pm:qb)(an:qj z4)(cdv ct:qb),vf2 j λus =>
   ∃k:qj (Array qb)->Sem (qi (Str×qb)),bindArgs (W.fnOf x qual (xa st) (wu st) (yd st) (.ref D) kV doc pm an cdv ct) ⟨us,[]⟩=(seqItems? (.ref D) >>=k)/\k (some its)=pure (ps.zip (us++ds))):zr K fd ps ds:=by let⟨m,i,kV,doc,pm,an,cdv,ct,a,rfl,l,e⟩:=F.ex;intro s us c d;let⟨k,b,g⟩:=ysz (us:=us) (h kV doc pm an cdv ct) (by rw[cj]at d;omega);exact BindsTo.of_defaults rfl (c _ _ hD) ho b g
def yis{x:Str}{f:z4}{oc:qb}{od an:qj z4}{osl:Array (qj qb)}{kV doc pm cdv ct:qb}(l:K.lookup f=some ⟨oc,od,.func (W.fnOf x qual (xa st) (wu st) (yd st) (.ref D) kV doc pm an cdv ct),osl⟩)
  (c:W.codeIn K cdv qual=true) (k:W.keepIn K (.ref f)=true):yle K x qual st D f (W.fnOf x qual (xa st) (wu st) (yd st) (.ref D) kV doc pm an cdv ct):=⟨⟨oc,od,kV,doc,pm,an,cdv,ct,osl,rfl,l,c⟩,k⟩
end
def yio(K:z3):qi V->Hp->VK->Prop:=λxs H Q=>∃p ys,xs=[.ref p]/\(SqL K H p ys\/SqT K H p ys)/\∀l,H l=none->Q (.ref l) (upd H l (.lst ys))
section
variable{X:Cx}{body suite:qi qc}{b₀:qc}{tx n:Str}{np hpos pos:Pos}{tb:(St->XK)->TS}{ts:TS}
abbrev THs:=Ă->St->z4->z4->Hp->Prop
def PHs(X:Cx)(hs:qi ExceptHandler)(th:THs):Prop:=∀(pins:Θ)(s:qa)(σ:St)(H:Hp)(x T Ca:z4)(En:Ă),Inv X pins σ H s->Fy X pins H x->Fy X pins H T->Trd s.heap x T (.ref Ca) .none->th En σ Ca x H ->
 wpAny (model X.prog X.w) X.A (handleBy (.ref x) X.env hs) (SP X pins En) X.xe s
def vfl:THs:=λZ Z Z Z Z=>False
def yzc{hs:qi ExceptHandler}:PHs X hs vfl:=λZ Z Z Z Z Z Z Z Z Z Z Z h=>h.elim
def exH(th:THs)(En:Ă):St->XK:=λσ' C Z H'=>∀x,H' x=none->∃Ca,C=.ref Ca/\th En σ' Ca x H'
def vct(tb:(St->XK)->TS)(th:THs):TS:=λEn σ H=>tb (exH th En) En σ H
def yrw{h₀:ExceptHandler}{hs:qi ExceptHandler}{th:THs}(hb:∀pn Ex,PSs (X.tr pn Ex) body (tb Ex))(hst:X.stack=X.env::X.outer/\X.env.frame=some X.env.locals)(hh:PHs X (h₀::hs) th):
  PS X (.Try body (h₀::hs) [] [] pos) (vct tb th):=by
 refine .mk λa s σ H i I h=>?_
 have w:∀{f t},SP (X.tr (X.pn++a) (exH th i)) [] i f t->SP X a i f t:=λ{f t}q=>by
  cases f with
  |next=>let⟨σ',c,J,q⟩:=q;exact⟨σ',c,J.unwish.unpnd,q⟩
  |brk=>let⟨σ',c,J,q⟩:=q;exact⟨σ',c,J.unwish.unpnd,q⟩
  |cont=>let⟨σ',c,J,q⟩:=q;exact⟨σ',c,J.unwish.unpnd,q⟩
  |ret u=>let⟨v,σ',c,J,r,q⟩:=q;exists v,σ',c,J.unwish.unpnd,r,q
 refine wpAny_Try_except (dR (hb (X.pn++a) (exH th i) [] s σ H i (I.pnd.wish _) h) (λf j q=>?_) λe j q=>?_)
 .have q:=w q
  cases f with
  |next=>exact wpAny_execs_nil q
  |brk=>exact q
  |cont=>exact q
  |ret u=>exact q
 .obtain⟨N,σ',c,x,T,C,rfl,J,g,d,tr,q⟩:=q;have J:Inv X a σ' c j:=J.unpnd;have g:Fy X a c x:=⟨g.1,g.2.1,g.2.2.1,g.2.2.2.1,g.2.2.2.2.1,λp n=>g.2.2.2.2.2 p (dP _ n)⟩;have d:Fy X a c T:=⟨d.1,d.2.1,d.2.2.1,d.2.2.2.1,d.2.2.2.2.1,λp n=>d.2.2.2.2.2 p (dP _ n)⟩;let⟨F,rfl,K⟩:=q x g.1;let⟨E,y⟩:=yj2 (X:=X) tr;have B:=J.ok.frames;rw[hst.1]at B;have D:=yez (x:=x) (T:=T) J;rw[hst.1]at D;refine wpAny_noteFrame_onW (base:=hid j X x T) B D hst.2 y yer yuw λA ⟨m,k,z,l⟩=>?_;rw[<- hst.1]at k;let⟨J,L,d,tr⟩:=Ê J g d m k z l;let⟨E,y⟩:=yj2 (s:={j with heap:=A}) (X:=X) tr;refine wpAny_setFlight_noneW (base:=hid {j with heap:=A} X x L) yer (yez J) y λO m k z l=>?_;let⟨J,G,d,tr⟩:=Ê J g d m k z λb o e M=>⟨o.slots,l b o e M⟩;exact hh a _ σ' c x G F i J g d tr K
end
section
variable{σ:St}{H:Hp}{nx:Ζ}{rt:VK}{bk ct:Ζ}{ts:TS}
def yy0{th:THs}{tb:(St->XK)->TS}(h:tb (exH th ⟨nx,rt,bk,ct⟩) ⟨nx,rt,bk,ct⟩ σ H):vct tb th ⟨nx,rt,bk,ct⟩ σ H:=h
end
structure Dg(K:z3)(x q:Str)(st:qc)(f:z4)(fd:FuncData)(M:Prop):Prop where
 F:Fun K x q st f fd
 m:M
structure Df(K:z3)(x q:Str)(st:qc)(ps:Τ)(f:z4)(fd:FuncData)(M:Prop):Prop where
 F:Fun K x q st f fd
 B:zr K fd ps []
 m:M
def ylh{α:Type}{n:Nat}{a:qi α}(h:a.length=n+1):∃x r,a=x::r/\r.length=n:=by
 cases a with
 |nil=>cases h
 |cons x r=>exists x,r,rfl,Nat.succ.inj h
abbrev Dgf(K:z3)(mg:Ε)(x:Str)(st:qc)(f:z4)(fd:FuncData):Prop:=Dg K x x st f fd (mg x=some (.ref f))
abbrev Dgm(K:z3)(C:z4)(x q:Str)(st:qc)(f:z4)(fd:FuncData):Prop:=Dg K x q st f fd (yw4 K C x f)
abbrev Dff(K:z3)(mg:Ε)(x:Str)(st:qc)(ps:Τ)(f:z4)(fd:FuncData):Prop:=Df K x x st ps f fd (mg x=some (.ref f))
abbrev Dfm(K:z3)(C:z4)(x q:Str)(st:qc)(ps:Τ)(f:z4)(fd:FuncData):Prop:=Df K x q st ps f fd (yw4 K C x f)
section
variable{K:z3}{mg:Ε}{h:qf}{x q:Str}{f:z4}{M:Prop}{oc kV doc pm cdv ct:qb}{od an:qj z4}{osl:Array (qj qb)}
def dgf_mk(X:K.In h)(G:h.Ns mainGlobals mg)(a:W.nsIn K mainGlobals x=some (some (.ref f)))(l:K.lookup f=some ⟨oc,od,.func (W.fnOf x x (xa st) (wu st) (yd st) .none kV doc pm an cdv ct),osl⟩)
  (c:W.codeIn K cdv x=true) (k:W.keepIn K (.ref f)=true):Dgf K mg x st f (W.fnOf x x (xa st) (wu st) (yd st) .none kV doc pm an cdv ct):=⟨yqb l c k,W.mg_of X G a⟩
def dgm_mk(a:W.findIn K (.ref C) x=some (some (.ref f)))(i:W.isFn K (.ref f)=true)(l:K.lookup f=some ⟨oc,od,.func (W.fnOf x q (xa st) (wu st) (yd st) .none kV doc pm an cdv ct),osl⟩)
  (c:W.codeIn K cdv q=true) (k:W.keepIn K (.ref f)=true):Dgm K C x q st f (W.fnOf x q (xa st) (wu st) (yd st) .none kV doc pm an cdv ct):=⟨yqb l c k,a,i,k⟩
def Dg.d1(D:Dg K x q st f fd M)(h:∀(kV doc pm:qb)(an:qj z4)(cdv ct:qb)(u0:qb),bindArgs (W.fnOf x q (xa st) (wu st) (yd st) .none kV doc pm an cdv ct) ⟨[u0],[]⟩=pure [(p0,u0)]:=by intros;rfl):Df K x q st [p0] f fd M :=
 ⟨D.F,D.F.binds λkV doc pm an cdv ct c b=>(by
  let⟨u0,d,rfl,a⟩:=ylh b;obtain rfl:=dQ a;exact h kV doc pm an cdv ct u0),D.m⟩
def Dg.d2(D:Dg K x q st f fd M)(h:∀(kV doc pm:qb)(an:qj z4)(cdv ct:qb)(u0 u1:qb),bindArgs (W.fnOf x q (xa st) (wu st) (yd st) .none kV doc pm an cdv ct) ⟨[u0,u1],[]⟩=pure [(p0,u0),(p1,u1)]:=by intros;rfl):Df K x q st [p0,p1] f fd M :=
 ⟨D.F,D.F.binds λkV doc pm an cdv ct g c=>(by
  let⟨u0,d,rfl,b⟩:=ylh c;let⟨u1,e,rfl,a⟩:=ylh b;obtain rfl:=dQ a;exact h kV doc pm an cdv ct u0 u1),D.m⟩
def Dg.d3{p2:Str}(D:Dg K x q st f fd M)(h:∀(kV doc pm:qb)(an:qj z4)(cdv ct:qb)(u0 u1 u2:qb),bindArgs (W.fnOf x q (xa st) (wu st) (yd st) .none kV doc pm an cdv ct) ⟨[u0,u1,u2],[]⟩=pure [(p0,u0),(p1,u1),(p2,u2)]:=by intros;rfl):Df K x q st [p0,p1,p2] f fd M :=
 ⟨D.F,D.F.binds λkV doc pm an cdv ct i d=>(by
  let⟨u0,e,rfl,c⟩:=ylh d;let⟨u1,g,rfl,b⟩:=ylh c;let⟨u2,j,rfl,a⟩:=ylh b;obtain rfl:=dQ a;exact h kV doc pm an cdv ct u0 u1 u2),D.m⟩
def Dg.d4{p2 p3:Str}(D:Dg K x q st f fd M)(h:∀(kV doc pm:qb)(an:qj z4)(cdv ct:qb)(u0 u1 u2 u3:qb),bindArgs (W.fnOf x q (xa st) (wu st) (yd st) .none kV doc pm an cdv ct) ⟨[u0,u1,u2,u3],[]⟩=pure [(p0,u0),(p1,u1),(p2,u2),(p3,u3)]:=by intros;rfl):Df K x q st [p0,p1,p2,p3] f fd M :=
 ⟨D.F,D.F.binds λkV doc pm an cdv ct k e=>(by
  let⟨u0,i,rfl,d⟩:=ylh e;let⟨u1,j,rfl,c⟩:=ylh d;let⟨u2,l,rfl,a⟩:=ylh c;let⟨u3,g,rfl,b⟩:=ylh a;obtain rfl:=dQ b;exact h kV doc pm an cdv ct u0 u1 u2 u3),D.m⟩
end
structure KC(K:z3)(C:z4):Prop where
 pg:W.plainGet K C Str.empty=true
 hd:W.hasDictIn K C=true
 po:W.plainOver K C=true
 sa:W.findIn K (.ref C) "__setattr__"=some (some (.builtin "object.__setattr__"))
 mk':W.makesIn K C=true
 kc:W.keepIn K (.ref C)=true
def KC.cls{K:z3}(h:KC K C):Cls K C:=⟨h.pg,h.hd,h.po,h.sa⟩
abbrev GV(K:z3)(x:Str)(v:qb):Prop:=W.nsIn K mainGlobals x=some (some v)
abbrev GZ(K:z3)(x:Str):Prop:=W.nsIn K mainGlobals x=some none
abbrev FN(K:z3)(C:z4)(x:Str):Prop:=W.findIn K (.ref C) x=some none
section
variable{K:z3}{H:Hp}{p dx:z4}{fs fs':Ι}{v:V}{nm:Str}{P:V->Prop}{nx:Ζ}{σ:St}
abbrev RdX(K:z3)(H:Hp)(p:z4)(nm:Str)(P:V->Prop):Prop:=∃a' C dx fs v,V.ref p=.ref a'/\H a'=some (.ins C dx fs)/\Cls K C/\vn K C nm/\fs.lookup nm=some v/\P v
abbrev StX(K:z3)(H:Hp)(p:z4)(nm:Str)(v:V)(nx:Ζ)(σ:St):Prop:=∃a' C dx fs,V.ref p=.ref a'/\H a'=some (.ins C dx fs)/\Cls K C/\vn K C nm/\fs.length<1000/\wb nx σ (upd H a' (.ins C dx (μ nm v fs)))
abbrev MtX(H:Hp)(p C:z4)(nm:Str)(R:Prop):Prop:=∃a dx fs,V.ref p=.ref a/\H a=some (.ins C dx fs)/\fs.lookup nm=none/\R
def rdX(hp:H p=some (.ins C dx fs))(c:Cls K C)(n:vn K C nm)(l:fs.lookup nm=some v)(h:P v):RdX K H p nm P:=⟨p,C,dx,fs,v,rfl,hp,c,n,l,h⟩
def stX(hp:H p=some (.ins C dx fs))(c:Cls K C)(n:vn K C nm)(l:fs.length<1000)(e:μ nm v fs=fs')(h:wb nx σ (upd H p (.ins C dx fs'))):StX K H p nm v nx σ:=⟨p,C,dx,fs,rfl,hp,c,n,l,by rw[e];exact h⟩
def gRd(h:RdX K H p nm P):RdX K H p nm P:=h
def gSt(h:StX K H p nm v nx σ):StX K H p nm v nx σ:=h
def gMt{R:Prop}(h:MtX H p C nm R):MtX H p C nm R:=h
def lt0:([]:Ι).length<1000:=by show 0<1000;decide
def lt1{a:Str×V}:[a].length<1000:=by show 1<1000;decide
def lt2{a b:Str×V}:[a,b].length<1000:=by show 2<1000;decide
def lt3{a b c:Str×V}:[a,b,c].length<1000:=by show 3<1000;decide
def lt4{a b c d:Str×V}:[a,b,c,d].length<1000:=by show 4<1000;decide
def lt5{a b c d e:Str×V}:[a,b,c,d,e].length<1000:=by show 5<1000;decide
def lt6{a b c d e f:Str×V}:[a,b,c,d,e,f].length<1000:=by show 6<1000;decide
theorem vcs:∀{fs:Ι},nm∉fs.map (·.1)->fs.lookup nm=none
 |[],_=>rfl
 |(g,v)::r,h=>vz (λe=>h (by rw[e];exact cT)) (vcs λm=>h (cZ _ m))
def mtX{R:Prop}{N:Τ}(hp:H p=some (.ins C dx fs))(k:fs.map (·.1)=N)(n:nm∉N)(h:R):MtX H p C nm R:=⟨p,dx,fs,rfl,hp,vcs (by rw[k];exact n),h⟩
def wa{N P:Τ}{sc:Scope}(h:(sc.kind=.function/\sc.isCoroutine=false/\sc.isGenerator=false)/\N.Nodup/\N.take P.length=P/\(∀x∈P,sc.names.lookup x=some .local\/sc.names.lookup x=some .cell)/\∀y∈sc.names,y.2≠.free):yi N P sc:=⟨h.1.1,h.1.2.1,h.1.2.2,h.2.1,h.2.2.1,h.2.2.2.1,h.2.2.2.2⟩
end
section
variable{prog:qh}{w:qd}{A:qe}{E:Δ}{s:qa}{d:z4}{od:Obj}{es:Array DictEntry}
def yfl(hne:(d == sysModules)=false)(h0:s.heap.get? d=some od)(hx:od.ExactDict)
  (k:Q (.ref s.heap.objs.size) {s with heap:=s.heap.push { cls:=.type "dict_items",data:=.fields #[.ref d]} }):wpAny (model prog w) A (call (.builtin "dict.items") [.ref d]) Q E s:=by have a:s.TypeIs (.ref d) "dict":=⟨od,h0,hx.1⟩;refine wpAny_call_entry F.slot_dict_items a F.entry_dict_items ?_ (F.args_dict_items_1 _);unfold Builtin.«dict.items» Builtin.Dict.noArgs;refine cg (cg (wpAny_notOrdered_dict a ?_));show wpAny _ _ (pure d) _ _ s;refine cr ?_;show wpAny _ _ (Builtin.Dict.showsAll d >>=_) _ _ s;unfold Builtin.Dict.showsAll;rw[if_neg (by rw[hne];decide)];exact cg (cr (cg (wpAny_newObj_type (cr ⟨_,rfl,k⟩))))
def yff{v:z4}(hv:s.heap.IsItemsView v d)(h0:s.heap.get? d=some od)(hd:od.data=.dict es ep)
  (k:Q (.ref s.heap.objs.size) {s with heap:=s.heap.push { cls:=.type "dict_itemiterator",data:=.fields #[.none,.bool false,.ref d,.int 0 0,.int es.size 0,.int ep 0,.none,.none]} }):wpAny (model prog w) A (pyIter (.ref v)) Q E s:=by let⟨e,b,c,a⟩:=id hv;refine wpAny_pyIter_slot hv.typeIs F.slot_dict_items_iter (wpAny_call_entry F.slot_dict_items_iter hv.typeIs F.entry_dict_items_iter ?_ (F.args_dict_items_iter_1 _));unfold Builtin.«dict_items.__iter__» Builtin.Dict_items.dictOf Builtin.Dict_items.newIterator;refine cg (cr (cg (cg (dy b a (x:=.ref d) rfl (cr (cg (cg (wpAny_dictEntries h0 hd (cg (wpAny_dictEpoch h0 hd ?_))))))))));simp only[show Builtin.Dict_items.ownsTuple "dict_itemiterator"=true by decide,if_true];refine wpAny_newObj_type (cr ⟨_,rfl,"dict_itemiterator",_,⟨_,cD _ rfl,rfl⟩,F.slot_dict_itemiterator_next.lookup,?_⟩) (by simp only[sizeOk,Builtin.Dict_items.ownedTupleFields,cF,cj,cO,List.length_nil,sizeLine_eq];omega);simpa[rawInt,Builtin.Dict_items.ownedTupleFields]using k
def yfp{ok:qb}{Q:qj qb->qa->Prop}(hi:IsItemIter s.heap it d i es.size ep ok ov)(h0:s.heap.get? d=some od)(hd:od.data=.dict es ep)(hlt:i<es.size)
  (k:∀h',IsItemIterOut h' it d (i+1) es.size ep es[i].key es[i].val s.heap.objs.size->h'.get? s.heap.objs.size=some { cls:=.type "tuple",data:=.seq #[es[i].key,es[i].val]}->(∀b o,b≠it->s.heap.get? b=some o->h'.get? b=some o)->Q (some (.ref s.heap.objs.size)) {s with heap:=h'}):
  wpAny (model prog w) A (pyNext (.ref it)) Q E s:=by
 let⟨a,g,l,m,j⟩:=s;have c:Shared.TypeIs ⟨a,g,l,m,j⟩ (.ref it) "dict_itemiterator":=⟨_,hi,rfl⟩;have J:it<a.objs.size:=cC hi;have K:a.objs.size≠it:=Nat.ne_of_gt J;unfold pyNext;refine cg (wpAny_attempt (wpAny_callSpecial?_slot (name:=Str.ofString "__next__") c F.slot_dict_itemiterator_next (wpAny_call_entry F.slot_dict_itemiterator_next c F.entry_dict_itemiterator_next ?_ (F.args_dict_itemiterator_next_1 _))));refine cg (cr (cg (cg ?_)))
 first|refine cg (wpAny_typeNameOfWhole_itemiter c (cr ?_))|refine cg (wpAny_typeNameOf_itemiter c (cr ?_))
 refine cg (wpAny_fieldsOf hi rfl ?_);simp only[show Builtin.Dict_items.ownsTuple "dict_itemiterator"=true by decide,if_true];show wpAny _ _ (if (Value.ref d == Value.none)=true then _ else _) _ _ _;rw[if_neg (show ¬(Value.ref d == Value.none)=true from cI)];refine cg (cr (cg (wpAny_dictEntries h0 hd ?_)));rw[if_neg (by simp)];refine cg (cr (cg (wpAny_dictEpoch h0 hd ?_)));rw[if_neg (by simp)];refine cr ?_;simp only[show ¬((i:Int)<0) by omega,if_false,Int.toNat_natCast,Array.getElem?_eq_getElem hlt];refine cg ?_
 first|refine cg (wpAny_typeNameOfWhole_itemiter c (cr ?_))|refine cg (wpAny_typeNameOf_itemiter c (cr ?_))
 refine cg (wpAny_isOneOf_itemiter c ?_);show wpAny _ _ (setField (.ref it) 3 (rawInt ((i:Int)+1)) >>=_) _ _ ⟨a,g,l,m,j⟩;refine cg (wpAny_setField_rec hi (by simp) λg1 h f=>?_)
 replace f:Heap.SameBut it a g1:=f
 replace h:IsItemIter g1 it d (i+1) es.size ep ok ov:=by unfold IsItemIter;rw[show ((i+1:Nat):Int)=(i:Int)+1 by omega];simpa[rawInt]using h
 have r:Shared.TypeIs ⟨g1,g,l,m,j⟩ (.ref it) "dict_itemiterator":=⟨_,h,rfl⟩;refine cg (wpAny_holding (cg (wpAny_isOneOf_itemiter r (cg (wpAny_isOneOf_itemiter r ?_)))));show wpAny _ _ (Builtin.Dict_items.pairFromOwner (.ref it) 6 es[i].key es[i].val) _ _ ⟨g1,g,l,m,j⟩;unfold Builtin.Dict_items.pairFromOwner;refine cg (wpAny_newTuple ?_);have p:IsItemIter (g1.push { cls:=.type "tuple",data:=.seq #[es[i].key,es[i].val]}) it d (i+1) es.size ep ok ov:=ck _ h;generalize z:g1.push { cls:=.type "tuple",data:=.seq #[es[i].key,es[i].val]}=g2 at p;have G:g1.objs.size=a.objs.size:=f.1;have L:g2.get? a.objs.size=some { cls:=.type "tuple",data:=.seq #[es[i].key,es[i].val]}:=by rw[<- z,<- G];exact cD _ rfl
 have I:∀b o,b≠it->a.get? b=some o->g2.get? b=some o:=λb o M e=>by rw[<- z];exact ck _ (f.extBut b o M e)
 show wpAny _ _ (Builtin.Dict_items.ownedTupleIsFree (.ref it) >>=_) _ _ ⟨g2,g,l,m,j⟩;rw[G];clear z h f r G g1;unfold Builtin.Dict_items.ownedTupleIsFree;refine cg (cg (dy p rfl (x:=.none) rfl (cr ?_)));simp only[if_true];refine cg (dy p rfl (x:=ok) rfl (cg (dy p rfl (x:=ov) rfl ?_)));refine cg (wpAny_setField_rec p (by simp) λg3 y B=>?_)
 replace B:Heap.SameBut it g2 g3:=B
 replace y:IsItemIter g3 it d (i+1) es.size ep es[i].key ov:=y
 refine cg (wpAny_setField_rec y (by simp) λg4 C u=>?_)
 replace u:Heap.SameBut it g3 g4:=u
 replace C:IsItemIter g4 it d (i+1) es.size ep es[i].key es[i].val:=C
 refine cg (wpAny_setField_rec C (by simp) λg5 D q=>?_)
 replace q:Heap.SameBut it g4 g5:=q
 replace D:IsItemIterOut g5 it d (i+1) es.size ep es[i].key es[i].val a.objs.size:=D
 refine cg (wpAny_setField_rec D (by simp) λg6 v t=>?_)
 replace t:Heap.SameBut it g5 g6:=t
 replace v:IsItemIterOut g6 it d (i+1) es.size ep es[i].key es[i].val a.objs.size:=v
 have H:∀b o,b≠it->g2.get? b=some o->g6.get? b=some o:=λb o n e=>t.extBut b o n (q.extBut b o n (u.extBut b o n (B.extBut b o n e)));exact cg (wpAny_letGo (cr (cr ⟨_,rfl,cr (k g6 v (H _ _ K L) λb o n e=>H b o n (I b o n e))⟩)))
def ygw{ok:qb}{Q:qj qb->qa->Prop}(hh:A.handled=none)(hi:IsItemIter s.heap it d i es.size ep ok ov)(h0:s.heap.get? d=some od)(hd:od.data=.dict es ep)(hge:es.size<=i)
  (k:∀h',Heap.ExtBut it s.heap h'->Q none {s with heap:=h'}):wpAny (model prog w) A (pyNext (.ref it)) Q E s:=by
 have c:s.TypeIs (.ref it) "dict_itemiterator":=⟨_,hi,rfl⟩;unfold pyNext;refine cg (wpAny_attempt (wpAny_callSpecial?_slot (name:=Str.ofString "__next__") c F.slot_dict_itemiterator_next (wpAny_call_entry F.slot_dict_itemiterator_next c F.entry_dict_itemiterator_next ?_ (F.args_dict_itemiterator_next_1 _))));refine cg (cr (cg (cg ?_)))
 first|refine cg (wpAny_typeNameOfWhole_itemiter c (cr ?_))|refine cg (wpAny_typeNameOf_itemiter c (cr ?_))
 refine cg (wpAny_fieldsOf hi rfl ?_);simp only[show Builtin.Dict_items.ownsTuple "dict_itemiterator"=true by decide,if_true];show wpAny _ _ (if (Value.ref d == Value.none)=true then _ else _) _ _ s;rw[if_neg (show ¬(Value.ref d == Value.none)=true from cI)];refine cg (cr (cg (wpAny_dictEntries h0 hd ?_)));rw[if_neg (by simp)];refine cg (cr (cg (wpAny_dictEpoch h0 hd ?_)));rw[if_neg (by simp)];refine cr ?_;simp only[show ¬((i:Int)<0) by omega,if_false,Int.toNat_natCast,Array.getElem?_eq_none hge];refine cg ?_
 first|refine cg (wpAny_typeNameOfWhole_itemiter c (cr ?_))|refine cg (wpAny_typeNameOf_itemiter c (cr ?_))
 show wpAny _ _ (setField (.ref it) 2 .none >>=_) _ _ s;refine cg (wpAny_setField hi rfl (by simp) ?_);show wpAny _ _ (newExc (.type "StopIteration") [] >>=_) _ _ _;refine cg ?_;simp only[newExc,newTuple];refine cg (wpAny_newObj_type ?_ (by size_fits))
 refine cg (m:=firstArgMember _ _) (wpAny_of_eq (a:=Value.none) (by first|rfl|(simp only[firstArgMember];rfl)) (wpAny_newObj_type ?_ (by size_fits)))
 simp only[raiseNew];refine cg (wpAny_handled ?_);rw[show A.in1.handled=none from hh];refine cg (cr (wpAny_throw ?_));exact cg (wpAny_isInstance (T:="StopIteration") (b:=true) ⟨_,cD _ rfl,rfl⟩ isSubtype_stop (cr (k _ (((Heap.SameBut.update ..).extBut.push _).push _))))
def yfe{n:Nat}{ok:qb}(hi:IsItemIter s.heap it d i n ep ok ov)(k:Q (.ref it) s):wpAny (model prog w) A (pyIter (.ref it)) Q E s:=by have a:s.TypeIs (.ref it) "dict_itemiterator":=⟨_,hi,rfl⟩;refine wpAny_pyIter_slot a F.slot_dict_itemiterator_iter (wpAny_call_entry F.slot_dict_itemiterator_iter a (show entryFor table "dict_itemiterator.__iter__"=some Builtin.«dict_keyiterator.__iter__» from entryFor_alias (id':="dict_keyiterator.__iter__") (by kernel_rfl) rfl (by decide+kernel) (by kernel_rfl)) ?_ (F.args_dict_itemiterator_iter_1 _));show wpAny _ _ (ret (.ref it)) _ _ s;exact cr ⟨_,rfl,"dict_itemiterator",_,a,F.slot_dict_itemiterator_next.lookup,k⟩
end
def Inv.freeze{X:Cx}{σ:St}{H:Hp}{s:qa}{d:z4}{u:HO}{o:Obj}(I:Inv X pins σ H s)(hd:H d=some u)(mu:Mut (some u))(ho:s.heap.get? d=some o):Inv X pins σ (upd H d (.frz o u)) s:=by
 have h:∀{b},H b=none->b≠d:=λn z=>by rw[z,hd]at n;cases n
 have f:∀{b v},H b=some v->¬Mut (some v)->b≠d:=λe n z=>by rw[z,hd]at e;cases e;exact n mu
 exists I.ok,I.os,I.bare,⟨I.base.keep,I.base.slot,λb i e n t=>?_,I.base.there,λb k e=>?_,λb i v e=>?_,λb w e=>?_⟩,I.loc,I.cell,?_,λx c e=>?_,λp r=>?_,λb v e=>?_,I.len
 .have z:=I.base.free b i e n t;rw[yk (h z)];exact z
 .have z:=I.base.tups b k e;rw[yk (f z id)];exact z
 .have z:=I.base.frzs b i v e;rw[yk (f z id)];exact z
 .obtain⟨m,z⟩:=I.base.tbls b w e;exists m,by rw[yk (f z id)];exact z
 .rw[yk (h I.free)];exact I.free
 .rw[yk (h (I.freeC x c e))];exact I.freeC x c e
 .obtain⟨l,j,A⟩:=I.pin p r;exists l,by rw[yk (h j)];exact j,A
 .have a:∀{c y},H c=some (.own y)->upd H d (.frz o u) c=some (.own y):=λq=>by rw[yk (f q id)];exact q
  have g:∀{c y},H c=some (.tup y)->upd H d (.frz o u) c=some (.tup y):=λq=>by rw[yk (f q id)];exact q
  by_cases hb:b=d
  .subst hb;rw[ya]at e;cases e;exists ho,(I.hok b _ hd).stay (λZ Z Z q=>q) (λZ q=>a q) λZ Z q=>g q
  .rw[yk hb]at e;exact(I.hok b v e).stay (λZ Z Z q=>q) (λZ q=>a q) λZ Z q=>g q
def Inv.thaw{X:Cx}{σ:St}{H:Hp}{s:qa}{d:z4}{u:HO}{o:Obj}(I:Inv X pins σ H s)(h0:∀o u,X.H₀ d≠some (.frz o u))(hd:H d=some (.frz o u)):Inv X pins σ (upd H d u) s:=by
 have h:∀{b},H b=none->b≠d:=λn z=>by rw[z,hd]at n;cases n
 exists I.ok,I.os,I.bare,⟨I.base.keep,I.base.slot,λb g e n r=>?_,I.base.there,λb j e=>?_,λb g u e=>?_,λb t e=>?_⟩,I.loc,I.cell,?_,λx c e=>?_,λp l=>?_,λb v e=>?_,I.len
 .have z:=I.base.free b g e n r;rw[yk (h z)];exact z
 .have z:=I.base.tups b j e;rw[yk (ww z hd (by intro w;cases w))];exact z
 .rw[yk (λz=>h0 g u (by rw[<- z];exact e))];exact I.base.frzs b g u e
 .obtain⟨m,z⟩:=I.base.tbls b t e;exists m,by rw[yk (ww z hd (by intro w;cases w))];exact z
 .rw[yk (h I.free)];exact I.free
 .rw[yk (h (I.freeC x c e))];exact I.freeC x c e
 .obtain⟨k,i,A⟩:=I.pin p l;exists k,by rw[yk (h i)];exact i,A
 .have a:∀{c y},H c=some (.own y)->upd H d u c=some (.own y):=λq=>by rw[yk (ww q hd (by intro w;cases w))];exact q
  have f:∀{c y},H c=some (.tup y)->upd H d u c=some (.tup y):=λq=>by rw[yk (ww q hd (by intro w;cases w))];exact q
  by_cases hb:b=d
  .subst hb;rw[ya]at e;cases e;exact(I.hok b _ hd).2.stay (λZ Z Z q=>q) (λZ q=>a q) λZ Z q=>f q
  .rw[yk hb]at e;exact(I.hok b v e).stay (λZ Z Z q=>q) (λZ q=>a q) λZ Z q=>f q
def Iti(o:Obj)(d:z4)(kvs:qi (qi Key×V)):It :=
 ⟨λi H=>H d=some (.frz o (.dT kvs))/\i<kvs.length,
  λi H x H'=>∃t kt key v,x=.ref t/\H t=none/\H'=upd H t (.tup [.ref kt,v])/\kvs[i]?=some (key,v)/\H kt=some (.tup (key.map kV)),
  λi H=>H d=some (.frz o (.dT kvs))/\kvs.length<=i⟩
theorem xw{α β:Type}{F:α->β->Prop}:∀{l₁:qi α}{l₂:qi β},Paired F l₁ l₂->l₁.length=l₂.length
 |_,_,.nil=>rfl
 |_,_,.cons _ t=>congrArg (·+1) (xw t)
def yat{α β:Type}{F:α->β->Prop}{l₁:qi α}{l₂:qi β}(h:Paired F l₁ l₂):∀{i:Nat}{y:β},l₂[i]?=some y->∃x,l₁[i]?=some x/\F x y:=by
 induction h with
 |nil=>intro i y e;cases e
 |cons r t ih =>
  intro i y e
  cases i with
  |zero=>cases e;exists _,rfl,r
  |succ j=>exact ih e
def yfw{w:qd}{K:z3}{elts:qi qg}{x1}{tpos:Pos}{o:Obj}{es:Array DictEntry}{kvs:qi (qi Key×V)}(d it:z4)(ho:o.data=.dict es ep)(hs:es.size=kvs.length):
  ye6 P w K (.Tuple elts x1 tpos) (Iti o d kvs) [it] it (λi h=>∃ok ov,IsItemIter h it d i es.size ep ok ov) where
 mem:=by simp
 obj:=λi h l b j=>by
  have e:b=it:=by simpa using j
  subst e;let⟨_,_,e⟩:=l;exists _,e,λv z=>by cases z
 keep:=λi h h' ⟨ok,ov,l⟩ k=>⟨ok,ov,k it (by simp) _ l⟩
 item:=by
  intro X hP O S hc i p s σ H E I J ⟨ok,ov,l⟩ ⟨R,g⟩;subst hP O S;let⟨N,f1,f2,f3,f4,f5⟩:=J it (by simp);let⟨L,_,_,M,x,o',a3,a0,F,_,A,Y,_⟩:=(show w8 X.prog X.w H s.heap d (.frz o (.dT kvs))from I.hok d _ R);rw[L]at F;cases F;rw[ho]at A;cases A;have hl:i<es.size:=()
  have he:es[i]=entryOfKey (tupleKind (wg X.prog X.w)) (M[i]'(by rw[<- (xw x)];exact g)):=by
   have e1:es.toList[i]?=some es[i]:=by simp[hl]
   rw[Y,cu,ci (by rw[<- (xw x)];exact g)]at e1;exact(cL e1).symm
  let⟨⟨D,v⟩,T,k1,Q,k3⟩:=yat x (ci (by rw[<- (xw x)];exact g));have m:es[i].key=.ref (M[i]'(by rw[<- (xw x)];exact g)).2.1:=by rw[he];rfl
  have C:es[i].val=(M[i]'(by rw[<- (xw x)];exact g)).2.2:=by rw[he];rfl
  rw[<- C]at k3;generalize (M[i]'(by rw[<- (xw x)];exact g)).2.1=y at m Q;refine yfp l L ho hl λh' a1 a2 hk=>⟨_,rfl,wpAny_letOwnedTupleGo_items a1 λt b1 b2=>?_⟩;rw[m]at a2;have a:H s.heap.objs.size=none:=I.hok.fresh (cq _);have lI:it<s.heap.objs.size:=cC l;have keep:∀b o,b≠it->s.heap.get? b=some o->t.get? b=some o:=λb o n e=>(b2.2 b n).trans (hk b o n e);have B:t.get? s.heap.objs.size=some { cls:=.type "tuple",data:=.seq #[.ref y,es[i].val]}:=(b2.2 _ (Nat.ne_of_gt lI)).trans a2
  have Z:HOk X.prog X.w (upd H s.heap.objs.size (.tup [.ref y,v])) t:=λb u e=>by
   by_cases j:b=s.heap.objs.size
   .subst j;rw[ya]at e;cases e;exists by show 2<=sizeLine;decide,[.ref y,es[i].val],.cons rfl (.cons k3 .nil),⟨_,B,rfl,_,rfl⟩
   .rw[yk j]at e;refine(I.hok b u e).stay (λc z r q=>keep c z ?_ q) (λc q=>by rw[yk (yb q a)];exact q) λc ys q=>by rw[yk (yb q a)];exact q
    rcases r with rfl|r
    .exact yb e N
    .exact yb r N
  have un:Un (frs X.stack) [it] H (upd H s.heap.objs.size (.tup [.ref y,v])) s.heap t:=by
   have U:∀{b z},b∉[it]->s.heap.get? b=some z->t.get? b=some z:=λ{b z}j e=>keep b z (λq=>j (by simp[q])) e;exists λb z e n W G=>U G e,λb z e n W G=>⟨z.slots,U G e⟩,λb z e n W=>by rw[yk (cV (cC e))];exact n,λb z e G=>⟨z,U G e⟩,λb ys e=>by rw[yk (yb e a)];exact e,λb z u e=>by rw[yk (yb e a)];exact e,λb ps e=>⟨#[],by rw[yk (yb e a),e];simp⟩
  have I1:Inv X p σ (upd H s.heap.objs.size (.tup [.ref y,v])) {s with heap:=t}:=I.call' (s':={s with heap:=t}) rfl un Z I.bare λb j=>by
   have f:=J b j;exact⟨f.2.2.2.1,f.2.1,f.2.2.2.2.1,f.2.2.2.2.2⟩
  exists .ref s.heap.objs.size,_,I1,rfl,⟨_,y,D,v,rfl,a,rfl,T,by rw[show D=_ from k1]at Q⊢;exact Q⟩,⟨_,_,b1⟩,λb j=>?_;rw[yk (λq=>?_)]
  .exact(J b j).1
  .have e:b=it:=by simpa using j
   rw[e]at q;exact absurd q (cV lI)
 done:=by
  intro X hP O S hc i p s σ H E I J ⟨ok,ov,l⟩ ⟨R,a4⟩;subst hP O S;let⟨N,f1,f2,f3,f4,f5⟩:=J it (by simp);let⟨L,_⟩:=(show w8 X.prog X.w H s.heap d (.frz o (.dT kvs))from I.hok d _ R);exact ygw (I.ok.hd hc) l L ho () λh' eb=>⟨rfl,I.turned (t':=s.toks) (λb o j e=>eb b o j e) N f1 f3 f4 f5⟩
 self:=λW W W W W ⟨_,_,l⟩ h=>yfe l h
section
variable{X:Cx}
def yoy(to:TE):TI:=λσ H R=>to σ H λx H1=>∃d kvs,x=.ref d/\H1 d=some (.dT kvs)/\∀o,R (Iti o d kvs) (upd H1 d (.frz o (.dT kvs)))
def ym0{elts:qi qg}{x1}{tpos:Pos}{o:qg}{to:TE}(ho:PE X o to)(hbase:attributeBase o "items" X.env (eval o X.env)=eval o X.env:=by rfl)(hline:(apos.endLine == cpos.line)=true:=by rfl):
  PI X (.Tuple elts x1 tpos) (.Call (.Attribute o "items" apos) [] [] cpos) (yoy to):=by
 intro f s σ H R I h;refine wpAny_Call_method0_late hbase hline (thn (ho f s σ H _ I h) λv j h'=>?_);let⟨x,D,t,B,y⟩:=h';let⟨d,g,rfl,r,q⟩:=y;cases B;let⟨_,k,K,z,m,E,J,c,l,u,C,_⟩:=(show w8 X.prog X.w D j.heap d (.dT g)from t.hok d _ r);refine⟨"dict","dict.items",F.plainAttrs_dict,F.slot_dict_items,F.type_dict_items,⟨m,c,l.1⟩,λa A=>by cases A;exact⟨m,c,l.2.1⟩,Calls.callWith_builtin rfl (PySem.evalArgs_none (yfl k c l ?_))⟩;refine yff ⟨_,cD _ rfl,rfl,rfl⟩ (ck _ c) u ?_;have p:=t.freeze r trivial c;have n:E.size=g.length:=by rw[(xw z),<- dF,C,bI]
 exists _,[_],_,_,_,rfl,p.kept (t':=j.toks) λb o e=>ck _ (ck _ e),yfw d _ u n,⟨_,_,cD _ rfl⟩,λb G=>?_,q m;have e:b=(j.heap.push { cls:=.type "dict_items",data:=.fields #[.ref d]}).objs.size:=by simpa using G
 have i:j.heap.objs.size<=b:=by rw[e,Heap.size_push];omega
 exact p.fpOk i (p.hok.fresh i)
def ymg{to:TE}{σ:St}{H:Hp}{R:It->Hp->Prop}(h:to σ H λx H1=>∃d kvs,x=.ref d/\H1 d=some (.dT kvs)/\∀o,R (Iti o d kvs) (upd H1 d (.frz o (.dT kvs)))):yoy to σ H R:=h
def vcu(H:Hp)(D:Ă):Ă:={D with nx:=λσ' H'=>∃d o u,(∀o u,H d≠some (.frz o u))/\H' d=some (.frz o u)/\D.nx σ' (upd H' d u)}
def vdl(t:TS):TS:=λD σ H=>t (vcu H D) σ H
def yc2{t:TS}(h:PS X st t):PS X st (vdl t):=by
 refine .mk λa s σ H D I q=>?_;refine thn (h a s σ H _ I q) λf j z=>?_
 cases f with
 |next =>
  let⟨σ',i,J,d,o,c,b,g,k⟩:=z;exists σ',_,J.thaw (λo u e=>b o u (I.base.frzs d o u e)) g,k
 |brk=>exact z
 |cont=>exact z
 |ret u=>exact z
def yx6{t:TS}{D:Ă}{σ:St}{H:Hp}(h:t (vcu H D) σ H):vdl t D σ H:=h
end
def yhu{o:Obj}{d:z4}{kvs:qi (qi Key×V)}{g:TG}{tb:TS}{D:Ă}{σ:St}{H:Hp}(Pv:Nat->St->Hp->Prop)(h0:Pv 0 σ H)(hl:∀i σ H,i<=kvs.length->Pv i σ H->H d=some (.frz o (.dT kvs)))
  (hs:∀i key v σ H t kt,kvs[i]?=some (key,v)->Pv i σ H->H t=none->H kt=some (.tup (key.map kV))->g (.ref t) σ (upd H t (.tup [.ref kt,v])) λσ2 H2=>tb {D with nx:=Pv (i+1),ct:=Pv (i+1),bk:=D.nx} σ2 H2) (hd:∀σ H,Pv kvs.length σ H->D.nx σ H):
  ∃W:Nat->Nat->St->Hp->Prop,(∃m,W 0 m σ H)/\∀i m σ H,W i m σ H ->
   ((Iti o d kvs).stop i H/\D.nx σ H)\/((Iti o d kvs).go i H/\∃N:Ζ,(∀σ' H',N σ' H'->∃m',m'<m/\W (i+1) m' σ' H')/\∀x H',(Iti o d kvs).yld i H x H'->g x σ H' λσ2 H2=>tb {D with nx:=N,ct:=N,bk:=D.nx} σ2 H2):=by
 exists λi m σ H=>m=kvs.length-i/\i<=kvs.length/\Pv i σ H,⟨kvs.length,by simp,cP _,h0⟩,?_;rintro i m σ H ⟨rfl,h,p⟩;have q:=hl i σ H h p;by_cases hlt:i<kvs.length
 .refine .inr ⟨⟨q,hlt⟩,Pv (i+1),λσ' H' f=>⟨kvs.length-(i+1),(),rfl,hlt,f⟩,λx H' y=>?_⟩;let⟨t,kt,key,v,rfl,c,rfl,a,b⟩:=y;exact hs i key v σ H t kt a p c b
 .have e:i=kvs.length:=()
  subst e;exact .inl ⟨⟨q,cq _⟩,hd σ H p⟩
def Its(x:Str):It:=⟨λi Z=>i<x.cps.size,λi H v H'=>H'=H/\∃c,x.cps[i]?=some c/\v=.str ⟨#[c]⟩,λi Z=>i=x.cps.size⟩
def ydk{w:qd}{K:z3}{ty:String}(x:Str)(t:Tok)(it:z4)(hn:["enumerate","zip","dict_itemiterator","dict_reverseitemiterator","odict_iterator","itertools.zip_longest","itertools.pairwise"].contains ty=false)
  (W:∀A:qe,A.handled=none->Walks P w A it [it] [it] x.cps.size (SignAt x) (λi h=>h.IsStrIter it ty x t i)) (hs:∀(A:qe)(i:Nat)(s:qa)(Q E:Δ),s.heap.IsStrIter it ty x t i->Q (.ref it) s->wpAny (model P w) A (pyIter (.ref it)) Q E s):ye6 P w K tg (Its x) [it] it (λi h=>h.IsStrIter it ty x t i) where
 mem:=by simp
 obj:=λi h a b g=>by
  have e:b=it:=by simpa using g
  subst e;let⟨o,e,_,d⟩:=a;exists o,e,λv z=>by rw[d]at z;cases z
 keep:=λi h m a k=>let ⟨o,e,r⟩:=a;⟨o,k it (by simp) o e,r⟩
 item:=by
  intro X L q B F i f s σ H E I n a l;subst L q B;let⟨G,p,O,C,M,J⟩:=n it (by simp);refine(W X.A (I.ok.hd F)).item i s _ _ l a λv m D R j y=>?_;let⟨c,u,T,rfl⟩:=R;have U:Inv X f σ H {s with heap:=m,toks:=D}:=I.turned (λb o g e=>y b o (by simpa using g) e) G p C M J;let⟨o,e,N,S⟩:=id j;exists _,rfl,yc9 (s:={s with heap:=m,toks:=D}) e N S hn ⟨.str ⟨#[c]⟩,H,U,⟨u,rfl⟩,⟨rfl,c,T,rfl⟩,j,λb g=>(n b g).1⟩
 done:=by
  intro X L q B F i f s σ H E I n a l;subst L q B;have l:i=x.cps.size:=l;subst l;let⟨G,p,O,C,M,J⟩:=n it (by simp);exact(W X.A (I.ok.hd F)).done s _ _ a λm D y=>⟨rfl,I.turned (λb o g e=>y b o (by simpa using g) e) G p C M J⟩
 self:=λA i s Q E a h=>hs A i s Q E a h
section
variable{X:Cx}
def vgl(tl:TE):TI:=λσ H R=>tl σ H λv H1=>∃x,v=.str x/\R (Its x) H1
def yp8{l:qg}{tl:TE}(hl:PE X l tl):PI X tg l (vgl tl):=by
 intro c s σ H R I h;refine thn (hl c s σ H _ I h) λv a h'=>?_;let⟨y,j,f,k,x,e,q⟩:=h';subst e;let⟨t,rfl⟩:=k
 have d:∀{ob:Obj},∀b∈[a.heap.objs.size],ye7 X c j b:=λ{_}b m=>by
  have e:b=a.heap.objs.size:=by simpa using m
  subst e;exact f.fpOk (cq _) (f.hok.fresh (cq _))
 cases ha:x.cps.all (· <128)
 .refine wpAny_pyIter_wide ha ?_;exists a.heap.objs.size,[a.heap.objs.size],_,_,j,rfl,f.kept (t':=a.toks) λb o e=>ck _ e,ydk x t _ ∅ (λA i=>Walks.strWide i _ x t) (λZ Z Z Z Z g h=>wpAny_pyIter_striter_wide g h),⟨_,cD _ rfl,rfl,rfl⟩,d (ob:=default),q
 .refine wpAny_pyIter_ascii ha ?_;exists a.heap.objs.size,[a.heap.objs.size],_,_,j,rfl,f.kept (t':=a.toks) λb o e=>ck _ e,ydk x t _ ∅ (λA i=>Walks.strAscii i _ x t) (λZ Z Z Z Z g h=>wpAny_pyIter_striter_ascii g h),⟨_,cD _ rfl,rfl,rfl⟩,d (ob:=default),q
def vbt{tl:TE}{σ:St}{H:Hp}{R:It->Hp->Prop}(h:tl σ H λv H1=>∃x,v=.str x/\R (Its x) H1):vgl tl σ H R:=h
def yc4{x:Str}{k:Str}{t:Tok}{pos:Pos}(hg:Gl X x)(hm:X.mg x=some (.str k t))(hd:(x == ("__debug__":Str))=false:=by decide):PE X (.Name x pos) (tC (.str k)):=yc3 hg hm ⟨t,rfl⟩ hd
end
def yav{x:Str}{te:TE}{R:Hp->Prop}{H1:Hp}(f:Nat->V)(hD:H1 D=none)
  (hs:∀i c H,x.cps[i]?=some c->i<x.cps.size->yw H1 H->H D=some (.lst ((List.range i).map f))->te [some (.str ⟨#[c]⟩)] H (MpK H1 D f x.cps.size i)) (hd:∀H,yw H1 H->H D=some (.lst ((List.range x.cps.size).map f))->R H):ye2 (Its x) te D R H1:=by
 exists cW x.cps.size (Mp H1 D f),⟨x.cps.size,by simp,cP _,Mp.zero hD⟩,?_;rintro i m H ⟨rfl,b,p⟩;by_cases hlt:i<x.cps.size
 .refine .inr ⟨hlt,λv d y=>?_⟩;let⟨rfl,c,a,rfl⟩:=y;exact hs i c _ a hlt p.1 p.2
 .have e:i=x.cps.size:=()
  subst e;exact .inl ⟨rfl,hd H p.1 p.2⟩
def Itk(o:Obj)(d:z4)(kvs:Κ):It :=
 ⟨λi H=>H d=some (.frz o (.dK kvs))/\i<kvs.length,λi H x H'=>H'=H/\∃k v,kvs[i]?=some (k,v)/\x=kV k,λi H=>H d=some (.frz o (.dK kvs))/\kvs.length<=i⟩
def Itv(o:Obj)(d:z4)(kvs:Κ):It :=
 ⟨λi H=>H d=some (.frz o (.dK kvs))/\i<kvs.length,λi H x H'=>H'=H/\∃k,kvs[i]?=some (k,x),λi H=>H d=some (.frz o (.dK kvs))/\kvs.length<=i⟩
def vcz{w:qd}{k:Key}{u:qb}(r:(wg P w).is k u=true):xj (kV k) u:=by rcases wq r with⟨i,t,rfl,rfl⟩|⟨x,t,rfl,rfl⟩<;>exact⟨t,rfl⟩
def KV.get{kvs:Κ}{vs:qi (Key×qb)}(r:KV kvs vs){k:Key}{u:qb}(h:vs[i]?=some (k,u)):∃v,kvs[i]?=some (k,v)/\xj v u:=by let⟨⟨b,v⟩,e,a,c⟩:=yat r h;have a:b=k:=a;exists v,by rw[e,a],c
def ys3{xs:Υ}{us:Ο}(hl:xs.length=us.length)(h:∀(i:Nat)u,us[i]?=some u->∃x,xs[i]?=some x/\xj x u):wo xs us:=by
 induction xs generalizing us with
 |nil =>
  cases us with
  |nil=>exact .nil
  |cons u us=>cases hl
 |cons x xs ih =>
  cases us with
  |nil=>cases hl
  |cons u us =>
   let⟨y,e,r⟩:=h 0 u rfl;cases e;exact .cons r (ih (Nat.succ.inj hl) λi u a=>h (i+1) u a)
def ye4{X:Cx}{σ:St}{H:Hp}{s:qa}{d:z4}{kvs:Κ}{o:Obj}{es:Array DictEntry}(I:Inv X pins σ H s)(hd:H d=some (.frz o (.dK kvs)))(ho:o.data=.dict es ep):∃vs,KV kvs vs/\s.heap.DictAt (wg X.prog X.w) d vs ep:=by let⟨c,_,_,vs,r,i,f,e,b,h,a,g⟩:=(show w8 X.prog X.w H s.heap d (.frz o (.dK kvs))from I.hok d _ hd);rw[c]at b;cases b;rw[ho]at a;cases a;exists vs,r,o,es,c,h,ho,g
def yg7{w:qd}{K:z3}{o:Obj}{es:Array DictEntry}{kvs:Κ}(d it:z4)(hne:d≠it)(ho:o.data=.dict es ep):ye6 P w K tg (Itk o d kvs) [it] it (λi h=>h.IsKeyIter it d i kvs.length ep) where
 mem:=by simp
 obj:=λi h a b f=>by
  have e:b=it:=by simpa using f
  subst e;let⟨o,e,_,d⟩:=a;exists o,e,λv z=>by rw[d]at z;cases z
 keep:=λi h j a k=>a.at λo e=>k it (by simp) o e
 item:=by
  intro X G p t B i c s σ H E I m a ⟨q,S⟩;subst G p t;let⟨D,n,T,u,J,F⟩:=m it (by simp);let⟨L,r,C⟩:=ye4 I q ho;have l:=r.length;have W:=Walks.dictKeys (knd:=wg X.prog X.w) (prog:=X.prog) (w:=X.w) (A:=X.A) (I.ok.hd B) it d hne L ep;refine W.item i s _ _ () ⟨by rw[<- l];exact a,C⟩ λv j M Y g Q=>?_;let⟨k,x,hx,Z⟩:=Y;let⟨y,O,_⟩:=r.get hx;have I1:Inv X c σ H {s with heap:=j,toks:=M}:=I.turned (λb o f e=>Q b o (by simpa using f) e) D n u J F;let⟨o',N,c',R⟩:=id g.1;exists _,rfl,yc9 (s:={s with heap:=j,toks:=M}) N c' R ∅ ⟨kV k,H,I1,vcz Z,⟨rfl,k,y,O,rfl⟩,by rw[l];exact g.1,λb f=>(m b f).1⟩
 done:=by
  intro X G p t B i c s σ H E I m a ⟨q,a0⟩;subst G p t;let⟨D,n,T,u,J,F⟩:=m it (by simp);let⟨L,r,C⟩:=ye4 I q ho;have l:=r.length;exact wpAny_pyNext_dict_end (I.ok.hd B) (by rw[<- l];exact a) C (by rw[List.getElem?_eq_none_iff];omega) λj U=>⟨rfl,I.turned (t':=s.toks) (λb o f e=>U b o f e) D n u J F⟩
 self:=λv v v v v a h=>wpAny_pyIter_keyiter a h
def ygr{w:qd}{K:z3}{o:Obj}{es:Array DictEntry}{kvs:Κ}(d it:z4)(hne:d≠it)(ho:o.data=.dict es ep):ye6 P w K tg (Itv o d kvs) [it] it (λi h=>h.IsValIter it d i kvs.length ep) where
 mem:=by simp
 obj:=λi h a b f=>by
  have e:b=it:=by simpa using f
  subst e;let⟨o,e,_,d⟩:=a;exists o,e,λv z=>by rw[d]at z;cases z
 keep:=λi h j a k=>a.at λo e=>k it (by simp) o e
 item:=by
  intro X F p t x i c s σ H E I m a ⟨q,R⟩;subst F p t;let⟨C,n,S,u,G,D⟩:=m it (by simp);let⟨J,r,B⟩:=ye4 I q ho;have l:=r.length;have W:=Walks.dictValues (knd:=wg X.prog X.w) (prog:=X.prog) (w:=X.w) (A:=X.A) (I.ok.hd x) it d hne J ep;refine W.item i s _ _ () ⟨by rw[<- l];exact a,B⟩ λv j L U g O=>?_;let⟨k,Z⟩:=U;let⟨y,N,ry⟩:=r.get Z;have I1:Inv X c σ H {s with heap:=j,toks:=L}:=I.turned (λb o f e=>O b o (by simpa using f) e) C n u G D;let⟨o',M,Y,Q⟩:=id g.1;exists _,rfl,yc9 (s:={s with heap:=j,toks:=L}) M Y Q ∅ ⟨y,H,I1,ry,⟨rfl,k,N⟩,by rw[l];exact g.1,λb f=>(m b f).1⟩
 done:=by
  intro X F p t x i c s σ H E I m a ⟨q,a0⟩;subst F p t;let⟨C,n,S,u,G,D⟩:=m it (by simp);let⟨J,r,B⟩:=ye4 I q ho;have l:=r.length;exact wpAny_pyNext_values_end (I.ok.hd x) (by rw[<- l];exact a) B (by rw[List.getElem?_eq_none_iff];omega) λj T=>⟨rfl,I.turned (t':=s.toks) (λb o f e=>T b o f e) C n u G D⟩
 self:=λv v v v v a h=>wpAny_pyIter_valiter a h
section
variable{X:Cx}
def vcq(to:TE):TI:=λσ H R=>to σ H λx H1=>∃d kvs,x=.ref d/\H1 d=some (.dK kvs)/\∀o,R (Itk o d kvs) (upd H1 d (.frz o (.dK kvs)))
def vdo(to:TE):TI:=λσ H R=>to σ H λx H1=>∃d kvs,x=.ref d/\H1 d=some (.dK kvs)/\∀o,R (Itv o d kvs) (upd H1 d (.frz o (.dK kvs)))
def yiz{l:qg}{to:TE}(hl:PE X l to):PI X tg l (vcq to):=by
 intro c s σ H R I h;refine thn (hl c s σ H _ I h) λv a h'=>?_;let⟨x,B,p,t,d,i,e,k,q⟩:=h';subst e;cases t;let⟨_,f,A,r,n,E,y,j,D,m,z⟩:=(show w8 X.prog X.w B a.heap d (.dK i)from p.hok d _ k);have C:a.heap.DictAt (wg X.prog X.w) d A y:=⟨n,E,j,D,m,z⟩;refine wpAny_pyIter_dict f C ?_;have g:=p.freeze k trivial j;exists a.heap.objs.size,[a.heap.objs.size],_,_,_,rfl,g.kept (t':=a.toks) λb o e=>ck _ e,yg7 d _ (cV (cC j)) m,⟨_,cD _ rfl,rfl,by rw[r.length];rfl⟩,λb u=>?_,q n;have e:b=a.heap.objs.size:=by simpa using u
 subst e;exact g.fpOk (cq _) (g.hok.fresh (cq _))
def yri{l:qg}{to:TE}(hl:PE X l to)(hbase:attributeBase l "values" X.env (eval l X.env)=eval l X.env:=by rfl)(hline:(apos.endLine == cpos.line)=true:=by rfl):PI X tg (.Call (.Attribute l "values" apos) [] [] cpos) (vdo to):=by
 intro g s σ H R I h;refine wpAny_Call_method0_late hbase hline (thn (hl g s σ H _ I h) λv c h'=>?_);let⟨x,G,B,D,d,kvs,e,z,q⟩:=h';subst e;cases D;let⟨_,m,t,r,k,J,ep,i,y,A,E⟩:=(show w8 X.prog X.w G c.heap d (.dK kvs)from B.hok d _ z);have u:c.heap.DictAt (wg X.prog X.w) d t ep:=⟨k,J,i,y,A,E⟩;refine⟨"dict","dict.values",F.plainAttrs_dict,F.slot_dict_values,F.type_dict_values,⟨k,i,y.1⟩,λa C=>by cases C;exact⟨k,i,y.2.1⟩,Calls.callWith_builtin rfl (PySem.evalArgs_none (call_meetsIn F.slot_dict_values u.dictOf.typeIs F.entry_dict_values (F.args_dict_values_1 _) (meets_dict_values (wg X.prog X.w) d m) ⟨⟨t,u.dictOf⟩,?_⟩))⟩;refine wpAny_pyIter_values (knd:=wg X.prog X.w) (d:=d) (kvs:=t) (ep:=ep) ⟨_,cD _ rfl,rfl,rfl⟩ (u.push _) ?_;have p:=B.freeze z trivial i;have f:(c.heap.push { cls:=.type "dict_values",data:=.fields #[.ref d]}).objs.size=c.heap.objs.size+1:=Heap.size_push ..;have n:d<c.heap.objs.size:=cC i;exists _,[_],_,_,_,rfl,p.kept (t':=c.toks) λb o e=>ck _ (ck _ e),ygr d _ (show d≠(c.heap.push _).objs.size by rw[f];exact cV (Nat.lt_succ_of_lt n)) A,⟨_,cD _ rfl,rfl,by rw[r.length];rfl⟩,λb K=>?_,q k;have e:b=(c.heap.push { cls:=.type "dict_values",data:=.fields #[.ref d]}).objs.size:=by simpa using K
 have j:c.heap.objs.size<=b:=by rw[e,f];omega
 exact p.fpOk j (p.hok.fresh j)
def yr3{to:TE}{σ:St}{H:Hp}{R:It->Hp->Prop}(h:to σ H λx H1=>∃d kvs,x=.ref d/\H1 d=some (.dK kvs)/\∀o,R (Itk o d kvs) (upd H1 d (.frz o (.dK kvs)))):vcq to σ H R:=h
def ytn{to:TE}{σ:St}{H:Hp}{R:It->Hp->Prop}(h:to σ H λx H1=>∃d kvs,x=.ref d/\H1 d=some (.dK kvs)/\∀o,R (Itv o d kvs) (upd H1 d (.frz o (.dK kvs)))):vdo to σ H R:=h
def yqs(t:TE):TE:=λσ H Q=>t σ H λv H'=>∃d o u,(∀o u,H d≠some (.frz o u))/\H' d=some (.frz o u)/\Q v (upd H' d u)
def ys6{e:qg}{t:TE}(h:PE X e t):PE X e (yqs t):=.mk λa s σ H Q I q=>thn (h a s σ H _ I q) λv g z=>by
 let⟨x,f,J,r,d,o,u,b,c,k⟩:=z;exists x,_,J.thaw (λo u e=>b o u (I.base.frzs d o u e)) c,r,k
def yrf{t:TE}{σ:St}{H:Hp}{Q:VK}(h:t σ H λv H'=>∃d o u,(∀o u,H d≠some (.frz o u))/\H' d=some (.frz o u)/\Q v (upd H' d u)):yqs t σ H Q:=h
def yx3:qi V->Hp->VK->Prop:=λxs H Q=>∃d kvs,xs=[.ref d]/\H d=some (.dK kvs)/\∀l,H l=none->Q (.ref l) (upd H l (.lst (kvs.map λp=>kV p.1)))
def zw(hc:X.calm=true):j3 X (.type "list") yx3:=by
 intro j s σ H S R Q I r h;let⟨d,kvs,rfl,m,q⟩:=h;let⟨u,rfl,n⟩:=ħ r;cases n;let⟨f,c,g,r,J,N,ep,A,M,t,C⟩:=(show w8 X.prog X.w H s.heap d (.dK kvs)from I.hok d _ m);have K:s.heap.DictAt (wg X.prog X.w) d g ep:=⟨J,N,A,M,t,C⟩;refine W.kdl_call (W.kdl_dict (knd:=wg X.prog X.w) (kvs:=g) (ep:=ep) c) (I.ok.hd hc) K (by rw[<- r.length];exact f) λo F a G B e b=>?_
 have z:wo (kvs.map λp=>kV p.1) a.toList:=ys3 (by have O:=b.1;have P:=r.length;have T:a.toList.length=a.size:=dF;rw[bI];omega) λi v D=>by
  let⟨k,x,L,E⟩:=b.2 i v (by rw[<- Array.getElem?_toList];exact D);let⟨y,l,_⟩:=r.get L;exists kV k,by rw[cu,l];rfl,vcz E
 exists .ref s.heap.objs.size,_,I.laid (t':=F) B (cq _) (show w8 X.prog X.w _ o _ (.lst _)from ⟨by rw[bI];exact f,a.toList,G,z,by rw[Array.toArray_toList];exact e⟩),rfl,q _ (I.hok.fresh (cq _))
end
def ydl{o:Obj}{d:z4}{kvs:Κ}{g:TG}{tb:TS}{D:Ă}{σ:St}{H:Hp}(Pv:Nat->St->Hp->Prop)(h0:Pv 0 σ H)(hl:∀i σ H,i<=kvs.length->Pv i σ H->H d=some (.frz o (.dK kvs)))
  (hs:∀i k v σ H,kvs[i]?=some (k,v)->Pv i σ H->g (kV k) σ H λσ2 H2=>tb {D with nx:=Pv (i+1),ct:=Pv (i+1),bk:=D.nx} σ2 H2) (hd:∀σ H,Pv kvs.length σ H->D.nx σ H):
  ∃W:Nat->Nat->St->Hp->Prop,(∃m,W 0 m σ H)/\∀i m σ H,W i m σ H ->
   ((Itk o d kvs).stop i H/\D.nx σ H)\/((Itk o d kvs).go i H/\∃N:Ζ,(∀σ' H',N σ' H'->∃m',m'<m/\W (i+1) m' σ' H')/\∀x H',(Itk o d kvs).yld i H x H'->g x σ H' λσ2 H2=>tb {D with nx:=N,ct:=N,bk:=D.nx} σ2 H2):=by
 exists λi m σ H=>m=kvs.length-i/\i<=kvs.length/\Pv i σ H,⟨kvs.length,by simp,cP _,h0⟩,?_;rintro i m σ H ⟨rfl,b,p⟩;have q:=hl i σ H b p;by_cases hlt:i<kvs.length
 .refine .inr ⟨⟨q,hlt⟩,Pv (i+1),λσ' H' c=>⟨kvs.length-(i+1),(),rfl,hlt,c⟩,λx H' y=>?_⟩;let⟨rfl,k,v,a,rfl⟩:=y;exact hs i k v σ _ a p
 .have e:i=kvs.length:=()
  subst e;exact .inl ⟨⟨q,cq _⟩,hd σ H p⟩
def yf1{o:Obj}{d:z4}{kvs:Κ}{te:TE}{fr:St}{R:Hp->Prop}{H1:Hp}(Pv:Nat->Hp->Prop)(h0:Pv 0 (upd H1 D (.lst [])))(hl:∀i H,i<=kvs.length->Pv i H->H d=some (.frz o (.dK kvs)))
  (hs:∀i k v H,kvs[i]?=some (k,v)->i<kvs.length->Pv i H->te (some v::fr) H λy H4=>∃ys,H4 D=some (.lst ys)/\ys.length<sizeLine/\∃m',m'<kvs.length-i/\cW kvs.length Pv (i+1) m' (upd H4 D (.lst (ys++[y])))) (hd:∀H,Pv kvs.length H->R H):u4 (Itv o d kvs) te fr D R H1:=by
 exists cW kvs.length Pv,⟨kvs.length,by simp,cP _,h0⟩,?_;rintro i m H ⟨rfl,b,p⟩;have q:=hl i H b p;by_cases hlt:i<kvs.length
 .refine .inr ⟨⟨q,hlt⟩,λx c y=>?_⟩;let⟨rfl,k,a⟩:=y;exact hs i k x _ a hlt p
 .have e:i=kvs.length:=()
  subst e;exact .inl ⟨⟨q,cq _⟩,hd H p⟩
def isN:V->Bool
 | .non=>true
 |_=>false
def vdp:qb->Bool
 | .none=>true
 |_=>false
def vg7(K:z3):R2:=λx y H Q=>∃p xs,x=.non/\y=.ref p/\SqL K H p xs/\(∀z∈xs,z=.non\/∃q ys,z=.ref q/\SqL K H q ys)/\Q (.bl (xs.any isN)) H
theorem yim:∀{xs:Υ}{us:Ο},wo xs us->(∀z∈xs,z=.non\/∃q,z=.ref q)->us.any vdp=xs.any isN
 |_,_,.nil,_=>rfl
 |y::xs,u::us,.cons r t,f=>by
  rw[List.any_cons,List.any_cons,yim t λz a=>f z (cZ _ a)]
  congr 1
  rcases f y cT with rfl|⟨q,rfl⟩
  .cases r;rfl
  .cases r;rfl
def vak{X:Cx}(hu:X.A.units+64<cLine):OpR X (compareOp .In) (vg7 X.K):=by
 intro o s σ H x y v u Q I C G h;let⟨p,d,rfl,rfl,E,c,q⟩:=h;cases C;cases G;let⟨b,r,D,F⟩:=I.list E
 have i:∀{d:Υ}{g:Ο},wo d g->(∀z∈d,z=.non\/∃q m,z=.ref q/\SqL X.K H q m)->∀w∈g,SeqAt.EqAt X.A.in1 s w .none (vdp w):=by
  intro d g B
  induction B with
  |nil=>intro _ w a;cases a
  |cons r1 t ih =>
   intro f w a;rcases cG.mp a with rfl|a
   .rcases f _ cT with rfl|⟨J,m,rfl,k⟩
    .cases r1;exact SeqAt.EqAt.same _
    .cases r1;let⟨n,_,l,_⟩:=I.list k;exact SeqAt.EqAt.list_none l.isList (by show X.A.units+1<cLine;omega)
   .exact ih (λz c=>f z (cZ _ c)) w a
 refine SeqAt.in_listAt vdp D.isList (λw a=>i r c w (by simpa using a)) ⟨.bl _,H,I,rfl,?_⟩;rw[show b.toArray.any vdp=b.any vdp by simp,yim r λz j=>(c z j).imp id λ⟨q,_,e,_⟩=>⟨q,e⟩];exact q
def ya0{X:Cx}:j3 X (.builtin "len") (λxs H Q=>∃a kvs,xs=[V.ref a]/\H a=some (.dK kvs)/\Q (.int kvs.length) H):=by intro b s σ H xs g Q I r h;let⟨a,kvs,rfl,e,q⟩:=h;let⟨u,rfl,c⟩:=ħ r;cases c;exact ve3 I (.of e) λt f d=>⟨.int kvs.length,H,d,⟨t,rfl⟩,q⟩
def yrh{σ:St}{H:Hp}{Q:VK}(h:∀p,H p=none->Q (.ref p) (upd H p (.dK []))):yql σ H Q:=h
def yq8{td ty:TE}{σ:St}{H:Hp}{Q:VK}(h:td σ H λx H1=>∃a,x=.ref a/\IsD H1 a/\ty σ H1 λy H2=>∃kvs k v,H2 a=some (.dK kvs)/\y=kV k/\u8 kvs k=some v/\Q v (upd H2 a (.dK (ø kvs k)))):ypd td ty σ H Q:=h
def yg6(bs:qi Bool):((List.range bs.length).any λi=>(bs[i]?).getD false)=bs.any id:=by
 rw[Bool.eq_iff_iff,d5,d5]
 constructor
 .rintro ⟨i,a,h⟩;have a:=dB.mp a;rw[ci a]at h;exists _,cU a,h
 .rintro ⟨b,c,h⟩;let⟨i,a,rfl⟩:=List.getElem_of_mem c;exists i,dB.mpr a,by rw[ci a];exact h
def ymr{X:Cx}(hc:X.calm=true):j3 X (.builtin "any") (λxs H Q=>∃p bs,xs=[.ref p]/\SqL X.K H p (List.map V.bl bs)/\Q (.bl (bs.any id)) H):=by
 intro g s σ H xs C Q I r h;let⟨p,bs,rfl,n,q⟩:=h;let⟨u,rfl,j⟩:=ħ r;cases j;let⟨w,l,m,D⟩:=I.list n;obtain rfl:=Ŵ l;have f:=m.isList;have d:p<s.heap.objs.size:=by let⟨_,e,_⟩:=f;exact cC e
 refine call_any_walk (wpAny_pyIter_list f ?_)
 refine⟨s.heap.objs.size,[s.heap.objs.size,p],[s.heap.objs.size],(bs.map Value.bool).toArray.size,_,_,λi=>(bs[i]?).getD false,rfl,Walks.list (A:=X.A.in1) (show X.A.handled=none from I.ok.hd hc) _ p (cV d) (bs.map Value.bool).toArray,
  ⟨⟨_,cD _ rfl,rfl,rfl⟩,f.push _⟩,λi v E z y a c=>?_,λB t o=>?_⟩
 .have a:(bs.map Value.bool)[i]?=some v:=by simpa using a
  rw[cu]at a
  cases e:bs[i]? with
  |none=>rw[e]at a;cases a
  |some b =>
   dsimp only at c;rw[e]at a c;cases a;exact dE c
 .have e:((List.range (bs.map Value.bool).toArray.size).any λi=>(bs[i]?).getD false)=bs.any id:=by rw[cF,bI];exact yg6 bs
  rw[e];exists .bl (bs.any id),H,I.kept (t':=t) λb x e=>o b x (λk=>?_) (ck _ e),rfl,q;rw[cJ.mp k]at e;exact dU _ (cC e)
section
variable{X:Cx}
def vf0:V->qj Int->qj Int->Hp->VK->Prop:=λx lo hi H Q=>∃z:Str,x=.str z/\z.length<=sizeLine/\Q (.str (Txt.slice z lo hi)) H
def yp9:SlR X vf0:=by
 intro d s σ H x v n m lo o p Q I g a f e h;let⟨z,rfl,b,q⟩:=h;let⟨t,rfl⟩:=g;refine⟨"str",_,F.slot_str_getitem.lookup,typeIs_str _ _ _,?_⟩
 cases f with
 |none =>
  cases e with
  |none=>exact wpAny_getItem_str_slice (l:=none) (u:=none) (st:=none) a rfl (post_val_or_str ⟨de (Txt.slice_le z _ _) b,λc k=>⟨.str _,H,I.tok _,⟨_,rfl⟩,q⟩⟩)
  |int j uj=>exact wpAny_getItem_str_slice (l:=none) (u:=some (j,uj)) (st:=none) a rfl (post_val_or_str ⟨de (Txt.slice_le z _ _) b,λc k=>⟨.str _,H,I.tok _,⟨_,rfl⟩,q⟩⟩)
 |int i ui =>
  cases e with
  |none=>exact wpAny_getItem_str_slice (l:=some (i,ui)) (u:=none) (st:=none) a rfl (post_val_or_str ⟨de (Txt.slice_le z _ _) b,λc k=>⟨.str _,H,I.tok _,⟨_,rfl⟩,q⟩⟩)
  |int j uj=>exact wpAny_getItem_str_slice (l:=some (i,ui)) (u:=some (j,uj)) (st:=none) a rfl (post_val_or_str ⟨de (Txt.slice_le z _ _) b,λc k=>⟨.str _,H,I.tok _,⟨_,rfl⟩,q⟩⟩)
def yls{x:Str}(h:j<=x.length):(Txt.slice x none (some (j:Int))).cps.toList=x.cps.toList.take j:=by have e:=slice_closes_toL (x:=x) (j:=(j:Int)) () ();rw[beq_iff_eq.mp e];simp
def yga{x:Str}(h:j<=x.length):(Txt.slice x (some (j:Int)) none).cps.toList=x.cps.toList.drop j:=by
 rw[slice_from_eq (b:=(x.length:Int)) () () rfl];have e:x.length=x.cps.toList.length:=by simp[Str.length]
 simp;rw[dn (by rw[dM,e];omega)]
end
section
variable{X:Cx}
def vew:R2:=λx y H Q=>∃(z:Str)(k:Int),x=.str z/\y=.int k/\0<=k/\k<=1000/\z.length<=1000/\∀z':Str,z'.cps.toList=(List.replicate k.toNat z.cps.toList).flatten->Q (.str z') H
theorem yi0(a:Array Nat):∀(k:Nat)(b:Array Nat),((List.replicate k a).foldl (·++·) b).toList=b.toList++(List.replicate k a.toList).flatten
 |0,b=>by simp
 |k+1,b=>by
  rw[dw,List.foldl_cons,yi0 a k,Array.toList_append,dw,List.flatten_cons,cY]
theorem Ņ:OpR X (binaryOp .Mult) vew:=by
 intro a s σ H x y v u Q I c d h;let⟨z,k,rfl,rfl,n,o,i,q⟩:=h;let⟨t,rfl⟩:=c;let⟨l,rfl⟩:=d;by_cases k0:k<1
 .exact P.mul_str_none k0 () ⟨.str Str.empty,H,I.tok _,⟨_,rfl⟩,q _ (by rw[show k.toNat=0 by omega];rfl)⟩
 have m:z.length*k.toNat<=1000*1000:=Nat.mul_le_mul i ();refine P.mul_str (by rw[cH (),cH ()];rfl) (λZ Z=>?_) (λZ Z=>?_) ?_
 .have f:(z.length:Int)*k=((z.length*k.toNat:Nat):Int):=by rw[Int.natCast_mul,Int.toNat_of_nonneg ()]
  have g:(z.length:Int)*k<=(2^63-1:Int):=by rw[f];omega
  exact Int.not_lt.mpr (Int.le_ediv_of_mul_le () g)
 .have:=sizeLine_eq;unfold Builtin.Str.tooLong;exact cH ()
 .rw[if_neg ()];by_cases h1:(k == 1 || z.length == 0)=true
  .rw[if_pos h1];exists .str z,H,I,⟨_,rfl⟩,q z ?_;rcases Bool.or_eq_true_iff.mp h1 with e|e
   .rw[beq_iff_eq.mp e];simp
   .have j:z.cps.toList=[]:=dQ (by have:=beq_iff_eq.mp e;simpa[Str.length]using this);rw[j];simp
  .rw[if_neg h1];have b:=yi0 z.cps k.toNat #[];exists ?_,⟨.str _,H,I.tok _,⟨_,rfl⟩,q _ b⟩
   have e:Str.length ⟨(List.replicate k.toNat z.cps).foldl (·++·) #[]⟩=k.toNat*z.cps.toList.length:=by
    show ((List.replicate k.toNat z.cps).foldl (·++·) #[]).size=_;rw[<- dF,b];simp[List.sum_replicate_nat]
   rw[e,sizeLine_eq,Nat.mul_comm];have:z.cps.toList.length=z.length:=by simp[Str.length]
   rw[this];omega
end
section
variable{prog:qh}{w:qd}
def vfc(k:Int×qi Int):Int:=reduceHash (Builtin.Tuple.tupleHashOf [hashInt k.1,reduceHash (Builtin.Tuple.tupleHashOf (k.2.map hashInt))])
variable{A:qe}{E:Δ}{s:qa}
end
abbrev NX:=(Int×qi Int)×z4×z4
def vgz(x:NX):DictEntry:=⟨vfc x.1,.ref x.2.1,.ref x.2.2⟩
def ND(a:z4)(xs:qi NX):HO:=.ext λh=>(a == sysModules)=false/\∃o es ep,h.get? a=some o/\o.ExactDict/\o.data=.dict es ep/\es.toList=xs.map vgz
def NKy(H:Hp)(p:z4)(k:Int×qi Int):Prop:=∃b,H p=some (.tup [.int k.1,.ref b])/\H b=some (.tup (k.2.map V.int))
structure NDt(H:Hp)(a:z4)(xs:qi NX):Prop where
 o:H a=some (ND a xs)
 k:∀x∈xs,NKy H x.2.1 x.1
 n:(xs.map (·.1)).Nodup
 l:xs.length<sizeLine
def yy8{X:Cx}{K:z3}{o e:qg}{es:qi qg}{to:TE}{t:TA}{name:Str}{T id:String}{r:V->qi V->Hp->VK->Prop}(hK:X.K=K)(pa:PlainAttrs T)(slot:Slot T name id)(hty:typeOf (.builtin id)=pure (.type "method_descriptor"))(hm:MtR X id r)(ho:PE X o to)(ha:PA X (e::es) t)
  (hbase:attributeBase o name X.env (eval o X.env)=eval o X.env:=by rfl)
  (hfew:((backTo cpos (starEach (e::es) X.env)).all (λx=>!x.1) && (backToKw cpos (keywordEach [] X.env)).all (λx=>x.1.isSome)
   && decide ((e::es).length+([]:qi Keyword).length+(if ([]:qi Keyword).isEmpty then 0 else 1)<30))=true:=by rfl)
  (hline:(apos.endLine == cpos.line)=true:=by rfl) (hs:starEach (e::es) X.env=(false,eval e X.env)::starEach es X.env:=by rfl) (hplain:(backTo cpos (starEach es X.env)).any (·.1)=false:=by rfl):
  PE X (.Call (.Attribute o name apos) (e::es) [] cpos) (tBM K T r to t):=hK ▸ ji pa slot hty hm ho ha hbase hfew hline hs hplain
def yl0(b:Str)(ns:Τ):inV (.str b) (ns.map V.str)=decide (b∈ns):=by
 unfold inV;rw[Bool.eq_iff_iff,d5,decide_eq_true_iff]
 constructor
 .rintro ⟨v,c,e⟩;let⟨x,d,rfl⟩:=cn.mp c;have a:x=b:=by simpa[eqV]using e
  rw[<- a];exact d
 .intro h;exists _,cn.mpr ⟨b,h,rfl⟩,by simp[eqV]
def yhr(ns:Τ):(ns.map V.str).all yaa=true:=by rw[List.all_eq_true];intro v a;let⟨x,_,rfl⟩:=cn.mp a;rfl
end L2
namespace L2
open PySem PySem.Spec PyProof.Rows PySem.SeqAt PySem.Builtin PySem.Builtin.Str
def isS(b:Str):qb->Bool
 | .str x _=>decide (x=b)
 |_=>false
def vf7(ns:Τ)(b:Str)(j:Nat):Prop:=ns[j]?=some b/\∀m,m<j->ns[m]?≠some b
theorem yj3(b:Str):∀{ns:Τ}{vs:Ο},wo (ns.map V.str) vs->∀(j:Nat)(h:j<vs.length),isS b vs[j]=decide (ns[j]?=some b)
 |[],_,.nil,j,h=>absurd h (cS j)
 |x::ns,_,.cons r rs,j,h=>by
  let⟨t,rfl⟩:=r
  cases j with
  |zero =>
   show decide (x=b)=decide (some x=some b);simp
  |succ j=>exact yj3 b rs j (Nat.lt_of_succ_lt_succ h)
theorem yoj(b:Str)(u:Tok):∀{ns:Τ}{vs:Ο},wo (ns.map V.str) vs->∀y,y∈vs->MeetsSeq.EqGives y (.str b u) (isS b y)
 |[],_,.nil,y,h=>nomatch h
 |x::ns,_,.cons r rs,y,h=>by
  let⟨t,rfl⟩:=r;rcases cG.mp h with rfl|h
  .exact λZ Z Z Z Z Z h=>wpAny_eqBool_str h
  .exact yoj b u rs y h
section
variable{X:Cx}
def ytj(K:z3):V->qi V->Hp->VK->Prop:=λx vs H Q=>∃l ns b j,x=.ref l/\vs=[.str b]/\SqL K H l (List.map V.str ns)/\vf7 ns b j/\Q (.int (j:Nat)) H
def yh7:MtR X "list.index" (ytj X.K):=by
 intro z s σ H x T v S Q I D J h;let⟨l,e,b,j,rfl,rfl,G,⟨p,g⟩,q⟩:=h;cases D;let⟨u,rfl,P⟩:=J.one;let⟨t,rfl⟩:=P;let⟨a,r,L,o⟩:=I.list G;let⟨⟨R,U,A,O⟩,n,i,w,d,c⟩:=L;simp only at w d c;subst w d c;have k:e.length=a.length:=by rw[<- r.length,bI]
 have B:j<e.length:=(cE.mp p).1;have N:=ybq;have M:e.length<=sizeLine:=by rw[bI]at o;exact o
 refine call_meets PySem.F.slot_list_index ⟨_,i,rfl⟩ PySem.F.entry_list_index (PySem.F.args_list_index_2 _ _)
  (list_indexAt l a.toArray n none O (.str b t) (isS b) j (by rw[cF];omega) () ?_ ?_) ⟨i,λy C=>(yoj b t r y (by simpa using C)).at _ _,.int j,H,I.tok _,⟨_,rfl⟩,q⟩
 .show isS b a[j]=true;rw[yj3 b r j ()];exact cz p
 .intro m E f;show isS b a[m]=false;rw[yj3 b r m (by simpa using E)];exact cH (g m f)
def yi2:V->qi V->Hp->VK->Prop:=λx vs H Q=>∃y b,∃i:Nat,∃xk,x=.str y/\vs=[.str b]/\occurrences y b 0 y.length 1=i::xk/\Q (.int i) H
def yh1:MtR X "str.index" yi2:=by intro a s σ H x j v k Q I c f h;let⟨y,b,i,xk,rfl,rfl,e,q⟩:=h;let⟨t,rfl⟩:=c;let⟨u,rfl,d⟩:=f.one;let⟨g,rfl⟩:=d;exact SC.index e ⟨.int i,H,I.tok _,⟨_,rfl⟩,q⟩
end
def veb(t:z4)(o:Obj)(n:Nat)(x y z b:Str)(tx ty tz u:Tok)(hc:o.cls=.type "tuple")(hd:o.data=.seq #[.str x tx,.str y ty,.str z tz] n)(k:Nat)(hk:(x=b/\k=0)\/(x≠b/\y=b/\k=1)\/(x≠b/\y≠b/\z=b/\k=2)):
  Meets (Builtin.«tuple.index» ⟨[.ref t,.str b u],[]⟩) (λZ R s=>s.heap.get? t=some o/\R (.ok (.ret (.int (k:Nat) s.toks))) {s with toks:=s.toks+1}) :=
 .of_wp λa w A R s h=>by
  let⟨G,g,I,K,H⟩:=s;let⟨p,h⟩:=h;let⟨c,d,F,J⟩:=o;simp only at hc hd;subst hc hd;unfold Builtin.«tuple.index»;simp only[Std.Legacy.Range.forIn_eq_forIn_range',Std.Legacy.Range.size,Nat.sub_zero,Nat.add_sub_cancel,Nat.div_one]
  have f:∀{c:Bool}{q r:Str}{v B:Tok},decide (q=r)=c->∀{Q:Bool->qa->Prop}{E:Δ}{A:qe}{s:qa},Q c s->wpAny (model a w) A (eqBool (.str q v) (.str r B)) Q E s:=by
   intro c q r v B e Q E A s h;exact wpAny_eqBool_str (by rw[e];exact h)
  rcases hk with⟨i,rfl⟩|⟨i,l,rfl⟩|⟨i,l,D,rfl⟩
  .have j:∀{Q:Bool->qa->Prop}{E:Δ}{A:qe}{s:qa},Q true s->wpAny (model a w) A (eqBool (#[Value.str x tx,Value.str y ty,Value.str z tz][0]) (Value.str b u)) Q E s:=λh=>f (cz i) h
   wp_walk using AutoSeq1.wpAny_loadPart' p,j
   exists _,rfl,h
  .have j:∀{Q:Bool->qa->Prop}{E:Δ}{A:qe}{s:qa},Q false s->wpAny (model a w) A (eqBool (#[Value.str x tx,Value.str y ty,Value.str z tz][0]) (Value.str b u)) Q E s:=λh=>f (cH i) h;have m:∀{Q:Bool->qa->Prop}{E:Δ}{A:qe}{s:qa},Q true s->wpAny (model a w) A (eqBool (#[Value.str x tx,Value.str y ty,Value.str z tz][1]) (Value.str b u)) Q E s:=λh=>f (cz l) h
   wp_walk using AutoSeq1.wpAny_loadPart' p,j,m
   exists _,rfl,h
  .have j:∀{Q:Bool->qa->Prop}{E:Δ}{A:qe}{s:qa},Q false s->wpAny (model a w) A (eqBool (#[Value.str x tx,Value.str y ty,Value.str z tz][0]) (Value.str b u)) Q E s:=λh=>f (cH i) h;have m:∀{Q:Bool->qa->Prop}{E:Δ}{A:qe}{s:qa},Q false s->wpAny (model a w) A (eqBool (#[Value.str x tx,Value.str y ty,Value.str z tz][1]) (Value.str b u)) Q E s:=λh=>f (cH l) h;have C:∀{Q:Bool->qa->Prop}{E:Δ}{A:qe}{s:qa},Q true s->wpAny (model a w) A (eqBool (#[Value.str x tx,Value.str y ty,Value.str z tz][2]) (Value.str b u)) Q E s:=λh=>f (cz D) h
   wp_walk using AutoSeq1.wpAny_loadPart' p,j,m,C
   exists _,rfl,h
section
variable{X:Cx}
def yq6(K:z3):V->qi V->Hp->VK->Prop:=λx vs H Q=>∃y0 y1 y2 b t,∃k:Nat,x=.ref t/\vs=[.str b]/\SqT K H t [.str y0,.str y1,.str y2]/\((y0=b/\k=0)\/(y0≠b/\y1=b/\k=1)\/(y0≠b/\y1≠b/\y2=b/\k=2))/\Q (.int (k:Nat)) H
def yhk:MtR X "tuple.index" (yq6 X.K):=by
 intro d s σ H x J v E Q I f j h;let⟨g,m,z,b,t,k,rfl,rfl,A,w,q⟩:=h;cases f;let⟨u,rfl,C⟩:=j.one;let⟨p,rfl⟩:=C;let⟨D,r,l,G⟩:=I.tuple A;let⟨o,a,c,n,e⟩:=l
 cases r with
 |cons r0 r=>cases r with
  |cons r1 r=>cases r with
   |cons r2 r =>
    cases r;let⟨y,rfl⟩:=r0;let⟨i,rfl⟩:=r1;let⟨B,rfl⟩:=r2;exact call_meets PySem.F.slot_tuple_index ⟨_,a,c⟩ PySem.F.entry_tuple_index (PySem.F.args_tuple_index_2 _ _) (veb t o n g m z b y i B p c e k w) ⟨a,.int k,H,I.tok _,⟨_,rfl⟩,q⟩
end
end L2
namespace L2
open PySem PySem.Spec PyProof.Rows
def jp.m{j k:Nat}{A:qe}(r:jp k A)(h:j<=k:=by decide):jp j A:=r.mono h
section
variable{X:Cx}{e:qg}{es:qi qg}{te:TE}{t:TA}
def pa1(ha:PE X e te)(h:ycr e=true:=by exact rfl):PA X [e] (ynz te ylc):=yix ha zj (yjl h)
def pac(ha:PE X e te)(hr:PA X es t)(h:ycr e=true:=by exact rfl):PA X (e::es) (ynz te t):=yix ha hr (yjl h)
end
section
variable{X:Cx}{k:Nat}{f:z4}{fd:FuncData}{ps:Τ}{sp:Sp}{Ex:St->XK}{x:Str}{p pos:Pos}{e:qg}{es:qi qg}{t:TA}{st:qc}{id:String}{r:qi V->Hp->VK->Prop}{T:String}
def xx(F:vq X.prog X.w X.K X.mg X.base CX0 k f fd ps sp)(hr:jp k X.A)(D:Dff X.K X.mg x st ps f fd)(ha:PA X (e::es) t)(hg:Gl X x:=by exact rfl)(hdb:(x == ("__debug__":Str))=false:=by decide)
  (he:starEach (e::es) X.env=(false,eval e X.env)::starEach es X.env:=by rfl) (hpl:(backTo pos (starEach es X.env)).any (·.1)=false:=by rfl):PE X (.Call (.Name x p) (e::es) [] pos) (yu0 sp [] E0 t):=yt4 F hr hg D.m D.F.kp D.B .nil vh ha hdb he hpl
def ul(F:vq X.prog X.w X.K X.mg X.base (CXe X.prog X.w) k f fd ps sp)(hr:jp k X.A)(D:Dff X.K X.mg x st ps f fd)(hc:ž X Ex)(ha:PA X (e::es) t)(hg:Gl X x:=by exact rfl)(hdb:(x == ("__debug__":Str))=false:=by decide)
  (he:starEach (e::es) X.env=(false,eval e X.env)::starEach es X.env:=by rfl) (hpl:(backTo pos (starEach es X.env)).any (·.1)=false:=by rfl):PE X (.Call (.Name x p) (e::es) [] pos) (yjw sp [] Ex t):=ym6 F hr hg D.m D.F.kp D.B .nil hc ha hdb he hpl
def pcB(hc:j3 X (.builtin id) r)(hm:X.mg x=none)(ha:PA X (e::es) t)(hg:Gl X x:=by exact rfl)(hv:bootBuiltins x=some (.builtin id):=by decide+kernel)(hn:x≠"__name__":=by decide)(hdb:(x == ("__debug__":Str))=false:=by decide)
  (he:starEach (e::es) X.env=(false,eval e X.env)::starEach es X.env:=by rfl) (hpl:(backTo pos (starEach es X.env)).any (·.1)=false:=by rfl):PE X (.Call (.Name x p) (e::es) [] pos) (tCB r t):=yl4 hc hg hm hv ha hn hdb he hpl
def pcT(hc:j3 X (.type T) r)(hm:X.mg x=none)(ha:PA X (e::es) t)(hg:Gl X x:=by exact rfl)(hv:bootBuiltins x=some (.type T):=by decide+kernel)(hn:x≠"__name__":=by decide)(hdb:(x == ("__debug__":Str))=false:=by decide)
  (he:starEach (e::es) X.env=(false,eval e X.env)::starEach es X.env:=by rfl) (hpl:(backTo pos (starEach es X.env)).any (·.1)=false:=by rfl):PE X (.Call (.Name x p) (e::es) [] pos) (tCB r t):=yhx hc hg hm hv ha hn hdb he hpl
end
def stV(xs:Υ)(l u k:qj Int):Υ:=(sliceRange (sliceBounds l u k xs.length).1 (sliceBounds l u k xs.length).2.1 (sliceBounds l u k xs.length).2.2).filterMap (xs[·]?)
def yjp(K:z3)(l u k:qj Int):V->Hp->VK->Prop:=λx H Q=>∃a xs,x=.ref a/\SqL K H a xs/\∀p,H p=none->(∀y∈stV xs l u k,y∈xs)->(stV xs l u k).length<=xs.length->Q (.ref p) (upd H p (.lst (stV xs l u k)))
def vgs(K:z3)(te:TE)(tl th ts:TO):TE:=λσ H Q=>te σ H λx H1=>tl σ H1 λl H2=>th σ H2 λu H3=>ts σ H3 λk H4=>k≠some 0/\yjp K l u k x H4 Q
theorem ė{xs:Υ}{us:Ο}(r:wo xs us):∀idx:qi Nat,wo (idx.filterMap (xs[·]?)) (idx.filterMap (us[·]?))
 |[]=>.nil
 |i::idx=>by
  have b:=r.length;rcases Nat.lt_or_ge i xs.length with a|a
  .obtain⟨u,e,q⟩:=r.get (ci a);rw[List.filterMap_cons,List.filterMap_cons,e,ci a];exact .cons q (ė r idx)
  .rw[List.filterMap_cons,List.filterMap_cons,df a,df ()];exact ė r idx
section
variable{X:Cx}{e st:qg}{te:TE}{lo hi:qj qg}{tl th ts:TO}{pos p2:Pos}
def yhv(he:PE X e te)(hl:PO X lo tl)(hu:PO X hi th)(hs:PO X (some st) ts):PE X (.Subscript e (.Slice lo hi (some st) p2) pos) (vgs X.K te tl th ts):=by
 refine .mk λc s σ H Q I h=>?_;refine Subscript_ (thn (he c s σ H _ I h) λv B h'=>?_);let⟨x,Y,I1,M,J⟩:=h';refine wpAny_Slice (thn (hl c B σ Y _ I1 J) λR P ⟨l,H2,I2,O,W⟩=>thn (hu c P σ H2 _ I2 W) λL S ⟨u,Z,I3,pu,q3⟩=>thn (hs c S σ Z _ I3 q3) λU j h'=>?_);let⟨k,C,N,G,E,F⟩:=h';have m:Inv X c σ C {j with heap:=j.heap.push { cls:=.type "slice",data:=.fields #[R,L,U]} }:=N.kept (t':=j.toks) λb T q=>ck _ q;let⟨a,t,rfl,hx,q⟩:=F;cases M;let⟨g,r,z,hz⟩:=m.list hx;have d:=r.length;have f:=slicePick_size_le g.toArray l u k;rw[cF]at f;have p:=ė r (sliceRange (sliceBounds l u k g.toArray.size).1 (sliceBounds l u k g.toArray.size).2.1 (sliceBounds l u k g.toArray.size).2.2);rw[cF,<- d]at p
 have n:(stV t l u k).length<=t.length:=by
  unfold stV;rw[p.length,d];unfold slicePick at f;rw[cF]at f;simpa using f
 show wpAny (model X.prog X.w) X.A (subscriptTail e (.Slice lo hi (some st) p2) (.ref a) (.ref j.heap.objs.size)) (EP X c σ Q) X.xe _;refine tail_any (ops:=[.ref a,.ref j.heap.objs.size]) z.isList.typeIs slot_list_getitem.lookup ?_ (by with_unfolding_all rfl);refine wpAny_getItem_list_slice z.isList (Heap.IsSliceOf.new ..) O pu G E ?_ (by rw[cF]<;>omega);exists .ref _,_,m.laid (t':=j.toks) (o:=.lst (stV t l u k)) (λb T q=>ck _ q) (cq _) ?_,rfl,q _ (m.hok.fresh (cq _)) (λy D=>?_) n
 .exists by omega,_,0,p,?_
  rw[cD _ rfl];unfold slicePick;simp[d]
 .obtain⟨i,_,e⟩:=List.mem_filterMap.mp D;exact cB e
def ve5{K:z3}{σ:St}{H:Hp}{Q:VK}(h:te σ H λx H1=>tl σ H1 λl H2=>th σ H2 λu H3=>ts σ H3 λk H4=>k≠some 0/\yjp K l u k x H4 Q):vgs K te tl th ts σ H Q:=h
end
section
variable{X:Cx}
def yyj(K:z3):V->qi V->Hp->VK->Prop:=λx vs H Q=>∃(l:z4)(cs:qi Nat),x=.str ""/\vs=[.ref l]/\SqL K H l (cs.map λc=>V.str ⟨#[c]⟩)/\cs.length<=100000/\Q (.str ⟨cs.toArray⟩) H
def ven{cs:qi Nat}{vs:Ο}(h:wo (cs.map λc=>V.str ⟨#[c]⟩) vs):StrsAre vs (cs.map λc=>(⟨#[c]⟩:Str)):=by
 induction cs generalizing vs with
 |nil=>cases h;exact .nil
 |cons c cs ih =>
  cases h with
  |cons r t =>
   let⟨u,rfl⟩:=r;exact .cons _ _ (ih t)
def vg8(cs:qi Nat):(cs.map ((λx:Str=>x.length) ∘ λc=>(⟨#[c]⟩:Str))).sum=cs.length:=by
 induction cs with
 |nil=>rfl
 |cons c cs ih=>rw[db,List.sum_cons,ih,cO];show 1+cs.length=_;omega
def ymx:MtR X "str.join" (yyj X.K):=by
 intro d s σ H x y v z Q I e p h;let⟨l,a,rfl,rfl,j,B,q⟩:=h;let⟨t,rfl⟩:=e;let⟨u,rfl,g⟩:=p.one;cases g;let⟨m,r,⟨o,n,f,w,A,i⟩,_⟩:=I.list j;refine join_list (ys:=a.map λc=>(⟨#[c]⟩:Str)) ⟨o,f,w,n,i⟩ (ven r) ?_ λb k=>⟨.str ⟨a.toArray⟩,H,I.tok _,⟨b,?_⟩,q⟩
 .rw[cX,vg8,bI];show a.length+a.length*0<=_;omega
 .show Value.str (Builtin.Str.glued _ _) b=_;rw[StrLaws.glued_eq_join,show (Str.ofString "")=⟨#[]⟩from rfl,join_ones]
end
def yw9(K:z3)(a:z4)(xs:Υ):It :=
 ⟨λi H=>SqL K H a xs/\i<xs.length,λi H x H'=>H'=H/\xs.reverse[i]?=some x,λi Z=>i=xs.length⟩
def ylu{P:qh}{w:qd}{K:z3}{tg:qg}(a it:z4)(xs:Υ):ye6 P w K tg (yw9 K a xs) [it] it (λi h=>h.IsRevIter it a ((xs.length:Int)-1-i)) where
 mem:=by simp
 obj:=λi h f b l=>by
  have e:b=it:=by simpa using l
  subst e;let⟨o,e,c,d⟩:=f;exists o,e,λv z=>by rw[d]at z;cases z
 keep:=λi h m f k=>f.at λo e=>k it (by simp) o e
 item:=by
  intro X D r t G i g s σ H E I n f A;subst D r t;let⟨O,Q⟩:=A;let⟨T,N,p,Y⟩:=I.list O;let⟨u,L,S⟩:=N.get (ci (show xs.length-1-i<xs.length by omega));let⟨B,q,J,y,F,C⟩:=n it (by simp);rw[show (xs.length:Int)-1-(i:Int)=((xs.length-1-i:Nat):Int) by omega]at f;refine wpAny_pyNext_rev_item f p.isList (x:=u) (by simpa using L) λm j R=>?_;rw[show ((xs.length-1-i:Nat):Int)-1=(xs.length:Int)-1-((i+1:Nat):Int) by omega]at j;have U:Inv X g σ H {s with heap:=m}:=I.turned (t':=s.toks) (λb o l e=>(R.2 b l).trans e) B q y F C;let⟨o,e,c,d⟩:=id j;exists u,rfl,yc9 (s:={s with heap:=m}) e c d ∅ ⟨_,H,U,S,⟨rfl,by rw[List.getElem?_reverse Q,ci]⟩,j,λb l=>(n b l).1⟩
 done:=by
  intro X D r t G i g s σ H E I n f A;subst D r t;let⟨B,q,J,y,F,C⟩:=n it (by simp);rw[show i=xs.length from A,show (xs.length:Int)-1-(xs.length:Int)=-1 by omega]at f;exact wpAny_pyNext_rev_end (I.ok.hd G) f λm M=>⟨rfl,I.turned (t':=s.toks) (λb o l e=>M b o l e) B q y F C⟩
 self:=λZ Z Z Z Z f h=>wpAny_pyIter_revIter f h
def vgo(K:z3)(ta:TA):TI:=λσ H R=>ta σ H λvs H1=>∃a xs,vs=[.ref a]/\SqL K H1 a xs/\R (yw9 K a xs) H1
def yyp{X:Cx}{tg a:qg}{ta:TA}{p pos:Pos}(hg:Gl X "reversed")(hm:X.mg "reversed"=none)(ha:PA X [a] ta)(hs:starEach [a] X.env=[(false,eval a X.env)]:=by rfl)(hv:bootBuiltins "reversed"=some (.type "reversed"):=by decide+kernel):PI X tg (.Call (.Name "reversed" p) [a] [] pos) (vgo X.K ta):=by
 intro d s σ H R I h;refine Call_ (ġ I hg hm hv (PyProof.Rows.callWith_type1 (thn (ha pos d s σ H _ I h) λx c h'=>?_) hs rfl));let⟨w,n,f,l,r⟩:=h';let⟨a,i,e,k,q⟩:=r;subst e;let⟨u,rfl,m⟩:=l.one;cases m;let⟨g,v,p,y⟩:=f.list k;refine call_reversed_list p.isList ?_
 have j:(c.heap.push (revObj a ((g.toArray.size:Int)-1))).IsRevIter c.heap.objs.size a ((i.length:Int)-1-((0:Nat):Int)):=by
  rw[v.length];exists _,cD _ rfl,rfl,?_;simp[revObj]
 refine wpAny_pyIter_revIter j ?_;exists c.heap.objs.size,[c.heap.objs.size],_,_,n,rfl,f.kept (t':=c.toks) λb o e=>ck _ e,ylu a _ i,j,λb t=>?_,q;have e:b=c.heap.objs.size:=by simpa using t
 subst e;exact f.fpOk (cq _) (f.hok.fresh (cq _))
def yzg{K:z3}{ta:TA}{σ:St}{H:Hp}{R:It->Hp->Prop}(h:ta σ H λvs H1=>∃a xs,vs=[.ref a]/\SqL K H1 a xs/\R (yw9 K a xs) H1):vgo K ta σ H R:=h
def yth{K:z3}{a:z4}{xs:Υ}{g:TG}{tb:TS}{D:Ă}{σ:St}{H:Hp}(Pv:Nat->St->Hp->Prop)(h0:Pv 0 σ H)(hl:∀i σ H,i<=xs.length->Pv i σ H->SqL K H a xs)
  (hs:∀i x σ H,xs.reverse[i]?=some x->Pv i σ H->g x σ H λσ2 H2=>tb {D with nx:=Pv (i+1),ct:=Pv (i+1),bk:=D.nx} σ2 H2) (hd:∀σ H,Pv xs.length σ H->D.nx σ H):
  ∃W:Nat->Nat->St->Hp->Prop,(∃m,W 0 m σ H)/\∀i m σ H,W i m σ H ->
   ((yw9 K a xs).stop i H/\D.nx σ H)\/((yw9 K a xs).go i H/\∃N:Ζ,(∀σ' H',N σ' H'->∃m',m'<m/\W (i+1) m' σ' H')/\∀x H',(yw9 K a xs).yld i H x H'->g x σ H' λσ2 H2=>tb {D with nx:=N,ct:=N,bk:=D.nx} σ2 H2):=by
 exists λi m σ H=>m=xs.length-i/\i<=xs.length/\Pv i σ H,⟨xs.length,by simp,cP _,h0⟩,?_;rintro i m σ H ⟨rfl,b,p⟩;have q:=hl i σ H b p;by_cases hlt:i<xs.length
 .refine .inr ⟨⟨q,hlt⟩,Pv (i+1),λσ' H' c=>⟨xs.length-(i+1),(),rfl,hlt,c⟩,λx H' y=>?_⟩;let⟨e,y⟩:=y;subst e;exact hs i x σ _ y p
 .have e:i=xs.length:=()
  subst e;exact .inl ⟨rfl,hd σ H p⟩
end L2
namespace MixI
def giv(c b:Int):Int:=if b=1 then c else 16777216-c
def ynv(x:Int):Nat:=if x == 0 then 0 else x.natAbs.log2+1
def shL(ws cs:Ρ)(b:Int):Ρ:=List.zipWith (λw c=>w*giv c b) ws cs
def grL(sh:Ρ):Ρ:=sh.map λs=>31*(sh.length:Int)*s+sh.sum
def tOf(s:Int):Nat:=ynv s-48
def lrn(ws cs:Ρ)(b:Int):Ρ:=(grL (shL ws cs b)).map λv=>v/2^tOf (grL (shL ws cs b)).sum
def vgk(ws cs:Ρ):Int:=(List.zipWith (λw c=>w*c) ws cs).sum
def yqy(ws cs:Ρ):Int:=vgk ws cs/ws.sum
structure WOk(k:Nat)(ws:Ρ):Prop where
 len:ws.length=k
 one:∀w∈ws,1<=w
 top:∀w∈ws,w<281474976710656
structure COk(k:Nat)(cs:Ρ):Prop where
 len:cs.length=k
 lo:∀c∈cs,32768<=c
 hi:∀c∈cs,c<=16744448
def yqg{c b:Int}(h1:32768<=c)(h2:c<=16744448):32768<=giv c b:=by unfold giv;split<;>omega
def Ž{ws cs:Ρ}{b:Int}(h:ws.length=cs.length):(shL ws cs b).length=ws.length:=by unfold shL;rw[List.length_zipWith,<- h];omega
def yi5{sh:Ρ}:(grL sh).length=sh.length:=by unfold grL;rw[bI]
def yti{k:Nat}{ws cs:Ρ}{b:Int}(hw:WOk k ws)(hc:COk k cs):(lrn ws cs b).length=k:=by unfold lrn;rw[bI,yi5,Ž (by rw[hw.len,hc.len]),hw.len]
theorem Ĺ(m d:Int):∀sh:Ρ,(sh.map λs=>m*s+d).sum=m*sh.sum+sh.length*d
 |[]=>by simp
 |s::r=>by
  simp only[db,List.sum_cons,Ĺ m d r,cO,Int.natCast_add,Int.natCast_one,Int.mul_add,Int.add_mul];omega
def yjm(sh:Ρ):(grL sh).sum=32*(sh.length:Int)*sh.sum:=by unfold grL;rw[Ĺ,Int.mul_assoc,Int.mul_assoc];generalize (sh.length:Int)*sh.sum=x;omega
theorem yjx:∀{l:Ρ},(∀x∈l,0<=x)->0<=l.sum
 |[],_=>by simp
 |a::r,h=>by
  have c:=h a (by simp);have d:=yjx (l:=r) λx b=>h x (by simp[b]);rw[List.sum_cons];omega
theorem ypl:∀{l:Ρ}{y:Int},(∀x∈l,0<=x)->y∈l->y<=l.sum
 |a::r,y,h,hy=>by
  have d:=h a (by simp);have b:∀x∈r,0<=x:=λx c=>h x (by simp[c]);have f:=yjx b;rw[List.sum_cons];rcases cG.mp hy with e|hy
  .omega
  .have:=ypl b hy;omega
theorem yeq{c:Int}:∀{l:Ρ},(∀x∈l,c<=x)->c*l.length<=l.sum
 |[],_=>by simp
 |a::r,h=>by
  have d:=h a (by simp);have e:=yeq (l:=r) λx b=>h x (by simp[b]);rw[List.sum_cons,cO,Int.natCast_add,Int.natCast_one,Int.mul_add];omega
theorem yo4{c:Int}:∀{l:Ρ},(∀x∈l,x<=c)->l.sum<=c*l.length
 |[],_=>by simp
 |a::r,h=>by
  have d:=h a (by simp);have e:=yo4 (l:=r) λx b=>h x (by simp[b]);rw[List.sum_cons,cO,Int.natCast_add,Int.natCast_one,Int.mul_add];omega
theorem yo9{f:Int->Int}{m:Int}:∀{ws cs:Ρ},ws.length=cs.length->(∀w∈ws,0<=w)->(∀c∈cs,m<=f c)->m*ws.sum<=(List.zipWith (λw c=>w*f c) ws cs).sum
 |[],[],_,_,_=>by simp
 |w::r,c::t,h,h1,h2=>by
  have i:=yo9 (f:=f) (m:=m) (ws:=r) (cs:=t) (by simpa using h) (λx b=>h1 x (by simp[b])) λx b=>h2 x (by simp[b]);have a:=dD (h2 c (by simp)) (h1 w (by simp));rw[List.zipWith_cons_cons,List.sum_cons,List.sum_cons,Int.mul_add,Int.mul_comm m w];omega
theorem yoq{f:Int->Int}{m:Int}:∀{ws cs:Ρ},ws.length=cs.length->(∀w∈ws,0<=w)->(∀c∈cs,f c<=m)->(List.zipWith (λw c=>w*f c) ws cs).sum<=m*ws.sum
 |[],[],_,_,_=>by simp
 |w::r,c::t,h,h1,h2=>by
  have i:=yoq (f:=f) (m:=m) (ws:=r) (cs:=t) (by simpa using h) (λx b=>h1 x (by simp[b])) λx b=>h2 x (by simp[b]);have a:=dD (h2 c (by simp)) (h1 w (by simp));rw[List.zipWith_cons_cons,List.sum_cons,List.sum_cons,Int.mul_add,Int.mul_comm m w];omega
def WOk.pos{k:Nat}{ws:Ρ}(h:WOk k ws)(hk:1<=k):1<=ws.sum:=by have:=yeq (c:=1) h.one;rw[h.len]at this;omega
def WOk.small{k:Nat}{ws:Ρ}(h:WOk k ws)(hk:k<=6):ws.sum<=1688849860263936:=by have:=yo4 (c:=281474976710656) λx a=>Int.le_of_lt (h.top x a);rw[h.len]at this;omega
def yjr{k:Nat}{ws cs:Ρ}(hk:1<=k)(hw:WOk k ws)(hc:COk k cs):32768<=yqy ws cs/\yqy ws cs<=16744448:=by
 have e:ws.length=cs.length:=by rw[hw.len,hc.len]
 have d:∀w∈ws,0<=w:=λw h=>by have:=hw.one w h;omega
 have p:=hw.pos hk;have a:=yo9 (f:=λc=>c) e d hc.lo;have b:=yoq (f:=λc=>c) e d hc.hi;unfold yqy vgk;exists(Int.le_ediv_iff_mul_le ()).mpr a,Int.le_of_lt_add_one ((Int.ediv_lt_iff_lt_mul ()).mpr (by rw[Int.add_mul];omega))
def ydm(t:Nat):(2:Int)^t=((2^t:Nat):Int):=by rw[Int.natCast_pow];rfl
def yip(t:Nat):(0:Int)<2^t:=by rw[ydm];exact Int.natCast_pos.mpr (Nat.pow_pos ∅)
def ypw{s:Int}(h:1<=s):s<281474976710656*2^tOf s/\(tOf s=0\/140737488355328*2^tOf s<=s):=by
 have f:s.natAbs≠0:=()
 have e:(s.natAbs:Int)=s:=()
 have a:=Nat.log2_self_le f;have b:=@Nat.lt_log2_self s.natAbs;unfold tOf ynv;rw[if_neg (by simp;omega)];generalize s.natAbs.log2=L at a b⊢;rcases Nat.lt_or_ge L 48 with q|q
 .have z:L+1-48=0:=()
  rw[z];exists ?_,.inl rfl;have:2^(L+1)<=2^48:=Nat.pow_le_pow_right ∅ ();have c:(2:Nat)^48=281474976710656:=∅
  rw[c]at this;rw[<- e,Int.pow_zero,Int.mul_one];omega
 .obtain⟨t,rfl⟩:∃t,L=47+t:=⟨L-47,()⟩;have z:47+t+1-48=t:=()
  rw[z,ydm];have d:(2:Nat)^(47+t)=140737488355328*2^t:=by rw[Nat.pow_add]
  have c:(2:Nat)^(47+t+1)=281474976710656*2^t:=by rw[show 47+t+1=48+t by omega,Nat.pow_add]
  rw[d]at a;rw[c]at b;generalize 2^t=T at a b⊢;exists by omega,.inr ()
section
variable{k:Nat}{ws cs:Ρ}{b:Int}
def yjg(hw:WOk k ws)(hc:COk k cs):∀s∈shL ws cs b,1<=s:=by intro s a;unfold shL at a;rw[List.mem_iff_getElem]at a;let⟨i,d,rfl⟩:=a;rw[List.length_zipWith]at d;rw[List.getElem_zipWith];have c:=hw.one ws[i] (cU _);have e:=yqg (b:=b) (hc.lo cs[i] (cU _)) (hc.hi cs[i] (cU _));have:=Int.mul_le_mul c e ∅ ();omega
def ype{sh:Ρ}(h:∀s∈sh,1<=s):∀v∈grL sh,sh.sum<=v/\v<=(grL sh).sum/\0<=v:=by
 have e:=yjx (l:=sh) λx d=>by have:=h x d;omega
 have a:∀v∈grL sh,sh.sum<=v:=λv a=>by
  unfold grL at a;let⟨s,b,rfl⟩:=cn.mp a;have:=h s b;have:0<=31*(sh.length:Int)*s:=Int.mul_nonneg (Int.mul_nonneg ∅ (Int.natCast_nonneg _)) ();omega
 exact λv c=>⟨a v c,ypl (λx d=>by have:=a x d;omega) c,by have:=a v c;omega⟩
def ypv(hk:1<=k)(hk6:k<=6)(hw:WOk k ws)(hc:COk k cs):WOk k (lrn ws cs b):=by
 have i:(shL ws cs b).length=k:=by rw[Ž (by rw[hw.len,hc.len]),hw.len]
 have g:=yjg (b:=b) hw hc
 have l:1<=(shL ws cs b).sum:=by
  have:=yeq (c:=1) g;rw[i]at this;omega
 have f:=ype g;have e:=yjm (shL ws cs b);rw[i]at e
 have n:1<=(grL (shL ws cs b)).sum:=by
  rw[e];have:32*(k:Int)*1<=32*(k:Int)*(shL ws cs b).sum:=dD l ();omega
 have m:(grL (shL ws cs b)).sum<=192*(shL ws cs b).sum:=by
  rw[e];exact du () ()
 let⟨r,a⟩:=ypw n;have j:=yip (tOf (grL (shL ws cs b)).sum);exists yti hw hc,λw h=>?_,λw h=>?_
 .obtain⟨v,d,rfl⟩:=cn.mp h;let⟨q,o,p⟩:=f v d;refine(Int.le_ediv_iff_mul_le j).mpr ?_;rcases a with a|a
  .rw[a,Int.pow_zero];omega
  .generalize (2:Int)^tOf (grL (shL ws cs b)).sum=T at*;omega
 .obtain⟨v,d,rfl⟩:=cn.mp h;let⟨q,o,p⟩:=f v d;exact(Int.ediv_lt_iff_lt_mul j).mpr ()
def yg4{g:Int->Int->Int}{ws cs:Ρ}(h:cs.length=ws.length):(List.range ws.length).map (λi=>g ((ws[i]?).getD 0) ((cs[i]?).getD 0))=List.zipWith g ws cs:=by
 apply List.ext_getElem
 .rw[bI,di,List.length_zipWith];omega
 .intro i a b;rw[bI,di]at a;rw[dv,List.getElem_range,List.getElem_zipWith,ci a,ci ()];rfl
end
end MixI
namespace SpanMath
def rn(d:Ρ):Nat->Int
 |0=>0
 |k+1=>rn d k*256+(d[k]?).getD 0
def Byt(d:Ρ):Prop:=∀x∈d,0<=x/\x<=255
def yzv{d:Ρ}(h:Byt d)(k:Nat):0<=(d[k]?).getD 0/\(d[k]?).getD 0<=255:=by
 cases e:d[k]? with
 |none=>exists by decide,∅
 |some x=>exact h x (cB e)
theorem ykh{d:Ρ}(h:Byt d)(k:Nat):∀r,∃q,rn d (k+r)=rn d k*pw r+q/\0<=q/\q<pw r
 |0=>⟨0,by show rn d k=rn d k*1+0;omega,∅,∅⟩
 |r+1=>by
  let⟨q,e,b,f⟩:=ykh h k r;let⟨a,c⟩:=yzv h (k+r);exists q*256+(d[k+r]?).getD 0,?_,(),?_
  .show rn d (k+r)*256+(d[k+r]?).getD 0=rn d k*(pw r*256)+_;rw[e,<- Int.mul_assoc,Int.add_mul,Int.add_assoc]
  .show _<pw r*256;omega
def ymu{d:Ρ}(h:Byt d)(k r:Nat)(l w':Int):(l*pw r<=rn d (k+r)/\rn d (k+r)<l*pw r+w'*pw r)↔(l<=rn d k/\rn d k<l+w'):=by
 let⟨q,e,g,i⟩:=ykh h k r;have c:=zg r;rw[e,<- Int.add_mul];generalize rn d k=v;generalize pw r=p at c g i⊢
 constructor
 .rintro ⟨a,b⟩
  constructor
  .refine Int.le_of_lt_add_one (Int.lt_of_mul_lt_mul_right (a:=p) ?_ (Int.le_of_lt c));rw[Int.add_mul,Int.one_mul];omega
  .refine Int.lt_of_mul_lt_mul_right (a:=p) ?_ (Int.le_of_lt c);omega
 .rintro ⟨a,b⟩;have j:=du a (Int.le_of_lt c);have f:=du (show v+1<=l+w' by omega) (Int.le_of_lt c);rw[Int.add_mul v 1 p,Int.one_mul]at f;omega
structure InS(d:Ρ)(x:Sn):Prop where
 lo:x.1<=rn d (sz x)
 hi:rn d (sz x)<x.1+x.2.1
def vdn(l w' s':Int):∃r:Nat,ren l w' s'=(l*pw r,w'*pw r,s'+r):=by
 unfold ren
 split
 .split
  .exact⟨2,rfl⟩
  .exact⟨1,rfl⟩
 .refine⟨0,?_⟩;show (l,w',s')=(l*1,w'*1,s'+0);rw[Int.mul_one,Int.mul_one,Int.add_zero]
def yps{d:Ρ}(h:Byt d){l w' s':Int}(hs:0<=s'):InS d (ren l w' s')↔(l<=rn d s'.toNat/\rn d s'.toNat<l+w'):=by
 let⟨r,e⟩:=vdn l w' s';rw[e]
 have c:sz (l*pw r,w'*pw r,s'+r)=s'.toNat+r:=by
  show (s'+(r:Int)).toNat=s'.toNat+r;omega
 rw[<- ymu h s'.toNat r l w']
 constructor
 .rintro ⟨a,b⟩;rw[c]at a b;exists a,b
 .rintro ⟨a,b⟩;exists by rw[c];exact a,by rw[c];exact b
def Ü(d:Ρ)(x:Sn)(c:Int):Int:=if rn d (sz x)<x.1+cut x.2.1 c then 1 else 0
def Ű(d:Ρ)(x:Sn)(c:Int):Ü d x c=0\/Ü d x c=1:=by
 unfold Ü
 split
 .exact .inr rfl
 .exact .inl rfl
def yrs{d:Ρ}(hd:Byt d){x:Sn}{c b:Int}(h:OkS x)(hc:Ch c)(hb:b=0\/b=1)(i:InS d (nar x c b)):InS d x/\b=Ü d x c:=by
 have j:=h.ok.z;let⟨g,f,k⟩:=ybi h.ok.w0 h.ok.w1 hc;unfold nar at i;rcases hb with rfl|rfl
 .rw[if_neg ∅]at i;let⟨e,a⟩:=(yps hd ()).mp i;have e:x.1+cut x.2.1 c<=rn d (sz x):=e;have a:rn d (sz x)<x.1+cut x.2.1 c+(x.2.1-cut x.2.1 c):=a;exists⟨(),()⟩,?_;unfold Ü;rw[if_neg ()]
 .rw[if_pos rfl]at i;let⟨e,a⟩:=(yps hd ()).mp i;have e:x.1<=rn d (sz x):=e;have a:rn d (sz x)<x.1+cut x.2.1 c:=a;exists⟨(),()⟩,?_;unfold Ü;rw[if_pos a]
theorem yqo:∀(k:Nat)(d:Ρ),k<=d.length->rn d k=val (d.take k)
 |0,_,_=>rfl
 |k+1,d,h=>by
  have a:k<d.length:=()
  have e:d.take (k+1)=d.take k++[d[k]]:=by rw[List.take_succ,ci a];rfl
  rw[e,yd2,<- yqo k d ()];show rn d k*256+_=_;rw[ci a];rfl
def Ź{d:Ρ}(hd:Byt d){x:Sn}(h:OkS x)(hl:(tL x).length<=d.length)(hp:d.take (tL x).length=tL x):InS d x:=by
 have g:=yv6 h
 have f:rn d (sz x-tK x)=tCn x:=by
  rw[<- ykf x,yqo _ _ hl,hp,yyr h]
 let⟨q,b,i,j⟩:=ykh hd (sz x-tK x) (tK x);have e:sz x-tK x+tK x=sz x:=()
 rw[e,f]at b;have a:=ź h.ok;have c:=(yqn x.1 (zg (tK x))).1;unfold ygh at a;have a:(tCn x+1)*pw (tK x)<=x.1+x.2.1:=a;have c:x.1<=tCn x*pw (tK x):=c;rw[Int.add_mul,Int.one_mul]at a;exists by rw[b];omega,by rw[b];omega
end SpanMath
namespace Law
local macro_rules | `(tactic| ext)=>`(tactic| walk_at "rd")
local macro_rules | `(tactic| right)=>`(tactic| decide +kernel)
open PySem L2
local macro_rules | `(tactic| walk_at "rd1")=>`(tactic| fail)
open Lean in
set_option hygiene true in
local macro_rules | `(tactic| fail $s:str)=>do
 let n::_::x::l:=s.getString.splitOn " "|Macro.throwUnsupported
 if n.isNat then `(tactic| fail $(Syntax.mkStrLit (" ".intercalate (n::x::l)))) else Macro.throwUnsupported
open Lean in
set_option hygiene true in
local macro_rules | `(tactic| fail $s:str)=>do
 let n::x::_:=s.getString.splitOn " "|Macro.throwUnsupported
 let some n:=n.toNat?|Macro.throwUnsupported
 let x:=mkIdent ((if n<4 then `_root_.Law else `_root_.L2)++x.toName)
 if n%4=0 then return <-`(tactic| refine $x ?_)
 let y:Term<-if n%4=1 then `($x (by assumption) ?q ?_) else if n%4=2 then `($x ?q ?_) else `($x ?q ?n ?_)
 let z<-if n%4=3 then `(tactic| case n=>with_unfolding_all decide +kernel) else `(tactic| skip)
 `(tactic| (with_reducible refine' $y; (case q=>first | assumption | exact ya); $z:tactic))
local macro_rules | `(tactic| exists $n:num,$m:num)=>do
 let xs:=Array.replicate n.getNat (<-`(some _))++Array.replicate m.getNat (<-`(none))
 `(tactic| (try dsimp only [vv]; refine yj (σ':=[$xs,*]) rfl ?_))
local macro_rules | `(tactic| exists $h:ident,$a:ident,$b:ident,$c:ident)=>`(tactic| with_reducible first | refine yn $h fun $a $b $c=>?_ | refine yx $h fun $a $b $c=>?_)
local macro_rules | `(tactic| exists $n:num,$m:num,$t)=>`(tactic| (refine ⟨_,$t,?_⟩;exists $n,$m;ext))
local macro_rules | `(tactic| left)=>`(tactic| first | (cases h; subst_vars; rfl) | repeat first | (obtain ⟨e,_⟩:=h; subst e; rfl) | obtain ⟨_,h⟩:=h)
local macro_rules | `(tactic| exists $a:ident,$b:ident,$c:ident)=>`(tactic| (refine $a $b (fun ϟ H Q E h=>?_) (fun ϟ A ϟ s H ϟ Q E $c h=>?_); left))
local macro_rules | `(tactic| walk_at "side")=>`(tactic| first | exact ⟨∅,∅⟩ | (show (0:Int) < _; first | decide | omega) | exact Or.inl ⟨(),()⟩ | exact Or.inr ⟨(),()⟩ | exact ⟨(),()⟩ | exact ⟨∅,∅,∅⟩)
local macro_rules | `(tactic| walk_at "len")=>`(tactic| first | decide | (simp only [cO,List.length_nil]; decide))
local macro_rules | `(tactic| walk_at "rd1")=>`(tactic| with_reducible first
 | fail "4 vhl vem yx0 yzi"
 | ((fail_if_success constructor); walk_at "rd2"))
local macro_rules | `(tactic| walk_at "o")=>`(tactic| refine yxp fun ϟ ϟ ϟ ϟ ϟ ϟ=>?_)
set_option hygiene true in
local macro_rules | `(tactic| walk_at "rd2")=>`(tactic| with_reducible first
 | walk_at "o"
 | refine vhi (by assumption) ?_
 | (refine' yw2 ?rdv ?_; (case rdv=>with_unfolding_all rfl))
 | fail "4 i_c vg0 vg9 vau vg5 vhj vd7 vfd yzu vab yzl yss ŷ ysi yrd vao veu vhk vfi vey yte yzd vbd vg3 vei vez vfa ve4 Ħ yyo vg4 vfe vek yzt vhh ve5 yms yy5 vg2 i_U g0 g1 g2 g3 g4 g5 g6 g7 g8 g9 g10 g11 g12 g13 ytx yyt yac jq vfj vfb veh yrk yxq ytv ysb vcn ysd yzg yx6 yrf vbt yr3 ytn yrh yq8 ymg ysf yx4 ves ylw vb5 ys8 ysy"
 | (refine' i_shlC ?rdp ?rdq ?_; (case rdp=>with_unfolding_all exact ⟨∅,∅,∅⟩); (case rdq=>with_unfolding_all decide))
 | (refine' i_powC ?rdp ?rdq ?_; (case rdp=>with_unfolding_all exact ⟨∅,∅,∅⟩); (case rdq=>with_unfolding_all decide))
 | (refine i_I ?rdc ?_; (case rdc=>with_unfolding_all walk_at "side")))
local macro_rules | `(tactic| walk_at "rd")=>`(tactic| repeat walk_at "rd1")
variable{D c' cl cl' ct' dc dq ds q st st2 td tl y:z4}{U U' W' W2:Ν}{L M:Η}{ts us xs:Ρ}{i j m':Nat}{tp:Μ}{O O' O2:Β}{R:Prop}
def top(i:Nat):qc:=PySem.Challenge.pw_foretell_k51_opened.main.body.getD i (.Pass ⟨0,0,0,0⟩)
abbrev vfv:qc:=top 22
abbrev vfy:qc:=top 23
abbrev vfq:qc:=top 24
abbrev vfs:qc:=top 25
abbrev vfw:qc:=top 26
abbrev vft:qc:=top 27
abbrev vf4:qc:=top 28
abbrev vfr:qc:=top 29
abbrev vfm:qc:=top 30
abbrev yvg:qc:=top 31
abbrev yvu:qc:=top 32
abbrev yvm:qc:=yq (top 37) 0
abbrev yuq:qc:=yq (top 37) 1
abbrev ywc:qc:=yq (top 37) 2
abbrev yuc:qc:=yq (top 37) 3
abbrev ywa:qc:=yq (top 38) 0
abbrev yuj:qc:=yq (top 38) 1
abbrev yu6:qc:=yq (top 38) 2
abbrev yv1:qc:=yq (top 38) 3
abbrev yuz:qc:=yq (top 39) 0
abbrev ywn:qc:=yq (top 39) 1
abbrev yvp:qc:=yq (top 39) 2
abbrev yuo:qc:=yq (top 39) 3
abbrev yu8:qc:=top 40
abbrev yu2:qc:=top 45
abbrev yv4:qc:=top 46
abbrev yui:qc:=yq (top 47) 0
abbrev ywh:qc:=yq (top 47) 2
abbrev yu9:qc:=yq (top 47) 3
abbrev yuk:qc:=yq (top 47) 5
abbrev yvz:qc:=yq (top 47) 6
abbrev ywx:qc:=top 53
abbrev ywm:qc:=top 54
abbrev yue:qc:=top 55
abbrev yum:qc:=top 56
abbrev yuv:qc:=top 57
abbrev yvo:qc:=top 58
abbrev yws:qc:=top 59
abbrev yvr:qc:=yq (top 60) 0
abbrev yut:qc:=yq (top 60) 2
abbrev yud:qc:=yq (top 60) 4
abbrev yv0:qc:=yq (top 65) 0
abbrev yuh:qc:=yq (top 65) 2
abbrev yvq:qc:=yq (top 65) 3
abbrev ywd:qc:=yq (top 65) 4
abbrev yu3:qc:=yq (top 68) 0
abbrev yvf:qc:=yq (top 68) 1
abbrev yw3:qc:=yq (top 68) 2
abbrev yur:qc:=yq (top 68) 3
abbrev ywk:qc:=yq (top 68) 7
abbrev yux:qc:=yq (top 68) 8
abbrev yul:qc:=yq (top 68) 9
abbrev yuu:qc:=yq (top 68) 10
abbrev yv9:qc:=top 71
abbrev ywt:qc:=top 72
abbrev yv8:qc:=yq (top 74) 0
abbrev yv2:qc:=yq (top 74) 1
abbrev yt9:qc:=yq (top 74) 2
abbrev yt7:qc:=yq (top 74) 3
abbrev yva:qc:=yq (top 74) 5
abbrev yvd:qc:=top 76
abbrev yu5:qc:=top 77
abbrev yvj:qc:=top 78
abbrev yv3:qc:=top 79
abbrev yug:qc:=top 80
abbrev yve:qc:=yq (top 82) 0
abbrev ywq:qc:=yq (top 82) 1
abbrev yua:qc:=yq (top 82) 2
abbrev yun:qc:=yq (top 82) 3
abbrev yvb:qc:=yq (top 82) 4
abbrev ywj:qc:=top 87
abbrev yu4:qc:=top 88
abbrev yuf:qc:=top 89
abbrev ywu:qc:=yq (top 90) 0
abbrev ygf:qc:=yq (top 91) 0
abbrev yub:qc:=yq (top 91) 1
abbrev ywl:qc:=yq (top 91) 2
abbrev yuy:qc:=yq (top 91) 3
abbrev yge:qc:=yq (top 91) 4
abbrev yup:qc:=yq (top 91) 5
abbrev yvs:qc:=yq (top 91) 6
abbrev yvl:qc:=yq (top 91) 7
abbrev ywe:qc:=yq (top 91) 8
abbrev yvn:qc:=yq (top 91) 9
abbrev ywy:qc:=yq (top 91) 10
abbrev ywp:qc:=yq (top 91) 11
abbrev yv7:qc:=yq (top 91) 12
abbrev yv5:qc:=yq (top 91) 13
abbrev yus:qc:=yq (top 91) 14
abbrev yt8:qc:=yq (top 91) 15
abbrev yvt:qc:=yq (top 91) 16
abbrev ywv:qc:=yq (top 91) 17
abbrev yvw:qc:=top 94
abbrev yvx:qc:=top 95
abbrev yww:qc:=top 96
abbrev yvv:qc:=top 97
abbrev ywi:qc:=yq (top 98) 0
abbrev yvh:qc:=yq (top 98) 1
abbrev yu1:qc:=yq (top 98) 2
abbrev yjy:qc:=yq (top 98) 3
abbrev ykp:qc:=yq (top 98) 4
abbrev ykw:qc:=yq (top 98) 5
abbrev yjv:qc:=yq (top 98) 6
abbrev ykj:qc:=yq (top 98) 7
abbrev yk3:qc:=top 99
abbrev yk5:qc:=top 101
abbrev yjt:qc:=top 102
abbrev yky:qc:=top 103
abbrev ykt:qc:=top 104
abbrev yk6:qc:=top 105
abbrev yk2:qc:=top 106
abbrev yks:qc:=top 107
abbrev yvc:qc:=top 108
set_option genInjectivity false in
set_option genSizeOfSpec false in
structure Ads where
 (R9 Ra Rb Rc Re Rf Rg Rh Ri K1 K2 Hz K3 K4 K5 I0 K6 K7 K8 I1 K9 Ka Kb Kc Kd Ke I2 Kg Kh Ki Kj Kk Kl Km Kn Ko Kp Kq I3 Kr Ks I4 Kt Ku Kv I5 Kw Kx Ky Kz L1 L6 L7 L8 L9 I6 La Lb Lc Ld Le Lf Lg Lh Li I7 Lj Lk I8 Ll Lm Ln Lo I9 Dv Lp Lq Lr Ls Dw Lt Lu Lv Lx Ly Lz M0 M4 M5 M6 M7 M8 M9 Ma Mb Mc Md Me Ia Mf Mg G0 Ga Gb Gc Gd Ge Gf Gg Gh Gi Gj Gk Gm Qh A9 A8 Af Ac Bq A4 A5 Ah A2 Aa A0 A3 Ib Gn At E6 Cc Fk Dz Ag Al Au Ci A6 Bk Dm Bl Br:z4)
 (Rj Rk Rl Rm Rn Ro Rp Rq Rr Mh Mi Mj Ml Mm Mn Mo Mq Mr Ms Mt Mu Mv Mw Mx My Mz N0 N2 N3 N4 N5 N6 N7 N8 N9 Na Nd Nf Ng Nh Ni Nj Nk Nl Nm Nn No Np Nq Nr Nt Nu Nv Nw Ny Nz O0 O4 O5 O6 O7 O8 O9 Oa Ob Oc Od Oe Ic Of Og Oh Oi Oj Ol Om On Oo Op Oq Os Ot Ou Ov Ow Ox Oy Oz P0 P1 P4 P5 P6 P7 P8 P9 Pa Pb Pe Gp Gq Gr Gs Gt Gu Gv Gw Gy Gz Ha Hb Hc Ie:FuncData)
 (D4 Hd Qi Cj Ck Bt C8 Cl C9 D0 Ca Cm Dn Bu Cq Bv Cr Bw Do Cb Cn:Tok)
variable{a:Ads}
structure Txt(K:z3)(mg:Ε)(a:Ads):Prop where
 If:Dff K mg "is_whole" vfv ["thing"] a.R9 a.Rj
 Rs:Dff K mg "is_bit" vfy ["thing"] a.Ra a.Rk
 Rt:Dff K mg "is_chance" vfq ["thing"] a.Rb a.Rl
 Ru:Dff K mg "is_sign" vfs ["thing"] a.Rc a.Rm
 Q4:Dff K mg "is_list_of_signs" vfw ["thing","most"] a.Re a.Rn
 Q5:Dff K mg "checked_text" vft ["thing"] a.Rf a.Ro
 Rv:Dff K mg "checked_bytes" vf4 ["thing"] a.Rg a.Rp
 Rw:Dff K mg "check_most" vfr ["thing"] a.Rh a.Rq
 Q6:Dff K mg "check_chance" vfm ["thing"] a.Ri a.Rr
 Cw:Dff K mg "check_bit" yvg ["thing"] a.K1 a.Mh
 Pf:Dff K mg "gives" yvu ["chance","bit"] a.K2 a.Mi
 E7:Dfm K a.A9 "__init__" "Even.__init__" yvm ["self"] a.Hz a.Mj
 Ig:Dfm K a.A9 "chance" "Even.chance" yuq ["self"] a.K3 a.Ml
 Ih:Dfm K a.A9 "seen" "Even.seen" ywc ["self","bit"] a.K4 a.Mm
 Ii:Dfm K a.A9 "twin" "Even.twin" yuc ["self"] a.K5 a.Mn
 E8:Dfm K a.A8 "__init__" "Quick.__init__" ywa ["self"] a.I0 a.Mo
 Ij:Dfm K a.A8 "chance" "Quick.chance" yuj ["self"] a.K6 a.Mq
 Ik:Dfm K a.A8 "seen" "Quick.seen" yu6 ["self","bit"] a.K7 a.Mr
 Il:Dfm K a.A8 "twin" "Quick.twin" yv1 ["self"] a.K8 a.Ms
 E9:Dfm K a.Af "__init__" "Run.__init__" yuz ["self"] a.I1 a.Mt
 Im:Dfm K a.Af "chance" "Run.chance" ywn ["self"] a.K9 a.Mu
 Io:Dfm K a.Af "seen" "Run.seen" yvp ["self","bit"] a.Ka a.Mv
 Ip:Dfm K a.Af "twin" "Run.twin" yuo ["self"] a.Kb a.Mw
 Pg:Dff K mg "slot_of" yu8 ["kind"] a.Kc a.Mx
 Iq:Dff K mg "written" yu2 ["number","size"] a.Kd a.My
 Ir:Dff K mg "first_block" yv4 ["low","unit"] a.Ke a.Mz
 Ea:Dfm K a.A5 "__init__" "Span.__init__" yui ["self"] a.I2 a.N0
 Eb:Dfm K a.A5 "cut" "Span.cut" ywh ["self","chance"] a.Kg a.N2
 Ec:Dfm K a.A5 "narrow" "Span.narrow" yu9 ["self","chance","bit"] a.Kh a.N3
 Is:Dfm K a.A5 "holds_block" "Span.holds_block" yuk ["self","unit"] a.Ki a.N4
 Ed:Dfm K a.A5 "told" "Span.told" yvz ["self"] a.Kj a.N5
 Ph:Dff K mg "is_kind" ywx ["thing"] a.Kk a.N6
 Pi:Dff K mg "is_place" ywm ["thing"] a.Kl a.N7
 Pj:Dff K mg "are_places" yue ["thing"] a.Km a.N8
 Iu:Dff K mg "is_look" yum ["thing"] a.Kn a.N9
 Iv:Dff K mg "checked_looks" yuv ["thing"] a.Ko a.Na
 Pk:Dff K mg "sign_back" yvo ["signs","place"] a.Kp a.Nd
 Pl:Dff K mg "context_of" yws ["look","signs","node"] a.Kq a.Nf
 Ee:Dfm K a.Ac "__init__" "Book.__init__" yvr ["self","look"] a.I3 a.Ng
 Iw:Dfm K a.Ac "slot_at" "Book.slot_at" yut ["self","signs","node"] a.Kr a.Nh
 Ix:Dfm K a.Ac "twin" "Book.twin" yud ["self"] a.Ks a.Ni
 Ef:Dfm K a.Bq "__init__" "Mixer.__init__" yv0 ["self","many"] a.I4 a.Nj
 Iy:Dfm K a.Bq "mixed" "Mixer.mixed" yuh ["self","chances"] a.Kt a.Nk
 Iz:Dfm K a.Bq "learn" "Mixer.learn" yvq ["self","chances","bit"] a.Ku a.Nl
 J0:Dfm K a.Bq "twin" "Mixer.twin" ywd ["self"] a.Kv a.Nm
 Eg:Dfm K a.A4 "__init__" "Foreteller.__init__" yu3 ["self","looks"] a.I5 a.Nn
 D5:Dfm K a.A4 "arrive" "Foreteller.arrive" yvf ["self"] a.Kw a.No
 Eh:Dfm K a.A4 "chances" "Foreteller.chances" yw3 ["self"] a.Kx a.Np
 Ei:Dfm K a.A4 "chance" "Foreteller.chance" yur ["self"] a.Ky a.Nq
 Ej:Dfm K a.A4 "see" "Foreteller.see" ywk ["self","bit"] a.Kz a.Nr
 J1:Dfm K a.A4 "step" "Foreteller.step" yux ["self","bit"] a.L1 a.Nt
 J2:Dfm K a.A4 "step_in_sign" "Foreteller.step_in_sign" yul ["self","bit"] a.L6 a.Nu
 J3:Dfm K a.A4 "fork" "Foreteller.fork" yuu ["self"] a.L7 a.Nv
 Pm:Dff K mg "bits_of" yv9 ["sign"] a.L8 a.Nw
 Pn:Dff K mg "decisions_of" ywt ["text"] a.L9 a.Ny
 Fu:Dfm K a.Ah "__init__" "Seeker.__init__" yv8 ["self","data"] a.I6 a.Nz
 Ek:Dfm K a.Ah "follow" "Seeker.follow" yv2 ["self"] a.La a.O0
 J4:Dfm K a.Ah "byte_at" "Seeker.byte_at" yt9 ["self","place"] a.Lb a.O4
 J5:Dfm K a.Ah "bit" "Seeker.bit" yt7 ["self","chance"] a.Lc a.O5
 J6:Dfm K a.Ah "told" "Seeker.told" yva ["self"] a.Ld a.O6
 J7:Dff K mg "press_by" yvd ["foreteller","text"] a.Le a.O7
 J8:Dff K mg "bit_by" yu5 ["foreteller","seeker"] a.Lf a.O8
 Po:Dff K mg "sign_by" yvj ["foreteller","seeker"] a.Lg a.O9
 Pp:Dff K mg "text_by" yv3 ["foreteller","seeker","most"] a.Lh a.Oa
 J9:Dff K mg "read_by" yug ["foreteller","data","most"] a.Li a.Ob
 Cy:Dfm K a.A2 "__init__" "Chain.__init__" yve ["self","looks"] a.I7 a.Oc
 D6:Dfm K a.A2 "grow" "Chain.grow" ywq ["self","name","text"] a.Lj a.Od
 Ja:Dfm K a.A2 "press" "Chain.press" yua ["self","name","text"] a.Lk a.Oe
 El:Dfm K a.A2 "read" "Chain.read" yun ["self","name","data","most"] a.I8 a.Ic
 Em:Dfm K a.A2 "size_with" "Chain.size_with" yvb ["self","text"] a.Ll a.Of
 Pq:Dff K mg "is_name" ywj ["thing"] a.Lm a.Og
 En:Dff K mg "checked_name" yu4 ["thing"] a.Ln a.Oh
 Pr:Dff K mg "check_base" yuf ["thing"] a.Lo a.Oi
 Eo:Dfm K a.Aa "__init__" "Piece.__init__" ywu ["self","base","data"] a.I9 a.Oj
 Sw:yle K "__init__" "Store.__init__" ygf a.Lp a.Dv a.Ol
 U8:zr K a.Ol ["self","looks","most"] [.int 1000 a.D4]
 Qj:zr K a.Ol ["self","looks","most"] []
 D7:Dfm K a.A0 "told_looks" "Store.told_looks" yub ["self"] a.Lq a.Om
 D8:Dfm K a.A0 "most_signs" "Store.most_signs" ywl ["self"] a.Lr a.On
 Ap:Dfm K a.A0 "names" "Store.names" yuy ["self"] a.Ls a.Oo
 Sy:yle K "put" "Store.put" yge a.Lt a.Dw a.Op
 U9:zr K a.Op ["self","name","text","base"] [.none]
 Jb:zr K a.Op ["self","name","text","base"] []
 Jc:yw4 K a.A0 "put" a.Dw
 Jd:Dfm K a.A0 "put_first" "Store.put_first" yup ["self","name","data","base"] a.Lu a.Oq
 Ep:Dfm K a.A0 "check_length" "Store.check_length" yvs ["self","text"] a.Lv a.Os
 Er:Dfm K a.A0 "check_room" "Store.check_room" yvl ["self","name","base"] a.Lx a.Ot
 Bx:Dfm K a.A0 "piece_at" "Store.piece_at" ywe ["self","name"] a.Ly a.Ou
 Es:Dfm K a.A0 "links_to" "Store.links_to" yvn ["self","name"] a.Lz a.Ov
 Cd:Dfm K a.A0 "chain_to" "Store.chain_to" ywy ["self","name"] a.M0 a.Ow
 Et:Dfm K a.A0 "texts_to" "Store.texts_to" ywp ["self","name"] a.M4 a.Ox
 D9:Dfm K a.A0 "text_of" "Store.text_of" yv7 ["self","name"] a.M5 a.Oy
 Be:Dfm K a.A0 "bytes_of" "Store.bytes_of" yv5 ["self","name"] a.M6 a.Oz
 Da:Dfm K a.A0 "base_of" "Store.base_of" yus ["self","name"] a.M7 a.P0
 Eu:Dfm K a.A0 "learned_of" "Store.learned_of" yt8 ["self","name"] a.M8 a.P1
 Je:Dfm K a.A0 "drop" "Store.drop" yvt ["self","name"] a.M9 a.P4
 Ev:Dfm K a.A0 "best_base" "Store.best_base" ywv ["self","text"] a.Ma a.P5
 Ps:Dff K mg "look_bytes" yvw ["look"] a.Mb a.P6
 Pt:Dff K mg "name_bytes" yvx ["name"] a.Mc a.P7
 Pu:Dff K mg "base_bytes" yww ["store","name"] a.Md a.P8
 Cz:Dff K mg "shelf_of" yvv ["store"] a.Me a.P9
 Fv:Dfm K a.A3 "__init__" "Reader.__init__" ywi ["self","data"] a.Ia a.Pa
 Av:Dfm K a.A3 "next_byte" "Reader.next_byte" yvh ["self"] a.Mf a.Pb
 Db:Dfm K a.A3 "next_part" "Reader.next_part" yu1 ["self","parts"] a.Mg a.Pe
 Ew:Dfm K a.A3 "next_look" "Reader.next_look" yjy ["self"] a.G0 a.Gp
 Ey:Dfm K a.A3 "next_store" "Reader.next_store" ykp ["self"] a.Ga a.Gq
 Ez:Dfm K a.A3 "next_name" "Reader.next_name" ykw ["self"] a.Gb a.Gr
 F0:Dfm K a.A3 "put_next" "Reader.put_next" yjv ["self","store"] a.Gc a.Gs
 F6:Dfm K a.A3 "whole_store" "Reader.whole_store" ykj ["self"] a.Gd a.Gt
 He:Dff K mg "opened" yk3 ["data"] a.Ge a.Gu
 Bi:Dff K mg "_law_mixed" yk5 ["_law_script","_law_k"] a.Gf a.Gv
 Hf:Dff K mg "_law_names" yjt ["_law_cell"] a.Gg a.Gw
 F7:Dff K mg "_law_looks" yky ["_law_script"] a.Gh a.Gy
 F8:Dff K mg "_law_text" ykt ["_law_cell","_law_more"] a.Gi a.Gz
 Hg:Dff K mg "_law_alike" yk6 ["_law_one","_law_other","_law_texts"] a.Gj a.Ha
 Dp:Dff K mg "_law_other_text" yk2 ["_law_text_here"] a.Gk a.Hb
 Hh:Dff K mg "_law_put_again" yks ["_law_other","_law_fresh","_law_texts","_law_bases"] a.Gm a.Hc
 Jf:Dff K mg "law" yvc ["_law_script"] a.Qh a.Ie
 Bm:Cls K a.A9
 Qk:mg "Even"=some (.ref a.A9)
 Ql:Mk K a.A9 a.Hz
 Ao:vn K a.A9 "noughts"
 Bf:vn K a.A9 "ones"
 Ce:Cls K a.A8
 Pv:mg "Quick"=some (.ref a.A8)
 Pw:Mk K a.A8 a.I0
 Aw:vn K a.A8 "held"
 Co:Cls K a.Af
 Sg:mg "Run"=some (.ref a.Af)
 Sh:Mk K a.Af a.I1
 By:vn K a.Af "last"
 Ax:vn K a.Af "length"
 Cp:Cls K a.Ac
 Qm:mg "Book"=some (.ref a.Ac)
 Qn:Mk K a.Ac a.I3
 C7:vn K a.Ac "look"
 Ay:vn K a.Ac "slots"
 Fw:Cls K a.Bq
 Sz:mg "Mixer"=some (.ref a.Bq)
 T0:Mk K a.Bq a.I4
 Cg:vn K a.Bq "kept"
 Ai:Cls K a.A4
 T9:mg "Foreteller"=some (.ref a.A4)
 Ta:Mk K a.A4 a.I5
 Ba:vn K a.A4 "looks"
 Bz:vn K a.A4 "books"
 C0:vn K a.A4 "mixer"
 C1:vn K a.A4 "ended"
 C4:vn K a.A4 "place"
 Az:vn K a.A4 "present"
 Ak:Cls K a.A5
 Qo:mg "Span"=some (.ref a.A5)
 Qp:Mk K a.A5 a.I2
 C5:vn K a.A5 "low"
 B0:vn K a.A5 "width"
 Bg:vn K a.A5 "size"
 C6:Cls K a.Ah
 Ua:mg "Seeker"=some (.ref a.Ah)
 Ub:Mk K a.Ah a.I6
 Ct:vn K a.Ah "data"
 Cu:vn K a.Ah "span"
 Bh:vn K a.Ah "number"
 B6:vn K a.Ah "reached"
 Aj:Cls K a.A2
 Dc:mg "Chain"=some (.ref a.A2)
 Dd:Mk K a.A2 a.I7
 An:vn K a.A2 "foreteller"
 Bb:vn K a.A2 "links"
 Bc:vn K a.A2 "texts"
 De:Cls K a.Aa
 Px:mg "Piece"=some (.ref a.Aa)
 Py:Mk K a.Aa a.I9
 Bn:vn K a.Aa "base"
 Bo:vn K a.Aa "data"
 A1:Cls K a.A0
 E4:mg "Store"=some (.ref a.A0)
 Hi:Mk K a.A0 a.Dv
 Aq:vn K a.A0 "looks"
 Bp:vn K a.A0 "most"
 B9:vn K a.A0 "pieces"
 Ar:vn K a.A0 "chain"
 A7:Cls K a.A3
 Qq:mg "Reader"=some (.ref a.A3)
 Qr:Mk K a.A3 a.Ia
 Bd:vn K a.A3 "data"
 Am:vn K a.A3 "reached"
 Uc:mg "NoText"=some (.ref a.Ib)
 Ud:mg "NoBytes"=some (.ref a.Gn)
 Qt:mg "NoMost"=some (.ref a.At)
 Ue:mg "NoChance"=some (.ref a.E6)
 Uf:mg "NoBit"=some (.ref a.Cc)
 Tb:mg "NoLooks"=some (.ref a.Fk)
 Tc:mg "NoPress"=some (.ref a.Dz)
 Qu:mg "NoName"=some (.ref a.Ag)
 Q7:mg "TooLong"=some (.ref a.Al)
 Rx:mg "Taken"=some (.ref a.Au)
 Sj:mg "Full"=some (.ref a.Ci)
 Q8:mg "NoPiece"=some (.ref a.A6)
 Ry:mg "InUse"=some (.ref a.Bk)
 Sv:mg "NoShelf"=some (.ref a.Dm)
 Td:XCls K a.Ib
 Sk:XMk K a.Ib
 Te:XCls K a.Gn
 Sl:XMk K a.Gn
 Jg:XCls K a.At
 F9:XMk K a.At
 Tf:XCls K a.E6
 Sm:XMk K a.E6
 Tg:XCls K a.Cc
 So:XMk K a.Cc
 Th:XCls K a.Fk
 Rz:XMk K a.Fk
 Ti:XCls K a.Dz
 S8:XMk K a.Dz
 Jh:XCls K a.Ag
 Fa:XMk K a.Ag
 Fx:XCls K a.Al
 Dq:XMk K a.Al
 Pz:XCls K a.Au
 Hj:XMk K a.Au
 Qv:XCls K a.Ci
 Jq:XMk K a.Ci
 Fz:XCls K a.A6
 Dr:XMk K a.A6
 Q0:XCls K a.Bk
 Hk:XMk K a.Bk
 igg:W.specialIn K (.builtin "object.__class__") "__get__"=some (some (.builtin "getset_descriptor.__get__"))
 itk:W.takesIn K (.builtin "object.__class__")=some true
 Ds:W.findIn K (.ref a.A0) "__class__"=some (some (.builtin "object.__class__"))
 Dt:W.mroIn K a.A0 (.type "object")=some true
 Bj:W.kitOne K (.ref a.A0) (.ref a.A0)=some true
 Ab:mg "isinstance"=none
 Q1:mg "int"=none
 Jr:mg "bool"=none
 Ae:mg "list"=none
 Dx:mg "all"=none
 Ad:mg "len"=none
 Ji:mg "min"=none
 Jj:mg "max"=none
 Q3:mg "str"=none
 Cv:mg "tuple"=none
 Jk:mg "zip"=none
 Fb:mg "sum"=none
 Qw:mg "any"=none
 As:mg "range"=none
 D3:mg "reversed"=none
 E5:mg "LEAST"=some (.int 32768 a.Hd)
 Dh:mg "ONE"=some (.int 16777216 a.Qi)
 Di:mg "MOST_SIGNS"=some (.int 1000 a.Cj)
 Dj:mg "MOST_BYTES"=some (.int 12000 a.Ck)
 Cs:mg "MOST_COUNTED"=some (.int 255 a.Bt)
 Fl:mg "FIRST_WIDTH"=some (.int 1099511627776 a.C8)
 Hl:mg "FIRST_SIZE"=some (.int 5 a.Cl)
 Fm:mg "LEAST_WIDTH"=some (.int 4294967296 a.C9)
 Js:mg "FARTHEST"=some (.int 8 a.D0)
 Fn:mg "MOST_PLACES"=some (.int 4 a.Ca)
 Dk:mg "MOST_LOOKS"=some (.int 6 a.Cm)
 Q9:mg "NO_SIGN"=some (.int 256 a.Dn)
 Fc:mg "FIRST_WEIGHT"=some (.int 1099511627776 a.Bu)
 Jl:mg "OWN_PARTS"=some (.int 31 a.Cq)
 Fd:mg "MOST_FIGURES"=some (.int 48 a.Bv)
 Dy:mg "NODES_END"=some (.int 256 a.Cr)
 Fe:mg "MOST_LETTERS"=some (.int 8 a.Bw)
 Du:mg "LETTERS"=some (.str "abcdefghijklmnopqrstuvwxyz" a.Do)
 Fo:mg "MOST_PIECES"=some (.int 60 a.Cb)
 Hm:mg "MOST_SHELF"=some (.int 1000000 a.Cn)
 Hn:mg "KINDS"=some (.ref a.Bl)
 Ho:∀H,SqT K H a.Bl [V.str "even",V.str "quick",V.str "run"]
 Qx:∃o,K.lookup a.Bl=some o/\o.cls=.type "tuple"/\o.dict=none
 Jm:mg "WORTHS"=some (.ref a.Br)
 Dl:∀H,SqT K H a.Br [V.int 128,V.int 64,V.int 32,V.int 16,V.int 8,V.int 4,V.int 2,V.int 1]
section
variable{P:qh}{w:qd}{K:z3}{mg:Ε}{Γ:qf}
def z5(v0 v1:V):Ι:=[("noughts",v0),("ones",v1)]
section
variable{H:Hp}{p dx:z4}{v0 v1 v:V}{P:V->Prop}{nx:Ζ}{σ:St}
section
variable(T:Txt K mg a)(hp:H p=some (.ins a.A9 dx (z5 v0 v1)))
include T hp
def ă(h:P v0):RdX K H p "noughts" P:=rdX hp T.Bm T.Ao xo h
def Ą(h:wb nx σ (upd H p (.ins a.A9 dx (z5 v v1)))):StX K H p "noughts" v nx σ:=stX hp T.Bm T.Ao lt2 jg h
def yao(h:P v1):RdX K H p "ones" P:=rdX hp T.Bm T.Bf (vz (by right) xo) h
def yal(h:wb nx σ (upd H p (.ins a.A9 dx (z5 v0 v)))):StX K H p "ones" v nx σ:=stX hp T.Bm T.Bf lt2 (vt (by right) jg) h
end
def Ċ(T:Txt K mg a)(hp:H p=some (.ins a.A9 dx []))(h:wb nx σ (upd H p (.ins a.A9 dx [("noughts",v)]))):StX K H p "noughts" v nx σ:=stX hp T.Bm T.Ao lt0 wl h
def yah(T:Txt K mg a)(hp:H p=some (.ins a.A9 dx [("noughts",v0)]))(h:wb nx σ (upd H p (.ins a.A9 dx (z5 v0 v)))):StX K H p "ones" v nx σ:=stX hp T.Bm T.Bf lt1 (vt (by right) wl) h
def į:(z5 v0 v1).lookup ("chance":Str)=none:=(vz (by right) (vz (by right) π))
def yak:(z5 v0 v1).lookup ("seen":Str)=none:=(vz (by right) (vz (by right) π))
def yan:(z5 v0 v1).lookup ("twin":Str)=none:=(vz (by right) (vz (by right) π))
end
def u5(v0:V):Ι:=[("held",v0)]
section
variable{H:Hp}{p dx:z4}{v0 v:V}{P:V->Prop}{nx:Ζ}{σ:St}
section
variable(T:Txt K mg a)(hp:H p=some (.ins a.A8 dx (u5 v0)))
include T hp
def Œ(h:P v0):RdX K H p "held" P:=rdX hp T.Ce T.Aw xo h
def ŏ(h:wb nx σ (upd H p (.ins a.A8 dx (u5 v)))):StX K H p "held" v nx σ:=stX hp T.Ce T.Aw lt1 jg h
end
def Ţ(T:Txt K mg a)(hp:H p=some (.ins a.A8 dx []))(h:wb nx σ (upd H p (.ins a.A8 dx (u5 v)))):StX K H p "held" v nx σ:=stX hp T.Ce T.Aw lt0 wl h
def Ć:(u5 v0).lookup ("chance":Str)=none:=(vz (by right) π)
def š:(u5 v0).lookup ("seen":Str)=none:=(vz (by right) π)
def Ř:(u5 v0).lookup ("twin":Str)=none:=(vz (by right) π)
end
def ï(v0 v1:V):Ι:=[("last",v0),("length",v1)]
section
variable{H:Hp}{p dx:z4}{v0 v1 v:V}{P:V->Prop}{nx:Ζ}{σ:St}
section
variable(T:Txt K mg a)(hp:H p=some (.ins a.Af dx (ï v0 v1)))
include T hp
def ycm(h:P v0):RdX K H p "last" P:=rdX hp T.Co T.By xo h
def yb3(h:wb nx σ (upd H p (.ins a.Af dx (ï v v1)))):StX K H p "last" v nx σ:=stX hp T.Co T.By lt2 jg h
def Ť(h:P v1):RdX K H p "length" P:=rdX hp T.Co T.Ax (vz (by right) xo) h
def ś(h:wb nx σ (upd H p (.ins a.Af dx (ï v0 v)))):StX K H p "length" v nx σ:=stX hp T.Co T.Ax lt2 (vt (by right) jg) h
end
def yb2(T:Txt K mg a)(hp:H p=some (.ins a.Af dx []))(h:wb nx σ (upd H p (.ins a.Af dx [("last",v)]))):StX K H p "last" v nx σ:=stX hp T.Co T.By lt0 wl h
def ŗ(T:Txt K mg a)(hp:H p=some (.ins a.Af dx [("last",v0)]))(h:wb nx σ (upd H p (.ins a.Af dx (ï v0 v)))):StX K H p "length" v nx σ:=stX hp T.Co T.Ax lt1 (vt (by right) wl) h
def ţ:(ï v0 v1).lookup ("chance":Str)=none:=(vz (by right) (vz (by right) π))
def ycc:(ï v0 v1).lookup ("seen":Str)=none:=(vz (by right) (vz (by right) π))
def yci:(ï v0 v1).lookup ("twin":Str)=none:=(vz (by right) (vz (by right) π))
end
def ybm(v0 v1:V):Ι:=[("look",v0),("slots",v1)]
section
variable{H:Hp}{p dx:z4}{v0 v1 v:V}{P:V->Prop}{nx:Ζ}{σ:St}
section
variable(T:Txt K mg a)(hp:H p=some (.ins a.Ac dx (ybm v0 v1)))
include T hp
def yae(h:P v0):RdX K H p "look" P:=rdX hp T.Cp T.C7 xo h
def Ŕ(h:P v1):RdX K H p "slots" P:=rdX hp T.Cp T.Ay (vz (by right) xo) h
def ť(h:wb nx σ (upd H p (.ins a.Ac dx (ybm v0 v)))):StX K H p "slots" v nx σ:=stX hp T.Cp T.Ay lt2 (vt (by right) jg) h
end
def yai(T:Txt K mg a)(hp:H p=some (.ins a.Ac dx []))(h:wb nx σ (upd H p (.ins a.Ac dx [("look",v)]))):StX K H p "look" v nx σ:=stX hp T.Cp T.C7 lt0 wl h
def Ŧ(T:Txt K mg a)(hp:H p=some (.ins a.Ac dx [("look",v0)]))(h:wb nx σ (upd H p (.ins a.Ac dx (ybm v0 v)))):StX K H p "slots" v nx σ:=stX hp T.Cp T.Ay lt1 (vt (by right) wl) h
def yq5{C:z4}{nm:Str}(hp:H p=some (.ins C dx (ybm v0 v1)))(n:nm∉(["look","slots"]:Τ))(h:R):MtX H p C nm R:=mtX hp rfl n h
end
def vdw(v0:V):Ι:=[("kept",v0)]
section
variable{H:Hp}{p dx:z4}{v0 v:V}{P:V->Prop}{nx:Ζ}{σ:St}
section
variable(T:Txt K mg a)(hp:H p=some (.ins a.Bq dx (vdw v0)))
include T hp
def yfk(h:P v0):RdX K H p "kept" P:=rdX hp T.Fw T.Cg xo h
def yf5(h:wb nx σ (upd H p (.ins a.Bq dx (vdw v)))):StX K H p "kept" v nx σ:=stX hp T.Fw T.Cg lt1 jg h
end
def yf4(T:Txt K mg a)(hp:H p=some (.ins a.Bq dx []))(h:wb nx σ (upd H p (.ins a.Bq dx (vdw v)))):StX K H p "kept" v nx σ:=stX hp T.Fw T.Cg lt0 wl h
def vd5{C:z4}{nm:Str}(hp:H p=some (.ins C dx (vdw v0)))(n:nm∉(["kept"]:Τ))(h:R):MtX H p C nm R:=mtX hp rfl n h
end
def zt(v0 v1 v2 v3 v4 v5:V):Ι:=[("looks",v0),("books",v1),("mixer",v2),("ended",v3),("place",v4),("present",v5)]
section
variable{H:Hp}{p dx:z4}{v0 v1 v2 v3 v4 v5 v:V}{P:V->Prop}{nx:Ζ}{σ:St}
section
variable(T:Txt K mg a)(hp:H p=some (.ins a.A4 dx (zt v0 v1 v2 v3 v4 v5)))
include T hp
def yb1(h:P v0):RdX K H p "looks" P:=rdX hp T.Ai T.Ba xo h
def yb0(h:P v1):RdX K H p "books" P:=rdX hp T.Ai T.Bz (vz (by right) xo) h
def yb6(h:wb nx σ (upd H p (.ins a.A4 dx (zt v0 v v2 v3 v4 v5)))):StX K H p "books" v nx σ:=stX hp T.Ai T.Bz lt6 (vt (by right) jg) h
def ybz(h:P v2):RdX K H p "mixer" P:=rdX hp T.Ai T.C0 (vz (by right) (vz (by right) xo)) h
def ycg(h:wb nx σ (upd H p (.ins a.A4 dx (zt v0 v1 v v3 v4 v5)))):StX K H p "mixer" v nx σ:=stX hp T.Ai T.C0 lt6 (vt (by right) (vt (by right) jg)) h
def ycj(h:P v3):RdX K H p "ended" P:=rdX hp T.Ai T.C1 (vz (by right) (vz (by right) (vz (by right) xo))) h
def yby(h:wb nx σ (upd H p (.ins a.A4 dx (zt v0 v1 v2 v v4 v5)))):StX K H p "ended" v nx σ:=stX hp T.Ai T.C1 lt6 (vt (by right) (vt (by right) (vt (by right) jg))) h
def ycl(h:P v4):RdX K H p "place" P:=rdX hp T.Ai T.C4 (vz (by right) (vz (by right) (vz (by right) (vz (by right) xo)))) h
def yb5(h:wb nx σ (upd H p (.ins a.A4 dx (zt v0 v1 v2 v3 v v5)))):StX K H p "place" v nx σ:=stX hp T.Ai T.C4 lt6 (vt (by right) (vt (by right) (vt (by right) (vt (by right) jg)))) h
def Ŗ(h:P v5):RdX K H p "present" P:=rdX hp T.Ai T.Az (vz (by right) (vz (by right) (vz (by right) (vz (by right) (vz (by right) xo))))) h
def Ŏ(h:wb nx σ (upd H p (.ins a.A4 dx (zt v0 v1 v2 v3 v4 v)))):StX K H p "present" v nx σ:=stX hp T.Ai T.Az lt6 (vt (by right) (vt (by right) (vt (by right) (vt (by right) (vt (by right) jg))))) h
end
def yb9(T:Txt K mg a)(hp:H p=some (.ins a.A4 dx []))(h:wb nx σ (upd H p (.ins a.A4 dx [("looks",v)]))):StX K H p "looks" v nx σ:=stX hp T.Ai T.Ba lt0 wl h
def ycd(T:Txt K mg a)(hp:H p=some (.ins a.A4 dx [("looks",v0)]))(h:wb nx σ (upd H p (.ins a.A4 dx [("looks",v0),("books",v)]))):StX K H p "books" v nx σ:=stX hp T.Ai T.Bz lt1 (vt (by right) wl) h
def yb7(T:Txt K mg a)(hp:H p=some (.ins a.A4 dx [("looks",v0),("books",v1)]))(h:wb nx σ (upd H p (.ins a.A4 dx [("looks",v0),("books",v1),("mixer",v)]))):StX K H p "mixer" v nx σ:=stX hp T.Ai T.C0 lt2 (vt (by right) (vt (by right) wl)) h
def yb8(T:Txt K mg a)(hp:H p=some (.ins a.A4 dx [("looks",v0),("books",v1),("mixer",v2)]))(h:wb nx σ (upd H p (.ins a.A4 dx [("looks",v0),("books",v1),("mixer",v2),("ended",v)]))):StX K H p "ended" v nx σ:=stX hp T.Ai T.C1 lt3 (vt (by right) (vt (by right) (vt (by right) wl))) h
def yb4(T:Txt K mg a)(hp:H p=some (.ins a.A4 dx [("looks",v0),("books",v1),("mixer",v2),("ended",v3)]))(h:wb nx σ (upd H p (.ins a.A4 dx [("looks",v0),("books",v1),("mixer",v2),("ended",v3),("place",v)]))):StX K H p "place" v nx σ:=stX hp T.Ai T.C4 lt4 (vt (by right) (vt (by right) (vt (by right) (vt (by right) wl)))) h
def Ś(T:Txt K mg a)(hp:H p=some (.ins a.A4 dx [("looks",v0),("books",v1),("mixer",v2),("ended",v3),("place",v4)]))(h:wb nx σ (upd H p (.ins a.A4 dx (zt v0 v1 v2 v3 v4 v)))):StX K H p "present" v nx σ:=stX hp T.Ai T.Az lt5 (vt (by right) (vt (by right) (vt (by right) (vt (by right) (vt (by right) wl))))) h
def veg{C:z4}{nm:Str}(hp:H p=some (.ins C dx (zt v0 v1 v2 v3 v4 v5)))(n:nm∉(["looks","books","mixer","ended","place","present"]:Τ))(h:R):MtX H p C nm R:=mtX hp rfl n h
end
def ylf(v0 v1 v2 v3:V):Ι:=[("data",v0),("span",v1),("number",v2),("reached",v3)]
section
variable{H:Hp}{p dx:z4}{v0 v1 v2 v3 v:V}{P:V->Prop}{nx:Ζ}{σ:St}
section
variable(T:Txt K mg a)(hp:H p=some (.ins a.Ah dx (ylf v0 v1 v2 v3)))
include T hp
def yfv(h:P v0):RdX K H p "data" P:=rdX hp T.C6 T.Ct xo h
def yfo(h:P v1):RdX K H p "span" P:=rdX hp T.C6 T.Cu (vz (by right) xo) h
def yaj(h:P v2):RdX K H p "number" P:=rdX hp T.C6 T.Bh (vz (by right) (vz (by right) xo)) h
def yam(h:wb nx σ (upd H p (.ins a.Ah dx (ylf v0 v1 v v3)))):StX K H p "number" v nx σ:=stX hp T.C6 T.Bh lt4 (vt (by right) (vt (by right) jg)) h
def ş(h:P v3):RdX K H p "reached" P:=rdX hp T.C6 T.B6 (vz (by right) (vz (by right) (vz (by right) xo))) h
def ō(h:wb nx σ (upd H p (.ins a.Ah dx (ylf v0 v1 v2 v)))):StX K H p "reached" v nx σ:=stX hp T.C6 T.B6 lt4 (vt (by right) (vt (by right) (vt (by right) jg))) h
end
def yf7(T:Txt K mg a)(hp:H p=some (.ins a.Ah dx []))(h:wb nx σ (upd H p (.ins a.Ah dx [("data",v)]))):StX K H p "data" v nx σ:=stX hp T.C6 T.Ct lt0 wl h
def yf6(T:Txt K mg a)(hp:H p=some (.ins a.Ah dx [("data",v0)]))(h:wb nx σ (upd H p (.ins a.Ah dx [("data",v0),("span",v)]))):StX K H p "span" v nx σ:=stX hp T.C6 T.Cu lt1 (vt (by right) wl) h
def yag(T:Txt K mg a)(hp:H p=some (.ins a.Ah dx [("data",v0),("span",v1)]))(h:wb nx σ (upd H p (.ins a.Ah dx [("data",v0),("span",v1),("number",v)]))):StX K H p "number" v nx σ:=stX hp T.C6 T.Bh lt2 (vt (by right) (vt (by right) wl)) h
def ř(T:Txt K mg a)(hp:H p=some (.ins a.Ah dx [("data",v0),("span",v1),("number",v2)]))(h:wb nx σ (upd H p (.ins a.Ah dx (ylf v0 v1 v2 v)))):StX K H p "reached" v nx σ:=stX hp T.C6 T.B6 lt3 (vt (by right) (vt (by right) (vt (by right) wl))) h
def vd9{C:z4}{nm:Str}(hp:H p=some (.ins C dx (ylf v0 v1 v2 v3)))(n:nm∉(["data","span","number","reached"]:Τ))(h:R):MtX H p C nm R:=mtX hp rfl n h
end
def jw(v0 v1 v2:V):Ι:=[("foreteller",v0),("links",v1),("texts",v2)]
section
variable{H:Hp}{p dx:z4}{v0 v1 v2 v:V}{P:V->Prop}{nx:Ζ}{σ:St}
section
variable(T:Txt K mg a)(hp:H p=some (.ins a.A2 dx (jw v0 v1 v2)))
include T hp
def χ(h:P v0):RdX K H p "foreteller" P:=rdX hp T.Aj T.An xo h
def İ(h:P v1):RdX K H p "links" P:=rdX hp T.Aj T.Bb (vz (by right) xo) h
def ı(h:P v2):RdX K H p "texts" P:=rdX hp T.Aj T.Bc (vz (by right) (vz (by right) xo)) h
end
def υ(T:Txt K mg a)(hp:H p=some (.ins a.A2 dx []))(h:wb nx σ (upd H p (.ins a.A2 dx [("foreteller",v)]))):StX K H p "foreteller" v nx σ:=stX hp T.Aj T.An lt0 wl h
def Ĳ(T:Txt K mg a)(hp:H p=some (.ins a.A2 dx [("foreteller",v0)]))(h:wb nx σ (upd H p (.ins a.A2 dx [("foreteller",v0),("links",v)]))):StX K H p "links" v nx σ:=stX hp T.Aj T.Bb lt1 (vt (by right) wl) h
def ī(T:Txt K mg a)(hp:H p=some (.ins a.A2 dx [("foreteller",v0),("links",v1)]))(h:wb nx σ (upd H p (.ins a.A2 dx (jw v0 v1 v)))):StX K H p "texts" v nx σ:=stX hp T.Aj T.Bc lt2 (vt (by right) (vt (by right) wl)) h
def ynt{C:z4}{nm:Str}(hp:H p=some (.ins C dx (jw v0 v1 v2)))(n:nm∉(["foreteller","links","texts"]:Τ))(h:R):MtX H p C nm R:=mtX hp rfl n h
end
def ĝ(v0 v1:V):Ι:=[("base",v0),("data",v1)]
section
variable{H:Hp}{p dx:z4}{v0 v1 v:V}{P:V->Prop}{nx:Ζ}{σ:St}
section
variable(T:Txt K mg a)(hp:H p=some (.ins a.Aa dx (ĝ v0 v1)))
include T hp
def ŝ(h:P v0):RdX K H p "base" P:=rdX hp T.De T.Bn xo h
def œ(h:P v1):RdX K H p "data" P:=rdX hp T.De T.Bo (vz (by right) xo) h
end
def ŕ(T:Txt K mg a)(hp:H p=some (.ins a.Aa dx []))(h:wb nx σ (upd H p (.ins a.Aa dx [("base",v)]))):StX K H p "base" v nx σ:=stX hp T.De T.Bn lt0 wl h
def Š(T:Txt K mg a)(hp:H p=some (.ins a.Aa dx [("base",v0)]))(h:wb nx σ (upd H p (.ins a.Aa dx (ĝ v0 v)))):StX K H p "data" v nx σ:=stX hp T.De T.Bo lt1 (vt (by right) wl) h
end
def vy(v0 v1 v2 v3:V):Ι:=[("looks",v0),("most",v1),("pieces",v2),("chain",v3)]
section
variable{H:Hp}{p dx:z4}{v0 v1 v2 v3 v:V}{P:V->Prop}{nx:Ζ}{σ:St}
section
variable(T:Txt K mg a)(hp:H p=some (.ins a.A0 dx (vy v0 v1 v2 v3)))
include T hp
def Ķ(h:P v0):RdX K H p "looks" P:=rdX hp T.A1 T.Aq xo h
def Ŝ(h:P v1):RdX K H p "most" P:=rdX hp T.A1 T.Bp (vz (by right) xo) h
def ą(h:P v2):RdX K H p "pieces" P:=rdX hp T.A1 T.B9 (vz (by right) (vz (by right) xo)) h
def ĭ(h:P v3):RdX K H p "chain" P:=rdX hp T.A1 T.Ar (vz (by right) (vz (by right) (vz (by right) xo))) h
def Ĵ(h:wb nx σ (upd H p (.ins a.A0 dx (vy v0 v1 v2 v)))):StX K H p "chain" v nx σ:=stX hp T.A1 T.Ar lt4 (vt (by right) (vt (by right) (vt (by right) jg))) h
end
def Ĭ(T:Txt K mg a)(hp:H p=some (.ins a.A0 dx []))(h:wb nx σ (upd H p (.ins a.A0 dx [("looks",v)]))):StX K H p "looks" v nx σ:=stX hp T.A1 T.Aq lt0 wl h
def Ő(T:Txt K mg a)(hp:H p=some (.ins a.A0 dx [("looks",v0)]))(h:wb nx σ (upd H p (.ins a.A0 dx [("looks",v0),("most",v)]))):StX K H p "most" v nx σ:=stX hp T.A1 T.Bp lt1 (vt (by right) wl) h
def ć(T:Txt K mg a)(hp:H p=some (.ins a.A0 dx [("looks",v0),("most",v1)]))(h:wb nx σ (upd H p (.ins a.A0 dx [("looks",v0),("most",v1),("pieces",v)]))):StX K H p "pieces" v nx σ:=stX hp T.A1 T.B9 lt2 (vt (by right) (vt (by right) wl)) h
def ĳ(T:Txt K mg a)(hp:H p=some (.ins a.A0 dx [("looks",v0),("most",v1),("pieces",v2)]))(h:wb nx σ (upd H p (.ins a.A0 dx (vy v0 v1 v2 v)))):StX K H p "chain" v nx σ:=stX hp T.A1 T.Ar lt3 (vt (by right) (vt (by right) (vt (by right) wl))) h
def ylm{C:z4}{nm:Str}(hp:H p=some (.ins C dx (vy v0 v1 v2 v3)))(n:nm∉(["looks","most","pieces","chain"]:Τ))(h:R):MtX H p C nm R:=mtX hp rfl n h
def ymh(T:Txt K mg a)(hp:H p=some (.ins a.A0 dx (vy v0 v1 v2 v3))):xt K H (.ref p) (.ref a.A0):=.ins hp T.A1 T.Ds T.igg T.itk T.Dt
end
def za(v0 v1:V):Ι:=[("data",v0),("reached",v1)]
section
variable{H:Hp}{p dx:z4}{v0 v1 v:V}{P:V->Prop}{nx:Ζ}{σ:St}
section
variable(T:Txt K mg a)(hp:H p=some (.ins a.A3 dx (za v0 v1)))
include T hp
def ĵ(h:P v0):RdX K H p "data" P:=rdX hp T.A7 T.Bd xo h
def Þ(h:P v1):RdX K H p "reached" P:=rdX hp T.A7 T.Am (vz (by right) xo) h
def ß(h:wb nx σ (upd H p (.ins a.A3 dx (za v0 v)))):StX K H p "reached" v nx σ:=stX hp T.A7 T.Am lt2 (vt (by right) jg) h
end
def ķ(T:Txt K mg a)(hp:H p=some (.ins a.A3 dx []))(h:wb nx σ (upd H p (.ins a.A3 dx [("data",v)]))):StX K H p "data" v nx σ:=stX hp T.A7 T.Bd lt0 wl h
def à(T:Txt K mg a)(hp:H p=some (.ins a.A3 dx [("data",v0)]))(h:wb nx σ (upd H p (.ins a.A3 dx (za v0 v)))):StX K H p "reached" v nx σ:=stX hp T.A7 T.Am lt1 (vt (by right) wl) h
def yha{C:z4}{nm:Str}(hp:H p=some (.ins C dx (za v0 v1)))(n:nm∉(["data","reached"]:Τ))(h:R):MtX H p C nm R:=mtX hp rfl n h
end
local macro_rules | `(tactic| walk_at "f1")=>`(tactic| first
 | fail "1 ă yao Œ ycm Ť yae Ŕ yfk yb1 yb0 ybz ycj ycl Ŗ yfv yfo yaj ş χ İ ı ŝ œ Ķ Ŝ ą ĭ ĵ Þ")
local macro_rules | `(tactic| walk_at "f2")=>`(tactic| first
 | fail "1 Ą Ċ yal yah ŏ Ţ yb3 yb2 ś ŗ yai ť Ŧ yf5 yf4 yb9 yb6 ycd ycg yb7 yby yb8 yb5 yb4 Ŏ Ś yf7 yf6 yam yag ō ř υ Ĳ ī ŕ Š Ĭ Ő ć Ĵ ĳ ķ ß à")
local macro_rules | `(tactic| walk_at "f3")=>`(tactic| first
 | fail "3 yq5 vd5 veg vd9 ynt ylm yha")
local macro_rules | `(tactic| walk_at "rd1")=>`(tactic| first | ((with_reducible refine gRd ?_); walk_at "f1") | ((with_reducible refine gSt ?_); walk_at "f2") | ((with_reducible refine gMt ?_); walk_at "f3"))
open SpanMath
def But(p:z4)(H H':Hp):Prop:=∀b o,H b=some o->b≠p->H' b=some o
def But.refl{p:z4}{H:Hp}:But p H H:=λZ Z h Z=>h
def But.of{p:z4}{H H':Hp}(s:yw H H'):But p H H':=λb o h Z=>s b o h
def But.trans{p:z4}{H H1 H2:Hp}(x:But p H H1)(y:But p H1 H2):But p H H2:=λb o h n=>y b o (x b o h n) n
theorem But.upd{p:z4}{H:Hp}{o:HO}:But p H (L2.upd H p o):=λb u h n=>by rw[yk n];exact h
theorem But.lst{p l C dx:z4}{fs:Ι}{H H':Hp}{xs:Υ}(e:But p H H')(hp:H p=some (.ins C dx fs))(h:H l=some (.lst xs)):H' l=some (.lst xs):=e _ _ h (ww h hp (by intro z;cases z))
def zv{x:V}(h:τ x=true):∃i,x=.int i:=by
 cases x with
 |int i=>exists i,rfl
 |_=>cases h
def û:V->Bool
 | .int i=>decide (0<=i) && decide (i<=1)
 |_=>false
def chV:V->Bool
 | .int i=>decide (32768<=i) && decide (i<=16744448)
 |_=>false
inductive yxg(K:z3)(vs:Υ)(H:Hp)(Q:VK)(E':XK):Prop
 |mk(x n:_)(_:vs=[x])(_:xt K H x (.type n))(_:Q (.bl (τ x)) H)
def j5(x:Sn):Ι:=[("low",.int x.1),("width",.int x.2.1),("size",.int x.2.2)]
def nWL:¬(("width":Str)="low"):=by right
def nLW:¬(("low":Str)="width"):=by right
def nSL:¬(("size":Str)="low"):=by right
def nLS:¬(("low":Str)="size"):=by right
def nSW:¬(("size":Str)="width"):=by right
def nWS:¬(("width":Str)="size"):=by right
def lkL(x:Sn):(j5 x).lookup ("low":Str)=some (.int x.1):=xo
def lkW(x:Sn):(j5 x).lookup ("width":Str)=some (.int x.2.1):=vz nWL xo
def lkS(x:Sn):(j5 x).lookup ("size":Str)=some (.int x.2.2):=vz nSL (vz nSW xo)
def lkN(x:Sn){m:Str}(h1:¬m="low")(h2:¬m="width")(h3:¬m="size"):(j5 x).lookup m=none:=vz h1 (vz h2 (vz h3 π))
def pfL(x:Sn)(v:Int):μ "low" (.int v) (j5 x)=j5 (v,x.2.1,x.2.2):=jg
def pfW(x:Sn)(v:Int):μ "width" (.int v) (j5 x)=j5 (x.1,v,x.2.2):=vt nLW jg
def pfS(x:Sn)(v:Int):μ "size" (.int v) (j5 x)=j5 (x.1,x.2.1,v):=vt nLS (vt nWS jg)
section
variable{H:Hp}{p dx:z4}{x:Sn}{P:V->Prop}{nx:Ζ}{σ:St}{v:Int}
def rdL(T:Txt K mg a)(hp:H p=some (.ins a.A5 dx (j5 x)))(h:P (.int x.1)):
  ∃a' C dx fs v,V.ref p=.ref a'/\H a'=some (.ins C dx fs)/\Cls K C/\vn K C "low"/\fs.lookup ("low":Str)=some v/\P v:=⟨p,_,dx,_,_,rfl,hp,T.Ak,T.C5,lkL x,h⟩
def rdW(T:Txt K mg a)(hp:H p=some (.ins a.A5 dx (j5 x)))(h:P (.int x.2.1)):
  ∃a' C dx fs v,V.ref p=.ref a'/\H a'=some (.ins C dx fs)/\Cls K C/\vn K C "width"/\fs.lookup ("width":Str)=some v/\P v:=⟨p,_,dx,_,_,rfl,hp,T.Ak,T.B0,lkW x,h⟩
def rdS(T:Txt K mg a)(hp:H p=some (.ins a.A5 dx (j5 x)))(h:P (.int x.2.2)):
  ∃a' C dx fs v,V.ref p=.ref a'/\H a'=some (.ins C dx fs)/\Cls K C/\vn K C "size"/\fs.lookup ("size":Str)=some v/\P v:=⟨p,_,dx,_,_,rfl,hp,T.Ak,T.Bg,lkS x,h⟩
def vhf(T:Txt K mg a)(hp:H p=some (.ins a.A5 dx (j5 x)))(h:wb nx σ (upd H p (.ins a.A5 dx (j5 (v,x.2.1,x.2.2))))):
  ∃a' C dx fs,V.ref p=.ref a'/\H a'=some (.ins C dx fs)/\Cls K C/\vn K C "low"/\fs.length<1000/\wb nx σ (upd H a' (.ins C dx (μ "low" (.int v) fs))):=⟨p,_,dx,j5 x,rfl,hp,T.Ak,T.C5,by show 3<1000;decide,by rw[pfL];exact h⟩
def vha(T:Txt K mg a)(hp:H p=some (.ins a.A5 dx (j5 x)))(h:wb nx σ (upd H p (.ins a.A5 dx (j5 (x.1,v,x.2.2))))):
  ∃a' C dx fs,V.ref p=.ref a'/\H a'=some (.ins C dx fs)/\Cls K C/\vn K C "width"/\fs.length<1000/\wb nx σ (upd H a' (.ins C dx (μ "width" (.int v) fs))):=⟨p,_,dx,j5 x,rfl,hp,T.Ak,T.B0,by show 3<1000;decide,by rw[pfW];exact h⟩
def vgx(T:Txt K mg a)(hp:H p=some (.ins a.A5 dx (j5 x)))(h:wb nx σ (upd H p (.ins a.A5 dx (j5 (x.1,x.2.1,v))))):
  ∃a' C dx fs,V.ref p=.ref a'/\H a'=some (.ins C dx fs)/\Cls K C/\vn K C "size"/\fs.length<1000/\wb nx σ (upd H a' (.ins C dx (μ "size" (.int v) fs))):=⟨p,_,dx,j5 x,rfl,hp,T.Ak,T.Bg,by show 3<1000;decide,by rw[pfS];exact h⟩
end
set_option hygiene true in
local macro_rules | `(tactic| walk_at "rd1")=>`(tactic| first
 | fail "1 rdL rdW rdS vhf vha"
 | (with_reducible refine' vgx (by assumption) ?rdh ?_; (case rdh=>first | assumption | exact ya)))
inductive Slt where
 |ev (n o:Int)
 |qk (h:Int)
 |rn (l n:Int)
abbrev _root_.Α:=Nat->qi Int->qj Slt
def Slt.ok:Slt->Prop
 | .ev n o=>0<=n/\0<=o/\n+o<=255
 | .qk h=>32768<=h/\h<=16744448
 | .rn l n=>0<=l/\l<=1/\0<=n/\n<=255
def ó(n:Int):Int:=(2*n+1)*16777216/(2*n+2)
def Slt.due:Slt->Int
 | .ev n o=>(2*o+1)*16777216/(2*(n+o)+2)
 | .qk h=>h
 | .rn l n=>if l=1 then ó n else 16777216-ó n
def yda(n o:Int):Slt:=if 255<n+o then .ev ((n+1)/2) ((o+1)/2)else .ev n o
def yek(m:Int):Int:=if 16744448<(if 32768 > m then 32768 else m)then 16744448 else (if 32768 > m then 32768 else m)
def Slt.see:Slt->Int->Slt
 | .ev n o,b=>if b=1 then yda n (o+1)else yda (n+1) o
 | .qk h,b=>.qk (yek (if b=1 then h+(16777216-h)/16 else h-h/16))
 | .rn l n,b=>if b=l then .rn l (if 255<n+1 then 255 else n+1)else .rn b 1
def oS(a:Ads)(dx:z4):Slt->HO
 | .ev n o=>.ins a.A9 dx (z5 (.int n) (.int o))
 | .qk h=>.ins a.A8 dx (u5 (.int h))
 | .rn l n=>.ins a.Af dx (ï (.int l) (.int n))
def ydn{n o:Int}(h1:0<=n)(h2:0<=o)(h3:n+o<=256):(yda n o).ok:=by
 unfold yda
 split
 .exists by omega,(),()
 .exists h1,h2,()
def yhc(m:Int):32768<=yek m/\yek m<=16744448:=by
 unfold yek
 split<;>split<;>omega
def Slt.see_ok{s:Slt}{b:Int}(h:s.ok)(b0:0<=b)(b1:b<=1):(s.see b).ok:=by
 cases s with
 |ev n o =>
  let⟨a,c,d⟩:=h;unfold Slt.see;dsimp only
  split
  .exact ydn a () ()
  .exact ydn () c ()
 |qk h0=>exact yhc _
 |rn l n =>
  let⟨a,c,d,e⟩:=h;unfold Slt.see;dsimp only
  split
  .refine⟨a,c,?_,?_⟩<;>split<;>omega
  .exists b0,b1,∅,∅
def kdS:Fin 3->Str
 |0=>"even"
 |1=>"quick"
 |2=>"run"
def kd0:Fin 3->Slt
 |0=>.ev 0 0
 |1=>.qk 8388608
 |2=>.rn 1 0
def yox(k:Fin 3):(kd0 k).ok:=by
 match k with
 |0=>exists by decide,∅,∅
 |1=>exists by decide,∅
 |2=>exists by decide,∅,∅,∅
def vbp{b:Int}(b0:0<=b)(b1:b<=1):û (.int b)=true:=by simp only[û,cR,decide_eq_true_eq];omega
def yew{x:V}(h:û x=true):∃b:Int,x=.int b/\0<=b/\b<=1:=by
 cases x with
 |int i =>
  simp only[û,cR,decide_eq_true_eq]at h;exact⟨i,rfl,h.1,h.2⟩
 |_=>cases h
inductive ū(C:z4)(F:Ι)(vs:Υ)(H:Hp)(Q:VK)(E':XK):Prop
 |mk(p dx:z4)(_:vs=[.ref p])(_:H p=some (.ins C dx []))(_:∀H',H' p=some (.ins C dx F)->But p H H'->Q .non H')
inductive uw(o:z4->Slt->HO)(g:Slt->Prop)(vs:Υ)(H:Hp)(Q:VK)(E':XK):Prop
 |mk(p dx:z4)(s:Slt)(_:vs=[.ref p])(_:g s)(_:s.ok)(_:H p=some (o dx s))(_:Q (.int s.due) H)
inductive ζ(K:z3)(o:z4->Slt->HO)(g:Slt->Prop)(C:z4)(vs:Υ)(H:Hp)(Q:VK)(E:XK):Prop
 |mk(p dx:z4)(s:Slt)(x:V)(n:String)(_:vs=[.ref p,x])(_:g s)(_:s.ok)(_:H p=some (o dx s))(_:xt K H x (.type n))(_:(∀b:Int,x=.int b->0<=b->b<=1->∀H',H' p=some (o dx (s.see b))->But p H H'->Q .non H'))(_:(û x=false->E (.ref C) none H))
def yxc:Slt->Prop
 | .ev _ _=>True
 |_=>False
def yxd:Slt->Prop
 | .qk _=>True
 |_=>False
def yxf:Slt->Prop
 | .rn _ _=>True
 |_=>False
def ŋ(bs:Ρ):Prop:=∀b∈bs,0<=b/\b<=1
def xu{n:Nat}(h:n<=16000000):n<=sizeLine:=de h ∅
def vi{n:Nat}(h:n<=16000000):n<sizeLine:=Nat.lt_of_le_of_lt h ∅
def Ú{ns:Ρ}{x:V}(h:(ns.map V.int)[i]?=some x):∃n,x=.int n/\n∈ns/\ns[i]?=some n/\i<ns.length:=by
 rw[cu]at h
 cases e:ns[i]? with
 |none=>rw[e]at h;cases h
 |some n =>
  rw[e]at h
  have a:i<ns.length:=by
   rcases Nat.lt_or_ge i ns.length with q|q
   .exact q
   .rw[df q]at e;cases e
  exists n,(cL h).symm,cB e,rfl,a
def zu{l:Ρ}{q:Int}(h:l[i]?=some q):l.take (i+1)=l.take i++[q]:=by rw[List.take_add_one,h];rfl
def ym9{ys:Ρ}(h1:ŋ xs)(h2:ŋ ys):ŋ (xs++ys):=λb a=>by
 rcases cQ.mp a with h|h
 .exact h1 b h
 .exact h2 b h
def yh4(c:Int)(n:Nat):(List.replicate n [V.int c]).flatten=(List.replicate n c).map V.int:=by
 induction n with
 |zero=>rfl
 |succ n ih=>rw[dw,List.flatten_cons,ih,dw];rfl
def yqw(sg:Ρ)(p:Int):Int:=if p<=sg.length then (atI sg (-p)).getD 256 else 256
def ytu{α β:Type}(f:α->β)(xs:qi α)(i:Int):atI (xs.map f) i=(atI xs i).map f:=by
 unfold atI;rw[bI]
 cases ixN xs.length i with
 |none=>rfl
 |some j =>
  show (xs.map f)[j]?=(xs[j]?).map f;rw[cu]
def ynk{sg:Ρ}{p:Int}(h1:1<=p)(h2:p<=sg.length):∃c,atI sg (-p)=some c/\c∈sg:=by
 unfold atI ixN;rw[if_neg ()];by_cases h:-(sg.length:Int)<= -p
 .rw[if_pos ()];have a:((-p+(sg.length:Int)).toNat)<sg.length:=()
  exists _,ci a,cU a
 .omega
def Slt.kind:Slt->Fin 3
 | .ev _ _=>0
 | .qk _=>1
 | .rn _ _=>2
def ymm(s:Slt)(b:Int):(s.see b).kind=s.kind:=by
 cases s with
 |ev n o =>
  unfold Slt.see yda;dsimp only
  split<;>split<;>rfl
 |qk h=>rfl
 |rn l n =>
  unfold Slt.see;dsimp only
  split<;>rfl
def ynm(k:Fin 3):(kd0 k).kind=k:=by
 match k with
 |0=>rfl
 |1=>rfl
 |2=>rfl
def ρ(a:Ads)(dx:z4)(s:Slt):∃C fs,oS a dx s=.ins C dx fs:=by cases s<;>exact⟨_,_,rfl⟩
def yet{s:Slt}(h:s.ok):32768<=s.due/\s.due<=16744448:=by
 cases s with
 |ev n o =>
  let⟨c,b,d⟩:=h;unfold Slt.due;dsimp only;have a:(0:Int)<2*(n+o)+2:=()
  constructor
  .rw[Int.le_ediv_iff_mul_le a];omega
  .have:(2*o+1)*16777216/(2*(n+o)+2)<16744449:=by
    rw[Int.ediv_lt_iff_lt_mul a];omega
   omega
 |qk h0=>exact h
 |rn l n =>
  let⟨c,b,d,e⟩:=h;have a:(0:Int)<2*n+2:=()
  have g1:8388608<=ó n:=by
   unfold ó;rw[Int.le_ediv_iff_mul_le a];omega
  have g2:ó n<16744449:=by
   unfold ó;rw[Int.ediv_lt_iff_lt_mul a];omega
  unfold Slt.due;dsimp only
  split<;>omega
def yhb{p dx:z4}{s:Slt}{ta:TE}{σ:St}{H:Hp}{Q:VK}{E1 E2 E3:XK}(hta:∀Q':VK,Q' (.ref p) H->ta σ H Q')(hp:H p=some (oS a dx s))(ok:s.ok)(h:Q (.int s.due) H):
  yn3 (ĸ a.A9 "chance" (uw (oS a) yxc) [] E1 ta ylc) (yn3 (ĸ a.A8 "chance" (uw (oS a) yxd) [] E2 ta ylc) (ĸ a.Af "chance" (uw (oS a) yxf) [] E3 ta ylc)) σ H Q:=by
 cases s with
 |ev n o=>exact ο (Ħ (hta _ ⟨p,dx,_,rfl,hp,į,p,dx,.ev n o,rfl,trivial,ok,hp,h⟩))
 |qk h0=>exact zy (ο (Ħ (hta _ ⟨p,dx,_,rfl,hp,Ć,p,dx,.qk h0,rfl,trivial,ok,hp,h⟩)))
 |rn l n=>exact zy (zy (Ħ (hta _ ⟨p,dx,_,rfl,hp,ţ,p,dx,.rn l n,rfl,trivial,ok,hp,h⟩)))
def ytw{p dx:z4}{s:Slt}{ta:TE}{t:TA}{σ:St}{H:Hp}{Q:VK}{E1 E2 E3:St->XK}{x:V}{n:String}(hta:∀Q':VK,Q' (.ref p) H->ta σ H Q')(ht:∀Q':qi V->Hp->Prop,Q' [x] H->t σ H Q')(hp:H p=some (oS a dx s))(ok:s.ok)(ty:xt K H x (.type n))
  (h:∀b:Int,x=.int b->0<=b->b<=1->∀H',H' p=some (oS a dx (s.see b))->But p H H'->Q .non H') (h1:û x=false->E1 σ (.ref a.Cc) none H) (h2:û x=false->E2 σ (.ref a.Cc) none H) (h3:û x=false->E3 σ (.ref a.Cc) none H):
  yn3 (ybg a.A9 "seen" (ζ K (oS a) yxc a.Cc) [] E1 ta t) (yn3 (ybg a.A8 "seen" (ζ K (oS a) yxd a.Cc) [] E2 ta t) (ybg a.Af "seen" (ζ K (oS a) yxf a.Cc) [] E3 ta t)) σ H Q:=by
 cases s with
 |ev n o=>exact ο (ŷ (hta _ ⟨p,dx,_,rfl,hp,yak,ht _ ⟨p,dx,.ev n o,x,_,rfl,trivial,ok,hp,ty,h,h1⟩⟩))
 |qk h0=>exact zy (ο (ŷ (hta _ ⟨p,dx,_,rfl,hp,š,ht _ ⟨p,dx,.qk h0,x,_,rfl,trivial,ok,hp,ty,h,h2⟩⟩)))
 |rn l n=>exact zy (zy (ŷ (hta _ ⟨p,dx,_,rfl,hp,ycc,ht _ ⟨p,dx,.rn l n,x,_,rfl,trivial,ok,hp,ty,h,h3⟩⟩)))
def vaf{x:Sn}{c b:Int}(h:Ok x):(nar x c b).2.2<=x.2.2+2:=by
 unfold nar ren;have:=h.z
 (repeat' split)<;>(dsimp only;omega)
abbrev tMx:Nat:=100000
def ydj{k:Nat}(h:k<=6):pw k<=281474976710656:=Int.le_trans (yjn h) ∅
def yl5(xs:Ρ)(y:Int):xs.map V.int++[V.int y]=(xs++[y]).map V.int:=by simp
def ytz(xs:Ρ):(xs.map V.int).reverse=xs.reverse.map V.int:=by simp
def gvv(c b:Int):Int:=if b=1 then c else 16777216-c
def yct{x:V}(h:chV x=true):∃c,x=.int c/\32768<=c/\c<=16744448:=by
 cases x with
 |int i =>
  simp only[chV,cR,decide_eq_true_eq]at h;exact⟨i,rfl,h.1,h.2⟩
 |_=>cases h
def ydq{x:V}(h:û x=true):∃b,x=.int b/\0<=b/\b<=1:=by
 cases x with
 |int i =>
  simp only[û,cR,decide_eq_true_eq]at h;exact⟨i,rfl,h.1,h.2⟩
 |_=>cases h
def yev{c:Int}(h:Ch c):chV (.int c)=true:=by let⟨a,b⟩:=h;simp only[chV,cR,decide_eq_true_eq];omega
def yc5{b:Int}(h1:0<=b)(h2:b<=1):û (.int b)=true:=by simp only[û,cR,decide_eq_true_eq];omega
def Ň{H H':Hp}{v:V}{n:String}(S:yw H H')(t:xt K H v (.type n)):xt K H' v (.type n):=by
 cases t with
 |non=>exact .non
 |bl b=>exact .bl b
 |int i=>exact .int i
 |str x=>exact .str x
 |flt x=>exact .flt x
 |lst e=>exact .lst (S _ _ e)
 |frz e=>exact .frz (S _ _ e)
 |tup e=>exact .tup (S _ _ e)
 |dK e=>exact .dK (S _ _ e)
 |dT e=>exact .dT (S _ _ e)
def sgV:V->Bool
 | .int i=>decide (0<=i) && decide (i<=255)
 |_=>false
def yny(K:z3)(H:Hp)(xs:Υ):Prop:=∀y∈xs,∃k:String,xt K H y (.type k)
def ä{H:Hp}(ns:Ρ):yny K H (ns.map V.int):=λy a=>by
 let⟨i,_,rfl⟩:=cn.mp a;exists _,.int i
def Bad(K:z3)(H:Hp)(x:V)(n:String)(m:Int):Prop:=n≠"list"\/∃p xs,x=.ref p/\H p=some (.lst xs)/\yny K H xs/\xs.length<=100000/\(decide ((xs.length:Int)<=m) && xs.all sgV)=false
def vdr(K:z3)(H:Hp)(x:V)(xs:Υ)(m:Int):Prop:=∃p,x=.ref p/\H p=some (.lst xs)/\yny K H xs/\xs.length<=100000/\(decide ((xs.length:Int)<=m) && xs.all sgV)=true
def ytl{H:Hp}{x:V}{n:String}(ty:xt K H x (.type n)):W.kitOne K (.type n) (.type "list")=some (decide (n="list")):=by cases ty<;>rfl
def ymi{n:Nat}(h:n<=100000):n<sizeLine:=Nat.lt_of_le_of_lt h ∅
def ydr{xs:Υ}(n:Nat):ybw xs (some (n:Int)) none=xs.drop n:=by
 unfold ybw;rw[HT.sIx_nat,HT.sIx_none];by_cases h:n<=xs.length
 .rw[Nat.min_eq_left h,dn (by rw[dM];exact cq _)]
 .rw[Nat.min_eq_right (),Nat.sub_self,List.take_zero,List.drop_of_length_le ()]
def ycs{ns:Ρ}(h:∀i∈ns,0<=i/\i<=255):(ns.map V.int).all sgV=true:=by rw[List.all_map,List.all_eq_true];intro i b;let⟨a,c⟩:=h i b;simp[sgV,a,c]
inductive ĺ(K:z3)(C:z4)(m:Int)(vs:Υ)(H:Hp)(Q:VK)(E:XK):Prop
 |mk(x n:_)(_:vs=[x])(_:xt K H x (.type n))(_:((Bad K H x n m/\∀H',yw H H'->E (.ref C) none H')\/∃xs,vdr K H x xs m/\∀r H',H r=none->H' r=some (.lst xs)->yw H H'->Q (.ref r) H'))
def ylg(p q:z4)(H H':Hp):Prop:=∀b o,H b=some o->b≠p->b≠q->H' b=some o
def But.two{p:z4}{H H':Hp}(h:But p H H'):ylg p q H H':=λb o e n Z=>h b o e n
def But.two'{p:z4}{H H':Hp}(h:But q H H'):ylg p q H H':=λb o e Z n=>h b o e n
def ylg.trans{p:z4}{H H1 H2:Hp}(x:ylg p q H H1)(y:ylg p q H1 H2):ylg p q H H2:=λb o h n m=>y b o (x b o h n m) n m
structure ygk(a:Ads)(H:Hp)(p dx pd ps ds:z4)(d:Ρ)(x:Sn):Prop where
 me:H p=some (.ins a.Ah dx (ylf (.ref pd) (.ref ps) (.int (rn d (sz x))) (.int x.2.2)))
 dt:H pd=some (.lst (d.map V.int))
 sp:H ps=some (.ins a.A5 ds (j5 x))
 ne:p≠ps
def ygk.same{H H':Hp}{p dx pd ps:z4}{d:Ρ}{x:Sn}(h:ygk a H p dx pd ps ds d x)(S:yw H H'):ygk a H' p dx pd ps ds d x:=⟨S _ _ h.me,S _ _ h.dt,S _ _ h.sp,h.ne⟩
section
variable{H H':Hp}{p dx pd ps:z4}{d:Ρ}{x:Sn}
theorem ygk.lst(h:ygk a H p dx pd ps ds d x)(B:ylg p ps H H'){l:z4}{xs:Υ}(e:H l=some (.lst xs)):H' l=some (.lst xs):=B _ _ e (ww e h.me (by intro z;cases z)) (ww e h.sp (by intro z;cases z))
theorem ygk.tup(h:ygk a H p dx pd ps ds d x)(B:ylg p ps H H'){l:z4}{xs:Υ}(e:H l=some (.tup xs)):H' l=some (.tup xs):=B _ _ e (ww e h.me (by intro z;cases z)) (ww e h.sp (by intro z;cases z))
end
def ylo{H:Hp}{p:z4}{d:Ρ}(h:H p=some (.lst (d.map V.int)))(hb:Byt d)(hz:d.length<=12000):vdr K H (.ref p) (d.map V.int) 12000 :=
 ⟨p,rfl,h,ä d,by rw[bI];omega,by rw[ycs hb,bI,cz ()];rfl⟩
def Sgs(ns:Ρ):Prop:=∀i∈ns,0<=i/\i<=255
def wth:Ρ:=[128,64,32,16,8,4,2,1]
def b8(s:Int):Ρ:=wth.map (λw=>s/w%2)
def dec:qi Int->qi Int
 |[]=>[0]
 |s::r=>(1::b8 s)++dec r
def nds:Int->qi Int->qi Int
 |_,[]=>[]
 |n,b::r=>n::nds (2*n+b) r
def ybx:qi Int->qi Int
 |[]=>[]
 |s::r=>(1::b8 s)++ybx r
theorem ynx:∀ns,dec ns=ybx ns++[0]
 |[]=>rfl
 |s::r=>by simp[dec,ybx,ynx r]
theorem ybb(s:Int):∀ns,ybx (ns++[s])=ybx ns++(1::b8 s)
 |[]=>by simp[ybx]
 |t::r=>by simp[ybx,ybb s r]
def yqj(s:Int):(b8 s).length=8:=rfl
theorem j9:∀ns:Ρ,(ybx ns).length=9*ns.length
 |[]=>rfl
 |s::r=>by
  show ((1::b8 s)++ybx r).length=9*(r.length+1);rw[cj,j9 r];show 9+_=_;omega
def ytp(s:Int):ŋ (b8 s):=λb c=>by
 let⟨w,_,rfl⟩:=cn.mp c;have a:0<=s/w%2:=dN _ ∅;have d:s/w%2<2:=dH _ ∅;exists a,()
theorem Î:∀ns,ŋ (dec ns)
 |[]=>λb a=>by rw[cJ.mp a];decide
 |s::r=>by
  refine ym9 (λb a=>?_) (Î r);rcases cG.mp a with rfl|a
  .decide
  .exact ytp s b a
def yvi{s:Int}(h0:0<=s)(h1:s<=255):128*(s/128%2)+(64*(s/64%2)+(32*(s/32%2)+(16*(s/16%2)+(8*(s/8%2)+(4*(s/4%2)+(2*(s/2%2)+(1*(s/1%2)+0)))))))=s:=by
 have h:∀n:Nat,n<256->128*((n:Int)/128%2)+(64*((n:Int)/64%2)+(32*((n:Int)/32%2)+(16*((n:Int)/16%2)+(8*((n:Int)/8%2)+(4*((n:Int)/4%2)+(2*((n:Int)/2%2)+(1*((n:Int)/1%2)+0)))))))=(n:Int):=by right
 let⟨n,rfl⟩:=Int.eq_ofNat_of_zero_le h0;exact h n ()
def wV(s:Int):V->V
 | .int w=>.int (s/w%2)
 |_=>.non
def Ů{H:Hp}{p:z4}{d:Ρ}(h:H p=some (.lst (d.map V.int)))(hb:Sgs d)(hz:d.length<=1000):vdr K H (.ref p) (d.map V.int) 1000 :=
 ⟨p,rfl,h,ä d,by rw[bI];omega,by rw[ycs hb,bI,cz ()];rfl⟩
def yng(xs ys:Ρ):xs.map V.int++ys.map V.int=(xs++ys).map V.int:=by simp
def ub(ns:Ρ):(dec ns).length=9*ns.length+1:=by rw[ynx,cj,j9];rfl
def ā(f:qi Int->qj Slt)(k:Ρ)(s:Slt):qi Int->qj Slt:=λj=>if j=k then some s else f j
def yxb:HO->Bool
 | .ins _ _ _=>true
 | .dT _=>true
 |_=>false
def kI(k:Ρ):qi Key:=k.map Sum.inl
def yyv(k:Ρ):(kI k).map kV=k.map V.int:=by unfold kI;rw[cX];rfl
def ybn{j k:Ρ}(h:kI j=kI k):j=k:=by
 unfold kI at h
 induction j generalizing k with
 |nil =>
  cases k with
  |nil=>rfl
  |cons _ _=>cases h
 |cons x r ih =>
  cases k with
  |nil=>cases h
  |cons y s =>
   injection h with h1 h2;injection h1 with h1;rw[h1,ih h2]
def yn7(H:Hp)(d:z4):Prop:=∀kvs,H d=some (.dT kvs)->(kvs.map (·.1)).Nodup/\∀q∈kvs,∃k,q.1=kI k
def yn7.mv{H H':Hp}{d:z4}{kvs:qi (qi Key×V)}(h:yn7 H d)(h1:H d=some (.dT kvs))(h2:H' d=some (.dT kvs)):yn7 H' d:=λa e=>by
 rw[h2]at e;cases e;exact h kvs h1
def ynn{kvs:qi (qi Key×V)}{k:qi Key}(h:u8 kvs k=none):k∉kvs.map (·.1):=λm=>by
 let⟨p,b,e⟩:=cn.mp m;have a:=ja k kvs;rw[h]at a;exact List.any_eq_false.mp a p b (cz e)
def yn7.snoc{H':Hp}{d:z4}{kvs:qi (qi Key×V)}{k:Ρ}{v:V}(h:(kvs.map (·.1)).Nodup/\∀q∈kvs,∃k,q.1=kI k)(hn:u8 kvs (kI k)=none)(h2:H' d=some (.dT (ö kvs (kI k) v))):yn7 H' d:=λa e=>by
 rw[h2,jb _ hn]at e;cases e;rw[cA];exists List.nodup_append.mpr ⟨h.1,dI.mpr ⟨List.not_mem_nil,List.nodup_nil⟩,λx b y f z=>?_⟩,λq c=>?_
 .rw[z,cJ.mp f]at b;exact ynn hn b
 .rcases cQ.mp c with w|w
  .exact h.2 q w
  .rw[cJ.mp w];exists k,rfl
structure Ý(a:Ads)(H:Hp)(p dx lk d:z4)(kd:Fin 3)(f:qi Int->qj Slt)(O:Ν)(m:Nat):Prop where
 me:H p=some (.ins a.Ac dx (ybm (.ref lk) (.ref d)))
 own:∀b,O b->∃o,H b=some o/\yxb o=true
 np:¬O p
 dO:O d
 ky:yn7 H d
 tb:∃(kvs:qi (qi Key×V))(loc:qi Int->z4×z4),H d=some (.dT kvs)/\kvs.length<=m/\(∀k,f k=none->u8 kvs (kI k)=none)/\
  (∀k s,f k=some s->u8 kvs (kI k)=some (.ref (loc k).1)/\H (loc k).1=some (oS a (loc k).2 s)/\s.ok/\s.kind=kd/\O (loc k).1)/\(∀k j s t,f k=some s->f j=some t->(loc k).1=(loc j).1->k=j)
def yn9(O:Ν)(H H':Hp):Prop:=∀b o,H b=some o->¬O b->H' b=some o
section
variable{H H':Hp}{p dx lk d:z4}{kd:Fin 3}{f:qi Int->qj Slt}{O:Ν}{m:Nat}
def Ý.frame(h:Ý a H p dx lk d kd f O m){O2:Ν}(B:yn9 O2 H H')(dj:∀b,O b->¬O2 b)(hp:¬O2 p):Ý a H' p dx lk d kd f O m:=by
 let⟨g,e,c,z,v,r,n⟩:=h.tb;exists B _ _ h.me hp,λb j=>?_,h.np,h.dO,h.ky.mv c (B _ _ c (dj _ h.dO)),g,e,B _ _ c (dj _ h.dO),z,v,λk s t=>?_,n
 .obtain⟨o,x,q⟩:=h.own b j;exists o,B _ _ x (dj b j),q
 .obtain⟨y,u,l,w,i⟩:=r k s t;exists y,B _ _ u (dj _ i),l,w,i
def Ý.same(h:Ý a H p dx lk d kd f O m)(S:yw H H'):Ý a H' p dx lk d kd f O m:=h.frame (O2:=λZ=>False) (λb o e Z=>S b o e) (λZ Z z=>z) (λz=>z)
end
inductive δ(o:z4->Slt->HO)(g:Slt->Prop)(vs:Υ)(H:Hp)(Q:VK)(E':XK):Prop
 |mk(p dx:z4)(s:Slt)(_:vs=[.ref p])(_:g s)(_:H p=some (o dx s))(_:∀q dq H',H q=none->H' q=some (o dq s)->yw H H'->Q (.ref q) H')
def yst{p dx:z4}{s:Slt}{ta:TE}{σ:St}{H:Hp}{Q:VK}{E1 E2 E3:XK}(hta:∀Q':VK,Q' (.ref p) H->ta σ H Q')(hp:H p=some (oS a dx s))(h:∀q dq H',H q=none->H' q=some (oS a dq s)->yw H H'->Q (.ref q) H'):
  yn3 (ĸ a.A9 "twin" (δ (oS a) yxc) [] E1 ta ylc) (yn3 (ĸ a.A8 "twin" (δ (oS a) yxd) [] E2 ta ylc) (ĸ a.Af "twin" (δ (oS a) yxf) [] E3 ta ylc)) σ H Q:=by
 cases s with
 |ev n o=>exact ο (Ħ (hta _ ⟨p,dx,_,rfl,hp,yan,p,dx,.ev n o,rfl,trivial,hp,h⟩))
 |qk h0=>exact zy (ο (Ħ (hta _ ⟨p,dx,_,rfl,hp,Ř,p,dx,.qk h0,rfl,trivial,hp,h⟩)))
 |rn l n=>exact zy (zy (Ħ (hta _ ⟨p,dx,_,rfl,hp,yci,p,dx,.rn l n,rfl,trivial,hp,h⟩)))
def è{H H1:Hp}{o o':HO}(nq:H q=none)(nd:H dq=none)(B:But q (upd (upd H dq o) q o') H1):yw H H1:=λb u e=>B b u (by rw[yk (yb e nq),yk (yb e nd)];exact e) (yb e nq)
open MixI
structure ygi(a:Ads)(p dx l:z4)(ws:Ρ)(H:Hp):Prop where
 o:H p=some (.ins a.Bq dx (vdw (.ref l)))
 l:H l=some (.lst (ws.map V.int))
def ygi.same{p dx l:z4}{ws:Ρ}{H H':Hp}(m:ygi a p dx l ws H)(S:yw H H'):ygi a p dx l ws H':=⟨S _ _ m.o,S _ _ m.l⟩
def yze{k:Nat}{cs:Ρ}(h:COk k cs){c:Int}(hm:c∈cs):Ch c:=⟨h.lo c hm,h.hi c hm⟩
def yoa{g:Int->Int->Int}{ws cs:Ρ}(h:cs.length=ws.length):(List.range (ws.map V.int).length).map (λi=>V.int (g ((ws[i]?).getD 0) ((cs[i]?).getD 0)))=(List.zipWith g ws cs).map V.int:=by rw[bI,<- yg4 h,cX];rfl
def ydd{H:Hp}{xs ys:Υ}(h:H D=some (.lst xs))(e:xs=ys):H D=some (.lst ys):=e ▸ h
inductive yie(K:z3)(a:Ads)(vs:Υ)(H:Hp)(Q:VK)(E':XK):Prop
 |mk(p dx l c:z4)(ws cs:Ρ)(k:Nat)(_:vs=[.ref p,.ref c])(_:1<=k)(_:k<=6)(_:WOk k ws)(_:COk k cs)(_:ygi a p dx l ws H)(_:SqL K H c (cs.map V.int))(_:∀H',yw H H'->Q (.int (yqy ws cs)) H')
inductive yhd(K:z3)(a:Ads)(C:z4)(vs:Υ)(H:Hp)(Q:VK)(E:XK):Prop
 |mk(p dx l c:z4)(ws cs:Ρ)(k:Nat)(x:V)(n:String)(_:vs=[.ref p,.ref c,x])(_:1<=k)(_:k<=6)(_:WOk k ws)(_:COk k cs)(_:ygi a p dx l ws H)(_:SqL K H c (cs.map V.int))(_:xt K H x (.type n))(_:(∀b:Int,x=.int b->0<=b->b<=1->∀l' H',H l'=none->ygi a p dx l' (lrn ws cs b) H'->But p H H'->Q .non H'))(_:(û x=false->E (.ref C) none H))
inductive yq1(a:Ads)(vs:Υ)(H:Hp)(Q:VK)(E':XK):Prop
 |mk(p dx l:z4)(ws:Ρ)(_:vs=[.ref p])(_:ygi a p dx l ws H)(_:∀r H',H r=none->H' r=some (.lst (ws.map V.int))->yw H H'->Q (.ref r) H')
inductive yna(a:Ads)(vs:Υ)(H:Hp)(Q:VK)(E':XK):Prop
 |mk(p dx:z4)(k:Nat)(_:vs=[.ref p,.int k])(_:1<=k)(_:k<=6)(_:H p=some (.ins a.Bq dx []))(_:∀l H',H l=none->ygi a p dx l (List.replicate k 1099511627776) H'->But p H H'->Q .non H')
def yk8:V->Bool
 | .str s=>inV (.str s) [V.str "even",V.str "quick",V.str "run"]
 |_=>false
def plV:V->Bool
 | .int i=>decide (1<=i) && decide (i<=8)
 |_=>false
def ltV:V->V->Bool
 | .int i,.int j=>decide (i<j)
 |_,_=>false
def vfo(xs:Υ):Bool:=(List.zipWith ltV xs xs.tail).all id
def ur(xs:Υ):Bool:=decide (xs.length<=4) && xs.all plV && vfo xs
def PlB(K:z3)(H:Hp)(x:V)(b:Bool):Prop:=(∃n,xt K H x (.type n)/\n≠"tuple"/\b=false)\/∃t xs,x=.ref t/\H t=some (.tup xs)/\xs.length<=1000/\(∀y∈xs,∃n:String,xt K H y (.type n))/\b=ur xs
def LkB(K:z3)(H:Hp)(x:V)(b:Bool):Prop:=(∃n,xt K H x (.type n)/\n≠"tuple"/\b=false) \/
 ∃t xs,x=.ref t/\H t=some (.tup xs)/\((xs.length≠2/\b=false)\/∃y z n,xs=[y,z]/\xt K H y (.type n)/\((yk8 y=false/\b=false)\/(yk8 y=true/\PlB K H z b)))
def PlB.same{H H':Hp}{x:V}{b:Bool}(h:PlB K H x b)(S:yw H H'):PlB K H' x b:=by
 rcases h with⟨n,t,a,e⟩|⟨t,f,e,d,i,g,j⟩
 .exact .inl ⟨n,Ň S t,a,e⟩
 .exact .inr ⟨t,f,e,S _ _ d,i,λy c=>let ⟨n,z⟩:=g y c;⟨n,Ň S z⟩,j⟩
theorem LkB.same{H H':Hp}{x:V}{b:Bool}(h:LkB K H x b)(S:yw H H'):LkB K H' x b:=by
 rcases h with⟨n,t,a,e⟩|⟨t,d,e,c,h⟩
 .exact .inl ⟨n,Ň S t,a,e⟩
 .refine .inr ⟨t,d,e,S _ _ c,?_⟩;rcases h with h|⟨y,z,n,i,g,h⟩
  .exact .inl h
  .refine .inr ⟨y,z,n,i,Ň S g,?_⟩;rcases h with h|⟨f,j⟩
   .exact .inl h
   .exact .inr ⟨f,j.same S⟩
def Ā{H:Hp}{x:V}{n:String}(ty:xt K H x (.type n)):W.kitOne K (.type n) (.type "tuple")=some (decide (n="tuple")):=by cases ty<;>rfl
def ydh{H:Hp}{x:V}{n:String}(ty:xt K H x (.type n)):W.kitOne K (.type n) (.type "str")=some (decide (n="str")):=by cases ty<;>rfl
def yd0{H:Hp}{x:V}{n:String}(ty:xt K H x (.type n)):W.kitOne K (.type n) (.type "list")=some (decide (n="list")):=by cases ty<;>rfl
def ys2{xs:Υ}{y:V}(h:xs.tail[i]?=some y):xs[i+1]?=some y:=by
 cases xs with
 |nil=>simp at h
 |cons x r=>simpa using h
def yhh(xs:Υ):(List.range xs.tail.length).map (λi=>V.bl (ltV ((xs[i]?).getD .non) ((xs.tail[i]?).getD .non)))=(List.zipWith ltV xs xs.tail).map V.bl:=by
 apply List.ext_getElem
 .rw[bI,di,bI,List.length_zipWith,List.length_tail];omega
 .intro i a c;rw[bI,di]at a;have b:i<xs.length:=by rw[List.length_tail]at a;omega
  rw[dv,List.getElem_range,dv,List.getElem_zipWith,ci a,ci b];rfl
def yjb{t u:z4}{xs:Υ}{te:TE}{fr:St}{R:Hp->Prop}{H1:Hp}(hint:∀y∈xs,∃i:Int,y=.int i)(hl:xs.length<=1000)(ht:SqT K H1 t xs)(hu:SqT K H1 u xs.tail)(hD:H1 D=none)
  (hte:∀(i j:Int)(σ':St)(H':Hp)(Q':VK),Q' (.bl (decide (i<j))) H'->te (some (.int i)::some (.int j)::σ') H' Q') (hR:∀H,yw H1 H->H D=some (.lst ((List.zipWith ltV xs xs.tail).map V.bl))->R H):
  Ã (vdq K t u) (yxa K 2 (ν (xg 0) (ν (xg 1) yn4))) te 2 fr D R H1:=by
 refine ych (m:=xs.tail.length) (λi=>V.bl (ltV ((xs[i]?).getD .non) ((xs.tail[i]?).getD .non))) ht hu (by rw[List.length_tail];omega) (cq _) (.inr (cq _)) hD (λi x y h k s v p q l a g e=>?_) (λh l a=>?_)
 .obtain⟨z,w,rfl⟩:=ykn e;let⟨c,rfl⟩:=hint x (cB p);let⟨d,rfl⟩:=hint y (cB (ys2 q));have n:=l.trans (vg (o:=HO.tup [V.int c,V.int d]) g);have f:=jx (o':=HO.tup [V.int c,V.int d]) g a;have b:upd h k (HO.tup [V.int c,V.int d]) k=some (.tup [V.int c,V.int d]):=ya;generalize upd h k (HO.tup [V.int c,V.int d])=r at n f b;refine yes (SqT.of b) rfl ?_;show ν (xg 0) (ν (xg 1) yn4) [V.int c,V.int d] (z::w::fr) r _;ext;exists⟨[some (.int c),some (.int d)],rfl,rfl⟩,?_;refine hte c d fr r _ ?_;refine Mp.doneR hD (vi (by rw[List.length_tail];omega)) v n f ?_;rw[p,q];rfl
 .exact hR h l (by rw[<- yhh];exact a)
def ysp(xs:Υ):ybw xs (some 1) none=xs.tail:=by
 unfold ybw
 have e:HT.sIx xs.length 0 (some 1)=min 1 xs.length:=by
  have:=HT.sIx_nat xs.length 0 1;simpa using this
 rw[HT.sIx_none,e]
 cases xs with
 |nil=>rfl
 |cons x r=>simp
def ym4{n:Nat}(bs:qi Bool)(h:n=bs.length):(List.range n).map (λi=>V.bl ((bs[i]?).getD false))=bs.map V.bl:=by
 subst h;apply List.ext_getElem
 .rw[bI,di,bI]
 .intro i a b;rw[bI,di]at a;rw[dv,List.getElem_range,dv,ci a];rfl
def vfx(K:z3)(H:Hp)(xs:Υ)(bs:qi Bool):Prop:=xs.length=bs.length/\∀(i:Nat)(y:V)(b:Bool),xs[i]?=some y->bs[i]?=some b->LkB K H y b
def LkG(H:Hp)(v:V)(kd:Fin 3)(tp:z4)(ps:Ρ):Prop:=∃lk,v=.ref lk/\H lk=some (.tup [.str (kdS kd),.ref tp])/\H tp=some (.tup (ps.map V.int))/\ur (ps.map V.int)=true
def LkG.same{H H':Hp}{v:V}{kd:Fin 3}{tp:z4}{ps:Ρ}(h:LkG H v kd tp ps)(S:yw H H'):LkG H' v kd tp ps:=by let⟨c,e,b,d,a⟩:=h;exists c,e,S _ _ b,S _ _ d,a
def yr0(kd:Fin 3):yk8 (.str (kdS kd))=true:=by
 match kd with
 |0=>rfl
 |1=>rfl
 |2=>rfl
def ux{xs:Υ}(h:ur xs=true):xs.length<=4:=by unfold ur at h;rw[cR,cR]at h;exact of_decide_eq_true h.1.1
def LkG.tells{H:Hp}{v:V}{kd:Fin 3}{tp:z4}{ps:Ρ}(h:LkG H v kd tp ps):LkB K H v true:=by let⟨b,e,c,f,a⟩:=h;have:=ux a;refine .inr ⟨b,_,e,c,.inr ⟨_,_,"str",rfl,.str _,.inr ⟨yr0 kd,.inr ⟨tp,_,rfl,f,(),λy d=>?_,a.symm⟩⟩⟩⟩;let⟨i,_,rfl⟩:=cn.mp d;exists _,.int i
theorem ypk:∀{ps:Ρ},ps.Pairwise (· < ·)->vfo (ps.map V.int)=true
 |[],_=>rfl
 |[_],_=>rfl
 |p::q::r,h=>by
  have b:p<q:=(List.pairwise_cons.mp h).1 q (by simp);have a:=ypk (List.pairwise_cons.mp h).2;unfold vfo at a⊢;simp only[db,List.tail_cons,List.zipWith_cons_cons,List.all_cons]at a⊢;rw[show ltV (V.int p) (V.int q)=true from cz b];simpa using a
def yh9{ps:Ρ}(h1:ps.length<=4)(h2:∀p∈ps,1<=p/\p<=8)(h3:ps.Pairwise (· < ·)):ur (ps.map V.int)=true:=by unfold ur;rw[bI,cz h1,ypk h3,Bool.true_and,Bool.and_true,List.all_eq_true];intro y a;let⟨i,b,rfl⟩:=cn.mp a;have:=h2 i b;show (decide (1<=i) && decide (i<=8))=true;rw[cz this.1,cz this.2];rfl
def Lks(H:Hp)(xs:Υ):Prop:=∀y∈xs,∃kd tp ps,LkG H y kd tp ps
def dLk(kd:Fin 3)(ps:Ρ):PyData:=.tuple [.str (kdS kd),.tuple (ps.map PyData.int)]
def LkG.rd{H:Hp}{v:V}{kd:Fin 3}{tp:z4}{ps:Ρ}(h:LkG H v kd tp ps):RdV K H v (dLk kd ps):=by let⟨c,rfl,a,b,_⟩:=h;exact .tup (SqT.of a) (.cons (.str _) (.cons (.tup (SqT.of b) (jr ps)) .nil))
def yr2(kd:Fin 3)(ps:Ρ):(dLk kd ps).canLay0=true:=by
 have e:PyData.strOk (kdS kd)=true:=by
  match kd with
  |0=>decide+kernel
  |1=>decide+kernel
  |2=>decide+kernel
 simp[dLk,PyData.canLay0,PyData.canLayAll0,z9,e]
def yhy(kd:Fin 3)(ps:Ρ):(dLk kd ps).depth<=2:=by simp[dLk,PyData.depth,PyData.depthAll,j7]
def yt5(kd:Fin 3)(ps:Ρ):PyData.eqv (dLk kd ps) (dLk kd ps)=true:=by simp[dLk,PyData.eqv,PyData.eqvAll,z8]
def Lks.bs{H:Hp}{xs:Υ}(h:Lks H xs):vfx K H xs (List.replicate xs.length true):=by
 exists by rw[List.length_replicate],λi y b a d=>?_
 have c:b=true:=List.eq_of_mem_replicate (cB d);let⟨f,g,e,z⟩:=h y (cB a);rw[c];exact z.tells
def yiv(n:Nat):(List.replicate n true).all id=true:=by simp
def vhm(K:z3)(H:Hp)(x:V):Prop:=(∃n,xt K H x (.type n)/\n≠"list")\/∃l xs bs,x=.ref l/\H l=some (.lst xs)/\xs.length<=1000/\vfx K H xs bs/\¬(1<=xs.length/\xs.length<=6/\bs.all id=true)
theorem LkG.upd{H:Hp}{v:V}{kd:Fin 3}{tp l:z4}{ps:Ρ}{xs ys:Υ}(h:LkG H v kd tp ps)(hl:H l=some (.lst xs)):LkG (L2.upd H l (.lst ys)) v kd tp ps:=by let⟨d,e,a,b,c⟩:=h;exists d,e,ye (ww a hl (by intro z;cases z)) a,ye (ww b hl (by intro z;cases z)) b,c
def upN{α:Type}(g:Nat->α)(n:Nat)(x:α):Nat->α:=λj=>if j=n then x else g j
def xh{α:Type}{g:Nat->α}{n:Nat}{x:α}:upN g n x n=x:=if_pos rfl
def xb{α:Type}{g:Nat->α}{n:Nat}{x:α}(h:j<n):upN g n x j=g j:=if_neg ()
def xn(H:Hp)(n:Nat)(lk:Μ)(kd:Ξ)(tp:Μ)(ps:Λ):Prop:=∀i,i<n->LkG H (.ref (lk i)) (kd i) (tp i) (ps i)
theorem xn.same{H H':Hp}{n:Nat}{lk:Μ}{kd:Ξ}{ps:Λ}(h:xn H n lk kd tp ps)(S:yw H H'):xn H' n lk kd tp ps:=λi a=>(h i a).same S
structure Sd(K:z3)(H:Hp)(v:V)(d:PyData)(k:Nat):Prop where
 rd:RdV K H v d
 lay:d.canLay0=true
 dep:d.depth<=k
 eq:PyData.eqv d d=true
structure Sds(K:z3)(H:Hp)(xs:Υ)(ds:qi PyData)(k:Nat):Prop where
 rd:yqz K H xs ds
 lay:PyData.canLayAll0 ds=true
 dep:PyData.depthAll ds<=k
 eq:PyData.eqvAll ds ds=true
theorem Sds.nil{H:Hp}{k:Nat}:Sds K H [] [] k:=⟨.nil,rfl,cP _,by simp[PyData.eqvAll]⟩
theorem Sds.cons{H:Hp}{v:V}{d:PyData}{xs:Υ}{ds:qi PyData}{k:Nat}(h:Sd K H v d k)(r:Sds K H xs ds k):Sds K H (v::xs) (d::ds) k:=by
 exists .cons h.rd r.rd,by simp[PyData.canLayAll0,h.lay,r.lay],?_,by simp[PyData.eqvAll,h.eq,r.eq]
 have a:=h.dep;have b:=r.dep;simp only[PyData.depthAll];omega
def Sds.ints{H:Hp}(ns:Ρ){k:Nat}:Sds K H (ns.map V.int) (ns.map PyData.int) k:=⟨jr ns,z9 ns,by rw[j7];exact cP _,by rw[z8,cz rfl]⟩
theorem Sd.lst{H:Hp}{p:z4}{xs:Υ}{ds:qi PyData}{k:Nat}(h:SqL K H p xs)(r:Sds K H xs ds k):Sd K H (.ref p) (.list ds) (k+1):=by
 exists .lst h r.rd,by simp[PyData.canLay0,r.lay],?_,by simp[PyData.eqv,r.eq]
 have a:=r.dep;simp only[PyData.depth];omega
def vdc{g:Bool->Bool}{H:Hp}{Q:VK}{x y:V}{d:PyData}{k:Nat}(h1:Sd K H x d k)(h2:Sd K H y d k)(hk:k<=60)(h:Q (.bl (g true)) H):vdu K g x y H Q:=by
 have a:SeqAt.shaped d=true:=by
  unfold SeqAt.shaped;rw[cR];exists h1.lay,cz (by have:=h1.dep;omega)
 exists d,d,h1.rd,h2.rd,a,a,by rw[h1.eq];exact h
local macro_rules | `(#synth $n:ident $a $b)=>`(theorem $n : yi $a $a (yd $b):=wa (by decide +kernel)) | `(#synth $n:ident $a $b $c)=>`(theorem $n : yi $a $b (yd $c):=wa (by decide +kernel))
#synth vej ["thing"] vfv
inductive ycf(K:z3)(vs:Υ)(H:Hp)(Q:VK)(E':XK):Prop
 |mk(x n:_)(_:vs=[x])(_:xt K H x (.type n))(_:Q (.bl (τ x)) H)
variable(T:Txt K mg a)
def ylb:vq P w K mg Γ CX0 1 a.R9 a.Rj ["thing"] (ycf K):=by
 exists T.If.F.ok,vej,g;let⟨x,n,rfl,b,k⟩:=h;exists 1,0,yc (yo (zz (pcB wt T.Ab (pac (pv 0) (pa1 (Ù (T:="int") rfl T.Q1 (by right))))) (Ø (yxr (pcB wt T.Ab (pac (pv 0) (pa1 (Ù (T:="bool") rfl T.Jr (by right)))))))));refine Ĩ b (yr4 b) ?_;ext
 cases hx:yod x with
 |false =>
  have e:τ x=false:=by
   cases x<;>first|rfl|cases hx
  rw[e]at k;exact jq k
 |true =>
  have e:τ x=!yjj x:=by
   cases x<;>first|rfl|cases hx
  rw[e]at k;refine yac ?_;ext;refine Ĩ b (ylp b) ?_;ext;exact k
#synth vet ["thing"] vfy
inductive ygx(K:z3)(vs:Υ)(H:Hp)(Q:VK)(E':XK):Prop
 |mk(x n:_)(_:vs=[x])(_:xt K H x (.type n))(_:Q (.bl (û x)) H)
def vff:vq P w K mg Γ CX0 2 a.Ra a.Rk ["thing"] (ygx K):=by
 exists T.Rs.F.ok,vet,f;let⟨x,n,rfl,j,k⟩:=h;exists 1,0,yc (yo (zz (xx (ylb T) f.m T.If (pa1 (pv 0))) (Ø (Ð jk jk yh (pv 0) yh))));exists x,n,rfl,j,?_;ext
 cases hx:τ x with
 |false =>
  have e:û x=false:=by
   cases x<;>first|rfl|cases hx
  rw[e]at k;exact jq k
 |true =>
  let⟨i,rfl⟩:=zv hx;refine yac ?_;ext;refine zn (λb=>?_) (λb=>?_)
  .ext;have e:û (.int i)=decide (i<=1):=by simp[û,b]
   rw[e]at k;exact k
  .have e:û (.int i)=false:=by simp[û,b]
   rw[e]at k;exact k
#synth vef ["thing"] vfq
inductive yap(K:z3)(vs:Υ)(H:Hp)(Q:VK)(E':XK):Prop
 |mk(x n:_)(_:vs=[x])(_:xt K H x (.type n))(_:Q (.bl (chV x)) H)
def veo:vq P w K mg Γ CX0 2 a.Rb a.Rl ["thing"] (yap K):=by
 exists T.Rt.F.ok,vef,f;let⟨x,n,rfl,j,k⟩:=h;exists 1,0,yc (yo (zz (xx (ylb T) f.m T.If (pa1 (pv 0))) (Ø (Ð jk jk (vo rfl T.E5) (pv 0) (yp zh (vo rfl T.Dh) (vo rfl T.E5))))));exists x,n,rfl,j,?_;ext
 cases hx:τ x with
 |false =>
  have e:chV x=false:=by
   cases x<;>first|rfl|cases hx
  rw[e]at k;exact jq k
 |true =>
  let⟨i,rfl⟩:=zv hx;refine yac ?_;ext;refine zn (λb=>?_) (λb=>?_)
  .ext;have e:chV (.int i)=decide (i<=16777216-32768):=by simp[chV,b]
   rw[e]at k;exact k
  .have e:chV (.int i)=false:=by simp[chV,b]
   rw[e]at k;exact k
#synth ver ["thing"] vfs
inductive yfs(K:z3)(vs:Υ)(H:Hp)(Q:VK)(E':XK):Prop
 |mk(x n:_)(_:vs=[x])(_:xt K H x (.type n))(_:Q (.bl (sgV x)) H)
def vfh:vq P w K mg Γ CX0 2 a.Rc a.Rm ["thing"] (yfs K):=by
 exists T.Ru.F.ok,ver,f;let⟨x,n,rfl,j,k⟩:=h;exists 1,0,yc (yo (zz (xx (ylb T) f.m T.If (pa1 (pv 0))) (Ø (Ð jk jk yh (pv 0) yh))));exists x,n,rfl,j,?_;ext
 cases hx:τ x with
 |false =>
  have e:sgV x=false:=by
   cases x<;>first|rfl|cases hx
  rw[e]at k;exact jq k
 |true =>
  let⟨i,rfl⟩:=zv hx;refine yac ?_;ext;refine zn (λb=>?_) (λb=>?_)
  .ext;have e:sgV (.int i)=decide (i<=255):=by simp[sgV,b]
   rw[e]at k;exact k
  .have e:sgV (.int i)=false:=by simp[sgV,b]
   rw[e]at k;exact k
#synth veq ["thing","most"] vfw
inductive yy6(K:z3)(vs:Υ)(H:Hp)(Q:VK)(E':XK):Prop
 |mk(x n m:_)(_:vs=[x,.int m])(_:xt K H x (.type n))(_:((Bad K H x n m/\∀H',yw H H'->Q (.bl false) H')\/∃xs,vdr K H x xs m/\∀H',yw H H'->Q (.bl true) H'))
def ywb:vq P w K mg Γ CX0 3 a.Re a.Rn ["thing","most"] (yy6 K):=by
 exists T.Q4.F.ok,veq,R;let⟨x,n,m,rfl,B,h⟩:=h
 have I:(n≠"list"/\∀d,yw H d->Q (.bl false) d)\/∃p xs,x=.ref p/\H p=some (.lst xs)/\yny K H xs/\xs.length<=100000/\∀d,yw H d->Q (.bl (decide ((xs.length:Int)<=m) && xs.all sgV)) d:=by
  rcases h with⟨h|⟨p,xs,e,c,t,j,M⟩,k⟩|⟨xs,⟨p,e,c,t,j,M⟩,k⟩
  .exact .inl ⟨h,k⟩
  .exact .inr ⟨p,xs,e,c,t,j,λd S=>by rw[M];exact k d S⟩
  .exact .inr ⟨p,xs,e,c,t,j,λd S=>by rw[M];exact k d S⟩
 exists 2,0,yc (yo (zz (pcB wt T.Ab (pac (pv 0) (pa1 (Ù (T:="list") rfl T.Ae (by right))))) (zz (jd jk (pcB yr T.Ad (pa1 (pv 0))) (pv 1) (vd _)) (Ø (pcB (η rfl) T.Dx (pa1 (wc (js:=[]) (ys:=[]) rfl (wz (pv 0)) (λC s2 H2 Y=>(xx (vfh T) R.m T.Ru (pa1 (pv 0)))) rfl rfl (hyc:=y8) (hrel:=y8))))))));refine Ĩ B (ytl B) ?_;ext;rcases I with⟨r,k⟩|⟨p,xs,rfl,c,X,j,k⟩
 .refine ygb r ?_;ext;exact k _ (yw.refl _)
 .have r:n="list":=by
   cases B with
   |lst e=>rfl
   |frz e=>rfl
   |tup e=>rw[c]at e;cases e
   |dK e=>rw[c]at e;cases e
   |dT e=>rw[c]at e;cases e
  refine ybu r ?_;ext;refine ut (SqL.of c) ?_;ext;refine zn (λu=>?_) (λu=>?_)
  .rw[cz u,Bool.true_and]at k;ext;exists p,rfl,⟨_,SqL.of c⟩,λD J=>?_;have Z:p≠D:=yb c J;refine zx (K:=K) (a:=p) (xs:=xs) (λi g=>g D=some (.lst (((xs.take i).map sgV).map V.bl))/\yw H g)
    ⟨ya,vg J⟩ (λi g F q=>SqL.of (q.2 _ _ c)) ?_ ?_
   .rintro i y g N v ⟨f,l⟩;ext;let⟨O,L⟩:=X y (cB N);exists y,O,rfl,Ň l L,?_;refine xm f (by rw[bI,bI,cK];exact ymi ()) v ⟨ya.trans ?_,λb o e=>ye (λz=>?_) (l _ _ e)⟩
    .rw[List.take_succ,N];simp
    .subst z;rw[J]at e;cases e
   .rintro g ⟨f,l⟩;ext;exists D,_,rfl,SqL.of f,?_;rw[dn (cq _),List.all_map];exact k _ l
  .rw[cH u,Bool.false_and]at k;ext;exact k _ (yw.refl _)
#synth ve7 ["thing"] vft
def ywr:vq P w K mg Γ (CXe P w) 4 a.Rf a.Ro ["thing"] (ĺ K a.Ib 1000):=by
 exists T.Q5.F.okE,ve7,i;let⟨x,n,rfl,q,h⟩:=h;exists 1,0,yf (wd (x9 (ug (xx (ywb T) i.m T.Q4 (pac (pv 0) (pa1 (vo rfl T.Di)))))) (yc (wy rfl T.Uc T.Sk (pa1 xc))) ve) (yc (yo (pcT vj T.Ae (pa1 (pv 0)))));exists x,n,_,rfl,q,?_;rcases h with⟨t,k⟩|⟨f,e,k⟩
 .refine .inl ⟨t,λl c=>?_⟩;ext;exists by walk_at "len",k _ c
 .refine .inr ⟨f,e,λl c=>?_⟩;let⟨p,rfl,j,_⟩:=e;ext;exists p,f,rfl,.inl (SqL.of (c _ _ j)),λr b=>?_;exact k r _ (c.free b) ya (c.trans (vg b))
#synth vfg ["thing"] vf4
def vfk:vq P w K mg Γ (CXe P w) 4 a.Rg a.Rp ["thing"] (ĺ K a.Gn 12000):=by
 exists T.Rv.F.okE,vfg,i;let⟨x,n,rfl,q,h⟩:=h;exists 1,0,yf (wd (x9 (ug (xx (ywb T) i.m T.Q4 (pac (pv 0) (pa1 (vo rfl T.Dj)))))) (yc (wy rfl T.Ud T.Sl (pa1 xc))) ve) (yc (yo (pcT vj T.Ae (pa1 (pv 0)))));exists x,n,_,rfl,q,?_;rcases h with⟨t,k⟩|⟨f,e,k⟩
 .refine .inl ⟨t,λl c=>?_⟩;ext;exists by walk_at "len",k _ c
 .refine .inr ⟨f,e,λl c=>?_⟩;let⟨p,rfl,j,_⟩:=e;ext;exists p,f,rfl,.inl (SqL.of (c _ _ j)),λr b=>?_;exact k r _ (c.free b) ya (c.trans (vg b))
#synth vep ["thing"] vfr
def yw7:V->Bool
 | .int i=>decide (0<=i) && decide (i<=1000)
 |_=>false
def yz3{m:Nat}(h:m<=1000):yw7 (.int m)=true:=by show (decide ((0:Int)<=m) && decide ((m:Int)<=1000))=true;rw[cz (),cz ()];rfl
inductive ylq(K:z3)(C:z4)(vs:Υ)(H:Hp)(Q:VK)(E:XK):Prop
 |mk(x n:_)(_:vs=[x])(_:xt K H x (.type n))(_:(yw7 x=true->Q .non H))(_:(yw7 x=false->E (.ref C) none H))
def vd3:vq P w K mg Γ (CXe P w) 2 a.Rh a.Rq ["thing"] (ylq K a.At):=by
 exists T.Rw.F.okE,vep,j;let⟨x,n,rfl,o,k,d⟩:=h;exists 1,0,yc (wd (PW.pt (j4 (x9 (ug (xx (ylb T) j.m T.If (pa1 (pv 0))))) (jo (x9 (ũ jk jk yh (pv 0) (vo rfl T.Di)))))) (yc (wy rfl T.Qt T.F9 (pa1 xc))) ve);exists x,n,rfl,o,?_;ext
 cases hx:τ x with
 |false =>
  have e:yw7 x=false:=by
   cases x<;>first|rfl|cases hx
  ext;exists by walk_at "len",d e
 |true =>
  let⟨i,rfl⟩:=zv hx;ext;refine zn (λb=>?_) (λb=>?_)
  .ext;refine yxe (λc=>?_) (λc=>?_)
   .ext;exact k (by simp[yw7,b,c])
   .ext;exists by walk_at "len",d (by simp[yw7,c])
  .ext;exists by walk_at "len",d (by simp[yw7,b])
#synth ve0 ["thing"] vfm
inductive Ĉ(K:z3)(C:z4)(vs:Υ)(H:Hp)(Q:VK)(E:XK):Prop
 |mk(x n:_)(_:vs=[x])(_:xt K H x (.type n))(_:(chV x=true->Q .non H))(_:(chV x=false->E (.ref C) none H))
def yu7:vq P w K mg Γ (CXe P w) 3 a.Ri a.Rr ["thing"] (Ĉ K a.E6):=by
 exists T.Q6.F.okE,ve0,d;let⟨x,n,rfl,g,e,i⟩:=h;exists 1,0,yc (wd (x9 (ug (xx (veo T) d.m T.Rt (pa1 (pv 0))))) (yc (wy rfl T.Ue T.Sm (pa1 xc))) ve);exists x,n,rfl,g,?_;ext
 cases hx:chV x with
 |false =>
  ext;exists by walk_at "len",i hx
 |true =>
  ext;exact e hx
#synth yz2 ["thing"] yvg
inductive yad(K:z3)(C:z4)(vs:Υ)(H:Hp)(Q:VK)(E:XK):Prop
 |mk(x n:_)(_:vs=[x])(_:xt K H x (.type n))(_:(û x=true->Q .non H))(_:(û x=false->E (.ref C) none H))
def Ĥ:vq P w K mg Γ (CXe P w) 3 a.K1 a.Mh ["thing"] (yad K a.Cc):=by
 exists T.Cw.F.okE,yz2,d;let⟨x,n,rfl,g,e,i⟩:=h;exists 1,0,yc (wd (x9 (ug (xx (vff T) d.m T.Rs (pa1 (pv 0))))) (yc (wy rfl T.Uf T.So (pa1 xc))) ve);exists x,n,rfl,g,?_;ext
 cases hx:û x with
 |false =>
  ext;exists by walk_at "len",i hx
 |true =>
  ext;exact e hx
#synth yyc ["chance","bit"] yvu
inductive yl9(K:z3)(C D:z4)(vs:Υ)(H:Hp)(Q:VK)(E:XK):Prop
 |mk(x n y m:_)(_:vs=[x,y])(_:xt K H x (.type n))(_:xt K H y (.type m))(_:(chV x=false->E (.ref C) none H))(_:(chV x=true->û y=false->E (.ref D) none H))(_:(∀c b,x=.int c->y=.int b->chV x=true->û y=true->Q (.int (gvv c b)) H))
def vai:vq P w K mg Γ (CXe P w) 4 a.K2 a.Mi ["chance","bit"] (yl9 K a.E6 a.Cc):=by
 exists T.Pf.F.okE,yyc,g;let⟨x,n,y,m,rfl,o,r,l,t,p⟩:=h;exists 2,0,yf (yt (ul (yu7 T) g.m T.Q6 yy (pa1 (pv 0)))) (yf (yt (ul (Ĥ T) g.m T.Cw yy (pa1 (pv 1)))) (yc (yo (ε (y6 jj (pv 1) yh (vd _)) (pv 0) (yp zh (vo rfl T.Dh) (pv 0))))));exists x,n,rfl,o,λd=>?_,l;ext;exists y,m,rfl,r,λi=>?_,t d;let⟨c,rfl,z,v⟩:=yct d;let⟨b,rfl,B,u⟩:=ydq i;ext;have k:=p c b rfl rfl d i;unfold gvv at k;refine zn (λf=>?_) (λf=>?_)
 .rw[if_pos f]at k;ext;exact k
 .rw[if_neg f]at k;ext;exact k
#synth yxo ["self"] yvm
def yoo:vq P w K mg Γ CX0 1 a.Hz a.Mj ["self"] (ū a.A9 (z5 (.int 0) (.int 0))):=by exists T.E7.F.ok,yxo,f;let⟨p,d,rfl,g,k⟩:=h;exists 1,0,yf (y7 (pv 0) yh rfl) (yc (y7 (pv 0) yh rfl));exact k _ ya (But.upd.trans But.upd)
#synth vcb ["self"] yuq
def vac:vq P w K mg Γ CX0 1 a.K3 a.Ml ["self"] (uw (oS a) yxc):=by
 exists T.Ig.F.ok,vcb,l;let⟨p,d,g,rfl,c,i,e,k⟩:=h
 cases g with
 |ev n o =>
  let⟨m,r,q⟩:=i;have e:H p=some (.ins a.A9 d (z5 (.int n) (.int o))):=e;exists 1,0,yc (yo (yp vx (yp wv (yp vw (yp wv yh (ym (pv 0) rfl)) yh) (vo rfl T.Dh)) (yp vw (yp wv yh (yp vw (ym (pv 0) rfl) (ym (pv 0) rfl))) yh)));exact k
 |qk _=>exact c.elim
 |rn _ _=>exact c.elim
#synth vbk ["self","bit"] ywc
def vbm:vq P w K mg Γ (CXe P w) 4 a.K4 a.Mm ["self","bit"] (ζ K (oS a) yxc a.Cc):=by
 exists T.Ih.F.okE,vbk,j;let⟨p,f,y,x,l,rfl,i,C,g,u,q,r⟩:=h
 cases y with
 |ev n o =>
  let⟨G,I,J⟩:=C;have g:H p=some (.ins a.A9 f (z5 (.int n) (.int o))):=g;exists 2,0,yf (yt (ul (Ĥ T) j.m T.Cw yy (pa1 (pv 1)))) (yf (wd (y6 jj (pv 1) yh (vd _)) (yc (y7 (pv 0) (yp vw (ym (pv 0) rfl) yh) rfl)) (yc (y7 (pv 0) (yp vw (ym (pv 0) rfl) yh) rfl))) (yc (wd (y6 yk9 (yp vw (ym (pv 0) rfl) (ym (pv 0) rfl)) (vo rfl T.Cs) (vd _)) (yf (y7 (pv 0) (yp vx (yp vw (ym (pv 0) rfl) yh) yh) rfl) (yc (y7 (pv 0) (yp vx (yp vw (ym (pv 0) rfl) yh) yh) rfl))) ve)));exists x,l,rfl,u,λD=>?_,r;let⟨b,rfl,B,t⟩:=yew D;have k:=q b rfl B t;unfold Slt.see at k;dsimp only at k;ext;refine zn (λe=>?_) (λe=>?_)
  .rw[if_pos e]at k;unfold yda at k;ext;refine zn (λc=>?_) (λc=>?_)
   .rw[if_pos c]at k;ext;exact k _ ya ((But.upd.trans But.upd).trans But.upd)
   .rw[if_neg c]at k;ext;exact k _ ya But.upd
  .rw[if_neg e]at k;unfold yda at k;ext;refine zn (λc=>?_) (λc=>?_)
   .rw[if_pos c]at k;ext;exact k _ ya ((But.upd.trans But.upd).trans But.upd)
   .rw[if_neg c]at k;ext;exact k _ ya But.upd
 |qk _=>exact i.elim
 |rn _ _=>exact i.elim
#synth yoh ["self","made"] ["self"] yuc
def yy1:vq P w K mg Γ CX0 3 a.K5 a.Mn ["self"] (δ (oS a) yxc):=by
 exists T.Ii.F.ok,yoh,z;let⟨p,v,s,rfl,t,d,k⟩:=h
 cases s with
 |qk _=>exact t.elim
 |rn _ _=>exact t.elim
 |ev n o =>
 have d:H p=some (.ins a.A9 v (z5 (.int n) (.int o))):=d;exists 1,1,yf (yu (i:=1) yoh.nd rfl (Or.inl rfl) (zb T.Ql (yoo T) z.m rfl T.Qk T.E7.B .nil vh)) (yf (y7 (pv 1) (ym (pv 0) rfl) rfl) (yf (y7 (pv 1) (ym (pv 0) rfl) rfl) (yc (yo (pv 1)))));intro q l c g J;exists q,l,rfl,ya,λL I D=>⟨rfl,?_⟩;have x:=è c g D;have r:=x _ _ d;have f:p≠q:=yb d c;ext;have C:=ye (o':=HO.ins a.A9 l (z5 (.int n) (.int 0))) f r;ext;exact k q l _ c ya λb u e=>ye (yb e c) (ye (yb e c) (x _ _ e))
#synth vap ["self"] ywa
def ypy:vq P w K mg Γ CX0 1 a.I0 a.Mo ["self"] (ū a.A8 (u5 (.int 8388608))):=by exists T.E8.F.ok,vap,f;let⟨p,d,rfl,g,k⟩:=h;exists 1,0,yc (y7 (pv 0) (yp vx (vo rfl T.Dh) yh) rfl);exact k _ ya But.upd
#synth vb1 ["self"] yuj
def vae:vq P w K mg Γ CX0 1 a.K6 a.Mq ["self"] (uw (oS a) yxd):=by
 exists T.Ij.F.ok,vb1,j;let⟨p,d,g,rfl,c,l,e,k⟩:=h
 cases g with
 |qk h0 =>
  have e:H p=some (.ins a.A8 d (u5 (.int h0))):=e;exists 1,0,yc (yo (ym (pv 0) rfl));exact k
 |ev _ _=>exact c.elim
 |rn _ _=>exact c.elim
#synth ykx ["self","bit","moved"] ["self","bit"] yu6
def vaj:vq P w K mg Γ (CXe P w) 4 a.K7 a.Mr ["self","bit"] (ζ K (oS a) yxd a.Cc):=by
 exists T.Ik.F.okE,ykx,j;let⟨p,e,v,x,l,rfl,g,B,f,t,o,q⟩:=h
 cases v with
 |qk h0 =>
  let⟨D,G⟩:=B;have f:H p=some (.ins a.A8 e (u5 (.int h0))):=f;exists 2,1,yf (yt (ul (Ĥ T) j.m T.Cw yy (pa1 (pv 1)))) (yf (wd (y6 jj (pv 1) yh (vd _)) (yc (yu (i:=2) ykx.nd rfl (Or.inl rfl) (yp vw (ym (pv 0) rfl) (yp vx (yp zh (vo rfl T.Dh) (ym (pv 0) rfl)) yh)))) (yc (yu (i:=2) ykx.nd rfl (Or.inl rfl) (yp zh (ym (pv 0) rfl) (yp vx (ym (pv 0) rfl) yh))))) (yc (y7 (pv 0) (pcB (ē rfl) T.Ji (pac (pcB (Ę rfl) T.Jj (pac (pv 2) (pa1 (vo rfl T.E5)))) (pa1 (yp zh (vo rfl T.Dh) (vo rfl T.E5))))) rfl)));exists x,l,rfl,t,λC=>?_,q;let⟨b,rfl,z,r⟩:=yew C;have k:=o b rfl z r;unfold Slt.see at k;dsimp only at k;ext;refine zn (λd=>?_) (λd=>?_)
  .rw[if_pos d]at k;ext;exists _,_,rfl,?_;ext;exists _,_,rfl,?_;ext;exact k _ ya But.upd
  .rw[if_neg d]at k;ext;exists _,_,rfl,?_;ext;exists _,_,rfl,?_;ext;exact k _ ya But.upd
 |ev _ _=>exact g.elim
 |rn _ _=>exact g.elim
#synth yqc ["self","made"] ["self"] yv1
def yyg:vq P w K mg Γ CX0 3 a.K8 a.Ms ["self"] (δ (oS a) yxd):=by
 exists T.Il.F.ok,yqc,t;let⟨p,l,s,rfl,j,d,k⟩:=h
 cases s with
 |ev _ _=>exact j.elim
 |rn _ _=>exact j.elim
 |qk h0 =>
 have d:H p=some (.ins a.A8 l (u5 (.int h0))):=d;exists 1,1,yf (yu (i:=1) yqc.nd rfl (Or.inl rfl) (zb T.Pw (ypy T) t.m rfl T.Pv T.E8.B .nil vh)) (yf (y7 (pv 1) (ym (pv 0) rfl) rfl) (yc (yo (pv 1))));intro q n f c C;exists q,n,rfl,ya,λD z v=>⟨rfl,?_⟩;have o:=è f c v;have y:=o _ _ d;ext;exact k q n _ f ya λb u e=>ye (yb e f) (o _ _ e)
#synth vbb ["self"] yuz
def yp4:vq P w K mg Γ CX0 1 a.I1 a.Mt ["self"] (ū a.Af (ï (.int 1) (.int 0))):=by exists T.E9.F.ok,vbb,f;let⟨p,d,rfl,g,k⟩:=h;exists 1,0,yf (y7 (pv 0) yh rfl) (yc (y7 (pv 0) yh rfl));exact k _ ya (But.upd.trans But.upd)
#synth yow ["self","given"] ["self"] ywn
def yzf:vq P w K mg Γ CX0 1 a.K9 a.Mu ["self"] (uw (oS a) yxf):=by
 exists T.Im.F.ok,yow,q;let⟨p,e,j,rfl,d,m,f,k⟩:=h
 cases j with
 |rn l n =>
  let⟨r,v,u,t⟩:=m;have f:H p=some (.ins a.Af e (ï (.int l) (.int n))):=f;exists 1,1,yf (yu (i:=1) yow.nd rfl (Or.inl rfl) (yp vx (yp wv (yp vw (yp wv yh (ym (pv 0) rfl)) yh) (vo rfl T.Dh)) (yp vw (yp wv yh (ym (pv 0) rfl)) yh))) (yc (yo (ε (y6 jj (ym (pv 0) rfl) yh (vd _)) (pv 1) (yp zh (vo rfl T.Dh) (pv 1)))));have k:Q (.int (if l=1 then ó n else 16777216-ó n)) H:=k;refine zn (λc=>?_) (λc=>?_)
  .rw[if_pos c]at k;ext;exact k
  .rw[if_neg c]at k;ext;exact k
 |ev _ _=>exact d.elim
 |qk _=>exact d.elim
#synth yy9 ["self","bit"] yvp
def yyh:vq P w K mg Γ (CXe P w) 4 a.Ka a.Mv ["self","bit"] (ζ K (oS a) yxf a.Cc):=by
 exists T.Io.F.okE,yy9,i;let⟨p,e,v,x,j,rfl,g,B,f,t,o,q⟩:=h
 cases v with
 |rn l n =>
  let⟨D,G,J,I⟩:=B;have f:H p=some (.ins a.Af e (ï (.int l) (.int n))):=f;exists 2,0,yf (yt (ul (Ĥ T) i.m T.Cw yy (pa1 (pv 1)))) (yc (wd (y6 jj (pv 1) (ym (pv 0) rfl) (vd _)) (yc (y7 (pv 0) (pcB (ē rfl) T.Ji (pac (yp vw (ym (pv 0) rfl) yh) (pa1 (vo rfl T.Cs)))) rfl)) (yf (y7 (pv 0) (pv 1) rfl) (yc (y7 (pv 0) yh rfl)))));exists x,j,rfl,t,λC=>?_,q;let⟨b,rfl,z,r⟩:=yew C;have k:=o b rfl z r;unfold Slt.see at k;dsimp only at k;ext;refine zn (λd=>?_) (λd=>?_)
  .rw[if_pos d]at k;ext;exists _,_,rfl,?_;ext;exact k _ ya But.upd
  .rw[if_neg d]at k;ext;exact k _ ya (But.upd.trans But.upd)
 |ev _ _=>exact g.elim
 |qk _=>exact g.elim
#synth yom ["self","made"] ["self"] yuo
def yys:vq P w K mg Γ CX0 3 a.Kb a.Mw ["self"] (δ (oS a) yxf):=by
 exists T.Ip.F.ok,yom,z;let⟨p,v,s,rfl,t,d,k⟩:=h
 cases s with
 |ev _ _=>exact t.elim
 |qk _=>exact t.elim
 |rn l n =>
 have d:H p=some (.ins a.Af v (ï (.int l) (.int n))):=d;exists 1,1,yf (yu (i:=1) yom.nd rfl (Or.inl rfl) (zb T.Sh (yp4 T) z.m rfl T.Sg T.E9.B .nil vh)) (yf (y7 (pv 1) (ym (pv 0) rfl) rfl) (yf (y7 (pv 1) (ym (pv 0) rfl) rfl) (yc (yo (pv 1)))));intro q o c g J;exists q,o,rfl,ya,λL I D=>⟨rfl,?_⟩;have x:=è c g D;have r:=x _ _ d;have f:p≠q:=yb d c;ext;have C:=ye (o':=HO.ins a.Af o (ï (.int l) (.int 0))) f r;ext;exact k q o _ c ya λb u e=>ye (yb e c) (ye (yb e c) (x _ _ e))
#synth yxj ["kind"] yu8
inductive yf3(a:Ads)(vs:Υ)(H:Hp)(Q:VK)(E':XK):Prop
 |mk(k:Fin 3)(_:vs=[.str (kdS k)])(_:∀p dx H',H p=none->H' p=some (oS a dx (kd0 k))->yw H H'->Q (.ref p) H')
def va6:vq P w K mg Γ CX0 3 a.Kc a.Mx ["kind"] (yf3 a):=by
 exists T.Pg.F.ok,yxj,l;let⟨u,rfl,k⟩:=h;exists 1,0,yf (wd (y6 jj (pv 0) xc (vd _)) (yc (yo (zb T.Ql (yoo T) l.m rfl T.Qk T.E7.B .nil vh))) ve) (yf (wd (y6 jj (pv 0) xc (vd _)) (yc (yo (zb T.Pw (ypy T) l.m rfl T.Pv T.E8.B .nil vh))) ve) (yf (wd (y6 jj (pv 0) xc (vd _)) (yc (yo (zb T.Sh (yp4 T) l.m rfl T.Sg T.E9.B .nil vh))) ve) (yc Ñ)));exists rfl,?_
 match u with
 |0 =>
  exists _,rfl,ybu rfl ?_;ext;intro p g d c q;exists p,g,rfl,ya,λj f i=>⟨rfl,?_⟩;exact k p g j d f λb o e=>i b o (by rw[yk (yb e d),yk (yb e c)];exact e) (yb e d)
 |1 =>
  exists _,rfl,ygb (by intro z;injection z with z;revert z;decide+kernel) ?_;ext;exists rfl,?_;exists _,rfl,ybu rfl ?_;ext;intro p g d c q;exists p,g,rfl,ya,λj f i=>⟨rfl,?_⟩;exact k p g j d f λb o e=>i b o (by rw[yk (yb e d),yk (yb e c)];exact e) (yb e d)
 |2 =>
  exists _,rfl,ygb (by intro z;injection z with z;revert z;decide+kernel) ?_;ext;exists rfl,?_;exists _,rfl,ygb (by intro z;injection z with z;revert z;decide+kernel) ?_;ext;exists rfl,?_;exists _,rfl,ybu rfl ?_;ext;intro p g d c q;exists p,g,rfl,ya,λj f i=>⟨rfl,?_⟩;exact k p g j d f λb o e=>i b o (by rw[yk (yb e d),yk (yb e c)];exact e) (yb e d)
#synth yj8 ["number","size","places"] ["number","size"] yu2
inductive yfq  (vs:Υ) (H:Hp) (Q:VK) (E':XK):Prop
 |mk(n:Int)(k:Nat)(_:vs=[.int n,.int k])(_:k<=100000)(_:∀t H',H t=none->H' t=some (.lst ((wr k n).map V.int))->yw H H'->Q (.ref t) H')
def yof:vq P w K mg Γ CX0 1 a.Kd a.My ["number","size"] yfq:=by
 exists T.Iq.F.ok,yj8,B;let⟨n,d,rfl,G,k⟩:=h;exists 2,1,yf (yu (i:=2) yj8.nd rfl (Or.inl rfl) (wx zj)) (yf (j8 PassesOwn.never (y6 ſ (pcB yr T.Ad (pa1 (pv 2))) (pv 1) (vd _)) (yf (yt (ji PySem.F.plainAttrs_list PySem.F.slot_list_append PySem.F.type_list_append w6 (pv 2) (pa1 (yp xi (pv 0) yh)))) (yc (yu (i:=0) yj8.nd rfl (Or.inl rfl) (yp vx (pv 0) yh))))) (yf (yt (yei PySem.F.plainAttrs_list PySem.F.slot_list_reverse PySem.F.type_list_reverse Ļ (pv 2))) (yc (yo (pv 2)))));exists by walk_at "len",λt j=>?_
 ext;exists λm σ' u=>∃(f:Int)(c:Ρ),σ'=[some (.int f),some (.int d),some (.ref t)]/\u t=some (.lst (c.map V.int))/\yw H u/\c++lo (d-c.length) f=lo d n/\c.length<=d/\m=d-c.length,⟨_,n,[],rfl,ya,vg j,rfl,cP _,rfl⟩,?_;rintro m σ2 C ⟨f,c,rfl,g,r,l,D,rfl⟩;ext;refine ut (SqL.of g) ?_;rw[bI];ext;refine zn (λz=>?_) (λz=>?_)
 .refine ybj ?_;ext;refine jh g ?_;ext;refine x0 g (by rw[bI];exact vi ()) ?_;ext;exists _,?_,f/256,c++[f%256],rfl,(ya.trans (by rw[yl5])),λb o e=>?_,?_,?_,rfl
  .rw[cj];show d-(c.length+1)<d-c.length;omega
  .rw[yk (yb e j)];exact r b o e
  .have p:d-c.length=d-(c++[f%256]).length+1:=by
    rw[cj];show d-c.length=d-(c.length+1)+1;omega
   rw[p]at l;rw[<- l,cY];rfl
  .rw[cj];show c.length+1<=d;omega
 .ext;have p:d-c.length=0:=()
  rw[p]at l;have x:c=lo d n:=by rw[<- l];simp[lo]
  refine jh g ?_;refine yar g ?_;ext;refine k t _ j ?_ λb o e=>?_
  .rw[ya,ytz,x];rfl
  .rw[yk (yb e j)];exact r b o e
#synth vah ["low","unit"] yv4
inductive Į  (vs:Υ) (H:Hp) (Q:VK) (E':XK):Prop
 |mk(l e:Int)(_:vs=[.int l,.int e])(_:0<e)(_:e<2^63)(_:Q (.int (blk l e)) H)
def yo8:vq P w K mg Γ CX0 1 a.Ke a.Mz ["low","unit"] Į:=by exists T.Ir.F.ok,vah,f;let⟨l,e,rfl,g,i,k⟩:=h;exists 2,0,yc (yo (yp vx (yp zh (yp vw (pv 0) (pv 1)) yh) (pv 1)));exact k
#synth vbs ["self"] yui
inductive yts(C:z4)(vs:Υ)(H:Hp)(Q:VK)(E':XK):Prop
 |mk(p dx:z4)(_:vs=[.ref p])(_:H p=some (.ins C dx []))(_:∀H',H' p=some (.ins C dx (j5 s0))->But p H H'->Q .non H')
def yop:vq P w K mg Γ CX0 1 a.I2 a.N0 ["self"] (yts a.A5):=by
 exists T.Ea.F.ok,vbs,j;let⟨p,c,rfl,g,k⟩:=h;exists 1,0,yf (y7 (pv 0) yh rfl) (yf (y7 (pv 0) (vo rfl T.Fl) rfl) (yc (y7 (pv 0) (vo rfl T.Hl) rfl)));exists p,_,c,_,rfl,g,T.Ak,T.C5,by show 0<1000;decide,?_
 ext;exists p,_,c,_,rfl,ya,T.Ak,T.B0,by show 1<1000;decide,?_
 ext;exists p,_,c,_,rfl,ya,T.Ak,T.Bg,by show 2<1000;decide,?_
 have e:μ "size" (.int 5) (μ "width" (.int 1099511627776) (μ "low" (.int 0) []))=j5 s0:=by
  rw[wl,vt nLW wl,vt nLS (vt nWS wl)];rfl
 refine k _ (ya.trans (congrArg (λl=>some (HO.ins a.A5 c l)) e)) λb o h n=>?_;rw[yk n,yk n,yk n];exact h
#synth yxx ["self","chance"] ywh
inductive vcg(C:z4)(vs:Υ)(H:Hp)(Q:VK)(E':XK):Prop
 |mk(p dx:z4)(x:Sn)(c:Int)(_:vs=[.ref p,.int c])(_:H p=some (.ins C dx (j5 x)))(_:Ch c)(_:Q (.int (cut x.2.1 c)) H)
def ypc:vq P w K mg Γ CX0 1 a.Kg a.N2 ["self","chance"] (vcg a.A5):=by exists T.Eb.F.ok,yxx,g;let⟨p,e,x,c,rfl,j,⟨l,i⟩,k⟩:=h;exists 2,0,yc (yo (yp vx (yp wv (ym (pv 0) rfl) (pv 1)) (vo rfl T.Dh)));exact k
#synth ypb ["self","chance","bit","cut"] ["self","chance","bit"] yu9
inductive yho(K:z3)(C Nc Nb:z4)(vs:Υ)(H:Hp)(Q:VK)(E:XK):Prop
 |mk(p dx:z4)(x:Sn)(vc vb:V)(n m:String)(_:vs=[.ref p,vc,vb])(_:H p=some (.ins C dx (j5 x)))(_:Ok x)(_:xt K H vc (.type n))(_:xt K H vb (.type m))(_:(chV vc=false->E (.ref Nc) none H))(_:(chV vc=true->û vb=false->E (.ref Nb) none H))(_:∀c b:Int,vc=.int c->vb=.int b->Ch c->0<=b->b<=1->∀H',H' p=some (.ins C dx (j5 (nar x c b)))->But p H H'->Q .non H')
def ypm:vq P w K mg Γ (CXe P w) 4 a.Kh a.N3 ["self","chance","bit"] (yho K a.A5 a.E6 a.Cc):=by
 exists T.Ec.F.okE,ypb,j;let⟨p,g,x,C,G,n,m,rfl,D,J,tc,Z,M,N,k⟩:=h;exists _,(yf (yt (ul (yu7 T) j.m T.Q6 yy (pa1 (pv 1)))) (yf (yt (ul (Ĥ T) j.m T.Cw yy (pa1 (pv 2)))) (yf (yu (i:=3) ypb.nd rfl (Or.inl rfl) (wn (pv 0) T.Ak T.Eb.m (ypc T) j.m T.Eb.B .nil vh (pa1 (pv 1)))) (yf (Ģ (wd (y6 jj (pv 2) yh (vd _)) (yc (y7 (pv 0) (pv 3) rfl)) (yf (y7 (pv 0) (yp vw (ym (pv 0) rfl) (pv 3)) rfl) (yc (y7 (pv 0) (yp zh (ym (pv 0) rfl) (pv 3)) rfl))))) (yc (PS.nox (j8 PassesOwn.never (y6 ſ (ym (pv 0) rfl) (vo rfl T.Fm) (vd _)) (yf (y7 (pv 0) (yp wv (ym (pv 0) rfl) yh) rfl) (yf (y7 (pv 0) (yp wv (ym (pv 0) rfl) yh) rfl) (yc (y7 (pv 0) (yp vw (ym (pv 0) rfl) yh) rfl))))))))))),?_;exists 3,1;have t:=J.w0;have v:=J.w1;ext;exists C,n,rfl,tc,λf=>?_,M;ext;exists G,m,rfl,Z,λo=>?_,N f;let⟨c,rfl,O,c2⟩:=yct f;let⟨b,rfl,b0,R⟩:=ydq o;have u:Ch c:=⟨O,c2⟩;have k:=k c b rfl rfl u b0 R;ext;exists p,g,_,rfl,D,lkN _ (by right) (by right) (by right),?_;ext;exists p,g,x,c,rfl,D,u,?_;ext;let⟨X,L,a3⟩:=ybi t v u;refine ynw (λσ' e=>∃y:Sn,σ'=[some (.ref p),some (.int c),some (.int b),some (.int (cut x.2.1 c))]/\e p=some (.ins a.A5 g (j5 y))/\8388608<=y.2.1/\y.2.1<=1099511627776/\ren y.1 y.2.1 y.2.2=nar x c b/\But p H e) ?_ ?_
 .ext;refine zn (λd=>?_) (λd=>?_)
  .ext;exists _,rfl,ya,X,Int.le_of_lt a3,?_,But.upd;unfold nar
   (rw[if_pos d])<;>rfl
  .ext;exists _,rfl,ya,L,?_,?_,But.upd.trans But.upd
   .show x.2.1-cut x.2.1 c<=_;omega
   .unfold nar
    (rw[if_neg d])<;>rfl
 .rintro σ' e ⟨y,rfl,l,Y,y2,S,y4⟩;ext;exists λm σ' e=>∃y:Sn,σ'=[some (.ref p),some (.int c),some (.int b),some (.int (cut x.2.1 c))]/\e p=some (.ins a.A5 g (j5 y))/\8388608<=y.2.1/\y.2.1<=1099511627776/\ren y.1 y.2.1 y.2.2=nar x c b/\But p H e/\m=(4294967296-y.2.1).toNat,⟨_,y,rfl,l,Y,y2,S,y4,rfl⟩,?_;rintro m σ2 H2 ⟨z,rfl,U,z1,z2,r,I,rfl⟩;ext;refine zn (λd=>?_) (λd=>?_)
  .refine ybj ?_;ext;exists _,?_,(z.1*256,z.2.1*256,z.2.2+1),rfl,ya,?_,?_,(yne d z1).trans r,((I.trans But.upd).trans But.upd).trans But.upd,rfl
   .show (4294967296-z.2.1*256).toNat<(4294967296-z.2.1).toNat;omega
   .show 8388608<=z.2.1*256;omega
   .show z.2.1*256<=1099511627776;omega
  .rw[ys4 d]at r;refine k _ ?_ I;rw[<- r];exact U
#synth vad ["self","unit"] yuk
inductive ym2(C:z4)(vs:Υ)(H:Hp)(Q:VK)(E':XK):Prop
 |mk(p dx:z4)(x:Sn)(j:Nat)(_:vs=[.ref p,.int (pw j)])(_:H p=some (.ins C dx (j5 x)))(_:j<=6)(_:Q (.bl (decide (ygh x.1 x.2.1 j))) H)
def vb9:vq P w K mg Γ CX0 2 a.Ki a.N4 ["self","unit"] (ym2 a.A5):=by
 exists T.Is.F.ok,vad,d;let⟨p,e,x,j,rfl,l,g,k⟩:=h;exists _,(yc (yo (jd jk (yp wv (yp vw (xx (yo8 T) d.m T.Ir (pac (ym (pv 0) rfl) (pa1 (pv 1)))) yh) (pv 1)) (yp vw (ym (pv 0) rfl) (ym (pv 0) rfl)) (vd _)))),?_;exists 2,0;have n:=ydj g;have i:=zg j;ext;exists _,_,rfl,i,(),?_
 ext;exact k
#synth ybl ["self","unit","size"] ["self"] yvz
inductive yq7(C:z4)(vs:Υ)(H:Hp)(Q:VK)(E':XK):Prop
 |mk(p dx:z4)(x:Sn)(_:vs=[.ref p])(_:H p=some (.ins C dx (j5 x)))(_:OkS x)(_:sz x<=100000)(_:∀t H',H t=none->H' t=some (.lst ((tL x).map V.int))->yw H H'->Q (.ref t) H')
def ypo:vq P w K mg Γ CX0 3 a.Kj a.N5 ["self"] (yq7 a.A5):=by
 exists T.Ed.F.ok,ybl,d;let⟨p,e,x,rfl,o,g,z,k⟩:=h;exists 1,2,yf (yu (i:=1) ybl.nd rfl (Or.inl rfl) yh) (yf (yu (i:=2) ybl.nd rfl (Or.inl rfl) (ym (pv 0) rfl)) (yf (j8 PassesOwn.never (ug (wn (pv 0) T.Ak T.Is.m (vb9 T) d.m T.Is.B .nil vh (pa1 (yp wv (pv 1) yh)))) (yf (yu (i:=1) ybl.nd rfl (Or.inl rfl) (yp wv (pv 1) yh)) (yc (yu (i:=2) ybl.nd rfl (Or.inl rfl) (yp zh (pv 2) yh))))) (yc (yo (xx (yof T) d.m T.Iq (pac (xx (yo8 T) d.m T.Ir (pac (ym (pv 0) rfl) (pa1 (pv 1)))) (pa1 (pv 2))))))));exists λm σ' u=>u=H/\∃j:Nat,σ'=[some (.ref p),some (.int (pw j)),some (.int (x.2.2-j))]/\j<=5/\tel x.1 x.2.1 (5-j) j=tK x/\m=6-j,⟨_,rfl,0,by simp[pw],∅,rfl,rfl⟩,?_;rintro m σ2 D ⟨rfl,j,rfl,C,n,rfl⟩;have y:=ydj (show j<=6 by omega);have v:=zg j;ext;exists p,e,_,rfl,o,lkN _ (by right) (by right) (by right),?_;ext;exists p,e,x,j+1,rfl,o,(),?_
 ext;refine zn (λb=>?_) (λb=>?_)
 .refine ybj ?_;ext;have r:=yqm g.ok.w1 b;exists _,?_,rfl,j+1,?_,r,?_,rfl
  .show 6-(j+1)<6-j;omega
  .have l:x.2.2-(j:Int)-1=x.2.2-((j+1:Nat):Int):=()
   rw[l];rfl
  .rw[ylt b,<- n]
   congr 1
   omega
 .have c:j=tK x:=by rw[<- n,yt0 b]
  subst c;ext;exists _,_,rfl,v,(),?_
  ext;have G:=g.sz;have I:=(yv6 g).2;have l:x.2.2-(tK x:Int)=((sz x-tK x:Nat):Int):=()
  rw[l];exists _,_,rfl,(),k
#synth vbi ["thing"] ywx
inductive yfi(K:z3)(vs:Υ)(H:Hp)(Q:VK)(E':XK):Prop
 |mk(x n:_)(_:vs=[x])(_:xt K H x (.type n))(_:Q (.bl (yk8 x)) H)
def van:vq P w K mg Γ CX0 1 a.Kk a.N6 ["thing"] (yfi K):=by
 exists T.Ph.F.ok,vbi,g;let⟨x,n,rfl,b,k⟩:=h;exists 1,0,yc (yo (zz (pcB wt T.Ab (pac (pv 0) (pa1 (Ù (T:="str") rfl T.Q3 (by right))))) (Ø (jd ya6 (pv 0) (å rfl T.Hn) (by with_unfolding_all rfl)))));refine Ĩ b (ydh b) ?_;ext;by_cases hn:n="str"
 .obtain⟨s',rfl⟩:∃s',x=.str s':=by
   cases b with
   |str s'=>exists s',rfl
   |_=>exact absurd hn ∅
  rw[cz hn];refine yac ?_;ext;exists a.Bl,_,rfl,.inr (T.Ho H),rfl,rfl,k
 .have e:yk8 x=false:=by
   cases b with
   |str s'=>exact absurd rfl hn
   |_=>rfl
  rw[cH hn];rw[e]at k;exact jq k
#synth yzp ["thing"] ywm
inductive yck(K:z3)(vs:Υ)(H:Hp)(Q:VK)(E':XK):Prop
 |mk(x n:_)(_:vs=[x])(_:xt K H x (.type n))(_:Q (.bl (plV x)) H)
def vcm:vq P w K mg Γ CX0 2 a.Kl a.N7 ["thing"] (yck K):=by
 exists T.Pi.F.ok,yzp,f;let⟨x,n,rfl,j,k⟩:=h;exists 1,0,yc (yo (zz (xx (ylb T) f.m T.If (pa1 (pv 0))) (Ø (Ð jk jk yh (pv 0) (vo rfl T.Js)))));exists x,n,rfl,j,?_;ext
 cases hx:τ x with
 |false =>
  have e:plV x=false:=by
   cases x<;>first|rfl|cases hx
  rw[e]at k;exact jq k
 |true =>
  let⟨i,rfl⟩:=zv hx;refine yac ?_;ext;refine zn (λb=>?_) (λb=>?_)
  .ext;have e:plV (.int i)=decide (i<=8):=by simp[plV,b]
   rw[e]at k;exact k
  .have e:plV (.int i)=false:=by simp[plV,b]
   rw[e]at k;exact k
#synth yxu ["thing"] yue
inductive ő(K:z3)(vs:Υ)(H:Hp)(Q:VK)(E':XK):Prop
 |mk(x b:_)(_:vs=[x])(_:PlB K H x b)(_:∀H',yw H H'->Q (.bl b) H')
def yym:vq P w K mg Γ CX0 3 a.Km a.N8 ["thing"] (ő K):=by
 exists T.Pj.F.ok,yxu,X;let⟨x,b,rfl,hb,k⟩:=h;exists _,(yf (wd (PW.pt (j4 (x9 (ug (pcB wt T.Ab (pac (pv 0) (pa1 (Ù (T:="tuple") rfl T.Cv (by right))))))) (j4 (y6 yk9 (pcB yr T.Ad (pa1 (pv 0))) (vo rfl T.Fn) (vd _)) (jo (x9 (ug (pcB (η rfl) T.Dx (pa1 (wc (js:=[]) (ys:=[]) rfl (yex (pv 0)) (λC U G R=>(xx (vcm T) X.m T.Pi (pa1 (pv 0)))) rfl rfl (hyc:=y8) (hrel:=y8)))))))))) (yc (yo ú)) ve) (yc (yo (pcB (η rfl) T.Dx (pa1 (yea (js:=[]) (ys:=[]) (xs:=["near","far"]) (g:=yxa K 2 (ν (xg 0) (ν (xg 1) yn4))) rfl (yrb rfl T.Jk (pac (pv 0) (pa1 (xp (yx8.or ytq) (pv 0) (xv yh) uo)))) (λC U G R=>(jd ſ (pv 0) (pv 1) (vd _))) rfl (λC U G R=>ye0 rfl (zf (we (i:=0) (show List.Nodup ((["near","far"]:Τ)++([]:Τ)) by right) rfl (Or.inl rfl)) (zf (we (i:=1) (show List.Nodup ((["near","far"]:Τ)++([]:Τ)) by right) rfl (Or.inl rfl)) ż))) rfl (hyc:=y8) (hrel:=y8))))))),?_;exists 1,0;rcases hb with⟨n,S,hn,rfl⟩|⟨t,xs,rfl,I,hl,Z,rfl⟩
 .ext;refine Ĩ S (Ā S) ?_;ext;refine yw0 hn ?_;ext;exact k _ (yw.refl _)
 .ext;refine Ĩ (.tup I) (Ā (.tup I)) ?_;ext;refine ywf rfl ?_;ext;refine yqt (SqT.of I) ?_;ext;unfold ur at k;refine zn (λh4=>?_) (λh4=>?_)
  .rw[cH (),Bool.false_and,Bool.false_and]at k;ext;exact k _ (yw.refl _)
  .rw[cz (),Bool.true_and]at k;ext;exists t,rfl,⟨_,SqT.of I⟩,λD W=>?_;refine ygn (xs:=xs) (λv=>.bl (plV v)) (SqT.of I) W (λi y G J q f=>?_) (λG q f=>?_)
   .obtain⟨n,O⟩:=Z y (cB J);ext;exists y,n,rfl,Ň q O,?_;exact Mp.done W (vi ()) J q f rfl
   have e:xs.map (λv=>V.bl (plV v))=(xs.map plV).map V.bl:=by rw[cX];rfl
   rw[e]at f;ext;exists D,_,rfl,SqL.of f,?_;rw[List.all_map];have ea:xs.all (id ∘ plV)=xs.all plV:=rfl;rw[ea];have c:=q _ _ I
   cases hp:xs.all plV with
   |false =>
    rw[hp,Bool.false_and]at k;ext;exact k _ q
   |true =>
    rw[hp,Bool.true_and]at k
    have l:∀y∈xs,∃i:Int,y=.int i:=λy hm=>by
     have:=List.all_eq_true.mp hp y hm
     cases y with
     |int i=>exists i,rfl
     |_=>cases this
    ext;by_cases hx0:xs=[]
    .refine .inr ⟨t,xs,rfl,SqT.of c,?_,?_⟩
     .subst hx0;exists rfl,rfl
     .exists t,t,rfl,⟨_,_,SqT.of c,SqT.of c⟩,λD2 d=>?_;refine yjb (xs:=xs) l () (SqT.of c) (by subst hx0;exact SqT.of c) d (λi j σ' H' Q' h=>?_) (λY M B=>?_)
      .ext;exact h
      .ext;exists D2,_,rfl,SqL.of B,k _ (q.trans M)
    .refine .inl ⟨t,xs,rfl,SqT.of c,?_,λu hu=>?_⟩
     .rintro ⟨z,_⟩
      have e1:HT.sIx xs.length 0 (some 1)=min 1 xs.length:=by
       have:=HT.sIx_nat xs.length 0 1;simpa using this
      rw[e1]at z
      cases xs with
      |nil=>exact hx0 rfl
      |cons x r=>simp at z
     .rw[ysp];have L:=vg (o:=(HO.tup xs.tail)) hu;have p:upd G u (HO.tup xs.tail) u=some (HO.tup xs.tail):=ya;generalize upd G u (HO.tup xs.tail)=H3 at L p⊢;exists t,u,rfl,⟨_,_,SqT.of (L _ _ c),SqT.of p⟩,λD2 d=>?_;refine yjb (xs:=xs) l () (SqT.of (L _ _ c)) (SqT.of p) d (λi j σ' H' Q' h=>?_) (λY M B=>?_)
      .ext;exact h
      .ext;exists D2,_,rfl,SqL.of B,k _ (q.trans (L.trans M))
#synth yxw ["thing"] yum
inductive yf0(K:z3)(vs:Υ)(H:Hp)(Q:VK)(E':XK):Prop
 |mk(x b:_)(_:vs=[x])(_:LkB K H x b)(_:∀H',yw H H'->Q (.bl b) H')
def yon:vq P w K mg Γ CX0 4 a.Kn a.N9 ["thing"] (yf0 K):=by
 exists T.Iu.F.ok,yxw,i;let⟨x,b,rfl,d,k⟩:=h;exists _,(yc (yo (zz (pcB wt T.Ab (pac (pv 0) (pa1 (Ù (T:="tuple") rfl T.Cv (by right))))) (zz (jd jj (pcB yr T.Ad (pa1 (pv 0))) yh (vd _)) (zz (xx (van T) i.m T.Ph (pa1 (xf jn (pv 0) yh (λZ Z=>rfl)))) (Ø (xx (yym T) i.m T.Pj (pa1 (xf jn (pv 0) yh (λZ Z=>rfl)))))))))),?_;exists 1,0;rcases d with⟨n,e,o,rfl⟩|⟨t,p,rfl,c,d⟩
 .ext;refine Ĩ e (Ā e) ?_;ext;rw[cH o];exact jq (k _ (yw.refl _))
 .ext;refine Ĩ (.tup c) (Ā (.tup c)) ?_;ext;refine ybu rfl ?_;ext;refine yqt (SqT.of c) ?_;ext;rcases d with⟨u,rfl⟩|⟨y,z,n,rfl,e,d⟩
  .rw[cH (show ¬((p.length:Int)=2) by omega)];exact jq (k _ (yw.refl _))
  .refine ybu rfl ?_;ext;refine ybt (SqT.of c) (w9 (j:=0) rfl) ?_;ext;exists y,n,rfl,e,?_;rcases d with⟨f,rfl⟩|⟨f,q⟩
   .rw[f];ext;exact k _ (yw.refl _)
   .rw[f];ext;refine ybt (SqT.of c) (w9 (j:=1) rfl) ?_;ext;exists z,b,rfl,q,k
#synth vbq ["thing"] yuv
def yic(K:z3)(C:z4):Sp:=λvs H Q E=>(∃x n,vs=[x]/\xt K H x (.type n)/\n≠"list"/\E (.ref C) none H) \/
 ∃(l:z4)(xs:Υ)(bs:qi Bool),vs=[.ref l]/\H l=some (.lst xs)/\xs.length<=1000/\vfx K H xs bs/\
  ((1<=xs.length/\xs.length<=6/\bs.all id=true)->∀r H',H r=none->H' r=some (.lst xs)->yw H H'->Q (.ref r) H')/\
  (¬(1<=xs.length/\xs.length<=6/\bs.all id=true)->∀H',yw H H'->E (.ref C) none H')
def ypz:vq P w K mg Γ (CXe P w) 5 a.Ko a.Na ["thing"] (yic K a.Fk):=by
 refine T.Iv.F.okE vbq (λX H Q E h=>?_) (λU A v s H X Q E G h=>?_)
 .rcases h with⟨x,n,rfl,_⟩|⟨l,xs,f,rfl,_⟩
  .rfl
  .rfl
 .rcases h with⟨x,n,rfl,I,S,k⟩|⟨l,xs,j,rfl,d,Z,o,R,q⟩
  .exists _,(yf (wd (PW.pt (j4 (x9 (ug (pcB wt T.Ab (pac (pv 0) (pa1 (Ù (T:="list") rfl T.Ae (by right))))))) (j4 (x9 (ũ jk jk yh (pcB yr T.Ad (pa1 (pv 0))) (vo rfl T.Dk))) (jo (x9 (ug (pcB (η rfl) T.Dx (pa1 (wc (js:=[]) (ys:=[]) rfl (wz (pv 0)) (λC W B O=>(xx (yon T) G.m T.Iu (pa1 (pv 0)))) rfl rfl (hyc:=y8) (hrel:=y8)))))))))) (yc (wy rfl T.Tb T.Rz (pa1 xc))) ve) (yc (yo (pcT vj T.Ae (pa1 (pv 0)))))),?_;refine yj (σ':=[some _]) rfl ?_;ext;refine Ĩ I (yd0 I) ?_;ext;refine yw0 S ?_;ext;exists by walk_at "len",k
  .exists _,(yf (wd (PW.pt (j4 (x9 (ug (pcB wt T.Ab (pac (pv 0) (pa1 (Ù (T:="list") rfl T.Ae (by right))))))) (j4 (x9 (ũ jk jk yh (pcB yr T.Ad (pa1 (pv 0))) (vo rfl T.Dk))) (jo (x9 (ug (pcB (η rfl) T.Dx (pa1 (wc (js:=[]) (ys:=[]) rfl (wz (pv 0)) (λC W B O=>(xx (yon T) G.m T.Iu (pa1 (pv 0)))) rfl rfl (hyc:=y8) (hrel:=y8)))))))))) (yc (wy rfl T.Tb T.Rz (pa1 xc))) ve) (yc (yo (pcT vj T.Ae (pa1 (pv 0)))))),?_;refine yj (σ':=[some _]) rfl ?_;ext;refine Ĩ (.lst d) (yd0 (.lst d)) ?_;ext;refine ywf rfl ?_;ext;refine ut (SqL.of d) ?_;ext;refine zn (λN=>?_) (λN=>?_)
   .ext;refine yxe (λY=>?_) (λY=>?_)
    .ext;exists l,rfl,⟨_,SqL.of d⟩,λD M=>?_;refine zx (K:=K) (xs:=xs) (Mp H D (λi=>V.bl ((j[i]?).getD false))) (Mp.zero M) (λY Y Y p=>p.1.seq (SqL.of d)) (λi y B u L p=>?_) (λB p=>?_)
     .obtain⟨c,b⟩:=p;have e:i<j.length:=by rw[<- o.1];exact L
      ext;exists y,j[i],rfl,(o.2 i y _ u (ci e)).same c,λH3 J=>?_;refine Mp.doneR M (vi ()) L (c.trans J) (J _ _ b) ?_;rw[ci e];rfl
     let⟨c,b⟩:=p;rw[ym4 j o.1]at b;ext;exists D,_,rfl,SqL.of b,?_;have t:=c _ _ d
     cases hp:j.all id with
     |false =>
      ext;exists by walk_at "len",q (by rw[hp];rintro ⟨_,_,z⟩;cases z) _ c
     |true =>
      ext;refine ŭ (SqL.of t) λr g=>?_;exact R ⟨(),(),hp⟩ r _ (c.free g) ya (c.trans (vg g))
    .ext;exists by walk_at "len",q () _ (yw.refl _)
   .ext;exists by walk_at "len",q () _ (yw.refl _)
#synth yx1 ["signs","place"] yvo
inductive ylz(K:z3)(vs:Υ)(H:Hp)(Q:VK)(E':XK):Prop
 |mk(l:z4)(sg:Ρ)(p:Int)(_:vs=[.ref l,.int p])(_:SqL K H l (sg.map V.int))(_:1<=p)(_:Q (.int (yqw sg p)) H)
def yz6:vq P w K mg Γ CX0 1 a.Kp a.Nd ["signs","place"] (ylz K):=by
 exists T.Pk.F.ok,yx1,n;let⟨l,i,p,rfl,f,j,k⟩:=h;exists 2,0,yc (yo (ε (y6 jk (pv 1) (pcB yr T.Ad (pa1 (pv 0))) (vd _)) (xf wk (pv 0) (yvy ykc (pv 1)) (λZ Z=>rfl)) (vo rfl T.Q9)));refine ut f ?_;rw[bI];ext;unfold yqw at k;refine zn (λb=>?_) (λb=>?_)
 .rw[if_pos b]at k;let⟨c,e,_⟩:=ynk j b;rw[e]at k;ext;exact Û f (by rw[ytu,e];rfl) k
 .rw[if_neg b]at k;ext;exact k
#synth yz8 ["look","signs","node"] yws
def z0(K:z3)(H:Hp)(k:z4)(x:V)(ps:Ρ):Prop:=∃t,SqT K H k [x,.ref t]/\SqT K H t (ps.map V.int)/\(∀p∈ps,1<=p/\p<=8)/\ps.length<=4
def z0.same{H H':Hp}{k:z4}{x:V}{ps:Ρ}(S:yw H H')(h:z0 K H k x ps):z0 K H' k x ps:=by let⟨t,b,d,a,c⟩:=h;exists t,S.tup b,S.tup d,a,c
def ctx(ps sg:Ρ)(nd:Int):Ρ:=ps.map (yqw sg)++[nd]
def bkV(sg:Ρ):V->V
 | .int p=>.int (yqw sg p)
 |_=>.non
def yto(sg ps:Ρ):(ps.map V.int).map (bkV sg)=(ps.map (yqw sg)).map V.int:=by rw[cX,cX];rfl
inductive yfu(K:z3)(vs:Υ)(H:Hp)(Q:VK)(E':XK):Prop
 |mk(k l:z4)(x:V)(ps sg:Ρ)(nd:Int)(_:vs=[.ref k,.ref l,.int nd])(_:z0 K H k x ps)(_:SqL K H l (sg.map V.int))(_:∀r H',H r=none->H' r=some (.tup ((ctx ps sg nd).map V.int))->yw H H'->Q (.ref r) H')
def yzh:vq P w K mg Γ CX0 2 a.Kq a.Nf ["look","signs","node"] (yfu K):=by
 exists T.Pl.F.ok,yz8,J;let⟨X,l,x,u,g,O,rfl,⟨t,U,I,o,L⟩,M,k⟩:=h;exists 3,0,yc (yo (pcT È T.Cv (pa1 (yp Ö (wc (js:=[1]) (ys:=["signs"]) rfl (yex (xf jn (pv 0) yh (λZ Z=>rfl))) (λC Y B W=>(xx (yz6 T) J.m T.Pk (pac (pv 1) (pa1 (pv 0))))) rfl rfl (hyc:=(all_cons rfl y8)) (hrel:=(all_cons rfl y8))) (wx (pa1 (pv 2)))))));refine ybt U (w9 (j:=1) rfl) ?_;exists t,rfl,⟨_,I⟩,λD G=>?_;have v:(u.map V.int).length<sizeLine:=vi (by rw[bI];omega);refine ľ (xs:=u.map V.int) (bkV g) I G (λi y B z e b=>?_) (λB e b=>?_)
 .obtain⟨p,rfl,q,_,_⟩:=Ú z;ext;exists l,g,p,rfl,e.seq M,(o p q).1,?_;exact Mp.done G v z e b rfl
 .rw[yto]at b;ext;exists by walk_at "len",λn hn=>?_
  exists hn,H3,S3,hn3;exists D,n,_,_,rfl,rfl,S3 _ _ b,hn3,xu (by rw[bI,bI];show _+1<=_;omega),λc hc=>?_;exists hc,H4,S4,hc4;exists c,_,rfl,.inl ⟨SqL.of hc4,λr d=>?_⟩;have S:=e.trans (S3.trans S4);refine k r _ (S.free d) (ya.trans ?_) (S.trans (vg d));unfold ctx;rw[cA];rfl
#synth yxs ["self","look"] yvr
inductive yhf(a:Ads)(vs:Υ)(H:Hp)(Q:VK)(E':XK):Prop
 |mk(p dx lk:z4)(kd:Fin 3)(_:vs=[.ref p,.ref lk])(_:H p=some (.ins a.Ac dx []))(_:∀d H',H d=none->Ý a H' p dx lk d kd (λZ=>none) (λb=>b=d) 0->But p H H'->Q .non H')
def yqf:vq P w K mg Γ CX0 1 a.I3 a.Ng ["self","look"] (yhf a):=by
 exists T.Ee.F.ok,yxs,C;let⟨p,j,i,y,rfl,u,k⟩:=h;exists 2,0,yf (y7 (pv 0) (pv 1) rfl) (yc (y7 (pv 0) ydx rfl));intro d l
 have c:H d=none:=by
  cases e:H d with
  |none=>rfl
  |some o =>
   by_cases z:d=p
   .rw[z,ya]at l;cases l
   .rw[yk z,e]at l;cases l
 have g:d≠p:=λz=>by rw[z,u]at c;cases c
 have m:=jx (o':=HO.dT []) l (show upd H p (HO.ins a.Ac j ([("look",V.ref i)]:Ι)) p=some (HO.ins a.Ac j ([("look",V.ref i)]:Ι))from ya);have f:upd (upd H p (HO.ins a.Ac j ([("look",V.ref i)]:Ι))) d (.dT []) d=some (.dT []):=ya;have r:But p H (upd (upd H p (HO.ins a.Ac j ([("look",V.ref i)]:Ι))) d (.dT [])):=λb o e n=>by rw[yk (yb e c),yk n];exact e
 generalize upd (upd H p (HO.ins a.Ac j ([("look",V.ref i)]:Ι))) d (.dT [])=D at m f r⊢;ext
 refine k d _ c ⟨ya,λb B=>⟨HO.dT [],by cases B;exact ye g f,rfl⟩,λz=>g z.symm,rfl,λv e=>(by cases (ye g f).symm.trans e;exact⟨List.nodup_nil,λZ z=>(nomatch z)⟩),[],λZ=>(0,0),ye g f,cq _,λZ Z=>rfl,λZ Z z=>(nomatch z),λZ Z Z Z z=>(nomatch z)⟩ (r.trans But.upd)
#synth yp1 ["self","signs","node","context"] ["self","signs","node"] yut
inductive yhg(K:z3)(a:Ads)(vs:Υ)(H:Hp)(Q:VK)(E':XK):Prop
 |mk(p dx lk d sl:z4)(kd:Fin 3)(f:qi Int->qj Slt)(O:Ν)(m:Nat)(ps sg:Ρ)(nd:Int)(_:vs=[.ref p,.ref sl,.int nd])(_:Ý a H p dx lk d kd f O m)(_:m<1000000)(_:z0 K H lk (.str (kdS kd)) ps)(_:SqL K H sl (sg.map V.int))(_:∀(q:z4)(O':Ν)(H':Hp),Ý a H' p dx lk d kd (ā f (ctx ps sg nd) ((f (ctx ps sg nd)).getD (kd0 kd))) O' (m+1)->(∀kvs,H' d=some (.dT kvs)->u8 kvs (kI (ctx ps sg nd))=some (.ref q))->(∀c,O' c->O c\/H c=none)->(∀c,O c->O' c)->yn9 O H H'->Q (.ref q) H')
set_option tactic.hygienic true in
def yxv:vq P w K mg Γ CX0 4 a.Kr a.Nh ["self","signs","node"] (yhg K a):=by
 exists T.Iw.F.ok,yp1,W;let⟨p,dx,lk,d,sl,G,f,O,m,ps,sg,nd,rfl,hb,hm,hl,hs,k⟩:=h;have ac:=hb.me;exists 3,1,yf (yu (i:=3) yp1.nd rfl (Or.inl rfl) (xx (yzh T) W.m T.Pl (pac (ym (pv 0) rfl) (pac (pv 1) (pa1 (pv 2)))))) (yf (Ģ (wd (ykg (ya9 (u7 W) (pv 3) (ym (pv 0) rfl))) (yc (ju (u7 W) (ym (pv 0) rfl) (pv 3) (xx (va6 T) W.m T.Pg (pa1 (xf jn (ym (pv 0) rfl) yh (λF F=>rfl)))) rfl)) ve)) (yc (yo (uq (u7 W) (ym (pv 0) rfl) (pv 3) (λF F=>rfl)))));exists lk,sl,_,ps,sg,nd,rfl,hl,hs,λr H1 ad a1 Z=>?_;have l:H1 r=some (.tup ((kI (ctx ps sg nd)).map kV)):=by rw[yyv];exact a1
 generalize ctx ps sg nd=b at l k;have g:=hb.same Z;have B:=g.me;ext;refine ynw (λσ' H'=>σ'=[some (.ref p),some (.ref sl),some (.int nd),some (.ref r)]/\∃O',Ý a H' p dx lk d G (ā f b ((f b).getD (kd0 G))) O' (m+1)/\(∀c,O' c->O c\/H c=none)/\(∀c,O c->O' c)/\yn9 O H H'/\H' r=some (.tup ((kI b).map kV))) ?_ ?_
 .obtain⟨L,n,D,h2,U,R,h5⟩:=g.tb;ext;exists d,_,rfl,Ī.t D l,?_
  cases hf:f b with
  |none =>
   rw[U b hf];ext;refine yac ?_;ext;let⟨t,a8,aa,_,_⟩:=hl;refine ybt (Z.tup a8) (w9 (j:=0) rfl) ?_;ext;exists G,rfl,λq dq H2 u a0 I=>?_;ext;have M:=I _ _ B;ext;exists d,_,rfl,ydc.t (I _ _ D) (I _ _ l) (vi ()),?_;have a7:=Z.trans I;have X:q≠d:=λz=>by rw[z,D]at u;cases u
   have a3:p≠d:=λz=>g.np (z ▸ g.dO);ext;exists rfl,λc=>O c\/c=q,⟨ye a3 M,λc v=>?_,λz=>?_,.inl g.dO,yn7.snoc (g.ky L D) (U b hf) ya,ö L (kI b) (.ref q),λj=>if j=b then (q,dq)else n j,ya,?_,λj J=>?_,λj s' J=>?_,λj1 j2 s1 s2 e1 Y x=>?_⟩,λc v=>?_,λc v=>.inl v,λc o e no=>?_,ye (ww (I _ _ l) (I _ _ D) (by intro z;cases z)) (I _ _ l)
   .rcases v with v|rfl
    .obtain⟨o,ho,hi⟩:=g.own c v;by_cases z:c=d
     .rw[z];exists _,ya,rfl
     .exists o,ye z (I _ _ ho),hi
    .obtain⟨C,fs,eo⟩:=ρ a dq (kd0 G);exists _,ye X a0,by rw[eo];rfl
   .rcases z with z|z
    .exact g.np z
    .rw[z]at B;rw[B]at u;cases u
   .rw[jb _ (U b hf),cj];show _+1<=m+1;omega
   .unfold ā at J
    split at J
    .cases J
    .rename_i hne
     rw[ι,if_neg λz=>hne (ybn z)];exact U j J
   .unfold ā at J
    split at J
    .rename_i he
     subst he;cases J;dsimp only;rw[if_pos rfl,ι,if_pos rfl];exists rfl,ye X a0,yox G,ynm G,.inr rfl
    .rename_i hne
     let⟨S,y,q3,q4,q5⟩:=R j s' J;dsimp only;rw[if_neg hne,ι,if_neg λz=>hne (ybn z)]
     have a2:(n j).1≠d:=by
      let⟨C,fs,eo⟩:=ρ a (n j).2 s';rw[eo]at y;exact ww y D (by intro z;cases z)
     exists S,ye a2 (I _ _ y),q3,q4,.inl q5
   .unfold ā at e1 Y;dsimp only at x;by_cases z1:j1=b
    .by_cases z2:j2=b
     .rw[z1,z2]
     .rw[if_neg z2]at Y;rw[if_pos z1,if_neg z2]at x;let⟨_,y,_⟩:=R j2 s2 Y;have x:q=(n j2).1:=x;rw[<- x,u]at y;cases y
    .rw[if_neg z1]at e1;by_cases z2:j2=b
     .rw[if_neg z1,if_pos z2]at x;let⟨_,y,_⟩:=R j1 s1 e1;have x:(n j1).1=q:=x;rw[x,u]at y;cases y
     .rw[if_neg z2]at Y;rw[if_neg z1,if_neg z2]at x;exact h5 j1 j2 s1 s2 e1 Y x
   .rcases v with v|rfl
    .exact .inl v
    .exact .inr (Z.free u)
   .exact ye (λz=>no (z ▸ g.dO)) (a7 _ _ e)
  |some s' =>
   let⟨S,y,q3,q4,q5⟩:=R b s' hf;rw[S];ext;exists rfl,O,?_,λc v=>.inl v,λc v=>v,λc o e F=>Z _ _ e,l
   have ef:ā f b ((some s').getD (kd0 G))=f:=by
    funext j
    unfold ā
    split
    .rename_i z
     rw[z,hf];rfl
    .rfl
   rw[ef];exists g.me,g.own,g.np,g.dO,g.ky,L,n,D,Nat.le_succ_of_le h2,U,R,h5
 .rintro σ' H2 ⟨rfl,O',N,hO,hM,B2,a5⟩;have M:=N.me;let⟨L,n,D,h2,U,R,h5⟩:=id N.tb;have a6:ā f b ((f b).getD (kd0 G)) b=some ((f b).getD (kd0 G)):=by unfold ā;rw[if_pos rfl]
  let⟨S,y,q3,q4,q5⟩:=R b _ a6;ext;exists d,_,rfl,by rw[<- S];exact Ī.t D a5,?_
  exact k (n b).1 O' H2 N (λa9 e=>by rw[D]at e;cases e;exact S) hO hM B2
structure yqu(a:Ads)(H:Hp)(d:z4)(kd:Fin 3)(f:qi Int->qj Slt)(O:Ν)(m:Nat):Prop where
 own:∀b,O b->∃o,H b=some o/\yxb o=true
 dO:O d
 ky:yn7 H d
 tb:∃(kvs:qi (qi Key×V))(loc:qi Int->z4×z4),H d=some (.dT kvs)/\kvs.length<=m/\(∀k,f k=none->u8 kvs (kI k)=none)/\
  (∀k s,f k=some s->u8 kvs (kI k)=some (.ref (loc k).1)/\H (loc k).1=some (oS a (loc k).2 s)/\s.ok/\s.kind=kd/\O (loc k).1)/\(∀k j s t,f k=some s->f j=some t->(loc k).1=(loc j).1->k=j)
def yqu.same{H H':Hp}{d:z4}{kd:Fin 3}{f:qi Int->qj Slt}{O:Ν}{m:Nat}(h:yqu a H d kd f O m)(S:yw H H'):yqu a H' d kd f O m:=by
 let⟨g,e,c,w,r,j,l⟩:=h.tb;exists λb v=>?_,h.dO,h.ky.mv c (S _ _ c),g,e,S _ _ c,w,r,λk s p=>?_,l
 .obtain⟨o,t,n⟩:=h.own b v;exists o,S _ _ t,n
 .obtain⟨u,q,i⟩:=j k s p;exists u,S _ _ q,i
set_option tactic.hygienic true in
def yqu.put{H H2:Hp}{d:z4}{kd:Fin 3}{f:qi Int->qj Slt}{O:Ν}{m:Nat}{key:Ρ}{s:Slt}(h:yqu a H d kd f O m)(S:yw H H2)(nq:H q=none)(hq:H2 q=some (oS a dq s))(ok:s.ok)(hk:s.kind=kd)(hf:f key=none){kvs:qi (qi Key×V)}(hd:H2 d=some (.dT kvs)):
  yqu a (upd H2 d (.dT (ö kvs (kI key) (.ref q)))) d kd (ā f key s) (λc=>O c\/c=q) (m+1):=by
 let⟨G,g,r,R,B,A,N⟩:=h.tb;have e:=S _ _ r;rw[hd]at e;cases e;have l:q≠d:=λz=>by rw[z,r]at nq;cases nq
 have w:=h.ky kvs r;exists λc y=>?_,.inl h.dO,yn7.snoc w (B key hf) ya,ö kvs (kI key) (.ref q),λj=>if j=key then (q,dq)else g j,ya,?_,λj i=>?_,λj E i=>?_,λt p D F u n b=>?_
 .rcases y with y|rfl
  .obtain⟨o,J,P⟩:=h.own c y;by_cases z:c=d
   .rw[z];exists _,ya,rfl
   .exists o,ye z (S _ _ J),P
  .obtain⟨C,L,x⟩:=ρ a dq s;exists _,ye l hq,by rw[x];rfl
 .rw[jb _ (B key hf),cj];show _+1<=m+1;omega
 .unfold ā at i
  split at i
  .cases i
  .rename_i hne
   rw[ι,if_neg λz=>hne (ybn z)];exact B j i
 .unfold ā at i
  split at i
  .rename_i he
   subst he;cases i;dsimp only;rw[if_pos rfl,ι,if_pos rfl];exists rfl,ye l hq,ok,hk,.inr rfl
  .rename_i hne
   let⟨K,k,Q,I,M⟩:=A j E i;dsimp only;rw[if_neg hne,ι,if_neg λz=>hne (ybn z)]
   have v:(g j).1≠d:=by
    let⟨C,L,x⟩:=ρ a (g j).2 E;rw[x]at k;exact ww k r (by intro z;cases z)
   exists K,ye v (S _ _ k),Q,I,.inl M
 .unfold ā at u n;dsimp only at b;by_cases z1:t=key
  .by_cases z2:p=key
   .rw[z1,z2]
   .rw[if_neg z2]at n;rw[if_pos z1,if_neg z2]at b;let⟨_,k,_⟩:=A p F n;have b:q=(g p).1:=b;rw[<- b,nq]at k;cases k
  .rw[if_neg z1]at u;by_cases z2:p=key
   .rw[if_neg z1,if_pos z2]at b;let⟨_,k,_⟩:=A t D u;have b:(g t).1=q:=b;rw[b,nq]at k;cases k
   .rw[if_neg z2]at n;rw[if_neg z1,if_neg z2]at b;exact N t p D F u n b
def ylv{kvs:qi (qi Key×V)}{k:qi Key}{v:V}(h:(kvs.map (·.1)).Nodup)(hm:(k,v)∈kvs):u8 kvs k=some v:=by
 induction kvs with
 |nil=>cases hm
 |cons p r ih =>
  rw[db,dI]at h;rcases cG.mp hm with e|hm
  .subst e;exact xr (p:=(k,v)) rfl
  .have a:¬p.1=k:=λz=>h.1 (by rw[z];exact cn.mpr ⟨_,hm,rfl⟩);rw[xq a];exact ih h.2 hm
def Ŭ{kvs:qi (qi Key×V)}{k j:qi Key}{v:V}(h:kvs[i]?=some (k,v)):j∈(kvs.take (i+1)).map (·.1)↔(j=k\/j∈(kvs.take i).map (·.1)):=by rw[List.take_add_one,h,cA,cQ];show _\/j∈[k]↔_;rw[cJ,or_comm]
def yrp{kvs:qi (qi Key×V)}{k:qi Key}{v:V}(hn:(kvs.map (·.1)).Nodup)(h:kvs[i]?=some (k,v)):k∉(kvs.take i).map (·.1):=λm=>by
 have a:i<kvs.length:=(cE.mp h).1;rw[<- dW i kvs,cA,List.nodup_append]at hn;refine hn.2.2 _ m k ?_ rfl;rw[dC a,db,(cE.mp h).2];exact cT
#synth ybh ["self","slots","context","slot","made"] ["self"] yud
inductive ygp(a:Ads)(vs:Υ)(H:Hp)(Q:VK)(E':XK):Prop
 |mk(p dx lk d:z4)(kd:Fin 3)(f:qi Int->qj Slt)(O:Ν)(m:Nat)(_:vs=[.ref p])(_:Ý a H p dx lk d kd f O m)(_:m<1000000)(_:∀q dq d' O' H',H q=none->Ý a H' q dq lk d' kd f O' m->(∀c,O' c->H c=none)->yw H H'->Q (.ref q) H')
def yz9:vq P w K mg Γ CX0 4 a.Ks a.Ni ["self"] (ygp a):=by
 exists T.Ix.F.ok,ybh,hr;let⟨p,dx,lk,d,kd,f,O,m,rfl,hb,hm,k⟩:=h;have a9:=hb.me;let⟨g,L,h1,h2,h3,h4,h5⟩:=hb.tb;let⟨a5,ag⟩:=hb.ky g h1;refine yg (yu (i:=1) ybh.nd rfl (Or.inl rfl) ydx) ?_;refine yg (yc2 (uh PassesOwn.never rfl (ym0 (ym (pv 0) rfl)) (ye0 rfl (zf (we (i:=2) ybh.nd rfl (Or.inl rfl)) (zf (we (i:=3) ybh.nd rfl (Or.inl rfl)) ż))) (yc (ju (u7 hr) (pv 1) (pv 2) (Õ (yz (pv 3) T.Bm T.Ii.m (yy1 T) hr.m T.Ii.B .nil vh) (Õ (yz (pv 3) T.Ce T.Il.m (yyg T) hr.m T.Il.B .nil vh) (yz (pv 3) T.Co T.Ip.m (yys T) hr.m T.Ip.B .nil vh))) rfl)))) ?_;refine yg (yu (i:=4) ybh.nd rfl (Or.inl rfl) (Á T.Qn (yqf T) hr.m rfl T.Qm T.Ee.B .nil vh (pa1 (ym (pv 0) rfl)))) ?_;refine yg (y7 (pv 4) (pv 1) rfl) ?_;exists 1,4,yc (yo (pv 4));intro e ge;have S1:=vg (o:=(HO.dT [])) ge;have W:upd H e (HO.dT []) e=some (HO.dT []):=ya;generalize upd H e (HO.dT [])=H1 at S1 W⊢;have al:=S1 _ _ a9;have aa:=S1 _ _ h1;have ao:p≠d:=λz=>hb.np (z ▸ hb.dO);have J:e≠d:=λz=>by rw[z,h1]at ge;cases ge
 ext;exists d,g,rfl,aa,λob=>?_;have a8:upd H1 d (.frz ob (.dT g)) d=some (.frz ob (.dT g)):=ya;have BF:But d H1 (upd H1 d (.frz ob (.dT g))):=But.upd;generalize upd H1 d (.frz ob (.dT g))=HF at a8 BF⊢;refine yhu (λi σ2 G=>∃(v2 v3:Ψ)(fi:qi Int->qj Slt)(Y:Ν),σ2=[some (.ref p),some (.ref e),v2,v3,none]/\yqu a G e kd fi Y i/\(∀j,(kI j∈(g.take i).map (·.1)->fi j=f j)/\(kI j∉(g.take i).map (·.1)->fi j=none))/\(∀c,Y c->H c=none)/\G d=some (.frz ob (.dT g))/\But d H G)
  ⟨none,none,λF=>none,λc=>c=e,rfl,⟨λb x=>⟨.dT [],by cases x;exact BF _ _ W J,rfl⟩,rfl,λl n=>(by cases (BF _ _ W J).symm.trans n;exact⟨List.nodup_nil,λF z=>(nomatch z)⟩),[],λF=>(0,0),BF _ _ W J,cP _,λF F=>rfl,λF F z=>(nomatch z),λF F F F z=>(nomatch z)⟩,λj=>⟨λz=>(by rw[List.take_zero]at z;cases z),λF=>rfl⟩,λc z=>by cases z;exact ge,a8,λb o n ne=>BF _ _ (S1 _ _ n) ne⟩
  (by rintro i σ2 G _ ⟨_,_,_,_,_,_,_,_,w,_⟩;exact w) ?_ ?_
 .rintro i aj v σ2 G t kt r ⟨v2,v3,fi,Y,rfl,gT,gf,gO,gd,gB⟩ gt ai;let⟨I,a2⟩:=ag _ (cB r);have a2:aj=kI I:=a2;subst a2;have N:=ylv a5 (cB r)
  obtain⟨s',a7⟩:∃s',f I=some s':=by
   cases z:f I with
   |none=>rw[h3 I z]at N;cases N
   |some s'=>exists s',rfl
  let⟨S,q2,q3,q4,q5⟩:=h4 I s' a7;rw[N]at S;injection S with S;subst S
  have af:(L I).1≠d:=by
   let⟨C,fs,eo⟩:=ρ a (L I).2 s';rw[eo]at q2;exact ww q2 h1 (by intro z;cases z)
  have T1:=vg (o:=(HO.tup [V.ref kt,V.ref (L I).1])) gt;have a4:upd G t (HO.tup [V.ref kt,V.ref (L I).1]) t=some (HO.tup [V.ref kt,V.ref (L I).1]):=ya;generalize upd G t (HO.tup [V.ref kt,V.ref (L I).1])=G1 at T1 a4⊢;refine yes (SqT.of a4) rfl ?_;ext;refine yst (λQ' h=>yw2 rfl h) (T1 _ _ (gB _ _ q2 af)) λq dq G2 M a6 T2=>?_;have S2:=T1.trans T2;let⟨l,D,U,w2,w3,w4,w5⟩:=id gT.tb;have a3:fi I=none:=(gf I).2 (yrp a5 r);have ac:=S2 _ _ gd;ext;exists e,_,rfl,ydc.t (S2 _ _ U) (S2 _ _ ai) (vi (by have:=(cE.mp r).1;omega)),?_;ext;exists _,_,_,_,rfl,gT.put S2 (T1.free M) a6 q3 q4 a3 (S2 _ _ U),λj=>?_,λc hc=>?_,ye J.symm ac,λb o n ne=>ye (yb n ge) (S2 _ _ (gB _ _ n ne))
  .unfold ā;by_cases z:j=I
   .rw[if_pos z,z];exists λF=>a7.symm,λw=>absurd ((Ŭ r).mpr (.inl rfl)) w
   .rw[if_neg z];exists λw=>(gf j).1 (((Ŭ r).mp w).resolve_left λy=>z (ybn y)),λw=>(gf j).2 λy=>w ((Ŭ r).mpr (.inr y))
  .rcases hc with hc|rfl
   .exact gO c hc
   .cases z:H c with
    |none=>rfl
    |some o =>
     by_cases y:c=d
     .rw[y]at M;rw[T1 _ _ gd]at M;cases M
     .rw[T1 _ _ (gB _ _ z y)]at M;cases M
 .rintro σ2 G ⟨v2,v3,fi,Y,rfl,gT,gf,gO,gd,gB⟩
  have ab:fi=f:=by
   funext j
   have gj:=gf j;rw[dh]at gj;by_cases w:kI j∈g.map (·.1)
   .exact gj.1 w
   .rw[gj.2 w]
    cases z:f j with
    |none=>rfl
    |some s' =>
     have S:=(h4 j s' z).1;have a1:=ja (kI j) g;rw[S]at a1;let⟨pr,ad,n⟩:=d5.mp a1;exact absurd (cn.mpr ⟨pr,ad,of_decide_eq_true n⟩) w
  subst ab;exists d,ob,.dT g,λo u z=>(by rw[aa]at z;cases z),gd,?_
  have ST:yw H (upd G d (.dT g)):=λb o n=>by
   by_cases y:b=d
   .rw[y,ya];rw[y,h1]at n;exact n
   .rw[yk y];exact gB _ _ n y
  have a0:yqu a (upd G d (.dT g)) e kd fi Y g.length:=by
   let⟨l,D,U,w2,w3,w4,w5⟩:=gT.tb
   have nO:∀c,Y c->c≠d:=λc hc z=>by
    have:=gO c hc;rw[z,h1]at this;cases this
   exists λb x=>?_,gT.dO,gT.ky.mv U (ye J U),l,D,ye J U,w2,w3,λk s hk=>?_,w5
   .obtain⟨o,ho,hi⟩:=gT.own b x;exists o,ye (nO b x) ho,hi
   .obtain⟨S,q2,q3,q4,q5⟩:=w4 k s hk;exists S,ye (nO _ q5) q2,q3,q4,q5
  generalize upd G d (.dT g)=GT at ST a0⊢;have an:=ST _ _ a9;ext;intro q dq nq ak ap;exists q,dq,lk,kd,rfl,ya,λd2 G2 am ae B2=>⟨rfl,?_⟩;have S3:=è nq ak B2;have a6:=ae.me;have R:=a0.same S3;ext
  have X:¬Y q:=λw=>by
   let⟨o,ho,_⟩:=a0.own q w;rw[nq]at ho;cases ho
  let⟨l,D,U,w2,w3,w4,w5⟩:=R.tb;have Z:e≠q:=λz=>X (z ▸ R.dO);refine k q dq e Y _ (ST.free nq) ⟨ya,λb x=>?_,X,R.dO,R.ky.mv U (ye Z U),l,D,ye Z U,(),w3,λk s hk=>?_,w5⟩ gO (λb o n=>ye (λz=>by rw[z]at n;rw[ST _ _ n]at nq;cases nq) (S3 _ _ (ST _ _ n)))
  .obtain⟨o,ho,hi⟩:=R.own b x;exists o,ye (λz=>X (z ▸ x)) ho,hi
  .obtain⟨S,q2,q3,q4,q5⟩:=w4 k s hk;exists S,ye (λz=>X (z ▸ q5)) q2,q3,q4,q5
#synth vbz ["self","many"] yv0
def yor:vq P w K mg Γ CX0 1 a.I4 a.Nj ["self","many"] (yna a):=by
 exists T.Ef.F.ok,vbz,m;let⟨p,i,n,rfl,q,o,e,k⟩:=h;exists 2,0,yc (y7 (pv 0) (yp vaa (wx (pa1 (vo rfl T.Fc))) (pv 1)) rfl);exists by walk_at "len",λr hr0=>?_
 exists hr0,H1,S1,e1;ext;exists r,n,_,rfl,rfl,e1,(),(),xu (by show 1*(n:Int).toNat<=16000000;omega),λl hl=>?_
 rw[yh4];exists hl,H2,S2,e2;have b:=S1.trans S2;have g:=b _ _ e;ext;have c:l≠p:=λz=>by rw[z,S1 _ _ e]at hl;cases hl
 exact k l _ (S1.free hl) ⟨ya,ye c e2⟩ ((But.of b).trans But.upd)
#synth va4 ["self","chances"] yuh
def vcc:vq P w K mg Γ CX0 1 a.Kt a.Nk ["self","chances"] (yie K a):=by
 exists T.Iy.F.ok,va4,hr;let⟨p,X,l,c,J,v,n,rfl,n1,n6,e,hc,⟨Y,G⟩,M,k⟩:=h;exists _,(yc (yo (yp vx (pcB (Ï rfl) T.Fb (pa1 (yea (js:=[]) (ys:=[]) (xs:=["weight","chance"]) (g:=yxa K 2 (ν (xg 0) (ν (xg 1) yn4))) rfl (yqh rfl T.Jk (pac (ym (pv 0) rfl) (pa1 (pv 1)))) (λC s2 t S=>(yp wv (pv 0) (pv 1))) rfl (λC s2 t S=>ye0 rfl (zf (we (i:=0) (show List.Nodup ((["weight","chance"]:Τ)++([]:Τ)) by right) rfl (Or.inl rfl)) (zf (we (i:=1) (show List.Nodup ((["weight","chance"]:Τ)++([]:Τ)) by right) rfl (Or.inl rfl)) ż))) rfl (hyc:=y8) (hrel:=y8)))) (pcB (Ï rfl) T.Fb (pa1 (ym (pv 0) rfl)))))),?_;exists 2,0;have d:v.length=J.length:=by rw[e.len,hc.len]
 ext;exists l,c,rfl,⟨_,_,SqL.of G,M⟩,λD O=>?_;refine Ŀ (λi=>V.int ((J[i]?).getD 0*(v[i]?).getD 0)) (SqL.of G) M (by rw[bI,bI,d]) O (λi x y t z a1 hx R m b q j=>?_) (λt m b=>?_)
 .obtain⟨Z,v2,rfl⟩:=ykn j;let⟨w,rfl,L,U,W⟩:=Ú hx;let⟨u,rfl,um,ui,_⟩:=Ú R;have w1:=e.one w L;have w2:=e.top w L;have N:=m.trans (vg (o:=HO.tup [V.int w,V.int u]) q);have r:=jx (o':=HO.tup [V.int w,V.int u]) q b;have f:upd t z (HO.tup [V.int w,V.int u]) z=some (.tup [V.int w,V.int u]):=ya;generalize upd t z (HO.tup [V.int w,V.int u])=H3 at N r f;refine yes (SqT.of f) rfl ?_;show ν (xg 0) (ν (xg 1) yn4) [V.int w,V.int u] (Z::v2::uu [] [some (V.ref p),some (V.ref c)]) H3 _;ext;exists⟨[some (.int w),some (.int u)],rfl,rfl⟩,?_;ext;refine Mp.doneR O (vi (by rw[bI,e.len];omega)) (by rw[bI];exact W) N r ?_;rw[U,ui];rfl
 .have b:=ydd b (yoa (g:=λw c=>w*c) d);have a2:=m _ _ Y;have B:=m _ _ G;have p1:=e.pos n1;have p2:=e.small n6;ext;exists D,_,rfl,SqL.of b,?_;ext;exists l,_,rfl,SqL.of B,?_;ext;exact k _ m
#synth ň ["self","chances","bit","shares","whole","own","grown","dropped"] ["self","chances","bit"] yvq
def vca:vq P w K mg Γ (CXe P w) 5 a.Ku a.Nl ["self","chances","bit"] (yhd K a a.Cc):=by
 exists T.Iz.F.okE,ň,hr;let⟨p,dx,l,c,I,r,n,x,m,rfl,n1,n6,U,hc,⟨hp,hl⟩,hq,ty,k1,k2⟩:=h;refine yg (yt (ul (Ĥ T) hr.m T.Cw yy (pa1 (pv 2)))) ?_;refine yg (ynd (i:=3) (js:=[2]) (ys:=["bit"]) (xs:=["weight","chance"]) (g:=yxa K 2 (ν (xg 0) (ν (xg 1) yn4))) ň.nd rfl rfl rfl (yqh rfl T.Jk (pac (ym (pv 0) rfl) (pa1 (pv 1)))) (λC s2 M fp=>(yp wv (pv 0) (ul (vai T) hr.m T.Pf y9 (pac (pv 1) (pa1 (pv 2)))))) rfl (λC s2 M fp=>ye0 rfl (zf (we (i:=0) (show List.Nodup ((["weight","chance"]:Τ)++(["bit"]:Τ)) by right) rfl (Or.inl rfl)) (zf (we (i:=1) (show List.Nodup ((["weight","chance"]:Τ)++(["bit"]:Τ)) by right) rfl (Or.inl rfl)) ż))) rfl (hyc:=(all_cons rfl y8)) (hrel:=(all_cons rfl y8))) ?_;refine yg (yu (i:=4) ň.nd rfl (Or.inr rfl) (pcB (Ï rfl) T.Fb (pa1 (pv 3)))) ?_;refine yg (yu (i:=5) ň.nd rfl (Or.inr rfl) (yp wv (vo rfl T.Jl) (pcB yr T.Ad (pa1 (pv 3))))) ?_;refine yg (yd5 (i:=6) (js:=[4,5]) (ys:=["whole","own"]) ň.nd rfl rfl rfl (wz (pv 3)) (λC s2 M fp=>(yp vw (yp wv (pv 2) (pv 0)) (pv 1))) rfl rfl (hyc:=(all_cons rfl (all_cons rfl y8))) (hrel:=(all_cons rfl (all_cons rfl y8)))) ?_;refine yg (yu (i:=7) ň.nd rfl (Or.inr rfl) (pcB (Ę rfl) T.Jj (pac (yp zh (yei PySem.F.plainAttrs_int PySem.F.slot_int_bit_length PySem.F.type_int_bit_length ys7 (pcB (Ï rfl) T.Fb (pa1 (pv 6)))) (vo rfl T.Fd)) (pa1 yh)))) ?_;exists _,(yc (y7 (pv 0) (wc (js:=[7]) (ys:=["dropped"]) rfl (wz (pv 6)) (λC s2 M fp=>(yp vbc (pv 0) (pv 1))) rfl rfl (hyc:=(all_cons rfl y8)) (hrel:=(all_cons rfl y8))) rfl)),?_;exists 3,5;have q:r.length=I.length:=by rw[U.len,hc.len]
 ext;exists x,m,rfl,ty,λhx=>?_,k2;let⟨b,rfl,b0,b1⟩:=yew hx;have k:=k1 b rfl b0 b1;ext;exists l,c,rfl,⟨_,_,SqL.of hl,hq⟩,λD hD=>?_;refine Ŀ (λi=>V.int ((I[i]?).getD 0*giv ((r[i]?).getD 0) b)) (SqL.of hl) hq (by rw[bI,bI,q]) hD (λi x y M tt aa hx N Y d a0 W=>?_) (λM Y d=>?_)
 .obtain⟨v1,v2,rfl⟩:=ykn W;let⟨w,rfl,wm,wi,il⟩:=Ú hx;let⟨u,rfl,um,ui,_⟩:=Ú N;have w1:=U.one w wm;have w2:=U.top w wm;have a7:=yev (yze hc um);have a3:=yc5 b0 b1;have L:=Y.trans (vg (o:=HO.tup [V.int w,V.int u]) a0);have a1:=jx (o':=HO.tup [V.int w,V.int u]) a0 d;have R:upd M tt (HO.tup [V.int w,V.int u]) tt=some (.tup [V.int w,V.int u]):=ya;generalize upd M tt (HO.tup [V.int w,V.int u])=H3 at L a1 R;refine yes (SqT.of R) rfl ?_;show ν (xg 0) (ν (xg 1) yn4) [V.int w,V.int u] (v1::v2::uu [2] [some (V.ref p),some (V.ref c),some (V.int b),none,none,none,none,none]) H3 _;ext;exists⟨[some (.int w),some (.int u)],rfl,rfl⟩,?_;ext;exists .int u,_,.int b,_,rfl,.int u,.int b,λz=>(by rw[a7]at z;cases z),λF z=>(by rw[a3]at z;cases z),λc' b' ec eb F F=>?_;cases ec;cases eb;ext;refine Mp.doneR hD (vi (by rw[bI,U.len];omega)) (by rw[bI];exact il) L a1 ?_;rw[wi,ui];rfl
 .have d:M D=some (.lst ((shL I r b).map V.int)):=ydd d (yoa (g:=λw c=>w*giv c b) q);have j:(shL I r b).length=n:=by rw[Ž q.symm,U.len]
  have a5:=Y _ _ hp;have ek:lrn I r b=(grL (shL I r b)).map λv=>v/2^tOf (grL (shL I r b)).sum:=rfl;rw[ek]at k;generalize shL I r b=J at d j k;have eg:grL J=J.map λs=>31*(n:Int)*s+J.sum:=by rw[<- j];rfl
  ext;exists D,_,rfl,SqL.of d,?_;ext;refine ut (SqL.of d) ?_;rw[bI,j];ext;exists D,rfl,⟨_,SqL.of d⟩,λG hG=>?_;refine ω (onI λs=>31*(n:Int)*s+J.sum) (SqL.of d) hG (λi y H3 N L f=>?_) (λH3 L f=>?_)
  .obtain⟨s',rfl,_,_,il⟩:=Ú N;show tOp _ _ _ (some (V.int s')::uu [4,5] [some (V.ref p),some (V.ref c),some (V.int b),some (V.ref D),some (V.int J.sum),some (V.int (31*(n:Int))),none,none]) H3 _;ext;exact Mp.done hG (vi (by rw[bI,j];omega)) N L f rfl
  .rw[yje,<- eg]at f;have X:(grL J).length=n:=by rw[yi5,j]
   generalize grL J=O at f k X;have a2:=L _ _ a5;ext;exists G,_,rfl,SqL.of f,?_;ext;exists _,_,rfl,?_
   have et:(if (0:Int) > ((Builtin.Int.intBits O.sum:Nat):Int)-48 then (0:Int)else ((Builtin.Int.intBits O.sum:Nat):Int)-48)=((tOf O.sum:Nat):Int):=by
    show _=(((ynv O.sum)-48:Nat):Int);have e:Builtin.Int.intBits O.sum=ynv O.sum:=rfl;rw[e]
    split<;>omega
   rw[et];generalize tOf O.sum=t at k;ext;exists G,rfl,⟨_,SqL.of f⟩,λZ S=>?_;refine ω (onI λv=>v/2^t) (SqL.of f) S (λi y H4 N S4 B=>?_) (λH4 S4 B=>?_)
   .obtain⟨s',rfl,_,_,il⟩:=Ú N;show tOp _ _ _ (some (V.int s')::uu [7] [some (V.ref p),some (V.ref c),some (V.int b),some (V.ref D),some (V.int J.sum),some (V.int (31*(n:Int))),some (V.ref G),some (V.int (t:Int))]) H4 _;ext;refine i_I (Int.natCast_nonneg t) ?_;exact Mp.done S (vi (by rw[bI,X];omega)) N S4 B rfl
   .rw[yje]at B;have a8:=S4 _ _ a2;ext;have nz:Z≠p:=λz=>by rw[z,a2]at S;cases S
    have a6:=Y.trans (L.trans S4);exact k Z _ ((Y.trans L).free S) ⟨ya,ye nz B⟩ ((But.of a6).trans But.upd)
#synth yo0 ["self","made"] ["self"] ywd
inductive ymt(a:Ads)(vs:Υ)(H:Hp)(Q:VK)(E':XK):Prop
 |mk(p dx l:z4)(ws:Ρ)(_:vs=[.ref p])(_:ygi a p dx l ws H)(_:1<=ws.length)(_:ws.length<=6)(_:∀q dq l' H',H q=none->H l'=none->ygi a q dq l' ws H'->yw H H'->Q (.ref q) H')
def vax:vq P w K mg Γ CX0 3 a.Kv a.Nm ["self"] (ymt a):=by
 exists T.J0.F.ok,yo0,y;let⟨p,I,l,u,rfl,⟨J,t⟩,O,N,k⟩:=h;exists 1,1,yf (yu (i:=1) yo0.nd rfl (Or.inl rfl) (Á T.T0 (yor T) y.m rfl T.Sz T.Ef.B .nil vh (pa1 (pcB yr T.Ad (pa1 (ym (pv 0) rfl)))))) (yf (y7 (pv 1) (pcT vj T.Ae (pa1 (ym (pv 0) rfl))) rfl) (yc (yo (pv 1))));refine ut (SqL.of t) ?_;rw[bI];ext;intro q x n j D;exists q,x,u.length,rfl,O,N,ya,λU S v M1 C=>⟨rfl,?_⟩;have d:=è n j C;have c:=M1.o;have G:=d _ _ J;ext;refine ŭ (SqL.of (d _ _ t)) λr hr0=>?_;exists hr0,H2,S2,er;have R:=S2 _ _ c;ext;have g:r≠q:=λz=>by rw[z,c]at hr0;cases hr0
 exact k q x r _ n (d.free hr0) ⟨ya,ye g er⟩ λb o e=>ye (yb e n) (S2 _ _ (d _ _ e))
#synth vcl ["self"] yvf
def Ý.sqt{H H':Hp}{p dx lk d:z4}{kd:Fin 3}{f:qi Int->qj Slt}{O:Ν}{m:Nat}(h:Ý a H p dx lk d kd f O m)(B:yn9 O H H'){t:z4}{xs:Υ}(e:SqT K H t xs):SqT K H' t xs:=by
 have g:∀o:HO,H t=some o->yxb o=false->H' t=some o:=λo i j=>B _ _ i λz=>by
  let⟨k,c,b⟩:=h.own t z;rw[i]at c;cases c;rw[j]at b;cases b
 rcases e with(e|⟨o,e⟩)|e
 .exact .inl (.inl (g _ e rfl))
 .exact .inl (.inr ⟨o,g _ e rfl⟩)
 .exact .inr e
def Ý.up{H:Hp}{p dx lk d:z4}{kd:Fin 3}{f:qi Int->qj Slt}{O:Ν}{m:Nat}(h:Ý a H p dx lk d kd f O m)(hm:m<=m'):Ý a H p dx lk d kd f O m':=by let⟨c,b,e,i,g⟩:=h.tb;exists h.me,h.own,h.np,h.dO,h.ky,c,b,e,de i hm,g
def z0.mvT{H H':Hp}{k:z4}{x:V}{ps:Ρ}(h:z0 K H k x ps)(h1:∀t xs,SqT K H t xs->SqT K H' t xs):z0 K H' k x ps:=by let⟨t,b,c,d,a⟩:=h;exists t,h1 _ _ b,h1 _ _ c,d,a
def refs(g:Μ)(n:Nat):Υ:=(List.range n).map λi=>V.ref (g i)
def v9(g:Μ)(n:Nat):(refs g n).length=n:=by unfold refs;rw[bI,di]
def γ{g:Μ}{n:Nat}{x:V}(h:(refs g n)[i]?=some x):x=.ref (g i)/\i<n:=by
 have a:i<n:=by
  have:=(cE.mp h).1;rw[v9]at this;exact this
 unfold refs at h;rw[cu,dJ a]at h;exists(cL h).symm,a
def uz(g:Μ)(n:Nat):refs g (n+1)=refs g n++[.ref (g n)]:=by unfold refs;rw[List.range_succ,cA];rfl
def uv{g h:Μ}{n:Nat}(e:∀i,i<n->g i=h i):refs g n=refs h n:=by unfold refs;exact List.map_congr_left λi a=>by rw[e i (dB.mp a)]
structure Bks(K:z3)(a:Ads)(H:Hp)(n:Nat)(bk dx lk dd:Μ)(kd:Ξ)(ps:Λ)(f:Α)(O:Β)(m:Nat):Prop where
 look:∀i,i<n->z0 K H (lk i) (.str (kdS (kd i))) (ps i)
 b:∀i,i<n->Ý a H (bk i) (dx i) (lk i) (dd i) (kd i) (f i) (O i) m
 dj:∀i j c,i<n->j<n->i≠j->O i c->¬O j c
 nb:∀i j,i<n->j<n->¬O i (bk j)
def AtS(H:Hp)(d:z4)(k:Ρ)(q:z4):Prop:=∀kvs,H d=some (.dT kvs)->u8 kvs (kI k)=some (.ref q)
def Ý.slot{H:Hp}{p dx lk d:z4}{kd:Fin 3}{f:qi Int->qj Slt}{O:Ν}{m:Nat}{k:Ρ}{s:Slt}(h:Ý a H p dx lk d kd f O m)(hf:f k=some s)(hq:AtS H d k q):∃dq,H q=some (oS a dq s)/\s.ok/\s.kind=kd/\O q:=by let⟨b,j,g,v,u,l,t⟩:=h.tb;let⟨r,n,i,o,c⟩:=l k s hf;have e:=hq b g;rw[r]at e;injection e with e;injection e with e;subst e;exists _,n,i,o,c
def Ý.told{H H':Hp}{p dx lk d:z4}{kd:Fin 3}{f:qi Int->qj Slt}{O:Ν}{m:Nat}{k:Ρ}{s:Slt}{b:Int}(h:Ý a H p dx lk d kd f O m)(hf:f k=some s)(hq:AtS H d k q)(b0:0<=b)(b1:b<=1)
  (h3:H' q=some (oS a dq (s.see b))) (B:But q H H'):Ý a H' p dx lk d kd (ā f k (s.see b)) O m:=by
 have A:=h.me;let⟨u,l,r,T,x,L,J⟩:=id h.tb;let⟨G,K,q3,Q,I⟩:=L k s hf;have e:=hq u r;rw[G]at e;injection e with e;injection e with e;have D:p≠q:=λz=>h.np (by rw[z,<- e];exact I)
 have v:d≠q:=λz=>by
  let⟨C,S,E⟩:=ρ a (l k).2 s;rw[e,<- z,r,E]at K;cases K
 exists B _ _ A D,λc hc=>?_,h.np,h.dO,h.ky.mv r (B _ _ r v),u,λj=>if j=k then (q,dq)else l j,B _ _ r v,T,λj i=>?_,λj n i=>?_,λF y N s2 e1 Z el=>?_
 .obtain⟨o,R,hi⟩:=h.own c hc;by_cases z:c=q
  .rw[z];let⟨C,S,E⟩:=ρ a dq (s.see b);exists _,h3,by rw[E];rfl
  .exists o,B _ _ R z,hi
 .refine x j ?_;unfold ā at i
  split at i
  .cases i
  .exact i
 .unfold ā at i;by_cases z:j=k
  .rw[if_pos z]at i;cases i;subst z;dsimp only;rw[if_pos rfl];exists by rw[G,e],h3,Slt.see_ok q3 b0 b1,(ymm s b).trans Q,e ▸ I
  .rw[if_neg z]at i;let⟨U,p2,p3,M,Y⟩:=L j n i;dsimp only;rw[if_neg z];exists U,B _ _ p2 (λw=>z (J j k n s i hf (w.trans e.symm))),p3,M,Y
 .have g:∀j n,ā f k (s.see b) j=some n->∃t,f j=some t:=λj n h=>by
   unfold ā at h;by_cases z:j=k
   .exists s,by rw[z];exact hf
   .rw[if_neg z]at h;exists n,h
  let⟨W,P⟩:=g F N e1;let⟨t2,X⟩:=g y s2 Z;refine J F y W t2 P X ?_
  have yqw:∀j,(if j=k then ((q,dq):z4×z4)else l j).1=(l j).1:=λj=>by
   by_cases z:j=k
   .rw[if_pos z,z];exact e.symm
   .rw[if_neg z]
  rw[<- yqw F,<- yqw y];exact el
def AtS.told{H H':Hp}{p dx lk d:z4}{kd:Fin 3}{f:qi Int->qj Slt}{O:Ν}{m:Nat}{k:Ρ}(h:Ý a H p dx lk d kd f O m){r:z4}(hd:d≠r)(B:But r H H')(hq:AtS H d k q):AtS H' d k q:=λi e=>by
 let⟨c,g,b,_⟩:=h.tb;rw[B _ _ b hd]at e;cases e;exact hq _ b
section
variable{H H':Hp}{n m:Nat}{bk dx lk dd:Μ}{kd:Ξ}{ps:Λ}{f:Α}
theorem Bks.frame(h:Bks K a H n bk dx lk dd kd ps f O m){O2:Ν}(B:yn9 O2 H H')(dj:∀i b,i<n->O i b->¬O2 b)(hp:∀i,i<n->¬O2 (bk i))(ht:∀t xs,SqT K H t xs->SqT K H' t xs):Bks K a H' n bk dx lk dd kd ps f O m :=
 ⟨λi c=>(h.look i c).mvT ht,λi c=>(h.b i c).frame B (λb d=>dj i b c d) (hp i c),h.dj,h.nb⟩
def Bks.same(h:Bks K a H n bk dx lk dd kd ps f O m)(S:yw H H'):Bks K a H' n bk dx lk dd kd ps f O m :=
 h.frame (O2:=λZ=>False) (λb o e Z=>S b o e) (λZ Z Z Z z=>z) (λZ Z z=>z) λZ Z e=>S.tup e
def Bks.move(h:Bks K a H n bk dx lk dd kd ps f O m)(hj:j<n){f':qi Int->qj Slt}{O':Ν}(hm:m<=m')(hb:Ý a H' (bk j) (dx j) (lk j) (dd j) (kd j) f' O' m')(hO:∀c,O' c->O j c\/H c=none)(B:yn9 (O j) H H'):
  Bks K a H' n bk dx lk dd kd ps (λi=>if i=j then f' else f i) (λi=>if i=j then O' else O i) m':=by
 have x:=h.b j hj
 have g:∀q c,q<n->q≠j->O q c->¬O' c:=λq c C A w E=>by
  rcases hO c E with v|v
  .exact h.dj q j c C hj A w v
  .obtain⟨o,D,_⟩:=(h.b q C).own c w;rw[v]at D;cases D
 exists λi d=>(h.look i d).mvT λt F e=>x.sqt B e,λi d=>?_,λi l c d r u p k=>?_,λi l d r e=>?_
 .try dsimp only
  by_cases z:i=j
  .subst z;rw[if_pos rfl,if_pos rfl];exact hb
  .rw[if_neg z,if_neg z];exact((h.b i d).frame B (λb y=>h.dj i j b d hj z y) (h.nb j i hj d)).up hm
 .try dsimp only at p k
  by_cases z1:i=j
  .rw[if_pos z1]at p;have s:l≠j:=λw=>u (z1.trans w.symm);rw[if_neg s]at k;exact g l c r s k p
  .rw[if_neg z1]at p;by_cases s:l=j
   .rw[if_pos s]at k;exact g i c d z1 p k
   .rw[if_neg s]at k;exact h.dj i l c d r u p k
 .try dsimp only at e
  by_cases z:i=j
  .rw[if_pos z]at e;rcases hO _ e with v|v
   .exact h.nb j l hj r v
   .rw[(h.b l r).me]at v;cases v
  .rw[if_neg z]at e;exact h.nb i l d r e
def AtS.move(h:Bks K a H n bk dx lk dd kd ps f O m)(hi:i<n)(hj:j<n)(hij:i≠j)(B:yn9 (O j) H H'){k:Ρ}(hq:AtS H (dd i) k q):AtS H' (dd i) k q:=λl e=>by
 let⟨d,g,c,_⟩:=(h.b i hi).tb;rw[B _ _ c (h.dj i j _ hi hj hij (h.b i hi).dO)]at e;cases e;exact hq _ c
def Bks.nlst(h:Bks K a H n bk dx lk dd kd ps f O m){l:z4}{xs:Υ}(hl:H l=some (.lst xs)):∀i,i<n->¬O i l:=λi e z=>by
 let⟨o,d,c⟩:=(h.b i e).own l z;rw[hl]at d;cases d;cases c
end
def yli(n:Nat)(kd:Ξ)(f:Α)(g:Nat->qi Int->Slt):Prop:=∀i,i<n->∀k,(f i k).getD (kd0 (kd i))=g i k
def yli.put{n:Nat}{kd:Ξ}{f:Α}{g:Nat->qi Int->Slt}(h:yli n kd f g)(j:Nat)(hj:j<n)(k:Ρ):yli n kd (λi=>if i=j then ā (f j) k ((f j k).getD (kd0 (kd j)))else f i) g:=λi b a=>by
 dsimp only;by_cases z:i=j
 .subst z;rw[if_pos rfl];unfold ā;by_cases w:a=k
  .rw[if_pos w,w];exact h i b k
  .rw[if_neg w];exact h i b a
 .rw[if_neg z];exact h i b a
inductive yfa(K:z3)(a:Ads)(vs:Υ)(H:Hp)(Q:VK)(E':XK):Prop
 | mk(p dp ll bl mp el pl0:z4)(nd:Int)(sg:Ρ)(n m:Nat)(bk dx lk dd:Μ)(kd:Ξ)(ps:Λ)(f:Α)(O:Β)(g:Nat->qi Int->Slt)(_:vs=[.ref p])(_:H p=some (.ins a.A4 dp (zt (.ref ll) (.ref bl) (.ref mp) (.ref el) (.int nd) (.ref pl0))))(_:H bl=some (.lst (refs bk n)))(_:H el=some (.lst (sg.map V.int)))(_:Bks K a H n bk dx lk dd kd ps f O m)(_:yli n kd f g)(_:n<=6)(_:m+10<1000000)(_:(∀i,i<n->¬O i p))(_:∀(pl:z4)(sl:Μ)(f':Α)(O':Β)(H':Hp),H' p=some (.ins a.A4 dp (zt (.ref ll) (.ref bl) (.ref mp) (.ref el) (.int nd) (.ref pl)))->H' pl=some (.lst (refs sl n))->H pl=none ->
  Bks K a H' n bk dx lk dd kd ps f' O' (m+n)->yli n kd f' g->(∀j,j<n->(∃s,f' j (ctx (ps j) sg nd)=some s)/\AtS H' (dd j) (ctx (ps j) sg nd) (sl j))->(∀j c,j<n->O' j c->O j c\/H c=none) ->
  (∀c o,H c=some o->c≠p->(∀j,j<n->¬O j c)->H' c=some o)->(∀c o,H c=some o->∃o',H' c=some o')->Q .non H')
def ykz:vq P w K mg Γ CX0 5 a.Kw a.No ["self"] (yfa K a):=by
 exists T.D5.F.ok,vcl,hr;let⟨p,dp,ll,bl,mp,el,ad,M,S,n,m,Z,dx,lk,dd,kd,N,f,O,g,rfl,hp,U,a6,hB,hA,n6,hm,np,k⟩:=h;exists 1,0,yc (y7 (pv 0) (wc (js:=[0]) (ys:=["self"]) rfl (wz (ym (pv 0) rfl)) (λC s2 H2 fp=>(wn (pv 0) T.Cp T.Iw.m (yxv T) hr.m T.Iw.B .nil vh (pac (yc7 (K:=K) rfl (pv 1) rfl) (pa1 (yc7 (K:=K) rfl (pv 1) rfl))))) rfl rfl (hyc:=(all_cons rfl y8)) (hrel:=(all_cons rfl y8))) rfl);exists bl,rfl,⟨_,SqL.of U⟩,λD R=>?_;have ag:=hB.nlst U;have af:=hB.nlst a6;refine Ľ (K:=K) (xs:=refs Z n) (λi G=>∃(u:Μ)(L:Α)(J:Β),G D=some (.lst (refs u i))/\Bks K a G n Z dx lk dd kd N L J (m+i)/\yli n kd L g/\(∀j,j<i->(∃s,L j (ctx (N j) S M)=some s)/\AtS G (dd j) (ctx (N j) S M) (u j))/\
  (∀j c,j<n->J j c->O j c\/H c=none)/\(∀c o,H c=some o->(∀j,j<n->¬O j c)->G c=some o)/\(∀c o,H c=some o->∃o',G c=some o'))
  ⟨λF=>0,f,O,ya,hB.same (vg R),hA,λj d=>absurd d (cS j),λj c F z=>.inl z,λc o e F=>jx R e,λc o e=>⟨o,jx R e⟩⟩ (λi G F z=>?_) (λi x G hx hi z=>?_) (λG z=>?_)
 .obtain⟨_,_,_,_,_,_,_,_,w,_⟩:=z;exact SqL.of (w _ _ U ag)
 .obtain⟨u,L,J,gD,r,gA,gS,gO,Y,gL⟩:=z;let⟨rfl,l⟩:=γ hx;have I:=Y _ _ hp np;have a5:=Y _ _ a6 af;have ai:=(r.b i l).me;show ĸ _ _ _ _ _ _ _ (some (V.ref (Z i))::uu [0] [some (V.ref p)]) G _;ext;exists Z i,dx i,lk i,dd i,el,kd i,L i,J i,m+i,N i,S,M,rfl,r.b i l,(),r.look i l,SqL.of a5,λq O2 G2 a1 hv a0 a8 B2=>?_
  have nD:=r.nlst gD;have y:G2 D=some (.lst (refs u i)):=B2 _ _ gD (nD i l);refine xm (n:=(refs Z n).length) y (vi (by rw[v9];omega)) hi ?_;have M2:=r.move l (Nat.le_succ (m+i)) a1 a0 B2;have a3:=M2.nlst y;have W:∀c o,G2 c=some o->c≠D->upd G2 D (.lst (refs u i++[V.ref q])) c=some o:=λc o e X=>ye X e
  have M3:=M2.frame (O2:=λc=>c=D) (λc o e X=>W c o e X) (λj c d w z=>a3 j d (z ▸ w)) (λj d z=>by
   have:=(M2.b j d).me;rw[z,y]at this
   cases this) (λt xs e=>by
   rcases e with(e|⟨o,e⟩)|e
   .exact .inl (.inl (W _ _ e (λz=>by rw[z,y]at e;cases e)))
   .exact .inl (.inr ⟨o,W _ _ e (λz=>by rw[z,y]at e;cases e)⟩)
   .exact .inr e)
  have up:∀j,j<n->AtS G2 (dd j) (ctx (N j) S M) (if j=i then q else u j)->AtS (upd G2 D (.lst (refs u i++[V.ref q]))) (dd j) (ctx (N j) S M) (if j=i then q else u j):=λj d h =>
   h.told (M2.b j d) (λz=>a3 j d (by rw[<- z];exact(M2.b j d).dO)) (λc o e X=>W c o e X)
  exists λj=>if j=i then q else u j,_,_,?_,M3,gA.put i l _,λj d=>?_,λj c d w=>?_,λc o e no=>?_,λc o e=>?_
  .rw[ya,uz,if_pos rfl]
   congr 3
   exact uv λj d=>(if_neg ()).symm
  .by_cases z:j=i
   .subst z;exists⟨(L j (ctx (N j) S M)).getD (kd0 (kd j)),?_⟩,up j l ?_
    .try dsimp only
     rw[if_pos rfl];unfold ā;rw[if_pos rfl]
    .rw[if_pos rfl];exact hv
   .have a2:j<n:=()
    let⟨⟨s',a9⟩,aa⟩:=gS j ();exists⟨s',?_⟩,up j a2 ?_
    .try dsimp only
     rw[if_neg z];exact a9
    .rw[if_neg z];exact aa.move r a2 l z B2
  .try dsimp only at w
   by_cases z:j=i
   .subst z;rw[if_pos rfl]at w;rcases a0 c w with v|v
    .exact gO j c d v
    .refine .inr ?_
     cases e:H c with
     |none=>rfl
     |some o =>
      let⟨o',w'⟩:=gL c o e;rw[w']at v;cases v
   .rw[if_neg z]at w;exact gO j c d w
  .have hG:=Y c o e no
   have nc:¬J i c:=λw=>by
    rcases gO i c l w with v|v
    .exact no i l v
    .rw[e]at v;cases v
   refine W _ _ (B2 _ _ hG nc) (λz=>?_);rw[z,R]at e;cases e
  .obtain⟨o1,w1⟩:=gL c o e;have a4:c≠D:=λz=>by rw[z,R]at e;cases e
   by_cases w2:J i c
   .obtain⟨o2,ae,_⟩:=a1.own c (a8 c w2);exists o2,W _ _ ae a4
   .exists o1,W _ _ (B2 _ _ w1 w2) a4
 .obtain⟨u,L,J,gD,r,gA,gS,gO,Y,gL⟩:=z;rw[v9]at gD r gS;have I:=Y _ _ hp np;ext;have ac:D≠p:=λz=>by rw[z,hp]at R;cases R
  have BP:But p G (upd G p (.ins a.A4 dp (zt (.ref ll) (.ref bl) (.ref mp) (.ref el) (.int M) (.ref D)))):=But.upd
  have a7:∀i,i<n->¬J i p:=λi hi w=>by
   rcases gO i p hi w with v|v
   .exact np i hi v
   .rw[hp]at v;cases v
  have M3:=r.frame (O2:=λc=>c=p) (λc o e X=>BP c o e X) (λj c d w z=>a7 j d (z ▸ w)) (λj d z=>by
   have:=(r.b j d).me;rw[z,I]at this;injection this with this;injection this with _ _ e
   exact absurd (congrArg List.length e) (show ¬(6=2) by decide)) (λt xs e=>by
   rcases e with(e|⟨o,e⟩)|e
   .exact .inl (.inl (BP _ _ e (λz=>by rw[z,I]at e;cases e)))
   .exact .inl (.inr ⟨o,BP _ _ e (λz=>by rw[z,I]at e;cases e)⟩)
   .exact .inr e)
  refine k D u L J _ ya (ye ac gD) R M3 gA (λj d=>⟨(gS j d).1,(gS j d).2.told (r.b j d) (λz=>a7 j d (by rw[<- z];exact(r.b j d).dO)) BP⟩) gO (λc o e nc no=>BP _ _ (Y c o e no) nc) λc o e=>?_;by_cases zc:c=p
  .rw[zc];exists _,ya
  .obtain⟨o1,w1⟩:=gL c o e;exists o1,BP _ _ w1 zc
structure FA where
 dp:z4
 ll:z4
 bl:z4
 mp:z4
 mx:z4
 ml:z4
 el:z4
 pl:z4
 n:Nat
 bk:Μ
 dx:Μ
 lk:Μ
 dd:Μ
 sl:Μ
 kd:Ξ
 ps:Λ
structure FX where
 g:Nat->qi Int->Slt
 ws:Ρ
 sg:Ρ
 nd:Int
def FX.key(X:FX)(A:FA)(i:Nat):Ρ:=ctx (A.ps i) X.sg X.nd
def FX.cs(X:FX)(A:FA):Ρ:=(List.range A.n).map λi=>(X.g i (X.key A i)).due
def ndN(nd b:Int):Int:=if 0<nd then (if 256<=2*nd+b then 0 else 2*nd+b)else if b=1 then 1 else nd
def sgN(sg:Ρ)(nd b:Int):Ρ:=if 0<nd then (if 256<=2*nd+b then sg++[2*nd+b-256]else sg)else if b=1 then sg else []
def FX.see(X:FX)(A:FA)(b:Int):FX:={ g:=λi k=>if k=X.key A i then (X.g i k).see b else X.g i k,ws:=lrn X.ws (X.cs A) b,sg:=sgN X.sg X.nd b,nd:=ndN X.nd b}
structure z6(K:z3)(a:Ads)(H:Hp)(p:z4)(A:FA)(X:FX)(f:Α)(O:Β)(m:Nat):Prop where
 me:H p=some (.ins a.A4 A.dp (zt (.ref A.ll) (.ref A.bl) (.ref A.mp) (.ref A.el) (.int X.nd) (.ref A.pl)))
 bl:H A.bl=some (.lst (refs A.bk A.n))
 el:H A.el=some (.lst (X.sg.map V.int))
 mx:ygi a A.mp A.mx A.ml X.ws H
 wok:WOk A.n X.ws
 pl:H A.pl=some (.lst (refs A.sl A.n))
 B:Bks K a H A.n A.bk A.dx A.lk A.dd A.kd A.ps f O m
 ag:yli A.n A.kd f X.g
 at':∀j,j<A.n->(∃s,f j (X.key A j)=some s)/\AtS H (A.dd j) (X.key A j) (A.sl j)
 np:∀i,i<A.n->¬O i p
 nm:∀i,i<A.n->¬O i A.mp
 n1:1<=A.n
 n6:A.n<=6
theorem z6.same{H H':Hp}{p:z4}{A:FA}{X:FX}{f:Α}{m:Nat}(h:z6 K a H p A X f O m)(S:yw H H'):z6 K a H' p A X f O m :=
 ⟨S _ _ h.me,S _ _ h.bl,S _ _ h.el,h.mx.same S,h.wok,S _ _ h.pl,h.B.same S,h.ag,λj c=>⟨(h.at' j c).1,λk e=>by
  let⟨g,i,d,_⟩:=(h.B.b j c).tb;rw[S _ _ d]at e;cases e;exact(h.at' j c).2 _ d⟩,h.np,h.nm,h.n1,h.n6⟩
theorem z6.slot{H:Hp}{p:z4}{A:FA}{X:FX}{f:Α}{m:Nat}(h:z6 K a H p A X f O m)(hj:j<A.n):
  f j (X.key A j)=some (X.g j (X.key A j))/\(∃dq,H (A.sl j)=some (oS a dq (X.g j (X.key A j))))/\(X.g j (X.key A j)).ok/\O j (A.sl j):=by let⟨⟨s,c⟩,d⟩:=h.at' j hj;have e:=h.ag j hj (X.key A j);rw[c]at e;have e:s=X.g j (X.key A j):=e;rw[<- e];let⟨dq,i,l,o,k⟩:=(h.B.b j hj).slot c d;exists c,⟨dq,i⟩,l,k
def z6.cok{H:Hp}{p:z4}{A:FA}{X:FX}{f:Α}{m:Nat}(h:z6 K a H p A X f O m):COk A.n (X.cs A):=by
 exists by unfold FX.cs;rw[bI,di],λc b=>?_,λc b=>?_
 .obtain⟨j,d,rfl⟩:=cn.mp b;exact(yet (h.slot (dB.mp d)).2.2.1).1
 .obtain⟨j,d,rfl⟩:=cn.mp b;exact(yet (h.slot (dB.mp d)).2.2.1).2
def LkG.at'{H:Hp}{lk tp:z4}{kd:Fin 3}{ps:Ρ}(h:LkG H (.ref lk) kd tp ps):z0 K H lk (.str (kdS kd)) ps:=by
 let⟨d,e,b,f,a⟩:=h;cases e;have a:=a;unfold ur at a;rw[cR,cR,List.all_eq_true]at a;exists tp,SqT.of b,SqT.of f,λp c=>?_,by have:=of_decide_eq_true a.1.1;rw[bI]at this;exact this
 have w:=a.1.2 (.int p) (cn.mpr ⟨p,c,rfl⟩);have w:(decide (1<=p) && decide (p<=8))=true:=w;rw[cR]at w;exists of_decide_eq_true w.1,of_decide_eq_true w.2
def Bks.snoc{H:Hp}{n m:Nat}{bk dx lk dd:Μ}{kd:Ξ}{ps:Λ}{f:Α}(h:Bks K a H n bk dx lk dd kd ps f O m)
  (hl:z0 K H (lk n) (.str (kdS (kd n))) (ps n)) {q dq d:z4} {f':qi Int->qj Slt} {O':Ν} (hb:Ý a H q dq (lk n) d (kd n) f' O' m) (dj:∀j c,j<n->O j c->¬O' c) (n1:∀j,j<n->¬O j q) (n2:∀j,j<n->¬O' (bk j)):
  Bks K a H (n+1) (upN bk n q) (upN dx n dq) lk (upN dd n d) kd ps (upN f n f') (upN O n O') m:=by
 exists λi r=>?_,λi r=>?_,λi j c r s p o l=>?_,λi j r s e=>?_
 .by_cases z:i=n
  .rw[z];exact hl
  .exact h.look i ()
 .by_cases z:i=n
  .subst z;rw[xh,xh,xh,xh,xh];exact hb
  .have g:i<n:=()
   rw[xb g,xb g,xb g,xb g,xb g];exact h.b i g
 .by_cases z:i=n
  .subst z;have k:j<i:=()
   rw[xh]at o;rw[xb k]at l;exact dj j c k l o
  .have g:i<n:=()
   rw[xb g]at o;by_cases w:j=n
   .subst w;rw[xh]at l;exact dj i c g o l
   .have k:j<n:=()
    rw[xb k]at l;exact h.dj i j c g k p o l
 .by_cases z:i=n
  .subst z;rw[xh]at e;by_cases w:j=i
   .subst w;rw[xh]at e;exact hb.np e
   .have k:j<i:=()
    rw[xb k]at e;exact n2 j k e
  .have g:i<n:=()
   rw[xb g]at e;by_cases w:j=n
   .subst w;rw[xh]at e;exact n1 i g e
   .have k:j<n:=()
    rw[xb k]at e;exact h.nb i j g k e
def yn8(K:z3)(a:Ads)(H G:Hp)(n:Nat)(bk dx lk dd:Μ)(kd:Ξ)(ps:Λ)(f:Α)(O:Β):Prop :=
 Bks K a G n bk dx lk dd kd ps f O 0/\(∀j k,j<n->f j k=none)/\(∀j c,j<n->O j c->H c=none)/\(∀j,j<n->H (bk j)=none)
def yn8.zero{H G:Hp}{bk dx lk dd:Μ}{kd:Ξ}{ps:Λ}{f:Α}:yn8 K a H G 0 bk dx lk dd kd ps f O :=
 ⟨⟨λi b=>absurd b (cS i),λi b=>absurd b (cS i),λi Z Z b=>absurd b (cS i),λi Z b=>absurd b (cS i)⟩,λi Z b=>absurd b (cS i),λi Z b=>absurd b (cS i),λi b=>absurd b (cS i)⟩
def yn8.next{H G G2:Hp}{n:Nat}{bk dx lk dd:Μ}{kd:Ξ}{ps:Λ}{f:Α}(h:yn8 K a H G n bk dx lk dd kd ps f O)(hl:z0 K G (lk n) (.str (kdS (kd n))) (ps n))
  (S:yw H G) {q dq d D:z4} {xs ys:Υ} (hq:G q=none) (hd:G d=none) (S2:yw G G2) (hb:Ý a G2 q dq (lk n) d (kd n) (λZ=>none) (λb=>b=d) 0) (hD:G D=some (.lst xs)):
  yn8 K a H (upd G2 D (.lst ys)) (n+1) (upN bk n q) (upN dx n dq) lk (upN dd n d) kd ps (upN f n λZ=>none) (upN O n λb=>b=d):=by
 let⟨p,u,y,x⟩:=h;have l:∀j c,j<n->O j c->∃o,G c=some o:=λj c g w=>let ⟨o,m,_⟩:=(p.b j g).own c w;⟨o,m⟩
 have M:=(p.same S2).snoc (hl.same S2) hb (λj c g w z=>by
  let⟨o,m⟩:=l j c g w;rw[show c=d from z,hd]at m
  cases m) (λj g w=>by
  let⟨o,m⟩:=l j q g w;rw[hq]at m
  cases m) (λj g z=>by
  have e:=(p.b j g).me;rw[show bk j=d from z,hd]at e;cases e)
 have i:=S2 _ _ hD;have v:=M.nlst i;have s:∀c o,G2 c=some o->c≠D->upd G2 D (.lst ys) c=some o:=λc o e r=>ye r e;exists M.frame (O2:=λc=>c=D) (λc o e r=>s c o e r) (λj c g w z=>v j g (z ▸ w)) (λj g z=>?_) (λt xs e=>?_),λj k g=>?_,λj c g w=>?_,λj g=>?_
 .have e:=(M.b j g).me;rw[z,i]at e;cases e
 .rcases e with(e|⟨o,e⟩)|e
  .exact .inl (.inl (s _ _ e (λz=>by rw[z,i]at e;cases e)))
  .exact .inl (.inr ⟨o,s _ _ e (λz=>by rw[z,i]at e;cases e)⟩)
  .exact .inr e
 .by_cases z:j=n
  .rw[z,xh]
  .rw[xb ()];exact u j k ()
 .by_cases z:j=n
  .rw[z,xh]at w;rw[show c=d from w];exact S.free hd
  .rw[xb ()]at w;exact y j c () w
 .by_cases z:j=n
  .rw[z,xh];exact S.free hq
  .rw[xb ()];exact x j ()
def yn8.ag{H G:Hp}{n:Nat}{bk dx lk dd:Μ}{kd:Ξ}{ps:Λ}{f:Α}(h:yn8 K a H G n bk dx lk dd kd ps f O):yli n kd f (λi Z=>kd0 (kd i)):=λi b k=>by
 rw[h.2.1 i k b];rfl
def FX0(n:Nat)(kd:Ξ):FX:={ g:=λi Z=>kd0 (kd i),ws:=List.replicate n 1099511627776,sg:=[],nd:=0}
def ync{g:Μ}{n:Nat}{x:V}(h:x∈refs g n):∃i,i<n/\x=.ref (g i):=by unfold refs at h;let⟨i,a,e⟩:=cn.mp h;exists i,dB.mp a,e.symm
def xn.lks{H:Hp}{n:Nat}{lk:Μ}{kd:Ξ}{ps:Λ}(h:xn H n lk kd tp ps):Lks H (refs lk n):=λy a=>by
 let⟨i,b,rfl⟩:=ync a;exists _,_,_,h i b
theorem z6.frame{H H':Hp}{p:z4}{A:FA}{X:FX}{f:Α}{m:Nat}(h:z6 K a H p A X f O m){O2:Ν}(B:yn9 O2 H H')(hp:¬O2 p)(hm:¬O2 A.mp)(hb:∀i,i<A.n->¬O2 (A.bk i))
  (dj:∀i c,i<A.n->O i c->¬O2 c) (hl:∀l xs,(l=A.bl\/l=A.el\/l=A.ml\/l=A.pl)->H l=some (.lst xs)->H' l=some (.lst xs)) (ht:∀t xs,SqT K H t xs->SqT K H' t xs):z6 K a H' p A X f O m :=
 ⟨B _ _ h.me hp,hl _ _ (.inl rfl) h.bl,hl _ _ (.inr (.inl rfl)) h.el,⟨B _ _ h.mx.o hm,hl _ _ (.inr (.inr (.inl rfl))) h.mx.l⟩,h.wok,hl _ _ (.inr (.inr (.inr rfl))) h.pl,h.B.frame B (λi c s w=>dj i c s w) hb ht,h.ag,λj d=>⟨(h.at' j d).1,λr e=>by
  let⟨k,q,g,_⟩:=(h.B.b j d).tb;rw[B _ _ g (dj j _ d (h.B.b j d).dO)]at e;cases e;exact(h.at' j d).2 _ g⟩,h.np,h.nm,h.n1,h.n6⟩
def ys9{G:Hp}{t c:z4}{xs ys zs:Υ}(hc:G c=some (.lst ys))(e:SqT K G t xs):SqT K (upd G c (.lst zs)) t xs:=by
 rcases e with(e|⟨o,e⟩)|e
 .exact .inl (.inl (ye (ww e hc (by intro z;cases z)) e))
 .exact .inl (.inr ⟨o,ye (ww e hc (by intro z;cases z)) e⟩)
 .exact .inr e
def z6.app{H:Hp}{p R:z4}{A:FA}{X:FX}{f:Α}{m:Nat}{xs ys:Υ}(h:z6 K a H p A X f O m)(hR:H R=some (.lst xs))(hq:∀q,(q=A.bl\/q=A.el\/q=A.ml\/q=A.pl)->q≠R):z6 K a (upd H R (.lst ys)) p A X f O m:=by
 refine h.frame (O2:=λc=>c=R) (λc o e g=>ye g e) (λz=>?_) (λz=>?_) (λi d z=>?_) (λi c d w z=>h.B.nlst hR i d (z ▸ w)) (λl xs w e=>ye (hq l w) e) (λt xs e=>ys9 hR e)
 .have e:=h.me;rw[z,hR]at e;cases e
 .have e:=h.mx.o;rw[z,hR]at e;cases e
 .have e:=(h.B.b i d).me;rw[z,hR]at e;cases e
def vc0(n:Nat)(n1:1<=n)(n6:n<=6):WOk n (List.replicate n 1099511627776):=by refine⟨List.length_replicate,λw h=>?_,λw h=>?_⟩<;>(rw[List.eq_of_mem_replicate h];decide)
#synth yyb ["self","looks"] yu3
structure vhb(K:z3)(a:Ads)(H H':Hp)(p:z4)(n:Nat)(lk:Μ)(kd:Ξ)(ps:Λ)(A:FA)(f:Α)(O:Β):Prop where
 ft:z6 K a H' p A (FX0 n kd) f O 6
 en:A.n=n
 elk:A.lk=lk
 ekd:A.kd=kd
 eps:A.ps=ps
 oO:∀j c,j<n->O j c->H c=none
 oB:∀j,j<n->H (A.bk j)=none
 oM:H A.mp=none
 oL:∀l,(l=A.bl\/l=A.el\/l=A.ml\/l=A.pl)->H l=none
 lo:H' A.ll=some (.lst (refs lk n))/\A.ll≠A.el/\H A.ll=none
inductive yd8(K:z3)(a:Ads)(vs:Υ)(H:Hp)(Q:VK)(E:XK):Prop
 | mk(p dp:z4)(x:V)(_:vs=[.ref p,x])(_:H p=some (.ins a.A4 dp []))(_:((vhm K H x/\∀H',yw H H'->E (.ref a.Fk) none H')\/∃(l:z4)(n:Nat)(lk:Μ)(kd:Ξ)(tp:Μ)(ps:Λ),x=.ref l/\H l=some (.lst (refs lk n))/\1<=n/\n<=6/\xn H n lk kd tp ps/\
  ∀A f O H',vhb K a H H' p n lk kd ps A f O->But p H H'->Q .non H'))
def yo7:vq P w K mg Γ (CXe P w) 6 a.I5 a.Nn ["self","looks"] (yd8 K a):=by
 exists T.Eg.F.okE,yyb,hr;let⟨p,f,x,rfl,hp,h⟩:=h;refine yg (y7 (pv 0) (ul (ypz T) hr.m T.Iv yy (pa1 (pv 1))) rfl) ?_;refine yg (y7 (pv 0) (wc (js:=[]) (ys:=[]) rfl (wz (ym (pv 0) rfl)) (λC s2 H2 fp=>(Á T.Qn (yqf T) hr.m rfl T.Qm T.Ee.B .nil vh (pa1 (pv 0)))) rfl rfl (hyc:=y8) (hrel:=y8)) rfl) ?_;refine yg (y7 (pv 0) (Á T.T0 (yor T) hr.m rfl T.Sz T.Ef.B .nil vh (pa1 (pcB yr T.Ad (pa1 (ym (pv 0) rfl))))) rfl) ?_;refine yg (y7 (pv 0) (wx zj) rfl) ?_;refine yg (y7 (pv 0) yh rfl) ?_;refine yg (y7 (pv 0) (wx zj) rfl) ?_;exists 2,0,yc (yt (yz (pv 0) T.Ai T.D5.m (ykz T) hr.m T.D5.B .nil vh));rcases h with⟨hb,k⟩|⟨l,n,lk,kd,tp,ps,rfl,hl,n1,n6,an,k⟩
 .rcases hb with⟨nm,ty,hn⟩|⟨l,xs,bs,rfl,hl,hz,aM,no⟩
  .exact .inl ⟨x,nm,rfl,ty,hn,k _ (yw.refl _)⟩
  .exact .inr ⟨l,xs,bs,rfl,hl,hz,aM,λz=>absurd z no,λF H' S=>k _ S⟩
 .refine .inr ⟨l,refs lk n,List.replicate (refs lk n).length true,rfl,hl,by rw[v9];omega,an.lks.bs,λF g H1 ai aA S1=>?_,λno=>absurd ⟨by rw[v9];exact n1,by rw[v9];exact n6,yiv _⟩ no⟩;have aX:=S1 _ _ hp;have aW:=an.same S1;ext;have W:upd H1 p (HO.ins a.A4 f ([("looks",V.ref g)]:Ι)) p=some (HO.ins a.A4 f ([("looks",V.ref g)]:Ι)):=ya;have BA:But p H1 (upd H1 p (HO.ins a.A4 f ([("looks",V.ref g)]:Ι))):=But.upd;have a2:g≠p:=(yb hp ai).symm;have I:upd H1 p (HO.ins a.A4 f ([("looks",V.ref g)]:Ι)) g=some (.lst (refs lk n)):=ye a2 aA;generalize upd H1 p (HO.ins a.A4 f ([("looks",V.ref g)]:Ι))=HA at W BA I⊢;have aa:But p H HA:=(But.of S1).trans BA
  have aV:xn HA n lk kd tp ps:=λi hi=>by
   let⟨q,e,h1,h2,h3⟩:=an i hi;exists q,e,aa _ _ h1 (ww h1 hp (by intro z;cases z)),aa _ _ h2 (ww h2 hp (by intro z;cases z)),h3
  exists p,_,f,_,_,rfl,W,T.Ai,T.Ba,rfl,?_;exists g,rfl,⟨_,SqL.of I⟩,λu a0=>?_;refine zx (K:=K) (xs:=refs lk n) (λi G=>∃(bk dx dd:Μ)(f2:Α)(O2:Β),G u=some (.lst (refs bk i))/\yn8 K a HA G i bk dx lk dd kd ps f2 O2/\yw HA G)
   ⟨λF=>0,λF=>0,λF=>0,λF F=>none,λF F=>False,ya,yn8.zero,vg a0⟩ (λi G F z=>?_) (λi y G hy hi z=>?_) (λG z=>?_)
  .obtain⟨_,_,_,_,_,_,_,SG⟩:=z;exact SqL.of (SG _ _ I)
  .obtain⟨bk,dx,dd,f2,O2,a7,gN,SG⟩:=z;let⟨rfl,aS⟩:=γ hy;ext;intro q dq nq aU aY;have SQ:yw G (upd (upd G dq (.own q)) q (.ins a.Ac dq [])):=λb o e=>by rw[yk (yb e nq),yk (yb e aU)];exact e
   exists q,dq,lk i,kd i,rfl,ya,λd G2 aQ aO B2=>⟨rfl,?_⟩;have am:yw G G2:=λb o e=>B2 b o (SQ b o e) (yb e nq);refine xm (n:=(refs lk n).length) (am _ _ a7) (vi (by rw[v9];omega)) hi ?_;exists _,_,_,_,_,?_,gN.next ((aV i aS).same SG).at' SG nq (SQ.free aQ) am aO a7,λb o e=>ye (yb e a0) (am _ _ (SG b o e));rw[ya,uz,xh]
   congr 3
   exact uv λj r=>(xb r).symm
  let⟨bk,dx,dd,f2,O2,a7,gN,SG⟩:=z;rw[v9]at a7 gN;have ax:=SG _ _ W;ext;have az:∀c o,HA c=some o->c≠p->upd G p (HO.ins a.A4 f ([("looks",V.ref g),("books",V.ref u)]:Ι)) c=some o:=λc o e J=>ye J (SG _ _ e);have a9:upd G p (HO.ins a.A4 f ([("looks",V.ref g),("books",V.ref u)]:Ι)) p=some (HO.ins a.A4 f ([("looks",V.ref g),("books",V.ref u)]:Ι)):=ya;have ae:u≠p:=(yb W a0).symm;have aj:upd G p (HO.ins a.A4 f ([("looks",V.ref g),("books",V.ref u)]:Ι)) u=some (.lst (refs bk n)):=ye ae a7;have BP:∀{fs:Ι},But p G (upd G p (HO.ins a.A4 f fs)):=But.upd
  have af:∀j,j<n->¬O2 j p:=λj r w=>by
   have e:=gN.2.2.1 j p r w;rw[W]at e;cases e
  have aD:∀{G':Hp},But p G G'->Bks K a G' n bk dx lk dd kd ps f2 O2 0:=λ{G'}B=>gN.1.frame (O2:=λc=>c=p) (λc o e J=>B c o e J) (λj c r w z=>af j r (z ▸ w)) (λj r z=>by
   have e:=gN.2.2.2 j r;rw[z,W]at e
   cases e) (λt xs e=>by
   rcases e with(e|⟨o,e⟩)|e
   .exact .inl (.inl (B _ _ e (λz=>by rw[z,ax]at e;cases e)))
   .exact .inl (.inr ⟨o,B _ _ e (λz=>by rw[z,ax]at e;cases e)⟩)
   .exact .inr e)
  have BB:But p G (upd G p (HO.ins a.A4 f ([("looks",V.ref g),("books",V.ref u)]:Ι))):=But.upd;generalize upd G p (HO.ins a.A4 f ([("looks",V.ref g),("books",V.ref u)]:Ι))=HB at az a9 aj BB⊢;exists p,_,f,_,_,rfl,a9,T.Ai,T.Ba,rfl,?_;refine ut (SqL.of (az _ _ I a2)) ?_;rw[v9];ext;intro D mx ab aH aZ;have SM:yw HB (upd (upd HB mx (.own D)) D (.ins a.Bq mx [])):=λb o e=>by rw[yk (yb e ab),yk (yb e aH)];exact e
  exists D,mx,n,rfl,n1,n6,ya,λml HC aw MC BC=>⟨rfl,?_⟩;have SC:yw HB HC:=λb o e=>BC b o (SM b o e) (yb e ab);have b1:=SC _ _ a9;have aB:=SC _ _ aj;have a8:HB ml=none:=SM.free aw;have N:D≠p:=(yb a9 ab).symm;have Y:ml≠p:=(yb a9 a8).symm;ext;exists by walk_at "len",λM Z=>?_
  have X:M≠p:=λz=>by rw[z,ya]at Z;cases Z
  have U:HC M=none:=by rw[yk X]at Z;exact Z
  have aT:upd (upd HC p (HO.ins a.A4 f ([("looks",V.ref g),("books",V.ref u),("mixer",V.ref D)]:Ι))) M (.lst []) p=some (HO.ins a.A4 f ([("looks",V.ref g),("books",V.ref u),("mixer",V.ref D)]:Ι)):=ye X.symm ya;have ah:upd (upd HC p (HO.ins a.A4 f ([("looks",V.ref g),("books",V.ref u),("mixer",V.ref D)]:Ι))) M (.lst []) M=some (.lst []):=ya;have BD:But p HC (upd (upd HC p (HO.ins a.A4 f ([("looks",V.ref g),("books",V.ref u),("mixer",V.ref D)]:Ι))) M (.lst [])):=λb o e J=>ye (yb e U) (ye J e);generalize upd (upd HC p (HO.ins a.A4 f ([("looks",V.ref g),("books",V.ref u),("mixer",V.ref D)]:Ι))) M (.lst [])=HD at aT ah BD⊢;ext;exists by walk_at "len",λL a1=>?_
  have au:L≠p:=λz=>by rw[z,ya]at a1;cases a1
  have ap:HD L=none:=by rw[yk au,yk au]at a1;exact a1
  have aP:upd (upd (upd HD p (HO.ins a.A4 f ([("looks",V.ref g),("books",V.ref u),("mixer",V.ref D),("ended",V.ref M)]:Ι))) p (HO.ins a.A4 f ([("looks",V.ref g),("books",V.ref u),("mixer",V.ref D),("ended",V.ref M),("place",V.int 0)]:Ι))) L (.lst []) p=some (HO.ins a.A4 f ([("looks",V.ref g),("books",V.ref u),("mixer",V.ref D),("ended",V.ref M),("place",V.int 0)]:Ι)):=ye au.symm ya;have BE:But p HD (upd (upd (upd HD p (HO.ins a.A4 f ([("looks",V.ref g),("books",V.ref u),("mixer",V.ref D),("ended",V.ref M)]:Ι))) p (HO.ins a.A4 f ([("looks",V.ref g),("books",V.ref u),("mixer",V.ref D),("ended",V.ref M),("place",V.int 0)]:Ι))) L (.lst [])):=λb o e J=>ye (yb e ap) (ye J (ye J e));generalize upd (upd (upd HD p (HO.ins a.A4 f ([("looks",V.ref g),("books",V.ref u),("mixer",V.ref D),("ended",V.ref M)]:Ι))) p (HO.ins a.A4 f ([("looks",V.ref g),("books",V.ref u),("mixer",V.ref D),("ended",V.ref M),("place",V.int 0)]:Ι))) L (.lst [])=HE at aP BE⊢;ext;have BF:But p HE (upd HE p (.ins a.A4 f (zt (.ref g) (.ref u) (.ref D) (.ref M) (.int 0) (.ref L)))):=But.upd;have a5:upd HE p (.ins a.A4 f (zt (.ref g) (.ref u) (.ref D) (.ref M) (.int 0) (.ref L))) p=some (.ins a.A4 f (zt (.ref g) (.ref u) (.ref D) (.ref M) (.int 0) (.ref L))):=ya;generalize upd HE p (.ins a.A4 f (zt (.ref g) (.ref u) (.ref D) (.ref M) (.int 0) (.ref L)))=HF at a5 BF⊢;have ac:But p HC HF:=(BD.trans BE).trans BF;have a3:But p G HF:=λb o e J=>ac b o (SC _ _ (BB b o e J)) J;have aG:=ac _ _ MC.o N;have aF:=ac _ _ MC.l Y;have ao:=ac _ _ aB ae;have ar:=BF _ _ (BE _ _ ah X) X;exists p,f,g,u,D,M,L,0,[],n,0,bk,dx,lk,dd,kd,ps,f2,O2,λi F=>kd0 (kd i),rfl,a5,ao,ar,aD a3,gN.ag,n6,(),af,λpl sl f' O' H' aI aK al B' aN aJ ad F' L'=>?_
  have a6:∀{c:z4},c≠p->HF c=none->G c=none:=λ{c}J h=>by
   cases e:G c with
   |none=>rfl
   |some o=>rw[a3 _ _ e J]at h;cases h
  have aq:∀j c,j<n->O2 j c->∃o,G c=some o:=λj c r w=>let ⟨o,ho,_⟩:=(gN.1.b j r).own c w;⟨o,ho⟩
  have nO:∀{c:z4}{o:HO},HF c=some o->yxb o=false->∀j,j<n->¬O2 j c:=λ{c o}e hi j r w=>by
   let⟨o',ay,aC⟩:=((aD a3).b j r).own c w;rw[e]at ay;cases ay;rw[hi]at aC;cases aC
  have av:∀j,j<n->¬O2 j D:=λj r w=>by
   let⟨o,ho⟩:=aq j D r w;have e:=BB _ _ ho N;rw[ab]at e;cases e
  have R:∀{c:z4},c≠p->HA c=none->H c=none:=λ{c}J h=>by
   cases e:H c with
   |none=>rfl
   |some o=>rw[aa _ _ e J]at h;cases h
  have O:∀{c:z4},G c=none->HA c=none:=λ{c}h=>SG.free h
  have a4:∀{c:z4},c≠p->HB c=none->G c=none:=λ{c}J h=>by
   cases e:G c with
   |none=>rfl
   |some o=>rw[BB _ _ e J]at h;cases h
  have aE:∀{c:z4},HC c=none->HB c=none:=λ{c}h=>SC.free h;refine k ⟨f,g,u,D,mx,ml,M,pl,n,bk,dx,lk,dd,sl,kd,ps⟩ f' O' H' ⟨⟨aI,F' _ _ ao ae (nO ao rfl),F' _ _ ar X (nO ar rfl),⟨F' _ _ aG N av,F' _ _ aF Y (nO aF rfl)⟩,?_,aK,⟨B'.look,λi hi=>(B'.b i hi).up (),B'.dj,B'.nb⟩,aN,aJ,λj r w=>?_,λj r w=>?_,n1,n6⟩,rfl,rfl,rfl,rfl,λj c r w=>?_,λj r=>?_,?_,λc hc=>?_,F' _ _ (a3 _ _ (SG _ _ I) a2) a2 (nO (a3 _ _ (SG _ _ I) a2) rfl),yb (SC _ _ (BB _ _ (SG _ _ I) a2)) U,ai⟩ ?_
  .exact vc0 n n1 n6
  .rcases ad j p r w with v|v
   .exact af j r v
   .rw[a5]at v;cases v
  .rcases ad j D r w with v|v
   .exact av j r v
   .rw[aG]at v;cases v
  .have as:c≠p:=λz=>by
    rw[z]at w;rcases ad j p r w with v|v
    .exact af j r v
    .rw[a5]at v;cases v
   rcases ad j c r w with v|v
   .exact R as (gN.2.2.1 j c r v)
   .exact R as (O (a6 as v))
  .have aL:bk j≠p:=λz=>by
    have e:=gN.2.2.2 j r;rw[z,W]at e;cases e
   exact R aL (gN.2.2.2 j r)
  .exact R N (O (a4 N ab))
  .rcases hc with z|z|z|z
   .rw[z];exact R ae a0
   .rw[z];exact R X (O (a4 X (aE U)))
   .rw[z];exact R Y (O (a4 Y a8))
   .rw[z];have ak:pl≠p:=(yb a5 al).symm;exact R ak (O (a6 ak al))
  .intro c o e J;refine F' c o (a3 _ _ (SG _ _ (aa c o e J)) J) J λj r w=>?_;have e2:=gN.2.2.1 j c r w;rw[aa c o e J]at e2;cases e2
theorem ycz:∀(ts:Ρ)(q j:Nat)(s:Int),ts[q]?=some s->j<=8->(dec ts)[9*q+j]?=(1::b8 s)[j]?
 |[],_,_,_,h,_=>by simp at h
 |t::r,0,j,s,h,hj=>by
  have e:t=s:=by simpa using h
  subst e;show ((1::b8 t)++dec r)[9*0+j]?=_;rw[Nat.mul_zero,Nat.zero_add,dG (by rw[cO,yqj];omega)]
 |t::r,q+1,j,s,h,hj=>by
  have b:r[q]?=some s:=by simpa using h
  show ((1::b8 t)++dec r)[9*(q+1)+j]?=_;have a:(1::b8 t).length=9:=rfl;rw[dA (by rw[a];omega),a,show 9*(q+1)+j-9=9*q+j by omega];exact ycz r q j s b hj
def ytg(ts:Ρ):(dec ts)[9*ts.length]?=some 0:=by rw[ynx,dA (by rw[j9];exact cq _),j9,Nat.sub_self];rfl
def ydb(ts:Ρ)(k:Nat)(sg:Ρ)(nd:Int):Prop:=∃q j:Nat,k=9*q+j/\j<=8/\sg=ts.take q/\((j=0/\nd=0/\q<=ts.length)\/(1<=j/\∃s,ts[q]?=some s/\nd=(256+s)/2^(9-j)))
def ve2{s P c:Int}(h:0<=s/\s<=255)(hP:2<=P)(hc:P*(2*c)=256)(c1:1<=c/\c<=64):0<(256+s)/(2*P)/\2*((256+s)/(2*P))+s/P%2<256/\2*((256+s)/(2*P))+s/P%2=(256+s)/P:=by
 have a:(256+s)/P=s/P+2*c:=by rw[<- hc,Int.add_comm,Int.add_mul_ediv_left _ _ ()]
 have b:(256+s)/(2*P)=(s/P+2*c)/2:=by rw[<- a,Int.ediv_ediv_of_nonneg (show 0<=P by omega),Int.mul_comm]
 have e:=Int.ediv_nonneg h.1 (show 0<=P by omega);have d:=Int.ediv_lt_of_lt_mul (show 0<P by omega) (show s<128*P by omega);rw[a,b];generalize s/P=y at e d;clear hc a b hP h;omega
def nd9{s:Int}(h:0<=s/\s<=255)(h1:1<=j)(hj:j<=8):0<(256+s)/2^(9-j)/\(256+s)/2^(9-j)<256:=by
 have a:∀j,j<9->1<=j->(2:Int)<=2^(9-j)/\(2:Int)^(9-j)<=256:=∅
 let⟨b,c⟩:=a j (Nat.lt_succ_of_le hj) h1;generalize (2:Int)^(9-j)=K at b c;exists Int.le_ediv_of_mul_le () (),Int.ediv_lt_of_lt_mul () ()
def ydb.zero(ts:Ρ):ydb ts 0 [] 0:=⟨0,0,rfl,(),by simp,.inl ⟨rfl,rfl,cP _⟩⟩
theorem ydb.nd{k:Nat}{sg:Ρ}{nd:Int}(h:ydb ts k sg nd)(hs:Sgs ts):0<=nd/\nd<256:=by
 let⟨q,j,_,e,_,h⟩:=h;rcases h with⟨_,h,_⟩|⟨d,s,c,h⟩
 .omega
 .obtain⟨a,b⟩:=nd9 (hs s (cB c)) d e;rw[h];exists Int.le_of_lt a,b
def ydb.len{k:Nat}{sg:Ρ}{nd:Int}(h:ydb ts k sg nd):sg.length<=ts.length:=by let⟨q,j,_,_,a,_⟩:=h;rw[a,cK];omega
def ydb.next{k:Nat}{sg:Ρ}{nd b:Int}(h:ydb ts k sg nd)(hs:Sgs ts)(hb:(dec ts)[k]?=some b):
  (k<9*ts.length/\ydb ts (k+1) (sgN sg nd b) (ndN nd b))\/(k=9*ts.length/\sgN sg nd b=[]/\ndN nd b=0):=by
 let⟨q,j,r,u,l,h⟩:=h;rcases h with⟨w,d,A⟩|⟨B,s,a,d⟩
 .subst w;rcases Nat.lt_or_ge q ts.length with m|m
  .refine .inl ⟨(),?_⟩;have e:=ycz ts q 0 ts[q] (ci m) ();rw[<- r,hb]at e;have e:b=1:=by simpa using e
   have:=hs ts[q] (cU m);unfold sgN ndN;rw[if_neg (),if_pos e,if_neg (),if_pos e];exists q,1,(),(),l,.inr ⟨(),ts[q],ci m,?_⟩
   simp only[Nat.reduceSub,Int.reducePow];omega
  .have p:q=ts.length:=()
   have e:=ytg ts;rw[<- p,show 9*q=k by omega,hb]at e;have e:b=0:=by simpa using e
   refine .inr ⟨(),?_,?_⟩
   .unfold sgN;rw[if_neg (),if_neg ()]
   .unfold ndN;rw[if_neg (),if_neg ()];exact d
 .have o:=hs s (cB a);have m:q<ts.length:=(cE.mp a).1;have e:=ycz ts q j s a u;rw[<- r,hb]at e
  have g:some b=(b8 s)[j-1]?:=by
   obtain⟨i,rfl⟩:∃i,j=i+1:=⟨j-1,()⟩;simpa using e
  refine .inl ⟨(),?_⟩;by_cases h8:j=8
  .subst h8;have g:b=s/1%2:=cL g;simp only[Nat.reduceSub,Int.reducePow]at d;have D:2*nd+b=256+s:=()
   unfold sgN ndN;rw[if_pos (),if_pos (),if_pos (),if_pos ()];exists q+1,0,(),(),?_,.inl ⟨rfl,rfl,()⟩
   rw[l,show 2*nd+b-256=s by omega,zu a]
  .have n:0<nd/\2*nd+b<256/\2*nd+b=(256+s)/2^(9-(j+1)):=by
    have k:∀P c:Int,2<=P->P*(2*c)=256->1<=c/\c<=64->nd=(256+s)/(2*P)->b=s/P%2->0<nd/\2*nd+b<256/\2*nd+b=(256+s)/P:=λP c x y z e f=>by
     rw[e,f];exact ve2 o x y z
    clear r hb e l m hs;obtain rfl|rfl|rfl|rfl|rfl|rfl|rfl:j=1\/j=2\/j=3\/j=4\/j=5\/j=6\/j=7:=()
    .exact k 128 1 ∅ rfl ∅ d (cL g)
    .exact k 64 2 ∅ rfl ∅ d (cL g)
    .exact k 32 4 ∅ rfl ∅ d (cL g)
    .exact k 16 8 ∅ rfl ∅ d (cL g)
    .exact k 8 16 ∅ rfl ∅ d (cL g)
    .exact k 4 32 ∅ rfl ∅ d (cL g)
    .exact k 2 64 ∅ rfl ∅ d (cL g)
   let⟨t,C,v⟩:=n;unfold sgN ndN;rw[if_pos t,if_neg (),if_pos t,if_neg ()];exists q,j+1,(),(),l,.inr ⟨(),s,a,v⟩
theorem z6.up{H:Hp}{p:z4}{A:FA}{X:FX}{f:Α}{m:Nat}(h:z6 K a H p A X f O m)(hm:m<=m'):z6 K a H p A X f O m' :=
 ⟨h.me,h.bl,h.el,h.mx,h.wok,h.pl,⟨h.B.look,λi c=>(h.B.b i c).up hm,h.B.dj,h.B.nb⟩,h.ag,h.at',h.np,h.nm,h.n1,h.n6⟩
structure Lw(K:z3)(a:Ads)(H:Hp)(p:z4)(A:FA)(X:FX)(f:Α)(O:Β)(m:Nat)(bk dx dd:Μ)(f2:Α)(O2:Β)(mp mx ml:z4)(ws:Ρ):Prop where
 ft:z6 K a H p A X f O m
 bs:Bks K a H A.n bk dx A.lk dd A.kd A.ps f2 O2 m
 mx:ygi a mp mx ml ws H
 dj:∀i j c,i<A.n->j<A.n->O i c->¬O2 j c
 n1:∀i j,i<A.n->j<A.n->¬O i (bk j)
 n2:∀i j,i<A.n->j<A.n->¬O2 i (A.bk j)
 n3:∀i,i<A.n->¬O2 i p/\¬O2 i A.mp/\¬O2 i mp/\¬O i mp
 n4:mp≠A.mp
 n5:ml≠A.el
section
variable{H H':Hp}{p:z4}{A:FA}{X:FX}{f:Α}{m:Nat}{bk dx dd:Μ}{f2:Α}{mp mx ml:z4}{ws:Ρ}
def u6{C d e:z4}{fs gs:Ι}(hp:H p=some (.ins C d fs))(hq:H q=some (.ins D e gs))(hl:fs.length≠gs.length):p≠q:=λz=>by
 rw[z,hq]at hp;injection hp with hp;injection hp with _ _ e;exact hl (congrArg List.length e).symm
end
def KpA(B G:Hp)(e0 e:z4):Prop:=∀c o,B c=some o->yxb o=false->c≠e0->c≠e/\G c=some o
theorem KpA.lst{B G:Hp}{e0 e c:z4}{xs:Υ}(h:KpA B G e0 e)(hc:B c=some (.lst xs))(ne:c≠e0):G c=some (.lst xs):=(h c _ hc rfl ne).2
def TxE(ts:Ρ)(k:Nat)(sg:Ρ)(nd:Int):Prop:=(k<=9*ts.length/\ydb ts k sg nd)\/(k=9*ts.length+1/\sg=[]/\nd=0)
theorem TxE.next{k:Nat}{sg:Ρ}{nd b:Int}(h:TxE ts k sg nd)(hs:Sgs ts)(hb:(dec ts)[k]?=some b):ydb ts k sg nd/\TxE ts (k+1) (sgN sg nd b) (ndN nd b):=by
 rcases h with⟨c,h⟩|⟨c,_⟩
 .exists h,?_;rcases h.next hs hb with⟨e,a⟩|⟨e,a,d⟩
  .exact .inl ⟨(),a⟩
  .exact .inr ⟨(),a,d⟩
 .rw[c,df (by rw[ub];exact cq _)]at hb;cases hb
#synth yyn ["self"] yw3
inductive ycb(K:z3)(a:Ads)(vs:Υ)(H:Hp)(Q:VK)(E':XK):Prop
 |mk(p:z4)(A:FA)(X:FX)(f:Α)(O:Β)(m:Nat)(_:vs=[.ref p])(_:z6 K a H p A X f O m)(_:∀r H',H r=none->H' r=some (.lst ((X.cs A).map V.int))->yw H H'->Q (.ref r) H')
def yo2:vq P w K mg Γ CX0 2 a.Kx a.Np ["self"] (ycb K a):=by
 exists T.Eh.F.ok,yyn,e;let⟨p,c,X,f,O,m,rfl,h,k⟩:=h;have J:=h.me;have N:=h.n6;exists 1,0,yc (yo (wc (js:=[]) (ys:=[]) rfl (wz (ym (pv 0) rfl)) (λC M r I=>(Õ (yz (pv 0) T.Bm T.Ig.m (vac T) e.m T.Ig.B .nil vh) (Õ (yz (pv 0) T.Ce T.Ij.m (vae T) e.m T.Ij.B .nil vh) (yz (pv 0) T.Co T.Im.m (yzf T) e.m T.Im.B .nil vh)))) rfl rfl (hyc:=y8) (hrel:=y8)));exists c.pl,rfl,⟨_,SqL.of h.pl⟩,λD o=>?_;refine zx (K:=K) (xs:=refs c.sl c.n) (Mp H D (λi=>V.int (X.g i (X.key c i)).due)) (Mp.zero o) (λZ Z Z q=>q.1.seq (SqL.of h.pl)) (λi y r t x q=>?_) (λr q=>?_)
 .obtain⟨d,b⟩:=q;let⟨rfl,j⟩:=γ t;let⟨_,⟨R,G⟩,u,_⟩:=h.slot j;refine yhb (λL h=>yw2 rfl h) (d _ _ G) u ?_;exact Mp.doneR o (vi (by rw[v9];omega)) x d b rfl
 .obtain⟨d,b⟩:=q;rw[v9]at b;refine k D _ o ?_ d;rw[b];unfold FX.cs;rw[cX];rfl
#synth yzx ["self"] yur
inductive yfg(K:z3)(a:Ads)(vs:Υ)(H:Hp)(Q:VK)(E':XK):Prop
 |mk(p:z4)(A:FA)(X:FX)(f:Α)(O:Β)(m:Nat)(_:vs=[.ref p])(_:z6 K a H p A X f O m)(_:∀H',yw H H'->Q (.int (yqy X.ws (X.cs A))) H')
def yph:vq P w K mg Γ CX0 3 a.Ky a.Nq ["self"] (yfg K a):=by exists T.Ei.F.ok,yzx,e;let⟨p,b,X,f,O,m,rfl,h,k⟩:=h;have u:=h.me;have l:=h.mx.o;exists 1,0,yc (yo (wn (ym (pv 0) rfl) T.Fw T.Iy.m (vcc T) e.m T.Iy.B .nil vh (pa1 (yz (pv 0) T.Ai T.Eh.m (yo2 T) e.m T.Eh.B .nil vh))));exists p,b,X,f,O,m,rfl,h,λr v q c g=>?_;ext;exists b.mp,b.mx,b.ml,r,X.ws,X.cs b,b.n,rfl,h.n1,h.n6,h.wok,h.cok,h.mx.same g,SqL.of c,λx j=>k _ (g.trans j)
#synth yye ["self","bit"] yul
inductive yr7(a:Ads)(vs:Υ)(H:Hp)(Q:VK)(E':XK):Prop
 |mk(p dp ll bl mp el pl:z4)(nd b:Int)(sg:Ρ)(_:vs=[.ref p,.int b])(_:H p=some (.ins a.A4 dp (zt (.ref ll) (.ref bl) (.ref mp) (.ref el) (.int nd) (.ref pl))))(_:H el=some (.lst (sg.map V.int)))(_:sg.length<=100000)(_:0<nd)(_:∀H',H' p=some (.ins a.A4 dp (zt (.ref ll) (.ref bl) (.ref mp) (.ref el) (.int (ndN nd b)) (.ref pl)))->H' el=some (.lst ((sgN sg nd b).map V.int))->(∀c o,H c=some o->c≠p->c≠el->H' c=some o)->Q .non H')
def vb4:vq P w K mg Γ CX0 1 a.L6 a.Nu ["self","bit"] (yr7 a):=by
 exists T.J2.F.ok,yye,M;let⟨p,l,m,r,q,g,n,i,b,C,rfl,G,y,N,D,k⟩:=h;exists _,(yf (y7 (pv 0) (yp vw (yp wv yh (ym (pv 0) rfl)) (pv 1)) rfl) (yc (wd (y6 vdm (ym (pv 0) rfl) (vo rfl T.Dy) (vd _)) (yf (yt (ji PySem.F.plainAttrs_list PySem.F.slot_list_append PySem.F.type_list_append w6 (ym (pv 0) rfl) (pa1 (yp zh (ym (pv 0) rfl) (vo rfl T.Dy))))) (yc (y7 (pv 0) yh rfl))) ve))),?_;exists 2,0;unfold ndN sgN at k;rw[if_pos D,if_pos D]at k;have j:g≠p:=ww y G (by intro z;cases z);ext;have f:upd H p (.ins a.A4 l (zt (.ref m) (.ref r) (.ref q) (.ref g) (.int (2*i+b)) (.ref n))) p=some (.ins a.A4 l (zt (.ref m) (.ref r) (.ref q) (.ref g) (.int (2*i+b)) (.ref n))):=ya;have d:=ye (o':=HO.ins a.A4 l (zt (.ref m) (.ref r) (.ref q) (.ref g) (.int (2*i+b)) (.ref n))) j y;have v:But p H (upd H p (.ins a.A4 l (zt (.ref m) (.ref r) (.ref q) (.ref g) (.int (2*i+b)) (.ref n)))):=But.upd;generalize upd H p (.ins a.A4 l (zt (.ref m) (.ref r) (.ref q) (.ref g) (.int (2*i+b)) (.ref n)))=O at f d v⊢;ext;refine zn (λt=>?_) (λt=>?_)
 .rw[if_pos t,if_pos t]at k;ext;refine jh d ?_;ext;refine x0 d (vi (by rw[bI];omega)) ?_;have L:=ye (o':=HO.lst (List.map V.int C++[V.int (2*i+b-256)])) (Ne.symm j) f;ext;refine k _ ya ?_ λc o e u B=>ye u (ye B (v _ _ e u));rw[yk j,ya,cA];rfl
 .rw[if_neg t,if_neg t]at k;ext;exact k _ f d λc o e u B=>v _ _ e u
#synth yxh ["self","bit"] yux
inductive ym1(a:Ads)(vs:Υ)(H:Hp)(Q:VK)(E':XK):Prop
 |mk(p dp ll bl mp el pl:z4)(nd b:Int)(sg:Ρ)(_:vs=[.ref p,.int b])(_:H p=some (.ins a.A4 dp (zt (.ref ll) (.ref bl) (.ref mp) (.ref el) (.int nd) (.ref pl))))(_:H el=some (.lst (sg.map V.int)))(_:sg.length<=100000)(_:0<=nd)(_:∀(el':z4)H',(el'=el\/H el'=none)->H' p=some (.ins a.A4 dp (zt (.ref ll) (.ref bl) (.ref mp) (.ref el') (.int (ndN nd b)) (.ref pl)))->H' el'=some (.lst ((sgN sg nd b).map V.int))->(∀c o,H c=some o->c≠p->c≠el->H' c=some o)->(∃o,H' el=some o)->Q .non H')
def yyz:vq P w K mg Γ CX0 2 a.L1 a.Nt ["self","bit"] (ym1 a):=by
 exists T.J1.F.ok,yxh,J;let⟨p,u,x,I,C,g,y,G,b,D,rfl,l,f,O,W,k⟩:=h;exists _,(yc (wd (y6 yk9 (ym (pv 0) rfl) yh (vd _)) (yc (yt (wn (pv 0) T.Ai T.J2.m (vb4 T) J.m T.J2.B .nil vh (pa1 (pv 1))))) (yc (wd (y6 jj (pv 1) yh (vd _)) (yc (y7 (pv 0) yh rfl)) (yc (y7 (pv 0) (wx zj) rfl)))))),?_;exists 2,0;have d:g≠p:=ww f l (by intro z;cases z);ext;refine zn (λj=>?_) (λj=>?_)
 .ext;exists p,u,x,I,C,g,y,G,b,D,rfl,l,f,O,j,λN L v U=>k g N (.inl rfl) L v U ⟨_,v⟩
 .unfold ndN sgN at k;rw[if_neg j,if_neg j]at k;ext;refine zn (λi=>?_) (λi=>?_)
  .rw[if_pos i,if_pos i]at k;ext;exact k g _ (.inl rfl) ya (ye d f) (λc o e t Z=>ye t e) ⟨_,ye d f⟩
  .rw[if_neg i,if_neg i]at k;ext;exists by walk_at "len",λr hr0=>?_
   exists hr0,H1,S1,e1;have M:=S1 _ _ l;ext;have n:r≠p:=λz=>by rw[z,l]at hr0;cases hr0
   exact k r _ (.inr hr0) ya (ye n e1) (λc o e t Z=>ye t (S1 _ _ e)) ⟨_,ye d (S1 _ _ f)⟩
abbrev FA.re(A:FA)(ml el pl:z4)(sl:Μ):FA:={A with ml:=ml,el:=el,pl:=pl,sl:=sl}
def FX.run(A:FA)(X:FX):qi Int->FX
 |[]=>X
 |b::r=>FX.run A (X.see A b) r
theorem é(A:FA):∀(bs cs:Ρ)(X:FX),X.run A (bs++cs)=(X.run A bs).run A cs
 |[],_,_=>rfl
 |b::r,cs,X=>é A r cs (X.see A b)
def yme(A:FA)(bs:Ρ)(b:Int)(X:FX):X.run A (bs++[b])=(X.run A bs).see A b:=é A bs [b] X
def fa0(n:Nat)(ps:Λ):FA:={ dp:=0,ll:=0,bl:=0,mp:=0,mx:=0,ml:=0,el:=0,pl:=0,n:=n,bk:=λZ=>0,dx:=λZ=>0,lk:=λZ=>0,dd:=λZ=>0,sl:=λZ=>0,kd:=λZ=>0,ps:=ps}
theorem ycw(A:FA):∀(bs:Ρ)(X:FX),X.run A bs=X.run (fa0 A.n A.ps) bs
 |[],_=>rfl
 |b::r,X=>ycw A r (X.see A b)
def yw5(H:Hp)(A:FA):Prop:=H A.ll=some (.lst (refs A.lk A.n))/\A.ll≠A.el/\∃tp,xn H A.n A.lk A.kd tp A.ps
theorem yw5.same{H H':Hp}{A:FA}(h:yw5 H A)(S:yw H H'):yw5 H' A:=⟨S _ _ h.1,h.2.1,let ⟨tp,r⟩:=h.2.2;⟨tp,r.same S⟩⟩
structure Go(W:Ν)(H H':Hp)(W':Ν):Prop where
 fr:∀c o,H c=some o->¬W c->H' c=some o
 nw:∀c,W' c->W c\/H c=none
 lv:∀c o,H c=some o->∃o',H' c=some o'
def Go.free{W:Ν}{H H':Hp}(h:Go W H H' W'){c:z4}(e:H' c=none):H c=none:=by
 cases z:H c with
 |none=>rfl
 |some o =>
  let⟨a,w⟩:=h.lv c o z;rw[e]at w;cases w
def Go.refl{W:Ν}{H:Hp}:Go W H H W:=⟨λZ Z e Z=>e,λZ w=>.inl w,λZ o e=>⟨o,e⟩⟩
def Go.trans{W W1:Ν}{H H1 H2:Hp}(h:Go W H H1 W1)(k:Go W1 H1 H2 W2):Go W H H2 W2:=by
 exists λc o e a=>k.fr c o (h.fr c o e a) λw=>?_,λc w=>?_,λc o e=>?_
 .rcases h.nw c w with v|v
  .exact a v
  .rw[e]at v;cases v
 .rcases k.nw c w with v|v
  .exact h.nw c v
  .exact .inr (h.free v)
 .obtain⟨b,d⟩:=h.lv c o e;exact k.lv c b d
def Go.same{W:Ν}{H H1 H2:Hp}(h:Go W H H1 W')(S:yw H1 H2):Go W H H2 W':=⟨λc o e a=>S _ _ (h.fr c o e a),h.nw,λc o e=>let ⟨o',w⟩:=h.lv c o e;⟨o',S _ _ w⟩⟩
def Go.ahead{W:Ν}{H H1 H2:Hp}(S:yw H H1)(h:Go W H1 H2 W'):Go W H H2 W':=⟨λc o e=>h.fr c o (S _ _ e),λc w=>(h.nw c w).imp id S.free,λc o e=>h.lv c o (S _ _ e)⟩
def Go.apart{W:Ν}{H H':Hp}(h:Go W H H' W')(hU:∀c,U c->∃o,H c=some o)(dj:∀c,U c->¬W c):∀c,U c->¬W' c:=λc u w=>by
 rcases h.nw c w with v|v
 .exact dj c u v
 .obtain⟨o,e⟩:=hU c u;rw[v]at e;cases e
section
variable{H H':Hp}{p:z4}{n:Nat}{kd:Ξ}{ps:Λ}{X:FX}{M:Nat}{W:Ν}
def yih{g:Μ}(h:1<=n):(refs g n)[0]?=some (.ref (g 0)):=by unfold refs;rw[cu,dJ h];rfl
end
#synth yp5 ["self","bit","slot"] ["self","bit"] ywk
inductive yrz(K:z3)(a:Ads)(vs:Υ)(H:Hp)(Q:VK)(E':XK):Prop
 | mk(p:z4)(A:FA)(X:FX)(f:Α)(O:Β)(m:Nat)(b:Int)(_:vs=[.ref p,.int b])(_:z6 K a H p A X f O m)(_:0<=b)(_:b<=1)(_:m+20<1000000)(_:0<=X.nd)(_:X.sg.length<=100000)(_:∀(ml el pl:z4)(sl:Μ)(f':Α)(O':Β)(H':Hp),(el=A.el\/H el=none)->z6 K a H' p {A with ml:=ml,el:=el,pl:=pl,sl:=sl} (X.see A b) f' O' (m+A.n)->(∀j c,j<A.n->O' j c->O j c\/H c=none) ->
  (∀c o,H c=some o->c≠p->c≠A.mp->c≠A.el->(∀j,j<A.n->¬O j c)->H' c=some o)->(∀c o,H c=some o->∃o',H' c=some o')->H ml=none->Q .non H')
def yp7:vq P w K mg Γ CX0 6 a.Kz a.Nr ["self","bit"] (yrz K a):=by
 exists T.Ej.F.ok,yp5,hr;let⟨p,d,X,f,O,m,b,rfl,h,b0,b1,hm,aq,am,k⟩:=h;have hp:=h.me;have af:=h.mx.o;have n6:=h.n6;have I:=vbp b0 b1;refine yg (yt (ul (Ĥ T) hr.m T.Cw y9 (pa1 (pv 1)))) ?_;refine yg (yt (yv (ym (pv 0) rfl) T.Fw T.Iz.m (vca T) hr.m T.Iz.B .nil y9 (pac (yz (pv 0) T.Ai T.Eh.m (yo2 T) hr.m T.Eh.B .nil vh) (pa1 (pv 1))))) ?_;refine yg (uh PassesOwn.never rfl (wz (ym (pv 0) rfl)) (we (i:=2) yp5.nd rfl (Or.inl rfl)) (yc (yt (Õ (yv (pv 2) T.Bm T.Ih.m (vbm T) hr.m T.Ih.B .nil y9 (pa1 (pv 1))) (Õ (yv (pv 2) T.Ce T.Ik.m (vaj T) hr.m T.Ik.B .nil y9 (pa1 (pv 1))) (yv (pv 2) T.Co T.Io.m (yyh T) hr.m T.Io.B .nil y9 (pa1 (pv 1)))))))) ?_;refine yg (yt (wn (pv 0) T.Ai T.J1.m (yyz T) hr.m T.J1.B .nil vh (pa1 (pv 1)))) ?_;exists 2,1,yc (yt (yz (pv 0) T.Ai T.D5.m (ykz T) hr.m T.D5.B .nil vh));exists .int b,_,rfl,.int b,λF=>?_,λz=>(by rw[I]at z;cases z);ext;exists p,d,X,f,O,m,rfl,h,λr H1 aI aC S1=>?_;have M:=S1 _ _ af;ext;exists d.mp,d.mx,d.ml,r,X.ws,X.cs d,d.n,.int b,_,rfl,h.n1,n6,h.wok,h.cok,h.mx.same S1,SqL.of aC,.int b,λb' e F F ml H2 a7 M2 U=>?_,λz=>(by rw[I]at z;cases z);cases e;have L:=h.same S1
 have ac:p≠d.mp:=λz=>by
  have:=h.me;rw[z,af]at this;injection this with this;injection this with _ _ e;exact absurd (congrArg List.length e) (show ¬(1=6) by decide)
 have av:=U _ _ L.me ac;have aa:∀{l:z4}{xs:Υ},H1 l=some (.lst xs)->l≠d.mp:=λ{l xs}e z=>by rw[z,M]at e;cases e
 have a6:=U _ _ L.bl (aa L.bl);have a8:=U _ _ L.el (aa L.el);have Z:=U _ _ L.pl (aa L.pl)
 have a0:=L.B.frame (O2:=λc=>c=d.mp) (λc o e ne=>U c o e ne) (λj c q w z=>h.nm j q (z ▸ w)) (λj q z=>by
  have:=(L.B.b j q).me;rw[z,M]at this;injection this with this;injection this with _ _ e
  exact absurd (congrArg List.length e) (show ¬(1=2) by decide)) (λt xs e=>by
  rcases e with(e|⟨o,e⟩)|e
  .exact .inl (.inl (U _ _ e (λz=>by rw[z,M]at e;cases e)))
  .exact .inl (.inr ⟨o,U _ _ e (λz=>by rw[z,M]at e;cases e)⟩)
  .exact .inr e)
 have ar:∀j,j<d.n->(∃s,f j (X.key d j)=some s)/\AtS H2 (d.dd j) (X.key d j) (d.sl j):=λj q=>⟨(L.at' j q).1,(L.at' j q).2.told (L.B.b j q) (λz=>h.nm j q (by rw[<- z];exact(L.B.b j q).dO)) U⟩;ext;refine⟨d.pl,rfl,⟨_,SqL.of Z⟩,zd (K:=K) (a:=d.pl) (xs:=refs d.sl d.n) (λi σ2 G=>∃(v:Ψ)(f':Α),σ2=[some (.ref p),some (.int b),v]/\Bks K a G d.n d.bk d.dx d.lk d.dd d.kd d.ps f' O m/\
   (∀j,j<d.n->∀k,(f' j k).getD (kd0 (d.kd j))=if j<i/\k=X.key d j then (X.g j k).see b else X.g j k)/\(∀j,j<d.n->(∃s,f' j (X.key d j)=some s)/\AtS G (d.dd j) (X.key d j) (d.sl j))/\(∀c o,H2 c=some o->(∀j,j<d.n->¬O j c)->G c=some o))
  ⟨_,f,rfl,a0,λj q N=>by rw[if_neg (λz=>absurd z.1 (cS j))];exact h.ag j q N,ar,λc o e F=>e⟩ (by rintro i σ2 G _ ⟨_,_,_,_,_,_,w⟩;exact SqL.of (w _ _ Z (a0.nlst Z))) ?_ ?_⟩
 .rintro i y σ2 G hy ⟨v,f',rfl,S,gA,gS,gF⟩;let⟨rfl,D⟩:=γ hy;let⟨⟨s',ab⟩,ae⟩:=gS i D
  have es:s'=X.g i (X.key d i):=by
   have:=gA i D (X.key d i);rw[ab,if_neg (λz=>absurd z.1 (dU i))]at this;exact this
  let⟨dq,hq,ok,aH,az⟩:=(S.b i D).slot ab ae;ext;refine ytw (x:=.int b) (λQ' h=>?_) (λQ' h=>?_) hq ok (.int b) (λb' e F F G3 h3 B3=>?_) (λz=>by rw[I]at z;cases z) (λz=>by rw[I]at z;cases z) (λz=>by rw[I]at z;cases z)
  .ext;exact h
  .ext;exact h
  cases e;have ax:=(S.b i D).told ab ae b0 b1 h3 B3;have BO:yn9 (O i) G G3:=λc o e no=>B3 _ _ e λz=>no (by rw[z];exact az);have M3:=S.move D (cq m) ax (λc w=>.inl w) BO
  have eO:(λj=>if j=i then O i else O j)=O:=by
   funext j
   by_cases z:j=i
   .rw[if_pos z,z]
   .rw[if_neg z]
  rw[eO]at M3
  have aE:d.dd i≠d.sl i:=λz=>by
   let⟨aK,aJ,w1,_⟩:=(S.b i D).tb;let⟨C,fs,eo⟩:=ρ a dq s';rw[z,hq,eo]at w1;cases w1
  ext;exists _,_,rfl,M3,λj q N=>?_,λj q=>?_,λc o e no=>?_
  .try dsimp only
   by_cases z:j=i
   .subst z;rw[if_pos rfl];unfold ā;by_cases w:N=X.key d j
    .rw[if_pos w,if_pos ⟨Nat.lt_succ_self j,w⟩,w,<- es];rfl
    .rw[if_neg w,if_neg (λz=>w z.2)];have:=gA j q N;rw[if_neg (λz=>w z.2)]at this;exact this
   .rw[if_neg z,gA j q N];have:(j<i/\N=X.key d j)↔(j<i+1/\N=X.key d j):=by constructor<;>(rintro ⟨u,v⟩;exact⟨(),v⟩)
    by_cases w:j<i/\N=X.key d j
    .rw[if_pos w,if_pos (this.mp w)]
    .rw[if_neg w,if_neg (λz=>w (this.mpr z))]
  .try dsimp only
   by_cases z:j=i
   .subst z;rw[if_pos rfl];exists⟨s'.see b,?_⟩,ae.told (S.b j D) aE B3;unfold ā;rw[if_pos rfl]
   .rw[if_neg z];exists(gS j q).1,(gS j q).2.move S q D z BO
  .exact BO _ _ (gF c o e no) (no i D)
 .rintro σ2 G ⟨v,f',rfl,S,gA,gS,gF⟩;rw[v9]at gA;have gp:=gF _ _ av h.np;have R:=gF _ _ a8 (a0.nlst a8);have ah:=gF _ _ a6 (a0.nlst a6);have W:=gF _ _ M2.o h.nm;have ak:=gF _ _ M2.l (a0.nlst M2.l);ext;exists p,d.dp,d.ll,d.bl,d.mp,d.el,d.pl,X.nd,b,X.sg,rfl,gp,R,am,aq,λel H4 al ad a4 F4 L4=>?_;have aj:∀{l:z4}{xs:Υ},G l=some (.lst xs)->l≠p:=λ{l xs}e z=>by rw[z,gp]at e;cases e
  have aD:∀j,j<d.n->¬O j p:=h.np;have ai:=S.nlst R
  have a5:=S.frame (O2:=λc=>c=p\/c=d.el) (λc o e ne=>F4 c o e (λz=>ne (.inl z)) (λz=>ne (.inr z))) (λj c q w z=>by
   rcases z with z|z
   .exact aD j q (z ▸ w)
   .exact ai j q (z ▸ w)) (λj q z=>by
   have:=(S.b j q).me;rcases z with z|z
   .rw[z,gp]at this;injection this with this;injection this with _ _ e;exact absurd (congrArg List.length e) (show ¬(6=2) by decide)
   .rw[z,R]at this
    cases this) (λt xs e=>by
   rcases e with(e|⟨o,e⟩)|e
   .exact .inl (.inl (F4 _ _ e (λz=>by rw[z,gp]at e;cases e) (λz=>by rw[z,R]at e;cases e)))
   .exact .inl (.inr ⟨o,F4 _ _ e (λz=>by rw[z,gp]at e;cases e) (λz=>by rw[z,R]at e;cases e)⟩)
   .exact .inr e)
  have as:d.bl≠d.el:=λz=>by
   have e:=h.bl;rw[z,h.el]at e;injection e with e;injection e with e;have e0:=congrArg (λl:Υ=>l[0]?) e
   have r0:(refs d.bk d.n)[0]?=some (.ref (d.bk 0)):=by
    unfold refs;rw[cu,dJ h.n1];rfl
   try dsimp only at e0
   rw[r0,cu]at e0
   cases hs:X.sg[0]? with
   |none=>rw[hs]at e0;cases e0
   |some c=>rw[hs]at e0;cases e0
  have aw:ml≠d.el:=(yb L.el a7).symm;have a3:=F4 _ _ ah (aj ah) as;have ap:=F4 _ _ W (Ne.symm ac) (λz=>by rw[z,R]at W;cases W);have a9:=F4 _ _ ak (aj ak) aw
  have a2:∀c o,H c=some o->∃Y,H4 c=some Y:=λc o e=>by
   by_cases zp:c=p
   .exists _,zp ▸ ad
   by_cases ze:c=d.el
   .rw[ze];exact L4
   have gc:∃Y,G c=some Y:=by
    by_cases zm:c=d.mp
    .exists _,zm ▸ W
    by_cases zo:∀j,j<d.n->¬O j c
    .exists o,gF _ _ (U _ _ (S1 _ _ e) zm) zo
    .have:∃j,j<d.n/\O j c:=Classical.byContradiction λw=>zo λj q w'=>w ⟨j,q,w'⟩;let⟨j,q,w⟩:=this;let⟨Y,J,_⟩:=(S.b j q).own c w;exists Y,J
   let⟨Y,J⟩:=gc;exists Y,F4 _ _ J zp ze
  have aF:yli d.n d.kd f' (X.see d b).g:=λj q N=>by
   rw[gA j q N];show _=if N=X.key d j then (X.g j N).see b else X.g j N;by_cases w:N=X.key d j
   .rw[if_pos ⟨q,w⟩,if_pos w]
   .rw[if_neg (λz=>w z.2),if_neg w]
  ext;exists p,d.dp,d.ll,d.bl,d.mp,el,d.pl,ndN X.nd b,sgN X.sg X.nd b,d.n,m,d.bk,d.dx,d.lk,d.dd,d.kd,d.ps,f',O,(X.see d b).g,rfl,ad,a3,a4,a5,aF,n6,(),h.np,λpl sl f2 O2 H5 aA aB aG B5 au ao an F5 L5=>?_
  have a1:∀{l:z4}{xs:Υ},H4 l=some (.lst xs)->l≠p:=λ{l xs}e z=>by rw[z,ad]at e;cases e
  have n2:∀j c,j<d.n->O2 j c->O j c\/H c=none:=λj c q w=>by
   rcases an j c q w with v|v
   .exact .inl v
   .refine .inr ?_
    cases e:H c with
    |none=>rfl
    |some o =>
     let⟨Y,J⟩:=a2 c o e;rw[J]at v;cases v
  refine k ml el pl sl f2 O2 H5 ?_ ⟨aA,F5 _ _ a3 (a1 a3) (a5.nlst a3),F5 _ _ a4 (a1 a4) (a5.nlst a4),⟨F5 _ _ ap (Ne.symm ac) h.nm,F5 _ _ a9 (a1 a9) (a5.nlst a9)⟩,ypv h.n1 n6 h.wok h.cok,aB,B5,au,ao,λj q w=>?_,λj q w=>?_,h.n1,n6⟩ n2 (λc o e c1 c2 c3 no=>F5 _ _ (F4 _ _ (gF _ _ (U _ _ (S1 _ _ e) c2) no) c1 c3) c1 no) (λc o e=>let ⟨Y,w⟩:=a2 c o e;L5 c Y w) (S1.free a7)
  .rcases al with z|z
   .exact .inl z
   .refine .inr ?_
    cases e:H el with
    |none=>rfl
    |some o =>
     exfalso;by_cases zp:el=p
     .rw[zp,gp]at z;cases z
     by_cases zm:el=d.mp
     .rw[zm,W]at z;cases z
     by_cases zo:∀j,j<d.n->¬O j el
     .rw[gF _ _ (U _ _ (S1 _ _ e) zm) zo]at z;cases z
     .have:∃j,j<d.n/\O j el:=Classical.byContradiction λw=>zo λj q w'=>w ⟨j,q,w'⟩;let⟨j,q,w⟩:=this;let⟨Y,J,_⟩:=(S.b j q).own el w;rw[J]at z;cases z
  .rcases n2 j p q w with v|v
   .exact h.np j q v
   .rw[hp]at v;cases v
  .rcases n2 j d.mp q w with v|v
   .exact h.nm j q v
   .rw[af]at v;cases v
def Ì{A:FA}{X:FX}{bs:Ρ}{k:Nat}{b:Int}(h:bs[k]?=some b):X.run A (bs.take (k+1))=(X.run A (bs.take k)).see A b:=by rw[zu h,yme]
structure FGo(p:z4)(A:FA)(O:Β)(H H':Hp)(el:z4)(O':Β):Prop where
 he:el=A.el\/H el=none
 hO:∀j c,j<A.n->O' j c->O j c\/H c=none
 fr:∀c o,H c=some o->c≠p->c≠A.mp->c≠A.el->(∀j,j<A.n->¬O j c)->H' c=some o
 live:∀c o,H c=some o->∃o',H' c=some o'
def FGo.free{p:z4}{A:FA}{H H':Hp}{el c:z4}(h:FGo p A O H H' el O')(hc:H' c=none):H c=none:=by
 cases e:H c with
 |none=>rfl
 |some o =>
  let⟨a,w⟩:=h.live c o e;rw[hc]at w;cases w
def FGo.refl{p:z4}{A:FA}{H:Hp}:FGo p A O H H A.el O:=⟨.inl rfl,λZ Z Z w=>.inl w,λZ Z e Z Z Z Z=>e,λZ o e=>⟨o,e⟩⟩
theorem FGo.trans{p:z4}{A:FA}{O1:Β}{H H1 H2:Hp}{ml el pl el2:z4}{sl:Μ}(h:FGo p A O H H1 el O1)(k:FGo p (A.re ml el pl sl) O1 H1 H2 el2 O2):FGo p A O H H2 el2 O2:=by
 exists ?_,λj c a w=>?_,λc o e f d g b=>?_,λc o e=>?_
 .rcases k.he with z|z
  .rcases h.he with y|y
   .exact .inl (z.trans y)
   .exact .inr (by rw[show el2=el from z];exact y)
  .exact .inr (h.free z)
 .rcases k.hO j c a w with v|v
  .exact h.hO j c a v
  .exact .inr (h.free v)
 .refine k.fr c o (h.fr c o e f d g b) f d (λz=>?_) (λj a w=>?_)
  .rcases h.he with y|y
   .exact g (z.trans y)
   .rw[show c=el from z,y]at e;cases e
  .rcases h.hO j c a w with v|v
   .exact b j a v
   .rw[e]at v;cases v
 .obtain⟨i,l⟩:=h.live c o e;exact k.live c i l
def FGo.same{p:z4}{A:FA}{H H1 H2:Hp}{el:z4}(h:FGo p A O H H1 el O')(S:yw H1 H2):FGo p A O H H2 el O' :=
 ⟨h.he,h.hO,λc o e f d b a=>S _ _ (h.fr c o e f d b a),λc o e=>let ⟨o',w⟩:=h.live c o e;⟨o',S _ _ w⟩⟩
def FGo.kpa{p:z4}{A:FA}{X:FX}{f:Α}{m:Nat}{H H':Hp}{el:z4}(hf:z6 K a H p A X f O m)(h:FGo p A O H H' el O'):KpA H H' A.el el:=λc o e i k=>by
 exists ?_,h.fr c o e (λz=>by rw[z,hf.me]at e;cases e;cases i) (λz=>by rw[z,hf.mx.o]at e;cases e;cases i) k λj l w=>?_
 .rcases h.he with z|z
  .rw[z];exact k
  .exact yb e z
 .obtain⟨n,g,d⟩:=(hf.B.b j l).own c w;rw[e]at g;cases g;rw[i]at d;cases d
def yyd{g:Μ}{n:Nat}(h:1<=n):(refs g n)[0]?=some (.ref (g 0)):=by unfold refs;rw[cu,dJ h];rfl
structure î(H:Hp)(t:z4)(ts:Ρ)(w:Nat):Prop where
 l:H t=some (.lst (ts.map V.int))
 s:Sgs ts
 z:ts.length<=w
def î.same{H H':Hp}{t:z4}{w:Nat}(h:î H t ts w)(S:yw H H'):î H' t ts w:=⟨S _ _ h.l,h.s,h.z⟩
def fX(n:Nat)(kd:Ξ)(ps:Λ)(pre:Ρ)(ts:Ρ)(k:Nat):FX:=((FX0 n kd).run (fa0 n ps) pre).run (fa0 n ps) ((dec ts).take k)
def uf(n:Nat)(kd:Ξ)(ps:Λ)(pre:Ρ)(ts:Ρ)(k:Nat):Int:=yqy (fX n kd ps pre ts k).ws ((fX n kd ps pre ts k).cs (fa0 n ps))
def vk(ts:Ρ)(k:Nat):Int:=((dec ts)[k]?).getD 0
def yl8(ts:Ρ)(k:Nat)(h:k<(dec ts).length):0<=vk ts k/\vk ts k<=1:=by unfold vk;rw[ci h];exact Î ts _ (cU h)
def vgb(H:Hp)(lx:V)(N w:Nat)(lt:Μ)(tt:Λ):Prop:=((lx=.non/\N=0)\/∃ll,lx=.ref ll/\H ll=some (.lst (refs lt N)))/\∀i,i<N->î H (lt i) (tt i) w
structure vhp(H:Hp)(L tx:z4)(lx:V)(n:Nat)(lk:Μ)(kd:Ξ)(tp:Μ)(ps:Λ)(ts:Ρ)(N w:Nat)(lt:Μ)(tt:Λ):Prop where
 l:H L=some (.lst (refs lk n))
 n1:1<=n
 n6:n<=6
 r:xn H n lk kd tp ps
 t:î H tx ts 1000
 lr:vgb H lx N w lt tt
 w1:w<=1000
 N1:N<=1000
 b:6+6*(N*(9*w+1))+6*(9*ts.length+1)+20<1000000
def LkG.sd{H:Hp}{v:V}{kd:Fin 3}{tp:z4}{ps:Ρ}(h:LkG H v kd tp ps):Sd K H v (dLk kd ps) 2:=⟨h.rd,yr2 kd ps,yhy kd ps,yt5 kd ps⟩
theorem Sds.refs{H:Hp}{k:Nat}{g:Μ}{d:Nat->PyData}:∀(n:Nat),(∀i,i<n->Sd K H (.ref (g i)) (d i) k)->Sds K H (refs g n) ((List.range n).map d) k:=λn h=>by
 unfold Law.refs
 have a:∀l:qi Nat,(∀i∈l,i<n)->Sds K H (l.map λi=>V.ref (g i)) (l.map d) k:=by
  intro l
  induction l with
  |nil=>exact λZ=>.nil
  |cons i r ih=>exact λb=>.cons (h i (b i (by simp))) (ih λj e=>b j (by simp[e]))
 exact a (List.range n) λi c=>dB.mp c
def xn.sds{H:Hp}{n:Nat}{lk:Μ}{kd:Ξ}{ps:Λ}(h:xn H n lk kd tp ps):Sds K H (refs lk n) ((List.range n).map λi=>dLk (kd i) (ps i)) 2:=Sds.refs n λi a=>(h i a).sd
structure XOk(n:Nat)(X:FX):Prop where
 w:WOk n X.ws
 s:∀i k,(X.g i k).ok
theorem XOk.cs{n:Nat}{X:FX}(h:XOk n X)(ps:Λ):COk n (X.cs (fa0 n ps)):=by
 exists by unfold FX.cs;rw[bI,di];rfl,λc a=>?_,λc a=>?_
 .obtain⟨j,_,rfl⟩:=cn.mp a;exact(yet (h.s _ _)).1
 .obtain⟨j,_,rfl⟩:=cn.mp a;exact(yet (h.s _ _)).2
theorem XOk.see{n:Nat}{X:FX}(h:XOk n X)(n1:1<=n)(n6:n<=6)(ps:Λ){b:Int}(b0:0<=b)(b1:b<=1):XOk n (X.see (fa0 n ps) b):=by
 exists ypv n1 n6 h.w (h.cs ps),λi k=>?_;show (if k=X.key (fa0 n ps) i then (X.g i k).see b else X.g i k).ok
 split
 .exact Slt.see_ok (h.s i k) b0 b1
 .exact h.s i k
theorem XOk.run{n:Nat}(n1:1<=n)(n6:n<=6)(ps:Λ):∀(bs:Ρ){X:FX},XOk n X->ŋ bs->XOk n (X.run (fa0 n ps) bs)
 |[],_,h,_=>h
 |b::r,_,h,hb=>XOk.run n1 n6 ps r (h.see n1 n6 ps (hb b (by simp)).1 (hb b (by simp)).2) λc a=>hb c (by simp[a])
def XOk.zero{n:Nat}(n1:1<=n)(n6:n<=6)(kd:Ξ):XOk n (FX0 n kd):=⟨vc0 n n1 n6,λi Z=>yox (kd i)⟩
def yg0{bs:Ρ}(h:ŋ bs)(k:Nat):ŋ (bs.take k):=λb a=>h b (dz a)
def vcx{n:Nat}(n1:1<=n)(n6:n<=6){kd:Ξ}{ps:Λ}{pre:Ρ}(hp:ŋ pre)(k:Nat):XOk n (fX n kd ps pre ts k):=by unfold fX;exact((XOk.zero n1 n6 kd).run n1 n6 ps pre hp).run n1 n6 ps _ (yg0 (Î ts) k)
def Ğ{n:Nat}(n1:1<=n)(n6:n<=6){kd:Ξ}{ps:Λ}{pre:Ρ}(hp:ŋ pre)(k:Nat):Ch (uf n kd ps pre ts k):=yjr n1 (vcx (kd:=kd) (ps:=ps) (ts:=ts) n1 n6 hp k).w ((vcx (kd:=kd) (ps:=ps) (ts:=ts) n1 n6 hp k).cs ps)
structure TwB(K:z3)(a:Ads)(H G:Hp)(n:Nat)(bk dx lk dd:Μ)(kd:Ξ)(ps:Λ)(f:Α)(O:Β)(m:Nat):Prop where
 B:Bks K a G n bk dx lk dd kd ps f O m
 oO:∀j c,j<n->O j c->H c=none
 oB:∀j,j<n->H (bk j)=none
def TwB.zero{H G:Hp}{bk dx lk dd:Μ}{kd:Ξ}{ps:Λ}{f:Α}{m:Nat}:TwB K a H G 0 bk dx lk dd kd ps f O m :=
 ⟨⟨λi b=>absurd b (cS i),λi b=>absurd b (cS i),λi Z Z b=>absurd b (cS i),λi Z b=>absurd b (cS i)⟩,λi Z b=>absurd b (cS i),λi b=>absurd b (cS i)⟩
def TwB.next{H G G2:Hp}{n m:Nat}{bk dx lk dd:Μ}{kd:Ξ}{ps:Λ}{f:Α}(h:TwB K a H G n bk dx lk dd kd ps f O m)(hl:z0 K G (lk n) (.str (kdS (kd n))) (ps n))
  (S:yw H G) {q dq d D:z4} {xs ys:Υ} {f':qi Int->qj Slt} {O':Ν} (hq:G q=none) (hO:∀c,O' c->G c=none) (S2:yw G G2) (hb:Ý a G2 q dq (lk n) d (kd n) f' O' m) (hD:G D=some (.lst xs)):
  TwB K a H (upd G2 D (.lst ys)) (n+1) (upN bk n q) (upN dx n dq) lk (upN dd n d) kd ps (upN f n f') (upN O n O') m:=by
 let⟨p,x,v⟩:=h;have k:∀j c,j<n->O j c->∃o,G c=some o:=λj c g w=>let ⟨o,l,_⟩:=(p.b j g).own c w;⟨o,l⟩
 have M:=(p.same S2).snoc (hl.same S2) hb (λj c g w z=>by
  let⟨o,l⟩:=k j c g w;rw[hO c z]at l
  cases l) (λj g w=>by
  let⟨o,l⟩:=k j q g w;rw[hq]at l
  cases l) (λj g z=>by
  have e:=(p.b j g).me;rw[hO _ z]at e;cases e)
 have i:=S2 _ _ hD;have u:=M.nlst i;have s:∀c o,G2 c=some o->c≠D->upd G2 D (.lst ys) c=some o:=λc o e r=>ye r e;exists M.frame (O2:=λc=>c=D) (λc o e r=>s c o e r) (λj c g w z=>u j g (z ▸ w)) (λj g z=>?_) (λt xs e=>?_),λj c g w=>?_,λj g=>?_
 .have e:=(M.b j g).me;rw[z,i]at e;cases e
 .rcases e with(e|⟨o,e⟩)|e
  .exact .inl (.inl (s _ _ e (λz=>by rw[z,i]at e;cases e)))
  .exact .inl (.inr ⟨o,s _ _ e (λz=>by rw[z,i]at e;cases e)⟩)
  .exact .inr e
 .by_cases z:j=n
  .rw[z,xh]at w;exact S.free (hO c w)
  .rw[xb ()]at w;exact x j c () w
 .by_cases z:j=n
  .rw[z,xh];exact S.free hq
  .rw[xb ()];exact v j ()
#synth yos ["self","made"] ["self"] yuu
inductive ydw(K:z3)(a:Ads)(vs:Υ)(H:Hp)(Q:VK)(E':XK):Prop
 |mk(p:z4)(A:FA)(X:FX)(f:Α)(O:Β)(m:Nat)(_:vs=[.ref p])(_:z6 K a H p A X f O m)(_:yw5 H A)(_:m+20<1000000)(_:∀(q:z4)(A':FA)(f':Α)(O':Β)(H':Hp),H q=none->z6 K a H' q A' X f' O' (m+A.n)->yw5 H' A'->A'.n=A.n->A'.kd=A.kd->A'.ps=A.ps->A'.lk=A.lk->(∀j c,j<A.n->O' j c->H c=none)->(∀j,j<A.n->H (A'.bk j)=none)->H A'.mp=none->(∀l,(l=A'.bl\/l=A'.el\/l=A'.ml\/l=A'.pl\/l=A'.ll)->H l=none)->yw H H'->Q (.ref q) H')
def vaz:vq P w K mg Γ CX0 8 a.L7 a.Nv ["self"] (ydw K a):=by
 exists T.J3.F.ok,yos,hr;let⟨p,u,X,f,O,m,rfl,h,⟨aD,aL,tp,a0⟩,hm,k⟩:=h;have hp:=h.me;have n1:=h.n1;have n6:=h.n6;refine yg (yu (i:=1) yos.nd rfl (Or.inl rfl) (xz T.Ta (yo7 T) hr.m rfl T.T9 T.Eg.B .nil y9 (pa1 (ym (pv 0) rfl)))) ?_;refine yg (y7 (pv 1) (wc (js:=[]) (ys:=[]) rfl (wz (ym (pv 0) rfl)) (λC s2 H2 fp=>(yz (pv 0) T.Cp T.Ix.m (yz9 T) hr.m T.Ix.B .nil vh)) rfl rfl (hyc:=y8) (hrel:=y8)) rfl) ?_;refine yg (y7 (pv 1) (yz (ym (pv 0) rfl) T.Fw T.J0.m (vax T) hr.m T.J0.B .nil vh) rfl) ?_;refine yg (y7 (pv 1) (pcT vj T.Ae (pa1 (ym (pv 0) rfl))) rfl) ?_;refine yg (y7 (pv 1) (ym (pv 0) rfl) rfl) ?_;refine yg (yt (yz (pv 1) T.Ai T.D5.m (ykz T) hr.m T.D5.B .nil vh)) ?_;exists 1,1,yc (yo (pv 1));intro q dq Y ap aU;have S0:yw H (upd (upd H dq (.own q)) q (.ins a.A4 dq [])):=λb o e=>by rw[yk (yb e Y),yk (yb e ap)];exact e
 exists q,dq,.ref u.ll,rfl,ya,.inr ⟨u.ll,u.n,u.lk,u.kd,tp,u.ps,rfl,S0 _ _ aD,n1,n6,a0.same S0,λd f1 O1 H1 N1 B1=>⟨rfl,?_⟩⟩;let⟨aj,e1,e2,e3,e4,aN,aR,aK,aM,W,aO,aE⟩:=N1;have S1:yw H H1:=è Y ap B1;have h1:=h.same S1;have R:H1 q=some (.ins a.A4 d.dp (zt (.ref d.ll) (.ref d.bl) (.ref d.mp) (.ref d.el) (.int 0) (.ref d.pl))):=aj.me;have av:=h1.me;have aI:p≠q:=yb hp Y;ext;exists u.bl,rfl,⟨_,SqL.of h1.bl⟩,λD hD=>?_;refine zx (K:=K) (xs:=refs u.bk u.n) (λi G=>∃(bk dx dd:Μ)(f2:Α)(O2:Β),G D=some (.lst (refs bk i))/\TwB K a H1 G i bk dx u.lk dd u.kd u.ps f2 O2 m/\(∀j,j<i->f2 j=f j)/\yw H1 G)
  ⟨λF=>0,λF=>0,λF=>0,λF F=>none,λF F=>False,ya,TwB.zero,λj x=>absurd x (cS j),vg hD⟩ (λi G F z=>?_) (λi y G hy hi z=>?_) (λG z=>?_)
 .obtain⟨_,_,_,_,_,_,_,_,M⟩:=z;exact SqL.of (M _ _ h1.bl)
 .obtain⟨bk,dx,dd,f2,O2,gD,S,gf,M⟩:=z;let⟨rfl,am⟩:=γ hy;have aq:=(h1.B.b i am).same M;have aG:=aq.me;ext;exists u.bk i,u.dx i,u.lk i,u.dd i,u.kd i,f i,O i,m,rfl,aq,(),λq2 aS d2 O3 G2 ao ay aB S2=>?_
  refine xm (n:=(refs u.bk u.n).length) (S2 _ _ gD) (vi (by rw[v9];omega)) hi ?_;exists _,_,_,_,_,?_,S.next ((h1.B.look i am).same M) M ao aB S2 ay gD,λj x=>?_,λb o e=>ye (yb e hD) (S2 _ _ (M b o e))
  .rw[ya,uz,xh]
   congr 3
   exact uv λj x=>(xb x).symm
  .by_cases z:j=i
   .rw[z,xh]
   .rw[xb ()];exact gf j ()
 let⟨bk,dx,dd,f2,O2,gD,S,gf,M⟩:=z;rw[v9]at gD S gf;have an:=M _ _ R;have aJ:=M _ _ av;ext;have ak:D≠q:=λz=>by rw[z,R]at hD;cases hD
 have BA:But q G (upd G q (.ins a.A4 d.dp (zt (.ref d.ll) (.ref D) (.ref d.mp) (.ref d.el) (.int 0) (.ref d.pl)))):=But.upd;have U:upd G q (.ins a.A4 d.dp (zt (.ref d.ll) (.ref D) (.ref d.mp) (.ref d.el) (.int 0) (.ref d.pl))) q=some (.ins a.A4 d.dp (zt (.ref d.ll) (.ref D) (.ref d.mp) (.ref d.el) (.int 0) (.ref d.pl))):=ya;generalize upd G q (.ins a.A4 d.dp (zt (.ref d.ll) (.ref D) (.ref d.mp) (.ref d.el) (.int 0) (.ref d.pl)))=HA at BA U⊢;have SA:yw H HA:=λb o e=>BA _ _ (M _ _ (S1 _ _ e)) (yb e Y);have hA:=h.same SA;have aT:=hA.me;have aF:=hA.mx.o;ext;exists u.mp,u.mx,u.ml,X.ws,rfl,hA.mx,by rw[h.wok.len];exact n1,by rw[h.wok.len];exact n6,λI aC l3 HB L Z MB SB=>?_
 have aQ:=SB _ _ U;ext;have a7:I≠q:=(yb U L).symm;have al:l3≠q:=(yb U Z).symm;have BC:But q HB (upd HB q (.ins a.A4 d.dp (zt (.ref d.ll) (.ref D) (.ref I) (.ref d.el) (.int 0) (.ref d.pl)))):=But.upd;have aa:upd HB q (.ins a.A4 d.dp (zt (.ref d.ll) (.ref D) (.ref I) (.ref d.el) (.int 0) (.ref d.pl))) q=some (.ins a.A4 d.dp (zt (.ref d.ll) (.ref D) (.ref I) (.ref d.el) (.int 0) (.ref d.pl))):=ya;generalize upd HB q (.ins a.A4 d.dp (zt (.ref d.ll) (.ref D) (.ref I) (.ref d.el) (.int 0) (.ref d.pl)))=HC at BC aa⊢;have SC:yw H HC:=λb o e=>BC _ _ (SB _ _ (SA _ _ e)) (yb e Y);have aW:=SC _ _ hp;ext;refine ŭ (SqL.of (SC _ _ h.el)) λr hr0=>?_;exists hr0,HD,SD,er;have aH:=SD _ _ aa;ext;have ah:r≠q:=(yb aa hr0).symm;have BE:But q HD (upd HD q (.ins a.A4 d.dp (zt (.ref d.ll) (.ref D) (.ref I) (.ref r) (.int 0) (.ref d.pl)))):=But.upd;have aA:upd HD q (.ins a.A4 d.dp (zt (.ref d.ll) (.ref D) (.ref I) (.ref r) (.int 0) (.ref d.pl))) q=some (.ins a.A4 d.dp (zt (.ref d.ll) (.ref D) (.ref I) (.ref r) (.int 0) (.ref d.pl))):=ya;generalize upd HD q (.ins a.A4 d.dp (zt (.ref d.ll) (.ref D) (.ref I) (.ref r) (.int 0) (.ref d.pl)))=HE at BE aA⊢;have SE:yw H HE:=λb o e=>BE _ _ (SD _ _ (SC _ _ e)) (yb e Y);have aP:=SE _ _ hp;ext;have BF:But q HE (upd HE q (.ins a.A4 d.dp (zt (.ref d.ll) (.ref D) (.ref I) (.ref r) (.int X.nd) (.ref d.pl)))):=But.upd;have a8:upd HE q (.ins a.A4 d.dp (zt (.ref d.ll) (.ref D) (.ref I) (.ref r) (.int X.nd) (.ref d.pl))) q=some (.ins a.A4 d.dp (zt (.ref d.ll) (.ref D) (.ref I) (.ref r) (.int X.nd) (.ref d.pl))):=ya;generalize upd HE q (.ins a.A4 d.dp (zt (.ref d.ll) (.ref D) (.ref I) (.ref r) (.int X.nd) (.ref d.pl)))=HF at BF a8⊢;have ae:But q HD HF:=BE.trans BF;have a2:But q HB HF:=(BC.trans (But.of SD)).trans ae;have N:But q G HF:=(BA.trans (But.of SB)).trans a2;have SF:yw H HF:=λb o e=>N _ _ (M _ _ (S1 _ _ e)) (yb e Y);have a6:=N _ _ gD ak;have a5:=ae _ _ er ah;have ac:=a2 _ _ MB.o a7;have ad:=a2 _ _ MB.l al
 have a9:∀j,j<u.n->¬O2 j q:=λj x w=>by
  have e:=S.oO j q x w;rw[R]at e;cases e
 have af:Bks K a HF u.n bk dx u.lk dd u.kd u.ps f2 O2 m:=S.B.frame (O2:=λc=>c=q) (λc o e ne=>N c o e ne) (λj c x w z=>a9 j x (z ▸ w)) (λj x z=>by
  have e:=S.oB j x;rw[z,R]at e
  cases e) (λt xs e=>by
  rcases e with(e|⟨o,e⟩)|e
  .exact .inl (.inl (N _ _ e (λz=>by rw[z,an]at e;cases e)))
  .exact .inl (.inr ⟨o,N _ _ e (λz=>by rw[z,an]at e;cases e)⟩)
  .exact .inr e)
 have ax:yli u.n u.kd f2 X.g:=λi hi k=>by
  rw[gf i hi];exact h.ag i hi k
 ext;exists q,d.dp,d.ll,D,I,r,d.pl,X.nd,X.sg,u.n,m,bk,dx,u.lk,dd,u.kd,u.ps,f2,O2,X.g,rfl,a8,a6,a5,af,ax,n6,(),a9,λpl sl f' O' H' ar au ai B' aw as a4 F' L'=>?_
 have a3:∀j c,j<u.n->O2 j c->∃o,G c=some o:=λj c x w=>let ⟨o,ho,_⟩:=(S.B.b j x).own c w;⟨o,ho⟩
 have ab:∀j,j<u.n->¬O2 j I:=λj x w=>by
  let⟨o,ho⟩:=a3 j I x w;rw[BA _ _ ho a7]at L;cases L
 have nl:=λ{l:z4}{xs:Υ}(e:HF l=some (.lst xs))=>af.nlst e;have J:d.ll≠q:=λz=>by rw[z,R]at W;cases W
 have a1:=N _ _ (M _ _ W) J
 have SH:yw H H':=λc o e=>F' c o (SF c o e) (yb e Y) λj x w=>by
  have e2:=S.oO j c x w;rw[S1 _ _ e]at e2;cases e2
 ext;refine k q ⟨d.dp,d.ll,D,I,aC,l3,r,pl,u.n,bk,dx,u.lk,dd,sl,u.kd,u.ps⟩ f' O' H' Y ⟨ar,F' _ _ a6 ak (nl a6),F' _ _ a5 ah (nl a5),⟨F' _ _ ac a7 ab,F' _ _ ad al (nl ad)⟩,h.wok,au,B',aw,as,λj x w=>?_,λj x w=>?_,n1,n6⟩ ⟨F' _ _ a1 J (nl a1),λz=>?_,tp,a0.same SH⟩ rfl rfl rfl rfl (λj c x w=>?_) (λj x=>S1.free (S.oB j x)) (SA.free L) (λl hl=>?_) SH
 .rcases a4 j q x w with v|v
  .exact a9 j x v
  .rw[a8]at v;cases v
 .rcases a4 j I x w with v|v
  .exact ab j x v
  .rw[ac]at v;cases v
 .have e:=BC _ _ (SB _ _ (BA _ _ (M _ _ W) J)) J;rw[show d.ll=r from z,hr0]at e;cases e
 .rcases a4 j c x w with v|v
  .exact S1.free (S.oO j c x v)
  .exact SF.free v
 .rcases hl with z|z|z|z|z
  .rw[z];exact S1.free hD
  .rw[z];exact SC.free hr0
  .rw[z];exact SA.free Z
  .rw[z];exact SF.free ai
  .rw[z];exact S0.free aE
#synth yzj ["sign"] yv9
inductive yfr(K:z3)(vs:Υ)(H:Hp)(Q:VK)(E':XK):Prop
 |mk(s:Int)(_:vs=[.int s])(_:∀r H',H r=none->H' r=some (.lst ((b8 s).map V.int))->yw H H'->Q (.ref r) H')
def yzk:vq P w K mg Γ CX0 1 a.L8 a.Nw ["sign"] (yfr K):=by
 exists T.Pm.F.ok,yzj,r;let⟨n,rfl,k⟩:=h;exists 1,0,yc (yo (wc (js:=[0]) (ys:=["sign"]) rfl (yex (å rfl T.Jm)) (λC t g u=>(yp xi (yp vx (pv 1) (pv 0)) yh)) rfl rfl (hyc:=(all_cons rfl y8)) (hrel:=(all_cons rfl y8))));exists a.Br,rfl,⟨_,T.Dl H⟩,λD d=>?_;refine ľ (wV n) (T.Dl H) d (λi y g l e b=>?_) (λg e b=>?_)
 .obtain⟨c,o,rfl,p⟩:∃c,0<c/\y=V.int c/\c<=128:=by
   have j:=cB l;simp only[cG,List.not_mem_nil,or_false]at j;rcases j with rfl|rfl|rfl|rfl|rfl|rfl|rfl|rfl<;>exact⟨_,∅,rfl,∅⟩
  ext;exact Mp.done d (by show 8<sizeLine;decide) l e b rfl
 .exact k D g d b e
#synth ykq ["text","bits","sign"] ["text"] ywt
inductive vay(K:z3)(vs:Υ)(H:Hp)(Q:VK)(E':XK):Prop
 |mk(t:z4)(ns:Ρ)(_:vs=[.ref t])(_:H t=some (.lst (ns.map V.int)))(_:Sgs ns)(_:ns.length<=1000)(_:∀r H',H r=none->H' r=some (.lst ((dec ns).map V.int))->yw H H'->Q (.ref r) H')
def vcf:vq P w K mg Γ CX0 5 a.L9 a.Ny ["text"] (vay K):=by
 exists T.Pn.F.ok,ykq,O;let⟨t,f,rfl,S,hs,W,k⟩:=h;exists 1,2,yf (yu (i:=1) ykq.nd rfl (Or.inl rfl) (wx zj)) (yf (uh PassesOwn.never rfl (wz (ul (ywr T) O.m T.Q5 y9 (pa1 (pv 0)))) (we (i:=2) ykq.nd rfl (Or.inl rfl)) (yf (yt (ji PySem.F.plainAttrs_list PySem.F.slot_list_append PySem.F.type_list_append w6 (pv 1) (pa1 yh))) (yc (yt (ji PySem.F.plainAttrs_list PySem.F.slot_list_extend PySem.F.type_list_extend É (pv 1) (pa1 (xx (yzk T) O.m T.Pm (pa1 (pv 2))))))))) (yf (yt (ji PySem.F.plainAttrs_list PySem.F.slot_list_append PySem.F.type_list_append w6 (pv 1) (pa1 yh))) (yc (yo (pv 1)))));exists by walk_at "len",λr hr0=>?_
 exists hr0,H1,S1,hr1;ext;exists .ref t,_,rfl,.lst (S1 _ _ S),.inr ⟨f.map V.int,Ů (S1 _ _ S) hs W,λc H2 x j R=>?_⟩;have M:=S1.trans R;refine⟨c,rfl,⟨_,SqL.of j⟩,zd (K:=K) (a:=c) (xs:=f.map V.int) (λi σ2 G=>∃v,σ2=[some (.ref t),some (.ref r),v]/\G r=some (.lst ((ybx (f.take i)).map V.int))/\G c=some (.lst (f.map V.int))/\yw H G)
  ⟨_,rfl,R _ _ hr1,j,M⟩ (by rintro i σ2 G _ ⟨_,_,_,z,_⟩;exact SqL.of z) ?_ ?_⟩
 .rintro i y σ2 G Z ⟨v,rfl,d,u,C⟩;let⟨z,rfl,Y,J,U⟩:=Ú Z;have p:c≠r:=λe=>by rw[e,hr1]at x;cases x
  have n:(List.map V.int (ybx (f.take i))).length<=9000:=by rw[bI,j9,cK];omega
  ext;refine jh d ?_;ext;refine x0 d (vi ()) ?_;have l:yw H (upd G r (.lst (List.map V.int (ybx (f.take i))++[V.int 1]))):=λb o e=>ye (yb e hr0) (C b o e);have B:upd G r (.lst (List.map V.int (ybx (f.take i))++[V.int 1])) c=some (.lst (f.map V.int)):=ye p u;have g:upd G r (.lst (List.map V.int (ybx (f.take i))++[V.int 1])) r=some (.lst (List.map V.int (ybx (f.take i)++[1]))):=by rw[ya,cA];rfl
  generalize upd G r (.lst (List.map V.int (ybx (f.take i))++[V.int 1]))=G1 at l B g⊢;ext;refine jh g ?_;ext;exists z,rfl,λq G2 a0 N L=>?_;ext;have I:=L _ _ g;exists r,q,_,_,rfl,rfl,I,N,xu (by rw[bI,bI,cj,yqj];rw[bI]at n;show _+1+8<=_;omega),?_;ext;exists _,rfl,?_,?_,λb o e=>ye (yb e hr0) (L _ _ (l b o e))
  .rw[ya,zu J,ybb,yng,cY];rfl
  .exact ye p (L _ _ B)
 .rintro σ2 G ⟨v,rfl,d,u,C⟩;rw[bI,dh]at d;ext;refine jh d ?_;ext;refine x0 d (vi (by rw[bI,j9];omega)) ?_;ext;refine k r _ hr0 ?_ λb o e=>ye (yb e hr0) (C b o e);rw[ya,ynx,cA];rfl
#synth yz1 ["self","place"] yt9
inductive yf2(C:z4)(vs:Υ)(H:Hp)(Q:VK)(E':XK):Prop
 |mk(p dx pd:z4)(v1 v2 v3:V)(d:Ρ)(k:Nat)(_:vs=[.ref p,.int k])(_:H p=some (.ins C dx (ylf (.ref pd) v1 v2 v3)))(_:H pd=some (.lst (d.map V.int)))(_:Q (.int ((d[k]?).getD 0)) H)
def vbv:vq P w K mg Γ CX0 1 a.Lb a.O4 ["self","place"] (yf2 a.Ah):=by
 exists T.J4.F.ok,yz1,r;let⟨p,j,g,o,m,n,d,i,rfl,t,e,k⟩:=h;exists 2,0,yc (yo (ε (y6 ſ (pv 1) (pcB yr T.Ad (pa1 (ym (pv 0) rfl))) (vd _)) (xf wk (ym (pv 0) rfl) (pv 1) (λZ Z=>rfl)) yh));refine ut (SqL.of e) ?_;rw[bI];ext;refine zn (λq=>?_) (λq=>?_)
 .have c:i<d.length:=()
  rw[ci c]at k;ext;exact Û (SqL.of e) (w9 (by rw[cu,ci c];rfl)) k
 .rw[df ()]at k;ext;exact k
#synth vas ["self"] yv2
inductive yg9(C D:z4)(vs:Υ)(H:Hp)(Q:VK)(E':XK):Prop
 |mk(p dx pd ps ds:z4)(d:Ρ)(x:Sn)(r:Nat)(_:vs=[.ref p])(_:H p=some (.ins C dx (ylf (.ref pd) (.ref ps) (.int (rn d r)) (.int r))))(_:H pd=some (.lst (d.map V.int)))(_:H ps=some (.ins D ds (j5 x)))(_:p≠ps)(_:OkS x)(_:r<=sz x)(_:∀H',H' p=some (.ins C dx (ylf (.ref pd) (.ref ps) (.int (rn d (sz x))) (.int x.2.2)))->But p H H'->Q .non H')
def yo6:vq P w K mg Γ CX0 2 a.La a.O0 ["self"] (yg9 a.Ah a.A5):=by
 exists T.Ek.F.ok,vas,u;let⟨p,e,j,n,q,d,x,r,rfl,o,v,L,g,M,l,k⟩:=h;exists _,(yc (j8 PassesOwn.never (y6 ſ (ym (pv 0) rfl) (ym (ym (pv 0) rfl) rfl) (vd _)) (yf (y7 (pv 0) (yp vw (yp wv (ym (pv 0) rfl) yh) (wn (pv 0) T.C6 T.J4.m (vbv T) u.m T.J4.B .nil vh (pa1 (ym (pv 0) rfl)))) rfl) (yc (y7 (pv 0) (yp vw (ym (pv 0) rfl) yh) rfl))))),?_;exists 1,0;have C:=M.sz;exists λm σ' t=>∃r:Nat,σ'=[some (.ref p)]/\t p=some (.ins a.Ah e (ylf (.ref j) (.ref n) (.int (rn d r)) (.int r)))/\r<=sz x/\But p H t/\m=sz x-r,⟨_,r,rfl,o,l,But.refl,rfl⟩,?_;rintro m σ2 J ⟨r,rfl,b,D,c,rfl⟩;have y:J n=some (.ins a.A5 q (j5 x)):=c _ _ L g.symm;have f:=c.lst o v;ext;refine zn (λN=>?_) (λN=>?_)
 .refine ybj ?_;ext;exists p,e,j,_,_,_,d,r,rfl,b,f,?_;ext;exists _,?_,r+1,rfl,?_,(),(c.trans But.upd).trans But.upd,rfl
  .omega
  .rw[ya];rfl
 .have z:r=sz x:=()
  subst z;ext;refine k _ ?_ c;rw[<- C];exact b
#synth yxk ["self","data"] yv8
inductive yhi(K:z3)(a:Ads)(vs:Υ)(H:Hp)(Q:VK)(E:XK):Prop
 |mk(p dx:z4)(v:V)(n:String)(_:vs=[.ref p,v])(_:H p=some (.ins a.Ah dx []))(_:xt K H v (.type n))(_:((Bad K H v n 12000/\∀H',yw H H'->E (.ref a.Gn) none H')\/∃d:Ρ,vdr K H v (d.map V.int) 12000/\∀pd ps ds H',H pd=none->H ps=none->ygk a H' p dx pd ps ds d s0->But p H H'->Q .non H'))
def yxt:vq P w K mg Γ (CXe P w) 5 a.I6 a.Nz ["self","data"] (yhi K a):=by
 exists T.Fu.F.okE,yxk,D;let⟨p,l,v,n,rfl,S,Y,h⟩:=h;exists 2,0,yf (y7 (pv 0) (ul (vfk T) D.m T.Rv yy (pa1 (pv 1))) rfl) (yf (y7 (pv 0) (zb T.Qp (yop T) D.m rfl T.Qo T.Ea.B .nil vh) rfl) (yf (y7 (pv 0) yh rfl) (yf (y7 (pv 0) yh rfl) (yc (yt (yz (pv 0) T.C6 T.Ek.m (yo6 T) D.m T.Ek.B .nil vh))))));exists v,n,rfl,Y,?_;rcases h with⟨hb,k⟩|⟨d,hg,k⟩
 .exact .inl ⟨hb,k⟩
 .refine .inr ⟨d.map V.int,hg,λi C j O U=>?_⟩;have X:=U _ _ S;have f:i≠p:=λz=>by rw[z,S]at j;cases j
  ext;have I:But p H (upd C p (.ins a.Ah l ([("data",V.ref i)]:Ι))):=(But.of U).trans But.upd;have q:upd C p (.ins a.Ah l ([("data",V.ref i)]:Ι)) p=some (.ins a.Ah l ([("data",V.ref i)]:Ι)):=ya;have u:upd C p (.ins a.Ah l ([("data",V.ref i)]:Ι)) i=some (.lst (d.map V.int)):=ye f O;generalize upd C p (.ins a.Ah l ([("data",V.ref i)]:Ι))=H2 at I q u⊢;intro t M g nds ne;exists t,M,rfl,ya,λW y B3=>⟨rfl,?_⟩;have N:yw H2 W:=λb o e=>B3 b o (by rw[yk (yb e g),yk (yb e nds)];exact e) (yb e g);have a0:=N _ _ q;have x:=N _ _ u;have c:p≠t:=yb q g
  have G:H t=none:=by
   cases e:H t with
   |none=>rfl
   |some o=>exact absurd (I _ _ e c.symm) (by rw[g];exact λz=>nomatch z)
  ext;exists p,l,i,t,M,d,s0,0,rfl,ya,?_,?_,c,vfp,cP _,λR J B4=>?_
  .exact ye f (ye f (ye f x))
  .exact ye c.symm (ye c.symm (ye c.symm y))
  .ext;have r:But p W R:=((But.upd.trans But.upd).trans But.upd).trans B4;exact k i t M R j G ⟨J,r _ _ x f,r _ _ y c.symm,c⟩ ((I.trans (But.of N)).trans r)
#synth yo3 ["self","chance","bit"] ["self","chance"] yt7
inductive ymj(K:z3)(a:Ads)(vs:Υ)(H:Hp)(Q:VK)(E:XK):Prop
 |mk(p dx pd ps ds:z4)(d:Ρ)(x:Sn)(v:V)(n:String)(_:vs=[.ref p,v])(_:ygk a H p dx pd ps ds d x)(_:OkS x)(_:xt K H v (.type n))(_:(chV v=false->E (.ref a.E6) none H))(_:∀c:Int,v=.int c->Ch c->∀H',ygk a H' p dx pd ps ds d (nar x c (Ü d x c))->ylg p ps H H'->Q (.int (Ü d x c)) H')
def vag{x:Sn}{c b:Int}(h:Ok x)(hc:Ch c):sz x<=sz (nar x c b):=by
 let⟨r,e⟩:=vdn (if b=1 then x.1 else x.1+cut x.2.1 c) (if b=1 then cut x.2.1 c else x.2.1-cut x.2.1 c) x.2.2
 have a:nar x c b=ren (if b=1 then x.1 else x.1+cut x.2.1 c) (if b=1 then cut x.2.1 c else x.2.1-cut x.2.1 c) x.2.2:=by
  unfold nar
  split<;>rfl
 rw[a,e];unfold sz;dsimp only;omega
def yx7:vq P w K mg Γ (CXe P w) 5 a.Lc a.O5 ["self","chance"] (ymj K a):=by
 exists T.J5.F.okE,yo3,u;let⟨p,I,M,o,q,d,x,v,n,rfl,j,y,Y,U,k⟩:=h;exists 2,1,yf (yt (ul (yu7 T) u.m T.Q6 yy (pa1 (pv 1)))) (yf (Ģ (yu (i:=2) yo3.nd rfl (Or.inl rfl) (ε (y6 ſ (ym (pv 0) rfl) (yp vw (ym (ym (pv 0) rfl) rfl) (wn (ym (pv 0) rfl) T.Ak T.Eb.m (ypc T) u.m T.Eb.B .nil vh (pa1 (pv 1)))) (vd _)) yh yh))) (yf (yt (yv (ym (pv 0) rfl) T.Ak T.Ec.m (ypm T) u.m T.Ec.B .nil yy (pac (pv 1) (pa1 (pv 2))))) (yf (yt (yz (pv 0) T.C6 T.Ek.m (yo6 T) u.m T.Ek.B .nil vh)) (yc (yo (pv 2))))));exists v,n,rfl,Y,λhv=>?_,U;let⟨c,rfl,W,c2⟩:=yct hv;have t:Ch c:=⟨W,c2⟩;have k:=k c rfl t;have N:=j.me;have e:=j.sp;ext;refine ynw (λσ' R=>σ'=[some (.ref p),some (.int c),some (.int (Ü d x c))]/\H=R) ?_ ?_
 .ext;exists o,q,_,rfl,e,lkN _ (by right) (by right) (by right),?_;ext;exists o,q,x,c,rfl,e,t,?_;ext;unfold Ü;refine zn (λC=>?_) (λC=>?_)
  .rw[if_pos C];ext;exists rfl,rfl
  .rw[if_neg C];ext;exists rfl,rfl
 .rintro σ' R ⟨rfl,rfl⟩;have L:=Ű d x c;generalize C:Ü d x c=b at L k⊢;ext;exists o,q,_,rfl,e,lkN _ (by right) (by right) (by right),?_;ext;exists o,q,x,.int c,.int b,_,_,rfl,e,y.ok,.int c,.int b,(λz=>by rw[yev t]at z;cases z),(λZ z=>by rw[yc5 () ()]at z;cases z),λc' S ec X Z Z Z H1 r D=>?_;obtain rfl:c=c':=V.int.inj ec;obtain rfl:b=S:=V.int.inj X;have g:=D _ _ N j.ne;have f:=D.lst e j.dt;ext;have l:H1 p=some (.ins a.Ah I (ylf (.ref M) (.ref o) (.int (rn d (sz x))) (.int ((sz x:Nat):Int)))):=by rw[y.sz];exact g
  exists p,I,M,o,q,d,nar x c b,sz x,rfl,l,f,r,j.ne,ycv y t,vag y.ok t,λH2 O G=>?_;ext;exact k H2 ⟨O,G.lst g f,G _ _ r j.ne.symm,j.ne⟩ (D.two'.trans G.two)
#synth vci ["self"] yva
inductive ygy(a:Ads)(vs:Υ)(H:Hp)(Q:VK)(E':XK):Prop
 |mk(p dx pd ps ds:z4)(d:Ρ)(x:Sn)(_:vs=[.ref p])(_:ygk a H p dx pd ps ds d x)(_:OkS x)(_:sz x<=tMx)(_:∀t H',H t=none->H' t=some (.lst ((tL x).map V.int))->yw H H'->Q (.ref t) H')
def vch:vq P w K mg Γ CX0 4 a.Ld a.O6 ["self"] (ygy a):=by exists T.J6.F.ok,vci,j;let⟨p,n,l,e,c,d,x,rfl,g,o,t,k⟩:=h;have q:=g.me;have b:=g.sp;exists 1,0,yc (yo (yz (ym (pv 0) rfl) T.Ak T.Ed.m (ypo T) j.m T.Ed.B .nil vh));exists e,c,_,rfl,b,lkN _ (by right) (by right) (by right),?_;ext;exists e,c,x,rfl,b,o,t,k
def snK(mx bt:Nat->Int):Nat->Sn
 |0=>s0
 |k+1=>nar (snK mx bt k) (mx k) (bt k)
theorem jz{mx bt:Nat->Int}:∀m,(∀j,j<m->Ch (mx j))->OkS (snK mx bt m)/\(snK mx bt m).2.2<=5+2*(m:Int)
 |0,_=>⟨vfp,by show (5:Int)<=5+2*((0:Nat):Int);decide⟩
 |m+1,h=>by
  let⟨a,e⟩:=jz m λj d=>h j ();exists ycv a (h m ()),?_;have:=vaf (c:=mx m) (b:=bt m) a.ok;show (nar (snK mx bt m) (mx m) (bt m)).2.2<=_;omega
theorem ya4{mx my bt bu:Nat->Int}:∀m,(∀j,j<m->mx j=my j/\bt j=bu j)->snK mx bt m=snK my bu m
 |0,_=>rfl
 |m+1,h=>by
  show nar (snK mx bt m) (mx m) (bt m)=nar (snK my bu m) (my m) (bu m);rw[ya4 m λj a=>h j (),(h m ()).1,(h m ()).2]
def FGo.but{p:z4}{A:FA}{H H1 H2:Hp}{el:z4}{o':HO}(h:FGo p A O H H1 el O')(hq:H q=none)(B:But q H1 H2)(hq2:H2 q=some o'):FGo p A O H H2 el O' :=
 ⟨h.he,h.hO,λc o e f d b a=>B _ _ (h.fr c o e f d b a) (yb e hq),λc o e=>let ⟨o1,w⟩:=h.live c o e;⟨o1,B _ _ w (yb e hq)⟩⟩
def z6.but{H H':Hp}{p C:z4}{A:FA}{X:FX}{f:Α}{m:Nat}{fs:Ι}(h:z6 K a H p A X f O m)(hq:H q=some (.ins C dq fs))(hl:fs.length=3)(nO:∀i,i<A.n->¬O i q)(B:But q H H'):z6 K a H' p A X f O m:=by
 refine h.frame (O2:=λc=>c=q) (λc o e j=>B c o e j) (λz=>u6 h.me hq (by rw[hl];show ¬(6=3);decide) z) (λz=>u6 h.mx.o hq (by rw[hl];show ¬(1=3);decide) z) (λi d z=>u6 (h.B.b i d).me hq (by rw[hl];show ¬(2=3);decide) z) (λi c d w z=>nO i d (z ▸ w)) (λl g Z e=>B.lst hq e) (λt g e=>?_);rcases e with(e|⟨o,e⟩)|e
 .exact .inl (.inl (B _ _ e (λz=>by rw[z,hq]at e;cases e)))
 .exact .inl (.inr ⟨o,B _ _ e (λz=>by rw[z,hq]at e;cases e)⟩)
 .exact .inr e
def ygl(A:FA)(X:FX)(ts:Ρ)(k:Nat):Int:=yqy (X.run A ((dec ts).take k)).ws ((X.run A ((dec ts).take k)).cs A)
#synth yku ["foreteller","text","span","bit"] ["foreteller","text"] yvd
inductive yde(K:z3)(a:Ads)(vs:Υ)(H:Hp)(Q:VK)(E':XK):Prop
 |mk(p:z4)(A:FA)(X:FX)(f:Α)(O:Β)(m:Nat)(tx:z4)(ts:Ρ)(_:vs=[.ref p,.ref tx])(_:z6 K a H p A X f O m)(_:X.sg=[])(_:X.nd=0)(_:î H tx ts 1000)(_:tx≠A.el)(_:m+6*(dec ts).length+20<1000000)(_:∀(r ml el pl:z4)(sl:Μ)(f':Α)(O':Β)(m':Nat)(H':Hp),H r=none->H' r=some (.lst ((tL (snK (ygl A X ts) (vk ts) (dec ts).length)).map V.int))->z6 K a H' p (A.re ml el pl sl) (X.run A (dec ts)) f' O' m'->m'<=m+6*(dec ts).length->FGo p A O H H' el O'->Q (.ref r) H')
def yp0:vq P w K mg Γ CX0 7 a.Le a.O7 ["foreteller","text"] (yde K a):=by
 exists T.J7.F.ok,yku,hr;let⟨p,c,X,f,O,m,tx,d,rfl,hF,ad,ai,Y,aE,hm,k⟩:=h;have aG:=ub d;have hz:=Y.z;have a1:=Y.s;refine yg (yu (i:=2) yku.nd rfl (Or.inl rfl) (zb T.Qp (yop T) hr.m rfl T.Qo T.Ea.B .nil vh)) ?_;refine yg (uh PassesOwn.never rfl (wz (xx (vcf T) hr.m T.Pn (pa1 (pv 1)))) (we (i:=3) yku.nd rfl (Or.inl rfl)) (yf (yt (yv (pv 2) T.Ak T.Ec.m (ypm T) hr.m T.Ec.B .nil y9 (pac (yz (pv 0) T.Ai T.Ei.m (yph T) hr.m T.Ei.B .nil vh) (pa1 (pv 3))))) (yc (yt (wn (pv 0) T.Ai T.Ej.m (yp7 T) hr.m T.Ej.B .nil vh (pa1 (pv 3))))))) ?_;exists 2,2,yc (yo (yz (pv 2) T.Ak T.Ed.m (ypo T) hr.m T.Ed.B .nil vh));intro q U nq az aH;have SQ:yw H (upd (upd H U (.own q)) q (.ins a.A5 U [])):=λb o e=>by rw[yk (yb e nq),yk (yb e az)];exact e
 exists q,U,rfl,ya,λH1 ae B1=>⟨rfl,?_⟩;have S1:yw H H1:=λb o e=>B1 b o (SQ b o e) (yb e nq);ext;exists tx,d,rfl,S1 _ _ Y.l,a1,(),λbt H2 a6 W S2=>?_
 have aa:=S1.trans S2;have ao:=hF.same aa;have au:bt≠c.el:=(yb (hF.same S1).el a6).symm
 have ay:∀i,i<c.n->¬O i q:=λi Z w=>by
  let⟨o,ho,_⟩:=(hF.B.b i Z).own q w;rw[nq]at ho;cases ho
 refine⟨bt,rfl,⟨_,SqL.of W⟩,zd (K:=K) (a:=bt) (xs:=(dec d).map V.int) (λj σ2 G=>∃(v:Ψ)(ml el pl:z4)(sl:Μ)(f':Α)(O':Β),σ2=[some (.ref p),some (.ref tx),some (.ref q),v]/\z6 K a G p (c.re ml el pl sl) (X.run c ((dec d).take j)) f' O' (m+6*j)/\FGo p c O H G el O'/\TxE d j (X.run c ((dec d).take j)).sg (X.run c ((dec d).take j)).nd/\G q=some (.ins a.A5 U (j5 (snK (ygl c X d) (vk d) j)))/\(∀i,i<c.n->¬O' i q)/\(G bt=some (.lst ((dec d).map V.int))/\bt≠el)/\(∀i,i<j->Ch (ygl c X d i)))
  ⟨_,c.ml,c.el,c.pl,c.sl,f,O,rfl,ao,FGo.refl.same aa,.inl ⟨cP _,by show ydb _ _ X.sg X.nd;rw[ad,ai];exact ydb.zero _⟩,S2 _ _ ae,ay,⟨W,au⟩,λi Z=>absurd Z (cS i)⟩ (by rintro j σ2 G _ ⟨_,_,_,_,_,_,_,_,_,_,_,_,_,z,_⟩;exact SqL.of z.1) ?_ ?_⟩
 .rintro j y σ2 G hy ⟨v,L,C,D,J,f1,O1,rfl,g,go,hT,u,R,⟨a3,S⟩,I⟩;let⟨b,rfl,ak,hb,hj⟩:=Ú hy;let⟨b0,b1⟩:=Î _ b ak;let⟨a2,aj⟩:=hT.next a1 hb;let⟨aw,aB⟩:=a2.nd a1;have aF:=a2.len;have a8:vk d j=b:=by unfold vk;rw[hb];rfl
  have aC:=g.me;have a9:Ch (ygl c X d j):=yjr g.n1 g.wok g.cok;have aA:=yev a9;have aq:=yc5 b0 b1;let⟨a0,ah⟩:=jz (mx:=ygl c X d) (bt:=vk d) j I;ext;exists q,U,_,rfl,u,lkN _ (by right) (by right) (by right),?_;ext;exists p,c.re L C D J,_,f1,O1,_,rfl,g,λG1 N=>?_;ext;exists q,U,_,.int (ygl c X d j),.int b,_,_,rfl,N _ _ u,a0.ok,.int _,.int _,λz=>(by rw[aA]at z;cases z),λF z=>(by rw[aq]at z;cases z),λc' b' ec eb F F F G2 x B2=>?_;cases ec;cases eb;have t:=(g.same N).but (N _ _ u) rfl R B2;have am:FGo p c O H G2 C O1:=(go.same N).but nq B2 x;have M:G2 bt=some (.lst ((dec d).map V.int)):=B2.lst (N _ _ u) (N _ _ a3);have aD:=t.me;have n6:=g.n6;ext;exists p,c.re L C D J,_,f1,O1,m+6*j,b,rfl,t,b0,b1,(),aw,(),λaf a4 ar al f3 O3 G3 av ag ab a5 ax F=>?_
  have ac:FGo p (c.re L C D J) O1 G2 G3 a4 O3:=⟨av,ab,a5,ax⟩;have a7:=ac.kpa t;ext;exists _,af,a4,ar,al,f3,O3,rfl,?_,am.trans ac,?_,?_,λi Z w=>?_,⟨(a7 _ _ M rfl S).2,(a7 _ _ M rfl S).1⟩,λi Z=>?_
  .rw[Ì hb];exact ag.up (by show m+6*j+c.n<=_;have:c.n<=6:=n6;omega)
  .rw[Ì hb];exact aj
  .have e:snK (ygl c X d) (vk d) (j+1)=nar (snK (ygl c X d) (vk d) j) (ygl c X d j) b:=by show nar _ _ (vk d j)=_;rw[a8]
   rw[e];exact a5 _ _ x (u6 x t.me (show ¬(3=6) by decide)) (u6 x t.mx.o (show ¬(3=1) by decide)) (λz=>by have e:=t.el;rw[<- z,x]at e;cases e) R
  .rcases ab i q Z w with v|v
   .exact R i Z v
   .rw[x]at v;cases v
  .by_cases z:i=j
   .rw[z];exact a9
   .exact I i ()
 .rintro σ2 G ⟨v,L,C,D,J,f1,O1,rfl,g,go,hT,u,R,_,I⟩;rw[bI]at g u I;rw[dh]at g;let⟨a0,ah⟩:=jz (mx:=ygl c X d) (bt:=vk d) (dec d).length I;ext;exists q,U,_,rfl,u,lkN _ (by right) (by right) (by right),?_;ext;exists q,U,_,rfl,u,a0,by show Int.toNat _<=100000;omega,λr G1 an as N=>?_
  exact k r L C D J f1 O1 _ G1 (go.free an) as (g.same N) (cq _) (go.same N)
structure RGo(p q s:z4)(A:FA)(O:Β)(H H':Hp)(ml el:z4)(O':Β):Prop where
 hm:ml=A.ml\/H ml=none
 he:el=A.el\/H el=none
 hO:∀j c,j<A.n->O' j c->O j c\/H c=none
 fr:∀c o,H c=some o->c≠p->c≠A.mp->c≠A.el->c≠q->c≠s->(∀j,j<A.n->¬O j c)->H' c=some o
 live:∀c o,H c=some o->∃o',H' c=some o'
def RGo.free{p s:z4}{A:FA}{H H':Hp}{ml el c:z4}(h:RGo p q s A O H H' ml el O')(hc:H' c=none):H c=none:=by
 cases e:H c with
 |none=>rfl
 |some o =>
  let⟨a,w⟩:=h.live c o e;rw[hc]at w;cases w
def RGo.refl{p s:z4}{A:FA}{H:Hp}:RGo p q s A O H H A.ml A.el O:=⟨.inl rfl,.inl rfl,λZ Z Z w=>.inl w,λZ Z e Z Z Z Z Z Z=>e,λZ o e=>⟨o,e⟩⟩
theorem RGo.trans{p s:z4}{A:FA}{O1:Β}{H H1 H2:Hp}{ml el pl ml2 el2:z4}{sl:Μ}(h:RGo p q s A O H H1 ml el O1)(k:RGo p q s (A.re ml el pl sl) O1 H1 H2 ml2 el2 O2):RGo p q s A O H H2 ml2 el2 O2:=by
 exists ?_,?_,λj c a w=>?_,λc o e i d l g f b=>?_,λc o e=>?_
 .rcases k.hm with z|z
  .rcases h.hm with y|y
   .exact .inl (z.trans y)
   .exact .inr (by rw[show ml2=ml from z];exact y)
  .exact .inr (h.free z)
 .rcases k.he with z|z
  .rcases h.he with y|y
   .exact .inl (z.trans y)
   .exact .inr (by rw[show el2=el from z];exact y)
  .exact .inr (h.free z)
 .rcases k.hO j c a w with v|v
  .exact h.hO j c a v
  .exact .inr (h.free v)
 .refine k.fr c o (h.fr c o e i d l g f b) i d (λz=>?_) g f (λj a w=>?_)
  .rcases h.he with y|y
   .exact l (z.trans y)
   .rw[show c=el from z,y]at e;cases e
  .rcases h.hO j c a w with v|v
   .exact b j a v
   .rw[e]at v;cases v
 .obtain⟨m,n⟩:=h.live c o e;exact k.live c m n
def RGo.same{p s:z4}{A:FA}{H H1 H2:Hp}{ml el:z4}(h:RGo p q s A O H H1 ml el O')(S:yw H1 H2):RGo p q s A O H H2 ml el O' :=
 ⟨h.hm,h.he,h.hO,λc o e g b i f d a=>S _ _ (h.fr c o e g b i f d a),λc o e=>let ⟨o',w⟩:=h.live c o e;⟨o',S _ _ w⟩⟩
structure Ç(K:z3)(a:Ads)(H:Hp)(p:z4)(A:FA)(X:FX)(f:Α)(O:Β)(m:Nat)(q dx pd s ds:z4)(d:Ρ)(x:Sn):Prop where
 ft:z6 K a H p A X f O m
 sk:ygk a H q dx pd s ds d x
 ok:OkS x
 nO:∀i,i<A.n->¬O i q/\¬O i s
 nd:pd≠A.el
theorem Ç.same{H H':Hp}{p:z4}{A:FA}{X:FX}{f:Α}{m:Nat}{dx pd s:z4}{d:Ρ}{x:Sn}(h:Ç K a H p A X f O m q dx pd s ds d x)(S:yw H H'):Ç K a H' p A X f O m q dx pd s ds d x:=⟨h.ft.same S,h.sk.same S,h.ok,h.nO,h.nd⟩
def chX(A:FA)(X:FX):Int:=yqy X.ws (X.cs A)
def z6.but2{H H':Hp}{p:z4}{A:FA}{X:FX}{f:Α}{m:Nat}{dx pd s:z4}{d:Ρ}{x:Sn}(h:Ç K a H p A X f O m q dx pd s ds d x)(B:ylg q s H H'):z6 K a H' p A X f O m:=by
 have j:=h.sk.me;have k:=h.sk.sp;refine h.ft.frame (O2:=λc=>c=q\/c=s) (λc o e n=>B c o e (λz=>n (.inl z)) (λz=>n (.inr z))) (λz=>?_) (λz=>?_) (λi g z=>?_) (λi c g w z=>?_) (λl r Z e=>h.sk.lst B e) (λt r e=>?_)
 .rcases z with z|z
  .exact u6 h.ft.me j (show ¬(6=4) by decide) z
  .exact u6 h.ft.me k (show ¬(6=3) by decide) z
 .rcases z with z|z
  .exact u6 h.ft.mx.o j (show ¬(1=4) by decide) z
  .exact u6 h.ft.mx.o k (show ¬(1=3) by decide) z
 .rcases z with z|z
  .exact u6 (h.ft.B.b i g).me j (show ¬(2=4) by decide) z
  .exact u6 (h.ft.B.b i g).me k (show ¬(2=3) by decide) z
 .rcases z with z|z
  .exact(h.nO i g).1 (z ▸ w)
  .exact(h.nO i g).2 (z ▸ w)
 .rcases e with(e|⟨o,e⟩)|e
  .exact .inl (.inl (h.sk.tup B e))
  .exact .inl (.inr ⟨o,B _ _ e (ww e j (by intro z;cases z)) (ww e k (by intro z;cases z))⟩)
  .exact .inr e
#synth yqp ["foreteller","seeker","bit"] ["foreteller","seeker"] yu5
inductive ydu(K:z3)(a:Ads)(vs:Υ)(H:Hp)(Q:VK)(E':XK):Prop
 |mk(p:z4)(A:FA)(X:FX)(f:Α)(O:Β)(m:Nat)(q dx pd s ds:z4)(d:Ρ)(x:Sn)(_:vs=[.ref p,.ref q])(_:Ç K a H p A X f O m q dx pd s ds d x)(_:m+20<1000000)(_:0<=X.nd)(_:X.sg.length<=100000)(_:∀(ml el pl:z4)(sl:Μ)(f':Α)(O':Β)(H':Hp),Ç K a H' p (A.re ml el pl sl) (X.see A (Ü d x (chX A X))) f' O' (m+A.n) q dx pd s ds d (nar x (chX A X) (Ü d x (chX A X)))->RGo p q s A O H H' ml el O'->Q (.int (Ü d x (chX A X))) H')
def yoi:vq P w K mg Γ CX0 7 a.Lf a.O8 ["foreteller","seeker"] (ydu K a):=by
 exists T.J8.F.ok,yqp,W;let⟨p,r,X,f,O,m,q,dx,pd,u,ds,d,x,rfl,n,hm,a3,a0,k⟩:=h;have hp:=n.ft.me;have hq:=n.sk.me;have M:Ch (chX r X):=yjr n.ft.n1 n.ft.wok n.ft.cok;have a7:=yev M;exists 2,1,yf (yu (i:=2) yqp.nd rfl (Or.inl rfl) (yv (pv 1) T.C6 T.J5.m (yx7 T) W.m T.J5.B .nil y9 (pa1 (yz (pv 0) T.Ai T.Ei.m (yph T) W.m T.Ei.B .nil vh)))) (yf (yt (wn (pv 0) T.Ai T.Ej.m (yp7 T) W.m T.Ej.B .nil vh (pa1 (pv 2)))) (yc (yo (pv 2))));exists p,r,X,f,O,m,rfl,n.ft,λH1 G=>?_;have S:=n.same G;ext;exists q,dx,pd,u,ds,d,x,.int (chX r X),_,rfl,S.sk,n.ok,.int _,λz=>(by rw[a7]at z;cases z),λc' ec F H2 g D=>?_;cases ec;have l:=z6.but2 S D;have a9:=l.me
 obtain⟨b0,b1⟩:0<=Ü d x (chX r X)/\Ü d x (chX r X)<=1:=by
  rcases Ű d x (chX r X)with e|e<;>(rw[e];decide)
 generalize hb:Ü d x (chX r X)=b at b0 b1 g k;ext;exists p,r,X,f,O,m,b,rfl,l,b0,b1,hm,a3,a0,λR L pl sl f' O' H3 he a4 hO U lv t=>?_;have a5:q≠p:=u6 g.me l.me (show ¬(4=6) by decide);have Z:q≠r.mp:=u6 g.me l.mx.o (show ¬(4=1) by decide);have a6:u≠p:=u6 g.sp l.me (show ¬(3=6) by decide);have Y:u≠r.mp:=u6 g.sp l.mx.o (show ¬(3=1) by decide)
 have I:∀{c C dc:z4}{fs:Ι},H2 c=some (.ins C dc fs)->c≠r.el:=λe z=>by
  have e2:=l.el;rw[<- z,e]at e2;cases e2
 have J:=U _ _ g.me a5 Z (I g.me) λi y=>(n.nO i y).1;have N:=U _ _ g.sp a6 Y (I g.sp) λi y=>(n.nO i y).2;have a1:H3 pd=some (.lst (d.map V.int)):=U _ _ g.dt (λz=>by have e:=g.dt;rw[z,l.me]at e;cases e) (λz=>by have e:=g.dt;rw[z,l.mx.o]at e;cases e) n.nd (l.B.nlst g.dt);ext;refine k R L pl sl f' O' H3 ⟨a4,⟨J,a1,N,g.ne⟩,ycv n.ok M,λi y=>⟨λw=>?_,λw=>?_⟩,?_⟩ ⟨.inr ?_,?_,λj c hj w=>?_,λc o e c1 c2 c3 c4 c5 no=>?_,λc o e=>?_⟩
 .rcases hO i q y w with v|v
  .exact(n.nO i y).1 v
  .rw[g.me]at v;cases v
 .rcases hO i u y w with v|v
  .exact(n.nO i y).2 v
  .rw[g.sp]at v;cases v
 .rcases he with z|z
  .rw[show (r.re R L pl sl).el=r.el from z];exact n.nd
  .exact yb g.dt z
 .cases e:H R with
  |none=>rfl
  |some o =>
   by_cases z1:R=q
   .rw[z1,g.me]at t;cases t
   by_cases z2:R=u
   .rw[z2,g.sp]at t;cases t
   rw[D _ _ (G _ _ e) z1 z2]at t;cases t
 .rcases he with z|z
  .exact .inl z
  .refine .inr ?_
   cases e:H L with
   |none=>rfl
   |some o =>
    by_cases z1:L=q
    .rw[z1,g.me]at z;cases z
    by_cases z2:L=u
    .rw[z2,g.sp]at z;cases z
    rw[D _ _ (G _ _ e) z1 z2]at z;cases z
 .rcases hO j c hj w with v|v
  .exact .inl v
  .refine .inr ?_
   cases e:H c with
   |none=>rfl
   |some o =>
    by_cases z1:c=q
    .rw[z1,g.me]at v;cases v
    by_cases z2:c=u
    .rw[z2,g.sp]at v;cases v
    rw[D _ _ (G _ _ e) z1 z2]at v;cases v
 .exact U c o (D _ _ (G _ _ e) c4 c5) c1 c2 c3 no
 .by_cases z1:c=q
  .exists _,z1 ▸ J
  by_cases z2:c=u
  .exists _,z2 ▸ N
  exact lv c o (D _ _ (G _ _ e) z1 z2)
def rnx(A:FA)(d:Ρ)(S:FX×Sn):FX×Sn:=(S.1.see A (Ü d S.2 (chX A S.1)),nar S.2 (chX A S.1) (Ü d S.2 (chX A S.1)))
def rst(A:FA)(d:Ρ)(S:FX×Sn):Nat->FX×Sn
 |0=>S
 |n+1=>rnx A d (rst A d S n)
def ue(A:FA)(d:Ρ)(S:FX×Sn)(n:Nat):Int:=Ü d (rst A d S n).2 (chX A (rst A d S n).1)
def yj9(A:FA)(d:Ρ)(S:FX×Sn)(n:Nat):ue A d S n=0\/ue A d S n=1:=Ű _ _ _
theorem ycq(A:FA)(d:Ρ)(S:FX×Sn)(k:Nat):∀n,rst A d (rst A d S k) n=rst A d S (k+n)
 |0=>rfl
 |n+1=>congrArg (rnx A d) (ycq A d S k n)
theorem yj5(A:FA)(d:Ρ)(S:FX×Sn)(ml el pl:z4)(sl:Μ):∀n,rst (A.re ml el pl sl) d S n=rst A d S n
 |0=>rfl
 |n+1=>by
  show rnx (A.re ml el pl sl) d (rst (A.re ml el pl sl) d S n)=_;rw[yj5 A d S ml el pl sl n];rfl
def yzr(A:FA)(X:FX)(b:Int)(h:0<=X.nd)(hb:0<=b):0<=(X.see A b).nd:=by
 show 0<=ndN X.nd b;unfold ndN
 split
 .split<;>omega
 .split<;>omega
def vb6(A:FA)(X:FX)(b:Int):(X.see A b).sg.length<=X.sg.length+1:=by
 show (sgN X.sg X.nd b).length<=_;unfold sgN
 split
 .split
  .rw[cj];exact cq _
  .omega
 .split
  .omega
  .exact cP _
theorem ye3(A:FA)(d:Ρ)(S:FX×Sn)(h:0<=S.1.nd):∀n,0<=(rst A d S n).1.nd
 |0=>h
 |n+1=>yzr A _ _ (ye3 A d S h n) (by rcases yj9 A d S n with e|e<;>(unfold ue at e;rw[e];decide))
theorem yep(A:FA)(d:Ρ)(S:FX×Sn):∀n,(rst A d S n).1.sg.length<=S.1.sg.length+n
 |0=>cq _
 |n+1=>de (vb6 A _ _) (Nat.succ_le_succ (yep A d S n))
theorem Ç.app{H:Hp}{p R:z4}{A:FA}{X:FX}{f:Α}{m:Nat}{dx pd s:z4}{d:Ρ}{x:Sn}{xs ys:Υ}(h:Ç K a H p A X f O m q dx pd s ds d x)(hR:H R=some (.lst xs))(hq:∀q,(q=A.bl\/q=A.el\/q=A.ml\/q=A.pl)->q≠R)(np:pd≠R):Ç K a (upd H R (.lst ys)) p A X f O m q dx pd s ds d x:=by
 exists h.ft.app hR hq,⟨ye (λz=>?_) h.sk.me,ye np h.sk.dt,ye (λz=>?_) h.sk.sp,h.sk.ne⟩,h.ok,h.nO,h.nd
 .have e:=h.sk.me;rw[z,hR]at e;cases e
 .have e:=h.sk.sp;rw[z,hR]at e;cases e
def Ç.notN{H:Hp}{p R:z4}{A:FA}{X:FX}{f:Α}{m:Nat}{dx pd s:z4}{d:Ρ}{x:Sn}(h:Ç K a H p A X f O m q dx pd s ds d x)(hR:H R=some (.lst (xs.map V.int)))(nm:R≠A.ml)(ne:R≠A.el):∀q,(q=A.bl\/q=A.el\/q=A.ml\/q=A.pl)->q≠R:=λq i z=>by
 have j:=h.ft.n1
 have b:∀(g:Μ),xs.map V.int=refs g A.n->False:=λg e=>by
  have c:(refs g A.n)[0]?=some (V.ref (g 0)):=yyd j;rw[<- e,cu]at c
  cases w:xs[0]? with
  |none=>rw[w]at c;cases c
  |some y=>rw[w]at c;cases c
 rcases i with y|y|y|y
 .have e:=h.ft.bl;rw[<- y,z,hR]at e;exact b _ (HO.lst.inj (cL e))
 .exact ne (z.symm.trans y)
 .exact nm (z.symm.trans y)
 .have e:=h.ft.pl;rw[<- y,z,hR]at e;exact b _ (HO.lst.inj (cL e))
def RGo.app{p s R:z4}{A:FA}{H H1:Hp}{ml el:z4}{o':HO}(h:RGo p q s A O H H1 ml el O')(hR:H R=none):RGo p q s A O H (upd H1 R o') ml el O' :=
 ⟨h.hm,h.he,h.hO,λc o e g b i f d a=>ye (yb e hR) (h.fr c o e g b i f d a),λc o e=>let ⟨o1,w⟩:=h.live c o e;⟨o1,ye (yb e hR) w⟩⟩
def wB(i:Nat):Int:=([128,64,32,16,8,4,2,1]:Ρ)[i]?.getD 0
def vd8(i:Nat):0<=wB i/\wB i<=128:=by
 rcases i with _|_|_|_|_|_|_|_|i
 .exists by decide,∅
 .exists by decide,∅
 .exists by decide,∅
 .exists by decide,∅
 .exists by decide,∅
 .exists by decide,∅
 .exists by decide,∅
 .exists by decide,∅
 .exists by show (0:Int)<=0;decide,by show (0:Int)<=128;decide
def sgB(A:FA)(d:Ρ)(S:FX×Sn)(i:Nat):Ρ:=(List.range i).map λj=>wB j*ue A d S j
def ylx(A:FA)(d:Ρ)(S:FX×Sn)(i:Nat):sgB A d S (i+1)=sgB A d S i++[wB i*ue A d S i]:=by unfold sgB;rw[List.range_succ,cA];rfl
#synth vbe ["foreteller","seeker"] yvj
inductive ya2(K:z3)(a:Ads)(vs:Υ)(H:Hp)(Q:VK)(E':XK):Prop
 |mk(p:z4)(A:FA)(S:FX×Sn)(f:Α)(O:Β)(m:Nat)(q dx pd s ds:z4)(d:Ρ)(_:vs=[.ref p,.ref q])(_:Ç K a H p A S.1 f O m q dx pd s ds d S.2)(_:m+80<1000000)(_:0<=S.1.nd)(_:S.1.sg.length<=90000)(_:∀(ml el pl:z4)(sl:Μ)(f':Α)(O':Β)(H':Hp),Ç K a H' p (A.re ml el pl sl) (rst A d S 8).1 f' O' (m+8*A.n) q dx pd s ds d (rst A d S 8).2->RGo p q s A O H H' ml el O'->Q (.int (sgB A d S 8).sum) H')
def vb2:vq P w K mg Γ CX0 8 a.Lg a.O9 ["foreteller","seeker"] (ya2 K a):=by
 exists T.Po.F.ok,vbe,hr;let⟨p,b,S,f,O,m,q,dx,pd,Z,ds,d,rfl,L,hm,a4,a7,k⟩:=h;have n6:=L.ft.n6;exists 2,0,yc (yo (pcB (Ï rfl) T.Fb (pa1 (wc (js:=[1,0]) (ys:=["seeker","foreteller"]) rfl (yex (å rfl T.Jm)) (λC s2 H2 fp=>(yp wv (pv 0) (xx (yoi T) hr.m T.J8 (pac (pv 2) (pa1 (pv 1)))))) rfl rfl (hyc:=(all_cons rfl (all_cons rfl y8))) (hrel:=(all_cons rfl (all_cons rfl y8)))))));exists a.Br,rfl,⟨_,T.Dl H⟩,λD X=>?_;refine ybd (xs:=[.int 128,.int 64,.int 32,.int 16,.int 8,.int 4,.int 2,.int 1]) (λi G=>∃(x v M:z4)(U:Μ)(f':Α)(O':Β),Ç K a G p (b.re x v M U) (rst b d S i).1 f' O' (m+i*b.n) q dx pd Z ds d (rst b d S i).2/\RGo p q Z b O H G x v O'/\G D=some (.lst ((sgB b d S i).map V.int))/\D≠x/\D≠v) ?_ (λi G F F=>T.Dl G) ?_ ?_
 .have S1:yw H (upd H D (.lst [])):=vg X;exists b.ml,b.el,b.pl,b.sl,f,O,?_,RGo.refl.same S1,ya,(yb L.ft.mx.l X).symm,(yb L.ft.el X).symm;rw[Nat.zero_mul];exact L.same S1
 .rintro i y G j a5 ⟨x,v,M,U,f1,O1,e,u,c,J,t⟩;have hi:i<8:=a5
  obtain rfl:y=V.int (wB i):=by
   rcases i with _|_|_|_|_|_|_|_|i
   .exact(cL j).symm
   .exact(cL j).symm
   .exact(cL j).symm
   .exact(cL j).symm
   .exact(cL j).symm
   .exact(cL j).symm
   .exact(cL j).symm
   .exact(cL j).symm
   .omega
  have a6:i*b.n<=8*b.n:=Nat.mul_le_mul_right _ ();let⟨ab,aa⟩:=vd8 i;have a2:=ye3 b d S a4 i;have a8:=yep b d S i;ext;exists p,b.re x v M U,(rst b d S i).1,f1,O1,m+i*b.n,q,dx,pd,Z,ds,d,(rst b d S i).2,rfl,e,(),a2,(),λR N a0 a1 f2 O2 G2 W g=>?_
  have r:G2 D=some (.lst ((sgB b d S i).map V.int)):=g.fr _ _ c (ww c e.ft.me (by intro z;cases z)) (ww c e.ft.mx.o (by intro z;cases z)) t (ww c e.sk.me (by intro z;cases z)) (ww c e.sk.sp (by intro z;cases z)) (e.ft.B.nlst c)
  have Y:D≠R:=by
   rcases g.hm with z|z
   .rw[z];exact J
   .exact yb c z
  have I:D≠N:=by
   rcases g.he with z|z
   .rw[z];exact t
   .exact yb c z
  exists wB i,_,rfl,rfl,.inl ⟨(),()⟩,?_;exists _,r,?_,8-(i+1),by show 8-(i+1)<8-i;omega,rfl,hi,R,N,a0,a1,f2,O2,?_,?_,?_,Y,I
  .unfold sgB;rw[bI,bI,di];exact Nat.lt_trans hi ∅
  .rw[show m+(i+1)*b.n=m+i*b.n+b.n by rw[Nat.succ_mul,Nat.add_assoc]];exact Ç.app W r (W.notN r Y I) (yb L.sk.dt X)
  .exact(u.trans g).app X
  .rw[ylx,cA];exact ya
 .rintro G ⟨x,v,M,U,f1,O1,e,u,c,J,t⟩;ext;exists D,sgB b d S 8,rfl,SqL.of c,?_;ext;exact k x v M U f1 O1 G e u
theorem Ç.up{H:Hp}{p:z4}{A:FA}{X:FX}{f:Α}{m:Nat}{dx pd s:z4}{d:Ρ}{x:Sn}(h:Ç K a H p A X f O m q dx pd s ds d x)(hm:m<=m'):Ç K a H p A X f O m' q dx pd s ds d x:=⟨h.ft.up hm,h.sk,h.ok,h.nO,h.nd⟩
def ysn(A:FA)(d:Ρ)(S:FX×Sn)(ml el pl:z4)(sl:Μ)(n:Nat):ue (A.re ml el pl sl) d S n=ue A d S n:=by unfold ue;rw[yj5];rfl
def yzm(A:FA)(d:Ρ)(S:FX×Sn)(ml el pl:z4)(sl:Μ)(n:Nat):sgB (A.re ml el pl sl) d S n=sgB A d S n:=by unfold sgB;exact List.map_congr_left λj Z=>by rw[ysn]
def rsg(A:FA)(d:Ρ)(S:FX×Sn)(k:Nat):Int:=(sgB A d (rst A d S (9*k+1)) 8).sum
def rtx(A:FA)(d:Ρ)(S:FX×Sn)(k:Nat):Ρ:=(List.range k).map (rsg A d S)
def ynp(A:FA)(d:Ρ)(S:FX×Sn)(k:Nat):rtx A d S (k+1)=rtx A d S k++[rsg A d S k]:=by unfold rtx;rw[List.range_succ,cA];rfl
def ê(A:FA)(d:Ρ)(S:FX×Sn)(k:Nat):(rtx A d S k).length=k:=by unfold rtx;rw[bI,di]
section
variable{G:Hp}{p:z4}{A:FA}{S:FX×Sn}{f:Α}{m n:Nat}{dx pd s ml el pl:z4}{sl:Μ}{d:Ρ}{Q:VK}{E:XK}
def vbf(hR:Ç K a G p (A.re ml el pl sl) (rst A d S n).1 f O m q dx pd s ds d (rst A d S n).2)(hm:m+20<1000000)(nd0:0<=S.1.nd)(hsg:S.1.sg.length+n<=100000)
  (k:∀(ml2 el2 pl2:z4)(sl2:Μ)(f':Α)(O':Β)(H':Hp),Ç K a H' p (A.re ml2 el2 pl2 sl2) (rst A d S (n+1)).1 f' O' (m+6) q dx pd s ds d (rst A d S (n+1)).2->RGo p q s (A.re ml el pl sl) O G H' ml2 el2 O'->Q (.int (ue A d S n)) H'):ydu K a [.ref p,.ref q] G Q E :=
 ⟨p,A.re ml el pl sl,(rst A d S n).1,f,O,m,q,dx,pd,s,ds,d,(rst A d S n).2,rfl,hR,hm,ye3 A d S nd0 n,de (yep A d S n) hsg,λml2 el2 pl2 sl2 f' O' H' b c=>k ml2 el2 pl2 sl2 f' O' H' (Ç.up b (Nat.add_le_add_left hR.ft.n6 m)) c⟩
def yse(hR:Ç K a G p (A.re ml el pl sl) (rst A d S n).1 f O m q dx pd s ds d (rst A d S n).2)(hm:m+80<1000000)(nd0:0<=S.1.nd)(hsg:S.1.sg.length+n<=90000)
  (k:∀(ml2 el2 pl2:z4)(sl2:Μ)(f':Α)(O':Β)(H':Hp),Ç K a H' p (A.re ml2 el2 pl2 sl2) (rst A d S (n+8)).1 f' O' (m+48) q dx pd s ds d (rst A d S (n+8)).2->RGo p q s (A.re ml el pl sl) O G H' ml2 el2 O'->Q (.int (sgB A d (rst A d S n) 8).sum) H'):ya2 K a [.ref p,.ref q] G Q E:=by exists p,A.re ml el pl sl,rst A d S n,f,O,m,q,dx,pd,s,ds,d,rfl,hR,hm,ye3 A d S nd0 n,de (yep A d S n) hsg,λml2 el2 pl2 sl2 f' O' H' b c=>?_;have e:A.n<=6:=hR.ft.n6;have b:=Ç.up b (show m+8*A.n<=m+48 by omega);rw[yj5,ycq]at b;rw[yzm];exact k ml2 el2 pl2 sl2 f' O' H' b c
end
#synth yp6 ["foreteller","seeker","most","text"] ["foreteller","seeker","most"] yv3
inductive ygv(K:z3)(a:Ads)(vs:Υ)(H:Hp)(Q:VK)(E:XK):Prop
 |mk(p:z4)(A:FA)(S:FX×Sn)(f:Α)(O:Β)(m:Nat)(q dx pd s ds:z4)(d:Ρ)(mo:Nat)(_:vs=[.ref p,.ref q,.int mo])(_:Ç K a H p A S.1 f O m q dx pd s ds d S.2)(_:mo<=1000)(_:m+54*mo+200<1000000)(_:0<=S.1.nd)(_:S.1.sg.length<=10000)(_:(∀(N:Nat)(r ml el pl:z4)(sl:Μ)(f':Α)(O':Β)(H':Hp),N<=mo->(∀j,j<N->ue A d S (9*j)=1)->ue A d S (9*N)=0->H r=none->H' r=some (.lst ((rtx A d S N).map V.int))->r≠el->Ç K a H' p (A.re ml el pl sl) (rst A d S (9*N+1)).1 f' O' (m+54*N+6) q dx pd s ds d (rst A d S (9*N+1)).2->RGo p q s A O H H' ml el O'->Q (.ref r) H'))(_:((∀j,j<=mo->ue A d S (9*j)=1)->∀(ml el:z4)(O':Β)(H':Hp),RGo p q s A O H H' ml el O'->E (.ref a.Dz) none H'))
def yy4:vq P w K mg Γ (CXe P w) 9 a.Lh a.Oa ["foreteller","seeker","most"] (ygv K a):=by
 exists T.Pp.F.okE,yp6,hr;let⟨p,g,S,f,O,m,q,dx,pd,s',ds,d,mo,rfl,hR,aj,hm,a1,ak,kQ,kE⟩:=h;exists 3,1,yf (yu (i:=3) yp6.nd rfl (Or.inl rfl) (wx zj)) (yf (j8 PassesOwn.leaving (y6 jj (xx (yoi T) hr.m T.J8 (pac (pv 0) (pa1 (pv 1)))) yh (vd _)) (yf (wd (y6 jj (pcB yr T.Ad (pa1 (pv 3))) (pv 2) (vd _)) (yc (wy rfl T.Tc T.S8 (pa1 xc))) ve) (yc (yt (ji PySem.F.plainAttrs_list PySem.F.slot_list_append PySem.F.type_list_append w6 (pv 3) (pa1 (xx (vb2 T) hr.m T.Po (pac (pv 0) (pa1 (pv 1)))))))))) (yc (yo (pv 3))));exists by walk_at "len",λr hr0=>?_
 exists hr0,H1,S1,hr1;have a6:pd≠r:=yb hR.sk.dt hr0;ext
 refine⟨λw σ' G=>∃(N:Nat)(I D pl:z4)(sl:Μ)(f':Α)(O':Β),σ'=[some (.ref p),some (.ref q),some (.int mo),some (.ref r)]/\N<=mo/\(∀j,j<N->ue g d S (9*j)=1)/\Ç K a G p (g.re I D pl sl) (rst g d S (9*N)).1 f' O' (m+54*N) q dx pd s' ds d (rst g d S (9*N)).2/\RGo p q s' g O H G I D O'/\G r=some (.lst ((rtx g d S N).map V.int))/\r≠I/\r≠D/\w=mo-N,
  ⟨_,0,g.ml,g.el,g.pl,g.sl,f,O,rfl,cP _,λj hj=>absurd hj (cS j),hR.same S1,RGo.refl.same S1,hr1,(yb hR.ft.mx.l hr0).symm,(yb hR.ft.el hr0).symm,rfl⟩,?_⟩
 rintro w σ2 G ⟨N,I,D,pl,sl,f1,O1,rfl,hN,W,e,ad,aa,J,C,rfl⟩;ext;refine vbf e () a1 () λv u a8 a9 f2 O2 Y M k=>?_
 have n:∀{G Y:Hp}{I D pl v u:z4}{sl:Μ}{X:FX}{f1:Α}{O1 O2:Β}{m x}{xs:Υ},Ç K a G p (g.re I D pl sl) X f1 O1 m q dx pd s' ds d x->RGo p q s' (g.re I D pl sl) O1 G Y v u O2->G r=some (.lst xs)->r≠I->r≠D->Y r=some (.lst xs)/\r≠v/\r≠u:=λe k c J C=>by
  exists k.fr _ _ c (ww c e.ft.me (by intro z;cases z)) (ww c e.ft.mx.o (by intro z;cases z)) C (ww c e.sk.me (by intro z;cases z)) (ww c e.sk.sp (by intro z;cases z)) (e.ft.B.nlst c),?_,?_
  .rcases k.hm with z|z
   .rw[z];exact J
   .exact yb c z
  .rcases k.he with z|z
   .rw[z];exact C
   .exact yb c z
 let⟨y,ai,U⟩:=n e k aa J C;have t:=ad.trans k;have Z:=yj9 g d S (9*N);generalize ab:ue g d S (9*N)=b at Z;ext;refine zn (λhb=>?_) (λhb=>?_)
 .subst hb
  have a2:∀j,j<N+1->ue g d S (9*j)=1:=λj hj=>by
   by_cases z:j=N
   .rw[z];exact ab
   .exact W j ()
  refine ybj ?_;ext;refine ut (SqL.of y) ?_;rw[bI,ê];ext;refine zn (λhc=>?_) (λhc=>?_)
  .have am:N=mo:=()
   ext;exists by walk_at "len",kE (λj hj=>a2 j ()) v u O2 Y t
  .ext;refine jh y ?_;ext;refine yse M () a1 () λaf ag a7 ac f3 O3 G3 a0 a5=>?_;let⟨L,a3,R⟩:=n M a5 y ai U;have a4:=t.trans a5;ext;refine x0 L (vi (by rw[bI,ê];omega)) ?_;ext;exists _,?_,N+1,af,ag,a7,ac,f3,O3,rfl,(),a2,?_,a4.app hr0,?_,a3,R,rfl
   .omega
   .exact Ç.app a0 L (a0.notN L a3 R) a6
   .rw[ya,ynp,cA];rfl
 .have ah:ue g d S (9*N)=0:=()
  ext;exact kQ N r v u a8 a9 f2 O2 Y hN W ah hr0 y U M t
def yq9(x:Sn)(c b:Int):(nar x c b).2.2<=x.2.2+2:=by
 unfold nar ren
 (repeat' split)<;>(dsimp only;omega)
theorem yo1(A:FA)(d:Ρ)(S:FX×Sn):∀n:Nat,(rst A d S n).2.2.2<=S.2.2.2+2*(n:Int)
 |0=>by show S.2.2.2<=S.2.2.2+2*((0:Nat):Int);omega
 |n+1=>by
  have a:=yo1 A d S n;have b:=yq9 (rst A d S n).2 (chX A (rst A d S n).1) (Ü d (rst A d S n).2 (chX A (rst A d S n).1));show (nar (rst A d S n).2 (chX A (rst A d S n).1) (Ü d (rst A d S n).2 (chX A (rst A d S n).1))).2.2<=_;omega
structure ROk(A:FA)(d:Ρ)(S:FX×Sn)(N:Nat):Prop where
 b1:∀j,j<N->ue A d S (9*j)=1
 b0:ue A d S (9*N)=0
 tk:d.take (tL (rst A d S (9*N+1)).2).length=tL (rst A d S (9*N+1)).2
def ROk.uniq{A:FA}{d:Ρ}{S:FX×Sn}{N M:Nat}(h:ROk A d S N)(b1:∀j,j<M->ue A d S (9*j)=1)(b0:ue A d S (9*M)=0):M=N:=by
 rcases Nat.lt_trichotomy M N with z|z|z
 .have e:=h.b1 M z;rw[b0]at e;cases e
 .exact z
 .have e:=b1 N z;rw[h.b0]at e;cases e
def rTL(A:FA)(d:Ρ)(S:FX×Sn)(N:Nat):Nat:=(tL (rst A d S (9*N+1)).2).length
def RGo.fgo{p s:z4}{A:FA}{H0 H H':Hp}{ml el:z4}(S:yw H0 H)(hq:H0 q=none)(hs:H0 s=none)(h:RGo p q s A O H H' ml el O'):FGo p A O H0 H' el O' :=
 ⟨h.he.imp id S.free,λj c d w=>(h.hO j c d w).imp id S.free,λc o e f b g a=>h.fr c o (S _ _ e) f b g (yb e hq) (yb e hs) a,λc o e=>h.live c o (S _ _ e)⟩
#synth yem ["foreteller","data","most","seeker","text","own"] ["foreteller","data","most"] yug
inductive Ĕ(K:z3)(a:Ads)(vs:Υ)(H:Hp)(Q:VK)(E:XK):Prop
 |mk(p:z4)(A:FA)(X:FX)(f:Α)(O:Β)(m:Nat)(dt:z4)(d:Ρ)(mo:Nat)(_:vs=[.ref p,.ref dt,.int mo])(_:z6 K a H p A X f O m)(_:H dt=some (.lst (d.map V.int)))(_:dt≠A.el)(_:Byt d)(_:d.length<=12000)(_:mo<=1000)(_:m+54*mo+200<1000000)(_:0<=X.nd)(_:X.sg.length<=10000)(_:(∀(N:Nat)(t r el:z4)(O':Β)(H':Hp),N<=mo->ROk A d (X,s0) N->H t=none->H r=none->H' t=some (.tup [.ref r,.int (rTL A d (X,s0) N)])->H' r=some (.lst ((rtx A d (X,s0) N).map V.int))->FGo p A O H H' el O'->(r≠el/\∃ml pl sl f',z6 K a H' p (A.re ml el pl sl) (rst A d (X,s0) (9*N+1)).1 f' O' (m+54*N+6))->Q (.ref t) H'))(_:((∀N,N<=mo->¬ROk A d (X,s0) N)->∀(el:z4)(O':Β)(H':Hp),FGo p A O H H' el O'->E (.ref a.Dz) none H'))
def ypx:vq P w K mg Γ (CXe P w) 10 a.Li a.Ob ["foreteller","data","most"] (Ĕ K a):=by
 exists T.J9.F.okE,yem,Z;let⟨p,l,X,f,O,m,dt,d,mo,rfl,hF,z,aa,a6,a5,a0,hm,a8,a1,kQ,kE⟩:=h;refine yg (yu (i:=3) yem.nd rfl (Or.inl rfl) (xz T.Ub (yxt T) Z.m rfl T.Ua T.Fu.B .nil yy (pa1 (pv 1)))) ?_;refine yg (yu (i:=4) yem.nd rfl (Or.inl rfl) (ul (yy4 T) Z.m T.Pp yy (pac (pv 0) (pac (pv 3) (pa1 (pv 2)))))) ?_;refine yg (yu (i:=5) yem.nd rfl (Or.inl rfl) (yz (pv 3) T.C6 T.J6.m (vch T) Z.m T.J6.B .nil vh)) ?_;refine yg (wd (y6 (uk Z.units) (xp je (pv 1) uo (xv (pcB yr T.Ad (pa1 (pv 5))))) (pv 5) (vd _)) (yc (wy rfl T.Tc T.S8 (pa1 xc))) ve) ?_;exists 3,3,yc (yo (Ô (pac (pv 4) (pa1 (pcB yr T.Ad (pa1 (pv 5)))))));intro q D Y ac af;have R:yw H (upd (upd H D (.own q)) q (.ins a.Ah D [])):=λb o e=>by rw[yk (yb e Y),yk (yb e ac)];exact e
 exists q,D,.ref dt,_,rfl,ya,.lst (R _ _ z),.inr ⟨d,ylo (R _ _ z) a6 a5,λpd ps ds H1 J I a2 B1=>⟨rfl,?_⟩⟩;have S1:yw H H1:=λb o e=>B1 b o (R b o e) (yb e Y);have v:H ps=none:=R.free I;have a4:H pd=none:=R.free J
 have nO:∀{c:z4},H c=none->∀i,i<l.n->¬O i c:=λG i hi w=>by
  let⟨o,ho,_⟩:=(hF.B.b i hi).own _ w;rw[G]at ho;cases ho
 have hR:Ç K a H1 p l X f O m q D pd ps ds d s0:=⟨hF.same S1,a2,vfp,λi hi=>⟨nO Y i hi,nO v i hi⟩,(yb hF.el a4).symm⟩;ext;exists p,l,(X,s0),f,O,m,q,D,pd,ps,ds,d,mo,rfl,hR,a0,hm,a8,a1,λN r ml el pl sl f2 O2 H2 hN L W ad a9 a3 j y=>?_,λU ml el O2 H2 y=>?_
 .have ab:=yo1 l d (X,s0) (9*N+1);have ae:((X,s0):FX×Sn).2.2.2=5:=rfl;rw[ae]at ab;have go:=y.fgo S1 Y v;have ai:=j.sk.me;have S:H2 dt=some (.lst (d.map V.int)):=(go.kpa hF).lst z aa;ext;exists q,D,pd,ps,ds,d,_,rfl,j.sk,j.ok,by show Int.toNat _<=100000;omega,λw H3 ah x S3=>?_
  ext;refine ut (SqL.of x) ?_;rw[bI];ext;refine ybs (SqL.of (S3 _ _ S)) λu hu=>?_;have ec:ybw (d.map V.int) none (some (((tL (rst l d (X,s0) (9*N+1)).2).length:Nat):Int))=(d.take (tL (rst l d (X,s0) (9*N+1)).2).length).map V.int:=by rw[List.map_take];exact θ _
  rw[ec];exists hu,H4,S4,hu4;have C:=go.same (S3.trans S4);ext;refine í _ _ (SqL.of hu4) (SqL.of (S4 _ _ x)) ?_;by_cases G:d.take (tL (rst l d (X,s0) (9*N+1)).2).length=tL (rst l d (X,s0) (9*N+1)).2
  .rw[cz G];ext;refine ut (SqL.of (S4 _ _ x)) ?_;rw[bI];ext;exists by walk_at "len",λt g=>?_
   refine kQ N t r el O2 _ hN ⟨L,W,G⟩ (C.free g) (S1.free ad) ya (jx g ((S3.trans S4) _ _ a9)) (C.same (vg g)) ⟨a3,ml,pl,sl,f2,((j.ft.same (S3.trans S4)).same (vg g))⟩
  .rw[cH G];ext;exists by walk_at "len",kE (λM hM k=>G (by rw[k.uniq L W];exact k.tk)) el O2 _ C
 .exact kE (λM hM k=>by have e:=U M hM;rw[k.b0]at e;cases e) el O2 H2 (y.fgo S1 Y v)
structure vho(H:Hp)(L dt:z4)(lx:V)(n:Nat)(lk:Μ)(kd:Ξ)(tp:Μ)(ps:Λ)(d:Ρ)(mo N w:Nat)(lt:Μ)(tt:Λ):Prop where
 l:H L=some (.lst (refs lk n))
 n1:1<=n
 n6:n<=6
 r:xn H n lk kd tp ps
 dat:H dt=some (.lst (d.map V.int))
 by':Byt d
 dl:d.length<=12000
 mo1:mo<=1000
 lr:vgb H lx N w lt tt
 w1:w<=1000
 N1:N<=1000
 b:6+6*(N*(9*w+1))+54*mo+200<1000000
def rS(n:Nat)(kd:Ξ)(ps:Λ)(pre:Ρ):FX×Sn:=((FX0 n kd).run (fa0 n ps) pre,s0)
theorem À(A:FA)(d:Ρ)(S:FX×Sn):∀k,rst A d S k=rst (fa0 A.n A.ps) d S k
 |0=>rfl
 |k+1=>by
  show rnx A d (rst A d S k)=rnx (fa0 A.n A.ps) d (rst (fa0 A.n A.ps) d S k);rw[À A d S k];rfl
def Í(A:FA)(d:Ρ)(S:FX×Sn)(k:Nat):ue A d S k=ue (fa0 A.n A.ps) d S k:=by unfold ue;rw[À];rfl
def ys5(A:FA)(d:Ρ)(S:FX×Sn)(k:Nat):rsg A d S k=rsg (fa0 A.n A.ps) d S k:=by unfold rsg sgB;rw[À];exact congrArg List.sum (List.map_congr_left λj Z=>by rw[Í])
def yra(A:FA)(d:Ρ)(S:FX×Sn)(k:Nat):rtx A d S k=rtx (fa0 A.n A.ps) d S k:=by unfold rtx;exact List.map_congr_left λj Z=>ys5 A d S j
def yso(A:FA)(d:Ρ)(S:FX×Sn)(k:Nat):rTL A d S k=rTL (fa0 A.n A.ps) d S k:=by unfold rTL;rw[À]
theorem ROk.fa0{A:FA}{d:Ρ}{S:FX×Sn}{N:Nat}:ROk A d S N↔ROk (fa0 A.n A.ps) d S N:=by
 constructor
 .intro h;exists λj a=>by rw[<- Í];exact h.b1 j a,by rw[<- Í];exact h.b0,by rw[<- À];exact h.tk
 .intro h;exists λj a=>by rw[Í];exact h.b1 j a,by rw[Í];exact h.b0,by rw[À];exact h.tk
def vaq{s t:Int}(hs:0<=s/\s<=255)(ht:0<=t/\t<=255)(h:b8 s=b8 t):s=t:=by have b:=yvi hs.1 hs.2;have a:=yvi ht.1 ht.2;have h:[s/128%2,s/64%2,s/32%2,s/16%2,s/8%2,s/4%2,s/2%2,s/1%2]=[t/128%2,t/64%2,t/32%2,t/16%2,t/8%2,t/4%2,t/2%2,t/1%2]:=h;injection h with h0 h;injection h with h1 h;injection h with h2 h;injection h with h3 h;injection h with h4 h;injection h with h5 h;injection h with h6 h;injection h with h7 h;omega
def yey{mx bt:Nat->Int}{d:Ρ}(hd:Byt d){m:Nat}(hc:∀j,j<m->Ch (mx j))(hb:∀j,j<m->bt j=0\/bt j=1)(i:InS d (snK mx bt m)):∀k,k<m->bt k=Ü d (snK mx bt k) (mx k)/\InS d (snK mx bt k):=by
 induction m with
 |zero=>exact λk c=>absurd c (cS k)
 |succ m ih =>
  have f:=(jz (mx:=mx) (bt:=bt) m λj b=>hc j ()).1;let⟨a,e⟩:=yrs hd f (hc m ()) (hb m ()) i;intro k c;by_cases z:k=m
  .rw[z];exists e,a
  .exact ih (λj b=>hc j ()) (λj b=>hb j ()) a k ()
def yn0{k:Nat}(h:k<(dec ts).length):vk ts k=0\/vk ts k=1:=by let⟨b,a⟩:=yl8 ts k h;omega
def ybf(x:Sn):Byt (tL x):=λb a=>yr5 _ _ b a
theorem ý{n:Nat}{kd:Ξ}{ps:Λ}{pre d:Ρ}(hd:Byt d)(hc:∀j,j<(dec ts).length->Ch (uf n kd ps pre ts j))(hi:InS d (snK (uf n kd ps pre ts) (vk ts) (dec ts).length)):∀k,k<=(dec ts).length->rst (fa0 n ps) d (rS n kd ps pre) k=(fX n kd ps pre ts k,snK (uf n kd ps pre ts) (vk ts) k)
 |0,_=>rfl
 |k+1,hk=>by
  have b:=(yey hd hc (λj e=>yn0 e) hi k ()).1;have c:(dec ts)[k]?=some (vk ts k):=by unfold vk;rw[ci ()];rfl
  show rnx (fa0 n ps) d (rst (fa0 n ps) d (rS n kd ps pre) k)=_;rw[ý hd hc hi k ()];show ((fX n kd ps pre ts k).see (fa0 n ps) (Ü d (snK (uf n kd ps pre ts) (vk ts) k) (uf n kd ps pre ts k)),nar (snK (uf n kd ps pre ts) (vk ts) k) (uf n kd ps pre ts k) (Ü d (snK (uf n kd ps pre ts) (vk ts) k) (uf n kd ps pre ts k)))=(fX n kd ps pre ts (k+1),nar (snK (uf n kd ps pre ts) (vk ts) k) (uf n kd ps pre ts k) (vk ts k));rw[<- b]
  have a:fX n kd ps pre ts (k+1)=(fX n kd ps pre ts k).see (fa0 n ps) (vk ts k):=by
   unfold fX;rw[Ì c]
  rw[a]
def yg3{n:Nat}{kd:Ξ}{ps:Λ}{pre d:Ρ}(hd:Byt d)(hc:∀j,j<(dec ts).length->Ch (uf n kd ps pre ts j))(hi:InS d (snK (uf n kd ps pre ts) (vk ts) (dec ts).length))(k:Nat)(hk:k<(dec ts).length):ue (fa0 n ps) d (rS n kd ps pre) k=vk ts k:=by have a:=(yey hd hc (λj b=>yn0 b) hi k hk).1;unfold ue;rw[ý hd hc hi k ()];exact a.symm
def ã(t:Int)(r:Ρ)(k:Nat):vk (t::r) (k+9)=vk r k:=rfl
def yfd(t:Int)(r:Ρ):∀i,i<8->vk (t::r) (1+i)=t/wB i%2:=λi a=>by
 rcases i with _|_|_|_|_|_|_|_|i
 .rfl
 .rfl
 .rfl
 .rfl
 .rfl
 .rfl
 .rfl
 .rfl
 .omega
theorem Ë:∀(ts:Ρ)(j:Nat)(hj:j<ts.length),vk ts (9*j)=1/\∀i,i<8->vk ts (9*j+1+i)=ts[j]/wB i%2
 |[],j,hj=>absurd hj (cS j)
 |t::r,0,_=>⟨rfl,λi a=>by rw[show 9*0+1+i=1+i by omega];exact yfd t r i a⟩
 |t::r,j+1,hj=>by
  let⟨b,c⟩:=Ë r j (by simpa using hj);exists ?_,λi a=>?_
  .rw[show 9*(j+1)=9*j+9 by omega,ã];exact b
  .rw[show 9*(j+1)+1+i=9*j+1+i+9 by omega,ã];exact c i a
theorem Ũ:∀ts:Ρ,vk ts (9*ts.length)=0
 |[]=>rfl
 |t::r=>by
  rw[show 9*(t::r).length=9*r.length+9 by rw[cO];omega,ã];exact Ũ r
def yd1(A:FA)(d:Ρ)(S:FX×Sn)(c i:Nat):ue A d (rst A d S c) i=ue A d S (c+i):=by unfold ue;rw[ycq]
def ygo{n:Nat}{kd:Ξ}{ps:Λ}{pre d:Ρ}(hts:Sgs ts)(hd:Byt d)(hc:∀j,j<(dec ts).length->Ch (uf n kd ps pre ts j))(hl:(tL (snK (uf n kd ps pre ts) (vk ts) (dec ts).length)).length<=d.length)(h:d.take (tL (snK (uf n kd ps pre ts) (vk ts) (dec ts).length)).length=tL (snK (uf n kd ps pre ts) (vk ts) (dec ts).length)):
  ROk (fa0 n ps) d (rS n kd ps pre) ts.length/\rtx (fa0 n ps) d (rS n kd ps pre) ts.length=ts/\rTL (fa0 n ps) d (rS n kd ps pre) ts.length=(tL (snK (uf n kd ps pre ts) (vk ts) (dec ts).length)).length:=by
 have l:=(jz (bt:=vk ts) _ hc).1;have a:=Ź hd l hl h;have b:=ub ts
 have g:rst (fa0 n ps) d (rS n kd ps pre) (9*ts.length+1)=(fX n kd ps pre ts (dec ts).length,snK (uf n kd ps pre ts) (vk ts) (dec ts).length):=by
  rw[<- b];exact ý hd hc a _ (cq _)
 have c:=yg3 hd hc a;exists⟨λj o=>?_,?_,?_⟩,?_,?_
 .rw[c _ ()];exact(Ë ts j o).1
 .rw[c _ ()];exact Ũ ts
 .rw[g];exact h
 .show (List.range ts.length).map (rsg (fa0 n ps) d (rS n kd ps pre))=ts;refine List.ext_getElem (by rw[bI,di]) λj q k=>?_;rw[dv,List.getElem_range];have f:=hts ts[j] (cU k);have m:=(Ë ts j k).2
  have e:∀i,i<8->wB i*ue (fa0 n ps) d (rst (fa0 n ps) d (rS n kd ps pre) (9*j+1)) i=wB i*(ts[j]/wB i%2):=λi a=>by
   rw[yd1,c _ (),m i a]
  have p:sgB (fa0 n ps) d (rst (fa0 n ps) d (rS n kd ps pre) (9*j+1)) 8=(List.range 8).map λi=>wB i*(ts[j]/wB i%2):=by
   unfold sgB;exact List.map_congr_left λi a=>e i (dB.mp a)
  unfold rsg;rw[p];exact yvi f.1 f.2
 .unfold rTL;rw[g]
theorem ykr:∀{ts us:Ρ},Sgs ts->Sgs us->dec ts=(dec us).take (dec ts).length->ts=us
 |[],[],_,_,_=>rfl
 |[],u::r,_,_,h=>by
  have h:[(0:Int)]=[1]:=h;simp at h
 |t::r,[],_,_,h=>by
  have e:(dec (t::r)).length=9*(r.length+1)+1:=ub (t::r);have c:=congrArg List.length h;rw[cK,e]at c;have j:(dec ([]:Ρ)).length=1:=rfl;omega
 |t::r,u::r',ht,hu,h=>by
  have a:∀s:Int,(1::b8 s).length=9:=λZ=>rfl;have h:(1::b8 t)++dec r=((1::b8 u)++dec r').take (((1::b8 t)++dec r).length):=h;rw[cj,a,List.take_append,a,Nat.add_sub_cancel_left,dn (by rw[a];omega)]at h;let⟨d,i⟩:=List.append_inj h (by rw[a,a]);have f:=vaq (ht t (by simp)) (hu u (by simp)) (List.cons.inj d).2;have g:=ykr (λx b=>ht x (by simp[b])) (λx b=>hu x (by simp[b])) i;rw[f,g]
def yi4{n:Nat}{kd:Ξ}{ps:Λ}{pre:Ρ}(hts:Sgs ts)(hus:Sgs us)(c1:∀j,j<(dec ts).length->Ch (uf n kd ps pre ts j))(c2:∀j,j<(dec us).length->Ch (uf n kd ps pre us j))
  (h:(tL (snK (uf n kd ps pre ts) (vk ts) (dec ts).length)).take (tL (snK (uf n kd ps pre us) (vk us) (dec us).length)).length=tL (snK (uf n kd ps pre us) (vk us) (dec us).length)):ts=us:=by
 have q:=(jz (bt:=vk ts) _ c1).1;have t:=(jz (bt:=vk us) _ c2).1;have b:=ybf (snK (uf n kd ps pre ts) (vk ts) (dec ts).length);have i:=Ź b q (cq _) (dh);have g:=Ź b t (by have:=congrArg List.length h;rw[cK]at this;omega) h;generalize tL (snK (uf n kd ps pre ts) (vk ts) (dec ts).length)=d at b i g;have r:=yey b c1 (λj c=>yn0 c) i;have u:=yey b c2 (λj c=>yn0 c) g
 have a:∀k,k<=(dec ts).length->k<=(dec us).length->(dec ts).take k=(dec us).take k/\snK (uf n kd ps pre ts) (vk ts) k=snK (uf n kd ps pre us) (vk us) k:=by
  intro k
  induction k with
  |zero=>exact λZ Z=>⟨rfl,rfl⟩
  |succ k ih =>
   intro x w;let⟨o,p⟩:=ih () ()
   have m:uf n kd ps pre ts k=uf n kd ps pre us k:=by
    unfold uf fX;rw[o]
   have l:vk ts k=vk us k:=by rw[(r k ()).1,(u k ()).1,p,m]
   exists ?_,?_
   .have v:(dec ts)[k]?=some (vk ts k):=by unfold vk;rw[ci ()];rfl
    have s:(dec us)[k]?=some (vk us k):=by unfold vk;rw[ci ()];rfl
    rw[zu v,zu s,o,l]
   .show nar _ _ _=nar _ _ _;rw[p,m,l]
 rcases Nat.le_total (dec ts).length (dec us).length with f|f
 .obtain⟨e,_⟩:=a _ (cq _) f;rw[dh]at e;exact ykr hts hus e
 .obtain⟨e,_⟩:=a _ f (cq _);rw[dh]at e;exact(ykr hus hts e.symm).symm
def Ū{ys:Ρ}(h1:Byt xs)(h2:Byt ys):Byt (xs++ys):=λb a=>by
 rcases cQ.mp a with h|h
 .exact h1 b h
 .exact h2 b h
def zl(n:Nat)(kd:Ξ)(ps:Λ)(pre ts:Ρ):Ρ:=tL (snK (uf n kd ps pre ts) (vk ts) (dec ts).length)
def ű{n:Nat}{kd:Ξ}{ps:Λ}{pre:Ρ}(n1:1<=n)(n6:n<=6)(hp:ŋ pre)(hz:ts.length<=300):(zl n kd ps pre ts).length<=5500:=by
 have b:=ub ts;let⟨c,a⟩:=jz (mx:=uf n kd ps pre ts) (bt:=vk ts) (dec ts).length λj Z=>Ğ n1 n6 hp j;unfold zl;rw[ykf];have:sz (snK (uf n kd ps pre ts) (vk ts) (dec ts).length)<=5500:=by show Int.toNat _<=5500;omega
 omega
def ymb{n:Nat}{kd:Ξ}{ps:Λ}{pre bs:Ρ}(n1:1<=n)(n6:n<=6)(hp:ŋ pre)(hts:Sgs ts)(hb:Byt bs):
  ROk (fa0 n ps) (zl n kd ps pre ts++bs) (rS n kd ps pre) ts.length/\rtx (fa0 n ps) (zl n kd ps pre ts++bs) (rS n kd ps pre) ts.length=ts/\rTL (fa0 n ps) (zl n kd ps pre ts++bs) (rS n kd ps pre) ts.length=(zl n kd ps pre ts).length :=
 ygo hts (Ū (ybf _) hb) (λj Z=>Ğ n1 n6 hp j) (by rw[cj];exact Nat.le_add_right _ _) List.take_left
def ytk{n:Nat}{kd:Ξ}{ps:Λ}{pre bs:Ρ}(n1:1<=n)(n6:n<=6)(hp:ŋ pre)(hb:Byt bs):(rst (fa0 n ps) (zl n kd ps pre ts++bs) (rS n kd ps pre) (9*ts.length+1)).1=((FX0 n kd).run (fa0 n ps) pre).run (fa0 n ps) (dec ts):=by have a:∀j,j<(dec ts).length->Ch (uf n kd ps pre ts j):=λj Z=>Ğ n1 n6 hp j;have b:Byt (zl n kd ps pre ts++bs):=Ū (ybf _) hb;have c:=Ź b (jz (bt:=vk ts) _ a).1 (by rw[cj];exact Nat.le_add_right _ _) List.take_left;rw[<- ub ts,ý b a c _ (cq _)];unfold fX;rw[dh]
def ydt(A:FA)(d:Ρ)(S:FX×Sn)(j:Nat):(0<=rsg A d S j/\rsg A d S j<=255)/\∀i,i<8->rsg A d S j/wB i%2=ue A d S (9*j+1+i):=by
 have e:rsg A d S j=128*ue A d (rst A d S (9*j+1)) 0+(64*ue A d (rst A d S (9*j+1)) 1+(32*ue A d (rst A d S (9*j+1)) 2+(16*ue A d (rst A d S (9*j+1)) 3+(8*ue A d (rst A d S (9*j+1)) 4+(4*ue A d (rst A d S (9*j+1)) 5+(2*ue A d (rst A d S (9*j+1)) 6+(1*ue A d (rst A d S (9*j+1)) 7+0))))))):=rfl
 have b:∀i,0<=ue A d (rst A d S (9*j+1)) i/\ue A d (rst A d S (9*j+1)) i<=1:=λi=>by
  rcases yj9 A d (rst A d S (9*j+1)) i with z|z<;>(rw[z];decide)
 have r:∀i,ue A d S (9*j+1+i)=ue A d (rst A d S (9*j+1)) i:=λi=>(yd1 A d S (9*j+1) i).symm;generalize rsg A d S j=g at e;have n:=b 0;have o:=b 1;have a:=b 2;have m:=b 3;have f:=b 4;have l:=b 5;have c:=b 6;have h:=b 7;exists by omega,λi k=>?_
 rw[r i];rcases i with _|_|_|_|_|_|_|_|i
 .show g/128%2=ue A d (rst A d S (9*j+1)) 0;omega
 .show g/64%2=ue A d (rst A d S (9*j+1)) 1;omega
 .show g/32%2=ue A d (rst A d S (9*j+1)) 2;omega
 .show g/16%2=ue A d (rst A d S (9*j+1)) 3;omega
 .show g/8%2=ue A d (rst A d S (9*j+1)) 4;omega
 .show g/4%2=ue A d (rst A d S (9*j+1)) 5;omega
 .show g/2%2=ue A d (rst A d S (9*j+1)) 6;omega
 .show g/1%2=ue A d (rst A d S (9*j+1)) 7;omega
 .omega
def vav{A:FA}{d:Ρ}{S:FX×Sn}{M:Nat}(h:j<(rtx A d S M).length):(rtx A d S M)[j]=rsg A d S j:=by
 have e:(rtx A d S M)[j]?=some (rsg A d S j):=by
  unfold rtx;rw[cu,dJ (by rw[ê]at h;exact h)];rfl
 rw[ci h]at e;exact cL e
def yns{A:FA}{d:Ρ}{S:FX×Sn}{M:Nat}(b1:∀j,j<M->ue A d S (9*j)=1)(b0:ue A d S (9*M)=0)(k:Nat)(hk:k<9*M+1):vk (rtx A d S M) k=ue A d S k:=by
 have g:=ê A d S M;by_cases z:k=9*M
 .rw[z,b0];have e:=Ũ (rtx A d S M);rw[g]at e;exact e
 .have c:k/9<M:=()
  have a:k/9<(rtx A d S M).length:=by rw[g];exact c
  let⟨l,m⟩:=Ë (rtx A d S M) (k/9) a;by_cases y:k%9=0
  .have e:k=9*(k/9):=()
   rw[e,l,b1 _ c]
  .obtain⟨i,b,h⟩:∃i,i<8/\k=9*(k/9)+1+i:=⟨k%9-1,(),()⟩;have f:=m i b;rw[vav a,(ydt A d S (k/9)).2 i b,<- h]at f;exact f
def yt1(A:FA)(d:Ρ)(S:FX×Sn)(M:Nat):Sgs (rtx A d S M):=λx a=>by
 let⟨j,_,rfl⟩:=cn.mp a;exact(ydt A d S j).1
theorem yiw{n:Nat}{kd:Ξ}{ps:Λ}{pre d:Ρ}(hb:∀k,k<(dec us).length->vk us k=ue (fa0 n ps) d (rS n kd ps pre) k):∀k,k<=(dec us).length->rst (fa0 n ps) d (rS n kd ps pre) k=(fX n kd ps pre us k,snK (uf n kd ps pre us) (vk us) k)
 |0,_=>rfl
 |k+1,hk=>by
  have b:=yiw hb k ()
  have e:vk us k=Ü d (snK (uf n kd ps pre us) (vk us) k) (uf n kd ps pre us k):=by
   rw[hb k ()];show Ü d (rst (fa0 n ps) d (rS n kd ps pre) k).2 (chX (fa0 n ps) (rst (fa0 n ps) d (rS n kd ps pre) k).1)=_;rw[b];rfl
  have a:(dec us)[k]?=some (vk us k):=by unfold vk;rw[ci ()];rfl
  show rnx (fa0 n ps) d (rst (fa0 n ps) d (rS n kd ps pre) k)=_;rw[b];show ((fX n kd ps pre us k).see (fa0 n ps) (Ü d (snK (uf n kd ps pre us) (vk us) k) (uf n kd ps pre us k)),nar (snK (uf n kd ps pre us) (vk us) k) (uf n kd ps pre us k) (Ü d (snK (uf n kd ps pre us) (vk us) k) (uf n kd ps pre us k)))=(fX n kd ps pre us (k+1),nar (snK (uf n kd ps pre us) (vk us) k) (uf n kd ps pre us k) (vk us k));rw[<- e]
  have c:fX n kd ps pre us (k+1)=(fX n kd ps pre us k).see (fa0 n ps) (vk us k):=by
   unfold fX;rw[Ì a]
  rw[c]
def yg8{n:Nat}{kd:Ξ}{ps:Λ}{pre d:Ρ}{M:Nat}(h:ROk (fa0 n ps) d (rS n kd ps pre) M):
  zl n kd ps pre (rtx (fa0 n ps) d (rS n kd ps pre) M)=d.take (rTL (fa0 n ps) d (rS n kd ps pre) M)/\(zl n kd ps pre (rtx (fa0 n ps) d (rS n kd ps pre) M)).length=rTL (fa0 n ps) d (rS n kd ps pre) M:=by
 have a:=ub (rtx (fa0 n ps) d (rS n kd ps pre) M);rw[ê]at a;have e:=yiw (n:=n) (kd:=kd) (ps:=ps) (pre:=pre) (us:=rtx (fa0 n ps) d (rS n kd ps pre) M) (d:=d) (λk c=>yns h.b1 h.b0 k ()) _ (cq _)
 have b:zl n kd ps pre (rtx (fa0 n ps) d (rS n kd ps pre) M)=tL (rst (fa0 n ps) d (rS n kd ps pre) (9*M+1)).2:=by
  rw[<- a,e];rfl
 rw[b];exists h.tk.symm,rfl
def ved{x:Sn}{c b:Int}(h:Ok x)(hc:Ch c):(nar x c b).2.1<1099511627776:=by
 let⟨e,a,f⟩:=ybi h.w0 h.w1 hc;have d:=h.w1;unfold nar ren
 (repeat' split)<;>(dsimp only at*;omega)
def yd9{n:Nat}{kd:Ξ}{ps:Λ}{pre:Ρ}(n1:1<=n)(n6:n<=6)(hp:ŋ pre):1<=(zl n kd ps pre ts).length:=by
 have g:=ub ts;obtain⟨m,e⟩:∃m,(dec ts).length=m+1:=⟨9*ts.length,()⟩;unfold zl;rw[ykf,e];have a:∀j,j<m+1->Ch (uf n kd ps pre ts j):=λj Z=>Ğ n1 n6 hp j;have d:=(jz (bt:=vk ts) m λj k=>a j ()).1;have c:=(jz (bt:=vk ts) (m+1) a).1;have h:(snK (uf n kd ps pre ts) (vk ts) (m+1)).2.1<1099511627776:=ved (x:=snK (uf n kd ps pre ts) (vk ts) m) (b:=vk ts m) d.ok (a m ());have l:=yjh (ź c.ok);have i:=c.sz5;have f:pw (tK (snK (uf n kd ps pre ts) (vk ts) (m+1)))<pw 5:=by rw[pw5];omega
 have:=vdb f;omega
def Æ(L:qi (Ρ)):Ρ:=(L.map dec).flatten
def ya5(L:qi (Ρ))(t:Ρ):Æ (L++[t])=Æ L++dec t:=by unfold Æ;rw[cA,List.flatten_append];simp
def xy(L:qi (Ρ)):ŋ (Æ L):=λb a=>by
 unfold Æ at a;let⟨l,c,a⟩:=List.mem_flatten.mp a;let⟨t,_,rfl⟩:=cn.mp c;exact Î t b a
def ynh{A:FA}{X:FX}(hts:Sgs ts)(h1:X.sg=[])(h2:X.nd=0):(X.run A (dec ts)).sg=[]/\(X.run A (dec ts)).nd=0:=by
 have a:∀k,k<=(dec ts).length->TxE ts k (X.run A ((dec ts).take k)).sg (X.run A ((dec ts).take k)).nd:=by
  intro k
  induction k with
  |zero =>
   intro _;exact .inl ⟨cP _,by show ydb _ _ X.sg X.nd;rw[h1,h2];exact ydb.zero _⟩
  |succ k ih =>
   intro d;have b:(dec ts)[k]?=some ((dec ts)[k]'()):=ci _;rw[Ì b];exact((ih ()).next hts b).2
 have e:=a _ (cq _);rw[dh]at e;have c:=ub ts;rcases e with⟨h,_⟩|⟨_,h⟩
 .omega
 .exact h
def yqx(p:z4)(A:FA)(O:Β):Ν:=λc=>c=p\/c=A.mp\/(∃j,j<A.n/\c=A.bk j)\/(∃j,j<A.n/\O j c)\/c=A.el
def FZ(K:z3)(a:Ads)(H:Hp)(p:z4)(n:Nat)(kd:Ξ)(ps:Λ)(pre:Ρ)(M:Nat)(W:Ν):Prop :=
 ∃A f O m,z6 K a H p A ((FX0 n kd).run (fa0 n ps) pre) f O m/\m<=M/\yw5 H A/\A.n=n/\A.kd=kd/\A.ps=ps/\((FX0 n kd).run (fa0 n ps) pre).sg=[]/\((FX0 n kd).run (fa0 n ps) pre).nd=0/\∀c,W c↔yqx p A O c
def yq0:HO->Bool
 | .ins _ _ _=>true
 | .dT _=>true
 | .dK _=>true
 | .frz _ (.dK _)=>true
 |_=>false
def vd0(o:qj HO):Prop:=(∃ys,o=some (.lst ys))\/∃ys,o=some (.tup ys)/\(ys.length≠2\/∃i,ys[0]?=some (.int i))
def WSh(H:Hp)(W:Ν):Prop:=∀c,W c->∃o,H c=some o/\(yq0 o=true\/∃xs,o=.lst xs/\∀x∈xs,(∃s,x=V.str s)\/x=V.non\/∃q,x=V.ref q/\vd0 (H q))
def yt2{o:HO}(h:yxb o=true):yq0 o=true:=by cases o<;>first|rfl|cases h
section
variable{H H':Hp}{p:z4}{n:Nat}{kd:Ξ}{ps:Λ}{pre:Ρ}{M:Nat}{W:Ν}
def FZ.sh(h:FZ K a H p n kd ps pre M W):WSh H W:=λc w=>by
 let⟨A,f,O,m,d,_,_,_,_,_,q,_,e⟩:=h;rcases (e c).mp w with z|z|⟨j,g,z⟩|⟨j,g,z⟩|z
 .exists _,by rw[z];exact d.me,.inl rfl
 .exists _,by rw[z];exact d.mx.o,.inl rfl
 .exists _,by rw[z];exact(d.B.b j g).me,.inl rfl
 .obtain⟨o,r,l⟩:=(d.B.b j g).own c z;exists o,r,.inl (yt2 l)
 .have i:=d.el;rw[q]at i;exists _,by rw[z];exact i,.inr ⟨_,rfl,λx k=>by cases k⟩
def FZ.live(h:FZ K a H p n kd ps pre M W):∀c,W c->∃o,H c=some o:=λc w=>let ⟨o,e,_⟩:=h.sh c w;⟨o,e⟩
theorem FZ.same(h:FZ K a H p n kd ps pre M W)(S:yw H H'):FZ K a H' p n kd ps pre M W:=by let⟨A,f,O,m,c,d,b,r⟩:=h;exists A,f,O,m,c.same S,d,b.same S,r
def FZ.up(h:FZ K a H p n kd ps pre M W){M':Nat}(hM:M<=M'):FZ K a H p n kd ps pre M' W:=by let⟨A,f,O,m,b,c,r⟩:=h;exists A,f,O,m,b,de c hM,r
theorem WSh.tup(h:WSh H W){c:z4}{xs:Υ}(e:H c=some (.tup xs)):¬W c:=λw=>by
 obtain⟨o,a,z|⟨b,z,_⟩⟩:=h c w
 .rw[e]at a;cases a;cases z
 .rw[e,z]at a;cases a
def WSh.ints(h:WSh H W){c:z4}{ns:Ρ}(e:H c=some (.lst (ns.map V.int)))(hn:1<=ns.length):¬W c:=λw=>by
 obtain⟨o,a,z|⟨b,z,q⟩⟩:=h c w
 .rw[e]at a;cases a;cases z
 .rw[e,z]at a;cases a
  cases ns with
  |nil=>cases hn
  |cons x r=>rcases q (.int x) cT with⟨_,z⟩|z|⟨_,z,_⟩<;>cases z
theorem WSh.refs(h:WSh H W){c:z4}{g:Μ}{k:Nat}(e:H c=some (.lst (Law.refs g k)))(hk:1<=k)(hg:¬vd0 (H (g 0))):¬W c:=λw=>by
 obtain⟨o,a,z|⟨d,z,q⟩⟩:=h c w
 .rw[e]at a;cases a;cases z
 .rw[e,z]at a;cases a;rcases q (.ref (g 0)) (cB (yih hk))with⟨_,z⟩|z|⟨f,z,b⟩
  .cases z
  .cases z
  .cases z;exact hg b
theorem FZ.frame(h:FZ K a H p n kd ps pre M W)(sh:WSh H W2)(dj:∀c,W c->¬W2 c)(fr:∀c o,H c=some o->¬W2 c->H' c=some o):FZ K a H' p n kd ps pre M W:=by
 let⟨A,f,O,m,j,Q,x,e1,S,T,N,R,q⟩:=h;have k:=j.n1;let⟨P,d⟩:=x.2.2
 have G:¬W2 A.ll:=sh.refs x.1 k λz=>by
  let⟨J,e,u,_⟩:=d 0 k;cases e;rw[u]at z;rcases z with⟨_,z⟩|⟨_,z,r⟩
  .cases z
  .cases z;exact r.elim (λr=>r rfl) λ⟨_,r⟩=>nomatch r
 have D:¬W2 A.bl:=sh.refs j.bl k λz=>by rw[(j.B.b 0 k).me]at z;rcases z with⟨_,z⟩|⟨_,z,_⟩<;>cases z
 have E:¬W2 A.pl:=sh.refs j.pl k λz=>by
  let⟨_,⟨U,Y⟩,_,_⟩:=j.slot k;let⟨C,fs,X⟩:=ρ a U (((FX0 n kd).run (fa0 n ps) pre).g 0 (((FX0 n kd).run (fa0 n ps) pre).key A 0));rw[Y,X]at z;rcases z with⟨_,z⟩|⟨_,z,_⟩<;>cases z
 have F:¬W2 A.ml:=sh.ints j.mx.l (by rw[j.wok.len];exact k);exists A,f,O,m,j.frame (O2:=W2) (λc o e L=>fr c o e L) (dj _ ((q _).mpr (.inl rfl))) (dj _ ((q _).mpr (.inr (.inl rfl)))) (λi s=>dj _ ((q _).mpr (.inr (.inr (.inl ⟨i,s,rfl⟩))))) (λi c s w=>dj _ ((q _).mpr (.inr (.inr (.inr (.inl ⟨i,s,w⟩)))))) (λl Z y e=>fr _ _ e ?_) (λt Z e=>?_),Q,⟨fr _ _ x.1 G,x.2.1,P,λi s=>?_⟩,e1,S,T,N,R,q
 .rcases y with z|z|z|z
  .rw[z];exact D
  .rw[z];exact dj _ ((q _).mpr (.inr (.inr (.inr (.inr rfl)))))
  .rw[z];exact F
  .rw[z];exact E
 .rcases e with(e|⟨o,e⟩)|e
  .exact .inl (.inl (fr _ _ e (sh.tup e)))
  .refine .inl (.inr ⟨o,fr _ _ e λw=>?_⟩);obtain⟨o',v,z|⟨ys,z,_⟩⟩:=sh t w
   .rw[e]at v;cases v;cases z
   .rw[e,z]at v;cases v
  .exact .inr e
 .obtain⟨J,z,u,I,h3⟩:=d i s;exists J,z,fr _ _ u (sh.tup u),fr _ _ I (sh.tup I),h3
def FZ.went{A:FA}{f f':Α}{m:Nat}{X:FX}{ml el pl:z4}{sl:Μ}(hF:z6 K a H p A ((FX0 A.n A.kd).run (fa0 A.n A.ps) pre) f O m)(hl:yw5 H A)(hX:X=(FX0 A.n A.kd).run (fa0 A.n A.ps) (pre++dec ts))(hts:Sgs ts)(h4:((FX0 A.n A.kd).run (fa0 A.n A.ps) pre).sg=[])(h5:((FX0 A.n A.kd).run (fa0 A.n A.ps) pre).nd=0)
  (hF':z6 K a H' p (A.re ml el pl sl) X f' O' m') (go:FGo p A O H H' el O') (e6:∀c,W c↔yqx p A O c):FZ K a H' p A.n A.kd A.ps (pre++dec ts) m' (yqx p (A.re ml el pl sl) O')/\Go W H H' (yqx p (A.re ml el pl sl) O'):=by
 subst hX;have h:=go.kpa hF;have d:=ynh (A:=fa0 A.n A.ps) hts h4 h5;exists⟨_,f',O',m',hF',cq _,⟨(h _ _ hl.1 rfl hl.2.1).2,(h _ _ hl.1 rfl hl.2.1).1,?_⟩,rfl,rfl,rfl,by rw[é];exact d.1,by rw[é];exact d.2,λc=>Iff.rfl⟩,⟨λc o e s=>?_,λc w=>?_,go.live⟩
 .obtain⟨B,r⟩:=hl.2.2;exists B,λi u=>?_;let⟨t,z,k,q,x⟩:=r i u;have l:∀{c:z4}{xs:Υ},H c=some (.tup xs)->c≠A.el:=λe z=>by rw[z,hF.el]at e;cases e
  exists t,z,(h _ _ k rfl (l k)).2,(h _ _ q rfl (l q)).2,x
 .have b:¬yqx p A O c:=λw=>s ((e6 c).mpr w);exact go.fr c o e (λz=>b (.inl z)) (λz=>b (.inr (.inl z))) (λz=>b (.inr (.inr (.inr (.inr z))))) λj g w=>b (.inr (.inr (.inr (.inl ⟨j,g,w⟩))))
 .rcases w with z|z|⟨j,g,z⟩|⟨j,g,z⟩|z
  .exact .inl ((e6 c).mpr (.inl z))
  .exact .inl ((e6 c).mpr (.inr (.inl z)))
  .exact .inl ((e6 c).mpr (.inr (.inr (.inl ⟨j,g,z⟩))))
  .rcases go.hO j c g z with v|v
   .exact .inl ((e6 c).mpr (.inr (.inr (.inr (.inl ⟨j,g,v⟩)))))
   .exact .inr v
  .rcases go.he with y|y
   .exact .inl ((e6 c).mpr (.inr (.inr (.inr (.inr (show c=A.el from Eq.trans z y))))))
   .exact .inr (by rw[show c=el from z];exact y)
def FZ.read{Q:VK}{E:XK}{dt:z4}{bs:Ρ}{mo:Nat}(h:FZ K a H p n kd ps pre M W)(hb:ŋ pre)(hts:Sgs ts)(hdt:H dt=some (.lst ((zl n kd ps pre ts++bs).map V.int)))(ndt:¬W dt)(hbs:Byt bs)(hdl:(zl n kd ps pre ts++bs).length<=12000)(hz:ts.length<=mo)(hmo:mo<=1000)(hM:M+54*mo+200<1000000)
  (k:∀t r W' H',H t=none->H r=none->H' t=some (.tup [.ref r,.int ((zl n kd ps pre ts).length:Nat)])->H' r=some (.lst (ts.map V.int))->FZ K a H' p n kd ps (pre++dec ts) (M+6*(dec ts).length) W'->Go W H H' W'->¬W' r->Q (.ref t) H'):Ĕ K a [.ref p,.ref dt,.int mo] H Q E:=by
 let⟨A,f,O,m,l,hm,hl,rfl,rfl,rfl,L,R,S⟩:=h;let⟨q,u,I⟩:=ymb (kd:=A.kd) (ps:=A.ps) (pre:=pre) (bs:=bs) l.n1 l.n6 hb hts hbs;have C:Byt (zl A.n A.kd A.ps pre ts++bs):=Ū (ybf _) hbs;exists p,A,_,f,O,m,dt,_,mo,rfl,l,hdt,λz=>ndt ((S _).mpr (.inr (.inr (.inr (.inr z))))),C,hdl,hmo,(),by rw[R];decide,by rw[L];exact cP _,λN t r D O' H' hN i y J s d T c=>?_,λG D O' H' T=>?_
 .rw[ROk.fa0]at i;obtain rfl:N=ts.length:=q.uniq i.b1 i.b0;rw[yso]at s;rw[yra]at d;have s:H' t=some (.tup [.ref r,.int (rTL (fa0 A.n A.ps) (zl A.n A.kd A.ps pre ts++bs) (rS A.n A.kd A.ps pre) ts.length)]):=s;have d:H' r=some (.lst ((rtx (fa0 A.n A.ps) (zl A.n A.kd A.ps pre ts++bs) (rS A.n A.kd A.ps pre) ts.length).map V.int)):=d;rw[I]at s;rw[u]at d;let⟨v,Y,U,X,f',c⟩:=c;have x:=ub ts
  have Z:(rst A (zl A.n A.kd A.ps pre ts++bs) ((FX0 A.n A.kd).run (fa0 A.n A.ps) pre,s0) (9*ts.length+1)).1=(FX0 A.n A.kd).run (fa0 A.n A.ps) (pre++dec ts):=by
   rw[À,é];exact ytk l.n1 l.n6 hb hbs
  let⟨z,g⟩:=FZ.went l hl Z hts L R c T S;refine k t r _ H' y J s d (z.up ()) g λw=>?_;rcases w with w|w|⟨j,F,w⟩|⟨j,F,w⟩|w
  .have e:=c.me;rw[<- w,d]at e;cases e
  .have e:=c.mx.o;rw[show r=(A.re Y D U X).mp from w]at d;rw[d]at e;cases e
  .have e:=(c.B.b j F).me;rw[show r=(A.re Y D U X).bk j from w]at d;rw[d]at e;cases e
  .obtain⟨o,P,hi⟩:=(c.B.b j F).own _ w;rw[d]at P;cases P;cases hi
  .exact v w
 .exact(G ts.length hz (by rw[ROk.fa0];exact q)).elim
def FZ.press{Q:VK}{E:XK}{tx:z4}(h:FZ K a H p n kd ps pre M W)(htx:î H tx ts 1000)(ntx:¬W tx)(hM:M+6*(dec ts).length+20<1000000)
  (k:∀r W' H',H r=none->H' r=some (.lst ((zl n kd ps pre ts).map V.int))->FZ K a H' p n kd ps (pre++dec ts) (M+6*(dec ts).length) W'->Go W H H' W'->Q (.ref r) H'):yde K a [.ref p,.ref tx] H Q E:=by
 let⟨A,f,O,m,i,y,w,rfl,rfl,rfl,d,l,o⟩:=h;exists p,A,_,f,O,m,tx,ts,rfl,i,d,l,htx,λz=>ntx ((o _).mpr (.inr (.inr (.inr (.inr z))))),(),λr G D C F x I B H' c q b u v=>?_
 have t:((FX0 A.n A.kd).run (fa0 A.n A.ps) pre).run A (dec ts)=(FX0 A.n A.kd).run (fa0 A.n A.ps) (pre++dec ts):=by rw[é];exact ycw A _ _
 let⟨z,g⟩:=FZ.went i w t htx.s d l b v o;refine k r _ H' c ?_ (z.up ()) g;rw[q];have e:snK (ygl A ((FX0 A.n A.kd).run (fa0 A.n A.ps) pre) ts) (vk ts) (dec ts).length=snK (uf A.n A.kd A.ps pre ts) (vk ts) (dec ts).length:=ya4 _ λj Z=>⟨by unfold uf ygl fX;rw[ycw A];rfl,rfl⟩;rw[e];rfl
end
def yrj{k:Nat}{ws cs:Ρ}{b:Int}(hw:WOk k ws)(hc:COk k cs):∀s∈shL ws cs b,32768<=s:=by intro s a;unfold shL at a;rw[List.mem_iff_getElem]at a;let⟨i,d,rfl⟩:=a;rw[List.length_zipWith]at d;rw[List.getElem_zipWith];have c:=hw.one ws[i] (cU _);have e:=yqg (b:=b) (hc.lo cs[i] (cU _)) (hc.hi cs[i] (cU _));have:=Int.mul_le_mul c e ∅ ();omega
def yrg{k:Nat}{ws cs:Ρ}{b:Int}(hk:1<=k)(hk6:k<=6)(hw:WOk k ws)(hc:COk k cs):∀w∈lrn ws cs b,256<=w:=by
 have e:(shL ws cs b).length=k:=by rw[Ž (by rw[hw.len,hc.len]),hw.len]
 have l:=yjg (b:=b) hw hc
 have n:32768<=(shL ws cs b).sum:=by
  have:=yeq (c:=32768) (yrj (b:=b) hw hc);rw[e]at this;omega
 have i:=ype l;have d:=yjm (shL ws cs b);rw[e]at d
 have j:1<=(grL (shL ws cs b)).sum:=by
  rw[d];have:32*(k:Int)*1<=32*(k:Int)*(shL ws cs b).sum:=dD () ();omega
 have g:(grL (shL ws cs b)).sum<=192*(shL ws cs b).sum:=by
  rw[d];exact du () ()
 let⟨o,a⟩:=ypw j;have m:=yip (tOf (grL (shL ws cs b)).sum);intro w h;let⟨v,f,rfl⟩:=cn.mp h;let⟨r,p,q⟩:=i v f;refine(Int.le_ediv_iff_mul_le m).mpr ?_;rcases a with a|a
 .rw[a,Int.pow_zero];omega
 .generalize (2:Int)^tOf (grL (shL ws cs b)).sum=T at*;omega
theorem yja{n:Nat}(n1:1<=n)(n6:n<=6)(ps:Λ):∀(bs:Ρ){X:FX},XOk n X->(∀w∈X.ws,256<=w)->ŋ bs->∀w∈(X.run (fa0 n ps) bs).ws,256<=w
 |[],_,_,h,_=>h
 |b::r,X,hx,_,hb=>yja n1 n6 ps r (hx.see n1 n6 ps (hb b (by simp)).1 (hb b (by simp)).2) (yrg (b:=b) n1 n6 hx.w (hx.cs ps)) λc a=>hb c (by simp[a])
def ynb{n:Nat}(n1:1<=n)(n6:n<=6){kd:Ξ}{ps:Λ}{pre:Ρ}(hp:ŋ pre):∀w∈((FX0 n kd).run (fa0 n ps) pre).ws,256<=w :=
 yja n1 n6 ps pre (XOk.zero n1 n6 kd) (λw a=>by
  have e:w∈List.replicate n (1099511627776:Int):=a;rw[List.eq_of_mem_replicate e];decide) hp
def yqv(H:Hp)(W:Ν):Prop:=∀c,W c->∃o,H c=some o/\(yq0 o=true\/∃xs,o=.lst xs/\∀x∈xs,(∃s,x=V.str s)\/x=V.non\/(∃q,x=V.ref q/\vd0 (H q))\/∃i:Int,x=V.int i/\i<256)
theorem yqv.tup{H:Hp}{W:Ν}(h:yqv H W){c:z4}{xs:Υ}(e:H c=some (.tup xs)):¬W c:=λw=>by
 obtain⟨o,a,z|⟨b,z,_⟩⟩:=h c w
 .rw[e]at a;cases a;cases z
 .rw[e,z]at a;cases a
def yqv.ints{H:Hp}{W:Ν}(h:yqv H W){c:z4}{ns:Ρ}(e:H c=some (.lst (ns.map V.int)))(hn:1<=ns.length)(hb:∀x∈ns,256<=x):¬W c:=λw=>by
 obtain⟨o,a,z|⟨b,z,q⟩⟩:=h c w
 .rw[e]at a;cases a;cases z
 .rw[e,z]at a;cases a
  cases ns with
  |nil=>cases hn
  |cons x r =>
   rcases q (.int x) cT with⟨_,z⟩|z|⟨_,z,_⟩|⟨i,z,d⟩
   .cases z
   .cases z
   .cases z
   .cases z;have:=hb x cT;omega
theorem yqv.refs{H:Hp}{W:Ν}(h:yqv H W){c:z4}{g:Μ}{k:Nat}(e:H c=some (.lst (Law.refs g k)))(hk:1<=k)(hg:¬vd0 (H (g 0))):¬W c:=λw=>by
 obtain⟨o,a,z|⟨d,z,q⟩⟩:=h c w
 .rw[e]at a;cases a;cases z
 .rw[e,z]at a;cases a;rcases q (.ref (g 0)) (cB (yih hk))with⟨_,z⟩|z|⟨f,z,b⟩|⟨i,z,_⟩
  .cases z
  .cases z
  .cases z;exact hg b
  .cases z
def FZ.frameI{H H':Hp}{p:z4}{n:Nat}{kd:Ξ}{ps:Λ}{pre:Ρ}{M:Nat}{W:Ν}(h:FZ K a H p n kd ps pre M W)(hpre:ŋ pre)(sh:yqv H W2)(dj:∀c,W c->¬W2 c)(fr:∀c o,H c=some o->¬W2 c->H' c=some o):FZ K a H' p n kd ps pre M W:=by
 let⟨A,f,O,m,d,R,x,G,T,U,P,S,q⟩:=h;have k:=d.n1;have X:=d.n6;let⟨Q,j⟩:=x.2.2
 have I:¬W2 A.ll:=sh.refs x.1 k λz=>by
  let⟨L,e,u,_⟩:=j 0 k;cases e;rw[u]at z;rcases z with⟨_,z⟩|⟨_,z,r⟩
  .cases z
  .cases z;exact r.elim (λr=>r rfl) λ⟨_,r⟩=>nomatch r
 have D:¬W2 A.bl:=sh.refs d.bl k λz=>by rw[(d.B.b 0 k).me]at z;rcases z with⟨_,z⟩|⟨_,z,_⟩<;>cases z
 have E:¬W2 A.pl:=sh.refs d.pl k λz=>by
  let⟨_,⟨Y,hs⟩,_,_⟩:=d.slot k;let⟨C,fs,Z⟩:=ρ a Y (((FX0 n kd).run (fa0 n ps) pre).g 0 (((FX0 n kd).run (fa0 n ps) pre).key A 0));rw[hs,Z]at z;rcases z with⟨_,z⟩|⟨_,z,_⟩<;>cases z
 have F:¬W2 A.ml:=sh.ints d.mx.l (by rw[d.wok.len];exact k) (ynb (by rw[<- G];exact k) (by rw[<- G];exact X) hpre);exists A,f,O,m,d.frame (O2:=W2) (λc o e N=>fr c o e N) (dj _ ((q _).mpr (.inl rfl))) (dj _ ((q _).mpr (.inr (.inl rfl)))) (λi s=>dj _ ((q _).mpr (.inr (.inr (.inl ⟨i,s,rfl⟩))))) (λi c s w=>dj _ ((q _).mpr (.inr (.inr (.inr (.inl ⟨i,s,w⟩)))))) (λl xs y e=>fr _ _ e ?_) (λt xs e=>?_),R,⟨fr _ _ x.1 I,x.2.1,Q,λi s=>?_⟩,G,T,U,P,S,q
 .rcases y with z|z|z|z
  .rw[z];exact D
  .rw[z];exact dj _ ((q _).mpr (.inr (.inr (.inr (.inr rfl)))))
  .rw[z];exact F
  .rw[z];exact E
 .rcases e with(e|⟨o,e⟩)|e
  .exact .inl (.inl (fr _ _ e (sh.tup e)))
  .refine .inl (.inr ⟨o,fr _ _ e λw=>?_⟩);obtain⟨o',v,z|⟨ys,z,_⟩⟩:=sh t w
   .rw[e]at v;cases v;cases z
   .rw[e,z]at v;cases v
  .exact .inr e
 .obtain⟨L,z,u,J,h3⟩:=j i s;exists L,z,fr _ _ u (sh.tup u),fr _ _ J (sh.tup J),h3
def nmL(L:Η):Υ:=L.map λx=>V.str x.1
def yab(H:Hp)(U:Ν):qi (Str×qi Int)->qi V->Prop
 |[],ks=>ks=[]
 |x::r,ks=>∃k ks',ks=k::ks'/\(k=.non\/∃q,k=.ref q/\H q=some (.lst (x.2.map V.int))/\¬U q)/\yab H U r ks'
theorem yab.len{H:Hp}:∀{L:Η}{ks:Υ},yab H U L ks->ks.length=L.length
 |[],_,h=>by rw[show _=_ from h];rfl
 |_::r,_,⟨_,_,e,_,h⟩=>by rw[e,cO,cO,h.len]
theorem yab.mono{H H':Hp}(f:∀q xs,H q=some (.lst xs)->¬U q->H' q=some (.lst xs)/\¬U' q):∀{L:Η}{ks:Υ},yab H U L ks->yab H' U' L ks
 |[],_,h=>h
 |_::_,_,⟨k,ks',e,z,h⟩=>⟨k,ks',e,z.imp id λ⟨q,e,a,b⟩=>⟨q,e,f q _ a b⟩,h.mono f⟩
theorem yab.snoc{H:Hp}{nm:Str}{t:Ρ}{k:V}(hk:k=.non\/∃q,k=.ref q/\H q=some (.lst (t.map V.int))/\¬U q):∀{L:Η}{ks:Υ},yab H U L ks->yab H U (L++[(nm,t)]) (ks++[k])
 |[],_,h=>by rw[show _=_ from h];exists k,[],rfl,hk,rfl
 |_::_,_,⟨k',ks',e,z,h⟩=>⟨k',ks'++[k],by rw[e];rfl,z,h.snoc hk⟩
theorem yab.mem{H:Hp}:∀{L:Η}{ks:Υ},yab H U L ks->∀x∈ks,x=.non\/∃q ys,x=.ref q/\H q=some (.lst ys)/\¬U q
 |[],_,h,x,hx=>by rw[show _=_ from h]at hx;cases hx
 |_::_,_,⟨k,ks',e,z,h⟩,x,hx=>by
  rw[e]at hx;rcases cG.mp hx with y|y
  .rw[y];exact z.imp id λ⟨q,e,a,b⟩=>⟨q,_,e,a,b⟩
  .exact h.mem x y
def ChW(ll tl:z4)(W:Ν):Ν:=λc=>c=ll\/c=tl\/W c
structure Å(K:z3)(a:Ads)(H:Hp)(c dc p ll tl:z4)(n:Nat)(kd:Ξ)(ps:Λ)(L:Η)(ks:Υ)(M:Nat)(W:Ν):Prop where
 me:H c=some (.ins a.A2 dc (jw (.ref p) (.ref ll) (.ref tl)))
 fz:FZ K a H p n kd ps (Æ (L.map (·.2))) M W
 hl:H ll=some (.lst (nmL L))
 ht:H tl=some (.lst ks)
 tx:yab H (ChW ll tl W) L ks
 nc:¬W c
 nll:¬W ll
 ntl:¬W tl
 ne:ll≠tl
def FZ.new{H:Hp}{p dp l:z4}{n:Nat}{lk:Μ}{kd:Ξ}{ps:Λ}{Q:VK}{E:XK}(np:H p=none)(ndp:H dp=none)(hl:H l=some (.lst (refs lk n)))(n1:1<=n)(n6:n<=6)(r:xn H n lk kd tp ps)
  (k:∀W H',FZ K a H' p n kd ps [] 6 W->(∀c,W c->H c=none)->yw H H'->(∀y xs H'',H y=some (.lst xs)->But y H' H''->FZ K a H'' p n kd ps [] 6 W)->Q .non H'):yd8 K a [.ref p,.ref l] (upd (upd H dp (.own p)) p (.ins a.A4 dp [])) Q E:=by
 have d:yw H (upd (upd H dp (.own p)) p (.ins a.A4 dp [])):=λb o e=>by rw[yk (yb e np),yk (yb e ndp)];exact e
 exists p,dp,.ref l,rfl,ya,.inr ⟨l,n,lk,kd,tp,ps,rfl,d _ _ hl,n1,n6,r.same d,λA f O G U Y=>?_⟩;have v:yw H G:=λb o e=>Y b o (d b o e) (yb e np);let⟨h,rfl,rfl,rfl,rfl,L,T,P,N,u,m,J⟩:=U;refine k (yqx p A O) G ⟨A,f,O,6,h,cq _,⟨u,m,tp,r.same v⟩,rfl,rfl,rfl,rfl,rfl,λc=>Iff.rfl⟩ (λc w=>?_) v (λy xs H2 R b=>?_)
 .rcases w with z|z|⟨j,F,z⟩|⟨j,F,z⟩|z
  .rw[z];exact np
  .rw[z];exact d.free P
  .rw[z];exact d.free (T j F)
  .exact d.free (L j c F z)
  .exact d.free (N c (.inr (.inl z)))
 .have g:∀{x:z4},H x=none->x≠y:=λ{x}e z=>by rw[z,R]at e;cases e
  have q:=v _ _ R;have C:∀{x:z4}{B:Υ},G x=some (.tup B)->x≠y:=λ{x B}e z=>by rw[z,q]at e;cases e
  exists A,f,O,6,h.frame (O2:=λc=>c=y) (λc o e X=>b c o e X) (g np) (g (d.free P)) (λi s=>g (d.free (T i s))) (λi c s w=>g (d.free (L i c s w))) (λl B D e=>b _ _ e (g (d.free (N l D)))) (λt B e=>?_),cq _,⟨b _ _ u (g (d.free J)),m,tp,λi s=>?_⟩,rfl,rfl,rfl,rfl,rfl,λc=>Iff.rfl
  .rcases e with(e|⟨o,e⟩)|e
   .exact .inl (.inl (b _ _ e (C e)))
   .exact .inl (.inr ⟨o,b _ _ e (λz=>by rw[z,q]at e;cases e)⟩)
   .exact .inr e
  .obtain⟨I,e,M,S,Z⟩:=r.same v i s;exists I,e,b _ _ M (C M),b _ _ S (C S),Z
@[irreducible] def ygj(c:Nat):Bool:=!(Builtin.Str.occurrences "abcdefghijklmnopqrstuvwxyz" ⟨#[c]⟩ 0 (Str.length "abcdefghijklmnopqrstuvwxyz") 1).isEmpty
def nmS(x:Str):Bool:=decide (1<=(x.length:Int)) && (decide ((x.length:Int)<=8) && x.cps.toList.all ygj)
def nmV:V->Bool
 | .str x=>nmS x
 |_=>false
def ysq(x:Str):(List.range x.cps.size).map (λi=>V.bl (ygj (x.cps.toList.getD i 0)))=(x.cps.toList.map ygj).map V.bl:=by
 rw[cX];refine List.ext_getElem? λi=>?_;rw[cu,cu];by_cases hi:i<x.cps.size
 .rw[dJ hi,ci (by rw[dF];exact hi),dS,dS,dX,ci (by rw[dF];exact hi),Option.getD_some,Function.comp_apply]
 .rw[df (by rw[di];omega),df (by rw[dF];omega),Option.map_none,Option.map_none]
def vb7{x:Str}(h1:(1:Int)<=(x.length:Int))(h8:(x.length:Int)<=8):nmV (.str x)=(x.cps.toList.map ygj).all id:=by
 have e:nmV (.str x)=nmS x:=by unfold nmV;rfl
 rw[e];unfold nmS;rw[cz h1,cz h8,List.all_map,Function.id_comp,Bool.true_and,Bool.true_and]
def yz5{x:Str}(h8:¬(x.length:Int)<=8):nmV (.str x)=false:=by
 have e:nmV (.str x)=nmS x:=by unfold nmV;rfl
 rw[e];unfold nmS;rw[cH h8,Bool.false_and,Bool.and_false]
def yzy{x:Str}(h1:¬(1:Int)<=(x.length:Int)):nmV (.str x)=false:=by
 have e:nmV (.str x)=nmS x:=by unfold nmV;rfl
 rw[e];unfold nmS;rw[cH h1,Bool.false_and]
def vbl{x:V}(h:nmV x=true):∃b,x=.str b/\nmS b=true:=by
 cases x with
 |str b=>exact⟨b,rfl,h⟩
 |_=>cases h
def uc{x:Str}(h:nmS x=true):x.length<=8:=by unfold nmS at h;simp only[cR,decide_eq_true_eq]at h;have:=h.2.1;omega
def smS:Str:=Str.ofString "abcdefghijklmnopqrstuvwxyz"
def ģ:smS.length=26:=by right
def ykm:∀i,i<26->smS.cps[i]?=some (97+i):=by right
def yla{i:Int}(h0:0<=i)(h1:i<26):smS.cps[i.toNat]?=some (97+i.toNat):=ykm _ ()
def vcd:∀i,i<26->ygj (97+i)=true:=by right
def Ō(l:qi Nat):Prop:=∀c,c∈l->97<=c/\c<123
def Ō.app{l m:qi Nat}(h:Ō l)(g:Ō m):Ō (l++m):=λc a=>(cQ.mp a).elim (h c) (g c)
def Ō.one{c:Nat}(h:97<=c/\c<123):Ō [c]:=λd a=>by rw[cJ.mp a];exact h
theorem Ō.take{l:qi Nat}(h:Ō l)(k:Nat):Ō (l.take k):=λc a=>h c (dz a)
theorem Ō.drop{l:qi Nat}(h:Ō l)(k:Nat):Ō (l.drop k):=λc a=>h c (List.mem_of_mem_drop a)
def vdk{x:Str}(h:Ō x.cps.toList)(h1:1<=x.cps.toList.length)(h8:x.cps.toList.length<=8):nmS x=true/\PyData.strOk x=true:=by
 have e:x.length=x.cps.toList.length:=by simp[Str.length]
 exists ?_,?_
 .unfold nmS;rw[cz (),cz (),Bool.true_and,Bool.true_and,List.all_eq_true];intro c a;let⟨d,b⟩:=h c a;have:=vcd (c-97) ()
  rwa[show 97+(c-97)=c by omega]at this
 .unfold PyData.strOk;rw[<- Array.all_toList,List.all_eq_true];intro c a;let⟨d,b⟩:=h c a;exact cz ()
def jf(x y:Str):(x++y).cps.toList=x.cps.toList++y.cps.toList:=by rw[PySem.Str.cps_append,Array.toList_append]
def ë(x:Str):x.length=x.cps.toList.length:=by simp[Str.length]
def yn6(z:Str)(j:Nat)(c:Nat):Str:=Txt.slice z none (some (j:Int))++⟨#[c]⟩++Txt.slice z (some (j:Int)) none
def Ò{z:Str}{c:Nat}(hj:j<=z.length):(yn6 z j c).cps.toList=z.cps.toList.take j++[c]++z.cps.toList.drop j:=by unfold yn6;rw[jf,jf,yls hj,yga hj]
def ytb{z:Str}{c:Nat}(hj:j<=z.length)(hz:Ō z.cps.toList)(hc:97<=c/\c<123)(h7:z.length<=7):nmS (yn6 z j c)=true/\PyData.strOk (yn6 z j c)=true:=by
 have e:=ë z;refine vdk ?_ ?_ ?_
 .rw[Ò hj];exact((hz.take j).app (.one hc)).app (hz.drop j)
 .rw[Ò hj];simp;omega
 .rw[Ò hj,cj,cj,cK,dM,dm];omega
def yl3{z:Str}{c d:Nat}(hj:j<=z.length)(e:yn6 z j c=yn6 z j d):c=d:=by have h:=congrArg (λx:Str=>x.cps.toList) e;simp only[Ò hj]at h;rw[cY,cY]at h;have a:=List.append_cancel_left h;simp at a;exact a
def yig{z:Str}(hj:j<=z.length)(o m:Nat):((List.range m).map λi=>yn6 z j (97+o+i)).Nodup :=
 List.Pairwise.map (R:=λa b=>a≠b) _ (λa b h e=>h (by have:=yl3 hj e;omega)) List.nodup_range
theorem ĕ{H:Hp}:∀ns:Τ,yqz K H (ns.map V.str) (ns.map PyData.str)
 |[]=>.nil
 |n::r=>.cons (.str n) (ĕ r)
theorem Č:∀ns:Τ,(∀x,x∈ns->PyData.strOk x=true)->PyData.canLayAll0 (ns.map PyData.str)=true
 |[],_=>rfl
 |x::r,h=>by simp[PyData.canLayAll0,PyData.canLay0,h x cT,Č r λy a=>h y (cZ _ a)]
theorem ļ:∀ns:Τ,PyData.depthAll (ns.map PyData.str)=0
 |[]=>rfl
 |_::r=>by simp[PyData.depthAll,PyData.depth,ļ r]
def đ(ns:Τ)(h:∀x,x∈ns->PyData.strOk x=true):SeqAt.shaped (.list (ns.map PyData.str))=true:=by simp[SeqAt.shaped,PyData.canLay0,PyData.depth,Č ns h,ļ]
theorem Ē:∀ns ms:Τ,PyData.eqvAll (ns.map PyData.str) (ms.map PyData.str)=decide (ns=ms)
 |[],[]=>by simp[PyData.eqvAll]
 |[],_::_=>by simp[PyData.eqvAll]
 |_::_,[]=>by simp[PyData.eqvAll]
 |a::r,b::t=>by
  simp only[db,PyData.eqvAll,PyData.eqv,Ē r t];by_cases h:a=b<;>by_cases h':r=t<;>simp[h,h']
def ye1{g:Bool->Bool}{H:Hp}{Q:VK}{a b:z4}(ns ms:Τ)(hn:∀x,x∈ns->PyData.strOk x=true)(hm:∀x,x∈ms->PyData.strOk x=true)(ha:SqL K H a (ns.map V.str))(hb:SqL K H b (ms.map V.str))(h:Q (.bl (g (decide (ns=ms)))) H):vdu K g (.ref a) (.ref b) H Q :=
 ⟨_,_,.lst ha (ĕ ns),.lst hb (ĕ ms),đ ns hn,đ ms hm,by rw[PyData.eqv,Ē];exact h⟩
structure Pc where
 nm:Str
 bs:Φ
 path:Η
 tx:Ρ
 ob:z4
 od:z4
 dl:z4
def baV:qj Str->V
 |none=>.non
 |some b=>.str b
def Pc.by(n:Nat)(kd:Ξ)(ps:Λ)(q:Pc):Ρ:=zl n kd ps (Æ (q.path.map (·.2))) q.tx
def pcs(P:qi Pc):Κ:=P.map λq=>(.inr q.nm,.ref q.ob)
def To(P:qi Pc):qj Str->qi (Str×qi Int)->Prop
 |none,L=>L=[]
 |some b,L=>∃r,r∈P/\r.nm=b/\L=r.path++[(b,r.tx)]
structure Ŋ(a:Ads)(H:Hp)(d:z4)(n:Nat)(kd:Ξ)(ps:Λ)(w:Nat)(P:qi Pc):Prop where
 dk:H d=some (.dK (pcs P))
 ob:∀q,q∈P->H q.ob=some (.ins a.Aa q.od (ĝ (baV q.bs) (.ref q.dl)))/\H q.dl=some (.lst ((q.by n kd ps).map V.int))
 nd:(P.map (·.nm)).Nodup
 wf:∀q,q∈P->To P q.bs q.path
 sz:∀q,q∈P->Sgs q.tx/\q.tx.length<=w/\q.path.length<=60/\(∀x,x∈q.path->Sgs x.2/\x.2.length<=w)
 z:P.length<=60
 nm:∀q,q∈P->nmS q.nm=true/\PyData.strOk q.nm=true
theorem yj1:∀{P:qi Pc}{r:Pc},(P.map (·.nm)).Nodup->r∈P->u8 (pcs P) (.inr r.nm)=some (.ref r.ob)
 |q::P,r,hn,hr=>by
  have a:=dI.mp hn;by_cases e:q.nm=r.nm
  .rcases cG.mp hr with z|z
   .subst z;unfold u8 pcs;rw[db,List.find?_cons_of_pos (by simp)];rfl
   .exact absurd (cn.mpr ⟨r,z,e.symm⟩) a.1
  .rcases cG.mp hr with z|z
   .exact absurd (by rw[z]) e
   .unfold u8 pcs;rw[db,List.find?_cons_of_neg (by simpa using e)];exact yj1 a.2 z
def ykv{P:qi Pc}{x:Str}(h:∀q,q∈P->q.nm≠x):u8 (pcs P) (.inr x)=none:=by
 unfold u8 pcs;rw[List.find?_eq_none.mpr λy b=>?_]
 .rfl
 .obtain⟨q,a,e⟩:=cn.mp b;rw[<- e];simpa using h q a
def Ŋ.same{H H':Hp}{d:z4}{n:Nat}{kd:Ξ}{ps:Λ}{w:Nat}{P:qi Pc}(h:Ŋ a H d n kd ps w P)(S:yw H H'):Ŋ a H' d n kd ps w P :=
 ⟨S _ _ h.dk,λq b=>⟨S _ _ (h.ob q b).1,S _ _ (h.ob q b).2⟩,h.nd,h.wf,h.sz,h.z,h.nm⟩
def ysg(x:Str)(t:Ρ)(S:Η):(nmL ((x,t)::S)).reverse=(nmL S).reverse++[.str x]:=by unfold nmL;rw[db,List.reverse_cons]
def To.len{H:Hp}{d:z4}{n:Nat}{kd:Ξ}{ps:Λ}{w:Nat}{P:qi Pc}{x:Φ}(h:Ŋ a H d n kd ps w P)(t:To P x L):L.length<=61:=by
 cases x with
 |none=>rw[show L=[]from t];exact cP _
 |some b =>
  let⟨r,c,_,e⟩:=t;have:=(h.sz r c).2.2.1;rw[e,cj,dm];omega
def Ŋ.get{H:Hp}{d:z4}{n:Nat}{kd:Ξ}{ps:Λ}{w:Nat}{P:qi Pc}{r:Pc}(h:Ŋ a H d n kd ps w P)(hr:r∈P):Ī H d (.str r.nm) (some (.ref r.ob)):=by rw[<- yj1 h.nd hr];exact Ī.k (k:=.inr r.nm) h.dk
def vcy{α:Type}{f:α->Str}{P:qi α}{q r:α}(hn:(P.map f).Nodup)(hq:q∈P)(hr:r∈P)(e:f q=f r):q=r:=by
 induction P with
 |nil=>cases hq
 |cons x P ih =>
  have a:=dI.mp hn;rcases cG.mp hq with z|z<;>rcases cG.mp hr with y|y
  .rw[z,y]
  .exact absurd (cn.mpr ⟨r,y,by rw[<- e,z]⟩) a.1
  .exact absurd (cn.mpr ⟨q,z,by rw[e,y]⟩) a.1
  .exact ih a.2 z y
def vel{P:qi Pc}{q r:Pc}(hn:(P.map (·.nm)).Nodup)(hq:q∈P)(hr:r∈P)(e:q.nm=r.nm):q=r:=vcy hn hq hr e
def To.uniq{P:qi Pc}{x:Φ}(hn:(P.map (·.nm)).Nodup)(h:To P x L)(g:To P x M):L=M:=by
 cases x with
 |none=>rw[show L=[]from h,show M=[]from g]
 |some b =>
  let⟨r,c,f,i⟩:=h;let⟨q,a,d,e⟩:=g;obtain rfl:=vel hn c a (f.trans d.symm);rw[i,e]
theorem To.pre{P:qi Pc}(wf:∀q,q∈P->To P q.bs q.path){b:Str}{t:Ρ}{A:Η}:∀(m:Nat){x:Φ}{B:Η},B.length<=m->To P x (A++[(b,t)]++B)->To P (some b) (A++[(b,t)])
 |m,none,B,_,h=>by
  have e:=congrArg List.length (show A++[(b,t)]++B=[]from h);rw[cj,cj]at e;simp at e
 |m,some c,B,hm,⟨r,hr,e1,e2⟩=>by
  rcases List.eq_nil_or_concat B with z|⟨i,y,z⟩
  .subst z;rw[dZ]at e2;have a:=List.append_inj' e2 rfl;let⟨f,g⟩:=a;cases g;exists r,hr,e1,by rw[f]
  .subst z;rw[List.concat_eq_append]at e2 hm;rw[<- cY]at e2;have a:=(List.append_inj' e2 rfl).1
   cases m with
   |zero=>rw[cj]at hm;simp at hm
   |succ m =>
    have d:=wf r hr;rw[<- a]at d;exact To.pre wf m (by rw[cj,dm]at hm;omega) d
def To.ahead{P:qi Pc}(hn:(P.map (·.nm)).Nodup)(wf:∀q,q∈P->To P q.bs q.path){x y:Φ}(h:To P x L)(g:To P y M)(e:nmL L=(nmL M).take L.length):L=M.take L.length:=by
 cases x with
 |none=>rw[show L=[]from h];rfl
 |some b =>
  let⟨r,m,n,d⟩:=id h;have o:L.length=r.path.length+1:=by rw[d,cj,dm]
  have c:=congrArg List.length e;unfold nmL at c;rw[cK,bI,bI]at c;have a:r.path.length<M.length:=()
  have i:M=M.take r.path.length++[M[r.path.length]]++M.drop (r.path.length+1):=by
   rw[cY,List.singleton_append,<- dC a,dW]
  have k:(M[r.path.length]).1=b:=by
   have z:=congrArg (λl=>l[r.path.length]?) e;unfold nmL at z;simp only[cu,List.getElem?_take]at z;rw[if_pos (),d,dA (cq _),Nat.sub_self,ci a]at z;simp at z;exact z.symm
  have g2:=g;rw[i]at g2;have f:M[r.path.length]=(b,(M[r.path.length]).2):=by rw[<- k]
  rw[f]at g2;have g3:=To.pre wf _ (cq _) g2;have j:=To.uniq hn h g3;rw[j,<- f,<- cM a]
  congr 1
  rw[cK];omega
def Ŋ.getNo{H:Hp}{d:z4}{n:Nat}{kd:Ξ}{ps:Λ}{w:Nat}{P:qi Pc}{x:Str}(h:Ŋ a H d n kd ps w P)(hx:∀q,q∈P->q.nm≠x):Ī H d (.str x) none:=by rw[<- ykv hx];exact Ī.k (k:=.inr x) h.dk
def vdj(P:qi Pc)(b:Str):(∃r,r∈P/\r.nm=b)\/∀q,q∈P->q.nm≠b:=by
 by_cases h:∃r,r∈P/\r.nm=b
 .exact .inl h
 .exact .inr λq a e=>h ⟨q,a,e⟩
theorem To.sz{H:Hp}{d:z4}{n:Nat}{kd:Ξ}{ps:Λ}{w:Nat}{P:qi Pc}{x:Φ}(h:Ŋ a H d n kd ps w P)(t:To P x L):∀y,y∈L->Sgs y.2/\y.2.length<=w:=by
 cases x with
 |none=>intro y c;rw[show L=[]from t]at c;cases c
 |some b =>
  let⟨r,f,_,e⟩:=t;let⟨g,j,_,i⟩:=h.sz r f;intro y c;rw[e]at c;rcases cQ.mp c with z|z
  .exact i y z
  .rw[cJ.mp z];exists g,j
def To.at'{P:qi Pc}(wf:∀q,q∈P->To P q.bs q.path){x:Φ}(t:To P x L)(hj:j<L.length):∃r,r∈P/\L[j]=(r.nm,r.tx)/\r.path=L.take j/\To P (some r.nm) (L.take (j+1)):=by
 have f:L=L.take j++[(L[j].1,L[j].2)]++L.drop (j+1):=by
  rw[cY,List.singleton_append,<- dC hj,dW]
 rw[f]at t;have a:=To.pre wf _ (cq _) t;let⟨r,e,c,h⟩:=id a;let⟨b,d⟩:=List.append_inj' h rfl
 cases r with|mk nm bs path tx ob od dl =>
 simp only at c b d;subst c;have g:L[j].2=tx:=by cases d;rfl
 exists _,e,?_,b.symm,?_
 .show L[j]=(L[j].1,tx);rw[<- g]
 .rw[cM hj];exact a
def To.nms{P:qi Pc}(wf:∀q,q∈P->To P q.bs q.path){x:Φ}(t:To P x L){y:Str×qi Int}(hy:y∈L):∃r,r∈P/\r.nm=y.1:=by let⟨j,c,e⟩:=List.mem_iff_getElem.mp hy;let⟨r,b,a,_⟩:=t.at' wf c;exists r,b,by rw[<- e,a]
def To.ok{H:Hp}{d:z4}{n:Nat}{kd:Ξ}{ps:Λ}{w:Nat}{P:qi Pc}{x:Φ}(h:Ŋ a H d n kd ps w P)(t:To P x L):∀y,y∈L.map (·.1)->PyData.strOk y=true:=λy b=>by
 let⟨u,f,rfl⟩:=cn.mp b;let⟨r,c,e⟩:=t.nms h.wf f;rw[<- e];exact(h.nm r c).2
def ç(L:Η):nmL L=(L.map (·.1)).map V.str:=by unfold nmL;rw[cX];rfl
def ÿ(L:Η)(k:Nat):(nmL L).take k=nmL (L.take k):=by unfold nmL;rw[List.map_take]
def Â(L:Η):(nmL L).length=L.length:=bI _
def yqi(h:L.map (·.1)=M.map (·.1)):nmL L=nmL M:=by rw[ç,ç,h]
theorem ydz{w:Nat}:∀L:qi (Ρ),(∀x,x∈L->x.length<=w)->(Æ L).length<=L.length*(9*w+1)
 |[],_=>cP _
 |t::L,h=>by
  have e:Æ (t::L)=dec t++Æ L:=rfl;have c:=h t cT;have d:=ydz L λx a=>h x (cZ _ a);have b:=ub t;rw[e,cj,cO,Nat.succ_mul];omega
def txi(L:Η)(i:Nat):Ρ:=(L.map (·.2)).getD i []
def mOf(L:Η):Nat:=6+6*(Æ (L.map (·.2))).length
def NK(H:Hp)(ks ks':Υ):Prop:=∀q,V.ref q∈ks'->V.ref q∈ks\/H q=none
def NK.refl{H:Hp}{ks:Υ}:NK H ks ks:=λZ h=>.inl h
def NK.nil{H:Hp}{ks:Υ}:NK H ks []:=λZ h=>nomatch h
def NK.trans{H H1:Hp}{k1 k2 k3:Υ}(h:NK H k1 k2)(g:NK H1 k2 k3)(f:∀q,H1 q=none->H q=none):NK H k1 k3:=λq a=>(g q a).elim (h q) λz=>.inr (f q z)
def NK.app{H:Hp}{ks ks':Υ}{v:V}(h:NK H ks ks')(g:∀q,v=.ref q->H q=none):NK H ks (ks'++[v]):=λq a=>(cQ.mp a).elim (h q) λz=>.inr (g q (cJ.mp z).symm)
def StW(c cl ct:z4)(U:Ν):Ν:=λx=>x=c\/ChW cl ct U x
structure jl(K:z3)(a:Ads)(H:Hp)(st ds ll d c dc p cl ct:z4)(lk tp:Μ)(n:Nat)(kd:Ξ)(ps:Λ)(mo w:Nat)(P:qi Pc)(L:Η)(ks:Υ)(U:Ν):Prop where
 me:H st=some (.ins a.A0 ds (vy (.ref ll) (.int mo) (.ref d) (.ref c)))
 n1:1<=n
 n6:n<=6
 lo:H ll=some (.lst (refs lk n))
 row:xn H n lk kd tp ps
 pz:Ŋ a H d n kd ps w P
 ch:Å K a H c dc p cl ct n kd ps L ks (mOf L) U
 nw:∀x,(x=st\/x=ll\/x=d\/∃q,q∈P/\(x=q.ob\/x=q.dl))->¬StW c cl ct U x
 mo1:mo<=1000
 wm:w<=mo/\w<=200
 way:∃x,To P x L
def Å.but{H H':Hp}{c p ll:z4}{n:Nat}{kd:Ξ}{ps:Λ}{ks:Υ}{M:Nat}{W:Ν}(h:Å K a H c dc p ll tl n kd ps L ks M W){C:z4}{fs:Ι}(hq:H q=some (.ins C dq fs))(nq:¬StW c ll tl W q)(B:But q H H'):Å K a H' c dc p ll tl n kd ps L ks M W:=by
 have b:∀{x:z4}{d:Υ},H x=some (.lst d)->x≠q:=λ{x d}e z=>by rw[z,hq]at e;cases e
 exists B _ _ h.me λz=>nq (.inl z.symm),h.fz.frame (W2:=λx=>x=q) (λx z=>⟨.ins C dq fs,by rw[show x=q from z];exact hq,.inl rfl⟩) (λx w z=>nq (.inr (.inr (.inr (by rw[<- show x=q from z];exact w))))) (λx o e g=>B x o e g),B _ _ h.hl (b h.hl),B _ _ h.ht (b h.ht),h.tx.mono λx d e f=>⟨B _ _ e (b e),f⟩,h.nc,h.nll,h.ntl,h.ne
def yee(L:Η)(x:Str)(t:Ρ):mOf (L++[(x,t)])=mOf L+6*(dec t).length:=by unfold mOf;rw[cA,show List.map (λx:Str×qi Int=>x.2) [(x,t)]=[t]from rfl,ya5,cj];omega
def yeg{w:Nat}(h:∀y,y∈L->y.2.length<=w)(hw:w<=200)(hl:L.length<=61):mOf L<=660000:=by
 have a:=ydz (w:=w) (L.map (·.2)) λx b=>by
  let⟨y,c,rfl⟩:=cn.mp b;exact h y c
 rw[bI]at a;have d:L.length*(9*w+1)<=61*1801:=Nat.mul_le_mul hl ();unfold mOf;omega
def StO(st c cl ct:z4)(U:Ν):Ν:=λy=>y=st\/StW c cl ct U y
def Go.or{W Y:Ν}{H H':Hp}(g:Go W H H' W'):Go (λx=>Y x\/W x) H H' (λx=>Y x\/W' x) :=
 ⟨λc o e a=>g.fr c o e λw=>a (.inr w),λc w=>w.elim (λy=>.inl (.inl y)) λw=>(g.nw c w).imp .inr id,g.lv⟩
def Å.noTup{H:Hp}{c p ll:z4}{n:Nat}{kd:Ξ}{ps:Λ}{ks:Υ}{M:Nat}{W:Ν}(h:Å K a H c dc p ll tl n kd ps L ks M W){x:z4}{xs:Υ}(e:H x=some (.tup xs)):¬StW c ll tl W x:=λw=>by
 rcases w with z|z|z|z
 .rw[z,h.me]at e;cases e
 .rw[z,h.hl]at e;cases e
 .rw[z,h.ht]at e;cases e
 .exact h.fz.sh.tup e z
theorem Å.same{H H':Hp}{c p ll:z4}{n:Nat}{kd:Ξ}{ps:Λ}{ks:Υ}{M:Nat}{W:Ν}(h:Å K a H c dc p ll tl n kd ps L ks M W)(S:yw H H'):Å K a H' c dc p ll tl n kd ps L ks M W :=
 ⟨S _ _ h.me,h.fz.same S,S _ _ h.hl,S _ _ h.ht,h.tx.mono λZ Z e b=>⟨S _ _ e,b⟩,h.nc,h.nll,h.ntl,h.ne⟩
def Ŋ.fr{H H':Hp}{d:z4}{n:Nat}{kd:Ξ}{ps:Λ}{w:Nat}{P:qi Pc}(h:Ŋ a H d n kd ps w P)(f:∀x o,H x=some o->(x=d\/∃q,q∈P/\(x=q.ob\/x=q.dl))->H' x=some o):Ŋ a H' d n kd ps w P :=
 ⟨f _ _ h.dk (.inl rfl),λq b=>⟨f _ _ (h.ob q b).1 (.inr ⟨q,b,.inl rfl⟩),f _ _ (h.ob q b).2 (.inr ⟨q,b,.inr rfl⟩)⟩,h.nd,h.wf,h.sz,h.z,h.nm⟩
def xn.fr{H H':Hp}{n:Nat}{lk:Μ}{kd:Ξ}{ps:Λ}(h:xn H n lk kd tp ps)(f:∀x xs,H x=some (.tup xs)->H' x=some (.tup xs)):xn H' n lk kd tp ps:=λi c=>by
 let⟨q,e,b,d,a⟩:=h i c;exists q,e,f _ _ b,f _ _ d,a
section
variable{H H':Hp}{ll d c p ct:z4}{lk:Μ}{n:Nat}{kd:Ξ}{ps:Λ}{mo w:Nat}{P:qi Pc}{ks:Υ}
theorem jl.same(h:jl K a H st ds ll d c dc p cl ct lk tp n kd ps mo w P L ks U)(S:yw H H'):jl K a H' st ds ll d c dc p cl ct lk tp n kd ps mo w P L ks U :=
 ⟨S _ _ h.me,h.n1,h.n6,S _ _ h.lo,h.row.same S,h.pz.same S,h.ch.same S,h.nw,h.mo1,h.wm,h.way⟩
def jl.lv(h:jl K a H st ds ll d c dc p cl ct lk tp n kd ps mo w P L ks U):∀x,(x=st\/x=ll\/x=d\/∃q,q∈P/\(x=q.ob\/x=q.dl))->∃o,H x=some o:=λx e=>by
 rcases e with z|z|z|⟨q,b,z|z⟩
 .exists _,by rw[z];exact h.me
 .exists _,by rw[z];exact h.lo
 .exists _,by rw[z];exact h.pz.dk
 .exists _,by rw[z];exact(h.pz.ob q b).1
 .exists _,by rw[z];exact(h.pz.ob q b).2
def jl.lvO(h:jl K a H st ds ll d c dc p cl ct lk tp n kd ps mo w P L ks U):∀x,StO st c cl ct U x->∃o,H x=some o:=λx b=>by
 rcases b with z|z|z|z|z
 .exists _,by rw[z];exact h.me
 .exists _,by rw[z];exact h.ch.me
 .exists _,by rw[z];exact h.ch.hl
 .exists _,by rw[z];exact h.ch.ht
 .exact h.ch.fz.live x z
def jl.go(h:jl K a H st ds ll d c dc p cl ct lk tp n kd ps mo w P L ks U){ks':Υ}(hc:Å K a H' c dc p cl ct n kd ps M ks' (mOf M) U')(g:Go (ChW cl ct U) H H' (ChW cl ct U'))(way:∃x,To P x M):jl K a H' st ds ll d c dc p cl ct lk tp n kd ps mo w P M ks' U'/\Go (StO st c cl ct U) H H' (StO st c cl ct U'):=by have g1:Go (StW c cl ct U) H H' (StW c cl ct U'):=g.or (Y:=λx=>x=c);have f:∀x o,H x=some o->(x=st\/x=ll\/x=d\/∃q,q∈P/\(x=q.ob\/x=q.dl))->H' x=some o:=λx o e b=>g1.fr x o e (h.nw x b);exists⟨f _ _ h.me (.inl rfl),h.n1,h.n6,f _ _ h.lo (.inr (.inl rfl)),h.row.fr λx i e=>g1.fr _ _ e (h.ch.noTup e),h.pz.fr λx o e z=>f x o e (.inr (.inr z)),hc,g1.apart (λx b=>h.lv x b) h.nw,h.mo1,h.wm,way⟩,g1.or (Y:=λx=>x=st)
structure StB(a:Ads)(H:Hp)(st ds ll d:z4)(vc:V)(lk tp:Μ)(n:Nat)(kd:Ξ)(ps:Λ)(mo w:Nat)(P:qi Pc):Prop where
 me:H st=some (.ins a.A0 ds (vy (.ref ll) (.int mo) (.ref d) vc))
 n1:1<=n
 n6:n<=6
 lo:H ll=some (.lst (refs lk n))
 row:xn H n lk kd tp ps
 pz:Ŋ a H d n kd ps w P
 mo1:mo<=1000
 wm:w<=mo/\w<=200
def jl.b(h:jl K a H st ds ll d c dc p cl ct lk tp n kd ps mo w P L ks U):StB a H st ds ll d (.ref c) lk tp n kd ps mo w P:=⟨h.me,h.n1,h.n6,h.lo,h.row,h.pz,h.mo1,h.wm⟩
def StB.lv{vc:V}(h:StB a H st ds ll d vc lk tp n kd ps mo w P):∀x,(x=st\/x=ll\/x=d\/∃q,q∈P/\(x=q.ob\/x=q.dl))->∃o,H x=some o:=λx c=>by
 rcases c with z|z|z|⟨q,b,z|z⟩
 .exists _,by rw[z];exact h.me
 .exists _,by rw[z];exact h.lo
 .exists _,by rw[z];exact h.pz.dk
 .exists _,by rw[z];exact(h.pz.ob q b).1
 .exists _,by rw[z];exact(h.pz.ob q b).2
def Go.wide{W:Ν}(g:Go W H H' W')(f:∀x,W x->W2 x):Go W2 H H' W':=⟨λc o e a=>g.fr c o e λw=>a (f c w),λc w=>(g.nw c w).imp (f c) id,g.lv⟩
def StB.re{vc:V}(h:StB a H st ds ll d vc lk tp n kd ps mo w P){dc' p':z4}{HE:Hp}(nc:H c'=none)(ndc:H dc'=none)(hch:Å K a HE c' dc' p' cl' ct' n kd ps [] [] 6 U')(hnew:∀x,ChW cl' ct' U' x->(upd (upd H dc' (.own c')) c' (.ins a.A2 dc' [])) x=none)(BE:But c' (upd (upd H dc' (.own c')) c' (.ins a.A2 dc' [])) HE):
  jl K a (upd HE st (.ins a.A0 ds (vy (.ref ll) (.int mo) (.ref d) (.ref c')))) st ds ll d c' dc' p' cl' ct' lk tp n kd ps mo w P [] [] U'/\Go (λy=>y=st) H (upd HE st (.ins a.A0 ds (vy (.ref ll) (.int mo) (.ref d) (.ref c')))) (StO st c' cl' ct' U')/\yw H HE/\∀x,StW c' cl' ct' U' x->H x=none:=by
 have l:yw H (upd (upd H dc' (.own c')) c' (.ins a.A2 dc' [])):=λb o e=>by rw[yk (yb e nc),yk (yb e ndc)];exact e
 have f:yw H HE:=λb o e=>BE _ _ (l _ _ e) (yb e nc)
 have k:∀x,StW c' cl' ct' U' x->H x=none:=λx w=>by
  rcases w with z|z
  .rw[z];exact nc
  .exact l.free (hnew x z)
 have g:∀{x:z4}{o:HO},H x=some o->¬StW c' cl' ct' U' x:=λ{x o}e w=>by rw[k x w]at e;cases e
 have c:=h.me;have m:∀{x:z4}{j:Υ},H x=some (.lst j)->x≠st:=λ{x j}e z=>by rw[z,c]at e;cases e
 exists⟨ya,h.n1,h.n6,ye (m h.lo) (f _ _ h.lo),h.row.fr λx j e=>ye (λz=>by rw[z,c]at e;cases e) (f _ _ e),⟨ye (λz=>?_) (f _ _ h.pz.dk),λq i=>⟨ye (λz=>?_) (f _ _ (h.pz.ob q i).1),ye (m (h.pz.ob q i).2) (f _ _ (h.pz.ob q i).2)⟩,h.pz.nd,h.pz.wf,h.pz.sz,h.pz.z,h.pz.nm⟩,hch.but (f _ _ c) (g c) But.upd,λx r=>?_,h.mo1,h.wm,⟨none,rfl⟩⟩,⟨λx o e p=>ye p (f _ _ e),λx w=>?_,λx o e=>?_⟩,f,k
 .have e:=h.pz.dk;rw[z,c]at e;cases e
 .have e:=(h.pz.ob q i).1;rw[z,c]at e;injection e with e;injection e with _ _ e;have s:=congrArg List.length e;exact absurd (show (4:Nat)=2 from s) ∅
 .obtain⟨o,e⟩:=h.lv x r;exact g e
 .rcases w with z|z
  .exact .inl z
  .exact .inr (k x z)
 .by_cases z:x=st
  .exists _,by rw[z];exact ya
  .exists o,ye z (f _ _ e)
theorem jl.re(h:jl K a H st ds ll d c dc p cl ct lk tp n kd ps mo w P L ks U){dc' p':z4}{HE:Hp}(nc:H c'=none)(ndc:H dc'=none)(hch:Å K a HE c' dc' p' cl' ct' n kd ps [] [] 6 U')(hnew:∀x,ChW cl' ct' U' x->(upd (upd H dc' (.own c')) c' (.ins a.A2 dc' [])) x=none)(BE:But c' (upd (upd H dc' (.own c')) c' (.ins a.A2 dc' [])) HE):
  jl K a (upd HE st (.ins a.A0 ds (vy (.ref ll) (.int mo) (.ref d) (.ref c')))) st ds ll d c' dc' p' cl' ct' lk tp n kd ps mo w P [] [] U'/\Go (StO st c cl ct U) H (upd HE st (.ins a.A0 ds (vy (.ref ll) (.int mo) (.ref d) (.ref c')))) (StO st c' cl' ct' U')/\yw H HE/\∀x,StW c' cl' ct' U' x->H x=none:=by let⟨f,g,e⟩:=h.b.re nc ndc hch hnew BE;exists f,g.wide λZ z=>.inl z,e
def To.less{b:Str}{x:Φ}(h:To P x M)(hx:x≠some b):To (P.filter λq=>decide (q.nm≠b)) x M:=by
 cases x with
 |none=>exact h
 |some y =>
  let⟨r,d,a,c⟩:=h;exists r,List.mem_filter.mpr ⟨d,cz λz=>hx ?_⟩,a,c;rw[<- a,z]
def yl2(b:Str):∀P:qi Pc,ø (pcs P) (.inr b)=pcs (P.filter λq=>decide (q.nm≠b)):=λP=>by
 unfold ø pcs;rw[List.filter_map]
 congr 1
 refine List.filter_congr λq Z=>?_;by_cases e:q.nm=b
 .simp[e]
 .simp[e]
def StB.drop{vc:V}(h:StB a H st ds ll d vc lk tp n kd ps mo w P){b:Str}(hb:∀q,q∈P->q.bs≠some b):StB a (upd H d (.dK (ø (pcs P) (.inr b)))) st ds ll d vc lk tp n kd ps mo w (P.filter λq=>decide (q.nm≠b)):=by
 have j:=h.pz.dk;have f:∀{x:z4}{o:HO},H x=some o->o≠.dK (pcs P)->(upd H d (.dK (ø (pcs P) (.inr b)))) x=some o:=λ{x o}e i=>ye (λz=>by rw[z,j]at e;cases e;exact i rfl) e;have g:∀{q:Pc},q∈(P.filter λq=>decide (q.nm≠b))->q∈P:=λc=>(List.mem_filter.mp c).1
 exists f h.me (λz=>nomatch z),h.n1,h.n6,f h.lo (λz=>nomatch z),h.row.fr λx k e=>f e (λz=>nomatch z),⟨by rw[<- yl2];exact ya,λq c=>⟨f (h.pz.ob q (g c)).1 (λz=>nomatch z),f (h.pz.ob q (g c)).2 (λz=>nomatch z)⟩,h.pz.nd.sublist (List.filter_sublist.map _),λq c=>(h.pz.wf q (g c)).less (hb q (g c)),λq c=>h.pz.sz q (g c),de (List.length_filter_le _ _) h.pz.z,λq c=>h.pz.nm q (g c)⟩,h.mo1,h.wm
end
structure Pd where
 nm:Str
 bs:Φ
 path:Η
 tx:Ρ
def Pc.pd(q:Pc):Pd:=⟨q.nm,q.bs,q.path,q.tx⟩
structure Cf where
 n:Nat
 kd:Ξ
 ps:Λ
 mo:Nat
 w:Nat
def Pd.by(C:Cf)(q:Pd):Ρ:=zl C.n C.kd C.ps (Æ (q.path.map (·.2))) q.tx
def ToD(P:qi Pd):qj Str->qi (Str×qi Int)->Prop
 |none,L=>L=[]
 |some b,L=>∃r,r∈P/\r.nm=b/\L=r.path++[(b,r.tx)]
def æ{Q:qi Pc}{x:Φ}:ToD (Q.map Pc.pd) x L↔To Q x L:=by
 cases x with
 |none=>exact Iff.rfl
 |some b =>
  exists λ⟨r,a,e⟩=>?_,λ⟨r,a,e⟩=>⟨_,cn.mpr ⟨r,a,rfl⟩,e⟩;let⟨q,c,rfl⟩:=cn.mp a;exact⟨q,c,e⟩
def okN(x:Str):Prop:=nmS x=true/\PyData.strOk x=true
def WD(d st c cl ct:z4)(U:Ν):Ν:=λy=>y=d\/StO st c cl ct U y
structure Sx where
 w:Ν
 f:Ν
def yn5(d st c cl ct:z4)(U:Ν)(ll:z4)(Q:qi Pc)(ks:Υ):Sx :=
 ⟨WD d st c cl ct U,λy=>WD d st c cl ct U y\/y=ll\/(∃q,q∈Q/\(y=q.ob\/y=q.dl))\/V.ref y∈ks⟩
inductive Sto(K:z3)(a:Ads)(H:Hp)(st:z4)(C:Cf)(P:qi Pd)(X:Sx):Prop
 |mk(ds ll d c dc p cl ct:z4)(lk tp:Μ)(Q:qi Pc)(L:Η)(ks:Υ)(U:Ν)(s:jl K a H st ds ll d c dc p cl ct lk tp C.n C.kd C.ps C.mo C.w Q L ks U)(e:Q.map Pc.pd=P)(x:X=yn5 d st c cl ct U ll Q ks)
structure Gx(X:Sx)(H H':Hp)(Y:Sx):Prop where
 g:Go X.w H H' Y.w
 f:∀y,Y.f y->X.f y\/H y=none
theorem Gx.same{X Y:Sx}{H H1 H2:Hp}(h:Gx X H H1 Y)(S:yw H1 H2):Gx X H H2 Y:=⟨h.g.same S,h.f⟩
theorem Gx.ahead{X Y:Sx}{H H1 H2:Hp}(S:yw H H1)(h:Gx X H1 H2 Y):Gx X H H2 Y:=⟨h.g.ahead S,λy w=>(h.f y w).imp id S.free⟩
theorem Gx.trans{X Y Z:Sx}{H H1 H2:Hp}(h:Gx X H H1 Y)(k:Gx Y H1 H2 Z):Gx X H H2 Z:=⟨h.g.trans k.g,λy w=>(k.f y w).elim (h.f y) λe=>.inr (h.g.free e)⟩
def Kf(H:Hp)(X:Sx)(x:z4)(o:HO):Prop:=H x=some o/\¬X.f x
section
variable{B H H':Hp}{C:Cf}{P:qi Pd}{X Y:Sx}
theorem Sto.same(h:Sto K a H st C P X)(S:yw H H'):Sto K a H' st C P X:=by let⟨f,j,d,c,m,p,k,g,b,l,Q,L,i,U,s,e,x⟩:=h;exists f,j,d,c,m,p,k,g,b,l,Q,L,i,U,s.same S,e,x
def Sto.live(h:Sto K a H st C P X):∀y,X.f y->∃o,H y=some o:=λy g=>by
 let⟨k,n,d,c,u,p,r,l,j,t,Q,L,m,U,s,rfl,rfl⟩:=h;rcases g with(z|z)|z|⟨q,b,z⟩|z
 .exists _,by rw[z];exact s.pz.dk
 .exact s.lvO y z
 .exists _,by rw[z];exact s.lo
 .exact s.lv y (.inr (.inr (.inr ⟨q,b,z⟩)))
 .rcases s.ch.tx.mem _ z with e|⟨q,i,e,b,_⟩
  .cases e
  .cases e;exists _,b
def Sto.wf(h:Sto K a H st C P X):∀y,X.w y->X.f y:=λy b=>by
 let⟨g,k,d,c,n,p,l,i,e,m,Q,L,j,U,s,rfl,rfl⟩:=h;exact .inl b
theorem Sto.ins(h:Sto K a H st C P X):∃ds vl vm vp vc,H st=some (.ins a.A0 ds (vy vl vm vp vc)):=by let⟨ds,g,d,c,k,p,i,e,b,j,Q,L,f,U,s,rfl,rfl⟩:=h;exists _,_,_,_,_,s.me
def Sto.me(h:Sto K a H st C P X):X.f st:=by let⟨e,j,d,c,m,p,k,g,b,l,Q,L,i,U,s,rfl,rfl⟩:=h;exact .inl (.inr (.inl rfl))
def vex(Q:qi Pc):(Q.map Pc.pd).map (·.nm)=Q.map (·.nm):=by rw[cX];rfl
theorem Sto.nd(h:Sto K a H st C P X):(P.map (·.nm)).Nodup:=by let⟨e,i,d,c,l,p,j,f,b,k,Q,L,g,U,s,rfl,rfl⟩:=h;rw[vex];exact s.pz.nd
theorem Sto.z(h:Sto K a H st C P X):P.length<=60:=by let⟨e,i,d,c,l,p,j,f,b,k,Q,L,g,U,s,rfl,rfl⟩:=h;rw[bI];exact s.pz.z
theorem Sto.nm(h:Sto K a H st C P X):∀q,q∈P->okN q.nm:=λq b=>by
 let⟨g,k,d,c,n,p,l,j,f,m,Q,L,i,U,s,rfl,rfl⟩:=h;let⟨r,e,rfl⟩:=cn.mp b;exact s.pz.nm r e
def Sto.to(h:Sto K a H st C P X):∀q,q∈P->ToD P q.bs q.path:=λq b=>by
 let⟨g,k,d,c,n,p,l,j,f,m,Q,L,i,U,s,rfl,rfl⟩:=h;let⟨r,e,rfl⟩:=cn.mp b;exact æ.mpr (s.pz.wf r e)
theorem Sto.sz(h:Sto K a H st C P X):∀q,q∈P->Sgs q.tx/\q.tx.length<=C.w/\q.path.length<=60/\(∀x,x∈q.path->Sgs x.2/\x.2.length<=C.w):=λq b=>by
 let⟨g,k,d,c,n,p,l,j,f,m,Q,L,i,U,s,rfl,rfl⟩:=h;let⟨r,e,rfl⟩:=cn.mp b;exact s.pz.sz r e
def Sto.cf(h:Sto K a H st C P X):1<=C.n/\C.n<=6/\C.mo<=1000/\C.w<=C.mo/\C.w<=200:=by let⟨e,i,d,c,l,p,j,f,b,k,Q,L,g,U,s,rfl,rfl⟩:=h;exists s.n1,s.n6,s.mo1,s.wm.1,s.wm.2
theorem Sto.sh(h:Sto K a H st C P X):WSh H X.w:=λy i=>by
 let⟨j,n,d,c,t,p,o,m,k,r,Q,L,l,U,s,rfl,rfl⟩:=h;rcases i with z|z|z|z|z|z
 .exists _,by rw[z];exact s.pz.dk,.inl rfl
 .exists _,by rw[z];exact s.me,.inl rfl
 .exists _,by rw[z];exact s.ch.me,.inl rfl
 .exists _,by rw[z];exact s.ch.hl,.inr ⟨_,rfl,λv b=>?_⟩
  let⟨u,_,e⟩:=cn.mp b;exact .inl ⟨u.1,e.symm⟩
 .exists _,by rw[z];exact s.ch.ht,.inr ⟨_,rfl,λv b=>.inr ?_⟩
  exact(s.ch.tx.mem v b).imp id λ⟨q,g,e,f,_⟩=>⟨q,e,.inl ⟨g,f⟩⟩
 .exact s.ch.fz.sh y z
theorem Sto.frame(h:Sto K a H st C P X)(sh:WSh H W2)(dj:∀y,X.f y->¬W2 y)(fr:∀y o,H y=some o->¬W2 y->H' y=some o):Sto K a H' st C P X:=by
 let⟨x,m,d,c,F,p,i,g,A,E,Q,L,j,U,s,rfl,rfl⟩:=h;have f:∀{y:z4}{o:HO},H y=some o->(yn5 d st c i g U m Q j).f y->H' y=some o:=λ{y o}e w=>fr y o e (dj y w);exists x,m,d,c,F,p,i,g,A,E,Q,L,j,U,⟨f s.me (.inl (.inr (.inl rfl))),s.n1,s.n6,f s.lo (.inr (.inl rfl)),s.row.fr λy G e=>fr _ _ e (sh.tup e),s.pz.fr λy o e z=>f e (z.elim (λz=>.inl (.inl z)) λz=>.inr (.inr (.inl z))),⟨f s.ch.me (.inl (.inr (.inr (.inl rfl)))),s.ch.fz.frame sh (λy w=>dj y (.inl (.inr (.inr (.inr (.inr (.inr w))))))) fr,f s.ch.hl (.inl (.inr (.inr (.inr (.inl rfl))))),f s.ch.ht (.inl (.inr (.inr (.inr (.inr (.inl rfl)))))),?_,s.ch.nc,s.ch.nll,s.ch.ntl,s.ch.ne⟩,s.nw,s.mo1,s.wm,s.way⟩,rfl,rfl
 have l:∀{L:Η}{b:Υ},(∀v,v∈b->v∈j)->yab H (ChW i g U) L b->yab H' (ChW i g U) L b:=by
  intro L
  induction L with
  |nil=>intro b _ h;exact h
  |cons y r ih =>
   rintro b n ⟨k,D,rfl,z,h⟩;exists k,D,rfl,z.imp id λ⟨q,e,t,B⟩=>⟨q,e,f t (.inr (.inr (.inr ?_))),B⟩,ih (λv u=>n v (cZ _ u)) h;rw[<- e];exact n _ cT
 exact l (λZ h=>h) s.ch.tx
def Sto.but(h:Sto K a H st C P X)(sh:WSh H λz=>z=y)(ny:¬X.f y)(b:But y H H'):Sto K a H' st C P X :=
 h.frame sh (λz w e=>ny (by rw[<- e];exact w)) λz o e c=>b z o e c
def WSh.mu{o:HO}(e:H y=some o)(ho:yq0 o=true):WSh H λz=>z=y:=λz w=>⟨o,by rw[w];exact e,.inl ho⟩
def Kf.go{x:z4}{o:HO}(h:Kf H X x o)(s:Sto K a H st C P X)(g:Gx X H H' Y):Kf H' Y x o :=
 ⟨g.g.fr _ _ h.1 λw=>h.2 (s.wf _ w),λw=>(g.f x w).elim h.2 λe=>by rw[h.1]at e;cases e⟩
def Kf.same{x:z4}{o:HO}(h:Kf H X x o)(S:yw H H'):Kf H' X x o:=⟨S _ _ h.1,h.2⟩
def Kf.new{x:z4}{o:HO}(s:Sto K a H st C P X)(hx:H x=none)(e:H' x=some o):Kf H' X x o:=⟨e,λw=>by
 let⟨c,b⟩:=s.live x w;rw[hx]at b;cases b⟩
def Gx.bs(s:Sto K a H st C P X)(g:Gx X H H' Y)(S:yw B H)(nb:∀y,X.f y->B y=none):yw B H'/\∀y,Y.f y->B y=none :=
 ⟨λy o e=>g.g.fr _ _ (S _ _ e) (λw=>by rw[nb y (s.wf y w)]at e;cases e),λy w=>(g.f y w).elim (nb y) S.free⟩
def Sep(X Y:Sx):Prop:=∀y,X.f y->¬Y.f y
def Sep.symm(h:Sep X Y):Sep Y X:=λy w v=>h y v w
def Sto.oth{C2:Cf}{P2:qi Pd}{X2 Y2:Sx}(h:Sto K a H st C P X)(h2:Sto K a H st2 C2 P2 X2)(sp:Sep X X2)(g:Gx X2 H H' Y2):Sto K a H' st C P X/\Sep X Y2 :=
 ⟨h.frame h2.sh (λy w v=>sp y w (h2.wf y v)) g.g.fr,λy w v=>(g.f y v).elim (sp y w) λe=>by
  let⟨o,b⟩:=h.live y w;rw[e]at b;cases b⟩
def Gx.of{d c ct ll:z4}{Q Q':qi Pc}{ks ks':Υ}(g:Go (WD d st c cl ct U) H H' (WD d st c' cl' ct' U'))(nk:NK H ks ks')(hq:∀q,q∈Q'->q∈Q\/(H q.ob=none/\H q.dl=none)):Gx (yn5 d st c cl ct U ll Q ks) H H' (yn5 d st c' cl' ct' U' ll Q' ks'):=by
 exists g,λy w=>?_;rcases w with z|z|⟨q,h,z⟩|z
 .exact(g.nw y z).imp .inl id
 .exact .inl (.inr (.inl z))
 .rcases hq q h with a|⟨b,e⟩
  .exact .inl (.inr (.inr (.inl ⟨q,a,z⟩)))
  .rcases z with z|z
   .rw[z];exact .inr b
   .rw[z];exact .inr e
 .exact(nk y z).imp (λz=>.inr (.inr (.inr z))) id
end
def x8{P:qi Pd}{q r:Pd}(hn:(P.map (·.nm)).Nodup)(hq:q∈P)(hr:r∈P)(e:q.nm=r.nm):q=r:=vcy hn hq hr e
def ToD.uniq{P:qi Pd}{x:Φ}(hn:(P.map (·.nm)).Nodup)(h:ToD P x L)(g:ToD P x M):L=M:=by
 cases x with
 |none=>rw[show L=[]from h,show M=[]from g]
 |some b =>
  let⟨r,c,f,i⟩:=h;let⟨q,a,d,e⟩:=g;obtain rfl:=x8 hn c a (f.trans d.symm);rw[i,e]
section
variable{B H H':Hp}{C:Cf}{P:qi Pd}{X Y:Sx}
theorem Sto.frameI(h:Sto K a H st C P X)(sh:yqv H W2)(dj:∀y,X.f y->¬W2 y)(fr:∀y o,H y=some o->¬W2 y->H' y=some o):Sto K a H' st C P X:=by
 let⟨x,m,d,c,F,p,i,g,A,E,Q,L,j,U,s,rfl,rfl⟩:=h;have f:∀{y:z4}{o:HO},H y=some o->(yn5 d st c i g U m Q j).f y->H' y=some o:=λ{y o}e w=>fr y o e (dj y w);exists x,m,d,c,F,p,i,g,A,E,Q,L,j,U,⟨f s.me (.inl (.inr (.inl rfl))),s.n1,s.n6,f s.lo (.inr (.inl rfl)),s.row.fr λy G e=>fr _ _ e (sh.tup e),s.pz.fr λy o e z=>f e (z.elim (λz=>.inl (.inl z)) λz=>.inr (.inr (.inl z))),⟨f s.ch.me (.inl (.inr (.inr (.inl rfl)))),s.ch.fz.frameI (xy _) sh (λy w=>dj y (.inl (.inr (.inr (.inr (.inr (.inr w))))))) fr,f s.ch.hl (.inl (.inr (.inr (.inr (.inl rfl))))),f s.ch.ht (.inl (.inr (.inr (.inr (.inr (.inl rfl)))))),?_,s.ch.nc,s.ch.nll,s.ch.ntl,s.ch.ne⟩,s.nw,s.mo1,s.wm,s.way⟩,rfl,rfl
 have l:∀{L:Η}{b:Υ},(∀v,v∈b->v∈j)->yab H (ChW i g U) L b->yab H' (ChW i g U) L b:=by
  intro L
  induction L with
  |nil=>intro b _ h;exact h
  |cons y r ih =>
   rintro b n ⟨k,D,rfl,z,h⟩;exists k,D,rfl,z.imp id λ⟨q,e,t,B⟩=>⟨q,e,f t (.inr (.inr (.inr ?_))),B⟩,ih (λv u=>n v (cZ _ u)) h;rw[<- e];exact n _ cT
 exact l (λZ h=>h) s.ch.tx
def Sto.butI(h:Sto K a H st C P X){ns:Ρ}(e:H y=some (.lst (ns.map V.int)))(hn:∀x∈ns,x<256)(ny:¬X.f y)(b:But y H H'):Sto K a H' st C P X :=
 h.frameI (W2:=λz=>z=y) (λz w=>⟨.lst (ns.map V.int),by rw[show z=y from w];exact e,.inr ⟨_,rfl,λx g=>by
  let⟨i,d,rfl⟩:=cn.mp g;exact .inr (.inr (.inr ⟨i,rfl,hn i d⟩))⟩⟩) (λz w e=>ny (by rw[<- show z=y from e];exact w)) λz o e c=>b z o e c
end
theorem yi7{α:Type}[DecidableEq α]:∀{l m:qi α},l.Nodup->(∀x,x∈l->x∈m)->l.length<=m.length
 |[],_,_,_=>cP _
 |x::l,m,hn,h=>by
  have a:=dI.mp hn;have b:=h x cT;have d:l.length<=(m.erase x).length:=yi7 a.2 λy c=>(List.mem_erase_of_ne (λe=>a.1 (by rw[<- e];exact c))).mpr (h y (cZ _ c));rw[List.length_erase_of_mem b]at d;have:=List.length_pos_of_mem b;rw[cO];omega
def Pd.pc(q:Pd):Pc:=⟨q.nm,q.bs,q.path,q.tx,0,0,0⟩
def vcw(P:qi Pd):(P.map Pd.pc).map Pc.pd=P:=by rw[cX];exact List.map_id _
structure PdW(P:qi Pd):Prop where
 nd:(P.map (·.nm)).Nodup
 wf:∀q,q∈P->ToD P q.bs q.path
theorem ToD.pc{P:qi Pd}{x:Φ}(h:ToD P x L):To (P.map Pd.pc) x L:=æ.mp (by rw[vcw];exact h)
theorem ToD.at{P:qi Pd}(w:PdW P){x:Φ}(t:ToD P x L)(hj:j<L.length):∃r,r∈P/\L[j]=(r.nm,r.tx)/\r.path=L.take j/\ToD P (some r.nm) (L.take (j+1)):=by
 let⟨r,c,d,f,e⟩:=To.at' (λq b=>by
  let⟨u,a,rfl⟩:=cn.mp b;exact(w.wf u a).pc) t.pc hj
 let⟨u,a,rfl⟩:=cn.mp c;exists u,a,d,f,?_;have:=æ.mpr e;rw[vcw]at this;exact this
def ToD.len{P:qi Pd}(w:PdW P){x:Φ}(t:ToD P x L):L.length<=P.length:=by
 have h:=yi7 (l:=L.map (·.1)) (m:=P.map (·.nm)) ?_ ?_
 .rw[bI,bI]at h;exact h
 .refine List.pairwise_iff_getElem.mpr λi j d a g e=>?_;rw[bI]at d a;rw[dv,dv]at e;let⟨r,b,c,f,_⟩:=t.at w d;let⟨u,n,g1,g2,_⟩:=t.at w a;rw[c,g1]at e;have:=x8 w.nd b n e;rw[this,g2]at f;have p:=congrArg List.length f;rw[cK,cK]at p;omega
 .intro y k;let⟨z,o,rfl⟩:=cn.mp k;let⟨j,a,rfl⟩:=List.mem_iff_getElem.mp o;let⟨r,b,c,_⟩:=t.at w a;rw[c];exact cn.mpr ⟨r,b,rfl⟩
def Sto.pw{H:Hp}{C:Cf}{P:qi Pd}{X:Sx}(h:Sto K a H st C P X):PdW P:=⟨h.nd,h.to⟩
structure Bs(B H:Hp)(X:Sx):Prop where
 s:yw B H
 n:∀y,X.f y->B y=none
def Bs.same{B H H':Hp}{X:Sx}(h:Bs B H X)(S:yw H H'):Bs B H' X:=⟨h.s.trans S,h.n⟩
def Bs.go{B H H':Hp}{C:Cf}{P:qi Pd}{X Y:Sx}(h:Bs B H X)(s:Sto K a H st C P X)(g:Gx X H H' Y):Bs B H' Y:=⟨(g.bs s h.s h.n).1,(g.bs s h.s h.n).2⟩
def Bs.but{B H H':Hp}{X:Sx}(h:Bs B H X)(ny:B y=none)(b:But y H H'):Bs B H' X:=⟨λx o e=>b _ _ (h.s _ _ e) (yb e ny),h.n⟩
def Bs.mk'{H:Hp}{C:Cf}{P:qi Pd}{X:Sx}(_:Sto K a H st C P X)(md:z4):∃B:Hp,Bs B H X/\B md=none/\∀x o,H x=some o->¬X.f x->x≠md->B x=some o:=by
 classical
 exists λx=>if X.f x\/x=md then none else H x,⟨λy o e=>?_,λy w=>?_⟩,?_,λx o e b c=>?_
 .by_cases z:X.f y\/y=md
  .rw[if_pos z]at e;cases e
  .rw[if_neg z]at e;exact e
 .exact if_pos (.inl w)
 .exact if_pos (.inr rfl)
 .show (if X.f x\/x=md then none else H x)=some o;rw[if_neg λz=>z.elim b c];exact e
def mdK(tu:Str->z4)(P:qi Pd):Κ:=P.map λq=>(.inr q.nm,.ref (tu q.nm))
theorem ypn(tu:Str->z4):∀{P:qi Pd}{q:Pd},q∈P->u8 (mdK tu P) (.inr q.nm)=some (.ref (tu q.nm))
 |r::P,q,hq=>by
  unfold u8 mdK;rw[db];by_cases e:r.nm=q.nm
  .rw[List.find?_cons_of_pos (by simp[e]),<- e];rfl
  .rw[List.find?_cons_of_neg (by simpa using e)];rcases cG.mp hq with z|z
   .exact absurd (by rw[z]) e
   .exact ypn tu z
def vcj(tu:Str->z4){P:qi Pd}{b:Str}(h:∀q,q∈P->q.nm≠b):u8 (mdK tu P) (.inr b)=none:=by
 unfold u8 mdK;rw[List.find?_eq_none.mpr λy c=>?_]
 .rfl
 .obtain⟨q,a,e⟩:=cn.mp c;rw[<- e];simpa using h q a
def DkF(H:Hp)(md:z4)(kvs:Κ):Prop:=H md=some (.dK kvs)\/∃o,H md=some (.frz o (.dK kvs))
def DkF.get{H:Hp}{md:z4}{kvs:Κ}(h:DkF H md kvs)(b:Str):Ī H md (.str b) (u8 kvs (.inr b)):=.inl ⟨kvs,.inr b,h,rfl,rfl⟩
structure Mdl(H:Hp)(X:Sx)(md:z4)(P:qi Pd)(tu tx:Str->z4):Prop where
 d:DkF H md (mdK tu P)
 n:¬X.f md
 t:∀q,q∈P->Kf H X (tu q.nm) (.tup [.ref (tx q.nm),baV q.bs])
 x:∀q,q∈P->Kf H X (tx q.nm) (.lst (q.tx.map V.int))
def upS(g:Str->z4)(b:Str)(x:z4):Str->z4:=λs=>if s=b then x else g s
def yeo{g:Str->z4}{b:Str}{x:z4}:upS g b x b=x:=if_pos rfl
def yke{g:Str->z4}{b s:Str}{x:z4}(h:s≠b):upS g b x s=g s:=if_neg h
def ü(tu:Str->z4)(P:qi Pd):((mdK tu P).map λp=>kV p.1)=(P.map (·.nm)).map V.str:=by unfold mdK;rw[cX,cX];rfl
def yjk{tu:Str->z4}{P:qi Pd}{q:Pd}{t:z4}(hno:∀r,r∈P->r.nm≠q.nm):ö (mdK tu P) (.inr q.nm) (.ref t)=mdK (upS tu q.nm t) (P++[q]):=by
 rw[jb _ (vcj tu hno)];unfold mdK;rw[cA,List.map_singleton,yeo]
 congr 1
 exact List.map_congr_left λr a=>by rw[yke (hno r a)]
def FZ.readN{H:Hp}{p:z4}{n:Nat}{kd:Ξ}{ps:Λ}{pre:Ρ}{M:Nat}{W:Ν}{Q:VK}{E:XK}{dt:z4}{d:Ρ}{mo:Nat}(h:FZ K a H p n kd ps pre M W)(hdt:H dt=some (.lst (d.map V.int)))(ndt:¬W dt)(hd:Byt d)(hdl:d.length<=12000)(hmo:mo<=1000)(hM:M+54*mo+200<1000000)
  (no:∀ts bs,Sgs ts->ts.length<=mo->d≠zl n kd ps pre ts++bs) (k:∀H',(∀c o,H c=some o->¬W c->H' c=some o)->E (.ref a.Dz) none H'):Ĕ K a [.ref p,.ref dt,.int mo] H Q E:=by
 let⟨A,f,O,m,q,D,F,rfl,rfl,rfl,B,u,i⟩:=h;exists p,A,_,f,O,m,dt,d,mo,rfl,q,hdt,λz=>ndt ((i _).mpr (.inr (.inr (.inr (.inr z))))),hd,hdl,hmo,(),by rw[u];decide,by rw[B];exact cP _,λN t r s C H' v g Z Z Z Z Z Z=>?_,λZ s C H' y=>k H' λc o e l=>?_
 .rw[ROk.fa0]at g;have e:=(yg8 (kd:=A.kd) g).1;refine absurd ?_ (no (rtx (fa0 A.n A.ps) d (rS A.n A.kd A.ps pre) N) (d.drop (rTL (fa0 A.n A.ps) d (rS A.n A.kd A.ps pre) N)) (yt1 _ _ _ _) (by rw[ê];exact v));rw[e,dW]
 .have b:¬yqx p A O c:=λw=>l ((i c).mpr w);exact y.fr c o e (λz=>b (.inl z)) (λz=>b (.inr (.inl z))) (λz=>b (.inr (.inr (.inr (.inr z))))) λj x w=>b (.inr (.inr (.inr (.inl ⟨j,x,w⟩))))
#synth yzz ["self","looks"] yve
inductive yh3(K:z3)(a:Ads)(vs:Υ)(H:Hp)(Q:VK)(E':XK):Prop
 |mk(c dc l:z4)(n:Nat)(lk tp:Μ)(kd:Ξ)(ps:Λ)(_:vs=[.ref c,.ref l])(_:H c=some (.ins a.A2 dc []))(_:H l=some (.lst (refs lk n)))(_:1<=n)(_:n<=6)(_:xn H n lk kd tp ps)(_:∀(p ll tl:z4)(W:Ν)(H':Hp),Å K a H' c dc p ll tl n kd ps [] [] 6 W->(∀x,ChW ll tl W x->H x=none)->But c H H'->(∀y xs H'',H y=some (.lst xs)->But y H' H''->Å K a H'' c dc p ll tl n kd ps [] [] 6 W)->Q .non H')
def ybe:vq P w K mg Γ (CXe P w) 8 a.I7 a.Oc ["self","looks"] (yh3 K a):=by
 exists T.Cy.F.okE,yzz,hr;let⟨c,f,l,n,lk,tp,kd,ps,rfl,hc,hl,n1,n6,U,k⟩:=h;refine yg (y7 (pv 0) (xz T.Ta (yo7 T) hr.m rfl T.T9 T.Eg.B .nil yy (pa1 (pv 1))) rfl) ?_;refine yg (y7 (pv 0) (wx zj) rfl) ?_;exists 2,0,yc (y7 (pv 0) (wx zj) rfl);intro p dp np Y a7;refine FZ.new np Y hl n1 n6 U λW D hf nW Z a2=>⟨rfl,?_⟩;have R:=Z _ _ hc;ext;have t:upd D c (HO.ins a.A2 f ([("foreteller",V.ref p)]:Ι)) c=some (HO.ins a.A2 f ([("foreteller",V.ref p)]:Ι)):=ya;have L:But c D (upd D c (HO.ins a.A2 f ([("foreteller",V.ref p)]:Ι))):=But.upd;generalize upd D c (HO.ins a.A2 f ([("foreteller",V.ref p)]:Ι))=X at t L⊢;exists by walk_at "len",λj hll=>?_
 exists hll,HB,SB,eB;have a5:=SB _ _ t;ext;have u:upd HB c (HO.ins a.A2 f ([("foreteller",V.ref p),("links",V.ref j)]:Ι)) c=some (HO.ins a.A2 f ([("foreteller",V.ref p),("links",V.ref j)]:Ι)):=ya;have N:But c HB (upd HB c (HO.ins a.A2 f ([("foreteller",V.ref p),("links",V.ref j)]:Ι))):=But.upd;generalize upd HB c (HO.ins a.A2 f ([("foreteller",V.ref p),("links",V.ref j)]:Ι))=HC at u N⊢;exists by walk_at "len",λC htl=>?_
 exists htl,HD,SD,eD;have a4:=SD _ _ u;ext;have i:j≠c:=(yb t hll).symm;have g:C≠c:=(yb u htl).symm;have S:HC j=some (.lst []):=N _ _ eB i
 have J:∀{x:z4},x≠c->X x=none->H x=none:=λ{x}d e=>by
  cases z:H x with
  |none=>rfl
  |some o=>rw[L _ _ (Z _ _ z) d]at e;cases e
 have a1:∀{x:z4},x≠c->HC x=none->X x=none:=λ{x}d e=>by
  cases z:X x with
  |none=>rfl
  |some o=>rw[N _ _ (SB _ _ z) d]at e;cases e
 have v:But c D (upd HD c (HO.ins a.A2 f (jw (.ref p) (.ref j) (.ref C)))):=λx o e d=>ye d (SD _ _ (N _ _ (SB _ _ (L _ _ e d)) d))
 have q:∀x,W x->x≠c:=λx w z=>by
  have e:=nW x w;rw[z,hc]at e;cases e
 have I:H j=none:=J i hll;have O:H C=none:=J g (a1 g htl)
 have M:¬W j:=λw=>by
  let⟨o,e⟩:=hf.live _ w;rw[L _ _ e i]at hll;cases hll
 have G:¬W C:=λw=>by
  let⟨o,e⟩:=hf.live _ w;rw[N _ _ (SB _ _ (L _ _ e g)) g]at htl;cases htl
 refine k p j C W (upd HD c (HO.ins a.A2 f (jw (.ref p) (.ref j) (.ref C)))) ⟨ya,?_,?_,?_,rfl,λw=>q c w rfl,M,G,yb S htl⟩ (λx w=>?_) (λx o e d=>v x o (Z _ _ e) d) (λy xs H2 r b=>?_)
 .exact hf.frame (W2:=λx=>x=c) (λx z=>⟨.ins a.A2 f [],by rw[show x=c from z];exact R,.inl rfl⟩) (λx w z=>q x w z) (λx o e d=>v x o e d)
 .exact ye i (SD _ _ S)
 .exact ye g eD
 .rcases w with z|z|z
  .rw[z];exact I
  .rw[z];exact O
  .exact nW x z
 .have a3:c≠y:=λz=>by rw[<- z,hc]at r;cases r
  have bG:But y D (upd H2 c (.ins a.A2 f [])):=λx o e d=>by
   by_cases z:x=c
   .rw[z,ya];rw[z,R]at e;exact e
   .exact ye z (b _ _ (v x o e z) d)
  exists b _ _ ya a3,(a2 y xs _ r bG).frame (W2:=λx=>x=c) (λx z=>⟨.ins a.A2 f [],by rw[show x=c from z];exact ya,.inl rfl⟩) (λx w z=>q x w z) (λx o e d=>by rw[yk d]at e;exact e),b _ _ (ye i (SD _ _ S)) (λz=>by rw[<- z,I]at r;cases r),b _ _ (ye g eD) (λz=>by rw[<- z,O]at r;cases r),rfl,λw=>q c w rfl,M,G,yb S htl
#synth yxz ["self","name","text"] ywq
inductive ynf(a:Ads)(vs:Υ)(H:Hp)(Q:VK)(E':XK):Prop
 |mk(c dc:z4)(vf:V)(ll tl:z4)(x y:V)(xs ys:Υ)(_:vs=[.ref c,x,y])(_:H c=some (.ins a.A2 dc (jw vf (.ref ll) (.ref tl))))(_:H ll=some (.lst xs))(_:H tl=some (.lst ys))(_:ll≠tl)(_:xs.length<=10000)(_:ys.length<=10000)(_:Q .non (upd (upd H ll (.lst (xs++[x]))) tl (.lst (ys++[y]))))
def ykl:vq P w K mg Γ CX0 1 a.Lj a.Od ["self","name","text"] (ynf a):=by
 exists T.D6.F.ok,yxz,u;let⟨c,n,m,d,j,x,y,f,l,rfl,e,i,p,r,B,v,k⟩:=h;exists 3,0,yf (yt (ji PySem.F.plainAttrs_list PySem.F.slot_list_append PySem.F.type_list_append w6 (ym (pv 0) rfl) (pa1 (pv 1)))) (yc (yt (ji PySem.F.plainAttrs_list PySem.F.slot_list_append PySem.F.type_list_append w6 (ym (pv 0) rfl) (pa1 (pv 2)))));refine jh i ?_;ext;refine x0 i (vi ()) ?_;have q:(upd H d (.lst (f++[x]))) c=some (.ins a.A2 n (jw m (.ref d) (.ref j))):=by rw[yk (λz=>by rw[z,i]at e;cases e)];exact e
 ext;have b:(upd H d (.lst (f++[x]))) j=some (.lst l):=by rw[yk r.symm];exact p
 refine jh b ?_;ext;refine x0 b (vi ()) ?_;ext;exact k
def Å.grow{H H1:Hp}{c p ll:z4}{n:Nat}{kd:Ξ}{ps:Λ}{ks:Υ}{M M':Nat}{W:Ν}(h:Å K a H c dc p ll tl n kd ps L ks M W){nm:Str}{t:Ρ}{k:V}(hf:FZ K a H1 p n kd ps (Æ (L.map (·.2))++dec t) M' W')(g:Go W H H1 W')(hk:k=.non\/∃q,k=.ref q/\H1 q=some (.lst (t.map V.int))/\¬ChW ll tl W' q):
  Å K a (upd (upd H1 ll (.lst (nmL L++[V.str nm]))) tl (.lst (ks++[k]))) c dc p ll tl n kd ps (L++[(nm,t)]) (ks++[k]) M' W'/\Go (ChW ll tl W) H (upd (upd H1 ll (.lst (nmL L++[V.str nm]))) tl (.lst (ks++[k]))) (ChW ll tl W'):=by
 have r:=g.fr _ _ h.hl h.nll;have l:=g.fr _ _ h.ht h.ntl;have s:=g.fr _ _ h.me h.nc;have i:∀{x:z4}{o:HO},H x=some o->¬W x->¬W' x:=λ{x o}e d w=>(g.nw x w).elim d λz=>by rw[e]at z;cases z
 have C:=i h.hl h.nll;have D:=i h.ht h.ntl
 have f:∀x o,H1 x=some o->¬(x=ll\/x=tl)->(upd (upd H1 ll (.lst (nmL L++[V.str nm]))) tl (.lst (ks++[k]))) x=some o:=λx o e d=>by
  rw[yk (λz=>d (.inr z)),yk (λz=>d (.inl z))];exact e
 have v:c≠ll:=λz=>by have e:=h.me;rw[z,h.hl]at e;cases e
 have A:c≠tl:=λz=>by have e:=h.me;rw[z,h.ht]at e;cases e
 exists⟨f _ _ s λz=>z.elim v A,?_,?_,ya,?_,i h.me h.nc,C,D,h.ne⟩,⟨λx o e d=>?_,λx w=>?_,λx o e=>?_⟩
 .have G:Æ ((L++[(nm,t)]).map (·.2))=Æ (L.map (·.2))++dec t:=by rw[cA];exact ya5 _ _
  rw[G];refine hf.frame (W2:=λx=>x=ll\/x=tl) (λx w=>?_) (λx w z=>?_) λx o e d=>f x o e d
  .rcases w with z|z
   .exists _,by rw[show x=ll from z];exact r,.inr ⟨_,rfl,λy m=>?_⟩
    let⟨u,_,e⟩:=cn.mp m;exact .inl ⟨u.1,e.symm⟩
   .exists _,by rw[show x=tl from z];exact l,.inr ⟨_,rfl,λy m=>.inr ?_⟩
    exact(h.tx.mem y m).imp id λ⟨q,E,e,j,b⟩=>⟨q,e,.inl ⟨E,g.fr q _ j λw=>b (.inr (.inr w))⟩⟩
  .rcases z with z|z
   .rw[z]at w;exact C w
   .rw[z]at w;exact D w
 .rw[yk h.ne,ya];unfold nmL;rw[cA];rfl
 .refine yab.snoc ?_ (h.tx.mono λq I e b=>⟨f q _ (g.fr q _ e λw=>b (.inr (.inr w))) λz=>b (z.imp id .inl),λw=>?_⟩)
  .refine hk.imp id λ⟨q,e,j,b⟩=>⟨q,e,f q _ j λz=>b (z.imp id .inl),b⟩
  .rcases w with w|w|w
   .exact b (.inl w)
   .exact b (.inr (.inl w))
   .exact i e (λw=>b (.inr (.inr w))) w
 .exact f x o (g.fr x o e λw=>d (.inr (.inr w))) λz=>d (z.imp id .inl)
 .rcases w with w|w|w
  .exact .inl (.inl w)
  .exact .inl (.inr (.inl w))
  .exact(g.nw x w).imp (λw=>.inr (.inr w)) id
 .obtain⟨B,F⟩:=g.lv x o e;by_cases z2:x=tl
  .exists _,by rw[z2];exact ya
  .by_cases z1:x=ll
   .exists _,by rw[z1,yk h.ne];exact ya
   .exists B,f x B F λz=>z.elim z1 z2
#synth yot ["self","name","text","data"] ["self","name","text"] yua
inductive yfh(K:z3)(a:Ads)(vs:Υ)(H:Hp)(Q:VK)(E':XK):Prop
 |mk(c dc p ll tl:z4)(n:Nat)(kd:Ξ)(ps:Λ)(L:Η)(ks:Υ)(M:Nat)(W:Ν)(tx:z4)(nm:Str)(ts:Ρ)(_:vs=[.ref c,.str nm,.ref tx])(_:Å K a H c dc p ll tl n kd ps L ks M W)(_:L.length<=1000)(_:î H tx ts 1000)(_:¬W tx)(_:M+6*(dec ts).length+20<1000000)(_:∀(r:z4)(W':Ν)(H':Hp),H r=none->H' r=some (.lst ((zl n kd ps (Æ (L.map (·.2))) ts).map V.int))->Å K a H' c dc p ll tl n kd ps (L++[(nm,ts)]) (ks++[.non]) (M+6*(dec ts).length) W'->Go (ChW ll tl W) H H' (ChW ll tl W')->Q (.ref r) H')
def yyl:vq P w K mg Γ CX0 8 a.Lk a.Oe ["self","name","text"] (yfh K a):=by
 exists T.Ja.F.ok,yot,u;let⟨c,x,p,y,v,n,D,X,L,C,M,W,U,nm,S,rfl,b,Z,j,e,G,k⟩:=h;have O:=b.me;have J:=b.tx.len;exists 3,1,yf (yu (i:=3) yot.nd rfl (Or.inl rfl) (xx (yp0 T) u.m T.J7 (pac (ym (pv 0) rfl) (pa1 (pv 2))))) (yf (yt (wn (pv 0) T.Aj T.D6.m (ykl T) u.m T.D6.B .nil vh (pac (pv 1) (pa1 jy)))) (yc (yo (pv 3))));refine b.fz.press j e G λr I H1 d f Y g=>?_;have q:=g.fr _ _ b.hl b.nll;have o:=g.fr _ _ b.ht b.ntl;have t:=g.fr _ _ b.me b.nc;ext;exists c,x,_,y,v,_,_,_,_,rfl,t,q,o,b.ne,by unfold nmL;rw[bI];omega,(),?_
 let⟨z,g2⟩:=b.grow (nm:=nm) Y g (.inl rfl);ext;refine k r I _ d ?_ z g2;rw[yk (yb b.ht d).symm,yk (yb b.hl d).symm];exact f
#synth yko ["self","name","data","most","first"] ["self","name","data","most"] yun
inductive yba(K:z3)(a:Ads)(vs:Υ)(H:Hp)(Q:VK)(E':XK):Prop
 |mk(c dc p ll tl:z4)(n:Nat)(kd:Ξ)(ps:Λ)(L:Η)(ks:Υ)(M:Nat)(W:Ν)(dt:z4)(nm:Str)(ts bs:Ρ)(mo:Nat)(_:vs=[.ref c,.str nm,.ref dt,.int mo])(_:Å K a H c dc p ll tl n kd ps L ks M W)(_:L.length<=1000)(_:Sgs ts)(_:H dt=some (.lst ((zl n kd ps (Æ (L.map (·.2))) ts++bs).map V.int)))(_:¬W dt)(_:Byt bs)(_:(zl n kd ps (Æ (L.map (·.2))) ts++bs).length<=12000)(_:ts.length<=mo)(_:mo<=1000)(_:M+54*mo+200<1000000)(_:∀(q:z4)(W':Ν)(H':Hp),H q=none->Å K a H' c dc p ll tl n kd ps (L++[(nm,ts)]) (ks++[.ref q]) (M+6*(dec ts).length) W'->Go (ChW ll tl W) H H' (ChW ll tl W')->Q (.int ((zl n kd ps (Æ (L.map (·.2))) ts).length:Nat)) H')
inductive yfm(K:z3)(a:Ads)(vs:Υ)(H:Hp)(E':VK)(E:XK):Prop
 |mk(c dc p ll tl:z4)(n:Nat)(kd:Ξ)(ps:Λ)(L:Η)(ks:Υ)(M:Nat)(W:Ν)(dt:z4)(nm:Str)(d:Ρ)(mo:Nat)(_:vs=[.ref c,.str nm,.ref dt,.int mo])(_:Å K a H c dc p ll tl n kd ps L ks M W)(_:H dt=some (.lst (d.map V.int)))(_:¬W dt)(_:Byt d)(_:d.length<=12000)(_:mo<=1000)(_:M+54*mo+200<1000000)(_:(∀ts bs,Sgs ts->ts.length<=mo->d≠zl n kd ps (Æ (L.map (·.2))) ts++bs))(_:∀H',(∀x o,H x=some o->¬W x->H' x=some o)->E (.ref a.Dz) none H')
def vgy(K:z3)(a:Ads):Sp:=λvs H Q E=>yba K a vs H Q E\/yfm K a vs H Q E
def ξ:vq P w K mg Γ (CXe P w) 11 a.I8 a.Ic ["self","name","data","most"] (vgy K a):=by
 refine T.El.F.okE yko (λvs H Q E h=>?_) (λa3 A U s H vs Q E x h=>?_)
 .rcases h with⟨c,D,p,u,r,n,C,G,L,y,M,W,R,nm,ts,bs,mo,rfl,_⟩|⟨c,D,p,u,r,n,C,G,L,y,M,W,R,nm,d,mo,rfl,_⟩
  .rfl
  .rfl
 .rcases h with⟨c,D,p,u,r,n,C,G,L,y,M,W,R,nm,ts,bs,mo,rfl,b,hz,O,o,j,S,f,N,e,J,k⟩|⟨c,D,p,u,r,n,C,G,L,y,M,W,R,nm,d,mo,rfl,b,o,j,hd,f,e,J,no,k⟩
  .have Y:=b.me;have a2:=b.tx.len;exists 4,1,yf (yu (i:=4) yko.nd rfl (Or.inl rfl) (ul (ypx T) x.m T.J9 yy (pac (ym (pv 0) rfl) (pac (pv 2) (pa1 (pv 3)))))) (yf (yt (wn (pv 0) T.Aj T.D6.m (ykl T) x.m T.D6.B .nil vh (pac (pv 1) (pa1 (xf jn (pv 4) yh (λF F=>rfl)))))) (yc (yo (xf jn (pv 4) yh (λF F=>rfl)))));refine b.fz.read (xy _) O o j S f N e J λt q W' H1 v l ht hq hf g nq=>?_;have a0:=g.fr _ _ b.hl b.nll;have Z:=g.fr _ _ b.ht b.ntl;have a1:=g.fr _ _ b.me b.nc;ext;exists t,_,0,_,rfl,rfl,SqT.of ht,rfl,?_;ext;exists c,D,_,u,r,_,_,_,_,rfl,a1,a0,Z,b.ne,by unfold nmL;rw[bI];omega,(),?_
   have X:¬ChW u r W' q:=λw=>by
    rcases w with w|w|w
    .exact yb b.hl l w.symm
    .exact yb b.ht l w.symm
    .exact nq w
   let⟨z,g2⟩:=b.grow (nm:=nm) hf g (.inr ⟨q,rfl,hq,X⟩)
   have I:(upd (upd H1 u (.lst (nmL L++[V.str nm]))) r (.lst (y++[V.ref q]))) t=some (.tup [.ref q,.int ((zl n C G (Æ (L.map (·.2))) ts).length:Nat)]):=by
    rw[yk (yb b.ht v).symm,yk (yb b.hl v).symm];exact ht
   ext;exists t,_,1,_,rfl,rfl,SqT.of I,rfl,?_;exact k q W' _ l z g2
  .have Y:=b.me;exists 4,1,yf (yu (i:=4) yko.nd rfl (Or.inl rfl) (ul (ypx T) x.m T.J9 yy (pac (ym (pv 0) rfl) (pac (pv 2) (pa1 (pv 3)))))) (yf (yt (wn (pv 0) T.Aj T.D6.m (ykl T) x.m T.D6.B .nil vh (pac (pv 1) (pa1 (xf jn (pv 4) yh (λF F=>rfl)))))) (yc (yo (xf jn (pv 4) yh (λF F=>rfl)))));exact b.fz.readN o j hd f e J no k
def va1:vq P w K mg Γ (CXe P w) 11 a.I8 a.Ic ["self","name","data","most"] (yba K a):=(ξ T).imp λZ Z Z Z h=>.inl h
def FZ.fork{H:Hp}{p:z4}{n:Nat}{kd:Ξ}{ps:Λ}{pre:Ρ}{M:Nat}{W:Ν}{Q:VK}{E:XK}(h:FZ K a H p n kd ps pre M W)(hM:M+20<1000000)
  (k:∀q W' H',FZ K a H' q n kd ps pre (M+6) W'->(∀c,W' c->H c=none)->yw H H'->Q (.ref q) H'):ydw K a [.ref p] H Q E:=by
 let⟨A,f,O,m,l,G,B,rfl,rfl,rfl,v,y,I⟩:=h;have L:=l.n6;exists p,A,_,f,O,m,rfl,l,B,(),λq i u o H' C d b g x D J r F t s S=>k q (yqx q i o) H' ⟨i,u,o,m+A.n,d,(),b,g,x,D,v,y,λc=>Iff.rfl⟩ (λc w=>?_) S
 rcases w with z|z|⟨j,e,z⟩|⟨j,e,z⟩|z
 .rw[z];exact C
 .rw[z];exact t
 .rw[z];exact F j (by rw[<- g];exact e)
 .exact r j c (by rw[<- g];exact e) z
 .exact s c (.inr (.inl z))
#synth yz4 ["self","text"] yvb
inductive ygu(K:z3)(a:Ads)(vs:Υ)(H:Hp)(Q:VK)(E':XK):Prop
 |mk(c dc p ll tl:z4)(n:Nat)(kd:Ξ)(ps:Λ)(L:Η)(ks:Υ)(M:Nat)(W:Ν)(tx:z4)(ts:Ρ)(_:vs=[.ref c,.ref tx])(_:Å K a H c dc p ll tl n kd ps L ks M W)(_:î H tx ts 1000)(_:M+60000<1000000)(_:∀H',yw H H'->Q (.int ((zl n kd ps (Æ (L.map (·.2))) ts).length:Nat)) H')
def yqa:vq P w K mg Γ CX0 9 a.Ll a.Of ["self","text"] (ygu K a):=by
 exists T.Em.F.ok,yz4,j;let⟨c,X,p,Z,U,n,S,ps,L,R,M,W,tx,J,rfl,d,b,hM,k⟩:=h;have a2:=d.me;have a0:=ub J;have hz:=b.z
 obtain⟨t,v,I,N,C,u,G,hp⟩:∃t v I N C u G,H p=some (.ins a.A4 t (zt v I N C u G)):=by
  let⟨A,f,O,m,Y,_⟩:=d.fz;exists _,_,_,_,_,_,_,Y.me
 exists 2,0,yc (yo (pcB yr T.Ad (pa1 (xx (yp0 T) j.m T.J7 (pac (yz (ym (pv 0) rfl) T.Ai T.J3.m (vaz T) j.m T.J3.B .nil vh) (pa1 (pv 1)))))));refine d.fz.fork () λq W' H1 hf D y=>?_;ext;refine hf.press (b.same y) (λw=>by have e:=D _ w;rw[b.l]at e;cases e) () λr W2 H2 a3 i F g2=>?_;ext;refine ut (SqL.of i) ?_;rw[bI];exact k H2 λx o e=>g2.fr _ _ (y _ _ e) λw=>by rw[D _ w]at e;cases e
#synth vba ["thing"] ywj
inductive yh8(K:z3)(vs:Υ)(H:Hp)(Q:VK)(E':XK):Prop
 |mk(x n:_)(_:vs=[x])(_:xt K H x (.type n))(_:(∀s,x=.str s->s.length<=100000))(_:∀H',yw H H'->Q (.bl (nmV x)) H')
def vbn:vq P w K mg Γ CX0 1 a.Lm a.Og ["thing"] (yh8 K):=by
 exists T.Pq.F.ok,vba,r;let⟨x,n,rfl,b,d,k⟩:=h;exists 1,0,yc (yo (zz (pcB wt T.Ab (pac (pv 0) (pa1 (Ù (T:="str") rfl T.Q3 (by right))))) (zz (Ð jk jk yh (pcB u9 T.Ad (pa1 (pv 0))) (vo rfl T.Fe)) (Ø (pcB (η rfl) T.Dx (pa1 (wc (js:=[]) (ys:=[]) rfl (yp8 (pv 0)) (λC t v u=>(jd yhw (pv 0) (yc4 rfl T.Du) (by with_unfolding_all rfl))) rfl rfl (hyc:=y8) (hrel:=y8))))))));refine Ĩ b (ydh b) ?_;ext;by_cases hn:n="str"
 .obtain⟨s',rfl⟩:∃s',x=.str s':=by
   cases b with
   |str s'=>exists s',rfl
   |_=>exact absurd hn ∅
  have d:=d s' rfl;rw[cz hn];refine yac ?_;ext;exists s',rfl,de d ∅,?_;refine⟨1,(s'.length:Int),rfl,rfl,_,rfl,?_⟩;by_cases h1:(1:Int)<=(s'.length:Int)
  .refine ybu h1 ?_;exists(s'.length:Int),8,rfl,rfl,_,rfl,?_;by_cases h8:(s'.length:Int)<=8
   .refine ybu h8 ?_;ext;exists s',rfl,λD j=>?_;refine yav (λi=>.bl (ygj (s'.cps.toList.getD i 0))) j (λi c G m p S g=>?_) (λG S g=>?_)
    .ext;exists _,_,rfl,rfl,?_;refine Mp.doneR j (Nat.lt_of_le_of_lt (show s'.cps.size<=100000 from d) ∅) p S g ?_
     have o:s'.cps.toList.getD i 0=c:=by
      rw[dX,Array.getElem?_toList,m];rfl
     rw[o];unfold ygj;rfl
    .ext;exists D,s'.cps.toList.map ygj,rfl,?_,?_
     .refine SqL.of (g.trans ?_);rw[ysq]
     .have e:=vb7 h1 h8;rw[<- e];exact k _ S
   .have e:=yz5 h8;rw[e]at k;exact ygb h8 (k _ (yw.refl _))
  .have e:=yzy h1;rw[e]at k;refine ygb h1 ?_;exists _,rfl,jq (k _ (yw.refl _))
 .have e:nmV x=false:=by
   cases b with
   |str s'=>exact absurd rfl hn
   |_=>rfl
  rw[cH hn];rw[e]at k;exact jq (k _ (yw.refl _))
#synth va7 ["thing"] yu4
inductive yl1(K:z3)(C:z4)(vs:Υ)(H:Hp)(Q:VK)(E:XK):Prop
 |mk(x n:_)(_:vs=[x])(_:xt K H x (.type n))(_:(∀s,x=.str s->s.length<=100000))(_:(nmV x=true->∀H',yw H H'->Q x H'))(_:(nmV x=false->∀H',yw H H'->E (.ref C) none H'))
def yeu:vq P w K mg Γ (CXe P w) 2 a.Ln a.Oh ["thing"] (yl1 K a.Ag):=by
 exists T.En.F.okE,va7,e;let⟨x,n,rfl,i,k,f,j⟩:=h;exists 1,0,yf (wd (x9 (ug (xx (vbn T) e.m T.Pq (pa1 (pv 0))))) (yc (wy rfl T.Qu T.Fa (pa1 xc))) ve) (yc (yo (pv 0)));exists x,n,rfl,i,k,λl c=>?_;ext
 cases hx:nmV x with
 |false =>
  ext;exists by walk_at "len",j hx _ c
 |true =>
  ext;exact f hx _ c
#synth yzo ["thing"] yuf
inductive ymk(K:z3)(C:z4)(vs:Υ)(H:Hp)(Q:VK)(E:XK):Prop
 |mk(x n:_)(_:vs=[x])(_:xt K H x (.type n))(_:(∀s,x=.str s->s.length<=100000))(_:((x=.non\/nmV x=true)->∀H',yw H H'->Q .non H'))(_:(x≠.non->nmV x=false->∀H',yw H H'->E (.ref C) none H'))
def yyu:vq P w K mg Γ (CXe P w) 3 a.Lo a.Oi ["thing"] (ymk K a.Ag):=by
 exists T.Pr.F.okE,yzo,i;let⟨x,n,rfl,k,o,e,l⟩:=h;exists 1,0,yc (wd (y6 ycx (pv 0) jy (vd _)) (yc (yt (ul (yeu T) i.m T.En yy (pa1 (pv 0))))) ve);by_cases hx:x=.non
 .subst hx;ext;exact e (.inl rfl) _ (yw.refl _)
 .ext;rw[cH hx];refine yac ?_;ext;exists x,n,rfl,k,o,λb f c=>?_,λb f c=>l hx b f c;ext;exact e (.inr b) _ c
#synth var ["self","base","data"] ywu
inductive ym3(a:Ads)(vs:Υ)(H:Hp)(Q:VK)(E':XK):Prop
 |mk(p dp:z4)(x y:V)(_:vs=[.ref p,x,y])(_:H p=some (.ins a.Aa dp []))(_:∀H',H' p=some (.ins a.Aa dp (ĝ x y))->But p H H'->Q .non H')
def yqk:vq P w K mg Γ CX0 1 a.I9 a.Oj ["self","base","data"] (ym3 a):=by exists T.Eo.F.ok,var,i;let⟨p,b,x,y,rfl,j,k⟩:=h;exists 3,0,yf (y7 (pv 0) (pv 1) rfl) (yc (y7 (pv 0) (pv 2) rfl));have c:upd H p (HO.ins a.Aa b ([("base",x)]:Ι)) p=some (HO.ins a.Aa b ([("base",x)]:Ι)):=ya;have e:But p H (upd H p (HO.ins a.Aa b ([("base",x)]:Ι))):=But.upd;generalize upd H p (HO.ins a.Aa b ([("base",x)]:Ι))=l at c e⊢;ext;exact k _ ya (e.trans But.upd)
#synth vaw ["self","looks","most"] ygf
inductive yau(K:z3)(a:Ads)(vs:Υ)(H:Hp)(Q:VK)(E':XK):Prop
 |mk(p ds l:z4)(mo w:Nat)(n:Nat)(lk tp:Μ)(kd:Ξ)(ps:Λ)(_:vs=[.ref p,.ref l,.int mo])(_:H p=some (.ins a.A0 ds []))(_:H l=some (.lst (refs lk n)))(_:1<=n)(_:n<=6)(_:xn H n lk kd tp ps)(_:mo<=1000)(_:w<=mo)(_:w<=200)(_:∀(ll d c dc q cl ct:z4)(U:Ν)(H':Hp),jl K a H' p ds ll d c dc q cl ct lk tp n kd ps mo w [] [] [] U->(∀x,StW c cl ct U x->H x=none)->H ll=none->H d=none->But p H H'->(∀y xs H'',H y=some (.lst xs)->But y H' H''->jl K a H'' p ds ll d c dc q cl ct lk tp n kd ps mo w [] [] [] U)->Q .non H')
def yjz:vq P w K mg Γ (CXe P w) 10 a.Dv a.Ol ["self","looks","most"] (yau K a):=by
 exists T.Sw.okE,vaw,hr;let⟨p,j,l,F,w,n,lk,tp,kd,ps,rfl,S,hl,J,n6,M,Z,a6,a5,k⟩:=h;refine yg (y7 (pv 0) (ul (ypz T) hr.m T.Iv yy (pa1 (pv 1))) rfl) ?_;refine yg (yt (ul (vd3 T) hr.m T.Rw yy (pa1 (pv 2)))) ?_;refine yg (y7 (pv 0) (pv 2) rfl) ?_;refine yg (y7 (pv 0) ų rfl) ?_;exists 3,0,yc (y7 (pv 0) (xz T.Dd (ybe T) hr.m rfl T.Dc T.Cy.B .nil yy (pa1 (ym (pv 0) rfl))) rfl);refine .inr ⟨l,refs lk n,List.replicate (refs lk n).length true,rfl,hl,by rw[v9];omega,M.lks.bs,λB g H1 v a8 u=>?_,λno=>absurd ⟨by rw[v9];exact J,by rw[v9];exact n6,yiv _⟩ no⟩;have ai:=u _ _ S;ext;have af:upd H1 p (HO.ins a.A0 j ([("looks",V.ref g)]:Ι)) p=some (HO.ins a.A0 j ([("looks",V.ref g)]:Ι)):=ya;have BA:But p H1 (upd H1 p (HO.ins a.A0 j ([("looks",V.ref g)]:Ι))):=But.upd;generalize upd H1 p (HO.ins a.A0 j ([("looks",V.ref g)]:Ι))=HA at af BA⊢;exists .int F,"int",rfl,.int _,λB=>?_,λz=>by rw[yz3 Z]at z;cases z
 ext;have Y:upd HA p (HO.ins a.A0 j ([("looks",V.ref g),("most",V.int F)]:Ι)) p=some (HO.ins a.A0 j ([("looks",V.ref g),("most",V.int F)]:Ι)):=ya;have BB:But p HA (upd HA p (HO.ins a.A0 j ([("looks",V.ref g),("most",V.int F)]:Ι))):=But.upd;generalize upd HA p (HO.ins a.A0 j ([("looks",V.ref g),("most",V.int F)]:Ι))=HB at Y BB⊢;intro d hd0;exists hd0,HC,SC,eC;have al:=SC _ _ Y;ext;have r:upd HC p (HO.ins a.A0 j ([("looks",V.ref g),("most",V.int F),("pieces",V.ref d)]:Ι)) p=some (HO.ins a.A0 j ([("looks",V.ref g),("most",V.int F),("pieces",V.ref d)]:Ι)):=ya;have BD:But p HC (upd HC p (HO.ins a.A0 j ([("looks",V.ref g),("most",V.int F),("pieces",V.ref d)]:Ι))):=But.upd;generalize upd HC p (HO.ins a.A0 j ([("looks",V.ref g),("most",V.int F),("pieces",V.ref d)]:Ι))=X at r BD⊢;have I:∀x o,H1 x=some o->x≠p->X x=some o:=λx o e t=>BD _ _ (SC _ _ (BB _ _ (BA _ _ e t) t)) t
 have K0:∀x,x≠p->X x=none->H x=none:=λx t e=>by
  cases z:H x with
  |none=>rfl
  |some o=>rw[I _ _ (u _ _ z) t]at e;cases e
 have a1:g≠p:=(yb S v).symm;have C:d≠p:=(yb Y hd0).symm;have D:=I _ _ a8 a1;have W:X d=some (.dK []):=BD _ _ eC C
 have ad:xn X n lk kd tp ps:=λi hi=>by
  let⟨q,e,N,R,h3⟩:=M i hi;exists q,e,I _ _ (u _ _ N) (ww N S (by intro z;cases z)),I _ _ (u _ _ R) (ww R S (by intro z;cases z)),h3
 exists p,_,j,_,_,rfl,r,T.A1,T.Aq,rfl,?_;ext;intro c dc nc aa ah;have SQ:yw X (upd (upd X dc (.own c)) c (.ins a.A2 dc [])):=λb o e=>by rw[yk (yb e nc),yk (yb e aa)];exact e
 exists c,dc,g,n,lk,tp,kd,ps,rfl,ya,SQ _ _ D,J,n6,ad.same SQ,λq cl ct U HE ag a2 BE ae=>⟨rfl,?_⟩;have L:yw X HE:=λb o e=>BE _ _ (SQ _ _ e) (yb e nc);have a3:=L _ _ r
 have O:∀x,StW c cl ct U x->X x=none:=λx w=>by
  rcases w with z|z
  .rw[z];exact nc
  .exact SQ.free (a2 x z)
 have a0:¬StW c cl ct U p:=λw=>by have e:=O _ w;rw[r]at e;cases e
 have a7:H d=none:=by
  cases z:H d with
  |none=>rfl
  |some o=>rw[BB _ _ (BA _ _ (u _ _ z) C) C]at hd0;cases hd0
 ext;refine k g d c dc q cl ct U _ ⟨ya,J,n6,ye a1 (L _ _ D),λi hi=>?_,⟨ye C (L _ _ W),λq f=>(by cases f),List.nodup_nil,λq f=>(by cases f),λq f=>(by cases f),cP _,λq f=>(by cases f)⟩,ag.but a3 a0 But.upd,λx hx w=>?_,Z,⟨a6,a5⟩,⟨none,rfl⟩⟩ (λx w=>?_) v ?_ (λx o e t=>ye t (L _ _ (I _ _ (u _ _ e) t))) (λy xs H2 G b=>?_)
 .obtain⟨q,e,N,R,h3⟩:=M i hi;have J:=ww N S (by intro z;cases z);have n2:=ww R S (by intro z;cases z);exists q,e,ye J (L _ _ (I _ _ (u _ _ N) J)),ye n2 (L _ _ (I _ _ (u _ _ R) n2)),h3
 .have e:=O _ w;rcases hx with z|z|z|⟨q,f,_⟩
  .rw[z,r]at e;cases e
  .rw[z,D]at e;cases e
  .rw[z,W]at e;cases e
  .cases f
 .exact K0 x (λz=>a0 (z ▸ w)) (O x w)
 .exact a7
 .have a4:p≠y:=λz=>by rw[<- z,S]at G;cases G
  have ab:=SQ _ _ (I _ _ (u _ _ G) a4.symm)
  have bG:But y HE (upd H2 p (HO.ins a.A0 j ([("looks",V.ref g),("most",V.int F),("pieces",V.ref d)]:Ι))):=λx o e t=>by
   by_cases z:x=p
   .rw[z,ya];rw[z,a3]at e;exact e
   .exact ye z (b _ _ (ye z e) t)
  have a9:=ae y xs _ ab bG;have ak:=u _ _ G;exists b _ _ ya a4,J,n6,b _ _ (ye a1 (L _ _ D)) (λz=>by rw[<- z,v]at G;cases G),λi hi=>?_,⟨b _ _ (ye C (L _ _ W)) (λz=>by rw[<- z,a7]at G;cases G),λq f=>(by cases f),List.nodup_nil,λq f=>(by cases f),λq f=>(by cases f),cP _,λq f=>(by cases f)⟩,a9.but ya a0 (λx o e t=>by rw[yk t]at e;exact e),λx hx w=>?_,Z,⟨a6,a5⟩,⟨none,rfl⟩
  .obtain⟨q,e,N,R,h3⟩:=M i hi;have J:=ww N S (by intro z;cases z);have n2:=ww R S (by intro z;cases z);exists q,e,b _ _ (ye J (L _ _ (I _ _ (u _ _ N) J))) (ww N G (by intro z;cases z)),b _ _ (ye n2 (L _ _ (I _ _ (u _ _ R) n2))) (ww R G (by intro z;cases z)),h3
  .have e:=O _ w;rcases hx with z|z|z|⟨q,f,_⟩
   .rw[z,r]at e;cases e
   .rw[z,D]at e;cases e
   .rw[z,W]at e;cases e
   .cases f
def Sto.new{H:Hp}{l:z4}{mo w n:Nat}{lk:Μ}{kd:Ξ}{ps:Λ}{Q:VK}{E:XK}(hst0:H st=none)(hds0:H ds=none)(hlo:H l=some (.lst (refs lk n)))(n1:1<=n)(n6:n<=6)(hR:xn H n lk kd tp ps)(m1:mo<=1000)(wm:w<=mo)(w2:w<=200)
  (k:∀X H',Sto K a H' st ⟨n,kd,ps,mo,w⟩ [] X->yw H H'->(∀y,X.f y->H y=none)->(∀y xs H'',H y=some (.lst xs)->But y H' H''->Sto K a H'' st ⟨n,kd,ps,mo,w⟩ [] X)->Q .non H'):yau K a [.ref st,.ref l,.int mo] (upd (upd H ds (.own st)) st (.ins a.A0 ds [])) Q E:=by
 have g:yw H (upd (upd H ds (.own st)) st (.ins a.A0 ds [])):=λb o e=>by rw[yk (yb e hst0),yk (yb e hds0)];exact e
 exists st,ds,l,mo,w,n,lk,tp,kd,ps,rfl,ya,g _ _ hlo,n1,n6,hR.same g,m1,wm,w2,λu d c x p v t U B m j h i A s=>k _ B ⟨ds,u,d,c,x,p,v,t,lk,tp,[],[],[],U,m,rfl,rfl⟩ (λy o e=>A _ _ (g _ _ e) (yb e hst0)) (λy r=>?_) λy xs C r b=>⟨ds,u,d,c,x,p,v,t,lk,tp,[],[],[],U,s y xs C (g _ _ r) b,rfl,rfl⟩;rcases r with(z|z|z)|z|⟨q,hq,_⟩|z
 .rw[z];exact g.free i
 .rw[z];exact hst0
 .exact g.free (j y z)
 .rw[z];exact g.free h
 .cases hq
 .cases z
#synth yy2 ["self"] yub
inductive ya3(a:Ads)(vs:Υ)(H:Hp)(Q:VK)(E':XK):Prop
 |mk(st ds ll:z4)(vm vp vc:V)(xs:Υ)(_:vs=[.ref st])(_:H st=some (.ins a.A0 ds (vy (.ref ll) vm vp vc)))(_:H ll=some (.lst xs))(_:∀l H',H l=none->H' l=some (.lst xs)->yw H H'->Q (.ref l) H')
def yj4:vq P w K mg Γ CX0 1 a.Lq a.Om ["self"] (ya3 a):=by exists T.D7.F.ok,yy2,r;let⟨n,g,e,i,p,m,j,rfl,q,c,k⟩:=h;exists 1,0,yc (yo (pcT vj T.Ae (pa1 (ym (pv 0) rfl))));exists e,_,rfl,.inl (SqL.of c),λl b=>?_;exact k l _ b ya (vg b)
def Sto.tlooks{H:Hp}{C:Cf}{P:qi Pd}{X:Sx}{Q:VK}{E:XK}(h:Sto K a H st C P X)(k:∀l lk tp H',H l=none->H' l=some (.lst (refs lk C.n))->xn H' C.n lk C.kd tp C.ps->yw H H'->Q (.ref l) H'):ya3 a [.ref st] H Q E:=by let⟨b,f,d,c,q,p,m,i,lk,tp,o,L,j,U,s,rfl,rfl⟩:=h;exists st,b,f,_,_,_,_,rfl,s.me,s.lo,λl H' g e S=>k l lk tp H' g e (s.row.same S) S
#synth yy7 ["self"] ywl
inductive ydg(a:Ads)(vs:Υ)(H:Hp)(Q:VK)(E':XK):Prop
 |mk(st ds:z4)(vl vm vp vc:V)(_:vs=[.ref st])(_:H st=some (.ins a.A0 ds (vy vl vm vp vc)))(_:Q vm H)
def yju:vq P w K mg Γ CX0 1 a.Lr a.On ["self"] (ydg a):=by exists T.D8.F.ok,yy7,n;let⟨i,d,f,e,l,g,rfl,m,k⟩:=h;exists 1,0,yc (yo (ym (pv 0) rfl));exact k
def Sto.tmost{H:Hp}{C:Cf}{P:qi Pd}{X:Sx}{Q:VK}{E:XK}(h:Sto K a H st C P X)(k:Q (.int C.mo) H):ydg a [.ref st] H Q E:=by let⟨b,i,d,c,n,p,j,f,e,m,l,L,g,U,s,rfl,rfl⟩:=h;exists st,b,_,_,_,_,rfl,s.me,k
#synth va0 ["self"] yuy
inductive yd6(a:Ads)(vs:Υ)(H:Hp)(Q:VK)(E':XK):Prop
 |mk(st ds d:z4)(vl vm vc:V)(P:qi Pc)(_:vs=[.ref st])(_:H st=some (.ins a.A0 ds (vy vl vm (.ref d) vc)))(_:H d=some (.dK (pcs P)))(_:P.length<=60)(_:∀l H',H l=none->H' l=some (.lst (P.map λq=>V.str q.nm))->yw H H'->Q (.ref l) H')
def Ó:vq P w K mg Γ CX0 1 a.Ls a.Oo ["self"] (yd6 a):=by
 exists T.Ap.F.ok,va0,u;let⟨n,g,d,j,i,m,P,rfl,r,t,v,k⟩:=h;exists 1,0,yc (yo (pcT (zw rfl) T.Ae (pa1 (ym (pv 0) rfl))));exists d,_,rfl,t,λl b=>?_;have e:(pcs P).map (λp=>kV p.1)=P.map λq=>V.str q.nm:=by unfold pcs;rw[cX];rfl
 rw[e];exact k l _ b ya (vg b)
def Sto.names{H:Hp}{C:Cf}{P:qi Pd}{X:Sx}{Q:VK}{E:XK}(h:Sto K a H st C P X)(k:∀l H',H l=none->H' l=some (.lst (P.map λq=>V.str q.nm))->yw H H'->Q (.ref l) H'):yd6 a [.ref st] H Q E:=by let⟨b,n,d,c,t,p,o,j,i,r,g,L,m,U,s,rfl,rfl⟩:=h;exists st,b,d,_,_,_,g,rfl,s.me,s.pz.dk,s.pz.z,λl H' e f S=>k l H' e ?_ S;rw[cX];exact f
#synth yyq ["self","text"] yvs
inductive yry(a:Ads)(vs:Υ)(H:Hp)(Q:VK)(E:XK):Prop
 |mk(st ds tx:z4)(vl vp vc:V)(mo:Int)(xs:Υ)(_:vs=[.ref st,.ref tx])(_:H st=some (.ins a.A0 ds (vy vl (.int mo) vp vc)))(_:H tx=some (.lst xs))(_:((xs.length:Int)<=mo->Q .non H))(_:(¬(xs.length:Int)<=mo->E (.ref a.Al) none H))
def ypr:vq P w K mg Γ (CXe P w) 1 a.Lv a.Os ["self","text"] (yry a):=by
 exists T.Ep.F.okE,yyq,t;let⟨k,f,l,i,n,j,r,g,rfl,o,b,p,q⟩:=h;exists 2,0,yc (wd (y6 yk9 (pcB yr T.Ad (pa1 (pv 1))) (ym (pv 0) rfl) (vd _)) (yc (wy rfl T.Q7 T.Dq (pa1 xc))) ve);refine ut (SqL.of b) ?_;ext;refine zn (λe=>?_) (λe=>?_)
 .ext;exists by walk_at "len",q ()
 .exact p ()
#synth vce ["self","name"] ywe
inductive yxm(K:z3)(a:Ads)(vs:Υ)(H:Hp)(Q:VK)(E:XK):Prop
 |mk(st ds d:z4)(vl vm vc:V)(n:Nat)(kd:Ξ)(ps:Λ)(w:Nat)(P:qi Pc)(x:V)(nt:String)(_:vs=[.ref st,x])(_:H st=some (.ins a.A0 ds (vy vl vm (.ref d) vc)))(_:Ŋ a H d n kd ps w P)(_:xt K H x (.type nt))(_:(∀s,x=.str s->s.length<=100000))(_:(nmV x=false->∀H',yw H H'->E (.ref a.Ag) none H'))(_:(∀b,x=.str b->nmS b=true->(∀q,q∈P->q.nm≠b)->∀H',yw H H'->E (.ref a.A6) none H'))(_:(∀r,r∈P->x=.str r.nm->nmS r.nm=true->∀H',yw H H'->Q (.ref r.ob) H'))
def ņ:vq P w K mg Γ (CXe P w) 3 a.Ly a.Ou ["self","name"] (yxm K a):=by
 exists T.Bx.F.okE,vce,g;let⟨v,J,d,L,C,u,n,B,O,w,P,x,o,rfl,j,R,D,G,y,z,N⟩:=h;exists 2,0,yf (wd (ykg (ya9 (u7 g) (ul (yeu T) g.m T.En yy (pa1 (pv 1))) (ym (pv 0) rfl))) (yc (wy rfl T.Q8 T.Dr (pa1 xc))) ve) (yc (yo (uq (u7 g) (ym (pv 0) rfl) (pv 1) (λZ Z=>rfl))));exists x,o,rfl,D,G,λi q f=>?_,λi q f=>y i q f;let⟨b,rfl,t⟩:=vbl i;have p:=f _ _ j;have e:=R.same f;ext;rcases vdj P b with⟨r,c,rfl⟩|l
 .exists d,_,rfl,e.get c,?_;exists false,rfl,jq ?_;ext;exists d,_,rfl,e.get c,?_;exact N r c rfl t _ f
 .exists d,_,rfl,e.getNo l,?_;exists true,rfl,yac ?_;ext;exists by walk_at "len",z b rfl t l _ f
#synth va8 ["self","name","base"] yvl
inductive ytr(K:z3)(a:Ads)(vs:Υ)(H:Hp)(Q:VK)(E:XK):Prop
 |mk(st ds d:z4)(vl vm vc:V)(n:Nat)(kd:Ξ)(ps:Λ)(w:Nat)(P:qi Pc)(b:Str)(x:Φ)(_:vs=[.ref st,.str b,baV x])(_:H st=some (.ins a.A0 ds (vy vl vm (.ref d) vc)))(_:Ŋ a H d n kd ps w P)(_:(∀y,x=some y->nmS y=true/\y.length<=100000))(_:((∃r,r∈P/\r.nm=b)->E (.ref a.Au) none H))(_:((∀q,q∈P->q.nm≠b)->(∀y,x=some y->(∀q,q∈P->q.nm≠y)->∀H',yw H H'->E (.ref a.A6) none H')/\(∀L,To P x L->(P.length=60->∀H',yw H H'->E (.ref a.Ci) none H')/\(P.length≠60->∀H',yw H H'->Q .non H'))))
def ypp:vq P w K mg Γ (CXe P w) 4 a.Lx a.Ot ["self","name","base"] (ytr K a):=by
 exists T.Er.F.okE,va8,v;let⟨D,M,d,N,J,C,n,I,O,w,P,b,x,rfl,f,g,hx,R,U⟩:=h;exists 3,0,yf (wd (ykg (yx9 (u7 v) (pv 1) (ym (pv 0) rfl))) (yc (wy rfl T.Rx T.Hj (pa1 xc))) ve) (yf (wd (y6 ycx (pv 2) jy (vd _)) (yc (yt (yv (pv 0) T.A1 T.Bx.m (ņ T) v.m T.Bx.B .nil yy (pa1 (pv 2))))) ve) (yc (wd (y6 jj (pcB ya0 T.Ad (pa1 (ym (pv 0) rfl))) (vo rfl T.Fo) (vd _)) (yc (wy rfl T.Sj T.Jq (pa1 xc))) ve)));rcases vdj P b with⟨r,c,rfl⟩|u
 .exists d,_,rfl,g.get c,?_;exists true,rfl,yac ?_;ext;exists by walk_at "len",R ⟨r,c,rfl⟩
 .exists d,_,rfl,g.getNo u,?_;exists false,rfl,jq ?_;let⟨k3,G⟩:=U u;have X:(pcs P).length=P.length:=bI _;ext
  cases x with
  |none =>
   refine yxe (λZ=>?_) (λz=>absurd rfl z);let⟨p,t⟩:=G [] rfl;ext;exists d,_,rfl,g.dk,?_;ext;refine zn (λq=>?_) (λq=>?_)
   .ext;exists by walk_at "len",p () _ (yw.refl _)
   .ext;exact t () _ (yw.refl _)
  |some y =>
   refine yxe (λz=>nomatch z) (λZ=>?_)
   let⟨o,k⟩:=hx y rfl;ext;exists D,M,d,N,J,C,n,I,O,w,P,.str y,"str",rfl,f,g,.str y,(λs e=>by cases e;exact k),(λz=>by rw[show nmV (.str y)=nmS y from rfl,o]at z;cases z),(λb e Z j W S=>by cases e;exact k3 y rfl j W S),λr c e Z H1 i=>?_;obtain rfl:y=r.nm:=by cases e;rfl
   let⟨p,t⟩:=G _ ⟨r,c,rfl,rfl⟩;have L:=i _ _ f;ext;exists d,_,rfl,i _ _ g.dk,?_;ext;refine zn (λq=>?_) (λq=>?_)
   .ext;exists by walk_at "len",p () _ i
   .ext;exact t () _ i
#synth yjq ["self","name","links"] ["self","name"] yvn
inductive ymf(a:Ads)(vs:Υ)(H:Hp)(Q:VK)(E':XK):Prop
 |mk(st ds d:z4)(vl vm vc:V)(n:Nat)(kd:Ξ)(ps:Λ)(w:Nat)(P:qi Pc)(x:Φ)(L:Η)(_:vs=[.ref st,baV x])(_:H st=some (.ins a.A0 ds (vy vl vm (.ref d) vc)))(_:Ŋ a H d n kd ps w P)(_:To P x L)(_:∀(l:z4)(H':Hp),H l=none->H' l=some (.lst (nmL L))->yw H H'->Q (.ref l) H')
def yob:vq P w K mg Γ CX0 1 a.Lz a.Ov ["self","name"] (ymf a):=by
 exists T.Es.F.ok,yjq,W;let⟨J,ds,d,vl,vm,X,n,Z,ps,w,P,x,L,rfl,q,C,U,k⟩:=h;exists 2,1,yf (yu (i:=2) yjq.nd rfl (Or.inl rfl) (wx zj)) (yf (j8 PassesOwn.never (y6 ycx (pv 1) jy (vd _)) (yf (yt (ji PySem.F.plainAttrs_list PySem.F.slot_list_append PySem.F.type_list_append w6 (pv 2) (pa1 (pv 1)))) (yc (yu (i:=1) yjq.nd rfl (Or.inl rfl) (ym (uq (u7 W) (ym (pv 0) rfl) (pv 1) (λF F=>rfl)) rfl))))) (yf (yt (yei PySem.F.plainAttrs_list PySem.F.slot_list_reverse PySem.F.type_list_reverse Ļ (pv 2))) (yc (yo (pv 2)))));exists by walk_at "len",λl f=>?_
 ext
 refine⟨λm σ' G=>∃(y:Φ)(R S:Η),σ'=[some (.ref J),some (baV y),some (.ref l)]/\To P y R/\R++S=L/\G l=some (.lst (nmL S).reverse)/\yw H G/\m=R.length,
  ⟨_,x,L,[],rfl,U,dZ L,ya,vg f,rfl⟩,?_⟩
 rintro m σ2 G ⟨y,R,S,rfl,N,j,g,B,rfl⟩;have O:=B _ _ q;have a2:=C.same B;have D:=To.len C U;have Y:S.length<=61:=by rw[<- j,cj]at D;omega
 ext
 cases y with
 |none =>
  refine yxe (λF=>?_) (λz=>absurd rfl z);have e:S=L:=by rw[show R=[]from N]at j;exact j
  ext;refine jh g ?_;ext;refine yar g ?_;rw[List.reverse_reverse,e];ext;exact k l _ f ya λb o z=>ye (yb z f) (B _ _ z)
 |some b =>
  refine yxe (λz=>nomatch z) (λF=>?_)
  let⟨r,p,rfl,u⟩:=N;exists _,λσ' H' z=>z,?_;ext;refine jh g ?_;ext;refine x0 g (vi (by unfold nmL;rw[List.length_reverse,bI];omega)) ?_;have c:yw H (upd G l (HO.lst ((nmL S).reverse++[baV (some r.nm)]))):=λb o e=>ye (yb e f) (B _ _ e);have t:upd G l (HO.lst ((nmL S).reverse++[baV (some r.nm)])) l=some (HO.lst ((nmL S).reverse++[baV (some r.nm)])):=ya;generalize upd G l (HO.lst ((nmL S).reverse++[baV (some r.nm)]))=G' at c t⊢;have M:=c _ _ q;have v:=C.same c;have a1:=(v.ob r p).1;ext;exists d,_,rfl,v.get p,?_;ext;exists r.path.length,?_,r.bs,r.path,(r.nm,r.tx)::S,rfl,C.wf r p,?_,?_,c,rfl
  .rw[u,cj,dm];omega
  .rw[<- j,u,cY];rfl
  .rw[ysg];exact t
#synth yk1 ["self","name","links","link"] ["self","name"] ywy
inductive Ł(K:z3)(a:Ads)(vs:Υ)(H:Hp)(Q:VK)(E':XK):Prop
 |mk(st ds ll d c dc p cl ct:z4)(lk tp:Μ)(n:Nat)(kd:Ξ)(ps:Λ)(mo w:Nat)(P:qi Pc)(L:Η)(ks:Υ)(U:Ν)(x:Φ)(L':Η)(_:vs=[.ref st,baV x])(_:jl K a H st ds ll d c dc p cl ct lk tp n kd ps mo w P L ks U)(_:To P x L')(_:∀(c' dc' p' cl' ct':z4)(ks':Υ)(U':Ν)(H':Hp),jl K a H' st ds ll d c' dc' p' cl' ct' lk tp n kd ps mo w P L' ks' U'->Go (StO st c cl ct U) H H' (StO st c' cl' ct' U')->NK H ks ks'->(V.non∈ks'->V.non∈ks.take L'.length)->Q (.ref c') H')
def ybr:vq P w K mg Γ (CXe P w) 12 a.M0 a.Ow ["self","name"] (Ł K a):=by
 exists T.Cd.F.okE,yk1,hr;let⟨O,ds,ll,d,c,dc,p,cl,ct,lk,tp,n,kd,ps,mo,w,P,L,ks,U,x,t,rfl,N,hL,k⟩:=h;have a8:=N.me;refine yg (yu (i:=2) yk1.nd rfl (Or.inl rfl) (wn (pv 0) T.A1 T.Es.m (yob T) hr.m T.Es.B .nil vh (pa1 (pv 1)))) ?_;refine yg (Ģ (wd (y6 (uk hr.units) (ym (ym (pv 0) rfl) rfl) (xp je (pv 2) uo (xv (pcB yr T.Ad (pa1 (ym (ym (pv 0) rfl) rfl))))) (vd _)) (yc (y7 (pv 0) (xz T.Dd (ybe T) hr.m rfl T.Dc T.Cy.B .nil yy (pa1 (ym (pv 0) rfl))) rfl)) ve)) ?_;refine yg (PS.nox (uh PassesOwn.never rfl (wz (xp je (pv 2) (xv (pcB yr T.Ad (pa1 (ym (ym (pv 0) rfl) rfl)))) uo)) (we (i:=3) yk1.nd rfl (Or.inl rfl)) (yc (yt (yv (ym (pv 0) rfl) T.Aj T.El.m (va1 T) hr.m T.El.B .nil y9 (pac (pv 3) (pac (ym (uq (u7 hr) (ym (pv 0) rfl) (pv 3) (λB B=>rfl)) rfl) (pa1 (ym (pv 0) rfl))))))))) ?_;exists 2,2,yc (yo (ym (pv 0) rfl));exists O,ds,d,_,_,_,n,kd,ps,w,P,x,t,rfl,a8,N.pz,hL,λl H1 aE ae S1=>?_;have ar:=S1 _ _ a8;have a6:=N.same S1;have aA:=a6.ch.me;have a7:=a6.ch.hl;let⟨y,hy⟩:=N.way;have au:=To.len N.pz hL;have ax:=To.len N.pz hy;ext;exists λσ2 G=>∃(W R p2 j f:z4)(J:Υ)(U2:Ν)(C:Η),σ2=[some (.ref O),some (baV x),some (.ref l),none]/\jl K a G O ds ll d W R p2 j f lk tp n kd ps mo w P C J U2/\Go (StO O c cl ct U) H G (StO O W j f U2)/\C=t.take C.length/\C.length<=t.length/\G l=some (.lst (nmL t))/\NK H ks J/\(V.non∈J->V.non∈ks.take t.length),?_,?_
 .ext;refine ut (SqL.of a7) ?_;ext;refine ybs (SqL.of ae) λq hq0=>?_;rw[Â,θ,ÿ];exists hq0,H2,S2,e2;have a5:=S1.trans S2;have I:=N.same a5;have a3:=I.me;have a1:=S2 _ _ ae;rw[ç]at e2;have a4:=I.ch.hl;rw[ç]at a4;refine ye1 _ _ (hy.ok N.pz) (λz hz=>hL.ok N.pz z (by let⟨u,hu,rfl⟩:=cn.mp hz;exact cn.mpr ⟨u,dz hu,rfl⟩)) (SqL.of a4) (SqL.of e2) ?_;by_cases he:L.map (·.1)=(t.take L.length).map (·.1)
  .rw[cz he];exists false,rfl,jq ?_;have e3:=To.ahead N.pz.nd N.pz.wf hy hL (by rw[ÿ];exact yqi he);have e4:=congrArg List.length e3;rw[cK]at e4;exists c,dc,p,cl,ct,ks,U,L,rfl,I,Go.refl.same a5,e3,(),a1,.refl,λz=>by rw[dn (by rw[N.ch.tx.len];omega)];exact z
  .rw[cH he];exists true,rfl,yac ?_;ext;intro c' a2 nc aa ay;have SQ:yw H2 (upd (upd H2 a2 (.own c')) c' (.ins a.A2 a2 [])):=λb o e=>by rw[yk (yb e nc),yk (yb e aa)];exact e
   exists c',a2,ll,n,lk,tp,kd,ps,rfl,ya,SQ _ _ I.lo,I.n1,I.n6,I.row.same SQ,λp' aj af U' HE Z a9 BE B=>⟨rfl,?_⟩;let⟨hR,gR,SE,hN⟩:=I.re nc aa Z a9 BE;have av:=SE _ _ a3;ext
   exists c',a2,p',aj,af,[],U',[],rfl,hR,gR.ahead a5,rfl,cP _,ye (λz=>by rw[z,a3]at a1;cases a1) (SE _ _ a1),.nil,λz=>nomatch z
 .rintro σ2 G ⟨W,R,p2,j,f,J,U2,C,rfl,hG,go,ah,am,ak,ag,al⟩;have aw:=hG.me;have az:=hG.ch.me;have ad:=hG.ch.hl;ext;refine ut (SqL.of ad) ?_;ext;refine ybs (SqL.of ak) λq hq0=>?_;rw[Â,ydr];have S1:=vg (o:=(HO.lst ((nmL t).drop C.length))) hq0;have e1:upd G q (HO.lst ((nmL t).drop C.length)) q=some (HO.lst ((nmL t).drop C.length)):=ya;generalize upd G q (HO.lst ((nmL t).drop C.length))=G1 at S1 e1⊢
  have ao:∀S F,Go (StO O W j f U2) G1 F (StO O W j f S)->jl K a G O ds ll d W R p2 j f lk tp n kd ps mo w P C J U2->F q=some (HO.lst ((nmL t).drop C.length)):=λS F g hG=>g.fr _ _ e1 λw=>by
   let⟨o,e⟩:=hG.lvO q w;rw[hq0]at e;cases e
  exists q,rfl,⟨_,SqL.of e1⟩,zd (K:=K) (a:=q) (xs:=(nmL t).drop C.length) (λi σ2 F=>∃(v:Ψ)(M:Υ)(S:Ν),σ2=[some (.ref O),some (baV x),some (.ref l),v]/\jl K a F O ds ll d W R p2 j f lk tp n kd ps mo w P (t.take (C.length+i)) M S/\Go (StO O W j f U2) G1 F (StO O W j f S)/\NK G1 J M/\(V.non∈M->V.non∈J)) ?_ ?_ ?_ ?_
  .rw[Nat.add_zero,<- ah];exists none,J,U2,rfl,hG.same S1,Go.refl,.refl,id
  .rintro i σ2 F _ ⟨v,M,S,rfl,D,g,Y,X⟩;exact SqL.of (ao S F g hG)
  .rintro i z σ2 F hz ⟨v,M,S,rfl,D,g,Y,X⟩
   have hj:C.length+i<t.length:=by
    rcases Nat.lt_or_ge (C.length+i) t.length with z|z
    .exact z
    .rw[df (by rw[dM,Â];omega)]at hz;cases hz
   let⟨r,a0,e3,e4,e5⟩:=hL.at' N.pz.wf hj
   obtain rfl:z=.str r.nm:=by
    rw[List.getElem?_drop,ç,cX,cu,ci hj,e3]at hz;cases hz;rfl
   have ab:=D.me;have aC:=D.ch.me;let⟨as,ac⟩:=D.pz.ob r a0;ext;exists d,_,rfl,D.pz.get a0,?_;ext;have aq:=D.pz.sz r a0;have hb:=D.wm;have hm:=yeg (L:=t.take (C.length+i)) (w:=w) (λy hy=>(hL.sz N.pz y (dz hy)).2) hb.2 (by rw[cK];omega);have an:=D.mo1;have aB:=ű (n:=n) (kd:=kd) (ps:=ps) (pre:=Æ ((t.take (C.length+i)).map (·.2))) (ts:=r.tx) D.n1 D.n6 (xy _) ();exists W,R,p2,j,f,n,kd,ps,t.take (C.length+i),M,mOf (t.take (C.length+i)),S,r.dl,r.nm,r.tx,[],mo,rfl,D.ch,by rw[cK];omega,aq.1,?_,λw=>D.nw r.dl (.inr (.inr (.inr ⟨r,a0,.inr rfl⟩))) (.inr (.inr (.inr w))),(λb hb=>by cases hb),by rw[dZ];omega,(),an,(),λq3 U4 F2 ai Z g2=>?_
   .rw[dZ,<- e4];exact ac
   rw[<- yee,<- e3,<- cM hj]at Z;let⟨h4,g4⟩:=D.go Z g2 ⟨_,e5⟩;ext;exists _,_,U4,rfl,h4,g.trans g4,Y.app (λq e=>by cases e;exact g.free ai),λz=>X ((cQ.mp z).elim id λy=>by cases cJ.mp y)
  .rintro σ2 F ⟨v,M,S,rfl,D,g,Y,X⟩;rw[dM,Â,Nat.add_sub_cancel' am,dh]at D;have ab:=D.me;ext;exact k W R p2 j f M S F D (go.trans (g.ahead S1)) (ag.trans Y λq e=>go.free (S1.free e)) λz=>al (X z)
def Å.lvW{H:Hp}{c p ll:z4}{n:Nat}{kd:Ξ}{ps:Λ}{ks:Υ}{M:Nat}{W:Ν}(h:Å K a H c dc p ll tl n kd ps L ks M W):∀x,StW c ll tl W x->∃o,H x=some o:=λx b=>by
 rcases b with z|z|z|z
 .exists _,by rw[z];exact h.me
 .exists _,by rw[z];exact h.hl
 .exists _,by rw[z];exact h.ht
 .exact h.fz.live x z
def Å.butM{H H':Hp}{c p ll:z4}{n:Nat}{kd:Ξ}{ps:Λ}{ks:Υ}{M:Nat}{W:Ν}(h:Å K a H c dc p ll tl n kd ps L ks M W){o:HO}(hq:H q=some o)(ho:yq0 o=true)(nq:¬StW c ll tl W q)(B:But q H H'):Å K a H' c dc p ll tl n kd ps L ks M W:=by
 have b:∀{x:z4}{d:Υ},H x=some (.lst d)->x≠q:=λ{x d}e z=>by rw[z,hq]at e;cases e;cases ho
 exists B _ _ h.me λz=>nq (.inl z.symm),h.fz.frame (W2:=λx=>x=q) (λx z=>⟨o,by rw[show x=q from z];exact hq,.inl ho⟩) (λx w z=>nq (.inr (.inr (.inr (by rw[<- show x=q from z];exact w))))) (λx o e g=>B x o e g),B _ _ h.hl (b h.hl),B _ _ h.ht (b h.ht),h.tx.mono λx d e f=>⟨B _ _ e (b e),f⟩,h.nc,h.nll,h.ntl,h.ne
def To.more{P:qi Pc}{q:Pc}{x:Φ}(h:To P x L):To (P++[q]) x L:=by
 cases x with
 |none=>exact h
 |some b =>
  let⟨r,a,e⟩:=h;exists r,dP _ a,e
section
variable{H H1 H2 H3:Hp}{ll d c p ct:z4}{lk:Μ}{n:Nat}{kd:Ξ}{ps:Λ}{mo w:Nat}{P:qi Pc}{ks ks':Υ}
def jl.put(h:jl K a H st ds ll d c dc p cl ct lk tp n kd ps mo w P L ks U){b:Str}{x:Φ}{r ob od:z4}(hc:Å K a H1 c dc p cl ct n kd ps (L++[(b,ts)]) ks' (mOf L+6*(dec ts).length) U')(g:Go (ChW cl ct U) H H1 (ChW cl ct U'))(hr0:H r=none)(hr:H1 r=some (.lst ((zl n kd ps (Æ (L.map (·.2))) ts).map V.int)))(hob0:H1 ob=none)(S:yw H1 H2)(hob:H2 ob=some (.ins a.Aa od (ĝ (baV x) (.ref r))))
  (hL:To P x L) (hL6:L.length<=60) (hts:Sgs ts) (htz:ts.length<=w) (hb1:nmS b=true) (hb2:PyData.strOk b=true) (hno:∀q,q∈P->q.nm≠b) (hP:P.length<60):
  jl K a (upd H2 d (.dK (pcs (P++[⟨b,x,L,ts,ob,od,r⟩])))) st ds ll d c dc p cl ct lk tp n kd ps mo w (P++[⟨b,x,L,ts,ob,od,r⟩]) (L++[(b,ts)]) ks' U'/\Go (λy=>y=d\/StO st c cl ct U y) H (upd H2 d (.dK (pcs (P++[⟨b,x,L,ts,ob,od,r⟩])))) (λy=>y=d\/StO st c cl ct U' y):=by
 have g1:Go (StW c cl ct U) H H1 (StW c cl ct U'):=g.or (Y:=λx=>x=c);have f:∀x o,H x=some o->(x=st\/x=ll\/x=d\/∃q,q∈P/\(x=q.ob\/x=q.dl))->H2 x=some o:=λx o e C=>S _ _ (g1.fr x o e (h.nw x C));have k:=f _ _ h.me (.inl rfl);have l:=f _ _ h.lo (.inr (.inl rfl));have j:=f _ _ h.pz.dk (.inr (.inr (.inl rfl)));have u:=g1.apart (λx C=>h.lv x C) h.nw;have t:xn H2 n lk kd tp ps:=h.row.fr λx M e=>S _ _ (g1.fr _ _ e (h.ch.noTup e));have B:Å K a H2 c dc p cl ct n kd ps (L++[(b,ts)]) ks' (mOf (L++[(b,ts)])) U':=by rw[yee];exact hc.same S
 have A:¬StW c cl ct U' ob:=λz=>by
  let⟨o,e⟩:=hc.lvW ob z;rw[hob0]at e;cases e
 have I:¬StW c cl ct U' r:=λz=>by
  rcases z with z|z|z|z
  .rw[z,h.ch.me]at hr0;cases hr0
  .rw[z,h.ch.hl]at hr0;cases hr0
  .rw[z,h.ch.ht]at hr0;cases hr0
  .exact hc.fz.sh.ints hr (yd9 h.n1 h.n6 (xy _)) z
 exists⟨ye (λz=>by rw[z,j]at k;cases k) k,h.n1,h.n6,ye (λz=>by rw[z,j]at l;cases l) l,t.fr λx M e=>ye (λz=>by rw[z,j]at e;cases e) e,⟨ya,λq i=>?_,?_,λq i=>?_,λq i=>?_,?_,λq i=>?_⟩,B.butM j rfl (u d (.inr (.inr (.inl rfl)))) But.upd,λy s=>?_,h.mo1,h.wm,⟨some b,_,cN _ (cJ.mpr rfl),rfl,rfl⟩⟩,⟨λy o e E=>?_,λy z=>?_,λy o e=>?_⟩
 .rcases cQ.mp i with z|z
  .have D:=f _ _ (h.pz.ob q z).1 (.inr (.inr (.inr ⟨q,z,.inl rfl⟩)));have m:=f _ _ (h.pz.ob q z).2 (.inr (.inr (.inr ⟨q,z,.inr rfl⟩)));exists ye (λz=>by rw[z,j]at D;cases D) D,ye (λz=>by rw[z,j]at m;cases m) m
  .obtain rfl:=cJ.mp z;have m:=S _ _ hr;exists ye (λz=>by rw[show ob=d from z,j]at hob;cases hob) hob,ye (λz=>by rw[show r=d from z,j]at m;cases m) m
 .rw[cA];refine List.nodup_append.mpr ⟨h.pz.nd,(by simp),λy s z F e=>?_⟩;let⟨q,i,rfl⟩:=cn.mp s;rw[List.map_singleton,cJ]at F;exact hno q i (e.trans F)
 .rcases cQ.mp i with z|z
  .exact(h.pz.wf q z).more
  .obtain rfl:=cJ.mp z;exact hL.more
 .rcases cQ.mp i with z|z
  .exact h.pz.sz q z
  .obtain rfl:=cJ.mp z;exists hts,htz,hL6,λy s=>hL.sz h.pz y s
 .rw[cj,dm];omega
 .rcases cQ.mp i with z|z
  .exact h.pz.nm q z
  .obtain rfl:=cJ.mp z;exists hb1,hb2
 .rcases s with z|z|z|⟨q,i,z⟩
  .exact u y (.inl z)
  .exact u y (.inr (.inl z))
  .exact u y (.inr (.inr (.inl z)))
  .rcases cQ.mp i with v|v
   .exact u y (.inr (.inr (.inr ⟨q,v,z⟩)))
   .obtain rfl:=cJ.mp v;rcases z with z|z
    .rw[z];exact A
    .rw[z];exact I
 .exact ye (λz=>E (.inl z)) (S _ _ (g1.fr y o e λz=>E (.inr (.inr z))))
 .rcases z with z|z|z
  .exact .inl (.inl z)
  .exact .inl (.inr (.inl z))
  .exact(g1.nw y z).imp (λz=>.inr (.inr z)) id
 .obtain⟨J,G⟩:=g1.lv y o e;by_cases z:y=d
  .exists _,by rw[z];exact ya
  .exists J,ye z (S _ _ G)
end
#synth yki ["self","name","text","base","signs","data"] ["self","name","text","base"] yge
inductive yj7(K:z3)(a:Ads)(vs:Υ)(H:Hp)(Q:VK)(E:XK):Prop
 | mk(st ds ll d c dc p cl ct:z4)(lk tp:Μ)(n:Nat)(kd:Ξ)(ps:Λ)(mo w:Nat)(P:qi Pc)(L:Η)(ks:Υ)(U:Ν)(b:Str)(x:Φ)(tx:z4)(ts:Ρ)(_:vs=[.ref st,.str b,.ref tx,baV x])(_:jl K a H st ds ll d c dc p cl ct lk tp n kd ps mo w P L ks U)(_:nmS b=true)(_:PyData.strOk b=true)(_:î H tx ts 1000)(_:(∀y,x=some y->nmS y=true))(_:P.length<60)(_:(mo<ts.length->∀H',yw H H'->E (.ref a.Al) none H'))(_:(ts.length<=mo->(∃r,r∈P/\r.nm=b)->∀H',yw H H'->E (.ref a.Au) none H'))(_:(ts.length<=mo->(∀q,q∈P->q.nm≠b)->∀y,x=some y->(∀q,q∈P->q.nm≠y)->∀H',yw H H'->E (.ref a.A6) none H'))(_:(ts.length<=mo->(∀q,q∈P->q.nm≠b)->∀L',To P x L'->ts.length<=w/\L'.length<=60/\
 ∀(ob od dl c' dc' p' cl' ct':z4)(ks':Υ)(U':Ν)(H':Hp),jl K a H' st ds ll d c' dc' p' cl' ct' lk tp n kd ps mo w (P++[⟨b,x,L',ts,ob,od,dl⟩]) (L'++[(b,ts)]) ks' U'->H ob=none->H dl=none->Go (λy=>y=d\/StO st c cl ct U y) H H' (λy=>y=d\/StO st c' cl' ct' U' y)->NK H ks ks'->Q .non H'))
def ybk:vq P w K mg Γ (CXe P w) 13 a.Dw a.Op ["self","name","text","base"] (yj7 K a):=by
 exists T.Sy.okE,yki,D;let⟨N,ds,ll,d,c,dc,p,cl,ct,lk,tp,n,kd,ps,mo,w,P,L,ks,U,b,x,tx,ts,rfl,Z,S,ag,v,J,ao,kL,kT,kN,k⟩:=h;have aw:=Z.me;refine yg (yt (ul (yeu T) D.m T.En yy (pa1 (pv 1)))) ?_;refine yg (yu (i:=4) yki.nd rfl (Or.inl rfl) (ul (ywr T) D.m T.Q5 yy (pa1 (pv 2)))) ?_;refine yg (yt (ul (yyu T) D.m T.Pr yy (pa1 (pv 3)))) ?_;refine yg (yt (yv (pv 0) T.A1 T.Ep.m (ypr T) D.m T.Ep.B .nil yy (pa1 (pv 4)))) ?_;refine yg (yt (yv (pv 0) T.A1 T.Er.m (ypp T) D.m T.Er.B .nil yy (pac (pv 1) (pa1 (pv 3))))) ?_;refine yg (yu (i:=5) yki.nd rfl (Or.inl rfl) (wn (yv (pv 0) T.A1 T.Cd.m (ybr T) D.m T.Cd.B .nil yy (pa1 (pv 3))) T.Aj T.Ja.m (yyl T) D.m T.Ja.B .nil vh (pac (pv 1) (pa1 (pv 4))))) ?_;exists _,(yc (ju (u7 D) (ym (pv 0) rfl) (pv 1) (Á T.Py (yqk T) D.m rfl T.Px T.Eo.B .nil vh (pac (pv 3) (pa1 (pv 5)))) rfl)),?_;exists 4,2;have aA:=uc S;have F:∀y,x=some y->nmS y=true/\y.length<=8:=λy e=>⟨J y e,uc (J y e)⟩;have ap:=Z.wm;have ar:=Z.mo1;ext;exists .str b,"str",rfl,.str b,(λs e=>by cases e;omega),λB H1 S1=>?_,λz=>by rw[show nmV (.str b)=nmS b from rfl,S]at z;cases z
 have f:=v.same S1;ext;exists .ref tx,_,rfl,.lst f.l,.inr ⟨ts.map V.int,Ů f.l f.s (by have:=f.z;omega),λsg H2 a6 a2 S2=>?_⟩;ext
 have X:∃nt,xt K H2 (baV x) (.type nt):=by
  cases x with
  |none=>exists _,.non
  |some y=>exists _,.str y
 let⟨nt,X⟩:=X
 have ac:baV x=.non\/nmV (baV x)=true:=by
  cases x with
  |none=>exact .inl rfl
  |some y=>exact .inr (F y rfl).1
 exists baV x,nt,rfl,X,(λs e=>?_),λB H3 S3=>?_,λz1 z2=>absurd ac λz=>z.elim z1 λz=>by rw[z2]at z;cases z
 .cases x with
  |none=>cases e
  |some y=>cases e;have:=(F _ rfl).2;omega
 have u:=S1.trans (S2.trans S3);have a0:=Z.same u;have M:=a0.me;have I:=S3 _ _ a2;ext;exists N,ds,sg,_,_,_,mo,_,rfl,M,I,λt=>?_,λz=>kL (by rw[bI]at z;omega) _ u;have t:ts.length<=mo:=by rw[bI]at t;omega
 ext;exists N,ds,d,_,_,_,n,kd,ps,w,P,b,x,rfl,M,a0.pz,(λy e=>⟨(F y e).1,by have:=(F y e).2;omega⟩),(λhx=>kT t hx _ u),λC=>⟨λy e an H4 S4=>kN t C y e an _ (u.trans S4),λL' hL=>⟨λz=>absurd z (),λB H4 S4=>?_⟩⟩;let⟨aj,ah,k⟩:=k t C L' hL;have j:=u.trans S4;have a5:=Z.same j;have as:=a5.me;have G:=S4 _ _ I;ext;exists N,ds,ll,d,c,dc,p,cl,ct,lk,tp,n,kd,ps,mo,w,P,L,ks,U,x,L',rfl,a5,hL,λc' a8 p' W O ab U' H5 R g5 ak B=>?_;have au:=R.ch.me
 have a7:¬StO N c cl ct U sg:=λz=>by
  let⟨o,e⟩:=Z.lvO sg z;rw[S1.free a6]at e;cases e
 have a3:=g5.fr _ _ G a7;have a1:¬StO N c' W O U' sg:=λz=>(g5.nw sg z).elim a7 λe=>by rw[G]at e;cases e
 have hm:=yeg (L:=L') (w:=w) (λy hy=>(hL.sz Z.pz y hy).2) ap.2 ();have ay:=ub ts;have av:=v.z;ext;exists c',a8,p',W,O,n,kd,ps,L',ab,mOf L',U',sg,b,ts,rfl,R.ch,(),⟨a3,v.s,()⟩,λz=>a1 (.inr (.inr (.inr (.inr z)))),(),λr U6 H6 a4 ai ad g6=>?_
 have af:=g6.fr _ _ R.me λz=>R.nw N (.inl rfl) (.inr z);have ae:=g6.fr _ _ R.pz.dk λz=>R.nw d (.inr (.inr (.inl rfl))) (.inr z);ext;intro ob od g aa ax;have SQ:yw H6 (upd (upd H6 od (.own ob)) ob (.ins a.Aa od [])):=λb o e=>by rw[yk (yb e g),yk (yb e aa)];exact e
 exists ob,od,baV x,.ref r,rfl,ya,λH7 a9 B7=>⟨rfl,?_⟩;have S7:yw H6 H7:=λy o e=>B7 _ _ (SQ _ _ e) (yb e g);have aq:=S7 _ _ af;ext;exists d,_,rfl,ydc.k (k:=.inr b) (S7 _ _ ae) (vi (by unfold pcs;rw[bI];omega)),?_;rw[jb _ (ykv C)];let⟨z1,z2⟩:=R.put (x:=x) ad g6 a4 ai g S7 a9 hL ah v.s aj S ag C ao;have e8:pcs (P++[⟨b,x,L',ts,ob,od,r⟩])=pcs P++[(.inr b,.ref ob)]:=by unfold pcs;rw[cA];rfl
 rw[e8]at z1 z2;have am:∀{y:z4},H6 y=none->H y=none:=λ{y}e=>j.free (g5.free (g6.free e))
 exact k ob od r c' a8 p' W O _ U6 _ z1 (am g) (j.free (g5.free a4)) (((g5.ahead j).or (Y:=λy=>y=d)).trans z2) ((NK.refl.trans ak λB e=>j.free e).app λq e=>nomatch e)
def Sto.putE{H:Hp}{C:Cf}{P:qi Pd}{X:Sx}{Q:VK}{E:XK}(h:Sto K a H st C P X){b:Str}{x:Φ}{tx:z4}(hb:okN b)(htx:î H tx ts 1000)(hx:∀y,x=some y->nmS y=true)(hP:P.length<60)
  (kL:C.mo<ts.length->∀H',yw H H'->E (.ref a.Al) none H') (kT:ts.length<=C.mo->(∃r,r∈P/\r.nm=b)->∀H',yw H H'->E (.ref a.Au) none H') (kN:ts.length<=C.mo->(∀q,q∈P->q.nm≠b)->∀y,x=some y->(∀q,q∈P->q.nm≠y)->∀H',yw H H'->E (.ref a.A6) none H')
  (k:ts.length<=C.mo->(∀q,q∈P->q.nm≠b)->∀L,ToD P x L->ts.length<=C.w/\L.length<=60/\∀Y H',Sto K a H' st C (P++[⟨b,x,L,ts⟩]) Y->Gx X H H' Y->Q .non H'):yj7 K a [.ref st,.str b,.ref tx,baV x] H Q E:=by
 let⟨I,G,d,c,T,p,cl,ct,J,F,D,L0,N,U,s,rfl,rfl⟩:=h;rw[bI]at hP
 have A:∀{z:Str},(∀q,q∈D->q.nm≠z)->∀q,q∈D.map Pc.pd->q.nm≠z:=λ{z}hz q m=>by
  let⟨u,hu,rfl⟩:=cn.mp m;exact hz u hu
 exists st,I,G,d,c,T,p,cl,ct,J,F,C.n,C.kd,C.ps,C.mo,C.w,D,L0,N,U,b,x,tx,ts,rfl,s,hb.1,hb.2,htx,hx,hP,kL,(λf ⟨r,M,e⟩=>kT f ⟨r.pd,cn.mpr ⟨r,M,rfl⟩,e⟩),(λf j y e h3=>kN f (A j) y e (A h3)),λf j L hL=>?_;let⟨R,S,k⟩:=k f (A j) L (æ.mpr hL);exists R,S,λob od dl c' t O v o i U' H' s' B l g Z=>k _ H' ⟨I,G,d,c',t,O,v,o,J,F,_,_,i,U',s',by rw[cA];rfl,rfl⟩ (Gx.of g Z λq m=>?_);rcases cQ.mp m with z|z
 .exact .inl z
 .rw[cJ.mp z];exact .inr ⟨B,l⟩
def Sto.put{H:Hp}{C:Cf}{P:qi Pd}{X:Sx}{Q:VK}{E:XK}(h:Sto K a H st C P X){b:Str}{x:Φ}{tx:z4}(hb:okN b)(htx:î H tx ts C.w)(hL:ToD P x L)(hno:∀q,q∈P->q.nm≠b)(hP:P.length<60)
  (k:∀Y H',Sto K a H' st C (P++[⟨b,x,L,ts⟩]) Y->Gx X H H' Y->Q .non H'):yj7 K a [.ref st,.str b,.ref tx,baV x] H Q E:=by
 have j:=h.cf;have i:=htx.z
 have d:∀y,x=some y->∃r,r∈P/\r.nm=y:=λy e=>by
  subst e;let⟨r,c,e,_⟩:=hL;exact⟨r,c,e⟩
 refine h.putE hb ⟨htx.l,htx.s,()⟩ (λy e=>?_) hP (λz=>absurd z ()) (λZ ⟨r,c,e⟩=>absurd e (hno r c)) (λZ Z y e g=>?_) λZ Z m f=>⟨i,?_,?_⟩
 .obtain⟨r,c,e⟩:=d y e;rw[<- e];exact(h.nm r c).1
 .obtain⟨r,c,e⟩:=d y e;exact absurd e (g r c)
 .have:=f.len h.pw;omega
 .rw[ToD.uniq h.nd f hL];exact k
def Fr(F:Ν)(H H':Hp):Prop:=∀y o,H y=some o->¬F y->H' y=some o
def Rfs(a:Ads)(c:z4):Prop:=c=a.Fk\/c=a.At\/c=a.Ag\/c=a.Au\/c=a.Ci\/c=a.Dz
structure PGo(C:Cf)(P:qi Pd)(b:Str)(L:Η)(d ts bs:Ρ):Prop where
 nm:nmS b=true
 no:∀q,q∈P->q.nm≠b
 z:P.length<60
 s:Sgs ts
 l:ts.length<=C.mo
 e:d=zl C.n C.kd C.ps (Æ (L.map (·.2))) ts++bs
#synth ykk ["self","name","data","base","chain","own"] ["self","name","data","base"] yup
inductive yrt(K:z3)(a:Ads)(vs:Υ)(H:Hp)(Q:VK)(E:XK):Prop
 |mk(st dt:z4)(C:Cf)(P:qi Pd)(X:Sx)(b:Str)(x:Φ)(L:Η)(d:Ρ)(_:vs=[.ref st,.str b,.ref dt,baV x])(_:Sto K a H st C P X)(_:PyData.strOk b=true)(_:b.length<=1000)(_:H dt=some (.lst (d.map V.int)))(_:¬X.f dt)(_:Byt d)(_:d.length<=12000)(_:(∀ts bs,PGo C P b L d ts bs->ts.length<=C.w))(_:ToD P x L)(_:(∀ts bs,PGo C P b L d ts bs->∀Y H',Sto K a H' st C (P++[⟨b,x,L,ts⟩]) Y->Gx X H H' Y->Q (.int ((zl C.n C.kd C.ps (Æ (L.map (·.2))) ts).length:Nat)) H'))(_:((∀ts bs,¬PGo C P b L d ts bs)->∀c H',Rfs a c->Fr X.f H H'->E (.ref c) none H'))
def vbu:vq P w K mg Γ (CXe P w) 13 a.Lu a.Oq ["self","name","data","base"] (yrt K a):=by
 exists T.Jd.F.okE,ykk,O;let⟨j,dt,C,P,X,b,x,L',da,rfl,a3,aw,aL,ay,an,ao,ac,aA,a5,kQ,kE⟩:=h
 have aC:∀y,x=some y->nmS y=true/\y.length<=100000:=λy e=>by
  subst e;let⟨r,O,e,_⟩:=a5;have h1:=(a3.nm r O).1;rw[e]at h1;have:=uc h1;exists h1,()
 have aQ:=a5.len a3.pw;let⟨ds,S,d,c,dc,p,cl,ct,lk,tp,Qs,L,ks,U,hS,rfl,rfl⟩:=id a3;have hL:=æ.mp a5;have aR:(Qs.map Pc.pd).length=Qs.length:=bI _;have aO:=hS.pz.z;have aJ:=hS.me;have aD:=hS.wm;have a1:=hS.mo1;refine yg (yt (ul (yeu T) O.m T.En yy (pa1 (pv 1)))) ?_;refine yg (yt (yv (pv 0) T.A1 T.Er.m (ypp T) O.m T.Er.B .nil yy (pac (pv 1) (pa1 (pv 3))))) ?_;refine yg (yu (i:=4) ykk.nd rfl (Or.inl rfl) (yv (pv 0) T.A1 T.Cd.m (ybr T) O.m T.Cd.B .nil yy (pa1 (pv 3)))) ?_;refine yg (y7 (pv 0) (xz T.Dd (ybe T) O.m rfl T.Dc T.Cy.B .nil yy (pa1 (ym (pv 0) rfl))) rfl) ?_;refine yg (yu (i:=5) ykk.nd rfl (Or.inl rfl) (yv (pv 4) T.Aj T.El.m (ξ T) O.m T.El.B .nil yy (pac (pv 1) (pac (pv 2) (pa1 (ym (pv 0) rfl)))))) ?_;refine yg (y7 (pv 0) (pv 4) rfl) ?_;refine yg (ju (u7 O) (ym (pv 0) rfl) (pv 1) (Á T.Py (yqk T) O.m rfl T.Px T.Eo.B .nil vh (pac (pv 3) (pa1 (xp je (pv 2) uo (xv (pv 5)))))) rfl) ?_;exists 4,2,yc (yo (pv 5));exists .str b,"str",rfl,.str b,(λs e=>by cases e;omega),λah H1 S1=>?_,λz H1 S1=>kE (λv J g=>by rw[show nmV (.str b)=nmS b from rfl,g.nm]at z;cases z) _ _ (.inr (.inr (.inl rfl))) λy o e F=>S1 _ _ e;have ag:=hS.same S1;have ad:=ag.me;ext;exists j,ds,d,_,_,_,C.n,C.kd,C.ps,C.w,Qs,b,x,rfl,ad,ag.pz,aC,(λ⟨r,O,e⟩=>kE (λv J g=>g.no _ (cn.mpr ⟨r,O,rfl⟩) e) _ _ (.inr (.inr (.inr (.inl rfl)))) λy o e F=>S1 _ _ e),λa6=>⟨λy e no=>?_,λL2 aI=>⟨λz H2 S2=>kE (λv J g=>by have:=g.z;omega) _ _ (.inr (.inr (.inr (.inr (.inl rfl))))) λy o e F=>S2 _ _ (S1 _ _ e),λz H2 S2=>?_⟩⟩
 .subst e;let⟨r,O,e,_⟩:=hL;exact absurd e (no r O)
 have a7:=S1.trans S2;have ai:=hS.same a7;have aE:=ai.me;ext;exists j,ds,S,d,c,dc,p,cl,ct,lk,tp,C.n,C.kd,C.ps,C.mo,C.w,Qs,L,ks,U,x,L',rfl,ai,hL,λc' aa p' G D ab U' H5 h5 g5 ax F=>?_;have R:=g5.ahead a7;have a2:=h5.me;have N:=h5.nw j (.inl rfl);ext;intro c2 a4 nc aB aH;have SQ:yw H5 (upd (upd H5 a4 (.own c2)) c2 (.ins a.A2 a4 [])):=λb o e=>by rw[yk (yb e nc),yk (yb e aB)];exact e
 exists c2,a4,S,C.n,lk,tp,C.kd,C.ps,rfl,ya,SQ _ _ h5.lo,h5.n1,h5.n6,h5.row.same SQ,λp2 aN aG U2 HE F F BE F=>⟨rfl,?_⟩;have SE:yw H5 HE:=λb o e=>BE _ _ (SQ _ _ e) (yb e nc);have ak:=SE _ _ a2;ext;have b6:But j HE (upd HE j (.ins a.A0 ds (vy (.ref S) (.int C.mo) (.ref d) (.ref c2)))):=But.upd;have t:upd HE j (.ins a.A0 ds (vy (.ref S) (.int C.mo) (.ref d) (.ref c2))) j=some (.ins a.A0 ds (vy (.ref S) (.int C.mo) (.ref d) (.ref c2))):=ya;generalize upd HE j (.ins a.A0 ds (vy (.ref S) (.int C.mo) (.ref d) (.ref c2)))=H6 at b6 t⊢;have a8:=(h5.ch.same SE).but ak N b6;have aK:=a8.me
 have nW:∀{y:z4}{o:HO},H y=some o->¬(yn5 d j c cl ct U S Qs ks).f y->H6 y=some o/\¬StW c' G D U' y:=λ{y o}e nf=>by
  have h1:=R.fr y o e λw=>nf (.inl (.inr w));exists b6 _ _ (SE _ _ h1) λz=>nf (.inl (.inr (.inl z))),λw=>?_;rcases R.nw y (.inr w)with z|z
  .exact nf (.inl (.inr z))
  .rw[e]at z;cases z
 let⟨W,Z⟩:=nW ay an;have hm:=yeg (L:=L') (w:=C.w) (λy hy=>(hL.sz hS.pz y hy).2) aD.2 ();ext;by_cases hg:∃v J,Sgs v/\v.length<=C.mo/\da=zl C.n C.kd C.ps (Æ (L'.map (·.2))) v++J
 .obtain⟨v,J,a9,aj,rfl⟩:=hg
  have ae:PGo C (Qs.map Pc.pd) b L' (zl C.n C.kd C.ps (Æ (L'.map (·.2))) v++J) v J:=⟨ah,λq hq=>by
   let⟨u,hu,rfl⟩:=cn.mp hq;exact a6 u hu,(),a9,aj,rfl⟩
  have aM:=aA v J ae;refine .inl ⟨c',aa,p',G,D,C.n,C.kd,C.ps,L',ab,mOf L',U',dt,b,v,J,C.mo,rfl,a8,(),a9,W,λw=>Z (.inr (.inr (.inr w))),λy hy=>ao y (cN _ hy),ac,aj,a1,(),λq U7 H7 a0 av g7=>?_⟩
  have ap:¬StW c' G D U7 j:=λw=>by
   rcases w with z|z
   .exact N (.inl z)
   .rcases g7.nw j z with z|z
    .exact N (.inr z)
    .rw[t]at z;cases z
  have af:=g7.fr _ _ t λz=>N (.inr z);ext;have b8:But j H7 (upd H7 j (.ins a.A0 ds (vy (.ref S) (.int C.mo) (.ref d) (.ref c')))):=But.upd;have I:upd H7 j (.ins a.A0 ds (vy (.ref S) (.int C.mo) (.ref d) (.ref c'))) j=some (.ins a.A0 ds (vy (.ref S) (.int C.mo) (.ref d) (.ref c'))):=ya;generalize upd H7 j (.ins a.A0 ds (vy (.ref S) (.int C.mo) (.ref d) (.ref c')))=H8 at b8 I⊢;have ar:=av.but af ap b8
  have g8:Go (ChW G D U') H5 H8 (ChW G D U7):=by
   exists λy o e nw=>?_,λy w=>(g7.nw y w).imp id λe=>?_,λy o e=>?_
   .by_cases z:y=j
    .rw[z]at e⊢;rw[a2]at e;rw[I,<- e]
    .exact b8 _ _ (g7.fr y o (b6 _ _ (SE _ _ e) z) nw) z
   .cases e5:H5 y with
    |none=>rfl
    |some o =>
     by_cases z:y=j
     .rw[z,t]at e;cases e
     .rw[b6 _ _ (SE _ _ e5) z]at e;cases e
   .by_cases z:y=j
    .exists _,by rw[z];exact I
    .obtain⟨o',e'⟩:=g7.lv y o (b6 _ _ (SE _ _ e) z);exists o',b8 _ _ e' z
  have as:=g8.fr _ _ h5.pz.dk λz=>h5.nw d (.inr (.inr (.inl rfl))) (.inr z);have am:=b8 _ _ (g7.fr _ _ W λz=>Z (.inr z)) (λz=>an (by rw[z];exact .inl (.inr (.inl rfl))));ext;refine ybs (SqL.of am) λr hr0=>?_;rw[θ,<- List.map_take,List.take_left];exists hr0,H9,S9,hr9;ext;intro ob od M aq aP;have au:yw H9 (upd (upd H9 od (.own ob)) ob (.ins a.Aa od [])):=λb o e=>by rw[yk (yb e M),yk (yb e aq)];exact e
  exists ob,od,baV x,.ref r,rfl,ya,λHA al BA=>⟨rfl,?_⟩;have SA:yw H9 HA:=λy o e=>BA _ _ (au _ _ e) (yb e M);have aF:=SA _ _ (S9 _ _ I);ext;exists d,_,rfl,ydc.k (k:=.inr b) (SA _ _ (S9 _ _ as)) (vi (by unfold pcs;rw[bI];omega)),?_;rw[jb _ (ykv a6)];have g9:=g8.same S9;let⟨z1,z2⟩:=h5.put (x:=x) (ar.same S9) g9 (g8.free hr0) hr9 M SA al hL () a9 () ah aw a6 ();have e8:pcs (Qs++[⟨b,x,L',v,ob,od,r⟩])=pcs Qs++[(.inr b,.ref ob)]:=by unfold pcs;rw[cA];rfl
  rw[e8]at z1 z2;ext;refine kQ v J ae _ _ ⟨ds,S,d,c',aa,p',G,D,lk,tp,_,_,_,U7,z1,by rw[cA];rfl,rfl⟩ (Gx.of ((R.or (Y:=λy=>y=d)).trans z2) ((NK.refl.trans ax λF e=>a7.free e).app λq e=>?_) λq hq=>?_)
  .cases e;refine R.free ?_
   cases e5:H5 q with
   |none=>rfl
   |some o =>
    by_cases z:q=j
    .rw[z,t]at a0;cases a0
    .rw[b6 _ _ (SE _ _ e5) z]at a0;cases a0
  .rcases cQ.mp hq with z|z
   .exact .inl z
   .rw[cJ.mp z];exact .inr ⟨R.free (g9.free M),R.free (g8.free hr0)⟩
 .refine .inr ⟨c',aa,p',G,D,C.n,C.kd,C.ps,L',ab,mOf L',U',dt,b,da,C.mo,rfl,a8,W,λw=>Z (.inr (.inr (.inr w))),ao,ac,a1,(),λv J h1 h2 h3=>hg ⟨v,J,h1,h2,h3⟩,λH7 fr=>kE (λv J g=>hg ⟨v,J,g.s,g.l,g.e⟩) _ _ (.inr (.inr (.inr (.inr (.inr rfl))))) λy o e nf=>?_⟩;let⟨h1,h2⟩:=nW e nf;exact fr y o h1 λw=>h2 (.inr (.inr (.inr w)))
theorem yab.get{H:Hp}:∀{L:Η}{ks:Υ},yab H U L ks->∀{j:Nat}(hj:j<L.length),∃k,ks[j]?=some k/\(k=.non\/∃q,k=.ref q/\H q=some (.lst (L[j].2.map V.int))/\¬U q)
 |[],_,_,j,hj=>absurd hj (cS j)
 |x::r,_,⟨k,ks',e,z,h⟩,0,hj=>⟨k,by rw[e];rfl,z⟩
 |x::r,_,⟨k,ks',e,z,h⟩,j+1,hj=>by
  let⟨a,b,c⟩:=h.get (Nat.lt_of_succ_lt_succ hj);exists a,by rw[e,List.getElem?_cons_succ];exact b,c
#synth yp3 ["self","name","links"] ["self","name"] ywp
inductive ye9(K:z3)(a:Ads)(vs:Υ)(H:Hp)(Q:VK)(E':XK):Prop
 |mk(st ds ll d c dc p cl ct:z4)(lk tp:Μ)(n:Nat)(kd:Ξ)(ps:Λ)(mo w:Nat)(P:qi Pc)(L:Η)(ks:Υ)(U:Ν)(x:Φ)(L':Η)(_:vs=[.ref st,baV x])(_:jl K a H st ds ll d c dc p cl ct lk tp n kd ps mo w P L ks U)(_:To P x L')(_:∀(c' dc' p' cl' ct':z4)(L2:Η)(ks':Υ)(U':Ν)(r:z4)(cx:Μ)(H1 H':Hp),jl K a H1 st ds ll d c' dc' p' cl' ct' lk tp n kd ps mo w P L2 ks' U'->Go (StO st c cl ct U) H H1 (StO st c' cl' ct' U')->NK H ks ks'->yw H1 H'->H1 r=none->H' r=some (.lst (refs cx L'.length))->(∀i,i<L'.length->H1 (cx i)=none/\cx i≠r/\H' (cx i)=some (.lst ((txi L' i).map V.int)))->Q (.ref r) H')
def yol:vq P w K mg Γ (CXe P w) 13 a.M4 a.Ox ["self","name"] (ye9 K a):=by
 exists T.Et.F.okE,yp3,hr;let⟨I,ds,ll,d,c,dc,p,cl,ct,lk,tp,n,kd,ps,mo,w,P,L,ks,U,x,g,rfl,W,hL,k⟩:=h;have ab:=W.me;refine yg (yu (i:=2) yp3.nd rfl (Or.inl rfl) (wn (pv 0) T.A1 T.Es.m (yob T) hr.m T.Es.B .nil vh (pa1 (pv 1)))) ?_;refine yg (Ģ (wd (y6 (vak hr.units) jy (xp je (ym (ym (pv 0) rfl) rfl) uo (xv (pcB yr T.Ad (pa1 (pv 2))))) (by with_unfolding_all rfl)) (yc (y7 (pv 0) (xz T.Dd (ybe T) hr.m rfl T.Dc T.Cy.B .nil yy (pa1 (ym (pv 0) rfl))) rfl)) ve)) ?_;refine yg (Ģ (wd (y6 (uk hr.units) (xp je (ym (ym (pv 0) rfl) rfl) uo (xv (pcB yr T.Ad (pa1 (pv 2))))) (pv 2) (vd _)) (yc (yt (yv (pv 0) T.A1 T.Cd.m (ybr T) hr.m T.Cd.B .nil yy (pa1 (pv 1))))) ve)) ?_;exists 2,1,yc (yo (wc (js:=[]) (ys:=[]) rfl (wz (xp je (ym (ym (pv 0) rfl) rfl) uo (xv (pcB yr T.Ad (pa1 (pv 2)))))) (λC s2 H2 fp=>(pcT (r:=yio K) vj T.Ae (pa1 (pv 0)))) rfl rfl (hyc:=y8) (hrel:=y8)));exists I,ds,d,_,_,_,n,kd,ps,w,P,x,g,rfl,ab,W.pz,hL,λl H1 ay ao S1=>?_;have az:=S1 _ _ ab;have a6:=W.same S1;have aI:=a6.ch.me;have aA:=a6.ch.hl;have af:=a6.ch.ht;have aB:=To.len W.pz hL;ext;exists λσ2 G=>∃(c2 Y p2 M J:z4)(N:Υ)(U2:Ν)(L2:Η),σ2=[some (.ref I),some (baV x),some (.ref l)]/\jl K a G I ds ll d c2 Y p2 M J lk tp n kd ps mo w P L2 N U2/\Go (StO I c cl ct U) H G (StO I c2 M J U2)/\NK H ks N/\V.non∉N.take g.length/\G l=some (.lst (nmL g))/\¬StO I c2 M J U2 l,?_,?_
 .ext;refine ut (SqL.of ao) ?_;ext;refine ybs (SqL.of af) λq hq0=>?_;rw[Â,θ];exists hq0,H2,S2,e2;have a0:=S1.trans S2;have v:=W.same a0;have R:=v.me;have t:=S2 _ _ ao;exists q,_,rfl,rfl,SqL.of e2,λz hz=>(W.ch.tx.mem z (dz hz)).imp id λ⟨q,ys,e,hq,_⟩=>⟨q,ys,e,SqL.of (a0 _ _ hq)⟩,?_;by_cases he:(ks.take g.length).any isN=true
  .rw[he];exists true,rfl,yac ?_;ext;intro c' O nc am aF;have SQ:yw H2 (upd (upd H2 O (.own c')) c' (.ins a.A2 O [])):=λb o e=>by rw[yk (yb e nc),yk (yb e am)];exact e
   exists c',O,ll,n,lk,tp,kd,ps,rfl,ya,SQ _ _ v.lo,v.n1,v.n6,v.row.same SQ,λp' a7 a4 U' HE as ak BE B=>⟨rfl,?_⟩;let⟨hR,gR,SE,hN⟩:=v.re nc am as ak BE;have aC:=SE _ _ R;have ah:l≠I:=λz=>by rw[z,R]at t;cases t
   ext;exists c',O,p',a7,a4,[],U',[],rfl,hR,gR.ahead a0,.nil,by simp,ye ah (SE _ _ t),λz=>?_
   rcases z with z|z
   .exact ah z
   .rw[hN l z]at t;cases t
  .rw[Bool.eq_false_iff.mpr he];exists false,rfl,jq ?_;exists c,dc,p,cl,ct,ks,U,L,rfl,v,Go.refl.same a0,.refl,λz=>he (d5.mpr ⟨_,z,rfl⟩),t,λz=>?_;let⟨o,e⟩:=W.lvO l z;rw[ay]at e;cases e
 .rintro σ2 G ⟨c2,Y,p2,M,J,N,U2,L2,rfl,hG,go,aa,ad,ac,aw⟩;have aD:=hG.me;have aH:=hG.ch.me;have an:=hG.ch.hl;ext;exists λσ2 F=>∃(c3 a8 p3 a1 X:z4)(f:Υ)(U3:Ν)(L3:Η),σ2=[some (.ref I),some (baV x),some (.ref l)]/\jl K a F I ds ll d c3 a8 p3 a1 X lk tp n kd ps mo w P L3 f U3/\Go (StO I c cl ct U) H F (StO I c3 a1 X U3)/\NK H ks f/\V.non∉f.take g.length/\g=L3.take g.length/\F l=some (.lst (nmL g)),?_,?_
  .ext;refine ut (SqL.of ac) ?_;ext;refine ybs (SqL.of an) λq hq0=>?_;rw[Â,θ,ÿ];exists hq0,G2,S2,e2;have a5:=hG.same S2;have R:=a5.me;have t:=S2 _ _ ac;let⟨y,hy⟩:=hG.way;have a3:=t;rw[ç]at e2 a3;ext;refine ye1 _ _ (λz hz=>hy.ok W.pz z (by let⟨u,hu,rfl⟩:=cn.mp hz;exact cn.mpr ⟨u,dz hu,rfl⟩)) (hL.ok W.pz) (SqL.of e2) (SqL.of a3) ?_;by_cases he:(L2.take g.length).map (·.1)=g.map (·.1)
   .rw[cz he];exists false,rfl,jq ?_;exists c2,Y,p2,M,J,N,U2,L2,rfl,a5,go.same S2,aa,ad,To.ahead W.pz.nd W.pz.wf hL hy (by rw[ÿ];exact(yqi he).symm),t
   .rw[cH he];exists true,rfl,yac ?_;ext;exists I,ds,ll,d,c2,Y,p2,M,J,lk,tp,n,kd,ps,mo,w,P,L2,N,U2,x,g,rfl,a5,hL,λc' O p' a7 a4 ap U' F hC Z au hn=>?_;ext;exists c',O,p',a7,a4,ap,U',g,rfl,hC,(go.same S2).trans Z,aa.trans au (λq e=>go.free (S2.free e)),λz=>ad (hn (dz z)),(dh).symm,Z.fr _ _ t aw
  .rintro σ2 F ⟨c3,a8,p3,a1,X,f,U3,L3,rfl,hF,ax,aq,aj,ae,ar⟩;have aE:=hF.me;have aJ:=hF.ch.me;have ag:=hF.ch.ht
   have aK:g.length<=L3.length:=by
    have e:=congrArg List.length ae;rw[cK]at e;omega
   ext;refine ut (SqL.of ar) ?_;ext;refine ybs (SqL.of ag) λq hq0=>?_;rw[Â,θ];have S1:=vg (o:=(HO.lst (f.take g.length))) hq0;have e1:upd F q (HO.lst (f.take g.length)) q=some (HO.lst (f.take g.length)):=ya;generalize upd F q (HO.lst (f.take g.length))=F1 at S1 e1⊢;have aG:=hF.ch.tx.len;have a2:(f.take g.length).length=g.length:=by rw[cK];omega
   have al:=hF.same S1;exists q,rfl,⟨_,SqL.of e1⟩,λD hD=>?_;refine zx (K:=K) (xs:=f.take g.length) (λi G=>∃cx:Μ,G D=some (.lst (refs cx i))/\(∀j,j<i->F1 (cx j)=none/\G (cx j)=some (.lst ((txi g j).map V.int))/\cx j≠D)/\yw F1 G)
    ⟨λB=>0,ya,λj hj=>absurd hj (cS j),vg hD⟩ (λi G B ⟨_,_,_,S⟩=>SqL.of (S _ _ e1)) (λi y G hy hi z=>?_) (λG z=>?_)
   .obtain⟨cx,gD,Z,S⟩:=z;rw[a2]at hi;let⟨k',ek,hk⟩:=al.ch.tx.get (j:=i) ();rw[List.getElem?_take,if_pos hi,ek]at hy;obtain rfl:k'=y:=by cases hy;rfl
    rcases hk with z|⟨q2,rfl,a9,_⟩
    .refine absurd ?_ aj;rw[<- z];exact cB (i:=i) (by rw[List.getElem?_take,if_pos hi];exact ek)
    have et:L3[i].2=txi g i:=by
     have e:=congrArg (λl=>l[i]?) ae;simp only[List.getElem?_take]at e;rw[if_pos hi]at e;unfold txi;rw[dX,cu,e,ci ()];rfl
    rw[et]at a9;ext;exists q2,_,rfl,.inl (SqL.of (S _ _ a9)),λc hc0=>?_;have nc:c≠D:=(yb gD hc0).symm;exists hc0,G2,S2,hc2;refine xm (n:=(f.take g.length).length) (S2 _ _ gD) (vi (by rw[v9];omega)) () ?_;exists upN cx i c,?_,λj hj=>?_,λb o e=>ye (yb e hD) (S2 _ _ (S b o e))
    .rw[ya,uz,xh]
     congr 3
     exact uv λj hj=>(xb hj).symm
    .by_cases z:j=i
     .rw[z,xh];exists S.free hc0,ye nc hc2,nc
     .have ai:j<i:=()
      rw[xb ai];let⟨g1,g2,g3⟩:=Z j ai;exists g1,ye g3 (S2 _ _ g2),g3
   .obtain⟨cx,gD,Z,S⟩:=z;rw[a2]at gD Z;exact k c3 a8 p3 a1 X L3 f U3 D cx F1 G al (ax.same S1) aq S hD gD λi hi=>⟨(Z i hi).1,(Z i hi).2.2,(Z i hi).2.1⟩
#synth vb3 ["self","name"] yv7
inductive Ĝ(K:z3)(a:Ads)(vs:Υ)(H:Hp)(Q:VK)(E:XK):Prop
 | mk(st ds ll d c dc p cl ct:z4)(lk tp:Μ)(n:Nat)(kd:Ξ)(ps:Λ)(mo w:Nat)(P:qi Pc)(L:Η)(ks:Υ)(U:Ν)(x:V)(nt:String)(_:vs=[.ref st,x])(_:jl K a H st ds ll d c dc p cl ct lk tp n kd ps mo w P L ks U)(_:xt K H x (.type nt))(_:(∀s,x=.str s->s.length<=100000))(_:(nmV x=false->∀H',yw H H'->E (.ref a.Ag) none H'))(_:(∀b,x=.str b->nmS b=true->(∀q,q∈P->q.nm≠b)->∀H',yw H H'->E (.ref a.A6) none H'))(_:(∀r,r∈P->x=.str r.nm ->
 ∀(c' dc' p' cl' ct':z4)(L2:Η)(ks':Υ)(U':Ν)(q:z4)(H1 H':Hp),jl K a H1 st ds ll d c' dc' p' cl' ct' lk tp n kd ps mo w P L2 ks' U'->Go (StO st c cl ct U) H H1 (StO st c' cl' ct' U')->NK H ks ks'->yw H1 H'->H1 q=none->H' q=some (.lst (r.tx.map V.int))->Q (.ref q) H'))
def yk0:vq P w K mg Γ (CXe P w) 14 a.M5 a.Oy ["self","name"] (Ĝ K a):=by
 exists T.D9.F.okE,vb3,J;let⟨g,C,X,d,c,S,p,Y,ct,Z,R,n,o,I,O,w,P,L,M,U,x,N,rfl,y,ty,hz,k1,k2,k3⟩:=h;have k:=y.me;exists 2,0,yf (yt (yv (pv 0) T.A1 T.Bx.m (ņ T) J.m T.Bx.B .nil yy (pa1 (pv 1)))) (yc (yo (xf wk (yv (pv 0) T.A1 T.Et.m (yol T) J.m T.Et.B .nil yy (pa1 (pv 1))) (yvy ykc yh) (λF F=>rfl))));exists g,C,d,_,_,_,n,o,I,w,P,x,N,rfl,k,y.pz,ty,hz,k1,k2,λr f e hb H1 t=>?_;subst e;have b:=y.same t;have W:=b.me;ext;exists g,C,X,d,c,S,p,Y,ct,Z,R,n,o,I,O,w,P,L,M,U,some r.nm,r.path++[(r.nm,r.tx)],rfl,b,⟨r,f,rfl,rfl⟩,λc' D p' G z L2 j U' l cx HB H2 h2 g2 nk SB a1 q i=>?_;ext;let⟨f1,f2,f3⟩:=i r.path.length (by rw[cj,dm];omega);refine Û (v:=.ref (cx r.path.length)) (SqL.of q) ?_ ?_
 .rw[cj,dm,uz];exact ylj _ _
 .ext;refine k3 r f rfl c' D p' G z L2 j U' _ HB H2 h2 (g2.ahead t) (NK.refl.trans nk λF e=>t.free e) SB f1 ?_;rw[f3];unfold txi;simp
def Sto.textof1{H:Hp}{C:Cf}{P:qi Pd}{X:Sx}{Q:VK}{E:XK}(h:Sto K a H st C P X){b:Str}(hb:nmS b=true)(k1:(∀q,q∈P->q.nm≠b)->∀H',yw H H'->E (.ref a.A6) none H')
  (k2:∀r,r∈P->r.nm=b->∀Y q H1 H',Sto K a H1 st C P Y->Gx X H H1 Y->yw H1 H'->H1 q=none->H' q=some (.lst (r.tx.map V.int))->Q (.ref q) H'):Ĝ K a [.ref st,.str b] H Q E:=by
 let⟨A,v,d,c,I,p,M,Z,B,t,Qs,O,F,U,s,rfl,rfl⟩:=h;have a0:=uc hb;exists st,A,v,d,c,I,p,M,Z,B,t,C.n,C.kd,C.ps,C.mo,C.w,Qs,O,F,U,.str b,"str",rfl,s,.str _,(λx e=>by cases e;omega),(λz=>by rw[show nmV (.str b)=nmS b from rfl,hb]at z;cases z),(λb' e W j=>?_),λr D e T l G m k L2 i R q H1 H' N g J S o f=>?_
 .cases e;refine k1 λq f=>?_;let⟨u,L,rfl⟩:=cn.mp f;exact j u L
 .cases e;exact k2 r.pd (cn.mpr ⟨r,D,rfl⟩) rfl _ q H1 H' ⟨A,v,d,T,l,G,m,k,B,t,_,_,i,R,N,rfl,rfl⟩ (Gx.of (g.or (Y:=λy=>y=d)) J λq f=>.inl f) S o f
def Sto.textof{H:Hp}{C:Cf}{P:qi Pd}{X:Sx}{Q:VK}{E:XK}(h:Sto K a H st C P X){b:Str}(hb:nmS b=true)(k1:(∀q,q∈P->q.nm≠b)->∀H',yw H H'->E (.ref a.A6) none H')
  (k2:∀r,r∈P->r.nm=b->∀Y q H',Sto K a H' st C P Y->Gx X H H' Y->H q=none->Kf H' Y q (.lst (r.tx.map V.int))->Q (.ref q) H'):Ĝ K a [.ref st,.str b] H Q E :=
 h.textof1 hb k1 λr i e Y q j H' d g1 S c f=>k2 r i e Y q H' (d.same S) (g1.same S) (g1.g.free c) (Kf.new d c f)
#synth vbx ["self","name"] yv5
inductive ŀ(K:z3)(a:Ads)(vs:Υ)(H:Hp)(Q:VK)(E:XK):Prop
 |mk(st ds d:z4)(vl vm vc:V)(n:Nat)(kd:Ξ)(ps:Λ)(w:Nat)(P:qi Pc)(x:V)(nt:String)(_:vs=[.ref st,x])(_:H st=some (.ins a.A0 ds (vy vl vm (.ref d) vc)))(_:Ŋ a H d n kd ps w P)(_:xt K H x (.type nt))(_:(∀s,x=.str s->s.length<=100000))(_:(nmV x=false->∀H',yw H H'->E (.ref a.Ag) none H'))(_:(∀b,x=.str b->nmS b=true->(∀q,q∈P->q.nm≠b)->∀H',yw H H'->E (.ref a.A6) none H'))(_:(∀r,r∈P->x=.str r.nm->nmS r.nm=true->∀l H',H l=none->H' l=some (.lst ((r.by n kd ps).map V.int))->yw H H'->Q (.ref l) H'))
def Ġ:vq P w K mg Γ (CXe P w) 4 a.M6 a.Oz ["self","name"] (ŀ K a):=by exists T.Be.F.okE,vbx,C;let⟨o,u,d,v,t,k,n,q,y,w,P,x,p,rfl,f,z,I,J,D,G,N⟩:=h;exists 2,0,yc (yo (pcT vj T.Ae (pa1 (ym (yv (pv 0) T.A1 T.Bx.m (ņ T) C.m T.Bx.B .nil yy (pa1 (pv 1))) rfl))));exists o,u,d,v,t,k,n,q,y,w,P,x,p,rfl,f,z,I,J,D,G,λr b e R S i=>?_;let⟨O,g⟩:=(z.same i).ob r b;ext;exists r.dl,_,rfl,.inl (SqL.of g),λl c=>?_;exact N r b e R l _ (i.free c) ya (i.trans (vg c))
def Sto.bytesof{H:Hp}{C:Cf}{P:qi Pd}{X:Sx}{Q:VK}{E:XK}(h:Sto K a H st C P X){b:Str}(hb:nmS b=true)(k1:(∀q,q∈P->q.nm≠b)->∀H',yw H H'->E (.ref a.A6) none H')
  (k2:∀r,r∈P->r.nm=b->∀l H',H l=none->H' l=some (.lst ((r.by C).map V.int))->yw H H'->Q (.ref l) H'):ŀ K a [.ref st,.str b] H Q E:=by
 let⟨j,F,d,c,L,p,I,D,y,J,v,G,B,U,s,rfl,rfl⟩:=h;have t:=uc hb;exists st,j,d,_,_,_,C.n,C.kd,C.ps,C.w,v,.str b,"str",rfl,s.me,s.pz,.str _,(λx e=>by cases e;omega),(λz=>by rw[show nmV (.str b)=nmS b from rfl,hb]at z;cases z),(λA e Z f=>?_),λr i e Z l H' m k S=>?_
 .cases e;refine k1 λq g=>?_;let⟨u,o,rfl⟩:=cn.mp g;exact f u o
 .cases e;exact k2 r.pd (cn.mpr ⟨r,i,rfl⟩) rfl l H' m k S
#synth yyy ["self","name"] yus
inductive yaw(K:z3)(a:Ads)(vs:Υ)(H:Hp)(Q:VK)(E:XK):Prop
 |mk(st ds d:z4)(vl vm vc:V)(n:Nat)(kd:Ξ)(ps:Λ)(w:Nat)(P:qi Pc)(x:V)(nt:String)(_:vs=[.ref st,x])(_:H st=some (.ins a.A0 ds (vy vl vm (.ref d) vc)))(_:Ŋ a H d n kd ps w P)(_:xt K H x (.type nt))(_:(∀s,x=.str s->s.length<=100000))(_:(nmV x=false->∀H',yw H H'->E (.ref a.Ag) none H'))(_:(∀b,x=.str b->nmS b=true->(∀q,q∈P->q.nm≠b)->∀H',yw H H'->E (.ref a.A6) none H'))(_:(∀r,r∈P->x=.str r.nm->nmS r.nm=true->∀H',yw H H'->Q (baV r.bs) H'))
def yj6:vq P w K mg Γ (CXe P w) 4 a.M7 a.P0 ["self","name"] (yaw K a):=by exists T.Da.F.okE,yyy,v;let⟨i,p,d,q,l,g,n,k,t,w,P,x,j,rfl,c,u,C,D,y,z,J⟩:=h;exists 2,0,yc (yo (ym (yv (pv 0) T.A1 T.Bx.m (ņ T) v.m T.Bx.B .nil yy (pa1 (pv 1))) rfl));exists i,p,d,q,l,g,n,k,t,w,P,x,j,rfl,c,u,C,D,y,z,λr b e M N o=>?_;have L:=((u.same o).ob r b).1;ext;exact J r b e M _ o
def Sto.baseof{H:Hp}{C:Cf}{P:qi Pd}{X:Sx}{Q:VK}{E:XK}(h:Sto K a H st C P X){b:Str}(hb:nmS b=true)(k1:(∀q,q∈P->q.nm≠b)->∀H',yw H H'->E (.ref a.A6) none H')
  (k2:∀r,r∈P->r.nm=b->∀H',yw H H'->Q (baV r.bs) H'):yaw K a [.ref st,.str b] H Q E:=by
 let⟨j,A,d,c,G,p,D,y,o,F,m,B,v,U,s,rfl,rfl⟩:=h;have l:=uc hb;exists st,j,d,_,_,_,C.n,C.kd,C.ps,C.w,m,.str b,"str",rfl,s.me,s.pz,.str _,(λx e=>by cases e;omega),(λz=>by rw[show nmV (.str b)=nmS b from rfl,hb]at z;cases z),(λt e Z f=>?_),λr i e Z H' S=>?_
 .cases e;refine k1 λq g=>?_;let⟨u,k,rfl⟩:=cn.mp g;exact f u k
 .cases e;exact k2 r.pd (cn.mpr ⟨r,i,rfl⟩) rfl H' S
#synth yyk ["self","name"] yt8
inductive ñ(K:z3)(a:Ads)(vs:Υ)(H:Hp)(Q:VK)(E:XK):Prop
 | mk(st ds ll d c dc p cl ct:z4)(lk tp:Μ)(n:Nat)(kd:Ξ)(ps:Λ)(mo w:Nat)(P:qi Pc)(L:Η)(ks:Υ)(U:Ν)(x:V)(nt:String)(_:vs=[.ref st,x])(_:jl K a H st ds ll d c dc p cl ct lk tp n kd ps mo w P L ks U)(_:xt K H x (.type nt))(_:(∀s,x=.str s->s.length<=100000))(_:(nmV x=false->∀H',yw H H'->E (.ref a.Ag) none H'))(_:(∀b,x=.str b->nmS b=true->(∀q,q∈P->q.nm≠b)->∀H',yw H H'->E (.ref a.A6) none H'))(_:(∀r,r∈P->x=.str r.nm ->
 ∀(c' dc' p' cl' ct':z4)(L2:Η)(ks':Υ)(U':Ν)(q:z4)(cx:Μ)(H1 H':Hp),jl K a H1 st ds ll d c' dc' p' cl' ct' lk tp n kd ps mo w P L2 ks' U'->Go (StO st c cl ct U) H H1 (StO st c' cl' ct' U')->NK H ks ks'->yw H1 H'->H1 q=none->H' q=some (.lst (refs cx r.path.length))->(∀i,i<r.path.length->H1 (cx i)=none/\cx i≠q/\H' (cx i)=some (.lst ((txi r.path i).map V.int)))->Q (.ref q) H'))
def yov:vq P w K mg Γ (CXe P w) 14 a.M8 a.P1 ["self","name"] (ñ K a):=by exists T.Eu.F.okE,yyk,J;let⟨g,z,X,d,c,S,p,Y,ct,Z,R,n,o,G,O,w,P,L,M,U,x,N,rfl,v,ty,hz,k1,k2,k3⟩:=h;have k:=v.me;exists 2,0,yc (yo (yv (pv 0) T.A1 T.Et.m (yol T) J.m T.Et.B .nil yy (pa1 (ym (yv (pv 0) T.A1 T.Bx.m (ņ T) J.m T.Bx.B .nil yy (pa1 (pv 1))) rfl))));exists g,z,d,_,_,_,n,o,G,w,P,x,N,rfl,k,v.pz,ty,hz,k1,k2,λr f e hb H1 t=>?_;subst e;have b:=v.same t;have W:=b.me;have a0:=(b.pz.ob r f).1;ext;exists g,z,X,d,c,S,p,Y,ct,Z,R,n,o,G,O,w,P,L,M,U,r.bs,r.path,rfl,b,b.pz.wf r f,λc' C p' D y L2 j U' l cx HB H2 h2 g2 nk SB I q i=>?_;exact k3 r f rfl c' C p' D y L2 j U' l cx HB H2 h2 (g2.ahead t) (NK.refl.trans nk λF e=>t.free e) SB I q i
def Sto.learnedof{H:Hp}{C:Cf}{P:qi Pd}{X:Sx}{Q:VK}{E:XK}(h:Sto K a H st C P X){b:Str}(hb:nmS b=true)(k1:(∀q,q∈P->q.nm≠b)->∀H',yw H H'->E (.ref a.A6) none H')
  (k2:∀r,r∈P->r.nm=b->∀Y q cx H',Sto K a H' st C P Y->Gx X H H' Y->H q=none->Kf H' Y q (.lst (refs cx r.path.length))->(∀i,i<r.path.length->cx i≠q/\H (cx i)=none/\Kf H' Y (cx i) (.lst ((txi r.path i).map V.int)))->Q (.ref q) H'):ñ K a [.ref st,.str b] H Q E:=by
 let⟨N,m,d,c,dc,p,M,T,R,L,v,L0,J,U,s,rfl,rfl⟩:=h;have a0:=uc hb;exists st,N,m,d,c,dc,p,M,T,R,L,C.n,C.kd,C.ps,C.mo,C.w,v,L0,J,U,.str b,"str",rfl,s,.str _,(λx e=>by cases e;omega),(λz=>by rw[show nmV (.str b)=nmS b from rfl,hb]at z;cases z),(λb' e W D=>?_),λr Z e I F p' l k L2 j G q cx O H' s' g nk S t o f=>?_
 .cases e;refine k1 λq o=>?_;let⟨u,hu,rfl⟩:=cn.mp o;exact D u hu
 .cases e;have B:Sto K a O st C (v.map Pc.pd) (yn5 d st I l k G m v j):=⟨N,m,d,I,F,p',l,k,R,L,_,_,j,G,s',rfl,rfl⟩;have g1:Gx (yn5 d st c M T U m v J) H O (yn5 d st I l k G m v j):=Gx.of (g.or (Y:=λy=>y=d)) nk λq o=>.inl o;exact k2 r.pd (cn.mpr ⟨r,Z,rfl⟩) rfl _ q cx H' (B.same S) (g1.same S) (g1.g.free t) (Kf.new B t o) λi A=>⟨(f i A).2.1,g1.g.free (f i A).1,Kf.new B (f i A).1 (f i A).2.2⟩
def yza(x:Φ)(b:Str):vdx (baV x) (.str b)=true/\decide (baV x=.str b)=decide (x=some b):=by
 cases x with
 |none=>exists rfl,by rw[cH (λz=>nomatch z),cH (λz=>nomatch z)]
 |some y =>
  exists rfl,?_;by_cases e:y=b
  .rw[cz (by rw[e];rfl),cz (by rw[e])]
  .rw[cH (λz=>e (by cases z;rfl)),cH (λz=>e (by cases z;rfl))]
#synth va3 ["self","name"] yvt
inductive yi8(K:z3)(a:Ads)(vs:Υ)(H:Hp)(Q:VK)(E:XK):Prop
 | mk(st ds ll d c dc p cl ct:z4)(lk tp:Μ)(n:Nat)(kd:Ξ)(ps:Λ)(mo w:Nat)(P:qi Pc)(L:Η)(ks:Υ)(U:Ν)(x:V)(nt:String)(_:vs=[.ref st,x])(_:jl K a H st ds ll d c dc p cl ct lk tp n kd ps mo w P L ks U)(_:xt K H x (.type nt))(_:(∀s,x=.str s->s.length<=100000))(_:(nmV x=false->∀H',yw H H'->E (.ref a.Ag) none H'))(_:(∀b,x=.str b->nmS b=true->(∀q,q∈P->q.nm≠b)->∀H',yw H H'->E (.ref a.A6) none H'))(_:(∀r,r∈P->x=.str r.nm->(∃q,q∈P/\q.bs=some r.nm)->∀H',yw H H'->E (.ref a.Bk) none H'))(_:(∀r,r∈P->x=.str r.nm->(∀q,q∈P->q.bs≠some r.nm) ->
 ∀(c' dc' p' cl' ct':z4)(U':Ν)(H':Hp),jl K a H' st ds ll d c' dc' p' cl' ct' lk tp n kd ps mo w (P.filter λq=>decide (q.nm≠r.nm)) [] [] U'->Go (λy=>y=d\/StO st c cl ct U y) H H' (λy=>y=d\/StO st c' cl' ct' U' y)->Q .non H'))
def va9:vq P w K mg Γ (CXe P w) 10 a.M9 a.P4 ["self","name"] (yi8 K a):=by
 exists T.Je.F.okE,va3,hr;let⟨st,ds,ll,d,c,dc,p,cl,ct,lk,tp,n,kd,ps,mo,w,P,L,ks,U,x,nt,rfl,hS,ty,hz,k1,k2,k3,k4⟩:=h;have a3:=hS.me;exists 2,0,yf (yt (yv (pv 0) T.A1 T.Bx.m (ņ T) hr.m T.Bx.B .nil yy (pa1 (pv 1)))) (yf (wd (ug (pcB (ymr rfl) T.Qw (pa1 (ys6 (wc (js:=[1]) (ys:=["name"]) rfl (yri (ym (pv 0) rfl)) (λC s2 H2 fp=>(jd jj (yc7 (K:=K) rfl (pv 0) rfl) (pv 1) (vd _))) rfl rfl (hyc:=(all_cons rfl y8)) (hrel:=(all_cons rfl y8))))))) (yc (wy rfl T.Ry T.Hk (pa1 xc))) ve) (yf (yt (ymd (ym (pv 0) rfl) (pv 1) ⟨rfl,rfl,rfl,rfl⟩)) (yc (y7 (pv 0) (xz T.Dd (ybe T) hr.m rfl T.Dc T.Cy.B .nil yy (pa1 (ym (pv 0) rfl))) rfl))));exists st,ds,d,_,_,_,n,kd,ps,w,P,x,nt,rfl,a3,hS.pz,ty,hz,k1,k2,λr J e hb H1 S1=>?_;subst e;have g:=hS.same S1;have a6:=g.me;ext;have j:=g.pz.dk;exists d,pcs P,rfl,j,λo D hD=>?_;have R:(pcs P).length=P.length:=bI _;have ab:=g.pz.z;have a0:D≠d:=λz=>by rw[z,ya]at hD;cases hD
 refine yf1 (λi G=>G D=some (.lst ((P.take i).map λq=>V.bl (decide (q.bs=some r.nm))))/\yw (upd H1 d (.frz o (.dK (pcs P)))) G) ⟨ya,vg hD⟩ (λi G F z=>z.2 _ _ ya) (λi kk v G t hi z=>?_) (λG z=>?_)
 .obtain⟨gD,S⟩:=z;rw[R]at hi;have M:P[i]?=some P[i]:=ci hi;unfold pcs at t;rw[cu,M]at t;obtain rfl:v=.ref (P[i]).ob:=by cases t;rfl
  have N:=(g.pz.ob _ (cU hi)).1;have a7:=S _ _ (ye (λz=>by rw[z,j]at N;cases N) N);ext;let⟨b1,b2⟩:=yza (P[i]).bs r.nm;exists b1,?_;rw[b2];refine xm (n:=(pcs P).length) gD (vi (by rw[bI,cK];omega)) () ⟨?_,λy o e=>ye (yb e hD) (S _ _ e)⟩;rw[ya,cM hi,cA];rfl
 .obtain⟨gD,S⟩:=z;rw[R,dh]at gD;exists d,o,.dK (pcs P),(λo u e=>by rw[j]at e;cases e),S _ _ ya,?_
  have S3:yw H1 (upd G d (.dK (pcs P))):=λy o' e=>by
   by_cases z:y=d
   .rw[z,ya];rw[z,j]at e;exact e
   .exact ye z (S _ _ (ye z e))
  have O:(upd G d (.dK (pcs P))) D=some (.lst ((P.map λq=>decide (q.bs=some r.nm)).map V.bl)):=ye a0 (by rw[gD,cX];rfl);generalize upd G d (.dK (pcs P))=H3 at S3 O⊢;have f:=g.same S3;have a9:=f.me;ext;exists D,_,rfl,SqL.of O,?_;by_cases hu:∃q,q∈P/\q.bs=some r.nm
  .have e:(P.map λq=>decide (q.bs=some r.nm)).any id=true:=by
    let⟨q,M,e⟩:=hu;exact d5.mpr ⟨true,cn.mpr ⟨q,M,cz e⟩,rfl⟩
   rw[e];exists true,rfl,yac ?_;ext;exists by walk_at "len",k3 r J rfl hu _ (S1.trans S3)
  .have l:∀q,q∈P->q.bs≠some r.nm:=λq M e=>hu ⟨q,M,e⟩
   have e:(P.map λq=>decide (q.bs=some r.nm)).any id=false:=by
    rw[List.any_map,List.any_eq_false];intro q M;simpa using l q M
   rw[e];exists false,rfl,jq ?_;ext;exists d,rfl,.inl ⟨_,.of f.pz.dk⟩,?_;ext;exists pcs P,.inr r.nm,_,f.pz.dk,rfl,yj1 f.pz.nd J,?_;have I:=f.b.drop l
   have gA:Go (λy=>y=d\/StO st c cl ct U y) H3 (upd H3 d (.dK (ø (pcs P) (.inr r.nm)))) (λy=>y=d\/StO st c cl ct U y):=⟨λy o e no=>ye (λz=>no (.inl z)) e,λy z=>.inl z,λy o e=>by
    by_cases z:y=d
    .exists _,by rw[z];exact ya
    .exact⟨o,ye z e⟩⟩
   generalize upd H3 d (.dK (ø (pcs P) (.inr r.nm)))=H4 at I gA⊢;have W:=I.me;ext;intro c' k nc Z aa;have SQ:yw H4 (upd (upd H4 k (.own c')) c' (.ins a.A2 k [])):=λb o e=>by rw[yk (yb e nc),yk (yb e Z)];exact e
   exists c',k,ll,n,lk,tp,kd,ps,rfl,ya,SQ _ _ I.lo,I.n1,I.n6,I.row.same SQ,λp' a4 a1 U' HE a2 X BE F=>⟨rfl,?_⟩;let⟨hR,gR,SE,hN⟩:=I.re nc Z a2 X BE;have a8:=SE _ _ W;ext;exact k4 r J rfl l c' k p' a4 a1 U' _ hR ((gA.ahead (S1.trans S3)).trans ((gR.or (Y:=λy=>y=d)).wide λy z=>z.imp id .inl))
def yhp(Q:qi Pc)(b:Str):(Q.filter λq=>decide (q.nm≠b)).map Pc.pd=(Q.map Pc.pd).filter λq=>decide (q.nm≠b):=by rw[List.filter_map];rfl
def Sto.drop{H:Hp}{C:Cf}{P:qi Pd}{X:Sx}{Q:VK}{E:XK}(h:Sto K a H st C P X){b:Str}(hb:nmS b=true)(k1:(∀q,q∈P->q.nm≠b)->∀H',yw H H'->E (.ref a.A6) none H')(k2:∀r,r∈P->r.nm=b->(∃q,q∈P/\q.bs=some b)->∀H',yw H H'->E (.ref a.Bk) none H')
  (k3:∀r,r∈P->r.nm=b->(∀q,q∈P->q.bs≠some b)->∀Y H',Sto K a H' st C (P.filter λq=>decide (q.nm≠b)) Y->Gx X H H' Y->Q .non H'):yi8 K a [.ref st,.str b] H Q E:=by
 let⟨A,y,d,c,G,p,I,O,B,v,S,L,D,U,s,rfl,rfl⟩:=h;have R:=uc hb;exists st,A,y,d,c,G,p,I,O,B,v,C.n,C.kd,C.ps,C.mo,C.w,S,L,D,U,.str b,"str",rfl,s,.str _,(λx e=>by cases e;omega),(λz=>by rw[show nmV (.str b)=nmS b from rfl,hb]at z;cases z),(λT e Z l=>?_),(λr j e i=>?_),λr j e i N o F t m M H' J g=>?_
 .cases e;refine k1 λq f=>?_;let⟨u,i,rfl⟩:=cn.mp f;exact l u i
 .cases e;let⟨q,f,e⟩:=i;exact k2 r.pd (cn.mpr ⟨r,j,rfl⟩) rfl ⟨q.pd,cn.mpr ⟨q,f,rfl⟩,e⟩
 .cases e;refine k3 r.pd (cn.mpr ⟨r,j,rfl⟩) rfl (λq f=>?_) _ H' ⟨A,y,d,N,o,F,t,m,B,v,_,_,[],M,J,yhp _ _,rfl⟩ (Gx.of g NK.nil λq f=>.inl (List.mem_filter.mp f).1);let⟨u,k,rfl⟩:=cn.mp f;exact i u k
def Sto.chainto{H:Hp}{C:Cf}{P:qi Pd}{X:Sx}{Q:VK}{E:XK}(h:Sto K a H st C P X){x:Φ}(hL:ToD P x L)
  (k:∀c dc p cl ct ks M W Y H',Sto K a H' st C P Y->Gx X H H' Y->Å K a H' c dc p cl ct C.n C.kd C.ps L ks M W->M<=660000->Q (.ref c) H'):Ł K a [.ref st,baV x] H Q E:=by let⟨j,o,d,c,dc,p,cl,ct,m,v,G,D,ks,U,s,rfl,rfl⟩:=h;have t:=æ.mp hL;exists st,j,o,d,c,dc,p,cl,ct,m,v,C.n,C.kd,C.ps,C.mo,C.w,G,D,ks,U,x,L,rfl,s,t,λz e r f b i u H' l g B Z=>k z e r f b i _ u _ H' ⟨j,o,d,z,e,r,f,b,m,v,_,_,i,u,l,rfl,rfl⟩ (Gx.of (g.or (Y:=λy=>y=d)) B λq A=>.inl A) l.ch ?_;exact yeg (w:=C.w) (λy F=>(t.sz s.pz y F).2) s.wm.2 (To.len s.pz t)
def szD(C:Cf)(ts:Ρ)(q:Pd):Nat:=(zl C.n C.kd C.ps (Æ ((q.path++[(q.nm,q.tx)]).map (·.2))) ts).length
def bsF(f:Pd->Nat):qi Pd->qj Str->Nat->qj Str
 |[],b,_=>b
 |q::P,b,m=>if f q<m then bsF f P (some q.nm) (f q)else bsF f P b m
def yn1(C:Cf)(P:qi Pd)(ts:Ρ):Φ:=bsF (szD C ts) P none (zl C.n C.kd C.ps [] ts).length
#synth ô ["self","text","signs","best","fewest","name","size"] ["self","text"] ywv
inductive ysa(K:z3)(a:Ads)(vs:Υ)(H:Hp)(Q:VK)(E:XK):Prop
 |mk(st:z4)(C:Cf)(P:qi Pd)(X:Sx)(tx:z4)(ts:Ρ)(_:vs=[.ref st,.ref tx])(_:Sto K a H st C P X)(_:î H tx ts 1000)(_:(C.mo<ts.length->∀H',yw H H'->E (.ref a.Al) none H'))(_:(ts.length<=C.mo->∀Y H',Sto K a H' st C P Y->Gx X H H' Y->Q (baV (yn1 C P ts)) H'))
def yog:vq P w K mg Γ (CXe P w) 13 a.Ma a.P5 ["self","text"] (ysa K a):=by
 exists T.Ev.F.okE,ô,D;let⟨S,C,P,X,tx,f,rfl,hS,n,kL,k⟩:=h;have ae:=hS.cf;have al:=hS.z;refine yg (yu (i:=2) ô.nd rfl (Or.inl rfl) (ul (ywr T) D.m T.Q5 yy (pa1 (pv 1)))) ?_;refine yg (yt (yv (pv 0) T.A1 T.Ep.m (ypr T) D.m T.Ep.B .nil yy (pa1 (pv 2)))) ?_;refine yg (yu (i:=3) ô.nd rfl (Or.inl rfl) jy) ?_;refine yg (yu (i:=4) ô.nd rfl (Or.inl rfl) (wn (yv (pv 0) T.A1 T.Cd.m (ybr T) D.m T.Cd.B .nil yy (pa1 jy)) T.Aj T.Em.m (yqa T) D.m T.Em.B .nil vh (pa1 (pv 2)))) ?_;refine yg (PS.nox (uh PassesOwn.never rfl (wz (yz (pv 0) T.A1 T.Ap.m (Ó T) D.m T.Ap.B .nil vh)) (we (i:=5) ô.nd rfl (Or.inl rfl)) (yf (yu (i:=6) ô.nd rfl (Or.inl rfl) (wn (yv (pv 0) T.A1 T.Cd.m (ybr T) D.m T.Cd.B .nil y9 (pa1 (pv 5))) T.Aj T.Em.m (yqa T) D.m T.Em.B .nil vh (pa1 (pv 2)))) (yc (wd (y6 ſ (pv 6) (pv 4) (vd _)) (yf (yu (i:=3) ô.nd rfl (Or.inl rfl) (pv 5)) (yc (yu (i:=4) ô.nd rfl (Or.inl rfl) (pv 6)))) ve))))) ?_;exists 2,5,yc (yo (pv 3));exists .ref tx,_,rfl,.lst n.l,.inr ⟨f.map V.int,Ů n.l n.s (by have:=n.z;omega),λO H1 a4 v S1=>?_⟩;have y:=hS.same S1
 obtain⟨ds,vl,vp,vc,a1⟩:∃ds vl vp vc,H1 S=some (.ins a.A0 ds (vy vl (.int C.mo) vp vc)):=by
  let⟨ds,ll,d,c,dc,p,cl,ct,lk,tp,Qs,L0,ks,U,s,_,_⟩:=y;exists _,_,_,_,s.me
 have a2:Kf H1 X O (.lst (f.map V.int)):=Kf.new hS a4 v;ext;exists S,ds,O,_,_,_,C.mo,_,rfl,a1,v,λN=>?_,λz=>kL (by rw[bI]at z;omega) _ S1;have N:f.length<=C.mo:=by rw[bI]at N;omega
 have k:=k N;ext;refine y.chainto (x:=none) (L:=[]) rfl λc dc p cl ct ks M W Y H2 I g2 o hM=>?_;have e:=a2.go y g2;have a9:=o.me;ext;exists c,dc,p,cl,ct,_,_,_,_,ks,M,W,O,f,rfl,o,⟨e.1,n.s,()⟩,(),λH3 t=>?_
 have j:=I.same t;have R:=e.same t;have g3:=(g2.same t).ahead S1;let⟨ao,an,ap,ah,ag,ac⟩:=j.ins;ext;refine j.names λl H4 aa a3 S4=>?_;have a8:Kf H4 Y l (.lst (P.map λq=>V.str q.nm)):=Kf.new j aa a3;exists l,rfl,⟨_,SqL.of a3⟩,zd (K:=K) (a:=l) (xs:=P.map λq=>V.str q.nm) (λi σ2 F=>∃(b:Φ)(m:Nat)(v5 v6:Ψ)(Z:Sx),σ2=[some (.ref S),some (.ref tx),some (.ref O),some (baV b),some (.int (m:Nat)),v5,v6]/\Sto K a F S C P Z/\Gx X H F Z/\Kf F Z O (.lst (f.map V.int))/\Kf F Z l (.lst (P.map λq=>V.str q.nm))/\bsF (szD C f) (P.drop i) b m=yn1 C P f) ?_ ?_ ?_ ?_
 .exists none,_,none,none,Y,rfl,j.same S4,g3.same S4,R.same S4,a8,rfl
 .rintro i σ2 F _ ⟨b,m,v5,v6,Z,rfl,G,g,J,u,r⟩;exact SqL.of u.1
 .rintro i z σ2 F hz ⟨b,m,v5,v6,Z,rfl,G,g,J,u,r⟩;rw[cu]at hz;let⟨q,hq,rfl⟩:=dL.mp hz;have a5:i<P.length:=(cE.mp hq).1;have a7:=cB hq;rw[dC a5,(cE.mp hq).2]at r;let⟨ad,ak,am,af,aj,ab⟩:=G.ins;ext;refine G.chainto (x:=some q.nm) (L:=q.path++[(q.nm,q.tx)]) ⟨q,a7,rfl,rfl⟩ λc dc p cl ct ks M W Y2 F2 I g2 o hM=>?_;have e:=J.go G g2;have a0:=u.go G g2;have a9:=o.me;ext;exists c,dc,p,cl,ct,_,_,_,_,ks,M,W,O,f,rfl,o,⟨e.1,n.s,()⟩,(),λF3 t=>?_
  have j:=I.same t;have g3:=(g.trans g2).same t;ext;have r:(if szD C f q<m then bsF (szD C f) (P.drop (i+1)) (some q.nm) (szD C f q)else bsF (szD C f) (P.drop (i+1)) b m)=yn1 C P f:=r;by_cases hlt:szD C f q<m
  .rw[if_pos hlt]at r;refine zn (λB=>?_) (λz=>absurd (show ((szD C f q:Nat):Int)<(m:Int) by omega) z);ext;exists some q.nm,szD C f q,_,_,Y2,rfl,j,g3,e.same t,a0.same t,r
  .rw[if_neg hlt]at r;refine zn (λz=>absurd (show ((szD C f q:Nat):Int)<(m:Int)from z) ()) (λB=>?_);exists b,m,_,_,Y2,rfl,j,g3,e.same t,a0.same t,r
 .rintro σ2 F ⟨b,m,v5,v6,Z,rfl,G,g,J,u,r⟩;rw[bI,List.drop_length]at r;ext;rw[show b=yn1 C P f from r];exact k Z F G g
def lkB(k:Fin 3)(p:Ρ):Ρ:=((k.val:Nat):Int)::((p.length:Nat):Int)::p
def vb8(k:Fin 3):(kdS 0=kdS k/\k.val=0)\/(kdS 0≠kdS k/\kdS 1=kdS k/\k.val=1)\/(kdS 0≠kdS k/\kdS 1≠kdS k/\kdS 2=kdS k/\k.val=2):=by revert k;decide
#synth yzw ["look"] yvw
inductive ynu  (vs:Υ) (H:Hp) (Q:VK) (E':XK):Prop
 |mk(v:V)(kd:Fin 3)(tp:z4)(ps:Ρ)(_:vs=[v])(_:LkG H v kd tp ps)(_:∀l H',H l=none->H' l=some (.lst ((lkB kd ps).map V.int))->yw H H'->Q (.ref l) H')
def yz0:vq P w K mg Γ CX0 1 a.Mb a.P6 ["look"] ynu:=by
 exists T.Ps.F.ok,yzw,r;let⟨v,d,g,i,rfl,⟨q,rfl,e,l,p⟩,k⟩:=h;have n:=ux p;rw[bI]at n;exists 1,0,yc (yo (yp Ö (wx (pac (ji PySem.F.plainAttrs_tuple PySem.F.slot_tuple_index PySem.F.type_tuple_index yhk (å rfl T.Hn) (pa1 (xf jn (pv 0) yh (λZ Z=>rfl)))) (pa1 (pcB yr T.Ad (pa1 (xf jn (pv 0) yh (λZ Z=>rfl))))))) (pcT vj T.Ae (pa1 (xf jn (pv 0) yh (λZ Z=>rfl))))));exists .inr (.inl ⟨rfl,T.Qx⟩),?_;ext;refine ybt (SqT.of e) (w9 (j:=0) rfl) ?_;ext;exists kdS 0,kdS 1,kdS 2,kdS d,a.Bl,d.val,rfl,rfl,T.Ho H,vb8 d,?_;ext;refine ybt (SqT.of e) (w9 (j:=1) rfl) ?_;ext;exists g,_,rfl,.inr (SqT.of l),?_;rw[bI];ext;exists by walk_at "len",λu hu0=>?_
 exists hu0,H1,S1,hu1;ext;refine ybt (SqT.of (S1 _ _ e)) (w9 (j:=1) rfl) ?_;ext;exists g,_,rfl,.inr (SqT.of (S1 _ _ l)),λw hw0=>?_;exists hw0,H2,S2,hw2;ext;exists u,w,_,_,rfl,rfl,S2 _ _ hu1,hw2,xu (by rw[bI];show 2+i.length<=_;omega),λc b=>?_;exact k c _ (S1.free (S2.free b)) ya (S1.trans (S2.trans (vg b)))
def lix(c:Nat):Nat:=(PySem.Builtin.Str.occurrences smS ⟨#[c]⟩ 0 26 1).headD 0
def yrc:∀i:Fin 26,PySem.Builtin.Str.occurrences smS ⟨#[97+i.val]⟩ 0 26 1=[i.val]:=by right
def yoc{c:Nat}(h1:97<=c)(h2:c<=122):lix c=c-97:=by have e:=yrc ⟨c-97,()⟩;unfold lix;rw[show 97+(⟨c-97,()⟩:Fin 26).val=c by show 97+(c-97)=c;omega]at e;rw[e];rfl
def ysr{x:Str}(h:nmS x=true){c:Nat}(hc:x.cps[i]?=some c):∃xk,PySem.Builtin.Str.occurrences smS ⟨#[c]⟩ 0 smS.length 1=lix c::xk:=by
 unfold nmS at h;simp only[cR,List.all_eq_true]at h;have a:=h.2.2 c (cB (by rw[Array.getElem?_toList];exact hc));unfold ygj at a;have a:(!(PySem.Builtin.Str.occurrences smS ⟨#[c]⟩ 0 26 1).isEmpty)=true:=a;show ∃xk,PySem.Builtin.Str.occurrences smS ⟨#[c]⟩ 0 26 1=_;unfold lix
 cases e:PySem.Builtin.Str.occurrences smS ⟨#[c]⟩ 0 26 1 with
 |nil=>rw[e]at a;cases a
 |cons i r=>exists r,rfl
def nmB(x:Str):Ρ:=((x.length:Nat):Int)::x.cps.toList.map λc=>((lix c:Nat):Int)
def yrl(x:Str):(List.range x.cps.size).map (λi=>V.int ((lix (x.cps.toList.getD i 0):Nat):Int))=(x.cps.toList.map λc=>((lix c:Nat):Int)).map V.int:=by
 refine List.ext_getElem? λi=>?_;rw[cu,cu,cu];rcases Nat.lt_or_ge i x.cps.size with z|z
 .rw[dJ z,ci (by simpa using z)];show some (V.int ((lix (x.cps.toList.getD i 0):Nat):Int))=_;rw[dX,ci (by simpa using z)];rfl
 .rw[df (by rw[di];exact z),df (by simpa using z)];rfl
#synth vam ["name"] yvx
inductive ylk  (vs:Υ) (H:Hp) (Q:VK) (E':XK):Prop
 |mk(x:Str)(_:vs=[.str x])(_:nmS x=true)(_:∀l H',H l=none->H' l=some (.lst ((nmB x).map V.int))->yw H H'->Q (.ref l) H')
def yxn:vq P w K mg Γ CX0 1 a.Mc a.P7 ["name"] ylk:=by
 exists T.Pt.F.ok,vam,v;let⟨x,rfl,l,k⟩:=h;have n:=uc l;have t:x.cps.size=x.length:=rfl;exists 1,0,yc (yo (yp Ö (wx (pa1 (pcB u9 T.Ad (pa1 (pv 0))))) (wc (js:=[]) (ys:=[]) rfl (yp8 (pv 0)) (λC y B z=>(yy8 (K:=K) (r:=(yi2)) rfl PySem.F.plainAttrs_str PySem.F.slot_str_index PySem.F.type_str_index yh1 (yc4 rfl T.Du) (pa1 (pv 0)))) rfl rfl (hyc:=y8) (hrel:=y8))));exists x,rfl,de n ∅,?_;ext;exists by walk_at "len",λu hu0=>?_
 exists hu0,H1,S1,hu1;ext;exists x,rfl,λD j=>?_;refine yav (λi=>.int ((lix (x.cps.toList.getD i 0):Nat):Int)) j (λi c G g o S e=>?_) (λG S e=>?_)
 .obtain⟨xk,q⟩:=ysr l g;ext;exists rfl,?_;ext;exists smS,_,lix c,xk,rfl,rfl,q,?_;refine Mp.doneR j (vi ()) o S e ?_;show V.int _=V.int _;rw[dX,Array.getElem?_toList,g];rfl
 .ext;have b:=S1.trans S;rw[yrl]at e;exists u,D,_,_,rfl,rfl,S _ _ hu1,e,xu (by rw[bI,bI];show 1+x.cps.size<=_;omega),λc d=>?_;exact k c _ (b.free d) ya (b.trans (vg d))
def bsN(P:qi Pd):qj Str->Int
 |none=>0
 |some b=>(((P.map (·.nm)).idxOf b:Nat):Int)+1
def yjo{ns:Τ}{b:Str}(h:b∈ns):vf7 ns b (ns.idxOf b):=by
 have a:ns.idxOf b<ns.length:=List.idxOf_lt_length_iff.mpr h;exists ?_,λm f e=>?_
 .rw[ci a,List.getElem_idxOf a]
 .obtain⟨c,d⟩:=cE.mp e;have:=List.not_of_lt_findIdx (p:=(· == b)) (xs:=ns) (i:=m) f;rw[d]at this;simp at this
#synth yoz ["store","name","base"] ["store","name"] yww
inductive ynl(K:z3)(a:Ads)(vs:Υ)(H:Hp)(Q:VK)(E':XK):Prop
 |mk(st:z4)(C:Cf)(P:qi Pd)(X:Sx)(q:Pd)(_:vs=[.ref st,.str q.nm])(_:Sto K a H st C P X)(_:q∈P)(_:∀l H',H l=none->H' l=some (.lst [V.int (bsN P q.bs)])->yw H H'->Q (.ref l) H')
def yxl:vq P w K mg Γ CX0 5 a.Md a.P8 ["store","name"] (ynl K a):=by
 exists T.Pu.F.ok,yoz,j;let⟨M,C,P,X,q,rfl,g,y,k⟩:=h;let⟨ds,vl,vm,Z,Y,v⟩:=g.ins;have D:=g.nm q y;exists 2,1,yf (yu (i:=2) yoz.nd rfl (Or.inl rfl) (yv (pv 0) T.A1 T.Da.m (yj6 T) j.m T.Da.B .nil y9 (pa1 (pv 1)))) (yc (yo (wx (pa1 (ε (y6 yzs (pv 2) jy (vd _)) yh (yp vw (ji PySem.F.plainAttrs_list PySem.F.slot_list_index PySem.F.type_list_index yh7 (yz (pv 0) T.A1 T.Ap.m (Ó T) j.m T.Ap.B .nil vh) (pa1 (pv 2))) yh))))));refine g.baseof D.1 (λL=>absurd rfl (L q y)) λr j e H1 o=>?_;obtain rfl:=x8 g.nd j y e;have t:=g.same o;have J:=o _ _ v
 cases hb:r.bs with
 |none =>
  ext;refine zn (λF=>?_) (λz=>absurd rfl z);ext;exists by walk_at "len",λl c=>?_
  refine k l _ (o.free c) ?_ (o.trans (vg c));rw[hb];exact ya
 |some b =>
  have n:=g.to r j;rw[hb]at n;let⟨u,O,W,_⟩:=n;ext
  refine zn (λz=>nomatch z) (λF=>?_)
  ext;refine t.names λG U I d N=>?_;have f:U G=some (.lst ((P.map (·.nm)).map V.str)):=by rw[d,cX];rfl
  refine jh d ?_;ext;exists G,_,b,_,rfl,rfl,SqL.of f,yjo (cn.mpr ⟨u,O,W⟩),?_;ext;exists by walk_at "len",λl c=>?_
  have p:=o.trans N;refine k l _ (p.free c) ?_ (p.trans (vg c));rw[hb];exact ya
def pdB(C:Cf)(P:qi Pd)(q:Pd):Ρ:=nmB q.nm++[bsN P q.bs]++q.by C
def lkF(C:Cf)(i:Nat):Ρ:=((List.range i).map λj=>lkB (C.kd j) (C.ps j)).flatten
def þ(C:Cf)(i:Nat):lkF C (i+1)=lkF C i++lkB (C.kd i) (C.ps i):=by unfold lkF;rw[List.range_succ,cA,List.flatten_append,List.map_singleton,List.flatten_singleton]
def hdB(C:Cf):Ρ:=((C.n:Nat):Int)::lkF C C.n++[((C.mo:Nat):Int)/256,((C.mo:Nat):Int)%256]
def shB(C:Cf)(P:qi Pd):Ρ:=hdB C++((P.length:Nat):Int)::(P.map (pdB C P)).flatten
theorem xn.lkl{H:Hp}{C:Cf}{lk:Μ}(h:xn H C.n lk C.kd tp C.ps):∀i,i<=C.n->(lkF C i).length<=i*6
 |0,_=>cq _
 |i+1,hi=>by
  let⟨_,_,_,_,a⟩:=h i ();have b:=ux a;rw[bI]at b;rw[þ,cj];have:=h.lkl i ();show (lkF C i).length+((C.ps i).length+1+1)<=_;omega
section
variable{H:Hp}{C:Cf}{P:qi Pd}{X:Sx}
def Sto.pdl(h:Sto K a H st C P X){q:Pd}(hq:q∈P):(pdB C P q).length<=5520:=by have d:=uc (h.nm q hq).1;have e:=h.sz q hq;have b:=h.cf;have c:=ű (n:=C.n) (kd:=C.kd) (ps:=C.ps) (pre:=Æ (q.path.map (·.2))) (ts:=q.tx) b.1 b.2.1 (xy _) ();have c:(q.by C).length<=5500:=c;have b:q.nm.cps.toList.length=q.nm.length:=rfl;unfold pdB nmB;rw[cj,cj,cO,bI,b];show _+1+1+_<=_;omega
theorem Sto.pls(h:Sto K a H st C P X):∀i,i<=P.length->(((P.take i).map (pdB C P)).flatten).length<=i*5520
 |0,_=>cq _
 |i+1,hi=>by
  have b:i<P.length:=()
  rw[cM b,cA,List.flatten_append,cj];have c:=h.pls i ();have d:=h.pdl (cU b);rw[List.map_singleton,List.flatten_singleton];omega
end
def yd3(C:Cf){P:qi Pd}{q:Pd}(h:P[i]?=some q):((P.take (i+1)).map (pdB C P)).flatten=((P.take i).map (pdB C P)).flatten++pdB C P q:=by rw[cM (cE.mp h).1,(cE.mp h).2,cA,List.flatten_append,List.map_singleton,List.flatten_singleton]
def wr2{m:Nat}(h:m<=1000):wr 2 (m:Int)=[(m:Int)/256,(m:Int)%256]:=by show [(m:Int)/256%256,(m:Int)%256]=_;rw[Int.emod_eq_of_lt (a:=(m:Int)/256) () ()]
#synth ŉ ["store","looks","names","shelf","look","name"] ["store"] yvv
inductive ymy(K:z3)(a:Ads)(vs:Υ)(H:Hp)(Q:VK)(E':XK):Prop
 |mk(st:z4)(C:Cf)(P:qi Pd)(X:Sx)(_:vs=[.ref st])(_:Sto K a H st C P X)(_:∀l H',H l=none->H' l=some (.lst ((shB C P).map V.int))->yw H H'->Q (.ref l) H')
def ĥ:vq P w K mg Γ CX0 6 a.Me a.P9 ["store"] (ymy K a):=by
 exists T.Cz.F.ok,ŉ,x;let⟨st,C,P,X,rfl,O,k⟩:=h;let⟨ds,vl,vm,vp,vc,ac⟩:=O.ins;let⟨c1,c6,cm,cw,c2⟩:=O.cf;have az:=O.z;refine yg (yu (i:=1) ŉ.nd rfl (Or.inl rfl) (yz (pv 0) T.A1 T.D7.m (yj4 T) x.m T.D7.B .nil vh)) ?_;refine yg (yu (i:=2) ŉ.nd rfl (Or.inl rfl) (yz (pv 0) T.A1 T.Ap.m (Ó T) x.m T.Ap.B .nil vh)) ?_;refine yg (yu (i:=3) ŉ.nd rfl (Or.inl rfl) (wx (pa1 (pcB yr T.Ad (pa1 (pv 1)))))) ?_;refine yg (uh PassesOwn.never rfl (wz (pv 1)) (we (i:=4) ŉ.nd rfl (Or.inl rfl)) (yc (yt (ji PySem.F.plainAttrs_list PySem.F.slot_list_extend PySem.F.type_list_extend É (pv 3) (pa1 (xx (yz0 T) x.m T.Ps (pa1 (pv 4)))))))) ?_;refine yg (yt (ji PySem.F.plainAttrs_list PySem.F.slot_list_extend PySem.F.type_list_extend É (pv 3) (pa1 (xx (yof T) x.m T.Iq (pac (yz (pv 0) T.A1 T.D8.m (yju T) x.m T.D8.B .nil vh) (pa1 yh)))))) ?_;refine yg (yt (ji PySem.F.plainAttrs_list PySem.F.slot_list_append PySem.F.type_list_append w6 (pv 3) (pa1 (pcB yr T.Ad (pa1 (pv 2)))))) ?_;refine yg (uh PassesOwn.never rfl (wz (pv 2)) (we (i:=5) ŉ.nd rfl (Or.inl rfl)) (yc (yt (ji PySem.F.plainAttrs_list PySem.F.slot_list_extend PySem.F.type_list_extend É (pv 3) (pa1 (yp Ö (yp Ö (xx (yxn T) x.m T.Pt (pa1 (pv 5))) (xx (yxl T) x.m T.Pu (pac (pv 0) (pa1 (pv 5))))) (yv (pv 0) T.A1 T.Be.m (Ġ T) x.m T.Be.B .nil y9 (pa1 (pv 5))))))))) ?_;exists 1,5,yc (yo (pv 3));refine O.tlooks λlo lk tp H1 ak L hR S=>?_;have U:=S _ _ ac;ext;refine(O.same S).names λnm H2 a1 j M=>?_;have p:=M _ _ L;ext;refine ut (SqL.of p) ?_;rw[v9];ext;exists by walk_at "len",λd hsh0=>?_
 exists hsh0,H3,S3,hsh3;have aC:=S.trans (M.trans S3);have a7:H d=none:=S.free (M.free hsh0);have a2:=S3 _ _ p;have ab:=S3 _ _ j;have af:=(hR.same M).same S3;have aa:H3 d=some (.lst ((((C.n:Nat):Int)::lkF C 0).map V.int)):=hsh3;have R:=hR.same M;have u:=O.same (S.trans M);clear hR hsh3 ab a2 af L a1 U;have a6:=R.lkl;ext;refine⟨lo,rfl,⟨_,SqL.of (S3 _ _ p)⟩,zd (K:=K) (a:=lo) (xs:=refs lk C.n) (λi σ2 G=>∃v4:Ψ,σ2=[some (.ref st),some (.ref lo),some (.ref nm),some (.ref d),v4,none]/\yw H2 G/\G d=some (.lst ((((C.n:Nat):Int)::lkF C i).map V.int)))
  ⟨none,rfl,S3,aa⟩ (λi σ2 G F ⟨_,_,f,_⟩=>SqL.of (f _ _ p)) ?_ ?_⟩
 .rintro i y σ2 G hy ⟨v4,rfl,f,c⟩;let⟨rfl,hi⟩:=γ hy;have aj:=a6 i ();let⟨_,_,_,_,h3⟩:=R i hi;have h4:=ux h3;rw[bI]at h4;ext;refine jh c ?_;ext;exists .ref (lk i),C.kd i,tp i,C.ps i,rfl,(R i hi).same f,λl Y aH ah I=>?_;exists d,l,_,_,rfl,rfl,I _ _ c,ah,xu (by rw[bI,bI];show (lkF C i).length+1+((C.ps i).length+1+1)<=_;omega),?_;ext;exists _,rfl,λb o e=>ye (yb e hsh0) (I _ _ (f _ _ e)),?_;rw[ya,þ,<- cA];rfl
 rintro σ2 G ⟨v4,rfl,f,c⟩;rw[v9]at c;have aj:=a6 C.n (cq _);have t:=u.same f;let⟨ap,au,as,aw,aE,a5⟩:=t.ins;clear aa;ext;refine jh c ?_;ext;refine t.tmost ?_;ext;exists _,2,rfl,∅,λw Y ad N I=>?_
 rw[wr2 cm]at N;exists d,w,_,_,rfl,rfl,I _ _ c,N,xu (by rw[bI];show (lkF C C.n).length+1+2<=_;omega),?_;rw[<- cA];have S4:yw H2 (upd Y d (.lst ((((C.n:Nat):Int)::lkF C C.n++[((C.mo:Nat):Int)/256,((C.mo:Nat):Int)%256]).map V.int))):=λb o e=>ye (yb e hsh0) (I _ _ (f _ _ e));have g:upd Y d (.lst ((((C.n:Nat):Int)::lkF C C.n++[((C.mo:Nat):Int)/256,((C.mo:Nat):Int)%256]).map V.int)) d=some (.lst ((hdB C).map V.int)):=ya;generalize upd Y d (.lst ((((C.n:Nat):Int)::lkF C C.n++[((C.mo:Nat):Int)/256,((C.mo:Nat):Int)%256]).map V.int))=H4 at S4 g⊢;clear c t a5 ad N I f;have aD:(hdB C).length<=40:=by unfold hdB;rw[cj,cO];show _+1+2<=40;omega
 ext;refine jh g ?_;ext;refine ut (SqL.of (S4 _ _ j)) ?_;rw[bI];ext;refine x0 g (vi (by rw[bI];omega)) ?_;have S5:yw H2 (upd H4 d (.lst ((hdB C).map V.int++[V.int ((P.length:Nat):Int)]))):=λb o e=>ye (yb e hsh0) (S4 _ _ e)
 have J:upd H4 d (.lst ((hdB C).map V.int++[V.int ((P.length:Nat):Int)])) d=some (.lst ((hdB C++((P.length:Nat):Int)::((P.take 0).map (pdB C P)).flatten).map V.int)):=by
  rw[ya,cA];rfl
 generalize upd H4 d (.lst ((hdB C).map V.int++[V.int ((P.length:Nat):Int)]))=H5 at S5 J⊢;clear g S4;have ae:∀q,q∈P->(pdB C P q).length<=5520:=λq=>u.pdl;have ai:=u.pls;ext;refine⟨nm,rfl,⟨_,SqL.of (S5 _ _ j)⟩,zd (K:=K) (a:=nm) (xs:=P.map λq=>V.str q.nm) (λi σ2 G=>∃v5:Ψ,σ2=[some (.ref st),some (.ref lo),some (.ref nm),some (.ref d),v4,v5]/\yw H2 G/\G d=some (.lst ((hdB C++((P.length:Nat):Int)::((P.take i).map (pdB C P)).flatten).map V.int)))
  ⟨none,rfl,S5,J⟩ (λi σ2 G F ⟨_,_,f,_⟩=>SqL.of (f _ _ j)) ?_ ?_⟩
 .rintro i y σ2 G hy ⟨v5,rfl,f,c⟩;rw[cu]at hy;let⟨q,hq,rfl⟩:=dL.mp hy;have aq:i<P.length:=(cE.mp hq).1;have ay:P[i]=q:=(cE.mp hq).2;have v:=cB hq;have a3:=u.nm q v;have ax:=ai i ();have D:=ae q v;have t:=u.same f;ext;refine jh c ?_;ext;exists q.nm,rfl,a3.1,λb1 G1 ao a4 T1=>?_;ext;exists st,C,P,X,q,rfl,t.same T1,v,λb2 Y am a8 I=>?_;ext;exists b1,b2,_,_,rfl,rfl,I _ _ a4,a8,xu (by rw[bI];unfold pdB at D;rw[cj,cj]at D;show _+1<=_;omega),λb3 hb30=>?_;exists hb30,G3,T3,hb33;have a0:=T1.trans (I.trans T3);have W:=t.same a0;let⟨aA,aG,aB,av,ar,an⟩:=W.ins;ext;refine W.bytesof a3.1 (λno=>absurd rfl (no q v)) λr x er b4 G4 al a9 T4=>?_;obtain rfl:=x8 O.nd x v er;ext;exists b3,b4,_,_,rfl,rfl,T4 _ _ hb33,a9,xu (by rw[cj,bI,bI];unfold pdB at D;rw[cj,cj]at D;show _+1+_<=_;omega),λb5 hb50=>?_;exists hb50,G5,T5,hb55;have Z:=a0.trans (T4.trans T5)
  have hb55:G5 b5=some (.lst ((pdB C P r).map V.int)):=by
   rw[hb55];unfold pdB;rw[cA,cA];rfl
  exists d,b5,_,_,rfl,rfl,Z _ _ c,hb55,xu (by rw[bI,bI,cj,cO];omega),?_;ext;exists _,rfl,λb o e=>ye (yb e hsh0) (Z _ _ (f _ _ e)),?_;rw[ya,yd3 C hq,<- cA,cY];rfl
 .rintro σ2 G ⟨v5,rfl,f,c⟩;rw[bI,dh]at c;ext;exact k d G a7 c (S.trans (M.trans f))
structure RdR(a:Ads)(H:Hp)(r dr dl:z4)(d:Ρ)(j:Nat):Prop where
 me:H r=some (.ins a.A3 dr (za (.ref dl) (.int ((j:Nat):Int))))
 dl:H dl=some (.lst (d.map V.int))
def RdR.same{H H':Hp}{r dr dl:z4}{d:Ρ}(h:RdR a H r dr dl d j)(S:yw H H'):RdR a H' r dr dl d j:=⟨S _ _ h.me,S _ _ h.dl⟩
#synth yzq ["self","data"] ywi
inductive yh5(a:Ads)(vs:Υ)(H:Hp)(Q:VK)(E':XK):Prop
 |mk(r dr dl:z4)(d:Ρ)(_:vs=[.ref r,.ref dl])(_:H r=some (.ins a.A3 dr []))(_:H dl=some (.lst (d.map V.int)))(_:∀H',RdR a H' r dr dl d 0->But r H H'->Q .non H')
def vbw:vq P w K mg Γ CX0 1 a.Ia a.Pa ["self","data"] (yh5 a):=by
 exists T.Fv.F.ok,yzq,m;let⟨r,c,b,d,rfl,j,f,k⟩:=h;have g:b≠r:=λz=>by rw[z,j]at f;cases f
 exists 2,0,yf (y7 (pv 0) (pv 1) rfl) (yc (y7 (pv 0) yh rfl));have n:upd H r (.ins a.A3 c [("data",.ref b)]) r=some (.ins a.A3 c [("data",.ref b)]):=ya;ext;exact k _ ⟨ya,ye g (ye g f)⟩ (But.upd.trans But.upd)
def But.non{r t:z4}{H H':Hp}{o:HO}(b:But r H H')(hr:H' r=some o)(h:H' t=none):H t=none:=by
 cases e:H t with
 |none=>rfl
 |some o' =>
  by_cases z:t=r
  .rw[z,hr]at h;cases h
  .rw[b t o' e z]at h;cases h
#synth yx2 ["self"] yvh
inductive ymz(a:Ads)(vs:Υ)(H:Hp)(Q:VK)(E':XK):Prop
 |mk(r dr dl:z4)(d:Ρ)(j:Nat)(x:Int)(xk:Ρ)(_:vs=[.ref r])(_:RdR a H r dr dl d j)(_:d.drop j=x::xk)(_:∀H',RdR a H' r dr dl d (j+1)->But r H H'->Q (.int x) H')
def ò:vq P w K mg Γ CX0 1 a.Mf a.Pb ["self"] (ymz a):=by
 exists T.Av.F.ok,yx2,y;let⟨r,c,b,d,j,x,xk,rfl,h,g,k⟩:=h;have l:=h.me;have t:b≠r:=λz=>by have e:=h.dl;rw[z,l]at e;cases e
 have o:j<d.length:=by
  rcases Nat.lt_or_ge j d.length with z|z
  .exact z
  .rw[List.drop_eq_nil_of_le z]at g;cases g
 have i:d[j]?=some x:=by
  rw[dC o]at g;rw[ci o];cases g;rfl
 exists 1,0,yf (wd (y6 jj (ym (pv 0) rfl) (pcB yr T.Ad (pa1 (ym (pv 0) rfl))) (vd _)) (yc Ñ) ve) (yf (y7 (pv 0) (yp vw (ym (pv 0) rfl) yh) rfl) (yc (yo (xf wk (ym (pv 0) rfl) (yp zh (ym (pv 0) rfl) yh) (λZ Z=>rfl)))));refine ut (SqL.of h.dl) ?_;rw[bI];ext;refine zn (λz=>absurd z ()) (λZ=>?_);ext;have f:RdR a (upd H r (.ins a.A3 c (za (.ref b) (.int ((j:Nat)+1))))) r c b d (j+1):=⟨ya,ye t h.dl⟩;have p:But r H (upd H r (.ins a.A3 c (za (.ref b) (.int ((j:Nat)+1))))):=But.upd;generalize upd H r (.ins a.A3 c (za (.ref b) (.int ((j:Nat)+1))))=B at f p⊢;have n:=f.me;ext;refine Û (v:=.int x) (SqL.of f.dl) (by rw[show ((j:Nat):Int)+1-1=((j:Nat):Int) by omega];exact w9 (by rw[cu,i];rfl)) ?_;exact k _ f p
def vhe(K:z3)(H:Hp)(pt:V)(x:Nat)(v:V):Prop :=
 (∃p xs,pt=.ref p/\H p=some (.lst xs)/\xs[x]?=some v)\/(∃p xs,pt=.ref p/\(∀H,SqT K H p xs)/\xs[x]?=some v)\/∃(z:Str)(c:Nat),pt=.str z/\z.length<=1000/\z.cps[x]?=some c/\v=.str ⟨#[c]⟩
#synth yqd ["self","parts","number"] ["self","parts"] yu1
inductive yl6(K:z3)(a:Ads)(vs:Υ)(H:Hp)(Q:VK)(E':XK):Prop
 |mk(r dr dl:z4)(d:Ρ)(j x:Nat)(xk:Ρ)(pt v:V)(_:vs=[.ref r,pt])(_:RdR a H r dr dl d j)(_:d.drop j=((x:Nat):Int)::xk)(_:vhe K H pt x v)(_:∀H',RdR a H' r dr dl d (j+1)->But r H H'->Q v H')
def ykb:vq P w K mg Γ CX0 2 a.Mg a.Pe ["self","parts"] (yl6 K a):=by
 exists T.Db.F.ok,yqd,G;let⟨r,u,C,d,j,x,xk,I,v,rfl,h,M,b,k⟩:=h;have q:=h.me;exists 2,1,yf (yu (i:=2) yqd.nd rfl (Or.inl rfl) (yz (pv 0) T.A7 T.Av.m (ò T) G.m T.Av.B .nil vh)) (yf (wd (y6 vdm (pv 2) (Õ (pcB yr T.Ad (pa1 (pv 1))) (pcB u9 T.Ad (pa1 (pv 1)))) (vd _)) (yc Ñ) ve) (yc (yo (Õ (xf wk (pv 1) (pv 2) (λZ Z=>rfl)) (Õ (xf jn (pv 1) (pv 2) (λZ Z=>rfl)) (ua (pv 1) (pv 2) (λZ Z=>rfl)))))));exists r,u,C,d,j,_,xk,rfl,h,M,λO n l=>?_;rcases b with⟨p,t,rfl,b,g⟩|⟨p,t,rfl,b,g⟩|⟨z,c,rfl,N,D,rfl⟩
 .have f:=l _ _ b λz=>by rw[z,q]at b;cases b
  have y:x<t.length:=(cE.mp g).1;ext;refine ο ?_;ext;refine ut (SqL.of f) ?_;ext;refine zn (λz=>absurd z ()) (λZ=>?_);ext;refine ο ?_;ext;refine Û (SqL.of f) (w9 g) ?_;exact k _ n l
 .have y:x<t.length:=(cE.mp g).1;ext;refine ο ?_;ext;exists p,_,rfl,.inr (b _),?_;ext;refine zn (λz=>absurd z ()) (λZ=>?_);ext;refine zy (ο ?_);ext;refine ybt (b _) (w9 g) ?_;exact k _ n l
 .have y:x<z.length:=by
   have e:=(Array.getElem?_eq_some_iff.mp D).1;exact e
  ext;refine zy ?_;ext;exists z,rfl,xu (),?_;ext;refine zn (λz=>absurd z ()) (λZ=>?_);ext;refine zy (zy ?_);ext;exists z,((x:Nat):Int),c,rfl,rfl,(),(),(),by rw[Int.toNat_natCast];exact D,?_
  exact k _ n l
def ve9(kd:Fin 3):([.str "even",.str "quick",.str "run"]:Υ)[kd.val]?=some (.str (kdS kd)):=by
 match kd with
 |0=>rfl
 |1=>rfl
 |2=>rfl
#synth ycu ["self","kind","many"] ["self"] yjy
inductive ymc(K:z3)(a:Ads)(vs:Υ)(H:Hp)(Q:VK)(E':XK):Prop
 |mk(r dr dl:z4)(d:Ρ)(j:Nat)(kd:Fin 3)(ps xk:Ρ)(_:vs=[.ref r])(_:RdR a H r dr dl d j)(_:d.drop j=lkB kd ps++xk)(_:ps.length<=255)(_:∀t tp H',H t=none->H tp=none->H' t=some (.tup [.str (kdS kd),.ref tp])->H' tp=some (.tup (ps.map V.int))->RdR a H' r dr dl d (j+(2+ps.length))->But r H H'->Q (.ref t) H')
def yrn:vq P w K mg Γ CX0 3 a.G0 a.Gp ["self"] (ymc K a):=by
 exists T.Ew.F.ok,ycu,S;let⟨r,u,x,d,j,N,f,xk,rfl,h,hx,a3,k⟩:=h;have a2:=h.me
 have y:d.drop (j+1)=((f.length:Nat):Int)::(f++xk):=by
  rw[<- List.drop_drop,hx];rfl
 have X:d.drop (j+1+1)=f++xk:=by
  rw[<- List.drop_drop,y];rfl
 exists 1,2,yf (yu (i:=1) ycu.nd rfl (Or.inl rfl) (wn (pv 0) T.A7 T.Db.m (ykb T) S.m T.Db.B .nil vh (pa1 (å rfl T.Hn)))) (yf (yu (i:=2) ycu.nd rfl (Or.inl rfl) (yz (pv 0) T.A7 T.Av.m (ò T) S.m T.Av.B .nil vh)) (yc (yo (Ô (pac (pv 1) (pa1 (pcT È T.Cv (pa1 (wc (js:=[0]) (ys:=["self"]) rfl (xl rfl T.As (pa1 (pv 2))) (λC s2 H2 fp=>(yz (pv 1) T.A7 T.Av.m (ò T) S.m T.Av.B .nil vh)) rfl rfl (hyc:=(all_cons rfl y8)) (hrel:=(all_cons rfl y8)))))))))));exists r,u,x,d,j,N.val,_,_,.str (kdS N),rfl,h,hx,.inr (.inl ⟨a.Bl,_,rfl,T.Ho,ve9 N⟩),λH1 Y b1=>?_;have a0:=Y.me;ext;exists r,u,x,d,j+1,_,_,rfl,Y,y,λH2 O b2=>?_;have c:=O.me;have q:=b1.trans b2;ext;exists _,rfl,(),(),λD l=>?_
 have I:D≠r:=λz=>by rw[z,c]at l;cases l
 refine z7 (n:=f.length) (λi G=>RdR a G r u x d (j+1+1+i)/\G D=some (.lst ((f.take i).map V.int))/\But r H2 G) ⟨⟨ye (yb c l) c,ye (yb O.dl l) O.dl⟩,ya,λb o e F=>ye (yb e l) e⟩ (λi G W z=>?_) (λG z=>?_)
 .obtain⟨p,g,R⟩:=z;have Z:=p.me;ext;exists r,u,x,d,j+1+1+i,f[i],f.drop (i+1)++xk,rfl,p,?_,λG1 M J=>?_
  .rw[<- List.drop_drop,X,List.drop_append_of_le_length (),dC W];rfl
  .have v:=J _ _ g I;ext;refine xm (n:=f.length) v (vi (by rw[bI,cK];omega)) W ⟨⟨ye I.symm M.me,ye (yb O.dl l) M.dl⟩,by rw[ya,cM W,cA];rfl,λb o e n=>ye (yb e l) (J _ _ (R b o e n) n)⟩
 let⟨p,g,R⟩:=z;rw[dh]at g;ext;exists D,_,rfl,.inl ⟨SqL.of g,λtp htp=>?_⟩;exists htp,G1,S1,e1;ext;exists by show 2<=sizeLine;decide,λt ht=>?_
 exists ht,G2,S2,e2;have L:But r H G1:=λb o e n=>S1 _ _ (R _ _ (q _ _ e n) n);exact k t tp G2 (L.non (S1 _ _ p.me) ht) ((q.trans R).non p.me htp) e2 (S2 _ _ e1) (by rw[show j+(2+f.length)=j+1+1+f.length by omega];exact p.same (S1.trans S2)) λb o e n=>S2 _ _ (L b o e n)
structure CfG(C:Cf):Prop where
 n:1<=C.n/\C.n<=6
 m:C.mo<=1000/\C.w<=C.mo/\C.w<=200
 p:∀i,i<C.n->ur ((C.ps i).map V.int)=true
theorem yp2(C:Cf):∀{n:Nat},i<n->∃m,lkF C n=lkF C i++(lkB (C.kd i) (C.ps i)++m)
 |n+1,h=>by
  rw[þ];rcases Nat.lt_or_ge i n with z|z
  .obtain⟨m,e⟩:=yp2 C z;exists m++lkB (C.kd n) (C.ps n),by rw[e,cY,cY]
  .obtain rfl:i=n:=()
   exists [],by rw[dZ]
def ud{d A B:Ρ}{k:Nat}(h:d.drop k=A++B):d.drop (k+A.length)=B:=by rw[<- List.drop_drop,h,List.drop_left]
def yro(tt:Μ)(i:Nat)(t:z4):refs (λj=>if j=i then t else tt j) (i+1)=refs tt i++[V.ref t]:=by rw[uz,if_pos rfl,uv λj a=>if_neg (cV a)]
#synth Ż ["self","many","looks","upper"] ["self"] ykp
inductive yh2(K:z3)(a:Ads)(vs:Υ)(H:Hp)(Q:VK)(E':XK):Prop
 |mk(r dr dl:z4)(d:Ρ)(j:Nat)(C:Cf)(xk:Ρ)(_:vs=[.ref r])(_:RdR a H r dr dl d j)(_:d.drop j=hdB C++xk)(_:CfG C)(_:∀st X H',Sto K a H' st C [] X->RdR a H' r dr dl d (j+(hdB C).length)->But r H H'->(∀y,X.f y->H y=none)->Q (.ref st) H')
def ysc:vq P w K mg Γ CX0 12 a.Ga a.Gq ["self"] (yh2 K a):=by
 exists T.Ey.F.ok,Ż,R;let⟨r,M,N,d,j,C,xk,rfl,h,hx,hC,k⟩:=h;have ae:=h.me;let⟨⟨n1,n6⟩,⟨m1,wm,w2⟩,W⟩:=hC
 have U:d.drop j=((C.n:Nat):Int)::(lkF C C.n++([((C.mo:Nat):Int)/256,((C.mo:Nat):Int)%256]++xk)):=by
  rw[hx];unfold hdB;rw[cY];rfl
 have Y:d.drop (j+1)=lkF C C.n++([((C.mo:Nat):Int)/256,((C.mo:Nat):Int)%256]++xk):=ud (A:=[_]) U;have Z:=ud Y;have a4:=ud (A:=[_]) Z;exists 1,3,yf (yu (i:=1) Ż.nd rfl (Or.inl rfl) (yz (pv 0) T.A7 T.Av.m (ò T) R.m T.Av.B .nil vh)) (yf (yd5 (i:=2) (js:=[0]) (ys:=["self"]) Ż.nd rfl rfl rfl (xl rfl T.As (pa1 (pv 1))) (λC s2 H2 fp=>(yz (pv 1) T.A7 T.Ew.m (yrn T) R.m T.Ew.B .nil vh)) rfl rfl (hyc:=(all_cons rfl y8)) (hrel:=(all_cons rfl y8))) (yf (yu (i:=3) Ż.nd rfl (Or.inl rfl) (yz (pv 0) T.A7 T.Av.m (ò T) R.m T.Av.B .nil vh)) (yc (yo (xz T.Hi (yjz T) R.m rfl T.E4 T.Qj .nil y9 (pac (pv 2) (pa1 (yp vw (yp wv yh (pv 3)) (yz (pv 0) T.A7 T.Av.m (ò T) R.m T.Av.B .nil vh)))))))));exists r,M,N,d,j,_,_,rfl,h,U,λH1 h1 b1=>?_;have f:=h1.me;ext;exists _,rfl,(),(),λD I=>?_
 have v:D≠r:=λz=>by rw[z,f]at I;cases I
 refine z7 (n:=C.n) (λi G=>∃q L,RdR a G r M N d (j+1+(lkF C i).length)/\G D=some (.lst (refs q i))/\xn G i q C.kd L C.ps/\But r H1 G) ⟨λF=>0,λF=>0,⟨ye (yb f I) f,ye (yb h1.dl I) h1.dl⟩,ya,λi O=>absurd O (cS _),λb o e F=>ye (yb e I) e⟩ (λi G O z=>?_) (λG z=>?_)
 .obtain⟨q,L,hG,u,hR,bG⟩:=z;have c:=hG.me;let⟨m,em⟩:=yp2 C O;have a6:=ux (W i O);rw[bI]at a6;ext;exists r,M,N,d,_,C.kd i,C.ps i,m++([((C.mo:Nat):Int)/256,((C.mo:Nat):Int)%256]++xk),rfl,hG,ud (by rw[Y,em,cY,cY]),(),λt tq G1 ac aa ht a5 a2 g=>?_
  have p:=g _ _ u v;refine xm p (vi (by rw[v9];omega)) O ⟨λk=>if k=i then t else q k,λk=>if k=i then tq else L k,⟨by rw[þ,cj,show (lkB (C.kd i) (C.ps i)).length=2+(C.ps i).length by show _+1+1=_;omega,<- Nat.add_assoc];exact ye v.symm a2.me,ye (yb h1.dl I) a2.dl⟩,by rw[ya,yro],λk hk=>?_,λb o e n=>ye (yb e I) (g _ _ (bG b o e n) n)⟩;have up:∀{x:z4}{J:Υ},G1 x=some (.tup J)->upd G1 D (.lst (refs q i++[.ref t])) x=some (.tup J):=λ{x J}e=>ye (λz=>by rw[z,p]at e;cases e) e;show LkG _ (.ref (if k=i then t else q k)) (C.kd k) (if k=i then tq else L k) (C.ps k);by_cases z:k=i
  .rw[if_pos z,if_pos z,z];exists t,rfl,up ht,up a5,W i O
  .rw[if_neg z,if_neg z];let⟨l,e,e1,e2,e3⟩:=hR k ();have nr:∀{x:z4}{J:Υ},G x=some (.tup J)->x≠r:=λ{x J}e z=>by rw[z,c]at e;cases e
   exists l,e,up (g _ _ e1 (nr e1)),up (g _ _ e2 (nr e2)),e3
 let⟨q,L,hG,u,hR,bG⟩:=z;have c:=hG.me;ext;exists r,M,N,d,_,_,_,rfl,hG,Z,λH3 h3 b3=>?_;have ab:=h3.me;ext;exists r,M,N,d,_,_,_,rfl,h3,a4,λH4 h4 b4=>?_;ext;intro st ds a0 a1 af;have a3:=(bG.trans b3).trans b4;have S:=b1.trans a3;have a9:=(b3.trans b4) _ _ u v;have a7:xn H4 C.n q C.kd L C.ps:=hR.fr λx J e=>(b3.trans b4) _ _ e λz=>by rw[z,c]at e;cases e
 rw[show 256*(((C.mo:Nat):Int)/256)+((C.mo:Nat):Int)%256=((C.mo:Nat):Int) by omega];refine Sto.new (mo:=C.mo) (w:=C.w) a0 a1 a9 n1 n6 a7 m1 wm w2 λX H5 hS S5 hn F=>⟨rfl,?_⟩;refine k st X H5 hS ?_ (λb o e n=>S5 _ _ (S b o e n)) λy hy=>S.non h4.me (hn y hy);rw[show j+(hdB C).length=j+1+(lkF C C.n).length+1+1 by unfold hdB;rw[cj,cO];show _+(_+1+2)=_;omega];exact h4.same S5
def yrm{x:Str}(h:nmS x=true){c:Nat}(hc:c∈x.cps.toList):ygj c=true:=by unfold nmS at h;simp only[cR,List.all_eq_true]at h;exact h.2.2 c hc
def ytm{c:Nat}(h:ygj c=true):97<=c/\c<=122:=by
 unfold ygj at h;have h:(!(Builtin.Str.occurrences smS ⟨#[c]⟩ 0 smS.length 1).isEmpty)=true:=h;rw[PySem.StrLaws.found_one]at h;let⟨i,d,e⟩:=List.mem_iff_getElem.mp (of_decide_eq_true h)
 have a:i<26:=by
  have:=ģ;have e:smS.cps.toList.length=smS.length:=rfl;omega
 have b:=ykm i a;rw[<- Array.getElem?_toList,ci d,e]at b;have:=cL b;omega
#synth yij ["self","many"] ["self"] ykw
inductive ynj(K:z3)(a:Ads)(vs:Υ)(H:Hp)(Q:VK)(E':XK):Prop
 |mk(r dr dl:z4)(d:Ρ)(j:Nat)(x:Str)(xk:Ρ)(_:vs=[.ref r])(_:RdR a H r dr dl d j)(_:d.drop j=nmB x++xk)(_:nmS x=true)(_:∀H',RdR a H' r dr dl d (j+(nmB x).length)->But r H H'->Q (.str x) H')
def yr1:vq P w K mg Γ CX0 3 a.Gb a.Gr ["self"] (ynj K a):=by
 exists T.Ez.F.ok,yij,S;let⟨r,J,L,d,j,x,xk,rfl,h,Y,W,k⟩:=h;have a1:=h.me;have h8:=uc W;have R:d.drop (j+1)=(x.cps.toList.map λc=>((lix c:Nat):Int))++xk:=ud (A:=[_]) Y;exists 1,1,yf (yu (i:=1) yij.nd rfl (Or.inl rfl) (yz (pv 0) T.A7 T.Av.m (ò T) S.m T.Av.B .nil vh)) (yc (yo (ji PySem.F.plainAttrs_str PySem.F.slot_str_join PySem.F.type_str_join ymx xc (pa1 (wc (js:=[0]) (ys:=["self"]) rfl (xl rfl T.As (pa1 (pv 1))) (λC s2 H2 fp=>(wn (pv 1) T.A7 T.Db.m (ykb T) S.m T.Db.B .nil vh (pa1 (yc4 rfl T.Du)))) rfl rfl (hyc:=(all_cons rfl y8)) (hrel:=(all_cons rfl y8)))))));exists r,J,L,d,j,_,_,rfl,h,Y,λH1 I Z=>?_;have f:=I.me;ext;exists rfl,?_;ext;exists _,rfl,(),(),λD l=>?_
 have t:D≠r:=λz=>by rw[z,f]at l;cases l
 have p:x.cps.toList.length=x.length:=rfl;refine z7 (n:=x.length) (λi G=>RdR a G r J L d (j+1+i)/\G D=some (.lst ((x.cps.toList.take i).map λc=>V.str ⟨#[c]⟩))/\But r H1 G) ⟨⟨ye (yb f l) f,ye (yb I.dl l) I.dl⟩,ya,λb o e F=>ye (yb e l) e⟩ (λi G v z=>?_) (λG z=>?_)
 .obtain⟨M,g,N⟩:=z;have U:=M.me;rw[<- p]at v;have X:=ytm (yrm W (cU v));ext;exists r,J,L,d,j+1+i,lix x.cps.toList[i],(x.cps.toList.drop (i+1)).map (λc=>((lix c:Nat):Int))++xk,_,.str ⟨#[x.cps.toList[i]]⟩,rfl,M,?_,.inr (.inr ⟨smS,x.cps.toList[i],rfl,by rw[ģ];decide,?_,rfl⟩),λG1 y u=>?_
  .rw[<- List.drop_drop,R,List.drop_append_of_le_length (by rw[bI];omega),<- List.map_drop,dC v];rfl
  .rw[yoc X.1 X.2,ykm _ ()]
   congr 1
   omega
  .have q:=u _ _ g t;refine xm q (vi (by rw[bI,cK];omega)) (by rw[<- p];exact v) ⟨⟨ye t.symm y.me,ye (yb I.dl l) y.dl⟩,by rw[ya,cM v,cA];rfl,λb o e n=>ye (yb e l) (u _ _ (N b o e n) n)⟩
 let⟨M,g,N⟩:=z;rw[<- p,dh]at g;ext;exists D,x.cps.toList,rfl,rfl,SqL.of g,(),?_
 rw[show (⟨x.cps.toList.toArray⟩:Str)=x by rw[Array.toArray_toList]];exact k _ (by rw[show j+(nmB x).length=j+1+x.length by unfold nmB;rw[cO,bI];omega];exact M) (Z.trans N)
structure PdN(C:Cf)(P:qi Pd)(q:Pd):Prop where
 nm:okN q.nm
 no:∀u,u∈P->u.nm≠q.nm
 z:P.length<60
 s:Sgs q.tx
 l:q.tx.length<=C.w
 to:ToD P q.bs q.path
def bsX(P:qi Pd):qj Str->Nat
 |none=>0
 |some b=>(P.map (·.nm)).idxOf b+1
def yzb(P:qi Pd)(x:Φ):bsN P x=((bsX P x:Nat):Int):=by
 cases x with
 |none=>rfl
 |some b=>show (((P.map (·.nm)).idxOf b:Nat):Int)+1=(((P.map (·.nm)).idxOf b+1:Nat):Int);omega
def vb0{P:qi Pd}{x:Φ}(h:ToD P x L):([V.non]++P.map λq=>V.str q.nm)[bsX P x]?=some (baV x):=by
 cases x with
 |none=>rfl
 |some b =>
  let⟨r,a,e,_⟩:=h;have:=(yjo (ns:=P.map (·.nm)) (b:=b) (cn.mpr ⟨r,a,e⟩)).1;show (P.map λq=>V.str q.nm)[(P.map (·.nm)).idxOf b]?=_;rw[show (P.map λq=>V.str q.nm)=(P.map (·.nm)).map V.str by rw[cX];rfl,cu,this];rfl
def yty{xs:Υ}{p m:Nat}(h:p<=xs.length):ybw xs (some (p:Int)) (some ((p:Int)+(m:Int)))=(xs.drop p).take m:=by
 unfold ybw;rw[show (p:Int)+(m:Int)=((p+m:Nat):Int) by omega,HT.sIx_nat,HT.sIx_nat,Nat.min_eq_left h];rcases Nat.le_total (p+m) xs.length with z|z
 .rw[Nat.min_eq_left z,Nat.add_sub_cancel_left]
 .rw[Nat.min_eq_right z,dn (by rw[dM];omega),dn (by rw[dM];omega)]
def yii{n:Nat}{kd:Ξ}{ps:Λ}{pre bs cs:Ρ}(n1:1<=n)(n6:n<=6)(hp:ŋ pre)(hts:Sgs ts)(hus:Sgs us)(e:zl n kd ps pre ts++bs=zl n kd ps pre us++cs):ts=us:=by
 have c:∀(x:Ρ)(j:Nat),j<(dec x).length->Ch (uf n kd ps pre x j):=λx j Z=>Ğ n1 n6 hp j;rcases Nat.le_total (zl n kd ps pre us).length (zl n kd ps pre ts).length with h|h
 .refine yi4 hts hus (c ts) (c us) ?_;have:=congrArg (List.take (zl n kd ps pre us).length) e;rw[List.take_append_of_le_length h,List.take_left]at this;exact this
 .refine(yi4 hus hts (c us) (c ts) ?_).symm;have:=congrArg (List.take (zl n kd ps pre ts).length) e.symm;rw[List.take_append_of_le_length h,List.take_left]at this;exact this
#synth Ŷ ["self","store","name","base","ahead"] ["self","store"] yjv
inductive ym7(K:z3)(a:Ads)(vs:Υ)(H:Hp)(Q:VK)(E':XK):Prop
 |mk(r dr dl:z4)(d:Ρ)(j:Nat)(st:z4)(C:Cf)(P:qi Pd)(X:Sx)(q:Pd)(xk:Ρ)(_:vs=[.ref r,.ref st])(_:RdR a H r dr dl d j)(_:Sto K a H st C P X)(_:¬X.f r)(_:¬X.f dl)(_:Byt d)(_:d.drop j=pdB C P q++xk)(_:PdN C P q)(_:∀Y H',Sto K a H' st C (P++[q]) Y->RdR a H' r dr dl d (j+(pdB C P q).length)->(∀b o,H b=some o->¬X.f b->b≠r->H' b=some o)->(∀y,Y.f y->X.f y\/H y=none)->Q .non H')
def ytd:vq P w K mg Γ CX0 14 a.Gc a.Gs ["self","store"] (ym7 K a):=by
 exists T.F0.F.ok,Ŷ,Z;let⟨r,dr,dl,d,j,st,C,P,X,q,xk,rfl,h,hS,R,nd,hd,hx,t,k⟩:=h;have a9:=h.me;have p:=hS.cf;have af:=uc t.nm.1
 have O:d.drop j=nmB q.nm++(bsN P q.bs::(q.by C++xk)):=by
  rw[hx];unfold pdB;rw[cY,cY];rfl
 have N:=ud O;have I:d.drop (j+(nmB q.nm).length+1)=q.by C++xk:=ud (A:=[_]) N;rw[yzb]at N;have ho:=ű (n:=C.n) (kd:=C.kd) (ps:=C.ps) (pre:=Æ (q.path.map (·.2))) (ts:=q.tx) p.1 p.2.1 (xy _) (by have:=t.l;omega);have ho:(q.by C).length<=5500:=ho;exists 2,3,yf (yu (i:=2) Ŷ.nd rfl (Or.inl rfl) (yz (pv 0) T.A7 T.Ez.m (yr1 T) Z.m T.Ez.B .nil vh)) (yf (yu (i:=3) Ŷ.nd rfl (Or.inl rfl) (wn (pv 0) T.A7 T.Db.m (ykb T) Z.m T.Db.B .nil vh (pa1 (yp Ö (wx (pa1 jy)) (yz (pv 1) T.A1 T.Ap.m (Ó T) Z.m T.Ap.B .nil vh))))) (yf (yu (i:=4) Ŷ.nd rfl (Or.inl rfl) (xp je (ym (pv 0) rfl) (xv (ym (pv 0) rfl)) (xv (yp vw (ym (pv 0) rfl) (vo rfl T.Dj))))) (yc (y7 (pv 0) (yp vw (ym (pv 0) rfl) (yv (pv 1) T.A1 T.Jd.m (vbu T) Z.m T.Jd.B .nil y9 (pac (pv 2) (pac (pv 4) (pa1 (pv 3)))))) rfl))));exists r,dr,dl,d,j,q.nm,_,rfl,h,O,t.nm.1,λH1 h1 b1=>?_;have ad:=h1.me;have M:=hS.but (WSh.mu a9 rfl) R b1;let⟨ds,vl,vm,vp,vc,J⟩:=M.ins;ext;exists by walk_at "len",λu hu0=>?_
 exists hu0,H2,S2,hu2;have aa:=S2 _ _ J;ext;refine(M.same S2).names λl H3 ag a2 S3=>?_;ext;exists u,l,_,_,rfl,rfl,S3 _ _ hu2,a2,xu (by rw[bI];have:=t.z;show 1+_<=_;omega),λc hc0=>?_;exists hc0,H4,S4,hc4;have G:=S2.trans (S3.trans S4);have a8:=M.same G;have h4:=h1.same G;ext;exists r,dr,dl,d,_,_,_,_,_,rfl,h4,N,.inl ⟨c,_,rfl,hc4,vb0 t.to⟩,λH5 h5 b5=>?_;have ac:=h5.me;have U:=a8.but (WSh.mu h4.me rfl) R b5;have W:=b5 _ _ (G _ _ J) λz=>R (by rw[<- z];exact hS.me);ext;refine ybs (SqL.of h5.dl) λah hah0=>?_
 have a1:j+(nmB q.nm).length+1<=(d.map V.int).length:=by
  rw[bI];rcases Nat.le_total (j+(nmB q.nm).length+1) d.length with z|z
  .exact z
  .rw[List.drop_eq_nil_of_le z]at I;have:=congrArg List.length I;have o1:1<=(q.by C).length:=yd9 p.1 p.2.1 (xy _);rw[cj,List.length_nil]at this;omega
 rw[show ((j+(nmB q.nm).length+1:Nat):Int)+12000=((j+(nmB q.nm).length+1:Nat):Int)+((12000:Nat):Int)from rfl,yty a1,<- List.map_drop,<- List.map_take,I,List.take_append,dn ()];exists hah0,H6,S6,hah6;have h6:=h5.same S6;have x:=h6.me;have D:=U.same S6;have ab:=S6 _ _ W
 have a4:¬X.f ah:=λw=>by
  let⟨o,e⟩:=U.live _ w;rw[hah0]at e;cases e
 have a6:Byt (q.by C++xk.take (12000-(q.by C).length)):=λb hb=>hd b (by
  have:b∈q.by C++xk:=(cQ.mp hb).elim (λz=>dP _ z) λz=>cN _ (dz z);rw[<- I]at this;exact List.mem_of_mem_drop this)
 ext;exists st,ah,C,P,X,q.nm,q.bs,q.path,_,rfl,D,t.nm.2,(),hah6,a4,a6,by rw[cj,cK];omega,λts bs g=>?_,t.to,λts bs g Y H7 a5 S=>?_,λno=>absurd ⟨t.nm.1,t.no,t.z,t.s,by have:=t.l;omega,rfl⟩ (no q.tx _)
 .rw[yii (bs:=bs) p.1 p.2.1 (xy _) g.s t.s g.e.symm];exact t.l
 obtain rfl:=yii (bs:=bs) p.1 p.2.1 (xy _) g.s t.s g.e.symm;have L:=S.g.fr _ _ x λw=>R (D.wf _ w);have v:=S.g.fr _ _ h6.dl λw=>nd (D.wf _ w);have a0:¬Y.f r:=λw=>(S.f r w).elim R λe=>by rw[x]at e;cases e
 have a3:dl≠r:=λz=>by rw[z,L]at v;cases v
 ext;have lv:∀{b:z4}{o:HO},H b=some o->b≠r->H6 b=some o:=λ{b o}e n=>S6 _ _ (b5 _ _ (G _ _ (b1 _ _ e n)) n);refine k Y _ (a5.but (WSh.mu L rfl) a0 But.upd) ⟨?_,ye a3 v⟩ (λb o e nf n=>ye n (S.g.fr _ _ (lv e n) λw=>nf (D.wf _ w))) λy hy=>(S.f y hy).imp id λe=>?_
 .rw[ya,show j+(pdB C P q).length=j+(nmB q.nm).length+1+(q.by C).length by unfold pdB;rw[cj,cj,dm];omega];rfl
 .cases e0:H y with
  |none=>rfl
  |some o =>
   by_cases z:y=r
   .rw[z,x]at e;cases e
   .rw[lv e0 z]at e;cases e
def Stk(P:qi Pd):Prop:=∀(i:Nat)(r:Pd)(b:Str),P[i]?=some r->r.bs=some b->∃j s,j<i/\P[j]?=some s/\s.nm=b
structure vdv(C:Cf)(P:qi Pd):Prop where
 c:CfG C
 w:PdW P
 z:P.length<=60
 nm:∀q,q∈P->okN q.nm
 s:∀q,q∈P->Sgs q.tx/\q.tx.length<=C.w
 k:Stk P
def Sto.shok{H:Hp}{C:Cf}{P:qi Pd}{X:Sx}(h:Sto K a H st C P X)(k:Stk P):vdv C P:=by have b:=h.cf;exists⟨⟨b.1,b.2.1⟩,⟨b.2.2.1,b.2.2.2.1,b.2.2.2.2⟩,λi f=>?_⟩,h.pw,h.z,h.nm,λq e=>⟨(h.sz q e).1,(h.sz q e).2.1⟩,k;let⟨j,o,d,c,v,p,r,n,l,u,t,L,m,U,s,rfl,rfl⟩:=h;let⟨_,_,_,_,g⟩:=s.row i f;exact g
def vdv.nx{C:Cf}{P:qi Pd}(h:vdv C P)(hi:i<P.length):PdN C (P.take i) P[i]/\pdB C (P.take i) P[i]=pdB C P P[i]:=by
 have c:=cU hi;have a:=h.w.wf _ c
 have d:∀b,P[i].bs=some b->∃s,s∈P.take i/\s.nm=b:=λb e=>by
  let⟨j,s,l,o,v⟩:=h.k i P[i] b (ci hi) e;exists s,cB (i:=j) (by rw[List.getElem?_take_of_lt l];exact o),v
 exists⟨h.nm _ c,λu p e=>?_,by rw[cK];have:=h.z;omega,(h.s _ c).1,(h.s _ c).2,?_⟩,?_
 .obtain⟨j,l,rfl⟩:=List.mem_iff_getElem.mp p;rw[cK]at l;rw[List.getElem_take]at e;have:=x8 (q:=P[j]) (r:=P[i]) h.w.nd (cU _) c e;have:=List.pairwise_iff_getElem.mp h.w.nd j i (by rw[bI];omega) (by rw[bI];exact hi) ();rw[dv,dv]at this;exact this e
 .cases eb:P[i].bs with
  |none=>rw[eb]at a;exact a
  |some b =>
   rw[eb]at a;let⟨r,n,m,t⟩:=a;let⟨s,f,g⟩:=d b eb;obtain rfl:=x8 h.w.nd n (dz f) (m.trans g.symm);exact⟨r,f,m,t⟩
 .unfold pdB
  congr 3
  cases eb:P[i].bs with
  |none=>rfl
  |some b =>
   let⟨s,f,g⟩:=d b eb;show (((((P.take i).map (·.nm)).idxOf b:Nat):Int)+1)=(((P.map (·.nm)).idxOf b:Nat):Int)+1
   have e:(P.map (·.nm)).idxOf b=((P.take i).map (·.nm)).idxOf b:=by
    conv=>lhs;rw[<- dW i P]
    rw[cA,List.idxOf_append,if_pos (cn.mpr ⟨s,f,g⟩)]
   rw[e]
def vd6{P:qi Pd}(hi:i<P.length)(f:Pd->qi Int):(P.map f).flatten=((P.take i).map f).flatten++(f P[i]++((P.drop (i+1)).map f).flatten):=by
 conv=>lhs;rw[<- dW i P,dC hi]
 rw[cA,List.flatten_append,db,List.flatten_cons]
#synth ycp ["self","store","place"] ["self"] ykj
inductive yg1(K:z3)(a:Ads)(vs:Υ)(H:Hp)(Q:VK)(E':XK):Prop
 |mk(r dr dl:z4)(C:Cf)(P:qi Pd)(_:vs=[.ref r])(_:RdR a H r dr dl (shB C P) 0)(_:Byt (shB C P))(_:vdv C P)(_:∀st X H',Sto K a H' st C P X->But r H H'->(∀y,X.f y->H y=none)->Q (.ref st) H')
def yq2:vq P w K mg Γ CX0 15 a.Gd a.Gt ["self"] (yg1 K a):=by
 exists T.F6.F.ok,ycp,O;let⟨r,u,q,C,P,rfl,h,R,l,k⟩:=h;have g:=h.me;have hx:(shB C P).drop 0=hdB C++(((P.length:Nat):Int)::(P.map (pdB C P)).flatten):=rfl;have v:=ud hx;have W:(shB C P).drop (0+(hdB C).length+1)=(P.map (pdB C P)).flatten:=ud (A:=[_]) v;have hz:=l.z;refine yg (yu (i:=1) ycp.nd rfl (Or.inl rfl) (yz (pv 0) T.A7 T.Ey.m (ysc T) O.m T.Ey.B .nil vh)) ?_;refine yg (uh PassesOwn.never rfl (xl rfl T.As (pa1 (yz (pv 0) T.A7 T.Av.m (ò T) O.m T.Av.B .nil vh))) (we (i:=2) ycp.nd rfl (Or.inl rfl)) (yc (yt (wn (pv 0) T.A7 T.F0.m (ytd T) O.m T.F0.B .nil vh (pa1 (pv 1)))))) ?_;refine yg (wd (y6 ſ (ym (pv 0) rfl) (pcB yr T.Ad (pa1 (ym (pv 0) rfl))) (vd _)) (yc Ñ) ve) ?_;exists 1,2,yc (yo (pv 1));exists r,u,q,_,0,C,_,rfl,h,hx,l.c,λJ X H1 N Z b1 n1=>?_;have I:=Z.me;ext;exists r,u,q,_,_,_,_,rfl,Z,v,λH2 h2 b2=>?_;have nr:¬X.f r:=λw=>by rw[n1 r w]at g;cases g
 have j:=N.but (WSh.mu I rfl) nr b2;ext;exists _,rfl,(),(),jt (n:=((P.length:Nat):Int).toNat) (λi σ2 G=>∃X U,σ2=[some (.ref r),some (.ref J),U]/\Sto K a G J C (P.take i) X/\RdR a G r u q (shB C P) (0+(hdB C).length+1+(((P.take i).map (pdB C P)).flatten).length)/\But r H G/\∀y,X.f y->H y=none) ⟨X,_,rfl,j,h2,b1.trans b2,n1⟩ ?_ ?_
 .rintro i σ2 G x ⟨X,U,rfl,M,t,L,p⟩;have x:i<P.length:=()
  have d:=t.me;let⟨hN,eN⟩:=l.nx x;ext;exists r,u,q,_,_,J,C,P.take i,X,P[i],_,rfl,t,M,(λw=>by rw[p r w]at g;cases g),(λw=>by have e:=h.dl;rw[p q w]at e;cases e),R,ud (by rw[W,eN,vd6 x]),hN,λY G2 j D fr nY=>?_;ext;exists Y,_,rfl,by rw[cM x];exact j,?_,λb o e n=>fr b o (L b o e n) (λw=>by rw[p b w]at e;cases e) n,λy hy=>(nY y hy).elim (p y) λe=>L.non d e
  rw[eN,Nat.add_assoc]at D;rw[yd3 C (ci x),cj];exact D
 rintro σ2 G ⟨X,U,rfl,M,t,L,p⟩;rw[Int.toNat_natCast,dh]at M t;have d:=t.me
 have hl:0+(hdB C).length+1+((P.map (pdB C P)).flatten).length=(shB C P).length:=by
  unfold shB;rw[cj,cO];omega
 rw[hl]at d;ext;refine ut (SqL.of t.dl) ?_;rw[bI];ext;refine zn (λz=>absurd z ()) (λF=>?_);ext;exact k J X G M L p
#synth ytf ["data","e"] ["data"] yk3
inductive yhn(K:z3)(a:Ads)(vs:Υ)(H:Hp)(Q:VK)(E':XK):Prop
 |mk(l:z4)(C:Cf)(P:qi Pd)(_:vs=[.ref l])(_:H l=some (.lst ((shB C P).map V.int)))(_:Byt (shB C P))(_:(shB C P).length<=100000)(_:vdv C P)(_:∀st X H',Sto K a H' st C P X->yw H H'->(∀y,X.f y->H y=none)->Q (.ref st) H')
def ysj:vq P w K mg Γ CX0 16 a.Ge a.Gu ["data"] (yhn K a):=by
 exists T.He.F.ok,ytf,j;let⟨l,C,P,rfl,n,g,N,t,k⟩:=h;exists 1,1,yf (wd (x9 (ug (xx (ywb T) j.m T.Q4 (pac (pv 0) (pa1 (vo rfl T.Hm)))))) (yc Ñ) ve) (yc (yrw (λZ Ex=>(yc (yo (yz (Á T.Qr (vbw T) j.m rfl T.Qq T.Fv.B .nil vh (pa1 (pcT (r:=yio K) vj T.Ae (pa1 (pv 0))))) T.A7 T.F6.m (yq2 T) j.m T.F6.B .nil vh)))) ⟨rfl,rfl⟩ yzc));exists .ref l,"list",1000000,rfl,.lst n,.inr ⟨_,⟨l,rfl,n,ä _,by rw[bI];exact N,?_⟩,λH1 p=>?_⟩
 .rw[ycs g,Bool.and_true,bI,cz ()]
 ext;refine yy0 ?_;ext;exists l,_,rfl,.inl (SqL.of (p _ _ n)),λv hdl0=>?_;exists hdl0,H2,S2,hdl2;ext;intro r i c f J;have u:yw H2 (upd (upd H2 i (.own r)) r (.ins a.A3 i [])):=λb o e=>by rw[yk (yb e c),yk (yb e f)];exact e
 exists r,i,v,shB C P,rfl,ya,u _ _ hdl2,λW z M=>⟨rfl,?_⟩;have x:=z.me;have S:yw H2 W:=λb o e=>M _ _ (u _ _ e) (yb e c);have d:=(p.trans S2).trans S;ext;exists r,i,v,C,P,rfl,z,g,t,λD X G O L Y=>?_;exact k D X G O (λb o e=>L _ _ (d _ _ e) (yb ((p.trans S2) _ _ e) c)) λy I=>d.free (Y y I)
def mxC(zs:Ρ)(j:Nat):Int:=match zs[j]? with
 |some z=>z%2147483629
 |none=>0
def ve8(zs:Ρ)(j:Nat):0<=mxC zs j/\mxC zs j<2147483629:=by
 unfold mxC
 cases zs[j]? with
 |none=>exact(by decide:(0:Int)<=0/\(0:Int)<2147483629)
 |some z=>exists dN _ ∅,dH _ ∅
def mxF(zs:Ρ)(j:Nat):Int:=(mxC zs j*mxC zs j+mxC zs j+7*(j:Int)*(j:Int)+11)*48271%2147483647
#synth yc0 ["_law_script","_law_k","_law_cell"] ["_law_script","_law_k"] yk5
inductive yre(K:z3)(vs:Υ)(H:Hp)(Q:VK)(E':XK):Prop
 |mk(l:z4)(ns:Ρ)(j:Nat)(_:vs=[.ref l,.int j])(_:SqL K H l (ns.map V.int))(_:j<=1000)(_:∀n:Int,n=mxF ns j->0<=n->n<2147483647->Q (.int n) H)
def jc:vq P w K mg Γ CX0 1 a.Gf a.Gv ["_law_script","_law_k"] (yre K):=by
 exists T.Bi.F.ok,yc0,t;let⟨l,b,j,rfl,g,u,k⟩:=h;exists 2,1,yf (yu (i:=2) yc0.nd rfl (Or.inl rfl) yh) (yf (Ģ (wd (y6 ſ (pv 1) (pcB yr T.Ad (pa1 (pv 0))) (vd _)) (yc (yu (i:=2) yc0.nd rfl (Or.inl rfl) (yp xi (xf wk (pv 0) (pv 1) (λZ Z=>rfl)) yh))) ve)) (yc (yo (yp xi (yp wv (yp vw (yp vw (yp vw (yp wv (pv 2) (pv 2)) (pv 2)) (yp wv (yp wv yh (pv 1)) (pv 1))) yh) yh) yh))));refine ynw (λσ' G=>H=G/\σ'=[some (.ref l),some (.int j),some (.int (mxC b j))]) ?_ ?_
 .ext;refine ut g ?_;rw[bI];ext;refine zn (λq=>?_) (λq=>?_)
  .have d:j<b.length:=()
   ext;refine Û (v:=V.int b[j]) g (w9 (by rw[cu,ci d];rfl)) ?_;ext;exists rfl,?_;unfold mxC;rw[ci d]
  .ext;exists rfl,?_;unfold mxC;rw[df ()]
 .rintro σ' G ⟨rfl,rfl⟩;let⟨m,p⟩:=ve8 b j;have f:mxF b j=(mxC b j*mxC b j+mxC b j+7*(j:Int)*(j:Int)+11)*48271%2147483647:=rfl;generalize mxC b j=c at m p f⊢;have r:(0:Int)<=(j:Int)/\(j:Int)<=1000:=()
  have x:(0:Int)<=7*(j:Int)/\7*(j:Int)<=7000:=()
  ext;exact k _ f.symm (dN _ ∅) (dH _ ∅)
def nmR(c:Nat)(k:Nat):Str:=⟨(List.replicate k c).toArray⟩
def ypf{c k:Nat}{z:Str}(h:z.cps.toList=(List.replicate k (⟨#[c]⟩:Str).cps.toList).flatten):z=nmR c k:=by
 have e:(List.replicate k [c]).flatten=List.replicate k c:=by
  clear h
  induction k with
  |zero=>rfl
  |succ k ih=>rw[dw,List.flatten_cons,dw,List.singleton_append,ih]
 have h:z.cps.toList=(List.replicate k [c]).flatten:=h;rw[e]at h
 cases z with|mk cps =>
 unfold nmR
 congr 1
 exact Array.toList_inj.mp (by simpa using h)
def yi9{c k:Nat}(h:97<=c/\c<123):Ō (nmR c k).cps.toList:=λd a=>by
 have e:d∈List.replicate k c:=a;rw[List.eq_of_mem_replicate e];exact h
def OkL(x:Str):Prop:=okN x/\Ō x.cps.toList
def yok{x:Str}(h:Ō x.cps.toList)(h1:1<=x.cps.toList.length)(h8:x.cps.toList.length<=8):OkL x:=⟨vdk h h1 h8,h⟩
def sz6:Ρ:=[1,3,5,6,8,7]
def gI(f:Int->Str):V->V
 | .int t=>.str (f t)
 |v=>v
def yy3(f:Int->Str)(ts:Ρ):(ts.map V.int).map (gI f)=(ts.map f).map V.str:=by rw[cX,cX];rfl
#synth jv ["_law_cell","_law_small","_law_odd","_law_stem","_law_k","_law_at"] ["_law_cell"] yjt
inductive yhq(K:z3)(vs:Υ)(H:Hp)(Q:VK)(E':XK):Prop
 |mk(c:Int)(_:vs=[.int c])(_:0<=c)(_:c<2147483647)(_:∀(r:z4)(ns:Τ)(H':Hp),H r=none->H' r=some (.lst (ns.map V.str))->yw H H'->ns.length=6->ns.Nodup->(∀x,x∈ns->OkL x)->Q (.ref r) H')
def ys0:vq P w K mg Γ CX0 1 a.Gg a.Gw ["_law_cell"] (yhq K):=by
 exists T.Hf.F.ok,jv,hr;let⟨c,rfl,c0,c1,k⟩:=h;refine yg (yu (i:=1) jv.nd rfl (Or.inr rfl) xc) ?_;refine yg (yu (i:=2) jv.nd rfl (Or.inr rfl) (yp xi (pv 0) yh)) ?_;refine yg (yu (i:=0) jv.nd rfl (Or.inl rfl) (yp vx (pv 0) yh)) ?_;refine yg (wd (y6 jj (yp xi (pv 0) yh) yh (vd _)) (yc (yo (wc (js:=[1,2]) (ys:=["_law_small","_law_odd"]) rfl (wz (wx (pac yh (pac yh (pac yh (pac yh (pac yh (pa1 yh)))))))) (λC s2 H2 fp=>(yp Ņ (ua (pv 1) (pv 2) (λZ Z=>rfl)) (pv 0))) rfl rfl (hyc:=(all_cons rfl (all_cons rfl y8))) (hrel:=(all_cons rfl (all_cons rfl y8)))))) ve) ?_;refine yg (wd (y6 jj (yp xi (pv 0) yh) yh (vd _)) (yc (yo (wc (js:=[1,2]) (ys:=["_law_small","_law_odd"]) rfl (xl rfl T.As (pa1 yh)) (λC s2 H2 fp=>(yp j6 (ua (pv 1) (yp zh (yp vw (pv 2) yh) (pv 0)) (λZ Z=>rfl)) (yp Ņ (ua (pv 1) (pv 2) (λZ Z=>rfl)) (pv 0)))) rfl rfl (hyc:=(all_cons rfl (all_cons rfl y8))) (hrel:=(all_cons rfl (all_cons rfl y8)))))) ve) ?_;refine yg (yu (i:=3) jv.nd rfl (Or.inr rfl) xc) ?_;refine yg (uh PassesOwn.never rfl (xl rfl T.As (pa1 (yp xi (yp vx (pv 0) yh) yh))) (we (i:=4) jv.nd rfl (Or.inl rfl)) (yc (yu (i:=3) jv.nd rfl (Or.inr rfl) (yp j6 (pv 3) (ua (pv 1) (yp xi (yp vx (yp wv (pv 0) (yp vw (pv 4) yh)) yh) yh) (λZ Z=>rfl)))))) ?_;refine yg (yu (i:=5) jv.nd rfl (Or.inr rfl) (yp xi (yp vx (pv 0) yh) (yp vw (pcB u9 T.Ad (pa1 (pv 3))) yh))) ?_;exists 1,5,yc (yo (wc (js:=[3,1,2,5]) (ys:=["_law_stem","_law_small","_law_odd","_law_at"]) rfl (xl rfl T.As (pa1 yh)) (λC s2 H2 fp=>(yp j6 (yp j6 (xp (r:=vf0) yp9 (pv 1) uo (xv (pv 4))) (ua (pv 2) (yp vw (pv 3) (pv 0)) (λZ Z=>rfl))) (xp (r:=vf0) yp9 (pv 1) (xv (pv 4)) uo))) rfl rfl (hyc:=(all_cons rfl (all_cons rfl (all_cons rfl (all_cons rfl y8))))) (hrel:=(all_cons rfl (all_cons rfl (all_cons rfl (all_cons rfl y8)))))));obtain⟨o,ho,a1⟩:∃o:Nat,c%21=(o:Int)/\o<=20:=⟨(c%21).toNat,(),()⟩;rw[ho];have d0:0<=c/21:=()
 have d1:c/21<2147483647:=()
 generalize c/21=p at d0 d1⊢;refine zn (λL=>?_) (λL=>?_)
 .ext;exists by walk_at "len",λO M=>?_
  have G:=vg (o:=(HO.lst [V.int 1,V.int 3,V.int 5,V.int 6,V.int 8,V.int 7])) M;have J:upd H O (HO.lst [V.int 1,V.int 3,V.int 5,V.int 6,V.int 8,V.int 7]) O=some (HO.lst [V.int 1,V.int 3,V.int 5,V.int 6,V.int 8,V.int 7]):=ya;generalize upd H O (HO.lst [V.int 1,V.int 3,V.int 5,V.int 6,V.int 8,V.int 7])=a5 at G J⊢;exists O,rfl,⟨_,SqL.of J⟩,λD f=>?_;refine ω (xs:=sz6.map V.int) (gI λt=>nmR (97+o) t.toNat) (SqL.of J) f (λi y F hy g d=>?_) (λF g d=>?_)
  .rw[cu]at hy;let⟨t,U,rfl⟩:=dL.mp hy;have a3:1<=t/\t<=8:=(show ∀t∈sz6,1<=t/\t<=8 by decide) t (cB U);ext;exists smS,_,_,rfl,rfl,(),(),by rw[ģ];omega,yla () (),?_
   rw[show ((o:Int)).toNat=o from rfl];ext;exists _,_,rfl,rfl,(),(),by show 1<=_;decide,λz m=>?_
   obtain rfl:=ypf m;exact Mp.done f (vi ∅) (by rw[cu,U];rfl) g d rfl
  .rw[yy3]at d;refine k D _ F (G.free f) d (G.trans g) rfl ?_ λx N=>?_
   .refine List.pairwise_map.mpr ((show sz6.Pairwise λa b=>a≠b by decide).imp_of_mem λ{a b}ha hb Y e=>Y ?_);have X:=(show ∀t∈sz6,1<=t/\t<=8 by decide) a ha;have h3:=(show ∀t∈sz6,1<=t/\t<=8 by decide) b hb;have R:=congrArg (λx:Str=>x.cps.toList.length) e;simp[nmR]at R;omega
   .obtain⟨t,U,rfl⟩:=cn.mp N;have X:=(show ∀t∈sz6,1<=t/\t<=8 by decide) t U;exact yok (yi9 ()) (by simp[nmR];omega) (by simp[nmR];omega)
 ext;refine zn (λX=>?_) (λX=>?_)
 .ext;exists _,rfl,∅,∅,λD f=>?_
  refine ð (lo:=0) (n:=6) (λi=>.str (⟨#[97+(o+5-i)]⟩++nmR (97+o) i)) f (λi F B g d=>?_) (λF g d=>?_)
  .ext;exists smS,_,_,rfl,rfl,(),(),by rw[ģ];omega,yla () (),?_
   rw[show ((o:Int)+5-(0+(i:Int))).toNat=o+5-i by omega];ext;exists smS,_,_,rfl,rfl,(),(),by rw[ģ];omega,yla () (),?_
   rw[show ((o:Int)).toNat=o from rfl];ext;exists _,_,rfl,rfl,(),(),by show 1<=_;decide,λz m=>?_
   rw[show (0+(i:Int)).toNat=i by omega]at m;obtain rfl:=ypf m;exists _,_,rfl,rfl,by rw[sizeLine_eq,ë (nmR _ _)];simp[nmR];show 1+i<=_;omega,?_
   exact Mp.doneR f (vi ∅) B g d rfl
  .have W:F D=some (.lst (((List.range 6).map λi=>(⟨#[97+(o+5-i)]⟩++nmR (97+o) i:Str)).map V.str)):=by rw[d,cX];rfl
   refine k D _ F f W g rfl ?_ λx N=>?_
   .refine List.pairwise_map.mpr (List.nodup_range.imp λ{a b}Y e=>Y ?_);have R:=congrArg (λx:Str=>x.cps.toList.length) e;simp[jf,nmR]at R;exact R
   .obtain⟨i,B,rfl⟩:=cn.mp N;have h3:=dB.mp B;refine yok ?_ ?_ ?_
    .rw[jf];exact Ō.app (.one ()) (yi9 ())
    .rw[jf,cj];show 1<=1+_;omega
    .rw[jf,cj];simp[nmR];omega
 .obtain⟨l7,a0,hl⟩:∃l:Nat,p/4%8=(l:Int)/\l<=7:=⟨(p/4%8).toNat,(),()⟩;ext;rw[a0];refine⟨_,rfl,(),(),jt (n:=l7) (λi σ2 F=>∃(z:Str)(v:Ψ),σ2=[some (.int p),some (.str smS),some (.int o),some (.str z),v,none]/\Ō z.cps.toList/\z.length=i/\H=F)
   ⟨_,_,rfl,(λc hc=>by cases (show c∈[]from hc)),rfl,rfl⟩ ?_ ?_⟩
  .rintro i σ2 F B ⟨z,v,rfl,m,u,rfl⟩;ext;have S:=dN (p*(0+(i:Int)+3)/7) (show (26:Int)≠0 by decide);have L:=dH (p*(0+(i:Int)+3)/7) (show (0:Int)<26 by decide);generalize p*(0+(i:Int)+3)/7%26=q at S L⊢;exists smS,q,97+q.toNat,rfl,rfl,S,(),by rw[ģ];exact L,yla S L,?_
   exists z,_,rfl,rfl,?_,?_
   .rw[u,sizeLine_eq];show i+1<=_;omega
   .ext;exists _,_,rfl,?_,?_,rfl
    .rw[jf];exact m.app (.one ())
    .rw[ë,jf,cj,<- ë,u];rfl
  .rintro σ2 F ⟨z,v,rfl,m,u,rfl⟩;ext;exists z,rfl,by rw[u,sizeLine_eq];omega,?_
   ext
   obtain⟨j,hj,I⟩:∃j:Nat,p/32%((z.length:Int)+1)=(j:Int)/\j<=z.length:=by
    have S:=dN (p/32) (show ((z.length:Int)+1)≠0 by omega);have L:=dH (p/32) (show 0<((z.length:Int)+1) by omega);exists(p/32%((z.length:Int)+1)).toNat,(),()
   rw[hj];exists _,rfl,∅,∅,λD f=>?_
   refine ð (lo:=0) (n:=6) (λi=>.str (yn6 z j (97+o+i))) f (λi F B g d=>?_) (λF g d=>?_)
   .ext;have a6:=Txt.slice_le z none (some (j:Int));have a2:=Txt.slice_le z (some (j:Int)) none;exists z,rfl,by rw[sizeLine_eq];omega,?_
    ext;have ei:97+((o:Int)+(0+(i:Int))).toNat=97+o+i:=()
    exists smS,_,_,rfl,rfl,(),(),by rw[ģ];omega,yla () (),?_
    rw[ei];exists _,_,rfl,rfl,by rw[sizeLine_eq];show _+1<=_;omega,?_
    ext;exists z,rfl,by rw[sizeLine_eq];omega,?_
    exists _,_,rfl,rfl,?_,?_
    .rw[sizeLine_eq,ë,jf,cj,<- ë];show _+1+_<=_;omega
    .exact Mp.doneR f (vi ∅) B g d rfl
   .have W:F D=some (.lst (((List.range 6).map λi=>yn6 z j (97+o+i)).map V.str)):=by rw[d,cX];rfl
    refine k D _ F f W g rfl (yig I o 6) λx N=>?_;let⟨i,B,rfl⟩:=cn.mp N;have h3:=dB.mp B;exists ytb I m () (),?_;rw[Ò I];exact((m.take j).app (.one ())).app (m.drop j)
def lkZ(zs:Ρ):Nat:=(1+mxF zs 0%3).toNat
def yk7(zs:Ρ):1<=lkZ zs/\lkZ zs<=6:=by unfold lkZ;omega
def kdF(d:Int):Fin 3:=if d%3=0 then 0 else if d%3=1 then 1 else 2
def yyw(d:Int):atI [V.str "even",V.str "quick",V.str "run"] (d%3)=some (V.str (kdS (kdF d))):=by
 unfold kdF;obtain z|z|z:d%3=0\/d%3=1\/d%3=2:=()
 .rw[z];rfl
 .rw[z];rfl
 .rw[z];rfl
def psF(d:Int):Ρ:=if d/24%6=0 then []else if d/24%6=1 then [1]else if d/24%6=2 then [2]else if d/24%6=3 then [1,2]else if d/24%6=4 then [1+d/3%8]else [1,3,5,8]
def kdZ(zs:Ρ)(i:Nat):Fin 3:=kdF (mxF zs (1+i))
def psZ(zs:Ρ)(i:Nat):Ρ:=psF (mxF zs (1+i))
#synth ğ ["_law_script","_law_looks_here","_law_k","_law_cell","_law_places"] ["_law_script"] yky
inductive yq4(K:z3)(vs:Υ)(H:Hp)(Q:VK)(E':XK):Prop
 |mk(l:z4)(zs:Ρ)(_:vs=[.ref l])(_:SqL K H l (zs.map V.int))(_:∀r(lk tp:Μ)H',H r=none->H' r=some (.lst (refs lk (lkZ zs)))->xn H' (lkZ zs) lk (kdZ zs) tp (psZ zs)->yw H H'->Q (.ref r) H')
def yiu:vq P w K mg Γ CX0 2 a.Gh a.Gy ["_law_script"] (yq4 K):=by
 exists T.F7.F.ok,ğ,hr;let⟨l,g,rfl,hl,k⟩:=h;refine yg (yu (i:=1) ğ.nd rfl (Or.inl rfl) (wx zj)) ?_;refine yg (uh PassesOwn.never rfl (xl rfl T.As (pa1 (yp vw yh (yp xi (xx (jc T) hr.m T.Bi (pac (pv 0) (pa1 yh))) yh)))) (we (i:=2) ğ.nd rfl (Or.inl rfl)) (yf (yu (i:=3) ğ.nd rfl (Or.inl rfl) (xx (jc T) hr.m T.Bi (pac (pv 0) (pa1 (yp vw yh (pv 2)))))) (yf (yu (i:=4) ğ.nd rfl (Or.inl rfl) (xf wk (wx (pac (Ô zj) (pac (Ô (pa1 yh)) (pac (Ô (pa1 yh)) (pac (Ô (pac yh (pa1 yh))) (pac (Ô (pa1 (yp vw yh (yp xi (yp vx (pv 3) yh) yh)))) (pa1 (Ô (pac yh (pac yh (pac yh (pa1 yh)))))))))))) (yp xi (yp vx (pv 3) yh) yh) (λY Y=>rfl))) (yc (yt (ji PySem.F.plainAttrs_list PySem.F.slot_list_append PySem.F.type_list_append w6 (pv 1) (pa1 (Ô (pac (xf wk (wx (pac xc (pac xc (pa1 xc)))) (yp xi (pv 3) yh) (λY Y=>rfl)) (pa1 (pv 4))))))))))) ?_;exists 1,4,yc (yo (pv 1));exists by walk_at "len",λL hL0=>?_
 exists hL0,H1,S1,hL1;ext;exists l,g,0,rfl,S1.seq hl,∅,λc e c0 c1=>?_
 ext;obtain⟨n,hn,en,n6⟩:∃n:Nat,1+c%3=(n:Int)/\lkZ g=n/\n<=6:=⟨lkZ g,by unfold lkZ;rw[<- e];omega,rfl,yk7 g |>.2⟩;rw[hn];refine⟨_,rfl,(),(),jt (n:=n) (λi σ2 G=>∃(v2 v3 Z:Ψ)(v x:Μ),σ2=[some (.ref l),some (.ref L),v2,v3,Z]/\G L=some (.lst (refs v i))/\xn G i v (kdZ g) x (psZ g)/\yw H G)
  ⟨_,_,_,λY=>0,λY=>0,rfl,hL1,λj W=>absurd W (cS j),S1⟩ ?_ ?_⟩
 .rintro i σ2 G hi ⟨v2,v3,Z,v,x,rfl,R,S,U⟩;ext;exists l,g,1+i,by rw[show ((1+i:Nat):Int)=1+(0+(i:Int)) by omega];rfl,U.seq hl,(),λd ed d0 d1=>?_
  ext;exists by walk_at "len",λx1 xg1=>?_
  exists xg1,xH1,xS1,xe1;ext;exists by walk_at "len",λx2 xg2=>?_
  exists xg2,xH2,xS2,xe2;ext;exists by walk_at "len",λx3 xg3=>?_
  exists xg3,xH3,xS3,xe3;ext;exists by walk_at "len",λx4 xg4=>?_
  exists xg4,xH4,xS4,xe4;ext;exists by walk_at "len",λx5 xg5=>?_
  exists xg5,xH5,xS5,xe5;ext;exists by walk_at "len",λx6 xg6=>?_
  exists xg6,xH6,xS6,xe6;ext;exists by walk_at "len",λx7 xg7=>?_
  exists xg7,xH7,xS7,xe7;have N:=xS7;have xe6:=N _ _ xe6;have y:=xS6.trans N;have xe5:=y _ _ xe5;have J:=xS5.trans y;have xe4:=J _ _ xe4;have I:=xS4.trans J;have xe3:=I _ _ xe3;have O:=xS3.trans I;have xe2:=O _ _ xe2;have M:=xS2.trans O;have xe1:=M _ _ xe1;have C:=xS1.trans M;ext
  obtain⟨f,hv,hq,X⟩:∃f,atI [V.ref x1,V.ref x2,V.ref x3,V.ref x4,V.ref x5,V.ref x6] (d/24%6)=some (.ref f)/\xH7 f=some (.tup (List.map V.int (psF d)))/\ur ((psF d).map V.int)=true:=by
   have h0:d/24%6=0\/d/24%6=1\/d/24%6=2\/d/24%6=3\/d/24%6=4\/d/24%6=5:=()
   unfold psF;rcases h0 with z|z|z|z|z|z<;>rw[z]
   .exact⟨x1,rfl,xe1,rfl⟩
   .exact⟨x2,rfl,xe2,rfl⟩
   .exact⟨x3,rfl,xe3,rfl⟩
   .exact⟨x4,rfl,xe4,rfl⟩
   .exists x5,rfl,xe5,yh9 (by show 1<=4;decide) (λp hp=>?_) (List.pairwise_singleton _ _);rw[cJ.mp hp];omega
   .exact⟨x6,rfl,xe6,rfl⟩
  refine Û (SqL.of xe7) hv ?_;have D:=C _ _ R;ext;refine jh D ?_;ext;exists by walk_at "len",λq2 hq2=>?_
  exists hq2,G4,T4,hq4;ext;refine Û (SqL.of hq4) (yyw d) ?_;ext;exists by walk_at "len",λt ht=>?_
  exists ht,G7,T7,ht7;have q:=T4.trans T7;have r:=q _ _ D;have B:=C.trans q;ext;refine x0 r (vi (by rw[v9];omega)) ?_
  have g7:LkG G7 (.ref t) (kdZ g i) f (psZ g i):=by
   unfold kdZ psZ;rw[<- ed];exists t,rfl,ht7,q _ _ hq,X
  ext;exists _,_,_,upN v i t,upN x i f,rfl,?_,λj W=>?_,λb o e=>ye (yb e hL0) (B _ _ (U b o e))
  .rw[ya,uz,xh]
   congr 3
   exact uv λj W=>(xb W).symm
  .by_cases z:j=i
   .subst z;rw[xh,xh];exact g7.upd r
   .have u:j<i:=()
    rw[xb u,xb u];exact((S j u).same B).upd r
 .rintro σ2 G ⟨v2,v3,Z,v,x,rfl,R,S,U⟩;ext;rw[<- en]at R S;exact k L v x G hL0 R S U
#synth ì ["_law_cell","_law_more","_law_size","_law_text_here","_law_k"] ["_law_cell","_law_more"] ykt
inductive ylr(K:z3)(vs:Υ)(H:Hp)(Q:VK)(E':XK):Prop
 |mk(c:Int)(m:Nat)(_:vs=[.int c,.int m])(_:0<=c)(_:c<2147483647)(_:m<=9)(_:∀r(ts:Ρ)H',H r=none->H' r=some (.lst (ts.map V.int))->Sgs ts->ts.length<=12->yw H H'->Q (.ref r) H')
def yit:vq P w K mg Γ CX0 1 a.Gi a.Gz ["_law_cell","_law_more"] (ylr K):=by
 exists T.F8.F.ok,ì,S;let⟨c,m,rfl,R,W,Y,k⟩:=h;refine yg (yu (i:=2) ì.nd rfl (Or.inl rfl) (yp vw (yp xi (pv 0) yh) (pv 1))) ?_;refine yg (yu (i:=0) ì.nd rfl (Or.inl rfl) (yp vx (pv 0) yh)) ?_;refine yg (yu (i:=3) ì.nd rfl (Or.inl rfl) (wx zj)) ?_;refine yg (uh PassesOwn.never rfl (xl rfl T.As (pa1 (pv 2))) (we (i:=4) ì.nd rfl (Or.inl rfl)) (yf (yt (ji PySem.F.plainAttrs_list PySem.F.slot_list_append PySem.F.type_list_append w6 (pv 3) (pa1 (yp xi (pv 0) yh)))) (yc (wd (y6 yk9 (yp xi (yp vx (pv 0) yh) yh) yh (vd _)) (yc (yu (i:=0) ì.nd rfl (Or.inl rfl) (yp xi (yp wv (yp vx (pv 0) yh) yh) yh))) ve)))) ?_;exists 2,3,yc (yo (pv 3));obtain⟨z,L,O⟩:∃z:Nat,c%4+(m:Int)=(z:Int)/\z<=12:=⟨(c%4+(m:Int)).toNat,(),()⟩;rw[L];have u:0<=c/4:=()
 have r:c/4<2147483647:=()
 generalize c/4=d at u r⊢;exists by walk_at "len",λt ht0=>?_
 exists ht0,H1,S1,ht1;ext;refine⟨_,rfl,(),(),jt (n:=z) (λi σ2 G=>∃(v:Ψ)(d:Int)(f:Ρ),σ2=[some (.int d),some (.int m),some (.int z),some (.ref t),v]/\0<=d/\d<2147483647/\G t=some (.lst (f.map V.int))/\Sgs f/\f.length=i/\yw H G)
  ⟨_,d,[],rfl,u,r,ht1,(λx I=>by cases I),rfl,S1⟩ ?_ ?_⟩
 .clear u r d;rintro i σ2 G X ⟨v,d,f,rfl,u,r,B,q,y,C⟩;ext;refine jh B ?_;ext;refine x0 B (vi (by rw[bI];omega)) ?_
  have g:Sgs (f++[d%256]):=λx I=>by
   rcases cQ.mp I with z|z
   .exact q x z
   .rw[cJ.mp z];omega
  have j:(f++[d%256]).length=i+1:=by rw[cj,y];rfl
  have p:upd G t (.lst (f.map V.int++[V.int (d%256)])) t=some (.lst ((f++[d%256]).map V.int)):=by rw[ya,cA];rfl
  have l:yw H (upd G t (.lst (f.map V.int++[V.int (d%256)]))):=λb o e=>ye (yb e ht0) (C _ _ e);generalize upd G t (.lst (f.map V.int++[V.int (d%256)]))=U at p l⊢;ext;refine zn (λJ=>?_) (λJ=>?_)
  .ext;exists _,_,_,rfl,dN _ ∅,dH _ ∅,p,g,j,l
  .exists _,d,_,rfl,u,r,p,g,j,l
 .rintro σ2 G ⟨v,d,f,rfl,u,r,B,q,y,C⟩;ext;exact k t f G ht0 B q () C
structure D2(K:z3)(a:Ads)(B H:Hp)(td:z4)(ot:HO)(st:z4)(C:Cf)(P:qi Pd)(X:Sx)(st2:z4)(C2:Cf)(P2:qi Pd)(X2:Sx):Prop where
 s:Sto K a H st C P X
 o:Sto K a H st2 C2 P2 X2
 p:Sep X X2
 b:Bs B H X
 b2:∀y,X2.f y->B y=none
 t:H td=some ot
 u:yq0 ot=true
 n1:¬X.f td
 n2:¬X2.f td
 nb:B td=none
section
variable{B B2 H H':Hp}{ot:HO}{C:Cf}{P P':qi Pd}{X Y:Sx}{C2:Cf}{P2:qi Pd}{X2:Sx}
theorem D2.same(h:D2 K a B H td ot st C P X st2 C2 P2 X2)(S:yw H H'):D2 K a B H' td ot st C P X st2 C2 P2 X2:=⟨h.s.same S,h.o.same S,h.p,h.b.same S,h.b2,S _ _ h.t,h.u,h.n1,h.n2,h.nb⟩
def D2.swap(h:D2 K a B H td ot st C P X st2 C2 P2 X2):D2 K a B H td ot st2 C2 P2 X2 st C P X:=⟨h.o,h.s,h.p.symm,⟨h.b.s,h.b2⟩,h.b.n,h.t,h.u,h.n2,h.n1,h.nb⟩
theorem D2.go(h:D2 K a B H td ot st C P X st2 C2 P2 X2)(s:Sto K a H' st C P' Y)(g:Gx X H H' Y):D2 K a B H' td ot st C P' Y st2 C2 P2 X2:=by let⟨e,c⟩:=h.o.oth h.s h.p.symm g;let⟨f,d⟩:=Kf.go ⟨h.t,h.n1⟩ h.s g;exists s,e,c.symm,h.b.go h.s g,h.b2,f,h.u,d,h.n2,h.nb
def D2.up(h:D2 K a B H td ot st C P X st2 C2 P2 X2){ou:HO}(hu:yq0 ou=true):D2 K a B (upd H td ou) td ou st C P X st2 C2 P2 X2 :=
 ⟨h.s.but (WSh.mu h.t h.u) h.n1 But.upd,h.o.but (WSh.mu h.t h.u) h.n2 But.upd,h.p,h.b.but h.nb But.upd,h.b2,ya,hu,h.n1,h.n2,h.nb⟩
def D2.sub(h:D2 K a B2 H td ot st C P X st2 C2 P2 X2)(S:yw B B2):D2 K a B H td ot st C P X st2 C2 P2 X2 :=
 ⟨h.s,h.o,h.p,⟨S.trans h.b.s,λy w=>S.free (h.b.n y w)⟩,λy w=>S.free (h.b2 y w),h.t,h.u,h.n1,h.n2,S.free h.nb⟩
def D2.new(h:D2 K a B H td ot st C P X st2 C2 P2 X2){x:z4}(hx:H x=none):¬X.f x/\¬X2.f x/\x≠td :=
 ⟨(λw=>by
  let⟨o,e⟩:=h.s.live x w;rw[hx]at e
  cases e),(λw=>by
  let⟨o,e⟩:=h.o.live x w;rw[hx]at e;cases e),λz=>by rw[z,h.t]at hx;cases hx⟩
def D2.bas(h:D2 K a B H td ot st C P X st2 C2 P2 X2):∃B',D2 K a B' H td ot st C P X st2 C2 P2 X2/\yw B B'/\∀x o,H x=some o->(¬X.f x/\¬X2.f x/\x≠td)->B' x=some o:=by
 classical
 have c:∀x o,H x=some o->(¬X.f x/\¬X2.f x/\x≠td)->(if X.f x\/X2.f x\/x=td then none else H x)=some o:=λx o e ⟨g,i,d⟩=>by
  rw[if_neg λz=>z.elim g λz=>z.elim i d];exact e
 exists λx=>if X.f x\/X2.f x\/x=td then none else H x,⟨h.s,h.o,h.p,⟨λy o e=>?_,λy w=>if_pos (.inl w)⟩,λy w=>if_pos (.inr (.inl w)),h.t,h.u,h.n1,h.n2,if_pos (.inr (.inr rfl))⟩,λy o e=>?_,c
 .by_cases z:X.f y\/X2.f y\/y=td
  .rw[if_pos z]at e;cases e
  .rw[if_neg z]at e;exact e
 .exact c y o (h.b.s _ _ e) ⟨(λw=>by rw[h.b.n y w]at e;cases e),(λw=>by rw[h.b2 y w]at e;cases e),λz=>by rw[z,h.nb]at e;cases e⟩
end
def ydy(x y:Φ):vdx (baV x) (baV y)=true:=by cases x<;>cases y<;>rfl
def yka(P:qi Pd):(P.map λq=>V.str q.nm)=(P.map (·.nm)).map V.str:=by rw[cX];rfl
def ysv{P:qi Pd}{y:V}(h:(P.map λq=>V.str q.nm)[i]?=some y):∃q,q∈P/\P[i]?=some q/\y=V.str q.nm:=by rw[cu]at h;let⟨q,a,e⟩:=dL.mp h;exists q,cB a,a,e.symm
def ybp{H:Hp}{P:qi Pd}{tx:Str->z4}(h:DkF H td (mdK tx P)){q:Pd}(hq:q∈P):Ī H td (.str q.nm) (some (.ref (tx q.nm))):=by rw[<- ypn tx hq];exact h.get q.nm
def TxB(B:Hp)(P:qi Pd)(tx:Str->z4):Prop:=∀q,q∈P->B (tx q.nm)=some (.lst (q.tx.map V.int))
#synth yil ["_law_one","_law_other","_law_texts","_law_name"] ["_law_one","_law_other","_law_texts"] yk6
inductive yh0(K:z3)(a:Ads)(vs:Υ)(H:Hp)(Q:VK)(E':XK):Prop
 |mk(st st2 td:z4)(C:Cf)(P:qi Pd)(X X2:Sx)(B:Hp)(tx:Str->z4)(_:vs=[.ref st,.ref st2,.ref td])(_:D2 K a B H td (.dK (mdK tx P)) st C P X st2 C P X2)(_:TxB B P tx)(_:P.length<=6)(_:∀Y Y2 H',D2 K a B H' td (.dK (mdK tx P)) st C P Y st2 C P Y2->Q (.bl true) H')
def ysm:vq P w K mg Γ CX0 15 a.Gj a.Ha ["_law_one","_law_other","_law_texts"] (yh0 K a):=by
 exists T.Hg.F.ok,yil,c;let⟨st,R,td,C,P,X,X2,B,tx,rfl,h,hB,b0,k⟩:=h
 have U:∀x,x∈P.map (·.nm)->PyData.strOk x=true:=λx hx=>by
  let⟨q,f,rfl⟩:=cn.mp hx;exact(h.s.nm q f).2
 refine yg (wd (PW.pt (j4 (y6 (uk c.units) (yz (pv 0) T.A1 T.D7.m (yj4 T) c.m T.D7.B .nil vh) (yz (pv 1) T.A1 T.D7.m (yj4 T) c.m T.D7.B .nil vh) (vd _)) (jo (y6 ywg (yz (pv 0) T.A1 T.D8.m (yju T) c.m T.D8.B .nil vh) (yz (pv 1) T.A1 T.D8.m (yju T) c.m T.D8.B .nil vh) (vd _))))) (yc (yo ú)) ve) ?_;refine yg (wd (PW.pt (j4 (y6 (uk c.units) (yz (pv 0) T.A1 T.Ap.m (Ó T) c.m T.Ap.B .nil vh) (yz (pv 1) T.A1 T.Ap.m (Ó T) c.m T.Ap.B .nil vh) (vd _)) (jo (y6 (uk c.units) (yz (pv 1) T.A1 T.Ap.m (Ó T) c.m T.Ap.B .nil vh) (pcT (zw rfl) T.Ae (pa1 (pv 2))) (vd _))))) (yc (yo ú)) ve) ?_;refine yg (uh PassesOwn.never rfl (wz (yz (pv 1) T.A1 T.Ap.m (Ó T) c.m T.Ap.B .nil vh)) (we (i:=3) yil.nd rfl (Or.inl rfl)) (yf (wd (PW.pt (j4 (y6 (uk c.units) (yv (pv 1) T.A1 T.D9.m (yk0 T) c.m T.D9.B .nil y9 (pa1 (pv 3))) (uq (u7 c) (pv 2) (pv 3) (λF F=>rfl)) (vd _)) (jo (y6 (uk c.units) (yv (pv 0) T.A1 T.Be.m (Ġ T) c.m T.Be.B .nil y9 (pa1 (pv 3))) (yv (pv 1) T.A1 T.Be.m (Ġ T) c.m T.Be.B .nil y9 (pa1 (pv 3))) (vd _))))) (yc (yo ú)) ve) (yc (wd (PW.pt (j4 (y6 ywg (yv (pv 0) T.A1 T.Da.m (yj6 T) c.m T.Da.B .nil y9 (pa1 (pv 3))) (yv (pv 1) T.A1 T.Da.m (yj6 T) c.m T.Da.B .nil y9 (pa1 (pv 3))) (vd _)) (jo (y6 (uk c.units) (yv (pv 0) T.A1 T.Eu.m (yov T) c.m T.Eu.B .nil y9 (pa1 (pv 3))) (yv (pv 1) T.A1 T.Eu.m (yov T) c.m T.Eu.B .nil y9 (pa1 (pv 3))) (vd _))))) (yc (yo ú)) ve)))) ?_;exists _,(yc (yo ú)),?_;exists 3,1;let⟨ds,vl,vm,vp,vc,a9⟩:=h.s.ins;let⟨az,an,aB,as,aA,j⟩:=h.o.ins;ext;refine h.s.tlooks λl lk tp H1 aC a0 ad S1=>?_;have O:=h.same S1;have J:=S1 _ _ j;ext;refine O.o.tlooks λl2 b3 aU H2 a5 Z ai S2=>?_;have W:=O.same S2;have j:=S2 _ _ J;have a2:=S2 _ _ (S1 _ _ a9);refine vdc (Sd.lst (SqL.of (S2 _ _ a0)) (ad.same S2).sds) (Sd.lst (SqL.of Z) ai.sds) ∅ ?_;exists _,rfl,jq ?_;ext;refine W.s.tmost ?_;ext;refine W.o.tmost ?_;ext;rw[cz rfl];ext;refine W.s.names λnm H3 af ah S3=>?_;have h3:=W.same S3;have I:=S3 _ _ j;ext;refine h3.o.names λba H4 a8 n S4=>?_;have h4:=h3.same S4;have aa:=S4 _ _ I;have u:=S4 _ _ ah;rw[yka]at u n;refine ye1 _ _ U U (SqL.of u) (SqL.of n) ?_;rw[cz rfl];exists _,rfl,jq ?_;ext;refine h4.o.names λaV H5 a7 M S5=>?_;have h5:=h4.same S5;rw[yka]at M;ext;exists td,_,rfl,h5.t,λkl hkl0=>?_;rw[ü];exists hkl0,H6,S6,hkl6;have N:=h5.same S6;refine ye1 _ _ U U (SqL.of (S6 _ _ M)) (SqL.of hkl6) ?_;rw[cz rfl];exists _,rfl,jq ?_;let⟨au,ak,aw,av,am,a1⟩:=N.o.ins;ext;refine N.o.names λnl H7 a3 a4 S7=>?_;have h7:=N.same S7;have ae:=N.new a3;let⟨B7,h7,SB,ag⟩:=h7.bas;have a6:=ag _ _ a4 ae;have ar:TxB B7 P tx:=λq f=>SB _ _ (hB q f)
 replace k:∀Y S H',D2 K a B7 H' td (.dK (mdK tx P)) st C P Y R C P S->Q (.bl true) H':=λY S H' z=>k Y S H' (z.sub SB)
 clear ag a4 N a1 hkl6 S6 hkl0 h5 S5 M a7 h4 h3 W O h u n aa I a2 j J Z ai a0 ad a9 S1 S2 S3 S4 S7 hB SB aC a5 af a8 a3 ae;ext;exists nl,rfl,⟨_,SqL.of (h7.b.s _ _ a6)⟩,zd (K:=K) (a:=nl) (xs:=P.map λq=>V.str q.nm) (λi σ2 G=>∃(Y S:Sx)(v:Ψ),σ2=[some (.ref st),some (.ref R),some (.ref td),v]/\D2 K a B7 G td (.dK (mdK tx P)) st C P Y R C P S) ⟨X,X2,_,rfl,h7⟩ (by rintro i σ2 G _ ⟨_,_,_,_,z⟩;exact SqL.of (z.b.s _ _ a6)) ?_ ?_
 .rintro i y σ2 G hy ⟨Y,S,v,rfl,h⟩;let⟨q,f,_,rfl⟩:=ysv hy;have p:=h.s.nm q f;let⟨ds,vl,vm,vp,vc,a9⟩:=h.o.ins;ext;refine h.o.textof p.1 (λD=>absurd rfl (D q f)) λr c e S t H1 aq g1 aM ht=>?_;obtain rfl:=x8 h.s.nd c f e;have O:=(h.swap.go aq g1).swap;ext;exists td,.ref (tx r.nm),rfl,ybp (.inl O.t) f,?_;refine í r.tx r.tx (SqL.of ht.1) (SqL.of (O.b.s _ _ (ar r f))) ?_;rw[cz rfl];exists _,rfl,jq ?_;let⟨aP,aO,aQ,aZ,aY,a2⟩:=O.s.ins;ext;refine O.s.bytesof p.1 (λD=>absurd rfl (D r f)) λr2 L e2 l1 H2 aG a0 S2=>?_;obtain rfl:=x8 h.s.nd L f e2;have W:=O.same S2;let⟨az,an,aB,as,aA,j⟩:=W.o.ins;ext;refine W.o.bytesof p.1 (λD=>absurd rfl (D r2 f)) λr c e l2 H3 a5 Z S3=>?_;obtain rfl:=x8 h.s.nd c f e;have h3:=W.same S3;refine í (r.by C) (r.by C) (SqL.of (S3 _ _ a0)) (SqL.of Z) ?_;rw[cz rfl];exists _,rfl,jq ?_;let⟨b1,b7,b2,aW,aK,aF⟩:=h3.s.ins;ext;refine h3.s.baseof p.1 (λD=>absurd rfl (D r f)) λr2 L e2 H4 S4=>?_;obtain rfl:=x8 h.s.nd L f e2;have h4:=h3.same S4;let⟨b4,aI,aS,aR,b6,aE⟩:=h4.o.ins;ext;refine h4.o.baseof p.1 (λD=>absurd rfl (D r2 f)) λr c e H5 S5=>?_;obtain rfl:=x8 h.s.nd c f e;have h5:=h4.same S5;exists ydy _ _,?_;rw[cz rfl];exists _,rfl,jq ?_;let⟨aN,b9,aL,aJ,aT,aD⟩:=h5.s.ins;ext;refine h5.s.learnedof p.1 (λD=>absurd rfl (D r f)) λr2 L e2 Y' q1 cx H6 al g6 ac aj ab=>?_;obtain rfl:=x8 h.s.nd L f e2;have N:=h5.go al g6;let⟨au,ak,aw,av,am,a1⟩:=N.o.ins;ext;refine N.o.learnedof p.1 (λD=>absurd rfl (D r2 f)) λr c e aX q2 cy H7 ay g7 aH ao ap=>?_;obtain rfl:=x8 h.s.nd c f e;have h7:=(N.swap.go ay g7).swap
  have lv:∀{x:z4}{o:HO},H5 x=none->H6 x=some o->H7 x=some o:=λ{x o}e0 e1=>g7.g.fr _ _ e1 λw=>by
   let⟨o',e'⟩:=h5.o.live x (N.o.wf _ w);rw[e0]at e';cases e'
  refine vdc (d:=.list ((List.range r.path.length).map λi=>.list ((txi r.path i).map PyData.int))) (k:=2) (Sd.lst (SqL.of (lv ac aj.1)) (Sds.refs _ λi hi=>Sd.lst (SqL.of (lv (ab i hi).2.1 (ab i hi).2.2.1)) (Sds.ints _))) (Sd.lst (SqL.of ao.1) (Sds.refs _ λi hi=>Sd.lst (SqL.of (ap i hi).2.2.1) (Sds.ints _))) ∅ ?_;exists _,rfl,jq ?_;ext;exists _,_,_,rfl,h7
 .rintro σ2 G ⟨Y,S,v,rfl,h⟩;ext;exact k Y S G h
def vdt:V->qj Int
 | .int i=>some i
 |_=>none
theorem ě{zs:Ρ}:∀ys:Υ,(∀y∈ys,y∈zs.map V.int)->ys=(ys.filterMap vdt).map V.int/\∀i,i∈ys.filterMap vdt->i∈zs
 |[],_=>⟨rfl,λZ h=>nomatch h⟩
 |y::ys,h=>by
  let⟨i,b,rfl⟩:=cn.mp (h y cT);let⟨a,e⟩:=ě ys λz d=>h z (cZ _ d);exists ?_,λk c=>?_
  .show V.int i::ys=V.int i::_;rw[<- a]
  .rcases cG.mp (show k∈i::ys.filterMap vdt from c)with z|z
   .rw[z];exact b
   .exact e k z
def otL(ts:Ρ):Ρ:=if ts=[]then [5]else (stV (ts.map V.int) none (some 0) (some (-1))).filterMap vdt++[(ts.headD 0+1)%256]
def vbr:∀n:Fin 13,(sliceRange (sliceBounds none (some 0) (some (-1)) n.val).1 (sliceBounds none (some 0) (some (-1)) n.val).2.1 (sliceBounds none (some 0) (some (-1)) n.val).2.2).length<=n.val-1:=by right
def yya(h:Sgs ts)(hl:ts.length<=12):Sgs (otL ts)/\(otL ts).length<=12:=by
 unfold otL;by_cases e:ts=[]
 .rw[if_pos e];exists λx a=>by rw[cJ.mp a];decide,∅
 .rw[if_neg e];have d:1<=ts.length:=List.length_pos_iff.mpr e;exists λx a=>?_,?_
  .rcases cQ.mp a with z|z
   .refine h x ((ě (zs:=ts) _ λy b=>?_).2 x z);let⟨i,_,e⟩:=List.mem_filterMap.mp b;exact cB e
   .rw[cJ.mp z];omega
  .have c:=List.length_filterMap_le vdt (stV (ts.map V.int) none (some 0) (some (-1)))
   have f:(stV (ts.map V.int) none (some 0) (some (-1))).length<=ts.length-1:=by
    unfold stV;rw[bI];exact de (List.length_filterMap_le _ _) (vbr ⟨ts.length,()⟩)
   rw[cj,dm];omega
#synth yr8 ["_law_text_here"] yk2
inductive ygq(K:z3)(vs:Υ)(H:Hp)(Q:VK)(E':XK):Prop
 |mk(t:z4)(ts:Ρ)(_:vs=[.ref t])(_:H t=some (.lst (ts.map V.int)))(_:ts.length<=12)(_:∀r H',H r=none->H' r=some (.lst ((otL ts).map V.int))->yw H H'->Q (.ref r) H')
def yc6:vq P w K mg Γ CX0 1 a.Gk a.Hb ["_law_text_here"] (ygq K):=by
 exists T.Dp.F.ok,yr8,n;let⟨t,f,rfl,g,z,k⟩:=h;exists 1,0,yf (wd (y6 (ypg n.units) (pv 0) (wx zj) (vd _)) (yc (yo (wx (pa1 yh)))) ve) (yc (yo (yp Ö (yhv (pv 0) uo (xv yh) (xv (yvy ykc yh))) (wx (pa1 (yp xi (yp vw (xf wk (pv 0) yh (λZ Z=>rfl)) yh) yh))))));exists by walk_at "len",λu hu0=>?_
 exists hu0,H1,S1,hu1;refine í f [] (SqL.of (S1 _ _ g)) (SqL.of hu1) ?_;by_cases e:f=[]
 .rw[cz e];exists _,rfl,yac ?_;ext;exists by walk_at "len",λr hr0=>?_
  refine k r _ (S1.free hr0) ?_ (S1.trans (vg hr0));unfold otL;rw[ya,if_pos e];rfl
 .rw[cH e];exists _,rfl,jq ?_;ext;exists by decide,t,_,rfl,SqL.of (S1 _ _ g),λr hr0 o i=>?_
  have q:=(ě _ o).1;exists hr0,H2,S2,hr2;ext;let⟨x,y,rfl⟩:=List.exists_cons_of_ne_nil e;refine Û (v:=.int x) (SqL.of (S2 _ _ (S1 _ _ g))) (w9 (j:=0) rfl) ?_;ext;exists by walk_at "len",λv hv0=>?_
  exists hv0,H3,S3,hv3;ext;exists r,v,_,_,rfl,rfl,S3 _ _ hr2,hv3,xu (by rw[bI]at i;show _+1<=_;omega),λc d=>?_;have b:=S1.trans (S2.trans S3);refine k c _ (b.free d) ?_ (b.trans (vg d));unfold otL;rw[ya,if_neg e,cA,<- q];rfl
def bsK(P:qi Pd):Κ:=P.map λq=>(.inr q.nm,baV q.bs)
theorem yej:∀{P:qi Pd}{q:Pd},(P.map (·.nm)).Nodup->q∈P->u8 (bsK P) (.inr q.nm)=some (baV q.bs)
 |r::P,q,hn,hq=>by
  unfold u8 bsK;rw[db];have a:=dI.mp hn;rcases cG.mp hq with rfl|z
  .rw[List.find?_cons_of_pos (by simp)];rfl
  .have e:r.nm≠q.nm:=λe=>a.1 (cn.mpr ⟨q,z,e.symm⟩);rw[List.find?_cons_of_neg (by simpa using e)];exact yej a.2 z
def ypj{tu:Str->z4}{P:qi Pd}{kk:Key}{v:V}(h:(mdK tu P)[i]?=some (kk,v)):∃q,P[i]?=some q/\kk=.inr q.nm/\v=.ref (tu q.nm):=by unfold mdK at h;rw[cu]at h;let⟨q,a,e⟩:=dL.mp h;cases e;exact⟨q,a,rfl,rfl⟩
def Stk.free{P:qi Pd}(k:Stk P)(hn:(P.map (·.nm)).Nodup){m:Nat}(hm:m<P.length):∀q,q∈P.take (m+1)->q.bs≠some P[m].nm:=λq b e=>by
 let⟨j,d,rfl⟩:=List.mem_iff_getElem.mp b;rw[cK]at d;rw[List.getElem_take]at e;let⟨i,s,g,c,f⟩:=k j P[j] _ (ci ()) e;let⟨a,rfl⟩:=cE.mp c;have:=List.pairwise_iff_getElem.mp hn i m (by rw[bI];exact a) (by rw[bI];exact hm) ();rw[dv,dv]at this;exact this f
def yfc{P:qi Pd}(hn:(P.map (·.nm)).Nodup){m:Nat}(hm:m<P.length):(P.take (m+1)).filter (λq=>decide (q.nm≠P[m].nm))=P.take m:=by
 rw[cM hm,List.filter_append,List.filter_cons_of_neg (by simp),List.filter_eq_self.mpr λq a=>?_]
 .exact dZ _
 .obtain⟨j,b,rfl⟩:=List.mem_iff_getElem.mp a;rw[cK]at b;have:=List.pairwise_iff_getElem.mp hn j m (by rw[bI];omega) (by rw[bI];exact hm) ();rw[dv,dv]at this;rw[List.getElem_take];exact cz this
def Rep(P R:qi Pd):Prop:=R.map (λu=>(u.nm,u.bs,u.tx))=P.map λq=>(q.nm,q.bs,otL q.tx)
theorem Rep.at{P R:qi Pd}(h:Rep P R){q:Pd}(hi:P[i]?=some q):∃r,R[i]?=some r/\r.nm=q.nm/\r.bs=q.bs/\r.tx=otL q.tx:=by have e:=congrArg (·[i]?) h;simp only[cu,hi]at e;let⟨r,d,e⟩:=dL.mp e;let⟨b,a⟩:=Prod.mk.inj e;let⟨a,c⟩:=Prod.mk.inj a;exists r,d,b,a,c
def Rep.nms{P R:qi Pd}(h:Rep P R):R.map (·.nm)=P.map (·.nm):=by have e:=congrArg (List.map (·.1)) h;rw[cX,cX]at e;exact e
def Rep.snoc{P R:qi Pd}(h:Rep P R)(q:Pd)(L:Η):Rep (P++[q]) (R++[⟨q.nm,q.bs,L,otL q.tx⟩]):=by unfold Rep at h⊢;rw[cA,cA,h];rfl
#synth ŵ ["_law_other","_law_fresh","_law_texts","_law_bases","_law_name"] ["_law_other","_law_fresh","_law_texts","_law_bases"] yks
inductive ygs(K:z3)(a:Ads)(vs:Υ)(H:Hp)(Q:VK)(E':XK):Prop
 |mk(st st2 td bd:z4)(C:Cf)(P:qi Pd)(X X2:Sx)(B:Hp)(tx:Str->z4)(_:vs=[.ref st,.ref st2,.ref td,.ref bd])(_:D2 K a B H td (.dK (mdK tx P)) st C P X st2 C [] X2)(_:TxB B P tx)(_:B bd=some (.dK (bsK P)))(_:Stk P)(_:P.length<=6)(_:(∀q,q∈P->q.tx.length<=12))(_:12<=C.w)(_:∀H',Q (.bl true) H')
def yrx:vq P w K mg Γ CX0 15 a.Gm a.Hc ["_law_other","_law_fresh","_law_texts","_law_bases"] (ygs K a):=by
 exists T.Hh.F.ok,ŵ,f;let⟨S,n,l,bd,C,P,X,X2,B,g,rfl,h,hB,aa,hk,aF,a0,hw,k⟩:=h;have M:=h.s.nd;have W:=h.s.nm;have al:∀q,q∈P->Sgs q.tx:=λq I=>(h.s.sz q I).1
 have aD:∀x,x∈P.map (·.nm)->PyData.strOk x=true:=λx hx=>by
  let⟨q,I,rfl⟩:=cn.mp hx;exact(W q I).2
 refine yg (uh PassesOwn.never rfl (yyp rfl T.D3 (pa1 (pcT (zw rfl) T.Ae (pa1 (pv 2))))) (we (i:=4) ŵ.nd rfl (Or.inl rfl)) (yc (yt (yv (pv 0) T.A1 T.Je.m (va9 T) f.m T.Je.B .nil y9 (pa1 (pv 4)))))) ?_;refine yg (yc2 (uh PassesOwn.never rfl (yiz (pv 2)) (we (i:=4) ŵ.nd rfl (Or.inl rfl)) (yf (yt (yv (pv 0) T.A1 T.Jc (ybk T) f.m T.Jb .nil y9 (pac (pv 4) (pac (xx (yc6 T) f.m T.Dp (pa1 (uq (u7 f) (pv 2) (pv 4) (λ_ _=>rfl)))) (pa1 (uq (u7 f) (pv 3) (pv 4) (λ_ _=>rfl))))))) (yc (yt (yv (pv 1) T.A1 T.Jc (ybk T) f.m T.Jb .nil y9 (pac (pv 4) (pac (xx (yc6 T) f.m T.Dp (pa1 (uq (u7 f) (pv 2) (pv 4) (λ_ _=>rfl)))) (pa1 (uq (u7 f) (pv 3) (pv 4) (λ_ _=>rfl))))))))))) ?_;refine yg (yc2 (uh PassesOwn.never rfl (yiz (pv 2)) (we (i:=4) ŵ.nd rfl (Or.inl rfl)) (yc (wd (PW.pt (j4 (y6 (uk f.units) (yv (pv 0) T.A1 T.D9.m (yk0 T) f.m T.D9.B .nil y9 (pa1 (pv 4))) (xx (yc6 T) f.m T.Dp (pa1 (uq (u7 f) (pv 2) (pv 4) (λ_ _=>rfl)))) (vd _)) (jo (y6 (uk f.units) (yv (pv 0) T.A1 T.Be.m (Ġ T) f.m T.Be.B .nil y9 (pa1 (pv 4))) (yv (pv 1) T.A1 T.Be.m (Ġ T) f.m T.Be.B .nil y9 (pa1 (pv 4))) (vd _))))) (yc (yo ú)) ve)))) ?_;exists 4,1,yc (yo (jd (ypg f.units) (xx (ĥ T) f.m T.Cz (pa1 (pv 0))) (xx (ĥ T) f.m T.Cz (pa1 (pv 1))) (vd _)));exists l,_,rfl,h.t,λkl hkl0=>?_;rw[ü];exists hkl0,H1,S1,hkl1;let⟨B1,J,SB,ag⟩:=(h.same S1).bas;have a3:=ag _ _ hkl1 (h.new hkl0);have a4:TxB B1 P g:=λq I=>SB _ _ (hB q I);have a1:=SB _ _ aa;clear ag hkl1 hB aa SB hkl0 S1 h;ext;exists kl,_,rfl,SqL.of (J.b.s _ _ a3),yth (K:=K) (a:=kl) (xs:=(P.map (·.nm)).map V.str) (λi σ2 G=>∃(Y:Sx)(v:Ψ),σ2=[some (.ref S),some (.ref n),some (.ref l),some (.ref bd),v]/\D2 K a B1 G l (.dK (mdK g P)) S C (P.take (P.length-i)) Y n C [] X2) ⟨X,_,rfl,by rw[Nat.sub_zero,dh];exact J⟩ (λi σ2 G _ ⟨_,_,_,z⟩=>SqL.of (z.b.s _ _ a3)) ?_ ?_
 .rintro i y σ2 G hy ⟨Y,v,rfl,h⟩
  have U:i<((P.map (·.nm)).map V.str).length:=by
   have:=(cE.mp hy).1;rw[List.length_reverse]at this;exact this
  rw[List.getElem?_reverse U]at hy;rw[bI,bI]at U hy;obtain⟨m,em⟩:∃m,P.length-i=m+1:=⟨P.length-i-1,()⟩;have hm:m<P.length:=()
  rw[show P.length-1-i=m by omega,cu,cu,ci hm]at hy;obtain rfl:=cL hy;rw[em]at h;have as:P[m]∈P.take (m+1):=by rw[cM hm];exact cN _ cT
  let⟨ds,vl,vm,vp,vc,ac⟩:=h.s.ins;ext;refine h.s.drop (W _ (cU hm)).1 (λno=>absurd rfl (no _ as)) (λr f e ⟨u,hu,eu⟩=>absurd eu (hk.free M hm u hu)) λr f e _ N G2 Z g2=>?_;rw[yfc M hm]at Z;ext;exists N,_,rfl,by rw[show P.length-(i+1)=m by omega];exact h.go Z g2
 rintro σ2 G ⟨Y,v,rfl,h⟩;rw[bI,bI,Nat.sub_self,List.take_zero]at h;have an:(mdK g P).length=P.length:=bI _;ext;exists l,mdK g P,rfl,h.t,λo=>?_;refine ydl (o:=o) (d:=l) (kvs:=mdK g P) (λi σ2 F=>∃(Y N:Sx)(R:qi Pd)(v:Ψ),σ2=[some (.ref S),some (.ref n),some (.ref l),some (.ref bd),v]/\Rep (P.take i) R/\D2 K a B1 F l (.frz o (.dK (mdK g P))) S C R Y n C R N) ⟨Y,X2,[],_,rfl,rfl,h.up rfl⟩ (by rintro i σ2 F _ ⟨_,_,_,_,_,_,z⟩;exact z.t) ?_ ?_
 .rintro i kk v σ2 F a5 ⟨Y,N,R,v',rfl,hR,h⟩;let⟨q,I,rfl,rfl⟩:=ypj a5;have U:i<P.length:=(cE.mp I).1;have c:=cB I;have p:=W q c;let⟨ae,aI⟩:=yya (al q c) (a0 q c);have ai:P.take (i+1)=P.take i++[q]:=by rw[cM U,(cE.mp I).2]
  have a2:∀u,u∈R->u.nm≠q.nm:=λu hu e=>by
   have hm:u.nm∈R.map (·.nm):=cn.mpr ⟨u,hu,rfl⟩;rw[hR.nms]at hm;have af:((P.take (i+1)).map (·.nm)).Nodup:=by rw[List.map_take];exact M.sublist (List.take_sublist _ _)
   rw[ai,cA,List.nodup_append]at af;exact af.2.2 _ hm _ (cT) e
  have ad:R.length<60:=by
   have e:=congrArg List.length hR.nms;rw[bI,bI,cK]at e;omega
  obtain⟨L,hL⟩:∃L,ToD R q.bs L:=by
   cases eb:q.bs with
   |none=>exists [],rfl
   |some b =>
    let⟨j,s,hj,J,O⟩:=hk i q b I eb;let⟨r,f,e1,_⟩:=hR.at (i:=j) (by rw[List.getElem?_take_of_lt hj];exact J);exists _,r,cB f,e1.trans O,rfl
  let⟨ds,vl,vm,vp,vc,ac⟩:=h.s.ins;ext;exists l,.ref (g q.nm),rfl,ybp (.inr ⟨o,h.t⟩) c,?_;ext;exists g q.nm,q.tx,rfl,h.b.s _ _ (a4 q c),a0 q c,λr1 G1 ab a6 S1=>?_;have J:=h.same S1;ext;exists bd,baV q.bs,rfl,by rw[<- yej M c];exact DkF.get (.inl (J.b.s _ _ a1)) q.nm,?_
  ext;refine J.s.put p ⟨a6,ae,()⟩ hL a2 ad λY' G2 Z g2=>?_;have O:=J.go Z g2;let⟨av,ao,ax,aq,aw,ah⟩:=O.o.ins;ext;exists l,.ref (g q.nm),rfl,ybp (.inr ⟨o,O.t⟩) c,?_;ext;exists g q.nm,q.tx,rfl,O.b.s _ _ (a4 q c),a0 q c,λr2 G3 az a8 S3=>?_;have h3:=O.same S3;ext;exists bd,baV q.bs,rfl,by rw[<- yej M c];exact DkF.get (.inl (h3.b.s _ _ a1)) q.nm,?_
  ext;refine h3.o.put p ⟨a8,ae,()⟩ hL a2 ad λaE G4 au g4=>?_;have h4:=(h3.swap.go au g4).swap;ext;exists _,_,_,_,rfl,by rw[ai];exact hR.snoc q L,h4
 rintro σ2 F ⟨Y,N,R,v',rfl,hR,h⟩;rw[an,dh]at hR;exists l,o,.dK (mdK g P),(λo u e=>by rw[‹D2 K a B1 G l (.dK (mdK g P)) S C [] _ n C [] X2›.t]at e;cases e),h.t,?_;have h:=h.up (ou:=.dK (mdK g P)) rfl;generalize upd F l (.dK (mdK g P))=F2 at h⊢;ext;exists l,mdK g P,rfl,h.t,λo=>?_;have am:=h.t;refine ydl (o:=o) (d:=l) (kvs:=mdK g P) (λi σ2 F=>∃(Y N:Sx)(v:Ψ),σ2=[some (.ref S),some (.ref n),some (.ref l),some (.ref bd),v]/\D2 K a B1 F l (.frz o (.dK (mdK g P))) S C R Y n C R N) ⟨Y,N,_,rfl,h.up rfl⟩ (by rintro i σ2 F _ ⟨_,_,_,_,z⟩;exact z.t) ?_ ?_
 .rintro i kk v σ2 F a5 ⟨Y,N,v',rfl,h⟩;let⟨q,I,rfl,rfl⟩:=ypj a5;have c:=cB I;have p:=W q c;let⟨u,hu,e1,e2,e3⟩:=hR.at I;have D:=cB hu;rw[<- e1]at p;let⟨ds,vl,vm,vp,vc,ac⟩:=h.s.ins;ext;rw[show kV (.inr q.nm)=V.str u.nm by rw[e1];rfl];refine h.s.textof p.1 (λno=>absurd rfl (no u D)) λr f e Y' t H1 ap g1 aB ht=>?_;obtain rfl:=x8 h.s.nd f D e;have J:=h.go ap g1;ext;exists l,.ref (g q.nm),rfl,by rw[e1];exact ybp (.inr ⟨o,J.t⟩) c,?_
  ext;exists g q.nm,q.tx,rfl,J.b.s _ _ (a4 q c),a0 q c,λr1 H2 ab a6 S2=>?_;have O:=J.same S2;refine í _ _ (SqL.of (S2 _ _ ht.1)) (SqL.of a6) ?_;rw[cz e3];exists _,rfl,jq ?_;let⟨av,ao,ax,aq,aw,ah⟩:=O.s.ins;ext;refine O.s.bytesof p.1 (λno=>absurd rfl (no r D)) λr2 a8 e2 l1 H3 ak a9 S3=>?_;obtain rfl:=x8 h.s.nd a8 D e2;have h3:=O.same S3;let⟨aG,aK,aH,aC,aA,ay⟩:=h3.o.ins;ext;refine h3.o.bytesof p.1 (λno=>absurd rfl (no r2 D)) λr f e l2 H4 aj a7 S4=>?_;obtain rfl:=x8 h.s.nd f D e;refine í _ _ (SqL.of (S4 _ _ a9)) (SqL.of a7) ?_;rw[cz rfl];exists _,rfl,jq ?_;ext;exists _,_,_,rfl,h3.same S4
 rintro σ2 F ⟨Y,N,v',rfl,h⟩;exists l,o,.dK (mdK g P),(λo u e=>by rw[am]at e;cases e),h.t,?_;have h:=h.up (ou:=.dK (mdK g P)) rfl;generalize upd F l (.dK (mdK g P))=F2 at h⊢;ext;exists S,C,R,Y,rfl,h.s,λl1 H1 ak a9 S1=>?_;ext;exists n,C,R,N,rfl,h.o.same S1,λl2 H2 aj a7 S2=>?_;refine í _ _ (SqL.of (S2 _ _ a9)) (SqL.of a7) ?_;rw[cz rfl];exact k _
def yln{ps:Ρ}(h:ur (ps.map V.int)=true):∀p,p∈ps->1<=p/\p<=8:=λp b=>by
 unfold ur at h;rw[cR,cR]at h;have:=(List.all_eq_true.mp h.1.2) _ (cn.mpr ⟨p,b,rfl⟩);have a:(decide (1<=p) && decide (p<=8))=true:=this;rw[cR]at a;exists of_decide_eq_true a.1,of_decide_eq_true a.2
def Sto.byt{H:Hp}{C:Cf}{P:qi Pd}{X:Sx}{lk:Μ}(h:Sto K a H st C P X)(hR:xn H C.n lk C.kd tp C.ps)(hP:P.length<=6)(hl:∀q,q∈P->Ō q.nm.cps.toList):(∀b,b∈shB C P->0<=b/\b<=255)/\(shB C P).length<=100000:=by
 let⟨A,v,w,_,_⟩:=h.cf;exists λb d=>?_,?_
 .unfold shB hdB at d;rcases cQ.mp d with d|d
  .rcases cQ.mp d with d|d
   .rcases cG.mp d with rfl|d
    .omega
    .unfold lkF at d;let⟨l,hl,d⟩:=List.mem_flatten.mp d;let⟨i,k,rfl⟩:=cn.mp hl;have k:=dB.mp k;let⟨_,_,_,_,m⟩:=hR i k;have p:=ux m;rw[bI]at p;have z:=(C.kd i).isLt;rcases cG.mp d with rfl|d
     .omega
     .rcases cG.mp d with rfl|d
      .omega
      .have:=yln m b d;omega
   .rcases cG.mp d with rfl|d
    .omega
    .rw[cJ.mp d];omega
  .rcases cG.mp d with rfl|d
   .omega
   .obtain⟨l,g,d⟩:=List.mem_flatten.mp d;let⟨q,f,rfl⟩:=cn.mp g;have y:=uc (h.nm q f).1;unfold pdB nmB at d;rcases cQ.mp d with d|d
    .rcases cQ.mp d with d|d
     .rcases cG.mp d with rfl|d
      .omega
      .obtain⟨c,s,rfl⟩:=cn.mp d;let⟨j,t⟩:=hl q f c s;rw[yoc j ()];omega
     .rw[cJ.mp d]
      cases hbs:q.bs with
      |none=>exact(show (0:Int)<=0/\(0:Int)<=255 by decide)
      |some x =>
       have e:=h.to q f;rw[hbs]at e;let⟨u,r,o,_⟩:=e;have:=List.idxOf_lt_length_iff.mpr (show x∈P.map (·.nm)from cn.mpr ⟨u,r,o⟩);rw[bI]at this;show 0<=(((P.map (·.nm)).idxOf x:Nat):Int)+1/\(((P.map (·.nm)).idxOf x:Nat):Int)+1<=255;omega
    .exact ybf _ b d
 .have j:=h.pls P.length (cq _);have t:=hR.lkl C.n (cq _);rw[dh]at j;unfold shB hdB;rw[cj,cj,cO,cO];show _+1+2+(_+1)<=_;omega
structure D1(K:z3)(a:Ads)(B H:Hp)(td:z4)(kt:Κ)(bd:z4)(kb:Κ)(st:z4)(C:Cf)(P:qi Pd)(X:Sx):Prop where
 s:Sto K a H st C P X
 b:Bs B H X
 t:H td=some (.dK kt)
 d:H bd=some (.dK kb)
 ne:td≠bd
 nt:¬X.f td
 nd:¬X.f bd
 bt:B td=none
 bb:B bd=none
section
variable{B B2 H H':Hp}{kt:Κ}{bd:z4}{kb:Κ}{C:Cf}{P P':qi Pd}{X Y:Sx}
theorem D1.same(h:D1 K a B H td kt bd kb st C P X)(S:yw H H'):D1 K a B H' td kt bd kb st C P X:=⟨h.s.same S,h.b.same S,S _ _ h.t,S _ _ h.d,h.ne,h.nt,h.nd,h.bt,h.bb⟩
theorem D1.go(h:D1 K a B H td kt bd kb st C P X)(s:Sto K a H' st C P' Y)(g:Gx X H H' Y):D1 K a B H' td kt bd kb st C P' Y :=
 ⟨s,h.b.go h.s g,(Kf.go ⟨h.t,h.nt⟩ h.s g).1,(Kf.go ⟨h.d,h.nd⟩ h.s g).1,h.ne,(Kf.go ⟨h.t,h.nt⟩ h.s g).2,(Kf.go ⟨h.d,h.nd⟩ h.s g).2,h.bt,h.bb⟩
def D1.upT(h:D1 K a B H td kt bd kb st C P X)(ku:Κ):D1 K a B (upd H td (.dK ku)) td ku bd kb st C P X :=
 ⟨h.s.but (WSh.mu h.t rfl) h.nt But.upd,h.b.but h.bt But.upd,ya,ye h.ne.symm h.d,h.ne,h.nt,h.nd,h.bt,h.bb⟩
def D1.upD(h:D1 K a B H td kt bd kb st C P X)(ku:Κ):D1 K a B (upd H bd (.dK ku)) td kt bd ku st C P X :=
 ⟨h.s.but (WSh.mu h.d rfl) h.nd But.upd,h.b.but h.bb But.upd,ye h.ne h.t,ya,h.ne,h.nt,h.nd,h.bt,h.bb⟩
def D1.bas(h:D1 K a B H td kt bd kb st C P X):∃B',D1 K a B' H td kt bd kb st C P X/\yw B B'/\∀x o,H x=some o->¬X.f x->x≠td->x≠bd->B' x=some o:=by
 classical
 have c:∀x o,H x=some o->¬X.f x->x≠td->x≠bd->(if X.f x\/x=td\/x=bd then none else H x)=some o:=λx o e i j g=>by
  rw[if_neg λz=>z.elim i λz=>z.elim j g];exact e
 exists λx=>if X.f x\/x=td\/x=bd then none else H x,⟨h.s,⟨λy o e=>?_,λy w=>if_pos (.inl w)⟩,h.t,h.d,h.ne,h.nt,h.nd,if_pos (.inr (.inl rfl)),if_pos (.inr (.inr rfl))⟩,λy o e=>?_,c
 .by_cases z:X.f y\/y=td\/y=bd
  .rw[if_pos z]at e;cases e
  .rw[if_neg z]at e;exact e
 .exact c y o (h.b.s _ _ e) (λw=>by rw[h.b.n y w]at e;cases e) (λz=>by rw[z,h.bt]at e;cases e) (λz=>by rw[z,h.bb]at e;cases e)
def D1.new(h:D1 K a B H td kt bd kb st C P X){x:z4}(hx:H x=none):¬X.f x/\x≠td/\x≠bd :=
 ⟨(λw=>by
  let⟨o,e⟩:=h.s.live x w;rw[hx]at e;cases e),(λz=>by rw[z,h.t]at hx;cases hx),λz=>by rw[z,h.d]at hx;cases hx⟩
def D1.two{P2:qi Pd}{X2:Sx}(h:D1 K a B H td kt bd kb st C P X)(S:yw H H')(o:Sto K a H' st2 C P2 X2)(nx:∀y,X2.f y->H y=none):∃B',D2 K a B' H' td (.dK kt) st C P X st2 C P2 X2/\B' bd=some (.dK kb)/\yw B B'/\∀x o,H x=some o->¬X.f x->x≠td->B' x=some o:=by
 let⟨B',g,i,c⟩:=Bs.mk' h.s td;exists B',⟨h.s.same S,o,λy w v=>?_,g.same S,λy w=>g.s.free (nx y w),S _ _ h.t,rfl,h.nt,λw=>?_,i⟩,c _ _ h.d h.nd h.ne.symm,λy o e=>c _ _ (h.b.s _ _ e) (λw=>by rw[h.b.n y w]at e;cases e) (λz=>by rw[z,h.bt]at e;cases e),c
 .obtain⟨o,e⟩:=h.s.live y w;rw[nx y v]at e;cases e
 .have e:=h.t;rw[nx td w]at e;cases e
def D2.chg{P2:qi Pd}{X2:Sx}{C2:Cf}{ot o o':HO}(h:D2 K a B H td ot st C P X st2 C2 P2 X2)(hy:B y=some o)(ho:yq0 o=true):D2 K a (upd B y o') (upd H y o') td ot st C P X st2 C2 P2 X2:=by
 have d:¬X.f y:=λw=>by rw[h.b.n y w]at hy;cases hy
 have g:¬X2.f y:=λw=>by rw[h.b2 y w]at hy;cases hy
 have c:td≠y:=λz=>by rw[<- z,h.nb]at hy;cases hy
 exists h.s.but (WSh.mu (h.b.s _ _ hy) ho) d But.upd,h.o.but (WSh.mu (h.b.s _ _ hy) ho) g But.upd,h.p,⟨λz u e=>?_,λz w=>?_⟩,λz w=>?_,ye c h.t,h.u,h.n1,h.n2,?_
 .by_cases q:z=y
  .rw[q,ya]at e⊢;exact e
  .rw[yk q]at e⊢;exact h.b.s _ _ e
 .rw[yk λq=>d (by rw[<- q];exact w)];exact h.b.n z w
 .rw[yk λq=>g (by rw[<- q];exact w)];exact h.b2 z w
 .rw[yk c];exact h.nb
end
def D2.third{B H H':Hp}{ot:HO}{C:Cf}{P:qi Pd}{X:Sx}{C2:Cf}{P2:qi Pd}{X2:Sx}{st3:z4}{C3:Cf}{P3:qi Pd}{X3:Sx}(h:D2 K a B H td ot st C P X st2 C2 P2 X2)(S:yw H H')(o:Sto K a H' st3 C3 P3 X3)(nx:∀y,X3.f y->H y=none):D2 K a B H' td ot st2 C2 P2 X2 st3 C3 P3 X3:=by
 exists h.o.same S,o,λy w v=>?_,⟨h.b.s.trans S,h.b2⟩,λy w=>h.b.s.free (nx y w),S _ _ h.t,h.u,h.n2,λw=>?_,h.nb
 .obtain⟨o,e⟩:=h.o.live y w;rw[nx y v]at e;cases e
 .have e:=h.t;rw[nx td w]at e;cases e
def yji{P:qi Pd}{q:Pd}(hno:∀r,r∈P->r.nm≠q.nm):ö (bsK P) (.inr q.nm) (baV q.bs)=bsK (P++[q]):=by
 rw[jb]
 .unfold bsK;rw[cA];rfl
 .unfold u8 bsK;rw[List.find?_eq_none.mpr λy a=>?_]
  .rfl
  .obtain⟨r,b,e⟩:=cn.mp a;rw[<- e];simpa using hno r b
def Stk.snoc{P:qi Pd}{q:Pd}(h:Stk P)(hb:∀b,q.bs=some b->∃r,r∈P/\r.nm=b):Stk (P++[q]):=λi r b a e=>by
 rcases Nat.lt_or_ge i P.length with f|f
 .rw[dG f]at a;let⟨j,s,c,l,g⟩:=h i r b a e;exists j,s,c,by rw[dG ()];exact l,g
 .rw[dA f]at a;obtain rfl:q=r:=(cJ.mp (cB a)).symm;let⟨s,k,g⟩:=hb b e;let⟨j,c⟩:=List.mem_iff_getElem?.mp k;have d:=(cE.mp c).1;exists j,s,(),by rw[dG d];exact c,g
def yay{P:qi Pd}(hj:j<P.length+1):∃x:Φ,(((P.map (·.nm)).map V.str)++[V.non])[j]?=some (baV x)/\(∀b,x=some b->∃r,r∈P/\r.nm=b)/\∃L,ToD P x L:=by
 rcases Nat.lt_or_ge j P.length with h|h
 .exists some P[j].nm,?_,λb e=>⟨P[j],cU h,cL e⟩,_,P[j],cU h,rfl,rfl;rw[dG (by rw[bI,bI];exact h),cu,cu,ci h];rfl
 .obtain rfl:j=P.length:=()
  exists none,?_,(λb e=>nomatch e),[],rfl
  rw[dA (by rw[bI,bI];exact cq _),bI,bI,Nat.sub_self];rfl
#synth zi ["_law_script","_law_names_here","_law_most","_law_more","_law_store","_law_texts","_law_bases","_law_k","_law_there","_law_data","_law_handed","_law_other","_law_last","_law_base"] ["_law_script"] yvc
inductive yen(K:z3)(vs:Υ)(H:Hp)(Q:VK)(E':XK):Prop
 |mk(l:z4)(ns:Ρ)(_:vs=[.ref l])(_:SqL K H l (ns.map V.int))(_:ns.length<=63)(_:∀H',Q (.bl true) H')
def yxy:vq P w K mg Γ CX0 17 a.Qh a.Ie ["_law_script"] (yen K):=by
 exists T.Jf.F.ok,zi,c;let⟨l,v,rfl,hS,bN,k⟩:=h;refine yg (yu (i:=1) zi.nd rfl (Or.inl rfl) (xx (ys0 T) c.m T.Hf (pa1 (xx (jc T) c.m T.Bi (pac (pv 0) (pa1 yh)))))) ?_;refine yg (yu (i:=2) zi.nd rfl (Or.inl rfl) (yp vw yh (yp xi (xx (jc T) c.m T.Bi (pac (pv 0) (pa1 yh))) yh))) ?_;refine yg (yu (i:=3) zi.nd rfl (Or.inl rfl) (yp wv yh (pcT yh6 T.Q1 (pa1 (jd jj (yp xi (yp vx (xx (jc T) c.m T.Bi (pac (pv 0) (pa1 yh))) yh) yh) yh (vd _)))))) ?_;refine yg (yu (i:=4) zi.nd rfl (Or.inl rfl) (xz T.Hi (yjz T) c.m rfl T.E4 T.Qj .nil y9 (pac (xx (yiu T) c.m T.F7 (pa1 (pv 0))) (pa1 (pv 2))))) ?_;refine yg (yu (i:=5) zi.nd rfl (Or.inl rfl) ų) ?_;refine yg (yu (i:=6) zi.nd rfl (Or.inl rfl) ų) ?_;refine yg (uh PassesOwn.never rfl (xl rfl T.As (pa1 (pcB (ē rfl) T.Ji (pac yh (pa1 (pcB (Ę rfl) T.Jj (pac yh (pa1 (yp zh (pcB yr T.Ad (pa1 (pv 0))) yh))))))))) (we (i:=7) zi.nd rfl (Or.inl rfl)) (yf (yu (i:=8) zi.nd rfl (Or.inl rfl) (yp Ö (pcT (zw rfl) T.Ae (pa1 (pv 5))) (wx (pa1 jy)))) (yf (ju (u7 c) (pv 6) (xf wk (pv 1) (pv 7) (λ_ _=>rfl)) (xf wk (pv 8) (yp xi (yp vx (xx (jc T) c.m T.Bi (pac (pv 0) (pa1 (yp vw yh (pv 7))))) yh) (pcB yr T.Ad (pa1 (pv 8)))) (λ_ _=>rfl)) rfl) (yf (ju (u7 c) (pv 5) (xf wk (pv 1) (pv 7) (λ_ _=>rfl)) (xx (yit T) c.m T.F8 (pac (xx (jc T) c.m T.Bi (pac (xp je (pv 0) (xv yh) uo) (pa1 (yp vw yh (pv 7))))) (pa1 (pv 3)))) rfl) (yc (yt (yv (pv 4) T.A1 T.Jc (ybk T) c.m T.Jb .nil y9 (pac (xf wk (pv 1) (pv 7) (λ_ _=>rfl)) (pac (pcT vj T.Ae (pa1 (uq (u7 c) (pv 5) (xf wk (pv 1) (pv 7) (λ_ _=>rfl)) (λ_ _=>rfl)))) (pa1 (uq (u7 c) (pv 6) (xf wk (pv 1) (pv 7) (λ_ _=>rfl)) (λ_ _=>rfl)))))))))))) ?_;refine yg (yu (i:=9) zi.nd rfl (Or.inl rfl) (xx (ĥ T) c.m T.Cz (pa1 (pv 4)))) ?_;refine yg (yu (i:=10) zi.nd rfl (Or.inl rfl) (pcT vj T.Ae (pa1 (pv 9)))) ?_;refine yg (yu (i:=11) zi.nd rfl (Or.inl rfl) (xx (ysj T) c.m T.He (pa1 (pv 10)))) ?_;refine yg (wd (y6 (uk c.units) (pv 10) (pv 9) (vd _)) (yc (yo ú)) ve) ?_;refine yg (yt (yei PySem.F.plainAttrs_list PySem.F.slot_list_clear PySem.F.type_list_clear yml (pv 10))) ?_;refine yg (wd (PW.pt (j4 (x9 (ug (pcB wt T.Ab (pac (pv 11) (pa1 (å rfl T.E4)))))) (j4 (x9 (ug (xx (ysm T) c.m T.Hg (pac (pv 4) (pac (pv 11) (pa1 (pv 5))))))) (jo (y6 (uk c.units) (xx (ĥ T) c.m T.Cz (pa1 (pv 11))) (pv 9) (vd _)))))) (yc (yo ú)) ve) ?_;refine yg (yu (i:=12) zi.nd rfl (Or.inl rfl) (xx (yit T) c.m T.F8 (pac (yp vx (xx (jc T) c.m T.Bi (pac (pv 0) (pa1 yh))) yh) (pa1 (pv 3))))) ?_;refine yg (wd (y6 ywg (yv (pv 4) T.A1 T.Ev.m (yog T) c.m T.Ev.B .nil y9 (pa1 (pcT vj T.Ae (pa1 (pv 12))))) (yv (pv 11) T.A1 T.Ev.m (yog T) c.m T.Ev.B .nil y9 (pa1 (pcT vj T.Ae (pa1 (pv 12))))) (vd _)) (yc (yo ú)) ve) ?_;refine yg (yu (i:=13) zi.nd rfl (Or.inl rfl) (xf wk (yp Ö (pcT (zw rfl) T.Ae (pa1 (pv 5))) (wx (pa1 jy))) (yp xi (xx (jc T) c.m T.Bi (pac (pv 0) (pa1 yh))) (yp vw (pcB ya0 T.Ad (pa1 (pv 5))) yh)) (λ_ _=>rfl))) ?_;refine yg (yt (yv (pv 11) T.A1 T.Jc (ybk T) c.m T.Jb .nil y9 (pac (xf wk (pv 1) yh (λ_ _=>rfl)) (pac (pcT vj T.Ae (pa1 (pv 12))) (pa1 (pv 13)))))) ?_;refine yg (wd (PW.pt (j4 (y6 ya6 (xf wk (pv 1) yh (λ_ _=>rfl)) (yz (pv 4) T.A1 T.Ap.m (Ó T) c.m T.Ap.B .nil vh) (by with_unfolding_all rfl)) (j4 (y6 (uk c.units) (yv (pv 11) T.A1 T.D9.m (yk0 T) c.m T.D9.B .nil y9 (pa1 (xf wk (pv 1) yh (λ_ _=>rfl)))) (pv 12) (vd _)) (jo (y6 (uk c.units) (xx (ĥ T) c.m T.Cz (pa1 (pv 4))) (pv 9) (vd _)))))) (yc (yo ú)) ve) ?_;refine yg (yt (yv (pv 4) T.A1 T.Jc (ybk T) c.m T.Jb .nil y9 (pac (xf wk (pv 1) yh (λ_ _=>rfl)) (pac (pcT vj T.Ae (pa1 (pv 12))) (pa1 (pv 13)))))) ?_;refine yg (wd (PW.pt (j4 (y6 (uk c.units) (yv (pv 4) T.A1 T.Be.m (Ġ T) c.m T.Be.B .nil y9 (pa1 (xf wk (pv 1) yh (λ_ _=>rfl)))) (yv (pv 11) T.A1 T.Be.m (Ġ T) c.m T.Be.B .nil y9 (pa1 (xf wk (pv 1) yh (λ_ _=>rfl)))) (vd _)) (jo (y6 (uk c.units) (xx (ĥ T) c.m T.Cz (pa1 (pv 4))) (xx (ĥ T) c.m T.Cz (pa1 (pv 11))) (vd _))))) (yc (yo ú)) ve) ?_;refine yg (ju (u7 c) (pv 5) (xf wk (pv 1) yh (λ_ _=>rfl)) (pv 12) rfl) ?_
 refine yg (ju (u7 c) (pv 6) (xf wk (pv 1) yh (λ_ _=>rfl)) (pv 13) rfl) ?_;exists 1,13,yc (yo (xx (yrx T) c.m T.Hh (pac (pv 11) (pac (xz T.Hi (yjz T) c.m rfl T.E4 T.Qj .nil y9 (pac (xx (yiu T) c.m T.F7 (pa1 (pv 0))) (pa1 (pv 2)))) (pac (pv 5) (pa1 (pv 6)))))));exists l,v,4,rfl,hS,∅,λc4 _ bM bw=>?_
 ext;exists c4,rfl,bM,bw,λnl g H1 bi aw S1 ce ap as=>?_;have ak:=S1.seq hS;clear hS;ext;exists l,v,5,rfl,ak,∅,λc5 _ bZ bY=>?_
 obtain⟨mo,bF,ab,aW⟩:∃mo:Nat,12+c5%989=(mo:Int)/\12<=mo/\mo<=1000:=⟨(12+c5%989).toNat,(),(),()⟩;ext;rw[bF];exists l,v,5,rfl,ak,∅,λc6 _ bS bR=>?_
 ext;refine .inr ⟨_,rfl,?_⟩
 obtain⟨mr,bE,bc⟩:∃mr:Nat,(9*if decide (c6/989%8=0)=true then 1 else 0:Int)=(mr:Int)/\mr<=9:=by
  by_cases z:c6/989%8=0
  .exact⟨9,by rw[cz z];rfl,∅⟩
  .exact⟨0,by rw[cH z];rfl,∅⟩
 ext;rw[bE];exists l,v,rfl,ak,λlo lk tp H2 aT a5 bs S2=>?_;have ai:=S2.seq ak;have aE:=S2 _ _ aw;ext;intro st ds aF ay bz;refine Sto.new (mo:=mo) (w:=12) aF ay a5 (yk7 v).1 (yk7 v).2 bs aW ab ∅ λX H3 a1 S3 aP _=>⟨rfl,?_⟩;have am:Bs H2 H3 X:=⟨S3,aP⟩;clear aF ay bz aP S3 aT a5 bi aw ak S1 S2;ext;intro td htd0;exists htd0,H4,S4,htd4;ext;intro W hbd0;exists hbd0,H5,S5,hbd5;have h5:D1 K a H2 H5 td (mdK (λ_=>0) []) W (bsK []) st ⟨lkZ v,kdZ v,psZ v,mo,12⟩ [] X:=⟨a1.same (S4.trans S5),am.same (S4.trans S5),S5 _ _ htd4,hbd5,(λz=>by rw[z,hbd0]at htd4;cases htd4),(Kf.new a1 htd0 htd4).2,(Kf.new (a1.same S4) hbd0 hbd5).2,am.s.free htd0,(am.same S4).s.free hbd0⟩;clear a1 am S4 S5 htd4 hbd5 htd0 hbd0;ext;refine ut (h5.b.s.seq ai) ?_;rw[bI];ext;exists _,_,rfl,?_;ext;exists _,_,rfl,?_;ext
 obtain⟨m,hm,c1⟩:∃m:Nat,(if (if ((v.length:Nat):Int)-6 > 0 then ((v.length:Nat):Int)-6 else 0)<5 then (if ((v.length:Nat):Int)-6 > 0 then ((v.length:Nat):Int)-6 else 0)else 5)=(m:Int)/\m<=5:=by
  generalize ((v.length:Nat):Int)-6=y;refine⟨(if (if y > 0 then y else 0)<5 then (if y > 0 then y else 0)else 5).toNat,?_,?_⟩<;>(split<;>split<;>omega)
 rw[hm]
 exists _,rfl,(),(),jt (n:=m) (λi σ2 G=>∃(B:Hp)(P:qi Pd)(X:Sx)(tx:Str->z4)(v7 v8:Ψ),σ2=[some (.ref l),some (.ref nl),some (.int (mo:Nat)),some (.int (mr:Nat)),some (.ref st),some (.ref td),some (.ref W),v7,v8,none,none,none,none,none]/\D1 K a B G td (mdK tx P) W (bsK P) st ⟨lkZ v,kdZ v,psZ v,mo,12⟩ P X/\yw H2 B/\TxB B P tx/\P.map (·.nm)=g.take i/\Stk P) ⟨H2,[],X,λ_=>0,_,_,rfl,h5,yw.refl _,(λq M=>nomatch M),rfl,λi r b e=>nomatch e⟩ ?_ ?_
 .rintro i σ2 G hi ⟨B,P,X,tx,v7,v8,rfl,h,SB,ad,U,hk⟩
  have bq:P.length=i:=by
   have e:=congrArg List.length U;rw[bI,cK]at e;omega
  have a9:i<g.length:=()
  have aS:=SB.seq ai;have ar:=SB _ _ aE;have aq:=cU a9
  have I:∀q,q∈P->q.nm≠g[i]:=λq M e=>by
   have hm:q.nm∈P.map (·.nm):=cn.mpr ⟨q,M,rfl⟩;rw[U,e]at hm;let⟨j,hj,ej⟩:=List.mem_iff_getElem.mp hm;rw[cK]at hj;rw[List.getElem_take]at ej;exact List.pairwise_iff_getElem.mp ap j i () a9 () ej
  ext;exists td,_,rfl,h.t,λkl hkl0=>?_;rw[ü];exists hkl0,G1,T1,hkl1;ext;exists by walk_at "len",λu hu0=>?_
  exists hu0,G2,T2,hu2;ext;exists kl,u,_,_,rfl,rfl,T2 _ _ hkl1,hu2,xu (by rw[bI,bI];show _+1<=_;omega),λth hth0=>?_;exists hth0,G3,T3,hth3;have bf:=T1.trans (T2.trans T3);have h3:=h.same bf;clear hkl0 hkl1 hu0 hu2 hth0 T1 T2 T3 bf h h5;ext;exists l,v,6+i,by rw[show ((6+i:Nat):Int)=6+(0+(i:Int)) by omega];rfl,h3.b.s.seq aS,(),λe _ e0 e1=>?_
  ext;exists th,_,rfl,.inl (SqL.of hth3),?_;rw[cj,bI,bI,bq,show ([V.non]:Υ).length=1 from rfl];ext
  obtain⟨j,hj,ao⟩:∃j:Nat,e/8%((i+1:Nat):Int)=(j:Int)/\j<P.length+1:=by
   have h0:=dN (e/8) (show ((i+1:Nat):Int)≠0 by omega);have h1:=dH (e/8) (show 0<((i+1:Nat):Int) by omega);exists(e/8%((i+1:Nat):Int)).toNat,(),()
  rw[hj];let⟨x,hx,aJ,L,hL⟩:=yay ao;refine Û (SqL.of hth3) (w9 hx) ?_
  have p:∀{F:Hp}{kt kb:Κ}{Q2:VK},D1 K a B F td kt W kb st ⟨lkZ v,kdZ v,psZ v,mo,12⟩ P X->Q2 (.str g[i]) F->vds K (.ref nl) (.int (0+(i:Int))) F Q2:=λ{F kt kb Q2}hF q=>by
   rw[Int.zero_add];exact Û (SqL.of (hF.b.s _ _ ar)) (w9 (by rw[cu,ci a9];rfl)) q
  ext;refine p h3 ?_;exists W,_,rfl,ydc.k (k:=.inr g[i]) h3.d (vi (by unfold bsK;rw[bI];omega)),?_;have h4:=h3.upD (ö (bsK P) (.inr g[i]) (baV x));generalize upd G3 W (.dK (ö (bsK P) (.inr g[i]) (baV x)))=G4 at h4⊢;clear h3 hth3;ext;exists l,_,rfl,h4.b.s.seq aS,λcs hcs0=>?_;rw[show (some (1:Int))=some ((1:Nat):Int)from rfl,ydr,<- List.map_drop];exists hcs0,G5,T5,hcs5;ext;exists cs,v.drop 1,6+i,by rw[show ((6+i:Nat):Int)=6+(0+(i:Int)) by omega];rfl,SqL.of hcs5,(),λf _ f0 f1=>?_
  ext;exists f,mr,rfl,f0,f1,bc,λt D G6 an b4 aa b9 T6=>?_;have h6:=(h4.same T5).same T6;have ac:=(h4.same T5).new an;clear h4 hcs5 hcs0 T5 T6 an;ext;refine p h6 ?_;exists td,_,rfl,ydc.k (k:=.inr g[i]) h6.t (vi (by unfold mdK;rw[bI];omega)),?_;rw[yjk (q:=⟨g[i],x,L,D⟩) I];have h7:=h6.upT (mdK (upS tx g[i] t) (P++[⟨g[i],x,L,D⟩]));have aH:upd G6 td (.dK (mdK (upS tx g[i] t) (P++[⟨g[i],x,L,D⟩]))) t=some (.lst (D.map V.int)):=ye ac.2.1 b4;have a6:=yji (q:=⟨g[i],x,L,D⟩) I;have a6:ö (bsK P) (.inr g[i]) (baV x)=bsK (P++[⟨g[i],x,L,D⟩]):=a6;rw[a6]at h7;generalize upd G6 td (.dK (mdK (upS tx g[i] t) (P++[⟨g[i],x,L,D⟩])))=G7 at h7 aH⊢;clear h6 b4;let⟨B7,h7,S,ah⟩:=h7.bas;have be:=ah _ _ aH ac.1 ac.2.1 ac.2.2;have bm:=S _ _ ar
  have aj:TxB B7 (P++[⟨g[i],x,L,D⟩]) (upS tx g[i] t):=λq M=>by
   rcases cQ.mp M with z|z
   .rw[yke (I q z)];exact S _ _ (ad q z)
   .rw[cJ.mp z,yeo];exact be
  have bn:(⟨g[i],x,L,D⟩:Pd)∈P++[⟨g[i],x,L,D⟩]:=cN _ cT
  have bt:((P++[(⟨g[i],x,L,D⟩:Pd)]).map (·.nm)).Nodup:=by
   rw[cA,U];show (g.take i++[g[i]]).Nodup;rw[<- cM a9];exact ap.sublist (List.take_sublist _ _)
  clear ah ac aH p ad
  have p:∀{F:Hp}{kt kb:Κ}{P2:qi Pd}{X2:Sx}{Q2:VK},D1 K a B7 F td kt W kb st ⟨lkZ v,kdZ v,psZ v,mo,12⟩ P2 X2->Q2 (.str g[i]) F->vds K (.ref nl) (.int (0+(i:Int))) F Q2:=λ{F kt kb P2 X2 Q2}hF q=>by
   rw[Int.zero_add];exact Û (SqL.of (hF.b.s _ _ bm)) (w9 (by rw[cu,ci a9];rfl)) q
  let⟨ds,vl,vm,vp,vc,J⟩:=h7.s.ins;ext;refine p h7 ?_;ext;refine p h7 ?_;exists td,.ref t,rfl,by have e:=ybp (.inl h7.t) bn;rw[show upS tx g[i] t (⟨g[i],x,L,D⟩:Pd).nm=t from yeo]at e;exact e,?_
  ext;exists t,_,rfl,.inl (SqL.of (h7.b.s _ _ be)),λy hy0=>?_;exists hy0,G8,T8,hy8;have h8:=h7.same T8;ext;refine p h8 ?_;exists W,baV x,rfl,by rw[<- yej bt bn];exact DkF.get (.inl h8.d) g[i],?_
  ext;refine h8.s.put (as _ aq).1 ⟨hy8,aa,b9⟩ hL I () λY G9 au g9=>?_;ext;exists B7,_,Y,_,_,_,rfl,h8.go au g9,SB.trans S,aj,?_,hk.snoc aJ;rw[cA,U,cM a9];rfl
 rintro σ2 G ⟨B,P,X,tx,v7,v8,rfl,h,SB,ad,U,hk⟩;have hbd0:H2 W=none:=SB.free h.bb
 have bq:P.length<=5:=by
  have e:=congrArg List.length U;rw[bI,cK]at e;omega
 have aD:∀q,q∈P->q.nm∈g:=λq M=>by
  have hm:q.nm∈P.map (·.nm):=cn.mpr ⟨q,M,rfl⟩;rw[U]at hm;exact dz hm
 obtain⟨C,hC⟩:∃C:Cf,C=⟨lkZ v,kdZ v,psZ v,mo,12⟩:=⟨_,rfl⟩;rw[<- hC]at h;have c9:C.w=12:=by rw[hC]
 have c0:12<=C.mo:=by rw[hC];exact ab
 have bB:xn H2 C.n lk C.kd tp C.ps:=by rw[hC];exact bs
 ext;exists st,C,P,X,rfl,h.s,λdt G1 aA a2 T1=>?_;have h1:=h.same T1;have aG:=h.new aA;have hb:=h1.s.byt (bB.same (SB.trans h1.b.s)) () (λq M=>(as _ (aD q M)).2);have aQ:=h1.s.shok hk;clear h aA T1;ext;exists dt,_,rfl,.inl (SqL.of a2),λhd hhd0=>?_;exists hhd0,G2,T2,hhd2;ext;exists hd,C,P,rfl,hhd2,hb.1,hb.2,aQ,λae X2 G3 a1 T3 n3=>?_;have a0:=T3 _ _ hhd2;ext;refine í _ _ (SqL.of a0) (SqL.of (T3 _ _ (T2 _ _ a2))) ?_;rw[cz rfl];exists _,rfl,jq ?_;ext;refine jh a0 ?_;exists hd,_,rfl,rfl,a0,?_;have S4:yw G1 (upd G3 hd (.lst [])):=λb o e=>ye (yb e hhd0) (T3 _ _ (T2 _ _ e));let⟨B4,h4,av,aO,aR⟩:=h1.two S4 (a1.butI a0 (λx hx=>by have:=hb.1 x hx;omega) (λw=>by rw[n3 hd w]at hhd2;cases hhd2) But.upd) (λy w=>T2.free (n3 y w));have a4:=aR _ _ a2 aG.1 aG.2.1;have af:TxB B4 P tx:=λq M=>aO _ _ (ad q M);have ag:=SB.trans aO;generalize upd G3 hd (.lst [])=G4 at h4⊢;clear S4 aR a1 n3 a0 T3 hhd2 T2 hhd0 aG a2 h1 ad aO SB aQ;let⟨ds,vl,vm,vp,vc,O⟩:=h4.o.ins;ext;refine vd4 (ymh T O) T.Bj ?_;ext;exists st,ae,td,C,P,X,X2,B4,tx,rfl,h4,af,(),λY Y2 G5 h5=>?_
 clear h4 O;ext;exists ae,C,P,Y2,rfl,h5.o,λl6 G6 ba aX T6=>?_;have h6:=h5.same T6;ext;refine í _ _ (SqL.of aX) (SqL.of (h6.b.s _ _ a4)) ?_;rw[cz rfl];exists _,rfl,jq ?_;clear h5 ba aX T6;ext;exists l,v,5,rfl,(ag.trans h6.b.s).seq ai,∅,λc7 _ bT ca=>?_
 ext;exists c7/8000,mr,rfl,(),(),bc,λla D G7 aB ax aa b9 T7=>?_
 let⟨B7,h7,S,ah⟩:=(h6.same T7).bas;have R:=ah _ _ ax (h6.new aB);have a4:=S _ _ a4;have a3:=S _ _ av;have aj:TxB B7 P tx:=λq M=>S _ _ (af q M);have aK:=ag.trans S;have ar:=aK _ _ aE;clear ah ax aB T7 h6 af S ag av;let⟨ds,vl,vm,vp,vc,J⟩:=h7.s.ins;ext;exists la,_,rfl,.inl (SqL.of (h7.b.s _ _ R)),λy hy0=>?_;exists hy0,G8,T8,hy8;have h8:=h7.same T8;ext;exists st,C,P,Y,y,D,rfl,h8.s,⟨hy8,aa,()⟩,(λz=>absurd z ()),λ_ Z G9 au g9=>?_;have h9:=h8.go au g9;clear h7 h8 au g9 hy8 hy0 T8 J;let⟨bQ,bP,cf,c3,bV,bg⟩:=h9.o.ins;ext;exists la,_,rfl,.inl (SqL.of (h9.b.s _ _ R)),λz hz0=>?_;exists hz0,GA,TA,hzA;have hA:=h9.same TA;ext;exists ae,C,P,Y2,z,D,rfl,hA.o,⟨hzA,aa,()⟩,(λz=>absurd z ()),λ_ Z2 GB bl gB=>?_;have hB:=(hA.swap.go bl gB).swap;clear h9 hA bl gB hzA hz0 TA bg;exists ydy _ _,?_;rw[cz rfl];exists _,rfl,jq ?_;ext;exists td,_,rfl,hB.t,λkl hkl0=>?_;rw[ü];exists hkl0,GC,TC,hklC;ext;exists by walk_at "len",λu hu0=>?_
 exists hu0,GD,TD,huD;ext;exists kl,u,_,_,rfl,rfl,TD _ _ hklC,huD,xu (by rw[bI,bI];show _+1<=_;omega),λth hth0=>?_;exists hth0,GE,TE,hthE;have hE:=hB.same (TC.trans (TD.trans TE));clear hB hkl0 hklC hu0 huD hth0 TC TD TE;ext;exists l,v,11,rfl,(aK.trans hE.b.s).seq ai,∅,λc8 _ c2 bX=>?_
 ext;exists td,_,rfl,hE.t,?_;rw[show (mdK tx P).length=P.length from bI _];ext
 obtain⟨j,hj,ao⟩:∃j:Nat,c8%(((P.length:Nat):Int)+1)=(j:Int)/\j<P.length+1:=by
  have h0:=dN c8 (show ((P.length:Nat):Int)+1≠0 by omega);have h1:=dH c8 (show 0<((P.length:Nat):Int)+1 by omega);exists(c8%(((P.length:Nat):Int)+1)).toNat,(),()
 rw[hj];let⟨x,hx,aJ,L,hL⟩:=yay ao;refine Û (SqL.of hthE) (w9 hx) ?_;clear hthE hj hx ao;have aI:5<g.length:=()
 have aq:=cU aI
 have I:∀q,q∈P->q.nm≠g[5]:=λq M e=>by
  have hm:q.nm∈P.map (·.nm):=cn.mpr ⟨q,M,rfl⟩;rw[U,e]at hm;let⟨j,hj,ej⟩:=List.mem_iff_getElem.mp hm;rw[cK]at hj;rw[List.getElem_take]at ej;exact List.pairwise_iff_getElem.mp ap j 5 () aI () ej
 have N:=(as _ aq).1;have b3:(g.map V.str)[5]?=some (.str g[5]):=by rw[cu,ci aI];rfl
 generalize g[5]=b at I N b3;have p:∀{F:Hp}{Q2:VK},yw B7 F->Q2 (.str b) F->vds K (.ref nl) (.int 5) F Q2:=λ{F Q2}hF q=>Û (SqL.of (hF _ _ ar)) (w9 (j:=5) b3) q;clear aq ap aD U as;have a8:(⟨b,x,L,D⟩:Pd)∈P++[⟨b,x,L,D⟩]:=cN _ cT;let⟨ds,vl,vm,vp,vc,J⟩:=hE.o.ins;ext;refine p hE.b.s ?_;ext;exists la,_,rfl,.inl (SqL.of (hE.b.s _ _ R)),λy hy0=>?_;exists hy0,GF,TF,hyF;have hF:=hE.same TF;ext;refine hF.o.put N ⟨hyF,aa,()⟩ hL I () λZ3 GG bo gG=>?_;have hG:=(hF.swap.go bo gG).swap;clear hE hF bo gG hyF hy0 TF J;let⟨ds,vl,vm,vp,vc,J⟩:=hG.s.ins;ext;refine p hG.b.s ?_;ext;refine hG.s.names λnm GH bh al TH=>?_;have hH:=hG.same TH;rw[yka]at al;exists nm,_,rfl,.inl (SqL.of al),rfl,yhr _,?_
 rw[yl0,cH (show b∉P.map (·.nm)from λz=>by
  let⟨q,M,e⟩:=cn.mp z;exact I q M e)]
 exists _,rfl,jq ?_;let⟨bJ,bA,bL,bC,bK,O⟩:=hH.o.ins;ext;refine p hH.b.s ?_;ext;refine hH.o.textof N.1 (λno=>absurd rfl (no _ a8)) λr c e Z4 t GI b5 gI an ht=>?_;obtain rfl:=x8 hH.o.nd c a8 e;have hI:=(hH.swap.go b5 gI).swap;ext;refine í _ _ (SqL.of ht.1) (SqL.of (hI.b.s _ _ R)) ?_;rw[cz rfl];exists _,rfl,jq ?_;clear hG hH b5 gI ht an bh al TH J O e c;ext;exists st,C,P,Z,rfl,hI.s,λl7 GJ b6 br TJ=>?_;have hJ:=hI.same TJ;ext;refine í _ _ (SqL.of br) (SqL.of (hJ.b.s _ _ a4)) ?_;rw[cz rfl];exists _,rfl,jq ?_;clear hI b6 br TJ;let⟨ds,vl,vm,vp,vc,J⟩:=hJ.s.ins;ext;refine p hJ.b.s ?_;ext;exists la,_,rfl,.inl (SqL.of (hJ.b.s _ _ R)),λy hy0=>?_;exists hy0,GK,TK,hyK;have hK:=hJ.same TK;ext;refine hK.s.put N ⟨hyK,aa,()⟩ hL I () λZ5 GL bj gL=>?_;have a7:=hK.go bj gL;clear hJ hK bj gL hyK hy0 TK J;let⟨ds,vl,vm,vp,vc,J⟩:=a7.s.ins;ext;refine p a7.b.s ?_;ext;refine a7.s.bytesof N.1 (λno=>absurd rfl (no _ a8)) λr c e l8 GM bk aZ TM=>?_;obtain rfl:=x8 a7.s.nd c a8 e;have hM:=a7.same TM;let⟨bJ,bA,bL,bC,bK,O⟩:=hM.o.ins;ext;refine p hM.b.s ?_;ext;refine hM.o.bytesof N.1 (λno=>absurd rfl (no _ a8)) λr c e l9 GN bp bu TN=>?_;obtain rfl:=x8 hM.o.nd c a8 e;refine í _ _ (SqL.of (TN _ _ aZ)) (SqL.of bu) ?_;rw[cz rfl];exists _,rfl,jq ?_;have hN:=hM.same TN;clear a7 hM TM TN bk aZ bp bu J O;ext;exists st,C,_,Z5,rfl,hN.s,λm1 GO b2 aU TO=>?_;have hO:=hN.same TO;ext;exists ae,C,_,Z4,rfl,hO.o,λm2 GP b7 b1 TP=>?_;have hP:=hO.same TP;refine í _ _ (SqL.of (TP _ _ aU)) (SqL.of b1) ?_;rw[cz rfl];exists _,rfl,jq ?_;clear hN hO TO TP b2 aU b7 b1;ext;refine p hP.b.s ?_;exists td,_,rfl,ydc.k (k:=.inr b) hP.t (vi (by unfold mdK;rw[bI];omega)),?_;rw[yjk (q:=⟨b,x,L,D⟩) I];have hR:=hP.up (ou:=.dK (mdK (upS tx b la) (P++[⟨b,x,L,D⟩]))) rfl;generalize upd GP td (.dK (mdK (upS tx b la) (P++[⟨b,x,L,D⟩])))=GR at hR⊢;clear hP;ext;refine p hR.b.s ?_;exists W,_,rfl,ydc.k (k:=.inr b) (hR.b.s _ _ a3) (vi (by unfold bsK;rw[bI];omega)),?_;have a6:ö (bsK P) (.inr b) (baV x)=bsK (P++[⟨b,x,L,D⟩]):=yji (q:=⟨b,x,L,D⟩) I;rw[a6];have hS:=hR.chg (o':=.dK (bsK (P++[⟨b,x,L,D⟩]))) a3 rfl;have az:upd B7 W (.dK (bsK (P++[⟨b,x,L,D⟩]))) W=some (.dK (bsK (P++[⟨b,x,L,D⟩]))):=ya;have aM:∀{y:z4}{xs:Υ},B7 y=some (.lst xs)->upd B7 W (.dK (bsK (P++[⟨b,x,L,D⟩]))) y=some (.lst xs):=λ{y xs}e=>ye (λz=>by rw[z,a3]at e;cases e) e;have b0:yw H2 (upd B7 W (.dK (bsK (P++[⟨b,x,L,D⟩])))):=λy o e=>ye (yb e hbd0) (aK _ _ e);have aV:=(b0.trans hS.b.s).seq ai;generalize upd GR W (.dK (bsK (P++[⟨b,x,L,D⟩])))=GS at hS aV⊢
 have aC:TxB (upd B7 W (.dK (bsK (P++[⟨b,x,L,D⟩])))) (P++[⟨b,x,L,D⟩]) (upS tx b la):=λq M=>by
  rcases cQ.mp M with z|z
  .rw[yke (I q z)];exact aM (aj q z)
  .rw[cJ.mp z,yeo];exact aM R
 clear b0;generalize upd B7 W (.dK (bsK (P++[⟨b,x,L,D⟩])))=B8 at hS az aC
 have bG:∀q,q∈P++[(⟨b,x,L,D⟩:Pd)]->q.tx.length<=12:=λq M=>by
  have:=(hS.s.sz q M).2.1;omega
 clear hR a3 aM a6;ext;exists l,v,rfl,aV,λbU cc bW GT bv a5 bD TT=>?_;ext;intro bx cb aN aL bO;refine Sto.new (mo:=mo) (w:=12) aN aL a5 (yk7 v).1 (yk7 v).2 bD aW ab ∅ λX3 GU aY TU bH _=>⟨rfl,?_⟩;rw[<- hC]at aY;ext;exists ae,bx,td,W,C,_,Z4,X3,B8,_,rfl,hS.third (TT.trans TU) aY λy w=>TT.free (bH y w),aC,az,hk.snoc aJ,by rw[cj,dm];omega,bG,(),k
end
variable{C C2:Cf}{P P2:qi Pd}{X X2 Y:Sx}
def all_mk{l:W.OpenLaw}{w:qd}{K:z3}{h:qf}{mg:Ε}(X:K.In h)(G:h.Ns mainGlobals mg)(hfa:mg "law"=some (.ref fa))
  (Sa:GV K "Even" (.ref A9))
  (Qy:GV K "Quick" (.ref A8))
  (Sq:GV K "Run" (.ref Af))
  (Sb:GV K "Book" (.ref Ac))
  (Tj:GV K "Mixer" (.ref Bq))
  (Tk:GV K "Foreteller" (.ref A4))
  (Sc:GV K "Span" (.ref A5))
  (Tl:GV K "Seeker" (.ref Ah))
  (Qz:GV K "Chain" (.ref A2))
  (R0:GV K "Piece" (.ref Aa))
  (R1:GV K "Store" (.ref A0))
  (Qa:GV K "Reader" (.ref A3))
  (Tm:GV K "NoText" (.ref Ib))
  (Tn:GV K "NoBytes" (.ref Gn))
  (Qb:GV K "NoMost" (.ref At))
  (Tp:GV K "NoChance" (.ref E6))
  (Tq:GV K "NoBit" (.ref Cc))
  (Tr:GV K "NoLooks" (.ref Fk))
  (Ts:GV K "NoPress" (.ref Dz))
  (Qc:GV K "NoName" (.ref Ag))
  (Jt:GV K "TooLong" (.ref Al))
  (R3:GV K "Taken" (.ref Au))
  (Se:GV K "Full" (.ref Ci))
  (Ju:GV K "NoPiece" (.ref A6))
  (R4:GV K "InUse" (.ref Bk))
  (Jv:GV K "NoShelf" (.ref Dm))
  (If:Dgf K mg "is_whole" vfv R9 Rj)
  (Rs:Dgf K mg "is_bit" vfy Ra Rk)
  (Rt:Dgf K mg "is_chance" vfq Rb Rl)
  (Ru:Dgf K mg "is_sign" vfs Rc Rm)
  (Q4:Dgf K mg "is_list_of_signs" vfw Re Rn)
  (Q5:Dgf K mg "checked_text" vft Rf Ro)
  (Rv:Dgf K mg "checked_bytes" vf4 Rg Rp)
  (Rw:Dgf K mg "check_most" vfr Rh Rq)
  (Q6:Dgf K mg "check_chance" vfm Ri Rr)
  (Cw:Dgf K mg "check_bit" yvg K1 Mh)
  (Pf:Dgf K mg "gives" yvu K2 Mi)
  (E7:Dgm K A9 "__init__" "Even.__init__" yvm Hz Mj)
  (Ig:Dgm K A9 "chance" "Even.chance" yuq K3 Ml)
  (Ih:Dgm K A9 "seen" "Even.seen" ywc K4 Mm)
  (Ii:Dgm K A9 "twin" "Even.twin" yuc K5 Mn)
  (E8:Dgm K A8 "__init__" "Quick.__init__" ywa I0 Mo)
  (Ij:Dgm K A8 "chance" "Quick.chance" yuj K6 Mq)
  (Ik:Dgm K A8 "seen" "Quick.seen" yu6 K7 Mr)
  (Il:Dgm K A8 "twin" "Quick.twin" yv1 K8 Ms)
  (E9:Dgm K Af "__init__" "Run.__init__" yuz I1 Mt)
  (Im:Dgm K Af "chance" "Run.chance" ywn K9 Mu)
  (Io:Dgm K Af "seen" "Run.seen" yvp Ka Mv)
  (Ip:Dgm K Af "twin" "Run.twin" yuo Kb Mw)
  (Pg:Dgf K mg "slot_of" yu8 Kc Mx)
  (Iq:Dgf K mg "written" yu2 Kd My)
  (Ir:Dgf K mg "first_block" yv4 Ke Mz)
  (Ea:Dgm K A5 "__init__" "Span.__init__" yui I2 N0)
  (Eb:Dgm K A5 "cut" "Span.cut" ywh Kg N2)
  (Ec:Dgm K A5 "narrow" "Span.narrow" yu9 Kh N3)
  (Is:Dgm K A5 "holds_block" "Span.holds_block" yuk Ki N4)
  (Ed:Dgm K A5 "told" "Span.told" yvz Kj N5)
  (Ph:Dgf K mg "is_kind" ywx Kk N6)
  (Pi:Dgf K mg "is_place" ywm Kl N7)
  (Pj:Dgf K mg "are_places" yue Km N8)
  (Iu:Dgf K mg "is_look" yum Kn N9)
  (Iv:Dgf K mg "checked_looks" yuv Ko Na)
  (Pk:Dgf K mg "sign_back" yvo Kp Nd)
  (Pl:Dgf K mg "context_of" yws Kq Nf)
  (Ee:Dgm K Ac "__init__" "Book.__init__" yvr I3 Ng)
  (Iw:Dgm K Ac "slot_at" "Book.slot_at" yut Kr Nh)
  (Ix:Dgm K Ac "twin" "Book.twin" yud Ks Ni)
  (Ef:Dgm K Bq "__init__" "Mixer.__init__" yv0 I4 Nj)
  (Iy:Dgm K Bq "mixed" "Mixer.mixed" yuh Kt Nk)
  (Iz:Dgm K Bq "learn" "Mixer.learn" yvq Ku Nl)
  (J0:Dgm K Bq "twin" "Mixer.twin" ywd Kv Nm)
  (Eg:Dgm K A4 "__init__" "Foreteller.__init__" yu3 I5 Nn)
  (D5:Dgm K A4 "arrive" "Foreteller.arrive" yvf Kw No)
  (Eh:Dgm K A4 "chances" "Foreteller.chances" yw3 Kx Np)
  (Ei:Dgm K A4 "chance" "Foreteller.chance" yur Ky Nq)
  (Ej:Dgm K A4 "see" "Foreteller.see" ywk Kz Nr)
  (J1:Dgm K A4 "step" "Foreteller.step" yux L1 Nt)
  (J2:Dgm K A4 "step_in_sign" "Foreteller.step_in_sign" yul L6 Nu)
  (J3:Dgm K A4 "fork" "Foreteller.fork" yuu L7 Nv)
  (Pm:Dgf K mg "bits_of" yv9 L8 Nw)
  (Pn:Dgf K mg "decisions_of" ywt L9 Ny)
  (Fu:Dgm K Ah "__init__" "Seeker.__init__" yv8 I6 Nz)
  (Ek:Dgm K Ah "follow" "Seeker.follow" yv2 La O0)
  (J4:Dgm K Ah "byte_at" "Seeker.byte_at" yt9 Lb O4)
  (J5:Dgm K Ah "bit" "Seeker.bit" yt7 Lc O5)
  (J6:Dgm K Ah "told" "Seeker.told" yva Ld O6)
  (J7:Dgf K mg "press_by" yvd Le O7)
  (J8:Dgf K mg "bit_by" yu5 Lf O8)
  (Po:Dgf K mg "sign_by" yvj Lg O9)
  (Pp:Dgf K mg "text_by" yv3 Lh Oa)
  (J9:Dgf K mg "read_by" yug Li Ob)
  (Cy:Dgm K A2 "__init__" "Chain.__init__" yve I7 Oc)
  (D6:Dgm K A2 "grow" "Chain.grow" ywq Lj Od)
  (Ja:Dgm K A2 "press" "Chain.press" yua Lk Oe)
  (El:Dgm K A2 "read" "Chain.read" yun I8 Ic)
  (Em:Dgm K A2 "size_with" "Chain.size_with" yvb Ll Of)
  (Pq:Dgf K mg "is_name" ywj Lm Og)
  (En:Dgf K mg "checked_name" yu4 Ln Oh)
  (Pr:Dgf K mg "check_base" yuf Lo Oi)
  (Eo:Dgm K Aa "__init__" "Piece.__init__" ywu I9 Oj)
  (Tt:W.findIn K (.ref A0) "__init__"=some (some (.ref Dv)))
  (Tu:W.isFn K (.ref Dv)=true)
  (Tv:K.lookup Dv=some ⟨oc_q75,od_q75,.func (W.fnOf "__init__" "Store.__init__" (xa ygf) (wu ygf) (yd ygf) (.ref Lp) kV_q75 dc_q75 pm_q75 an_q75 cd_q75 ct_q75),sl_q75⟩)
  (R5:K.lookup Lp=some ⟨.type "tuple",Do_q75,.seq #[.int 1000 D4] Dn_q75,Ds_q75⟩)
  (Tw:W.codeIn K cd_q75 "Store.__init__"=true)
  (Tx:W.keepIn K (.ref Dv)=true)
  (D7:Dgm K A0 "told_looks" "Store.told_looks" yub Lq Om)
  (D8:Dgm K A0 "most_signs" "Store.most_signs" ywl Lr On)
  (Ap:Dgm K A0 "names" "Store.names" yuy Ls Oo)
  (Ty:W.findIn K (.ref A0) "put"=some (some (.ref Dw)))
  (Tz:W.isFn K (.ref Dw)=true)
  (U0:K.lookup Dw=some ⟨oc_q79,od_q79,.func (W.fnOf "put" "Store.put" (xa yge) (wu yge) (yd yge) (.ref Lt) kV_q79 dc_q79 pm_q79 an_q79 cd_q79 ct_q79),sl_q79⟩)
  (R6:K.lookup Lt=some ⟨.type "tuple",Do_q79,.seq #[.none] Dn_q79,Ds_q79⟩)
  (U1:W.codeIn K cd_q79 "Store.put"=true)
  (Si:W.keepIn K (.ref Dw)=true)
  (Jd:Dgm K A0 "put_first" "Store.put_first" yup Lu Oq)
  (Ep:Dgm K A0 "check_length" "Store.check_length" yvs Lv Os)
  (Er:Dgm K A0 "check_room" "Store.check_room" yvl Lx Ot)
  (Bx:Dgm K A0 "piece_at" "Store.piece_at" ywe Ly Ou)
  (Es:Dgm K A0 "links_to" "Store.links_to" yvn Lz Ov)
  (Cd:Dgm K A0 "chain_to" "Store.chain_to" ywy M0 Ow)
  (Et:Dgm K A0 "texts_to" "Store.texts_to" ywp M4 Ox)
  (D9:Dgm K A0 "text_of" "Store.text_of" yv7 M5 Oy)
  (Be:Dgm K A0 "bytes_of" "Store.bytes_of" yv5 M6 Oz)
  (Da:Dgm K A0 "base_of" "Store.base_of" yus M7 P0)
  (Eu:Dgm K A0 "learned_of" "Store.learned_of" yt8 M8 P1)
  (Je:Dgm K A0 "drop" "Store.drop" yvt M9 P4)
  (Ev:Dgm K A0 "best_base" "Store.best_base" ywv Ma P5)
  (Ps:Dgf K mg "look_bytes" yvw Mb P6)
  (Pt:Dgf K mg "name_bytes" yvx Mc P7)
  (Pu:Dgf K mg "base_bytes" yww Md P8)
  (Cz:Dgf K mg "shelf_of" yvv Me P9)
  (Fv:Dgm K A3 "__init__" "Reader.__init__" ywi Ia Pa)
  (Av:Dgm K A3 "next_byte" "Reader.next_byte" yvh Mf Pb)
  (Db:Dgm K A3 "next_part" "Reader.next_part" yu1 Mg Pe)
  (Ew:Dgm K A3 "next_look" "Reader.next_look" yjy G0 Gp)
  (Ey:Dgm K A3 "next_store" "Reader.next_store" ykp Ga Gq)
  (Ez:Dgm K A3 "next_name" "Reader.next_name" ykw Gb Gr)
  (F0:Dgm K A3 "put_next" "Reader.put_next" yjv Gc Gs)
  (F6:Dgm K A3 "whole_store" "Reader.whole_store" ykj Gd Gt)
  (He:Dgf K mg "opened" yk3 Ge Gu)
  (Bi:Dgf K mg "_law_mixed" yk5 Gf Gv)
  (Hf:Dgf K mg "_law_names" yjt Gg Gw)
  (F7:Dgf K mg "_law_looks" yky Gh Gy)
  (F8:Dgf K mg "_law_text" ykt Gi Gz)
  (Hg:Dgf K mg "_law_alike" yk6 Gj Ha)
  (Dp:Dgf K mg "_law_other_text" yk2 Gk Hb)
  (Hh:Dgf K mg "_law_put_again" yks Gm Hc)
  (Jf:Dgf K mg "law" yvc Qh Ie)
  (Jw:KC K A9)
  (Ao:FN K A9 "noughts")
  (Bf:FN K A9 "ones")
  (Hq:KC K A8)
  (Aw:FN K A8 "held")
  (R7:KC K Af)
  (By:FN K Af "last")
  (Ax:FN K Af "length")
  (Jx:KC K Ac)
  (C7:FN K Ac "look")
  (Ay:FN K Ac "slots")
  (Sr:KC K Bq)
  (Cg:FN K Bq "kept")
  (Ss:KC K A4)
  (Ba:FN K A4 "looks")
  (Bz:FN K A4 "books")
  (C0:FN K A4 "mixer")
  (C1:FN K A4 "ended")
  (C4:FN K A4 "place")
  (Az:FN K A4 "present")
  (Jy:KC K A5)
  (C5:FN K A5 "low")
  (B0:FN K A5 "width")
  (Bg:FN K A5 "size")
  (Su:KC K Ah)
  (Ct:FN K Ah "data")
  (Cu:FN K Ah "span")
  (Bh:FN K Ah "number")
  (B6:FN K Ah "reached")
  (Hr:KC K A2)
  (An:FN K A2 "foreteller")
  (Bb:FN K A2 "links")
  (Bc:FN K A2 "texts")
  (Hs:KC K Aa)
  (Bn:FN K Aa "base")
  (Bo:FN K Aa "data")
  (Ht:KC K A0)
  (Aq:FN K A0 "looks")
  (Bp:FN K A0 "most")
  (B9:FN K A0 "pieces")
  (Ar:FN K A0 "chain")
  (Ff:KC K A3)
  (Bd:FN K A3 "data")
  (Am:FN K A3 "reached")
  (Td:XCls K Ib)
  (Sk:XMk K Ib)
  (Te:XCls K Gn)
  (Sl:XMk K Gn)
  (Jg:XCls K At)
  (F9:XMk K At)
  (Tf:XCls K E6)
  (Sm:XMk K E6)
  (Tg:XCls K Cc)
  (So:XMk K Cc)
  (Th:XCls K Fk)
  (Rz:XMk K Fk)
  (Ti:XCls K Dz)
  (S8:XMk K Dz)
  (Jh:XCls K Ag)
  (Fa:XMk K Ag)
  (Fx:XCls K Al)
  (Dq:XMk K Al)
  (Pz:XCls K Au)
  (Hj:XMk K Au)
  (Qv:XCls K Ci)
  (Jq:XMk K Ci)
  (Fz:XCls K A6)
  (Dr:XMk K A6)
  (Q0:XCls K Bk)
  (Hk:XMk K Bk)
  (igg:W.specialIn K (.builtin "object.__class__") "__get__"=some (some (.builtin "getset_descriptor.__get__")))
  (itk:W.takesIn K (.builtin "object.__class__")=some true)
  (Ds:W.findIn K (.ref A0) "__class__"=some (some (.builtin "object.__class__")))
  (Dt:W.mroIn K A0 (.type "object")=some true)
  (Bj:W.kitOne K (.ref A0) (.ref A0)=some true)
  (Ab:GZ K "isinstance")
  (Q1:GZ K "int")
  (Jr:GZ K "bool")
  (Ae:GZ K "list")
  (Dx:GZ K "all")
  (Ad:GZ K "len")
  (Ji:GZ K "min")
  (Jj:GZ K "max")
  (Q3:GZ K "str")
  (Cv:GZ K "tuple")
  (Jk:GZ K "zip")
  (Fb:GZ K "sum")
  (Qw:GZ K "any")
  (As:GZ K "range")
  (D3:GZ K "reversed")
  (Sf:GV K "LEAST" (.int 32768 Hd))
  (U5:GV K "ONE" (.int 16777216 Qi))
  (Hu:GV K "MOST_SIGNS" (.int 1000 Cj))
  (Hv:GV K "MOST_BYTES" (.int 12000 Ck))
  (Fg:GV K "MOST_COUNTED" (.int 255 Bt))
  (Fp:GV K "FIRST_WIDTH" (.int 1099511627776 C8))
  (Hw:GV K "FIRST_SIZE" (.int 5 Cl))
  (Fq:GV K "LEAST_WIDTH" (.int 4294967296 C9))
  (Jz:GV K "FARTHEST" (.int 8 D0))
  (Fs:GV K "MOST_PLACES" (.int 4 Ca))
  (Hx:GV K "MOST_LOOKS" (.int 6 Cm))
  (Qd:GV K "NO_SIGN" (.int 256 Dn))
  (Fh:GV K "FIRST_WEIGHT" (.int 1099511627776 Bu))
  (Jn:GV K "OWN_PARTS" (.int 31 Cq))
  (Fi:GV K "MOST_FIGURES" (.int 48 Bv))
  (Jo:GV K "NODES_END" (.int 256 Cr))
  (Fj:GV K "MOST_LETTERS" (.int 8 Bw))
  (Qe:GV K "LETTERS" (.str "abcdefghijklmnopqrstuvwxyz" Do))
  (Ft:GV K "MOST_PIECES" (.int 60 Cb))
  (Hy:GV K "MOST_SHELF" (.int 1000000 Cn))
  (R8:GV K "KINDS" (.ref Bl))
  (Jp:K.lookup Bl=some ⟨.type "tuple",none,.seq #[.str "even" wt_KINDS_0,.str "quick" wt_KINDS_1,.str "run" wt_KINDS_2] wn_KINDS,ws_KINDS⟩)
  (Qf:GV K "WORTHS" (.ref Br))
  (Qg:K.lookup Br=some ⟨.type "tuple",wd_WORTHS,.seq #[.int 128 wt_WORTHS_0,.int 64 wt_WORTHS_1,.int 32 wt_WORTHS_2,.int 16 wt_WORTHS_3,.int 8 wt_WORTHS_4,.int 4 wt_WORTHS_5,.int 2 wt_WORTHS_6,.int 1 wt_WORTHS_7] wn_WORTHS,ws_WORTHS⟩)
 :∃fd:FuncData,(∀(s:qa)(v:qb),BindsTo s fd ⟨[v],[]⟩ [("_law_script",v)])/\∀Γ:qf,K.In Γ->Γ.Ns mainGlobals mg->vq l.prog w K mg Γ CX0 17 fa fd ["_law_script"] (yen K):=by
 have zg{x v}:=@W.mg_of _ _ _ x v X G;have zh{x}:=@W.mg_none_of _ _ _ x X G
 have e:=hfa.symm.trans Jf.m;cases e;have b:=yis (st:=ygf) Tv Tw Tx;have a:=yis (st:=yge) U0 U1 Si;have T:Txt K mg ⟨R9,Ra,Rb,Rc,Re,Rf,Rg,Rh,Ri,K1,K2,Hz,K3,K4,K5,I0,K6,K7,K8,I1,K9,Ka,Kb,Kc,Kd,Ke,I2,Kg,Kh,Ki,Kj,Kk,Kl,Km,Kn,Ko,Kp,Kq,I3,Kr,Ks,I4,Kt,Ku,Kv,I5,Kw,Kx,Ky,Kz,L1,L6,L7,L8,L9,I6,La,Lb,Lc,Ld,Le,Lf,Lg,Lh,Li,I7,Lj,Lk,I8,Ll,Lm,Ln,Lo,I9,Dv,Lp,Lq,Lr,Ls,Dw,Lt,Lu,Lv,Lx,Ly,Lz,M0,M4,M5,M6,M7,M8,M9,Ma,Mb,Mc,Md,Me,Ia,Mf,Mg,G0,Ga,Gb,Gc,Gd,Ge,Gf,Gg,Gh,Gi,Gj,Gk,Gm,fa,A9,A8,Af,Ac,Bq,A4,A5,Ah,A2,Aa,A0,A3,Ib,Gn,At,E6,Cc,Fk,Dz,Ag,Al,Au,Ci,A6,Bk,Dm,Bl,Br,Rj,Rk,Rl,Rm,Rn,Ro,Rp,Rq,Rr,Mh,Mi,Mj,Ml,Mm,Mn,Mo,Mq,Mr,Ms,Mt,Mu,Mv,Mw,Mx,My,Mz,N0,N2,N3,N4,N5,N6,N7,N8,N9,Na,Nd,Nf,Ng,Nh,Ni,Nj,Nk,Nl,Nm,Nn,No,Np,Nq,Nr,Nt,Nu,Nv,Nw,Ny,Nz,O0,O4,O5,O6,O7,O8,O9,Oa,Ob,Oc,Od,Oe,Ic,Of,Og,Oh,Oi,Oj,_,Om,On,Oo,_,Oq,Os,Ot,Ou,Ov,Ow,Ox,Oy,Oz,P0,P1,P4,P5,P6,P7,P8,P9,Pa,Pb,Pe,Gp,Gq,Gr,Gs,Gt,Gu,Gv,Gw,Gy,Gz,Ha,Hb,Hc,Ie,D4,Hd,Qi,Cj,Ck,Bt,C8,Cl,C9,D0,Ca,Cm,Dn,Bu,Cq,Bv,Cr,Bw,Do,Cb,Cn⟩:=⟨
  If.d1,
  Rs.d1,
  Rt.d1,
  Ru.d1,
  Q4.d2,
  Q5.d1,
  Rv.d1,
  Rw.d1,
  Q6.d1,
  Cw.d1,
  Pf.d2,
  E7.d1,
  Ig.d1,
  Ih.d2,
  Ii.d1,
  E8.d1,
  Ij.d1,
  Ik.d2,
  Il.d1,
  E9.d1,
  Im.d1,
  Io.d2,
  Ip.d1,
  Pg.d1,
  Iq.d2,
  Ir.d2,
  Ea.d1,
  Eb.d2,
  Ec.d3,
  Is.d2,
  Ed.d1,
  Ph.d1,
  Pi.d1,
  Pj.d1,
  Iu.d1,
  Iv.d1,
  Pk.d2,
  Pl.d3,
  Ee.d2,
  Iw.d3,
  Ix.d1,
  Ef.d2,
  Iy.d2,
  Iz.d3,
  J0.d1,
  Eg.d2,
  D5.d1,
  Eh.d1,
  Ei.d1,
  Ej.d2,
  J1.d2,
  J2.d2,
  J3.d1,
  Pm.d1,
  Pn.d1,
  Fu.d2,
  Ek.d1,
  J4.d2,
  J5.d2,
  J6.d1,
  J7.d2,
  J8.d2,
  Po.d2,
  Pp.d3,
  J9.d3,
  Cy.d2,
  D6.d3,
  Ja.d3,
  El.d4,
  Em.d2,
  Pq.d1,
  En.d1,
  Pr.d1,
  Eo.d3,
  b,
  yle.binds (ps:=["self","looks","most"]) (ds:=[.int 1000 D4]) (j:=2) rfl b R5 rfl λZ Z Z Z Z Z Z Z=>Exists.intro _ ⟨rfl,rfl⟩,
  yle.binds (ps:=["self","looks","most"]) (ds:=[]) (j:=3) rfl b R5 rfl λZ Z Z Z Z Z Z Z Z=>Exists.intro _ ⟨rfl,rfl⟩,
  D7.d1,
  D8.d1,
  Ap.d1,
  a,
  yle.binds (ps:=["self","name","text","base"]) (ds:=[.none]) (j:=3) rfl a R6 rfl λZ Z Z Z Z Z Z Z Z=>Exists.intro _ ⟨rfl,rfl⟩,
  yle.binds (ps:=["self","name","text","base"]) (ds:=[]) (j:=4) rfl a R6 rfl λZ Z Z Z Z Z Z Z Z Z=>Exists.intro _ ⟨rfl,rfl⟩,
  ⟨Ty,Tz,Si⟩,
  Jd.d4,
  Ep.d2,
  Er.d3,
  Bx.d2,
  Es.d2,
  Cd.d2,
  Et.d2,
  D9.d2,
  Be.d2,
  Da.d2,
  Eu.d2,
  Je.d2,
  Ev.d2,
  Ps.d1,
  Pt.d1,
  Pu.d2,
  Cz.d1,
  Fv.d2,
  Av.d1,
  Db.d2,
  Ew.d1,
  Ey.d1,
  Ez.d1,
  F0.d2,
  F6.d1,
  He.d1,
  Bi.d2,
  Hf.d1,
  F7.d1,
  F8.d2,
  Hg.d3,
  Dp.d1,
  Hh.d4,
  Jf.d1,
  Jw.cls,
  zg Sa,
  ⟨Jw.mk',E7.m.1,E7.m.2,Jw.kc⟩,
  Ao,
  Bf,
  Hq.cls,
  zg Qy,
  ⟨Hq.mk',E8.m.1,E8.m.2,Hq.kc⟩,
  Aw,
  R7.cls,
  zg Sq,
  ⟨R7.mk',E9.m.1,E9.m.2,R7.kc⟩,
  By,
  Ax,
  Jx.cls,
  zg Sb,
  ⟨Jx.mk',Ee.m.1,Ee.m.2,Jx.kc⟩,
  C7,
  Ay,
  Sr.cls,
  zg Tj,
  ⟨Sr.mk',Ef.m.1,Ef.m.2,Sr.kc⟩,
  Cg,
  Ss.cls,
  zg Tk,
  ⟨Ss.mk',Eg.m.1,Eg.m.2,Ss.kc⟩,
  Ba,
  Bz,
  C0,
  C1,
  C4,
  Az,
  Jy.cls,
  zg Sc,
  ⟨Jy.mk',Ea.m.1,Ea.m.2,Jy.kc⟩,
  C5,
  B0,
  Bg,
  Su.cls,
  zg Tl,
  ⟨Su.mk',Fu.m.1,Fu.m.2,Su.kc⟩,
  Ct,
  Cu,
  Bh,
  B6,
  Hr.cls,
  zg Qz,
  ⟨Hr.mk',Cy.m.1,Cy.m.2,Hr.kc⟩,
  An,
  Bb,
  Bc,
  Hs.cls,
  zg R0,
  ⟨Hs.mk',Eo.m.1,Eo.m.2,Hs.kc⟩,
  Bn,
  Bo,
  Ht.cls,
  zg R1,
  ⟨Ht.mk',Tt,Tu,Ht.kc⟩,
  Aq,
  Bp,
  B9,
  Ar,
  Ff.cls,
  zg Qa,
  ⟨Ff.mk',Fv.m.1,Fv.m.2,Ff.kc⟩,
  Bd,
  Am,
  zg Tm,
  zg Tn,
  zg Qb,
  zg Tp,
  zg Tq,
  zg Tr,
  zg Ts,
  zg Qc,
  zg Jt,
  zg R3,
  zg Se,
  zg Ju,
  zg R4,
  zg Jv,
  Td,
  Sk,
  Te,
  Sl,
  Jg,
  F9,
  Tf,
  Sm,
  Tg,
  So,
  Th,
  Rz,
  Ti,
  S8,
  Jh,
  Fa,
  Fx,
  Dq,
  Pz,
  Hj,
  Qv,
  Jq,
  Fz,
  Dr,
  Q0,
  Hk,
  igg,
  itk,
  Ds,
  Dt,
  Bj,
  zh Ab,
  zh Q1,
  zh Jr,
  zh Ae,
  zh Dx,
  zh Ad,
  zh Ji,
  zh Jj,
  zh Q3,
  zh Cv,
  zh Jk,
  zh Fb,
  zh Qw,
  zh As,
  zh D3,
  zg Sf,
  zg U5,
  zg Hu,
  zg Hv,
  zg Fg,
  zg Fp,
  zg Hw,
  zg Fq,
  zg Jz,
  zg Fs,
  zg Hx,
  zg Qd,
  zg Fh,
  zg Jn,
  zg Fi,
  zg Jo,
  zg Fj,
  zg Qe,
  zg Ft,
  zg Hy,
  zg R8,
  λH=>.inr ⟨_,_,_,Jp,rfl,rfl,(by show 3<=sizeLine;decide),(.cons ⟨_,rfl⟩ (.cons ⟨_,rfl⟩ (.cons ⟨_,rfl⟩ .nil)))⟩,
  ⟨_,Jp,rfl,rfl⟩,
  zg Qf,
  λH=>.inr ⟨_,_,_,Qg,rfl,rfl,(by show 8<=sizeLine;decide),(.cons ⟨_,rfl⟩ (.cons ⟨_,rfl⟩ (.cons ⟨_,rfl⟩ (.cons ⟨_,rfl⟩ (.cons ⟨_,rfl⟩ (.cons ⟨_,rfl⟩ (.cons ⟨_,rfl⟩ (.cons ⟨_,rfl⟩ .nil))))))))⟩⟩
 exists Ie,λs v=>?_,λΓ Z Z=>yxy T;let⟨_,_,_,_,_,_,_,_,_,rfl,_,_⟩:=Jf.F.ex;exact .of_eq rfl
def walk{l:W.OpenLaw}{q:qh}{loose:Τ}{XP:(Ε)->qf->Prop}{YP:qd->qf->Prop}{d:DefRec}{K:Params->z3}(hn:l.most=some 63)(hdf:d.params.defaults=[])
  (hY:∀(w:qd)(h:qf),YP w h->(K w.params).In h)
  (F:∀(w:qd)(mg:Ε)(fa:z4)(h:qf),(K w.params).In h->h.Ns mainGlobals mg->mg d.name=some (.ref fa) ->
   ∃fd:FuncData,(∀(s:qa)(u:qb),BindsTo s fd ⟨[u],[]⟩ [("_law_script",u)])/\∀Γ:qf,(K w.params).In Γ->Γ.Ns mainGlobals mg->vq l.prog w (K w.params) mg Γ CX0 17 fa fd ["_law_script"] (yen (K w.params))):
  W.WalkO q loose XP YP l.row.toRowW d [] (λf vs=>PySem.call f vs) :=
 L2.walk_of (n:=63) (k:=17) (x:="_law_script") (CX:=λZ=>CX0) (sp:=λw=>yen (K w.params)) hn ∅ hdf ⟨rfl,∅,∅⟩ hY F (λZ Z a c b Z e=>⟨a,c,rfl,e,b,λZ=>rfl⟩) λZ Z Z Z Z z=>z
end Law
end
open PySem PySem.W PyProof.Rows
set_option maxRecDepth 100000 in
set_option maxHeartbeats 0 in
theorem PySem.Challenge.cw_foretell_k51_opened_holds : PySem.Challenge.rw_foretell_k51_opened.Holds := by
 refine H0.2 ?_
 unfold H0
 dsimp only []
 k_fill
 refine Law.walk (l := PySem.Challenge.rw_foretell_k51_opened) rfl rfl (fun w h Y => PySem.W.kIn_of Y) ?F
 case F =>
  intro w mg fa h KX G hmg
  refine' Law.all_mk KX G hmg ..
  any_goals first | (refine' L2.dgf_mk KX G ?_ ?_ ?_ ?_; any_goals k_is; done) | (refine' L2.dgm_mk ?_ ?_ ?_ ?_ ?_; any_goals k_is; done) | (refine' L2.XCls.mk ?_ ?_ ?_ ?_ ?_ ?_ ?_ ?_ <;> k_is) | (refine' L2.KC.mk ?_ ?_ ?_ ?_ ?_ ?_ <;> k_is) | k_is | kit_is | k_exc | (with_reducible show _ = _; first | k_is | k_exc)
#print axioms PySem.Challenge.cw_foretell_k51_opened_holds
