import PyProof.Rows.All
import Wide.All
import OpenK.AllK
import Wide.FinOn
import PyProof.EqAt
import PyProof.EqKinds
import PyProof.TupleCall
import Lean
import PySem.Challenge.RW_foretell_k92_whole_store
set_option Elab.async false
set_option linter.all false
set_option hygiene false
set_option bootstrap.genMatcherCode false
set_option compiler.extract_closed false
set_option maxRecDepth 100000
set_option maxHeartbeats 0
local macro_rules | `(tactic| exists $ts,*)=>`(tactic| refine ⟨$ts,*⟩)
local macro_rules | `(tactic| omega)=>`(tactic| first | with_reducible assumption | lia | omega (config:={}))
open Lean.Parser.Tactic in
local macro_rules | `(tactic| let $p:term := $e)=>do
 let s<-p.raw.rewriteBottomUpM fun x=>do
  if x.isOfKind `Lean.Parser.Term.anonymousCtor then
   let ps<-x[1].getSepArgs.mapM fun y=>`(rcasesPatLo| $(⟨y⟩):rcasesPat)
   return (<-`(rcasesPat| ⟨$[$ps:rcasesPatLo],*⟩)).raw
  else if x.isIdent then return (<-`(rcasesPat| $(⟨x⟩):ident)).raw
  else if x.isOfKind `Lean.Parser.Term.hole then return (<-`(rcasesPat| _)).raw
  else return x
 `(tactic| obtain $(⟨s⟩):rcasesPat:=$e)
namespace PySem.W.Fast
local macro_rules
 | `(#synth $k:ident $ns*)=>do return Lean.mkNullNode ((<-(ns.foldl (fun c n=>c.push (n.raw.isNatLit?.get!+c.back?.getD 0)) #[]).mapM fun n=>`(theorem $(Lean.mkIdent (.mkSimple s!"tw{((`H0).str s!"{k.getId}_{n}").hash}")) : True:=⟨⟩)).map (·.raw))
 | `(#synth $k:ident)=>`(theorem $(Lean.mkIdent (.mkSimple s!"tw{k.getId.hash}")) : True:=⟨⟩)
#synth PySem.Challenge.pw_foretell_k92_whole_store
#synth heap 39 7 1333
#synth tree 47 23 15 15 15 15 15 15 15 15 15 15 15 15 48 45 37 43 43 50 45 51 47 85 29 65 58 84 51 42 140 86 79
#synth view 39
#synth sts 49 22 15 15 15 15 15 15 15 15 15 15 15 15 48 45 37 43 43 50 45 51 47 85 29 65 58 84 51 42 229
#synth o 43 2 1 3 2 2 1 1 1 1 1 1 1 1 2 1 1 1 1 1 1 1 1 2 1 1 1 1 2 1 1 1 1 1 1 1 2 1 1 1 1 2 1 1 1 1 1 1 1 2 1 1 1 1 2 1 1 1 1 1 1 1 2 1 1 1 1 2 1 1 1 1 1 1 1 2 1 1 1 1 2 1 1 1 1 1 1 1 2 1 1 1 1 2 1 1 1 1 1 1 1 2 1 1 1 1 2 1 1 1 1 1 1 1 2 1 1 1 1 2 1 1 1 1 1 1 1 2 1 1 1 1 2 1 1 1 1 1 1 1 2 1 1 1 1 2 1 1 1 1 1 1 1 2 1 1 1 1 2 1 1 1 1 1 1 1 2 1 1 1 1 2 1 1 1 1 1 1 1 2 1 1 1 1 2 1 1 1 1 1 1 1 2 1 1 1 1 1 2 1 1 1 1 1 2 1 1 1 1 1 2 1 1 1 1 1 2 1 1 1 2 2 1 1 1 1 1 2 1 1 1 1 1 2 1 1 1 1 1 2 1 1 1 1 1 2 1 1 1 1 1 2 1 1 1 1 1 1 2 1 1 1 2 1 1 2 1 1 1 1 1 2 1 1 1 1 1 2 1 1 1 1 1 1 1 1 1 1 1 1 2 1 1 1 1 2 1 1 2 1 1 1 1 1 2 1 1 1 1 1 2 1 1 1 1 1 2 1 1 1 1 1 1 1 1 1 1 2 1 1 1 1 2 1 1 2 1 1 1 1 1 2 1 1 1 1 1 2 1 1 1 1 1 2 1 1 1 1 1 1 1 1 1 1 2 1 1 1 1 2 1 1 2 1 1 1 1 1 2 1 1 1 1 1 2 1 1 1 1 1 2 1 1 1 1 1 1 1 1 1 1 2 1 1 1 1 1 2 2 1 1 1 1 1 2 1 1 1 1 1 2 1 1 1 2 1 1 1 1 1 2 1 1 1 2 1 1 1 1 1 2 1 1 1 2 1 1 1 2 1 1 2 1 1 1 1 1 2 1 1 1 1 1 2 1 1 1 1 1 2 1 1 1 1 1 2 1 1 1 1 1 1 1 1 1 1 1 1 2 1 1 1 2 1 1 2 1 1 1 1 1 2 1 1 1 1 1 2 1 1 1 2 1 1 1 2 1 1 1 1 1 1 1 1 1 1 1 1 2 1 1 1 2 1 1 2 1 1 1 2 1 1 1 2 1 1 1 2 1 1 1 1 1 2 1 1 1 1 1 2 1 1 1 1 1 2 1 1 1 1 1 2 1 1 1 1 1 2 1 1 1 1 1 2 1 1 1 1 1 2 1 1 1 1 1 1 1 1 1 1 2 1 2 1 1 1 2 1 1 1 1 1 2 1 1 1 1 1 2 1 1 1 1 1 2 1 1 1 2 1 1 2 1 1 1 1 1 2 1 1 1 1 1 2 1 1 1 1 1 2 1 1 1 1 1 2 1 1 1 1 1 2 1 1 1 1 1 2 1 1 1 1 1 1 1 1 1 1 1 1 2 1 1 1 2 1 1 2 1 1 1 1 1 2 1 1 1 1 1 2 1 1 1 1 1 2 1 1 1 1 1 2 1 1 1 1 1 2 1 1 1 1 1 1 1 1 1 1 1 1 2 2 1 1 1 2 1 1 1 1 1 2 1 1 1 1 1 1 2 1 1 1 2 1 1 1 1 1 1 2 1 1 1 1 1 2 1 1 1 1 1 2 1 1 1 2 1 1 1 1 1 2 1 1 1 1 1 1 2 1 1 1 1 1 1 2 1 1 1 1 1 2 1 1 1 2 1 1 2 1 1 1 1 1 2 1 1 1 1 1 2 1 1 1 1 1 2 1 1 1 1 1 2 1 1 1 1 1 1 1 1 1 1 1 1 2 2 1 1 1 2 1 1 1 1 1 2 1 1 1 1 1 1 1 1 2 1 1 2 1 1 1 1 1 1 1 1 1 1 1 1 2 1 1 1 2 1 1 1 2 1 1 1 1 1 2 1 1 1 1 1 2 1 1 1 1 1 2 1 1 1 1 1 1 2 1 1 1 1 1 2 1 1 1 1 1 2 1 1 1 1 1 2 1 1 1 1 1 2 1 1 1 1 1 2 1 1 1 1 1 2 1 1 1 1 1 2 1 1 1 2 1 1 1 1 1 2 1 1 1 1 1 2 1 1 1 1 1 2 1 1 1 1 1 2 1 1 1 2 1 1 1 1 1 1 1 1 1 1 1 2 1 1 1 2 1 1 1 2 1 1 1 1 1 2 1 1 1 1 1 2 1 1 1 1 1 2 1 1 1 1 1 1 2 1 1 1 1 1 2 1 1 1 1 1 2 1 1 1 1 1 2 1 1 1 1 1 2 1 1 1 1 1 2 1 1 1 1 1 2 1 1 1 4 2 2 1 1 1 1 1 2 1 1 1 2 1 1 1 2 1 1 1 2 1 1 1 1 1 2 1 1 1 2 1 1 1 1 1 2 1 1 1 1 1 2 1 1 1 1 1 2 1 1 1 2 1 1 1 1 1 2 1 1 1 1
#synth env 41
end PySem.W.Fast
section
open PySem PySem.W PyProof.Rows
local macro_rules | `(tactic| refine $f:ident $as*)=>do
 unless f.getId==`PySem.W.holds_open do Lean.Macro.throwUnsupported
 `(tactic| (refine ($f $as*); case $(Lean.mkIdent `hc):ident=>exact $(Lean.mkIdent `hP)))
set_option maxRecDepth 100000 in
set_option maxHeartbeats 0 in
def H0:PSigma fun P:Prop=>P->PySem.Challenge.rw_foretell_k92_whole_store.Holds:=by
 refine' ⟨_,fun hP=>?_⟩
 rotate_left
 w_on; o_law; k_head
 w_witness2
end
section
open PySem PySem.Spec PyProof.Rows
def bf:type_of% @List.length_map:=@List.length_map
def bg:type_of% @wpAny_bind:=@wpAny_bind
def bi:type_of% @List.getElem?_eq_getElem:=@List.getElem?_eq_getElem
def bj:type_of% @Heap.get?_push_of_some:=@Heap.get?_push_of_some
def bn:type_of% @Nat.le_refl:=@Nat.le_refl
def bo:type_of% @List.getElem?_map:=@List.getElem?_map
def bp:type_of% @wpAny_pure:=@wpAny_pure
def bq:type_of% @List.length_append:=@List.length_append
def br:type_of% @List.mem_map:=@List.mem_map
def bv:type_of% @decide_eq_true:=@decide_eq_true
def bw:type_of% @List.getElem?_eq_some_iff:=@List.getElem?_eq_some_iff
def bx:type_of% @Heap.lt_size:=@Heap.lt_size
def bz:type_of% @List.size_toArray:=@List.size_toArray
def bA:type_of% @Heap.get?_push_size:=@Heap.get?_push_size
def bB:type_of% @List.mem_of_getElem?:=@List.mem_of_getElem?
def bC:type_of% @List.mem_cons:=@List.mem_cons
def bD:type_of% @decide_eq_false:=@decide_eq_false
def bE:type_of% @Option.some.inj:=@Option.some.inj
def bF:type_of% @List.mem_singleton:=@List.mem_singleton
def bH:type_of% @List.map_append:=@List.map_append
def bI:type_of% @List.length_take:=@List.length_take
def bJ:type_of% @Nat.not_lt_zero:=@Nat.not_lt_zero
def bK:type_of% @Nat.zero_le:=@Nat.zero_le
def bL:type_of% @List.take_succ_eq_append_getElem:=@List.take_succ_eq_append_getElem
def bM:type_of% @Bool.false_ne_true:=@Bool.false_ne_true
def bN:type_of% @List.mem_cons_of_mem:=@List.mem_cons_of_mem
def bO:type_of% @List.mem_cons_self:=@List.mem_cons_self
def bP:type_of% @List.mem_append:=@List.mem_append
def bQ:type_of% @Nat.le_trans:=@Nat.le_trans
def bR:type_of% @Nat.ne_of_lt:=@Nat.ne_of_lt
def bS:type_of% @List.map_map:=@List.map_map
def bT:type_of% @List.mem_append_right:=@List.mem_append_right
def bU:type_of% @List.map_cons:=@List.map_cons
def bV:type_of% @List.length_range:=@List.length_range
def bW:type_of% @Bool.and_eq_true:=@Bool.and_eq_true
def bX:type_of% @List.length_cons:=@List.length_cons
def bY:type_of% @Int.mul_le_mul_of_nonneg_left:=@Int.mul_le_mul_of_nonneg_left
def bZ:type_of% @List.take_length:=@List.take_length
def cb:type_of% @Nat.lt_of_lt_of_le:=@Nat.lt_of_lt_of_le
def cc:type_of% @Int.mul_le_mul_of_nonneg_right:=@Int.mul_le_mul_of_nonneg_right
def ce:type_of% @List.getElem_mem:=@List.getElem_mem
def cg:type_of% @List.getElem?_eq_none:=@List.getElem?_eq_none
def ci:type_of% @Int.emod_lt_of_pos:=@Int.emod_lt_of_pos
def cj:type_of% @List.length_singleton:=@List.length_singleton
def ck:type_of% @List.getD_eq_getElem?_getD:=@List.getD_eq_getElem?_getD
def cm:type_of% @List.eq_nil_of_length_eq_zero:=@List.eq_nil_of_length_eq_zero
def cn:type_of% @List.take_of_length_le:=@List.take_of_length_le
def cr:type_of% @Int.emod_nonneg:=@Int.emod_nonneg
def cu:type_of% @List.replicate_succ:=@List.replicate_succ
def cw:type_of% @Array.length_toList:=@Array.length_toList
def cy:type_of% @wpAny_field:=@wpAny_field
def cz:type_of% @List.append_assoc:=@List.append_assoc
def cA:type_of% @List.mem_range:=@List.mem_range
def cB:type_of% @List.mem_filter:=@List.mem_filter
def cC:type_of% @List.eq_of_mem_replicate:=@List.eq_of_mem_replicate
def cD:type_of% @Option.map_eq_some_iff:=@Option.map_eq_some_iff
def cE:type_of% @wpAny_truthy_bool:=@wpAny_truthy_bool
def cF:type_of% @List.getElem?_range:=@List.getElem?_range
def cG:type_of% @List.length_replicate:=@List.length_replicate
def cH:type_of% @List.mem_of_mem_take:=@List.mem_of_mem_take
def cI:type_of% @List.length_drop:=@List.length_drop
def cJ:type_of% @List.getElem?_append_right:=@List.getElem?_append_right
def cK:type_of% @List.nodup_cons:=@List.nodup_cons
def cL:type_of% @List.getElem_map:=@List.getElem_map
def cM:type_of% @List.find?_cons_of_neg:=@List.find?_cons_of_neg
def cN:type_of% @wpAny_mono:=@wpAny_mono
def cO:type_of% @Option.map_some:=@Option.map_some
def cP:type_of% @List.append_nil:=@List.append_nil
def cQ:type_of% @Nat.lt_irrefl:=@Nat.lt_irrefl
def cR:type_of% @List.drop_eq_getElem_cons:=@List.drop_eq_getElem_cons
def cS:type_of% @beq_eq_false_iff_ne:=@beq_eq_false_iff_ne
def cT:type_of% @List.find?_cons_of_pos:=@List.find?_cons_of_pos
def cU:type_of% @List.any_eq_true:=@List.any_eq_true
end
abbrev Β:=Nat->PySem.Addr->Prop
abbrev Δ:=PySem.Value->PySem.Shared->Prop
abbrev Ε:=PySem.Str->Option PySem.Value
abbrev Η:=List (PySem.Str×List Int)
abbrev Θ:=List (PySem.Addr×PySem.Obj)
abbrev Λ:=Nat->List Int
abbrev Μ:=Nat->PySem.Addr
abbrev Ν:=PySem.Addr->Prop
abbrev Ξ:=Nat->Fin 3
abbrev Ο:=List PySem.Value
abbrev Ρ:=List Int
abbrev Τ:=List PySem.Str
abbrev Φ:=Option PySem.Str
abbrev Χ:=List PySem.Addr
abbrev xr:=PySem.W.Frag
abbrev x0:=PySem.Addr
abbrev qa:=PySem.Shared
abbrev qb:=PySem.Value
abbrev qc:=PySem.Stmt
abbrev qd:=PySem.World
abbrev qe:=PySem.Around
abbrev qf:=PySem.Heap
abbrev qg:=PySem.Expr
abbrev qh:=PySem.Program
abbrev qi:=List
abbrev qj:=Option
section
set_option tactic.hygienic false
namespace L2
open PySem PySem.Spec PyProof.Rows
variable{C a:x0}{op:CmpOp}{e tg:qg}{fd:FuncData}{h':qf}{pins:Θ}{kw:qi (Str×qb)}{fp:Χ}{es:qi qg}{body:qi qc}{us:Ο}{M:Model}{i t':Nat}{p:Pos}{P:qh}{s':qa}{mA:Ε}{u:qb}{E Q:Δ}
abbrev Key:=Sum Int Str
def ygy:Key->qb->Bool
 | .inl k,v=>Value.isInt k v
 | .inr x,v=>Value.isStrOf x v
def vgk(w:qd):Key->Int
 | .inl k=>hashInt k
 | .inr x=>hashStr w x
theorem xa:∀{k:Key}{v:qb},ygy k v=true->(∃i t,k=Sum.inl i/\v=Value.int i t)\/(∃x t,k=Sum.inr x/\v=Value.str x t)
 | .inl i,v,h=>by
  let⟨t,e⟩:=Value.isInt_shape (k:=i) (v:=v) h;exact .inl ⟨i,t,rfl,e⟩
 | .inr x,v,h=>by
  let⟨t,e⟩:=Value.isStrOf_shape (x:=x) (v:=v) h;exact .inr ⟨x,t,rfl,e⟩
def yh8(i:Int)(t:Tok):ygy (.inl i) (.int i t)=true:=by simp[ygy,Value.isInt]
def yh4(x:Str)(t:Tok):ygy (.inr x) (.str x t)=true:=by simp[ygy,Value.isStrOf]
def yzq(a b:Int):decide ((Sum.inl a:Key)=Sum.inl b)=(a == b):=by
 by_cases e:a=b
 .subst e;simp
 .have h:¬(Sum.inl a:Key)=Sum.inl b:=λq=>e (Sum.inl.inj q);rw[bD h];exact(cS.mpr e).symm
def yzm(a b:Str):decide ((Sum.inr a:Key)=Sum.inr b)=decide (a=b):=by
 by_cases e:a=b
 .subst e;simp
 .have h:¬(Sum.inr a:Key)=Sum.inr b:=λq=>e (Sum.inr.inj q);rw[bD h,bD e]
def yyn(a:Int)(b:Str):decide ((Sum.inl a:Key)=Sum.inr b)=false:=bD (λq=>nomatch q)
def ywx(a:Str)(b:Int):decide ((Sum.inr a:Key)=Sum.inl b)=false:=bD (λq=>nomatch q)
def wk(prog:qh)(w:qd):PySem.KeyKind prog w Key where
 is:=ygy
 hash:=vgk w
 inj:=λv a b ha hb=>by
  rcases xa ha with⟨i,t,rfl,rfl⟩|⟨x,t,rfl,rfl⟩
  .rcases xa hb with⟨j,u,rfl,e⟩|⟨y,u,rfl,e⟩
   .injection e with e1 _;rw[e1]
   .exact nomatch e
  .rcases xa hb with⟨j,u,rfl,e⟩|⟨y,u,rfl,e⟩
   .exact nomatch e
   .injection e with e1 _;rw[e1]
 byValue:=λk v h=>by
  rcases xa h with⟨i,t,rfl,rfl⟩|⟨x,t,rfl,rfl⟩<;>rfl
 pyHash:=λhv h=>by
  rcases xa hv with⟨i,t,rfl,rfl⟩|⟨x,t,rfl,rfl⟩
  .exact wpAny_pyHash_int h
  .exact wpAny_pyHash_str h
 eqBool:=λhu hv h=>by
  rcases xa hu with⟨i,t,rfl,rfl⟩|⟨x,t,rfl,rfl⟩
  .rcases xa hv with⟨j,u,rfl,rfl⟩|⟨y,u,rfl,rfl⟩
   .rw[yzq]at h;exact wpAny_eqBool_int h
   .rw[yyn]at h;exact SeqAt.EqAt.int_str i t y u _ _ _ _ h
  .rcases xa hv with⟨j,u,rfl,rfl⟩|⟨y,u,rfl,rfl⟩
   .rw[ywx]at h;exact SeqAt.EqAt.str_int x t j u _ _ _ _ h
   .rw[yzm]at h;exact wpAny_eqBool_str h
 «strs»:=λk x t v h=>by
  rcases xa h with⟨i,u,rfl,e⟩|⟨y,u,rfl,e⟩
  .exact nomatch e
  .injection e with e1 _;subst e1;cases v<;>rfl
def yct(prog:qh)(w:qd)(i:Int)(t:Tok):(wk prog w).is (.inl i) (.int i t)=true:=yh8 i t
def ycc(prog:qh)(w:qd)(x:Str)(t:Tok):(wk prog w).is (.inr x) (.str x t)=true:=yh4 x t
inductive V where
 |non|bl (b:Bool)|int (i:Int)|str (x:Str)|byt (b:Array UInt8)|flt (b:UInt64)|ref (a:x0)|ty (n:String)
 deriving DecidableEq
abbrev _root_.Ι:=qi (Str×V)
abbrev _root_.Κ:=qi (Key×V)
abbrev _root_.Υ:=qi V
abbrev _root_.Ψ:=qj V
variable{vs xs ys:Υ}{v y:V}
def xk:V->qb->Prop
 | .non,u=>u=Value.none
 | .bl b,u=>u=Value.bool b
 | .int i,u=>∃t,u=Value.int i t
 | .str x,u=>∃t,u=Value.str x t
 | .byt b,u=>∃t,u=Value.bytes b t
 | .flt b,u=>∃t,u=Value.float b t
 | .ref a,u=>u=Value.ref a
 | .ty n,u=>u=Value.type n
abbrev wu:qi V->qi qb->Prop:=Paired xk
theorem wu.length(r:wu xs us):xs.length=us.length:=Paired.length r
theorem wu.get:∀{xs:Υ}{us:Ο}{i:Nat}{x:V},wu xs us->xs[i]?=some x->∃u,us[i]?=some u/\xk x u
 |_,_,_,_,.nil,e=>by simp at e
 |_,_,0,_,.cons r _,e=>by simp at e;subst e;exists _,rfl,r
 |_,_,i+1,x,.cons _ t,e=>by
  let⟨u,a,b⟩:=wu.get (i:=i) (x:=x) t (by simpa using e);exists u,by simpa using a,b
theorem wu.set{x:V}(r:xk x u):∀{xs:Υ}{us:Ο}(i:Nat),wu xs us->wu (xs.set i x) (us.set i u)
 |_,_,_,.nil=>.nil
 |_,_,0,.cons _ t=>.cons r t
 |_,_,i+1,.cons q t=>.cons q (wu.set r i t)
def wu.append{ws:Ο}(h:wu xs us)(s:wu ys ws):wu (xs++ys) (us++ws):=by
 induction h with
 |nil=>exact s
 |cons r t ih=>exact .cons r ih
theorem wu.take:∀{xs:Υ}{us:Ο}(n:Nat),wu xs us->wu (xs.take n) (us.take n)
 |_,_,0,_=>.nil
 |_,_,_+1,.nil=>.nil
 |_,_,n+1,.cons r t=>.cons r (wu.take n t)
theorem wu.drop:∀{xs:Υ}{us:Ο}(n:Nat),wu xs us->wu (xs.drop n) (us.drop n)
 |_,_,0,r=>r
 |_,_,_+1,.nil=>.nil
 |_,_,n+1,.cons _ t=>wu.drop n t
def yb8:qj V->qj qb->Prop
 |some v,some u=>xk v u
 |none,none=>True
 |_,_=>False
def KV{κ:Type}:qi (κ×V)->qi (κ×qb)->Prop:=Paired λ(p:κ×V)(q:κ×qb)=>p.1=q.1/\xk p.2 q.2
def kV:Key->V
 | .inl i=>.int i
 | .inr x=>.str x
inductive HO where
 |lst (xs:Υ)
 |tup (xs:Υ)
 |dK (kvs:Κ)|dT (kvs:qi (qi Key×V))
 |set (S:Int->Bool) (n:Nat)
 |ins (C dx:x0) (fs:Ι)
 |own (x:x0)
 |xd (fs:Ι)
 |met (f x:x0)
 |rng (lo hi:Int)
 |frz (o:Obj) (u:HO)
 |tbl (ps:Array qb)
 |ext (φ:qf->Prop)
abbrev Hp:=x0->qj HO
variable{H H':Hp}
def upd(H:Hp)(a:x0)(o:HO):Hp:=λb=>if b=a then some o else H b
def ya{o:HO}:upd H a o a=some o:=by unfold upd;rw[if_pos rfl]
def yk{b:x0}{o:HO}(h:b≠a):upd H a o b=H b:=by unfold upd;rw[if_neg h]
def wz{b:x0}{o u:HO}(h:H a=some o)(h':H b=some u)(d:o≠u):a≠b:=by intro e;subst e;rw[h]at h';exact d (bE h')
def yb{b:x0}{o:HO}(h:H a=some o)(h':H b=none):a≠b:=by intro e;subst e;rw[h]at h';cases h'
section
variable(P:qh)(w:qd)
def w8(H:Hp)(h:qf)(a:x0):HO->Prop
 | .lst xs=>xs.length<=sizeLine/\∃(its:Ο)(n:Nat),wu xs its/\h.get? a=some { cls:=.type "list",data:=.seq its.toArray n}
 | .tup xs=>xs.length<=sizeLine/\∃its:Ο,wu xs its/\IsTup h a its.toArray
 | .dK kvs=>kvs.length<=sizeLine/\(a == sysModules)=false/\∃vs,KV kvs vs/\h.DictOf (wk P w) a vs
 | .dT kvs=>kvs.length<=sizeLine/\(a == sysModules)=false/\∃xs:qi (qi Key×x0×qb),
   Paired (λ(p:qi Key×V)(q:qi Key×x0×qb)=>p.1=q.1/\H q.2.1=some (.tup (p.1.map kV))/\xk p.2 q.2.2) kvs xs/\
   ∃o es ep,h.get? a=some o/\o.ExactDict/\o.data=.dict es ep/\es.toList=xs.map (entryOfKey (tupleKind (wk P w)))/\(xs.map (·.1)).Nodup
 | .set S n=>h.SetOf (intKind P w) a S n
 | .ins C dx fs=>H dx=some (.own a)/\fs.length<=1000/\dx≠a/\h.get? a=some (W.instObj C dx)/\
   ∃mA,h.Ns1 dx mA/\(∀f,yb8 (fs.lookup f) (mA f))/\PySem.Within mA (fs.map (·.1))
 | .own _=>∃o,h.get? a=some o
 | .xd fs=>∃mA,h.Ns1 a mA/\∀f,yb8 (fs.lookup f) (mA f)
 | .rng lo hi=>∃t u v,h.get? a=some { cls:=.type "range",data:=.fields #[.int lo t,.int hi u,.int 1 v]}
 | .frz o u=>h.get? a=some o/\w8 H h a u
 | .tbl ps=>h.get? a=some { cls:=.none,data:=.fields ps}
 | .met f x=>h.get? a=some (W.methodObj (.ref f) (.ref x))
 | .ext φ=>φ h/\(∃o,h.get? a=some o)/\∀h1 h2:qf,φ h1->(∀o,h1.get? a=some o->h2.get? a=some o)->φ h2
def HOk(H:Hp)(h:qf):Prop:=∀a o,H a=some o->w8 P w H h a o
end
section
variable{w:qd}{h:qf}{o:HO}
theorem w8.lt(x:w8 P w H h a o):a<h.objs.size:=by
 cases o with
 |lst xs=>let⟨_,_,_,_,e⟩:=x;exact bx e
 |tup xs=>let⟨_,_,_,p⟩:=x;exact p.lt
 |dK kvs=>let⟨_,_,_,_,o,_,_,e,_⟩:=x;exact bx e
 |dT kvs=>let⟨_,_,_,_,o,_,_,e,_⟩:=x;exact bx e
 |set S n=>let⟨o,_,_,_,e,_⟩:=x;exact bx e
 |ins C dx fs=>let⟨_,_,_,e,_⟩:=x;exact bx e
 |own y=>let⟨_,e⟩:=x;exact bx e
 |xd fs=>let⟨_,⟨_,_,_,e,_⟩,_⟩:=x;exact bx e
 |rng lo hi=>let⟨_,_,_,e⟩:=x;exact bx e
 |frz ob u=>let⟨e,_⟩:=x;exact bx e
 |tbl ps=>exact bx (show h.get? a=some _ from x)
 |met f y=>exact bx (show h.get? a=some _ from x)
 |ext φ=>let⟨_,⟨_,e⟩,_⟩:=x;exact bx e
def Paired.mapP{α β:Type}{F G:α->β->Prop}{l₁:qi α}{l₂:qi β}(h:Paired F l₁ l₂)(f:∀a b,F a b->G a b):Paired G l₁ l₂:=by
 induction h with
 |nil=>exact .nil
 |cons r t ih=>exact .cons (f _ _ r) ih
def w8.stay(x:w8 P w H h a o)(k:∀b u,(b=a\/H b=some (.own a))->h.get? b=some u->h'.get? b=some u)
  (ho:∀b,H b=some (.own a)->H' b=some (.own a)) (ht:∀b xs,H b=some (.tup xs)->H' b=some (.tup xs)):w8 P w H' h' a o:=by
 induction o with
 |lst xs=>let⟨z,j,n,r,e⟩:=x;exists z,j,n,r,k _ _ (.inl rfl) e
 |tup xs=>let⟨z,j,r,ob,e,c⟩:=x;exists z,j,r,ob,k _ _ (.inl rfl) e,c
 |dK kvs=>let⟨z,y,A,r,ob,g,i,e,c⟩:=x;exists z,y,A,r,ob,g,i,k _ _ (.inl rfl) e,c
 |dT kvs =>
  let⟨z,y,xs,r,ob,g,i,e,c⟩:=x;exists z,y,xs,Paired.mapP r λp q z=>⟨z.1,ht _ _ z.2.1,z.2.2⟩,ob,g,i,k _ _ (.inl rfl) e,c
 |set S n=>let⟨ob,g,i,t,e,c⟩:=x;exists ob,g,i,t,k _ _ (.inl rfl) e,c
 |ins C dx fs =>
  let⟨d,z,B,e,m,⟨l,g,i,D,c⟩,r⟩:=x;exists ho _ d,z,B,k _ _ (.inl rfl) e,m,⟨l,g,i,k _ _ (.inr d) D,c⟩,r
 |own y=>let⟨ob,e⟩:=x;exists ob,k _ _ (.inl rfl) e
 |xd fs=>let⟨m,⟨l,g,i,e,c⟩,r⟩:=x;exists m,⟨l,g,i,k _ _ (.inl rfl) e,c⟩,r
 |rng lo hi=>let⟨t,u,v,e⟩:=x;exists t,u,v,k _ _ (.inl rfl) e
 |frz ob u ih=>let⟨e,q⟩:=x;exists k _ _ (.inl rfl) e,ih q
 |tbl ps =>
  have e:h.get? a=some { cls:=.none,data:=.fields ps}:=x;show h'.get? a=some { cls:=.none,data:=.fields ps};exact k a _ (.inl rfl) e
 |met f y =>
  have e:h.get? a=some (W.methodObj (.ref f) (.ref y)):=x;show h'.get? a=some (W.methodObj (.ref f) (.ref y));exact k a _ (.inl rfl) e
 |ext φ=>let⟨p,⟨o,e⟩,s⟩:=x;exists s _ _ p λo q=>k _ _ (.inl rfl) q,⟨o,k _ _ (.inl rfl) e⟩,s
theorem HOk.lt(x:HOk P w H h)(e:H a=some o):a<h.objs.size:=(x a o e).lt
def HOk.fresh(x:HOk P w H h)(e:h.objs.size<=a):H a=none:=by
 cases q:H a with
 |none=>rfl
 |some u=>exact absurd (cb (x.lt q) e) (cQ _)
def HOk.kept(x:HOk P w H h)(k:∀b u,h.get? b=some u->h'.get? b=some u):HOk P w H h':=λa o e =>
 (x a o e).stay (λb u Z q=>k b u q) (λZ q=>q) λZ Z q=>q
def HOk.laid(x:HOk P w H h)(k:∀b u,h.get? b=some u->h'.get? b=some u)(hp:h.objs.size<=a)(new:w8 P w (upd H a o) h' a o):HOk P w (upd H a o) h':=λb u e=>by
 have d:=x.fresh hp;by_cases hb:b=a
 .subst hb;rw[ya]at e;cases e;exact new
 .rw[yk hb]at e;exact(x b u e).stay (λc v Z q=>k c v q) (λc q=>by rw[yk (yb q d)];exact q) λc f q=>by rw[yk (yb q d)];exact q
end
def Rd(H:Hp)(a:x0)(u:HO):Prop:=H a=some u\/∃o,H a=some (.frz o u)
def Rd.of{u:HO}(h:H a=some u):Rd H a u:=.inl h
def Rd.ok{w:qd}{h:qf}{u:HO}(r:Rd H a u)(x:HOk P w H h):w8 P w H h a u:=by
 rcases r with r|⟨o,r⟩
 .exact x a u r
 .obtain⟨_,q⟩:=x a _ r;exact q
def Mut:qj HO->Prop
 |some (.lst _)=>True
 |some (.dK _)=>True
 |some (.dT _)=>True
 |some (.set _ _)=>True
 |some (.ins _ _ _)=>True
 |some (.ext _)=>True
 |_=>False
section
variable{w:qd}{h:qf}{x e:x0}{o':HO}
def HOk.write(ok:HOk P w H h)(mu:Mut (H x))(he:e=x\/H e=some (.own x))(k:∀b u,b≠e->h.get? b=some u->h'.get? b=some u)(heo:∃u,h'.get? e=some u)
  (new:w8 P w (upd H x o') h' x o'):HOk P w (upd H x o') h':=λb u q=>by
 have a:∀c y,H c=some (.own y)->c≠x:=λc y r z=>by subst z;rw[r]at mu;exact mu
 have d:∀c f,H c=some (.tup f)->c≠x:=λc f r z=>by subst z;rw[r]at mu;exact mu
 by_cases hb:b=x
 .subst hb;rw[ya]at q;cases q;exact new
 .rw[yk hb]at q;by_cases hbe:b=e
  .have i:H b=some (.own x):=by
    rcases he with z|z
    .exact absurd (hbe.trans z) hb
    .rw[hbe];exact z
   rw[q]at i;cases i;let⟨v,j⟩:=heo;exists v,by rw[hbe];exact j
  .refine(ok b u q).stay (λc v g r=>k c v ?_ r) (λc r=>by rw[yk (a c b r)];exact r) λc f r=>by rw[yk (d c f r)];exact r
   rcases g with rfl|g
   .exact hbe
   .rintro rfl;rcases he with z|z
    .exact a c b g z
    .rw[g]at z;cases z;exact hb rfl
end
structure Un(fs ex:Χ)(H H':Hp)(h h':qf):Prop where
 keep:∀b o,h.get? b=some o->H b=none->b∉fs->b∉ex->h'.get? b=some o
 slot:∀b o,h.get? b=some o->H b=none->b∈fs->b∉ex->∃sl,h'.get? b=some {o with slots:=sl}
 free:∀b o,h.get? b=some o->H b=none->b∉ex->H' b=none
 there:∀b o,h.get? b=some o->b∉ex->∃o',h'.get? b=some o'
 tups:∀b xs,H b=some (.tup xs)->H' b=some (.tup xs)
 frzs:∀b o u,H b=some (.frz o u)->H' b=some (.frz o u)
 tbls:∀b ps,H b=some (.tbl ps)->∃more,H' b=some (.tbl (ps++more))
section
variable{fs fs' ex ex':Χ}{H1 H2:Hp}{h h1 h2:qf}{x e:x0}{o:HO}
def Un.any(u:Un fs ex H H1 h h1){b:x0}{ob:Obj}(q:h.get? b=some ob)(n:H b=none)(hx:b∉ex):∃sl,h1.get? b=some {ob with slots:=sl}:=by
 by_cases hb:b∈fs
 .exact u.slot b ob q n hb hx
 .exists ob.slots,u.keep b ob q n hb hx
def Un.kept(k:∀b u,h.get? b=some u->h'.get? b=some u):Un fs ex H H h h' :=
 ⟨λb a q Z Z Z=>k b a q,λb a q Z Z Z=>⟨a.slots,k b a q⟩,λZ Z Z n Z=>n,λb a q Z=>⟨a,k b a q⟩,λZ Z q=>q,λZ Z Z q=>q,λZ c q=>⟨#[],by rw[q];simp⟩⟩
def Un.refl:Un fs ex H H h h:=Un.kept λZ Z q=>q
def Un.laid(k:∀b u,h.get? b=some u->h'.get? b=some u)(hp:h.objs.size<=a)(hn:H a=none):Un fs ex H (upd H a o) h h' where
 keep:=λb u q Z Z Z=>k b u q
 slot:=λb u q Z Z Z=>⟨u.slots,k b u q⟩
 free:=λb u q n Z=>by rw[yk (bR (cb (bx q) hp))];exact n
 there:=λb u q Z=>⟨u,k b u q⟩
 tups:=λb c q=>by rw[yk (yb q hn)];exact q
 frzs:=λb u c q=>by rw[yk (yb q hn)];exact q
 tbls:=λb d q=>⟨#[],by rw[yk (yb q hn),q];simp⟩
def Un.write(mu:Mut (H x))(he:e=x\/H e=some (.own x))(k:∀b u,b≠e->h.get? b=some u->h'.get? b=some u)(heo:∃u,h'.get? e=some u):Un fs ex H (upd H x o) h h':=by
 have c:∀b,H b=none->b≠x:=λb n z=>by subst z;rw[n]at mu;exact mu
 have d:∀b,H b=none->b≠e:=λb n z=>by
  subst z;rcases he with r|r
  .exact c b n r
  .rw[n]at r;cases r
 have a:∀b u,H b=some u->¬Mut (some u)->b≠x:=λb u q g z=>by subst z;rw[q]at mu;exact g mu
 refine⟨λb u q n Z Z=>k b u (d b n) q,λb u q n Z Z=>⟨u.slots,k b u (d b n) q⟩,λb u q n Z=>by rw[yk (c b n)];exact n,λb u q Z=>?_,
  λb f q=>by rw[yk (a b _ q λz=>z)];exact q,λb u f q=>by rw[yk (a b _ q λz=>z)];exact q,λb i q=>⟨#[],by rw[yk (a b _ q λz=>z),q];simp⟩⟩
 by_cases hbe:b=e
 .subst hbe;exact heo
 .exists u,k b u hbe q
end
def trk(h:qf)(H:Hp):Χ:=(List.range h.objs.size).filter λa=>(H a).isSome
def yny(h:qf)(H:Hp):qf:=W.hideAll h (trk h H)
def yhd(h:qf)(H:Hp):(yny h H).objs.size=h.objs.size:=W.hideAll_size _ _
def ymq{h:qf}{b:x0}{o:Obj}(e:h.get? b=some o)(n:H b=none):(yny h H).get? b=some o :=
 W.hideAll_get _ e λa=>by
  have q:(H b).isSome=true:=(cB.mp a).2;rw[n]at q;simp at q
def ysu{h:qf}{b:x0}{o:Obj}(e:(yny h H).get? b=some o):h.get? b=some o/\H b=none:=by
 have a:h.get? b=some o:=W.of_hideAll (trk h H) e;exists a,?_
 cases q:H b with
 |none=>rfl
 |some x =>
  have c:b∈trk h H:=cB.mpr ⟨cA.mpr (bx a),by simp[q]⟩;have z:(yny h H).get? b=none:=W.hideAll_none (trk h H) c;rw[z]at e;cases e
def ysm(g h:qf)(L:x0):Θ:=(List.range h.objs.size).filterMap λa=>if a=L\/(g.get? a).isSome=true then none else (h.get? a).map λo=>(a,o)
def Ā(g h:qf)(L d:x0):Θ:=(ysm g h L).filter λp=>decide (p.1≠d)
structure Mod(K:xr)(mg:Ε)(base:qf):Prop where
 kin:K.In base
 glob:base.Ns mainGlobals mg
 blt:∃mb,base.Ns builtinsNs mb/\∀x:Str,x≠"__name__"->mb x=bootBuiltins x
 nolimit:base.NoLimit
structure Cx where
 prog:qh
 w:qd
 K:xr
 mg:Ε
 base:qf
 A:qe
 N:Τ
 s₀:qa
 H₀:Hp
 env:Env
 outer:qi Env
 stack:qi Env
 ex:Χ
 fn:Str->Bool
 calm:Bool
 pn:Θ
 xe:Δ
variable{X:Cx}
def frs(l:qi Env):Χ:=l.filterMap (·.frame)
abbrev Cx.fs(X:Cx):Χ:=frs X.outer
def Vis(sc:Scope)(x:Str):Prop:=sc.names.lookup x=some .local\/sc.names.lookup x=some .cell\/sc.names.lookup x=some .free
def Loc(sc:Scope)(x:Str):Prop:=sc.names.lookup x=some .local\/sc.names.lookup x=some .cell
def vf7(env:Env)(h:qf)(m:Ε)(x:Str)(u:qb):Prop :=
 (env.kindOf x=some .local/\m x=some u)\/((env.kindOf x=some .cell\/env.kindOf x=some .free)/\∃c,env.cells.lookup x=some c/\h.IsCell c (some u))
structure Cx.Ok(X:Cx):Prop where
 mod:Mod X.K X.mg X.base
 kind:X.env.scope.kind=.function
 glob:X.env.globals=mainGlobals
 blt:X.env.builtins=builtinsNs
 above:X.s₀.heap.objs.size<=X.env.locals
 inj:∀x y c,X.env.cells.lookup x=some c->X.env.cells.lookup y=some c->x=y
 has:∀x,(X.env.kindOf x=some .cell\/X.env.kindOf x=some .free)->∃c,X.env.cells.lookup x=some c
 cab:∀x c,X.fn x=true->X.env.cells.lookup x=some c->X.s₀.heap.objs.size<=c
 hd:X.calm=true->X.A.handled=none
 frames:X.A.frames=some X.stack
 stk:X.stack=X.outer\/(X.stack=X.env::X.outer/\X.env.frame=some X.env.locals)
 exf:∀b∈X.ex,b≠X.env.locals/\∀x c,X.env.cells.lookup x=some c->c≠b
 bs:∀b o,X.base.get? b=some o->X.s₀.heap.get? b=some o/\X.H₀ b=none
 bsz:X.base.objs.size<=X.s₀.heap.objs.size
 noex:∀b o,X.base.get? b=some o->b∉X.ex
 exfs:∀b∈X.ex,b∉X.fs
 funs:X.s₀.heap.FunFrames X.base X.outer
 frf:∀b∈X.fs,X.H₀ b=none
structure Inv(X:Cx)(pins:Θ)(σ:qi (Ψ))(H:Hp)(s:qa):Prop where
 ok:X.Ok
 os:s.os=X.s₀.os
 bare:AllBare s.gens
 base:Un X.fs X.ex X.H₀ H X.s₀.heap s.heap
 loc:∃m,s.heap.Ns X.env.locals m/\∀(i:Nat)(x:Str)(v:V),X.N[i]?=some x->σ[i]?=some (some v)->Vis X.env.scope x->∃u,xk v u/\vf7 X.env s.heap m x u
 cell:∀x c,X.env.cells.lookup x=some c->∃v,s.heap.IsCell c v
 free:H X.env.locals=none
 freeC:∀x c,X.env.cells.lookup x=some c->H c=none
 pin:∀p∈X.pn++pins,s.heap.get? p.1=some p.2/\H p.1=none/\p.1≠X.env.locals/\p.1∉X.fs/\∀v,p.2.data≠.cell v
 hok:HOk X.prog X.w H s.heap
 len:σ.length=X.N.length
section
variable{σ:qi (Ψ)}{s:qa}
def Cx.Ok.nofr(ok:X.Ok){b:x0}{o:Obj}(e:X.base.get? b=some o):b∉X.fs:=λa=>by
 have:=(ok.funs.mem a).1;rw[e]at this;cases this
theorem Inv.bs(I:Inv X pins σ H s):∀b o,X.base.get? b=some o->s.heap.get? b=some o/\H b=none:=λb o e =>
 ⟨I.base.keep b o (I.ok.bs b o e).1 (I.ok.bs b o e).2 (I.ok.nofr e) (I.ok.noex b o e),I.base.free b o (I.ok.bs b o e).1 (I.ok.bs b o e).2 (I.ok.noex b o e)⟩
def Inv.bk(I:Inv X pins σ H s):∀b o,X.base.get? b=some o->s.heap.get? b=some o:=λb o e=>(I.bs b o e).1
theorem Inv.mod(I:Inv X pins σ H s):Mod X.K X.mg X.base:=I.ok.mod
def Inv.kIn(I:Inv X pins σ H s):X.K.In s.heap:=I.ok.mod.kin.keeps I.bk
theorem Inv.lt(I:Inv X pins σ H s):X.env.locals<s.heap.objs.size:=let ⟨_,hn,_⟩:=I.loc;hn.lt
def Inv.sz(I:Inv X pins σ H s):X.s₀.heap.objs.size<=s.heap.objs.size:=bQ I.ok.above (Nat.le_of_lt I.lt)
def Inv.nofs(I:Inv X pins σ H s)(h:s.heap.objs.size<=a):a∉X.fs:=λc=>by
 let⟨_,o,b,_⟩:=I.ok.funs.mem c;exact absurd (cb (bx b) (bQ I.sz h)) (cQ _)
def Inv.cne(I:Inv X pins σ H s):∀x c,X.env.cells.lookup x=some c->c≠X.env.locals:=λx c e z=>by
 let⟨v,o,d,f⟩:=I.cell x c e;let⟨m,⟨h,g,i,b,a,_⟩,_⟩:=I.loc;rw[z,b]at d;cases d;rw[a]at f;cases f
theorem Inv.funs(I:Inv X pins σ H s):s.heap.FunFrames X.base X.outer:=by
 have f:∀(l:qi Env),(∀b∈frs l,b∈X.fs)->X.s₀.heap.FunFrames X.base l->s.heap.FunFrames X.base l:=by
  intro l
  induction l with
  |nil=>intro _ _;trivial
  |cons env r ih =>
   intro g n;let⟨j,⟨L,o,a,m,h,k⟩,i⟩:=n;have c:L∈X.fs:=g L (by unfold frs;rw[List.filterMap_cons,a];exact bO);let⟨p,e⟩:=I.base.slot L o h (I.ok.frf L c) c λz=>I.ok.exfs L z c;exists j,⟨L,_,a,m,e,k⟩,ih (λb d=>g b (by unfold frs;rw[List.filterMap_cons,a];exact bN _ d)) i
 exact f X.outer (λZ d=>d) I.ok.funs
theorem Inv.stack(I:Inv X pins σ H s):s.heap.FunFrames X.base X.stack:=by
 rcases I.ok.stk with e|⟨e,b⟩
 .rw[e];exact I.funs
 .rw[e];let⟨m,a,_⟩:=I.loc;refine .cons (by rw[I.ok.kind];decide) b a ?_ I.funs;exact Heap.get?_none_of_le (bQ I.ok.bsz I.ok.above)
def Inv.stkSub(I:Inv X pins σ H s):∀b∈frs X.stack,b∈X.env.locals::X.fs:=λb a=>by
 rcases I.ok.stk with e|⟨e,c⟩
 .rw[e]at a;exact bN _ a
 .rw[e]at a;unfold frs at a;rw[List.filterMap_cons,c]at a;exact a
def Inv.stkFree(I:Inv X pins σ H s):∀b∈frs X.stack,H b=none:=λb a=>by
 rcases bC.mp (I.stkSub b a)with e|a
 .rw[e];exact I.free
 .obtain⟨_,o,c,_⟩:=I.ok.funs.mem a;exact I.base.free b o c (I.ok.frf b a) λz=>I.ok.exfs b z a
def Inv.step{g':Array GenState}{d':Drawn}{ch:Χ}(I:Inv X pins σ H s)
  (hch:∀b∈ch,(b∈X.ex\/X.s₀.heap.objs.size<=b)/\b≠X.env.locals/\(∀x c,X.env.cells.lookup x=some c->c≠b)/\∀p∈X.pn++pins,p.1≠b)
  (keep:∀b o,b≠X.env.locals->b∉X.fs->b∉ch->s.heap.get? b=some o->H b=none->h'.get? b=some o)
  (slot:∀b o,b≠X.env.locals->b∈X.fs->b∉ch->s.heap.get? b=some o->H b=none->∃sl,h'.get? b=some {o with slots:=sl}) (free:∀b o,b∉ch->s.heap.get? b=some o->H b=none->H' b=none)
  (there:∀b o,b∉ch->s.heap.get? b=some o->∃o',h'.get? b=some o')
  (tups:∀b xs,H b=some (.tup xs)->H' b=some (.tup xs)) (frzs:∀b o u,H b=some (.frz o u)->H' b=some (.frz o u)) (tbls:∀b ps,H b=some (.tbl ps)->∃more,H' b=some (.tbl (ps++more)))
  (ns:∀m,s.heap.Ns X.env.locals m->h'.Ns X.env.locals m) (hok:HOk X.prog X.w H' h') (hg:AllBare g'):
  Inv X pins σ H' {s with heap:=h',gens:=g',drawn:=d',toks:=t'}:=by
 have B:∀b o,X.s₀.heap.get? b=some o->b≠X.env.locals:=λb o e=>bR (cb (bx e) I.ok.above)
 have j:∀b o,X.s₀.heap.get? b=some o->b∉X.ex->b∉ch:=λb o e a t=>by
  rcases (hch b t).1 with z|z
  .exact a z
  .exact absurd (cb (bx e) z) (cQ _)
 have f:∀x c,X.env.cells.lookup x=some c->∀v,s.heap.IsCell c v->h'.IsCell c v:=λx c e v ⟨o,y,C⟩=>by
  have g:c∉ch:=λz=>(hch c z).2.2.1 x c e rfl;by_cases hc:c∈X.fs
  .obtain⟨sl,q⟩:=slot c o (I.cne x c e) hc g y (I.freeC x c e);exists _,q,C
  .exists o,keep c o (I.cne x c e) hc g y (I.freeC x c e),C
 exists I.ok,I.os,hg,⟨λb o e n t a=>?_,λb o e n t a=>?_,λb o e n a=>?_,λb o e a=>?_,λb xs e=>tups b xs (I.base.tups b xs e),λb o xs e=>frzs b o xs (I.base.frzs b o xs e),λb ps e=>?_⟩,?_,λx c e=>?_,?_,λx c e=>?_,λp E=>?_,hok,I.len
 .exact keep b o (B b o e) t (j b o e a) (I.base.keep b o e n t a) (I.base.free b o e n a)
 .obtain⟨sl,h⟩:=I.base.slot b o e n t a;let⟨D,A⟩:=slot b _ (B b o e) t (j b o e a) h (I.base.free b o e n a);exists D,A
 .obtain⟨o',h⟩:=I.base.there b o e a;exact free b o' (j b o e a) h (I.base.free b o e n a)
 .obtain⟨o',h⟩:=I.base.there b o e a;exact there b o' (j b o e a) h
 .obtain⟨N,h⟩:=I.base.tbls b ps e;let⟨J,A⟩:=tbls b _ h;exists N++J,by rw[A,Array.append_assoc]
 .obtain⟨m,M,K⟩:=I.loc;exists m,ns m M,λi x v h A L=>?_;let⟨u,r,l⟩:=K i x v h A L;exists u,r,?_;rcases l with l|⟨k,c,e,z⟩
  .exact .inl l
  .exact .inr ⟨k,c,e,f x c e _ z⟩
 .obtain⟨v,z⟩:=I.cell x c e;exists v,f x c e v z
 .obtain⟨m,⟨o,_,_,y,_⟩,_⟩:=I.loc;exact free _ o (λz=>(hch _ z).2.1 rfl) y I.free
 .obtain⟨v,o,y,C⟩:=I.cell x c e;exact free c o (λz=>(hch c z).2.2.1 x c e rfl) y (I.freeC x c e)
 .obtain⟨e,n,F,G,d⟩:=I.pin p E;have g:p.1∉ch:=λz=>(hch p.1 z).2.2.2 p E rfl;exists keep p.1 p.2 F G g e n,free p.1 p.2 g e n,F,G,d
def Inv.un(I:Inv X pins σ H s)(u:Un X.fs [] H H' s.heap h')(hok:HOk X.prog X.w H' h'):Inv X pins σ H' {s with heap:=h',toks:=t'}:=by
 let⟨m,⟨o,k,p,g,r⟩,_⟩:=id I.loc;let⟨t,j⟩:=u.any g I.free (by simp)
 exact I.step (g':=s.gens) (d':=s.drawn) (ch:=[]) (λZ z=>nomatch z) (λb o Z c Z e n=>u.keep b o e n c (by simp)) (λb o Z c Z e n=>u.slot b o e n c (by simp)) (λb o Z e n=>u.free b o e n (by simp)) (λb o Z e=>u.there b o e (by simp)) u.tups u.frzs u.tbls (λq h=>by
  let⟨l,d,f,a,i⟩:=h;rw[g]at a;cases a;exact⟨_,d,f,j,i⟩) hok I.bare
def Inv.call{g':Array GenState}{d':Drawn}{ch:Χ}(I:Inv X pins σ H s)(u:Un (frs X.stack) ch H H' s.heap h')(hok:HOk X.prog X.w H' h')(hg:AllBare g')
  (hch:∀b∈ch,(b∈X.ex\/X.s₀.heap.objs.size<=b)/\b≠X.env.locals/\(∀x c,X.env.cells.lookup x=some c->c≠b)/\∀p∈X.pn++pins,p.1≠b):
  Inv X pins σ H' {s with heap:=h',gens:=g',drawn:=d',toks:=t'}:=by
 let⟨m,⟨o,q,v,i,r⟩,_⟩:=id I.loc;let⟨A,f⟩:=u.any i I.free λz=>(hch _ z).2.1 rfl
 exact I.step (ch:=ch) hch (λb o f l a e n=>u.keep b o e n (λz=>(bC.mp (I.stkSub b z)).elim f l) a) (λb o Z Z a e n=>u.any e n a) (λb o a e n=>u.free b o e n a) (λb o a e=>u.there b o e a) u.tups u.frzs u.tbls (λy j=>by
  let⟨t,g,h,d,k⟩:=j;rw[i]at d;cases d;exact⟨_,g,h,f,k⟩) hok hg
def Inv.turned{it:x0}(I:Inv X pins σ H s)(k:∀b o,b≠it->s.heap.get? b=some o->h'.get? b=some o)(hn:H it=none)(hL:it≠X.env.locals)
  (h1:it∈X.ex\/X.s₀.heap.objs.size<=it) (h2:∀x c,X.env.cells.lookup x=some c->c≠it) (h3:∀p∈X.pn++pins,p.1≠it):Inv X pins σ H {s with heap:=h',toks:=t'}:=by
 have d:∀b u,H b=some u->b≠it:=λb u e z=>by rw[z,hn]at e;cases e
 refine I.step (g':=s.gens) (d':=s.drawn) (ch:=[it]) (λb i=>?_) (λb o Z Z a e Z=>k b o (λz=>a (by simp[z])) e) (λb o Z Z a e Z=>⟨o.slots,k b o (λz=>a (by simp[z])) e⟩) (λZ Z Z Z n=>n)
  (λb o a e=>⟨o,k b o (λz=>a (by simp[z])) e⟩) (λZ Z e=>e) (λZ Z Z e=>e) (λb l e=>⟨#[],by rw[e];simp⟩) (λm h=>?_) (λb u e=>?_) I.bare
 .have e:b=it:=by simpa using i
  subst e;exact⟨h1,hL,h2,h3⟩
 .obtain⟨o,g,j,f,r⟩:=h;exists o,g,j,k _ o (Ne.symm hL) f,r
 .refine(I.hok b u e).stay (λc v a q=>k c v ?_ q) (λZ q=>q) λZ Z q=>q;rcases a with z|z
  .rw[z];exact d b u e
  .exact d c _ z
def Inv.tok(I:Inv X pins σ H s)(t:Nat):Inv X pins σ H {s with toks:=t}:=I.un (h':=s.heap) (t':=t) Un.refl I.hok
theorem Inv.kept(I:Inv X pins σ H s)(k:∀b u,s.heap.get? b=some u->h'.get? b=some u):Inv X pins σ H {s with heap:=h',toks:=t'}:=I.un (Un.kept k) (I.hok.kept k)
theorem Inv.laid{o:HO}(I:Inv X pins σ H s)(k:∀b u,s.heap.get? b=some u->h'.get? b=some u)(hp:s.heap.objs.size<=a)(new:w8 X.prog X.w (upd H a o) h' a o):
  Inv X pins σ (upd H a o) {s with heap:=h',toks:=t'}:=I.un (Un.laid k hp (I.hok.fresh hp)) (I.hok.laid k hp new)
theorem Inv.write{x e:x0}{o:HO}(I:Inv X pins σ H s)(mu:Mut (H x))(he:e=x\/H e=some (.own x))(k:∀b u,b≠e->s.heap.get? b=some u->h'.get? b=some u)(heo:∃u,h'.get? e=some u)
  (new:w8 X.prog X.w (upd H x o) h' x o):Inv X pins σ (upd H x o) {s with heap:=h',toks:=t'}:=I.un (Un.write mu he k heo) (I.hok.write mu he k heo new)
def Inv.pins_of{pins':Θ}(I:Inv X pins σ H s)(h:∀p∈pins',s.heap.get? p.1=some p.2/\H p.1=none/\p.1≠X.env.locals/\p.1∉X.fs/\∀v,p.2.data≠.cell v):Inv X pins' σ H s :=
 ⟨I.ok,I.os,I.bare,I.base,I.loc,I.cell,I.free,I.freeC,λp a=>(bP.mp a).elim (λz=>I.pin p (List.mem_append_left _ z)) (h p),I.hok,I.len⟩
def yei{N:Τ}(hN:N.Nodup){j:Nat}{x:Str}(a:N[i]?=some x)(b:N[j]?=some x):i=j:=by let⟨f,c⟩:=bw.mp a;let⟨e,d⟩:=bw.mp b;exact(List.getElem_inj hN).mp (c.trans d.symm)
def Æ{A:qe}{x:Str}{Q:Unit->qa->Prop}(I:Inv X pins σ H s)(hN:X.N.Nodup)(hi:X.N[i]?=some x)(hx:Loc X.env.scope x)(r:xk v u)
  (h:∀s',Inv X pins (σ.set i (some v)) H s'->(∃a,Heap.SameBut a s.heap s'.heap/\(a=X.env.locals\/X.env.cells.lookup x=some a))->Q () s') (hf:X.fn x=true\/X.env.scope.names.lookup x=some .local:=by first|exact .inl rfl|exact .inr rfl|assumption):wpAny M A (storeName X.env x u) Q E s:=by
 let⟨m,hn,hl⟩:=id I.loc;have R:(X.env.scope.kind == .class || (X.env.scope.kind == .module && X.env.locals != X.env.globals))=false:=by rw[I.ok.kind];rfl
 have hiσ:i<σ.length:=by rw[I.len];exact(bw.mp hi).1
 have G:=I.cne
 have g:∀{a:x0}{K:qf},(∃o,s.heap.get? a=some o/\H a=none)->Heap.SameBut a s.heap K->HOk X.prog X.w H K:=λ{a K}ha f b ob e=>by
  let⟨_,_,B⟩:=ha;refine(I.hok b ob e).stay (λc S t q=>(f.2 c ?_).trans q) (λN q=>q) λN N q=>q;rintro rfl;rcases t with rfl|t
  .rw[B]at e;cases e
  .rw[B]at t;cases t
 rcases hx with D|D
 .refine wpAny_storeName_local D hn (λK Z f=>?_) R;let⟨oL,_,_,a0,_⟩:=id hn;refine h _ ⟨I.ok,I.os,I.bare,⟨λb o e n J hx=>?_,λb o e n J hx=>?_,I.base.free,λb o e hx=>?_,I.base.tups,I.base.frzs,I.base.tbls⟩,⟨_,Z,λj y v' l C e3=>?_⟩,λy c e=>?_,I.free,I.freeC,λp Y=>?_,g ⟨oL,a0,I.free⟩ f,by simpa using I.len⟩ ⟨_,f,.inl rfl⟩
  .exact(f.2 b (bR (cb (bx e) I.ok.above))).trans (I.base.keep b o e n J hx)
  .obtain⟨sl,l⟩:=I.base.slot b o e n J hx;exists sl,(f.2 b (bR (cb (bx e) I.ok.above))).trans l
  .obtain⟨o',l⟩:=I.base.there b o e hx;exists o',(f.2 b (bR (cb (bx e) I.ok.above))).trans l
  .by_cases hj:j=i
   .subst hj;rw[hi]at l;cases l;rw[List.getElem?_set_self hiσ]at C;cases C;exists u,r,.inl ⟨D,by simp⟩
   .rw[List.getElem?_set_ne (Ne.symm hj)]at C;let⟨u',W,q⟩:=hl j y v' l C e3;exists u',W,?_;rcases q with⟨k,e⟩|⟨k,c,e,z⟩
    .refine .inl ⟨k,?_⟩;have:y≠x:=λe=>hj (yei hN l (e ▸ hi));simp[this,e]
    .exact .inr ⟨k,c,e,z.sameBut f (G y c e)⟩
  .obtain⟨S,z⟩:=I.cell y c e;exists S,z.sameBut f (G y c e)
  .obtain⟨e,n,U,nf,d⟩:=I.pin p Y;exists(f.2 p.1 U).trans e,n,U,nf,d
 .have F:X.fn x=true:=by
   rcases hf with z|z
   .exact z
   .rw[z]at D;cases D
  let⟨c,t⟩:=I.ok.has x (.inl D);let⟨S,z⟩:=I.cell x c t;refine wpAny_storeName_cell I.ok.kind D t z (λK O f=>?_);let⟨oc,P,L⟩:=id z;refine h {s with heap:=K} ⟨I.ok,I.os,I.bare,⟨λb o e n J hx=>?_,λb o e n J hx=>?_,I.base.free,λb o e hx=>?_,I.base.tups,I.base.frzs,I.base.tbls⟩,⟨m,hn.sameBut f (Ne.symm (G x c t)),λj y v' l C e3=>?_⟩,λy T e=>?_,I.free,I.freeC,λp Y=>?_,g ⟨oc,P,I.freeC x c t⟩ f,by simpa using I.len⟩ ⟨c,f,.inr t⟩
  .exact(f.2 b (bR (cb (bx e) (I.ok.cab x c F t)))).trans (I.base.keep b o e n J hx)
  .obtain⟨sl,l⟩:=I.base.slot b o e n J hx;exists sl,(f.2 b (bR (cb (bx e) (I.ok.cab x c F t)))).trans l
  .obtain⟨o',l⟩:=I.base.there b o e hx;exists o',(f.2 b (bR (cb (bx e) (I.ok.cab x c F t)))).trans l
  .by_cases hj:j=i
   .subst hj;rw[hi]at l;cases l;rw[List.getElem?_set_self hiσ]at C;cases C;exists u,r,.inr ⟨.inl D,c,t,O⟩
   .rw[List.getElem?_set_ne (Ne.symm hj)]at C;let⟨u',W,q⟩:=hl j y v' l C e3;exists u',W,?_;rcases q with q|⟨k,T,e,z'⟩
    .exact .inl q
    .refine .inr ⟨k,T,e,z'.sameBut f ?_⟩;rintro rfl;exact hj (yei hN l (I.ok.inj _ _ _ e t ▸ hi))
  .by_cases hcc:T=c
   .subst hcc;exists _,O
   .obtain⟨w2,z2⟩:=I.cell y T e;exists w2,z2.sameBut f hcc
  .obtain⟨e,n,U,nf,d⟩:=I.pin p Y;exists(f.2 p.1 ?_).trans e,n,U,nf,d;intro q;rw[q,P]at e;have q':oc=p.2:=bE e;exact d S (by rw[<- q'];exact L)
def yd0{A:qe}{x:Str}{Q:Unit->qa->Prop}(I:Inv X pins σ H s)(hN:X.N.Nodup)(hi:X.N[i]?=some x)(hx:Loc X.env.scope x)(r:xk v u)
  (h:∀s',Inv X pins (σ.set i (some v)) H s'->Q () s') (hf:X.fn x=true\/X.env.scope.names.lookup x=some .local:=by first|exact .inl rfl|exact .inr rfl|assumption):wpAny M A (storeName X.env x u) Q E s :=
 Æ I hN hi hx r (λs' a Z=>h s' a) hf
def Inv.call'{ch:Χ}(I:Inv X pins σ H s)(ho:s'.os=s.os)(u:Un (frs X.stack) ch H H' s.heap s'.heap)(hok:HOk X.prog X.w H' s'.heap)(hg:AllBare s'.gens)
  (hch:∀b∈ch,(b∈X.ex\/X.s₀.heap.objs.size<=b)/\b≠X.env.locals/\(∀x c,X.env.cells.lookup x=some c->c≠b)/\∀p∈X.pn++pins,p.1≠b):Inv X pins σ H' s':=by let⟨d,g',d',t',a⟩:=s';have e:a=s.os:=ho;subst e;exact I.call (g':=g') (t':=t') (d':=d') u hok hg hch
end
abbrev XK:=qb->qj x0->Hp->Prop
abbrev St:=qi (Ψ)
abbrev _root_.Ζ:=St->Hp->Prop
variable{σ:St}
abbrev VK:=V->Hp->Prop
abbrev TE:=St->Hp->VK->Prop
variable{ta te:TE}
abbrev TT:=St->Hp->(Bool->Hp->Prop)->Prop
abbrev TA:=St->Hp->(qi V->Hp->Prop)->Prop
structure Ă where
 nx:Ζ
 rt:VK
 bk:Ζ:=λZ Z=>False
 ct:Ζ:=λZ Z=>False
abbrev TS:=Ă->St->Hp->Prop
def EP(X:Cx)(pins:Θ)(σ:St)(Q:VK)(u:qb)(s':qa):Prop:=∃v H',Inv X pins σ H' s'/\xk v u/\Q v H'
def TP(X:Cx)(pins:Θ)(σ:St)(Q:Bool->Hp->Prop)(b:Bool)(s':qa):Prop:=∃H',Inv X pins σ H' s'/\Q b H'
def AP(X:Cx)(pins:Θ)(σ:St)(Q:qi V->Hp->Prop)(us:Ο)(s':qa):Prop:=∃vs H',Inv X pins σ H' s'/\wu vs us/\Q vs H'
def SP(X:Cx)(pins:Θ)(D:Ă)(f:Flow)(s':qa):Prop :=
 match f with
 | .next=>∃σ' H',Inv X pins σ' H' s'/\D.nx σ' H'
 | .brk=>∃σ' H',Inv X pins σ' H' s'/\D.bk σ' H'
 | .cont=>∃σ' H',Inv X pins σ' H' s'/\D.ct σ' H'
 | .ret u=>∃v σ' H',Inv X pins σ' H' s'/\xk v u/\D.rt v H'
structure PE(X:Cx)(e:qg)(t:TE):Prop where
 go:∀(pins:Θ)(s:qa)(σ:St)(H:Hp)(Q:VK),Inv X pins σ H s->t σ H Q->wpAny (model X.prog X.w) X.A (eval e X.env) (EP X pins σ Q) X.xe s
instance {X:Cx}{e:qg}{t:TE}:CoeFun (PE X e t) (λZ=>∀(pins:Θ)(s:qa)(σ:St)(H:Hp)(Q:VK),Inv X pins σ H s->t σ H Q->wpAny (model X.prog X.w) X.A (eval e X.env) (EP X pins σ Q) X.xe s):=⟨PE.go⟩
structure PT(X:Cx)(e:qg)(t:TT):Prop where
 go:∀(pins:Θ)(s:qa)(σ:St)(H:Hp)(Q:Bool->Hp->Prop),Inv X pins σ H s->t σ H Q->wpAny (model X.prog X.w) X.A (isTrue e X.env (eval e X.env)) (TP X pins σ Q) X.xe s
instance {X:Cx}{e:qg}{t:TT}:CoeFun (PT X e t) (λZ=>∀(pins:Θ)(s:qa)(σ:St)(H:Hp)(Q:Bool->Hp->Prop),Inv X pins σ H s->t σ H Q->wpAny (model X.prog X.w) X.A (isTrue e X.env (eval e X.env)) (TP X pins σ Q) X.xe s):=⟨PT.go⟩
def PW(X:Cx)(e:qg)(t:TT):Prop :=
 ∀(whole:Sem qb)(pins:Θ)(s:qa)(σ:St)(H:Hp)(Q:Bool->Hp->Prop),Inv X pins σ H s->t σ H Q->wpAny (model X.prog X.w) X.A (isTrue e X.env whole) (TP X pins σ Q) X.xe s
def PW.pt{t:TT}(h:PW X e t):PT X e t:=⟨h _⟩
structure PA(X:Cx)(es:qi qg)(t:TA):Prop where
 go:∀(pos:Pos)(pins:Θ)(s:qa)(σ:St)(H:Hp)(Q:qi V->Hp->Prop),Inv X pins σ H s->t σ H Q->wpAny (model X.prog X.w) X.A (spliced (backTo pos (starEach es X.env))) (AP X pins σ Q) X.xe s
instance {X:Cx}{es:qi qg}{t:TA}:CoeFun (PA X es t) (λZ=>∀(pos:Pos)(pins:Θ)(s:qa)(σ:St)(H:Hp)(Q:qi V->Hp->Prop),Inv X pins σ H s->t σ H Q->wpAny (model X.prog X.w) X.A (spliced (backTo pos (starEach es X.env))) (AP X pins σ Q) X.xe s):=⟨PA.go⟩
structure PS(X:Cx)(st:qc)(t:TS):Prop where
 go:∀(pins:Θ)(s:qa)(σ:St)(H:Hp)(D:Ă),Inv X pins σ H s->t D σ H->wpAny (model X.prog X.w) X.A (exec st X.env) (SP X pins D) X.xe s
instance {X:Cx}{st:qc}{t:TS}:CoeFun (PS X st t) (λZ=>∀(pins:Θ)(s:qa)(σ:St)(H:Hp)(D:Ă),Inv X pins σ H s->t D σ H->wpAny (model X.prog X.w) X.A (exec st X.env) (SP X pins D) X.xe s):=⟨PS.go⟩
structure PSs(X:Cx)(st:qi qc)(t:TS):Prop where
 go:∀(pins:Θ)(s:qa)(σ:St)(H:Hp)(D:Ă),Inv X pins σ H s->t D σ H->wpAny (model X.prog X.w) X.A (execs st X.env) (SP X pins D) X.xe s
instance {X:Cx}{st:qi qc}{t:TS}:CoeFun (PSs X st t) (λZ=>∀(pins:Θ)(s:qa)(σ:St)(H:Hp)(D:Ă),Inv X pins σ H s->t D σ H->wpAny (model X.prog X.w) X.A (execs st X.env) (SP X pins D) X.xe s):=⟨PSs.go⟩
def thn{α:Type}{t:Sem α}{Q Q':α->qa->Prop}{A:qe}{s:qa}(h:wpAny M A t Q E s)(hQ:∀a s,Q a s->Q' a s):wpAny M A t Q' E s:=cN h hQ λZ Z x=>x
section
def ve3(i:Nat):TE:=λσ H Q=>∃v,σ[i]?=some (some v)/\Q v H
def tC(v:V):TE:=λZ H Q=>Q v H
def vaz{x:Str}{pos:Pos}(hN:X.N[i]?=some x)(hv:Vis X.env.scope x)(hd:(x == ("__debug__":Str))=false:=by decide)(hcd:(x == ("__classdict__":Str))=false:=by decide):PE X (.Name x pos) (ve3 i):=by
 refine .mk λf s σ H Q I h=>?_;let⟨v,e,h⟩:=h;let⟨m,k,n⟩:=I.loc;let⟨u,r,l⟩:=n i x v hN e hv;have d:EP X f σ Q u s:=⟨v,H,I,r,h⟩;rcases l with⟨b,j⟩|⟨b,c,g,a⟩
 .exact wpAny_Name (wpAny_loadName_local I.ok.kind b k j d) hd
 .rcases b with b|b
  .exact wpAny_Name (wpAny_loadName_cell I.ok.kind b g a d) hd
  .exact wpAny_Name (wpAny_loadName_free I.ok.kind b g a d hcd) hd
def yg{i j pos}:PE X (.Constant (.int i) j pos) (tC (.int i)):=.mk λZ Z Z H Z I h=>wpAny_Constant_int ⟨.int i,H,I.tok _,⟨_,rfl⟩,h⟩
def İ{b j pos}:PE X (.Constant (.bool b) j pos) (tC (.bl b)):=.mk λZ Z Z H Z I h=>Constant_bool ⟨.bl b,H,I,rfl,h⟩
def zd{j pos}:PE X (.Constant .none j pos) (tC .non):=.mk λZ Z Z H Z I h=>Constant_none ⟨.non,H,I,rfl,h⟩
def wy{x j pos}:PE X (.Constant (.str x) j pos) (tC (.str x)):=.mk λZ Z Z H Z I h=>Calls.Constant_str ⟨.str x,H,I.tok _,⟨_,rfl⟩,h⟩
def Gl(X:Cx)(x:Str):Prop:=X.env.kindOf x=some .globalImplicit
def ρ{s:qa}{x:Str}{pos:Pos}(I:Inv X pins σ H s)(hg:Gl X x)(hm:X.mg x=some u)(h:Q u s)
  (hd:(x == ("__debug__":Str))=false:=by decide):wpAny (model X.prog X.w) X.A (eval (.Name x pos) X.env) Q E s :=
 Calls.Name_function_global I.ok.kind hg (Calls.loadGlobal_global (by rw[I.ok.glob];exact I.mod.glob.keeps I.bk) hm h) hd
def Ĭ{s:qa}{x:Str}{pos:Pos}(I:Inv X pins σ H s)(hg:Gl X x)(hm:X.mg x=none)(hv:bootBuiltins x=some u)(h:Q u s)
  (hn:x≠"__name__":=by decide) (hd:(x == ("__debug__":Str))=false:=by decide):wpAny (model X.prog X.w) X.A (eval (.Name x pos) X.env) Q E s:=by let⟨c,a,b⟩:=I.mod.blt;exact Calls.Name_function_global I.ok.kind hg (Calls.loadGlobal_builtin (by rw[I.ok.glob];exact I.mod.glob.keeps I.bk) hm (by rw[I.ok.blt];exact a.keeps I.bk) ((b x hn).trans hv) h) hd
def yde{x:Str}{pos:Pos}(hg:Gl X x)(hm:X.mg x=some u)(r:xk v u)(hd:(x == ("__debug__":Str))=false:=by decide):PE X (.Name x pos) (tC v):=.mk
 λZ Z Z H Z I h=>ρ I hg hm ⟨v,H,I,r,h⟩ hd
def ysa{x:Str}{pos:Pos}(hg:Gl X x)(hm:X.mg x=none)(hv:bootBuiltins x=some u)(r:xk v u)(hn:x≠"__name__":=by decide)(hd:(x == ("__debug__":Str))=false:=by decide):PE X (.Name x pos) (tC v):=.mk
 λZ Z Z H Z I h=>Ĭ I hg hm hv ⟨v,H,I,r,h⟩ hn hd
variable{a b:qg}{tb:TE}{pos:Pos}
def PC(X:Cx)(op:CmpOp)(a b:qg)(t:TE):Prop :=
 ∀(pins:Θ)(s:qa)(σ:St)(H:Hp)(Q:VK),Inv X pins σ H s->t σ H Q ->
  wpAny (model X.prog X.w) X.A (eval a X.env) (λv s₁=>wpAny (model X.prog X.w) X.A (eval b X.env) (λu s₂=>wpAny (model X.prog X.w) X.A (compareOp op v u) (EP X pins σ Q) X.xe s₂) X.xe s₁) X.xe s
def tB(t:TE):TT:=λσ H Q=>t σ H λx H1=>∃c,x=.bl c/\Q c H1
def ybt{t:TE}(h:PC X op a b t)(h1:behindInMarks op b=false:=by first|exact nobehind _ (by decide) (by decide)|rfl):PT X (.Compare a [op] [b] pos) (tB t):=by refine .mk λe s σ H Q I k=>?_;refine wpAny_isTrue_Compare1 (thn (h e s σ H _ I k) λv m h1=>thn h1 λu o l=>thn l λc n h'=>?_) h1;let⟨x,g,j,i,f⟩:=h';let⟨d,rfl,q⟩:=f;cases i;exact cE ⟨g,j,q⟩
def xo{t:TE}(h:PE X e t)(he:∀whole,isTrue e X.env whole=(do let v <- whole;standAt e.pos;holding [v] (truthy v)):=by intro _;rfl):PT X e (tB t):=by refine .mk λa s σ H Q I i=>?_;refine isTrue_plain (thn (h a s σ H _ I i) λv j h'=>?_) (he _);let⟨x,c,g,f,b⟩:=h';let⟨d,rfl,q⟩:=b;cases f;exact cE ⟨c,g,q⟩
variable{tA tB':TT}{Ā:qi qg}
def vfx(t u:TT):TT:=λσ H Q=>t σ H λc H1=>if c=true then u σ H1 Q else Q false H1
def tOr(t u:TT):TT:=λσ H Q=>t σ H λc H1=>if c=true then Q true H1 else u σ H1 Q
def vfz(t:TT):TT:=λσ H Q=>t σ H λc H1=>Q (!c) H1
def Á(ha:PT X a tA):PW X (.BoolOp .And [a] pos) tA:=by
 intro d b s σ H Q I h;refine isTrue_and (thn (ha b s σ H Q I h) λc f e=>?_)
 cases c with
 |true=>exact isTrue_and_nil e
 |false=>exact e
def ð(ha:PT X a tA):PW X (.BoolOp .Or [a] pos) tA:=by
 intro d b s σ H Q I h;refine isTrue_or (thn (ha b s σ H Q I h) λc f e=>?_)
 cases c with
 |false=>exact isTrue_or_nil e
 |true=>exact e
def ī(ha:PT X a tA)(hb:PW X (.BoolOp .And (b::Ā) pos) tB'):PW X (.BoolOp .And (a::b::Ā) pos) (vfx tA tB'):=by
 intro i d s σ H Q I h;refine isTrue_and (thn (ha d s σ H _ I h) λc j ⟨f,g,e⟩=>?_)
 cases c with
 |true=>exact hb i d j σ f Q g e
 |false=>exact⟨f,g,e⟩
def ı(ha:PT X a tA)(hb:PW X (.BoolOp .Or (b::Ā) pos) tB'):PW X (.BoolOp .Or (a::b::Ā) pos) (tOr tA tB'):=by
 intro i d s σ H Q I h;refine isTrue_or (thn (ha d s σ H _ I h) λc j ⟨f,g,e⟩=>?_)
 cases c with
 |true=>exact⟨f,g,e⟩
 |false=>exact hb i d j σ f Q g e
def xn(ha:PT X a tA):PT X (.UnaryOp .Not a pos) (vfz tA):=by refine .mk λb s σ H Q I h=>?_;exact isTrue_not (ha b s σ H (λc d=>Q (!c) d) I h)
def vb8(ta tb:TE):TE:=λσ H Q=>ta σ H λx H1=>∃c,x=.bl c/\if c=true then tb σ H1 Q else Q (.bl false) H1
def vbr(ta:TE):TE:=λσ H Q=>ta σ H λx H1=>∃c,x=.bl c/\Q (.bl (!c)) H1
def Ö{op}{t:TE}(h:PE X a t):PE X (.BoolOp op [a] pos) t:=.mk λb s σ H Q I c=>BoolOp_one (h b s σ H Q I c)
def zz(ha:PE X a ta)(hb:PE X (.BoolOp .And (b::Ā) pos) tb):PE X (.BoolOp .And (a::b::Ā) pos) (vb8 ta tb):=by
 refine .mk λd s σ H Q I h=>?_;refine BoolOp_and (thn (ha d s σ H _ I h) λv i h'=>?_);let⟨x,f,g,j,e⟩:=h';let⟨c,rfl,e⟩:=e;cases j;refine cE ?_
 cases c with
 |true=>exact hb d i σ f Q g e
 |false=>exists .bl false,f,g,rfl,e
def yz1(ha:PE X a ta):PE X (.UnaryOp .Not a pos) (vbr ta):=by refine .mk λb s σ H Q I h=>?_;refine UnaryOp_ (thn (ha b s σ H _ I h) λv i h'=>?_);let⟨x,e,g,f,d⟩:=h';let⟨c,rfl,d⟩:=d;cases f;exact not_of (cE ⟨.bl (!c),e,g,rfl,d⟩)
def tIf(t:TT)(ta tb:TE):TE:=λσ H Q=>t σ H λc H1=>if c=true then ta σ H1 Q else tb σ H1 Q
def Ó{c:qg}(hc:PT X c tA)(ha:PE X a ta)(hb:PE X b tb):PE X (.IfExp c a b pos) (tIf tA ta tb):=by
 refine .mk λe s σ H Q I h=>?_;refine wpAny_IfExp (thn (hc e s σ H _ I h) λd i ⟨g,j,f⟩=>?_)
 cases d with
 |true=>exact ha e i σ g Q j f
 |false=>exact hb e i σ g Q j f
end
def SqL(K:xr)(H:Hp)(a:x0)(xs:Υ):Prop :=
 Rd H a (.lst xs) \/
  ∃(o:Obj)(its:Array qb)(n:Nat),K.lookup a=some o/\o.cls=.type "list"/\o.dict=none/\o.data=.seq its n/\its.size<=sizeLine/\wu xs its.toList
def SqT(K:xr)(H:Hp)(a:x0)(xs:Υ):Prop :=
 Rd H a (.tup xs) \/
  ∃(o:Obj)(its:Array qb)(n:Nat),K.lookup a=some o/\o.cls=.type "tuple"/\o.data=.seq its n/\its.size<=sizeLine/\wu xs its.toList
def vgi:qb->qj V
 | .none=>some .non
 | .bool b=>some (.bl b)
 | .int i _=>some (.int i)
 | .str x _=>some (.str x)
 | .bytes b _=>some (.byt b)
 | .float b _=>some (.flt b)
 | .ref a=>some (.ref a)
 | .type n=>some (.ty n)
 |_=>none
def xk.abs{x:V}(r:xk x u):vgi u=some x:=by
 cases x with
 |non=>cases r;rfl
 |bl _=>cases r;rfl
 |int _=>let⟨t,rfl⟩:=r;rfl
 |str _=>let⟨t,rfl⟩:=r;rfl
 |byt _=>let⟨t,rfl⟩:=r;rfl
 |flt _=>let⟨t,rfl⟩:=r;rfl
 |ref _=>cases r;rfl
 |ty _=>cases r;rfl
def xk.inj{x:V}(r:xk x u)(q:xk y u):x=y:=bE (r.abs.symm.trans q.abs)
theorem wu.inj(h:wu xs us)(k:wu ys us):xs=ys:=by
 induction h generalizing ys with
 |nil=>cases k;rfl
 |cons r t ih =>
  cases k with
  |cons r' t'=>rw[r.inj r',ih t']
section
variable{s:qa}
def SqL.of{K:xr}(h:H a=some (.lst xs)):SqL K H a xs:=.inl (.inl h)
def SqT.of{K:xr}(h:H a=some (.tup xs)):SqT K H a xs:=.inl (.inl h)
def Inv.list(I:Inv X pins σ H s)(h:SqL X.K H a xs):∃its:Ο,wu xs its/\PlainL s.heap a its.toArray/\xs.length<=sizeLine:=by
 rcases h with h|⟨o,its,n,b,d,c,f,g,r⟩
 .obtain⟨z,its,n,r,e⟩:=h.ok I.hok;exists its,r,⟨_,n,e,rfl,rfl,rfl⟩,z
 .exists its.toList,r,⟨o,n,I.kIn a o b,d,c,by simpa using f⟩,?_;have e:=r.length;simp only[cw]at e;omega
def Inv.tuple(I:Inv X pins σ H s)(h:SqT X.K H a xs):∃its:Ο,wu xs its/\IsTup s.heap a its.toArray/\xs.length<=sizeLine:=by
 rcases h with h|⟨o,its,n,d,c,b,f,r⟩
 .obtain⟨z,its,r,p⟩:=h.ok I.hok;exact⟨its,r,p,z⟩
 .exists its.toList,r,⟨o,I.kIn a o d,c,n,by simpa using b⟩,?_;have e:=r.length;simp only[cw]at e;omega
def Inv.list_inj(I:Inv X pins σ H s)(h:SqL X.K H a xs)(h':SqL X.K H a ys):xs=ys:=by
 let⟨c,r,⟨o,n,e,_,_,d⟩,_⟩:=I.list h;let⟨b,i,⟨k,j,g,_,_,f⟩,_⟩:=I.list h';rw[e]at g;cases g;rw[d]at f;injection f with d1 _;have:c=b:=by simpa using congrArg Array.toList d1
 subst this;exact r.inj i
def Inv.tuple_inj(I:Inv X pins σ H s)(h:SqT X.K H a xs)(h':SqT X.K H a ys):xs=ys:=by
 let⟨c,r,⟨o,e,_,n,d⟩,_⟩:=I.tuple h;let⟨b,i,⟨k,g,_,j,f⟩,_⟩:=I.tuple h';rw[e]at g;cases g;rw[d]at f;injection f with d1 _;have:c=b:=by simpa using congrArg Array.toList d1
 subst this;exact r.inj i
end
abbrev Cx.wish(X:Cx)(E:Δ):Cx:={X with xe:=E}
abbrev Cx.nox(X:Cx):Cx:=X.wish λZ Z=>False
theorem Cx.Ok.wish(ok:X.Ok)(E:Δ):(X.wish E).Ok :=
 ⟨ok.mod,ok.kind,ok.glob,ok.blt,ok.above,ok.inj,ok.has,ok.cab,ok.hd,ok.frames,ok.stk,ok.exf,ok.bs,ok.bsz,ok.noex,ok.exfs,ok.funs,ok.frf⟩
def Cx.Ok.unwish(ok:(X.wish E).Ok):X.Ok :=
 ⟨ok.mod,ok.kind,ok.glob,ok.blt,ok.above,ok.inj,ok.has,ok.cab,ok.hd,ok.frames,ok.stk,ok.exf,ok.bs,ok.bsz,ok.noex,ok.exfs,ok.funs,ok.frf⟩
section
variable{s:qa}
theorem Inv.wish(I:Inv X pins σ H s)(E:Δ):Inv (X.wish E) pins σ H s:=⟨I.ok.wish E,I.os,I.bare,I.base,I.loc,I.cell,I.free,I.freeC,I.pin,I.hok,I.len⟩
theorem Inv.unwish(I:Inv (X.wish E) pins σ H s):Inv X pins σ H s:=⟨I.ok.unwish,I.os,I.bare,I.base,I.loc,I.cell,I.free,I.freeC,I.pin,I.hok,I.len⟩
theorem SP.unwish{D:Ă}{f:Flow}(h:SP (X.wish E) pins D f s'):SP X pins D f s':=by
 cases f with
 |next=>let⟨σ',a,I,q⟩:=h;exact⟨σ',a,I.unwish,q⟩
 |brk=>let⟨σ',a,I,q⟩:=h;exact⟨σ',a,I.unwish,q⟩
 |cont=>let⟨σ',a,I,q⟩:=h;exact⟨σ',a,I.unwish,q⟩
 |ret u=>let⟨v,σ',a,I,r,q⟩:=h;exists v,σ',a,I.unwish,r,q
theorem PSs.nox{st:qi qc}{t:TS}(h:PSs X.nox st t):PSs X st t:=.mk λa s σ H D I b =>
 cN (h a s σ H D (I.wish _) b) (λZ Z q=>q.unwish) λZ Z z=>False.elim z
end
section
variable{st:qc}{Ā:qi qc}{t u:TS}{pos:Pos}
def vbs:TS:=λD σ H=>D.nx σ H
def vez(t u:TS):TS:=λD σ H=>t {D with nx:=u D} σ H
def y6:PSs X [] vbs:=.mk λZ Z σ H Z I h=>wpAny_execs_nil ⟨σ,H,I,h⟩
def yd(h1:PS X st t)(h2:PSs X Ā u):PSs X (st::Ā) (vez t u):=by
 refine .mk λa s σ H D I h=>?_;refine wpAny_execs_cons (thn (h1 a s σ H {D with nx:=u D} I h) λf b q=>?_)
 cases f with
 |next =>
  let⟨σ',d,c,q⟩:=q;exact h2 a b σ' d D c q
 |ret v=>exact q
 |brk=>exact q
 |cont=>exact q
def yc(h1:PS X st t):PSs X [st] t:=by
 refine .mk λa s σ H D I h=>?_;refine wpAny_execs_cons (thn (h1 a s σ H D I h) λf b q=>?_)
 cases f with
 |next=>exact wpAny_execs_nil q
 |ret v=>exact q
 |brk=>exact q
 |cont=>exact q
def Inv.quiet{s:qa}(I:Inv X pins σ H s):interactive X.env=false:=by simp[interactive,I.ok.kind]
def vb2(te:TE):TS:=λD σ H=>te σ H λZ H1=>D.nx σ H1
def yw(he:PE X e te)(hs:swapsWith e none pos.line X.env=pure false:=by rfl):PS X (.Expr e pos) (vb2 te):=by refine .mk λa s σ H D I h=>?_;exact wpAny_Expr_any (thn (he a s σ H _ I h) λv f ⟨x,c,d,g,b⟩=>⟨σ,c,d,b⟩) I.quiet hs
def vfp(te:TE):TS:=λD σ H=>te σ H D.rt
def yq(he:PE X e te):PS X (.Return (some e) pos) (vfp te):=by refine .mk λa s σ H D I h=>?_;exact wpAny_Return_some (thn (he a s σ H _ I h) λv g ⟨x,c,f,d,b⟩=>⟨x,σ,c,f,d,b⟩)
def vct(c:TT)(t u:TS):TS:=λD σ H=>c σ H λb H1=>if b=true then t D σ H1 else u D σ H1
def wa{c:qg}{a b:qi qc}{tc:TT}(hc:PT X c tc)(ha:PSs X a t)(hb:PSs X b u):PS X (.If c a b pos) (vct tc t u):=by
 refine .mk λe s σ H D I h=>?_;refine wpAny_If (thn (hc e s σ H _ I h) λd i ⟨g,j,f⟩=>?_)
 cases d with
 |true=>exact ha e i σ g D j f
 |false=>exact hb e i σ g D j f
def yw2:TS:=λZ Z Z=>False
def ź:PS X st yw2:=.mk λZ Z Z Z Z Z h=>h.elim
end
abbrev TG:=V->St->Hp->(Ζ)->Prop
abbrev TGs:=qi V->St->Hp->(Ζ)->Prop
def PG(X:Cx)(target:qg)(t:TG):Prop :=
 ∀(pins:Θ)(s:qa)(σ:St)(H:Hp)(v:V)(u:qb)(Q:Ζ),Inv X pins σ H s->xk v u->t v σ H Q ->
  wpAny (model X.prog X.w) X.A (assign target X.env u) (λZ s'=>∃σ' H',Inv X pins σ' H' s'/\Q σ' H') X.xe s
def PGs(X:Cx)(ts:qi qg)(t:TGs):Prop :=
 ∀(pins:Θ)(s:qa)(σ:St)(H:Hp)(vs:Υ)(us:Ο)(Q:Ζ),Inv X pins σ H s->wu vs us->t vs σ H Q ->
  wpAny (model X.prog X.w) X.A (assignInOrder ((assignEach ts X.env).map (·.2)) us) (λZ s'=>∃σ' H',Inv X pins σ' H' s'/\Q σ' H') X.xe s
abbrev vcy:=V->V->V->Hp->(Hp->Prop)->Prop
def vfg(X:Cx)(t:vcy):Prop :=
 ∀(pins:Θ)(s:qa)(σ:St)(H:Hp)(o i v:V)(ov iv u:qb)(Q:Hp->Prop),Inv X pins σ H s->xk o ov->xk i iv->xk v u->t o i v H Q ->
  wpAny (model X.prog X.w) X.A (setItem ov iv u) (λZ s'=>∃H',Inv X pins σ H' s'/\Q H') X.xe s
section
variable{pos:Pos}
def w9(i:Nat):TG:=λv σ H Q=>Q (σ.set i (some v)) H
def vn{x:Str}(hN:X.N.Nodup)(hi:X.N[i]?=some x)(hx:Loc X.env.scope x)(hf:X.fn x=true\/X.env.scope.names.lookup x=some .local:=by first|exact .inl rfl|exact .inr rfl|assumption):PG X (.Name x pos) (w9 i):=by intro a s σ H v u Q I r h;exact wpAny_assign_Name (yd0 I hN hi hx r (λc b=>⟨_,H,b,h⟩) hf)
def yla:TGs:=λvs σ H Q=>vs=[]/\Q σ H
def zi(t:TG)(u:TGs):TGs:=λvs σ H Q=>∃v r,vs=v::r/\t v σ H λσ' H'=>u r σ' H' Q
def À:PGs X [] yla:=by intro a s σ H b c Q I r h;let⟨e,h⟩:=h;subst e;cases r;exact assignInOrder_nil ⟨σ,H,I,h⟩
def xf{t:TG}{u:TGs}(h1:PG X e t)(h2:PGs X es u)
  (hs:(assignEach (e::es) X.env).map (·.2)=assign e X.env::(assignEach es X.env).map (·.2):=by rfl):PGs X (e::es) (zi t u):=by
 intro a s σ H i j Q I r h;let⟨v,k,g,h⟩:=h;subst g
 cases r with
 |cons r rr =>
  rw[hs];refine assignInOrder_cons (thn (h1 a s σ H _ _ _ I r h) λZ d ⟨σ1,c,f,b⟩=>?_);exact h2 a d σ1 c _ _ Q f rr b
def ywh(K:xr)(n:Nat)(t:TGs):TG:=λv σ H Q=>∃a xs,v=.ref a/\SqT K H a xs/\xs.length=n/\t xs σ H Q
def ĭ{k:Nat}{t:TGs}{n:Nat}(hc:X.calm=true)(h:PGs X es t)
  (hn:(assignEach es X.env).length=n:=by rfl) (hst:(assignEach es X.env).findIdx? (·.1)=none:=by rfl):PG X (.Tuple es k pos) (ywh X.K n t):=by intro c s σ H v u Q I r d;let⟨a,i,w,j,x,d⟩:=d;subst w;cases r;let⟨g,f,p,y⟩:=I.tuple j;refine assign_Tuple_tuple (I.ok.hd hc) p (by simp[hn,<- x,f.length]) hst λq l=>?_;have m:Inv X c σ H {s with heap:=q}:=I.kept (t':=s.toks) λb o e=>l b o (bR (bx e)) e;exact h c _ σ H i _ Q m (by simpa using f) d
def vfi(to ti:TE)(t:vcy):TG:=λv σ H Q=>to σ H λo H1=>ti σ H1 λi H2=>t o i v H2 λH3=>Q σ H3
def va8{o i:qg}{to ti:TE}{t:vcy}(ho:PE X o to)(hi:PE X i ti)(hs:vfg X t)
  (ha:∀v,assign (.Subscript o i pos) X.env v=(do
   let ov <- holding [v] (eval o X.env)
   let iv <- holding [v,ov] (eval i X.env)
   standAt pos
   holding [v,ov,iv] (setItem ov iv v)
   release [v,ov,iv] []):=by intro _;rfl):PG X (.Subscript o i pos) (vfi to ti t):=by intro a s σ H v u Q I r h;rw[ha];refine bg (wpAny_holding (thn (ho a s σ H _ I h) λov f h'=>?_));let⟨x,c,k,g,b⟩:=h';refine bg (wpAny_holding (thn (hi a f σ c _ k b) λiv p h'=>?_));let⟨y,d,n,j,m⟩:=h';refine bg (wpAny_standAt (bg (wpAny_holding (thn (hs a p σ d x y v ov iv u _ n g j r m) λZ w ⟨l,e,q⟩=>?_))));exact wpAny_release ⟨σ,l,e,q⟩
def ywp(te:TE)(g:TG):TS:=λD σ H=>te σ H λx H1=>g x σ H1 D.nx
def yo8{g:TG}(he:PE X e te)(hg:PG X tg g)(hs:swapsWithSole [tg] e pos.line X.env=pure false:=by rfl)(hw:swappedStores [tg] e X.env=pure none:=by rfl)
  (h1:(assignEach [tg] X.env).map (·.2)=[assign tg X.env]:=by rfl):PS X (.Assign [tg] e pos) (ywp te g):=by refine .mk λa s σ H D I h=>?_;refine wpAny_Assign_stores (thn (he a s σ H _ I h) λv d h'=>?_) hs hw;let⟨x,c,i,f,b⟩:=h';rw[h1];exact thn (hg a d σ c x v _ i f b) λZ j q=>q
def yo{x:Str}{pos':Pos}(hN:X.N.Nodup)(hi:X.N[i]?=some x)(hx:Loc X.env.scope x)(he:PE X e te)(hs:swapsWith e (some (.Name x pos')) pos.line X.env=pure false:=by rfl)(hf:X.fn x=true\/X.env.scope.names.lookup x=some .local:=by first|exact .inl rfl|exact .inr rfl|assumption):
  PS X (.Assign [.Name x pos'] e pos) (ywp te (w9 i)):=by refine .mk λa s σ H D I h=>?_;refine wpAny_Assign_Name (thn (he a s σ H _ I h) λv j h'=>?_) hs;let⟨y,c,f,d,b⟩:=h';exact yd0 f hN hi hx d (λk g=>⟨_,c,g,b⟩) hf
end
section
variable{pos:Pos}
def vat(c:TT)(tb:TS):TS:=λD σ H=>∃W:Nat->St->Hp->Prop,(∃m,W m σ H)/\∀m σ H,W m σ H ->
 c σ H λb H1=>if b=true then ∃N:Ζ,(∀σ' H',N σ' H'->∃m',m'<m/\W m' σ' H')/\tb {D with nx:=N,ct:=N,bk:=D.nx} σ H1 else D.nx σ H1
def je{c:qg}{tc:TT}{tb:TS}(hp:PassesOwn (model X.prog X.w) X.A X.env X.xe)(hc:PT X c tc)(hb:PSs X body tb):PS X (.While c body [] pos) (vat tc tb):=by
 refine .mk λa s σ H D I h=>?_;let⟨W,⟨B,u⟩,e⟩:=h;refine wpAny_While (codeAny_whileLoop (λn y=>∃σ' H',Inv X a σ' H' y/\W n σ' H') ?_ B ⟨σ,H,I,u⟩);rintro n z ⟨σ1,p,x,E⟩;refine wpAny_passesOwn hp (thn (hc a z σ1 p _ x (e n σ1 p E)) λb C ⟨t,q,g⟩=>?_)
 cases b with
 |true =>
  let⟨N,r,g⟩:=g;rw[if_pos rfl];refine wpAny_passesOwn hp (thn (hb a C σ1 t _ q g) λf F i=>?_)
  cases f with
  |next =>
   let⟨σ3,d,l,k⟩:=i;let⟨o,m,j⟩:=r σ3 d k;exists o,m,σ3,d,l,j
  |cont =>
   let⟨σ3,d,l,k⟩:=i;let⟨o,m,j⟩:=r σ3 d k;exists o,m,σ3,d,l,j
  |brk=>exact i
  |ret v=>exact i
 |false =>
  rw[if_neg bM];exact wpAny_execs_nil ⟨σ1,t,q,g⟩
end
structure It where
 go:Nat->Hp->Prop
 yld:Nat->Hp->V->Hp->Prop
 stop:Nat->Hp->Prop
def yb9(X:Cx)(pins:Θ)(H:Hp)(b:x0):Prop :=
 H b=none/\b≠X.env.locals/\b∉X.fs/\(b∈X.ex\/X.s₀.heap.objs.size<=b)/\(∀x c,X.env.cells.lookup x=some c->c≠b)/\∀p∈X.pn++pins,p.1≠b
def Inv.fpOk{s:qa}{b:x0}(I:Inv X pins σ H s)(hb:s.heap.objs.size<=b)(hn:H' b=none):yb9 X pins H' b:=by
 exists hn,Nat.ne_of_gt (cb I.lt hb),I.nofs hb,.inr (bQ I.sz hb),λx c e z=>?_,λp a z=>?_
 .obtain⟨v,q⟩:=I.cell x c e;exact absurd (cb q.lt (by rw[z];exact hb)) (cQ _)
 .exact absurd (cb (bx (I.pin p a).1) (by rw[z];exact hb)) (cQ _)
structure yfh(P:qh)(w:qd)(K:xr)(tg:qg)(J:It)(fp:Χ)(it:x0)(tn:Nat->qf->Prop):Prop where
 mem:it∈fp
 obj:∀i h,tn i h->∀b∈fp,∃o,h.get? b=some o/\∀v,o.data≠.cell v
 keep:∀i h h',tn i h->(∀b∈fp,∀o,h.get? b=some o->h'.get? b=some o)->tn i h'
 item:∀(X:Cx),X.prog=P->X.w=w->X.K=K->X.calm=true->∀(i:Nat)(pins:Θ)(s:qa)(σ:St)(H:Hp)(E:Δ),Inv X pins σ H s->(∀b∈fp,yb9 X pins H b)->tn i s.heap->J.go i H ->
  wpAny (model P w) X.A (pyNext (.ref it)) (λr s1=>∃u,r=some u/\
   wpAny (model P w) X.A (letOwnedTupleGo tg (.ref it) u) (λZ s2=>∃x H',Inv X pins σ H' s2/\xk x u/\J.yld i H x H'/\tn (i+1) s2.heap/\∀b∈fp,H' b=none) E s1) E s
 done:∀(X:Cx),X.prog=P->X.w=w->X.K=K->X.calm=true->∀(i:Nat)(pins:Θ)(s:qa)(σ:St)(H:Hp)(E:Δ),Inv X pins σ H s->(∀b∈fp,yb9 X pins H b)->tn i s.heap->J.stop i H ->
  wpAny (model P w) X.A (pyNext (.ref it)) (λr s1=>r=none/\Inv X pins σ H s1) E s
 self:∀(A:qe)(i:Nat)(s:qa)(Q:Δ)(E:Δ),tn i s.heap->Q (.ref it) s->wpAny (model P w) A (pyIter (.ref it)) Q E s
abbrev TI:=St->Hp->(It->Hp->Prop)->Prop
def PIE(X:Cx)(pins:Θ)(σ:St)(tg:qg)(R:It->Hp->Prop)(itv:qb)(s2:qa):Prop :=
 ∃(it:x0)(fp:Χ)(tn:Nat->qf->Prop)(J:It)(H':Hp),itv=.ref it/\Inv X pins σ H' s2/\yfh X.prog X.w X.K tg J fp it tn/\tn 0 s2.heap/\(∀b∈fp,yb9 X pins H' b)/\R J H'
def PI(X:Cx)(tg iter:qg)(wi:TI):Prop :=
 ∀(pins:Θ)(s:qa)(σ:St)(H:Hp)(R:It->Hp->Prop),Inv X pins σ H s->wi σ H R ->
  wpAny (model X.prog X.w) X.A (eval iter X.env) (λv s1=>wpAny (model X.prog X.w) X.A (pyIter v) (PIE X pins σ tg R) X.xe s1) X.xe s
def ygs{A:qe}{s:qa}{it:x0}{o:Obj}{n:String}{vs:Array qb}{Q:Unit->qa->Prop}(ho:s.heap.get? it=some o)(hc:o.cls=.type n)(hd:o.data=.fields vs)
  (hn:["enumerate","zip","dict_itemiterator","dict_reverseitemiterator","odict_iterator","itertools.zip_longest","itertools.pairwise"].contains n=false) (hQ:Q () s):wpAny M A (letOwnedTupleGo tg (.ref it) u) Q E s:=by
 unfold letOwnedTupleGo
 cases tg<;>first
  |exact bp hQ
  | (cases u<;>first
    |exact bp hQ
    | (refine bg (wpAny_load ho ?_)
       rw[hc,hd];show wpAny M A (if (["enumerate","zip","dict_itemiterator","dict_reverseitemiterator","odict_iterator","itertools.zip_longest","itertools.pairwise"].contains n && vs[0]? == some (rawInt _))=true then _ else _) Q E s;rw[if_neg (by intro h;rw[hn,Bool.false_and]at h;cases h)];exact bp hQ))
def Itl(K:xr)(a:x0):It :=
 ⟨λi H=>∃xs x,SqL K H a xs/\xs[i]?=some x,λi H x H'=>H'=H/\∀xs,SqL K H a xs->xs[i]?=some x,λi H=>∃xs,SqL K H a xs/\xs.length<=i⟩
def Itt(K:xr)(a:x0):It :=
 ⟨λi H=>∃xs x,SqT K H a xs/\xs[i]?=some x,λi H x H'=>H'=H/\∀xs,SqT K H a xs->xs[i]?=some x,λi H=>∃xs,SqT K H a xs/\xs.length<=i⟩
def Itr(lo:Int)(n:Nat):It:=⟨λi Z=>i<n,λi H x H'=>H'=H/\x=.int (lo+i),λi Z=>n<=i⟩
def yid{w:qd}{K:xr}(a it:x0):yfh P w K tg (Itl K a) [it] it (λi h=>h.IsListIter it a i) where
 mem:=by simp
 obj:=λi h f b j=>by
  have e:b=it:=by simpa using j
  subst e;let⟨o,e,c,d⟩:=f;exists o,e,λv z=>by rw[d]at z;cases z
 keep:=λi h n f k=>f.at λo e=>k it (by simp) o e
 item:=by
  intro X F L A N i g s σ H E I q f M;subst F L A;let⟨S,x,m,r⟩:=M;let⟨G,J,p,Y⟩:=I.list m;let⟨u,Q,U⟩:=J.get r;let⟨D,t,f2,y,B,C⟩:=q it (by simp);refine wpAny_pyNext_list_item f p.isList (x:=u) (by simpa using Q) λn l O=>?_;have R:Inv X g σ H {s with heap:=n}:=I.turned (t':=s.toks) (λb o j e=>(O.2 b j).trans e) D t y B C;let⟨o,e,c,d⟩:=id l;exists u,rfl,ygs (s:={s with heap:=n}) e c d (by decide) ⟨x,H,R,U,⟨rfl,λys Z=>by rw[I.list_inj Z m];exact r⟩,l,λb j=>(q b j).1⟩
 done:=by
  intro X F L A N i g s σ H E I q f M;subst F L A;let⟨S,m,r⟩:=M;let⟨G,J,p,Y⟩:=I.list m;let⟨D,t,f2,y,B,C⟩:=q it (by simp);have hl:=J.length;exact wpAny_pyNext_list_end (I.ok.hd N) f p.isList (by simp;omega) λn T=>⟨rfl,I.turned (t':=s.toks) (λb o j e=>T b o j e) D t y B C⟩
 self:=λW W W W W f h=>wpAny_pyIter_listiter f h
def ygq{w:qd}{K:xr}(a it:x0):yfh P w K tg (Itt K a) [it] it (λi h=>h.IsTupleIter it a i) where
 mem:=by simp
 obj:=λi h f b l=>by
  have e:b=it:=by simpa using l
  subst e;let⟨o,e,c,d⟩:=f;exists o,e,λv z=>by rw[d]at z;cases z
 keep:=λi h q f k=>f.at λo e=>k it (by simp) o e
 item:=by
  intro X G L B N i g s σ H E I r f M;subst G L B;let⟨S,x,n,t⟩:=M;let⟨j,J,p,Y⟩:=I.tuple n;let⟨u,Q,U⟩:=J.get t;let⟨F,y,f2,A,C,D⟩:=r it (by simp);refine wpAny_pyNext_tuple_item f (show s.heap.IsTuple a j.toArray from p) (x:=u) (by simpa using Q) λq m O=>?_;have R:Inv X g σ H {s with heap:=q}:=I.turned (t':=s.toks) (λb o l e=>(O.2 b l).trans e) F y A C D;let⟨o,e,c,d⟩:=id m;exists u,rfl,ygs (s:={s with heap:=q}) e c d (by decide) ⟨x,H,R,U,⟨rfl,λys Z=>by rw[I.tuple_inj Z n];exact t⟩,m,λb l=>(r b l).1⟩
 done:=by
  intro X G L B N i g s σ H E I r f M;subst G L B;let⟨S,n,t⟩:=M;let⟨j,J,p,Y⟩:=I.tuple n;let⟨F,y,f2,A,C,D⟩:=r it (by simp);have hl:=J.length;exact wpAny_pyNext_tuple_end (I.ok.hd N) f (show s.heap.IsTuple a j.toArray from p) (by simp;omega) λq T=>⟨rfl,I.turned (t':=s.toks) (λb o l e=>T b o l e) F y A C D⟩
 self:=λW W W W W f h=>wpAny_pyIter_tupleiter f h
def ygg{w:qd}{K:xr}(it:x0)(lo:Int)(n:Nat):yfh P w K tg (Itr lo n) [it] it (λi h=>IsRangeIter h it (lo+(i:Nat)*1) ((n:Int)-(i:Nat)) 1) where
 mem:=by simp
 obj:=λi h a b d=>by
  have e:b=it:=by simpa using d
  subst e
  exact⟨_,a,λv z=>by
   have G:Data.fields _=Data.cell v:=z;cases G⟩
 keep:=λi h g a k=>k it (by simp) _ a
 item:=by
  intro X y A p u i c s σ H E I j a B;subst y A p;let⟨x,l,L,m,q,r⟩:=j it (by simp);have W:=Walks.range (prog:=X.prog) (w:=X.w) (I.ok.hd u) it lo 1 n;refine W.item i s _ _ B a λv g C F f M=>?_;let⟨t,rfl⟩:=F;have D:Inv X c σ H {s with heap:=g,toks:=C}:=I.turned (λb o d e=>M b o (by simpa using d) e) x l m q r;exists _,rfl,ygs (s:={s with heap:=g,toks:=C}) (n:="range_iterator") f rfl rfl (by decide) ⟨.int (lo+i),H,D,⟨t,?_⟩,⟨rfl,rfl⟩,f,λb d=>(j b d).1⟩;rw[Int.mul_one]
 done:=by
  intro X y A p u i c s σ H E I j a B;subst y A p;let⟨x,l,L,m,q,r⟩:=j it (by simp);exact wpAny_pyNext_range_end (I.ok.hd u) a (by have:n<=i:=B;omega) λg J=>⟨rfl,I.turned (t':=s.toks) (λb o d e=>J b o d e) x l m q r⟩
 self:=λZ Z Z Z Z a h=>wpAny_pyIter_rangeiter a h
def vch(K:xr)(tl:TE):TI:=λσ H R=>tl σ H λx H1=>∃a,x=.ref a/\(∃xs,SqL K H1 a xs)/\R (Itl K a) H1
def vfr(K:xr)(tl:TE):TI:=λσ H R=>tl σ H λx H1=>∃a,x=.ref a/\(∃xs,SqT K H1 a xs)/\R (Itt K a) H1
def vx{l:qg}{tl:TE}(hl:PE X l tl):PI X tg l (vch X.K tl):=by
 intro c s σ H R I h;refine thn (hl c s σ H _ I h) λv d h'=>?_;let⟨x,j,f,m,g⟩:=h';let⟨a,e,⟨r,k⟩,q⟩:=g;subst e;cases m;let⟨i,t,p,u⟩:=f.list k;refine wpAny_pyIter_list p.isList ?_;exists d.heap.objs.size,[d.heap.objs.size],_,_,j,rfl,f.kept (t':=d.toks) λb o e=>bj _ e,yid a _,⟨_,bA _ rfl,rfl,rfl⟩,λb n=>?_,q;have e:b=d.heap.objs.size:=by simpa using n
 subst e;exact f.fpOk (bn _) (f.hok.fresh (bn _))
def ye4{l:qg}{tl:TE}(hl:PE X l tl):PI X tg l (vfr X.K tl):=by
 intro d s σ H R I h;refine thn (hl d s σ H _ I h) λv c h'=>?_;let⟨x,j,f,m,i⟩:=h';let⟨a,e,⟨r,k⟩,q⟩:=i;subst e;cases m;let⟨g,t,p,u⟩:=f.tuple k;refine wpAny_pyIter_tuple (show c.heap.IsTuple a g.toArray from p) ?_;exists c.heap.objs.size,[c.heap.objs.size],_,_,j,rfl,f.kept (t':=c.toks) λb o e=>bj _ e,ygq a _,⟨_,bA _ rfl,rfl,rfl⟩,λb n=>?_,q;have e:b=c.heap.objs.size:=by simpa using n
 subst e;exact f.fpOk (bn _) (f.hok.fresh (bn _))
def yed{s:qa}{R:It->Hp->Prop}{lo hi:Int}{t u v:Tok}{tk:Nat}(I:Inv X pins σ H s)(h1:-(2^62)<=lo)(h2:lo<2^62)(h3:-(2^62)<=hi)(h4:hi<2^62)
  (q:R (Itr lo (hi-lo).toNat) H):wpAny (model X.prog X.w) X.A (pyIter (.ref s.heap.objs.size)) (PIE X pins σ tg R) E {s with heap:=s.heap.push { cls:=.type "range",data:=.fields #[.int lo t,.int hi u,.int 1 v]},toks:=tk}:=by
 refine wpAny_pyIter_range (IsRange.new ..) (small_one h1 h2 h3 h4) ?_;have a:Inv X pins σ H {s with heap:=s.heap.push { cls:=.type "range",data:=.fields #[.int lo t,.int hi u,.int 1 v]},toks:=tk}:=I.kept λb o e=>bj _ e
 refine⟨(s.heap.push { cls:=.type "range",data:=.fields #[.int lo t,.int hi u,.int 1 v]}).objs.size,[(s.heap.push { cls:=.type "range",data:=.fields #[.int lo t,.int hi u,.int 1 v]}).objs.size],_,_,H,rfl,
  a.kept (t':=tk) λb o e=>bj _ e,ygg _ lo (hi-lo).toNat,?_,λb f=>?_,q⟩
 .have c:lo+((0:Nat):Int)*1=lo:=by simp
  have d:(((hi-lo).toNat:Nat):Int)-((0:Nat):Int)=Builtin.Range.rangeSize lo hi 1:=by rw[rangeSize_one];split<;>omega
  show IsRangeIter _ _ (lo+((0:Nat):Int)*1) ((((hi-lo).toNat:Nat):Int)-((0:Nat):Int)) 1;rw[c,d];exact bA _ rfl
 .have e:b=(s.heap.push { cls:=.type "range",data:=.fields #[.int lo t,.int hi u,.int 1 v]}).objs.size:=by simpa using f
  subst e;exact a.fpOk (bn _) (a.hok.fresh (bn _))
def vbv(ta:TA):TI:=λσ H R=>ta σ H λvs H1=>∃j:Int,vs=[.int j]/\-(2^62)<=j/\j<2^62/\R (Itr 0 j.toNat) H1
def vcl(ta:TA):TI:=λσ H R=>ta σ H λvs H1=>∃i j:Int,vs=[.int i,.int j]/\(-(2^62)<=i/\i<2^62/\-(2^62)<=j/\j<2^62)/\R (Itr i (j-i).toNat) H1
def È{a:qg}{ta:TA}{pos:Pos}(hg:Gl X "range")(hm:X.mg "range"=none)(ha:PA X [a] ta)(hs:starEach [a] X.env=[(false,eval a X.env)]:=by rfl):PI X tg (.Call (.Name "range" p) [a] [] pos) (vbv ta):=by
 intro b s σ H R I h;refine Call_ (Ĭ I hg hm boot_range (PyProof.Rows.callWith_type1 (thn (ha pos b s σ H _ I h) λm l h'=>?_) hs rfl));let⟨i,k,f,d,c⟩:=h';let⟨j,e,c,g,q⟩:=c;subst e
 cases d with
 |cons r rr =>
  cases rr;let⟨t,rfl⟩:=r;exact call_range_1 (yed f (by omega) (by omega) c g (by simpa using q))
def ya6{a b:qg}{ta:TA}{pos:Pos}(hg:Gl X "range")(hm:X.mg "range"=none)(ha:PA X [a,b] ta)(hs:starEach [a,b] X.env=[(false,eval a X.env),(false,eval b X.env)]:=by rfl)(hs2:starEach [b] X.env=[(false,eval b X.env)]:=by rfl):
  PI X tg (.Call (.Name "range" p) [a,b] [] pos) (vcl ta):=by
 intro c s σ H R I h;refine Call_ (Ĭ I hg hm boot_range (PyProof.Rows.callWith_type1 (thn (ha pos c s σ H _ I h) λv u h'=>?_) (by rw[hs,hs2]) (by rw[hs2];rfl)));let⟨n,o,k,g,d⟩:=h';let⟨i,j,e,⟨d,l,m,f⟩,q⟩:=d;subst e
 cases g with
 |cons r rr =>
  cases rr with
  |cons r' rr =>
   cases rr;let⟨t,rfl⟩:=r;let⟨w,rfl⟩:=r';exact call_range_2 (yed k d l m f q)
def vfo(wi:TI)(g:TG)(tb:TS):TS:=λD σ H=>wi σ H λJ H1=>∃W:Nat->Nat->St->Hp->Prop,(∃m,W 0 m σ H1)/\∀i m σ H,W i m σ H ->
 (J.stop i H/\D.nx σ H)\/(J.go i H/\∃N:Ζ,(∀σ' H',N σ' H'->∃m',m'<m/\W (i+1) m' σ' H')/\∀x H',J.yld i H x H'->g x σ H' λσ2 H2=>tb {D with nx:=N,ct:=N,bk:=D.nx} σ2 H2)
def ye5(fp:Χ)(h:qf):Θ:=fp.filterMap λb=>(h.get? b).map λo=>(b,o)
def uy{h:qf}{b:x0}{o:Obj}(hb:b∈fp)(e:h.get? b=some o):(b,o)∈ye5 fp h:=List.mem_filterMap.mpr ⟨b,hb,by rw[e];rfl⟩
def yhu{h:qf}{p:x0×Obj}(hp:p∈ye5 fp h):p.1∈fp/\h.get? p.1=some p.2:=by
 let⟨b,a,e⟩:=List.mem_filterMap.mp hp
 cases q:h.get? b with
 |none=>rw[q]at e;cases e
 |some o =>
  rw[q]at e;have c:(b,o)=p:=bE e;subst c;exists a,q
def Inv.pinned{s:qa}(I:Inv X pins σ H s)(hf:∀b∈fp,yb9 X pins H b)(ho:∀b∈fp,∃o,s.heap.get? b=some o/\∀v,o.data≠.cell v):Inv X (pins++ye5 fp s.heap) σ H s :=
 I.pins_of λp i=>(bP.mp i).elim (λz=>I.pin p (bT _ z)) λz=>by
  let⟨a,e⟩:=yhu z;let⟨f,g,h,_⟩:=hf p.1 a;let⟨o,c,d⟩:=ho p.1 a;rw[e]at c;cases c;exists e,f,g,h,d
def Inv.unpinned{pl:Θ}{s:qa}(I:Inv X (pins++pl) σ H s):Inv X pins σ H s:=I.pins_of λp a=>I.pin p (bT _ (List.mem_append_left _ a))
def xz{iter:qg}{wi:TI}{g:TG}{tb:TS}{pos:Pos}(hp:PassesOwn (model X.prog X.w) X.A X.env X.xe)(hc:X.calm=true)(hi:PI X tg iter wi)(hg:PG X tg g)(hb:PSs X body tb)
  (hs:∀x,foldedSetIterable iter X.env x=pure x:=by intro _;rfl):PS X (.For tg iter body [] pos) (vfo wi g tb):=by
 refine .mk λa s σ H D I h=>?_;refine wpAny_For (thn (hi a s σ H _ I h) λv s1 h1=>thn h1 λa0 s2 h2=>?_) hs;let⟨it,z,R,J,H2,e,I2,T,P,f2,W,⟨m0,w0⟩,F⟩:=h2;subst e;have j:∀{H':Hp},(∀b∈z,H' b=none)->∀b∈z,yb9 X a H' b:=λhn b hb=>⟨hn b hb,(f2 b hb).2⟩;refine codeAny_forLoop_any (λn Q=>∃i σ' H',Inv X a σ' H' Q/\R i Q.heap/\(∀b∈z,H' b=none)/\W i n σ' H') ?_ m0 ⟨0,σ,H2,I2,P,λb hb=>(f2 b hb).1,w0⟩;rintro n U ⟨i,σ3,G,Y,C,t,w3⟩;rcases F i n σ3 G w3 with⟨E,qn⟩|⟨go,N,hN,B⟩
 .refine wpAny_passesOwn hp (thn (T.done X rfl rfl rfl hc i a U σ3 G X.xe Y (j t) C E) λr s4 ⟨K,I4⟩=>?_);subst K;exact wpAny_execs_nil ⟨σ3,G,I4,qn⟩
 .refine wpAny_passesOwn hp (thn (T.item X rfl rfl rfl hc i a U σ3 G X.xe Y (j t) C go) λr s4 ⟨u,K,h4⟩=>?_);subst K;refine wpAny_passesOwn hp (thn h4 λw S h'=>?_);let⟨x,Z,I5,r5,y5,q,L⟩:=h';have O:=I5.pinned (j L) (T.obj _ _ q);refine wpAny_passesOwn hp (thn (hg _ S σ3 Z x u _ O r5 (B x Z y5)) λw s6 ⟨σ6,H6,I6,q6⟩=>?_);refine wpAny_passesOwn hp (thn (hb _ s6 σ6 H6 _ I6 q6) λf M p=>?_)
  have l:∀{σ7:St}{c:Hp},Inv X (a++ye5 z S.heap) σ7 c M->N σ7 c->∃m,m<n/\∃i σ' H',Inv X a σ' H' M/\R i M.heap/\(∀b∈z,H' b=none)/\W i m σ' H':=λ{σ7 c}k y=>by
   let⟨m',hm,w7⟩:=hN σ7 c y;exists m',hm,i+1,σ7,c,k.unpinned,T.keep _ _ _ q λb hb o e=>(k.pin (b,o) (bT _ (bT _ (uy hb e)))).1,λb hb=>?_,w7;let⟨o,e,d⟩:=T.obj _ _ q b hb;exact(k.pin (b,o) (bT _ (bT _ (uy hb e)))).2.1
  cases f with
  |next=>let⟨σ7,c,k,y⟩:=p;exact l k y
  |cont=>let⟨σ7,c,k,y⟩:=p;exact l k y
  |brk=>let⟨σ7,c,k,p⟩:=p;exact⟨σ7,c,k.unpinned,p⟩
  |ret v=>let⟨x7,σ7,c,k,r7,p⟩:=p;exists x7,σ7,c,k.unpinned,r7,p
def x8{K:xr}{g:TG}{tb:TS}{D:Ă}(Pv:Nat->St->Hp->Prop)(h0:Pv 0 σ H)(hl:∀i σ H,i<=xs.length->Pv i σ H->SqL K H a xs)
  (hs:∀i x σ H,xs[i]?=some x->Pv i σ H->g x σ H λσ2 H2=>tb {D with nx:=Pv (i+1),ct:=Pv (i+1),bk:=D.nx} σ2 H2) (hd:∀σ H,Pv xs.length σ H->D.nx σ H):
  ∃W:Nat->Nat->St->Hp->Prop,(∃m,W 0 m σ H)/\∀i m σ H,W i m σ H ->
   ((Itl K a).stop i H/\D.nx σ H)\/((Itl K a).go i H/\∃N:Ζ,(∀σ' H',N σ' H'->∃m',m'<m/\W (i+1) m' σ' H')/\∀x H',(Itl K a).yld i H x H'->g x σ H' λσ2 H2=>tb {D with nx:=N,ct:=N,bk:=D.nx} σ2 H2):=by
 exists λi m σ H=>m=xs.length-i/\i<=xs.length/\Pv i σ H,⟨xs.length,by simp,bK _,h0⟩,?_;rintro i m σ H ⟨rfl,b,p⟩;have q:=hl i σ H b p;by_cases hlt:i<xs.length
 .refine .inr ⟨⟨xs,xs[i],q,by simp[hlt]⟩,Pv (i+1),λσ' H' c=>⟨xs.length-(i+1),by omega,rfl,hlt,c⟩,λx H' y=>?_⟩;let⟨e,y⟩:=y;subst e;exact hs i x σ _ (y xs q) p
 .have e:i=xs.length:=by omega
  subst e;exact .inl ⟨⟨xs,q,bn _⟩,hd σ H p⟩
def Ç{lo:Int}{n:Nat}{g:TG}{tb:TS}{D:Ă}(Pv:Nat->St->Hp->Prop)(h0:Pv 0 σ H)
  (hs:∀i σ H,i<n->Pv i σ H->g (.int (lo+i)) σ H λσ2 H2=>tb {D with nx:=Pv (i+1),ct:=Pv (i+1),bk:=D.nx} σ2 H2) (hd:∀σ H,Pv n σ H->D.nx σ H):
  ∃W:Nat->Nat->St->Hp->Prop,(∃m,W 0 m σ H)/\∀i m σ H,W i m σ H ->
   ((Itr lo n).stop i H/\D.nx σ H)\/((Itr lo n).go i H/\∃N:Ζ,(∀σ' H',N σ' H'->∃m',m'<m/\W (i+1) m' σ' H')/\∀x H',(Itr lo n).yld i H x H'->g x σ H' λσ2 H2=>tb {D with nx:=N,ct:=N,bk:=D.nx} σ2 H2):=by
 exists λi m σ H=>m=n-i/\i<=n/\Pv i σ H,⟨n,by simp,bK _,h0⟩,?_;rintro i m σ H ⟨rfl,b,p⟩;by_cases hlt:i<n
 .refine .inr ⟨hlt,Pv (i+1),λσ' H' a=>⟨n-(i+1),by omega,rfl,hlt,a⟩,λx H' y=>?_⟩;let⟨e,y⟩:=y;subst e y;exact hs i σ _ hlt p
 .have e:i=n:=by omega
  subst e;exact .inl ⟨bn _,hd σ H p⟩
abbrev R2:=V->V->Hp->VK->Prop
def OpR(X:Cx)(f:qb->qb->Sem qb)(r:R2):Prop :=
 ∀(pins:Θ)(s:qa)(σ:St)(H:Hp)(x y:V)(v u:qb)(Q:VK),Inv X pins σ H s->xk x v->xk y u->r x y H Q ->
  wpAny (model X.prog X.w) X.A (f v u) (EP X pins σ Q) X.xe s
def UnR(X:Cx)(f:qb->Sem qb)(r:V->Hp->VK->Prop):Prop :=
 ∀(pins:Θ)(s:qa)(σ:St)(H:Hp)(x:V)(v:qb)(Q:VK),Inv X pins σ H s->xk x v->r x H Q ->
  wpAny (model X.prog X.w) X.A (f v) (EP X pins σ Q) X.xe s
def zh(X:Cx)(f:qb)(r:qi V->Hp->VK->Prop):Prop :=
 ∀(pins:Θ)(s:qa)(σ:St)(H:Hp)(xs:Υ)(us:Ο)(Q:VK),Inv X pins σ H s->wu xs us->r xs H Q ->
  wpAny (model X.prog X.w) X.A (call f us) (EP X pins σ Q) X.xe s
def tOp(r:R2)(ta tb:TE):TE:=λσ H Q=>ta σ H λx H1=>tb σ H1 λy H2=>r x y H2 Q
def tUn(r:V->Hp->VK->Prop)(ta:TE):TE:=λσ H Q=>ta σ H λx H1=>r x H1 Q
def rI(C:Int->Int->Prop)(g:Int->Int->V):R2:=λx y H Q=>∃i j,x=.int i/\y=.int j/\C i j/\Q (g i j) H
def rI0(g:Int->Int->V):R2:=λx y H Q=>∃i j,x=.int i/\y=.int j/\Q (g i j) H
def rU(g:Int->V):V->Hp->VK->Prop:=λx H Q=>∃i,x=.int i/\Q (g i) H
section
variable{a b c:qg}{tb tc:TE}{pos:Pos}
def vcz(ha:PE X a ta)(hb:PE X b tb){s:qa}{R:V->V->Hp->Prop}(I:Inv X pins σ H s)
  (h:ta σ H λx H1=>tb σ H1 λy H2=>R x y H2) {Q:Δ} {f:qb->qb->Sem qb}
  (hf:∀v u s2 x y H2,Inv X pins σ H2 s2->xk x v->xk y u->R x y H2->wpAny (model X.prog X.w) X.A (f v u) Q X.xe s2):
  wpAny (model X.prog X.w) X.A (eval a X.env) (λv s₁=>wpAny (model X.prog X.w) X.A (eval b X.env) (λu s₂=>wpAny (model X.prog X.w) X.A (f v u) Q X.xe s₂) X.xe s₁) X.xe s:=by refine thn (ha pins s σ H _ I h) λv d h'=>?_;let⟨x,H1,i,e,c⟩:=h';refine thn (hb pins d σ H1 _ i c) λu s2 h'=>?_;let⟨y,H2,k,g,j⟩:=h';exact hf v u s2 x y H2 k e g j
def ym{op:Operator}{r:R2}(ho:OpR X (binaryOp op) r)(ha:PE X a ta)(hb:PE X b tb):PE X (.BinOp a op b pos) (tOp r ta tb):=by refine .mk λc s σ H Q I h=>?_;exact wpAny_BinOp (vcz ha hb I h λv u i x y d g e f q=>ho c i σ d x y v u Q g e f q)
def vcf{op:UnaryOp}{r:V->Hp->VK->Prop}(ho:UnR X (unaryOp op) r)(ha:PE X a ta):PE X (.UnaryOp op a pos) (tUn r ta):=by refine .mk λb s σ H Q I h=>?_;exact UnaryOp_ (thn (ha b s σ H _ I h) λv e ⟨x,d,g,f,c⟩=>ho b e σ d x v Q g f c)
def opI{f:qb->qb->Sem qb}{C:Int->Int->Prop}{g:Int->Int->Int}
  (rule:∀(i j:Int)(t u:Tok)(s:qa)(Q:Δ)(E:Δ),C i j->Q (.int (g i j) s.toks) {s with toks:=s.toks+1}->wpAny (model X.prog X.w) X.A (f (.int i t) (.int j u)) Q E s):
  OpR X f (rI C λi j=>.int (g i j)):=by intro a s σ H x y v u Q I b c h;let⟨i,j,rfl,rfl,e,q⟩:=h;let⟨t,rfl⟩:=b;let⟨d,rfl⟩:=c;exact rule i j t d s _ _ e ⟨.int (g i j),H,I.tok _,⟨_,rfl⟩,q⟩
def ve1{f:qb->qb->Sem qb}{g:Int->Int->Int}
  (rule:∀(i j:Int)(t u:Tok)(s:qa)(Q:Δ)(E:Δ),Q (.int (g i j) s.toks) {s with toks:=s.toks+1}->wpAny (model X.prog X.w) X.A (f (.int i t) (.int j u)) Q E s):
  OpR X f (rI0 λi j=>.int (g i j)):=by intro a s σ H x y v u Q I d c h;let⟨i,j,rfl,rfl,q⟩:=h;let⟨t,rfl⟩:=d;let⟨b,rfl⟩:=c;exact rule i j t b s _ _ ⟨.int (g i j),H,I.tok _,⟨_,rfl⟩,q⟩
def vc5{f:qb->qb->Sem qb}{g:Int->Int->Bool}
  (rule:∀(i j:Int)(t u:Tok)(s:qa)(Q:Δ)(E:Δ),Q (.bool (g i j)) s->wpAny (model X.prog X.w) X.A (f (.int i t) (.int j u)) Q E s):
  OpR X f (rI0 λi j=>.bl (g i j)):=by intro a s σ H x y v u Q I d c h;let⟨i,j,rfl,rfl,q⟩:=h;let⟨t,rfl⟩:=d;let⟨b,rfl⟩:=c;exact rule i j t b s _ _ ⟨.bl (g i j),H,I,rfl,q⟩
def veo(i j:Int):Prop:=(-(2^64)<i/\i<2^64)\/(-(2^64)<j/\j<2^64)
def veo.ok{i j:Int}(h:veo i j):IntMulOk i j:=by
 rcases h with⟨a,b⟩|⟨a,b⟩
 .exact .of_left (intBits_le_64 a b)
 .exact .of_right (intBits_le_64 a b)
def ygf(k:Nat):(0:Int)<=2^k:=by rw[two_pow_cast];exact Int.natCast_nonneg _
def wc:OpR X (binaryOp .Add) (rI0 λi j=>.int (i+j)):=ve1 λZ Z Z Z Z Z Z q=>add_int q
def zx:OpR X (binaryOp .Sub) (rI0 λi j=>.int (i-j)):=ve1 λZ Z Z Z Z Z Z q=>sub_int q
def wq:OpR X (binaryOp .Mult) (rI veo λi j=>.int (i*j)):=opI λZ Z Z Z Z Z Z a q=>mul_int q a.ok
def vo:OpR X (binaryOp .Mod) (rI (λZ j=>0<j) λi j=>.int (i%j)):=opI λi j Z Z Z Z Z a q=>by
 have b:(0:Int)<j:=a;exact mod_int' (by omega) (by rw[Int.fmod_eq_emod_of_nonneg i (by omega)];exact q)
def yp6:OpR X (binaryOp .RShift) (rI (λZ j=>0<=j) λi j=>.int (i/2^j.toNat)):=opI λi j Z Z Z Z Z a q =>
 rshift_int a (by rw[Int.fdiv_eq_ediv_of_nonneg i (ygf _)];exact q)
def ypb:OpR X (binaryOp .BitAnd) (rI0 λi j=>.int (Builtin.bitAnd i j)):=ve1 λZ Z Z Z Z Z Z q=>and_int q
def unI{f:qb->Sem qb}{g:Int->Int}
  (rule:∀(i:Int)(t:Tok)(s:qa)(Q:Δ)(E:Δ),Q (.int (g i) s.toks) {s with toks:=s.toks+1}->wpAny (model X.prog X.w) X.A (f (.int i t)) Q E s):
  UnR X f (rU λi=>.int (g i)):=by intro a s σ H x v Q I b h;let⟨i,rfl,q⟩:=h;let⟨t,rfl⟩:=b;exact rule i t s _ _ ⟨.int (g i),H,I.tok _,⟨_,rfl⟩,q⟩
def yoj:UnR X (unaryOp .USub) (rU λi=>.int (-i)):=unI λZ Z Z Z Z q=>neg_int q
end
def vev:V->V->Bool
 | .non,.non=>true| .non,.int _=>true| .int _,.non=>true| .non,.bl _=>true| .bl _,.non=>true| .non,.str _=>true| .str _,.non=>true
 | .int _,.int _=>true| .bl _,.bl _=>true| .str _,.str _=>true| .byt _,.byt _=>true
 | .int _,.str _=>true| .str _,.int _=>true| .bl _,.str _=>true| .str _,.bl _=>true
 |_,_=>false
def rEq:R2:=λx y H Q=>vev x y=true/\Q (.bl (decide (x=y))) H
def ysi{i j:Int}:decide (V.int i=V.int j)=(i == j):=by rw[Bool.eq_iff_iff];simp
def yyl{i j:Bool}:decide (V.bl i=V.bl j)=(i == j):=by rw[Bool.eq_iff_iff];simp
def yrs{i j:Str}:decide (V.str i=V.str j)=(i == j):=by rw[Bool.eq_iff_iff];simp
def yr3{i j:Array UInt8}:decide (V.byt i=V.byt j)=(i.toList == j.toList):=by rw[Bool.eq_iff_iff];cases i;cases j;simp
section
variable{a b c:qg}{tb tc:TE}{pos:Pos}
def uf{s:qa}{Q:VK}{k k':Bool}(I:Inv X pins σ H s)(q:Q (.bl k) H)(e:k=k'):EP X pins σ Q (.bool k') s:=by subst e;exists .bl k,H,I,rfl,q
def xq:OpR X (compareOp .Eq) rEq:=by
 intro e s σ H x y v u Q I d a h;let⟨c,q⟩:=h
 cases x with
 |non =>
  cases d
  cases y with
  |non=>cases a;exact PySem.EqNone.eq_none_none (uf I q (by simp))
  |bl j=>cases a;exact PySem.EqNone.eq_none_bool (uf I q (by simp))
  |int j=>let⟨b,rfl⟩:=a;exact PySem.EqNone.eq_none_int (uf I q (by simp))
  |str j=>let⟨b,rfl⟩:=a;exact PySem.EqNone.eq_none_str (uf I q (by simp))
  |_=>exact absurd (show false=true from c) bM
 |bl i =>
  cases d
  cases y with
  |non=>cases a;exact PySem.EqNone.eq_bool_none (uf I q (by simp))
  |bl j=>cases a;exact eq_bool (uf I q yyl)
  |str j=>let⟨b,rfl⟩:=a;exact PySem.EqMixed.eq_bool_str (uf I q (by simp))
  |_=>exact absurd (show false=true from c) bM
 |int i =>
  let⟨t,rfl⟩:=d
  cases y with
  |non=>cases a;exact PySem.EqNone.eq_int_none (uf I q (by simp))
  |int j=>let⟨b,rfl⟩:=a;exact eq_int (uf I q ysi)
  |str j=>let⟨b,rfl⟩:=a;exact PySem.EqMixed.eq_int_str (uf I q (by simp))
  |_=>exact absurd (show false=true from c) bM
 |str i =>
  let⟨t,rfl⟩:=d
  cases y with
  |non=>cases a;exact PySem.EqNone.eq_str_none (uf I q (by simp))
  |bl j=>cases a;exact PySem.EqMixed.eq_str_bool (uf I q (by simp))
  |int j=>let⟨b,rfl⟩:=a;exact PySem.EqMixed.eq_str_int (uf I q (by simp))
  |str j=>let⟨b,rfl⟩:=a;exact eq_str (uf I q yrs)
  |_=>exact absurd (show false=true from c) bM
 |byt i =>
  let⟨t,rfl⟩:=d
  cases y with
  |byt j=>let⟨b,rfl⟩:=a;exact W.eq_bytes (uf I q yr3)
  |_=>exact absurd (show false=true from c) bM
 |_=>cases y<;>exact absurd (show false=true from c) bM
def ò:OpR X (compareOp .Lt) (rI0 λi j=>.bl (decide (i<j))):=vc5 λZ Z Z Z Z Z Z q=>lt_int q
def jg:OpR X (compareOp .LtE) (rI0 λi j=>.bl (decide (i<=j))):=vc5 λZ Z Z Z Z Z Z q=>le_int q
def yb5:OpR X (compareOp .Gt) (rI0 λi j=>.bl (decide (j<i))):=vc5 λZ Z Z Z Z Z Z q=>gt_int q
def vc8:OpR X (compareOp .GtE) (rI0 λi j=>.bl (decide (j<=i))):=vc5 λZ Z Z Z Z Z Z q=>ge_int q
def yie:OpR X (compareOp .In) (λx y H Q=>∃i j,x=.str i/\y=.str j/\Q (.bl (!(Builtin.Str.occurrences j i 0 j.length 1).isEmpty)) H):=by intro a s σ H x y v u Q I c b h;let⟨i,j,rfl,rfl,q⟩:=h;let⟨t,rfl⟩:=c;let⟨d,rfl⟩:=b;exact in_str (uf I q rfl)
def yet:OpR X (compareOp .Is) (λx y H Q=>y=.non/\Q (.bl (decide (x=.non))) H):=by
 intro a s σ H x y v u Q I b c h;let⟨rfl,q⟩:=h;cases c;refine is_none_gen (uf I q ?_)
 cases x<;>first
  |(cases b;rfl)
  |(let⟨t,rfl⟩:=b;rfl)
def yae:OpR X (compareOp .IsNot) (λx y H Q=>y=.non/\Q (.bl (!decide (x=.non))) H):=by
 intro a s σ H x y v u Q I b c h;let⟨rfl,q⟩:=h;cases c;refine isnot_none_gen (uf I q ?_)
 cases x<;>first
  |(cases b;rfl)
  |(let⟨t,rfl⟩:=b;rfl)
def yx(b:qg)(h:op≠.In:=by decide)(h2:op≠.NotIn:=by decide):behindInMarks op b=false:=by
 have a:(op == CmpOp.In)=false:=by cases op<;>first|rfl|exact absurd rfl h
 have c:(op == CmpOp.NotIn)=false:=by cases op<;>first|rfl|exact absurd rfl h2
 cases b<;>simp[behindInMarks,a,c]
def xv{r:R2}(ho:OpR X (compareOp op) r)(ha:PE X a ta)(hb:PE X b tb)(hm:behindInMarks op b=false):PE X (.Compare a [op] [b] pos) (tOp r ta tb):=by refine .mk λc s σ H Q I h=>?_;exact wpAny_Compare1 (vcz ha hb I h λv u i x y d g e f q=>ho c i σ d x y v u Q g e f q) hm
def yu7(t:TE):TT:=λσ H Q=>t σ H λx H'=>∃k,x=.bl k/\Q k H'
def yr{r:R2}(ho:OpR X (compareOp op) r)(ha:PE X a ta)(hb:PE X b tb)(hm:behindInMarks op b=false):PT X (.Compare a [op] [b] pos) (yu7 (tOp r ta tb)):=by
 refine .mk λd s σ H Q I h=>?_
 refine wpAny_isTrue_Compare1 (thn (ha d s σ H _ I h) λv l ⟨x,g,p,n,f⟩=>thn (hb d l σ g _ p f) λu A ⟨y,i,w,o,t⟩ =>
  thn (ho d A σ i x y v u _ w n o t) λc C ⟨z,q,j,m,k,e,B⟩=>?_) hm
 subst e;cases m;exact cE ⟨q,j,B⟩
def yj3(r r':R2)(ta tb tc:TE):TE:=λσ H Q=>ta σ H λx H1=>tb σ H1 λy H2=>r x y H2 λz H3=>∃k,z=.bl k/\
 (if k=true then tc σ H3 λw' H4=>r' y w' H4 Q else Q (.bl false) H3)
def Í{op':CmpOp}{r r':R2}(ho:OpR X (compareOp op) r)(ho':OpR X (compareOp op') r')(ha:PE X a ta)(hb:PE X b tb)(hc:PE X c tc)
  (hm:lastMarks [op,op'] [b,c]=false:=by with_unfolding_all rfl):PE X (.Compare a [op,op'] [b,c] pos) (yj3 r r' ta tb tc):=by
 refine .mk λf s σ H Q I h=>?_
 refine Compare_chain (thn (ha f s σ H _ I h) λv C ⟨x,p,q,L,J⟩=>chain_link (thn (hb f C σ p _ q J) λu G ⟨y,K,F,g,w⟩ =>
  thn (ho f G σ K x y v u _ F L g w) λd B ⟨z,i,j,D,k,e,l⟩=>?_)) hm
 subst e;cases D;refine cE ?_
 cases k with
 |false=>exact ite_ff ⟨.bl false,i,j,rfl,l⟩
 |true=>exact ite_tt (chain_last (thn (hc f B σ i _ j l) λt M ⟨E,o,m,n,A⟩=>ho' f M σ o y E u t Q m g n A))
def yaa{op':CmpOp}{r r':R2}(ho:OpR X (compareOp op) r)(ho':OpR X (compareOp op') r')(ha:PE X a ta)(hb:PE X b tb)(hc:PE X c tc)
  (hm:lastMarks [op,op'] [b,c]=false:=by with_unfolding_all rfl):PT X (.Compare a [op,op'] [b,c] pos) (yu7 (yj3 r r' ta tb tc)):=by
 refine .mk λf s σ H Q I h=>?_
 refine isTrue_chain (thn (ha f s σ H _ I h) λv D ⟨x,p,q,O,M⟩=>test_link (thn (hb f D σ p _ q M) λu L ⟨y,N,K,g,w⟩ =>
  thn (ho f L σ N x y v u _ K O g w) λd B ⟨z,i,j,E,k,e,l⟩=>?_)) hm
 subst e;cases E;refine cE ?_
 cases k with
 |false =>
  let⟨k',U,F⟩:=l;cases U;exact ite_ff ⟨i,j,F⟩
 |true =>
  refine ite_tt (test_last (thn (hc f B σ i _ j l) λt P ⟨G,o,m,n,A⟩=>thn (ho' f P σ o y G u t _ m g n A) λZ Y h'=>?_));let⟨W,S,R,J,k2,C,T⟩:=h';subst C;cases J;exact cE ⟨S,R,T⟩
def yby:(sizeLine:Nat)<2^63:=by rw[sizeLine_eq];decide
def Þ:OpR X (binaryOp .Add) (λx y H Q=>∃i j,x=.str i/\y=.str j/\i.length+j.length<=sizeLine/\Q (.str (i++j)) H):=by intro a s σ H x y v u Q I b d h;let⟨i,j,rfl,rfl,c,q⟩:=h;let⟨t,rfl⟩:=b;let⟨e,rfl⟩:=d;exact add_str (λe f=>⟨.str (i++j),H,I.tok _,⟨_,rfl⟩,q⟩) c
def ymp(b:qg):Prop:=∀o i,subscripted b false o i=operate [o,i] (getItem o i)
def ο(ha:PE X a ta)(hb:PE X b tb)(hs:ymp b):
  PE X (.Subscript a b pos) (tOp (λx y H Q=>∃z i c,x=.str z/\y=.int i/\0<=i/\i<2^63/\i<z.length/\z.cps[i.toNat]?=some c/\Q (.str ⟨#[c]⟩) H) ta tb):=by
 refine .mk λd s σ H Q I h=>?_;refine Subscript_ (vcz ha hb I h λv u w x y f o j l q=>?_);let⟨z,i,c,rfl,rfl,k,g,m,r,q⟩:=q;let⟨t,rfl⟩:=j;let⟨A,rfl⟩:=l;have e:seqIndex? i z.length=some i.toNat:=PySem.StrLaws.seqIndex_nonneg k m
 exact tail_any (typeIs_str w z t) slot_str_getitem.lookup (getItem_str (c:=c) (by
  have p:decide (i< -(2^63:Int))=false:=bD (by omega);have n:decide (i ≥ 2^63)=false:=bD (by omega);rw[p,n]<;>rfl) (by rw[e];exact r) ⟨.str ⟨#[c]⟩,f,o.tok _,⟨_,rfl⟩,q⟩) (hs _ _)
def γ{x:V}(r:wu [x] us):∃u,us=[u]/\xk x u:=by
 cases r with
 |cons r1 r2=>cases r2;exists _,rfl,r1
def ytx{x:V}(r:wu [x,y] us):∃u w',us=[u,w']/\xk x u/\xk y w':=by
 cases r with
 |cons r1 r2 =>
  cases r2 with
  |cons r3 r4=>cases r4;exists _,_,rfl,r1,r3
def ē(hc:X.calm=true):zh X (.builtin "max") (λxs H Q=>∃i j,xs=[.int i,.int j]/\Q (.int (if j > i then j else i)) H):=by
 intro a s σ H xs c Q I r h;let⟨i,j,rfl,q⟩:=h;let⟨u,d,rfl,⟨t,rfl⟩,⟨f,rfl⟩⟩:=ytx r;refine max_two_ints (I.ok.hd hc) λe b k=>⟨_,H,I.kept k,?_,q⟩;by_cases hj:j > i
 .rw[if_pos hj,if_pos hj];exists _,rfl
 .rw[if_neg hj,if_neg hj];exists _,rfl
def Ĕ(hc:X.calm=true):zh X (.builtin "min") (λxs H Q=>∃i j,xs=[.int i,.int j]/\Q (.int (if j<i then j else i)) H):=by
 intro a s σ H xs c Q I r h;let⟨i,j,rfl,q⟩:=h;let⟨u,d,rfl,⟨t,rfl⟩,⟨f,rfl⟩⟩:=ytx r;refine min_two_ints (I.ok.hd hc) λe b k=>⟨_,H,I.kept k,?_,q⟩;by_cases hj:j<i
 .rw[if_pos hj,if_pos hj];exists _,rfl
 .rw[if_neg hj,if_neg hj];exists _,rfl
def yh9:zh X (.type "int") (λxs H Q=>(∃i,xs=[.int i]/\Q (.int i) H)\/∃k,xs=[.bl k]/\Q (.int (if k then 1 else 0)) H):=by
 intro a s σ H xs c Q I r h;rcases h with⟨i,rfl,q⟩|⟨k,rfl,q⟩
 .obtain⟨u,rfl,t,rfl⟩:=γ r;exact call_int_int ⟨.int i,H,I,⟨_,rfl⟩,q⟩
 .obtain⟨u,rfl,b⟩:=γ r;cases b;exact call_int_bool ⟨.int (if k then 1 else 0),H,I.tok _,⟨_,rfl⟩,q⟩
end
structure ywj(h:qf)(x dx C:x0)(mA:Ε):Prop where
 obj:h.get? x=some (W.instObj C dx)
 ns:h.Ns1 dx mA
 ne:dx≠x
set_option tactic.hygienic true in
def yit{h:qf}{dx:x0}(n:h.Ns1 dx mA):∃od,h.get? dx=some od/\∀name,W.lookIn name od=some (mA name):=by
 let⟨o,c,l,d,k,i,_,f⟩:=n;exists o,d,λname=>?_;have e:=f name;unfold nsFind findBy at e;rw[<- Array.find?_toList]at e;unfold W.lookIn;rw[k];dsimp only
 split
 .rename_i y q
  rw[q]at e;exact congrArg some e
 .rename_i q
  rw[q]at e
  have a:c.toList.any (·.refKey)=false:=by
   rw[List.any_eq_false];intro y g;let⟨z,t,b⟩:=i y (Array.mem_toList_iff.mp g);simp[DictEntry.refKey,b]
  have j:¬c.toList.any (·.refKey)=true:=by rw[a];exact bM
  rw[if_neg j];exact congrArg some e
def ywj.look{h:qf}{x dx:x0}(I:ywj h x dx C mA):∃od,W.InstAt h x (W.instObj C dx) C (some od)/\∀name,W.lookIn name od=some (mA name) :=
 let ⟨od,ho,hl⟩:=yit I.ns
 ⟨od,⟨I.obj,rfl,rfl,ho⟩,hl⟩
section
variable{prog:qh}{w:qd}{A:qe}{s:qa}{K:xr}{x dx f:x0}{name:Str}{v:qb}
def yqu{expr:Bool}(X:K.In s.heap)(I:ywj s.heap x dx C mA)(hg:W.plainGet K C name=true)(hh:W.hasDictIn K C=true)
  (ha:W.findIn K (.ref C) name=some none) (hv:mA name=some v) (hv':W.handedIn v=true) (h:Q v {s with toks:=s.toks+1}):
  wpAny (model prog w) A (getAttr (.ref x) name expr) Q E s:=by let⟨b,J,a⟩:=I.look;exact W.get_value X J (W.plainGet_of hg).1 (W.findObj_own hh ha rfl (by rw[a,hv])) hv' h
def ynd{pl:Sem Bool}{Q:qb×qi qb->qa->Prop}(X:K.In s.heap)(I:ywj s.heap x dx C mA)(hg:W.plainGet K C name=true)
  (hf:W.findIn K (.ref C) name=some (some (.ref f))) (ht:W.isFn K (.ref f)=true) (hv:mA name=none) (h:Q (.ref f,[.ref x]) s):
  wpAny (model prog w) A (getMethod (.ref x) name pl) Q E s:=by let⟨b,J,a⟩:=I.look;exact W.method_fn X J (W.plainGet_of hg).1 (W.plainGet_of hg).2 hf (beq_iff_eq.mp ht) (by show (W.lookIn name b).map (·.isSome)=some false;rw[a,hv];rfl) h
def yqz{ns:Τ}{Q:Unit->qa->Prop}(X:K.In s.heap)(I:ywj s.heap x dx C mA)
  (hs:W.findIn K (.ref C) "__setattr__"=some (some (.builtin "object.__setattr__"))) (hp:W.plainOver K C=true) (ht:W.takerIn K C name=some none) (hh:W.hasDictIn K C=true)
  (hw:PySem.Within mA ns) (hsz:ns.length<=sizeLine)
  (h:∀h',ywj h' x dx C (λy=>if y=name then some v else mA y)->Heap.SameBut dx s.heap h'->Q () {s with heap:=h',toks:=s.toks+2}):
  wpAny (model prog w) A (setAttr (.ref x) name v) Q E s:=by let⟨o,J,q⟩:=I.look;refine W.set_plain X J hs (W.osa_open (s:={s with toks:=s.toks+1}) (r:=none) X J hp ht λb=>?_);let⟨n,m,e⟩:=W.any_some hh;have k:s.heap.get? x=some ⟨.ref C,some dx,.plain,#[]⟩:=I.obj;refine bg (bp (bg (bg (wpAny_loadPart k (bg (W.Looks.here (s:={s with toks:=s.toks+1}) (W.looks_clsIn X m) ?_))))));rw[e];refine bp (a:=some dx) (bg (bp (bg ?_)));refine wpAny_nsSet1 (s:={s with toks:=s.toks+1}) I.ns λh' c d=>?_;let⟨p,j,l,i,f,g⟩:=c.count (PySem.Within.cons name v hw);refine bg (wpAny_lookBehind i (by rw[f];exact pastItsLine_dict (bQ g (by rw[bX];omega))) ?_);exact bp (h _ ⟨(d.2 _ (Ne.symm I.ne)).trans I.obj,c,I.ne⟩ d)
def ydr{R:Result->qa->Prop}{vs:Ο}(X:K.In s.heap)(hm:W.makesIn K C=true)
  (hi:W.findIn K (.ref C) "__init__"=some (some (.ref f))) (hf:W.typeIn K (.ref f)=some (.type "function"))
  (h:codeAny (model prog w) (A.under (.builtin "type.__call__" ⟨.ref C::vs,kw⟩)) (.call (.ref f) ⟨.ref (s.heap.objs.size+1)::vs,kw⟩) (W.InitBack (s.heap.objs.size+1) R)
   {s with heap:=(s.heap.push W.emptyDict).push (W.instObj C s.heap.objs.size)}):
  codeAny (model prog w) A (.call (.ref C) ⟨vs,kw⟩) R s:=by let⟨c,g,d,t,b⟩:=s;exact W.make_core (W.makes_of X hm) (W.looks_findIn X hi) (λa=>W.bind_fn X a hf) (.inl rfl) h
end
def j9(f:Str)(v:V):qi (Str×V)->qi (Str×V)
 |[]=>[(f,v)]
 |(g,x)::r=>if g=f then (g,v)::r else (g,x)::j9 f v r
theorem Č(f g:Str)(v:V):∀fs:Ι,(j9 f v fs).lookup g=if g=f then some v else fs.lookup g
 |[]=>by
  show List.lookup g [(f,v)]=_;by_cases h:g=f
  .have a:(g == f)=true:=beq_iff_eq.mpr h;simp only[List.lookup,a,if_pos h]
  .have a:(g == f)=false:=cS.mpr h;simp only[List.lookup,a,if_neg h]
 |(k,x)::r=>by
  have b:=Č f g v r;rw[show j9 f v ((k,x)::r)=(if k=f then (k,v)::r else (k,x)::j9 f v r)from rfl];by_cases hk:k=f
  .rw[if_pos hk];by_cases h:g=k
   .have a:(g == k)=true:=beq_iff_eq.mpr h;simp only[List.lookup,a,if_pos (h.trans hk)]
   .have a:(g == k)=false:=cS.mpr h;simp only[List.lookup,a,if_neg (λe:g=f=>h (e.trans hk.symm))]
  .rw[if_neg hk];by_cases h:g=k
   .have a:(g == k)=true:=beq_iff_eq.mpr h;simp only[List.lookup,a,if_neg (λe:g=f=>hk (h.symm.trans e))]
   .have a:(g == k)=false:=cS.mpr h;simp only[List.lookup,a];exact b
theorem ě(f:Str)(v:V):∀fs:Ι,f∈(j9 f v fs).map (·.1)/\∀g,g∈fs.map (·.1)->g∈(j9 f v fs).map (·.1)
 |[]=>⟨by simp[j9],λg h=>by simp at h⟩
 |(k,x)::r=>by
  let⟨a,b⟩:=ě f v r;rw[show j9 f v ((k,x)::r)=(if k=f then (k,v)::r else (k,x)::j9 f v r)from rfl];by_cases hk:k=f
  .rw[if_pos hk];subst hk;exists by simp,λg h=>by simpa using h
  .rw[if_neg hk];exists ?_,λg h=>?_
   .rw[bU];exact bN _ a
   .rw[bU]at h⊢;rcases bC.mp h with e|e
    .exact bC.mpr (.inl e)
    .exact bN _ (b g e)
theorem ċ(f:Str)(v:V):∀fs:Ι,(j9 f v fs).length<=fs.length+1
 |[]=>by simp[j9]
 |(k,x)::r=>by
  have a:=ċ f v r;rw[show j9 f v ((k,x)::r)=(if k=f then (k,v)::r else (k,x)::j9 f v r)from rfl];by_cases hk:k=f
  .rw[if_pos hk,bX,bX];omega
  .rw[if_neg hk,bX,bX];omega
def yb8.some_of{o:qj qb}(r:yb8 (some v) o):∃u,o=some u/\xk v u:=by
 cases o with
 |none=>exact(show False from r).elim
 |some u=>exact⟨u,rfl,r⟩
def yb8.none_of{o:qj qb}(r:yb8 none o):o=none:=by
 cases o with
 |none=>rfl
 |some u=>exact(show False from r).elim
def yhz(r:xk v u):W.handedIn u=true:=by
 cases v with
 |non=>cases (show u=Value.none from r);rfl
 |bl b=>cases (show u=Value.bool b from r);rfl
 |int i=>let⟨t,e⟩:=(show ∃t,u=Value.int i t from r);cases e;rfl
 |str x=>let⟨t,e⟩:=(show ∃t,u=Value.str x t from r);cases e;rfl
 |byt b=>let⟨t,e⟩:=(show ∃t,u=Value.bytes b t from r);cases e;rfl
 |flt b=>let⟨t,e⟩:=(show ∃t,u=Value.float b t from r);cases e;rfl
 |ref a=>cases (show u=Value.ref a from r);rfl
 |ty n=>cases (show u=Value.type n from r);rfl
section
variable{w:qd}{h:qf}{dx:x0}{fs fs':Ι}
def yai(hok:HOk P w H h)(e:H a=some (.ins C dx fs)):∃mA,ywj h a dx C mA/\(∀f,yb8 (fs.lookup f) (mA f))/\PySem.Within mA (fs.map (·.1))/\fs.length<=1000/\H dx=some (.own a):=by let⟨d,z,b,c,mA,n,r,q⟩:=(show w8 P w H h a (.ins C dx fs)from hok a _ e);exists mA,⟨c,n,b⟩,r,q,z,d
end
structure Cls(K:xr)(C:x0):Prop where
 pg:W.plainGet K C Str.empty=true
 hd:W.hasDictIn K C=true
 po:W.plainOver K C=true
 sa:W.findIn K (.ref C) "__setattr__"=some (some (.builtin "object.__setattr__"))
def Cls.get{K:xr}(c:Cls K C)(f:Str):W.plainGet K C f=true:=c.pg
def vj(K:xr)(C:x0)(f:Str):Prop:=W.findIn K (.ref C) f=some none
def vj.taker{K:xr}{f:Str}(n:vj K C f):W.takerIn K C f=some none:=by unfold W.takerIn;rw[show W.findIn K (.ref C) f=some none from n];rfl
structure Con(K:xr)(C:x0)(f:Str)(v:V)(u:qb):Prop where
 at_:W.findIn K (.ref C) f=some (some u)
 rel:xk v u
 get:W.specialIn K u "__get__"=some none
 cp:W.copiedNames.contains f=false
structure ywf(K:xr)(C:x0)(m:Str)(f:x0):Prop where
 at_:W.findIn K (.ref C) m=some (some (.ref f))
 fn:W.isFn K (.ref f)=true
 kp:W.keepIn K (.ref f)=true
section
variable{s:qa}{dx:x0}{fs:Ι}{f:Str}{A:qe}
def ygo{b:Bool}(I:Inv X pins σ H s)(e:H a=some (.ins C dx fs))(c:Cls X.K C)(n:vj X.K C f)(l:fs.lookup f=some v)
  (h:∀u s',Inv X pins σ H s'->xk v u->Q u s'):wpAny (model X.prog X.w) A (getAttr (.ref a) f b) Q E s:=by let⟨i,O,r,_,_,_⟩:=yai I.hok e;let⟨u,g,d⟩:=yb8.some_of (v:=v) (o:=i f) (by rw[<- l];exact r f);exact yqu I.kIn O (c.get f) c.hd n g (yhz d) (h u _ (I.tok _) d)
def ß{m:Str}{g:x0}{pl:Sem Bool}{Q:qb×qi qb->qa->Prop}(I:Inv X pins σ H s)(e:H a=some (.ins C dx fs))(c:Cls X.K C)(k:ywf X.K C m g)(l:fs.lookup m=none)
  (h:Q (.ref g,[.ref a]) s):wpAny (model X.prog X.w) A (getMethod (.ref a) m pl) Q E s:=by let⟨d,O,r,_,_,_⟩:=yai I.hok e;have b:d m=none:=yb8.none_of (by rw[<- l];exact r m);exact ynd I.kIn O (c.get m) k.at_ k.fn b h
def yfl{Q:Unit->qa->Prop}(I:Inv X pins σ H s)(e:H a=some (.ins C dx fs))(c:Cls X.K C)(n:vj X.K C f)(hl:fs.length<1000)(ry:xk y u)
  (h:∀s',Inv X pins σ (upd H a (.ins C dx (j9 f y fs))) s'->Q () s'):wpAny (model X.prog X.w) A (setAttr (.ref a) f u) Q E s:=by
 let⟨j,O,r,k,_,i⟩:=yai I.hok e;have m:(fs.map (·.1)).length<=sizeLine:=by rw[bf,sizeLine_eq];omega
 refine yqz I.kIn O c.sa c.po n.taker c.hd k m λB d l=>h _ ?_;have v:∃o,B.get? dx=some o:=let ⟨o,_,_,e',_⟩:=d.ns;⟨o,e'⟩;refine I.write (x:=a) (e:=dx) (by rw[e];exact True.intro) (.inr i) (λb q p z=>(l.2 b p).trans z) v ?_;exists by rw[yk O.ne];exact i,?_,O.ne,d.obj,_,d.ns,λg=>?_,λg t=>?_
 .have:=ċ f y fs;omega
 .show yb8 ((j9 f y fs).lookup g) (if g=f then some u else j g);rw[Č];by_cases q:g=f
  .rw[if_pos q,if_pos q];exact ry
  .rw[if_neg q,if_neg q];exact r g
 .by_cases q:g=f
  .rw[q];exact(ě f y fs).1
  .refine(ě f y fs).2 g (k g λz=>t ?_);show (if g=f then some u else j g)=none;rw[if_neg q];exact z
def Inv.made(I:Inv X pins σ H s):Inv X pins σ (upd (upd H s.heap.objs.size (.own (s.heap.objs.size+1))) (s.heap.objs.size+1) (.ins C s.heap.objs.size []))
  {s with heap:=(s.heap.push W.emptyDict).push (W.instObj C s.heap.objs.size)}:=by
 have d:(s.heap.push W.emptyDict).get? s.heap.objs.size=some W.emptyDict:=bA s.heap rfl
 have i:((s.heap.push W.emptyDict).push (W.instObj C s.heap.objs.size)).get? (s.heap.objs.size+1)=some (W.instObj C s.heap.objs.size):=by
  have:=bA (s.heap.push W.emptyDict) (o:=W.instObj C s.heap.objs.size) rfl
  rwa[Heap.size_push]at this
 have h:(s.heap.push W.emptyDict).Ns s.heap.objs.size (λZ=>none):=⟨W.emptyDict,#[],_,d,rfl,(λe j=>absurd j (by simp)),λZ=>rfl⟩;have f:=I.laid (a:=s.heap.objs.size) (o:=.own (s.heap.objs.size+1)) (h':=s.heap.push W.emptyDict) (t':=s.toks) (λb u q=>bj _ q) (bn _) ⟨_,d⟩;refine f.laid (a:=s.heap.objs.size+1) (o:=.ins C s.heap.objs.size []) (t':=s.toks) (λb u q=>bj _ q) (Nat.le_of_eq (Heap.size_push _ _)) ?_;have c:s.heap.objs.size≠s.heap.objs.size+1:=bR (Nat.lt_succ_self _);exists by rw[yk c,ya],bK _,c,i,λZ=>none,(Heap.Ns1.of_empty h).at λo q=>bj _ q,λZ=>True.intro,λy g=>absurd rfl g
def ysc{prog:qh}{w:qd}{env:Env}{pos:Pos}(hb:attributeBase e f env (eval e env)=eval e env)
  (h:wpAny (model prog w) A (eval e env) (λo s₁=>wpAny (model prog w) A (getAttr o f true) Q E s₁) E s):wpAny (model prog w) A (eval (.Attribute e f pos) env) Q E s :=
 Attribute_any_ h (by rw[arm_eval_Attribute,hb])
end
def ver(K:xr)(ta:TE)(f:Str):TE:=λσ H Q=>ta σ H λx H1=>∃a C dx fs v,x=.ref a/\H1 a=some (.ins C dx fs)/\Cls K C/\vj K C f/\fs.lookup f=some v/\Q v H1
def vfk(K:xr)(ta tv:TE)(f:Str):TS:=λD σ H=>tv σ H λy H1=>ta σ H1 λx H2=>∃a C dx fs,x=.ref a/\H2 a=some (.ins C dx fs)/\Cls K C/\vj K C f/\fs.length<1000/\
 D.nx σ (upd H2 a (.ins C dx (j9 f y fs)))
section
variable{o value:qg}{f:Str}{pos pos' tpos:Pos}{tv:TE}
def yn(he:PE X e ta)(hb:attributeBase e f X.env (eval e X.env)=eval e X.env):PE X (.Attribute e f pos) (ver X.K ta f):=by refine .mk λb s σ H Q I h=>?_;refine ysc hb (thn (he b s σ H _ I h) λu r h'=>?_);let⟨x,d,k,j,a,C,t,y,v,o,g,c,n,l,q⟩:=h';subst o;obtain rfl:u=Value.ref a:=j;exact ygo k g c n l λp w m i=>⟨v,d,m,i,q⟩
def y9(ha:PE X o ta)(hv:PE X value tv)(hs:swapsWith value (some (.Attribute o f pos')) pos.line X.env=pure false):PS X (.Assign [.Attribute o f pos'] value pos) (vfk X.K ta tv f):=by refine .mk λb s σ H D I h=>?_;refine plainObj_wpAny_Assign_Attribute (thn (hv b s σ H _ I h) λu i ⟨y,d,k,r,q⟩=>thn (ha b i σ d _ k q) λp B h'=>?_) hs;let⟨x,w,t,j,a,C,A,E,v,g,c,n,l,m⟩:=h';subst v;obtain rfl:p=Value.ref a:=j;exact yfl t g c n l r λz e=>⟨σ,_,e,m⟩
end
section
variable{s:qa}{A:qe}{c:qb}{b:Bool}
inductive ue(K:xr)(H:Hp):V->qb->Prop where
 |non:ue K H .non (.type "NoneType")
 |bl (x:Bool):ue K H (.bl x) (.type "bool")
 |int (i:Int):ue K H (.int i) (.type "int")
 |str (x:Str):ue K H (.str x) (.type "str")
 |flt (x:UInt64):ue K H (.flt x) (.type "float")
 |lst {a:x0} {xs:Υ} (e:H a=some (.lst xs)):ue K H (.ref a) (.type "list")
 |frz {a:x0} {o:Obj} {xs:Υ} (e:H a=some (.frz o (.lst xs))):ue K H (.ref a) (.type "list")
 |tup {a:x0} {xs:Υ} (e:H a=some (.tup xs)):ue K H (.ref a) (.type "tuple")
 |dK {a:x0} {kvs:Κ} (e:H a=some (.dK kvs)):ue K H (.ref a) (.type "dict")
 |dT {a:x0} {kvs:qi (qi Key×V)} (e:H a=some (.dT kvs)):ue K H (.ref a) (.type "dict")
 |ins {a C dx:x0} {fs:Ι} (e:H a=some (.ins C dx fs)) (cl:Cls K C) (ha:W.findIn K (.ref C) "__class__"=some (some (.builtin "object.__class__")))
   (hn:W.specialIn K (.builtin "object.__class__") "__get__"=some (some (.builtin "getset_descriptor.__get__"))) (htk:W.takesIn K (.builtin "object.__class__")=some true)
   (hm:W.mroIn K C (.type "object")=some true):ue K H (.ref a) (.ref C)
def yhg{x:V}{t:qb}(I:Inv X pins σ H s)(rx:xk x u)(ty:ue X.K H x t)(e:W.kitOne X.K t c=some b)(h:∀tk,Q (.bool b) {s with toks:=tk}):
  wpAny (model X.prog X.w) A (call (.builtin "isinstance") [u,c]) Q E s:=by
 cases ty with
 |non=>cases (show u=Value.none from rx);exact W.kia_one W.kitx_none I.kIn True.intro e (λz=>nomatch z) h
 |bl y=>cases (show u=Value.bool y from rx);exact W.kia_one W.kitx_bool I.kIn True.intro e (λz=>nomatch z) h
 |int i=>let⟨t,q⟩:=(show ∃t,u=Value.int i t from rx);cases q;exact W.kia_one W.kitx_int I.kIn True.intro e (λz=>nomatch z) h
 |str y=>let⟨t,q⟩:=(show ∃t,u=Value.str y t from rx);cases q;exact W.kia_one W.kitx_str I.kIn True.intro e (λz=>nomatch z) h
 |flt y=>let⟨t,q⟩:=(show ∃t,u=Value.float y t from rx);cases q;exact W.kia_one W.kitx_float I.kIn True.intro e (λz=>nomatch z) h
 | @lst a xs ea =>
  cases (show u=Value.ref a from rx);let⟨_,_,n,_,d⟩:=(show w8 X.prog X.w H s.heap a (.lst xs)from I.hok a _ ea)
  exact W.kia_one W.kitx_list I.kIn ⟨_,d,rfl⟩ e (λz=>nomatch z) h
 | @frz a ob xs ea =>
  cases (show u=Value.ref a from rx);let⟨_,_,_,n,_,d⟩:=(show w8 X.prog X.w H s.heap a (.frz ob (.lst xs))from I.hok a _ ea)
  exact W.kia_one W.kitx_list I.kIn ⟨_,d,rfl⟩ e (λz=>nomatch z) h
 | @tup a xs ea =>
  cases (show u=Value.ref a from rx);let⟨_,_,_,p⟩:=(show w8 X.prog X.w H s.heap a (.tup xs)from I.hok a _ ea);let⟨o,d,f,_⟩:=p
  exact W.kia_one W.kitx_tuple I.kIn ⟨o,d,f⟩ e (λz=>nomatch z) h
 | @dK a kvs ea =>
  cases (show u=Value.ref a from rx);let⟨_,_,k,_,p⟩:=(show w8 X.prog X.w H s.heap a (.dK kvs)from I.hok a _ ea);let⟨o,g,j,d,f,_⟩:=p
  exact W.kia_one W.kitx_dict I.kIn ⟨o,d,f.1⟩ e (λz=>nomatch z) h
 | @dT a kvs ea =>
  cases (show u=Value.ref a from rx);let⟨_,_,xs,_,o,g,j,d,f,_⟩:=(show w8 X.prog X.w H s.heap a (.dT kvs)from I.hok a _ ea)
  exact W.kia_one W.kitx_dict I.kIn ⟨o,d,f.1⟩ e (λz=>nomatch z) h
 | @ins a C dx fs ea cl ha hn htk hm =>
  cases (show u=Value.ref a from rx);let⟨m,O,_⟩:=yai I.hok ea;let⟨l,J,_⟩:=O.look
  exact W.kia_one (W.kitx_own (cl.get _) cl.hd ha hn htk hm) I.kIn J e (λz=>nomatch z) h
end
structure jh(k:Nat)(A:qe):Prop where
 hd:A.handled=none
 dp:A.depth+3*k+5<recursionLimit
 un:A.units+16*k+200<cLine
def jh.mono{j k:Nat}{A:qe}(r:jh k A)(h:j<=k):jh j A:=⟨r.hd,by have:=r.dp;omega,by have:=r.un;omega⟩
theorem jh.deeper{k:Nat}{A:qe}(r:jh (k+1) A)(env:Env):jh k (A.deeper env) :=
 ⟨r.hd,by have:=r.dp;show A.depth+1+3*k+5<_;omega,by have:=r.un;show A.units+3+16*k+200<_;omega⟩
def ygd{A:qe}:(A.under (.builtin "type.__call__" ⟨.ref C::us,kw⟩)).depth=A.depth+1:=by first|rfl|simp[Around.under,Code.weight,Code.isCreation,Code.isGuard,Code.isCaller,Code.frames,Code.isFrame,guardIds]
def ygp{A:qe}:(A.under (.builtin "type.__call__" ⟨.ref C::us,kw⟩)).units=A.units+1:=by first|rfl|simp[Around.under,Code.cUnits,Code.frames,Code.isFrame]
def jh.make{k:Nat}{A:qe}(r:jh (k+1) A)(C:x0)(us:Ο)(kw:qi (Str×qb)):jh k (A.under (.builtin "type.__call__" ⟨.ref C::us,kw⟩)) :=
 ⟨r.hd,by have:=r.dp;rw[ygd];omega,by have:=r.un;rw[ygp];omega⟩
theorem jh.depth{k:Nat}{A:qe}(r:jh k A):A.depth<recursionLimit:=by have:=r.dp;omega
theorem jh.units{k:Nat}{A:qe}(r:jh k A):A.units+64<cLine:=by have:=r.un;omega
def ylf:TA:=λZ H Q=>Q [] H
def ynq(ta:TE)(tr:TA):TA:=λσ H Q=>ta σ H λx H1=>tr σ H1 λxs H2=>Q (x::xs) H2
section
variable{t:TA}{pos:Pos}
def uo:PA X [] ylf:=.mk λZ Z Z Z H Q I h=>Calls.spliced_nil ⟨[],H,I,.nil,h⟩
def yjf(ha:PE X e te)(hr:PA X es t)(hs:starEach (e::es) X.env=(false,eval e X.env)::starEach es X.env:=by rfl):PA X (e::es) (ynq te t):=by refine .mk λb a s σ H Q I h=>?_;rw[hs];show wpAny _ _ (spliced ((false,eval e X.env)::backTo b (starEach es X.env))) _ _ s;refine Calls.spliced_cons (thn (ha a s σ H _ I h) λu i h'=>?_);let⟨x,d,l,j,c⟩:=h';exact thn (hr b a i σ d _ l c) λo p ⟨f,g,n,k,m⟩=>⟨x::f,g,n,.cons j k,m⟩
def vft(t:TA):TE:=λσ H Q=>t σ H λxs H1=>xs.length<=sizeLine/\∀p,H1 p=none->Q (.ref p) (upd H1 p (.tup xs))
def vfy(t:TA):TE:=λσ H Q=>t σ H λxs H1=>xs.length<=sizeLine/\∀p,H1 p=none->Q (.ref p) (upd H1 p (.lst xs))
def į{x1}(h:PA X es t):PE X (.Tuple es x1 pos) (vft t):=by refine .mk λa s σ H Q I i=>?_;refine wpAny_Tuple_spliced (thn (h pos a s σ H _ I i) λk c ⟨g,d,f,r,z,q⟩=>⟨by rw[<- r.length];exact z,?_⟩);have j:d c.heap.objs.size=none:=f.hok.fresh (bn _);exists .ref c.heap.objs.size,upd d c.heap.objs.size (.tup g),f.laid (t':=c.toks) (λb u e=>bj _ e) (bn _) ?_,rfl,q _ j;exists z,k,r,⟨_,bA _ rfl,rfl,_,rfl⟩
def xc(h:PA X es t):PE X (.List es pos) (vfy t):=by refine .mk λa s σ H Q I i=>?_;refine wpAny_List_spliced (thn (h pos a s σ H _ I i) λk c ⟨g,d,f,r,z,q⟩=>⟨by rw[<- r.length];exact z,?_⟩);have j:d c.heap.objs.size=none:=f.hok.fresh (bn _);exists .ref c.heap.objs.size,upd d c.heap.objs.size (.lst g),f.laid (t':=c.toks) (λb u e=>bj _ e) (bn _) ?_,rfl,q _ j;exists z,k,0,r,bA _ rfl
end
abbrev Sp:=qi V->Hp->VK->XK->Prop
abbrev CXT:=qi Env->Hp->qa->XK->qb->qa->Prop
variable{CX:CXT}
structure ywg(P:qh)(w:qd)(K:xr)(mg:Ε)(base:qf)(A:qe)(outer:qi Env)(s:qa)(H:Hp):Prop where
 frames:A.frames=some outer
 mod:Mod K mg base
 bs:∀b o,base.get? b=some o->s.heap.get? b=some o/\H b=none
 bsz:base.objs.size<=s.heap.objs.size
 funs:s.heap.FunFrames base outer
 frf:∀b∈frs outer,H b=none
 hok:HOk P w H s.heap
 bare:AllBare s.gens
def CE(outer:qi Env)(P:qh)(w:qd)(H:Hp)(s:qa)(Q:VK)(u:qb)(s':qa):Prop :=
 ∃v H',s'.os=s.os/\AllBare s'.gens/\Un (frs outer) [] H H' s.heap s'.heap/\HOk P w H' s'.heap/\xk v u/\Q v H'
def CR(CX:CXT)(outer:qi Env)(P:qh)(w:qd)(H:Hp)(s:qa)(Q:VK)(E:XK)(r:Result)(s':qa):Prop :=
 match r with
 | .ok (.ret u)=>CE outer P w H s Q u s'
 | .ok _=>False
 | .error e=>CX outer H s E e s'
structure vz(P:qh)(w:qd)(K:xr)(mg:Ε)(base:qf)(CX:CXT)(k:Nat)(f:x0)(fd:FuncData)(ps:Τ)(sp:Sp):Prop where
 len:∀vs H Q E,sp vs H Q E->vs.length=ps.length
 run:∀(A:qe)(outer:qi Env)(s:qa)(H:Hp)(args:Args)(us:Ο)(vs:Υ)(Q:VK)(E:XK),jh k A->ywg P w K mg base A outer s H->BindsTo s fd args (ps.zip us)->wu vs us->sp vs H Q E ->
  codeAny (model P w) A (.call (.ref f) args) (CR CX outer P w H s Q E) s
def ywg.make{w:qd}{K:xr}{mg:Ε}{base:qf}{A:qe}{outer:qi Env}{s:qa}(e:ywg P w K mg base A outer s H)(C:x0)(us:Ο)(kw:qi (Str×qb)):
  ywg P w K mg base (A.under (.builtin "type.__call__" ⟨.ref C::us,kw⟩)) outer s H:=⟨by first|exact e.frames|(simpa[Around.under,Code.envs,Code.isFrame,pushEnvs]using e.frames),e.mod,e.bs,e.bsz,e.funs,e.frf,e.hok,e.bare⟩
section
variable{s:qa}
def Inv.env0(I:Inv X pins σ H s):ywg X.prog X.w X.K X.mg X.base X.A X.stack s H :=
 ⟨I.ok.frames,I.ok.mod,I.bs,bQ I.ok.bsz I.sz,I.stack,I.stkFree,I.hok,I.bare⟩
def Inv.after{Q:VK}(I:Inv X pins σ H s)(h:CE X.stack X.prog X.w H s Q u s'):EP X pins σ Q u s':=by let⟨v,i,j,a,f,e,r,q⟩:=h;let⟨k,g,d,t,c⟩:=s';obtain rfl:c=s.os:=j;exists v,i,I.call (h':=k) (g':=g) (d':=d) (t':=t) (ch:=[]) f e a (λb z=>absurd z (by simp)),r,q
end
def yuu(sp:Sp)(dvs:Υ)(E:XK)(t:TA):TE:=λσ H Q=>t σ H λvs H1=>sp (vs++dvs) H1 Q E
def Ł(C:x0)(m:Str)(sp:Sp)(dvs:Υ)(E:XK)(ta:TE)(t:TA):TE:=λσ H Q=>ta σ H λx H1=>∃a dx fs,x=.ref a/\H1 a=some (.ins C dx fs)/\fs.lookup m=none/\
 t σ H1 λvs H2=>sp (x::(vs++dvs)) H2 Q E
def yuc(C:x0)(sp:Sp)(dvs:Υ)(E:XK)(t:TA):TE:=λσ H Q=>t σ H λvs H1=>∀x dx,H1 x=none->H1 dx=none->dx≠x ->
 sp (.ref x::(vs++dvs)) (upd (upd H1 dx (.own x)) x (.ins C dx [])) (λv H2=>v=.non/\Q (.ref x) H2) E
def xw(K:xr)(fd:FuncData)(ps:Τ)(ds:Ο):Prop :=
 ∀(s:qa)(us:Ο),K.In s.heap->(us++ds).length=ps.length->BindsTo s fd ⟨us,[]⟩ (ps.zip (us++ds))
def xw.all{K:xr}{ps:Τ}(h:∀us:Ο,us.length=ps.length->bindArgs fd ⟨us,[]⟩=pure (ps.zip us)):xw K fd ps []:=λs us Z a=>by
 rw[cP]at a⊢;exact .of_eq (h us a)
def î(CX:CXT)(X:Cx)(E:XK):Prop:=∀(pins:Θ)(σ:St)(H:Hp)(s:qa)(e:qb)(s':qa),Inv X pins σ H s->CX X.stack H s E e s'->X.xe e s'
section
variable{k:Nat}{f:x0}{ps:Τ}{sp:Sp}{dvs:Υ}{ds:Ο}{E:XK}{x m:Str}{pos apos:Pos}{o:qg}{t:TA}
def yju{s:qa}{Q:VK}(F:vz X.prog X.w X.K X.mg X.base CX k f fd ps sp)(hr:jh k X.A)(hb:xw X.K fd ps ds)(hd:wu dvs ds)(hx:î CX X E)
  (I:Inv X pins σ H s) (r:wu vs us) (h:sp (vs++dvs) H Q E):wpAny (model X.prog X.w) X.A (call (.ref f) us) (EP X pins σ Q) X.xe s:=by
 have b:wu (vs++dvs) (us++ds):=r.append hd;have d:(us++ds).length=ps.length:=by rw[<- b.length];exact F.len _ _ _ _ h
 refine wpAny_call (codeAny_mono (F.run X.A X.stack s H ⟨us,[]⟩ (us++ds) (vs++dvs) Q E hr I.env0 (hb s us I.kIn d) b h) λr c a=>?_)
 cases r with
 |error e=>exact hx pins σ H s e c I a
 |ok fl =>
  cases fl with
  |ret u=>exact I.after a
  |next=>exact False.elim a
  |brk=>exact False.elim a
  |cont=>exact False.elim a
def yaj(F:vz X.prog X.w X.K X.mg X.base CX k f fd ps sp)(hr:jh k X.A)(hg:Gl X x)(hm:X.mg x=some (.ref f))(hk:W.keepIn X.K (.ref f)=true)(hb:xw X.K fd ps ds)(hd:wu dvs ds)(hx:î CX X E)
  (ha:PA X (e::es) t) (hdb:(x == ("__debug__":Str))=false:=by decide) (he:starEach (e::es) X.env=(false,eval e X.env)::starEach es X.env:=by rfl) (hpl:(backTo pos (starEach es X.env)).any (·.1)=false:=by rfl):
  PE X (.Call (.Name x p) (e::es) [] pos) (yuu sp dvs E t):=by refine .mk λa s σ H Q I h=>?_;refine wpAny_Call_Name_kw (ρ I hg hm ?_ hdb);refine W.callWith_K (h₀:=X.base) I.ok.mod.kin hk (thn (ha pos a s σ H _ I h) λi g ⟨c,d,b,r,q⟩=>⟨b.kIn,?_⟩) he hpl;exact yju F hr hb hd hx b r q
def xg{pl:Sem Bool}(he:PE X o ta)(c:Cls X.K C)(hm:ywf X.K C m f)(F:vz X.prog X.w X.K X.mg X.base CX k f fd ps sp)(hr:jh k X.A)(hb:xw X.K fd ps ds)(hd:wu dvs ds)(hx:î CX X E)(ha:PA X (e::es) t)
  (hst:starEach (e::es) X.env=(false,eval e X.env)::starEach es X.env:=by rfl) (hpl:(backTo pos (starEach es X.env)).any (·.1)=false:=by rfl)
  (ht:eval (.Call (.Attribute o m apos) (e::es) [] pos) X.env=(do
   let ov <- eval o X.env
   standAt apos.atName
   let (f,first) <- holding [ov] (getMethod ov m pl)
   callWith pos f first (backTo pos (starEach (e::es) X.env)) (backToKw pos (keywordEach [] X.env))):=by rfl):
  PE X (.Call (.Attribute o m apos) (e::es) [] pos) (Ł C m sp dvs E ta t):=by
 refine .mk λb s σ H Q I h=>?_;refine W.methodCall_KW (pl:=pl) (thn (he b s σ H _ I h) λu n h'=>?_) ht;let⟨x,i,d,p,a,B,G,y,j,l,q⟩:=h';subst y;obtain rfl:u=Value.ref a:=p;refine ß d j c hm l ?_
 refine W.callWith_K (first:=[.ref a]) (h₀:=X.base) I.ok.mod.kin hm.kp (thn (ha pos b n σ i _ d q) λus D ⟨vs,z,g,r,v⟩=>⟨g.kIn,?_⟩) hst hpl
 exact yju (us:=.ref a::us) (vs:=.ref a::vs) F hr hb hd hx g (.cons rfl r) v
def vt{pl:Sem Bool}(he:PE X o ta)(c:Cls X.K C)(hm:ywf X.K C m f)(F:vz X.prog X.w X.K X.mg X.base CX k f fd ps sp)(hr:jh k X.A)(hb:xw X.K fd ps ds)(hd:wu dvs ds)(hx:î CX X E)
  (ht:eval (.Call (.Attribute o m apos) [] [] pos) X.env=(do
   let ov <- eval o X.env
   standAt apos.atName
   let (f,first) <- holding [ov] (getMethod ov m pl)
   callWith pos f first (backTo pos (starEach [] X.env)) (backToKw pos (keywordEach [] X.env))):=by rfl):
  PE X (.Call (.Attribute o m apos) [] [] pos) (Ł C m sp dvs E ta ylf):=by
 refine .mk λb s σ H Q I h=>?_;refine W.methodCall_KW (pl:=pl) (thn (he b s σ H _ I h) λu n h'=>?_) ht;let⟨x,j,d,g,a,p,r,i,e,l,q⟩:=h';subst i;obtain rfl:u=Value.ref a:=g;refine ß d e c hm l ?_
 exact W.callWith_K0 (first:=[.ref a]) d.kIn hm.kp (yju (us:=[.ref a]) (vs:=[.ref a]) F hr hb hd hx d (.cons rfl .nil) q)
structure Mk(K:xr)(C f:x0):Prop where
 makes:W.makesIn K C=true
 init:W.findIn K (.ref C) "__init__"=some (some (.ref f))
 fn:W.isFn K (.ref f)=true
 kp:W.keepIn K (.ref C)=true
def yd2{s:qa}{Q:VK}(M:Mk X.K C f)(F:vz X.prog X.w X.K X.mg X.base CX k f fd ps sp)(hr:jh (k+1) X.A)(hb:xw X.K fd ps ds)(hd:wu dvs ds)
  (hx:î CX X E) (I:Inv X pins σ H s) (r:wu vs us)
  (h:∀x dx,H x=none->H dx=none->dx≠x->sp (.ref x::(vs++dvs)) (upd (upd H dx (.own x)) x (.ins C dx [])) (λv H2=>v=.non/\Q (.ref x) H2) E):
  wpAny (model X.prog X.w) X.A (call (.ref C) us) (EP X pins σ Q) X.xe s:=by
 have c:=h (s.heap.objs.size+1) s.heap.objs.size (I.hok.fresh (Nat.le_succ _)) (I.hok.fresh (bn _)) (bR (Nat.lt_succ_self _));have b:=Inv.made (C:=C) I;have d:wu (V.ref (s.heap.objs.size+1)::(vs++dvs)) (Value.ref (s.heap.objs.size+1)::(us++ds)):=.cons rfl (r.append hd)
 have m:(Value.ref (s.heap.objs.size+1)::us++ds).length=ps.length:=by
  have e:=d.length;rw[F.len _ _ _ _ c]at e;exact e.symm
 refine wpAny_call (ydr (f:=f) I.kIn M.makes M.init (beq_iff_eq.mp M.fn) (codeAny_mono (F.run _ X.stack _ _ ⟨Value.ref (s.heap.objs.size+1)::us,[]⟩ (Value.ref (s.heap.objs.size+1)::(us++ds)) _ _ E (hr.make C us [])
  (b.env0.make C us []) (hb _ (Value.ref (s.heap.objs.size+1)::us) b.kIn m) d c) λr j a=>?_))
 cases r with
 |error e=>exact hx pins σ _ _ e j b a
 |ok fl =>
  cases fl with
  |ret u =>
   let⟨v,i,n,g,l,o⟩:=b.after a;subst l;exists g,⟨V.ref (s.heap.objs.size+1),i,n,rfl,o⟩
  |next=>exact False.elim a
  |brk=>exact False.elim a
  |cont=>exact False.elim a
def ĥ(M:Mk X.K C f)(F:vz X.prog X.w X.K X.mg X.base CX k f fd ps sp)(hr:jh (k+1) X.A)(hg:Gl X x)(hm:X.mg x=some (.ref C))(hb:xw X.K fd ps ds)(hd:wu dvs ds)(hx:î CX X E)
  (ha:PA X (e::es) t) (hdb:(x == ("__debug__":Str))=false:=by decide) (he:starEach (e::es) X.env=(false,eval e X.env)::starEach es X.env:=by rfl) (hpl:(backTo pos (starEach es X.env)).any (·.1)=false:=by rfl):
  PE X (.Call (.Name x p) (e::es) [] pos) (yuc C sp dvs E t):=by refine .mk λa s σ H Q I h=>?_;refine wpAny_Call_Name_kw (ρ I hg hm ?_ hdb);refine W.callWith_K (h₀:=X.base) I.ok.mod.kin M.kp (thn (ha pos a s σ H _ I h) λi g ⟨c,d,b,r,q⟩=>⟨b.kIn,?_⟩) he hpl;exact yd2 M F hr hb hd hx b r q
def zj(M:Mk X.K C f)(F:vz X.prog X.w X.K X.mg X.base CX k f fd ps sp)(hr:jh (k+1) X.A)(hg:Gl X x)(hm:X.mg x=some (.ref C))(hb:xw X.K fd ps ds)(hd:wu dvs ds)(hx:î CX X E)
  (hdb:(x == ("__debug__":Str))=false:=by decide):PE X (.Call (.Name x p) [] [] pos) (yuc C sp dvs E ylf):=by refine .mk λa s σ H Q I h=>?_;refine wpAny_Call_Name_kw (ρ I hg hm ?_ hdb);exact W.callWith_K0 I.kIn M.kp (yd2 (us:=[]) M F hr hb hd hx I .nil h)
end
section
variable{k:Nat}{f:x0}{ps ks:Τ}{sp:Sp}{E:XK}{x m:Str}{pos apos kpos:Pos}{o:qg}{kws:qi Keyword}{t tk:TA}{nm:Φ}
structure vfc(K:xr)(fd:FuncData)(ps ks:Τ)(g:qi qb->qi qb->qi qb)(gV:qi V->qi V->qi V):Prop where
 to:∀(s:qa)(us ws:Ο),K.In s.heap->(g us ws).length=ps.length->BindsTo s fd ⟨us,ks.zip ws⟩ (ps.zip (g us ws))
 rel:∀{vs:Υ}{us:Ο}{zs:Υ}{ws:Ο},wu vs us->wu zs ws->wu (gV vs zs) (g us ws)
variable{g:qi qb->qi qb->qi qb}{gV:qi V->qi V->qi V}
end
structure yi(N P:Τ)(sc:Scope):Prop where
 kind:sc.kind=.function
 co:sc.isCoroutine=false
 gen:sc.isGenerator=false
 nd:N.Nodup
 pre:N.take P.length=P
 par:∀x∈P,sc.names.lookup x=some .local\/sc.names.lookup x=some .cell
 nofree:∀y∈sc.names,y.2≠.free
theorem ybn{kindOf:Str->qj NameKind}{x:Str}:∀{binds:qi (Str×qb)}{m:Ε},(∀v,(x,v)∉binds)->bindL kindOf binds m x=m x
 |[],_,_=>rfl
 |(n,v)::r,m,h=>by
  unfold bindL;rw[ybn λw a=>h w (bN _ a)]
  split
  .have:x≠n:=by rintro rfl;exact h v bO
   simp[this]
  .rfl
theorem ybb{kindOf:Str->qj NameKind}{x:Str}:∀{binds:qi (Str×qb)}{m:Ε},(∀v,(x,v)∉binds)->bindC kindOf binds m x=m x
 |[],_,_=>rfl
 |(n,v)::r,m,h=>by
  unfold bindC;rw[ybb λw a=>h w (bN _ a)]
  split
  .rfl
  .have:x≠n:=by rintro rfl;exact h v bO
   simp[this]
theorem ybd{kindOf:Str->qj NameKind}{x:Str}{v:qb}:∀{P:Τ}{vs:Ο}{i:Nat}{m:Ε},P.Nodup->P[i]?=some x->vs[i]?=some v->kindOf x=some .local ->
  bindL kindOf (P.zip vs) m x=some v
 |[],_,_,_,_,h,_,_=>by simp at h
 |_::_,[],_,_,_,_,h,_=>by simp at h
 |p::P,w::vs,0,m,nd,h1,h2,hk=>by
  simp at h1 h2;subst h1;subst h2;show bindL kindOf ((p,w)::P.zip vs) m p=_;unfold bindL;rw[ybn λv a=>(cK.mp nd).1 (List.of_mem_zip a).1,if_pos hk];simp
 |p::P,w::vs,i+1,m,nd,h1,h2,hk=>by
  show bindL kindOf ((p,w)::P.zip vs) m x=_;unfold bindL;exact ybd (i:=i) (cK.mp nd).2 (by simpa using h1) (by simpa using h2) hk
theorem ybl{kindOf:Str->qj NameKind}{x:Str}{v:qb}:∀{P:Τ}{vs:Ο}{i:Nat}{m:Ε},P.Nodup->P[i]?=some x->vs[i]?=some v->kindOf x≠some .local ->
  bindC kindOf (P.zip vs) m x=some v
 |[],_,_,_,_,h,_,_=>by simp at h
 |_::_,[],_,_,_,_,h,_=>by simp at h
 |p::P,w::vs,0,m,nd,h1,h2,hk=>by
  simp at h1 h2;subst h1;subst h2;show bindC kindOf ((p,w)::P.zip vs) m p=_;unfold bindC;rw[ybb λv a=>(cK.mp nd).1 (List.of_mem_zip a).1,if_neg hk];simp
 |p::P,w::vs,i+1,m,nd,h1,h2,hk=>by
  show bindC kindOf ((p,w)::P.zip vs) m x=_;unfold bindC;exact ybl (i:=i) (cK.mp nd).2 (by simpa using h1) (by simpa using h2) hk
def é(N:Τ)(vs:Υ):St:=vs.map some++List.replicate (N.length-vs.length) none
def vy(CX:CXT)(P:qh)(w:qd)(K:xr)(mg:Ε)(base:qf)(N:Τ)(qual:Str)(scope:Scope)(f:x0)(cd:qb)(A:qe)(outer:qi Env)(s:qa)(H:Hp)(E:XK):Cx where
 prog:=P
 w:=w
 K:=K
 mg:=mg
 base:=base
 A:=A.deeper (envOfC qual scope s.heap.objs.size f cd)
 N:=N
 s₀:=s
 H₀:=H
 env:=envOfC qual scope s.heap.objs.size f cd
 outer:=outer
 stack:=envOfC qual scope s.heap.objs.size f cd::outer
 ex:=[]
 calm:=true
 fn:=λZ=>true
 pn:=[]
 xe:=λe s'=>wpAny (model P w) (A.deeper (envOfC qual scope s.heap.objs.size f cd)) (leaving (envOfC qual scope s.heap.objs.size f cd) e) (λZ s''=>CX outer H s E e s'') (λe' s''=>CX outer H s E e' s'') s'
def ydu{sc:Scope}{n:Nat}{x:Str}(h:sc.names.lookup x=some .cell):∃c,(cellsFrom n sc.names []).lookup x=some c:=by have q:=W.cellsFrom_some sc.names n [] (.inl h);exact Option.isSome_iff_exists.mp q
def yhh{w:qd}{K:xr}{mg:Ε}{base:qf}{N ps:Τ}{qual:Str}{scope:Scope}{f:x0}{cd:qb}{A:qe}{outer:qi Env}{s s1:qa}{E:XK} 
  (S:yi N ps scope) (hd:A.handled=none) (e0:ywg P w K mg base A outer s H) (hl:vs.length=ps.length) (r:wu vs us)
  (x:InCallC s s.heap.objs.size (bindL (envOfC qual scope s.heap.objs.size f cd).kindOf (ps.zip us) λZ=>none) (cellsFrom (s.heap.objs.size+1) scope.names []) (bindC (envOfC qual scope s.heap.objs.size f cd).kindOf (ps.zip us) λZ=>none) s1):
  Inv (vy CX P w K mg base N qual scope f cd A outer s H E) [] (é N vs) H s1:=by
 have G:ps.length<=N.length:=by have:=congrArg List.length S.pre;rw[bI]at this;omega
 let⟨o,I,rfl,C⟩:=x.done;have j:∀b:x0,b∉(vy CX P w K mg base N qual scope f cd A outer s H E).ex:=λb z=>absurd (show b∈([]:Χ)from z) (by simp)
 refine⟨⟨e0.mod,S.kind,rfl,rfl,bn _,λy z c o d=>?_,λy g=>?_,λy c Z h=>?_,λZ=>hd,Around.frames_deeper e0.frames,.inr ⟨rfl,rfl⟩,λb z=>absurd z (j b),e0.bs,e0.bsz,λb Z Z=>j b,λb z=>absurd z (j b),e0.funs,e0.frf⟩,
  rfl,e0.bare,Un.kept C,⟨_,x.toInCall.ns,λi y v o d J=>?_⟩,λy c h=>⟨_,x.cell y c h⟩,e0.hok.fresh (bn _),λy c h=>?_,λp m=>absurd (show p∈([]:Θ)from m) (by simp),e0.hok.kept C,?_⟩
 .exact name_of_addr x.apart (PySem.mem_of_lookup o) (PySem.mem_of_lookup d)
 .have g:scope.names.lookup y=some .cell\/scope.names.lookup y=some .free:=g;rcases g with g|g
  .exact ydu g
  .exact absurd rfl (S.nofree _ (PySem.mem_of_lookup g))
 .exact Nat.le_of_lt (x.above y c (PySem.mem_of_lookup h))
 .have t:i<vs.length:=by
   unfold é at d;by_cases t:i<vs.length
   .exact t
   .rw[cJ (by simpa using t)]at d;rw[List.getElem?_replicate]at d
    split at d<;>cases d
  have F:vs[i]?=some v:=by
   unfold é at d;rw[List.getElem?_append_left (by simpa using t),bo]at d
   cases e:vs[i]? with
   |none=>rw[e]at d;cases d
   |some a=>rw[e]at d;cases d;rfl
  let⟨u,B,D⟩:=r.get F
  have m:ps[i]?=some y:=by
   rw[<- S.pre,List.getElem?_take_of_lt (by omega)];exact o
  have l:ps.Nodup:=by rw[<- S.pre];exact S.nd.sublist (List.take_sublist _ _)
  exists u,D,?_;rcases S.par y (bB m)with k|k
  .exact .inl ⟨k,ybd l m B k⟩
  .obtain⟨c,e⟩:=ydu (n:=s.heap.objs.size+1) k;refine .inr ⟨.inl k,c,e,?_⟩;have q:=x.cell y c e;rw[ybl l m B (by show scope.names.lookup y≠_;rw[k];decide)]at q;exact q
 .exact e0.hok.fresh (Nat.le_of_lt (x.above y c (PySem.mem_of_lookup h)))
 .unfold é;show _=N.length;rw[bq,bf,cG];omega
def ynr{w:qd}{K:xr}{mg:Ε}{base:qf}{k:Nat}{f:x0}{name qual:Str}{params:Arguments}{scope:Scope}{dV kV doc pm cdv ct oc:qb}{an od:qj x0}
  {osl:Array (qj qb)} {N ps:Τ} {sp:Sp} (lk:K.lookup f=some ⟨oc,od,.func (W.fnOf name qual params body scope dV kV doc pm an cdv ct),osl⟩) (hcd:W.codeIn K cdv qual=true) (S:yi N ps scope)
  (len:∀vs H Q E,sp vs H Q E->vs.length=ps.length)
  (hbody:∀(A:qe)(outer:qi Env)(s:qa)(H:Hp)(vs:Υ)(Q:VK)(E:XK),jh k (A.deeper (envOfC qual scope s.heap.objs.size f cdv))->sp vs H Q E ->
   ∃t,PSs (vy CX P w K mg base N qual scope f cdv A outer s H E) body t/\t { nx:=λZ H'=>Q .non H',rt:=Q} (é N vs) H):
  vz P w K mg base CX (k+1) f (W.fnOf name qual params body scope dV kV doc pm an cdv ct) ps sp:=by
 exists len,λA outer s H p L vs Q E i d R r h=>?_;have F:=len _ _ _ _ h;have B:K.In s.heap:=d.mod.kin.keeps λb o e=>(d.bs b o e).1;have m:s.heap.NoLimit:=d.mod.nolimit.keeps λb o e=>(d.bs b o e).1
 have a:∀y∈ps.zip L,scope.names.lookup y.1=some .local\/(scope.names.lookup y.1=some .cell/\((cellsFrom (s.heap.objs.size+1) scope.names []).lookup y.1).isSome=true):=λ⟨n,v⟩ T=>by
  rcases S.par n (List.of_mem_zip T).1 with q|q
  .exact .inl q
  .exact .inr ⟨q,W.cellsFrom_some _ _ _ (.inl q)⟩
 refine codeAny_call_function i.depth (B _ _ lk) rfl S.co S.gen rfl (W.codeRec_of B hcd) (R _ _ _ _ ?_);refine wpAny_newFunctionEnv_cells S.kind a λD G z x=>?_;subst G;exists m.keeps x.toInCall.keep,codeAny_func ?_;let⟨t,M,C⟩:=hbody A outer s H vs Q E (i.deeper _) h;have I:Inv (vy CX P w K mg base N qual scope f cdv A outer s H E) [] (é N vs) H z:=yhh S i.hd d F r x;refine cN (M [] z (é N vs) H _ I C) (λO j c=>?_) λe j c=>c
 have g:∀{σ':St}{H':Hp}{v:V}{u:qb},Inv (vy CX P w K mg base N qual scope f cdv A outer s H E) [] σ' H' j->xk v u->Q v H'->CE outer P w H s Q u j :=
  λ{σ' H' v u}J l q=>⟨v,H',J.os,J.bare,J.base,J.hok,l,q⟩
 cases O with
 |ret u =>
  let⟨v,σ',H',J,l,q⟩:=c;exact g J l q
 |next =>
  let⟨σ',H',J,q⟩:=c;exact g (v:=V.non) (u:=Value.none) J rfl q
 |brk =>
  let⟨_,_,_,q⟩:=c;exact False.elim q
 |cont =>
  let⟨_,_,_,q⟩:=c;exact False.elim q
section
variable{x:Str}{pos:Pos}{t:TA}{id T:String}{r:qi V->Hp->VK->Prop}
def tCB(r:qi V->Hp->VK->Prop)(t:TA):TE:=λσ H Q=>t σ H λvs H1=>r vs H1 Q
def ynn(hc:zh X (.builtin id) r)(hg:Gl X x)(hm:X.mg x=none)(hv:bootBuiltins x=some (.builtin id))(ha:PA X (e::es) t)(hn:x≠"__name__":=by decide)(hdb:(x == ("__debug__":Str))=false:=by decide)
  (he:starEach (e::es) X.env=(false,eval e X.env)::starEach es X.env:=by rfl) (hpl:(backTo pos (starEach es X.env)).any (·.1)=false:=by rfl):PE X (.Call (.Name x p) (e::es) [] pos) (tCB r t):=by refine .mk λa s σ H Q I h=>?_;refine wpAny_Call_Name_kw (Ĭ I hg hm hv ?_ hn hdb);exact PyProof.Rows.callWith_builtin1 (thn (ha pos a s σ H _ I h) λi f ⟨b,d,j,g,c⟩=>hc a f σ d b i Q j g c) he hpl
def yil(hc:zh X (.type T) r)(hg:Gl X x)(hm:X.mg x=none)(hv:bootBuiltins x=some (.type T))(ha:PA X (e::es) t)(hn:x≠"__name__":=by decide)(hdb:(x == ("__debug__":Str))=false:=by decide)
  (he:starEach (e::es) X.env=(false,eval e X.env)::starEach es X.env:=by rfl) (hpl:(backTo pos (starEach es X.env)).any (·.1)=false:=by rfl):PE X (.Call (.Name x p) (e::es) [] pos) (tCB r t):=by refine .mk λa s σ H Q I h=>?_;refine wpAny_Call_Name_kw (Ĭ I hg hm hv ?_ hn hdb);exact PyProof.Rows.callWith_type1 (thn (ha pos a s σ H _ I h) λi f ⟨b,d,j,g,c⟩=>hc a f σ d b i Q j g c) he hpl
end
end L2
namespace HT
open PySem PyProof.Rows
section
open PySem.SeqAt
open PySem.AutoSeq1 (wpAny_loadPart')
open PySem.MeetsSeq PySem.MeetsSeq2 PySem.MeetsSeq3
end
section
variable{prog:qh}{w:qd}{A:qe}{E:Δ}{s:qa}
def sIx(n d:Nat):qj Int->Nat
 |none=>d
 |some v=>if v<0 then (v+(n:Int)).toNat else min v.toNat n
def sIx_none(n d:Nat):sIx n d none=d:=rfl
def sIx_nat(n d k:Nat):sIx n d (some (k:Int))=min k n:=by show (if (k:Int)<0 then ((k:Int)+(n:Int)).toNat else min (k:Int).toNat n)=min k n;rw[if_neg (by omega),Int.toNat_natCast]
def vbd(n d:Nat)(hd:d<=n)(o:qj Int):sIx n d o<=n:=by
 cases o with
 |none=>exact hd
 |some v =>
  show (if v<0 then (v+(n:Int)).toNat else min v.toNat n)<=n;by_cases hv:v<0
  .rw[if_pos hv];omega
  .rw[if_neg hv];exact Nat.min_le_right _ _
def yix(v:Int)(n d:Nat):(if v<0 then max (v+(n:Int)) 0 else min v (n:Int))=((sIx n d (some v):Nat):Int):=by
 show (if v<0 then max (v+(n:Int)) 0 else min v (n:Int))=(((if v<0 then (v+(n:Int)).toNat else min v.toNat n):Nat):Int);by_cases hv:v<0
 .simp only[if_pos hv];omega
 .simp only[if_neg hv];omega
def yfo(lo hi:qj Int)(n:Nat):Builtin.Slice.sliceAdjust lo hi 1 (n:Int)=(((sIx n 0 lo:Nat):Int),((sIx n n hi:Nat):Int)):=by
 have a:¬((1:Int)<0):=by omega
 unfold Builtin.Slice.sliceAdjust;simp only[a,if_false];refine Prod.ext ?_ ?_
 .cases lo with
  |none=>rfl
  |some v=>exact yix v n 0
 .cases hi with
  |none=>rfl
  |some v=>exact yix v n n
def yfw(i j:Nat):Builtin.Slice.slicePlaces (i:Int) (j:Int) 1=j-i:=by
 unfold Builtin.Slice.slicePlaces;have a:(1:Int) > 0:=by omega
 simp only[a,if_true,Int.ediv_one]
 split<;>omega
def Œ{v:qb}{o:qj Int}{Q:qj Int->qa->Prop}(p:IsPart v o)(h:Q o s):wpAny (model prog w) A (Builtin.Slice.slicePartIndex v) Q E s:=by
 cases p with
 |none=>exact slicePart_none h
 |int i t=>exact slicePart_int h
def ji{sl:x0}{vl vu:qb}{lo hi:qj Int}{n:Nat}{Q:Int×Int×Nat->qa->Prop}(hs:s.heap.IsSliceOf sl vl vu .none)(pl:IsPart vl lo)(pu:IsPart vu hi)
  (h:Q (((sIx n 0 lo:Nat):Int),1,sIx n n hi-sIx n 0 lo) s):wpAny (model prog w) A (Builtin.Slice.sliceApplied (.ref sl) (pure (n:Int))) Q E s:=by
 let⟨d,b,c,a⟩:=id hs;unfold Builtin.Slice.sliceApplied Builtin.Slice.sliceFields;refine bg (bg (cy b a (x:=vl) rfl (bg (cy b a (x:=vu) rfl (bg (cy b a (x:=.none) rfl (bp ?_)))))));refine bg (slicePart_none ?_);show wpAny _ _ (if ((1:Int) == 0)=true then _ else _) _ _ s;rw[if_neg (by decide)];refine bg (Œ pl (bg (Œ pu (bg (bp ?_)))))
 show wpAny _ _ (match Builtin.Slice.sliceAdjust lo hi 1 (n:Int)with|(lo,hi)=>pure (lo,(1:Int),Builtin.Slice.slicePlaces lo hi 1)) _ _ s
 rw[yfo lo hi n];show wpAny _ _ (pure (((sIx n 0 lo:Nat):Int),(1:Int),Builtin.Slice.slicePlaces ((sIx n 0 lo:Nat):Int) ((sIx n n hi:Nat):Int) 1)) _ _ s;rw[yfw];exact bp h
def ymw(xs:Array qb)(i k:Nat):((List.range k).filterMap λ(m:Nat)=>xs[((i:Int)+(m:Int)*1).toNat]?).toArray=((xs.toList.drop i).take k).toArray:=by
 have e:(λ(m:Nat)=>xs[((i:Int)+(m:Int)*1).toNat]?)=λm=>xs[i+m]?:=by
  funext m
  have:((i:Int)+(m:Int)*1).toNat=i+m:=by omega
  rw[this]
 rw[e];have:=pick_run xs i k;rw[List.filterMap_map]at this;have a:((λx=>xs[x]?) ∘ λx=>i+x)=λm=>xs[i+m]?:=rfl;rw[a]at this;rw[this]
def getItem_tuple_cut{t sl:x0}{items:Array qb}{vl vu:qb}{lo hi:qj Int}{Q:Δ}(ht:IsTup s.heap t items)(hs:s.heap.IsSliceOf sl vl vu .none)(pl:IsPart vl lo)(pu:IsPart vu hi)
  (hw:¬(sIx items.size 0 lo=0/\sIx items.size items.size hi=items.size))
  (h:Q (.ref s.heap.objs.size) {s with heap:=s.heap.push { cls:=.type "tuple",data:=.seq ((items.toList.drop (sIx items.size 0 lo)).take (sIx items.size items.size hi-sIx items.size 0 lo)).toArray} })
  (hsz:items.size<=sizeLine):wpAny (model prog w) A (getItem (.ref t) (.ref sl)) Q E s:=by
 have a:sizeOk (.seq ((items.toList.drop (sIx items.size 0 lo)).take (sIx items.size items.size hi-sIx items.size 0 lo)).toArray):=by
  show ((items.toList.drop (sIx items.size 0 lo)).take (sIx items.size items.size hi-sIx items.size 0 lo)).toArray.size<=sizeLine;rw[bz,bI,cI,cw];omega
 have j:sIx items.size items.size hi<=items.size:=vbd _ _ (bn _) hi;let⟨g,b,e,f⟩:=id hs;have d:s.TypeIs (.ref sl) "slice":=⟨g,b,e⟩;unfold getItem
 try with_reducible refine wpAny_holding ?_
 first|refine bg (bp ?_)|skip
 refine bg (wpAny_sequenceKey ht.typeIs (by decide) ?_);refine bg (wpAny_callSpecial?_slot (name:=Str.ofString "__getitem__") ht.typeIs PyProof.Rows.slot_tuple_getitem
  (wpAny_call_entry PyProof.Rows.slot_tuple_getitem ht.typeIs entry_tuple_getitem ?_ (args_tuple_getitem _ _)))
 show wpAny _ _ (Builtin.Tuple.tupleItemsOf (.ref t) >>=_) _ _ s;refine bg (tupleItemsOf_ ht ?_);refine bg (wpAny_typeOf d ?_);rw[if_pos (by decide)];refine bg (ji hs pl pu ?_)
 have c:¬((((sIx items.size 0 lo:Nat):Int) == 0 && (1:Int) == 1 && (sIx items.size items.size hi-sIx items.size 0 lo) == items.size)=true):=by
  intro q;rw[bW,bW]at q;have i:((sIx items.size 0 lo:Nat):Int)=0:=eq_of_beq q.1.1;have k:sIx items.size items.size hi-sIx items.size 0 lo=items.size:=eq_of_beq q.2;exact hw ⟨by omega,by omega⟩
 show wpAny _ _ (if (((sIx items.size 0 lo:Nat):Int) == 0 && (1:Int) == 1 && (sIx items.size items.size hi-sIx items.size 0 lo) == items.size)=true then _ else _) _ _ s;rw[if_neg c,ymw]
 first
  |exact bg (m:=Builtin.Tuple.tupleExact _) (wpAny_newObj_type (bp ⟨_,rfl,bp h⟩) a)
  |exact bg (m:=Builtin.Tuple.tupleExact _) (wpAny_newObj_type (bg (bp (bp ⟨_,rfl,bp h⟩))) a)
  |exact bg (bg (m:=Builtin.Tuple.tupleExact _) (wpAny_newObj_type (bp (bp ⟨_,rfl,bp h⟩)) a))
  |exact bg (bg (m:=Builtin.Tuple.tupleExact _) (wpAny_newObj_type (bp ⟨_,rfl,bp h⟩) a))
end
end HT
namespace L2
open PySem PySem.Spec PyProof.Rows
variable{pins:Θ}{its us:Ο}{v:qb}
abbrev TO:=St->Hp->(qj Int->Hp->Prop)->Prop
def PO(X:Cx)(e:qj qg)(t:TO):Prop :=
 ∀(pins:Θ)(s:qa)(σ:St)(H:Hp)(Q:qj Int->Hp->Prop),Inv X pins σ H s->t σ H Q ->
  wpAny (model X.prog X.w) X.A (evalPart e X.env) (λu s'=>∃o H',Inv X pins σ H' s'/\IsPart u o/\Q o H') X.xe s
def yjn:TO:=λZ H Q=>Q none H
def vbw(t:TE):TO:=λσ H Q=>t σ H λx H1=>∃i,x=.int i/\Q (some i) H1
def yfm{ns:Ρ}:∀{us:Ο},wu (ns.map V.int) us->IntsAre us ns:=by
 induction ns with
 |nil=>intro us r;rw[List.map_nil]at r;cases r;exact .nil
 |cons n ns ih =>
  intro us r;rw[bU]at r
  cases r with
  |cons r1 r2 =>
   let⟨t,e⟩:=r1;subst e;exact .cons n t (ih r2)
section
variable{X:Cx}{e:qg}{te:TE}{lo hi:qj qg}{tl th:TO}{pos p2:Pos}
def uv:PO X none yjn:=by intro a s σ H Q I h;rw[evalPart_none];exact bp ⟨none,H,I,.none,h⟩
def uk(h:PE X e te):PO X (some e) (vbw te):=by intro a s σ H Q I g;rw[evalPart_some];refine thn (h a s σ H _ I g) λu j h'=>?_;let⟨x,c,f,d,b⟩:=h';let⟨i,rfl,q⟩:=b;let⟨t,rfl⟩:=d;exists some i,c,f,.int i t,q
def SlR(X:Cx)(r:V->qj Int->qj Int->Hp->VK->Prop):Prop :=
 ∀(pins:Θ)(s:qa)(σ:St)(H:Hp)(x:V)(v vl vu:qb)(lo hi:qj Int)(sl:x0)(Q:VK),Inv X pins σ H s->xk x v->s.heap.IsSliceOf sl vl vu .none->IsPart vl lo->IsPart vu hi->r x lo hi H Q ->
  ∃T id,typeLookup (.type T) "__getitem__"=pure (some (.builtin id))/\s.TypeIs v T/\wpAny (model X.prog X.w) X.A (getItem v (.ref sl)) (EP X pins σ Q) X.xe s
def SlR.or{r r':V->qj Int->qj Int->Hp->VK->Prop}(h:SlR X r)(h':SlR X r'):SlR X (λx lo hi H Q=>r x lo hi H Q\/r' x lo hi H Q):=by
 intro a s σ H x v e f lo hi g Q I b d c i q;rcases q with q|q
 .exact h a s σ H x v e f lo hi g Q I b d c i q
 .exact h' a s σ H x v e f lo hi g Q I b d c i q
def tSl(r:V->qj Int->qj Int->Hp->VK->Prop)(te:TE)(tl th:TO):TE:=λσ H Q=>te σ H λx H1=>tl σ H1 λl H2=>th σ H2 λu H3=>r x l u H3 Q
def ua{r:V->qj Int->qj Int->Hp->VK->Prop}(hr:SlR X r)(he:PE X e te)(hl:PO X lo tl)(hu:PO X hi th):PE X (.Subscript e (.Slice lo hi none p2) pos) (tSl r te tl th):=by refine .mk λa s σ H Q I h=>?_;refine Subscript_ (thn (he a s σ H _ I h) λv p h'=>?_);let⟨x,j,k,E,C⟩:=h';refine wpAny_Slice (thn (hl a p σ j _ k C) λf z ⟨l,D,t,F,m⟩=>thn (hu a z σ D _ t m) λd c h'=>?_);let⟨u,g,y,J,B⟩:=h';rw[evalPart_none];refine bp ?_;have i:Inv X a σ g {c with heap:=c.heap.push { cls:=.type "slice",data:=.fields #[f,d,.none]} }:=y.kept (t':=c.toks) λb K q=>bj _ q;let⟨T,id,n,o,G⟩:=hr a {c with heap:=c.heap.push { cls:=.type "slice",data:=.fields #[f,d,.none]} } σ g x v f d l u c.heap.objs.size Q i E (Heap.IsSliceOf.new ..) F J B;show wpAny (model X.prog X.w) X.A (subscriptTail e (.Slice lo hi none p2) v (.ref c.heap.objs.size)) (EP X a σ Q) X.xe {c with heap:=c.heap.push { cls:=.type "slice",data:=.fields #[f,d,.none]} };exact tail_any (ops:=[.ref c.heap.objs.size,v]) o n G (by with_unfolding_all rfl)
def ydm(xs:Υ)(lo hi:qj Int):Υ:=(xs.drop (HT.sIx xs.length 0 lo)).take (HT.sIx xs.length xs.length hi-HT.sIx xs.length 0 lo)
def ď(xs:Υ)(lo hi:qj Int):(ydm xs lo hi).length<=xs.length:=by unfold ydm;rw[bI,cI];omega
def vgm(K:xr):V->qj Int->qj Int->Hp->VK->Prop:=λx lo hi H Q=>∃a xs,x=.ref a/\SqT K H a xs/\
 ¬(HT.sIx xs.length 0 lo=0/\HT.sIx xs.length xs.length hi=xs.length)/\∀p,H p=none->Q (.ref p) (upd H p (.tup (ydm xs lo hi)))
def yxm:SlR X (vgm X.K):=by
 intro i s σ H x v y z lo f u Q I k t m p h;let⟨a,d,rfl,l,n,q⟩:=h;cases k;let⟨e,r,j,g⟩:=I.tuple l;have c:e.toArray.size=d.length:=by rw[bz];exact r.length.symm
 refine⟨"tuple",_,PyProof.Rows.slot_tuple_getitem.lookup,j.typeIs,?_⟩;refine HT.getItem_tuple_cut j t m p (by rw[c];exact n) ?_ (by rw[c];exact g);rw[c];exists .ref s.heap.objs.size,_,I.laid (t':=s.toks) (o:=.tup (ydm d lo f)) (λb w q=>bj _ q) (bn _) ?_,rfl,q _ (I.hok.fresh (bn _));exists bQ (ď d lo f) g,_,(r.drop (HT.sIx d.length 0 lo)).take (HT.sIx d.length d.length f-HT.sIx d.length 0 lo),IsTup.new _ _
end
def ixN(n:Nat)(i:Int):qj Nat:=if 0<=i then (if i<n then some i.toNat else none)else if -(n:Int)<=i then some (i+n).toNat else none
def atI{α:Type}(xs:qi α)(i:Int):qj α:=(ixN xs.length i).bind λj=>xs[j]?
def yjb{n:Nat}{i:Int}{j:Nat}(h:ixN n i=some j):seqIndex? i n=some j/\j<n/\-(n:Int)<=i/\i<n:=by
 unfold ixN at h;by_cases h0:0<=i
 .rw[if_pos h0]at h;by_cases h1:i<n
  .rw[if_pos h1]at h;have e:i.toNat=j:=bE h;exists by rw[seqIndex_of h0 h1,e],by omega,by omega,h1
  .rw[if_neg h1]at h;cases h
 .rw[if_neg h0]at h;by_cases h1:-(n:Int)<=i
  .rw[if_pos h1]at h;have e:(i+n).toNat=j:=bE h;exists by rw[seqIndex_neg (by omega) h1,e],by omega,h1,by omega
  .rw[if_neg h1]at h;cases h
def yi9{α:Type}{xs:qi α}{i:Int}{v:α}(h:atI xs i=some v):∃j,seqIndex? i xs.length=some j/\xs[j]?=some v/\j<xs.length/\-(xs.length:Int)<=i/\i<xs.length:=by
 unfold atI at h
 cases e:ixN xs.length i with
 |none=>rw[e]at h;cases h
 |some j =>
  rw[e]at h;let⟨b,c,a,d⟩:=yjb e;exists j,b,h,c,a,d
def vq{α:Type}{xs:qi α}{j:Nat}{v:α}(h:xs[j]?=some v):atI xs (j:Int)=some v:=by
 have a:j<xs.length:=(bw.mp h).1
 have e:ixN xs.length (j:Int)=some j:=by
  unfold ixN;rw[if_pos (by omega),if_pos (by omega)];simp
 unfold atI;rw[e];exact h
def yno{α:Type}(xs:qi α)(v:α):atI (xs++[v]) (-1)=some v:=by
 have a:(xs++[v]).length=xs.length+1:=by simp
 have e:ixN (xs++[v]).length (-1)=some xs.length:=by
  unfold ixN;rw[a,if_neg (by decide),if_pos (by omega)]
  congr 1
  omega
 unfold atI;rw[e];show (xs++[v])[xs.length]?=some v;simp
def yqw(b:qg):Prop:=∀o i,subscripted b false o i=operate [o,i] (getItem o i)
def IxR(X:Cx)(r:R2):Prop :=
 ∀(value slice:qg)(pins:Θ)(s:qa)(σ:St)(H:Hp)(x y:V)(v u:qb)(Q:VK),Inv X pins σ H s->xk x v->xk y u->r x y H Q ->
  subscripted slice false v u=operate [v,u] (getItem v u)->wpAny (model X.prog X.w) X.A (subscriptTail value slice v u) (EP X pins σ Q) X.xe s
def MtR(X:Cx)(id:String)(r:V->qi V->Hp->VK->Prop):Prop :=
 ∀(pins:Θ)(s:qa)(σ:St)(H:Hp)(x:V)(xs:Υ)(v:qb)(us:Ο)(Q:VK),Inv X pins σ H s->xk x v->wu xs us->r x xs H Q ->
  wpAny (model X.prog X.w) X.A (call (.builtin id) (v::us)) (EP X pins σ Q) X.xe s
section
variable{X:Cx}{a b:qg}{ta tb:TE}{pos:Pos}
def xi{r:R2}(hr:IxR X r)(ha:PE X a ta)(hb:PE X b tb)(hs:yqw b):PE X (.Subscript a b pos) (tOp r ta tb):=by refine .mk λc s σ H Q I h=>?_;exact Subscript_ (vcz ha hb I h λv u i x y d g e f q=>hr a b c i σ d x y v u Q g e f q (hs _ _))
def vcv(K:xr):R2:=λx y H Q=>∃p xs i v,x=.ref p/\y=.int i/\SqL K H p xs/\atI xs i=some v/\Q v H
def ywn(K:xr):R2:=λx y H Q=>∃p xs i v,x=.ref p/\y=.int i/\SqT K H p xs/\atI xs i=some v/\Q v H
def xm:IxR X (vcv X.K):=by
 intro d e a s σ H x y v u Q I A E h n;let⟨p,L,i,z,rfl,rfl,o,D,q⟩:=h;cases A;let⟨t,rfl⟩:=E;let⟨f,r,l,O⟩:=I.list o;let⟨j,c,F,N,G,J⟩:=yi9 D;let⟨w,m,g⟩:=r.get F;have C:=r.length;have M:=yby;have b:EP X a σ Q w s:=⟨z,H,I,g,q⟩;by_cases h0:0<=i
 .have k:i.toNat=j:=by
   rw[seqIndex_of h0 J]at c;exact bE c
  exact item_listR l.isList h0 (by omega) (by rw[k];simpa using m) b n
 .have k:(i+(f.toArray.size:Int)).toNat=j:=by
   rw[seqIndex_neg (by omega) G]at c;rw[bz,<- C];exact bE c
  exact subscriptTail_builtinR (x:=w) l.isList.typeIs slot_list_getitem.lookup
   (wpAny_getItem_list_neg (Q:=λr B=>r=w/\EP X a σ Q r B) l.isList (by omega) (by rw[bz]<;>omega) (by omega) (by rw[k];simpa using m) ⟨rfl,b⟩) n
def xp:IxR X (ywn X.K):=by
 intro b d a s σ H x y v u Q I k o h E;let⟨p,F,i,z,rfl,rfl,g,n,q⟩:=h;cases k;let⟨t,rfl⟩:=o;let⟨B,r,f,N⟩:=I.tuple g;let⟨j,D,A,L,J,M⟩:=yi9 n;let⟨w,C,e⟩:=r.get A;have m:=r.length;have G:=yby;have c:EP X a σ Q w s:=⟨z,H,I,e,q⟩;exact subscriptTail_builtinR (x:=w) f.typeIs slot_tuple_getitem.lookup
  (getItem_tuple (j:=j) (Q:=λr l=>r=w/\EP X a σ Q r l) f (by omega) (by omega) (by rw[bz,<- m];exact D) (by simpa using C) ⟨rfl,c⟩) E
def yf7(its:Ο)(n j:Nat)(u:qb):Obj.mapSeq (·.setIfInBounds j u) { cls:=.type "list",data:=.seq its.toArray n}={ cls:=.type "list",data:=.seq (its.set j u).toArray n}:=by simp[Obj.mapSeq]
theorem Inv.lst{σ:St}{H:Hp}{s:qa}{p:x0}{xs:Υ}(I:Inv X pins σ H s)(h:H p=some (.lst xs)):
  ∃(its:Ο)(n:Nat),wu xs its/\s.heap.get? p=some { cls:=.type "list",data:=.seq its.toArray n}/\xs.length<=sizeLine:=by let⟨z,its,n,r,e⟩:=I.hok p _ h;exists its,n,r,e,z
def Inv.lstUpd{σ:St}{H:Hp}{s:qa}{p:x0}{xs ys:Υ}{its':Ο}{n n':Nat}{f:Obj->Obj}(I:Inv X pins σ H s)(h:H p=some (.lst xs))
  (ho:s.heap.get? p=some { cls:=.type "list",data:=.seq its.toArray n}) (hf:f { cls:=.type "list",data:=.seq its.toArray n}={ cls:=.type "list",data:=.seq its'.toArray n'}) (r:wu ys its') (hz:ys.length<=sizeLine) (t:Nat):
  Inv X pins σ (upd H p (.lst ys)) {s with heap:=s.heap.update p f,toks:=t}:=by
 have e:(s.heap.update p f).get? p=some { cls:=.type "list",data:=.seq its'.toArray n'}:=by
  rw[Heap.get?_update_self f ho (by rw[hf]<;>rfl),hf]
 refine I.write (x:=p) (e:=p) (by rw[h];trivial) (.inl rfl) (λb u a q=>(Heap.get?_update_other _ _ (Ne.symm a)).trans q) ⟨_,e⟩ ?_;exists hz,its',n',r,e
def vc7:V->V->V->Hp->(Hp->Prop)->Prop:=λo i v H Q=>∃p xs k j,o=.ref p/\i=.int k/\H p=some (.lst xs)/\ixN xs.length k=some j/\Q (upd H p (.lst (xs.set j v)))
def ylj:vfg X vc7:=by
 intro a s σ H o i v D G u Q I x z A h;let⟨p,y,k,j,rfl,rfl,g,B,q⟩:=h;cases x;let⟨t,rfl⟩:=z;let⟨b,n,r,e,C⟩:=I.lst g;let⟨c,E,w,m⟩:=yjb B;have d:=r.length;have F:=yby
 have l:Inv X a σ (upd H p (.lst (y.set j v))) {s with heap:=s.heap.update p (Obj.mapSeq (·.setIfInBounds j u))} :=
  I.lstUpd g e (yf7 b n j u) (r.set A j) (by rw[List.length_set];exact C) s.toks
 by_cases h0:0<=k
 .have f:k.toNat=j:=by
   rw[seqIndex_of h0 m]at c;exact bE c
  exact W.ki_setAt e h0 (by omega) (by rw[bz,<- d];exact m) (by rw[f];exact⟨_,l,q⟩)
 .have f:(k+(b.toArray.size:Int)).toNat=j:=by
   rw[seqIndex_neg (by omega) w]at c;rw[bz,<- d];exact bE c
  exact W.ki_setBack e (by omega) (by rw[bz,<- d];exact w) (by omega) (by rw[f];exact⟨_,l,q⟩)
def yay(lo hi:qj Int)(n:Nat):(sliceBounds lo hi none n).1=((HT.sIx n 0 lo:Nat):Int)/\(sliceBounds lo hi none n).2.1=((HT.sIx n n hi:Nat):Int)/\(sliceBounds lo hi none n).2.2=1:=by
 exists ?_,?_,rfl
 .cases lo with
  |none=>simp[sliceBounds,HT.sIx]
  |some i =>
   simp only[sliceBounds,HT.sIx,Option.getD_none,show (1:Int) > 0 by decide,if_true];by_cases h:i<0
   .simp only[h,if_true]<;>omega
   .simp only[h,if_false]<;>omega
 .cases hi with
  |none=>simp[sliceBounds,HT.sIx]
  |some i =>
   simp only[sliceBounds,HT.sIx,Option.getD_none,show (1:Int) > 0 by decide,if_true];by_cases h:i<0
   .simp only[h,if_true]<;>omega
   .simp only[h,if_false]<;>omega
def ũ(its:Ο)(lo hi:qj Int):slicePick its.toArray lo hi none=((its.drop (HT.sIx its.length 0 lo)).take (HT.sIx its.length its.length hi-HT.sIx its.length 0 lo)).toArray:=by let⟨b,c,a⟩:=yay lo hi its.toArray.size;unfold slicePick;rw[b,c,a];simp only[sliceRange_one,pick_run,bz]<;>rfl
def vfw(K:xr):V->qj Int->qj Int->Hp->VK->Prop:=λx lo hi H Q=>∃a xs,x=.ref a/\SqL K H a xs/\∀p,H p=none->Q (.ref p) (upd H p (.lst (ydm xs lo hi)))
def jr:SlR X (vfw X.K):=by intro f s σ H x v w y lo e t Q I j p m n h;let⟨a,c,rfl,k,q⟩:=h;cases j;let⟨i,r,g,l⟩:=I.list k;have d:=r.length;refine⟨"list",_,slot_list_getitem.lookup,g.isList.typeIs,?_⟩;refine wpAny_getItem_list_slice g.isList p m n .none (by simp) ?_ (by rw[bz]<;>omega);rw[ũ,<- d];exists .ref s.heap.objs.size,_,I.laid (t':=s.toks) (o:=.lst (ydm c lo e)) (λb u q=>bj _ q) (bn _) ?_,rfl,q _ (I.hok.fresh (bn _));exists bQ (ď c lo e) l,_,0,(r.drop (HT.sIx c.length 0 lo)).take (HT.sIx c.length c.length e-HT.sIx c.length 0 lo),bA _ rfl
def ŀ:V->Bool
 | .non=>true
 | .bl _=>true
 | .int _=>true
 | .str _=>true
 |_=>false
def eqV:V->V->Bool
 | .non,.non=>true
 | .bl a,.bl b=>a == b
 | .bl a,.int b=>(if a then 1 else 0) == b
 | .int a,.bl b=>a == (if b then 1 else 0)
 | .int a,.int b=>a == b
 | .str a,.str b=>a == b
 |_,_=>false
def yw6{A:qe}{s:qa}{y x:V}{u:qb}(ry:xk y u)(rx:xk x v)(fy:ŀ y=true)(fx:ŀ x=true):SeqAt.EqAt A s u v (eqV y x):=by
 cases y with
 |non =>
  cases ry
  cases x with
  |non=>cases rx;exact SeqAt.EqAt.same _
  |bl b=>cases rx;exact SeqAt.EqAt.none_bool b
  |int b=>let⟨t,rfl⟩:=rx;exact SeqAt.EqAt.none_int b t
  |str b=>let⟨t,rfl⟩:=rx;exact SeqAt.EqAt.none_str b t
  |_=>exact absurd (show false=true from fx) bM
 |bl a =>
  cases ry
  cases x with
  |non=>cases rx;exact SeqAt.EqAt.bool_none a
  |bl b=>cases rx;exact SeqAt.EqAt.bool_bool a b
  |int b=>let⟨t,rfl⟩:=rx;exact SeqAt.EqAt.bool_int a b t
  |str b=>let⟨t,rfl⟩:=rx;exact SeqAt.EqAt.bool_str a b t
  |_=>exact absurd (show false=true from fx) bM
 |int a =>
  let⟨c,rfl⟩:=ry
  cases x with
  |non=>cases rx;exact SeqAt.EqAt.int_none a c
  |bl b=>cases rx;exact SeqAt.EqAt.int_bool a c b
  |int b=>let⟨t,rfl⟩:=rx;exact SeqAt.EqAt.int_int a c b t
  |str b=>let⟨t,rfl⟩:=rx;exact SeqAt.EqAt.int_str a c b t
  |_=>exact absurd (show false=true from fx) bM
 |str a =>
  let⟨c,rfl⟩:=ry
  cases x with
  |non=>cases rx;exact SeqAt.EqAt.str_none a c
  |bl b=>cases rx;exact SeqAt.EqAt.str_bool a c b
  |int b=>let⟨t,rfl⟩:=rx;exact SeqAt.EqAt.str_int a c b t
  |str b=>let⟨t,rfl⟩:=rx;exact SeqAt.EqAt.str_str a c b t
  |_=>exact absurd (show false=true from fx) bM
 |_=>exact absurd (show false=true from fy) bM
def eqU(x:V)(u:qb):Bool:=match u with
 | .none=>eqV .non x
 | .bool b=>eqV (.bl b) x
 | .int i _=>eqV (.int i) x
 | .str z _=>eqV (.str z) x
 |_=>false
def yqa{x y:V}{u:qb}(r:xk y u)(f:ŀ y=true):eqU x u=eqV y x:=by
 cases y with
 |non=>cases r;rfl
 |bl b=>cases r;rfl
 |int i=>let⟨t,rfl⟩:=r;rfl
 |str z=>let⟨t,rfl⟩:=r;rfl
 |_=>exact absurd (show false=true from f) bM
theorem ğ{x:V}:∀{xs:Υ}{us:Ο},wu xs us->xs.all ŀ=true->us.any (eqU x)=xs.any λy=>eqV y x
 |_,_,.nil,_=>rfl
 |y::xs,u::us,.cons r t,f=>by
  rw[List.all_cons,bW]at f;rw[List.any_cons,List.any_cons,yqa r f.1,ğ t f.2]
theorem Ñ{A:qe}{s:qa}{x:V}(rx:xk x v)(fx:ŀ x=true):∀{xs:Υ}{us:Ο},wu xs us->xs.all ŀ=true->∀u∈us,SeqAt.EqAt A s u v (eqU x u)
 |_,_,.nil,_=>λu a=>by cases a
 |y::xs,u::us,.cons r t,f=>λb a=>by
  rw[List.all_cons,bW]at f;rcases bC.mp a with rfl|a
  .rw[yqa r f.1];exact yw6 r rx f.1 fx
  .exact Ñ rx fx t f.2 b a
def inV(x:V)(xs:Υ):Bool:=xs.any λy=>eqV y x
def rIn(K:xr)(neg:Bool):R2:=λx y H Q=>∃p xs,y=.ref p/\(SqL K H p xs\/SqT K H p xs)/\ŀ x=true/\xs.all ŀ=true/\Q (.bl (if neg then !inV x xs else inV x xs)) H
def yhm:OpR X (compareOp .In) (rIn X.K false):=by
 intro i s σ H x y v u Q I g k h;let⟨p,l,rfl,b,f,c,q⟩:=h;cases k;rcases b with b|b
 .obtain⟨a,r,d,j⟩:=I.list b;refine SeqAt.in_listAt (eqU x) d.isList (λw e=>Ñ g f r c w (by simpa using e)) ⟨.bl _,H,I,rfl,?_⟩;rw[show a.toArray.any (eqU x)=a.any (eqU x) by simp,ğ r c];exact q
 .obtain⟨a,r,d,j⟩:=I.tuple b;refine SeqAt.in_tupleAt (eqU x) d (λw e=>Ñ g f r c w (by simpa using e)) ⟨.bl _,H,I,rfl,?_⟩;rw[show a.toArray.any (eqU x)=a.any (eqU x) by simp,ğ r c];exact q
def yat:OpR X (compareOp .NotIn) (rIn X.K true):=by
 intro i s σ H x y v u Q I g k h;let⟨p,l,rfl,b,f,c,q⟩:=h;cases k;rcases b with b|b
 .obtain⟨a,r,d,j⟩:=I.list b;refine SeqAt.notIn_listAt (eqU x) d.isList (λw e=>Ñ g f r c w (by simpa using e)) ⟨.bl _,H,I,rfl,?_⟩;rw[show a.toArray.any (eqU x)=a.any (eqU x) by simp,ğ r c];exact q
 .obtain⟨a,r,d,j⟩:=I.tuple b;refine SeqAt.notIn_tupleAt (eqU x) d (λw e=>Ñ g f r c w (by simpa using e)) ⟨.bl _,H,I,rfl,?_⟩;rw[show a.toArray.any (eqU x)=a.any (eqU x) by simp,ğ r c];exact q
def yp:zh X (.builtin "len") (λxs H Q=>∃p ys,xs=[.ref p]/\(SqL X.K H p ys\/SqT X.K H p ys)/\Q (.int ys.length) H):=by
 intro f s σ H xs j Q I r h;let⟨p,ys,rfl,b,q⟩:=h;let⟨u,rfl,g⟩:=γ r;cases g;have k:=yby;rcases b with b|b
 .obtain⟨c,d,e,i⟩:=I.list b;have a:=d.length;exact Calls.call_len_list e.isList (by simp only[bz]<;>omega) ⟨.int ys.length,H,I.tok _,⟨s.toks+1,by rw[bz,a]⟩,q⟩
 .obtain⟨c,d,e,i⟩:=I.tuple b;have a:=d.length;exact len_tuple e (by simp only[bz]<;>omega) ⟨.int ys.length,H,I.tok _,⟨s.toks+1,by rw[bz,a]⟩,q⟩
def ë:zh X (.builtin "len") (λxs H Q=>∃z,xs=[.str z]/\z.length<=sizeLine/\Q (.int z.length) H):=by intro a s σ H xs c Q I r h;let⟨z,rfl,d,q⟩:=h;let⟨u,rfl,t,rfl⟩:=γ r;have b:=yby;exact len_str (by omega) ⟨.int z.length,H,I.tok _,⟨_,rfl⟩,q⟩
def w6:zh X (.type "list") (λxs H Q=>∃p ys,xs=[.ref p]/\(SqL X.K H p ys\/SqT X.K H p ys)/\∀l,H l=none->Q (.ref l) (upd H l (.lst ys))):=by
 intro k s σ H xs B Q I r h;let⟨p,ys,rfl,i,q⟩:=h;let⟨u,rfl,A⟩:=γ r;cases A;have t:∀(a:Ο),wu ys a->ys.length<=sizeLine->∀(c:qf)(d:Nat),(∀b o',s.heap.get? b=some o'->c.get? b=some o') ->
   c.get? s.heap.objs.size=some { cls:=.type "list",dict:=none,data:=.seq a.toArray d,slots:=#[]}->EP X k σ Q (.ref s.heap.objs.size) {s with heap:=c}:=λa f j c d g e =>
  ⟨.ref s.heap.objs.size,_,I.laid (t':=s.toks) g (bn _) (show w8 X.prog X.w _ c _ (.lst ys)from ⟨j,a,d,f,e⟩),rfl,q _ (I.hok.fresh (bn _))⟩
 rcases i with i|i
 .obtain⟨a,f,x,j⟩:=I.list i;have m:=f.length;let⟨o,v,z,n,y⟩:=x.isList;exact call_list_seq p (.inl rfl) v z y (λc d g e=>t a f j c d g e) (by simp only[bz]<;>omega)
 .obtain⟨a,f,x,j⟩:=I.tuple i;have m:=f.length;let⟨o,v,z,n,y⟩:=x;exact call_list_seq p (.inr rfl) v z y (λc d g e=>t a f j c d g e) (by simp only[bz]<;>omega)
def Å:zh X (.type "tuple") (λxs H Q=>∃p ys,xs=[.ref p]/\((SqL X.K H p ys/\∀l,H l=none->Q (.ref l) (upd H l (.tup ys)))\/(SqT X.K H p ys/\Q (.ref p) H))):=by
 intro a s σ H xs x Q I r h;let⟨p,ys,rfl,h⟩:=h;let⟨u,rfl,t⟩:=γ r;cases t;rcases h with⟨f,q⟩|⟨f,q⟩
 .obtain⟨c,g,i,k⟩:=I.list f;have m:=g.length;refine call_tuple_list i.isList (λd n=>?_) (by simp only[bz]<;>omega);have j:Inv X a σ H {s with heap:=d}:=I.kept (t':=s.toks) n
  have v:Inv X a σ (upd H d.objs.size (.tup ys)) {s with heap:=d.push { cls:=.type "tuple",data:=.seq c.toArray} } :=
   j.laid (t':=s.toks) (λb o e=>bj _ e) (bn _) (show w8 X.prog X.w _ _ _ (.tup ys)from ⟨k,c,g,IsTup.new _ _⟩)
  exists .ref d.objs.size,_,v,rfl,q _ (j.hok.fresh (bn _))
 .obtain⟨c,g,i,k⟩:=I.tuple f;exact call_tuple_same i ⟨.ref p,H,I,rfl,q⟩
def tyV(K:xr)(T:String)(x:V)(H:Hp):Prop:=match x with
 | .str _=>T="str"
 | .int _=>T="int"
 | .ref p=>(T="list"/\∃xs,SqL K H p xs)\/(T="tuple"/\∃o,K.lookup p=some o/\o.cls=.type "tuple"/\o.dict=none) \/
   (T="dict"/\((∃kvs,H p=some (.dK kvs))\/∃kvs,H p=some (.dT kvs)))\/(T="set"/\∃S n,H p=some (.set S n))
 |_=>False
def yp0{σ:St}{H:Hp}{s:qa}{T:String}{x:V}(I:Inv X pins σ H s)(r:xk x v)(ty:tyV X.K T x H):
  s.TypeIs v T/\∀a,v=.ref a->∃ob,s.heap.get? a=some ob/\ob.dict=none:=by
 cases x with
 |str z =>
  let⟨t,rfl⟩:=r;cases (show T="str" from ty)
  exists typeIs_str s z t,λZ e=>nomatch e
 |int i =>
  let⟨t,rfl⟩:=r;cases (show T="int" from ty)
  exists typeIs_int s i t,λZ e=>nomatch e
 |ref p =>
  cases r;rcases ty with⟨rfl,q,l⟩|⟨rfl,o,b,m,h⟩|⟨rfl,b⟩|⟨rfl,S,n,b⟩
  .obtain⟨k,_,j,_⟩:=I.list l;exists j.isList.typeIs,λa e=>?_;cases e;let⟨o,n,e,c,h,_⟩:=j;exact⟨o,e,h⟩
  .exists⟨o,I.kIn p o b,m⟩,λa e=>?_;cases e;exists o,I.kIn _ o b,h
  .have z:∃o,s.heap.get? p=some o/\o.ExactDict:=by
    rcases b with⟨f,b⟩|⟨f,b⟩
    .obtain⟨_,_,_,_,o,_,_,e,d,_⟩:=I.hok p _ b;exact⟨o,e,d⟩
    .obtain⟨_,_,_,_,o,_,_,e,d,_⟩:=I.hok p _ b;exact⟨o,e,d⟩
   let⟨o,e,d⟩:=z;exists⟨o,e,d.1⟩,λa g=>?_;cases g;exact⟨o,e,d.2.1⟩
  .obtain⟨o,_,_,_,e,d,_⟩:=I.hok p _ b;exists⟨o,e,d.1⟩,λa g=>?_;cases g;exact⟨o,e,d.2.1⟩
 |_=>exact False.elim ty
def vfj(K:xr)(T:String)(r:V->qi V->Hp->VK->Prop)(to:TE):TE:=λσ H Q=>to σ H λx H1=>tyV K T x H1/\r x [] H1 Q
def tBM(K:xr)(T:String)(r:V->qi V->Hp->VK->Prop)(to:TE)(t:TA):TE:=λσ H Q=>to σ H λx H1=>tyV K T x H1/\t σ H1 λxs H2=>r x xs H2 Q
variable{o e:qg}{es:qi qg}{to:TE}{t:TA}{name:Str}{apos cpos:Pos}{T id:String}{r:V->qi V->Hp->VK->Prop}
def yj5(pa:PlainAttrs T)(slot:Slot T name id)(hty:typeOf (.builtin id)=pure (.type "method_descriptor"))(hm:MtR X id r)(ho:PE X o to)
  (hbase:attributeBase o name X.env (eval o X.env)=eval o X.env:=by rfl) (hline:(apos.endLine == cpos.line)=true:=by rfl):PE X (.Call (.Attribute o name apos) [] [] cpos) (vfj X.K T r to):=by refine .mk λa s σ H Q I h=>?_;refine wpAny_Call_method0_late hbase hline (thn (ho a s σ H _ I h) λv f h'=>?_);let⟨x,e,c,b,j,d⟩:=h';let⟨g,i⟩:=yp0 c b j;exists T,id,pa,slot,hty,g,i,Calls.callWith_builtin rfl (PySem.evalArgs_none (hm a f σ e x [] v [] Q c b .nil d))
def è(pa:PlainAttrs T)(slot:Slot T name id)(hty:typeOf (.builtin id)=pure (.type "method_descriptor"))(hm:MtR X id r)(ho:PE X o to)(ha:PA X (e::es) t)
  (hbase:attributeBase o name X.env (eval o X.env)=eval o X.env:=by rfl)
  (hfew:((backTo cpos (starEach (e::es) X.env)).all (λx=>!x.1) && (backToKw cpos (keywordEach [] X.env)).all (λx=>x.1.isSome)
   && decide ((e::es).length+([]:qi Keyword).length+(if ([]:qi Keyword).isEmpty then 0 else 1)<30))=true:=by rfl)
  (hline:(apos.endLine == cpos.line)=true:=by rfl) (hs:starEach (e::es) X.env=(false,eval e X.env)::starEach es X.env:=by rfl) (hplain:(backTo cpos (starEach es X.env)).any (·.1)=false:=by rfl):
  PE X (.Call (.Attribute o name apos) (e::es) [] cpos) (tBM X.K T r to t):=by refine .mk λa s σ H Q I h=>?_;refine wpAny_Call_method_late hbase hfew hline rfl (thn (ho a s σ H _ I h) λv k h'=>?_);let⟨x,i,c,b,u,g⟩:=h';let⟨q,p⟩:=yp0 c b u;exists T,id,pa,slot,hty,q,p,?_;have d:=ha cpos a k σ i _ c g;rw[hs]at d⊢;refine Calls.callWith_builtin (by show (false || (backTo cpos (starEach es X.env)).any (·.1))=false;rw[hplain]<;>rfl) (Calls.evalArgs_plain ?_);exact thn d λl y ⟨f,j,w,m,n⟩=>hm a y σ j x f v l Q w b m n
end
def MtM(X:Cx)(id:String)(r:V->qi V->Hp->VK->Prop):Prop :=
 ∀(pins:Θ)(s:qa)(σ:St)(H:Hp)(x:V)(xs:Υ)(v:qb)(us:Ο)(Q:VK),Inv X pins σ H s->xk x v->wu xs us->r x xs H Q ->
  wpAny (model X.prog X.w) X.A (call (.builtin id) (v::us)) (EP X pins σ Q) X.xe s
def wu.one{x:V}(h:wu [x] us):∃u,us=[u]/\xk x u:=by
 cases h with
 |cons r t=>cases t;exists _,rfl,r
theorem wu.zero:∀{us:Ο},wu [] us->us=[]
 |_,.nil=>rfl
theorem wu.reverse{xs:Υ}(h:wu xs us):wu xs.reverse us.reverse:=by
 induction h with
 |nil=>exact .nil
 |cons r t ih=>rw[List.reverse_cons,List.reverse_cons];exact wu.append ih (.cons r .nil)
theorem wu.rep{xs:Υ}(h:wu xs us):∀k:Nat,wu (List.replicate k xs).flatten (List.replicate k us).flatten
 |0=>.nil
 |k+1=>by
  rw[cu,cu,List.flatten_cons,List.flatten_cons];exact wu.append h (wu.rep h k)
theorem ybi(its:Ο):∀(k:Nat)(acc:Ο),
  List.foldl (λx1 x2=>x1++x2) acc.toArray (List.replicate k its.toArray)=(acc++(List.replicate k its).flatten).toArray
 |0,acc=>by simp
 |k+1,acc=>by
  have e:acc.toArray++its.toArray=(acc++its).toArray:=by simp
  have a:(acc++its)++(List.replicate k its).flatten=acc++(List.replicate (k+1) its).flatten:=by
   rw[cu,List.flatten_cons,cz]
  rw[<- a,<- ybi its k (acc++its),<- e,cu,List.foldl_cons]
section
variable{X:Cx}{σ:St}{H:Hp}{s:qa}{l b:x0}{xs ys zs:Υ}
def Inv.lset{its':Ο}{n:Nat}{f:Array qb->Array qb}{t':Nat}(I:Inv X pins σ H s)(hH:H l=some (.lst xs))
  (e:s.heap.get? l=some { cls:=.type "list",data:=.seq its.toArray n}) (hf:f its.toArray=its'.toArray) (hv:wu ys its') (hz:ys.length<=sizeLine):
  Inv X pins σ (upd H l (.lst ys)) {s with heap:=s.heap.update l (Obj.mapSeq f),toks:=t'}:=by have q:=PySem.IsL.update e f;rw[hf]at q;refine I.write (x:=l) (e:=l) (by rw[hH];exact trivial) (.inl rfl) (λc u b a=>(Heap.get?_update_other s.heap (Obj.mapSeq f) (Ne.symm b)).trans a) ⟨_,q⟩ ?_;exists hz,its',_,hv,q
def Inv.lnew{t':Nat}(I:Inv X pins σ H s)(hv:wu ys its)(hz:ys.length<=sizeLine):
  Inv X pins σ (upd H s.heap.objs.size (.lst ys)) {s with heap:=s.heap.push { cls:=.type "list",data:=.seq its.toArray},toks:=t'} :=
 I.laid (λZ Z q=>bj _ q) (bn _) ⟨hz,its,0,hv,bA _ rfl⟩
theorem Inv.fresh(I:Inv X pins σ H s):H s.heap.objs.size=none:=I.hok.fresh (bn _)
def Inv.lstM(I:Inv X pins σ H s)(hH:H l=some (.lst xs)):xs.length<=sizeLine/\∃(its:Ο)(n:Nat),wu xs its/\xs.length=its.length/\s.heap.get? l=some { cls:=.type "list",data:=.seq its.toArray n}:=by let⟨z,its,n,r,e⟩:=I.hok l _ hH;exists z,its,n,r,r.length,e
def yd5{n:Nat}(h:n<=sizeLine):Builtin.List.listTooLong n=false:=by unfold Builtin.List.listTooLong;exact bD (by omega)
end
section
variable{X:Cx}
def yiz:V->qi V->Hp->VK->Prop:=λx vs H Q=>∃l xs y,x=.ref l/\vs=[y]/\H l=some (.lst xs)/\xs.length<sizeLine/\Q .non (upd H l (.lst (xs++[y])))
def xh:MtM X "list.append" yiz:=by intro c s σ H x i v k Q I g d h;let⟨l,j,y,rfl,rfl,b,m,q⟩:=h;cases g;let⟨u,rfl,f⟩:=d.one;let⟨z,a,n,r,o,e⟩:=I.lstM b;refine call_meets F.slot_list_append ⟨_,e,rfl⟩ F.entry_list_append (F.args_list_append_2 _ _) (PySem.list_append l a.toArray n u (by rw[bz];omega)) ⟨e,?_⟩;exists .non,_,I.lset (its':=a++[u]) b e (by simp) (r.append (.cons f .nil)) ?_,rfl,q;rw[bq,cj];omega
def yq7:V->qi V->Hp->VK->Prop:=λx vs H Q=>∃l b xs zs,x=.ref l/\vs=[.ref b]/\H l=some (.lst xs)/\H b=some (.lst zs)/\xs.length+zs.length<=sizeLine/\Q .non (upd H l (.lst (xs++zs)))
def yh5:MtM X "list.extend" yq7:=by
 intro i s σ H x A v E Q I k w h;let⟨l,b,D,G,rfl,rfl,g,o,J,q⟩:=h;cases k;let⟨u,rfl,y⟩:=w.one;cases y;let⟨z,c,n,r,B,e⟩:=I.lstM g;let⟨C,a,t,j,m,p⟩:=I.lstM o;have f:c.toArray.size+a.toArray.size<=sizeLine:=by rw[bz,bz];omega
 have d:¬(!c.toArray.isEmpty && Builtin.List.listTooLong (c.toArray.size+a.toArray.size))=true:=by
  rw[yd5 f,Bool.and_false];exact bM
 refine call_meets F.slot_list_extend ⟨_,e,rfl⟩ F.entry_list_extend (F.args_list_extend_2 _ _)
  (AutoSeq1.list_extend_list_list_0 l c.toArray n b a.toArray t d (by rw[bz];omega) (by omega)) ⟨e,p,?_⟩
 exists .non,_,I.lset (its':=c++a) g e (by simp) (r.append j) ?_,rfl,q;rw[bq];omega
def yds:V->qi V->Hp->VK->Prop:=λx vs H Q=>∃l xs,x=.ref l/\vs=[]/\H l=some (.lst xs)/\Q .non (upd H l (.lst xs.reverse))
def ō:MtM X "list.reverse" yds:=by intro d s σ H x i v k Q I g f h;let⟨l,j,rfl,rfl,c,q⟩:=h;cases g;have b:=f.zero;subst b;let⟨z,a,n,r,m,e⟩:=I.lstM c;refine call_meets F.slot_list_reverse ⟨_,e,rfl⟩ F.entry_list_reverse (F.args_list_reverse_1 _) (AutoSeq1.list_reverse_list_0 l a.toArray n (by rw[bz];omega)) ⟨e,?_⟩;exists .non,_,I.lset (its':=a.reverse) c e (by simp) r.reverse ?_,rfl,q;rw[List.length_reverse];omega
def vgb:R2:=λx y H Q=>∃l b xs zs,x=.ref l/\y=.ref b/\H l=some (.lst xs)/\H b=some (.lst zs)/\xs.length+zs.length<=sizeLine/\∀p,H p=none->Q (.ref p) (upd H p (.lst (xs++zs)))
def yk3:OpR X (binaryOp .Add) vgb:=by
 intro d s σ H x y v u Q I k m h;let⟨l,b,w,C,rfl,rfl,g,o,A,q⟩:=h;cases k;cases m;let⟨z,c,n,r,B,e⟩:=I.lstM g;let⟨D,a,t,j,f,p⟩:=I.lstM o;refine PySem.P.add_list e p ?_ (by rw[bz,bz];omega);have i:c.toArray++a.toArray=(c++a).toArray:=by simp
 rw[i];exists .ref _,_,I.lnew (t':=s.toks) (r.append j) (by rw[bq];omega),rfl,q _ I.fresh
def vgq:R2:=λx y H Q=>∃l k xs,x=.ref l/\y=.int k/\H l=some (.lst xs)/\-(2^63)<=k/\k<2^63/\xs.length*k.toNat<=sizeLine/\
 ∀p,H p=none->Q (.ref p) (upd H p (.lst (List.replicate k.toNat xs).flatten))
def ys5{α:Type}(xs:qi α)(k:Nat):(List.replicate k xs).flatten.length=k*xs.length:=by
 induction k with
 |zero=>simp
 |succ k ih=>rw[cu,List.flatten_cons,bq,ih,Nat.succ_mul,Nat.add_comm]
def yb1:OpR X (binaryOp .Mult) vgq:=by
 intro p s σ H x y v u Q I A D h;let⟨l,k,L,rfl,rfl,J,K,E,w,q⟩:=h;cases A;let⟨t,rfl⟩:=D;let⟨z,b,n,r,C,e⟩:=I.lstM J;have g:b.toArray.size*k.toNat<=sizeLine:=by rw[bz,<- C];exact w
 have f:¬b.toArray.size*k.toNat > (2^63-1)/8:=by
  have:(sizeLine:Nat)<=(2^63-1)/8:=by decide
  omega
 have i:¬(!Builtin.List.listFitsIndex k)=true:=by
  rw[fitsIndex_both K E];exact bM
 have c:¬Builtin.List.listTooLong (b.toArray.size*k.toNat)=true:=by
  rw[yd5 g];exact bM
 have d:List.foldl (λo j=>o++j) #[] (List.replicate (if b.toArray.isEmpty=true then 0 else k.toNat) b.toArray)=(List.replicate k.toNat b).flatten.toArray:=by
  have G:∀m:Nat,List.foldl (λo j=>o++j) #[] (List.replicate m b.toArray)=(List.replicate m b).flatten.toArray:=λm=>by
   have:=ybi b m [];rw[List.nil_append]at this;exact this
  rw[G]
  cases b with
  |nil=>simp
  |cons a r'=>rw[if_neg (by simp)]
 refine wpAny_binaryOp_repeat_ref (T:="list") (U:="int") (by decide) ⟨_,e,rfl⟩ (λB=>typeIs_int B k t) noFill_list_mul F.fills_int_mul F.slot_int_rmul repeat_list F.slot_int_index.lookup
  (call_meets F.slot_int_rmul (typeIs_int s k t) F.entry_int_rmul (F.args_int_rmul_2 _ _) (int___rmul___int_list k t l b.toArray n)
   ⟨e,rfl,⟨_,e,rfl⟩,call_meets F.slot_list_mul ⟨_,e,rfl⟩ F.entry_list_mul (F.args_list_mul_2 _ _) (AutoListH.list___mul___list_int_3 l b.toArray n k t i f c) ⟨e,?_⟩⟩)
 rw[d];exists .ref _,_,I.lnew (t':=s.toks) (r.rep k.toNat) (by rw[ys5,Nat.mul_comm];exact w),rfl,q _ I.fresh
end
end L2
namespace Att
open PySem PySem.W PySem.Calls PyProof.Rows
def ă{P:Params}{h:qf}:∀(ns:Ρ)(vs:Ο),WellAll P h vs (ns.map WData.int)->IntsAre vs ns:=by
 intro ns
 induction ns with
 |nil =>
  intro vs w;rw[List.map_nil]at w;cases w;exact .nil
 |cons n ns ih =>
  intro vs w;rw[bU]at w
  cases w with
  |cons a b =>
   cases a;exact .cons _ _ (ih _ b)
def yg9{l:OpenLaw}{n:Nat}(hn:l.most=some n){P:Params}{h:qf}{args:qi WData}{vals:Ο}
  (hpre:l.row.toRowW.claim.pre args=true) (hwl:WellAll P h vals args):
  ∃a vs ns,vals=[Value.ref a]/\args=[WData.list (ns.map WData.int)]/\h.get? a=some { cls:=.type "list",data:=.seq vs.toArray}/\IntsAre vs ns/\ns.length<=n:=by
 have f:WShape.hasAll [] args [.list .int]=true:=(pre_splitW hpre).1;have g:l.pre.holds [] { args:=args}=true:=(pre_splitW hpre).2;let⟨d,r,rfl,k,m⟩:=hasAllW_cons f;obtain rfl:=hasAllW_nil m;let⟨o,rfl,i⟩:=hasW_list k;let⟨ns,rfl⟩:=items_int i
 have b:ns.length<=n:=by
  unfold OpenLaw.pre at g
  have e:(WTm.not (.lt (.lit (.int (n:Int))) (.len (.arg 0)))).holds [] { args:=[.list (ns.map .int)]}=true:=by
   have e:=(holds_andW g).1;rw[hn]at e;exact e
  have c:=condW_of e (w_not (w_lt w_lit (w_len_list (w_arg rfl))));rw[bf]at c;refine Nat.le_of_not_lt λq=>?_;have j:(n:Int)<((ns.length:Nat):Int):=by omega
  first
   |(rw[bv j]at c;exact absurd c (by decide))
   |(simp at c;omega)
 cases hwl with
 |cons w1 w2 =>
  cases w2
  cases w1 with
  |list ho hall=>exists _,_,ns,rfl,rfl,ho,ă ns _ hall,b
def yhy(l:OpenLaw)(args:qi WData):l.row.toRowW.claim.post args (.bool true) args=true :=
 postW_of (r:=l.row.toRowW) (X:=(true == true))
  (show WShape.has [] (.bool true) .bool=true by first|rfl|decide|simp[WShape.has,WShape.arms,WShape.armsAll])
  (show (WTm.eq .res (.lit (.bool true))).value [] { args:=args,res:=some (.bool true),after:=args}=some (.bool (true == true))from w_eq_bool (w_res rfl) w_lit) rfl
def attach_call{l:OpenLaw}{n:Nat}{q:qh}{loose:Τ}{XP:(Ε)->qf->Prop}{YP:qd->qf->Prop}{d:DefRec}
  (hn:l.most=some n) (hdf:d.params.defaults=[])
  (call:∀(w:qd)(s₀ s₁:qa)(mg mb:Ε)(fa:x0)(o:Obj)(pm cd doc:qb)(a:x0)(vs:Ο)(ns:Ρ),
   Ground q loose [] XP w s₀ mg mb s₁.heap->YP w s₁.heap ->
   s₁.heap.get? fa=some o->o.data=.func (docDef d.name d.params d.body d.scope pm cd doc)->s₁.heap.CodeRec cd d.name->mg d.name=some (.ref fa) ->
   s₁.heap.get? a=some { cls:=.type "list",data:=.seq vs.toArray}->IntsAre vs ns->ns.length<=n->s₁.gens=#[] ->
   codeAny (model l.prog w) callerA (.call (.ref fa) ⟨[.ref a],[]⟩) (λr s'=>r=.ok (.ret (.bool true))/\OldK s₁.heap s'.heap/\s'.os=s₁.os/\AllBare s'.gens) s₁):
  WalkO q loose XP YP l.row.toRowW d [] (λf vs=>PySem.call f vs):=by
 intro w s₀ s₁ mg mb G Y fa o pm cd doc y kV z B i m j F p k H c t x h u;obtain rfl:y=.none:=Dflts.none m hdf;obtain rfl:kV=.none:=Dflts.noKw m;let⟨a,vs,ns,rfl,rfl,e,b,g⟩:=yg9 hn c h;refine enter_call (codeAny_mono (call w s₀ s₁ mg mb fa o pm cd doc a vs ns G Y z (fd_plain B) i j e b g F) λr s' v=>?_);let⟨rfl,A,D,C⟩:=v
 exists .inl ⟨.bool true,.bool true,[],rfl,λZ=>rfl,.bool true,yhy l _,λZ=>⟨List.Pairwise.nil,λZ E=>(nomatch E)⟩⟩,A,D,C
section
variable{prog:qh}{w:qd}{A:qe}{E:Δ}{s:qa}{K:Frag}
def vfd(h:qf)(L d:x0):Θ:=(List.range h.objs.size).filterMap λa=>if a=L\/a=d then none else (h.get? a).map λo=>(a,o)
end
end Att
namespace L2
open PySem PySem.Spec PyProof.Rows
variable{C a p:x0}{fd:FuncData}{qual:Str}{T:String}
theorem ybe:∀{vs:Ο}{ns:Ρ},IntsAre vs ns->wu (ns.map V.int) vs
 |_,_,.nil=>.nil
 |_,_,.cons n t h=>.cons ⟨t,rfl⟩ (ybe h)
def ve5(H:Hp):Prop:=∀b,H b=none\/∃o xs,H b=some (.frz o (.lst xs))
def ymk{P:qh}{w:qd}{K:xr}{mg mb:Ε}{CX:CXT}{k:Nat}{fa:x0}{x:Str}{sp:Sp}{s₁:qa}{vs:Ο}{ns:Ρ}
  (KX:K.In s₁.heap) (hns:s₁.heap.Ns mainGlobals mg) (hb:s₁.heap.Ns builtinsNs mb) (hbb:∀x:Str,x≠"__name__"->mb x=bootBuiltins x) (hlim:s₁.heap.NoLimit) (hg:s₁.gens=#[])
  (ha:s₁.heap.get? a=some { cls:=.type "list",data:=.seq vs.toArray}) (hi:IntsAre vs ns) (hl:ns.length<=sizeLine) (hr:jh k callerA)
  (F:∀base:qf,K.In base->base.Ns mainGlobals mg->vz P w K mg base CX k fa fd [x] sp) (hbind:∀(s:qa)(u:qb),BindsTo s fd ⟨[u],[]⟩ [(x,u)])
  (hsp:∀H:Hp,ve5 H->SqL K H a (ns.map V.int)->sp [.ref a] H (λv W=>v=.bl true) λW W W=>False)
  (hCX:∀H e s',CX [] H s₁ (λW W W=>False) e s'->False):
  codeAny (model P w) callerA (.call (.ref fa) ⟨[.ref a],[]⟩) (λr s'=>r=.ok (.ret (.bool true))/\OldK s₁.heap s'.heap/\s'.os=s₁.os/\AllBare s'.gens) s₁:=by
 have L:=ybe hi;have B:=hi.length;have g:∀H:Hp,ve5 H->SqL K H a (ns.map V.int)->HOk P w H s₁.heap->(∀b,H b≠none->b=a)->(H a≠none->K.lookup a=none) ->
   codeAny (model P w) callerA (.call (.ref fa) ⟨[.ref a],[]⟩) (λr s'=>r=.ok (.ret (.bool true))/\OldK s₁.heap s'.heap/\s'.os=s₁.os/\AllBare s'.gens) s₁:=by
  intro H G X p I R;have c:∀{b:x0}{o:Obj},s₁.heap.get? b=some o->H b=none->(yny s₁.heap H).get? b=some o:=λe n=>ymq e n
  have C:∀{b:x0}{o:Obj}{i:Array DictEntry}{j:Nat},s₁.heap.get? b=some o->o.data=.dict i j->H b=none:=λ{b o i j}e d=>by
   cases q:H b with
   |none=>rfl
   |some u =>
    have D:b=a:=I b (by rw[q];simp);subst D;rw[ha]at e;cases e;have Q:Data.seq vs.toArray _=Data.dict i j:=d;cases Q
  have f:∀{b:x0}{m:Ε},s₁.heap.Ns b m->(yny s₁.heap H).Ns b m:=λ{b m} ⟨o,i,j,e,d,r⟩=>⟨o,i,j,c e (C e d),d,r⟩
  have l:K.In (yny s₁.heap H):=λb o e=>c (KX b o e) (by
   cases q:H b with
   |none=>rfl
   |some u =>
    have D:b=a:=I b (by rw[q];simp);subst D;rw[R (by rw[q];simp)]at e;cases e)
  have N:Mod K mg (yny s₁.heap H):=⟨l,f hns,⟨mb,f hb,hbb⟩,let ⟨mc,h1,h2⟩:=hlim;⟨mc,f h1,h2⟩⟩;have S:ywg P w K mg (yny s₁.heap H) callerA [] s₁ H:=⟨rfl,N,λb o e=>ysu e,Nat.le_of_eq (yhd _ _),trivial,λb hb=>absurd (show b∈([]:Χ)from hb) (by simp),p,.of_eq hg⟩;refine codeAny_mono ((F _ l (f hns)).run callerA [] s₁ H ⟨[.ref a],[]⟩ [.ref a] [.ref a] _ _ hr S (hbind s₁ (.ref a)) (.cons rfl .nil) (hsp H G X)) λr s' h=>?_
  cases r with
  |error e=>exact(hCX H e s' h).elim
  |ok fl =>
   cases fl with
   |next=>exact False.elim h
   |brk=>exact False.elim h
   |cont=>exact False.elim h
   |ret u =>
    let⟨v,H',os,A,E,t,M,q⟩:=h;have U:v=.bl true:=q;subst U;obtain rfl:u=Value.bool true:=M;exists rfl,OldK.of_keep λb o e=>?_,os,A
    cases q:H b with
    |none=>exact E.keep b o e q (by intro z;exact absurd (show b∈([]:Χ)from z) (by simp)) (by simp)
    |some u =>
     rcases G b with z|⟨Y,Z,z⟩
     .rw[q]at z;cases z
     .have O:=E.frzs b Y _ z;let⟨J,_⟩:=p b _ z;let⟨T,_⟩:=t b _ O;rw[e]at J;cases J;exact T
 cases hk:K.lookup a with
 |some o =>
  have e:=KX a o hk;rw[ha]at e;cases e;refine g (λW=>none) (λW=>.inl rfl) (.inr ⟨_,vs.toArray,_,hk,rfl,rfl,rfl,by rw[bz,B];exact hl,by simpa using L⟩) (λb u z=>by have y:(none:qj HO)=some u:=z;cases y) (λb z=>absurd rfl z) λz=>absurd rfl z
 |none =>
  refine g (λb=>if b=a then some (.frz { cls:=.type "list",data:=.seq vs.toArray} (.lst (ns.map V.int)))else none) (λb=>?_) (.inl (.inr ⟨{ cls:=.type "list",data:=.seq vs.toArray},if_pos rfl⟩)) (λb u z=>?_) (λb z=>?_) λW=>hk
  .by_cases hb:b=a
   .exact .inr ⟨_,_,if_pos hb⟩
   .exact .inl (if_neg hb)
  .by_cases hb:b=a
   .have y:=(if_pos hb).symm.trans z;cases y;subst hb;exists ha,by rw[bf];exact hl,vs,_,L,ha
   .have y:=(if_neg hb).symm.trans z;cases y
  .by_cases hb:b=a
   .exact hb
   .exact absurd (if_neg hb) z
def walk_of{l:W.OpenLaw}{n k:Nat}{q:qh}{loose:Τ}{XP:(Ε)->qf->Prop}{YP:qd->qf->Prop}{d:DefRec}{K:Params->xr}{CX:qd->CXT}{sp:qd->Sp}{x:Str}
  (hn:l.most=some n) (hn2:n<=sizeLine) (hdf:d.params.defaults=[]) (hr:jh k callerA)
  (hY:∀(w:qd)(h:qf),YP w h->(K w.params).In h)
  (F:∀(w:qd)(mg:Ε)(fa:x0)(h:qf),(K w.params).In h->h.Ns mainGlobals mg->mg d.name=some (.ref fa) ->
   ∃fd:FuncData,(∀(s:qa)(u:qb),BindsTo s fd ⟨[u],[]⟩ [(x,u)])/\
    ∀base:qf,(K w.params).In base->base.Ns mainGlobals mg->vz l.prog w (K w.params) mg base (CX w) k fa fd [x] (sp w))
  (hsp:∀(w:qd)(H:Hp)(a:x0)(ns:Ρ),ns.length<=n->ve5 H->SqL (K w.params) H a (ns.map V.int)->sp w [.ref a] H (λv Z=>v=.bl true) λZ Z Z=>False)
  (hCX:∀(w:qd)(H:Hp)(s:qa)(e:qb)(s':qa),CX w [] H s (λZ Z Z=>False) e s'->False):
  W.WalkO q loose XP YP l.row.toRowW d [] (λf vs=>PySem.call f vs):=by refine Att.attach_call hn hdf λw s₀ s₁ mg L fa o I E B a vs ns G Y D J t m j i c C=>?_;have p:=hY w _ Y;let⟨fd,z,r⟩:=F w mg fa _ p G.T.g m;exact ymk p G.T.g G.T.b G.T.builtins G.T.nolimit C j i (bQ c hn2) hr r z (λH y A=>hsp w H a ns c y A) λH e s'=>hCX w H s₁ e s'
def yy(s:qc)(j:Nat):qc:=match s with
 | .ClassDef _ _ _ body _ _ _ _ _ _ _=>body.getD j (.Pass ⟨0,0,0,0⟩)
 |_=>.Pass ⟨0,0,0,0⟩
def wt(s:qc):Arguments:=match s with
 | .FunctionDef _ a _ _ _ _ _ _ _ _=>a
 |_=>{ posonlyargs:=[],args:=[],vararg:=none,kwonlyargs:=[],kw_defaults:=[],kwarg:=none,defaults:=[]}
def wd(s:qc):qi qc:=match s with
 | .FunctionDef _ _ b _ _ _ _ _ _ _=>b
 |_=>[]
def ye(s:qc):Scope:=match s with
 | .FunctionDef _ _ _ _ _ _ sc _ _ _=>sc
 |_=>{ kind:=.function,names:=[],isGenerator:=false,isCoroutine:=false}
abbrev CX0:CXT:=λZ Z Z Z Z Z=>False
abbrev E0:XK:=λZ Z Z=>False
def v7{X:Cx}:î CX0 X E0:=λZ Z Z Z Z Z Z h=>h.elim
structure Fun(K:xr)(x qual:Str)(st:qc)(f:x0)(fd:FuncData):Prop where
 ex:∃(oc:qb)(od:qj x0)(kV doc pm:qb)(an:qj x0)(cdv ct:qb)(osl:Array (qj qb)),
  fd=W.fnOf x qual (wt st) (wd st) (ye st) .none kV doc pm an cdv ct/\K.lookup f=some ⟨oc,od,.func fd,osl⟩/\W.codeIn K cdv qual=true
 kp:W.keepIn K (.ref f)=true
section
variable{P:qh}{w:qd}{K:xr}{mg:Ε}{base:qf}
def Fun.ok{x:Str}{st:qc}{f:x0}{N ps:Τ}{k:Nat}{sp:Sp}(F:Fun K x qual st f fd)(S:yi N ps (ye st))(len:∀vs H Q E,sp vs H Q E->vs.length=ps.length)
  (hbody:∀(cdv:qb)(A:qe)(outer:qi Env)(s:qa)(H:Hp)(vs:Υ)(Q:VK)(E:XK),jh k (A.deeper (envOfC qual (ye st) s.heap.objs.size f cdv))->sp vs H Q E ->
   ∃t,PSs (vy CX0 P w K mg base N qual (ye st) f cdv A outer s H E).nox (wd st) t/\t { nx:=λZ H'=>Q .non H',rt:=Q} (é N vs) H):vz P w K mg base CX0 (k+1) f fd ps sp:=by let⟨n,j,kV,g,l,m,cdv,i,c,rfl,e,b⟩:=F.ex;refine ynr e b S len λA outer s H vs Q E d a=>?_;let⟨t,h,q⟩:=hbody cdv A outer s H vs Q E d a;exact⟨t,h.nox,q⟩
def Fun.binds{x:Str}{st:qc}{f:x0}{ps:Τ}(F:Fun K x qual st f fd)
  (h:∀(kV doc pm:qb)(an:qj x0)(cdv ct:qb)(us:Ο),us.length=ps.length->bindArgs (W.fnOf x qual (wt st) (wd st) (ye st) .none kV doc pm an cdv ct) ⟨us,[]⟩=pure (ps.zip us)):xw K fd ps []:=by let⟨e,c,kV,doc,pm,an,cdv,ct,a,rfl,d,b⟩:=F.ex;exact .all (h kV doc pm an cdv ct)
def yqj{x:Str}{st:qc}{f:x0}{oc:qb}{od an:qj x0}{osl:Array (qj qb)}{kV doc pm cdv ct:qb}(l:K.lookup f=some ⟨oc,od,.func (W.fnOf x qual (wt st) (wd st) (ye st) .none kV doc pm an cdv ct),osl⟩)
  (c:W.codeIn K cdv qual=true) (k:W.keepIn K (.ref f)=true):Fun K x qual st f (W.fnOf x qual (wt st) (wd st) (ye st) .none kV doc pm an cdv ct):=⟨⟨oc,od,kV,doc,pm,an,cdv,ct,osl,rfl,l,c⟩,k⟩
end
def zg{A:qe}{k:Nat}(hr:jh k A):A.units+1<cLine:=Nat.lt_of_le_of_lt (Nat.add_le_add_left (by decide:1<=64) _) hr.units
section
variable{X:Cx}
def pv(i:Nat){x:Str}{pos:Pos}(hN:X.N[i]?=some x:=by rfl)(hv:Vis X.env.scope x:=by first|exact Or.inl rfl|exact Or.inr (Or.inl rfl)|exact Or.inr (Or.inr rfl))(hd:(x == ("__debug__":Str))=false:=by decide)
  (hcd:(x == ("__classdict__":Str))=false:=by decide):PE X (.Name x pos) (ve3 i):=vaz hN hv hd hcd
end
def ĳ{A B:Prop}(h:B):if false=true then A else B:=by rw[if_neg bM];exact h
def Ń{A B:Prop}(h:A):if true=true then A else B:=by rw[if_pos rfl];exact h
def yv(H H':Hp):Prop:=∀b o,H b=some o->H' b=some o
def yv.refl(H:Hp):yv H H:=λZ Z h=>h
def yv.trans{H H1 H2:Hp}(a:yv H H1)(b:yv H1 H2):yv H H2:=λc o h=>b c o (a c o h)
def yv.free{H H':Hp}(e:yv H H'){l:x0}(h:H' l=Option.none):H l=Option.none:=by
 cases q:H l with
 |none=>rfl
 |some o =>
  rw[e l o q]at h;cases h
def yv.seq{K:xr}{H H':Hp}{xs:Υ}(e:yv H H')(h:SqL K H a xs):SqL K H' a xs:=by
 rcases h with(h|⟨o,h⟩)|h
 .exact .inl (.inl (e _ _ h))
 .exact .inl (.inr ⟨o,e _ _ h⟩)
 .exact .inr h
section
variable{X:Cx}
def wv:zh X (.builtin "isinstance") (λxs H Q=>∃x cv t c k,xs=[x,cv]/\xk cv c/\(∀u,xk cv u->u=c)/\ue X.K H x t/\W.kitOne X.K t c=some k/\Q (.bl k) H):=by intro a s σ H xs l Q I r h;let⟨x,cv,t,c,k,rfl,_,j,i,e,q⟩:=h;let⟨u,f,rfl,g,d⟩:=ytx r;obtain rfl:=j f d;exact yhg I g i e λb=>⟨.bl k,H,I.tok b,rfl,q⟩
def jx{x:Str}{pos:Pos}(hg:Gl X x)(hm:X.mg x=none)(hv:bootBuiltins x=some (.type T))(hn:x≠"__name__":=by decide)(hd:(x == ("__debug__":Str))=false:=by decide):PE X (.Name x pos) (tC (.ty T)):=ysa hg hm hv rfl hn hd
def vk{x:Str}{i:Int}{t:Tok}{pos:Pos}(hg:Gl X x)(hm:X.mg x=some (.int i t))(hd:(x == ("__debug__":Str))=false:=by decide):PE X (.Name x pos) (tC (.int i)):=yde hg hm ⟨t,rfl⟩ hd
def ydb{x:Str}{pos:Pos}(hg:Gl X x)(hm:X.mg x=some (.ref C))(hd:(x == ("__debug__":Str))=false:=by decide):PE X (.Name x pos) (tC (.ref C)):=yde hg hm rfl hd
mutual
inductive RdV(K:xr)(H:Hp):V->PyData->Prop
 |non:RdV K H .non .none
 |bl (b:_):RdV K H (.bl b) (.bool b)
 |int (i:_):RdV K H (.int i) (.int i)
 |str (x:_):RdV K H (.str x) (.str x)
 |lst {a xs ds:_}:SqL K H a xs->yqn K H xs ds->RdV K H (.ref a) (.list ds)
 |tup {a xs ds:_}:SqT K H a xs->yqn K H xs ds->RdV K H (.ref a) (.tuple ds)
inductive yqn(K:xr)(H:Hp):qi V->qi PyData->Prop
 |nil:yqn K H [] []
 |cons {x xs d ds:_}:RdV K H x d->yqn K H xs ds->yqn K H (x::xs) (d::ds)
end
def RdV.reads{pins:Θ}{σ:St}{H:Hp}{s:qa}(I:Inv X pins σ H s){x:V}{d:PyData}{u:qb}(h:RdV X.K H x d):xk x u->∃as,Reads s.heap u d as:=by
 refine RdV.rec (motive_1:=λx d Z=>∀u,xk x u->∃as,Reads s.heap u d as) (motive_2:=λf e Z=>∀g,wu f g->∃as,ReadsAll s.heap g e as) ?_ ?_ ?_ ?_ ?_ ?_ ?_ ?_ h u
 .intro u r;cases r;exists _,.none
 .intro b u r;cases r;exists _,.bool _
 .intro i u r;let⟨t,rfl⟩:=r;exists _,.int _ _
 .intro i u r;let⟨t,rfl⟩:=r;exists _,.str _ _
 .intro a f e k w m u r;cases r;let⟨j,l,⟨o,n,p,q,C,v⟩,A⟩:=I.list k;let⟨as,c⟩:=m _ l;exists _,.list p q v (by simpa using c)
 .intro a f e k w m u r;cases r;let⟨j,l,⟨o,p,q,n,v⟩,A⟩:=I.tuple k;let⟨as,c⟩:=m _ l;exists _,.tuple p q v (by simpa using c)
 .intro g r;cases r;exists _,.nil
 .intro x f d e h w y B g r
  cases r with
  |cons r rs =>
   let⟨as,c⟩:=y _ r;let⟨D,z⟩:=B _ rs;exists _,.cons c z
def ywm(K:xr)(g:Bool->Bool):R2:=λx y H Q=>∃d e,RdV K H x d/\RdV K H y e/\SeqAt.shaped d=true/\SeqAt.shaped e=true/\Q (.bl (g (PyData.eqv d e))) H
def ŗ(hu:X.A.units+64<cLine):OpR X (compareOp .Eq) (ywm X.K λb=>b):=by intro a s σ H x y v u Q I g j h;let⟨d,e,l,k,f,m,q⟩:=h;let⟨n,i⟩:=l.reads I g;let⟨o,c⟩:=k.reads I j;exact eq_dataH i c f m hu ⟨.bl _,H,I,rfl,q⟩
def Ô(hu:X.A.units+64<cLine):OpR X (compareOp .NotEq) (ywm X.K λb=>!b):=by intro a s σ H x y v u Q I g j h;let⟨d,e,l,k,f,m,q⟩:=h;let⟨n,i⟩:=l.reads I g;let⟨o,c⟩:=k.reads I j;exact ne_dataH i c f m hu ⟨.bl _,H,I,rfl,q⟩
theorem Ë{K:xr}{H:Hp}:∀ns:Ρ,yqn K H (ns.map V.int) (ns.map PyData.int)
 |[]=>.nil
 |n::r=>.cons (.int n) (Ë r)
theorem π:∀ns:Ρ,PyData.canLayAll0 (ns.map PyData.int)=true
 |[]=>rfl
 |_::r=>by simp[PyData.canLayAll0,PyData.canLay0,π r]
theorem Ü:∀ns:Ρ,PyData.depthAll (ns.map PyData.int)=0
 |[]=>rfl
 |_::r=>by simp[PyData.depthAll,PyData.depth,Ü r]
def ŏ(ns:Ρ):SeqAt.shaped (.list (ns.map PyData.int))=true:=by simp[SeqAt.shaped,PyData.canLay0,PyData.depth,π,Ü]
theorem z8:∀ns ms:Ρ,PyData.eqvAll (ns.map PyData.int) (ms.map PyData.int)=decide (ns=ms)
 |[],[]=>by simp[PyData.eqvAll]
 |[],_::_=>by simp[PyData.eqvAll]
 |_::_,[]=>by simp[PyData.eqvAll]
 |a::r,b::t=>by
  simp only[bU,PyData.eqvAll,PyData.eqv,z8 r t];by_cases h:a=b<;>by_cases h':r=t<;>simp[h,h']
def yak{K:xr}{g:Bool->Bool}{H:Hp}{Q:VK}{b:x0}(ns ms:Ρ)(ha:SqL K H a (ns.map V.int))(hb:SqL K H b (ms.map V.int))(h:Q (.bl (g (decide (ns=ms)))) H):ywm K g (.ref a) (.ref b) H Q :=
 ⟨_,_,.lst ha (Ë ns),.lst hb (Ë ms),ŏ ns,ŏ ms,by rw[PyData.eqv,z8];exact h⟩
def vdd(_ j:Int):Prop:=0<j/\j<2^200
def vd:OpR X (binaryOp .FloorDiv) (rI vdd λi j=>.int (i/j)):=opI λi j Z Z Z Z Z a q=>by
 let⟨c,d⟩:=a;refine floordiv_int (by omega) ?_ (.inl (PyProof.noPylong_of_log2 ?_))
 .rw[Int.fdiv_eq_ediv_of_nonneg _ (by omega)];exact q
 .have e:j.natAbs<2^200:=by omega
  have b:j.natAbs≠0:=by omega
  have:=(Nat.log2_lt b).mpr e;omega
def vfu(t:TS):TS:=λD σ H=>∃M:Ζ,t {D with nx:=M} σ H/\∀σ' H',M σ' H'->D.nx σ' H'
def jw{st:qc}{t:TS}(h:PS X st t):PS X st (vfu t):=by
 refine .mk λa s σ H D I ⟨M,d,e⟩=>?_;refine thn (h a s σ H {D with nx:=M} I d) λf g q=>?_
 cases f with
 |next =>
  let⟨σ',b,c,q⟩:=q;exists σ',b,c,e σ' b q
 |ret v=>exact q
 |brk=>exact q
 |cont=>exact q
end
def wn(nx:Ζ)(σ:St)(H:Hp):Prop:=nx σ H
section
variable{K:xr}{σ:St}{H:Hp}{Q:VK}{QB:Bool->Hp->Prop}{QL:qi V->Hp->Prop}{v x y:V}{i j:Int}{b:Bool}{ta tb tc te:TE}{t u:TS}{tA tB':TT}{tr:TA}{D:Ă}
 {nx bk ct:Ζ} {rt:VK} {A B:Prop}
def yj{N:Τ}{vs:Υ}{σ':St}(e:é N vs=σ')(h:t D σ' H):t D (é N vs) H:=by rw[e];exact h
def yvg{k:Nat}(e:σ[k]?=some (some v))(h:Q v H):ve3 k σ H Q:=⟨v,e,h⟩
def i_c(h:Q v H):tC v σ H Q:=h
def vgf{r:R2}(h:ta σ H λx H1=>tb σ H1 λy H2=>r x y H2 Q):tOp r ta tb σ H Q:=h
def vf2{r:V->Hp->VK->Prop}(h:ta σ H λx H1=>r x H1 Q):tUn r ta σ H Q:=h
def vf9{g:Int->Int->V}(h:Q (g i j) H):rI0 g (.int i) (.int j) H Q:=⟨i,j,rfl,rfl,h⟩
def i_I{C:Int->Int->Prop}{g:Int->Int->V}(hc:C i j)(h:Q (g i j) H):rI C g (.int i) (.int j) H Q:=⟨i,j,rfl,rfl,hc,h⟩
def i_U{g:Int->V}(h:Q (g i) H):rU g (.int i) H Q:=⟨i,rfl,h⟩
def vd3(h:Q (.bl (decide (i=j))) H):rEq (.int i) (.int j) H Q:=⟨rfl,by
 have e:decide (V.int i=V.int j)=decide (i=j):=by simp
 rw[e];exact h⟩
def yyw(h:ta σ H λx H'=>∃k,x=.bl k/\QB k H'):yu7 ta σ H QB:=h
def vf3(h:ta σ H λx H'=>∃k,x=.bl k/\QB k H'):tB ta σ H QB:=h
def vgl{P:Bool->Prop}(h:P b):∃k,V.bl b=V.bl k/\P k:=⟨b,rfl,h⟩
def yqq{r r':R2}(h:ta σ H λx H1=>tb σ H1 λy H2=>r x y H2 λz H3=>∃k,z=.bl k/\(if k=true then tc σ H3 λw' H4=>r' y w' H4 Q else Q (.bl false) H3)):yj3 r r' ta tb tc σ H Q:=h
def yx5(h:ta σ H λx H1=>∃c,x=.bl c/\if c=true then tb σ H1 Q else Q (.bl false) H1):vb8 ta tb σ H Q:=h
def yzf(h:ta σ H λx H1=>∃c,x=.bl c/\Q (.bl (!c)) H1):vbr ta σ H Q:=h
def vei{t1 t2:TT}(h:t1 σ H λc H1=>if c=true then t2 σ H1 QB else QB false H1):vfx t1 t2 σ H QB:=h
def vgr{t1 t2:TT}(h:t1 σ H λc H1=>if c=true then QB true H1 else t2 σ H1 QB):tOr t1 t2 σ H QB:=h
def vdx{t1:TT}(h:t1 σ H λc H1=>QB (!c) H1):vfz t1 σ H QB:=h
def vd4(h:tA σ H λc H1=>if c=true then ta σ H1 Q else tb σ H1 Q):tIf tA ta tb σ H Q:=h
structure Nx(u nx:Ζ):Prop where
 go:∀σ H,u σ H->nx σ H
def yk2(h:∀nx bk ct:Ζ,Nx (u D) nx->Nx D.bk bk->Nx D.ct ct->t ⟨nx,D.rt,bk,ct⟩ σ H):vez t u D σ H:=h (u D) D.bk D.ct ⟨λZ Z z=>z⟩ ⟨λZ Z z=>z⟩ ⟨λZ Z z=>z⟩
def vcx{u nx:Ζ}(h:Nx u nx)(q:u σ H):nx σ H:=h.go _ _ q
def yov(h:nx σ H):vbs ⟨nx,rt,bk,ct⟩ σ H:=h
def vd0(h:te σ H rt):vfp te ⟨nx,rt,bk,ct⟩ σ H:=h
def yxs(h:te σ H λZ H1=>nx σ H1):vb2 te ⟨nx,rt,bk,ct⟩ σ H:=h
def vgd(h:tA σ H λc H1=>if c=true then t D σ H1 else u D σ H1):vct tA t u D σ H:=h
def yk8(M:Ζ)(h1:t ⟨M,rt,bk,ct⟩ σ H)(h2:∀σ' H',M σ' H'->nx σ' H'):vfu t ⟨nx,rt,bk,ct⟩ σ H:=⟨M,h1,h2⟩
def vd7{g:TG}(h:te σ H λx H1=>g x σ H1 nx):ywp te g ⟨nx,rt,bk,ct⟩ σ H:=h
def vbk{sp:Sp}{dvs:Υ}{E:XK}(h:tr σ H λvs H1=>sp (vs++dvs) H1 Q E):yuu sp dvs E tr σ H Q:=h
def ywv(h:ta σ H λx H1=>tr σ H1 λxs H2=>QL (x::xs) H2):ynq ta tr σ H QL:=h
def ved(h:QL [] H):ylf σ H QL:=h
def vgc{r:qi V->Hp->VK->Prop}(h:tr σ H λvs H1=>r vs H1 Q):tCB r tr σ H Q:=h
def vdo(h:tr σ H λxs H1=>xs.length<=sizeLine/\∀p,H1 p=none->Q (.ref p) (upd H1 p (.tup xs))):vft tr σ H Q:=h
def vdh(h:tr σ H λxs H1=>xs.length<=sizeLine/\∀p,H1 p=none->Q (.ref p) (upd H1 p (.lst xs))):vfy tr σ H Q:=h
def Ī{m:Str}{sp:Sp}{dvs:Υ}{E:XK}(h:ta σ H λx H1=>∃a dx fs,x=.ref a/\H1 a=some (.ins C dx fs)/\fs.lookup m=none/\tr σ H1 λvs H2=>sp (x::(vs++dvs)) H2 Q E):Ł C m sp dvs E ta tr σ H Q:=h
def veg{f:Str}(h:ta σ H λx H1=>∃a C dx fs v,x=.ref a/\H1 a=some (.ins C dx fs)/\Cls K C/\vj K C f/\fs.lookup f=some v/\Q v H1):ver K ta f σ H Q:=h
def yx7{f:Str}(h:tb σ H λy H1=>ta σ H1 λx H2=>∃a C dx fs,x=.ref a/\H2 a=some (.ins C dx fs)/\Cls K C/\vj K C f/\fs.length<1000/\wn nx σ (upd H2 a (.ins C dx (j9 f y fs)))):vfk K ta tb f ⟨nx,rt,bk,ct⟩ σ H:=h
def vf4{r:V->qj Int->qj Int->Hp->VK->Prop}{tl th:TO}(h:te σ H λx H1=>tl σ H1 λl H2=>th σ H2 λu H3=>r x l u H3 Q):tSl r te tl th σ H Q:=h
def ym8{QO:qj Int->Hp->Prop}(h:QO none H):yjn σ H QO:=h
def vbc{QO:qj Int->Hp->Prop}(h:ta σ H λx H1=>∃i,x=.int i/\QO (some i) H1):vbw ta σ H QO:=h
def vdq{P:Int->Prop}(h:P i):∃k,V.int i=V.int k/\P k:=⟨i,rfl,h⟩
def yw5(h:A):V.non=V.non/\A:=⟨rfl,h⟩
def g0{a0:Ψ}{r:St}{N:Ζ}(h:N (some v::r) H):w9 0 v (a0::r) H N:=h
def g1{a0 a1:Ψ}{r:St}{N:Ζ}(h:N (a0::some v::r) H):w9 1 v (a0::a1::r) H N:=h
def g2{a0 a1 a2:Ψ}{r:St}{N:Ζ}(h:N (a0::a1::some v::r) H):w9 2 v (a0::a1::a2::r) H N:=h
def g3{a0 a1 a2 a3:Ψ}{r:St}{N:Ζ}(h:N (a0::a1::a2::some v::r) H):w9 3 v (a0::a1::a2::a3::r) H N:=h
def g4{a0 a1 a2 a3 a4:Ψ}{r:St}{N:Ζ}(h:N (a0::a1::a2::a3::some v::r) H):w9 4 v (a0::a1::a2::a3::a4::r) H N:=h
def g5{a0 a1 a2 a3 a4 a5:Ψ}{r:St}{N:Ζ}(h:N (a0::a1::a2::a3::a4::some v::r) H):w9 5 v (a0::a1::a2::a3::a4::a5::r) H N:=h
def g6{a0 a1 a2 a3 a4 a5 a6:Ψ}{r:St}{N:Ζ}(h:N (a0::a1::a2::a3::a4::a5::some v::r) H):w9 6 v (a0::a1::a2::a3::a4::a5::a6::r) H N:=h
def g7{a0 a1 a2 a3 a4 a5 a6 a7:Ψ}{r:St}{N:Ζ}(h:N (a0::a1::a2::a3::a4::a5::a6::some v::r) H):w9 7 v (a0::a1::a2::a3::a4::a5::a6::a7::r) H N:=h
def g8{a0 a1 a2 a3 a4 a5 a6 a7 a8:Ψ}{r:St}{N:Ζ}(h:N (a0::a1::a2::a3::a4::a5::a6::a7::some v::r) H):w9 8 v (a0::a1::a2::a3::a4::a5::a6::a7::a8::r) H N:=h
def g9{a0 a1 a2 a3 a4 a5 a6 a7 a8 a9:Ψ}{r:St}{N:Ζ}(h:N (a0::a1::a2::a3::a4::a5::a6::a7::a8::some v::r) H):w9 9 v (a0::a1::a2::a3::a4::a5::a6::a7::a8::a9::r) H N:=h
def g10{a0 a1 a2 a3 a4 a5 a6 a7 a8 a9 a10:Ψ}{r:St}{N:Ζ}(h:N (a0::a1::a2::a3::a4::a5::a6::a7::a8::a9::some v::r) H):w9 10 v (a0::a1::a2::a3::a4::a5::a6::a7::a8::a9::a10::r) H N:=h
def g11{a0 a1 a2 a3 a4 a5 a6 a7 a8 a9 a10 a11:Ψ}{r:St}{N:Ζ}(h:N (a0::a1::a2::a3::a4::a5::a6::a7::a8::a9::a10::some v::r) H):w9 11 v (a0::a1::a2::a3::a4::a5::a6::a7::a8::a9::a10::a11::r) H N:=h
def Į{n:Nat}{tg:TGs}{xs:Υ}{N:Ζ}(hq:SqT K H a xs)(hl:xs.length=n)(h:tg xs σ H N):ywh K n tg (.ref a) σ H N:=⟨a,xs,rfl,hq,hl,h⟩
def yry{tg:TG}{us:TGs}{r:Υ}{N:Ζ}(h:tg v σ H λσ' H'=>us r σ' H' N):zi tg us (v::r) σ H N:=⟨v,r,rfl,h⟩
def yzj{N:Ζ}(h:N σ H):yla [] σ H N:=⟨rfl,h⟩
def ur{p:Prop}[Decidable p](h1:p->A)(h2:¬p->B):if decide p=true then A else B:=by
 by_cases h:p
 .rw[if_pos (bv h)];exact h1 h
 .rw[if_neg (by simp[h])];exact h2 h
def yam{p:Prop}[Decidable p](hp:p)(h:A):if decide p=true then A else B:=by rw[if_pos (bv hp)];exact h
def ydj{p:Prop}[Decidable p](hp:¬p)(h:B):if decide p=true then A else B:=by rw[if_neg (by simp[hp])];exact h
def yu6{p:Prop}[Decidable p](hp:p)(h:B):if (!decide p)=true then A else B:=by rw[if_neg (by simp[hp])];exact h
def yvw{p:Prop}[Decidable p](hp:¬p)(h:A):if (!decide p)=true then A else B:=by rw[if_pos (by simp[hp])];exact h
def yql{p:Prop}[Decidable p](h1:p->B)(h2:¬p->A):if (!decide p)=true then A else B:=by
 by_cases h:p
 .exact yu6 h (h1 h)
 .exact yvw h (h2 h)
def veb(h:B):if (!true)=true then A else B:=ĳ h
def vdt(h:A):if (!false)=true then A else B:=Ń h
def vdp{α:Type}{z:α}[Decidable (z=z)](h:A):if decide (z=z)=true then A else B:=yam rfl h
def x4{f:Str}{r:Ι}:List.lookup f ((f,v)::r)=some v:=by simp[List.lookup]
def wg{f g:Str}{r:Ι}{o:Ψ}(h:¬f=g)(e:List.lookup f r=o):List.lookup f ((g,v)::r)=o:=by
 have a:(f == g)=false:=by simp[h]
 simp[List.lookup,a,e]
def ζ{f:Str}:List.lookup f ([]:Ι)=none:=rfl
def jk{f:Str}{r:Ι}:j9 f v ((f,x)::r)=(f,v)::r:=by simp[j9]
def vw{f g:Str}{r r':Ι}(h:¬g=f)(e:j9 f v r=r'):j9 f v ((g,x)::r)=(g,x)::r':=by simp[j9,h,e]
def wx{f:Str}:j9 f v []=[(f,v)]:=rfl
def za{c:x0}{o o':HO}(hn:H a=none)(h:H c=some o):upd H a o' c=some o:=by rw[yk (yb h hn)];exact h
def yf{c:x0}{o o':HO}(hn:c≠a)(h:H c=some o):upd H a o' c=some o:=by rw[yk hn];exact h
def y7{o:HO}(hn:H a=none):yv H (upd H a o):=λZ Z h=>za hn h
def yv.tup{H':Hp}{xs:Υ}(e:yv H H')(h:SqT K H a xs):SqT K H' a xs:=by
 rcases h with(h|⟨o,h⟩)|h
 .exact .inl (.inl (e _ _ h))
 .exact .inl (.inr ⟨o,e _ _ h⟩)
 .exact .inr h
def ybx{tb:TS}{W:Nat->St->Hp->Prop}{m:Nat}(h:tb ⟨λσ' H'=>∃m',m'<m/\W m' σ' H',rt,nx,λσ' H'=>∃m',m'<m/\W m' σ' H'⟩ σ H):
  ∃N:Ζ,(∀σ' H',N σ' H'->∃m',m'<m/\W m' σ' H')/\tb ⟨N,rt,nx,N⟩ σ H:=⟨_,λZ Z q=>q,h⟩
def yyh{sp:Sp}{dvs:Υ}{E:XK}(h:tr σ H λvs H1=>∀x dx,H1 x=none->H1 dx=none->dx≠x->sp (.ref x::(vs++dvs)) (upd (upd H1 dx (.own x)) x (.ins C dx [])) (λv H2=>v=.non/\Q (.ref x) H2) E):yuc C sp dvs E tr σ H Q:=h
def vgg{r:V->qi V->Hp->VK->Prop}(h:ta σ H λx H1=>tyV K T x H1/\tr σ H1 λxs H2=>r x xs H2 Q):tBM K T r ta tr σ H Q:=h
def vdv{r:V->qi V->Hp->VK->Prop}(h:ta σ H λx H1=>tyV K T x H1/\r x [] H1 Q):vfj K T r ta σ H Q:=h
def Â{xs:Υ}(h:H p=some (.lst xs))(k:A):tyV K "list" (.ref p) H/\A:=⟨.inl ⟨rfl,_,SqL.of h⟩,k⟩
def x9{l:x0}{xs:Υ}(h:H l=some (.lst xs))(hz:xs.length<sizeLine)(k:Q .non (upd H l (.lst (xs++[y])))):yiz (.ref l) [y] H Q:=⟨l,xs,y,rfl,rfl,h,hz,k⟩
def ya7{l:x0}{xs:Υ}(h:H l=some (.lst xs))(k:Q .non (upd H l (.lst xs.reverse))):yds (.ref l) [] H Q:=⟨l,xs,rfl,rfl,h,k⟩
def x5{ys:Υ}{P:qi V->Prop}(h:SqL K H p ys)(k:P ys):∃p' ys',[V.ref p]=[V.ref p']/\(SqL K H p' ys'\/SqT K H p' ys')/\P ys':=⟨p,ys,rfl,.inl h,k⟩
def yp9{ys:Υ}{P:qi V->Prop}(h:SqT K H p ys)(k:P ys):∃p' ys',[V.ref p]=[V.ref p']/\(SqL K H p' ys'\/SqT K H p' ys')/\P ys':=⟨p,ys,rfl,.inr h,k⟩
def ý{ys:Υ}{P:qi V->Prop}(h:SqL K H p ys)(k:P ys):∃p' ys',[V.ref p]=[V.ref p']/\(SqL K H p' ys'\/SqT K H p' ys')/\P ys':=⟨p,ys,rfl,.inl h,k⟩
def jy{xs:Υ}(h:SqL K H p xs)(e:atI xs i=some v)(k:Q v H):vcv K (.ref p) (.int i) H Q:=⟨p,xs,i,v,rfl,rfl,h,e,k⟩
def zt{xs:Υ}(h:SqT K H p xs)(e:atI xs i=some v)(k:Q v H):ywn K (.ref p) (.int i) H Q:=⟨p,xs,i,v,rfl,rfl,h,e,k⟩
def yb4{xs:Υ}{lo hi:qj Int}(h:SqL K H p xs)(k:∀q,H q=none->Q (.ref q) (upd H q (.lst (ydm xs lo hi)))):vfw K (.ref p) lo hi H Q:=⟨p,xs,rfl,h,k⟩
def jc{xs:Υ}(n:Nat):ydm xs none (some (n:Int))=xs.take n:=by
 unfold ydm;rw[HT.sIx_none,HT.sIx_nat,List.drop_zero,Nat.sub_zero];rcases Nat.le_total n xs.length with h|h
 .rw[Nat.min_eq_left h]
 .rw[Nat.min_eq_right h,cn (bn _),cn h]
def vel{wi:TI}{g:TG}{tb:TS}(h:wi σ H λJ H1=>∃W:Nat->Nat->St->Hp->Prop,(∃m,W 0 m σ H1)/\∀i m σ H,W i m σ H ->
  (J.stop i H/\D.nx σ H)\/(J.go i H/\∃N:Ζ,(∀σ' H',N σ' H'->∃m',m'<m/\W (i+1) m' σ' H')/\∀x H',J.yld i H x H'->g x σ H' λσ2 H2=>tb {D with nx:=N,ct:=N,bk:=D.nx} σ2 H2)):vfo wi g tb D σ H:=h
def yqv{R:It->Hp->Prop}(h:ta σ H λx H1=>∃a,x=.ref a/\(∃xs,SqL K H1 a xs)/\R (Itl K a) H1):vch K ta σ H R:=h
def yxd{R:It->Hp->Prop}(h:ta σ H λx H1=>∃a,x=.ref a/\(∃xs,SqT K H1 a xs)/\R (Itt K a) H1):vfr K ta σ H R:=h
def yrl{R:It->Hp->Prop}(h:tr σ H λvs H1=>∃j:Int,vs=[.int j]/\-(2^62)<=j/\j<2^62/\R (Itr 0 j.toNat) H1):vbv tr σ H R:=h
def ó{n m:String}{k:Bool}{P:Bool->Prop}(ty:ue K H x (.type n))(e:W.kitOne K (.type n) (.type m)=some k)(h:P k):
  ∃x' cv t c k',[x,V.ty m]=[x',cv]/\xk cv c/\(∀u,xk cv u->u=c)/\ue K H x' t/\W.kitOne K t c=some k'/\P k':=⟨x,.ty m,.type n,.type m,k,rfl,rfl,λZ r=>r,ty,e,h⟩
def yrk(h:nx σ H):wn nx σ H:=h
end
def ypc:V->Bool
 | .int _=>true
 | .bl _=>true
 |_=>false
def yjl:V->Bool
 | .bl _=>true
 |_=>false
def ε:V->Bool
 | .int _=>true
 |_=>false
def ym6(K:xr)(n:String):W.kitOne K (.type n) (.type n)=some true:=by unfold W.kitOne;rw[if_pos (by simp)]
def yr0{K:xr}{H:Hp}{x:V}{n:String}(ty:ue K H x (.type n)):W.kitOne K (.type n) (.type "int")=some (ypc x):=by cases ty<;>rfl
def ymi{K:xr}{H:Hp}{x:V}{n:String}(ty:ue K H x (.type n)):W.kitOne K (.type n) (.type "bool")=some (yjl x):=by cases ty<;>rfl
end L2
namespace SpanMath
def Ch(c:Int):Prop:=32768<=c/\c<=16744448
def ren(l w s:Int):Int×Int×Int :=
 if w<4294967296 then (if w*256<4294967296 then (l*65536,w*65536,s+2)else (l*256,w*256,s+1))else (l,w,s)
def cut(w c:Int):Int:=w*c/16777216
def nar(x:Int×Int×Int)(c b:Int):Int×Int×Int :=
 if b=1 then ren x.1 (cut x.2.1 c) x.2.2 else ren (x.1+cut x.2.1 c) (x.2.1-cut x.2.1 c) x.2.2
def s0:Int×Int×Int:=(0,1099511627776,5)
def yl3{l w s:Int}(h:w<4294967296)(h2:8388608<=w):ren (l*256) (w*256) (s+1)=ren l w s:=by
 unfold ren;rw[if_pos h];by_cases h3:w*256<4294967296
 .rw[if_pos h3,if_pos h3,if_neg (by omega)];refine Prod.ext ?_ (Prod.ext ?_ ?_)
  .show l*256*256=l*65536;omega
  .show w*256*256=w*65536;omega
  .show s+1+1=s+2;omega
 .rw[if_neg h3,if_neg h3]
def yqy{l w s:Int}(h:¬w<4294967296):ren l w s=(l,w,s):=by unfold ren;rw[if_neg h]
def ś{w c:Int}(hw:4294967296<=w)(hw2:w<=1099511627776)(hc:Ch c):8388608<=cut w c/\8388608<=w-cut w c/\cut w c<1099511627776:=by let⟨b,d⟩:=hc;have a:w*32768<=w*c:=bY b (by omega);have e:w*c<=w*16744448:=bY d (by omega);unfold cut;generalize w*c=p at a e⊢;omega
structure Ok(x:Int×Int×Int):Prop where
 l0:0<=x.1
 w0:4294967296<=x.2.1
 w1:x.2.1<=1099511627776
 z:5<=x.2.2
def ok0:Ok s0:=⟨by decide,by decide,by decide,by decide⟩
def yqe{l w s:Int}(h0:0<=l)(h1:8388608<=w)(h2:w<=1099511627776)(h3:5<=s):Ok (ren l w s):=by
 unfold ren
 split
 .split
  .exists by show 0<=l*65536;omega,by show _<=w*65536;omega,by show w*65536<=_;omega,by show 5<=s+2;omega
  .exists by show 0<=l*256;omega,by show _<=w*256;omega,by show w*256<=_;omega,by show 5<=s+1;omega
 .exists h0,by show _<=w;omega,h2,h3
def yz2{x:Int×Int×Int}{c b:Int}(h:Ok x)(hc:Ch c):Ok (nar x c b):=by
 let⟨a,d,e⟩:=ś h.w0 h.w1 hc;have:=h.l0;have:=h.w0;have:=h.w1;have:=h.z;unfold nar
 split
 .exact yqe (by omega) (by omega) (by omega) (by omega)
 .exact yqe (by omega) (by omega) (by omega) (by omega)
end SpanMath
namespace SpanMath
def pw:Nat->Int
 |0=>1
 |k+1=>pw k*256
theorem ug:∀k,0<pw k
 |0=>by decide
 |k+1=>by have:=ug k;show 0<pw k*256;omega
theorem ř(a:Nat):∀b,pw (a+b)=pw a*pw b
 |0=>by simp[pw]
 |b+1=>by
  show pw (a+b)*256=pw a*(pw b*256);rw[ř a b,Int.mul_assoc]
def yjh{a b:Nat}(h:a<=b):pw a<=pw b:=by
 let⟨c,rfl⟩:=Nat.exists_eq_add_of_le h;rw[ř];have d:=ug a;have e:=ug c
 calc pw a=pw a*1:=by omega
  _<=pw a*pw c:=bY (by omega) (by omega)
def vbx{a b:Nat}(h:pw a<pw b):a<b:=by apply Nat.lt_of_not_le;intro q;have:=yjh q;omega
def lo:Nat->Int->qi Int
 |0,_=>[]
 |k+1,n=>n%256::lo k (n/256)
def wr(k:Nat)(n:Int):Ρ:=(lo k n).reverse
theorem yox:∀k n,(lo k n).length=k
 |0,_=>rfl
 |k+1,n=>by simp[lo,yox k]
def vaf(k:Nat)(n:Int):(wr k n).length=k:=by simp[wr,yox]
theorem yi2:∀k n,∀x∈lo k n,0<=x/\x<=255
 |0,_,x,h=>by simp[lo]at h
 |k+1,n,x,h=>by
  simp only[lo,bC]at h;rcases h with rfl|h
  .omega
  .exact yi2 k _ x h
def yso(k:Nat)(n:Int):∀x∈wr k n,0<=x/\x<=255:=λx h=>yi2 k n x (by simpa[wr]using h)
def yr2(k:Nat)(n:Int):wr (k+1) n=wr k (n/256)++[n%256]:=by simp[wr,lo]
def val(xs:Ρ):Int:=xs.foldl (λa b=>a*256+b) 0
def yeg(xs:Ρ)(b:Int):val (xs++[b])=val xs*256+b:=by simp[val,List.foldl_append]
theorem yog:∀(k:Nat)(n:Int),0<=n->n<pw k->val (wr k n)=n
 |0,n,h0,h1=>by
  have:n<1:=h1;have:n=0:=by omega
  subst this;rfl
 |k+1,n,h0,h1=>by
  have a:n<pw k*256:=h1;rw[yr2,yeg,yog k (n/256) (by omega) (by omega)];omega
def vf8:Nat->Int->Int->Nat
 |0,_,_=>0
 |n+1,a,b=>if a=b then 0 else vf8 n (a/256) (b/256)+1
end SpanMath
namespace SpanMath
abbrev Sn:=Int×Int×Int
def sz(x:Sn):Nat:=x.2.2.toNat
structure OkS(x:Sn):Prop where
 ok:Ok x
 top:x.1+x.2.1<=pw (sz x)
theorem OkS.sz{x:Sn}(h:OkS x):((sz x:Nat):Int)=x.2.2:=by have:=h.ok.z;unfold SpanMath.sz;omega
def OkS.sz5{x:Sn}(h:OkS x):5<=SpanMath.sz x:=by have:=h.ok.z;unfold SpanMath.sz;omega
def veq:OkS s0:=⟨ok0,by decide⟩
structure Sub(x y:Sn)(r:Nat):Prop where
 z:sz y=sz x+r
 l:x.1*pw r<=y.1
 h:y.1+y.2.1<=(x.1+x.2.1)*pw r
def ydc{l w s:Int}(hs:0<=s):∃r,Sub (l,w,s) (ren l w s) r/\(ren l w s).2.1=w*pw r/\(ren l w s).1=l*pw r:=by
 unfold ren
 split
 .split
  .refine⟨2,⟨?_,?_,?_⟩,?_,?_⟩
   .show (s+2).toNat=s.toNat+2;omega
   .show l*(1*256*256)<=l*65536;omega
   .show l*65536+w*65536<=(l+w)*(1*256*256);omega
   .show w*65536=w*(1*256*256);omega
   .show l*65536=l*(1*256*256);omega
  .refine⟨1,⟨?_,?_,?_⟩,?_,?_⟩
   .show (s+1).toNat=s.toNat+1;omega
   .show l*(1*256)<=l*256;omega
   .show l*256+w*256<=(l+w)*(1*256);omega
   .show w*256=w*(1*256);omega
   .show l*256=l*(1*256);omega
 .refine⟨0,⟨?_,?_,?_⟩,?_,?_⟩
  .rfl
  .show l*1<=l;omega
  .show l+w<=(l+w)*1;omega
  .show w=w*1;omega
  .show l=l*1;omega
def yrt{x:Sn}{c b:Int}(h:Ok x)(hc:Ch c):∃r,Sub x (nar x c b) r:=by
 let⟨k,g,f⟩:=ś h.w0 h.w1 hc;have j:=h.l0;have i:=h.z;unfold nar
 split
 .obtain⟨r,⟨a,d,e⟩,_⟩:=ydc (l:=x.1) (w:=cut x.2.1 c) (s:=x.2.2) (by omega);exists r,a,d,Int.le_trans e (cc ?_ (Int.le_of_lt (ug r)));show x.1+cut x.2.1 c<=x.1+x.2.1;omega
 .obtain⟨r,⟨a,d,e⟩,_⟩:=ydc (l:=x.1+cut x.2.1 c) (w:=x.2.1-cut x.2.1 c) (s:=x.2.2) (by omega);exists r,a,Int.le_trans (cc ?_ (Int.le_of_lt (ug r))) d,Int.le_trans e (cc ?_ (Int.le_of_lt (ug r)))
  .show x.1<=x.1+cut x.2.1 c;omega
  .show x.1+cut x.2.1 c+(x.2.1-cut x.2.1 c)<=x.1+x.2.1;omega
def yda{x:Sn}{c b:Int}(h:OkS x)(hc:Ch c):OkS (nar x c b):=by exists yz2 h.ok hc,?_;let⟨r,q⟩:=yrt (b:=b) h.ok hc;rw[q.z,ř];exact Int.le_trans q.h (cc h.top (Int.le_of_lt (ug r)))
def blk(l e:Int):Int:=(l+e-1)/e
def Ŝ(l w:Int)(k:Nat):Prop:=(blk l (pw k)+1)*pw k<=l+w
instance (l w:Int)(k:Nat):Decidable (Ŝ l w k):=inferInstanceAs (Decidable ((blk l (pw k)+1)*pw k<=l+w))
def ykw(l:Int){e:Int}(h:0<e):l<=blk l e*e/\blk l e*e<l+e:=by unfold blk;have a:=Int.emod_add_mul_ediv (l+e-1) e;have c:=cr (l+e-1) (show e≠0 by omega);have b:=ci (l+e-1) h;rw[Int.mul_comm]at a;generalize (l+e-1)/e*e=q at a⊢;omega
def yjr{l w:Int}{k:Nat}(h:Ŝ l w k):pw k<=w:=by have a:=ykw l (ug k);unfold Ŝ at h;rw[Int.add_mul]at h;omega
def ylm{l w:Int}{k:Nat}(h:¬Ŝ l w k):w<2*pw k:=by have a:=ykw l (ug k);unfold Ŝ at h;rw[Int.add_mul]at h;omega
def tel(l w:Int):Nat->Nat->Nat
 |0,k=>k
 |f+1,k=>if Ŝ l w (k+1)then tel l w f (k+1)else k
def ymx{l w:Int}{f k:Nat}(h:Ŝ l w (k+1)):tel l w f (k+1)=tel l w (f+1) k:=by rw[tel,if_pos h]
def ys1{l w:Int}{f k:Nat}(h:¬Ŝ l w (k+1)):tel l w f k=k:=by
 cases f with
 |zero=>rfl
 |succ f=>rw[tel,if_neg h]
set_option tactic.hygienic true in
theorem ydn{l w:Int}:∀{f k:Nat},Ŝ l w k->Ŝ l w (tel l w f k)
 |0,_,h=>h
 |f+1,k,h=>by
  unfold tel
  split
  .rename_i q;exact ydn q
  .exact h
def pw5:pw 5=1099511627776:=by decide
def yjv{l w:Int}{k:Nat}(hw:w<=1099511627776)(h:Ŝ l w k):k<=5:=by have a:=yjr h;rw[<- pw5]at hw;have b:pw k<pw 6:=Int.lt_of_le_of_lt (Int.le_trans a hw) (by decide);have:=vbx b;omega
theorem yi6{l w:Int}(hw:w<=1099511627776):∀{f k:Nat},f+k=5->¬Ŝ l w (tel l w f k+1)
 |0,k,e=>by
  intro h;have:=yjv hw h;simp only[tel]at this;omega
 |f+1,k,e=>by
  unfold tel
  split
  .exact yi6 hw (by omega)
  .assumption
def tK(x:Sn):Nat:=tel x.1 x.2.1 5 0
def tCn(x:Sn):Int:=blk x.1 (pw (tK x))
def tL(x:Sn):Ρ:=wr (sz x-tK x) (tCn x)
def vef{x:Sn}(h:Ok x):Ŝ x.1 x.2.1 0:=by have:=h.w0;show ((x.1+1-1)/1+1)*1<=x.1+x.2.1;omega
def yah{x:Sn}(h:Ok x):Ŝ x.1 x.2.1 (tK x):=ydn (vef h)
def vbq{x:Sn}(h:Ok x):¬Ŝ x.1 x.2.1 (tK x+1):=yi6 h.w1 rfl
def ynv{x:Sn}(h:OkS x):tK x<=5/\tK x<=sz x:=by have a:=yjv h.ok.w1 (yah h.ok);have b:=h.sz5;omega
def yes(x:Sn):(tL x).length=sz x-tK x:=vaf _ _
def yyq{x:Sn}(h:Ok x):0<=tCn x:=by have:=h.l0;have:=ug (tK x);exact Int.ediv_nonneg (by omega) (by omega)
def yz9{x:Sn}(h:OkS x):tCn x<pw (sz x-tK x):=by have b:(tCn x+1)*pw (tK x)<=x.1+x.2.1:=yah h.ok;have a:=h.top;have e:sz x-tK x+tK x=sz x:=Nat.sub_add_cancel (ynv h).2;rw[<- e,ř]at a;have c:=Int.le_of_mul_le_mul_right (Int.le_trans b a) (ug (tK x));omega
def yw7{x:Sn}(h:OkS x):val (tL x)=tCn x:=yog _ _ (yyq h.ok) (yz9 h)
def gv(c b:Int):Int:=if b=1 then c else 16777216-c
def ywo(n:Nat)(g o:Int)(x:Sn):Prop:=0<g/\0<o/\g*pw (sz x)*(8388608-n)<=o*x.2.1*8388608
def vdm:ywo 0 1 1 s0:=⟨by decide,by decide,by decide⟩
def vde{g p o w m z:Int}(hz:0<=z)(h:g*p*m<=o*w*8388608):g*(p*z)*m<=o*(w*z)*8388608:=by
 have c:=cc h hz
 have a:g*(p*z)*m=g*p*m*z:=by
  rw[<- Int.mul_assoc g p z,Int.mul_assoc (g*p) z m,Int.mul_comm z m,<- Int.mul_assoc]
 have b:o*(w*z)*8388608=o*w*8388608*z:=by
  rw[<- Int.mul_assoc o w z,Int.mul_assoc (o*w) z,Int.mul_comm z,<- Int.mul_assoc]
 rw[a,b];exact c
def yii{n:Nat}{g o:Int}{x:Sn}{c b:Int}(hn:n<1000000)(h:OkS x)(hc:Ch c)(p:ywo n g o x):ywo (n+1) (g*gv c b) (o*16777216) (nar x c b):=by
 let⟨H,T,F⟩:=p;let⟨Y,S,U⟩:=ś h.ok.w0 h.ok.w1 hc;have hw:=h.ok.w0;let⟨R,W⟩:=hc;have Z:=h.ok.z;have D:cut x.2.1 c*16777216<=x.2.1*c:=by unfold cut;omega
 have t:x.2.1*c<cut x.2.1 c*16777216+16777216:=by unfold cut;omega
 have X:=ug (sz x)
 have u:0<g*gv c b/\∃a,(nar x c b=if b=1 then ren x.1 a x.2.2 else ren (x.1+cut x.2.1 c) a x.2.2)/\g*gv c b*pw (sz x)*(8388608-(n+1:Nat))<=o*16777216*a*8388608:=by
  have j:0<=g*pw (sz x):=Int.mul_nonneg (by omega) (by omega);have i:0<=o:=by omega
  unfold gv nar;by_cases hb:b=1
  .rw[if_pos hb,if_pos hb];exists Int.mul_pos H (by omega),cut x.2.1 c,by rw[if_pos hb],?_
   have e:g*pw (sz x)*(8388608-n)*c<=o*x.2.1*8388608*c:=cc F (by omega);have E:x.2.1*c*8388608<=cut x.2.1 c*16777216*8388609:=by omega
   have d:o*(x.2.1*c*8388608)<=o*(cut x.2.1 c*16777216*8388609):=bY E i
   have f:g*pw (sz x)*c*((8388608-(n+1:Nat))*8388609)<=g*pw (sz x)*c*((8388608-n)*8388608) :=
    bY (by omega) (Int.mul_nonneg j (by omega))
   have A:g*c*pw (sz x)=g*pw (sz x)*c:=by rw[Int.mul_assoc,Int.mul_comm c,<- Int.mul_assoc]
   rw[A];have J:g*pw (sz x)*c*((8388608-(n+1:Nat))*8388609)=g*pw (sz x)*c*(8388608-(n+1:Nat))*8388609:=by rw[<- Int.mul_assoc]
   have B:g*pw (sz x)*c*((8388608-n)*8388608)=g*pw (sz x)*(8388608-n)*c*8388608:=by
    rw[<- Int.mul_assoc,Int.mul_assoc (g*pw (sz x)) c,Int.mul_comm c,<- Int.mul_assoc]
   have y:o*(x.2.1*c*8388608)=o*x.2.1*c*8388608:=by rw[<- Int.mul_assoc,<- Int.mul_assoc]
   have v:o*x.2.1*8388608*c=o*x.2.1*c*8388608:=by rw[Int.mul_assoc,Int.mul_comm 8388608,<- Int.mul_assoc]
   have C:o*(cut x.2.1 c*16777216*8388609)=o*cut x.2.1 c*16777216*8388609:=by rw[<- Int.mul_assoc,<- Int.mul_assoc]
   have m:o*16777216*cut x.2.1 c*8388608=o*cut x.2.1 c*16777216*8388608:=by rw[Int.mul_assoc o,Int.mul_comm 16777216,<- Int.mul_assoc]
   rw[J,B]at f;rw[y,C]at d;rw[v]at e;rw[m];generalize g*pw (sz x)*c*(8388608-(n+1:Nat))=Q at f⊢;generalize g*pw (sz x)*(8388608-n)*c=I at e f;generalize o*x.2.1*c=L at e d;generalize o*cut x.2.1 c=N at d⊢;omega
  .rw[if_neg hb,if_neg hb];exists Int.mul_pos H (by omega),x.2.1-cut x.2.1 c,by rw[if_neg hb],?_
   have G:0<=16777216-c:=by omega
   have e:g*pw (sz x)*(8388608-n)*(16777216-c)<=o*x.2.1*8388608*(16777216-c):=cc F G;have E:x.2.1*(16777216-c)<=(x.2.1-cut x.2.1 c)*16777216:=by rw[Int.mul_sub];omega
   have d:o*(x.2.1*(16777216-c))<=o*((x.2.1-cut x.2.1 c)*16777216):=bY E i
   have f:g*pw (sz x)*(16777216-c)*(8388608-(n+1:Nat))<=g*pw (sz x)*(16777216-c)*(8388608-n) :=
    bY (by omega) (Int.mul_nonneg j G)
   have A:g*(16777216-c)*pw (sz x)=g*pw (sz x)*(16777216-c):=by rw[Int.mul_assoc,Int.mul_comm (16777216-c),<- Int.mul_assoc]
   rw[A]
   have B:g*pw (sz x)*(16777216-c)*(8388608-n)=g*pw (sz x)*(8388608-n)*(16777216-c):=by
    rw[Int.mul_assoc,Int.mul_comm (16777216-c),<- Int.mul_assoc]
   have y:o*(x.2.1*(16777216-c))=o*x.2.1*(16777216-c):=by rw[<- Int.mul_assoc]
   have v:o*x.2.1*8388608*(16777216-c)=o*x.2.1*(16777216-c)*8388608:=by rw[Int.mul_assoc,Int.mul_comm 8388608,<- Int.mul_assoc]
   have C:o*((x.2.1-cut x.2.1 c)*16777216)=o*(x.2.1-cut x.2.1 c)*16777216:=by rw[<- Int.mul_assoc]
   have m:o*16777216*(x.2.1-cut x.2.1 c)*8388608=o*(x.2.1-cut x.2.1 c)*16777216*8388608:=by rw[Int.mul_assoc o,Int.mul_comm 16777216,<- Int.mul_assoc]
   rw[B]at f;rw[y,C]at d;rw[v]at e;rw[m];generalize g*pw (sz x)*(16777216-c)*(8388608-(n+1:Nat))=Q at f⊢;generalize g*pw (sz x)*(8388608-n)*(16777216-c)=I at e f;generalize o*x.2.1*(16777216-c)=L at e d;generalize o*(x.2.1-cut x.2.1 c)=N at d⊢;omega
 let⟨M,a,K,O⟩:=u;exists M,by omega,?_
 rw[K]
 have k:∀l:Int,g*gv c b*pw (sz (ren l a x.2.2))*(8388608-(n+1:Nat))<=o*16777216*(ren l a x.2.2).2.1*8388608:=λl=>by
  let⟨r,q,P,_⟩:=ydc (l:=l) (w:=a) (s:=x.2.2) (by omega);rw[q.z,P,ř];exact vde (Int.le_of_lt (ug r)) O
 split
 .exact k _
 .exact k _
def yri{n:Nat}{g o:Int}{x:Sn}(hn:n<1000000)(h:OkS x)(p:ywo n g o x):g*pw (sz x-tK x)<1024*o:=by
 let⟨r,d,a⟩:=p;have q:=ylm (vbq h.ok)
 have b:x.2.1<512*pw (tK x):=by
  have e:pw (tK x+1)=pw (tK x)*256:=rfl;omega
 have e:sz x-tK x+tK x=sz x:=Nat.sub_add_cancel (ynv h).2;have i:=ug (tK x);rw[<- e,ř]at a
 have c:o*x.2.1*8388608<o*(512*pw (tK x))*8388608:=by
  have:=Int.mul_lt_mul_of_pos_left b d;omega
 have l:g*(pw (sz x-tK x)*pw (tK x))*(8388608-n)=g*pw (sz x-tK x)*(8388608-n)*pw (tK x):=by
  rw[<- Int.mul_assoc,Int.mul_assoc (g*pw (sz x-tK x)) (pw (tK x)),Int.mul_comm (pw (tK x)),<- Int.mul_assoc]
 have k:o*(512*pw (tK x))*8388608=o*512*8388608*pw (tK x):=by
  rw[<- Int.mul_assoc,Int.mul_assoc (o*512) (pw (tK x)),Int.mul_comm (pw (tK x)),<- Int.mul_assoc]
 rw[l]at a;rw[k]at c;have j:=Int.lt_of_mul_lt_mul_right (Int.lt_of_le_of_lt a c) (Int.le_of_lt i)
 have f:g*pw (sz x-tK x)*(8388608-n)<1024*o*(8388608-n):=by
  refine Int.lt_of_lt_of_le j ?_;have:o*(512*8388608)<=o*(1024*(8388608-n)):=bY (by omega) (by omega);have m:o*(1024*(8388608-n))=1024*o*(8388608-n):=by rw[<- Int.mul_assoc,Int.mul_comm o]
  omega
 exact Int.lt_of_mul_lt_mul_right f (by omega)
end SpanMath
namespace L2
open PySem PySem.Spec PyProof.Rows
def yff(J:It)(te:TE)(D:x0)(R:Hp->Prop)(H1:Hp):Prop:=∃W:Nat->Nat->Hp->Prop,(∃m,W 0 m (upd H1 D (.lst [])))/\
 ∀i m H2,W i m H2->(J.stop i H2/\R H2)\/(J.go i H2/\∀x H3,J.yld i H2 x H3->te [some x] H3 λy H4=>∃ys,H4 D=some (.lst ys)/\ys.length<sizeLine/\∃m',m'<m/\W (i+1) m' (upd H4 D (.lst (ys++[y]))))
section
variable{X:Cx}{iter elt:qg}{x:Str}{px pos:Pos}{scope:Scope}{te:TE}{wi:TI}{pins:Θ}{σ:St}
def vcw{α:Type}{t:Sem α}{Q Q':α->qa->Prop}{M:Model}{A:qe}{E:Δ}{s:qa}(h:wpAny M A t Q (λZ Z=>False) s)(hQ:∀a s,Q a s->Q' a s):wpAny M A t Q' E s:=cN h hQ λZ Z z=>z.elim
def cW(n:Nat)(Pv:Nat->Hp->Prop)(i m:Nat)(H:Hp):Prop:=m=n-i/\i<=n/\Pv i H
def ul{K:xr}{a D:x0}{xs:Υ}{R:Hp->Prop}{H1:Hp}(Pv:Nat->Hp->Prop)(h0:Pv 0 (upd H1 D (.lst [])))(hl:∀i H,i<=xs.length->Pv i H->SqL K H a xs)
  (hs:∀i x H,xs[i]?=some x->i<xs.length->Pv i H->te [some x] H λy H4=>∃ys,H4 D=some (.lst ys)/\ys.length<sizeLine/\∃m',m'<xs.length-i/\cW xs.length Pv (i+1) m' (upd H4 D (.lst (ys++[y]))))
  (hd:∀H,Pv xs.length H->R H):yff (Itl K a) te D R H1:=by
 exists cW xs.length Pv,⟨xs.length,by simp,bK _,h0⟩,?_;rintro i m H ⟨rfl,b,p⟩;have q:=hl i H b p;by_cases hlt:i<xs.length
 .refine .inr ⟨⟨xs,xs[i],q,by simp[hlt]⟩,λx c y=>?_⟩;let⟨e,y⟩:=y;subst e;exact hs i x _ (y xs q) hlt p
 .have e:i=xs.length:=by omega
  subst e;exact .inl ⟨⟨xs,q,bn _⟩,hd H p⟩
def we{n i:Nat}{Pv:Nat->Hp->Prop}{D:x0}{ys:Υ}{y:V}{H4:Hp}(hD:H4 D=some (.lst ys))(hl:ys.length<sizeLine)(hi:i<n)(p:Pv (i+1) (upd H4 D (.lst (ys++[y])))):
  ∃ys,H4 D=some (.lst ys)/\ys.length<sizeLine/\∃m',m'<n-i/\cW n Pv (i+1) m' (upd H4 D (.lst (ys++[y]))):=⟨ys,hD,hl,n-(i+1),by omega,rfl,hi,p⟩
end
end L2
namespace L2
open PySem
def yc6:qg->Bool
 | .Starred _ _=>false
 |_=>true
def yjq{e:qg}{es:qi qg}{env:Env}(h:yc6 e=true):starEach (e::es) env=(false,eval e env)::starEach es env:=by cases e<;>first|rfl|cases h
end L2
namespace L2
open PySem PySem.Spec PyProof.Rows
variable{C a:x0}{e:qg}{h':qf}{pins:Θ}{P:qh}{scope:Scope}{qual:Str}{cd u:qb}{E Q:Δ}
structure XCls(K:xr)(C:x0):Prop where
 hd:W.hasDictIn K C=true
 ga:W.findIn K (.ref C) "__getattribute__"=some (some (.builtin "BaseException.__getattribute__"))
 gt:W.findIn K (.ref C) "__getattr__"=some none
 ca:W.findIn K (.ref C) "__class__"=some (some (.builtin "object.__class__"))
 gg:W.specialIn K (.builtin "object.__class__") "__get__"=some (some (.builtin "getset_descriptor.__get__"))
 tk:W.takesIn K (.builtin "object.__class__")=some true
 mo:W.mroIn K C (.type "object")=some true
 mb:W.mroIn K C (.type "BaseException")=some true
def w8.there{w:qd}{H:Hp}{h:qf}{o:HO}(x:w8 P w H h a o):∃ob,h.get? a=some ob:=by
 cases o with
 |lst xs=>let⟨_,_,_,_,e⟩:=x;exists _,e
 |tup xs=>let⟨_,_,_,ob,e,_⟩:=x;exists _,e
 |dK kvs=>let⟨_,_,_,_,ob,_,_,e,_⟩:=x;exists _,e
 |dT kvs=>let⟨_,_,_,_,ob,_,_,e,_⟩:=x;exists _,e
 |set S n=>let⟨ob,_,_,_,e,_⟩:=x;exists _,e
 |ins C dx fs=>let⟨_,_,_,e,_⟩:=x;exists _,e
 |own y=>exact x
 |xd fs=>let⟨_,⟨_,_,_,e,_⟩,_⟩:=x;exists _,e
 |rng lo hi=>let⟨_,_,_,e⟩:=x;exists _,e
 |frz ob u=>let⟨e,_⟩:=x;exists _,e
 |tbl ps=>exists _,(show h.get? a=some _ from x)
 |met f y=>exists _,(show h.get? a=some _ from x)
 |ext φ=>let⟨_,e,_⟩:=x;exact e
def HOk.none_of{w:qd}{H:Hp}{h:qf}(x:HOk P w H h)(e:h.get? a=none):H a=none:=by
 cases q:H a with
 |none=>rfl
 |some u =>
  let⟨b,z⟩:=(x a u q).there;rw[e]at z;cases z
def Fy(X:Cx)(pins:Θ)(H:Hp)(b:x0):Prop :=
 H b=none/\b≠X.env.locals/\b∉X.fs/\(b∈X.ex\/X.s₀.heap.get? b=none)/\(∀y c,X.env.cells.lookup y=some c->c≠b)/\∀p∈X.pn++pins,p.1≠b
section
variable{X:Cx}{σ:St}{H H':Hp}{s:qa}{b x T:x0}
def yfe(I:Inv X pins σ H s)(hb:s.heap.get? b=none)(hn:H' b=none):Fy X pins H' b:=by
 exists hn,?_,?_,?_,?_,?_
 .rintro rfl;let⟨_,⟨_,_,_,e,_⟩,_⟩:=I.loc;rw[hb]at e;cases e
 .intro z;let⟨_,o,e,_⟩:=I.funs.mem z;rw[hb]at e;cases e
 .by_cases hx:b∈X.ex
  .exact .inl hx
  .refine .inr ?_
   cases q:X.s₀.heap.get? b with
   |none=>rfl
   |some o =>
    let⟨_,e⟩:=I.base.there b o q hx;rw[hb]at e;cases e
 .rintro y c e rfl;let⟨_,_,q,_⟩:=I.cell y c e;rw[hb]at q;cases q
 .intro p a z;have q:=(I.pin p a).1;rw[z,hb]at q;cases q
def Inv.fly(I:Inv X pins σ H s)(hx:Fy X pins H x)(hT:Fy X pins H T)
  (keep:∀b o,b≠x->b≠T->b∉frs X.stack->s.heap.get? b=some o->h'.get? b=some o)
  (slot:∀b o,b∈frs X.stack->s.heap.get? b=some o->∃sl,h'.get? b=some {o with slots:=sl}):Inv X pins σ H {s with heap:=h'}:=by
 have f:∀{y b o},Fy X pins H y->X.s₀.heap.get? b=some o->b∉X.ex->b≠y:=λ{y b o}U e a z=>by
  subst z;rcases U.2.2.2.1 with q|q
  .exact a q
  .rw[e]at q;cases q
 have h:∀b o,b≠x->b≠T->s.heap.get? b=some o->∃sl,h'.get? b=some {o with slots:=sl}:=λb o W O e=>by
  by_cases z:b∈frs X.stack
  .exact slot b o z e
  .exists o.slots,keep b o W O z e
 have g:∀y c,X.env.cells.lookup y=some c->∀v,s.heap.IsCell c v->h'.IsCell c v:=λy c e v ⟨o,C,R⟩=>by
  let⟨sl,q⟩:=h c o (hx.2.2.2.2.1 y c e) (hT.2.2.2.2.1 y c e) C;exists _,q,R
 exists I.ok,I.os,I.bare,⟨λb o e n A a=>?_,λb o e n A a=>?_,I.base.free,λb o e a=>?_,I.base.tups,I.base.frzs,I.base.tbls⟩,?_,λy c e=>?_,I.free,I.freeC,λp B=>?_,λb u e=>?_,I.len
 .refine keep b o (f hx e a) (f hT e a) (λz=>?_) (I.base.keep b o e n A a);rcases bC.mp (I.stkSub b z)with q|q
  .exact absurd q (bR (cb (bx e) I.ok.above))
  .exact A q
 .obtain⟨sl,t⟩:=I.base.slot b o e n A a;let⟨w,j⟩:=h b _ (f hx e a) (f hT e a) t;exists w,j
 .obtain⟨Y,t⟩:=I.base.there b o e a;let⟨w,j⟩:=h b _ (f hx e a) (f hT e a) t;exists _,j
 .obtain⟨m,P,L⟩:=I.loc;exists m,?_,λi y v t j N=>?_
  .obtain⟨o,J,K,C,r⟩:=P;let⟨sl,q⟩:=h _ o (Ne.symm hx.2.1) (Ne.symm hT.2.1) C;exists _,J,K,q,r
  .obtain⟨u,r,l⟩:=L i y v t j N;exists u,r,?_;rcases l with l|⟨k,c,e,z⟩
   .exact .inl l
   .exact .inr ⟨k,c,e,g y c e _ z⟩
 .obtain⟨v,z⟩:=I.cell y c e;exists v,g y c e v z
 .obtain⟨e,n,E,G,d⟩:=I.pin p B;exists keep p.1 p.2 (hx.2.2.2.2.2 p B) (hT.2.2.2.2.2 p B) (λz=>?_) e,n,E,G,d;rcases bC.mp (I.stkSub _ z)with q|q
  .exact E q
  .exact G q
 .have F:∀c v,H c=some v->c≠x/\c≠T/\c∉frs X.stack:=λc v q =>
   ⟨λz=>(by rw[z,hx.1]at q;cases q),λz=>(by rw[z,hT.1]at q;cases q),λz=>(by rw[I.stkFree c z]at q;cases q)⟩
  refine(I.hok b u e).stay (λc v D q=>?_) (λZ q=>q) λZ Z q=>q
  obtain⟨S,M,Q⟩:c≠x/\c≠T/\c∉frs X.stack:=by
   rcases D with rfl|D
   .exact F _ _ e
   .exact F _ _ D
  exact keep c v S M Q q
def Trd(h:qf)(x T:x0)(C fl:qb):Prop :=
 ∃oe vs oT ts a0,h.get? x=some oe/\(oe.cls=C/\vs[0]?=some a0)/\oe.data=.fields vs/\vs[1]?=some (.ref T)/\T≠x/\h.get? T=some oT/\oT.data=.fields ts/\ts[3]?=some fl
def hid(s:qa)(X:Cx)(x T:x0):qf:=W.hideAll s.heap (x::T::frs X.stack)
def yp2:(hid s X x T).StaysIn s.heap:=λZ Z e=>W.of_hideAll _ e
def vb6:(hid s X x T).get? x=none:=W.hideAll_none _ (.head _)
def vda:(hid s X x T).get? T=none:=W.hideAll_none _ (.tail _ (.head _))
def ype(I:Inv X pins σ H s):s.heap.FunFrames (hid s X x T) X.stack :=
 W.funFrames_hide I.stack λb c a d=>.tail _ (.tail _ (List.mem_filterMap.mpr ⟨b,c,d⟩))
def yyr{C fl:qb}(t:Trd s.heap x T C fl):∃a0,s.heap.TracedAtW (hid s X x T) x C a0 fl:=by let⟨j,b,f,i,a0,g,h,c,k,e,a,l,d⟩:=t;exists a0,j,b,T,f,i,g,h,c,k,vda,e,a,l,d
def ybj{C a0 fl:qb}(I:Inv X pins σ H s)(hx:Fy X pins H x)(hT:Fy X pins H T)(k1:(hid s X x T).StaysIn h')(k2:h'.FunFrames (hid s X x T) X.stack)(k3:h'.TracedAtW (hid s X x T) x C a0 fl)
  (k4:∀b o,s.heap.get? b=some o->(∀vs,o.data≠.fields vs)->∃sl,h'.get? b=some {o with slots:=sl}):
  Inv X pins σ H {s with heap:=h'}/\∃T',Fy X pins H T'/\Trd h' x T' C fl:=by
 exists I.fly hx hT (λb o h r i e=>k1 b o (W.hideAll_get _ e λz=>?_)) λb o v e=>?_,?_
 .rcases bC.mp z with z|z
  .exact h z
  .rcases bC.mp z with z|z
   .exact r z
   .exact i z
 .obtain⟨_,w,a,c⟩:=I.stack.mem v;rw[e]at a;cases a;exact k4 b o e c
 .obtain⟨A,vs,T',k,j,y,l,t,p,u,d,f,g,n⟩:=k3;exists T',?_,A,vs,k,j,a0,y,l,t,p,d,f,g,n;by_cases q:T'=T
  .rw[q];exact hT
  .cases e:s.heap.get? T' with
   |none=>exact yfe I e (I.hok.none_of e)
   |some o =>
    have z:T'∈frs X.stack:=Classical.byContradiction λz=>by
     have:=W.hideAll_get (x::T::frs X.stack) e (λm=>by
      rcases bC.mp m with m|m
      .exact d m
      .rcases bC.mp m with m|m
       .exact q m
       .exact z m)
     rw[show (W.hideAll s.heap (x::T::frs X.stack)).get? T'=none from u]at this;cases this
    let⟨_,w,a,c⟩:=k2.mem z;rw[f]at a;cases a;exact absurd g (c _)
end
def CXe(P:qh)(w:qd):CXT:=λouter H s E e s'=>∃x T C H',e=.ref x/\s'.os=s.os/\AllBare s'.gens/\Un (frs outer) [] H H' s.heap s'.heap/\HOk P w H' s'.heap/\
 (H' x=none/\s.heap.get? x=none)/\(H' T=none/\s.heap.get? T=none)/\Trd s'.heap x T C .none/\E C none H'
def yan(X:Cx)(Ex:St->XK):Prop:=∀(pins:Θ)(σ:St)(H:Hp)(s':qa)(x T:x0)(C:qb),Inv X pins σ H s'->Fy X pins H x->Fy X pins H T->Trd s'.heap x T C .none->Ex σ C none H->X.xe (.ref x) s'
def yz{w:qd}{K:xr}{mg:Ε}{base:qf}{N:Τ}{f:x0}{A:qe}{outer:qi Env}{s:qa}{H:Hp}{E:XK}:
  yan (vy (CXe P w) P w K mg base N qual scope f cd A outer s H E) (λZ=>E):=by intro c σ g j x T C I h k t q;show wpAny _ _ (leaving _ _) _ _ _;let⟨v,n⟩:=yyr (X:=vy (CXe P w) P w K mg base N qual scope f cd A outer s H E) t;refine wpAny_leaving_nextW (base:=hid j (vy (CXe P w) P w K mg base N qual scope f cd A outer s H E) x T) (L:=s.heap.objs.size) I.ok.frames (ype I) rfl n yp2 vb6 λy ⟨m,p,u,l⟩=>?_;let⟨d,o,e,r⟩:=ybj I h k m p u l;have a:∀{b},Fy (vy (CXe P w) P w K mg base N qual scope f cd A outer s H E) c g b->g b=none/\s.heap.get? b=none:=λi=>⟨i.1,i.2.2.2.1.resolve_left (by intro z;cases z)⟩;exists x,o,C,g,rfl,d.os,d.bare,d.base,d.hok,a h,a e,r,q
def ync{w:qd}{K:xr}{mg:Ε}{base:qf}{N:Τ}{f:x0}{A:qe}{outer:qi Env}{s:qa}{H:Hp}{E:XK}
  {pins:Θ} {σ:St} {H1:Hp} {s1:qa} {h':qf} {x:x0} {C:qb} {vs:Ο} (I:Inv (vy (CXe P w) P w K mg base N qual scope f cd A outer s H E) pins σ H1 s1) (m:Heap.MadeExcOf s1.heap h' x C vs) (q:E C none H1):
  (vy (CXe P w) P w K mg base N qual scope f cd A outer s H E).xe (.ref x) {s1 with heap:=h'}:=by
 let⟨t,p,_,_⟩:=m.there;have e:Fy (vy (CXe P w) P w K mg base N qual scope f cd A outer s H E) pins H1 x:=yfe I m.new (I.hok.none_of m.new);have g:Inv (vy (CXe P w) P w K mg base N qual scope f cd A outer s H E) pins σ H1 {s1 with heap:=h'}:=I.kept (t':=s1.toks) m.keeps;show wpAny _ _ (leaving _ _) _ _ _
 refine wpAny_leaving_firstW (base:=hid {s1 with heap:=h'} (vy (CXe P w) P w K mg base N qual scope f cd A outer s H E) x x) (L:=s.heap.objs.size) (a0:=.ref t) g.ok.frames (ype g) rfl p yp2 vb6 rfl rfl rfl λk ⟨i,o,n,j⟩=>?_
 let⟨c,l,d,t'⟩:=ybj g e e i o n j;have a:∀{b},Fy (vy (CXe P w) P w K mg base N qual scope f cd A outer s H E) pins H1 b->H1 b=none/\s.heap.get? b=none:=λh=>⟨h.1,h.2.2.2.1.resolve_left (by intro z;cases z)⟩;exists x,l,C,H1,rfl,c.os,c.bare,c.base,c.hok,a e,a d,t',q
def ykb(sp:Sp)(dvs:Υ)(Ex:St->XK)(t:TA):TE:=λσ H Q=>t σ H λvs H1=>sp (vs++dvs) H1 Q (Ex σ)
def yb2(C:x0)(m:Str)(sp:Sp)(dvs:Υ)(Ex:St->XK)(ta:TE)(t:TA):TE:=λσ H Q=>ta σ H λx H1=>∃a dx fs,x=.ref a/\H1 a=some (.ins C dx fs)/\fs.lookup m=none/\
 t σ H1 λvs H2=>sp (x::(vs++dvs)) H2 Q (Ex σ)
def yqi(C:x0)(sp:Sp)(dvs:Υ)(Ex:St->XK)(t:TA):TE:=λσ H Q=>t σ H λvs H1=>∀x dx,H1 x=none->H1 dx=none->dx≠x ->
 sp (.ref x::(vs++dvs)) (upd (upd H1 dx (.own x)) x (.ins C dx [])) (λv H2=>v=.non/\Q (.ref x) H2) (Ex σ)
section
variable{X:Cx}{k:Nat}{f:x0}{fd:FuncData}{ps:Τ}{sp:Sp}{dvs:Υ}{ds:Ο}{Ex:St->XK}{x m:Str}{p pos apos:Pos}{o:qg}{es:qi qg}{ta:TE}{t:TA}
def Inv.came{σ:St}{H:Hp}{s s':qa}{v:qb}(I:Inv X pins σ H s)(hc:yan X Ex)(h:CXe X.prog X.w X.stack H s (Ex σ) v s'):X.xe v s':=by let⟨y,T,D,g,rfl,i,a,f,c,e,d,j,q⟩:=h;exact hc pins σ g s' y T D (I.call' i f c a λb z=>absurd z (by simp)) (yfe I e.2 e.1) (yfe I d.2 d.1) j q
def yje{σ:St}{H:Hp}{s:qa}{Q:VK}{us:Ο}{vs:Υ}(F:vz X.prog X.w X.K X.mg X.base (CXe X.prog X.w) k f fd ps sp)(hr:jh k X.A)(hb:xw X.K fd ps ds)(hd:wu dvs ds)(hc:yan X Ex)
  (I:Inv X pins σ H s) (r:wu vs us) (h:sp (vs++dvs) H Q (Ex σ)):wpAny (model X.prog X.w) X.A (call (.ref f) us) (EP X pins σ Q) X.xe s:=by
 have b:wu (vs++dvs) (us++ds):=r.append hd;have c:(us++ds).length=ps.length:=by rw[<- b.length];exact F.len _ _ _ _ h
 refine wpAny_call (codeAny_mono (F.run X.A X.stack s H ⟨us,[]⟩ (us++ds) (vs++dvs) Q (Ex σ) hr I.env0 (hb s us I.kIn c) b h) λr d a=>?_)
 cases r with
 |error e=>exact I.came hc a
 |ok fl =>
  cases fl with
  |ret u=>exact I.after a
  |next=>exact False.elim a
  |brk=>exact False.elim a
  |cont=>exact False.elim a
def û(F:vz X.prog X.w X.K X.mg X.base (CXe X.prog X.w) k f fd ps sp)(hr:jh k X.A)(hg:Gl X x)(hm:X.mg x=some (.ref f))(hk:W.keepIn X.K (.ref f)=true)(hb:xw X.K fd ps ds)(hd:wu dvs ds)(hc:yan X Ex)
  (ha:PA X (e::es) t) (hdb:(x == ("__debug__":Str))=false:=by decide) (he:starEach (e::es) X.env=(false,eval e X.env)::starEach es X.env:=by rfl) (hpl:(backTo pos (starEach es X.env)).any (·.1)=false:=by rfl):
  PE X (.Call (.Name x p) (e::es) [] pos) (ykb sp dvs Ex t):=by refine .mk λa s σ H Q I h=>?_;refine wpAny_Call_Name_kw (ρ I hg hm ?_ hdb);refine W.callWith_K (h₀:=X.base) I.ok.mod.kin hk (thn (ha pos a s σ H _ I h) λi g ⟨c,d,b,r,q⟩=>⟨b.kIn,?_⟩) he hpl;exact yje F hr hb hd hc b r q
def vh{pl:Sem Bool}(he:PE X o ta)(c:Cls X.K C)(hm:ywf X.K C m f)(F:vz X.prog X.w X.K X.mg X.base (CXe X.prog X.w) k f fd ps sp)(hr:jh k X.A)(hb:xw X.K fd ps ds)(hd:wu dvs ds)(hc:yan X Ex)(ha:PA X (e::es) t)
  (hst:starEach (e::es) X.env=(false,eval e X.env)::starEach es X.env:=by rfl) (hpl:(backTo pos (starEach es X.env)).any (·.1)=false:=by rfl)
  (ht:eval (.Call (.Attribute o m apos) (e::es) [] pos) X.env=(do
   let ov <- eval o X.env
   standAt apos.atName
   let (f,first) <- holding [ov] (getMethod ov m pl)
   callWith pos f first (backTo pos (starEach (e::es) X.env)) (backToKw pos (keywordEach [] X.env))):=by rfl):
  PE X (.Call (.Attribute o m apos) (e::es) [] pos) (yb2 C m sp dvs Ex ta t):=by
 refine .mk λb s σ H Q I h=>?_;refine W.methodCall_KW (pl:=pl) (thn (he b s σ H _ I h) λu n h'=>?_) ht;let⟨x,i,d,p,a,B,E,y,j,l,q⟩:=h';subst y;obtain rfl:u=Value.ref a:=p;refine ß d j c hm l ?_
 refine W.callWith_K (first:=[.ref a]) (h₀:=X.base) I.ok.mod.kin hm.kp (thn (ha pos b n σ i _ d q) λus D ⟨vs,z,g,r,v⟩=>⟨g.kIn,?_⟩) hst hpl
 exact yje (us:=.ref a::us) (vs:=.ref a::vs) F hr hb hd hc g (.cons rfl r) v
def yhq{σ:St}{H:Hp}{s:qa}{Q:VK}{us:Ο}{vs:Υ}(M:Mk X.K C f)(F:vz X.prog X.w X.K X.mg X.base (CXe X.prog X.w) k f fd ps sp)(hr:jh (k+1) X.A)(hb:xw X.K fd ps ds)(hd:wu dvs ds)
  (hc:yan X Ex) (I:Inv X pins σ H s) (r:wu vs us)
  (h:∀x dx,H x=none->H dx=none->dx≠x->sp (.ref x::(vs++dvs)) (upd (upd H dx (.own x)) x (.ins C dx [])) (λv H2=>v=.non/\Q (.ref x) H2) (Ex σ)):
  wpAny (model X.prog X.w) X.A (call (.ref C) us) (EP X pins σ Q) X.xe s:=by
 have c:=h (s.heap.objs.size+1) s.heap.objs.size (I.hok.fresh (Nat.le_succ _)) (I.hok.fresh (bn _)) (bR (Nat.lt_succ_self _));have b:=Inv.made (C:=C) I;have d:wu (V.ref (s.heap.objs.size+1)::(vs++dvs)) (Value.ref (s.heap.objs.size+1)::(us++ds)):=.cons rfl (r.append hd)
 have l:(Value.ref (s.heap.objs.size+1)::us++ds).length=ps.length:=by
  have e:=d.length;rw[F.len _ _ _ _ c]at e;exact e.symm
 refine wpAny_call (ydr (f:=f) I.kIn M.makes M.init (beq_iff_eq.mp M.fn) (codeAny_mono (F.run _ X.stack _ _ ⟨Value.ref (s.heap.objs.size+1)::us,[]⟩ (Value.ref (s.heap.objs.size+1)::(us++ds)) _ _ (Ex σ) (hr.make C us [])
  (b.env0.make C us []) (hb _ (Value.ref (s.heap.objs.size+1)::us) b.kIn l) d c) λr o a=>?_))
 cases r with
 |error e=>exact b.came hc a
 |ok fl =>
  cases fl with
  |ret u =>
   let⟨v,i,m,g,j,n⟩:=b.after a;subst j;exists g,⟨V.ref (s.heap.objs.size+1),i,m,rfl,n⟩
  |next=>exact False.elim a
  |brk=>exact False.elim a
  |cont=>exact False.elim a
def ub(M:Mk X.K C f)(F:vz X.prog X.w X.K X.mg X.base (CXe X.prog X.w) k f fd ps sp)(hr:jh (k+1) X.A)(hg:Gl X x)(hm:X.mg x=some (.ref C))(hb:xw X.K fd ps ds)(hd:wu dvs ds)(hc:yan X Ex)
  (ha:PA X (e::es) t) (hdb:(x == ("__debug__":Str))=false:=by decide) (he:starEach (e::es) X.env=(false,eval e X.env)::starEach es X.env:=by rfl) (hpl:(backTo pos (starEach es X.env)).any (·.1)=false:=by rfl):
  PE X (.Call (.Name x p) (e::es) [] pos) (yqi C sp dvs Ex t):=by refine .mk λa s σ H Q I h=>?_;refine wpAny_Call_Name_kw (ρ I hg hm ?_ hdb);refine W.callWith_K (h₀:=X.base) I.ok.mod.kin M.kp (thn (ha pos a s σ H _ I h) λi g ⟨c,d,b,r,q⟩=>⟨b.kIn,?_⟩) he hpl;exact yhq M F hr hb hd hc b r q
end
theorem PS.nox{X:Cx}{st:qc}{t:TS}(h:PS X.nox st t):PS X st t:=.mk λa s σ H D I b =>
 cN (h a s σ H D (I.wish _) b) (λZ Z q=>q.unwish) λZ Z z=>False.elim z
section
variable{w:qd}{K:xr}{mg:Ε}{base:qf}
def vg{X:Cx}:yan X (λZ Z Z Z=>False):=λZ Z Z Z Z Z Z Z Z Z Z q=>q.elim
def Fun.okE{x:Str}{st:qc}{f:x0}{fd:FuncData}{N ps:Τ}{k:Nat}{sp:Sp}(F:Fun K x qual st f fd)(S:yi N ps (ye st))(len:∀vs H Q E,sp vs H Q E->vs.length=ps.length)
  (hbody:∀(cdv:qb)(A:qe)(outer:qi Env)(s:qa)(H:Hp)(vs:Υ)(Q:VK)(E:XK),jh k (A.deeper (envOfC qual (ye st) s.heap.objs.size f cdv))->sp vs H Q E ->
   ∃t,PSs (vy (CXe P w) P w K mg base N qual (ye st) f cdv A outer s H E) (wd st) t/\t { nx:=λZ H'=>Q .non H',rt:=Q} (é N vs) H):vz P w K mg base (CXe P w) (k+1) f fd ps sp:=by let⟨m,i,kV,g,j,l,cdv,h,c,rfl,e,b⟩:=F.ex;exact ynr e b S len λA outer s H vs Q E d a=>hbody cdv A outer s H vs Q E d a
end
abbrev bmV:Ο:=[.type "ValueError",.type "Exception",.type "BaseException",.type "object"]
abbrev XMk(K:xr)(C:x0):Prop:=W.excIn K C bmV "ValueError.__new__"=true
set_option tactic.hygienic true in
def ysp{K:xr}{h:qf}{bmB:Ο}{newId:String}(X:K.In h)(q:W.excIn K C bmB newId=true):
  ∃bm N nm qn bs hdct sn sub ab col dd k0 k1 k2 k3 k5 mN,h.get? C=some (excClassObj nm qn C N bs bm hdct sn sub ab col dd k0 k1 k2 k3 k5 newId)/\h.Ns N mN/\mN "__init__"=none/\OwnTail h bmB bm:=by
 unfold W.excIn at q
 split at q
 .rename_i dd cd sl ho
  split at q
  .rename_i C' bm k0 k1 k2 k3 n k5 hm d
   simp only[bW,beq_iff_eq,Bool.not_eq_true']at q;let⟨⟨⟨⟨⟨rfl,rfl⟩,a⟩,j⟩,b⟩,c⟩:=q;let⟨nm,bs,f,e,qn,i,sn,sub,ab,col,g⟩:=cd;dsimp only at hm a b c;subst hm a;let⟨l⟩:=sl;have d:l=[k0,k1,k2,k3,some (.builtin n),k5]:=d;subst d;exists bm,e,nm,qn,bs,i,sn,sub,ab,col,dd,k0,k1,k2,k3,k5,_,X _ _ ho,.of_isNs (W.isNs_of_in X b),W.nsMap_none_of_in X b c,W.tail_of_in X j
  .cases q
 .cases q
def yqf(E:XK)(C:x0)(t:TA):TS:=λZ σ H=>t σ H λvs H1=>vs.length<=sizeLine/\E (.ref C) none H1
def xb{w:qd}{K:xr}{mg:Ε}{base:qf}{N:Τ}{f:x0}{A:qe}{outer:qi Env}{s:qa}{H:Hp}{E:XK}
  {C:x0} {x:Str} {np cpos pos:Pos} {e₀:qg} {Ā:qi qg} {t:TA} (hg:Gl (vy (CXe P w) P w K mg base N qual scope f cd A outer s H E) x) (hm:mg x=some (.ref C)) (hC:XMk K C)
  (ha:PA (vy (CXe P w) P w K mg base N qual scope f cd A outer s H E) (e₀::Ā) t)
  (he:starEach (e₀::Ā) (envOfC qual scope s.heap.objs.size f cd)=(false,eval e₀ (envOfC qual scope s.heap.objs.size f cd))::starEach Ā (envOfC qual scope s.heap.objs.size f cd):=by rfl)
  (hplain:(backTo cpos (starEach Ā (envOfC qual scope s.heap.objs.size f cd))).any (·.1)=false:=by rfl) (hdb:(x == ("__debug__":Str))=false:=by decide):
  PS (vy (CXe P w) P w K mg base N qual scope f cd A outer s H E) (.Raise (some (.Call (.Name x np) (e₀::Ā) [] cpos)) none pos) (yqf E C t):=by
 refine .mk λa l σ k D I h=>?_;let⟨p,n,nm,q,bs,hdct,sn,sub,ab,col,dd,k0,k1,k2,k3,k5,mN,c,j,g,T⟩:=ysp I.mod.kin hC;refine wpAny_Raise_call_subT (C:=C) (nm:=nm) (q:=q) (N:=n) (bs:=bs) (bm:=p) (hdct:=hdct) (sn:=sn) (sub:=sub) (ab:=ab) (col:=col) (dd:=dd) (k0:=k0) (k1:=k1) (k2:=k2) (k3:=k3) (k5:=k5)
  F.excBase_ValueError (mN:=mN) (T.hasType F.excBase_ValueError.hasBase) (I.ok.hd rfl) (by
   show (backTo cpos (starEach (e₀::Ā) (envOfC qual scope s.heap.objs.size f cd))).any (·.1)=false;rw[he];show (false || (backTo cpos (starEach Ā (envOfC qual scope s.heap.objs.size f cd))).any (·.1))=false;rw[hplain];rfl) g (ρ I hg hm ⟨rfl,?_⟩ hdb)
 have i:=ha cpos a l σ k _ I h;have d:starEach (e₀::Ā) (vy (CXe P w) P w K mg base N qual scope f cd A outer s H E).env=(false,eval e₀ (vy (CXe P w) P w K mg base N qual scope f cd A outer s H E).env)::starEach Ā (vy (CXe P w) P w K mg base N qual scope f cd A outer s H E).env:=he;rw[d]at i⊢;refine Calls.evalArgs_plain (cN i (by rintro v s₂ ⟨z,B,b,r,u,o⟩;exact⟨rfl,by rw[<- r.length];exact u,b.bk _ _ c,j.keeps b.bk,T.keeps b.bk,λG y m=>ync b m o⟩) λZ Z y=>y)
section
variable{X:Cx}{σ:St}{H:Hp}{s:qa}{x T:x0}
abbrev Cx.pnd(X:Cx)(pn:Θ):Cx:={X with pn:=pn}
def XT(Y:Cx)(Ex:St->XK)(e:qb)(s':qa):Prop:=∃pins σ H x T C,e=.ref x/\Inv Y pins σ H s'/\Fy Y pins H x/\Fy Y pins H T/\Trd s'.heap x T C .none/\Ex σ C none H
abbrev Cx.tr(X:Cx)(pn:Θ)(Ex:St->XK):Cx:=(X.pnd pn).wish (XT (X.pnd pn) Ex)
end
variable{X:Cx}
def Ă.un(D:Ă)(i:Nat):Ă:=⟨λσ H=>D.nx (σ.set i none) H,D.rt,λσ H=>D.bk (σ.set i none) H,λσ H=>D.ct (σ.set i none) H⟩
section
variable{σ:St}{H:Hp}{Q:VK}{tr:TA}{ta:TE}{nx:Ζ}{rt:VK}{bk ct:Ζ}{ts:TS}
def ytc{sp:Sp}{dvs:Υ}{Ex:St->XK}(h:tr σ H λvs H1=>sp (vs++dvs) H1 Q (Ex σ)):ykb sp dvs Ex tr σ H Q:=h
def yag{m:Str}{sp:Sp}{dvs:Υ}{Ex:St->XK}(h:ta σ H λx H1=>∃a dx fs,x=.ref a/\H1 a=some (.ins C dx fs)/\fs.lookup m=none/\tr σ H1 λvs H2=>sp (x::(vs++dvs)) H2 Q (Ex σ)):yb2 C m sp dvs Ex ta tr σ H Q:=h
def ys9{sp:Sp}{dvs:Υ}{Ex:St->XK}(h:tr σ H λvs H1=>∀x dx,H1 x=none->H1 dx=none->dx≠x->sp (.ref x::(vs++dvs)) (upd (upd H1 dx (.own x)) x (.ins C dx [])) (λv H2=>v=.non/\Q (.ref x) H2) (Ex σ)):yqi C sp dvs Ex tr σ H Q:=h
def yrr{E:XK}{D:Ă}(h:tr σ H λvs H1=>vs.length<=sizeLine/\E (.ref C) none H1):yqf E C tr D σ H:=h
end
section
variable{κ:Type}[DecidableEq κ]
def zn(kvs:qi (κ×V))(k:κ):Ψ:=(kvs.find? λkv=>decide (kv.1=k)).map (·.2)
def ń(kvs:qi (κ×V))(k:κ)(v:V):qi (κ×V) :=
 if (kvs.any λkv=>decide (kv.1=k))=true then kvs.map (λkv=>if kv.1=k then (kv.1,v)else kv)else kvs++[(k,v)]
def Ø(kvs:qi (κ×V))(k:κ):qi (κ×V):=kvs.filter λkv=>decide (kv.1≠k)
def xt{p:κ×V}{r:qi (κ×V)}{k:κ}(e:p.1=k):zn (p::r) k=some p.2:=by simp[zn,List.find?_cons,e]
def xu{p:κ×V}{r:qi (κ×V)}{k:κ}(e:¬p.1=k):zn (p::r) k=zn r k:=by simp[zn,List.find?_cons,e]
theorem jb(k:κ):∀kvs:qi (κ×V),(kvs.any λkv=>decide (kv.1=k))=(zn kvs k).isSome
 |[]=>rfl
 |p::r=>by
  rw[List.any_cons];by_cases e:p.1=k
  .simp only[xt e,bv e,Bool.true_or,Option.isSome_some]
  .rw[xu e,bD e,Bool.false_or];exact jb k r
theorem ydq(k j:κ)(y:V):∀kvs:qi (κ×V),zn (kvs.map λkv=>if kv.1=k then (kv.1,y)else kv) j=(zn kvs j).map λx=>if j=k then y else x
 |[]=>rfl
 |p::r=>by
  have a:=ydq k j y r;rw[bU];by_cases h:p.1=k
  .rw[if_pos h];by_cases e:p.1=j
   .rw[xt (p:=(p.1,y)) e,xt e,cO,if_pos (e.symm.trans h)]
   .rw[xu (p:=(p.1,y)) e,xu e,a]
  .rw[if_neg h];by_cases e:p.1=j
   .rw[xt (p:=p) e,xt e,cO,if_neg (λz=>h (e.trans z))]
   .rw[xu (p:=p) e,xu e,a]
theorem ybf(k j:κ)(y:V):∀kvs:qi (κ×V),zn kvs k=none->zn (kvs++[(k,y)]) j=if j=k then some y else zn kvs j
 |[],_=>by
  by_cases e:k=j
  .rw[if_pos e.symm];exact xt (p:=(k,y)) e
  .rw[if_neg (λz=>e z.symm)];exact xu (p:=(k,y)) e
 |p::r,hn=>by
  rw[List.cons_append];have a:¬p.1=k:=λz=>by rw[xt z]at hn;cases hn
  rw[xu a]at hn;have b:=ybf k j y r hn;by_cases e:p.1=j
  .rw[xt e,xt e,if_neg (λz=>a (e.trans z))]
  .rw[xu e,xu e,b]
def j4(kvs:qi (κ×V))(k j:κ)(y:V):zn (ń kvs k y) j=if j=k then some y else zn kvs j:=by
 unfold ń;by_cases a:(kvs.any λc=>decide (c.1=k))=true
 .rw[if_pos a,ydq];rw[jb]at a;by_cases e:j=k
  .obtain⟨x,b⟩:=Option.isSome_iff_exists.mp a;rw[if_pos e,e,b,cO,if_pos rfl]
  .rw[if_neg e]
   cases zn kvs j with
   |none=>rfl
   |some x=>rw[cO,if_neg e]
 .rw[if_neg a];refine ybf k j y kvs ?_;rw[jb]at a
  cases q:zn kvs k with
  |none=>rfl
  |some x=>rw[q]at a;exact(a rfl).elim
def č(kvs:qi (κ×V))(k:κ)(v:V):(ń kvs k v).length<=kvs.length+1:=by
 unfold ń
 split
 .rw[bf];omega
 .rw[bq,bX,List.length_nil];omega
def Ð{kvs:qi (κ×V)}{k:κ}(v:V)(h:zn kvs k=none):ń kvs k v=kvs++[(k,v)]:=by unfold ń;rw[jb,h];exact if_neg (by decide)
def yb8.isSome_eq{o:Ψ}{u:qj qb}(r:yb8 o u):o.isSome=u.isSome:=by
 cases o with
 |none=>cases u with
  |none=>rfl
  |some _=>exact(show False from r).elim
 |some _=>cases u with
  |none=>exact(show False from r).elim
  |some _=>rfl
def KV.val{kvs:qi (κ×V)}{vs:qi (κ×qb)}(r:KV kvs vs)(k:κ):yb8 (zn kvs k) (valueAt vs k):=by
 unfold KV at r
 induction r with
 |nil=>exact True.intro
 | @cons p q ps qs h t ih =>
  let⟨c,d⟩:=h;by_cases e:p.1=k
  .have a:q.1=k:=c.symm.trans e;have b:valueAt (q::qs) k=some q.2:=by simp[valueAt,List.find?_cons,a]
   rw[xt e,b];exact d
  .have a:¬q.1=k:=λz=>e (c.trans z);have b:valueAt (q::qs) k=valueAt qs k:=by simp[valueAt,List.find?_cons,a]
   rw[xu e,b];exact ih
theorem KV.any{kvs:qi (κ×V)}{vs:qi (κ×qb)}(r:KV kvs vs)(k:κ):(kvs.any λkv=>decide (kv.1=k))=vs.any λkv=>decide (kv.1=k):=by
 unfold KV at r
 induction r with
 |nil=>rfl
 |cons h t ih=>rw[List.any_cons,List.any_cons,ih,h.1]
def KV.repl{kvs:qi (κ×V)}{vs:qi (κ×qb)}(r:KV kvs vs)(k:κ){y:V}(ry:xk y u):
  KV (kvs.map λkv=>if kv.1=k then (kv.1,y)else kv) (vs.map λkv=>if kv.1=k then (kv.1,u)else kv):=by
 unfold KV at r⊢
 induction r with
 |nil=>exact .nil
 | @cons p q ps qs h t ih =>
  rw[bU,bU];refine .cons ?_ ih;let⟨a,b⟩:=h;by_cases e:p.1=k
  .rw[if_pos e,if_pos (a.symm.trans e)];exists a,ry
  .rw[if_neg e,if_neg (λz=>e (a.trans z))];exists a,b
def KV.put{kvs:qi (κ×V)}{vs:qi (κ×qb)}(r:KV kvs vs)(k:κ){y:V}(ry:xk y u):KV (ń kvs k y) (stored vs k u):=by
 unfold ń stored;rw[r.any k];by_cases e:(vs.any λa=>decide (a.1=k))=true
 .rw[if_pos e,if_pos e];exact r.repl k ry
 .rw[if_neg e,if_neg e];exact Paired.snoc r ⟨rfl,ry⟩
def KV.drop{kvs:qi (κ×V)}{vs:qi (κ×qb)}(r:KV kvs vs)(k:κ):KV (Ø kvs k) (without vs k):=by
 unfold KV at r⊢;unfold Ø without
 induction r with
 |nil=>exact .nil
 | @cons p q ps qs h t ih =>
  let⟨c,d⟩:=h;rw[List.filter_cons,List.filter_cons];by_cases e:p.1=k
  .have a:¬decide (p.1≠k)=true:=by simp[e]
   have b:¬decide (q.1≠k)=true:=by simp[c.symm.trans e]
   rw[if_neg a,if_neg b];exact ih
  .have f:¬q.1=k:=λz=>e (c.trans z);have a:decide (p.1≠k)=true:=by simp[e]
   have b:decide (q.1≠k)=true:=by simp[f]
   rw[if_pos a,if_pos b];exact .cons ⟨c,d⟩ ih
theorem KV.length{kvs:qi (κ×V)}{vs:qi (κ×qb)}(r:KV kvs vs):kvs.length=vs.length:=Paired.length r
def yln(kvs:qi (κ×V))(k:κ):(Ø kvs k).length<=kvs.length:=List.length_filter_le _ _
end
def ygv{w:qd}{k:Key}(r:xk (kV k) u):(wk P w).is k u=true:=by
 cases k with
 |inl i=>let⟨t,e⟩:=(show ∃t,u=Value.int i t from r);subst e;exact yct P w i t
 |inr x=>let⟨t,e⟩:=(show ∃t,u=Value.str x t from r);subst e;exact ycc P w x t
theorem ybg{w:qd}:∀{ks:qi Key}{us:Ο},wu (ks.map kV) us->ItemsAre (wk P w) ks us
 |[],_,r=>by rw[List.map_nil]at r;cases r;exact .nil
 |k::ks,_,r=>by
  rw[bU]at r
  cases r with
  |cons h t=>exact .cons (ygv h) (ybg t)
abbrev KT(H:Hp):qi (qi Key×V)->qi (qi Key×x0×qb)->Prop:=Paired λp q=>p.1=q.1/\H q.2.1=some (.tup (p.1.map kV))/\xk p.2 q.2.2
def KT.val{H:Hp}{kvs:qi (qi Key×V)}{xs:qi (qi Key×x0×qb)}(r:KT H kvs xs)(k:qi Key):yb8 (zn kvs k) ((atKey xs k).map (·.2)):=by
 induction r with
 |nil=>exact True.intro
 | @cons p q ps qs h t ih =>
  let⟨c,_,d⟩:=h;by_cases e:p.1=k
  .have a:q.1=k:=c.symm.trans e;have b:atKey (q::qs) k=some q.2:=by simp[atKey,List.find?_cons,a]
   rw[xt e,b];exact d
  .have a:¬q.1=k:=λz=>e (c.trans z);have b:atKey (q::qs) k=atKey qs k:=by simp[atKey,List.find?_cons,a]
   rw[xu e,b];exact ih
def KT.repl{H:Hp}{kvs:qi (qi Key×V)}{xs:qi (qi Key×x0×qb)}(r:KT H kvs xs)(k:qi Key){y:V}(ry:xk y u):
  KT H (kvs.map λkv=>if kv.1=k then (kv.1,y)else kv) (xs.map (putAt k u)):=by
 induction r with
 |nil=>exact .nil
 | @cons p q ps qs h t ih =>
  rw[bU,bU];refine .cons ?_ ih;let⟨a,b,c⟩:=h;unfold putAt;by_cases e:p.1=k
  .rw[if_pos e,if_pos (a.symm.trans e)];exact⟨a,b,ry⟩
  .rw[if_neg e,if_neg (λz=>e (a.trans z))];exact⟨a,b,c⟩
def KT.put{H:Hp}{kvs:qi (qi Key×V)}{xs:qi (qi Key×x0×qb)}(r:KT H kvs xs)(k:qi Key){b:x0}{y:V}(hb:H b=some (.tup (k.map kV)))(ry:xk y u):
  KT H (ń kvs k y) (storedH xs k b u):=by
 have e:(kvs.any λa=>decide (a.1=k))=(atKey xs k).isSome:=by
  rw[jb,(r.val k).isSome_eq,Option.isSome_map]
 unfold ń storedH;rw[e];by_cases q:(atKey xs k).isSome=true
 .rw[if_pos q,if_pos q];exact r.repl k ry
 .rw[if_neg q,if_neg q];exact Paired.snoc r ⟨rfl,hb,ry⟩
def KT.keeps{H H':Hp}{kvs:qi (qi Key×V)}{xs:qi (qi Key×x0×qb)}(r:KT H kvs xs)(ht:∀b ys,H b=some (.tup ys)->H' b=some (.tup ys)):KT H' kvs xs :=
 Paired.mapP r λZ Z z=>⟨z.1,ht _ _ z.2.1,z.2.2⟩
section
variable{w:qd}{H:Hp}{h:qf}
def vbt{u:HO}(ok:HOk P w H h)(e:Rd H a u):w8 P w H h a u:=e.ok ok
def ydk{kvs:Κ}(ok:HOk P w H h)(e:Rd H a (.dK kvs)):kvs.length<=sizeLine/\(a == sysModules)=false/\∃vs,KV kvs vs/\h.DictOf (wk P w) a vs :=
 show w8 P w H h a (.dK kvs)from vbt ok e
def vb0{kvs:Κ}(ok:HOk P w H h)(e:H a=some (.dK kvs)):kvs.length<=sizeLine/\(a == sysModules)=false/\∃vs,KV kvs vs/\h.DictOf (wk P w) a vs:=ydk ok (.inl e)
def ybs{ks:qi Key}(ok:HOk P w H h)(e:H a=some (.tup (ks.map kV))):(tupleKind (wk P w)).is h ks a:=by let⟨_,b,r,o,d,f,n,c⟩:=(show w8 P w H h a (.tup (ks.map kV))from ok a _ e);exists o,b.toArray,n,d,f,c,by simpa using ybg r
def ygz{kvs:qi (qi Key×V)}(ok:HOk P w H h)(e:Rd H a (.dT kvs)):kvs.length<=sizeLine/\(a == sysModules)=false/\
  ∃xs,KT H kvs xs/\h.DictOfH (tupleKind (wk P w)) a xs:=by
 let⟨z,y,xs,r,o,d,j,i,k,f,n,g⟩:=(show w8 P w H h a (.dT kvs)from vbt ok e);exists z,y,xs,r,o,d,j,i,k,f,n,λx b=>?_,g
 have c:∀{l:qi (qi Key×V)}{m:qi (qi Key×x0×qb)},KT H l m->∀x∈m,(tupleKind (wk P w)).is h x.1 x.2.1:=by
  intro l m q
  induction q with
  |nil=>intro x b;exact nomatch b
  | @cons p q ps qs hq t ih =>
   intro x b;rcases bC.mp b with e|b
   .subst e;exact ybs ok (by rw[<- hq.1];exact hq.2.1)
   .exact ih x b
 exact c r x b
def vd1{kvs:qi (qi Key×V)}(ok:HOk P w H h)(e:H a=some (.dT kvs)):kvs.length<=sizeLine/\(a == sysModules)=false/\
  ∃xs,KT H kvs xs/\h.DictOfH (tupleKind (wk P w)) a xs:=ygz ok (.inl e)
end
def Ĳ(H:Hp)(a:x0)(y:V)(r:Ψ):Prop :=
 (∃kvs k,Rd H a (.dK kvs)/\y=kV k/\r=zn kvs k)\/∃kvs k b,Rd H a (.dT kvs)/\y=.ref b/\H b=some (.tup (k.map kV))/\r=zn kvs k
def ylb(H:Hp)(a:x0)(y v:V)(H':Hp):Prop :=
 (∃kvs k,H a=some (.dK kvs)/\y=kV k/\kvs.length<sizeLine/\H'=upd H a (.dK (ń kvs k v))) \/
 ∃kvs k b,H a=some (.dT kvs)/\y=.ref b/\H b=some (.tup (k.map kV))/\kvs.length<sizeLine/\H'=upd H a (.dT (ń kvs k v))
theorem Ĳ.k{H:Hp}{kvs:Κ}{k:Key}(e:H a=some (.dK kvs)):Ĳ H a (kV k) (zn kvs k):=.inl ⟨kvs,k,.inl e,rfl,rfl⟩
def Ĳ.t{H:Hp}{b:x0}{kvs:qi (qi Key×V)}{k:qi Key}(e:H a=some (.dT kvs))(eb:H b=some (.tup (k.map kV))):Ĳ H a (.ref b) (zn kvs k):=.inr ⟨kvs,k,b,.inl e,rfl,eb,rfl⟩
theorem ylb.k{H:Hp}{kvs:Κ}{k:Key}{v:V}(e:H a=some (.dK kvs))(hl:kvs.length<sizeLine):ylb H a (kV k) v (upd H a (.dK (ń kvs k v))):=.inl ⟨kvs,k,e,rfl,hl,rfl⟩
def ylb.t{H:Hp}{b:x0}{kvs:qi (qi Key×V)}{k:qi Key}{v:V}(e:H a=some (.dT kvs))(eb:H b=some (.tup (k.map kV)))(hl:kvs.length<sizeLine):
  ylb H a (.ref b) v (upd H a (.dT (ń kvs k v))):=.inr ⟨kvs,k,b,e,rfl,eb,hl,rfl⟩
section
variable{σ:St}{H:Hp}{s:qa}{y v:V}{r:qb}{o:Ψ}{A:qe}
def Inv.big(I:Inv X pins σ H s):sysModules<s.heap.objs.size:=by have h:mainGlobals<s.heap.objs.size:=(I.mod.glob.keeps I.bk).lt;exact Nat.lt_trans (by decide) h
def yha(hu:A.units+1<cLine)(I:Inv X pins σ H s)(g:Ĳ H a y (some v))(ry:xk y u)(h:∀w' s',Inv X pins σ H s'->xk v w'->Q w' s'):
  wpAny (model X.prog X.w) A (getItem (.ref a) u) Q E s:=by
 rcases g with⟨f,k,e,n,l⟩|⟨f,k,b,e,n,t,l⟩
 .subst n;let⟨z,x,q,c,j⟩:=ydk I.hok e;let⟨w',i,d⟩:=yb8.some_of (v:=v) (o:=valueAt q k) (by rw[l];exact c.val k);exact wpAny_getItem_of (ygv ry) j.mapOf i (h w' _ (I.tok _) d)
 .subst n;cases (show u=Value.ref b from ry);let⟨z,x,r,c,j⟩:=ygz I.hok e;let⟨w',i,d⟩:=yb8.some_of (v:=v) (o:=(atKey r k).map (·.2)) (by rw[l];exact c.val k);let⟨p,B,m⟩:=cD.mp i;refine wpAny_getItem_heap (tupleKind_room_in1 hu) (ybs I.hok t) j B ?_;rw[m];exact h w' _ (I.tok _) d
def vf0(hu:A.units+1<cLine)(I:Inv X pins σ H s)(g:Ĳ H a y o)(ry:xk y u)(h:∀s',Inv X pins σ H s'->Q (.bool o.isSome) s'):
  wpAny (model X.prog X.w) A (compareOp .In u (.ref a)) Q E s:=by
 rcases g with⟨d,k,e,j,l⟩|⟨d,k,b,e,j,m,l⟩
 .subst j;let⟨z,f,n,c,i⟩:=ydk I.hok e;refine wpAny_in_of (ygv ry) f i.mapOf ?_;rw[<- (c.val k).isSome_eq,<- l];exact h _ (I.tok _)
 .subst j;cases (show u=Value.ref b from ry);let⟨z,f,p,c,i⟩:=ygz I.hok e;refine wpAny_in_heap (tupleKind_room_in1 hu) (ybs I.hok m) f i ?_;have q:=(c.val k).isSome_eq;rw[Option.isSome_map]at q;rw[<- q,<- l];exact h _ (I.tok _)
def yq3(hu:A.units+1<cLine)(I:Inv X pins σ H s)(g:Ĳ H a y o)(ry:xk y u)(h:∀s',Inv X pins σ H s'->Q (.bool (!o.isSome)) s'):
  wpAny (model X.prog X.w) A (compareOp .NotIn u (.ref a)) Q E s:=by
 rcases g with⟨d,k,e,j,l⟩|⟨d,k,b,e,j,m,l⟩
 .subst j;let⟨z,f,n,c,i⟩:=ydk I.hok e;refine wpAny_notIn_of (ygv ry) f i.mapOf ?_;rw[<- (c.val k).isSome_eq,<- l];exact h _ (I.tok _)
 .subst j;cases (show u=Value.ref b from ry);let⟨z,f,p,c,i⟩:=ygz I.hok e;refine wpAny_notIn_heap (tupleKind_room_in1 hu) (ybs I.hok m) f i ?_;have q:=(c.val k).isSome_eq;rw[Option.isSome_map]at q;rw[<- q,<- l];exact h _ (I.tok _)
def yc9{t':Nat}{ob:HO}(I:Inv X pins σ H s)(mu:Mut (H a))(hs:Heap.SameBut a s.heap h')(he:∃q,h'.get? a=some q)(new:w8 X.prog X.w (upd H a ob) h' a ob):
  Inv X pins σ (upd H a ob) {s with heap:=h',toks:=t'} :=
 I.write (x:=a) (e:=a) mu (.inl rfl) (λb q c z=>(hs.2 b c).trans z) he new
def yn6{w:qd}{H':Hp}{kvs:Κ}{vs:qi (Key×qb)}(z:kvs.length<=sizeLine)(hd:(a == sysModules)=false)(rel:KV kvs vs)(dd:h'.DictOf (wk P w) a vs):
  w8 P w H' h' a (.dK kvs):=⟨z,hd,vs,rel,dd⟩
def yio{H':Hp}{Q:Unit->qa->Prop}(hu:A.units+1<cLine)(I:Inv X pins σ H s)(g:ylb H a y v H')(ry:xk y u)(rv:xk v r)(h:∀s',Inv X pins σ H' s'->Q () s'):
  wpAny (model X.prog X.w) A (setItem (.ref a) u r) Q E s:=by
 rcases g with⟨d,k,e,p,l,t⟩|⟨d,k,b,e,p,F,l,t⟩
 .subst p t;let⟨z,o,G,f,m⟩:=vb0 I.hok e;have x:G.length<=sizeLine:=by rw[<- f.length];exact z
  have n:(ń d k v).length<=sizeLine:=by have:=č d k v;omega
  refine wpAny_setItem_pairs (hsz:=x) (ygv ry) m λC i B=>h _ ?_;have L:∃q,C.get? a=some q:=let ⟨q,_,_,j,_⟩:=i;⟨q,j⟩;exact yc9 I (by rw[e];exact True.intro) B L (yn6 n o (f.put k rv) i)
 .subst p t;cases (show u=Value.ref b from ry);let⟨z,o,M,f,m⟩:=vd1 I.hok e;have x:M.length<=sizeLine:=by rw[<- Paired.length f];exact z
  have n:(ń d k v).length<=sizeLine:=by have:=č d k v;omega
  refine wpAny_setItem_heap (hsz:=x) (tupleKind_room_in1 hu) (ybs I.hok F) m λC i B=>h _ ?_;let⟨q,J,K,j,N,P,O,_,R⟩:=i;refine yc9 I (by rw[e];exact True.intro) B ⟨q,j⟩ ⟨n,o,_,(f.put k F rv).keeps λc S D=>?_,q,J,K,j,N,P,O,R⟩
  rw[yk (wz D e (λz=>nomatch z))]
  exact D
end
section
variable{σ:St}{H:Hp}{s:qa}{kvs:Κ}{k:Key}{A:qe}
def vc9{v:V}{more:Ο}(I:Inv X pins σ H s)(e:H a=some (.dK kvs))(ry:xk (kV k) u)(l:zn kvs k=some v)(hm:more=[]\/∃x,more=[x])
  (h:∀w' s',Inv X pins σ (upd H a (.dK (Ø kvs k))) s'->xk v w'->Q w' s'):wpAny (model X.prog X.w) A (call (.builtin "dict.pop") (.ref a::u::more)) Q E s:=by
 let⟨z,n,g,b,f⟩:=vb0 I.hok e;let⟨w',m,d⟩:=yb8.some_of (v:=v) (o:=valueAt g k) (by rw[<- l];exact b.val k)
 have r:(keyPart u).isSome=true:=by
  cases k with
  |inl i=>let⟨t,q⟩:=(show ∃t,u=Value.int i t from ry);subst q;rfl
  |inr x=>let⟨t,q⟩:=(show ∃t,u=Value.str x t from ry);subst q;rfl
 have j:argsOk "dict.pop" ⟨.ref a::u::more,[]⟩:=by
  rcases hm with q|⟨x,q⟩
  .subst q;exact PySem.F.args_dict_pop_2 _ _
  .subst q;exact PySem.F.args_dict_pop_3 _ _ _
 refine call_meetsIn PySem.F.slot_dict_pop f.typeIs PySem.F.entry_dict_pop j (meets_dict_pop_there (wk X.prog X.w) a (ygv ry) more hm r)
  ⟨g,w',f,by rw[<- b.length];exact z,m,λp c B=>h w' _ ?_ d⟩
 have y:∃q,p.get? a=some q:=let ⟨q,_,_,hq,_⟩:=c;⟨q,hq⟩;exact yc9 I (by rw[e];exact True.intro) B y (yn6 (bQ (yln kvs k) z) n (b.drop k) c)
def vdb(I:Inv X pins σ H s)(e:Rd H a (.dK kvs))(h:∀t s',Inv X pins σ H s'->Q (.int kvs.length t) s'):wpAny (model X.prog X.w) A (call (.builtin "len") [.ref a]) Q E s:=by let⟨z,d,f,b,c⟩:=ydk I.hok e;refine call_len_dict d c (by rw[<- b.length];rw[sizeLine_eq]at z;omega) ?_;rw[<- b.length];exact h _ _ (I.tok _)
end
def vfv(i:qg):Prop:=∀ov iv,subscripted i false ov iv=operate [ov,iv] (getItem ov iv)
def ysr{prog:qh}{w:qd}{A:qe}{s:qa}{env:Env}{value slice:qg}{pos:Pos}{T id:String} 
  (hl:typeLookup (.type T) "__getitem__"=pure (some (.builtin id))) (hs:vfv slice)
  (h:wpAny (model prog w) A (eval value env) (λo s₁=>wpAny (model prog w) A (eval slice env) (λi s₂=>s₂.TypeIs o T/\wpAny (model prog w) A (getItem o i) Q E s₂) E s₁) E s):
  wpAny (model prog w) A (eval (.Subscript value slice pos) env) Q E s:=by
 refine Subscript_ (cN h (λo s₁ h₁=>cN h₁ (λi s₂ h₂=>?_) λZ Z x=>x) λZ Z x=>x);let⟨b,h₂⟩:=h₂;unfold subscriptTail;refine bg ?_;rw[getitemInPython_of_ne b.not_modules];refine bg (wpAny_specialOf b hl ?_)
 have a:wpAny (model prog w) A (subscripted slice false o i) (λr s₃=>wpAny (model prog w) A (letTemporaryGo value o r >>=λZ=>pure r) Q E s₃) E s₂:=by
  rw[hs o i];exact wpAny_operating (cN h₂ (λr s₃ h₃=>bg (wpAny_letTemporaryGo (bp h₃))) λZ Z x=>x)
 first
  |exact bp (bg a)
  |exact bg (bp (bg a))
  |exact bg a
def yc2{σ:St}{H:Hp}{s:qa}{y:V}{o:Ψ}(I:Inv X pins σ H s)(g:Ĳ H a y o):s.TypeIs (.ref a) "dict":=by
 rcases g with⟨c,k,e,_,_⟩|⟨c,k,b,e,_,_,_⟩
 .obtain⟨_,_,f,_,d⟩:=ydk I.hok e;exact d.typeIs
 .obtain⟨_,_,h,_,d⟩:=ygz I.hok e;exact d.typeIs
def vca(td ty:TE):TE:=λσ H Q=>td σ H λx H1=>ty σ H1 λy H2=>∃a v,x=.ref a/\Ĳ H2 a y (some v)/\Q v H2
def vfs(ty td:TE):TE:=λσ H Q=>ty σ H λy H1=>td σ H1 λx H2=>∃a o,x=.ref a/\Ĳ H2 a y o/\Q (.bl o.isSome) H2
def yjp(ty td:TE):TE:=λσ H Q=>ty σ H λy H1=>td σ H1 λx H2=>∃a o,x=.ref a/\Ĳ H2 a y o/\Q (.bl (!o.isSome)) H2
def vb9(td ty tv:TE):TS:=λD σ H=>tv σ H λv H1=>td σ H1 λx H2=>ty σ H2 λy H3=>∃a H4,x=.ref a/\ylb H3 a y v H4/\D.nx σ H4
section
variable{o i value:qg}{pos pos' tpos:Pos}{td ty tv:TE}
def uc(hu:X.A.units+1<cLine)(ho:PE X o td)(hi:PE X i ty)(hs:vfv i):PE X (.Subscript o i pos) (vca td ty):=by refine .mk λb s σ H Q I h=>?_;refine ysr PySem.F.slot_dict_getitem.lookup hs (thn (ho b s σ H _ I h) λu l ⟨x,f,n,m,e⟩=>thn (hi b l σ f _ n e) λB z h'=>?_);let⟨y,j,d,q,a,v,r,g,p⟩:=h';subst r;obtain rfl:u=Value.ref a:=m;exists yc2 d g,yha hu d g q λt w k c=>⟨v,j,k,c,p⟩
def vbg(hu:X.A.units+1<cLine)(hi:PE X i ty)(ho:PE X o td):PC X .In i o (vfs ty td):=by intro b s σ H Q I h;refine thn (hi b s σ H _ I h) λw j ⟨y,d,l,p,c⟩=>thn (ho b j σ d _ l c) λu v h'=>?_;let⟨x,e,q,k,a,n,r,g,m⟩:=h';subst r;obtain rfl:u=Value.ref a:=k;exact vf0 hu q g p λt f=>⟨.bl n.isSome,e,f,rfl,m⟩
def Ê(hu:X.A.units+1<cLine)(hi:PE X i ty)(ho:PE X o td):PC X .NotIn i o (yjp ty td):=by intro b s σ H Q I h;refine thn (hi b s σ H _ I h) λw j ⟨y,d,l,p,c⟩=>thn (ho b j σ d _ l c) λu v h'=>?_;let⟨x,e,q,k,a,n,r,g,m⟩:=h';subst r;obtain rfl:u=Value.ref a:=k;exact yq3 hu q g p λt f=>⟨.bl (!n.isSome),e,f,rfl,m⟩
def yaf(hu:X.A.units+1<cLine)(ho:PE X o td)(hi:PE X i ty)(hv:PE X value tv)(hs:swapsWith value (some (.Subscript o i pos')) pos.line X.env=pure false):
  PS X (.Assign [.Subscript o i pos'] value pos) (vb9 td ty tv):=by refine .mk λb s σ H D I h=>?_;refine wpAny_Assign_Subscript (thn (hv b s σ H _ I h) λr n ⟨v,e,j,C,z⟩=>thn (ho b n σ e _ j z) λu t ⟨x,B,p,f,k⟩=>thn (hi b t σ B _ p k) λF E h'=>?_) hs;let⟨y,G,q,m,a,d,l,g,w⟩:=h';subst l;obtain rfl:u=Value.ref a:=f;exact yio hu q g m C λJ c=>⟨σ,d,c,w⟩
end
def yni{w:qd}{H:Hp}(h:qf)(hb:sysModules<h.objs.size):w8 P w H (h.push { cls:=.type "dict",data:=.dict #[]}) h.objs.size (.dK []) :=
 ⟨bK _,cS.mpr (Ne.symm (bR hb)),[],.nil,Heap.DictOf.new h⟩
def yl9{w:qd}{H:Hp}(h:qf)(hb:sysModules<h.objs.size):w8 P w H (h.push { cls:=.type "dict",data:=.dict #[]}) h.objs.size (.dT []) :=
 ⟨bK _,cS.mpr (Ne.symm (bR hb)),[],.nil,_,#[],0,bA _ rfl,⟨rfl,rfl,rfl⟩,rfl,rfl,List.nodup_nil⟩
def yn4:TE:=λZ H Q=>∀p,H p=none->Q (.ref p) (upd H p (.dK []))
def yn2:TE:=λZ H Q=>∀p,H p=none->Q (.ref p) (upd H p (.dT []))
section
variable{pos:Pos}
def ydx:PE X (.Dict [] [] pos) yn4:=.mk λb s σ H Q I h =>
 wpAny_Dict_empty ⟨.ref s.heap.objs.size,_,I.laid (a:=s.heap.objs.size) (o:=.dK []) (t':=s.toks) (λZ Z q=>bj _ q) (bn _) (yni s.heap I.big),rfl,h _ (I.hok.fresh (bn _))⟩
def yec:PE X (.Dict [] [] pos) yn2:=.mk λb s σ H Q I h =>
 wpAny_Dict_empty ⟨.ref s.heap.objs.size,_,I.laid (a:=s.heap.objs.size) (o:=.dT []) (t':=s.toks) (λZ Z q=>bj _ q) (bn _) (yl9 s.heap I.big),rfl,h _ (I.hok.fresh (bn _))⟩
end
structure M1(X:Cx)(o:qg)(m:Str)(apos:Pos)(e:qg)(cpos:Pos):Prop where
 base:attributeBase o m X.env (eval o X.env)=eval o X.env
 few:((backTo cpos (starEach [e] X.env)).all (λx=>!x.1) && (backToKw cpos (keywordEach [] X.env)).all (λx=>x.1.isSome)
  && decide (([e]:qi qg).length+([]:qi Keyword).length+(if ([]:qi Keyword).isEmpty then 0 else 1)<30))=true
 line:(apos.endLine == cpos.line)=true
 trees:backTo cpos (starEach [e] X.env)=[(false,eval e X.env)]
structure M2(X:Cx)(o:qg)(m:Str)(apos:Pos)(e f:qg)(cpos:Pos):Prop where
 base:attributeBase o m X.env (eval o X.env)=eval o X.env
 few:((backTo cpos (starEach [e,f] X.env)).all (λx=>!x.1) && (backToKw cpos (keywordEach [] X.env)).all (λx=>x.1.isSome)
  && decide (([e,f]:qi qg).length+([]:qi Keyword).length+(if ([]:qi Keyword).isEmpty then 0 else 1)<30))=true
 line:(apos.endLine == cpos.line)=true
 trees:backTo cpos (starEach [e,f] X.env)=[(false,eval e X.env),(false,eval f X.env)]
def IsD(H:Hp)(a:x0):Prop:=(∃kvs,Rd H a (.dK kvs))\/∃kvs,Rd H a (.dT kvs)
def va3{σ:St}{H:Hp}{s:qa}(I:Inv X pins σ H s)(d:IsD H a):
  s.TypeIs (.ref a) "dict"/\(∀b,Value.ref a=.ref b->∃ob,s.heap.get? b=some ob/\ob.dict=none)/\(a == sysModules)=false:=by
 rcases d with⟨f,e⟩|⟨f,e⟩
 .obtain⟨_,i,j,_,c⟩:=ydk I.hok e;exists c.typeIs,λb q=>?_,i;cases q;let⟨ob,_,_,g,h,_⟩:=c;exact⟨ob,g,h.2.1⟩
 .obtain⟨_,i,k,_,c⟩:=ygz I.hok e;exists c.typeIs,λb q=>?_,i;cases q;let⟨ob,_,_,g,h,_⟩:=c;exact⟨ob,g,h.2.1⟩
def yof(td ty:TE):TE:=λσ H Q=>td σ H λx H1=>∃a,x=.ref a/\IsD H1 a/\ty σ H1 λy H2=>∃kvs k v,H2 a=some (.dK kvs)/\y=kV k/\zn kvs k=some v/\Q v (upd H2 a (.dK (Ø kvs k)))
section
variable{o f:qg}{apos cpos:Pos}{td ty tx:TE}
def ydy(ho:PE X o td)(he:PE X e ty)(m:M1 X o "pop" apos e cpos):PE X (.Call (.Attribute o "pop" apos) [e] [] cpos) (yof td ty):=by refine .mk λb s σ H Q I h=>?_;refine wpAny_Call_method m.base m.few m.line PySem.F.plainAttrs_dict PySem.F.slot_dict_pop PySem.F.type_dict_pop (thn (ho b s σ H _ I h) λu w h'=>?_);let⟨x,g,f,j,a,p,d,C⟩:=h';subst p;obtain rfl:u=Value.ref a:=j;let⟨q,D,_⟩:=va3 f d;exists q,D,?_;rw[m.trees];refine Calls.callWith_builtin rfl (Calls.evalArgs_plain (Calls.spliced_cons (thn (he b w σ g _ f C) λJ K ⟨y,L,A,t,r,k,v,i,z,l,n⟩=>Calls.spliced_nil ?_)));subst z;exact vc9 A i t l (.inl rfl) λE G B c=>⟨v,_,B,c,n⟩
end
@[irreducible] def QE(X:Cx)(e:qg)(t:TE):Prop:=PE X e t
@[irreducible] def QSs(X:Cx)(st:qi qc)(t:TS):Prop:=PSs X st t
@[irreducible] def QS(X:Cx)(st:qc)(t:TS):Prop:=PS X st t
section
variable{te:TE}{pos:Pos}{ts us:TS}{st:qc}{Ā:qi qc}
def yh{R:TS->Prop}(h1:PS X st ts)(h2:∃us,PSs X Ā us/\R (vez ts us)):∃t,PSs X (st::Ā) t/\R t:=let ⟨_,a,b⟩:=h2;⟨_,yd h1 a,b⟩
end
theorem ſ:∀{bs:qi Bool}{us:Ο},wu (bs.map V.bl) us->us=bs.map Value.bool
 |[],_,.nil=>rfl
 |b::r,_,.cons a t=>by rw[show _=Value.bool b from a,ſ t];rfl
def yig(bs:qi Bool):((List.range bs.length).all λi=>(bs[i]?).getD true)=bs.all id:=by
 rw[Bool.eq_iff_iff,List.all_eq_true,List.all_eq_true]
 constructor
 .intro h b c;let⟨i,a,rfl⟩:=List.getElem_of_mem c;have:=h i (cA.mpr a);rw[bi a]at this;exact this
 .intro h i a;have a:=cA.mp a;rw[bi a];exact h _ (ce a)
def j5(hc:X.calm=true):zh X (.builtin "all") (λxs H Q=>∃p bs,xs=[.ref p]/\SqL X.K H p (List.map V.bl bs)/\Q (.bl (bs.all id)) H):=by
 intro g s σ H xs C Q I r h;let⟨p,bs,rfl,j,q⟩:=h;let⟨u,rfl,l⟩:=γ r;cases l;let⟨o,k,w,E⟩:=I.list j;obtain rfl:=ſ k;have c:=w.isList;have f:p<s.heap.objs.size:=by let⟨_,e,_⟩:=c;exact bx e
 refine call_all_walk (wpAny_pyIter_list c ?_)
 refine⟨s.heap.objs.size,[s.heap.objs.size,p],[s.heap.objs.size],(bs.map Value.bool).toArray.size,_,_,λi=>(bs[i]?).getD true,rfl,Walks.list (A:=X.A.in1) (show X.A.handled=none from I.ok.hd hc) _ p (bR f) (bs.map Value.bool).toArray,
  ⟨⟨_,bA _ rfl,rfl,rfl⟩,c.push _⟩,λi v z y D a d=>?_,λB n m=>?_⟩
 .have a:(bs.map Value.bool)[i]?=some v:=by simpa using a
  rw[bo]at a
  cases e:bs[i]? with
  |none=>rw[e]at a;cases a
  |some b =>
   dsimp only at d;rw[e]at a d;cases a;exact cE d
 .have e:((List.range (bs.map Value.bool).toArray.size).all λi=>(bs[i]?).getD true)=bs.all id:=by
   rw[bz,bf];exact yig bs
  rw[e];exists .bl (bs.all id),H,I.kept (t':=n) λb x e=>m b x (λt=>?_) (bj _ e),rfl,q;rw[bF.mp t]at e;exact cQ _ (bx e)
set_option tactic.hygienic true in
theorem zq{env:Env}:∀{names:qi (Str×NameKind)}{x:Str}{k:NameKind},
  (names.map λ(n,k)=>if (k == NameKind.free && env.scope.kind == .function && env.kindOf n == some .cell)then (n,NameKind.cell)else (n,k)).lookup x=some k->∃k0,(x,k0)∈names/\(k=k0\/k0=.free)
 |[],_,_,h=>by simp at h
 |(n,k1)::r,x,k,h=>by
  rw[bU]at h;by_cases hx:x=n
  .subst hx;exists k1,.head _,?_;dsimp only at h
   split at h
   .rename_i hc
    simp only[bW,beq_iff_eq]at hc;exact .inr hc.1.1
   .simp[List.lookup]at h;exact .inl h.symm
  .have:(x == n)=false:=by simpa using hx
   have a:(r.map λ(n,k)=>if (k == NameKind.free && env.scope.kind == .function && env.kindOf n == some .cell)then (n,NameKind.cell)else (n,k)).lookup x=some k:=by
    dsimp only at h
    split at h<;>simpa[List.lookup,this]using h
   let⟨k0,m,q⟩:=zq a;exists k0,.tail _ m,q
def ñ(ys:Τ)(env:Env):qi (Str×x0):=ys.map λy=>(y,(env.cells.lookup y).getD 0)
theorem yeb{env:Env}:∀{ys:Τ}{y:Str}{c:x0},(ñ ys env).lookup y=some c->y∈ys/\c=(env.cells.lookup y).getD 0
 |[],_,_,h=>by simp[ñ]at h
 |z::r,y,c,h=>by
  by_cases hy:y=z
  .subst hy;simp[ñ,List.lookup]at h;exists .head _,h.symm
  .have b:(y == z)=false:=by simpa using hy
   have a:(ñ r env).lookup y=some c:=by simpa[ñ,List.lookup,b]using h
   let⟨m,e⟩:=yeb a;exists .tail _ m,e
theorem Ż{env:Env}:∀{ys:Τ}{y:Str},y∈ys->(ñ ys env).lookup y=some ((env.cells.lookup y).getD 0)
 |z::r,y,h=>by
  by_cases hy:y=z
  .subst hy;simp[ñ,List.lookup]
  .have b:(y == z)=false:=by simpa using hy
   have a:y∈r:=by
    rcases bC.mp h with q|q
    .exact absurd q hy
    .exact q
   have:=Ż (env:=env) a;simpa[ñ,List.lookup,b]using this
abbrev Cx.compF(X:Cx)(scope:Scope)(ys:Τ)(C:x0)(x:Str)(s2:qa)(H2:Hp)(fp:Χ):Cx :=
 {X with N:=x::ys,s₀:=s2,H₀:=H2,env:=compEnvC scope (ñ ys X.env) C X.env,outer:=X.stack,ex:=fp,fn:=λZ=>false,pn:=[],xe:=λZ Z=>False}
def zb(J:It)(te:TE)(fr:St)(D:x0)(R:Hp->Prop)(H1:Hp):Prop:=∃W:Nat->Nat->Hp->Prop,(∃m,W 0 m (upd H1 D (.lst [])))/\
 ∀i m H2,W i m H2->(J.stop i H2/\R H2)\/(J.go i H2/\∀x H3,J.yld i H2 x H3->te (some x::fr) H3 λy H4=>∃ys,H4 D=some (.lst ys)/\ys.length<sizeLine/\∃m',m'<m/\W (i+1) m' (upd H4 D (.lst (ys++[y]))))
def ud(js:qi Nat)(σ:St):St:=js.map λj=>(σ[j]?).getD none
def ykh(wi:TI)(te:TE)(js:qi Nat):TE:=λσ H Q=>wi σ H λJ H1=>∀D,H1 D=none->zb J te (ud js σ) D (λH2=>Q (.ref D) H2) H1
section
variable{iter elt:qg}{x:Str}{px pos:Pos}{te:TE}{wi:TI}{σ:St}{ys:Τ}{js:qi Nat}
def yr8{H:Hp}{Q:VK}(h:wi σ H λJ H1=>∀D,H1 D=none->zb J te (ud js σ) D (λH2=>Q (.ref D) H2) H1):ykh wi te js σ H Q:=h
def j3{K:xr}{D:x0}{xs:Υ}{fr:St}{R:Hp->Prop}{H1:Hp}(Pv:Nat->Hp->Prop)(h0:Pv 0 (upd H1 D (.lst [])))(hl:∀i H,i<=xs.length->Pv i H->SqL K H a xs)
  (hs:∀i x H,xs[i]?=some x->i<xs.length->Pv i H->te (some x::fr) H λy H4=>∃ys,H4 D=some (.lst ys)/\ys.length<sizeLine/\∃m',m'<xs.length-i/\cW xs.length Pv (i+1) m' (upd H4 D (.lst (ys++[y]))))
  (hd:∀H,Pv xs.length H->R H):zb (Itl K a) te fr D R H1:=by
 exists cW xs.length Pv,⟨xs.length,by simp,bK _,h0⟩,?_;rintro i m H ⟨rfl,b,p⟩;have q:=hl i H b p;by_cases hlt:i<xs.length
 .refine .inr ⟨⟨xs,xs[i],q,by simp[hlt]⟩,λx c y=>?_⟩;let⟨e,y⟩:=y;subst e;exact hs i x _ (y xs q) hlt p
 .have e:i=xs.length:=by omega
  subst e;exact .inl ⟨⟨xs,q,bn _⟩,hd H p⟩
def ycw{lo:Int}{n:Nat}{D:x0}{fr:St}{R:Hp->Prop}{H1:Hp}(Pv:Nat->Hp->Prop)(h0:Pv 0 (upd H1 D (.lst [])))
  (hs:∀i H,i<n->Pv i H->te (some (.int (lo+i))::fr) H λy H4=>∃ys,H4 D=some (.lst ys)/\ys.length<sizeLine/\∃m',m'<n-i/\cW n Pv (i+1) m' (upd H4 D (.lst (ys++[y]))))
  (hd:∀H,Pv n H->R H):zb (Itr lo n) te fr D R H1:=by
 exists cW n Pv,⟨n,by simp,bK _,h0⟩,?_;rintro i m H ⟨rfl,a,p⟩;by_cases hlt:i<n
 .refine .inr ⟨hlt,λx b y=>?_⟩;let⟨e,y⟩:=y;subst e y;exact hs i _ hlt p
 .have e:i=n:=by omega
  subst e;exact .inl ⟨bn _,hd H p⟩
end
end L2
namespace L2
def yt{α:Type}{P:α->Prop}:∀y∈([]:qi α),P y:=λZ h=>nomatch h
def all_cons{α:Type}{P:α->Prop}{y:α}{r:qi α}(h:P y)(t:∀z∈r,P z):∀z∈y::r,P z:=λz a=>by
 rcases bC.mp a with e|a
 .exact e ▸ h
 .exact t z a
end L2
namespace L2
open PySem PySem.Spec PyProof.Rows
section
variable{X:Cx}
theorem Ž:∀{ns:Ρ}{us:Ο},wu (ns.map V.int) us->∃xs:Array (Int×Tok),us.toArray=intItems xs/\xs.toList.map (·.1)=ns
 |[],_,.nil=>⟨#[],by simp[intItems],rfl⟩
 |n::r,_,.cons (l₂:=us) a t=>by
  let⟨b,rfl⟩:=a;let⟨xs,c,d⟩:=Ž t;exists((n,b)::xs.toList).toArray,?_,by simp[d]
  have:us=(intItems xs).toList:=by rw[<- c]
  rw[this];simp[intItems]
def Ì(hc:X.calm=true):zh X (.builtin "sum") (λvs H Q=>∃p ns,vs=[.ref p]/\SqL X.K H p (List.map V.int ns)/\Q (.int ns.sum) H):=by intro a s σ H n o Q I r h;let⟨p,ns,rfl,d,q⟩:=h;let⟨u,rfl,f⟩:=γ r;cases f;let⟨c,e,j,t⟩:=I.list d;let⟨i,l,k⟩:=Ž e;have m:s.heap.IsList p (intItems i):=l ▸ j.isList;refine sum_intListG (I.ok.hd hc) m λv b t' g=>?_;rw[preSum_eq,cn (by simp),k];exists .int ns.sum,H,I.kept (t':=b) g,⟨_,rfl⟩,q
end
variable{it:x0}{fp:Χ}{i:Nat}{tn:Nat->qf->Prop}{s2:qa}
section
variable{X:Cx}{e:qg}{t1 t2:TE}
def yn1(t1 t2:TE):TE:=λσ H Q=>t1 σ H Q\/t2 σ H Q
def Ŕ(h1:PE X e t1)(h2:PE X e t2):PE X e (yn1 t1 t2):=by
 refine .mk λa s σ H Q I h=>?_;rcases h with h|h
 .exact h1 a s σ H Q I h
 .exact h2 a s σ H Q I h
def ŕ{σ:St}{H:Hp}{Q:VK}(h:t1 σ H Q):yn1 t1 t2 σ H Q:=.inl h
def Õ{σ:St}{H:Hp}{Q:VK}(h:t2 σ H Q):yn1 t1 t2 σ H Q:=.inr h
end
def y8{H:Hp}{p:x0}{o:HO}{A:Hp->Prop}(hp:H p=none)(h:∀H',yv H H'->H' p=some o->A H'):A (upd H p o):=h _ (y7 hp) ya
def yu{α:Type}{H:Hp}{p:x0}{o:HO}{A:Hp->α->Prop}{Q:α}(hp:H p=none)(h:∀H',yv H H'->H' p=some o->A H' Q):A (upd H p o) Q:=h _ (y7 hp) ya
section
variable{K:xr}{a D:x0}{xs:Υ}{te:TE}{fr:St}{R:Hp->Prop}{H1:Hp}
def ybm(Pv:Nat->Hp->Prop)(h0:Pv 0 (upd H1 D (.lst [])))(hl:∀i H,i<=xs.length->Pv i H->SqT K H a xs)
  (hs:∀i x H,xs[i]?=some x->i<xs.length->Pv i H->te (some x::fr) H λy H4=>∃ys,H4 D=some (.lst ys)/\ys.length<sizeLine/\∃m',m'<xs.length-i/\cW xs.length Pv (i+1) m' (upd H4 D (.lst (ys++[y]))))
  (hd:∀H,Pv xs.length H->R H):zb (Itt K a) te fr D R H1:=by
 exists cW xs.length Pv,⟨xs.length,by simp,bK _,h0⟩,?_;rintro i m H ⟨rfl,b,p⟩;have q:=hl i H b p;by_cases hlt:i<xs.length
 .refine .inr ⟨⟨xs,xs[i],q,by simp[hlt]⟩,λx c y=>?_⟩;let⟨e,y⟩:=y;subst e;exact hs i x _ (y xs q) hlt p
 .have e:i=xs.length:=by omega
  subst e;exact .inl ⟨⟨xs,q,bn _⟩,hd H p⟩
def yl6(Pv:Nat->Hp->Prop)(h0:Pv 0 (upd H1 D (.lst [])))(hl:∀i H,i<=xs.length->Pv i H->SqT K H a xs)
  (hs:∀i x H,xs[i]?=some x->i<xs.length->Pv i H->te [some x] H λy H4=>∃ys,H4 D=some (.lst ys)/\ys.length<sizeLine/\∃m',m'<xs.length-i/\cW xs.length Pv (i+1) m' (upd H4 D (.lst (ys++[y]))))
  (hd:∀H,Pv xs.length H->R H):yff (Itt K a) te D R H1:=by
 exists cW xs.length Pv,⟨xs.length,by simp,bK _,h0⟩,?_;rintro i m H ⟨rfl,b,p⟩;have q:=hl i H b p;by_cases hlt:i<xs.length
 .refine .inr ⟨⟨xs,xs[i],q,by simp[hlt]⟩,λx c y=>?_⟩;let⟨e,y⟩:=y;subst e;exact hs i x _ (y xs q) hlt p
 .have e:i=xs.length:=by omega
  subst e;exact .inl ⟨⟨xs,q,bn _⟩,hd H p⟩
def Mp(H1:Hp)(D:x0)(f:Nat->V)(i:Nat)(H:Hp):Prop:=yv H1 H/\H D=some (.lst ((List.range i).map f))
def Mp.zero{f:Nat->V}(hD:H1 D=none):Mp H1 D f 0 (upd H1 D (.lst [])):=⟨y7 hD,ya⟩
def Mp.step{f:Nat->V}{n:Nat}{H4:Hp}{y:V}(hD:H1 D=none)(hn:n<sizeLine)(hi:i<n)(S:yv H1 H4)(h4:H4 D=some (.lst ((List.range i).map f)))(e:y=f i):
  ∃ys,H4 D=some (.lst ys)/\ys.length<sizeLine/\∃m',m'<n-i/\cW n (Mp H1 D f) (i+1) m' (upd H4 D (.lst (ys++[y]))):=by
 refine we (n:=n) h4 (by rw[bf,bV];omega) hi ⟨?_,?_⟩
 .intro b o a;rw[yk (yb a hD)];exact S b o a
 .rw[ya,List.range_succ,bH,e];rfl
def Ĝ{f:Nat->V}{g:V->V}(h:∀i x,xs[i]?=some x->f i=g x):(List.range xs.length).map f=xs.map g:=by
 refine List.ext_getElem? λi=>?_;rw[bo,bo];by_cases hi:i<xs.length
 .rw[cF hi,bi hi];show some (f i)=some (g xs[i]);rw[h i _ (bi hi)]
 .rw[cg (by rw[bV];omega),cg (by omega)];rfl
def ofG(g:V->V)(xs:Υ)(i:Nat):V:=((xs[i]?).map g).getD .non
def ye2{g:V->V}{x:V}(h:xs[i]?=some x):ofG g xs i=g x:=by unfold ofG;rw[h];rfl
def MpK(H1:Hp)(D:x0)(f:Nat->V)(n i:Nat):VK:=λy H4=>∃ys,H4 D=some (.lst ys)/\ys.length<sizeLine/\∃m',m'<n-i/\cW n (Mp H1 D f) (i+1) m' (upd H4 D (.lst (ys++[y])))
def Mp.done{g:V->V}{x y:V}{H4:Hp}(hD:H1 D=none)(hn:xs.length<sizeLine)(hx:xs[i]?=some x)(S:yv H1 H4)(h4:H4 D=some (.lst ((List.range i).map (ofG g xs))))(e:y=g x):MpK H1 D (ofG g xs) xs.length i y H4:=by
 have a:i<xs.length:=by
  rcases Nat.lt_or_ge i xs.length with q|q
  .exact q
  .rw[cg q]at hx;cases hx
 exact Mp.step hD hn a S h4 (e.trans (ye2 hx).symm)
def Mp.doneR{f:Nat->V}{n:Nat}{y:V}{H4:Hp}(hD:H1 D=none)(hn:n<sizeLine)(hi:i<n)(S:yv H1 H4)(h4:H4 D=some (.lst ((List.range i).map f)))(e:y=f i):MpK H1 D f n i y H4:=Mp.step hD hn hi S h4 e
def z9(g:V->V)(hq:SqL K H1 a xs)(hD:H1 D=none)
  (hs:∀i x H,xs[i]?=some x->yv H1 H->H D=some (.lst ((List.range i).map (ofG g xs)))->te (some x::fr) H (MpK H1 D (ofG g xs) xs.length i))
  (hd:∀H,yv H1 H->H D=some (.lst (xs.map g))->R H):zb (Itl K a) te fr D R H1 :=
 j3 (Mp H1 D (ofG g xs)) (Mp.zero hD) (λZ Z Z p=>p.1.seq hq) (λi x H b c p=>hs i x H b p.1 p.2)
  λH p=>hd H p.1 (by rw[<- Ĝ (f:=ofG g xs) λi x=>ye2];exact p.2)
def œ(g:V->V)(hq:SqT K H1 a xs)(hD:H1 D=none)
  (hs:∀i x H,xs[i]?=some x->yv H1 H->H D=some (.lst ((List.range i).map (ofG g xs)))->te (some x::fr) H (MpK H1 D (ofG g xs) xs.length i))
  (hd:∀H,yv H1 H->H D=some (.lst (xs.map g))->R H):zb (Itt K a) te fr D R H1 :=
 ybm (Mp H1 D (ofG g xs)) (Mp.zero hD) (λZ Z Z p=>p.1.tup hq) (λi x H b c p=>hs i x H b p.1 p.2)
  λH p=>hd H p.1 (by rw[<- Ĝ (f:=ofG g xs) λi x=>ye2];exact p.2)
def yg4(g:V->V)(hq:SqT K H1 a xs)(hD:H1 D=none)
  (hs:∀i x H,xs[i]?=some x->yv H1 H->H D=some (.lst ((List.range i).map (ofG g xs)))->te [some x] H (MpK H1 D (ofG g xs) xs.length i))
  (hd:∀H,yv H1 H->H D=some (.lst (xs.map g))->R H):yff (Itt K a) te D R H1 :=
 yl6 (Mp H1 D (ofG g xs)) (Mp.zero hD) (λZ Z Z p=>p.1.tup hq) (λi x H b c p=>hs i x H b p.1 p.2)
  λH p=>hd H p.1 (by rw[<- Ĝ (f:=ofG g xs) λi x=>ye2];exact p.2)
def ya2{lo:Int}{n:Nat}(f:Nat->V)(hD:H1 D=none)
  (hs:∀i H,i<n->yv H1 H->H D=some (.lst ((List.range i).map f))->te (some (.int (lo+i))::fr) H (MpK H1 D f n i))
  (hd:∀H,yv H1 H->H D=some (.lst ((List.range n).map f))->R H):zb (Itr lo n) te fr D R H1 :=
 ycw (Mp H1 D f) (Mp.zero hD) (λi H a p=>hs i H a p.1 p.2) λH p=>hd H p.1 p.2
def ysl{tr:TA}{σ:St}{H:Hp}{R:It->Hp->Prop}(h:tr σ H λvs H1=>∃i j:Int,vs=[.int i,.int j]/\(-(2^62)<=i/\i<2^62/\-(2^62)<=j/\j<2^62)/\R (Itr i (j-i).toNat) H1):vcl tr σ H R:=h
end
structure Mk0(K:xr)(C:x0):Prop where
 makes:W.makesIn K C=true
 init:W.findIn K (.ref C) "__init__"=some (some (.builtin "object.__init__"))
 kp:W.keepIn K (.ref C)=true
abbrev Cx.compT(X:Cx)(scope:Scope)(ys:Τ)(C:x0)(xs:Τ)(s2:qa)(H2:Hp)(fp:Χ):Cx :=
 {X with N:=xs++ys,s₀:=s2,H₀:=H2,env:=compEnvC scope (ñ ys X.env) C X.env,outer:=X.stack,ex:=fp,fn:=λZ=>false,pn:=[],xe:=λZ Z=>False}
variable{X:Cx}
def ju(J:It)(g:TG)(te:TE)(n:Nat)(fr:St)(D:x0)(R:Hp->Prop)(H1:Hp):Prop:=∃W:Nat->Nat->Hp->Prop,(∃m,W 0 m (upd H1 D (.lst [])))/\
 ∀i m H2,W i m H2->(J.stop i H2/\R H2)\/(J.go i H2/\∀x H3 pre,J.yld i H2 x H3->List.length pre=n->g x (pre++fr) H3 λσ' H'=>(∃pre',List.length pre'=n/\σ'=pre'++fr)/\te σ' H' λy H4=>∃ys,H4 D=some (.lst ys)/\ys.length<sizeLine/\∃m',m'<m/\W (i+1) m' (upd H4 D (.lst (ys++[y]))))
def ykj(wi:TI)(g:TG)(te:TE)(n:Nat)(js:qi Nat):TE:=λσ H Q=>wi σ H λJ H1=>∀D,H1 D=none->ju J g te n (ud js σ) D (λH2=>Q (.ref D) H2) H1
def PTs(X:Cx)(ifs:qi qg)(t:TT):Prop:=∀(pins:Θ)(s:qa)(σ:St)(H:Hp)(Q:Bool->Hp->Prop),Inv X pins σ H s->t σ H Q ->
 wpAny (model X.prog X.w) X.A (forIn ifs true λc r=>if r=true then do let ok <- isTrue c X.env (eval c X.env);pure (ForInStep.yield ok)else pure (ForInStep.yield r)) (TP X pins σ Q) X.xe s
def vff:TT:=λZ H Q=>Q true H
def yst:PTs X [] vff:=λZ Z σ H Z I h=>bp ⟨H,I,h⟩
def ysg{c:qg}{t:TT}(h:PT X c t):PTs X [c] t:=λa s σ H Q I q=>wpAny_tests_one (h a s σ H Q I q)
def yiy(J:It)(g:TG)(tt:TT)(te:TE)(n:Nat)(fr:St)(D:x0)(R:Hp->Prop)(H1:Hp):Prop:=∃W:Nat->Nat->Hp->Prop,(∃m,W 0 m (upd H1 D (.lst [])))/\
 ∀i m H2,W i m H2->(J.stop i H2/\R H2)\/(J.go i H2/\∀x H3 pre,J.yld i H2 x H3->List.length pre=n->g x (pre++fr) H3 λσ' H'=>(∃pre',List.length pre'=n/\σ'=pre'++fr)/\tt σ' H' λb H4=>if b=true then te σ' H4 (λy H5=>∃ys,H5 D=some (.lst ys)/\ys.length<sizeLine/\∃m',m'<m/\W (i+1) m' (upd H5 D (.lst (ys++[y]))))else ∃m',m'<m/\W (i+1) m' H4)
section
variable{iter elt tg:qg}{xs:Τ}{g:TG}{pos:Pos}{scope:Scope}{te:TE}{wi:TI}{ifs:qi qg}{tt:TT}{pins:Θ}{σ:St}{ys:Τ}{js:qi Nat}
def Ņ{H2:Hp}{J:It}(hc:X.calm=true)
  (ht:∀(C:x0)(s2:qa)(H2:Hp)(fp:Χ),PTs (X.compT scope ys C xs s2 H2 fp) ifs tt) (he:∀(C:x0)(s2:qa)(H2:Hp)(fp:Χ),PE (X.compT scope ys C xs s2 H2 fp) elt te)
  (hgt:∀(C:x0)(s2:qa)(H2:Hp)(fp:Χ),PG (X.compT scope ys C xs s2 H2 fp) tg g)
  (hcell:∀y∈scope.names,y.2≠.cell) (hkind:scope.kind=.function)
  (hfr:∀y∈scope.names,y.2=.free->y.1∈ys) (hyc:∀y∈ys,X.env.kindOf y=some .cell) (hrel:∀y∈ys,(relabel scope X.env).names.lookup y=some .cell) (hjs:js.map (λj=>X.N[j]?)=ys.map some)
  (I2:Inv X pins σ H2 s2) (T:yfh X.prog X.w X.K tg J fp it tn) (st2:tn 0 s2.heap) (f2:∀b∈fp,yb9 X pins H2 b)
  {R:x0->Hp->Prop} (h:∀D,H2 D=none->yiy J g tt te xs.length (ud js σ) D (R D) H2) {RR:qb->x0->Result->qa->Prop} {E:Δ}
  (hR:∀(D C:x0)(H':Hp)(s':qa)(m:Ε),yb9 X pins H' C->s'.heap.Ns C m->Inv X pins σ H' s'->R D H'->RR (.ref D) C (.ok .next) s'):
  wpAny (model X.prog X.w) X.A (newList []) (λacc s₃=>wpAny (model X.prog X.w) X.A (newFunctionEnv scope X.env.globals (ñ ys X.env) [] X.env.qual none .none (some X.env)) (λcenv s₄ =>
   codeAny (model X.prog X.w) X.A (.compStart (.ListComp elt [⟨tg,iter,ifs,0⟩] scope pos) 0 (.ref it) acc {cenv with scope:=relabel scope X.env}) (RR acc cenv.locals) s₄) E s₃) E s2:=by
 have k:∀y c,(ñ ys X.env).lookup y=some c->X.env.cells.lookup y=some c:=λy c e=>by
  let⟨m,rfl⟩:=yeb e;let⟨c',q⟩:=I2.ok.has y (.inl (hyc y m));rw[q];rfl
 refine wpAny_newObj_type (wpAny_newFunctionEnv hcell (by intro y hy;simp at hy) (λh₁ hns₁ hsb₁=>?_) hkind);dsimp only at hns₁ hsb₁⊢;generalize Z:s2.heap.push { cls:=.type "list",dict:=none,data:=.seq ([]:Ο).toArray}=G at hns₁ hsb₁⊢;have hC:G.objs.size=s2.heap.objs.size+1:=by rw[<- Z,Heap.size_push]
 have a6:s2.heap.objs.size≠G.objs.size:=by rw[hC];exact bR (Nat.lt_succ_self _)
 have O:s2.heap.objs.size<=G.objs.size:=by rw[hC];exact Nat.le_succ _
 have f:∀b,b<s2.heap.objs.size->b≠G.objs.size/\b≠s2.heap.objs.size:=λb a=>⟨by rw[hC];exact bR (Nat.lt_succ_of_lt a),bR a⟩;have F:∀b o,s2.heap.get? b=some o->h₁.get? b=some o:=λb o e=>hsb₁.extBut b o (f b (bx e)).1 (bj _ (Z ▸ bj _ e));have a3:h₁.get? s2.heap.objs.size=some { cls:=.type "list",data:=.seq ([]:Ο).toArray}:=hsb₁.extBut _ _ a6 (bj _ (Z ▸ bA _ rfl));have Y:∀b∈fp,b<s2.heap.objs.size:=λb a=>let ⟨_,e,_⟩:=T.obj 0 _ st2 b a;bx e;have a1:∀b∈fp,b∉frs X.stack:=λb a z=>(bC.mp (I2.stkSub b z)).elim (f2 b a).2.1 (f2 b a).2.2.1;have nC:H2 G.objs.size=none:=I2.hok.fresh O;have nD:H2 s2.heap.objs.size=none:=I2.hok.fresh (bn _)
 have B:∀y c,(ñ ys X.env).lookup y=some c->∃v o,s2.heap.get? c=some o/\o.data=.cell v:=λy c e=>by
  let⟨v,o,q1,q2⟩:=I2.cell y c (k y c e);exact⟨v,o,q1,q2⟩
 have a8:(X.compT scope ys G.objs.size xs s2 H2 fp).Ok:=by
  exists I2.ok.mod,hkind,I2.ok.glob,I2.ok.blt,O,λy z c e U=>I2.ok.inj y z c (k y c e) (k z c U),λy e=>?_,λy c z e=>(by cases z),I2.ok.hd,I2.ok.frames,.inl rfl,λb a=>⟨(f b (Y b a)).1,λy c e=>(f2 b a).2.2.2.2.1 y c (k y c e)⟩,I2.bs,?_,λb o e a=>?_,λb a=>a1 b a,I2.stack,I2.stkFree
  .have U:(relabel scope X.env).names.lookup y=some .cell\/(relabel scope X.env).names.lookup y=some .free:=e
   have a9:y∈ys:=by
    rcases U with U|U
    .obtain⟨k0,m,q⟩:=zq U;rcases q with q|q
     .exact absurd q.symm (hcell _ m)
     .exact hfr _ m q
    .obtain⟨k0,m,q⟩:=zq U;rcases q with q|q
     .exact hfr _ m q.symm
     .exact hfr _ m q
   exists _,Ż a9
  .exact bQ I2.ok.bsz I2.sz
  .rcases (f2 b a).2.2.2.1 with z|z
   .exact I2.ok.noex b o e z
   .exact absurd (cb (bx (I2.ok.bs b o e).1) z) (cQ _)
 have a2:(ud js σ).length=ys.length:=by
  have:=congrArg List.length hjs;simpa[ud]using this
 have I3:∀tk,Inv (X.compT scope ys G.objs.size xs s2 H2 fp) [] (List.replicate xs.length none++ud js σ) (upd H2 s2.heap.objs.size (.lst [])) {s2 with heap:=h₁,toks:=tk}:=λtk =>
  ⟨a8,rfl,I2.bare,Un.laid F (bn _) nD,⟨_,hns₁,λi y v e1 P e3=>by
    by_cases hi0:i<xs.length
    .rw[List.getElem?_append_left (by simpa using hi0),List.getElem?_replicate,if_pos hi0]at P;cases P
    .obtain⟨i,rfl⟩:∃i',i=xs.length+i':=⟨i-xs.length,by omega⟩;have e1:ys[i]?=some y:=by rw[cJ (by omega)]at e1;simpa using e1
     have P:(ud js σ)[i]?=some (some v):=by rw[cJ (by simp)]at P;simpa using P
     have hy:y∈ys:=bB e1;have S:=congrArg (λl=>l[i]?) hjs;simp only[bo,e1,cO]at S
     cases q:js[i]? with
     |none=>rw[q]at S;cases S
     |some j =>
      rw[q]at S;have S:X.N[j]?=some y:=by simpa using S
      have es:σ[j]?=some (some v):=by
       simp only[ud,bo,q,cO,Option.some.injEq]at P
       cases r:σ[j]? with
       |none=>rw[r]at P;cases P
       |some w'=>rw[r]at P;rw[show w'=some v from P]
      let⟨m0,_,ac⟩:=I2.loc;let⟨u,ru,lk⟩:=ac j y v S es (.inr (.inl (hyc y hy)));exists u,ru,.inr ⟨.inl (hrel y hy),?_⟩;rcases lk with⟨k1,_⟩|⟨_,c,ec,o,ho,hd⟩
      .rw[hyc y hy]at k1;cases k1
      .exists c,?_,o,F c o ho,hd;show (ñ ys X.env).lookup y=some c;rw[Ż hy,ec]
       rfl⟩,λy c e=>(by
    let⟨v,o,q1,q2⟩:=B y c e
    exact⟨v,o,F c o q1,q2⟩),(by show upd H2 s2.heap.objs.size _ G.objs.size=none;rw[yk a6.symm];exact nC),λy c e=>(by
    let⟨v,o,q1,q2⟩:=B y c e;show upd H2 s2.heap.objs.size _ c=none;rw[yk (f c (bx q1)).2]
    exact I2.freeC y c (k y c e)),λp hp=>(by simp at hp),
   I2.hok.laid F (bn _) ⟨bK _,[],_,.nil,a3⟩,by show (List.replicate xs.length none++ud js σ).length=(xs++ys).length;simp[a2]⟩
 have M:∀{H':Hp},(∀b∈fp,H' b=none)->∀b∈fp,yb9 (X.compT scope ys G.objs.size xs s2 H2 fp) [] H' b:=λhn b a=>⟨hn b a,(f b (Y b a)).1,a1 b a,.inl a,λy c e=>(f2 b a).2.2.2.2.1 y c (k y c e),λp hp=>(by simp at hp)⟩
 have Q:∀tk,codeAny (model X.prog X.w) X.A (.compLoop (.ListComp elt [⟨tg,iter,ifs,0⟩] scope pos) 0 (.ref it) (.ref s2.heap.objs.size) (compEnvC scope (ñ ys X.env) G.objs.size X.env)) (RR (.ref s2.heap.objs.size) G.objs.size) {s2 with heap:=h₁,toks:=tk}:=by
  intro tk;let⟨W,⟨m0,w0⟩,a0⟩:=h s2.heap.objs.size nD;refine codeAny_loop rfl (λn s'=>∃i v H',List.length v=xs.length/\Inv (X.compT scope ys G.objs.size xs s2 H2 fp) [] (v++ud js σ) H' s'/\tn i s'.heap/\(∀b∈fp,H' b=none)/\W i n H') (λn s' hI=>?_) m0
   ⟨0,List.replicate xs.length none,_,by simp,I3 tk,T.keep 0 _ _ st2 (λb a o e=>F b o e),λb a=>(by rw[yk (f b (Y b a)).2];exact(f2 b a).1),w0⟩
  let⟨i,v,H',hv,I,st,fr,w⟩:=hI;show wpAny _ _ ((compTurn (.ListComp elt [⟨tg,iter,ifs,0⟩] scope pos) 0 (.ref it) (.ref s2.heap.objs.size) (compEnvC scope (ñ ys X.env) G.objs.size X.env)).onRaise (λx=>do noteFrame x (compEnvC scope (ñ ys X.env) G.objs.size X.env);theTreesLotGoes x)) _ _ s';refine wpAny_noted ?_;rw[compTurn_list];refine bg (wpAny_standAt (bg ?_));rcases a0 i n H' w with⟨a5,q⟩|⟨go,a4⟩
  .refine thn (T.done (X.compT scope ys G.objs.size xs s2 H2 fp) rfl rfl rfl hc i [] s' (v++ud js σ) H' _ I (M fr) st a5) λr s4 ⟨hr,I4⟩=>?_;subst hr;refine bp ?_;let⟨m,hn,_⟩:=I4.loc;exact hR _ _ H' s4 m (I2.fpOk O I4.free) hn (I2.call' (ch:=fp) I4.os I4.base I4.hok I4.bare λb a=>⟨(f2 b a).2.2.2.1,(f2 b a).2.1,(f2 b a).2.2.2.2.1,(f2 b a).2.2.2.2.2⟩) q
  .refine thn (T.item (X.compT scope ys G.objs.size xs s2 H2 fp) rfl rfl rfl hc i [] s' (v++ud js σ) H' _ I (M fr) st go) λr s4 ⟨u,hr,h4⟩=>?_;subst hr;refine bg (thn h4 λN s5 ⟨y,H5,I5,r5,y5,H,ab⟩=>bg ?_);have aa:=I5.pinned (M ab) (T.obj _ _ H);refine vcw (hgt _ _ _ _ _ s5 (v++ud js σ) H5 y u _ aa r5 (a4 y H5 v y5 hv)) λN s6 ⟨σ',H6,I6,⟨t,a7,ep⟩,q6⟩=>?_;subst ep;refine bg (vcw (ht _ _ _ _ _ s6 (t++ud js σ) H6 _ I6 q6) λb s7 ⟨H7,I7,q7⟩=>?_)
   cases b with
   |false =>
    let⟨m',hm,w'⟩:=q7
    have L:∀b∈fp,∀o,s5.heap.get? b=some o->s7.heap.get? b=some o/\H7 b=none:=λb a o e =>
     ⟨(I7.pin (b,o) (bT _ (bT _ (uy a e)))).1,(I7.pin (b,o) (bT _ (bT _ (uy a e)))).2.1⟩
    refine bp ⟨rfl,m',hm,i+1,t,_,a7,I7.unpinned,T.keep _ _ _ H λb a o e=>(L b a o e).1,λb a=>?_,w'⟩;let⟨o,e,d⟩:=T.obj _ _ H b a;exact(L b a o e).2
   |true =>
    refine bg (bg (vcw (he _ _ _ _ _ s7 (t++ud js σ) H7 _ I7 q7) λu2 s7 ⟨y2,H7,I7,r7,zs,hD,hl,m',hm,w'⟩=>bg ?_));refine vcw (xh _ s7 (t++ud js σ) H7 (.ref s2.heap.objs.size) [y2] (.ref s2.heap.objs.size) [u2] (λN H8=>H8=upd H7 s2.heap.objs.size (.lst (zs++[y2]))) I7 rfl (.cons r7 .nil) ⟨_,zs,y2,rfl,rfl,hD,hl,rfl⟩) λN s8 h'=>?_;let⟨_,H8,I8,_,e8⟩:=h';subst e8
    have L:∀b∈fp,∀o,s5.heap.get? b=some o->s8.heap.get? b=some o/\upd H7 s2.heap.objs.size (HO.lst (zs++[y2])) b=none:=λb a o e =>
     ⟨(I8.pin (b,o) (bT _ (bT _ (uy a e)))).1,(I8.pin (b,o) (bT _ (bT _ (uy a e)))).2.1⟩
    refine bp (bp ⟨rfl,m',hm,i+1,t,_,a7,I8.unpinned,T.keep _ _ _ H λb a o e=>(L b a o e).1,λb a=>?_,w'⟩);let⟨o,e,d⟩:=T.obj _ _ H b a;exact(L b a o e).2
 exact codeAny_compStart_list (Q _) (T.self X.A 0 _ _ _ (T.keep 0 _ _ st2 (λb a o e=>F b o e)) (Q _))
def à{H2:Hp}{J:It}(hc:X.calm=true)
  (he:∀(C:x0)(s2:qa)(H2:Hp)(fp:Χ),PE (X.compT scope ys C xs s2 H2 fp) elt te)
  (hgt:∀(C:x0)(s2:qa)(H2:Hp)(fp:Χ),PG (X.compT scope ys C xs s2 H2 fp) tg g)
  (hcell:∀y∈scope.names,y.2≠.cell) (hkind:scope.kind=.function)
  (hfr:∀y∈scope.names,y.2=.free->y.1∈ys) (hyc:∀y∈ys,X.env.kindOf y=some .cell) (hrel:∀y∈ys,(relabel scope X.env).names.lookup y=some .cell) (hjs:js.map (λj=>X.N[j]?)=ys.map some)
  (I2:Inv X pins σ H2 s2) (T:yfh X.prog X.w X.K tg J fp it tn) (st2:tn 0 s2.heap) (f2:∀b∈fp,yb9 X pins H2 b)
  {R:x0->Hp->Prop} (h:∀D,H2 D=none->ju J g te xs.length (ud js σ) D (R D) H2) {RR:qb->x0->Result->qa->Prop} {E:Δ}
  (hR:∀(D C:x0)(H':Hp)(s':qa)(m:Ε),yb9 X pins H' C->s'.heap.Ns C m->Inv X pins σ H' s'->R D H'->RR (.ref D) C (.ok .next) s'):
  wpAny (model X.prog X.w) X.A (newList []) (λacc s₃=>wpAny (model X.prog X.w) X.A (newFunctionEnv scope X.env.globals (ñ ys X.env) [] X.env.qual none .none (some X.env)) (λcenv s₄ =>
   codeAny (model X.prog X.w) X.A (.compStart (.ListComp elt [⟨tg,iter,[],0⟩] scope pos) 0 (.ref it) acc {cenv with scope:=relabel scope X.env}) (RR acc cenv.locals) s₄) E s₃) E s2 :=
 Ņ (tt:=vff) hc (λZ Z Z Z=>yst) he hgt hcell hkind hfr hyc hrel hjs I2 T st2 f2 (λD f=>by
  let⟨W,e,c⟩:=h D f;exists W,e,λi m H w=>(c i m H w).imp id λ⟨n,a⟩=>⟨n,λx k d y l=>?_⟩;exact a x k d y l) hR
def Ź(hc:X.calm=true)(hi:PI X tg iter wi)(he:∀(C:x0)(s2:qa)(H2:Hp)(fp:Χ),PE (X.compT scope ys C xs s2 H2 fp) elt te)(hjs:js.map (λj=>X.N[j]?)=ys.map some)
  (hgt:∀(C:x0)(s2:qa)(H2:Hp)(fp:Χ),PG (X.compT scope ys C xs s2 H2 fp) tg g)
  (hclos:closureFor scope X.env=pure (ñ ys X.env)) (hyc:∀y∈ys,X.env.kindOf y=some .cell) (hrel:∀y∈ys,(relabel scope X.env).names.lookup y=some .cell)
  (hfr:∀y∈scope.names,y.2=.free->y.1∈ys:=by decide+kernel) (hcell:∀y∈scope.names,y.2≠.cell:=by decide+kernel) (hkind:scope.kind=.function:=by rfl)
  (hnames:∀y∈scope.names,y.2=.local->scope.names.lookup y.1=some .local:=by decide+kernel) (hs:∀x,foldedSetIterable iter X.env x=pure x:=by intro _;rfl):
  PE X (.ListComp elt [⟨tg,iter,[],0⟩] scope pos) (ykj wi g te xs.length js):=by refine .mk λa s σ H Q I h=>?_;rw[eval_ListComp];refine wpAny_comprehension_free (use:=none) rfl hs hclos hkind hnames (thn (hi a s σ H _ I h) λv F u=>thn u λr s2 t=>?_);let⟨G,fp,E,J,H2,e,B,T,c,p,h⟩:=t;subst e;refine à (R:=λD d=>Q (.ref D) d) (RR:=compPost (model X.prog X.w) X.A X.xe none (EP X a σ Q)) hc he hgt hcell hkind hfr hyc hrel hjs B T c p h ?_;intro D C d l m f z k q;exists m,z,λK i=>⟨.ref D,d,?_,rfl,q⟩;exact k.turned (t':=l.toks) (λb o n e=>i.extBut b o n e) f.1 f.2.1 f.2.2.2.1 f.2.2.2.2.1 f.2.2.2.2.2
def yqs{H:Hp}{Q:VK}{n:Nat}(h:wi σ H λJ H1=>∀D,H1 D=none->ju J g te n (ud js σ) D (λH2=>Q (.ref D) H2) H1):ykj wi g te n js σ H Q:=h
end
section
variable{iter elt:qg}{x:Str}{px pos:Pos}{scope:Scope}{te:TE}{wi:TI}{pins:Θ}{σ:St}{ys:Τ}{js:qi Nat}
def ja{pre:qi (Ψ)}{n:Nat}(h:List.length pre=n+1):∃v t,pre=v::t/\List.length t=n:=by
 cases pre with
 |nil=>cases h
 |cons v t=>exists v,t,rfl,Nat.succ.inj h
def yyj{J:It}{fr:St}{D:x0}{R:Hp->Prop}{H1:Hp}(h:zb J te fr D R H1):ju J (w9 0) te 1 fr D R H1:=by let⟨W,a,g⟩:=h;exists W,a,λi m b w=>(g i m b w).imp id λ⟨k,y⟩=>⟨k,λx e f c j=>?_⟩;let⟨z,t,rfl,d⟩:=ja j;obtain rfl:=List.length_eq_zero_iff.mp d;exists⟨[some x],rfl,rfl⟩,y x e c
def Ň{H2:Hp}{J:It}(hc:X.calm=true)
  (he:∀(C:x0)(s2:qa)(H2:Hp)(fp:Χ),PE (X.compF scope ys C x s2 H2 fp) elt te)
  (hcell:∀y∈scope.names,y.2≠.cell) (hkind:scope.kind=.function) (hx:scope.names.lookup x=some .local) (hnd:(x::ys).Nodup)
  (hfr:∀y∈scope.names,y.2=.free->y.1∈ys) (hyc:∀y∈ys,X.env.kindOf y=some .cell) (hrel:∀y∈ys,(relabel scope X.env).names.lookup y=some .cell) (hjs:js.map (λj=>X.N[j]?)=ys.map some)
  (I2:Inv X pins σ H2 s2) (T:yfh X.prog X.w X.K (.Name x px) J fp it tn) (st2:tn 0 s2.heap) (f2:∀b∈fp,yb9 X pins H2 b)
  {R:x0->Hp->Prop} (h:∀D,H2 D=none->zb J te (ud js σ) D (R D) H2) {RR:qb->x0->Result->qa->Prop} {E:Δ}
  (hR:∀(D C:x0)(H':Hp)(s':qa)(m:Ε),yb9 X pins H' C->s'.heap.Ns C m->Inv X pins σ H' s'->R D H'->RR (.ref D) C (.ok .next) s'):
  wpAny (model X.prog X.w) X.A (newList []) (λacc s₃=>wpAny (model X.prog X.w) X.A (newFunctionEnv scope X.env.globals (ñ ys X.env) [] X.env.qual none .none (some X.env)) (λcenv s₄ =>
   codeAny (model X.prog X.w) X.A (.compStart (.ListComp elt [⟨.Name x px,iter,[],0⟩] scope pos) 0 (.ref it) acc {cenv with scope:=relabel scope X.env}) (RR acc cenv.locals) s₄) E s₃) E s2 :=
 à (tg:=.Name x px) (xs:=[x]) (g:=w9 0) hc he (λC s2 H2 fp=>vn (i:=0) hnd rfl (Or.inl (lookup_relabel_local hx)) (Or.inr (lookup_relabel_local hx))) hcell hkind hfr hyc hrel hjs I2 T st2 f2 (λD a=>yyj (h D a)) hR
def wb(hc:X.calm=true)(hi:PI X (.Name x px) iter wi)(he:∀(C:x0)(s2:qa)(H2:Hp)(fp:Χ),PE (X.compF scope ys C x s2 H2 fp) elt te)(hjs:js.map (λj=>X.N[j]?)=ys.map some)
  (hclos:closureFor scope X.env=pure (ñ ys X.env)) (hnd:(x::ys).Nodup:=by decide) (hyc:∀y∈ys,X.env.kindOf y=some .cell) (hrel:∀y∈ys,(relabel scope X.env).names.lookup y=some .cell)
  (hfr:∀y∈scope.names,y.2=.free->y.1∈ys:=by decide+kernel) (hcell:∀y∈scope.names,y.2≠.cell:=by decide+kernel) (hkind:scope.kind=.function:=by rfl)
  (hnames:∀y∈scope.names,y.2=.local->scope.names.lookup y.1=some .local:=by decide+kernel) (hx:scope.names.lookup x=some .local:=by rfl) (hs:∀x,foldedSetIterable iter X.env x=pure x:=by intro _;rfl):
  PE X (.ListComp elt [⟨.Name x px,iter,[],0⟩] scope pos) (ykh wi te js):=by refine .mk λa s σ H Q I h=>?_;rw[eval_ListComp];refine wpAny_comprehension_free (use:=none) rfl hs hclos hkind hnames (thn (hi a s σ H _ I h) λv E t=>thn t λp s2 r=>?_);let⟨F,fp,B,J,H2,e,z,T,c,n,h⟩:=r;subst e;refine Ň (R:=λD d=>Q (.ref D) d) (RR:=compPost (model X.prog X.w) X.A X.xe none (EP X a σ Q)) hc he hcell hkind hx hnd hfr hyc hrel hjs z T c n h ?_;intro D C d k m f u i q;exists m,u,λG g=>⟨.ref D,d,?_,rfl,q⟩;exact i.turned (t':=k.toks) (λb o l e=>g.extBut b o l e) f.1 f.2.1 f.2.2.2.1 f.2.2.2.2.1 f.2.2.2.2.2
def yen{y:Str}{py spos:Pos}(hN:X.N.Nodup)(hy:X.N[i]?=some y)(hl:X.env.scope.names.lookup y=some .local)(hc:X.calm=true)(hi:PI X (.Name x px) iter wi)
  (he:∀(C:x0)(s2:qa)(H2:Hp)(fp:Χ),PE (X.compF scope ys C x s2 H2 fp) elt te) (hjs:js.map (λj=>X.N[j]?)=ys.map some)
  (hclos:closureFor scope X.env=pure (ñ ys X.env)) (hyc:∀y∈ys,X.env.kindOf y=some .cell) (hrel:∀y∈ys,(relabel scope X.env).names.lookup y=some .cell)
  (hsw:swapsWith (.ListComp elt [⟨.Name x px,iter,[],0⟩] scope pos) (some (.Name y py)) spos.line X.env=pure true:=by rfl) (hnd:(x::ys).Nodup:=by decide)
  (hfr:∀y∈scope.names,y.2=.free->y.1∈ys:=by decide+kernel) (hcell:∀y∈scope.names,y.2≠.cell:=by decide+kernel) (hkind:scope.kind=.function:=by rfl)
  (hnames:∀y∈scope.names,y.2=.local->scope.names.lookup y.1=some .local:=by decide+kernel) (hx:scope.names.lookup x=some .local:=by rfl) (hs:∀x,foldedSetIterable iter X.env x=pure x:=by intro _;rfl):
  PS X (.Assign [.Name y py] (.ListComp elt [⟨.Name x px,iter,[],0⟩] scope pos) spos) (ywp (ykh wi te js) (w9 i)):=by
 refine .mk λa s σ H t I h=>?_;rw[exec_Assign_Name_used _ _ _ _ hsw];refine bg (wpAny_standAt (bg ?_));show wpAny _ X.A (do let _ <- comprehension (.ListComp elt [⟨.Name x px,iter,[],0⟩] scope pos) scope X.env _ (newList []) false (eval iter X.env) (some (assign (.Name y py) X.env))) _ _ s;refine bg (cN (wpAny_comprehension_free (use:=some (assign (.Name y py) X.env)) (Q:=λZ d=>SP X a t .next d) rfl hs hclos hkind hnames (thn (hi a s σ H _ I h) λv U M=>thn M λG s2 E=>?_)) (λZ d u=>bp (bp u)) λZ Z e=>e);let⟨O,fp,S,J,H2,e,K,T,r,L,h⟩:=E;subst e;refine Ň (R:=λD l=>w9 i (.ref D) σ l t.nx) (RR:=compPost (model X.prog X.w) X.A X.xe (some (assign (.Name y py) X.env)) (λZ d=>SP X a t .next d)) hc he hcell hkind hx hnd hfr hyc hrel hjs K T r L h ?_;intro D C l d m f F B q;refine wpAny_assign_Name (Æ (v:=V.ref D) B hN hy (Or.inl hl) rfl (λn k p=>?_) (Or.inr hl));exists m,?_,λP g=>⟨_,l,?_,q⟩
 .obtain⟨b,g,c⟩:=p;refine F.sameBut g λz=>?_;rcases c with c|c
  .exact f.2.1 (z.trans c)
  .exact f.2.2.2.2.1 y b c z.symm
 .exact k.turned (t':=n.toks) (λb o c e=>g.extBut b o c e) f.1 f.2.1 f.2.2.2.1 f.2.2.2.2.1 f.2.2.2.2.2
end
end L2
namespace L2
open PySem PySem.Spec PyProof.Rows
section
variable{prog:qh}{w:qd}{A:qe}{E:Δ}{s:qa}
def ξ{it l:x0}{i:Nat}{items}{x:qb}{Q:Δ}(hit:s.heap.IsTupleIter it l i)(hl:s.heap.IsTuple l items)(hx:items[i]?=some x)
  (hQ:∀h',h'.IsTupleIter it l (i+1)->Heap.SameBut it s.heap h'->Q x {s with heap:=h'}):wpAny (model prog w) A (Builtin.SmallTypes.nextOf (.ref it)) Q E s:=by let⟨g,b,e,a⟩:=id hit;let⟨h,d,_,f,c⟩:=hl;unfold Builtin.SmallTypes.nextOf;refine bg (wpAny_callSpecial?_slot (name:=Str.ofString "__next__") hit.typeIs slot_tupleiter_next (wpAny_call_entry slot_tupleiter_next hit.typeIs entry_tupleiter_next ?_ (args_tupleiter_next _)));show wpAny _ _ (field (.ref it) 0 >>=_) _ _ s;refine bg (cy b a (x:=.ref l) rfl ?_);show wpAny _ _ (if (Value.ref l == Value.none)=true then _ else _) _ _ s;rw[if_neg (show ¬((Value.ref l == Value.none)=true)from bM)];show wpAny _ _ (field (.ref it) 1 >>=_) _ _ s;refine bg (cy b a (x:=.int i 0) rfl ?_);show wpAny _ _ (seqItems? (.ref l) >>=_) _ _ s;refine bg (wpAny_seqItems d c ?_);simp only[Int.toNat_natCast,hx];refine bg (wpAny_setField b a (by simp) (bp ⟨x,rfl,bp (hQ _ ⟨_,Heap.get?_update_self _ b (Obj.isFreed_of_fields (Obj.data_mapFields a _)),(Obj.cls_mapFields ..).trans e,?_⟩ (Heap.SameBut.update ..))⟩));rw[Obj.data_mapFields a];simp[rawInt]
def Ď{it l:x0}{i:Nat}{items}{Q:Δ}(hh:A.handled=none)(hit:s.heap.IsTupleIter it l i)(hl:s.heap.IsTuple l items)(hx:items[i]?=none)
  (hE:∀h' e,Heap.ExtBut it s.heap h'->(∃o,h'.get? e=some o/\o.cls=.type "StopIteration")->E (.ref e) {s with heap:=h'}):wpAny (model prog w) A (Builtin.SmallTypes.nextOf (.ref it)) Q E s:=by
 let⟨j,c,g,b⟩:=id hit;let⟨k,f,_,h,d⟩:=hl;unfold Builtin.SmallTypes.nextOf;refine bg (wpAny_callSpecial?_slot (name:=Str.ofString "__next__") hit.typeIs slot_tupleiter_next (wpAny_call_entry slot_tupleiter_next hit.typeIs entry_tupleiter_next ?_ (args_tupleiter_next _)))
 (show wpAny _ _ (field (.ref it) 0 >>=_) _ _ s);refine bg (cy c b (x:=.ref l) rfl ?_)
 (show wpAny _ _ (if (Value.ref l == Value.none)=true then _ else _) _ _ s);rw[if_neg (show ¬((Value.ref l == Value.none)=true)from bM)]
 (show wpAny _ _ (field (.ref it) 1 >>=_) _ _ s);refine bg (cy c b (x:=.int i 0) rfl ?_)
 (show wpAny _ _ (seqItems? (.ref l) >>=_) _ _ s);refine bg (wpAny_seqItems f d ?_)
 simp only[Int.toNat_natCast,hx];refine bg (wpAny_rule (bg (wpAny_setField c b (by simp) ?_)))
 (show wpAny _ _ (newExc (.type "StopIteration") [] >>=_) _ _ _);refine bg ?_
 simp only[newExc,newTuple];refine bg (wpAny_newObj_type ?_ (by size_fits))
 refine bg (m:=firstArgMember _ _) (wpAny_of_eq (a:=Value.none) (by first|rfl|(simp only[firstArgMember];rfl)) (wpAny_newObj_type ?_ (by size_fits)))
 simp only[raiseNew];refine bg (wpAny_handled ?_)
 (first|rw[show A.in1.handled=none from hh]|rw[hh]);refine bg (bp (wpAny_throw ?_))
 exact hE _ _ (((Heap.SameBut.update _ ..).extBut.push _).push _) ⟨_,bA _ rfl,rfl⟩
end
section
open AutoSeq1 (wpAny_loadPart')
set_option maxRecDepth 100000
end
end L2
namespace L2
open PySem PySem.Spec PyProof.Rows
end L2
namespace L2
section
variable{σ:St}{H:Hp}{Q:VK}{td ty tx tv:TE}
def yxr(h:td σ H λx H1=>ty σ H1 λy H2=>∃a v,x=.ref a/\Ĳ H2 a y (some v)/\Q v H2):vca td ty σ H Q:=h
def vdi(h:ty σ H λy H1=>td σ H1 λx H2=>∃a o,x=.ref a/\Ĳ H2 a y o/\Q (.bl o.isSome) H2):vfs ty td σ H Q:=h
def ylv(h:ty σ H λy H1=>td σ H1 λx H2=>∃a o,x=.ref a/\Ĳ H2 a y o/\Q (.bl (!o.isSome)) H2):yjp ty td σ H Q:=h
def yye{nx bk ct:Ζ}{rt:VK}(h:tv σ H λv H1=>td σ H1 λx H2=>ty σ H2 λy H3=>∃a H4,x=.ref a/\ylb H3 a y v H4/\nx σ H4):vb9 td ty tv ⟨nx,rt,bk,ct⟩ σ H:=h
def ysy(h:∀p,H p=none->Q (.ref p) (upd H p (.dT []))):yn2 σ H Q:=h
end
end L2
namespace L2
open PySem PySem.Spec PyProof.Rows
variable{i1 i2 l1 l2:x0}{xs ys:Array qb}{elts:qi qg}{i k1 k2:Nat}{tpos:Pos}{a:qb}
def Itz(K:xr)(a b:x0):It :=
 ⟨λi H=>∃xs ys x y,SqL K H a xs/\SqL K H b ys/\xs[i]?=some x/\ys[i]?=some y,
  λi H v H'=>∃t x y,v=.ref t/\H t=none/\H'=upd H t (.tup [x,y])/\(∀xs,SqL K H a xs->xs[i]?=some x)/\(∀ys,SqL K H b ys->ys[i]?=some y),
  λi H=>∃xs ys,SqL K H a xs/\SqL K H b ys/\(xs.length<=i\/ys.length<=i)⟩
structure Zap(z TI TO i1 i2:x0):Prop where
 a1:TI≠z
 a2:TO≠z
 a3:i1≠z
 a4:i2≠z
 a5:TI≠TO
 a6:TI≠i1
 a7:TI≠i2
 a8:TO≠i1
 a9:TO≠i2
 b1:i1≠i2
def Zst(z TI TO i1 i2 l1 l2:x0)(i:Nat)(h:qf):Prop:=IsZip h z TI TO .none/\IsPair h TI (.ref i1) (.ref i2)/\(∃a b,IsPair h TO a b)/\h.IsListIter i1 l1 i/\h.IsListIter i2 l2 i
def zl{h:qf}{a b:x0}{o o':Obj}(e:h.get? a=some o)(e':h.get? b=some o')(n:o.cls≠o'.cls):a≠b:=by rintro rfl;rw[e]at e';cases e';exact n rfl
def ypr(z:Nat):Zap (z+4) (z+2) (z+3) z (z+1):=by constructor<;>(show (_:Nat)≠(_:Nat);omega)
def nT{a b:String}(h:Value.type a≠Value.type b):Value.type a≠Value.type b:=h
def Zap.apart{X:Cx}{pins:Θ}{σ:St}{H:Hp}{s:qa}{z TI TO:x0}{xs ys:Ο}(d:Zap z TI TO i1 i2)(st:Zst z TI TO i1 i2 l1 l2 i s.heap)(p:PlainL s.heap l1 xs.toArray)(q:PlainL s.heap l2 ys.toArray)(_:Inv X pins σ H s):ZipApart z TI TO i1 i2 l1 l2:=by
 let⟨l,o,⟨a,b,c⟩,⟨t,n,k,_⟩,⟨r,m,j,_⟩⟩:=st;let⟨u,h,e,_⟩:=p.isList;let⟨v,g,f,_⟩:=q.isList
 exact⟨d.a1,d.a2,d.a3,d.a4,d.a5,d.a6,d.a7,d.a8,d.a9,d.b1,
  zl h l (by rw[e];exact nT (by decide)),zl h c (by rw[e];exact nT (by decide)),zl h n (by rw[e,k];decide),zl h m (by rw[e,j];decide),
  zl g l (by rw[f];exact nT (by decide)),zl g c (by rw[f];exact nT (by decide)),zl g n (by rw[f,k];decide),zl g m (by rw[f,j];decide)⟩
def yl7{P:qh}{w:qd}{K:xr}{x1}(l1 l2 z TI TO i1 i2:x0)(d:Zap z TI TO i1 i2):
  yfh P w K (.Tuple elts x1 tpos) (Itz K l1 l2) [z,TI,TO,i1,i2] z (Zst z TI TO i1 i2 l1 l2) where
 mem:=by simp
 obj:=λi h G b g=>by
  let⟨O,j,⟨_,_,l⟩,⟨o1,e1,_,d1⟩,⟨o2,e2,_,d2⟩⟩:=G;simp only[bC,List.not_mem_nil,or_false]at g;rcases g with rfl|rfl|rfl|rfl|rfl
  .exists _,O,λv z=>by cases z
  .exists _,j,λv z=>by cases z
  .exists _,l,λv z=>by cases z
  .exists o1,e1,λv z=>by rw[d1]at z;cases z
  .exists o2,e2,λv z=>by rw[d2]at z;cases z
 keep:=λi h Y G k=>by
  let⟨O,j,⟨a,b,l⟩,h1,h2⟩:=G;exists k z (by simp) _ O,k TI (by simp) _ j,⟨a,b,k TO (by simp) _ l⟩,h1.at λo e=>k i1 (by simp) o e,h2.at λo e=>k i2 (by simp) o e
 item:=by
  intro X hP hw hK hc i N s σ H E I F G hg;subst hP hw hK;let⟨xs,ys,x,y,U,J,t,hy⟩:=hg;let⟨ab,rv,p,aa⟩:=I.list U;let⟨a7,S,p',a0⟩:=I.list J;let⟨u,hu,ru⟩:=rv.get t;let⟨u',ac,a9⟩:=S.get hy;have D:=d.apart G p p' I;let⟨O,j,⟨va,vb,l⟩,L,M⟩:=G;refine wpAny_pyNext_zip_item D O j l L M p.isList p'.isList (x:=u) (y:=u') (by simpa using hu) (by simpa using ac) λY a1 a2 a3 a4 a5 a6 hk=>?_;exists _,rfl,wpAny_letOwnedTupleGo_zip a1 λr a8 m=>?_;have C:H s.heap.objs.size=none:=I.hok.fresh (bn _);have lz:z<s.heap.objs.size:=bx O;have lo:TO<s.heap.objs.size:=bx l;have lI:TI<s.heap.objs.size:=bx j;have af:i1<s.heap.objs.size:=by let⟨o,e,_⟩:=id L;exact bx e
  have ae:i2<s.heap.objs.size:=by let⟨o,e,_⟩:=id M;exact bx e
  have keep:∀b o,b≠z->b≠TO->b≠i1->b≠i2->s.heap.get? b=some o->r.get? b=some o:=λb o T n2 n3 n4 e=>(m.2 b T).trans (hk b o T n2 n3 n4 e);have Z:r.get? s.heap.objs.size=some { cls:=.type "tuple",data:=.seq #[u,u']}:=(m.2 _ (Nat.ne_of_gt lz)).trans a5;have nt:∀{b v},H b=some v->b≠z/\b≠TO/\b≠i1/\b≠i2:=λ{b v}e=>⟨yb e (F z (by simp)).1,yb e (F TO (by simp)).1,yb e (F i1 (by simp)).1,yb e (F i2 (by simp)).1⟩
  have R:HOk X.prog X.w (upd H s.heap.objs.size (.tup [x,y])) r:=λb o e=>by
   by_cases g:b=s.heap.objs.size
   .subst g;rw[ya]at e;cases e;exists by show 2<=sizeLine;decide,[u,u'],.cons ru (.cons a9 .nil),⟨_,Z,rfl,_,rfl⟩
   .rw[yk g]at e;refine(I.hok b o e).stay (λc v B q=>?_) (λc q=>by rw[yk (yb q C)];exact q) λc ys q=>by rw[yk (yb q C)];exact q
    obtain⟨T,n2,n3,n4⟩:c≠z/\c≠TO/\c≠i1/\c≠i2:=by
     rcases B with rfl|B
     .exact nt e
     .exact nt B
    exact keep c v T n2 n3 n4 q
  have un:Un (frs X.stack) [z,TI,TO,i1,i2] H (upd H s.heap.objs.size (.tup [x,y])) s.heap r:=by
   have Q:∀{b o},b∉[z,TI,TO,i1,i2]->s.heap.get? b=some o->r.get? b=some o:=λ{b o}g e=>keep b o (λq=>g (by simp[q])) (λq=>g (by simp[q])) (λq=>g (by simp[q])) (λq=>g (by simp[q])) e
   refine⟨λb o e n W t=>Q t e,λb o e n W t=>⟨o.slots,Q t e⟩,λb o e n W=>by rw[yk (bR (bx e))];exact n,λb o e t=>⟨o,Q t e⟩,
    λb ys e=>by rw[yk (yb e C)];exact e,λb o v e=>by rw[yk (yb e C)];exact e,λb ps e=>⟨#[],by rw[yk (yb e C),e];simp⟩⟩
  have I1:Inv X N σ (upd H s.heap.objs.size (.tup [x,y])) {s with heap:=r}:=I.call' (s':={s with heap:=r}) rfl un R I.bare λb g=>by
   have f:=F b g;exact⟨f.2.2.2.1,f.2.1,f.2.2.2.2.1,f.2.2.2.2.2⟩
  exists .ref s.heap.objs.size,_,I1,rfl,⟨_,x,y,rfl,C,rfl,λzs h=>by rw[I.list_inj h U];exact t,λzs h=>by rw[I.list_inj h J];exact hy⟩,?_,λb g=>?_
  .exists a8,keep _ _ D.TIz D.TITO D.TIi1 D.TIi2 j,⟨u,u',(m.2 _ D.TOz).trans a2⟩,a3.at λo e=>(m.2 _ D.i1z).trans e,a4.at λo e=>(m.2 _ D.i2z).trans e
  .rw[yk (λq=>?_)]
   .exact(F b g).1
   .have U:b<s.heap.objs.size:=by
     simp only[bC,List.not_mem_nil,or_false]at g;rcases g with rfl|rfl|rfl|rfl|rfl<;>assumption
    exact absurd q (bR U)
 done:=by
  intro X hP hw hK hc i N s σ H E I F G hg;subst hP hw hK;let⟨xs,ys,U,J,t⟩:=hg;let⟨ab,rv,p,aa⟩:=I.list U;let⟨a7,S,p',a0⟩:=I.list J;have D:=d.apart G p p' I;let⟨O,j,⟨va,vb,l⟩,L,M⟩:=G;have hl:=rv.length;have ad:=S.length;refine wpAny_pyNext_zip_end (show X.A.handled=none from I.ok.hd hc) D O j l L M p.isList p'.isList (by simp;omega) λY hk=>⟨rfl,?_⟩;have nt:∀{b v},H b=some v->b≠z/\b≠TO/\b≠i1/\b≠i2:=λ{b v}e=>⟨yb e (F z (by simp)).1,yb e (F TO (by simp)).1,yb e (F i1 (by simp)).1,yb e (F i2 (by simp)).1⟩
  have R:HOk X.prog X.w H Y:=λb o e=>by
   refine(I.hok b o e).stay (λc v B q=>?_) (λc q=>q) λc ys q=>q
   obtain⟨T,n2,n3,n4⟩:c≠z/\c≠TO/\c≠i1/\c≠i2:=by
    rcases B with rfl|B
    .exact nt e
    .exact nt B
   exact hk c v T n2 n3 n4 q
  have un:Un (frs X.stack) [z,TI,TO,i1,i2] H H s.heap Y:=by
   have Q:∀{b o},b∉[z,TI,TO,i1,i2]->s.heap.get? b=some o->Y.get? b=some o:=λ{b o}g e=>hk b o (λq=>g (by simp[q])) (λq=>g (by simp[q])) (λq=>g (by simp[q])) (λq=>g (by simp[q])) e;exists λb o e n W t=>Q t e,λb o e n W t=>⟨o.slots,Q t e⟩,λb o e n W=>n,λb o e t=>⟨o,Q t e⟩,λb ys e=>e,λb o v e=>e,λb ps e=>⟨#[],by rw[e];simp⟩
  exact I.call' (s':={s with heap:=Y}) rfl un R I.bare λb g=>by
   have f:=F b g;exact⟨f.2.2.2.1,f.2.1,f.2.2.2.2.1,f.2.2.2.2.2⟩
 self:=λW W W W W G h=>wpAny_pyIter_zip G.1 h
section
variable{X:Cx}
def vfn(K:xr)(ta:TA):TI:=λσ H R=>ta σ H λvs H1=>∃a b,vs=[.ref a,.ref b]/\(∃xs ys,SqL K H1 a xs/\SqL K H1 b ys)/\R (Itz K a b) H1
def ypx{x1}{l m:qg}{ta:TA}{p pos:Pos}(hg:Gl X "zip")(hm:X.mg "zip"=none)(ha:PA X [l,m] ta)(hs:starEach [l,m] X.env=[(false,eval l X.env),(false,eval m X.env)]:=by rfl)(hs2:starEach [m] X.env=[(false,eval m X.env)]:=by rfl):
  PI X (.Tuple elts x1 tpos) (.Call (.Name "zip" p) [l,m] [] pos) (vfn X.K ta):=by
 intro f s σ H R I h;refine Call_ (Ĭ I hg hm (show bootBuiltins "zip"=some (.type "zip") by decide+kernel) (PyProof.Rows.callWith_type1 (thn (ha pos f s σ H _ I h) λN c h'=>?_) (by rw[hs,hs2]) (by rw[hs2];rfl)));let⟨J,v,d,D,B⟩:=h';let⟨a,b,e,⟨M,O,w,k⟩,q⟩:=B;subst e
 cases D with
 |cons r rr =>
  cases rr with
  |cons r' rr =>
   cases rr;cases r;cases r';let⟨C,P,F,t⟩:=d.list w;let⟨u,E,j,x⟩:=d.list k;refine call_zip_2 F.isList j.isList λL t o i G A y z=>?_;refine wpAny_pyIter_zip t ?_;have n:Zap (c.heap.objs.size+4) (c.heap.objs.size+2) (c.heap.objs.size+3) c.heap.objs.size (c.heap.objs.size+1):=ypr _;exists c.heap.objs.size+4,[c.heap.objs.size+4,c.heap.objs.size+2,c.heap.objs.size+3,c.heap.objs.size,c.heap.objs.size+1],_,_,v,rfl,d.kept (t':=c.toks) z,yl7 a b _ _ _ _ _ n,⟨t,o,⟨_,_,i⟩,G,A⟩,λb g=>?_,q
   have g:c.heap.objs.size<=b:=by
    simp only[bC,List.not_mem_nil,or_false]at g;rcases g with rfl|rfl|rfl|rfl|rfl<;>omega
   exact d.fpOk g (d.hok.fresh g)
def yxu{K:xr}{ta:TA}{σ:St}{H:Hp}{R:It->Hp->Prop}(h:ta σ H λvs H1=>∃a b,vs=[.ref a,.ref b]/\(∃xs ys,SqL K H1 a xs/\SqL K H1 b ys)/\R (Itz K a b) H1):vfn K ta σ H R:=h
end
def ő{K:xr}{a b D:x0}{xs ys:Υ}{g:TG}{te:TE}{n:Nat}{fr:St}{R:Hp->Prop}{H1:Hp}(f:Nat->V)(hq:SqL K H1 a xs)(hq':SqL K H1 b ys)(hl:ys.length=xs.length)(hD:H1 D=none)
  (hs:∀i x y H t pre,xs[i]?=some x->ys[i]?=some y->yv H1 H->H D=some (.lst ((List.range i).map f))->H t=none->List.length pre=n->g (.ref t) (pre++fr) (upd H t (.tup [x,y])) λσ' H'=>(∃pre',List.length pre'=n/\σ'=pre'++fr)/\te σ' H' (MpK H1 D f xs.length i))
  (hd:∀H,yv H1 H->H D=some (.lst ((List.range xs.length).map f))->R H):ju (Itz K a b) g te n fr D R H1:=by
 exists cW xs.length (Mp H1 D f),⟨xs.length,by simp,bK _,Mp.zero hD⟩,?_;rintro i m H ⟨rfl,o,p⟩;have q:=p.1.seq hq;have c:=p.1.seq hq';by_cases hlt:i<xs.length
 .refine .inr ⟨⟨xs,ys,xs[i],ys[i]'(by omega),q,c,by simp[hlt],by simp[hl,hlt]⟩,λy H' pre k l=>?_⟩;let⟨t,x,y,rfl,j,rfl,d,h⟩:=k;exact hs i x y H t pre (d xs q) (h ys c) p.1 p.2 j l
 .have e:i=xs.length:=by omega
  subst e;exact .inl ⟨⟨xs,ys,q,c,.inl (bn _)⟩,hd H p.1 p.2⟩
section
variable{X:Cx}{iter elt tg:qg}{xs:Τ}{g:TG}{pos:Pos}{scope:Scope}{te:TE}{wi:TI}{ys:Τ}{js:qi Nat}
def yli{y:Str}{py spos:Pos}(hN:X.N.Nodup)(hy:X.N[i]?=some y)(hl:X.env.scope.names.lookup y=some .local)(hc:X.calm=true)(hi:PI X tg iter wi)
  (he:∀(C:x0)(s2:qa)(H2:Hp)(fp:Χ),PE (X.compT scope ys C xs s2 H2 fp) elt te) (hjs:js.map (λj=>X.N[j]?)=ys.map some)
  (hgt:∀(C:x0)(s2:qa)(H2:Hp)(fp:Χ),PG (X.compT scope ys C xs s2 H2 fp) tg g)
  (hclos:closureFor scope X.env=pure (ñ ys X.env)) (hyc:∀y∈ys,X.env.kindOf y=some .cell) (hrel:∀y∈ys,(relabel scope X.env).names.lookup y=some .cell)
  (hsw:swapsWith (.ListComp elt [⟨tg,iter,[],0⟩] scope pos) (some (.Name y py)) spos.line X.env=pure true:=by rfl)
  (hfr:∀y∈scope.names,y.2=.free->y.1∈ys:=by decide+kernel) (hcell:∀y∈scope.names,y.2≠.cell:=by decide+kernel) (hkind:scope.kind=.function:=by rfl)
  (hnames:∀y∈scope.names,y.2=.local->scope.names.lookup y.1=some .local:=by decide+kernel) (hs:∀x,foldedSetIterable iter X.env x=pure x:=by intro _;rfl):
  PS X (.Assign [.Name y py] (.ListComp elt [⟨tg,iter,[],0⟩] scope pos) spos) (ywp (ykj wi g te xs.length js) (w9 i)):=by
 refine .mk λa s σ H u I h=>?_;rw[exec_Assign_Name_used _ _ _ _ hsw];refine bg (wpAny_standAt (bg ?_));show wpAny _ X.A (do let _ <- comprehension (.ListComp elt [⟨tg,iter,[],0⟩] scope pos) scope X.env _ (newList []) false (eval iter X.env) (some (assign (.Name y py) X.env))) _ _ s;refine bg (cN (wpAny_comprehension_free (use:=some (assign (.Name y py) X.env)) (Q:=λZ d=>SP X a u .next d) rfl hs hclos hkind hnames (thn (hi a s σ H _ I h) λv W O=>thn O λK s2 F=>?_)) (λZ d B=>bp (bp B)) λZ Z e=>e);let⟨P,fp,U,J,H2,e,L,T,t,M,h⟩:=F;subst e;refine à (R:=λD n=>w9 i (.ref D) σ n u.nx) (RR:=compPost (model X.prog X.w) X.A X.xe (some (assign (.Name y py) X.env)) (λZ d=>SP X a u .next d)) hc he hgt hcell hkind hfr hyc hrel hjs L T t M h ?_;intro D C n d m f G E q;refine wpAny_assign_Name (Æ (v:=V.ref D) E hN hy (Or.inl hl) rfl (λp l r=>?_) (Or.inr hl));exists m,?_,λS k=>⟨_,n,?_,q⟩
 .obtain⟨b,k,c⟩:=r;refine G.sameBut k λz=>?_;rcases c with c|c
  .exact f.2.1 (z.trans c)
  .exact f.2.2.2.2.1 y b c z.symm
 .exact l.turned (t':=p.toks) (λb o c e=>k.extBut b o c e) f.1 f.2.1 f.2.2.2.1 f.2.2.2.2.1 f.2.2.2.2.2
end
section
variable{X:Cx}
def onI(f:Int->Int):V->V
 | .int i=>.int (f i)
 |v=>v
def yi5(f:Int->Int)(ns:Ρ):(ns.map V.int).map (onI f)=(ns.map f).map V.int:=by rw[bS,bS];rfl
def ykn{pre:qi (Ψ)}(h:List.length pre=2):∃v1 v2,pre=[v1,v2]:=by let⟨v1,t,rfl,a⟩:=ja h;let⟨v2,t,rfl,b⟩:=ja a;exists v1,v2,by rw[List.length_eq_zero_iff.mp b]
end
def vbn{to ti:TE}{t:vcy}{v:V}{σ:St}{H:Hp}{Q:Ζ}(h:to σ H λo H1=>ti σ H1 λi H2=>t o i v H2 λH3=>Q σ H3):vfi to ti t v σ H Q:=h
section
variable{X:Cx}
def vb5:V->qi V->Hp->VK->Prop:=λx vs H Q=>∃i:Int,x=.int i/\vs=[]/\Q (.int (Builtin.Int.intBits i:Nat)) H
def ysd:MtR X "int.bit_length" vb5:=by intro b s σ H x e v f Q I d c h;let⟨i,rfl,rfl,q⟩:=h;let⟨t,rfl⟩:=d;have a:=c.zero;subst a;exact PyProof.Rows.call_int_bit_length ⟨.int _,H,I.tok _,⟨_,rfl⟩,q⟩
def yy8{K:xr}{i:Int}{H:Hp}{Q:VK}(h:Q (.int (Builtin.Int.intBits i:Nat)) H):tyV K "int" (.int i) H/\vb5 (.int i) [] H Q:=⟨rfl,i,rfl,rfl,h⟩
end
section
variable{prog:qh}{w:qd}{A:qe}{E:Δ}{s:qa}
def yll{z TI TO:x0}{x y b:qb}{Q:Δ}(D:ZipApart z TI TO i1 i2 l1 l2)(hz:IsZip s.heap z TI TO .none)(hTI:IsPair s.heap TI (.ref i1) (.ref i2))(hTO:IsPair s.heap TO a b)
  (h1:s.heap.IsTupleIter i1 l1 k1) (h2:s.heap.IsTupleIter i2 l2 k2) (hl1:s.heap.IsTuple l1 xs) (hl2:s.heap.IsTuple l2 ys) (hx:xs[k1]?=some x) (hy:ys[k2]?=some y)
  (hQ:∀h',IsZip h' z TI TO (rawInt s.heap.objs.size)->IsPair h' TO x y->h'.IsTupleIter i1 l1 (k1+1)->h'.IsTupleIter i2 l2 (k2+1)->IsPair h' s.heap.objs.size x y->h'.objs.size=s.heap.objs.size+1->(∀c o,c≠z->c≠TO->c≠i1->c≠i2->s.heap.get? c=some o->h'.get? c=some o)->Q (.ref s.heap.objs.size) {s with heap:=h'}):
  wpAny (model prog w) A (Builtin.«zip.__next__» ⟨[.ref z],[]⟩) (λfin s'=>∃v,fin=.done (.ret v)/\Q v s') E s:=by
 (show wpAny _ _ (field (.ref z) 2 >>=_) _ _ _);refine bg (cy hz rfl (x:=.bool false) rfl ?_)
 (show wpAny _ _ (field (.ref z) 3 >>=_) _ _ _);refine bg (cy hz rfl (x:=.ref TI) rfl ?_);refine bg (wpAny_seqItems hTI rfl ?_)
 (show wpAny _ _ (Builtin.SmallTypes.ownedTupleIsFree (.ref z) >>=_) _ _ _);refine bg ?_;unfold Builtin.SmallTypes.ownedTupleIsFree
 refine bg (cy hz rfl (x:=.none) rfl (bp ?_));simp only[if_true];refine bg (wpAny_rule ?_);refine bg (cy hz rfl (x:=.ref TO) rfl ?_);refine bg (wpAny_setField_rec hz (by simp) λh₁ hz₁ hs₁=>?_)
 replace hz₁:IsZip h₁ z TI TO .ellipsis:=hz₁;refine bg ?_;simp only[List.zipIdx_cons,List.zipIdx_nil,List.forIn_cons,List.forIn_nil]
 refine bg (bg (wpAny_onRaise ?_));(show wpAny _ _ (Builtin.SmallTypes.nextOf (.ref i1) >>=_) _ _ _);refine bg (ξ (h1.at λo e=>hs₁.extBut _ _ D.i1z e) (hl1.extBut hs₁.extBut D.l1z) hx λh₂ h1₂ hs₂=>bp ?_);have hTO₂:IsPair h₂ TO a b:=hs₂.extBut _ _ D.TOi1 (hs₁.extBut _ _ D.TOz hTO);refine bg (wpAny_seqItems hTO₂ rfl ?_);refine bg (wpAny_updateSeq_pair hTO₂ λh₃ hTO₃ hs₃=>?_);replace hTO₃:IsPair h₃ TO x b:=hTO₃;refine bg (wpAny_letGo (bp ?_));refine bg (bg (wpAny_onRaise ?_));(show wpAny _ _ (Builtin.SmallTypes.nextOf (.ref i2) >>=_) _ _ _);refine bg (ξ (h2.at λo e=>hs₃.extBut _ _ D.TOi2.symm (hs₂.extBut _ _ D.i12.symm (hs₁.extBut _ _ D.i2z e))) (((hl2.extBut hs₁.extBut D.l2z).extBut hs₂.extBut D.l2i1).extBut hs₃.extBut D.l2TO) hy λh₄ h2₄ hs₄=>bp ?_);have hTO₄:IsPair h₄ TO x b:=hs₄.extBut _ _ D.TOi2 hTO₃;refine bg (wpAny_seqItems hTO₄ rfl ?_);refine bg (wpAny_updateSeq_pair hTO₄ λh₅ hTO₅ hs₅=>?_);replace hTO₅:IsPair h₅ TO x y:=hTO₅;refine bg (wpAny_letGo (bp (bp ?_)));refine bg (wpAny_seqItems hTO₅ rfl ?_);refine bg (wpAny_newTuple ?_);have g:h₅.objs.size=s.heap.objs.size:=by(rw[hs₅.1,hs₄.1,hs₃.1,hs₂.1,hs₁.1])
 have hz₅:IsZip h₅ z TI TO .ellipsis:=(hs₅.extBut _ _ D.TOz.symm (hs₄.extBut _ _ D.i2z.symm (hs₃.extBut _ _ D.TOz.symm (hs₂.extBut _ _ D.i1z.symm hz₁))));have hk₅:∀c o,c≠z->c≠TO->c≠i1->c≠i2->s.heap.get? c=some o->h₅.get? c=some o:=λc o f j l m e=>hs₅.extBut _ _ j (hs₄.extBut _ _ m (hs₃.extBut _ _ j (hs₂.extBut _ _ l (hs₁.extBut _ _ f e))));have h1₅:h₅.IsTupleIter i1 l1 (k1+1):=h1₂.at λo e=>hs₅.extBut _ _ D.TOi1.symm (hs₄.extBut _ _ D.i12 (hs₃.extBut _ _ D.TOi1.symm e));have h2₅:h₅.IsTupleIter i2 l2 (k2+1):=h2₄.at λo e=>hs₅.extBut _ _ D.TOi2.symm e;have d:z<h₅.objs.size:=(bx hz₅)
 (show wpAny _ _ (Builtin.SmallTypes.ownedTupleHandOut (.ref z) (.ref h₅.objs.size) >>=_) _ _ _);refine bg ?_;unfold Builtin.SmallTypes.ownedTupleHandOut
 have hz₆:IsZip (h₅.push { cls:=.type "tuple",data:=.seq #[x,y]}) z TI TO .ellipsis:=(bj _ hz₅);refine bg (wpAny_setField_rec hz₆ (by simp) λh₇ hz₇ hs₇=>?_);replace hz₇:IsZip h₇ z TI TO (rawInt h₅.objs.size):=hz₇;refine wpAny_setField_rec hz₇ (by simp) λh₈ hz₈ hs₈=>?_;replace hz₈:IsZip h₈ z TI TO (rawInt h₅.objs.size):=hz₈;have k:∀c o,c≠z->h₅.get? c=some o->h₈.get? c=some o:=(λc o f e=>hs₈.extBut _ _ f (hs₇.extBut _ _ f (bj _ e)));have hT₈:IsPair h₈ h₅.objs.size x y:=(hs₈.extBut _ _ (Nat.ne_of_gt d) (hs₇.extBut _ _ (Nat.ne_of_gt d) (bA _ rfl)));have i:h₈.objs.size=h₅.objs.size+1:=by(rw[hs₈.1,hs₇.1,Heap.size_push])
 (rw[g]at hz₈ hT₈ i);refine bp ⟨_,rfl,?_⟩;show Q (.ref h₅.objs.size) _;rw[g]
 exact hQ h₈ hz₈ (k _ _ D.TOz hTO₅) (h1₅.at λo e=>k _ o D.i1z e) (h2₅.at λo e=>k _ o D.i2z e) hT₈ i (λc o f j l m e=>k c o f (hk₅ c o f j l m e))
def yse{z TI TO:x0}{b:qb}{Q:Fin->qa->Prop}(hh:A.handled=none)(D:ZipApart z TI TO i1 i2 l1 l2)(hz:IsZip s.heap z TI TO .none)(hTI:IsPair s.heap TI (.ref i1) (.ref i2))(hTO:IsPair s.heap TO a b)
  (h1:s.heap.IsTupleIter i1 l1 k1) (h2:s.heap.IsTupleIter i2 l2 k2) (hl1:s.heap.IsTuple l1 xs) (hl2:s.heap.IsTuple l2 ys) (hend:xs[k1]?=none\/ys[k2]?=none)
  (hE:∀h' e,(∀c o,c≠z->c≠TO->c≠i1->c≠i2->s.heap.get? c=some o->h'.get? c=some o)->(∃o,h'.get? e=some o/\o.cls=.type "StopIteration")->E (.ref e) {s with heap:=h'}):wpAny (model prog w) A (Builtin.«zip.__next__» ⟨[.ref z],[]⟩) Q E s:=by
 (show wpAny _ _ (field (.ref z) 2 >>=_) _ _ _);refine bg (cy hz rfl (x:=.bool false) rfl ?_)
 (show wpAny _ _ (field (.ref z) 3 >>=_) _ _ _);refine bg (cy hz rfl (x:=.ref TI) rfl ?_);refine bg (wpAny_seqItems hTI rfl ?_)
 (show wpAny _ _ (Builtin.SmallTypes.ownedTupleIsFree (.ref z) >>=_) _ _ _);refine bg ?_;unfold Builtin.SmallTypes.ownedTupleIsFree
 refine bg (cy hz rfl (x:=.none) rfl (bp ?_));simp only[if_true];refine bg (wpAny_rule ?_);refine bg (cy hz rfl (x:=.ref TO) rfl ?_);refine bg (wpAny_setField_rec hz (by simp) λh₁ hz₁ hs₁=>?_)
 replace hz₁:IsZip h₁ z TI TO .ellipsis:=hz₁;refine bg ?_;simp only[List.zipIdx_cons,List.zipIdx_nil,List.forIn_cons,List.forIn_nil]
 refine bg (bg (wpAny_onRaise ?_));(show wpAny _ _ (Builtin.SmallTypes.nextOf (.ref i1) >>=_) _ _ _)
 cases hx:xs[k1]? with
 |none =>
  refine bg (Ď hh (h1.at λo e=>hs₁.extBut _ _ D.i1z e) (hl1.extBut hs₁.extBut D.l1z) hx λh₂ e hs₂ l=>?_);let⟨k,d,f⟩:=l;have hz₂:IsZip h₂ z TI TO .ellipsis:=hs₂ _ _ D.i1z.symm hz₁;have g:e≠z:=(λx=>by(subst x;rw[hz₂]at d;cases d;simp at f));exact wpAny_setField_rec hz₂ (by simp) λh₃ Z hs₃=>hE h₃ e (λc o i Z j Z x=>hs₃.extBut _ _ i (hs₂ _ _ j (hs₁.extBut _ _ i x))) ⟨k,hs₃.extBut _ _ g d,f⟩
 |some x =>
  have n:ys[k2]?=none:=by(rcases hend with h|h;(rw[hx]at h;cases h);exact h)
  refine bg (ξ (h1.at λo e=>hs₁.extBut _ _ D.i1z e) (hl1.extBut hs₁.extBut D.l1z) hx λh₂ h1₂ hs₂=>bp ?_);have hTO₂:IsPair h₂ TO a b:=(hs₂.extBut _ _ D.TOi1 (hs₁.extBut _ _ D.TOz hTO));refine bg (wpAny_seqItems hTO₂ rfl ?_);refine bg (wpAny_updateSeq_pair hTO₂ λh₃ hTO₃ hs₃=>?_);refine bg (wpAny_letGo (bp ?_));refine bg (bg (wpAny_onRaise ?_));(show wpAny _ _ (Builtin.SmallTypes.nextOf (.ref i2) >>=_) _ _ _);refine bg (Ď hh (h2.at λo e=>hs₃.extBut _ _ D.TOi2.symm (hs₂.extBut _ _ D.i12.symm (hs₁.extBut _ _ D.i2z e))) (((hl2.extBut hs₁.extBut D.l2z).extBut hs₂.extBut D.l2i1).extBut hs₃.extBut D.l2TO) n λh₄ e hs₄ l=>?_);let⟨k,d,f⟩:=l;have hz₄:IsZip h₄ z TI TO .ellipsis:=hs₄ _ _ D.i2z.symm (hs₃.extBut _ _ D.TOz.symm (hs₂.extBut _ _ D.i1z.symm hz₁));have g:e≠z:=(λx=>by(subst x;rw[hz₄]at d;cases d;simp at f));exact wpAny_setField_rec hz₄ (by simp) λh₅ Z hs₅=>hE h₅ e (λc o i m j p x=>hs₅.extBut _ _ i (hs₄ _ _ p (hs₃.extBut _ _ m (hs₂.extBut _ _ j (hs₁.extBut _ _ i x))))) ⟨k,hs₅.extBut _ _ g d,f⟩
def ynj{z TI TO:x0}{x y b:qb}{Q:qj qb->qa->Prop}(D:ZipApart z TI TO i1 i2 l1 l2)(hz:IsZip s.heap z TI TO .none)(hTI:IsPair s.heap TI (.ref i1) (.ref i2))(hTO:IsPair s.heap TO a b)
  (h1:s.heap.IsTupleIter i1 l1 k1) (h2:s.heap.IsTupleIter i2 l2 k2) (hl1:s.heap.IsTuple l1 xs) (hl2:s.heap.IsTuple l2 ys) (hx:xs[k1]?=some x) (hy:ys[k2]?=some y)
  (hQ:∀h',IsZip h' z TI TO (rawInt s.heap.objs.size)->IsPair h' TO x y->h'.IsTupleIter i1 l1 (k1+1)->h'.IsTupleIter i2 l2 (k2+1)->IsPair h' s.heap.objs.size x y->h'.objs.size=s.heap.objs.size+1->(∀c o,c≠z->c≠TO->c≠i1->c≠i2->s.heap.get? c=some o->h'.get? c=some o)->Q (some (.ref s.heap.objs.size)) {s with heap:=h'}):
  wpAny (model prog w) A (pyNext (.ref z)) Q E s:=by
 have d:s.TypeIs (.ref z) "zip":=(⟨_,hz,rfl⟩);unfold pyNext;exact bg (wpAny_attempt (wpAny_callSpecial?_slot (name:=Str.ofString "__next__") d F.slot_zip_next (wpAny_call_entry F.slot_zip_next d F.entry_zip_next
   (yll D hz hTI hTO h1 h2 hl1 hl2 hx hy λh' j g e i k h f=>bp (hQ h' j g e i k h f)) (F.args_zip_next_1 _))))
def yng{z TI TO:x0}{b:qb}{Q:qj qb->qa->Prop}(hh:A.handled=none)(D:ZipApart z TI TO i1 i2 l1 l2)(hz:IsZip s.heap z TI TO .none)(hTI:IsPair s.heap TI (.ref i1) (.ref i2))(hTO:IsPair s.heap TO a b)
  (h1:s.heap.IsTupleIter i1 l1 k1) (h2:s.heap.IsTupleIter i2 l2 k2) (hl1:s.heap.IsTuple l1 xs) (hl2:s.heap.IsTuple l2 ys) (hend:xs[k1]?=none\/ys[k2]?=none)
  (hQ:∀h',(∀c o,c≠z->c≠TO->c≠i1->c≠i2->s.heap.get? c=some o->h'.get? c=some o)->Q none {s with heap:=h'}):wpAny (model prog w) A (pyNext (.ref z)) Q E s:=by
 have d:s.TypeIs (.ref z) "zip":=(⟨_,hz,rfl⟩);unfold pyNext;refine bg (wpAny_attempt (wpAny_callSpecial?_slot (name:=Str.ofString "__next__") d F.slot_zip_next (wpAny_call_entry F.slot_zip_next d F.entry_zip_next
  (yse hh D hz hTI hTO h1 h2 hl1 hl2 hend λh' e g i=>?_) (F.args_zip_next_1 _))))
 let⟨o,f,h⟩:=i;refine bg (wpAny_isInstance (T:="StopIteration") (b:=true) ⟨o,f,h⟩ isSubtype_stop ?_);exact bp (hQ _ g)
end
abbrev zT1(h:qf)(l1:x0):qf:=h.push { cls:=.type "tuple_iterator",data:=.fields #[.ref l1,.int 0 0]}
abbrev zT2(h:qf)(l1 l2:x0):qf:=(zT1 h l1).push { cls:=.type "tuple_iterator",data:=.fields #[.ref l2,.int 0 0]}
abbrev zT3(h:qf)(l1 l2:x0):qf:=(zT2 h l1 l2).push { cls:=.type "tuple",data:=.seq #[.ref h.objs.size,.ref (zT1 h l1).objs.size]}
abbrev zT4(h:qf)(l1 l2:x0):qf:=(zT3 h l1 l2).push { cls:=.type "tuple",data:=.seq #[.none,.none]}
abbrev zT5(h:qf)(l1 l2:x0):qf:=(zT4 h l1 l2).push { cls:=.type "zip",data:=.fields #[.none,.bool false,.bool false,.ref (zT2 h l1 l2).objs.size,.ref (zT3 h l1 l2).objs.size]}
def yrd(l1 l2:x0)(xs ys:Array qb):Meets (Builtin.«zip.__new__» ⟨[.type "zip",.ref l1,.ref l2],[]⟩) (λZ R s=>s.heap.IsTuple l1 xs/\s.heap.IsTuple l2 ys/\R (.ok (.ret (.ref (zT4 s.heap l1 l2).objs.size))) {s with heap:=zT5 s.heap l1 l2}) :=
 .of_wp λj w A R s h=>by
  let⟨l,g,d,f,k⟩:=s;let⟨b,a,h⟩:=h;have i:=sub_zip;have c:Heap.IsTuple (Shared.heap ⟨l,g,d,f,k⟩) l1 xs:=b;have e:Heap.IsTuple (Shared.heap ⟨l.push { cls:=.type "tuple_iterator",data:=.fields #[.ref l1,.int 0 0]},g,d,f,k⟩) l2 ys:=Heap.IsTuple.push a _
  wp_walk using wpAny_pyIter_tuple c,wpAny_pyIter_tuple e
  exists _,rfl,h
section
variable{prog:qh}{w:qd}{A:qe}{E:Δ}{s:qa}
def yne{Q:Δ}(hl1:s.heap.IsTuple l1 xs)(hl2:s.heap.IsTuple l2 ys)
  (h:∀h',IsZip h' (s.heap.objs.size+4) (s.heap.objs.size+2) (s.heap.objs.size+3) .none->IsPair h' (s.heap.objs.size+2) (.ref s.heap.objs.size) (.ref (s.heap.objs.size+1))->IsPair h' (s.heap.objs.size+3) .none .none->h'.IsTupleIter s.heap.objs.size l1 0->h'.IsTupleIter (s.heap.objs.size+1) l2 0 ->
   (∀c o,s.heap.get? c=some o->h'.get? c=some o)->Q (.ref (s.heap.objs.size+4)) {s with heap:=h'}):wpAny (model prog w) A (call (.type "zip") [.ref l1,.ref l2]) Q E s:=by
 refine callType_new F.called_zip (by decide) (F.typeCall_zip_2 _ _) (F.newCall_zip_2 _ _) (λd=>F.args_object_init_3 d _ _) F.entry_zip_new (yrd l1 l2 xs ys) ⟨hl1,hl2,?_⟩;have b:(zT1 s.heap l1).objs.size=s.heap.objs.size+1:=Heap.size_push ..;have e:(zT2 s.heap l1 l2).objs.size=s.heap.objs.size+2:=by rw[Heap.size_push,b]
 have a:(zT3 s.heap l1 l2).objs.size=s.heap.objs.size+3:=by rw[Heap.size_push,e]
 have f:(zT4 s.heap l1 l2).objs.size=s.heap.objs.size+4:=by rw[Heap.size_push,a]
 have g5:(zT5 s.heap l1 l2).get? (zT4 s.heap l1 l2).objs.size=some _:=bA _ rfl;have g4:(zT5 s.heap l1 l2).get? (zT3 s.heap l1 l2).objs.size=some _:=bj _ (bA _ rfl);have g3:(zT5 s.heap l1 l2).get? (zT2 s.heap l1 l2).objs.size=some _:=bj _ (bj _ (bA _ rfl));have g2:(zT5 s.heap l1 l2).get? (zT1 s.heap l1).objs.size=some _:=bj _ (bj _ (bj _ (bA _ rfl)));have g1:(zT5 s.heap l1 l2).get? s.heap.objs.size=some _:=(bj _ (bj _ (bj _ (bj _ (bA _ rfl)))));show _/\_;rw[e,a,f]at g5;rw[b,e]at g3;rw[a]at g4;rw[b]at g2;rw[f];exists⟨_,g5,rfl⟩,h _ g5 g3 g4 ⟨_,g1,rfl,rfl⟩ ⟨_,g2,rfl,rfl⟩ λc o x=>(bj _ (bj _ (bj _ (bj _ (bj _ x)))))
end
def vcq(K:xr)(a b:x0):It :=
 ⟨λi H=>∃xs ys x y,SqT K H a xs/\SqT K H b ys/\xs[i]?=some x/\ys[i]?=some y,
  λi H v H'=>∃t x y,v=.ref t/\H t=none/\H'=upd H t (.tup [x,y])/\(∀xs,SqT K H a xs->xs[i]?=some x)/\(∀ys,SqT K H b ys->ys[i]?=some y),
  λi H=>∃xs ys,SqT K H a xs/\SqT K H b ys/\(xs.length<=i\/ys.length<=i)⟩
def vfq(z TI TO i1 i2 l1 l2:x0)(i:Nat)(h:qf):Prop:=IsZip h z TI TO .none/\IsPair h TI (.ref i1) (.ref i2)/\(∃a b,IsPair h TO a b)/\h.IsTupleIter i1 l1 i/\h.IsTupleIter i2 l2 i
def Zap.apartT{X:Cx}{H:Hp}{s:qa}{z TI TO:x0}{xs ys:Ο}{us vs:Υ}(d:Zap z TI TO i1 i2)(st:vfq z TI TO i1 i2 l1 l2 i s.heap)(p:s.heap.IsTuple l1 xs.toArray)(q:s.heap.IsTuple l2 ys.toArray)(hn:H TO=none)(hK:X.K.lookup TO=none)
  (hq:SqT X.K H l1 us) (hq':SqT X.K H l2 vs):ZipApart z TI TO i1 i2 l1 l2:=by
 let⟨n,v,⟨a,b,w⟩,⟨y,u,m,_⟩,⟨x,t,k,_⟩⟩:=st;let⟨A,j,e,_⟩:=p;let⟨B,g,f,_⟩:=q
 have c:∀{l:x0}{r:Υ},SqT X.K H l r->l≠TO:=λ{l r}h=>by
  rintro rfl;rcases h with(h|⟨o,h⟩)|⟨_,_,_,h,_⟩
  .rw[hn]at h;cases h
  .rw[hn]at h;cases h
  .rw[hK]at h;cases h
 exact⟨d.a1,d.a2,d.a3,d.a4,d.a5,d.a6,d.a7,d.a8,d.a9,d.b1,
  zl j n (by rw[e];exact nT (by decide)),c hq,zl j u (by rw[e,m];decide),zl j t (by rw[e,k];decide),
  zl g n (by rw[f];exact nT (by decide)),c hq',zl g u (by rw[f,m];decide),zl g t (by rw[f,k];decide)⟩
def yir{P:qh}{w:qd}{K:xr}{x1}(l1 l2 z TI TO i1 i2:x0)(d:Zap z TI TO i1 i2)(hKT:K.lookup TO=none):
  yfh P w K (.Tuple elts x1 tpos) (vcq K l1 l2) [z,TI,TO,i1,i2] z (vfq z TI TO i1 i2 l1 l2) where
 mem:=by simp
 obj:=λi h L b g=>by
  let⟨R,j,⟨_,_,l⟩,⟨o1,e1,_,d1⟩,⟨o2,e2,_,d2⟩⟩:=L;simp only[bC,List.not_mem_nil,or_false]at g;rcases g with rfl|rfl|rfl|rfl|rfl
  .exists _,R,λv z=>by cases z
  .exists _,j,λv z=>by cases z
  .exists _,l,λv z=>by cases z
  .exists o1,e1,λv z=>by rw[d1]at z;cases z
  .exists o2,e2,λv z=>by rw[d2]at z;cases z
 keep:=λi h h' L k=>by
  let⟨R,j,⟨a,b,l⟩,h1,h2⟩:=L;exists k z (by simp) _ R,k TI (by simp) _ j,⟨a,b,k TO (by simp) _ l⟩,h1.at λo e=>k i1 (by simp) o e,h2.at λo e=>k i2 (by simp) o e
 item:=by
  intro X hP hw hK hc i Q s σ H E I C L hg;subst hP hw hK;let⟨xs,ys,x,y,O,G,t,hy⟩:=hg;let⟨Y,rv,p0,aa⟩:=I.tuple O;let⟨J,Z,U,a7⟩:=I.tuple G;have p:s.heap.IsTuple l1 Y.toArray:=p0;have p':s.heap.IsTuple l2 J.toArray:=U;let⟨u,hu,ru⟩:=rv.get t;let⟨u',ab,a9⟩:=Z.get hy;have D:=d.apartT L p p' (C TO (by simp)).1 hKT O G;let⟨R,j,⟨va,vb,l⟩,M,N⟩:=L;refine ynj D R j l M N p p' (x:=u) (y:=u') (by simpa using hu) (by simpa using ab) λh' a1 a2 a3 a4 a5 a6 hk=>?_;exists _,rfl,wpAny_letOwnedTupleGo_zip a1 λr a8 m=>?_;have F:H s.heap.objs.size=none:=I.hok.fresh (bn _);have lz:z<s.heap.objs.size:=bx R;have lo:TO<s.heap.objs.size:=bx l;have lI:TI<s.heap.objs.size:=bx j;have ae:i1<s.heap.objs.size:=by let⟨o,e,_⟩:=id M;exact bx e
  have ad:i2<s.heap.objs.size:=by let⟨o,e,_⟩:=id N;exact bx e
  have keep:∀b o,b≠z->b≠TO->b≠i1->b≠i2->s.heap.get? b=some o->r.get? b=some o:=λb o n1 n2 n3 n4 e=>(m.2 b n1).trans (hk b o n1 n2 n3 n4 e);have a0:r.get? s.heap.objs.size=some { cls:=.type "tuple",data:=.seq #[u,u']}:=(m.2 _ (Nat.ne_of_gt lz)).trans a5;have nt:∀{b v},H b=some v->b≠z/\b≠TO/\b≠i1/\b≠i2:=λ{b v}e=>⟨yb e (C z (by simp)).1,yb e (C TO (by simp)).1,yb e (C i1 (by simp)).1,yb e (C i2 (by simp)).1⟩
  have T:HOk X.prog X.w (upd H s.heap.objs.size (.tup [x,y])) r:=λb o e=>by
   by_cases g:b=s.heap.objs.size
   .subst g;rw[ya]at e;cases e;exists by show 2<=sizeLine;decide,[u,u'],.cons ru (.cons a9 .nil),⟨_,a0,rfl,_,rfl⟩
   .rw[yk g]at e;refine(I.hok b o e).stay (λc v B q=>?_) (λc q=>by rw[yk (yb q F)];exact q) λc ys q=>by rw[yk (yb q F)];exact q
    obtain⟨n1,n2,n3,n4⟩:c≠z/\c≠TO/\c≠i1/\c≠i2:=by
     rcases B with rfl|B
     .exact nt e
     .exact nt B
    exact keep c v n1 n2 n3 n4 q
  have un:Un (frs X.stack) [z,TI,TO,i1,i2] H (upd H s.heap.objs.size (.tup [x,y])) s.heap r:=by
   have S:∀{b o},b∉[z,TI,TO,i1,i2]->s.heap.get? b=some o->r.get? b=some o:=λ{b o}g e=>keep b o (λq=>g (by simp[q])) (λq=>g (by simp[q])) (λq=>g (by simp[q])) (λq=>g (by simp[q])) e
   refine⟨λb o e n W t=>S t e,λb o e n W t=>⟨o.slots,S t e⟩,λb o e n W=>by rw[yk (bR (bx e))];exact n,λb o e t=>⟨o,S t e⟩,
    λb ys e=>by rw[yk (yb e F)];exact e,λb o v e=>by rw[yk (yb e F)];exact e,λb ps e=>⟨#[],by rw[yk (yb e F),e];simp⟩⟩
  have I1:Inv X Q σ (upd H s.heap.objs.size (.tup [x,y])) {s with heap:=r}:=I.call' (s':={s with heap:=r}) rfl un T I.bare λb g=>by
   have f:=C b g;exact⟨f.2.2.2.1,f.2.1,f.2.2.2.2.1,f.2.2.2.2.2⟩
  exists .ref s.heap.objs.size,_,I1,rfl,⟨_,x,y,rfl,F,rfl,λzs h=>by rw[I.tuple_inj h O];exact t,λzs h=>by rw[I.tuple_inj h G];exact hy⟩,?_,λb g=>?_
  .exists a8,keep _ _ D.TIz D.TITO D.TIi1 D.TIi2 j,⟨u,u',(m.2 _ D.TOz).trans a2⟩,a3.at λo e=>(m.2 _ D.i1z).trans e,a4.at λo e=>(m.2 _ D.i2z).trans e
  .rw[yk (λq=>?_)]
   .exact(C b g).1
   .have O:b<s.heap.objs.size:=by
     simp only[bC,List.not_mem_nil,or_false]at g;rcases g with rfl|rfl|rfl|rfl|rfl<;>assumption
    exact absurd q (bR O)
 done:=by
  intro X hP hw hK hc i Q s σ H E I C L hg;subst hP hw hK;let⟨xs,ys,O,G,t⟩:=hg;let⟨Y,rv,p0,aa⟩:=I.tuple O;let⟨J,Z,U,a7⟩:=I.tuple G;have p:s.heap.IsTuple l1 Y.toArray:=p0;have p':s.heap.IsTuple l2 J.toArray:=U;have D:=d.apartT L p p' (C TO (by simp)).1 hKT O G;let⟨R,j,⟨va,vb,l⟩,M,N⟩:=L;have hl:=rv.length;have ac:=Z.length;refine yng (show X.A.handled=none from I.ok.hd hc) D R j l M N p p' (by simp;omega) λh' hk=>⟨rfl,?_⟩;have nt:∀{b v},H b=some v->b≠z/\b≠TO/\b≠i1/\b≠i2:=λ{b v}e=>⟨yb e (C z (by simp)).1,yb e (C TO (by simp)).1,yb e (C i1 (by simp)).1,yb e (C i2 (by simp)).1⟩
  have T:HOk X.prog X.w H h':=λb o e=>by
   refine(I.hok b o e).stay (λc v B q=>?_) (λc q=>q) λc ys q=>q
   obtain⟨n1,n2,n3,n4⟩:c≠z/\c≠TO/\c≠i1/\c≠i2:=by
    rcases B with rfl|B
    .exact nt e
    .exact nt B
   exact hk c v n1 n2 n3 n4 q
  have un:Un (frs X.stack) [z,TI,TO,i1,i2] H H s.heap h':=by
   have S:∀{b o},b∉[z,TI,TO,i1,i2]->s.heap.get? b=some o->h'.get? b=some o:=λ{b o}g e=>hk b o (λq=>g (by simp[q])) (λq=>g (by simp[q])) (λq=>g (by simp[q])) (λq=>g (by simp[q])) e;exists λb o e n W t=>S t e,λb o e n W t=>⟨o.slots,S t e⟩,λb o e n W=>n,λb o e t=>⟨o,S t e⟩,λb ys e=>e,λb o v e=>e,λb ps e=>⟨#[],by rw[e];simp⟩
  exact I.call' (s':={s with heap:=h'}) rfl un T I.bare λb g=>by
   have f:=C b g;exact⟨f.2.2.2.1,f.2.1,f.2.2.2.2.1,f.2.2.2.2.2⟩
 self:=λW W W W W L h=>wpAny_pyIter_zip L.1 h
section
variable{X:Cx}
def vcn(K:xr)(ta:TA):TI:=λσ H R=>ta σ H λvs H1=>∃a b,vs=[.ref a,.ref b]/\(∃xs ys,SqT K H1 a xs/\SqT K H1 b ys)/\R (vcq K a b) H1
def yro{x1}{l m:qg}{ta:TA}{p pos:Pos}(hg:Gl X "zip")(hm:X.mg "zip"=none)(ha:PA X [l,m] ta)(hs:starEach [l,m] X.env=[(false,eval l X.env),(false,eval m X.env)]:=by rfl)(hs2:starEach [m] X.env=[(false,eval m X.env)]:=by rfl):
  PI X (.Tuple elts x1 tpos) (.Call (.Name "zip" p) [l,m] [] pos) (vcn X.K ta):=by
 intro g s σ H R I h;refine Call_ (Ĭ I hg hm (show bootBuiltins "zip"=some (.type "zip") by decide+kernel) (PyProof.Rows.callWith_type1 (thn (ha pos g s σ H _ I h) λO c h'=>?_) (by rw[hs,hs2]) (by rw[hs2];rfl)));let⟨L,y,d,E,D⟩:=h';let⟨a,b,e,⟨N,P,z,n⟩,q⟩:=D;subst e
 cases E with
 |cons r rr =>
  cases rr with
  |cons r' rr =>
   cases rr;cases r;cases r';let⟨v,Q,G,x⟩:=d.tuple z;let⟨f,F,k,A⟩:=d.tuple n;refine yne (show c.heap.IsTuple a v.toArray from G) (show c.heap.IsTuple b f.toArray from k) λM x w j J C B=>?_;refine wpAny_pyIter_zip x ?_
   have u:X.K.lookup (c.heap.objs.size+3)=none:=by
    cases hl:X.K.lookup (c.heap.objs.size+3)with
    |none=>rfl
    |some o=>exact absurd (bx (d.kIn _ o hl)) (Nat.not_lt.mpr (Nat.le_add_right _ _))
   have t:Zap (c.heap.objs.size+4) (c.heap.objs.size+2) (c.heap.objs.size+3) c.heap.objs.size (c.heap.objs.size+1):=ypr _;exists c.heap.objs.size+4,[c.heap.objs.size+4,c.heap.objs.size+2,c.heap.objs.size+3,c.heap.objs.size,c.heap.objs.size+1],_,_,y,rfl,d.kept (t':=c.toks) B,yir a b _ _ _ _ _ t u,⟨x,w,⟨_,_,j⟩,J,C⟩,λb i=>?_,q
   have i:c.heap.objs.size<=b:=by
    simp only[bC,List.not_mem_nil,or_false]at i;rcases i with rfl|rfl|rfl|rfl|rfl<;>omega
   exact d.fpOk i (d.hok.fresh i)
def ysx{K:xr}{ta:TA}{σ:St}{H:Hp}{R:It->Hp->Prop}(h:ta σ H λvs H1=>∃a b,vs=[.ref a,.ref b]/\(∃xs ys,SqT K H1 a xs/\SqT K H1 b ys)/\R (vcq K a b) H1):vcn K ta σ H R:=h
end
def ycv{K:xr}{a b D:x0}{xs ys:Υ}{g:TG}{te:TE}{n m:Nat}{fr:St}{R:Hp->Prop}{H1:Hp}(f:Nat->V)(hq:SqT K H1 a xs)(hq':SqT K H1 b ys)(h1:m<=xs.length)(h2:m<=ys.length)(h3:xs.length<=m\/ys.length<=m)(hD:H1 D=none)
  (hs:∀i x y H t pre,i<m->xs[i]?=some x->ys[i]?=some y->yv H1 H->H D=some (.lst ((List.range i).map f))->H t=none->List.length pre=n->g (.ref t) (pre++fr) (upd H t (.tup [x,y])) λσ' H'=>(∃pre',List.length pre'=n/\σ'=pre'++fr)/\te σ' H' (MpK H1 D f m i))
  (hd:∀H,yv H1 H->H D=some (.lst ((List.range m).map f))->R H):ju (vcq K a b) g te n fr D R H1:=by
 exists cW m (Mp H1 D f),⟨m,by simp,bK _,Mp.zero hD⟩,?_;rintro i j H ⟨rfl,r,p⟩;have q:=p.1.tup hq;have c:=p.1.tup hq';by_cases hlt:i<m
 .refine .inr ⟨⟨xs,ys,xs[i]'(by omega),ys[i]'(by omega),q,c,bi _,bi _⟩,λy H' pre l o=>?_⟩;let⟨t,x,y,rfl,k,rfl,d,h⟩:=l;exact hs i x y H t pre hlt (d xs q) (h ys c) p.1 p.2 k o
 .have e:i=m:=by omega
  subst e;exact .inl ⟨⟨xs,ys,q,c,h3⟩,hd H p.1 p.2⟩
end L2
namespace L2
open PySem PySem.Spec PyProof.Rows HT
section
variable{prog:qh}{w:qd}{A:qe}{E:Δ}{s:qa}
def ycq{t sl:x0}{items:Array qb}{vl vu:qb}{lo hi:qj Int}{Q:Δ}(ht:IsTup s.heap t items)(hs:s.heap.IsSliceOf sl vl vu .none)(pl:IsPart vl lo)(pu:IsPart vu hi)
  (hw:sIx items.size 0 lo=0/\sIx items.size items.size hi=items.size) (h:Q (.ref t) s):wpAny (model prog w) A (getItem (.ref t) (.ref sl)) Q E s:=by
 let⟨f,b,d,e⟩:=id hs;have c:s.TypeIs (.ref sl) "slice":=⟨f,b,d⟩;unfold getItem
 try with_reducible refine wpAny_holding ?_
 first|refine bg (bp ?_)|skip
 refine bg (wpAny_sequenceKey ht.typeIs (by decide) ?_);refine bg (wpAny_callSpecial?_slot (name:=Str.ofString "__getitem__") ht.typeIs PyProof.Rows.slot_tuple_getitem
  (wpAny_call_entry PyProof.Rows.slot_tuple_getitem ht.typeIs entry_tuple_getitem ?_ (args_tuple_getitem _ _)))
 show wpAny _ _ (Builtin.Tuple.tupleItemsOf (.ref t) >>=_) _ _ s;refine bg (tupleItemsOf_ ht ?_);refine bg (wpAny_typeOf c ?_);rw[if_pos (by decide)];refine bg (ji hs pl pu ?_)
 have a:(((sIx items.size 0 lo:Nat):Int) == 0 && (1:Int) == 1 && (sIx items.size items.size hi-sIx items.size 0 lo) == items.size)=true:=by
  rw[hw.1,hw.2];simp
 show wpAny _ _ (if (((sIx items.size 0 lo:Nat):Int) == 0 && (1:Int) == 1 && (sIx items.size items.size hi-sIx items.size 0 lo) == items.size)=true then _ else _) _ _ s;rw[if_pos a];refine bg (m:=Builtin.Tuple.tupleIsExact _) ?_;unfold Builtin.Tuple.tupleIsExact;refine bg (wpAny_typeOf ht.typeIs (bp ?_));show wpAny _ _ (if (Value.type "tuple" == Value.type "tuple")=true then _ else _) _ _ s;rw[if_pos (by decide)]
 first
  |exact bg (wpAny_rule (bp ⟨_,rfl,bp h⟩))
  |exact bg (wpAny_rule (bg (bp (bp ⟨_,rfl,bp h⟩))))
  |exact bg (bg (wpAny_rule (bp (bp ⟨_,rfl,bp h⟩))))
end
section
variable{X:Cx}
def vec(K:xr):V->qj Int->qj Int->Hp->VK->Prop:=λx lo hi H Q=>∃a xs,x=.ref a/\SqT K H a xs/\(HT.sIx xs.length 0 lo=0/\HT.sIx xs.length xs.length hi=xs.length)/\Q (.ref a) H
def ytd:SlR X (vec X.K):=by
 intro d s σ H x v p t lo u n Q I g m j l h;let⟨a,f,rfl,i,k,q⟩:=h;cases g;let⟨c,r,e,o⟩:=I.tuple i;have b:c.toArray.size=f.length:=by rw[bz];exact r.length.symm
 exact⟨"tuple",_,PyProof.Rows.slot_tuple_getitem.lookup,e.typeIs,ycq e m j l (by rw[b];exact k) ⟨.ref a,H,I,rfl,q⟩⟩
end
end L2
namespace L2
open PySem PySem.Spec PyProof.Rows PySem.SeqAt
open AutoSeq1 (wpAny_loadPart')
end L2
namespace L2
open PySem PySem.Spec PyProof.Rows
variable{C D it:x0}{tg:qg}{fd:FuncData}{pins:Θ}{ep i j:Nat}{P:qh}{p0 p1 p2 p3 qual:Str}{ov:qb}{Q:Δ}
def ydf{X:Cx}{K:xr}{e:qg}{f:Str}{pos:Pos}{ta:TE}(hK:X.K=K)(he:PE X e ta)(hb:attributeBase e f X.env (eval e X.env)=eval e X.env):PE X (.Attribute e f pos) (ver K ta f):=hK ▸ yn he hb
def ω(J:It)(tc:TT)(te:TE)(fr:St)(D:x0)(R:Hp->Prop)(H1:Hp):Prop:=∃W:Nat->Nat->Hp->Prop,(∃m,W 0 m (upd H1 D (.lst [])))/\
 ∀i m H2,W i m H2->(J.stop i H2/\R H2)\/(J.go i H2/\∀x H3,J.yld i H2 x H3->tc (some x::fr) H3 λb H4=>if b=true then te (some x::fr) H4 (λy H5=>∃ys,H5 D=some (.lst ys)/\ys.length<sizeLine/\∃m',m'<m/\W (i+1) m' (upd H5 D (.lst (ys++[y]))))else ∃m',m'<m/\W (i+1) m' H4)
def ykk(wi:TI)(tc:TT)(te:TE)(js:qi Nat):TE:=λσ H Q=>wi σ H λJ H1=>∀D,H1 D=none->ω J tc te (ud js σ) D (λH2=>Q (.ref D) H2) H1
section
variable{X:Cx}{iter elt cnd:qg}{tc:TT}{x:Str}{px pos:Pos}{scope:Scope}{te:TE}{wi:TI}{σ:St}{ys:Τ}{js:qi Nat}
def yw3{J:It}{fr:St}{R:Hp->Prop}{H1:Hp}(h:ω J tc te fr D R H1):yiy J (w9 0) tc te 1 fr D R H1:=by let⟨W,a,g⟩:=h;exists W,a,λi m b w=>(g i m b w).imp id λ⟨k,y⟩=>⟨k,λx e f c j=>?_⟩;let⟨z,t,rfl,d⟩:=ja j;obtain rfl:=List.length_eq_zero_iff.mp d;exists⟨[some x],rfl,rfl⟩,y x e c
def ŋ{s2:qa}{H2:Hp}{fp:Χ}{tn:Nat->qf->Prop}{J:It}(hc:X.calm=true)
  (ht:∀(C:x0)(s2:qa)(H2:Hp)(fp:Χ),PT (X.compF scope ys C x s2 H2 fp) cnd tc) (he:∀(C:x0)(s2:qa)(H2:Hp)(fp:Χ),PE (X.compF scope ys C x s2 H2 fp) elt te)
  (hcell:∀y∈scope.names,y.2≠.cell) (hkind:scope.kind=.function) (hx:scope.names.lookup x=some .local) (hnd:(x::ys).Nodup)
  (hfr:∀y∈scope.names,y.2=.free->y.1∈ys) (hyc:∀y∈ys,X.env.kindOf y=some .cell) (hrel:∀y∈ys,(relabel scope X.env).names.lookup y=some .cell) (hjs:js.map (λj=>X.N[j]?)=ys.map some)
  (I2:Inv X pins σ H2 s2) (T:yfh X.prog X.w X.K (.Name x px) J fp it tn) (st2:tn 0 s2.heap) (f2:∀b∈fp,yb9 X pins H2 b)
  {R:x0->Hp->Prop} (h:∀D,H2 D=none->ω J tc te (ud js σ) D (R D) H2) {RR:qb->x0->Result->qa->Prop} {E:Δ}
  (hR:∀(D C:x0)(H':Hp)(s':qa)(m:Ε),yb9 X pins H' C->s'.heap.Ns C m->Inv X pins σ H' s'->R D H'->RR (.ref D) C (.ok .next) s'):
  wpAny (model X.prog X.w) X.A (newList []) (λacc s₃=>wpAny (model X.prog X.w) X.A (newFunctionEnv scope X.env.globals (ñ ys X.env) [] X.env.qual none .none (some X.env)) (λcenv s₄ =>
   codeAny (model X.prog X.w) X.A (.compStart (.ListComp elt [⟨.Name x px,iter,[cnd],0⟩] scope pos) 0 (.ref it) acc {cenv with scope:=relabel scope X.env}) (RR acc cenv.locals) s₄) E s₃) E s2 :=
 Ņ (tg:=.Name x px) (xs:=[x]) (g:=w9 0) hc (λC s2 H2 fp=>ysg (ht C s2 H2 fp)) he (λC s2 H2 fp=>vn (i:=0) hnd rfl (Or.inl (lookup_relabel_local hx)) (Or.inr (lookup_relabel_local hx))) hcell hkind hfr hyc hrel hjs I2 T st2 f2 (λD a=>yw3 (h D a)) hR
def yee(hc:X.calm=true)(hi:PI X (.Name x px) iter wi)(ht:∀(C:x0)(s2:qa)(H2:Hp)(fp:Χ),PT (X.compF scope ys C x s2 H2 fp) cnd tc)(he:∀(C:x0)(s2:qa)(H2:Hp)(fp:Χ),PE (X.compF scope ys C x s2 H2 fp) elt te)(hjs:js.map (λj=>X.N[j]?)=ys.map some)
  (hclos:closureFor scope X.env=pure (ñ ys X.env)) (hnd:(x::ys).Nodup:=by decide) (hyc:∀y∈ys,X.env.kindOf y=some .cell) (hrel:∀y∈ys,(relabel scope X.env).names.lookup y=some .cell)
  (hfr:∀y∈scope.names,y.2=.free->y.1∈ys:=by decide+kernel) (hcell:∀y∈scope.names,y.2≠.cell:=by decide+kernel) (hkind:scope.kind=.function:=by rfl)
  (hnames:∀y∈scope.names,y.2=.local->scope.names.lookup y.1=some .local:=by decide+kernel) (hx:scope.names.lookup x=some .local:=by rfl) (hs:∀x,foldedSetIterable iter X.env x=pure x:=by intro _;rfl):
  PE X (.ListComp elt [⟨.Name x px,iter,[cnd],0⟩] scope pos) (ykk wi tc te js):=by refine .mk λa s σ H Q I h=>?_;rw[eval_ListComp];refine wpAny_comprehension_free (use:=none) rfl hs hclos hkind hnames (thn (hi a s σ H _ I h) λv E t=>thn t λp s2 r=>?_);let⟨F,fp,B,J,H2,e,z,T,c,n,h⟩:=r;subst e;refine ŋ (R:=λD d=>Q (.ref D) d) (RR:=compPost (model X.prog X.w) X.A X.xe none (EP X a σ Q)) hc ht he hcell hkind hx hnd hfr hyc hrel hjs z T c n h ?_;intro D C d k m f u i q;exists m,u,λG g=>⟨.ref D,d,?_,rfl,q⟩;exact i.turned (t':=k.toks) (λb o l e=>g.extBut b o l e) f.1 f.2.1 f.2.2.2.1 f.2.2.2.2.1 f.2.2.2.2.2
def ŷ{y:Str}{py spos:Pos}(hN:X.N.Nodup)(hy:X.N[i]?=some y)(hl:X.env.scope.names.lookup y=some .local)(hc:X.calm=true)(hi:PI X (.Name x px) iter wi)
  (ht:∀(C:x0)(s2:qa)(H2:Hp)(fp:Χ),PT (X.compF scope ys C x s2 H2 fp) cnd tc) (he:∀(C:x0)(s2:qa)(H2:Hp)(fp:Χ),PE (X.compF scope ys C x s2 H2 fp) elt te) (hjs:js.map (λj=>X.N[j]?)=ys.map some)
  (hclos:closureFor scope X.env=pure (ñ ys X.env)) (hyc:∀y∈ys,X.env.kindOf y=some .cell) (hrel:∀y∈ys,(relabel scope X.env).names.lookup y=some .cell)
  (hsw:swapsWith (.ListComp elt [⟨.Name x px,iter,[cnd],0⟩] scope pos) (some (.Name y py)) spos.line X.env=pure true:=by rfl) (hnd:(x::ys).Nodup:=by decide)
  (hfr:∀y∈scope.names,y.2=.free->y.1∈ys:=by decide+kernel) (hcell:∀y∈scope.names,y.2≠.cell:=by decide+kernel) (hkind:scope.kind=.function:=by rfl)
  (hnames:∀y∈scope.names,y.2=.local->scope.names.lookup y.1=some .local:=by decide+kernel) (hx:scope.names.lookup x=some .local:=by rfl) (hs:∀x,foldedSetIterable iter X.env x=pure x:=by intro _;rfl):
  PS X (.Assign [.Name y py] (.ListComp elt [⟨.Name x px,iter,[cnd],0⟩] scope pos) spos) (ywp (ykk wi tc te js) (w9 i)):=by
 refine .mk λa s σ H t I h=>?_;rw[exec_Assign_Name_used _ _ _ _ hsw];refine bg (wpAny_standAt (bg ?_));show wpAny _ X.A (do let _ <- comprehension (.ListComp elt [⟨.Name x px,iter,[cnd],0⟩] scope pos) scope X.env _ (newList []) false (eval iter X.env) (some (assign (.Name y py) X.env))) _ _ s;refine bg (cN (wpAny_comprehension_free (use:=some (assign (.Name y py) X.env)) (Q:=λZ d=>SP X a t .next d) rfl hs hclos hkind hnames (thn (hi a s σ H _ I h) λv U M=>thn M λG s2 E=>?_)) (λZ d u=>bp (bp u)) λZ Z e=>e);let⟨O,fp,S,J,H2,e,K,T,r,L,h⟩:=E;subst e;refine ŋ (R:=λD l=>w9 i (.ref D) σ l t.nx) (RR:=compPost (model X.prog X.w) X.A X.xe (some (assign (.Name y py) X.env)) (λZ d=>SP X a t .next d)) hc ht he hcell hkind hx hnd hfr hyc hrel hjs K T r L h ?_;intro D C l d m f F B q;refine wpAny_assign_Name (Æ (v:=V.ref D) B hN hy (Or.inl hl) rfl (λn k p=>?_) (Or.inr hl));exists m,?_,λP g=>⟨_,l,?_,q⟩
 .obtain⟨b,g,c⟩:=p;refine F.sameBut g λz=>?_;rcases c with c|c
  .exact f.2.1 (z.trans c)
  .exact f.2.2.2.2.1 y b c z.symm
 .exact k.turned (t':=n.toks) (λb o c e=>g.extBut b o c e) f.1 f.2.1 f.2.2.2.1 f.2.2.2.2.1 f.2.2.2.2.2
def ys4{H:Hp}{Q:VK}(h:wi σ H λJ H1=>∀D,H1 D=none->ω J tc te (ud js σ) D (λH2=>Q (.ref D) H2) H1):ykk wi tc te js σ H Q:=h
def yc4{lo:Int}{n:Nat}{fr:St}{R:Hp->Prop}{H1:Hp}(Pv:Nat->Hp->Prop)(h0:Pv 0 (upd H1 D (.lst [])))
  (hs:∀i H,i<n->Pv i H->tc (some (.int (lo+i))::fr) H λb H4=>if b=true then te (some (.int (lo+i))::fr) H4 (λy H5=>∃ys,H5 D=some (.lst ys)/\ys.length<sizeLine/\∃m',m'<n-i/\cW n Pv (i+1) m' (upd H5 D (.lst (ys++[y]))))else ∃m',m'<n-i/\cW n Pv (i+1) m' H4)
  (hd:∀H,Pv n H->R H):ω (Itr lo n) tc te fr D R H1:=by
 exists cW n Pv,⟨n,by simp,bK _,h0⟩,?_;rintro i m H ⟨rfl,a,p⟩;by_cases hlt:i<n
 .refine .inr ⟨hlt,λx c y=>?_⟩;let⟨e,y⟩:=y;subst e y;exact hs i _ hlt p
 .have e:i=n:=by omega
  subst e;exact .inl ⟨bn _,hd H p⟩
def jm{n:Nat}{Pv:Nat->Hp->Prop}{H4:Hp}(hi:i<n)(p:Pv (i+1) H4):∃m',m'<n-i/\cW n Pv (i+1) m' H4:=⟨n-(i+1),by omega,rfl,hi,p⟩
end
structure ê(K:xr)(x qual:Str)(st:qc)(D:x0)(f:x0)(fd:FuncData):Prop where
 ex:∃(oc:qb)(od:qj x0)(kV doc pm:qb)(an:qj x0)(cdv ct:qb)(osl:Array (qj qb)),
  fd=W.fnOf x qual (wt st) (wd st) (ye st) (.ref D) kV doc pm an cdv ct/\K.lookup f=some ⟨oc,od,.func fd,osl⟩/\W.codeIn K cdv qual=true
 kp:W.keepIn K (.ref f)=true
section
variable{w:qd}{K:xr}{mg:Ε}{base:qf}
def ê.ok{x:Str}{st:qc}{f:x0}{N ps:Τ}{k:Nat}{sp:Sp}(F:ê K x qual st D f fd)(S:yi N ps (ye st))(len:∀vs H Q E,sp vs H Q E->vs.length=ps.length)
  (hbody:∀(cdv:qb)(A:qe)(outer:qi Env)(s:qa)(H:Hp)(vs:Υ)(Q:VK)(E:XK),jh k (A.deeper (envOfC qual (ye st) s.heap.objs.size f cdv))->sp vs H Q E ->
   ∃t,PSs (vy CX0 P w K mg base N qual (ye st) f cdv A outer s H E).nox (wd st) t/\t { nx:=λZ H'=>Q .non H',rt:=Q} (é N vs) H):vz P w K mg base CX0 (k+1) f fd ps sp:=by let⟨n,j,kV,g,l,m,cdv,i,c,rfl,e,b⟩:=F.ex;refine ynr e b S len λA outer s H vs Q E d a=>?_;let⟨t,h,q⟩:=hbody cdv A outer s H vs Q E d a;exact⟨t,h.nox,q⟩
def ê.okE{x:Str}{st:qc}{f:x0}{N ps:Τ}{k:Nat}{sp:Sp}(F:ê K x qual st D f fd)(S:yi N ps (ye st))(len:∀vs H Q E,sp vs H Q E->vs.length=ps.length)
  (hbody:∀(cdv:qb)(A:qe)(outer:qi Env)(s:qa)(H:Hp)(vs:Υ)(Q:VK)(E:XK),jh k (A.deeper (envOfC qual (ye st) s.heap.objs.size f cdv))->sp vs H Q E ->
   ∃t,PSs (vy (CXe P w) P w K mg base N qual (ye st) f cdv A outer s H E) (wd st) t/\t { nx:=λZ H'=>Q .non H',rt:=Q} (é N vs) H):vz P w K mg base (CXe P w) (k+1) f fd ps sp:=by let⟨m,i,kV,g,j,l,cdv,h,c,rfl,e,b⟩:=F.ex;exact ynr e b S len λA outer s H vs Q E d a=>hbody cdv A outer s H vs Q E d a
def ve4:Nat->(qi qb->Prop)->Prop
 |0,C=>C []
 |n+1,C=>∀a,ve4 n λt=>C (a::t)
def yq1:∀{n:Nat}{C:qi qb->Prop}{us:Ο},ve4 n C->us.length=n->C us:=by
 intro n C us
 induction us generalizing n C with
 |nil=>intro h e;subst e;exact h
 |cons a t ih=>intro h e;subst e;exact ih (h a) rfl
def ê.binds{x:Str}{st:qc}{f:x0}{ps:Τ}{ds:Ο}{o:Obj}{its:Array qb}{n:Nat}(hj:j+ds.length=ps.length)(F:ê K x qual st D f fd)(hD:K.lookup D=some o)(ho:o.data=.seq its n)
  (h:∀(kV doc pm:qb)(an:qj x0)(cdv ct:qb),ve4 j λus =>
   ∃k:qj (Array qb)->Sem (qi (Str×qb)),bindArgs (W.fnOf x qual (wt st) (wd st) (ye st) (.ref D) kV doc pm an cdv ct) ⟨us,[]⟩=(seqItems? (.ref D) >>=k)/\k (some its)=pure (ps.zip (us++ds))):xw K fd ps ds:=by let⟨m,i,kV,doc,pm,an,cdv,ct,a,rfl,l,b⟩:=F.ex;intro s us c g;let⟨k,d,e⟩:=yq1 (h kV doc pm an cdv ct) (by rw[bq]at g;omega);exact BindsTo.of_defaults rfl (c _ _ hD) ho d e
def ã{x:Str}{st:qc}{f:x0}{oc:qb}{od an:qj x0}{osl:Array (qj qb)}{kV doc pm cdv ct:qb}(l:K.lookup f=some ⟨oc,od,.func (W.fnOf x qual (wt st) (wd st) (ye st) (.ref D) kV doc pm an cdv ct),osl⟩)
  (c:W.codeIn K cdv qual=true) (k:W.keepIn K (.ref f)=true):ê K x qual st D f (W.fnOf x qual (wt st) (wd st) (ye st) (.ref D) kV doc pm an cdv ct):=⟨⟨oc,od,kV,doc,pm,an,cdv,ct,osl,rfl,l,c⟩,k⟩
end
def yfz{K:xr}{a:x0}{xs:Υ}{g:TG}{te:TE}{n:Nat}{fr:St}{R:Hp->Prop}{H1:Hp}(Pv:Nat->Hp->Prop)(h0:Pv 0 (upd H1 D (.lst [])))(hl:∀i H,i<=xs.length->Pv i H->SqL K H a xs)
  (hs:∀i x H pre,xs[i]?=some x->i<xs.length->Pv i H->List.length pre=n->g x (pre++fr) H λσ' H'=>(∃pre',List.length pre'=n/\σ'=pre'++fr)/\te σ' H' λy H4=>∃ys,H4 D=some (.lst ys)/\ys.length<sizeLine/\∃m',m'<xs.length-i/\cW xs.length Pv (i+1) m' (upd H4 D (.lst (ys++[y]))))
  (hd:∀H,Pv xs.length H->R H):ju (Itl K a) g te n fr D R H1:=by
 exists cW xs.length Pv,⟨xs.length,by simp,bK _,h0⟩,?_;rintro i m H ⟨rfl,b,p⟩;have q:=hl i H b p;by_cases hlt:i<xs.length
 .refine .inr ⟨⟨xs,xs[i],q,by simp[hlt]⟩,λx H' pre y c=>?_⟩;let⟨e,y⟩:=y;subst e;exact hs i x _ pre (y xs q) hlt p c
 .have e:i=xs.length:=by omega
  subst e;exact .inl ⟨⟨xs,q,bn _⟩,hd H p⟩
def yre(K:xr):qi V->Hp->VK->Prop:=λxs H Q=>∃p ys,xs=[.ref p]/\(SqL K H p ys\/SqT K H p ys)/\∀l,H l=none->Q (.ref l) (upd H l (.lst ys))
def ylr{pre:qi (Ψ)}(h:List.length pre=3):∃v1 v2 v3,pre=[v1,v2,v3]:=by let⟨v1,t,rfl,b⟩:=ja h;let⟨v2,t,rfl,c⟩:=ja b;let⟨v3,t,rfl,a⟩:=ja c;exists v1,v2,v3,by rw[List.length_eq_zero_iff.mp a]
section
variable{X:Cx}{body suite:qi qc}{b₀:qc}{tx n:Str}{np hpos pos:Pos}{tb:(St->XK)->TS}{ts:TS}
abbrev THs:=Ă->St->x0->x0->Hp->Prop
end
structure Dg(K:xr)(x q:Str)(st:qc)(f:x0)(fd:FuncData)(M:Prop):Prop where
 F:Fun K x q st f fd
 m:M
structure Df(K:xr)(x q:Str)(st:qc)(ps:Τ)(f:x0)(fd:FuncData)(M:Prop):Prop where
 F:Fun K x q st f fd
 B:xw K fd ps []
 m:M
def ł{α:Type}{n:Nat}{a:qi α}(h:a.length=n+1):∃x r,a=x::r/\r.length=n:=by
 cases a with
 |nil=>cases h
 |cons x r=>exists x,r,rfl,Nat.succ.inj h
abbrev Dgf(K:xr)(mg:Ε)(x:Str)(st:qc)(f:x0)(fd:FuncData):Prop:=Dg K x x st f fd (mg x=some (.ref f))
abbrev Dgm(K:xr)(C:x0)(x q:Str)(st:qc)(f:x0)(fd:FuncData):Prop:=Dg K x q st f fd (ywf K C x f)
abbrev Dff(K:xr)(mg:Ε)(x:Str)(st:qc)(ps:Τ)(f:x0)(fd:FuncData):Prop:=Df K x x st ps f fd (mg x=some (.ref f))
abbrev Dfm(K:xr)(C:x0)(x q:Str)(st:qc)(ps:Τ)(f:x0)(fd:FuncData):Prop:=Df K x q st ps f fd (ywf K C x f)
section
variable{K:xr}{mg:Ε}{h:qf}{x q:Str}{st:qc}{f:x0}{M:Prop}{oc kV doc pm cdv ct:qb}{od an:qj x0}{osl:Array (qj qb)}
def dgf_mk(X:K.In h)(G:h.Ns mainGlobals mg)(a:W.nsIn K mainGlobals x=some (some (.ref f)))(l:K.lookup f=some ⟨oc,od,.func (W.fnOf x x (wt st) (wd st) (ye st) .none kV doc pm an cdv ct),osl⟩)
  (c:W.codeIn K cdv x=true) (k:W.keepIn K (.ref f)=true):Dgf K mg x st f (W.fnOf x x (wt st) (wd st) (ye st) .none kV doc pm an cdv ct):=⟨yqj l c k,W.mg_of X G a⟩
def dgm_mk(a:W.findIn K (.ref C) x=some (some (.ref f)))(i:W.isFn K (.ref f)=true)(l:K.lookup f=some ⟨oc,od,.func (W.fnOf x q (wt st) (wd st) (ye st) .none kV doc pm an cdv ct),osl⟩)
  (c:W.codeIn K cdv q=true) (k:W.keepIn K (.ref f)=true):Dgm K C x q st f (W.fnOf x q (wt st) (wd st) (ye st) .none kV doc pm an cdv ct):=⟨yqj l c k,a,i,k⟩
def Dg.d1(D:Dg K x q st f fd M)(h:∀(kV doc pm:qb)(an:qj x0)(cdv ct:qb)(u0:qb),bindArgs (W.fnOf x q (wt st) (wd st) (ye st) .none kV doc pm an cdv ct) ⟨[u0],[]⟩=pure [(p0,u0)]:=by intros;rfl):Df K x q st [p0] f fd M :=
 ⟨D.F,D.F.binds λkV doc pm an cdv ct c a=>(by
  let⟨u0,d,rfl,b⟩:=ł a;obtain rfl:=cm b;exact h kV doc pm an cdv ct u0),D.m⟩
def Dg.d2(D:Dg K x q st f fd M)(h:∀(kV doc pm:qb)(an:qj x0)(cdv ct:qb)(u0 u1:qb),bindArgs (W.fnOf x q (wt st) (wd st) (ye st) .none kV doc pm an cdv ct) ⟨[u0,u1],[]⟩=pure [(p0,u0),(p1,u1)]:=by intros;rfl):Df K x q st [p0,p1] f fd M :=
 ⟨D.F,D.F.binds λkV doc pm an cdv ct e c=>(by
  let⟨u0,g,rfl,b⟩:=ł c;let⟨u1,d,rfl,a⟩:=ł b;obtain rfl:=cm a;exact h kV doc pm an cdv ct u0 u1),D.m⟩
def Dg.d3(D:Dg K x q st f fd M)(h:∀(kV doc pm:qb)(an:qj x0)(cdv ct:qb)(u0 u1 u2:qb),bindArgs (W.fnOf x q (wt st) (wd st) (ye st) .none kV doc pm an cdv ct) ⟨[u0,u1,u2],[]⟩=pure [(p0,u0),(p1,u1),(p2,u2)]:=by intros;rfl):Df K x q st [p0,p1,p2] f fd M :=
 ⟨D.F,D.F.binds λkV doc pm an cdv ct g d=>(by
  let⟨u0,j,rfl,b⟩:=ł d;let⟨u1,e,rfl,a⟩:=ł b;let⟨u2,i,rfl,c⟩:=ł a;obtain rfl:=cm c;exact h kV doc pm an cdv ct u0 u1 u2),D.m⟩
def Dg.d4(D:Dg K x q st f fd M)(h:∀(kV doc pm:qb)(an:qj x0)(cdv ct:qb)(u0 u1 u2 u3:qb),bindArgs (W.fnOf x q (wt st) (wd st) (ye st) .none kV doc pm an cdv ct) ⟨[u0,u1,u2,u3],[]⟩=pure [(p0,u0),(p1,u1),(p2,u2),(p3,u3)]:=by intros;rfl):Df K x q st [p0,p1,p2,p3] f fd M :=
 ⟨D.F,D.F.binds λkV doc pm an cdv ct j e=>(by
  let⟨u0,l,rfl,b⟩:=ł e;let⟨u1,g,rfl,a⟩:=ł b;let⟨u2,k,rfl,d⟩:=ł a;let⟨u3,i,rfl,c⟩:=ł d;obtain rfl:=cm c;exact h kV doc pm an cdv ct u0 u1 u2 u3),D.m⟩
def Dg.d5{p4:Str}(D:Dg K x q st f fd M)(h:∀(kV doc pm:qb)(an:qj x0)(cdv ct:qb)(u0 u1 u2 u3 u4:qb),bindArgs (W.fnOf x q (wt st) (wd st) (ye st) .none kV doc pm an cdv ct) ⟨[u0,u1,u2,u3,u4],[]⟩=pure [(p0,u0),(p1,u1),(p2,u2),(p3,u3),(p4,u4)]:=by intros;rfl):Df K x q st [p0,p1,p2,p3,p4] f fd M :=
 ⟨D.F,D.F.binds λkV doc pm an cdv ct l g=>(by
  let⟨u0,o,rfl,c⟩:=ł g;let⟨u1,j,rfl,a⟩:=ł c;let⟨u2,n,rfl,e⟩:=ł a;let⟨u3,k,rfl,d⟩:=ł e;let⟨u4,i,rfl,b⟩:=ł d;obtain rfl:=cm b;exact h kV doc pm an cdv ct u0 u1 u2 u3 u4),D.m⟩
def Dg.d6{p4 p5:Str}(D:Dg K x q st f fd M)(h:∀(kV doc pm:qb)(an:qj x0)(cdv ct:qb)(u0 u1 u2 u3 u4 u5:qb),bindArgs (W.fnOf x q (wt st) (wd st) (ye st) .none kV doc pm an cdv ct) ⟨[u0,u1,u2,u3,u4,u5],[]⟩=pure [(p0,u0),(p1,u1),(p2,u2),(p3,u3),(p4,u4),(p5,u5)]:=by intros;rfl):Df K x q st [p0,p1,p2,p3,p4,p5] f fd M :=
 ⟨D.F,D.F.binds λkV doc pm an cdv ct n i=>(by
  let⟨u0,p,rfl,c⟩:=ł i;let⟨u1,k,rfl,a⟩:=ł c;let⟨u2,o,rfl,g⟩:=ł a;let⟨u3,l,rfl,d⟩:=ł g;let⟨u4,j,rfl,b⟩:=ł d;let⟨u5,r,rfl,e⟩:=ł b;obtain rfl:=cm e;exact h kV doc pm an cdv ct u0 u1 u2 u3 u4 u5),D.m⟩
end
structure KC(K:xr)(C:x0):Prop where
 pg:W.plainGet K C Str.empty=true
 hd:W.hasDictIn K C=true
 po:W.plainOver K C=true
 sa:W.findIn K (.ref C) "__setattr__"=some (some (.builtin "object.__setattr__"))
 mk':W.makesIn K C=true
 kc:W.keepIn K (.ref C)=true
def KC.cls{K:xr}(h:KC K C):Cls K C:=⟨h.pg,h.hd,h.po,h.sa⟩
abbrev GV(K:xr)(x:Str)(v:qb):Prop:=W.nsIn K mainGlobals x=some (some v)
abbrev GZ(K:xr)(x:Str):Prop:=W.nsIn K mainGlobals x=some none
abbrev FN(K:xr)(C:x0)(x:Str):Prop:=W.findIn K (.ref C) x=some none
section
variable{K:xr}{H:Hp}{p dx:x0}{fs fs':Ι}{v:V}{nm:Str}{P:V->Prop}{nx:Ζ}{σ:St}
abbrev RdX(K:xr)(H:Hp)(p:x0)(nm:Str)(P:V->Prop):Prop:=∃a' C dx fs v,V.ref p=.ref a'/\H a'=some (.ins C dx fs)/\Cls K C/\vj K C nm/\fs.lookup nm=some v/\P v
abbrev StX(K:xr)(H:Hp)(p:x0)(nm:Str)(v:V)(nx:Ζ)(σ:St):Prop:=∃a' C dx fs,V.ref p=.ref a'/\H a'=some (.ins C dx fs)/\Cls K C/\vj K C nm/\fs.length<1000/\wn nx σ (upd H a' (.ins C dx (j9 nm v fs)))
abbrev MtX(H:Hp)(p C:x0)(nm:Str)(R:Prop):Prop:=∃a dx fs,V.ref p=.ref a/\H a=some (.ins C dx fs)/\fs.lookup nm=none/\R
def rdX(hp:H p=some (.ins C dx fs))(c:Cls K C)(n:vj K C nm)(l:fs.lookup nm=some v)(h:P v):RdX K H p nm P:=⟨p,C,dx,fs,v,rfl,hp,c,n,l,h⟩
def stX(hp:H p=some (.ins C dx fs))(c:Cls K C)(n:vj K C nm)(l:fs.length<1000)(e:j9 nm v fs=fs')(h:wn nx σ (upd H p (.ins C dx fs'))):StX K H p nm v nx σ:=⟨p,C,dx,fs,rfl,hp,c,n,l,by rw[e];exact h⟩
def gRd(h:RdX K H p nm P):RdX K H p nm P:=h
def gSt(h:StX K H p nm v nx σ):StX K H p nm v nx σ:=h
def gMt{R:Prop}(h:MtX H p C nm R):MtX H p C nm R:=h
def lt0:([]:Ι).length<1000:=by show 0<1000;decide
def lt1{a:Str×V}:[a].length<1000:=by show 1<1000;decide
def lt2{a b:Str×V}:[a,b].length<1000:=by show 2<1000;decide
def lt3{a b c:Str×V}:[a,b,c].length<1000:=by show 3<1000;decide
def lt4{a b c d:Str×V}:[a,b,c,d].length<1000:=by show 4<1000;decide
def lt5{a b c d e:Str×V}:[a,b,c,d,e].length<1000:=by show 5<1000;decide
def lt6{a b c d e f:Str×V}:[a,b,c,d,e,f].length<1000:=by show 6<1000;decide
theorem vb1:∀{fs:Ι},nm∉fs.map (·.1)->fs.lookup nm=none
 |[],_=>rfl
 |(g,v)::r,h=>wg (λe=>h (by rw[e];exact bO)) (vb1 λm=>h (bN _ m))
def mtX{R:Prop}{N:Τ}(hp:H p=some (.ins C dx fs))(k:fs.map (·.1)=N)(n:nm∉N)(h:R):MtX H p C nm R:=⟨p,dx,fs,rfl,hp,vb1 (by rw[k];exact n),h⟩
def wl{N P:Τ}{sc:Scope}(h:(sc.kind=.function/\sc.isCoroutine=false/\sc.isGenerator=false)/\N.Nodup/\N.take P.length=P/\(∀x∈P,sc.names.lookup x=some .local\/sc.names.lookup x=some .cell)/\∀y∈sc.names,y.2≠.free):yi N P sc:=⟨h.1.1,h.1.2.1,h.1.2.2,h.2.1,h.2.2.1,h.2.2.2.1,h.2.2.2.2⟩
end
section
variable{prog:qh}{w:qd}{A:qe}{E:Δ}{s:qa}{d:x0}{od:Obj}{es:Array DictEntry}
def yfn(hne:(d == sysModules)=false)(h0:s.heap.get? d=some od)(hx:od.ExactDict)
  (k:Q (.ref s.heap.objs.size) {s with heap:=s.heap.push { cls:=.type "dict_items",data:=.fields #[.ref d]} }):wpAny (model prog w) A (call (.builtin "dict.items") [.ref d]) Q E s:=by have a:s.TypeIs (.ref d) "dict":=⟨od,h0,hx.1⟩;refine wpAny_call_entry F.slot_dict_items a F.entry_dict_items ?_ (F.args_dict_items_1 _);unfold Builtin.«dict.items» Builtin.Dict.noArgs;refine bg (bg (wpAny_notOrdered_dict a ?_));show wpAny _ _ (pure d) _ _ s;refine bp ?_;show wpAny _ _ (Builtin.Dict.showsAll d >>=_) _ _ s;unfold Builtin.Dict.showsAll;rw[if_neg (by rw[hne];decide)];exact bg (bp (bg (wpAny_newObj_type (bp ⟨_,rfl,k⟩))))
def yfr{v:x0}(hv:s.heap.IsItemsView v d)(h0:s.heap.get? d=some od)(hd:od.data=.dict es ep)
  (k:Q (.ref s.heap.objs.size) {s with heap:=s.heap.push { cls:=.type "dict_itemiterator",data:=.fields #[.none,.bool false,.ref d,.int 0 0,.int es.size 0,.int ep 0,.none,.none]} }):wpAny (model prog w) A (pyIter (.ref v)) Q E s:=by let⟨c,b,e,a⟩:=id hv;refine wpAny_pyIter_slot hv.typeIs F.slot_dict_items_iter (wpAny_call_entry F.slot_dict_items_iter hv.typeIs F.entry_dict_items_iter ?_ (F.args_dict_items_iter_1 _));unfold Builtin.«dict_items.__iter__» Builtin.Dict_items.dictOf Builtin.Dict_items.newIterator;refine bg (bp (bg (bg (cy b a (x:=.ref d) rfl (bp (bg (bg (wpAny_dictEntries h0 hd (bg (wpAny_dictEpoch h0 hd ?_))))))))));simp only[show Builtin.Dict_items.ownsTuple "dict_itemiterator"=true by decide,if_true];refine wpAny_newObj_type (bp ⟨_,rfl,"dict_itemiterator",_,⟨_,bA _ rfl,rfl⟩,F.slot_dict_itemiterator_next.lookup,?_⟩) (by simp only[sizeOk,Builtin.Dict_items.ownedTupleFields,bz,bq,bX,List.length_nil,sizeLine_eq];omega);simpa[rawInt,Builtin.Dict_items.ownedTupleFields]using k
def ygl{ok:qb}{Q:qj qb->qa->Prop}(hi:IsItemIter s.heap it d i es.size ep ok ov)(h0:s.heap.get? d=some od)(hd:od.data=.dict es ep)(hlt:i<es.size)
  (k:∀h',IsItemIterOut h' it d (i+1) es.size ep es[i].key es[i].val s.heap.objs.size->h'.get? s.heap.objs.size=some { cls:=.type "tuple",data:=.seq #[es[i].key,es[i].val]}->(∀b o,b≠it->s.heap.get? b=some o->h'.get? b=some o)->Q (some (.ref s.heap.objs.size)) {s with heap:=h'}):
  wpAny (model prog w) A (pyNext (.ref it)) Q E s:=by
 let⟨a,g,p,j,l⟩:=s;have c:Shared.TypeIs ⟨a,g,p,j,l⟩ (.ref it) "dict_itemiterator":=⟨_,hi,rfl⟩;have J:it<a.objs.size:=bx hi;have I:a.objs.size≠it:=Nat.ne_of_gt J;unfold pyNext;refine bg (wpAny_attempt (wpAny_callSpecial?_slot (name:=Str.ofString "__next__") c F.slot_dict_itemiterator_next (wpAny_call_entry F.slot_dict_itemiterator_next c F.entry_dict_itemiterator_next ?_ (F.args_dict_itemiterator_next_1 _))));refine bg (bp (bg (bg ?_)))
 first|refine bg (wpAny_typeNameOfWhole_itemiter c (bp ?_))|refine bg (wpAny_typeNameOf_itemiter c (bp ?_))
 refine bg (wpAny_fieldsOf hi rfl ?_);simp only[show Builtin.Dict_items.ownsTuple "dict_itemiterator"=true by decide,if_true];show wpAny _ _ (if (Value.ref d == Value.none)=true then _ else _) _ _ _;rw[if_neg (show ¬(Value.ref d == Value.none)=true from bM)];refine bg (bp (bg (wpAny_dictEntries h0 hd ?_)));rw[if_neg (by simp)];refine bg (bp (bg (wpAny_dictEpoch h0 hd ?_)));rw[if_neg (by simp)];refine bp ?_;simp only[show ¬((i:Int)<0) by omega,if_false,Int.toNat_natCast,Array.getElem?_eq_getElem hlt];refine bg ?_
 first|refine bg (wpAny_typeNameOfWhole_itemiter c (bp ?_))|refine bg (wpAny_typeNameOf_itemiter c (bp ?_))
 refine bg (wpAny_isOneOf_itemiter c ?_);show wpAny _ _ (setField (.ref it) 3 (rawInt ((i:Int)+1)) >>=_) _ _ ⟨a,g,p,j,l⟩;refine bg (wpAny_setField_rec hi (by simp) λg1 m f=>?_)
 replace f:Heap.SameBut it a g1:=f
 replace m:IsItemIter g1 it d (i+1) es.size ep ok ov:=by unfold IsItemIter;rw[show ((i+1:Nat):Int)=(i:Int)+1 by omega];simpa[rawInt]using m
 have z:Shared.TypeIs ⟨g1,g,p,j,l⟩ (.ref it) "dict_itemiterator":=⟨_,m,rfl⟩;refine bg (wpAny_holding (bg (wpAny_isOneOf_itemiter z (bg (wpAny_isOneOf_itemiter z ?_)))));show wpAny _ _ (Builtin.Dict_items.pairFromOwner (.ref it) 6 es[i].key es[i].val) _ _ ⟨g1,g,p,j,l⟩;unfold Builtin.Dict_items.pairFromOwner;refine bg (wpAny_newTuple ?_);have h:IsItemIter (g1.push { cls:=.type "tuple",data:=.seq #[es[i].key,es[i].val]}) it d (i+1) es.size ep ok ov:=bj _ m;generalize y:g1.push { cls:=.type "tuple",data:=.seq #[es[i].key,es[i].val]}=g2 at h;have G:g1.objs.size=a.objs.size:=f.1;have M:g2.get? a.objs.size=some { cls:=.type "tuple",data:=.seq #[es[i].key,es[i].val]}:=by rw[<- y,<- G];exact bA _ rfl
 have K:∀b o,b≠it->a.get? b=some o->g2.get? b=some o:=λb o L e=>by rw[<- y];exact bj _ (f.extBut b o L e)
 show wpAny _ _ (Builtin.Dict_items.ownedTupleIsFree (.ref it) >>=_) _ _ ⟨g2,g,p,j,l⟩;rw[G];clear y m f z G g1;unfold Builtin.Dict_items.ownedTupleIsFree;refine bg (bg (cy h rfl (x:=.none) rfl (bp ?_)));simp only[if_true];refine bg (cy h rfl (x:=ok) rfl (bg (cy h rfl (x:=ov) rfl ?_)));refine bg (wpAny_setField_rec h (by simp) λg3 C u=>?_)
 replace u:Heap.SameBut it g2 g3:=u
 replace C:IsItemIter g3 it d (i+1) es.size ep es[i].key ov:=C
 refine bg (wpAny_setField_rec C (by simp) λg4 r v=>?_)
 replace v:Heap.SameBut it g3 g4:=v
 replace r:IsItemIter g4 it d (i+1) es.size ep es[i].key es[i].val:=r
 refine bg (wpAny_setField_rec r (by simp) λg5 D t=>?_)
 replace t:Heap.SameBut it g4 g5:=t
 replace D:IsItemIterOut g5 it d (i+1) es.size ep es[i].key es[i].val a.objs.size:=D
 refine bg (wpAny_setField_rec D (by simp) λg6 B q=>?_)
 replace q:Heap.SameBut it g5 g6:=q
 replace B:IsItemIterOut g6 it d (i+1) es.size ep es[i].key es[i].val a.objs.size:=B
 have H:∀b o,b≠it->g2.get? b=some o->g6.get? b=some o:=λb o n e=>q.extBut b o n (t.extBut b o n (v.extBut b o n (u.extBut b o n e)));exact bg (wpAny_letGo (bp (bp ⟨_,rfl,bp (k g6 B (H _ _ I M) λb o n e=>H b o n (K b o n e))⟩)))
def yh6{ok:qb}{Q:qj qb->qa->Prop}(hh:A.handled=none)(hi:IsItemIter s.heap it d i es.size ep ok ov)(h0:s.heap.get? d=some od)(hd:od.data=.dict es ep)(hge:es.size<=i)
  (k:∀h',Heap.ExtBut it s.heap h'->Q none {s with heap:=h'}):wpAny (model prog w) A (pyNext (.ref it)) Q E s:=by
 have c:s.TypeIs (.ref it) "dict_itemiterator":=⟨_,hi,rfl⟩;unfold pyNext;refine bg (wpAny_attempt (wpAny_callSpecial?_slot (name:=Str.ofString "__next__") c F.slot_dict_itemiterator_next (wpAny_call_entry F.slot_dict_itemiterator_next c F.entry_dict_itemiterator_next ?_ (F.args_dict_itemiterator_next_1 _))));refine bg (bp (bg (bg ?_)))
 first|refine bg (wpAny_typeNameOfWhole_itemiter c (bp ?_))|refine bg (wpAny_typeNameOf_itemiter c (bp ?_))
 refine bg (wpAny_fieldsOf hi rfl ?_);simp only[show Builtin.Dict_items.ownsTuple "dict_itemiterator"=true by decide,if_true];show wpAny _ _ (if (Value.ref d == Value.none)=true then _ else _) _ _ s;rw[if_neg (show ¬(Value.ref d == Value.none)=true from bM)];refine bg (bp (bg (wpAny_dictEntries h0 hd ?_)));rw[if_neg (by simp)];refine bg (bp (bg (wpAny_dictEpoch h0 hd ?_)));rw[if_neg (by simp)];refine bp ?_;simp only[show ¬((i:Int)<0) by omega,if_false,Int.toNat_natCast,Array.getElem?_eq_none hge];refine bg ?_
 first|refine bg (wpAny_typeNameOfWhole_itemiter c (bp ?_))|refine bg (wpAny_typeNameOf_itemiter c (bp ?_))
 show wpAny _ _ (setField (.ref it) 2 .none >>=_) _ _ s;refine bg (wpAny_setField hi rfl (by simp) ?_);show wpAny _ _ (newExc (.type "StopIteration") [] >>=_) _ _ _;refine bg ?_;simp only[newExc,newTuple];refine bg (wpAny_newObj_type ?_ (by size_fits))
 refine bg (m:=firstArgMember _ _) (wpAny_of_eq (a:=Value.none) (by first|rfl|(simp only[firstArgMember];rfl)) (wpAny_newObj_type ?_ (by size_fits)))
 simp only[raiseNew];refine bg (wpAny_handled ?_);rw[show A.in1.handled=none from hh];refine bg (bp (wpAny_throw ?_));exact bg (wpAny_isInstance (T:="StopIteration") (b:=true) ⟨_,bA _ rfl,rfl⟩ isSubtype_stop (bp (k _ (((Heap.SameBut.update ..).extBut.push _).push _))))
def yf5{n:Nat}{ok:qb}(hi:IsItemIter s.heap it d i n ep ok ov)(k:Q (.ref it) s):wpAny (model prog w) A (pyIter (.ref it)) Q E s:=by have a:s.TypeIs (.ref it) "dict_itemiterator":=⟨_,hi,rfl⟩;refine wpAny_pyIter_slot a F.slot_dict_itemiterator_iter (wpAny_call_entry F.slot_dict_itemiterator_iter a (show entryFor table "dict_itemiterator.__iter__"=some Builtin.«dict_keyiterator.__iter__» from entryFor_alias (id':="dict_keyiterator.__iter__") (by kernel_rfl) rfl (by decide+kernel) (by kernel_rfl)) ?_ (F.args_dict_itemiterator_iter_1 _));show wpAny _ _ (ret (.ref it)) _ _ s;exact bp ⟨_,rfl,"dict_itemiterator",_,a,F.slot_dict_itemiterator_next.lookup,k⟩
end
def Inv.freeze{X:Cx}{σ:St}{H:Hp}{s:qa}{d:x0}{u:HO}{o:Obj}(I:Inv X pins σ H s)(hd:H d=some u)(mu:Mut (some u))(ho:s.heap.get? d=some o):Inv X pins σ (upd H d (.frz o u)) s:=by
 have h:∀{b},H b=none->b≠d:=λn z=>by rw[z,hd]at n;cases n
 have g:∀{b v},H b=some v->¬Mut (some v)->b≠d:=λe n z=>by rw[z,hd]at e;cases e;exact n mu
 exists I.ok,I.os,I.bare,⟨I.base.keep,I.base.slot,λb i e n t=>?_,I.base.there,λb k e=>?_,λb i v e=>?_,λb r e=>?_⟩,I.loc,I.cell,?_,λx c e=>?_,λp A=>?_,λb v e=>?_,I.len
 .have z:=I.base.free b i e n t;rw[yk (h z)];exact z
 .have z:=I.base.tups b k e;rw[yk (g z id)];exact z
 .have z:=I.base.frzs b i v e;rw[yk (g z id)];exact z
 .obtain⟨m,z⟩:=I.base.tbls b r e;exists m,by rw[yk (g z id)];exact z
 .rw[yk (h I.free)];exact I.free
 .rw[yk (h (I.freeC x c e))];exact I.freeC x c e
 .obtain⟨w,j,l⟩:=I.pin p A;exists w,by rw[yk (h j)];exact j,l
 .have a:∀{c y},H c=some (.own y)->upd H d (.frz o u) c=some (.own y):=λq=>by rw[yk (g q id)];exact q
  have f:∀{c y},H c=some (.tup y)->upd H d (.frz o u) c=some (.tup y):=λq=>by rw[yk (g q id)];exact q
  by_cases hb:b=d
  .subst hb;rw[ya]at e;cases e;exists ho,(I.hok b _ hd).stay (λZ Z Z q=>q) (λZ q=>a q) λZ Z q=>f q
  .rw[yk hb]at e;exact(I.hok b v e).stay (λZ Z Z q=>q) (λZ q=>a q) λZ Z q=>f q
def Inv.thaw{X:Cx}{σ:St}{H:Hp}{s:qa}{d:x0}{u:HO}{o:Obj}(I:Inv X pins σ H s)(h0:∀o u,X.H₀ d≠some (.frz o u))(hd:H d=some (.frz o u)):Inv X pins σ (upd H d u) s:=by
 have h:∀{b},H b=none->b≠d:=λn z=>by rw[z,hd]at n;cases n
 exists I.ok,I.os,I.bare,⟨I.base.keep,I.base.slot,λb g e n r=>?_,I.base.there,λb j e=>?_,λb g u e=>?_,λb l e=>?_⟩,I.loc,I.cell,?_,λx c e=>?_,λp A=>?_,λb v e=>?_,I.len
 .have z:=I.base.free b g e n r;rw[yk (h z)];exact z
 .have z:=I.base.tups b j e;rw[yk (wz z hd (by intro w;cases w))];exact z
 .rw[yk (λz=>h0 g u (by rw[<- z];exact e))];exact I.base.frzs b g u e
 .obtain⟨m,z⟩:=I.base.tbls b l e;exists m,by rw[yk (wz z hd (by intro w;cases w))];exact z
 .rw[yk (h I.free)];exact I.free
 .rw[yk (h (I.freeC x c e))];exact I.freeC x c e
 .obtain⟨t,i,k⟩:=I.pin p A;exists t,by rw[yk (h i)];exact i,k
 .have a:∀{c y},H c=some (.own y)->upd H d u c=some (.own y):=λq=>by rw[yk (wz q hd (by intro w;cases w))];exact q
  have f:∀{c y},H c=some (.tup y)->upd H d u c=some (.tup y):=λq=>by rw[yk (wz q hd (by intro w;cases w))];exact q
  by_cases hb:b=d
  .subst hb;rw[ya]at e;cases e;exact(I.hok b _ hd).2.stay (λZ Z Z q=>q) (λZ q=>a q) λZ Z q=>f q
  .rw[yk hb]at e;exact(I.hok b v e).stay (λZ Z Z q=>q) (λZ q=>a q) λZ Z q=>f q
def Iti(o:Obj)(d:x0)(kvs:qi (qi Key×V)):It :=
 ⟨λi H=>H d=some (.frz o (.dT kvs))/\i<kvs.length,
  λi H x H'=>∃t kt key v,x=.ref t/\H t=none/\H'=upd H t (.tup [.ref kt,v])/\kvs[i]?=some (key,v)/\H kt=some (.tup (key.map kV)),
  λi H=>H d=some (.frz o (.dT kvs))/\kvs.length<=i⟩
theorem xx{α β:Type}{F:α->β->Prop}:∀{l₁:qi α}{l₂:qi β},Paired F l₁ l₂->l₁.length=l₂.length
 |_,_,.nil=>rfl
 |_,_,.cons _ t=>congrArg (·+1) (xx t)
def yba{α β:Type}{F:α->β->Prop}{l₁:qi α}{l₂:qi β}(h:Paired F l₁ l₂):∀{i:Nat}{y:β},l₂[i]?=some y->∃x,l₁[i]?=some x/\F x y:=by
 induction h with
 |nil=>intro i y e;cases e
 |cons r t ih =>
  intro i y e
  cases i with
  |zero=>cases e;exists _,rfl,r
  |succ j=>exact ih e
def ygj{w:qd}{K:xr}{elts:qi qg}{x1}{tpos:Pos}{o:Obj}{es:Array DictEntry}{kvs:qi (qi Key×V)}(d it:x0)(ho:o.data=.dict es ep)(hs:es.size=kvs.length):
  yfh P w K (.Tuple elts x1 tpos) (Iti o d kvs) [it] it (λi h=>∃ok ov,IsItemIter h it d i es.size ep ok ov) where
 mem:=by simp
 obj:=λi h l b g=>by
  have e:b=it:=by simpa using g
  subst e;let⟨_,_,e⟩:=l;exists _,e,λv z=>by cases z
 keep:=λi h h' ⟨ok,ov,l⟩ k=>⟨ok,ov,k it (by simp) _ l⟩
 item:=by
  intro X S Y R hc i p s σ H E I G ⟨ok,ov,l⟩ ⟨T,j⟩;subst S Y R;let⟨N,f1,f2,f3,f4,f5⟩:=G it (by simp);let⟨M,_,_,L,t,o',a3,a5,D,_,A,Z,_⟩:=(show w8 X.prog X.w H s.heap d (.frz o (.dT kvs))from I.hok d _ T);rw[M]at D;cases D;rw[ho]at A;cases A;have hl:i<es.size:=by omega
  have he:es[i]=entryOfKey (tupleKind (wk X.prog X.w)) (L[i]'(by rw[<- (xx t)];exact j)):=by
   have e1:es.toList[i]?=some es[i]:=by simp[hl]
   rw[Z,bo,bi (by rw[<- (xx t)];exact j)]at e1;exact(bE e1).symm
  let⟨⟨F,v⟩,a0,k1,U,k3⟩:=yba t (bi (by rw[<- (xx t)];exact j));have m:es[i].key=.ref (L[i]'(by rw[<- (xx t)];exact j)).2.1:=by rw[he];rfl
  have J:es[i].val=(L[i]'(by rw[<- (xx t)];exact j)).2.2:=by rw[he];rfl
  rw[<- J]at k3;generalize (L[i]'(by rw[<- (xx t)];exact j)).2.1=y at m U;refine ygl l M ho hl λh' a1 a2 hk=>⟨_,rfl,wpAny_letOwnedTupleGo_items a1 λr b1 b2=>?_⟩;rw[m]at a2;have a:H s.heap.objs.size=none:=I.hok.fresh (bn _);have lI:it<s.heap.objs.size:=bx l;have keep:∀b o,b≠it->s.heap.get? b=some o->r.get? b=some o:=λb o n e=>(b2.2 b n).trans (hk b o n e);have B:r.get? s.heap.objs.size=some { cls:=.type "tuple",data:=.seq #[.ref y,es[i].val]}:=(b2.2 _ (Nat.ne_of_gt lI)).trans a2
  have Q:HOk X.prog X.w (upd H s.heap.objs.size (.tup [.ref y,v])) r:=λb u e=>by
   by_cases g:b=s.heap.objs.size
   .subst g;rw[ya]at e;cases e;exists by show 2<=sizeLine;decide,[.ref y,es[i].val],.cons rfl (.cons k3 .nil),⟨_,B,rfl,_,rfl⟩
   .rw[yk g]at e;refine(I.hok b u e).stay (λc z x q=>keep c z ?_ q) (λc q=>by rw[yk (yb q a)];exact q) λc ys q=>by rw[yk (yb q a)];exact q
    rcases x with rfl|x
    .exact yb e N
    .exact yb x N
  have un:Un (frs X.stack) [it] H (upd H s.heap.objs.size (.tup [.ref y,v])) s.heap r:=by
   have O:∀{b z},b∉[it]->s.heap.get? b=some z->r.get? b=some z:=λ{b z}g e=>keep b z (λq=>g (by simp[q])) e;exists λb z e n W C=>O C e,λb z e n W C=>⟨z.slots,O C e⟩,λb z e n W=>by rw[yk (bR (bx e))];exact n,λb z e C=>⟨z,O C e⟩,λb ys e=>by rw[yk (yb e a)];exact e,λb z u e=>by rw[yk (yb e a)];exact e,λb ps e=>⟨#[],by rw[yk (yb e a),e];simp⟩
  have I1:Inv X p σ (upd H s.heap.objs.size (.tup [.ref y,v])) {s with heap:=r}:=I.call' (s':={s with heap:=r}) rfl un Q I.bare λb g=>by
   have f:=G b g;exact⟨f.2.2.2.1,f.2.1,f.2.2.2.2.1,f.2.2.2.2.2⟩
  exists .ref s.heap.objs.size,_,I1,rfl,⟨_,y,F,v,rfl,a,rfl,a0,by rw[show F=_ from k1]at U⊢;exact U⟩,⟨_,_,b1⟩,λb g=>?_;rw[yk (λq=>?_)]
  .exact(G b g).1
  .have e:b=it:=by simpa using g
   rw[e]at q;exact absurd q (bR lI)
 done:=by
  intro X S Y R hc i p s σ H E I G ⟨ok,ov,l⟩ ⟨T,a4⟩;subst S Y R;let⟨N,f1,f2,f3,f4,f5⟩:=G it (by simp);let⟨M,_⟩:=(show w8 X.prog X.w H s.heap d (.frz o (.dT kvs))from I.hok d _ T);exact yh6 (I.ok.hd hc) l M ho (by omega) λh' eb=>⟨rfl,I.turned (t':=s.toks) (λb o g e=>eb b o g e) N f1 f3 f4 f5⟩
 self:=λW W W W W ⟨_,_,l⟩ h=>yf5 l h
section
variable{X:Cx}
def yo9(to:TE):TI:=λσ H R=>to σ H λx H1=>∃d kvs,x=.ref d/\H1 d=some (.dT kvs)/\∀o,R (Iti o d kvs) (upd H1 d (.frz o (.dT kvs)))
def ynf{elts:qi qg}{x1}{tpos:Pos}{o:qg}{to:TE}{apos cpos:Pos}(ho:PE X o to)(hbase:attributeBase o "items" X.env (eval o X.env)=eval o X.env:=by rfl)(hline:(apos.endLine == cpos.line)=true:=by rfl):
  PI X (.Tuple elts x1 tpos) (.Call (.Attribute o "items" apos) [] [] cpos) (yo9 to):=by
 intro i s σ H R I h;refine wpAny_Call_method0_late hbase hline (thn (ho i s σ H _ I h) λv j h'=>?_);let⟨x,z,r,E,D⟩:=h';let⟨d,f,rfl,u,q⟩:=D;cases E;let⟨_,m,K,C,n,y,J,g,k,t,B,_⟩:=(show w8 X.prog X.w z j.heap d (.dT f)from r.hok d _ u);refine⟨"dict","dict.items",F.plainAttrs_dict,F.slot_dict_items,F.type_dict_items,⟨n,g,k.1⟩,λa A=>by cases A;exact⟨n,g,k.2.1⟩,Calls.callWith_builtin rfl (PySem.evalArgs_none (yfn m g k ?_))⟩;refine yfr ⟨_,bA _ rfl,rfl,rfl⟩ (bj _ g) t ?_;have p:=r.freeze u trivial g;have l:y.size=f.length:=by rw[(xx C),<- cw,B,bf]
 exists _,[_],_,_,_,rfl,p.kept (t':=j.toks) λb o e=>bj _ (bj _ e),ygj d _ t l,⟨_,_,bA _ rfl⟩,λb G=>?_,q n;have e:b=(j.heap.push { cls:=.type "dict_items",data:=.fields #[.ref d]}).objs.size:=by simpa using G
 have c:j.heap.objs.size<=b:=by rw[e,Heap.size_push];omega
 exact p.fpOk c (p.hok.fresh c)
def ymv{to:TE}{σ:St}{H:Hp}{R:It->Hp->Prop}(h:to σ H λx H1=>∃d kvs,x=.ref d/\H1 d=some (.dT kvs)/\∀o,R (Iti o d kvs) (upd H1 d (.frz o (.dT kvs)))):yo9 to σ H R:=h
def vb3(H:Hp)(D:Ă):Ă:={D with nx:=λσ' H'=>∃d o u,(∀o u,H d≠some (.frz o u))/\H' d=some (.frz o u)/\D.nx σ' (upd H' d u)}
def vby(t:TS):TS:=λD σ H=>t (vb3 H D) σ H
def Ğ{st:qc}{t:TS}(h:PS X st t):PS X st (vby t):=by
 refine .mk λa s σ H D I q=>?_;refine thn (h a s σ H _ I q) λf i z=>?_
 cases f with
 |next =>
  let⟨σ',j,J,d,o,b,c,g,k⟩:=z;exists σ',_,J.thaw (λo u e=>c o u (I.base.frzs d o u e)) g,k
 |brk=>exact z
 |cont=>exact z
 |ret u=>exact z
def yzo{t:TS}{D:Ă}{σ:St}{H:Hp}(h:t (vb3 H D) σ H):vby t D σ H:=h
end
def yhb{o:Obj}{d:x0}{kvs:qi (qi Key×V)}{g:TG}{tb:TS}{D:Ă}{σ:St}{H:Hp}(Pv:Nat->St->Hp->Prop)(h0:Pv 0 σ H)(hl:∀i σ H,i<=kvs.length->Pv i σ H->H d=some (.frz o (.dT kvs)))
  (hs:∀i key v σ H t kt,kvs[i]?=some (key,v)->Pv i σ H->H t=none->H kt=some (.tup (key.map kV))->g (.ref t) σ (upd H t (.tup [.ref kt,v])) λσ2 H2=>tb {D with nx:=Pv (i+1),ct:=Pv (i+1),bk:=D.nx} σ2 H2) (hd:∀σ H,Pv kvs.length σ H->D.nx σ H):
  ∃W:Nat->Nat->St->Hp->Prop,(∃m,W 0 m σ H)/\∀i m σ H,W i m σ H ->
   ((Iti o d kvs).stop i H/\D.nx σ H)\/((Iti o d kvs).go i H/\∃N:Ζ,(∀σ' H',N σ' H'->∃m',m'<m/\W (i+1) m' σ' H')/\∀x H',(Iti o d kvs).yld i H x H'->g x σ H' λσ2 H2=>tb {D with nx:=N,ct:=N,bk:=D.nx} σ2 H2):=by
 exists λi m σ H=>m=kvs.length-i/\i<=kvs.length/\Pv i σ H,⟨kvs.length,by simp,bK _,h0⟩,?_;rintro i m σ H ⟨rfl,c,p⟩;have q:=hl i σ H c p;by_cases hlt:i<kvs.length
 .refine .inr ⟨⟨q,hlt⟩,Pv (i+1),λσ' H' h=>⟨kvs.length-(i+1),by omega,rfl,hlt,h⟩,λx H' y=>?_⟩;let⟨t,kt,key,v,rfl,f,rfl,a,b⟩:=y;exact hs i key v σ H t kt a p f b
 .have e:i=kvs.length:=by omega
  subst e;exact .inl ⟨⟨q,bn _⟩,hd σ H p⟩
def Its(x:Str):It:=⟨λi Z=>i<x.cps.size,λi H v H'=>H'=H/\∃c,x.cps[i]?=some c/\v=.str ⟨#[c]⟩,λi Z=>i=x.cps.size⟩
def ydo{w:qd}{K:xr}{ty:String}(x:Str)(t:Tok)(it:x0)(hn:["enumerate","zip","dict_itemiterator","dict_reverseitemiterator","odict_iterator","itertools.zip_longest","itertools.pairwise"].contains ty=false)
  (W:∀A:qe,A.handled=none->Walks P w A it [it] [it] x.cps.size (SignAt x) (λi h=>h.IsStrIter it ty x t i)) (hs:∀(A:qe)(i:Nat)(s:qa)(Q E:Δ),s.heap.IsStrIter it ty x t i->Q (.ref it) s->wpAny (model P w) A (pyIter (.ref it)) Q E s):yfh P w K tg (Its x) [it] it (λi h=>h.IsStrIter it ty x t i) where
 mem:=by simp
 obj:=λi h a b g=>by
  have e:b=it:=by simpa using g
  subst e;let⟨o,e,_,d⟩:=a;exists o,e,λv z=>by rw[d]at z;cases z
 keep:=λi h m a k=>let ⟨o,e,r⟩:=a;⟨o,k it (by simp) o e,r⟩
 item:=by
  intro X J L y D i f s σ H E I n a j;subst J L y;let⟨G,p,T,q,B,C⟩:=n it (by simp);refine(W X.A (I.ok.hd D)).item i s _ _ j a λv m F S l M=>?_;let⟨c,u,R,rfl⟩:=S;have O:Inv X f σ H {s with heap:=m,toks:=F}:=I.turned (λb o g e=>M b o (by simpa using g) e) G p q B C;let⟨o,e,N,U⟩:=id l;exists _,rfl,ygs (s:={s with heap:=m,toks:=F}) e N U hn ⟨.str ⟨#[c]⟩,H,O,⟨u,rfl⟩,⟨rfl,c,R,rfl⟩,l,λb g=>(n b g).1⟩
 done:=by
  intro X J L y D i f s σ H E I n a j;subst J L y;have j:i=x.cps.size:=j;subst j;let⟨G,p,T,q,B,C⟩:=n it (by simp);exact(W X.A (I.ok.hd D)).done s _ _ a λm F M=>⟨rfl,I.turned (λb o g e=>M b o (by simpa using g) e) G p q B C⟩
 self:=λA i s Q E a h=>hs A i s Q E a h
section
variable{X:Cx}
def vfe(tl:TE):TI:=λσ H R=>tl σ H λv H1=>∃x,v=.str x/\R (Its x) H1
def yy7{l:qg}{tl:TE}(hl:PE X l tl):PI X tg l (vfe tl):=by
 intro c s σ H R I h;refine thn (hl c s σ H _ I h) λv a h'=>?_;let⟨y,g,f,k,x,e,q⟩:=h';subst e;let⟨t,rfl⟩:=k
 have d:∀{ob:Obj},∀b∈[a.heap.objs.size],yb9 X c g b:=λ{_}b m=>by
  have e:b=a.heap.objs.size:=by simpa using m
  subst e;exact f.fpOk (bn _) (f.hok.fresh (bn _))
 cases ha:x.cps.all (· <128)
 .refine wpAny_pyIter_wide ha ?_;exists a.heap.objs.size,[a.heap.objs.size],_,_,g,rfl,f.kept (t':=a.toks) λb o e=>bj _ e,ydo x t _ (by decide) (λA i=>Walks.strWide i _ x t) (λZ Z Z Z Z j h=>wpAny_pyIter_striter_wide j h),⟨_,bA _ rfl,rfl,rfl⟩,d (ob:=default),q
 .refine wpAny_pyIter_ascii ha ?_;exists a.heap.objs.size,[a.heap.objs.size],_,_,g,rfl,f.kept (t':=a.toks) λb o e=>bj _ e,ydo x t _ (by decide) (λA i=>Walks.strAscii i _ x t) (λZ Z Z Z Z j h=>wpAny_pyIter_striter_ascii j h),⟨_,bA _ rfl,rfl,rfl⟩,d (ob:=default),q
def yxl{tl:TE}{σ:St}{H:Hp}{R:It->Hp->Prop}(h:tl σ H λv H1=>∃x,v=.str x/\R (Its x) H1):vfe tl σ H R:=h
def yr4{x:Str}{k:Str}{t:Tok}{pos:Pos}(hg:Gl X x)(hm:X.mg x=some (.str k t))(hd:(x == ("__debug__":Str))=false:=by decide):PE X (.Name x pos) (tC (.str k)):=yde hg hm ⟨t,rfl⟩ hd
end
def yg6{x:Str}{te:TE}{R:Hp->Prop}{H1:Hp}(f:Nat->V)(hD:H1 D=none)
  (hs:∀i c H,x.cps[i]?=some c->i<x.cps.size->yv H1 H->H D=some (.lst ((List.range i).map f))->te [some (.str ⟨#[c]⟩)] H (MpK H1 D f x.cps.size i)) (hd:∀H,yv H1 H->H D=some (.lst ((List.range x.cps.size).map f))->R H):yff (Its x) te D R H1:=by
 exists cW x.cps.size (Mp H1 D f),⟨x.cps.size,by simp,bK _,Mp.zero hD⟩,?_;rintro i m H ⟨rfl,b,p⟩;by_cases hlt:i<x.cps.size
 .refine .inr ⟨hlt,λv d y=>?_⟩;let⟨rfl,c,a,rfl⟩:=y;exact hs i c _ a hlt p.1 p.2
 .have e:i=x.cps.size:=by omega
  subst e;exact .inl ⟨rfl,hd H p.1 p.2⟩
def Itk(o:Obj)(d:x0)(kvs:Κ):It :=
 ⟨λi H=>H d=some (.frz o (.dK kvs))/\i<kvs.length,λi H x H'=>H'=H/\∃k v,kvs[i]?=some (k,v)/\x=kV k,λi H=>H d=some (.frz o (.dK kvs))/\kvs.length<=i⟩
def Itv(o:Obj)(d:x0)(kvs:Κ):It :=
 ⟨λi H=>H d=some (.frz o (.dK kvs))/\i<kvs.length,λi H x H'=>H'=H/\∃k,kvs[i]?=some (k,x),λi H=>H d=some (.frz o (.dK kvs))/\kvs.length<=i⟩
def vce{w:qd}{k:Key}{u:qb}(r:(wk P w).is k u=true):xk (kV k) u:=by rcases xa r with⟨i,t,rfl,rfl⟩|⟨x,t,rfl,rfl⟩<;>exact⟨t,rfl⟩
def KV.get{kvs:Κ}{vs:qi (Key×qb)}(r:KV kvs vs){k:Key}{u:qb}(h:vs[i]?=some (k,u)):∃v,kvs[i]?=some (k,v)/\xk v u:=by let⟨⟨b,v⟩,e,a,c⟩:=yba r h;have a:b=k:=a;exists v,by rw[e,a],c
def yiv{xs:Υ}{us:Ο}(hl:xs.length=us.length)(h:∀(i:Nat)u,us[i]?=some u->∃x,xs[i]?=some x/\xk x u):wu xs us:=by
 induction xs generalizing us with
 |nil =>
  cases us with
  |nil=>exact .nil
  |cons u us=>cases hl
 |cons x xs ih =>
  cases us with
  |nil=>cases hl
  |cons u us =>
   let⟨y,e,r⟩:=h 0 u rfl;cases e;exact .cons r (ih (Nat.succ.inj hl) λi u a=>h (i+1) u a)
def yey{X:Cx}{σ:St}{H:Hp}{s:qa}{d:x0}{kvs:Κ}{o:Obj}{es:Array DictEntry}(I:Inv X pins σ H s)(hd:H d=some (.frz o (.dK kvs)))(ho:o.data=.dict es ep):∃vs,KV kvs vs/\s.heap.DictAt (wk X.prog X.w) d vs ep:=by let⟨b,_,_,vs,r,i,f,g,c,h,a,e⟩:=(show w8 X.prog X.w H s.heap d (.frz o (.dK kvs))from I.hok d _ hd);rw[b]at c;cases c;rw[ho]at a;cases a;exists vs,r,o,es,b,h,ho,e
def ybh{w:qd}{K:xr}{o:Obj}{es:Array DictEntry}{kvs:Κ}(d it:x0)(hne:d≠it)(ho:o.data=.dict es ep):yfh P w K tg (Itk o d kvs) [it] it (λi h=>h.IsKeyIter it d i kvs.length ep) where
 mem:=by simp
 obj:=λi h a b f=>by
  have e:b=it:=by simpa using f
  subst e;let⟨o,e,_,d⟩:=a;exists o,e,λv z=>by rw[d]at z;cases z
 keep:=λi h j a k=>a.at λo e=>k it (by simp) o e
 item:=by
  intro X F J t C i c s σ H E I m a ⟨G,a0⟩;subst F J t;let⟨D,n,f2,q,u,B⟩:=m it (by simp);let⟨L,r,p⟩:=yey I G ho;have l:=r.length;have W:=Walks.dictKeys (knd:=wk X.prog X.w) (prog:=X.prog) (w:=X.w) (A:=X.A) (I.ok.hd C) it d hne L ep;refine W.item i s _ _ (by omega) ⟨by rw[<- l];exact a,p⟩ λv j M R g kk=>?_;let⟨k,x,N,T⟩:=R;let⟨y,Z,_⟩:=r.get N;have O:Inv X c σ H {s with heap:=j,toks:=M}:=I.turned (λb o f e=>kk b o (by simpa using f) e) D n q u B;let⟨o',e',Q,S⟩:=id g.1;exists _,rfl,ygs (s:={s with heap:=j,toks:=M}) e' Q S (by decide) ⟨kV k,H,O,vce T,⟨rfl,k,y,Z,rfl⟩,by rw[l];exact g.1,λb f=>(m b f).1⟩
 done:=by
  intro X F J t C i c s σ H E I m a ⟨G,U⟩;subst F J t;let⟨D,n,f2,q,u,B⟩:=m it (by simp);let⟨L,r,p⟩:=yey I G ho;have l:=r.length;exact wpAny_pyNext_dict_end (I.ok.hd C) (by rw[<- l];exact a) p (by rw[List.getElem?_eq_none_iff];omega) λj Y=>⟨rfl,I.turned (t':=s.toks) (λb o f e=>Y b o f e) D n q u B⟩
 self:=λv v v v v a h=>wpAny_pyIter_keyiter a h
def yiu{w:qd}{K:xr}{o:Obj}{es:Array DictEntry}{kvs:Κ}(d it:x0)(hne:d≠it)(ho:o.data=.dict es ep):yfh P w K tg (Itv o d kvs) [it] it (λi h=>h.IsValIter it d i kvs.length ep) where
 mem:=by simp
 obj:=λi h a b f=>by
  have e:b=it:=by simpa using f
  subst e;let⟨o,e,_,d⟩:=a;exists o,e,λv z=>by rw[d]at z;cases z
 keep:=λi h j a k=>a.at λo e=>k it (by simp) o e
 item:=by
  intro X D G t B i c s σ H E I m a ⟨F,a0⟩;subst D G t;let⟨C,n,Z,q,u,x⟩:=m it (by simp);let⟨J,r,p⟩:=yey I F ho;have l:=r.length;have W:=Walks.dictValues (knd:=wk X.prog X.w) (prog:=X.prog) (w:=X.w) (A:=X.A) (I.ok.hd B) it d hne J ep;refine W.item i s _ _ (by omega) ⟨by rw[<- l];exact a,p⟩ λv j L Q g kk=>?_;let⟨k,M⟩:=Q;let⟨y,Y,S⟩:=r.get M;have N:Inv X c σ H {s with heap:=j,toks:=L}:=I.turned (λb o f e=>kk b o (by simpa using f) e) C n q u x;let⟨o',e',O,R⟩:=id g.1;exists _,rfl,ygs (s:={s with heap:=j,toks:=L}) e' O R (by decide) ⟨y,H,N,S,⟨rfl,k,Y⟩,by rw[l];exact g.1,λb f=>(m b f).1⟩
 done:=by
  intro X D G t B i c s σ H E I m a ⟨F,T⟩;subst D G t;let⟨C,n,Z,q,u,x⟩:=m it (by simp);let⟨J,r,p⟩:=yey I F ho;have l:=r.length;exact wpAny_pyNext_values_end (I.ok.hd B) (by rw[<- l];exact a) p (by rw[List.getElem?_eq_none_iff];omega) λj U=>⟨rfl,I.turned (t':=s.toks) (λb o f e=>U b o f e) C n q u x⟩
 self:=λv v v v v a h=>wpAny_pyIter_valiter a h
section
variable{X:Cx}
def vco(to:TE):TI:=λσ H R=>to σ H λx H1=>∃d kvs,x=.ref d/\H1 d=some (.dK kvs)/\∀o,R (Itk o d kvs) (upd H1 d (.frz o (.dK kvs)))
def vb7(to:TE):TI:=λσ H R=>to σ H λx H1=>∃d kvs,x=.ref d/\H1 d=some (.dK kvs)/\∀o,R (Itv o d kvs) (upd H1 d (.frz o (.dK kvs)))
def yac{l:qg}{to:TE}(hl:PE X l to):PI X tg l (vco to):=by
 intro c s σ H R I h;refine thn (hl c s σ H _ I h) λv a h'=>?_;let⟨x,y,k,D,d,f,e,p,q⟩:=h';subst e;cases D;let⟨_,g,t,r,n,u,A,i,C,m,B⟩:=(show w8 X.prog X.w y a.heap d (.dK f)from k.hok d _ p);have z:a.heap.DictAt (wk X.prog X.w) d t A:=⟨n,u,i,C,m,B⟩;refine wpAny_pyIter_dict g z ?_;have j:=k.freeze p trivial i;exists a.heap.objs.size,[a.heap.objs.size],_,_,_,rfl,j.kept (t':=a.toks) λb o e=>bj _ e,ybh d _ (bR (bx i)) m,⟨_,bA _ rfl,rfl,by rw[r.length];rfl⟩,λb E=>?_,q n;have e:b=a.heap.objs.size:=by simpa using E
 subst e;exact j.fpOk (bn _) (j.hok.fresh (bn _))
def yi1{l:qg}{to:TE}{apos cpos:Pos}(hl:PE X l to)(hbase:attributeBase l "values" X.env (eval l X.env)=eval l X.env:=by rfl)(hline:(apos.endLine == cpos.line)=true:=by rfl):PI X tg (.Call (.Attribute l "values" apos) [] [] cpos) (vb7 to):=by
 intro j s σ H R I h;refine wpAny_Call_method0_late hbase hline (thn (hl j s σ H _ I h) λv c h'=>?_);let⟨x,D,z,J,d,kvs,e,B,q⟩:=h';subst e;cases J;let⟨_,p,m,r,k,C,ep,i,t,A,G⟩:=(show w8 X.prog X.w D c.heap d (.dK kvs)from z.hok d _ B);have n:c.heap.DictAt (wk X.prog X.w) d m ep:=⟨k,C,i,t,A,G⟩;refine⟨"dict","dict.values",F.plainAttrs_dict,F.slot_dict_values,F.type_dict_values,⟨k,i,t.1⟩,λa E=>by cases E;exact⟨k,i,t.2.1⟩,Calls.callWith_builtin rfl (PySem.evalArgs_none (call_meetsIn F.slot_dict_values n.dictOf.typeIs F.entry_dict_values (F.args_dict_values_1 _) (meets_dict_values (wk X.prog X.w) d p) ⟨⟨m,n.dictOf⟩,?_⟩))⟩;refine wpAny_pyIter_values (knd:=wk X.prog X.w) (d:=d) (kvs:=m) (ep:=ep) ⟨_,bA _ rfl,rfl,rfl⟩ (n.push _) ?_;have u:=z.freeze B trivial i;have g:(c.heap.push { cls:=.type "dict_values",data:=.fields #[.ref d]}).objs.size=c.heap.objs.size+1:=Heap.size_push ..;have y:d<c.heap.objs.size:=bx i;exists _,[_],_,_,_,rfl,u.kept (t':=c.toks) λb o e=>bj _ (bj _ e),yiu d _ (show d≠(c.heap.push _).objs.size by rw[g];exact bR (Nat.lt_succ_of_lt y)) A,⟨_,bA _ rfl,rfl,by rw[r.length];rfl⟩,λb K=>?_,q k;have e:b=(c.heap.push { cls:=.type "dict_values",data:=.fields #[.ref d]}).objs.size:=by simpa using K
 have f:c.heap.objs.size<=b:=by rw[e,g];omega
 exact u.fpOk f (u.hok.fresh f)
def yq0{to:TE}{σ:St}{H:Hp}{R:It->Hp->Prop}(h:to σ H λx H1=>∃d kvs,x=.ref d/\H1 d=some (.dK kvs)/\∀o,R (Itk o d kvs) (upd H1 d (.frz o (.dK kvs)))):vco to σ H R:=h
def ys0{to:TE}{σ:St}{H:Hp}{R:It->Hp->Prop}(h:to σ H λx H1=>∃d kvs,x=.ref d/\H1 d=some (.dK kvs)/\∀o,R (Itv o d kvs) (upd H1 d (.frz o (.dK kvs)))):vb7 to σ H R:=h
def yo6(t:TE):TE:=λσ H Q=>t σ H λv H'=>∃d o u,(∀o u,H d≠some (.frz o u))/\H' d=some (.frz o u)/\Q v (upd H' d u)
def yi8{e:qg}{t:TE}(h:PE X e t):PE X e (yo6 t):=.mk λa s σ H Q I q=>thn (h a s σ H _ I q) λv f z=>by
 let⟨x,g,J,r,d,o,u,b,c,k⟩:=z;exists x,_,J.thaw (λo u e=>b o u (I.base.frzs d o u e)) c,r,k
def ytj{t:TE}{σ:St}{H:Hp}{Q:VK}(h:t σ H λv H'=>∃d o u,(∀o u,H d≠some (.frz o u))/\H' d=some (.frz o u)/\Q v (upd H' d u)):yo6 t σ H Q:=h
def vas:qi V->Hp->VK->Prop:=λxs H Q=>∃d kvs,xs=[.ref d]/\H d=some (.dK kvs)/\∀l,H l=none->Q (.ref l) (upd H l (.lst (kvs.map λp=>kV p.1)))
def uz(hc:X.calm=true):zh X (.type "list") vas:=by
 intro g s σ H O P Q I r h;let⟨d,kvs,rfl,M,q⟩:=h;let⟨u,rfl,n⟩:=γ r;cases n;let⟨j,c,f,r,L,l,ep,E,J,F,C⟩:=(show w8 X.prog X.w H s.heap d (.dK kvs)from I.hok d _ M);have t:s.heap.DictAt (wk X.prog X.w) d f ep:=⟨L,l,E,J,F,C⟩;refine W.kdl_call (W.kdl_dict (knd:=wk X.prog X.w) (kvs:=f) (ep:=ep) c) (I.ok.hd hc) t (by rw[<- r.length];exact j) λz K a A m e b=>?_
 have B:wu (kvs.map λp=>kV p.1) a.toList:=yiv (by have T:=b.1;have R:=r.length;have S:a.toList.length=a.size:=cw;rw[bf];omega) λi v G=>by
  let⟨k,x,o,D⟩:=b.2 i v (by rw[<- Array.getElem?_toList];exact G);let⟨y,N,_⟩:=r.get o;exists kV k,by rw[bo,N];rfl,vce D
 exists .ref s.heap.objs.size,_,I.laid (t':=K) m (bn _) (show w8 X.prog X.w _ z _ (.lst _)from ⟨by rw[bf];exact j,a.toList,A,B,by rw[Array.toArray_toList];exact e⟩),rfl,q _ (I.hok.fresh (bn _))
end
def ù{o:Obj}{d:x0}{kvs:Κ}{g:TG}{tb:TS}{D:Ă}{σ:St}{H:Hp}(Pv:Nat->St->Hp->Prop)(h0:Pv 0 σ H)(hl:∀i σ H,i<=kvs.length->Pv i σ H->H d=some (.frz o (.dK kvs)))
  (hs:∀i k v σ H,kvs[i]?=some (k,v)->Pv i σ H->g (kV k) σ H λσ2 H2=>tb {D with nx:=Pv (i+1),ct:=Pv (i+1),bk:=D.nx} σ2 H2) (hd:∀σ H,Pv kvs.length σ H->D.nx σ H):
  ∃W:Nat->Nat->St->Hp->Prop,(∃m,W 0 m σ H)/\∀i m σ H,W i m σ H ->
   ((Itk o d kvs).stop i H/\D.nx σ H)\/((Itk o d kvs).go i H/\∃N:Ζ,(∀σ' H',N σ' H'->∃m',m'<m/\W (i+1) m' σ' H')/\∀x H',(Itk o d kvs).yld i H x H'->g x σ H' λσ2 H2=>tb {D with nx:=N,ct:=N,bk:=D.nx} σ2 H2):=by
 exists λi m σ H=>m=kvs.length-i/\i<=kvs.length/\Pv i σ H,⟨kvs.length,by simp,bK _,h0⟩,?_;rintro i m σ H ⟨rfl,b,p⟩;have q:=hl i σ H b p;by_cases hlt:i<kvs.length
 .refine .inr ⟨⟨q,hlt⟩,Pv (i+1),λσ' H' c=>⟨kvs.length-(i+1),by omega,rfl,hlt,c⟩,λx H' y=>?_⟩;let⟨rfl,k,v,a,rfl⟩:=y;exact hs i k v σ _ a p
 .have e:i=kvs.length:=by omega
  subst e;exact .inl ⟨⟨q,bn _⟩,hd σ H p⟩
def ŉ{o:Obj}{d:x0}{kvs:Κ}{te:TE}{fr:St}{R:Hp->Prop}{H1:Hp}(Pv:Nat->Hp->Prop)(h0:Pv 0 (upd H1 D (.lst [])))(hl:∀i H,i<=kvs.length->Pv i H->H d=some (.frz o (.dK kvs)))
  (hs:∀i k v H,kvs[i]?=some (k,v)->i<kvs.length->Pv i H->te (some v::fr) H λy H4=>∃ys,H4 D=some (.lst ys)/\ys.length<sizeLine/\∃m',m'<kvs.length-i/\cW kvs.length Pv (i+1) m' (upd H4 D (.lst (ys++[y])))) (hd:∀H,Pv kvs.length H->R H):zb (Itv o d kvs) te fr D R H1:=by
 exists cW kvs.length Pv,⟨kvs.length,by simp,bK _,h0⟩,?_;rintro i m H ⟨rfl,b,p⟩;have q:=hl i H b p;by_cases hlt:i<kvs.length
 .refine .inr ⟨⟨q,hlt⟩,λx c y=>?_⟩;let⟨rfl,k,a⟩:=y;exact hs i k x _ a hlt p
 .have e:i=kvs.length:=by omega
  subst e;exact .inl ⟨⟨q,bn _⟩,hd H p⟩
def isN:V->Bool
 | .non=>true
 |_=>false
def vcr:qb->Bool
 | .none=>true
 |_=>false
def vge(K:xr):R2:=λx y H Q=>∃p xs,x=.non/\y=.ref p/\SqL K H p xs/\(∀z∈xs,z=.non\/∃q ys,z=.ref q/\SqL K H q ys)/\Q (.bl (xs.any isN)) H
theorem yi4:∀{xs:Υ}{us:Ο},wu xs us->(∀z∈xs,z=.non\/∃q,z=.ref q)->us.any vcr=xs.any isN
 |_,_,.nil,_=>rfl
 |y::xs,u::us,.cons r t,f=>by
  rw[List.any_cons,List.any_cons,yi4 t λz a=>f z (bN _ a)]
  congr 1
  rcases f y bO with rfl|⟨q,rfl⟩
  .cases r;rfl
  .cases r;rfl
def vab{X:Cx}(hu:X.A.units+64<cLine):OpR X (compareOp .In) (vge X.K):=by
 intro o s σ H x y v u Q I C E h;let⟨p,c,rfl,rfl,B,d,q⟩:=h;cases C;cases E;let⟨b,r,G,D⟩:=I.list B
 have g:∀{c:Υ}{j:Ο},wu c j->(∀z∈c,z=.non\/∃q n,z=.ref q/\SqL X.K H q n)->∀w∈j,SeqAt.EqAt X.A.in1 s w .none (vcr w):=by
  intro c j F
  induction F with
  |nil=>intro _ w a;cases a
  |cons r1 t ih =>
   intro f w a;rcases bC.mp a with rfl|a
   .rcases f _ bO with rfl|⟨J,n,rfl,l⟩
    .cases r1;exact SeqAt.EqAt.same _
    .cases r1;let⟨m,_,k,_⟩:=I.list l;exact SeqAt.EqAt.list_none k.isList (by show X.A.units+1<cLine;omega)
   .exact ih (λz d=>f z (bN _ d)) w a
 refine SeqAt.in_listAt vcr G.isList (λw a=>g r d w (by simpa using a)) ⟨.bl _,H,I,rfl,?_⟩;rw[show b.toArray.any vcr=b.any vcr by simp,yi4 r λz i=>(d z i).imp id λ⟨q,_,e,_⟩=>⟨q,e⟩];exact q
def jp{X:Cx}:zh X (.builtin "len") (λxs H Q=>∃a kvs,xs=[V.ref a]/\H a=some (.dK kvs)/\Q (.int kvs.length) H):=by intro b s σ H xs f Q I r h;let⟨a,kvs,rfl,e,q⟩:=h;let⟨u,rfl,c⟩:=γ r;cases c;exact vdb I (.of e) λt g d=>⟨.int kvs.length,H,d,⟨t,rfl⟩,q⟩
def yra{σ:St}{H:Hp}{Q:VK}(h:∀p,H p=none->Q (.ref p) (upd H p (.dK []))):yn4 σ H Q:=h
def yrj{td ty:TE}{σ:St}{H:Hp}{Q:VK}(h:td σ H λx H1=>∃a,x=.ref a/\IsD H1 a/\ty σ H1 λy H2=>∃kvs k v,H2 a=some (.dK kvs)/\y=kV k/\zn kvs k=some v/\Q v (upd H2 a (.dK (Ø kvs k)))):yof td ty σ H Q:=h
def yhk(bs:qi Bool):((List.range bs.length).any λi=>(bs[i]?).getD false)=bs.any id:=by
 rw[Bool.eq_iff_iff,cU,cU]
 constructor
 .rintro ⟨i,a,h⟩;have a:=cA.mp a;rw[bi a]at h;exists _,ce a,h
 .rintro ⟨b,c,h⟩;let⟨i,a,rfl⟩:=List.getElem_of_mem c;exists i,cA.mpr a,by rw[bi a];exact h
def ynm{X:Cx}(hc:X.calm=true):zh X (.builtin "any") (λxs H Q=>∃p bs,xs=[.ref p]/\SqL X.K H p (List.map V.bl bs)/\Q (.bl (bs.any id)) H):=by
 intro g s σ H xs C Q I r h;let⟨p,bs,rfl,j,q⟩:=h;let⟨u,rfl,l⟩:=γ r;cases l;let⟨o,k,w,E⟩:=I.list j;obtain rfl:=ſ k;have c:=w.isList;have f:p<s.heap.objs.size:=by let⟨_,e,_⟩:=c;exact bx e
 refine call_any_walk (wpAny_pyIter_list c ?_)
 refine⟨s.heap.objs.size,[s.heap.objs.size,p],[s.heap.objs.size],(bs.map Value.bool).toArray.size,_,_,λi=>(bs[i]?).getD false,rfl,Walks.list (A:=X.A.in1) (show X.A.handled=none from I.ok.hd hc) _ p (bR f) (bs.map Value.bool).toArray,
  ⟨⟨_,bA _ rfl,rfl,rfl⟩,c.push _⟩,λi v z y D a d=>?_,λB n m=>?_⟩
 .have a:(bs.map Value.bool)[i]?=some v:=by simpa using a
  rw[bo]at a
  cases e:bs[i]? with
  |none=>rw[e]at a;cases a
  |some b =>
   dsimp only at d;rw[e]at a d;cases a;exact cE d
 .have e:((List.range (bs.map Value.bool).toArray.size).any λi=>(bs[i]?).getD false)=bs.any id:=by rw[bz,bf];exact yhk bs
  rw[e];exists .bl (bs.any id),H,I.kept (t':=n) λb x e=>m b x (λt=>?_) (bj _ e),rfl,q;rw[bF.mp t]at e;exact cQ _ (bx e)
section
variable{X:Cx}
def ve8:V->qj Int->qj Int->Hp->VK->Prop:=λx lo hi H Q=>∃z:Str,x=.str z/\z.length<=sizeLine/\Q (.str (Txt.slice z lo hi)) H
def yp3:SlR X ve8:=by
 intro e s σ H x v m n lo o p Q I f b g d h;let⟨z,rfl,a,q⟩:=h;let⟨t,rfl⟩:=f;refine⟨"str",_,F.slot_str_getitem.lookup,typeIs_str _ _ _,?_⟩
 cases g with
 |none =>
  cases d with
  |none=>exact wpAny_getItem_str_slice (l:=none) (u:=none) (st:=none) b rfl (post_val_or_str ⟨bQ (Txt.slice_le z _ _) a,λc k=>⟨.str _,H,I.tok _,⟨_,rfl⟩,q⟩⟩)
  |int j uj=>exact wpAny_getItem_str_slice (l:=none) (u:=some (j,uj)) (st:=none) b rfl (post_val_or_str ⟨bQ (Txt.slice_le z _ _) a,λc k=>⟨.str _,H,I.tok _,⟨_,rfl⟩,q⟩⟩)
 |int i ui =>
  cases d with
  |none=>exact wpAny_getItem_str_slice (l:=some (i,ui)) (u:=none) (st:=none) b rfl (post_val_or_str ⟨bQ (Txt.slice_le z _ _) a,λc k=>⟨.str _,H,I.tok _,⟨_,rfl⟩,q⟩⟩)
  |int j uj=>exact wpAny_getItem_str_slice (l:=some (i,ui)) (u:=some (j,uj)) (st:=none) b rfl (post_val_or_str ⟨bQ (Txt.slice_le z _ _) a,λc k=>⟨.str _,H,I.tok _,⟨_,rfl⟩,q⟩⟩)
def ylk{x:Str}(h:j<=x.length):(Txt.slice x none (some (j:Int))).cps.toList=x.cps.toList.take j:=by have e:=slice_closes_toL (x:=x) (j:=(j:Int)) (by omega) (by omega);rw[beq_iff_eq.mp e];simp
def yfp{x:Str}(h:j<=x.length):(Txt.slice x (some (j:Int)) none).cps.toList=x.cps.toList.drop j:=by
 rw[slice_from_eq (b:=(x.length:Int)) (by omega) (by omega) rfl];have e:x.length=x.cps.toList.length:=by simp[Str.length]
 simp;rw[cn (by rw[cI,e];omega)]
end
section
variable{X:Cx}
def yb6(p:x0)(n:Nat)(h:qf):Prop:=∃o es ep t,h.get? p=some o/\o.ExactSet/\o.data=.set es ep t/\t.fits es.size=true/\es.size<scanBound/\es.size=n
def yb6.st{p:x0}{n:Nat}{h1 h2:qf}(s:yb6 p n h1)(k:∀o,h1.get? p=some o->h2.get? p=some o):yb6 p n h2:=by let⟨o,a,b,t,e,r⟩:=s;exists o,a,b,t,k _ e,r
def vd5(K:xr):qi V->Hp->VK->Prop:=λxs H Q=>∃p ns,xs=[.ref p]/\SqL K H p (List.map V.int ns)/\ns.length<=1000/\∀q,H q=none->Q (.ref q) (upd H q (.ext (yb6 q (firstMet (λi=>ns.getD i 0) ns.length).length)))
def yhw(hc:X.calm=true):zh X (.type "set") (vd5 X.K):=by
 intro n s σ H N O Q I r h;let⟨p,d,rfl,y,L,q⟩:=h;let⟨u,rfl,z⟩:=γ r;cases z;let⟨c,g,M,_⟩:=I.list y;have E:IntsAre c.toArray.toList d:=yfm g
 have l:c.toArray.size=d.length:=by
  have e:=g.length;rw[bf]at e;rw[bz];exact e.symm
 refine call_set_list (I.ok.hd hc) M.isList E (by rw[l];exact Nat.lt_of_le_of_lt (Nat.succ_le_succ L) (by decide)) λj G m x=>?_;rw[l]at m;let⟨o,v,A,t,e,F,D,_,_,C,B,J⟩:=m
 have f:yb6 s.heap.objs.size (firstMet (λi=>d.getD i 0) d.length).length j:=⟨o,v,A,t,e,F,D,B,C,J⟩
 exists .ref s.heap.objs.size,_,I.laid (t':=G) (λb o e=>x b o (bx e) e) (bn _) (show w8 X.prog X.w _ j _ (.ext (yb6 s.heap.objs.size _))from ⟨f,⟨o,e⟩,λZ Z a k=>a.st k⟩),rfl,q _ (I.hok.fresh (bn _))
def ycz:zh X (.builtin "len") (λxs H Q=>∃q n,xs=[.ref q]/\H q=some (.ext (yb6 q n))/\Q (.int (n:Nat)) H):=by intro a s σ H xs l Q I r h;let⟨p,n,rfl,e,q⟩:=h;let⟨u,rfl,c⟩:=γ r;cases c;let⟨o,j,v,t,f,i,g,d,k,b⟩:=(show w8 X.prog X.w H s.heap p (.ext (yb6 p n))from I.hok p _ e).1;have m:scanBound=4096:=rfl;refine call_len_set f i g d (by omega) ?_;rw[b];exists .int (n:Nat),H,I.tok _,⟨_,rfl⟩,q
def vdw:R2:=λx y H Q=>∃(z:Str)(k:Int),x=.str z/\y=.int k/\0<=k/\k<=1000/\z.length<=1000/\∀z':Str,z'.cps.toList=(List.replicate k.toNat z.cps.toList).flatten->Q (.str z') H
theorem yjo(a:Array Nat):∀(k:Nat)(b:Array Nat),((List.replicate k a).foldl (·++·) b).toList=b.toList++(List.replicate k a.toList).flatten
 |0,b=>by simp
 |k+1,b=>by
  rw[cu,List.foldl_cons,yjo a k,Array.toList_append,cu,List.flatten_cons,cz]
theorem yfx:OpR X (binaryOp .Mult) vdw:=by
 intro a s σ H x y v u Q I d i h;let⟨z,k,rfl,rfl,l,n,f,q⟩:=h;let⟨t,rfl⟩:=d;let⟨o,rfl⟩:=i;by_cases k0:k<1
 .exact P.mul_str_none k0 (by omega) ⟨.str Str.empty,H,I.tok _,⟨_,rfl⟩,q _ (by rw[show k.toNat=0 by omega];rfl)⟩
 have m:z.length*k.toNat<=1000*1000:=Nat.mul_le_mul f (by omega);refine P.mul_str (by rw[bD (by omega),bD (by omega)];rfl) (λZ Z=>?_) (λZ Z=>?_) ?_
 .have g:(z.length:Int)*k=((z.length*k.toNat:Nat):Int):=by rw[Int.natCast_mul,Int.toNat_of_nonneg (by omega)]
  have c:(z.length:Int)*k<=(2^63-1:Int):=by rw[g];omega
  exact Int.not_lt.mpr (Int.le_ediv_of_mul_le (by omega) c)
 .have:=sizeLine_eq;unfold Builtin.Str.tooLong;exact bD (by omega)
 .rw[if_neg (by omega)];by_cases h1:(k == 1 || z.length == 0)=true
  .rw[if_pos h1];exists .str z,H,I,⟨_,rfl⟩,q z ?_;rcases Bool.or_eq_true_iff.mp h1 with e|e
   .rw[beq_iff_eq.mp e];simp
   .have j:z.cps.toList=[]:=cm (by have:=beq_iff_eq.mp e;simpa[Str.length]using this);rw[j];simp
  .rw[if_neg h1];have b:=yjo z.cps k.toNat #[];exists ?_,⟨.str _,H,I.tok _,⟨_,rfl⟩,q _ b⟩
   have e:Str.length ⟨(List.replicate k.toNat z.cps).foldl (·++·) #[]⟩=k.toNat*z.cps.toList.length:=by
    show ((List.replicate k.toNat z.cps).foldl (·++·) #[]).size=_;rw[<- cw,b];simp[List.sum_replicate_nat]
   rw[e,sizeLine_eq,Nat.mul_comm];have:z.cps.toList.length=z.length:=by simp[Str.length]
   rw[this];omega
def ynt(p:x0)(n:Nat)(h:qf):Prop:=∃t u v,IsRange h p 0 (n:Int) 1 t u v
def vga:qi V->Hp->VK->Prop:=λxs H Q=>∃n:Nat,xs=[.int n]/\n<=1000/\∀q,H q=none->Q (.ref q) (upd H q (.ext (ynt q n)))
def ymu:zh X (.type "range") vga:=by intro d s σ H g i Q I r h;let⟨n,rfl,j,q⟩:=h;let⟨u,rfl,f⟩:=γ r;let⟨t,rfl⟩:=f;refine call_range_1 ?_;have c:=IsRange.new s.heap 0 (n:Int) 1 s.toks t (s.toks+1);exists .ref s.heap.objs.size,_,I.laid (t':=s.toks+1+1) (λb o e=>bj _ e) (bn _) (show w8 X.prog X.w _ _ _ (.ext (ynt s.heap.objs.size n))from ⟨⟨_,_,_,c⟩,⟨_,c⟩,λZ Z ⟨t,u,v,a⟩ k=>⟨t,u,v,k _ a⟩⟩),rfl,q _ (I.hok.fresh (bn _))
def yzd:qi V->Hp->VK->Prop:=λxs H Q=>∃q n,xs=[.ref q]/\H q=some (.ext (ynt q n))/\n<=1000/\∀l,H l=none->Q (.ref l) (upd H l (.lst ((List.range n).map λi=>V.int (i:Nat))))
def ygn(hc:X.calm=true):zh X (.type "list") yzd:=by
 intro g s σ H D E Q I r h;let⟨p,n,rfl,e,F,q⟩:=h;let⟨u,rfl,l⟩:=γ r;cases l;let⟨t,u,v,j⟩:=(show w8 X.prog X.w H s.heap p (.ext (ynt p n))from I.hok p _ e).1;have c:Builtin.Range.rangeSize 0 (n:Int) 1=(n:Int):=by rw[rangeSize_one];split<;>omega
 refine call_list_range (n:=n) (I.ok.hd hc) j (small_one (by omega) (by omega) (by omega) (by omega)) (by rw[c]) (by omega) λm A b o k z a=>?_
 have x:wu ((List.range n).map λi=>V.int (i:Nat)) b.toList:=yiv (by have B:=a.1;have G:b.toList.length=b.size:=cw;rw[bf,bV];omega) λi v f=>by
  let⟨t,rfl⟩:=a.2 i v (by rw[<- Array.getElem?_toList];exact f)
  have d:i<n:=by
   have B:=a.1;have y:=(bw.mp f).1;rw[cw]at y;omega
  exists .int (i:Nat),by rw[bo,cF d];rfl,⟨t,by rw[show (0+(i:Int)*1)=(i:Int) by omega]⟩
 have C:=sizeLine_eq;exists .ref s.heap.objs.size,_,I.laid (t':=A) k (bn _) (show w8 X.prog X.w _ m _ (.lst _)from ⟨by rw[bf,bV];omega,b.toList,o,x,by rw[Array.toArray_toList];exact z⟩),rfl,q _ (I.hok.fresh (bn _))
end
section
variable{prog:qh}{w:qd}
def vdc(k:Int×qi Int):Int:=reduceHash (Builtin.Tuple.tupleHashOf [hashInt k.1,reduceHash (Builtin.Tuple.tupleHashOf (k.2.map hashInt))])
variable{A:qe}{E:Δ}{s:qa}
end
abbrev NX:=(Int×qi Int)×x0×x0
def vgh(x:NX):DictEntry:=⟨vdc x.1,.ref x.2.1,.ref x.2.2⟩
def ND(a:x0)(xs:qi NX):HO:=.ext λh=>(a == sysModules)=false/\∃o es ep,h.get? a=some o/\o.ExactDict/\o.data=.dict es ep/\es.toList=xs.map vgh
def NKy(H:Hp)(p:x0)(k:Int×qi Int):Prop:=∃b,H p=some (.tup [.int k.1,.ref b])/\H b=some (.tup (k.2.map V.int))
structure NDt(H:Hp)(a:x0)(xs:qi NX):Prop where
 o:H a=some (ND a xs)
 k:∀x∈xs,NKy H x.2.1 x.1
 n:(xs.map (·.1)).Nodup
 l:xs.length<sizeLine
def yte:V->qi V->Hp->VK->Prop:=λx vs H Q=>∃l xs y,∃i:Nat,x=.ref l/\vs=[.int i,y]/\H l=some (.lst xs)/\i<=xs.length/\xs.length<1000000/\Q .non (upd H l (.lst (xs.take i++y::xs.drop i)))
set_option tactic.hygienic true in
def yiq{X:Cx}:MtM X "list.insert" yte:=by
 intro j s σ H x u v B Q I m k h;let⟨l,w,y,i,rfl,rfl,c,C,A,q⟩:=h;cases m
 cases k with
 |cons r1 rr =>
  cases rr with
  |cons r2 rn =>
   cases rn;let⟨t,rfl⟩:=r1
   rename_i u2
   let⟨z,a,n,r,o,e⟩:=I.lstM c;have f:(-(2^63):Int)<=(i:Int):=Int.le_trans (by decide) (Int.natCast_nonneg i);have g:(i:Int)<2^63:=Int.lt_of_lt_of_le (show (i:Int)<1000001 by omega) (by decide)
   have d:(if (i:Int)<0 then ((i:Int)+(a.toArray.size:Int)).toNat else min (i:Int).toNat a.toArray.size)=i:=by
    rw[if_neg (by omega),bz,<- o];omega
   generalize (i:Int)=x at f g d⊢;have p:=fitsIndex_both f g;have b:a.toArray.size<=sizeLine:=by rw[bz];omega
   refine call_meets PySem.F.slot_list_insert ⟨_,e,rfl⟩ PySem.F.entry_list_insert (PySem.F.args_list_insert_3 _ _ _) (PySem.AutoSeq1.list_insert_list_int_val_1 l a.toArray n x t u2 (by rw[p];exact λz=>nomatch z) b) ⟨e,?_⟩
   exists .non,_,I.lset (its':=a.take i++u2::a.drop i) c e ?_ ((r.take i).append (.cons r2 (r.drop i))) ?_,rfl,q
   .show (a.toArray.extract 0 (if x<0 then (x+(a.toArray.size:Int)).toNat else min x.toNat a.toArray.size)).push u2++a.toArray.extract (if x<0 then (x+(a.toArray.size:Int)).toNat else min x.toNat a.toArray.size)=_;rw[d];apply Array.ext';rw[Array.toList_append,Array.toList_push,Array.toList_extract,Array.toList_extract];show (List.take (i-0) (List.drop 0 a))++[u2]++List.take (a.toArray.size-i) (List.drop i a)=_;rw[Nat.sub_zero,List.drop_zero,bz,cn (l:=List.drop i a) (by rw[cI];exact bn _),cz];rfl
   .rw[bq,bI,bX,cI,sizeLine_eq];omega
def á{K:xr}{a:x0}{xs:Υ}{tc:TT}{te:TE}{fr:St}{R:Hp->Prop}{H1:Hp}(Pv:Nat->Hp->Prop)(h0:Pv 0 (upd H1 D (.lst [])))(hl:∀i H,i<=xs.length->Pv i H->SqL K H a xs)
  (hs:∀i x H,xs[i]?=some x->i<xs.length->Pv i H->tc (some x::fr) H λb H4=>if b=true then te (some x::fr) H4 (λy H5=>∃ys,H5 D=some (.lst ys)/\ys.length<sizeLine/\∃m',m'<xs.length-i/\cW xs.length Pv (i+1) m' (upd H5 D (.lst (ys++[y]))))else ∃m',m'<xs.length-i/\cW xs.length Pv (i+1) m' H4)
  (hd:∀H,Pv xs.length H->R H):ω (Itl K a) tc te fr D R H1:=by
 exists cW xs.length Pv,⟨xs.length,by simp,bK _,h0⟩,?_;rintro i m H ⟨rfl,c,p⟩;have q:=hl i H c p;by_cases hlt:i<xs.length
 .refine .inr ⟨⟨xs,xs[i],q,by simp[hlt]⟩,λx d y=>?_⟩;let⟨e,y⟩:=y;subst e;exact hs i x _ (y xs q) hlt p
 .have e:i=xs.length:=by omega
  subst e;exact .inl ⟨⟨xs,q,bn _⟩,hd H p⟩
def yfu{o:Obj}{d:x0}{kvs:Κ}{tc:TT}{te:TE}{fr:St}{R:Hp->Prop}{H1:Hp}(Pv:Nat->Hp->Prop)(h0:Pv 0 (upd H1 D (.lst [])))(hl:∀i H,i<=kvs.length->Pv i H->H d=some (.frz o (.dK kvs)))
  (hs:∀i k v H,kvs[i]?=some (k,v)->i<kvs.length->Pv i H->tc (some (kV k)::fr) H λb H4=>if b=true then te (some (kV k)::fr) H4 (λy H5=>∃ys,H5 D=some (.lst ys)/\ys.length<sizeLine/\∃m',m'<kvs.length-i/\cW kvs.length Pv (i+1) m' (upd H5 D (.lst (ys++[y]))))else ∃m',m'<kvs.length-i/\cW kvs.length Pv (i+1) m' H4)
  (hd:∀H,Pv kvs.length H->R H):ω (Itk o d kvs) tc te fr D R H1:=by
 exists cW kvs.length Pv,⟨kvs.length,by simp,bK _,h0⟩,?_;rintro i m H ⟨rfl,c,p⟩;have q:=hl i H c p;by_cases hlt:i<kvs.length
 .refine .inr ⟨⟨q,hlt⟩,λx f y=>?_⟩;let⟨rfl,k,v,a,rfl⟩:=y;exact hs i k v _ a hlt p
 .have e:i=kvs.length:=by omega
  subst e;exact .inl ⟨⟨q,bn _⟩,hd H p⟩
end L2
namespace L2
open PySem PySem.Spec PyProof.Rows PySem.SeqAt PySem.Builtin PySem.Builtin.Str
end L2
namespace L2
open PySem PySem.Spec PyProof.Rows
variable{e:qg}
def jh.m{j k:Nat}{A:qe}(r:jh k A)(h:j<=k:=by decide):jh j A:=r.mono h
section
variable{X:Cx}{es:qi qg}{te:TE}{t:TA}
def pa1(ha:PE X e te)(h:yc6 e=true:=by exact rfl):PA X [e] (ynq te ylf):=yjf ha uo (yjq h)
def pac(ha:PE X e te)(hr:PA X es t)(h:yc6 e=true:=by exact rfl):PA X (e::es) (ynq te t):=yjf ha hr (yjq h)
end
section
variable{X:Cx}{k:Nat}{f:x0}{fd:FuncData}{ps:Τ}{sp:Sp}{Ex:St->XK}{x:Str}{p pos:Pos}{es:qi qg}{t:TA}{st:qc}{id:String}{r:qi V->Hp->VK->Prop}{T:String}
def uh(F:vz X.prog X.w X.K X.mg X.base CX0 k f fd ps sp)(hr:jh k X.A)(D:Dff X.K X.mg x st ps f fd)(ha:PA X (e::es) t)(hg:Gl X x:=by exact rfl)(hdb:(x == ("__debug__":Str))=false:=by decide)
  (he:starEach (e::es) X.env=(false,eval e X.env)::starEach es X.env:=by rfl) (hpl:(backTo pos (starEach es X.env)).any (·.1)=false:=by rfl):PE X (.Call (.Name x p) (e::es) [] pos) (yuu sp [] E0 t):=yaj F hr hg D.m D.F.kp D.B .nil v7 ha hdb he hpl
def x3(F:vz X.prog X.w X.K X.mg X.base (CXe X.prog X.w) k f fd ps sp)(hr:jh k X.A)(D:Dff X.K X.mg x st ps f fd)(hc:yan X Ex)(ha:PA X (e::es) t)(hg:Gl X x:=by exact rfl)(hdb:(x == ("__debug__":Str))=false:=by decide)
  (he:starEach (e::es) X.env=(false,eval e X.env)::starEach es X.env:=by rfl) (hpl:(backTo pos (starEach es X.env)).any (·.1)=false:=by rfl):PE X (.Call (.Name x p) (e::es) [] pos) (ykb sp [] Ex t):=û F hr hg D.m D.F.kp D.B .nil hc ha hdb he hpl
def pcB(hc:zh X (.builtin id) r)(hm:X.mg x=none)(ha:PA X (e::es) t)(hg:Gl X x:=by exact rfl)(hv:bootBuiltins x=some (.builtin id):=by decide+kernel)(hn:x≠"__name__":=by decide)(hdb:(x == ("__debug__":Str))=false:=by decide)
  (he:starEach (e::es) X.env=(false,eval e X.env)::starEach es X.env:=by rfl) (hpl:(backTo pos (starEach es X.env)).any (·.1)=false:=by rfl):PE X (.Call (.Name x p) (e::es) [] pos) (tCB r t):=ynn hc hg hm hv ha hn hdb he hpl
def pcT(hc:zh X (.type T) r)(hm:X.mg x=none)(ha:PA X (e::es) t)(hg:Gl X x:=by exact rfl)(hv:bootBuiltins x=some (.type T):=by decide+kernel)(hn:x≠"__name__":=by decide)(hdb:(x == ("__debug__":Str))=false:=by decide)
  (he:starEach (e::es) X.env=(false,eval e X.env)::starEach es X.env:=by rfl) (hpl:(backTo pos (starEach es X.env)).any (·.1)=false:=by rfl):PE X (.Call (.Name x p) (e::es) [] pos) (tCB r t):=yil hc hg hm hv ha hn hdb he hpl
end
section
variable{X:Cx}{tg:qg}
def yph(to:TE):TI:=λσ H R=>to σ H λx H1=>∃d kvs o,x=.ref d/\H1 d=some (.frz o (.dK kvs))/\R (Itk o d kvs) H1
def yl5{l:qg}{to:TE}(hl:PE X l to):PI X tg l (yph to):=by
 intro c s σ H R I h;refine thn (hl c s σ H _ I h) λv a h'=>?_;let⟨x,t,f,D,d,g,o,e,C,q⟩:=h';subst e;cases D;let⟨m,_,i,n,r,B,p,y,j,A,k,z⟩:=(show w8 X.prog X.w t a.heap d (.frz o (.dK g))from f.hok d _ C);obtain rfl:B=o:=by rw[m]at j;cases j;rfl
 have u:a.heap.DictAt (wk X.prog X.w) d n y:=⟨_,p,j,A,k,z⟩;refine wpAny_pyIter_dict i u ?_;exists a.heap.objs.size,[a.heap.objs.size],_,_,_,rfl,f.kept (t':=a.toks) λb o e=>bj _ e,ybh d _ (bR (bx m)) k,⟨_,bA _ rfl,rfl,by rw[r.length];rfl⟩,λb E=>?_,q;have e:b=a.heap.objs.size:=by simpa using E
 subst e;exact f.fpOk (bn _) (f.hok.fresh (bn _))
def ymt{to:TE}{σ:St}{H:Hp}{R:It->Hp->Prop}(h:to σ H λx H1=>∃d kvs o,x=.ref d/\H1 d=some (.frz o (.dK kvs))/\R (Itk o d kvs) H1):yph to σ H R:=h
end
def yiw(K:xr):V->Hp->VK->Prop:=λx H Q=>∃a xs,x=.ref a/\SqL K H a xs/\∀p ys,H p=none->(∀y∈ys,y∈xs)->ys.length<=xs.length->Q (.ref p) (upd H p (.lst ys))
def vfm(K:xr)(te:TE)(tl th ts:TO):TE:=λσ H Q=>te σ H λx H1=>tl σ H1 λZ H2=>th σ H2 λZ H3=>ts σ H3 λk H4=>k≠some 0/\yiw K x H4 Q
theorem ybc{xs:Υ}{us:Ο}(r:wu xs us):∀idx:qi Nat,∃ys,wu ys (idx.filterMap (us[·]?))/\∀y∈ys,y∈xs
 |[]=>⟨[],.nil,λZ h=>nomatch h⟩
 |i::idx=>by
  let⟨ys,a,b⟩:=ybc r idx
  cases e:us[i]? with
  |none=>exists ys,by rw[List.filterMap_cons,e];exact a,b
  |some u =>
   have g:=r.length;have c:i<xs.length:=by rw[g];exact(bw.mp e).1
   let⟨j,d,q⟩:=r.get (bi c);rw[e]at d;cases d;exists xs[i]::ys,by rw[List.filterMap_cons,e];exact .cons q a,λy f=>?_
   rcases bC.mp f with z|z
   .rw[z];exact ce c
   .exact b y z
section
variable{X:Cx}{st:qg}{te:TE}{lo hi:qj qg}{tl th ts:TO}{pos p2:Pos}
def yhf(he:PE X e te)(hl:PO X lo tl)(hu:PO X hi th)(hs:PO X (some st) ts):PE X (.Subscript e (.Slice lo hi (some st) p2) pos) (vfm X.K te tl th ts):=by
 refine .mk λc s σ H Q I h=>?_;refine Subscript_ (thn (he c s σ H _ I h) λv P h'=>?_);let⟨x,C,E,r1,Z⟩:=h';refine wpAny_Slice (thn (hl c P σ C _ E Z) λS U ⟨l,H2,T,pl,F⟩=>thn (hu c U σ H2 _ T F) λN M ⟨u,R,W,pu,Y⟩=>thn (hs c M σ R _ W Y) λy g h'=>?_);let⟨k,B,z,G,O,L⟩:=h';have n:Inv X c σ B {g with heap:=g.heap.push { cls:=.type "slice",data:=.fields #[S,N,y]} }:=z.kept (t':=g.toks) λb ob q=>bj _ q;let⟨a,J,rfl,D,q⟩:=L;cases r1;let⟨f,r,t,hz⟩:=n.list D;have i:=r.length;have d:=slicePick_size_le f.toArray l u k;rw[bz]at d;let⟨j,p,hy⟩:=ybc r (sliceRange (sliceBounds l u k f.toArray.size).1 (sliceBounds l u k f.toArray.size).2.1 (sliceBounds l u k f.toArray.size).2.2)
 have m:j.length<=J.length:=by
  rw[p.length,i];unfold slicePick at d;rw[bz]at d;simpa using d
 show wpAny (model X.prog X.w) X.A (subscriptTail e (.Slice lo hi (some st) p2) (.ref a) (.ref g.heap.objs.size)) (EP X c σ Q) X.xe _;refine tail_any (ops:=[.ref a,.ref g.heap.objs.size]) t.isList.typeIs slot_list_getitem.lookup ?_ (by with_unfolding_all rfl);refine wpAny_getItem_list_slice t.isList (Heap.IsSliceOf.new ..) pl pu G O ?_ (by rw[bz]<;>omega);exists .ref _,_,n.laid (t':=g.toks) (o:=.lst j) (λb ob q=>bj _ q) (bn _) ?_,rfl,q _ j (n.hok.fresh (bn _)) hy m;exists by omega,_,0,p,?_
 rw[bA _ rfl];unfold slicePick;simp
def vdn{K:xr}{σ:St}{H:Hp}{Q:VK}(h:te σ H λx H1=>tl σ H1 λZ H2=>th σ H2 λZ H3=>ts σ H3 λk H4=>k≠some 0/\yiw K x H4 Q):vfm K te tl th ts σ H Q:=h
end
def vcm(K:xr):qi V->Hp->VK->Prop:=λvs H Q=>∃p ns,vs=[.ref p]/\SqL K H p (List.map V.int ns)/\ns≠[]/\∀m,m∈ns->(∀x∈ns,m<=x)->Q (.int m) H
def yg8{X:Cx}(hc:X.calm=true):zh X (.builtin "min") (vcm X.K):=by
 intro k s σ H M N Q I r h;let⟨p,e,rfl,l,f,q⟩:=h;let⟨u,rfl,n⟩:=γ r;cases n;let⟨D,m,E,O⟩:=I.list l;let⟨a,B,i⟩:=Ž m;have w:s.heap.IsList p (intItems a):=B ▸ E.isList;have d:a.size=e.length:=by rw[<- i];simp
 have F:0<a.size:=by rw[d];exact List.length_pos_iff.mpr f
 have b:∀j,j<e.length->e[j]?=some (numAt a j):=λj c=>by
  have G:j<a.size:=by omega
  rw[<- i,bo];unfold numAt;simp[G]
 refine min_intList (I.ok.hd hc) w F λv J C y z=>?_;let⟨t,rfl⟩:=intItems_at y;let⟨L,A⟩:=argBest_lt (numAt a) (a.size-1);exists .int _,H,I.kept (t':=C) z,⟨_,rfl⟩,q _ (bB (b _ (by omega))) λx o=>?_;let⟨j,c⟩:=List.getElem?_of_mem o;have g:=(bw.mp c).1;rw[b j g]at c;rw[<- bE c];exact A j (by omega)
end L2
namespace MixI
def giv(c b:Int):Int:=if b=1 then c else 16777216-c
def yns(x:Int):Nat:=if x == 0 then 0 else x.natAbs.log2+1
def shL(ws cs:Ρ)(b:Int):Ρ:=List.zipWith (λw c=>w*giv c b) ws cs
def grL(sh:Ρ):Ρ:=sh.map λs=>31*(sh.length:Int)*s+sh.sum
def tOf(s:Int):Nat:=yns s-48
def lrn(ws cs:Ρ)(b:Int):Ρ:=(grL (shL ws cs b)).map λv=>v/2^tOf (grL (shL ws cs b)).sum
def vfl(ws cs:Ρ):Int:=(List.zipWith (λw c=>w*c) ws cs).sum
def ylc(ws cs:Ρ):Int:=vfl ws cs/ws.sum
structure WOk(k:Nat)(ws:Ρ):Prop where
 len:ws.length=k
 one:∀w∈ws,1<=w
 top:∀w∈ws,w<281474976710656
structure COk(k:Nat)(cs:Ρ):Prop where
 len:cs.length=k
 lo:∀c∈cs,32768<=c
 hi:∀c∈cs,c<=16744448
def vbm{c b:Int}(h1:32768<=c)(h2:c<=16744448):32768<=giv c b:=by unfold giv;split<;>omega
def ydd{ws cs:Ρ}{b:Int}(h:ws.length=cs.length):(shL ws cs b).length=ws.length:=by unfold shL;rw[List.length_zipWith,<- h];omega
def yjj{sh:Ρ}:(grL sh).length=sh.length:=by unfold grL;rw[bf]
def yq4{k:Nat}{ws cs:Ρ}{b:Int}(hw:WOk k ws)(hc:COk k cs):(lrn ws cs b).length=k:=by unfold lrn;rw[bf,yjj,ydd (by rw[hw.len,hc.len]),hw.len]
theorem Ŏ(m d:Int):∀sh:Ρ,(sh.map λs=>m*s+d).sum=m*sh.sum+sh.length*d
 |[]=>by simp
 |s::r=>by
  simp only[bU,List.sum_cons,Ŏ m d r,bX,Int.natCast_add,Int.natCast_one,Int.mul_add,Int.add_mul];omega
def ys8(sh:Ρ):(grL sh).sum=32*(sh.length:Int)*sh.sum:=by unfold grL;rw[Ŏ,Int.mul_assoc,Int.mul_assoc];generalize (sh.length:Int)*sh.sum=x;omega
theorem yjz:∀{l:Ρ},(∀x∈l,0<=x)->0<=l.sum
 |[],_=>by simp
 |a::r,h=>by
  have c:=h a (by simp);have d:=yjz (l:=r) λx b=>h x (by simp[b]);rw[List.sum_cons];omega
theorem yp1:∀{l:Ρ}{y:Int},(∀x∈l,0<=x)->y∈l->y<=l.sum
 |a::r,y,h,hy=>by
  have d:=h a (by simp);have b:∀x∈r,0<=x:=λx c=>h x (by simp[c]);have f:=yjz b;rw[List.sum_cons];rcases bC.mp hy with e|hy
  .omega
  .have:=yp1 b hy;omega
theorem yjt{c:Int}:∀{l:Ρ},(∀x∈l,c<=x)->c*l.length<=l.sum
 |[],_=>by simp
 |a::r,h=>by
  have d:=h a (by simp);have e:=yjt (l:=r) λx b=>h x (by simp[b]);rw[List.sum_cons,bX,Int.natCast_add,Int.natCast_one,Int.mul_add];omega
theorem yo3{c:Int}:∀{l:Ρ},(∀x∈l,x<=c)->l.sum<=c*l.length
 |[],_=>by simp
 |a::r,h=>by
  have d:=h a (by simp);have e:=yo3 (l:=r) λx b=>h x (by simp[b]);rw[List.sum_cons,bX,Int.natCast_add,Int.natCast_one,Int.mul_add];omega
theorem yot{f:Int->Int}{m:Int}:∀{ws cs:Ρ},ws.length=cs.length->(∀w∈ws,0<=w)->(∀c∈cs,m<=f c)->m*ws.sum<=(List.zipWith (λw c=>w*f c) ws cs).sum
 |[],[],_,_,_=>by simp
 |w::r,c::t,h,h1,h2=>by
  have i:=yot (f:=f) (m:=m) (ws:=r) (cs:=t) (by simpa using h) (λx b=>h1 x (by simp[b])) λx b=>h2 x (by simp[b]);have a:=bY (h2 c (by simp)) (h1 w (by simp));rw[List.zipWith_cons_cons,List.sum_cons,List.sum_cons,Int.mul_add,Int.mul_comm m w];omega
theorem yoq{f:Int->Int}{m:Int}:∀{ws cs:Ρ},ws.length=cs.length->(∀w∈ws,0<=w)->(∀c∈cs,f c<=m)->(List.zipWith (λw c=>w*f c) ws cs).sum<=m*ws.sum
 |[],[],_,_,_=>by simp
 |w::r,c::t,h,h1,h2=>by
  have i:=yoq (f:=f) (m:=m) (ws:=r) (cs:=t) (by simpa using h) (λx b=>h1 x (by simp[b])) λx b=>h2 x (by simp[b]);have a:=bY (h2 c (by simp)) (h1 w (by simp));rw[List.zipWith_cons_cons,List.sum_cons,List.sum_cons,Int.mul_add,Int.mul_comm m w];omega
def WOk.pos{k:Nat}{ws:Ρ}(h:WOk k ws)(hk:1<=k):1<=ws.sum:=by have:=yjt (c:=1) h.one;rw[h.len]at this;omega
def WOk.small{k:Nat}{ws:Ρ}(h:WOk k ws)(hk:k<=6):ws.sum<=1688849860263936:=by have:=yo3 (c:=281474976710656) λx a=>Int.le_of_lt (h.top x a);rw[h.len]at this;omega
def yep{k:Nat}{ws cs:Ρ}(hk:1<=k)(hw:WOk k ws)(hc:COk k cs):32768<=ylc ws cs/\ylc ws cs<=16744448:=by
 have e:ws.length=cs.length:=by rw[hw.len,hc.len]
 have d:∀w∈ws,0<=w:=λw h=>by have:=hw.one w h;omega
 have p:=hw.pos hk;have a:=yot (f:=λc=>c) e d hc.lo;have b:=yoq (f:=λc=>c) e d hc.hi;unfold ylc vfl;exists(Int.le_ediv_iff_mul_le (by omega)).mpr a,Int.le_of_lt_add_one ((Int.ediv_lt_iff_lt_mul (by omega)).mpr (by rw[Int.add_mul];omega))
def yef(t:Nat):(2:Int)^t=((2^t:Nat):Int):=by rw[Int.natCast_pow];rfl
def yru(t:Nat):(0:Int)<2^t:=by rw[yef];exact Int.natCast_pos.mpr (Nat.pow_pos (by decide))
def vba{s:Int}(h:1<=s):s<281474976710656*2^tOf s/\(tOf s=0\/140737488355328*2^tOf s<=s):=by
 have f:s.natAbs≠0:=by omega
 have e:(s.natAbs:Int)=s:=by omega
 have a:=Nat.log2_self_le f;have b:=@Nat.lt_log2_self s.natAbs;unfold tOf yns;rw[if_neg (by simp;omega)];generalize s.natAbs.log2=L at a b⊢;rcases Nat.lt_or_ge L 48 with q|q
 .have z:L+1-48=0:=by omega
  rw[z];exists ?_,.inl rfl;have:2^(L+1)<=2^48:=Nat.pow_le_pow_right (by decide) (by omega);have c:(2:Nat)^48=281474976710656:=by decide
  rw[c]at this;rw[<- e,Int.pow_zero,Int.mul_one];omega
 .obtain⟨t,rfl⟩:∃t,L=47+t:=⟨L-47,by omega⟩;have z:47+t+1-48=t:=by omega
  rw[z,yef];have d:(2:Nat)^(47+t)=140737488355328*2^t:=by rw[Nat.pow_add]
  have c:(2:Nat)^(47+t+1)=281474976710656*2^t:=by rw[show 47+t+1=48+t by omega,Nat.pow_add]
  rw[d]at a;rw[c]at b;generalize 2^t=T at a b⊢;exists by omega,.inr (by omega)
section
variable{k:Nat}{ws cs:Ρ}{b:Int}
def yrh(hw:WOk k ws)(hc:COk k cs):∀s∈shL ws cs b,1<=s:=by intro s a;unfold shL at a;rw[List.mem_iff_getElem]at a;let⟨i,c,rfl⟩:=a;rw[List.length_zipWith]at c;rw[List.getElem_zipWith];have d:=hw.one ws[i] (ce _);have e:=vbm (b:=b) (hc.lo cs[i] (ce _)) (hc.hi cs[i] (ce _));have:=Int.mul_le_mul d e (by decide) (by omega);omega
def vau{sh:Ρ}(h:∀s∈sh,1<=s):∀v∈grL sh,sh.sum<=v/\v<=(grL sh).sum/\0<=v:=by
 have e:=yjz (l:=sh) λx c=>by have:=h x c;omega
 have a:∀v∈grL sh,sh.sum<=v:=λv a=>by
  unfold grL at a;let⟨s,b,rfl⟩:=br.mp a;have:=h s b;have:0<=31*(sh.length:Int)*s:=Int.mul_nonneg (Int.mul_nonneg (by decide) (Int.natCast_nonneg _)) (by omega);omega
 exact λv d=>⟨a v d,yp1 (λx c=>by have:=a x c;omega) d,by have:=a v d;omega⟩
def yon(hk:1<=k)(hk6:k<=6)(hw:WOk k ws)(hc:COk k cs):WOk k (lrn ws cs b):=by
 have i:(shL ws cs b).length=k:=by rw[ydd (by rw[hw.len,hc.len]),hw.len]
 have g:=yrh (b:=b) hw hc
 have n:1<=(shL ws cs b).sum:=by
  have:=yjt (c:=1) g;rw[i]at this;omega
 have f:=vau g;have e:=ys8 (shL ws cs b);rw[i]at e
 have q:1<=(grL (shL ws cs b)).sum:=by
  rw[e];have:32*(k:Int)*1<=32*(k:Int)*(shL ws cs b).sum:=bY n (by omega);omega
 have o:(grL (shL ws cs b)).sum<=192*(shL ws cs b).sum:=by
  rw[e];exact cc (by omega) (by omega)
 let⟨r,a⟩:=vba q;have j:=yru (tOf (grL (shL ws cs b)).sum);exists yq4 hw hc,λw h=>?_,λw h=>?_
 .obtain⟨v,d,rfl⟩:=br.mp h;let⟨p,m,l⟩:=f v d;refine(Int.le_ediv_iff_mul_le j).mpr ?_;rcases a with a|a
  .rw[a,Int.pow_zero];omega
  .generalize (2:Int)^tOf (grL (shL ws cs b)).sum=T at*;omega
 .obtain⟨v,d,rfl⟩:=br.mp h;let⟨p,m,l⟩:=f v d;exact(Int.ediv_lt_iff_lt_mul j).mpr (by omega)
def yhp{g:Int->Int->Int}{ws cs:Ρ}(h:cs.length=ws.length):(List.range ws.length).map (λi=>g ((ws[i]?).getD 0) ((cs[i]?).getD 0))=List.zipWith g ws cs:=by
 apply List.ext_getElem
 .rw[bf,bV,List.length_zipWith];omega
 .intro i a b;rw[bf,bV]at a;rw[cL,List.getElem_range,List.getElem_zipWith,bi a,bi (by omega)];rfl
end
end MixI
namespace SpanMath
def rn(d:Ρ):Nat->Int
 |0=>0
 |k+1=>rn d k*256+(d[k]?).getD 0
def Byt(d:Ρ):Prop:=∀x∈d,0<=x/\x<=255
def va6{d:Ρ}(h:Byt d)(k:Nat):0<=(d[k]?).getD 0/\(d[k]?).getD 0<=255:=by
 cases e:d[k]? with
 |none=>exists by decide,by decide
 |some x=>exact h x (bB e)
theorem yko{d:Ρ}(h:Byt d)(k:Nat):∀r,∃q,rn d (k+r)=rn d k*pw r+q/\0<=q/\q<pw r
 |0=>⟨0,by show rn d k=rn d k*1+0;omega,by decide,by decide⟩
 |r+1=>by
  let⟨q,e,b,c⟩:=yko h k r;let⟨a,f⟩:=va6 h (k+r);exists q*256+(d[k+r]?).getD 0,?_,by omega,?_
  .show rn d (k+r)*256+(d[k+r]?).getD 0=rn d k*(pw r*256)+_;rw[e,<- Int.mul_assoc,Int.add_mul,Int.add_assoc]
  .show _<pw r*256;omega
def ymj{d:Ρ}(h:Byt d)(k r:Nat)(l w':Int):(l*pw r<=rn d (k+r)/\rn d (k+r)<l*pw r+w'*pw r)↔(l<=rn d k/\rn d k<l+w'):=by
 let⟨q,e,g,i⟩:=yko h k r;have c:=ug r;rw[e,<- Int.add_mul];generalize rn d k=v;generalize pw r=p at c g i⊢
 constructor
 .rintro ⟨a,b⟩
  constructor
  .refine Int.le_of_lt_add_one (Int.lt_of_mul_lt_mul_right (a:=p) ?_ (Int.le_of_lt c));rw[Int.add_mul,Int.one_mul];omega
  .refine Int.lt_of_mul_lt_mul_right (a:=p) ?_ (Int.le_of_lt c);omega
 .rintro ⟨a,b⟩;have j:=cc a (Int.le_of_lt c);have f:=cc (show v+1<=l+w' by omega) (Int.le_of_lt c);rw[Int.add_mul v 1 p,Int.one_mul]at f;omega
structure InS(d:Ρ)(x:Sn):Prop where
 lo:x.1<=rn d (sz x)
 hi:rn d (sz x)<x.1+x.2.1
def vb4(l w' s':Int):∃r:Nat,ren l w' s'=(l*pw r,w'*pw r,s'+r):=by
 unfold ren
 split
 .split
  .exact⟨2,rfl⟩
  .exact⟨1,rfl⟩
 .refine⟨0,?_⟩;show (l,w',s')=(l*1,w'*1,s'+0);rw[Int.mul_one,Int.mul_one,Int.add_zero]
def yok{d:Ρ}(h:Byt d){l w' s':Int}(hs:0<=s'):InS d (ren l w' s')↔(l<=rn d s'.toNat/\rn d s'.toNat<l+w'):=by
 let⟨r,e⟩:=vb4 l w' s';rw[e]
 have c:sz (l*pw r,w'*pw r,s'+r)=s'.toNat+r:=by
  show (s'+(r:Int)).toNat=s'.toNat+r;omega
 rw[<- ymj h s'.toNat r l w']
 constructor
 .rintro ⟨a,b⟩;rw[c]at a b;exists a,b
 .rintro ⟨a,b⟩;exists by rw[c];exact a,by rw[c];exact b
def ô(d:Ρ)(x:Sn)(c:Int):Int:=if rn d (sz x)<x.1+cut x.2.1 c then 1 else 0
def Ÿ(d:Ρ)(x:Sn)(c:Int):ô d x c=0\/ô d x c=1:=by
 unfold ô
 split
 .exact .inr rfl
 .exact .inl rfl
def ysk{d:Ρ}(hd:Byt d){x:Sn}{c b:Int}(h:OkS x)(hc:Ch c)(hb:b=0\/b=1)(i:InS d (nar x c b)):InS d x/\b=ô d x c:=by
 have j:=h.ok.z;let⟨k,g,f⟩:=ś h.ok.w0 h.ok.w1 hc;unfold nar at i;rcases hb with rfl|rfl
 .rw[if_neg (by decide)]at i;let⟨e,a⟩:=(yok hd (by omega)).mp i;have e:x.1+cut x.2.1 c<=rn d (sz x):=e;have a:rn d (sz x)<x.1+cut x.2.1 c+(x.2.1-cut x.2.1 c):=a;exists⟨by omega,by omega⟩,?_;unfold ô;rw[if_neg (by omega)]
 .rw[if_pos rfl]at i;let⟨e,a⟩:=(yok hd (by omega)).mp i;have e:x.1<=rn d (sz x):=e;have a:rn d (sz x)<x.1+cut x.2.1 c:=a;exists⟨by omega,by omega⟩,?_;unfold ô;rw[if_pos a]
theorem yqd:∀(k:Nat)(d:Ρ),k<=d.length->rn d k=val (d.take k)
 |0,_,_=>rfl
 |k+1,d,h=>by
  have a:k<d.length:=by omega
  have e:d.take (k+1)=d.take k++[d[k]]:=by rw[List.take_succ,bi a];rfl
  rw[e,yeg,<- yqd k d (by omega)];show rn d k*256+_=_;rw[bi a];rfl
def yad{d:Ρ}(hd:Byt d){x:Sn}(h:OkS x)(hl:(tL x).length<=d.length)(hp:d.take (tL x).length=tL x):InS d x:=by
 have i:=ynv h
 have f:rn d (sz x-tK x)=tCn x:=by
  rw[<- yes x,yqd _ _ hl,hp,yw7 h]
 let⟨q,b,j,g⟩:=yko hd (sz x-tK x) (tK x);have e:sz x-tK x+tK x=sz x:=by omega
 rw[e,f]at b;have a:=yah h.ok;have c:=(ykw x.1 (ug (tK x))).1;unfold Ŝ at a;have a:(tCn x+1)*pw (tK x)<=x.1+x.2.1:=a;have c:x.1<=tCn x*pw (tK x):=c;rw[Int.add_mul,Int.one_mul]at a;exists by rw[b];omega,by rw[b];omega
end SpanMath
namespace Law
local macro_rules | `(tactic| ext)=>`(tactic| walk_at "rd")
local macro_rules | `(tactic| right)=>`(tactic| decide +kernel)
open PySem L2
set_option hygiene true in
local macro_rules | `(tactic| exists $n:num,$s:str)=>do
 let ts<-((s.getString.splitOn " ").map fun x=>Lean.mkIdent (((if n.getNat<4 then `_root_.Law else `_root_.L2) ++ x.toName:Lean.Name))).toArray.mapM fun x=>match n.getNat%4 with
  | 0=>`(Lean.Parser.Tactic.tacticSeq| refine $x ?_)
  | 1=>`(Lean.Parser.Tactic.tacticSeq| (with_reducible refine' $x (by assumption) ?q ?_; (case q=>first | assumption | exact ya)))
  | 2=>`(Lean.Parser.Tactic.tacticSeq| (with_reducible refine' $x ?q ?_; (case q=>first | assumption | exact ya)))
  | _=>`(Lean.Parser.Tactic.tacticSeq| (with_reducible refine' $x ?q ?n ?_; (case q=>first | assumption | exact ya); (case n=>with_unfolding_all decide +kernel)))
 `(tactic| first $[| $ts:tacticSeq]*)
local macro_rules | `(tactic| exists $n:num,$m:num)=>do
 let xs:=Array.replicate n.getNat (<-`(some _))++Array.replicate m.getNat (<-`(none))
 `(tactic| (try dsimp only [vy]; refine yj (σ':=[$xs,*]) rfl ?_))
local macro_rules | `(tactic| exists $h:ident,$a:ident,$b:ident,$c:ident)=>`(tactic| with_reducible first | refine yu $h fun $a $b $c=>?_ | refine y8 $h fun $a $b $c=>?_)
local macro_rules | `(tactic| exists $n:num,$m:num,$t)=>`(tactic| (refine ⟨_,$t,?_⟩;exists $n,$m;ext))
local macro_rules | `(tactic| left)=>`(tactic| first | (cases h; subst_vars; rfl) | repeat first | (obtain ⟨e,_⟩:=h; subst e; rfl) | obtain ⟨_,h⟩:=h)
local macro_rules | `(tactic| exists $a:ident,$b:ident,$c:ident)=>`(tactic| (refine $a $b (fun ϟ H Q E h=>?_) (fun ϟ A ϟ s H ϟ Q E $c h=>?_); left))
local macro_rules | `(tactic| walk_at "side")=>`(tactic| first | exact ⟨by decide,by decide⟩ | (show (0:Int) < _; first | decide | omega) | exact Or.inl ⟨by omega,by omega⟩ | exact Or.inr ⟨by omega,by omega⟩ | exact ⟨by omega,by omega⟩ | exact ⟨by decide,by decide,by decide⟩)
local macro_rules | `(tactic| walk_at "len")=>`(tactic| first | decide | (simp only [bX,List.length_nil]; decide))
local macro_rules | `(tactic| walk_at "rd1")=>`(tactic| with_reducible first
 | exists 4,"vgl vdq yy8 yw5"
 | ((fail_if_success constructor); walk_at "rd2"))
local macro_rules | `(tactic| walk_at "o")=>`(tactic| refine yk2 fun ϟ ϟ ϟ ϟ ϟ ϟ=>?_)
set_option hygiene true in
local macro_rules | `(tactic| walk_at "rd2")=>`(tactic| with_reducible first
 | walk_at "o"
 | refine vcx (by assumption) ?_
 | (refine' yvg ?rdv ?_; (case rdv=>with_unfolding_all rfl))
 | exists 4,"i_c vgf vf9 yyw vf3 vgd vd7 vd0 yov yxs vbk ytc yag ys9 yrr ywv ved vgc vd3 yqq yx5 yzf vei vgr vdx vd4 vdo vdh Ī yyh vgg vdv veg yx7 vf4 vdn ym8 vbc vf2 i_U g0 g1 g2 g3 g4 g5 g6 g7 g8 g9 g10 g11 yry yzj Ń ĳ veb vdt vel yqv yxd yr8 yrl ysl yxu ysx vbn yzo ytj yxl yq0 ymt ys0 yra yrj ymv yqs ys4 yxr vdi ylv yye ysy yrk"
 | (refine' i_shlC ?rdp ?rdq ?_; (case rdp=>with_unfolding_all exact ⟨by decide,by decide,by decide⟩); (case rdq=>with_unfolding_all decide))
 | (refine' i_powC ?rdp ?rdq ?_; (case rdp=>with_unfolding_all exact ⟨by decide,by decide,by decide⟩); (case rdq=>with_unfolding_all decide))
 | (refine i_I ?rdc ?_; (case rdc=>with_unfolding_all walk_at "side")))
local macro_rules | `(tactic| walk_at "rd")=>`(tactic| repeat walk_at "rd1")
variable{D c' cl cl' ct' dc dq ds md p q tl y:x0}{U U' W' W2:Ν}{L M:Η}{ts xs:Ρ}{i j m':Nat}{tp:Μ}{O O' O2:Β}{bt:Nat->Int}{R:Prop}{tu:Str->x0}
def top(i:Nat):qc:=PySem.Challenge.pw_foretell_k92_whole_store.main.body.getD i (.Pass ⟨0,0,0,0⟩)
abbrev vey:qc:=top 21
abbrev veu:qc:=top 22
abbrev vfb:qc:=top 23
abbrev vet:qc:=top 24
abbrev ve6:qc:=top 25
abbrev ves:qc:=top 26
abbrev ve7:qc:=top 27
abbrev vex:qc:=top 28
abbrev vew:qc:=top 29
abbrev yty:qc:=top 30
abbrev yum:qc:=top 31
abbrev ytr:qc:=yy (top 36) 0
abbrev yuz:qc:=yy (top 36) 1
abbrev yvj:qc:=yy (top 36) 2
abbrev yv7:qc:=yy (top 36) 3
abbrev yu0:qc:=yy (top 37) 0
abbrev yur:qc:=yy (top 37) 1
abbrev yu8:qc:=yy (top 37) 2
abbrev yuw:qc:=yy (top 37) 3
abbrev yt3:qc:=yy (top 38) 0
abbrev yul:qc:=yy (top 38) 1
abbrev yvi:qc:=yy (top 38) 2
abbrev yvq:qc:=yy (top 38) 3
abbrev yva:qc:=top 39
abbrev yun:qc:=top 45
abbrev yu3:qc:=top 46
abbrev yv1:qc:=top 47
abbrev ytu:qc:=top 48
abbrev yuo:qc:=top 49
abbrev yvo:qc:=top 50
abbrev yt0:qc:=top 51
abbrev ytl:qc:=yy (top 52) 0
abbrev yub:qc:=yy (top 52) 2
abbrev yuh:qc:=yy (top 52) 4
abbrev ytq:qc:=yy (top 57) 0
abbrev yu9:qc:=yy (top 57) 2
abbrev yv3:qc:=yy (top 57) 3
abbrev yuq:qc:=yy (top 57) 4
abbrev yut:qc:=yy (top 60) 0
abbrev yvz:qc:=yy (top 60) 1
abbrev yvy:qc:=yy (top 60) 2
abbrev yt6:qc:=yy (top 60) 3
abbrev yvc:qc:=yy (top 60) 7
abbrev yvn:qc:=yy (top 60) 8
abbrev yu1:qc:=yy (top 60) 9
abbrev yus:qc:=yy (top 60) 10
abbrev yv5:qc:=top 63
abbrev yuy:qc:=top 64
abbrev ytt:qc:=top 69
abbrev yv2:qc:=top 70
abbrev yuf:qc:=yy (top 71) 0
abbrev ytn:qc:=yy (top 71) 2
abbrev yux:qc:=yy (top 71) 3
abbrev yvb:qc:=yy (top 71) 5
abbrev yt4:qc:=yy (top 71) 6
abbrev yuk:qc:=yy (top 73) 0
abbrev yts:qc:=yy (top 73) 1
abbrev yto:qc:=yy (top 73) 2
abbrev yt2:qc:=yy (top 73) 3
abbrev yt5:qc:=yy (top 73) 5
abbrev yui:qc:=top 75
abbrev yvf:qc:=top 76
abbrev ytp:qc:=top 77
abbrev yg0:qc:=top 78
abbrev yt1:qc:=top 80
abbrev ygt:qc:=top 81
abbrev yuj:qc:=top 82
abbrev yu5:qc:=top 83
abbrev yug:qc:=top 84
abbrev yvt:qc:=top 85
abbrev ygw:qc:=top 86
abbrev yg1:qc:=top 87
abbrev yvh:qc:=yy (top 89) 0
abbrev yve:qc:=yy (top 89) 1
abbrev yt9:qc:=yy (top 89) 2
abbrev yu2:qc:=yy (top 89) 3
abbrev ytm:qc:=yy (top 89) 4
abbrev yvp:qc:=top 94
abbrev yv0:qc:=top 95
abbrev yud:qc:=top 96
abbrev yua:qc:=yy (top 97) 0
abbrev ygu:qc:=yy (top 98) 0
abbrev yvs:qc:=yy (top 98) 3
abbrev ygx:qc:=yy (top 98) 4
abbrev yuv:qc:=yy (top 98) 6
abbrev ytv:qc:=yy (top 98) 7
abbrev ytz:qc:=yy (top 98) 8
abbrev yvx:qc:=yy (top 98) 9
abbrev ytw:qc:=yy (top 98) 10
abbrev yvm:qc:=yy (top 98) 11
abbrev yvv:qc:=yy (top 98) 12
abbrev yt7:qc:=yy (top 98) 13
abbrev yue:qc:=yy (top 98) 16
abbrev yvd:qc:=yy (top 98) 17
abbrev yvk:qc:=top 100
abbrev yv8:qc:=top 101
abbrev yvu:qc:=top 102
abbrev yup:qc:=top 103
abbrev yv4:qc:=top 104
abbrev yjx:qc:=top 105
abbrev ykc:qc:=top 106
abbrev yj4:qc:=top 107
abbrev yki:qc:=top 108
abbrev ykx:qc:=top 109
abbrev yky:qc:=top 110
abbrev yv6:qc:=top 111
set_option genInjectivity false in
set_option genSizeOfSpec false in
structure Ads where
 (Q1 Q2 Q3 Q4 Q5 Q6 Q7 Q8 Q9 Io Ip Gf Iq Ir Is Gg Iu Iv Iw Gh Ix Iy Iz J0 J1 J2 J3 J4 J5 J6 J7 Gi J8 J9 Gj Ja Jb Jc Gk Jd Je Jf Jg Jh Ji Jj Jk Jl Jm Jn Gm Jo Jp Jq Jr Gn Js Jt Ju Jv Jw Jx Jy Dh Jz K1 Di K3 K4 K5 K6 K7 Dj K8 Dk K9 Gp Ka Kb Kc Kd Ke Kg Kh Gq D8 Ki Kj D9 Kk Kl Km Kn Ko Kp Kq Kr Ks Kt Ku Kv Kw Kx Ky Kz F9 Fa Fb Fc Fd Fe P0 A6 A5 Ad Ab Be A2 A4 Ae A1 A8 A0 Gr Ff Az Dl Bx Fg Dm Ah Ai Aw C6 A9 B8 Cg Bf:x0)
 (Qa Qc Qd Qe Qf Qg Qh Qi Qj L1 L6 L7 L8 L9 La Lb Lc Ld Le Lf Lg Lh Li Lj Lk Ll Lm Ln Lo Lp Lq Lr Ls Lt Lu Lv Lx Ly Lz M0 M4 M5 M6 M7 M8 M9 Ma Mb Mc Md Me Mf Mg Mh Mi Mj Ml Mm Mn Mo Mq Mr Ms Mt Mu Mv Mw Mx My Mz Gs Gt N0 N2 N3 N4 N5 N6 N7 N8 N9 Na Nd Nf Ng Nh Ni Nj Nk Nl Nm Nn No Np Nq Nr Nt Nu Nv Fh Fi Fj Fk Fl Fm Gu:FuncData)
 (Co Cp Cq Fn P1 C0 C1 Bg Cn Bt C2 D4 Bh C7 Bi C8 Bu C3 Bv Bj D5 Bw:Tok)
variable{a:Ads}
structure Txt(K:xr)(mg:Ε)(a:Ads):Prop where
 Gv:Dff K mg "is_whole" vey ["thing"] a.Q1 a.Qa
 Qk:Dff K mg "is_bit" veu ["thing"] a.Q2 a.Qc
 Ql:Dff K mg "is_chance" vfb ["thing"] a.Q3 a.Qd
 Qm:Dff K mg "is_sign" vet ["thing"] a.Q4 a.Qe
 P3:Dff K mg "is_list_of_signs" ve6 ["thing","most"] a.Q5 a.Qf
 Fo:Dff K mg "checked_text" ves ["thing"] a.Q6 a.Qg
 P4:Dff K mg "checked_bytes" ve7 ["thing"] a.Q7 a.Qh
 P5:Dff K mg "check_most" vex ["thing"] a.Q8 a.Qi
 Oo:Dff K mg "check_chance" vew ["thing"] a.Q9 a.Qj
 Cl:Dff K mg "check_bit" yty ["thing"] a.Io a.L1
 Nw:Dff K mg "gives" yum ["chance","bit"] a.Ip a.L6
 Dn:Dfm K a.A6 "__init__" "Even.__init__" ytr ["self"] a.Gf a.L7
 Gw:Dfm K a.A6 "chance" "Even.chance" yuz ["self"] a.Iq a.L8
 Gy:Dfm K a.A6 "seen" "Even.seen" yvj ["self","bit"] a.Ir a.L9
 Gz:Dfm K a.A6 "twin" "Even.twin" yv7 ["self"] a.Is a.La
 Do:Dfm K a.A5 "__init__" "Quick.__init__" yu0 ["self"] a.Gg a.Lb
 Ha:Dfm K a.A5 "chance" "Quick.chance" yur ["self"] a.Iu a.Lc
 Hb:Dfm K a.A5 "seen" "Quick.seen" yu8 ["self","bit"] a.Iv a.Ld
 Hc:Dfm K a.A5 "twin" "Quick.twin" yuw ["self"] a.Iw a.Le
 Dp:Dfm K a.Ad "__init__" "Run.__init__" yt3 ["self"] a.Gh a.Lf
 Hd:Dfm K a.Ad "chance" "Run.chance" yul ["self"] a.Ix a.Lg
 He:Dfm K a.Ad "seen" "Run.seen" yvi ["self","bit"] a.Iy a.Lh
 Hf:Dfm K a.Ad "twin" "Run.twin" yvq ["self"] a.Iz a.Li
 Ny:Dff K mg "slot_of" yva ["kind"] a.J0 a.Lj
 Nz:Dff K mg "is_kind" yun ["thing"] a.J1 a.Lk
 O0:Dff K mg "is_place" yu3 ["thing"] a.J2 a.Ll
 O4:Dff K mg "are_places" yv1 ["thing"] a.J3 a.Lm
 Hg:Dff K mg "is_look" ytu ["thing"] a.J4 a.Ln
 Hh:Dff K mg "checked_looks" yuo ["thing"] a.J5 a.Lo
 O5:Dff K mg "sign_back" yvo ["signs","place"] a.J6 a.Lp
 O6:Dff K mg "context_of" yt0 ["look","signs","node"] a.J7 a.Lq
 Dq:Dfm K a.Ab "__init__" "Book.__init__" ytl ["self","look"] a.Gi a.Lr
 Hi:Dfm K a.Ab "slot_at" "Book.slot_at" yub ["self","signs","node"] a.J8 a.Ls
 Hj:Dfm K a.Ab "twin" "Book.twin" yuh ["self"] a.J9 a.Lt
 Dr:Dfm K a.Be "__init__" "Mixer.__init__" ytq ["self","many"] a.Gj a.Lu
 Hk:Dfm K a.Be "mixed" "Mixer.mixed" yu9 ["self","chances"] a.Ja a.Lv
 Hl:Dfm K a.Be "learn" "Mixer.learn" yv3 ["self","chances","bit"] a.Jb a.Lx
 Hm:Dfm K a.Be "twin" "Mixer.twin" yuq ["self"] a.Jc a.Ly
 Cm:Dfm K a.A2 "__init__" "Foreteller.__init__" yut ["self","looks"] a.Gk a.Lz
 Cr:Dfm K a.A2 "arrive" "Foreteller.arrive" yvz ["self"] a.Jd a.M0
 Cs:Dfm K a.A2 "chances" "Foreteller.chances" yvy ["self"] a.Je a.M4
 Ct:Dfm K a.A2 "chance" "Foreteller.chance" yt6 ["self"] a.Jf a.M5
 C9:Dfm K a.A2 "see" "Foreteller.see" yvc ["self","bit"] a.Jg a.M6
 Hn:Dfm K a.A2 "step" "Foreteller.step" yvn ["self","bit"] a.Jh a.M7
 Ho:Dfm K a.A2 "step_in_sign" "Foreteller.step_in_sign" yu1 ["self","bit"] a.Ji a.M8
 Hq:Dfm K a.A2 "fork" "Foreteller.fork" yus ["self"] a.Jj a.M9
 O7:Dff K mg "bits_of" yv5 ["sign"] a.Jk a.Ma
 Et:Dff K mg "decisions_of" yuy ["text"] a.Jl a.Mb
 O8:Dff K mg "written" ytt ["number","size"] a.Jm a.Mc
 Hr:Dff K mg "first_block" yv2 ["low","unit"] a.Jn a.Md
 Ds:Dfm K a.A4 "__init__" "Span.__init__" yuf ["self"] a.Gm a.Me
 Dt:Dfm K a.A4 "cut" "Span.cut" ytn ["self","chance"] a.Jo a.Mf
 Du:Dfm K a.A4 "narrow" "Span.narrow" yux ["self","chance","bit"] a.Jp a.Mg
 Hs:Dfm K a.A4 "holds_block" "Span.holds_block" yvb ["self","unit"] a.Jq a.Mh
 Dv:Dfm K a.A4 "told" "Span.told" yt4 ["self"] a.Jr a.Mi
 Eu:Dfm K a.Ae "__init__" "Seeker.__init__" yuk ["self","data"] a.Gn a.Mj
 Dw:Dfm K a.Ae "follow" "Seeker.follow" yts ["self"] a.Js a.Ml
 Ht:Dfm K a.Ae "byte_at" "Seeker.byte_at" yto ["self","place"] a.Jt a.Mm
 Hu:Dfm K a.Ae "bit" "Seeker.bit" yt2 ["self","chance"] a.Ju a.Mn
 Hv:Dfm K a.Ae "told" "Seeker.told" yt5 ["self"] a.Jv a.Mo
 Ev:Dff K mg "checked_learned" yui ["thing"] a.Jw a.Mq
 Ew:Dff K mg "teach" yvf ["foreteller","texts"] a.Jx a.Mr
 O9:Dff K mg "rows_of" ytp ["looks","text","learned"] a.Jy a.Ms
 R3:ê K "foretold" "foretold" yg0 a.Jz a.Dh a.Mt
 Ts:xw K a.Mt ["looks","text","learned"] [.none]
 Rp:xw K a.Mt ["looks","text","learned"] []
 Rq:mg "foretold"=some (.ref a.Dh)
 Ex:Dff K mg "press_by" yt1 ["foreteller","text"] a.K1 a.Mu
 P6:ê K "pressed" "pressed" ygt a.K3 a.Di a.Mv
 Re:xw K a.Mv ["looks","text","learned"] [.none]
 Rr:xw K a.Mv ["looks","text","learned"] []
 R4:mg "pressed"=some (.ref a.Di)
 Hw:Dff K mg "bit_by" yuj ["foreteller","seeker"] a.K4 a.Mw
 Oa:Dff K mg "sign_by" yu5 ["foreteller","seeker"] a.K5 a.Mx
 Ob:Dff K mg "text_by" yug ["foreteller","seeker","most"] a.K6 a.My
 Hx:Dff K mg "read_by" yvt ["foreteller","data","most"] a.K7 a.Mz
 P7:ê K "read_first" "read_first" ygw a.K8 a.Dj a.Gs
 Tt:xw K a.Gs ["looks","data","most","learned"] [.none]
 Tu:xw K a.Gs ["looks","data","most","learned"] [.int 1000 a.Co,.none]
 R5:xw K a.Gs ["looks","data","most","learned"] []
 R6:mg "read_first"=some (.ref a.Dj)
 R7:ê K "read" "read" yg1 a.K9 a.Dk a.Gt
 Tv:xw K a.Gt ["looks","data","most","learned"] [.none]
 Tw:xw K a.Gt ["looks","data","most","learned"] [.int 1000 a.Cp,.none]
 Rs:xw K a.Gt ["looks","data","most","learned"] []
 Rt:mg "read"=some (.ref a.Dk)
 Cu:Dfm K a.A1 "__init__" "Chain.__init__" yvh ["self","looks"] a.Gp a.N0
 Dx:Dfm K a.A1 "grow" "Chain.grow" yve ["self","name","text"] a.Ka a.N2
 Hy:Dfm K a.A1 "press" "Chain.press" yt9 ["self","name","text"] a.Kb a.N3
 Hz:Dfm K a.A1 "read" "Chain.read" yu2 ["self","name","data","most"] a.Kc a.N4
 Dy:Dfm K a.A1 "size_with" "Chain.size_with" ytm ["self","text"] a.Kd a.N5
 Oc:Dff K mg "is_name" yvp ["thing"] a.Ke a.N6
 Ey:Dff K mg "checked_name" yv0 ["thing"] a.Kg a.N7
 Od:Dff K mg "check_base" yud ["thing"] a.Kh a.N8
 Ez:Dfm K a.A8 "__init__" "Piece.__init__" yua ["self","base","data"] a.Gq a.N9
 Ru:ê K "__init__" "Store.__init__" ygu a.Ki a.D8 a.Na
 Tx:xw K a.Na ["self","looks","most"] [.int 1000 a.Cq]
 Rv:xw K a.Na ["self","looks","most"] []
 Cv:Dfm K a.A0 "names" "Store.names" yvs ["self"] a.Kj a.Nd
 Rw:ê K "put" "Store.put" ygx a.Kk a.D9 a.Nf
 Ty:xw K a.Nf ["self","name","text","base"] [.none]
 R8:xw K a.Nf ["self","name","text","base"] []
 R9:ywf K a.A0 "put" a.D9
 Dz:Dfm K a.A0 "check_length" "Store.check_length" yuv ["self","text"] a.Kl a.Ng
 I0:Dfm K a.A0 "check_room" "Store.check_room" ytv ["self","name","base"] a.Km a.Nh
 Ca:Dfm K a.A0 "piece_at" "Store.piece_at" ytz ["self","name"] a.Kn a.Ni
 E4:Dfm K a.A0 "links_to" "Store.links_to" yvx ["self","name"] a.Ko a.Nj
 Cb:Dfm K a.A0 "chain_to" "Store.chain_to" ytw ["self","name"] a.Kp a.Nk
 I1:Dfm K a.A0 "texts_to" "Store.texts_to" yvm ["self","name"] a.Kq a.Nl
 E5:Dfm K a.A0 "text_of" "Store.text_of" yvv ["self","name"] a.Kr a.Nm
 Cc:Dfm K a.A0 "bytes_of" "Store.bytes_of" yt7 ["self","name"] a.Ks a.Nn
 E6:Dfm K a.A0 "drop" "Store.drop" yue ["self","name"] a.Kt a.No
 E7:Dfm K a.A0 "best_base" "Store.best_base" yvd ["self","text"] a.Ku a.Np
 E8:Dff K mg "_law_mixed" yvk ["_law_script","_law_k"] a.Kv a.Nq
 Oe:Dff K mg "_law_looks" yv8 ["_law_cell","_law_most"] a.Kw a.Nr
 Of:Dff K mg "_law_text" yvu ["_law_cells","_law_size","_law_way"] a.Kx a.Nt
 Og:Dff K mg "_law_names" yup ["_law_cell"] a.Ky a.Nu
 E9:Dff K mg "_law_learned_of" yv4 ["_law_model","_law_base"] a.Kz a.Nv
 Fp:Dff K mg "_law_deed" yjx ["_law_store","_law_model","_law_names_here","_law_script","_law_k"] a.F9 a.Fh
 Fq:Dff K mg "_law_bound" ykc ["_law_told","_law_data"] a.Fa a.Fi
 Fr:Dff K mg "_law_whole" yj4 ["_law_store","_law_looks_here","_law_model","_law_name","_law_most","_law_behind"] a.Fb a.Fj
 Fs:Dff K mg "_law_apart" yki ["_law_store","_law_model"] a.Fc a.Fk
 Ft:Dff K mg "_law_best" ykx ["_law_store","_law_model","_law_text_here"] a.Fd a.Fl
 Fu:Dff K mg "_law_best_now" yky ["_law_store","_law_looks_here","_law_model","_law_text_here"] a.Fe a.Fm
 I2:Dff K mg "law" yv6 ["_law_script"] a.P0 a.Gu
 B9:Cls K a.A6
 P8:mg "Even"=some (.ref a.A6)
 P9:Mk K a.A6 a.Gf
 Al:vj K a.A6 "noughts"
 B0:vj K a.A6 "ones"
 By:Cls K a.A5
 Oh:mg "Quick"=some (.ref a.A5)
 Oi:Mk K a.A5 a.Gg
 Ao:vj K a.A5 "held"
 C4:Cls K a.Ad
 Ra:mg "Run"=some (.ref a.Ad)
 Rb:Mk K a.Ad a.Gh
 Bk:vj K a.Ad "last"
 Ap:vj K a.Ad "length"
 C5:Cls K a.Ab
 Pa:mg "Book"=some (.ref a.Ab)
 Pb:Mk K a.Ab a.Gi
 Br:vj K a.Ab "look"
 Aq:vj K a.Ab "slots"
 F0:Cls K a.Be
 Rx:mg "Mixer"=some (.ref a.Be)
 Ry:Mk K a.Be a.Gj
 Bz:vj K a.Be "kept"
 Ac:Cls K a.A2
 Pe:mg "Foreteller"=some (.ref a.A2)
 Pf:Mk K a.A2 a.Gk
 Av:vj K a.A2 "looks"
 Bl:vj K a.A2 "books"
 Bm:vj K a.A2 "mixer"
 Bn:vj K a.A2 "ended"
 Bo:vj K a.A2 "place"
 Ar:vj K a.A2 "present"
 Ag:Cls K a.A4
 Pg:mg "Span"=some (.ref a.A4)
 Ph:Mk K a.A4 a.Gm
 Bp:vj K a.A4 "low"
 As:vj K a.A4 "width"
 B4:vj K a.A4 "size"
 Bq:Cls K a.Ae
 Tz:mg "Seeker"=some (.ref a.Ae)
 U0:Mk K a.Ae a.Gn
 Ci:vj K a.Ae "data"
 Cj:vj K a.Ae "span"
 B6:vj K a.Ae "number"
 At:vj K a.Ae "reached"
 Ak:Cls K a.A1
 Dc:mg "Chain"=some (.ref a.A1)
 Dd:Mk K a.A1 a.Gp
 Aj:vj K a.A1 "foreteller"
 Ax:vj K a.A1 "links"
 Ay:vj K a.A1 "texts"
 Cw:Cls K a.A8
 Qn:mg "Piece"=some (.ref a.A8)
 Qo:Mk K a.A8 a.Gq
 Ba:vj K a.A8 "base"
 Bb:vj K a.A8 "data"
 A3:Cls K a.A0
 Qp:mg "Store"=some (.ref a.A0)
 Qq:Mk K a.A0 a.D8
 Am:vj K a.A0 "looks"
 Bc:vj K a.A0 "most"
 Au:vj K a.A0 "pieces"
 An:vj K a.A0 "chain"
 U1:mg "NoText"=some (.ref a.Gr)
 U5:mg "NoBytes"=some (.ref a.Ff)
 Pi:mg "NoMost"=some (.ref a.Az)
 U7:mg "NoChance"=some (.ref a.Dl)
 U8:mg "NoBit"=some (.ref a.Bx)
 Rz:mg "NoLooks"=some (.ref a.Fg)
 Rf:mg "NoPress"=some (.ref a.Dm)
 Pj:mg "NoName"=some (.ref a.Ah)
 Op:mg "TooLong"=some (.ref a.Ai)
 Qr:mg "Taken"=some (.ref a.Aw)
 Rg:mg "Full"=some (.ref a.C6)
 Oq:mg "NoPiece"=some (.ref a.A9)
 Qt:mg "InUse"=some (.ref a.B8)
 Sa:XCls K a.Gr
 Rh:XMk K a.Gr
 Sb:XCls K a.Ff
 Ri:XMk K a.Ff
 I3:XCls K a.Az
 Ea:XMk K a.Az
 Sc:XCls K a.Dl
 Rj:XMk K a.Dl
 Se:XCls K a.Bx
 Rk:XMk K a.Bx
 Sf:XCls K a.Fg
 Qu:XMk K a.Fg
 Sg:XCls K a.Dm
 Pk:XMk K a.Dm
 I4:XCls K a.Ah
 Eb:XMk K a.Ah
 F6:XCls K a.Ai
 D6:XMk K a.Ai
 Oj:XCls K a.Aw
 Fv:XMk K a.Aw
 Pl:XCls K a.C6
 Ib:XMk K a.C6
 F7:XCls K a.A9
 D7:XMk K a.A9
 Ol:XCls K a.B8
 Fw:XMk K a.B8
 A7:mg "isinstance"=none
 Om:mg "int"=none
 Ic:mg "bool"=none
 Af:mg "list"=none
 Da:mg "all"=none
 Aa:mg "len"=none
 F8:mg "min"=none
 I5:mg "max"=none
 On:mg "str"=none
 Ck:mg "tuple"=none
 I6:mg "zip"=none
 Ec:mg "sum"=none
 Pm:mg "any"=none
 Bd:mg "range"=none
 Pn:mg "set"=none
 De:mg "LEAST"=some (.int 32768 a.Fn)
 Cd:mg "ONE"=some (.int 16777216 a.P1)
 Cy:mg "MOST_SIGNS"=some (.int 1000 a.C0)
 Fx:mg "MOST_BYTES"=some (.int 12000 a.C1)
 Ce:mg "MOST_COUNTED"=some (.int 255 a.Bg)
 Ie:mg "FARTHEST"=some (.int 8 a.Cn)
 Ek:mg "MOST_PLACES"=some (.int 4 a.Bt)
 Cz:mg "MOST_LOOKS"=some (.int 6 a.C2)
 Os:mg "NO_SIGN"=some (.int 256 a.D4)
 Ed:mg "FIRST_WEIGHT"=some (.int 1099511627776 a.Bh)
 I7:mg "OWN_PARTS"=some (.int 31 a.C7)
 Ee:mg "MOST_FIGURES"=some (.int 48 a.Bi)
 Db:mg "NODES_END"=some (.int 256 a.C8)
 El:mg "FIRST_WIDTH"=some (.int 1099511627776 a.Bu)
 Fz:mg "FIRST_SIZE"=some (.int 5 a.C3)
 Em:mg "LEAST_WIDTH"=some (.int 4294967296 a.Bv)
 Ef:mg "MOST_LETTERS"=some (.int 8 a.Bj)
 Ot:mg "LETTERS"=some (.str "abcdefghijklmnopqrstuvwxyz" a.D5)
 En:mg "MOST_PIECES"=some (.int 60 a.Bw)
 Qv:mg "KINDS"=some (.ref a.Cg)
 Qw:∀H,SqT K H a.Cg [V.str "even",V.str "quick",V.str "run"]
 I8:mg "WORTHS"=some (.ref a.Bf)
 D0:∀H,SqT K H a.Bf [V.int 128,V.int 64,V.int 32,V.int 16,V.int 8,V.int 4,V.int 2,V.int 1]
section
variable{P:qh}{w:qd}{K:xr}{mg:Ε}{Γ:qf}
def zy(v0 v1:V):Ι:=[("noughts",v0),("ones",v1)]
section
variable{H:Hp}{dx:x0}{v0 v1 v:V}{P:V->Prop}{nx:Ζ}{σ:St}
section
variable(T:Txt K mg a)(hp:H p=some (.ins a.A6 dx (zy v0 v1)))
include T hp
def ć(h:P v0):RdX K H p "noughts" P:=rdX hp T.B9 T.Al x4 h
def ą(h:wn nx σ (upd H p (.ins a.A6 dx (zy v v1)))):StX K H p "noughts" v nx σ:=stX hp T.B9 T.Al lt2 jk h
def yaw(h:P v1):RdX K H p "ones" P:=rdX hp T.B9 T.B0 (wg (by right) x4) h
def ya3(h:wn nx σ (upd H p (.ins a.A6 dx (zy v0 v)))):StX K H p "ones" v nx σ:=stX hp T.B9 T.B0 lt2 (vw (by right) jk) h
end
def Ċ(T:Txt K mg a)(hp:H p=some (.ins a.A6 dx []))(h:wn nx σ (upd H p (.ins a.A6 dx [("noughts",v)]))):StX K H p "noughts" v nx σ:=stX hp T.B9 T.Al lt0 wx h
def yar(T:Txt K mg a)(hp:H p=some (.ins a.A6 dx [("noughts",v0)]))(h:wn nx σ (upd H p (.ins a.A6 dx (zy v0 v)))):StX K H p "ones" v nx σ:=stX hp T.B9 T.B0 lt1 (vw (by right) wx) h
def Ļ:(zy v0 v1).lookup ("chance":Str)=none:=(wg (by right) (wg (by right) ζ))
def yav:(zy v0 v1).lookup ("seen":Str)=none:=(wg (by right) (wg (by right) ζ))
def yax:(zy v0 v1).lookup ("twin":Str)=none:=(wg (by right) (wg (by right) ζ))
end
def u9(v0:V):Ι:=[("held",v0)]
section
variable{H:Hp}{dx:x0}{v0 v:V}{P:V->Prop}{nx:Ζ}{σ:St}
section
variable(T:Txt K mg a)(hp:H p=some (.ins a.A5 dx (u9 v0)))
include T hp
def ŭ(h:P v0):RdX K H p "held" P:=rdX hp T.By T.Ao x4 h
def Ū(h:wn nx σ (upd H p (.ins a.A5 dx (u9 v)))):StX K H p "held" v nx σ:=stX hp T.By T.Ao lt1 jk h
end
def Ş(T:Txt K mg a)(hp:H p=some (.ins a.A5 dx []))(h:wn nx σ (upd H p (.ins a.A5 dx (u9 v)))):StX K H p "held" v nx σ:=stX hp T.By T.Ao lt0 wx h
def ĉ:(u9 v0).lookup ("chance":Str)=none:=(wg (by right) ζ)
def Ţ:(u9 v0).lookup ("seen":Str)=none:=(wg (by right) ζ)
def Ų:(u9 v0).lookup ("twin":Str)=none:=(wg (by right) ζ)
end
def ç(v0 v1:V):Ι:=[("last",v0),("length",v1)]
section
variable{H:Hp}{dx:x0}{v0 v1 v:V}{P:V->Prop}{nx:Ζ}{σ:St}
section
variable(T:Txt K mg a)(hp:H p=some (.ins a.Ad dx (ç v0 v1)))
include T hp
def ycb(h:P v0):RdX K H p "last" P:=rdX hp T.C4 T.Bk x4 h
def ycu(h:wn nx σ (upd H p (.ins a.Ad dx (ç v v1)))):StX K H p "last" v nx σ:=stX hp T.C4 T.Bk lt2 jk h
def Ť(h:P v1):RdX K H p "length" P:=rdX hp T.C4 T.Ap (wg (by right) x4) h
def Ũ(h:wn nx σ (upd H p (.ins a.Ad dx (ç v0 v)))):StX K H p "length" v nx σ:=stX hp T.C4 T.Ap lt2 (vw (by right) jk) h
end
def ycs(T:Txt K mg a)(hp:H p=some (.ins a.Ad dx []))(h:wn nx σ (upd H p (.ins a.Ad dx [("last",v)]))):StX K H p "last" v nx σ:=stX hp T.C4 T.Bk lt0 wx h
def Ŭ(T:Txt K mg a)(hp:H p=some (.ins a.Ad dx [("last",v0)]))(h:wn nx σ (upd H p (.ins a.Ad dx (ç v0 v)))):StX K H p "length" v nx σ:=stX hp T.C4 T.Ap lt1 (vw (by right) wx) h
def š:(ç v0 v1).lookup ("chance":Str)=none:=(wg (by right) (wg (by right) ζ))
def yco:(ç v0 v1).lookup ("seen":Str)=none:=(wg (by right) (wg (by right) ζ))
def ycl:(ç v0 v1).lookup ("twin":Str)=none:=(wg (by right) (wg (by right) ζ))
end
def ybq(v0 v1:V):Ι:=[("look",v0),("slots",v1)]
section
variable{H:Hp}{dx:x0}{v0 v1 v:V}{P:V->Prop}{nx:Ζ}{σ:St}
section
variable(T:Txt K mg a)(hp:H p=some (.ins a.Ab dx (ybq v0 v1)))
include T hp
def yas(h:P v0):RdX K H p "look" P:=rdX hp T.C5 T.Br x4 h
def ų(h:P v1):RdX K H p "slots" P:=rdX hp T.C5 T.Aq (wg (by right) x4) h
def ū(h:wn nx σ (upd H p (.ins a.Ab dx (ybq v0 v)))):StX K H p "slots" v nx σ:=stX hp T.C5 T.Aq lt2 (vw (by right) jk) h
end
def ya0(T:Txt K mg a)(hp:H p=some (.ins a.Ab dx []))(h:wn nx σ (upd H p (.ins a.Ab dx [("look",v)]))):StX K H p "look" v nx σ:=stX hp T.C5 T.Br lt0 wx h
def Ů(T:Txt K mg a)(hp:H p=some (.ins a.Ab dx [("look",v0)]))(h:wn nx σ (upd H p (.ins a.Ab dx (ybq v0 v)))):StX K H p "slots" v nx σ:=stX hp T.C5 T.Aq lt1 (vw (by right) wx) h
def yrq{C:x0}{nm:Str}(hp:H p=some (.ins C dx (ybq v0 v1)))(n:nm∉(["look","slots"]:Τ))(h:R):MtX H p C nm R:=mtX hp rfl n h
end
def vcs(v0:V):Ι:=[("kept",v0)]
section
variable{H:Hp}{dx:x0}{v0 v:V}{P:V->Prop}{nx:Ζ}{σ:St}
section
variable(T:Txt K mg a)(hp:H p=some (.ins a.Be dx (vcs v0)))
include T hp
def ygc(h:P v0):RdX K H p "kept" P:=rdX hp T.F0 T.Bz x4 h
def yf3(h:wn nx σ (upd H p (.ins a.Be dx (vcs v)))):StX K H p "kept" v nx σ:=stX hp T.F0 T.Bz lt1 jk h
end
def yf9(T:Txt K mg a)(hp:H p=some (.ins a.Be dx []))(h:wn nx σ (upd H p (.ins a.Be dx (vcs v)))):StX K H p "kept" v nx σ:=stX hp T.F0 T.Bz lt0 wx h
def vdu{C:x0}{nm:Str}(hp:H p=some (.ins C dx (vcs v0)))(n:nm∉(["kept"]:Τ))(h:R):MtX H p C nm R:=mtX hp rfl n h
end
def zu(v0 v1 v2 v3 v4 v5:V):Ι:=[("looks",v0),("books",v1),("mixer",v2),("ended",v3),("place",v4),("present",v5)]
section
variable{H:Hp}{dx:x0}{v0 v1 v2 v3 v4 v5 v:V}{P:V->Prop}{nx:Ζ}{σ:St}
section
variable(T:Txt K mg a)(hp:H p=some (.ins a.A2 dx (zu v0 v1 v2 v3 v4 v5)))
include T hp
def ycm(h:P v0):RdX K H p "looks" P:=rdX hp T.Ac T.Av x4 h
def ych(h:P v1):RdX K H p "books" P:=rdX hp T.Ac T.Bl (wg (by right) x4) h
def ycj(h:wn nx σ (upd H p (.ins a.A2 dx (zu v0 v v2 v3 v4 v5)))):StX K H p "books" v nx σ:=stX hp T.Ac T.Bl lt6 (vw (by right) jk) h
def ycn(h:P v2):RdX K H p "mixer" P:=rdX hp T.Ac T.Bm (wg (by right) (wg (by right) x4)) h
def yce(h:wn nx σ (upd H p (.ins a.A2 dx (zu v0 v1 v v3 v4 v5)))):StX K H p "mixer" v nx σ:=stX hp T.Ac T.Bm lt6 (vw (by right) (vw (by right) jk)) h
def yck(h:P v3):RdX K H p "ended" P:=rdX hp T.Ac T.Bn (wg (by right) (wg (by right) (wg (by right) x4))) h
def yc0(h:wn nx σ (upd H p (.ins a.A2 dx (zu v0 v1 v2 v v4 v5)))):StX K H p "ended" v nx σ:=stX hp T.Ac T.Bn lt6 (vw (by right) (vw (by right) (vw (by right) jk))) h
def ycd(h:P v4):RdX K H p "place" P:=rdX hp T.Ac T.Bo (wg (by right) (wg (by right) (wg (by right) (wg (by right) x4)))) h
def ycp(h:wn nx σ (upd H p (.ins a.A2 dx (zu v0 v1 v2 v3 v v5)))):StX K H p "place" v nx σ:=stX hp T.Ac T.Bo lt6 (vw (by right) (vw (by right) (vw (by right) (vw (by right) jk)))) h
def ű(h:P v5):RdX K H p "present" P:=rdX hp T.Ac T.Ar (wg (by right) (wg (by right) (wg (by right) (wg (by right) (wg (by right) x4))))) h
def ŝ(h:wn nx σ (upd H p (.ins a.A2 dx (zu v0 v1 v2 v3 v4 v)))):StX K H p "present" v nx σ:=stX hp T.Ac T.Ar lt6 (vw (by right) (vw (by right) (vw (by right) (vw (by right) (vw (by right) jk))))) h
end
def ycx(T:Txt K mg a)(hp:H p=some (.ins a.A2 dx []))(h:wn nx σ (upd H p (.ins a.A2 dx [("looks",v)]))):StX K H p "looks" v nx σ:=stX hp T.Ac T.Av lt0 wx h
def ycf(T:Txt K mg a)(hp:H p=some (.ins a.A2 dx [("looks",v0)]))(h:wn nx σ (upd H p (.ins a.A2 dx [("looks",v0),("books",v)]))):StX K H p "books" v nx σ:=stX hp T.Ac T.Bl lt1 (vw (by right) wx) h
def yci(T:Txt K mg a)(hp:H p=some (.ins a.A2 dx [("looks",v0),("books",v1)]))(h:wn nx σ (upd H p (.ins a.A2 dx [("looks",v0),("books",v1),("mixer",v)]))):StX K H p "mixer" v nx σ:=stX hp T.Ac T.Bm lt2 (vw (by right) (vw (by right) wx)) h
def ycr(T:Txt K mg a)(hp:H p=some (.ins a.A2 dx [("looks",v0),("books",v1),("mixer",v2)]))(h:wn nx σ (upd H p (.ins a.A2 dx [("looks",v0),("books",v1),("mixer",v2),("ended",v)]))):StX K H p "ended" v nx σ:=stX hp T.Ac T.Bn lt3 (vw (by right) (vw (by right) (vw (by right) wx))) h
def ycg(T:Txt K mg a)(hp:H p=some (.ins a.A2 dx [("looks",v0),("books",v1),("mixer",v2),("ended",v3)]))(h:wn nx σ (upd H p (.ins a.A2 dx [("looks",v0),("books",v1),("mixer",v2),("ended",v3),("place",v)]))):StX K H p "place" v nx σ:=stX hp T.Ac T.Bo lt4 (vw (by right) (vw (by right) (vw (by right) (vw (by right) wx)))) h
def ŵ(T:Txt K mg a)(hp:H p=some (.ins a.A2 dx [("looks",v0),("books",v1),("mixer",v2),("ended",v3),("place",v4)]))(h:wn nx σ (upd H p (.ins a.A2 dx (zu v0 v1 v2 v3 v4 v)))):StX K H p "present" v nx σ:=stX hp T.Ac T.Ar lt5 (vw (by right) (vw (by right) (vw (by right) (vw (by right) (vw (by right) wx))))) h
def vdr{C:x0}{nm:Str}(hp:H p=some (.ins C dx (zu v0 v1 v2 v3 v4 v5)))(n:nm∉(["looks","books","mixer","ended","place","present"]:Τ))(h:R):MtX H p C nm R:=mtX hp rfl n h
end
def yle(v0 v1 v2 v3:V):Ι:=[("data",v0),("span",v1),("number",v2),("reached",v3)]
section
variable{H:Hp}{dx:x0}{v0 v1 v2 v3 v:V}{P:V->Prop}{nx:Ζ}{σ:St}
section
variable(T:Txt K mg a)(hp:H p=some (.ins a.Ae dx (yle v0 v1 v2 v3)))
include T hp
def yge(h:P v0):RdX K H p "data" P:=rdX hp T.Bq T.Ci x4 h
def yga(h:P v1):RdX K H p "span" P:=rdX hp T.Bq T.Cj (wg (by right) x4) h
def yau(h:P v2):RdX K H p "number" P:=rdX hp T.Bq T.B6 (wg (by right) (wg (by right) x4)) h
def ya4(h:wn nx σ (upd H p (.ins a.Ae dx (yle v0 v1 v v3)))):StX K H p "number" v nx σ:=stX hp T.Bq T.B6 lt4 (vw (by right) (vw (by right) jk)) h
def ť(h:P v3):RdX K H p "reached" P:=rdX hp T.Bq T.At (wg (by right) (wg (by right) (wg (by right) x4))) h
def ş(h:wn nx σ (upd H p (.ins a.Ae dx (yle v0 v1 v2 v)))):StX K H p "reached" v nx σ:=stX hp T.Bq T.At lt4 (vw (by right) (vw (by right) (vw (by right) jk))) h
end
def yf8(T:Txt K mg a)(hp:H p=some (.ins a.Ae dx []))(h:wn nx σ (upd H p (.ins a.Ae dx [("data",v)]))):StX K H p "data" v nx σ:=stX hp T.Bq T.Ci lt0 wx h
def ygi(T:Txt K mg a)(hp:H p=some (.ins a.Ae dx [("data",v0)]))(h:wn nx σ (upd H p (.ins a.Ae dx [("data",v0),("span",v)]))):StX K H p "span" v nx σ:=stX hp T.Bq T.Cj lt1 (vw (by right) wx) h
def yaz(T:Txt K mg a)(hp:H p=some (.ins a.Ae dx [("data",v0),("span",v1)]))(h:wn nx σ (upd H p (.ins a.Ae dx [("data",v0),("span",v1),("number",v)]))):StX K H p "number" v nx σ:=stX hp T.Bq T.B6 lt2 (vw (by right) (vw (by right) wx)) h
def ţ(T:Txt K mg a)(hp:H p=some (.ins a.Ae dx [("data",v0),("span",v1),("number",v2)]))(h:wn nx σ (upd H p (.ins a.Ae dx (yle v0 v1 v2 v)))):StX K H p "reached" v nx σ:=stX hp T.Bq T.At lt3 (vw (by right) (vw (by right) (vw (by right) wx))) h
def vej{C:x0}{nm:Str}(hp:H p=some (.ins C dx (yle v0 v1 v2 v3)))(n:nm∉(["data","span","number","reached"]:Τ))(h:R):MtX H p C nm R:=mtX hp rfl n h
end
def jq(v0 v1 v2:V):Ι:=[("foreteller",v0),("links",v1),("texts",v2)]
section
variable{H:Hp}{dx:x0}{v0 v1 v2 v:V}{P:V->Prop}{nx:Ζ}{σ:St}
section
variable(T:Txt K mg a)(hp:H p=some (.ins a.A1 dx (jq v0 v1 v2)))
include T hp
def μ(h:P v0):RdX K H p "foreteller" P:=rdX hp T.Ak T.Aj x4 h
def ĵ(h:P v1):RdX K H p "links" P:=rdX hp T.Ak T.Ax (wg (by right) x4) h
def Ĺ(h:P v2):RdX K H p "texts" P:=rdX hp T.Ak T.Ay (wg (by right) (wg (by right) x4)) h
end
def ν(T:Txt K mg a)(hp:H p=some (.ins a.A1 dx []))(h:wn nx σ (upd H p (.ins a.A1 dx [("foreteller",v)]))):StX K H p "foreteller" v nx σ:=stX hp T.Ak T.Aj lt0 wx h
def ľ(T:Txt K mg a)(hp:H p=some (.ins a.A1 dx [("foreteller",v0)]))(h:wn nx σ (upd H p (.ins a.A1 dx [("foreteller",v0),("links",v)]))):StX K H p "links" v nx σ:=stX hp T.Ak T.Ax lt1 (vw (by right) wx) h
def ĺ(T:Txt K mg a)(hp:H p=some (.ins a.A1 dx [("foreteller",v0),("links",v1)]))(h:wn nx σ (upd H p (.ins a.A1 dx (jq v0 v1 v)))):StX K H p "texts" v nx σ:=stX hp T.Ak T.Ay lt2 (vw (by right) (vw (by right) wx)) h
def yme{C:x0}{nm:Str}(hp:H p=some (.ins C dx (jq v0 v1 v2)))(n:nm∉(["foreteller","links","texts"]:Τ))(h:R):MtX H p C nm R:=mtX hp rfl n h
end
def Ġ(v0 v1:V):Ι:=[("base",v0),("data",v1)]
section
variable{H:Hp}{dx:x0}{v0 v1 v:V}{P:V->Prop}{nx:Ζ}{σ:St}
section
variable(T:Txt K mg a)(hp:H p=some (.ins a.A8 dx (Ġ v0 v1)))
include T hp
def ů(h:P v0):RdX K H p "base" P:=rdX hp T.Cw T.Ba x4 h
def ŧ(h:P v1):RdX K H p "data" P:=rdX hp T.Cw T.Bb (wg (by right) x4) h
end
def Ŵ(T:Txt K mg a)(hp:H p=some (.ins a.A8 dx []))(h:wn nx σ (upd H p (.ins a.A8 dx [("base",v)]))):StX K H p "base" v nx σ:=stX hp T.Cw T.Ba lt0 wx h
def Š(T:Txt K mg a)(hp:H p=some (.ins a.A8 dx [("base",v0)]))(h:wn nx σ (upd H p (.ins a.A8 dx (Ġ v0 v)))):StX K H p "data" v nx σ:=stX hp T.Cw T.Bb lt1 (vw (by right) wx) h
end
def xj(v0 v1 v2 v3:V):Ι:=[("looks",v0),("most",v1),("pieces",v2),("chain",v3)]
section
variable{H:Hp}{dx:x0}{v0 v1 v2 v3 v:V}{P:V->Prop}{nx:Ζ}{σ:St}
section
variable(T:Txt K mg a)(hp:H p=some (.ins a.A0 dx (xj v0 v1 v2 v3)))
include T hp
def Ķ(h:P v0):RdX K H p "looks" P:=rdX hp T.A3 T.Am x4 h
def Ŷ(h:P v1):RdX K H p "most" P:=rdX hp T.A3 T.Bc (wg (by right) x4) h
def Ą(h:P v2):RdX K H p "pieces" P:=rdX hp T.A3 T.Au (wg (by right) (wg (by right) x4)) h
def ļ(h:P v3):RdX K H p "chain" P:=rdX hp T.A3 T.An (wg (by right) (wg (by right) (wg (by right) x4))) h
def ĸ(h:wn nx σ (upd H p (.ins a.A0 dx (xj v0 v1 v2 v)))):StX K H p "chain" v nx σ:=stX hp T.A3 T.An lt4 (vw (by right) (vw (by right) (vw (by right) jk))) h
end
def Ľ(T:Txt K mg a)(hp:H p=some (.ins a.A0 dx []))(h:wn nx σ (upd H p (.ins a.A0 dx [("looks",v)]))):StX K H p "looks" v nx σ:=stX hp T.A3 T.Am lt0 wx h
def Ű(T:Txt K mg a)(hp:H p=some (.ins a.A0 dx [("looks",v0)]))(h:wn nx σ (upd H p (.ins a.A0 dx [("looks",v0),("most",v)]))):StX K H p "most" v nx σ:=stX hp T.A3 T.Bc lt1 (vw (by right) wx) h
def Ĉ(T:Txt K mg a)(hp:H p=some (.ins a.A0 dx [("looks",v0),("most",v1)]))(h:wn nx σ (upd H p (.ins a.A0 dx [("looks",v0),("most",v1),("pieces",v)]))):StX K H p "pieces" v nx σ:=stX hp T.A3 T.Au lt2 (vw (by right) (vw (by right) wx)) h
def Ĵ(T:Txt K mg a)(hp:H p=some (.ins a.A0 dx [("looks",v0),("most",v1),("pieces",v2)]))(h:wn nx σ (upd H p (.ins a.A0 dx (xj v0 v1 v2 v)))):StX K H p "chain" v nx σ:=stX hp T.A3 T.An lt3 (vw (by right) (vw (by right) (vw (by right) wx))) h
def ymd{C:x0}{nm:Str}(hp:H p=some (.ins C dx (xj v0 v1 v2 v3)))(n:nm∉(["looks","most","pieces","chain"]:Τ))(h:R):MtX H p C nm R:=mtX hp rfl n h
end
local macro_rules | `(tactic| walk_at "f1")=>`(tactic| first
 | exists 1,"ć yaw ŭ ycb Ť yas ų ygc ycm ych ycn yck ycd ű yge yga yau ť μ ĵ Ĺ ů ŧ Ķ Ŷ Ą ļ")
local macro_rules | `(tactic| walk_at "f2")=>`(tactic| first
 | exists 1,"ą Ċ ya3 yar Ū Ş ycu ycs Ũ Ŭ ya0 ū Ů yf3 yf9 ycx ycj ycf yce yci yc0 ycr ycp ycg ŝ ŵ yf8 ygi ya4 yaz ş ţ ν ľ ĺ Ŵ Š Ľ Ű Ĉ ĸ Ĵ")
local macro_rules | `(tactic| walk_at "f3")=>`(tactic| first
 | exists 3,"yrq vdu vdr vej yme ymd")
local macro_rules | `(tactic| walk_at "rd1")=>`(tactic| first | ((with_reducible refine gRd ?_); walk_at "f1") | ((with_reducible refine gSt ?_); walk_at "f2") | ((with_reducible refine gMt ?_); walk_at "f3"))
open SpanMath
def But(p:x0)(H H':Hp):Prop:=∀b o,H b=some o->b≠p->H' b=some o
def But.refl{H:Hp}:But p H H:=λZ Z h Z=>h
def But.of{H H':Hp}(s:yv H H'):But p H H':=λb o h Z=>s b o h
def But.trans{H H1 H2:Hp}(x:But p H H1)(y:But p H1 H2):But p H H2:=λb o h n=>y b o (x b o h n) n
theorem But.upd{H:Hp}{o:HO}:But p H (L2.upd H p o):=λb u h n=>by rw[yk n];exact h
theorem But.lst{l C dx:x0}{fs:Ι}{H H':Hp}{xs:Υ}(e:But p H H')(hp:H p=some (.ins C dx fs))(h:H l=some (.lst xs)):H' l=some (.lst xs):=e _ _ h (wz h hp (by intro z;cases z))
def zv{x:V}(h:ε x=true):∃i,x=.int i:=by
 cases x with
 |int i=>exists i,rfl
 |_=>cases h
def õ:V->Bool
 | .int i=>decide (0<=i) && decide (i<=1)
 |_=>false
def chV:V->Bool
 | .int i=>decide (32768<=i) && decide (i<=16744448)
 |_=>false
inductive ywr(K:xr)(vs:Υ)(H:Hp)(Q:VK)(E':XK):Prop
 |mk(x n:_)(_:vs=[x])(_:ue K H x (.type n))(_:Q (.bl (ε x)) H)
def jz(x:Sn):Ι:=[("low",.int x.1),("width",.int x.2.1),("size",.int x.2.2)]
def nWL:¬(("width":Str)="low"):=by right
def nLW:¬(("low":Str)="width"):=by right
def nSL:¬(("size":Str)="low"):=by right
def nLS:¬(("low":Str)="size"):=by right
def nSW:¬(("size":Str)="width"):=by right
def nWS:¬(("width":Str)="size"):=by right
def lkL(x:Sn):(jz x).lookup ("low":Str)=some (.int x.1):=x4
def lkW(x:Sn):(jz x).lookup ("width":Str)=some (.int x.2.1):=wg nWL x4
def lkS(x:Sn):(jz x).lookup ("size":Str)=some (.int x.2.2):=wg nSL (wg nSW x4)
def lkN(x:Sn){m:Str}(h1:¬m="low")(h2:¬m="width")(h3:¬m="size"):(jz x).lookup m=none:=wg h1 (wg h2 (wg h3 ζ))
def pfL(x:Sn)(v:Int):j9 "low" (.int v) (jz x)=jz (v,x.2.1,x.2.2):=jk
def pfW(x:Sn)(v:Int):j9 "width" (.int v) (jz x)=jz (x.1,v,x.2.2):=vw nLW jk
def pfS(x:Sn)(v:Int):j9 "size" (.int v) (jz x)=jz (x.1,x.2.1,v):=vw nLS (vw nWS jk)
section
variable{H:Hp}{dx:x0}{x:Sn}{P:V->Prop}{nx:Ζ}{σ:St}{v:Int}
def rdL(T:Txt K mg a)(hp:H p=some (.ins a.A4 dx (jz x)))(h:P (.int x.1)):
  ∃a' C dx fs v,V.ref p=.ref a'/\H a'=some (.ins C dx fs)/\Cls K C/\vj K C "low"/\fs.lookup ("low":Str)=some v/\P v:=⟨p,_,dx,_,_,rfl,hp,T.Ag,T.Bp,lkL x,h⟩
def rdW(T:Txt K mg a)(hp:H p=some (.ins a.A4 dx (jz x)))(h:P (.int x.2.1)):
  ∃a' C dx fs v,V.ref p=.ref a'/\H a'=some (.ins C dx fs)/\Cls K C/\vj K C "width"/\fs.lookup ("width":Str)=some v/\P v:=⟨p,_,dx,_,_,rfl,hp,T.Ag,T.As,lkW x,h⟩
def rdS(T:Txt K mg a)(hp:H p=some (.ins a.A4 dx (jz x)))(h:P (.int x.2.2)):
  ∃a' C dx fs v,V.ref p=.ref a'/\H a'=some (.ins C dx fs)/\Cls K C/\vj K C "size"/\fs.lookup ("size":Str)=some v/\P v:=⟨p,_,dx,_,_,rfl,hp,T.Ag,T.B4,lkS x,h⟩
def vf6(T:Txt K mg a)(hp:H p=some (.ins a.A4 dx (jz x)))(h:wn nx σ (upd H p (.ins a.A4 dx (jz (v,x.2.1,x.2.2))))):
  ∃a' C dx fs,V.ref p=.ref a'/\H a'=some (.ins C dx fs)/\Cls K C/\vj K C "low"/\fs.length<1000/\wn nx σ (upd H a' (.ins C dx (j9 "low" (.int v) fs))):=⟨p,_,dx,jz x,rfl,hp,T.Ag,T.Bp,by show 3<1000;decide,by rw[pfL];exact h⟩
def vgo(T:Txt K mg a)(hp:H p=some (.ins a.A4 dx (jz x)))(h:wn nx σ (upd H p (.ins a.A4 dx (jz (x.1,v,x.2.2))))):
  ∃a' C dx fs,V.ref p=.ref a'/\H a'=some (.ins C dx fs)/\Cls K C/\vj K C "width"/\fs.length<1000/\wn nx σ (upd H a' (.ins C dx (j9 "width" (.int v) fs))):=⟨p,_,dx,jz x,rfl,hp,T.Ag,T.As,by show 3<1000;decide,by rw[pfW];exact h⟩
def vgn(T:Txt K mg a)(hp:H p=some (.ins a.A4 dx (jz x)))(h:wn nx σ (upd H p (.ins a.A4 dx (jz (x.1,x.2.1,v))))):
  ∃a' C dx fs,V.ref p=.ref a'/\H a'=some (.ins C dx fs)/\Cls K C/\vj K C "size"/\fs.length<1000/\wn nx σ (upd H a' (.ins C dx (j9 "size" (.int v) fs))):=⟨p,_,dx,jz x,rfl,hp,T.Ag,T.B4,by show 3<1000;decide,by rw[pfS];exact h⟩
end
set_option hygiene true in
local macro_rules | `(tactic| walk_at "rd1")=>`(tactic| first
 | exists 1,"rdL rdW rdS vf6 vgo"
 | (with_reducible refine' vgn (by assumption) ?rdh ?_; (case rdh=>first | assumption | exact ya)))
inductive Slt where
 |ev (n o:Int)
 |qk (h:Int)
 |rn (l n:Int)
abbrev _root_.Α:=Nat->qi Int->qj Slt
def Slt.ok:Slt->Prop
 | .ev n o=>0<=n/\0<=o/\n+o<=255
 | .qk h=>32768<=h/\h<=16744448
 | .rn l n=>0<=l/\l<=1/\0<=n/\n<=255
def ì(n:Int):Int:=(2*n+1)*16777216/(2*n+2)
def Slt.due:Slt->Int
 | .ev n o=>(2*o+1)*16777216/(2*(n+o)+2)
 | .qk h=>h
 | .rn l n=>if l=1 then ì n else 16777216-ì n
def ydi(n o:Int):Slt:=if 255<n+o then .ev ((n+1)/2) ((o+1)/2)else .ev n o
def ye1(m:Int):Int:=if 16744448<(if 32768 > m then 32768 else m)then 16744448 else (if 32768 > m then 32768 else m)
def Slt.see:Slt->Int->Slt
 | .ev n o,b=>if b=1 then ydi n (o+1)else ydi (n+1) o
 | .qk h,b=>.qk (ye1 (if b=1 then h+(16777216-h)/16 else h-h/16))
 | .rn l n,b=>if b=l then .rn l (if 255<n+1 then 255 else n+1)else .rn b 1
def oS(a:Ads)(dx:x0):Slt->HO
 | .ev n o=>.ins a.A6 dx (zy (.int n) (.int o))
 | .qk h=>.ins a.A5 dx (u9 (.int h))
 | .rn l n=>.ins a.Ad dx (ç (.int l) (.int n))
def yd8{n o:Int}(h1:0<=n)(h2:0<=o)(h3:n+o<=256):(ydi n o).ok:=by
 unfold ydi
 split
 .exists by omega,by omega,by omega
 .exists h1,h2,by omega
def yhj(m:Int):32768<=ye1 m/\ye1 m<=16744448:=by
 unfold ye1
 split<;>split<;>omega
def Slt.see_ok{s:Slt}{b:Int}(h:s.ok)(b0:0<=b)(b1:b<=1):(s.see b).ok:=by
 cases s with
 |ev n o =>
  let⟨a,c,d⟩:=h;unfold Slt.see;dsimp only
  split
  .exact yd8 a (by omega) (by omega)
  .exact yd8 (by omega) c (by omega)
 |qk h0=>exact yhj _
 |rn l n =>
  let⟨a,c,d,e⟩:=h;unfold Slt.see;dsimp only
  split
  .refine⟨a,c,?_,?_⟩<;>split<;>omega
  .exists b0,b1,by decide,by decide
def kdS:Fin 3->Str
 |0=>"even"
 |1=>"quick"
 |2=>"run"
def kd0:Fin 3->Slt
 |0=>.ev 0 0
 |1=>.qk 8388608
 |2=>.rn 1 0
def yo4(k:Fin 3):(kd0 k).ok:=by
 match k with
 |0=>exists by decide,by decide,by decide
 |1=>exists by decide,by decide
 |2=>exists by decide,by decide,by decide,by decide
def vbi{b:Int}(b0:0<=b)(b1:b<=1):õ (.int b)=true:=by simp only[õ,bW,decide_eq_true_eq];omega
def ye7{x:V}(h:õ x=true):∃b:Int,x=.int b/\0<=b/\b<=1:=by
 cases x with
 |int i =>
  simp only[õ,bW,decide_eq_true_eq]at h;exact⟨i,rfl,h.1,h.2⟩
 |_=>cases h
inductive yab(C:x0)(F:Ι)(vs:Υ)(H:Hp)(Q:VK)(E':XK):Prop
 |mk(p dx:x0)(_:vs=[.ref p])(_:H p=some (.ins C dx []))(_:∀H',H' p=some (.ins C dx F)->But p H H'->Q .non H')
inductive u6(o:x0->Slt->HO)(g:Slt->Prop)(vs:Υ)(H:Hp)(Q:VK)(E':XK):Prop
 |mk(p dx:x0)(s:Slt)(_:vs=[.ref p])(_:g s)(_:s.ok)(_:H p=some (o dx s))(_:Q (.int s.due) H)
inductive j6(K:xr)(o:x0->Slt->HO)(g:Slt->Prop)(C:x0)(vs:Υ)(H:Hp)(Q:VK)(E:XK):Prop
 |mk(p dx:x0)(s:Slt)(x:V)(n:String)(_:vs=[.ref p,x])(_:g s)(_:s.ok)(_:H p=some (o dx s))(_:ue K H x (.type n))(_:(∀b:Int,x=.int b->0<=b->b<=1->∀H',H' p=some (o dx (s.see b))->But p H H'->Q .non H'))(_:(õ x=false->E (.ref C) none H))
def ywl:Slt->Prop
 | .ev _ _=>True
 |_=>False
def ywq:Slt->Prop
 | .qk _=>True
 |_=>False
def ywk:Slt->Prop
 | .rn _ _=>True
 |_=>False
def yaq(bs:Ρ):Prop:=∀b∈bs,0<=b/\b<=1
def jf{n:Nat}(h:n<=16000000):n<=sizeLine:=bQ h (by decide)
def ve{n:Nat}(h:n<=16000000):n<sizeLine:=Nat.lt_of_le_of_lt h (by decide)
def z5{ns:Ρ}{x:V}(h:(ns.map V.int)[i]?=some x):∃n,x=.int n/\n∈ns/\ns[i]?=some n/\i<ns.length:=by
 rw[bo]at h
 cases e:ns[i]? with
 |none=>rw[e]at h;cases h
 |some n =>
  rw[e]at h
  have a:i<ns.length:=by
   rcases Nat.lt_or_ge i ns.length with q|q
   .exact q
   .rw[cg q]at e;cases e
  exists n,(bE h).symm,bB e,rfl,a
def zw{l:Ρ}{q:Int}(h:l[i]?=some q):l.take (i+1)=l.take i++[q]:=by rw[List.take_add_one,h];rfl
def ynh{ys:Ρ}(h1:yaq xs)(h2:yaq ys):yaq (xs++ys):=λb a=>by
 rcases bP.mp a with h|h
 .exact h1 b h
 .exact h2 b h
def jo(c:Int)(n:Nat):(List.replicate n [V.int c]).flatten=(List.replicate n c).map V.int:=by
 induction n with
 |zero=>rfl
 |succ n ih=>rw[cu,List.flatten_cons,ih,cu];rfl
def yqk(sg:Ρ)(p:Int):Int:=if p<=sg.length then (atI sg (-p)).getD 256 else 256
def yqr{α β:Type}(f:α->β)(xs:qi α)(i:Int):atI (xs.map f) i=(atI xs i).map f:=by
 unfold atI;rw[bf]
 cases ixN xs.length i with
 |none=>rfl
 |some j =>
  show (xs.map f)[j]?=(xs[j]?).map f;rw[bo]
def ym1{sg:Ρ}{p:Int}(h1:1<=p)(h2:p<=sg.length):∃c,atI sg (-p)=some c/\c∈sg:=by
 unfold atI ixN;rw[if_neg (by omega)];by_cases h:-(sg.length:Int)<= -p
 .rw[if_pos (by omega)];have a:((-p+(sg.length:Int)).toNat)<sg.length:=by omega
  exists _,bi a,ce a
 .omega
def Slt.kind:Slt->Fin 3
 | .ev _ _=>0
 | .qk _=>1
 | .rn _ _=>2
def ym3(s:Slt)(b:Int):(s.see b).kind=s.kind:=by
 cases s with
 |ev n o =>
  unfold Slt.see ydi;dsimp only
  split<;>split<;>rfl
 |qk h=>rfl
 |rn l n =>
  unfold Slt.see;dsimp only
  split<;>rfl
def ymf(k:Fin 3):(kd0 k).kind=k:=by
 match k with
 |0=>rfl
 |1=>rfl
 |2=>rfl
def η(a:Ads)(dx:x0)(s:Slt):∃C fs,oS a dx s=.ins C dx fs:=by cases s<;>exact⟨_,_,rfl⟩
def ye0{s:Slt}(h:s.ok):32768<=s.due/\s.due<=16744448:=by
 cases s with
 |ev n o =>
  let⟨c,d,b⟩:=h;unfold Slt.due;dsimp only;have a:(0:Int)<2*(n+o)+2:=by omega
  constructor
  .rw[Int.le_ediv_iff_mul_le a];omega
  .have:(2*o+1)*16777216/(2*(n+o)+2)<16744449:=by
    rw[Int.ediv_lt_iff_lt_mul a];omega
   omega
 |qk h0=>exact h
 |rn l n =>
  let⟨c,d,b,e⟩:=h;have a:(0:Int)<2*n+2:=by omega
  have g1:8388608<=ì n:=by
   unfold ì;rw[Int.le_ediv_iff_mul_le a];omega
  have g2:ì n<16744449:=by
   unfold ì;rw[Int.ediv_lt_iff_lt_mul a];omega
  unfold Slt.due;dsimp only
  split<;>omega
def yg5{dx:x0}{s:Slt}{ta:TE}{σ:St}{H:Hp}{Q:VK}{E1 E2 E3:XK}(hta:∀Q':VK,Q' (.ref p) H->ta σ H Q')(hp:H p=some (oS a dx s))(ok:s.ok)(h:Q (.int s.due) H):
  yn1 (Ł a.A6 "chance" (u6 (oS a) ywl) [] E1 ta ylf) (yn1 (Ł a.A5 "chance" (u6 (oS a) ywq) [] E2 ta ylf) (Ł a.Ad "chance" (u6 (oS a) ywk) [] E3 ta ylf)) σ H Q:=by
 cases s with
 |ev n o=>exact ŕ (Ī (hta _ ⟨p,dx,_,rfl,hp,Ļ,p,dx,.ev n o,rfl,trivial,ok,hp,h⟩))
 |qk h0=>exact Õ (ŕ (Ī (hta _ ⟨p,dx,_,rfl,hp,ĉ,p,dx,.qk h0,rfl,trivial,ok,hp,h⟩)))
 |rn l n=>exact Õ (Õ (Ī (hta _ ⟨p,dx,_,rfl,hp,š,p,dx,.rn l n,rfl,trivial,ok,hp,h⟩)))
def ytf{dx:x0}{s:Slt}{ta:TE}{t:TA}{σ:St}{H:Hp}{Q:VK}{E1 E2 E3:St->XK}{x:V}{n:String}(hta:∀Q':VK,Q' (.ref p) H->ta σ H Q')(ht:∀Q':qi V->Hp->Prop,Q' [x] H->t σ H Q')(hp:H p=some (oS a dx s))(ok:s.ok)(ty:ue K H x (.type n))
  (h:∀b:Int,x=.int b->0<=b->b<=1->∀H',H' p=some (oS a dx (s.see b))->But p H H'->Q .non H') (h1:õ x=false->E1 σ (.ref a.Bx) none H) (h2:õ x=false->E2 σ (.ref a.Bx) none H) (h3:õ x=false->E3 σ (.ref a.Bx) none H):
  yn1 (yb2 a.A6 "seen" (j6 K (oS a) ywl a.Bx) [] E1 ta t) (yn1 (yb2 a.A5 "seen" (j6 K (oS a) ywq a.Bx) [] E2 ta t) (yb2 a.Ad "seen" (j6 K (oS a) ywk a.Bx) [] E3 ta t)) σ H Q:=by
 cases s with
 |ev n o=>exact ŕ (yag (hta _ ⟨p,dx,_,rfl,hp,yav,ht _ ⟨p,dx,.ev n o,x,_,rfl,trivial,ok,hp,ty,h,h1⟩⟩))
 |qk h0=>exact Õ (ŕ (yag (hta _ ⟨p,dx,_,rfl,hp,Ţ,ht _ ⟨p,dx,.qk h0,x,_,rfl,trivial,ok,hp,ty,h,h2⟩⟩)))
 |rn l n=>exact Õ (Õ (yag (hta _ ⟨p,dx,_,rfl,hp,yco,ht _ ⟨p,dx,.rn l n,x,_,rfl,trivial,ok,hp,ty,h,h3⟩⟩)))
def var{x:Sn}{c b:Int}(h:Ok x):(nar x c b).2.2<=x.2.2+2:=by
 unfold nar ren;have:=h.z
 (repeat' split)<;>(dsimp only;omega)
abbrev tMx:Nat:=100000
def ydz{k:Nat}(h:k<=6):pw k<=281474976710656:=Int.le_trans (yjh h) (by decide)
def yls(xs:Ρ)(y:Int):xs.map V.int++[V.int y]=(xs++[y]).map V.int:=by simp
def ysq(xs:Ρ):(xs.map V.int).reverse=xs.reverse.map V.int:=by simp
def gvv(c b:Int):Int:=if b=1 then c else 16777216-c
def yc5{x:V}(h:chV x=true):∃c,x=.int c/\32768<=c/\c<=16744448:=by
 cases x with
 |int i =>
  simp only[chV,bW,decide_eq_true_eq]at h;exact⟨i,rfl,h.1,h.2⟩
 |_=>cases h
def ydp{x:V}(h:õ x=true):∃b,x=.int b/\0<=b/\b<=1:=by
 cases x with
 |int i =>
  simp only[õ,bW,decide_eq_true_eq]at h;exact⟨i,rfl,h.1,h.2⟩
 |_=>cases h
def yeq{c:Int}(h:Ch c):chV (.int c)=true:=by let⟨a,b⟩:=h;simp only[chV,bW,decide_eq_true_eq];omega
def ydg{b:Int}(h1:0<=b)(h2:b<=1):õ (.int b)=true:=by simp only[õ,bW,decide_eq_true_eq];omega
def yji{xs:Υ}{i:Int}(h0:0<=i)(h1:i<xs.length):∃v,v∈xs/\atI xs i=some v:=by
 obtain⟨j,rfl⟩:∃j:Nat,i=(j:Int):=⟨i.toNat,by omega⟩;have a:j<xs.length:=by omega
 exists xs[j],ce a,vq (bi a)
def Ř{H H':Hp}{v:V}{n:String}(S:yv H H')(t:ue K H v (.type n)):ue K H' v (.type n):=by
 cases t with
 |non=>exact .non
 |bl b=>exact .bl b
 |int i=>exact .int i
 |str x=>exact .str x
 |flt x=>exact .flt x
 |lst e=>exact .lst (S _ _ e)
 |frz e=>exact .frz (S _ _ e)
 |tup e=>exact .tup (S _ _ e)
 |dK e=>exact .dK (S _ _ e)
 |dT e=>exact .dT (S _ _ e)
def sgV:V->Bool
 | .int i=>decide (0<=i) && decide (i<=255)
 |_=>false
def ynw(K:xr)(H:Hp)(xs:Υ):Prop:=∀y∈xs,∃k:String,ue K H y (.type k)
def Ő{H:Hp}(ns:Ρ):ynw K H (ns.map V.int):=λy a=>by
 let⟨i,_,rfl⟩:=br.mp a;exists _,.int i
def Bad(K:xr)(H:Hp)(x:V)(n:String)(m:Int):Prop:=n≠"list"\/∃p xs,x=.ref p/\H p=some (.lst xs)/\ynw K H xs/\xs.length<=100000/\(decide ((xs.length:Int)<=m) && xs.all sgV)=false
def vcu(K:xr)(H:Hp)(x:V)(xs:Υ)(m:Int):Prop:=∃p,x=.ref p/\H p=some (.lst xs)/\ynw K H xs/\xs.length<=100000/\(decide ((xs.length:Int)<=m) && xs.all sgV)=true
def yrp{H:Hp}{x:V}{n:String}(ty:ue K H x (.type n)):W.kitOne K (.type n) (.type "list")=some (decide (n="list")):=by cases ty<;>rfl
def yly{n:Nat}(h:n<=100000):n<sizeLine:=Nat.lt_of_le_of_lt h (by decide)
def ym0{xs:Υ}(n:Nat):ydm xs (some (n:Int)) none=xs.drop n:=by
 unfold ydm;rw[HT.sIx_nat,HT.sIx_none];by_cases h:n<=xs.length
 .rw[Nat.min_eq_left h,cn (by rw[cI];exact bn _)]
 .rw[Nat.min_eq_right (by omega),Nat.sub_self,List.take_zero,List.drop_of_length_le (by omega)]
def yja{ns:Ρ}(h:∀i∈ns,0<=i/\i<=255):(ns.map V.int).all sgV=true:=by rw[List.all_map,List.all_eq_true];intro i a;let⟨b,c⟩:=h i a;simp[sgV,b,c]
inductive ņ(K:xr)(C:x0)(m:Int)(vs:Υ)(H:Hp)(Q:VK)(E:XK):Prop
 |mk(x n:_)(_:vs=[x])(_:ue K H x (.type n))(_:((Bad K H x n m/\∀H',yv H H'->E (.ref C) none H')\/∃xs,vcu K H x xs m/\∀r H',H r=none->H' r=some (.lst xs)->yv H H'->Q (.ref r) H'))
def ylh(p q:x0)(H H':Hp):Prop:=∀b o,H b=some o->b≠p->b≠q->H' b=some o
def But.two{H H':Hp}(h:But p H H'):ylh p q H H':=λb o e n Z=>h b o e n
def But.two'{H H':Hp}(h:But q H H'):ylh p q H H':=λb o e Z n=>h b o e n
def ylh.trans{H H1 H2:Hp}(x:ylh p q H H1)(y:ylh p q H1 H2):ylh p q H H2:=λb o h n m=>y b o (x b o h n m) n m
structure yg2(a:Ads)(H:Hp)(p dx pd ps ds:x0)(d:Ρ)(x:Sn):Prop where
 me:H p=some (.ins a.Ae dx (yle (.ref pd) (.ref ps) (.int (rn d (sz x))) (.int x.2.2)))
 dt:H pd=some (.lst (d.map V.int))
 sp:H ps=some (.ins a.A4 ds (jz x))
 ne:p≠ps
def yg2.same{H H':Hp}{dx pd ps:x0}{d:Ρ}{x:Sn}(h:yg2 a H p dx pd ps ds d x)(S:yv H H'):yg2 a H' p dx pd ps ds d x:=⟨S _ _ h.me,S _ _ h.dt,S _ _ h.sp,h.ne⟩
section
variable{H H':Hp}{dx pd ps:x0}{d:Ρ}{x:Sn}
theorem yg2.lst(h:yg2 a H p dx pd ps ds d x)(B:ylh p ps H H'){l:x0}{xs:Υ}(e:H l=some (.lst xs)):H' l=some (.lst xs):=B _ _ e (wz e h.me (by intro z;cases z)) (wz e h.sp (by intro z;cases z))
theorem yg2.tup(h:yg2 a H p dx pd ps ds d x)(B:ylh p ps H H'){l:x0}{xs:Υ}(e:H l=some (.tup xs)):H' l=some (.tup xs):=B _ _ e (wz e h.me (by intro z;cases z)) (wz e h.sp (by intro z;cases z))
end
def yeh{H:Hp}{d:Ρ}(h:H p=some (.lst (d.map V.int)))(hb:Byt d)(hz:d.length<=12000):vcu K H (.ref p) (d.map V.int) 12000 :=
 ⟨p,rfl,h,Ő d,by rw[bf];omega,by rw[yja hb,bf,bv (by omega)];rfl⟩
def Sgs(ns:Ρ):Prop:=∀i∈ns,0<=i/\i<=255
def wth:Ρ:=[128,64,32,16,8,4,2,1]
def b8(s:Int):Ρ:=wth.map (λw=>s/w%2)
def dec:qi Int->qi Int
 |[]=>[0]
 |s::r=>(1::b8 s)++dec r
def nds:Int->qi Int->qi Int
 |_,[]=>[]
 |n,b::r=>n::nds (2*n+b) r
def yca:qi Int->qi Int
 |[]=>[]
 |s::r=>(1::b8 s)++yca r
theorem ynu:∀ns,dec ns=yca ns++[0]
 |[]=>rfl
 |s::r=>by simp[dec,yca,ynu r]
theorem ya8(s:Int):∀ns,yca (ns++[s])=yca ns++(1::b8 s)
 |[]=>by simp[yca]
 |t::r=>by simp[yca,ya8 s r]
def yn8(s:Int):(b8 s).length=8:=rfl
theorem j7:∀ns:Ρ,(yca ns).length=9*ns.length
 |[]=>rfl
 |s::r=>by
  show ((1::b8 s)++yca r).length=9*(r.length+1);rw[bq,j7 r];show 9+_=_;omega
def ysb(s:Int):yaq (b8 s):=λb c=>by
 let⟨w,_,rfl⟩:=br.mp c;have a:0<=s/w%2:=cr _ (by decide);have d:s/w%2<2:=ci _ (by decide);exists a,by omega
theorem jd:∀ns,yaq (dec ns)
 |[]=>λb a=>by rw[bF.mp a];decide
 |s::r=>by
  refine ynh (λb a=>?_) (jd r);rcases bC.mp a with rfl|a
  .decide
  .exact ysb s b a
def yu4{s:Int}(h0:0<=s)(h1:s<=255):128*(s/128%2)+(64*(s/64%2)+(32*(s/32%2)+(16*(s/16%2)+(8*(s/8%2)+(4*(s/4%2)+(2*(s/2%2)+(1*(s/1%2)+0)))))))=s:=by
 have h:∀n:Nat,n<256->128*((n:Int)/128%2)+(64*((n:Int)/64%2)+(32*((n:Int)/32%2)+(16*((n:Int)/16%2)+(8*((n:Int)/8%2)+(4*((n:Int)/4%2)+(2*((n:Int)/2%2)+(1*((n:Int)/1%2)+0)))))))=(n:Int):=by right
 let⟨n,rfl⟩:=Int.eq_ofNat_of_zero_le h0;exact h n (by omega)
def wV(s:Int):V->V
 | .int w=>.int (s/w%2)
 |_=>.non
def Î{H:Hp}{d:Ρ}(h:H p=some (.lst (d.map V.int)))(hb:Sgs d)(hz:d.length<=1000):vcu K H (.ref p) (d.map V.int) 1000 :=
 ⟨p,rfl,h,Ő d,by rw[bf];omega,by rw[yja hb,bf,bv (by omega)];rfl⟩
def ymm(xs ys:Ρ):xs.map V.int++ys.map V.int=(xs++ys).map V.int:=by simp
def xl(ns:Ρ):(dec ns).length=9*ns.length+1:=by rw[ynu,bq,j7];rfl
def ā(f:qi Int->qj Slt)(k:Ρ)(s:Slt):qi Int->qj Slt:=λj=>if j=k then some s else f j
def ywb:HO->Bool
 | .ins _ _ _=>true
 | .dT _=>true
 |_=>false
def kI(k:Ρ):qi Key:=k.map Sum.inl
def yz3(k:Ρ):(kI k).map kV=k.map V.int:=by unfold kI;rw[bS];rfl
def ybu{j k:Ρ}(h:kI j=kI k):j=k:=by
 unfold kI at h
 induction j generalizing k with
 |nil =>
  cases k with
  |nil=>rfl
  |cons _ _=>cases h
 |cons x r ih =>
  cases k with
  |nil=>cases h
  |cons y s =>
   injection h with h1 h2;injection h1 with h1;rw[h1,ih h2]
def ynz(H:Hp)(d:x0):Prop:=∀kvs,H d=some (.dT kvs)->(kvs.map (·.1)).Nodup/\∀q∈kvs,∃k,q.1=kI k
def ynz.mv{H H':Hp}{d:x0}{kvs:qi (qi Key×V)}(h:ynz H d)(h1:H d=some (.dT kvs))(h2:H' d=some (.dT kvs)):ynz H' d:=λa e=>by
 rw[h2]at e;cases e;exact h kvs h1
def ynl{kvs:qi (qi Key×V)}{k:qi Key}(h:zn kvs k=none):k∉kvs.map (·.1):=λm=>by
 let⟨p,b,e⟩:=br.mp m;have a:=jb k kvs;rw[h]at a;exact List.any_eq_false.mp a p b (bv e)
def ynz.snoc{H':Hp}{d:x0}{kvs:qi (qi Key×V)}{k:Ρ}{v:V}(h:(kvs.map (·.1)).Nodup/\∀q∈kvs,∃k,q.1=kI k)(hn:zn kvs (kI k)=none)(h2:H' d=some (.dT (ń kvs (kI k) v))):ynz H' d:=λa e=>by
 rw[h2,Ð _ hn]at e;cases e;rw[bH];exists List.nodup_append.mpr ⟨h.1,cK.mpr ⟨List.not_mem_nil,List.nodup_nil⟩,λx b y f z=>?_⟩,λq c=>?_
 .rw[z,bF.mp f]at b;exact ynl hn b
 .rcases bP.mp c with w|w
  .exact h.2 q w
  .rw[bF.mp w];exists k,rfl
structure Û(a:Ads)(H:Hp)(p dx lk d:x0)(kd:Fin 3)(f:qi Int->qj Slt)(O:Ν)(m:Nat):Prop where
 me:H p=some (.ins a.Ab dx (ybq (.ref lk) (.ref d)))
 own:∀b,O b->∃o,H b=some o/\ywb o=true
 np:¬O p
 dO:O d
 ky:ynz H d
 tb:∃(kvs:qi (qi Key×V))(loc:qi Int->x0×x0),H d=some (.dT kvs)/\kvs.length<=m/\(∀k,f k=none->zn kvs (kI k)=none)/\
  (∀k s,f k=some s->zn kvs (kI k)=some (.ref (loc k).1)/\H (loc k).1=some (oS a (loc k).2 s)/\s.ok/\s.kind=kd/\O (loc k).1)/\(∀k j s t,f k=some s->f j=some t->(loc k).1=(loc j).1->k=j)
def ynx(O:Ν)(H H':Hp):Prop:=∀b o,H b=some o->¬O b->H' b=some o
section
variable{H H':Hp}{dx lk d:x0}{kd:Fin 3}{f:qi Int->qj Slt}{O:Ν}{m:Nat}
def Û.frame(h:Û a H p dx lk d kd f O m){O2:Ν}(B:ynx O2 H H')(dj:∀b,O b->¬O2 b)(hp:¬O2 p):Û a H' p dx lk d kd f O m:=by
 let⟨c,e,g,w,n,y,r⟩:=h.tb;exists B _ _ h.me hp,λb i=>?_,h.np,h.dO,h.ky.mv g (B _ _ g (dj _ h.dO)),c,e,B _ _ g (dj _ h.dO),w,n,λk s u=>?_,r
 .obtain⟨o,l,x⟩:=h.own b i;exists o,B _ _ l (dj b i),x
 .obtain⟨q,v,z,t,j⟩:=y k s u;exists q,B _ _ v (dj _ j),z,t,j
def Û.same(h:Û a H p dx lk d kd f O m)(S:yv H H'):Û a H' p dx lk d kd f O m:=h.frame (O2:=λZ=>False) (λb o e Z=>S b o e) (λZ Z z=>z) (λz=>z)
end
inductive j8(o:x0->Slt->HO)(g:Slt->Prop)(vs:Υ)(H:Hp)(Q:VK)(E':XK):Prop
 |mk(p dx:x0)(s:Slt)(_:vs=[.ref p])(_:g s)(_:H p=some (o dx s))(_:∀q dq H',H q=none->H' q=some (o dq s)->yv H H'->Q (.ref q) H')
def ysz{dx:x0}{s:Slt}{ta:TE}{σ:St}{H:Hp}{Q:VK}{E1 E2 E3:XK}(hta:∀Q':VK,Q' (.ref p) H->ta σ H Q')(hp:H p=some (oS a dx s))(h:∀q dq H',H q=none->H' q=some (oS a dq s)->yv H H'->Q (.ref q) H'):
  yn1 (Ł a.A6 "twin" (j8 (oS a) ywl) [] E1 ta ylf) (yn1 (Ł a.A5 "twin" (j8 (oS a) ywq) [] E2 ta ylf) (Ł a.Ad "twin" (j8 (oS a) ywk) [] E3 ta ylf)) σ H Q:=by
 cases s with
 |ev n o=>exact ŕ (Ī (hta _ ⟨p,dx,_,rfl,hp,yax,p,dx,.ev n o,rfl,trivial,hp,h⟩))
 |qk h0=>exact Õ (ŕ (Ī (hta _ ⟨p,dx,_,rfl,hp,Ų,p,dx,.qk h0,rfl,trivial,hp,h⟩)))
 |rn l n=>exact Õ (Õ (Ī (hta _ ⟨p,dx,_,rfl,hp,ycl,p,dx,.rn l n,rfl,trivial,hp,h⟩)))
def ä{H H1:Hp}{o o':HO}(nq:H q=none)(nd:H dq=none)(B:But q (upd (upd H dq o) q o') H1):yv H H1:=λb u e=>B b u (by rw[yk (yb e nq),yk (yb e nd)];exact e) (yb e nq)
open MixI
structure yg3(a:Ads)(p dx l:x0)(ws:Ρ)(H:Hp):Prop where
 o:H p=some (.ins a.Be dx (vcs (.ref l)))
 l:H l=some (.lst (ws.map V.int))
def yg3.same{dx l:x0}{ws:Ρ}{H H':Hp}(m:yg3 a p dx l ws H)(S:yv H H'):yg3 a p dx l ws H':=⟨S _ _ m.o,S _ _ m.l⟩
def va7{k:Nat}{cs:Ρ}(h:COk k cs){c:Int}(hm:c∈cs):Ch c:=⟨h.lo c hm,h.hi c hm⟩
def ypv{g:Int->Int->Int}{ws cs:Ρ}(h:cs.length=ws.length):(List.range (ws.map V.int).length).map (λi=>V.int (g ((ws[i]?).getD 0) ((cs[i]?).getD 0)))=(List.zipWith g ws cs).map V.int:=by rw[bf,<- yhp h,bS];rfl
def yd3{H:Hp}{xs ys:Υ}(h:H D=some (.lst xs))(e:xs=ys):H D=some (.lst ys):=e ▸ h
inductive yht(K:xr)(a:Ads)(vs:Υ)(H:Hp)(Q:VK)(E':XK):Prop
 |mk(p dx l c:x0)(ws cs:Ρ)(k:Nat)(_:vs=[.ref p,.ref c])(_:1<=k)(_:k<=6)(_:WOk k ws)(_:COk k cs)(_:yg3 a p dx l ws H)(_:SqL K H c (cs.map V.int))(_:∀H',yv H H'->Q (.int (ylc ws cs)) H')
inductive yhv(K:xr)(a:Ads)(C:x0)(vs:Υ)(H:Hp)(Q:VK)(E:XK):Prop
 |mk(p dx l c:x0)(ws cs:Ρ)(k:Nat)(x:V)(n:String)(_:vs=[.ref p,.ref c,x])(_:1<=k)(_:k<=6)(_:WOk k ws)(_:COk k cs)(_:yg3 a p dx l ws H)(_:SqL K H c (cs.map V.int))(_:ue K H x (.type n))(_:(∀b:Int,x=.int b->0<=b->b<=1->∀l' H',H l'=none->yg3 a p dx l' (lrn ws cs b) H'->But p H H'->Q .non H'))(_:(õ x=false->E (.ref C) none H))
inductive yqp(a:Ads)(vs:Υ)(H:Hp)(Q:VK)(E':XK):Prop
 |mk(p dx l:x0)(ws:Ρ)(_:vs=[.ref p])(_:yg3 a p dx l ws H)(_:∀r H',H r=none->H' r=some (.lst (ws.map V.int))->yv H H'->Q (.ref r) H')
inductive ylu(a:Ads)(vs:Υ)(H:Hp)(Q:VK)(E':XK):Prop
 |mk(p dx:x0)(k:Nat)(_:vs=[.ref p,.int k])(_:1<=k)(_:k<=6)(_:H p=some (.ins a.Be dx []))(_:∀l H',H l=none->yg3 a p dx l (List.replicate k 1099511627776) H'->But p H H'->Q .non H')
def yk9:V->Bool
 | .str s=>inV (.str s) [V.str "even",V.str "quick",V.str "run"]
 |_=>false
def plV:V->Bool
 | .int i=>decide (1<=i) && decide (i<=8)
 |_=>false
def ltV:V->V->Bool
 | .int i,.int j=>decide (i<j)
 |_,_=>false
def vfa(xs:Υ):Bool:=(List.zipWith ltV xs xs.tail).all id
def jv(xs:Υ):Bool:=decide (xs.length<=4) && xs.all plV && vfa xs
def PlB(K:xr)(H:Hp)(x:V)(b:Bool):Prop:=(∃n,ue K H x (.type n)/\n≠"tuple"/\b=false)\/∃t xs,x=.ref t/\H t=some (.tup xs)/\xs.length<=1000/\(∀y∈xs,∃n:String,ue K H y (.type n))/\b=jv xs
def LkB(K:xr)(H:Hp)(x:V)(b:Bool):Prop:=(∃n,ue K H x (.type n)/\n≠"tuple"/\b=false) \/
 ∃t xs,x=.ref t/\H t=some (.tup xs)/\((xs.length≠2/\b=false)\/∃y z n,xs=[y,z]/\ue K H y (.type n)/\((yk9 y=false/\b=false)\/(yk9 y=true/\PlB K H z b)))
def PlB.same{H H':Hp}{x:V}{b:Bool}(h:PlB K H x b)(S:yv H H'):PlB K H' x b:=by
 rcases h with⟨n,t,g,e⟩|⟨t,a,e,i,j,f,d⟩
 .exact .inl ⟨n,Ř S t,g,e⟩
 .exact .inr ⟨t,a,e,S _ _ i,j,λy c=>let ⟨n,z⟩:=f y c;⟨n,Ř S z⟩,d⟩
theorem LkB.same{H H':Hp}{x:V}{b:Bool}(h:LkB K H x b)(S:yv H H'):LkB K H' x b:=by
 rcases h with⟨n,t,i,e⟩|⟨t,a,e,j,h⟩
 .exact .inl ⟨n,Ř S t,i,e⟩
 .refine .inr ⟨t,a,e,S _ _ j,?_⟩;rcases h with h|⟨y,z,n,f,g,h⟩
  .exact .inl h
  .refine .inr ⟨y,z,n,f,Ř S g,?_⟩;rcases h with h|⟨c,d⟩
   .exact .inl h
   .exact .inr ⟨c,d.same S⟩
def ú{H:Hp}{x:V}{n:String}(ty:ue K H x (.type n)):W.kitOne K (.type n) (.type "tuple")=some (decide (n="tuple")):=by cases ty<;>rfl
def yd4{H:Hp}{x:V}{n:String}(ty:ue K H x (.type n)):W.kitOne K (.type n) (.type "str")=some (decide (n="str")):=by cases ty<;>rfl
def yel{H:Hp}{x:V}{n:String}(ty:ue K H x (.type n)):W.kitOne K (.type n) (.type "list")=some (decide (n="list")):=by cases ty<;>rfl
def yrm{xs:Υ}{y:V}(h:xs.tail[i]?=some y):xs[i+1]?=some y:=by
 cases xs with
 |nil=>simp at h
 |cons x r=>simpa using h
def yhn(xs:Υ):(List.range xs.tail.length).map (λi=>V.bl (ltV ((xs[i]?).getD .non) ((xs.tail[i]?).getD .non)))=(List.zipWith ltV xs xs.tail).map V.bl:=by
 apply List.ext_getElem
 .rw[bf,bV,bf,List.length_zipWith,List.length_tail];omega
 .intro i a c;rw[bf,bV]at a;have b:i<xs.length:=by rw[List.length_tail]at a;omega
  rw[cL,List.getElem_range,cL,List.getElem_zipWith,bi a,bi b];rfl
def yjc{t u:x0}{xs:Υ}{te:TE}{fr:St}{R:Hp->Prop}{H1:Hp}(hint:∀y∈xs,∃i:Int,y=.int i)(hl:xs.length<=1000)(ht:SqT K H1 t xs)(hu:SqT K H1 u xs.tail)(hD:H1 D=none)
  (hte:∀(i j:Int)(σ':St)(H':Hp)(Q':VK),Q' (.bl (decide (i<j))) H'->te (some (.int i)::some (.int j)::σ') H' Q') (hR:∀H,yv H1 H->H D=some (.lst ((List.zipWith ltV xs xs.tail).map V.bl))->R H):
  ju (vcq K t u) (ywh K 2 (zi (w9 0) (zi (w9 1) yla))) te 2 fr D R H1:=by
 refine ycv (m:=xs.tail.length) (λi=>V.bl (ltV ((xs[i]?).getD .non) ((xs.tail[i]?).getD .non))) ht hu (by rw[List.length_tail];omega) (bn _) (.inr (bn _)) hD (λi x y h l w z p r k a g e=>?_) (λh k a=>?_)
 .obtain⟨v,s,rfl⟩:=ykn e;let⟨c,rfl⟩:=hint x (bB p);let⟨d,rfl⟩:=hint y (bB (yrm r));have n:=k.trans (y7 (o:=HO.tup [V.int c,V.int d]) g);have f:=za (o':=HO.tup [V.int c,V.int d]) g a;have b:upd h l (HO.tup [V.int c,V.int d]) l=some (.tup [V.int c,V.int d]):=ya;generalize upd h l (HO.tup [V.int c,V.int d])=q at n f b;refine Į (SqT.of b) rfl ?_;show zi (w9 0) (zi (w9 1) yla) [V.int c,V.int d] (v::s::fr) q _;ext;exists⟨[some (.int c),some (.int d)],rfl,rfl⟩,?_;refine hte c d fr q _ ?_;refine Mp.doneR hD (ve (by rw[List.length_tail];omega)) z n f ?_;rw[p,r];rfl
 .exact hR h k (by rw[<- yhn];exact a)
def yrw(xs:Υ):ydm xs (some 1) none=xs.tail:=by
 unfold ydm
 have e:HT.sIx xs.length 0 (some 1)=min 1 xs.length:=by
  have:=HT.sIx_nat xs.length 0 1;simpa using this
 rw[HT.sIx_none,e]
 cases xs with
 |nil=>rfl
 |cons x r=>simp
def yl1{n:Nat}(bs:qi Bool)(h:n=bs.length):(List.range n).map (λi=>V.bl ((bs[i]?).getD false))=bs.map V.bl:=by
 subst h;apply List.ext_getElem
 .rw[bf,bV,bf]
 .intro i a b;rw[bf,bV]at a;rw[cL,List.getElem_range,cL,bi a];rfl
def ve9(K:xr)(H:Hp)(xs:Υ)(bs:qi Bool):Prop:=xs.length=bs.length/\∀(i:Nat)(y:V)(b:Bool),xs[i]?=some y->bs[i]?=some b->LkB K H y b
def LkG(H:Hp)(v:V)(kd:Fin 3)(tp:x0)(ps:Ρ):Prop:=∃lk,v=.ref lk/\H lk=some (.tup [.str (kdS kd),.ref tp])/\H tp=some (.tup (ps.map V.int))/\jv (ps.map V.int)=true
def LkG.same{H H':Hp}{v:V}{kd:Fin 3}{tp:x0}{ps:Ρ}(h:LkG H v kd tp ps)(S:yv H H'):LkG H' v kd tp ps:=by let⟨a,e,c,d,b⟩:=h;exists a,e,S _ _ c,S _ _ d,b
def ytg(kd:Fin 3):yk9 (.str (kdS kd))=true:=by
 match kd with
 |0=>rfl
 |1=>rfl
 |2=>rfl
def ygb{xs:Υ}(h:jv xs=true):xs.length<=4:=by unfold jv at h;rw[bW,bW]at h;exact of_decide_eq_true h.1.1
def LkG.tells{H:Hp}{v:V}{kd:Fin 3}{tp:x0}{ps:Ρ}(h:LkG H v kd tp ps):LkB K H v true:=by let⟨c,e,d,f,a⟩:=h;have:=ygb a;refine .inr ⟨c,_,e,d,.inr ⟨_,_,"str",rfl,.str _,.inr ⟨ytg kd,.inr ⟨tp,_,rfl,f,by omega,λy b=>?_,a.symm⟩⟩⟩⟩;let⟨i,_,rfl⟩:=br.mp b;exists _,.int i
theorem yo1:∀{ps:Ρ},ps.Pairwise (· < ·)->vfa (ps.map V.int)=true
 |[],_=>rfl
 |[_],_=>rfl
 |p::q::r,h=>by
  have b:p<q:=(List.pairwise_cons.mp h).1 q (by simp);have a:=yo1 (List.pairwise_cons.mp h).2;unfold vfa at a⊢;simp only[bU,List.tail_cons,List.zipWith_cons_cons,List.all_cons]at a⊢;rw[show ltV (V.int p) (V.int q)=true from bv b];simpa using a
def yhc{ps:Ρ}(h1:ps.length<=4)(h2:∀p∈ps,1<=p/\p<=8)(h3:ps.Pairwise (· < ·)):jv (ps.map V.int)=true:=by unfold jv;rw[bf,bv h1,yo1 h3,Bool.true_and,Bool.and_true,List.all_eq_true];intro y b;let⟨i,a,rfl⟩:=br.mp b;have:=h2 i a;show (decide (1<=i) && decide (i<=8))=true;rw[bv this.1,bv this.2];rfl
def Lks(H:Hp)(xs:Υ):Prop:=∀y∈xs,∃kd tp ps,LkG H y kd tp ps
def Lks.bs{H:Hp}{xs:Υ}(h:Lks H xs):ve9 K H xs (List.replicate xs.length true):=by
 exists by rw[cG],λi y b c d=>?_
 have a:b=true:=cC (bB d);let⟨f,g,e,z⟩:=h y (bB c);rw[a];exact z.tells
def yjm(n:Nat):(List.replicate n true).all id=true:=by simp
def vf1(K:xr)(H:Hp)(x:V):Prop:=(∃n,ue K H x (.type n)/\n≠"list")\/∃l xs bs,x=.ref l/\H l=some (.lst xs)/\xs.length<=1000/\ve9 K H xs bs/\¬(1<=xs.length/\xs.length<=6/\bs.all id=true)
theorem LkG.upd{H:Hp}{v:V}{kd:Fin 3}{tp l:x0}{ps:Ρ}{xs ys:Υ}(h:LkG H v kd tp ps)(hl:H l=some (.lst xs)):LkG (L2.upd H l (.lst ys)) v kd tp ps:=by let⟨c,e,a,b,d⟩:=h;exists c,e,yf (wz a hl (by intro z;cases z)) a,yf (wz b hl (by intro z;cases z)) b,d
def upN{α:Type}(g:Nat->α)(n:Nat)(x:α):Nat->α:=λj=>if j=n then x else g j
def wo{α:Type}{g:Nat->α}{n:Nat}{x:α}:upN g n x n=x:=if_pos rfl
def wj{α:Type}{g:Nat->α}{n:Nat}{x:α}(h:j<n):upN g n x j=g j:=if_neg (by omega)
def yrb(c:Int):∃kk:Fin 3,atI [V.str "even",V.str "quick",V.str "run"] (c%3)=some (V.str (kdS kk)):=by
 have a:0<=c%3:=cr _ (by decide);have b:c%3<3:=ci _ (by decide);generalize c%3=z at a b;obtain rfl|rfl|rfl:z=0\/z=1\/z=2:=by omega
 .exact⟨0,rfl⟩
 .exact⟨1,rfl⟩
 .exact⟨2,rfl⟩
def ux(H:Hp)(n:Nat)(lk:Μ)(kd:Ξ)(tp:Μ)(ps:Λ):Prop:=∀i,i<n->LkG H (.ref (lk i)) (kd i) (tp i) (ps i)
theorem ux.same{H H':Hp}{n:Nat}{lk:Μ}{kd:Ξ}{ps:Λ}(h:ux H n lk kd tp ps)(S:yv H H'):ux H' n lk kd tp ps:=λi a=>(h i a).same S
structure Sd(K:xr)(H:Hp)(v:V)(d:PyData)(k:Nat):Prop where
 rd:RdV K H v d
 lay:d.canLay0=true
 dep:d.depth<=k
 eq:PyData.eqv d d=true
structure Sds(K:xr)(H:Hp)(xs:Υ)(ds:qi PyData)(k:Nat):Prop where
 rd:yqn K H xs ds
 lay:PyData.canLayAll0 ds=true
 dep:PyData.depthAll ds<=k
 eq:PyData.eqvAll ds ds=true
theorem Sd.int{H:Hp}(i:Int){k:Nat}:Sd K H (.int i) (.int i) k:=⟨.int i,by simp[PyData.canLay0],by simp[PyData.depth],by simp[PyData.eqv]⟩
theorem Sds.nil{H:Hp}{k:Nat}:Sds K H [] [] k:=⟨.nil,rfl,bK _,by simp[PyData.eqvAll]⟩
theorem Sds.cons{H:Hp}{v:V}{d:PyData}{xs:Υ}{ds:qi PyData}{k:Nat}(h:Sd K H v d k)(r:Sds K H xs ds k):Sds K H (v::xs) (d::ds) k:=by
 exists .cons h.rd r.rd,by simp[PyData.canLayAll0,h.lay,r.lay],?_,by simp[PyData.eqvAll,h.eq,r.eq]
 have a:=h.dep;have b:=r.dep;simp only[PyData.depthAll];omega
def Sds.ints{H:Hp}(ns:Ρ){k:Nat}:Sds K H (ns.map V.int) (ns.map PyData.int) k:=⟨Ë ns,π ns,by rw[Ü];exact bK _,by rw[z8,bv rfl]⟩
theorem Sd.lst{H:Hp}{xs:Υ}{ds:qi PyData}{k:Nat}(h:SqL K H p xs)(r:Sds K H xs ds k):Sd K H (.ref p) (.list ds) (k+1):=by
 exists .lst h r.rd,by simp[PyData.canLay0,r.lay],?_,by simp[PyData.eqv,r.eq]
 have a:=r.dep;simp only[PyData.depth];omega
theorem Sd.tup{H:Hp}{xs:Υ}{ds:qi PyData}{k:Nat}(h:SqT K H p xs)(r:Sds K H xs ds k):Sd K H (.ref p) (.tuple ds) (k+1):=by
 exists .tup h r.rd,by simp[PyData.canLay0,r.lay],?_,by simp[PyData.eqv,r.eq]
 have a:=r.dep;simp only[PyData.depth];omega
def vdl{g:Bool->Bool}{H:Hp}{Q:VK}{x y:V}{d:PyData}{k:Nat}(h1:Sd K H x d k)(h2:Sd K H y d k)(hk:k<=60)(h:Q (.bl (g true)) H):ywm K g x y H Q:=by
 have a:SeqAt.shaped d=true:=by
  unfold SeqAt.shaped;rw[bW];exists h1.lay,bv (by have:=h1.dep;omega)
 exists d,d,h1.rd,h2.rd,a,a,by rw[h1.eq];exact h
local macro_rules | `(#synth $n:ident $a $b)=>`(theorem $n : yi $a $a (ye $b):=wl (by decide +kernel)) | `(#synth $n:ident $a $b $c)=>`(theorem $n : yi $a $b (ye $c):=wl (by decide +kernel))
#synth vdz ["thing"] vey
inductive yc3(K:xr)(vs:Υ)(H:Hp)(Q:VK)(E':XK):Prop
 |mk(x n:_)(_:vs=[x])(_:ue K H x (.type n))(_:Q (.bl (ε x)) H)
variable(T:Txt K mg a)
def yk6:vz P w K mg Γ CX0 1 a.Q1 a.Qa ["thing"] (yc3 K):=by
 exists T.Gv.F.ok,vdz,g;let⟨x,n,rfl,b,k⟩:=h;exists 1,0,yc (yq (zz (pcB wv T.A7 (pac (pv 0) (pa1 (jx (T:="int") rfl T.Om (by right))))) (Ö (yz1 (pcB wv T.A7 (pac (pv 0) (pa1 (jx (T:="bool") rfl T.Ic (by right)))))))));refine ó b (yr0 b) ?_;ext
 cases hx:ypc x with
 |false =>
  have e:ε x=false:=by
   cases x<;>first|rfl|cases hx
  rw[e]at k;exact ĳ k
 |true =>
  have e:ε x=!yjl x:=by
   cases x<;>first|rfl|cases hx
  rw[e]at k;refine Ń ?_;ext;refine ó b (ymi b) ?_;ext;exact k
#synth vdy ["thing"] veu
inductive yim(K:xr)(vs:Υ)(H:Hp)(Q:VK)(E':XK):Prop
 |mk(x n:_)(_:vs=[x])(_:ue K H x (.type n))(_:Q (.bl (õ x)) H)
def vdk:vz P w K mg Γ CX0 2 a.Q2 a.Qc ["thing"] (yim K):=by
 exists T.Qk.F.ok,vdy,f;let⟨x,n,rfl,j,k⟩:=h;exists 1,0,yc (yq (zz (uh (yk6 T) f.m T.Gv (pa1 (pv 0))) (Ö (Í jg jg yg (pv 0) yg))));exists x,n,rfl,j,?_;ext
 cases hx:ε x with
 |false =>
  have e:õ x=false:=by
   cases x<;>first|rfl|cases hx
  rw[e]at k;exact ĳ k
 |true =>
  let⟨i,rfl⟩:=zv hx;refine Ń ?_;ext;refine ur (λc=>?_) (λc=>?_)
  .ext;have e:õ (.int i)=decide (i<=1):=by simp[õ,c]
   rw[e]at k;exact k
  .have e:õ (.int i)=false:=by simp[õ,c]
   rw[e]at k;exact k
#synth vea ["thing"] vfb
inductive ya5(K:xr)(vs:Υ)(H:Hp)(Q:VK)(E':XK):Prop
 |mk(x n:_)(_:vs=[x])(_:ue K H x (.type n))(_:Q (.bl (chV x)) H)
def veh:vz P w K mg Γ CX0 2 a.Q3 a.Qd ["thing"] (ya5 K):=by
 exists T.Ql.F.ok,vea,f;let⟨x,n,rfl,j,k⟩:=h;exists 1,0,yc (yq (zz (uh (yk6 T) f.m T.Gv (pa1 (pv 0))) (Ö (Í jg jg (vk rfl T.De) (pv 0) (ym zx (vk rfl T.Cd) (vk rfl T.De))))));exists x,n,rfl,j,?_;ext
 cases hx:ε x with
 |false =>
  have e:chV x=false:=by
   cases x<;>first|rfl|cases hx
  rw[e]at k;exact ĳ k
 |true =>
  let⟨i,rfl⟩:=zv hx;refine Ń ?_;ext;refine ur (λc=>?_) (λc=>?_)
  .ext;have e:chV (.int i)=decide (i<=16777216-32768):=by simp[chV,c]
   rw[e]at k;exact k
  .have e:chV (.int i)=false:=by simp[chV,c]
   rw[e]at k;exact k
#synth vd9 ["thing"] vet
inductive ygk(K:xr)(vs:Υ)(H:Hp)(Q:VK)(E':XK):Prop
 |mk(x n:_)(_:vs=[x])(_:ue K H x (.type n))(_:Q (.bl (sgV x)) H)
def vd2:vz P w K mg Γ CX0 2 a.Q4 a.Qe ["thing"] (ygk K):=by
 exists T.Qm.F.ok,vd9,f;let⟨x,n,rfl,j,k⟩:=h;exists 1,0,yc (yq (zz (uh (yk6 T) f.m T.Gv (pa1 (pv 0))) (Ö (Í jg jg yg (pv 0) yg))));exists x,n,rfl,j,?_;ext
 cases hx:ε x with
 |false =>
  have e:sgV x=false:=by
   cases x<;>first|rfl|cases hx
  rw[e]at k;exact ĳ k
 |true =>
  let⟨i,rfl⟩:=zv hx;refine Ń ?_;ext;refine ur (λc=>?_) (λc=>?_)
  .ext;have e:sgV (.int i)=decide (i<=255):=by simp[sgV,c]
   rw[e]at k;exact k
  .have e:sgV (.int i)=false:=by simp[sgV,c]
   rw[e]at k;exact k
#synth vd8 ["thing","most"] ve6
inductive yxb(K:xr)(vs:Υ)(H:Hp)(Q:VK)(E':XK):Prop
 |mk(x n m:_)(_:vs=[x,.int m])(_:ue K H x (.type n))(_:((Bad K H x n m/\∀H',yv H H'->Q (.bl false) H')\/∃xs,vcu K H x xs m/\∀H',yv H H'->Q (.bl true) H'))
def vci:vz P w K mg Γ CX0 3 a.Q5 a.Qf ["thing","most"] (yxb K):=by
 exists T.P3.F.ok,vd8,R;let⟨x,n,m,rfl,v,h⟩:=h
 have r:(n≠"list"/\∀d,yv H d->Q (.bl false) d)\/∃p xs,x=.ref p/\H p=some (.lst xs)/\ynw K H xs/\xs.length<=100000/\∀d,yv H d->Q (.bl (decide ((xs.length:Int)<=m) && xs.all sgV)) d:=by
  rcases h with⟨h|⟨p,xs,e,c,t,j,L⟩,k⟩|⟨xs,⟨p,e,c,t,j,L⟩,k⟩
  .exact .inl ⟨h,k⟩
  .exact .inr ⟨p,xs,e,c,t,j,λd S=>by rw[L];exact k d S⟩
  .exact .inr ⟨p,xs,e,c,t,j,λd S=>by rw[L];exact k d S⟩
 exists 2,0,yc (yq (zz (pcB wv T.A7 (pac (pv 0) (pa1 (jx (T:="list") rfl T.Af (by right))))) (zz (xv jg (pcB yp T.Aa (pa1 (pv 0))) (pv 1) (yx _)) (Ö (pcB (j5 rfl) T.Da (pa1 (wb (js:=[]) (ys:=[]) rfl (vx (pv 0)) (λC Z H2 Y=>(uh (vd2 T) R.m T.Qm (pa1 (pv 0)))) rfl rfl (hyc:=yt) (hrel:=yt))))))));refine ó v (yrp v) ?_;ext;rcases r with⟨B,k⟩|⟨p,xs,rfl,c,U,j,k⟩
 .refine ydj B ?_;ext;exact k _ (yv.refl _)
 .have B:n="list":=by
   cases v with
   |lst e=>rfl
   |frz e=>rfl
   |tup e=>rw[c]at e;cases e
   |dK e=>rw[c]at e;cases e
   |dT e=>rw[c]at e;cases e
  refine yam B ?_;ext;refine x5 (SqL.of c) ?_;ext;refine ur (λJ=>?_) (λJ=>?_)
  .rw[bv J,Bool.true_and]at k;ext;exists p,rfl,⟨_,SqL.of c⟩,λD u=>?_;have nD:p≠D:=yb c u;refine ul (K:=K) (a:=p) (xs:=xs) (λi g=>g D=some (.lst (((xs.take i).map sgV).map V.bl))/\yv H g)
    ⟨ya,y7 u⟩ (λi g F q=>SqL.of (q.2 _ _ c)) ?_ ?_
   .rintro i y g N M ⟨f,l⟩;ext;let⟨W,G⟩:=U y (bB N);exists y,W,rfl,Ř l G,?_;refine we f (by rw[bf,bf,bI];exact yly (by omega)) M ⟨ya.trans ?_,λb o e=>yf (λz=>?_) (l _ _ e)⟩
    .rw[List.take_succ,N];simp
    .subst z;rw[u]at e;cases e
   .rintro g ⟨f,l⟩;ext;exists D,_,rfl,SqL.of f,?_;rw[cn (bn _),List.all_map];exact k _ l
  .rw[bD J,Bool.false_and]at k;ext;exact k _ (yv.refl _)
#synth vd6 ["thing"] ves
def ygr:vz P w K mg Γ (CXe P w) 4 a.Q6 a.Qg ["thing"] (ņ K a.Gr 1000):=by
 exists T.Fo.F.okE,vd6,i;let⟨x,n,rfl,q,h⟩:=h;exists 1,0,yd (wa (xn (xo (uh (vci T) i.m T.P3 (pac (pv 0) (pa1 (vk rfl T.Cy)))))) (yc (xb rfl T.U1 T.Rh (pa1 wy))) y6) (yc (yq (pcT w6 T.Af (pa1 (pv 0)))));exists x,n,_,rfl,q,?_;rcases h with⟨l,k⟩|⟨e,f,k⟩
 .refine .inl ⟨l,λj b=>?_⟩;ext;exists by walk_at "len",k _ b
 .refine .inr ⟨e,f,λj b=>?_⟩;let⟨p,rfl,t,_⟩:=f;ext;exists p,e,rfl,.inl (SqL.of (b _ _ t)),λr c=>?_;exact k r _ (b.free c) ya (b.trans (y7 c))
#synth vdj ["thing"] ve7
def vck:vz P w K mg Γ (CXe P w) 4 a.Q7 a.Qh ["thing"] (ņ K a.Ff 12000):=by
 exists T.P4.F.okE,vdj,i;let⟨x,n,rfl,q,h⟩:=h;exists 1,0,yd (wa (xn (xo (uh (vci T) i.m T.P3 (pac (pv 0) (pa1 (vk rfl T.Fx)))))) (yc (xb rfl T.U5 T.Ri (pa1 wy))) y6) (yc (yq (pcT w6 T.Af (pa1 (pv 0)))));exists x,n,_,rfl,q,?_;rcases h with⟨l,k⟩|⟨e,f,k⟩
 .refine .inl ⟨l,λj b=>?_⟩;ext;exists by walk_at "len",k _ b
 .refine .inr ⟨e,f,λj b=>?_⟩;let⟨p,rfl,t,_⟩:=f;ext;exists p,e,rfl,.inl (SqL.of (b _ _ t)),λr c=>?_;exact k r _ (b.free c) ya (b.trans (y7 c))
#synth ven ["thing"] vex
def ywe:V->Bool
 | .int i=>decide (0<=i) && decide (i<=1000)
 |_=>false
def ypm{m:Nat}(h:m<=1000):ywe (.int m)=true:=by show (decide ((0:Int)<=m) && decide ((m:Int)<=1000))=true;rw[bv (by omega),bv (by omega)];rfl
inductive yl0(K:xr)(C:x0)(vs:Υ)(H:Hp)(Q:VK)(E:XK):Prop
 |mk(x n:_)(_:vs=[x])(_:ue K H x (.type n))(_:(ywe x=true->Q .non H))(_:(ywe x=false->E (.ref C) none H))
def vcb:vz P w K mg Γ (CXe P w) 2 a.Q8 a.Qi ["thing"] (yl0 K a.Az):=by
 exists T.P5.F.okE,ven,k;let⟨x,n,rfl,o,j,f⟩:=h;exists 1,0,yc (wa (PW.pt (ı (xn (xo (uh (yk6 T) k.m T.Gv (pa1 (pv 0))))) (ð (xn (yaa jg jg yg (pv 0) (vk rfl T.Cy)))))) (yc (xb rfl T.Pi T.Ea (pa1 wy))) y6);exists x,n,rfl,o,?_;ext
 cases hx:ε x with
 |false =>
  have e:ywe x=false:=by
   cases x<;>first|rfl|cases hx
  ext;exists by walk_at "len",f e
 |true =>
  let⟨i,rfl⟩:=zv hx;ext;refine ur (λc=>?_) (λc=>?_)
  .ext;refine yql (λd=>?_) (λd=>?_)
   .ext;exact j (by simp[ywe,c,d])
   .ext;exists by walk_at "len",f (by simp[ywe,d])
  .ext;exists by walk_at "len",f (by simp[ywe,c])
#synth vdg ["thing"] vew
inductive Ć(K:xr)(C:x0)(vs:Υ)(H:Hp)(Q:VK)(E:XK):Prop
 |mk(x n:_)(_:vs=[x])(_:ue K H x (.type n))(_:(chV x=true->Q .non H))(_:(chV x=false->E (.ref C) none H))
def yvr:vz P w K mg Γ (CXe P w) 3 a.Q9 a.Qj ["thing"] (Ć K a.Dl):=by
 exists T.Oo.F.okE,vdg,e;let⟨x,n,rfl,g,d,i⟩:=h;exists 1,0,yc (wa (xn (xo (uh (veh T) e.m T.Ql (pa1 (pv 0))))) (yc (xb rfl T.U7 T.Rj (pa1 wy))) y6);exists x,n,rfl,g,?_;ext
 cases hx:chV x with
 |false =>
  ext;exists by walk_at "len",i hx
 |true =>
  ext;exact d hx
#synth yxa ["thing"] yty
inductive ya1(K:xr)(C:x0)(vs:Υ)(H:Hp)(Q:VK)(E:XK):Prop
 |mk(x n:_)(_:vs=[x])(_:ue K H x (.type n))(_:(õ x=true->Q .non H))(_:(õ x=false->E (.ref C) none H))
def ĩ:vz P w K mg Γ (CXe P w) 3 a.Io a.L1 ["thing"] (ya1 K a.Bx):=by
 exists T.Cl.F.okE,yxa,e;let⟨x,n,rfl,g,d,i⟩:=h;exists 1,0,yc (wa (xn (xo (uh (vdk T) e.m T.Qk (pa1 (pv 0))))) (yc (xb rfl T.U8 T.Rk (pa1 wy))) y6);exists x,n,rfl,g,?_;ext
 cases hx:õ x with
 |false =>
  ext;exists by walk_at "len",i hx
 |true =>
  ext;exact d hx
#synth vbe ["chance","bit"] yum
inductive ylt(K:xr)(C D:x0)(vs:Υ)(H:Hp)(Q:VK)(E:XK):Prop
 |mk(x n y m:_)(_:vs=[x,y])(_:ue K H x (.type n))(_:ue K H y (.type m))(_:(chV x=false->E (.ref C) none H))(_:(chV x=true->õ y=false->E (.ref D) none H))(_:(∀c b,x=.int c->y=.int b->chV x=true->õ y=true->Q (.int (gvv c b)) H))
def vai:vz P w K mg Γ (CXe P w) 4 a.Ip a.L6 ["chance","bit"] (ylt K a.Dl a.Bx):=by
 exists T.Nw.F.okE,vbe,g;let⟨x,n,y,m,rfl,o,r,l,t,p⟩:=h;exists 2,0,yd (yw (x3 (yvr T) g.m T.Oo yz (pa1 (pv 0)))) (yd (yw (x3 (ĩ T) g.m T.Cl yz (pa1 (pv 1)))) (yc (yq (Ó (yr xq (pv 1) yg (yx _)) (pv 0) (ym zx (vk rfl T.Cd) (pv 0))))));exists x,n,rfl,o,λe=>?_,l;ext;exists y,m,rfl,r,λi=>?_,t e;let⟨c,rfl,v,u⟩:=yc5 e;let⟨b,rfl,B,z⟩:=ydp i;ext;have k:=p c b rfl rfl e i;unfold gvv at k;refine ur (λf=>?_) (λf=>?_)
 .rw[if_pos f]at k;ext;exact k
 .rw[if_neg f]at k;ext;exact k
#synth yzy ["self"] ytr
def ypk:vz P w K mg Γ CX0 1 a.Gf a.L7 ["self"] (yab a.A6 (zy (.int 0) (.int 0))):=by exists T.Dn.F.ok,yzy,f;let⟨p,d,rfl,g,k⟩:=h;exists 1,0,yd (y9 (pv 0) yg rfl) (yc (y9 (pv 0) yg rfl));exact k _ ya (But.upd.trans But.upd)
#synth yy0 ["self"] yuz
def yyp:vz P w K mg Γ CX0 1 a.Iq a.L8 ["self"] (u6 (oS a) ywl):=by
 exists T.Gw.F.ok,yy0,m;let⟨p,c,g,rfl,d,j,e,k⟩:=h
 cases g with
 |ev n o =>
  let⟨r,q,l⟩:=j;have e:H p=some (.ins a.A6 c (zy (.int n) (.int o))):=e;exists 1,0,yc (yq (ym vd (ym wq (ym wc (ym wq yg (yn (pv 0) rfl)) yg) (vk rfl T.Cd)) (ym wc (ym wq yg (ym wc (yn (pv 0) rfl) (yn (pv 0) rfl))) yg)));exact k
 |qk _=>exact d.elim
 |rn _ _=>exact d.elim
#synth yx0 ["self","bit"] yvj
def yyt:vz P w K mg Γ (CXe P w) 4 a.Ir a.L9 ["self","bit"] (j6 K (oS a) ywl a.Bx):=by
 exists T.Gy.F.okE,yx0,l;let⟨p,g,t,x,v,rfl,i,D,f,y,z,C⟩:=h
 cases t with
 |ev n o =>
  let⟨J,G,I⟩:=D;have f:H p=some (.ins a.A6 g (zy (.int n) (.int o))):=f;exists 2,0,yd (yw (x3 (ĩ T) l.m T.Cl yz (pa1 (pv 1)))) (yd (wa (yr xq (pv 1) yg (yx _)) (yc (y9 (pv 0) (ym wc (yn (pv 0) rfl) yg) rfl)) (yc (y9 (pv 0) (ym wc (yn (pv 0) rfl) yg) rfl))) (yc (wa (yr yb5 (ym wc (yn (pv 0) rfl) (yn (pv 0) rfl)) (vk rfl T.Ce) (yx _)) (yd (y9 (pv 0) (ym vd (ym wc (yn (pv 0) rfl) yg) yg) rfl) (yc (y9 (pv 0) (ym vd (ym wc (yn (pv 0) rfl) yg) yg) rfl))) y6)));exists x,v,rfl,y,λr=>?_,C;let⟨b,rfl,q,u⟩:=ye7 r;have k:=z b rfl q u;unfold Slt.see at k;dsimp only at k;ext;refine ur (λe=>?_) (λe=>?_)
  .rw[if_pos e]at k;unfold ydi at k;ext;refine ur (λc=>?_) (λc=>?_)
   .rw[if_pos c]at k;ext;exact k _ ya ((But.upd.trans But.upd).trans But.upd)
   .rw[if_neg c]at k;ext;exact k _ ya But.upd
  .rw[if_neg e]at k;unfold ydi at k;ext;refine ur (λc=>?_) (λc=>?_)
   .rw[if_pos c]at k;ext;exact k _ ya ((But.upd.trans But.upd).trans But.upd)
   .rw[if_neg c]at k;ext;exact k _ ya But.upd
 |qk _=>exact i.elim
 |rn _ _=>exact i.elim
#synth ypg ["self","made"] ["self"] yv7
def yzt:vz P w K mg Γ CX0 3 a.Is a.La ["self"] (j8 (oS a) ywl):=by
 exists T.Gz.F.ok,ypg,z;let⟨p,v,s,rfl,x,d,k⟩:=h
 cases s with
 |qk _=>exact x.elim
 |rn _ _=>exact x.elim
 |ev n o =>
 have d:H p=some (.ins a.A6 v (zy (.int n) (.int o))):=d;exists 1,1,yd (yo (i:=1) ypg.nd rfl (Or.inl rfl) (zj T.P9 (ypk T) z.m rfl T.P8 T.Dn.B .nil v7)) (yd (y9 (pv 1) (yn (pv 0) rfl) rfl) (yd (y9 (pv 1) (yn (pv 0) rfl) rfl) (yc (yq (pv 1)))));intro q l c j L;exists q,l,rfl,ya,λJ C D=>⟨rfl,?_⟩;have t:=ä c j D;have r:=t _ _ d;have g:p≠q:=yb d c;ext;have I:=yf (o':=HO.ins a.A6 l (zy (.int n) (.int 0))) g r;ext;exact k q l _ c ya λb u e=>yf (yb e c) (yf (yb e c) (t _ _ e))
#synth yyv ["self"] yu0
def ypl:vz P w K mg Γ CX0 1 a.Gg a.Lb ["self"] (yab a.A5 (u9 (.int 8388608))):=by exists T.Do.F.ok,yyv,f;let⟨p,d,rfl,g,k⟩:=h;exists 1,0,yc (y9 (pv 0) (ym vd (vk rfl T.Cd) yg) rfl);exact k _ ya But.upd
#synth vac ["self"] yur
def yzi:vz P w K mg Γ CX0 1 a.Iu a.Lc ["self"] (u6 (oS a) ywq):=by
 exists T.Ha.F.ok,vac,j;let⟨p,c,g,rfl,d,l,e,k⟩:=h
 cases g with
 |qk h0 =>
  have e:H p=some (.ins a.A5 c (u9 (.int h0))):=e;exists 1,0,yc (yq (yn (pv 0) rfl));exact k
 |ev _ _=>exact d.elim
 |rn _ _=>exact d.elim
#synth yjs ["self","bit","moved"] ["self","bit"] yu8
def va0:vz P w K mg Γ (CXe P w) 4 a.Iv a.Ld ["self","bit"] (j6 K (oS a) ywq a.Bx):=by
 exists T.Hb.F.okE,yjs,l;let⟨p,f,r,x,u,rfl,g,C,e,v,y,B⟩:=h
 cases r with
 |qk h0 =>
  let⟨G,D⟩:=C;have e:H p=some (.ins a.A5 f (u9 (.int h0))):=e;exists 2,1,yd (yw (x3 (ĩ T) l.m T.Cl yz (pa1 (pv 1)))) (yd (wa (yr xq (pv 1) yg (yx _)) (yc (yo (i:=2) yjs.nd rfl (Or.inl rfl) (ym wc (yn (pv 0) rfl) (ym vd (ym zx (vk rfl T.Cd) (yn (pv 0) rfl)) yg)))) (yc (yo (i:=2) yjs.nd rfl (Or.inl rfl) (ym zx (yn (pv 0) rfl) (ym vd (yn (pv 0) rfl) yg))))) (yc (y9 (pv 0) (pcB (Ĕ rfl) T.F8 (pac (pcB (ē rfl) T.I5 (pac (pv 2) (pa1 (vk rfl T.De)))) (pa1 (ym zx (vk rfl T.Cd) (vk rfl T.De))))) rfl)));exists x,u,rfl,v,λq=>?_,B;let⟨b,rfl,o,t⟩:=ye7 q;have k:=y b rfl o t;unfold Slt.see at k;dsimp only at k;ext;refine ur (λd=>?_) (λd=>?_)
  .rw[if_pos d]at k;ext;exists _,_,rfl,?_;ext;exists _,_,rfl,?_;ext;exact k _ ya But.upd
  .rw[if_neg d]at k;ext;exists _,_,rfl,?_;ext;exists _,_,rfl,?_;ext;exact k _ ya But.upd
 |ev _ _=>exact g.elim
 |rn _ _=>exact g.elim
#synth yn7 ["self","made"] ["self"] yuw
def yyy:vz P w K mg Γ CX0 3 a.Iw a.Le ["self"] (j8 (oS a) ywq):=by
 exists T.Hc.F.ok,yn7,t;let⟨p,n,s,rfl,o,g,k⟩:=h
 cases s with
 |ev _ _=>exact o.elim
 |rn _ _=>exact o.elim
 |qk h0 =>
 have g:H p=some (.ins a.A5 n (u9 (.int h0))):=g;exists 1,1,yd (yo (i:=1) yn7.nd rfl (Or.inl rfl) (zj T.Oi (ypl T) t.m rfl T.Oh T.Do.B .nil v7)) (yd (y9 (pv 1) (yn (pv 0) rfl) rfl) (yc (yq (pv 1))));intro q l f d D;exists q,l,rfl,ya,λC v x=>⟨rfl,?_⟩;have j:=ä f d x;have z:=j _ _ g;ext;exact k q l _ f ya λb u e=>yf (yb e f) (j _ _ e)
#synth yyo ["self"] yt3
def yp7:vz P w K mg Γ CX0 1 a.Gh a.Lf ["self"] (yab a.Ad (ç (.int 1) (.int 0))):=by exists T.Dp.F.ok,yyo,f;let⟨p,d,rfl,g,k⟩:=h;exists 1,0,yd (y9 (pv 0) yg rfl) (yc (y9 (pv 0) yg rfl));exact k _ ya (But.upd.trans But.upd)
#synth ypj ["self","given"] ["self"] yul
def ywt:vz P w K mg Γ CX0 1 a.Ix a.Lg ["self"] (u6 (oS a) ywk):=by
 exists T.Hd.F.ok,ypj,r;let⟨p,d,j,rfl,e,o,f,k⟩:=h
 cases j with
 |rn l n =>
  let⟨u,t,q,v⟩:=o;have f:H p=some (.ins a.Ad d (ç (.int l) (.int n))):=f;exists 1,1,yd (yo (i:=1) ypj.nd rfl (Or.inl rfl) (ym vd (ym wq (ym wc (ym wq yg (yn (pv 0) rfl)) yg) (vk rfl T.Cd)) (ym wc (ym wq yg (yn (pv 0) rfl)) yg))) (yc (yq (Ó (yr xq (yn (pv 0) rfl) yg (yx _)) (pv 1) (ym zx (vk rfl T.Cd) (pv 1)))));have k:Q (.int (if l=1 then ì n else 16777216-ì n)) H:=k;refine ur (λc=>?_) (λc=>?_)
  .rw[if_pos c]at k;ext;exact k
  .rw[if_neg c]at k;ext;exact k
 |ev _ _=>exact e.elim
 |qk _=>exact e.elim
#synth yz4 ["self","bit"] yvi
def yxh:vz P w K mg Γ (CXe P w) 4 a.Iy a.Lh ["self","bit"] (j6 K (oS a) ywk a.Bx):=by
 exists T.He.F.okE,yz4,j;let⟨p,f,r,x,u,rfl,g,C,e,v,y,B⟩:=h
 cases r with
 |rn l n =>
  let⟨J,D,I,G⟩:=C;have e:H p=some (.ins a.Ad f (ç (.int l) (.int n))):=e;exists 2,0,yd (yw (x3 (ĩ T) j.m T.Cl yz (pa1 (pv 1)))) (yc (wa (yr xq (pv 1) (yn (pv 0) rfl) (yx _)) (yc (y9 (pv 0) (pcB (Ĕ rfl) T.F8 (pac (ym wc (yn (pv 0) rfl) yg) (pa1 (vk rfl T.Ce)))) rfl)) (yd (y9 (pv 0) (pv 1) rfl) (yc (y9 (pv 0) yg rfl)))));exists x,u,rfl,v,λq=>?_,B;let⟨b,rfl,o,t⟩:=ye7 q;have k:=y b rfl o t;unfold Slt.see at k;dsimp only at k;ext;refine ur (λd=>?_) (λd=>?_)
  .rw[if_pos d]at k;ext;exists _,_,rfl,?_;ext;exact k _ ya But.upd
  .rw[if_neg d]at k;ext;exact k _ ya (But.upd.trans But.upd)
 |ev _ _=>exact g.elim
 |qk _=>exact g.elim
#synth yoo ["self","made"] ["self"] yvq
def yy1:vz P w K mg Γ CX0 3 a.Iz a.Li ["self"] (j8 (oS a) ywk):=by
 exists T.Hf.F.ok,yoo,z;let⟨p,v,s,rfl,x,d,k⟩:=h
 cases s with
 |ev _ _=>exact x.elim
 |qk _=>exact x.elim
 |rn l n =>
 have d:H p=some (.ins a.Ad v (ç (.int l) (.int n))):=d;exists 1,1,yd (yo (i:=1) yoo.nd rfl (Or.inl rfl) (zj T.Rb (yp7 T) z.m rfl T.Ra T.Dp.B .nil v7)) (yd (y9 (pv 1) (yn (pv 0) rfl) rfl) (yd (y9 (pv 1) (yn (pv 0) rfl) rfl) (yc (yq (pv 1)))));intro q o c j L;exists q,o,rfl,ya,λJ C D=>⟨rfl,?_⟩;have t:=ä c j D;have r:=t _ _ d;have g:p≠q:=yb d c;ext;have I:=yf (o':=HO.ins a.Ad o (ç (.int l) (.int 0))) g r;ext;exact k q o _ c ya λb u e=>yf (yb e c) (yf (yb e c) (t _ _ e))
#synth yz8 ["kind"] yva
inductive ygm(a:Ads)(vs:Υ)(H:Hp)(Q:VK)(E':XK):Prop
 |mk(k:Fin 3)(_:vs=[.str (kdS k)])(_:∀p dx H',H p=none->H' p=some (oS a dx (kd0 k))->yv H H'->Q (.ref p) H')
def yz7:vz P w K mg Γ CX0 3 a.J0 a.Lj ["kind"] (ygm a):=by
 exists T.Ny.F.ok,yz8,l;let⟨u,rfl,k⟩:=h;exists 1,0,yd (wa (yr xq (pv 0) wy (yx _)) (yc (yq (zj T.P9 (ypk T) l.m rfl T.P8 T.Dn.B .nil v7))) y6) (yd (wa (yr xq (pv 0) wy (yx _)) (yc (yq (zj T.Oi (ypl T) l.m rfl T.Oh T.Do.B .nil v7))) y6) (yd (wa (yr xq (pv 0) wy (yx _)) (yc (yq (zj T.Rb (yp7 T) l.m rfl T.Ra T.Dp.B .nil v7))) y6) (yc ź)));exists rfl,?_
 match u with
 |0 =>
  exists _,rfl,yam rfl ?_;ext;intro p g c d q;exists p,g,rfl,ya,λi f j=>⟨rfl,?_⟩;exact k p g i c f λb o e=>j b o (by rw[yk (yb e c),yk (yb e d)];exact e) (yb e c)
 |1 =>
  exists _,rfl,ydj (by intro z;injection z with z;revert z;decide+kernel) ?_;ext;exists rfl,?_;exists _,rfl,yam rfl ?_;ext;intro p g c d q;exists p,g,rfl,ya,λi f j=>⟨rfl,?_⟩;exact k p g i c f λb o e=>j b o (by rw[yk (yb e c),yk (yb e d)];exact e) (yb e c)
 |2 =>
  exists _,rfl,ydj (by intro z;injection z with z;revert z;decide+kernel) ?_;ext;exists rfl,?_;exists _,rfl,ydj (by intro z;injection z with z;revert z;decide+kernel) ?_;ext;exists rfl,?_;exists _,rfl,yam rfl ?_;ext;intro p g c d q;exists p,g,rfl,ya,λi f j=>⟨rfl,?_⟩;exact k p g i c f λb o e=>j b o (by rw[yk (yb e c),yk (yb e d)];exact e) (yb e c)
#synth yzs ["thing"] yun
inductive yfv(K:xr)(vs:Υ)(H:Hp)(Q:VK)(E':XK):Prop
 |mk(x n:_)(_:vs=[x])(_:ue K H x (.type n))(_:Q (.bl (yk9 x)) H)
def vaw:vz P w K mg Γ CX0 1 a.J1 a.Lk ["thing"] (yfv K):=by
 exists T.Nz.F.ok,yzs,g;let⟨x,n,rfl,b,k⟩:=h;exists 1,0,yc (yq (zz (pcB wv T.A7 (pac (pv 0) (pa1 (jx (T:="str") rfl T.On (by right))))) (Ö (xv yhm (pv 0) (ydb rfl T.Qv) (by with_unfolding_all rfl)))));refine ó b (yd4 b) ?_;ext;by_cases hn:n="str"
 .obtain⟨s',rfl⟩:∃s',x=.str s':=by
   cases b with
   |str s'=>exists s',rfl
   |_=>exact absurd hn (by decide)
  rw[bv hn];refine Ń ?_;ext;exists a.Cg,_,rfl,.inr (T.Qw H),rfl,rfl,k
 .have e:yk9 x=false:=by
   cases b with
   |str s'=>exact absurd rfl hn
   |_=>rfl
  rw[bD hn];rw[e]at k;exact ĳ k
#synth yyi ["thing"] yu3
inductive ycy(K:xr)(vs:Υ)(H:Hp)(Q:VK)(E':XK):Prop
 |mk(x n:_)(_:vs=[x])(_:ue K H x (.type n))(_:Q (.bl (plV x)) H)
def ywy:vz P w K mg Γ CX0 2 a.J2 a.Ll ["thing"] (ycy K):=by
 exists T.O0.F.ok,yyi,f;let⟨x,n,rfl,j,k⟩:=h;exists 1,0,yc (yq (zz (uh (yk6 T) f.m T.Gv (pa1 (pv 0))) (Ö (Í jg jg yg (pv 0) (vk rfl T.Ie)))));exists x,n,rfl,j,?_;ext
 cases hx:ε x with
 |false =>
  have e:plV x=false:=by
   cases x<;>first|rfl|cases hx
  rw[e]at k;exact ĳ k
 |true =>
  let⟨i,rfl⟩:=zv hx;refine Ń ?_;ext;refine ur (λc=>?_) (λc=>?_)
  .ext;have e:plV (.int i)=decide (i<=8):=by simp[plV,c]
   rw[e]at k;exact k
  .have e:plV (.int i)=false:=by simp[plV,c]
   rw[e]at k;exact k
#synth yzu ["thing"] yv1
inductive Ŧ(K:xr)(vs:Υ)(H:Hp)(Q:VK)(E':XK):Prop
 |mk(x b:_)(_:vs=[x])(_:PlB K H x b)(_:∀H',yv H H'->Q (.bl b) H')
def yyu:vz P w K mg Γ CX0 3 a.J3 a.Lm ["thing"] (Ŧ K):=by
 exists T.O4.F.ok,yzu,hr;let⟨x,b,rfl,hb,k⟩:=h;exists _,(yd (wa (PW.pt (ı (xn (xo (pcB wv T.A7 (pac (pv 0) (pa1 (jx (T:="tuple") rfl T.Ck (by right))))))) (ı (yr yb5 (pcB yp T.Aa (pa1 (pv 0))) (vk rfl T.Ek) (yx _)) (ð (xn (xo (pcB (j5 rfl) T.Da (pa1 (wb (js:=[]) (ys:=[]) rfl (ye4 (pv 0)) (λC X I W=>(uh (ywy T) hr.m T.O0 (pa1 (pv 0)))) rfl rfl (hyc:=yt) (hrel:=yt)))))))))) (yc (yq İ)) y6) (yc (yq (pcB (j5 rfl) T.Da (pa1 (Ź (js:=[]) (ys:=[]) (xs:=["near","far"]) (g:=ywh K 2 (zi (w9 0) (zi (w9 1) yla))) rfl (yro rfl T.I6 (pac (pv 0) (pa1 (ua (yxm.or ytd) (pv 0) (uk yg) uv)))) (λC X I W=>(xv ò (pv 0) (pv 1) (yx _))) rfl (λC X I W=>ĭ rfl (xf (vn (i:=0) (show List.Nodup ((["near","far"]:Τ)++([]:Τ)) by right) rfl (Or.inl rfl)) (xf (vn (i:=1) (show List.Nodup ((["near","far"]:Τ)++([]:Τ)) by right) rfl (Or.inl rfl)) À))) rfl (hyc:=yt) (hrel:=yt))))))),?_;exists 1,0;rcases hb with⟨n,U,hn,rfl⟩|⟨t,xs,rfl,G,hl,hy,rfl⟩
 .ext;refine ó U (ú U) ?_;ext;refine yvw hn ?_;ext;exact k _ (yv.refl _)
 .ext;refine ó (.tup G) (ú (.tup G)) ?_;ext;refine yu6 rfl ?_;ext;refine yp9 (SqT.of G) ?_;ext;unfold jv at k;refine ur (λh4=>?_) (λh4=>?_)
  .rw[bD (by omega),Bool.false_and,Bool.false_and]at k;ext;exact k _ (yv.refl _)
  .rw[bv (by omega),Bool.true_and]at k;ext;exists t,rfl,⟨_,SqT.of G⟩,λD S=>?_;refine yg4 (xs:=xs) (λv=>.bl (plV v)) (SqT.of G) S (λi y I J p f=>?_) (λI p f=>?_)
   .obtain⟨n,N⟩:=hy y (bB J);ext;exists y,n,rfl,Ř p N,?_;exact Mp.done S (ve (by omega)) J p f rfl
   have e:xs.map (λv=>V.bl (plV v))=(xs.map plV).map V.bl:=by rw[bS];rfl
   rw[e]at f;ext;exists D,_,rfl,SqL.of f,?_;rw[List.all_map];have ea:xs.all (id ∘ plV)=xs.all plV:=rfl;rw[ea];have c:=p _ _ G
   cases hp:xs.all plV with
   |false =>
    rw[hp,Bool.false_and]at k;ext;exact k _ p
   |true =>
    rw[hp,Bool.true_and]at k
    have l:∀y∈xs,∃i:Int,y=.int i:=λy hm=>by
     have:=List.all_eq_true.mp hp y hm
     cases y with
     |int i=>exists i,rfl
     |_=>cases this
    ext;by_cases hx0:xs=[]
    .refine .inr ⟨t,xs,rfl,SqT.of c,?_,?_⟩
     .subst hx0;exists rfl,rfl
     .exists t,t,rfl,⟨_,_,SqT.of c,SqT.of c⟩,λR d=>?_;refine yjc (xs:=xs) l (by omega) (SqT.of c) (by subst hx0;exact SqT.of c) d (λi j σ' H' Q' h=>?_) (λH4 M q=>?_)
      .ext;exact h
      .ext;exists R,_,rfl,SqL.of q,k _ (p.trans M)
    .refine .inl ⟨t,xs,rfl,SqT.of c,?_,λu Z=>?_⟩
     .rintro ⟨z,_⟩
      have e1:HT.sIx xs.length 0 (some 1)=min 1 xs.length:=by
       have:=HT.sIx_nat xs.length 0 1;simpa using this
      rw[e1]at z
      cases xs with
      |nil=>exact hx0 rfl
      |cons x r=>simp at z
     .rw[yrw];have L:=y7 (o:=(HO.tup xs.tail)) Z;have B:upd I u (HO.tup xs.tail) u=some (HO.tup xs.tail):=ya;generalize upd I u (HO.tup xs.tail)=H3 at L B⊢;exists t,u,rfl,⟨_,_,SqT.of (L _ _ c),SqT.of B⟩,λR d=>?_;refine yjc (xs:=xs) l (by omega) (SqT.of (L _ _ c)) (SqT.of B) d (λi j σ' H' Q' h=>?_) (λH4 M q=>?_)
      .ext;exact h
      .ext;exists R,_,rfl,SqL.of q,k _ (p.trans (L.trans M))
#synth va5 ["thing"] ytu
inductive yfs(K:xr)(vs:Υ)(H:Hp)(Q:VK)(E':XK):Prop
 |mk(x b:_)(_:vs=[x])(_:LkB K H x b)(_:∀H',yv H H'->Q (.bl b) H')
def yoc:vz P w K mg Γ CX0 4 a.J4 a.Ln ["thing"] (yfs K):=by
 exists T.Hg.F.ok,va5,i;let⟨x,b,rfl,c,k⟩:=h;exists _,(yc (yq (zz (pcB wv T.A7 (pac (pv 0) (pa1 (jx (T:="tuple") rfl T.Ck (by right))))) (zz (xv xq (pcB yp T.Aa (pa1 (pv 0))) yg (yx _)) (zz (uh (vaw T) i.m T.Nz (pa1 (xi xp (pv 0) yg (λZ Z=>rfl)))) (Ö (uh (yyu T) i.m T.O4 (pa1 (xi xp (pv 0) yg (λZ Z=>rfl)))))))))),?_;exists 1,0;rcases c with⟨n,e,q,rfl⟩|⟨t,o,rfl,d,c⟩
 .ext;refine ó e (ú e) ?_;ext;rw[bD q];exact ĳ (k _ (yv.refl _))
 .ext;refine ó (.tup d) (ú (.tup d)) ?_;ext;refine yam rfl ?_;ext;refine yp9 (SqT.of d) ?_;ext;rcases c with⟨u,rfl⟩|⟨y,z,n,rfl,e,c⟩
  .rw[bD (show ¬((o.length:Int)=2) by omega)];exact ĳ (k _ (yv.refl _))
  .refine yam rfl ?_;ext;refine zt (SqT.of d) (vq (j:=0) rfl) ?_;ext;exists y,n,rfl,e,?_;rcases c with⟨g,rfl⟩|⟨g,r⟩
   .rw[g];ext;exact k _ (yv.refl _)
   .rw[g];ext;refine zt (SqT.of d) (vq (j:=1) rfl) ?_;ext;exists z,b,rfl,r,k
#synth yyk ["thing"] yuo
def yho(K:xr)(C:x0):Sp:=λvs H Q E=>(∃x n,vs=[x]/\ue K H x (.type n)/\n≠"list"/\E (.ref C) none H) \/
 ∃(l:x0)(xs:Υ)(bs:qi Bool),vs=[.ref l]/\H l=some (.lst xs)/\xs.length<=1000/\ve9 K H xs bs/\
  ((1<=xs.length/\xs.length<=6/\bs.all id=true)->∀r H',H r=none->H' r=some (.lst xs)->yv H H'->Q (.ref r) H')/\
  (¬(1<=xs.length/\xs.length<=6/\bs.all id=true)->∀H',yv H H'->E (.ref C) none H')
def yod:vz P w K mg Γ (CXe P w) 5 a.J5 a.Lo ["thing"] (yho K a.Fg):=by
 refine T.Hh.F.okE yyk (λO H Q E h=>?_) (λW A t s H O Q E G h=>?_)
 .rcases h with⟨x,n,rfl,_⟩|⟨l,xs,f,rfl,_⟩
  .rfl
  .rfl
 .rcases h with⟨x,n,rfl,J,S,k⟩|⟨l,xs,g,rfl,d,hz,B,U,u⟩
  .exists _,(yd (wa (PW.pt (ı (xn (xo (pcB wv T.A7 (pac (pv 0) (pa1 (jx (T:="list") rfl T.Af (by right))))))) (ı (xn (yaa jg jg yg (pcB yp T.Aa (pa1 (pv 0))) (vk rfl T.Cz))) (ð (xn (xo (pcB (j5 rfl) T.Da (pa1 (wb (js:=[]) (ys:=[]) rfl (vx (pv 0)) (λC X v R=>(uh (yoc T) G.m T.Hg (pa1 (pv 0)))) rfl rfl (hyc:=yt) (hrel:=yt)))))))))) (yc (xb rfl T.Rz T.Qu (pa1 wy))) y6) (yc (yq (pcT w6 T.Af (pa1 (pv 0)))))),?_;refine yj (σ':=[some _]) rfl ?_;ext;refine ó J (yel J) ?_;ext;refine yvw S ?_;ext;exists by walk_at "len",k
  .exists _,(yd (wa (PW.pt (ı (xn (xo (pcB wv T.A7 (pac (pv 0) (pa1 (jx (T:="list") rfl T.Af (by right))))))) (ı (xn (yaa jg jg yg (pcB yp T.Aa (pa1 (pv 0))) (vk rfl T.Cz))) (ð (xn (xo (pcB (j5 rfl) T.Da (pa1 (wb (js:=[]) (ys:=[]) rfl (vx (pv 0)) (λC X v R=>(uh (yoc T) G.m T.Hg (pa1 (pv 0)))) rfl rfl (hyc:=yt) (hrel:=yt)))))))))) (yc (xb rfl T.Rz T.Qu (pa1 wy))) y6) (yc (yq (pcT w6 T.Af (pa1 (pv 0)))))),?_;refine yj (σ':=[some _]) rfl ?_;ext;refine ó (.lst d) (yel (.lst d)) ?_;ext;refine yu6 rfl ?_;ext;refine x5 (SqL.of d) ?_;ext;refine ur (λY=>?_) (λY=>?_)
   .ext;refine yql (λN=>?_) (λN=>?_)
    .ext;exists l,rfl,⟨_,SqL.of d⟩,λD I=>?_;refine ul (K:=K) (xs:=xs) (Mp H D (λi=>V.bl ((g[i]?).getD false))) (Mp.zero I) (λZ Z Z p=>p.1.seq (SqL.of d)) (λi y v o L p=>?_) (λv p=>?_)
     .obtain⟨c,b⟩:=p;have j:i<g.length:=by rw[<- B.1];exact L
      ext;exists y,g[i],rfl,(B.2 i y _ o (bi j)).same c,λZ M=>?_;refine Mp.doneR I (ve (by omega)) L (c.trans M) (M _ _ b) ?_;rw[bi j];rfl
     let⟨c,b⟩:=p;rw[yl1 g B.1]at b;ext;exists D,_,rfl,SqL.of b,?_;have q:=c _ _ d
     cases hp:g.all id with
     |false =>
      ext;exists by walk_at "len",u (by rw[hp];rintro ⟨_,_,z⟩;cases z) _ c
     |true =>
      ext;refine ý (SqL.of q) λr e=>?_;exact U ⟨by omega,by omega,hp⟩ r _ (c.free e) ya (c.trans (y7 e))
    .ext;exists by walk_at "len",u (by omega) _ (yv.refl _)
   .ext;exists by walk_at "len",u (by omega) _ (yv.refl _)
#synth yzh ["signs","place"] yvo
inductive ymg(K:xr)(vs:Υ)(H:Hp)(Q:VK)(E':XK):Prop
 |mk(l:x0)(sg:Ρ)(p:Int)(_:vs=[.ref l,.int p])(_:SqL K H l (sg.map V.int))(_:1<=p)(_:Q (.int (yqk sg p)) H)
def yza:vz P w K mg Γ CX0 1 a.J6 a.Lp ["signs","place"] (ymg K):=by
 exists T.O5.F.ok,yzh,n;let⟨l,g,p,rfl,f,j,k⟩:=h;exists 2,0,yc (yq (Ó (yr jg (pv 1) (pcB yp T.Aa (pa1 (pv 0))) (yx _)) (xi xm (pv 0) (vcf yoj (pv 1)) (λZ Z=>rfl)) (vk rfl T.Os)));refine x5 f ?_;rw[bf];ext;unfold yqk at k;refine ur (λb=>?_) (λb=>?_)
 .rw[if_pos b]at k;let⟨c,e,_⟩:=ym1 j b;rw[e]at k;ext;exact jy f (by rw[yqr,e];rfl) k
 .rw[if_neg b]at k;ext;exact k
#synth yzb ["look","signs","node"] yt0
def z6(K:xr)(H:Hp)(k:x0)(x:V)(ps:Ρ):Prop:=∃t,SqT K H k [x,.ref t]/\SqT K H t (ps.map V.int)/\(∀p∈ps,1<=p/\p<=8)/\ps.length<=4
def z6.same{H H':Hp}{k:x0}{x:V}{ps:Ρ}(S:yv H H')(h:z6 K H k x ps):z6 K H' k x ps:=by let⟨t,b,c,a,d⟩:=h;exists t,S.tup b,S.tup c,a,d
def ctx(ps sg:Ρ)(nd:Int):Ρ:=ps.map (yqk sg)++[nd]
def bkV(sg:Ρ):V->V
 | .int p=>.int (yqk sg p)
 |_=>.non
def ys2(sg ps:Ρ):(ps.map V.int).map (bkV sg)=(ps.map (yqk sg)).map V.int:=by rw[bS,bS];rfl
inductive yf0(K:xr)(vs:Υ)(H:Hp)(Q:VK)(E':XK):Prop
 |mk(k l:x0)(x:V)(ps sg:Ρ)(nd:Int)(_:vs=[.ref k,.ref l,.int nd])(_:z6 K H k x ps)(_:SqL K H l (sg.map V.int))(_:∀r H',H r=none->H' r=some (.tup ((ctx ps sg nd).map V.int))->yv H H'->Q (.ref r) H')
def yyd:vz P w K mg Γ CX0 2 a.J7 a.Lq ["look","signs","node"] (yf0 K):=by
 exists T.O6.F.ok,yzb,L;let⟨Y,l,x,u,g,O,rfl,⟨t,N,B,v,U⟩,M,k⟩:=h;exists 3,0,yc (yq (pcT Å T.Ck (pa1 (ym yk3 (wb (js:=[1]) (ys:=["signs"]) rfl (ye4 (xi xp (pv 0) yg (λZ Z=>rfl))) (λC X G W=>(uh (yza T) L.m T.O5 (pac (pv 1) (pa1 (pv 0))))) rfl rfl (hyc:=(all_cons rfl yt)) (hrel:=(all_cons rfl yt))) (xc (pa1 (pv 2)))))));refine zt N (vq (j:=1) rfl) ?_;exists t,rfl,⟨_,B⟩,λD z=>?_;have f:(u.map V.int).length<sizeLine:=ve (by rw[bf];omega);refine œ (xs:=u.map V.int) (bkV g) B z (λi y G I e b=>?_) (λG e b=>?_)
 .obtain⟨p,rfl,o,_,_⟩:=z5 I;ext;exists l,g,p,rfl,e.seq M,(v p o).1,?_;exact Mp.done z f I e b rfl
 .rw[ys2]at b;ext;exists by walk_at "len",λn hn=>?_
  exists hn,H3,S3,hn3;exists D,n,_,_,rfl,rfl,S3 _ _ b,hn3,jf (by rw[bf,bf];show _+1<=_;omega),λc hc=>?_;exists hc,H4,S4,hc4;exists c,_,rfl,.inl ⟨SqL.of hc4,λr d=>?_⟩;have S:=e.trans (S3.trans S4);refine k r _ (S.free d) (ya.trans ?_) (S.trans (y7 d));unfold ctx;rw[bH];rfl
#synth vao ["self","look"] ytl
inductive yh0(a:Ads)(vs:Υ)(H:Hp)(Q:VK)(E':XK):Prop
 |mk(p dx lk:x0)(kd:Fin 3)(_:vs=[.ref p,.ref lk])(_:H p=some (.ins a.Ab dx []))(_:∀d H',H d=none->Û a H' p dx lk d kd (λZ=>none) (λb=>b=d) 0->But p H H'->Q .non H')
def yoz:vz P w K mg Γ CX0 1 a.Gi a.Lr ["self","look"] (yh0 a):=by
 exists T.Dq.F.ok,vao,C;let⟨p,j,i,v,rfl,B,k⟩:=h;exists 2,0,yd (y9 (pv 0) (pv 1) rfl) (yc (y9 (pv 0) yec rfl));intro d l
 have g:H d=none:=by
  cases e:H d with
  |none=>rfl
  |some o =>
   by_cases z:d=p
   .rw[z,ya]at l;cases l
   .rw[yk z,e]at l;cases l
 have f:d≠p:=λz=>by rw[z,B]at g;cases g
 have q:=za (o':=HO.dT []) l (show upd H p (HO.ins a.Ab j ([("look",V.ref i)]:Ι)) p=some (HO.ins a.Ab j ([("look",V.ref i)]:Ι))from ya);have c:upd (upd H p (HO.ins a.Ab j ([("look",V.ref i)]:Ι))) d (.dT []) d=some (.dT []):=ya;have r:But p H (upd (upd H p (HO.ins a.Ab j ([("look",V.ref i)]:Ι))) d (.dT [])):=λb o e n=>by rw[yk (yb e g),yk n];exact e
 generalize upd (upd H p (HO.ins a.Ab j ([("look",V.ref i)]:Ι))) d (.dT [])=D at q c r⊢;ext
 refine k d _ g ⟨ya,λb x=>⟨HO.dT [],by cases x;exact yf f c,rfl⟩,λz=>f z.symm,rfl,λu e=>(by cases (yf f c).symm.trans e;exact⟨List.nodup_nil,λZ z=>(nomatch z)⟩),[],λZ=>(0,0),yf f c,bn _,λZ Z=>rfl,λZ Z z=>(nomatch z),λZ Z Z Z z=>(nomatch z)⟩ (r.trans But.upd)
#synth yn3 ["self","signs","node","context"] ["self","signs","node"] yub
inductive yih(K:xr)(a:Ads)(vs:Υ)(H:Hp)(Q:VK)(E':XK):Prop
 |mk(p dx lk d sl:x0)(kd:Fin 3)(f:qi Int->qj Slt)(O:Ν)(m:Nat)(ps sg:Ρ)(nd:Int)(_:vs=[.ref p,.ref sl,.int nd])(_:Û a H p dx lk d kd f O m)(_:m<1000000)(_:z6 K H lk (.str (kdS kd)) ps)(_:SqL K H sl (sg.map V.int))(_:∀(q:x0)(O':Ν)(H':Hp),Û a H' p dx lk d kd (ā f (ctx ps sg nd) ((f (ctx ps sg nd)).getD (kd0 kd))) O' (m+1)->(∀kvs,H' d=some (.dT kvs)->zn kvs (kI (ctx ps sg nd))=some (.ref q))->(∀c,O' c->O c\/H c=none)->(∀c,O c->O' c)->ynx O H H'->Q (.ref q) H')
set_option tactic.hygienic true in
def vaj:vz P w K mg Γ CX0 4 a.J8 a.Ls ["self","signs","node"] (yih K a):=by
 exists T.Hi.F.ok,yn3,W;let⟨p,dx,lk,d,sl,D,f,O,m,ps,sg,nd,rfl,hb,hm,hl,hs,k⟩:=h;have ad:=hb.me;exists 3,1,yd (yo (i:=3) yn3.nd rfl (Or.inl rfl) (uh (yyd T) W.m T.O6 (pac (yn (pv 0) rfl) (pac (pv 1) (pa1 (pv 2)))))) (yd (jw (wa (ybt (Ê (zg W) (pv 3) (yn (pv 0) rfl))) (yc (yaf (zg W) (yn (pv 0) rfl) (pv 3) (uh (yz7 T) W.m T.Ny (pa1 (xi xp (yn (pv 0) rfl) yg (λF F=>rfl)))) rfl)) y6)) (yc (yq (uc (zg W) (yn (pv 0) rfl) (pv 3) (λF F=>rfl)))));exists lk,sl,_,ps,sg,nd,rfl,hl,hs,λr H1 ab a8 Y=>?_;have l:H1 r=some (.tup ((kI (ctx ps sg nd)).map kV)):=by rw[yz3];exact a8
 generalize ctx ps sg nd=b at l k;have g:=hb.same Y;have y:=g.me;ext;refine yk8 (λσ' H'=>σ'=[some (.ref p),some (.ref sl),some (.int nd),some (.ref r)]/\∃Z,Û a H' p dx lk d D (ā f b ((f b).getD (kd0 D))) Z (m+1)/\(∀c,Z c->O c\/H c=none)/\(∀c,O c->Z c)/\ynx O H H'/\H' r=some (.tup ((kI b).map kV))) ?_ ?_
 .obtain⟨I,n,G,h2,S,N,h5⟩:=g.tb;ext;exists d,_,rfl,Ĳ.t G l,?_
  cases hf:f b with
  |none =>
   rw[S b hf];ext;refine Ń ?_;ext;let⟨t,a6,aa,_,_⟩:=hl;refine zt (Y.tup a6) (vq (j:=0) rfl) ?_;ext;exists D,rfl,λq dq H2 u X J=>?_;ext;have M:=J _ _ y;ext;exists d,_,rfl,ylb.t (J _ _ G) (J _ _ l) (ve (by omega)),?_;have a7:=Y.trans J;have a0:q≠d:=λz=>by rw[z,G]at u;cases u
   have a3:p≠d:=λz=>g.np (z ▸ g.dO);ext;exists rfl,λc=>O c\/c=q,⟨yf a3 M,λc v=>?_,λz=>?_,.inl g.dO,ynz.snoc (g.ky I G) (S b hf) ya,ń I (kI b) (.ref q),λj=>if j=b then (q,dq)else n j,ya,?_,λj L=>?_,λj s' L=>?_,λj1 j2 s1 s2 e1 e2 B=>?_⟩,λc v=>?_,λc v=>.inl v,λc o e no=>?_,yf (wz (J _ _ l) (J _ _ G) (by intro z;cases z)) (J _ _ l)
   .rcases v with v|rfl
    .obtain⟨o,ho,hi⟩:=g.own c v;by_cases z:c=d
     .rw[z];exists _,ya,rfl
     .exists o,yf z (J _ _ ho),hi
    .obtain⟨C,fs,eo⟩:=η a dq (kd0 D);exists _,yf a0 X,by rw[eo];rfl
   .rcases z with z|z
    .exact g.np z
    .rw[z]at y;rw[y]at u;cases u
   .rw[Ð _ (S b hf),bq];show _+1<=m+1;omega
   .unfold ā at L
    split at L
    .cases L
    .rename_i hne
     rw[j4,if_neg λz=>hne (ybu z)];exact S j L
   .unfold ā at L
    split at L
    .rename_i he
     subst he;cases L;dsimp only;rw[if_pos rfl,j4,if_pos rfl];exists rfl,yf a0 X,yo4 D,ymf D,.inr rfl
    .rename_i hne
     let⟨U,x,q3,q4,q5⟩:=N j s' L;dsimp only;rw[if_neg hne,j4,if_neg λz=>hne (ybu z)]
     have a2:(n j).1≠d:=by
      let⟨C,fs,eo⟩:=η a (n j).2 s';rw[eo]at x;exact wz x G (by intro z;cases z)
     exists U,yf a2 (J _ _ x),q3,q4,.inl q5
   .unfold ā at e1 e2;dsimp only at B;by_cases z1:j1=b
    .by_cases z2:j2=b
     .rw[z1,z2]
     .rw[if_neg z2]at e2;rw[if_pos z1,if_neg z2]at B;let⟨_,x,_⟩:=N j2 s2 e2;have B:q=(n j2).1:=B;rw[<- B,u]at x;cases x
    .rw[if_neg z1]at e1;by_cases z2:j2=b
     .rw[if_neg z1,if_pos z2]at B;let⟨_,x,_⟩:=N j1 s1 e1;have B:(n j1).1=q:=B;rw[B,u]at x;cases x
     .rw[if_neg z2]at e2;rw[if_neg z1,if_neg z2]at B;exact h5 j1 j2 s1 s2 e1 e2 B
   .rcases v with v|rfl
    .exact .inl v
    .exact .inr (Y.free u)
   .exact yf (λz=>no (z ▸ g.dO)) (a7 _ _ e)
  |some s' =>
   let⟨U,x,q3,q4,q5⟩:=N b s' hf;rw[U];ext;exists rfl,O,?_,λc v=>.inl v,λc v=>v,λc o e F=>Y _ _ e,l
   have ef:ā f b ((some s').getD (kd0 D))=f:=by
    funext j
    unfold ā
    split
    .rename_i z
     rw[z,hf];rfl
    .rfl
   rw[ef];exists g.me,g.own,g.np,g.dO,g.ky,I,n,G,Nat.le_succ_of_le h2,S,N,h5
 .rintro σ' H2 ⟨rfl,Z,R,hO,hM,B2,a1⟩;have M:=R.me;let⟨I,n,G,h2,S,N,h5⟩:=id R.tb;have a4:ā f b ((f b).getD (kd0 D)) b=some ((f b).getD (kd0 D)):=by unfold ā;rw[if_pos rfl]
  let⟨U,x,q3,q4,q5⟩:=N b _ a4;ext;exists d,_,rfl,by rw[<- U];exact Ĳ.t G a1,?_
  exact k (n b).1 Z H2 R (λa9 e=>by rw[G]at e;cases e;exact U) hO hM B2
structure yqo(a:Ads)(H:Hp)(d:x0)(kd:Fin 3)(f:qi Int->qj Slt)(O:Ν)(m:Nat):Prop where
 own:∀b,O b->∃o,H b=some o/\ywb o=true
 dO:O d
 ky:ynz H d
 tb:∃(kvs:qi (qi Key×V))(loc:qi Int->x0×x0),H d=some (.dT kvs)/\kvs.length<=m/\(∀k,f k=none->zn kvs (kI k)=none)/\
  (∀k s,f k=some s->zn kvs (kI k)=some (.ref (loc k).1)/\H (loc k).1=some (oS a (loc k).2 s)/\s.ok/\s.kind=kd/\O (loc k).1)/\(∀k j s t,f k=some s->f j=some t->(loc k).1=(loc j).1->k=j)
def yqo.same{H H':Hp}{d:x0}{kd:Fin 3}{f:qi Int->qj Slt}{O:Ν}{m:Nat}(h:yqo a H d kd f O m)(S:yv H H'):yqo a H' d kd f O m:=by
 let⟨c,e,g,r,l,v,n⟩:=h.tb;exists λb p=>?_,h.dO,h.ky.mv g (S _ _ g),c,e,S _ _ g,r,l,λk s q=>?_,n
 .obtain⟨o,i,u⟩:=h.own b p;exists o,S _ _ i,u
 .obtain⟨j,t,w⟩:=v k s q;exists j,S _ _ t,w
set_option tactic.hygienic true in
def yqo.put{H H2:Hp}{d:x0}{kd:Fin 3}{f:qi Int->qj Slt}{O:Ν}{m:Nat}{key:Ρ}{s:Slt}(h:yqo a H d kd f O m)(S:yv H H2)(nq:H q=none)(hq:H2 q=some (oS a dq s))(ok:s.ok)(hk:s.kind=kd)(hf:f key=none){kvs:qi (qi Key×V)}(hd:H2 d=some (.dT kvs)):
  yqo a (upd H2 d (.dT (ń kvs (kI key) (.ref q)))) d kd (ā f key s) (λc=>O c\/c=q) (m+1):=by
 let⟨E,b,u,R,A,y,P⟩:=h.tb;have e:=S _ _ u;rw[hd]at e;cases e;have p:q≠d:=λz=>by rw[z,u]at nq;cases nq
 have B:=h.ky kvs u;exists λc x=>?_,.inl h.dO,ynz.snoc B (A key hf) ya,ń kvs (kI key) (.ref q),λj=>if j=key then (q,dq)else b j,ya,?_,λj k=>?_,λj D k=>?_,λr n F G t l g=>?_
 .rcases x with x|rfl
  .obtain⟨o,I,L⟩:=h.own c x;by_cases z:c=d
   .rw[z];exists _,ya,rfl
   .exists o,yf z (S _ _ I),L
  .obtain⟨C,K,w⟩:=η a dq s;exists _,yf p hq,by rw[w];rfl
 .rw[Ð _ (A key hf),bq];show _+1<=m+1;omega
 .unfold ā at k
  split at k
  .cases k
  .rename_i hne
   rw[j4,if_neg λz=>hne (ybu z)];exact A j k
 .unfold ā at k
  split at k
  .rename_i he
   subst he;cases k;dsimp only;rw[if_pos rfl,j4,if_pos rfl];exists rfl,yf p hq,ok,hk,.inr rfl
  .rename_i hne
   let⟨N,i,M,J,Q⟩:=y j D k;dsimp only;rw[if_neg hne,j4,if_neg λz=>hne (ybu z)]
   have v:(b j).1≠d:=by
    let⟨C,K,w⟩:=η a (b j).2 D;rw[w]at i;exact wz i u (by intro z;cases z)
   exists N,yf v (S _ _ i),M,J,.inl Q
 .unfold ā at t l;dsimp only at g;by_cases z1:r=key
  .by_cases z2:n=key
   .rw[z1,z2]
   .rw[if_neg z2]at l;rw[if_pos z1,if_neg z2]at g;let⟨_,i,_⟩:=y n G l;have g:q=(b n).1:=g;rw[<- g,nq]at i;cases i
  .rw[if_neg z1]at t;by_cases z2:n=key
   .rw[if_neg z1,if_pos z2]at g;let⟨_,i,_⟩:=y r F t;have g:(b r).1=q:=g;rw[g,nq]at i;cases i
   .rw[if_neg z2]at l;rw[if_neg z1,if_neg z2]at g;exact P r n F G t l g
def ynk{kvs:qi (qi Key×V)}{k:qi Key}{v:V}(h:(kvs.map (·.1)).Nodup)(hm:(k,v)∈kvs):zn kvs k=some v:=by
 induction kvs with
 |nil=>cases hm
 |cons p r ih =>
  rw[bU,cK]at h;rcases bC.mp hm with e|hm
  .subst e;exact xt (p:=(k,v)) rfl
  .have a:¬p.1=k:=λz=>h.1 (by rw[z];exact br.mpr ⟨_,hm,rfl⟩);rw[xu a];exact ih h.2 hm
def ż{kvs:qi (qi Key×V)}{k j:qi Key}{v:V}(h:kvs[i]?=some (k,v)):j∈(kvs.take (i+1)).map (·.1)↔(j=k\/j∈(kvs.take i).map (·.1)):=by rw[List.take_add_one,h,bH,bP];show _\/j∈[k]↔_;rw[bF,or_comm]
def yti{kvs:qi (qi Key×V)}{k:qi Key}{v:V}(hn:(kvs.map (·.1)).Nodup)(h:kvs[i]?=some (k,v)):k∉(kvs.take i).map (·.1):=λm=>by
 have a:i<kvs.length:=(bw.mp h).1;rw[<- List.take_append_drop i kvs,bH,List.nodup_append]at hn;refine hn.2.2 _ m k ?_ rfl;rw[cR a,bU,(bw.mp h).2];exact bO
#synth ybr ["self","slots","context","slot","made"] ["self"] yuh
inductive yhe(a:Ads)(vs:Υ)(H:Hp)(Q:VK)(E':XK):Prop
 |mk(p dx lk d:x0)(kd:Fin 3)(f:qi Int->qj Slt)(O:Ν)(m:Nat)(_:vs=[.ref p])(_:Û a H p dx lk d kd f O m)(_:m<1000000)(_:∀q dq d' O' H',H q=none->Û a H' q dq lk d' kd f O' m->(∀c,O' c->H c=none)->yv H H'->Q (.ref q) H')
def yyc:vz P w K mg Γ CX0 4 a.J9 a.Lt ["self"] (yhe a):=by
 exists T.Hj.F.ok,ybr,hr;let⟨p,dx,lk,d,kd,f,O,m,rfl,hb,hm,k⟩:=h;have a7:=hb.me;let⟨g,M,h1,h2,h3,h4,h5⟩:=hb.tb;let⟨aa,ai⟩:=hb.ky g h1;exists 1,4,yd (yo (i:=1) ybr.nd rfl (Or.inl rfl) yec) (yd (Ğ (xz PassesOwn.never rfl (ynf (yn (pv 0) rfl)) (ĭ rfl (xf (vn (i:=2) ybr.nd rfl (Or.inl rfl)) (xf (vn (i:=3) ybr.nd rfl (Or.inl rfl)) À))) (yc (yaf (zg hr) (pv 1) (pv 2) (Ŕ (vt (pv 3) T.B9 T.Gz.m (yzt T) hr.m T.Gz.B .nil v7) (Ŕ (vt (pv 3) T.By T.Hc.m (yyy T) hr.m T.Hc.B .nil v7) (vt (pv 3) T.C4 T.Hf.m (yy1 T) hr.m T.Hf.B .nil v7))) rfl)))) (yd (yo (i:=4) ybr.nd rfl (Or.inl rfl) (ĥ T.Pb (yoz T) hr.m rfl T.Pa T.Dq.B .nil v7 (pa1 (yn (pv 0) rfl)))) (yd (y9 (pv 4) (pv 1) rfl) (yc (yq (pv 4))))));intro e ge;have S1:=y7 (o:=(HO.dT [])) ge;have X:upd H e (HO.dT []) e=some (HO.dT []):=ya;generalize upd H e (HO.dT [])=H1 at S1 X⊢;have am:=S1 _ _ a7;have ab:=S1 _ _ h1;have ar:p≠d:=λz=>hb.np (z ▸ hb.dO);have J:e≠d:=λz=>by rw[z,h1]at ge;cases ge
 ext;exists d,g,rfl,ab,λob=>?_;have a5:upd H1 d (.frz ob (.dT g)) d=some (.frz ob (.dT g)):=ya;have BF:But d H1 (upd H1 d (.frz ob (.dT g))):=But.upd;generalize upd H1 d (.frz ob (.dT g))=HF at a5 BF⊢;refine yhb (λi σ2 G=>∃(v2 v3:Ψ)(Z:qi Int->qj Slt)(Y:Ν),σ2=[some (.ref p),some (.ref e),v2,v3,none]/\yqo a G e kd Z Y i/\(∀j,(kI j∈(g.take i).map (·.1)->Z j=f j)/\(kI j∉(g.take i).map (·.1)->Z j=none))/\(∀c,Y c->H c=none)/\G d=some (.frz ob (.dT g))/\But d H G)
  ⟨none,none,λF=>none,λc=>c=e,rfl,⟨λb x=>⟨.dT [],by cases x;exact BF _ _ X J,rfl⟩,rfl,λl n=>(by cases (BF _ _ X J).symm.trans n;exact⟨List.nodup_nil,λF z=>(nomatch z)⟩),[],λF=>(0,0),BF _ _ X J,bK _,λF F=>rfl,λF F z=>(nomatch z),λF F F F z=>(nomatch z)⟩,λj=>⟨λz=>(by rw[List.take_zero]at z;cases z),λF=>rfl⟩,λc z=>by cases z;exact ge,a5,λb o n ne=>BF _ _ (S1 _ _ n) ne⟩
  (by rintro i σ2 G _ ⟨_,_,_,_,_,_,_,_,w,_⟩;exact w) ?_ ?_
 .rintro i ak v σ2 G t kt r ⟨v2,v3,Z,Y,rfl,gT,gf,gO,gd,gB⟩ gt ag;let⟨D,a2⟩:=ai _ (bB r);have a2:ak=kI D:=a2;subst a2;have R:=ynk aa (bB r)
  obtain⟨s',a9⟩:∃s',f D=some s':=by
   cases z:f D with
   |none=>rw[h3 D z]at R;cases R
   |some s'=>exists s',rfl
  let⟨U,q2,q3,q4,q5⟩:=h4 D s' a9;rw[R]at U;injection U with U;subst U
  have ae:(M D).1≠d:=by
   let⟨C,fs,eo⟩:=η a (M D).2 s';rw[eo]at q2;exact wz q2 h1 (by intro z;cases z)
  have T1:=y7 (o:=(HO.tup [V.ref kt,V.ref (M D).1])) gt;have a6:upd G t (HO.tup [V.ref kt,V.ref (M D).1]) t=some (HO.tup [V.ref kt,V.ref (M D).1]):=ya;generalize upd G t (HO.tup [V.ref kt,V.ref (M D).1])=G1 at T1 a6⊢;refine Į (SqT.of a6) rfl ?_;ext;refine ysz (λQ' h=>yvg rfl h) (T1 _ _ (gB _ _ q2 ae)) λq dq G2 L a8 T2=>?_;have S2:=T1.trans T2;let⟨l,I,S,w2,w3,w4,w5⟩:=id gT.tb;have a4:Z D=none:=(gf D).2 (yti aa r);have ad:=S2 _ _ gd;ext;exists e,_,rfl,ylb.t (S2 _ _ S) (S2 _ _ ag) (ve (by have:=(bw.mp r).1;omega)),?_;ext;exists _,_,_,_,rfl,gT.put S2 (T1.free L) a8 q3 q4 a4 (S2 _ _ S),λj=>?_,λc hc=>?_,yf J.symm ad,λb o n ne=>yf (yb n ge) (S2 _ _ (gB _ _ n ne))
  .unfold ā;by_cases z:j=D
   .rw[if_pos z,z];exists λF=>a9.symm,λw=>absurd ((ż r).mpr (.inl rfl)) w
   .rw[if_neg z];exists λw=>(gf j).1 (((ż r).mp w).resolve_left λy=>z (ybu y)),λw=>(gf j).2 λy=>w ((ż r).mpr (.inr y))
  .rcases hc with hc|rfl
   .exact gO c hc
   .cases z:H c with
    |none=>rfl
    |some o =>
     by_cases y:c=d
     .rw[y]at L;rw[T1 _ _ gd]at L;cases L
     .rw[T1 _ _ (gB _ _ z y)]at L;cases L
 .rintro σ2 G ⟨v2,v3,Z,Y,rfl,gT,gf,gO,gd,gB⟩
  have aj:Z=f:=by
   funext j
   have gj:=gf j;rw[bZ]at gj;by_cases w:kI j∈g.map (·.1)
   .exact gj.1 w
   .rw[gj.2 w]
    cases z:f j with
    |none=>rfl
    |some s' =>
     have U:=(h4 j s' z).1;have a1:=jb (kI j) g;rw[U]at a1;let⟨pr,ac,n⟩:=cU.mp a1;exact absurd (br.mpr ⟨pr,ac,of_decide_eq_true n⟩) w
  subst aj;exists d,ob,.dT g,λo u z=>(by rw[ab]at z;cases z),gd,?_
  have ST:yv H (upd G d (.dT g)):=λb o n=>by
   by_cases y:b=d
   .rw[y,ya];rw[y,h1]at n;exact n
   .rw[yk y];exact gB _ _ n y
  have a3:yqo a (upd G d (.dT g)) e kd Z Y g.length:=by
   let⟨l,I,S,w2,w3,w4,w5⟩:=gT.tb
   have nO:∀c,Y c->c≠d:=λc hc z=>by
    have:=gO c hc;rw[z,h1]at this;cases this
   exists λb x=>?_,gT.dO,gT.ky.mv S (yf J S),l,I,yf J S,w2,w3,λk s hk=>?_,w5
   .obtain⟨o,ho,hi⟩:=gT.own b x;exists o,yf (nO b x) ho,hi
   .obtain⟨U,q2,q3,q4,q5⟩:=w4 k s hk;exists U,yf (nO _ q5) q2,q3,q4,q5
  generalize upd G d (.dT g)=GT at ST a3⊢;have ao:=ST _ _ a7;ext;intro q dq nq af aq;exists q,dq,lk,kd,rfl,ya,λd2 G2 an al B2=>⟨rfl,?_⟩;have S3:=ä nq af B2;have a8:=al.me;have N:=a3.same S3;ext
  have W:¬Y q:=λw=>by
   let⟨o,ho,_⟩:=a3.own q w;rw[nq]at ho;cases ho
  let⟨l,I,S,w2,w3,w4,w5⟩:=N.tb;have a0:e≠q:=λz=>W (z ▸ N.dO);refine k q dq e Y _ (ST.free nq) ⟨ya,λb x=>?_,W,N.dO,N.ky.mv S (yf a0 S),l,I,yf a0 S,by omega,w3,λk s hk=>?_,w5⟩ gO (λb o n=>yf (λz=>by rw[z]at n;rw[ST _ _ n]at nq;cases nq) (S3 _ _ (ST _ _ n)))
  .obtain⟨o,ho,hi⟩:=N.own b x;exists o,yf (λz=>W (z ▸ x)) ho,hi
  .obtain⟨U,q2,q3,q4,q5⟩:=w4 k s hk;exists U,yf (λz=>W (z ▸ q5)) q2,q3,q4,q5
#synth ywu ["self","many"] ytq
def ypy:vz P w K mg Γ CX0 1 a.Gj a.Lu ["self","many"] (ylu a):=by
 exists T.Dr.F.ok,ywu,o;let⟨p,g,n,rfl,m,q,e,k⟩:=h;exists 2,0,yc (y9 (pv 0) (ym yb1 (xc (pa1 (vk rfl T.Ed))) (pv 1)) rfl);exists by walk_at "len",λr hr0=>?_
 exists hr0,H1,S1,e1;ext;exists r,n,_,rfl,rfl,e1,by omega,by omega,jf (by show 1*(n:Int).toNat<=16000000;omega),λl hl=>?_
 rw[jo];exists hl,H2,S2,e2;have b:=S1.trans S2;have j:=b _ _ e;ext;have d:l≠p:=λz=>by rw[z,S1 _ _ e]at hl;cases hl
 exact k l _ (S1.free hl) ⟨ya,yf d e2⟩ ((But.of b).trans But.upd)
#synth yxg ["self","chances"] yu9
def vap:vz P w K mg Γ CX0 1 a.Ja a.Lv ["self","chances"] (yht K a):=by
 exists T.Hk.F.ok,yxg,hr;let⟨p,dx,l,c,I,v,n,rfl,S,n6,e,hc,⟨X,z⟩,L,k⟩:=h;exists _,(yc (yq (ym vd (pcB (Ì rfl) T.Ec (pa1 (Ź (js:=[]) (ys:=[]) (xs:=["weight","chance"]) (g:=ywh K 2 (zi (w9 0) (zi (w9 1) yla))) rfl (ypx rfl T.I6 (pac (yn (pv 0) rfl) (pa1 (pv 1)))) (λC s2 q fp=>(ym wq (pv 0) (pv 1))) rfl (λC s2 q fp=>ĭ rfl (xf (vn (i:=0) (show List.Nodup ((["weight","chance"]:Τ)++([]:Τ)) by right) rfl (Or.inl rfl)) (xf (vn (i:=1) (show List.Nodup ((["weight","chance"]:Τ)++([]:Τ)) by right) rfl (Or.inl rfl)) À))) rfl (hyc:=yt) (hrel:=yt)))) (pcB (Ì rfl) T.Ec (pa1 (yn (pv 0) rfl)))))),?_;exists 2,0;have d:v.length=I.length:=by rw[e.len,hc.len]
 ext;exists l,c,rfl,⟨_,_,SqL.of z,L⟩,λD M=>?_;refine ő (λi=>V.int ((I[i]?).getD 0*(v[i]?).getD 0)) (SqL.of z) L (by rw[bf,bf,d]) M (λi x y q J a0 U hy f b t m=>?_) (λq f b=>?_)
 .obtain⟨Y,W,rfl⟩:=ykn m;let⟨w,rfl,N,wi,Z⟩:=z5 U;let⟨u,rfl,um,ui,_⟩:=z5 hy;have w1:=e.one w N;have w2:=e.top w N;have O:=f.trans (y7 (o:=HO.tup [V.int w,V.int u]) t);have r:=za (o':=HO.tup [V.int w,V.int u]) t b;have j:upd q J (HO.tup [V.int w,V.int u]) J=some (.tup [V.int w,V.int u]):=ya;generalize upd q J (HO.tup [V.int w,V.int u])=H3 at O r j;refine Į (SqT.of j) rfl ?_;show zi (w9 0) (zi (w9 1) yla) [V.int w,V.int u] (Y::W::ud [] [some (V.ref p),some (V.ref c)]) H3 _;ext;exists⟨[some (.int w),some (.int u)],rfl,rfl⟩,?_;ext;refine Mp.doneR M (ve (by rw[bf,e.len];omega)) (by rw[bf];exact Z) O r ?_;rw[wi,ui];rfl
 .have b:=yd3 b (ypv (g:=λw c=>w*c) d);have a2:=f _ _ X;have B:=f _ _ z;have p1:=e.pos S;have p2:=e.small n6;ext;exists D,_,rfl,SqL.of b,?_;ext;exists l,_,rfl,SqL.of B,?_;ext;exact k _ f
#synth Ŗ ["self","chances","bit","shares","whole","own","grown","dropped"] ["self","chances","bit"] yv3
def va2:vz P w K mg Γ (CXe P w) 5 a.Jb a.Lx ["self","chances","bit"] (yhv K a a.Bx):=by
 exists T.Hl.F.okE,Ŗ,hr;let⟨p,dx,l,c,I,r,n,x,m,rfl,n1,n6,hw,hc,⟨hp,hl⟩,hq,ty,k1,k2⟩:=h;refine yh (yw (x3 (ĩ T) hr.m T.Cl yz (pa1 (pv 2)))) ?_;refine yh (yli (i:=3) (js:=[2]) (ys:=["bit"]) (xs:=["weight","chance"]) (g:=ywh K 2 (zi (w9 0) (zi (w9 1) yla))) Ŗ.nd rfl rfl rfl (ypx rfl T.I6 (pac (yn (pv 0) rfl) (pa1 (pv 1)))) (λC s2 L fp=>(ym wq (pv 0) (x3 (vai T) hr.m T.Nw vg (pac (pv 1) (pa1 (pv 2)))))) rfl (λC s2 L fp=>ĭ rfl (xf (vn (i:=0) (show List.Nodup ((["weight","chance"]:Τ)++(["bit"]:Τ)) by right) rfl (Or.inl rfl)) (xf (vn (i:=1) (show List.Nodup ((["weight","chance"]:Τ)++(["bit"]:Τ)) by right) rfl (Or.inl rfl)) À))) rfl (hyc:=(all_cons rfl yt)) (hrel:=(all_cons rfl yt))) ?_;refine yh (yo (i:=4) Ŗ.nd rfl (Or.inr rfl) (pcB (Ì rfl) T.Ec (pa1 (pv 3)))) ?_;refine yh (yo (i:=5) Ŗ.nd rfl (Or.inr rfl) (ym wq (vk rfl T.I7) (pcB yp T.Aa (pa1 (pv 3))))) ?_;refine yh (yen (i:=6) (js:=[4,5]) (ys:=["whole","own"]) Ŗ.nd rfl rfl rfl (vx (pv 3)) (λC s2 L fp=>(ym wc (ym wq (pv 2) (pv 0)) (pv 1))) rfl rfl (hyc:=(all_cons rfl (all_cons rfl yt))) (hrel:=(all_cons rfl (all_cons rfl yt)))) ?_;refine yh (yo (i:=7) Ŗ.nd rfl (Or.inr rfl) (pcB (ē rfl) T.I5 (pac (ym zx (yj5 PySem.F.plainAttrs_int PySem.F.slot_int_bit_length PySem.F.type_int_bit_length ysd (pcB (Ì rfl) T.Ec (pa1 (pv 6)))) (vk rfl T.Ee)) (pa1 yg)))) ?_;exists _,(yc (y9 (pv 0) (wb (js:=[7]) (ys:=["dropped"]) rfl (vx (pv 6)) (λC s2 L fp=>(ym yp6 (pv 0) (pv 1))) rfl rfl (hyc:=(all_cons rfl yt)) (hrel:=(all_cons rfl yt))) rfl)),?_;exists 3,5;have q:r.length=I.length:=by rw[hw.len,hc.len]
 ext;exists x,m,rfl,ty,λhx=>?_,k2;let⟨b,rfl,b0,b1⟩:=ye7 hx;have k:=k1 b rfl b0 b1;ext;exists l,c,rfl,⟨_,_,SqL.of hl,hq⟩,λD hD=>?_;refine ő (λi=>V.int ((I[i]?).getD 0*giv ((r[i]?).getD 0) b)) (SqL.of hl) hq (by rw[bf,bf,q]) hD (λi x y L tt a9 hx O S d a1 W=>?_) (λL S d=>?_)
 .obtain⟨v1,v2,rfl⟩:=ykn W;let⟨w,rfl,wm,wi,il⟩:=z5 hx;let⟨u,rfl,um,ui,_⟩:=z5 O;have w1:=hw.one w wm;have w2:=hw.top w wm;have a6:=yeq (va7 hc um);have a5:=ydg b0 b1;have J:=S.trans (y7 (o:=HO.tup [V.int w,V.int u]) a1);have a0:=za (o':=HO.tup [V.int w,V.int u]) a1 d;have U:upd L tt (HO.tup [V.int w,V.int u]) tt=some (.tup [V.int w,V.int u]):=ya;generalize upd L tt (HO.tup [V.int w,V.int u])=H3 at J a0 U;refine Į (SqT.of U) rfl ?_;show zi (w9 0) (zi (w9 1) yla) [V.int w,V.int u] (v1::v2::ud [2] [some (V.ref p),some (V.ref c),some (V.int b),none,none,none,none,none]) H3 _;ext;exists⟨[some (.int w),some (.int u)],rfl,rfl⟩,?_;ext;exists .int u,_,.int b,_,rfl,.int u,.int b,λz=>(by rw[a6]at z;cases z),λF z=>(by rw[a5]at z;cases z),λc' b' ec eb F F=>?_;cases ec;cases eb;ext;refine Mp.doneR hD (ve (by rw[bf,hw.len];omega)) (by rw[bf];exact il) J a0 ?_;rw[wi,ui];rfl
 .have d:L D=some (.lst ((shL I r b).map V.int)):=yd3 d (ypv (g:=λw c=>w*giv c b) q);have j:(shL I r b).length=n:=by rw[ydd q.symm,hw.len]
  have a4:=S _ _ hp;have ek:lrn I r b=(grL (shL I r b)).map λv=>v/2^tOf (grL (shL I r b)).sum:=rfl;rw[ek]at k;generalize shL I r b=M at d j k;have eg:grL M=M.map λs=>31*(n:Int)*s+M.sum:=by rw[<- j];rfl
  ext;exists D,_,rfl,SqL.of d,?_;ext;refine x5 (SqL.of d) ?_;rw[bf,j];ext;exists D,rfl,⟨_,SqL.of d⟩,λG hG=>?_;refine z9 (onI λs=>31*(n:Int)*s+M.sum) (SqL.of d) hG (λi y H3 O J f=>?_) (λH3 J f=>?_)
  .obtain⟨s',rfl,_,_,il⟩:=z5 O;show tOp _ _ _ (some (V.int s')::ud [4,5] [some (V.ref p),some (V.ref c),some (V.int b),some (V.ref D),some (V.int M.sum),some (V.int (31*(n:Int))),none,none]) H3 _;ext;exact Mp.done hG (ve (by rw[bf,j];omega)) O J f rfl
  .rw[yi5,<- eg]at f;have Y:(grL M).length=n:=by rw[yjj,j]
   generalize grL M=N at f k Y;have X:=J _ _ a4;ext;exists G,_,rfl,SqL.of f,?_;ext;exists _,_,rfl,?_
   have et:(if (0:Int) > ((Builtin.Int.intBits N.sum:Nat):Int)-48 then (0:Int)else ((Builtin.Int.intBits N.sum:Nat):Int)-48)=((tOf N.sum:Nat):Int):=by
    show _=(((yns N.sum)-48:Nat):Int);have e:Builtin.Int.intBits N.sum=yns N.sum:=rfl;rw[e]
    split<;>omega
   rw[et];generalize tOf N.sum=t at k;ext;exists G,rfl,⟨_,SqL.of f⟩,λZ R=>?_;refine z9 (onI λv=>v/2^t) (SqL.of f) R (λi y H4 O S4 B=>?_) (λH4 S4 B=>?_)
   .obtain⟨s',rfl,_,_,il⟩:=z5 O;show tOp _ _ _ (some (V.int s')::ud [7] [some (V.ref p),some (V.ref c),some (V.int b),some (V.ref D),some (V.int M.sum),some (V.int (31*(n:Int))),some (V.ref G),some (V.int (t:Int))]) H4 _;ext;refine i_I (Int.natCast_nonneg t) ?_;exact Mp.done R (ve (by rw[bf,Y];omega)) O S4 B rfl
   .rw[yi5]at B;have a7:=S4 _ _ X;ext;have nz:Z≠p:=λz=>by rw[z,X]at R;cases R
    have a2:=S.trans (J.trans S4);exact k Z _ ((S.trans J).free R) ⟨ya,yf nz B⟩ ((But.of a2).trans But.upd)
#synth yo7 ["self","made"] ["self"] yuq
inductive yma(a:Ads)(vs:Υ)(H:Hp)(Q:VK)(E':XK):Prop
 |mk(p dx l:x0)(ws:Ρ)(_:vs=[.ref p])(_:yg3 a p dx l ws H)(_:1<=ws.length)(_:ws.length<=6)(_:∀q dq l' H',H q=none->H l'=none->yg3 a q dq l' ws H'->yv H H'->Q (.ref q) H')
def yxy:vz P w K mg Γ CX0 3 a.Jc a.Ly ["self"] (yma a):=by
 exists T.Hm.F.ok,yo7,D;let⟨p,R,l,x,rfl,⟨I,t⟩,C,M,k⟩:=h;exists 1,1,yd (yo (i:=1) yo7.nd rfl (Or.inl rfl) (ĥ T.Ry (ypy T) D.m rfl T.Rx T.Dr.B .nil v7 (pa1 (pcB yp T.Aa (pa1 (yn (pv 0) rfl)))))) (yd (y9 (pv 1) (pcT w6 T.Af (pa1 (yn (pv 0) rfl))) rfl) (yc (yq (pv 1))));refine x5 (SqL.of t) ?_;rw[bf];ext;intro q v g n O;exists q,v,x.length,rfl,C,M,ya,λU S u M1 N=>⟨rfl,?_⟩;have d:=ä g n N;have c:=M1.o;have J:=d _ _ I;ext;refine ý (SqL.of (d _ _ t)) λr hr0=>?_;exists hr0,H2,S2,er;have G:=S2 _ _ c;ext;have f:r≠q:=λz=>by rw[z,c]at hr0;cases hr0
 exact k q v r _ g (d.free hr0) ⟨ya,yf f er⟩ λb o e=>yf (yb e g) (S2 _ _ (d _ _ e))
#synth vbf ["self"] yvz
def Û.sqt{H H':Hp}{dx lk d:x0}{kd:Fin 3}{f:qi Int->qj Slt}{O:Ν}{m:Nat}(h:Û a H p dx lk d kd f O m)(B:ynx O H H'){t:x0}{xs:Υ}(e:SqT K H t xs):SqT K H' t xs:=by
 have i:∀o:HO,H t=some o->ywb o=false->H' t=some o:=λo g j=>B _ _ g λz=>by
  let⟨k,b,c⟩:=h.own t z;rw[g]at b;cases b;rw[j]at c;cases c
 rcases e with(e|⟨o,e⟩)|e
 .exact .inl (.inl (i _ e rfl))
 .exact .inl (.inr ⟨o,i _ e rfl⟩)
 .exact .inr e
def Û.up{H:Hp}{dx lk d:x0}{kd:Fin 3}{f:qi Int->qj Slt}{O:Ν}{m:Nat}(h:Û a H p dx lk d kd f O m)(hm:m<=m'):Û a H p dx lk d kd f O m':=by let⟨b,c,g,i,e⟩:=h.tb;exists h.me,h.own,h.np,h.dO,h.ky,b,c,g,bQ i hm,e
def z6.mvT{H H':Hp}{k:x0}{x:V}{ps:Ρ}(h:z6 K H k x ps)(h1:∀t xs,SqT K H t xs->SqT K H' t xs):z6 K H' k x ps:=by let⟨t,c,b,d,a⟩:=h;exists t,h1 _ _ c,h1 _ _ b,d,a
def refs(g:Μ)(n:Nat):Υ:=(List.range n).map λi=>V.ref (g i)
def vv(g:Μ)(n:Nat):(refs g n).length=n:=by unfold refs;rw[bf,bV]
def uw{g:Μ}{n:Nat}{x:V}(h:(refs g n)[i]?=some x):x=.ref (g i)/\i<n:=by
 have a:i<n:=by
  have:=(bw.mp h).1;rw[vv]at this;exact this
 unfold refs at h;rw[bo,cF a]at h;exists(bE h).symm,a
def x6(g:Μ)(n:Nat):refs g (n+1)=refs g n++[.ref (g n)]:=by unfold refs;rw[List.range_succ,bH];rfl
def xy{g h:Μ}{n:Nat}(e:∀i,i<n->g i=h i):refs g n=refs h n:=by unfold refs;exact List.map_congr_left λi a=>by rw[e i (cA.mp a)]
structure Bks(K:xr)(a:Ads)(H:Hp)(n:Nat)(bk dx lk dd:Μ)(kd:Ξ)(ps:Λ)(f:Α)(O:Β)(m:Nat):Prop where
 look:∀i,i<n->z6 K H (lk i) (.str (kdS (kd i))) (ps i)
 b:∀i,i<n->Û a H (bk i) (dx i) (lk i) (dd i) (kd i) (f i) (O i) m
 dj:∀i j c,i<n->j<n->i≠j->O i c->¬O j c
 nb:∀i j,i<n->j<n->¬O i (bk j)
def AtS(H:Hp)(d:x0)(k:Ρ)(q:x0):Prop:=∀kvs,H d=some (.dT kvs)->zn kvs (kI k)=some (.ref q)
def Û.slot{H:Hp}{dx lk d:x0}{kd:Fin 3}{f:qi Int->qj Slt}{O:Ν}{m:Nat}{k:Ρ}{s:Slt}(h:Û a H p dx lk d kd f O m)(hf:f k=some s)(hq:AtS H d k q):∃dq,H q=some (oS a dq s)/\s.ok/\s.kind=kd/\O q:=by let⟨b,c,j,v,t,o,u⟩:=h.tb;let⟨g,l,r,i,n⟩:=o k s hf;have e:=hq b j;rw[g]at e;injection e with e;injection e with e;subst e;exists _,l,r,i,n
def Û.told{H H':Hp}{dx lk d:x0}{kd:Fin 3}{f:qi Int->qj Slt}{O:Ν}{m:Nat}{k:Ρ}{s:Slt}{b:Int}(h:Û a H p dx lk d kd f O m)(hf:f k=some s)(hq:AtS H d k q)(b0:0<=b)(b1:b<=1)
  (h3:H' q=some (oS a dq (s.see b))) (B:But q H H'):Û a H' p dx lk d kd (ā f k (s.see b)) O m:=by
 have F:=h.me;let⟨u,l,v,T,D,I,K⟩:=id h.tb;let⟨J,G,q3,S,L⟩:=I k s hf;have e:=hq u v;rw[J]at e;injection e with e;injection e with e;have x:p≠q:=λz=>h.np (by rw[z,<- e];exact L)
 have r:d≠q:=λz=>by
  let⟨C,W,A⟩:=η a (l k).2 s;rw[e,<- z,v,A]at G;cases G
 exists B _ _ F x,λc Y=>?_,h.np,h.dO,h.ky.mv v (B _ _ v r),u,λj=>if j=k then (q,dq)else l j,B _ _ v r,T,λj i=>?_,λj n i=>?_,λy E s1 s2 X U el=>?_
 .obtain⟨o,R,Z⟩:=h.own c Y;by_cases z:c=q
  .rw[z];let⟨C,W,A⟩:=η a dq (s.see b);exists _,h3,by rw[A];rfl
  .exists o,B _ _ R z,Z
 .refine D j ?_;unfold ā at i
  split at i
  .cases i
  .exact i
 .unfold ā at i;by_cases z:j=k
  .rw[if_pos z]at i;cases i;subst z;dsimp only;rw[if_pos rfl];exists by rw[J,e],h3,Slt.see_ok q3 b0 b1,(ym3 s b).trans S,e ▸ L
  .rw[if_neg z]at i;let⟨P,p2,p3,M,p5⟩:=I j n i;dsimp only;rw[if_neg z];exists P,B _ _ p2 (λw=>z (K j k n s i hf (w.trans e.symm))),p3,M,p5
 .have g:∀j n,ā f k (s.see b) j=some n->∃t,f j=some t:=λj n h=>by
   unfold ā at h;by_cases z:j=k
   .exists s,by rw[z];exact hf
   .rw[if_neg z]at h;exists n,h
  let⟨Q,N⟩:=g y s1 X;let⟨t2,f2⟩:=g E s2 U;refine K y E Q t2 N f2 ?_
  have yqk:∀j,(if j=k then ((q,dq):x0×x0)else l j).1=(l j).1:=λj=>by
   by_cases z:j=k
   .rw[if_pos z,z];exact e.symm
   .rw[if_neg z]
  rw[<- yqk y,<- yqk E];exact el
def AtS.told{H H':Hp}{dx lk d:x0}{kd:Fin 3}{f:qi Int->qj Slt}{O:Ν}{m:Nat}{k:Ρ}(h:Û a H p dx lk d kd f O m){r:x0}(hd:d≠r)(B:But r H H')(hq:AtS H d k q):AtS H' d k q:=λg e=>by
 let⟨b,i,c,_⟩:=h.tb;rw[B _ _ c hd]at e;cases e;exact hq _ c
section
variable{H H':Hp}{n m:Nat}{bk dx lk dd:Μ}{kd:Ξ}{ps:Λ}{f:Α}
theorem Bks.frame(h:Bks K a H n bk dx lk dd kd ps f O m){O2:Ν}(B:ynx O2 H H')(dj:∀i b,i<n->O i b->¬O2 b)(hp:∀i,i<n->¬O2 (bk i))(ht:∀t xs,SqT K H t xs->SqT K H' t xs):Bks K a H' n bk dx lk dd kd ps f O m :=
 ⟨λi c=>(h.look i c).mvT ht,λi c=>(h.b i c).frame B (λb d=>dj i b c d) (hp i c),h.dj,h.nb⟩
def Bks.same(h:Bks K a H n bk dx lk dd kd ps f O m)(S:yv H H'):Bks K a H' n bk dx lk dd kd ps f O m :=
 h.frame (O2:=λZ=>False) (λb o e Z=>S b o e) (λZ Z Z Z z=>z) (λZ Z z=>z) λZ Z e=>S.tup e
def Bks.move(h:Bks K a H n bk dx lk dd kd ps f O m)(hj:j<n){f':qi Int->qj Slt}{O':Ν}(hm:m<=m')(hb:Û a H' (bk j) (dx j) (lk j) (dd j) (kd j) f' O' m')(hO:∀c,O' c->O j c\/H c=none)(B:ynx (O j) H H'):
  Bks K a H' n bk dx lk dd kd ps (λi=>if i=j then f' else f i) (λi=>if i=j then O' else O i) m':=by
 have A:=h.b j hj
 have g:∀q c,q<n->q≠j->O q c->¬O' c:=λq c D y w E=>by
  rcases hO c E with v|v
  .exact h.dj q j c D hj y w v
  .obtain⟨o,C,_⟩:=(h.b q D).own c w;rw[v]at C;cases C
 exists λi d=>(h.look i d).mvT λt F e=>A.sqt B e,λi d=>?_,λi l c d r s p k=>?_,λi l d r e=>?_
 .try dsimp only
  by_cases z:i=j
  .subst z;rw[if_pos rfl,if_pos rfl];exact hb
  .rw[if_neg z,if_neg z];exact((h.b i d).frame B (λb x=>h.dj i j b d hj z x) (h.nb j i hj d)).up hm
 .try dsimp only at p k
  by_cases z1:i=j
  .rw[if_pos z1]at p;have u:l≠j:=λw=>s (z1.trans w.symm);rw[if_neg u]at k;exact g l c r u k p
  .rw[if_neg z1]at p;by_cases u:l=j
   .rw[if_pos u]at k;exact g i c d z1 p k
   .rw[if_neg u]at k;exact h.dj i l c d r s p k
 .try dsimp only at e
  by_cases z:i=j
  .rw[if_pos z]at e;rcases hO _ e with v|v
   .exact h.nb j l hj r v
   .rw[(h.b l r).me]at v;cases v
  .rw[if_neg z]at e;exact h.nb i l d r e
def AtS.move(h:Bks K a H n bk dx lk dd kd ps f O m)(hi:i<n)(hj:j<n)(hij:i≠j)(B:ynx (O j) H H'){k:Ρ}(hq:AtS H (dd i) k q):AtS H' (dd i) k q:=λg e=>by
 let⟨c,l,d,_⟩:=(h.b i hi).tb;rw[B _ _ d (h.dj i j _ hi hj hij (h.b i hi).dO)]at e;cases e;exact hq _ d
def Bks.nlst(h:Bks K a H n bk dx lk dd kd ps f O m){l:x0}{xs:Υ}(hl:H l=some (.lst xs)):∀i,i<n->¬O i l:=λi e z=>by
 let⟨o,d,c⟩:=(h.b i e).own l z;rw[hl]at d;cases d;cases c
end
def ylg(n:Nat)(kd:Ξ)(f:Α)(g:Nat->qi Int->Slt):Prop:=∀i,i<n->∀k,(f i k).getD (kd0 (kd i))=g i k
def ylg.put{n:Nat}{kd:Ξ}{f:Α}{g:Nat->qi Int->Slt}(h:ylg n kd f g)(j:Nat)(hj:j<n)(k:Ρ):ylg n kd (λi=>if i=j then ā (f j) k ((f j k).getD (kd0 (kd j)))else f i) g:=λi b a=>by
 dsimp only;by_cases z:i=j
 .subst z;rw[if_pos rfl];unfold ā;by_cases w:a=k
  .rw[if_pos w,w];exact h i b k
  .rw[if_neg w];exact h i b a
 .rw[if_neg z];exact h i b a
inductive yfj(K:xr)(a:Ads)(vs:Υ)(H:Hp)(Q:VK)(E':XK):Prop
 | mk(p dp ll bl mp el pl0:x0)(nd:Int)(sg:Ρ)(n m:Nat)(bk dx lk dd:Μ)(kd:Ξ)(ps:Λ)(f:Α)(O:Β)(g:Nat->qi Int->Slt)(_:vs=[.ref p])(_:H p=some (.ins a.A2 dp (zu (.ref ll) (.ref bl) (.ref mp) (.ref el) (.int nd) (.ref pl0))))(_:H bl=some (.lst (refs bk n)))(_:H el=some (.lst (sg.map V.int)))(_:Bks K a H n bk dx lk dd kd ps f O m)(_:ylg n kd f g)(_:n<=6)(_:m+10<1000000)(_:(∀i,i<n->¬O i p))(_:∀(pl:x0)(sl:Μ)(f':Α)(O':Β)(H':Hp),H' p=some (.ins a.A2 dp (zu (.ref ll) (.ref bl) (.ref mp) (.ref el) (.int nd) (.ref pl)))->H' pl=some (.lst (refs sl n))->H pl=none ->
  Bks K a H' n bk dx lk dd kd ps f' O' (m+n)->ylg n kd f' g->(∀j,j<n->(∃s,f' j (ctx (ps j) sg nd)=some s)/\AtS H' (dd j) (ctx (ps j) sg nd) (sl j))->(∀j c,j<n->O' j c->O j c\/H c=none) ->
  (∀c o,H c=some o->c≠p->(∀j,j<n->¬O j c)->H' c=some o)->(∀c o,H c=some o->∃o',H' c=some o')->Q .non H')
def ykm:vz P w K mg Γ CX0 5 a.Jd a.M0 ["self"] (yfj K a):=by
 exists T.Cr.F.ok,vbf,hr;let⟨p,dp,ll,bl,mp,el,ag,L,W,n,m,Y,dx,lk,Z,kd,R,f,O,g,rfl,hp,X,a3,hB,hA,n6,hm,np,k⟩:=h;exists 1,0,yc (y9 (pv 0) (wb (js:=[0]) (ys:=["self"]) rfl (vx (yn (pv 0) rfl)) (λC s2 H2 fp=>(xg (pv 0) T.C5 T.Hi.m (vaj T) hr.m T.Hi.B .nil v7 (pac (ydf (K:=K) rfl (pv 1) rfl) (pa1 (ydf (K:=K) rfl (pv 1) rfl))))) rfl rfl (hyc:=(all_cons rfl yt)) (hrel:=(all_cons rfl yt))) rfl);exists bl,rfl,⟨_,SqL.of X⟩,λD N=>?_;have aa:=hB.nlst X;have ae:=hB.nlst a3;refine j3 (K:=K) (xs:=refs Y n) (λi G=>∃(u:Μ)(M:Α)(J:Β),G D=some (.lst (refs u i))/\Bks K a G n Y dx lk Z kd R M J (m+i)/\ylg n kd M g/\(∀j,j<i->(∃s,M j (ctx (R j) W L)=some s)/\AtS G (Z j) (ctx (R j) W L) (u j))/\
  (∀j c,j<n->J j c->O j c\/H c=none)/\(∀c o,H c=some o->(∀j,j<n->¬O j c)->G c=some o)/\(∀c o,H c=some o->∃o',G c=some o'))
  ⟨λF=>0,f,O,ya,hB.same (y7 N),hA,λj d=>absurd d (bJ j),λj c F z=>.inl z,λc o e F=>za N e,λc o e=>⟨o,za N e⟩⟩ (λi G F z=>?_) (λi x G hx hi z=>?_) (λG z=>?_)
 .obtain⟨_,_,_,_,_,_,_,_,w,_⟩:=z;exact SqL.of (w _ _ X aa)
 .obtain⟨u,M,J,gD,r,gA,gS,gO,gF,gL⟩:=z;let⟨rfl,l⟩:=uw hx;have I:=gF _ _ hp np;have a2:=gF _ _ a3 ae;have ai:=(r.b i l).me;show Ł _ _ _ _ _ _ _ (some (V.ref (Y i))::ud [0] [some (V.ref p)]) G _;ext;exists Y i,dx i,lk i,Z i,el,kd i,M i,J i,m+i,R i,W,L,rfl,r.b i l,by omega,r.look i l,SqL.of a2,λq O2 G2 a7 hv a1 af B2=>?_
  have nD:=r.nlst gD;have y:G2 D=some (.lst (refs u i)):=B2 _ _ gD (nD i l);refine we (n:=(refs Y n).length) y (ve (by rw[vv];omega)) hi ?_;have M2:=r.move l (Nat.le_succ (m+i)) a7 a1 B2;have a6:=M2.nlst y;have S:∀c o,G2 c=some o->c≠D->upd G2 D (.lst (refs u i++[V.ref q])) c=some o:=λc o e U=>yf U e
  have M3:=M2.frame (O2:=λc=>c=D) (λc o e U=>S c o e U) (λj c d w z=>a6 j d (z ▸ w)) (λj d z=>by
   have:=(M2.b j d).me;rw[z,y]at this
   cases this) (λt xs e=>by
   rcases e with(e|⟨o,e⟩)|e
   .exact .inl (.inl (S _ _ e (λz=>by rw[z,y]at e;cases e)))
   .exact .inl (.inr ⟨o,S _ _ e (λz=>by rw[z,y]at e;cases e)⟩)
   .exact .inr e)
  have up:∀j,j<n->AtS G2 (Z j) (ctx (R j) W L) (if j=i then q else u j)->AtS (upd G2 D (.lst (refs u i++[V.ref q]))) (Z j) (ctx (R j) W L) (if j=i then q else u j):=λj d h =>
   h.told (M2.b j d) (λz=>a6 j d (by rw[<- z];exact(M2.b j d).dO)) (λc o e U=>S c o e U)
  exists λj=>if j=i then q else u j,_,_,?_,M3,gA.put i l _,λj d=>?_,λj c d w=>?_,λc o e no=>?_,λc o e=>?_
  .rw[ya,x6,if_pos rfl]
   congr 3
   exact xy λj d=>(if_neg (by omega)).symm
  .by_cases z:j=i
   .subst z;exists⟨(M j (ctx (R j) W L)).getD (kd0 (kd j)),?_⟩,up j l ?_
    .try dsimp only
     rw[if_pos rfl];unfold ā;rw[if_pos rfl]
    .rw[if_pos rfl];exact hv
   .have a0:j<n:=by omega
    let⟨⟨s',ac⟩,a9⟩:=gS j (by omega);exists⟨s',?_⟩,up j a0 ?_
    .try dsimp only
     rw[if_neg z];exact ac
    .rw[if_neg z];exact a9.move r a0 l z B2
  .try dsimp only at w
   by_cases z:j=i
   .subst z;rw[if_pos rfl]at w;rcases a1 c w with v|v
    .exact gO j c d v
    .refine .inr ?_
     cases e:H c with
     |none=>rfl
     |some o =>
      let⟨o',w'⟩:=gL c o e;rw[w']at v;cases v
   .rw[if_neg z]at w;exact gO j c d w
  .have hG:=gF c o e no
   have nc:¬J i c:=λw=>by
    rcases gO i c l w with v|v
    .exact no i l v
    .rw[e]at v;cases v
   refine S _ _ (B2 _ _ hG nc) (λz=>?_);rw[z,N]at e;cases e
  .obtain⟨o1,w1⟩:=gL c o e;have a5:c≠D:=λz=>by rw[z,N]at e;cases e
   by_cases w2:J i c
   .obtain⟨o2,a8,_⟩:=a7.own c (af c w2);exists o2,S _ _ a8 a5
   .exists o1,S _ _ (B2 _ _ w1 w2) a5
 .obtain⟨u,M,J,gD,r,gA,gS,gO,gF,gL⟩:=z;rw[vv]at gD r gS;have I:=gF _ _ hp np;ext;have ab:D≠p:=λz=>by rw[z,hp]at N;cases N
  have BP:But p G (upd G p (.ins a.A2 dp (zu (.ref ll) (.ref bl) (.ref mp) (.ref el) (.int L) (.ref D)))):=But.upd
  have a4:∀i,i<n->¬J i p:=λi hi w=>by
   rcases gO i p hi w with v|v
   .exact np i hi v
   .rw[hp]at v;cases v
  have M3:=r.frame (O2:=λc=>c=p) (λc o e U=>BP c o e U) (λj c d w z=>a4 j d (z ▸ w)) (λj d z=>by
   have:=(r.b j d).me;rw[z,I]at this;injection this with this;injection this with _ _ e
   exact absurd (congrArg List.length e) (show ¬(6=2) by decide)) (λt xs e=>by
   rcases e with(e|⟨o,e⟩)|e
   .exact .inl (.inl (BP _ _ e (λz=>by rw[z,I]at e;cases e)))
   .exact .inl (.inr ⟨o,BP _ _ e (λz=>by rw[z,I]at e;cases e)⟩)
   .exact .inr e)
  refine k D u M J _ ya (yf ab gD) N M3 gA (λj d=>⟨(gS j d).1,(gS j d).2.told (r.b j d) (λz=>a4 j d (by rw[<- z];exact(r.b j d).dO)) BP⟩) gO (λc o e nc no=>BP _ _ (gF c o e no) nc) λc o e=>?_;by_cases zc:c=p
  .rw[zc];exists _,ya
  .obtain⟨o1,w1⟩:=gL c o e;exists o1,BP _ _ w1 zc
structure FA where
 dp:x0
 ll:x0
 bl:x0
 mp:x0
 mx:x0
 ml:x0
 el:x0
 pl:x0
 n:Nat
 bk:Μ
 dx:Μ
 lk:Μ
 dd:Μ
 sl:Μ
 kd:Ξ
 ps:Λ
structure FX where
 g:Nat->qi Int->Slt
 ws:Ρ
 sg:Ρ
 nd:Int
def FX.key(X:FX)(A:FA)(i:Nat):Ρ:=ctx (A.ps i) X.sg X.nd
def FX.cs(X:FX)(A:FA):Ρ:=(List.range A.n).map λi=>(X.g i (X.key A i)).due
def ndN(nd b:Int):Int:=if 0<nd then (if 256<=2*nd+b then 0 else 2*nd+b)else if b=1 then 1 else nd
def sgN(sg:Ρ)(nd b:Int):Ρ:=if 0<nd then (if 256<=2*nd+b then sg++[2*nd+b-256]else sg)else if b=1 then sg else []
def FX.see(X:FX)(A:FA)(b:Int):FX:={ g:=λi k=>if k=X.key A i then (X.g i k).see b else X.g i k,ws:=lrn X.ws (X.cs A) b,sg:=sgN X.sg X.nd b,nd:=ndN X.nd b}
structure u7(K:xr)(a:Ads)(H:Hp)(p:x0)(A:FA)(X:FX)(f:Α)(O:Β)(m:Nat):Prop where
 me:H p=some (.ins a.A2 A.dp (zu (.ref A.ll) (.ref A.bl) (.ref A.mp) (.ref A.el) (.int X.nd) (.ref A.pl)))
 bl:H A.bl=some (.lst (refs A.bk A.n))
 el:H A.el=some (.lst (X.sg.map V.int))
 mx:yg3 a A.mp A.mx A.ml X.ws H
 wok:WOk A.n X.ws
 pl:H A.pl=some (.lst (refs A.sl A.n))
 B:Bks K a H A.n A.bk A.dx A.lk A.dd A.kd A.ps f O m
 ag:ylg A.n A.kd f X.g
 at':∀j,j<A.n->(∃s,f j (X.key A j)=some s)/\AtS H (A.dd j) (X.key A j) (A.sl j)
 np:∀i,i<A.n->¬O i p
 nm:∀i,i<A.n->¬O i A.mp
 n1:1<=A.n
 n6:A.n<=6
theorem u7.same{H H':Hp}{A:FA}{X:FX}{f:Α}{m:Nat}(h:u7 K a H p A X f O m)(S:yv H H'):u7 K a H' p A X f O m :=
 ⟨S _ _ h.me,S _ _ h.bl,S _ _ h.el,h.mx.same S,h.wok,S _ _ h.pl,h.B.same S,h.ag,λj c=>⟨(h.at' j c).1,λi e=>by
  let⟨d,k,g,_⟩:=(h.B.b j c).tb;rw[S _ _ g]at e;cases e;exact(h.at' j c).2 _ g⟩,h.np,h.nm,h.n1,h.n6⟩
theorem u7.slot{H:Hp}{A:FA}{X:FX}{f:Α}{m:Nat}(h:u7 K a H p A X f O m)(hj:j<A.n):
  f j (X.key A j)=some (X.g j (X.key A j))/\(∃dq,H (A.sl j)=some (oS a dq (X.g j (X.key A j))))/\(X.g j (X.key A j)).ok/\O j (A.sl j):=by let⟨⟨s,d⟩,c⟩:=h.at' j hj;have e:=h.ag j hj (X.key A j);rw[d]at e;have e:s=X.g j (X.key A j):=e;rw[<- e];let⟨dq,i,k,o,l⟩:=(h.B.b j hj).slot d c;exists d,⟨dq,i⟩,k,l
def u7.cok{H:Hp}{A:FA}{X:FX}{f:Α}{m:Nat}(h:u7 K a H p A X f O m):COk A.n (X.cs A):=by
 exists by unfold FX.cs;rw[bf,bV],λc b=>?_,λc b=>?_
 .obtain⟨j,d,rfl⟩:=br.mp b;exact(ye0 (h.slot (cA.mp d)).2.2.1).1
 .obtain⟨j,d,rfl⟩:=br.mp b;exact(ye0 (h.slot (cA.mp d)).2.2.1).2
def LkG.at'{H:Hp}{lk tp:x0}{kd:Fin 3}{ps:Ρ}(h:LkG H (.ref lk) kd tp ps):z6 K H lk (.str (kdS kd)) ps:=by
 let⟨d,e,b,c,a⟩:=h;cases e;have a:=a;unfold jv at a;rw[bW,bW,List.all_eq_true]at a;exists tp,SqT.of b,SqT.of c,λp f=>?_,by have:=of_decide_eq_true a.1.1;rw[bf]at this;exact this
 have w:=a.1.2 (.int p) (br.mpr ⟨p,f,rfl⟩);have w:(decide (1<=p) && decide (p<=8))=true:=w;rw[bW]at w;exists of_decide_eq_true w.1,of_decide_eq_true w.2
def Bks.snoc{H:Hp}{n m:Nat}{bk dx lk dd:Μ}{kd:Ξ}{ps:Λ}{f:Α}(h:Bks K a H n bk dx lk dd kd ps f O m)
  (hl:z6 K H (lk n) (.str (kdS (kd n))) (ps n)) {q dq d:x0} {f':qi Int->qj Slt} {O':Ν} (hb:Û a H q dq (lk n) d (kd n) f' O' m) (dj:∀j c,j<n->O j c->¬O' c) (n1:∀j,j<n->¬O j q) (n2:∀j,j<n->¬O' (bk j)):
  Bks K a H (n+1) (upN bk n q) (upN dx n dq) lk (upN dd n d) kd ps (upN f n f') (upN O n O') m:=by
 exists λi r=>?_,λi r=>?_,λi j c r s p o l=>?_,λi j r s e=>?_
 .by_cases z:i=n
  .rw[z];exact hl
  .exact h.look i (by omega)
 .by_cases z:i=n
  .subst z;rw[wo,wo,wo,wo,wo];exact hb
  .have g:i<n:=by omega
   rw[wj g,wj g,wj g,wj g,wj g];exact h.b i g
 .by_cases z:i=n
  .subst z;have k:j<i:=by omega
   rw[wo]at o;rw[wj k]at l;exact dj j c k l o
  .have g:i<n:=by omega
   rw[wj g]at o;by_cases w:j=n
   .subst w;rw[wo]at l;exact dj i c g o l
   .have k:j<n:=by omega
    rw[wj k]at l;exact h.dj i j c g k p o l
 .by_cases z:i=n
  .subst z;rw[wo]at e;by_cases w:j=i
   .subst w;rw[wo]at e;exact hb.np e
   .have k:j<i:=by omega
    rw[wj k]at e;exact n2 j k e
  .have g:i<n:=by omega
   rw[wj g]at e;by_cases w:j=n
   .subst w;rw[wo]at e;exact n1 i g e
   .have k:j<n:=by omega
    rw[wj k]at e;exact h.nb i j g k e
def yn0(K:xr)(a:Ads)(H G:Hp)(n:Nat)(bk dx lk dd:Μ)(kd:Ξ)(ps:Λ)(f:Α)(O:Β):Prop :=
 Bks K a G n bk dx lk dd kd ps f O 0/\(∀j k,j<n->f j k=none)/\(∀j c,j<n->O j c->H c=none)/\(∀j,j<n->H (bk j)=none)
def yn0.zero{H G:Hp}{bk dx lk dd:Μ}{kd:Ξ}{ps:Λ}{f:Α}:yn0 K a H G 0 bk dx lk dd kd ps f O :=
 ⟨⟨λi b=>absurd b (bJ i),λi b=>absurd b (bJ i),λi Z Z b=>absurd b (bJ i),λi Z b=>absurd b (bJ i)⟩,λi Z b=>absurd b (bJ i),λi Z b=>absurd b (bJ i),λi b=>absurd b (bJ i)⟩
def yn0.next{H G G2:Hp}{n:Nat}{bk dx lk dd:Μ}{kd:Ξ}{ps:Λ}{f:Α}(h:yn0 K a H G n bk dx lk dd kd ps f O)(hl:z6 K G (lk n) (.str (kdS (kd n))) (ps n))
  (S:yv H G) {q dq d D:x0} {xs ys:Υ} (hq:G q=none) (hd:G d=none) (S2:yv G G2) (hb:Û a G2 q dq (lk n) d (kd n) (λZ=>none) (λb=>b=d) 0) (hD:G D=some (.lst xs)):
  yn0 K a H (upd G2 D (.lst ys)) (n+1) (upN bk n q) (upN dx n dq) lk (upN dd n d) kd ps (upN f n λZ=>none) (upN O n λb=>b=d):=by
 let⟨s,y,x,v⟩:=h;have l:∀j c,j<n->O j c->∃o,G c=some o:=λj c g w=>let ⟨o,m,_⟩:=(s.b j g).own c w;⟨o,m⟩
 have M:=(s.same S2).snoc (hl.same S2) hb (λj c g w z=>by
  let⟨o,m⟩:=l j c g w;rw[show c=d from z,hd]at m
  cases m) (λj g w=>by
  let⟨o,m⟩:=l j q g w;rw[hq]at m
  cases m) (λj g z=>by
  have e:=(s.b j g).me;rw[show bk j=d from z,hd]at e;cases e)
 have i:=S2 _ _ hD;have u:=M.nlst i;have p:∀c o,G2 c=some o->c≠D->upd G2 D (.lst ys) c=some o:=λc o e r=>yf r e;exists M.frame (O2:=λc=>c=D) (λc o e r=>p c o e r) (λj c g w z=>u j g (z ▸ w)) (λj g z=>?_) (λt xs e=>?_),λj k g=>?_,λj c g w=>?_,λj g=>?_
 .have e:=(M.b j g).me;rw[z,i]at e;cases e
 .rcases e with(e|⟨o,e⟩)|e
  .exact .inl (.inl (p _ _ e (λz=>by rw[z,i]at e;cases e)))
  .exact .inl (.inr ⟨o,p _ _ e (λz=>by rw[z,i]at e;cases e)⟩)
  .exact .inr e
 .by_cases z:j=n
  .rw[z,wo]
  .rw[wj (by omega)];exact y j k (by omega)
 .by_cases z:j=n
  .rw[z,wo]at w;rw[show c=d from w];exact S.free hd
  .rw[wj (by omega)]at w;exact x j c (by omega) w
 .by_cases z:j=n
  .rw[z,wo];exact S.free hq
  .rw[wj (by omega)];exact v j (by omega)
def yn0.ag{H G:Hp}{n:Nat}{bk dx lk dd:Μ}{kd:Ξ}{ps:Λ}{f:Α}(h:yn0 K a H G n bk dx lk dd kd ps f O):ylg n kd f (λi Z=>kd0 (kd i)):=λi b k=>by
 rw[h.2.1 i k b];rfl
def FX0(n:Nat)(kd:Ξ):FX:={ g:=λi Z=>kd0 (kd i),ws:=List.replicate n 1099511627776,sg:=[],nd:=0}
def ylo{g:Μ}{n:Nat}{x:V}(h:x∈refs g n):∃i,i<n/\x=.ref (g i):=by unfold refs at h;let⟨i,a,e⟩:=br.mp h;exists i,cA.mp a,e.symm
def ux.lks{H:Hp}{n:Nat}{lk:Μ}{kd:Ξ}{ps:Λ}(h:ux H n lk kd tp ps):Lks H (refs lk n):=λy b=>by
 let⟨i,a,rfl⟩:=ylo b;exists _,_,_,h i a
theorem u7.frame{H H':Hp}{A:FA}{X:FX}{f:Α}{m:Nat}(h:u7 K a H p A X f O m){O2:Ν}(B:ynx O2 H H')(hp:¬O2 p)(hm:¬O2 A.mp)(hb:∀i,i<A.n->¬O2 (A.bk i))
  (dj:∀i c,i<A.n->O i c->¬O2 c) (hl:∀l xs,(l=A.bl\/l=A.el\/l=A.ml\/l=A.pl)->H l=some (.lst xs)->H' l=some (.lst xs)) (ht:∀t xs,SqT K H t xs->SqT K H' t xs):u7 K a H' p A X f O m :=
 ⟨B _ _ h.me hp,hl _ _ (.inl rfl) h.bl,hl _ _ (.inr (.inl rfl)) h.el,⟨B _ _ h.mx.o hm,hl _ _ (.inr (.inr (.inl rfl))) h.mx.l⟩,h.wok,hl _ _ (.inr (.inr (.inr rfl))) h.pl,h.B.frame B (λi c s w=>dj i c s w) hb ht,h.ag,λj d=>⟨(h.at' j d).1,λq e=>by
  let⟨g,r,k,_⟩:=(h.B.b j d).tb;rw[B _ _ k (dj j _ d (h.B.b j d).dO)]at e;cases e;exact(h.at' j d).2 _ k⟩,h.np,h.nm,h.n1,h.n6⟩
def yrg{G:Hp}{t c:x0}{xs ys zs:Υ}(hc:G c=some (.lst ys))(e:SqT K G t xs):SqT K (upd G c (.lst zs)) t xs:=by
 rcases e with(e|⟨o,e⟩)|e
 .exact .inl (.inl (yf (wz e hc (by intro z;cases z)) e))
 .exact .inl (.inr ⟨o,yf (wz e hc (by intro z;cases z)) e⟩)
 .exact .inr e
def u7.app{H:Hp}{R:x0}{A:FA}{X:FX}{f:Α}{m:Nat}{xs ys:Υ}(h:u7 K a H p A X f O m)(hR:H R=some (.lst xs))(hq:∀q,(q=A.bl\/q=A.el\/q=A.ml\/q=A.pl)->q≠R):u7 K a (upd H R (.lst ys)) p A X f O m:=by
 refine h.frame (O2:=λc=>c=R) (λc o e g=>yf g e) (λz=>?_) (λz=>?_) (λi d z=>?_) (λi c d w z=>h.B.nlst hR i d (z ▸ w)) (λl xs w e=>yf (hq l w) e) (λt xs e=>yrg hR e)
 .have e:=h.me;rw[z,hR]at e;cases e
 .have e:=h.mx.o;rw[z,hR]at e;cases e
 .have e:=(h.B.b i d).me;rw[z,hR]at e;cases e
def vcd(n:Nat)(n1:1<=n)(n6:n<=6):WOk n (List.replicate n 1099511627776):=by refine⟨cG,λw h=>?_,λw h=>?_⟩<;>(rw[cC h];decide)
#synth va1 ["self","looks"] yut
structure vgj(K:xr)(a:Ads)(H H':Hp)(p:x0)(n:Nat)(lk:Μ)(kd:Ξ)(ps:Λ)(A:FA)(f:Α)(O:Β):Prop where
 ft:u7 K a H' p A (FX0 n kd) f O 6
 en:A.n=n
 elk:A.lk=lk
 ekd:A.kd=kd
 eps:A.ps=ps
 oO:∀j c,j<n->O j c->H c=none
 oB:∀j,j<n->H (A.bk j)=none
 oM:H A.mp=none
 oL:∀l,(l=A.bl\/l=A.el\/l=A.ml\/l=A.pl)->H l=none
 lo:H' A.ll=some (.lst (refs lk n))/\A.ll≠A.el/\H A.ll=none
inductive yd7(K:xr)(a:Ads)(vs:Υ)(H:Hp)(Q:VK)(E:XK):Prop
 | mk(p dp:x0)(x:V)(_:vs=[.ref p,x])(_:H p=some (.ins a.A2 dp []))(_:((vf1 K H x/\∀H',yv H H'->E (.ref a.Fg) none H')\/∃(l:x0)(n:Nat)(lk:Μ)(kd:Ξ)(tp:Μ)(ps:Λ),x=.ref l/\H l=some (.lst (refs lk n))/\1<=n/\n<=6/\ux H n lk kd tp ps/\
  ∀A f O H',vgj K a H H' p n lk kd ps A f O->But p H H'->Q .non H'))
def yb0:vz P w K mg Γ (CXe P w) 6 a.Gk a.Lz ["self","looks"] (yd7 K a):=by
 exists T.Cm.F.okE,va1,hr;let⟨p,f,x,rfl,hp,h⟩:=h;refine yh (y9 (pv 0) (x3 (yod T) hr.m T.Hh yz (pa1 (pv 1))) rfl) ?_;refine yh (y9 (pv 0) (wb (js:=[]) (ys:=[]) rfl (vx (yn (pv 0) rfl)) (λC s2 H2 fp=>(ĥ T.Pb (yoz T) hr.m rfl T.Pa T.Dq.B .nil v7 (pa1 (pv 0)))) rfl rfl (hyc:=yt) (hrel:=yt)) rfl) ?_;refine yh (y9 (pv 0) (ĥ T.Ry (ypy T) hr.m rfl T.Rx T.Dr.B .nil v7 (pa1 (pcB yp T.Aa (pa1 (yn (pv 0) rfl))))) rfl) ?_;refine yh (y9 (pv 0) (xc uo) rfl) ?_;refine yh (y9 (pv 0) yg rfl) ?_;refine yh (y9 (pv 0) (xc uo) rfl) ?_;exists 2,0,yc (yw (vt (pv 0) T.Ac T.Cr.m (ykm T) hr.m T.Cr.B .nil v7));rcases h with⟨hb,k⟩|⟨l,n,lk,kd,tp,ps,rfl,hl,n1,n6,an,k⟩
 .rcases hb with⟨nm,ty,hn⟩|⟨l,xs,bs,rfl,hl,hz,aQ,no⟩
  .exact .inl ⟨x,nm,rfl,ty,hn,k _ (yv.refl _)⟩
  .exact .inr ⟨l,xs,bs,rfl,hl,hz,aQ,λz=>absurd z no,λF H' S=>k _ S⟩
 .refine .inr ⟨l,refs lk n,List.replicate (refs lk n).length true,rfl,hl,by rw[vv];omega,an.lks.bs,λF g H1 ah av S1=>?_,λno=>absurd ⟨by rw[vv];exact n1,by rw[vv];exact n6,yjm _⟩ no⟩;have b0:=S1 _ _ hp;have aW:=an.same S1;ext;have U:upd H1 p (HO.ins a.A2 f ([("looks",V.ref g)]:Ι)) p=some (HO.ins a.A2 f ([("looks",V.ref g)]:Ι)):=ya;have BA:But p H1 (upd H1 p (HO.ins a.A2 f ([("looks",V.ref g)]:Ι))):=But.upd;have a3:g≠p:=(yb hp ah).symm;have I:upd H1 p (HO.ins a.A2 f ([("looks",V.ref g)]:Ι)) g=some (.lst (refs lk n)):=yf a3 av;generalize upd H1 p (HO.ins a.A2 f ([("looks",V.ref g)]:Ι))=HA at U BA I⊢;have a8:But p H HA:=(But.of S1).trans BA
  have aK:ux HA n lk kd tp ps:=λi hi=>by
   let⟨q,e,h1,h2,h3⟩:=an i hi;exists q,e,a8 _ _ h1 (wz h1 hp (by intro z;cases z)),a8 _ _ h2 (wz h2 hp (by intro z;cases z)),h3
  exists p,_,f,_,_,rfl,U,T.Ac,T.Av,rfl,?_;exists g,rfl,⟨_,SqL.of I⟩,λu Z=>?_;refine ul (K:=K) (xs:=refs lk n) (λi G=>∃(bk dx dd:Μ)(f2:Α)(O2:Β),G u=some (.lst (refs bk i))/\yn0 K a HA G i bk dx lk dd kd ps f2 O2/\yv HA G)
   ⟨λF=>0,λF=>0,λF=>0,λF F=>none,λF F=>False,ya,yn0.zero,y7 Z⟩ (λi G F z=>?_) (λi y G hy hi z=>?_) (λG z=>?_)
  .obtain⟨_,_,_,_,_,_,_,SG⟩:=z;exact SqL.of (SG _ _ I)
  .obtain⟨bk,dx,dd,f2,O2,a5,gN,SG⟩:=z;let⟨rfl,aL⟩:=uw hy;ext;intro q dq nq aJ aY;have SQ:yv G (upd (upd G dq (.own q)) q (.ins a.Ab dq [])):=λb o e=>by rw[yk (yb e nq),yk (yb e aJ)];exact e
   exists q,dq,lk i,kd i,rfl,ya,λd G2 aV aT B2=>⟨rfl,?_⟩;have as:yv G G2:=λb o e=>B2 b o (SQ b o e) (yb e nq);refine we (n:=(refs lk n).length) (as _ _ a5) (ve (by rw[vv];omega)) hi ?_;exists _,_,_,_,_,?_,gN.next ((aK i aL).same SG).at' SG nq (SQ.free aV) as aT a5,λb o e=>yf (yb e Z) (as _ _ (SG b o e));rw[ya,x6,wo]
   congr 3
   exact xy λj r=>(wj r).symm
  let⟨bk,dx,dd,f2,O2,a5,gN,SG⟩:=z;rw[vv]at a5 gN;have aw:=SG _ _ U;ext;have aC:∀c o,HA c=some o->c≠p->upd G p (HO.ins a.A2 f ([("looks",V.ref g),("books",V.ref u)]:Ι)) c=some o:=λc o e J=>yf J (SG _ _ e);have a9:upd G p (HO.ins a.A2 f ([("looks",V.ref g),("books",V.ref u)]:Ι)) p=some (HO.ins a.A2 f ([("looks",V.ref g),("books",V.ref u)]:Ι)):=ya;have ad:u≠p:=(yb U Z).symm;have aj:upd G p (HO.ins a.A2 f ([("looks",V.ref g),("books",V.ref u)]:Ι)) u=some (.lst (refs bk n)):=yf ad a5;have BP:∀{fs:Ι},But p G (upd G p (HO.ins a.A2 f fs)):=But.upd
  have af:∀j,j<n->¬O2 j p:=λj r w=>by
   have e:=gN.2.2.1 j p r w;rw[U]at e;cases e
  have aA:∀{G':Hp},But p G G'->Bks K a G' n bk dx lk dd kd ps f2 O2 0:=λ{G'}B=>gN.1.frame (O2:=λc=>c=p) (λc o e J=>B c o e J) (λj c r w z=>af j r (z ▸ w)) (λj r z=>by
   have e:=gN.2.2.2 j r;rw[z,U]at e
   cases e) (λt xs e=>by
   rcases e with(e|⟨o,e⟩)|e
   .exact .inl (.inl (B _ _ e (λz=>by rw[z,aw]at e;cases e)))
   .exact .inl (.inr ⟨o,B _ _ e (λz=>by rw[z,aw]at e;cases e)⟩)
   .exact .inr e)
  have BB:But p G (upd G p (HO.ins a.A2 f ([("looks",V.ref g),("books",V.ref u)]:Ι))):=But.upd;generalize upd G p (HO.ins a.A2 f ([("looks",V.ref g),("books",V.ref u)]:Ι))=HB at aC a9 aj BB⊢;exists p,_,f,_,_,rfl,a9,T.Ac,T.Av,rfl,?_;refine x5 (SqL.of (aC _ _ I a3)) ?_;rw[vv];ext;intro D mx a6 aR aZ;have SM:yv HB (upd (upd HB mx (.own D)) D (.ins a.Be mx [])):=λb o e=>by rw[yk (yb e a6),yk (yb e aR)];exact e
  exists D,mx,n,rfl,n1,n6,ya,λml HC ax MC BC=>⟨rfl,?_⟩;have SC:yv HB HC:=λb o e=>BC b o (SM b o e) (yb e a6);have b1:=SC _ _ a9;have aD:=SC _ _ aj;have a7:HB ml=none:=SM.free ax;have O:D≠p:=(yb a9 a6).symm;have a0:ml≠p:=(yb a9 a7).symm;ext;exists by walk_at "len",λM a1=>?_
  have X:M≠p:=λz=>by rw[z,ya]at a1;cases a1
  have W:HC M=none:=by rw[yk X]at a1;exact a1
  have aN:upd (upd HC p (HO.ins a.A2 f ([("looks",V.ref g),("books",V.ref u),("mixer",V.ref D)]:Ι))) M (.lst []) p=some (HO.ins a.A2 f ([("looks",V.ref g),("books",V.ref u),("mixer",V.ref D)]:Ι)):=yf X.symm ya;have ak:upd (upd HC p (HO.ins a.A2 f ([("looks",V.ref g),("books",V.ref u),("mixer",V.ref D)]:Ι))) M (.lst []) M=some (.lst []):=ya;have BD:But p HC (upd (upd HC p (HO.ins a.A2 f ([("looks",V.ref g),("books",V.ref u),("mixer",V.ref D)]:Ι))) M (.lst [])):=λb o e J=>yf (yb e W) (yf J e);generalize upd (upd HC p (HO.ins a.A2 f ([("looks",V.ref g),("books",V.ref u),("mixer",V.ref D)]:Ι))) M (.lst [])=HD at aN ak BD⊢;ext;exists by walk_at "len",λL Y=>?_
  have aq:L≠p:=λz=>by rw[z,ya]at Y;cases Y
  have ao:HD L=none:=by rw[yk aq,yk aq]at Y;exact Y
  have aU:upd (upd (upd HD p (HO.ins a.A2 f ([("looks",V.ref g),("books",V.ref u),("mixer",V.ref D),("ended",V.ref M)]:Ι))) p (HO.ins a.A2 f ([("looks",V.ref g),("books",V.ref u),("mixer",V.ref D),("ended",V.ref M),("place",V.int 0)]:Ι))) L (.lst []) p=some (HO.ins a.A2 f ([("looks",V.ref g),("books",V.ref u),("mixer",V.ref D),("ended",V.ref M),("place",V.int 0)]:Ι)):=yf aq.symm ya;have BE:But p HD (upd (upd (upd HD p (HO.ins a.A2 f ([("looks",V.ref g),("books",V.ref u),("mixer",V.ref D),("ended",V.ref M)]:Ι))) p (HO.ins a.A2 f ([("looks",V.ref g),("books",V.ref u),("mixer",V.ref D),("ended",V.ref M),("place",V.int 0)]:Ι))) L (.lst [])):=λb o e J=>yf (yb e ao) (yf J (yf J e));generalize upd (upd (upd HD p (HO.ins a.A2 f ([("looks",V.ref g),("books",V.ref u),("mixer",V.ref D),("ended",V.ref M)]:Ι))) p (HO.ins a.A2 f ([("looks",V.ref g),("books",V.ref u),("mixer",V.ref D),("ended",V.ref M),("place",V.int 0)]:Ι))) L (.lst [])=HE at aU BE⊢;ext;have BF:But p HE (upd HE p (.ins a.A2 f (zu (.ref g) (.ref u) (.ref D) (.ref M) (.int 0) (.ref L)))):=But.upd;have ab:upd HE p (.ins a.A2 f (zu (.ref g) (.ref u) (.ref D) (.ref M) (.int 0) (.ref L))) p=some (.ins a.A2 f (zu (.ref g) (.ref u) (.ref D) (.ref M) (.int 0) (.ref L))):=ya;generalize upd HE p (.ins a.A2 f (zu (.ref g) (.ref u) (.ref D) (.ref M) (.int 0) (.ref L)))=HF at ab BF⊢;have ac:But p HC HF:=(BD.trans BE).trans BF;have a2:But p G HF:=λb o e J=>ac b o (SC _ _ (BB b o e J)) J;have aF:=ac _ _ MC.o O;have aE:=ac _ _ MC.l a0;have am:=ac _ _ aD ad;have ap:=BF _ _ (BE _ _ ak X) X;exists p,f,g,u,D,M,L,0,[],n,0,bk,dx,lk,dd,kd,ps,f2,O2,λi F=>kd0 (kd i),rfl,ab,am,ap,aA a2,gN.ag,n6,by omega,af,λpl sl f' O' H' aP aM al B' aI aS ae F' L'=>?_
  have aa:∀{c:x0},c≠p->HF c=none->G c=none:=λ{c}J h=>by
   cases e:G c with
   |none=>rfl
   |some o=>rw[a2 _ _ e J]at h;cases h
  have ar:∀j c,j<n->O2 j c->∃o,G c=some o:=λj c r w=>let ⟨o,ho,_⟩:=(gN.1.b j r).own c w;⟨o,ho⟩
  have nO:∀{c:x0}{o:HO},HF c=some o->ywb o=false->∀j,j<n->¬O2 j c:=λ{c o}e hi j r w=>by
   let⟨o',ay,az⟩:=((aA a2).b j r).own c w;rw[e]at ay;cases ay;rw[hi]at az;cases az
  have aG:∀j,j<n->¬O2 j D:=λj r w=>by
   let⟨o,ho⟩:=ar j D r w;have e:=BB _ _ ho O;rw[a6]at e;cases e
  have R:∀{c:x0},c≠p->HA c=none->H c=none:=λ{c}J h=>by
   cases e:H c with
   |none=>rfl
   |some o=>rw[a8 _ _ e J]at h;cases h
  have N:∀{c:x0},G c=none->HA c=none:=λ{c}h=>SG.free h
  have a4:∀{c:x0},c≠p->HB c=none->G c=none:=λ{c}J h=>by
   cases e:G c with
   |none=>rfl
   |some o=>rw[BB _ _ e J]at h;cases h
  have aB:∀{c:x0},HC c=none->HB c=none:=λ{c}h=>SC.free h;refine k ⟨f,g,u,D,mx,ml,M,pl,n,bk,dx,lk,dd,sl,kd,ps⟩ f' O' H' ⟨⟨aP,F' _ _ am ad (nO am rfl),F' _ _ ap X (nO ap rfl),⟨F' _ _ aF O aG,F' _ _ aE a0 (nO aE rfl)⟩,?_,aM,⟨B'.look,λi hi=>(B'.b i hi).up (by omega),B'.dj,B'.nb⟩,aI,aS,λj r w=>?_,λj r w=>?_,n1,n6⟩,rfl,rfl,rfl,rfl,λj c r w=>?_,λj r=>?_,?_,λc hc=>?_,F' _ _ (a2 _ _ (SG _ _ I) a3) a3 (nO (a2 _ _ (SG _ _ I) a3) rfl),yb (SC _ _ (BB _ _ (SG _ _ I) a3)) W,ah⟩ ?_
  .exact vcd n n1 n6
  .rcases ae j p r w with v|v
   .exact af j r v
   .rw[ab]at v;cases v
  .rcases ae j D r w with v|v
   .exact aG j r v
   .rw[aF]at v;cases v
  .have au:c≠p:=λz=>by
    rw[z]at w;rcases ae j p r w with v|v
    .exact af j r v
    .rw[ab]at v;cases v
   rcases ae j c r w with v|v
   .exact R au (gN.2.2.1 j c r v)
   .exact R au (N (aa au v))
  .have aH:bk j≠p:=λz=>by
    have e:=gN.2.2.2 j r;rw[z,U]at e;cases e
   exact R aH (gN.2.2.2 j r)
  .exact R O (N (a4 O a6))
  .rcases hc with z|z|z|z
   .rw[z];exact R ad Z
   .rw[z];exact R X (N (a4 X (aB W)))
   .rw[z];exact R a0 (N (a4 a0 a7))
   .rw[z];have ai:pl≠p:=(yb ab al).symm;exact R ai (N (aa ai al))
  .intro c o e J;refine F' c o (a2 _ _ (SG _ _ (a8 c o e J)) J) J λj r w=>?_;have e2:=gN.2.2.1 j c r w;rw[a8 c o e J]at e2;cases e2
theorem ydh:∀(ts:Ρ)(q j:Nat)(s:Int),ts[q]?=some s->j<=8->(dec ts)[9*q+j]?=(1::b8 s)[j]?
 |[],_,_,_,h,_=>by simp at h
 |t::r,0,j,s,h,hj=>by
  have e:t=s:=by simpa using h
  subst e;show ((1::b8 t)++dec r)[9*0+j]?=_;rw[Nat.mul_zero,Nat.zero_add,List.getElem?_append_left (by rw[bX,yn8];omega)]
 |t::r,q+1,j,s,h,hj=>by
  have b:r[q]?=some s:=by simpa using h
  show ((1::b8 t)++dec r)[9*(q+1)+j]?=_;have a:(1::b8 t).length=9:=rfl;rw[cJ (by rw[a];omega),a,show 9*(q+1)+j-9=9*q+j by omega];exact ydh r q j s b hj
def ysf(ts:Ρ):(dec ts)[9*ts.length]?=some 0:=by rw[ynu,cJ (by rw[j7];exact bn _),j7,Nat.sub_self];rfl
def yao(ts:Ρ)(k:Nat)(sg:Ρ)(nd:Int):Prop:=∃q j:Nat,k=9*q+j/\j<=8/\sg=ts.take q/\((j=0/\nd=0/\q<=ts.length)\/(1<=j/\∃s,ts[q]?=some s/\nd=(256+s)/2^(9-j)))
def vem{s P c:Int}(h:0<=s/\s<=255)(hP:2<=P)(hc:P*(2*c)=256)(c1:1<=c/\c<=64):0<(256+s)/(2*P)/\2*((256+s)/(2*P))+s/P%2<256/\2*((256+s)/(2*P))+s/P%2=(256+s)/P:=by
 have a:(256+s)/P=s/P+2*c:=by rw[<- hc,Int.add_comm,Int.add_mul_ediv_left _ _ (by omega)]
 have b:(256+s)/(2*P)=(s/P+2*c)/2:=by rw[<- a,Int.ediv_ediv_of_nonneg (show 0<=P by omega),Int.mul_comm]
 have d:=Int.ediv_nonneg h.1 (show 0<=P by omega);have e:=Int.ediv_lt_of_lt_mul (show 0<P by omega) (show s<128*P by omega);rw[a,b];generalize s/P=y at d e;clear hc a b hP h;omega
def nd9{s:Int}(h:0<=s/\s<=255)(h1:1<=j)(hj:j<=8):0<(256+s)/2^(9-j)/\(256+s)/2^(9-j)<256:=by
 have a:∀j,j<9->1<=j->(2:Int)<=2^(9-j)/\(2:Int)^(9-j)<=256:=by decide
 let⟨b,c⟩:=a j (Nat.lt_succ_of_le hj) h1;generalize (2:Int)^(9-j)=K at b c;exists Int.le_ediv_of_mul_le (by omega) (by omega),Int.ediv_lt_of_lt_mul (by omega) (by omega)
def yao.zero(ts:Ρ):yao ts 0 [] 0:=⟨0,0,rfl,by omega,by simp,.inl ⟨rfl,rfl,bK _⟩⟩
theorem yao.nd{k:Nat}{sg:Ρ}{nd:Int}(h:yao ts k sg nd)(hs:Sgs ts):0<=nd/\nd<256:=by
 let⟨q,j,_,e,_,h⟩:=h;rcases h with⟨_,h,_⟩|⟨d,s,c,h⟩
 .omega
 .obtain⟨a,b⟩:=nd9 (hs s (bB c)) d e;rw[h];exists Int.le_of_lt a,b
def yao.len{k:Nat}{sg:Ρ}{nd:Int}(h:yao ts k sg nd):sg.length<=ts.length:=by let⟨q,j,_,_,a,_⟩:=h;rw[a,bI];omega
def yao.next{k:Nat}{sg:Ρ}{nd b:Int}(h:yao ts k sg nd)(hs:Sgs ts)(hb:(dec ts)[k]?=some b):
  (k<9*ts.length/\yao ts (k+1) (sgN sg nd b) (ndN nd b))\/(k=9*ts.length/\sgN sg nd b=[]/\ndN nd b=0):=by
 let⟨q,j,r,v,l,h⟩:=h;rcases h with⟨w,d,A⟩|⟨C,s,a,d⟩
 .subst w;rcases Nat.lt_or_ge q ts.length with m|m
  .refine .inl ⟨by omega,?_⟩;have e:=ydh ts q 0 ts[q] (bi m) (by omega);rw[<- r,hb]at e;have e:b=1:=by simpa using e
   have:=hs ts[q] (ce m);unfold sgN ndN;rw[if_neg (by omega),if_pos e,if_neg (by omega),if_pos e];exists q,1,by omega,by omega,l,.inr ⟨by omega,ts[q],bi m,?_⟩
   simp only[Nat.reduceSub,Int.reducePow];omega
  .have p:q=ts.length:=by omega
   have e:=ysf ts;rw[<- p,show 9*q=k by omega,hb]at e;have e:b=0:=by simpa using e
   refine .inr ⟨by omega,?_,?_⟩
   .unfold sgN;rw[if_neg (by omega),if_neg (by omega)]
   .unfold ndN;rw[if_neg (by omega),if_neg (by omega)];exact d
 .have n:=hs s (bB a);have m:q<ts.length:=(bw.mp a).1;have e:=ydh ts q j s a v;rw[<- r,hb]at e
  have g:some b=(b8 s)[j-1]?:=by
   obtain⟨i,rfl⟩:∃i,j=i+1:=⟨j-1,by omega⟩;simpa using e
  refine .inl ⟨by omega,?_⟩;by_cases h8:j=8
  .subst h8;have g:b=s/1%2:=bE g;simp only[Nat.reduceSub,Int.reducePow]at d;have B:2*nd+b=256+s:=by omega
   unfold sgN ndN;rw[if_pos (by omega),if_pos (by omega),if_pos (by omega),if_pos (by omega)];exists q+1,0,by omega,by omega,?_,.inl ⟨rfl,rfl,by omega⟩
   rw[l,show 2*nd+b-256=s by omega,zw a]
  .have o:0<nd/\2*nd+b<256/\2*nd+b=(256+s)/2^(9-(j+1)):=by
    have k:∀P c:Int,2<=P->P*(2*c)=256->1<=c/\c<=64->nd=(256+s)/(2*P)->b=s/P%2->0<nd/\2*nd+b<256/\2*nd+b=(256+s)/P:=λP c x y z e f=>by
     rw[e,f];exact vem n x y z
    clear r hb e l m hs;obtain rfl|rfl|rfl|rfl|rfl|rfl|rfl:j=1\/j=2\/j=3\/j=4\/j=5\/j=6\/j=7:=by omega
    .exact k 128 1 (by decide) rfl (by decide) d (bE g)
    .exact k 64 2 (by decide) rfl (by decide) d (bE g)
    .exact k 32 4 (by decide) rfl (by decide) d (bE g)
    .exact k 16 8 (by decide) rfl (by decide) d (bE g)
    .exact k 8 16 (by decide) rfl (by decide) d (bE g)
    .exact k 4 32 (by decide) rfl (by decide) d (bE g)
    .exact k 2 64 (by decide) rfl (by decide) d (bE g)
   let⟨t,D,u⟩:=o;unfold sgN ndN;rw[if_pos t,if_neg (by omega),if_pos t,if_neg (by omega)];exists q,j+1,by omega,by omega,l,.inr ⟨by omega,s,a,u⟩
theorem u7.up{H:Hp}{A:FA}{X:FX}{f:Α}{m:Nat}(h:u7 K a H p A X f O m)(hm:m<=m'):u7 K a H p A X f O m' :=
 ⟨h.me,h.bl,h.el,h.mx,h.wok,h.pl,⟨h.B.look,λi c=>(h.B.b i c).up hm,h.B.dj,h.B.nb⟩,h.ag,h.at',h.np,h.nm,h.n1,h.n6⟩
structure Lw(K:xr)(a:Ads)(H:Hp)(p:x0)(A:FA)(X:FX)(f:Α)(O:Β)(m:Nat)(bk dx dd:Μ)(f2:Α)(O2:Β)(mp mx ml:x0)(ws:Ρ):Prop where
 ft:u7 K a H p A X f O m
 bs:Bks K a H A.n bk dx A.lk dd A.kd A.ps f2 O2 m
 mx:yg3 a mp mx ml ws H
 dj:∀i j c,i<A.n->j<A.n->O i c->¬O2 j c
 n1:∀i j,i<A.n->j<A.n->¬O i (bk j)
 n2:∀i j,i<A.n->j<A.n->¬O2 i (A.bk j)
 n3:∀i,i<A.n->¬O2 i p/\¬O2 i A.mp/\¬O2 i mp/\¬O i mp
 n4:mp≠A.mp
 n5:ml≠A.el
section
variable{H H':Hp}{A:FA}{X:FX}{f:Α}{m:Nat}{bk dx dd:Μ}{f2:Α}{mp mx ml:x0}{ws:Ρ}
def zf{C d e:x0}{fs gs:Ι}(hp:H p=some (.ins C d fs))(hq:H q=some (.ins D e gs))(hl:fs.length≠gs.length):p≠q:=λz=>by
 rw[z,hq]at hp;injection hp with hp;injection hp with _ _ e;exact hl (congrArg List.length e).symm
end
def KpA(B G:Hp)(e0 e:x0):Prop:=∀c o,B c=some o->ywb o=false->c≠e0->c≠e/\G c=some o
theorem KpA.lst{B G:Hp}{e0 e c:x0}{xs:Υ}(h:KpA B G e0 e)(hc:B c=some (.lst xs))(ne:c≠e0):G c=some (.lst xs):=(h c _ hc rfl ne).2
def TxE(ts:Ρ)(k:Nat)(sg:Ρ)(nd:Int):Prop:=(k<=9*ts.length/\yao ts k sg nd)\/(k=9*ts.length+1/\sg=[]/\nd=0)
theorem TxE.next{k:Nat}{sg:Ρ}{nd b:Int}(h:TxE ts k sg nd)(hs:Sgs ts)(hb:(dec ts)[k]?=some b):yao ts k sg nd/\TxE ts (k+1) (sgN sg nd b) (ndN nd b):=by
 rcases h with⟨c,h⟩|⟨c,_⟩
 .exists h,?_;rcases h.next hs hb with⟨e,a⟩|⟨e,a,d⟩
  .exact .inl ⟨by omega,a⟩
  .exact .inr ⟨by omega,a,d⟩
 .rw[c,cg (by rw[xl];exact bn _)]at hb;cases hb
#synth yzl ["self"] yvy
inductive yc1(K:xr)(a:Ads)(vs:Υ)(H:Hp)(Q:VK)(E':XK):Prop
 |mk(p:x0)(A:FA)(X:FX)(f:Α)(O:Β)(m:Nat)(_:vs=[.ref p])(_:u7 K a H p A X f O m)(_:∀r H',H r=none->H' r=some (.lst ((X.cs A).map V.int))->yv H H'->Q (.ref r) H')
def yj0:vz P w K mg Γ CX0 2 a.Je a.M4 ["self"] (yc1 K a):=by
 exists T.Cs.F.ok,yzl,e;let⟨p,d,X,f,O,m,rfl,h,k⟩:=h;have J:=h.me;have M:=h.n6;exists 1,0,yc (yq (wb (js:=[]) (ys:=[]) rfl (vx (yn (pv 0) rfl)) (λC N r L=>(Ŕ (vt (pv 0) T.B9 T.Gw.m (yyp T) e.m T.Gw.B .nil v7) (Ŕ (vt (pv 0) T.By T.Ha.m (yzi T) e.m T.Ha.B .nil v7) (vt (pv 0) T.C4 T.Hd.m (ywt T) e.m T.Hd.B .nil v7)))) rfl rfl (hyc:=yt) (hrel:=yt)));exists d.pl,rfl,⟨_,SqL.of h.pl⟩,λD j=>?_;refine ul (K:=K) (xs:=refs d.sl d.n) (Mp H D (λi=>V.int (X.g i (X.key d i)).due)) (Mp.zero j) (λZ Z Z q=>q.1.seq (SqL.of h.pl)) (λi y r z v q=>?_) (λr q=>?_)
 .obtain⟨c,b⟩:=q;let⟨rfl,o⟩:=uw z;let⟨_,⟨R,G⟩,u,_⟩:=h.slot o;refine yg5 (λI h=>yvg rfl h) (c _ _ G) u ?_;exact Mp.doneR j (ve (by rw[vv];omega)) v c b rfl
 .obtain⟨c,b⟩:=q;rw[vv]at b;refine k D _ j ?_ c;rw[b];unfold FX.cs;rw[bS];rfl
#synth yw8 ["self"] yt6
inductive yf2(K:xr)(a:Ads)(vs:Υ)(H:Hp)(Q:VK)(E':XK):Prop
 |mk(p:x0)(A:FA)(X:FX)(f:Α)(O:Β)(m:Nat)(_:vs=[.ref p])(_:u7 K a H p A X f O m)(_:∀H',yv H H'->Q (.int (ylc X.ws (X.cs A))) H')
def yj9:vz P w K mg Γ CX0 3 a.Jf a.M5 ["self"] (yf2 K a):=by exists T.Ct.F.ok,yw8,g;let⟨p,b,X,f,O,m,rfl,h,k⟩:=h;have x:=h.me;have t:=h.mx.o;exists 1,0,yc (yq (xg (yn (pv 0) rfl) T.F0 T.Hk.m (vap T) g.m T.Hk.B .nil v7 (pa1 (vt (pv 0) T.Ac T.Cs.m (yj0 T) g.m T.Cs.B .nil v7))));exists p,b,X,f,O,m,rfl,h,λr u j d e=>?_;ext;exists b.mp,b.mx,b.ml,r,X.ws,X.cs b,b.n,rfl,h.n1,h.n6,h.wok,h.cok,h.mx.same e,SqL.of d,λv l=>k _ (e.trans l)
#synth yxx ["self","bit"] yu1
inductive ytb(a:Ads)(vs:Υ)(H:Hp)(Q:VK)(E':XK):Prop
 |mk(p dp ll bl mp el pl:x0)(nd b:Int)(sg:Ρ)(_:vs=[.ref p,.int b])(_:H p=some (.ins a.A2 dp (zu (.ref ll) (.ref bl) (.ref mp) (.ref el) (.int nd) (.ref pl))))(_:H el=some (.lst (sg.map V.int)))(_:sg.length<=100000)(_:0<nd)(_:∀H',H' p=some (.ins a.A2 dp (zu (.ref ll) (.ref bl) (.ref mp) (.ref el) (.int (ndN nd b)) (.ref pl)))->H' el=some (.lst ((sgN sg nd b).map V.int))->(∀c o,H c=some o->c≠p->c≠el->H' c=some o)->Q .non H')
def yw0:vz P w K mg Γ CX0 1 a.Ji a.M8 ["self","bit"] (ytb a):=by
 exists T.Ho.F.ok,yxx,M;let⟨p,l,q,m,r,j,n,g,b,B,rfl,I,y,O,D,k⟩:=h;exists _,(yd (y9 (pv 0) (ym wc (ym wq yg (yn (pv 0) rfl)) (pv 1)) rfl) (yc (wa (yr vc8 (yn (pv 0) rfl) (vk rfl T.Db) (yx _)) (yd (yw (è PySem.F.plainAttrs_list PySem.F.slot_list_append PySem.F.type_list_append xh (yn (pv 0) rfl) (pa1 (ym zx (yn (pv 0) rfl) (vk rfl T.Db))))) (yc (y9 (pv 0) yg rfl))) y6))),?_;exists 2,0;unfold ndN sgN at k;rw[if_pos D,if_pos D]at k;have f:j≠p:=wz y I (by intro z;cases z);ext;have i:upd H p (.ins a.A2 l (zu (.ref q) (.ref m) (.ref r) (.ref j) (.int (2*g+b)) (.ref n))) p=some (.ins a.A2 l (zu (.ref q) (.ref m) (.ref r) (.ref j) (.int (2*g+b)) (.ref n))):=ya;have d:=yf (o':=HO.ins a.A2 l (zu (.ref q) (.ref m) (.ref r) (.ref j) (.int (2*g+b)) (.ref n))) f y;have x:But p H (upd H p (.ins a.A2 l (zu (.ref q) (.ref m) (.ref r) (.ref j) (.int (2*g+b)) (.ref n)))):=But.upd;generalize upd H p (.ins a.A2 l (zu (.ref q) (.ref m) (.ref r) (.ref j) (.int (2*g+b)) (.ref n)))=N at i d x⊢;ext;refine ur (λt=>?_) (λt=>?_)
 .rw[if_pos t,if_pos t]at k;ext;refine Â d ?_;ext;refine x9 d (ve (by rw[bf];omega)) ?_;have L:=yf (o':=HO.lst (List.map V.int B++[V.int (2*g+b-256)])) (Ne.symm f) i;ext;refine k _ ya ?_ λc o e u C=>yf u (yf C (x _ _ e u));rw[yk f,ya,bH];rfl
 .rw[if_neg t,if_neg t]at k;ext;exact k _ i d λc o e u C=>x _ _ e u
#synth yy5 ["self","bit"] yvn
inductive yl4(a:Ads)(vs:Υ)(H:Hp)(Q:VK)(E':XK):Prop
 |mk(p dp ll bl mp el pl:x0)(nd b:Int)(sg:Ρ)(_:vs=[.ref p,.int b])(_:H p=some (.ins a.A2 dp (zu (.ref ll) (.ref bl) (.ref mp) (.ref el) (.int nd) (.ref pl))))(_:H el=some (.lst (sg.map V.int)))(_:sg.length<=100000)(_:0<=nd)(_:∀(el':x0)H',(el'=el\/H el'=none)->H' p=some (.ins a.A2 dp (zu (.ref ll) (.ref bl) (.ref mp) (.ref el') (.int (ndN nd b)) (.ref pl)))->H' el'=some (.lst ((sgN sg nd b).map V.int))->(∀c o,H c=some o->c≠p->c≠el->H' c=some o)->(∃o,H' el=some o)->Q .non H')
def yzw:vz P w K mg Γ CX0 2 a.Jh a.M7 ["self","bit"] (yl4 a):=by
 exists T.Hn.F.ok,yy5,L;let⟨p,y,G,C,I,g,D,v,b,u,rfl,j,f,S,W,k⟩:=h;exists _,(yc (wa (yr yb5 (yn (pv 0) rfl) yg (yx _)) (yc (yw (xg (pv 0) T.Ac T.Ho.m (yw0 T) L.m T.Ho.B .nil v7 (pa1 (pv 1))))) (yc (wa (yr xq (pv 1) yg (yx _)) (yc (y9 (pv 0) yg rfl)) (yc (y9 (pv 0) (xc uo) rfl)))))),?_;exists 2,0;have d:g≠p:=wz f j (by intro z;cases z);ext;refine ur (λl=>?_) (λl=>?_)
 .ext;exists p,y,G,C,I,g,D,v,b,u,rfl,j,f,S,l,λN U x R=>k g N (.inl rfl) U x R ⟨_,x⟩
 .unfold ndN sgN at k;rw[if_neg l,if_neg l]at k;ext;refine ur (λi=>?_) (λi=>?_)
  .rw[if_pos i,if_pos i]at k;ext;exact k g _ (.inl rfl) ya (yf d f) (λc o e n Z=>yf n e) ⟨_,yf d f⟩
  .rw[if_neg i,if_neg i]at k;ext;exists by walk_at "len",λr hr0=>?_
   exists hr0,H1,S1,e1;have M:=S1 _ _ j;ext;have q:r≠p:=λz=>by rw[z,j]at hr0;cases hr0
   exact k r _ (.inr hr0) ya (yf q e1) (λc o e n Z=>yf n (S1 _ _ e)) ⟨_,yf d (S1 _ _ f)⟩
abbrev FA.re(A:FA)(ml el pl:x0)(sl:Μ):FA:={A with ml:=ml,el:=el,pl:=pl,sl:=sl}
def FX.run(A:FA)(X:FX):qi Int->FX
 |[]=>X
 |b::r=>FX.run A (X.see A b) r
theorem ψ(A:FA):∀(bs cs:Ρ)(X:FX),X.run A (bs++cs)=(X.run A bs).run A cs
 |[],_,_=>rfl
 |b::r,cs,X=>ψ A r cs (X.see A b)
def yna(A:FA)(bs:Ρ)(b:Int)(X:FX):X.run A (bs++[b])=(X.run A bs).see A b:=ψ A bs [b] X
def fa0(n:Nat)(ps:Λ):FA:={ dp:=0,ll:=0,bl:=0,mp:=0,mx:=0,ml:=0,el:=0,pl:=0,n:=n,bk:=λZ=>0,dx:=λZ=>0,lk:=λZ=>0,dd:=λZ=>0,sl:=λZ=>0,kd:=λZ=>0,ps:=ps}
theorem jt(A:FA):∀(bs:Ρ)(X:FX),X.run A bs=X.run (fa0 A.n A.ps) bs
 |[],_=>rfl
 |b::r,X=>jt A r (X.see A b)
def ywd(H:Hp)(A:FA):Prop:=H A.ll=some (.lst (refs A.lk A.n))/\A.ll≠A.el/\∃tp,ux H A.n A.lk A.kd tp A.ps
theorem ywd.same{H H':Hp}{A:FA}(h:ywd H A)(S:yv H H'):ywd H' A:=⟨S _ _ h.1,h.2.1,let ⟨tp,r⟩:=h.2.2;⟨tp,r.same S⟩⟩
structure Go(W:Ν)(H H':Hp)(W':Ν):Prop where
 fr:∀c o,H c=some o->¬W c->H' c=some o
 nw:∀c,W' c->W c\/H c=none
 lv:∀c o,H c=some o->∃o',H' c=some o'
def Go.free{W:Ν}{H H':Hp}(h:Go W H H' W'){c:x0}(e:H' c=none):H c=none:=by
 cases z:H c with
 |none=>rfl
 |some o =>
  let⟨a,w⟩:=h.lv c o z;rw[e]at w;cases w
def Go.refl{W:Ν}{H:Hp}:Go W H H W:=⟨λZ Z e Z=>e,λZ w=>.inl w,λZ o e=>⟨o,e⟩⟩
def Go.trans{W W1:Ν}{H H1 H2:Hp}(h:Go W H H1 W1)(k:Go W1 H1 H2 W2):Go W H H2 W2:=by
 exists λc o e a=>k.fr c o (h.fr c o e a) λw=>?_,λc w=>?_,λc o e=>?_
 .rcases h.nw c w with v|v
  .exact a v
  .rw[e]at v;cases v
 .rcases k.nw c w with v|v
  .exact h.nw c v
  .exact .inr (h.free v)
 .obtain⟨d,b⟩:=h.lv c o e;exact k.lv c d b
def Go.same{W:Ν}{H H1 H2:Hp}(h:Go W H H1 W')(S:yv H1 H2):Go W H H2 W':=⟨λc o e a=>S _ _ (h.fr c o e a),h.nw,λc o e=>let ⟨o',w⟩:=h.lv c o e;⟨o',S _ _ w⟩⟩
def Go.ahead{W:Ν}{H H1 H2:Hp}(S:yv H H1)(h:Go W H1 H2 W'):Go W H H2 W':=⟨λc o e=>h.fr c o (S _ _ e),λc w=>(h.nw c w).imp id S.free,λc o e=>h.lv c o (S _ _ e)⟩
def Go.apart{W:Ν}{H H':Hp}(h:Go W H H' W')(hU:∀c,U c->∃o,H c=some o)(dj:∀c,U c->¬W c):∀c,U c->¬W' c:=λc u w=>by
 rcases h.nw c w with v|v
 .exact dj c u v
 .obtain⟨o,e⟩:=hU c u;rw[v]at e;cases e
section
variable{H H':Hp}{n:Nat}{kd:Ξ}{ps:Λ}{X:FX}{M:Nat}{W:Ν}
def ys3{g:Μ}(h:1<=n):(refs g n)[0]?=some (.ref (g 0)):=by unfold refs;rw[bo,cF h];rfl
end
#synth yqc ["self","bit","slot"] ["self","bit"] yvc
inductive yq9(K:xr)(a:Ads)(vs:Υ)(H:Hp)(Q:VK)(E':XK):Prop
 | mk(p:x0)(A:FA)(X:FX)(f:Α)(O:Β)(m:Nat)(b:Int)(_:vs=[.ref p,.int b])(_:u7 K a H p A X f O m)(_:0<=b)(_:b<=1)(_:m+20<1000000)(_:0<=X.nd)(_:X.sg.length<=100000)(_:∀(ml el pl:x0)(sl:Μ)(f':Α)(O':Β)(H':Hp),(el=A.el\/H el=none)->u7 K a H' p {A with ml:=ml,el:=el,pl:=pl,sl:=sl} (X.see A b) f' O' (m+A.n)->(∀j c,j<A.n->O' j c->O j c\/H c=none) ->
  (∀c o,H c=some o->c≠p->c≠A.mp->c≠A.el->(∀j,j<A.n->¬O j c)->H' c=some o)->(∀c o,H c=some o->∃o',H' c=some o')->H ml=none->Q .non H')
def yeu:vz P w K mg Γ CX0 6 a.Jg a.M6 ["self","bit"] (yq9 K a):=by
 exists T.C9.F.ok,yqc,hr;let⟨p,d,X,f,O,m,b,rfl,h,b0,b1,hm,aA,ax,k⟩:=h;have hp:=h.me;have ab:=h.mx.o;have n6:=h.n6;have I:=vbi b0 b1;refine yh (yw (x3 (ĩ T) hr.m T.Cl vg (pa1 (pv 1)))) ?_;refine yh (yw (vh (yn (pv 0) rfl) T.F0 T.Hl.m (va2 T) hr.m T.Hl.B .nil vg (pac (vt (pv 0) T.Ac T.Cs.m (yj0 T) hr.m T.Cs.B .nil v7) (pa1 (pv 1))))) ?_;refine yh (xz PassesOwn.never rfl (vx (yn (pv 0) rfl)) (vn (i:=2) yqc.nd rfl (Or.inl rfl)) (yc (yw (Ŕ (vh (pv 2) T.B9 T.Gy.m (yyt T) hr.m T.Gy.B .nil vg (pa1 (pv 1))) (Ŕ (vh (pv 2) T.By T.Hb.m (va0 T) hr.m T.Hb.B .nil vg (pa1 (pv 1))) (vh (pv 2) T.C4 T.He.m (yxh T) hr.m T.He.B .nil vg (pa1 (pv 1)))))))) ?_;refine yh (yw (xg (pv 0) T.Ac T.Hn.m (yzw T) hr.m T.Hn.B .nil v7 (pa1 (pv 1)))) ?_;exists 2,1,yc (yw (vt (pv 0) T.Ac T.Cr.m (ykm T) hr.m T.Cr.B .nil v7));exists .int b,_,rfl,.int b,λF=>?_,λz=>(by rw[I]at z;cases z);ext;exists p,d,X,f,O,m,rfl,h,λr H1 aI az S1=>?_;have L:=S1 _ _ ab;ext;exists d.mp,d.mx,d.ml,r,X.ws,X.cs d,d.n,.int b,_,rfl,h.n1,n6,h.wok,h.cok,h.mx.same S1,SqL.of az,.int b,λb' e F F ml H2 a6 M2 W=>?_,λz=>(by rw[I]at z;cases z);cases e;have M:=h.same S1
 have ac:p≠d.mp:=λz=>by
  have:=h.me;rw[z,ab]at this;injection this with this;injection this with _ _ e;exact absurd (congrArg List.length e) (show ¬(1=6) by decide)
 have aE:=W _ _ M.me ac;have a9:∀{l:x0}{xs:Υ},H1 l=some (.lst xs)->l≠d.mp:=λ{l xs}e z=>by rw[z,L]at e;cases e
 have a7:=W _ _ M.bl (a9 M.bl);have a8:=W _ _ M.el (a9 M.el);have Z:=W _ _ M.pl (a9 M.pl)
 have a1:=M.B.frame (O2:=λc=>c=d.mp) (λc o e ne=>W c o e ne) (λj c q w z=>h.nm j q (z ▸ w)) (λj q z=>by
  have:=(M.B.b j q).me;rw[z,L]at this;injection this with this;injection this with _ _ e
  exact absurd (congrArg List.length e) (show ¬(1=2) by decide)) (λt xs e=>by
  rcases e with(e|⟨o,e⟩)|e
  .exact .inl (.inl (W _ _ e (λz=>by rw[z,L]at e;cases e)))
  .exact .inl (.inr ⟨o,W _ _ e (λz=>by rw[z,L]at e;cases e)⟩)
  .exact .inr e)
 have au:∀j,j<d.n->(∃s,f j (X.key d j)=some s)/\AtS H2 (d.dd j) (X.key d j) (d.sl j):=λj q=>⟨(M.at' j q).1,(M.at' j q).2.told (M.B.b j q) (λz=>h.nm j q (by rw[<- z];exact(M.B.b j q).dO)) W⟩;ext;refine⟨d.pl,rfl,⟨_,SqL.of Z⟩,x8 (K:=K) (a:=d.pl) (xs:=refs d.sl d.n) (λi σ2 G=>∃(v:Ψ)(f':Α),σ2=[some (.ref p),some (.int b),v]/\Bks K a G d.n d.bk d.dx d.lk d.dd d.kd d.ps f' O m/\
   (∀j,j<d.n->∀k,(f' j k).getD (kd0 (d.kd j))=if j<i/\k=X.key d j then (X.g j k).see b else X.g j k)/\(∀j,j<d.n->(∃s,f' j (X.key d j)=some s)/\AtS G (d.dd j) (X.key d j) (d.sl j))/\(∀c o,H2 c=some o->(∀j,j<d.n->¬O j c)->G c=some o))
  ⟨_,f,rfl,a1,λj q N=>by rw[if_neg (λz=>absurd z.1 (bJ j))];exact h.ag j q N,au,λc o e F=>e⟩ (by rintro i σ2 G _ ⟨_,_,_,_,_,_,w⟩;exact SqL.of (w _ _ Z (a1.nlst Z))) ?_ ?_⟩
 .rintro i y σ2 G hy ⟨v,f',rfl,S,gA,gS,gF⟩;let⟨rfl,D⟩:=uw hy;let⟨⟨s',ae⟩,aa⟩:=gS i D
  have es:s'=X.g i (X.key d i):=by
   have:=gA i D (X.key d i);rw[ae,if_neg (λz=>absurd z.1 (cQ i))]at this;exact this
  let⟨dq,hq,ok,aK,as⟩:=(S.b i D).slot ae aa;ext;refine ytf (x:=.int b) (λQ' h=>?_) (λQ' h=>?_) hq ok (.int b) (λb' e F F G3 h3 B3=>?_) (λz=>by rw[I]at z;cases z) (λz=>by rw[I]at z;cases z) (λz=>by rw[I]at z;cases z)
  .ext;exact h
  .ext;exact h
  cases e;have aq:=(S.b i D).told ae aa b0 b1 h3 B3;have BO:ynx (O i) G G3:=λc o e no=>B3 _ _ e λz=>no (by rw[z];exact as);have M3:=S.move D (bn m) aq (λc w=>.inl w) BO
  have eO:(λj=>if j=i then O i else O j)=O:=by
   funext j
   by_cases z:j=i
   .rw[if_pos z,z]
   .rw[if_neg z]
  rw[eO]at M3
  have av:d.dd i≠d.sl i:=λz=>by
   let⟨aH,aL,w1,_⟩:=(S.b i D).tb;let⟨C,fs,eo⟩:=η a dq s';rw[z,hq,eo]at w1;cases w1
  ext;exists _,_,rfl,M3,λj q N=>?_,λj q=>?_,λc o e no=>?_
  .try dsimp only
   by_cases z:j=i
   .subst z;rw[if_pos rfl];unfold ā;by_cases w:N=X.key d j
    .rw[if_pos w,if_pos ⟨Nat.lt_succ_self j,w⟩,w,<- es];rfl
    .rw[if_neg w,if_neg (λz=>w z.2)];have:=gA j q N;rw[if_neg (λz=>w z.2)]at this;exact this
   .rw[if_neg z,gA j q N];have:(j<i/\N=X.key d j)↔(j<i+1/\N=X.key d j):=by constructor<;>(rintro ⟨u,v⟩;exact⟨by omega,v⟩)
    by_cases w:j<i/\N=X.key d j
    .rw[if_pos w,if_pos (this.mp w)]
    .rw[if_neg w,if_neg (λz=>w (this.mpr z))]
  .try dsimp only
   by_cases z:j=i
   .subst z;rw[if_pos rfl];exists⟨s'.see b,?_⟩,aa.told (S.b j D) av B3;unfold ā;rw[if_pos rfl]
   .rw[if_neg z];exists(gS j q).1,(gS j q).2.move S q D z BO
  .exact BO _ _ (gF c o e no) (no i D)
 .rintro σ2 G ⟨v,f',rfl,S,gA,gS,gF⟩;rw[vv]at gA;have gp:=gF _ _ aE h.np;have R:=gF _ _ a8 (a1.nlst a8);have aj:=gF _ _ a7 (a1.nlst a7);have a0:=gF _ _ M2.o h.nm;have ah:=gF _ _ M2.l (a1.nlst M2.l);ext;exists p,d.dp,d.ll,d.bl,d.mp,d.el,d.pl,X.nd,b,X.sg,rfl,gp,R,ax,aA,λel H4 ai af a4 F4 L4=>?_;have ak:∀{l:x0}{xs:Υ},G l=some (.lst xs)->l≠p:=λ{l xs}e z=>by rw[z,gp]at e;cases e
  have aC:∀j,j<d.n->¬O j p:=h.np;have al:=S.nlst R
  have a5:=S.frame (O2:=λc=>c=p\/c=d.el) (λc o e ne=>F4 c o e (λz=>ne (.inl z)) (λz=>ne (.inr z))) (λj c q w z=>by
   rcases z with z|z
   .exact aC j q (z ▸ w)
   .exact al j q (z ▸ w)) (λj q z=>by
   have:=(S.b j q).me;rcases z with z|z
   .rw[z,gp]at this;injection this with this;injection this with _ _ e;exact absurd (congrArg List.length e) (show ¬(6=2) by decide)
   .rw[z,R]at this
    cases this) (λt xs e=>by
   rcases e with(e|⟨o,e⟩)|e
   .exact .inl (.inl (F4 _ _ e (λz=>by rw[z,gp]at e;cases e) (λz=>by rw[z,R]at e;cases e)))
   .exact .inl (.inr ⟨o,F4 _ _ e (λz=>by rw[z,gp]at e;cases e) (λz=>by rw[z,R]at e;cases e)⟩)
   .exact .inr e)
  have ao:d.bl≠d.el:=λz=>by
   have e:=h.bl;rw[z,h.el]at e;injection e with e;injection e with e;have e0:=congrArg (λl:Υ=>l[0]?) e
   have r0:(refs d.bk d.n)[0]?=some (.ref (d.bk 0)):=by
    unfold refs;rw[bo,cF h.n1];rfl
   try dsimp only at e0
   rw[r0,bo]at e0
   cases hs:X.sg[0]? with
   |none=>rw[hs]at e0;cases e0
   |some c=>rw[hs]at e0;cases e0
  have ap:ml≠d.el:=(yb M.el a6).symm;have a3:=F4 _ _ aj (ak aj) ao;have ar:=F4 _ _ a0 (Ne.symm ac) (λz=>by rw[z,R]at a0;cases a0);have ad:=F4 _ _ ah (ak ah) ap
  have Y:∀c o,H c=some o->∃U,H4 c=some U:=λc o e=>by
   by_cases zp:c=p
   .exists _,zp ▸ af
   by_cases ze:c=d.el
   .rw[ze];exact L4
   have gc:∃U,G c=some U:=by
    by_cases zm:c=d.mp
    .exists _,zm ▸ a0
    by_cases zo:∀j,j<d.n->¬O j c
    .exists o,gF _ _ (W _ _ (S1 _ _ e) zm) zo
    .have:∃j,j<d.n/\O j c:=Classical.byContradiction λw=>zo λj q w'=>w ⟨j,q,w'⟩;let⟨j,q,w⟩:=this;let⟨U,J,_⟩:=(S.b j q).own c w;exists U,J
   let⟨U,J⟩:=gc;exists U,F4 _ _ J zp ze
  have aD:ylg d.n d.kd f' (X.see d b).g:=λj q N=>by
   rw[gA j q N];show _=if N=X.key d j then (X.g j N).see b else X.g j N;by_cases w:N=X.key d j
   .rw[if_pos ⟨q,w⟩,if_pos w]
   .rw[if_neg (λz=>w z.2),if_neg w]
  ext;exists p,d.dp,d.ll,d.bl,d.mp,el,d.pl,ndN X.nd b,sgN X.sg X.nd b,d.n,m,d.bk,d.dx,d.lk,d.dd,d.kd,d.ps,f',O,(X.see d b).g,rfl,af,a3,a4,a5,aD,n6,by omega,h.np,λpl sl f2 O2 H5 am aF aG B5 aw an aB F5 L5=>?_
  have a2:∀{l:x0}{xs:Υ},H4 l=some (.lst xs)->l≠p:=λ{l xs}e z=>by rw[z,af]at e;cases e
  have n2:∀j c,j<d.n->O2 j c->O j c\/H c=none:=λj c q w=>by
   rcases aB j c q w with v|v
   .exact .inl v
   .refine .inr ?_
    cases e:H c with
    |none=>rfl
    |some o =>
     let⟨U,J⟩:=Y c o e;rw[J]at v;cases v
  refine k ml el pl sl f2 O2 H5 ?_ ⟨am,F5 _ _ a3 (a2 a3) (a5.nlst a3),F5 _ _ a4 (a2 a4) (a5.nlst a4),⟨F5 _ _ ar (Ne.symm ac) h.nm,F5 _ _ ad (a2 ad) (a5.nlst ad)⟩,yon h.n1 n6 h.wok h.cok,aF,B5,aw,an,λj q w=>?_,λj q w=>?_,h.n1,n6⟩ n2 (λc o e c1 c2 c3 no=>F5 _ _ (F4 _ _ (gF _ _ (W _ _ (S1 _ _ e) c2) no) c1 c3) c1 no) (λc o e=>let ⟨U,w⟩:=Y c o e;L5 c U w) (S1.free a6)
  .rcases ai with z|z
   .exact .inl z
   .refine .inr ?_
    cases e:H el with
    |none=>rfl
    |some o =>
     exfalso;by_cases zp:el=p
     .rw[zp,gp]at z;cases z
     by_cases zm:el=d.mp
     .rw[zm,a0]at z;cases z
     by_cases zo:∀j,j<d.n->¬O j el
     .rw[gF _ _ (W _ _ (S1 _ _ e) zm) zo]at z;cases z
     .have:∃j,j<d.n/\O j el:=Classical.byContradiction λw=>zo λj q w'=>w ⟨j,q,w'⟩;let⟨j,q,w⟩:=this;let⟨U,J,_⟩:=(S.b j q).own el w;rw[J]at z;cases z
  .rcases n2 j p q w with v|v
   .exact h.np j q v
   .rw[hp]at v;cases v
  .rcases n2 j d.mp q w with v|v
   .exact h.nm j q v
   .rw[ab]at v;cases v
def zk{A:FA}{X:FX}{bs:Ρ}{k:Nat}{b:Int}(h:bs[k]?=some b):X.run A (bs.take (k+1))=(X.run A (bs.take k)).see A b:=by rw[zw h,yna]
structure FGo(p:x0)(A:FA)(O:Β)(H H':Hp)(el:x0)(O':Β):Prop where
 he:el=A.el\/H el=none
 hO:∀j c,j<A.n->O' j c->O j c\/H c=none
 fr:∀c o,H c=some o->c≠p->c≠A.mp->c≠A.el->(∀j,j<A.n->¬O j c)->H' c=some o
 live:∀c o,H c=some o->∃o',H' c=some o'
def FGo.free{A:FA}{H H':Hp}{el c:x0}(h:FGo p A O H H' el O')(hc:H' c=none):H c=none:=by
 cases e:H c with
 |none=>rfl
 |some o =>
  let⟨a,w⟩:=h.live c o e;rw[hc]at w;cases w
def FGo.refl{A:FA}{H:Hp}:FGo p A O H H A.el O:=⟨.inl rfl,λZ Z Z w=>.inl w,λZ Z e Z Z Z Z=>e,λZ o e=>⟨o,e⟩⟩
theorem FGo.trans{A:FA}{O1:Β}{H H1 H2:Hp}{ml el pl el2:x0}{sl:Μ}(h:FGo p A O H H1 el O1)(k:FGo p (A.re ml el pl sl) O1 H1 H2 el2 O2):FGo p A O H H2 el2 O2:=by
 exists ?_,λj c a w=>?_,λc o e d b f g=>?_,λc o e=>?_
 .rcases k.he with z|z
  .rcases h.he with y|y
   .exact .inl (z.trans y)
   .exact .inr (by rw[show el2=el from z];exact y)
  .exact .inr (h.free z)
 .rcases k.hO j c a w with v|v
  .exact h.hO j c a v
  .exact .inr (h.free v)
 .refine k.fr c o (h.fr c o e d b f g) d b (λz=>?_) (λj a w=>?_)
  .rcases h.he with y|y
   .exact f (z.trans y)
   .rw[show c=el from z,y]at e;cases e
  .rcases h.hO j c a w with v|v
   .exact g j a v
   .rw[e]at v;cases v
 .obtain⟨l,i⟩:=h.live c o e;exact k.live c l i
def FGo.same{A:FA}{H H1 H2:Hp}{el:x0}(h:FGo p A O H H1 el O')(S:yv H1 H2):FGo p A O H H2 el O' :=
 ⟨h.he,h.hO,λc o e a b d f=>S _ _ (h.fr c o e a b d f),λc o e=>let ⟨o',w⟩:=h.live c o e;⟨o',S _ _ w⟩⟩
def FGo.ahead{A:FA}{H H1 H2:Hp}{el:x0}(S:yv H H1)(h:FGo p A O H1 H2 el O'):FGo p A O H H2 el O' :=
 ⟨h.he.imp id S.free,λj c a w=>(h.hO j c a w).imp id S.free,λc o e=>h.fr c o (S _ _ e),λc o e=>h.live c o (S _ _ e)⟩
def FGo.kpa{A:FA}{X:FX}{f:Α}{m:Nat}{H H':Hp}{el:x0}(hf:u7 K a H p A X f O m)(h:FGo p A O H H' el O'):KpA H H' A.el el:=λc o e i k=>by
 exists ?_,h.fr c o e (λz=>by rw[z,hf.me]at e;cases e;cases i) (λz=>by rw[z,hf.mx.o]at e;cases e;cases i) k λj l w=>?_
 .rcases h.he with z|z
  .rw[z];exact k
  .exact yb e z
 .obtain⟨n,d,g⟩:=(hf.B.b j l).own c w;rw[e]at d;cases d;rw[i]at g;cases g
def FGo.app{R:x0}{A:FA}{H H1:Hp}{el:x0}{o':HO}(h:FGo p A O H H1 el O')(hR:H R=none):FGo p A O H (upd H1 R o') el O' :=
 ⟨h.he,h.hO,λc o e a b d f=>yf (yb e hR) (h.fr c o e a b d f),λc o e=>let ⟨o',w⟩:=h.live c o e;⟨o',yf (yb e hR) w⟩⟩
def yfb{g:Μ}{n:Nat}(h:1<=n):(refs g n)[0]?=some (.ref (g 0)):=by unfold refs;rw[bo,cF h];rfl
def u7.notR{G:Hp}{R:x0}{A:FA}{X:FX}{f:Α}{m:Nat}{tu:Μ}(h:u7 K a G p A X f O m)(hR:G R=some (.lst (refs tu j)))(htu:∀i,i<j->∃o,G (tu i)=some o/\ywb o=false)(nR:R≠A.el):∀q,(q=A.bl\/q=A.el\/q=A.ml\/q=A.pl)->q≠R:=λq s z=>by
 have d:=h.n1
 have c:∀(l:Υ)(x:V),l[0]?=some x->refs tu j=l->1<=j/\x=.ref (tu 0):=λl x n e=>by
  rcases Nat.eq_zero_or_pos j with w|w
  .rw[<- e,w]at n;cases n
  .rw[<- e,yfb w]at n;exists w,(bE n).symm
 rcases s with y|y|y|y
 .have e:=h.bl;rw[<- y,z,hR]at e;let⟨w,e⟩:=c _ _ (yfb d) (HO.lst.inj (bE e));let⟨o,k,r⟩:=htu 0 w;rw[<- V.ref.inj e,(h.B.b 0 d).me]at k;cases k;cases r
 .exact nR (z.symm.trans y)
 .have e:=h.mx.l;rw[<- y,z,hR]at e;have u:0<X.ws.length:=by rw[h.wok.len];exact d
  let⟨w,e⟩:=c _ (.int X.ws[0]) (by rw[bo,bi u];rfl) (HO.lst.inj (bE e));cases e
 .have e:=h.pl;rw[<- y,z,hR]at e;let⟨w,e⟩:=c _ _ (yfb d) (HO.lst.inj (bE e));let⟨o,k,r⟩:=htu 0 w;let⟨_,⟨v,D⟩,_,_⟩:=h.slot d;let⟨C,E,t⟩:=η a v (X.g 0 (X.key A 0));rw[<- V.ref.inj e,D,t]at k;cases k;cases r
structure jj(H:Hp)(t:x0)(ts:Ρ)(w:Nat):Prop where
 l:H t=some (.lst (ts.map V.int))
 s:Sgs ts
 z:ts.length<=w
def jj.same{H H':Hp}{t:x0}{w:Nat}(h:jj H t ts w)(S:yv H H'):jj H' t ts w:=⟨S _ _ h.l,h.s,h.z⟩
def ut(tt:Λ):Λ
 |0=>[]
 |i+1=>ut tt i++dec (tt i)
def fX(n:Nat)(kd:Ξ)(ps:Λ)(pre:Ρ)(ts:Ρ)(k:Nat):FX:=((FX0 n kd).run (fa0 n ps) pre).run (fa0 n ps) ((dec ts).take k)
def uu(n:Nat)(kd:Ξ)(ps:Λ)(pre:Ρ)(ts:Ρ)(k:Nat):Int:=ylc (fX n kd ps pre ts k).ws ((fX n kd ps pre ts k).cs (fa0 n ps))
def fCs(n:Nat)(kd:Ξ)(ps:Λ)(pre:Ρ)(ts:Ρ)(k:Nat):Ρ:=(fX n kd ps pre ts k).cs (fa0 n ps)
def vi(ts:Ρ)(k:Nat):Int:=((dec ts)[k]?).getD 0
def ylz(ts:Ρ)(k:Nat)(h:k<(dec ts).length):0<=vi ts k/\vi ts k<=1:=by unfold vi;rw[bi h];exact jd ts _ (ce h)
def yv9(H:Hp)(lx:V)(N w:Nat)(lt:Μ)(tt:Λ):Prop:=((lx=.non/\N=0)\/∃ll,lx=.ref ll/\H ll=some (.lst (refs lt N)))/\∀i,i<N->jj H (lt i) (tt i) w
theorem yv9.same{H H':Hp}{lx:V}{N w:Nat}{lt:Μ}{tt:Λ}(h:yv9 H lx N w lt tt)(S:yv H H'):yv9 H' lx N w lt tt :=
 ⟨h.1.imp id λ⟨a,e,z⟩=>⟨a,e,S _ _ z⟩,λi b=>(h.2 i b).same S⟩
structure vep(H:Hp)(L tx:x0)(lx:V)(n:Nat)(lk:Μ)(kd:Ξ)(tp:Μ)(ps:Λ)(ts:Ρ)(N w:Nat)(lt:Μ)(tt:Λ):Prop where
 l:H L=some (.lst (refs lk n))
 n1:1<=n
 n6:n<=6
 r:ux H n lk kd tp ps
 t:jj H tx ts 1000
 lr:yv9 H lx N w lt tt
 w1:w<=1000
 N1:N<=1000
 b:6+6*(N*(9*w+1))+6*(9*ts.length+1)+20<1000000
theorem Sds.refs{H:Hp}{k:Nat}{g:Μ}{d:Nat->PyData}:∀(n:Nat),(∀i,i<n->Sd K H (.ref (g i)) (d i) k)->Sds K H (refs g n) ((List.range n).map d) k:=λn h=>by
 unfold Law.refs
 have a:∀l:qi Nat,(∀i∈l,i<n)->Sds K H (l.map λi=>V.ref (g i)) (l.map d) k:=by
  intro l
  induction l with
  |nil=>exact λZ=>.nil
  |cons i r ih=>exact λb=>.cons (h i (b i (by simp))) (ih λj c=>b j (by simp[c]))
 exact a (List.range n) λi e=>cA.mp e
structure XOk(n:Nat)(X:FX):Prop where
 w:WOk n X.ws
 s:∀i k,(X.g i k).ok
theorem XOk.cs{n:Nat}{X:FX}(h:XOk n X)(ps:Λ):COk n (X.cs (fa0 n ps)):=by
 exists by unfold FX.cs;rw[bf,bV];rfl,λc a=>?_,λc a=>?_
 .obtain⟨j,_,rfl⟩:=br.mp a;exact(ye0 (h.s _ _)).1
 .obtain⟨j,_,rfl⟩:=br.mp a;exact(ye0 (h.s _ _)).2
theorem XOk.see{n:Nat}{X:FX}(h:XOk n X)(n1:1<=n)(n6:n<=6)(ps:Λ){b:Int}(b0:0<=b)(b1:b<=1):XOk n (X.see (fa0 n ps) b):=by
 exists yon n1 n6 h.w (h.cs ps),λi k=>?_;show (if k=X.key (fa0 n ps) i then (X.g i k).see b else X.g i k).ok
 split
 .exact Slt.see_ok (h.s i k) b0 b1
 .exact h.s i k
theorem XOk.run{n:Nat}(n1:1<=n)(n6:n<=6)(ps:Λ):∀(bs:Ρ){X:FX},XOk n X->yaq bs->XOk n (X.run (fa0 n ps) bs)
 |[],_,h,_=>h
 |b::r,_,h,hb=>XOk.run n1 n6 ps r (h.see n1 n6 ps (hb b (by simp)).1 (hb b (by simp)).2) λc a=>hb c (by simp[a])
def XOk.zero{n:Nat}(n1:1<=n)(n6:n<=6)(kd:Ξ):XOk n (FX0 n kd):=⟨vcd n n1 n6,λi Z=>yo4 (kd i)⟩
def yij{bs:Ρ}(h:yaq bs)(k:Nat):yaq (bs.take k):=λb a=>h b (cH a)
def vcc{n:Nat}(n1:1<=n)(n6:n<=6){kd:Ξ}{ps:Λ}{pre:Ρ}(hp:yaq pre)(k:Nat):XOk n (fX n kd ps pre ts k):=by unfold fX;exact((XOk.zero n1 n6 kd).run n1 n6 ps pre hp).run n1 n6 ps _ (yij (jd ts) k)
def å{n:Nat}(n1:1<=n)(n6:n<=6){kd:Ξ}{ps:Λ}{pre:Ρ}(hp:yaq pre)(k:Nat):Ch (uu n kd ps pre ts k):=yep n1 (vcc (kd:=kd) (ps:=ps) (ts:=ts) n1 n6 hp k).w ((vcc (kd:=kd) (ps:=ps) (ts:=ts) n1 n6 hp k).cs ps)
structure TwB(K:xr)(a:Ads)(H G:Hp)(n:Nat)(bk dx lk dd:Μ)(kd:Ξ)(ps:Λ)(f:Α)(O:Β)(m:Nat):Prop where
 B:Bks K a G n bk dx lk dd kd ps f O m
 oO:∀j c,j<n->O j c->H c=none
 oB:∀j,j<n->H (bk j)=none
def TwB.zero{H G:Hp}{bk dx lk dd:Μ}{kd:Ξ}{ps:Λ}{f:Α}{m:Nat}:TwB K a H G 0 bk dx lk dd kd ps f O m :=
 ⟨⟨λi b=>absurd b (bJ i),λi b=>absurd b (bJ i),λi Z Z b=>absurd b (bJ i),λi Z b=>absurd b (bJ i)⟩,λi Z b=>absurd b (bJ i),λi b=>absurd b (bJ i)⟩
def TwB.next{H G G2:Hp}{n m:Nat}{bk dx lk dd:Μ}{kd:Ξ}{ps:Λ}{f:Α}(h:TwB K a H G n bk dx lk dd kd ps f O m)(hl:z6 K G (lk n) (.str (kdS (kd n))) (ps n))
  (S:yv H G) {q dq d D:x0} {xs ys:Υ} {f':qi Int->qj Slt} {O':Ν} (hq:G q=none) (hO:∀c,O' c->G c=none) (S2:yv G G2) (hb:Û a G2 q dq (lk n) d (kd n) f' O' m) (hD:G D=some (.lst xs)):
  TwB K a H (upd G2 D (.lst ys)) (n+1) (upN bk n q) (upN dx n dq) lk (upN dd n d) kd ps (upN f n f') (upN O n O') m:=by
 let⟨s,x,v⟩:=h;have k:∀j c,j<n->O j c->∃o,G c=some o:=λj c g w=>let ⟨o,l,_⟩:=(s.b j g).own c w;⟨o,l⟩
 have M:=(s.same S2).snoc (hl.same S2) hb (λj c g w z=>by
  let⟨o,l⟩:=k j c g w;rw[hO c z]at l
  cases l) (λj g w=>by
  let⟨o,l⟩:=k j q g w;rw[hq]at l
  cases l) (λj g z=>by
  have e:=(s.b j g).me;rw[hO _ z]at e;cases e)
 have i:=S2 _ _ hD;have u:=M.nlst i;have p:∀c o,G2 c=some o->c≠D->upd G2 D (.lst ys) c=some o:=λc o e r=>yf r e;exists M.frame (O2:=λc=>c=D) (λc o e r=>p c o e r) (λj c g w z=>u j g (z ▸ w)) (λj g z=>?_) (λt xs e=>?_),λj c g w=>?_,λj g=>?_
 .have e:=(M.b j g).me;rw[z,i]at e;cases e
 .rcases e with(e|⟨o,e⟩)|e
  .exact .inl (.inl (p _ _ e (λz=>by rw[z,i]at e;cases e)))
  .exact .inl (.inr ⟨o,p _ _ e (λz=>by rw[z,i]at e;cases e)⟩)
  .exact .inr e
 .by_cases z:j=n
  .rw[z,wo]at w;exact S.free (hO c w)
  .rw[wj (by omega)]at w;exact x j c (by omega) w
 .by_cases z:j=n
  .rw[z,wo];exact S.free hq
  .rw[wj (by omega)];exact v j (by omega)
#synth ypn ["self","made"] ["self"] yus
inductive yd9(K:xr)(a:Ads)(vs:Υ)(H:Hp)(Q:VK)(E':XK):Prop
 |mk(p:x0)(A:FA)(X:FX)(f:Α)(O:Β)(m:Nat)(_:vs=[.ref p])(_:u7 K a H p A X f O m)(_:ywd H A)(_:m+20<1000000)(_:∀(q:x0)(A':FA)(f':Α)(O':Β)(H':Hp),H q=none->u7 K a H' q A' X f' O' (m+A.n)->ywd H' A'->A'.n=A.n->A'.kd=A.kd->A'.ps=A.ps->A'.lk=A.lk->(∀j c,j<A.n->O' j c->H c=none)->(∀j,j<A.n->H (A'.bk j)=none)->H A'.mp=none->(∀l,(l=A'.bl\/l=A'.el\/l=A'.ml\/l=A'.pl\/l=A'.ll)->H l=none)->yv H H'->Q (.ref q) H')
def yyz:vz P w K mg Γ CX0 8 a.Jj a.M9 ["self"] (yd9 K a):=by
 exists T.Hq.F.ok,ypn,hr;let⟨p,u,X,f,O,m,rfl,h,⟨aC,aR,tp,a1⟩,hm,k⟩:=h;have hp:=h.me;have n1:=h.n1;have n6:=h.n6;exists 1,1,yd (yo (i:=1) ypn.nd rfl (Or.inl rfl) (ub T.Pf (yb0 T) hr.m rfl T.Pe T.Cm.B .nil vg (pa1 (yn (pv 0) rfl)))) (yd (y9 (pv 1) (wb (js:=[]) (ys:=[]) rfl (vx (yn (pv 0) rfl)) (λC s2 H2 fp=>(vt (pv 0) T.C5 T.Hj.m (yyc T) hr.m T.Hj.B .nil v7)) rfl rfl (hyc:=yt) (hrel:=yt)) rfl) (yd (y9 (pv 1) (vt (yn (pv 0) rfl) T.F0 T.Hm.m (yxy T) hr.m T.Hm.B .nil v7) rfl) (yd (y9 (pv 1) (pcT w6 T.Af (pa1 (yn (pv 0) rfl))) rfl) (yd (y9 (pv 1) (yn (pv 0) rfl) rfl) (yd (yw (vt (pv 1) T.Ac T.Cr.m (ykm T) hr.m T.Cr.B .nil v7)) (yc (yq (pv 1))))))));intro q dq Y ae aL;have S0:yv H (upd (upd H dq (.own q)) q (.ins a.A2 dq [])):=λb o e=>by rw[yk (yb e Y),yk (yb e ae)];exact e
 exists q,dq,.ref u.ll,rfl,ya,.inr ⟨u.ll,u.n,u.lk,u.kd,tp,u.ps,rfl,S0 _ _ aC,n1,n6,a1.same S0,λd f1 O1 H1 N1 B1=>⟨rfl,?_⟩⟩;let⟨ap,e1,e2,e3,e4,aN,aH,aM,aS,U,aU,as⟩:=N1;have S1:yv H H1:=ä Y ae B1;have h1:=h.same S1;have R:H1 q=some (.ins a.A2 d.dp (zu (.ref d.ll) (.ref d.bl) (.ref d.mp) (.ref d.el) (.int 0) (.ref d.pl))):=ap.me;have av:=h1.me;have aK:p≠q:=yb hp Y;ext;exists u.bl,rfl,⟨_,SqL.of h1.bl⟩,λD hD=>?_;refine ul (K:=K) (xs:=refs u.bk u.n) (λi G=>∃(bk dx dd:Μ)(f2:Α)(O2:Β),G D=some (.lst (refs bk i))/\TwB K a H1 G i bk dx u.lk dd u.kd u.ps f2 O2 m/\(∀j,j<i->f2 j=f j)/\yv H1 G)
  ⟨λF=>0,λF=>0,λF=>0,λF F=>none,λF F=>False,ya,TwB.zero,λj x=>absurd x (bJ j),y7 hD⟩ (λi G F z=>?_) (λi y G hy hi z=>?_) (λG z=>?_)
 .obtain⟨_,_,_,_,_,_,_,_,M⟩:=z;exact SqL.of (M _ _ h1.bl)
 .obtain⟨bk,dx,dd,f2,O2,gD,S,gf,M⟩:=z;let⟨rfl,af⟩:=uw hy;have aq:=(h1.B.b i af).same M;have aG:=aq.me;ext;exists u.bk i,u.dx i,u.lk i,u.dd i,u.kd i,f i,O i,m,rfl,aq,by omega,λq2 aQ d2 O3 G2 am aE aB S2=>?_
  refine we (n:=(refs u.bk u.n).length) (S2 _ _ gD) (ve (by rw[vv];omega)) hi ?_;exists _,_,_,_,_,?_,S.next ((h1.B.look i af).same M) M am aB S2 aE gD,λj x=>?_,λb o e=>yf (yb e hD) (S2 _ _ (M b o e))
  .rw[ya,x6,wo]
   congr 3
   exact xy λj x=>(wj x).symm
  .by_cases z:j=i
   .rw[z,wo]
   .rw[wj (by omega)];exact gf j (by omega)
 let⟨bk,dx,dd,f2,O2,gD,S,gf,M⟩:=z;rw[vv]at gD S gf;have ao:=M _ _ R;have aI:=M _ _ av;ext;have aj:D≠q:=λz=>by rw[z,R]at hD;cases hD
 have BA:But q G (upd G q (.ins a.A2 d.dp (zu (.ref d.ll) (.ref D) (.ref d.mp) (.ref d.el) (.int 0) (.ref d.pl)))):=But.upd;have W:upd G q (.ins a.A2 d.dp (zu (.ref d.ll) (.ref D) (.ref d.mp) (.ref d.el) (.int 0) (.ref d.pl))) q=some (.ins a.A2 d.dp (zu (.ref d.ll) (.ref D) (.ref d.mp) (.ref d.el) (.int 0) (.ref d.pl))):=ya;generalize upd G q (.ins a.A2 d.dp (zu (.ref d.ll) (.ref D) (.ref d.mp) (.ref d.el) (.int 0) (.ref d.pl)))=HA at BA W⊢;have SA:yv H HA:=λb o e=>BA _ _ (M _ _ (S1 _ _ e)) (yb e Y);have hA:=h.same SA;have aO:=hA.me;have aF:=hA.mx.o;ext;exists u.mp,u.mx,u.ml,X.ws,rfl,hA.mx,by rw[h.wok.len];exact n1,by rw[h.wok.len];exact n6,λI aw l3 HB J a0 MB SB=>?_
 have aP:=SB _ _ W;ext;have a3:I≠q:=(yb W J).symm;have ai:l3≠q:=(yb W a0).symm;have BC:But q HB (upd HB q (.ins a.A2 d.dp (zu (.ref d.ll) (.ref D) (.ref I) (.ref d.el) (.int 0) (.ref d.pl)))):=But.upd;have aa:upd HB q (.ins a.A2 d.dp (zu (.ref d.ll) (.ref D) (.ref I) (.ref d.el) (.int 0) (.ref d.pl))) q=some (.ins a.A2 d.dp (zu (.ref d.ll) (.ref D) (.ref I) (.ref d.el) (.int 0) (.ref d.pl))):=ya;generalize upd HB q (.ins a.A2 d.dp (zu (.ref d.ll) (.ref D) (.ref I) (.ref d.el) (.int 0) (.ref d.pl)))=HC at BC aa⊢;have SC:yv H HC:=λb o e=>BC _ _ (SB _ _ (SA _ _ e)) (yb e Y);have aT:=SC _ _ hp;ext;refine ý (SqL.of (SC _ _ h.el)) λr hr0=>?_;exists hr0,HD,SD,er;have aV:=SD _ _ aa;ext;have ah:r≠q:=(yb aa hr0).symm;have BE:But q HD (upd HD q (.ins a.A2 d.dp (zu (.ref d.ll) (.ref D) (.ref I) (.ref r) (.int 0) (.ref d.pl)))):=But.upd;have az:upd HD q (.ins a.A2 d.dp (zu (.ref d.ll) (.ref D) (.ref I) (.ref r) (.int 0) (.ref d.pl))) q=some (.ins a.A2 d.dp (zu (.ref d.ll) (.ref D) (.ref I) (.ref r) (.int 0) (.ref d.pl))):=ya;generalize upd HD q (.ins a.A2 d.dp (zu (.ref d.ll) (.ref D) (.ref I) (.ref r) (.int 0) (.ref d.pl)))=HE at BE az⊢;have SE:yv H HE:=λb o e=>BE _ _ (SD _ _ (SC _ _ e)) (yb e Y);have aW:=SE _ _ hp;ext;have BF:But q HE (upd HE q (.ins a.A2 d.dp (zu (.ref d.ll) (.ref D) (.ref I) (.ref r) (.int X.nd) (.ref d.pl)))):=But.upd;have a5:upd HE q (.ins a.A2 d.dp (zu (.ref d.ll) (.ref D) (.ref I) (.ref r) (.int X.nd) (.ref d.pl))) q=some (.ins a.A2 d.dp (zu (.ref d.ll) (.ref D) (.ref I) (.ref r) (.int X.nd) (.ref d.pl))):=ya;generalize upd HE q (.ins a.A2 d.dp (zu (.ref d.ll) (.ref D) (.ref I) (.ref r) (.int X.nd) (.ref d.pl)))=HF at BF a5⊢;have ab:But q HD HF:=BE.trans BF;have a4:But q HB HF:=(BC.trans (But.of SD)).trans ab;have N:But q G HF:=(BA.trans (But.of SB)).trans a4;have SF:yv H HF:=λb o e=>N _ _ (M _ _ (S1 _ _ e)) (yb e Y);have a7:=N _ _ gD aj;have a8:=ab _ _ er ah;have ad:=a4 _ _ MB.o a3;have ak:=a4 _ _ MB.l ai
 have a2:∀j,j<u.n->¬O2 j q:=λj x w=>by
  have e:=S.oO j q x w;rw[R]at e;cases e
 have ac:Bks K a HF u.n bk dx u.lk dd u.kd u.ps f2 O2 m:=S.B.frame (O2:=λc=>c=q) (λc o e ne=>N c o e ne) (λj c x w z=>a2 j x (z ▸ w)) (λj x z=>by
  have e:=S.oB j x;rw[z,R]at e
  cases e) (λt xs e=>by
  rcases e with(e|⟨o,e⟩)|e
  .exact .inl (.inl (N _ _ e (λz=>by rw[z,ao]at e;cases e)))
  .exact .inl (.inr ⟨o,N _ _ e (λz=>by rw[z,ao]at e;cases e)⟩)
  .exact .inr e)
 have au:ylg u.n u.kd f2 X.g:=λi hi k=>by
  rw[gf i hi];exact h.ag i hi k
 ext;exists q,d.dp,d.ll,D,I,r,d.pl,X.nd,X.sg,u.n,m,bk,dx,u.lk,dd,u.kd,u.ps,f2,O2,X.g,rfl,a5,a7,a8,ac,au,n6,by omega,a2,λpl sl f' O' H' aA ax al B' ar aD a9 F' L'=>?_
 have a6:∀j c,j<u.n->O2 j c->∃o,G c=some o:=λj c x w=>let ⟨o,ho,_⟩:=(S.B.b j x).own c w;⟨o,ho⟩
 have an:∀j,j<u.n->¬O2 j I:=λj x w=>by
  let⟨o,ho⟩:=a6 j I x w;rw[BA _ _ ho a3]at J;cases J
 have nl:=λ{l:x0}{xs:Υ}(e:HF l=some (.lst xs))=>ac.nlst e;have L:d.ll≠q:=λz=>by rw[z,R]at U;cases U
 have Z:=N _ _ (M _ _ U) L
 have SH:yv H H':=λc o e=>F' c o (SF c o e) (yb e Y) λj x w=>by
  have e2:=S.oO j c x w;rw[S1 _ _ e]at e2;cases e2
 ext;refine k q ⟨d.dp,d.ll,D,I,aw,l3,r,pl,u.n,bk,dx,u.lk,dd,sl,u.kd,u.ps⟩ f' O' H' Y ⟨aA,F' _ _ a7 aj (nl a7),F' _ _ a8 ah (nl a8),⟨F' _ _ ad a3 an,F' _ _ ak ai (nl ak)⟩,h.wok,ax,B',ar,aD,λj x w=>?_,λj x w=>?_,n1,n6⟩ ⟨F' _ _ Z L (nl Z),λz=>?_,tp,a1.same SH⟩ rfl rfl rfl rfl (λj c x w=>?_) (λj x=>S1.free (S.oB j x)) (SA.free J) (λl hl=>?_) SH
 .rcases a9 j q x w with v|v
  .exact a2 j x v
  .rw[a5]at v;cases v
 .rcases a9 j I x w with v|v
  .exact an j x v
  .rw[ad]at v;cases v
 .have e:=BC _ _ (SB _ _ (BA _ _ (M _ _ U) L)) L;rw[show d.ll=r from z,hr0]at e;cases e
 .rcases a9 j c x w with v|v
  .exact S1.free (S.oO j c x v)
  .exact SF.free v
 .rcases hl with z|z|z|z|z
  .rw[z];exact S1.free hD
  .rw[z];exact SC.free hr0
  .rw[z];exact SA.free a0
  .rw[z];exact SF.free al
  .rw[z];exact S0.free as
#synth yxc ["sign"] yv5
inductive yfq(K:xr)(vs:Υ)(H:Hp)(Q:VK)(E':XK):Prop
 |mk(s:Int)(_:vs=[.int s])(_:∀r H',H r=none->H' r=some (.lst ((b8 s).map V.int))->yv H H'->Q (.ref r) H')
def yxn:vz P w K mg Γ CX0 1 a.Jk a.Ma ["sign"] (yfq K):=by
 exists T.O7.F.ok,yxc,r;let⟨p,rfl,k⟩:=h;exists 1,0,yc (yq (wb (js:=[0]) (ys:=["sign"]) rfl (ye4 (ydb rfl T.I8)) (λC u f t=>(ym vo (ym vd (pv 1) (pv 0)) yg)) rfl rfl (hyc:=(all_cons rfl yt)) (hrel:=(all_cons rfl yt))));exists a.Bf,rfl,⟨_,T.D0 H⟩,λD g=>?_;refine œ (wV p) (T.D0 H) g (λi y f l d b=>?_) (λf d b=>?_)
 .obtain⟨c,n,rfl,o⟩:∃c,0<c/\y=V.int c/\c<=128:=by
   have j:=bB l;simp only[bC,List.not_mem_nil,or_false]at j;rcases j with rfl|rfl|rfl|rfl|rfl|rfl|rfl|rfl<;>exact⟨_,by decide,rfl,by decide⟩
  ext;exact Mp.done g (by show 8<sizeLine;decide) l d b rfl
 .exact k D f g b d
#synth ykt ["text","bits","sign"] ["text"] yuy
inductive yy4(K:xr)(vs:Υ)(H:Hp)(Q:VK)(E':XK):Prop
 |mk(t:x0)(ns:Ρ)(_:vs=[.ref t])(_:H t=some (.lst (ns.map V.int)))(_:Sgs ns)(_:ns.length<=1000)(_:∀r H',H r=none->H' r=some (.lst ((dec ns).map V.int))->yv H H'->Q (.ref r) H')
def yj1:vz P w K mg Γ CX0 5 a.Jl a.Mb ["text"] (yy4 K):=by
 exists T.Et.F.ok,ykt,O;let⟨t,f,rfl,S,hs,hz,k⟩:=h;exists 1,2,yd (yo (i:=1) ykt.nd rfl (Or.inl rfl) (xc uo)) (yd (xz PassesOwn.never rfl (vx (x3 (ygr T) O.m T.Fo vg (pa1 (pv 0)))) (vn (i:=2) ykt.nd rfl (Or.inl rfl)) (yd (yw (è PySem.F.plainAttrs_list PySem.F.slot_list_append PySem.F.type_list_append xh (pv 1) (pa1 yg))) (yc (yw (è PySem.F.plainAttrs_list PySem.F.slot_list_extend PySem.F.type_list_extend yh5 (pv 1) (pa1 (uh (yxn T) O.m T.O7 (pa1 (pv 2))))))))) (yd (yw (è PySem.F.plainAttrs_list PySem.F.slot_list_append PySem.F.type_list_append xh (pv 1) (pa1 yg))) (yc (yq (pv 1)))));exists by walk_at "len",λr hr0=>?_
 exists hr0,H1,S1,hr1;ext;exists .ref t,_,rfl,.lst (S1 _ _ S),.inr ⟨f.map V.int,Î (S1 _ _ S) hs hz,λc H2 u n R=>?_⟩;have N:=S1.trans R;refine⟨c,rfl,⟨_,SqL.of n⟩,x8 (K:=K) (a:=c) (xs:=f.map V.int) (λi σ2 G=>∃v,σ2=[some (.ref t),some (.ref r),v]/\G r=some (.lst ((yca (f.take i)).map V.int))/\G c=some (.lst (f.map V.int))/\yv H G)
  ⟨_,rfl,R _ _ hr1,n,N⟩ (by rintro i σ2 G _ ⟨_,_,_,z,_⟩;exact SqL.of z) ?_ ?_⟩
 .rintro i y σ2 G Y ⟨v,rfl,d,l,C⟩;let⟨z,rfl,a0,L,W⟩:=z5 Y;have B:c≠r:=λe=>by rw[e,hr1]at u;cases u
  have x:(List.map V.int (yca (f.take i))).length<=9000:=by rw[bf,j7,bI];omega
  ext;refine Â d ?_;ext;refine x9 d (ve (by omega)) ?_;have p:yv H (upd G r (.lst (List.map V.int (yca (f.take i))++[V.int 1]))):=λb o e=>yf (yb e hr0) (C b o e);have j:upd G r (.lst (List.map V.int (yca (f.take i))++[V.int 1])) c=some (.lst (f.map V.int)):=yf B l;have g:upd G r (.lst (List.map V.int (yca (f.take i))++[V.int 1])) r=some (.lst (List.map V.int (yca (f.take i)++[1]))):=by rw[ya,bH];rfl
  generalize upd G r (.lst (List.map V.int (yca (f.take i))++[V.int 1]))=G1 at p j g⊢;ext;refine Â g ?_;ext;exists z,rfl,λq G2 X I J=>?_;ext;have D:=J _ _ g;exists r,q,_,_,rfl,rfl,D,I,jf (by rw[bf,bf,bq,yn8];rw[bf]at x;show _+1+8<=_;omega),?_;ext;exists _,rfl,?_,?_,λb o e=>yf (yb e hr0) (J _ _ (p b o e))
  .rw[ya,zw L,ya8,ymm,cz];rfl
  .exact yf B (J _ _ j)
 .rintro σ2 G ⟨v,rfl,d,l,C⟩;rw[bf,bZ]at d;ext;refine Â d ?_;ext;refine x9 d (ve (by rw[bf,j7];omega)) ?_;ext;refine k r _ hr0 ?_ λb o e=>yf (yb e hr0) (C b o e);rw[ya,ynu,bH];rfl
#synth ykl ["number","size","places"] ["number","size"] ytt
inductive yf4  (vs:Υ) (H:Hp) (Q:VK) (E':XK):Prop
 |mk(n:Int)(k:Nat)(_:vs=[.int n,.int k])(_:k<=100000)(_:∀t H',H t=none->H' t=some (.lst ((wr k n).map V.int))->yv H H'->Q (.ref t) H')
def vav:vz P w K mg Γ CX0 1 a.Jm a.Mc ["number","size"] yf4:=by
 exists T.O8.F.ok,ykl,B;let⟨n,d,rfl,D,k⟩:=h;exists 2,1,yd (yo (i:=2) ykl.nd rfl (Or.inl rfl) (xc uo)) (yd (je PassesOwn.never (yr ò (pcB yp T.Aa (pa1 (pv 2))) (pv 1) (yx _)) (yd (yw (è PySem.F.plainAttrs_list PySem.F.slot_list_append PySem.F.type_list_append xh (pv 2) (pa1 (ym vo (pv 0) yg)))) (yc (yo (i:=0) ykl.nd rfl (Or.inl rfl) (ym vd (pv 0) yg))))) (yd (yw (yj5 PySem.F.plainAttrs_list PySem.F.slot_list_reverse PySem.F.type_list_reverse ō (pv 2))) (yc (yq (pv 2)))));exists by walk_at "len",λt l=>?_
 ext;exists λm σ' u=>∃(f:Int)(c:Ρ),σ'=[some (.int f),some (.int d),some (.ref t)]/\u t=some (.lst (c.map V.int))/\yv H u/\c++lo (d-c.length) f=lo d n/\c.length<=d/\m=d-c.length,⟨_,n,[],rfl,ya,y7 l,rfl,bK _,rfl⟩,?_;rintro m σ2 C ⟨f,c,rfl,g,r,j,G,rfl⟩;ext;refine x5 (SqL.of g) ?_;rw[bf];ext;refine ur (λy=>?_) (λy=>?_)
 .refine ybx ?_;ext;refine Â g ?_;ext;refine x9 g (by rw[bf];exact ve (by omega)) ?_;ext;exists _,?_,f/256,c++[f%256],rfl,(ya.trans (by rw[yls])),λb o e=>?_,?_,?_,rfl
  .rw[bq];show d-(c.length+1)<d-c.length;omega
  .rw[yk (yb e l)];exact r b o e
  .have q:d-c.length=d-(c++[f%256]).length+1:=by
    rw[bq];show d-c.length=d-(c.length+1)+1;omega
   rw[q]at j;rw[<- j,cz];rfl
  .rw[bq];show c.length+1<=d;omega
 .ext;have q:d-c.length=0:=by omega
  rw[q]at j;have x:c=lo d n:=by rw[<- j];simp[lo]
  refine Â g ?_;refine ya7 g ?_;ext;refine k t _ l ?_ λb o e=>?_
  .rw[ya,ysq,x];rfl
  .rw[yk (yb e l)];exact r b o e
#synth vax ["low","unit"] yv2
inductive ķ  (vs:Υ) (H:Hp) (Q:VK) (E':XK):Prop
 |mk(l e:Int)(_:vs=[.int l,.int e])(_:0<e)(_:e<2^63)(_:Q (.int (blk l e)) H)
def ypt:vz P w K mg Γ CX0 1 a.Jn a.Md ["low","unit"] ķ:=by exists T.Hr.F.ok,vax,f;let⟨l,e,rfl,g,i,k⟩:=h;exists 2,0,yc (yq (ym vd (ym zx (ym wc (pv 0) (pv 1)) yg) (pv 1)));exact k
#synth yw1 ["self"] yuf
inductive ysw(C:x0)(vs:Υ)(H:Hp)(Q:VK)(E':XK):Prop
 |mk(p dx:x0)(_:vs=[.ref p])(_:H p=some (.ins C dx []))(_:∀H',H' p=some (.ins C dx (jz s0))->But p H H'->Q .non H')
def ypa:vz P w K mg Γ CX0 1 a.Gm a.Me ["self"] (ysw a.A4):=by
 exists T.Ds.F.ok,yw1,j;let⟨p,c,rfl,i,k⟩:=h;exists 1,0,yd (y9 (pv 0) yg rfl) (yd (y9 (pv 0) (vk rfl T.El) rfl) (yc (y9 (pv 0) (vk rfl T.Fz) rfl)));exists p,_,c,_,rfl,i,T.Ag,T.Bp,by show 0<1000;decide,?_
 ext;exists p,_,c,_,rfl,ya,T.Ag,T.As,by show 1<1000;decide,?_
 ext;exists p,_,c,_,rfl,ya,T.Ag,T.B4,by show 2<1000;decide,?_
 have e:j9 "size" (.int 5) (j9 "width" (.int 1099511627776) (j9 "low" (.int 0) []))=jz s0:=by
  rw[wx,vw nLW wx,vw nLS (vw nWS wx)];rfl
 refine k _ (ya.trans (congrArg (λl=>some (HO.ins a.A4 c l)) e)) λb o h n=>?_;rw[yk n,yk n,yk n];exact h
#synth yz6 ["self","chance"] ytn
inductive yze(C:x0)(vs:Υ)(H:Hp)(Q:VK)(E':XK):Prop
 |mk(p dx:x0)(x:Sn)(c:Int)(_:vs=[.ref p,.int c])(_:H p=some (.ins C dx (jz x)))(_:Ch c)(_:Q (.int (cut x.2.1 c)) H)
def ypi:vz P w K mg Γ CX0 1 a.Jo a.Mf ["self","chance"] (yze a.A4):=by exists T.Dt.F.ok,yz6,i;let⟨p,e,x,c,rfl,l,⟨j,g⟩,k⟩:=h;exists 2,0,yc (yq (ym vd (ym wq (yn (pv 0) rfl) (pv 1)) (vk rfl T.Cd)));exact k
#synth you ["self","chance","bit","cut"] ["self","chance","bit"] yux
inductive yik(K:xr)(C Nc Nb:x0)(vs:Υ)(H:Hp)(Q:VK)(E:XK):Prop
 |mk(p dx:x0)(x:Sn)(vc vb:V)(n m:String)(_:vs=[.ref p,vc,vb])(_:H p=some (.ins C dx (jz x)))(_:Ok x)(_:ue K H vc (.type n))(_:ue K H vb (.type m))(_:(chV vc=false->E (.ref Nc) none H))(_:(chV vc=true->õ vb=false->E (.ref Nb) none H))(_:∀c b:Int,vc=.int c->vb=.int b->Ch c->0<=b->b<=1->∀H',H' p=some (.ins C dx (jz (nar x c b)))->But p H H'->Q .non H')
def yp8:vz P w K mg Γ (CXe P w) 4 a.Jp a.Mg ["self","chance","bit"] (yik K a.A4 a.Dl a.Bx):=by
 exists T.Du.F.okE,you,j;let⟨p,g,x,I,J,n,m,rfl,D,C,Z,O,k1,k2,k⟩:=h;exists _,(yd (yw (x3 (yvr T) j.m T.Oo yz (pa1 (pv 1)))) (yd (yw (x3 (ĩ T) j.m T.Cl yz (pa1 (pv 2)))) (yd (yo (i:=3) you.nd rfl (Or.inl rfl) (xg (pv 0) T.Ag T.Dt.m (ypi T) j.m T.Dt.B .nil v7 (pa1 (pv 1)))) (yd (jw (wa (yr xq (pv 2) yg (yx _)) (yc (y9 (pv 0) (pv 3) rfl)) (yd (y9 (pv 0) (ym wc (yn (pv 0) rfl) (pv 3)) rfl) (yc (y9 (pv 0) (ym zx (yn (pv 0) rfl) (pv 3)) rfl))))) (yc (PS.nox (je PassesOwn.never (yr ò (yn (pv 0) rfl) (vk rfl T.Em) (yx _)) (yd (y9 (pv 0) (ym wq (yn (pv 0) rfl) yg) rfl) (yd (y9 (pv 0) (ym wq (yn (pv 0) rfl) yg) rfl) (yc (y9 (pv 0) (ym wc (yn (pv 0) rfl) yg) rfl))))))))))),?_;exists 3,1;have l:=C.w0;have o:=C.w1;ext;exists I,n,rfl,Z,λf=>?_,k1;ext;exists J,m,rfl,O,λu=>?_,k2 f;let⟨c,rfl,N,c2⟩:=yc5 f;let⟨b,rfl,M,U⟩:=ydp u;have q:Ch c:=⟨N,c2⟩;have k:=k c b rfl rfl q M U;ext;exists p,g,_,rfl,D,lkN _ (by right) (by right) (by right),?_;ext;exists p,g,x,c,rfl,D,q,?_;ext;let⟨a1,R,Y⟩:=ś l o q;refine yk8 (λσ' e=>∃y:Sn,σ'=[some (.ref p),some (.int c),some (.int b),some (.int (cut x.2.1 c))]/\e p=some (.ins a.A4 g (jz y))/\8388608<=y.2.1/\y.2.1<=1099511627776/\ren y.1 y.2.1 y.2.2=nar x c b/\But p H e) ?_ ?_
 .ext;refine ur (λd=>?_) (λd=>?_)
  .ext;exists _,rfl,ya,a1,Int.le_of_lt Y,?_,But.upd;unfold nar
   (rw[if_pos d])<;>rfl
  .ext;exists _,rfl,ya,R,?_,?_,But.upd.trans But.upd
   .show x.2.1-cut x.2.1 c<=_;omega
   .unfold nar
    (rw[if_neg d])<;>rfl
 .rintro σ' e ⟨y,rfl,v,X,S,y3,W⟩;ext;exists λm σ' e=>∃y:Sn,σ'=[some (.ref p),some (.int c),some (.int b),some (.int (cut x.2.1 c))]/\e p=some (.ins a.A4 g (jz y))/\8388608<=y.2.1/\y.2.1<=1099511627776/\ren y.1 y.2.1 y.2.2=nar x c b/\But p H e/\m=(4294967296-y.2.1).toNat,⟨_,y,rfl,v,X,S,y3,W,rfl⟩,?_;rintro m σ2 H2 ⟨z,rfl,hz,z1,z2,r,G,rfl⟩;ext;refine ur (λd=>?_) (λd=>?_)
  .refine ybx ?_;ext;exists _,?_,(z.1*256,z.2.1*256,z.2.2+1),rfl,ya,?_,?_,(yl3 d z1).trans r,((G.trans But.upd).trans But.upd).trans But.upd,rfl
   .show (4294967296-z.2.1*256).toNat<(4294967296-z.2.1).toNat;omega
   .show 8388608<=z.2.1*256;omega
   .show z.2.1*256<=1099511627776;omega
  .rw[yqy d]at r;refine k _ ?_ G;rw[<- r];exact hz
#synth yxk ["self","unit"] yvb
inductive ymy(C:x0)(vs:Υ)(H:Hp)(Q:VK)(E':XK):Prop
 |mk(p dx:x0)(x:Sn)(j:Nat)(_:vs=[.ref p,.int (pw j)])(_:H p=some (.ins C dx (jz x)))(_:j<=6)(_:Q (.bl (decide (Ŝ x.1 x.2.1 j))) H)
def yx4:vz P w K mg Γ CX0 2 a.Jq a.Mh ["self","unit"] (ymy a.A4):=by
 exists T.Hs.F.ok,yxk,d;let⟨p,f,x,j,rfl,n,e,k⟩:=h;exists _,(yc (yq (xv jg (ym wq (ym wc (uh (ypt T) d.m T.Hr (pac (yn (pv 0) rfl) (pa1 (pv 1)))) yg) (pv 1)) (ym wc (yn (pv 0) rfl) (yn (pv 0) rfl)) (yx _)))),?_;exists 2,0;have l:=ydz e;have g:=ug j;ext;exists _,_,rfl,g,by omega,?_
 ext;exact k
#synth ybv ["self","unit","size"] ["self"] yt4
inductive yr9(C:x0)(vs:Υ)(H:Hp)(Q:VK)(E':XK):Prop
 |mk(p dx:x0)(x:Sn)(_:vs=[.ref p])(_:H p=some (.ins C dx (jz x)))(_:OkS x)(_:sz x<=100000)(_:∀t H',H t=none->H' t=some (.lst ((tL x).map V.int))->yv H H'->Q (.ref t) H')
def ypw:vz P w K mg Γ CX0 3 a.Jr a.Mi ["self"] (yr9 a.A4):=by
 exists T.Dv.F.ok,ybv,c;let⟨p,l,x,rfl,n,d,D,k⟩:=h;exists 1,2,yd (yo (i:=1) ybv.nd rfl (Or.inl rfl) yg) (yd (yo (i:=2) ybv.nd rfl (Or.inl rfl) (yn (pv 0) rfl)) (yd (je PassesOwn.never (xo (xg (pv 0) T.Ag T.Hs.m (yx4 T) c.m T.Hs.B .nil v7 (pa1 (ym wq (pv 1) yg)))) (yd (yo (i:=1) ybv.nd rfl (Or.inl rfl) (ym wq (pv 1) yg)) (yc (yo (i:=2) ybv.nd rfl (Or.inl rfl) (ym zx (pv 2) yg))))) (yc (yq (uh (vav T) c.m T.O8 (pac (uh (ypt T) c.m T.Hr (pac (yn (pv 0) rfl) (pa1 (pv 1)))) (pa1 (pv 2))))))));exists λm σ' r=>r=H/\∃j:Nat,σ'=[some (.ref p),some (.int (pw j)),some (.int (x.2.2-j))]/\j<=5/\tel x.1 x.2.1 (5-j) j=tK x/\m=6-j,⟨_,rfl,0,by simp[pw],by decide,rfl,rfl⟩,?_;rintro m σ2 C ⟨rfl,j,rfl,G,o,rfl⟩;have z:=ydz (show j<=6 by omega);have t:=ug j;ext;exists p,l,_,rfl,n,lkN _ (by right) (by right) (by right),?_;ext;exists p,l,x,j+1,rfl,n,by omega,?_
 ext;refine ur (λb=>?_) (λb=>?_)
 .refine ybx ?_;ext;have v:=yjv d.ok.w1 b;exists _,?_,rfl,j+1,?_,v,?_,rfl
  .show 6-(j+1)<6-j;omega
  .have e:x.2.2-(j:Int)-1=x.2.2-((j+1:Nat):Int):=by omega
   rw[e];rfl
  .rw[ymx b,<- o]
   congr 1
   omega
 .have g:j=tK x:=by rw[<- o,ys1 b]
  subst g;ext;exists _,_,rfl,t,by omega,?_
  ext;have I:=d.sz;have y:=(ynv d).2;have e:x.2.2-(tK x:Int)=((sz x-tK x:Nat):Int):=by omega
  rw[e];exists _,_,rfl,by omega,k
#synth vbo ["self","place"] yto
inductive yfy(C:x0)(vs:Υ)(H:Hp)(Q:VK)(E':XK):Prop
 |mk(p dx pd:x0)(v1 v2 v3:V)(d:Ρ)(k:Nat)(_:vs=[.ref p,.int k])(_:H p=some (.ins C dx (yle (.ref pd) v1 v2 v3)))(_:H pd=some (.lst (d.map V.int)))(_:Q (.int ((d[k]?).getD 0)) H)
def yxe:vz P w K mg Γ CX0 1 a.Jt a.Mm ["self","place"] (yfy a.Ae):=by
 exists T.Ht.F.ok,vbo,r;let⟨p,o,q,m,j,i,d,f,rfl,t,e,k⟩:=h;exists 2,0,yc (yq (Ó (yr ò (pv 1) (pcB yp T.Aa (pa1 (yn (pv 0) rfl))) (yx _)) (xi xm (yn (pv 0) rfl) (pv 1) (λZ Z=>rfl)) yg));refine x5 (SqL.of e) ?_;rw[bf];ext;refine ur (λl=>?_) (λl=>?_)
 .have c:f<d.length:=by omega
  rw[bi c]at k;ext;exact jy (SqL.of e) (vq (by rw[bo,bi c];rfl)) k
 .rw[cg (by omega)]at k;ext;exact k
#synth yxp ["self"] yts
inductive yg7(C D:x0)(vs:Υ)(H:Hp)(Q:VK)(E':XK):Prop
 |mk(p dx pd ps ds:x0)(d:Ρ)(x:Sn)(r:Nat)(_:vs=[.ref p])(_:H p=some (.ins C dx (yle (.ref pd) (.ref ps) (.int (rn d r)) (.int r))))(_:H pd=some (.lst (d.map V.int)))(_:H ps=some (.ins D ds (jz x)))(_:p≠ps)(_:OkS x)(_:r<=sz x)(_:∀H',H' p=some (.ins C dx (yle (.ref pd) (.ref ps) (.int (rn d (sz x))) (.int x.2.2)))->But p H H'->Q .non H')
def yop:vz P w K mg Γ CX0 2 a.Js a.Ml ["self"] (yg7 a.Ae a.A4):=by
 exists T.Dw.F.ok,yxp,v;let⟨p,l,i,g,t,d,x,r,rfl,q,G,N,e,z,j,k⟩:=h;exists _,(yc (je PassesOwn.never (yr ò (yn (pv 0) rfl) (yn (yn (pv 0) rfl) rfl) (yx _)) (yd (y9 (pv 0) (ym wc (ym wq (yn (pv 0) rfl) yg) (xg (pv 0) T.Bq T.Ht.m (yxe T) v.m T.Ht.B .nil v7 (pa1 (yn (pv 0) rfl)))) rfl) (yc (y9 (pv 0) (ym wc (yn (pv 0) rfl) yg) rfl))))),?_;exists 1,0;have L:=z.sz;exists λm σ' o=>∃r:Nat,σ'=[some (.ref p)]/\o p=some (.ins a.Ae l (yle (.ref i) (.ref g) (.int (rn d r)) (.int r)))/\r<=sz x/\But p H o/\m=sz x-r,⟨_,r,rfl,q,j,But.refl,rfl⟩,?_;rintro m σ2 I ⟨r,rfl,b,y,c,rfl⟩;have C:I g=some (.ins a.A4 t (jz x)):=c _ _ N e.symm;have n:=c.lst q G;ext;refine ur (λM=>?_) (λM=>?_)
 .refine ybx ?_;ext;exists p,l,i,_,_,_,d,r,rfl,b,n,?_;ext;exists _,?_,r+1,rfl,?_,by omega,(c.trans But.upd).trans But.upd,rfl
  .omega
  .rw[ya];rfl
 .have J:r=sz x:=by omega
  subst J;ext;refine k _ ?_ c;rw[<- L];exact b
#synth yxi ["self","data"] yuk
inductive yh1(K:xr)(a:Ads)(vs:Υ)(H:Hp)(Q:VK)(E:XK):Prop
 |mk(p dx:x0)(v:V)(n:String)(_:vs=[.ref p,v])(_:H p=some (.ins a.Ae dx []))(_:ue K H v (.type n))(_:((Bad K H v n 12000/\∀H',yv H H'->E (.ref a.Ff) none H')\/∃d:Ρ,vcu K H v (d.map V.int) 12000/\∀pd ps ds H',H pd=none->H ps=none->yg2 a H' p dx pd ps ds d s0->But p H H'->Q .non H'))
def vbb:vz P w K mg Γ (CXe P w) 5 a.Gn a.Mj ["self","data"] (yh1 K a):=by
 exists T.Eu.F.okE,yxi,D;let⟨p,q,v,n,rfl,S,Z,h⟩:=h;exists 2,0,yd (y9 (pv 0) (x3 (vck T) D.m T.P4 yz (pa1 (pv 1))) rfl) (yd (y9 (pv 0) (zj T.Ph (ypa T) D.m rfl T.Pg T.Ds.B .nil v7) rfl) (yd (y9 (pv 0) yg rfl) (yd (y9 (pv 0) yg rfl) (yc (yw (vt (pv 0) T.Bq T.Dw.m (yop T) D.m T.Dw.B .nil v7))))));exists v,n,rfl,Z,?_;rcases h with⟨hb,k⟩|⟨d,hg,k⟩
 .exact .inl ⟨hb,k⟩
 .refine .inr ⟨d.map V.int,hg,λi C r J U=>?_⟩;have a0:=U _ _ S;have f:i≠p:=λz=>by rw[z,S]at r;cases r
  ext;have G:But p H (upd C p (.ins a.Ae q ([("data",V.ref i)]:Ι))):=(But.of U).trans But.upd;have l:upd C p (.ins a.Ae q ([("data",V.ref i)]:Ι)) p=some (.ins a.Ae q ([("data",V.ref i)]:Ι)):=ya;have y:upd C p (.ins a.Ae q ([("data",V.ref i)]:Ι)) i=some (.lst (d.map V.int)):=yf f J;generalize upd C p (.ins a.Ae q ([("data",V.ref i)]:Ι))=H2 at G l y⊢;intro t I g nds ne;exists t,I,rfl,ya,λW x B3=>⟨rfl,?_⟩;have O:yv H2 W:=λb o e=>B3 b o (by rw[yk (yb e g),yk (yb e nds)];exact e) (yb e g);have a2:=O _ _ l;have u:=O _ _ y;have c:p≠t:=yb l g
  have M:H t=none:=by
   cases e:H t with
   |none=>rfl
   |some o=>exact absurd (G _ _ e c.symm) (by rw[g];exact λz=>nomatch z)
  ext;exists p,q,i,t,I,d,s0,0,rfl,ya,?_,?_,c,veq,bK _,λR L Y=>?_
  .exact yf f (yf f (yf f u))
  .exact yf c.symm (yf c.symm (yf c.symm x))
  .ext;have j:But p W R:=((But.upd.trans But.upd).trans But.upd).trans Y;exact k i t I R r M ⟨L,j _ _ u f,j _ _ x c.symm,c⟩ ((G.trans (But.of O)).trans j)
#synth yo0 ["self","chance","bit"] ["self","chance"] yt2
inductive ym7(K:xr)(a:Ads)(vs:Υ)(H:Hp)(Q:VK)(E:XK):Prop
 |mk(p dx pd ps ds:x0)(d:Ρ)(x:Sn)(v:V)(n:String)(_:vs=[.ref p,v])(_:yg2 a H p dx pd ps ds d x)(_:OkS x)(_:ue K H v (.type n))(_:(chV v=false->E (.ref a.Dl) none H))(_:∀c:Int,v=.int c->Ch c->∀H',yg2 a H' p dx pd ps ds d (nar x c (ô d x c))->ylh p ps H H'->Q (.int (ô d x c)) H')
def yxv{x:Sn}{c b:Int}(h:Ok x)(hc:Ch c):sz x<=sz (nar x c b):=by
 let⟨r,e⟩:=vb4 (if b=1 then x.1 else x.1+cut x.2.1 c) (if b=1 then cut x.2.1 c else x.2.1-cut x.2.1 c) x.2.2
 have a:nar x c b=ren (if b=1 then x.1 else x.1+cut x.2.1 c) (if b=1 then cut x.2.1 c else x.2.1-cut x.2.1 c) x.2.2:=by
  unfold nar
  split<;>rfl
 rw[a,e];unfold sz;dsimp only;omega
def yz0:vz P w K mg Γ (CXe P w) 5 a.Ju a.Mn ["self","chance"] (ym7 K a):=by
 exists T.Hu.F.okE,yo0,u;let⟨p,N,I,o,q,d,x,v,n,rfl,l,y,ty,k1,k⟩:=h;exists 2,1,yd (yw (x3 (yvr T) u.m T.Oo yz (pa1 (pv 1)))) (yd (jw (yo (i:=2) yo0.nd rfl (Or.inl rfl) (Ó (yr ò (yn (pv 0) rfl) (ym wc (yn (yn (pv 0) rfl) rfl) (xg (yn (pv 0) rfl) T.Ag T.Dt.m (ypi T) u.m T.Dt.B .nil v7 (pa1 (pv 1)))) (yx _)) yg yg))) (yd (yw (vh (yn (pv 0) rfl) T.Ag T.Du.m (yp8 T) u.m T.Du.B .nil yz (pac (pv 1) (pa1 (pv 2))))) (yd (yw (vt (pv 0) T.Bq T.Dw.m (yop T) u.m T.Dw.B .nil v7)) (yc (yq (pv 2))))));exists v,n,rfl,ty,λZ=>?_,k1;let⟨c,rfl,X,c2⟩:=yc5 Z;have t:Ch c:=⟨X,c2⟩;have k:=k c rfl t;have O:=l.me;have e:=l.sp;ext;refine yk8 (λσ' R=>σ'=[some (.ref p),some (.int c),some (.int (ô d x c))]/\H=R) ?_ ?_
 .ext;exists o,q,_,rfl,e,lkN _ (by right) (by right) (by right),?_;ext;exists o,q,x,c,rfl,e,t,?_;ext;unfold ô;refine ur (λC=>?_) (λC=>?_)
  .rw[if_pos C];ext;exists rfl,rfl
  .rw[if_neg C];ext;exists rfl,rfl
 .rintro σ' R ⟨rfl,rfl⟩;have L:=Ÿ d x c;generalize C:ô d x c=b at L k⊢;ext;exists o,q,_,rfl,e,lkN _ (by right) (by right) (by right),?_;ext;exists o,q,x,.int c,.int b,_,_,rfl,e,y.ok,.int c,.int b,(λz=>by rw[yeq t]at z;cases z),(λF z=>by rw[ydg (by omega) (by omega)]at z;cases z),λY U ec eb F F F W r M=>?_;obtain rfl:c=Y:=V.int.inj ec;obtain rfl:b=U:=V.int.inj eb;have f:=M _ _ O l.ne;have g:=M.lst e l.dt;ext;have j:W p=some (.ins a.Ae N (yle (.ref I) (.ref o) (.int (rn d (sz x))) (.int ((sz x:Nat):Int)))):=by rw[y.sz];exact f
  exists p,N,I,o,q,d,nar x c b,sz x,rfl,j,g,r,l.ne,yda y t,yxv y.ok t,λH2 J D=>?_;ext;exact k H2 ⟨J,D.lst f g,D _ _ r l.ne.symm,l.ne⟩ (M.two'.trans D.two)
#synth vag ["self"] yt5
inductive yhs(a:Ads)(vs:Υ)(H:Hp)(Q:VK)(E':XK):Prop
 |mk(p dx pd ps ds:x0)(d:Ρ)(x:Sn)(_:vs=[.ref p])(_:yg2 a H p dx pd ps ds d x)(_:OkS x)(_:sz x<=tMx)(_:∀t H',H t=none->H' t=some (.lst ((tL x).map V.int))->yv H H'->Q (.ref t) H')
def yww:vz P w K mg Γ CX0 4 a.Jv a.Mo ["self"] (yhs a):=by exists T.Hv.F.ok,vag,j;let⟨p,o,t,f,c,d,x,rfl,g,l,n,k⟩:=h;have r:=g.me;have b:=g.sp;exists 1,0,yc (yq (vt (yn (pv 0) rfl) T.Ag T.Dv.m (ypw T) j.m T.Dv.B .nil v7));exists f,c,_,rfl,b,lkN _ (by right) (by right) (by right),?_;ext;exists f,c,x,rfl,b,l,n,k
#synth yyb ["thing"] yui
def ybo(K:xr):Sp:=λvs H Q Z=>(vs=[.non]/\∀r H',H r=none->H' r=some (.lst [])->yv H H'->Q (.ref r) H')\/∃(l:x0)(n:Nat)(tx:Μ)(tt:Λ),vs=[.ref l]/\H l=some (.lst (refs tx n))/\n<=1000/\(∀i,i<n->jj H (tx i) (tt i) 1000)/\
 ∀r(cx:Μ)H',H r=none->H' r=some (.lst (refs cx n))->(∀i,i<n->H (cx i)=none/\H' (cx i)=some (.lst ((tt i).map V.int)))->yv H H'->Q (.ref r) H'
def ykr:vz P w K mg Γ CX0 5 a.Jw a.Mq ["thing"] (ybo K):=by
 refine T.Ev.F.ok yyb (λX H Q E h=>?_) (λa0 A M s H X Q E U h=>?_)
 .rcases h with⟨rfl,_⟩|⟨l,n,v,O,rfl,_⟩<;>rfl
 .rcases h with⟨rfl,k⟩|⟨l,n,v,O,rfl,I,hn,Z,k⟩
  .exists _,(yd (wa (yr yet (pv 0) zd (yx _)) (yc (yq (xc uo))) y6) (yd (wa (xn (xo (pcB wv T.A7 (pac (pv 0) (pa1 (jx (T:="list") rfl T.Af (by right))))))) (yc ź) y6) (yc (yq (wb (js:=[]) (ys:=[]) rfl (vx (pv 0)) (λC s2 H2 Y=>(x3 (ygr T) U.m T.Fo vg (pa1 (pv 0)))) rfl rfl (hyc:=yt) (hrel:=yt)))))),?_;refine yj (σ':=[some _]) rfl ?_;ext;refine vdp ?_;ext;exists by walk_at "len",λr q=>?_
   exact k r _ q ya (y7 q)
  .exists _,(yd (wa (yr yet (pv 0) zd (yx _)) (yc (yq (xc uo))) y6) (yd (wa (xn (xo (pcB wv T.A7 (pac (pv 0) (pa1 (jx (T:="list") rfl T.Af (by right))))))) (yc ź) y6) (yc (yq (wb (js:=[]) (ys:=[]) rfl (vx (pv 0)) (λC s2 H2 Y=>(x3 (ygr T) U.m T.Fo vg (pa1 (pv 0)))) rfl rfl (hyc:=yt) (hrel:=yt)))))),?_;refine yj (σ':=[some _]) rfl ?_;ext
   refine ydj (λz=>nomatch z) ?_
   ext;refine ó (.lst I) (ym6 _ _) ?_;ext;exists l,rfl,⟨_,SqL.of I⟩,λD L=>?_;refine ul (K:=K) (xs:=refs v n) (λi G=>∃f:Μ,G D=some (.lst (refs f i))/\(∀j,j<i->H (f j)=none/\G (f j)=some (.lst ((O j).map V.int))/\f j≠D)/\yv H G)
    ⟨λF=>0,ya,λj B=>absurd B (bJ j),y7 L⟩ (λi G F ⟨_,_,_,S⟩=>SqL.of (S _ _ I)) (λi y G hy x z=>?_) (λG z=>?_)
   .obtain⟨f,p,g,S⟩:=z;let⟨rfl,R⟩:=uw hy;have d:=(Z i R).same S;ext;exists .ref (v i),_,rfl,.lst d.l,.inr ⟨(O i).map V.int,Î d.l d.s d.z,λc G2 t N J=>?_⟩;have W:c≠D:=(yb p t).symm;refine we (n:=(refs v n).length) (J _ _ p) (ve (by rw[vv];omega)) x ?_;exists upN f i c,?_,λj B=>?_,λb o e=>yf (yb e L) (J _ _ (S b o e))
    .rw[ya,x6,wo]
     congr 3
     exact xy λj B=>(wj B).symm
    .by_cases z:j=i
     .rw[z,wo];exists S.free t,yf W N,W
     .have u:j<i:=by omega
      rw[wj u];let⟨g1,g2,g3⟩:=g j u;exists g1,yf g3 (J _ _ g2),g3
   .obtain⟨f,p,g,S⟩:=z;rw[vv]at p g;exact k D f G L p (λi x=>⟨(g i x).1,(g i x).2.1⟩) S
def ė{H:Hp}{lx:V}{N w:Nat}{lt:Μ}{tt:Λ}{Q:VK}{E:XK}(h:yv9 H lx N w lt tt)(hw:w<=1000)(hN:N<=1000)
  (k:∀r(cx:Μ)H',H r=none->H' r=some (.lst (refs cx N))->(∀i,i<N->H (cx i)=none/\H' (cx i)=some (.lst ((tt i).map V.int)))->yv H H'->Q (.ref r) H'):ybo K [lx] H Q E:=by
 obtain⟨⟨rfl,rfl⟩|⟨d,rfl,f⟩,b⟩:=h
 .exact .inl ⟨rfl,λr H' c e S=>k r (λZ=>0) H' c e (λi a=>absurd a (bJ i)) S⟩
 .exact .inr ⟨d,N,lt,tt,rfl,f,hN,λi a=>⟨(b i a).l,(b i a).s,bQ (b i a).z hw⟩,k⟩
structure vf5(H H':Hp)(r:x0)(m:Nat)(tu cl:Μ)(mx:Nat->Int)(cs:Λ)(bt:Nat->Int):Prop where
 r0:H r=none
 r:H' r=some (.lst (refs tu m))
 t:∀j,j<m->H' (tu j)=some (.tup [.int (mx j),.ref (cl j),.int (bt j)])
 c:∀j,j<m->H (cl j)=none/\H' (cl j)=some (.lst ((cs j).map V.int))
#synth ykf ["foreteller","texts","text","bit"] ["foreteller","texts"] yvf
inductive ynp(K:xr)(a:Ads)(vs:Υ)(H:Hp)(Q:VK)(E':XK):Prop
 |mk(p:x0)(A:FA)(X:FX)(f:Α)(O:Β)(m:Nat)(tl:x0)(n w:Nat)(tx:Μ)(tt:Λ)(_:vs=[.ref p,.ref tl])(_:u7 K a H p A X f O m)(_:X.sg=[])(_:X.nd=0)(_:H tl=some (.lst (refs tx n)))(_:tl≠A.el)(_:(∀i,i<n->jj H (tx i) (tt i) w/\tx i≠A.el))(_:w<=1000)(_:m+6*(n*(9*w+1))+20<1000000)(_:∀(ml el pl:x0)(sl:Μ)(f':Α)(O':Β)(m':Nat)(H':Hp),u7 K a H' p (A.re ml el pl sl) (X.run A (ut tt n)) f' O' m'->m'<=m+6*(n*(9*w+1))->FGo p A O H H' el O'->(X.run A (ut tt n)).sg=[]->(X.run A (ut tt n)).nd=0->Q .non H')
def yke:vz P w K mg Γ CX0 7 a.Jx a.Mr ["foreteller","texts"] (ynp K a):=by
 exists T.Ew.F.ok,ykf,hr;let⟨p,c,X,f,O,m,tl,n,w,tx,d,rfl,hF,af,aj,a1,a9,a6,hw,hm,k⟩:=h;exists 2,2,yc (xz PassesOwn.never rfl (vx (pv 1)) (vn (i:=2) ykf.nd rfl (Or.inl rfl)) (yc (xz PassesOwn.never rfl (vx (uh (yj1 T) hr.m T.Et (pa1 (pv 2)))) (vn (i:=3) ykf.nd rfl (Or.inl rfl)) (yc (yw (xg (pv 0) T.Ac T.C9.m (yeu T) hr.m T.C9.B .nil v7 (pa1 (pv 3))))))));refine⟨tl,rfl,⟨_,SqL.of a1⟩,x8 (K:=K) (a:=tl) (xs:=refs tx n) (λi σ2 G=>∃(v1 I:Ψ)(Y x W:x0)(Z:Μ)(f':Α)(O':Β)(m':Nat),σ2=[some (.ref p),some (.ref tl),v1,I]/\u7 K a G p (c.re Y x W Z) (X.run c (ut d i)) f' O' m'/\m'<=m+6*(i*(9*w+1))/\FGo p c O H G x O'/\(X.run c (ut d i)).sg=[]/\(X.run c (ut d i)).nd=0)
  ⟨_,_,c.ml,c.el,c.pl,c.sl,f,O,m,rfl,hF,Nat.le_add_right _ _,FGo.refl,af,aj⟩ (by rintro i σ2 G _ ⟨_,_,_,_,_,_,_,_,_,_,_,_,go,_,_⟩;exact SqL.of ((go.kpa hF).lst a1 a9)) ?_ ?_⟩
 .rintro i y σ2 G hy ⟨v1,I,Y,x,W,Z,f1,O1,m1,rfl,q,C,r,o,g⟩;let⟨rfl,a2⟩:=uw hy;let⟨L,a8⟩:=a6 i a2;have a0:=(r.kpa hF).lst L.l a8;have J:=L.s;have hz:=L.z
  have a5:i*(9*w+1)+(9*w+1)<=n*(9*w+1):=by
   have:(i+1)*(9*w+1)<=n*(9*w+1):=Nat.mul_le_mul_right _ a2;rw[Nat.add_mul,Nat.one_mul]at this;exact this
  have aq:=xl (d i);ext;exists tx i,d i,rfl,a0,J,by omega,λbt G1 a3 v S1=>?_
  have u:=q.same S1;have ai:bt≠x:=(yb q.el a3).symm;refine⟨bt,rfl,⟨_,SqL.of v⟩,x8 (K:=K) (a:=bt) (xs:=(dec (d i)).map V.int) (λj σ2 G'=>∃(I:Ψ)(ml' el' pl':x0)(sl':Μ)(f':Α)(O':Β),σ2=[some (.ref p),some (.ref tl),some (.ref (tx i)),I]/\u7 K a G' p (c.re ml' el' pl' sl') ((X.run c (ut d i)).run c ((dec (d i)).take j)) f' O' (m1+6*j)/\FGo p (c.re Y x W Z) O1 G1 G' el' O'/\TxE (d i) j ((X.run c (ut d i)).run c ((dec (d i)).take j)).sg ((X.run c (ut d i)).run c ((dec (d i)).take j)).nd)
   ⟨_,Y,x,W,Z,f1,O1,rfl,u,FGo.refl,.inl ⟨bK _,by show yao _ _ (X.run c (ut d i)).sg (X.run c (ut d i)).nd;rw[o,g];exact yao.zero _⟩⟩ (by rintro j σ2 G' _ ⟨_,_,_,_,_,_,_,_,_,go,_⟩;exact SqL.of ((go.kpa u).lst v ai)) ?_ ?_⟩
  .rintro j y σ3 G' hy ⟨I,S,D,N,R,f2,O2,rfl,e,M,U⟩;let⟨b,rfl,ae,hb,hj⟩:=z5 hy;let⟨b0,b1⟩:=jd _ b ae;let⟨a4,ac⟩:=U.next J hb;let⟨aa,ar⟩:=a4.nd J;have au:=a4.len;have as:=e.me;ext;exists p,c.re S D N R,_,f2,O2,m1+6*j,b,rfl,e,b0,b1,by omega,aa,by omega,λad ah a7 ao f3 O3 G3 al an ak am ab F=>?_
   ext;have n6:=e.n6;exists _,ad,ah,a7,ao,f3,O3,rfl,?_,M.trans ⟨al,ak,am,ab⟩,?_
   .rw[zk hb];exact an.up (by show m1+6*j+c.n<=_;have:c.n<=6:=n6;omega)
   .rw[zk hb];exact ac
  .rintro σ3 G' ⟨I,S,D,N,R,f2,O2,rfl,e,M,U⟩;rw[bf]at e U;rw[bZ]at e U;have er:X.run c (ut d (i+1))=(X.run c (ut d i)).run c (dec (d i)):=ψ c _ _ X;rw[<- er]at e U
   have t:(X.run c (ut d (i+1))).sg=[]/\(X.run c (ut d (i+1))).nd=0:=by
    rcases U with⟨h,_⟩|⟨_,h⟩
    .omega
    .exact h
   ext;exists _,_,S,D,N,R,f2,O2,_,rfl,e,by rw[Nat.add_mul,Nat.one_mul];omega,r.trans (FGo.ahead S1 M),t.1,t.2
 .rintro σ2 G ⟨v1,I,Y,x,W,Z,f1,O1,m1,rfl,q,C,r,o,g⟩;rw[vv]at q C o g;ext;exact k Y x W Z f1 O1 m1 G q C r o g
#synth ybw ["looks","text","learned","foreteller","bits","rows","bit"] ["looks","text","learned"] ytp
inductive yqt(K:xr)(a:Ads)(vs:Υ)(H:Hp)(Q:VK)(E':XK):Prop
 |mk(L tx:x0)(lx:V)(n:Nat)(lk:Μ)(kd:Ξ)(tp:Μ)(ps:Λ)(ts:Ρ)(N w:Nat)(lt:Μ)(tt:Λ)(_:vs=[.ref L,.ref tx,lx])(_:vep H L tx lx n lk kd tp ps ts N w lt tt)(_:∀r(tu cl:Μ)H',vf5 H H' r (dec ts).length tu cl (uu n kd ps (ut tt N) ts) (fCs n kd ps (ut tt N) ts) (vi ts)->(∀k,k<(dec ts).length->Ch (uu n kd ps (ut tt N) ts k)/\WOk n (fX n kd ps (ut tt N) ts k).ws/\COk n (fCs n kd ps (ut tt N) ts k))->(∀i j,i<(dec ts).length->j<(dec ts).length->i≠j->cl i≠cl j)->yv H H'->Q (.ref r) H')
def yws:vz P w K mg Γ CX0 8 a.Jy a.Ms ["looks","text","learned"] (yqt K a):=by
 exists T.O9.F.ok,ybw,hr;let⟨L,tx,lx,n,lk,kd,tp,ps,u,N,w,lt,tt,rfl,q,k⟩:=h;have aJ:=q.b;have n1:=q.n1;have n6:=q.n6;refine yh (yo (i:=3) ybw.nd rfl (Or.inl rfl) (ub T.Pf (yb0 T) hr.m rfl T.Pe T.Cm.B .nil vg (pa1 (pv 0)))) ?_;refine yh (yo (i:=4) ybw.nd rfl (Or.inl rfl) (uh (yj1 T) hr.m T.Et (pa1 (pv 1)))) ?_;refine yh (yw (uh (yke T) hr.m T.Ew (pac (pv 3) (pa1 (uh (ykr T) hr.m T.Ev (pa1 (pv 2))))))) ?_;refine yh (yo (i:=5) ybw.nd rfl (Or.inl rfl) (xc uo)) ?_;refine yh (xz PassesOwn.never rfl (vx (pv 4)) (vn (i:=6) ybw.nd rfl (Or.inl rfl)) (yd (yw (è PySem.F.plainAttrs_list PySem.F.slot_list_append PySem.F.type_list_append xh (pv 5) (pa1 (į (pac (vt (pv 3) T.Ac T.Ct.m (yj9 T) hr.m T.Ct.B .nil v7) (pac (vt (pv 3) T.Ac T.Cs.m (yj0 T) hr.m T.Cs.B .nil v7) (pa1 (pv 6)))))))) (yc (yw (xg (pv 3) T.Ac T.C9.m (yeu T) hr.m T.C9.B .nil v7 (pa1 (pv 6))))))) ?_;exists 3,4,yc (yq (pv 5));intro p dp np aP aV;have S0:yv H (upd (upd H dp (.own p)) p (.ins a.A2 dp [])):=λb o e=>by rw[yk (yb e np),yk (yb e aP)];exact e
 exists p,dp,.ref L,rfl,ya,.inr ⟨L,n,lk,kd,tp,ps,rfl,S0 _ _ q.l,n1,n6,q.r.same S0,λA f O H1 N1 B1=>⟨rfl,?_⟩⟩;let⟨ar,rfl,rfl,rfl,rfl,oO,oB,oM,oL⟩:=N1;have S1:yv H H1:=λb o e=>B1 b o (S0 b o e) (yb e np);have X:∀{c:x0},upd (upd H dp (.own p)) p (.ins a.A2 dp []) c=none->H c=none:=λh=>S0.free h;have ay:H A.el=none:=X (oL A.el (.inr (.inl rfl)));ext;exists tx,u,rfl,S1 _ _ q.t.l,q.t.s,q.t.z,λbt H2 ao ab S2=>?_;have a9:=S1.trans S2;have I:=ar.same S2;have aq:bt≠A.el:=(yb ar.el ao).symm;ext;refine ė (q.lr.same a9) q.w1 q.N1 λaQ cx H3 h0 h3 hx S3=>?_;ext;exists p,A,FX0 A.n A.kd,f,O,6,aQ,N,w,cx,tt,rfl,I.same S3,rfl,rfl,h3,(yb I.el h0).symm,λi g=>⟨⟨(hx i g).2,(q.lr.2 i g).s,(q.lr.2 i g).z⟩,(yb I.el (hx i g).1).symm⟩,q.w1,by omega,λml el pl sl f1 O1 m1 H4 a1 aR a5 ah as=>?_
 have a5:=FGo.ahead S3 a5;have a1:=a1.up aR;have az:=(a5.kpa I).lst ab aq;have b3:=xl u;have aX:=q.t.z;have al:=q.t.s;generalize hX:(FX0 A.n A.kd).run A (ut tt N)=x at a1 ah as;generalize hM:6+6*(N*(9*w+1))=M at a1 aJ;ext;exists by walk_at "len",λR hR0=>?_
 exists hR0,H5,S5,hR5;have ax:H2 R=none:=a5.free hR0;ext;refine⟨bt,rfl,⟨_,SqL.of (S5 _ _ az)⟩,x8 (K:=K) (a:=bt) (xs:=(dec u).map V.int) (λj σ2 G=>∃(v:Ψ)(ml el pl:x0)(sl:Μ)(f':Α)(O':Β)(W Z:Μ),σ2=[some (.ref L),some (.ref tx),some lx,some (.ref p),some (.ref bt),some (.ref R),v]/\
   u7 K a G p (A.re ml el pl sl) (x.run A ((dec u).take j)) f' O' (M+6*j)/\FGo p A O H2 G el O'/\TxE u j (x.run A ((dec u).take j)).sg (x.run A ((dec u).take j)).nd/\(G R=some (.lst (refs W j))/\R≠el)/\
   (∀i,i<j->G (W i)=some (.tup [.int (ylc (x.run A ((dec u).take i)).ws ((x.run A ((dec u).take i)).cs A)),.ref (Z i),.int (vi u i)])/\G (Z i)=some (.lst (((x.run A ((dec u).take i)).cs A).map V.int))/\Z i≠el/\H2 (Z i)=none/\Z i≠R)/\
   (∀i,i<j->WOk A.n (x.run A ((dec u).take i)).ws/\COk A.n ((x.run A ((dec u).take i)).cs A))/\(∀i l,i<j->l<j->i≠l->Z i≠Z l))
  ⟨_,ml,el,pl,sl,f1,O1,λF=>0,λF=>0,rfl,a1.same S5,a5.same S5,.inl ⟨bK _,by show yao _ _ x.sg x.nd;rw[ah,as];exact yao.zero _⟩,⟨hR5,(yb a1.el hR0).symm⟩,λi g=>absurd g (bJ i),λi g=>absurd g (bJ i),λi F g=>absurd g (bJ i)⟩
  (by rintro j σ2 G _ ⟨_,_,_,_,_,_,_,_,_,_,_,go,_⟩;exact SqL.of ((go.kpa I).lst ab aq)) ?_ ?_⟩
 .rintro j y σ2 G hy ⟨v,a3,D,a2,a4,f2,O2,W,Z,rfl,hF,go,hT,⟨hR,nR⟩,d,Y,a0⟩;let⟨b,rfl,aH,hb,hj⟩:=z5 hy;let⟨b0,b1⟩:=jd _ b aH;let⟨au,aE⟩:=hT.next al hb;let⟨aC,b4⟩:=au.nd al;have b2:=au.len;have aD:vi u j=b:=by unfold vi;rw[hb];rfl
  have aB:=hF.me;ext;refine Â hR ?_;ext;exists p,A.re a3 D a2 a4,_,f2,O2,_,rfl,hF,λG1 T1=>?_;have aU:=T1 _ _ aB;ext;exists p,A.re a3 D a2 a4,_,f2,O2,_,rfl,hF.same T1,λc G2 a8 aG T2=>?_;ext;exists by walk_at "len",λt ht0=>?_
  exists ht0,G3,T3,ht3;have C:=T1.trans (T2.trans T3);ext;refine x9 (C _ _ hR) (ve (by rw[vv];omega)) ?_;have av:=hF.same C;have aa:=C _ _ hR;have S:u7 K a (upd G3 R (.lst (refs W j++[V.ref t]))) p (A.re a3 D a2 a4) (x.run A ((dec u).take j)) f2 O2 (M+6*j):=av.app aa (av.notR aa (λi g=>⟨_,C _ _ (d i g).1,rfl⟩) nR);have ac:FGo p A O H2 (upd G3 R (.lst (refs W j++[V.ref t]))) D O2:=(go.same C).app ax;have am:c≠R:=(yb (T1 _ _ hR) a8).symm;have aw:c≠D:=(yb (hF.same T1).el a8).symm;have ag:upd G3 R (.lst (refs W j++[V.ref t])) c=some (.lst (((x.run A ((dec u).take j)).cs A).map V.int)):=yf am (T3 _ _ aG);have af:upd G3 R (.lst (refs W j++[V.ref t])) t=some (.tup [.int (ylc (x.run A ((dec u).take j)).ws ((x.run A ((dec u).take j)).cs A)),.ref c,.int b]):=yf (wz ht3 aa (by intro z;cases z)) ht3
  have ae:upd G3 R (.lst (refs W j++[V.ref t])) R=some (.lst (refs (upN W j t) (j+1))):=by
   rw[ya,x6,wo]
   congr 3
   exact xy λi g=>(wj g).symm
  have Ŝ:∀i,i<j->upd G3 R (.lst (refs W j++[V.ref t])) (W i)=some (.tup [.int (ylc (x.run A ((dec u).take i)).ws ((x.run A ((dec u).take i)).cs A)),.ref (Z i),.int (vi u i)])/\upd G3 R (.lst (refs W j++[V.ref t])) (Z i)=some (.lst (((x.run A ((dec u).take i)).cs A).map V.int)):=λi g=>⟨yf (wz (C _ _ (d i g).1) aa (by intro z;cases z)) (C _ _ (d i g).1),yf (d i g).2.2.2.2 (C _ _ (d i g).2.1)⟩;have a7:H2 c=none:=go.free (T1.free a8);have a6:∀i,i<j->Z i≠c:=λi g=>yb (T1 _ _ (d i g).2.1) a8;have an:=hF.wok;have ak:=hF.cok;generalize upd G3 R (.lst (refs W j++[V.ref t]))=G4 at S ac ag af ae Ŝ⊢;have aZ:=S.me;ext;have aY:=hF.n6;exists p,A.re a3 D a2 a4,_,f2,O2,M+6*j,b,rfl,S,b0,b1,by omega,aC,by omega,λaF ap aA aS f3 O3 G5 aI aT aO aM aN F=>?_
  have aj:FGo p (A.re a3 D a2 a4) O2 G4 G5 ap O3:=⟨aI,aO,aM,aN⟩;have J:=aj.kpa S;have ad:=S.el;ext;exists _,aF,ap,aA,aS,f3,O3,upN W j t,upN Z j c,rfl,?_,ac.trans aj,?_,⟨(J _ _ ae rfl nR).2,(J _ _ ae rfl nR).1⟩,λi g=>?_,λi g=>?_,λi l g hl aK=>?_
  .rw[zk hb];exact aT.up (by show M+6*j+A.n<=_;omega)
  .rw[zk hb];exact aE
  .by_cases z:i=j
   .rw[z,wo,wo,aD];exists(J _ _ af rfl (wz af ad (by intro z;cases z))).2,(J _ _ ag rfl aw).2,(J _ _ ag rfl aw).1,a7,am
   .have U:i<j:=by omega
    rw[wj U,wj U];let⟨o1,o2⟩:=Ŝ i U;let⟨_,_,r3,r4,r5⟩:=d i U;exists(J _ _ o1 rfl (wz o1 ad (by intro z;cases z))).2,(J _ _ o2 rfl r3).2,(J _ _ o2 rfl r3).1,r4,r5
  .by_cases z:i=j
   .rw[z];exists an,ak
   .exact Y i (by omega)
  .by_cases z:i=j
   .have ai:l<j:=by omega
    rw[z,wo,wj ai];exact(a6 l ai).symm
   .have U:i<j:=by omega
    rw[wj U];by_cases z2:l=j
    .rw[z2,wo];exact a6 i U
    .rw[wj (by omega)];exact a0 i l U (by omega) aK
 .rintro σ2 G ⟨v,a3,D,a2,a4,f2,O2,W,Z,rfl,hF,go,hT,⟨hR,nR⟩,d,Y,a0⟩;rw[bf]at d Y a0;rw[bf]at hR
  have eX:∀i,fX A.n A.kd A.ps (ut tt N) u i=x.run A ((dec u).take i):=λi=>by
   unfold fX;rw[<- jt,<- jt,hX]
  ext;refine k R W Z G ⟨a9.free ax,hR,λi g=>?_,λi g=>⟨a9.free (d i g).2.2.2.1,?_⟩⟩ (λi g=>⟨?_,?_,?_⟩) a0 ?_
  .rw[(d i g).1];unfold uu;rw[eX];rfl
  .rw[(d i g).2.1];unfold fCs;rw[eX];rfl
  .unfold uu;rw[eX];exact yep n1 (Y i g).1 (Y i g).2
  .rw[eX];exact(Y i g).1
  .unfold fCs;rw[eX];exact(Y i g).2
  .intro c o e;refine go.fr c o (a9 _ _ e) (λz=>?_) (λz=>?_) (λz=>?_) (λi g w'=>?_)
   .rw[z,np]at e;cases e
   .rw[z,X oM]at e;cases e
   .rw[z,ay]at e;cases e
   .rw[X (oO i c g w')]at e;cases e
#synth yxf ["looks","text","learned"] yg0
structure vgp(H H':Hp)(r:x0)(m:Nat)(tu:Μ)(mx bt:Nat->Int):Prop where
 r0:H r=none
 r:H' r=some (.lst (refs tu m))
 t:∀j,j<m->H' (tu j)=some (.tup [.int (mx j),.int (bt j)])
inductive yml(K:xr)(vs:Υ)(H:Hp)(Q:VK)(E':XK):Prop
 |mk(L tx:x0)(lx:V)(n:Nat)(lk:Μ)(kd:Ξ)(tp:Μ)(ps:Λ)(ts:Ρ)(N w:Nat)(lt:Μ)(tt:Λ)(_:vs=[.ref L,.ref tx,lx])(_:vep H L tx lx n lk kd tp ps ts N w lt tt)(_:∀r(tu:Μ)H',vgp H H' r (dec ts).length tu (uu n kd ps (ut tt N) ts) (vi ts)->(∀k,k<(dec ts).length->Ch (uu n kd ps (ut tt N) ts k)/\WOk n (fX n kd ps (ut tt N) ts k).ws/\COk n (fCs n kd ps (ut tt N) ts k))->yv H H'->Q (.ref r) H')
def yy9:vz P w K mg Γ CX0 9 a.Dh a.Mt ["looks","text","learned"] (yml K):=by
 exists T.R3.ok,yxf,hr;let⟨L,U,Y,n,lk,J,tp,I,c,N,w,lt,R,rfl,v,k⟩:=h;have hz:=v.t.z;have a4:=xl c;exists 3,0,yc (yq (Ź (js:=[]) (ys:=[]) (xs:=["chance","chances","bit"]) (g:=ywh K 3 (zi (w9 0) (zi (w9 1) (zi (w9 2) yla)))) rfl (vx (uh (yws T) hr.m T.O9 (pac (pv 0) (pac (pv 1) (pa1 (pv 2)))))) (λC s2 H2 fp=>(į (pac (pv 0) (pa1 (pv 2))))) rfl (λC s2 H2 fp=>ĭ rfl (xf (vn (i:=0) (show List.Nodup ((["chance","chances","bit"]:Τ)++([]:Τ)) by right) rfl (Or.inl rfl)) (xf (vn (i:=1) (show List.Nodup ((["chance","chances","bit"]:Τ)++([]:Τ)) by right) rfl (Or.inl rfl)) (xf (vn (i:=2) (show List.Nodup ((["chance","chances","bit"]:Τ)++([]:Τ)) by right) rfl (Or.inl rfl)) À)))) rfl (hyc:=yt) (hrel:=yt)));exists L,U,Y,n,lk,J,tp,I,c,N,w,lt,R,rfl,v,λr0 F cl H1 d l C S1=>?_;generalize uu n J I (ut R N) c=M at d l k;generalize fCs n J I (ut R N) c=cs at d l k;exists r0,rfl,⟨_,SqL.of d.r⟩,λD W=>?_;refine yfz (K:=K) (xs:=refs F (dec c).length) (λi G=>∃u:Μ,G D=some (.lst (refs u i))/\(∀j,j<i->G (u j)=some (.tup [.int (M j),.int (vi c j)]))/\yv H1 G) ⟨λC=>0,ya,λj O=>absurd O (bJ j),y7 W⟩ (λi G C ⟨_,_,_,S⟩=>SqL.of (S _ _ d.r)) (λi x G a2 hx hi z y=>?_) (λG z=>?_)
 .obtain⟨u,q,B,S⟩:=z;let⟨rfl,a0⟩:=uw hx;let⟨v1,v2,v3,rfl⟩:=ylr y;refine Į (SqT.of (S _ _ (d.t i a0))) rfl ?_;show zi (w9 0) (zi (w9 1) (zi (w9 2) yla)) [V.int (M i),V.ref (cl i),V.int (vi c i)] (v1::v2::v3::ud [] [some (V.ref L),some (V.ref U),some Y]) G _;ext;exists⟨[some (.int (M i)),some (.ref (cl i)),some (.int (vi c i))],rfl,rfl⟩,?_;ext;exists by walk_at "len",λt f=>?_
  have a1:t≠D:=(yb q f).symm;have Z:=za (o':=HO.tup [V.int (M i),V.int (vi c i)]) f q;refine we (n:=(refs F (dec c).length).length) Z (ve (by rw[vv];omega)) hi ?_;exists upN u i t,?_,λj O=>?_,λb o e=>yf (yb e W) (za f (S b o e))
  .rw[ya,x6,wo]
   congr 3
   exact xy λj O=>(wj O).symm
  .by_cases z:j=i
   .rw[z,wo];exact yf a1 ya
   .have p:j<i:=by omega
    rw[wj p];exact yf (wz (B j p) q (by intro z;cases z)) (za f (B j p))
 .obtain⟨u,q,B,S⟩:=z;rw[vv]at q B;exact k D u G ⟨S1.free W,q,B⟩ l (S1.trans S)
def snK(mx bt:Nat->Int):Nat->Sn
 |0=>s0
 |k+1=>nar (snK mx bt k) (mx k) (bt k)
theorem z7{mx:Nat->Int}:∀m,(∀j,j<m->Ch (mx j))->OkS (snK mx bt m)/\(snK mx bt m).2.2<=5+2*(m:Int)
 |0,_=>⟨veq,by show (5:Int)<=5+2*((0:Nat):Int);decide⟩
 |m+1,h=>by
  let⟨a,d⟩:=z7 m λj e=>h j (by omega);exists yda a (h m (by omega)),?_;have:=var (c:=mx m) (b:=bt m) a.ok;show (nar (snK mx bt m) (mx m) (bt m)).2.2<=_;omega
theorem Ě{mx my bu:Nat->Int}:∀m,(∀j,j<m->mx j=my j/\bt j=bu j)->snK mx bt m=snK my bu m
 |0,_=>rfl
 |m+1,h=>by
  show nar (snK mx bt m) (mx m) (bt m)=nar (snK my bu m) (my m) (bu m);rw[Ě m λj a=>h j (by omega),(h m (by omega)).1,(h m (by omega)).2]
def FGo.but{A:FA}{H H1 H2:Hp}{el:x0}{o':HO}(h:FGo p A O H H1 el O')(hq:H q=none)(B:But q H1 H2)(hq2:H2 q=some o'):FGo p A O H H2 el O' :=
 ⟨h.he,h.hO,λc o e a b d f=>B _ _ (h.fr c o e a b d f) (yb e hq),λc o e=>let ⟨o1,w⟩:=h.live c o e;⟨o1,B _ _ w (yb e hq)⟩⟩
def u7.but{H H':Hp}{C:x0}{A:FA}{X:FX}{f:Α}{m:Nat}{fs:Ι}(h:u7 K a H p A X f O m)(hq:H q=some (.ins C dq fs))(hl:fs.length=3)(nO:∀i,i<A.n->¬O i q)(B:But q H H'):u7 K a H' p A X f O m:=by
 refine h.frame (O2:=λc=>c=q) (λc o e g=>B c o e g) (λz=>zf h.me hq (by rw[hl];show ¬(6=3);decide) z) (λz=>zf h.mx.o hq (by rw[hl];show ¬(1=3);decide) z) (λi d z=>zf (h.B.b i d).me hq (by rw[hl];show ¬(2=3);decide) z) (λi c d w z=>nO i d (z ▸ w)) (λl j Z e=>B.lst hq e) (λt j e=>?_);rcases e with(e|⟨o,e⟩)|e
 .exact .inl (.inl (B _ _ e (λz=>by rw[z,hq]at e;cases e)))
 .exact .inl (.inr ⟨o,B _ _ e (λz=>by rw[z,hq]at e;cases e)⟩)
 .exact .inr e
theorem yn9(A:FA)(ml el pl:x0)(sl:Μ):∀(bs:Ρ)(X:FX),X.run (A.re ml el pl sl) bs=X.run A bs
 |[],_=>rfl
 |b::r,X=>yn9 A ml el pl sl r (X.see A b)
def yfi(A:FA)(X:FX)(ts:Ρ)(k:Nat):Int:=ylc (X.run A ((dec ts).take k)).ws ((X.run A ((dec ts).take k)).cs A)
#synth yk0 ["foreteller","text","span","bit"] ["foreteller","text"] yt1
inductive yea(K:xr)(a:Ads)(vs:Υ)(H:Hp)(Q:VK)(E':XK):Prop
 |mk(p:x0)(A:FA)(X:FX)(f:Α)(O:Β)(m:Nat)(tx:x0)(ts:Ρ)(_:vs=[.ref p,.ref tx])(_:u7 K a H p A X f O m)(_:X.sg=[])(_:X.nd=0)(_:jj H tx ts 1000)(_:tx≠A.el)(_:m+6*(dec ts).length+20<1000000)(_:∀(r ml el pl:x0)(sl:Μ)(f':Α)(O':Β)(m':Nat)(H':Hp),H r=none->H' r=some (.lst ((tL (snK (yfi A X ts) (vi ts) (dec ts).length)).map V.int))->u7 K a H' p (A.re ml el pl sl) (X.run A (dec ts)) f' O' m'->m'<=m+6*(dec ts).length->FGo p A O H H' el O'->Q (.ref r) H')
def ykp:vz P w K mg Γ CX0 7 a.K1 a.Mu ["foreteller","text"] (yea K a):=by
 exists T.Ex.F.ok,yk0,hr;let⟨p,d,X,f,O,m,tx,c,rfl,hF,ar,ax,Y,aE,hm,k⟩:=h;have aF:=xl c;have hz:=Y.z;have a0:=Y.s;refine yh (yo (i:=2) yk0.nd rfl (Or.inl rfl) (zj T.Ph (ypa T) hr.m rfl T.Pg T.Ds.B .nil v7)) ?_;refine yh (xz PassesOwn.never rfl (vx (uh (yj1 T) hr.m T.Et (pa1 (pv 1)))) (vn (i:=3) yk0.nd rfl (Or.inl rfl)) (yd (yw (vh (pv 2) T.Ag T.Du.m (yp8 T) hr.m T.Du.B .nil vg (pac (vt (pv 0) T.Ac T.Ct.m (yj9 T) hr.m T.Ct.B .nil v7) (pa1 (pv 3))))) (yc (yw (xg (pv 0) T.Ac T.C9.m (yeu T) hr.m T.C9.B .nil v7 (pa1 (pv 3))))))) ?_;exists 2,2,yc (yq (vt (pv 2) T.Ag T.Dv.m (ypw T) hr.m T.Dv.B .nil v7));intro q S nq al aD;have SQ:yv H (upd (upd H S (.own q)) q (.ins a.A4 S [])):=λb o e=>by rw[yk (yb e nq),yk (yb e al)];exact e
 exists q,S,rfl,ya,λH1 ai B1=>⟨rfl,?_⟩;have S1:yv H H1:=λb o e=>B1 b o (SQ b o e) (yb e nq);ext;exists tx,c,rfl,S1 _ _ Y.l,a0,by omega,λbt H2 a5 W S2=>?_
 have a7:=S1.trans S2;have ap:=hF.same a7;have au:bt≠d.el:=(yb (hF.same S1).el a5).symm
 have ad:∀i,i<d.n->¬O i q:=λi Z w=>by
  let⟨o,ho,_⟩:=(hF.B.b i Z).own q w;rw[nq]at ho;cases ho
 refine⟨bt,rfl,⟨_,SqL.of W⟩,x8 (K:=K) (a:=bt) (xs:=(dec c).map V.int) (λj σ2 G=>∃(v:Ψ)(ml el pl:x0)(sl:Μ)(f':Α)(O':Β),σ2=[some (.ref p),some (.ref tx),some (.ref q),v]/\u7 K a G p (d.re ml el pl sl) (X.run d ((dec c).take j)) f' O' (m+6*j)/\FGo p d O H G el O'/\TxE c j (X.run d ((dec c).take j)).sg (X.run d ((dec c).take j)).nd/\G q=some (.ins a.A4 S (jz (snK (yfi d X c) (vi c) j)))/\(∀i,i<d.n->¬O' i q)/\(G bt=some (.lst ((dec c).map V.int))/\bt≠el)/\(∀i,i<j->Ch (yfi d X c i)))
  ⟨_,d.ml,d.el,d.pl,d.sl,f,O,rfl,ap,FGo.refl.same a7,.inl ⟨bK _,by show yao _ _ X.sg X.nd;rw[ar,ax];exact yao.zero _⟩,S2 _ _ ai,ad,⟨W,au⟩,λi Z=>absurd Z (bJ i)⟩ (by rintro j σ2 G _ ⟨_,_,_,_,_,_,_,_,_,_,_,_,_,z,_⟩;exact SqL.of z.1) ?_ ?_⟩
 .rintro j y σ2 G hy ⟨v,L,x,J,M,f1,O1,rfl,g,go,hT,u,R,⟨a2,U⟩,D⟩;let⟨b,rfl,am,hb,hj⟩:=z5 hy;let⟨b0,b1⟩:=jd _ b am;let⟨aa,aj⟩:=hT.next a0 hb;let⟨ag,aG⟩:=aa.nd a0;have aI:=aa.len;have a4:vi c j=b:=by unfold vi;rw[hb];rfl
  have aB:=g.me;have ac:Ch (yfi d X c j):=yep g.n1 g.wok g.cok;have av:=yeq ac;have ao:=ydg b0 b1;let⟨a1,aq⟩:=z7 (mx:=yfi d X c) (bt:=vi c) j D;ext;exists q,S,_,rfl,u,lkN _ (by right) (by right) (by right),?_;ext;exists p,d.re L x J M,_,f1,O1,_,rfl,g,λG1 N=>?_;ext;exists q,S,_,.int (yfi d X c j),.int b,_,_,rfl,N _ _ u,a1.ok,.int _,.int _,λz=>(by rw[av]at z;cases z),λF z=>(by rw[ao]at z;cases z),λc' b' ec eb F F F G2 C B2=>?_;cases ec;cases eb;have t:=(g.same N).but (N _ _ u) rfl R B2;have an:FGo p d O H G2 x O1:=(go.same N).but nq B2 C;have I:G2 bt=some (.lst ((dec c).map V.int)):=B2.lst (N _ _ u) (N _ _ a2);have aH:=t.me;have n6:=g.n6;ext;exists p,d.re L x J M,_,f1,O1,m+6*j,b,rfl,t,b0,b1,by omega,ag,by omega,λak a6 af aA f3 O3 G3 ay az a8 ab ah F=>?_
  have a9:FGo p (d.re L x J M) O1 G2 G3 a6 O3:=⟨ay,a8,ab,ah⟩;have a3:=a9.kpa t;ext;exists _,ak,a6,af,aA,f3,O3,rfl,?_,an.trans a9,?_,?_,λi Z w=>?_,⟨(a3 _ _ I rfl U).2,(a3 _ _ I rfl U).1⟩,λi Z=>?_
  .rw[zk hb];exact az.up (by show m+6*j+d.n<=_;have:d.n<=6:=n6;omega)
  .rw[zk hb];exact aj
  .have e:snK (yfi d X c) (vi c) (j+1)=nar (snK (yfi d X c) (vi c) j) (yfi d X c j) b:=by show nar _ _ (vi c j)=_;rw[a4]
   rw[e];exact ab _ _ C (zf C t.me (show ¬(3=6) by decide)) (zf C t.mx.o (show ¬(3=1) by decide)) (λz=>by have e:=t.el;rw[<- z,C]at e;cases e) R
  .rcases a8 i q Z w with v|v
   .exact R i Z v
   .rw[C]at v;cases v
  .by_cases z:i=j
   .rw[z];exact ac
   .exact D i (by omega)
 .rintro σ2 G ⟨v,L,x,J,M,f1,O1,rfl,g,go,hT,u,R,_,D⟩;rw[bf]at g u D;rw[bZ]at g;let⟨a1,aq⟩:=z7 (mx:=yfi d X c) (bt:=vi c) (dec c).length D;ext;exists q,S,_,rfl,u,lkN _ (by right) (by right) (by right),?_;ext;exists q,S,_,rfl,u,a1,by show Int.toNat _<=100000;omega,λr G1 ae aw N=>?_
  exact k r L x J M f1 O1 _ G1 (go.free ae) aw (g.same N) (bn _) (go.same N)
#synth yjy ["looks","text","learned","foreteller","signs"] ["looks","text","learned"] ygt
inductive yf1(K:xr)(vs:Υ)(H:Hp)(Q:VK)(E':XK):Prop
 |mk(L tx:x0)(lx:V)(n:Nat)(lk:Μ)(kd:Ξ)(tp:Μ)(ps:Λ)(ts:Ρ)(N w:Nat)(lt:Μ)(tt:Λ)(_:vs=[.ref L,.ref tx,lx])(_:vep H L tx lx n lk kd tp ps ts N w lt tt)(_:ts.length<=1000)(_:∀r H',H r=none->H' r=some (.lst ((tL (snK (uu n kd ps (ut tt N) ts) (vi ts) (dec ts).length)).map V.int))->yv H H'->Q (.ref r) H')
def yoh:vz P w K mg Γ CX0 8 a.Di a.Mv ["looks","text","learned"] (yf1 K):=by
 exists T.P6.ok,yjy,D;let⟨L,tx,lx,n,lk,kd,tp,ps,y,N,w,lt,I,rfl,d,S,k⟩:=h;have ac:=d.b;have n1:=d.n1;have n6:=d.n6;have aa:=xl y;refine yh (yo (i:=3) yjy.nd rfl (Or.inl rfl) (ub T.Pf (yb0 T) D.m rfl T.Pe T.Cm.B .nil vg (pa1 (pv 0)))) ?_;refine yh (yo (i:=4) yjy.nd rfl (Or.inl rfl) (x3 (ygr T) D.m T.Fo vg (pa1 (pv 1)))) ?_;refine yh (yw (uh (yke T) D.m T.Ew (pac (pv 3) (pa1 (uh (ykr T) D.m T.Ev (pa1 (pv 2))))))) ?_;exists 3,2,yc (yq (uh (ykp T) D.m T.Ex (pac (pv 3) (pa1 (pv 4)))));intro p M np a4 a7;have Z:yv H (upd (upd H M (.own p)) p (.ins a.A2 M [])):=λb o e=>by rw[yk (yb e np),yk (yb e a4)];exact e
 exists p,M,.ref L,rfl,ya,.inr ⟨L,n,lk,kd,tp,ps,rfl,Z _ _ d.l,n1,n6,d.r.same Z,λA f O H1 N1 B1=>⟨rfl,?_⟩⟩;let⟨W,rfl,rfl,rfl,rfl,oO,oB,oM,oL⟩:=N1;have S1:yv H H1:=λb o e=>B1 b o (Z b o e) (yb e np);have g:∀{c:x0},upd (upd H M (.own p)) p (.ins a.A2 M []) c=none->H c=none:=λh=>Z.free h;have Y:H A.el=none:=g (oL A.el (.inr (.inl rfl)));ext;exists .ref tx,_,rfl,.lst (S1 _ _ d.t.l),.inr ⟨y.map V.int,Î (S1 _ _ d.t.l) d.t.s d.t.z,λsg H2 R J S2=>?_⟩;have x:=S1.trans S2;have q:=W.same S2;have a2:sg≠A.el:=(yb W.el R).symm;ext;refine ė (d.lr.same x) d.w1 d.N1 λa5 cx H3 h0 h3 hx S3=>?_;ext;exists p,A,FX0 A.n A.kd,f,O,6,a5,N,w,cx,I,rfl,q.same S3,rfl,rfl,h3,(yb q.el h0).symm,λi C=>⟨⟨(hx i C).2,(d.lr.2 i C).s,(d.lr.2 i C).z⟩,(yb q.el (hx i C).1).symm⟩,d.w1,by omega,λml el pl sl f1 O1 m1 H4 F ah u G X=>?_
 have u:=FGo.ahead S3 u;have a6:=u.kpa q;have v:=a6 _ _ J rfl a2
 have eX:∀i,yfi (A.re ml el pl sl) ((FX0 A.n A.kd).run A (ut I N)) y i=uu A.n A.kd A.ps (ut I N) y i:=λi=>by
  unfold uu yfi fX;rw[yn9,<- jt A,<- jt A];rfl
 generalize hX:(FX0 A.n A.kd).run A (ut I N)=XX at F G X eX;ext;exists p,A.re ml el pl sl,XX,f1,O1,m1,sg,y,rfl,F,G,X,⟨v.2,d.t.s,S⟩,v.1,by omega,λr ag a8 ad ae f2 O2 m2 H5 a0 U ab af a1=>?_
 have go:=u.trans a1;rw[Ě _ λj B=>⟨eX j,rfl⟩]at U;refine k r H5 (x.free (u.free a0)) U λc o e=>go.fr c o (x _ _ e) (λz=>?_) (λz=>?_) (λz=>?_) (λi C w'=>?_)
 .rw[z,np]at e;cases e
 .rw[z,g oM]at e;cases e
 .rw[z,Y]at e;cases e
 .rw[g (oO i c C w')]at e;cases e
structure RGo(p q s:x0)(A:FA)(O:Β)(H H':Hp)(ml el:x0)(O':Β):Prop where
 hm:ml=A.ml\/H ml=none
 he:el=A.el\/H el=none
 hO:∀j c,j<A.n->O' j c->O j c\/H c=none
 fr:∀c o,H c=some o->c≠p->c≠A.mp->c≠A.el->c≠q->c≠s->(∀j,j<A.n->¬O j c)->H' c=some o
 live:∀c o,H c=some o->∃o',H' c=some o'
def RGo.free{s:x0}{A:FA}{H H':Hp}{ml el c:x0}(h:RGo p q s A O H H' ml el O')(hc:H' c=none):H c=none:=by
 cases e:H c with
 |none=>rfl
 |some o =>
  let⟨a,w⟩:=h.live c o e;rw[hc]at w;cases w
def RGo.refl{s:x0}{A:FA}{H:Hp}:RGo p q s A O H H A.ml A.el O:=⟨.inl rfl,.inl rfl,λZ Z Z w=>.inl w,λZ Z e Z Z Z Z Z Z=>e,λZ o e=>⟨o,e⟩⟩
theorem RGo.trans{s:x0}{A:FA}{O1:Β}{H H1 H2:Hp}{ml el pl ml2 el2:x0}{sl:Μ}(h:RGo p q s A O H H1 ml el O1)(k:RGo p q s (A.re ml el pl sl) O1 H1 H2 ml2 el2 O2):RGo p q s A O H H2 ml2 el2 O2:=by
 exists ?_,?_,λj c a w=>?_,λc o e d b f i g l=>?_,λc o e=>?_
 .rcases k.hm with z|z
  .rcases h.hm with y|y
   .exact .inl (z.trans y)
   .exact .inr (by rw[show ml2=ml from z];exact y)
  .exact .inr (h.free z)
 .rcases k.he with z|z
  .rcases h.he with y|y
   .exact .inl (z.trans y)
   .exact .inr (by rw[show el2=el from z];exact y)
  .exact .inr (h.free z)
 .rcases k.hO j c a w with v|v
  .exact h.hO j c a v
  .exact .inr (h.free v)
 .refine k.fr c o (h.fr c o e d b f i g l) d b (λz=>?_) i g (λj a w=>?_)
  .rcases h.he with y|y
   .exact f (z.trans y)
   .rw[show c=el from z,y]at e;cases e
  .rcases h.hO j c a w with v|v
   .exact l j a v
   .rw[e]at v;cases v
 .obtain⟨n,m⟩:=h.live c o e;exact k.live c n m
def RGo.same{s:x0}{A:FA}{H H1 H2:Hp}{ml el:x0}(h:RGo p q s A O H H1 ml el O')(S:yv H1 H2):RGo p q s A O H H2 ml el O' :=
 ⟨h.hm,h.he,h.hO,λc o e b a d g f i=>S _ _ (h.fr c o e b a d g f i),λc o e=>let ⟨o',w⟩:=h.live c o e;⟨o',S _ _ w⟩⟩
structure Ä(K:xr)(a:Ads)(H:Hp)(p:x0)(A:FA)(X:FX)(f:Α)(O:Β)(m:Nat)(q dx pd s ds:x0)(d:Ρ)(x:Sn):Prop where
 ft:u7 K a H p A X f O m
 sk:yg2 a H q dx pd s ds d x
 ok:OkS x
 nO:∀i,i<A.n->¬O i q/\¬O i s
 nd:pd≠A.el
theorem Ä.same{H H':Hp}{A:FA}{X:FX}{f:Α}{m:Nat}{dx pd s:x0}{d:Ρ}{x:Sn}(h:Ä K a H p A X f O m q dx pd s ds d x)(S:yv H H'):Ä K a H' p A X f O m q dx pd s ds d x:=⟨h.ft.same S,h.sk.same S,h.ok,h.nO,h.nd⟩
def chX(A:FA)(X:FX):Int:=ylc X.ws (X.cs A)
def u7.but2{H H':Hp}{A:FA}{X:FX}{f:Α}{m:Nat}{dx pd s:x0}{d:Ρ}{x:Sn}(h:Ä K a H p A X f O m q dx pd s ds d x)(B:ylh q s H H'):u7 K a H' p A X f O m:=by
 have j:=h.sk.me;have k:=h.sk.sp;refine h.ft.frame (O2:=λc=>c=q\/c=s) (λc o e n=>B c o e (λz=>n (.inl z)) (λz=>n (.inr z))) (λz=>?_) (λz=>?_) (λi g z=>?_) (λi c g w z=>?_) (λl r Z e=>h.sk.lst B e) (λt r e=>?_)
 .rcases z with z|z
  .exact zf h.ft.me j (show ¬(6=4) by decide) z
  .exact zf h.ft.me k (show ¬(6=3) by decide) z
 .rcases z with z|z
  .exact zf h.ft.mx.o j (show ¬(1=4) by decide) z
  .exact zf h.ft.mx.o k (show ¬(1=3) by decide) z
 .rcases z with z|z
  .exact zf (h.ft.B.b i g).me j (show ¬(2=4) by decide) z
  .exact zf (h.ft.B.b i g).me k (show ¬(2=3) by decide) z
 .rcases z with z|z
  .exact(h.nO i g).1 (z ▸ w)
  .exact(h.nO i g).2 (z ▸ w)
 .rcases e with(e|⟨o,e⟩)|e
  .exact .inl (.inl (h.sk.tup B e))
  .exact .inl (.inr ⟨o,B _ _ e (wz e j (by intro z;cases z)) (wz e k (by intro z;cases z))⟩)
  .exact .inr e
#synth yp5 ["foreteller","seeker","bit"] ["foreteller","seeker"] yuj
inductive yej(K:xr)(a:Ads)(vs:Υ)(H:Hp)(Q:VK)(E':XK):Prop
 |mk(p:x0)(A:FA)(X:FX)(f:Α)(O:Β)(m:Nat)(q dx pd s ds:x0)(d:Ρ)(x:Sn)(_:vs=[.ref p,.ref q])(_:Ä K a H p A X f O m q dx pd s ds d x)(_:m+20<1000000)(_:0<=X.nd)(_:X.sg.length<=100000)(_:∀(ml el pl:x0)(sl:Μ)(f':Α)(O':Β)(H':Hp),Ä K a H' p (A.re ml el pl sl) (X.see A (ô d x (chX A X))) f' O' (m+A.n) q dx pd s ds d (nar x (chX A X) (ô d x (chX A X)))->RGo p q s A O H H' ml el O'->Q (.int (ô d x (chX A X))) H')
def yqb:vz P w K mg Γ CX0 7 a.K4 a.Mw ["foreteller","seeker"] (yej K a):=by
 exists T.Hw.F.ok,yp5,Y;let⟨p,t,X,f,O,m,q,dx,pd,u,ds,d,x,rfl,n,hm,a6,a1,k⟩:=h;have hp:=n.ft.me;have hq:=n.sk.me;have N:Ch (chX t X):=yep n.ft.n1 n.ft.wok n.ft.cok;have a7:=yeq N;exists 2,1,yd (yo (i:=2) yp5.nd rfl (Or.inl rfl) (vh (pv 1) T.Bq T.Hu.m (yz0 T) Y.m T.Hu.B .nil vg (pa1 (vt (pv 0) T.Ac T.Ct.m (yj9 T) Y.m T.Ct.B .nil v7)))) (yd (yw (xg (pv 0) T.Ac T.C9.m (yeu T) Y.m T.C9.B .nil v7 (pa1 (pv 2)))) (yc (yq (pv 2))));exists p,t,X,f,O,m,rfl,n.ft,λH1 G=>?_;have I:=n.same G;ext;exists q,dx,pd,u,ds,d,x,.int (chX t X),_,rfl,I.sk,n.ok,.int _,λz=>(by rw[a7]at z;cases z),λc' ec F H2 g D=>?_;cases ec;have l:=u7.but2 I D;have a9:=l.me
 obtain⟨b0,b1⟩:0<=ô d x (chX t X)/\ô d x (chX t X)<=1:=by
  rcases Ÿ d x (chX t X)with e|e<;>(rw[e];decide)
 generalize hb:ô d x (chX t X)=b at b0 b1 g k;ext;exists p,t,X,f,O,m,b,rfl,l,b0,b1,hm,a6,a1,λL S pl sl f' O' H3 he a3 hO U lv r=>?_;have a0:q≠p:=zf g.me l.me (show ¬(4=6) by decide);have Z:q≠t.mp:=zf g.me l.mx.o (show ¬(4=1) by decide);have a5:u≠p:=zf g.sp l.me (show ¬(3=6) by decide);have W:u≠t.mp:=zf g.sp l.mx.o (show ¬(3=1) by decide)
 have R:∀{c C dc:x0}{fs:Ι},H2 c=some (.ins C dc fs)->c≠t.el:=λe z=>by
  have e2:=l.el;rw[<- z,e]at e2;cases e2
 have J:=U _ _ g.me a0 Z (R g.me) λi y=>(n.nO i y).1;have M:=U _ _ g.sp a5 W (R g.sp) λi y=>(n.nO i y).2;have a2:H3 pd=some (.lst (d.map V.int)):=U _ _ g.dt (λz=>by have e:=g.dt;rw[z,l.me]at e;cases e) (λz=>by have e:=g.dt;rw[z,l.mx.o]at e;cases e) n.nd (l.B.nlst g.dt);ext;refine k L S pl sl f' O' H3 ⟨a3,⟨J,a2,M,g.ne⟩,yda n.ok N,λi y=>⟨λw=>?_,λw=>?_⟩,?_⟩ ⟨.inr ?_,?_,λj c hj w=>?_,λc o e c1 c2 c3 c4 c5 no=>?_,λc o e=>?_⟩
 .rcases hO i q y w with v|v
  .exact(n.nO i y).1 v
  .rw[g.me]at v;cases v
 .rcases hO i u y w with v|v
  .exact(n.nO i y).2 v
  .rw[g.sp]at v;cases v
 .rcases he with z|z
  .rw[show (t.re L S pl sl).el=t.el from z];exact n.nd
  .exact yb g.dt z
 .cases e:H L with
  |none=>rfl
  |some o =>
   by_cases z1:L=q
   .rw[z1,g.me]at r;cases r
   by_cases z2:L=u
   .rw[z2,g.sp]at r;cases r
   rw[D _ _ (G _ _ e) z1 z2]at r;cases r
 .rcases he with z|z
  .exact .inl z
  .refine .inr ?_
   cases e:H S with
   |none=>rfl
   |some o =>
    by_cases z1:S=q
    .rw[z1,g.me]at z;cases z
    by_cases z2:S=u
    .rw[z2,g.sp]at z;cases z
    rw[D _ _ (G _ _ e) z1 z2]at z;cases z
 .rcases hO j c hj w with v|v
  .exact .inl v
  .refine .inr ?_
   cases e:H c with
   |none=>rfl
   |some o =>
    by_cases z1:c=q
    .rw[z1,g.me]at v;cases v
    by_cases z2:c=u
    .rw[z2,g.sp]at v;cases v
    rw[D _ _ (G _ _ e) z1 z2]at v;cases v
 .exact U c o (D _ _ (G _ _ e) c4 c5) c1 c2 c3 no
 .by_cases z1:c=q
  .exists _,z1 ▸ J
  by_cases z2:c=u
  .exists _,z2 ▸ M
  exact lv c o (D _ _ (G _ _ e) z1 z2)
def rnx(A:FA)(d:Ρ)(S:FX×Sn):FX×Sn:=(S.1.see A (ô d S.2 (chX A S.1)),nar S.2 (chX A S.1) (ô d S.2 (chX A S.1)))
def rst(A:FA)(d:Ρ)(S:FX×Sn):Nat->FX×Sn
 |0=>S
 |n+1=>rnx A d (rst A d S n)
def Ù(A:FA)(d:Ρ)(S:FX×Sn)(n:Nat):Int:=ô d (rst A d S n).2 (chX A (rst A d S n).1)
def ypf(A:FA)(d:Ρ)(S:FX×Sn)(n:Nat):Ù A d S n=0\/Ù A d S n=1:=Ÿ _ _ _
theorem yc8(A:FA)(d:Ρ)(S:FX×Sn)(k:Nat):∀n,rst A d (rst A d S k) n=rst A d S (k+n)
 |0=>rfl
 |n+1=>congrArg (rnx A d) (yc8 A d S k n)
theorem yj7(A:FA)(d:Ρ)(S:FX×Sn)(ml el pl:x0)(sl:Μ):∀n,rst (A.re ml el pl sl) d S n=rst A d S n
 |0=>rfl
 |n+1=>by
  show rnx (A.re ml el pl sl) d (rst (A.re ml el pl sl) d S n)=_;rw[yj7 A d S ml el pl sl n];rfl
def vay(A:FA)(X:FX)(b:Int)(h:0<=X.nd)(hb:0<=b):0<=(X.see A b).nd:=by
 show 0<=ndN X.nd b;unfold ndN
 split
 .split<;>omega
 .split<;>omega
def yx2(A:FA)(X:FX)(b:Int):(X.see A b).sg.length<=X.sg.length+1:=by
 show (sgN X.sg X.nd b).length<=_;unfold sgN
 split
 .split
  .rw[bq];exact bn _
  .omega
 .split
  .omega
  .exact bK _
theorem ye3(A:FA)(d:Ρ)(S:FX×Sn)(h:0<=S.1.nd):∀n,0<=(rst A d S n).1.nd
 |0=>h
 |n+1=>vay A _ _ (ye3 A d S h n) (by rcases ypf A d S n with e|e<;>(unfold Ù at e;rw[e];decide))
theorem yer(A:FA)(d:Ρ)(S:FX×Sn):∀n,(rst A d S n).1.sg.length<=S.1.sg.length+n
 |0=>bn _
 |n+1=>bQ (yx2 A _ _) (Nat.succ_le_succ (yer A d S n))
theorem Ä.app{H:Hp}{R:x0}{A:FA}{X:FX}{f:Α}{m:Nat}{dx pd s:x0}{d:Ρ}{x:Sn}{xs ys:Υ}(h:Ä K a H p A X f O m q dx pd s ds d x)(hR:H R=some (.lst xs))(hq:∀q,(q=A.bl\/q=A.el\/q=A.ml\/q=A.pl)->q≠R)(np:pd≠R):Ä K a (upd H R (.lst ys)) p A X f O m q dx pd s ds d x:=by
 exists h.ft.app hR hq,⟨yf (λz=>?_) h.sk.me,yf np h.sk.dt,yf (λz=>?_) h.sk.sp,h.sk.ne⟩,h.ok,h.nO,h.nd
 .have e:=h.sk.me;rw[z,hR]at e;cases e
 .have e:=h.sk.sp;rw[z,hR]at e;cases e
def Ä.notN{H:Hp}{R:x0}{A:FA}{X:FX}{f:Α}{m:Nat}{dx pd s:x0}{d:Ρ}{x:Sn}(h:Ä K a H p A X f O m q dx pd s ds d x)(hR:H R=some (.lst (xs.map V.int)))(nm:R≠A.ml)(ne:R≠A.el):∀q,(q=A.bl\/q=A.el\/q=A.ml\/q=A.pl)->q≠R:=λq i z=>by
 have j:=h.ft.n1
 have b:∀(g:Μ),xs.map V.int=refs g A.n->False:=λg e=>by
  have c:(refs g A.n)[0]?=some (V.ref (g 0)):=yfb j;rw[<- e,bo]at c
  cases w:xs[0]? with
  |none=>rw[w]at c;cases c
  |some y=>rw[w]at c;cases c
 rcases i with y|y|y|y
 .have e:=h.ft.bl;rw[<- y,z,hR]at e;exact b _ (HO.lst.inj (bE e))
 .exact ne (z.symm.trans y)
 .exact nm (z.symm.trans y)
 .have e:=h.ft.pl;rw[<- y,z,hR]at e;exact b _ (HO.lst.inj (bE e))
def RGo.app{s R:x0}{A:FA}{H H1:Hp}{ml el:x0}{o':HO}(h:RGo p q s A O H H1 ml el O')(hR:H R=none):RGo p q s A O H (upd H1 R o') ml el O' :=
 ⟨h.hm,h.he,h.hO,λc o e b a d g f i=>yf (yb e hR) (h.fr c o e b a d g f i),λc o e=>let ⟨o1,w⟩:=h.live c o e;⟨o1,yf (yb e hR) w⟩⟩
def wB(i:Nat):Int:=([128,64,32,16,8,4,2,1]:Ρ)[i]?.getD 0
def vek(i:Nat):0<=wB i/\wB i<=128:=by
 rcases i with _|_|_|_|_|_|_|_|i
 .exists by decide,by decide
 .exists by decide,by decide
 .exists by decide,by decide
 .exists by decide,by decide
 .exists by decide,by decide
 .exists by decide,by decide
 .exists by decide,by decide
 .exists by decide,by decide
 .exists by show (0:Int)<=0;decide,by show (0:Int)<=128;decide
def sgB(A:FA)(d:Ρ)(S:FX×Sn)(i:Nat):Ρ:=(List.range i).map λj=>wB j*Ù A d S j
def yl8(A:FA)(d:Ρ)(S:FX×Sn)(i:Nat):sgB A d S (i+1)=sgB A d S i++[wB i*Ù A d S i]:=by unfold sgB;rw[List.range_succ,bH];rfl
#synth yym ["foreteller","seeker"] yu5
inductive ybp(K:xr)(a:Ads)(vs:Υ)(H:Hp)(Q:VK)(E':XK):Prop
 |mk(p:x0)(A:FA)(S:FX×Sn)(f:Α)(O:Β)(m:Nat)(q dx pd s ds:x0)(d:Ρ)(_:vs=[.ref p,.ref q])(_:Ä K a H p A S.1 f O m q dx pd s ds d S.2)(_:m+80<1000000)(_:0<=S.1.nd)(_:S.1.sg.length<=90000)(_:∀(ml el pl:x0)(sl:Μ)(f':Α)(O':Β)(H':Hp),Ä K a H' p (A.re ml el pl sl) (rst A d S 8).1 f' O' (m+8*A.n) q dx pd s ds d (rst A d S 8).2->RGo p q s A O H H' ml el O'->Q (.int (sgB A d S 8).sum) H')
def yzr:vz P w K mg Γ CX0 8 a.K5 a.Mx ["foreteller","seeker"] (ybp K a):=by
 exists T.Oa.F.ok,yym,hr;let⟨p,b,S,f,O,m,q,dx,pd,Z,ds,d,rfl,X,hm,a4,a7,k⟩:=h;have n6:=X.ft.n6;exists 2,0,yc (yq (pcB (Ì rfl) T.Ec (pa1 (wb (js:=[1,0]) (ys:=["seeker","foreteller"]) rfl (ye4 (ydb rfl T.I8)) (λC s2 H2 fp=>(ym wq (pv 0) (uh (yqb T) hr.m T.Hw (pac (pv 2) (pa1 (pv 1)))))) rfl rfl (hyc:=(all_cons rfl (all_cons rfl yt))) (hrel:=(all_cons rfl (all_cons rfl yt)))))));exists a.Bf,rfl,⟨_,T.D0 H⟩,λD L=>?_;refine ybm (xs:=[.int 128,.int 64,.int 32,.int 16,.int 8,.int 4,.int 2,.int 1]) (λi G=>∃(t x Y:x0)(W:Μ)(f':Α)(O':Β),Ä K a G p (b.re t x Y W) (rst b d S i).1 f' O' (m+i*b.n) q dx pd Z ds d (rst b d S i).2/\RGo p q Z b O H G t x O'/\G D=some (.lst ((sgB b d S i).map V.int))/\D≠t/\D≠x) ?_ (λi G F F=>T.D0 G) ?_ ?_
 .have S1:yv H (upd H D (.lst [])):=y7 L;exists b.ml,b.el,b.pl,b.sl,f,O,?_,RGo.refl.same S1,ya,(yb X.ft.mx.l L).symm,(yb X.ft.el L).symm;rw[Nat.zero_mul];exact X.same S1
 .rintro i y G j a5 ⟨t,x,Y,W,f1,O1,e,r,c,N,u⟩;have hi:i<8:=a5
  obtain rfl:y=V.int (wB i):=by
   rcases i with _|_|_|_|_|_|_|_|i
   .exact(bE j).symm
   .exact(bE j).symm
   .exact(bE j).symm
   .exact(bE j).symm
   .exact(bE j).symm
   .exact(bE j).symm
   .exact(bE j).symm
   .exact(bE j).symm
   .omega
  have ab:i*b.n<=8*b.n:=Nat.mul_le_mul_right _ (by omega);let⟨a9,a8⟩:=vek i;have a0:=ye3 b d S a4 i;have a6:=yer b d S i;ext;exists p,b.re t x Y W,(rst b d S i).1,f1,O1,m+i*b.n,q,dx,pd,Z,ds,d,(rst b d S i).2,rfl,e,by omega,a0,by omega,λI J a2 a3 f2 O2 G2 R g=>?_
  have v:G2 D=some (.lst ((sgB b d S i).map V.int)):=g.fr _ _ c (wz c e.ft.me (by intro z;cases z)) (wz c e.ft.mx.o (by intro z;cases z)) u (wz c e.sk.me (by intro z;cases z)) (wz c e.sk.sp (by intro z;cases z)) (e.ft.B.nlst c)
  have M:D≠I:=by
   rcases g.hm with z|z
   .rw[z];exact N
   .exact yb c z
  have U:D≠J:=by
   rcases g.he with z|z
   .rw[z];exact u
   .exact yb c z
  exists wB i,_,rfl,rfl,.inl ⟨by omega,by omega⟩,?_;exists _,v,?_,8-(i+1),by show 8-(i+1)<8-i;omega,rfl,hi,I,J,a2,a3,f2,O2,?_,?_,?_,M,U
  .unfold sgB;rw[bf,bf,bV];exact Nat.lt_trans hi (by decide)
  .rw[show m+(i+1)*b.n=m+i*b.n+b.n by rw[Nat.succ_mul,Nat.add_assoc]];exact Ä.app R v (R.notN v M U) (yb X.sk.dt L)
  .exact(r.trans g).app L
  .rw[yl8,bH];exact ya
 .rintro G ⟨t,x,Y,W,f1,O1,e,r,c,N,u⟩;ext;exists D,sgB b d S 8,rfl,SqL.of c,?_;ext;exact k t x Y W f1 O1 G e r
theorem Ä.up{H:Hp}{A:FA}{X:FX}{f:Α}{m:Nat}{dx pd s:x0}{d:Ρ}{x:Sn}(h:Ä K a H p A X f O m q dx pd s ds d x)(hm:m<=m'):Ä K a H p A X f O m' q dx pd s ds d x:=⟨h.ft.up hm,h.sk,h.ok,h.nO,h.nd⟩
def yth(A:FA)(d:Ρ)(S:FX×Sn)(ml el pl:x0)(sl:Μ)(n:Nat):Ù (A.re ml el pl sl) d S n=Ù A d S n:=by unfold Ù;rw[yj7];rfl
def yx1(A:FA)(d:Ρ)(S:FX×Sn)(ml el pl:x0)(sl:Μ)(n:Nat):sgB (A.re ml el pl sl) d S n=sgB A d S n:=by unfold sgB;exact List.map_congr_left λj Z=>by rw[yth]
def rsg(A:FA)(d:Ρ)(S:FX×Sn)(k:Nat):Int:=(sgB A d (rst A d S (9*k+1)) 8).sum
def rtx(A:FA)(d:Ρ)(S:FX×Sn)(k:Nat):Ρ:=(List.range k).map (rsg A d S)
def ym2(A:FA)(d:Ρ)(S:FX×Sn)(k:Nat):rtx A d S (k+1)=rtx A d S k++[rsg A d S k]:=by unfold rtx;rw[List.range_succ,bH];rfl
def yjk(A:FA)(d:Ρ)(S:FX×Sn)(k:Nat):(rtx A d S k).length=k:=by unfold rtx;rw[bf,bV]
section
variable{G:Hp}{A:FA}{S:FX×Sn}{f:Α}{m n:Nat}{dx pd s ml el pl:x0}{sl:Μ}{d:Ρ}{Q:VK}{E:XK}
def va9(hR:Ä K a G p (A.re ml el pl sl) (rst A d S n).1 f O m q dx pd s ds d (rst A d S n).2)(hm:m+20<1000000)(nd0:0<=S.1.nd)(hsg:S.1.sg.length+n<=100000)
  (k:∀(ml2 el2 pl2:x0)(sl2:Μ)(f':Α)(O':Β)(H':Hp),Ä K a H' p (A.re ml2 el2 pl2 sl2) (rst A d S (n+1)).1 f' O' (m+6) q dx pd s ds d (rst A d S (n+1)).2->RGo p q s (A.re ml el pl sl) O G H' ml2 el2 O'->Q (.int (Ù A d S n)) H'):yej K a [.ref p,.ref q] G Q E :=
 ⟨p,A.re ml el pl sl,(rst A d S n).1,f,O,m,q,dx,pd,s,ds,d,(rst A d S n).2,rfl,hR,hm,ye3 A d S nd0 n,bQ (yer A d S n) hsg,λml2 el2 pl2 sl2 f' O' H' b c=>k ml2 el2 pl2 sl2 f' O' H' (Ä.up b (Nat.add_le_add_left hR.ft.n6 m)) c⟩
def ysj(hR:Ä K a G p (A.re ml el pl sl) (rst A d S n).1 f O m q dx pd s ds d (rst A d S n).2)(hm:m+80<1000000)(nd0:0<=S.1.nd)(hsg:S.1.sg.length+n<=90000)
  (k:∀(ml2 el2 pl2:x0)(sl2:Μ)(f':Α)(O':Β)(H':Hp),Ä K a H' p (A.re ml2 el2 pl2 sl2) (rst A d S (n+8)).1 f' O' (m+48) q dx pd s ds d (rst A d S (n+8)).2->RGo p q s (A.re ml el pl sl) O G H' ml2 el2 O'->Q (.int (sgB A d (rst A d S n) 8).sum) H'):ybp K a [.ref p,.ref q] G Q E:=by exists p,A.re ml el pl sl,rst A d S n,f,O,m,q,dx,pd,s,ds,d,rfl,hR,hm,ye3 A d S nd0 n,bQ (yer A d S n) hsg,λml2 el2 pl2 sl2 f' O' H' b c=>?_;have e:A.n<=6:=hR.ft.n6;have b:=Ä.up b (show m+8*A.n<=m+48 by omega);rw[yj7,yc8]at b;rw[yx1];exact k ml2 el2 pl2 sl2 f' O' H' b c
end
#synth ypd ["foreteller","seeker","most","text"] ["foreteller","seeker","most"] yug
inductive yhi(K:xr)(a:Ads)(vs:Υ)(H:Hp)(Q:VK)(E:XK):Prop
 |mk(p:x0)(A:FA)(S:FX×Sn)(f:Α)(O:Β)(m:Nat)(q dx pd s ds:x0)(d:Ρ)(mo:Nat)(_:vs=[.ref p,.ref q,.int mo])(_:Ä K a H p A S.1 f O m q dx pd s ds d S.2)(_:mo<=1000)(_:m+54*mo+200<1000000)(_:0<=S.1.nd)(_:S.1.sg.length<=10000)(_:(∀(N:Nat)(r ml el pl:x0)(sl:Μ)(f':Α)(O':Β)(H':Hp),N<=mo->(∀j,j<N->Ù A d S (9*j)=1)->Ù A d S (9*N)=0->H r=none->H' r=some (.lst ((rtx A d S N).map V.int))->r≠el->Ä K a H' p (A.re ml el pl sl) (rst A d S (9*N+1)).1 f' O' (m+54*N+6) q dx pd s ds d (rst A d S (9*N+1)).2->RGo p q s A O H H' ml el O'->Q (.ref r) H'))(_:((∀j,j<=mo->Ù A d S (9*j)=1)->∀(ml el:x0)(O':Β)(H':Hp),RGo p q s A O H H' ml el O'->E (.ref a.Dm) none H'))
def yys:vz P w K mg Γ (CXe P w) 9 a.K6 a.My ["foreteller","seeker","most"] (yhi K a):=by
 exists T.Ob.F.okE,ypd,hr;let⟨p,g,S,f,O,m,q,dx,pd,R,ds,d,Z,rfl,hR,am,hm,a4,ak,kQ,kE⟩:=h;exists 3,1,yd (yo (i:=3) ypd.nd rfl (Or.inl rfl) (xc uo)) (yd (je PassesOwn.leaving (yr xq (uh (yqb T) hr.m T.Hw (pac (pv 0) (pa1 (pv 1)))) yg (yx _)) (yd (wa (yr xq (pcB yp T.Aa (pa1 (pv 3))) (pv 2) (yx _)) (yc (xb rfl T.Rf T.Pk (pa1 wy))) y6) (yc (yw (è PySem.F.plainAttrs_list PySem.F.slot_list_append PySem.F.type_list_append xh (pv 3) (pa1 (uh (yzr T) hr.m T.Oa (pac (pv 0) (pa1 (pv 1)))))))))) (yc (yq (pv 3))));exists by walk_at "len",λr hr0=>?_
 exists hr0,H1,S1,hr1;have ai:pd≠r:=yb hR.sk.dt hr0;ext
 refine⟨λw σ' G=>∃(N:Nat)(D I pl:x0)(sl:Μ)(f':Α)(O':Β),σ'=[some (.ref p),some (.ref q),some (.int Z),some (.ref r)]/\N<=Z/\(∀j,j<N->Ù g d S (9*j)=1)/\Ä K a G p (g.re D I pl sl) (rst g d S (9*N)).1 f' O' (m+54*N) q dx pd R ds d (rst g d S (9*N)).2/\RGo p q R g O H G D I O'/\G r=some (.lst ((rtx g d S N).map V.int))/\r≠D/\r≠I/\w=Z-N,
  ⟨_,0,g.ml,g.el,g.pl,g.sl,f,O,rfl,bK _,λj hj=>absurd hj (bJ j),hR.same S1,RGo.refl.same S1,hr1,(yb hR.ft.mx.l hr0).symm,(yb hR.ft.el hr0).symm,rfl⟩,?_⟩
 rintro w σ2 G ⟨N,D,I,pl,sl,f1,O1,rfl,hN,U,c,a9,a7,L,C,rfl⟩;ext;refine va9 c (by omega) a4 (by omega) λn t af ag f2 O2 G2 M k=>?_
 have v:∀{G G2:Hp}{D I pl n t:x0}{sl:Μ}{X:FX}{f1:Α}{O1 O2:Β}{m x}{xs:Υ},Ä K a G p (g.re D I pl sl) X f1 O1 m q dx pd R ds d x->RGo p q R (g.re D I pl sl) O1 G G2 n t O2->G r=some (.lst xs)->r≠D->r≠I->G2 r=some (.lst xs)/\r≠n/\r≠t:=λc k e L C=>by
  exists k.fr _ _ e (wz e c.ft.me (by intro z;cases z)) (wz e c.ft.mx.o (by intro z;cases z)) C (wz e c.sk.me (by intro z;cases z)) (wz e c.sk.sp (by intro z;cases z)) (c.ft.B.nlst e),?_,?_
  .rcases k.hm with z|z
   .rw[z];exact L
   .exact yb e z
  .rcases k.he with z|z
   .rw[z];exact C
   .exact yb e z
 let⟨y,ac,a1⟩:=v c k a7 L C;have u:=a9.trans k;have a2:=ypf g d S (9*N);generalize ah:Ù g d S (9*N)=b at a2;ext;refine ur (λhb=>?_) (λhb=>?_)
 .subst hb
  have a3:∀j,j<N+1->Ù g d S (9*j)=1:=λj hj=>by
   by_cases z:j=N
   .rw[z];exact ah
   .exact U j (by omega)
  refine ybx ?_;ext;refine x5 (SqL.of y) ?_;rw[bf,yjk];ext;refine ur (λhc=>?_) (λhc=>?_)
  .have al:N=Z:=by omega
   ext;exists by walk_at "len",kE (λj hj=>a3 j (by omega)) n t O2 G2 u
  .ext;refine Â y ?_;ext;refine ysj M (by omega) a4 (by omega) λab ae aa aj f3 O3 G3 a5 W=>?_;let⟨J,a6,a0⟩:=v M W y ac a1;have Y:=u.trans W;ext;refine x9 J (ve (by rw[bf,yjk];omega)) ?_;ext;exists _,?_,N+1,ab,ae,aa,aj,f3,O3,rfl,by omega,a3,?_,Y.app hr0,?_,a6,a0,rfl
   .omega
   .exact Ä.app a5 J (a5.notN J a6 a0) ai
   .rw[ya,ym2,bH];rfl
 .have a8:Ù g d S (9*N)=0:=by omega
  ext;exact kQ N r n t af ag f2 O2 G2 hN U a8 hr0 y a1 M u
def yqx(x:Sn)(c b:Int):(nar x c b).2.2<=x.2.2+2:=by
 unfold nar ren
 (repeat' split)<;>(dsimp only;omega)
theorem yor(A:FA)(d:Ρ)(S:FX×Sn):∀n:Nat,(rst A d S n).2.2.2<=S.2.2.2+2*(n:Int)
 |0=>by show S.2.2.2<=S.2.2.2+2*((0:Nat):Int);omega
 |n+1=>by
  have a:=yor A d S n;have b:=yqx (rst A d S n).2 (chX A (rst A d S n).1) (ô d (rst A d S n).2 (chX A (rst A d S n).1));show (nar (rst A d S n).2 (chX A (rst A d S n).1) (ô d (rst A d S n).2 (chX A (rst A d S n).1))).2.2<=_;omega
structure ROk(A:FA)(d:Ρ)(S:FX×Sn)(N:Nat):Prop where
 b1:∀j,j<N->Ù A d S (9*j)=1
 b0:Ù A d S (9*N)=0
 tk:d.take (tL (rst A d S (9*N+1)).2).length=tL (rst A d S (9*N+1)).2
def ROk.uniq{A:FA}{d:Ρ}{S:FX×Sn}{N M:Nat}(h:ROk A d S N)(b1:∀j,j<M->Ù A d S (9*j)=1)(b0:Ù A d S (9*M)=0):M=N:=by
 rcases Nat.lt_trichotomy M N with z|z|z
 .have e:=h.b1 M z;rw[b0]at e;cases e
 .exact z
 .have e:=b1 N z;rw[h.b0]at e;cases e
def rTL(A:FA)(d:Ρ)(S:FX×Sn)(N:Nat):Nat:=(tL (rst A d S (9*N+1)).2).length
def RGo.fgo{s:x0}{A:FA}{H0 H H':Hp}{ml el:x0}(S:yv H0 H)(hq:H0 q=none)(hs:H0 s=none)(h:RGo p q s A O H H' ml el O'):FGo p A O H0 H' el O' :=
 ⟨h.he.imp id S.free,λj c f w=>(h.hO j c f w).imp id S.free,λc o e b a d g=>h.fr c o (S _ _ e) b a d (yb e hq) (yb e hs) g,λc o e=>h.live c o (S _ _ e)⟩
#synth yew ["foreteller","data","most","seeker","text","own"] ["foreteller","data","most"] yvt
inductive ya9(K:xr)(a:Ads)(vs:Υ)(H:Hp)(Q:VK)(E:XK):Prop
 |mk(p:x0)(A:FA)(X:FX)(f:Α)(O:Β)(m:Nat)(dt:x0)(d:Ρ)(mo:Nat)(_:vs=[.ref p,.ref dt,.int mo])(_:u7 K a H p A X f O m)(_:H dt=some (.lst (d.map V.int)))(_:dt≠A.el)(_:Byt d)(_:d.length<=12000)(_:mo<=1000)(_:m+54*mo+200<1000000)(_:0<=X.nd)(_:X.sg.length<=10000)(_:(∀(N:Nat)(t r el:x0)(O':Β)(H':Hp),N<=mo->ROk A d (X,s0) N->H t=none->H r=none->H' t=some (.tup [.ref r,.int (rTL A d (X,s0) N)])->H' r=some (.lst ((rtx A d (X,s0) N).map V.int))->FGo p A O H H' el O'->(r≠el/\∃ml pl sl f',u7 K a H' p (A.re ml el pl sl) (rst A d (X,s0) (9*N+1)).1 f' O' (m+54*N+6))->Q (.ref t) H'))(_:((∀N,N<=mo->¬ROk A d (X,s0) N)->∀(el:x0)(O':Β)(H':Hp),FGo p A O H H' el O'->E (.ref a.Dm) none H'))
def yqg:vz P w K mg Γ (CXe P w) 10 a.K7 a.Mz ["foreteller","data","most"] (ya9 K a):=by
 exists T.Hx.F.okE,yew,Z;let⟨p,l,X,f,O,m,dt,d,mo,rfl,hF,y,a2,a4,ae,a9,hm,ad,a1,kQ,kE⟩:=h;refine yh (yo (i:=3) yew.nd rfl (Or.inl rfl) (ub T.U0 (vbb T) Z.m rfl T.Tz T.Eu.B .nil yz (pa1 (pv 1)))) ?_;refine yh (yo (i:=4) yew.nd rfl (Or.inl rfl) (x3 (yys T) Z.m T.Ob yz (pac (pv 0) (pac (pv 3) (pa1 (pv 2)))))) ?_;refine yh (yo (i:=5) yew.nd rfl (Or.inl rfl) (vt (pv 3) T.Bq T.Hv.m (yww T) Z.m T.Hv.B .nil v7)) ?_;refine yh (wa (yr (Ô Z.units) (ua jr (pv 1) uv (uk (pcB yp T.Aa (pa1 (pv 5))))) (pv 5) (yx _)) (yc (xb rfl T.Rf T.Pk (pa1 wy))) y6) ?_;exists 3,3,yc (yq (į (pac (pv 4) (pa1 (pcB yp T.Aa (pa1 (pv 5)))))));intro q G I ac ai;have L:yv H (upd (upd H G (.own q)) q (.ins a.Ae G [])):=λb o e=>by rw[yk (yb e I),yk (yb e ac)];exact e
 exists q,G,.ref dt,_,rfl,ya,.lst (L _ _ y),.inr ⟨d,yeh (L _ _ y) a4 ae,λpd ps ds H1 U Y a7 B1=>⟨rfl,?_⟩⟩;have S1:yv H H1:=λb o e=>B1 b o (L b o e) (yb e I);have z:H ps=none:=L.free Y;have a6:H pd=none:=L.free U
 have nO:∀{c:x0},H c=none->∀i,i<l.n->¬O i c:=λD i hi w=>by
  let⟨o,ho,_⟩:=(hF.B.b i hi).own _ w;rw[D]at ho;cases ho
 have hR:Ä K a H1 p l X f O m q G pd ps ds d s0:=⟨hF.same S1,a7,veq,λi hi=>⟨nO I i hi,nO z i hi⟩,(yb hF.el a6).symm⟩;ext;exists p,l,(X,s0),f,O,m,q,G,pd,ps,ds,d,mo,rfl,hR,a9,hm,ad,a1,λN r ml el pl sl f2 O2 H2 hN J R a3 a0 ab j x=>?_,λS ml el O2 H2 x=>?_
 .have a5:=yor l d (X,s0) (9*N+1);have a8:((X,s0):FX×Sn).2.2.2=5:=rfl;rw[a8]at a5;have go:=x.fgo S1 I z;have ag:=j.sk.me;have W:H2 dt=some (.lst (d.map V.int)):=(go.kpa hF).lst y a2;ext;exists q,G,pd,ps,ds,d,_,rfl,j.sk,j.ok,by show Int.toNat _<=100000;omega,λw H3 af C S3=>?_
  ext;refine x5 (SqL.of C) ?_;rw[bf];ext;refine yb4 (SqL.of (S3 _ _ W)) λu hu=>?_;have ec:ydm (d.map V.int) none (some (((tL (rst l d (X,s0) (9*N+1)).2).length:Nat):Int))=(d.take (tL (rst l d (X,s0) (9*N+1)).2).length).map V.int:=by rw[List.map_take];exact jc _
  rw[ec];exists hu,H4,S4,hu4;have v:=go.same (S3.trans S4);ext;refine yak _ _ (SqL.of hu4) (SqL.of (S4 _ _ C)) ?_;by_cases D:d.take (tL (rst l d (X,s0) (9*N+1)).2).length=tL (rst l d (X,s0) (9*N+1)).2
  .rw[bv D];ext;refine x5 (SqL.of (S4 _ _ C)) ?_;rw[bf];ext;exists by walk_at "len",λt k=>?_
   refine kQ N t r el O2 _ hN ⟨J,R,D⟩ (v.free k) (S1.free a3) ya (za k ((S3.trans S4) _ _ a0)) (v.same (y7 k)) ⟨ab,ml,pl,sl,f2,((j.ft.same (S3.trans S4)).same (y7 k))⟩
  .rw[bD D];ext;exists by walk_at "len",kE (λM hM g=>D (by rw[g.uniq J R];exact g.tk)) el O2 _ v
 .exact kE (λM hM g=>by have e:=S M hM;rw[g.b0]at e;cases e) el O2 H2 (x.fgo S1 I z)
structure ve2(H:Hp)(L dt:x0)(lx:V)(n:Nat)(lk:Μ)(kd:Ξ)(tp:Μ)(ps:Λ)(d:Ρ)(mo N w:Nat)(lt:Μ)(tt:Λ):Prop where
 l:H L=some (.lst (refs lk n))
 n1:1<=n
 n6:n<=6
 r:ux H n lk kd tp ps
 dat:H dt=some (.lst (d.map V.int))
 by':Byt d
 dl:d.length<=12000
 mo1:mo<=1000
 lr:yv9 H lx N w lt tt
 w1:w<=1000
 N1:N<=1000
 b:6+6*(N*(9*w+1))+54*mo+200<1000000
def rS(n:Nat)(kd:Ξ)(ps:Λ)(pre:Ρ):FX×Sn:=((FX0 n kd).run (fa0 n ps) pre,s0)
theorem χ(A:FA)(d:Ρ)(S:FX×Sn):∀k,rst A d S k=rst (fa0 A.n A.ps) d S k
 |0=>rfl
 |k+1=>by
  show rnx A d (rst A d S k)=rnx (fa0 A.n A.ps) d (rst (fa0 A.n A.ps) d S k);rw[χ A d S k];rfl
def Ï(A:FA)(d:Ρ)(S:FX×Sn)(k:Nat):Ù A d S k=Ù (fa0 A.n A.ps) d S k:=by unfold Ù;rw[χ];rfl
def yq6(A:FA)(d:Ρ)(S:FX×Sn)(k:Nat):rsg A d S k=rsg (fa0 A.n A.ps) d S k:=by unfold rsg sgB;rw[χ];exact congrArg List.sum (List.map_congr_left λj Z=>by rw[Ï])
def yjd(A:FA)(d:Ρ)(S:FX×Sn)(k:Nat):rtx A d S k=rtx (fa0 A.n A.ps) d S k:=by unfold rtx;exact List.map_congr_left λj Z=>yq6 A d S j
def yjg(A:FA)(d:Ρ)(S:FX×Sn)(k:Nat):rTL A d S k=rTL (fa0 A.n A.ps) d S k:=by unfold rTL;rw[χ]
theorem ROk.fa0{A:FA}{d:Ρ}{S:FX×Sn}{N:Nat}:ROk A d S N↔ROk (fa0 A.n A.ps) d S N:=by
 constructor
 .intro h;exists λj a=>by rw[<- Ï];exact h.b1 j a,by rw[<- Ï];exact h.b0,by rw[<- χ];exact h.tk
 .intro h;exists λj a=>by rw[Ï];exact h.b1 j a,by rw[Ï];exact h.b0,by rw[χ];exact h.tk
def yx8{s t:Int}(hs:0<=s/\s<=255)(ht:0<=t/\t<=255)(h:b8 s=b8 t):s=t:=by have a:=yu4 hs.1 hs.2;have b:=yu4 ht.1 ht.2;have h:[s/128%2,s/64%2,s/32%2,s/16%2,s/8%2,s/4%2,s/2%2,s/1%2]=[t/128%2,t/64%2,t/32%2,t/16%2,t/8%2,t/4%2,t/2%2,t/1%2]:=h;injection h with h0 h;injection h with h1 h;injection h with h2 h;injection h with h3 h;injection h with h4 h;injection h with h5 h;injection h with h6 h;injection h with h7 h;omega
def ye8{mx:Nat->Int}{d:Ρ}(hd:Byt d){m:Nat}(hc:∀j,j<m->Ch (mx j))(hb:∀j,j<m->bt j=0\/bt j=1)(i:InS d (snK mx bt m)):∀k,k<m->bt k=ô d (snK mx bt k) (mx k)/\InS d (snK mx bt k):=by
 induction m with
 |zero=>exact λk c=>absurd c (bJ k)
 |succ m ih =>
  have e:=(z7 (mx:=mx) (bt:=bt) m λj b=>hc j (by omega)).1;let⟨a,f⟩:=ysk hd e (hc m (by omega)) (hb m (by omega)) i;intro k c;by_cases z:k=m
  .rw[z];exists f,a
  .exact ih (λj b=>hc j (by omega)) (λj b=>hb j (by omega)) a k (by omega)
def yk7{k:Nat}(h:k<(dec ts).length):vi ts k=0\/vi ts k=1:=by let⟨a,b⟩:=ylz ts k h;omega
def ybz(x:Sn):Byt (tL x):=λb a=>yso _ _ b a
theorem ö{n:Nat}{kd:Ξ}{ps:Λ}{pre d:Ρ}(hd:Byt d)(hc:∀j,j<(dec ts).length->Ch (uu n kd ps pre ts j))(hi:InS d (snK (uu n kd ps pre ts) (vi ts) (dec ts).length)):∀k,k<=(dec ts).length->rst (fa0 n ps) d (rS n kd ps pre) k=(fX n kd ps pre ts k,snK (uu n kd ps pre ts) (vi ts) k)
 |0,_=>rfl
 |k+1,hk=>by
  have b:=(ye8 hd hc (λj c=>yk7 c) hi k (by omega)).1;have e:(dec ts)[k]?=some (vi ts k):=by unfold vi;rw[bi (by omega)];rfl
  show rnx (fa0 n ps) d (rst (fa0 n ps) d (rS n kd ps pre) k)=_;rw[ö hd hc hi k (by omega)];show ((fX n kd ps pre ts k).see (fa0 n ps) (ô d (snK (uu n kd ps pre ts) (vi ts) k) (uu n kd ps pre ts k)),nar (snK (uu n kd ps pre ts) (vi ts) k) (uu n kd ps pre ts k) (ô d (snK (uu n kd ps pre ts) (vi ts) k) (uu n kd ps pre ts k)))=(fX n kd ps pre ts (k+1),nar (snK (uu n kd ps pre ts) (vi ts) k) (uu n kd ps pre ts k) (vi ts k));rw[<- b]
  have a:fX n kd ps pre ts (k+1)=(fX n kd ps pre ts k).see (fa0 n ps) (vi ts k):=by
   unfold fX;rw[zk e]
  rw[a]
def yhl{n:Nat}{kd:Ξ}{ps:Λ}{pre d:Ρ}(hd:Byt d)(hc:∀j,j<(dec ts).length->Ch (uu n kd ps pre ts j))(hi:InS d (snK (uu n kd ps pre ts) (vi ts) (dec ts).length))(k:Nat)(hk:k<(dec ts).length):Ù (fa0 n ps) d (rS n kd ps pre) k=vi ts k:=by have b:=(ye8 hd hc (λj a=>yk7 a) hi k hk).1;unfold Ù;rw[ö hd hc hi k (by omega)];exact b.symm
def Ý(t:Int)(r:Ρ)(k:Nat):vi (t::r) (k+9)=vi r k:=rfl
def ygh(t:Int)(r:Ρ):∀i,i<8->vi (t::r) (1+i)=t/wB i%2:=λi a=>by
 rcases i with _|_|_|_|_|_|_|_|i
 .rfl
 .rfl
 .rfl
 .rfl
 .rfl
 .rfl
 .rfl
 .rfl
 .omega
theorem ĕ:∀(ts:Ρ)(j:Nat)(hj:j<ts.length),vi ts (9*j)=1/\∀i,i<8->vi ts (9*j+1+i)=ts[j]/wB i%2
 |[],j,hj=>absurd hj (bJ j)
 |t::r,0,_=>⟨rfl,λi a=>by rw[show 9*0+1+i=1+i by omega];exact ygh t r i a⟩
 |t::r,j+1,hj=>by
  let⟨b,c⟩:=ĕ r j (by simpa using hj);exists ?_,λi a=>?_
  .rw[show 9*(j+1)=9*j+9 by omega,Ý];exact b
  .rw[show 9*(j+1)+1+i=9*j+1+i+9 by omega,Ý];exact c i a
theorem ydw:∀ts:Ρ,vi ts (9*ts.length)=0
 |[]=>rfl
 |t::r=>by
  rw[show 9*(t::r).length=9*r.length+9 by rw[bX];omega,Ý];exact ydw r
def ylp(A:FA)(d:Ρ)(S:FX×Sn)(c i:Nat):Ù A d (rst A d S c) i=Ù A d S (c+i):=by unfold Ù;rw[yc8]
def yin{n:Nat}{kd:Ξ}{ps:Λ}{pre d:Ρ}(hts:Sgs ts)(hd:Byt d)(hc:∀j,j<(dec ts).length->Ch (uu n kd ps pre ts j))(hl:(tL (snK (uu n kd ps pre ts) (vi ts) (dec ts).length)).length<=d.length)(h:d.take (tL (snK (uu n kd ps pre ts) (vi ts) (dec ts).length)).length=tL (snK (uu n kd ps pre ts) (vi ts) (dec ts).length)):
  ROk (fa0 n ps) d (rS n kd ps pre) ts.length/\rtx (fa0 n ps) d (rS n kd ps pre) ts.length=ts/\rTL (fa0 n ps) d (rS n kd ps pre) ts.length=(tL (snK (uu n kd ps pre ts) (vi ts) (dec ts).length)).length:=by
 have l:=(z7 (bt:=vi ts) _ hc).1;have a:=yad hd l hl h;have b:=xl ts
 have f:rst (fa0 n ps) d (rS n kd ps pre) (9*ts.length+1)=(fX n kd ps pre ts (dec ts).length,snK (uu n kd ps pre ts) (vi ts) (dec ts).length):=by
  rw[<- b];exact ö hd hc a _ (bn _)
 have c:=yhl hd hc a;exists⟨λj m=>?_,?_,?_⟩,?_,?_
 .rw[c _ (by omega)];exact(ĕ ts j m).1
 .rw[c _ (by omega)];exact ydw ts
 .rw[f];exact h
 .show (List.range ts.length).map (rsg (fa0 n ps) d (rS n kd ps pre))=ts;refine List.ext_getElem (by rw[bf,bV]) λj q g=>?_;rw[cL,List.getElem_range];have k:=hts ts[j] (ce g);have p:=(ĕ ts j g).2
  have e:∀i,i<8->wB i*Ù (fa0 n ps) d (rst (fa0 n ps) d (rS n kd ps pre) (9*j+1)) i=wB i*(ts[j]/wB i%2):=λi a=>by
   rw[ylp,c _ (by omega),p i a]
  have o:sgB (fa0 n ps) d (rst (fa0 n ps) d (rS n kd ps pre) (9*j+1)) 8=(List.range 8).map λi=>wB i*(ts[j]/wB i%2):=by
   unfold sgB;exact List.map_congr_left λi a=>e i (cA.mp a)
  unfold rsg;rw[o];exact yu4 k.1 k.2
 .unfold rTL;rw[f]
theorem yk4:∀{ts us:Ρ},Sgs ts->Sgs us->dec ts=(dec us).take (dec ts).length->ts=us
 |[],[],_,_,_=>rfl
 |[],u::r,_,_,h=>by
  have h:[(0:Int)]=[1]:=h;simp at h
 |t::r,[],_,_,h=>by
  have c:(dec (t::r)).length=9*(r.length+1)+1:=xl (t::r);have g:=congrArg List.length h;rw[bI,c]at g;have j:(dec ([]:Ρ)).length=1:=rfl;omega
 |t::r,u::r',ht,hu,h=>by
  have a:∀s:Int,(1::b8 s).length=9:=λZ=>rfl;have h:(1::b8 t)++dec r=((1::b8 u)++dec r').take (((1::b8 t)++dec r).length):=h;rw[bq,a,List.take_append,a,Nat.add_sub_cancel_left,cn (by rw[a];omega)]at h;let⟨d,e⟩:=List.append_inj h (by rw[a,a]);have i:=yx8 (ht t (by simp)) (hu u (by simp)) (List.cons.inj d).2;have f:=yk4 (λx b=>ht x (by simp[b])) (λx b=>hu x (by simp[b])) e;rw[i,f]
def yr5{n:Nat}{kd:Ξ}{ps:Λ}{pre us:Ρ}(hts:Sgs ts)(hus:Sgs us)(c1:∀j,j<(dec ts).length->Ch (uu n kd ps pre ts j))(c2:∀j,j<(dec us).length->Ch (uu n kd ps pre us j))
  (h:(tL (snK (uu n kd ps pre ts) (vi ts) (dec ts).length)).take (tL (snK (uu n kd ps pre us) (vi us) (dec us).length)).length=tL (snK (uu n kd ps pre us) (vi us) (dec us).length)):ts=us:=by
 have r:=(z7 (bt:=vi ts) _ c1).1;have q:=(z7 (bt:=vi us) _ c2).1;have b:=ybz (snK (uu n kd ps pre ts) (vi ts) (dec ts).length);have g:=yad b r (bn _) (bZ);have o:=yad b q (by have:=congrArg List.length h;rw[bI]at this;omega) h;generalize tL (snK (uu n kd ps pre ts) (vi ts) (dec ts).length)=d at b g o;have u:=ye8 b c1 (λj c=>yk7 c) g;have v:=ye8 b c2 (λj c=>yk7 c) o
 have a:∀k,k<=(dec ts).length->k<=(dec us).length->(dec ts).take k=(dec us).take k/\snK (uu n kd ps pre ts) (vi ts) k=snK (uu n kd ps pre us) (vi us) k:=by
  intro k
  induction k with
  |zero=>exact λZ Z=>⟨rfl,rfl⟩
  |succ k ih =>
   intro w x;let⟨p,m⟩:=ih (by omega) (by omega)
   have i:uu n kd ps pre ts k=uu n kd ps pre us k:=by
    unfold uu fX;rw[p]
   have l:vi ts k=vi us k:=by rw[(u k (by omega)).1,(v k (by omega)).1,m,i]
   exists ?_,?_
   .have t:(dec ts)[k]?=some (vi ts k):=by unfold vi;rw[bi (by omega)];rfl
    have s:(dec us)[k]?=some (vi us k):=by unfold vi;rw[bi (by omega)];rfl
    rw[zw t,zw s,p,l]
   .show nar _ _ _=nar _ _ _;rw[m,i,l]
 rcases Nat.le_total (dec ts).length (dec us).length with f|f
 .obtain⟨e,_⟩:=a _ (bn _) f;rw[bZ]at e;exact yk4 hts hus e
 .obtain⟨e,_⟩:=a _ f (bn _);rw[bZ]at e;exact(yk4 hus hts e.symm).symm
def ü{ys:Ρ}(h1:Byt xs)(h2:Byt ys):Byt (xs++ys):=λb a=>by
 rcases bP.mp a with h|h
 .exact h1 b h
 .exact h2 b h
def δ(n:Nat)(kd:Ξ)(ps:Λ)(pre ts:Ρ):Ρ:=tL (snK (uu n kd ps pre ts) (vi ts) (dec ts).length)
def yek{n:Nat}{kd:Ξ}{ps:Λ}{pre:Ρ}(n1:1<=n)(n6:n<=6)(hp:yaq pre)(hz:ts.length<=300):(δ n kd ps pre ts).length<=5500:=by
 have b:=xl ts;let⟨c,a⟩:=z7 (mx:=uu n kd ps pre ts) (bt:=vi ts) (dec ts).length λj Z=>å n1 n6 hp j;unfold δ;rw[yes];have:sz (snK (uu n kd ps pre ts) (vi ts) (dec ts).length)<=5500:=by show Int.toNat _<=5500;omega
 omega
def ž{n:Nat}{kd:Ξ}{ps:Λ}{pre bs:Ρ}(n1:1<=n)(n6:n<=6)(hp:yaq pre)(hts:Sgs ts)(hb:Byt bs):
  ROk (fa0 n ps) (δ n kd ps pre ts++bs) (rS n kd ps pre) ts.length/\rtx (fa0 n ps) (δ n kd ps pre ts++bs) (rS n kd ps pre) ts.length=ts/\rTL (fa0 n ps) (δ n kd ps pre ts++bs) (rS n kd ps pre) ts.length=(δ n kd ps pre ts).length :=
 yin hts (ü (ybz _) hb) (λj Z=>å n1 n6 hp j) (by rw[bq];exact Nat.le_add_right _ _) List.take_left
def ysn{n:Nat}{kd:Ξ}{ps:Λ}{pre bs:Ρ}(n1:1<=n)(n6:n<=6)(hp:yaq pre)(hb:Byt bs):(rst (fa0 n ps) (δ n kd ps pre ts++bs) (rS n kd ps pre) (9*ts.length+1)).1=((FX0 n kd).run (fa0 n ps) pre).run (fa0 n ps) (dec ts):=by have a:∀j,j<(dec ts).length->Ch (uu n kd ps pre ts j):=λj Z=>å n1 n6 hp j;have b:Byt (δ n kd ps pre ts++bs):=ü (ybz _) hb;have c:=yad b (z7 (bt:=vi ts) _ a).1 (by rw[bq];exact Nat.le_add_right _ _) List.take_left;rw[<- xl ts,ö b a c _ (bn _)];unfold fX;rw[bZ]
def vee{x:Sn}{c b:Int}(h:Ok x)(hc:Ch c):(nar x c b).2.1<1099511627776:=by
 let⟨a,e,f⟩:=ś h.w0 h.w1 hc;have d:=h.w1;unfold nar ren
 (repeat' split)<;>(dsimp only at*;omega)
def ym4{n:Nat}{kd:Ξ}{ps:Λ}{pre:Ρ}(n1:1<=n)(n6:n<=6)(hp:yaq pre):1<=(δ n kd ps pre ts).length:=by
 have f:=xl ts;obtain⟨m,d⟩:∃m,(dec ts).length=m+1:=⟨9*ts.length,by omega⟩;unfold δ;rw[yes,d];have a:∀j,j<m+1->Ch (uu n kd ps pre ts j):=λj Z=>å n1 n6 hp j;have e:=(z7 (bt:=vi ts) m λj i=>a j (by omega)).1;have c:=(z7 (bt:=vi ts) (m+1) a).1;have l:(snK (uu n kd ps pre ts) (vi ts) (m+1)).2.1<1099511627776:=vee (x:=snK (uu n kd ps pre ts) (vi ts) m) (b:=vi ts m) e.ok (a m (by omega));have k:=yjr (yah c.ok);have h:=c.sz5;have g:pw (tK (snK (uu n kd ps pre ts) (vi ts) (m+1)))<pw 5:=by rw[pw5];omega
 have:=vbx g;omega
def Ú(L:qi (Ρ)):Ρ:=(L.map dec).flatten
def Ė(L:qi (Ρ))(t:Ρ):Ú (L++[t])=Ú L++dec t:=by unfold Ú;rw[bH,List.flatten_append];simp
def jn(L:qi (Ρ)):yaq (Ú L):=λb a=>by
 unfold Ú at a;let⟨l,c,a⟩:=List.mem_flatten.mp a;let⟨t,_,rfl⟩:=br.mp c;exact jd t b a
def ymz{A:FA}{X:FX}(hts:Sgs ts)(h1:X.sg=[])(h2:X.nd=0):(X.run A (dec ts)).sg=[]/\(X.run A (dec ts)).nd=0:=by
 have a:∀k,k<=(dec ts).length->TxE ts k (X.run A ((dec ts).take k)).sg (X.run A ((dec ts).take k)).nd:=by
  intro k
  induction k with
  |zero =>
   intro _;exact .inl ⟨bK _,by show yao _ _ X.sg X.nd;rw[h1,h2];exact yao.zero _⟩
  |succ k ih =>
   intro d;have b:(dec ts)[k]?=some ((dec ts)[k]'(by omega)):=bi _;rw[zk b];exact((ih (by omega)).next hts b).2
 have e:=a _ (bn _);rw[bZ]at e;have c:=xl ts;rcases e with⟨h,_⟩|⟨_,h⟩
 .omega
 .exact h
def ywi(p:x0)(A:FA)(O:Β):Ν:=λc=>c=p\/c=A.mp\/(∃j,j<A.n/\c=A.bk j)\/(∃j,j<A.n/\O j c)\/c=A.el
def FZ(K:xr)(a:Ads)(H:Hp)(p:x0)(n:Nat)(kd:Ξ)(ps:Λ)(pre:Ρ)(M:Nat)(W:Ν):Prop :=
 ∃A f O m,u7 K a H p A ((FX0 n kd).run (fa0 n ps) pre) f O m/\m<=M/\ywd H A/\A.n=n/\A.kd=kd/\A.ps=ps/\((FX0 n kd).run (fa0 n ps) pre).sg=[]/\((FX0 n kd).run (fa0 n ps) pre).nd=0/\∀c,W c↔ywi p A O c
def ywa:HO->Bool
 | .ins _ _ _=>true
 | .dT _=>true
 | .dK _=>true
 | .frz _ (.dK _)=>true
 |_=>false
def ve0(o:qj HO):Prop:=(∃ys,o=some (.lst ys))\/∃ys,o=some (.tup ys)/\(ys.length≠2\/∃i,ys[0]?=some (.int i))
def WSh(H:Hp)(W:Ν):Prop:=∀c,W c->∃o,H c=some o/\(ywa o=true\/∃xs,o=.lst xs/\∀x∈xs,(∃s,x=V.str s)\/x=V.non\/∃q,x=V.ref q/\ve0 (H q))
def yq2{o:HO}(h:ywb o=true):ywa o=true:=by cases o<;>first|rfl|cases h
section
variable{H H':Hp}{n:Nat}{kd:Ξ}{ps:Λ}{pre:Ρ}{M:Nat}{W:Ν}
def FZ.sh(h:FZ K a H p n kd ps pre M W):WSh H W:=λc w=>by
 let⟨A,f,O,m,d,_,_,_,_,_,l,_,e⟩:=h;rcases (e c).mp w with z|z|⟨j,g,z⟩|⟨j,g,z⟩|z
 .exists _,by rw[z];exact d.me,.inl rfl
 .exists _,by rw[z];exact d.mx.o,.inl rfl
 .exists _,by rw[z];exact(d.B.b j g).me,.inl rfl
 .obtain⟨o,k,r⟩:=(d.B.b j g).own c z;exists o,k,.inl (yq2 r)
 .have i:=d.el;rw[l]at i;exists _,by rw[z];exact i,.inr ⟨_,rfl,λx q=>by cases q⟩
def FZ.live(h:FZ K a H p n kd ps pre M W):∀c,W c->∃o,H c=some o:=λc w=>let ⟨o,e,_⟩:=h.sh c w;⟨o,e⟩
theorem FZ.same(h:FZ K a H p n kd ps pre M W)(S:yv H H'):FZ K a H' p n kd ps pre M W:=by let⟨A,f,O,m,c,b,d,r⟩:=h;exists A,f,O,m,c.same S,b,d.same S,r
def FZ.up(h:FZ K a H p n kd ps pre M W){M':Nat}(hM:M<=M'):FZ K a H p n kd ps pre M' W:=by let⟨A,f,O,m,c,b,r⟩:=h;exists A,f,O,m,c,bQ b hM,r
theorem WSh.tup(h:WSh H W){c:x0}{xs:Υ}(e:H c=some (.tup xs)):¬W c:=λw=>by
 obtain⟨o,a,z|⟨b,z,_⟩⟩:=h c w
 .rw[e]at a;cases a;cases z
 .rw[e,z]at a;cases a
def WSh.ints(h:WSh H W){c:x0}{ns:Ρ}(e:H c=some (.lst (ns.map V.int)))(hn:1<=ns.length):¬W c:=λw=>by
 obtain⟨o,a,z|⟨b,z,q⟩⟩:=h c w
 .rw[e]at a;cases a;cases z
 .rw[e,z]at a;cases a
  cases ns with
  |nil=>cases hn
  |cons x r=>rcases q (.int x) bO with⟨_,z⟩|z|⟨_,z,_⟩<;>cases z
theorem WSh.refs(h:WSh H W){c:x0}{g:Μ}{k:Nat}(e:H c=some (.lst (Law.refs g k)))(hk:1<=k)(hg:¬ve0 (H (g 0))):¬W c:=λw=>by
 obtain⟨o,a,z|⟨f,z,q⟩⟩:=h c w
 .rw[e]at a;cases a;cases z
 .rw[e,z]at a;cases a;rcases q (.ref (g 0)) (bB (ys3 hk))with⟨_,z⟩|z|⟨d,z,b⟩
  .cases z
  .cases z
  .cases z;exact hg b
theorem FZ.frame(h:FZ K a H p n kd ps pre M W)(sh:WSh H W2)(dj:∀c,W c->¬W2 c)(fr:∀c o,H c=some o->¬W2 c->H' c=some o):FZ K a H' p n kd ps pre M W:=by
 let⟨A,f,O,m,d,hm,u,S,R,Q,N,X,q⟩:=h;have k:=d.n1;let⟨U,j⟩:=u.2.2
 have F:¬W2 A.ll:=sh.refs u.1 k λz=>by
  let⟨J,e,x,_⟩:=j 0 k;cases e;rw[x]at z;rcases z with⟨_,z⟩|⟨_,z,r⟩
  .cases z
  .cases z;exact r.elim (λr=>r rfl) λ⟨_,r⟩=>nomatch r
 have y:¬W2 A.bl:=sh.refs d.bl k λz=>by rw[(d.B.b 0 k).me]at z;rcases z with⟨_,z⟩|⟨_,z,_⟩<;>cases z
 have D:¬W2 A.pl:=sh.refs d.pl k λz=>by
  let⟨_,⟨Y,hs⟩,_,_⟩:=d.slot k;let⟨C,fs,P⟩:=η a Y (((FX0 n kd).run (fa0 n ps) pre).g 0 (((FX0 n kd).run (fa0 n ps) pre).key A 0));rw[hs,P]at z;rcases z with⟨_,z⟩|⟨_,z,_⟩<;>cases z
 have E:¬W2 A.ml:=sh.ints d.mx.l (by rw[d.wok.len];exact k);exists A,f,O,m,d.frame (O2:=W2) (λc o e T=>fr c o e T) (dj _ ((q _).mpr (.inl rfl))) (dj _ ((q _).mpr (.inr (.inl rfl)))) (λi s=>dj _ ((q _).mpr (.inr (.inr (.inl ⟨i,s,rfl⟩))))) (λi c s w=>dj _ ((q _).mpr (.inr (.inr (.inr (.inl ⟨i,s,w⟩)))))) (λl L G e=>fr _ _ e ?_) (λt L e=>?_),hm,⟨fr _ _ u.1 F,u.2.1,U,λi s=>?_⟩,S,R,Q,N,X,q
 .rcases G with z|z|z|z
  .rw[z];exact y
  .rw[z];exact dj _ ((q _).mpr (.inr (.inr (.inr (.inr rfl)))))
  .rw[z];exact E
  .rw[z];exact D
 .rcases e with(e|⟨o,e⟩)|e
  .exact .inl (.inl (fr _ _ e (sh.tup e)))
  .refine .inl (.inr ⟨o,fr _ _ e λw=>?_⟩);obtain⟨o',v,z|⟨ys,z,_⟩⟩:=sh t w
   .rw[e]at v;cases v;cases z
   .rw[e,z]at v;cases v
  .exact .inr e
 .obtain⟨J,z,x,I,Z⟩:=j i s;exists J,z,fr _ _ x (sh.tup x),fr _ _ I (sh.tup I),Z
def FZ.went{A:FA}{f f':Α}{m:Nat}{X:FX}{ml el pl:x0}{sl:Μ}(hF:u7 K a H p A ((FX0 A.n A.kd).run (fa0 A.n A.ps) pre) f O m)(hl:ywd H A)(hX:X=(FX0 A.n A.kd).run (fa0 A.n A.ps) (pre++dec ts))(hts:Sgs ts)(h4:((FX0 A.n A.kd).run (fa0 A.n A.ps) pre).sg=[])(h5:((FX0 A.n A.kd).run (fa0 A.n A.ps) pre).nd=0)
  (hF':u7 K a H' p (A.re ml el pl sl) X f' O' m') (go:FGo p A O H H' el O') (e6:∀c,W c↔ywi p A O c):FZ K a H' p A.n A.kd A.ps (pre++dec ts) m' (ywi p (A.re ml el pl sl) O')/\Go W H H' (ywi p (A.re ml el pl sl) O'):=by
 subst hX;have h:=go.kpa hF;have d:=ymz (A:=fa0 A.n A.ps) hts h4 h5;exists⟨_,f',O',m',hF',bn _,⟨(h _ _ hl.1 rfl hl.2.1).2,(h _ _ hl.1 rfl hl.2.1).1,?_⟩,rfl,rfl,rfl,by rw[ψ];exact d.1,by rw[ψ];exact d.2,λc=>Iff.rfl⟩,⟨λc o e x=>?_,λc w=>?_,go.live⟩
 .obtain⟨B,r⟩:=hl.2.2;exists B,λi u=>?_;let⟨t,z,q,l,s⟩:=r i u;have k:∀{c:x0}{xs:Υ},H c=some (.tup xs)->c≠A.el:=λe z=>by rw[z,hF.el]at e;cases e
  exists t,z,(h _ _ q rfl (k q)).2,(h _ _ l rfl (k l)).2,s
 .have b:¬ywi p A O c:=λw=>x ((e6 c).mpr w);exact go.fr c o e (λz=>b (.inl z)) (λz=>b (.inr (.inl z))) (λz=>b (.inr (.inr (.inr (.inr z))))) λj g w=>b (.inr (.inr (.inr (.inl ⟨j,g,w⟩))))
 .rcases w with z|z|⟨j,g,z⟩|⟨j,g,z⟩|z
  .exact .inl ((e6 c).mpr (.inl z))
  .exact .inl ((e6 c).mpr (.inr (.inl z)))
  .exact .inl ((e6 c).mpr (.inr (.inr (.inl ⟨j,g,z⟩))))
  .rcases go.hO j c g z with v|v
   .exact .inl ((e6 c).mpr (.inr (.inr (.inr (.inl ⟨j,g,v⟩)))))
   .exact .inr v
  .rcases go.he with y|y
   .exact .inl ((e6 c).mpr (.inr (.inr (.inr (.inr (show c=A.el from Eq.trans z y))))))
   .exact .inr (by rw[show c=el from z];exact y)
def FZ.read{Q:VK}{E:XK}{dt:x0}{bs:Ρ}{mo:Nat}(h:FZ K a H p n kd ps pre M W)(hb:yaq pre)(hts:Sgs ts)(hdt:H dt=some (.lst ((δ n kd ps pre ts++bs).map V.int)))(ndt:¬W dt)(hbs:Byt bs)(hdl:(δ n kd ps pre ts++bs).length<=12000)(hz:ts.length<=mo)(hmo:mo<=1000)(hM:M+54*mo+200<1000000)
  (k:∀t r W' H',H t=none->H r=none->H' t=some (.tup [.ref r,.int ((δ n kd ps pre ts).length:Nat)])->H' r=some (.lst (ts.map V.int))->FZ K a H' p n kd ps (pre++dec ts) (M+6*(dec ts).length) W'->Go W H H' W'->¬W' r->Q (.ref t) H'):ya9 K a [.ref p,.ref dt,.int mo] H Q E:=by
 let⟨A,f,O,m,l,hm,Z,rfl,rfl,rfl,R,U,L⟩:=h;let⟨s,y,u⟩:=ž (kd:=A.kd) (ps:=A.ps) (pre:=pre) (bs:=bs) l.n1 l.n6 hb hts hbs;have x:Byt (δ A.n A.kd A.ps pre ts++bs):=ü (ybz _) hbs;exists p,A,_,f,O,m,dt,_,mo,rfl,l,hdt,λz=>ndt ((L _).mpr (.inr (.inr (.inr (.inr z))))),x,hdl,hmo,by omega,by rw[U];decide,by rw[R];exact bK _,λN t r F O' H' hN i G v q d T c=>?_,λI F O' H' T=>?_
 .rw[ROk.fa0]at i;obtain rfl:N=ts.length:=s.uniq i.b1 i.b0;rw[yjg]at q;rw[yjd]at d;have q:H' t=some (.tup [.ref r,.int (rTL (fa0 A.n A.ps) (δ A.n A.kd A.ps pre ts++bs) (rS A.n A.kd A.ps pre) ts.length)]):=q;have d:H' r=some (.lst ((rtx (fa0 A.n A.ps) (δ A.n A.kd A.ps pre ts++bs) (rS A.n A.kd A.ps pre) ts.length).map V.int)):=d;rw[u]at q;rw[y]at d;let⟨D,S,Y,X,f',c⟩:=c;have C:=xl ts
  have eX:(rst A (δ A.n A.kd A.ps pre ts++bs) ((FX0 A.n A.kd).run (fa0 A.n A.ps) pre,s0) (9*ts.length+1)).1=(FX0 A.n A.kd).run (fa0 A.n A.ps) (pre++dec ts):=by
   rw[χ,ψ];exact ysn l.n1 l.n6 hb hbs
  let⟨z,g⟩:=FZ.went l Z eX hts R U c T L;refine k t r _ H' G v q d (z.up (by omega)) g λw=>?_;rcases w with w|w|⟨j,J,w⟩|⟨j,J,w⟩|w
  .have e:=c.me;rw[<- w,d]at e;cases e
  .have e:=c.mx.o;rw[show r=(A.re S F Y X).mp from w]at d;rw[d]at e;cases e
  .have e:=(c.B.b j J).me;rw[show r=(A.re S F Y X).bk j from w]at d;rw[d]at e;cases e
  .obtain⟨o,P,hi⟩:=(c.B.b j J).own _ w;rw[d]at P;cases P;cases hi
  .exact D w
 .exact(I ts.length hz (by rw[ROk.fa0];exact s)).elim
def FZ.press{Q:VK}{E:XK}{tx:x0}(h:FZ K a H p n kd ps pre M W)(htx:jj H tx ts 1000)(ntx:¬W tx)(hM:M+6*(dec ts).length+20<1000000)
  (k:∀r W' H',H r=none->H' r=some (.lst ((δ n kd ps pre ts).map V.int))->FZ K a H' p n kd ps (pre++dec ts) (M+6*(dec ts).length) W'->Go W H H' W'->Q (.ref r) H'):yea K a [.ref p,.ref tx] H Q E:=by
 let⟨A,f,O,m,o,F,t,rfl,rfl,rfl,i,l,d⟩:=h;exists p,A,_,f,O,m,tx,ts,rfl,o,i,l,htx,λz=>ntx ((d _).mpr (.inr (.inr (.inr (.inr z))))),by omega,λr x D G C B y I H' c q b w u=>?_
 have v:((FX0 A.n A.kd).run (fa0 A.n A.ps) pre).run A (dec ts)=(FX0 A.n A.kd).run (fa0 A.n A.ps) (pre++dec ts):=by rw[ψ];exact jt A _ _
 let⟨z,g⟩:=FZ.went o t v htx.s i l b u d;refine k r _ H' c ?_ (z.up (by omega)) g;rw[q];have e:snK (yfi A ((FX0 A.n A.kd).run (fa0 A.n A.ps) pre) ts) (vi ts) (dec ts).length=snK (uu A.n A.kd A.ps pre ts) (vi ts) (dec ts).length:=Ě _ λj Z=>⟨by unfold uu yfi fX;rw[jt A];rfl,rfl⟩;rw[e];rfl
end
def nmL(L:Η):Υ:=L.map λx=>V.str x.1
def yb7(H:Hp)(U:Ν):qi (Str×qi Int)->qi V->Prop
 |[],ks=>ks=[]
 |x::r,ks=>∃k ks',ks=k::ks'/\(k=.non\/∃q,k=.ref q/\H q=some (.lst (x.2.map V.int))/\¬U q)/\yb7 H U r ks'
theorem yb7.len{H:Hp}:∀{L:Η}{ks:Υ},yb7 H U L ks->ks.length=L.length
 |[],_,h=>by rw[show _=_ from h];rfl
 |_::r,_,⟨_,_,e,_,h⟩=>by rw[e,bX,bX,h.len]
theorem yb7.mono{H H':Hp}(f:∀q xs,H q=some (.lst xs)->¬U q->H' q=some (.lst xs)/\¬U' q):∀{L:Η}{ks:Υ},yb7 H U L ks->yb7 H' U' L ks
 |[],_,h=>h
 |_::_,_,⟨k,ks',e,z,h⟩=>⟨k,ks',e,z.imp id λ⟨q,e,a,b⟩=>⟨q,e,f q _ a b⟩,h.mono f⟩
theorem yb7.snoc{H:Hp}{nm:Str}{t:Ρ}{k:V}(hk:k=.non\/∃q,k=.ref q/\H q=some (.lst (t.map V.int))/\¬U q):∀{L:Η}{ks:Υ},yb7 H U L ks->yb7 H U (L++[(nm,t)]) (ks++[k])
 |[],_,h=>by rw[show _=_ from h];exists k,[],rfl,hk,rfl
 |_::_,_,⟨k',ks',e,z,h⟩=>⟨k',ks'++[k],by rw[e];rfl,z,h.snoc hk⟩
theorem yb7.mem{H:Hp}:∀{L:Η}{ks:Υ},yb7 H U L ks->∀x∈ks,x=.non\/∃q ys,x=.ref q/\H q=some (.lst ys)/\¬U q
 |[],_,h,x,hx=>by rw[show _=_ from h]at hx;cases hx
 |_::_,_,⟨k,ks',e,z,h⟩,x,hx=>by
  rw[e]at hx;rcases bC.mp hx with y|y
  .rw[y];exact z.imp id λ⟨q,e,a,b⟩=>⟨q,_,e,a,b⟩
  .exact h.mem x y
def ChW(ll tl:x0)(W:Ν):Ν:=λc=>c=ll\/c=tl\/W c
structure Ã(K:xr)(a:Ads)(H:Hp)(c dc p ll tl:x0)(n:Nat)(kd:Ξ)(ps:Λ)(L:Η)(ks:Υ)(M:Nat)(W:Ν):Prop where
 me:H c=some (.ins a.A1 dc (jq (.ref p) (.ref ll) (.ref tl)))
 fz:FZ K a H p n kd ps (Ú (L.map (·.2))) M W
 hl:H ll=some (.lst (nmL L))
 ht:H tl=some (.lst ks)
 tx:yb7 H (ChW ll tl W) L ks
 nc:¬W c
 nll:¬W ll
 ntl:¬W tl
 ne:ll≠tl
def FZ.new{H:Hp}{dp l:x0}{n:Nat}{lk:Μ}{kd:Ξ}{ps:Λ}{Q:VK}{E:XK}(np:H p=none)(ndp:H dp=none)(hl:H l=some (.lst (refs lk n)))(n1:1<=n)(n6:n<=6)(r:ux H n lk kd tp ps)
  (k:∀W H',FZ K a H' p n kd ps [] 6 W->(∀c,W c->H c=none)->yv H H'->(∀y xs H'',H y=some (.lst xs)->But y H' H''->FZ K a H'' p n kd ps [] 6 W)->Q .non H'):yd7 K a [.ref p,.ref l] (upd (upd H dp (.own p)) p (.ins a.A2 dp [])) Q E:=by
 have d:yv H (upd (upd H dp (.own p)) p (.ins a.A2 dp [])):=λb o e=>by rw[yk (yb e np),yk (yb e ndp)];exact e
 exists p,dp,.ref l,rfl,ya,.inr ⟨l,n,lk,kd,tp,ps,rfl,d _ _ hl,n1,n6,r.same d,λA f O C U Z=>?_⟩;have v:yv H C:=λb o e=>Z b o (d b o e) (yb e np);let⟨u,rfl,rfl,rfl,rfl,P,M,L,S,s,m,G⟩:=U;refine k (ywi p A O) C ⟨A,f,O,6,u,bn _,⟨s,m,tp,r.same v⟩,rfl,rfl,rfl,rfl,rfl,λc=>Iff.rfl⟩ (λc w=>?_) v (λy xs H2 R b=>?_)
 .rcases w with z|z|⟨j,J,z⟩|⟨j,J,z⟩|z
  .rw[z];exact np
  .rw[z];exact d.free L
  .rw[z];exact d.free (M j J)
  .exact d.free (P j c J z)
  .exact d.free (S c (.inr (.inl z)))
 .have g:∀{x:x0},H x=none->x≠y:=λ{x}e z=>by rw[z,R]at e;cases e
  have h:=v _ _ R;have F:∀{x:x0}{B:Υ},C x=some (.tup B)->x≠y:=λ{x B}e z=>by rw[z,h]at e;cases e
  exists A,f,O,6,u.frame (O2:=λc=>c=y) (λc o e X=>b c o e X) (g np) (g (d.free L)) (λi q=>g (d.free (M i q))) (λi c q w=>g (d.free (P i c q w))) (λl B I e=>b _ _ e (g (d.free (S l I)))) (λt B e=>?_),bn _,⟨b _ _ s (g (d.free G)),m,tp,λi q=>?_⟩,rfl,rfl,rfl,rfl,rfl,λc=>Iff.rfl
  .rcases e with(e|⟨o,e⟩)|e
   .exact .inl (.inl (b _ _ e (F e)))
   .exact .inl (.inr ⟨o,b _ _ e (λz=>by rw[z,h]at e;cases e)⟩)
   .exact .inr e
  .obtain⟨D,e,T,N,Y⟩:=r.same v i q;exists D,e,b _ _ T (F T),b _ _ N (F N),Y
@[irreducible] def yqm(c:Nat):Bool:=!(Builtin.Str.occurrences "abcdefghijklmnopqrstuvwxyz" ⟨#[c]⟩ 0 (Str.length "abcdefghijklmnopqrstuvwxyz") 1).isEmpty
def nmS(x:Str):Bool:=decide (1<=(x.length:Int)) && (decide ((x.length:Int)<=8) && x.cps.toList.all yqm)
def nmV:V->Bool
 | .str x=>nmS x
 |_=>false
def yrf(x:Str):(List.range x.cps.size).map (λi=>V.bl (yqm (x.cps.toList.getD i 0)))=(x.cps.toList.map yqm).map V.bl:=by
 rw[bS];refine List.ext_getElem? λi=>?_;rw[bo,bo];by_cases hi:i<x.cps.size
 .rw[cF hi,bi (by rw[cw];exact hi),cO,cO,ck,bi (by rw[cw];exact hi),Option.getD_some,Function.comp_apply]
 .rw[cg (by rw[bV];omega),cg (by rw[cw];omega),Option.map_none,Option.map_none]
def yxt{x:Str}(h1:(1:Int)<=(x.length:Int))(h8:(x.length:Int)<=8):nmV (.str x)=(x.cps.toList.map yqm).all id:=by
 have e:nmV (.str x)=nmS x:=by unfold nmV;rfl
 rw[e];unfold nmS;rw[bv h1,bv h8,List.all_map,Function.id_comp,Bool.true_and,Bool.true_and]
def va4{x:Str}(h8:¬(x.length:Int)<=8):nmV (.str x)=false:=by
 have e:nmV (.str x)=nmS x:=by unfold nmV;rfl
 rw[e];unfold nmS;rw[bD h8,Bool.false_and,Bool.and_false]
def yyx{x:Str}(h1:¬(1:Int)<=(x.length:Int)):nmV (.str x)=false:=by
 have e:nmV (.str x)=nmS x:=by unfold nmV;rfl
 rw[e];unfold nmS;rw[bD h1,Bool.false_and]
def vah{x:V}(h:nmV x=true):∃b,x=.str b/\nmS b=true:=by
 cases x with
 |str b=>exact⟨b,rfl,h⟩
 |_=>cases h
def ġ{x:Str}(h:nmS x=true):x.length<=8:=by unfold nmS at h;simp only[bW,decide_eq_true_eq]at h;have:=h.2.1;omega
def smS:Str:=Str.ofString "abcdefghijklmnopqrstuvwxyz"
def ykd:smS.length=26:=by right
def yxj:∀i,i<26->smS.cps[i]?=some (97+i):=by right
def yt8{i:Int}(h0:0<=i)(h1:i<26):smS.cps[i.toNat]?=some (97+i.toNat):=yxj _ (by omega)
def vad:∀i,i<26->yqm (97+i)=true:=by right
def ydl(l:qi Nat):Prop:=∀c,c∈l->97<=c/\c<123
def ydl.app{l m:qi Nat}(h:ydl l)(g:ydl m):ydl (l++m):=λc a=>(bP.mp a).elim (h c) (g c)
def ydl.one{c:Nat}(h:97<=c/\c<123):ydl [c]:=λd a=>by rw[bF.mp a];exact h
theorem ydl.take{l:qi Nat}(h:ydl l)(k:Nat):ydl (l.take k):=λc a=>h c (cH a)
theorem ydl.drop{l:qi Nat}(h:ydl l)(k:Nat):ydl (l.drop k):=λc a=>h c (List.mem_of_mem_drop a)
def vbu{x:Str}(h:ydl x.cps.toList)(h1:1<=x.cps.toList.length)(h8:x.cps.toList.length<=8):nmS x=true/\PyData.strOk x=true:=by
 have e:x.length=x.cps.toList.length:=by simp[Str.length]
 exists ?_,?_
 .unfold nmS;rw[bv (by omega),bv (by omega),Bool.true_and,Bool.true_and,List.all_eq_true];intro c a;let⟨d,b⟩:=h c a;have:=vad (c-97) (by omega)
  rwa[show 97+(c-97)=c by omega]at this
 .unfold PyData.strOk;rw[<- Array.all_toList,List.all_eq_true];intro c a;let⟨d,b⟩:=h c a;exact bv (by omega)
def Ħ(x y:Str):(x++y).cps.toList=x.cps.toList++y.cps.toList:=by rw[PySem.Str.cps_append,Array.toList_append]
def ħ(x:Str):x.length=x.cps.toList.length:=by simp[Str.length]
def ywc(z:Str)(j:Nat)(c:Nat):Str:=Txt.slice z none (some (j:Int))++⟨#[c]⟩++Txt.slice z (some (j:Int)) none
def þ{z:Str}{c:Nat}(hj:j<=z.length):(ywc z j c).cps.toList=z.cps.toList.take j++[c]++z.cps.toList.drop j:=by unfold ywc;rw[Ħ,Ħ,ylk hj,yfp hj]
def yrc{z:Str}{c:Nat}(hj:j<=z.length)(hz:ydl z.cps.toList)(hc:97<=c/\c<123)(h7:z.length<=7):nmS (ywc z j c)=true/\PyData.strOk (ywc z j c)=true:=by
 have e:=ħ z;refine vbu ?_ ?_ ?_
 .rw[þ hj];exact((hz.take j).app (.one hc)).app (hz.drop j)
 .rw[þ hj];simp;omega
 .rw[þ hj,bq,bq,bI,cI,cj];omega
def ymn{z:Str}{c d:Nat}(hj:j<=z.length)(e:ywc z j c=ywc z j d):c=d:=by have h:=congrArg (λx:Str=>x.cps.toList) e;simp only[þ hj]at h;rw[cz,cz]at h;have a:=List.append_cancel_left h;simp at a;exact a
theorem ę{H:Hp}:∀ns:Τ,yqn K H (ns.map V.str) (ns.map PyData.str)
 |[]=>.nil
 |n::r=>.cons (.str n) (ę r)
theorem Đ:∀ns:Τ,(∀x,x∈ns->PyData.strOk x=true)->PyData.canLayAll0 (ns.map PyData.str)=true
 |[],_=>rfl
 |x::r,h=>by simp[PyData.canLayAll0,PyData.canLay0,h x bO,Đ r λy a=>h y (bN _ a)]
theorem ň:∀ns:Τ,PyData.depthAll (ns.map PyData.str)=0
 |[]=>rfl
 |_::r=>by simp[PyData.depthAll,PyData.depth,ň r]
def đ(ns:Τ)(h:∀x,x∈ns->PyData.strOk x=true):SeqAt.shaped (.list (ns.map PyData.str))=true:=by simp[SeqAt.shaped,PyData.canLay0,PyData.depth,Đ ns h,ň]
theorem Ē:∀ns ms:Τ,PyData.eqvAll (ns.map PyData.str) (ms.map PyData.str)=decide (ns=ms)
 |[],[]=>by simp[PyData.eqvAll]
 |[],_::_=>by simp[PyData.eqvAll]
 |_::_,[]=>by simp[PyData.eqvAll]
 |a::r,b::t=>by
  simp only[bU,PyData.eqvAll,PyData.eqv,Ē r t];by_cases h:a=b<;>by_cases h':r=t<;>simp[h,h']
def yb3{g:Bool->Bool}{H:Hp}{Q:VK}{a b:x0}(ns ms:Τ)(hn:∀x,x∈ns->PyData.strOk x=true)(hm:∀x,x∈ms->PyData.strOk x=true)(ha:SqL K H a (ns.map V.str))(hb:SqL K H b (ms.map V.str))(h:Q (.bl (g (decide (ns=ms)))) H):ywm K g (.ref a) (.ref b) H Q :=
 ⟨_,_,.lst ha (ę ns),.lst hb (ę ms),đ ns hn,đ ms hm,by rw[PyData.eqv,Ē];exact h⟩
structure Pc where
 nm:Str
 bs:Φ
 path:Η
 tx:Ρ
 ob:x0
 od:x0
 dl:x0
def baV:qj Str->V
 |none=>.non
 |some b=>.str b
def Pc.by(n:Nat)(kd:Ξ)(ps:Λ)(q:Pc):Ρ:=δ n kd ps (Ú (q.path.map (·.2))) q.tx
def pcs(P:qi Pc):Κ:=P.map λq=>(.inr q.nm,.ref q.ob)
def To(P:qi Pc):qj Str->qi (Str×qi Int)->Prop
 |none,L=>L=[]
 |some b,L=>∃r,r∈P/\r.nm=b/\L=r.path++[(b,r.tx)]
structure yap(a:Ads)(H:Hp)(d:x0)(n:Nat)(kd:Ξ)(ps:Λ)(w:Nat)(P:qi Pc):Prop where
 dk:H d=some (.dK (pcs P))
 ob:∀q,q∈P->H q.ob=some (.ins a.A8 q.od (Ġ (baV q.bs) (.ref q.dl)))/\H q.dl=some (.lst ((q.by n kd ps).map V.int))
 nd:(P.map (·.nm)).Nodup
 wf:∀q,q∈P->To P q.bs q.path
 sz:∀q,q∈P->Sgs q.tx/\q.tx.length<=w/\q.path.length<=60/\(∀x,x∈q.path->Sgs x.2/\x.2.length<=w)
 z:P.length<=60
 nm:∀q,q∈P->nmS q.nm=true/\PyData.strOk q.nm=true
theorem ykv:∀{P:qi Pc}{r:Pc},(P.map (·.nm)).Nodup->r∈P->zn (pcs P) (.inr r.nm)=some (.ref r.ob)
 |q::P,r,hn,hr=>by
  have a:=cK.mp hn;by_cases e:q.nm=r.nm
  .rcases bC.mp hr with z|z
   .subst z;unfold zn pcs;rw[bU,cT (by simp)];rfl
   .exact absurd (br.mpr ⟨r,z,e.symm⟩) a.1
  .rcases bC.mp hr with z|z
   .exact absurd (by rw[z]) e
   .unfold zn pcs;rw[bU,cM (by simpa using e)];exact ykv a.2 z
def yoy{P:qi Pc}{x:Str}(h:∀q,q∈P->q.nm≠x):zn (pcs P) (.inr x)=none:=by
 unfold zn pcs;rw[List.find?_eq_none.mpr λy b=>?_]
 .rfl
 .obtain⟨q,a,e⟩:=br.mp b;rw[<- e];simpa using h q a
def yap.same{H H':Hp}{d:x0}{n:Nat}{kd:Ξ}{ps:Λ}{w:Nat}{P:qi Pc}(h:yap a H d n kd ps w P)(S:yv H H'):yap a H' d n kd ps w P :=
 ⟨S _ _ h.dk,λq b=>⟨S _ _ (h.ob q b).1,S _ _ (h.ob q b).2⟩,h.nd,h.wf,h.sz,h.z,h.nm⟩
def yr1(x:Str)(t:Ρ)(S:Η):(nmL ((x,t)::S)).reverse=(nmL S).reverse++[.str x]:=by unfold nmL;rw[bU,List.reverse_cons]
def To.len{H:Hp}{d:x0}{n:Nat}{kd:Ξ}{ps:Λ}{w:Nat}{P:qi Pc}{x:Φ}(h:yap a H d n kd ps w P)(t:To P x L):L.length<=61:=by
 cases x with
 |none=>rw[show L=[]from t];exact bK _
 |some b =>
  let⟨r,c,_,e⟩:=t;have:=(h.sz r c).2.2.1;rw[e,bq,cj];omega
def yap.get{H:Hp}{d:x0}{n:Nat}{kd:Ξ}{ps:Λ}{w:Nat}{P:qi Pc}{r:Pc}(h:yap a H d n kd ps w P)(hr:r∈P):Ĳ H d (.str r.nm) (some (.ref r.ob)):=by rw[<- ykv h.nd hr];exact Ĳ.k (k:=.inr r.nm) h.dk
def vcg{α:Type}{f:α->Str}{P:qi α}{q r:α}(hn:(P.map f).Nodup)(hq:q∈P)(hr:r∈P)(e:f q=f r):q=r:=by
 induction P with
 |nil=>cases hq
 |cons x P ih =>
  have a:=cK.mp hn;rcases bC.mp hq with z|z<;>rcases bC.mp hr with y|y
  .rw[z,y]
  .exact absurd (br.mpr ⟨r,y,by rw[<- e,z]⟩) a.1
  .exact absurd (br.mpr ⟨q,z,by rw[e,y]⟩) a.1
  .exact ih a.2 z y
def vc6{P:qi Pc}{q r:Pc}(hn:(P.map (·.nm)).Nodup)(hq:q∈P)(hr:r∈P)(e:q.nm=r.nm):q=r:=vcg hn hq hr e
def To.uniq{P:qi Pc}{x:Φ}(hn:(P.map (·.nm)).Nodup)(h:To P x L)(g:To P x M):L=M:=by
 cases x with
 |none=>rw[show L=[]from h,show M=[]from g]
 |some b =>
  let⟨r,a,i,f⟩:=h;let⟨q,d,e,c⟩:=g;obtain rfl:=vc6 hn a d (i.trans e.symm);rw[f,c]
theorem To.pre{P:qi Pc}(wf:∀q,q∈P->To P q.bs q.path){b:Str}{t:Ρ}{A:Η}:∀(m:Nat){x:Φ}{B:Η},B.length<=m->To P x (A++[(b,t)]++B)->To P (some b) (A++[(b,t)])
 |m,none,B,_,h=>by
  have e:=congrArg List.length (show A++[(b,t)]++B=[]from h);rw[bq,bq]at e;simp at e
 |m,some c,B,hm,⟨r,hr,e1,e2⟩=>by
  rcases List.eq_nil_or_concat B with z|⟨i,y,z⟩
  .subst z;rw[cP]at e2;have a:=List.append_inj' e2 rfl;let⟨f,g⟩:=a;cases g;exists r,hr,e1,by rw[f]
  .subst z;rw[List.concat_eq_append]at e2 hm;rw[<- cz]at e2;have a:=(List.append_inj' e2 rfl).1
   cases m with
   |zero=>rw[bq]at hm;simp at hm
   |succ m =>
    have d:=wf r hr;rw[<- a]at d;exact To.pre wf m (by rw[bq,cj]at hm;omega) d
def To.ahead{P:qi Pc}(hn:(P.map (·.nm)).Nodup)(wf:∀q,q∈P->To P q.bs q.path){x y:Φ}(h:To P x L)(g:To P y M)(e:nmL L=(nmL M).take L.length):L=M.take L.length:=by
 cases x with
 |none=>rw[show L=[]from h];rfl
 |some b =>
  let⟨r,m,n,d⟩:=id h;have o:L.length=r.path.length+1:=by rw[d,bq,cj]
  have f:=congrArg List.length e;unfold nmL at f;rw[bI,bf,bf]at f;have a:r.path.length<M.length:=by omega
  have k:M=M.take r.path.length++[M[r.path.length]]++M.drop (r.path.length+1):=by
   rw[cz,List.singleton_append,<- cR a,List.take_append_drop]
  have i:(M[r.path.length]).1=b:=by
   have z:=congrArg (λl=>l[r.path.length]?) e;unfold nmL at z;simp only[bo,List.getElem?_take]at z;rw[if_pos (by omega),d,cJ (bn _),Nat.sub_self,bi a]at z;simp at z;exact z.symm
  have g2:=g;rw[k]at g2;have c:M[r.path.length]=(b,(M[r.path.length]).2):=by rw[<- i]
  rw[c]at g2;have g3:=To.pre wf _ (bn _) g2;have j:=To.uniq hn h g3;rw[j,<- c,<- bL a]
  congr 1
  rw[bI];omega
def yap.getNo{H:Hp}{d:x0}{n:Nat}{kd:Ξ}{ps:Λ}{w:Nat}{P:qi Pc}{x:Str}(h:yap a H d n kd ps w P)(hx:∀q,q∈P->q.nm≠x):Ĳ H d (.str x) none:=by rw[<- yoy hx];exact Ĳ.k (k:=.inr x) h.dk
def vbz(P:qi Pc)(b:Str):(∃r,r∈P/\r.nm=b)\/∀q,q∈P->q.nm≠b:=by
 by_cases h:∃r,r∈P/\r.nm=b
 .exact .inl h
 .exact .inr λq a e=>h ⟨q,a,e⟩
theorem To.sz{H:Hp}{d:x0}{n:Nat}{kd:Ξ}{ps:Λ}{w:Nat}{P:qi Pc}{x:Φ}(h:yap a H d n kd ps w P)(t:To P x L):∀y,y∈L->Sgs y.2/\y.2.length<=w:=by
 cases x with
 |none=>intro y c;rw[show L=[]from t]at c;cases c
 |some b =>
  let⟨r,f,_,e⟩:=t;let⟨g,i,_,j⟩:=h.sz r f;intro y c;rw[e]at c;rcases bP.mp c with z|z
  .exact j y z
  .rw[bF.mp z];exists g,i
def To.at'{P:qi Pc}(wf:∀q,q∈P->To P q.bs q.path){x:Φ}(t:To P x L)(hj:j<L.length):∃r,r∈P/\L[j]=(r.nm,r.tx)/\r.path=L.take j/\To P (some r.nm) (L.take (j+1)):=by
 have h:L=L.take j++[(L[j].1,L[j].2)]++L.drop (j+1):=by
  rw[cz,List.singleton_append,<- cR hj,List.take_append_drop]
 rw[h]at t;have d:=To.pre wf _ (bn _) t;let⟨r,e,c,g⟩:=id d;let⟨b,a⟩:=List.append_inj' g rfl
 cases r with|mk nm bs path tx ob od dl =>
 simp only at c b a;subst c;have f:L[j].2=tx:=by cases a;rfl
 exists _,e,?_,b.symm,?_
 .show L[j]=(L[j].1,tx);rw[<- f]
 .rw[bL hj];exact d
def To.nms{P:qi Pc}(wf:∀q,q∈P->To P q.bs q.path){x:Φ}(t:To P x L){y:Str×qi Int}(hy:y∈L):∃r,r∈P/\r.nm=y.1:=by let⟨j,c,e⟩:=List.mem_iff_getElem.mp hy;let⟨r,a,b,_⟩:=t.at' wf c;exists r,a,by rw[<- e,b]
def To.ok{H:Hp}{d:x0}{n:Nat}{kd:Ξ}{ps:Λ}{w:Nat}{P:qi Pc}{x:Φ}(h:yap a H d n kd ps w P)(t:To P x L):∀y,y∈L.map (·.1)->PyData.strOk y=true:=λy f=>by
 let⟨u,b,rfl⟩:=br.mp f;let⟨r,c,e⟩:=t.nms h.wf b;rw[<- e];exact(h.nm r c).2
def â(L:Η):nmL L=(L.map (·.1)).map V.str:=by unfold nmL;rw[bS];rfl
def ø(L:Η)(k:Nat):(nmL L).take k=nmL (L.take k):=by unfold nmL;rw[List.map_take]
def υ(L:Η):(nmL L).length=L.length:=bf _
def yoe(h:L.map (·.1)=M.map (·.1)):nmL L=nmL M:=by rw[â,â,h]
theorem yem{w:Nat}:∀L:qi (Ρ),(∀x,x∈L->x.length<=w)->(Ú L).length<=L.length*(9*w+1)
 |[],_=>bK _
 |t::L,h=>by
  have e:Ú (t::L)=dec t++Ú L:=rfl;have c:=h t bO;have d:=yem L λx a=>h x (bN _ a);have b:=xl t;rw[e,bq,bX,Nat.succ_mul];omega
def txi(L:Η)(i:Nat):Ρ:=(L.map (·.2)).getD i []
def mOf(L:Η):Nat:=6+6*(Ú (L.map (·.2))).length
def NK(H:Hp)(ks ks':Υ):Prop:=∀q,V.ref q∈ks'->V.ref q∈ks\/H q=none
def NK.refl{H:Hp}{ks:Υ}:NK H ks ks:=λZ h=>.inl h
def NK.nil{H:Hp}{ks:Υ}:NK H ks []:=λZ h=>nomatch h
def NK.trans{H H1:Hp}{k1 k2 k3:Υ}(h:NK H k1 k2)(g:NK H1 k2 k3)(f:∀q,H1 q=none->H q=none):NK H k1 k3:=λq a=>(g q a).elim (h q) λz=>.inr (f q z)
def NK.app{H:Hp}{ks ks':Υ}{v:V}(h:NK H ks ks')(g:∀q,v=.ref q->H q=none):NK H ks (ks'++[v]):=λq a=>(bP.mp a).elim (h q) λz=>.inr (g q (bF.mp z).symm)
def StW(c cl ct:x0)(U:Ν):Ν:=λx=>x=c\/ChW cl ct U x
structure jl(K:xr)(a:Ads)(H:Hp)(st ds ll d c dc p cl ct:x0)(lk tp:Μ)(n:Nat)(kd:Ξ)(ps:Λ)(mo w:Nat)(P:qi Pc)(L:Η)(ks:Υ)(U:Ν):Prop where
 me:H st=some (.ins a.A0 ds (xj (.ref ll) (.int mo) (.ref d) (.ref c)))
 n1:1<=n
 n6:n<=6
 lo:H ll=some (.lst (refs lk n))
 row:ux H n lk kd tp ps
 pz:yap a H d n kd ps w P
 ch:Ã K a H c dc p cl ct n kd ps L ks (mOf L) U
 nw:∀x,(x=st\/x=ll\/x=d\/∃q,q∈P/\(x=q.ob\/x=q.dl))->¬StW c cl ct U x
 mo1:mo<=1000
 wm:w<=mo/\w<=200
 way:∃x,To P x L
def Ã.but{H H':Hp}{c ll:x0}{n:Nat}{kd:Ξ}{ps:Λ}{ks:Υ}{M:Nat}{W:Ν}(h:Ã K a H c dc p ll tl n kd ps L ks M W){C:x0}{fs:Ι}(hq:H q=some (.ins C dq fs))(nq:¬StW c ll tl W q)(B:But q H H'):Ã K a H' c dc p ll tl n kd ps L ks M W:=by
 have b:∀{x:x0}{d:Υ},H x=some (.lst d)->x≠q:=λ{x d}e z=>by rw[z,hq]at e;cases e
 exists B _ _ h.me λz=>nq (.inl z.symm),h.fz.frame (W2:=λx=>x=q) (λx z=>⟨.ins C dq fs,by rw[show x=q from z];exact hq,.inl rfl⟩) (λx w z=>nq (.inr (.inr (.inr (by rw[<- show x=q from z];exact w))))) (λx o e f=>B x o e f),B _ _ h.hl (b h.hl),B _ _ h.ht (b h.ht),h.tx.mono λx d e g=>⟨B _ _ e (b e),g⟩,h.nc,h.nll,h.ntl,h.ne
def yd6(L:Η)(x:Str)(t:Ρ):mOf (L++[(x,t)])=mOf L+6*(dec t).length:=by unfold mOf;rw[bH,show List.map (λx:Str×qi Int=>x.2) [(x,t)]=[t]from rfl,Ė,bq];omega
def yj6{w:Nat}(h:∀y,y∈L->y.2.length<=w)(hw:w<=200)(hl:L.length<=61):mOf L<=660000:=by
 have a:=yem (w:=w) (L.map (·.2)) λx b=>by
  let⟨y,c,rfl⟩:=br.mp b;exact h y c
 rw[bf]at a;have d:L.length*(9*w+1)<=61*1801:=Nat.mul_le_mul hl (by omega);unfold mOf;omega
def StO(st c cl ct:x0)(U:Ν):Ν:=λy=>y=st\/StW c cl ct U y
def Go.or{W Y:Ν}{H H':Hp}(g:Go W H H' W'):Go (λx=>Y x\/W x) H H' (λx=>Y x\/W' x) :=
 ⟨λc o e a=>g.fr c o e λw=>a (.inr w),λc w=>w.elim (λy=>.inl (.inl y)) λw=>(g.nw c w).imp .inr id,g.lv⟩
def Ã.noTup{H:Hp}{c ll:x0}{n:Nat}{kd:Ξ}{ps:Λ}{ks:Υ}{M:Nat}{W:Ν}(h:Ã K a H c dc p ll tl n kd ps L ks M W){x:x0}{xs:Υ}(e:H x=some (.tup xs)):¬StW c ll tl W x:=λw=>by
 rcases w with z|z|z|z
 .rw[z,h.me]at e;cases e
 .rw[z,h.hl]at e;cases e
 .rw[z,h.ht]at e;cases e
 .exact h.fz.sh.tup e z
theorem Ã.same{H H':Hp}{c ll:x0}{n:Nat}{kd:Ξ}{ps:Λ}{ks:Υ}{M:Nat}{W:Ν}(h:Ã K a H c dc p ll tl n kd ps L ks M W)(S:yv H H'):Ã K a H' c dc p ll tl n kd ps L ks M W :=
 ⟨S _ _ h.me,h.fz.same S,S _ _ h.hl,S _ _ h.ht,h.tx.mono λZ Z e b=>⟨S _ _ e,b⟩,h.nc,h.nll,h.ntl,h.ne⟩
def yap.fr{H H':Hp}{d:x0}{n:Nat}{kd:Ξ}{ps:Λ}{w:Nat}{P:qi Pc}(h:yap a H d n kd ps w P)(f:∀x o,H x=some o->(x=d\/∃q,q∈P/\(x=q.ob\/x=q.dl))->H' x=some o):yap a H' d n kd ps w P :=
 ⟨f _ _ h.dk (.inl rfl),λq b=>⟨f _ _ (h.ob q b).1 (.inr ⟨q,b,.inl rfl⟩),f _ _ (h.ob q b).2 (.inr ⟨q,b,.inr rfl⟩)⟩,h.nd,h.wf,h.sz,h.z,h.nm⟩
def ux.fr{H H':Hp}{n:Nat}{lk:Μ}{kd:Ξ}{ps:Λ}(h:ux H n lk kd tp ps)(f:∀x xs,H x=some (.tup xs)->H' x=some (.tup xs)):ux H' n lk kd tp ps:=λi a=>by
 let⟨q,e,c,d,b⟩:=h i a;exists q,e,f _ _ c,f _ _ d,b
section
variable{H H':Hp}{st ll d c ct:x0}{lk:Μ}{n:Nat}{kd:Ξ}{ps:Λ}{mo w:Nat}{P:qi Pc}{ks:Υ}
theorem jl.same(h:jl K a H st ds ll d c dc p cl ct lk tp n kd ps mo w P L ks U)(S:yv H H'):jl K a H' st ds ll d c dc p cl ct lk tp n kd ps mo w P L ks U :=
 ⟨S _ _ h.me,h.n1,h.n6,S _ _ h.lo,h.row.same S,h.pz.same S,h.ch.same S,h.nw,h.mo1,h.wm,h.way⟩
def jl.lv(h:jl K a H st ds ll d c dc p cl ct lk tp n kd ps mo w P L ks U):∀x,(x=st\/x=ll\/x=d\/∃q,q∈P/\(x=q.ob\/x=q.dl))->∃o,H x=some o:=λx e=>by
 rcases e with z|z|z|⟨q,b,z|z⟩
 .exists _,by rw[z];exact h.me
 .exists _,by rw[z];exact h.lo
 .exists _,by rw[z];exact h.pz.dk
 .exists _,by rw[z];exact(h.pz.ob q b).1
 .exists _,by rw[z];exact(h.pz.ob q b).2
def jl.lvO(h:jl K a H st ds ll d c dc p cl ct lk tp n kd ps mo w P L ks U):∀x,StO st c cl ct U x->∃o,H x=some o:=λx b=>by
 rcases b with z|z|z|z|z
 .exists _,by rw[z];exact h.me
 .exists _,by rw[z];exact h.ch.me
 .exists _,by rw[z];exact h.ch.hl
 .exists _,by rw[z];exact h.ch.ht
 .exact h.ch.fz.live x z
def jl.go(h:jl K a H st ds ll d c dc p cl ct lk tp n kd ps mo w P L ks U){ks':Υ}(hc:Ã K a H' c dc p cl ct n kd ps M ks' (mOf M) U')(g:Go (ChW cl ct U) H H' (ChW cl ct U'))(way:∃x,To P x M):jl K a H' st ds ll d c dc p cl ct lk tp n kd ps mo w P M ks' U'/\Go (StO st c cl ct U) H H' (StO st c cl ct U'):=by have g1:Go (StW c cl ct U) H H' (StW c cl ct U'):=g.or (Y:=λx=>x=c);have f:∀x o,H x=some o->(x=st\/x=ll\/x=d\/∃q,q∈P/\(x=q.ob\/x=q.dl))->H' x=some o:=λx o e b=>g1.fr x o e (h.nw x b);exists⟨f _ _ h.me (.inl rfl),h.n1,h.n6,f _ _ h.lo (.inr (.inl rfl)),h.row.fr λx i e=>g1.fr _ _ e (h.ch.noTup e),h.pz.fr λx o e z=>f x o e (.inr (.inr z)),hc,g1.apart (λx b=>h.lv x b) h.nw,h.mo1,h.wm,way⟩,g1.or (Y:=λx=>x=st)
structure StB(a:Ads)(H:Hp)(st ds ll d:x0)(vc:V)(lk tp:Μ)(n:Nat)(kd:Ξ)(ps:Λ)(mo w:Nat)(P:qi Pc):Prop where
 me:H st=some (.ins a.A0 ds (xj (.ref ll) (.int mo) (.ref d) vc))
 n1:1<=n
 n6:n<=6
 lo:H ll=some (.lst (refs lk n))
 row:ux H n lk kd tp ps
 pz:yap a H d n kd ps w P
 mo1:mo<=1000
 wm:w<=mo/\w<=200
def jl.b(h:jl K a H st ds ll d c dc p cl ct lk tp n kd ps mo w P L ks U):StB a H st ds ll d (.ref c) lk tp n kd ps mo w P:=⟨h.me,h.n1,h.n6,h.lo,h.row,h.pz,h.mo1,h.wm⟩
def StB.lv{vc:V}(h:StB a H st ds ll d vc lk tp n kd ps mo w P):∀x,(x=st\/x=ll\/x=d\/∃q,q∈P/\(x=q.ob\/x=q.dl))->∃o,H x=some o:=λx c=>by
 rcases c with z|z|z|⟨q,b,z|z⟩
 .exists _,by rw[z];exact h.me
 .exists _,by rw[z];exact h.lo
 .exists _,by rw[z];exact h.pz.dk
 .exists _,by rw[z];exact(h.pz.ob q b).1
 .exists _,by rw[z];exact(h.pz.ob q b).2
def Go.wide{W:Ν}(g:Go W H H' W')(f:∀x,W x->W2 x):Go W2 H H' W':=⟨λc o e a=>g.fr c o e λw=>a (f c w),λc w=>(g.nw c w).imp (f c) id,g.lv⟩
def StB.re{vc:V}(h:StB a H st ds ll d vc lk tp n kd ps mo w P){dc' p':x0}{HE:Hp}(nc:H c'=none)(ndc:H dc'=none)(hch:Ã K a HE c' dc' p' cl' ct' n kd ps [] [] 6 U')(hnew:∀x,ChW cl' ct' U' x->(upd (upd H dc' (.own c')) c' (.ins a.A1 dc' [])) x=none)(BE:But c' (upd (upd H dc' (.own c')) c' (.ins a.A1 dc' [])) HE):
  jl K a (upd HE st (.ins a.A0 ds (xj (.ref ll) (.int mo) (.ref d) (.ref c')))) st ds ll d c' dc' p' cl' ct' lk tp n kd ps mo w P [] [] U'/\Go (λy=>y=st) H (upd HE st (.ins a.A0 ds (xj (.ref ll) (.int mo) (.ref d) (.ref c')))) (StO st c' cl' ct' U')/\yv H HE/\∀x,StW c' cl' ct' U' x->H x=none:=by
 have m:yv H (upd (upd H dc' (.own c')) c' (.ins a.A1 dc' [])):=λb o e=>by rw[yk (yb e nc),yk (yb e ndc)];exact e
 have f:yv H HE:=λb o e=>BE _ _ (m _ _ e) (yb e nc)
 have j:∀x,StW c' cl' ct' U' x->H x=none:=λx w=>by
  rcases w with z|z
  .rw[z];exact nc
  .exact m.free (hnew x z)
 have g:∀{x:x0}{o:HO},H x=some o->¬StW c' cl' ct' U' x:=λ{x o}e w=>by rw[j x w]at e;cases e
 have c:=h.me;have l:∀{x:x0}{k:Υ},H x=some (.lst k)->x≠st:=λ{x k}e z=>by rw[z,c]at e;cases e
 exists⟨ya,h.n1,h.n6,yf (l h.lo) (f _ _ h.lo),h.row.fr λx k e=>yf (λz=>by rw[z,c]at e;cases e) (f _ _ e),⟨yf (λz=>?_) (f _ _ h.pz.dk),λq i=>⟨yf (λz=>?_) (f _ _ (h.pz.ob q i).1),yf (l (h.pz.ob q i).2) (f _ _ (h.pz.ob q i).2)⟩,h.pz.nd,h.pz.wf,h.pz.sz,h.pz.z,h.pz.nm⟩,hch.but (f _ _ c) (g c) But.upd,λx p=>?_,h.mo1,h.wm,⟨none,rfl⟩⟩,⟨λx o e s=>yf s (f _ _ e),λx w=>?_,λx o e=>?_⟩,f,j
 .have e:=h.pz.dk;rw[z,c]at e;cases e
 .have e:=(h.pz.ob q i).1;rw[z,c]at e;injection e with e;injection e with _ _ e;have r:=congrArg List.length e;exact absurd (show (4:Nat)=2 from r) (by decide)
 .obtain⟨o,e⟩:=h.lv x p;exact g e
 .rcases w with z|z
  .exact .inl z
  .exact .inr (j x z)
 .by_cases z:x=st
  .exists _,by rw[z];exact ya
  .exists o,yf z (f _ _ e)
theorem jl.re(h:jl K a H st ds ll d c dc p cl ct lk tp n kd ps mo w P L ks U){dc' p':x0}{HE:Hp}(nc:H c'=none)(ndc:H dc'=none)(hch:Ã K a HE c' dc' p' cl' ct' n kd ps [] [] 6 U')(hnew:∀x,ChW cl' ct' U' x->(upd (upd H dc' (.own c')) c' (.ins a.A1 dc' [])) x=none)(BE:But c' (upd (upd H dc' (.own c')) c' (.ins a.A1 dc' [])) HE):
  jl K a (upd HE st (.ins a.A0 ds (xj (.ref ll) (.int mo) (.ref d) (.ref c')))) st ds ll d c' dc' p' cl' ct' lk tp n kd ps mo w P [] [] U'/\Go (StO st c cl ct U) H (upd HE st (.ins a.A0 ds (xj (.ref ll) (.int mo) (.ref d) (.ref c')))) (StO st c' cl' ct' U')/\yv H HE/\∀x,StW c' cl' ct' U' x->H x=none:=by let⟨f,g,e⟩:=h.b.re nc ndc hch hnew BE;exists f,g.wide λZ z=>.inl z,e
def To.less{b:Str}{x:Φ}(h:To P x M)(hx:x≠some b):To (P.filter λq=>decide (q.nm≠b)) x M:=by
 cases x with
 |none=>exact h
 |some y =>
  let⟨r,c,a,d⟩:=h;exists r,cB.mpr ⟨c,bv λz=>hx ?_⟩,a,d;rw[<- a,z]
def ymr(b:Str):∀P:qi Pc,Ø (pcs P) (.inr b)=pcs (P.filter λq=>decide (q.nm≠b)):=λP=>by
 unfold Ø pcs;rw[List.filter_map]
 congr 1
 refine List.filter_congr λq Z=>?_;by_cases e:q.nm=b
 .simp[e]
 .simp[e]
def StB.drop{vc:V}(h:StB a H st ds ll d vc lk tp n kd ps mo w P){b:Str}(hb:∀q,q∈P->q.bs≠some b):StB a (upd H d (.dK (Ø (pcs P) (.inr b)))) st ds ll d vc lk tp n kd ps mo w (P.filter λq=>decide (q.nm≠b)):=by
 have j:=h.pz.dk;have f:∀{x:x0}{o:HO},H x=some o->o≠.dK (pcs P)->(upd H d (.dK (Ø (pcs P) (.inr b)))) x=some o:=λ{x o}e i=>yf (λz=>by rw[z,j]at e;cases e;exact i rfl) e;have g:∀{q:Pc},q∈(P.filter λq=>decide (q.nm≠b))->q∈P:=λc=>(cB.mp c).1
 exists f h.me (λz=>nomatch z),h.n1,h.n6,f h.lo (λz=>nomatch z),h.row.fr λx k e=>f e (λz=>nomatch z),⟨by rw[<- ymr];exact ya,λq c=>⟨f (h.pz.ob q (g c)).1 (λz=>nomatch z),f (h.pz.ob q (g c)).2 (λz=>nomatch z)⟩,h.pz.nd.sublist (List.filter_sublist.map _),λq c=>(h.pz.wf q (g c)).less (hb q (g c)),λq c=>h.pz.sz q (g c),bQ (List.length_filter_le _ _) h.pz.z,λq c=>h.pz.nm q (g c)⟩,h.mo1,h.wm
end
def ifI{tc:TT}{ts te:TS}{D:Ă}{σ:St}{H:Hp}(C:Prop)(h:∀Qb:Bool->Hp->Prop,(C->Qb true H)->Qb false H->tc σ H Qb)(hT:C->ts D σ H)(hF:te D σ H):vct tc ts te D σ H :=
 h _ (λc=>by show (if true=true then _ else _);rw[if_pos rfl];exact hT c) (by show (if false=true then _ else _);rw[if_neg (by decide)];exact hF)
structure Pd where
 nm:Str
 bs:Φ
 path:Η
 tx:Ρ
def Pc.pd(q:Pc):Pd:=⟨q.nm,q.bs,q.path,q.tx⟩
structure Cf where
 n:Nat
 kd:Ξ
 ps:Λ
 mo:Nat
 w:Nat
def Pd.by(C:Cf)(q:Pd):Ρ:=δ C.n C.kd C.ps (Ú (q.path.map (·.2))) q.tx
def ToD(P:qi Pd):qj Str->qi (Str×qi Int)->Prop
 |none,L=>L=[]
 |some b,L=>∃r,r∈P/\r.nm=b/\L=r.path++[(b,r.tx)]
def ĝ{Q:qi Pc}{x:Φ}:ToD (Q.map Pc.pd) x L↔To Q x L:=by
 cases x with
 |none=>exact Iff.rfl
 |some b =>
  exists λ⟨r,a,e⟩=>?_,λ⟨r,a,e⟩=>⟨_,br.mpr ⟨r,a,rfl⟩,e⟩;let⟨q,c,rfl⟩:=br.mp a;exact⟨q,c,e⟩
def okN(x:Str):Prop:=nmS x=true/\PyData.strOk x=true
def WD(d st c cl ct:x0)(U:Ν):Ν:=λy=>y=d\/StO st c cl ct U y
structure Sx where
 w:Ν
 f:Ν
def vc0(d st c cl ct:x0)(U:Ν)(ll:x0)(Q:qi Pc)(ks:Υ):Sx :=
 ⟨WD d st c cl ct U,λy=>WD d st c cl ct U y\/y=ll\/(∃q,q∈Q/\(y=q.ob\/y=q.dl))\/V.ref y∈ks⟩
inductive Sto(K:xr)(a:Ads)(H:Hp)(st:x0)(C:Cf)(P:qi Pd)(X:Sx):Prop
 |mk(ds ll d c dc p cl ct:x0)(lk tp:Μ)(Q:qi Pc)(L:Η)(ks:Υ)(U:Ν)(s:jl K a H st ds ll d c dc p cl ct lk tp C.n C.kd C.ps C.mo C.w Q L ks U)(e:Q.map Pc.pd=P)(x:X=vc0 d st c cl ct U ll Q ks)
structure Gx(X:Sx)(H H':Hp)(Y:Sx):Prop where
 g:Go X.w H H' Y.w
 f:∀y,Y.f y->X.f y\/H y=none
theorem Gx.same{X Y:Sx}{H H1 H2:Hp}(h:Gx X H H1 Y)(S:yv H1 H2):Gx X H H2 Y:=⟨h.g.same S,h.f⟩
theorem Gx.ahead{X Y:Sx}{H H1 H2:Hp}(S:yv H H1)(h:Gx X H1 H2 Y):Gx X H H2 Y:=⟨h.g.ahead S,λy w=>(h.f y w).imp id S.free⟩
theorem Gx.trans{X Y Z:Sx}{H H1 H2:Hp}(h:Gx X H H1 Y)(k:Gx Y H1 H2 Z):Gx X H H2 Z:=⟨h.g.trans k.g,λy w=>(k.f y w).elim (h.f y) λe=>.inr (h.g.free e)⟩
def Kf(H:Hp)(X:Sx)(x:x0)(o:HO):Prop:=H x=some o/\¬X.f x
section
variable{B H H':Hp}{st:x0}{C:Cf}{P:qi Pd}{X Y:Sx}
theorem Sto.same(h:Sto K a H st C P X)(S:yv H H'):Sto K a H' st C P X:=by let⟨f,i,d,c,b,p,g,l,j,m,Q,L,k,U,s,e,x⟩:=h;exists f,i,d,c,b,p,g,l,j,m,Q,L,k,U,s.same S,e,x
def Sto.live(h:Sto K a H st C P X):∀y,X.f y->∃o,H y=some o:=λy g=>by
 let⟨j,n,d,c,i,p,k,t,m,u,Q,L,r,U,s,rfl,rfl⟩:=h;rcases g with(z|z)|z|⟨q,b,z⟩|z
 .exists _,by rw[z];exact s.pz.dk
 .exact s.lvO y z
 .exists _,by rw[z];exact s.lo
 .exact s.lv y (.inr (.inr (.inr ⟨q,b,z⟩)))
 .rcases s.ch.tx.mem _ z with e|⟨q,l,e,b,_⟩
  .cases e
  .cases e;exists _,b
def Sto.wf(h:Sto K a H st C P X):∀y,X.w y->X.f y:=λy b=>by
 let⟨g,j,d,c,e,p,i,m,k,n,Q,L,l,U,s,rfl,rfl⟩:=h;exact .inl b
theorem Sto.ins(h:Sto K a H st C P X):∃ds vl vm vp vc,H st=some (.ins a.A0 ds (xj vl vm vp vc)):=by let⟨ds,g,d,c,b,p,e,j,f,k,Q,L,i,U,s,rfl,rfl⟩:=h;exists _,_,_,_,_,s.me
def vds(Q:qi Pc):(Q.map Pc.pd).map (·.nm)=Q.map (·.nm):=by rw[bS];rfl
theorem Sto.nd(h:Sto K a H st C P X):(P.map (·.nm)).Nodup:=by let⟨e,g,d,c,b,p,f,k,i,l,Q,L,j,U,s,rfl,rfl⟩:=h;rw[vds];exact s.pz.nd
theorem Sto.z(h:Sto K a H st C P X):P.length<=60:=by let⟨e,g,d,c,b,p,f,k,i,l,Q,L,j,U,s,rfl,rfl⟩:=h;rw[bf];exact s.pz.z
theorem Sto.nm(h:Sto K a H st C P X):∀q,q∈P->okN q.nm:=λq e=>by
 let⟨g,k,d,c,f,p,i,m,j,n,Q,L,l,U,s,rfl,rfl⟩:=h;let⟨r,b,rfl⟩:=br.mp e;exact s.pz.nm r b
def Sto.to(h:Sto K a H st C P X):∀q,q∈P->ToD P q.bs q.path:=λq e=>by
 let⟨g,k,d,c,f,p,i,m,j,n,Q,L,l,U,s,rfl,rfl⟩:=h;let⟨r,b,rfl⟩:=br.mp e;exact ĝ.mpr (s.pz.wf r b)
theorem Sto.sz(h:Sto K a H st C P X):∀q,q∈P->Sgs q.tx/\q.tx.length<=C.w/\q.path.length<=60/\(∀x,x∈q.path->Sgs x.2/\x.2.length<=C.w):=λq e=>by
 let⟨g,k,d,c,f,p,i,m,j,n,Q,L,l,U,s,rfl,rfl⟩:=h;let⟨r,b,rfl⟩:=br.mp e;exact s.pz.sz r b
def Sto.cf(h:Sto K a H st C P X):1<=C.n/\C.n<=6/\C.mo<=1000/\C.w<=C.mo/\C.w<=200:=by let⟨e,g,d,c,b,p,f,k,i,l,Q,L,j,U,s,rfl,rfl⟩:=h;exists s.n1,s.n6,s.mo1,s.wm.1,s.wm.2
theorem Sto.sh(h:Sto K a H st C P X):WSh H X.w:=λy g=>by
 let⟨k,n,d,c,j,p,l,r,m,t,Q,L,o,U,s,rfl,rfl⟩:=h;rcases g with z|z|z|z|z|z
 .exists _,by rw[z];exact s.pz.dk,.inl rfl
 .exists _,by rw[z];exact s.me,.inl rfl
 .exists _,by rw[z];exact s.ch.me,.inl rfl
 .exists _,by rw[z];exact s.ch.hl,.inr ⟨_,rfl,λv b=>?_⟩
  let⟨u,_,e⟩:=br.mp b;exact .inl ⟨u.1,e.symm⟩
 .exists _,by rw[z];exact s.ch.ht,.inr ⟨_,rfl,λv b=>.inr ?_⟩
  exact(s.ch.tx.mem v b).imp id λ⟨q,i,e,f,_⟩=>⟨q,e,.inl ⟨i,f⟩⟩
 .exact s.ch.fz.sh y z
theorem Sto.frame(h:Sto K a H st C P X)(sh:WSh H W2)(dj:∀y,X.f y->¬W2 y)(fr:∀y o,H y=some o->¬W2 y->H' y=some o):Sto K a H' st C P X:=by
 let⟨u,n,d,c,t,p,g,i,B,F,Q,L,l,U,s,rfl,rfl⟩:=h;have f:∀{y:x0}{o:HO},H y=some o->(vc0 d st c g i U n Q l).f y->H' y=some o:=λ{y o}e w=>fr y o e (dj y w);exists u,n,d,c,t,p,g,i,B,F,Q,L,l,U,⟨f s.me (.inl (.inr (.inl rfl))),s.n1,s.n6,f s.lo (.inr (.inl rfl)),s.row.fr λy G e=>fr _ _ e (sh.tup e),s.pz.fr λy o e z=>f e (z.elim (λz=>.inl (.inl z)) λz=>.inr (.inr (.inl z))),⟨f s.ch.me (.inl (.inr (.inr (.inl rfl)))),s.ch.fz.frame sh (λy w=>dj y (.inl (.inr (.inr (.inr (.inr (.inr w))))))) fr,f s.ch.hl (.inl (.inr (.inr (.inr (.inl rfl))))),f s.ch.ht (.inl (.inr (.inr (.inr (.inr (.inl rfl)))))),?_,s.ch.nc,s.ch.nll,s.ch.ntl,s.ch.ne⟩,s.nw,s.mo1,s.wm,s.way⟩,rfl,rfl
 have j:∀{L:Η}{b:Υ},(∀v,v∈b->v∈l)->yb7 H (ChW g i U) L b->yb7 H' (ChW g i U) L b:=by
  intro L
  induction L with
  |nil=>intro b _ h;exact h
  |cons y r ih =>
   rintro b m ⟨k,E,rfl,z,h⟩;exists k,E,rfl,z.imp id λ⟨q,e,x,D⟩=>⟨q,e,f x (.inr (.inr (.inr ?_))),D⟩,ih (λv A=>m v (bN _ A)) h;rw[<- e];exact m _ bO
 exact j (λZ h=>h) s.ch.tx
def Sto.but(h:Sto K a H st C P X)(sh:WSh H λz=>z=y)(ny:¬X.f y)(b:But y H H'):Sto K a H' st C P X :=
 h.frame sh (λz w e=>ny (by rw[<- e];exact w)) λz o e c=>b z o e c
def WSh.mu{o:HO}(e:H y=some o)(ho:ywa o=true):WSh H λz=>z=y:=λz w=>⟨o,by rw[w];exact e,.inl ho⟩
def WSh.ls{xs:Υ}(e:H y=some (.lst xs))(hx:∀x∈xs,(∃s,x=V.str s)\/x=V.non\/∃q,x=V.ref q/\ve0 (H q)):WSh H λz=>z=y:=λz w=>⟨_,by rw[w];exact e,.inr ⟨xs,rfl,hx⟩⟩
def Kf.go{x:x0}{o:HO}(h:Kf H X x o)(s:Sto K a H st C P X)(g:Gx X H H' Y):Kf H' Y x o :=
 ⟨g.g.fr _ _ h.1 λw=>h.2 (s.wf _ w),λw=>(g.f x w).elim h.2 λe=>by rw[h.1]at e;cases e⟩
def Kf.same{x:x0}{o:HO}(h:Kf H X x o)(S:yv H H'):Kf H' X x o:=⟨S _ _ h.1,h.2⟩
def Kf.new{x:x0}{o:HO}(s:Sto K a H st C P X)(hx:H x=none)(e:H' x=some o):Kf H' X x o:=⟨e,λw=>by
 let⟨c,b⟩:=s.live x w;rw[hx]at b;cases b⟩
def Kf.but{x:x0}{o:HO}(h:Kf H X x o)(ne:x≠y)(b:But y H H'):Kf H' X x o:=⟨b _ _ h.1 ne,h.2⟩
def Gx.bs(s:Sto K a H st C P X)(g:Gx X H H' Y)(S:yv B H)(nb:∀y,X.f y->B y=none):yv B H'/\∀y,Y.f y->B y=none :=
 ⟨λy o e=>g.g.fr _ _ (S _ _ e) (λw=>by rw[nb y (s.wf y w)]at e;cases e),λy w=>(g.f y w).elim (nb y) S.free⟩
def Gx.of{d c ct ll:x0}{Q Q':qi Pc}{ks ks':Υ}(g:Go (WD d st c cl ct U) H H' (WD d st c' cl' ct' U'))(nk:NK H ks ks')(hq:∀q,q∈Q'->q∈Q\/(H q.ob=none/\H q.dl=none)):Gx (vc0 d st c cl ct U ll Q ks) H H' (vc0 d st c' cl' ct' U' ll Q' ks'):=by
 exists g,λy w=>?_;rcases w with z|z|⟨q,h,z⟩|z
 .exact(g.nw y z).imp .inl id
 .exact .inl (.inr (.inl z))
 .rcases hq q h with a|⟨b,e⟩
  .exact .inl (.inr (.inr (.inl ⟨q,a,z⟩)))
  .rcases z with z|z
   .rw[z];exact .inr b
   .rw[z];exact .inr e
 .exact(nk y z).imp (λz=>.inr (.inr (.inr z))) id
end
def Ĩ{P:qi Pd}{q r:Pd}(hn:(P.map (·.nm)).Nodup)(hq:q∈P)(hr:r∈P)(e:q.nm=r.nm):q=r:=vcg hn hq hr e
def ToD.uniq{P:qi Pd}{x:Φ}(hn:(P.map (·.nm)).Nodup)(h:ToD P x L)(g:ToD P x M):L=M:=by
 cases x with
 |none=>rw[show L=[]from h,show M=[]from g]
 |some b =>
  let⟨r,a,i,f⟩:=h;let⟨q,d,e,c⟩:=g;obtain rfl:=Ĩ hn a d (i.trans e.symm);rw[f,c]
theorem ģ{α:Type}[DecidableEq α]:∀{l m:qi α},l.Nodup->(∀x,x∈l->x∈m)->l.length<=m.length
 |[],_,_,_=>bK _
 |x::l,m,hn,h=>by
  have a:=cK.mp hn;have b:=h x bO;have d:l.length<=(m.erase x).length:=ģ a.2 λy c=>(List.mem_erase_of_ne (λe=>a.1 (by rw[<- e];exact c))).mpr (h y (bN _ c));rw[List.length_erase_of_mem b]at d;have:=List.length_pos_of_mem b;rw[bX];omega
def Pd.pc(q:Pd):Pc:=⟨q.nm,q.bs,q.path,q.tx,0,0,0⟩
def vcp(P:qi Pd):(P.map Pd.pc).map Pc.pd=P:=by rw[bS];exact List.map_id _
structure PdW(P:qi Pd):Prop where
 nd:(P.map (·.nm)).Nodup
 wf:∀q,q∈P->ToD P q.bs q.path
theorem ToD.pc{P:qi Pd}{x:Φ}(h:ToD P x L):To (P.map Pd.pc) x L:=ĝ.mp (by rw[vcp];exact h)
theorem ToD.at{P:qi Pd}(w:PdW P){x:Φ}(t:ToD P x L)(hj:j<L.length):∃r,r∈P/\L[j]=(r.nm,r.tx)/\r.path=L.take j/\ToD P (some r.nm) (L.take (j+1)):=by
 let⟨r,c,e,f,b⟩:=To.at' (λq d=>by
  let⟨u,a,rfl⟩:=br.mp d;exact(w.wf u a).pc) t.pc hj
 let⟨u,a,rfl⟩:=br.mp c;exists u,a,e,f,?_;have:=ĝ.mpr b;rw[vcp]at this;exact this
def ToD.len{P:qi Pd}(w:PdW P){x:Φ}(t:ToD P x L):L.length<=P.length:=by
 have h:=ģ (l:=L.map (·.1)) (m:=P.map (·.nm)) ?_ ?_
 .rw[bf,bf]at h;exact h
 .refine List.pairwise_iff_getElem.mpr λi j f a k e=>?_;rw[bf]at f a;rw[cL,cL]at e;let⟨r,b,c,d,_⟩:=t.at w f;let⟨u,g,g1,g2,_⟩:=t.at w a;rw[c,g1]at e;have:=Ĩ w.nd b g e;rw[this,g2]at d;have p:=congrArg List.length d;rw[bI,bI]at p;omega
 .intro y n;let⟨z,o,rfl⟩:=br.mp n;let⟨j,a,rfl⟩:=List.mem_iff_getElem.mp o;let⟨r,b,c,_⟩:=t.at w a;rw[c];exact br.mpr ⟨r,b,rfl⟩
def Sto.pw{H:Hp}{st:x0}{C:Cf}{P:qi Pd}{X:Sx}(h:Sto K a H st C P X):PdW P:=⟨h.nd,h.to⟩
structure Bs(B H:Hp)(X:Sx):Prop where
 s:yv B H
 n:∀y,X.f y->B y=none
def Bs.same{B H H':Hp}{X:Sx}(h:Bs B H X)(S:yv H H'):Bs B H' X:=⟨h.s.trans S,h.n⟩
def Bs.go{B H H':Hp}{st:x0}{C:Cf}{P:qi Pd}{X Y:Sx}(h:Bs B H X)(s:Sto K a H st C P X)(g:Gx X H H' Y):Bs B H' Y:=⟨(g.bs s h.s h.n).1,(g.bs s h.s h.n).2⟩
def Bs.but{B H H':Hp}{X:Sx}(h:Bs B H X)(ny:B y=none)(b:But y H H'):Bs B H' X:=⟨λx o e=>b _ _ (h.s _ _ e) (yb e ny),h.n⟩
def Sto.ntup{H:Hp}{st:x0}{C:Cf}{P:qi Pd}{X:Sx}(h:Sto K a H st C P X){x:x0}{xs:Υ}(e:H x=some (.tup xs)):¬X.f x:=λw=>by
 have i:=h.sh;let⟨k,o,d,c,j,p,l,t,n,u,Q,L,r,U,s,rfl,rfl⟩:=h;rcases w with z|z|⟨q,b,z|z⟩|z
 .exact i.tup e z
 .rw[z,s.lo]at e;cases e
 .rw[z,(s.pz.ob q b).1]at e;cases e
 .rw[z,(s.pz.ob q b).2]at e;cases e
 .rcases s.ch.tx.mem _ z with g|⟨q,m,g,b,_⟩
  .cases g
  .cases g;rw[b]at e;cases e
def mdK(tu:Str->x0)(P:qi Pd):Κ:=P.map λq=>(.inr q.nm,.ref (tu q.nm))
theorem ykq(tu:Str->x0):∀{P:qi Pd}{q:Pd},q∈P->zn (mdK tu P) (.inr q.nm)=some (.ref (tu q.nm))
 |r::P,q,hq=>by
  unfold zn mdK;rw[bU];by_cases e:r.nm=q.nm
  .rw[cT (by simp[e]),<- e];rfl
  .rw[cM (by simpa using e)];rcases bC.mp hq with z|z
   .exact absurd (by rw[z]) e
   .exact ykq tu z
def yoa(tu:Str->x0){P:qi Pd}{b:Str}(h:∀q,q∈P->q.nm≠b):zn (mdK tu P) (.inr b)=none:=by
 unfold zn mdK;rw[List.find?_eq_none.mpr λy c=>?_]
 .rfl
 .obtain⟨q,a,e⟩:=br.mp c;rw[<- e];simpa using h q a
def DkF(H:Hp)(md:x0)(kvs:Κ):Prop:=H md=some (.dK kvs)\/∃o,H md=some (.frz o (.dK kvs))
def DkF.get{H:Hp}{kvs:Κ}(h:DkF H md kvs)(b:Str):Ĳ H md (.str b) (zn kvs (.inr b)):=.inl ⟨kvs,.inr b,h,rfl,rfl⟩
structure Mdl(H:Hp)(X:Sx)(md:x0)(P:qi Pd)(tu tx:Str->x0):Prop where
 d:DkF H md (mdK tu P)
 n:¬X.f md
 t:∀q,q∈P->Kf H X (tu q.nm) (.tup [.ref (tx q.nm),baV q.bs])
 x:∀q,q∈P->Kf H X (tx q.nm) (.lst (q.tx.map V.int))
theorem Mdl.same{H H':Hp}{X:Sx}{P:qi Pd}{tx:Str->x0}(h:Mdl H X md P tu tx)(S:yv H H'):Mdl H' X md P tu tx:=⟨h.d.imp (S _ _) λ⟨o,e⟩=>⟨o,S _ _ e⟩,h.n,λq a=>(h.t q a).same S,λq a=>(h.x q a).same S⟩
theorem Mdl.go{H H':Hp}{st:x0}{C:Cf}{P P2:qi Pd}{X Y:Sx}{tx:Str->x0}(h:Mdl H X md P tu tx)(s:Sto K a H st C P2 X)(g:Gx X H H' Y):Mdl H' Y md P tu tx:=⟨h.d.imp (λe=>(Kf.go ⟨e,h.n⟩ s g).1) λ⟨o,e⟩=>⟨o,(Kf.go ⟨e,h.n⟩ s g).1⟩,(h.d.elim (λe=>(Kf.go ⟨e,h.n⟩ s g).2) λ⟨o,e⟩=>(Kf.go ⟨e,h.n⟩ s g).2),λq b=>(h.t q b).go s g,λq b=>(h.x q b).go s g⟩
def Mdl.butL{H H':Hp}{X:Sx}{P:qi Pd}{tx:Str->x0}(h:Mdl H X md P tu tx){xs:Υ}(hy:H y=some (.lst xs))(hx:∀q,q∈P->tx q.nm≠y)(b:But y H H'):Mdl H' X md P tu tx :=
 have c:∀{o:HO},H md=some o->ywa o=true->md≠y:=λ{o}e f z=>by rw[z,hy]at e;cases e;cases f
 ⟨h.d.imp (λe=>b _ _ e (c e rfl)) λ⟨o,e⟩=>⟨o,b _ _ e (c e rfl)⟩,h.n,λq a=>(h.t q a).but (λz=>by have e:=(h.t q a).1;rw[z,hy]at e;cases e) b,λq a=>(h.x q a).but (hx q a) b⟩
theorem Mdl.get{H:Hp}{X:Sx}{P:qi Pd}{tx:Str->x0}(h:Mdl H X md P tu tx){q:Pd}(hq:q∈P):Ĳ H md (.str q.nm) (some (.ref (tu q.nm))):=by rw[<- ykq tu hq];exact h.d.get q.nm
def Mdl.getNo{H:Hp}{X:Sx}{P:qi Pd}{tx:Str->x0}(h:Mdl H X md P tu tx){b:Str}(hb:∀q,q∈P->q.nm≠b):Ĳ H md (.str b) none:=by rw[<- yoa tu hb];exact h.d.get b
def upS(g:Str->x0)(b:Str)(x:x0):Str->x0:=λs=>if s=b then x else g s
def yfd{g:Str->x0}{b:Str}{x:x0}:upS g b x b=x:=if_pos rfl
def yfg{g:Str->x0}{b s:Str}{x:x0}(h:s≠b):upS g b x s=g s:=if_neg h
def Ò(tu:Str->x0)(P:qi Pd):((mdK tu P).map λp=>kV p.1)=(P.map (·.nm)).map V.str:=by unfold mdK;rw[bS,bS];rfl
def ysv{P:qi Pd}{q:Pd}{t:x0}(hno:∀r,r∈P->r.nm≠q.nm):ń (mdK tu P) (.inr q.nm) (.ref t)=mdK (upS tu q.nm t) (P++[q]):=by
 rw[Ð _ (yoa tu hno)];unfold mdK;rw[bH,List.map_singleton,yfd]
 congr 1
 exact List.map_congr_left λr a=>by rw[yfg (hno r a)]
def Mdl.put{H:Hp}{X:Sx}{t:x0}{P:qi Pd}{tx:Str->x0}{q:Pd}(h:Mdl H X md P tu tx)(hd:H md=some (.dK (mdK tu P)))(hno:∀r,r∈P->r.nm≠q.nm)(ht:Kf H X t (.tup [.ref y,baV q.bs]))(hy:Kf H X y (.lst (q.tx.map V.int))):
  Mdl (upd H md (.dK (mdK (upS tu q.nm t) (P++[q])))) X md (P++[q]) (upS tu q.nm t) (upS tx q.nm y):=by
 have f:∀{x:x0}{o:HO},ywa o=false->Kf H X x o->Kf (upd H md (.dK (mdK (upS tu q.nm t) (P++[q])))) X x o:=λ{x o}b k=>k.but (λz=>by have e:=k.1;rw[z,hd]at e;cases e;cases b) But.upd;exists .inl ya,h.n,λr a=>?_,λr a=>?_
 .rcases bP.mp a with z|z
  .rw[yfg (hno r z),yfg (hno r z)];exact f rfl (h.t r z)
  .obtain rfl:=bF.mp z;rw[yfd,yfd];exact f rfl ht
 .rcases bP.mp a with z|z
  .rw[yfg (hno r z)];exact f rfl (h.x r z)
  .obtain rfl:=bF.mp z;rw[yfd];exact f rfl hy
def yms(tu:Str->x0)(P:qi Pd)(b:Str):Ø (mdK tu P) (.inr b)=mdK tu (P.filter λq=>decide (q.nm≠b)):=by
 unfold Ø mdK;rw[List.filter_map]
 congr 1
 refine List.filter_congr λq Z=>?_;by_cases e:q.nm=b
 .simp[e]
 .simp[e]
def Mdl.drop{H:Hp}{X:Sx}{P:qi Pd}{tx:Str->x0}(h:Mdl H X md P tu tx)(hd:H md=some (.dK (mdK tu P)))(b:Str):Mdl (upd H md (.dK (mdK tu (P.filter λq=>decide (q.nm≠b))))) X md (P.filter λq=>decide (q.nm≠b)) tu tx:=by have f:∀{x:x0}{o:HO},ywa o=false->Kf H X x o->Kf (upd H md (.dK (mdK tu (P.filter λq=>decide (q.nm≠b))))) X x o:=λ{x o}c k=>k.but (λz=>by have e:=k.1;rw[z,hd]at e;cases e;cases c) But.upd;exists .inl ya,h.n,λq a=>f rfl (h.t q (cB.mp a).1),λq a=>f rfl (h.x q (cB.mp a).1)
def lnV(tx:Str->x0)(L:Η):Υ:=L.map λy=>V.ref (tx y.1)
def lnA(tx:Str->x0)(L:Η)(i:Nat):x0:=tx (L.getD i (⟨#[]⟩,[])).1
def yeo(tx:Str->x0)(L:Η):lnV tx L=refs (lnA tx L) L.length:=by
 refine List.ext_getElem? λi=>?_;unfold lnV refs;rw[bo,bo];rcases Nat.lt_or_ge i L.length with h|h
 .rw[bi h,cF h];unfold lnA;simp[ck,bi h]
 .rw[cg h,cg (by rw[bV];exact h)];rfl
def Mdl.ln{H:Hp}{X:Sx}{P:qi Pd}{tx:Str->x0}(h:Mdl H X md P tu tx)(w:PdW P){x:Φ}(t:ToD P x L)(hi:i<L.length):Kf H X (lnA tx L i) (.lst ((txi L i).map V.int)):=by let⟨r,b,a,_⟩:=t.at w hi;have e:=h.x r b;unfold lnA txi;rw[ck,bi hi,ck,bo,bi hi,a];exact e
theorem yd1(L:Η):∀i,i<=L.length->ut (txi L) i=Ú ((L.map (·.2)).take i)
 |0,_=>rfl
 |i+1,h=>by
  have a:i<(L.map (·.2)).length:=by rw[bf];omega
  rw[bL a,Ė,<- yd1 L i (by omega)];show _++dec (txi L i)=_;unfold txi;rw[ck,bi a];rfl
def É(L:Η):ut (txi L) L.length=Ú (L.map (·.2)):=by rw[yd1 L _ (bn _),cn (by rw[bf];exact bn _)]
#synth yk1 ["looks","data","most","learned","foreteller","row"] ["looks","data","most","learned"] ygw
inductive yhr(K:xr)(a:Ads)(vs:Υ)(H:Hp)(Q:VK)(E:XK):Prop
 |mk(L dt:x0)(lx:V)(n:Nat)(lk:Μ)(kd:Ξ)(tp:Μ)(ps:Λ)(d:Ρ)(mo N w:Nat)(lt:Μ)(tt:Λ)(_:vs=[.ref L,.ref dt,.int mo,lx])(_:ve2 H L dt lx n lk kd tp ps d mo N w lt tt)(_:(∀(M:Nat)(t r:x0)(H':Hp),M<=mo->ROk (fa0 n ps) d (rS n kd ps (ut tt N)) M->H t=none->H r=none->H' t=some (.tup [.ref r,.int (rTL (fa0 n ps) d (rS n kd ps (ut tt N)) M)])->H' r=some (.lst ((rtx (fa0 n ps) d (rS n kd ps (ut tt N)) M).map V.int))->yv H H'->Q (.ref t) H'))(_:((∀M,M<=mo->¬ROk (fa0 n ps) d (rS n kd ps (ut tt N)) M)->∀H',yv H H'->E (.ref a.Dm) none H'))
def yoi:vz P w K mg Γ (CXe P w) 11 a.Dj a.Gs ["looks","data","most","learned"] (yhr K a):=by
 exists T.P7.okE,yk1,v;let⟨L,dt,lx,n,lk,kd,tp,ps,d,mo,N,w,lt,I,rfl,g,kQ,kE⟩:=h;have ad:=g.b;have n1:=g.n1;have n6:=g.n6;have a5:=ypm g.mo1;refine yh (yo (i:=4) yk1.nd rfl (Or.inl rfl) (ub T.Pf (yb0 T) v.m rfl T.Pe T.Cm.B .nil yz (pa1 (pv 0)))) ?_;refine yh (yo (i:=5) yk1.nd rfl (Or.inl rfl) (x3 (vck T) v.m T.P4 yz (pa1 (pv 1)))) ?_;refine yh (yw (x3 (vcb T) v.m T.P5 yz (pa1 (pv 2)))) ?_;refine yh (yw (uh (yke T) v.m T.Ew (pac (pv 4) (pa1 (uh (ykr T) v.m T.Ev (pa1 (pv 3))))))) ?_;exists 4,2,yc (yq (x3 (yqg T) v.m T.Hx yz (pac (pv 4) (pac (pv 5) (pa1 (pv 2))))));intro p W np a7 ab;have S0:yv H (upd (upd H W (.own p)) p (.ins a.A2 W [])):=λb o e=>by rw[yk (yb e np),yk (yb e a7)];exact e
 exists p,W,.ref L,rfl,ya,.inr ⟨L,n,lk,kd,tp,ps,rfl,S0 _ _ g.l,n1,n6,g.r.same S0,λA f O H1 N1 B1=>⟨rfl,?_⟩⟩;let⟨a0,rfl,rfl,rfl,rfl,oO,oB,oM,oL⟩:=N1;have S1:yv H H1:=λb o e=>B1 b o (S0 b o e) (yb e np);have j:∀{c:x0},upd (upd H W (.own p)) p (.ins a.A2 W []) c=none->H c=none:=λh=>S0.free h;have a1:H A.el=none:=j (oL A.el (.inr (.inl rfl)));ext;exists .ref dt,_,rfl,.lst (S1 _ _ g.dat),.inr ⟨d.map V.int,yeh (S1 _ _ g.dat) g.by' g.dl,λrw H2 Y X S2=>?_⟩;have y:=S1.trans S2;have k:=a0.same S2;have a4:rw≠A.el:=(yb a0.el Y).symm;ext;exists .int mo,_,rfl,.int _,λB=>?_,λz=>(by rw[a5]at z;cases z);ext;refine ė (g.lr.same y) g.w1 g.N1 λa8 cx H3 h0 h3 hx S3=>?_;ext;exists p,A,FX0 A.n A.kd,f,O,6,a8,N,w,cx,I,rfl,k.same S3,rfl,rfl,h3,(yb k.el h0).symm,λi R=>⟨⟨(hx i R).2,(g.lr.2 i R).s,(g.lr.2 i R).z⟩,(yb k.el (hx i R).1).symm⟩,g.w1,by omega,λml el pl sl f1 O1 m1 H4 D ae q F J=>?_
 have q:=FGo.ahead S3 q;have aa:=q.kpa k;have C:=aa _ _ X rfl a4;have eX:(FX0 A.n A.kd).run A (ut I N)=(FX0 A.n A.kd).run (fa0 A.n A.ps) (ut I N):=jt A _ _;rw[eX]at D F J;have Z:(((FX0 A.n A.kd).run (fa0 A.n A.ps) (ut I N),s0):FX×Sn)=rS A.n A.kd A.ps (ut I N):=rfl;generalize (FX0 A.n A.kd).run (fa0 A.n A.ps) (ut I N)=XX at D F J Z
 have U:∀{G:x0}{O2:Β}{S:Hp},FGo p (A.re ml el pl sl) O1 H4 S G O2->yv H S:=λu c o e=>by
  have go:=q.trans u;refine go.fr c o (y _ _ e) (λz=>?_) (λz=>?_) (λz=>?_) (λi R w'=>?_)
  .rw[z,np]at e;cases e
  .rw[z,j oM]at e;cases e
  .rw[z,a1]at e;cases e
  .rw[j (oO i c R w')]at e;cases e
 ext;exists p,A.re ml el pl sl,XX,f1,O1,m1,rw,d,mo,rfl,D,C.2,C.1,g.by',g.dl,g.mo1,by omega,by rw[J];decide,by rw[F];exact bK _,λM t r G O2 S hM x a9 a2 ht v u B=>?_,λa3 G O2 S u=>?_
 .rw[yjg,Z]at ht;rw[yjd,Z]at v;rw[ROk.fa0,Z]at x;exact kQ M t r S hM x (y.free (q.free a9)) (y.free (q.free a2)) ht v (U u)
 .refine kE (λM hM x=>a3 M hM ?_) S (U u);rw[ROk.fa0,Z];exact x
#synth ypo ["looks","data","most","learned","first"] ["looks","data","most","learned"] yg1
inductive yrv(K:xr)(a:Ads)(vs:Υ)(H:Hp)(Q:VK)(E:XK):Prop
 |mk(L dt:x0)(lx:V)(n:Nat)(lk:Μ)(kd:Ξ)(tp:Μ)(ps:Λ)(d:Ρ)(mo N w:Nat)(lt:Μ)(tt:Λ)(_:vs=[.ref L,.ref dt,.int mo,lx])(_:ve2 H L dt lx n lk kd tp ps d mo N w lt tt)(_:(∀(M:Nat)(r:x0)(H':Hp),M<=mo->ROk (fa0 n ps) d (rS n kd ps (ut tt N)) M->rTL (fa0 n ps) d (rS n kd ps (ut tt N)) M=d.length->H r=none->H' r=some (.lst ((rtx (fa0 n ps) d (rS n kd ps (ut tt N)) M).map V.int))->yv H H'->Q (.ref r) H'))(_:((∀M,M<=mo->ROk (fa0 n ps) d (rS n kd ps (ut tt N)) M->rTL (fa0 n ps) d (rS n kd ps (ut tt N)) M≠d.length)->∀H',yv H H'->E (.ref a.Dm) none H'))
def ROk.le{A:FA}{d:Ρ}{S:FX×Sn}{N:Nat}(h:ROk A d S N):rTL A d S N<=d.length:=by have e:=congrArg List.length h.tk;rw[bI]at e;unfold rTL;omega
def vbp:vz P w K mg Γ (CXe P w) 12 a.Dk a.Gt ["looks","data","most","learned"] (yrv K a):=by
 exists T.R7.okE,ypo,W;let⟨L,F,O,n,J,p,I,e,d,D,N,w,R,q,rfl,G,kQ,S⟩:=h;refine yh (yo (i:=4) ypo.nd rfl (Or.inl rfl) (û (yoi T) W.m rfl T.R6 T.P7.kp T.R5 .nil yz (pac (pv 0) (pac (pv 1) (pac (pv 2) (pa1 (pv 3))))))) ?_;refine yh (wa (yr ò (xi xp (pv 4) yg (λY Y=>rfl)) (pcB yp T.Aa (pa1 (pv 1))) (yx _)) (yc (xb rfl T.Rf T.Pk (pa1 wy))) y6) ?_;exists 4,1,yc (yq (xi xp (pv 4) yg (λY Y=>rfl)));exists L,F,O,n,J,p,I,e,d,D,N,w,R,q,rfl,G,λM t r l v b Z x c B f=>?_,λz l f=>S (λM v b=>absurd b (z M v)) l f;have u:=b.le;have C:∀g,ROk (fa0 n e) d (rS n p e (ut q N)) g->g=M:=λg o=>b.uniq o.b1 o.b0;generalize k:rTL (fa0 n e) d (rS n p e (ut q N)) M=tl at c u;ext;refine zt (SqT.of c) (vq (j:=1) rfl) ?_;ext;refine x5 (SqL.of (f _ _ G.dat)) ?_;rw[bf];ext;refine ur (λX=>?_) (λX=>?_)
 .ext;exists by walk_at "len",S (λg Y o=>by rw[C g o,k];omega) l f
 .ext;refine zt (SqT.of c) (vq (j:=0) rfl) ?_;exact kQ M r l v b (by rw[k];omega) x B f
#synth yw9 ["self","looks"] yvh
inductive yif(K:xr)(a:Ads)(vs:Υ)(H:Hp)(Q:VK)(E':XK):Prop
 |mk(c dc l:x0)(n:Nat)(lk tp:Μ)(kd:Ξ)(ps:Λ)(_:vs=[.ref c,.ref l])(_:H c=some (.ins a.A1 dc []))(_:H l=some (.lst (refs lk n)))(_:1<=n)(_:n<=6)(_:ux H n lk kd tp ps)(_:∀(p ll tl:x0)(W:Ν)(H':Hp),Ã K a H' c dc p ll tl n kd ps [] [] 6 W->(∀x,ChW ll tl W x->H x=none)->But c H H'->(∀y xs H'',H y=some (.lst xs)->But y H' H''->Ã K a H'' c dc p ll tl n kd ps [] [] 6 W)->Q .non H')
def yfc:vz P w K mg Γ (CXe P w) 8 a.Gp a.N0 ["self","looks"] (yif K a):=by
 exists T.Cu.F.okE,yw9,hr;let⟨c,f,l,n,lk,tp,kd,ps,rfl,hc,hl,n1,n6,a2,k⟩:=h;refine yh (y9 (pv 0) (ub T.Pf (yb0 T) hr.m rfl T.Pe T.Cm.B .nil yz (pa1 (pv 1))) rfl) ?_;refine yh (y9 (pv 0) (xc uo) rfl) ?_;exists 2,0,yc (y9 (pv 0) (xc uo) rfl);intro p dp np U a6;refine FZ.new np U hl n1 n6 a2 λW C Z nW X a3=>⟨rfl,?_⟩;have G:=X _ _ hc;ext;have t:upd C c (HO.ins a.A1 f ([("foreteller",V.ref p)]:Ι)) c=some (HO.ins a.A1 f ([("foreteller",V.ref p)]:Ι)):=ya;have I:But c C (upd C c (HO.ins a.A1 f ([("foreteller",V.ref p)]:Ι))):=But.upd;generalize upd C c (HO.ins a.A1 f ([("foreteller",V.ref p)]:Ι))=Y at t I⊢;exists by walk_at "len",λj hll=>?_
 exists hll,HB,SB,eB;have a5:=SB _ _ t;ext;have v:upd HB c (HO.ins a.A1 f ([("foreteller",V.ref p),("links",V.ref j)]:Ι)) c=some (HO.ins a.A1 f ([("foreteller",V.ref p),("links",V.ref j)]:Ι)):=ya;have M:But c HB (upd HB c (HO.ins a.A1 f ([("foreteller",V.ref p),("links",V.ref j)]:Ι))):=But.upd;generalize upd HB c (HO.ins a.A1 f ([("foreteller",V.ref p),("links",V.ref j)]:Ι))=HC at v M⊢;exists by walk_at "len",λD htl=>?_
 exists htl,HD,SD,eD;have a7:=SD _ _ v;ext;have i:j≠c:=(yb t hll).symm;have g:D≠c:=(yb v htl).symm;have S:HC j=some (.lst []):=M _ _ eB i
 have R:∀{x:x0},x≠c->Y x=none->H x=none:=λ{x}d e=>by
  cases z:H x with
  |none=>rfl
  |some o=>rw[I _ _ (X _ _ z) d]at e;cases e
 have a4:∀{x:x0},x≠c->HC x=none->Y x=none:=λ{x}d e=>by
  cases z:Y x with
  |none=>rfl
  |some o=>rw[M _ _ (SB _ _ z) d]at e;cases e
 have r:But c C (upd HD c (HO.ins a.A1 f (jq (.ref p) (.ref j) (.ref D)))):=λx o e d=>yf d (SD _ _ (M _ _ (SB _ _ (I _ _ e d)) d))
 have q:∀x,W x->x≠c:=λx w z=>by
  have e:=nW x w;rw[z,hc]at e;cases e
 have J:H j=none:=R i hll;have O:H D=none:=R g (a4 g htl)
 have N:¬W j:=λw=>by
  let⟨o,e⟩:=Z.live _ w;rw[I _ _ e i]at hll;cases hll
 have L:¬W D:=λw=>by
  let⟨o,e⟩:=Z.live _ w;rw[M _ _ (SB _ _ (I _ _ e g)) g]at htl;cases htl
 refine k p j D W (upd HD c (HO.ins a.A1 f (jq (.ref p) (.ref j) (.ref D)))) ⟨ya,?_,?_,?_,rfl,λw=>q c w rfl,N,L,yb S htl⟩ (λx w=>?_) (λx o e d=>r x o (X _ _ e) d) (λy xs H2 u b=>?_)
 .exact Z.frame (W2:=λx=>x=c) (λx z=>⟨.ins a.A1 f [],by rw[show x=c from z];exact G,.inl rfl⟩) (λx w z=>q x w z) (λx o e d=>r x o e d)
 .exact yf i (SD _ _ S)
 .exact yf g eD
 .rcases w with z|z|z
  .rw[z];exact J
  .rw[z];exact O
  .exact nW x z
 .have a0:c≠y:=λz=>by rw[<- z,hc]at u;cases u
  have bG:But y C (upd H2 c (.ins a.A1 f [])):=λx o e d=>by
   by_cases z:x=c
   .rw[z,ya];rw[z,G]at e;exact e
   .exact yf z (b _ _ (r x o e z) d)
  exists b _ _ ya a0,(a3 y xs _ u bG).frame (W2:=λx=>x=c) (λx z=>⟨.ins a.A1 f [],by rw[show x=c from z];exact ya,.inl rfl⟩) (λx w z=>q x w z) (λx o e d=>by rw[yk d]at e;exact e),b _ _ (yf i (SD _ _ S)) (λz=>by rw[<- z,J]at u;cases u),b _ _ (yf g eD) (λz=>by rw[<- z,O]at u;cases u),rfl,λw=>q c w rfl,N,L,yb S htl
#synth yzx ["self","name","text"] yve
inductive yl2(a:Ads)(vs:Υ)(H:Hp)(Q:VK)(E':XK):Prop
 |mk(c dc:x0)(vf:V)(ll tl:x0)(x y:V)(xs ys:Υ)(_:vs=[.ref c,x,y])(_:H c=some (.ins a.A1 dc (jq vf (.ref ll) (.ref tl))))(_:H ll=some (.lst xs))(_:H tl=some (.lst ys))(_:ll≠tl)(_:xs.length<=10000)(_:ys.length<=10000)(_:Q .non (upd (upd H ll (.lst (xs++[x]))) tl (.lst (ys++[y]))))
def yqh:vz P w K mg Γ CX0 1 a.Ka a.N2 ["self","name","text"] (yl2 a):=by
 exists T.Dx.F.ok,yzx,u;let⟨c,l,n,d,i,x,y,g,m,rfl,e,j,r,q,v,B,k⟩:=h;exists 3,0,yd (yw (è PySem.F.plainAttrs_list PySem.F.slot_list_append PySem.F.type_list_append xh (yn (pv 0) rfl) (pa1 (pv 1)))) (yc (yw (è PySem.F.plainAttrs_list PySem.F.slot_list_append PySem.F.type_list_append xh (yn (pv 0) rfl) (pa1 (pv 2)))));refine Â j ?_;ext;refine x9 j (ve (by omega)) ?_;have t:(upd H d (.lst (g++[x]))) c=some (.ins a.A1 l (jq n (.ref d) (.ref i))):=by rw[yk (λz=>by rw[z,j]at e;cases e)];exact e
 ext;have b:(upd H d (.lst (g++[x]))) i=some (.lst m):=by rw[yk q.symm];exact r
 refine Â b ?_;ext;refine x9 b (ve (by omega)) ?_;ext;exact k
def Ã.grow{H H1:Hp}{c ll:x0}{n:Nat}{kd:Ξ}{ps:Λ}{ks:Υ}{M M':Nat}{W:Ν}(h:Ã K a H c dc p ll tl n kd ps L ks M W){nm:Str}{t:Ρ}{k:V}(hf:FZ K a H1 p n kd ps (Ú (L.map (·.2))++dec t) M' W')(g:Go W H H1 W')(hk:k=.non\/∃q,k=.ref q/\H1 q=some (.lst (t.map V.int))/\¬ChW ll tl W' q):
  Ã K a (upd (upd H1 ll (.lst (nmL L++[V.str nm]))) tl (.lst (ks++[k]))) c dc p ll tl n kd ps (L++[(nm,t)]) (ks++[k]) M' W'/\Go (ChW ll tl W) H (upd (upd H1 ll (.lst (nmL L++[V.str nm]))) tl (.lst (ks++[k]))) (ChW ll tl W'):=by
 have m:=g.fr _ _ h.hl h.nll;have r:=g.fr _ _ h.ht h.ntl;have j:=g.fr _ _ h.me h.nc;have i:∀{x:x0}{o:HO},H x=some o->¬W x->¬W' x:=λ{x o}e d w=>(g.nw x w).elim d λz=>by rw[e]at z;cases z
 have C:=i h.hl h.nll;have B:=i h.ht h.ntl
 have f:∀x o,H1 x=some o->¬(x=ll\/x=tl)->(upd (upd H1 ll (.lst (nmL L++[V.str nm]))) tl (.lst (ks++[k]))) x=some o:=λx o e d=>by
  rw[yk (λz=>d (.inr z)),yk (λz=>d (.inl z))];exact e
 have A:c≠ll:=λz=>by have e:=h.me;rw[z,h.hl]at e;cases e
 have s:c≠tl:=λz=>by have e:=h.me;rw[z,h.ht]at e;cases e
 exists⟨f _ _ j λz=>z.elim A s,?_,?_,ya,?_,i h.me h.nc,C,B,h.ne⟩,⟨λx o e d=>?_,λx w=>?_,λx o e=>?_⟩
 .have E:Ú ((L++[(nm,t)]).map (·.2))=Ú (L.map (·.2))++dec t:=by rw[bH];exact Ė _ _
  rw[E];refine hf.frame (W2:=λx=>x=ll\/x=tl) (λx w=>?_) (λx w z=>?_) λx o e d=>f x o e d
  .rcases w with z|z
   .exists _,by rw[show x=ll from z];exact m,.inr ⟨_,rfl,λy v=>?_⟩
    let⟨u,_,e⟩:=br.mp v;exact .inl ⟨u.1,e.symm⟩
   .exists _,by rw[show x=tl from z];exact r,.inr ⟨_,rfl,λy v=>.inr ?_⟩
    exact(h.tx.mem y v).imp id λ⟨q,F,e,l,b⟩=>⟨q,e,.inl ⟨F,g.fr q _ l λw=>b (.inr (.inr w))⟩⟩
  .rcases z with z|z
   .rw[z]at w;exact C w
   .rw[z]at w;exact B w
 .rw[yk h.ne,ya];unfold nmL;rw[bH];rfl
 .refine yb7.snoc ?_ (h.tx.mono λq I e b=>⟨f q _ (g.fr q _ e λw=>b (.inr (.inr w))) λz=>b (z.imp id .inl),λw=>?_⟩)
  .refine hk.imp id λ⟨q,e,l,b⟩=>⟨q,e,f q _ l λz=>b (z.imp id .inl),b⟩
  .rcases w with w|w|w
   .exact b (.inl w)
   .exact b (.inr (.inl w))
   .exact i e (λw=>b (.inr (.inr w))) w
 .exact f x o (g.fr x o e λw=>d (.inr (.inr w))) λz=>d (z.imp id .inl)
 .rcases w with w|w|w
  .exact .inl (.inl w)
  .exact .inl (.inr (.inl w))
  .exact(g.nw x w).imp (λw=>.inr (.inr w)) id
 .obtain⟨D,G⟩:=g.lv x o e;by_cases z2:x=tl
  .exists _,by rw[z2];exact ya
  .by_cases z1:x=ll
   .exists _,by rw[z1,yk h.ne];exact ya
   .exists D,f x D G λz=>z.elim z1 z2
#synth yos ["self","name","text","data"] ["self","name","text"] yt9
inductive yfk(K:xr)(a:Ads)(vs:Υ)(H:Hp)(Q:VK)(E':XK):Prop
 |mk(c dc p ll tl:x0)(n:Nat)(kd:Ξ)(ps:Λ)(L:Η)(ks:Υ)(M:Nat)(W:Ν)(tx:x0)(nm:Str)(ts:Ρ)(_:vs=[.ref c,.str nm,.ref tx])(_:Ã K a H c dc p ll tl n kd ps L ks M W)(_:L.length<=1000)(_:jj H tx ts 1000)(_:¬W tx)(_:M+6*(dec ts).length+20<1000000)(_:∀(r:x0)(W':Ν)(H':Hp),H r=none->H' r=some (.lst ((δ n kd ps (Ú (L.map (·.2))) ts).map V.int))->Ã K a H' c dc p ll tl n kd ps (L++[(nm,ts)]) (ks++[.non]) (M+6*(dec ts).length) W'->Go (ChW ll tl W) H H' (ChW ll tl W')->Q (.ref r) H')
def yzv:vz P w K mg Γ CX0 8 a.Kb a.N3 ["self","name","text"] (yfk K a):=by
 exists T.Hy.F.ok,yos,u;let⟨c,x,p,y,v,n,R,O,L,N,M,W,D,nm,I,rfl,b,hz,e,l,G,k⟩:=h;have Y:=b.me;have X:=b.tx.len;exists 3,1,yd (yo (i:=3) yos.nd rfl (Or.inl rfl) (uh (ykp T) u.m T.Ex (pac (yn (pv 0) rfl) (pa1 (pv 2))))) (yd (yw (xg (pv 0) T.Ak T.Dx.m (yqh T) u.m T.Dx.B .nil v7 (pac (pv 1) (pa1 zd)))) (yc (yq (pv 3))));refine b.fz.press e l G λr U Z d t J g=>?_;have q:=g.fr _ _ b.hl b.nll;have o:=g.fr _ _ b.ht b.ntl;have f:=g.fr _ _ b.me b.nc;ext;exists c,x,_,y,v,_,_,_,_,rfl,f,q,o,b.ne,by unfold nmL;rw[bf];omega,by omega,?_
 let⟨z,g2⟩:=b.grow (nm:=nm) J g (.inl rfl);ext;refine k r U _ d ?_ z g2;rw[yk (yb b.ht d).symm,yk (yb b.hl d).symm];exact t
#synth yol ["self","name","data","most","first"] ["self","name","data","most"] yu2
inductive yia(K:xr)(a:Ads)(vs:Υ)(H:Hp)(Q:VK)(E':XK):Prop
 |mk(c dc p ll tl:x0)(n:Nat)(kd:Ξ)(ps:Λ)(L:Η)(ks:Υ)(M:Nat)(W:Ν)(dt:x0)(nm:Str)(ts bs:Ρ)(mo:Nat)(_:vs=[.ref c,.str nm,.ref dt,.int mo])(_:Ã K a H c dc p ll tl n kd ps L ks M W)(_:L.length<=1000)(_:Sgs ts)(_:H dt=some (.lst ((δ n kd ps (Ú (L.map (·.2))) ts++bs).map V.int)))(_:¬W dt)(_:Byt bs)(_:(δ n kd ps (Ú (L.map (·.2))) ts++bs).length<=12000)(_:ts.length<=mo)(_:mo<=1000)(_:M+54*mo+200<1000000)(_:∀(q:x0)(W':Ν)(H':Hp),H q=none->Ã K a H' c dc p ll tl n kd ps (L++[(nm,ts)]) (ks++[.ref q]) (M+6*(dec ts).length) W'->Go (ChW ll tl W) H H' (ChW ll tl W')->Q (.int ((δ n kd ps (Ú (L.map (·.2))) ts).length:Nat)) H')
def yyf:vz P w K mg Γ (CXe P w) 11 a.Kc a.N4 ["self","name","data","most"] (yia K a):=by
 exists T.Hz.F.okE,yol,O;let⟨c,Z,p,j,f,n,Y,X,L,U,M,W,dt,nm,R,bs,mo,rfl,b,hz,x,N,u,r,J,o,C,hM,k⟩:=h;have a2:=b.me;have a1:=b.tx.len;exists 4,1,yd (yo (i:=4) yol.nd rfl (Or.inl rfl) (x3 (yqg T) O.m T.Hx yz (pac (yn (pv 0) rfl) (pac (pv 2) (pa1 (pv 3)))))) (yd (yw (xg (pv 0) T.Ak T.Dx.m (yqh T) O.m T.Dx.B .nil v7 (pac (pv 1) (pa1 (xi xp (pv 4) yg (λF F=>rfl)))))) (yc (yq (xi xp (pv 4) yg (λF F=>rfl)))));refine b.fz.read (jn _) x N u r J o C hM λt q W' H1 e d S hq hf g nq=>?_;have I:=g.fr _ _ b.hl b.nll;have D:=g.fr _ _ b.ht b.ntl;have v:=g.fr _ _ b.me b.nc;ext;exists t,_,0,_,rfl,rfl,SqT.of S,rfl,?_;ext;exists c,Z,_,j,f,_,_,_,_,rfl,v,I,D,b.ne,by unfold nmL;rw[bf];omega,by omega,?_
 have G:¬ChW j f W' q:=λw=>by
  rcases w with w|w|w
  .exact yb b.hl d w.symm
  .exact yb b.ht d w.symm
  .exact nq w
 let⟨z,g2⟩:=b.grow (nm:=nm) hf g (.inr ⟨q,rfl,hq,G⟩)
 have l:(upd (upd H1 j (.lst (nmL L++[V.str nm]))) f (.lst (U++[V.ref q]))) t=some (.tup [.ref q,.int ((δ n Y X (Ú (L.map (·.2))) R).length:Nat)]):=by
  rw[yk (yb b.ht e).symm,yk (yb b.hl e).symm];exact S
 ext;exists t,_,1,_,rfl,rfl,SqT.of l,rfl,?_;exact k q W' _ d z g2
def FZ.fork{H:Hp}{n:Nat}{kd:Ξ}{ps:Λ}{pre:Ρ}{M:Nat}{W:Ν}{Q:VK}{E:XK}(h:FZ K a H p n kd ps pre M W)(hM:M+20<1000000)
  (k:∀q W' H',FZ K a H' q n kd ps pre (M+6) W'->(∀c,W' c->H c=none)->yv H H'->Q (.ref q) H'):yd9 K a [.ref p] H Q E:=by
 let⟨A,f,O,m,o,L,t,rfl,rfl,rfl,x,C,G⟩:=h;have I:=o.n6;exists p,A,_,f,O,m,rfl,o,t,by omega,λq l B i H' r b e d y s J D v u F S=>k q (ywi q l i) H' ⟨l,B,i,m+A.n,b,by omega,e,d,y,s,x,C,λc=>Iff.rfl⟩ (λc w=>?_) S
 rcases w with z|z|⟨j,g,z⟩|⟨j,g,z⟩|z
 .rw[z];exact r
 .rw[z];exact u
 .rw[z];exact v j (by rw[<- d];exact g)
 .exact D j c (by rw[<- d];exact g) z
 .exact F c (.inr (.inl z))
#synth yzp ["self","text"] ytm
inductive yic(K:xr)(a:Ads)(vs:Υ)(H:Hp)(Q:VK)(E':XK):Prop
 |mk(c dc p ll tl:x0)(n:Nat)(kd:Ξ)(ps:Λ)(L:Η)(ks:Υ)(M:Nat)(W:Ν)(tx:x0)(ts:Ρ)(_:vs=[.ref c,.ref tx])(_:Ã K a H c dc p ll tl n kd ps L ks M W)(_:jj H tx ts 1000)(_:M+60000<1000000)(_:∀H',yv H H'->Q (.int ((δ n kd ps (Ú (L.map (·.2))) ts).length:Nat)) H')
def yo5:vz P w K mg Γ CX0 9 a.Kd a.N5 ["self","text"] (yic K a):=by
 exists T.Dy.F.ok,yzp,j;let⟨c,dc,p,ll,U,n,kd,ps,L,Z,M,W,S,y,rfl,g,b,hM,k⟩:=h;have a2:=g.me;have a1:=xl y;have hz:=b.z
 obtain⟨J,D,v,G,t,I,u,hp⟩:∃J D v G t I u,H p=some (.ins a.A2 J (zu D v G t I u)):=by
  let⟨A,f,O,m,hF,_⟩:=g.fz;exists _,_,_,_,_,_,_,hF.me
 exists 2,0,yc (yq (pcB yp T.Aa (pa1 (uh (ykp T) j.m T.Ex (pac (vt (yn (pv 0) rfl) T.Ac T.Hq.m (yyz T) j.m T.Hq.B .nil v7) (pa1 (pv 1)))))));refine g.fz.fork (by omega) λq W' H1 Y N C=>?_;ext;refine Y.press (b.same C) (λw=>by have e:=N _ w;rw[b.l]at e;cases e) (by omega) λr W2 H2 X d F g2=>?_;ext;refine x5 (SqL.of d) ?_;rw[bf];exact k H2 λx o e=>g2.fr _ _ (C _ _ e) λw=>by rw[N _ w]at e;cases e
#synth yy3 ["thing"] yvp
inductive yip(K:xr)(vs:Υ)(H:Hp)(Q:VK)(E':XK):Prop
 |mk(x n:_)(_:vs=[x])(_:ue K H x (.type n))(_:(∀s,x=.str s->s.length<=100000))(_:∀H',yv H H'->Q (.bl (nmV x)) H')
def vaa:vz P w K mg Γ CX0 1 a.Ke a.N6 ["thing"] (yip K):=by
 exists T.Oc.F.ok,yy3,r;let⟨x,n,rfl,d,b,k⟩:=h;exists 1,0,yc (yq (zz (pcB wv T.A7 (pac (pv 0) (pa1 (jx (T:="str") rfl T.On (by right))))) (zz (Í jg jg yg (pcB ë T.Aa (pa1 (pv 0))) (vk rfl T.Ef)) (Ö (pcB (j5 rfl) T.Da (pa1 (wb (js:=[]) (ys:=[]) rfl (yy7 (pv 0)) (λC v t u=>(xv yie (pv 0) (yr4 rfl T.Ot) (by with_unfolding_all rfl))) rfl rfl (hyc:=yt) (hrel:=yt))))))));refine ó d (yd4 d) ?_;ext;by_cases hn:n="str"
 .obtain⟨s',rfl⟩:∃s',x=.str s':=by
   cases d with
   |str s'=>exists s',rfl
   |_=>exact absurd hn (by decide)
  have b:=b s' rfl;rw[bv hn];refine Ń ?_;ext;exists s',rfl,bQ b (by decide),?_;refine⟨1,(s'.length:Int),rfl,rfl,_,rfl,?_⟩;by_cases h1:(1:Int)<=(s'.length:Int)
  .refine yam h1 ?_;exists(s'.length:Int),8,rfl,rfl,_,rfl,?_;by_cases h8:(s'.length:Int)<=8
   .refine yam h8 ?_;ext;exists s',rfl,λD j=>?_;refine yg6 (λi=>.bl (yqm (s'.cps.toList.getD i 0))) j (λi c G q p S g=>?_) (λG S g=>?_)
    .ext;exists _,_,rfl,rfl,?_;refine Mp.doneR j (Nat.lt_of_le_of_lt (show s'.cps.size<=100000 from b) (by decide)) p S g ?_
     have m:s'.cps.toList.getD i 0=c:=by
      rw[ck,Array.getElem?_toList,q];rfl
     rw[m];unfold yqm;rfl
    .ext;exists D,s'.cps.toList.map yqm,rfl,?_,?_
     .refine SqL.of (g.trans ?_);rw[yrf]
     .have e:=yxt h1 h8;rw[<- e];exact k _ S
   .have e:=va4 h8;rw[e]at k;exact ydj h8 (k _ (yv.refl _))
  .have e:=yyx h1;rw[e]at k;refine ydj h1 ?_;exists _,rfl,ĳ (k _ (yv.refl _))
 .have e:nmV x=false:=by
   cases d with
   |str s'=>exact absurd rfl hn
   |_=>rfl
  rw[bD hn];rw[e]at k;exact ĳ (k _ (yv.refl _))
#synth vbj ["thing"] yv0
inductive ylq(K:xr)(C:x0)(vs:Υ)(H:Hp)(Q:VK)(E:XK):Prop
 |mk(x n:_)(_:vs=[x])(_:ue K H x (.type n))(_:(∀s,x=.str s->s.length<=100000))(_:(nmV x=true->∀H',yv H H'->Q x H'))(_:(nmV x=false->∀H',yv H H'->E (.ref C) none H'))
def ykg:vz P w K mg Γ (CXe P w) 2 a.Kg a.N7 ["thing"] (ylq K a.Ah):=by
 exists T.Ey.F.okE,vbj,f;let⟨x,n,rfl,j,g,e,k⟩:=h;exists 1,0,yd (wa (xn (xo (uh (vaa T) f.m T.Oc (pa1 (pv 0))))) (yc (xb rfl T.Pj T.Eb (pa1 wy))) y6) (yc (yq (pv 0)));exists x,n,rfl,j,g,λl c=>?_;ext
 cases hx:nmV x with
 |false =>
  ext;exists by walk_at "len",k hx _ c
 |true =>
  ext;exact e hx _ c
#synth yxz ["thing"] yud
inductive ynb(K:xr)(C:x0)(vs:Υ)(H:Hp)(Q:VK)(E:XK):Prop
 |mk(x n:_)(_:vs=[x])(_:ue K H x (.type n))(_:(∀s,x=.str s->s.length<=100000))(_:((x=.non\/nmV x=true)->∀H',yv H H'->Q .non H'))(_:(x≠.non->nmV x=false->∀H',yv H H'->E (.ref C) none H'))
def yy2:vz P w K mg Γ (CXe P w) 3 a.Kh a.N8 ["thing"] (ynb K a.Ah):=by
 exists T.Od.F.okE,yxz,i;let⟨x,n,rfl,l,j,e,o⟩:=h;exists 1,0,yc (wa (yr yae (pv 0) zd (yx _)) (yc (yw (x3 (ykg T) i.m T.Ey yz (pa1 (pv 0))))) y6);by_cases hx:x=.non
 .subst hx;ext;exact e (.inl rfl) _ (yv.refl _)
 .ext;rw[bD hx];refine Ń ?_;ext;exists x,n,rfl,l,j,λd f b=>?_,λd f b=>o hx d f b;ext;exact e (.inr d) _ b
#synth yzk ["self","base","data"] yua
inductive ylw(a:Ads)(vs:Υ)(H:Hp)(Q:VK)(E':XK):Prop
 |mk(p dp:x0)(x y:V)(_:vs=[.ref p,x,y])(_:H p=some (.ins a.A8 dp []))(_:∀H',H' p=some (.ins a.A8 dp (Ġ x y))->But p H H'->Q .non H')
def vae:vz P w K mg Γ CX0 1 a.Gq a.N9 ["self","base","data"] (ylw a):=by exists T.Ez.F.ok,yzk,j;let⟨p,b,x,y,rfl,l,k⟩:=h;exists 3,0,yd (y9 (pv 0) (pv 1) rfl) (yc (y9 (pv 0) (pv 2) rfl));have d:upd H p (HO.ins a.A8 b ([("base",x)]:Ι)) p=some (HO.ins a.A8 b ([("base",x)]:Ι)):=ya;have e:But p H (upd H p (HO.ins a.A8 b ([("base",x)]:Ι))):=But.upd;generalize upd H p (HO.ins a.A8 b ([("base",x)]:Ι))=i at d e⊢;ext;exact k _ ya (e.trans But.upd)
#synth vaq ["self","looks","most"] ygu
inductive ybk(K:xr)(a:Ads)(vs:Υ)(H:Hp)(Q:VK)(E':XK):Prop
 |mk(p ds l:x0)(mo w:Nat)(n:Nat)(lk tp:Μ)(kd:Ξ)(ps:Λ)(_:vs=[.ref p,.ref l,.int mo])(_:H p=some (.ins a.A0 ds []))(_:H l=some (.lst (refs lk n)))(_:1<=n)(_:n<=6)(_:ux H n lk kd tp ps)(_:mo<=1000)(_:w<=mo)(_:w<=200)(_:∀(ll d c dc q cl ct:x0)(U:Ν)(H':Hp),jl K a H' p ds ll d c dc q cl ct lk tp n kd ps mo w [] [] [] U->(∀x,StW c cl ct U x->H x=none)->H ll=none->H d=none->But p H H'->(∀y xs H'',H y=some (.lst xs)->But y H' H''->jl K a H'' p ds ll d c dc q cl ct lk tp n kd ps mo w [] [] [] U)->Q .non H')
def yya:vz P w K mg Γ (CXe P w) 10 a.D8 a.Na ["self","looks","most"] (ybk K a):=by
 exists T.Ru.okE,vaq,hr;let⟨p,j,l,D,w,n,lk,tp,kd,ps,rfl,M,hl,G,n6,R,Z,a3,a7,k⟩:=h;refine yh (y9 (pv 0) (x3 (yod T) hr.m T.Hh yz (pa1 (pv 1))) rfl) ?_;refine yh (yw (x3 (vcb T) hr.m T.P5 yz (pa1 (pv 2)))) ?_;refine yh (y9 (pv 0) (pv 2) rfl) ?_;refine yh (y9 (pv 0) ydx rfl) ?_;exists 3,0,yc (y9 (pv 0) (ub T.Dd (yfc T) hr.m rfl T.Dc T.Cu.B .nil yz (pa1 (yn (pv 0) rfl))) rfl);refine .inr ⟨l,refs lk n,List.replicate (refs lk n).length true,rfl,hl,by rw[vv];omega,R.lks.bs,λB g H1 F a5 t=>?_,λno=>absurd ⟨by rw[vv];exact G,by rw[vv];exact n6,yjm _⟩ no⟩;have aj:=t _ _ M;ext;have ac:upd H1 p (HO.ins a.A0 j ([("looks",V.ref g)]:Ι)) p=some (HO.ins a.A0 j ([("looks",V.ref g)]:Ι)):=ya;have BA:But p H1 (upd H1 p (HO.ins a.A0 j ([("looks",V.ref g)]:Ι))):=But.upd;generalize upd H1 p (HO.ins a.A0 j ([("looks",V.ref g)]:Ι))=HA at ac BA⊢;exists .int D,"int",rfl,.int _,λB=>?_,λz=>by rw[ypm Z]at z;cases z
 ext;have a0:upd HA p (HO.ins a.A0 j ([("looks",V.ref g),("most",V.int D)]:Ι)) p=some (HO.ins a.A0 j ([("looks",V.ref g),("most",V.int D)]:Ι)):=ya;have BB:But p HA (upd HA p (HO.ins a.A0 j ([("looks",V.ref g),("most",V.int D)]:Ι))):=But.upd;generalize upd HA p (HO.ins a.A0 j ([("looks",V.ref g),("most",V.int D)]:Ι))=HB at a0 BB⊢;intro d hd0;exists hd0,HC,SC,eC;have ai:=SC _ _ a0;ext;have r:upd HC p (HO.ins a.A0 j ([("looks",V.ref g),("most",V.int D),("pieces",V.ref d)]:Ι)) p=some (HO.ins a.A0 j ([("looks",V.ref g),("most",V.int D),("pieces",V.ref d)]:Ι)):=ya;have BD:But p HC (upd HC p (HO.ins a.A0 j ([("looks",V.ref g),("most",V.int D),("pieces",V.ref d)]:Ι))):=But.upd;generalize upd HC p (HO.ins a.A0 j ([("looks",V.ref g),("most",V.int D),("pieces",V.ref d)]:Ι))=X at r BD⊢;have J:∀x o,H1 x=some o->x≠p->X x=some o:=λx o e u=>BD _ _ (SC _ _ (BB _ _ (BA _ _ e u) u)) u
 have K0:∀x,x≠p->X x=none->H x=none:=λx u e=>by
  cases z:H x with
  |none=>rfl
  |some o=>rw[J _ _ (t _ _ z) u]at e;cases e
 have a1:g≠p:=(yb M F).symm;have v:d≠p:=(yb a0 hd0).symm;have C:=J _ _ a5 a1;have N:X d=some (.dK []):=BD _ _ eC v
 have ab:ux X n lk kd tp ps:=λi hi=>by
  let⟨q,e,S,O,h3⟩:=R i hi;exists q,e,J _ _ (t _ _ S) (wz S M (by intro z;cases z)),J _ _ (t _ _ O) (wz O M (by intro z;cases z)),h3
 exists p,_,j,_,_,rfl,r,T.A3,T.Am,rfl,?_;ext;intro c dc nc ag ak;have SQ:yv X (upd (upd X dc (.own c)) c (.ins a.A1 dc [])):=λb o e=>by rw[yk (yb e nc),yk (yb e ag)];exact e
 exists c,dc,g,n,lk,tp,kd,ps,rfl,ya,SQ _ _ C,G,n6,ab.same SQ,λq cl ct U HE aa a4 BE af=>⟨rfl,?_⟩;have I:yv X HE:=λb o e=>BE _ _ (SQ _ _ e) (yb e nc);have a8:=I _ _ r
 have W:∀x,StW c cl ct U x->X x=none:=λx w=>by
  rcases w with z|z
  .rw[z];exact nc
  .exact SQ.free (a4 x z)
 have Y:¬StW c cl ct U p:=λw=>by have e:=W _ w;rw[r]at e;cases e
 have a6:H d=none:=by
  cases z:H d with
  |none=>rfl
  |some o=>rw[BB _ _ (BA _ _ (t _ _ z) v) v]at hd0;cases hd0
 ext;refine k g d c dc q cl ct U _ ⟨ya,G,n6,yf a1 (I _ _ C),λi hi=>?_,⟨yf v (I _ _ N),λq f=>(by cases f),List.nodup_nil,λq f=>(by cases f),λq f=>(by cases f),bK _,λq f=>(by cases f)⟩,aa.but a8 Y But.upd,λx hx w=>?_,Z,⟨a3,a7⟩,⟨none,rfl⟩⟩ (λx w=>?_) F ?_ (λx o e u=>yf u (I _ _ (J _ _ (t _ _ e) u))) (λy xs H2 L b=>?_)
 .obtain⟨q,e,S,O,h3⟩:=R i hi;have G:=wz S M (by intro z;cases z);have n2:=wz O M (by intro z;cases z);exists q,e,yf G (I _ _ (J _ _ (t _ _ S) G)),yf n2 (I _ _ (J _ _ (t _ _ O) n2)),h3
 .have e:=W _ w;rcases hx with z|z|z|⟨q,f,_⟩
  .rw[z,r]at e;cases e
  .rw[z,C]at e;cases e
  .rw[z,N]at e;cases e
  .cases f
 .exact K0 x (λz=>Y (z ▸ w)) (W x w)
 .exact a6
 .have a2:p≠y:=λz=>by rw[<- z,M]at L;cases L
  have a9:=SQ _ _ (J _ _ (t _ _ L) a2.symm)
  have bG:But y HE (upd H2 p (HO.ins a.A0 j ([("looks",V.ref g),("most",V.int D),("pieces",V.ref d)]:Ι))):=λx o e u=>by
   by_cases z:x=p
   .rw[z,ya];rw[z,a8]at e;exact e
   .exact yf z (b _ _ (yf z e) u)
  have ad:=af y xs _ a9 bG;have ah:=t _ _ L;exists b _ _ ya a2,G,n6,b _ _ (yf a1 (I _ _ C)) (λz=>by rw[<- z,F]at L;cases L),λi hi=>?_,⟨b _ _ (yf v (I _ _ N)) (λz=>by rw[<- z,a6]at L;cases L),λq f=>(by cases f),List.nodup_nil,λq f=>(by cases f),λq f=>(by cases f),bK _,λq f=>(by cases f)⟩,ad.but ya Y (λx o e u=>by rw[yk u]at e;exact e),λx hx w=>?_,Z,⟨a3,a7⟩,⟨none,rfl⟩
  .obtain⟨q,e,S,O,h3⟩:=R i hi;have G:=wz S M (by intro z;cases z);have n2:=wz O M (by intro z;cases z);exists q,e,b _ _ (yf G (I _ _ (J _ _ (t _ _ S) G))) (wz S L (by intro z;cases z)),b _ _ (yf n2 (I _ _ (J _ _ (t _ _ O) n2))) (wz O L (by intro z;cases z)),h3
  .have e:=W _ w;rcases hx with z|z|z|⟨q,f,_⟩
   .rw[z,r]at e;cases e
   .rw[z,C]at e;cases e
   .rw[z,N]at e;cases e
   .cases f
def Sto.new{H:Hp}{st l:x0}{mo w n:Nat}{lk:Μ}{kd:Ξ}{ps:Λ}{Q:VK}{E:XK}(hst0:H st=none)(hds0:H ds=none)(hlo:H l=some (.lst (refs lk n)))(n1:1<=n)(n6:n<=6)(hR:ux H n lk kd tp ps)(m1:mo<=1000)(wm:w<=mo)(w2:w<=200)
  (k:∀X H',Sto K a H' st ⟨n,kd,ps,mo,w⟩ [] X->yv H H'->(∀y,X.f y->H y=none)->(∀y xs H'',H y=some (.lst xs)->But y H' H''->Sto K a H'' st ⟨n,kd,ps,mo,w⟩ [] X)->Q .non H'):ybk K a [.ref st,.ref l,.int mo] (upd (upd H ds (.own st)) st (.ins a.A0 ds [])) Q E:=by
 have g:yv H (upd (upd H ds (.own st)) st (.ins a.A0 ds [])):=λb o e=>by rw[yk (yb e hst0),yk (yb e hds0)];exact e
 exists st,ds,l,mo,w,n,lk,tp,kd,ps,rfl,ya,g _ _ hlo,n1,n6,hR.same g,m1,wm,w2,λv d c t p u x U A i r h s C m=>k _ A ⟨ds,v,d,c,t,p,u,x,lk,tp,[],[],[],U,i,rfl,rfl⟩ (λy o e=>C _ _ (g _ _ e) (yb e hst0)) (λy j=>?_) λy xs B j b=>⟨ds,v,d,c,t,p,u,x,lk,tp,[],[],[],U,m y xs B (g _ _ j) b,rfl,rfl⟩;rcases j with(z|z|z)|z|⟨q,hq,_⟩|z
 .rw[z];exact g.free s
 .rw[z];exact hst0
 .exact g.free (r y z)
 .rw[z];exact g.free h
 .cases hq
 .cases z
#synth yxq ["self"] yvs
inductive ydt(a:Ads)(vs:Υ)(H:Hp)(Q:VK)(E':XK):Prop
 |mk(st ds d:x0)(vl vm vc:V)(P:qi Pc)(_:vs=[.ref st])(_:H st=some (.ins a.A0 ds (xj vl vm (.ref d) vc)))(_:H d=some (.dK (pcs P)))(_:P.length<=60)(_:∀l H',H l=none->H' l=some (.lst (P.map λq=>V.str q.nm))->yv H H'->Q (.ref l) H')
def yku:vz P w K mg Γ CX0 1 a.Kj a.Nd ["self"] (ydt a):=by
 exists T.Cv.F.ok,yxq,u;let⟨t,g,d,r,i,j,P,rfl,n,o,v,k⟩:=h;exists 1,0,yc (yq (pcT (uz rfl) T.Af (pa1 (yn (pv 0) rfl))));exists d,_,rfl,o,λl b=>?_;have e:(pcs P).map (λp=>kV p.1)=P.map λq=>V.str q.nm:=by unfold pcs;rw[bS];rfl
 rw[e];exact k l _ b ya (y7 b)
def Sto.names{H:Hp}{st:x0}{C:Cf}{P:qi Pd}{X:Sx}{Q:VK}{E:XK}(h:Sto K a H st C P X)(k:∀l H',H l=none->H' l=some (.lst (P.map λq=>V.str q.nm))->yv H H'->Q (.ref l) H'):ydt a [.ref st] H Q E:=by let⟨b,n,d,c,i,p,j,r,m,t,g,L,o,U,s,rfl,rfl⟩:=h;exists st,b,d,_,_,_,g,rfl,s.me,s.pz.dk,s.pz.z,λl H' e f S=>k l H' e ?_ S;rw[bS];exact f
#synth van ["self","text"] yuv
inductive ys7(a:Ads)(vs:Υ)(H:Hp)(Q:VK)(E:XK):Prop
 |mk(st ds tx:x0)(vl vp vc:V)(mo:Int)(xs:Υ)(_:vs=[.ref st,.ref tx])(_:H st=some (.ins a.A0 ds (xj vl (.int mo) vp vc)))(_:H tx=some (.lst xs))(_:((xs.length:Int)<=mo->Q .non H))(_:(¬(xs.length:Int)<=mo->E (.ref a.Ai) none H))
def yo2:vz P w K mg Γ (CXe P w) 1 a.Kl a.Ng ["self","text"] (ys7 a):=by
 exists T.Dz.F.okE,van,t;let⟨o,f,k,p,e,j,l,i,rfl,n,b,g,q⟩:=h;exists 2,0,yc (wa (yr yb5 (pcB yp T.Aa (pa1 (pv 1))) (yn (pv 0) rfl) (yx _)) (yc (xb rfl T.Op T.D6 (pa1 wy))) y6);refine x5 (SqL.of b) ?_;ext;refine ur (λr=>?_) (λr=>?_)
 .ext;exists by walk_at "len",q (by omega)
 .exact g (by omega)
#synth yzn ["self","name"] ytz
inductive ywz(K:xr)(a:Ads)(vs:Υ)(H:Hp)(Q:VK)(E:XK):Prop
 |mk(st ds d:x0)(vl vm vc:V)(n:Nat)(kd:Ξ)(ps:Λ)(w:Nat)(P:qi Pc)(x:V)(nt:String)(_:vs=[.ref st,x])(_:H st=some (.ins a.A0 ds (xj vl vm (.ref d) vc)))(_:yap a H d n kd ps w P)(_:ue K H x (.type nt))(_:(∀s,x=.str s->s.length<=100000))(_:(nmV x=false->∀H',yv H H'->E (.ref a.Ah) none H'))(_:(∀b,x=.str b->nmS b=true->(∀q,q∈P->q.nm≠b)->∀H',yv H H'->E (.ref a.A9) none H'))(_:(∀r,r∈P->x=.str r.nm->nmS r.nm=true->∀H',yv H H'->Q (.ref r.ob) H'))
def yex:vz P w K mg Γ (CXe P w) 3 a.Kn a.Ni ["self","name"] (ywz K a):=by
 exists T.Ca.F.okE,yzn,g;let⟨R,y,d,J,v,M,n,D,C,w,P,x,p,rfl,j,G,z,O,B,L,N⟩:=h;exists 2,0,yd (wa (ybt (Ê (zg g) (x3 (ykg T) g.m T.Ey yz (pa1 (pv 1))) (yn (pv 0) rfl))) (yc (xb rfl T.Oq T.D7 (pa1 wy))) y6) (yc (yq (uc (zg g) (yn (pv 0) rfl) (pv 1) (λZ Z=>rfl))));exists x,p,rfl,z,O,λk l f=>?_,λk l f=>B k l f;let⟨b,rfl,q⟩:=vah k;have t:=f _ _ j;have c:=G.same f;ext;rcases vbz P b with⟨r,e,rfl⟩|o
 .exists d,_,rfl,c.get e,?_;exists false,rfl,ĳ ?_;ext;exists d,_,rfl,c.get e,?_;exact N r e rfl q _ f
 .exists d,_,rfl,c.getNo o,?_;exists true,rfl,Ń ?_;ext;exists by walk_at "len",L b rfl q o _ f
#synth yzg ["self","name","base"] ytv
inductive yq8(K:xr)(a:Ads)(vs:Υ)(H:Hp)(Q:VK)(E:XK):Prop
 |mk(st ds d:x0)(vl vm vc:V)(n:Nat)(kd:Ξ)(ps:Λ)(w:Nat)(P:qi Pc)(b:Str)(x:Φ)(_:vs=[.ref st,.str b,baV x])(_:H st=some (.ins a.A0 ds (xj vl vm (.ref d) vc)))(_:yap a H d n kd ps w P)(_:(∀y,x=some y->nmS y=true/\y.length<=100000))(_:((∃r,r∈P/\r.nm=b)->E (.ref a.Aw) none H))(_:((∀q,q∈P->q.nm≠b)->(∀y,x=some y->(∀q,q∈P->q.nm≠y)->∀H',yv H H'->E (.ref a.A9) none H')/\(∀L,To P x L->(P.length=60->∀H',yv H H'->E (.ref a.C6) none H')/\(P.length≠60->∀H',yv H H'->Q .non H'))))
def yz5:vz P w K mg Γ (CXe P w) 4 a.Km a.Nh ["self","name","base"] (yq8 K a):=by
 exists T.I0.F.okE,yzg,v;let⟨N,C,d,L,u,M,n,J,I,w,P,b,x,rfl,g,f,U,W,Z⟩:=h;exists 3,0,yd (wa (ybt (vbg (zg v) (pv 1) (yn (pv 0) rfl))) (yc (xb rfl T.Qr T.Fv (pa1 wy))) y6) (yd (wa (yr yae (pv 2) zd (yx _)) (yc (yw (vh (pv 0) T.A3 T.Ca.m (yex T) v.m T.Ca.B .nil yz (pa1 (pv 2))))) y6) (yc (wa (yr xq (pcB jp T.Aa (pa1 (yn (pv 0) rfl))) (vk rfl T.En) (yx _)) (yc (xb rfl T.Rg T.Ib (pa1 wy))) y6)));rcases vbz P b with⟨r,c,rfl⟩|G
 .exists d,_,rfl,f.get c,?_;exists true,rfl,Ń ?_;ext;exists by walk_at "len",W ⟨r,c,rfl⟩
 .exists d,_,rfl,f.getNo G,?_;exists false,rfl,ĳ ?_;let⟨k3,D⟩:=Z G;have a0:(pcs P).length=P.length:=bf _;ext
  cases x with
  |none =>
   refine yql (λY=>?_) (λz=>absurd rfl z);let⟨o,l⟩:=D [] rfl;ext;exists d,_,rfl,f.dk,?_;ext;refine ur (λp=>?_) (λp=>?_)
   .ext;exists by walk_at "len",o (by omega) _ (yv.refl _)
   .ext;exact l (by omega) _ (yv.refl _)
  |some y =>
   refine yql (λz=>nomatch z) (λY=>?_)
   let⟨k,j⟩:=U y rfl;ext;exists N,C,d,L,u,M,n,J,I,w,P,.str y,"str",rfl,g,f,.str y,(λs e=>by cases e;exact j),(λz=>by rw[show nmV (.str y)=nmS y from rfl,k]at z;cases z),(λb e Y t X S=>by cases e;exact k3 y rfl t X S),λr c e Y H1 i=>?_;obtain rfl:y=r.nm:=by cases e;rfl
   let⟨o,l⟩:=D _ ⟨r,c,rfl,rfl⟩;have O:=i _ _ g;ext;exists d,_,rfl,i _ _ f.dk,?_;ext;refine ur (λp=>?_) (λp=>?_)
   .ext;exists by walk_at "len",o (by omega) _ i
   .ext;exact l (by omega) _ i
#synth yks ["self","name","links"] ["self","name"] yvx
inductive ym9(a:Ads)(vs:Υ)(H:Hp)(Q:VK)(E':XK):Prop
 |mk(st ds d:x0)(vl vm vc:V)(n:Nat)(kd:Ξ)(ps:Λ)(w:Nat)(P:qi Pc)(x:Φ)(L:Η)(_:vs=[.ref st,baV x])(_:H st=some (.ins a.A0 ds (xj vl vm (.ref d) vc)))(_:yap a H d n kd ps w P)(_:To P x L)(_:∀(l:x0)(H':Hp),H l=none->H' l=some (.lst (nmL L))->yv H H'->Q (.ref l) H')
def ypz:vz P w K mg Γ CX0 1 a.Ko a.Nj ["self","name"] (ym9 a):=by
 exists T.E4.F.ok,yks,Y;let⟨U,ds,d,vl,X,vc,n,kd,ps,w,P,x,L,rfl,v,C,N,k⟩:=h;exists 2,1,yd (yo (i:=2) yks.nd rfl (Or.inl rfl) (xc uo)) (yd (je PassesOwn.never (yr yae (pv 1) zd (yx _)) (yd (yw (è PySem.F.plainAttrs_list PySem.F.slot_list_append PySem.F.type_list_append xh (pv 2) (pa1 (pv 1)))) (yc (yo (i:=1) yks.nd rfl (Or.inl rfl) (yn (uc (zg Y) (yn (pv 0) rfl) (pv 1) (λF F=>rfl)) rfl))))) (yd (yw (yj5 PySem.F.plainAttrs_list PySem.F.slot_list_reverse PySem.F.type_list_reverse ō (pv 2))) (yc (yq (pv 2)))));exists by walk_at "len",λl c=>?_
 ext
 refine⟨λm σ' G=>∃(y:Φ)(R S:Η),σ'=[some (.ref U),some (baV y),some (.ref l)]/\To P y R/\R++S=L/\G l=some (.lst (nmL S).reverse)/\yv H G/\m=R.length,
  ⟨_,x,L,[],rfl,N,cP L,ya,y7 c,rfl⟩,?_⟩
 rintro m σ2 G ⟨y,R,S,rfl,M,f,j,B,rfl⟩;have O:=B _ _ v;have a1:=C.same B;have D:=To.len C N;have a0:S.length<=61:=by rw[<- f,bq]at D;omega
 ext
 cases y with
 |none =>
  refine yql (λF=>?_) (λz=>absurd rfl z);have e:S=L:=by rw[show R=[]from M]at f;exact f
  ext;refine Â j ?_;ext;refine ya7 j ?_;rw[List.reverse_reverse,e];ext;exact k l _ c ya λb o z=>yf (yb z c) (B _ _ z)
 |some b =>
  refine yql (λz=>nomatch z) (λF=>?_)
  let⟨r,p,rfl,q⟩:=M;exists _,λσ' H' z=>z,?_;ext;refine Â j ?_;ext;refine x9 j (ve (by unfold nmL;rw[List.length_reverse,bf];omega)) ?_;have g:yv H (upd G l (HO.lst ((nmL S).reverse++[baV (some r.nm)]))):=λb o e=>yf (yb e c) (B _ _ e);have u:upd G l (HO.lst ((nmL S).reverse++[baV (some r.nm)])) l=some (HO.lst ((nmL S).reverse++[baV (some r.nm)])):=ya;generalize upd G l (HO.lst ((nmL S).reverse++[baV (some r.nm)]))=G' at g u⊢;have J:=g _ _ v;have t:=C.same g;have Z:=(t.ob r p).1;ext;exists d,_,rfl,t.get p,?_;ext;exists r.path.length,?_,r.bs,r.path,(r.nm,r.tx)::S,rfl,C.wf r p,?_,?_,g,rfl
  .rw[q,bq,cj];omega
  .rw[<- f,q,cz];rfl
  .rw[yr1];exact u
#synth yj8 ["self","name","links","link"] ["self","name"] ytw
inductive Ō(K:xr)(a:Ads)(vs:Υ)(H:Hp)(Q:VK)(E':XK):Prop
 |mk(st ds ll d c dc p cl ct:x0)(lk tp:Μ)(n:Nat)(kd:Ξ)(ps:Λ)(mo w:Nat)(P:qi Pc)(L:Η)(ks:Υ)(U:Ν)(x:Φ)(L':Η)(_:vs=[.ref st,baV x])(_:jl K a H st ds ll d c dc p cl ct lk tp n kd ps mo w P L ks U)(_:To P x L')(_:∀(c' dc' p' cl' ct':x0)(ks':Υ)(U':Ν)(H':Hp),jl K a H' st ds ll d c' dc' p' cl' ct' lk tp n kd ps mo w P L' ks' U'->Go (StO st c cl ct U) H H' (StO st c' cl' ct' U')->NK H ks ks'->(V.non∈ks'->V.non∈ks.take L'.length)->Q (.ref c') H')
def ye6:vz P w K mg Γ (CXe P w) 12 a.Kp a.Nk ["self","name"] (Ō K a):=by
 exists T.Cb.F.okE,yj8,hr;let⟨O,ds,ll,d,c,dc,p,cl,ct,lk,tp,n,kd,ps,mo,w,P,L,ks,U,x,t,rfl,N,hL,k⟩:=h;have a6:=N.me;refine yh (yo (i:=2) yj8.nd rfl (Or.inl rfl) (xg (pv 0) T.A3 T.E4.m (ypz T) hr.m T.E4.B .nil v7 (pa1 (pv 1)))) ?_;refine yh (jw (wa (yr (Ô hr.units) (yn (yn (pv 0) rfl) rfl) (ua jr (pv 2) uv (uk (pcB yp T.Aa (pa1 (yn (yn (pv 0) rfl) rfl))))) (yx _)) (yc (y9 (pv 0) (ub T.Dd (yfc T) hr.m rfl T.Dc T.Cu.B .nil yz (pa1 (yn (pv 0) rfl))) rfl)) y6)) ?_;refine yh (PS.nox (xz PassesOwn.never rfl (vx (ua jr (pv 2) (uk (pcB yp T.Aa (pa1 (yn (yn (pv 0) rfl) rfl)))) uv)) (vn (i:=3) yj8.nd rfl (Or.inl rfl)) (yc (yw (vh (yn (pv 0) rfl) T.Ak T.Hz.m (yyf T) hr.m T.Hz.B .nil vg (pac (pv 3) (pac (yn (uc (zg hr) (yn (pv 0) rfl) (pv 3) (λB B=>rfl)) rfl) (pa1 (yn (pv 0) rfl))))))))) ?_;exists 2,2,yc (yq (yn (pv 0) rfl));exists O,ds,d,_,_,_,n,kd,ps,w,P,x,t,rfl,a6,N.pz,hL,λl H1 aC ad S1=>?_;have ax:=S1 _ _ a6;have a9:=N.same S1;have az:=a9.ch.me;have a7:=a9.ch.hl;let⟨y,hy⟩:=N.way;have au:=To.len N.pz hL;have as:=To.len N.pz hy;ext;exists λσ2 G=>∃(W R p2 f j:x0)(D:Υ)(U2:Ν)(C:Η),σ2=[some (.ref O),some (baV x),some (.ref l),none]/\jl K a G O ds ll d W R p2 f j lk tp n kd ps mo w P C D U2/\Go (StO O c cl ct U) H G (StO O W f j U2)/\C=t.take C.length/\C.length<=t.length/\G l=some (.lst (nmL t))/\NK H ks D/\(V.non∈D->V.non∈ks.take t.length),?_,?_
 .ext;refine x5 (SqL.of a7) ?_;ext;refine yb4 (SqL.of ad) λq hq0=>?_;rw[υ,jc,ø];exists hq0,H2,S2,e2;have a5:=S1.trans S2;have I:=N.same a5;have a4:=I.me;have a2:=S2 _ _ ad;rw[â]at e2;have a3:=I.ch.hl;rw[â]at a3;refine yb3 _ _ (hy.ok N.pz) (λz hz=>hL.ok N.pz z (by let⟨u,hu,rfl⟩:=br.mp hz;exact br.mpr ⟨u,cH hu,rfl⟩)) (SqL.of a3) (SqL.of e2) ?_;by_cases he:L.map (·.1)=(t.take L.length).map (·.1)
  .rw[bv he];exists false,rfl,ĳ ?_;have e3:=To.ahead N.pz.nd N.pz.wf hy hL (by rw[ø];exact yoe he);have e4:=congrArg List.length e3;rw[bI]at e4;exists c,dc,p,cl,ct,ks,U,L,rfl,I,Go.refl.same a5,e3,by omega,a2,.refl,λz=>by rw[cn (by rw[N.ch.tx.len];omega)];exact z
  .rw[bD he];exists true,rfl,Ń ?_;ext;intro c' Z nc ae aB;have SQ:yv H2 (upd (upd H2 Z (.own c')) c' (.ins a.A1 Z [])):=λb o e=>by rw[yk (yb e nc),yk (yb e ae)];exact e
   exists c',Z,ll,n,lk,tp,kd,ps,rfl,ya,SQ _ _ I.lo,I.n1,I.n6,I.row.same SQ,λp' ao ai U' HE X aa BE B=>⟨rfl,?_⟩;let⟨hR,gR,SE,hN⟩:=I.re nc ae X aa BE;have av:=SE _ _ a4;ext
   exists c',Z,p',ao,ai,[],U',[],rfl,hR,gR.ahead a5,rfl,bK _,yf (λz=>by rw[z,a4]at a2;cases a2) (SE _ _ a2),.nil,λz=>nomatch z
 .rintro σ2 G ⟨W,R,p2,f,j,D,U2,C,rfl,hG,go,al,af,am,aj,ah⟩;have ar:=hG.me;have aD:=hG.ch.me;have a8:=hG.ch.hl;ext;refine x5 (SqL.of a8) ?_;ext;refine yb4 (SqL.of am) λq hq0=>?_;rw[υ,ym0];have S1:=y7 (o:=(HO.lst ((nmL t).drop C.length))) hq0;have e1:upd G q (HO.lst ((nmL t).drop C.length)) q=some (HO.lst ((nmL t).drop C.length)):=ya;generalize upd G q (HO.lst ((nmL t).drop C.length))=G1 at S1 e1⊢
  have aq:∀S F,Go (StO O W f j U2) G1 F (StO O W f j S)->jl K a G O ds ll d W R p2 f j lk tp n kd ps mo w P C D U2->F q=some (HO.lst ((nmL t).drop C.length)):=λS F g hG=>g.fr _ _ e1 λw=>by
   let⟨o,e⟩:=hG.lvO q w;rw[hq0]at e;cases e
  exists q,rfl,⟨_,SqL.of e1⟩,x8 (K:=K) (a:=q) (xs:=(nmL t).drop C.length) (λi σ2 F=>∃(v:Ψ)(M:Υ)(S:Ν),σ2=[some (.ref O),some (baV x),some (.ref l),v]/\jl K a F O ds ll d W R p2 f j lk tp n kd ps mo w P (t.take (C.length+i)) M S/\Go (StO O W f j U2) G1 F (StO O W f j S)/\NK G1 D M/\(V.non∈M->V.non∈D)) ?_ ?_ ?_ ?_
  .rw[Nat.add_zero,<- al];exists none,D,U2,rfl,hG.same S1,Go.refl,.refl,id
  .rintro i σ2 F _ ⟨v,M,S,rfl,J,g,a0,a1⟩;exact SqL.of (aq S F g hG)
  .rintro i z σ2 F hz ⟨v,M,S,rfl,J,g,a0,a1⟩
   have hj:C.length+i<t.length:=by
    rcases Nat.lt_or_ge (C.length+i) t.length with z|z
    .exact z
    .rw[cg (by rw[cI,υ];omega)]at hz;cases hz
   let⟨r,Y,e3,e4,e5⟩:=hL.at' N.pz.wf hj
   obtain rfl:z=.str r.nm:=by
    rw[List.getElem?_drop,â,bS,bo,bi hj,e3]at hz;cases hz;rfl
   have ab:=J.me;have aE:=J.ch.me;let⟨aw,ac⟩:=J.pz.ob r Y;ext;exists d,_,rfl,J.pz.get Y,?_;ext;have ap:=J.pz.sz r Y;have hb:=J.wm;have hm:=yj6 (L:=t.take (C.length+i)) (w:=w) (λy hy=>(hL.sz N.pz y (cH hy)).2) hb.2 (by rw[bI];omega);have ak:=J.mo1;have ay:=yek (n:=n) (kd:=kd) (ps:=ps) (pre:=Ú ((t.take (C.length+i)).map (·.2))) (ts:=r.tx) J.n1 J.n6 (jn _) (by omega);exists W,R,p2,f,j,n,kd,ps,t.take (C.length+i),M,mOf (t.take (C.length+i)),S,r.dl,r.nm,r.tx,[],mo,rfl,J.ch,by rw[bI];omega,ap.1,?_,λw=>J.nw r.dl (.inr (.inr (.inr ⟨r,Y,.inr rfl⟩))) (.inr (.inr (.inr w))),(λb hb=>by cases hb),by rw[cP];omega,by omega,ak,by omega,λq3 U4 F2 ag X g2=>?_
   .rw[cP,<- e4];exact ac
   rw[<- yd6,<- e3,<- bL hj]at X;let⟨h4,g4⟩:=J.go X g2 ⟨_,e5⟩;ext;exists _,_,U4,rfl,h4,g.trans g4,a0.app (λq e=>by cases e;exact g.free ag),λz=>a1 ((bP.mp z).elim id λy=>by cases bF.mp y)
  .rintro σ2 F ⟨v,M,S,rfl,J,g,a0,a1⟩;rw[cI,υ,Nat.add_sub_cancel' af,bZ]at J;have ab:=J.me;ext;exact k W R p2 f j M S F J (go.trans (g.ahead S1)) (aj.trans a0 λq e=>go.free (S1.free e)) λz=>ah (a1 z)
def Ã.lvW{H:Hp}{c ll:x0}{n:Nat}{kd:Ξ}{ps:Λ}{ks:Υ}{M:Nat}{W:Ν}(h:Ã K a H c dc p ll tl n kd ps L ks M W):∀x,StW c ll tl W x->∃o,H x=some o:=λx b=>by
 rcases b with z|z|z|z
 .exists _,by rw[z];exact h.me
 .exists _,by rw[z];exact h.hl
 .exists _,by rw[z];exact h.ht
 .exact h.fz.live x z
def Ã.butM{H H':Hp}{c ll:x0}{n:Nat}{kd:Ξ}{ps:Λ}{ks:Υ}{M:Nat}{W:Ν}(h:Ã K a H c dc p ll tl n kd ps L ks M W){o:HO}(hq:H q=some o)(ho:ywa o=true)(nq:¬StW c ll tl W q)(B:But q H H'):Ã K a H' c dc p ll tl n kd ps L ks M W:=by
 have b:∀{x:x0}{d:Υ},H x=some (.lst d)->x≠q:=λ{x d}e z=>by rw[z,hq]at e;cases e;cases ho
 exists B _ _ h.me λz=>nq (.inl z.symm),h.fz.frame (W2:=λx=>x=q) (λx z=>⟨o,by rw[show x=q from z];exact hq,.inl ho⟩) (λx w z=>nq (.inr (.inr (.inr (by rw[<- show x=q from z];exact w))))) (λx o e f=>B x o e f),B _ _ h.hl (b h.hl),B _ _ h.ht (b h.ht),h.tx.mono λx d e g=>⟨B _ _ e (b e),g⟩,h.nc,h.nll,h.ntl,h.ne
def To.more{P:qi Pc}{q:Pc}{x:Φ}(h:To P x L):To (P++[q]) x L:=by
 cases x with
 |none=>exact h
 |some b =>
  let⟨r,a,e⟩:=h;exists r,List.mem_append_left _ a,e
section
variable{H H1 H2 H3:Hp}{st ll d c ct:x0}{lk:Μ}{n:Nat}{kd:Ξ}{ps:Λ}{mo w:Nat}{P:qi Pc}{ks ks':Υ}
def jl.put(h:jl K a H st ds ll d c dc p cl ct lk tp n kd ps mo w P L ks U){b:Str}{x:Φ}{r ob od:x0}(hc:Ã K a H1 c dc p cl ct n kd ps (L++[(b,ts)]) ks' (mOf L+6*(dec ts).length) U')(g:Go (ChW cl ct U) H H1 (ChW cl ct U'))(hr0:H r=none)(hr:H1 r=some (.lst ((δ n kd ps (Ú (L.map (·.2))) ts).map V.int)))(hob0:H1 ob=none)(S:yv H1 H2)(hob:H2 ob=some (.ins a.A8 od (Ġ (baV x) (.ref r))))
  (hL:To P x L) (hL6:L.length<=60) (hts:Sgs ts) (htz:ts.length<=w) (hb1:nmS b=true) (hb2:PyData.strOk b=true) (hno:∀q,q∈P->q.nm≠b) (hP:P.length<60):
  jl K a (upd H2 d (.dK (pcs (P++[⟨b,x,L,ts,ob,od,r⟩])))) st ds ll d c dc p cl ct lk tp n kd ps mo w (P++[⟨b,x,L,ts,ob,od,r⟩]) (L++[(b,ts)]) ks' U'/\Go (λy=>y=d\/StO st c cl ct U y) H (upd H2 d (.dK (pcs (P++[⟨b,x,L,ts,ob,od,r⟩])))) (λy=>y=d\/StO st c cl ct U' y):=by
 have g1:Go (StW c cl ct U) H H1 (StW c cl ct U'):=g.or (Y:=λx=>x=c);have f:∀x o,H x=some o->(x=st\/x=ll\/x=d\/∃q,q∈P/\(x=q.ob\/x=q.dl))->H2 x=some o:=λx o e v=>S _ _ (g1.fr x o e (h.nw x v));have m:=f _ _ h.me (.inl rfl);have k:=f _ _ h.lo (.inr (.inl rfl));have j:=f _ _ h.pz.dk (.inr (.inr (.inl rfl)));have s:=g1.apart (λx v=>h.lv x v) h.nw;have u:ux H2 n lk kd tp ps:=h.row.fr λx I e=>S _ _ (g1.fr _ _ e (h.ch.noTup e));have C:Ã K a H2 c dc p cl ct n kd ps (L++[(b,ts)]) ks' (mOf (L++[(b,ts)])) U':=by rw[yd6];exact hc.same S
 have D:¬StW c cl ct U' ob:=λz=>by
  let⟨o,e⟩:=hc.lvW ob z;rw[hob0]at e;cases e
 have G:¬StW c cl ct U' r:=λz=>by
  rcases z with z|z|z|z
  .rw[z,h.ch.me]at hr0;cases hr0
  .rw[z,h.ch.hl]at hr0;cases hr0
  .rw[z,h.ch.ht]at hr0;cases hr0
  .exact hc.fz.sh.ints hr (ym4 h.n1 h.n6 (jn _)) z
 exists⟨yf (λz=>by rw[z,j]at m;cases m) m,h.n1,h.n6,yf (λz=>by rw[z,j]at k;cases k) k,u.fr λx I e=>yf (λz=>by rw[z,j]at e;cases e) e,⟨ya,λq i=>?_,?_,λq i=>?_,λq i=>?_,?_,λq i=>?_⟩,C.butM j rfl (s d (.inr (.inr (.inl rfl)))) But.upd,λy t=>?_,h.mo1,h.wm,⟨some b,_,bT _ (bF.mpr rfl),rfl,rfl⟩⟩,⟨λy o e E=>?_,λy z=>?_,λy o e=>?_⟩
 .rcases bP.mp i with z|z
  .have A:=f _ _ (h.pz.ob q z).1 (.inr (.inr (.inr ⟨q,z,.inl rfl⟩)));have l:=f _ _ (h.pz.ob q z).2 (.inr (.inr (.inr ⟨q,z,.inr rfl⟩)));exists yf (λz=>by rw[z,j]at A;cases A) A,yf (λz=>by rw[z,j]at l;cases l) l
  .obtain rfl:=bF.mp z;have l:=S _ _ hr;exists yf (λz=>by rw[show ob=d from z,j]at hob;cases hob) hob,yf (λz=>by rw[show r=d from z,j]at l;cases l) l
 .rw[bH];refine List.nodup_append.mpr ⟨h.pz.nd,(by simp),λy t z F e=>?_⟩;let⟨q,i,rfl⟩:=br.mp t;rw[List.map_singleton,bF]at F;exact hno q i (e.trans F)
 .rcases bP.mp i with z|z
  .exact(h.pz.wf q z).more
  .obtain rfl:=bF.mp z;exact hL.more
 .rcases bP.mp i with z|z
  .exact h.pz.sz q z
  .obtain rfl:=bF.mp z;exists hts,htz,hL6,λy t=>hL.sz h.pz y t
 .rw[bq,cj];omega
 .rcases bP.mp i with z|z
  .exact h.pz.nm q z
  .obtain rfl:=bF.mp z;exists hb1,hb2
 .rcases t with z|z|z|⟨q,i,z⟩
  .exact s y (.inl z)
  .exact s y (.inr (.inl z))
  .exact s y (.inr (.inr (.inl z)))
  .rcases bP.mp i with B|B
   .exact s y (.inr (.inr (.inr ⟨q,B,z⟩)))
   .obtain rfl:=bF.mp B;rcases z with z|z
    .rw[z];exact D
    .rw[z];exact G
 .exact yf (λz=>E (.inl z)) (S _ _ (g1.fr y o e λz=>E (.inr (.inr z))))
 .rcases z with z|z|z
  .exact .inl (.inl z)
  .exact .inl (.inr (.inl z))
  .exact(g1.nw y z).imp (λz=>.inr (.inr z)) id
 .obtain⟨J,M⟩:=g1.lv y o e;by_cases z:y=d
  .exists _,by rw[z];exact ya
  .exists J,yf z (S _ _ M)
end
#synth yk5 ["self","name","text","base","signs","data"] ["self","name","text","base"] ygx
inductive yjw(K:xr)(a:Ads)(vs:Υ)(H:Hp)(Q:VK)(E:XK):Prop
 | mk(st ds ll d c dc p cl ct:x0)(lk tp:Μ)(n:Nat)(kd:Ξ)(ps:Λ)(mo w:Nat)(P:qi Pc)(L:Η)(ks:Υ)(U:Ν)(b:Str)(x:Φ)(tx:x0)(ts:Ρ)(_:vs=[.ref st,.str b,.ref tx,baV x])(_:jl K a H st ds ll d c dc p cl ct lk tp n kd ps mo w P L ks U)(_:nmS b=true)(_:PyData.strOk b=true)(_:jj H tx ts 1000)(_:(∀y,x=some y->nmS y=true))(_:P.length<60)(_:(mo<ts.length->∀H',yv H H'->E (.ref a.Ai) none H'))(_:(ts.length<=mo->(∃r,r∈P/\r.nm=b)->∀H',yv H H'->E (.ref a.Aw) none H'))(_:(ts.length<=mo->(∀q,q∈P->q.nm≠b)->∀y,x=some y->(∀q,q∈P->q.nm≠y)->∀H',yv H H'->E (.ref a.A9) none H'))(_:(ts.length<=mo->(∀q,q∈P->q.nm≠b)->∀L',To P x L'->ts.length<=w/\L'.length<=60/\
 ∀(ob od dl c' dc' p' cl' ct':x0)(ks':Υ)(U':Ν)(H':Hp),jl K a H' st ds ll d c' dc' p' cl' ct' lk tp n kd ps mo w (P++[⟨b,x,L',ts,ob,od,dl⟩]) (L'++[(b,ts)]) ks' U'->H ob=none->H dl=none->Go (λy=>y=d\/StO st c cl ct U y) H H' (λy=>y=d\/StO st c' cl' ct' U' y)->NK H ks ks'->Q .non H'))
def yob:vz P w K mg Γ (CXe P w) 13 a.D9 a.Nf ["self","name","text","base"] (yjw K a):=by
 exists T.Rw.okE,yk5,v;let⟨R,ds,ll,d,c,dc,p,cl,ct,lk,tp,n,kd,ps,mo,w,P,L,ks,U,b,x,tx,ts,rfl,N,W,ao,C,I,ai,kL,kT,kN,k⟩:=h;have av:=N.me;refine yh (yw (x3 (ykg T) v.m T.Ey yz (pa1 (pv 1)))) ?_;refine yh (yo (i:=4) yk5.nd rfl (Or.inl rfl) (x3 (ygr T) v.m T.Fo yz (pa1 (pv 2)))) ?_;refine yh (yw (x3 (yy2 T) v.m T.Od yz (pa1 (pv 3)))) ?_;refine yh (yw (vh (pv 0) T.A3 T.Dz.m (yo2 T) v.m T.Dz.B .nil yz (pa1 (pv 4)))) ?_;refine yh (yw (vh (pv 0) T.A3 T.I0.m (yz5 T) v.m T.I0.B .nil yz (pac (pv 1) (pa1 (pv 3))))) ?_;refine yh (yo (i:=5) yk5.nd rfl (Or.inl rfl) (xg (vh (pv 0) T.A3 T.Cb.m (ye6 T) v.m T.Cb.B .nil yz (pa1 (pv 3))) T.Ak T.Hy.m (yzv T) v.m T.Hy.B .nil v7 (pac (pv 1) (pa1 (pv 4))))) ?_;exists _,(yc (yaf (zg v) (yn (pv 0) rfl) (pv 1) (ĥ T.Qo (vae T) v.m rfl T.Qn T.Ez.B .nil v7 (pac (pv 3) (pa1 (pv 5)))) rfl)),?_;exists 4,2;have ay:=ġ W;have F:∀y,x=some y->nmS y=true/\y.length<=8:=λy e=>⟨I y e,ġ (I y e)⟩;have ag:=N.wm;have aq:=N.mo1;ext;exists .str b,"str",rfl,.str b,(λs e=>by cases e;omega),λB H1 S1=>?_,λz=>by rw[show nmV (.str b)=nmS b from rfl,W]at z;cases z
 have f:=C.same S1;ext;exists .ref tx,_,rfl,.lst f.l,.inr ⟨ts.map V.int,Î f.l f.s (by have:=f.z;omega),λsg H2 a6 a4 S2=>?_⟩;ext
 have S:∃nt,ue K H2 (baV x) (.type nt):=by
  cases x with
  |none=>exists _,.non
  |some y=>exists _,.str y
 let⟨nt,S⟩:=S
 have ak:baV x=.non\/nmV (baV x)=true:=by
  cases x with
  |none=>exact .inl rfl
  |some y=>exact .inr (F y rfl).1
 exists baV x,nt,rfl,S,(λs e=>?_),λB H3 S3=>?_,λz1 z2=>absurd ak λz=>z.elim z1 λz=>by rw[z2]at z;cases z
 .cases x with
  |none=>cases e
  |some y=>cases e;have:=(F _ rfl).2;omega
 have u:=S1.trans (S2.trans S3);have a1:=N.same u;have J:=a1.me;have M:=S3 _ _ a4;ext;exists R,ds,sg,_,_,_,mo,_,rfl,J,M,λj=>?_,λz=>kL (by rw[bf]at z;omega) _ u;have j:ts.length<=mo:=by rw[bf]at j;omega
 ext;exists R,ds,d,_,_,_,n,kd,ps,w,P,b,x,rfl,J,a1.pz,(λy e=>⟨(F y e).1,by have:=(F y e).2;omega⟩),(λhx=>kT j hx _ u),λD=>⟨λy e ae H4 S4=>kN j D y e ae _ (u.trans S4),λL' hL=>⟨λz=>absurd z (by omega),λB H4 S4=>?_⟩⟩;let⟨ap,am,k⟩:=k j D L' hL;have t:=u.trans S4;have a5:=N.same t;have as:=a5.me;have G:=S4 _ _ M;ext;exists R,ds,ll,d,c,dc,p,cl,ct,lk,tp,n,kd,ps,mo,w,P,L,ks,U,x,L',rfl,a5,hL,λc' a2 p' Z O al U' H5 X g5 ab B=>?_;have aA:=X.ch.me
 have aa:¬StO R c cl ct U sg:=λz=>by
  let⟨o,e⟩:=N.lvO sg z;rw[S1.free a6]at e;cases e
 have a8:=g5.fr _ _ G aa;have a3:¬StO R c' Z O U' sg:=λz=>(g5.nw sg z).elim aa λe=>by rw[G]at e;cases e
 have hm:=yj6 (L:=L') (w:=w) (λy hy=>(hL.sz N.pz y hy).2) ag.2 (by omega);have az:=xl ts;have ax:=C.z;ext;exists c',a2,p',Z,O,n,kd,ps,L',al,mOf L',U',sg,b,ts,rfl,X.ch,by omega,⟨a8,C.s,by omega⟩,λz=>a3 (.inr (.inr (.inr (.inr z)))),by omega,λr U6 H6 a0 af ad g6=>?_
 have ah:=g6.fr _ _ X.me λz=>X.nw R (.inl rfl) (.inr z);have an:=g6.fr _ _ X.pz.dk λz=>X.nw d (.inr (.inr (.inl rfl))) (.inr z);ext;intro ob od g a7 aw;have SQ:yv H6 (upd (upd H6 od (.own ob)) ob (.ins a.A8 od [])):=λb o e=>by rw[yk (yb e g),yk (yb e a7)];exact e
 exists ob,od,baV x,.ref r,rfl,ya,λH7 a9 B7=>⟨rfl,?_⟩;have S7:yv H6 H7:=λy o e=>B7 _ _ (SQ _ _ e) (yb e g);have ar:=S7 _ _ ah;ext;exists d,_,rfl,ylb.k (k:=.inr b) (S7 _ _ an) (ve (by unfold pcs;rw[bf];omega)),?_;rw[Ð _ (yoy D)];let⟨z1,z2⟩:=X.put (x:=x) ad g6 a0 af g S7 a9 hL am C.s ap W ao D ai;have e8:pcs (P++[⟨b,x,L',ts,ob,od,r⟩])=pcs P++[(.inr b,.ref ob)]:=by unfold pcs;rw[bH];rfl
 rw[e8]at z1 z2;have ac:∀{y:x0},H6 y=none->H y=none:=λ{y}e=>t.free (g5.free (g6.free e))
 exact k ob od r c' a2 p' Z O _ U6 _ z1 (ac g) (t.free (g5.free a0)) (((g5.ahead t).or (Y:=λy=>y=d)).trans z2) ((NK.refl.trans ab λB e=>t.free e).app λq e=>nomatch e)
def Sto.putE{H:Hp}{st:x0}{C:Cf}{P:qi Pd}{X:Sx}{Q:VK}{E:XK}(h:Sto K a H st C P X){b:Str}{x:Φ}{tx:x0}(hb:okN b)(htx:jj H tx ts 1000)(hx:∀y,x=some y->nmS y=true)(hP:P.length<60)
  (kL:C.mo<ts.length->∀H',yv H H'->E (.ref a.Ai) none H') (kT:ts.length<=C.mo->(∃r,r∈P/\r.nm=b)->∀H',yv H H'->E (.ref a.Aw) none H') (kN:ts.length<=C.mo->(∀q,q∈P->q.nm≠b)->∀y,x=some y->(∀q,q∈P->q.nm≠y)->∀H',yv H H'->E (.ref a.A9) none H')
  (k:ts.length<=C.mo->(∀q,q∈P->q.nm≠b)->∀L,ToD P x L->ts.length<=C.w/\L.length<=60/\∀Y H',Sto K a H' st C (P++[⟨b,x,L,ts⟩]) Y->Gx X H H' Y->Q .non H'):yjw K a [.ref st,.str b,.ref tx,baV x] H Q E:=by
 let⟨F,J,d,c,dc,p,O,ct,I,G,v,L0,Z,U,s,rfl,rfl⟩:=h;rw[bf]at hP
 have l:∀{z:Str},(∀q,q∈v->q.nm≠z)->∀q,q∈v.map Pc.pd->q.nm≠z:=λ{z}hz q i=>by
  let⟨u,M,rfl⟩:=br.mp i;exact hz u M
 exists st,F,J,d,c,dc,p,O,ct,I,G,C.n,C.kd,C.ps,C.mo,C.w,v,L0,Z,U,b,x,tx,ts,rfl,s,hb.1,hb.2,htx,hx,hP,kL,(λf ⟨r,N,e⟩=>kT f ⟨r.pd,br.mpr ⟨r,N,rfl⟩,e⟩),(λf t y e h3=>kN f (l t) y e (l h3)),λf t L hL=>?_;let⟨k1,k2,k⟩:=k f (l t) L (ĝ.mpr hL);exists k1,k2,λob od dl T A p' D o m R H' S j B g nk=>k _ H' ⟨F,J,d,T,A,p',D,o,I,G,_,_,m,R,S,by rw[bH];rfl,rfl⟩ (Gx.of g nk λq i=>?_);rcases bP.mp i with z|z
 .exact .inl z
 .rw[bF.mp z];exact .inr ⟨j,B⟩
def Sto.put{H:Hp}{st:x0}{C:Cf}{P:qi Pd}{X:Sx}{Q:VK}{E:XK}(h:Sto K a H st C P X){b:Str}{x:Φ}{tx:x0}(hb:okN b)(htx:jj H tx ts C.w)(hL:ToD P x L)(hno:∀q,q∈P->q.nm≠b)(hP:P.length<60)
  (k:∀Y H',Sto K a H' st C (P++[⟨b,x,L,ts⟩]) Y->Gx X H H' Y->Q .non H'):yjw K a [.ref st,.str b,.ref tx,baV x] H Q E:=by
 have m:=h.cf;have i:=htx.z
 have f:∀y,x=some y->∃r,r∈P/\r.nm=y:=λy e=>by
  subst e;let⟨r,c,e,_⟩:=hL;exact⟨r,c,e⟩
 refine h.putE hb ⟨htx.l,htx.s,by omega⟩ (λy e=>?_) hP (λz=>absurd z (by omega)) (λZ ⟨r,c,e⟩=>absurd e (hno r c)) (λZ Z y e g=>?_) λZ Z j d=>⟨i,?_,?_⟩
 .obtain⟨r,c,e⟩:=f y e;rw[<- e];exact(h.nm r c).1
 .obtain⟨r,c,e⟩:=f y e;exact absurd e (g r c)
 .have:=d.len h.pw;omega
 .rw[ToD.uniq h.nd d hL];exact k
theorem yb7.get{H:Hp}:∀{L:Η}{ks:Υ},yb7 H U L ks->∀{j:Nat}(hj:j<L.length),∃k,ks[j]?=some k/\(k=.non\/∃q,k=.ref q/\H q=some (.lst (L[j].2.map V.int))/\¬U q)
 |[],_,_,j,hj=>absurd hj (bJ j)
 |x::r,_,⟨k,ks',e,z,h⟩,0,hj=>⟨k,by rw[e];rfl,z⟩
 |x::r,_,⟨k,ks',e,z,h⟩,j+1,hj=>by
  let⟨a,c,b⟩:=h.get (Nat.lt_of_succ_lt_succ hj);exists a,by rw[e,List.getElem?_cons_succ];exact c,b
#synth yom ["self","name","links"] ["self","name"] yvm
inductive yf6(K:xr)(a:Ads)(vs:Υ)(H:Hp)(Q:VK)(E':XK):Prop
 |mk(st ds ll d c dc p cl ct:x0)(lk tp:Μ)(n:Nat)(kd:Ξ)(ps:Λ)(mo w:Nat)(P:qi Pc)(L:Η)(ks:Υ)(U:Ν)(x:Φ)(L':Η)(_:vs=[.ref st,baV x])(_:jl K a H st ds ll d c dc p cl ct lk tp n kd ps mo w P L ks U)(_:To P x L')(_:∀(c' dc' p' cl' ct':x0)(L2:Η)(ks':Υ)(U':Ν)(r:x0)(cx:Μ)(H1 H':Hp),jl K a H1 st ds ll d c' dc' p' cl' ct' lk tp n kd ps mo w P L2 ks' U'->Go (StO st c cl ct U) H H1 (StO st c' cl' ct' U')->NK H ks ks'->yv H1 H'->H1 r=none->H' r=some (.lst (refs cx L'.length))->(∀i,i<L'.length->H1 (cx i)=none/\cx i≠r/\H' (cx i)=some (.lst ((txi L' i).map V.int)))->Q (.ref r) H')
def vak:vz P w K mg Γ (CXe P w) 13 a.Kq a.Nl ["self","name"] (yf6 K a):=by
 exists T.I1.F.okE,yom,hr;let⟨M,ds,ll,d,c,dc,p,cl,ct,lk,tp,n,kd,ps,mo,w,P,L,ks,U,x,g,rfl,R,hL,k⟩:=h;have ac:=R.me;refine yh (yo (i:=2) yom.nd rfl (Or.inl rfl) (xg (pv 0) T.A3 T.E4.m (ypz T) hr.m T.E4.B .nil v7 (pa1 (pv 1)))) ?_;refine yh (jw (wa (yr (vab hr.units) zd (ua jr (yn (yn (pv 0) rfl) rfl) uv (uk (pcB yp T.Aa (pa1 (pv 2))))) (by with_unfolding_all rfl)) (yc (y9 (pv 0) (ub T.Dd (yfc T) hr.m rfl T.Dc T.Cu.B .nil yz (pa1 (yn (pv 0) rfl))) rfl)) y6)) ?_;refine yh (jw (wa (yr (Ô hr.units) (ua jr (yn (yn (pv 0) rfl) rfl) uv (uk (pcB yp T.Aa (pa1 (pv 2))))) (pv 2) (yx _)) (yc (yw (vh (pv 0) T.A3 T.Cb.m (ye6 T) hr.m T.Cb.B .nil yz (pa1 (pv 1))))) y6)) ?_;exists 2,1,yc (yq (wb (js:=[]) (ys:=[]) rfl (vx (ua jr (yn (yn (pv 0) rfl) rfl) uv (uk (pcB yp T.Aa (pa1 (pv 2)))))) (λC s2 H2 fp=>(pcT (r:=yre K) w6 T.Af (pa1 (pv 0)))) rfl rfl (hyc:=yt) (hrel:=yt)));exists M,ds,d,_,_,_,n,kd,ps,w,P,x,g,rfl,ac,R.pz,hL,λl H1 av am S1=>?_;have aE:=S1 _ _ ac;have a6:=R.same S1;have aF:=a6.ch.me;have az:=a6.ch.hl;have af:=a6.ch.ht;have aB:=To.len R.pz hL;ext;exists λσ2 G=>∃(c2 a0 p2 N O:x0)(I:Υ)(U2:Ν)(L2:Η),σ2=[some (.ref M),some (baV x),some (.ref l)]/\jl K a G M ds ll d c2 a0 p2 N O lk tp n kd ps mo w P L2 I U2/\Go (StO M c cl ct U) H G (StO M c2 N O U2)/\NK H ks I/\V.non∉I.take g.length/\G l=some (.lst (nmL g))/\¬StO M c2 N O U2 l,?_,?_
 .ext;refine x5 (SqL.of am) ?_;ext;refine yb4 (SqL.of af) λq hq0=>?_;rw[υ,jc];exists hq0,H2,S2,e2;have a1:=S1.trans S2;have v:=R.same a1;have W:=v.me;have t:=S2 _ _ am;exists q,_,rfl,rfl,SqL.of e2,λz hz=>(R.ch.tx.mem z (cH hz)).imp id λ⟨q,ys,e,hq,_⟩=>⟨q,ys,e,SqL.of (a1 _ _ hq)⟩,?_;by_cases he:(ks.take g.length).any isN=true
  .rw[he];exists true,rfl,Ń ?_;ext;intro c' J nc an aH;have SQ:yv H2 (upd (upd H2 J (.own c')) c' (.ins a.A1 J [])):=λb o e=>by rw[yk (yb e nc),yk (yb e an)];exact e
   exists c',J,ll,n,lk,tp,kd,ps,rfl,ya,SQ _ _ v.lo,v.n1,v.n6,v.row.same SQ,λp' a7 a5 U' HE ap aj BE B=>⟨rfl,?_⟩;let⟨hR,gR,SE,hN⟩:=v.re nc an ap aj BE;have aD:=SE _ _ W;have ak:l≠M:=λz=>by rw[z,W]at t;cases t
   ext;exists c',J,p',a7,a5,[],U',[],rfl,hR,gR.ahead a1,.nil,by simp,yf ak (SE _ _ t),λz=>?_
   rcases z with z|z
   .exact ak z
   .rw[hN l z]at t;cases t
  .rw[Bool.eq_false_iff.mpr he];exists false,rfl,ĳ ?_;exists c,dc,p,cl,ct,ks,U,L,rfl,v,Go.refl.same a1,.refl,λz=>he (cU.mpr ⟨_,z,rfl⟩),t,λz=>?_;let⟨o,e⟩:=R.lvO l z;rw[av]at e;cases e
 .rintro σ2 G ⟨c2,a0,p2,N,O,I,U2,L2,rfl,hG,go,ae,ab,ai,ar⟩;have aA:=hG.me;have aJ:=hG.ch.me;have ag:=hG.ch.hl;ext;exists λσ2 F=>∃(c3 a8 p3 X Z:x0)(f:Υ)(U3:Ν)(L3:Η),σ2=[some (.ref M),some (baV x),some (.ref l)]/\jl K a F M ds ll d c3 a8 p3 X Z lk tp n kd ps mo w P L3 f U3/\Go (StO M c cl ct U) H F (StO M c3 X Z U3)/\NK H ks f/\V.non∉f.take g.length/\g=L3.take g.length/\F l=some (.lst (nmL g)),?_,?_
  .ext;refine x5 (SqL.of ai) ?_;ext;refine yb4 (SqL.of ag) λq hq0=>?_;rw[υ,jc,ø];exists hq0,G2,S2,e2;have a4:=hG.same S2;have W:=a4.me;have t:=S2 _ _ ai;let⟨y,hy⟩:=hG.way;have a2:=t;rw[â]at e2 a2;ext;refine yb3 _ _ (λz hz=>hy.ok R.pz z (by let⟨u,hu,rfl⟩:=br.mp hz;exact br.mpr ⟨u,cH hu,rfl⟩)) (hL.ok R.pz) (SqL.of e2) (SqL.of a2) ?_;by_cases he:(L2.take g.length).map (·.1)=g.map (·.1)
   .rw[bv he];exists false,rfl,ĳ ?_;exists c2,a0,p2,N,O,I,U2,L2,rfl,a4,go.same S2,ae,ab,To.ahead R.pz.nd R.pz.wf hL hy (by rw[ø];exact(yoe he).symm),t
   .rw[bD he];exists true,rfl,Ń ?_;ext;exists M,ds,ll,d,c2,a0,p2,N,O,lk,tp,n,kd,ps,mo,w,P,L2,I,U2,x,g,rfl,a4,hL,λc' J p' a7 a5 ay U' F hC Y aw hn=>?_;ext;exists c',J,p',a7,a5,ay,U',g,rfl,hC,(go.same S2).trans Y,ae.trans aw (λq e=>go.free (S2.free e)),λz=>ab (hn (cH z)),(bZ).symm,Y.fr _ _ t ar
  .rintro σ2 F ⟨c3,a8,p3,X,Z,f,U3,L3,rfl,hF,ax,aq,ao,ad,au⟩;have aC:=hF.me;have aL:=hF.ch.me;have al:=hF.ch.ht
   have aI:g.length<=L3.length:=by
    have e:=congrArg List.length ad;rw[bI]at e;omega
   ext;refine x5 (SqL.of au) ?_;ext;refine yb4 (SqL.of al) λq hq0=>?_;rw[υ,jc];have S1:=y7 (o:=(HO.lst (f.take g.length))) hq0;have e1:upd F q (HO.lst (f.take g.length)) q=some (HO.lst (f.take g.length)):=ya;generalize upd F q (HO.lst (f.take g.length))=F1 at S1 e1⊢;have aK:=hF.ch.tx.len;have a3:(f.take g.length).length=g.length:=by rw[bI];omega
   have a9:=hF.same S1;exists q,rfl,⟨_,SqL.of e1⟩,λD hD=>?_;refine ul (K:=K) (xs:=f.take g.length) (λi G=>∃cx:Μ,G D=some (.lst (refs cx i))/\(∀j,j<i->F1 (cx j)=none/\G (cx j)=some (.lst ((txi g j).map V.int))/\cx j≠D)/\yv F1 G)
    ⟨λB=>0,ya,λj hj=>absurd hj (bJ j),y7 hD⟩ (λi G B ⟨_,_,_,S⟩=>SqL.of (S _ _ e1)) (λi y G hy hi z=>?_) (λG z=>?_)
   .obtain⟨cx,gD,Y,S⟩:=z;rw[a3]at hi;let⟨k',ek,hk⟩:=a9.ch.tx.get (j:=i) (by omega);rw[List.getElem?_take,if_pos hi,ek]at hy;obtain rfl:k'=y:=by cases hy;rfl
    rcases hk with z|⟨q2,rfl,ah,_⟩
    .refine absurd ?_ ao;rw[<- z];exact bB (i:=i) (by rw[List.getElem?_take,if_pos hi];exact ek)
    have et:L3[i].2=txi g i:=by
     have e:=congrArg (λl=>l[i]?) ad;simp only[List.getElem?_take]at e;rw[if_pos hi]at e;unfold txi;rw[ck,bo,e,bi (by omega)];rfl
    rw[et]at ah;ext;exists q2,_,rfl,.inl (SqL.of (S _ _ ah)),λc hc0=>?_;have nc:c≠D:=(yb gD hc0).symm;exists hc0,G2,S2,hc2;refine we (n:=(f.take g.length).length) (S2 _ _ gD) (ve (by rw[vv];omega)) (by omega) ?_;exists upN cx i c,?_,λj hj=>?_,λb o e=>yf (yb e hD) (S2 _ _ (S b o e))
    .rw[ya,x6,wo]
     congr 3
     exact xy λj hj=>(wj hj).symm
    .by_cases z:j=i
     .rw[z,wo];exists S.free hc0,yf nc hc2,nc
     .have aa:j<i:=by omega
      rw[wj aa];let⟨g1,g2,g3⟩:=Y j aa;exists g1,yf g3 (S2 _ _ g2),g3
   .obtain⟨cx,gD,Y,S⟩:=z;rw[a3]at gD Y;exact k c3 a8 p3 X Z L3 f U3 D cx F1 G a9 (ax.same S1) aq S hD gD λi hi=>⟨(Y i hi).1,(Y i hi).2.2,(Y i hi).2.1⟩
#synth yx6 ["self","name"] yvv
inductive Ę(K:xr)(a:Ads)(vs:Υ)(H:Hp)(Q:VK)(E:XK):Prop
 | mk(st ds ll d c dc p cl ct:x0)(lk tp:Μ)(n:Nat)(kd:Ξ)(ps:Λ)(mo w:Nat)(P:qi Pc)(L:Η)(ks:Υ)(U:Ν)(x:V)(nt:String)(_:vs=[.ref st,x])(_:jl K a H st ds ll d c dc p cl ct lk tp n kd ps mo w P L ks U)(_:ue K H x (.type nt))(_:(∀s,x=.str s->s.length<=100000))(_:(nmV x=false->∀H',yv H H'->E (.ref a.Ah) none H'))(_:(∀b,x=.str b->nmS b=true->(∀q,q∈P->q.nm≠b)->∀H',yv H H'->E (.ref a.A9) none H'))(_:(∀r,r∈P->x=.str r.nm ->
 ∀(c' dc' p' cl' ct':x0)(L2:Η)(ks':Υ)(U':Ν)(q:x0)(H1 H':Hp),jl K a H1 st ds ll d c' dc' p' cl' ct' lk tp n kd ps mo w P L2 ks' U'->Go (StO st c cl ct U) H H1 (StO st c' cl' ct' U')->NK H ks ks'->yv H1 H'->H1 q=none->H' q=some (.lst (r.tx.map V.int))->Q (.ref q) H'))
def ypu:vz P w K mg Γ (CXe P w) 14 a.Kr a.Nm ["self","name"] (Ę K a):=by
 exists T.E5.F.okE,yx6,J;let⟨I,j,Z,d,c,Y,p,M,X,W,R,n,y,u,N,w,P,L,O,U,x,S,rfl,z,ty,hz,k1,k2,k3⟩:=h;have G:=z.me;exists 2,0,yd (yw (vh (pv 0) T.A3 T.Ca.m (yex T) J.m T.Ca.B .nil yz (pa1 (pv 1)))) (yc (yq (xi xm (vh (pv 0) T.A3 T.I1.m (vak T) J.m T.I1.B .nil yz (pa1 (pv 1))) (vcf yoj yg) (λF F=>rfl))));exists I,j,d,_,_,_,n,y,u,w,P,x,S,rfl,G,z.pz,ty,hz,k1,k2,λr f e hb H1 i=>?_;subst e;have b:=z.same i;have a0:=b.me;ext;exists I,j,Z,d,c,Y,p,M,X,W,R,n,y,u,N,w,P,L,O,U,some r.nm,r.path++[(r.nm,r.tx)],rfl,b,⟨r,f,rfl,rfl⟩,λc' C p' D q L2 o U' l cx HB H2 h2 g2 nk SB a1 k g=>?_;ext;let⟨f1,f2,f3⟩:=g r.path.length (by rw[bq,cj];omega);refine jy (v:=.ref (cx r.path.length)) (SqL.of k) ?_ ?_
 .rw[bq,cj,x6];exact yno _ _
 .ext;refine k3 r f rfl c' C p' D q L2 o U' _ HB H2 h2 (g2.ahead i) (NK.refl.trans nk λF e=>i.free e) SB f1 ?_;rw[f3];unfold txi;simp
def Sto.textof1{H:Hp}{st:x0}{C:Cf}{P:qi Pd}{X:Sx}{Q:VK}{E:XK}(h:Sto K a H st C P X){b:Str}(hb:nmS b=true)(k1:(∀q,q∈P->q.nm≠b)->∀H',yv H H'->E (.ref a.A9) none H')
  (k2:∀r,r∈P->r.nm=b->∀Y q H1 H',Sto K a H1 st C P Y->Gx X H H1 Y->yv H1 H'->H1 q=none->H' q=some (.lst (r.tx.map V.int))->Q (.ref q) H'):Ę K a [.ref st,.str b] H Q E:=by
 let⟨t,B,d,c,Z,p,G,T,A,v,R,L0,M,U,s,rfl,rfl⟩:=h;have a0:=ġ hb;exists st,t,B,d,c,Z,p,G,T,A,v,C.n,C.kd,C.ps,C.mo,C.w,R,L0,M,U,.str b,"str",rfl,s,.str _,(λx e=>by cases e;omega),(λz=>by rw[show nmV (.str b)=nmS b from rfl,hb]at z;cases z),(λb' e W l=>?_),λr F e L m N o k L2 i I q H1 H' J g O S j f=>?_
 .cases e;refine k1 λq f=>?_;let⟨u,D,rfl⟩:=br.mp f;exact l u D
 .cases e;exact k2 r.pd (br.mpr ⟨r,F,rfl⟩) rfl _ q H1 H' ⟨t,B,d,L,m,N,o,k,A,v,_,_,i,I,J,rfl,rfl⟩ (Gx.of (g.or (Y:=λy=>y=d)) O λq f=>.inl f) S j f
def Sto.textof{H:Hp}{st:x0}{C:Cf}{P:qi Pd}{X:Sx}{Q:VK}{E:XK}(h:Sto K a H st C P X){b:Str}(hb:nmS b=true)(k1:(∀q,q∈P->q.nm≠b)->∀H',yv H H'->E (.ref a.A9) none H')
  (k2:∀r,r∈P->r.nm=b->∀Y q H',Sto K a H' st C P Y->Gx X H H' Y->H q=none->Kf H' Y q (.lst (r.tx.map V.int))->Q (.ref q) H'):Ę K a [.ref st,.str b] H Q E :=
 h.textof1 hb k1 λr f e Y q j H' d g1 S c i=>k2 r f e Y q H' (d.same S) (g1.same S) (g1.g.free c) (Kf.new d c i)
#synth yw4 ["self","name"] yt7
inductive Ŋ(K:xr)(a:Ads)(vs:Υ)(H:Hp)(Q:VK)(E:XK):Prop
 |mk(st ds d:x0)(vl vm vc:V)(n:Nat)(kd:Ξ)(ps:Λ)(w:Nat)(P:qi Pc)(x:V)(nt:String)(_:vs=[.ref st,x])(_:H st=some (.ins a.A0 ds (xj vl vm (.ref d) vc)))(_:yap a H d n kd ps w P)(_:ue K H x (.type nt))(_:(∀s,x=.str s->s.length<=100000))(_:(nmV x=false->∀H',yv H H'->E (.ref a.Ah) none H'))(_:(∀b,x=.str b->nmS b=true->(∀q,q∈P->q.nm≠b)->∀H',yv H H'->E (.ref a.A9) none H'))(_:(∀r,r∈P->x=.str r.nm->nmS r.nm=true->∀l H',H l=none->H' l=some (.lst ((r.by n kd ps).map V.int))->yv H H'->Q (.ref l) H'))
def yev:vz P w K mg Γ (CXe P w) 4 a.Ks a.Nn ["self","name"] (Ŋ K a):=by exists T.Cc.F.okE,yw4,D;let⟨z,o,d,v,k,y,n,t,q,w,P,x,p,rfl,j,u,I,O,J,M,N⟩:=h;exists 2,0,yc (yq (pcT w6 T.Af (pa1 (yn (vh (pv 0) T.A3 T.Ca.m (yex T) D.m T.Ca.B .nil yz (pa1 (pv 1))) rfl))));exists z,o,d,v,k,y,n,t,q,w,P,x,p,rfl,j,u,I,O,J,M,λr c e R S f=>?_;let⟨G,i⟩:=(u.same f).ob r c;ext;exists r.dl,_,rfl,.inl (SqL.of i),λl b=>?_;exact N r c e R l _ (f.free b) ya (f.trans (y7 b))
def Sto.bytesof{H:Hp}{st:x0}{C:Cf}{P:qi Pd}{X:Sx}{Q:VK}{E:XK}(h:Sto K a H st C P X){b:Str}(hb:nmS b=true)(k1:(∀q,q∈P->q.nm≠b)->∀H',yv H H'->E (.ref a.A9) none H')
  (k2:∀r,r∈P->r.nm=b->∀l H',H l=none->H' l=some (.lst ((r.by C).map V.int))->yv H H'->Q (.ref l) H'):Ŋ K a [.ref st,.str b] H Q E:=by
 let⟨g,F,d,c,y,p,B,J,D,L,v,G,I,U,s,rfl,rfl⟩:=h;have m:=ġ hb;exists st,g,d,_,_,_,C.n,C.kd,C.ps,C.w,v,.str b,"str",rfl,s.me,s.pz,.str _,(λx e=>by cases e;omega),(λz=>by rw[show nmV (.str b)=nmS b from rfl,hb]at z;cases z),(λA e Z f=>?_),λr j e Z l H' o t S=>?_
 .cases e;refine k1 λq k=>?_;let⟨u,i,rfl⟩:=br.mp k;exact f u i
 .cases e;exact k2 r.pd (br.mpr ⟨r,j,rfl⟩) rfl l H' o t S
def yy6(x:Φ)(b:Str):vev (baV x) (.str b)=true/\decide (baV x=.str b)=decide (x=some b):=by
 cases x with
 |none=>exists rfl,by rw[bD (λz=>nomatch z),bD (λz=>nomatch z)]
 |some y =>
  exists rfl,?_;by_cases e:y=b
  .rw[bv (by rw[e];rfl),bv (by rw[e])]
  .rw[bD (λz=>e (by cases z;rfl)),bD (λz=>e (by cases z;rfl))]
#synth yzc ["self","name"] yue
inductive yi7(K:xr)(a:Ads)(vs:Υ)(H:Hp)(Q:VK)(E:XK):Prop
 | mk(st ds ll d c dc p cl ct:x0)(lk tp:Μ)(n:Nat)(kd:Ξ)(ps:Λ)(mo w:Nat)(P:qi Pc)(L:Η)(ks:Υ)(U:Ν)(x:V)(nt:String)(_:vs=[.ref st,x])(_:jl K a H st ds ll d c dc p cl ct lk tp n kd ps mo w P L ks U)(_:ue K H x (.type nt))(_:(∀s,x=.str s->s.length<=100000))(_:(nmV x=false->∀H',yv H H'->E (.ref a.Ah) none H'))(_:(∀b,x=.str b->nmS b=true->(∀q,q∈P->q.nm≠b)->∀H',yv H H'->E (.ref a.A9) none H'))(_:(∀r,r∈P->x=.str r.nm->(∃q,q∈P/\q.bs=some r.nm)->∀H',yv H H'->E (.ref a.B8) none H'))(_:(∀r,r∈P->x=.str r.nm->(∀q,q∈P->q.bs≠some r.nm) ->
 ∀(c' dc' p' cl' ct':x0)(U':Ν)(H':Hp),jl K a H' st ds ll d c' dc' p' cl' ct' lk tp n kd ps mo w (P.filter λq=>decide (q.nm≠r.nm)) [] [] U'->Go (λy=>y=d\/StO st c cl ct U y) H H' (λy=>y=d\/StO st c' cl' ct' U' y)->Q .non H'))
def yps:vz P w K mg Γ (CXe P w) 10 a.Kt a.No ["self","name"] (yi7 K a):=by
 exists T.E6.F.okE,yzc,hr;let⟨st,ds,ll,d,c,dc,p,cl,ct,lk,tp,n,kd,ps,mo,w,P,L,ks,U,x,nt,rfl,hS,ty,hz,k1,k2,k3,k4⟩:=h;have a1:=hS.me;exists 2,0,yd (yw (vh (pv 0) T.A3 T.Ca.m (yex T) hr.m T.Ca.B .nil yz (pa1 (pv 1)))) (yd (wa (xo (pcB (ynm rfl) T.Pm (pa1 (yi8 (wb (js:=[1]) (ys:=["name"]) rfl (yi1 (yn (pv 0) rfl)) (λC s2 H2 fp=>(xv xq (ydf (K:=K) rfl (pv 0) rfl) (pv 1) (yx _))) rfl rfl (hyc:=(all_cons rfl yt)) (hrel:=(all_cons rfl yt))))))) (yc (xb rfl T.Qt T.Fw (pa1 wy))) y6) (yd (yw (ydy (yn (pv 0) rfl) (pv 1) ⟨rfl,rfl,rfl,rfl⟩)) (yc (y9 (pv 0) (ub T.Dd (yfc T) hr.m rfl T.Dc T.Cu.B .nil yz (pa1 (yn (pv 0) rfl))) rfl))));exists st,ds,d,_,_,_,n,kd,ps,w,P,x,nt,rfl,a1,hS.pz,ty,hz,k1,k2,λr t e hb H1 S1=>?_;subst e;have g:=hS.same S1;have a9:=g.me;ext;have j:=g.pz.dk;exists d,pcs P,rfl,j,λo D hD=>?_;have R:(pcs P).length=P.length:=bf _;have aa:=g.pz.z;have a4:D≠d:=λz=>by rw[z,ya]at hD;cases hD
 refine ŉ (λi G=>G D=some (.lst ((P.take i).map λq=>V.bl (decide (q.bs=some r.nm))))/\yv (upd H1 d (.frz o (.dK (pcs P)))) G) ⟨ya,y7 hD⟩ (λi G F z=>z.2 _ _ ya) (λi kk v G I hi z=>?_) (λG z=>?_)
 .obtain⟨gD,S⟩:=z;rw[R]at hi;have l:P[i]?=some P[i]:=bi hi;unfold pcs at I;rw[bo,l]at I;obtain rfl:v=.ref (P[i]).ob:=by cases I;rfl
  have N:=(g.pz.ob _ (ce hi)).1;have a6:=S _ _ (yf (λz=>by rw[z,j]at N;cases N) N);ext;let⟨b1,b2⟩:=yy6 (P[i]).bs r.nm;exists b1,?_;rw[b2];refine we (n:=(pcs P).length) gD (ve (by rw[bf,bI];omega)) (by omega) ⟨?_,λy o e=>yf (yb e hD) (S _ _ e)⟩;rw[ya,bL hi,bH];rfl
 .obtain⟨gD,S⟩:=z;rw[R,bZ]at gD;exists d,o,.dK (pcs P),(λo u e=>by rw[j]at e;cases e),S _ _ ya,?_
  have S3:yv H1 (upd G d (.dK (pcs P))):=λy o' e=>by
   by_cases z:y=d
   .rw[z,ya];rw[z,j]at e;exact e
   .exact yf z (S _ _ (yf z e))
  have O:(upd G d (.dK (pcs P))) D=some (.lst ((P.map λq=>decide (q.bs=some r.nm)).map V.bl)):=yf a4 (by rw[gD,bS];rfl);generalize upd G d (.dK (pcs P))=H3 at S3 O⊢;have f:=g.same S3;have a8:=f.me;ext;exists D,_,rfl,SqL.of O,?_;by_cases hu:∃q,q∈P/\q.bs=some r.nm
  .have e:(P.map λq=>decide (q.bs=some r.nm)).any id=true:=by
    let⟨q,l,e⟩:=hu;exact cU.mpr ⟨true,br.mpr ⟨q,l,bv e⟩,rfl⟩
   rw[e];exists true,rfl,Ń ?_;ext;exists by walk_at "len",k3 r t rfl hu _ (S1.trans S3)
  .have M:∀q,q∈P->q.bs≠some r.nm:=λq l e=>hu ⟨q,l,e⟩
   have e:(P.map λq=>decide (q.bs=some r.nm)).any id=false:=by
    rw[List.any_map,List.any_eq_false];intro q l;simpa using M q l
   rw[e];exists false,rfl,ĳ ?_;ext;exists d,rfl,.inl ⟨_,.of f.pz.dk⟩,?_;ext;exists pcs P,.inr r.nm,_,f.pz.dk,rfl,ykv f.pz.nd t,?_;have J:=f.b.drop M
   have gA:Go (λy=>y=d\/StO st c cl ct U y) H3 (upd H3 d (.dK (Ø (pcs P) (.inr r.nm)))) (λy=>y=d\/StO st c cl ct U y):=⟨λy o e no=>yf (λz=>no (.inl z)) e,λy z=>.inl z,λy o e=>by
    by_cases z:y=d
    .exists _,by rw[z];exact ya
    .exact⟨o,yf z e⟩⟩
   generalize upd H3 d (.dK (Ø (pcs P) (.inr r.nm)))=H4 at J gA⊢;have X:=J.me;ext;intro c' k nc Z ac;have SQ:yv H4 (upd (upd H4 k (.own c')) c' (.ins a.A1 k [])):=λb o e=>by rw[yk (yb e nc),yk (yb e Z)];exact e
   exists c',k,ll,n,lk,tp,kd,ps,rfl,ya,SQ _ _ J.lo,J.n1,J.n6,J.row.same SQ,λp' a5 a2 U' HE a0 W BE F=>⟨rfl,?_⟩;let⟨hR,gR,SE,hN⟩:=J.re nc Z a0 W BE;have a7:=SE _ _ X;ext;exact k4 r t rfl M c' k p' a5 a2 U' _ hR ((gA.ahead (S1.trans S3)).trans ((gR.or (Y:=λy=>y=d)).wide λy z=>z.imp id .inl))
def yib(Q:qi Pc)(b:Str):(Q.filter λq=>decide (q.nm≠b)).map Pc.pd=(Q.map Pc.pd).filter λq=>decide (q.nm≠b):=by rw[List.filter_map];rfl
def Sto.drop{H:Hp}{st:x0}{C:Cf}{P:qi Pd}{X:Sx}{Q:VK}{E:XK}(h:Sto K a H st C P X){b:Str}(hb:nmS b=true)(k1:(∀q,q∈P->q.nm≠b)->∀H',yv H H'->E (.ref a.A9) none H')(k2:∀r,r∈P->r.nm=b->(∃q,q∈P/\q.bs=some b)->∀H',yv H H'->E (.ref a.B8) none H')
  (k3:∀r,r∈P->r.nm=b->(∀q,q∈P->q.bs≠some b)->∀Y H',Sto K a H' st C (P.filter λq=>decide (q.nm≠b)) Y->Gx X H H' Y->Q .non H'):yi7 K a [.ref st,.str b] H Q E:=by
 let⟨v,B,d,c,O,p,D,N,A,y,M,S,J,U,s,rfl,rfl⟩:=h;have R:=ġ hb;exists st,v,B,d,c,O,p,D,N,A,y,C.n,C.kd,C.ps,C.mo,C.w,M,S,J,U,.str b,"str",rfl,s,.str _,(λx e=>by cases e;omega),(λz=>by rw[show nmV (.str b)=nmS b from rfl,hb]at z;cases z),(λT e Z l=>?_),(λr j e i=>?_),λr j e i I m L t k F H' G g=>?_
 .cases e;refine k1 λq f=>?_;let⟨u,i,rfl⟩:=br.mp f;exact l u i
 .cases e;let⟨q,f,e⟩:=i;exact k2 r.pd (br.mpr ⟨r,j,rfl⟩) rfl ⟨q.pd,br.mpr ⟨q,f,rfl⟩,e⟩
 .cases e;refine k3 r.pd (br.mpr ⟨r,j,rfl⟩) rfl (λq f=>?_) _ H' ⟨v,B,d,I,m,L,t,k,A,y,_,_,[],F,G,yib _ _,rfl⟩ (Gx.of g NK.nil λq f=>.inl (cB.mp f).1);let⟨u,o,rfl⟩:=br.mp f;exact i u o
def Sto.chainto{H:Hp}{st:x0}{C:Cf}{P:qi Pd}{X:Sx}{Q:VK}{E:XK}(h:Sto K a H st C P X){x:Φ}(hL:ToD P x L)
  (k:∀c dc p cl ct ks M W Y H',Sto K a H' st C P Y->Gx X H H' Y->Ã K a H' c dc p cl ct C.n C.kd C.ps L ks M W->M<=660000->Q (.ref c) H'):Ō K a [.ref st,baV x] H Q E:=by let⟨l,u,d,c,dc,p,cl,ct,r,z,F,G,ks,U,s,rfl,rfl⟩:=h;have t:=ĝ.mp hL;exists st,l,u,d,c,dc,p,cl,ct,r,z,C.n,C.kd,C.ps,C.mo,C.w,F,G,ks,U,x,L,rfl,s,t,λj b v i f e m H' o g B Z=>k j b v i f e _ m _ H' ⟨l,u,d,j,b,v,i,f,r,z,_,_,e,m,o,rfl,rfl⟩ (Gx.of (g.or (Y:=λy=>y=d)) B λq A=>.inl A) o.ch ?_;exact yj6 (w:=C.w) (λy D=>(t.sz s.pz y D).2) s.wm.2 (To.len s.pz t)
def szD(C:Cf)(ts:Ρ)(q:Pd):Nat:=(δ C.n C.kd C.ps (Ú ((q.path++[(q.nm,q.tx)]).map (·.2))) ts).length
def bsF(f:Pd->Nat):qi Pd->qj Str->Nat->qj Str
 |[],b,_=>b
 |q::P,b,m=>if f q<m then bsF f P (some q.nm) (f q)else bsF f P b m
def Ŀ(C:Cf)(P:qi Pd)(ts:Ρ):Φ:=bsF (szD C ts) P none (δ C.n C.kd C.ps [] ts).length
#synth ï ["self","text","signs","best","fewest","name","size"] ["self","text"] yvd
inductive ytk(K:xr)(a:Ads)(vs:Υ)(H:Hp)(Q:VK)(E:XK):Prop
 |mk(st:x0)(C:Cf)(P:qi Pd)(X:Sx)(tx:x0)(ts:Ρ)(_:vs=[.ref st,.ref tx])(_:Sto K a H st C P X)(_:jj H tx ts 1000)(_:(C.mo<ts.length->∀H',yv H H'->E (.ref a.Ai) none H'))(_:(ts.length<=C.mo->∀Y H',Sto K a H' st C P Y->Gx X H H' Y->Q (baV (Ŀ C P ts)) H'))
def ypq:vz P w K mg Γ (CXe P w) 13 a.Ku a.Np ["self","text"] (ytk K a):=by
 exists T.E7.F.okE,ï,D;let⟨st,C,P,X,tx,f,rfl,hS,n,kL,k⟩:=h;have ag:=hS.cf;have ah:=hS.z;exists 2,5,yd (yo (i:=2) ï.nd rfl (Or.inl rfl) (x3 (ygr T) D.m T.Fo yz (pa1 (pv 1)))) (yd (yw (vh (pv 0) T.A3 T.Dz.m (yo2 T) D.m T.Dz.B .nil yz (pa1 (pv 2)))) (yd (yo (i:=3) ï.nd rfl (Or.inl rfl) zd) (yd (yo (i:=4) ï.nd rfl (Or.inl rfl) (xg (vh (pv 0) T.A3 T.Cb.m (ye6 T) D.m T.Cb.B .nil yz (pa1 zd)) T.Ak T.Dy.m (yo5 T) D.m T.Dy.B .nil v7 (pa1 (pv 2)))) (yd (PS.nox (xz PassesOwn.never rfl (vx (vt (pv 0) T.A3 T.Cv.m (yku T) D.m T.Cv.B .nil v7)) (vn (i:=5) ï.nd rfl (Or.inl rfl)) (yd (yo (i:=6) ï.nd rfl (Or.inl rfl) (xg (vh (pv 0) T.A3 T.Cb.m (ye6 T) D.m T.Cb.B .nil vg (pa1 (pv 5))) T.Ak T.Dy.m (yo5 T) D.m T.Dy.B .nil v7 (pa1 (pv 2)))) (yc (wa (yr ò (pv 6) (pv 4) (yx _)) (yd (yo (i:=3) ï.nd rfl (Or.inl rfl) (pv 5)) (yc (yo (i:=4) ï.nd rfl (Or.inl rfl) (pv 6)))) y6))))) (yc (yq (pv 3)))))));exists .ref tx,_,rfl,.lst n.l,.inr ⟨f.map V.int,Î n.l n.s (by have:=n.z;omega),λO H1 a0 v S1=>?_⟩;have I:=hS.same S1
 obtain⟨ds,vl,vp,vc,a3⟩:∃ds vl vp vc,H1 st=some (.ins a.A0 ds (xj vl (.int C.mo) vp vc)):=by
  let⟨ds,ll,d,c,dc,p,cl,ct,lk,tp,Qs,L0,ks,U,s,_,_⟩:=I;exists _,_,_,_,s.me
 have S:Kf H1 X O (.lst (f.map V.int)):=Kf.new hS a0 v;ext;exists st,ds,O,_,_,_,C.mo,_,rfl,a3,v,λG=>?_,λz=>kL (by rw[bf]at z;omega) _ S1;have G:f.length<=C.mo:=by rw[bf]at G;omega
 have k:=k G;ext;refine I.chainto (x:=none) (L:=[]) rfl λc dc p cl ct ks M W Y H2 y g2 o hM=>?_;have e:=S.go I g2;have a9:=o.me;ext;exists c,dc,p,cl,ct,_,_,_,_,ks,M,W,O,f,rfl,o,⟨e.1,n.s,by omega⟩,by omega,λH3 t=>?_
 have j:=y.same t;have a1:=e.same t;have g3:=(g2.same t).ahead S1;let⟨ad,ac,al,am,an,aa⟩:=j.ins;ext;refine j.names λl H4 a4 a2 S4=>?_;have a7:Kf H4 Y l (.lst (P.map λq=>V.str q.nm)):=Kf.new j a4 a2;exists l,rfl,⟨_,SqL.of a2⟩,x8 (K:=K) (a:=l) (xs:=P.map λq=>V.str q.nm) (λi σ2 F=>∃(b:Φ)(m:Nat)(v5 v6:Ψ)(Z:Sx),σ2=[some (.ref st),some (.ref tx),some (.ref O),some (baV b),some (.int (m:Nat)),v5,v6]/\Sto K a F st C P Z/\Gx X H F Z/\Kf F Z O (.lst (f.map V.int))/\Kf F Z l (.lst (P.map λq=>V.str q.nm))/\bsF (szD C f) (P.drop i) b m=Ŀ C P f) ?_ ?_ ?_ ?_
 .exists none,_,none,none,Y,rfl,j.same S4,g3.same S4,a1.same S4,a7,rfl
 .rintro i σ2 F _ ⟨b,m,v5,v6,Z,rfl,N,g,J,u,r⟩;exact SqL.of u.1
 .rintro i z σ2 F hz ⟨b,m,v5,v6,Z,rfl,N,g,J,u,r⟩;rw[bo]at hz;let⟨q,hq,rfl⟩:=cD.mp hz;have a6:i<P.length:=(bw.mp hq).1;have a5:=bB hq;rw[cR a6,(bw.mp hq).2]at r;let⟨af,ao,ae,ak,ai,ab⟩:=N.ins;ext;refine N.chainto (x:=some q.nm) (L:=q.path++[(q.nm,q.tx)]) ⟨q,a5,rfl,rfl⟩ λc dc p cl ct ks M W Y2 F2 y g2 o hM=>?_;have e:=J.go N g2;have R:=u.go N g2;have a9:=o.me;ext;exists c,dc,p,cl,ct,_,_,_,_,ks,M,W,O,f,rfl,o,⟨e.1,n.s,by omega⟩,by omega,λF3 t=>?_
  have j:=y.same t;have g3:=(g.trans g2).same t;ext;have r:(if szD C f q<m then bsF (szD C f) (P.drop (i+1)) (some q.nm) (szD C f q)else bsF (szD C f) (P.drop (i+1)) b m)=Ŀ C P f:=r;by_cases hlt:szD C f q<m
  .rw[if_pos hlt]at r;refine ur (λB=>?_) (λz=>absurd (show ((szD C f q:Nat):Int)<(m:Int) by omega) z);ext;exists some q.nm,szD C f q,_,_,Y2,rfl,j,g3,e.same t,R.same t,r
  .rw[if_neg hlt]at r;refine ur (λz=>absurd (show ((szD C f q:Nat):Int)<(m:Int)from z) (by omega)) (λB=>?_);exists b,m,_,_,Y2,rfl,j,g3,e.same t,R.same t,r
 .rintro σ2 F ⟨b,m,v5,v6,Z,rfl,N,g,J,u,r⟩;rw[bf,List.drop_length]at r;ext;rw[show b=Ŀ C P f from r];exact k Z F N g
#synth yka ["_law_script","_law_k","_law_cell"] ["_law_script","_law_k"] yvk
inductive yxo(K:xr)(vs:Υ)(H:Hp)(Q:VK)(E':XK):Prop
 |mk(l:x0)(ns:Ρ)(j:Nat)(_:vs=[.ref l,.int j])(_:SqL K H l (ns.map V.int))(_:j<=1000)(_:∀n:Int,0<=n->n<2147483647->Q (.int n) H)
def yfa:vz P w K mg Γ CX0 1 a.Kv a.Nq ["_law_script","_law_k"] (yxo K):=by
 exists T.E8.F.ok,yka,o;let⟨l,b,j,rfl,f,q,k⟩:=h;exists 2,1,yd (yo (i:=2) yka.nd rfl (Or.inl rfl) yg) (yd (jw (wa (yr ò (pv 1) (pcB yp T.Aa (pa1 (pv 0))) (yx _)) (yc (yo (i:=2) yka.nd rfl (Or.inl rfl) (ym vo (xi xm (pv 0) (pv 1) (λZ Z=>rfl)) yg))) y6)) (yc (yq (ym vo (ym wq (ym wc (ym wc (ym wc (ym wq (pv 2) (pv 2)) (ym wq yg (pv 2))) (ym wq (ym wq yg (pv 1)) (pv 1))) yg) yg) yg))));refine yk8 (λσ' G=>H=G/\∃c:Int,σ'=[some (.ref l),some (.int j),some (.int c)]/\0<=c/\c<2147483629) ?_ ?_
 .ext;refine x5 f ?_;rw[bf];ext;refine ur (λm=>?_) (λm=>?_)
  .have d:j<b.length:=by omega
   ext;refine jy (v:=V.int b[j]) f (vq (by rw[bo,bi d];rfl)) ?_;ext;exists rfl,_,rfl,cr _ (by decide),ci _ (by decide)
  .ext;exists rfl,0,rfl,by decide,by decide
 .rintro σ' G ⟨rfl,c,rfl,r,p⟩;have u:(0:Int)<=(j:Int)/\(j:Int)<=1000:=by omega
  have t:(0:Int)<=5*(j:Int)/\5*(j:Int)<=5000:=by omega
  ext;exact k _ (cr _ (by decide)) (ci _ (by decide))
#synth í ["_law_cell","_law_most","_law_many","_law_looks_here","_law_k","_law_marks","_law_places"] ["_law_cell","_law_most"] yv8
inductive ymh  (vs:Υ) (H:Hp) (Q:VK) (E':XK):Prop
 |mk(c:Int)(m:Nat)(_:vs=[.int c,.int m])(_:0<=c)(_:c<2147483647)(_:1<=m)(_:m<=6)(_:∀r(n:Nat)(lk:Μ)(kd:Ξ)(tp:Μ)(ps:Λ)H',H r=none->H' r=some (.lst (refs lk n))->1<=n->n<=6->ux H' n lk kd tp ps->yv H H'->Q (.ref r) H')
def vbh:vz P w K mg Γ CX0 1 a.Kw a.Nr ["_law_cell","_law_most"] ymh:=by
 exists T.Oe.F.ok,í,hr;let⟨c,m,rfl,Y,W,m1,m6,k⟩:=h;have mp:(0:Int)<(m:Int):=by omega
 exists 2,5,yd (yo (i:=2) í.nd rfl (Or.inl rfl) (ym wc yg (ym vo (pv 0) (pv 1)))) (yd (yo (i:=3) í.nd rfl (Or.inl rfl) (xc uo)) (yd (xz PassesOwn.never rfl (È rfl T.Bd (pa1 (pv 2))) (vn (i:=4) í.nd rfl (Or.inl rfl)) (yd (yo (i:=0) í.nd rfl (Or.inl rfl) (ym vo (ym wc (ym wc (ym wq (pv 0) yg) (ym wq yg (pv 4))) yg) yg)) (yd (yo (i:=5) í.nd rfl (Or.inr rfl) (ym ypb (ym vo (ym vd (pv 0) yg) yg) (ym vo (ym vd (pv 0) yg) yg))) (yd (jw (wa (yr xq (ym vo (ym vd (pv 0) yg) yg) yg (yx _)) (yc (yo (i:=5) í.nd rfl (Or.inr rfl) (ym vo (ym vd (pv 0) yg) yg))) y6)) (yd (ŷ (i:=6) (js:=[5]) (ys:=["_law_marks"]) í.nd rfl rfl rfl (ya6 rfl T.Bd (pac yg (pa1 yg))) (λC s2 H2 fp=>(yr xq (ym ypb (ym yp6 (pv 1) (ym zx (pv 0) yg)) yg) yg (yx _))) (λC s2 H2 fp=>(pv 0)) rfl rfl (hyc:=(all_cons rfl yt)) (hrel:=(all_cons rfl yt))) (yc (yw (è PySem.F.plainAttrs_list PySem.F.slot_list_append PySem.F.type_list_append xh (pv 3) (pa1 (į (pac (xi xm (xc (pac wy (pac wy (pa1 wy)))) (ym vo (pv 0) yg) (λF F=>rfl)) (pa1 (pcT Å T.Ck (pa1 (ua jr (pv 6) uv (uk yg)))))))))))))))) (yc (yq (pv 3)))))
 obtain⟨n,hn,n1,n6⟩:∃n:Nat,1+c%(m:Int)=(n:Int)/\1<=n/\n<=6:=by
  have h0:=cr c (show (m:Int)≠0 by omega);have h1:=ci c mp;exists(1+c%(m:Int)).toNat,by omega,by omega,by omega
 rw[hn];exists by walk_at "len",λL hL0=>?_
 exists hL0,H1,S1,hL1;ext;refine⟨_,rfl,by omega,by omega,Ç (n:=n) (λi σ2 G=>∃(c:Int)(v1 v2 X:Ψ)(v:Μ)(R:Ξ)(N:Μ)(O:Λ),σ2=[some (.int c),some (.int m),some (.int n),some (.ref L),v1,v2,X]/\0<=c/\c<2147483647/\G L=some (.lst (refs v i))/\ux G i v R N O/\yv H G)
  ⟨c,_,_,_,λF=>0,λF=>0,λF=>0,λF=>[],rfl,Y,W,hL1,λj q=>absurd q (bJ j),S1⟩ ?_ ?_⟩
 .clear hn Y W c;rintro i σ2 G hi ⟨c,v1,v2,X,v,R,N,O,rfl,Y,W,gL,gR,Z⟩;ext;have d0:0<=(c*48271+11*(0+(i:Int))+7)%2147483647:=cr _ (by decide);have d1:(c*48271+11*(0+(i:Int))+7)%2147483647<2147483647:=ci _ (by decide);generalize (c*48271+11*(0+(i:Int))+7)%2147483647=d at d0 d1⊢;refine yk8 (λσ' r=>G=r/\∃mk:Int,σ'=[some (.int d),some (.int m),some (.int n),some (.ref L),some (.int (0+(i:Int))),some (.int mk),X]) ?_ ?_
  .ext;refine ur (λhb=>?_) (λhb=>?_)
   .ext;exists rfl,_,rfl
   .ext;exists rfl,_,rfl
  rintro σ' r ⟨rfl,mk,rfl⟩;ext;refine⟨1,9,rfl,⟨by decide,by decide,by decide,by decide⟩,λD hD=>?_⟩
  refine yc4 (lo:=1) (n:=8) (λj r=>∃f:Ρ,r D=some (.lst (f.map V.int))/\(∀p∈f,1<=p/\p<=(j:Int))/\f.Pairwise (· < ·)/\f.length<=j/\yv G r) ⟨[],ya,λF z=>(nomatch z),List.Pairwise.nil,bn _,y7 hD⟩ (λj r q z=>?_) (λG3 z=>?_)
  .obtain⟨f,h1,h2,h3,h4,S⟩:=z;ext;refine i_I (by omega) ?_;ext;refine ur (λhb=>?_) (λhb=>?_)
   .ext;refine we (n:=8) h1 (ve (by rw[bf];omega)) q ?_;exists f++[1+(j:Int)],by rw[ya,bH];rfl,λp I=>?_,?_,by rw[bq];show _+1<=_;omega,λb o e=>yf (yb e hD) (S b o e)
    .rcases bP.mp I with h|h
     .have:=h2 p h;omega
     .rw[bF.mp h];omega
    .refine List.pairwise_append.mpr ⟨h3,List.pairwise_singleton _ _,λx hx y hy=>?_⟩;rw[bF.mp hy];have:=h2 x hx;omega
   .exact jm (n:=8) q ⟨f,h1,λp I=>by have:=h2 p I;omega,h3,by omega,S⟩
  let⟨f,a0,I,hw,_,S3⟩:=z;have M:=S3 _ _ gL;ext;refine Â M ?_;ext;exists by walk_at "len",λq2 hq2=>?_
  exists hq2,G4,T4,hq4;ext;let⟨kk,hk⟩:=yrb d;refine jy (SqL.of hq4) hk ?_;ext;refine yb4 (SqL.of (T4 _ _ a0)) λu hu=>?_;have ec:ydm (f.map V.int) none (some 4)=(f.take 4).map V.int:=by rw[List.map_take];exact jc 4
  rw[ec];exists hu,G5,T5,hu5;exists u,_,rfl,.inl ⟨SqL.of hu5,λJ htp=>?_⟩;exists htp,G6,T6,htp6;ext;exists by walk_at "len",λt ht=>?_
  exists ht,G7,T7,ht7;have U:=T4.trans (T5.trans (T6.trans T7));have l:=U _ _ M;have B:=S3.trans U;ext;refine x9 l (ve (by rw[vv];omega)) ?_;have g7:LkG G7 (.ref t) kk J (f.take 4):=⟨t,rfl,ht7,T7 _ _ htp6,yhc (by rw[bI];omega) (λp h=>I p (cH h)) hw.take⟩;ext;exists d,_,_,_,upN v i t,upN R i kk,upN N i J,upN O i (f.take 4),rfl,d0,d1,?_,λj q=>?_,λb o e=>yf (yb e hL0) (B _ _ (Z b o e))
  .rw[ya,x6,wo]
   congr 3
   exact xy λj q=>(wj q).symm
  .by_cases z:j=i
   .subst z;rw[wo,wo,wo,wo];exact g7.upd l
   .have g:j<i:=by omega
    rw[wj g,wj g,wj g,wj g];exact((gR j g).same B).upd l
 .rintro σ2 G ⟨c,v1,v2,X,v,R,N,O,rfl,Y,W,gL,gR,Z⟩;ext;exact k L n v R N O G hL0 gL n1 n6 gR Z
#synth ykz ["_law_cells","_law_size","_law_way","_law_signs","_law_k"] ["_law_cells","_law_size","_law_way"] yvu
inductive ymb(K:xr)(vs:Υ)(H:Hp)(Q:VK)(E':XK):Prop
 |mk(l:x0)(ns:Ρ)(z:Nat)(w:Int)(_:vs=[.ref l,.int z,.int w])(_:H l=some (.lst (ns.map V.int)))(_:ns.length<=63)(_:z<=50)(_:∀r(ts:Ρ)H',H r=none->H' r=some (.lst (ts.map V.int))->Sgs ts->ts.length=z->yv H H'->Q (.ref r) H')
def yzz:vz P w K mg Γ CX0 1 a.Kx a.Nt ["_law_cells","_law_size","_law_way"] (ymb K):=by
 exists T.Of.F.ok,ykz,hr;let⟨l,ns,z,w,rfl,hl,aa,hz,k⟩:=h;exists 3,2,yd (yo (i:=3) ykz.nd rfl (Or.inr rfl) (ym yb1 (xc (pa1 yg)) (pv 1))) (yd (wa (yr xq (pv 1) yg (yx _)) (yc (yq (pv 3))) y6) (yd (xz PassesOwn.never rfl (È rfl T.Bd (pa1 (pcB yp T.Aa (pa1 (pv 0))))) (vn (i:=4) ykz.nd rfl (Or.inl rfl)) (yc (yo8 (ym vo (ym wc (ym wc (ym wq (xi xm (pv 3) (ym vo (pv 4) (pv 1)) (λF F=>rfl)) yg) (ym vo (xi xm (pv 0) (pv 4) (λF F=>rfl)) yg)) (pv 4)) yg) (va8 (pv 3) (ym vo (pv 4) (pv 1)) ylj)))) (yd (wa (yr xq (ym vo (pv 2) yg) yg (yx _)) (yc (yq (ym yb1 (xc (pa1 (xi xm (pv 3) yg (λF F=>rfl)))) (pv 1)))) y6) (yd (wa (yr xq (ym vo (pv 2) yg) yg (yx _)) (yc (yq (wb (js:=[2,3]) (ys:=["_law_way","_law_signs"]) rfl (vx (pv 3)) (λC s2 H2 fp=>(xi (r:=vcv K) xm (xc (pac (xi (r:=vcv K) xm (pv 2) yg (λF F=>rfl)) (pa1 (ym vo (ym vd (pv 1) yg) yg)))) (ym vo (pv 0) yg) (λF F=>rfl))) rfl rfl (hyc:=(all_cons rfl (all_cons rfl yt))) (hrel:=(all_cons rfl (all_cons rfl yt)))))) y6) (yd (wa (yr xq (ym vo (pv 2) yg) yg (yx _)) (yc (yq (wb (js:=[]) (ys:=[]) rfl (vx (pv 3)) (λC s2 H2 fp=>(xi (r:=vcv K) xm (xc (pac yg (pac yg (pac yg (pa1 yg))))) (ym vo (pv 0) yg) (λF F=>rfl))) rfl rfl (hyc:=yt) (hrel:=yt)))) y6) (yc (yq (pv 3))))))));exists by walk_at "len",λu hu=>?_
 exists hu,H1,S1,hu1;ext;exists u,z,_,rfl,rfl,hu1,by omega,by omega,jf (by show 1*(z:Int).toNat<=16000000;omega),λg hg0=>?_
 rw[jo];exists hg0,H2,S2,hg2;have ez:((z:Nat):Int).toNat=z:=by omega
 rw[ez]at hg2;have Y:=S1.trans S2;have I:H g=none:=S1.free hg0;ext;refine ur (λhb=>?_) (λhb=>?_)
 .ext;refine k g _ _ I hg2 (λx N=>?_) cG Y;rw[cC N];exists by decide,by decide
 .have zp:(0:Int)<(z:Int):=by omega
  ext;refine x5 (SqL.of (Y _ _ hl)) ?_;rw[bf];ext;exists _,rfl,by omega,by omega,Ç (n:=ns.length) (λi σ2 G=>∃(v:Ψ)(c:Ρ),σ2=[some (.ref l),some (.int z),some (.int w),some (.ref g),v]/\G g=some (.lst (c.map V.int))/\Sgs c/\c.length=z/\yv H G) ⟨_,_,rfl,hg2,λx N=>by rw[cC N];exact⟨by decide,by decide⟩,cG,Y⟩ ?_ ?_
  .rintro i σ2 G hi ⟨v,c,rfl,d,q,W,J⟩;have e0:(0:Int)+(i:Int)=(i:Int):=Int.zero_add _;rw[e0]
   obtain⟨j,hj,ac⟩:∃j:Nat,(i:Int)%(z:Int)=(j:Int)/\j<z:=by
    have h0:=cr (i:Int) (show (z:Int)≠0 by omega);have M:=ci (i:Int) zp;exists((i:Int)%(z:Int)).toNat,by omega,by omega
   have a6:j<c.length:=by omega
   have f:atI (c.map V.int) (j:Int)=some (V.int c[j]):=vq (by rw[bo,bi a6];rfl);have a3:atI (ns.map V.int) (i:Int)=some (V.int ns[i]):=vq (by rw[bo,bi hi];rfl);generalize c[j]=O at f;generalize ns[i]=a0 at a3;ext;rw[hj];refine jy (SqL.of d) f ?_;ext;refine jy (SqL.of (J _ _ hl)) a3 ?_;ext;rw[hj];have y0:0<=(O*31+a0%256+(i:Int))%256:=cr _ (by decide);have y1:(O*31+a0%256+(i:Int))%256<256:=ci _ (by decide);generalize (O*31+a0%256+(i:Int))%256=y at y0 y1⊢;exists g,_,_,j,rfl,rfl,d,?_,?_
   .unfold ixN;rw[if_pos (by omega),if_pos (by rw[bf];omega)];rfl
   .exists _,c.set j y,rfl,by rw[ya,List.map_set],λx N=>?_,by rw[List.length_set];exact W,λb o e=>yf (yb e I) (J b o e)
    rcases List.mem_or_eq_of_mem_set N with h|h
    .exact q x h
    .rw[h];omega
  .rintro σ2 G ⟨v,c,rfl,d,q,W,J⟩;ext;refine ur (λa5=>?_) (λa5=>?_)
   .have h0:0<c.length:=by omega
    have f:atI (c.map V.int) 0=some (V.int c[0]):=vq (j:=0) (by rw[bo,bi h0];rfl);have B:=q c[0] (ce h0);generalize c[0]=a2 at f B;ext;refine jy (SqL.of d) f ?_;ext;exists by walk_at "len",λu2 hu2=>?_
    exists hu2,G1,T1,hu21;ext;exists u2,z,_,rfl,rfl,hu21,by omega,by omega,jf (by show 1*(z:Int).toNat<=16000000;omega),λr a1=>?_
    rw[jo,ez];exact k r _ _ ((J.trans T1).free a1) ya (λx N=>by rw[cC N];exact B) cG (J.trans (T1.trans (y7 a1)))
   .ext;refine ur (λa9=>?_) (λa9=>?_)
    .ext;exists g,rfl,⟨_,SqL.of d⟩,λD R=>?_
     refine j3 (K:=K) (xs:=c.map V.int) (λi p=>∃m:Ρ,p D=some (.lst (m.map V.int))/\Sgs m/\m.length=i/\yv G p) ⟨[],ya,λF z=>(nomatch z),rfl,y7 R⟩ (by rintro i p _ ⟨_,_,_,_,S⟩;exact SqL.of (S _ _ d)) (λi y p Z hi X=>?_) (λp X=>?_)
     .obtain⟨m,M,U,L,S⟩:=X;let⟨x,rfl,_,_,a8⟩:=z5 Z;have h0:0<c.length:=by omega
      have f:atI (c.map V.int) 0=some (V.int c[0]):=vq (j:=0) (by rw[bo,bi h0];rfl);have B:=q c[0] (ce h0);generalize c[0]=a2 at f B;ext;refine jy (SqL.of (S _ _ d)) f ?_;ext;exists by walk_at "len",λu2 hu2=>?_
      have w0:0<=w/4%256/\w/4%256<=255:=by omega
      generalize w/4%256=ww at w0;exists hu2,G1,T1,hu21;ext;let⟨v,hv,ha⟩:=yji (xs:=[V.int a2,V.int ww]) (i:=x%2) (cr _ (by decide)) (by show _<(2:Int);exact ci _ (by decide));refine jy (SqL.of hu21) ha ?_
      obtain⟨t,rfl,t0⟩:∃t,v=V.int t/\0<=t/\t<=255:=by
       simp only[bC,List.not_mem_nil,or_false]at hv;rcases hv with rfl|rfl
       .exists _,rfl,B
       .exists _,rfl,w0
      refine we (n:=(c.map V.int).length) (T1 _ _ M) (ve (by rw[bf,L];omega)) hi ?_;exists m++[t],by rw[ya,bH];rfl,λy Z=>?_,by rw[bq,L];rfl,λb o e=>yf (yb e R) (T1 _ _ (S b o e))
      rcases bP.mp Z with h|h
      .exact U y h
      .rw[bF.mp h];exact t0
     .obtain⟨m,M,U,L,S⟩:=X;rw[bf]at L;exact k D m p (J.free R) M U (by omega) (J.trans S)
    .ext;refine ur (λa4=>?_) (λa4=>?_)
     .ext;exists g,rfl,⟨_,SqL.of d⟩,λD R=>?_
      refine ul (K:=K) (xs:=c.map V.int) (λi p=>∃m:Ρ,p D=some (.lst (m.map V.int))/\Sgs m/\m.length=i/\yv G p) ⟨[],ya,λF z=>(nomatch z),rfl,y7 R⟩ (by rintro i p _ ⟨_,_,_,_,S⟩;exact SqL.of (S _ _ d)) (λi y p Z hi X=>?_) (λp X=>?_)
      .obtain⟨m,M,U,L,S⟩:=X;let⟨x,rfl,_,_,a8⟩:=z5 Z;ext;exists by walk_at "len",λu2 hu2=>?_
       exists hu2,G1,T1,hu21;ext;let⟨v,hv,ha⟩:=yji (xs:=[V.int 0,V.int 255,V.int 1,V.int 128]) (i:=x%4) (cr _ (by decide)) (by show _<(4:Int);exact ci _ (by decide));refine jy (SqL.of hu21) ha ?_
       obtain⟨t,rfl,t0,t1⟩:∃t,v=V.int t/\0<=t/\t<=255:=by
        simp only[bC,List.not_mem_nil,or_false]at hv;rcases hv with rfl|rfl|rfl|rfl<;>exact⟨_,rfl,by decide,by decide⟩
       refine we (n:=(c.map V.int).length) (T1 _ _ M) (ve (by rw[bf,L];omega)) hi ?_;exists m++[t],by rw[ya,bH];rfl,λy Z=>?_,by rw[bq,L];rfl,λb o e=>yf (yb e R) (T1 _ _ (S b o e))
       rcases bP.mp Z with h|h
       .exact U y h
       .rw[bF.mp h];exists t0,t1
      .obtain⟨m,M,U,L,S⟩:=X;rw[bf]at L;exact k D m p (J.free R) M U (by omega) (J.trans S)
     .ext;exact k g c G I d q W J
def yvl(ts:Ρ):Prop:=ts.length=5/\ts.Nodup/\∀t,t∈ts->0<=t/\t<5
def yq5{mu e:Int}(h1:1<=mu)(h3:mu<=3):yvl ((List.range 5).map λi:Nat=>((0+(i:Int))*mu+e)%5):=by
 exists rfl,?_,λt g=>?_
 .refine List.pairwise_map.mpr (List.nodup_range.imp_of_mem λ{a b}d c j=>?_);have f:=cA.mp d;have h:=cA.mp c;obtain rfl|rfl|rfl:mu=1\/mu=2\/mu=3:=by omega
  .omega
  .omega
  .omega
 .obtain⟨i,_,rfl⟩:=br.mp g;omega
def yh3:yvl ((List.range 5).map λi=>((i:Nat):Int)):=by
 exists rfl,?_,λt c=>?_
 .exact List.pairwise_map.mpr (List.nodup_range.imp λ{a b}e=>by omega)
 .obtain⟨i,d,rfl⟩:=br.mp c;have:=cA.mp d;omega
def gI(f:Int->Str):V->V
 | .int t=>.str (f t)
 |v=>v
def yn5(f:Int->Str)(ts:Ρ):(ts.map V.int).map (gI f)=(ts.map f).map V.str:=by rw[bS,bS];rfl
def nmR(c k:Nat):Str:=⟨(List.replicate k c).toArray⟩
def yxw{z:Str}{c k:Nat}(h:z.cps.toList=(List.replicate k [c]).flatten):z=nmR c k:=by
 have e:(List.replicate k [c]).flatten=List.replicate k c:=by
  clear h
  induction k with
  |zero=>rfl
  |succ k ih=>rw[cu,List.flatten_cons,cu,List.singleton_append,ih]
 rw[e]at h
 cases z with|mk cps =>
 unfold nmR
 congr 1
 exact Array.toList_inj.mp (by simpa using h)
def ifS{tc:TT}{ts te:TS}{D:Ă}{σ:St}{H:Hp}(h:∀Qb:Bool->Hp->Prop,(∀H',yv H H'->Qb true H')->(∀H',yv H H'->Qb false H')->tc σ H Qb)(hT:∀H',yv H H'->ts D σ H')(hF:∀H',yv H H'->te D σ H'):vct tc ts te D σ H :=
 h _ (λH' S=>by show (if true=true then _ else _);rw[if_pos rfl];exact hT H' S) (λH' S=>by show (if false=true then _ else _);rw[if_neg (by decide)];exact hF H' S)
#synth θ ["_law_cell","_law_small","_law_odd","_law_turn","_law_base","_law_k","_law_at"] ["_law_cell"] yup
inductive yh2(K:xr)(vs:Υ)(H:Hp)(Q:VK)(E':XK):Prop
 |mk(c:Int)(_:vs=[.int c])(_:0<=c)(_:c<2147483647)(_:∀(r:x0)(ns:Τ)(H':Hp),H r=none->H' r=some (.lst (ns.map V.str))->yv H H'->ns.length=5->ns.Nodup->(∀x,x∈ns->nmS x=true/\PyData.strOk x=true)->Q (.ref r) H')
def yyg:vz P w K mg Γ CX0 1 a.Ky a.Nu ["_law_cell"] (yh2 K):=by
 exists T.Og.F.ok,θ,hr;let⟨c,rfl,c0,c1,k⟩:=h;refine yh (yo (i:=1) θ.nd rfl (Or.inr rfl) wy) ?_;refine yh (yo (i:=2) θ.nd rfl (Or.inr rfl) (ym vo (pv 0) yg)) ?_;refine yh (yo (i:=0) θ.nd rfl (Or.inr rfl) (ym vd (pv 0) yg)) ?_;refine yh (yen (i:=3) (js:=[0]) (ys:=["_law_cell"]) θ.nd rfl rfl rfl (È rfl T.Bd (pa1 yg)) (λC s2 H2 fp=>(ym vo (ym wc (ym wq (pv 0) (ym wc yg (ym vo (ym vd (pv 1) yg) yg))) (ym vd (pv 1) yg)) yg)) rfl rfl (hyc:=(all_cons rfl yt)) (hrel:=(all_cons rfl yt))) ?_;refine yh (jw (wa (PW.pt (ı (yr ò (pcB ycz T.Aa (pa1 (pcT (yhw rfl) T.Pn (pa1 (pv 3))))) yg (yx _)) (ð (yr xq (ym vo (ym vd (pv 0) yg) yg) yg (yx _))))) (yc (yo (i:=3) θ.nd rfl (Or.inl rfl) (pcT (ygn rfl) T.Af (pa1 (pcT ymu T.Bd (pa1 yg)))))) y6)) ?_;refine yh (wa (yr xq (ym vo (pv 0) yg) yg (yx _)) (yc (yq (wb (js:=[1,2,0]) (ys:=["_law_small","_law_odd","_law_cell"]) rfl (vx (pv 3)) (λC s2 H2 fp=>(ym yfx (ο (pv 1) (pv 2) (λC C=>rfl)) (ym wc (ym wc (pv 0) yg) (ym vo (ym vd (pv 3) yg) yg)))) rfl rfl (hyc:=(all_cons rfl (all_cons rfl (all_cons rfl yt)))) (hrel:=(all_cons rfl (all_cons rfl (all_cons rfl yt))))))) y6) ?_;refine yh (yo (i:=4) θ.nd rfl (Or.inr rfl) wy) ?_;refine yh (xz PassesOwn.never rfl (È rfl T.Bd (pa1 (ym vo (ym vd (pv 0) yg) yg))) (vn (i:=5) θ.nd rfl (Or.inl rfl)) (yc (yo (i:=4) θ.nd rfl (Or.inr rfl) (ym Þ (pv 4) (ο (pv 1) (ym vo (ym vd (ym wq (pv 0) (ym wc (pv 5) yg)) yg) yg) (λC C=>rfl)))))) ?_;refine yh (yo (i:=6) θ.nd rfl (Or.inr rfl) (ym vo (ym vd (pv 0) yg) (ym wc (pcB ë T.Aa (pa1 (pv 4))) yg))) ?_;exists 1,6,yc (yq (wb (js:=[1,2,4,6]) (ys:=["_law_small","_law_odd","_law_base","_law_at"]) rfl (vx (pv 3)) (λC s2 H2 fp=>(ym Þ (ym Þ (ua (r:=ve8) yp3 (pv 3) uv (uk (pv 4))) (ο (pv 1) (ym wc (pv 2) (pv 0)) (λC C=>rfl))) (ua (r:=ve8) yp3 (pv 3) (uk (pv 4)) uv))) rfl rfl (hyc:=(all_cons rfl (all_cons rfl (all_cons rfl (all_cons rfl yt))))) (hrel:=(all_cons rfl (all_cons rfl (all_cons rfl (all_cons rfl yt)))))));obtain⟨o,ho,a3⟩:∃o:Nat,c%22=(o:Int)/\o<=21:=⟨(c%22).toNat,by omega,by omega⟩;obtain⟨d,U,a4,a8⟩:∃d:Int,c/22=d/\0<=d/\d<2147483647:=⟨c/22,rfl,by omega,by omega⟩;rw[ho,U];clear c0 c1 ho U c;exists _,rfl,by decide,by decide,λD f=>?_
 refine ya2 (n:=5) (λi=>V.int (((0+(i:Int))*(1+d/3%3)+d/9)%5)) f (λi G hi S Y=>?_) (λG S Y=>?_)
 .ext;exact Mp.doneR f (ve (by decide)) hi S Y rfl
 have I:G D=some (.lst (((List.range 5).map λi:Nat=>((0+(i:Int))*(1+d/3%3)+d/9)%5).map V.int)):=by rw[Y,bS];rfl
 have u:=yq5 (mu:=1+d/3%3) (e:=d/9) (by omega) (by omega);generalize ((List.range 5).map λi:Nat=>((0+(i:Int))*(1+d/3%3)+d/9)%5)=M at I u;ext;exists λσ2 F=>∃(O:x0)(M:Ρ),σ2=[some (.int d),some (.str smS),some (.int o),some (.ref O),none,none,none]/\F O=some (.lst (M.map V.int))/\yvl M/\yv H F,?_,?_
 .refine ifS (λQb qT qF=>?_) (λH1 S1=>?_) (λH1 S1=>?_)
  .ext;exists D,M,rfl,SqL.of I,by rw[u.1];decide,λq hq=>?_
   exists hq,G1,S1,e1;ext;exists q,_,rfl,e1,?_;ext;refine ur (λL=>qT _ S1) (λL=>?_);ext;by_cases Z:d/16%5=0
   .rw[bv Z];exact qT _ S1
   .rw[bD Z];exact qF _ S1
  .ext;refine⟨5,rfl,by decide,λq hq=>?_⟩;exists hq,G1,S2,e1;ext;exists q,5,rfl,e1,by decide,λl hl=>?_
   exists hl,G2,S3,e2;ext;exists l,(List.range 5).map λi=>((i:Nat):Int),rfl,by rw[e2,bS];rfl,yh3,S.trans (S1.trans (S2.trans S3))
  .exists D,M,rfl,S1 _ _ I,u,S.trans S1
 clear Y I u f S G M D;rintro σ2 G ⟨O,M,rfl,m,⟨t5,tn,J⟩,S⟩;ext;refine ur (λL=>?_) (λL=>?_)
 .ext;exists O,rfl,⟨_,SqL.of m⟩,λD f=>?_;refine z9 (gI λt=>nmR (97+o) (t+1+d/4%3).toNat) (SqL.of m) f (λi y F X N p=>?_) (λF N p=>?_)
  .rw[bo]at X;let⟨t,g,rfl⟩:=cD.mp X;have a1:=J t (bB g);ext;exists smS,_,_,rfl,rfl,by omega,by omega,by rw[ykd];omega,yt8 (by omega) (by omega),?_
   rw[show ((o:Int)).toNat=o from rfl];ext;exists _,_,rfl,rfl,by omega,by omega,by show 1<=_;decide,λz W=>?_
   obtain rfl:=yxw W;exact Mp.done f (ve (by rw[bf];omega)) (by rw[bo,g];rfl) N p rfl
  .rw[yn5]at p;refine k D _ F (S.free f) p (S.trans N) (by rw[bf,t5]) ?_ λx hx=>?_
   .refine List.pairwise_map.mpr (tn.imp_of_mem λ{a b}ha hb ne e=>ne ?_);have h2:=J a ha;have Z:=J b hb;have e2:=congrArg (λx:Str=>x.cps.toList.length) e;simp[nmR]at e2;omega
   .obtain⟨t,g,rfl⟩:=br.mp hx;have h2:=J t g;refine vbu (λc hc=>?_) ?_ ?_
    .have e:c∈List.replicate (t+1+d/4%3).toNat (97+o):=hc;have:=cC e;omega
    .simp[nmR];omega
    .simp[nmR];omega
 .obtain⟨l7,a0,hl⟩:∃l:Nat,d/4%8=(l:Int)/\l<=7:=⟨(d/4%8).toNat,by omega,by omega⟩;ext;rw[a0];refine⟨_,rfl,by omega,by omega,Ç (n:=l7) (λi σ2 F=>∃(z:Str)(v:Ψ),σ2=[some (.int d),some (.str smS),some (.int o),some (.ref O),some (.str z),v,none]/\ydl z.cps.toList/\z.length=i/\G=F)
   ⟨_,_,rfl,(λc hc=>by cases (show c∈[]from hc)),rfl,rfl⟩ ?_ ?_⟩
  .rintro i σ2 F hi ⟨z,v,rfl,W,B,rfl⟩;ext;have h0:=cr (d*(0+(i:Int)+3)/7) (show (26:Int)≠0 by decide);have L:=ci (d*(0+(i:Int)+3)/7) (show (0:Int)<26 by decide);generalize d*(0+(i:Int)+3)/7%26=q at h0 L⊢;exists smS,q,97+q.toNat,rfl,rfl,h0,by omega,by rw[ykd];exact L,yt8 h0 L,?_
   exists z,_,rfl,rfl,?_,?_
   .rw[B,sizeLine_eq];show i+1<=_;omega
   .ext;exists _,_,rfl,?_,?_,rfl
    .rw[Ħ];exact W.app (.one (by omega))
    .rw[ħ,Ħ,bq,<- ħ,B];rfl
  .rintro σ2 F ⟨z,v,rfl,W,B,rfl⟩;ext;exists z,rfl,by rw[B,sizeLine_eq];omega,?_
   ext
   obtain⟨j,hj,R⟩:∃j:Nat,d/32%((z.length:Int)+1)=(j:Int)/\j<=z.length:=by
    have h0:=cr (d/32) (show ((z.length:Int)+1)≠0 by omega);have L:=ci (d/32) (show 0<((z.length:Int)+1) by omega);exists(d/32%((z.length:Int)+1)).toNat,by omega,by omega
   rw[hj];exists O,rfl,⟨_,SqL.of m⟩,λD f=>?_;refine z9 (gI λt=>ywc z j (97+(o+t.toNat))) (SqL.of m) f (λi y F X N p=>?_) (λF N p=>?_)
   .rw[bo]at X;let⟨t,g,rfl⟩:=cD.mp X;have a1:=J t (bB g);ext;have a7:=Txt.slice_le z none (some (j:Int));have a5:=Txt.slice_le z (some (j:Int)) none;exists z,rfl,by rw[sizeLine_eq];omega,?_
    ext;have ei:((o:Int)+t).toNat=o+t.toNat:=by omega
    exists smS,_,_,rfl,rfl,by omega,by omega,by rw[ykd];omega,yt8 (by omega) (by omega),?_
    rw[ei];exists _,_,rfl,rfl,by rw[sizeLine_eq];show _+1<=_;omega,?_
    ext;exists z,rfl,by rw[sizeLine_eq];omega,?_
    exists _,_,rfl,rfl,?_,?_
    .rw[sizeLine_eq,ħ,Ħ,bq,<- ħ];show _+1+_<=_;omega
    .exact Mp.done f (ve (by rw[bf];omega)) (by rw[bo,g];rfl) N p rfl
   .rw[yn5]at p;refine k D _ F (S.free f) p (S.trans N) (by rw[bf,t5]) ?_ λx hx=>?_
    .refine List.pairwise_map.mpr (tn.imp_of_mem λ{a b}ha hb ne e=>ne ?_);have h2:=J a ha;have Z:=J b hb;have:=ymn R e;omega
    .obtain⟨t,g,rfl⟩:=br.mp hx;have h2:=J t g;exact yrc R W (by omega) (by omega)
#synth yj2 ["_law_model","_law_base","_law_learned"] ["_law_model","_law_base"] yv4
inductive yis  (vs:Υ) (H:Hp) (Q:VK) (E':XK):Prop
 |mk(md:x0)(P:qi Pd)(X:Sx)(tu tx:Str->x0)(x:Φ)(L:Η)(_:vs=[.ref md,baV x])(_:Mdl H X md P tu tx)(_:PdW P)(_:P.length<=1000)(_:ToD P x L)(_:∀l H',H l=none->H' l=some (.lst (lnV tx L))->yv H H'->Q (.ref l) H')
def yez:vz P w K mg Γ CX0 1 a.Kz a.Nv ["_law_model","_law_base"] yis:=by
 exists T.E9.F.ok,yj2,M;let⟨C,P,X,tu,c,x,L,rfl,N,W,Z,U,k⟩:=h;exists 2,1,yd (yo (i:=2) yj2.nd rfl (Or.inl rfl) (xc uo)) (yd (je PassesOwn.never (yr yae (pv 1) zd (yx _)) (yd (yw (è PySem.F.plainAttrs_list PySem.F.slot_list_insert PySem.F.type_list_insert yiq (pv 2) (pac yg (pa1 (xi xp (uc (zg M) (pv 0) (pv 1) (λY Y=>rfl)) yg (λY Y=>rfl)))))) (yc (yo (i:=1) yj2.nd rfl (Or.inl rfl) (xi xp (uc (zg M) (pv 0) (pv 1) (λY Y=>rfl)) yg (λY Y=>rfl)))))) (yc (yq (pv 2))));exists by walk_at "len",λl p=>?_
 ext
 refine⟨λm σ' G=>∃(y:Φ)(R S:Η),σ'=[some (.ref C),some (baV y),some (.ref l)]/\ToD P y R/\R++S=L/\G l=some (.lst (lnV c S))/\yv H G/\m=R.length,
  ⟨_,x,L,[],rfl,U,cP L,ya,y7 p,rfl⟩,?_⟩
 rintro m σ2 G ⟨y,R,S,rfl,O,f,g,D,rfl⟩;have u:=N.same D;have I:=U.len W;have a0:S.length<=1000:=by rw[<- f,bq]at I;omega
 ext
 cases y with
 |none =>
  refine yql (λY=>?_) (λz=>absurd rfl z);have e:S=L:=by rw[show R=[]from O]at f;exact f
  ext;rw[e]at g;exact k l _ p g D
 |some b =>
  refine yql (λz=>nomatch z) (λY=>?_)
  let⟨r,d,rfl,v⟩:=O;exists _,λσ' H' z=>z,?_;ext;refine Â g ?_;ext;exists C,_,rfl,u.get d,?_;ext;refine zt (SqT.of (u.t r d).1) (vq (j:=0) rfl) ?_;ext;exists l,_,_,0,rfl,rfl,g,bK _,by unfold lnV;rw[bf];omega,?_
  have q:yv H (upd G l (.lst ((lnV c S).take 0++V.ref (c r.nm)::(lnV c S).drop 0))):=λb o e=>yf (yb e p) (D _ _ e);have B:upd G l (.lst ((lnV c S).take 0++V.ref (c r.nm)::(lnV c S).drop 0)) l=some (.lst (lnV c ((r.nm,r.tx)::S))):=ya;generalize upd G l (.lst ((lnV c S).take 0++V.ref (c r.nm)::(lnV c S).drop 0))=G' at q B⊢;have n:=N.same q;ext;exists C,_,rfl,n.get d,?_;ext;refine zt (SqT.of (n.t r d).1) (vq (j:=1) rfl) ?_;ext;exists r.path.length,?_,r.bs,r.path,(r.nm,r.tx)::S,rfl,W.wf r d,?_,B,q,rfl
  .rw[v,bq,cj];omega
  .rw[<- f,v,cz];rfl
def ydv(x y:Φ):vev (baV x) (baV y)=true:=by cases x<;>cases y<;>rfl
theorem Mdl.frz{H:Hp}{X:Sx}{P:qi Pd}{tx:Str->x0}(h:Mdl H X md P tu tx)(hd:H md=some (.dK (mdK tu P)))(o:Obj):Mdl (upd H md (.frz o (.dK (mdK tu P)))) X md P tu tx :=
 ⟨.inr ⟨o,ya⟩,h.n,λq a=>(h.t q a).but (λz=>by have e:=(h.t q a).1;rw[z,hd]at e;cases e) But.upd,λq a=>(h.x q a).but (λz=>by have e:=(h.x q a).1;rw[z,hd]at e;cases e) But.upd⟩
def Ś{P:qi Pd}{kk:Key}{v:V}(h:(mdK tu P)[i]?=some (kk,v)):∃q,P[i]?=some q/\kk=.inr q.nm/\v=.ref (tu q.nm):=by unfold mdK at h;rw[bo]at h;let⟨q,a,e⟩:=cD.mp h;cases e;exact⟨q,a,rfl,rfl⟩
structure K2(K:xr)(a:Ads)(B H:Hp)(st lo md:x0)(C:Cf)(P:qi Pd)(X:Sx)(lk tp:Μ)(tu tx:Str->x0):Prop where
 s:Sto K a H st C P X
 b:Bs B H X
 l:B lo=some (.lst (refs lk C.n))
 r:ux B C.n lk C.kd tp C.ps
 n:B md=none
 m:Mdl H X md P tu tx
 z:P.length<=10
 w:C.w=2/\2<=C.mo/\C.mo<=5
section
variable{B H H':Hp}{st lo:x0}{C:Cf}{P:qi Pd}{X Y:Sx}{lk:Μ}{tx:Str->x0}
theorem K2.same(h:K2 K a B H st lo md C P X lk tp tu tx)(S:yv H H'):K2 K a B H' st lo md C P X lk tp tu tx:=⟨h.s.same S,h.b.same S,h.l,h.r,h.n,h.m.same S,h.z,h.w⟩
theorem K2.go(h:K2 K a B H st lo md C P X lk tp tu tx)(s:Sto K a H' st C P Y)(g:Gx X H H' Y):K2 K a B H' st lo md C P Y lk tp tu tx:=⟨s,h.b.go h.s g,h.l,h.r,h.n,h.m.go h.s g,h.z,h.w⟩
def K2.mdA(h:K2 K a B H st lo md C P X lk tp tu tx)(g:Gx X H H' Y){o:HO}(e:H md=some o):H' md=some o:=(Kf.go ⟨e,h.m.n⟩ h.s g).1
def K2.fz(h:K2 K a B H st lo md C P X lk tp tu tx)(hd:H md=some (.dK (mdK tu P)))(o:Obj):K2 K a B (upd H md (.frz o (.dK (mdK tu P)))) st lo md C P X lk tp tu tx:=⟨h.s.but (WSh.mu hd rfl) h.m.n But.upd,h.b.but h.n But.upd,h.l,h.r,h.n,h.m.frz hd o,h.z,h.w⟩
def K2.th(h:K2 K a B H st lo md C P X lk tp tu tx){o:Obj}(hd:H md=some (.frz o (.dK (mdK tu P)))):K2 K a B (upd H md (.dK (mdK tu P))) st lo md C P X lk tp tu tx :=
 ⟨h.s.but (WSh.mu hd rfl) h.m.n But.upd,h.b.but h.n But.upd,h.l,h.r,h.n,⟨.inl ya,h.m.n,λq c=>(h.m.t q c).but (λz=>by have e:=(h.m.t q c).1;rw[z,hd]at e;cases e) But.upd,λq c=>(h.m.x q c).but (λz=>by have e:=(h.m.x q c).1;rw[z,hd]at e;cases e) But.upd⟩,h.z,h.w⟩
def K2.ok(h:K2 K a B H st lo md C P X lk tp tu tx):∀q,q∈P->okN q.nm/\Sgs q.tx/\q.tx.length<=2:=λq b=>by
 have e:=h.s.sz q b;rw[h.w.1]at e;exists h.s.nm q b,e.1,e.2.1
def K2.lr(h:K2 K a B H st lo md C P X lk tp tu tx){x:Φ}(t:ToD P x L){F:Hp}{Z:Sx}(m:Mdl F Z md P tu tx){ln:x0}(hln:F ln=some (.lst (lnV tx L))):yv9 F (.ref ln) L.length 2 (lnA tx L) (txi L):=by
 exists .inr ⟨ln,rfl,by rw[<- yeo];exact hln⟩,λi b=>?_;let⟨r,f,d,_⟩:=t.at h.s.pw b;have c:=h.ok r f
 have e:txi L i=r.tx:=by
  unfold txi;rw[ck,bo,bi b,d];rfl
 exists(m.ln h.s.pw t b).1,?_,?_
 .rw[e];exact c.2.1
 .rw[e];exact c.2.2
end
def vfh{tc:TT}{ts te:TS}{D:Ă}{σ:St}{H:Hp}(C C':Prop)(h:∀Qb:Bool->Hp->Prop,(∀H',yv H H'->C->Qb true H')->(∀H',yv H H'->C'->Qb false H')->tc σ H Qb)(hT:∀H',yv H H'->C->ts D σ H')(hF:∀H',yv H H'->C'->te D σ H'):vct tc ts te D σ H :=
 h _ (λH' S c=>by show (if true=true then _ else _);rw[if_pos rfl];exact hT H' S c) (λH' S c=>by show (if false=true then _ else _);rw[if_neg (by decide)];exact hF H' S c)
def ÿ{c:Int}{n:Nat}(h:0<n):∃w:Nat,c%(n:Int)=(w:Int)/\w<n:=by have a:=cr c (show (n:Int)≠0 by omega);have b:=ci c (show 0<(n:Int) by omega);exists(c%(n:Int)).toNat,by omega,by omega
theorem yi0{zs:Ρ}:∀ys:Υ,(∀y∈ys,y∈zs.map V.int)->∃us:Ρ,ys=us.map V.int
 |[],_=>⟨[],rfl⟩
 |y::r,h=>by
  let⟨us,e⟩:=yi0 r λz b=>h z (bN _ b);let⟨u,_,a⟩:=br.mp (h y bO);exists u::us,by rw[e,<- a];rfl
def usd(P:qi Pd)(b:Str):Bool:=inV (.str b) (P.map λq=>baV q.bs)
def ymo(P:qi Pd):(P.map λq=>baV q.bs).all ŀ=true:=by rw[List.all_map,List.all_eq_true];intro q _;show ŀ (baV q.bs)=true;cases q.bs<;>rfl
def yi3{P:qi Pd}{b:Str}:usd P b=true↔ ∃q,q∈P/\q.bs=some b:=by
 unfold usd inV;rw[List.any_map,cU]
 constructor
 .rintro ⟨q,a,e⟩;exists q,a,?_;revert e;show eqV (baV q.bs) (.str b)=true->_
  cases q.bs with
  |none=>intro e;cases e
  |some y=>intro e;rw[eq_of_beq (show (y == b)=true from e)]
 .rintro ⟨q,a,e⟩;exists q,a,?_;show eqV (baV q.bs) (.str b)=true;rw[e];exact beq_self_eq_true b
theorem ypp{f:Pd->Nat}:∀P:qi Pd,P≠[]->∃q,q∈P/\∀r,r∈P->f r<=f q
 |[],h=>absurd rfl h
 |[x],_=>⟨x,bO,λr a=>by rw[bF.mp a];exact bn _⟩
 |x::y::P,_=>by
  let⟨q,b,h⟩:=ypp (f:=f) (y::P) (λz=>nomatch z)
  rcases Nat.le_total (f x) (f q)with z|z
  .exists q,bN _ b,λr a=>(bC.mp a).elim (λe=>by rw[e];exact z) (h r)
  .exists x,bO,λr a=>(bC.mp a).elim (λe=>by rw[e];exact bn _) λe=>bQ (h r e) z
def yrn{P:qi Pd}(w:PdW P)(h:P≠[]):(P.filter λq=>!usd P q.nm)≠[]:=by
 let⟨q,b,d⟩:=ypp (f:=λq=>q.path.length) P h;refine List.ne_nil_of_mem (cB.mpr ⟨b,?_⟩)
 cases e:usd P q.nm with
 |false=>rfl
 |true =>
  let⟨r,a,e⟩:=yi3.mp e;have t:=w.wf r a;rw[e]at t;let⟨u,c,i,g⟩:=t;obtain rfl:=Ĩ w.nd c b i;have z:=d r a;rw[g,bq,cj]at z;omega
#synth u8 ["_law_store","_law_model","_law_names_here","_law_script","_law_k","_law_cell","_law_free","_law_used","_law_bare","_law_name","_law_base","_law_text_here"] ["_law_store","_law_model","_law_names_here","_law_script","_law_k"] yjx
inductive ylx(K:xr)(a:Ads)(vs:Υ)(H:Hp)(Q:VK)(E':XK):Prop
 |mk(st lo md nl l:x0)(B:Hp)(C:Cf)(P:qi Pd)(X:Sx)(lk tp:Μ)(tu tx:Str->x0)(ns:Τ)(zs:Ρ)(j:Nat)(_:vs=[.ref st,.ref md,.ref nl,.ref l,.int j])(_:K2 K a B H st lo md C P X lk tp tu tx)(_:H md=some (.dK (mdK tu P)))(_:B nl=some (.lst (ns.map V.str)))(_:ns.length=5)(_:ns.Nodup)(_:(∀x,x∈ns->okN x))(_:(∀q,q∈P->q.nm∈ns))(_:SqL K B l (zs.map V.int))(_:zs.length<=63)(_:j<=100)(_:∀(P':qi Pd)(Y:Sx)(tu' tx':Str->x0)(H':Hp),K2 K a B H' st lo md C P' Y lk tp tu' tx'->H' md=some (.dK (mdK tu' P'))->(∀q,q∈P'->q.nm∈ns)->Q (.bl true) H')
def yta:vz P w K mg Γ CX0 15 a.F9 a.Fh ["_law_store","_law_model","_law_names_here","_law_script","_law_k"] (ylx K a):=by
 exists T.Fp.F.ok,u8,S;let⟨st,lo,d,nl,l,B,C,P,X,lk,tp,I,tx,ns,zs,j,rfl,D,a0,ay,n5,bd,aG,ad,hl,ba,hj,k⟩:=h
 have bb:P.length<=5:=by
  have e:=ģ (l:=P.map (·.nm)) (m:=ns) D.s.nd λx hx=>by
   let⟨q,g,rfl⟩:=br.mp hx;exact ad q g
  rw[bf,n5]at e;exact e
 have U:(mdK I P).length=P.length:=bf _;have hw:=D.w;refine yh (yo (i:=5) u8.nd rfl (Or.inl rfl) (uh (yfa T) S.m T.E8 (pac (pv 3) (pa1 (pv 4))))) ?_;refine yh (ŷ (i:=6) (js:=[1]) (ys:=["_law_model"]) u8.nd rfl rfl rfl (vx (pv 2)) (λC s2 H2 fp=>(ybt (Ê (zg S) (pv 0) (pv 1)))) (λC s2 H2 fp=>(pv 0)) rfl rfl (hyc:=(all_cons rfl yt)) (hrel:=(all_cons rfl yt))) ?_;refine yh (yo (i:=7) u8.nd rfl (Or.inr rfl) (yi8 (wb (js:=[]) (ys:=[]) rfl (yi1 (pv 1)) (λC s2 H2 fp=>(xi (r:=ywn K) xp (pv 0) yg (λ_ _=>rfl))) rfl rfl (hyc:=yt) (hrel:=yt)))) ?_;refine yh (Ğ (ŷ (i:=8) (js:=[7]) (ys:=["_law_used"]) u8.nd rfl rfl rfl (yac (pv 1)) (λC s2 H2 fp=>(yr (r:=rIn K true) yat (pv 0) (pv 1) (by with_unfolding_all rfl))) (λC s2 H2 fp=>(pv 0)) rfl rfl (hyc:=(all_cons rfl yt)) (hrel:=(all_cons rfl yt)))) ?_;refine yh (wa (PW.pt (ī (yr yb5 (pcB jp T.Aa (pa1 (pv 1))) yg (yx _)) (Á (yr xq (ym vo (pv 5) yg) yg (yx _))))) (yd (yo (i:=9) u8.nd rfl (Or.inl rfl) (xi xm (pcT (uz rfl) T.Af (pa1 (pv 1))) (ym vo (ym vd (pv 5) yg) (pcB jp T.Aa (pa1 (pv 1)))) (λ_ _=>rfl))) (yc (yq (xv (ŗ S.units) (vh (pv 0) T.A3 T.E5.m (ypu T) S.m T.E5.B .nil vg (pa1 (pv 9))) (xi xp (uc (zg S) (pv 1) (pv 9) (λ_ _=>rfl)) yg (λ_ _=>rfl)) (yx _))))) y6) ?_;refine yh (wa (PW.pt (ī (yr yb5 (pcB yp T.Aa (pa1 (pv 8))) yg (yx _)) (Á (PW.pt (ı (yr xq (ym vo (pv 5) yg) yg (yx _)) (ð (yr (ŗ S.units) (pv 6) (xc uo) (yx _)))))))) (yd (yo (i:=9) u8.nd rfl (Or.inl rfl) (xi xm (pv 8) (ym vo (ym vd (pv 5) yg) (pcB yp T.Aa (pa1 (pv 8)))) (λ_ _=>rfl))) (yd (yw (ydy (pv 1) (pv 9) ⟨rfl,rfl,rfl,rfl⟩)) (yc (yq (xv yet (vh (pv 0) T.A3 T.E6.m (yps T) S.m T.E6.B .nil vg (pa1 (pv 9))) zd (yx _)))))) y6) ?_;refine yh (yo (i:=9) u8.nd rfl (Or.inl rfl) (xi xm (pv 6) (ym vo (ym vd (pv 5) yg) (pcB yp T.Aa (pa1 (pv 6)))) (λ_ _=>rfl))) ?_;refine yh (yo (i:=10) u8.nd rfl (Or.inl rfl) zd) ?_;refine yh (jw (wa (PW.pt (ī (yr yb5 (pcB jp T.Aa (pa1 (pv 1))) yg (yx _)) (Á (yr yb5 (ym vo (ym vd (pv 5) yg) yg) yg (yx _))))) (yc (yo (i:=10) u8.nd rfl (Or.inl rfl) (xi xm (pcT (uz rfl) T.Af (pa1 (pv 1))) (ym vo (ym vd (pv 5) yg) (pcB jp T.Aa (pa1 (pv 1)))) (λ_ _=>rfl)))) y6)) ?_;refine yh (yo (i:=11) u8.nd rfl (Or.inl rfl) (uh (yzz T) S.m T.Of (pac (yhf (pv 3) (uk (pv 4)) uv (uk yg)) (pac (ym vo (ym vd (pv 5) yg) yg) (pa1 (ym vo (ym vd (pv 5) yg) yg)))))) ?_;refine yh (yaf (zg S) (pv 1) (pv 9) (į (pac (pv 11) (pa1 (pv 10)))) rfl) ?_;exists 5,7,yc (yq (xv yet (vh (pv 0) T.A3 T.R9 (yob T) S.m T.R8 .nil vg (pac (pv 9) (pac (pcT w6 T.Af (pa1 (pv 11))) (pa1 (pv 10))))) zd (yx _)));exists l,zs,j,rfl,D.b.s.seq hl,by omega,λc c0 c1=>?_
 ext;exists nl,rfl,⟨_,SqL.of (D.b.s _ _ ay)⟩,λD1 aJ=>?_;refine á (xs:=ns.map V.str) (λi G=>G D1=some (.lst (((ns.take i).filter λz=>decide (z∉P.map (·.nm))).map V.str))/\yv H G) ⟨ya,y7 aJ⟩ (λi G _ z=>SqL.of (z.2 _ _ (D.b.s _ _ ay))) (λi x G hx hi z=>?_) (λH1 z=>?_)
 .obtain⟨gD,N⟩:=z;rw[bo]at hx;have ax:i<ns.length:=by rw[bf]at hi;exact hi
  rw[bi ax]at hx;obtain rfl:=bE hx
  have aE:((ns.take i).filter λz=>decide (z∉P.map (·.nm))).length<=5:=by
   refine bQ (List.length_filter_le _ _) ?_;rw[bI];omega
  ext;by_cases hp:ns[i]∈P.map (·.nm)
  .obtain⟨q,g,e⟩:=br.mp hp;exists d,_,rfl,(by rw[<- e];exact(D.m.same N).get g),false,rfl,ĳ ?_;refine jm hi ⟨?_,N⟩;rw[gD,bL ax,List.filter_append,List.filter_cons_of_neg (by simpa using hp)];simp
  .exists d,_,rfl,(D.m.same N).getNo (λq g e=>hp (br.mpr ⟨q,g,e⟩)),true,rfl,Ń ?_;ext;refine we gD (ve (by rw[bf];omega)) hi ⟨?_,λy o e=>yf (yb e aJ) (N _ _ e)⟩;rw[ya,bL ax,List.filter_append,List.filter_cons_of_pos (by simpa using hp),bH];rfl
 let⟨am,S1⟩:=z;rw[bf,bZ]at am;have R:=S1 _ _ a0;ext;exists d,mdK I P,rfl,R,λo D2 a6=>?_;have aw:D2≠d:=λz=>by rw[z,ya]at a6;cases a6
 refine ŉ (λi G=>G D2=some (.lst ((P.take i).map λq=>baV q.bs))/\yv (upd H1 d (.frz o (.dK (mdK I P)))) G) ⟨ya,y7 a6⟩ (λi G _ z=>z.2 _ _ ya) (λi kk v G ak hi z=>?_) (λG z=>?_)
 .obtain⟨gD,N⟩:=z;let⟨q,g,rfl,rfl⟩:=Ś ak;have ao:i<P.length:=(bw.mp g).1;have a8:=bB g;ext;refine zt (SqT.of ((((D.same S1).m.frz R o).same N).t q a8).1) (vq (j:=1) rfl) ?_;refine we (n:=(mdK I P).length) gD (ve (by rw[bf,bI];omega)) hi ⟨?_,λy o e=>yf (yb e a6) (N _ _ e)⟩;rw[ya,bL ao,(bw.mp g).2,bH];rfl
 let⟨gD,N⟩:=z;rw[U,bZ]at gD;exists d,o,.dK (mdK I P),(λo u e=>by rw[R]at e;cases e),N _ _ ya,?_
 have S2:yv H1 (upd G d (.dK (mdK I P))):=λc o' e=>by
  by_cases z:c=d
  .rw[z,ya];rw[z,R]at e;exact e
  .exact yf z (N _ _ (yf z e))
 have as:upd G d (.dK (mdK I P)) D2=some (.lst (P.map λq=>baV q.bs)):=yf aw gD;generalize upd G d (.dK (mdK I P))=H2 at S2 as⊢;clear gD N a6 G;have ap:=S1.trans S2;have a2:=ap _ _ a0;ext;exists d,mdK I P,rfl,a2,λo D3 ab=>?_;have aC:D3≠d:=λz=>by rw[z,ya]at ab;cases ab
 refine yfu (λi G=>G D3=some (.lst (((P.take i).filter λq=>!usd P q.nm).map λq=>V.str q.nm))/\yv (upd H2 d (.frz o (.dK (mdK I P)))) G) ⟨ya,y7 ab⟩ (λi G _ z=>z.2 _ _ ya) (λi kk v G ak hi z=>?_) (λG z=>?_)
 .obtain⟨gD,N⟩:=z;let⟨q,g,rfl,rfl⟩:=Ś ak;have ao:i<P.length:=(bw.mp g).1
  have aE:((P.take i).filter λq=>!usd P q.nm).length<=5:=by
   refine bQ (List.length_filter_le _ _) ?_;rw[bI];omega
  have nU:D2≠d:=aw;ext;exists D2,_,rfl,.inl (SqL.of (N _ _ (yf nU as))),rfl,ymo _,?_;ext;have e1:P.take (i+1)=P.take i++[q]:=by rw[bL ao,(bw.mp g).2]
  cases hu:usd P q.nm with
  |true =>
   rw[show inV (kV (.inr q.nm)) (P.map λq=>baV q.bs)=true from hu];refine ĳ ?_;refine jm hi ⟨?_,N⟩;rw[gD,e1,List.filter_append,List.filter_cons_of_neg (by rw[hu];decide)];simp
  |false =>
   rw[show inV (kV (.inr q.nm)) (P.map λq=>baV q.bs)=false from hu];refine Ń ?_;ext;refine we gD (ve (by rw[bf];omega)) hi ⟨?_,λy o e=>yf (yb e ab) (N _ _ e)⟩;rw[ya,e1,List.filter_append,List.filter_cons_of_pos (by rw[hu];rfl),bH];rfl
 let⟨gD,N⟩:=z;rw[U,bZ]at gD;refine g8 ?_;exists d,o,.dK (mdK I P),(λo u e=>by rw[a2]at e;cases e),N _ _ ya,?_
 have S3:yv H2 (upd G d (.dK (mdK I P))):=λc o' e=>by
  by_cases z:c=d
  .rw[z,ya];rw[z,a2]at e;exact e
  .exact yf z (N _ _ (yf z e))
 have av:upd G d (.dK (mdK I P)) D3=some (.lst ((P.filter λq=>!usd P q.nm).map λq=>V.str q.nm)):=yf aC gD;generalize upd G d (.dK (mdK I P))=H3 at S3 av⊢;have ac:=ap.trans S3;have ah:=S3 _ _ (S2 _ _ am);clear gD N ab G as aw aC a2 R ap S2 S1 S3 H1 H2 am;refine vcx (by assumption) ?_;refine yk2 λ_ _ _ _ _ _=>?_;refine vfh (0<P.length) True (λQb qT qF=>?_) (λH4 S4 i0=>?_) (λH4 S4 _=>?_)
 .ext;exists d,_,rfl,ac _ _ a0,?_;rw[U];ext;refine ur (λh1=>?_) (λh1=>qF _ (yv.refl _) trivial);ext;by_cases h3:c%5=0
  .rw[bv h3];exact qT _ (yv.refl _) (by omega)
  .rw[bD h3];exact qF _ (yv.refl _) trivial
 .have a4:=ac.trans S4;have ai:=a4 _ _ a0;ext;exists d,_,rfl,ai,λkl hkl0=>?_;rw[Ò];exists hkl0,H5,S5,hkl5;have f:=S5 _ _ ai;ext;exists d,_,rfl,f,?_;rw[U];ext;let⟨w,Z,J⟩:=ÿ (c:=c/5) i0;rw[Z];refine jy (v:=.str (P[w]).nm) (SqL.of hkl5) (vq (by rw[bo,bo,bi J];rfl)) ?_;have g:=ce J;generalize P[w]=q at g⊢;have M:=D.same (a4.trans S5);let⟨ds,vl,vm,vp,vc,az⟩:=M.s.ins;ext;refine M.s.textof (D.ok q g).1.1 (λno=>absurd rfl (no q g)) λr S e Y tq H6 O g6 _ aV=>?_;obtain rfl:=Ĩ D.s.nd S g e;have ae:=M.go O g6;ext;exists d,_,rfl,ae.m.get g,?_;ext;refine zt (SqT.of (ae.m.t r g).1) (vq (j:=0) rfl) ?_;refine yak r.tx r.tx (SqL.of aV.1) (SqL.of (ae.m.x r g).1) ?_;rw[bv rfl];exact k P Y I tx H6 ae (M.mdA g6 f) ad
 have a3:=S4 _ _ av;have a5:=S4 _ _ ah;have a4:=ac.trans S4;clear av ah ac S4 H3;refine yov ?_;refine vcx (by assumption) ?_;refine yk2 λ_ _ _ _ _ _=>?_;refine vfh ((P.filter λq=>!usd P q.nm)≠[]) ((P.filter λq=>!usd P q.nm)=[]\/(ns.filter λz=>decide (z∉P.map (·.nm)))≠[]) (λQb qT qF=>?_) (λH5 S5 hb=>?_) (λH5 S5 hf=>?_)
 .ext;refine x5 (SqL.of a3) ?_;rw[bf];ext;refine ur (λh1=>?_) (λh1=>qF _ (yv.refl _) (.inl (cm (by omega))));have aH:(P.filter λq=>!usd P q.nm)≠[]:=λz=>by rw[z]at h1;exact absurd h1 (by decide)
  ext;refine ur (λh3=>qT _ (yv.refl _) aH) (λh3=>?_);ext;exists by walk_at "len",λe0 he0=>?_
  exists he0,H5,S5,he5
  refine yb3 (ns.filter λz=>decide (z∉P.map (·.nm))) [] (λx hx=>(aG x (cB.mp hx).1).2) (λx hx=>nomatch hx) (SqL.of (S5 _ _ a5)) (SqL.of he5) ?_
  by_cases hf:(ns.filter λz=>decide (z∉P.map (·.nm)))=[]
  .rw[bv hf];exists _,rfl,qT _ S5 aH
  .rw[bD hf];exists _,rfl,qF _ S5 (.inr hf)
 .have W:=a4.trans S5;have M:=D.same W;have f:=W _ _ a0;ext;refine x5 (SqL.of (S5 _ _ a3)) ?_;rw[bf];have aU:=List.length_pos_iff.mpr hb;ext;let⟨w,Z,J⟩:=ÿ (c:=c/5) aU;rw[Z];refine jy (v:=.str ((P.filter λq=>!usd P q.nm)[w]).nm) (SqL.of (S5 _ _ a3)) (vq (by rw[bo,bi J];rfl)) ?_;have g:=ce J;generalize (P.filter λq=>!usd P q.nm)[w]=q at g⊢;let⟨a8,aA⟩:=cB.mp g;have aP:∀r,r∈P->r.bs≠some q.nm:=λr S e=>by rw[yi3.mpr ⟨r,S,e⟩]at aA;cases aA
  ext;exists d,rfl,.inl ⟨_,.of f⟩,?_;ext;exists mdK I P,.inr q.nm,_,f,rfl,ykq I a8,?_;rw[yms];have b6:But d H5 (upd H5 d (.dK (mdK I (P.filter λr=>decide (r.nm≠q.nm))))):=But.upd;have O:=M.s.but (WSh.mu f rfl) M.m.n b6;have aF:=M.b.but M.n b6;have an:=M.m.drop f q.nm;have af:upd H5 d (.dK (mdK I (P.filter λr=>decide (r.nm≠q.nm)))) d=some (.dK (mdK I (P.filter λr=>decide (r.nm≠q.nm)))):=ya;generalize upd H5 d (.dK (mdK I (P.filter λr=>decide (r.nm≠q.nm))))=H6 at O aF an af⊢;let⟨ds,vl,vm,vp,vc,az⟩:=O.ins;ext;refine O.drop (D.ok q a8).1.1 (λno=>absurd rfl (no q a8)) (λr S e ⟨u,hu,eu⟩=>absurd eu (aP u hu)) λr S e _ Y H7 aR g7=>?_;ext;exact k _ Y I tx H7 ⟨aR,aF.go O g7,D.l,D.r,D.n,an.go O g7,bQ (List.length_filter_le _ _) D.z,D.w⟩ (Kf.go ⟨af,an.n⟩ O g7).1 λu hu=>ad u (cB.mp hu).1
 have aK:(ns.filter λz=>decide (z∉P.map (·.nm)))≠[]:=hf.elim (λz y=>by
  have e:P=[]:=Classical.byContradiction λne=>yrn D.s.pw ne z;subst e;rw[List.filter_eq_self.mpr λx _=>by simp]at y;rw[y]at n5;cases n5) id
 have W:=a4.trans S5;have a7:=S5 _ _ a5;clear a5 a3 a4 S5 hf H4;ext;refine x5 (SqL.of a7) ?_;rw[bf];have aT:=List.length_pos_iff.mpr aK;ext;let⟨w,Z,J⟩:=ÿ (c:=c/5) aT;rw[Z];refine jy (v:=.str ((ns.filter λz=>decide (z∉P.map (·.nm)))[w])) (SqL.of a7) (vq (by rw[bo,bi J];rfl)) ?_;have hb:=ce J;generalize (ns.filter λz=>decide (z∉P.map (·.nm)))[w]=b at hb⊢;let⟨aI,aS⟩:=cB.mp hb
 have aj:∀q,q∈P->q.nm≠b:=λq g e=>by
  have z:=of_decide_eq_true aS;exact z (br.mpr ⟨q,g,e⟩)
 ext;exists λσ2 F=>∃(x:Φ)(L:Η),σ2=[some (.ref st),some (.ref d),some (.ref nl),some (.ref l),some (.int j),some (.int c),some (.ref D1),some (.ref D2),some (.ref D3),some (.str b),some (baV x),none]/\ToD P x L/\yv H F,?_,?_
 .have f:=W _ _ a0;refine ifI (0<P.length) (λQb qT qF=>?_) (λi0=>?_) ?_
  .ext;exists d,_,rfl,f,?_;rw[U];ext;refine ur (λh1=>?_) (λh1=>qF);ext;by_cases h3:0<c/40%3
   .rw[bv h3];exact qT (by omega)
   .rw[bD h3];exact qF
  .ext;exists d,_,rfl,f,λkl hkl0=>?_;rw[Ò];exists hkl0,H6,S6,hkl6;ext;exists d,_,rfl,S6 _ _ f,?_;rw[U];ext;let⟨w,Z,J⟩:=ÿ (c:=c/120) i0;rw[Z];refine jy (v:=.str (P[w]).nm) (SqL.of hkl6) (vq (by rw[bo,bo,bi J];rfl)) ?_;ext;exists some (P[w]).nm,_,rfl,⟨P[w],ce J,rfl,rfl⟩,W.trans S6
  .exists none,[],rfl,rfl,W
 clear W a7 H5;rintro σ2 F ⟨x,L,rfl,hL,SF⟩;ext;exists by decide,l,_,rfl,(D.b.s.trans SF).seq hl,λp ys hp0 aM aO=>?_
 let⟨us,rfl⟩:=yi0 ys aM;rw[bf,bf]at aO;exists hp0,H6,S6,hp6;obtain⟨z3,aY,b2⟩:∃z:Nat,c/1000%3=(z:Int)/\z<=2:=⟨(c/1000%3).toNat,by omega,by omega⟩;ext;rw[aY];exists p,us,z3,_,rfl,hp6,by omega,by omega,λt ts H7 aZ aL aQ b7 S7=>?_
 have au:=SF.trans (S6.trans S7);ext;exists by walk_at "len",λu hu0=>?_
 exists hu0,H8,S8,hu8;have a9:=D.same (au.trans S8);have a1:=(au.trans S8) _ _ a0;have al:Kf H8 X t (.lst (ts.map V.int)):=(Kf.new (D.same (SF.trans S6)).s aZ aL).same S8;have aX:Kf H8 X u (.tup [.ref t,baV x]):=Kf.new (D.same au).s hu0 hu8;ext;exists d,_,rfl,ylb.k (k:=.inr b) a1 (ve (by rw[U];omega)),?_;rw[ysv (q:=⟨b,x,L,ts⟩) aj];have b9:But d H8 (upd H8 d (.dK (mdK (upS I b u) (P++[⟨b,x,L,ts⟩])))):=But.upd;have ar:=a9.s.but (WSh.mu a1 rfl) a9.m.n b9;have aB:=a9.b.but a9.n b9;have aq:=a9.m.put (q:=⟨b,x,L,ts⟩) a1 aj aX al;have aD:=al.but (λz=>by have e:=al.1;rw[z,a1]at e;cases e) b9;have ag:upd H8 d (.dK (mdK (upS I b u) (P++[⟨b,x,L,ts⟩]))) d=some (.dK (mdK (upS I b u) (P++[⟨b,x,L,ts⟩]))):=ya;generalize upd H8 d (.dK (mdK (upS I b u) (P++[⟨b,x,L,ts⟩])))=H9 at ar aB aq aD ag⊢;let⟨ds,vl,vm,vp,vc,az⟩:=ar.ins;ext;refine ý (SqL.of aD.1) λy hy0=>?_;exists hy0,HA,SA,hyA;have aa:=ar.same SA;let⟨b1,b5,b3,be,bc,b0⟩:=aa.ins;ext;refine aa.put (aG b aI) ⟨hyA,aQ,by omega⟩ hL aj (by omega) λY HB aN gB=>?_;ext;exact k _ Y _ _ HB ⟨aN,(aB.same SA).go aa gB,D.l,D.r,D.n,(aq.same SA).go aa gB,by rw[bq];show P.length+1<=10;omega,D.w⟩ (Kf.go ⟨SA _ _ ag,aq.n⟩ aa gB).1 λq g=>(bP.mp g).elim (ad q) λz=>by rw[bF.mp z];exact aI
def yal(mx bt:Nat->Int):Nat->Int
 |0=>1
 |j+1=>yal mx bt j*giv (mx j) (bt j)
theorem vcj{mx:Nat->Int}:∀m:Nat,m<100000->(∀j,j<m->Ch (mx j))->ywo m (yal mx bt m) (16777216^m) (snK mx bt m)
 |0,_,_=>vdm
 |m+1,hm,hc=>by
  have d:ywo m (yal mx bt m) (16777216^m) (snK mx bt m):=vcj m (by omega) λj c=>hc j (by omega);have a:=(z7 (bt:=bt) m λj c=>hc j (by omega)).1;have e:=yii (b:=bt m) (by omega) a (hc m (by omega)) d;rw[Int.pow_succ];exact e
theorem yow:∀k:Nat,pw k=256^k
 |0=>rfl
 |k+1=>by
  show pw k*256=_;rw[yow k,Int.pow_succ]
def ymc{mx:Nat->Int}{m:Nat}(hm:m<100000)(hc:∀j,j<m->Ch (mx j)):yal mx bt m*256^(tL (snK mx bt m)).length<1024*16777216^m:=by rw[<- yow,yes];exact yri (by omega) (z7 m hc).1 (vcj m hm hc)
#synth zr ["_law_told","_law_data","_law_left","_law_right","_law_chance","_law_bit","_law_byte"] ["_law_told","_law_data"] ykc
inductive yh7(K:xr)(vs:Υ)(H:Hp)(Q:VK)(E':XK):Prop
 |mk(r d:x0)(m:Nat)(tu:Μ)(mx bt:Nat->Int)(ns:Ρ)(_:vs=[.ref r,.ref d])(_:H r=some (.lst (refs tu m)))(_:(∀j,j<m->H (tu j)=some (.tup [.int (mx j),.int (bt j)])/\Ch (mx j)/\(bt j=0\/bt j=1)))(_:H d=some (.lst (ns.map V.int)))(_:yal mx bt m*256^ns.length<1024*16777216^m)(_:Q (.bl true) H)
def yr7:vz P w K mg Γ CX0 1 a.Fa a.Fi ["_law_told","_law_data"] (yh7 K):=by
 exists T.Fq.F.ok,zr,L;let⟨r,d,m,x,b,f,t,rfl,g,n,u,q,k⟩:=h;refine yh (yo (i:=2) zr.nd rfl (Or.inl rfl) yg) ?_;refine yh (yo (i:=3) zr.nd rfl (Or.inl rfl) yg) ?_;refine yh (xz PassesOwn.never rfl (vx (pv 0)) (ĭ rfl (xf (vn (i:=4) zr.nd rfl (Or.inl rfl)) (xf (vn (i:=5) zr.nd rfl (Or.inl rfl)) À))) (yd (yo (i:=3) zr.nd rfl (Or.inl rfl) (ym wq (pv 3) (vk rfl T.Cd))) (yc (wa (yr xq (pv 5) yg (yx _)) (yc (yo (i:=2) zr.nd rfl (Or.inl rfl) (ym wq (pv 2) (pv 4)))) (yc (yo (i:=2) zr.nd rfl (Or.inl rfl) (ym wq (pv 2) (ym zx (vk rfl T.Cd) (pv 4))))))))) ?_;refine yh (xz PassesOwn.never rfl (vx (pv 1)) (vn (i:=6) zr.nd rfl (Or.inl rfl)) (yc (yo (i:=2) zr.nd rfl (Or.inl rfl) (ym wq (pv 2) yg)))) ?_;exists 2,5,yc (yq (xv ò (pv 2) (pv 3) (yx _)));exists r,rfl,⟨_,SqL.of g⟩,x8 (K:=K) (a:=r) (xs:=refs x m) (λi σ2 G=>∃(l j:Ψ),σ2=[some (.ref r),some (.ref d),some (.int (yal b f i)),some (.int (1024*16777216^i)),l,j,none]/\H=G) ⟨_,_,rfl,rfl⟩ (λi σ2 G Z ⟨_,_,_,e⟩=>by rw[<- e];exact SqL.of g) ?_ ?_
 .rintro i y σ2 G v ⟨l,j,rfl,rfl⟩;let⟨rfl,C⟩:=uw v;let⟨J,⟨M,N⟩,c⟩:=n i C;refine Į (SqT.of J) rfl ?_;ext;have D:(1024:Int)*16777216^i*16777216=1024*16777216^(i+1):=by rw[Int.mul_assoc,Int.pow_succ]
  rw[D];rcases c with c|c
  .refine ur (λz=>absurd (c.symm.trans z) (by decide)) (λZ=>?_);ext;exists _,_,by show _=[_,_,some (V.int (yal b f i*giv (b i) (f i))),_,_,_,_];rw[c];rfl,rfl
  .refine ur (λZ=>?_) (λz=>absurd c z);ext;exists _,_,by show _=[_,_,some (V.int (yal b f i*giv (b i) (f i))),_,_,_,_];rw[c];rfl,rfl
 .rintro σ2 G ⟨l,j,rfl,rfl⟩;rw[vv];ext;exists d,rfl,⟨_,SqL.of u⟩,x8 (K:=K) (a:=d) (xs:=t.map V.int) (λi σ2 G=>∃(o:Ψ),σ2=[some (.ref r),some (.ref d),some (.int (yal b f m*256^i)),some (.int (1024*16777216^m)),l,j,o]/\H=G) ⟨_,by rw[Int.pow_zero,Int.mul_one],rfl⟩ (λi σ2 G Z ⟨_,_,e⟩=>by rw[<- e];exact SqL.of u) ?_ ?_
  .rintro i y σ2 G v ⟨o,rfl,rfl⟩;ext;exists _,by rw[Int.mul_assoc,<- Int.pow_succ],rfl
  .rintro σ2 G ⟨o,rfl,rfl⟩;rw[bf];ext;rw[bv q];exact k
#synth Ĥ ["_law_store","_law_looks_here","_law_model","_law_name","_law_most","_law_behind","_law_text_here","_law_base","_law_learned","_law_data"] ["_law_store","_law_looks_here","_law_model","_law_name","_law_most","_law_behind"] yj4
inductive yft(K:xr)(a:Ads)(vs:Υ)(H:Hp)(Q:VK)(E':XK):Prop
 |mk(st lo md bh:x0)(B:Hp)(C:Cf)(P:qi Pd)(X:Sx)(lk tp:Μ)(tu tx:Str->x0)(q:Pd)(bs:Ρ)(_:vs=[.ref st,.ref lo,.ref md,.str q.nm,.int (C.mo:Nat),.ref bh])(_:K2 K a B H st lo md C P X lk tp tu tx)(_:q∈P)(_:Kf H X bh (.lst (bs.map V.int)))(_:Byt bs)(_:bs.length<=10)(_:∀Y H',Sto K a H' st C P Y->Gx X H H' Y->Q (.bl true) H')
def ys6:vz P w K mg Γ CX0 15 a.Fb a.Fj ["_law_store","_law_looks_here","_law_model","_law_name","_law_most","_law_behind"] (yft K a):=by
 exists T.Fr.F.ok,Ĥ,f;let⟨st,lo,md,bh,B,C,P,X,lk,tp,tu,tx,q,bs,rfl,p,y,ao,ab,aN,k⟩:=h;let⟨n1,n6,_⟩:=p.s.cf;let⟨ac,aa,aA⟩:=p.ok q y;have aD:=p.z;have hw:=p.w;have L:=p.s.to q y;have aP:=L.len p.s.pw;have J:yaq (Ú (q.path.map (·.2))):=jn _;have aL:(q.by C).length<=5500:=yek n1 n6 J (by omega);have uq:∀{r:Pd},r∈P->r.nm=q.nm->r=q:=λ{r}f e=>Ĩ p.s.nd f y e;have ah:Byt (q.by C):=ybz _;refine yh (yo8 (uc (zg f) (pv 2) (pv 3) (λu u=>rfl)) (ĭ rfl (xf (vn (i:=6) Ĥ.nd rfl (Or.inl rfl)) (xf (vn (i:=7) Ĥ.nd rfl (Or.inl rfl)) À)))) ?_;refine yh (yo (i:=8) Ĥ.nd rfl (Or.inl rfl) (uh (yez T) f.m T.E9 (pac (pv 2) (pa1 (pv 7))))) ?_;refine yh (yo (i:=9) Ĥ.nd rfl (Or.inl rfl) (vh (pv 0) T.A3 T.Cc.m (yev T) f.m T.Cc.B .nil vg (pa1 (pv 3)))) ?_;refine yh (wa (PW.pt (ı (yr (Ô f.units) (vh (pv 0) T.A3 T.E5.m (ypu T) f.m T.E5.B .nil vg (pa1 (pv 3))) (pv 6) (yx _)) (ð (yr (Ô f.units) (û (vbp T) f.m rfl T.Rt T.R7.kp T.Rs .nil vg (pac (pv 1) (pac (pv 9) (pac (pv 4) (pa1 (pv 8)))))) (pv 6) (yx _))))) (yc (yq İ)) y6) ?_;refine yh (wa (yr (Ô f.units) (û (yoi T) f.m rfl T.R6 T.P7.kp T.R5 .nil vg (pac (pv 1) (pac (ym yk3 (pv 9) (pv 5)) (pac (pv 4) (pa1 (pv 8)))))) (į (pac (pv 6) (pa1 (pcB yp T.Aa (pa1 (pv 9)))))) (yx _)) (yc (yq İ)) y6) ?_;exists 6,4,yc (yq (uh (yr7 T) f.m T.Fq (pac (yaj (yy9 T) f.m rfl T.Rq T.R3.kp T.Rp .nil v7 (pac (pv 1) (pac (pv 6) (pa1 (pv 8))))) (pa1 (pv 9)))));exists md,_,rfl,p.m.get y,?_;refine Į (SqT.of (p.m.t q y).1) rfl ?_;ext;exists md,P,X,tu,tx,q.bs,q.path,rfl,p.m,p.s.pw,by omega,L,λln H1 R a3 S1=>?_
 have D:=p.same S1;let⟨az,aI,aG,aF,aM,aq⟩:=D.s.ins;ext;refine D.s.bytesof ac.1 (λno=>absurd rfl (no q y)) λr f e dl H2 a2 O S2=>?_;obtain rfl:=uq f e;have g:=D.same S2;have Z:Kf H2 X ln (.lst (lnV tx r.path)):=(Kf.new p.s R a3).same S2;have U:Kf H2 X dl (.lst ((r.by C).map V.int)):=Kf.new D.s a2 O;have a1:=(ao.same S1).same S2;let⟨ax,aC,ay,aO,aH,ai⟩:=g.s.ins;ext;refine g.s.textof ac.1 (λno=>absurd rfl (no r y)) λd av e' Y tq H3 af g3 am aj=>?_;obtain rfl:=uq av e';have c:=g.go af g3;have a4:=Z.go g.s g3;have v:=U.go g.s g3;have ag:=a1.go g.s g3;have as:=g3.ahead (S1.trans S2);clear Z U a1 aq ai g D S1 S2 g3 a3 R a2 O ao am p H2 H1;ext;refine yak d.tx d.tx (SqL.of aj.1) (SqL.of (c.m.x d y).1) ?_;rw[bv rfl];ext;have ri:∀{F:Hp}{dd:x0}{dt:Ρ},yv H3 F->F dd=some (.lst (dt.map V.int))->Byt dt->dt.length<=12000->ve2 F lo dd (.ref ln) C.n lk C.kd tp C.ps dt C.mo d.path.length 2 (lnA tx d.path) (txi d.path):=λ{F dd dt}S hd hb hz=>⟨S _ _ (c.b.s _ _ c.l),n1,n6,c.r.same (c.b.s.trans S),hd,hb,hz,by omega,c.lr L (c.m.same S) (S _ _ a4.1),by decide,by omega,by omega⟩
 let⟨N,a7,a5⟩:=ž (kd:=C.kd) (ps:=C.ps) (bs:=[]) n1 n6 J aa λu z=>(nomatch z)
 rw[cP,<- É]at N a7 a5;have ep:δ C.n C.kd C.ps (ut (txi d.path) d.path.length) d.tx=d.by C:=by rw[É];rfl
 rw[ep]at N a7 a5;exists lo,dl,.ref ln,C.n,lk,C.kd,tp,C.ps,d.by C,C.mo,d.path.length,2,_,_,rfl,ri (yv.refl _) v.1 ah (by omega),λM r H4 hM I aK aB an S4=>?_,λa6 H4 S4=>(a6 _ (by omega) N a5).elim;obtain rfl:M=d.tx.length:=N.uniq I.b1 I.b0;rw[a7]at an;ext;refine yak d.tx d.tx (SqL.of an) (SqL.of (S4 _ _ (c.m.x d y).1)) ?_;rw[bv rfl];ext;exists dl,bh,_,_,rfl,rfl,S4 _ _ v.1,S4 _ _ ag.1,jf (by rw[bf,bf];omega),λcq hcq0=>?_;rw[<- bH];exists hcq0,H5,S5,hcq5;have ak:=S4.trans S5;let⟨a8,ap,al⟩:=ž (kd:=C.kd) (ps:=C.ps) (bs:=bs) n1 n6 J aa ab;rw[<- É,ep]at a8 ap al;ext;exists lo,cq,.ref ln,C.n,lk,C.kd,tp,C.ps,_,C.mo,d.path.length,2,_,_,rfl,ri ak hcq5 (ü ah ab) (by rw[bq];omega),λM t r3 H6 hM I aQ aw ae W S6=>?_,λa6 H6 S6=>(a6 _ (by omega) a8).elim;obtain rfl:M=d.tx.length:=a8.uniq I.b1 I.b0;rw[ap]at W;rw[al]at ae;have ad:=ak.trans S6;ext;refine x5 (SqL.of (ad _ _ v.1)) ?_;rw[bf];ext;exists by walk_at "len",λu hu0=>?_
 exists hu0,H7,S7,hu7;have o:=ad.trans S7;have sI:∀{G:Hp}{q:x0}{xs:Ρ},G q=some (.lst (xs.map V.int))->Sd K G (.ref q) (.list (xs.map PyData.int)) 1:=λh=>Sd.lst (SqL.of h) (Sds.ints _);refine vdl (Sd.tup (SqT.of (S7 _ _ ae)) (.cons (sI (S7 _ _ W)) (.cons (Sd.int _) .nil))) (Sd.tup (SqT.of hu7) (.cons (sI (o _ _ (c.m.x d y).1)) (.cons (Sd.int _) .nil))) (by decide) ?_;ext;exists lo,tx d.nm,.ref ln,C.n,lk,C.kd,tp,C.ps,d.tx,d.path.length,2,_,_,rfl,⟨o _ _ (c.b.s _ _ c.l),n1,n6,c.r.same (c.b.s.trans o),⟨o _ _ (c.m.x d y).1,aa,by omega⟩,c.lr L (c.m.same o) (o _ _ a4.1),by decide,by omega,by omega⟩,λr8 ar H8 hP a0 S8=>?_;have a9:=o.trans S8;have aJ:=xl d.tx;ext;exists r8,dl,(dec d.tx).length,ar,_,_,d.by C,rfl,hP.r,λj hj=>⟨hP.t j hj,(a0 j hj).1,yk7 hj⟩,a9 _ _ v.1,?_,k Y H8 (af.same a9) (as.same a9);rw[<- ep];exact ymc (by omega) λj hj=>(a0 j hj).1
def vam{g:Bool->Bool}{H:Hp}{Q:VK}{x y:V}{d e:PyData}{k:Nat}(h1:Sd K H x d k)(h2:Sd K H y e k)(hk:k<=60)(h:Q (.bl (g (PyData.eqv d e))) H):ywm K g x y H Q:=by
 have a:∀{x:V}{d:PyData},Sd K H x d k->SeqAt.shaped d=true:=λ{x d}h=>by
  unfold SeqAt.shaped;rw[bW];exists h.lay,bv (by have:=h.dep;omega)
 exists d,e,h1.rd,h2.rd,a h1,a h2,h
def dTs(A:qi (Ρ)):qi PyData:=A.map λt=>PyData.list (t.map PyData.int)
theorem yp4:∀A B:qi (Ρ),PyData.eqvAll (dTs A) (dTs B)=decide (A=B)
 |[],[]=>by simp[dTs,PyData.eqvAll]
 |[],_::_=>by simp[dTs,PyData.eqvAll]
 |_::_,[]=>by simp[dTs,PyData.eqvAll]
 |x::r,y::t=>by
  have e:=yp4 r t;unfold dTs at e⊢;simp only[bU,PyData.eqvAll,PyData.eqv,z8,e];by_cases h:x=y<;>by_cases h':r=t<;>simp[h,h']
def yr6(L:Η):(List.range L.length).map (txi L)=L.map (·.2):=by
 refine List.ext_getElem? λi=>?_;rw[bo];rcases Nat.lt_or_ge i L.length with h|h
 .rw[cF h];unfold txi;simp[ck,bi h]
 .rw[cg (by rw[bV];exact h),cg (by rw[bf];exact h)];rfl
def Mdl.sd{H:Hp}{X:Sx}{l:x0}{P:qi Pd}{tx:Str->x0}(h:Mdl H X md P tu tx)(w:PdW P){x:Φ}(t:ToD P x L)(hl:H l=some (.lst (lnV tx L))):Sd K H (.ref l) (.list (dTs (L.map (·.2)))) 2:=by rw[<- yr6];unfold dTs;rw[bS];rw[yeo]at hl;exact Sd.lst (SqL.of hl) (Sds.refs _ λi a=>Sd.lst (SqL.of (h.ln w t a).1) (Sds.ints _))
def vdf{C:Cf}{q r:Pd}(n1:1<=C.n)(n6:C.n<=6)(hq:Sgs q.tx)(hr:Sgs r.tx)(e:q.path.map (·.2)=r.path.map (·.2))(h:(q.by C).take (r.by C).length=r.by C):q.tx=r.tx:=by unfold Pd.by at h;rw[<- e]at h;have a:yaq (Ú (q.path.map (·.2))):=jn _;exact yr5 hq hr (λj Z=>å n1 n6 a j) (λj Z=>å n1 n6 a j) h
#synth Ģ ["_law_store","_law_model","_law_one","_law_other","_law_data","_law_beside"] ["_law_store","_law_model"] yki
inductive yhx(K:xr)(a:Ads)(vs:Υ)(H:Hp)(Q:VK)(E':XK):Prop
 |mk(st lo md:x0)(B:Hp)(C:Cf)(P:qi Pd)(X:Sx)(lk tp:Μ)(tu tx:Str->x0)(_:vs=[.ref st,.ref md])(_:K2 K a B H st lo md C P X lk tp tu tx)(_:H md=some (.dK (mdK tu P)))(_:∀H',yv H H'->Q (.bl true) H')
def yrz:vz P w K mg Γ CX0 5 a.Fc a.Fk ["_law_store","_law_model"] (yhx K a):=by
 exists T.Fs.F.ok,Ģ,n;let⟨st,lo,l,B,C,P,X,lk,tp,L,tx,rfl,h2,S,k⟩:=h;let⟨n1,n6,_⟩:=h2.s.cf;have ah:=h2.z;have p:=h2.s.pw;have uq:∀{q r:Pd},r∈P->q∈P->r.nm=q.nm->r=q:=λ{q r}n hq e=>Ĩ h2.s.nd n hq e;refine yh (Ğ (xz PassesOwn.never rfl (yac (pv 1)) (vn (i:=2) Ģ.nd rfl (Or.inl rfl)) (yc (xz PassesOwn.never rfl (yl5 (pv 1)) (vn (i:=3) Ģ.nd rfl (Or.inl rfl)) (yd (yo (i:=4) Ģ.nd rfl (Or.inl rfl) (vh (pv 0) T.A3 T.Cc.m (yev T) n.m T.Cc.B .nil vg (pa1 (pv 2)))) (yd (yo (i:=5) Ģ.nd rfl (Or.inl rfl) (vh (pv 0) T.A3 T.Cc.m (yev T) n.m T.Cc.B .nil vg (pa1 (pv 3)))) (yc (wa (yr (ŗ n.units) (uh (yez T) n.m T.E9 (pac (pv 1) (pa1 (xi xp (uc (zg n) (pv 1) (pv 2) (λm m=>rfl)) yg (λm m=>rfl))))) (uh (yez T) n.m T.E9 (pac (pv 1) (pa1 (xi xp (uc (zg n) (pv 1) (pv 3) (λm m=>rfl)) yg (λm m=>rfl))))) (yx _)) (yd (wa (PW.pt (ī (yr (ŗ n.units) (xi xp (uc (zg n) (pv 1) (pv 2) (λm m=>rfl)) yg (λm m=>rfl)) (xi xp (uc (zg n) (pv 1) (pv 3) (λm m=>rfl)) yg (λm m=>rfl)) (yx _)) (Á (yr (Ô n.units) (pv 4) (pv 5) (yx _))))) (yc (yq İ)) y6) (yc (wa (PW.pt (ī (yr (Ô n.units) (xi xp (uc (zg n) (pv 1) (pv 2) (λm m=>rfl)) yg (λm m=>rfl)) (xi xp (uc (zg n) (pv 1) (pv 3) (λm m=>rfl)) yg (λm m=>rfl)) (yx _)) (Á (yr (ŗ n.units) (ua jr (pv 4) uv (uk (pcB yp T.Aa (pa1 (pv 5))))) (pv 5) (yx _))))) (yc (yq İ)) y6))) y6)))))))) ?_;exists 2,4,yc (yq İ);exists l,mdK L P,rfl,S,λo=>?_;have hZ:=h2.fz S o;refine ù (o:=o) (d:=l) (kvs:=mdK L P) (λi σ2 F=>∃(v3 N O R:Ψ),σ2=[some (.ref st),some (.ref l),v3,N,O,R]/\yv (upd H l (.frz o (.dK (mdK L P)))) F) ⟨_,_,_,_,rfl,λm m e=>e⟩ ?_ ?_ ?_
 .rintro i σ2 F _ ⟨v3,N,O,R,rfl,G⟩;exact G _ _ ya
 .rintro i kk v σ2 F a0 ⟨v3,N,O,R,rfl,G⟩;let⟨q,hq,rfl,rfl⟩:=Ś a0;have g:=bB hq;have a8:=h2.ok q g;ext;exists l,mdK L P,o,rfl,G _ _ ya,?_;refine ù (o:=o) (d:=l) (kvs:=mdK L P) (λj σ2 F=>∃(N O R:Ψ),σ2=[some (.ref st),some (.ref l),some (.str q.nm),N,O,R]/\yv (upd H l (.frz o (.dK (mdK L P)))) F) ⟨_,_,_,rfl,G⟩ ?_ ?_ ?_
  .rintro j σ2 F _ ⟨N,O,R,rfl,G⟩;exact G _ _ ya
  .rintro j kk v σ2 F a0 ⟨N,O,R,rfl,G⟩;let⟨r,n,rfl,rfl⟩:=Ś a0;have f:=bB n;have a6:=h2.ok r f;have hF:=hZ.same G;let⟨ds,vl,vm,vp,vc,ac⟩:=hF.s.ins;ext;refine hF.s.bytesof a8.1.1 (λno=>absurd rfl (no q g)) λy ad e l1 G1 a7 Y T1=>?_;obtain rfl:=uq ad g e;have M:=hF.same T1;let⟨ag,al,ak,aj,am,aa⟩:=M.s.ins;ext;refine M.s.bytesof a6.1.1 (λno=>absurd rfl (no r f)) λD af e2 l2 G2 a5 U T2=>?_;obtain rfl:=uq af f e2;have I:=M.same T2;ext;exists l,_,rfl,I.m.get g,?_;ext;refine zt (SqT.of (I.m.t y g).1) (vq (j:=1) rfl) ?_;ext;exists l,P,X,L,tx,y.bs,y.path,rfl,I.m,p,by omega,p.wf y g,λa1 G3 a4 W T3=>?_
   have J:=I.same T3;ext;exists l,_,rfl,J.m.get f,?_;ext;refine zt (SqT.of (J.m.t D f).1) (vq (j:=1) rfl) ?_;ext;exists l,P,X,L,tx,D.bs,D.path,rfl,J.m,p,by omega,p.wf D f,λa2 G4 ab Z T4=>?_
   have b:=J.same T4;have a9:=T4 _ _ (T3 _ _ (T2 _ _ Y));have a3:=T4 _ _ (T3 _ _ U);have S4:=G.trans (T1.trans (T2.trans (T3.trans T4)));refine vam (b.m.sd p (p.wf y g) (T4 _ _ W)) (b.m.sd p (p.wf D f) Z) (by decide) ?_;rw[PyData.eqv,yp4];clear hF M I J T1 T2 T3 T4 ac aa a4 W ab Z a7 Y a5 U;by_cases he:y.path.map (·.2)=D.path.map (·.2)
   .rw[bv he];ext;exists l,_,rfl,b.m.get g,?_;ext;refine zt (SqT.of (b.m.t y g).1) (vq (j:=0) rfl) ?_;ext;exists l,_,rfl,b.m.get f,?_;ext;refine zt (SqT.of (b.m.t D f).1) (vq (j:=0) rfl) ?_;ext;refine yak y.tx D.tx (SqL.of (b.m.x y g).1) (SqL.of (b.m.x D f).1) ?_;by_cases ht:y.tx=D.tx
    .rw[bv ht];ext;have eb:y.by C=D.by C:=by unfold Pd.by;rw[he,ht]
     refine yak _ _ (SqL.of a9) (SqL.of a3) ?_;rw[bv eb];ext;exists l,_,rfl,b.m.get g,?_;ext;refine zt (SqT.of (b.m.t y g).1) (vq (j:=0) rfl) ?_;ext;exists l,_,rfl,b.m.get f,?_;ext;refine zt (SqT.of (b.m.t D f).1) (vq (j:=0) rfl) ?_;ext;refine yak y.tx D.tx (SqL.of (b.m.x y g).1) (SqL.of (b.m.x D f).1) ?_;rw[bv ht];ext;exists _,_,_,rfl,S4
    .rw[bD ht];ext;exists l,_,rfl,b.m.get g,?_;ext;refine zt (SqT.of (b.m.t y g).1) (vq (j:=0) rfl) ?_;ext;exists l,_,rfl,b.m.get f,?_;ext;refine zt (SqT.of (b.m.t D f).1) (vq (j:=0) rfl) ?_;ext;refine yak y.tx D.tx (SqL.of (b.m.x y g).1) (SqL.of (b.m.x D f).1) ?_;rw[bD ht];ext;refine x5 (SqL.of a3) ?_;rw[bf];ext;refine yb4 (SqL.of a9) λc hc0=>?_;rw[jc,<- List.map_take];exists hc0,G5,T5,hc5;ext;refine yak _ _ (SqL.of hc5) (SqL.of (T5 _ _ a3)) ?_;rw[bD λz=>ht (vdf n1 n6 a8.2.1 a6.2.1 he z)];ext;exists _,_,_,rfl,S4.trans T5
   .rw[bD he];ext;exists _,_,_,rfl,S4
  .rintro σ2 F ⟨N,O,R,rfl,G⟩;exists _,_,_,_,rfl,G
 .rintro σ2 F ⟨v3,N,O,R,rfl,G⟩;exists l,o,.dK (mdK L P),(λo u e=>by rw[S]at e;cases e),G _ _ ya,?_;ext;refine k _ λc o' e=>?_;by_cases z:c=l
  .rw[z,ya];rw[z,S]at e;exact e
  .exact yf z (G _ _ (yf z e))
theorem yc7(f:Pd->Nat):∀(P:qi Pd)(b:Φ)(m0:Nat)(m:Int),m∈((m0:Nat):Int)::P.map (λq=>((f q:Nat):Int))->(∀x∈((m0:Nat):Int)::P.map (λq=>((f q:Nat):Int)),m<=x)->∃z:Nat,(((m0,b)::P.map λq=>(f q,some q.nm)).find? λp=>decide (((p.1:Nat):Int)=m))=some (z,bsF f P b m0)
 |[],b,m0,m,hm,_=>by
  have e:m=(m0:Int):=bF.mp hm;exists m0,by rw[cT (by simpa using e.symm)];rfl
 |q::P,b,m0,m,hm,hx=>by
  have i:=hx _ bO;have j:m<=((f q:Nat):Int):=hx _ (bN _ bO);have d:∀x∈P.map (λq=>((f q:Nat):Int)),m<=x:=λx h=>hx x (bN _ (bN _ h));by_cases h:f q<m0
  .have g:¬((m0:Nat):Int)=m:=by omega
   let⟨z,e⟩:=yc7 f P (some q.nm) (f q) m ((bC.mp hm).elim (λe=>absurd e.symm g) id) λx a=>(bC.mp a).elim (λe=>by rw[e];exact j) (d x);exists z,?_;rw[cM (by simpa using g),bU,e];show _=some (z,if f q<m0 then _ else _);rw[if_pos h]
  .have c:m∈((m0:Nat):Int)::P.map (λq=>((f q:Nat):Int)):=by
    rcases bC.mp hm with e|e
    .rw[e];exact bO
    .rcases bC.mp e with e|e
     .have e:m=((f q:Nat):Int):=e;rw[show m=(m0:Int) by omega];exact bO
     .exact bN _ e
   let⟨z,e⟩:=yc7 f P b m0 m c λx a=>(bC.mp a).elim (λe=>by rw[e];exact i) (d x);exists z,?_;show _=some (z,if f q<m0 then _ else _);rw[if_neg h,<- e];by_cases h0:((m0:Nat):Int)=m
   .rw[cT (by simpa using h0),cT (by simpa using h0)]
   .rw[cM (by simpa using h0),cM (by simpa using h0),bU,cM (by simp;omega)]
def nm6:Τ:=[Str.ofString "a",Str.ofString "b",Str.ofString "c",Str.ofString "d",Str.ofString "e",Str.ofString "f"]
def yx3:∀x,x∈nm6->okN x:=by intro x a;unfold nm6 at a;simp only[bC,List.not_mem_nil,or_false]at a;rcases a with rfl|rfl|rfl|rfl|rfl|rfl<;>exact⟨by right,by right⟩
def prs(C:Cf)(P:qi Pd)(ts:Ρ):qi (Nat×qj Str):=((δ C.n C.kd C.ps [] ts).length,none)::P.map λq=>(szD C ts q,some q.nm)
def vbl{C:Cf}{P:qi Pd}{p:Nat×qj Str}(h:p∈prs C P ts):∃L,ToD P p.2 L/\p.1=(δ C.n C.kd C.ps (Ú (L.map (·.2))) ts).length:=by
 rcases bC.mp h with e|e
 .rw[e];exists [],rfl,rfl
 .obtain⟨q,a,rfl⟩:=br.mp e;exists _,⟨q,a,rfl,rfl⟩,rfl
#synth æ ["_law_store","_law_model","_law_text_here","_law_best_one","_law_spare","_law_sizes","_law_base","_law_least"] ["_law_store","_law_model","_law_text_here"] ykx
inductive ym5(K:xr)(a:Ads)(vs:Υ)(H:Hp)(Q:VK)(E':XK):Prop
 |mk(st lo md t:x0)(B:Hp)(C:Cf)(P:qi Pd)(X:Sx)(lk tp:Μ)(tu tx:Str->x0)(ts:Ρ)(_:vs=[.ref st,.ref md,.ref t])(_:K2 K a B H st lo md C P X lk tp tu tx)(_:H md=some (.dK (mdK tu P)))(_:jj B t ts 2)(_:P.length<=5)(_:∀Y H',K2 K a B H' st lo md C P Y lk tp tu tx->H' md=some (.dK (mdK tu P))->Q (.bl true) H')
def ysh:vz P w K mg Γ CX0 14 a.Fd a.Fl ["_law_store","_law_model","_law_text_here"] (ym5 K a):=by
 exists T.Ft.F.ok,æ,W;let⟨st,lo,md,t,B,C,P,X,lk,tp,tu,tx,I,rfl,h2,aG,ht,b7,k⟩:=h;have hw:=h2.w;have b1:=ht.z;have aY:(mdK tu P).length=P.length:=bf _;let⟨ds,vl,vm,vp,vc,ah⟩:=h2.s.ins;refine yh (yo (i:=3) æ.nd rfl (Or.inl rfl) (vh (pv 0) T.A3 T.E7.m (ypq T) W.m T.E7.B .nil vg (pa1 (pv 2)))) ?_;refine yh (yo (i:=4) æ.nd rfl (Or.inl rfl) (xi xm (yee (js:=[1]) (ys:=["_law_model"]) rfl (vx (xc (pac wy (pac wy (pac wy (pac wy (pac wy (pa1 wy)))))))) (λC s2 H2 fp=>(ybt (Ê (zg W) (pv 0) (pv 1)))) (λC s2 H2 fp=>(pv 0)) rfl rfl (hyc:=(all_cons rfl yt)) (hrel:=(all_cons rfl yt))) yg (λ_ _=>rfl))) ?_;refine yh (yo (i:=5) æ.nd rfl (Or.inl rfl) (xc uo)) ?_;refine yh (xz PassesOwn.never rfl (vx (ym yk3 (xc (pa1 zd)) (pcT (uz rfl) T.Af (pa1 (pv 1))))) (vn (i:=6) æ.nd rfl (Or.inl rfl)) (yd (yw (vh (pv 0) T.A3 T.R9 (yob T) W.m T.R8 .nil vg (pac (pv 4) (pac (pv 2) (pa1 (pv 6)))))) (yd (yw (è PySem.F.plainAttrs_list PySem.F.slot_list_append PySem.F.type_list_append xh (pv 5) (pa1 (į (pac (pcB yp T.Aa (pa1 (vh (pv 0) T.A3 T.Cc.m (yev T) W.m T.Cc.B .nil vg (pa1 (pv 4))))) (pa1 (pv 6))))))) (yc (yw (vh (pv 0) T.A3 T.E6.m (yps T) W.m T.E6.B .nil vg (pa1 (pv 4)))))))) ?_;refine yh (yo (i:=7) æ.nd rfl (Or.inr rfl) (pcB (r:=vcm K) (yg8 rfl) T.F8 (pa1 (wb (js:=[]) (ys:=[]) rfl (vx (pv 5)) (λC s2 H2 fp=>(xi (r:=ywn K) xp (pv 0) yg (λ_ _=>rfl))) rfl rfl (hyc:=yt) (hrel:=yt))))) ?_;exists 3,5,yc (yq (xv xq (pv 3) (xi xm (yee (js:=[7]) (ys:=["_law_least"]) rfl (vx (pv 5)) (λC s2 H2 fp=>(yr xq (xi (r:=ywn K) xp (pv 0) yg (λ_ _=>rfl)) (pv 1) (yx _))) (λC s2 H2 fp=>(xi (r:=ywn K) xp (pv 0) yg (λ_ _=>rfl))) rfl rfl (hyc:=(all_cons rfl yt)) (hrel:=(all_cons rfl yt))) yg (λ_ _=>rfl)) (yx _)));exists st,C,P,X,t,I,rfl,h2.s,⟨h2.b.s _ _ ht.l,ht.s,by omega⟩,(λz=>absurd z (by omega)),λ_ X1 H1 M g1=>?_;have ab:=h2.go M g1;have a9:=h2.mdA g1 aG;clear h2 aG ah g1 M;ext;exists by walk_at "len",λl6 ar=>?_
 have S2:=y7 (o:=(.lst [V.str (Str.ofString "a"),V.str (Str.ofString "b"),V.str (Str.ofString "c"),V.str (Str.ofString "d"),V.str (Str.ofString "e"),V.str (Str.ofString "f")])) ar;have e6:upd H1 l6 (.lst [V.str (Str.ofString "a"),V.str (Str.ofString "b"),V.str (Str.ofString "c"),V.str (Str.ofString "d"),V.str (Str.ofString "e"),V.str (Str.ofString "f")]) l6=some (.lst [V.str (Str.ofString "a"),V.str (Str.ofString "b"),V.str (Str.ofString "c"),V.str (Str.ofString "d"),V.str (Str.ofString "e"),V.str (Str.ofString "f")]):=ya;generalize upd H1 l6 (.lst [V.str (Str.ofString "a"),V.str (Str.ofString "b"),V.str (Str.ofString "c"),V.str (Str.ofString "d"),V.str (Str.ofString "e"),V.str (Str.ofString "f")])=H2 at S2 e6⊢;have e6:H2 l6=some (.lst (nm6.map V.str)):=e6;exists l6,rfl,⟨_,SqL.of e6⟩,λD hD=>?_;refine á (xs:=nm6.map V.str) (λi G=>G D=some (.lst (((nm6.take i).filter λz=>decide (z∉P.map (·.nm))).map V.str))/\yv H2 G) ⟨ya,y7 hD⟩ (λi G _ z=>SqL.of (z.2 _ _ e6)) (λi x G hx hi z=>?_) (λH3 z=>?_)
 .obtain⟨gD,SG⟩:=z;rw[bo]at hx;have am:i<nm6.length:=by rw[bf]at hi;exact hi
  rw[bi am]at hx;obtain rfl:=bE hx
  have av:((nm6.take i).filter λz=>decide (z∉P.map (·.nm))).length<=6:=by
   refine bQ (List.length_filter_le _ _) ?_;rw[bI];have:nm6.length=6:=rfl;omega
  have hM:=ab.m.same (S2.trans SG);ext;by_cases hp:nm6[i]∈P.map (·.nm)
  .obtain⟨q,hq,e⟩:=br.mp hp;exists md,_,rfl,(by rw[<- e];exact hM.get hq),false,rfl,ĳ ?_;refine jm hi ⟨?_,SG⟩;rw[gD,bL am,List.filter_append,List.filter_cons_of_neg (by simpa using hp)];simp
  .exists md,_,rfl,hM.getNo (λq hq e=>hp (br.mpr ⟨q,hq,e⟩)),true,rfl,Ń ?_;ext;refine we gD (ve (by rw[bf];omega)) hi ⟨?_,λy o e=>yf (yb e hD) (SG _ _ e)⟩;rw[ya,bL am,List.filter_append,List.filter_cons_of_pos (by simpa using hp),bH];rfl
 let⟨a2,S3⟩:=z;rw[bf,bZ]at a2
 obtain⟨b,r,ak⟩:∃b r,(nm6.filter λz=>decide (z∉P.map (·.nm)))=b::r:=by
  cases e:nm6.filter λz=>decide (z∉P.map (·.nm))with
  |cons b r=>exact⟨b,r,rfl⟩
  |nil =>
   have z:=ģ (l:=nm6) (m:=P.map (·.nm)) (by right) λx hx=>by
    have y:=List.filter_eq_nil_iff.mp e x hx;simpa using y
   rw[bf]at z;have:nm6.length=6:=rfl;omega
 have hb:=cB.mp (show b∈nm6.filter λz=>decide (z∉P.map (·.nm)) by rw[ak];exact bO);have aa:=yx3 b hb.1
 have af:∀q,q∈P->q.nm≠b:=λq hq e=>by
  have z:=of_decide_eq_true hb.2;exact z (br.mpr ⟨q,hq,e⟩)
 rw[ak]at a2;have Z:=ab.same (S2.trans S3);have U:=(S2.trans S3) _ _ a9;clear ab a9 hb ak ar hD;refine jy (SqL.of a2) (vq (j:=0) rfl) ?_;ext;exists by walk_at "len",λS hdl0=>?_
 exists hdl0,H4,S4,hdl4;refine vcx (by assumption) ?_;ext;exists by walk_at "len",λn1 hn10=>?_
 exists hn10,H5,S5,hn15;ext;exists md,_,rfl,S5 _ _ (S4 _ _ U),λkl hkl0=>?_;rw[Ò];exists hkl0,H6,S6,hkl6;exists n1,kl,_,_,rfl,rfl,S6 _ _ hn15,hkl6,jf (by rw[bf,bf];show 1+P.length<=_;omega),λbl hbl0=>?_
 have aM:[V.non]++(P.map (·.nm)).map V.str=(prs C P I).map λp=>baV p.2:=by
  unfold prs;rw[bU,bS,bS];rfl
 rw[aM];exists hbl0,H7,S7,hbl7;have a7:=S4.trans (S5.trans (S6.trans S7));have aj:=Z.same a7;have a1:Kf H7 X1 S (.lst []):=(Kf.new Z.s hdl0 hdl4).same (S5.trans (S6.trans S7));have a6:Kf H7 X1 bl (.lst ((prs C P I).map λp=>baV p.2)):=Kf.new (Z.same (S4.trans (S5.trans S6))).s hbl0 hbl7;have aR:B S=none:=Z.b.s.free hdl0;have aP:∀q,q∈P->tx q.nm≠S:=λq hq z=>by have e:=(Z.m.x q hq).1;rw[z,hdl0]at e;cases e
 have aJ:md≠S:=λz=>by rw[z,hdl0]at U;cases U
 have aN:bl≠S:=λz=>by have e:=(S5.trans S6) _ _ hdl4;rw[<- z,hbl0]at e;cases e
 have aK:=Z.s.to
 have ap:∀{x:Φ}{L:Η},ToD P x L->x≠some b:=λ{x L}h e=>by
  rw[e]at h;let⟨r,W,e,_⟩:=h;exact af r W e
 exists bl,rfl,⟨_,SqL.of hbl7⟩,x8 (K:=K) (a:=bl) (xs:=(prs C P I).map λp=>baV p.2) (λi σ2 F=>∃(Y:Sx)(c:qi (x0×Nat×qj Str))(v6:Ψ),σ2=[some (.ref st),some (.ref md),some (.ref t),some (baV (Ŀ C P I)),some (.str b),some (.ref S),v6,none]/\K2 K a B F st lo md C P Y lk tp tu tx/\F md=some (.dK (mdK tu P))/\Kf F Y bl (.lst ((prs C P I).map λp=>baV p.2))/\Kf F Y S (.lst (c.map λu=>V.ref u.1))/\(∀u∈c,F u.1=some (.tup [.int ((u.2.1:Nat):Int),baV u.2.2]))/\c.map (·.2)=(prs C P I).take i) ?_ ?_ ?_ ?_
 .exists X1,[],none,rfl,aj,a7 _ _ U,a6,a1,(λu O=>nomatch O),rfl
 .rintro i σ2 F _ ⟨Y,c,v6,rfl,f,a4,a5,J,O,he⟩;exact SqL.of a5.1
 .clear aj a1 a6 hkl6 hkl0 hn15 hn10 hdl4 hbl7 a7 S4 S5 S6 S7 a2 hbl0;rintro i y σ2 F hy ⟨Y,c,v6,rfl,f,a4,a5,J,O,he⟩;rw[bo]at hy;let⟨p,hp,rfl⟩:=cD.mp hy;let⟨L,hL,aO⟩:=vbl (bB hp);have a3:i<(prs C P I).length:=(bw.mp hp).1;have aS:(prs C P I).length<=6:=by unfold prs;rw[bX,bf];omega
  have as:c.length=i:=by
   have e:=congrArg List.length he;rw[bf,bI]at e;omega
  let⟨ds,vl,vm,vp,vc,ah⟩:=f.s.ins;ext;refine f.s.put aa ⟨f.b.s _ _ ht.l,ht.s,by omega⟩ hL af (by omega) λY1 F1 M g1=>?_;have aw:=f.b.go f.s g1;have az:=f.m.go f.s g1;have an:=f.mdA g1 a4;have ax:=a5.go f.s g1;have al:=J.go f.s g1;have ac:∀u∈c,F1 u.1=some (.tup [.int ((u.2.1:Nat):Int),baV u.2.2]):=λu h=>(Kf.go ⟨O u h,f.s.ntup (O u h)⟩ f.s g1).1;have a0:(⟨b,p.2,L,I⟩:Pd)∈P++[⟨b,p.2,L,I⟩]:=bT _ bO;let⟨aU,b3,b0,aZ,b6,aI⟩:=M.ins;ext;refine Â al.1 ?_;ext;refine M.bytesof aa.1 (λno=>absurd rfl (no _ a0)) λr W e l F2 b9 ay T2=>?_;obtain rfl:=Ĩ M.nd W a0 e;have hz:((⟨b,p.2,L,I⟩:Pd).by C).length=p.1:=aO.symm;refine x5 (SqL.of ay) ?_;rw[bf,hz];ext;exists by walk_at "len",λu hu0=>?_
  exists hu0,F3,T3,hu3;have g:=T2.trans T3;have R:=al.same g;ext;refine x9 R.1 (ve (by rw[bf];omega)) ?_;have b4:But S F3 (upd F3 S (.lst ((c.map λu=>V.ref u.1)++[V.ref u]))):=But.upd
  have d:=(M.same g).but (WSh.ls R.1 λx hx=>by
   let⟨w,hw,rfl⟩:=br.mp hx;exact .inr (.inr ⟨w.1,rfl,.inr ⟨_,g _ _ (ac w hw),.inr ⟨_,rfl⟩⟩⟩)) R.2 b4
  have au:=(aw.same g).but aR b4;have ai:=(az.same g).butL R.1 aP b4;have aD:=b4 _ _ (g _ _ an) aJ;have aF:=(ax.same g).but aN b4;have aq:Kf (upd F3 S (.lst ((c.map λu=>V.ref u.1)++[V.ref u]))) Y1 S (.lst ((c++[(u,p)]).map λu=>V.ref u.1)):=⟨by rw[ya,bH];rfl,R.2⟩
  have ad:∀w∈c++[(u,p)],upd F3 S (.lst ((c.map λu=>V.ref u.1)++[V.ref u])) w.1=some (.tup [.int ((w.2.1:Nat):Int),baV w.2.2]):=λw hw=>by
   have e:F3 w.1=some (.tup [.int ((w.2.1:Nat):Int),baV w.2.2]):=by
    rcases bP.mp hw with z|z
    .exact g _ _ (ac w z)
    .rw[bF.mp z];exact hu3
   exact b4 _ _ e λz=>by rw[z,R.1]at e;cases e
  generalize upd F3 S (.lst ((c.map λu=>V.ref u.1)++[V.ref u]))=F4 at d au ai aD aF aq ad⊢;clear b4 R al ax an az aw ac ah aI g M g1 hu3 ay O J a5 a4;let⟨aW,ba,b2,b5,aV,aT⟩:=d.ins;ext;refine d.drop aa.1 (λno=>absurd rfl (no _ a0)) (λr W e ⟨v,hv,ev⟩=>?_) λr W e _ Y5 F5 aE g5=>?_
  .rcases bP.mp hv with z|z
   .exact absurd ev (ap (aK v z))
   .rw[bF.mp z]at ev;exact absurd ev (ap hL)
  rw[List.filter_append,List.filter_eq_self.mpr λr W=>bv (af r W),List.filter_cons_of_neg (by simp),List.filter_nil,cP]at aE;ext;exists Y5,c++[(u,p)],_,rfl,⟨aE,au.go d g5,f.l,f.r,f.n,ai.go d g5,f.z,f.w⟩,(Kf.go ⟨aD,ai.n⟩ d g5).1,aF.go d g5,aq.go d g5,(λw hw=>(Kf.go ⟨ad w hw,d.ntup (ad w hw)⟩ d g5).1),by rw[bH,he,bL a3,(bw.mp hp).2];rfl
 .clear aj a1 a6 hkl6 hkl0 hn15 hn10 hdl4 hbl7 a7 S4 S5 S6 S7 a2 hbl0;rintro σ2 F ⟨Y,c,v6,rfl,f,a4,a5,J,O,he⟩;rw[bf,bZ]at he
  have as:c.length<=6:=by
   have e:=congrArg List.length he;unfold prs at e;rw[bf,bX,bf]at e;omega
  have a8:∀{i:Nat}{y:V},(c.map λu=>V.ref u.1)[i]?=some y->∃u,c[i]?=some u/\y=.ref u.1:=λ{i y}h=>by
   rw[bo]at h;let⟨u,O,e⟩:=cD.mp h;exact⟨u,O,e.symm⟩
  ext;exists S,rfl,⟨_,SqL.of J.1⟩,λD1 aH=>?_;refine j3 (K:=K) (xs:=c.map λu=>V.ref u.1) (λi G=>G D1=some (.lst (((c.take i).map λu=>((u.2.1:Nat):Int)).map V.int))/\yv F G) ⟨ya,y7 aH⟩ (λi G _ z=>SqL.of (z.2 _ _ J.1)) (λi y G hy hi z=>?_) (λG1 z=>?_)
  .obtain⟨gD,SG⟩:=z;let⟨u,N,rfl⟩:=a8 hy;have a3:i<c.length:=(bw.mp N).1;ext;refine zt (SqT.of (SG _ _ (O u (bB N)))) (vq (j:=0) rfl) ?_;refine we gD (ve (by rw[bf,bf,bI];omega)) hi ⟨?_,λy o e=>yf (yb e aH) (SG _ _ e)⟩;rw[ya,bL a3,(bw.mp N).2,bH,bH];rfl
  let⟨ae,S1⟩:=z;rw[bf,bZ]at ae
  have eI:c.map (λu=>((u.2.1:Nat):Int))=(((δ C.n C.kd C.ps [] I).length:Nat):Int)::P.map λq=>((szD C I q:Nat):Int):=by
   have e:=congrArg (λl=>l.map λp:Nat×qj Str=>((p.1:Nat):Int)) he;rw[bS]at e;unfold prs at e;rw[bU,bS]at e;exact e
  rw[eI]at ae
  exists D1,_,rfl,SqL.of ae,(λz=>nomatch z),λm hm aA=>?_
  let⟨z0,ag⟩:=yc7 (szD C I) P none _ m hm aA;ext;exists S,rfl,⟨_,SqL.of (S1 _ _ J.1)⟩,λD2 ao=>?_;refine á (xs:=c.map λu=>V.ref u.1) (λi G=>G D2=some (.lst (((c.take i).filter λu=>decide (((u.2.1:Nat):Int)=m)).map λu=>baV u.2.2))/\yv G1 G) ⟨ya,y7 ao⟩ (λi G _ z=>SqL.of (z.2 _ _ (S1 _ _ J.1))) (λi y G hy hi z=>?_) (λG2 z=>?_)
  .obtain⟨gD,SG⟩:=z;let⟨u,N,rfl⟩:=a8 hy;have a3:i<c.length:=(bw.mp N).1;have aC:=SG _ _ (S1 _ _ (O u (bB N)))
   have av:((c.take i).filter λu=>decide (((u.2.1:Nat):Int)=m)).length<=6:=by
    refine bQ (List.length_filter_le _ _) ?_;rw[bI];omega
   have e1:c.take (i+1)=c.take i++[u]:=by rw[bL a3,(bw.mp N).2]
   ext;refine zt (SqT.of aC) (vq (j:=0) rfl) ?_;ext;by_cases hz:((u.2.1:Nat):Int)=m
   .rw[bv hz];refine Ń ?_;ext;refine zt (SqT.of aC) (vq (j:=1) rfl) ?_;refine we gD (ve (by rw[bf];omega)) hi ⟨?_,λy o e=>yf (yb e ao) (SG _ _ e)⟩;rw[ya,e1,List.filter_append,List.filter_cons_of_pos (by simpa using hz),bH];rfl
   .rw[bD hz];refine ĳ ?_;refine jm hi ⟨?_,SG⟩;rw[gD,e1,List.filter_append,List.filter_cons_of_neg (by simpa using hz)];simp
  let⟨aB,S2⟩:=z;rw[bf,bZ]at aB
  have aL:((c.filter λu=>decide (((u.2.1:Nat):Int)=m)).map λu=>baV u.2.2)[0]?=some (baV (Ŀ C P I)):=by
   have e:(c.map (·.2)).find? (λp=>decide (((p.1:Nat):Int)=m))=some (z0,Ŀ C P I):=by rw[he];exact ag
   rw[List.find?_map]at e;let⟨u,O,e2⟩:=cD.mp e;rw[bo,<- List.head?_eq_getElem?,List.head?_filter];have O:c.find? (λu=>decide (((u.2.1:Nat):Int)=m))=some u:=O;rw[O];show some (baV u.2.2)=_;rw[e2]
  ext;refine jy (SqL.of aB) (vq (j:=0) aL) ?_;exists ydv _ _,?_;rw[bv rfl];have S3:=S1.trans S2;exact k Y G2 (f.same S3) (S3 _ _ a4)
#synth τ ["_law_store","_law_looks_here","_law_model","_law_text_here","_law_due","_law_least","_law_name","_law_size"] ["_law_store","_law_looks_here","_law_model","_law_text_here"] yky
inductive yss(K:xr)(a:Ads)(vs:Υ)(H:Hp)(Q:VK)(E':XK):Prop
 |mk(st lo md t:x0)(B:Hp)(C:Cf)(P:qi Pd)(X:Sx)(lk tp:Μ)(tu tx:Str->x0)(ts:Ρ)(_:vs=[.ref st,.ref lo,.ref md,.ref t])(_:K2 K a B H st lo md C P X lk tp tu tx)(_:H md=some (.dK (mdK tu P)))(_:jj B t ts 2)(_:∀Y H',K2 K a B H' st lo md C P Y lk tp tu tx->H' md=some (.dK (mdK tu P))->Q (.bl true) H')
def yrx:vz P w K mg Γ CX0 14 a.Fe a.Fm ["_law_store","_law_looks_here","_law_model","_law_text_here"] (yss K a):=by
 exists T.Fu.F.ok,τ,Z;let⟨st,lo,y,t,B,C,P,X,lk,tp,D,tx,f,rfl,g,L,M,k⟩:=h;let⟨n1,n6,_⟩:=g.s.cf;have ad:=M.z;have aa:=g.z;have hw:=g.w;have a0:=g.b.s _ _ g.l;have R:=g.b.s _ _ M.l;refine yh (yo (i:=4) τ.nd rfl (Or.inl rfl) zd) ?_;refine yh (yo (i:=5) τ.nd rfl (Or.inl rfl) (pcB yp T.Aa (pa1 (yaj (yoh T) Z.m rfl T.R4 T.P6.kp T.Re (show wu [V.non] _ from (.cons rfl .nil)) v7 (pac (pv 1) (pa1 (pv 3))))))) ?_;refine yh (Ğ (xz PassesOwn.never rfl (yac (pv 2)) (vn (i:=6) τ.nd rfl (Or.inl rfl)) (yd (yo (i:=7) τ.nd rfl (Or.inl rfl) (pcB yp T.Aa (pa1 (yaj (yoh T) Z.m rfl T.R4 T.P6.kp T.Rr .nil v7 (pac (pv 1) (pac (pv 3) (pa1 (uh (yez T) Z.m T.E9 (pac (pv 2) (pa1 (pv 6))))))))))) (yc (wa (yr ò (pv 7) (pv 5) (yx _)) (yd (yo (i:=5) τ.nd rfl (Or.inl rfl) (pv 7)) (yc (yo (i:=4) τ.nd rfl (Or.inl rfl) (pv 6)))) y6))))) ?_;exists 4,4,yc (yq (xv xq (vh (pv 0) T.A3 T.E7.m (ypq T) Z.m T.E7.B .nil vg (pa1 (pv 3))) (pv 4) (yx _)));exists lo,t,.non,C.n,lk,C.kd,tp,C.ps,f,0,2,λl=>0,λl=>[],rfl,⟨a0,n1,n6,g.r.same g.b.s,⟨R,M.s,by omega⟩,⟨.inl ⟨rfl,rfl⟩,λi hi=>absurd hi (bJ i)⟩,by decide,by decide,by omega⟩,by omega,λr H2 a4 I S2=>?_
 ext;refine x5 (SqL.of I) ?_;rw[bf];have W:=g.same S2;have j:=S2 _ _ L;ext;exists y,mdK D P,rfl,j,λo=>?_;refine ù (o:=o) (d:=y) (kvs:=mdK D P) (λi σ2 F=>∃(b:Φ)(m:Nat)(v5 v6:Ψ),σ2=[some (.ref st),some (.ref lo),some (.ref y),some (.ref t),some (baV b),some (.int (m:Nat)),v5,v6]/\yv (upd H2 y (.frz o (.dK (mdK D P)))) F/\bsF (szD C f) (P.drop i) b m=Ŀ C P f)
  ⟨none,_,none,none,rfl,λl l e=>e,rfl⟩ ?_ ?_ ?_
 .rintro i σ2 F _ ⟨b,m,v5,v6,rfl,G,p⟩;exact G _ _ ya
 .rintro i kk v σ2 F a7 ⟨b,m,v5,v6,rfl,G,p⟩;let⟨q,hq,rfl,rfl⟩:=Ś a7;have a1:i<P.length:=(bw.mp hq).1;have a2:=bB hq;rw[cR a1,(bw.mp hq).2]at p;have S:=(W.m.frz j o).same G;have J:ToD P (some q.nm) (q.path++[(q.nm,q.tx)]):=⟨q,a2,rfl,rfl⟩;have a9:=J.len g.s.pw;have nb:∀{c:x0}{u:HO},B c=some u->F c=some u:=λ{c u}e=>G _ _ (yf (λz=>by rw[z,g.n]at e;cases e) (W.b.s _ _ e));ext;exists y,P,X,D,tx,some q.nm,q.path++[(q.nm,q.tx)],rfl,S,g.s.pw,by omega,J,λln F1 a8 N U=>?_
  ext;exists lo,t,.ref ln,C.n,lk,C.kd,tp,C.ps,f,(q.path++[(q.nm,q.tx)]).length,2,_,_,rfl,⟨U _ _ (nb g.l),n1,n6,g.r.fr λx xs e=>U _ _ (nb e),⟨U _ _ (nb M.l),M.s,by omega⟩,g.lr J (S.same U) N,by decide,by omega,by omega⟩,by omega,λr F2 a4 I T2=>?_
  ext;refine x5 (SqL.of I) ?_;rw[bf,É];ext;have p:(if szD C f q<m then bsF (szD C f) (P.drop (i+1)) (some q.nm) (szD C f q)else bsF (szD C f) (P.drop (i+1)) b m)=Ŀ C P f:=p;have O:=G.trans (U.trans T2);by_cases hlt:szD C f q<m
  .rw[if_pos hlt]at p;refine ur (λl=>?_) (λz=>absurd (show ((szD C f q:Nat):Int)<(m:Int) by omega) z);ext;exists some q.nm,szD C f q,_,_,rfl,O,p
  .rw[if_neg hlt]at p;refine ur (λz=>absurd (show ((szD C f q:Nat):Int)<(m:Int)from z) (by omega)) (λl=>?_);exists b,m,_,_,rfl,O,p
 .rintro σ2 F ⟨b,m,v5,v6,rfl,G,p⟩;have a6:(mdK D P).length=P.length:=bf _;rw[a6,List.drop_length]at p;exists y,o,.dK (mdK D P),(λo u e=>by rw[j]at e;cases e),G _ _ ya,?_
  have S3:yv H (upd F y (.dK (mdK D P))):=λc o' e=>by
   by_cases z:c=y
   .rw[z,ya];rw[z,L]at e;exact e
   .exact yf z (G _ _ (yf z (S2 _ _ e)))
  generalize upd F y (.dK (mdK D P))=H3 at S3⊢;have h3:=g.same S3;let⟨ds,vl,vm,vp,vc,ac⟩:=h3.s.ins;ext;exists st,C,P,X,t,f,rfl,h3.s,⟨S3 _ _ R,M.s,by omega⟩,(λz=>absurd z (by omega)),λl Y H4 a3 g4=>?_;ext;exists ydv _ _,?_;rw[show b=Ŀ C P f from p,bv rfl];exact k Y H4 (h3.go a3 g4) (h3.mdA g4 (S3 _ _ L))
#synth ι ["_law_script","_law_way","_law_looks_here","_law_most","_law_names_here","_law_text_here","_law_store","_law_model","_law_k","_law_name"] ["_law_script"] yv6
inductive ye9(K:xr)(vs:Υ)(H:Hp)(Q:VK)(E':XK):Prop
 |mk(l:x0)(ns:Ρ)(_:vs=[.ref l])(_:SqL K H l (ns.map V.int))(_:ns.length<=63)(_:∀H',Q (.bl true) H')
def yx9:vz P w K mg Γ CX0 16 a.P0 a.Gu ["_law_script"] (ye9 K):=by
 exists T.I2.F.ok,ι,g;let⟨l,R,rfl,hS,ao,k⟩:=h;refine yh (yo (i:=1) ι.nd rfl (Or.inl rfl) (uh (yfa T) g.m T.E8 (pac (pv 0) (pa1 yg)))) ?_;refine yh (yo (i:=2) ι.nd rfl (Or.inl rfl) (uh (vbh T) g.m T.Oe (pac (uh (yfa T) g.m T.E8 (pac (pv 0) (pa1 yg))) (pa1 (ym wc yg (pcT yh9 T.Om (pa1 (xv xq (ym vo (pv 1) yg) yg (yx _))))))))) ?_;refine yh (yo (i:=3) ι.nd rfl (Or.inl rfl) (ym wc yg (ym vo (ym vd (pv 1) yg) yg))) ?_;refine yh (yo (i:=4) ι.nd rfl (Or.inl rfl) (uh (yyg T) g.m T.Og (pa1 (uh (yfa T) g.m T.E8 (pac (pv 0) (pa1 yg)))))) ?_;refine yh (yo (i:=5) ι.nd rfl (Or.inl rfl) (ym yb1 (xc (pa1 (ym vo (ym vd (pv 1) yg) yg))) (ym vo (ym vd (pv 1) yg) yg))) ?_;refine yh (yo (i:=6) ι.nd rfl (Or.inl rfl) (ub T.Qq (yya T) g.m rfl T.Qp T.Rv .nil vg (pac (pv 2) (pa1 (pv 3))))) ?_;refine yh (yo (i:=7) ι.nd rfl (Or.inl rfl) ydx) ?_;refine yh (xz PassesOwn.never rfl (ya6 rfl T.Bd (pac yg (pa1 (pcB (ē rfl) T.I5 (pac yg (pa1 (pcB (Ĕ rfl) T.F8 (pac yg (pa1 (pcB yp T.Aa (pa1 (pv 0)))))))))))) (vn (i:=8) ι.nd rfl (Or.inl rfl)) (yd (wa (xn (xo (uh (yta T) g.m T.Fp (pac (pv 6) (pac (pv 7) (pac (pv 4) (pac (pv 0) (pa1 (pv 8))))))))) (yc (yq İ)) y6) (yc (wa (PW.pt (ī (yr xq (ym vo (pv 8) yg) yg (yx _)) (Á (xn (xo (uh (yrx T) g.m T.Fu (pac (pv 6) (pac (pv 2) (pac (pv 7) (pa1 (pv 5))))))))))) (yc (yq İ)) y6)))) ?_;refine yh (wa (PW.pt (ı (yr (Ô g.units) (vt (pv 6) T.A3 T.Cv.m (yku T) g.m T.Cv.B .nil v7) (pcT (uz rfl) T.Af (pa1 (pv 7))) (yx _)) (ð (xn (xo (uh (yrz T) g.m T.Fs (pac (pv 6) (pa1 (pv 7))))))))) (yc (yq İ)) y6) ?_;refine yh (Ğ (xz PassesOwn.never rfl (yac (pv 7)) (vn (i:=9) ι.nd rfl (Or.inl rfl)) (yc (wa (xn (xo (uh (ys6 T) g.m T.Fr (pac (pv 6) (pac (pv 2) (pac (pv 7) (pac (pv 9) (pac (pv 3) (pa1 (ym yb1 (xc (pa1 (ym vo (ym vd (pv 1) yg) yg))) (ym vo (ym vd (pv 1) yg) yg))))))))))) (yc (yq İ)) y6)))) ?_;refine yh (jw (wa (PW.pt (ī (yr xq (ym vo (ym vd (pv 1) yg) yg) yg (yx _)) (Á (xn (xo (uh (ysh T) g.m T.Ft (pac (pv 6) (pac (pv 7) (pa1 (pv 5)))))))))) (yc (yq İ)) y6)) ?_;exists 1,9,yc (yq (xv (ŗ g.units) (vt (pv 6) T.A3 T.Cv.m (yku T) g.m T.Cv.B .nil v7) (pcT (uz rfl) T.Af (pa1 (pv 7))) (yx _)));exists l,R,0,rfl,hS,by decide,λC aZ aX=>?_
 ext;exists l,R,1,rfl,hS,by decide,λc2 aC aM=>?_
 ext;refine .inr ⟨_,rfl,?_⟩
 obtain⟨m2,aR,aP,aL⟩:∃m:Nat,(1+if decide (C%4=1)=true then 1 else 0:Int)=(m:Int)/\1<=m/\m<=6:=by
  by_cases z:C%4=1
  .exact⟨2,by rw[bv z];rfl,by decide,by decide⟩
  .exact⟨1,by rw[bD z];rfl,by decide,by decide⟩
 ext;rw[aR];exists c2,m2,rfl,aC,aM,aP,aL,λlo n lk kd S ps H1 am a8 n1 n6 ar S1=>?_;obtain⟨mo,aE,aD,aA⟩:∃mo:Nat,2+C/4%4=(mo:Int)/\2<=mo/\mo<=5:=⟨(2+C/4%4).toNat,by omega,by omega,by omega⟩;ext;exists l,R,2,rfl,S1.seq hS,by decide,λc3 aY aV=>?_
 rw[aE];ext;exists _,rfl,by omega,by omega,λnl ns H2 aj a4 S2 n5 aN as=>?_
 ext;exists by walk_at "len",λu hu0=>?_
 exists hu0,H3,S3,hu3;obtain⟨z3,aQ,ay⟩:∃z:Nat,C/20000%3=(z:Int)/\z<=2:=⟨(C/20000%3).toNat,by omega,by omega⟩;ext;rw[aQ];exists u,z3,_,rfl,rfl,hu3,by omega,by omega,jf (by show 1*(z3:Int).toNat<=16000000;omega),λt ht0=>?_
 rw[jo,show ((z3:Nat):Int).toNat=z3 by omega];exists ht0,G,S4,ht4;have J:=S3.trans S4;have av:=J.seq (S2.seq (S1.seq hS));have aw:=J _ _ a4;have aa:=J _ _ (S2 _ _ a8);have ai:=(ar.same S2).same J;have ab:jj G t (List.replicate z3 (C/16%256)) 2:=⟨ht4,λx hx=>by rw[cC hx];omega,by rw[cG];exact ay⟩;generalize List.replicate z3 (C/16%256)=ts at ab;clear hS S1 S2 S3 S4 J am a8 ar aj a4 hu0 hu3 ht0 ht4 H3 H2 H1;ext;intro D ds a7 a1 aH;refine Sto.new (mo:=mo) (w:=2) a7 a1 aa n1 n6 ai (by omega) (by omega) (by decide) λX H5 ah S5 an B=>⟨rfl,?_⟩;ext;intro c hmd0;exists hmd0,H6,S6,hmd6
 have O:K2 K a G H6 D lo c ⟨n,kd,ps,mo,2⟩ [] X lk S (λB=>0) (λB=>0):=⟨ah.same S6,⟨S5.trans S6,an⟩,aa,ai,S5.free hmd0,⟨.inl hmd6,(Kf.new ah hmd0 hmd6).2,(λq I=>nomatch I),(λq I=>nomatch I)⟩,by decide,rfl,aD,aA⟩
 clear a7 a1 aH ah S5 an hmd0 S6;ext;refine x5 (O.b.s.seq av) ?_;rw[bf];ext;exists _,_,rfl,?_;ext;exists _,_,rfl,?_;ext
 obtain⟨m,hm,aW⟩:∃m:Nat,(if (if ((R.length:Nat):Int)<11 then ((R.length:Nat):Int)else 11) > 5 then (if ((R.length:Nat):Int)<11 then ((R.length:Nat):Int)else 11)else 5)=3+(m:Int)/\m<=8:=by
  generalize ((R.length:Nat):Int)=y;refine⟨((if (if y<11 then y else 11) > 5 then (if y<11 then y else 11)else 5)-3).toNat,?_,?_⟩<;>(split<;>split<;>omega)
 rw[hm]
 refine⟨3,3+(m:Int),rfl,⟨by omega,by omega,by omega,by omega⟩,Ç (lo:=3) (n:=(3+(m:Int)-3).toNat) (λi σ2 F=>∃(P:qi Pd)(Y:Sx)(f tx:Str->x0)(v8:Ψ),σ2=[some (.ref l),some (.int C),some (.ref lo),some (.int (mo:Nat)),some (.ref nl),some (.ref t),some (.ref D),some (.ref c),v8,none]/\K2 K a G F D lo c ⟨n,kd,ps,mo,2⟩ P Y lk S f tx/\F c=some (.dK (mdK f P))/\∀q,q∈P->q.nm∈ns) ⟨[],X,_,_,none,rfl,O,hmd6,λq I=>nomatch I⟩ ?_ ?_⟩
 .clear O hmd6 hm;rintro i σ2 F hi ⟨P,Y,f,tx,v8,rfl,hK,N,a0⟩;have b0:i<8:=by omega
  ext;rw[show (3:Int)+(i:Int)=((3+i:Nat):Int) by omega];exists D,lo,c,nl,l,G,_,P,Y,lk,S,f,tx,ns,R,3+i,rfl,hK,N,aw,n5,aN,as,a0,av,ao,by omega,λP2 Y2 ad ag F2 al a3 a5=>?_
  ext;refine ur (λh3=>?_) (λh3=>?_)
  .ext;exists D,lo,c,t,G,_,P2,Y2,lk,S,ad,ag,ts,rfl,al,a3,ab,λY3 F3 aO ap=>?_;ext;exists P2,Y3,ad,ag,_,rfl,aO,ap,a5
  .ext;exists P2,Y2,ad,ag,_,rfl,al,a3,a5
 .clear O hmd6 hm;rintro σ2 F ⟨P,Y,f,tx,v8,rfl,hK,N,a0⟩;have aU:(mdK f P).length=P.length:=bf _
  have aJ:P.length<=5:=by
   have e:=ģ (l:=P.map (·.nm)) (m:=ns) hK.s.nd λx hx=>by
    let⟨q,I,rfl⟩:=br.mp hx;exact a0 q I
   rw[bf,n5]at e;exact e
  have p:∀x,x∈P.map (·.nm)->PyData.strOk x=true:=λx hx=>by
   let⟨q,I,rfl⟩:=br.mp hx;exact(as _ (a0 q I)).2
  let⟨ds,vl,vm,vp,vc,ak⟩:=hK.s.ins;ext;refine hK.s.names λnm H7 a9 a6 S7=>?_;ext;exists c,_,rfl,S7 _ _ N,λq2 hq20=>?_;rw[Ò];exists hq20,H8,S8,hq28;have a2:H8 nm=some (.lst ((P.map (·.nm)).map V.str)):=by rw[S8 _ _ a6,bS];rfl
  refine yb3 _ _ p p (SqL.of a2) (SqL.of hq28) ?_;rw[bv rfl];have af:=S7.trans S8;have ac:=hK.same af;have L:=af _ _ N;clear hK N ak a9 a6 a2 hq20 hq28 S7 S8 af;ext;exists D,lo,c,G,_,P,Y,lk,S,f,tx,rfl,ac,L,λH9 S9=>?_;have aq:=ac.same S9;have r:=S9 _ _ L;clear ac L S9;ext;exists c,mdK f P,rfl,r,λo=>?_;refine ù (o:=o) (d:=c) (kvs:=mdK f P) (λi σ2 F=>∃(Z:Sx)(v9:Ψ),σ2=[some (.ref l),some (.int C),some (.ref lo),some (.int (mo:Nat)),some (.ref nl),some (.ref t),some (.ref D),some (.ref c),v8,v9]/\K2 K a G F D lo c ⟨n,kd,ps,mo,2⟩ P Z lk S f tx/\F c=some (.frz o (.dK (mdK f P)))) ⟨Y,none,rfl,aq.fz r o,ya⟩ ?_ ?_ ?_
  .rintro i σ2 F _ ⟨Z,v9,rfl,hF,hf⟩;exact hf
  .rintro i kk v σ2 F aB ⟨Z,v9,rfl,hF,hf⟩;let⟨q,I,rfl,rfl⟩:=Ś aB;have aI:=bB I;ext;exists by walk_at "len",λu hu0=>?_
   exists hu0,F1,T1,hu1;obtain⟨z4,aF,aS⟩:∃z:Nat,C/4096%3=(z:Int)/\z<=2:=⟨(C/4096%3).toNat,by omega,by omega⟩;ext;rw[aF];exists u,z4,_,rfl,rfl,hu1,by omega,by omega,jf (by show 1*(z4:Int).toNat<=16000000;omega),λbh hbh0=>?_
   rw[jo,show ((z4:Nat):Int).toNat=z4 by omega];exists hbh0,F2,T2,hbh2;have ae:=hF.same (T1.trans T2);have aG:=(T1.trans T2) _ _ hf;ext;exists D,lo,c,bh,G,_,P,Z,lk,S,f,tx,q,_,rfl,ae,aI,Kf.new (hF.same T1).s hbh0 hbh2,(λx hx=>by rw[cC hx];omega),by rw[cG];omega,λZ3 F3 az g3=>?_
   ext;exists Z3,_,rfl,ae.go az g3,ae.mdA g3 aG
  .rintro σ2 F ⟨Z,v9,rfl,hF,hf⟩;exists c,o,.dK (mdK f P),(λo u e=>by rw[r]at e;cases e),hf,?_;have W:=hF.th hf;have j:upd F c (.dK (mdK f P)) c=some (.dK (mdK f P)):=ya;generalize upd F c (.dK (mdK f P))=HA at W j⊢;clear aq r hF hf;ext;exists λσ2 F=>∃(Z:Sx),σ2=[some (.ref l),some (.int C),some (.ref lo),some (.int (mo:Nat)),some (.ref nl),some (.ref t),some (.ref D),some (.ref c),v8,v9]/\K2 K a G F D lo c ⟨n,kd,ps,mo,2⟩ P Z lk S f tx/\F c=some (.dK (mdK f P)),?_,?_
   .ext;refine ur (λh3=>?_) (λh3=>?_)
    .ext;exists D,lo,c,t,G,_,P,Z,lk,S,f,tx,ts,rfl,W,j,ab,aJ,λZ2 HB U M=>?_;ext;exact⟨Z2,rfl,U,M⟩
    .exact⟨Z,rfl,W,j⟩
   clear W j;rintro σ2 HB ⟨Z,rfl,U,M⟩;let⟨ds,vl,vm,vp,vc,ak⟩:=U.s.ins;ext;refine U.s.names λnm HC a9 au SC=>?_;ext;exists c,_,rfl,SC _ _ M,λq2 hq20=>?_;rw[Ò];exists hq20,HD,SD,hq2D;have ax:HD nm=some (.lst ((P.map (·.nm)).map V.str)):=by rw[SD _ _ au,bS];rfl
   refine yb3 _ _ p p (SqL.of ax) (SqL.of hq2D) ?_;rw[bv rfl];exact k _
end
variable{C:Cf}{P:qi Pd}{X Y:Sx}
def all_mk{l:W.OpenLaw}{w:qd}{K:xr}{h:qf}{mg:Ε}(X:K.In h)(G:h.Ns mainGlobals mg)(hfa:mg "law"=some (.ref fa))
  (Qx:GV K "Even" (.ref A6))
  (Po:GV K "Quick" (.ref A5))
  (Rl:GV K "Run" (.ref Ad))
  (Qy:GV K "Book" (.ref Ab))
  (Sh:GV K "Mixer" (.ref Be))
  (Si:GV K "Foreteller" (.ref A2))
  (Qz:GV K "Span" (.ref A4))
  (Sj:GV K "Seeker" (.ref Ae))
  (Pp:GV K "Chain" (.ref A1))
  (Pq:GV K "Piece" (.ref A8))
  (Pr:GV K "Store" (.ref A0))
  (Sk:GV K "NoText" (.ref Gr))
  (Sl:GV K "NoBytes" (.ref Ff))
  (Ou:GV K "NoMost" (.ref Az))
  (Sm:GV K "NoChance" (.ref Dl))
  (So:GV K "NoBit" (.ref Bx))
  (Sq:GV K "NoLooks" (.ref Fg))
  (Sr:GV K "NoPress" (.ref Dm))
  (Ov:GV K "NoName" (.ref Ah))
  (If:GV K "TooLong" (.ref Ai))
  (Ps:GV K "Taken" (.ref Aw))
  (R0:GV K "Full" (.ref C6))
  (Ig:GV K "NoPiece" (.ref A9))
  (Pt:GV K "InUse" (.ref B8))
  (Gv:Dgf K mg "is_whole" vey Q1 Qa)
  (Qk:Dgf K mg "is_bit" veu Q2 Qc)
  (Ql:Dgf K mg "is_chance" vfb Q3 Qd)
  (Qm:Dgf K mg "is_sign" vet Q4 Qe)
  (P3:Dgf K mg "is_list_of_signs" ve6 Q5 Qf)
  (Fo:Dgf K mg "checked_text" ves Q6 Qg)
  (P4:Dgf K mg "checked_bytes" ve7 Q7 Qh)
  (P5:Dgf K mg "check_most" vex Q8 Qi)
  (Oo:Dgf K mg "check_chance" vew Q9 Qj)
  (Cl:Dgf K mg "check_bit" yty Io L1)
  (Nw:Dgf K mg "gives" yum Ip L6)
  (Dn:Dgm K A6 "__init__" "Even.__init__" ytr Gf L7)
  (Gw:Dgm K A6 "chance" "Even.chance" yuz Iq L8)
  (Gy:Dgm K A6 "seen" "Even.seen" yvj Ir L9)
  (Gz:Dgm K A6 "twin" "Even.twin" yv7 Is La)
  (Do:Dgm K A5 "__init__" "Quick.__init__" yu0 Gg Lb)
  (Ha:Dgm K A5 "chance" "Quick.chance" yur Iu Lc)
  (Hb:Dgm K A5 "seen" "Quick.seen" yu8 Iv Ld)
  (Hc:Dgm K A5 "twin" "Quick.twin" yuw Iw Le)
  (Dp:Dgm K Ad "__init__" "Run.__init__" yt3 Gh Lf)
  (Hd:Dgm K Ad "chance" "Run.chance" yul Ix Lg)
  (He:Dgm K Ad "seen" "Run.seen" yvi Iy Lh)
  (Hf:Dgm K Ad "twin" "Run.twin" yvq Iz Li)
  (Ny:Dgf K mg "slot_of" yva J0 Lj)
  (Nz:Dgf K mg "is_kind" yun J1 Lk)
  (O0:Dgf K mg "is_place" yu3 J2 Ll)
  (O4:Dgf K mg "are_places" yv1 J3 Lm)
  (Hg:Dgf K mg "is_look" ytu J4 Ln)
  (Hh:Dgf K mg "checked_looks" yuo J5 Lo)
  (O5:Dgf K mg "sign_back" yvo J6 Lp)
  (O6:Dgf K mg "context_of" yt0 J7 Lq)
  (Dq:Dgm K Ab "__init__" "Book.__init__" ytl Gi Lr)
  (Hi:Dgm K Ab "slot_at" "Book.slot_at" yub J8 Ls)
  (Hj:Dgm K Ab "twin" "Book.twin" yuh J9 Lt)
  (Dr:Dgm K Be "__init__" "Mixer.__init__" ytq Gj Lu)
  (Hk:Dgm K Be "mixed" "Mixer.mixed" yu9 Ja Lv)
  (Hl:Dgm K Be "learn" "Mixer.learn" yv3 Jb Lx)
  (Hm:Dgm K Be "twin" "Mixer.twin" yuq Jc Ly)
  (Cm:Dgm K A2 "__init__" "Foreteller.__init__" yut Gk Lz)
  (Cr:Dgm K A2 "arrive" "Foreteller.arrive" yvz Jd M0)
  (Cs:Dgm K A2 "chances" "Foreteller.chances" yvy Je M4)
  (Ct:Dgm K A2 "chance" "Foreteller.chance" yt6 Jf M5)
  (C9:Dgm K A2 "see" "Foreteller.see" yvc Jg M6)
  (Hn:Dgm K A2 "step" "Foreteller.step" yvn Jh M7)
  (Ho:Dgm K A2 "step_in_sign" "Foreteller.step_in_sign" yu1 Ji M8)
  (Hq:Dgm K A2 "fork" "Foreteller.fork" yus Jj M9)
  (O7:Dgf K mg "bits_of" yv5 Jk Ma)
  (Et:Dgf K mg "decisions_of" yuy Jl Mb)
  (O8:Dgf K mg "written" ytt Jm Mc)
  (Hr:Dgf K mg "first_block" yv2 Jn Md)
  (Ds:Dgm K A4 "__init__" "Span.__init__" yuf Gm Me)
  (Dt:Dgm K A4 "cut" "Span.cut" ytn Jo Mf)
  (Du:Dgm K A4 "narrow" "Span.narrow" yux Jp Mg)
  (Hs:Dgm K A4 "holds_block" "Span.holds_block" yvb Jq Mh)
  (Dv:Dgm K A4 "told" "Span.told" yt4 Jr Mi)
  (Eu:Dgm K Ae "__init__" "Seeker.__init__" yuk Gn Mj)
  (Dw:Dgm K Ae "follow" "Seeker.follow" yts Js Ml)
  (Ht:Dgm K Ae "byte_at" "Seeker.byte_at" yto Jt Mm)
  (Hu:Dgm K Ae "bit" "Seeker.bit" yt2 Ju Mn)
  (Hv:Dgm K Ae "told" "Seeker.told" yt5 Jv Mo)
  (Ev:Dgf K mg "checked_learned" yui Jw Mq)
  (Ew:Dgf K mg "teach" yvf Jx Mr)
  (O9:Dgf K mg "rows_of" ytp Jy Ms)
  (Ss:W.nsIn K mainGlobals "foretold"=some (some (.ref Dh)))
  (Su:K.lookup Dh=some ⟨oc_q64,od_q64,.func (W.fnOf "foretold" "foretold" (wt yg0) (wd yg0) (ye yg0) (.ref Jz) kV_q64 dc_q64 pm_q64 an_q64 cd_q64 ct_q64),sl_q64⟩)
  (Pu:K.lookup Jz=some ⟨.type "tuple",Do_q64,.seq #[.none] Dn_q64,Ds_q64⟩)
  (Sv:W.codeIn K cd_q64 "foretold"=true)
  (Sw:W.keepIn K (.ref Dh)=true)
  (Ex:Dgf K mg "press_by" yt1 K1 Mu)
  (Sy:W.nsIn K mainGlobals "pressed"=some (some (.ref Di)))
  (Sz:K.lookup Di=some ⟨oc_q66,od_q66,.func (W.fnOf "pressed" "pressed" (wt ygt) (wd ygt) (ye ygt) (.ref K3) kV_q66 dc_q66 pm_q66 an_q66 cd_q66 ct_q66),sl_q66⟩)
  (Pv:K.lookup K3=some ⟨.type "tuple",Do_q66,.seq #[.none] Dn_q66,Ds_q66⟩)
  (T0:W.codeIn K cd_q66 "pressed"=true)
  (T8:W.keepIn K (.ref Di)=true)
  (Hw:Dgf K mg "bit_by" yuj K4 Mw)
  (Oa:Dgf K mg "sign_by" yu5 K5 Mx)
  (Ob:Dgf K mg "text_by" yug K6 My)
  (Hx:Dgf K mg "read_by" yvt K7 Mz)
  (T9:W.nsIn K mainGlobals "read_first"=some (some (.ref Dj)))
  (Ta:K.lookup Dj=some ⟨oc_q71,od_q71,.func (W.fnOf "read_first" "read_first" (wt ygw) (wd ygw) (ye ygw) (.ref K8) kV_q71 dc_q71 pm_q71 an_q71 cd_q71 ct_q71),sl_q71⟩)
  (Ih:K.lookup K8=some ⟨.type "tuple",Do_q71,.seq #[.int 1000 Co,.none] Dn_q71,Ds_q71⟩)
  (Tb:W.codeIn K cd_q71 "read_first"=true)
  (Tc:W.keepIn K (.ref Dj)=true)
  (Td:W.nsIn K mainGlobals "read"=some (some (.ref Dk)))
  (Te:K.lookup Dk=some ⟨oc_q72,od_q72,.func (W.fnOf "read" "read" (wt yg1) (wd yg1) (ye yg1) (.ref K9) kV_q72 dc_q72 pm_q72 an_q72 cd_q72 ct_q72),sl_q72⟩)
  (Ii:K.lookup K9=some ⟨.type "tuple",Do_q72,.seq #[.int 1000 Cp,.none] Dn_q72,Ds_q72⟩)
  (Tf:W.codeIn K cd_q72 "read"=true)
  (Tg:W.keepIn K (.ref Dk)=true)
  (Cu:Dgm K A1 "__init__" "Chain.__init__" yvh Gp N0)
  (Dx:Dgm K A1 "grow" "Chain.grow" yve Ka N2)
  (Hy:Dgm K A1 "press" "Chain.press" yt9 Kb N3)
  (Hz:Dgm K A1 "read" "Chain.read" yu2 Kc N4)
  (Dy:Dgm K A1 "size_with" "Chain.size_with" ytm Kd N5)
  (Oc:Dgf K mg "is_name" yvp Ke N6)
  (Ey:Dgf K mg "checked_name" yv0 Kg N7)
  (Od:Dgf K mg "check_base" yud Kh N8)
  (Ez:Dgm K A8 "__init__" "Piece.__init__" yua Gq N9)
  (Th:W.findIn K (.ref A0) "__init__"=some (some (.ref D8)))
  (Ti:W.isFn K (.ref D8)=true)
  (Tj:K.lookup D8=some ⟨oc_q82,od_q82,.func (W.fnOf "__init__" "Store.__init__" (wt ygu) (wd ygu) (ye ygu) (.ref Ki) kV_q82 dc_q82 pm_q82 an_q82 cd_q82 ct_q82),sl_q82⟩)
  (Pw:K.lookup Ki=some ⟨.type "tuple",Do_q82,.seq #[.int 1000 Cq] Dn_q82,Ds_q82⟩)
  (Tk:W.codeIn K cd_q82 "Store.__init__"=true)
  (Tl:W.keepIn K (.ref D8)=true)
  (Cv:Dgm K A0 "names" "Store.names" yvs Kj Nd)
  (Tm:W.findIn K (.ref A0) "put"=some (some (.ref D9)))
  (Tn:W.isFn K (.ref D9)=true)
  (Tp:K.lookup D9=some ⟨oc_q84,od_q84,.func (W.fnOf "put" "Store.put" (wt ygx) (wd ygx) (ye ygx) (.ref Kk) kV_q84 dc_q84 pm_q84 an_q84 cd_q84 ct_q84),sl_q84⟩)
  (Px:K.lookup Kk=some ⟨.type "tuple",Do_q84,.seq #[.none] Dn_q84,Ds_q84⟩)
  (Tq:W.codeIn K cd_q84 "Store.put"=true)
  (Rc:W.keepIn K (.ref D9)=true)
  (Dz:Dgm K A0 "check_length" "Store.check_length" yuv Kl Ng)
  (I0:Dgm K A0 "check_room" "Store.check_room" ytv Km Nh)
  (Ca:Dgm K A0 "piece_at" "Store.piece_at" ytz Kn Ni)
  (E4:Dgm K A0 "links_to" "Store.links_to" yvx Ko Nj)
  (Cb:Dgm K A0 "chain_to" "Store.chain_to" ytw Kp Nk)
  (I1:Dgm K A0 "texts_to" "Store.texts_to" yvm Kq Nl)
  (E5:Dgm K A0 "text_of" "Store.text_of" yvv Kr Nm)
  (Cc:Dgm K A0 "bytes_of" "Store.bytes_of" yt7 Ks Nn)
  (E6:Dgm K A0 "drop" "Store.drop" yue Kt No)
  (E7:Dgm K A0 "best_base" "Store.best_base" yvd Ku Np)
  (E8:Dgf K mg "_law_mixed" yvk Kv Nq)
  (Oe:Dgf K mg "_law_looks" yv8 Kw Nr)
  (Of:Dgf K mg "_law_text" yvu Kx Nt)
  (Og:Dgf K mg "_law_names" yup Ky Nu)
  (E9:Dgf K mg "_law_learned_of" yv4 Kz Nv)
  (Fp:Dgf K mg "_law_deed" yjx F9 Fh)
  (Fq:Dgf K mg "_law_bound" ykc Fa Fi)
  (Fr:Dgf K mg "_law_whole" yj4 Fb Fj)
  (Fs:Dgf K mg "_law_apart" yki Fc Fk)
  (Ft:Dgf K mg "_law_best" ykx Fd Fl)
  (Fu:Dgf K mg "_law_best_now" yky Fe Fm)
  (I2:Dgf K mg "law" yv6 P0 Gu)
  (Ij:KC K A6)
  (Al:FN K A6 "noughts")
  (B0:FN K A6 "ones")
  (G0:KC K A5)
  (Ao:FN K A5 "held")
  (Py:KC K Ad)
  (Bk:FN K Ad "last")
  (Ap:FN K Ad "length")
  (Ik:KC K Ab)
  (Br:FN K Ab "look")
  (Aq:FN K Ab "slots")
  (Rm:KC K Be)
  (Bz:FN K Be "kept")
  (Rn:KC K A2)
  (Av:FN K A2 "looks")
  (Bl:FN K A2 "books")
  (Bm:FN K A2 "mixer")
  (Bn:FN K A2 "ended")
  (Bo:FN K A2 "place")
  (Ar:FN K A2 "present")
  (Il:KC K A4)
  (Bp:FN K A4 "low")
  (As:FN K A4 "width")
  (B4:FN K A4 "size")
  (Ro:KC K Ae)
  (Ci:FN K Ae "data")
  (Cj:FN K Ae "span")
  (B6:FN K Ae "number")
  (At:FN K Ae "reached")
  (G8:KC K A1)
  (Aj:FN K A1 "foreteller")
  (Ax:FN K A1 "links")
  (Ay:FN K A1 "texts")
  (G9:KC K A8)
  (Ba:FN K A8 "base")
  (Bb:FN K A8 "data")
  (Ga:KC K A0)
  (Am:FN K A0 "looks")
  (Bc:FN K A0 "most")
  (Au:FN K A0 "pieces")
  (An:FN K A0 "chain")
  (Sa:XCls K Gr)
  (Rh:XMk K Gr)
  (Sb:XCls K Ff)
  (Ri:XMk K Ff)
  (I3:XCls K Az)
  (Ea:XMk K Az)
  (Sc:XCls K Dl)
  (Rj:XMk K Dl)
  (Se:XCls K Bx)
  (Rk:XMk K Bx)
  (Sf:XCls K Fg)
  (Qu:XMk K Fg)
  (Sg:XCls K Dm)
  (Pk:XMk K Dm)
  (I4:XCls K Ah)
  (Eb:XMk K Ah)
  (F6:XCls K Ai)
  (D6:XMk K Ai)
  (Oj:XCls K Aw)
  (Fv:XMk K Aw)
  (Pl:XCls K C6)
  (Ib:XMk K C6)
  (F7:XCls K A9)
  (D7:XMk K A9)
  (Ol:XCls K B8)
  (Fw:XMk K B8)
  (A7:GZ K "isinstance")
  (Om:GZ K "int")
  (Ic:GZ K "bool")
  (Af:GZ K "list")
  (Da:GZ K "all")
  (Aa:GZ K "len")
  (F8:GZ K "min")
  (I5:GZ K "max")
  (On:GZ K "str")
  (Ck:GZ K "tuple")
  (I6:GZ K "zip")
  (Ec:GZ K "sum")
  (Pm:GZ K "any")
  (Bd:GZ K "range")
  (Pn:GZ K "set")
  (R1:GV K "LEAST" (.int 32768 Fn))
  (Tr:GV K "ONE" (.int 16777216 P1))
  (Gb:GV K "MOST_SIGNS" (.int 1000 C0))
  (Gc:GV K "MOST_BYTES" (.int 12000 C1))
  (Eg:GV K "MOST_COUNTED" (.int 255 Bg))
  (Im:GV K "FARTHEST" (.int 8 Cn))
  (Eo:GV K "MOST_PLACES" (.int 4 Bt))
  (Gd:GV K "MOST_LOOKS" (.int 6 C2))
  (Ow:GV K "NO_SIGN" (.int 256 D4))
  (Eh:GV K "FIRST_WEIGHT" (.int 1099511627776 Bh))
  (I9:GV K "OWN_PARTS" (.int 31 C7))
  (Ei:GV K "MOST_FIGURES" (.int 48 Bi))
  (Ia:GV K "NODES_END" (.int 256 C8))
  (Ep:GV K "FIRST_WIDTH" (.int 1099511627776 Bu))
  (Ge:GV K "FIRST_SIZE" (.int 5 C3))
  (Er:GV K "LEAST_WIDTH" (.int 4294967296 Bv))
  (Ej:GV K "MOST_LETTERS" (.int 8 Bj))
  (Ox:GV K "LETTERS" (.str "abcdefghijklmnopqrstuvwxyz" D5))
  (Es:GV K "MOST_PIECES" (.int 60 Bw))
  (Pz:GV K "KINDS" (.ref Cg))
  (Q0:K.lookup Cg=some ⟨.type "tuple",wd_KINDS,.seq #[.str "even" wt_KINDS_0,.str "quick" wt_KINDS_1,.str "run" wt_KINDS_2] wn_KINDS,ws_KINDS⟩)
  (Oy:GV K "WORTHS" (.ref Bf))
  (Oz:K.lookup Bf=some ⟨.type "tuple",wd_WORTHS,.seq #[.int 128 wt_WORTHS_0,.int 64 wt_WORTHS_1,.int 32 wt_WORTHS_2,.int 16 wt_WORTHS_3,.int 8 wt_WORTHS_4,.int 4 wt_WORTHS_5,.int 2 wt_WORTHS_6,.int 1 wt_WORTHS_7] wn_WORTHS,ws_WORTHS⟩)
 :∃fd:FuncData,(∀(s:qa)(v:qb),BindsTo s fd ⟨[v],[]⟩ [("_law_script",v)])/\∀Γ:qf,K.In Γ->Γ.Ns mainGlobals mg->vz l.prog w K mg Γ CX0 16 fa fd ["_law_script"] (ye9 K):=by
 have zg{x v}:=@W.mg_of _ _ _ x v X G;have zh{x}:=@W.mg_none_of _ _ _ x X G
 have e:=hfa.symm.trans I2.m;cases e;have d:=ã (st:=yg0) Su Sv Sw;have g:=ã (st:=ygt) Sz T0 T8;have b:=ã (st:=ygw) Ta Tb Tc;have a:=ã (st:=yg1) Te Tf Tg;have c:=ã (st:=ygu) Tj Tk Tl;have f:=ã (st:=ygx) Tp Tq Rc;have T:Txt K mg ⟨Q1,Q2,Q3,Q4,Q5,Q6,Q7,Q8,Q9,Io,Ip,Gf,Iq,Ir,Is,Gg,Iu,Iv,Iw,Gh,Ix,Iy,Iz,J0,J1,J2,J3,J4,J5,J6,J7,Gi,J8,J9,Gj,Ja,Jb,Jc,Gk,Jd,Je,Jf,Jg,Jh,Ji,Jj,Jk,Jl,Jm,Jn,Gm,Jo,Jp,Jq,Jr,Gn,Js,Jt,Ju,Jv,Jw,Jx,Jy,Dh,Jz,K1,Di,K3,K4,K5,K6,K7,Dj,K8,Dk,K9,Gp,Ka,Kb,Kc,Kd,Ke,Kg,Kh,Gq,D8,Ki,Kj,D9,Kk,Kl,Km,Kn,Ko,Kp,Kq,Kr,Ks,Kt,Ku,Kv,Kw,Kx,Ky,Kz,F9,Fa,Fb,Fc,Fd,Fe,fa,A6,A5,Ad,Ab,Be,A2,A4,Ae,A1,A8,A0,Gr,Ff,Az,Dl,Bx,Fg,Dm,Ah,Ai,Aw,C6,A9,B8,Cg,Bf,Qa,Qc,Qd,Qe,Qf,Qg,Qh,Qi,Qj,L1,L6,L7,L8,L9,La,Lb,Lc,Ld,Le,Lf,Lg,Lh,Li,Lj,Lk,Ll,Lm,Ln,Lo,Lp,Lq,Lr,Ls,Lt,Lu,Lv,Lx,Ly,Lz,M0,M4,M5,M6,M7,M8,M9,Ma,Mb,Mc,Md,Me,Mf,Mg,Mh,Mi,Mj,Ml,Mm,Mn,Mo,Mq,Mr,Ms,_,Mu,_,Mw,Mx,My,Mz,_,_,N0,N2,N3,N4,N5,N6,N7,N8,N9,_,Nd,_,Ng,Nh,Ni,Nj,Nk,Nl,Nm,Nn,No,Np,Nq,Nr,Nt,Nu,Nv,Fh,Fi,Fj,Fk,Fl,Fm,Gu,Co,Cp,Cq,Fn,P1,C0,C1,Bg,Cn,Bt,C2,D4,Bh,C7,Bi,C8,Bu,C3,Bv,Bj,D5,Bw⟩:=⟨
  Gv.d1,
  Qk.d1,
  Ql.d1,
  Qm.d1,
  P3.d2,
  Fo.d1,
  P4.d1,
  P5.d1,
  Oo.d1,
  Cl.d1,
  Nw.d2,
  Dn.d1,
  Gw.d1,
  Gy.d2,
  Gz.d1,
  Do.d1,
  Ha.d1,
  Hb.d2,
  Hc.d1,
  Dp.d1,
  Hd.d1,
  He.d2,
  Hf.d1,
  Ny.d1,
  Nz.d1,
  O0.d1,
  O4.d1,
  Hg.d1,
  Hh.d1,
  O5.d2,
  O6.d3,
  Dq.d2,
  Hi.d3,
  Hj.d1,
  Dr.d2,
  Hk.d2,
  Hl.d3,
  Hm.d1,
  Cm.d2,
  Cr.d1,
  Cs.d1,
  Ct.d1,
  C9.d2,
  Hn.d2,
  Ho.d2,
  Hq.d1,
  O7.d1,
  Et.d1,
  O8.d2,
  Hr.d2,
  Ds.d1,
  Dt.d2,
  Du.d3,
  Hs.d2,
  Dv.d1,
  Eu.d2,
  Dw.d1,
  Ht.d2,
  Hu.d2,
  Hv.d1,
  Ev.d1,
  Ew.d2,
  O9.d3,
  d,
  ê.binds (ps:=["looks","text","learned"]) (ds:=[.none]) (j:=2) rfl d Pu rfl λZ Z Z Z Z Z Z Z=>Exists.intro _ ⟨rfl,rfl⟩,
  ê.binds (ps:=["looks","text","learned"]) (ds:=[]) (j:=3) rfl d Pu rfl λZ Z Z Z Z Z Z Z Z=>Exists.intro _ ⟨rfl,rfl⟩,
  zg Ss,
  Ex.d2,
  g,
  ê.binds (ps:=["looks","text","learned"]) (ds:=[.none]) (j:=2) rfl g Pv rfl λZ Z Z Z Z Z Z Z=>Exists.intro _ ⟨rfl,rfl⟩,
  ê.binds (ps:=["looks","text","learned"]) (ds:=[]) (j:=3) rfl g Pv rfl λZ Z Z Z Z Z Z Z Z=>Exists.intro _ ⟨rfl,rfl⟩,
  zg Sy,
  Hw.d2,
  Oa.d2,
  Ob.d3,
  Hx.d3,
  b,
  ê.binds (ps:=["looks","data","most","learned"]) (ds:=[.none]) (j:=3) rfl b Ih rfl λZ Z Z Z Z Z Z Z Z=>Exists.intro _ ⟨rfl,rfl⟩,
  ê.binds (ps:=["looks","data","most","learned"]) (ds:=[.int 1000 Co,.none]) (j:=2) rfl b Ih rfl λZ Z Z Z Z Z Z Z=>Exists.intro _ ⟨rfl,rfl⟩,
  ê.binds (ps:=["looks","data","most","learned"]) (ds:=[]) (j:=4) rfl b Ih rfl λZ Z Z Z Z Z Z Z Z Z=>Exists.intro _ ⟨rfl,rfl⟩,
  zg T9,
  a,
  ê.binds (ps:=["looks","data","most","learned"]) (ds:=[.none]) (j:=3) rfl a Ii rfl λZ Z Z Z Z Z Z Z Z=>Exists.intro _ ⟨rfl,rfl⟩,
  ê.binds (ps:=["looks","data","most","learned"]) (ds:=[.int 1000 Cp,.none]) (j:=2) rfl a Ii rfl λZ Z Z Z Z Z Z Z=>Exists.intro _ ⟨rfl,rfl⟩,
  ê.binds (ps:=["looks","data","most","learned"]) (ds:=[]) (j:=4) rfl a Ii rfl λZ Z Z Z Z Z Z Z Z Z=>Exists.intro _ ⟨rfl,rfl⟩,
  zg Td,
  Cu.d2,
  Dx.d3,
  Hy.d3,
  Hz.d4,
  Dy.d2,
  Oc.d1,
  Ey.d1,
  Od.d1,
  Ez.d3,
  c,
  ê.binds (ps:=["self","looks","most"]) (ds:=[.int 1000 Cq]) (j:=2) rfl c Pw rfl λZ Z Z Z Z Z Z Z=>Exists.intro _ ⟨rfl,rfl⟩,
  ê.binds (ps:=["self","looks","most"]) (ds:=[]) (j:=3) rfl c Pw rfl λZ Z Z Z Z Z Z Z Z=>Exists.intro _ ⟨rfl,rfl⟩,
  Cv.d1,
  f,
  ê.binds (ps:=["self","name","text","base"]) (ds:=[.none]) (j:=3) rfl f Px rfl λZ Z Z Z Z Z Z Z Z=>Exists.intro _ ⟨rfl,rfl⟩,
  ê.binds (ps:=["self","name","text","base"]) (ds:=[]) (j:=4) rfl f Px rfl λZ Z Z Z Z Z Z Z Z Z=>Exists.intro _ ⟨rfl,rfl⟩,
  ⟨Tm,Tn,Rc⟩,
  Dz.d2,
  I0.d3,
  Ca.d2,
  E4.d2,
  Cb.d2,
  I1.d2,
  E5.d2,
  Cc.d2,
  E6.d2,
  E7.d2,
  E8.d2,
  Oe.d2,
  Of.d3,
  Og.d1,
  E9.d2,
  Fp.d5,
  Fq.d2,
  Fr.d6,
  Fs.d2,
  Ft.d3,
  Fu.d4,
  I2.d1,
  Ij.cls,
  zg Qx,
  ⟨Ij.mk',Dn.m.1,Dn.m.2,Ij.kc⟩,
  Al,
  B0,
  G0.cls,
  zg Po,
  ⟨G0.mk',Do.m.1,Do.m.2,G0.kc⟩,
  Ao,
  Py.cls,
  zg Rl,
  ⟨Py.mk',Dp.m.1,Dp.m.2,Py.kc⟩,
  Bk,
  Ap,
  Ik.cls,
  zg Qy,
  ⟨Ik.mk',Dq.m.1,Dq.m.2,Ik.kc⟩,
  Br,
  Aq,
  Rm.cls,
  zg Sh,
  ⟨Rm.mk',Dr.m.1,Dr.m.2,Rm.kc⟩,
  Bz,
  Rn.cls,
  zg Si,
  ⟨Rn.mk',Cm.m.1,Cm.m.2,Rn.kc⟩,
  Av,
  Bl,
  Bm,
  Bn,
  Bo,
  Ar,
  Il.cls,
  zg Qz,
  ⟨Il.mk',Ds.m.1,Ds.m.2,Il.kc⟩,
  Bp,
  As,
  B4,
  Ro.cls,
  zg Sj,
  ⟨Ro.mk',Eu.m.1,Eu.m.2,Ro.kc⟩,
  Ci,
  Cj,
  B6,
  At,
  G8.cls,
  zg Pp,
  ⟨G8.mk',Cu.m.1,Cu.m.2,G8.kc⟩,
  Aj,
  Ax,
  Ay,
  G9.cls,
  zg Pq,
  ⟨G9.mk',Ez.m.1,Ez.m.2,G9.kc⟩,
  Ba,
  Bb,
  Ga.cls,
  zg Pr,
  ⟨Ga.mk',Th,Ti,Ga.kc⟩,
  Am,
  Bc,
  Au,
  An,
  zg Sk,
  zg Sl,
  zg Ou,
  zg Sm,
  zg So,
  zg Sq,
  zg Sr,
  zg Ov,
  zg If,
  zg Ps,
  zg R0,
  zg Ig,
  zg Pt,
  Sa,
  Rh,
  Sb,
  Ri,
  I3,
  Ea,
  Sc,
  Rj,
  Se,
  Rk,
  Sf,
  Qu,
  Sg,
  Pk,
  I4,
  Eb,
  F6,
  D6,
  Oj,
  Fv,
  Pl,
  Ib,
  F7,
  D7,
  Ol,
  Fw,
  zh A7,
  zh Om,
  zh Ic,
  zh Af,
  zh Da,
  zh Aa,
  zh F8,
  zh I5,
  zh On,
  zh Ck,
  zh I6,
  zh Ec,
  zh Pm,
  zh Bd,
  zh Pn,
  zg R1,
  zg Tr,
  zg Gb,
  zg Gc,
  zg Eg,
  zg Im,
  zg Eo,
  zg Gd,
  zg Ow,
  zg Eh,
  zg I9,
  zg Ei,
  zg Ia,
  zg Ep,
  zg Ge,
  zg Er,
  zg Ej,
  zg Ox,
  zg Es,
  zg Pz,
  λH=>.inr ⟨_,_,_,Q0,rfl,rfl,(by show 3<=sizeLine;decide),(.cons ⟨_,rfl⟩ (.cons ⟨_,rfl⟩ (.cons ⟨_,rfl⟩ .nil)))⟩,
  zg Oy,
  λH=>.inr ⟨_,_,_,Oz,rfl,rfl,(by show 8<=sizeLine;decide),(.cons ⟨_,rfl⟩ (.cons ⟨_,rfl⟩ (.cons ⟨_,rfl⟩ (.cons ⟨_,rfl⟩ (.cons ⟨_,rfl⟩ (.cons ⟨_,rfl⟩ (.cons ⟨_,rfl⟩ (.cons ⟨_,rfl⟩ .nil))))))))⟩⟩
 exists Gu,λs v=>?_,λΓ Z Z=>yx9 T;let⟨_,_,_,_,_,_,_,_,_,rfl,_,_⟩:=I2.F.ex;exact .of_eq rfl
def walk{l:W.OpenLaw}{q:qh}{loose:Τ}{XP:(Ε)->qf->Prop}{YP:qd->qf->Prop}{d:DefRec}{K:Params->xr}(hn:l.most=some 63)(hdf:d.params.defaults=[])
  (hY:∀(w:qd)(h:qf),YP w h->(K w.params).In h)
  (F:∀(w:qd)(mg:Ε)(fa:x0)(h:qf),(K w.params).In h->h.Ns mainGlobals mg->mg d.name=some (.ref fa) ->
   ∃fd:FuncData,(∀(s:qa)(u:qb),BindsTo s fd ⟨[u],[]⟩ [("_law_script",u)])/\∀Γ:qf,(K w.params).In Γ->Γ.Ns mainGlobals mg->vz l.prog w (K w.params) mg Γ CX0 16 fa fd ["_law_script"] (ye9 (K w.params))):
  W.WalkO q loose XP YP l.row.toRowW d [] (λf vs=>PySem.call f vs) :=
 L2.walk_of (n:=63) (k:=16) (x:="_law_script") (CX:=λZ=>CX0) (sp:=λw=>ye9 (K w.params)) hn (by decide) hdf ⟨rfl,by decide,by decide⟩ hY F (λZ Z a e c Z b=>⟨a,e,rfl,b,c,λZ=>rfl⟩) λZ Z Z Z Z z=>z
end Law
end
open PySem PySem.W PyProof.Rows
set_option maxRecDepth 100000 in
set_option maxHeartbeats 0 in
theorem PySem.Challenge.cw_foretell_k92_whole_store_holds : PySem.Challenge.rw_foretell_k92_whole_store.Holds := by
 refine H0.2 ?_
 unfold H0
 dsimp only []
 k_fill
 refine Law.walk (l := PySem.Challenge.rw_foretell_k92_whole_store) rfl rfl (fun w h Y => PySem.W.kIn_of Y) ?F
 case F =>
  intro w mg fa h KX G hmg
  refine' Law.all_mk KX G hmg ..
  any_goals first | (refine' L2.dgf_mk KX G ?_ ?_ ?_ ?_; any_goals k_is; done) | (refine' L2.dgm_mk ?_ ?_ ?_ ?_ ?_; any_goals k_is; done) | (refine' L2.XCls.mk ?_ ?_ ?_ ?_ ?_ ?_ ?_ ?_ <;> k_is) | (refine' L2.KC.mk ?_ ?_ ?_ ?_ ?_ ?_ <;> k_is) | k_is | kit_is | k_exc | (with_reducible show _ = _; first | k_is | k_exc)
#print axioms PySem.Challenge.cw_foretell_k92_whole_store_holds
